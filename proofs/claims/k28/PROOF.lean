import PyProof.Rows.All
import Wide.All
import OpenK.AllK
import Wide.FinOn
import HandS.ForMost
import HandS.ForExc
import HandS.IsInst
import HandS.CallSlots
import HandS.Flow
import HandS.ExcInit
import HandS.TryMany
import HandS.NoneIn
import HandS.TupAny
import HandS.TupMul
import HandS.Star
import HandS.Zip
import HandS.StrMore
import HandS.Wide
import HandS.WideBits
import PyProof.StrOps2
import HandS.Replace
import HandS.AnyAll
import HandS.GenList
import HandS.EndTab
import HandS.Defaults
import HandS.ExcField
import HandS.ExcIs
import KE.KExcInit
import KE.KExcIs
import HandS.HeadHook4
import HandS.HeadWalk
import HandS.Head2
import HandS.NestedK
import HandS.Conv
import HandS.Style
import PyProof.FString3
import PyProof.Rows.StrIntSpec
import HandS.FStr
import HandS.Text
import HandS.Dict
import KE.KItemsList
import KE.KDictZip
import KE.KDictCopyH
import KE.KDictKeyed
import PyProof.FactsAll.dict_4
import HandS.SortRule
import HandS.ListItems
import KE.DataMinMax
import HandS.RaiseMore
import KE.KIntText
import PyProof.StrLawsFrom
import HandS.Deep
import KE.IntBitsLaws
import KE.BitLaws
import PySem.Challenge.RW_leafway_k28_whole_unlike_places_found_by
set_option Elab.async false
set_option linter.all false
set_option maxRecDepth 100000
set_option maxHeartbeats 4000000
section
set_option Elab.async false
set_option linter.all false
set_option maxRecDepth 100000
/-! Denotations: a total reading of a small Python over data, tied to the rules of the hand layer. -/
namespace Dn
open PySem PySem.Spec PyProof.Rows L2

/-- data: texts by their codes, tuples and unchanged lists by their parts, changed lists by a place of the store, a list that is only read -/
inductive D where
  | non
  | bl (b : Bool)
  | int (i : Int)
  | str (s : List Nat)
  | tup (xs : List D)
  | lst (xs : List D)
  | rol (xs : List D)
  | cell (n : Nat)
  | ktp (xs : List D)
  | dic (n : Nat)
  | xz (c : Nat)
  | xo (c : Nat) (d : D)

inductive Cell where
  | lst (xs : List D)
  | dK (kvs : List (Key × D))
  | dT (kvs : List (List Key × D))
abbrev Sto := List Cell
/-- an exception: the number of its class, what it keeps -/
structure Ex where
  c : Nat
  arg : Option D
inductive Rs (α : Type) where
  | ok (a : α) (st : Sto)
  | ex (x : Ex) (st : Sto)
  | no
def Rs.bind {α β : Type} (r : Rs α) (k : α → Sto → Rs β) : Rs β := match r with
  | .ok a st => k a st
  | .ex x st => .ex x st
  | .no => .no

/-- what hangs on the program: the written part, the classes of exceptions by number, the attribute that they keep -/
structure Gm where
  K : PySem.W.Frag
  ce : Nat → Option Addr
  fe : Nat → Str
  tb : List Addr

/-- what no step changes -/
def fixO : HO → Bool
  | .tup _ => true
  | .frz _ _ => true
  | .xd _ => true
  | .ext _ => true
  | _ => false

/-- a table of code objects, that may grow -/
def isTb : HO → Bool
  | .tbl _ => true
  | _ => false

/-- the addresses of the store's places; those of lists that stay as they are -/
structure Pl where
  ρ : List Addr
  F : Addr → Prop
  δ : Addr → Bool
/-- what data lean on is kept -/
structure Kp (π : Pl) (H : Hp) (π' : Pl) (H' : Hp) : Prop where
  fix : ∀ p o, H p = some o → fixO o = true → H' p = some o
  frz : ∀ p o, π.F p → H p = some o → H' p = some o
  pre : ∀ (n : Nat) (p : Addr), π.ρ[n]? = some p → π'.ρ[n]? = some p
  fr : ∀ p, π.F p → π'.F p
  kd : ∀ (n : Nat) (p : Addr), π.ρ[n]? = some p → π'.δ p = π.δ p
structure Ext (π : Pl) (H : Hp) (π' : Pl) (H' : Hp) : Prop extends Kp π H π' H' where
  keep : ∀ p o, H p = some o → isTb o = false → p ∉ π.ρ → H' p = some o
  there : ∀ p, H' p = none → H p = none
  newR : ∀ q, q ∈ π'.ρ → q ∈ π.ρ ∨ H q = none
  newF : ∀ q, π'.F q → π.F q ∨ H q = none
theorem Ext.refl {π : Pl} {H : Hp} : Ext π H π H :=
  { fix := fun _ _ h _ => h, frz := fun _ _ _ h => h, pre := fun _ _ h => h, fr := fun _ h => h, kd := fun _ _ _ => rfl, keep := fun _ _ h _ _ => h, there := fun _ h => h, newR := fun _ h => .inl h, newF := fun _ h => .inl h }
theorem Ext.trans {π π1 π2 : Pl} {H H1 H2 : Hp} (a : Ext π H π1 H1) (b : Ext π1 H1 π2 H2) : Ext π H π2 H2 where
  keep := fun p o h t n => b.keep p o (a.keep p o h t n) t fun m => (a.newR p m).elim n fun z => by rw [h] at z; cases z
  there := fun p h => a.there p (b.there p h)
  fix := fun p o h f => b.fix p o (a.fix p o h f) f
  frz := fun p o f h => b.frz p o (a.fr p f) (a.frz p o f h)
  pre := fun n p h => b.pre n p (a.pre n p h)
  fr := fun p h => b.fr p (a.fr p h)
  kd := fun n p h => (b.kd n p (a.pre n p h)).trans (a.kd n p h)
  newR := fun q h => (b.newR q h).elim (fun m => a.newR q m) fun z => .inr (a.there q z)
  newF := fun q h => (b.newF q h).elim (fun m => a.newF q m) fun z => .inr (a.there q z)

/-- a list that is only read: locked, or of the written part -/
def Rol (Γ : Gm) (π : Pl) (H : Hp) (p : Addr) (vs : List V) : Prop :=
  ((∃ o, H p = some (.frz o (.lst vs))) ∨ (H p = some (.lst vs) ∧ π.F p)) ∨
    ∃ (o : Obj) (its : Array Value) (n : Nat), Γ.K.lookup p = some o ∧ o.cls = .type "list" ∧ o.dict = none ∧ o.data = .seq its n ∧ its.size ≤ sizeLine ∧ Vals vs its.toList
theorem Rol.sq {Γ : Gm} {π : Pl} {H : Hp} {p : Addr} {vs : List V} (h : Rol Γ π H p vs) : SqL Γ.K H p vs := by
  rcases h with (h | h) | h
  · exact .inl (.inr h)
  · exact SqL.of h.1
  · exact .inr h
mutual
def Rep (Γ : Gm) (π : Pl) (H : Hp) (v : V) : D → Prop
  | .non => v = .non
  | .bl b => v = .bl b
  | .int i => v = .int i
  | .str l => v = .str ⟨⟨l⟩⟩
  | .tup ds => ∃ p vs, v = .ref p ∧ H p = some (.tup vs) ∧ RepL Γ π H vs ds
  | .ktp ds => ∃ p vs, v = .ref p ∧ SqT Γ.K H p vs ∧ RepL Γ π H vs ds
  | .lst ds => ∃ p vs, v = .ref p ∧ H p = some (.lst vs) ∧ π.F p ∧ RepL Γ π H vs ds
  | .rol ds => ∃ p vs, v = .ref p ∧ Rol Γ π H p vs ∧ RepL Γ π H vs ds
  | .cell n => ∃ p, v = .ref p ∧ π.ρ[n]? = some p ∧ π.δ p = false
  | .dic n => ∃ p, v = .ref p ∧ π.ρ[n]? = some p ∧ π.δ p = true
  | .xz c => ∃ p C, v = .ref p ∧ Γ.ce c = some C ∧ H p = some (exo p C none)
  | .xo c d => ∃ p C dd w, v = .ref p ∧ Γ.ce c = some C ∧ H p = some (exo p C (some dd)) ∧ H dd = some (exd dd [(Γ.fe c, w)]) ∧ Rep Γ π H w d
def RepL (Γ : Gm) (π : Pl) (H : Hp) (vs : List V) : List D → Prop
  | [] => vs = []
  | d :: ds => ∃ v vr, vs = v :: vr ∧ Rep Γ π H v d ∧ RepL Γ π H vr ds
end
section
variable {Γ : Gm} {π π' : Pl} {H H' : Hp}
theorem rd_tup {a : Addr} {vs : List V} (e : Kp π H π' H') (h : Rd H a (.tup vs)) : Rd H' a (.tup vs) := by
  rcases h with h | ⟨o, h⟩
  · exact .inl (e.fix _ _ h rfl)
  · exact .inr ⟨o, e.fix _ _ h rfl⟩
theorem sqT_ext {K : PySem.W.Frag} {a : Addr} {vs : List V} (e : Kp π H π' H') (h : SqT K H a vs) : SqT K H' a vs := by
  rcases h with h | h
  · exact .inl (rd_tup e h)
  · exact .inr h
theorem Rol.ext {a : Addr} {vs : List V} (e : Kp π H π' H') (h : Rol Γ π H a vs) : Rol Γ π' H' a vs := by
  rcases h with (⟨o, h⟩ | ⟨h, f⟩) | h
  · exact .inl (.inl ⟨o, e.fix _ _ h rfl⟩)
  · exact .inl (.inr ⟨e.frz _ _ f h, e.fr _ f⟩)
  · exact .inr h
mutual
theorem Rep.ext (e : Kp π H π' H') : ∀ {v : V} {d : D}, Rep Γ π H v d → Rep Γ π' H' v d
  | _, .non, h => h
  | _, .bl _, h => h
  | _, .int _, h => h
  | _, .str _, h => h
  | _, .tup _, ⟨p, vs, a, b, c⟩ => ⟨p, vs, a, e.fix _ _ b rfl, RepL.ext e c⟩
  | _, .ktp _, ⟨p, vs, a, b, c⟩ => ⟨p, vs, a, sqT_ext e b, RepL.ext e c⟩
  | _, .lst _, ⟨p, vs, a, b, n, c⟩ => ⟨p, vs, a, e.frz _ _ n b, e.fr _ n, RepL.ext e c⟩
  | _, .rol _, ⟨p, vs, a, b, c⟩ => ⟨p, vs, a, b.ext e, RepL.ext e c⟩
  | _, .cell _, ⟨p, a, b, c⟩ => ⟨p, a, e.pre _ _ b, (e.kd _ _ b).trans c⟩
  | _, .dic _, ⟨p, a, b, c⟩ => ⟨p, a, e.pre _ _ b, (e.kd _ _ b).trans c⟩
  | _, .xz _, ⟨p, C, a, b, c⟩ => ⟨p, C, a, b, e.fix _ _ c rfl⟩
  | _, .xo _ _, ⟨p, C, dd, w, a, b, c, d, r⟩ => ⟨p, C, dd, w, a, b, e.fix _ _ c rfl, e.fix _ _ d rfl, Rep.ext e r⟩
theorem RepL.ext (e : Kp π H π' H') : ∀ {vs : List V} {ds : List D}, RepL Γ π H vs ds → RepL Γ π' H' vs ds
  | _, [], h => h
  | _, _ :: _, ⟨v, vr, a, b, c⟩ => ⟨v, vr, a, Rep.ext e b, RepL.ext e c⟩
end
theorem RepL.length : ∀ {vs : List V} {ds : List D}, RepL Γ π H vs ds → vs.length = ds.length
  | vs, [], h => by
    have e : vs = [] := h
    rw [e]; rfl
  | _, _ :: _, ⟨v, vr, a, b, c⟩ => by rw [a, List.length_cons, List.length_cons, RepL.length c]
theorem RepL.get : ∀ {vs : List V} {ds : List D} {i : Nat} {d : D}, RepL Γ π H vs ds → ds[i]? = some d → ∃ v, vs[i]? = some v ∧ Rep Γ π H v d
  | _, [], _, _, _, h => by simp at h
  | _, _ :: _, 0, d, ⟨v, vr, a, b, c⟩, h => by
    have e : _ = d := Option.some.inj h
    subst e; subst a
    exact ⟨v, rfl, b⟩
  | _, _ :: _, i + 1, d, ⟨v, vr, a, b, c⟩, h => by
    subst a
    exact RepL.get (i := i) c h
theorem RepL.append : ∀ {vs ws : List V} {ds es : List D}, RepL Γ π H vs ds → RepL Γ π H ws es → RepL Γ π H (vs ++ ws) (ds ++ es)
  | _, _, [], _, h, k => by rw [show _ = [] from h]; exact k
  | _, _, _ :: _, _, ⟨v, vr, a, b, c⟩, k => by subst a; exact ⟨v, _, rfl, b, RepL.append c k⟩
theorem RepL.take : ∀ {vs : List V} {ds : List D} (n : Nat), RepL Γ π H vs ds → RepL Γ π H (vs.take n) (ds.take n)
  | _, _, 0, _ => by rw [List.take_zero, List.take_zero]; exact rfl
  | _, [], n + 1, h => by rw [show _ = [] from h]; exact rfl
  | _, _ :: _, n + 1, ⟨v, vr, a, b, c⟩ => by subst a; exact ⟨v, _, rfl, b, RepL.take n c⟩
theorem RepL.drop : ∀ {vs : List V} {ds : List D} (n : Nat), RepL Γ π H vs ds → RepL Γ π H (vs.drop n) (ds.drop n)
  | _, _, 0, h => h
  | _, [], n + 1, h => by rw [show _ = [] from h]; exact rfl
  | _, _ :: _, n + 1, ⟨v, vr, a, b, c⟩ => by subst a; exact RepL.drop n c
theorem RepL.set : ∀ {vs : List V} {ds : List D} {v : V} {d : D} (i : Nat), RepL Γ π H vs ds → Rep Γ π H v d → RepL Γ π H (vs.set i v) (ds.set i d)
  | _, [], _, _, _, h, _ => by rw [show _ = [] from h]; exact rfl
  | _, _ :: _, _, _, 0, ⟨v, vr, a, b, c⟩, r => by subst a; exact ⟨_, _, rfl, r, c⟩
  | _, _ :: _, _, _, i + 1, ⟨v, vr, a, b, c⟩, r => by subst a; exact ⟨_, _, rfl, b, RepL.set i c r⟩
theorem RepL.reverse : ∀ {vs : List V} {ds : List D}, RepL Γ π H vs ds → RepL Γ π H vs.reverse ds.reverse
  | _, [], h => by rw [show _ = [] from h]; exact rfl
  | _, _ :: _, ⟨v, vr, a, b, c⟩ => by
    subst a
    rw [List.reverse_cons, List.reverse_cons]
    exact RepL.append (RepL.reverse c) ⟨v, [], rfl, b, rfl⟩
theorem RepL.rep {v : V} {d : D} (r : Rep Γ π H v d) : ∀ n : Nat, RepL Γ π H (List.replicate n v) (List.replicate n d)
  | 0 => rfl
  | n + 1 => ⟨v, _, rfl, r, RepL.rep r n⟩
theorem RepL.ints : ∀ (ns : List Int), RepL Γ π H (ns.map V.int) (ns.map D.int)
  | [] => rfl
  | _ :: ns => ⟨_, _, rfl, rfl, RepL.ints ns⟩
end

/-- pairs, their keys as they are -/
def KvR {κ : Type} (Γ : Gm) (π : Pl) (H : Hp) (ws : List (κ × V)) (kvs : List (κ × D)) : Prop := ws.map Prod.fst = kvs.map Prod.fst ∧ RepL Γ π H (ws.map Prod.snd) (kvs.map Prod.snd)
theorem KvR.ext {κ : Type} {Γ : Gm} {π π' : Pl} {H H' : Hp} {ws : List (κ × V)} {kvs : List (κ × D)} (e : Kp π H π' H') (h : KvR Γ π H ws kvs) : KvR Γ π' H' ws kvs := ⟨h.1, h.2.ext e⟩
/-- a place of the store -/
def CellR (Γ : Gm) (π : Pl) (H : Hp) (p : Addr) : Cell → Prop
  | .lst ds => π.δ p = false ∧ ∃ vs, H p = some (.lst vs) ∧ RepL Γ π H vs ds
  | .dK kvs => π.δ p = true ∧ ∃ ws, H p = some (.dK ws) ∧ KvR Γ π H ws kvs
  | .dT kvs => π.δ p = true ∧ ∃ ws, H p = some (.dT ws) ∧ KvR Γ π H ws kvs
structure StR (Γ : Gm) (π : Pl) (H : Hp) (st : Sto) : Prop where
  nd : π.ρ.Nodup
  len : π.ρ.length = st.length
  at_ : ∀ (n : Nat) (p : Addr) (c : Cell), π.ρ[n]? = some p → st[n]? = some c → CellR Γ π H p c
  frz : ∀ p, π.F p → p ∉ π.ρ ∧ ∃ xs, H p = some (.lst xs)
  tab : ∀ P, P ∈ Γ.tb → ∃ ps : Array Value, H P = some (.tbl ps) ∧ TriplesOk ps.toList
  dn : ∀ p, π.δ p = true → p ∈ π.ρ
section
variable {Γ : Gm} {π π' : Pl} {H H' : Hp} {st : Sto}
theorem StR.cell_at {p : Addr} (S : StR Γ π H st) (h : p ∈ π.ρ) : ∃ c, CellR Γ π H p c := by
  obtain ⟨n, hn, e⟩ := List.getElem_of_mem h
  have h2 : n < st.length := by rw [← S.len]; exact hn
  exact ⟨st[n], S.at_ n p st[n] (by rw [List.getElem?_eq_getElem hn, e]) (List.getElem?_eq_getElem h2)⟩
theorem StR.lst {p : Addr} (S : StR Γ π H st) (h : p ∈ π.ρ) (hd : π.δ p = false) : ∃ vs, H p = some (.lst vs) := by
  obtain ⟨c, q⟩ := S.cell_at h
  cases c with
  | lst ds => obtain ⟨_, vs, q, _⟩ := q; exact ⟨vs, q⟩
  | dK _ => have := q.1; rw [hd] at this; cases this
  | dT _ => have := q.1; rw [hd] at this; cases this
theorem StR.fresh {p : Addr} (S : StR Γ π H st) (hp : H p = none) : p ∉ π.ρ := fun h => by
  obtain ⟨c, q⟩ := S.cell_at h
  cases c with
  | lst _ => obtain ⟨_, vs, q, _⟩ := q; rw [hp] at q; cases q
  | dK _ => obtain ⟨_, vs, q, _⟩ := q; rw [hp] at q; cases q
  | dT _ => obtain ⟨_, vs, q, _⟩ := q; rw [hp] at q; cases q
theorem StR.isL {p : Addr} {vs : List V} (S : StR Γ π H st) (h : p ∈ π.ρ) (hp : H p = some (.lst vs)) : π.δ p = false := by
  obtain ⟨c, q⟩ := S.cell_at h
  cases c with
  | lst _ => exact q.1
  | dK _ => obtain ⟨_, vs, q, _⟩ := q; rw [hp] at q; cases q
  | dT _ => obtain ⟨_, vs, q, _⟩ := q; rw [hp] at q; cases q
theorem StR.noD {p : Addr} (S : StR Γ π H st) (h : p ∉ π.ρ) : π.δ p = false := by
  cases e : π.δ p with
  | false => rfl
  | true => exact absurd (S.dn p e) h
theorem StR.notTb {p : Addr} {o : HO} (S : StR Γ π H st) (h : p ∈ π.ρ) (q : H p = some o) : isTb o = false := by
  obtain ⟨c, z⟩ := S.cell_at h
  cases c with
  | lst _ => obtain ⟨_, vs, z, _⟩ := z; rw [q] at z; cases z; rfl
  | dK _ => obtain ⟨_, vs, z, _⟩ := z; rw [q] at z; cases z; rfl
  | dT _ => obtain ⟨_, vs, z, _⟩ := z; rw [q] at z; cases z; rfl
theorem StR.freshF {p : Addr} (S : StR Γ π H st) (hp : H p = none) : ¬ π.F p := fun h => by
  obtain ⟨_, vs, q⟩ := S.frz p h
  rw [hp] at q; cases q
/-- a new object that is no place of the store -/
theorem ext_new {p : Addr} {o : HO} (hp : H p = none) : Ext π H π (upd H p o) :=
  { fix := fun b u e _ => by rw [upd_ne (ne_of_none e hp)]; exact e
    frz := fun b u _ e => by rw [upd_ne (ne_of_none e hp)]; exact e
    pre := fun _ _ h => h
    fr := fun _ h => h
    kd := fun _ _ _ => rfl
    keep := fun b u e _ _ => by rw [upd_ne (ne_of_none e hp)]; exact e
    there := fun b e => by
      by_cases z : b = p
      · rw [z, upd_same] at e; cases e
      · rw [upd_ne z] at e; exact e
    newR := fun _ h => .inl h
    newF := fun _ h => .inl h }
theorem CellR.ext {n : Nat} {p : Addr} {c : Cell} (e : Kp π H π' H') (hn : π.ρ[n]? = some p) (hp : ∀ o, H p = some o → H' p = some o) (h : CellR Γ π H p c) : CellR Γ π' H' p c := by
  cases c with
  | lst ds =>
    obtain ⟨d, vs, a, b⟩ := h
    exact ⟨(e.kd n p hn).trans d, vs, hp _ a, b.ext e⟩
  | dK ds =>
    obtain ⟨d, vs, a, b⟩ := h
    exact ⟨(e.kd n p hn).trans d, vs, hp _ a, b.ext e⟩
  | dT ds =>
    obtain ⟨d, vs, a, b⟩ := h
    exact ⟨(e.kd n p hn).trans d, vs, hp _ a, b.ext e⟩
theorem StR.new {p : Addr} {o : HO} (S : StR Γ π H st) (hp : H p = none) : StR Γ π (upd H p o) st :=
  ⟨S.nd, S.len, fun n q c h1 h2 => (S.at_ n q c h1 h2).ext (ext_new hp).toKp h1 fun u e => by rw [upd_ne (ne_of_none e hp)]; exact e,
    fun q f => let ⟨a, xs, b⟩ := S.frz q f; ⟨a, xs, by rw [upd_ne (ne_of_none b hp)]; exact b⟩,
    fun P hP => let ⟨ps, a, b⟩ := S.tab P hP; ⟨ps, by rw [upd_ne (ne_of_none a hp)]; exact a, b⟩, S.dn⟩
/-- a temporary list, neither a place of the store nor one that stays, is written -/
theorem kp_tmp {p : Addr} {xs ys : List V} (S : StR Γ π H st) (hp : H p = some (.lst xs)) (hr : p ∉ π.ρ) (hf : ¬ π.F p) : Kp π H π (upd H p (.lst ys)) :=
  { fix := fun b u e f => by rw [upd_ne (fun z => by rw [z, hp] at e; cases e; cases f)]; exact e
    frz := fun b u f e => by rw [upd_ne (fun z => hf (by rw [← z]; exact f))]; exact e
    pre := fun _ _ h => h
    fr := fun _ h => h
    kd := fun _ _ _ => rfl }
theorem StR.tmp {p : Addr} {xs ys : List V} (S : StR Γ π H st) (hp : H p = some (.lst xs)) (hr : p ∉ π.ρ) (hf : ¬ π.F p) : StR Γ π (upd H p (.lst ys)) st :=
  ⟨S.nd, S.len, fun n q c h1 h2 => (S.at_ n q c h1 h2).ext (kp_tmp S hp hr hf) h1 fun u e => by rw [upd_ne (fun z => hr (by rw [← z]; exact List.mem_of_getElem? h1))]; exact e,
    fun q f => let ⟨a, zs, b⟩ := S.frz q f; ⟨a, zs, by rw [upd_ne (fun z => hf (by rw [← z]; exact f))]; exact b⟩,
    fun P hP => let ⟨ps, a, b⟩ := S.tab P hP; ⟨ps, by rw [upd_ne (fun z => by rw [z, hp] at a; cases a)]; exact a, b⟩, S.dn⟩
/-- .. seen from where it was not yet there -/
theorem Ext.tmp {p : Addr} {o : HO} (e : Ext π H π' H') (hp : H p = none) : Ext π H π' (upd H' p o) :=
  { fix := fun b u q f => by rw [upd_ne (ne_of_none q hp)]; exact e.fix b u q f
    frz := fun b u f q => by rw [upd_ne (ne_of_none q hp)]; exact e.frz b u f q
    pre := e.pre
    fr := e.fr
    kd := e.kd
    keep := fun b u q t n => by rw [upd_ne (ne_of_none q hp)]; exact e.keep b u q t n
    there := fun b q => by
      by_cases z : b = p
      · rw [z, upd_same] at q; cases q
      · rw [upd_ne z] at q; exact e.there b q
    newR := e.newR
    newF := e.newF }
/-- a list is said to stay as it is -/
def Pl.fz (π : Pl) (p : Addr) : Pl := ⟨π.ρ, fun q => π.F q ∨ q = p, π.δ⟩
theorem kp_fz {p : Addr} : Kp π H (π.fz p) H :=
  { fix := fun _ _ e _ => e, frz := fun _ _ _ e => e, pre := fun _ _ h => h, fr := fun _ h => .inl h, kd := fun _ _ _ => rfl }
theorem Ext.fz {p : Addr} (e : Ext π H π' H') (hp : H p = none) : Ext π H (π'.fz p) H' :=
  { fix := e.fix, frz := e.frz, pre := e.pre, fr := fun q h => .inl (e.fr q h), kd := e.kd, keep := e.keep, there := e.there, newR := e.newR
    newF := fun q h => h.elim (e.newF q) fun z => by rw [z]; exact .inr hp }
theorem StR.fz {p : Addr} {xs : List V} (S : StR Γ π H st) (hp : H p = some (.lst xs)) (hr : p ∉ π.ρ) : StR Γ (π.fz p) H st :=
  ⟨S.nd, S.len, fun n q c h1 h2 => (S.at_ n q c h1 h2).ext kp_fz h1 fun _ e => e, (fun q f => f.elim (S.frz q) (fun z => by rw [z]; exact ⟨hr, xs, hp⟩)), S.tab, S.dn⟩
/-- a list becomes a place of the store -/
def Pl.pl (π : Pl) (p : Addr) : Pl := ⟨π.ρ ++ [p], π.F, π.δ⟩
theorem kp_pl {p : Addr} : Kp π H (π.pl p) H :=
  { fix := fun _ _ e _ => e, frz := fun _ _ _ e => e, fr := fun _ h => h, kd := fun _ _ _ => rfl
    pre := fun n q h => by
      obtain ⟨h1, e⟩ := List.getElem?_eq_some_iff.mp h
      show (π.ρ ++ [p])[n]? = some q
      rw [List.getElem?_append_left h1]; exact h }
theorem Ext.pl {p : Addr} (e : Ext π H π' H') (hp : H p = none) : Ext π H (π'.pl p) H' :=
  { fix := e.fix, frz := e.frz, fr := e.fr, kd := e.kd, keep := e.keep, there := e.there, newF := e.newF
    pre := fun n q h => (kp_pl (H := H')).pre n q (e.pre n q h)
    newR := fun q h => (List.mem_append.mp h).elim (e.newR q) fun z => by
      have z' : q = p := by simpa using z
      rw [z']; exact .inr hp }
theorem StR.pl {p : Addr} {vs : List V} {ds : List D} (S : StR Γ π H st) (hp : H p = some (.lst vs)) (hr : p ∉ π.ρ) (hf : ¬ π.F p) (r : RepL Γ π H vs ds) : StR Γ (π.pl p) H (st ++ [.lst ds]) where
  nd := by
    show (π.ρ ++ [p]).Nodup
    rw [List.nodup_append]
    refine ⟨S.nd, by simp, fun a ha b hb e => ?_⟩
    have z : b = p := by simpa using hb
    rw [e, z] at ha
    exact hr ha
  len := by
    show (π.ρ ++ [p]).length = _
    rw [List.length_append, List.length_append, S.len]; rfl
  at_ := fun n q c h1 h2 => by
    have h1 : (π.ρ ++ [p])[n]? = some q := h1
    have hl := S.len
    by_cases hn : n < π.ρ.length
    · rw [List.getElem?_append_left hn] at h1
      rw [List.getElem?_append_left (by omega)] at h2
      exact (S.at_ n q c h1 h2).ext kp_pl h1 fun _ e => e
    · have hn' := (List.getElem?_eq_some_iff.mp h1).1
      rw [List.length_append] at hn'
      have e : n = π.ρ.length := by simp at hn'; omega
      rw [List.getElem?_append_right (by omega), e, Nat.sub_self] at h1
      rw [List.getElem?_append_right (by omega), e, ← hl, Nat.sub_self] at h2
      have e1 : p = q := by simpa using h1
      have e2 : Cell.lst ds = c := by simpa using h2
      subst e1; subst e2
      exact ⟨S.noD hr, vs, hp, r.ext kp_pl⟩
  frz := fun q f => by
    obtain ⟨a, xs, b⟩ := S.frz q f
    refine ⟨fun h => (List.mem_append.mp h).elim a fun z => ?_, xs, b⟩
    have z' : q = p := by simpa using z
    rw [z'] at f
    exact hf f
  tab := S.tab
  dn := fun q h => List.mem_append_left _ (S.dn q h)
/-- a place of the store is written -/
theorem ext_put {p : Addr} {xs vs : List V} (S : StR Γ π H st) (hm : p ∈ π.ρ) (hp : H p = some (.lst xs)) : Ext π H π (upd H p (.lst vs)) :=
  { fix := fun b u e f => by rw [upd_ne (fun z => by rw [z, hp] at e; cases e; cases f)]; exact e
    frz := fun b u f e => by rw [upd_ne (fun z => (S.frz b f).1 (by rw [z]; exact hm))]; exact e
    pre := fun _ _ h => h
    fr := fun _ h => h
    kd := fun _ _ _ => rfl
    keep := fun b u e _ n => by rw [upd_ne (fun z => n (by rw [z]; exact hm))]; exact e
    there := fun b e => by
      by_cases z : b = p
      · rw [z, upd_same] at e; cases e
      · rw [upd_ne z] at e; exact e
    newR := fun _ h => .inl h
    newF := fun _ h => .inl h }
theorem StR.put {n : Nat} {p : Addr} {xs vs : List V} {ds : List D} (S : StR Γ π H st) (hn : π.ρ[n]? = some p) (hp : H p = some (.lst xs)) (r : RepL Γ π H vs ds) : StR Γ π (upd H p (.lst vs)) (st.set n (.lst ds)) where
  nd := S.nd
  len := by rw [List.length_set]; exact S.len
  at_ := fun m q c h1 h2 => by
    have hm : p ∈ π.ρ := List.mem_of_getElem? hn
    by_cases e : m = n
    · subst e
      have h3 : m < st.length := by rw [← S.len]; exact (List.getElem?_eq_some_iff.mp hn).1
      rw [List.getElem?_set_self h3] at h2
      cases h2
      rw [hn] at h1; cases h1
      exact ⟨S.isL hm hp, vs, upd_same, r.ext (ext_put S hm hp).toKp⟩
    · rw [List.getElem?_set_ne (Ne.symm e)] at h2
      have hq : q ≠ p := fun z => e (by
        have hi := (List.getElem?_eq_some_iff.mp h1)
        have hj := (List.getElem?_eq_some_iff.mp hn)
        exact (List.getElem_inj S.nd).mp (hi.2.trans (z.trans hj.2.symm)))
      exact (S.at_ m q c h1 h2).ext (ext_put S hm hp).toKp h1 fun u z => by rw [upd_ne hq]; exact z
  frz := fun q f => let ⟨a, ys, b⟩ := S.frz q f; ⟨a, ys, by rw [upd_ne (fun z => a (by rw [z]; exact List.mem_of_getElem? hn))]; exact b⟩
  tab := fun P hP => let ⟨ps, a, b⟩ := S.tab P hP; ⟨ps, by rw [upd_ne (fun z => by rw [z, hp] at a; cases a)]; exact a, b⟩
  dn := S.dn
theorem StR.read {n : Nat} {p : Addr} {ds : List D} (S : StR Γ π H st) (hn : π.ρ[n]? = some p) (h : st[n]? = some (.lst ds)) : ∃ vs, H p = some (.lst vs) ∧ RepL Γ π H vs ds := (S.at_ n p _ hn h).2
end

abbrev Env := List (Option D)
structure EnvR (Γ : Gm) (π : Pl) (H : Hp) (σ : L2.St) (env : Env) : Prop where
  len : env.length = σ.length
  at_ : ∀ (i : Nat) (d : D), env[i]? = some (some d) → ∃ v, σ[i]? = some (some v) ∧ Rep Γ π H v d
section
variable {Γ : Gm} {π π' : Pl} {H H' : Hp} {σ : L2.St} {env : Env}
theorem EnvR.ext (e : Kp π H π' H') (h : EnvR Γ π H σ env) : EnvR Γ π' H' σ env :=
  ⟨h.len, fun i d q => let ⟨v, a, b⟩ := h.at_ i d q; ⟨v, a, b.ext e⟩⟩
theorem EnvR.set {i : Nat} {v : V} {d : D} (h : EnvR Γ π H σ env) (r : Rep Γ π H v d) : EnvR Γ π H (σ.set i (some v)) (env.set i (some d)) := by
  refine ⟨by rw [List.length_set, List.length_set, h.len], fun j e q => ?_⟩
  by_cases hj : j = i
  · subst hj
    have hl : j < env.length := by
      have := (List.getElem?_eq_some_iff.mp q).1
      rwa [List.length_set] at this
    rw [List.getElem?_set_self hl] at q
    cases q
    exact ⟨v, by rw [List.getElem?_set_self (by rw [← h.len]; exact hl)], r⟩
  · rw [List.getElem?_set_ne (Ne.symm hj)] at q
    rw [List.getElem?_set_ne (Ne.symm hj)]
    exact h.at_ j e q
theorem EnvR.unset {i : Nat} (h : EnvR Γ π H σ env) : EnvR Γ π H (σ.set i none) (env.set i none) := by
  refine ⟨by rw [List.length_set, List.length_set, h.len], fun j e q => ?_⟩
  by_cases hj : j = i
  · subst hj
    have hl : j < env.length := by
      have := (List.getElem?_eq_some_iff.mp q).1
      rwa [List.length_set] at this
    rw [List.getElem?_set_self hl] at q
    cases q
  · rw [List.getElem?_set_ne (Ne.symm hj)] at q
    rw [List.getElem?_set_ne (Ne.symm hj)]
    exact h.at_ j e q
end

/-- what is in flight -/
def RepX (Γ : Gm) (π : Pl) (H : Hp) (cls : Value) (dx : Option Addr) (x : Ex) : Prop :=
  ∃ C, Γ.ce x.c = some C ∧ cls = .ref C ∧ match x.arg with
    | none => dx = none
    | some d => ∃ dd v, dx = some dd ∧ H dd = some (.xd [(Γ.fe x.c, v)]) ∧ Rep Γ π H v d
/-- what is wanted of a result, where the heap is H and the store's places are π -/
def Out {α β : Type} (Γ : Gm) (R : Pl → Hp → β → α → Prop) (W : WX) (σ : L2.St) (π : Pl) (H : Hp) (r : Rs α) (Q : β → Hp → Prop) : Prop := match r with
  | .ok a st => ∀ π' H' b, Ext π H π' H' → StR Γ π' H' st → R π' H' b a → Q b H'
  | .ex x st => ∀ π' H' cls dx, Ext π H π' H' → StR Γ π' H' st → RepX Γ π' H' cls dx x → W cls dx σ H'
  | .no => False
abbrev RB : Pl → Hp → Bool → Bool → Prop := fun _ _ b c => b = c
theorem Out.ext {α β : Type} {Γ : Gm} {R : Pl → Hp → β → α → Prop} {W : WX} {σ : L2.St} {π π1 : Pl} {H H1 : Hp} {r : Rs α} {Q : β → Hp → Prop} (e : Ext π H π1 H1) (h : Out Γ R W σ π H r Q) : Out Γ R W σ π1 H1 r Q := by
  cases r with
  | ok a st => exact fun π' H' b e' s r => h π' H' b (e.trans e') s r
  | ex x st => exact fun π' H' c d e' s r => h π' H' c d (e.trans e') s r
  | no => exact h
theorem Out.imp {α β : Type} {Γ : Gm} {R : Pl → Hp → β → α → Prop} {W : WX} {σ : L2.St} {π : Pl} {H : Hp} {r : Rs α} {Q Q' : β → Hp → Prop} (h : Out Γ R W σ π H r Q) (q : ∀ b H', Q b H' → Q' b H') : Out Γ R W σ π H r Q' := by
  cases r with
  | ok a st => exact fun π' H' b e' s r => q _ _ (h π' H' b e' s r)
  | ex x st => exact h
  | no => exact h
/-- the reading of a denotation -/
def tG {α β : Type} (Γ : Gm) (R : Pl → Hp → β → α → Prop) (W : WX) (m : Env → Sto → Rs α) : L2.St → Hp → (β → Hp → Prop) → Prop := fun σ H Q =>
  ∃ π env st, EnvR Γ π H σ env ∧ StR Γ π H st ∧ Out Γ R W σ π H (m env st) Q
abbrev tE (Γ : Gm) (W : WX) (m : Env → Sto → Rs D) : TE := tG Γ (Rep Γ) W m
abbrev tL (Γ : Gm) (W : WX) (m : Env → Sto → Rs (List D)) : TA := tG Γ (RepL Γ) W m
abbrev tT (Γ : Gm) (W : WX) (m : Env → Sto → Rs Bool) : TT := tG Γ RB W m
theorem tG.imp {α β : Type} {Γ : Gm} {R : Pl → Hp → β → α → Prop} {W : WX} {m : Env → Sto → Rs α} {σ : L2.St} {H : Hp} {Q Q' : β → Hp → Prop} (h : tG Γ R W m σ H Q) (q : ∀ b H', Q b H' → Q' b H') : tG Γ R W m σ H Q' := by
  obtain ⟨π, env, st, a, b, c⟩ := h
  exact ⟨π, env, st, a, b, c.imp q⟩
/-- a step, and what follows it -/
theorem bindG {α β γ δ : Type} {Γ : Gm} {R : Pl → Hp → β → α → Prop} {R' : Pl → Hp → δ → γ → Prop} {W : WX} {m : Env → Sto → Rs α} {k : α → Sto → Rs γ} {σ : L2.St} {π : Pl} {H : Hp} {env : Env} {st : Sto} {Q : δ → Hp → Prop} {P : β → Hp → Prop}
    (hE : EnvR Γ π H σ env) (hS : StR Γ π H st) (h : Out Γ R' W σ π H ((m env st).bind k) Q)
    (go : ∀ π1 H1 b a st1, Ext π H π1 H1 → EnvR Γ π1 H1 σ env → StR Γ π1 H1 st1 → R π1 H1 b a → Out Γ R' W σ π1 H1 (k a st1) Q → P b H1) : tG Γ R W m σ H P := by
  refine ⟨π, env, st, hE, hS, ?_⟩
  cases e : m env st with
  | ok a st1 =>
    rw [e] at h
    exact fun π1 H1 b e1 s1 r1 => go π1 H1 b a st1 e1 (hE.ext e1.toKp) s1 r1 (Out.ext e1 h)
  | ex x st1 =>
    rw [e] at h
    exact h
  | no =>
    rw [e] at h
    exact h

theorem imE {X : Cx} {e : Expr} {t t' : TE} (h : PE X e t) (q : ∀ σ H Q, t' σ H Q → t σ H Q) : PE X e t' := ⟨fun pins s σ H Q I hw => h.run pins s σ H Q I (q _ _ _ hw)⟩
theorem imT {X : Cx} {e : Expr} {t t' : TT} (h : PT X e t) (q : ∀ σ H Q, t' σ H Q → t σ H Q) : PT X e t' := ⟨fun pins s σ H Q I hw => h.run pins s σ H Q I (q _ _ _ hw)⟩
theorem imW {X : Cx} {e : Expr} {t t' : TT} (h : PW X e t) (q : ∀ σ H Q, t' σ H Q → t σ H Q) : PW X e t' := ⟨fun wh pins s σ H Q I hw => h.run wh pins s σ H Q I (q _ _ _ hw)⟩
theorem imA {X : Cx} {e : List Expr} {t t' : TA} (h : PA X e t) (q : ∀ σ H Q, t' σ H Q → t σ H Q) : PA X e t' := ⟨fun p pins s σ H Q I hw => h.run p pins s σ H Q I (q _ _ _ hw)⟩
theorem imS {X : Cx} {e : Stmt} {t t' : TS} (h : PS X e t) (q : ∀ D σ H, t' D σ H → t D σ H) : PS X e t' := ⟨fun pins s σ H D I hw => h.run pins s σ H D I (q _ _ _ hw)⟩
theorem imSs {X : Cx} {e : List Stmt} {t t' : TS} (h : PSs X e t) (q : ∀ D σ H, t' D σ H → t D σ H) : PSs X e t' := ⟨fun pins s σ H D I hw => h.run pins s σ H D I (q _ _ _ hw)⟩
end Dn
end

section
set_option Elab.async false
set_option linter.all false
set_option maxRecDepth 100000
namespace Dn
open PySem PySem.Spec PyProof.Rows L2

abbrev sz : Nat := 16777216
theorem sz_line : sz = sizeLine := sizeLine_eq.symm

/-! ### ends -/
section
variable {Γ : Gm} {W : WX} {σ : L2.St} {π : Pl} {H : Hp} {st : Sto}
theorem Out.now {α β : Type} {R : Pl → Hp → β → α → Prop} {a : α} {b : β} {Q : β → Hp → Prop} (h : Out Γ R W σ π H (.ok a st) Q) (S : StR Γ π H st) (r : R π H b a) : Q b H := h π H b Ext.refl S r
theorem Out.newT {vs : List V} {ds : List D} {Q : VK} (h : Out Γ (Rep Γ) W σ π H (.ok (.tup ds) st) Q) (S : StR Γ π H st) (r : RepL Γ π H vs ds) {p : Addr} (hp : H p = none) : Q (.ref p) (upd H p (.tup vs)) :=
  h π _ _ (ext_new hp) (S.new hp) ⟨p, vs, rfl, upd_same, r.ext (ext_new hp).toKp⟩
/-- a list that is made: one that stays, or a place of the store -/
def mkL (mu : Bool) (ds : List D) (st : Sto) : Rs D := if mu then .ok (.cell st.length) (st ++ [.lst ds]) else .ok (.lst ds) st
/-- a list at p, made behind (π, H), is handed on -/
theorem Out.made {mu : Bool} {vs : List V} {ds : List D} {Q : VK} {π' : Pl} {H' : Hp} {p : Addr} (h : Out Γ (Rep Γ) W σ π H (mkL mu ds st) Q) (e : Ext π H π' H') (hp : H p = none) (S : StR Γ π' H' st) (hl : H' p = some (.lst vs))
    (hr : p ∉ π'.ρ) (hf : ¬ π'.F p) (r : RepL Γ π' H' vs ds) : Q (.ref p) H' := by
  cases mu with
  | false =>
    have h' : Out Γ (Rep Γ) W σ π H (.ok (.lst ds) st) Q := h
    exact h' (π'.fz p) H' _ (e.fz hp) (S.fz hl hr) ⟨p, vs, rfl, hl, .inr rfl, r.ext kp_fz⟩
  | true =>
    have h' : Out Γ (Rep Γ) W σ π H (.ok (.cell st.length) (st ++ [.lst ds])) Q := h
    refine h' (π'.pl p) H' _ (e.pl hp) (S.pl hl hr hf r) ⟨p, rfl, ?_, S.noD hr⟩
    show (π'.ρ ++ [p])[st.length]? = some p
    rw [List.getElem?_append_right (by rw [S.len]; omega), S.len, Nat.sub_self]
    rfl
theorem Out.newL {mu : Bool} {vs : List V} {ds : List D} {Q : VK} (h : Out Γ (Rep Γ) W σ π H (mkL mu ds st) Q) (S : StR Γ π H st) (r : RepL Γ π H vs ds) {p : Addr} (hp : H p = none) : Q (.ref p) (upd H p (.lst vs)) :=
  h.made (ext_new hp) hp (S.new hp) upd_same (S.fresh hp) (S.freshF hp) (r.ext (ext_new hp).toKp)
end

/-! ### what is read -/
def getL : D → Sto → Option (List D)
  | .lst ds, _ => some ds
  | .rol ds, _ => some ds
  | .cell n, st => match st[n]? with
    | some (.lst ds) => some ds
    | _ => none
  | _, _ => none
/-- the same of a list that is no locked one -/
def getM : D → Sto → Option (List D)
  | .lst ds, _ => some ds
  | .cell n, st => match st[n]? with
    | some (.lst ds) => some ds
    | _ => none
  | _, _ => none
def getS : D → Sto → Option (List D)
  | .tup ds, _ => some ds
  | .ktp ds, _ => some ds
  | d, st => getL d st
section
variable {Γ : Gm} {π : Pl} {H : Hp} {st : Sto} {v : V}
theorem getM_ok {d : D} {ds : List D} (S : StR Γ π H st) (r : Rep Γ π H v d) (h : getM d st = some ds) : ∃ p vs, v = .ref p ∧ H p = some (.lst vs) ∧ RepL Γ π H vs ds := by
  cases d with
  | lst es =>
    cases h
    obtain ⟨p, vs, a, b, _, c⟩ := r
    exact ⟨p, vs, a, b, c⟩
  | cell n =>
    obtain ⟨p, a, b, _⟩ := r
    have h : (match st[n]? with
      | some (.lst ds) => some ds
      | _ => none) = some ds := h
    split at h
    · rename_i es e
      cases h
      obtain ⟨vs, q, r⟩ := S.read b e
      exact ⟨p, vs, a, q, r⟩
    · cases h
  | non => cases h
  | bl _ => cases h
  | int _ => cases h
  | str _ => cases h
  | tup _ => cases h
  | rol _ => cases h
  | ktp _ => cases h
  | dic _ => cases h
  | xz _ => cases h
  | xo _ _ => cases h
theorem getL_ok {d : D} {ds : List D} (S : StR Γ π H st) (r : Rep Γ π H v d) (h : getL d st = some ds) : ∃ p vs, v = .ref p ∧ SqL Γ.K H p vs ∧ RepL Γ π H vs ds := by
  cases d with
  | rol es =>
    cases h
    obtain ⟨p, vs, a, b, c⟩ := r
    exact ⟨p, vs, a, b.sq, c⟩
  | lst es =>
    obtain ⟨p, vs, a, b, c⟩ := getM_ok (d := .lst es) S r h
    exact ⟨p, vs, a, SqL.of b, c⟩
  | cell n =>
    obtain ⟨p, vs, a, b, c⟩ := getM_ok (d := .cell n) S r h
    exact ⟨p, vs, a, SqL.of b, c⟩
  | non => cases h
  | bl _ => cases h
  | int _ => cases h
  | str _ => cases h
  | tup _ => cases h
  | ktp _ => cases h
  | dic _ => cases h
  | xz _ => cases h
  | xo _ _ => cases h
theorem getS_ok {d : D} {ds : List D} (S : StR Γ π H st) (r : Rep Γ π H v d) (h : getS d st = some ds) : ∃ p vs, v = .ref p ∧ (SqL Γ.K H p vs ∨ SqT Γ.K H p vs) ∧ RepL Γ π H vs ds := by
  have go : getL d st = some ds → ∃ p vs, v = .ref p ∧ (SqL Γ.K H p vs ∨ SqT Γ.K H p vs) ∧ RepL Γ π H vs ds := fun h =>
    let ⟨p, vs, a, b, c⟩ := getL_ok S r h
    ⟨p, vs, a, .inl b, c⟩
  cases d with
  | tup es =>
    cases h
    obtain ⟨p, vs, a, b, c⟩ := r
    exact ⟨p, vs, a, .inr (SqT.of b), c⟩
  | lst _ => exact go h
  | rol _ => exact go h
  | cell _ => exact go h
  | non => cases h
  | bl _ => cases h
  | int _ => cases h
  | str _ => cases h
  | ktp es =>
    cases h
    obtain ⟨p, vs, a, b, c⟩ := r
    exact ⟨p, vs, a, .inr b, c⟩
  | dic _ => cases h
  | xz _ => cases h
  | xo _ _ => cases h
end

/-! ### names, constants -/
def mVar (i : Nat) : Env → Sto → Rs D := fun env st => match env[i]? with
  | some (some d) => .ok d st
  | _ => .no
def mC (d : D) : Env → Sto → Rs D := fun _ st => .ok d st
section
variable {X : Cx} {Γ : Gm} {W : WX}
theorem den_var (i : Nat) {x : Str} {pos : Pos} (hN : X.N[i]? = some x := by rfl) (hv : Vis X.env.scope x := by first | exact Or.inl rfl | exact Or.inr (Or.inl rfl) | exact Or.inr (Or.inr rfl)) (hd : (x == ("__debug__" : Str)) = false := by decide)
    (hcd : (x == ("__classdict__" : Str)) = false := by decide) : PE X (.Name x pos) (tE Γ W (mVar i)) := by
  refine imE (pv i hN hv hd hcd) fun σ H Q ⟨π, env, st, E, S, h⟩ => ?_
  unfold mVar at h
  split at h
  · rename_i d e
    obtain ⟨v, a, r⟩ := E.at_ i d e
    exact ⟨v, a, h.now S r⟩
  · exact h.elim
theorem den_c {e : Expr} {v : V} {d : D} (h : PE X e (tC v)) (r : ∀ π H, Rep Γ π H v d) : PE X e (tE Γ W (mC d)) :=
  imE h fun σ H Q ⟨π, env, st, E, S, q⟩ => Out.now q S (r π H)
theorem den_int {i : Int} {j pos} : PE X (.Constant (.int i) j pos) (tE Γ W (mC (.int i))) := den_c pe_int fun _ _ => rfl
theorem den_bl {b : Bool} {j pos} : PE X (.Constant (.bool b) j pos) (tE Γ W (mC (.bl b))) := den_c pe_bl fun _ _ => rfl
theorem den_non {j pos} : PE X (.Constant .none j pos) (tE Γ W (mC .non)) := den_c pe_non fun _ _ => rfl
theorem den_str {x : Str} {l : List Nat} {j pos} (hl : x = ⟨⟨l⟩⟩ := by rfl) : PE X (.Constant (.str x) j pos) (tE Γ W (mC (.str l))) := den_c pe_str fun _ _ => by rw [hl]; rfl
/-- a name of the module -/
theorem den_glob {x : Str} {v : V} {d : D} {u : Value} {pos : Pos} (hg : Gl X x) (hm : X.mg x = some u) (rv : RelV v u) (r : ∀ π H, Rep Γ π H v d) (hd : (x == ("__debug__" : Str)) = false := by decide) : PE X (.Name x pos) (tE Γ W (mC d)) :=
  den_c (pe_glob hg hm rv hd) r

/-! ### operators -/
def m1 (f : D → Sto → Rs D) (ma : Env → Sto → Rs D) : Env → Sto → Rs D := fun env st => (ma env st).bind f
def m2 (f : D → D → Sto → Rs D) (ma mb : Env → Sto → Rs D) : Env → Sto → Rs D := fun env st => (ma env st).bind fun a st1 => (mb env st1).bind fun b st2 => f a b st2
/-- f tells what r does -/
def Op2 (Γ : Gm) (r : R2) (f : D → D → Sto → Rs D) : Prop := ∀ (W : WX) (σ : L2.St) (π : Pl) (H : Hp) (x y : V) (a b : D) (st : Sto) (Q : VK), StR Γ π H st → Rep Γ π H x a → Rep Γ π H y b → Out Γ (Rep Γ) W σ π H (f a b st) Q → r x y H Q
def Op1 (Γ : Gm) (r : V → Hp → VK → Prop) (f : D → Sto → Rs D) : Prop := ∀ (W : WX) (σ : L2.St) (π : Pl) (H : Hp) (x : V) (a : D) (st : Sto) (Q : VK), StR Γ π H st → Rep Γ π H x a → Out Γ (Rep Γ) W σ π H (f a st) Q → r x H Q
theorem tOp2 {r : R2} {f : D → D → Sto → Rs D} (hf : Op2 Γ r f) {ma mb : Env → Sto → Rs D} {σ : L2.St} {H : Hp} {Q : VK} (h : tE Γ W (m2 f ma mb) σ H Q) : tOp r (tE Γ W ma) (tE Γ W mb) σ H Q := by
  obtain ⟨π, env, st, E, S, h⟩ := h
  refine bindG E S h fun π1 H1 x a st1 e1 E1 S1 r1 h1 => ?_
  refine bindG E1 S1 h1 fun π2 H2 y b st2 e2 E2 S2 r2 h2 => ?_
  exact hf W σ π2 H2 x y a b st2 Q S2 (r1.ext e2.toKp) r2 h2
theorem den_op {op : Operator} {r : R2} {f : D → D → Sto → Rs D} {a b : Expr} {ma mb : Env → Sto → Rs D} {pos : Pos} (ho : OpR X (binaryOp op) r) (hf : Op2 Γ r f) (ha : PE X a (tE Γ W ma)) (hb : PE X b (tE Γ W mb)) : PE X (.BinOp a op b pos) (tE Γ W (m2 f ma mb)) :=
  imE (pe_op ho ha hb) fun _ _ _ h => tOp2 hf h
theorem den_un {op : UnaryOp} {r : V → Hp → VK → Prop} {f : D → Sto → Rs D} {a : Expr} {ma : Env → Sto → Rs D} {pos : Pos} (ho : UnR X (unaryOp op) r) (hf : Op1 Γ r f) (ha : PE X a (tE Γ W ma)) : PE X (.UnaryOp op a pos) (tE Γ W (m1 f ma)) :=
  imE (pe_un ho ha) fun σ H Q ⟨π, env, st, E, S, h⟩ => bindG E S h fun π1 H1 x a st1 e1 E1 S1 r1 h1 => hf W σ π1 H1 x a st1 Q S1 r1 h1
theorem den_cmp {op : CmpOp} {r : R2} {f : D → D → Sto → Rs D} {a b : Expr} {ma mb : Env → Sto → Rs D} {pos : Pos} (ho : OpR X (compareOp op) r) (hf : Op2 Γ r f) (ha : PE X a (tE Γ W ma)) (hb : PE X b (tE Γ W mb)) (hm : behindInMarks op b = false) :
    PE X (.Compare a [op] [b] pos) (tE Γ W (m2 f ma mb)) :=
  imE (pe_cmpR ho ha hb hm) fun _ _ _ h => tOp2 hf h
/-- a value as a test -/
def asT (ma : Env → Sto → Rs D) : Env → Sto → Rs Bool := fun env st => (ma env st).bind fun d st1 => match d with
  | .bl b => .ok b st1
  | _ => .no
theorem den_tcmp {op : CmpOp} {r : R2} {f : D → D → Sto → Rs D} {a b : Expr} {ma mb : Env → Sto → Rs D} {pos : Pos} (ho : OpR X (compareOp op) r) (hf : Op2 Γ r f) (ha : PE X a (tE Γ W ma)) (hb : PE X b (tE Γ W mb)) (hm : behindInMarks op b = false) :
    PT X (.Compare a [op] [b] pos) (tT Γ W (asT (m2 f ma mb))) := by
  refine imT (pt_cmpR ho ha hb hm) fun σ H Q ⟨π, env, st, E, S, h⟩ => ?_
  show tOp r (tE Γ W ma) (tE Γ W mb) σ H _
  refine tOp2 hf (bindG E S h fun π1 H1 x a st1 e1 E1 S1 r1 h1 => ?_)
  cases a with
  | bl k => exact ⟨k, r1, h1.now S1 rfl⟩
  | _ => exact h1.elim

/-! ### ints -/
def opI (c : Int → Int → Bool) (g : Int → Int → D) (a b : D) (st : Sto) : Rs D := match a, b with
  | .int i, .int j => if c i j then .ok (g i j) st else .no
  | _, _ => .no
theorem op2_int {c : Int → Int → Bool} {C : Int → Int → Prop} {g : Int → Int → D} {gv : Int → Int → V} (hc : ∀ i j, c i j = true → C i j) (hg : ∀ i j π H, Rep Γ π H (gv i j) (g i j)) : Op2 Γ (rI C gv) (opI c g) := by
  intro W σ π H x y a b st Q S rx ry h
  cases a with
  | int i =>
    cases b with
    | int j =>
      unfold opI at h
      dsimp only at h
      split at h
      · rename_i hh
        exact ⟨i, j, rx, ry, hc i j hh, h.now S (hg i j π H)⟩
      · exact h.elim
    | _ => exact h.elim
  | _ => exact h.elim
theorem op2_int0 {g : Int → Int → D} {gv : Int → Int → V} (hg : ∀ i j π H, Rep Γ π H (gv i j) (g i j)) : Op2 Γ (rI0 gv) (opI (fun _ _ => true) g) := fun W σ π H x y a b st Q S rx ry h =>
  let ⟨i, j, a1, a2, _, q⟩ := op2_int (C := fun _ _ => True) (c := fun _ _ => true) (fun _ _ _ => trivial) hg W σ π H x y a b st Q S rx ry h
  ⟨i, j, a1, a2, q⟩
def fSub := opI (fun _ _ => true) fun i j => .int (i - j)
def cMul (i j : Int) : Bool := (decide (-(2 ^ 64) < i) && decide (i < 2 ^ 64)) || (decide (-(2 ^ 64) < j) && decide (j < 2 ^ 64))
def fMod := opI (fun _ j => !decide (j = 0)) fun i j => .int (i.fmod j)
def fDiv := opI (fun _ j => !decide (j = 0) && decide (j.natAbs < 1073741824)) fun i j => .int (i.fdiv j)
def cPow (i j : Int) : Bool := decide (0 ≤ j) && decide (j ≤ 1000000) && decide (i.natAbs < 2 ^ 64)
def fPow := opI cPow fun i j => .int (i ^ j.toNat)
def fShl := opI cPow fun i j => .int (i * 2 ^ j.toNat)
def fShr := opI (fun _ j => decide (0 ≤ j)) fun i j => .int (i / 2 ^ j.toNat)
def fAnd := opI (fun _ _ => true) fun i j => .int (Builtin.bitAnd i j)
def fOr := opI (fun _ _ => true) fun i j => .int (Builtin.bitOr i j)
def fXor := opI (fun _ _ => true) fun i j => .int (Builtin.bitXor i j)
def fLtI := opI (fun _ _ => true) fun i j => .bl (decide (i < j))
def fLeI := opI (fun _ _ => true) fun i j => .bl (decide (i ≤ j))
def fGtI := opI (fun _ _ => true) fun i j => .bl (decide (j < i))
def fGeI := opI (fun _ _ => true) fun i j => .bl (decide (j ≤ i))
theorem o_sub : Op2 Γ (rI0 fun i j => .int (i - j)) fSub := op2_int0 fun _ _ _ _ => rfl
theorem o_mod : Op2 Γ (rI (fun _ j => j ≠ 0) fun i j => .int (i.fmod j)) fMod := op2_int (fun i j h => by simpa using h) fun _ _ _ _ => rfl
theorem o_div : Op2 Γ (rI CDivN fun i j => .int (i.fdiv j)) fDiv := op2_int (fun i j h => by simpa [CDivN] using h) fun _ _ _ _ => rfl
theorem cPow_ok (i j : Int) (h : cPow i j = true) : CPow i j := by
  unfold cPow at h
  simp only [Bool.and_eq_true, decide_eq_true_eq] at h
  exact ⟨h.1.1, h.1.2, h.2⟩
theorem o_pow : Op2 Γ (rI CPow fun i j => .int (i ^ j.toNat)) fPow := op2_int cPow_ok fun _ _ _ _ => rfl
theorem o_shl : Op2 Γ (rI CPow fun i j => .int (i * 2 ^ j.toNat)) fShl := op2_int cPow_ok fun _ _ _ _ => rfl
theorem o_shr : Op2 Γ (rI (fun _ j => 0 ≤ j) fun i j => .int (i / 2 ^ j.toNat)) fShr := op2_int (fun i j h => of_decide_eq_true h) fun _ _ _ _ => rfl
theorem o_and : Op2 Γ (rI0 fun i j => .int (Builtin.bitAnd i j)) fAnd := op2_int0 fun _ _ _ _ => rfl
theorem o_or : Op2 Γ (rI0 fun i j => .int (Builtin.bitOr i j)) fOr := op2_int0 fun _ _ _ _ => rfl
theorem o_xor : Op2 Γ (rI0 fun i j => .int (Builtin.bitXor i j)) fXor := op2_int0 fun _ _ _ _ => rfl
theorem o_ltI : Op2 Γ (rI0 fun i j => .bl (decide (i < j))) fLtI := op2_int0 fun _ _ _ _ => rfl
theorem o_leI : Op2 Γ (rI0 fun i j => .bl (decide (i ≤ j))) fLeI := op2_int0 fun _ _ _ _ => rfl
theorem o_gtI : Op2 Γ (rI0 fun i j => .bl (decide (j < i))) fGtI := op2_int0 fun _ _ _ _ => rfl
theorem o_geI : Op2 Γ (rI0 fun i j => .bl (decide (j ≤ i))) fGeI := op2_int0 fun _ _ _ _ => rfl
def fNeg (a : D) (st : Sto) : Rs D := match a with
  | .int i => .ok (.int (-i)) st
  | _ => .no
theorem o_neg : Op1 Γ (rU fun i => .int (-i)) fNeg := fun W σ π H x a st Q S rx h => by
  cases a with
  | int i => exact ⟨i, rx, h.now S rfl⟩
  | _ => exact h.elim

/-! ### + and * of ints, texts, tuples, lists -/
def fAdd (mu : Bool) (a b : D) (st : Sto) : Rs D := match a, b with
  | .int i, .int j => .ok (.int (i + j)) st
  | .str s, .str t => if s.length + t.length ≤ sz then .ok (.str (s ++ t)) st else .no
  | .tup s, .tup t => if s.length + t.length ≤ sz then .ok (.tup (s ++ t)) st else .no
  | a, b => match getM a st, getM b st with
    | some s, some t => if s.length + t.length ≤ sz then mkL mu (s ++ t) st else .no
    | _, _ => .no
def rAddS : R2 := fun x y H Q => ∃ i j, x = .str i ∧ y = .str j ∧ i.length + j.length ≤ sizeLine ∧ Q (.str (i ++ j)) H
def rAddA (K : PySem.W.Frag) : R2 := fun x y H Q => (rI0 (fun i j => .int (i + j)) x y H Q ∨ rAddS x y H Q) ∨ (rCatA K x y H Q ∨ rCat x y H Q)
theorem op_addA : OpR X (binaryOp .Add) (rAddA X.K) := (op_add.or op_add_str).or (op_catA.or op_cat)
theorem str_len (l : List Nat) : (⟨⟨l⟩⟩ : Str).length = l.length := rfl
theorem str_app (s t : List Nat) : (⟨⟨s⟩⟩ ++ ⟨⟨t⟩⟩ : Str) = ⟨⟨s ++ t⟩⟩ := by
  show (⟨(⟨s⟩ : Array Nat) ++ ⟨t⟩⟩ : Str) = _
  simp
theorem o_add (mu : Bool) : Op2 Γ (rAddA Γ.K) (fAdd mu) := by
  intro W σ π H x y a b st Q S rx ry h
  have lists : ∀ {a b : D}, Rep Γ π H x a → Rep Γ π H y b → Out Γ (Rep Γ) W σ π H (match getM a st, getM b st with
    | some s, some t => if s.length + t.length ≤ sz then mkL mu (s ++ t) st else .no
    | _, _ => .no) Q → rAddA Γ.K x y H Q := fun {a b} rx ry h => by
    split at h
    · rename_i s t e1 e2
      split at h
      · rename_i hz
        obtain ⟨p, vs, rfl, hp, r1⟩ := getM_ok S rx e1
        obtain ⟨q, ws, rfl, hq, r2⟩ := getM_ok S ry e2
        exact .inr (.inr ⟨p, q, vs, ws, rfl, rfl, hp, hq, by rw [r1.length, r2.length, sizeLine_eq]; exact hz, fun l hl => h.newL S (r1.append r2) hl⟩)
      · exact h.elim
    · exact h.elim
  cases a with
  | int i =>
    cases b with
    | int j => exact .inl (.inl ⟨i, j, rx, ry, h.now S rfl⟩)
    | _ => exact lists (a := .int i) rx ry h
  | str s =>
    cases b with
    | str t =>
      unfold fAdd at h
      dsimp only at h
      split at h
      · rename_i hz
        exact .inl (.inr ⟨_, _, rx, ry, by rw [str_len, str_len, sizeLine_eq]; exact hz, h.now S (by rw [str_app]; exact rfl)⟩)
      · exact h.elim
    | _ => exact lists (a := .str s) rx ry h
  | tup s =>
    cases b with
    | tup t =>
      unfold fAdd at h
      dsimp only at h
      split at h
      · rename_i hz
        obtain ⟨p, vs, rfl, hp, r1⟩ := rx
        obtain ⟨q, ws, rfl, hq, r2⟩ := ry
        refine .inr (.inl ⟨p, q, vs, ws, rfl, rfl, SqT.of hp, SqT.of hq, by rw [r1.length, r2.length, sizeLine_eq]; exact hz, fun e => ?_, fun e1 e2 => ?_, fun e1 e2 l hl => h.newT S (r1.append r2) hl⟩)
        · refine h.now S ⟨q, ws, rfl, hq, ?_⟩
          have z := r1.append r2
          rw [e] at z
          exact z
        · refine h.now S ⟨p, vs, rfl, hp, ?_⟩
          have z := r1.append r2
          rw [e2, List.append_nil] at z
          exact z
      · exact h.elim
    | _ => exact lists (a := .tup s) rx ry h
  | non => exact lists (a := .non) rx ry h
  | bl k => exact lists (a := .bl k) rx ry h
  | lst k => exact lists (a := .lst k) rx ry h
  | rol k => exact lists (a := .rol k) rx ry h
  | cell k => exact lists (a := .cell k) rx ry h
  | ktp k => exact lists (a := .ktp k) rx ry h
  | dic k => exact lists (a := .dic k) rx ry h
  | xz k => exact lists (a := .xz k) rx ry h
  | xo k l => exact lists (a := .xo k l) rx ry h
def fMul (mu : Bool) (a b : D) (st : Sto) : Rs D := match a, b with
  | .int i, .int j => if cMul i j then .ok (.int (i * j)) st else .no
  | .str s, .int k => if 0 ≤ k ∧ k ≤ 65536 ∧ s.length ≤ 256 then .ok (.str (List.replicate k.toNat s).flatten) st else .no
  | .tup s, .int k => if s.isEmpty then .no else if 2 ≤ k ∧ k ≤ 1000 ∧ s.length ≤ 1000 then .ok (.tup (List.replicate k.toNat s).flatten) st else .no
  | a, .int k => match getM a st with
    | some s => if -(2 ^ 63) ≤ k ∧ k < 2 ^ 63 ∧ s.length * k.toNat ≤ sz then mkL mu (List.replicate k.toNat s).flatten st else .no
    | _ => .no
  | _, _ => .no
theorem RepL.reps {π : Pl} {H : Hp} {vs : List V} {ds : List D} (r : RepL Γ π H vs ds) : ∀ n : Nat, RepL Γ π H (List.replicate n vs).flatten (List.replicate n ds).flatten
  | 0 => rfl
  | n + 1 => by
    rw [List.replicate_succ, List.replicate_succ, List.flatten_cons, List.flatten_cons]
    exact r.append (RepL.reps r n)
theorem foldl_rep (a : Array Nat) : ∀ (n : Nat) (acc : Array Nat), (List.replicate n a).foldl (· ++ ·) acc = acc ++ (List.replicate n a.toList).flatten.toArray
  | 0, acc => by simp
  | n + 1, acc => by
    rw [List.replicate_succ, List.foldl_cons, foldl_rep a n, List.replicate_succ, List.flatten_cons]
    apply Array.ext'
    simp
/-- a text, several times -/
def rRepS : R2 := fun x y H Q => ∃ (s : Str) (k : Int), x = .str s ∧ y = .int k ∧ 0 ≤ k ∧ k ≤ 65536 ∧ s.length ≤ 256 ∧ Q (.str ⟨(List.replicate k.toNat s.cps.toList).flatten.toArray⟩) H
theorem op_repS : OpR X (binaryOp .Mult) rRepS := by
  intro pins sh σ H x y v u Q I rx ry h
  obtain ⟨s, k, rfl, rfl, h0, h1, h2, q⟩ := h
  obtain ⟨t, rfl⟩ := rx
  obtain ⟨t', rfl⟩ := ry
  have hm : s.length * k.toNat ≤ 256 * 65536 := Nat.mul_le_mul h2 (by omega)
  have hlen : ((List.replicate k.toNat s.cps.toList).flatten).length = k.toNat * s.length := by simp [Str.length]
  refine PySem.P.mul_str (by simp; omega) (fun hn _ => ?_) (fun _ _ => ?_) ?_
  · have hk : 0 < k := by omega
    have : (s.length : Int) * k ≤ 2 ^ 63 - 1 := by
      have e : ((s.length * k.toNat : Nat) : Int) = (s.length : Int) * k := by rw [Int.natCast_mul, Int.toNat_of_nonneg h0]
      omega
    have := Int.le_ediv_of_mul_le hk this
    omega
  · unfold Builtin.Str.tooLong
    rw [sizeLine_eq]
    simp
    omega
  · split
    · rename_i hn
      have ek : k = 0 := by omega
      subst ek
      exact ⟨Nat.zero_le _, .str _, H, I.tok _, ⟨_, rfl⟩, q⟩
    · split
      · rename_i hn hc
        have e : (⟨(List.replicate k.toNat s.cps.toList).flatten.toArray⟩ : Str) = s := by
          rw [Bool.or_eq_true] at hc
          rcases hc with hc | hc
          · have : k = 1 := by simpa using hc
            subst this
            simp
          · have hz : s.cps = #[] := by
              have : s.cps.size = 0 := by simpa [Str.length] using hc
              exact Array.size_eq_zero_iff.mp this
            obtain ⟨cps⟩ := s
            simp only at hz
            subst hz
            simp
        rw [e] at q
        exact ⟨.str s, H, I, ⟨_, rfl⟩, q⟩
      · refine ⟨?_, .str _, H, I.tok _, ⟨sh.toks, ?_⟩, q⟩
        · show ((List.replicate k.toNat s.cps).foldl (· ++ ·) #[]).size ≤ sizeLine
          rw [foldl_rep, Array.size_append, List.size_toArray, List.size_toArray, hlen, sizeLine_eq]
          have : k.toNat * s.length = s.length * k.toNat := Nat.mul_comm _ _
          simp
          omega
        · rw [foldl_rep]
          simp
def rMulA (K : PySem.W.Frag) : R2 := fun x y H Q => (rI CMul (fun i j => .int (i * j)) x y H Q ∨ rRepS x y H Q) ∨ (rRepT K x y H Q ∨ rRep x y H Q)
theorem op_mulA : OpR X (binaryOp .Mult) (rMulA X.K) := (op_mul.or op_repS).or (op_repT.or op_rep)
theorem cMul_ok (i j : Int) (h : cMul i j = true) : CMul i j := by
  unfold cMul at h
  simpa [CMul] using h
theorem o_mul (mu : Bool) : Op2 Γ (rMulA Γ.K) (fMul mu) := by
  intro W σ π H x y a b st Q S rx ry h
  cases b with
  | int k =>
    have lists : ∀ {a : D}, Rep Γ π H x a → Out Γ (Rep Γ) W σ π H (match getM a st with
      | some s => if -(2 ^ 63) ≤ k ∧ k < 2 ^ 63 ∧ s.length * k.toNat ≤ sz then mkL mu (List.replicate k.toNat s).flatten st else .no
      | _ => .no) Q → rMulA Γ.K x y H Q := fun {a} rx h => by
      split at h
      · rename_i s e1
        split at h
        · rename_i hz
          obtain ⟨p, vs, rfl, hp, r1⟩ := getM_ok S rx e1
          exact .inr (.inr ⟨p, k, vs, rfl, ry, hp, hz.1, hz.2.1, by rw [r1.length, sizeLine_eq]; exact hz.2.2, fun l hl => h.newL S (r1.reps _) hl⟩)
        · exact h.elim
      · exact h.elim
    cases a with
    | int i =>
      unfold fMul at h
      dsimp only at h
      split at h
      · rename_i hc
        exact .inl (.inl ⟨i, k, rx, ry, cMul_ok i k hc, h.now S rfl⟩)
      · exact h.elim
    | tup s =>
      unfold fMul at h
      dsimp only at h
      split at h
      · exact h.elim
      · rename_i hs
        split at h
        · rename_i hz
          obtain ⟨p, vs, rfl, hp, r1⟩ := rx
          refine .inr (.inl ⟨p, k, vs, rfl, ry, SqT.of hp, fun e => hs ?_, hz.1, hz.2.1, by rw [r1.length]; exact hz.2.2, fun l hl => h.newT S (r1.reps _) hl⟩)
          have := r1.length
          rw [e] at this
          exact List.isEmpty_iff.mpr (List.length_eq_zero_iff.mp this.symm)
        · exact h.elim
    | non => exact lists (a := .non) rx h
    | bl _ => exact lists (a := .bl _) rx h
    | str l =>
      unfold fMul at h
      dsimp only at h
      split at h
      · rename_i hc
        exact .inl (.inr ⟨⟨⟨l⟩⟩, k, rx, ry, hc.1, hc.2.1, hc.2.2, h.now S rfl⟩)
      · exact h.elim
    | lst _ => exact lists (a := .lst _) rx h
    | rol _ => exact lists (a := .rol _) rx h
    | cell _ => exact lists (a := .cell _) rx h
    | ktp _ => exact lists (a := .ktp _) rx h
    | dic _ => exact lists (a := .dic _) rx h
    | xz _ => exact lists (a := .xz _) rx h
    | xo _ _ => exact lists (a := .xo _ _) rx h
  | _ => cases a <;> exact h.elim
end
end Dn
end

section
set_option Elab.async false
set_option linter.all false
set_option maxRecDepth 100000
namespace Dn
open PySem PySem.Spec PyProof.Rows L2

/-! ### == of data -/
def eqL (f : D → D → Bool) : List D → List D → Bool
  | [], [] => true
  | x :: xs, y :: ys => f x y && eqL f xs ys
  | _, _ => false
def mapL {α β : Type} (f : α → β) : List α → List β
  | [] => []
  | x :: xs => f x :: mapL f xs
def allL {α : Type} (f : α → Bool) : List α → Bool
  | [] => true
  | x :: xs => f x && allL f xs
def okD : Nat → Sto → D → Bool
  | 0, _, _ => false
  | n + 1, st, d => match d with
    | .non => true
    | .bl _ => true
    | .int _ => true
    | .str l => allL (fun c => decide (c < 0x110000)) l
    | .tup ds => allL (okD n st) ds
    | d => match getL d st with
      | some ds => allL (okD n st) ds
      | none => false
def eqO (f : D → D → Bool) : Option (List D) → Option (List D) → Bool
  | some x, some y => eqL f x y
  | _, _ => false
theorem eqO_l (f : D → D → Bool) : ∀ o, eqO f none o = false
  | none => rfl
  | some _ => rfl
theorem eqO_r (f : D → D → Bool) : ∀ o, eqO f o none = false
  | none => rfl
  | some _ => rfl
def eqD : Nat → Sto → D → D → Bool
  | 0, _, _, _ => false
  | n + 1, st, a, b => match a, b with
    | .non, .non => true
    | .bl x, .bl y => x == y
    | .bl x, .int y => (if x then 1 else 0) == y
    | .int x, .bl y => x == (if y then 1 else 0)
    | .int x, .int y => x == y
    | .str x, .str y => decide (x = y)
    | .tup x, .tup y => eqL (eqD n st) x y
    | a, b => eqO (eqD n st) (getL a st) (getL b st)
def toPd : Nat → Sto → D → PyData
  | 0, _, _ => .none
  | n + 1, st, d => match d with
    | .non => .none
    | .bl b => .bool b
    | .int i => .int i
    | .str l => .str ⟨⟨l⟩⟩
    | .tup ds => .tuple (mapL (toPd n st) ds)
    | d => match getL d st with
      | some ds => .list (mapL (toPd n st) ds)
      | none => .none
section
variable {Γ : Gm} {π : Pl} {H : Hp} {st : Sto}
theorem eqvAll_map (f : D → PyData) (g : D → D → Bool) (h : ∀ a b, g a b = PyData.eqv (f a) (f b)) : ∀ xs ys : List D, eqL g xs ys = PyData.eqvAll (mapL f xs) (mapL f ys)
  | [], [] => rfl
  | [], _ :: _ => rfl
  | _ :: _, [] => rfl
  | x :: xs, y :: ys => by
    show (g x y && eqL g xs ys) = (PyData.eqv (f x) (f y) && PyData.eqvAll (mapL f xs) (mapL f ys))
    rw [h, eqvAll_map f g h xs ys]
theorem str_beq (l m : List Nat) : ((⟨⟨l⟩⟩ : Str) == ⟨⟨m⟩⟩) = decide (l = m) := by
  by_cases e : l = m
  · subst e
    simp
  · rw [decide_eq_false e]
    refine beq_eq_false_iff_ne.mpr fun z => e ?_
    injection z with z
    injection z
def toLs (n : Nat) (st : Sto) (d : D) : PyData := match getL d st with
  | some ds => .list (mapL (toPd n st) ds)
  | none => .none
/-- a list on one side only -/
theorem eqv_list_ne {xs : List PyData} : ∀ {p : PyData}, (∀ ys, p ≠ .list ys) → PyData.eqv (.list xs) p = false ∧ PyData.eqv p (.list xs) = false
  | .none, _ => ⟨rfl, rfl⟩
  | .bool _, _ => ⟨rfl, rfl⟩
  | .int _, _ => ⟨rfl, rfl⟩
  | .str _, _ => ⟨rfl, rfl⟩
  | .tuple _, _ => ⟨rfl, rfl⟩
  | .dict _, _ => ⟨rfl, rfl⟩
  | .list ys, h => absurd rfl (h ys)
end
/-- is it a list -/
def isL : D → Bool
  | .lst _ => true
  | .rol _ => true
  | .cell _ => true
  | _ => false
section
variable {Γ : Gm} {π : Pl} {H : Hp} {st : Sto}
theorem okD_L {n : Nat} {d : D} (h : okD (n + 1) st d = true) (hl : isL d = true) : ∃ ds, getL d st = some ds ∧ allL (okD n st) ds = true := by
  have go : ∀ (o : Option (List D)), (match o with | some ds => allL (okD n st) ds | none => false) = true → ∃ ds, o = some ds ∧ allL (okD n st) ds = true := fun o q => by
    cases o with
    | none => cases q
    | some ds => exact ⟨ds, rfl, q⟩
  cases d with
  | lst ds => exact ⟨ds, rfl, h⟩
  | rol ds => exact ⟨ds, rfl, h⟩
  | cell k => exact go _ h
  | _ => cases hl
theorem toPd_L {n : Nat} {d : D} (hl : isL d = true) : toPd (n + 1) st d = toLs n st d := by
  cases d with
  | lst ds => rfl
  | rol ds => rfl
  | cell k => rfl
  | _ => cases hl
theorem allL_at {α : Type} {f : α → Bool} : ∀ {xs : List α}, allL f xs = true → ∀ x ∈ xs, f x = true
  | [], _, _, h => nomatch h
  | y :: ys, h, x, hx => by
    have h' : (f y && allL f ys) = true := h
    rw [Bool.and_eq_true] at h'
    rcases List.mem_cons.mp hx with e | e
    · rw [e]; exact h'.1
    · exact allL_at h'.2 x e
theorem eqvAll_ok (f : D → PyData) (g : D → D → Bool) : ∀ (xs ys : List D), (∀ a ∈ xs, ∀ b ∈ ys, g a b = PyData.eqv (f a) (f b)) → eqL g xs ys = PyData.eqvAll (mapL f xs) (mapL f ys)
  | [], [], _ => rfl
  | [], _ :: _, _ => rfl
  | _ :: _, [], _ => rfl
  | x :: xs, y :: ys, h => by
    show (g x y && eqL g xs ys) = (PyData.eqv (f x) (f y) && PyData.eqvAll (mapL f xs) (mapL f ys))
    rw [h x List.mem_cons_self y List.mem_cons_self, eqvAll_ok f g xs ys fun a ha b hb => h a (List.mem_cons_of_mem _ ha) b (List.mem_cons_of_mem _ hb)]
theorem eqD_LL {n : Nat} {a b : D} (la : isL a = true) (lb : isL b = true) : eqD (n + 1) st a b = eqO (eqD n st) (getL a st) (getL b st) := by
  cases a <;> first | (cases la; done) | skip
  all_goals (cases b <;> first | (cases lb; done) | skip)
  all_goals rfl
theorem eqD_L0 {n : Nat} {a b : D} (la : isL a = true) (lb : isL b = false) : eqD (n + 1) st a b = false := by
  refine Eq.trans (b := eqO (eqD n st) (getL a st) none) ?_ (eqO_r _ _)
  cases a <;> first | (cases la; done) | skip
  all_goals (cases b <;> first | (cases lb; done) | skip)
  all_goals rfl
theorem eqD_0L {n : Nat} {a b : D} (la : isL a = false) (lb : isL b = true) : eqD (n + 1) st a b = false := by
  refine Eq.trans (b := eqO (eqD n st) none (getL b st)) ?_ (eqO_l _ _)
  cases a <;> first | (cases la; done) | skip
  all_goals (cases b <;> first | (cases lb; done) | skip)
  all_goals rfl
theorem eqD_ok : ∀ (n : Nat) (a b : D), okD n st a = true → okD n st b = true → eqD n st a b = PyData.eqv (toPd n st a) (toPd n st b)
  | 0, _, _, h, _ => by cases h
  | n + 1, a, b, ha, hb => by
    have both : isL a = true → isL b = true → eqD (n + 1) st a b = PyData.eqv (toPd (n + 1) st a) (toPd (n + 1) st b) := fun la lb => by
      obtain ⟨x, e1, o1⟩ := okD_L ha la
      obtain ⟨y, e2, o2⟩ := okD_L hb lb
      rw [toPd_L la, toPd_L lb]
      have q : eqD (n + 1) st a b = eqL (eqD n st) x y := by
        rw [eqD_LL la lb, e1, e2]
        rfl
      rw [q]
      unfold toLs
      rw [e1, e2]
      exact eqvAll_ok _ _ x y fun a ha' b hb' => eqD_ok n a b (allL_at o1 a ha') (allL_at o2 b hb')
    have left : isL a = true → isL b = false → eqD (n + 1) st a b = PyData.eqv (toPd (n + 1) st a) (toPd (n + 1) st b) := fun la lb => by
      obtain ⟨x, e1, o1⟩ := okD_L ha la
      rw [toPd_L la]
      have q : toLs n st a = .list (mapL (toPd n st) x) := by unfold toLs; rw [e1]
      rw [q]
      rw [eqD_L0 la lb]
      cases b <;> first | (cases lb; done) | (exact Bool.noConfusion (show false = true from hb)) | skip
      all_goals exact (eqv_list_ne (xs := mapL (toPd n st) x) (fun ys z => by simp [toPd] at z)).1.symm
    have right : isL a = false → isL b = true → eqD (n + 1) st a b = PyData.eqv (toPd (n + 1) st a) (toPd (n + 1) st b) := fun la lb => by
      obtain ⟨x, e1, o1⟩ := okD_L hb lb
      rw [toPd_L lb]
      have q : toLs n st b = .list (mapL (toPd n st) x) := by unfold toLs; rw [e1]
      rw [q]
      rw [eqD_0L la lb]
      cases a <;> first | (cases la; done) | (exact Bool.noConfusion (show false = true from ha)) | skip
      all_goals exact (eqv_list_ne (xs := mapL (toPd n st) x) (fun ys z => by simp [toPd] at z)).2.symm
    cases la : isL a with
    | true =>
      cases lb : isL b with
      | true => exact both la lb
      | false => exact left la lb
    | false =>
      cases lb : isL b with
      | true => exact right la lb
      | false =>
        cases a <;> first | (cases la; done) | (exact Bool.noConfusion (show false = true from ha)) | skip
        all_goals (cases b <;> first | (cases lb; done) | (exact Bool.noConfusion (show false = true from hb)) | skip)
        all_goals first
          | rfl
          | (exact (str_beq _ _).symm)
          | (exact eqvAll_ok _ _ _ _ fun a ha' b hb' => eqD_ok n a b (allL_at (show allL (okD n st) _ = true from ha) a ha') (allL_at (show allL (okD n st) _ = true from hb) b hb'))
theorem depthAll_le (f : D → PyData) (n : Nat) : ∀ xs : List D, (∀ x ∈ xs, (f x).depth ≤ n) → PyData.depthAll (mapL f xs) ≤ n
  | [], _ => Nat.zero_le _
  | x :: xs, h => Nat.max_le.mpr ⟨h x List.mem_cons_self, depthAll_le f n xs fun y hy => h y (List.mem_cons_of_mem _ hy)⟩
theorem canAll (f : D → PyData) : ∀ xs : List D, (∀ x ∈ xs, (f x).canLay0 = true) → PyData.canLayAll0 (mapL f xs) = true
  | [], _ => rfl
  | x :: xs, h => by
    show (PyData.canLay0 (f x) && PyData.canLayAll0 (mapL f xs)) = true
    rw [h x List.mem_cons_self, canAll f xs fun y hy => h y (List.mem_cons_of_mem _ hy)]
    rfl
theorem toPd_can : ∀ (n : Nat) (d : D), okD n st d = true → (toPd n st d).canLay0 = true
  | 0, _, h => by cases h
  | n + 1, d, h => by
    cases l : isL d with
    | true =>
      obtain ⟨x, e, o⟩ := okD_L h l
      rw [toPd_L l]
      unfold toLs
      rw [e]
      exact canAll _ x fun y hy => toPd_can n y (allL_at o y hy)
    | false =>
      cases d <;> first | (cases l; done) | (exact Bool.noConfusion (show false = true from h)) | skip
      · rfl
      · rfl
      · rfl
      · rename_i s
        show PySem.PyData.strOk _ = true
        unfold PySem.PyData.strOk
        rw [← Array.all_toList]
        exact List.all_eq_true.mpr fun c hc => allL_at (show allL _ s = true from h) c hc
      · exact canAll _ _ fun y hy => toPd_can n y (allL_at (show allL (okD n st) _ = true from h) y hy)
theorem toPd_depth : ∀ (n : Nat) (d : D), (toPd n st d).depth ≤ n
  | 0, _ => Nat.le_refl _
  | n + 1, d => by
    cases l : isL d with
    | true =>
      rw [toPd_L l]
      unfold toLs
      cases getL d st with
      | none => exact Nat.zero_le _
      | some x => exact Nat.succ_le_succ (depthAll_le _ n x fun y _ => toPd_depth n y)
    | false =>
      cases d <;> first | (cases l; done) | skip
      · exact Nat.zero_le _
      · exact Nat.zero_le _
      · exact Nat.zero_le _
      · exact Nat.zero_le _
      · exact Nat.succ_le_succ (depthAll_le _ n _ fun y _ => toPd_depth n y)
      · exact Nat.zero_le _
      · exact Nat.zero_le _
      · exact Nat.zero_le _
      · exact Nat.zero_le _
theorem toPd_all (f : D → PyData) : ∀ {vs : List V} {ds : List D}, RepL Γ π H vs ds → (∀ v d, d ∈ ds → Rep Γ π H v d → Dp Γ.K H v (f d)) → DpAll Γ.K H vs (mapL f ds)
  | _, [], h, _ => by rw [show _ = [] from h]; exact .nil
  | _, _ :: _, ⟨v, vr, a, b, c⟩, h => by
    subst a
    exact .cons (h v _ List.mem_cons_self b) (toPd_all f c fun w d hd r => h w d (List.mem_cons_of_mem _ hd) r)
theorem toPd_ok (S : StR Γ π H st) : ∀ (n : Nat) (v : V) (d : D), okD n st d = true → Rep Γ π H v d → Dp Γ.K H v (toPd n st d)
  | 0, _, _, h, _ => by cases h
  | n + 1, v, d, h, r => by
    cases l : isL d with
    | true =>
      obtain ⟨x, e, o⟩ := okD_L h l
      obtain ⟨p, vs, rfl, hq, rl⟩ := getL_ok S r e
      rw [toPd_L l]
      unfold toLs
      rw [e]
      exact .lst hq (toPd_all _ rl fun w y hy rw' => toPd_ok S n w y (allL_at o y hy) rw')
    | false =>
      cases d <;> first | (cases l; done) | (exact Bool.noConfusion (show false = true from h)) | skip
      · rw [show v = .non from r]; exact .non
      · rw [show v = _ from r]; exact .bl _
      · rw [show v = _ from r]; exact .int _
      · rw [show v = _ from r]; exact .str _
      · obtain ⟨p, vs, rfl, hq, rl⟩ := r
        exact .tup (SqT.of hq) (toPd_all _ rl fun w y hy rw' => toPd_ok S n w y (allL_at (show allL (okD n st) _ = true from h) y hy) rw')
def fEq (neg : Bool) (a b : D) (st : Sto) : Rs D := match a, b with
  | .int i, .int j => .ok (.bl (neg != decide (i = j))) st
  | .str s, .str t => .ok (.bl (neg != decide (s = t))) st
  | .bl i, .bl j => .ok (.bl (neg != (i == j))) st
  | a, b => if okD 64 st a && okD 64 st b then .ok (.bl (neg != eqD 64 st a b)) st else .no
def rEqA (K : PySem.W.Frag) (neg : Bool) : R2 := fun x y H Q => (scal x y = true ∧ Q (.bl (neg != decide (x = y))) H) ∨ ∃ d e, Dp K H x d ∧ Dp K H y e ∧ SeqAt.shaped d = true ∧ SeqAt.shaped e = true ∧ Q (.bl (neg != PyData.eqv d e)) H
theorem op_eqA {X : Cx} (hu : X.A.units + 64 < cLine) : OpR X (compareOp .Eq) (rEqA X.K false) := by
  intro pins s σ H x y v u Q I rx ry h
  rcases h with ⟨h1, h2⟩ | ⟨d, e, h1, h2, h3, h4, h5⟩
  · exact op_eq pins s σ H x y v u Q I rx ry ⟨h1, by simpa using h2⟩
  · exact op_eqD hu pins s σ H x y v u Q I rx ry ⟨d, e, h1, h2, h3, h4, by simpa using h5⟩
theorem op_neA {X : Cx} (hu : X.A.units + 64 < cLine) : OpR X (compareOp .NotEq) (rEqA X.K true) := by
  intro pins s σ H x y v u Q I rx ry h
  rcases h with ⟨h1, h2⟩ | ⟨d, e, h1, h2, h3, h4, h5⟩
  · exact op_ne pins s σ H x y v u Q I rx ry ⟨h1, by simpa using h2⟩
  · exact op_neD hu pins s σ H x y v u Q I rx ry ⟨d, e, h1, h2, h3, h4, by simpa using h5⟩
theorem shaped_pd {d : D} (h : okD 64 st d = true) : SeqAt.shaped (toPd 64 st d) = true := by
  unfold SeqAt.shaped
  rw [toPd_can 64 d h, decide_eq_true (toPd_depth 64 d)]
  rfl
theorem o_eq (neg : Bool) : Op2 Γ (rEqA Γ.K neg) (fEq neg) := by
  intro W σ π H x y a b st Q S rx ry h
  have all : ∀ {a b : D}, Rep Γ π H x a → Rep Γ π H y b → Out Γ (Rep Γ) W σ π H (if okD 64 st a && okD 64 st b then .ok (.bl (neg != eqD 64 st a b)) st else .no) Q → rEqA Γ.K neg x y H Q := fun {a b} rx ry h => by
    split at h
    · rename_i hh
      rw [Bool.and_eq_true] at hh
      refine .inr ⟨_, _, toPd_ok S 64 x a hh.1 rx, toPd_ok S 64 y b hh.2 ry, shaped_pd hh.1, shaped_pd hh.2, ?_⟩
      rw [← eqD_ok 64 a b hh.1 hh.2]
      exact h.now S rfl
    · exact h.elim
  cases a with
  | int i =>
    cases b with
    | int j =>
      rw [show x = .int i from rx, show y = .int j from ry]
      refine .inl ⟨rfl, ?_⟩
      rw [dec_int, Bool.beq_eq_decide_eq]
      exact h.now S rfl
    | _ => exact all (a := .int i) rx ry h
  | str s =>
    cases b with
    | str t =>
      rw [show x = _ from rx, show y = _ from ry]
      refine .inl ⟨rfl, ?_⟩
      rw [dec_str, str_beq]
      exact h.now S rfl
    | _ => exact all (a := .str s) rx ry h
  | bl i =>
    cases b with
    | bl j =>
      rw [show x = .bl i from rx, show y = .bl j from ry]
      refine .inl ⟨rfl, ?_⟩
      rw [dec_bl]
      exact h.now S rfl
    | _ => exact all (a := .bl i) rx ry h
  | non => exact all (a := .non) rx ry h
  | tup k => exact all (a := .tup k) rx ry h
  | lst k => exact all (a := .lst k) rx ry h
  | rol k => exact all (a := .rol k) rx ry h
  | cell k => exact all (a := .cell k) rx ry h
  | ktp k => exact all (a := .ktp k) rx ry h
  | dic k => exact all (a := .dic k) rx ry h
  | xz k => exact all (a := .xz k) rx ry h
  | xo k l => exact all (a := .xo k l) rx ry h
end

/-! ### is None -/
def isNon : D → Bool
  | .non => true
  | _ => false
def fIs (neg : Bool) (a b : D) (st : Sto) : Rs D := match b with
  | .non => .ok (.bl (neg != isNon a)) st
  | _ => .no
theorem isNon_ok {Γ : Gm} {π : Pl} {H : Hp} {v : V} {d : D} (r : Rep Γ π H v d) : decide (v = .non) = isNon d := by
  cases d with
  | non => rw [show v = .non from r]; rfl
  | bl _ => rw [show v = _ from r]; rfl
  | int _ => rw [show v = _ from r]; rfl
  | str _ => rw [show v = _ from r]; rfl
  | tup _ => obtain ⟨p, vs, rfl, _⟩ := r; rfl
  | lst _ => obtain ⟨p, vs, rfl, _⟩ := r; rfl
  | rol _ => obtain ⟨p, vs, rfl, _⟩ := r; rfl
  | cell _ => obtain ⟨p, rfl, _⟩ := r; rfl
  | ktp _ => obtain ⟨p, vs, rfl, _⟩ := r; rfl
  | dic _ => obtain ⟨p, rfl, _⟩ := r; rfl
  | xz _ => obtain ⟨p, C, rfl, _⟩ := r; rfl
  | xo _ _ => obtain ⟨p, C, dd, w, rfl, _⟩ := r; rfl
theorem o_is {Γ : Gm} : Op2 Γ (fun x y H Q => y = .non ∧ Q (.bl (decide (x = .non))) H) (fIs false) := fun W σ π H x y a b st Q S rx ry h => by
  cases b with
  | non =>
    refine ⟨ry, ?_⟩
    rw [isNon_ok rx]
    have h' : Out Γ (Rep Γ) W σ π H (.ok (.bl (false != isNon a)) st) Q := h
    rw [Bool.false_bne] at h'
    exact h'.now S rfl
  | _ => exact h.elim
theorem o_isn {Γ : Gm} : Op2 Γ (fun x y H Q => y = .non ∧ Q (.bl (!decide (x = .non))) H) (fIs true) := fun W σ π H x y a b st Q S rx ry h => by
  cases b with
  | non =>
    refine ⟨ry, ?_⟩
    rw [isNon_ok rx]
    have h' : Out Γ (Rep Γ) W σ π H (.ok (.bl (true != isNon a)) st) Q := h
    rw [Bool.true_bne] at h'
    exact h'.now S rfl
  | _ => exact h.elim

/-! ### signs in a text, texts in order -/
def memN (c : Nat) : List Nat → Bool
  | [] => false
  | x :: xs => (x == c) || memN c xs
theorem memN_ok (c : Nat) : ∀ l : List Nat, memN c l = decide (c ∈ l)
  | [] => by simp [memN]
  | x :: xs => by
    unfold memN
    rw [memN_ok c xs]
    by_cases e : x = c
    · subst e; simp
    · have e' : ¬ c = x := fun z => e z.symm
      by_cases m : c ∈ xs <;> simp [e, e', m]
def fInS (neg : Bool) (a b : D) (st : Sto) : Rs D := match a, b with
  | .str [c], .str l => .ok (.bl (neg != memN c l)) st
  | _, _ => .no
theorem arr1 (c : Nat) : (⟨⟨[c]⟩⟩ : Str) = ⟨#[c]⟩ := rfl
theorem o_inS {Γ : Gm} : Op2 Γ (fun x y H Q => ∃ (c : Nat) (z : Str), x = .str ⟨#[c]⟩ ∧ y = .str z ∧ Q (.bl (decide (c ∈ z.cps.toList))) H) (fInS false) := fun W σ π H x y a b st Q S rx ry h => by
  unfold fInS at h
  split at h
  · rename_i c l
    refine ⟨c, _, rx, ry, ?_⟩
    rw [← memN_ok]
    rw [Bool.false_bne] at h
    exact h.now S rfl
  · exact h.elim
theorem o_ninS {Γ : Gm} : Op2 Γ (fun x y H Q => ∃ (c : Nat) (z : Str), x = .str ⟨#[c]⟩ ∧ y = .str z ∧ Q (.bl (!decide (c ∈ z.cps.toList))) H) (fInS true) := fun W σ π H x y a b st Q S rx ry h => by
  unfold fInS at h
  split at h
  · rename_i c l
    refine ⟨c, _, rx, ry, ?_⟩
    rw [← memN_ok]
    rw [Bool.true_bne] at h
    exact h.now S rfl
  · exact h.elim
end Dn
end

section
set_option Elab.async false
set_option linter.all false
set_option maxRecDepth 100000
namespace Dn
open PySem PySem.Spec PyProof.Rows L2

abbrev gx (X : Cx) (ce : Nat → Option Addr) (fe : Nat → Str) (tb : List Addr) : Gm := ⟨X.K, ce, fe, tb⟩

/-! ### truth, tests -/
def tru (d : D) (st : Sto) : Option Bool := match d with
  | .non => some false
  | .bl b => some b
  | .int i => some (i != 0)
  | .str l => if l.length ≤ sz then some ((l.length : Int) != 0) else none
  | d => match getS d st with
    | some ds => some (!ds.isEmpty)
    | none => none
section
variable {Γ : Gm} {π : Pl} {H : Hp} {st : Sto} {v : V}
theorem isEmpty_len {α β : Type} {xs : List α} {ys : List β} (h : xs.length = ys.length) : xs.isEmpty = ys.isEmpty := by
  cases xs <;> cases ys <;> first | rfl | cases h
theorem tru_rep {d : D} {k : Bool} (S : StR Γ π H st) (r : Rep Γ π H v d) (h : tru d st = some k) : TruV Γ.K v H k := by
  have lists : ∀ {d : D}, Rep Γ π H v d → (match getS d st with
    | some ds => some (!ds.isEmpty)
    | none => none) = some k → TruV Γ.K v H k := fun {d} r h => by
    split at h
    · rename_i ds e
      obtain ⟨p, vs, rfl, hq, rl⟩ := getS_ok S r e
      have e2 : (!vs.isEmpty) = k := by rw [isEmpty_len rl.length]; exact Option.some.inj h
      rcases hq with hq | hq
      · exact .inl ⟨vs, hq, e2.symm⟩
      · exact .inr (.inl ⟨vs, hq, e2.symm⟩)
    · cases h
  cases d with
  | non => rw [show v = .non from r]; exact (Option.some.inj h).symm
  | bl _ => rw [show v = _ from r]; exact (Option.some.inj h).symm
  | int _ => rw [show v = _ from r]; exact (Option.some.inj h).symm
  | str l =>
    rw [show v = _ from r]
    unfold tru at h
    dsimp only at h
    split at h
    · rename_i hz
      exact ⟨by rw [str_len, sizeLine_eq]; exact hz, by rw [str_len]; exact (Option.some.inj h).symm⟩
    · cases h
  | tup _ => exact lists (d := .tup _) r h
  | lst _ => exact lists (d := .lst _) r h
  | rol _ => exact lists (d := .rol _) r h
  | cell _ => exact lists (d := .cell _) r h
  | ktp _ => exact lists (d := .ktp _) r h
  | dic _ => exact lists (d := .dic _) r h
  | xz _ => exact lists (d := .xz _) r h
  | xo _ _ => exact lists (d := .xo _ _) r h
end
def tru' (d : D) (st : Sto) : Rs Bool := match tru d st with
  | some k => .ok k st
  | none => .no
/-- truth of any value -/
def asTru (ma : Env → Sto → Rs D) : Env → Sto → Rs Bool := fun env st => (ma env st).bind tru'
def mNotT (t : Env → Sto → Rs Bool) : Env → Sto → Rs Bool := fun env st => (t env st).bind fun b st1 => .ok (!b) st1
def mAndT (t u : Env → Sto → Rs Bool) : Env → Sto → Rs Bool := fun env st => (t env st).bind fun b st1 => match b with
  | true => u env st1
  | false => .ok false st1
def mOrT (t u : Env → Sto → Rs Bool) : Env → Sto → Rs Bool := fun env st => (t env st).bind fun b st1 => match b with
  | true => .ok true st1
  | false => u env st1
def mAnd (ma mb : Env → Sto → Rs D) : Env → Sto → Rs D := fun env st => (ma env st).bind fun d st1 => match tru d st1 with
  | some true => mb env st1
  | some false => .ok d st1
  | none => .no
def mOr (ma mb : Env → Sto → Rs D) : Env → Sto → Rs D := fun env st => (ma env st).bind fun d st1 => match tru d st1 with
  | some true => .ok d st1
  | some false => mb env st1
  | none => .no
def mNot (ma : Env → Sto → Rs D) : Env → Sto → Rs D := fun env st => (ma env st).bind fun d st1 => match tru d st1 with
  | some k => .ok (.bl (!k)) st1
  | none => .no
def mIf (t : Env → Sto → Rs Bool) (ma mb : Env → Sto → Rs D) : Env → Sto → Rs D := fun env st => (t env st).bind fun b st1 => match b with
  | true => ma env st1
  | false => mb env st1
section
variable {X : Cx} {W : WX} {a b c e : Expr} {rest : List Expr} {pos : Pos} {ma mb : Env → Sto → Rs D} {ta tu : Env → Sto → Rs Bool} {ce : Nat → Option Addr} {fe : Nat → Str} {tb : List Addr}
theorem den_truth (ha : PE X a (tE (gx X ce fe tb) W ma)) (he : ∀ whole, isTrue a X.env whole = (do let v ← whole; standAt a.pos; holding [v] (truthy v)) := by intro _; rfl) : PT X a (tT (gx X ce fe tb) W (asTru ma)) := by
  refine imT (pt_truth ha he) fun σ H Q ⟨π, env, st, E, S, h⟩ => ?_
  refine bindG E S h fun π1 H1 x d st1 e1 E1 S1 r1 h1 => ?_
  unfold tru' at h1
  split at h1
  · rename_i k e
    exact ⟨k, tru_rep S1 r1 e, h1.now S1 rfl⟩
  · exact h1.elim
theorem den_tnot (ha : PT X a (tT (gx X ce fe tb) W ta)) : PT X (.UnaryOp .Not a pos) (tT (gx X ce fe tb) W (mNotT ta)) := by
  refine imT (pt_not ha) fun σ H Q ⟨π, env, st, E, S, h⟩ => ?_
  refine bindG E S h fun π1 H1 x d st1 e1 E1 S1 r1 h1 => ?_
  rw [show x = d from r1]
  exact h1.now S1 rfl
theorem den_and1 (ha : PT X a (tT (gx X ce fe tb) W ta)) : PW X (.BoolOp .And [a] pos) (tT (gx X ce fe tb) W ta) := pw_and1 ha
theorem den_or1 (ha : PT X a (tT (gx X ce fe tb) W ta)) : PW X (.BoolOp .Or [a] pos) (tT (gx X ce fe tb) W ta) := pw_or1 ha
theorem den_tand (ha : PT X a (tT (gx X ce fe tb) W ta)) (hb : PW X (.BoolOp .And (b :: rest) pos) (tT (gx X ce fe tb) W tu)) : PW X (.BoolOp .And (a :: b :: rest) pos) (tT (gx X ce fe tb) W (mAndT ta tu)) := by
  refine imW (pw_and ha hb) fun σ H Q ⟨π, env, st, E, S, h⟩ => ?_
  refine bindG E S h fun π1 H1 x d st1 e1 E1 S1 r1 h1 => ?_
  rw [show x = d from r1]
  cases d with
  | true => exact iteT ⟨π1, env, st1, E1, S1, h1⟩
  | false => exact iteF (h1.now S1 rfl)
theorem den_tor (ha : PT X a (tT (gx X ce fe tb) W ta)) (hb : PW X (.BoolOp .Or (b :: rest) pos) (tT (gx X ce fe tb) W tu)) : PW X (.BoolOp .Or (a :: b :: rest) pos) (tT (gx X ce fe tb) W (mOrT ta tu)) := by
  refine imW (pw_or ha hb) fun σ H Q ⟨π, env, st, E, S, h⟩ => ?_
  refine bindG E S h fun π1 H1 x d st1 e1 E1 S1 r1 h1 => ?_
  rw [show x = d from r1]
  cases d with
  | true => exact iteT (h1.now S1 rfl)
  | false => exact iteF ⟨π1, env, st1, E1, S1, h1⟩
theorem den_w {e : Expr} (h : PW X e (tT (gx X ce fe tb) W ta)) : PT X e (tT (gx X ce fe tb) W ta) := h.pt
theorem den_one {op} (h : PE X a (tE (gx X ce fe tb) W ma)) : PE X (.BoolOp op [a] pos) (tE (gx X ce fe tb) W ma) := pe_one h
theorem den_and (ha : PE X a (tE (gx X ce fe tb) W ma)) (hb : PE X (.BoolOp .And (b :: rest) pos) (tE (gx X ce fe tb) W mb)) : PE X (.BoolOp .And (a :: b :: rest) pos) (tE (gx X ce fe tb) W (mAnd ma mb)) := by
  refine imE (pe_andT ha hb) fun σ H Q ⟨π, env, st, E, S, h⟩ => ?_
  refine bindG E S h fun π1 H1 x d st1 e1 E1 S1 r1 h1 => ?_
  split at h1
  · rename_i e
    exact ⟨true, tru_rep S1 r1 e, iteT ⟨π1, env, st1, E1, S1, h1⟩⟩
  · rename_i e
    exact ⟨false, tru_rep S1 r1 e, iteF (h1.now S1 r1)⟩
  · exact h1.elim
theorem den_or (ha : PE X a (tE (gx X ce fe tb) W ma)) (hb : PE X (.BoolOp .Or (b :: rest) pos) (tE (gx X ce fe tb) W mb)) : PE X (.BoolOp .Or (a :: b :: rest) pos) (tE (gx X ce fe tb) W (mOr ma mb)) := by
  refine imE (pe_orT ha hb) fun σ H Q ⟨π, env, st, E, S, h⟩ => ?_
  refine bindG E S h fun π1 H1 x d st1 e1 E1 S1 r1 h1 => ?_
  split at h1
  · rename_i e
    exact ⟨true, tru_rep S1 r1 e, iteT (h1.now S1 r1)⟩
  · rename_i e
    exact ⟨false, tru_rep S1 r1 e, iteF ⟨π1, env, st1, E1, S1, h1⟩⟩
  · exact h1.elim
theorem den_not (ha : PE X a (tE (gx X ce fe tb) W ma)) : PE X (.UnaryOp .Not a pos) (tE (gx X ce fe tb) W (mNot ma)) := by
  refine imE (pe_notT ha) fun σ H Q ⟨π, env, st, E, S, h⟩ => ?_
  refine bindG E S h fun π1 H1 x d st1 e1 E1 S1 r1 h1 => ?_
  split at h1
  · rename_i k e
    exact ⟨k, tru_rep S1 r1 e, h1.now S1 rfl⟩
  · exact h1.elim
end
section
variable {X : Cx} {Γ : Gm} {W : WX} {a b c e : Expr} {es : List Expr} {pos : Pos} {ma mb : Env → Sto → Rs D} {ta tu : Env → Sto → Rs Bool} {ml mk : Env → Sto → Rs (List D)}
theorem den_if (hc : PT X c (tT Γ W ta)) (ha : PE X a (tE Γ W ma)) (hb : PE X b (tE Γ W mb)) : PE X (.IfExp c a b pos) (tE Γ W (mIf ta ma mb)) := by
  refine imE (pe_ifExp hc ha hb) fun σ H Q ⟨π, env, st, E, S, h⟩ => ?_
  refine bindG E S h fun π1 H1 x d st1 e1 E1 S1 r1 h1 => ?_
  rw [show x = d from r1]
  cases d with
  | true => exact iteT ⟨π1, env, st1, E1, S1, h1⟩
  | false => exact iteF ⟨π1, env, st1, E1, S1, h1⟩

/-! ### several values, displays -/
def lNil : Env → Sto → Rs (List D) := fun _ st => .ok [] st
def lCons (ma : Env → Sto → Rs D) (ml : Env → Sto → Rs (List D)) : Env → Sto → Rs (List D) := fun env st => (ma env st).bind fun d st1 => (ml env st1).bind fun ds st2 => .ok (d :: ds) st2
def lStar (ma : Env → Sto → Rs D) (ml : Env → Sto → Rs (List D)) : Env → Sto → Rs (List D) := fun env st => (ma env st).bind fun d st1 => match d with
  | .tup es => (ml env st1).bind fun ds st2 => .ok (es ++ ds) st2
  | .lst es => (ml env st1).bind fun ds st2 => .ok (es ++ ds) st2
  | .rol es => (ml env st1).bind fun ds st2 => .ok (es ++ ds) st2
  | _ => .no
theorem den_nil : PA X [] (tL Γ W lNil) := imA pa_nil fun σ H Q ⟨π, env, st, E, S, h⟩ => h.now S rfl
theorem den_cons (ha : PE X e (tE Γ W ma)) (hr : PA X es (tL Γ W ml)) (hs : starEach (e :: es) X.env = (false, eval e X.env) :: starEach es X.env := by rfl) : PA X (e :: es) (tL Γ W (lCons ma ml)) := by
  refine imA (pa_cons ha hr hs) fun σ H Q ⟨π, env, st, E, S, h⟩ => ?_
  refine bindG E S h fun π1 H1 x d st1 e1 E1 S1 r1 h1 => ?_
  refine bindG E1 S1 h1 fun π2 H2 xs ds st2 e2 E2 S2 r2 h2 => ?_
  exact h2.now S2 ⟨x, xs, rfl, r1.ext e2.toKp, r2⟩
def mTup (ml : Env → Sto → Rs (List D)) : Env → Sto → Rs D := fun env st => (ml env st).bind fun ds st1 => if ds.length ≤ sz then .ok (.tup ds) st1 else .no
def mLst (mu : Bool) (ml : Env → Sto → Rs (List D)) : Env → Sto → Rs D := fun env st => (ml env st).bind fun ds st1 => if ds.length ≤ sz then mkL mu ds st1 else .no
theorem den_tup {k} (h : PA X es (tL Γ W ml)) : PE X (.Tuple es k pos) (tE Γ W (mTup ml)) := by
  refine imE (pe_tup h) fun σ H Q ⟨π, env, st, E, S, h⟩ => ?_
  refine bindG E S h fun π1 H1 xs ds st1 e1 E1 S1 r1 h1 => ?_
  split at h1
  · rename_i hz
    exact ⟨by rw [r1.length, sizeLine_eq]; exact hz, fun p hp => h1.newT S1 r1 hp⟩
  · exact h1.elim
theorem den_lst (mu : Bool) (h : PA X es (tL Γ W ml)) : PE X (.List es pos) (tE Γ W (mLst mu ml)) := by
  refine imE (pe_lst h) fun σ H Q ⟨π, env, st, E, S, h⟩ => ?_
  refine bindG E S h fun π1 H1 xs ds st1 e1 E1 S1 r1 h1 => ?_
  split at h1
  · rename_i hz
    exact ⟨by rw [r1.length, sizeLine_eq]; exact hz, fun p hp => h1.newL S1 r1 hp⟩
  · exact h1.elim
end
section
variable {X : Cx} {W : WX} {a b c e : Expr} {es : List Expr} {p pos : Pos} {ma mb : Env → Sto → Rs D} {ml : Env → Sto → Rs (List D)} {ce : Nat → Option Addr} {fe : Nat → Str} {tb : List Addr}
theorem den_star (ha : PE X e (tE (gx X ce fe tb) W ma)) (hr : PA X es (tL (gx X ce fe tb) W ml)) (hs : starEach (.Starred e p :: es) X.env = (true, eval e X.env) :: starEach es X.env := by rfl) : PA X (.Starred e p :: es) (tL (gx X ce fe tb) W (lStar ma ml)) := by
  refine imA (StX.pa_star ha hr hs) fun σ H Q ⟨π, env, st, E, S, h⟩ => ?_
  refine bindG E S h fun π1 H1 x d st1 e1 E1 S1 r1 h1 => ?_
  cases d with
  | tup xs =>
    obtain ⟨p, vs, rfl, hq, rl⟩ := r1
    refine ⟨p, vs, rfl, .inl (SqT.of hq), bindG E1 S1 h1 fun π2 H2 ws ds st2 e2 E2 S2 r2 h2 => h2.now S2 ((rl.ext e2.toKp).append r2)⟩
  | lst xs =>
    obtain ⟨p, vs, rfl, hq, hf, rl⟩ := r1
    refine ⟨p, vs, rfl, .inr (SqL.of hq), bindG E1 S1 h1 fun π2 H2 ws ds st2 e2 E2 S2 r2 h2 => h2.now S2 ((rl.ext e2.toKp).append r2)⟩
  | rol xs =>
    obtain ⟨p, vs, rfl, hq, rl⟩ := r1
    refine ⟨p, vs, rfl, .inr hq.sq, bindG E1 S1 h1 fun π2 H2 ws ds st2 e2 E2 S2 r2 h2 => h2.now S2 ((rl.ext e2.toKp).append r2)⟩
  | _ => exact h1.elim

/-! ### places, slices -/
def fIx (a b : D) (st : Sto) : Rs D := match b with
  | .int i => match a with
    | .str l => if l.length ≤ sz then match atI l i with
        | some c => .ok (.str [c]) st
        | none => .no
      else .no
    | a => match getS a st with
      | some ds => match atI ds i with
        | some d => .ok d st
        | none => .no
      | none => .no
  | _ => .no
theorem atI_len {α β : Type} {xs : List α} {ys : List β} (h : xs.length = ys.length) (i : Int) : ∀ {d : β}, atI ys i = some d → ∃ j, ixN xs.length i = some j ∧ ys[j]? = some d := fun {d} e => by
  unfold atI at e
  rw [h]
  cases q : ixN ys.length i with
  | none => rw [q] at e; cases e
  | some j => rw [q] at e; exact ⟨j, rfl, e⟩
theorem o_ix {Γ : Gm} : Op2 Γ (rIx Γ.K) fIx := fun W σ π H x y a b st Q S rx ry h => by
  cases b with
  | int i =>
    have seqs : ∀ {a : D}, Rep Γ π H x a → Out Γ (Rep Γ) W σ π H (match getS a st with
      | some ds => match atI ds i with
        | some d => .ok d st
        | none => .no
      | none => .no) Q → rIx Γ.K x y H Q := fun {a} rx h => by
      split at h
      · rename_i ds e
        obtain ⟨p, vs, rfl, hq, rl⟩ := getS_ok S rx e
        split at h
        · rename_i d e2
          obtain ⟨j, e3, e4⟩ := atI_len rl.length i e2
          obtain ⟨v, e5, r5⟩ := rl.get e4
          have e6 : atI vs i = some v := by unfold atI; rw [e3]; exact e5
          rcases hq with hq | hq
          · exact .inl ⟨p, vs, i, v, rfl, ry, hq, e6, h.now S r5⟩
          · exact .inr (.inl ⟨p, vs, i, v, rfl, ry, hq, e6, h.now S r5⟩)
        · exact h.elim
      · exact h.elim
    cases a with
    | str l =>
      unfold fIx at h
      dsimp only at h
      split at h
      · rename_i hz
        split at h
        · rename_i c e2
          exact .inr (.inr ⟨_, i, c, rx, ry, by rw [str_len, sizeLine_eq]; exact hz, e2, h.now S rfl⟩)
        · exact h.elim
      · exact h.elim
    | non => exact seqs (a := .non) rx h
    | bl _ => exact seqs (a := .bl _) rx h
    | int _ => exact seqs (a := .int _) rx h
    | tup _ => exact seqs (a := .tup _) rx h
    | lst _ => exact seqs (a := .lst _) rx h
    | rol _ => exact seqs (a := .rol _) rx h
    | cell _ => exact seqs (a := .cell _) rx h
    | ktp _ => exact seqs (a := .ktp _) rx h
    | dic _ => exact seqs (a := .dic _) rx h
    | xz _ => exact seqs (a := .xz _) rx h
    | xo _ _ => exact seqs (a := .xo _ _) rx h
  | _ => exact h.elim
theorem den_ix (ha : PE X a (tE (gx X ce fe tb) W ma)) (hb : PE X b (tE (gx X ce fe tb) W mb)) (hs : PlainIx b := by exact fun _ _ => rfl) : PE X (.Subscript a b pos) (tE (gx X ce fe tb) W (m2 fIx ma mb)) :=
  imE (pe_ix ix_seq ha hb hs) fun _ _ _ h => tOp2 o_ix h
def cutD {α : Type} (xs : List α) (lo hi : Option Int) : List α := (xs.drop (HT.sIx xs.length 0 lo)).take (HT.sIx xs.length xs.length hi - HT.sIx xs.length 0 lo)
def oNone : Env → Sto → Rs (Option Int) := fun _ st => .ok none st
def oSome (m : Env → Sto → Rs D) : Env → Sto → Rs (Option Int) := fun env st => (m env st).bind fun d st1 => match d with
  | .int i => .ok (some i) st1
  | _ => .no
def fSl (mu : Bool) (a : D) (lo hi : Option Int) (st : Sto) : Rs D := match a with
  | .str l => if l.length ≤ sz then .ok (.str (cutD l lo hi)) st else .no
  | .tup ds => .ok (.tup (cutD ds lo hi)) st
  | a => match getL a st with
    | some ds => mkL mu (cutD ds lo hi) st
    | none => .no
def mSl (mu : Bool) (ma : Env → Sto → Rs D) (mlo mhi : Env → Sto → Rs (Option Int)) : Env → Sto → Rs D := fun env st => (ma env st).bind fun a st1 => (mlo env st1).bind fun lo st2 => (mhi env st2).bind fun hi st3 => fSl mu a lo hi st3
abbrev RO : Pl → Hp → Option Int → Option Int → Prop := fun _ _ a b => a = b
abbrev tO (Γ : Gm) (W : WX) (m : Env → Sto → Rs (Option Int)) : TO := tG Γ RO W m
theorem imO {X : Cx} {e : Option Expr} {t t' : TO} (h : PO X e t) (q : ∀ σ H Q, t' σ H Q → t σ H Q) : PO X e t' := ⟨fun pins s σ H Q I hw => h.run pins s σ H Q I (q _ _ _ hw)⟩
theorem den_onone {Γ : Gm} : PO X none (tO Γ W oNone) := imO po_none fun σ H Q ⟨π, env, st, E, S, h⟩ => h.now S rfl
theorem den_osome {Γ : Gm} (ha : PE X a (tE Γ W ma)) : PO X (some a) (tO Γ W (oSome ma)) := by
  refine imO (po_some ha) fun σ H Q ⟨π, env, st, E, S, h⟩ => ?_
  refine bindG E S h fun π1 H1 x d st1 e1 E1 S1 r1 h1 => ?_
  cases d with
  | int i => exact ⟨i, r1, h1.now S1 rfl⟩
  | _ => exact h1.elim
def rSlAll (K : PySem.W.Frag) : V → Option Int → Option Int → Hp → VK → Prop := fun x lo hi H Q => rSlS x lo hi H Q ∨ (rSlA K x lo hi H Q ∨ rSlL K x lo hi H Q)
theorem sl_all : SlR X (rSlAll X.K) := sl_str.or (sl_tupA.or sl_list)
theorem RepL.cut {Γ : Gm} {π : Pl} {H : Hp} {vs : List V} {ds : List D} (r : RepL Γ π H vs ds) (lo hi : Option Int) : RepL Γ π H (cutV vs lo hi) (cutD ds lo hi) := by
  unfold cutV cutD
  rw [r.length]
  exact (r.drop _).take _
theorem cutV_whole {vs : List V} {lo hi : Option Int} (h : HT.sIx vs.length 0 lo = 0 ∧ HT.sIx vs.length vs.length hi = vs.length) : cutV vs lo hi = vs := by
  unfold cutV
  rw [h.1, h.2, List.drop_zero, Nat.sub_zero, List.take_length]
theorem o_sl {Γ : Gm} {W : WX} {σ : L2.St} {π : Pl} {H : Hp} {x : V} {a : D} {lo hi : Option Int} {st : Sto} {Q : VK} {mu : Bool} (S : StR Γ π H st) (rx : Rep Γ π H x a) (h : Out Γ (Rep Γ) W σ π H (fSl mu a lo hi st) Q) : rSlAll Γ.K x lo hi H Q := by
  have lists : ∀ {a : D}, Rep Γ π H x a → Out Γ (Rep Γ) W σ π H (match getL a st with
    | some ds => mkL mu (cutD ds lo hi) st
    | none => .no) Q → rSlAll Γ.K x lo hi H Q := fun {a} rx h => by
    split at h
    · rename_i ds e
      obtain ⟨p, vs, rfl, hq, rl⟩ := getL_ok S rx e
      exact .inr (.inr ⟨p, vs, rfl, hq, fun l hl => h.newL S (rl.cut lo hi) hl⟩)
    · exact h.elim
  cases a with
  | str l =>
    unfold fSl at h
    dsimp only at h
    split at h
    · rename_i hz
      exact .inl ⟨_, rx, by rw [str_len, sizeLine_eq]; exact hz, h.now S rfl⟩
    · exact h.elim
  | tup ds =>
    obtain ⟨p, vs, rfl, hq, rl⟩ := rx
    refine .inr (.inl ⟨p, vs, rfl, SqT.of hq, fun w => ?_, fun _ l hl => h.newT S (rl.cut lo hi) hl⟩)
    have r2 := rl.cut lo hi
    rw [cutV_whole w] at r2
    exact h.now S ⟨p, vs, rfl, hq, r2⟩
  | non => exact lists (a := .non) rx h
  | bl _ => exact lists (a := .bl _) rx h
  | int _ => exact lists (a := .int _) rx h
  | lst _ => exact lists (a := .lst _) rx h
  | rol _ => exact lists (a := .rol _) rx h
  | cell _ => exact lists (a := .cell _) rx h
  | ktp _ => exact lists (a := .ktp _) rx h
  | dic _ => exact lists (a := .dic _) rx h
  | xz _ => exact lists (a := .xz _) rx h
  | xo _ _ => exact lists (a := .xo _ _) rx h
theorem den_sl (mu : Bool) {lo hi : Option Expr} {p2 : Pos} {mlo mhi : Env → Sto → Rs (Option Int)} (ha : PE X a (tE (gx X ce fe tb) W ma)) (hl : PO X lo (tO (gx X ce fe tb) W mlo)) (hh : PO X hi (tO (gx X ce fe tb) W mhi)) : PE X (.Subscript a (.Slice lo hi none p2) pos) (tE (gx X ce fe tb) W (mSl mu ma mlo mhi)) := by
  refine imE (pe_slice sl_all ha hl hh) fun σ H Q ⟨π, env, st, E, S, h⟩ => ?_
  refine bindG E S h fun π1 H1 x d st1 e1 E1 S1 r1 h1 => ?_
  refine bindG E1 S1 h1 fun π2 H2 i i' st2 e2 E2 S2 r2 h2 => ?_
  refine bindG E2 S2 h2 fun π3 H3 j j' st3 e3 E3 S3 r3 h3 => ?_
  rw [show i = i' from r2, show j = j' from r3]
  exact o_sl S3 ((r1.ext e2.toKp).ext e3.toKp) h3
end
end Dn
end

section
set_option Elab.async false
set_option linter.all false
set_option maxRecDepth 100000
namespace Dn
open PySem PySem.Spec PyProof.Rows L2

/-! ### statements -/
inductive Sr where
  | nx (env : Env) (st : Sto)
  | rt (d : D) (st : Sto)
  | bk (env : Env) (st : Sto)
  | ct (env : Env) (st : Sto)
  | ex (x : Ex) (env : Env) (st : Sto)
  | no
def Rs.thn {α : Type} (r : Rs α) (env : Env) (k : α → Sto → Sr) : Sr := match r with
  | .ok a st => k a st
  | .ex x st => .ex x env st
  | .no => .no
def OutS (Γ : Gm) (W : WX) (π : Pl) (H : Hp) (r : Sr) (D : Ends) : Prop := match r with
  | .nx env st => ∀ π' H' σ', Ext π H π' H' → EnvR Γ π' H' σ' env → StR Γ π' H' st → D.nx σ' H'
  | .rt d st => ∀ π' H' v, Ext π H π' H' → StR Γ π' H' st → Rep Γ π' H' v d → D.rt v H'
  | .bk env st => ∀ π' H' σ', Ext π H π' H' → EnvR Γ π' H' σ' env → StR Γ π' H' st → D.bk σ' H'
  | .ct env st => ∀ π' H' σ', Ext π H π' H' → EnvR Γ π' H' σ' env → StR Γ π' H' st → D.ct σ' H'
  | .ex x env st => ∀ π' H' σ' cls dx, Ext π H π' H' → EnvR Γ π' H' σ' env → StR Γ π' H' st → RepX Γ π' H' cls dx x → W cls dx σ' H'
  | .no => False
def tS (Γ : Gm) (W : WX) (m : Env → Sto → Sr) : TS := fun D σ H => ∃ π env st, EnvR Γ π H σ env ∧ StR Γ π H st ∧ OutS Γ W π H (m env st) D
section
variable {Γ : Gm} {W : WX} {π π1 : Pl} {H H1 : Hp} {D : Ends} {σ : L2.St} {env : Env} {st : Sto}
theorem OutS.ext {r : Sr} (e : Ext π H π1 H1) (h : OutS Γ W π H r D) : OutS Γ W π1 H1 r D := by
  cases r with
  | nx env st => exact fun π' H' σ' e' a b => h π' H' σ' (e.trans e') a b
  | rt d st => exact fun π' H' v e' a b => h π' H' v (e.trans e') a b
  | bk env st => exact fun π' H' σ' e' a b => h π' H' σ' (e.trans e') a b
  | ct env st => exact fun π' H' σ' e' a b => h π' H' σ' (e.trans e') a b
  | ex x env st => exact fun π' H' σ' c d e' a b r => h π' H' σ' c d (e.trans e') a b r
  | no => exact h
theorem OutS.nxt (h : OutS Γ W π H (.nx env st) D) (E : EnvR Γ π H σ env) (S : StR Γ π H st) : D.nx σ H := h π H σ Ext.refl E S
theorem bindS {α β : Type} {R : Pl → Hp → β → α → Prop} {m : Env → Sto → Rs α} {k : α → Sto → Sr} {P : β → Hp → Prop}
    (hE : EnvR Γ π H σ env) (hS : StR Γ π H st) (h : OutS Γ W π H ((m env st).thn env k) D)
    (go : ∀ π1 H1 b a st1, Ext π H π1 H1 → EnvR Γ π1 H1 σ env → StR Γ π1 H1 st1 → R π1 H1 b a → OutS Γ W π1 H1 (k a st1) D → P b H1) : tG Γ R W m σ H P := by
  refine ⟨π, env, st, hE, hS, ?_⟩
  cases e : m env st with
  | ok a st1 =>
    rw [e] at h
    exact fun π1 H1 b e1 s1 r1 => go π1 H1 b a st1 e1 (hE.ext e1.toKp) s1 r1 (OutS.ext e1 h)
  | ex x st1 =>
    rw [e] at h
    exact fun π1 H1 c d e1 s1 r1 => h π1 H1 σ c d e1 (hE.ext e1.toKp) s1 r1
  | no =>
    rw [e] at h
    exact h
end

/-! ### targets -/
def wipeE (env : Env) : List Nat → Env
  | [] => env
  | v :: vs => (wipeE env vs).set v none
/-- where it stores, what it makes of the slots -/
def DG (Γ : Gm) (t : TG) (sl : List Nat) (mg : D → Env → Option Env) : Prop := ∀ (π : Pl) (H : Hp) (v : V) (d : D) (σ : L2.St) (env env' : Env) (Q : L2.St → Hp → Prop), EnvR Γ π H σ env → Rep Γ π H v d → mg d env = some env' →
  (∀ σ', EnvR Γ π H σ' env' → (∀ vs : List Nat, (∀ i ∈ sl, i ∈ vs) → wipe σ' vs = wipe σ vs) → Q σ' H) → t v σ H Q
def DGs (Γ : Gm) (t : TGs) (sl : List Nat) (mg : List D → Env → Option Env) : Prop := ∀ (π : Pl) (H : Hp) (v : List V) (d : List D) (σ : L2.St) (env env' : Env) (Q : L2.St → Hp → Prop), EnvR Γ π H σ env → RepL Γ π H v d → mg d env = some env' →
  (∀ σ', EnvR Γ π H σ' env' → (∀ vs : List Nat, (∀ i ∈ sl, i ∈ vs) → wipe σ' vs = wipe σ vs) → Q σ' H) → t v σ H Q
theorem wipe_set {σ : L2.St} {i : Nat} {v : Option V} : ∀ {vs : List Nat}, i ∈ vs → wipe (σ.set i v) vs = wipe σ vs
  | [], h => nomatch h
  | j :: vs, h => by
    show (wipe (σ.set i v) vs).set j none = (wipe σ vs).set j none
    by_cases e : i ∈ vs
    · rw [wipe_set e]
    · have hij : i = j := (List.mem_cons.mp h).elim id fun z => absurd z e
      subst hij
      have go : ∀ ws : List Nat, i ∉ ws → wipe (σ.set i v) ws = (wipe σ ws).set i v := by
        intro ws
        induction ws with
        | nil => intro _; rfl
        | cons k ws ih =>
          intro hk
          show (wipe (σ.set i v) ws).set k none = ((wipe σ ws).set k none).set i v
          rw [ih fun z => hk (List.mem_cons_of_mem _ z)]
          exact List.set_comm _ _ (fun z => hk (by rw [z]; exact List.mem_cons_self))
      rw [go vs e, List.set_set]
theorem wipe_twice {σ : L2.St} : ∀ {vs ws : List Nat}, (∀ i ∈ ws, i ∈ vs) → wipe (wipe σ ws) vs = wipe σ vs
  | vs, [], _ => rfl
  | vs, j :: ws, h => by
    show wipe ((wipe σ ws).set j none) vs = wipe σ vs
    rw [wipe_set (h j List.mem_cons_self), wipe_twice fun i hi => h i (List.mem_cons_of_mem _ hi)]
theorem EnvR.wipe {Γ : Gm} {π : Pl} {H : Hp} {σ : L2.St} {env : Env} (E : EnvR Γ π H σ env) : ∀ vs : List Nat, EnvR Γ π H (wipe σ vs) (wipeE env vs)
  | [] => E
  | v :: vs => (E.wipe vs).unset
def gNm (i : Nat) : D → Env → Option Env := fun d env => some (env.set i (some d))
def gsNil : List D → Env → Option Env := fun ds env => match ds with
  | [] => some env
  | _ => none
def gsCons (g : D → Env → Option Env) (gs : List D → Env → Option Env) : List D → Env → Option Env := fun ds env => match ds with
  | d :: ds => match g d env with
    | some env' => gs ds env'
    | none => none
  | [] => none
def gTp (n : Nat) (gs : List D → Env → Option Env) : D → Env → Option Env := fun d env => match d with
  | .tup ds => if ds.length = n then gs ds env else none
  | .ktp ds => if ds.length = n then gs ds env else none
  | .lst ds => if ds.length = n then gs ds env else none
  | .rol ds => if ds.length = n then gs ds env else none
  | _ => none
/-- a tuple or a list is taken apart -/
def gTupA (K : PySem.W.Frag) (n : Nat) (t : TGs) : TG := fun v σ H Q => gTup K n t v σ H Q ∨ gUnl K n t v σ H Q
theorem pg_tupA {X : Cx} {pos : Pos} {es : List Expr} {k : Nat} {t : TGs} {n : Nat} (hc : X.calm = true) (h : PGs X es t)
    (hn : (assignEach es X.env).length = n := by rfl) (hst : (assignEach es X.env).findIdx? (·.1) = none := by rfl) : PG X (.Tuple es k pos) (gTupA X.K n t) :=
  ⟨fun pins s σ H v u Q I r hw => hw.elim ((pg_tup hc h hn hst).run pins s σ H v u Q I r) ((pg_unl hc h hn hst).run pins s σ H v u Q I r)⟩
section
variable {Γ : Gm}
theorem dg_name (i : Nat) : DG Γ (gName i) [i] (gNm i) := fun π H v d σ env env' Q E r h q => by
  cases h
  exact q _ (E.set r) fun vs hv => wipe_set (hv i List.mem_cons_self)
theorem dgs_nil : DGs Γ gNil [] gsNil := fun π H v d σ env env' Q E r h q => by
  cases d with
  | nil =>
    cases h
    exact ⟨r, q _ E fun _ _ => rfl⟩
  | cons _ _ => cases h
theorem dgs_cons {t : TG} {ts : TGs} {s ss : List Nat} {g : D → Env → Option Env} {gs : List D → Env → Option Env} (h1 : DG Γ t s g) (h2 : DGs Γ ts ss gs) : DGs Γ (gCons t ts) (s ++ ss) (gsCons g gs) := fun π H v d σ env env' Q E r h q => by
  cases d with
  | nil => cases h
  | cons d ds =>
    obtain ⟨v0, vr, rfl, r1, r2⟩ := r
    unfold gsCons at h
    dsimp only at h
    split at h
    · rename_i env1 e1
      refine ⟨v0, vr, rfl, h1 π H v0 d σ env env1 _ E r1 e1 fun σ1 E1 w1 => ?_⟩
      refine h2 π H vr ds σ1 env1 env' Q E1 r2 h fun σ2 E2 w2 => q σ2 E2 fun vs hv => ?_
      rw [w2 vs fun i hi => hv i (List.mem_append_right _ hi), w1 vs fun i hi => hv i (List.mem_append_left _ hi)]
    · cases h
theorem dg_tup {ts : TGs} {ss : List Nat} {n : Nat} {gs : List D → Env → Option Env} (h2 : DGs Γ ts ss gs) : DG Γ (gTupA Γ.K n ts) ss (gTp n gs) := fun π H v d σ env env' Q E r h q => by
  cases d with
  | tup ds =>
    obtain ⟨p, vs, rfl, hq, rl⟩ := r
    unfold gTp at h
    dsimp only at h
    split at h
    · rename_i hn
      exact .inl ⟨p, vs, rfl, SqT.of hq, rl.length.trans hn, h2 π H vs ds σ env env' Q E rl h q⟩
    · cases h
  | ktp ds =>
    obtain ⟨p, vs, rfl, hq, rl⟩ := r
    unfold gTp at h
    dsimp only at h
    split at h
    · rename_i hn
      exact .inl ⟨p, vs, rfl, hq, rl.length.trans hn, h2 π H vs ds σ env env' Q E rl h q⟩
    · cases h
  | lst ds =>
    obtain ⟨p, vs, rfl, hq, _, rl⟩ := r
    unfold gTp at h
    dsimp only at h
    split at h
    · rename_i hn
      exact .inr ⟨p, vs, rfl, SqL.of hq, rl.length.trans hn, h2 π H vs ds σ env env' Q E rl h q⟩
    · cases h
  | rol ds =>
    obtain ⟨p, vs, rfl, hq, rl⟩ := r
    unfold gTp at h
    dsimp only at h
    split at h
    · rename_i hn
      exact .inr ⟨p, vs, rfl, hq.sq, rl.length.trans hn, h2 π H vs ds σ env env' Q E rl h q⟩
    · cases h
  | _ => cases h
end

/-! ### blocks -/
def sNil : Env → Sto → Sr := fun env st => .nx env st
def sSeq (a b : Env → Sto → Sr) : Env → Sto → Sr := fun env st => match a env st with
  | .nx env' st' => b env' st'
  | r => r
def sAsg (g : D → Env → Option Env) (m : Env → Sto → Rs D) : Env → Sto → Sr := fun env st => (m env st).thn env fun d st1 => match g d env with
  | some env' => .nx env' st1
  | none => .no
def sRet (m : Env → Sto → Rs D) : Env → Sto → Sr := fun env st => (m env st).thn env fun d st1 => .rt d st1
def sRetN : Env → Sto → Sr := fun _ st => .rt .non st
def sExp (m : Env → Sto → Rs D) : Env → Sto → Sr := fun env st => (m env st).thn env fun _ st1 => .nx env st1
def sIf (t : Env → Sto → Rs Bool) (a b : Env → Sto → Sr) : Env → Sto → Sr := fun env st => (t env st).thn env fun k st1 => match k with
  | true => a env st1
  | false => b env st1
def sBrk : Env → Sto → Sr := fun env st => .bk env st
def sCnt : Env → Sto → Sr := fun env st => .ct env st
section
variable {X : Cx} {Γ : Gm} {W : WX} {a b c e : Expr} {s : Stmt} {ss ss2 : List Stmt} {pos : Pos} {m : Env → Sto → Rs D} {ma mb : Env → Sto → Sr} {t : Env → Sto → Rs Bool}
theorem dsn_nil : PSs X [] (tS Γ W sNil) := imSs pss_nil fun D σ H ⟨π, env, st, E, S, h⟩ => h.nxt E S
theorem tSeq_of {D : Ends} {σ : L2.St} {H : Hp} (h : tS Γ W (sSeq ma mb) D σ H) : tSeq (tS Γ W ma) (tS Γ W mb) D σ H := by
  obtain ⟨π, env, st, E, S, h⟩ := h
  refine ⟨π, env, st, E, S, ?_⟩
  unfold sSeq at h
  cases e : ma env st with
  | nx env1 st1 =>
    rw [e] at h
    exact fun π' H' σ' e' E' S' => ⟨π', env1, st1, E', S', OutS.ext e' h⟩
  | rt d st1 => rw [e] at h; exact h
  | bk env1 st1 => rw [e] at h; exact h
  | ct env1 st1 => rw [e] at h; exact h
  | ex x env1 st1 => rw [e] at h; exact h
  | no => rw [e] at h; exact h
theorem dsn_cons (h1 : PS X s (tS Γ W ma)) (h2 : PSs X ss (tS Γ W mb)) : PSs X (s :: ss) (tS Γ W (sSeq ma mb)) := imSs (pss_cons h1 h2) fun _ _ _ h => tSeq_of h
theorem dsn_one (h1 : PS X s (tS Γ W ma)) : PSs X [s] (tS Γ W ma) := pss_one h1
theorem ds_pass : PS X (.Pass pos) (tS Γ W sNil) := imS ps_pass fun D σ H ⟨π, env, st, E, S, h⟩ => h.nxt E S
theorem ds_break : PS X (.Break pos) (tS Γ W sBrk) := imS ps_break fun D σ H ⟨π, env, st, E, S, h⟩ => h π H σ Ext.refl E S
theorem ds_cont : PS X (.Continue pos) (tS Γ W sCnt) := imS ps_continue fun D σ H ⟨π, env, st, E, S, h⟩ => h π H σ Ext.refl E S
theorem ds_ret (h : PE X e (tE Γ W m)) : PS X (.Return (some e) pos) (tS Γ W (sRet m)) :=
  imS (ps_ret h) fun D σ H ⟨π, env, st, E, S, h⟩ => bindS E S h fun π1 H1 v d st1 e1 E1 S1 r1 h1 => h1 π1 H1 v Ext.refl S1 r1
theorem ds_retN : PS X (.Return none pos) (tS Γ W sRetN) := imS ps_retN fun D σ H ⟨π, env, st, E, S, h⟩ => h π H _ Ext.refl S rfl
theorem ds_expr (h : PE X e (tE Γ W m)) (hs : swapsWith e none pos.line X.env = pure false := by rfl) : PS X (.Expr e pos) (tS Γ W (sExp m)) :=
  imS (ps_expr h hs) fun D σ H ⟨π, env, st, E, S, h⟩ => bindS E S h fun π1 H1 v d st1 e1 E1 S1 r1 h1 => h1.nxt E1 S1
theorem ds_if (hc : PT X c (tT Γ W t)) (ha : PSs X ss (tS Γ W ma)) (hb : PSs X ss2 (tS Γ W mb)) : PS X (.If c ss ss2 pos) (tS Γ W (sIf t ma mb)) := by
  refine imS (ps_if hc ha hb) fun D σ H ⟨π, env, st, E, S, h⟩ => bindS E S h fun π1 H1 v d st1 e1 E1 S1 r1 h1 => ?_
  rw [show v = d from r1]
  cases d with
  | true => exact iteT ⟨π1, env, st1, E1, S1, h1⟩
  | false => exact iteF ⟨π1, env, st1, E1, S1, h1⟩
theorem asg_of {De : Ends} {σ : L2.St} {H : Hp} {g : TG} {sl : List Nat} {mg : D → Env → Option Env} (hg : DG Γ g sl mg) (h : tS Γ W (sAsg mg m) De σ H) : tAsg (tE Γ W m) g De σ H := by
  obtain ⟨π, env, st, E, S, h⟩ := h
  refine bindS E S h fun π1 H1 v d st1 e1 E1 S1 r1 h1 => ?_
  split at h1
  · rename_i env' e
    exact hg π1 H1 v d σ env env' _ E1 r1 e fun σ' E' _ => h1.nxt E' S1
  · exact h1.elim
theorem ds_set (i : Nat) {x : Str} {pos' : Pos} (hN : X.N.Nodup) (hi : X.N[i]? = some x) (hx : Loc X.env.scope x) (he : PE X e (tE Γ W m)) (hs : swapsWith e (some (.Name x pos')) pos.line X.env = pure false := by rfl)
    (hf : X.fn x = true ∨ X.env.scope.names.lookup x = some .local := by first | exact .inl rfl | exact .inr rfl) : PS X (.Assign [.Name x pos'] e pos) (tS Γ W (sAsg (gNm i) m)) :=
  imS (ps_set hN hi hx he hs hf) fun _ _ _ h => asg_of (dg_name i) h
theorem ds_asg {tg : Expr} {g : TG} {sl : List Nat} {mg : D → Env → Option Env} (hg : PG X tg g) (hd : DG Γ g sl mg) (he : PE X e (tE Γ W m)) (hs : swapsWithSole [tg] e pos.line X.env = pure false := by rfl) (hw : swappedStores [tg] e X.env = pure none := by rfl)
    (h1 : (assignEach [tg] X.env).map (·.2) = [assign tg X.env] := by rfl) : PS X (.Assign [tg] e pos) (tS Γ W (sAsg mg m)) :=
  imS (ps_asg he hg hs hw h1) fun _ _ _ h => asg_of hd h
/-- a, b = x, y -/
def sPar (i j : Nat) (ml : Env → Sto → Rs (List D)) : Env → Sto → Sr := fun env st => (ml env st).thn env fun ds st1 => match ds with
  | [v, w] => .nx ((env.set i (some v)).set j (some w)) st1
  | _ => .no
theorem ds_par (i j : Nat) {x y : Str} {ml : Env → Sto → Rs (List D)} {px py pt : Pos} {kt k2 pt2} (hc : X.calm = true) (hN : X.N.Nodup) (hi : X.N[i]? = some x) (hj : X.N[j]? = some y) (hij : i ≠ j)
    (hx : X.env.scope.names.lookup x = some .local) (hy : X.env.scope.names.lookup y = some .local) (ha : PA X [a, b] (tL Γ W ml))
    (hw : swappedStores [.Tuple [.Name x px, .Name y py] kt pt] (.Tuple [a, b] k2 pt2) X.env = pure (some [x, y]))
    (hs : swapsWithSole [.Tuple [.Name x px, .Name y py] kt pt] (.Tuple [a, b] k2 pt2) pos.line X.env = pure false := by rfl) :
    PS X (.Assign [.Tuple [.Name x px, .Name y py] kt pt] (.Tuple [a, b] k2 pt2) pos) (tS Γ W (sPar i j ml)) := by
  refine imS (ps_par hc hN hi hj hij hx hy ha hw hs) fun D σ H ⟨π, env, st, E, S, h⟩ => bindS E S h fun π1 H1 vs ds st1 e1 E1 S1 r1 h1 => ?_
  split at h1
  · rename_i v w
    obtain ⟨v0, vr, rfl, r2, w0, wr, rfl, r3, r4⟩ := r1
    rw [show wr = [] from r4]
    exact ⟨v0, w0, rfl, h1.nxt ((E1.set r2).set r3) S1⟩
  · exact h1.elim
/-- o[i] = e -/
def fSet (o i v : D) (st : Sto) : Option Sto := match o, i with
  | .cell n, .int k => match st[n]? with
    | some (.lst ds) => match ixN ds.length k with
      | some j => some (st.set n (.lst (ds.set j v)))
      | none => none
    | _ => none
  | _, _ => none
def sSet (mo mi me : Env → Sto → Rs D) : Env → Sto → Sr := fun env st => (me env st).thn env fun v st1 => (mo env st1).thn env fun o st2 => (mi env st2).thn env fun i st3 => match fSet o i v st3 with
  | some st4 => .nx env st4
  | none => .no
theorem o_set {π : Pl} {H : Hp} {o i v : V} {od id vd : D} {st st' : Sto} {Q : Hp → Prop} (S : StR Γ π H st) (ro : Rep Γ π H o od) (ri : Rep Γ π H i id) (rv : Rep Γ π H v vd) (h : fSet od id vd st = some st')
    (q : ∀ H', Ext π H π H' → StR Γ π H' st' → Q H') : rSetL o i v H Q := by
  cases od with
  | cell n =>
    cases id with
    | int k =>
      obtain ⟨p, rfl, hp, _⟩ := ro
      unfold fSet at h
      dsimp only at h
      split at h
      · rename_i ds e
        split at h
        · rename_i j hj
          obtain ⟨vs, hH, rl⟩ := S.read hp e
          refine ⟨p, vs, k, j, rfl, ri, hH, by rw [rl.length]; exact hj, ?_⟩
          have e2 := Option.some.inj h
          exact q _ (ext_put S (List.mem_of_getElem? hp) hH) (by rw [← e2]; exact S.put hp hH (rl.set j rv))
        · cases h
      · cases h
    | _ => cases h
  | _ => cases id <;> cases h
theorem ds_sub {o i : Expr} {mo mi : Env → Sto → Rs D} {spos : Pos} (ho : PE X o (tE Γ W mo)) (hi : PE X i (tE Γ W mi)) (he : PE X e (tE Γ W m))
    (ha : ∀ v, assign (.Subscript o i spos) X.env v = (do
      let ov ← holding [v] (eval o X.env)
      let iv ← holding [v, ov] (eval i X.env)
      standAt spos
      holding [v, ov, iv] (setItem ov iv v)
      release [v, ov, iv] []) := by intro _; rfl)
    (hs : swapsWithSole [.Subscript o i spos] e pos.line X.env = pure false := by rfl) (hw : swappedStores [.Subscript o i spos] e X.env = pure none := by rfl)
    (h1 : (assignEach [.Subscript o i spos] X.env).map (·.2) = [assign (.Subscript o i spos) X.env] := by rfl) : PS X (.Assign [.Subscript o i spos] e pos) (tS Γ W (sSet mo mi m)) := by
  refine imS (ps_asg he (pg_sub ho hi set_list ha) hs hw h1) fun D σ H ⟨π, env, st, E, S, h⟩ => ?_
  refine bindS E S h fun π1 H1 v vd st1 e1 E1 S1 r1 h1 => ?_
  refine bindS E1 S1 h1 fun π2 H2 o od st2 e2 E2 S2 r2 h2 => ?_
  refine bindS E2 S2 h2 fun π3 H3 i id st3 e3 E3 S3 r3 h3 => ?_
  split at h3
  · rename_i st4 e
    exact o_set S3 (r2.ext e3.toKp) r3 ((r1.ext e2.toKp).ext e3.toKp) e fun H' x S' => h3 π3 H' σ x (E3.ext x.toKp) S'
  · exact h3.elim

/-! ### while -/
def loopW (t : Env → Sto → Rs Bool) (body : Env → Sto → Sr) : Nat → Env → Sto → Sr
  | 0, _, _ => .no
  | n + 1, env, st => (t env st).thn env fun k st1 => match k with
    | false => .nx env st1
    | true => match body env st1 with
      | .nx e s => loopW t body n e s
      | .ct e s => loopW t body n e s
      | .bk e s => .nx e s
      | r => r
def sWhile (fuel : Nat) (t : Env → Sto → Rs Bool) (body : Env → Sto → Sr) : Env → Sto → Sr := loopW t body fuel
theorem ds_while (fuel : Nat) (hp : PassesOwn (model X.prog X.w) X.A X.env X.xe) (hc : PT X c (tT Γ W t)) (hb : PSs X ss (tS Γ W ma)) : PS X (.While c ss [] pos) (tS Γ W (sWhile fuel t ma)) := by
  refine imS (ps_while hp hc hb) fun D σ H ⟨π, env, st, E, S, h⟩ => ?_
  refine ⟨fun n σ H => ∃ π env st, EnvR Γ π H σ env ∧ StR Γ π H st ∧ OutS Γ W π H (loopW t ma n env st) D, ⟨fuel, π, env, st, E, S, h⟩, ?_⟩
  rintro n σ H ⟨π, env, st, E, S, h⟩
  cases n with
  | zero => exact h.elim
  | succ n =>
    refine bindS E S h fun π1 H1 k k' st1 e1 E1 S1 r1 h1 => ?_
    rw [show k = k' from r1]
    cases k' with
    | false => exact iteF (h1.nxt E1 S1)
    | true =>
      refine iteT ⟨fun σ' H' => ∃ π env st, EnvR Γ π H' σ' env ∧ StR Γ π H' st ∧ OutS Γ W π H' (loopW t ma n env st) D, fun σ' H' q => ⟨n, Nat.lt_succ_self n, q⟩, π1, env, st1, E1, S1, ?_⟩
      dsimp only at h1
      cases e : ma env st1 with
      | nx e2 s2 =>
        rw [e] at h1
        exact fun π' H' σ' x E' S' => ⟨π', e2, s2, E', S', OutS.ext x h1⟩
      | ct e2 s2 =>
        rw [e] at h1
        exact fun π' H' σ' x E' S' => ⟨π', e2, s2, E', S', OutS.ext x h1⟩
      | bk e2 s2 => rw [e] at h1; exact h1
      | rt d s2 => rw [e] at h1; exact h1
      | ex x e2 s2 => rw [e] at h1; exact h1
      | no => rw [e] at h1; exact h1
end
end Dn
end

section
set_option Elab.async false
set_option linter.all false
set_option maxRecDepth 100000
namespace Dn
open PySem PySem.Spec PyProof.Rows L2

/-! ### what is walked -/
inductive Src where
  | fix (xs : List D)
  | live (n : Nat)
inductive Itb where
  | one (s : Src)
  | enum (s : Src)
  | zip (a b : Src)
  | ez (a b : Src)
  | rng (lo c : Int) (n : Nat)
  | sgn (l : List Nat)
def Src.at_ (s : Src) (i : Nat) (st : Sto) : Option D := match s with
  | .fix xs => xs[i]?
  | .live n => match st[n]? with
    | some (.lst ds) => ds[i]?
    | _ => none
def Src.len (s : Src) (st : Sto) : Nat := match s with
  | .fix xs => xs.length
  | .live n => match st[n]? with
    | some (.lst ds) => ds.length
    | _ => 0
def Itb.at_ (b : Itb) (i : Nat) (st : Sto) : Option D := match b with
  | .one s => s.at_ i st
  | .enum s => match s.at_ i st with
    | some d => some (.tup [.int (i : Nat), d])
    | none => none
  | .zip a b => match a.at_ i st with
    | some d => match b.at_ i st with
      | some e => some (.tup [d, e])
      | none => none
    | none => none
  | .ez a b => match a.at_ i st with
    | some d => match b.at_ i st with
      | some e => some (.tup [.int (i : Nat), .tup [d, e]])
      | none => none
    | none => none
  | .rng lo c n => if i < n then some (.int (lo + (i : Nat) * c)) else none
  | .sgn l => match l[i]? with
    | some c => some (.str [c])
    | none => none
/-- one more than how many turns -/
def Itb.fuel (b : Itb) (st : Sto) : Nat := match b with
  | .one s => s.len st + 1
  | .enum s => s.len st + 1
  | .zip a _ => a.len st + 1
  | .ez a _ => a.len st + 1
  | .rng _ _ n => n + 1
  | .sgn l => l.length + 1
structure ItR (Γ : Gm) (π0 : Pl) (H0 : Hp) (J : It) (b : Itb) : Prop where
  go : ∀ π H st i d, Kp π0 H0 π H → StR Γ π H st → b.at_ i st = some d → J.go i H
  stop : ∀ π H st i, Kp π0 H0 π H → StR Γ π H st → b.at_ i st = none → J.stop i H
  yld : ∀ π H st i d x H', Kp π0 H0 π H → StR Γ π H st → b.at_ i st = some d → J.yld i H x H' → Rep Γ π H' x d ∧ Ext π H π H' ∧ ∀ st', StR Γ π H st' → StR Γ π H' st'
/-- what a source holds -/
def SrcL (Γ : Gm) (π0 : Pl) (H0 : Hp) (a : Addr) (s : Src) : Prop := ∀ π H st, Kp π0 H0 π H → StR Γ π H st → ∃ vs ds, SqL Γ.K H a vs ∧ RepL Γ π H vs ds ∧ ∀ i, s.at_ i st = ds[i]?
def SrcT (Γ : Gm) (π0 : Pl) (H0 : Hp) (a : Addr) (s : Src) : Prop := ∀ π H st, Kp π0 H0 π H → StR Γ π H st → ∃ vs ds, SqT Γ.K H a vs ∧ RepL Γ π H vs ds ∧ ∀ i, s.at_ i st = ds[i]?
def srcOf (d : D) : Option Src := match d with
  | .lst ds => some (.fix ds)
  | .rol ds => some (.fix ds)
  | .cell n => some (.live n)
  | _ => none
section
variable {Γ : Gm} {π : Pl} {H : Hp} {v : V}
theorem srcOf_ok {d : D} {s : Src} (r : Rep Γ π H v d) (h : srcOf d = some s) : ∃ a, v = .ref a ∧ SrcL Γ π H a s := by
  cases d with
  | lst ds =>
    cases h
    obtain ⟨p, vs, rfl, hq, hf, rl⟩ := r
    exact ⟨p, rfl, fun π' H' st k S => ⟨vs, ds, SqL.of (k.frz _ _ hf hq), rl.ext k, fun _ => rfl⟩⟩
  | rol ds =>
    cases h
    obtain ⟨p, vs, rfl, hq, rl⟩ := r
    exact ⟨p, rfl, fun π' H' st k S => ⟨vs, ds, (hq.ext k).sq, rl.ext k, fun _ => rfl⟩⟩
  | cell n =>
    cases h
    obtain ⟨p, rfl, hp, hd⟩ := r
    refine ⟨p, rfl, fun π' H' st k S => ?_⟩
    have h1 := k.pre n p hp
    have hd' : π'.δ p = false := (k.kd n p hp).trans hd
    have hn : n < st.length := by rw [← S.len]; exact (List.getElem?_eq_some_iff.mp h1).1
    cases e : st[n] with
    | lst ds =>
      have e2 : st[n]? = some (.lst ds) := by rw [List.getElem?_eq_getElem hn, e]
      obtain ⟨vs, hH, rl⟩ := S.read h1 e2
      refine ⟨vs, ds, SqL.of hH, rl, fun i => ?_⟩
      show (match st[n]? with
        | some (.lst ds) => ds[i]?
        | _ => none) = ds[i]?
      rw [e2]
    | dK ds =>
      have z := (S.at_ n p _ h1 (show st[n]? = some (.dK ds) by rw [List.getElem?_eq_getElem hn, e])).1
      rw [hd'] at z
      cases z
    | dT ds =>
      have z := (S.at_ n p _ h1 (show st[n]? = some (.dT ds) by rw [List.getElem?_eq_getElem hn, e])).1
      rw [hd'] at z
      cases z
  | _ => cases h
theorem srcT_ok {ds : List D} (r : Rep Γ π H v (.tup ds)) : ∃ a, v = .ref a ∧ SrcT Γ π H a (.fix ds) := by
  obtain ⟨p, vs, rfl, hq, rl⟩ := r
  exact ⟨p, rfl, fun π' H' st k S => ⟨vs, ds, sqT_ext k (SqT.of hq), rl.ext k, fun _ => rfl⟩⟩
theorem srcK_ok {ds : List D} (r : Rep Γ π H v (.ktp ds)) : ∃ a, v = .ref a ∧ SrcT Γ π H a (.fix ds) := by
  obtain ⟨p, vs, rfl, hq, rl⟩ := r
  exact ⟨p, rfl, fun π' H' st k S => ⟨vs, ds, sqT_ext k hq, rl.ext k, fun _ => rfl⟩⟩
theorem RepL.none {vs : List V} {ds : List D} (r : RepL Γ π H vs ds) {i : Nat} (h : ds[i]? = Option.none) : vs.length ≤ i := by
  rw [r.length]
  exact List.getElem?_eq_none_iff.mp h
theorem itr_list {a : Addr} {s : Src} (h : SrcL Γ π H a s) : ItR Γ π H (Itl Γ.K a) (.one s) where
  go := fun π' H' st i d k S e => by
    obtain ⟨vs, ds, hq, rl, f⟩ := h π' H' st k S
    obtain ⟨v, ev, _⟩ := rl.get (show ds[i]? = some d by rw [← f]; exact e)
    exact ⟨vs, v, hq, ev⟩
  stop := fun π' H' st i k S e => by
    obtain ⟨vs, ds, hq, rl, f⟩ := h π' H' st k S
    exact ⟨vs, hq, rl.none (show ds[i]? = none by rw [← f]; exact e)⟩
  yld := fun π' H' st i d x H2 k S e y => by
    obtain ⟨vs, ds, hq, rl, f⟩ := h π' H' st k S
    obtain ⟨v, ev, rv⟩ := rl.get (show ds[i]? = some d by rw [← f]; exact e)
    obtain ⟨rfl, y⟩ := y
    have ex := Option.some.inj ((y vs hq).symm.trans ev)
    rw [ex]
    exact ⟨rv, Ext.refl, fun _ s => s⟩
theorem itr_tup {a : Addr} {s : Src} (h : SrcT Γ π H a s) : ItR Γ π H (Itt Γ.K a) (.one s) where
  go := fun π' H' st i d k S e => by
    obtain ⟨vs, ds, hq, rl, f⟩ := h π' H' st k S
    obtain ⟨v, ev, _⟩ := rl.get (show ds[i]? = some d by rw [← f]; exact e)
    exact ⟨vs, v, hq, ev⟩
  stop := fun π' H' st i k S e => by
    obtain ⟨vs, ds, hq, rl, f⟩ := h π' H' st k S
    exact ⟨vs, hq, rl.none (show ds[i]? = none by rw [← f]; exact e)⟩
  yld := fun π' H' st i d x H2 k S e y => by
    obtain ⟨vs, ds, hq, rl, f⟩ := h π' H' st k S
    obtain ⟨v, ev, rv⟩ := rl.get (show ds[i]? = some d by rw [← f]; exact e)
    obtain ⟨rfl, y⟩ := y
    have ex := Option.some.inj ((y vs hq).symm.trans ev)
    rw [ex]
    exact ⟨rv, Ext.refl, fun _ s => s⟩
theorem itr_rng {lo c : Int} {n : Nat} : ItR Γ π H (Itc lo c n) (.rng lo c n) where
  go := fun π' H' st i d k S e => by
    unfold Itb.at_ at e
    dsimp only at e
    split at e
    · rename_i hh; exact hh
    · cases e
  stop := fun π' H' st i k S e => by
    unfold Itb.at_ at e
    dsimp only at e
    split at e
    · cases e
    · rename_i hh; exact Nat.le_of_not_lt hh
  yld := fun π' H' st i d x H2 k S e y => by
    unfold Itb.at_ at e
    dsimp only at e
    split at e
    · obtain ⟨rfl, y⟩ := y
      have := Option.some.inj e
      subst this
      exact ⟨y, Ext.refl, fun _ s => s⟩
    · cases e
theorem itr_rng1 {lo : Int} {n : Nat} : ItR Γ π H (Itr lo n) (.rng lo 1 n) where
  go := (itr_rng (Γ := Γ) (π := π) (H := H) (lo := lo) (c := 1) (n := n)).go
  stop := (itr_rng (Γ := Γ) (π := π) (H := H) (lo := lo) (c := 1) (n := n)).stop
  yld := fun π' H' st i d x H2 k S e y => by
    refine (itr_rng (Γ := Γ) (π := π) (H := H) (lo := lo) (c := 1) (n := n)).yld π' H' st i d x H2 k S e ⟨y.1, ?_⟩
    rw [y.2, Int.mul_one]
theorem itr_sgn {l : List Nat} : ItR Γ π H (Its ⟨⟨l⟩⟩) (.sgn l) where
  go := fun π' H' st i d k S e => by
    unfold Itb.at_ at e
    dsimp only at e
    split at e
    · rename_i c hc
      exact (List.getElem?_eq_some_iff.mp hc).1
    · cases e
  stop := fun π' H' st i k S e => by
    unfold Itb.at_ at e
    dsimp only at e
    split at e
    · cases e
    · rename_i hc
      exact List.getElem?_eq_none_iff.mp hc
  yld := fun π' H' st i d x H2 k S e y => by
    unfold Itb.at_ at e
    dsimp only at e
    split at e
    · rename_i c hc
      obtain ⟨rfl, c', hc', y⟩ := y
      have h2 : (l[i]? : Option Nat) = some c' := by
        rw [← hc']
        show _ = (⟨l⟩ : Array Nat)[i]?
        simp
      rw [hc] at h2
      cases h2
      have := Option.some.inj e
      subst this
      exact ⟨y, Ext.refl, fun _ s => s⟩
    · cases e
theorem pair_new {T : Addr} {x y : V} {d e : D} {st : Sto} (S : StR Γ π H st) (hT : H T = none) (rx : Rep Γ π H x d) (ry : Rep Γ π H y e) :
    Rep Γ π (upd H T (.tup [x, y])) (.ref T) (.tup [d, e]) ∧ Ext π H π (upd H T (.tup [x, y])) ∧ ∀ st', StR Γ π H st' → StR Γ π (upd H T (.tup [x, y])) st' :=
  ⟨⟨T, [x, y], rfl, upd_same, x, [y], rfl, rx.ext (ext_new hT).toKp, y, [], rfl, ry.ext (ext_new hT).toKp, rfl⟩, ext_new hT, fun _ s => s.new hT⟩
theorem itr_enum {a : Addr} {s : Src} (h : SrcL Γ π H a s) : ItR Γ π H (Ite Γ.K a) (.enum s) where
  go := fun π' H' st i d k S e => by
    obtain ⟨vs, ds, hq, rl, f⟩ := h π' H' st k S
    unfold Itb.at_ at e
    dsimp only at e
    split at e
    · rename_i d0 e0
      obtain ⟨v, ev, _⟩ := rl.get (show ds[i]? = some d0 by rw [← f]; exact e0)
      exact ⟨vs, v, hq, ev⟩
    · cases e
  stop := fun π' H' st i k S e => by
    obtain ⟨vs, ds, hq, rl, f⟩ := h π' H' st k S
    unfold Itb.at_ at e
    dsimp only at e
    split at e
    · cases e
    · rename_i e0
      exact ⟨vs, hq, rl.none (show ds[i]? = none by rw [← f]; exact e0)⟩
  yld := fun π' H' st i d x H2 k S e y => by
    obtain ⟨vs, ds, hq, rl, f⟩ := h π' H' st k S
    unfold Itb.at_ at e
    dsimp only at e
    split at e
    · rename_i d0 e0
      obtain ⟨v, ev, rv⟩ := rl.get (show ds[i]? = some d0 by rw [← f]; exact e0)
      obtain ⟨T, z, rfl, hT, rfl, fz⟩ := y
      have ex := Option.some.inj ((fz vs hq).symm.trans ev)
      subst ex
      have := Option.some.inj e
      subst this
      exact pair_new S hT rfl rv
    · cases e
theorem zip_at {a b : Src} {i : Nat} {st : Sto} {d : D} (e : (Itb.zip a b).at_ i st = some d) : ∃ x y, a.at_ i st = some x ∧ b.at_ i st = some y ∧ d = .tup [x, y] := by
  unfold Itb.at_ at e
  dsimp only at e
  split at e
  · rename_i x ex
    split at e
    · rename_i y ey
      exact ⟨x, y, ex, ey, (Option.some.inj e).symm⟩
    · cases e
  · cases e
theorem zip_no {a b : Src} {i : Nat} {st : Sto} (e : (Itb.zip a b).at_ i st = none) : a.at_ i st = none ∨ b.at_ i st = none := by
  unfold Itb.at_ at e
  dsimp only at e
  split at e
  · split at e
    · cases e
    · rename_i ey
      exact .inr ey
  · rename_i ex
    exact .inl ex
theorem itr_zip {a b : Addr} {s t : Src} (h : SrcL Γ π H a s) (h2 : SrcL Γ π H b t) : ItR Γ π H (Itz Γ.K a b) (.zip s t) where
  go := fun π' H' st i d k S e => by
    obtain ⟨x, y, ex, ey, _⟩ := zip_at e
    obtain ⟨vs, ds, hq, rl, f⟩ := h π' H' st k S
    obtain ⟨ws, es, hq2, rl2, f2⟩ := h2 π' H' st k S
    obtain ⟨v, ev, _⟩ := rl.get (show ds[i]? = some x by rw [← f]; exact ex)
    obtain ⟨w, ew, _⟩ := rl2.get (show es[i]? = some y by rw [← f2]; exact ey)
    exact ⟨vs, ws, v, w, hq, hq2, ev, ew⟩
  stop := fun π' H' st i k S e => by
    obtain ⟨vs, ds, hq, rl, f⟩ := h π' H' st k S
    obtain ⟨ws, es, hq2, rl2, f2⟩ := h2 π' H' st k S
    refine ⟨vs, ws, hq, hq2, (zip_no e).imp (fun z => rl.none (show ds[i]? = none by rw [← f]; exact z)) fun z => rl2.none (show es[i]? = none by rw [← f2]; exact z)⟩
  yld := fun π' H' st i d x H2 k S e y => by
    obtain ⟨x0, y0, ex, ey, rfl⟩ := zip_at e
    obtain ⟨vs, ds, hq, rl, f⟩ := h π' H' st k S
    obtain ⟨ws, es, hq2, rl2, f2⟩ := h2 π' H' st k S
    obtain ⟨v, ev, rv⟩ := rl.get (show ds[i]? = some x0 by rw [← f]; exact ex)
    obtain ⟨w, ew, rw'⟩ := rl2.get (show es[i]? = some y0 by rw [← f2]; exact ey)
    obtain ⟨T, z1, z2, rfl, hT, rfl, g1, g2⟩ := y
    have ex1 := Option.some.inj ((g1 vs hq).symm.trans ev)
    have ex2 := Option.some.inj ((g2 ws hq2).symm.trans ew)
    subst ex1; subst ex2
    exact pair_new S hT rv rw'
theorem itr_zipT {a b : Addr} {s t : Src} (h : SrcT Γ π H a s) (h2 : SrcT Γ π H b t) : ItR Γ π H (RZ.ItzT Γ.K a b) (.zip s t) where
  go := fun π' H' st i d k S e => by
    obtain ⟨x, y, ex, ey, _⟩ := zip_at e
    obtain ⟨vs, ds, hq, rl, f⟩ := h π' H' st k S
    obtain ⟨ws, es, hq2, rl2, f2⟩ := h2 π' H' st k S
    obtain ⟨v, ev, _⟩ := rl.get (show ds[i]? = some x by rw [← f]; exact ex)
    obtain ⟨w, ew, _⟩ := rl2.get (show es[i]? = some y by rw [← f2]; exact ey)
    exact ⟨vs, ws, v, w, hq, hq2, ev, ew⟩
  stop := fun π' H' st i k S e => by
    obtain ⟨vs, ds, hq, rl, f⟩ := h π' H' st k S
    obtain ⟨ws, es, hq2, rl2, f2⟩ := h2 π' H' st k S
    refine ⟨vs, ws, hq, hq2, (zip_no e).imp (fun z => rl.none (show ds[i]? = none by rw [← f]; exact z)) fun z => rl2.none (show es[i]? = none by rw [← f2]; exact z)⟩
  yld := fun π' H' st i d x H2 k S e y => by
    obtain ⟨x0, y0, ex, ey, rfl⟩ := zip_at e
    obtain ⟨vs, ds, hq, rl, f⟩ := h π' H' st k S
    obtain ⟨ws, es, hq2, rl2, f2⟩ := h2 π' H' st k S
    obtain ⟨v, ev, rv⟩ := rl.get (show ds[i]? = some x0 by rw [← f]; exact ex)
    obtain ⟨w, ew, rw'⟩ := rl2.get (show es[i]? = some y0 by rw [← f2]; exact ey)
    obtain ⟨T, z1, z2, rfl, hT, rfl, g1, g2⟩ := y
    have ex1 := Option.some.inj ((g1 vs hq).symm.trans ev)
    have ex2 := Option.some.inj ((g2 ws hq2).symm.trans ew)
    subst ex1; subst ex2
    exact pair_new S hT rv rw'
end

/-! ### iterables' denotations -/
/-- what is wanted of a walked thing -/
def OutI (Γ : Gm) (W : WX) (σ : L2.St) (π : Pl) (H : Hp) (r : Rs Itb) (R : It → Hp → Prop) : Prop := match r with
  | .ok b st1 => ∀ π' H' J, Ext π H π' H' → StR Γ π' H' st1 → ItR Γ π' H' J b → R J H'
  | .ex x st1 => ∀ π' H' cls dx, Ext π H π' H' → StR Γ π' H' st1 → RepX Γ π' H' cls dx x → W cls dx σ H'
  | .no => False
/-- the reading of a walked thing's denotation -/
def tI (Γ : Gm) (W : WX) (m : Env → Sto → Rs Itb) : TI := fun σ H R => ∃ π env st, EnvR Γ π H σ env ∧ StR Γ π H st ∧ OutI Γ W σ π H (m env st) R
theorem imI {X : Cx} {tg e : Expr} {t t' : TI} (h : PI X tg e t) (q : ∀ σ H Q, t' σ H Q → t σ H Q) : PI X tg e t' := ⟨fun pins s σ H R I hw => h.run pins s σ H R I (q _ _ _ hw)⟩
def mIn (f : D → Option Itb) (m : Env → Sto → Rs D) : Env → Sto → Rs Itb := fun env st => (m env st).bind fun d st1 => match f d with
  | some b => .ok b st1
  | none => .no
def mIns (f : List D → Option Itb) (m : Env → Sto → Rs (List D)) : Env → Sto → Rs Itb := fun env st => (m env st).bind fun d st1 => match f d with
  | some b => .ok b st1
  | none => .no
/-- from the value that is walked -/
theorem tI_by {α β : Type} {Γ : Gm} {W : WX} {R0 : Pl → Hp → β → α → Prop} {m : Env → Sto → Rs α} {f : α → Option Itb} {σ : L2.St} {H : Hp} {R : It → Hp → Prop} {P : β → Hp → Prop} (h : tI Γ W (fun env st => (m env st).bind fun d st1 => match f d with
      | some b => .ok b st1
      | none => .no) σ H R)
    (go : ∀ π1 H1 b a st1 it, StR Γ π1 H1 st1 → R0 π1 H1 b a → f a = some it → (∀ J, ItR Γ π1 H1 J it → R J H1) → P b H1) : tG Γ R0 W m σ H P := by
  obtain ⟨π, env, st, E, S, h⟩ := h
  refine ⟨π, env, st, E, S, ?_⟩
  dsimp only at h
  cases e : m env st with
  | ok a st1 =>
    rw [e] at h
    intro π1 H1 b e1 S1 r1
    have h' : OutI Γ W σ π H (match f a with
      | some b => .ok b st1
      | none => .no) R := h
    cases q : f a with
    | some it =>
      rw [q] at h'
      exact go π1 H1 b a st1 it S1 r1 q fun J ir => h' π1 H1 J e1 S1 ir
    | none =>
      rw [q] at h'
      exact h'.elim
  | ex x st1 =>
    rw [e] at h
    exact h
  | no =>
    rw [e] at h
    exact h.elim
def itL (d : D) : Option Itb := match srcOf d with
  | some s => some (.one s)
  | none => none
def itT (d : D) : Option Itb := match d with
  | .tup ds => some (.one (.fix ds))
  | _ => none
def itS (d : D) : Option Itb := match d with
  | .str l => some (.sgn l)
  | _ => none
def itR1 (ds : List D) : Option Itb := match ds with
  | [.int j] => if -(2 ^ 62) ≤ j ∧ j < 2 ^ 62 then some (.rng 0 1 j.toNat) else none
  | _ => none
def itR2 (ds : List D) : Option Itb := match ds with
  | [.int i, .int j] => if -(2 ^ 62) ≤ i ∧ i < 2 ^ 62 ∧ -(2 ^ 62) ≤ j ∧ j < 2 ^ 62 then some (.rng i 1 (j - i).toNat) else none
  | _ => none
def rgN (i j c : Int) : Nat := (Builtin.Range.rangeSize i j c).toNat
def itR3 (ds : List D) : Option Itb := match ds with
  | [.int i, .int j, .int c] => if c ≠ 0 ∧ c.natAbs < 1073741824 ∧ Builtin.Range.small i j c = true ∧ 0 ≤ Builtin.Range.rangeSize i j c then some (.rng i c (rgN i j c)) else none
  | _ => none
def itE (ds : List D) : Option Itb := match ds with
  | [d] => match srcOf d with
    | some s => some (.enum s)
    | none => none
  | _ => none
def itZ (ds : List D) : Option Itb := match ds with
  | [.tup a, .tup b] => some (.zip (.fix a) (.fix b))
  | [a, b] => match srcOf a, srcOf b with
    | some s, some t => some (.zip s t)
    | _, _ => none
  | _ => none
section
variable {X : Cx} {W : WX} {e e2 a b c : Expr} {es elts : List Expr} {p pos tpos : Pos} {kk : Nat} {m : Env → Sto → Rs D} {ml : Env → Sto → Rs (List D)} {ce : Nat → Option Addr} {fe : Nat → Str} {tb : List Addr} {tg : Expr}
theorem di_list (h : PE X e (tE (gx X ce fe tb) W m)) : PI X tg e (tI (gx X ce fe tb) W (mIn itL m)) := by
  refine imI (pi_list h) fun σ H R q => tI_by q fun π1 H1 v d st1 it S r e rr => ?_
  unfold itL at e
  split at e
  · rename_i s es
    cases e
    obtain ⟨a, rfl, hs⟩ := srcOf_ok r es
    obtain ⟨vs, ds, hq, _⟩ := hs π1 H1 st1 Ext.refl.toKp S
    exact ⟨a, rfl, ⟨vs, hq⟩, rr _ (itr_list hs)⟩
  · cases e
theorem di_tup (h : PE X e (tE (gx X ce fe tb) W m)) : PI X tg e (tI (gx X ce fe tb) W (mIn itT m)) := by
  refine imI (pi_tup h) fun σ H R q => tI_by q fun π1 H1 v d st1 it S r e rr => ?_
  unfold itT at e
  split at e
  · rename_i ds
    cases e
    obtain ⟨a, rfl, hs⟩ := srcT_ok r
    obtain ⟨vs, ds, hq, _⟩ := hs π1 H1 st1 Ext.refl.toKp S
    exact ⟨a, rfl, ⟨vs, hq⟩, rr _ (itr_tup hs)⟩
  · cases e
theorem di_str (h : PE X e (tE (gx X ce fe tb) W m)) : PI X tg e (tI (gx X ce fe tb) W (mIn itS m)) := by
  refine imI (pi_str h) fun σ H R q => tI_by q fun π1 H1 v d st1 it S r e rr => ?_
  unfold itS at e
  split at e
  · rename_i l
    cases e
    exact ⟨_, r, rr _ itr_sgn⟩
  · cases e
theorem r1_of {Γ : Gm} {π : Pl} {H : Hp} {vs : List V} {i : Int} (r : RepL Γ π H vs [.int i]) : vs = [.int i] := by
  obtain ⟨v, vr, rfl, r1, r2⟩ := r
  rw [show v = _ from r1, show vr = [] from r2]
theorem r2_of {Γ : Gm} {π : Pl} {H : Hp} {vs : List V} {i j : Int} (r : RepL Γ π H vs [.int i, .int j]) : vs = [.int i, .int j] := by
  obtain ⟨v, vr, rfl, r1, r2⟩ := r
  rw [show v = _ from r1, r1_of r2]
theorem r3_of {Γ : Gm} {π : Pl} {H : Hp} {vs : List V} {i j k : Int} (r : RepL Γ π H vs [.int i, .int j, .int k]) : vs = [.int i, .int j, .int k] := by
  obtain ⟨v, vr, rfl, r1, r2⟩ := r
  rw [show v = _ from r1, r2_of r2]
theorem di_range1 (hg : Gl X "range") (hm : X.mg "range" = none) (ha : PA X [a] (tL (gx X ce fe tb) W ml)) (hs : starEach [a] X.env = [(false, eval a X.env)] := by rfl) : PI X tg (.Call (.Name "range" p) [a] [] pos) (tI (gx X ce fe tb) W (mIns itR1 ml)) := by
  refine imI (pi_range1 hg hm ha hs) fun σ H R q => tI_by q fun π1 H1 v d st1 it S r e rr => ?_
  unfold itR1 at e
  split at e
  · rename_i j
    split at e
    · rename_i hh
      cases e
      exact ⟨j, r1_of r, hh.1, hh.2, rr _ itr_rng1⟩
    · cases e
  · cases e
theorem di_range2 (hg : Gl X "range") (hm : X.mg "range" = none) (ha : PA X [a, b] (tL (gx X ce fe tb) W ml)) (hs : starEach [a, b] X.env = [(false, eval a X.env), (false, eval b X.env)] := by rfl) (hs2 : starEach [b] X.env = [(false, eval b X.env)] := by rfl) :
    PI X tg (.Call (.Name "range" p) [a, b] [] pos) (tI (gx X ce fe tb) W (mIns itR2 ml)) := by
  refine imI (pi_range2 hg hm ha hs hs2) fun σ H R q => tI_by q fun π1 H1 v d st1 it S r e rr => ?_
  unfold itR2 at e
  split at e
  · rename_i i j
    split at e
    · rename_i hh
      cases e
      exact ⟨i, j, r2_of r, hh, rr _ itr_rng1⟩
    · cases e
  · cases e
theorem di_range3 (hg : Gl X "range") (hm : X.mg "range" = none) (ha : PA X [a, b, c] (tL (gx X ce fe tb) W ml)) (hs : starEach [a, b, c] X.env = (false, eval a X.env) :: starEach [b, c] X.env := by rfl) (hpl : (backTo pos (starEach [b, c] X.env)).any (·.1) = false := by rfl) :
    PI X tg (.Call (.Name "range" p) [a, b, c] [] pos) (tI (gx X ce fe tb) W (mIns itR3 ml)) := by
  refine imI (pi_range3 hg hm ha hs hpl) fun σ H R q => tI_by q fun π1 H1 v d st1 it S r e rr => ?_
  unfold itR3 at e
  split at e
  · rename_i i j k
    split at e
    · rename_i hh
      cases e
      exact ⟨i, j, k, rgN i j k, r3_of r, ⟨hh.1, hh.2.1, hh.2.2.1, (Int.toNat_of_nonneg hh.2.2.2).symm⟩, rr _ itr_rng⟩
    · cases e
  · cases e
theorem di_enum (hg : Gl X "enumerate") (hm : X.mg "enumerate" = none) (ha : PA X [e] (tL (gx X ce fe tb) W ml)) (hs : starEach [e] X.env = [(false, eval e X.env)] := by rfl) :
    PI X (.Tuple elts kk tpos) (.Call (.Name "enumerate" p) [e] [] pos) (tI (gx X ce fe tb) W (mIns itE ml)) := by
  refine imI (pi_enum hg hm ha hs) fun σ H R q => tI_by q fun π1 H1 v d st1 it S r e rr => ?_
  unfold itE at e
  split at e
  · rename_i d0
    split at e
    · rename_i s es
      cases e
      obtain ⟨v0, vr, rfl, r1, r2⟩ := r
      rw [show vr = [] from r2]
      obtain ⟨a, rfl, hs⟩ := srcOf_ok r1 es
      obtain ⟨vs, ds, hq, _⟩ := hs π1 H1 st1 Ext.refl.toKp S
      exact ⟨a, vs, rfl, hq, rr _ (itr_enum hs)⟩
    · cases e
  · cases e
theorem di_zip (hg : Gl X "zip") (hm : X.mg "zip" = none) (ha : PA X [e, e2] (tL (gx X ce fe tb) W ml)) (hs : starEach [e, e2] X.env = (false, eval e X.env) :: starEach [e2] X.env := by rfl) (hpl : (backTo pos (starEach [e2] X.env)).any (·.1) = false := by rfl) :
    PI X (.Tuple elts kk tpos) (.Call (.Name "zip" p) [e, e2] [] pos) (tI (gx X ce fe tb) W (mIns itZ ml)) := by
  refine imI (RZ.pi_zipA hg hm ha hs hpl) fun σ H R q => tI_by q fun π1 H1 v d st1 it S r e rr => ?_
  unfold itZ at e
  split at e
  · rename_i a b
    cases e
    obtain ⟨v0, vr, rfl, r1, r2⟩ := r
    obtain ⟨v1, vr2, rfl, r3, r4⟩ := r2
    rw [show vr2 = [] from r4]
    obtain ⟨p, rfl, hs⟩ := srcT_ok r1
    obtain ⟨q, rfl, ht⟩ := srcT_ok r3
    obtain ⟨vs, ds, hq, _⟩ := hs π1 H1 st1 Ext.refl.toKp S
    obtain ⟨ws, es, hq2, _⟩ := ht π1 H1 st1 Ext.refl.toKp S
    exact ⟨p, q, vs, ws, rfl, .inr ⟨hq, hq2, rr _ (itr_zipT hs ht)⟩⟩
  · rename_i a b _
    split at e
    · rename_i s t es et
      cases e
      obtain ⟨v0, vr, rfl, r1, r2⟩ := r
      obtain ⟨v1, vr2, rfl, r3, r4⟩ := r2
      rw [show vr2 = [] from r4]
      obtain ⟨p, rfl, hs⟩ := srcOf_ok r1 es
      obtain ⟨q, rfl, ht⟩ := srcOf_ok r3 et
      obtain ⟨vs, ds, hq, _⟩ := hs π1 H1 st1 Ext.refl.toKp S
      obtain ⟨ws, es, hq2, _⟩ := ht π1 H1 st1 Ext.refl.toKp S
      exact ⟨p, q, vs, ws, rfl, .inl ⟨hq, hq2, rr _ (itr_zip hs ht)⟩⟩
    · cases e
  · cases e
end

/-! ### for -/
def loopF (b : Itb) (tg : D → Env → Option Env) (body : Env → Sto → Sr) : Nat → Nat → Env → Sto → Sr
  | 0, _, _, _ => .no
  | n + 1, i, env, st => match b.at_ i st with
    | none => .nx env st
    | some d => match tg d env with
      | none => .no
      | some env' => match body env' st with
        | .nx e s => loopF b tg body n (i + 1) e s
        | .ct e s => loopF b tg body n (i + 1) e s
        | .bk e s => .nx e s
        | r => r
def sFor (mi : Env → Sto → Rs Itb) (tg : D → Env → Option Env) (body : Env → Sto → Sr) : Env → Sto → Sr := fun env st => (mi env st).thn env fun b st1 => loopF b tg body (b.fuel st1) 0 env st1
section
variable {X : Cx} {Γ : Gm} {W : WX} {iter target : Expr} {ss : List Stmt} {pos : Pos} {mi : Env → Sto → Rs Itb} {mb : Env → Sto → Sr} {g : TG} {sl : List Nat} {mg : D → Env → Option Env}
theorem ds_for (hp : PassesOwn (model X.prog X.w) X.A X.env X.xe) (hc : X.calm = true) (hi : PI X target iter (tI Γ W mi)) (hg : PG X target g) (hd : DG Γ g sl mg) (hb : PSs X ss (tS Γ W mb))
    (hs : ∀ x, foldedSetIterable iter X.env x = pure x := by intro _; rfl) : PS X (.For target iter ss [] pos) (tS Γ W (sFor mi mg mb)) := by
  refine imS (ps_for hp hc hi hg hb hs) fun De σ H ⟨π, env, st, E, S, h⟩ => ?_
  refine ⟨π, env, st, E, S, ?_⟩
  unfold sFor at h
  cases e : mi env st with
  | ex x st1 =>
    rw [e] at h
    exact fun π' H' c d e' S' r' => h π' H' σ c d e' (E.ext e'.toKp) S' r'
  | no => rw [e] at h; exact h
  | ok b st1 =>
    rw [e] at h
    intro π1 H1 J e1 S1 ir
    have h1 : OutS Γ W π1 H1 (loopF b mg mb (b.fuel st1) 0 env st1) De := OutS.ext e1 h
    have E1 := E.ext e1.toKp
    refine ⟨fun i n σ H => ∃ π env st, Ext π1 H1 π H ∧ EnvR Γ π H σ env ∧ StR Γ π H st ∧ OutS Γ W π H (loopF b mg mb n i env st) De, ⟨b.fuel st1, π1, env, st1, Ext.refl, E1, S1, h1⟩, ?_⟩
    rintro i n σ H ⟨π, env, st, ex, E, S, h⟩
    cases n with
    | zero => exact h.elim
    | succ n =>
      unfold loopF at h
      split at h
      · rename_i eb
        exact .inl ⟨ir.stop π H st i ex.toKp S eb, h.nxt E S⟩
      · rename_i d eb
        split at h
        · exact h.elim
        · rename_i env' eg
          refine .inr ⟨ir.go π H st i d ex.toKp S eb, fun σ' H' => ∃ π env st, Ext π1 H1 π H' ∧ EnvR Γ π H' σ' env ∧ StR Γ π H' st ∧ OutS Γ W π H' (loopF b mg mb n (i + 1) env st) De, fun σ' H' q => ⟨n, Nat.lt_succ_self n, q⟩, fun x H' y => ?_⟩
          obtain ⟨rx, ex2, S2⟩ := ir.yld π H st i d x H' ex.toKp S eb y
          refine hd π H' x d σ env env' _ (E.ext ex2.toKp) rx eg fun σ' E' _ => ⟨π, env', st, E', S2 st S, ?_⟩
          have h' := OutS.ext ex2 h
          cases er : mb env' st with
          | nx e2 s2 =>
            rw [er] at h'
            exact fun π' H'' σ'' x' E'' S'' => ⟨π', e2, s2, (ex.trans ex2).trans x', E'', S'', OutS.ext x' h'⟩
          | ct e2 s2 =>
            rw [er] at h'
            exact fun π' H'' σ'' x' E'' S'' => ⟨π', e2, s2, (ex.trans ex2).trans x', E'', S'', OutS.ext x' h'⟩
          | bk e2 s2 => rw [er] at h'; exact h'
          | rt d s2 => rw [er] at h'; exact h'
          | ex x e2 s2 => rw [er] at h'; exact h'
          | no => rw [er] at h'; exact h'
end
end Dn
end

section
set_option Elab.async false
set_option linter.all false
set_option maxRecDepth 100000
namespace Dn
open PySem PySem.Spec PyProof.Rows L2

/-! ### list comprehensions -/
/-- as bind, but what is raised is not told -/
def Rs.bindN {α β : Type} (r : Rs α) (k : α → Sto → Rs β) : Rs β := match r with
  | .ok a st => k a st
  | .ex _ _ => .no
  | .no => .no
abbrev W0 : WX := fun _ _ _ _ => False
def mYes : Env → Sto → Rs Bool := fun _ st => .ok true st
def loopC (b : Itb) (tg : D → Env → Option Env) (tt : Env → Sto → Rs Bool) (te : Env → Sto → Rs D) (env : Env) : Nat → Nat → Sto → Rs (List D)
  | 0, _, _ => .no
  | n + 1, i, st => match b.at_ i st with
    | none => .ok [] st
    | some d => match tg d env with
      | none => .no
      | some env' => (tt env' st).bindN fun k st1 => match k with
        | false => loopC b tg tt te env n (i + 1) st1
        | true => (te env' st1).bindN fun y st2 => (loopC b tg tt te env n (i + 1) st2).bindN fun ys st3 => .ok (y :: ys) st3
def mLc (mu : Bool) (vs : List Nat) (mi : Env → Sto → Rs Itb) (tg : D → Env → Option Env) (tt : Env → Sto → Rs Bool) (te : Env → Sto → Rs D) : Env → Sto → Rs D := fun env st => (mi env st).bind fun b st1 =>
  if b.fuel st1 ≤ sz then (loopC b tg tt te (wipeE env vs) (b.fuel st1) 0 st1).bindN fun ys st2 => mkL mu ys st2 else .no
section
variable {Γ : Gm} {W : WX} {σ σ2 : L2.St} {π π1 : Pl} {H H1 : Hp} {env : Env} {st : Sto}
/-- a step within, what follows being told from (π1, H1) -/
theorem bindN {α β γ δ : Type} {R : Pl → Hp → β → α → Prop} {R' : Pl → Hp → δ → γ → Prop} {m : Env → Sto → Rs α} {k : α → Sto → Rs γ} {Q : δ → Hp → Prop} {P : β → Hp → Prop}
    (hE : EnvR Γ π H σ2 env) (hS : StR Γ π H st) (h : Out Γ R' W σ π1 H1 ((m env st).bindN k) Q)
    (go : ∀ π' H' b a st', Ext π H π' H' → EnvR Γ π' H' σ2 env → StR Γ π' H' st' → R π' H' b a → Out Γ R' W σ π1 H1 (k a st') Q → P b H') : tG Γ R W0 m σ2 H P := by
  refine ⟨π, env, st, hE, hS, ?_⟩
  cases e : m env st with
  | ok a st1 =>
    rw [e] at h
    exact fun π' H' b e1 s1 r1 => go π' H' b a st1 e1 (hE.ext e1.toKp) s1 r1 h
  | ex x st1 =>
    rw [e] at h
    exact h.elim
  | no =>
    rw [e] at h
    exact h
theorem RepL.one {v : V} {d : D} (r : Rep Γ π H v d) : RepL Γ π H [v] [d] := ⟨v, [], rfl, r, rfl⟩
theorem bindN_assoc {α β γ : Type} (r : Rs α) (f : α → Sto → Rs β) (g : β → Sto → Rs γ) : (r.bindN f).bindN g = r.bindN fun a st => (f a st).bindN g := by
  cases r <;> rfl
theorem tmpR {p : Addr} {o : HO} (e : Ext π H π1 H1) (hp : H p = some o) (ht : isTb o = false) (hr : p ∉ π.ρ) (hf : ¬ π.F p) : H1 p = some o ∧ p ∉ π1.ρ ∧ ¬ π1.F p :=
  ⟨e.keep p o hp ht hr, (fun m => (e.newR p m).elim hr (fun z => by rw [hp] at z; cases z)), (fun f => (e.newF p f).elim hf (fun z => by rw [hp] at z; cases z))⟩
/-- the reading of a comprehension's turns -/
theorem lc_run {Q : VK} {J : It} {b : Itb} {g : TG} {sl vs : List Nat} {mg : D → Env → Option Env} {tt : Env → Sto → Rs Bool} {te : Env → Sto → Rs D} {mu : Bool} {n0 : Nat} (hn0 : n0 ≤ sz) (ir : ItR Γ π1 H1 J b) (hd : DG Γ g sl mg) (hv : ∀ i ∈ sl, i ∈ vs)
    (E1 : EnvR Γ π1 H1 σ env) (S1 : StR Γ π1 H1 st) (h : Out Γ (Rep Γ) W σ π1 H1 ((loopC b mg tt te (wipeE env vs) n0 0 st).bindN fun ys st2 => mkL mu ys st2) Q) {Da : Addr} (hD : H1 Da = none) :
    ∃ V : Nat → Nat → Hp → Prop, (∃ m, V 0 m (upd H1 Da (.lst []))) ∧ ∀ i m H, V i m H →
      (J.stop i H ∧ Q (.ref Da) H) ∨ (J.go i H ∧ ∃ Nx : Hp → Prop, (∀ H', Nx H' → ∃ m', m' < m ∧ V (i + 1) m' H') ∧ ∀ x H', J.yld i H x H' → g x (wipe σ vs) H' fun σ2 H2 => wipe σ2 vs = wipe σ vs ∧ tT Γ W0 tt σ2 H2 fun b H3 =>
        if b = true then tE Γ W0 te σ2 H3 fun y H4 => ∃ acc, H4 Da = some (.lst acc) ∧ acc.length < sizeLine ∧ Nx (upd H4 Da (.lst (acc ++ [y]))) else Nx H3) := by
  refine ⟨fun i m H => ∃ π st acc xs, i + m = n0 ∧ acc.length ≤ i ∧ Ext π1 H1 π H ∧ H Da = some (.lst xs) ∧ Da ∉ π.ρ ∧ ¬ π.F Da ∧ EnvR Γ π H (wipe σ vs) (wipeE env vs) ∧ StR Γ π H st ∧ RepL Γ π H xs acc ∧
      Out Γ (Rep Γ) W σ π1 H1 ((loopC b mg tt te (wipeE env vs) m i st).bindN fun ys st2 => mkL mu (acc ++ ys) st2) Q,
    ⟨n0, π1, st, [], [], Nat.zero_add _, Nat.le_refl _, Ext.refl.tmp hD, upd_same, S1.fresh hD, S1.freshF hD, (E1.wipe vs).ext (ext_new hD).toKp, S1.new hD, rfl, h⟩, ?_⟩
  rintro i m H ⟨π, st, acc, xs, him, hacc, ex, eD, nr, nf, E, S, ra, h⟩
  cases m with
  | zero => exact h.elim
  | succ n =>
    unfold loopC at h
    split at h
    · rename_i eb
      refine .inl ⟨ir.stop π H st i ex.toKp S eb, ?_⟩
      have h' : Out Γ (Rep Γ) W σ π1 H1 (mkL mu (acc ++ []) st) Q := h
      rw [List.append_nil] at h'
      exact h'.made ex hD S eD nr nf ra
    · rename_i d eb
      split at h
      · exact h.elim
      · rename_i env' eg
        refine .inr ⟨ir.go π H st i d ex.toKp S eb, fun H' => ∃ π st acc xs, i + 1 + n = n0 ∧ acc.length ≤ i + 1 ∧ Ext π1 H1 π H' ∧ H' Da = some (.lst xs) ∧ Da ∉ π.ρ ∧ ¬ π.F Da ∧ EnvR Γ π H' (wipe σ vs) (wipeE env vs) ∧ StR Γ π H' st ∧ RepL Γ π H' xs acc ∧
            Out Γ (Rep Γ) W σ π1 H1 ((loopC b mg tt te (wipeE env vs) n (i + 1) st).bindN fun ys st2 => mkL mu (acc ++ ys) st2) Q, fun H' q => ⟨n, Nat.lt_succ_self n, q⟩, fun x H' y => ?_⟩
        obtain ⟨rx, ex2, S2⟩ := ir.yld π H st i d x H' ex.toKp S eb y
        obtain ⟨eD2, nr2, nf2⟩ := tmpR ex2 eD rfl nr nf
        have Ew := E.ext ex2.toKp
        have ra2 := ra.ext ex2.toKp
        refine hd π H' x d (wipe σ vs) (wipeE env vs) env' _ Ew rx eg fun σ' E' hw => ⟨?_, ?_⟩
        · rw [hw vs hv, wipe_twice fun _ h => h]
        · rw [bindN_assoc] at h
          refine bindN (R := RB) E' (S2 st S) h fun π3 H3 k k' st3 e3 E3 S3 r3 h3 => ?_
          obtain ⟨eD3, nr3, nf3⟩ := tmpR e3 eD2 rfl nr2 nf2
          rw [show k = k' from r3]
          cases k' with
          | false =>
            exact iteF ⟨π3, st3, acc, xs, by omega, by omega, (ex.trans ex2).trans e3, eD3, nr3, nf3, Ew.ext e3.toKp, S3, ra2.ext e3.toKp, h3⟩
          | true =>
            refine iteT ?_
            have h3' : Out Γ (Rep Γ) W σ π1 H1 (((te env' st3).bindN fun y st2 => (loopC b mg tt te (wipeE env vs) n (i + 1) st2).bindN fun ys st3 => .ok (y :: ys) st3).bindN fun ys st2 => mkL mu (acc ++ ys) st2) Q := h3
            rw [bindN_assoc] at h3'
            refine bindN (R := Rep Γ) E3 S3 h3' fun π4 H4 y dy st4 e4 E4 S4 r4 h4 => ?_
            obtain ⟨eD4, nr4, nf4⟩ := tmpR e4 eD3 rfl nr3 nf3
            rw [bindN_assoc] at h4
            have ra4 := (ra2.ext e3.toKp).ext e4.toKp
            have kp := kp_tmp (ys := xs ++ [y]) S4 eD4 nr4 nf4
            refine ⟨xs, eD4, by rw [ra.length, sizeLine_eq]; have z1 : n0 ≤ 16777216 := hn0; omega, π4, st4, acc ++ [dy], xs ++ [y], by omega, by rw [List.length_append]; show acc.length + 1 ≤ i + 1; omega, (((ex.trans ex2).trans e3).trans e4).tmp hD, upd_same, nr4, nf4,
              (((Ew.ext e3.toKp).ext e4.toKp).ext kp), S4.tmp eD4 nr4 nf4, (ra4.append (RepL.one r4)).ext kp, ?_⟩
            have e5 : (fun (ys : List D) (st2 : Sto) => mkL mu (acc ++ [dy] ++ ys) st2) = fun (a : List D) (st : Sto) => (Rs.ok (dy :: a) st : Rs (List D)).bindN fun ys st2 => mkL mu (acc ++ ys) st2 := by
              funext ys st2
              show mkL mu (acc ++ [dy] ++ ys) st2 = mkL mu (acc ++ (dy :: ys)) st2
              rw [List.append_assoc]
              rfl
            rw [e5]
            exact h4
end
section
variable {X : Cx} {Γ : Gm} {W : WX} {elt tg iter : Expr} {ifs : List Expr} {scope : Scope} {pos : Pos} {mi : Env → Sto → Rs Itb} {g : TG} {sl : List Nat} {mg : D → Env → Option Env} {tt : Env → Sto → Rs Bool} {te : Env → Sto → Rs D}
theorem dts_nil : PTs X [] (tT Γ W mYes) := ⟨fun pins s σ H Q I hw => pts_nil.run pins s σ H Q I (by
  obtain ⟨π, env, st, E, S, h⟩ := hw
  exact h.now S rfl)⟩
theorem dts_one {c : Expr} (h : PT X c (tT Γ W tt)) : PTs X [c] (tT Γ W tt) := pts_one h
theorem tLc_of {vs : List Nat} {mu : Bool} {σ : L2.St} {H : Hp} {Q : VK} (hd : DG Γ g sl mg) (hv : ∀ i ∈ sl, i ∈ vs) (h : tE Γ W (mLc mu vs mi mg tt te) σ H Q) : tLc (tI Γ W mi) g (tT Γ W0 tt) (tE Γ W0 te) vs σ H Q := by
  obtain ⟨π, env, st, E, S, h⟩ := h
  refine ⟨π, env, st, E, S, ?_⟩
  unfold mLc at h
  cases e : mi env st with
  | ex x st1 => rw [e] at h; exact h
  | no => rw [e] at h; exact h
  | ok b st1 =>
    rw [e] at h
    intro π1 H1 J e1 S1 ir Da hD
    have h1 : Out Γ (Rep Γ) W σ π1 H1 (if b.fuel st1 ≤ sz then (loopC b mg tt te (wipeE env vs) (b.fuel st1) 0 st1).bindN fun ys st2 => mkL mu ys st2 else .no) Q := Out.ext e1 h
    split at h1
    · rename_i hz
      exact lc_run hz ir hd hv (E.ext e1.toKp) S1 h1 hD
    · exact h1.elim
theorem den_lc (mu : Bool) {own : List (Str × Nat)} (hc : X.calm = true) (hN : X.N.Nodup) (hi : PI X tg iter (tI Γ W mi)) (ok : BlkOk X.N X.env.scope scope own) (hd : DG Γ g sl mg) (hv : ∀ i ∈ sl, i ∈ own.map (·.2))
    (hg : ∀ (s : Shared) (H : Hp) (C : Addr) (cl : List (Str × Addr)) (fp : List Addr), PG (X.blk s H scope (compEnvC scope cl C X.env) fp) tg g) (ht : ∀ (s : Shared) (H : Hp) (C : Addr) (cl : List (Str × Addr)) (fp : List Addr), PTs (X.blk s H scope (compEnvC scope cl C X.env) fp) ifs (tT Γ W0 tt))
    (he : ∀ (s : Shared) (H : Hp) (C : Addr) (cl : List (Str × Addr)) (fp : List Addr), PE (X.blk s H scope (compEnvC scope cl C X.env) fp) elt (tE Γ W0 te)) (hs : ∀ x, foldedSetIterable iter X.env x = pure x := by intro _; rfl) :
    PE X (.ListComp elt [⟨tg, iter, ifs, 0⟩] scope pos) (tE Γ W (mLc mu (own.map (·.2)) mi mg tt te)) :=
  imE (pe_lc hc hN hi ok hg ht he hs) fun _ _ _ h => tLc_of hd hv h
theorem ds_setLc (i : Nat) (mu : Bool) {own : List (Str × Nat)} {y : Str} {py spos : Pos} (hc : X.calm = true) (hN : X.N.Nodup) (hy : X.N[i]? = some y) (hyl : X.env.scope.names.lookup y = some .local)
    (hsw : swapsWith (.ListComp elt [⟨tg, iter, ifs, 0⟩] scope pos) (some (.Name y py)) spos.line X.env = pure true) (hi : PI X tg iter (tI Γ W mi)) (ok : BlkOk X.N X.env.scope scope own) (hd : DG Γ g sl mg) (hv : ∀ i ∈ sl, i ∈ own.map (·.2))
    (hg : ∀ (s : Shared) (H : Hp) (C : Addr) (cl : List (Str × Addr)) (fp : List Addr), PG (X.blk s H scope (compEnvC scope cl C X.env) fp) tg g) (ht : ∀ (s : Shared) (H : Hp) (C : Addr) (cl : List (Str × Addr)) (fp : List Addr), PTs (X.blk s H scope (compEnvC scope cl C X.env) fp) ifs (tT Γ W0 tt))
    (he : ∀ (s : Shared) (H : Hp) (C : Addr) (cl : List (Str × Addr)) (fp : List Addr), PE (X.blk s H scope (compEnvC scope cl C X.env) fp) elt (tE Γ W0 te)) (hs : ∀ x, foldedSetIterable iter X.env x = pure x := by intro _; rfl) :
    PS X (.Assign [.Name y py] (.ListComp elt [⟨tg, iter, ifs, 0⟩] scope pos) spos) (tS Γ W (sAsg (gNm i) (mLc mu (own.map (·.2)) mi mg tt te))) := by
  refine imS (ps_setLc hc hN hy hyl hsw hi ok hg ht he hs) fun De σ H ⟨π, env, st, E, S, h⟩ => ?_
  show tLc _ _ _ _ _ σ H _
  refine tLc_of hd hv (bindS E S h fun π1 H1 v d st1 e1 E1 S1 r1 h1 => ?_)
  exact h1.nxt (E1.set r1) S1

/-! ### defs and their calls -/
/-- the promise of a def that is told by F -/
def spM (Γ : Gm) (n : Nat) (F : List D → Sto → Rs D) : Sp := fun vs H Q E => vs.length = n ∧ ∃ π ds st, StR Γ π H st ∧ RepL Γ π H vs ds ∧ Out Γ (Rep Γ) (fun cls dx _ H => E cls dx H) [] π H (F ds st) Q
def mCall (F : List D → Sto → Rs D) (ml : Env → Sto → Rs (List D)) : Env → Sto → Rs D := fun env st => (ml env st).bind F
/-- the slots of a def's start -/
def startE (n : Nat) (ds : List D) : Env := ds.map some ++ List.replicate (n - ds.length) none
def dFn (n : Nat) (B : Env → Sto → Sr) : List D → Sto → Rs D := fun ds st => match B (startE n ds) st with
  | .nx _ st' => .ok .non st'
  | .rt d st' => .ok d st'
  | .ex x _ st' => .ex x st'
  | _ => .no
theorem start_get {Γ : Gm} {π : Pl} {H : Hp} : ∀ {vs : List V} {ds : List D} (k : Nat) (i : Nat) (d : D), RepL Γ π H vs ds → (ds.map some ++ List.replicate k none)[i]? = some (some d) → ∃ v, (vs.map some ++ List.replicate k none)[i]? = some (some v) ∧ Rep Γ π H v d
  | _, [], k, i, d, r, h => by
    have h' : (List.replicate k (none : Option D))[i]? = some (some d) := h
    rw [List.getElem?_replicate] at h'
    split at h' <;> cases h'
  | _, e :: ds, k, 0, d, ⟨v, vr, a, b, c⟩, h => by
    subst a
    have h' : some (some e) = some (some d) := h
    cases h'
    exact ⟨v, rfl, b⟩
  | _, e :: ds, k, i + 1, d, ⟨v, vr, a, b, c⟩, h => by
    subst a
    exact start_get (vs := vr) (ds := ds) k i d c h
theorem startR {Γ : Gm} {π : Pl} {H : Hp} {vs : List V} {ds : List D} (N : List Str) (r : RepL Γ π H vs ds) : EnvR Γ π H (L2.start N vs) (startE N.length ds) := by
  unfold L2.start startE
  rw [r.length]
  refine ⟨?_, fun i d h => start_get _ i d r h⟩
  rw [List.length_append, List.length_append, List.length_map, List.length_map, List.length_replicate, List.length_replicate, r.length]
theorem fn_den {P : Program} {w : World} {K : PySem.W.Frag} {mg : Str → Option Value} {base : Heap} {ce : Nat → Option Addr} {fe : Nat → Str} {tb : List Addr} {x qual : Str} {st : Stmt} {f : Addr} {fd : FuncData} {N ps : List Str} {k n : Nat} {B : Env → Sto → Sr} (F : Fun K x qual st f fd) (Sc : FnScope N ps (defScope st)) (hn : n = ps.length)
    (hB : ∀ (cdv : Value) (A : Around) (outer : List PySem.Env) (s : Shared) (H : Hp) (E : XK), Room k (A.deeper (envOfC qual (defScope st) s.heap.objs.size f cdv)) →
      PSs (cxOf (L2.CX P w) P w K mg base N qual (defScope st) f cdv A outer s H E) (defBody st) (tS ⟨K, ce, fe, tb⟩ (fun cls dx _ H => E cls dx H) B)) :
    FnOk P w K mg base (L2.CX P w) (k + 1) f fd ps (spM ⟨K, ce, fe, tb⟩ n (dFn N.length B)) := by
  refine F.okX Sc (fun vs H Q E h => hn ▸ h.1) fun cdv A outer s H vs Q E hr h => ⟨_, hB cdv A outer s H E hr, ?_⟩
  obtain ⟨_, π, ds, st, S, r, h⟩ := h
  refine ⟨π, _, st, startR N r, S, ?_⟩
  unfold dFn at h
  cases e : B (startE N.length ds) st with
  | nx env1 st1 =>
    rw [e] at h
    exact fun π' H' σ' e' E' S' => h π' H' .non e' S' rfl
  | rt d st1 =>
    rw [e] at h
    exact fun π' H' v e' S' r' => h π' H' v e' S' r'
  | ex x env1 st1 =>
    rw [e] at h
    exact fun π' H' σ' c d e' E' S' r' => h π' H' c d e' S' r'
  | bk env1 st1 => rw [e] at h; exact h.elim
  | ct env1 st1 => rw [e] at h; exact h.elim
  | no => rw [e] at h; exact h.elim
/-- a def that is never called so -/
theorem fn_no {P : Program} {w : World} {K : PySem.W.Frag} {mg : Str → Option Value} {base : Heap} {ce : Nat → Option Addr} {fe : Nat → Str} {tb : List Addr} {f : Addr} {fd : FuncData} {ps : List Str} {k : Nat} : FnOk P w K mg base (L2.CX P w) k f fd ps (spM ⟨K, ce, fe, tb⟩ ps.length fun _ _ => .no) :=
  ⟨fun vs H Q E h => h.1, fun A outer s H args us vs Q E hr he hb hv h => by
    obtain ⟨_, π, ds, st, _, _, z⟩ := h
    exact z.elim⟩
end
section
variable {X : Cx} {W : WX} {k n : Nat} {f : Addr} {fd : FuncData} {ps : List Str} {F : List D → Sto → Rs D} {x : Str} {p pos : Pos} {e : Expr} {es : List Expr} {ml : Env → Sto → Rs (List D)} {ce : Nat → Option Addr} {fe : Nat → Str} {tb : List Addr}
theorem call_of {σ : L2.St} {H : Hp} {vs : List V} {ds : List D} {π : Pl} {st : Sto} {Q : VK} (S : StR (gx X ce fe tb) π H st) (r : RepL (gx X ce fe tb) π H vs ds) (hl : vs.length = n) (h : Out (gx X ce fe tb) (Rep (gx X ce fe tb)) W σ π H (F ds st) Q) :
    spM (gx X ce fe tb) n F vs H Q (fun c d H' => W c d σ H') := by
  refine ⟨hl, π, ds, st, S, r, ?_⟩
  cases e : F ds st with
  | ok d s2 => rw [e] at h; exact h
  | ex x s2 => rw [e] at h; exact h
  | no => rw [e] at h; exact h
/-- f(a, ..): as many values as it has parameters -/
theorem den_call (G : FnOk X.prog X.w X.K X.mg X.base (L2.CX X.prog X.w) k f fd ps (spM (gx X ce fe tb) n F)) (hr : Room k X.A) (hg : Gl X x) (hm : X.mg x = some (.ref f)) (hk : PySem.W.keepIn X.K (.ref f) = true) (hb : Binds X.K fd ps []) (tk : Takes X W)
    (ha : PA X (e :: es) (tL (gx X ce fe tb) W ml)) (hn : (e :: es).length = n) (hlen : ∀ env st ds st', ml env st = .ok ds st' → ds.length = (e :: es).length)
    (hdb : (x == ("__debug__" : Str)) = false := by decide) (he : starEach (e :: es) X.env = (false, eval e X.env) :: starEach es X.env := by rfl) (hpl : (backTo pos (starEach es X.env)).any (·.1) = false := by rfl) :
    PE X (.Call (.Name x p) (e :: es) [] pos) (tE (gx X ce fe tb) W (mCall F ml)) := by
  refine imE (pe_callSD (E := fun σ c d H' => W c d σ H') G hr hg hm hk hb .nil (fun σ => passAt tk σ) ha hdb he hpl) fun σ H Q ⟨π, env, st, E, S, h⟩ => ?_
  refine ⟨π, env, st, E, S, ?_⟩
  unfold mCall at h
  cases q : ml env st with
  | ex x st1 => rw [q] at h; exact h
  | no => rw [q] at h; exact h
  | ok ds st1 =>
    rw [q] at h
    intro π1 H1 vs e1 S1 r1
    rw [List.append_nil]
    exact call_of S1 r1 (by rw [r1.length, hlen env st ds st1 q, hn]) (Out.ext e1 h)
end
end Dn
end

section
set_option Elab.async false
set_option linter.all false
set_option maxRecDepth 100000
namespace Dn
open PySem PySem.Spec PyProof.Rows L2

/-! ### built-in functions and classes, called -/
def OpN (Γ : Gm) (r : List V → Hp → VK → Prop) (f : List D → Sto → Rs D) : Prop := ∀ (W : WX) (σ : L2.St) (π : Pl) (H : Hp) (vs : List V) (ds : List D) (st : Sto) (Q : VK), StR Γ π H st → RepL Γ π H vs ds → Out Γ (Rep Γ) W σ π H (f ds st) Q → r vs H Q
section
variable {X : Cx} {Γ : Gm} {W : WX} {id : String} {T : String} {x : Str} {p pos : Pos} {e : Expr} {es : List Expr} {ml : Env → Sto → Rs (List D)} {r : List V → Hp → VK → Prop} {f : List D → Sto → Rs D}
theorem tCB_of {σ : L2.St} {H : Hp} {Q : VK} (hf : OpN Γ r f) (h : tE Γ W (mCall f ml) σ H Q) : tCB r (tL Γ W ml) σ H Q := by
  obtain ⟨π, env, st, E, S, h⟩ := h
  exact bindG E S h fun π1 H1 vs ds st1 e1 E1 S1 r1 h1 => hf W σ π1 H1 vs ds st1 Q S1 r1 h1
theorem den_bf (hc : CallR X (.builtin id) r) (hf : OpN Γ r f) (hg : Gl X x) (hm : X.mg x = none) (hv : bootBuiltins x = some (.builtin id)) (ha : PA X (e :: es) (tL Γ W ml)) (hn : x ≠ "__name__" := by decide) (hdb : (x == ("__debug__" : Str)) = false := by decide)
    (he : starEach (e :: es) X.env = (false, eval e X.env) :: starEach es X.env := by rfl) (hpl : (backTo pos (starEach es X.env)).any (·.1) = false := by rfl) : PE X (.Call (.Name x p) (e :: es) [] pos) (tE Γ W (mCall f ml)) :=
  imE (pe_callB hc hg hm hv ha hn hdb he hpl) fun _ _ _ h => tCB_of hf h
theorem den_bt (hc : CallR X (.type T) r) (hf : OpN Γ r f) (hg : Gl X x) (hm : X.mg x = none) (hv : bootBuiltins x = some (.type T)) (ha : PA X (e :: es) (tL Γ W ml)) (hn : x ≠ "__name__" := by decide) (hdb : (x == ("__debug__" : Str)) = false := by decide)
    (he : starEach (e :: es) X.env = (false, eval e X.env) :: starEach es X.env := by rfl) (hpl : (backTo pos (starEach es X.env)).any (·.1) = false := by rfl) : PE X (.Call (.Name x p) (e :: es) [] pos) (tE Γ W (mCall f ml)) :=
  imE (pe_callTy hc hg hm hv ha hn hdb he hpl) fun _ _ _ h => tCB_of hf h
end
theorem RepL.one' {Γ : Gm} {π : Pl} {H : Hp} {vs : List V} {d : D} (r : RepL Γ π H vs [d]) : ∃ v, vs = [v] ∧ Rep Γ π H v d := by
  obtain ⟨v, vr, rfl, a, b⟩ := r
  rw [show vr = [] from b]
  exact ⟨v, rfl, a⟩
theorem RepL.two {Γ : Gm} {π : Pl} {H : Hp} {vs : List V} {d e : D} (r : RepL Γ π H vs [d, e]) : ∃ v w, vs = [v, w] ∧ Rep Γ π H v d ∧ Rep Γ π H w e := by
  obtain ⟨v, vr, rfl, a, b⟩ := r
  obtain ⟨w, rfl, c⟩ := RepL.one' b
  exact ⟨v, w, rfl, a, c⟩
def fLen (ds : List D) (st : Sto) : Rs D := match ds with
  | [.str l] => if l.length ≤ sz then .ok (.int (l.length : Nat)) st else .no
  | [d] => match getS d st with
    | some xs => .ok (.int (xs.length : Nat)) st
    | none => .no
  | _ => .no
theorem o_len {Γ : Gm} : OpN Γ (fun xs H Q => ∃ x n, xs = [x] ∧ LenV Γ.K x H n ∧ Q (.int (n : Nat)) H) fLen := fun W σ π H vs ds st Q S r h => by
  unfold fLen at h
  split at h
  · rename_i l
    obtain ⟨v, rfl, rv⟩ := r.one'
    split at h
    · rename_i hz
      exact ⟨v, l.length, rfl, by rw [show v = _ from rv]; exact ⟨by rw [str_len, sizeLine_eq]; exact hz, rfl⟩, h.now S rfl⟩
    · exact h.elim
  · rename_i d _
    obtain ⟨v, rfl, rv⟩ := r.one'
    split at h
    · rename_i xs e
      obtain ⟨q, ws, rfl, hq, rl⟩ := getS_ok S rv e
      refine ⟨_, ws.length, rfl, ?_, by rw [rl.length]; exact h.now S rfl⟩
      rcases hq with hq | hq
      · exact .inl ⟨ws, hq, rfl⟩
      · exact .inr ⟨ws, hq, rfl⟩
    · exact h.elim
  · exact h.elim
def fAbs (ds : List D) (st : Sto) : Rs D := match ds with
  | [.int i] => .ok (.int (if i < 0 then -i else i)) st
  | _ => .no
theorem o_abs {Γ : Gm} : OpN Γ (fun xs H Q => ∃ i, xs = [.int i] ∧ Q (.int (if i < 0 then -i else i)) H) fAbs := fun W σ π H vs ds st Q S r h => by
  unfold fAbs at h
  split at h
  · rename_i i
    obtain ⟨v, rfl, rv⟩ := r.one'
    exact ⟨i, by rw [show v = _ from rv], h.now S rfl⟩
  · exact h.elim
def fInt (ds : List D) (st : Sto) : Rs D := match ds with
  | [.int i] => .ok (.int i) st
  | [.bl k] => .ok (.int (if k then 1 else 0)) st
  | _ => .no
theorem o_int {Γ : Gm} : OpN Γ (fun xs H Q => (∃ i, xs = [.int i] ∧ Q (.int i) H) ∨ ∃ k, xs = [.bl k] ∧ Q (.int (if k then 1 else 0)) H) fInt := fun W σ π H vs ds st Q S r h => by
  unfold fInt at h
  split at h
  · rename_i i
    obtain ⟨v, rfl, rv⟩ := r.one'
    exact .inl ⟨i, by rw [show v = _ from rv], h.now S rfl⟩
  · rename_i k
    obtain ⟨v, rfl, rv⟩ := r.one'
    exact .inr ⟨k, by rw [show v = _ from rv], h.now S rfl⟩
  · exact h.elim
def fOrd (ds : List D) (st : Sto) : Rs D := match ds with
  | [.str [c]] => .ok (.int (c : Nat)) st
  | _ => .no
theorem o_ord {Γ : Gm} : OpN Γ (fun xs H Q => ∃ x, xs = [.str x] ∧ x.length = 1 ∧ Q (.int (x.cps.getD 0 0 : Nat)) H) fOrd := fun W σ π H vs ds st Q S r h => by
  unfold fOrd at h
  split at h
  · rename_i c
    obtain ⟨v, rfl, rv⟩ := r.one'
    exact ⟨⟨⟨[c]⟩⟩, by rw [show v = _ from rv], rfl, h.now S rfl⟩
  · exact h.elim
def fTuple (ds : List D) (st : Sto) : Rs D := match ds with
  | [.tup xs] => .ok (.tup xs) st
  | [d] => match getL d st with
    | some xs => .ok (.tup xs) st
    | none => .no
  | _ => .no
theorem o_tuple {Γ : Gm} : OpN Γ (fun xs H Q => ∃ p ys, xs = [.ref p] ∧ ((SqL Γ.K H p ys ∧ ∀ l, H l = none → Q (.ref l) (upd H l (.tup ys))) ∨ (SqT Γ.K H p ys ∧ Q (.ref p) H))) fTuple := fun W σ π H vs ds st Q S r h => by
  unfold fTuple at h
  split at h
  · rename_i xs
    obtain ⟨v, rfl, rv⟩ := r.one'
    obtain ⟨p, ws, rfl, hq, rl⟩ := id rv
    exact ⟨p, ws, rfl, .inr ⟨SqT.of hq, h.now S rv⟩⟩
  · rename_i d _
    obtain ⟨v, rfl, rv⟩ := r.one'
    split at h
    · rename_i xs e
      obtain ⟨p, ws, rfl, hq, rl⟩ := getL_ok S rv e
      exact ⟨p, ws, rfl, .inl ⟨hq, fun l hl => h.newT S rl hl⟩⟩
    · exact h.elim
  · exact h.elim
def fList (mu : Bool) (ds : List D) (st : Sto) : Rs D := match ds with
  | [d] => match getS d st with
    | some xs => mkL mu xs st
    | none => .no
  | _ => .no
theorem o_list {Γ : Gm} (mu : Bool) : OpN Γ (fun xs H Q => ∃ p ys, xs = [.ref p] ∧ (SqL Γ.K H p ys ∨ SqT Γ.K H p ys) ∧ ∀ l, H l = none → Q (.ref l) (upd H l (.lst ys))) (fList mu) := fun W σ π H vs ds st Q S r h => by
  unfold fList at h
  split at h
  · rename_i d
    obtain ⟨v, rfl, rv⟩ := r.one'
    split at h
    · rename_i xs e
      obtain ⟨p, ws, rfl, hq, rl⟩ := getS_ok S rv e
      exact ⟨p, ws, rfl, hq, fun l hl => h.newL S rl hl⟩
    · exact h.elim
  · exact h.elim
/-- all are True or False -/
def blsOf : List D → Option (List Bool)
  | [] => some []
  | .bl b :: ds => match blsOf ds with
    | some bs => some (b :: bs)
    | none => none
  | _ :: _ => none
theorem blsOf_ok {Γ : Gm} {π : Pl} {H : Hp} : ∀ {ds : List D} {bs : List Bool} {vs : List V}, RepL Γ π H vs ds → blsOf ds = some bs → vs = bs.map V.bl
  | [], bs, vs, r, h => by cases h; exact r
  | d :: ds, bs, vs, r, h => by
    obtain ⟨v, vr, rfl, a, b⟩ := r
    cases d with
    | bl k =>
      unfold blsOf at h
      split at h
      · rename_i cs e
        cases h
        rw [show v = _ from a, blsOf_ok b e]
        rfl
      · cases h
    | _ => cases h
def fAll (ds : List D) (st : Sto) : Rs D := match ds with
  | [d] => match getL d st with
    | some xs => match blsOf xs with
      | some bs => .ok (.bl (bs.all id)) st
      | none => .no
    | _ => .no
  | _ => .no
def fAny (ds : List D) (st : Sto) : Rs D := match ds with
  | [d] => match getL d st with
    | some xs => match blsOf xs with
      | some bs => .ok (.bl (bs.any id)) st
      | none => .no
    | none => .no
  | _ => .no
theorem o_all {Γ : Gm} : OpN Γ (rAll Γ.K) fAll := fun W σ π H vs ds st Q S r h => by
  unfold fAll at h
  split at h
  · rename_i d
    obtain ⟨v, rfl, rv⟩ := r.one'
    split at h
    · rename_i xs e
      obtain ⟨p, ws, rfl, hq, rl⟩ := getL_ok S rv e
      split at h
      · rename_i bs eb
        exact ⟨p, bs, rfl, by rw [← blsOf_ok rl eb]; exact hq, h.now S rfl⟩
      · exact h.elim
    · exact h.elim
  · exact h.elim
theorem o_any {Γ : Gm} : OpN Γ (rAny Γ.K) fAny := fun W σ π H vs ds st Q S r h => by
  unfold fAny at h
  split at h
  · rename_i d
    obtain ⟨v, rfl, rv⟩ := r.one'
    split at h
    · rename_i xs e
      obtain ⟨p, ws, rfl, hq, rl⟩ := getL_ok S rv e
      split at h
      · rename_i bs eb
        exact ⟨p, bs, rfl, by rw [← blsOf_ok rl eb]; exact hq, h.now S rfl⟩
      · exact h.elim
    · exact h.elim
  · exact h.elim
def fMax (ds : List D) (st : Sto) : Rs D := match ds with
  | [.int i, .int j] => .ok (.int (if j > i then j else i)) st
  | _ => .no
def fMin (ds : List D) (st : Sto) : Rs D := match ds with
  | [.int i, .int j] => .ok (.int (if j < i then j else i)) st
  | _ => .no
theorem o_max {Γ : Gm} : OpN Γ (fun xs H Q => ∃ i j, xs = [.int i, .int j] ∧ Q (.int (if j > i then j else i)) H) fMax := fun W σ π H vs ds st Q S r h => by
  unfold fMax at h
  split at h
  · rename_i i j
    obtain ⟨v, w, rfl, rv, rw'⟩ := r.two
    exact ⟨i, j, by rw [show v = _ from rv, show w = _ from rw'], h.now S rfl⟩
  · exact h.elim
theorem o_min {Γ : Gm} : OpN Γ (fun xs H Q => ∃ i j, xs = [.int i, .int j] ∧ Q (.int (if j < i then j else i)) H) fMin := fun W σ π H vs ds st Q S r h => by
  unfold fMin at h
  split at h
  · rename_i i j
    obtain ⟨v, w, rfl, rv, rw'⟩ := r.two
    exact ⟨i, j, by rw [show v = _ from rv, show w = _ from rw'], h.now S rfl⟩
  · exact h.elim

/-! ### isinstance of data -/
inductive Kd where
  | int | bool | str | list | tuple
def Kd.nm : Kd → String
  | .int => "int"
  | .bool => "bool"
  | .str => "str"
  | .list => "list"
  | .tuple => "tuple"
inductive Tg where
  | non | bl | int | str | tup | lst
def Tg.nm : Tg → String
  | .non => "NoneType"
  | .bl => "bool"
  | .int => "int"
  | .str => "str"
  | .tup => "tuple"
  | .lst => "list"
def tg : D → Tg
  | .non => .non
  | .bl _ => .bl
  | .int _ => .int
  | .str _ => .str
  | .tup _ => .tup
  | .lst _ => .lst
  | .rol _ => .lst
  | .cell _ => .lst
  | .ktp _ => .non
  | .dic _ => .non
  | .xz _ => .non
  | .xo _ _ => .non
def isT : Tg → Kd → Bool
  | .bl, .bool => true
  | .bl, .int => true
  | .int, .int => true
  | .str, .str => true
  | .tup, .tuple => true
  | .lst, .list => true
  | _, _ => false
theorem isT_ok (t : Tg) (k : Kd) : kitB t.nm k.nm = some (isT t k) := by
  cases t <;> cases k <;> decide +kernel
def tyN (d : D) : String := (tg d).nm
def isK (d : D) (k : Kd) : Bool := isT (tg d) k
theorem isK_ok (d : D) (k : Kd) : kitB (tyN d) k.nm = some (isK d k) := isT_ok (tg d) k
def anyK (d : D) : List Kd → Bool
  | [] => false
  | k :: ks => isK d k || anyK d ks
theorem anyK_ok {K : PySem.W.Frag} (d : D) : ∀ ks : List Kd, PySem.W.kitAny K (.type (tyN d)) (ks.map fun k => .type k.nm) = some (anyK d ks)
  | [] => rfl
  | k :: ks => by
    refine kitAny_cons (kit_ty (isK_ok d k)) (fun e => ?_) fun e => ?_
    · rw [anyK_ok d ks]
      show some (anyK d ks) = some (isK d k || anyK d ks)
      rw [e]
      rfl
    · show (isK d k || anyK d ks) = true
      rw [e]
      rfl
/-- an exception -/
def isX : D → Bool
  | .ktp _ => true
  | .dic _ => true
  | .xz _ => true
  | .xo _ _ => true
  | _ => false
@[simp] theorem isX_non : isX .non = false := rfl
@[simp] theorem isX_bl (b : Bool) : isX (.bl b) = false := rfl
@[simp] theorem isX_int (i : Int) : isX (.int i) = false := rfl
@[simp] theorem isX_str (l : List Nat) : isX (.str l) = false := rfl
@[simp] theorem isX_tup (l : List D) : isX (.tup l) = false := rfl
@[simp] theorem isX_lst (l : List D) : isX (.lst l) = false := rfl
@[simp] theorem isX_rol (l : List D) : isX (.rol l) = false := rfl
@[simp] theorem isX_cell (n : Nat) : isX (.cell n) = false := rfl
theorem tyX_of {Γ : Gm} {π : Pl} {H : Hp} {v : V} {d : D} {st : Sto} (S : StR Γ π H st) (r : Rep Γ π H v d) (hx : isX d = false) : TyX Γ.K H v (.type (tyN d)) := by
  cases d with
  | non => rw [show v = .non from r]; exact .base .non
  | bl _ => rw [show v = _ from r]; exact .base (.bl _)
  | int _ => rw [show v = _ from r]; exact .base (.int _)
  | str _ => rw [show v = _ from r]; exact .base (.str _)
  | tup _ =>
    obtain ⟨p, vs, rfl, h, _⟩ := r
    exact .base (.tup h)
  | lst _ =>
    obtain ⟨p, vs, rfl, h, _⟩ := r
    exact .base (.lst h)
  | rol _ =>
    obtain ⟨p, vs, rfl, hq, _⟩ := r
    rcases hq with (⟨o, h⟩ | ⟨h, _⟩) | ⟨o, its, n, h, c, _⟩
    · exact .base (.frz h)
    · exact .base (.lst h)
    · exact .kList h c
  | cell n =>
    obtain ⟨p, rfl, h, hd⟩ := r
    obtain ⟨vs, h⟩ := S.lst (List.mem_of_getElem? h) hd
    exact .base (.lst h)
  | ktp _ => cases hx
  | dic _ => cases hx
  | xz _ => cases hx
  | xo _ _ => cases hx
def mIsi (ks : List Kd) (m : Env → Sto → Rs D) : Env → Sto → Rs D := fun env st => (m env st).bind fun d st1 => if isX d = false then .ok (.bl (anyK d ks)) st1 else .no
def tCs (vs : List V) : TA := fun _ H Q => Q vs H
section
variable {X : Cx} {W : WX} {x : Str} {p p2 pos : Pos} {e e2 : Expr} {es : List Expr} {m : Env → Sto → Rs D} {ce : Nat → Option Addr} {fe : Nat → Str} {tb : List Addr} {vs : List V} {k : Kd}
theorem pat_nil : PA X [] (tCs []) := imA pa_nil fun _ _ _ h => h
theorem pat_cons {v : V} (h : PE X e (tC v)) (hr : PA X es (tCs vs)) (hs : starEach (e :: es) X.env = (false, eval e X.env) :: starEach es X.env := by rfl) : PA X (e :: es) (tCs (v :: vs)) := imA (pa_cons h hr hs) fun _ _ _ h => h
/-- the name of a built-in class -/
theorem pe_kd (k : Kd) (hg : Gl X x) (hm : X.mg x = none) (hv : bootBuiltins x = some (.type k.nm)) (hn : x ≠ "__name__" := by decide) (hd : (x == ("__debug__" : Str)) = false := by decide) : PE X (.Name x pos) (tC (.ty k.nm)) := pe_bltn hg hm hv rfl hn hd
theorem den_isi1 (k : Kd) (hg : Gl X "isinstance") (hm : X.mg "isinstance" = none) (he : PE X e (tE (gx X ce fe tb) W m)) (ht : PE X e2 (tC (.ty k.nm)))
    (hs : starEach (e :: [e2]) X.env = (false, eval e X.env) :: starEach [e2] X.env := by rfl) (hs2 : starEach [e2] X.env = (false, eval e2 X.env) :: starEach [] X.env := by rfl) (hpl : (backTo pos (starEach [e2] X.env)).any (·.1) = false := by rfl) :
    PE X (.Call (.Name "isinstance" p) [e, e2] [] pos) (tE (gx X ce fe tb) W (mIsi [k] m)) := by
  refine imE (pe_callB call_isi hg hm PyProof.Rows.boot_isinstance (pa_cons he (pat_cons ht pat_nil hs2) hs) (by decide) (by decide) hs hpl) fun σ H Q ⟨π, env, st, E, S, h⟩ => ?_
  refine bindG E S h fun π1 H1 v d st1 e1 E1 S1 r1 h1 => ?_
  split at h1
  case isFalse => exact h1.elim
  rename_i hx
  refine ⟨v, .ty k.nm, .type (tyN d), .type k.nm, isK d k, rfl, .ty _, tyX_of S1 r1 hx, kit_ty (isK_ok d k), h1.now S1 ?_⟩
  show V.bl (isK d k) = V.bl (isK d k || false)
  rw [Bool.or_false]
theorem den_isiT (ks : List Kd) {j : Nat} {tpos : Pos} (hg : Gl X "isinstance") (hm : X.mg "isinstance" = none) (he : PE X e (tE (gx X ce fe tb) W m)) (ht : PA X es (tCs (ks.map fun k => .ty k.nm))) (hl : ks.length ≤ 16)
    (hs : starEach (e :: [.Tuple es j tpos]) X.env = (false, eval e X.env) :: starEach [.Tuple es j tpos] X.env := by rfl) (hs2 : starEach [.Tuple es j tpos] X.env = (false, eval (.Tuple es j tpos) X.env) :: starEach [] X.env := by rfl) (hpl : (backTo pos (starEach [.Tuple es j tpos] X.env)).any (·.1) = false := by rfl) :
    PE X (.Call (.Name "isinstance" p) [e, .Tuple es j tpos] [] pos) (tE (gx X ce fe tb) W (mIsi ks m)) := by
  refine imE (pe_callB call_isiT hg hm PyProof.Rows.boot_isinstance (pa_cons he (pa_cons (pe_tup ht) pa_nil hs2) hs) (by decide) (by decide) hs hpl) fun σ H Q ⟨π, env, st, E, S, h⟩ => ?_
  refine bindG E S h fun π1 H1 v d st1 e1 E1 S1 r1 h1 => ?_
  split at h1
  case isFalse => exact h1.elim
  rename_i hx
  refine ⟨by rw [List.length_map, sizeLine_eq]; omega, fun t ht => ?_⟩
  have S2 := S1.new (o := .tup (ks.map fun k => V.ty k.nm)) ht
  have r2 := r1.ext (ext_new (π := π1) (o := .tup (ks.map fun k => V.ty k.nm)) ht).toKp
  refine ⟨v, t, ks.map fun k => V.ty k.nm, .type (tyN d), ks.map fun k => .type k.nm, anyK d ks, rfl, upd_same, ?_, tyX_of S2 r2 hx, anyK_ok d ks, Out.now (Out.ext (ext_new ht) h1) S2 rfl⟩
  have go : ∀ ks : List Kd, Paired ClsV (ks.map fun k => V.ty k.nm) (ks.map fun k => Value.type k.nm) := by
    intro ks
    induction ks with
    | nil => exact .nil
    | cons k ks ih => exact .cons (.ty _) ih
  exact go ks

/-! ### methods of lists and texts -/
def mApp (mo me : Env → Sto → Rs D) : Env → Sto → Rs D := fun env st => (mo env st).bind fun o st1 => match o with
  | .cell n => (me env st1).bind fun d st2 => match st2[n]? with
    | some (.lst ds) => if ds.length < sz then .ok .non (st2.set n (.lst (ds ++ [d]))) else .no
    | _ => .no
  | _ => .no
def mPop (mo : Env → Sto → Rs D) : Env → Sto → Rs D := fun env st => (mo env st).bind fun o st1 => match o with
  | .cell n => match st1[n]? with
    | some (.lst ds) => match ds[ds.length - 1]? with
      | some d => .ok d (st1.set n (.lst ds.dropLast))
      | none => .no
    | _ => .no
  | _ => .no
theorem RepL.dropLast {Γ : Gm} {π : Pl} {H : Hp} {vs : List V} {ds : List D} (r : RepL Γ π H vs ds) : RepL Γ π H vs.dropLast ds.dropLast := by
  rw [List.dropLast_eq_take, List.dropLast_eq_take, r.length]
  exact r.take _
variable {o : Expr} {mo me : Env → Sto → Rs D} {apos cpos : Pos}
theorem den_app (ho : PE X o (tE (gx X ce fe tb) W mo)) (he : PE X e (tE (gx X ce fe tb) W me)) (hbase : attributeBase o "append" X.env (eval o X.env) = eval o X.env := by rfl)
    (hfew : ((backTo cpos (starEach [e] X.env)).all (fun x => !x.1) && (backToKw cpos (keywordEach [] X.env)).all (fun x => x.1.isSome)
      && decide ([e].length + ([] : List Keyword).length + (if ([] : List Keyword).isEmpty then 0 else 1) < 30)) = true := by rfl)
    (hline : (apos.endLine == cpos.line) = true := by rfl) (hs : starEach [e] X.env = (false, eval e X.env) :: starEach [] X.env := by rfl) :
    PE X (.Call (.Attribute o "append" apos) [e] [] cpos) (tE (gx X ce fe tb) W (mApp mo me)) := by
  refine imE (pe_bm PySem.F.plainAttrs_list PySem.F.slot_list_append PySem.F.type_list_append mt_append ho (pa_cons he pa_nil hs) hbase hfew hline hs rfl) fun σ H Q ⟨π, env, st, E, S, h⟩ => ?_
  refine bindG E S h fun π1 H1 v d st1 e1 E1 S1 r1 h1 => ?_
  cases d with
  | cell n =>
    have ty : tyV X.K "list" v H1 := by
      obtain ⟨p, rfl, hp, hd⟩ := r1
      obtain ⟨vs, hv⟩ := S1.lst (List.mem_of_getElem? hp) hd
      exact .inl ⟨rfl, vs, SqL.of hv⟩
    refine ⟨ty, ?_⟩
    refine bindG E1 S1 h1 fun π2 H2 w dw st2 e2 E2 S2 r2 h2 => ?_
    obtain ⟨p, rfl, hp, _⟩ := r1.ext e2.toKp
    split at h2
    · rename_i ds q
      split at h2
      · rename_i hz
        obtain ⟨vs, hv, rl⟩ := S2.read hp q
        refine ⟨p, vs, w, rfl, rfl, hv, by rw [rl.length, sizeLine_eq]; exact hz, ?_⟩
        exact h2 π2 _ _ (ext_put S2 (List.mem_of_getElem? hp) hv) (S2.put hp hv (rl.append (RepL.one r2))) rfl
      · exact h2.elim
    · exact h2.elim
  | _ => exact h1.elim
theorem den_pop (ho : PE X o (tE (gx X ce fe tb) W mo)) (hbase : attributeBase o "pop" X.env (eval o X.env) = eval o X.env := by rfl) (hline : (apos.endLine == cpos.line) = true := by rfl) :
    PE X (.Call (.Attribute o "pop" apos) [] [] cpos) (tE (gx X ce fe tb) W (mPop mo)) := by
  refine imE (pe_bm0 PySem.F.plainAttrs_list PySem.F.slot_list_pop PySem.F.type_list_pop mt_pop ho hbase hline) fun σ H Q ⟨π, env, st, E, S, h⟩ => ?_
  refine bindG E S h fun π1 H1 v d st1 e1 E1 S1 r1 h1 => ?_
  cases d with
  | cell n =>
    obtain ⟨p, rfl, hp, _⟩ := r1
    replace h1 : Out (gx X ce fe tb) (Rep (gx X ce fe tb)) W σ π1 H1 (match st1[n]? with
      | some (.lst ds) => match ds[ds.length - 1]? with
        | some d => .ok d (st1.set n (.lst ds.dropLast))
        | none => .no
      | _ => .no) Q := h1
    split at h1
    · rename_i ds q
      split at h1
      · rename_i d hd
        obtain ⟨vs, hv, rl⟩ := S1.read hp q
        obtain ⟨y, ey, ry⟩ := rl.get hd
        refine ⟨.inl ⟨rfl, vs, SqL.of hv⟩, p, vs, y, rfl, rfl, hv, by rw [rl.length]; exact ey, ?_⟩
        have ex := ext_put (vs := vs.dropLast) S1 (List.mem_of_getElem? hp) hv
        exact h1 π1 _ _ ex (S1.put hp hv rl.dropLast) (ry.ext ex.toKp)
      · exact h1.elim
    · exact h1.elim
  | _ => exact h1.elim
/-- texts -/
def strsOf : List D → Option (List (List Nat))
  | [] => some []
  | .str l :: ds => match strsOf ds with
    | some ls => some (l :: ls)
    | none => none
  | _ :: _ => none
def S1 (l : List Nat) : Str := ⟨⟨l⟩⟩
theorem strsOf_ok {Γ : Gm} {π : Pl} {H : Hp} : ∀ {ds : List D} {ls : List (List Nat)} {vs : List V}, RepL Γ π H vs ds → strsOf ds = some ls → vs = (ls.map S1).map V.str
  | [], ls, vs, r, h => by cases h; exact r
  | d :: ds, ls, vs, r, h => by
    obtain ⟨v, vr, rfl, a, b⟩ := r
    cases d with
    | str l =>
      unfold strsOf at h
      split at h
      · rename_i ms e
        cases h
        rw [show v = _ from a, strsOf_ok b e]
        rfl
      · cases h
    | _ => cases h
def sumLen : List (List Nat) → Nat
  | [] => 0
  | l :: ls => l.length + sumLen ls
theorem sumLen_ok : ∀ ls : List (List Nat), ((ls.map S1).map (·.length)).sum = sumLen ls
  | [] => rfl
  | l :: ls => by
    rw [List.map_cons, List.map_cons, List.sum_cons, sumLen_ok ls]
    rfl
def joinD (s : List Nat) : List (List Nat) → List Nat
  | [] => []
  | [p] => p
  | p :: q :: r => p ++ (s ++ joinD s (q :: r))
theorem joinD_go (s : List Nat) : ∀ ls : List (List Nat), TL.joinL (TL.tl (S1 s)) ((ls.map S1).map TL.tl) = joinD s ls
  | [] => rfl
  | [p] => rfl
  | p :: q :: r => by
    show p ++ (s ++ TL.joinL (TL.tl (S1 s)) (((q :: r).map S1).map TL.tl)) = p ++ (s ++ joinD s (q :: r))
    rw [joinD_go s (q :: r)]
theorem joinD_ok (s : List Nat) (ls : List (List Nat)) : Txt.join (S1 s) (ls.map S1) = S1 (joinD s ls) := by
  rw [TL.join_eq]
  have key : (Str.join (S1 s) (ls.map S1)).cps.toList = joinD s ls := (TL.tl_join (S1 s) (ls.map S1)).trans (joinD_go s ls)
  rw [← key]
  rfl
def mJoin (mo me : Env → Sto → Rs D) : Env → Sto → Rs D := fun env st => (mo env st).bind fun o st1 => match o with
  | .str s => (me env st1).bind fun d st2 => match getS d st2 with
    | some ds => match strsOf ds with
      | some ls => if sumLen ls + ls.length * s.length ≤ sz then .ok (.str (joinD s ls)) st2 else .no
      | none => .no
    | none => .no
  | _ => .no
theorem den_join (ho : PE X o (tE (gx X ce fe tb) W mo)) (he : PE X e (tE (gx X ce fe tb) W me)) (hs : starEach [e] X.env = [(false, eval e X.env)] := by rfl) (hbase : attributeBase o "join" X.env (eval o X.env) = eval o X.env := by rfl) (hline : (apos.endLine == cpos.line) = true := by rfl) :
    PE X (.Call (.Attribute o "join" apos) [e] [] cpos) (tE (gx X ce fe tb) W (mJoin mo me)) := by
  refine imE (pe_join ho he hs hbase hline) fun σ H Q ⟨π, env, st, E, S, h⟩ => ?_
  refine bindG E S h fun π1 H1 v d st1 e1 E1 S1' r1 h1 => ?_
  cases d with
  | str s =>
    refine ⟨⟨_, r1⟩, ?_⟩
    refine bindG E1 S1' h1 fun π2 H2 w dw st2 e2 E2 S2 r2 h2 => ?_
    split at h2
    · rename_i ds q
      split at h2
      · rename_i ls q2
        split at h2
        · rename_i hz
          obtain ⟨p, vs, rfl, hq, rl⟩ := getS_ok S2 r2 q
          have ev := strsOf_ok rl q2
          refine ⟨S1 s, p, ls.map S1, r1, rfl, by rw [← ev]; exact hq, by rw [sumLen_ok, List.length_map]; exact hz, ?_⟩
          rw [joinD_ok]
          exact h2.now S2 rfl
        · exact h2.elim
      · exact h2.elim
    · exact h2.elim
  | _ => exact h1.elim
/-- the first place of a sign -/
def idxN (c : Nat) : List Nat → Option Nat
  | [] => none
  | x :: xs => if x = c then some 0 else match idxN c xs with
    | some i => some (i + 1)
    | none => none
theorem idxN_ok (c : Nat) : ∀ {l : List Nat} {i : Nat}, idxN c l = some i → l[i]? = some c ∧ ∀ k, k < i → l[k]? ≠ some c
  | [], i, h => by cases h
  | x :: xs, i, h => by
    unfold idxN at h
    split at h
    · rename_i e
      cases h
      exact ⟨by rw [e]; rfl, fun k hk => absurd hk (Nat.not_lt_zero _)⟩
    · rename_i e
      split at h
      · rename_i j ej
        cases h
        obtain ⟨a, b⟩ := idxN_ok c ej
        refine ⟨a, fun k hk => ?_⟩
        cases k with
        | zero => exact fun z => e (Option.some.inj z)
        | succ k => exact b k (by omega)
      · cases h
def mIndexS (mo me : Env → Sto → Rs D) : Env → Sto → Rs D := fun env st => (mo env st).bind fun o st1 => match o with
  | .str l => (me env st1).bind fun d st2 => match d with
    | .str [c] => match idxN c l with
      | some i => .ok (.int (i : Nat)) st2
      | none => .no
    | _ => .no
  | _ => .no
theorem occ_idx {c : Nat} {l : List Nat} {i : Nat} (h : idxN c l = some i) : ∃ r, Builtin.Str.occurrences (Dn.S1 l) (Dn.S1 [c]) 0 (Dn.S1 l).length 1 = i :: r := by
  obtain ⟨a, b⟩ := idxN_ok c h
  have sa : ∀ j, StrLaws.At (Dn.S1 l) (Dn.S1 [c]) (Dn.S1 l).length j ↔ l[j]? = some c := fun j => StrLaws.subAt_one (Dn.S1 l) c j
  rcases StrLaws.occ_head (Dn.S1 l) (Dn.S1 [c]) 1 (Nat.le_refl 1) with ⟨_, hn⟩ | ⟨j, r, e, aj, bj⟩
  · exact absurd ((sa i).mpr a) (hn i)
  · have : j = i := by
      rcases Nat.lt_trichotomy j i with z | z | z
      · exact absurd ((sa j).mp aj) (b j z)
      · exact z
      · exact absurd ((sa i).mpr a) (bj i z)
    rw [this] at e
    exact ⟨r, e⟩
theorem den_indexS (ho : PE X o (tE (gx X ce fe tb) W mo)) (he : PE X e (tE (gx X ce fe tb) W me)) (hs : starEach [e] X.env = [(false, eval e X.env)] := by rfl) (hbase : attributeBase o "index" X.env (eval o X.env) = eval o X.env := by rfl) (hline : (apos.endLine == cpos.line) = true := by rfl) :
    PE X (.Call (.Attribute o "index" apos) [e] [] cpos) (tE (gx X ce fe tb) W (mIndexS mo me)) := by
  refine imE (pe_m1 PySem.F.slot_str_index PySem.F.type_str_index mt_sindex ho he hs hbase hline) fun σ H Q ⟨π, env, st, E, S, h⟩ => ?_
  refine bindG E S h fun π1 H1 v d st1 e1 E1 S1' r1 h1 => ?_
  cases d with
  | str l =>
    refine ⟨⟨_, r1⟩, ?_⟩
    refine bindG E1 S1' h1 fun π2 H2 w dw st2 e2 E2 S2 r2 h2 => ?_
    split at h2
    · rename_i c
      split at h2
      · rename_i i q
        obtain ⟨r, eo⟩ := occ_idx q
        exact ⟨Dn.S1 l, Dn.S1 [c], i, r, r1, by rw [show w = _ from r2]; rfl, eo, h2.now S2 rfl⟩
      · exact h2.elim
    · exact h2.elim
  | _ => exact h1.elim
end
end Dn
end

section
set_option Elab.async false
set_option linter.all false
set_option maxRecDepth 100000
namespace Dn
open PySem PySem.Spec PyProof.Rows L2

/-! ### code that is not reached -/
def mNo : Env → Sto → Rs D := fun _ _ => .no
def sNo : Env → Sto → Sr := fun _ _ => .no
section
variable {X : Cx} {Γ : Gm} {W : WX} {e : Expr} {s : Stmt} {ss : List Stmt}
theorem den_no : PE X e (tE Γ W mNo) := ⟨fun _ _ _ _ _ _ h => by
  obtain ⟨_, _, _, _, _, z⟩ := h
  exact z.elim⟩
theorem ds_no : PS X s (tS Γ W sNo) := ⟨fun _ _ _ _ _ _ h => by
  obtain ⟨_, _, _, _, _, z⟩ := h
  exact z.elim⟩
theorem dsn_no : PSs X ss (tS Γ W sNo) := ⟨fun _ _ _ _ _ _ h => by
  obtain ⟨_, _, _, _, _, z⟩ := h
  exact z.elim⟩
end

/-! ### f() and f(k = e) -/
section
variable {X : Cx} {W : WX} {k n : Nat} {f : Addr} {fd : FuncData} {ps : List Str} {F : List D → Sto → Rs D} {x : Str} {p pos : Pos} {e : Expr} {es : List Expr} {ml mk : Env → Sto → Rs (List D)} {ce : Nat → Option Addr} {fe : Nat → Str} {tb : List Addr}
theorem den_call0 (G : FnOk X.prog X.w X.K X.mg X.base (L2.CX X.prog X.w) k f fd [] (spM (gx X ce fe tb) 0 F)) (hr : Room k X.A) (hg : Gl X x) (hm : X.mg x = some (.ref f)) (hk : PySem.W.keepIn X.K (.ref f) = true) (hb : Binds X.K fd [] []) (tk : Takes X W)
    (hdb : (x == ("__debug__" : Str)) = false := by decide) : PE X (.Call (.Name x p) [] [] pos) (tE (gx X ce fe tb) W (mCall F lNil)) := by
  refine ⟨fun pins s σ H Q I h => ?_⟩
  obtain ⟨π, env, st, E, S, h⟩ := h
  refine wpAny_Call_Name_kw (ld_glob I hg hm ?_ hdb)
  exact PySem.W.callWith_K0 I.kIn hk (run_fnSD (us := []) (vs := []) (E := fun σ c d H' => W c d σ H') G hr hb .nil (passAt tk σ) I .nil (call_of (vs := [] ++ []) (ds := []) S (show RepL (gx X ce fe tb) π H [] [] from rfl) rfl h))
/-- the values in the parameters' order -/
def pick {α : Type} (dflt : α) (xs : List α) : List Nat → List α
  | [] => []
  | i :: is => xs.getD i dflt :: pick dflt xs is
/-- how keywords bind: behind n positional values those of ks, put in the parameters' order by is -/
def KwB (fd : FuncData) (ps : List Str) (n : Nat) (ks : List Str) (is : List Nat) : Prop := ∀ (s : Shared) (us ws : List Value), us.length = n → ws.length = ks.length → BindsTo s fd ⟨us, ks.zip ws⟩ (ps.zip (pick .none (us ++ ws) is))
theorem RepL.getD {Γ : Gm} {π : Pl} {H : Hp} {vs : List V} {ds : List D} (r : RepL Γ π H vs ds) (i : Nat) : Rep Γ π H (vs.getD i .non) (ds.getD i .non) := by
  rw [List.getD_eq_getElem?_getD, List.getD_eq_getElem?_getD]
  cases e : ds[i]? with
  | none =>
    have : vs[i]? = Option.none := List.getElem?_eq_none_iff.mpr (r.none e)
    rw [this]
    rfl
  | some d =>
    obtain ⟨v, ev, rv⟩ := r.get e
    rw [ev]
    exact rv
theorem RepL.pick {Γ : Gm} {π : Pl} {H : Hp} {vs : List V} {ds : List D} (r : RepL Γ π H vs ds) : ∀ is : List Nat, RepL Γ π H (Dn.pick .non vs is) (Dn.pick .non ds is)
  | [] => rfl
  | i :: is => ⟨_, _, rfl, r.getD i, RepL.pick r is⟩
theorem Vals.getD {vs : List V} {us : List Value} (r : Vals vs us) (i : Nat) : RelV (vs.getD i .non) (us.getD i .none) := by
  rw [List.getD_eq_getElem?_getD, List.getD_eq_getElem?_getD]
  cases e : vs[i]? with
  | none =>
    rw [r.none_of e]
    rfl
  | some v =>
    obtain ⟨u, eu, ru⟩ := r.get e
    rw [eu]
    exact ru
theorem vals_pick {vs : List V} {us : List Value} (r : Vals vs us) : ∀ is : List Nat, Vals (Dn.pick .non vs is) (Dn.pick .none us is)
  | [] => .nil
  | i :: is => .cons (Vals.getD r i) (vals_pick r is)
theorem pick_len {α : Type} (d : α) (xs : List α) : ∀ is : List Nat, (Dn.pick d xs is).length = is.length
  | [] => rfl
  | _ :: is => congrArg (· + 1) (pick_len d xs is)
def mCallK (F : List D → Sto → Rs D) (is : List Nat) (ml mk : Env → Sto → Rs (List D)) : Env → Sto → Rs D := fun env st => (ml env st).bind fun ds st1 => (mk env st1).bind fun es st2 => F (pick .non (ds ++ es) is) st2
/-- the keywords' values -/
structure PKd (X : Cx) (Γ : Gm) (W : WX) (kws : List Keyword) (mk : Env → Sto → Rs (List D)) : Prop where
  pk : PK X kws (tL Γ W mk)
theorem imK {kws : List Keyword} {t t' : TA} (h : PK X kws t) (q : ∀ σ H Q, t' σ H Q → t σ H Q) : PK X kws t' := ⟨fun p pins s σ H Q I hw => h.run p pins s σ H Q I (q _ _ _ hw)⟩
theorem den_knil {Γ : Gm} : PK X [] (tL Γ W lNil) := imK pk_nil fun σ H Q ⟨π, env, st, E, S, h⟩ => h.now S rfl
theorem den_kcons {Γ : Gm} {nm : Option Str} {kpos : Pos} {kws : List Keyword} {ma : Env → Sto → Rs D} (ha : PE X e (tE Γ W ma)) (hr : PK X kws (tL Γ W mk)) : PK X (⟨nm, e, kpos⟩ :: kws) (tL Γ W (lCons ma mk)) := by
  refine imK (pk_cons ha hr) fun σ H Q ⟨π, env, st, E, S, h⟩ => ?_
  refine bindG E S h fun π1 H1 x d st1 e1 E1 S1 r1 h1 => ?_
  refine bindG E1 S1 h1 fun π2 H2 xs ds st2 e2 E2 S2 r2 h2 => ?_
  exact h2.now S2 ⟨x, xs, rfl, r1.ext e2.toKp, r2⟩
theorem run_kw {pins : List (Addr × Obj)} {σ : L2.St} {H : Hp} {s : Shared} {Q : VK} {us ws : List Value} {vs zs : List V} {ds es : List D} {π : Pl} {st : Sto} {ks : List Str} {is : List Nat} (G : FnOk X.prog X.w X.K X.mg X.base (L2.CX X.prog X.w) k f fd ps (spM (gx X ce fe tb) n F)) (hr : Room k X.A) (tk : Takes X W) (hb : KwB fd ps us.length ks is) (hw : ws.length = ks.length)
    (hn : is.length = n) (I : Inv X pins σ H s) (r1 : Vals vs us) (r2 : Vals zs ws) (S : StR (gx X ce fe tb) π H st) (rd : RepL (gx X ce fe tb) π H (vs ++ zs) (ds ++ es)) (h : Out (gx X ce fe tb) (Rep (gx X ce fe tb)) W σ π H (F (pick .non (ds ++ es) is) st) Q) :
    wpAny (model X.prog X.w) X.A (call (.ref f) us (ks.zip ws)) (EP X pins σ Q) X.xe s := by
  have hsp : spM (gx X ce fe tb) n F (pick .non (vs ++ zs) is) H Q (fun c d H' => W c d σ H') := call_of S (rd.pick is) (by rw [pick_len, hn]) h
  refine wpAny_call (codeAny_mono (G.run X.A X.stack s H ⟨us, ks.zip ws⟩ (pick .none (us ++ ws) is) (pick .non (vs ++ zs) is) Q (fun c d H' => W c d σ H') hr I.env0 (hb s us ws rfl hw) (vals_pick (r1.append r2) is) hsp) fun r s' hq => ?_)
  cases r with
  | error e => exact passAt tk σ pins H s e s' I hq
  | ok fl =>
    cases fl with
    | ret u => exact I.after hq
    | _ => exact False.elim hq
theorem den_callK0 {ks : List Str} {is : List Nat} {kws : List Keyword} (G : FnOk X.prog X.w X.K X.mg X.base (L2.CX X.prog X.w) k f fd ps (spM (gx X ce fe tb) n F)) (hr : Room k X.A) (hg : Gl X x) (hm : X.mg x = some (.ref f)) (hk : PySem.W.keepIn X.K (.ref f) = true) (hb : KwB fd ps 0 ks is) (tk : Takes X W) (hn : is.length = n)
    (hkw : PK X kws (tL (gx X ce fe tb) W mk)) (hlen : ∀ env st es st', mk env st = .ok es st' → es.length = ks.length)
    (hall : (backToKw pos (keywordEach kws X.env)).all (·.1.isSome) = true := by rfl) (hks : (backToKw pos (keywordEach kws X.env)).filterMap (·.1) = ks := by rfl)
    (hdb : (x == ("__debug__" : Str)) = false := by decide) (hpl : ((backTo pos (starEach [] X.env)).any (·.1) || (backToKw pos (keywordEach kws X.env)).any (·.1.isNone)) = false := by rfl) :
    PE X (.Call (.Name x p) [] kws pos) (tE (gx X ce fe tb) W (mCallK F is lNil mk)) := by
  refine ⟨fun pins s σ H Q I h => ?_⟩
  obtain ⟨π, env, st, E, S, h⟩ := h
  refine wpAny_Call_Name_kw (ld_glob I hg hm ?_ hdb)
  have h' : Out (gx X ce fe tb) (Rep (gx X ce fe tb)) W σ π H ((mk env st).bind fun es st2 => F (pick .non ([] ++ es) is) st2) Q := h
  have rd : tL (gx X ce fe tb) W mk σ H fun zs H1 => ∃ π1 es st1, zs.length = ks.length ∧ StR (gx X ce fe tb) π1 H1 st1 ∧ RepL (gx X ce fe tb) π1 H1 zs es ∧ Out (gx X ce fe tb) (Rep (gx X ce fe tb)) W σ π1 H1 (F (pick .non ([] ++ es) is) st1) Q := by
    refine ⟨π, env, st, E, S, ?_⟩
    cases q : mk env st with
    | ok es st1 =>
      rw [q] at h'
      exact fun π1 H1 zs e1 S1 r1 => ⟨π1, es, st1, by rw [r1.length, hlen env st es st1 q], S1, r1, Out.ext e1 h'⟩
    | ex x st1 => rw [q] at h'; exact h'
    | no => rw [q] at h'; exact h'
  refine PySem.W.callWith_KW0 (h₀ := X.base) I.ok.mod.kin hk hall (thn (hkw.run pos pins s σ H _ I rd) fun ws s1 ⟨zs, H1, I1, rz, π1, es, st1, hz, S1, r1, h1⟩ => ⟨I1.kIn, ?_⟩) hpl
  rw [hks]
  exact run_kw (vs := []) (ds := []) (us := []) G hr tk hb (by rw [← rz.length, hz]) hn I1 .nil rz S1 r1 h1
theorem den_callK {ks : List Str} {is : List Nat} {kws : List Keyword} {m : Nat} (G : FnOk X.prog X.w X.K X.mg X.base (L2.CX X.prog X.w) k f fd ps (spM (gx X ce fe tb) n F)) (hr : Room k X.A) (hg : Gl X x) (hm : X.mg x = some (.ref f)) (hk : PySem.W.keepIn X.K (.ref f) = true) (hb : KwB fd ps m ks is) (tk : Takes X W) (hn : is.length = n)
    (ha : PA X (e :: es) (tL (gx X ce fe tb) W ml)) (hkw : PK X kws (tL (gx X ce fe tb) W mk)) (hlm : ∀ env st es st', ml env st = .ok es st' → es.length = m) (hlen : ∀ env st es st', mk env st = .ok es st' → es.length = ks.length)
    (hall : (backToKw pos (keywordEach kws X.env)).all (·.1.isSome) = true := by rfl) (hks : (backToKw pos (keywordEach kws X.env)).filterMap (·.1) = ks := by rfl)
    (hdb : (x == ("__debug__" : Str)) = false := by decide) (he : starEach (e :: es) X.env = (false, eval e X.env) :: starEach es X.env := by rfl)
    (hpl : ((backTo pos (starEach (e :: es) X.env)).any (·.1) || (backToKw pos (keywordEach kws X.env)).any (·.1.isNone)) = false := by rfl) :
    PE X (.Call (.Name x p) (e :: es) kws pos) (tE (gx X ce fe tb) W (mCallK F is ml mk)) := by
  refine ⟨fun pins s σ H Q I h => ?_⟩
  obtain ⟨π, env, st, E, S, h⟩ := h
  refine wpAny_Call_Name_kw (ld_glob I hg hm ?_ hdb)
  have rd : tL (gx X ce fe tb) W ml σ H fun vs H1 => tL (gx X ce fe tb) W mk σ H1 fun zs H2 => ∃ π2 ds es st2, vs.length = m ∧ zs.length = ks.length ∧ StR (gx X ce fe tb) π2 H2 st2 ∧ RepL (gx X ce fe tb) π2 H2 (vs ++ zs) (ds ++ es) ∧
      Out (gx X ce fe tb) (Rep (gx X ce fe tb)) W σ π2 H2 (F (pick .non (ds ++ es) is) st2) Q := by
    have h0 : Out (gx X ce fe tb) (Rep (gx X ce fe tb)) W σ π H ((ml env st).bind fun ds st1 => (mk env st1).bind fun es st2 => F (pick .non (ds ++ es) is) st2) Q := h
    refine ⟨π, env, st, E, S, ?_⟩
    cases q : ml env st with
    | ex x st1 => rw [q] at h0; exact h0
    | no => rw [q] at h0; exact h0
    | ok ds st1 =>
      rw [q] at h0
      intro π1 H1 vs e1 S1 r1
      have h1 : Out (gx X ce fe tb) (Rep (gx X ce fe tb)) W σ π1 H1 ((mk env st1).bind fun es st2 => F (pick .non (ds ++ es) is) st2) Q := Out.ext e1 h0
      refine ⟨π1, env, st1, E.ext e1.toKp, S1, ?_⟩
      cases q2 : mk env st1 with
      | ex x st2 => rw [q2] at h1; exact h1
      | no => rw [q2] at h1; exact h1
      | ok es st2 =>
        rw [q2] at h1
        intro π2 H2 zs e2 S2 r2
        exact ⟨π2, ds, es, st2, by rw [r1.length, hlm env st ds st1 q], by rw [r2.length, hlen env st1 es st2 q2], S2, (r1.ext e2.toKp).append r2, Out.ext e2 h1⟩
  refine PySem.W.callWith_KW (h₀ := X.base) I.ok.mod.kin hk hall (thn (ha.run pos pins s σ H _ I rd) fun us s1 ⟨vs, H1, I1, r, q⟩ => ?_) hpl he
  refine thn (hkw.run pos pins s1 σ H1 _ I1 q) fun ws s2 ⟨zs, H2, I2, rz, π2, ds, es, st2, hv, hz, S2, r2, h2⟩ => ⟨I2.kIn, ?_⟩
  rw [hks]
  exact run_kw (us := us) (ds := ds) (es := es) G hr tk (by rw [show us.length = m from (r.length).symm.trans hv]; exact hb) (by rw [← rz.length, hz]) hn I2 r rz S2 r2 h2
end
/-- as Fun.binds, for keywords -/
theorem kwb_of {K : PySem.W.Frag} {x qual : Str} {st : Stmt} {f : Addr} {fd : FuncData} {ps ks : List Str} {n : Nat} {is : List Nat} (F : Fun K x qual st f fd)
    (h : ∀ (kV doc pm : Value) (an : Option Addr) (cdv ct : Value) (us ws : List Value), us.length = n → ws.length = ks.length → bindArgs (PySem.W.fnOf x qual (defArgs st) (defBody st) (defScope st) .none kV doc pm an cdv ct) ⟨us, ks.zip ws⟩ = pure (ps.zip (pick .none (us ++ ws) is))) : KwB fd ps n ks is := by
  obtain ⟨oc, od, kV, doc, pm, an, cdv, ct, osl, rfl, lk, hcd⟩ := F.ex
  exact fun s us ws h1 h2 => BindsTo.of_eq (h kV doc pm an cdv ct us ws h1 h2)
/-- how many values -/
theorem len_nil : ∀ (env : Env) (st : Sto) (ds : List D) (st' : Sto), lNil env st = .ok ds st' → ds.length = 0 := fun _ _ _ _ h => by cases h; rfl
theorem len_cons {ma : Env → Sto → Rs D} {ml : Env → Sto → Rs (List D)} {n : Nat} (hl : ∀ (env : Env) (st : Sto) (ds : List D) (st' : Sto), ml env st = .ok ds st' → ds.length = n) :
    ∀ (env : Env) (st : Sto) (ds : List D) (st' : Sto), lCons ma ml env st = .ok ds st' → ds.length = n + 1 := fun env st ds st' h => by
  unfold lCons at h
  cases q : ma env st with
  | ok d st1 =>
    rw [q] at h
    have h1 : ((ml env st1).bind fun ds st2 => Rs.ok (d :: ds) st2) = Rs.ok ds st' := h
    cases q2 : ml env st1 with
    | ok es st2 =>
      rw [q2] at h1
      cases h1
      rw [List.length_cons, hl env st1 es _ q2]
    | ex x st2 => rw [q2] at h1; cases h1
    | no => rw [q2] at h1; cases h1
  | ex x st1 => rw [q] at h; cases h
  | no => rw [q] at h; cases h

/-! ### the end: the law's own def -/
theorem law_sp {ce : Nat → Option Addr} {fe : Nat → Str} {tb : List Addr} {K : PySem.W.Frag} {F : List D → Sto → Rs D} {ns : List Int} (h : ∃ st, F [.rol (ns.map D.int)] [] = .ok (.bl true) st) {H : Hp} {a : Addr} (hT : ∀ P ∈ tb, H P = some (.tbl #[])) (hS : SqL K H a (ns.map V.int)) :
    spM ⟨K, ce, fe, tb⟩ 1 F [.ref a] H (fun v _ => v = .bl true) (fun _ _ _ => False) := by
  obtain ⟨st, e⟩ := h
  have fin : ∀ π : Pl, (∀ p, π.δ p = false) → π.ρ = [] → (∀ p, π.F p → ∃ xs, H p = some (.lst xs)) → Rol ⟨K, ce, fe, tb⟩ π H a (ns.map V.int) → spM ⟨K, ce, fe, tb⟩ 1 F [.ref a] H (fun v _ => v = .bl true) (fun _ _ _ => False) := fun π hδ hρ hF r => by
    refine ⟨rfl, π, [.rol (ns.map D.int)], [], ⟨by rw [hρ]; exact .nil, by rw [hρ]; rfl, fun n p c h => by rw [hρ] at h; simp at h, fun p z => ⟨(by rw [hρ]; intro w; cases w), hF p z⟩, fun P hP => ⟨#[], hT P hP, True.intro⟩, fun p z => by rw [hδ p] at z; cases z⟩, ⟨.ref a, [], rfl, ⟨a, ns.map V.int, rfl, r, RepL.ints ns⟩, rfl⟩, ?_⟩
    rw [e]
    exact fun π' H' b _ _ r => r
  rcases hS with (q | q) | q
  · exact fin ⟨[], fun p => p = a, fun _ => false⟩ (fun _ => rfl) rfl (fun p z => ⟨ns.map V.int, by have z' : p = a := z; rw [z']; exact q⟩) (.inl (.inr ⟨q, rfl⟩))
  · exact fin ⟨[], fun _ => False, fun _ => false⟩ (fun _ => rfl) rfl (fun _ z => z.elim) (.inl (.inl q))
  · exact fin ⟨[], fun _ => False, fun _ => false⟩ (fun _ => rfl) rfl (fun _ z => z.elim) (.inr q)
end Dn
end

section
set_option Elab.async false
set_option linter.all false
set_option maxRecDepth 100000
namespace Dn
open PySem PySem.Spec PyProof.Rows L2

/-! ### order of ints and of texts -/
def fOrder (gi : Int → Int → Bool) (gs : List Nat → List Nat → Bool) (a b : D) (st : Sto) : Rs D := match a, b with
  | .int i, .int j => .ok (.bl (gi i j)) st
  | .str s, .str t => .ok (.bl (gs s t)) st
  | _, _ => .no
def rOrder (gi : Int → Int → Bool) (gs : List Nat → List Nat → Bool) : R2 := fun x y H Q => rI0 (fun i j => .bl (gi i j)) x y H Q ∨ ∃ i j, x = .str i ∧ y = .str j ∧ Q (.bl (gs i.cps.toList j.cps.toList)) H
theorem o_order {Γ : Gm} (gi : Int → Int → Bool) (gs : List Nat → List Nat → Bool) : Op2 Γ (rOrder gi gs) (fOrder gi gs) := fun W σ π H x y a b st Q S rx ry h => by
  unfold fOrder at h
  split at h
  · exact .inl ⟨_, _, rx, ry, h.now S rfl⟩
  · exact .inr ⟨_, _, rx, ry, h.now S rfl⟩
  · exact h.elim
abbrev fLt := fOrder (fun i j => decide (i < j)) fun s t => decide (s < t)
abbrev fLe := fOrder (fun i j => decide (i ≤ j)) fun s t => !decide (t < s)
abbrev fGt := fOrder (fun i j => decide (j < i)) fun s t => decide (t < s)
abbrev fGe := fOrder (fun i j => decide (j ≤ i)) fun s t => !decide (s < t)
section
variable {X : Cx}
theorem op_ltA : OpR X (compareOp .Lt) (rOrder (fun i j => decide (i < j)) fun s t => decide (s < t)) := op_lt.or op_lt_str
theorem op_leA : OpR X (compareOp .LtE) (rOrder (fun i j => decide (i ≤ j)) fun s t => !decide (t < s)) := op_le.or op_le_str
theorem op_gtA : OpR X (compareOp .Gt) (rOrder (fun i j => decide (j < i)) fun s t => decide (t < s)) := op_gt.or op_gt_str
theorem op_geA : OpR X (compareOp .GtE) (rOrder (fun i j => decide (j ≤ i)) fun s t => !decide (s < t)) := op_ge.or op_ge_str
end
/-! ### // and % -/
def fDivA (a b : D) (st : Sto) : Rs D := match a, b with
  | .int i, .int j => if 0 < j ∧ j.natAbs.log2 < 9000 then .ok (.int (i / j)) st else if j ≠ 0 ∧ j.natAbs < 1073741824 then .ok (.int (i.fdiv j)) st else .no
  | _, _ => .no
def rDivA : R2 := fun x y H Q => rI CDivN (fun i j => .int (i.fdiv j)) x y H Q ∨ rI CDivW (fun i j => .int (i / j)) x y H Q
theorem op_divA {X : Cx} : OpR X (binaryOp .FloorDiv) rDivA := op_fdivN.or op_fdivW
theorem o_divA {Γ : Gm} : Op2 Γ rDivA fDivA := fun W σ π H x y a b st Q S rx ry h => by
  unfold fDivA at h
  split at h
  · rename_i i j
    split at h
    · rename_i hc
      exact .inr ⟨i, j, rx, ry, hc, h.now S rfl⟩
    · split at h
      · rename_i hc
        exact .inl ⟨i, j, rx, ry, hc, h.now S rfl⟩
      · exact h.elim
  · exact h.elim
def fModA (a b : D) (st : Sto) : Rs D := match a, b with
  | .int i, .int j => if 0 < j then .ok (.int (i % j)) st else if j ≠ 0 then .ok (.int (i.fmod j)) st else .no
  | _, _ => .no
def rModA : R2 := fun x y H Q => rI (fun _ j => 0 < j) (fun i j => .int (i % j)) x y H Q ∨ rI (fun _ j => j ≠ 0) (fun i j => .int (i.fmod j)) x y H Q
theorem op_modA {X : Cx} : OpR X (binaryOp .Mod) rModA := op_mod.or op_modN
theorem o_modA {Γ : Gm} : Op2 Γ rModA fModA := fun W σ π H x y a b st Q S rx ry h => by
  unfold fModA at h
  split at h
  · rename_i i j
    split at h
    · rename_i hc
      exact .inl ⟨i, j, rx, ry, hc, h.now S rfl⟩
    · split at h
      · rename_i hc
        exact .inr ⟨i, j, rx, ry, hc, h.now S rfl⟩
      · exact h.elim
  · exact h.elim

/-! ### any list, tuple, text walked -/
theorem pi_or {X : Cx} {tg e : Expr} {t u : TI} (h : PI X tg e t) (k : PI X tg e u) : PI X tg e (fun σ H R => t σ H R ∨ u σ H R) := ⟨fun pins s σ H R I hw => hw.elim (h.run pins s σ H R I) (k.run pins s σ H R I)⟩
def itA (d : D) : Option Itb := match d with
  | .tup ds => some (.one (.fix ds))
  | .str l => some (.sgn l)
  | d => itL d
theorem di_any {X : Cx} {W : WX} {e tg : Expr} {m : Env → Sto → Rs D} {ce : Nat → Option Addr} {fe : Nat → Str} {tb : List Addr} (h : PE X e (tE (gx X ce fe tb) W m)) : PI X tg e (tI (gx X ce fe tb) W (mIn itA m)) := by
  refine imI (pi_or (pi_or (di_tup h) (di_str h)) (di_list h)) fun σ H R ⟨π, env, st, E, S, q⟩ => ?_
  unfold mIn at q
  cases e : m env st with
  | ok d st1 =>
    rw [e] at q
    cases d with
    | tup ds => exact .inl (.inl ⟨π, env, st, E, S, by unfold mIn; rw [e]; exact q⟩)
    | str l => exact .inl (.inr ⟨π, env, st, E, S, by unfold mIn; rw [e]; exact q⟩)
    | _ => exact .inr ⟨π, env, st, E, S, by unfold mIn; rw [e]; exact q⟩
  | ex x st1 =>
    rw [e] at q
    exact .inr ⟨π, env, st, E, S, by unfold mIn; rw [e]; exact q⟩
  | no =>
    rw [e] at q
    exact .inr ⟨π, env, st, E, S, by unfold mIn; rw [e]; exact q⟩

/-! ### comprehensions with two for -/
def loopC2 (b : Itb) (tg : D → Env → Option Env) (tt : Env → Sto → Rs Bool) (mi1 : Env → Sto → Rs Itb) (tg1 : D → Env → Option Env) (tt1 : Env → Sto → Rs Bool) (te : Env → Sto → Rs D) (env : Env) (vs1 : List Nat) : Nat → Nat → Sto → Rs (List D)
  | 0, _, _ => .no
  | n + 1, i, st => match b.at_ i st with
    | none => .ok [] st
    | some d => match tg d env with
      | none => .no
      | some env' => (tt env' st).bindN fun k st1 => match k with
        | false => loopC2 b tg tt mi1 tg1 tt1 te env vs1 n (i + 1) st1
        | true => (mi1 env' st1).bindN fun b1 st2 => if b1.fuel st2 ≤ 4000 then
            (loopC b1 tg1 tt1 te (wipeE env' vs1) (b1.fuel st2) 0 st2).bindN fun ys st3 => (loopC2 b tg tt mi1 tg1 tt1 te env vs1 n (i + 1) st3).bindN fun zs st4 => .ok (ys ++ zs) st4
          else .no
def mLc2 (mu : Bool) (vs vs1 : List Nat) (mi : Env → Sto → Rs Itb) (tg : D → Env → Option Env) (tt : Env → Sto → Rs Bool) (mi1 : Env → Sto → Rs Itb) (tg1 : D → Env → Option Env) (tt1 : Env → Sto → Rs Bool) (te : Env → Sto → Rs D) : Env → Sto → Rs D := fun env st => (mi env st).bind fun b st1 =>
  if b.fuel st1 ≤ 4000 then (loopC2 b tg tt mi1 tg1 tt1 te (wipeE env vs) vs1 (b.fuel st1) 0 st1).bindN fun ys st2 => mkL mu ys st2 else .no
section
variable {Γ : Gm} {W : WX} {σ : L2.St} {π1 : Pl} {H1 : Hp} {env : Env} {st : Sto}
theorem lc2_run {Q : VK} {J : It} {b : Itb} {g g1 : TG} {sl sl1 vs vs1 : List Nat} {mg mg1 : D → Env → Option Env} {tt tt1 : Env → Sto → Rs Bool} {mi1 : Env → Sto → Rs Itb} {te : Env → Sto → Rs D} {mu : Bool} {n0 : Nat} (hn0 : n0 ≤ 4000) (ir : ItR Γ π1 H1 J b) (hd : DG Γ g sl mg) (hv : ∀ i ∈ sl, i ∈ vs) (hd1 : DG Γ g1 sl1 mg1) (hv1 : ∀ i ∈ sl1, i ∈ vs1)
    (E1 : EnvR Γ π1 H1 σ env) (S1 : StR Γ π1 H1 st) (h : Out Γ (Rep Γ) W σ π1 H1 ((loopC2 b mg tt mi1 mg1 tt1 te (wipeE env vs) vs1 n0 0 st).bindN fun ys st2 => mkL mu ys st2) Q) {Da : Addr} (hD : H1 Da = none) :
    ∃ V : Nat → Nat → Hp → Prop, (∃ m, V 0 m (upd H1 Da (.lst []))) ∧ ∀ i m H, V i m H →
      (J.stop i H ∧ Q (.ref Da) H) ∨ (J.go i H ∧ ∃ Nx : Hp → Prop, (∀ H', Nx H' → ∃ m', m' < m ∧ V (i + 1) m' H') ∧ ∀ x H', J.yld i H x H' → g x (wipe σ vs) H' fun σ2 H2 => wipe σ2 vs = wipe σ vs ∧ tT Γ W0 tt σ2 H2 fun b H3 =>
        if b = true then tI Γ W0 mi1 σ2 H3 fun J1 H4 => ∃ V1 : Nat → Nat → Hp → Prop, (∃ m, V1 0 m H4) ∧ ∀ j k H, V1 j k H →
          (J1.stop j H ∧ Nx H) ∨ (J1.go j H ∧ ∃ Nx1 : Hp → Prop, (∀ H', Nx1 H' → ∃ k', k' < k ∧ V1 (j + 1) k' H') ∧ ∀ x H', J1.yld j H x H' → g1 x (wipe σ2 vs1) H' fun σ3 H5 => wipe σ3 vs1 = wipe σ2 vs1 ∧ tT Γ W0 tt1 σ3 H5 fun b H6 =>
            if b = true then tE Γ W0 te σ3 H6 fun y H7 => ∃ acc, H7 Da = some (.lst acc) ∧ acc.length < sizeLine ∧ Nx1 (upd H7 Da (.lst (acc ++ [y]))) else Nx1 H6)
        else Nx H3) := by
  refine ⟨fun i m H => ∃ π st acc xs, i + m = n0 ∧ acc.length ≤ i * 4000 ∧ Ext π1 H1 π H ∧ H Da = some (.lst xs) ∧ Da ∉ π.ρ ∧ ¬ π.F Da ∧ EnvR Γ π H (wipe σ vs) (wipeE env vs) ∧ StR Γ π H st ∧ RepL Γ π H xs acc ∧
      Out Γ (Rep Γ) W σ π1 H1 ((loopC2 b mg tt mi1 mg1 tt1 te (wipeE env vs) vs1 m i st).bindN fun ys st2 => mkL mu (acc ++ ys) st2) Q,
    ⟨n0, π1, st, [], [], Nat.zero_add _, Nat.zero_le _, Ext.refl.tmp hD, upd_same, S1.fresh hD, S1.freshF hD, (E1.wipe vs).ext (ext_new hD).toKp, S1.new hD, rfl, h⟩, ?_⟩
  rintro i m H ⟨π, st, acc, xs, him, hacc, ex, eD, nr, nf, E, S, ra, h⟩
  cases m with
  | zero => exact h.elim
  | succ n =>
    unfold loopC2 at h
    split at h
    · rename_i eb
      refine .inl ⟨ir.stop π H st i ex.toKp S eb, ?_⟩
      have h' : Out Γ (Rep Γ) W σ π1 H1 (mkL mu (acc ++ []) st) Q := h
      rw [List.append_nil] at h'
      exact h'.made ex hD S eD nr nf ra
    · rename_i d eb
      split at h
      · exact h.elim
      · rename_i env' eg
        refine .inr ⟨ir.go π H st i d ex.toKp S eb, fun H' => ∃ π st acc xs, i + 1 + n = n0 ∧ acc.length ≤ (i + 1) * 4000 ∧ Ext π1 H1 π H' ∧ H' Da = some (.lst xs) ∧ Da ∉ π.ρ ∧ ¬ π.F Da ∧ EnvR Γ π H' (wipe σ vs) (wipeE env vs) ∧ StR Γ π H' st ∧ RepL Γ π H' xs acc ∧
            Out Γ (Rep Γ) W σ π1 H1 ((loopC2 b mg tt mi1 mg1 tt1 te (wipeE env vs) vs1 n (i + 1) st).bindN fun ys st2 => mkL mu (acc ++ ys) st2) Q, fun H' q => ⟨n, Nat.lt_succ_self n, q⟩, fun x H' y => ?_⟩
        obtain ⟨rx, ex2, S2⟩ := ir.yld π H st i d x H' ex.toKp S eb y
        obtain ⟨eD2, nr2, nf2⟩ := tmpR ex2 eD rfl nr nf
        have Ew := E.ext ex2.toKp
        have ra2 := ra.ext ex2.toKp
        refine hd π H' x d (wipe σ vs) (wipeE env vs) env' _ Ew rx eg fun σ' E' hw => ⟨?_, ?_⟩
        · rw [hw vs hv, wipe_twice fun _ h => h]
        · rw [bindN_assoc] at h
          refine bindN (R := RB) E' (S2 st S) h fun π3 H3 k k' st3 e3 E3 S3 r3 h3 => ?_
          obtain ⟨eD3, nr3, nf3⟩ := tmpR e3 eD2 rfl nr2 nf2
          rw [show k = k' from r3]
          cases k' with
          | false =>
            exact iteF ⟨π3, st3, acc, xs, by omega, by omega, (ex.trans ex2).trans e3, eD3, nr3, nf3, Ew.ext e3.toKp, S3, ra2.ext e3.toKp, h3⟩
          | true =>
            refine iteT ⟨π3, env', st3, E3, S3, ?_⟩
            have h3' : Out Γ (Rep Γ) W σ π1 H1 (((mi1 env' st3).bindN fun b1 st2 => if b1.fuel st2 ≤ 4000 then
                (loopC b1 mg1 tt1 te (wipeE env' vs1) (b1.fuel st2) 0 st2).bindN fun ys st3 => (loopC2 b mg tt mi1 mg1 tt1 te (wipeE env vs) vs1 n (i + 1) st3).bindN fun zs st4 => .ok (ys ++ zs) st4
              else .no).bindN fun ys st2 => mkL mu (acc ++ ys) st2) Q := h3
            rw [bindN_assoc] at h3'
            cases em : mi1 env' st3 with
            | ex x s => rw [em] at h3'; exact h3'.elim
            | no => rw [em] at h3'; exact h3'
            | ok b1 st4 =>
              rw [em] at h3'
              have h4 : Out Γ (Rep Γ) W σ π1 H1 ((if b1.fuel st4 ≤ 4000 then
                (loopC b1 mg1 tt1 te (wipeE env' vs1) (b1.fuel st4) 0 st4).bindN fun ys st3 => (loopC2 b mg tt mi1 mg1 tt1 te (wipeE env vs) vs1 n (i + 1) st3).bindN fun zs st4 => .ok (ys ++ zs) st4
                else .no : Rs (List D)).bindN fun ys st2 => mkL mu (acc ++ ys) st2) Q := h3'
              split at h4
              · rename_i hf
                rw [bindN_assoc] at h4
                intro π4 H4 J1 e4 S4 ir1
                obtain ⟨eD4, nr4, nf4⟩ := tmpR e4 eD3 rfl nr3 nf3
                have Ew4 := (Ew.ext e3.toKp).ext e4.toKp
                have ra4 := (ra2.ext e3.toKp).ext e4.toKp
                have E4 := E3.ext e4.toKp
                have ex4 := ((ex.trans ex2).trans e3).trans e4
                refine ⟨fun j k H => ∃ π st acc' xs, j + k = b1.fuel st4 ∧ acc'.length ≤ i * 4000 + j ∧ Kp π4 H4 π H ∧ Ext π1 H1 π H ∧ H Da = some (.lst xs) ∧ Da ∉ π.ρ ∧ ¬ π.F Da ∧ EnvR Γ π H (wipe σ vs) (wipeE env vs) ∧ EnvR Γ π H (wipe σ' vs1) (wipeE env' vs1) ∧ StR Γ π H st ∧ RepL Γ π H xs acc' ∧
                    Out Γ (Rep Γ) W σ π1 H1 ((loopC b1 mg1 tt1 te (wipeE env' vs1) k j st).bindN fun ys st3 => (loopC2 b mg tt mi1 mg1 tt1 te (wipeE env vs) vs1 n (i + 1) st3).bindN fun zs st4 => mkL mu (acc' ++ (ys ++ zs)) st4) Q,
                  ⟨b1.fuel st4, π4, st4, acc, xs, Nat.zero_add _, by omega, Ext.refl.toKp, ex4, eD4, nr4, nf4, Ew4, E4.wipe vs1, S4, ra4, ?_⟩, ?_⟩
                · refine cast (congrArg (fun r => Out Γ (Rep Γ) W σ π1 H1 r Q) (congrArg (Rs.bindN _) ?_)) h4
                  funext ys s
                  rw [bindN_assoc]
                  rfl
                · rintro j k H5 ⟨π5, st5, acc5, xs5, hjk, hacc5, kp5, ex5, eD5, nr5, nf5, Ew5, E5, S5, ra5, h5⟩
                  cases k with
                  | zero => exact h5.elim
                  | succ k =>
                    unfold loopC at h5
                    split at h5
                    · rename_i eb1
                      refine .inl ⟨ir1.stop π5 H5 st5 j kp5 S5 eb1, π5, st5, acc5, xs5, by omega, by omega, ex5, eD5, nr5, nf5, Ew5, S5, ra5, ?_⟩
                      exact h5
                    · rename_i d1 eb1
                      split at h5
                      · exact h5.elim
                      · rename_i env1 eg1
                        refine .inr ⟨ir1.go π5 H5 st5 j d1 kp5 S5 eb1, fun H => ∃ π st acc' xs, j + 1 + k = b1.fuel st4 ∧ acc'.length ≤ i * 4000 + (j + 1) ∧ Kp π4 H4 π H ∧ Ext π1 H1 π H ∧ H Da = some (.lst xs) ∧ Da ∉ π.ρ ∧ ¬ π.F Da ∧ EnvR Γ π H (wipe σ vs) (wipeE env vs) ∧ EnvR Γ π H (wipe σ' vs1) (wipeE env' vs1) ∧ StR Γ π H st ∧ RepL Γ π H xs acc' ∧
                            Out Γ (Rep Γ) W σ π1 H1 ((loopC b1 mg1 tt1 te (wipeE env' vs1) k (j + 1) st).bindN fun ys st3 => (loopC2 b mg tt mi1 mg1 tt1 te (wipeE env vs) vs1 n (i + 1) st3).bindN fun zs st4 => mkL mu (acc' ++ (ys ++ zs)) st4) Q, fun H' q => ⟨k, Nat.lt_succ_self k, q⟩, fun x1 H6 y1 => ?_⟩
                        obtain ⟨rx6, ex6, S6⟩ := ir1.yld π5 H5 st5 j d1 x1 H6 kp5 S5 eb1 y1
                        obtain ⟨eD6, nr6, nf6⟩ := tmpR ex6 eD5 rfl nr5 nf5
                        refine hd1 π5 H6 x1 d1 (wipe σ' vs1) (wipeE env' vs1) env1 _ (E5.ext ex6.toKp) rx6 eg1 fun σ6 E6 hw6 => ⟨?_, ?_⟩
                        · rw [hw6 vs1 hv1, wipe_twice fun _ h => h]
                        · rw [bindN_assoc] at h5
                          refine bindN (R := RB) E6 (S6 st5 S5) h5 fun π7 H7 b7 b7' st7 e7 E7 S7 r7 h7 => ?_
                          obtain ⟨eD7, nr7, nf7⟩ := tmpR e7 eD6 rfl nr6 nf6
                          have kq : ∀ {π' : Pl} {H' : Hp}, Kp π7 H7 π' H' → Kp π4 H4 π' H' := fun q => ⟨fun p o a b => q.fix p o (e7.fix p o (ex6.fix p o (kp5.fix p o a b) b) b) b, fun p o a b => q.frz p o (e7.fr p (ex6.fr p (kp5.fr p a))) (e7.frz p o (ex6.fr p (kp5.fr p a)) (ex6.frz p o (kp5.fr p a) (kp5.frz p o a b))),
                            fun m p a => q.pre m p (e7.pre m p (ex6.pre m p (kp5.pre m p a))), fun p a => q.fr p (e7.fr p (ex6.fr p (kp5.fr p a))), fun n p h => (q.kd n p (e7.pre n p (ex6.pre n p (kp5.pre n p h)))).trans ((e7.kd n p (ex6.pre n p (kp5.pre n p h))).trans ((ex6.kd n p (kp5.pre n p h)).trans (kp5.kd n p h)))⟩
                          rw [show b7 = b7' from r7]
                          cases b7' with
                          | false =>
                            exact iteF ⟨π7, st7, acc5, xs5, by omega, by omega, kq Ext.refl.toKp, (ex5.trans ex6).trans e7, eD7, nr7, nf7, (Ew5.ext ex6.toKp).ext e7.toKp, (E5.ext ex6.toKp).ext e7.toKp, S7, (ra5.ext ex6.toKp).ext e7.toKp, h7⟩
                          | true =>
                            refine iteT ?_
                            have h7' : Out Γ (Rep Γ) W σ π1 H1 (((te env1 st7).bindN fun y st2 => (loopC b1 mg1 tt1 te (wipeE env' vs1) k (j + 1) st2).bindN fun ys st3 => .ok (y :: ys) st3).bindN fun ys st3 => (loopC2 b mg tt mi1 mg1 tt1 te (wipeE env vs) vs1 n (i + 1) st3).bindN fun zs st4 => mkL mu (acc5 ++ (ys ++ zs)) st4) Q := h7
                            rw [bindN_assoc] at h7'
                            refine bindN (R := Rep Γ) E7 S7 h7' fun π8 H8 y dy st8 e8 E8 S8 r8 h8 => ?_
                            obtain ⟨eD8, nr8, nf8⟩ := tmpR e8 eD7 rfl nr7 nf7
                            rw [bindN_assoc] at h8
                            have ra8 := ((ra5.ext ex6.toKp).ext e7.toKp).ext e8.toKp
                            have kp := kp_tmp (ys := xs5 ++ [y]) S8 eD8 nr8 nf8
                            have kp8 : Kp π7 H7 π8 (upd H8 Da (.lst (xs5 ++ [y]))) := ⟨fun p o a b => kp.fix p o (e8.fix p o a b) b, fun p o a b => kp.frz p o (e8.fr p a) (e8.frz p o a b), e8.pre, e8.fr, e8.kd⟩
                            refine ⟨xs5, eD8, by rw [ra5.length, sizeLine_eq]; omega, π8, st8, acc5 ++ [dy], xs5 ++ [y], by omega, by rw [List.length_append]; show acc5.length + 1 ≤ _; omega, kq kp8, (((ex5.trans ex6).trans e7).trans e8).tmp hD, upd_same, nr8, nf8,
                              ((((Ew5.ext ex6.toKp).ext e7.toKp).ext e8.toKp).ext kp), ((((E5.ext ex6.toKp).ext e7.toKp).ext e8.toKp).ext kp), S8.tmp eD8 nr8 nf8, (ra8.append (RepL.one r8)).ext kp, ?_⟩
                            refine cast (congrArg (fun r => Out Γ (Rep Γ) W σ π1 H1 r Q) (congrArg (Rs.bindN _) ?_)) h8
                            funext ys s
                            show ((loopC2 b mg tt mi1 mg1 tt1 te (wipeE env vs) vs1 n (i + 1) s).bindN fun zs st4 => mkL mu (acc5 ++ (dy :: ys ++ zs)) st4) = _
                            congr 1
                            funext zs s4
                            rw [List.append_assoc]
                            rfl
              · exact h4.elim
end
section
variable {X : Cx} {Γ : Gm} {W : WX} {elt tg iter tg1 iter1 : Expr} {ifs ifs1 : List Expr} {scope : Scope} {pos : Pos} {mi mi1 : Env → Sto → Rs Itb} {g g1 : TG} {sl sl1 vs1 : List Nat} {mg mg1 : D → Env → Option Env} {tt tt1 : Env → Sto → Rs Bool} {te : Env → Sto → Rs D}
theorem tLc2_of {vs : List Nat} {mu : Bool} {σ : L2.St} {H : Hp} {Q : VK} (hd : DG Γ g sl mg) (hv : ∀ i ∈ sl, i ∈ vs) (hd1 : DG Γ g1 sl1 mg1) (hv1 : ∀ i ∈ sl1, i ∈ vs1) (h : tE Γ W (mLc2 mu vs vs1 mi mg tt mi1 mg1 tt1 te) σ H Q) : tLc2 (tI Γ W mi) g (tT Γ W0 tt) (tI Γ W0 mi1) g1 (tT Γ W0 tt1) (tE Γ W0 te) vs vs1 σ H Q := by
  obtain ⟨π, env, st, E, S, h⟩ := h
  refine ⟨π, env, st, E, S, ?_⟩
  unfold mLc2 at h
  cases e : mi env st with
  | ex x st1 => rw [e] at h; exact h
  | no => rw [e] at h; exact h
  | ok b st1 =>
    rw [e] at h
    intro π1 H1 J e1 S1 ir Da hD
    have h1 : Out Γ (Rep Γ) W σ π1 H1 (if b.fuel st1 ≤ 4000 then (loopC2 b mg tt mi1 mg1 tt1 te (wipeE env vs) vs1 (b.fuel st1) 0 st1).bindN fun ys st2 => mkL mu ys st2 else .no) Q := Out.ext e1 h
    split at h1
    · rename_i hz
      exact lc2_run hz ir hd hv hd1 hv1 (E.ext e1.toKp) S1 h1 hD
    · exact h1.elim
theorem den_lc2 (mu : Bool) {own : List (Str × Nat)} (hc : X.calm = true) (hN : X.N.Nodup) (hi : PI X tg iter (tI Γ W mi)) (ok : BlkOk X.N X.env.scope scope own) (hvv : ∀ i ∈ vs1, i ∈ own.map (·.2)) (hd : DG Γ g sl mg) (hv : ∀ i ∈ sl, i ∈ own.map (·.2)) (hd1 : DG Γ g1 sl1 mg1) (hv1 : ∀ i ∈ sl1, i ∈ vs1)
    (hg : ∀ (s : Shared) (H : Hp) (C : Addr) (cl : List (Str × Addr)) (fp : List Addr), PG (X.blk s H scope (compEnvC scope cl C X.env) fp) tg g) (ht : ∀ (s : Shared) (H : Hp) (C : Addr) (cl : List (Str × Addr)) (fp : List Addr), PTs (X.blk s H scope (compEnvC scope cl C X.env) fp) ifs (tT Γ W0 tt))
    (hi1 : ∀ (s : Shared) (H : Hp) (C : Addr) (cl : List (Str × Addr)) (fp : List Addr), PI (X.blk s H scope (compEnvC scope cl C X.env) fp) tg1 iter1 (tI Γ W0 mi1))
    (hg1 : ∀ (s : Shared) (H : Hp) (C : Addr) (cl : List (Str × Addr)) (fp : List Addr), PG (X.blk s H scope (compEnvC scope cl C X.env) fp) tg1 g1) (ht1 : ∀ (s : Shared) (H : Hp) (C : Addr) (cl : List (Str × Addr)) (fp : List Addr), PTs (X.blk s H scope (compEnvC scope cl C X.env) fp) ifs1 (tT Γ W0 tt1))
    (he : ∀ (s : Shared) (H : Hp) (C : Addr) (cl : List (Str × Addr)) (fp : List Addr), PE (X.blk s H scope (compEnvC scope cl C X.env) fp) elt (tE Γ W0 te)) (hs : ∀ x, foldedSetIterable iter X.env x = pure x := by intro _; rfl) (hs1 : ∀ env x, foldedSetIterable iter1 env x = pure x := by intro _ _; rfl) :
    PE X (.ListComp elt [⟨tg, iter, ifs, 0⟩, ⟨tg1, iter1, ifs1, 0⟩] scope pos) (tE Γ W (mLc2 mu (own.map (·.2)) vs1 mi mg tt mi1 mg1 tt1 te)) :=
  imE (pe_lc2 hc hN hi ok hvv hg ht hi1 hg1 ht1 he hs hs1) fun _ _ _ h => tLc2_of hd hv hd1 hv1 h
end
end Dn
end

section
set_option Elab.async false
set_option linter.all false
set_option maxRecDepth 100000
/-! any, all of a generator expression, the element of any form -/
namespace Dn
open PySem PySem.Spec PyProof.Rows L2 GenW

/-- the generator's frame -/
abbrev gEnv (X : Cx) (scope : Scope) (C : Addr) (code : Value) : PySem.Env := genEnv scope (cloFrom X.env.cells scope.names []) C code builtinsNs X.env
/-- the context of a generator expression's parts -/
abbrev gbx (X : Cx) (A : Around) (s : Shared) (H : Hp) (cenv : PySem.Env) (fp : List Addr) (pn : List (Addr × Obj)) : Cx :=
  { X with A := A, s_0 := s, H_0 := H, env := cenv, outer := X.stack, stack := cenv :: X.stack, ex := fp, fn := fun _ => false, calm := true, pn := pn, xe := fun _ _ => False }
section
variable {X : Cx} {pins : List (Addr × Obj)} {σ : L2.St} {H : Hp} {s s' : Shared}
theorem inv_swap (I : Inv X pins σ H s) (hh : s'.heap = s.heap) (ho : s'.os = s.os) (hb : AllBare s'.gens) : Inv X pins σ H s' :=
  ⟨I.ok, by rw [ho]; exact I.os, hb, by rw [hh]; exact I.base, by rw [hh]; exact I.loc, by rw [hh]; exact I.cell, I.free, I.freeC, by rw [hh]; exact I.pin, by rw [hh]; exact I.hok, I.len⟩
theorem gen_start {A : Around} {scope : Scope} {own : List (Str × Nat)} {fp : List Addr} {code : Value} {h' : Heap} {m0 : Str → Option Value} {gs : GenState} {tk : Nat} {fo gobj : Obj} (I : Inv X pins σ H s) (ok : BlkOk X.N X.env.scope scope own) (nc : ∀ y ∈ scope.names, y.2 ≠ .cell) (hN : X.N.Nodup) (hd : A.handled = none)
    (hf : A.frames = some (gEnv X scope s.heap.objs.size code :: X.stack)) (hfp : ∀ b ∈ fp, FpOk X pins H b ∧ b < s.heap.objs.size) (hn : h'.Ns s.heap.objs.size m0) (hs : Heap.SameBut s.heap.objs.size (s.heap.push fo) h') (hgs : gs.bare = true) (hgo : gobj.isFreed = false) (hgd : ∀ v, gobj.data ≠ .cell v) :
    Inv (gbx X A s H (gEnv X scope s.heap.objs.size code) fp [(h'.objs.size, gobj)]) [] (wipe σ (own.map (·.2))) H { s with gens := s.gens.push gs, heap := h'.push gobj, toks := tk } := by
  have hfree : ∀ y ∈ scope.names, y.2 = .free → ∃ c, X.env.cells.lookup y.1 = some c := fun y hy e => by
    rcases ok.free y hy e with k | k
    · exact I.ok.has _ (.inl k)
    · exact I.ok.has _ (.inr k)
  have cm : ∀ {y c}, (cloFrom X.env.cells scope.names []).lookup y = some c → X.env.cells.lookup y = some c := fun {y c} e => by
    rcases cloFrom_mem (PySem.mem_of_lookup e) with hm | ⟨h1, h2⟩
    · cases hm
    · obtain ⟨c1, hc⟩ := hfree _ h1 rfl
      have hc : X.env.cells.lookup y = some c1 := hc
      have e2 : c = c1 := by
        rw [h2, hc] <;> rfl
      rw [e2]
      exact hc
  have look : ∀ {y}, scope.names.lookup y = some .free → ∃ c, (cloFrom X.env.cells scope.names []).lookup y = some c := fun {y} hl => by
    have hy : (y, NameKind.free) ∈ scope.names := PySem.mem_of_lookup hl
    exact mem_lookup (cloFrom_has (cells := X.env.cells) (acc := []) hy)
  have hsz : h'.objs.size = s.heap.objs.size + 1 := by rw [hs.1, Heap.size_push]
  have kp : ∀ b o, s.heap.get? b = some o → (h'.push gobj).get? b = some o := fun b o e => Heap.get?_push_of_some _ (hs.extBut b o (Nat.ne_of_lt (Heap.lt_size e)) (Heap.get?_push_of_some _ e))
  have nofr : ∀ f, s.heap.objs.size ≤ f → f ∉ frs X.stack := fun f hf z => by
    rcases List.mem_cons.mp (I.stkSub _ z) with e | e
    · have h1 := I.lt
      rw [← e] at h1
      exact Nat.lt_irrefl _ (Nat.lt_of_lt_of_le h1 hf)
    · exact I.nofs hf e
  refine ⟨⟨I.ok.mod, ok.kind, I.ok.glob, rfl, Nat.le_refl _, fun y z c e1 e2 => I.ok.inj y z c (cm e1) (cm e2), fun y hy => ?_, fun y c z _ => ?_, fun _ => hd, hf, .inr ⟨rfl, rfl⟩,
      fun b hb => ⟨Nat.ne_of_lt (hfp b hb).2, fun y c e => (hfp b hb).1.2.2.2.2.1 y c (cm e)⟩, I.bs, Nat.le_trans I.ok.bsz I.sz, fun b o e hb => ?_, fun b hb z => ?_, I.stack, I.stkFree⟩,
    rfl, I.bare.push hgs, Un.kept kp, ⟨m0, hn.push _, fun i y v e1 e2 e3 => ?_⟩, fun y c e => ?_, I.hok.fresh (Nat.le_refl _), fun y c e => ?_, fun p hp => ?_, I.hok.kept kp, by rw [wipe_length]; exact I.len⟩
  · have hy : scope.names.lookup y = some .cell ∨ scope.names.lookup y = some .free := hy
    rcases hy with hy | hy
    · exact absurd rfl (nc _ (PySem.mem_of_lookup hy))
    · exact look hy
  · have z : false = true := z
    cases z
  · rcases (hfp b hb).1.2.2.2.1 with z | z
    · exact I.ok.noex b o e z
    · exact absurd (Nat.lt_of_lt_of_le (Heap.lt_size e) (Nat.le_trans I.ok.bsz z)) (Nat.lt_irrefl _)
  · rcases List.mem_cons.mp (I.stkSub b z) with z | z
    · exact (hfp b hb).1.2.1 z
    · exact (hfp b hb).1.2.2.1 z
  · obtain ⟨e2, hne⟩ := wipe_some e2
    have e3 : Vis scope y := e3
    have no : ∀ k, scope.names.lookup y = some k → (k = .local ∨ k = .cell) → False := fun k hk hh => by
      rcases ok.own _ (PySem.mem_of_lookup hk) hh with e' | e'
      · obtain ⟨p, hp, hpy⟩ := List.mem_map.mp e'
        have e4 := ok.ix p hp
        have : p.1 = y := hpy
        rw [this] at e4
        exact hne (List.mem_map.mpr ⟨p, hp, nodup_ix hN e4 e1⟩)
      · exact e' (List.mem_of_getElem? e1)
    have k : scope.names.lookup y = some .free := by
      rcases e3 with k | k | k
      · exact (no _ k (.inl rfl)).elim
      · exact (no _ k (.inr rfl)).elim
      · exact k
    obtain ⟨m, hn2, hl⟩ := I.loc
    have hvis : Vis X.env.scope y := (ok.free _ (PySem.mem_of_lookup k) rfl).elim (fun k => .inr (.inl k)) (fun k => .inr (.inr k))
    obtain ⟨w', r, q⟩ := hl i y v e1 e2 hvis
    obtain ⟨c2, h2⟩ := look k
    refine ⟨w', r, .inr ⟨.inr k, c2, h2, ?_⟩⟩
    have c1 := cm h2
    rcases q with ⟨k', _⟩ | ⟨_, c3, e', z⟩
    · have k' : X.env.scope.names.lookup y = some .local := k'
      rcases ok.free _ (PySem.mem_of_lookup k) rfl with k2 | k2 <;> rw [show X.env.scope.names.lookup y = _ from k2] at k' <;> cases k'
    · rw [c1] at e'
      cases e'
      exact z.keeps kp
  · obtain ⟨w', z⟩ := I.cell y c (cm e)
    exact ⟨w', z.keeps kp⟩
  · exact I.freeC y c (cm e)
  · have hp : p ∈ [(h'.objs.size, gobj)] ++ [] := hp
    have e : p = (h'.objs.size, gobj) := by simpa using hp
    subst e
    refine ⟨Heap.get?_push_size _ hgo, I.hok.fresh (by show s.heap.objs.size ≤ h'.objs.size; omega), ?_, nofr _ (by show s.heap.objs.size ≤ h'.objs.size; omega), hgd⟩
    show h'.objs.size ≠ s.heap.objs.size
    omega
end

/-! ### the generator's turns -/
/-- handed out: True or False; sb: the one at which the consumer stops -/
def gP (Y : Cx) (σ0 : L2.St) (sb : Bool) (QF : Hp → Prop) : Protocol := fun n s₀ v s kap =>
  ∃ b H, v = .bool b ∧ Inv Y [] σ0 H s ∧ (b = sb → QF H) ∧ (b ≠ sb → ∀ s'', s''.heap = s.heap → s''.os = s.os → AllBare s''.gens → kap (.send .none) s'')
def gF (Y : Cx) (σ0 : L2.St) (QT : Hp → Prop) : Nat → Shared → Shared → Prop := fun n s₀ s₁ => ∃ H, Inv Y [] σ0 H s₁ ∧ QT H
def gR (Y : Cx) (σ0 : L2.St) (QT : Hp → Prop) : GenEnd := fun n s₀ r s₁ => ((r = .ok (.ret .none) ∨ r = .ok .next) ∧ gF Y σ0 QT n s₀ s₁) ∨ ∃ e, r = .error e ∧ False
/-- what is to be true of the turns -/
def gTurns (sb : Bool) (J : It) (g : TG) (tt : TT) (te : TE) (vs : List Nat) (σ : L2.St) (W : Nat → Nat → Hp → Prop) (QT QF : Hp → Prop) : Prop := ∀ i m H, W i m H →
  (J.stop i H ∧ QT H) ∨ (J.go i H ∧ 0 < m ∧ ∃ Nx : Hp → Prop, (∀ H', Nx H' → ∃ m', m' < m ∧ W (i + 1) m' H') ∧ ∀ x H', J.yld i H x H' → g x (wipe σ vs) H' fun σ2 H2 => wipe σ2 vs = wipe σ vs ∧ tt σ2 H2 fun b H3 =>
    if b = true then te σ2 H3 fun y H4 => ∃ k, y = .bl k ∧ (k = sb → QF H4) ∧ (k ≠ sb → Nx H4) else Nx H3)
theorem gen_loop {Y : Cx} {A : Around} {elt tg iter : Expr} {ifs : List Expr} {scope : Scope} {pos : Pos} {it : Addr} {fp : List Addr} {tn : Nat → Heap → Prop} {J : It} {g : TG} {tt : TT} {te : TE} {vs : List Nat} {σ : L2.St} {sb : Bool} {W : Nat → Nat → Hp → Prop} {QT QF : Hp → Prop}
    (hA : A.over (.compLoop (.GeneratorExp elt [⟨tg, iter, ifs, 0⟩] scope pos) 0 (.ref it) .none Y.env) [] = Y.A) (hc : Y.calm = true) (hxe : Y.xe = fun _ _ => False) (hco : Y.env.scope.isCoroutine = false) (T : Turn Y.prog Y.w Y.K tg J fp it tn)
    (pg : PG Y tg g) (pt : PTs Y ifs tt) (pe : PE Y elt te) (stat : ∀ {σ' : L2.St} {H' : Hp} {s' : Shared}, Inv Y [] σ' H' s' → (∀ b ∈ fp, H' b = none) → ∀ b ∈ fp, FpOk Y [] H' b) (turn : gTurns sb J g tt te vs σ W QT QF) :
    ∀ (m i : Nat) (H : Hp) (n : Nat) (s₀ s : Shared), m ≤ n → Inv Y [] (wipe σ vs) H s → tn i s.heap → (∀ b ∈ fp, H b = none) → W i m H →
      Seg (model Y.prog Y.w) A (gR Y (wipe σ vs) QT) (gP Y (wipe σ vs) sb QF) n s₀ (.compLoop (.GeneratorExp elt [⟨tg, iter, ifs, 0⟩] scope pos) 0 (.ref it) .none Y.env)
        ((model Y.prog Y.w).den (.compLoop (.GeneratorExp elt [⟨tg, iter, ifs, 0⟩] scope pos) 0 (.ref it) .none Y.env)) [] s := by
  intro m
  induction m using Nat.strongRecOn with
  | ind m ih =>
    intro i H n s₀ s hmn I st nf w
    show Seg _ A _ _ _ s₀ _ ((compTurn (.GeneratorExp elt [⟨tg, iter, ifs, 0⟩] scope pos) 0 (.ref it) .none Y.env).onRaise (leaving Y.env)) [] s
    rw [compTurn_gen, Sem.onRaise_eq_wrap]
    refine seg_bind_wrap (wpAny_standAt ?_)
    refine seg_bind_wrap ?_
    rw [hA]
    rcases turn i m H w with ⟨stop, q⟩ | ⟨go, hm0, Nx, hNx, step⟩
    · refine thnF (T.done Y rfl rfl rfl hc i [] s _ H (fun _ _ => False) I (stat I nf) st stop) fun r s6 ⟨hr, I6⟩ => ?_
      subst hr
      exact seg_end (.ok .next) (.inl ⟨.inr rfl, H, I6, q⟩)
    · refine thnF (T.item Y rfl rfl rfl hc i [] s _ H (fun _ _ => False) I (stat I nf) st go) fun r s6 ⟨u, hr, h6⟩ => ?_
      subst hr
      refine seg_bind_wrap ?_
      rw [hA]
      refine thnF h6 fun _ s7 ⟨x, H7, I7, r7, y7, st7, n7⟩ => ?_
      have I7' := I7.pinned (stat I7 n7) (T.obj _ _ st7)
      refine seg_bind_wrap ?_
      rw [hA]
      have pgr := pg.run _ s7 _ H7 x u _ I7' r7 (step x H7 y7)
      rw [hxe] at pgr
      refine thnF pgr fun _ s8 ⟨σ8, H8, I8, hw8, q8⟩ => ?_
      refine seg_bind_wrap ?_
      rw [hA]
      have ptr := pt.run _ s8 σ8 H8 _ I8 q8
      rw [hxe] at ptr
      refine thnF ptr fun b s9 ⟨H9, I9, q9⟩ => ?_
      -- the turn's end
      have back : ∀ {s' : Shared} {H' : Hp}, Inv Y ([] ++ pinsAt fp s7.heap) σ8 H' s' → Inv Y [] (wipe σ vs) H' s' ∧ tn (i + 1) s'.heap ∧ ∀ b ∈ fp, H' b = none := fun {s' H'} I' => by
        have pin' : ∀ b ∈ fp, ∀ o, s7.heap.get? b = some o → s'.heap.get? b = some o ∧ H' b = none := fun b hb o e =>
          let z := I'.pin (b, o) (List.mem_append_right _ (List.mem_append_right _ (mem_pinsAt hb e)))
          ⟨z.1, z.2.1⟩
        have hl : (wipe σ vs).length = σ8.length := by rw [← hw8, wipe_length]
        refine ⟨(I'.unpinned (pins := [])).weak hl (fun j v e => ?_), T.keep _ _ _ st7 fun b hb o e => (pin' b hb o e).1, fun b hb => ?_⟩
        · rw [← hw8] at e
          exact (wipe_some e).1
        · obtain ⟨o, e, _⟩ := T.obj _ _ st7 b hb
          exact (pin' b hb o e).2
      cases b with
      | false =>
        simp only [Bool.false_eq_true, if_false] at q9 ⊢
        obtain ⟨I10, st10, n10⟩ := back I9
        obtain ⟨m', hm, w'⟩ := hNx _ q9
        exact seg_again rfl (ih m' hm (i + 1) H9 n s₀ s9 (by omega) I10 st10 n10 w')
      | true =>
        simp only [if_true] at q9 ⊢
        have hy : ∀ v, yieldOut Y.env v = yieldValue v := fun v => by simp only [yieldOut, hco, Bool.false_eq_true, if_false]
        simp only [hy]
        rw [Sem.bind_eq_wrap', Sem.bind_eq_wrap', Sem.wrap_wrap, Sem.wrap_wrap]
        refine seg_wrap ?_
        rw [hA]
        have per := pe.run _ s9 σ8 H9 _ I9 q9
        rw [hxe] at per
        refine thnF per fun z s10 ⟨yv, H10, I10, r10, k, e10, q1, q2⟩ => ?_
        obtain ⟨I11, st11, n11⟩ := back I10
        rw [e10] at r10
        have e11 : z = Value.bool k := r10
        subst e11
        obtain ⟨n', rfl⟩ : ∃ n', n = n' + 1 := ⟨n - 1, by omega⟩
        refine seg_at (seg_yield rfl rfl rfl ⟨k, H10, rfl, I11, q1, fun hk s'' e1 e2 e3 => ?_⟩)
        obtain ⟨m', hm, w'⟩ := hNx _ (q2 hk)
        exact seg_again rfl (ih m' hm (i + 1) H10 n' s'' s'' (by omega) (inv_swap I11 e1 e2 e3) (by rw [e1]; exact st11) n11 w')

/-! ### the consumer -/
section
variable {Y : Cx} {A : Around} {σ0 : L2.St} {QT QF : Hp → Prop} {a : Addr} {g : Nat} {gobj : Obj} {RR : Result → Shared → Prop}
/-- one more turn of all, of any -/
theorem next_turn {sb : Bool} {Q : Option Value → Shared → Prop} {E : Value → Shared → Prop} {s : Shared} {n : Nat} (hh : A.handled = none) (hd : A.depth < recursionLimit) (hp : (a, gobj) ∈ Y.pn) (hg : ∀ h : Heap, h.get? a = some gobj → h.IsGen a g)
    (hI : ∃ H0, Inv Y [] σ0 H0 s) (hgo : ∃ gs, s.gens[g]? = some gs ∧ gs.Goes (model Y.prog Y.w) A.in1 (gR Y σ0 QT) (gP Y σ0 sb QF) n (.send .none) (s.setGen g .running))
    (hY : ∀ (b : Bool) (H : Hp) (s1 : Shared), Inv Y [] σ0 H s1 → (b = sb → QF H) → (b ≠ sb → ∃ m, n = m + 1 ∧ ∃ gs, s1.gens[g]? = some gs ∧ gs.Goes (model Y.prog Y.w) A.in1 (gR Y σ0 QT) (gP Y σ0 sb QF) m (.send .none) (s1.setGen g .running)) → Q (some (.bool b)) s1)
    (hN : ∀ (H : Hp) (s1 : Shared), Inv Y [] σ0 H s1 → QT H → Q none s1) : wpAny (model Y.prog Y.w) A (pyNext (.ref a)) Q E s := by
  obtain ⟨H0, I0⟩ := hI
  obtain ⟨gs, hgs, hgo⟩ := hgo
  have hgl : g < s.gens.size := (Array.getElem?_eq_some_iff.mp hgs).1
  have isg : ∀ {H : Hp} {s1 : Shared}, Inv Y [] σ0 H s1 → s1.heap.IsGen a g := fun I => hg _ (I.pin (a, gobj) (List.mem_append_left _ hp)).1
  refine wpAny_gsz (n := g + 1) hgl (next_genG (F := gF Y σ0 QT) (Er := fun _ _ => False) (Y := gP Y σ0 sb QF) hh I0.nolimit hd (isg I0) hgs hgo (fun v s₁ gs' hbare hv => ?_) (fun s₁ hp h' hk => ?_) fun e s₁ he => he.elim)
  · intro hsz
    obtain ⟨b, H, rfl, I1, qF, kk⟩ := hv
    have hsz1 : g < s₁.gens.size := by
      have q : (s₁.setGen g gs').gens.size = s₁.gens.size := setGen_size _ _ _
      have hsz' : g + 1 ≤ (s₁.setGen g gs').gens.size := hsz
      omega
    have hb1 : AllBare (s₁.setGen g gs').gens := allBare_setGen I1.bare hbare
    refine hY b H _ (inv_swap I1 rfl rfl hb1) qF fun hb => ?_
    have k2 := kk hb ((s₁.setGen g gs').setGen g .running) rfl rfl (allBare_setGen hb1 rfl)
    cases n with
    | zero => exact k2.elim
    | succ m => exact ⟨m, rfl, gs', setGen_at hsz1, k2⟩
  · intro hsz
    obtain ⟨H, I1, q⟩ := hp
    exact hN H _ ((inv_swap (s' := s₁.setGen g .finished) I1 rfl rfl (allBare_setGen I1.bare rfl)).kept (t' := s₁.toks) hk) q
theorem all_loop (hh : A.handled = none) (hd : A.depth < recursionLimit) (hp : (a, gobj) ∈ Y.pn) (hg : ∀ h : Heap, h.get? a = some gobj → h.IsGen a g)
    (hT : ∀ s' H', Inv Y [] σ0 H' s' → QT H' → RR (.ok (.ret (.bool true))) s') (hF : ∀ s' H', Inv Y [] σ0 H' s' → QF H' → RR (.ok (.ret (.bool false))) s') :
    ∀ (n : Nat) (s : Shared), (∃ H0, Inv Y [] σ0 H0 s) → (∃ gs, s.gens[g]? = some gs ∧ gs.Goes (model Y.prog Y.w) A.in1.in1 (gR Y σ0 QT) (gP Y σ0 false QF) n (.send .none) (s.setGen g .running)) → codeAny (model Y.prog Y.w) A (.builtin "all.loop" ⟨[.ref a], []⟩) RR s := by
  intro n
  induction n with
  | zero =>
    intro s hI hgo
    refine codeAny_builtin F.entry_all_loop ?_
    rw [Around.under_plainId F.plain_all_loop _]
    show wpAny _ A.in1 (pyNext (.ref a) >>= _) _ _ s
    refine wpAny_bind (next_turn (A := A.in1) hh hd hp hg hI hgo (fun b H s1 I1 qF kk => ?_) fun H s1 I1 q => ?_)
    · refine wpAny_bind (wpAny_holding (wpAny_truthy_bool ?_))
      refine wpAny_bind (wpAny_letGo ?_)
      cases b with
      | false =>
        simp only [Bool.false_eq_true, if_false]
        exact wpAny_bind (wpAny_rule (wpAny_pure (hF _ H I1 (qF rfl))))
      | true =>
        obtain ⟨m, e, _⟩ := kk (by decide)
        cases e
    · exact wpAny_bind (wpAny_rule (wpAny_pure (hT _ H I1 q)))
  | succ n ih =>
    intro s hI hgo
    refine codeAny_builtin F.entry_all_loop ?_
    rw [Around.under_plainId F.plain_all_loop _]
    show wpAny _ A.in1 (pyNext (.ref a) >>= _) _ _ s
    refine wpAny_bind (next_turn (A := A.in1) hh hd hp hg hI hgo (fun b H s1 I1 qF kk => ?_) fun H s1 I1 q => ?_)
    · refine wpAny_bind (wpAny_holding (wpAny_truthy_bool ?_))
      refine wpAny_bind (wpAny_letGo ?_)
      cases b with
      | false =>
        simp only [Bool.false_eq_true, if_false]
        exact wpAny_bind (wpAny_rule (wpAny_pure (hF _ H I1 (qF rfl))))
      | true =>
        simp only [if_true]
        obtain ⟨m, e, k2⟩ := kk (by decide)
        cases e
        exact wpAny_pure ⟨plainId_quiet F.plain_all_loop _, ih s1 ⟨H, I1⟩ k2⟩
    · exact wpAny_bind (wpAny_rule (wpAny_pure (hT _ H I1 q)))
theorem any_loop (hh : A.handled = none) (hd : A.depth < recursionLimit) (hp : (a, gobj) ∈ Y.pn) (hg : ∀ h : Heap, h.get? a = some gobj → h.IsGen a g)
    (hT : ∀ s' H', Inv Y [] σ0 H' s' → QT H' → RR (.ok (.ret (.bool false))) s') (hF : ∀ s' H', Inv Y [] σ0 H' s' → QF H' → RR (.ok (.ret (.bool true))) s') :
    ∀ (n : Nat) (s : Shared), (∃ H0, Inv Y [] σ0 H0 s) → (∃ gs, s.gens[g]? = some gs ∧ gs.Goes (model Y.prog Y.w) A.in1.in1 (gR Y σ0 QT) (gP Y σ0 true QF) n (.send .none) (s.setGen g .running)) → codeAny (model Y.prog Y.w) A (.builtin "any.loop" ⟨[.ref a], []⟩) RR s := by
  intro n
  induction n with
  | zero =>
    intro s hI hgo
    refine codeAny_builtin F.entry_any_loop ?_
    rw [Around.under_plainId F.plain_any_loop _]
    show wpAny _ A.in1 (pyNext (.ref a) >>= _) _ _ s
    refine wpAny_bind (next_turn (A := A.in1) hh hd hp hg hI hgo (fun b H s1 I1 qF kk => ?_) fun H s1 I1 q => ?_)
    · refine wpAny_bind (wpAny_holding (wpAny_truthy_bool ?_))
      refine wpAny_bind (wpAny_letGo ?_)
      cases b with
      | true =>
        simp only [if_true]
        exact wpAny_bind (wpAny_rule (wpAny_pure (hF _ H I1 (qF rfl))))
      | false =>
        obtain ⟨m, e, _⟩ := kk (by decide)
        cases e
    · exact wpAny_bind (wpAny_rule (wpAny_pure (hT _ H I1 q)))
  | succ n ih =>
    intro s hI hgo
    refine codeAny_builtin F.entry_any_loop ?_
    rw [Around.under_plainId F.plain_any_loop _]
    show wpAny _ A.in1 (pyNext (.ref a) >>= _) _ _ s
    refine wpAny_bind (next_turn (A := A.in1) hh hd hp hg hI hgo (fun b H s1 I1 qF kk => ?_) fun H s1 I1 q => ?_)
    · refine wpAny_bind (wpAny_holding (wpAny_truthy_bool ?_))
      refine wpAny_bind (wpAny_letGo ?_)
      cases b with
      | true =>
        simp only [if_true]
        exact wpAny_bind (wpAny_rule (wpAny_pure (hF _ H I1 (qF rfl))))
      | false =>
        simp only [Bool.false_eq_true, if_false]
        obtain ⟨m, e, k2⟩ := kk (by decide)
        cases e
        exact wpAny_pure ⟨plainId_quiet F.plain_any_loop _, ih s1 ⟨H, I1⟩ k2⟩
    · exact wpAny_bind (wpAny_rule (wpAny_pure (hT _ H I1 q)))
end
/-! ### made -/
/-- the generator at a, ready to be walked -/
def GReady (X : Cx) (pins : List (Addr × Obj)) (σ : L2.St) (sb : Bool) (Q : VK) (a : Addr) (s : Shared) : Prop :=
  ∃ (Y : Cx) (σ0 : L2.St) (g n : Nat) (gobj : Obj), Y.prog = X.prog ∧ Y.w = X.w ∧ (a, gobj) ∈ Y.pn ∧ (∀ h : Heap, h.get? a = some gobj → h.IsGen a g) ∧ (∃ H0, Inv Y [] σ0 H0 s) ∧ (∀ s' H', Inv Y [] σ0 H' s' → Inv X pins σ H' s') ∧
    ∃ gs, s.gens[g]? = some gs ∧ gs.Goes (model X.prog X.w) X.A.in1.in1 (gR Y σ0 (Q (.bl (!sb)))) (gP Y σ0 sb (Q (.bl sb))) n (.send .none) (s.setGen g .running)
def tGen (sb : Bool) (P : Addr) (wi : TI) (g : TG) (tt : TT) (te : TE) (vs : List Nat) : TE := fun σ H Q => wi σ H fun J H1 => GxR.TabG H1 P ∧ ∀ H2, GxR.Tabbed P H1 H2 → ∃ W : Nat → Nat → Hp → Prop, (∃ m, W 0 m H2) ∧ gTurns sb J g tt te vs σ W (Q (.bl (!sb))) (Q (.bl sb))
section
variable {X : Cx}
theorem over_gen {B : Around} {elt tg iter : Expr} {ifs : List Expr} {scope : Scope} {pos : Pos} {it : Value} {cenv : PySem.Env} {st : List PySem.Env} {k : Nat} (hr : Room (k + 1) B) (hf : B.frames = some st) :
    (B.in1.in1.over (.compLoop (.GeneratorExp elt [⟨tg, iter, ifs, 0⟩] scope pos) 0 it .none cenv) []).frames = some (cenv :: st) ∧ Room k (B.in1.in1.over (.compLoop (.GeneratorExp elt [⟨tg, iter, ifs, 0⟩] scope pos) 0 it .none cenv) []) := by
  refine ⟨?_, hr.hd, ?_, ?_⟩
  · show pushEnvs [cenv] (pushEnvs [] B.frames) = _
    rw [hf]
    rfl
  · have := hr.dp
    show B.depth + 1 + 3 * k + 5 < _
    omega
  · have := hr.un
    show B.units + 1 + 1 + 3 + 16 * k + 200 < _
    omega

theorem inv_setGen {pins : List (Addr × Obj)} {s : Shared} {σ : L2.St} {H : Hp} (I : Inv X pins σ H s) (g : Nat) (x : GenState) (hx : x.bare = true) : Inv X pins σ H (s.setGen g x) := inv_swap I rfl rfl (allBare_setGen I.bare hx)
/-- the generator's object -/
abbrev gob (n : Nat) (q : Str) (tk : Nat) : Obj := { cls := .type "generator", data := .fields #[.int n 0, .str "<genexpr>" (tk + 1), .str (q ++ "<genexpr>") (tk + 1 + 1)] }
theorem gen_made {pins : List (Addr × Obj)} {s : Shared} {σ : L2.St} {H : Hp} {Q : VK} {Q' : Value → Shared → Prop} {sb : Bool} {k : Nat} {c P : Addr} {elt tg iter : Expr} {ifs : List Expr} {scope : Scope} {gpos : Pos} {own : List (Str × Nat)} {wi : TI} {g : TG} {tt : TT} {te : TE}
    (hc : X.calm = true) (hr : Room (k + 1) X.A) (hN : X.N.Nodup) (TB : GxR.TabB X.base X.mg c P) (hcode : X.env.code = .ref c) (hco : scope.isCoroutine = false) (nc : ∀ y ∈ scope.names, y.2 ≠ .cell) (hdot : scope.names.lookup (".0" : Str) = some NameKind.local) (ok : BlkOk X.N X.env.scope scope own)
    (hi : PI X tg iter wi) (hs : ∀ v, genFold iter X.env v = pure v)
    (hg : ∀ (A : Around) (s : Shared) (H : Hp) (C : Addr) (code : Value) (fp : List Addr) (pn : List (Addr × Obj)), PG (gbx X A s H (gEnv X scope C code) fp pn) tg g)
    (ht : ∀ (A : Around) (s : Shared) (H : Hp) (C : Addr) (code : Value) (fp : List Addr) (pn : List (Addr × Obj)), Room k A → PTs (gbx X A s H (gEnv X scope C code) fp pn) ifs tt)
    (he : ∀ (A : Around) (s : Shared) (H : Hp) (C : Addr) (code : Value) (fp : List Addr) (pn : List (Addr × Obj)), Room k A → PE (gbx X A s H (gEnv X scope C code) fp pn) elt te)
    (I : Inv X pins σ H s) (h : tGen sb P wi g tt te (own.map (·.2)) σ H Q) (hQ : ∀ a s5, GReady X pins σ sb Q a s5 → Q' (.ref a) s5) :
    wpAny (model X.prog X.w) X.A (eval (.GeneratorExp elt [⟨tg, iter, ifs, 0⟩] scope gpos) X.env) Q' X.xe s := by
  have hfree : ∀ y ∈ scope.names, y.2 = .free → ∃ c, X.env.cells.lookup y.1 = some c := fun y hy e => by
    rcases ok.free y hy e with k | k
    · exact I.ok.has _ (.inl k)
    · exact I.ok.has _ (.inr k)
  refine wpAny_GeneratorExp_make hco (closure_ok hfree) nc hdot ok.kind hr.depth ?_ hs
  refine thn (hi.run pins s σ H _ I h) fun xv s1 hx => thn hx fun itv s2 h2 => ?_
  obtain ⟨it, fp, tn, J, H2, e, I2, T, st2, f2, ⟨ps, hP, htr⟩, q⟩ := h2
  subst e
  refine ⟨I2.nolimit, ?_⟩
  have hPs : s2.heap.get? P = some { cls := .none, data := .fields ps } := I2.hok P _ hP
  have fpP : ∀ b ∈ fp, b ≠ P := fun b hb z => by
    have := (f2 b hb).1
    rw [z, hP] at this
    cases this
  have sz : ∀ b ∈ fp, b < s2.heap.objs.size := fun b hb => by
    obtain ⟨o, e, _⟩ := T.obj _ _ st2 b hb
    exact Heap.lt_size e
  have cont : ∀ (code : Value) (h3 : Heap) (tk : Nat) (ps' : Array Value), Heap.ExtBut P s2.heap h3 → s2.heap.objs.size ≤ h3.objs.size → h3.get? P = some { cls := .none, data := .fields ps' } → (∃ more, ps' = ps ++ more) → TriplesOk ps'.toList →
      wpAny (model X.prog X.w) X.A (builtinsFor X.env.globals X.env.builtins) (fun bi s₄ => ∀ h', h'.Ns s₄.heap.objs.size (fun y => if y = ".0" then some (.ref it) else none) → Heap.SameBut s₄.heap.objs.size (s₄.heap.push { cls := .type "frame", data := .dict #[] }) h' →
          Q' (.ref h'.objs.size) { s₄ with
            gens := s₄.gens.push (.fresh (.compStart (.GeneratorExp elt [⟨tg, iter, ifs, 0⟩] scope gpos) 0 (.ref it) .none (genEnv scope (cloFrom X.env.cells scope.names []) s₄.heap.objs.size code bi X.env))),
            toks := s₄.toks + 1 + 1 + 1,
            heap := h'.push { cls := .type "generator", data := .fields #[.int s₄.gens.size 0, .str "<genexpr>" (s₄.toks + 1), .str (X.env.qual ++ "<genexpr>") (s₄.toks + 1 + 1)] } }) X.xe { s2 with heap := h3, toks := tk } := by
    intro code h3 tk ps' hx hsz hP3 hmore ht3
    obtain ⟨more, rfl⟩ := hmore
    have I3 : Inv X pins σ (upd H2 P (.tbl (ps ++ more))) { s2 with heap := h3, toks := tk } := GxR.inv_tab (g' := s2.gens) (d' := s2.drawn) I2 hP (fun b o hb e => hx b o hb e) hP3 I2.bare
    have f3 : ∀ b ∈ fp, FpOk X pins (upd H2 P (.tbl (ps ++ more))) b ∧ b < h3.objs.size := fun b hb =>
      ⟨⟨by rw [upd_ne (fpP b hb)]; exact (f2 b hb).1, (f2 b hb).2⟩, Nat.lt_of_lt_of_le (sz b hb) hsz⟩
    have st3 : tn 0 h3 := T.keep _ _ _ st2 fun b hb o e => hx b o (fpP b hb) e
    obtain ⟨W, ⟨m0, w0⟩, turn⟩ := q _ ⟨⟨ps ++ more, upd_same, ht3⟩, fun b hb => upd_ne hb⟩
    obtain ⟨bm, ob, e1, e2, e3, e4, e5, e6, e7, e8⟩ := TB.bm
    refine wpAny_builtinsFor (m := X.mg) (by rw [I3.ok.glob]; exact I3.mod.glob.keeps I3.bk) e1 e2 (I3.bk _ _ e5) e6 e7 e8 ?_
    intro h' hn' hs'
    have hsz' : h'.objs.size = h3.objs.size + 1 := by rw [hs'.1, Heap.size_push]
    obtain ⟨hfr, hr'⟩ := over_gen (elt := elt) (tg := tg) (iter := iter) (ifs := ifs) (scope := scope) (pos := gpos) (it := .ref it) (cenv := gEnv X scope h3.objs.size code) hr I3.ok.frames
    have I4 := gen_start (gobj := gob s2.gens.size X.env.qual tk) (tk := tk + 1 + 1 + 1)
      (gs := .fresh (.compStart (.GeneratorExp elt [⟨tg, iter, ifs, 0⟩] scope gpos) 0 (.ref it) .none (gEnv X scope h3.objs.size code))) I3 ok nc hN hr'.hd hfr f3 hn' hs' rfl rfl (fun v z => by cases z)
    have nfp : ∀ b ∈ fp, (upd H2 P (.tbl (ps ++ more))) b = none := fun b hb => (f3 b hb).1.1
    have st4 : tn 0 (h'.push (gob s2.gens.size X.env.qual tk)) := T.keep _ _ _ st3 fun b _ o e =>
      Heap.get?_push_of_some _ (hs'.extBut b o (Nat.ne_of_lt (Heap.lt_size e)) (Heap.get?_push_of_some _ e))
    refine hQ _ _ ⟨(gbx X (X.A.in1.in1.over (.compLoop (.GeneratorExp elt [⟨tg, iter, ifs, 0⟩] scope gpos) 0 (.ref it) .none (gEnv X scope h3.objs.size code)) []) { s2 with heap := h3, toks := tk } (upd H2 P (.tbl (ps ++ more))) (gEnv X scope h3.objs.size code) fp [(h'.objs.size, gob s2.gens.size X.env.qual tk)]), wipe σ (own.map (·.2)), s2.gens.size, m0, gob s2.gens.size X.env.qual tk, rfl, rfl, List.mem_cons_self, fun h e => ⟨_, _, _, e, rfl, rfl, rfl⟩, ⟨_, I4⟩, fun s' H' I6 => ?_, _, Array.getElem?_push_size .., rfl, ?_⟩
    · exact I3.call' (ch := fp) I6.os I6.base I6.hok I6.bare fun b hb => ⟨(f3 b hb).1.2.2.2.1, (f3 b hb).1.2.1, (f3 b hb).1.2.2.2.2.1, (f3 b hb).1.2.2.2.2.2⟩
    · have I5 := inv_setGen I4 s2.gens.size .running rfl
      generalize hS : (Shared.setGen _ s2.gens.size .running) = S at I5 ⊢
      have hSh : S.heap = h'.push (gob s2.gens.size X.env.qual tk) := by rw [← hS]; rfl
      have st5 : tn 0 S.heap := by rw [hSh]; exact st4
      have loop := gen_loop (Y := (gbx X (X.A.in1.in1.over (.compLoop (.GeneratorExp elt [⟨tg, iter, ifs, 0⟩] scope gpos) 0 (.ref it) .none (gEnv X scope h3.objs.size code)) []) { s2 with heap := h3, toks := tk } (upd H2 P (.tbl (ps ++ more))) (gEnv X scope h3.objs.size code) fp [(h'.objs.size, gob s2.gens.size X.env.qual tk)]))
        (A := X.A.in1.in1) (iter := iter) (scope := scope) (pos := gpos) rfl rfl rfl hco T (hg _ _ _ _ _ _ _) (ht _ _ _ _ _ _ _ hr') (he _ _ _ _ _ _ _ hr') (fun {σ' H' s'} I' hn b hb => ⟨hn b hb, (I'.ok.exf b hb).1, I'.ok.exfs b hb, .inl hb, fun x c e => (I'.ok.exf b hb).2 x c e, fun p hp z => ?_⟩) turn m0 0 _ m0 S S (Nat.le_refl _) I5 st5 nfp w0
      · show Seg _ X.A.in1.in1 _ _ _ S _ ((compStart (.GeneratorExp elt [⟨tg, iter, ifs, 0⟩] scope gpos) 0 (.ref it) .none (gEnv X scope h3.objs.size code)).onRaise (leaving (gEnv X scope h3.objs.size code))) [] S
        unfold compStart
        rw [Sem.onRaise_eq_wrap]
        show Seg _ X.A.in1.in1 _ _ _ S _ ((ask >>= _).wrap _ _ _ _) [] S
        refine seg_bind_wrap (wpAny_askSetting ?_)
        split
        · exact seg_again rfl loop
        · first
            | exact seg_bind_wrap (wpAny_rule (seg_bind_wrap (wpAny_standAt (seg_bind_wrap (T.self _ 0 S _ _ st5 (seg_again rfl loop))))))
            | (refine seg_bind_wrap (wpAny_rule ?_); show Seg _ X.A.in1.in1 _ _ _ S _ ((standAt iter.pos >>= _).wrap _ _ _ _) [] S; exact seg_bind_wrap (wpAny_standAt (seg_bind_wrap (T.self _ 0 S _ _ st5 (seg_again rfl loop)))))
      · have hp' : p ∈ [(h'.objs.size, gob s2.gens.size X.env.qual tk)] ++ [] := hp
        have e : p = (h'.objs.size, gob s2.gens.size X.env.qual tk) := by simpa using hp'
        rw [e] at z
        have z1 : h'.objs.size = b := z
        have z2 : b < h3.objs.size := (f3 b hb).2
        have z3 : (h'.objs.size : Nat) = h3.objs.size + 1 := hsz'
        rw [z1] at z3
        exact Nat.lt_irrefl _ (Nat.lt_trans (by rw [z3]; exact Nat.lt_succ_self _) z2)
  have hcd : PySem.W.CodeHd s2.heap c P := TB.code.keeps fun b u e => I2.bk b u e
  cases hf : codeAmong gpos ps.toList with
  | none =>
    refine wpAny_genexprCodeX hcode (hcd.code hPs htr) (hcd.tab hPs) hf fun c' h' tk hx hge hlt hco' _ htab' _ => ?_
    obtain ⟨o1, vs, f1, tf, fl, tg', inF, tx, tt', op, _, _, _, _, _, _, _, _, _, htr', _⟩ := hco'
    exact cont _ h' tk _ hx (Nat.le_trans hge (Nat.le_of_lt hlt)) htab'.2 ⟨_, rfl⟩ htr'
  | some cv =>
    refine wpAny_genexprCode_hit hcode (hcd.code hPs htr) hf ?_
    exact cont cv s2.heap s2.toks ps (Heap.ExtBut.refl _ _) (Nat.le_refl _) hPs ⟨#[], by simp⟩ htr

/-- all(..), any(..) of a generator expression -/
theorem pe_allG {k : Nat} {c P : Addr} {elt tg iter : Expr} {ifs : List Expr} {scope : Scope} {p pos gpos : Pos} {own : List (Str × Nat)} {wi : TI} {g : TG} {tt : TT} {te : TE}
    (hgl : Gl X "all") (hm : X.mg "all" = none)
    (hc : X.calm = true) (hr : Room (k + 1) X.A) (hN : X.N.Nodup) (TB : GxR.TabB X.base X.mg c P) (hcode : X.env.code = .ref c) (hco : scope.isCoroutine = false) (nc : ∀ y ∈ scope.names, y.2 ≠ .cell) (hdot : scope.names.lookup (".0" : Str) = some NameKind.local) (ok : BlkOk X.N X.env.scope scope own)
    (hi : PI X tg iter wi) (hs : ∀ v, genFold iter X.env v = pure v)
    (hg : ∀ (A : Around) (s : Shared) (H : Hp) (C : Addr) (code : Value) (fp : List Addr) (pn : List (Addr × Obj)), PG (gbx X A s H (gEnv X scope C code) fp pn) tg g)
    (ht : ∀ (A : Around) (s : Shared) (H : Hp) (C : Addr) (code : Value) (fp : List Addr) (pn : List (Addr × Obj)), Room k A → PTs (gbx X A s H (gEnv X scope C code) fp pn) ifs tt)
    (he : ∀ (A : Around) (s : Shared) (H : Hp) (C : Addr) (code : Value) (fp : List Addr) (pn : List (Addr × Obj)), Room k A → PE (gbx X A s H (gEnv X scope C code) fp pn) elt te)
    (hst : starEach [.GeneratorExp elt [⟨tg, iter, ifs, 0⟩] scope gpos] X.env = (false, eval (.GeneratorExp elt [⟨tg, iter, ifs, 0⟩] scope gpos) X.env) :: starEach [] X.env := by rfl) :
    PE X (.Call (.Name "all" p) [.GeneratorExp elt [⟨tg, iter, ifs, 0⟩] scope gpos] [] pos) (tGen false P wi g tt te (own.map (·.2))) := by
  refine ⟨fun pins s σ H Q I h => ?_⟩
  refine wpAny_Call_Name_kw (ld_blt I hgl hm PyProof.Rows.boot_all ?_)
  refine PyProof.Rows.callWith_builtin1 ?_ hst (by rfl)
  rw [hst]
  show wpAny _ _ (spliced ((false, eval (.GeneratorExp elt [⟨tg, iter, ifs, 0⟩] scope gpos) X.env) :: backTo pos (starEach [] X.env))) _ _ s
  refine Calls.spliced_cons (gen_made hc hr hN TB hcode hco nc hdot ok hi hs hg ht he I h fun a s5 hR => ?_)
  obtain ⟨Y, σ0, g', n, gobj, e1, e2, hp, hisg, hI, back, hgo⟩ := hR
  refine Calls.spliced_nil ?_
  refine call_function_tree F.kind_all F.plain_all F.entry_all (F.args_all1 _) ?_
  unfold Builtin.«all»
  refine wpAny_bind (m := oneArg "all" _) (wpAny_pure ?_)
  obtain ⟨H0, I0⟩ := hI
  have isg : s5.heap.IsGen a g' := hisg _ (I0.pin (a, gobj) (List.mem_append_left _ hp)).1
  refine wpAny_bind (wpAny_pyIter_gen isg ?_)
  rw [← e1, ← e2] at hgo ⊢
  refine wpAny_pure ⟨plainId_quiet F.plain_all_loop _, all_loop (A := X.A) (g := g') hr.hd hr.depth hp hisg (fun s' H' I' q => ?_) (fun s' H' I' q => ?_) n s5 ⟨H0, I0⟩ hgo⟩
  · exact ⟨.bl true, H', back s' H' I', rfl, q⟩
  · exact ⟨.bl false, H', back s' H' I', rfl, q⟩
theorem pe_anyG {k : Nat} {c P : Addr} {elt tg iter : Expr} {ifs : List Expr} {scope : Scope} {p pos gpos : Pos} {own : List (Str × Nat)} {wi : TI} {g : TG} {tt : TT} {te : TE}
    (hgl : Gl X "any") (hm : X.mg "any" = none)
    (hc : X.calm = true) (hr : Room (k + 1) X.A) (hN : X.N.Nodup) (TB : GxR.TabB X.base X.mg c P) (hcode : X.env.code = .ref c) (hco : scope.isCoroutine = false) (nc : ∀ y ∈ scope.names, y.2 ≠ .cell) (hdot : scope.names.lookup (".0" : Str) = some NameKind.local) (ok : BlkOk X.N X.env.scope scope own)
    (hi : PI X tg iter wi) (hs : ∀ v, genFold iter X.env v = pure v)
    (hg : ∀ (A : Around) (s : Shared) (H : Hp) (C : Addr) (code : Value) (fp : List Addr) (pn : List (Addr × Obj)), PG (gbx X A s H (gEnv X scope C code) fp pn) tg g)
    (ht : ∀ (A : Around) (s : Shared) (H : Hp) (C : Addr) (code : Value) (fp : List Addr) (pn : List (Addr × Obj)), Room k A → PTs (gbx X A s H (gEnv X scope C code) fp pn) ifs tt)
    (he : ∀ (A : Around) (s : Shared) (H : Hp) (C : Addr) (code : Value) (fp : List Addr) (pn : List (Addr × Obj)), Room k A → PE (gbx X A s H (gEnv X scope C code) fp pn) elt te)
    (hst : starEach [.GeneratorExp elt [⟨tg, iter, ifs, 0⟩] scope gpos] X.env = (false, eval (.GeneratorExp elt [⟨tg, iter, ifs, 0⟩] scope gpos) X.env) :: starEach [] X.env := by rfl) :
    PE X (.Call (.Name "any" p) [.GeneratorExp elt [⟨tg, iter, ifs, 0⟩] scope gpos] [] pos) (tGen true P wi g tt te (own.map (·.2))) := by
  refine ⟨fun pins s σ H Q I h => ?_⟩
  refine wpAny_Call_Name_kw (ld_blt I hgl hm PyProof.Rows.boot_any ?_)
  refine PyProof.Rows.callWith_builtin1 ?_ hst (by rfl)
  rw [hst]
  show wpAny _ _ (spliced ((false, eval (.GeneratorExp elt [⟨tg, iter, ifs, 0⟩] scope gpos) X.env) :: backTo pos (starEach [] X.env))) _ _ s
  refine Calls.spliced_cons (gen_made hc hr hN TB hcode hco nc hdot ok hi hs hg ht he I h fun a s5 hR => ?_)
  obtain ⟨Y, σ0, g', n, gobj, e1, e2, hp, hisg, hI, back, hgo⟩ := hR
  refine Calls.spliced_nil ?_
  refine call_function_tree F.kind_any F.plain_any F.entry_any (F.args_any1 _) ?_
  unfold Builtin.«any»
  refine wpAny_bind (m := oneArg "any" _) (wpAny_pure ?_)
  obtain ⟨H0, I0⟩ := hI
  have isg : s5.heap.IsGen a g' := hisg _ (I0.pin (a, gobj) (List.mem_append_left _ hp)).1
  refine wpAny_bind (wpAny_pyIter_gen isg ?_)
  rw [← e1, ← e2] at hgo ⊢
  refine wpAny_pure ⟨plainId_quiet F.plain_any_loop _, any_loop (A := X.A) (g := g') hr.hd hr.depth hp hisg (fun s' H' I' q => ?_) (fun s' H' I' q => ?_) n s5 ⟨H0, I0⟩ hgo⟩
  · exact ⟨.bl false, H', back s' H' I', rfl, q⟩
  · exact ⟨.bl true, H', back s' H' I', rfl, q⟩
end
end Dn
end

section
set_option Elab.async false
set_option linter.all false
set_option maxRecDepth 100000
namespace Dn
open PySem PySem.Spec PyProof.Rows L2

/-- the turns of any (sb true), all (sb false) -/
def loopG (sb : Bool) (b : Itb) (tg : D → Env → Option Env) (tt : Env → Sto → Rs Bool) (te : Env → Sto → Rs D) (env : Env) : Nat → Nat → Sto → Rs Bool
  | 0, _, _ => .no
  | n + 1, i, st => match b.at_ i st with
    | none => .ok (!sb) st
    | some d => match tg d env with
      | none => .no
      | some env' => (tt env' st).bindN fun k st1 => match k with
        | false => loopG sb b tg tt te env n (i + 1) st1
        | true => (te env' st1).bindN fun y st2 => match y with
          | .bl k => if k = sb then .ok sb st2 else loopG sb b tg tt te env n (i + 1) st2
          | _ => .no
def mGen (sb : Bool) (vs : List Nat) (mi : Env → Sto → Rs Itb) (tg : D → Env → Option Env) (tt : Env → Sto → Rs Bool) (te : Env → Sto → Rs D) : Env → Sto → Rs D := fun env st => (mi env st).bind fun b st1 => (loopG sb b tg tt te (wipeE env vs) (b.fuel st1) 0 st1).bindN fun k st2 => .ok (.bl k) st2
section
variable {Γ : Gm} {π : Pl} {H H' : Hp} {st : Sto} {P : Addr}
theorem tabbed_ext (S : StR Γ π H st) (hP : P ∈ Γ.tb) (t : GxR.Tabbed P H H') : Ext π H π H' ∧ StR Γ π H' st := by
  obtain ⟨⟨qs, hq, tr⟩, same⟩ := t
  obtain ⟨ps, hp, _⟩ := S.tab P hP
  have ne : ∀ b o, H b = some o → isTb o = false → b ≠ P := fun b o e h z => by
    rw [z, hp] at e
    cases e
    cases h
  have e : Ext π H π H' :=
    { fix := fun b o e f => by rw [same b (ne b o e (by cases o <;> first | rfl | cases f))]; exact e
      frz := fun b o f e => by
        obtain ⟨_, xs, q⟩ := S.frz b f
        rw [e] at q
        cases q
        rw [same b (ne b _ e rfl)]; exact e
      pre := fun _ _ h => h
      fr := fun _ h => h
      kd := fun _ _ _ => rfl
      keep := fun b o e h _ => by rw [same b (ne b o e h)]; exact e
      there := fun b z => by
        by_cases hb : b = P
        · rw [hb, hq] at z; cases z
        · rw [same b hb] at z; exact z
      newR := fun _ h => .inl h
      newF := fun _ h => .inl h }
  refine ⟨e, S.nd, S.len, fun n p c h1 h2 => (S.at_ n p c h1 h2).ext e.toKp h1 fun o q => ?_, fun p f => ?_, fun Q hQ => ?_, S.dn⟩
  · rw [same p (ne p _ q (S.notTb (List.mem_of_getElem? h1) q))]; exact q
  · obtain ⟨h1, xs, q⟩ := S.frz p f
    exact ⟨h1, xs, by rw [same p (ne p _ q rfl)]; exact q⟩
  · by_cases hb : Q = P
    · rw [hb]; exact ⟨qs, hq, tr⟩
    · rw [same Q hb]; exact S.tab Q hQ
end
section
variable {Γ : Gm} {W : WX} {σ : L2.St} {π1 : Pl} {H1 : Hp} {env : Env} {st : Sto}
theorem gen_run {Q : VK} {J : It} {b : Itb} {g : TG} {sl vs : List Nat} {mg : D → Env → Option Env} {tt : Env → Sto → Rs Bool} {te : Env → Sto → Rs D} {sb : Bool} {n0 : Nat} (ir : ItR Γ π1 H1 J b) (hd : DG Γ g sl mg) (hv : ∀ i ∈ sl, i ∈ vs)
    (E1 : EnvR Γ π1 H1 σ env) (S1 : StR Γ π1 H1 st) (h : Out Γ (Rep Γ) W σ π1 H1 ((loopG sb b mg tt te (wipeE env vs) n0 0 st).bindN fun k st2 => .ok (.bl k) st2) Q) {P : Addr} (hP : P ∈ Γ.tb) {H2 : Hp} (tb : GxR.Tabbed P H1 H2) :
    ∃ V : Nat → Nat → Hp → Prop, (∃ m, V 0 m H2) ∧ gTurns sb J g (tT Γ W0 tt) (tE Γ W0 te) vs σ V (Q (.bl (!sb))) (Q (.bl sb)) := by
  obtain ⟨ex0, S2⟩ := tabbed_ext S1 hP tb
  refine ⟨fun i m H => ∃ π st, Ext π1 H1 π H ∧ EnvR Γ π H (wipe σ vs) (wipeE env vs) ∧ StR Γ π H st ∧ Out Γ (Rep Γ) W σ π1 H1 ((loopG sb b mg tt te (wipeE env vs) m i st).bindN fun k st2 => .ok (.bl k) st2) Q,
    ⟨n0, π1, st, ex0, (E1.wipe vs).ext ex0.toKp, S2, h⟩, ?_⟩
  rintro i m H ⟨π, st, ex, E, S, h⟩
  cases m with
  | zero => exact h.elim
  | succ n =>
    unfold loopG at h
    split at h
    · rename_i eb
      refine .inl ⟨ir.stop π H st i ex.toKp S eb, ?_⟩
      have h' : Out Γ (Rep Γ) W σ π1 H1 (.ok (.bl (!sb)) st) Q := h
      exact h' π H _ ex S rfl
    · rename_i d eb
      split at h
      · exact h.elim
      · rename_i env' eg
        refine .inr ⟨ir.go π H st i d ex.toKp S eb, Nat.succ_pos n, fun H' => ∃ π st, Ext π1 H1 π H' ∧ EnvR Γ π H' (wipe σ vs) (wipeE env vs) ∧ StR Γ π H' st ∧
            Out Γ (Rep Γ) W σ π1 H1 ((loopG sb b mg tt te (wipeE env vs) n (i + 1) st).bindN fun k st2 => .ok (.bl k) st2) Q, fun H' q => ⟨n, Nat.lt_succ_self n, q⟩, fun x H' y => ?_⟩
        obtain ⟨rx, ex2, S2⟩ := ir.yld π H st i d x H' ex.toKp S eb y
        have Ew := E.ext ex2.toKp
        refine hd π H' x d (wipe σ vs) (wipeE env vs) env' _ Ew rx eg fun σ' E' hw => ⟨?_, ?_⟩
        · rw [hw vs hv, wipe_twice fun _ h => h]
        · rw [bindN_assoc] at h
          refine bindN (R := RB) E' (S2 st S) h fun π3 H3 k k' st3 e3 E3 S3 r3 h3 => ?_
          rw [show k = k' from r3]
          cases k' with
          | false => exact iteF ⟨π3, st3, (ex.trans ex2).trans e3, Ew.ext e3.toKp, S3, h3⟩
          | true =>
            refine iteT ?_
            have h3' : Out Γ (Rep Γ) W σ π1 H1 (((te env' st3).bindN fun y st2 => match y with
              | .bl k => if k = sb then .ok sb st2 else loopG sb b mg tt te (wipeE env vs) n (i + 1) st2
              | _ => .no).bindN fun k st2 => .ok (.bl k) st2) Q := h3
            rw [bindN_assoc] at h3'
            refine bindN (R := Rep Γ) E3 S3 h3' fun π4 H4 y dy st4 e4 E4 S4 r4 h4 => ?_
            cases dy with
            | bl kk =>
              refine ⟨kk, r4, fun hk => ?_, fun hk => ?_⟩
              · dsimp only at h4
                rw [if_pos hk] at h4
                have h5 : Out Γ (Rep Γ) W σ π1 H1 (.ok (.bl sb) st4) Q := h4
                exact h5 π4 H4 _ (((ex.trans ex2).trans e3).trans e4) S4 rfl
              · dsimp only at h4
                rw [if_neg hk] at h4
                exact ⟨π4, st4, ((ex.trans ex2).trans e3).trans e4, (Ew.ext e3.toKp).ext e4.toKp, S4, h4⟩
            | _ => exact h4.elim
end
section
variable {X : Cx} {Γ : Gm} {W : WX} {elt tg iter : Expr} {ifs : List Expr} {scope : Scope} {pos gpos p : Pos} {mi : Env → Sto → Rs Itb} {g : TG} {sl : List Nat} {mg : D → Env → Option Env} {tt : Env → Sto → Rs Bool} {te : Env → Sto → Rs D} {k : Nat} {c P : Addr} {own : List (Str × Nat)}
theorem tGen_of {vs : List Nat} {sb : Bool} {σ : L2.St} {H : Hp} {Q : VK} (hP : P ∈ Γ.tb) (hd : DG Γ g sl mg) (hv : ∀ i ∈ sl, i ∈ vs) (h : tE Γ W (mGen sb vs mi mg tt te) σ H Q) : tGen sb P (tI Γ W mi) g (tT Γ W0 tt) (tE Γ W0 te) vs σ H Q := by
  obtain ⟨π, env, st, E, S, h⟩ := h
  refine ⟨π, env, st, E, S, ?_⟩
  unfold mGen at h
  cases e : mi env st with
  | ex x st1 => rw [e] at h; exact h
  | no => rw [e] at h; exact h
  | ok b st1 =>
    rw [e] at h
    intro π1 H1 J e1 S1 ir
    obtain ⟨ps, hp, htr⟩ := S1.tab P hP
    exact ⟨⟨ps, hp, htr⟩, fun H2 tb => gen_run ir hd hv (E.ext e1.toKp) S1 (Out.ext e1 h) hP tb⟩
theorem den_all (hgl : Gl X "all") (hm : X.mg "all" = none) (hr : Room (k + 1) X.A) (hN : X.N.Nodup) (TB : GxR.TabB X.base X.mg c P) (hcode : X.env.code = .ref c) (hP : P ∈ Γ.tb) (hc : X.calm = true) (hco : scope.isCoroutine = false) (nc : ∀ y ∈ scope.names, y.2 ≠ .cell) (hdot : scope.names.lookup (".0" : Str) = some NameKind.local)
    (hi : PI X tg iter (tI Γ W mi)) (ok : BlkOk X.N X.env.scope scope own) (hd : DG Γ g sl mg) (hv : ∀ i ∈ sl, i ∈ own.map (·.2))
    (hg : ∀ (A : Around) (s : Shared) (H : Hp) (C : Addr) (code : Value) (fp : List Addr) (pn : List (Addr × Obj)), PG (gbx X A s H (gEnv X scope C code) fp pn) tg g)
    (ht : ∀ (A : Around) (s : Shared) (H : Hp) (C : Addr) (code : Value) (fp : List Addr) (pn : List (Addr × Obj)), Room k A → PTs (gbx X A s H (gEnv X scope C code) fp pn) ifs (tT Γ W0 tt))
    (he : ∀ (A : Around) (s : Shared) (H : Hp) (C : Addr) (code : Value) (fp : List Addr) (pn : List (Addr × Obj)), Room k A → PE (gbx X A s H (gEnv X scope C code) fp pn) elt (tE Γ W0 te))
    (hs : ∀ v, genFold iter X.env v = pure v := by intro _; rfl)
    (hst : starEach [.GeneratorExp elt [⟨tg, iter, ifs, 0⟩] scope gpos] X.env = (false, eval (.GeneratorExp elt [⟨tg, iter, ifs, 0⟩] scope gpos) X.env) :: starEach [] X.env := by rfl) :
    PE X (.Call (.Name "all" p) [.GeneratorExp elt [⟨tg, iter, ifs, 0⟩] scope gpos] [] pos) (tE Γ W (mGen false (own.map (·.2)) mi mg tt te)) :=
  imE (pe_allG hgl hm hc hr hN TB hcode hco nc hdot ok hi hs hg ht he hst) fun _ _ _ h => tGen_of hP hd hv h
theorem den_any (hgl : Gl X "any") (hm : X.mg "any" = none) (hr : Room (k + 1) X.A) (hN : X.N.Nodup) (TB : GxR.TabB X.base X.mg c P) (hcode : X.env.code = .ref c) (hP : P ∈ Γ.tb) (hc : X.calm = true) (hco : scope.isCoroutine = false) (nc : ∀ y ∈ scope.names, y.2 ≠ .cell) (hdot : scope.names.lookup (".0" : Str) = some NameKind.local)
    (hi : PI X tg iter (tI Γ W mi)) (ok : BlkOk X.N X.env.scope scope own) (hd : DG Γ g sl mg) (hv : ∀ i ∈ sl, i ∈ own.map (·.2))
    (hg : ∀ (A : Around) (s : Shared) (H : Hp) (C : Addr) (code : Value) (fp : List Addr) (pn : List (Addr × Obj)), PG (gbx X A s H (gEnv X scope C code) fp pn) tg g)
    (ht : ∀ (A : Around) (s : Shared) (H : Hp) (C : Addr) (code : Value) (fp : List Addr) (pn : List (Addr × Obj)), Room k A → PTs (gbx X A s H (gEnv X scope C code) fp pn) ifs (tT Γ W0 tt))
    (he : ∀ (A : Around) (s : Shared) (H : Hp) (C : Addr) (code : Value) (fp : List Addr) (pn : List (Addr × Obj)), Room k A → PE (gbx X A s H (gEnv X scope C code) fp pn) elt (tE Γ W0 te))
    (hs : ∀ v, genFold iter X.env v = pure v := by intro _; rfl)
    (hst : starEach [.GeneratorExp elt [⟨tg, iter, ifs, 0⟩] scope gpos] X.env = (false, eval (.GeneratorExp elt [⟨tg, iter, ifs, 0⟩] scope gpos) X.env) :: starEach [] X.env := by rfl) :
    PE X (.Call (.Name "any" p) [.GeneratorExp elt [⟨tg, iter, ifs, 0⟩] scope gpos] [] pos) (tE Γ W (mGen true (own.map (·.2)) mi mg tt te)) :=
  imE (pe_anyG hgl hm hc hr hN TB hcode hco nc hdot ok hi hs hg ht he hst) fun _ _ _ h => tGen_of hP hd hv h
end
end Dn
end

section
set_option Elab.async false
set_option linter.all false
set_option maxRecDepth 100000
set_option maxHeartbeats 4000000
/-! exceptions of own classes right below a built-in one, their __init__ storing one field or none -/
namespace Dn
open PySem PySem.Spec PyProof.Rows L2
section
open Builtin Builtin.ObjectAttr PySem.HandSPX
/-- a built-in exception class as the one base -/
structure XB (B newId initId : String) (bmB : List Value) : Prop where
  F : ExcBaseFacts B newId initId bmB
  S : ∀ self, refuseLoop self "__setattr__" bmB = pure ()
  O : bmB.contains (.type "object") = true
theorem xb_value : XB "ValueError" "ValueError.__new__" "ValueError.__init__" [.type "ValueError", .type "Exception", .type "BaseException", .type "object"] := ⟨PySem.F.excBase_ValueError, fun self => PySem.F.store_ValueError.passes self, by decide +kernel⟩
theorem xb_lookup : XB "LookupError" "LookupError.__new__" "LookupError.__init__" [.type "LookupError", .type "Exception", .type "BaseException", .type "object"] := ⟨PySem.F.excBase_LookupError, fun self => PySem.F.store_LookupError.passes self, by decide +kernel⟩
variable {prog : Program} {w : World} {A : Around} {E : Value → Shared → Prop} {R : Result → Shared → Prop} {hp : Heap} {g : Array GenState} {d : Drawn} {t : Nat} {os : OsState}
/-- self.name = v, the object's first field -/
theorem osa_first {B newId initId : String} {bmB : List Value} (b : XB B newId initId bmB) {K : PySem.W.Frag} {name : Str} {tk : Tok} {v : Value} {x C : Addr} {fv : Array Value} {cd : ClassData}
    (X : K.In hp) (hx : hp.get? x = some { cls := .ref C, data := .fields fv }) (hcd : PySem.W.clsIn K C = some cd) (hm : cd.mro = .ref C :: bmB) (hh : cd.hasDict = true) (ha : PySem.W.findIn K (.ref C) name = some none)
    (hq : ∀ h' tk' dx, (∀ b o, b ≠ x → hp.get? b = some o → h'.get? b = some o) → hp.objs.size ≤ dx → dx ≠ x → h'.get? x = some { cls := .ref C, dict := some dx, data := .fields fv } →
      h'.Ns1 dx (fun y => if y = name then some v else none) → R (.ok (.ret .none)) ⟨h', g, d, tk', os⟩) :
    codeAny (model prog w) A (.call (.builtin "object.__setattr__") ⟨[.ref x, .str name tk, v], []⟩) R ⟨hp, g, d, t, os⟩ := by
  have I : PySem.W.InstAt hp x { cls := .ref C, data := .fields fv } C none := ⟨hx, rfl, rfl, trivial⟩
  have SF := PySem.F.store_object
  have hob : cd.mro.contains (.type "object") = true := by rw [hm, List.contains_cons, b.O, Bool.or_true]
  have hxs : x ≠ hp.objs.size := Nat.ne_of_lt (Heap.lt_size hx)
  have sub : PySem.W.Looks (model prog w) hp (isInstance (.ref x) (.type "object")) true := I.type.andThen (PySem.W.looks_mroIn X (by unfold PySem.W.mroIn; rw [hcd, Option.bind_some, if_neg (by rw [hm]; exact Bool.false_ne_true), hob]))
  refine codeAny_call_builtin SF.slot.plain SF.entry (@PySem.W.check_slot (model prog w) _ _ ⟨hp, g, d, t, os⟩ "object.__setattr__" "object" "__setattr__" (.ref x) [.str name tk, v] [] _ SF.kind SF.split sub (SF.args (.ref x) (.str name tk) v) ?_)
  have hmr : PySem.W.Looks (model prog w) hp (mroOf (.ref C)) cd.mro := (PySem.W.looks_clsIn X hcd).andThen .now
  have L3 : PySem.W.Looks (model prog w) hp (storeTaker? none) none := .now
  have hcls : PySem.W.Looks (model prog w) hp (classData C) cd := PySem.W.looks_clsIn X hcd
  rw [PySem.W.osa_eq, refuse_eq]
  refine wpAny_bind (wpAny_bind (I.type.at (wpAny_bind (hmr.at ?_))))
  rw [hm, refuseLoop_ref, b.S]
  refine wpAny_pure (wpAny_bind (I.type.at (wpAny_bind ((PySem.W.looks_findIn X ha).at (wpAny_bind (L3.at ?_))))))
  show wpAny _ _ (storeInOwnDict (.ref x) (.ref C) (.str name tk) name v false) _ _ _
  obtain ⟨nm, bs, mro, ns, qn, hd, sn, sb, ab, col, del⟩ := cd
  dsimp only at hh
  subst hh
  unfold storeInOwnDict ownDictForStores
  repeat (first | with_reducible refine store_in_new ?_ ?_ | with_reducible refine wpAny_loadPart_at hx ?_ | with_reducible refine hcls.at ?_ | wp_step)
  · exact ⟨_, #[], _, (Heap.get?_update_ne _ _ _ _ hxs.symm).trans (Heap.get?_push_at rfl rfl), rfl, fun e he => absurd he (by simp), fun _ => rfl⟩
  · intro h' tk' hn' hs
    have hx₁ : (hp.push { cls := .type "dict", data := .dict #[] }).get? x = some { cls := .ref C, data := .fields fv } := Heap.get?_push_of_some _ hx
    refine hq h' tk' hp.objs.size (fun b o hb ho => ?_) (Nat.le_refl _) hxs.symm ?_ hn'
    · exact (hs.2 b (Nat.ne_of_lt (Heap.lt_size ho))).trans ((Heap.get?_update_ne _ _ _ _ hb).trans (Heap.get?_push_of_some _ ho))
    · exact (hs.2 x hxs).trans (Heap.get?_update_self _ hx₁ rfl)
end
/-- what the written part says of such a class -/
structure XC (K : PySem.W.Frag) (C : Addr) (newId : String) (bmB : List Value) : Prop where
  cls : ∃ nm q N bs sn sub ab col dd k0 k1 k2 k3 k5, K.lookup C = some (excClassObj nm q C N bs bmB true sn sub ab col dd k0 k1 k2 k3 k5 newId)
  sa : PySem.W.findIn K (.ref C) "__setattr__" = some (some (.builtin "object.__setattr__"))
  exC : PySem.W.subIn K (.ref C) (.type "BaseException") = some true
  tyC : PySem.W.typeIn K (.ref C) = some (.type "type")
  kC : PySem.W.keepIn K (.ref C) = true
section
variable {X : Cx} {pins : List (Addr × Obj)} {σ : L2.St} {H : Hp} {s : Shared} {a C dx : Addr} {f : Str} {y : V} {u : Value} {B newId initId : String} {bmB : List Value} {Q : Unit → Shared → Prop} {E : Value → Shared → Prop} {A : Around}
theorem fld_new (b : XB B newId initId bmB) (T : XC X.K C newId bmB) (I : Inv X pins σ H s) (e : H a = some (exo a C none)) (hno : PySem.W.findIn X.K (.ref C) f = some none) (ry : RelV y u)
    (h : ∀ dx s', H dx = none → dx ≠ a → Inv X pins σ (upd (upd H dx (exd dx [(f, y)])) a (exo a C (some dx))) s' → Q () s') : wpAny (model X.prog X.w) A (setAttr (.ref a) f u) Q E s := by
  obtain ⟨nm, q, N, bs, sn, sub, ab, col, dd, k0, k1, k2, k3, k5, hC⟩ := T.cls
  have hcl : PySem.W.clsIn X.K C = some { name := nm, bases := bs, mro := .ref C :: bmB, ns := N, qualname := q, hasDict := true, slotNames := sn, subclasses := sub, abstract := ab, collection := col, hasDel := false } := by unfold PySem.W.clsIn; rw [hC] <;> rfl
  obtain ⟨t1, ho⟩ := exo_at I.hok e
  obtain ⟨hp, g, d, t, os⟩ := s
  refine PySem.W.set_plain I.kIn (ox := { cls := .ref C, dict := none, data := .fields #[.ref t1, .none, .none, .none, .bool false, .none] }) (od := none) ⟨ho, rfl, rfl, trivial⟩ T.sa ?_
  refine osa_first b I.kIn ho hcl rfl rfl hno (fun h' tk' dx k dn dne hx hn => ?_)
  have hnd : H dx = none := I.hok.fresh dn
  have nd : ∀ {b : Addr} {o : Obj}, hp.get? b = some o → b ≠ dx := fun {b o} q => Nat.ne_of_lt (Nat.lt_of_lt_of_le (Heap.lt_size q) dn)
  have na : ∀ {b : Addr}, H b = none → b ≠ a := fun {b} n z => by
    rw [z, e] at n
    cases n
  have Un1 : Un X.fs [] H (upd (upd H dx (exd dx [(f, y)])) a (exo a C (some dx))) hp h' := {
    keep := fun b o q n _ _ => k b o (na n) q
    slot := fun b o q n _ _ => ⟨o.slots, k b o (na n) q⟩
    free := fun b o q n _ => by rw [upd_ne (na n), upd_ne (nd q)]; exact n
    there := fun b o q _ => by
      by_cases hb : b = a
      · exact ⟨_, by rw [hb]; exact hx⟩
      · exact ⟨o, k b o hb q⟩
    tups := fun b xs q => by rw [upd_ne (at_ne e q exo_tup), upd_ne (ne_of_none q hnd)]; exact q
    frzs := fun b o v q => by rw [upd_ne (at_ne e q exo_frz), upd_ne (ne_of_none q hnd)]; exact q
    tbls := fun b ps q => ⟨#[], by rw [upd_ne (at_ne e q exo_tbl), upd_ne (ne_of_none q hnd), q]; simp⟩ }
  refine h dx _ hnd dne (I.un (t' := tk') Un1 fun b o q => ?_)
  by_cases hb : b = a
  · subst hb
    rw [upd_same] at q
    cases q
    exact exo_ok hx
  · rw [upd_ne hb] at q
    by_cases hd : b = dx
    · subst hd
      rw [upd_same] at q
      cases q
      exact exd_ok hn (relO_put (fs := []) ry fun g => True.intro)
    · rw [upd_ne hd] at q
      exact (I.hok b o q).stay (fun c v hc z => k c v (by
          rcases hc with hc | hc
          · rw [hc]
            exact hb
          · exact at_ne e hc exo_own) z)
        (fun c hc => by rw [upd_ne (at_ne e hc exo_own), upd_ne (ne_of_none hc hnd)]; exact hc) (fun c xs hc => by rw [upd_ne (at_ne e hc exo_tup), upd_ne (ne_of_none hc hnd)]; exact hc)
end
/-! ### the two forms of __init__ -/
def spI1 (K : PySem.W.Frag) (C : Addr) (f : Str) : Sp := fun vs H Q _ => ∃ a y, vs = [.ref a, y] ∧ H a = some (exo a C none) ∧ ∀ dx, H dx = none → dx ≠ a → Q .non (upd (upd H dx (exd dx [(f, y)])) a (exo a C (some dx)))
def spI0 (C : Addr) : Sp := fun vs H Q _ => ∃ a, vs = [.ref a] ∧ H a = some (exo a C none) ∧ Q .non H
def tFld (C : Addr) (f : Str) (to te : TE) : TS := fun D σ H => te σ H fun y H1 => to σ H1 fun x H2 => ∃ a : Addr, x = .ref a ∧ H2 a = some (exo a C none) ∧ ∀ dx, H2 dx = none → dx ≠ a → D.nx σ (upd (upd H2 dx (exd dx [(f, y)])) a (exo a C (some dx)))
theorem ps_fld {X : Cx} {o e : Expr} {to te : TE} {f : Str} {C : Addr} {p' pos : Pos} {B newId initId : String} {bmB : List Value} (b : XB B newId initId bmB) (T : XC X.K C newId bmB) (hno : PySem.W.findIn X.K (.ref C) f = some none) (ho : PE X o to) (he : PE X e te) (hs : swapsWith e (some (.Attribute o f p')) pos.line X.env = pure false := by rfl) : PS X (.Assign [.Attribute o f p'] e pos) (tFld C f to te) := by
  refine ⟨fun pins s σ H D I h => ?_⟩
  refine plainObj_wpAny_Assign_Attribute (thn (he.run pins s σ H _ I h) fun v s1 ⟨y, H1, I1, r1, q1⟩ => thn (ho.run pins s1 σ H1 _ I1 q1) fun u s2 ⟨x, H2, I2, r2, a, ex, ea, q⟩ => ?_) hs
  subst ex
  obtain rfl : u = Value.ref a := r2
  exact fld_new b T I2 ea hno r1 fun dx s' n ne J => ⟨σ, _, J, q dx n ne⟩

section
variable {P : Program} {w : World} {K : PySem.W.Frag} {mg : Str → Option Value} {base : Heap} {x qual : Str} {params : Arguments} {scope : Scope} {fI C : Addr} {fd : FuncData} {f : Str} {B newId initId : String} {bmB : List Value}
/-- def __init__(self, f): self.f = f -/
theorem ok_init1 {p1 p2 p3 p4 : Pos} (F : FunD K x qual params [.Assign [.Attribute (.Name "self" p1) f p2] (.Name f p3) p4] scope [] [] fI fd) (S : FnScope ["self", f] ["self", f] scope) (b : XB B newId initId bmB) (T : XC K C newId bmB) (hno : PySem.W.findIn K (.ref C) f = some none)
    (h1 : scope.names.lookup ("self" : Str) = some .local) (h2 : scope.names.lookup f = some .local) (hd : (f == ("__debug__" : Str)) = false) (hcd : (f == ("__classdict__" : Str)) = false)
    (hs : ∀ env : PySem.Env, swapsWith (.Name f p3) (some (.Attribute (.Name "self" p1) f p2)) p4.line env = pure false) : FnOk P w K mg base CX0 1 fI fd ["self", f] (spI1 K C f) := by
  refine F.ok S (fun vs H Q E h => ?_) (fun cdv A outer s H vs Q E hr h => ?_)
  · obtain ⟨a, y, rfl, _⟩ := h
    rfl
  · obtain ⟨a, y, rfl, ea, q⟩ := h
    refine ⟨_, pss_one (ps_fld (f := f) b T hno (pv 0 rfl (.inl h1)) (pv 1 rfl (.inl h2) hd hcd) (hs _)), y, rfl, .ref a, rfl, a, rfl, ea, q⟩
/-- def __init__(self): pass -/
theorem ok_init0 {p1 : Pos} (F : FunD K x qual params [.Pass p1] scope [] [] fI fd) (S : FnScope ["self"] ["self"] scope) : FnOk P w K mg base CX0 1 fI fd ["self"] (spI0 C) := by
  refine F.ok S (fun vs H Q E h => ?_) (fun cdv A outer s H vs Q E hr h => ?_)
  · obtain ⟨a, rfl, _⟩ := h
    rfl
  · obtain ⟨a, rfl, ea, q⟩ := h
    exact ⟨_, pss_one ps_pass, q⟩
end
section
variable {X : Cx} {x : Str} {C fI : Addr} {fd : FuncData} {f : Str} {p pos : Pos} {e : Expr} {ta : TE} {B newId initId : String} {bmB : List Value} {ps : List Str}
theorem rd1 {H1 : Hp} {a d : Addr} {y : V} (ha : H1 a = none) (hd : d ≠ a) : upd (del (upd (upd (upd H1 a (exo a C none)) d (exd d [(f, y)])) a (exo a C (some d))) a) d (.xd [(f, y)]) = upd H1 d (.xd [(f, y)]) := by
  funext b
  by_cases hb : b = d
  · rw [hb, upd_same, upd_same]
  · rw [upd_ne hb, upd_ne hb]
    by_cases hba : b = a
    · rw [hba, del_same, ha]
    · rw [del_ne hba, upd_ne hba, upd_ne hb, upd_ne hba]
/-- C(e) -/
theorem pmk_1 (b : XB B newId initId bmB) (T : XC X.K C newId bmB) (iC : PySem.W.findIn X.K (.ref C) "__init__" = some (some (.ref fI))) (tI : PySem.W.typeIn X.K (.ref fI) = some (.type "function"))
    (F1 : FnOk X.prog X.w X.K X.mg X.base CX0 1 fI fd ["self", f] (spI1 X.K C f)) (hr : Room 2 X.A) (hb : Binds X.K fd ["self", f] []) (hg : Gl X x) (hm : X.mg x = some (.ref C)) (ha : PE X e ta) (mono : ∀ σ H Q Q', ta σ H Q → (∀ v H', Q v H' → Q' v H') → ta σ H Q')
    (hdb : (x == ("__debug__" : Str)) = false := by decide) (he : starEach [e] X.env = (false, eval e X.env) :: starEach [] X.env := by rfl) :
    PMk X (.Call (.Name x p) [e] [] pos) (fun σ H Q => ta σ H fun y H1 => ∀ d, H1 d = none → Q (.ref C) (some d) (upd H1 d (.xd [(f, y)]))) := by
  intro pins s σ H Q I h
  obtain ⟨nm, q, N, bs, sn, sub, ab, col, dd, k0, k1, k2, k3, k5, hC⟩ := T.cls
  refine wpAny_Call_Name_kw (ld_glob I hg hm ?_ hdb)
  have h' : tCons ta tNil σ H (fun vs H1 => ∃ y, vs = [y] ∧ ∀ d, H1 d = none → Q (.ref C) (some d) (upd H1 d (.xd [(f, y)]))) := mono _ _ _ _ h fun y H1 q => ⟨y, rfl, q⟩
  refine PySem.W.callWith_K (h₀ := X.base) I.ok.mod.kin T.kC (thn ((pa_cons ha pa_nil he).run pos pins s σ H _ I h') fun us s1 ⟨vs, H1, I1, r1, y, ev, q1⟩ => ⟨I1.kIn, ?_⟩) he (by rfl)
  subst ev
  show wpAny _ _ (call (.ref C) us) _ _ _
  obtain ⟨hp, g, dr, tk, os⟩ := s1
  have hsz : hp.objs.size ≤ hp.objs.size + 1 := Nat.le_succ _
  have hn : H1 (hp.objs.size + 1) = none := I1.hok.fresh hsz
  have kk : ∀ b o, hp.get? b = some o → ((hp.push (PySem.W.kdv_tup us)).push (PySem.HandSPX.excO C hp.objs.size)).get? b = some o := fun b o e => Heap.get?_push_of_some _ (Heap.get?_push_of_some _ e)
  have hget : ((hp.push (PySem.W.kdv_tup us)).push (PySem.HandSPX.excO C hp.objs.size)).get? (hp.objs.size + 1) = some (PySem.HandSPX.excO C hp.objs.size) := by heap_get
  have I2 : Inv X pins σ (upd H1 (hp.objs.size + 1) (exo (hp.objs.size + 1) C none)) ⟨(hp.push (PySem.W.kdv_tup us)).push (PySem.HandSPX.excO C hp.objs.size), g, dr, tk, os⟩ :=
    I1.laid (t' := tk) (a := hp.objs.size + 1) (o := exo (hp.objs.size + 1) C none) (h' := (hp.push (PySem.W.kdv_tup us)).push (PySem.HandSPX.excO C hp.objs.size)) kk hsz (exo_ok hget)
  have r2 : Vals [V.ref (hp.objs.size + 1), y] (Value.ref (hp.objs.size + 1) :: us) := .cons rfl r1
  have hl : (Value.ref (hp.objs.size + 1) :: us ++ []).length = 2 := by
    rw [List.append_nil]
    exact r2.length.symm
  have hus : us.length ≤ sizeLine := by
    rw [← Paired.length r1, sizeLine_eq]
    exact (by decide : (1 : Nat) ≤ 16777216)
  have hsp : spI1 X.K C f [V.ref (hp.objs.size + 1), y] (upd H1 (hp.objs.size + 1) (exo (hp.objs.size + 1) C none)) (fun v H2 => v = .non ∧ ∃ d, H1 d = none ∧ d ≠ hp.objs.size + 1 ∧ H2 = upd (upd (upd H1 (hp.objs.size + 1) (exo (hp.objs.size + 1) C none)) d (exd d [(f, y)])) (hp.objs.size + 1) (exo (hp.objs.size + 1) C (some d))) (fun _ _ _ => False) :=
    ⟨_, y, rfl, upd_same, fun dx h1 h2 => ⟨rfl, dx, by rw [upd_ne h2] at h1; exact h1, h2, rfl⟩⟩
  have hbs := hb ⟨(hp.push (PySem.W.kdv_tup us)).push (PySem.HandSPX.excO C hp.objs.size), g, dr, tk, os⟩ (Value.ref (hp.objs.size + 1) :: us) I2.kIn hl
  rw [List.append_nil] at hbs
  refine wpAny_call (PySem.HandSPX.call_own b.F (fun Y => rfl) (I1.kIn _ _ hC) (PySem.W.looks_findIn I1.kIn iC) (fun self => PySem.W.bind_fn I1.kIn self tI) hus
    (codeAny_mono (F1.run _ X.stack _ _ ⟨Value.ref (hp.objs.size + 1) :: us, []⟩ (Value.ref (hp.objs.size + 1) :: us) _ _ (fun _ _ _ => False) (hr.make C us []) (I2.env0.make C us []) hbs r2 hsp) fun r s' hq' => ?_))
  cases r with
  | error er => exact False.elim hq'
  | ok fl =>
    cases fl with
    | ret u =>
      obtain ⟨v, H2, os2, bare2, un2, hok2, rv, ev, d, hd1, hda, eH⟩ := hq'
      subst ev
      subst eH
      obtain ⟨h2, g2, d2, t2, os'⟩ := s'
      refine ⟨rv, mk_end (fs := [(f, y)]) (raises_own T.exC T.tyC) I1 hsz kk un2 hok2 os2 bare2 upd_same (by rw [upd_ne hda, upd_same]) hd1 ?_⟩
      rw [rd1 hn hda]
      exact q1 d hd1
    | next => exact False.elim hq'
    | brk => exact False.elim hq'
    | cont => exact False.elim hq'

theorem mk_bare {pins : List (Addr × Obj)} {σ : L2.St} {H1 : Hp} {Q : XK} {hp hp2 h2 : Heap} {g1 g2 : Array GenState} {d1 d2 : Drawn} {t1 t2 : Nat} {os1 os2 : OsState} {a : Addr} (T : Raises X (.ref C)) (I1 : Inv X pins σ H1 ⟨hp, g1, d1, t1, os1⟩)
    (ha : hp.objs.size ≤ a) (k : ∀ b o, hp.get? b = some o → hp2.get? b = some o) (un : Un (frs X.stack) [] (upd H1 a (exo a C none)) (upd H1 a (exo a C none)) hp2 h2) (hok : HOk X.prog X.w (upd H1 a (exo a C none)) h2) (ho : os2 = os1) (hb : AllBare g2)
    (q : Q (.ref C) none H1) : MkP X pins σ Q (.ref a) ⟨h2, g2, d2, t2, os2⟩ := by
  obtain ⟨t0, hoe⟩ := exo_at hok (upd_same (H := H1) (a := a))
  have hn : H1 a = none := I1.hok.fresh ha
  obtain ⟨G, g1', g2'⟩ := restrict h2 fun b => decide (b ≠ a)
  have gk : ∀ b, b ≠ a → G.get? b = h2.get? b := fun b hb => g1' b (decide_eq_true hb)
  have ge : G.get? a = none := g2' a (by simp)
  have nha : ∀ {b : Addr} {o : Obj}, hp.get? b = some o → b ≠ a := fun {b o} z => Nat.ne_of_lt (Nat.lt_of_lt_of_le (Heap.lt_size z) ha)
  have up : ∀ {b : Addr}, b ≠ a → H1 b = none → upd H1 a (exo a C none) b = none := fun {b} hb n => by rw [upd_ne hb]; exact n
  have at_ : ∀ {b : Addr} {o : HO}, H1 b = some o → upd H1 a (exo a C none) b = some o := fun {b o} z => by rw [upd_ne (ne_of_none z hn)]; exact z
  have back : ∀ {b : Addr} {o : HO}, b ≠ a → upd H1 a (exo a C none) b = o → H1 b = o := fun {b o} hb z => by rw [upd_ne hb] at z; exact z
  have U : Un (frs X.stack) [] H1 H1 hp G := {
    keep := fun b o z n hf hx => by
      rw [gk b (nha z)]
      exact un.keep b o (k b o z) (up (nha z) n) hf hx
    slot := fun b o z n hf hx => by
      rw [gk b (nha z)]
      exact un.slot b o (k b o z) (up (nha z) n) hf hx
    free := fun b o z n hx => n
    there := fun b o z hx => by
      rw [gk b (nha z)]
      exact un.there b o (k b o z) hx
    tups := fun b xs z => z
    frzs := fun b o v z => z
    tbls := fun b ps z => ⟨#[], by rw [z]; simp⟩ }
  have hok3 : HOk X.prog X.w H1 G := fun b o z => by
    have hba : b ≠ a := ne_of_none z hn
    have noa : ∀ {c : Addr}, upd H1 a (exo a C none) c = some (.own b) → c ≠ a := fun {c} hc => at_ne upd_same hc exo_own
    exact (hok b o (at_ z)).stay (fun c v hc y => by
        have hca : c ≠ a := by
          rcases hc with hc | hc
          · rw [hc]
            exact hba
          · exact noa hc
        rw [gk c hca]
        exact y)
      (fun c hc => back (noa hc) hc) (fun c xs hc => back (at_ne upd_same hc exo_tup) hc)
  have J : Inv X pins σ H1 ⟨G, g2, d2, t2, os2⟩ := I1.call' (ch := []) ho U hok3 hb (fun b z => absurd z (by simp))
  refine ⟨a, _, _, ⟨G, g2, d2, t2, os2⟩, _, .ref C, none, rfl, J, fun b o z => ?_, ge, hoe, ⟨rfl, rfl⟩, rfl, rfl, hn, rfl, hb, T, q⟩
  by_cases hba : b = a
  · rw [hba, ge] at z
    cases z
  · exact (gk b hba).symm.trans z
/-- C() -/
theorem pmk_0 (b : XB B newId initId bmB) (T : XC X.K C newId bmB) (iC : PySem.W.findIn X.K (.ref C) "__init__" = some (some (.ref fI))) (tI : PySem.W.typeIn X.K (.ref fI) = some (.type "function"))
    (F1 : FnOk X.prog X.w X.K X.mg X.base CX0 1 fI fd ["self"] (spI0 C)) (hr : Room 2 X.A) (hb : Binds X.K fd ["self"] []) (hg : Gl X x) (hm : X.mg x = some (.ref C)) (hdb : (x == ("__debug__" : Str)) = false := by decide) :
    PMk X (.Call (.Name x p) [] [] pos) (fun σ H Q => Q (.ref C) none H) := by
  intro pins s σ H Q I h
  obtain ⟨nm, q, N, bs, sn, sub, ab, col, dd, k0, k1, k2, k3, k5, hC⟩ := T.cls
  refine wpAny_Call_Name_kw (ld_glob I hg hm ?_ hdb)
  refine PySem.W.callWith_K0 I.kIn T.kC ?_
  show wpAny _ _ (call (.ref C) []) _ _ _
  obtain ⟨hp, g, dr, tk, os⟩ := s
  have hsz : hp.objs.size ≤ hp.objs.size + 1 := Nat.le_succ _
  have kk : ∀ b o, hp.get? b = some o → ((hp.push (PySem.W.kdv_tup [])).push (PySem.HandSPX.excO C hp.objs.size)).get? b = some o := fun b o e => Heap.get?_push_of_some _ (Heap.get?_push_of_some _ e)
  have hget : ((hp.push (PySem.W.kdv_tup [])).push (PySem.HandSPX.excO C hp.objs.size)).get? (hp.objs.size + 1) = some (PySem.HandSPX.excO C hp.objs.size) := by heap_get
  have I2 : Inv X pins σ (upd H (hp.objs.size + 1) (exo (hp.objs.size + 1) C none)) ⟨(hp.push (PySem.W.kdv_tup [])).push (PySem.HandSPX.excO C hp.objs.size), g, dr, tk, os⟩ :=
    I.laid (t' := tk) (a := hp.objs.size + 1) (o := exo (hp.objs.size + 1) C none) (h' := (hp.push (PySem.W.kdv_tup [])).push (PySem.HandSPX.excO C hp.objs.size)) kk hsz (exo_ok hget)
  have r2 : Vals [V.ref (hp.objs.size + 1)] [Value.ref (hp.objs.size + 1)] := .cons rfl .nil
  have hsp : spI0 C [V.ref (hp.objs.size + 1)] (upd H (hp.objs.size + 1) (exo (hp.objs.size + 1) C none)) (fun v H2 => v = .non ∧ H2 = upd H (hp.objs.size + 1) (exo (hp.objs.size + 1) C none)) (fun _ _ _ => False) := ⟨_, rfl, upd_same, rfl, rfl⟩
  have hbs := hb ⟨(hp.push (PySem.W.kdv_tup [])).push (PySem.HandSPX.excO C hp.objs.size), g, dr, tk, os⟩ [Value.ref (hp.objs.size + 1)] I2.kIn rfl
  rw [List.append_nil] at hbs
  refine wpAny_call (PySem.HandSPX.call_own b.F (fun Y => rfl) (I.kIn _ _ hC) (PySem.W.looks_findIn I.kIn iC) (fun self => PySem.W.bind_fn I.kIn self tI) (Nat.zero_le _)
    (codeAny_mono (F1.run _ X.stack _ _ ⟨[Value.ref (hp.objs.size + 1)], []⟩ [Value.ref (hp.objs.size + 1)] _ _ (fun _ _ _ => False) (hr.make C [] []) (I2.env0.make C [] []) hbs r2 hsp) fun r s' hq' => ?_))
  cases r with
  | error er => exact False.elim hq'
  | ok fl =>
    cases fl with
    | ret u =>
      obtain ⟨v, H2, os2, bare2, un2, hok2, rv, ev, eH⟩ := hq'
      subst ev
      subst eH
      obtain ⟨h2, g2, d2, t2, os'⟩ := s'
      exact ⟨rv, mk_bare (raises_own T.exC T.tyC) I hsz kk un2 hok2 os2 bare2 h⟩
    | next => exact False.elim hq'
    | brk => exact False.elim hq'
    | cont => exact False.elim hq'
end
end Dn
end

section
set_option Elab.async false
set_option linter.all false
set_option maxRecDepth 100000
set_option maxHeartbeats 2000000
/-! raise; try with several except clauses, with or without a name -/
namespace Dn
open PySem PySem.Spec PyProof.Rows L2

/-- behind a suite the name is gone -/
def Ends.un (D : Ends) (i : Nat) : Ends := { nx := fun σ' H' => D.nx (σ'.set i none) H', rt := D.rt, bk := fun σ' H' => D.bk (σ'.set i none) H', ct := fun σ' H' => D.ct (σ'.set i none) H' }
abbrev HdT := Value × Option Nat × (Addr → Value → Option Addr → TS)
def wTry (K : PySem.W.Frag) (Wout : WX) (D : Ends) : List HdT → WX
  | [] => Wout
  | (c, o, ts) :: r => fun cls d σ H => ∃ b, PySem.W.exmOne K cls c = some b ∧ (b = true → ∀ a, H a = none → match o with
      | none => ts a cls d D σ H
      | some i => i < σ.length → ts a cls d (Ends.un D i) (σ.set i (some (.ref a))) H) ∧ (b = false → wTry K Wout D r cls d σ H)
inductive HdN (X : Cx) : List ExceptHandler → List HdT → Prop
  | nil : HdN X [] []
  | cons {x : Str} {c : Value} {ts : Addr → Value → Option Addr → TS} {b₀ : Stmt} {suite : List Stmt} {np pos' : Pos} {hds : List ExceptHandler} {l : List HdT} (hc : Names X x c)
      (hsu : ∀ (a : Addr) (oe : Obj) (cls : Value) (d : Option Addr) (pn : List (Addr × Obj)), Zc cls d oe → (∃ vs, oe.data = .fields vs) → PSs (X.suite a ((a, oe) :: pn)) (b₀ :: suite) (ts a cls d)) (r : HdN X hds l) :
      HdN X (.ExceptHandler (some (.Name x np)) none (b₀ :: suite) pos' :: hds) ((c, none, ts) :: l)
  | cas {x n : Str} {i : Nat} {c : Value} {ts : Addr → Value → Option Addr → TS} {b₀ : Stmt} {suite : List Stmt} {np pos' : Pos} {hds : List ExceptHandler} {l : List HdT} (hi : X.N[i]? = some n) (hln : X.env.kindOf n = some .local) (hc : Names X x c)
      (hsu : ∀ (a : Addr) (oe : Obj) (cls : Value) (d : Option Addr) (pn : List (Addr × Obj)), Zc cls d oe → (∃ vs, oe.data = .fields vs) → PSs (X.suite a ((a, oe) :: pn)) (b₀ :: suite) (ts a cls d)) (r : HdN X hds l) :
      HdN X (.ExceptHandler (some (.Name x np)) (some n) (b₀ :: suite) pos' :: hds) ((c, some i, ts) :: l)
section
variable {X : Cx} {body : List Stmt} {h₀ : ExceptHandler} {hds : List ExceptHandler} {l : List HdT} {pos : Pos} {tb : WX → TS} {Wout : WX}
theorem ps_tryN (hs : X.stack = X.env :: X.outer) (hf : X.env.frame = some X.env.locals) (hN : X.N.Nodup) (tk : Takes X Wout)
    (hb : ∀ (W : WX) (pn : List (Addr × Obj)) (xe : Value → Shared → Prop), Takes (X.tr pn xe) W → PassesOwn (model X.prog X.w) X.A X.env xe → PSs (X.tr pn xe) body (tb W))
    (hh : HdN X (h₀ :: hds) l) : PS X (.Try body (h₀ :: hds) [] [] pos) (fun D σ H => tb (wTry X.K Wout D l) D σ H) := by
  refine ⟨fun pins s σ H D I h => ?_⟩
  have ok := I.ok
  have hfr : X.A.frames = some (X.env :: X.outer) := by rw [ok.frames, hs]
  refine wpAny_Try_except ?_
  refine wpAny_mono ((hb (wTry X.K Wout D l) (X.pn ++ pins) (fun e s₁ => wpAny (model X.prog X.w) X.A (noteFrame e X.env) (fun _ s₂ => wpAny (model X.prog X.w) X.A (setFlight e none) (fun _ s₃ =>
    wpAny (model X.prog X.w) X.A (handleBy e X.env (h₀ :: hds)) (SP X pins D) X.xe s₃) X.xe s₂) X.xe s₁) (fun u s' xx => ?_) PassesOwn.looking).run [] s σ H D (I.toTry _) h) (fun f s1 hsp => ?_) (fun e s1 he => he)
  · obtain ⟨a, B, sI, pins', σ', H', cls, d, rfl, J', nb, up, sky, na, os, ag, w⟩ := xx
    have J : Inv X pins σ' H' sI := J'.ofTry ok
    have sky' : Sky B (X.env :: X.outer) a (Zc cls d) X.env.locals s'.heap := by rw [← hs]; exact sky
    show wpAny (model X.prog X.w) X.A (noteFrame (.ref a) X.env) _ _ _
    refine Sky.land Zc.steady hfr hf sky' fun h3 fl3 up3 => ?_
    have J3 : Inv X pins σ' H' { s' with heap := h3 } := J.landed nb fl3.1 (up.trans up3) os ag
    obtain ⟨oe3, vs3, he3, hz3, hd3⟩ := fl3.there
    have notFr : ∀ {h : Heap} {o : Obj} {vs : Array Value}, h.FunFrames B (X.env :: X.outer) → h.get? a = some o → o.data = .fields vs → a ∉ frs (X.env :: X.outer) := fun {h o vs} ff e dd hm => by
      obtain ⟨_, o', e', hnf⟩ := ff.mem hm
      rw [e] at e'; cases e'
      exact hnf _ dd
    have nfr := notFr fl3.2.2.1 he3 hd3
    have nL : a ≠ X.env.locals := fun z => nfr (List.mem_filterMap.mpr ⟨X.env, List.mem_cons_self, by rw [hf, z]⟩)
    have nF : a ∉ X.fs := fun hm => by
      obtain ⟨e, he, q⟩ := List.mem_filterMap.mp hm
      exact nfr (List.mem_filterMap.mpr ⟨e, List.mem_cons_of_mem _ he, q⟩)
    have S3 := J3.suite he3 hd3 na nL nF
    have LT : PySem.W.Looks (model X.prog X.w) h3 (typeOf (.ref a)) cls := fun A Q E s k q => wpAny_typeOf_ref (k _ _ he3) (by rw [hz3.1]; exact q)
    have test : ∀ {x : Str} {np : Pos} {c : Value}, Names X x c → ∀ {Q : Value → Shared → Prop} {E : Value → Shared → Prop}, Q c { s' with heap := h3 } → wpAny (model X.prog X.w) (X.A.mark (some (.ref a))) (eval (.Name x np) X.env) Q E { s' with heap := h3 } := fun {x np c} hc {Q E} q => by
      obtain ⟨hg, hdbg, hm | ⟨hm, hv, hnn⟩⟩ := hc
      · exact ld_glob (X := X.suite a ((a, oe3) :: (X.pn ++ pins))) S3 hg hm q hdbg
      · exact ld_blt (X := X.suite a ((a, oe3) :: (X.pn ++ pins))) S3 hg hm hv q hnn hdbg
    have go : ∀ {hds' : List ExceptHandler} {l' : List HdT}, HdN X hds' l' → wTry X.K Wout D l' cls d σ' H' →
        wpAny (model X.prog X.w) X.A (handleBy (.ref a) X.env hds') (SP X pins D) X.xe { s' with heap := h3 } := by
      intro hds' l' hk
      induction hk with
      | nil =>
        intro w
        refine wpAny_handleBy_nil ?_
        obtain ⟨k1, k2, k3, oe, vs, T, oT, ts', he, hz, hd, h1, hr⟩ := id fl3
        unfold PySem.passOn
        refine wpAny_bind (wpAny_field he hd h1 ?_)
        rw [if_neg (show ¬ ((Value.ref T == Value.none) = true) from by simp)]
        have fin : wpAny (model X.prog X.w) X.A (setFlight (.ref a) X.env.frame) (fun _ s4 => wpAny (model X.prog X.w) X.A (throw (.ref a) : Sem Flow) (SP X pins D) X.xe s4) X.xe { s' with heap := h3 } := by
          rw [hf]
          refine PySem.HandSPX.setFlight_upZ fl3 fun h4 hh4 up4 => wpAny_throw (tk _ _ ?_)
          exact ⟨a, B, sI, pins, σ', H', cls, d, rfl, J, nb, (up.trans up3).trans up4, .inr (.inr (by rw [hs]; exact hh4)), na, os, ag, w⟩
        first
          | exact wpAny_bind (wpAny_pure (wpAny_bind fin))
          | exact wpAny_bind fin
      | @cons x c ts b₀ suite np pos' hds2 l2 hc hsu r ih =>
        intro w
        obtain ⟨b, hb1, hyes, hno⟩ := w
        refine wpAny_handleBy_cons (codeAny_handlers_test ?_) (by intro q; cases q)
        have LM := PySem.W.exm_one (M := model X.prog X.w) (J3.kIn) LT hb1
        refine test hc (LM.here ?_)
        cases b with
        | true =>
          refine codeAny_handlers_suite ?_
          refine PySem.HandSPX.lands_againZ fl3 fun h4 fl4 up4 => ?_
          have J4 : Inv X pins σ' H' { s' with heap := h4 } := J.landed nb fl4.1 ((up.trans up3).trans up4) os ag
          obtain ⟨oe4, vs4, he4, hz4, hd4⟩ := fl4.there
          have S4 := J4.suite he4 hd4 na nL nF
          refine wpAny_mono ((hsu a oe4 cls d (X.pn ++ pins) hz4 ⟨_, hd4⟩).run [] _ _ H' _ S4 (hyes rfl a na)) (fun f s6 hsp => ?_) (fun _ _ z => False.elim z)
          cases f with
          | next =>
            obtain ⟨σ6, H6, S6, q6⟩ := hsp
            exact ⟨_, _, S6.unsuite ok, q6⟩
          | brk =>
            obtain ⟨σ6, H6, S6, q6⟩ := hsp
            exact ⟨_, _, S6.unsuite ok, q6⟩
          | cont =>
            obtain ⟨σ6, H6, S6, q6⟩ := hsp
            exact ⟨_, _, S6.unsuite ok, q6⟩
          | ret u =>
            obtain ⟨v6, σ6, H6, S6, r6, q6⟩ := hsp
            exact ⟨_, _, _, S6.unsuite ok, r6, q6⟩
        | false =>
          show wpAny _ X.A (handleBy (.ref a) X.env hds2) _ _ _
          exact ih (hno rfl)
      | @cas x n i c ts b₀ suite np pos' hds2 l2 hi hln hc hsu r ih =>
        intro w
        obtain ⟨b, hb1, hyes, hno⟩ := w
        refine wpAny_handleBy_cons (codeAny_handlers_test ?_) (by intro q; cases q)
        have LM := PySem.W.exm_one (M := model X.prog X.w) (J3.kIn) LT hb1
        refine test hc (LM.here ?_)
        cases b with
        | true =>
          refine codeAny_handlers_suite_as ?_
          refine PySem.HandSPX.lands_againZ fl3 fun h4 fl4 up4 => ?_
          have J4 : Inv X pins σ' H' { s' with heap := h4 } := J.landed nb fl4.1 ((up.trans up3).trans up4) os ag
          obtain ⟨oe4, vs4, he4, hz4, hd4⟩ := fl4.there
          have S4 := J4.suite he4 hd4 na nL nF
          refine store_ok (X := X.suite a ((a, oe4) :: (X.pn ++ pins))) (v := .ref a) S4 hN hi (.inl hln) rfl (fun s5 S5 => ?_) (.inr hln)
          refine wpAny_mono ((hsu a oe4 cls d (X.pn ++ pins) hz4 ⟨_, hd4⟩).run [] s5 _ H' _ S5 (hyes rfl a na (by rw [J4.len]; exact (List.getElem?_eq_some_iff.mp hi).1))) (fun f s6 hsp => ?_) (fun _ _ z => False.elim z)
          have end_ : ∀ {σ6 : L2.St} {H6 : Hp} {Q : Shared → Prop}, Inv (X.suite a ((a, oe4) :: (X.pn ++ pins))) [] σ6 H6 s6 → (∀ s7, Inv X pins (σ6.set i none) H6 s7 → Q s7) →
              wpAny (model X.prog X.w) X.A (do bindName X.env n .none; unbindBehindTheSuite X.env n pos') (fun _ s7 => Q s7) X.xe s6 := fun {σ6 H6 Q} S6 hq => gone_ok (S6.unsuite ok) hN hi hln hq
          cases f with
          | next =>
            obtain ⟨σ6, H6, S6, q6⟩ := hsp
            exact end_ S6 fun s7 J7 => ⟨_, _, J7, q6⟩
          | brk =>
            obtain ⟨σ6, H6, S6, q6⟩ := hsp
            exact end_ S6 fun s7 J7 => ⟨_, _, J7, q6⟩
          | cont =>
            obtain ⟨σ6, H6, S6, q6⟩ := hsp
            exact end_ S6 fun s7 J7 => ⟨_, _, J7, q6⟩
          | ret u =>
            obtain ⟨v6, σ6, H6, S6, r6, q6⟩ := hsp
            exact end_ S6 fun s7 J7 => ⟨_, _, _, J7, r6, q6⟩
        | false =>
          show wpAny _ X.A (handleBy (.ref a) X.env hds2) _ _ _
          exact ih (hno rfl)
    exact go hh w
  · cases f with
    | next =>
      obtain ⟨σ', H', J', q⟩ := hsp
      exact wpAny_execs_nil ⟨σ', H', J'.ofTry ok, q⟩
    | brk =>
      obtain ⟨σ', H', J', q⟩ := hsp
      exact ⟨σ', H', J'.ofTry ok, q⟩
    | cont =>
      obtain ⟨σ', H', J', q⟩ := hsp
      exact ⟨σ', H', J'.ofTry ok, q⟩
    | ret u =>
      obtain ⟨v, σ', H', J', r, q⟩ := hsp
      exact ⟨v, σ', H', J'.ofTry ok, r, q⟩
end
end Dn
end

section
set_option Elab.async false
set_option linter.all false
set_option maxRecDepth 100000
set_option maxHeartbeats 2000000
/-! the denotations of raise and try -/
namespace Dn
open PySem PySem.Spec PyProof.Rows L2

/-! ### raise -/
def sRz0 (c : Nat) : Env → Sto → Sr := fun env st => .ex ⟨c, none⟩ env st
def sRz1 (c : Nat) (m : Env → Sto → Rs D) : Env → Sto → Sr := fun env st => (m env st).thn env fun d st1 => .ex ⟨c, some d⟩ env st1
section
variable {X : Cx} {W : WX} {ce : Nat → Option Addr} {fe : Nat → Str} {tb : List Addr} {x : Str} {C fI : Addr} {fd : FuncData} {p pos rpos : Pos} {e : Expr} {m : Env → Sto → Rs D} {B newId initId : String} {bmB : List Value} {c : Nat}
theorem ds_rz0 (hc : X.calm = true) (tk : Takes X W) (hce : ce c = some C) (b : XB B newId initId bmB) (T : XC X.K C newId bmB) (iC : PySem.W.findIn X.K (.ref C) "__init__" = some (some (.ref fI))) (tI : PySem.W.typeIn X.K (.ref fI) = some (.type "function"))
    (F1 : FnOk X.prog X.w X.K X.mg X.base CX0 1 fI fd ["self"] (spI0 C)) (hr : Room 2 X.A) (hb : Binds X.K fd ["self"] []) (hg : Gl X x) (hm : X.mg x = some (.ref C)) (hdb : (x == ("__debug__" : Str)) = false := by decide) :
    PS X (.Raise (some (.Call (.Name x p) [] [] pos)) none rpos) (tS (gx X ce fe tb) W (sRz0 c)) :=
  imS (ps_raise hc tk (pmk_0 b T iC tI F1 hr hb hg hm hdb)) fun De σ H ⟨π, env, st, E, S, h⟩ => h π H σ (.ref C) none Ext.refl E S ⟨C, hce, rfl, rfl⟩
theorem ds_rz1 (hc : X.calm = true) (tk : Takes X W) (hce : ce c = some C) (b : XB B newId initId bmB) (T : XC X.K C newId bmB) (iC : PySem.W.findIn X.K (.ref C) "__init__" = some (some (.ref fI))) (tI : PySem.W.typeIn X.K (.ref fI) = some (.type "function"))
    (F1 : FnOk X.prog X.w X.K X.mg X.base CX0 1 fI fd ["self", fe c] (spI1 X.K C (fe c))) (hr : Room 2 X.A) (hb : Binds X.K fd ["self", fe c] []) (hg : Gl X x) (hm : X.mg x = some (.ref C)) (ha : PE X e (tE (gx X ce fe tb) W m)) (hdb : (x == ("__debug__" : Str)) = false := by decide)
    (he : starEach [e] X.env = (false, eval e X.env) :: starEach [] X.env := by rfl) :
    PS X (.Raise (some (.Call (.Name x p) [e] [] pos)) none rpos) (tS (gx X ce fe tb) W (sRz1 c m)) := by
  refine imS (ps_raise hc tk (pmk_1 b T iC tI F1 hr hb hg hm ha (fun σ H Q Q' h q => tG.imp h q) hdb he)) fun De σ H ⟨π, env, st, E, S, h⟩ => ?_
  refine bindS E S h fun π1 H1 y d st1 e1 E1 S1 r1 h1 => fun dx hdx => ?_
  exact h1 π1 _ σ (.ref C) (some dx) (ext_new hdx) (E1.ext (ext_new hdx).toKp) (S1.new hdx) ⟨C, hce, rfl, dx, y, rfl, upd_same, r1.ext (ext_new hdx).toKp⟩
end

/-! ### try -/
structure Hd where
  c : Nat
  i : Option Nat
  m : Ex → Env → Sto → Sr
/-- behind the suite: the name is gone -/
def Sr.un (r : Sr) (i : Option Nat) : Sr := match i with
  | none => r
  | some i => match r with
    | .nx env st => .nx (env.set i none) st
    | .bk env st => .bk (env.set i none) st
    | .ct env st => .ct (env.set i none) st
    | r => r
def hdRun : List Hd → Ex → Env → Sto → Sr
  | [], x, env, st => .ex x env st
  | h :: hs, x, env, st => if x.c = h.c then (h.m x (match h.i with
      | none => env
      | some i => env.set i none) st).un h.i else hdRun hs x env st
def sTry (b : Env → Sto → Sr) (hs : List Hd) : Env → Sto → Sr := fun env st => match b env st with
  | .ex x env' st' => hdRun hs x env' st'
  | r => r
/-- a suite's reading: x the exception at a -/
def tSX (Γ : Gm) (h : Hd) (a : Addr) (cls : Value) (dx : Option Addr) : TS := fun D σ H => ∃ π env st x, EnvR Γ π H σ env ∧ StR Γ π H st ∧ x.c = h.c ∧ RepX Γ π H cls dx x ∧ (∀ i, h.i = some i → σ[i]? = some (some (.ref a))) ∧ OutS Γ W0 π H (h.m x env st) D
/-- each class is told from each -/
def Tells (Γ : Gm) : Prop := ∀ i j Ci Cj, Γ.ce i = some Ci → Γ.ce j = some Cj → PySem.W.exmOne Γ.K (.ref Ci) (.ref Cj) = some (decide (i = j))
inductive HdD (X : Cx) (Γ : Gm) : List ExceptHandler → List Hd → Prop
  | nil : HdD X Γ [] []
  | cons {x : Str} {C : Addr} {h : Hd} {b₀ : Stmt} {suite : List Stmt} {np pos' : Pos} {hds : List ExceptHandler} {l : List Hd} (hc : Names X x (.ref C)) (hce : Γ.ce h.c = some C) (hn : h.i = none)
      (hsu : ∀ (a : Addr) (oe : Obj) (cls : Value) (d : Option Addr) (pn : List (Addr × Obj)), Zc cls d oe → (∃ vs, oe.data = .fields vs) → PSs (X.suite a ((a, oe) :: pn)) (b₀ :: suite) (tSX Γ h a cls d)) (r : HdD X Γ hds l) :
      HdD X Γ (.ExceptHandler (some (.Name x np)) none (b₀ :: suite) pos' :: hds) (h :: l)
  | cas {x n : Str} {i : Nat} {C : Addr} {h : Hd} {b₀ : Stmt} {suite : List Stmt} {np pos' : Pos} {hds : List ExceptHandler} {l : List Hd} (hi : X.N[i]? = some n) (hln : X.env.kindOf n = some .local) (hc : Names X x (.ref C)) (hce : Γ.ce h.c = some C) (hn : h.i = some i)
      (hsu : ∀ (a : Addr) (oe : Obj) (cls : Value) (d : Option Addr) (pn : List (Addr × Obj)), Zc cls d oe → (∃ vs, oe.data = .fields vs) → PSs (X.suite a ((a, oe) :: pn)) (b₀ :: suite) (tSX Γ h a cls d)) (r : HdD X Γ hds l) :
      HdD X Γ (.ExceptHandler (some (.Name x np)) (some n) (b₀ :: suite) pos' :: hds) (h :: l)
section
variable {X : Cx} {W : WX} {ce : Nat → Option Addr} {fe : Nat → Str} {tb : List Addr} {body : List Stmt} {h₀ : ExceptHandler} {hds : List ExceptHandler} {l : List Hd} {pos : Pos} {mb : Env → Sto → Sr}
theorem hdn_of {Γ : Gm} {hds : List ExceptHandler} {l : List Hd} (h : HdD X Γ hds l) : ∃ Cs : List Addr, Cs.length = l.length ∧ HdN X hds ((Cs.zip l).map fun p => (.ref p.1, p.2.i, tSX Γ p.2)) ∧ ∀ p ∈ Cs.zip l, Γ.ce p.2.c = some p.1 := by
  induction h with
  | nil => exact ⟨[], rfl, .nil, fun p hp => nomatch hp⟩
  | @cons x C h b₀ suite np pos' hds l hc hce hn hsu r ih =>
    obtain ⟨Cs, e1, e2, e3⟩ := ih
    refine ⟨C :: Cs, by rw [List.length_cons, List.length_cons, e1], ?_, fun p hp => ?_⟩
    · rw [List.zip_cons_cons, List.map_cons, hn]
      exact .cons hc hsu e2
    · rw [List.zip_cons_cons] at hp
      rcases List.mem_cons.mp hp with e | e
      · rw [e]; exact hce
      · exact e3 p e
  | @cas x n i C h b₀ suite np pos' hds l hi hln hc hce hn hsu r ih =>
    obtain ⟨Cs, e1, e2, e3⟩ := ih
    refine ⟨C :: Cs, by rw [List.length_cons, List.length_cons, e1], ?_, fun p hp => ?_⟩
    · rw [List.zip_cons_cons, List.map_cons, hn]
      exact .cas hi hln hc hsu e2
    · rw [List.zip_cons_cons] at hp
      rcases List.mem_cons.mp hp with e | e
      · rw [e]; exact hce
      · exact e3 p e
theorem un_out {Γ : Gm} {π : Pl} {H : Hp} {r : Sr} {D : Ends} {i : Nat} (h : OutS Γ W π H (r.un (some i)) D) (hx : ∀ x env st, r ≠ .ex x env st) : OutS Γ W0 π H r (Ends.un D i) := by
  cases r with
  | nx env st => exact fun π' H' σ' e E S => h π' H' _ e E.unset S
  | bk env st => exact fun π' H' σ' e E S => h π' H' _ e E.unset S
  | ct env st => exact fun π' H' σ' e E S => h π' H' _ e E.unset S
  | rt d st => exact h
  | ex x env st => exact absurd rfl (hx x env st)
  | no => exact h
theorem wtry_of {Γ : Gm} (T : Tells Γ) {D : Ends} {x : Ex} {env : Env} {st : Sto} {π : Pl} {H : Hp} {σ : L2.St} {cls : Value} {dx : Option Addr} (E : EnvR Γ π H σ env) (S : StR Γ π H st) (rx : RepX Γ π H cls dx x) :
    ∀ {l : List Hd} {Cs : List Addr}, (∀ h ∈ l, ∀ x env st x' env' st', h.m x env st ≠ .ex x' env' st') → Cs.length = l.length → (∀ p ∈ Cs.zip l, Γ.ce p.2.c = some p.1) → OutS Γ W π H (hdRun l x env st) D →
      wTry Γ.K W D ((Cs.zip l).map fun p => (.ref p.1, p.2.i, tSX Γ p.2)) cls dx σ H
  | [], Cs, nx, hc, hC, h => by
    have e : Cs = [] := List.length_eq_zero_iff.mp hc
    rw [e]
    exact h π H σ cls dx Ext.refl E S rx
  | hd :: l, [], nx, hc, hC, h => by simp at hc
  | hd :: l, C :: Cs, nx, hc, hC, h => by
    rw [List.zip_cons_cons, List.map_cons]
    obtain ⟨C', hx1, ecls, rest⟩ := id rx
    have hcc : Γ.ce hd.c = some C := hC (C, hd) (by rw [List.zip_cons_cons]; exact List.mem_cons_self)
    refine ⟨decide (x.c = hd.c), by rw [ecls]; exact T _ _ _ _ hx1 hcc, fun hb a ha => ?_, fun hb => ?_⟩
    · have hb' : x.c = hd.c := of_decide_eq_true hb
      unfold hdRun at h
      rw [if_pos hb'] at h
      cases hi : hd.i with
      | none =>
        rw [hi] at h
        dsimp only at h ⊢
        refine ⟨π, env, st, x, E, S, hb', rx, fun i e => (by rw [hi] at e; cases e), ?_⟩
        have h' : OutS Γ W π H (hd.m x env st) D := h
        cases q : hd.m x env st with
        | ex x' e' s' => exact absurd q (nx hd List.mem_cons_self _ _ _ _ _ _)
        | nx _ _ => rw [q] at h'; exact h'
        | rt _ _ => rw [q] at h'; exact h'
        | bk _ _ => rw [q] at h'; exact h'
        | ct _ _ => rw [q] at h'; exact h'
        | no => rw [q] at h'; exact h'
      | some i =>
        rw [hi] at h
        dsimp only at h ⊢
        intro hlt
        refine ⟨π, env.set i none, st, x, ⟨?_, fun j d q => ?_⟩, S, hb', rx, fun i' e => ?_, un_out h (nx hd List.mem_cons_self _ _ _)⟩
        · rw [List.length_set, List.length_set, E.len]
        · by_cases hj : j = i
          · rw [hj, List.getElem?_set_self (by rw [E.len]; exact hlt)] at q
            cases q
          · rw [List.getElem?_set_ne (Ne.symm hj)] at q
            rw [List.getElem?_set_ne (Ne.symm hj)]
            exact E.at_ j d q
        · rw [hi] at e
          cases e
          exact List.getElem?_set_self hlt
    · have hb' : ¬ x.c = hd.c := of_decide_eq_false hb
      unfold hdRun at h
      rw [if_neg hb'] at h
      exact wtry_of T E S rx (fun k hk => nx k (List.mem_cons_of_mem _ hk)) (by simpa using hc) (fun p hp => hC p (by rw [List.zip_cons_cons]; exact List.mem_cons_of_mem _ hp)) h

theorem ds_try (hs : X.stack = X.env :: X.outer) (hf : X.env.frame = some X.env.locals) (hN : X.N.Nodup) (tk : Takes X W) (T : Tells (gx X ce fe tb)) (nx : ∀ h ∈ l, ∀ x env st x' env' st', h.m x env st ≠ .ex x' env' st')
    (hb : ∀ (W' : WX) (pn : List (Addr × Obj)) (xe : Value → Shared → Prop), Takes (X.tr pn xe) W' → PassesOwn (model X.prog X.w) X.A X.env xe → PSs (X.tr pn xe) body (tS (gx X ce fe tb) W' mb))
    (hh : HdD X (gx X ce fe tb) (h₀ :: hds) l) : PS X (.Try body (h₀ :: hds) [] [] pos) (tS (gx X ce fe tb) W (sTry mb l)) := by
  obtain ⟨Cs, e1, e2, e3⟩ := hdn_of hh
  refine imS (ps_tryN hs hf hN tk hb e2) fun De σ H ⟨π, env, st, E, S, h⟩ => ⟨π, env, st, E, S, ?_⟩
  unfold sTry at h
  cases q : mb env st with
  | ex x env' st' =>
    rw [q] at h
    exact fun π' H' σ' cls d e E' S' rx => wtry_of T E' S' rx nx e1 e3 (OutS.ext e h)
  | nx _ _ => rw [q] at h; exact h
  | rt _ _ => rw [q] at h; exact h
  | bk _ _ => rw [q] at h; exact h
  | ct _ _ => rw [q] at h; exact h
  | no => rw [q] at h; exact h
end

/-! ### suites -/
/-- a suite that asks nothing of the exception -/
theorem sx_plain {X : Cx} {ce : Nat → Option Addr} {fe : Nat → Str} {tb : List Addr} {h : Hd} {m : Env → Sto → Sr} {a : Addr} {cls : Value} {d : Option Addr} {pn : List (Addr × Obj)} {ss : List Stmt} (hm : h.m = fun _ => m) (hp : PSs (X.suite a pn) ss (tS (gx X ce fe tb) W0 m)) :
    PSs (X.suite a pn) ss (tSX (gx X ce fe tb) h a cls d) := imSs hp fun De σ H ⟨π, env, st, x, E, S, _, _, _, o⟩ => ⟨π, env, st, E, S, by rw [hm] at o; exact o⟩
/-- what stands in a suite's list: data, the field, whether it is of a built-in class -/
inductive Xk where
  | c (d : D)
  | fld
  | isi
def Xk.val (x : Ex) : Xk → Option D
  | .c d => some d
  | .fld => x.arg
  | .isi => some (.bl true)
def xkL (x : Ex) : List Xk → Option (List D)
  | [] => some []
  | k :: ks => match k.val x with
    | some d => match xkL x ks with
      | some ds => some (d :: ds)
      | none => none
    | none => none
def tXa (Γ : Gm) (cn i : Nat) (a : Addr) (cls : Value) (dx : Option Addr) (ks : List Xk) : TA := fun σ H Q => σ[i]? = some (some (.ref a)) ∧ ∃ π st x ds, StR Γ π H st ∧ x.c = cn ∧ RepX Γ π H cls dx x ∧ xkL x ks = some ds ∧ ∀ vs, RepL Γ π H vs ds → Q vs H
section
variable {X : Cx} {ce : Nat → Option Addr} {fe : Nat → Str} {tb : List Addr} {cn i : Nat} {a C : Addr} {oe : Obj} {cls : Value} {dx : Option Addr} {pn : List (Addr × Obj)} {ks : List Xk} {e : Expr} {es : List Expr}
theorem xk_split {x : Ex} {k : Xk} {ds : List D} (h : xkL x (k :: ks) = some ds) : ∃ d ds', k.val x = some d ∧ xkL x ks = some ds' ∧ ds = d :: ds' := by
  unfold xkL at h
  split at h
  · rename_i d e1
    split at h
    · rename_i ds' e2
      exact ⟨d, ds', e1, e2, (Option.some.inj h).symm⟩
    · cases h
  · cases h
theorem xk_nil : PA (X.suite a pn) [] (tXa (gx X ce fe tb) cn i a cls dx []) := imA pa_nil fun σ H Q ⟨_, π, st, x, ds, _, _, _, e, q⟩ => by
  cases e
  exact q [] rfl
theorem xk_c {v : V} {d : D} (hd : ∀ π H, Rep (gx X ce fe tb) π H v d) (he : PE (X.suite a pn) e (tC v)) (hr : PA (X.suite a pn) es (tXa (gx X ce fe tb) cn i a cls dx ks)) (hs : starEach (e :: es) (X.suite a pn).env = (false, eval e (X.suite a pn).env) :: starEach es (X.suite a pn).env := by rfl) :
    PA (X.suite a pn) (e :: es) (tXa (gx X ce fe tb) cn i a cls dx (.c d :: ks)) := imA (pa_cons he hr hs) fun σ H Q ⟨hi, π, st, x, ds, S, hx, rx, e, q⟩ => by
  obtain ⟨d1, ds', e1, e2, rfl⟩ := xk_split e
  cases e1
  exact ⟨hi, π, st, x, ds', S, hx, rx, e2, fun vs r => q _ ⟨v, vs, rfl, hd π H, r⟩⟩
theorem xk_fld {n nm : Str} {p1 pos : Pos} (T : XfC X.K C) (hce : ce cn = some C) (hn : fe cn = n) (hno : PySem.W.findIn X.K (.ref C) n = some none) (hz : Zc cls dx oe) (hf : ∃ vs, oe.data = .fields vs)
    (hv : PE (X.suite a ((a, oe) :: pn)) (.Name nm p1) (tVar i)) (hr : PA (X.suite a ((a, oe) :: pn)) es (tXa (gx X ce fe tb) cn i a cls dx ks)) (hb : attributeBase (.Name nm p1) n X.env (eval (.Name nm p1) X.env) = eval (.Name nm p1) X.env := by rfl)
    (hs : starEach (.Attribute (.Name nm p1) n pos :: es) X.env = (false, eval (.Attribute (.Name nm p1) n pos) X.env) :: starEach es X.env := by rfl) :
    PA (X.suite a ((a, oe) :: pn)) (.Attribute (.Name nm p1) n pos :: es) (tXa (gx X ce fe tb) cn i a cls dx (.fld :: ks)) := imA (pa_cons (pe_xf T hno hz hf hv hb) hr hs) fun σ H Q ⟨hi, π, st, x, ds, S, hx, rx, e, q⟩ => by
  obtain ⟨d1, ds', e1, e2, rfl⟩ := xk_split e
  have e1 : x.arg = some d1 := e1
  obtain ⟨C', hc', ecls, rest⟩ := id rx
  rw [e1] at rest
  obtain ⟨dd, v, ed, ea, rv⟩ := rest
  have hc2 : ce x.c = some C' := hc'
  rw [hx, hce] at hc2
  cases hc2
  refine ⟨.ref a, hi, rfl, ecls, dd, _, v, ed, ea, ?_, hi, π, st, x, ds', S, hx, rx, e2, fun vs r => q _ ⟨v, vs, rfl, rv, r⟩⟩
  have e3 : fe x.c = n := by rw [hx]; exact hn
  show List.lookup n [(fe x.c, v)] = some v
  rw [e3]
  simp
theorem call_isX (T : ExcC X.K C) (hz : Zc cls dx oe) (hf : ∃ vs, oe.data = .fields vs) : CallR (X.suite a ((a, oe) :: pn)) (.builtin "isinstance") (fun xs H Q => ∃ (c : V) (cv : Value) (b : Bool), cls = .ref C ∧ xs = [.ref a, c] ∧ (∀ u, RelV c u → u = cv) ∧ PySem.W.kitOne X.K (.ref C) cv = some b ∧ (∀ dd, dx = some dd → ∃ fs, H dd = some (.xd fs)) ∧ Q (.bl b) H) := by
  intro pins s σ H xs us Q I r h
  obtain ⟨c, cv, b, rfl, rfl, hcv, e, hdx, q⟩ := h
  cases r with
  | cons rx rr =>
    cases rr with
    | cons rt rr =>
      cases rr
      cases rx
      have ec := hcv _ rt
      subst ec
      obtain ⟨hget, _⟩ := I.pin (a, oe) (List.mem_append.mpr (.inl List.mem_cons_self))
      obtain ⟨vs, hv⟩ := hf
      have J : ∃ od, PySem.W.InstAt s.heap a oe C od := by
        cases dx with
        | none =>
          refine ⟨none, ?_⟩
          obtain ⟨oc, od, oda, osl⟩ := oe
          obtain ⟨h1, h2⟩ := hz
          dsimp only at h1 h2 hv
          subst h1 h2 hv
          exact ⟨hget, rfl, rfl, trivial⟩
        | some dd =>
          obtain ⟨fs, hfs⟩ := hdx dd rfl
          have hx : ObjOk X.prog X.w H s.heap dd (.xd fs) := I.hok dd _ hfs
          obtain ⟨mA, ⟨o, es, ep, ho, _⟩, _⟩ := hx
          refine ⟨some o, ?_⟩
          obtain ⟨oc, od, oda, osl⟩ := oe
          obtain ⟨h1, h2⟩ := hz
          dsimp only at h1 h2 hv
          subst h1 h2 hv
          exact ⟨hget, rfl, rfl, ho⟩
      obtain ⟨od, J⟩ := J
      have hcl : (PySem.W.clsIn X.K C).isSome = true := by
        obtain ⟨cd, hc, _⟩ := PySem.W.any_some T.hd
        rw [hc]; rfl
      exact PySem.W.kia_one (PySem.W.kitx_exc hcl T.hg T.hk T.hs T.ha T.hn T.ht T.hm) I.kIn J e (fun z => nomatch z) fun tk => ⟨.bl b, H, I.kept (t' := tk) fun _ _ z => z, rfl, q⟩
theorem xk_isi {B : String} {nm y : Str} {p0 p1 p2 pos : Pos} (T : ExcC X.K C) (hce : ce cn = some C) (hk : PySem.W.kitOne X.K (.ref C) (.type B) = some true) (hz : Zc cls dx oe) (hf : ∃ vs, oe.data = .fields vs)
    (hg : Gl X "isinstance") (hm : X.mg "isinstance" = none) (hv : PE (X.suite a ((a, oe) :: pn)) (.Name nm p1) (tVar i)) (ht : PE (X.suite a ((a, oe) :: pn)) (.Name y p2) (tC (.ty B))) (hr : PA (X.suite a ((a, oe) :: pn)) es (tXa (gx X ce fe tb) cn i a cls dx ks))
    (h1 : starEach (.Name nm p1 :: [.Name y p2]) X.env = (false, eval (.Name nm p1) X.env) :: starEach [.Name y p2] X.env := by rfl) (h2 : starEach [.Name y p2] X.env = (false, eval (.Name y p2) X.env) :: starEach [] X.env := by rfl) (hpl : (backTo pos (starEach [.Name y p2] X.env)).any (·.1) = false := by rfl)
    (hs : starEach (.Call (.Name "isinstance" p0) [.Name nm p1, .Name y p2] [] pos :: es) X.env = (false, eval (.Call (.Name "isinstance" p0) [.Name nm p1, .Name y p2] [] pos) X.env) :: starEach es X.env := by rfl) :
    PA (X.suite a ((a, oe) :: pn)) (.Call (.Name "isinstance" p0) [.Name nm p1, .Name y p2] [] pos :: es) (tXa (gx X ce fe tb) cn i a cls dx (.isi :: ks)) := by
  have pe : PE (X.suite a ((a, oe) :: pn)) (.Call (.Name "isinstance" p0) [.Name nm p1, .Name y p2] [] pos) _ := pe_callB (call_isX (pn := pn) T hz hf) hg hm PyProof.Rows.boot_isinstance (pa_cons hv (pa_cons ht pa_nil h2) h1) (by decide) (by decide) h1 hpl
  refine imA (pa_cons pe hr hs) fun σ H Q ⟨hi, π, st, x, ds, S, hx, rx, e, q⟩ => ?_
  obtain ⟨d1, ds', e1, e2, rfl⟩ := xk_split e
  cases e1
  obtain ⟨C', hc', ecls, rest⟩ := id rx
  have hc2 : ce x.c = some C' := hc'
  rw [hx, hce] at hc2
  cases hc2
  refine ⟨.ref a, hi, .ty B, .type B, true, ecls, rfl, fun u r => r, hk, fun dd ed => ?_, hi, π, st, x, ds', S, hx, rx, e2, fun vs r => q _ ⟨.bl true, vs, rfl, rfl, r⟩⟩
  cases ea : x.arg with
  | none =>
    rw [ea] at rest
    have rest : dx = none := rest
    rw [rest] at ed
    cases ed
  | some d0 =>
    rw [ea] at rest
    obtain ⟨dd', v, ed', hd', _⟩ := rest
    rw [ed] at ed'
    cases ed'
    exact ⟨_, hd'⟩
end
end Dn
end

section
set_option Elab.async false
set_option linter.all false
set_option maxRecDepth 100000
set_option maxHeartbeats 2000000
/-! suites with a list of data, the field, the class -/
namespace Dn
open PySem PySem.Spec PyProof.Rows L2
def lX (ks : List Xk) (x : Ex) : Env → Sto → Rs (List D) := fun _ st => match xkL x ks with
  | some ds => .ok ds st
  | none => .no
section
variable {X : Cx} {ce : Nat → Option Addr} {fe : Nat → Str} {tb : List Addr} {i : Nat} {a : Addr} {oe : Obj} {cls : Value} {dx : Option Addr} {pn : List (Addr × Obj)} {ks : List Xk} {es : List Expr} {mu : Bool} {lp rp : Pos} {h : Hd}
theorem sx_list {Γ : Gm} {σ : L2.St} {H : Hp} {De : Ends} {P : VK} {k : Env → D → Sto → Sr} {hd : Hd} {π : Pl} {env : Env} {st : Sto} {x : Ex} (E : EnvR Γ π H σ env) (S : StR Γ π H st) (hx : x.c = hd.c) (rx : RepX Γ π H cls dx x) (hi : σ[i]? = some (some (.ref a)))
    (o : OutS Γ W0 π H ((mLst mu (lX ks x) env st).thn env (k env)) De)
    (go : ∀ π1 H1 v d st1, Ext π H π1 H1 → EnvR Γ π1 H1 σ env → StR Γ π1 H1 st1 → Rep Γ π1 H1 v d → OutS Γ W0 π1 H1 (k env d st1) De → P v H1) : tLst (tXa Γ hd.c i a cls dx ks) σ H P := by
  unfold mLst lX at o
  cases q : xkL x ks with
  | none =>
    rw [q] at o
    exact o.elim
  | some ds =>
    rw [q] at o
    have o' : OutS Γ W0 π H ((if ds.length ≤ sz then mkL mu ds st else .no : Rs D).thn env (k env)) De := o
    refine ⟨hi, π, st, x, ds, S, hx, rx, q, fun vs r => ?_⟩
    split at o'
    · rename_i hz
      have main : Out Γ (Rep Γ) W0 σ π H (mkL mu ds st) P := by
        cases e : mkL mu ds st with
        | ok d st1 =>
          rw [e] at o'
          exact fun π1 H1 v e1 s1 r1 => go π1 H1 v d st1 e1 (E.ext e1.toKp) s1 r1 (OutS.ext e1 o')
        | ex y st1 =>
          rw [e] at o'
          exact fun π1 H1 c d e1 s1 r1 => o' π1 H1 σ c d e1 (E.ext e1.toKp) s1 r1
        | no => rw [e] at o'; exact o'
      exact ⟨by rw [r.length, sizeLine_eq]; exact hz, fun l hl => main.newL S r hl⟩
    · exact o'.elim
/-- return [..] -/
theorem sx_ret (hi : h.i = some i) (hm : h.m = fun x => sRet (mLst mu (lX ks x))) (hp : PA (X.suite a pn) es (tXa (gx X ce fe tb) h.c i a cls dx ks)) : PSs (X.suite a pn) [.Return (some (.List es lp)) rp] (tSX (gx X ce fe tb) h a cls dx) := by
  refine imSs (pss_one (ps_ret (pe_lst hp))) fun De σ H ⟨π, env, st, x, E, S, hx, rx, hσ, o⟩ => ?_
  rw [hm] at o
  exact sx_list (k := fun env d st1 => .rt d st1) E S hx rx (hσ i hi) o fun π1 H1 v d st1 e1 E1 S1 r1 o1 => o1 π1 H1 v Ext.refl S1 r1
/-- name = [..] -/
theorem sx_set {y : Str} {py : Pos} (j : Nat) (hi : h.i = some i) (hm : h.m = fun x => sAsg (gNm j) (mLst mu (lX ks x))) (hN : X.N.Nodup) (hj : X.N[j]? = some y) (hy : Loc X.env.scope y) (hp : PA (X.suite a pn) es (tXa (gx X ce fe tb) h.c i a cls dx ks))
    (hs : swapsWith (.List es lp) (some (.Name y py)) rp.line X.env = pure false := by rfl) (hf : (X.suite a pn).fn y = true ∨ X.env.scope.names.lookup y = some .local := by first | exact .inl rfl | exact .inr rfl) : PSs (X.suite a pn) [.Assign [.Name y py] (.List es lp) rp] (tSX (gx X ce fe tb) h a cls dx) := by
  refine imSs (pss_one (ps_set (X := X.suite a pn) hN hj hy (pe_lst hp) hs hf)) fun De σ H ⟨π, env, st, x, E, S, hx, rx, hσ, o⟩ => ?_
  rw [hm] at o
  exact sx_list (k := fun env d st1 => match gNm j d env with
    | some env' => .nx env' st1
    | none => .no) E S hx rx (hσ i hi) o fun π1 H1 v d st1 e1 E1 S1 r1 o1 => o1.nxt (E1.set r1) S1
end
/-- no suite raises: told of the lists -/
theorem nx_ret {mu : Bool} {ks : List Xk} {x : Ex} {env : Env} {st : Sto} {x' : Ex} {env' : Env} {st' : Sto} : sRet (mLst mu (lX ks x)) env st ≠ .ex x' env' st' := by
  unfold sRet mLst lX
  cases xkL x ks with
  | none => exact fun z => by cases z
  | some ds =>
    show (if ds.length ≤ sz then mkL mu ds st else .no : Rs D).thn env _ ≠ _
    split
    · cases mu <;> exact fun z => by cases z
    · exact fun z => by cases z
theorem nx_set {mu : Bool} {j : Nat} {ks : List Xk} {x : Ex} {env : Env} {st : Sto} {x' : Ex} {env' : Env} {st' : Sto} : sAsg (gNm j) (mLst mu (lX ks x)) env st ≠ .ex x' env' st' := by
  unfold sAsg mLst lX
  cases xkL x ks with
  | none => exact fun z => by cases z
  | some ds =>
    show (if ds.length ≤ sz then mkL mu ds st else .no : Rs D).thn env _ ≠ _
    split
    · cases mu <;> exact fun z => by cases z
    · exact fun z => by cases z
end Dn
end

section
set_option Elab.async false
set_option linter.all false
set_option maxRecDepth 100000
set_option maxHeartbeats 2000000
/-! defs by names, own exception classes by names, the end -/
namespace Dn
open PySem PySem.Spec PyProof.Rows L2

/-! ### defs -/
abbrev FnT (K : PySem.W.Frag) (x qual : Str) (st : Stmt) (f : Addr) (fd : FuncData) : Prop := FunD K x qual (defArgs st) (defBody st) (defScope st) [] [] f fd
theorem fn_denD {P : Program} {w : World} {K : PySem.W.Frag} {mg : Str → Option Value} {base : Heap} {ce : Nat → Option Addr} {fe : Nat → Str} {tb : List Addr} {x qual : Str} {st : Stmt} {f : Addr} {fd : FuncData} {N ps : List Str} {k n : Nat} {B : Env → Sto → Sr} (F : FnT K x qual st f fd) (Sc : FnScope N ps (defScope st)) (hn : n = ps.length)
    (hB : ∀ (cdv : Value), fd.code = cdv → ∀ (A : Around) (outer : List PySem.Env) (s : Shared) (H : Hp) (E : XK), Room k (A.deeper (envOfC qual (defScope st) s.heap.objs.size f cdv)) →
      PSs (cxOf (L2.CX P w) P w K mg base N qual (defScope st) f cdv A outer s H E) (defBody st) (tS ⟨K, ce, fe, tb⟩ (fun cls dx _ H => E cls dx H) B)) :
    FnOk P w K mg base (L2.CX P w) (k + 1) f fd ps (spM ⟨K, ce, fe, tb⟩ n (dFn N.length B)) := by
  obtain ⟨oc, od, dV, kV, doc, pm, an, cdv, ct, osl, rfl, lk, hcd, _, _⟩ := F.ex
  refine fn_of lk hcd Sc (fun vs H Q E h => hn ▸ h.1) fun A outer s H vs Q E hr h => ⟨_, hB cdv rfl A outer s H E hr, ?_⟩
  obtain ⟨_, π, ds, st', S, r, h⟩ := h
  refine ⟨π, _, st', startR N r, S, ?_⟩
  unfold dFn at h
  cases e : B (startE N.length ds) st' with
  | nx env1 st1 =>
    rw [e] at h
    exact fun π' H' σ' e' E' S' => h π' H' .non e' S' rfl
  | rt d st1 =>
    rw [e] at h
    exact fun π' H' v e' S' r' => h π' H' v e' S' r'
  | ex x env1 st1 =>
    rw [e] at h
    exact fun π' H' σ' c d e' E' S' r' => h π' H' c d e' S' r'
  | bk env1 st1 => rw [e] at h; exact h.elim
  | ct env1 st1 => rw [e] at h; exact h.elim
  | no => rw [e] at h; exact h.elim
theorem kwb_ofD {K : PySem.W.Frag} {x qual : Str} {st : Stmt} {f : Addr} {fd : FuncData} {ps ks : List Str} {n : Nat} {is : List Nat} (F : FnT K x qual st f fd)
    (h : ∀ (kV doc pm : Value) (an : Option Addr) (cdv ct : Value) (us ws : List Value), us.length = n → ws.length = ks.length → bindArgs (PySem.W.fnOf x qual (defArgs st) (defBody st) (defScope st) .none kV doc pm an cdv ct) ⟨us, ks.zip ws⟩ = pure (ps.zip (pick .none (us ++ ws) is))) : KwB fd ps n ks is := by
  obtain ⟨oc, od, dV, kV, doc, pm, an, cdv, ct, osl, rfl, lk, hcd, hD, _⟩ := F.ex
  rcases hD with ⟨_, rfl⟩ | ⟨e, _⟩
  · exact fun s us ws h1 h2 => BindsTo.of_eq (h kV doc pm an cdv ct us ws h1 h2)
  · exact absurd rfl e
/-! ### a < b < c -/
def chK (g : D → D → Sto → Rs D) (mc : Env → Sto → Rs D) (env : Env) (b : D) (z : D) (st3 : Sto) : Rs D := match z with
  | .bl true => (mc env st3).bind fun c st4 => g b c st4
  | .bl false => .ok (.bl false) st3
  | _ => .no
def mCh (f g : D → D → Sto → Rs D) (ma mb mc : Env → Sto → Rs D) : Env → Sto → Rs D := fun env st => (ma env st).bind fun a st1 => (mb env st1).bind fun b st2 => (f a b st2).bind (chK g mc env b)
/-- an operation that answers at once, the store as it was -/
def Op3 (Γ : Gm) (r : R2) (f : D → D → Sto → Rs D) : Prop := ∀ (W : WX) (σ : L2.St) (π : Pl) (H : Hp) (x y : V) (a b : D) (st : Sto) (Q : VK), StR Γ π H st → Rep Γ π H x a → Rep Γ π H y b → Out Γ (Rep Γ) W σ π H (f a b st) Q → r x y H Q
section
variable {X : Cx} {Γ : Gm} {W : WX} {op op' : CmpOp} {r r' : R2} {f g : D → D → Sto → Rs D} {a b c : Expr} {ma mb mc : Env → Sto → Rs D} {pos : Pos}
theorem tCh_of (hf : Op2 Γ r f) (hg : Op2 Γ r' g) {σ : L2.St} {H : Hp} {Q : VK} (h : tE Γ W (mCh f g ma mb mc) σ H Q) : tChain r r' (tE Γ W ma) (tE Γ W mb) (tE Γ W mc) σ H Q := by
  obtain ⟨π, env, st, E, S, h⟩ := h
  refine bindG E S h fun π1 H1 x a st1 e1 E1 S1 r1 h1 => ?_
  refine bindG E1 S1 h1 fun π2 H2 y b st2 e2 E2 S2 r2 h2 => ?_
  refine hf W σ π2 H2 x y a b st2 _ S2 (r1.ext e2.toKp) r2 ?_
  cases q : f a b st2 with
  | no => rw [q] at h2; exact h2.elim
  | ex z s3 => rw [q] at h2; exact h2
  | ok z st3 =>
    rw [q] at h2
    intro π3 H3 v3 e3 S3 r3
    have h3 : Out Γ (Rep Γ) W σ π3 H3 (chK g mc env b z st3) Q := Out.ext e3 h2
    cases z with
    | bl k =>
      refine ⟨k, r3, ?_⟩
      cases k with
      | true =>
        refine iteT ?_
        exact bindG (E2.ext e3.toKp) S3 h3 fun π4 H4 w c st4 e4 E4 S4 r4 h4 => hg W σ π4 H4 y w b c st4 Q S4 ((r2.ext e3.toKp).ext e4.toKp) r4 h4
      | false => exact iteF (h3.now S3 rfl)
    | _ => exact h3.elim
theorem den_ch (ho : OpR X (compareOp op) r) (hf : Op2 Γ r f) (ho' : OpR X (compareOp op') r') (hg : Op2 Γ r' g) (ha : PE X a (tE Γ W ma)) (hb : PE X b (tE Γ W mb)) (hc : PE X c (tE Γ W mc)) (hm : lastMarks [op, op'] [b, c] = false := by with_unfolding_all rfl) :
    PE X (.Compare a [op, op'] [b, c] pos) (tE Γ W (mCh f g ma mb mc)) := imE (pe_chain ho ho' ha hb hc hm) fun _ _ _ h => tCh_of hf hg h
end
/-! ### facts of classes as Bools -/
def xcB (K : PySem.W.Frag) (C : Addr) (newId : String) (bmB : List Value) : Bool := (match K.lookup C with
  | some ⟨.type "type", _, .cls cd, sl⟩ => (match cd.mro, sl.toList with
    | .ref C' :: bm, [_, _, _, _, some (.builtin n), _] => decide (C' = C) && (decide (n = newId) && (!cd.hasDel && (cd.hasDict && decide (bm = bmB))))
    | _, _ => false)
  | _ => false) && (decide (PySem.W.findIn K (.ref C) "__setattr__" = some (some (.builtin "object.__setattr__"))) && (decide (PySem.W.subIn K (.ref C) (.type "BaseException") = some true) && (decide (PySem.W.typeIn K (.ref C) = some (.type "type")) && PySem.W.keepIn K (.ref C))))
theorem xcB_ok {K : PySem.W.Frag} {C : Addr} {newId : String} {bmB : List Value} (h : xcB K C newId bmB = true) : XC K C newId bmB := by
  unfold xcB at h
  obtain ⟨h1, h⟩ := Bool.and_eq_true_iff.mp h
  obtain ⟨h2, h⟩ := Bool.and_eq_true_iff.mp h
  obtain ⟨h3, h⟩ := Bool.and_eq_true_iff.mp h
  obtain ⟨h4, h5⟩ := Bool.and_eq_true_iff.mp h
  refine ⟨?_, of_decide_eq_true h2, of_decide_eq_true h3, of_decide_eq_true h4, h5⟩
  split at h1
  · rename_i dd cd sl ho
    split at h1
    · rename_i C' bm k0 k1 k2 k3 n k5 hm hs
      simp only [Bool.and_eq_true, decide_eq_true_eq, Bool.not_eq_true'] at h1
      obtain ⟨rfl, rfl, hdel, hdict, rfl⟩ := h1
      obtain ⟨nm, bs, mro, ns, qn, hd, sn, sub, ab, col, del⟩ := cd
      dsimp only at hm hdel hdict
      subst hm hdel hdict
      have hsl : sl = #[k0, k1, k2, k3, some (.builtin n), k5] := by
        obtain ⟨l⟩ := sl
        simp only at hs
        rw [hs]
      subst hsl
      exact ⟨_, _, _, _, _, _, _, _, _, _, _, _, _, _, ho⟩
    · cases h1
  · cases h1
def exB (K : PySem.W.Frag) (D : Addr) : Bool := xfB K D && (decide (PySem.W.findIn K (.ref D) "__class__" = some (some (.builtin "object.__class__"))) && (decide (PySem.W.specialIn K (.builtin "object.__class__") "__get__" = some (some (.builtin "getset_descriptor.__get__"))) && (decide (PySem.W.takesIn K (.builtin "object.__class__") = some true) && decide (PySem.W.mroIn K D (.type "object") = some true))))
theorem exB_ok {K : PySem.W.Frag} {D : Addr} (h : exB K D = true) : XfC K D ∧ ExcC K D := by
  unfold exB at h
  obtain ⟨h1, h⟩ := Bool.and_eq_true_iff.mp h
  obtain ⟨h2, h⟩ := Bool.and_eq_true_iff.mp h
  obtain ⟨h3, h⟩ := Bool.and_eq_true_iff.mp h
  obtain ⟨h4, h5⟩ := Bool.and_eq_true_iff.mp h
  have T := xfB_ok h1
  exact ⟨T, T.ga, T.gg, T.exC, T.hdC, of_decide_eq_true h2, of_decide_eq_true h3, of_decide_eq_true h4, of_decide_eq_true h5⟩
/-- one class: its name, its __init__'s place, its field (none: ""), its base -/
structure CD where
  x : Str
  f : Str
  b : String
def CD.ok (K : PySem.W.Frag) (d : CD) : Bool := xcB K (He.ga K d.x) (d.b ++ ".__new__") [.type d.b, .type "Exception", .type "BaseException", .type "object"] && (exB K (He.ga K d.x) && (decide (PySem.W.findIn K (.ref (He.ga K d.x)) "__init__" = some (some (.ref (He.fAd K (d.x, some "__init__"))))) &&
  (decide (PySem.W.typeIn K (.ref (He.fAd K (d.x, some "__init__"))) = some (.type "function")) && (decide (PySem.W.findIn K (.ref (He.ga K d.x)) d.f = some none) && (decide (PySem.W.kitOne K (.ref (He.ga K d.x)) (.type d.b) = some true) &&
  (decide (PySem.W.kitOne K (.ref (He.ga K d.x)) (.type "LookupError") = some (d.b == "LookupError")) && decide (PySem.W.kitOne K (.ref (He.ga K d.x)) (.type "ValueError") = some (d.b == "ValueError"))))))))
structure CDok (K : PySem.W.Frag) (d : CD) : Prop where
  xc : XC K (He.ga K d.x) (d.b ++ ".__new__") [.type d.b, .type "Exception", .type "BaseException", .type "object"]
  xf : XfC K (He.ga K d.x)
  ec : ExcC K (He.ga K d.x)
  iC : PySem.W.findIn K (.ref (He.ga K d.x)) "__init__" = some (some (.ref (He.fAd K (d.x, some "__init__"))))
  tI : PySem.W.typeIn K (.ref (He.fAd K (d.x, some "__init__"))) = some (.type "function")
  no : PySem.W.findIn K (.ref (He.ga K d.x)) d.f = some none
  kit : PySem.W.kitOne K (.ref (He.ga K d.x)) (.type d.b) = some true
  kL : PySem.W.kitOne K (.ref (He.ga K d.x)) (.type "LookupError") = some (d.b == "LookupError")
  kV : PySem.W.kitOne K (.ref (He.ga K d.x)) (.type "ValueError") = some (d.b == "ValueError")
theorem CD.ok_of {K : PySem.W.Frag} {d : CD} (h : d.ok K = true) : CDok K d := by
  unfold CD.ok at h
  obtain ⟨h1, h⟩ := Bool.and_eq_true_iff.mp h
  obtain ⟨h2, h⟩ := Bool.and_eq_true_iff.mp h
  obtain ⟨h3, h⟩ := Bool.and_eq_true_iff.mp h
  obtain ⟨h4, h⟩ := Bool.and_eq_true_iff.mp h
  obtain ⟨h5, h⟩ := Bool.and_eq_true_iff.mp h
  obtain ⟨h6, h⟩ := Bool.and_eq_true_iff.mp h
  obtain ⟨h7, h8⟩ := Bool.and_eq_true_iff.mp h
  exact ⟨xcB_ok h1, (exB_ok h2).1, (exB_ok h2).2, of_decide_eq_true h3, of_decide_eq_true h4, of_decide_eq_true h5, of_decide_eq_true h6, of_decide_eq_true h7, of_decide_eq_true h8⟩
/-- the classes by number -/
def ceOf (K : PySem.W.Frag) (cs : List CD) : Nat → Option Addr := fun i => (cs[i]?).map fun d => He.ga K d.x
def feOf (cs : List CD) : Nat → Str := fun i => match cs[i]? with
  | some d => d.f
  | none => ""
def tellB (K : PySem.W.Frag) (cs : List CD) : Bool := (List.range cs.length).all fun i => (List.range cs.length).all fun j => match cs[i]?, cs[j]? with
  | some a, some b => decide (PySem.W.exmOne K (.ref (He.ga K a.x)) (.ref (He.ga K b.x)) = some (decide (i = j)))
  | _, _ => true
theorem tellB_ok {K : PySem.W.Frag} {cs : List CD} {fe : Nat → Str} {tb : List Addr} (h : tellB K cs = true) : Tells ⟨K, ceOf K cs, fe, tb⟩ := by
  intro i j Ci Cj hi hj
  have hi : (cs[i]?).map (fun d => He.ga K d.x) = some Ci := hi
  have hj : (cs[j]?).map (fun d => He.ga K d.x) = some Cj := hj
  cases ei : cs[i]? with
  | none => rw [ei] at hi; cases hi
  | some a =>
    cases ej : cs[j]? with
    | none => rw [ej] at hj; cases hj
    | some b =>
      rw [ei] at hi
      rw [ej] at hj
      cases hi
      cases hj
      have z := List.all_eq_true.mp (List.all_eq_true.mp h i (List.mem_range.mpr (List.getElem?_eq_some_iff.mp ei).1)) j (List.mem_range.mpr (List.getElem?_eq_some_iff.mp ej).1)
      rw [ei, ej] at z
      exact of_decide_eq_true z
def clsB (K : PySem.W.Frag) (cs : List CD) : Bool := (cs.all fun d => d.ok K) && tellB K cs
/-! ### the end -/
/-- the code tables, as the end has them -/
def tbs (K : PySem.W.Frag) (tf : List He.Defn) : List Addr := tf.map fun p => (He.cT K p).2
end Dn
end

section
set_option Elab.async false
set_option linter.all false
set_option maxRecDepth 100000
set_option maxHeartbeats 2000000
/-! what the printed texts lean on -/
namespace Dn
open PySem PySem.Spec PyProof.Rows L2
theorem gtb {base : Heap} {mg : Str → Option Value} {c P : Addr} (h : LamX.TabB base mg c P) : GxR.TabB base mg c P := ⟨h.code, h.bm, h.gP⟩
theorem boot_VE : bootBuiltins "ValueError" = some (.type "ValueError") := by rfl
theorem boot_LE : bootBuiltins "LookupError" = some (.type "LookupError") := by rfl
theorem pe_VE {X : Cx} {pos : Pos} (hg : Gl X "ValueError") (hm : X.mg "ValueError" = none) : PE X (.Name "ValueError" pos) (tC (.ty "ValueError")) := pe_bltn hg hm boot_VE rfl (by decide) (by decide)
theorem pe_LE {X : Cx} {pos : Pos} (hg : Gl X "LookupError") (hm : X.mg "LookupError" = none) : PE X (.Name "LookupError" pos) (tC (.ty "LookupError")) := pe_bltn hg hm boot_LE rfl (by decide) (by decide)
theorem nx_nil : ∀ h ∈ ([] : List Hd), ∀ x env st x' env' st', h.m x env st ≠ .ex x' env' st' := fun _ hm => nomatch hm
theorem nx_cons {c : Nat} {i : Option Nat} {m : Ex → Env → Sto → Sr} {l : List Hd} (h1 : ∀ x env st x' env' st', m x env st ≠ .ex x' env' st') (h2 : ∀ h ∈ l, ∀ x env st x' env' st', h.m x env st ≠ .ex x' env' st') : ∀ h ∈ (⟨c, i, m⟩ : Hd) :: l, ∀ x env st x' env' st', h.m x env st ≠ .ex x' env' st' := fun h hm => by
  rcases List.mem_cons.mp hm with e | e
  · rw [e]; exact h1
  · exact h2 h e
theorem code_at {K : PySem.W.Frag} {p : He.Defn} {x qual : Str} {params : Arguments} {body : List Stmt} {scope : Scope} {dvs : List V} {kws : List (Str × V)} {fd : FuncData} (F : FunD K x qual params body scope dvs kws (He.fAd K p) fd) : fd.code = .ref (He.cT K p).1 := by
  obtain ⟨oc, od, dV, kV, doc, pm, an, cdv, ct, osl, rfl, lk, hcd, _, _⟩ := F.ex
  obtain ⟨c, e⟩ := He.codeIn_ref hcd
  subst e
  have z := He.codeOf_eq lk rfl
  show (Value.ref c) = .ref (He.codeOf K p)
  rw [z]
/-- a text of the module -/
theorem kons_str {Γ : Gm} {mg : Str → Option Value} {x : Str} {l : List Nat} (h : ∃ t, mg x = some (.str ⟨⟨l⟩⟩ t)) : ∃ (v : V) (u : Value), mg x = some u ∧ RelV v u ∧ ∀ (π : Pl) (H : Hp), Rep Γ π H v (.str l) := by
  obtain ⟨t, e⟩ := h
  exact ⟨.str ⟨⟨l⟩⟩, _, e, ⟨t, rfl⟩, fun _ _ => rfl⟩
theorem kons_int {Γ : Gm} {mg : Str → Option Value} {x : Str} {i : Int} (h : ∃ t, mg x = some (.int i t)) : ∃ (v : V) (u : Value), mg x = some u ∧ RelV v u ∧ ∀ (π : Pl) (H : Hp), Rep Γ π H v (.int i) := by
  obtain ⟨t, e⟩ := h
  exact ⟨.int i, _, e, ⟨t, rfl⟩, fun _ _ => rfl⟩
/-- the module's value is data -/
def dvD : List He.Dv → Option (List D)
  | [] => some []
  | .int i :: r => (dvD r).map fun l => .int i :: l
  | .str x :: r => (dvD r).map fun l => .str x.cps.toList :: l
  | .non :: r => (dvD r).map fun l => .non :: l
  | .bl b :: r => (dvD r).map fun l => .bl b :: l
  | _ => none
theorem dvD_ok {Γ : Gm} {π : Pl} {H : Hp} {K : PySem.W.Frag} : ∀ {l : List He.Dv} {ds : List D}, dvD l = some ds → RepL Γ π H (l.map (He.Dv.v K)) ds
  | [], ds, h => by cases h; exact rfl
  | .int i :: r, ds, h => by
    obtain ⟨l, e, rfl⟩ := Option.map_eq_some_iff.mp h
    exact ⟨_, _, rfl, rfl, dvD_ok e⟩
  | .str x :: r, ds, h => by
    obtain ⟨l, e, rfl⟩ := Option.map_eq_some_iff.mp h
    exact ⟨_, _, rfl, rfl, dvD_ok e⟩
  | .non :: r, ds, h => by
    obtain ⟨l, e, rfl⟩ := Option.map_eq_some_iff.mp h
    exact ⟨_, _, rfl, rfl, dvD_ok e⟩
  | .bl b :: r, ds, h => by
    obtain ⟨l, e, rfl⟩ := Option.map_eq_some_iff.mp h
    exact ⟨_, _, rfl, rfl, dvD_ok e⟩
  | .byt _ :: _, _, h => by cases h
  | .flt _ :: _, _, h => by cases h
  | .ty _ :: _, _, h => by cases h
  | .glo _ :: _, _, h => by cases h
  | .adr _ :: _, _, h => by cases h
theorem kons_tup {K : PySem.W.Frag} {ce : Nat → Option Addr} {fe : Nat → Str} {tb : List Addr} {mg : Str → Option Value} {x : Str} {l : List He.Dv} {ds : List D} (h : mg x = some (.ref (He.ga K x))) (ht : He.tupB K x l = true) (hd : dvD l = some ds) : ∃ (v : V) (u : Value), mg x = some u ∧ RelV v u ∧ ∀ (π : Pl) (H : Hp), Rep ⟨K, ce, fe, tb⟩ π H v (.ktp ds) :=
  ⟨.ref (He.ga K x), _, h, rfl, fun π H => ⟨_, _, rfl, He.tupB_ok ht H, dvD_ok hd⟩⟩
end Dn
end

section
set_option Elab.async false
set_option linter.all false
set_option maxRecDepth 100000
set_option maxHeartbeats 2000000
/-! zip of a list and a tuple, in any order -/
namespace Dn
open PySem PySem.Spec PyProof.Rows L2
open RZ
/-- a tuple (true), a list (false); its iterator -/
def SqH (c : Bool) (h : Heap) (l : Addr) (xs : Array Value) : Prop := match c with
  | true => h.IsTuple l xs
  | false => h.IsList l xs
def ItH (c : Bool) (h : Heap) (it l : Addr) (i : Nat) : Prop := match c with
  | true => h.IsTupleIter it l i
  | false => h.IsListIter it l i
section
variable {c : Bool} {h h' : Heap} {a b l : Addr} {xs : Array Value} {i : Nat}
theorem SqH.extBut (x : SqH c h a xs) (hs : Heap.ExtBut b h h') (hab : a ≠ b) : SqH c h' a xs := by
  cases c
  · exact Heap.IsList.extBut x hs hab
  · exact Heap.IsTuple.extBut x hs hab
theorem SqH.push (x : SqH c h a xs) (o : Obj) : SqH c (h.push o) a xs := by
  cases c
  · exact Heap.IsList.push x o
  · exact Heap.IsTuple.push x o
theorem ItH.extBut (x : ItH c h a l i) (hs : Heap.ExtBut b h h') (hab : a ≠ b) : ItH c h' a l i := by
  cases c
  · exact Heap.IsListIter.extBut x hs hab
  · exact Heap.IsTupleIter.extBut x hs hab
theorem ItH.at (x : ItH c h a l i) (e : ∀ o, h.get? a = some o → h'.get? a = some o) : ItH c h' a l i := by
  cases c
  · exact Heap.IsListIter.at x e
  · exact Heap.IsTupleIter.at x e
theorem ItH.obj (x : ItH c h a l i) : ∃ o, h.get? a = some o ∧ o.data = .fields #[.ref l, .int i 0] := by
  cases c
  · obtain ⟨o, h1, _, h2⟩ := x
    exact ⟨o, h1, h2⟩
  · obtain ⟨o, h1, _, h2⟩ := x
    exact ⟨o, h1, h2⟩
end
section
variable {prog : Program} {w : World} {A : Around} {E : Value → Shared → Prop} {s : Shared}
theorem nextK_item {c : Bool} {it l : Addr} {i : Nat} {items} {x : Value} {Q : Value → Shared → Prop} (hit : ItH c s.heap it l i) (hl : SqH c s.heap l items) (hx : items[i]? = some x)
    (hQ : ∀ h', ItH c h' it l (i + 1) → Heap.SameBut it s.heap h' → Q x { s with heap := h' }) : wpAny (model prog w) A (Builtin.SmallTypes.nextOf (.ref it)) Q E s := by
  cases c
  · exact wpAny_nextOf_list_item hit hl hx hQ
  · exact nextOf_tuple_item hit hl hx hQ
theorem nextK_end {c : Bool} {it l : Addr} {i : Nat} {items} {Q : Value → Shared → Prop} (hh : A.handled = none) (hit : ItH c s.heap it l i) (hl : SqH c s.heap l items) (hx : items[i]? = none)
    (hE : ∀ h' e, Heap.ExtBut it s.heap h' → (∃ o, h'.get? e = some o ∧ o.cls = .type "StopIteration") → E (.ref e) { s with heap := h' }) : wpAny (model prog w) A (Builtin.SmallTypes.nextOf (.ref it)) Q E s := by
  cases c
  · exact wpAny_nextOf_list_end hh hit hl hx hE
  · exact nextOf_tuple_end hh hit hl hx hE
theorem zipG_next_item {c1 c2 : Bool} {z TI TO i1 i2 l1 l2 : Addr} {k1 k2 : Nat} {xs ys : Array Value} {x y a b : Value} {Q : Value → Shared → Prop} (D : ZipApart z TI TO i1 i2 l1 l2)
    (hz : IsZip s.heap z TI TO .none) (hTI : IsPair s.heap TI (.ref i1) (.ref i2)) (hTO : IsPair s.heap TO a b)
    (h1 : ItH c1 s.heap i1 l1 k1) (h2 : ItH c2 s.heap i2 l2 k2) (hl1 : SqH c1 s.heap l1 xs) (hl2 : SqH c2 s.heap l2 ys) (hx : xs[k1]? = some x) (hy : ys[k2]? = some y)
    (hQ : ∀ h', IsZip h' z TI TO (rawInt s.heap.objs.size) → IsPair h' TO x y → ItH c1 h' i1 l1 (k1 + 1) → ItH c2 h' i2 l2 (k2 + 1) → IsPair h' s.heap.objs.size x y → h'.objs.size = s.heap.objs.size + 1 →
      (∀ c o, c ≠ z → c ≠ TO → c ≠ i1 → c ≠ i2 → s.heap.get? c = some o → h'.get? c = some o) → Q (.ref s.heap.objs.size) { s with heap := h' }) :
    wpAny (model prog w) A (Builtin.«zip.__next__» ⟨[.ref z], []⟩) (fun fin s' => ∃ v, fin = .done (.ret v) ∧ Q v s') E s := by
  show wpAny _ _ (field (.ref z) 2 >>= _) _ _ _
  refine wpAny_bind (wpAny_field hz rfl (x := .bool false) rfl ?_)
  show wpAny _ _ (field (.ref z) 3 >>= _) _ _ _
  refine wpAny_bind (wpAny_field hz rfl (x := .ref TI) rfl ?_)
  refine wpAny_bind (wpAny_seqItems hTI rfl ?_)
  show wpAny _ _ (Builtin.SmallTypes.ownedTupleIsFree (.ref z) >>= _) _ _ _
  refine wpAny_bind ?_
  unfold Builtin.SmallTypes.ownedTupleIsFree
  refine wpAny_bind (wpAny_field hz rfl (x := .none) rfl (wpAny_pure ?_))
  simp only [if_true]
  refine wpAny_bind (wpAny_rule ?_)
  refine wpAny_bind (wpAny_field hz rfl (x := .ref TO) rfl ?_)
  refine wpAny_bind (wpAny_setField_rec hz (by simp) fun h₁ hz₁ hs₁ => ?_)
  replace hz₁ : IsZip h₁ z TI TO .ellipsis := hz₁
  refine wpAny_bind ?_
  simp only [List.zipIdx_cons, List.zipIdx_nil, List.forIn_cons, List.forIn_nil]

  refine wpAny_bind (wpAny_bind (wpAny_onRaise ?_))
  show wpAny _ _ (Builtin.SmallTypes.nextOf (.ref i1) >>= _) _ _ _
  refine wpAny_bind (nextK_item (h1.extBut hs₁.extBut D.i1z) (hl1.extBut hs₁.extBut D.l1z) hx fun h₂ h1₂ hs₂ => wpAny_pure ?_)
  have hTO₂ : IsPair h₂ TO a b := hs₂.extBut _ _ D.TOi1 (hs₁.extBut _ _ D.TOz hTO)
  refine wpAny_bind (wpAny_seqItems hTO₂ rfl ?_)
  refine wpAny_bind (wpAny_updateSeq_pair hTO₂ fun h₃ hTO₃ hs₃ => ?_)
  replace hTO₃ : IsPair h₃ TO x b := hTO₃
  refine wpAny_bind (wpAny_letGo (wpAny_pure ?_))

  refine wpAny_bind (wpAny_bind (wpAny_onRaise ?_))
  show wpAny _ _ (Builtin.SmallTypes.nextOf (.ref i2) >>= _) _ _ _
  refine wpAny_bind (nextK_item (((h2.extBut hs₁.extBut D.i2z).extBut hs₂.extBut D.i12.symm).extBut hs₃.extBut D.TOi2.symm)
    (((hl2.extBut hs₁.extBut D.l2z).extBut hs₂.extBut D.l2i1).extBut hs₃.extBut D.l2TO) hy fun h₄ h2₄ hs₄ => wpAny_pure ?_)
  have hTO₄ : IsPair h₄ TO x b := hs₄.extBut _ _ D.TOi2 hTO₃
  refine wpAny_bind (wpAny_seqItems hTO₄ rfl ?_)
  refine wpAny_bind (wpAny_updateSeq_pair hTO₄ fun h₅ hTO₅ hs₅ => ?_)
  replace hTO₅ : IsPair h₅ TO x y := hTO₅
  refine wpAny_bind (wpAny_letGo (wpAny_pure (wpAny_pure ?_)))

  refine wpAny_bind (wpAny_seqItems hTO₅ rfl ?_)
  refine wpAny_bind (wpAny_newTuple ?_)
  have hsz : h₅.objs.size = s.heap.objs.size := by rw [hs₅.1, hs₄.1, hs₃.1, hs₂.1, hs₁.1]
  have hz₅ : IsZip h₅ z TI TO .ellipsis := hs₅.extBut _ _ D.TOz.symm (hs₄.extBut _ _ D.i2z.symm (hs₃.extBut _ _ D.TOz.symm (hs₂.extBut _ _ D.i1z.symm hz₁)))
  have hk₅ : ∀ c o, c ≠ z → c ≠ TO → c ≠ i1 → c ≠ i2 → s.heap.get? c = some o → h₅.get? c = some o := fun c o c1 c2 c3 c4 e =>
    hs₅.extBut _ _ c2 (hs₄.extBut _ _ c4 (hs₃.extBut _ _ c2 (hs₂.extBut _ _ c3 (hs₁.extBut _ _ c1 e))))
  have h1₅ : ItH c1 h₅ i1 l1 (k1 + 1) := ((h1₂.extBut hs₃.extBut D.TOi1.symm).extBut hs₄.extBut D.i12).extBut hs₅.extBut D.TOi1.symm
  have h2₅ : ItH c2 h₅ i2 l2 (k2 + 1) := h2₄.extBut hs₅.extBut D.TOi2.symm
  have hzlt : z < h₅.objs.size := Heap.lt_size hz₅
  have hTOlt : TO < h₅.objs.size := Heap.lt_size hTO₅
  have hi1lt : i1 < h₅.objs.size := by obtain ⟨_, e, _⟩ := h1₅.obj; exact Heap.lt_size e
  have hi2lt : i2 < h₅.objs.size := by obtain ⟨_, e, _⟩ := h2₅.obj; exact Heap.lt_size e
  show wpAny _ _ (Builtin.SmallTypes.ownedTupleHandOut (.ref z) (.ref h₅.objs.size) >>= _) _ _ _
  refine wpAny_bind ?_
  unfold Builtin.SmallTypes.ownedTupleHandOut
  have hz₆ : IsZip (h₅.push { cls := .type "tuple", data := .seq #[x, y] }) z TI TO .ellipsis := Heap.get?_push_of_some _ hz₅
  refine wpAny_bind (wpAny_setField_rec hz₆ (by simp) fun h₇ hz₇ hs₇ => ?_)
  replace hz₇ : IsZip h₇ z TI TO (rawInt h₅.objs.size) := hz₇
  refine wpAny_setField_rec hz₇ (by simp) fun h₈ hz₈ hs₈ => ?_
  replace hz₈ : IsZip h₈ z TI TO (rawInt h₅.objs.size) := hz₈
  have up : ∀ c o, c ≠ z → h₅.get? c = some o → h₈.get? c = some o := fun c o c1 e => hs₈.extBut _ _ c1 (hs₇.extBut _ _ c1 (Heap.get?_push_of_some _ e))
  have hT₈ : IsPair h₈ h₅.objs.size x y := hs₈.extBut _ _ (Nat.ne_of_gt hzlt) (hs₇.extBut _ _ (Nat.ne_of_gt hzlt) (Heap.get?_push_size _ rfl))
  have hz8 : h₈.objs.size = h₅.objs.size + 1 := by rw [hs₈.1, hs₇.1, Heap.size_push]
  rw [hsz] at hz₈ hT₈ hz8
  refine wpAny_pure ⟨_, rfl, ?_⟩
  show Q (.ref h₅.objs.size) _
  rw [hsz]
  exact hQ h₈ hz₈ (up _ _ D.TOz hTO₅) (h1₅.at fun o e => up _ o D.i1z e) (h2₅.at fun o e => up _ o D.i2z e) hT₈ hz8 fun c o c1 c2 c3 c4 e => up c o c1 (hk₅ c o c1 c2 c3 c4 e)

theorem zipG_next_end {c1 c2 : Bool} {z TI TO i1 i2 l1 l2 : Addr} {k1 k2 : Nat} {xs ys : Array Value} {a b : Value} {Q : Fin → Shared → Prop} (hh : A.handled = none) (D : ZipApart z TI TO i1 i2 l1 l2)
    (hz : IsZip s.heap z TI TO .none) (hTI : IsPair s.heap TI (.ref i1) (.ref i2)) (hTO : IsPair s.heap TO a b)
    (h1 : ItH c1 s.heap i1 l1 k1) (h2 : ItH c2 s.heap i2 l2 k2) (hl1 : SqH c1 s.heap l1 xs) (hl2 : SqH c2 s.heap l2 ys) (hend : xs[k1]? = none ∨ ys[k2]? = none)
    (hE : ∀ h' e, (∀ c o, c ≠ z → c ≠ TO → c ≠ i1 → c ≠ i2 → s.heap.get? c = some o → h'.get? c = some o) → (∃ o, h'.get? e = some o ∧ o.cls = .type "StopIteration") → E (.ref e) { s with heap := h' }) :
    wpAny (model prog w) A (Builtin.«zip.__next__» ⟨[.ref z], []⟩) Q E s := by
  show wpAny _ _ (field (.ref z) 2 >>= _) _ _ _
  refine wpAny_bind (wpAny_field hz rfl (x := .bool false) rfl ?_)
  show wpAny _ _ (field (.ref z) 3 >>= _) _ _ _
  refine wpAny_bind (wpAny_field hz rfl (x := .ref TI) rfl ?_)
  refine wpAny_bind (wpAny_seqItems hTI rfl ?_)
  show wpAny _ _ (Builtin.SmallTypes.ownedTupleIsFree (.ref z) >>= _) _ _ _
  refine wpAny_bind ?_
  unfold Builtin.SmallTypes.ownedTupleIsFree
  refine wpAny_bind (wpAny_field hz rfl (x := .none) rfl (wpAny_pure ?_))
  simp only [if_true]
  refine wpAny_bind (wpAny_rule ?_)
  refine wpAny_bind (wpAny_field hz rfl (x := .ref TO) rfl ?_)
  refine wpAny_bind (wpAny_setField_rec hz (by simp) fun h₁ hz₁ hs₁ => ?_)
  replace hz₁ : IsZip h₁ z TI TO .ellipsis := hz₁
  refine wpAny_bind ?_
  simp only [List.zipIdx_cons, List.zipIdx_nil, List.forIn_cons, List.forIn_nil]
  refine wpAny_bind (wpAny_bind (wpAny_onRaise ?_))
  show wpAny _ _ (Builtin.SmallTypes.nextOf (.ref i1) >>= _) _ _ _
  cases hx : xs[k1]? with
  | none =>
    refine wpAny_bind (nextK_end hh (h1.extBut hs₁.extBut D.i1z) (hl1.extBut hs₁.extBut D.l1z) hx fun h₂ e hs₂ he => ?_)
    obtain ⟨oe, hoe, hce⟩ := he
    have hz₂ : IsZip h₂ z TI TO .ellipsis := hs₂ _ _ D.i1z.symm hz₁
    have hez : e ≠ z := fun x => by subst x; rw [hz₂] at hoe; cases hoe; simp at hce
    refine wpAny_setField_rec hz₂ (by simp) fun h₃ _ hs₃ => hE h₃ e (fun c o c1 _ c3 _ x => hs₃.extBut _ _ c1 (hs₂ _ _ c3 (hs₁.extBut _ _ c1 x))) ⟨oe, hs₃.extBut _ _ hez hoe, hce⟩
  | some x =>
    have hy : ys[k2]? = none := by rcases hend with h | h; rw [hx] at h; cases h; exact h
    refine wpAny_bind (nextK_item (h1.extBut hs₁.extBut D.i1z) (hl1.extBut hs₁.extBut D.l1z) hx fun h₂ h1₂ hs₂ => wpAny_pure ?_)
    have hTO₂ : IsPair h₂ TO a b := hs₂.extBut _ _ D.TOi1 (hs₁.extBut _ _ D.TOz hTO)
    refine wpAny_bind (wpAny_seqItems hTO₂ rfl ?_)
    refine wpAny_bind (wpAny_updateSeq_pair hTO₂ fun h₃ hTO₃ hs₃ => ?_)
    refine wpAny_bind (wpAny_letGo (wpAny_pure ?_))
    refine wpAny_bind (wpAny_bind (wpAny_onRaise ?_))
    show wpAny _ _ (Builtin.SmallTypes.nextOf (.ref i2) >>= _) _ _ _
    refine wpAny_bind (nextK_end hh (((h2.extBut hs₁.extBut D.i2z).extBut hs₂.extBut D.i12.symm).extBut hs₃.extBut D.TOi2.symm)
      (((hl2.extBut hs₁.extBut D.l2z).extBut hs₂.extBut D.l2i1).extBut hs₃.extBut D.l2TO) hy fun h₄ e hs₄ he => ?_)
    obtain ⟨oe, hoe, hce⟩ := he
    have hz₄ : IsZip h₄ z TI TO .ellipsis := hs₄ _ _ D.i2z.symm (hs₃.extBut _ _ D.TOz.symm (hs₂.extBut _ _ D.i1z.symm hz₁))
    have hez : e ≠ z := fun x => by subst x; rw [hz₄] at hoe; cases hoe; simp at hce
    refine wpAny_setField_rec hz₄ (by simp) fun h₅ _ hs₅ => hE h₅ e (fun c o c1 c2 c3 c4 x => hs₅.extBut _ _ c1 (hs₄ _ _ c4 (hs₃.extBut _ _ c2 (hs₂.extBut _ _ c3 (hs₁.extBut _ _ c1 x))))) ⟨oe, hs₅.extBut _ _ hez hoe, hce⟩

theorem pyNext_zipG_item {c1 c2 : Bool} {z TI TO i1 i2 l1 l2 : Addr} {k1 k2 : Nat} {xs ys : Array Value} {x y a b : Value} {Q : Option Value → Shared → Prop} (D : ZipApart z TI TO i1 i2 l1 l2)
    (hz : IsZip s.heap z TI TO .none) (hTI : IsPair s.heap TI (.ref i1) (.ref i2)) (hTO : IsPair s.heap TO a b)
    (h1 : ItH c1 s.heap i1 l1 k1) (h2 : ItH c2 s.heap i2 l2 k2) (hl1 : SqH c1 s.heap l1 xs) (hl2 : SqH c2 s.heap l2 ys) (hx : xs[k1]? = some x) (hy : ys[k2]? = some y)
    (hQ : ∀ h', IsZip h' z TI TO (rawInt s.heap.objs.size) → IsPair h' TO x y → ItH c1 h' i1 l1 (k1 + 1) → ItH c2 h' i2 l2 (k2 + 1) → IsPair h' s.heap.objs.size x y → h'.objs.size = s.heap.objs.size + 1 →
      (∀ c o, c ≠ z → c ≠ TO → c ≠ i1 → c ≠ i2 → s.heap.get? c = some o → h'.get? c = some o) → Q (some (.ref s.heap.objs.size)) { s with heap := h' }) :
    wpAny (model prog w) A (pyNext (.ref z)) Q E s := by
  have hT : s.TypeIs (.ref z) "zip" := ⟨_, hz, rfl⟩
  unfold pyNext
  exact wpAny_bind (wpAny_attempt (wpAny_callSpecial?_slot (name := Str.ofString "__next__") hT F.slot_zip_next
    (wpAny_call_entry F.slot_zip_next hT F.entry_zip_next
      (zipG_next_item D hz hTI hTO h1 h2 hl1 hl2 hx hy fun h' a1 a2 a3 a4 a5 a6 a7 => wpAny_pure (hQ h' a1 a2 a3 a4 a5 a6 a7)) (F.args_zip_next_1 _))))

theorem pyNext_zipG_end {c1 c2 : Bool} {z TI TO i1 i2 l1 l2 : Addr} {k1 k2 : Nat} {xs ys : Array Value} {a b : Value} {Q : Option Value → Shared → Prop} (hh : A.handled = none) (D : ZipApart z TI TO i1 i2 l1 l2)
    (hz : IsZip s.heap z TI TO .none) (hTI : IsPair s.heap TI (.ref i1) (.ref i2)) (hTO : IsPair s.heap TO a b)
    (h1 : ItH c1 s.heap i1 l1 k1) (h2 : ItH c2 s.heap i2 l2 k2) (hl1 : SqH c1 s.heap l1 xs) (hl2 : SqH c2 s.heap l2 ys) (hend : xs[k1]? = none ∨ ys[k2]? = none)
    (hQ : ∀ h', (∀ c o, c ≠ z → c ≠ TO → c ≠ i1 → c ≠ i2 → s.heap.get? c = some o → h'.get? c = some o) → Q none { s with heap := h' }) : wpAny (model prog w) A (pyNext (.ref z)) Q E s := by
  have hT : s.TypeIs (.ref z) "zip" := ⟨_, hz, rfl⟩
  unfold pyNext
  refine wpAny_bind (wpAny_attempt (wpAny_callSpecial?_slot (name := Str.ofString "__next__") hT F.slot_zip_next
    (wpAny_call_entry F.slot_zip_next hT F.entry_zip_next (zipG_next_end hh D hz hTI hTO h1 h2 hl1 hl2 hend fun h' e hk he => ?_) (F.args_zip_next_1 _))))
  obtain ⟨o, ho, hc⟩ := he
  refine wpAny_bind (wpAny_isInstance (T := "StopIteration") (b := true) ⟨o, ho, hc⟩ isSubtype_stop ?_)
  exact wpAny_pure (hQ _ hk)
end


def itO : Bool → Addr → Obj
  | true, l => { cls := .type "tuple_iterator", data := .fields #[.ref l, .int 0 0] }
  | false, l => { cls := .type "list_iterator", data := .fields #[.ref l, .int 0 0] }
theorem itO_free {c : Bool} {l : Addr} : (itO c l).isFreed = false := by cases c <;> rfl
abbrev zg1 (c1 : Bool) (h : Heap) (l1 : Addr) : Heap := h.push (itO c1 l1)
abbrev zg2 (c1 c2 : Bool) (h : Heap) (l1 l2 : Addr) : Heap := (zg1 c1 h l1).push (itO c2 l2)
abbrev zg3 (c1 c2 : Bool) (h : Heap) (l1 l2 : Addr) : Heap := (zg2 c1 c2 h l1 l2).push { cls := .type "tuple", data := .seq #[.ref h.objs.size, .ref (zg1 c1 h l1).objs.size] }
abbrev zg4 (c1 c2 : Bool) (h : Heap) (l1 l2 : Addr) : Heap := (zg3 c1 c2 h l1 l2).push { cls := .type "tuple", data := .seq #[.none, .none] }
abbrev zg5 (c1 c2 : Bool) (h : Heap) (l1 l2 : Addr) : Heap := (zg4 c1 c2 h l1 l2).push { cls := .type "zip", data := .fields #[.none, .bool false, .bool false, .ref (zg2 c1 c2 h l1 l2).objs.size, .ref (zg3 c1 c2 h l1 l2).objs.size] }
theorem meets_zg (c1 c2 : Bool) (l1 l2 : Addr) (xs ys : Array Value) :
    Meets (Builtin.«zip.__new__» ⟨[.type "zip", .ref l1, .ref l2], []⟩) (fun _ R s => SqH c1 s.heap l1 xs ∧ SqH c2 s.heap l2 ys ∧
      R (.ok (.ret (.ref (zg4 c1 c2 s.heap l1 l2).objs.size))) { s with heap := zg5 c1 c2 s.heap l1 l2 }) :=
  .of_wp fun prog w A R s h => by
    obtain ⟨hp, g, d, tk, os⟩ := s; obtain ⟨hl1, hl2, h⟩ := h
    have hsub := sub_zip
    cases c1 <;> cases c2
    · have hL1 : Heap.IsList (Shared.heap ⟨hp, g, d, tk, os⟩) l1 xs := hl1
      have hL2 : Heap.IsList (Shared.heap ⟨hp.push { cls := .type "list_iterator", data := .fields #[.ref l1, .int 0 0] }, g, d, tk, os⟩) l2 ys := Heap.IsList.push hl2 _
      wp_walk using wpAny_pyIter_list hL1, wpAny_pyIter_list hL2
      exact ⟨_, rfl, h⟩
    · have hL1 : Heap.IsList (Shared.heap ⟨hp, g, d, tk, os⟩) l1 xs := hl1
      have hL2 : Heap.IsTuple (Shared.heap ⟨hp.push { cls := .type "list_iterator", data := .fields #[.ref l1, .int 0 0] }, g, d, tk, os⟩) l2 ys := Heap.IsTuple.push hl2 _
      wp_walk using wpAny_pyIter_list hL1, wpAny_pyIter_tuple hL2
      exact ⟨_, rfl, h⟩
    · have hL1 : Heap.IsTuple (Shared.heap ⟨hp, g, d, tk, os⟩) l1 xs := hl1
      have hL2 : Heap.IsList (Shared.heap ⟨hp.push { cls := .type "tuple_iterator", data := .fields #[.ref l1, .int 0 0] }, g, d, tk, os⟩) l2 ys := Heap.IsList.push hl2 _
      wp_walk using wpAny_pyIter_tuple hL1, wpAny_pyIter_list hL2
      exact ⟨_, rfl, h⟩
    · have hL1 : Heap.IsTuple (Shared.heap ⟨hp, g, d, tk, os⟩) l1 xs := hl1
      have hL2 : Heap.IsTuple (Shared.heap ⟨hp.push { cls := .type "tuple_iterator", data := .fields #[.ref l1, .int 0 0] }, g, d, tk, os⟩) l2 ys := Heap.IsTuple.push hl2 _
      wp_walk using wpAny_pyIter_tuple hL1, wpAny_pyIter_tuple hL2
      exact ⟨_, rfl, h⟩
theorem itH_new {c : Bool} {h : Heap} {a l : Addr} (e : h.get? a = some (itO c l)) : ItH c h a l 0 := by
  cases c
  · exact ⟨_, e, rfl, rfl⟩
  · exact ⟨_, e, rfl, rfl⟩
section
variable {prog : Program} {w : World} {A : Around} {E : Value → Shared → Prop} {s : Shared}
theorem call_zg {c1 c2 : Bool} {l1 l2 : Addr} {xs ys : Array Value} {Q : Value → Shared → Prop} (hl1 : SqH c1 s.heap l1 xs) (hl2 : SqH c2 s.heap l2 ys)
    (h : ∀ h', IsZip h' (s.heap.objs.size + 4) (s.heap.objs.size + 2) (s.heap.objs.size + 3) .none → IsPair h' (s.heap.objs.size + 2) (.ref s.heap.objs.size) (.ref (s.heap.objs.size + 1)) →
      IsPair h' (s.heap.objs.size + 3) .none .none → ItH c1 h' s.heap.objs.size l1 0 → ItH c2 h' (s.heap.objs.size + 1) l2 0 → h'.objs.size = s.heap.objs.size + 5 →
      (∀ c o, s.heap.get? c = some o → h'.get? c = some o) → Q (.ref (s.heap.objs.size + 4)) { s with heap := h' }) :
    wpAny (model prog w) A (call (.type "zip") [.ref l1, .ref l2]) Q E s := by
  refine callType_new PySem.F.called_zip (by decide) (PySem.F.typeCall_zip_2 _ _) (PySem.F.newCall_zip_2 _ _) (fun obj => PySem.F.args_object_init_3 obj _ _) PySem.F.entry_zip_new
    (meets_zg c1 c2 l1 l2 xs ys) ⟨hl1, hl2, ?_⟩
  have z1 : (zg1 c1 s.heap l1).objs.size = s.heap.objs.size + 1 := Heap.size_push ..
  have z2 : (zg2 c1 c2 s.heap l1 l2).objs.size = s.heap.objs.size + 2 := by rw [Heap.size_push, z1]
  have z3 : (zg3 c1 c2 s.heap l1 l2).objs.size = s.heap.objs.size + 3 := by rw [Heap.size_push, z2]
  have z4 : (zg4 c1 c2 s.heap l1 l2).objs.size = s.heap.objs.size + 4 := by rw [Heap.size_push, z3]
  have z5 : (zg5 c1 c2 s.heap l1 l2).objs.size = s.heap.objs.size + 5 := by rw [Heap.size_push, z4]
  have g5 : (zg5 c1 c2 s.heap l1 l2).get? (zg4 c1 c2 s.heap l1 l2).objs.size = some _ := Heap.get?_push_size _ rfl
  have g4 : (zg5 c1 c2 s.heap l1 l2).get? (zg3 c1 c2 s.heap l1 l2).objs.size = some _ := Heap.get?_push_of_some _ (Heap.get?_push_size _ rfl)
  have g3 : (zg5 c1 c2 s.heap l1 l2).get? (zg2 c1 c2 s.heap l1 l2).objs.size = some _ := Heap.get?_push_of_some _ (Heap.get?_push_of_some _ (Heap.get?_push_size _ rfl))
  have g2 : (zg5 c1 c2 s.heap l1 l2).get? (zg1 c1 s.heap l1).objs.size = some (itO c2 l2) := Heap.get?_push_of_some _ (Heap.get?_push_of_some _ (Heap.get?_push_of_some _ (Heap.get?_push_size _ itO_free)))
  have g1 : (zg5 c1 c2 s.heap l1 l2).get? s.heap.objs.size = some (itO c1 l1) := Heap.get?_push_of_some _ (Heap.get?_push_of_some _ (Heap.get?_push_of_some _ (Heap.get?_push_of_some _ (Heap.get?_push_size _ itO_free))))
  show _ ∧ _
  rw [z2, z3, z4] at g5
  rw [z1, z2] at g3
  rw [z3] at g4
  rw [z1] at g2
  rw [z4]
  exact ⟨⟨_, g5, rfl⟩, h _ g5 g3 g4 (itH_new g1) (itH_new g2) z5 fun c o x =>
    Heap.get?_push_of_some _ (Heap.get?_push_of_some _ (Heap.get?_push_of_some _ (Heap.get?_push_of_some _ (Heap.get?_push_of_some _ x))))⟩
end
/-! ### the rule -/
def SqG (c : Bool) (K : PySem.W.Frag) (H : Hp) (a : Addr) (xs : List V) : Prop := match c with
  | true => SqT K H a xs
  | false => SqL K H a xs
def ItzG (K : PySem.W.Frag) (c1 c2 : Bool) (a b : Addr) : It :=
  ⟨fun i H => ∃ (xs ys : List V) (x y : V), SqG c1 K H a xs ∧ SqG c2 K H b ys ∧ xs[i]? = some x ∧ ys[i]? = some y,
    fun i H v H' => ∃ T x y, v = .ref T ∧ H T = none ∧ H' = upd H T (.tup [x, y]) ∧ (∀ xs, SqG c1 K H a xs → xs[i]? = some x) ∧ ∀ ys, SqG c2 K H b ys → ys[i]? = some y,
    fun i H => ∃ xs ys : List V, SqG c1 K H a xs ∧ SqG c2 K H b ys ∧ (xs.length ≤ i ∨ ys.length ≤ i)⟩
section
variable {X : Cx} {pins : List (Addr × Obj)} {σ : L2.St} {H : Hp} {s : Shared}
theorem sqG_at {c : Bool} {a : Addr} {xs : List V} (I : Inv X pins σ H s) (h : SqG c X.K H a xs) : ∃ its : List Value, Vals xs its ∧ SqH c s.heap a its.toArray := by
  cases c
  · obtain ⟨its, rv, p, _⟩ := I.list h
    exact ⟨its, rv, p.isList⟩
  · obtain ⟨its, rv, p, _⟩ := I.tuple h
    exact ⟨its, rv, p⟩
theorem sqG_inj {c : Bool} {a : Addr} {xs ys : List V} (I : Inv X pins σ H s) (h : SqG c X.K H a xs) (h' : SqG c X.K H a ys) : xs = ys := by
  cases c
  · exact I.list_inj h h'
  · exact I.tuple_inj h h'
theorem sqG_lt {c : Bool} {a : Addr} {xs : List V} (I : Inv X pins σ H s) (h : SqG c X.K H a xs) : a < s.heap.objs.size := by
  obtain ⟨its, _, p⟩ := sqG_at I h
  cases c
  · obtain ⟨o, e, _⟩ := p
    exact Heap.lt_size e
  · obtain ⟨o, e, _⟩ := p
    exact Heap.lt_size e
end
theorem turn_zipG {P : Program} {w : World} {K : PySem.W.Frag} {elts : List Expr} {kk : Nat} {tpos : Pos} {c1 c2 : Bool} {a b z TI TO i1 i2 : Addr} (D : ZipApart z TI TO i1 i2 a b) :
    Turn P w K (.Tuple elts kk tpos) (ItzG K c1 c2 a b) [z, TI, TO, i1, i2] z (fun i h => IsZip h z TI TO .none ∧ IsPair h TI (.ref i1) (.ref i2) ∧ (∃ x y, IsPair h TO x y) ∧ ItH c1 h i1 a i ∧ ItH c2 h i2 b i) where
  mem := by simp
  obj := fun i h st c hc => by
    obtain ⟨hz, hTI, ⟨x, y, hTO⟩, h1, h2⟩ := st
    obtain ⟨o1, e1, d1⟩ := h1.obj
    obtain ⟨o2, e2, d2⟩ := h2.obj
    have e' : c = z ∨ c = TI ∨ c = TO ∨ c = i1 ∨ c = i2 := by simpa using hc
    rcases e' with q | q | q | q | q
    · rw [q]; exact ⟨_, hz, fun v q => nomatch q⟩
    · rw [q]; exact ⟨_, hTI, fun v q => nomatch q⟩
    · rw [q]; exact ⟨_, hTO, fun v q => nomatch q⟩
    · rw [q]; exact ⟨o1, e1, fun v q => by rw [d1] at q; cases q⟩
    · rw [q]; exact ⟨o2, e2, fun v q => by rw [d2] at q; cases q⟩
  keep := fun i h h' st k => by
    obtain ⟨hz, hTI, ⟨x, y, hTO⟩, h1, h2⟩ := st
    exact ⟨k z (by simp) _ hz, k TI (by simp) _ hTI, ⟨x, y, k TO (by simp) _ hTO⟩, h1.at fun o q => k i1 (by simp) o q, h2.at fun o q => k i2 (by simp) o q⟩
  item := by
    intro X hP hw hK hc i pins s σ H E I hf st hg
    subst hP hw hK
    obtain ⟨hz, hTI, ⟨x0, y0, hTO⟩, h1, h2⟩ := st
    obtain ⟨xs, ys, x, y, hqx, hqy, hx, hy⟩ := hg
    obtain ⟨its, rv, p⟩ := sqG_at I hqx
    obtain ⟨its2, rv2, p2⟩ := sqG_at I hqy
    obtain ⟨u, hu, ru⟩ := rv.get hx
    obtain ⟨u2, hu2, ru2⟩ := rv2.get hy
    have hzl : z < s.heap.objs.size := Heap.lt_size hz
    refine pyNext_zipG_item D hz hTI hTO h1 h2 p p2 (x := u) (y := u2) (by simpa using hu) (by simpa using hu2) fun h' z' TO' h1' h2' hT hsz hk => ?_
    refine ⟨_, rfl, wpAny_letOwnedTupleGo_zip (s := { s with heap := h' }) z' fun h'' z'' sb => ?_⟩
    have hT2 : h''.get? s.heap.objs.size = some { cls := .type "tuple", data := .seq #[u, u2] } := (sb.2 _ (Nat.ne_of_gt hzl)).trans hT
    have new : ObjOk X.prog X.w (upd H s.heap.objs.size (.tup [x, y])) h'' s.heap.objs.size (.tup [x, y]) :=
      ⟨by show 2 ≤ sizeLine; decide, [u, u2], .cons ru (.cons ru2 .nil), ⟨_, hT2, rfl, _, rfl⟩⟩
    have I1 : Inv X pins σ (upd H s.heap.objs.size (.tup [x, y])) { s with heap := h'' } :=
      I.turnedNew (t' := s.toks) (ch := [z, TI, TO, i1, i2]) (fun c o hb q => (sb.2 c (fun q' => hb (by simp [q']))).trans (hk c o (fun q' => hb (by simp [q'])) (fun q' => hb (by simp [q'])) (fun q' => hb (by simp [q'])) (fun q' => hb (by simp [q'])) q)) hf (Nat.le_refl _) new
    refine ⟨.ref s.heap.objs.size, _, I1, rfl, ⟨_, x, y, rfl, I.hok.fresh (Nat.le_refl _), rfl, fun l hl => by rw [sqG_inj I hl hqx]; exact hx, fun l hl => by rw [sqG_inj I hl hqy]; exact hy⟩, ⟨z'', ?_, ⟨u, u2, ?_⟩, ?_, ?_⟩, fun c hcm => ?_⟩
    · exact (sb.2 _ D.TIz).trans (hk _ _ D.TIz D.TITO D.TIi1 D.TIi2 hTI)
    · exact (sb.2 _ D.TOz).trans TO'
    · exact h1'.at fun o q => (sb.2 _ D.i1z).trans q
    · exact h2'.at fun o q => (sb.2 _ D.i2z).trans q
    · have hlt : c < s.heap.objs.size := by
        have e' : c = z ∨ c = TI ∨ c = TO ∨ c = i1 ∨ c = i2 := by simpa using hcm
        rcases e' with q | q | q | q | q
        · rw [q]; exact hzl
        · rw [q]; exact Heap.lt_size hTI
        · rw [q]; exact Heap.lt_size hTO
        · rw [q]; obtain ⟨_, e1, _⟩ := h1.obj; exact Heap.lt_size e1
        · rw [q]; obtain ⟨_, e2, _⟩ := h2.obj; exact Heap.lt_size e2
      rw [upd_ne (Nat.ne_of_lt hlt)]
      exact (hf c hcm).1
  done := by
    intro X hP hw hK hc i pins s σ H E I hf st hg
    subst hP hw hK
    obtain ⟨hz, hTI, ⟨x0, y0, hTO⟩, h1, h2⟩ := st
    obtain ⟨xs, ys, hqx, hqy, hend⟩ := hg
    obtain ⟨its, rv, p⟩ := sqG_at I hqx
    obtain ⟨its2, rv2, p2⟩ := sqG_at I hqy
    have l1 := rv.length
    have l2 := rv2.length
    have he : its.toArray[i]? = none ∨ its2.toArray[i]? = none := by
      rcases hend with q | q
      · exact .inl (by simp; omega)
      · exact .inr (by simp; omega)
    exact pyNext_zipG_end (I.ok.hd hc) D hz hTI hTO h1 h2 p p2 he fun h' hk => ⟨rfl, I.turnedL (t' := s.toks) (ch := [z, TI, TO, i1, i2]) (fun c o hb q =>
      hk c o (fun q' => hb (by simp [q'])) (fun q' => hb (by simp [q'])) (fun q' => hb (by simp [q'])) (fun q' => hb (by simp [q'])) q) hf⟩
  self := fun A i s Q E st h => wpAny_pyIter_zip st.1 h


def iZipG (K : PySem.W.Frag) (ta : TA) : TI := fun σ H R => ta σ H fun vs H1 => ∃ a b xs ys c1 c2, vs = [.ref a, .ref b] ∧ SqG c1 K H1 a xs ∧ SqG c2 K H1 b ys ∧ R (ItzG K c1 c2 a b) H1
theorem pi_zipG {X : Cx} {e e2 : Expr} {ta : TA} {p pos tpos : Pos} {elts : List Expr} {kk : Nat} (hg : Gl X "zip") (hm : X.mg "zip" = none) (ha : PA X [e, e2] ta)
    (hs : starEach [e, e2] X.env = (false, eval e X.env) :: starEach [e2] X.env := by rfl) (hpl : (backTo pos (starEach [e2] X.env)).any (·.1) = false := by rfl) :
    PI X (.Tuple elts kk tpos) (.Call (.Name "zip" p) [e, e2] [] pos) (iZipG X.K ta) := by
  refine ⟨fun pins s σ H R I h => ?_⟩
  refine Call_ (ld_blt I hg hm PyProof.Rows.boot_zip (PyProof.Rows.callWith_type1 (thn (ha.run pos pins s σ H _ I h) fun us s1 ⟨vs, H1, I1, r1, q1⟩ => ?_) hs hpl))
  obtain ⟨a, b, xs, ys, c1, c2, ex, hqx, hqy, q⟩ := q1
  subst ex
  cases r1 with
  | cons r rr =>
    cases rr with
    | cons r' rr =>
      cases rr
      cases r
      cases r'
      obtain ⟨its, rv, p1⟩ := sqG_at I1 hqx
      obtain ⟨its2, rv2, p2⟩ := sqG_at I1 hqy
      refine call_zg p1 p2 fun h' hz hTI hTO h1 h2 hsz hk => wpAny_pyIter_zip hz ?_
      have I2 : Inv X pins σ H1 { s1 with heap := h' } := I1.kept (t' := s1.toks) hk
      refine ⟨s1.heap.objs.size + 4, [s1.heap.objs.size + 4, s1.heap.objs.size + 2, s1.heap.objs.size + 3, s1.heap.objs.size, s1.heap.objs.size + 1], _, _, H1, rfl, I2, turn_zipG (PySem.W.ktu_apart s1.heap.objs.size a b (sqG_lt I1 hqx) (sqG_lt I1 hqy)), ⟨hz, hTI, ⟨_, _, hTO⟩, h1, h2⟩, fun c hcm => ?_, q⟩
      have e' : c = s1.heap.objs.size + 4 ∨ c = s1.heap.objs.size + 2 ∨ c = s1.heap.objs.size + 3 ∨ c = s1.heap.objs.size ∨ c = s1.heap.objs.size + 1 := by simpa using hcm
      have hle : s1.heap.objs.size ≤ c := by
        rcases e' with z | z | z | z | z
        · rw [z]; exact Nat.le_add_right _ _
        · rw [z]; exact Nat.le_add_right _ _
        · rw [z]; exact Nat.le_add_right _ _
        · rw [z]; exact Nat.le_refl _
        · rw [z]; exact Nat.le_add_right _ _
      exact I1.fpOk hle (I1.hok.fresh hle)
/-! ### the denotation -/
def srcG (d : D) : Option (Bool × Src) := match d with
  | .tup ds => some (true, .fix ds)
  | .ktp ds => some (true, .fix ds)
  | d => match srcOf d with
    | some s => some (false, s)
    | none => none
def SrcG (c : Bool) (Γ : Gm) (π0 : Pl) (H0 : Hp) (a : Addr) (s : Src) : Prop := ∀ π H st, Kp π0 H0 π H → StR Γ π H st → ∃ vs ds, SqG c Γ.K H a vs ∧ RepL Γ π H vs ds ∧ ∀ i, s.at_ i st = ds[i]?
theorem srcG_ok {Γ : Gm} {π : Pl} {H : Hp} {v : V} {d : D} {c : Bool} {s : Src} (r : Rep Γ π H v d) (h : srcG d = some (c, s)) : ∃ a, v = .ref a ∧ SrcG c Γ π H a s := by
  have lists : ∀ {d : D}, Rep Γ π H v d → (match srcOf d with
    | some s => some (false, s)
    | none => none) = some (c, s) → ∃ a, v = .ref a ∧ SrcG c Γ π H a s := fun {d} r h => by
    cases e : srcOf d with
    | none => rw [e] at h; cases h
    | some s' =>
      rw [e] at h
      cases h
      exact srcOf_ok r e
  cases d with
  | tup ds =>
    cases h
    exact srcT_ok r
  | ktp ds =>
    cases h
    exact srcK_ok r
  | non => exact lists (d := .non) r h
  | bl _ => exact lists (d := .bl _) r h
  | int _ => exact lists (d := .int _) r h
  | str _ => exact lists (d := .str _) r h
  | lst _ => exact lists (d := .lst _) r h
  | rol _ => exact lists (d := .rol _) r h
  | cell _ => exact lists (d := .cell _) r h
  | dic _ => exact lists (d := .dic _) r h
  | xz _ => exact lists (d := .xz _) r h
  | xo _ _ => exact lists (d := .xo _ _) r h
theorem itr_zipG {Γ : Gm} {π : Pl} {H : Hp} {c1 c2 : Bool} {a b : Addr} {s t : Src} (h : SrcG c1 Γ π H a s) (h2 : SrcG c2 Γ π H b t) : ItR Γ π H (ItzG Γ.K c1 c2 a b) (.zip s t) where
  go := fun π' H' st i d k S e => by
    obtain ⟨x, y, ex, ey, _⟩ := zip_at e
    obtain ⟨vs, ds, hq, rl, f⟩ := h π' H' st k S
    obtain ⟨ws, es, hq2, rl2, f2⟩ := h2 π' H' st k S
    obtain ⟨v, ev, _⟩ := rl.get (show ds[i]? = some x by rw [← f]; exact ex)
    obtain ⟨w, ew, _⟩ := rl2.get (show es[i]? = some y by rw [← f2]; exact ey)
    exact ⟨vs, ws, v, w, hq, hq2, ev, ew⟩
  stop := fun π' H' st i k S e => by
    obtain ⟨vs, ds, hq, rl, f⟩ := h π' H' st k S
    obtain ⟨ws, es, hq2, rl2, f2⟩ := h2 π' H' st k S
    refine ⟨vs, ws, hq, hq2, (zip_no e).imp (fun z => rl.none (show ds[i]? = none by rw [← f]; exact z)) fun z => rl2.none (show es[i]? = none by rw [← f2]; exact z)⟩
  yld := fun π' H' st i d x H2 k S e y => by
    obtain ⟨x0, y0, ex, ey, rfl⟩ := zip_at e
    obtain ⟨vs, ds, hq, rl, f⟩ := h π' H' st k S
    obtain ⟨ws, es, hq2, rl2, f2⟩ := h2 π' H' st k S
    obtain ⟨v, ev, rv⟩ := rl.get (show ds[i]? = some x0 by rw [← f]; exact ex)
    obtain ⟨w, ew, rw'⟩ := rl2.get (show es[i]? = some y0 by rw [← f2]; exact ey)
    obtain ⟨T, z1, z2, rfl, hT, rfl, g1, g2⟩ := y
    have ex1 := Option.some.inj ((g1 vs hq).symm.trans ev)
    have ex2 := Option.some.inj ((g2 ws hq2).symm.trans ew)
    subst ex1; subst ex2
    exact pair_new S hT rv rw'
def itZG (ds : List D) : Option Itb := match ds with
  | [a, b] => match srcG a, srcG b with
    | some (_, s), some (_, t) => some (.zip s t)
    | _, _ => none
  | _ => none
section
variable {X : Cx} {W : WX} {ce : Nat → Option Addr} {fe : Nat → Str} {tb : List Addr} {e e2 : Expr} {ml : Env → Sto → Rs (List D)} {p pos tpos : Pos} {elts : List Expr} {kk : Nat}
theorem di_zipG (hg : Gl X "zip") (hm : X.mg "zip" = none) (ha : PA X [e, e2] (tL (gx X ce fe tb) W ml)) (hs : starEach [e, e2] X.env = (false, eval e X.env) :: starEach [e2] X.env := by rfl) (hpl : (backTo pos (starEach [e2] X.env)).any (·.1) = false := by rfl) :
    PI X (.Tuple elts kk tpos) (.Call (.Name "zip" p) [e, e2] [] pos) (tI (gx X ce fe tb) W (mIns itZG ml)) := by
  refine imI (pi_zipG hg hm ha hs hpl) fun σ H R q => tI_by q fun π1 H1 v d st1 it S r e rr => ?_
  unfold itZG at e
  split at e
  · rename_i a b
    split at e
    · rename_i c1 s c2 t ea eb
      cases e
      obtain ⟨v0, vr, rfl, r1, r2⟩ := r
      obtain ⟨v1, vr2, rfl, r3, r4⟩ := r2
      rw [show vr2 = [] from r4]
      obtain ⟨p, rfl, hs⟩ := srcG_ok r1 ea
      obtain ⟨q, rfl, ht⟩ := srcG_ok r3 eb
      obtain ⟨vs, ds, hq, _⟩ := hs π1 H1 st1 Ext.refl.toKp S
      obtain ⟨ws, es, hq2, _⟩ := ht π1 H1 st1 Ext.refl.toKp S
      exact ⟨p, q, vs, ws, c1, c2, rfl, hq, hq2, rr _ (itr_zipG hs ht)⟩
    · cases e
  · cases e
end
end Dn
end

section
set_option Elab.async false
set_option linter.all false
set_option maxRecDepth 100000
set_option maxHeartbeats 2000000
/-! [f, g, ..][e](..) -/
namespace Dn
open PySem PySem.Spec PyProof.Rows L2

/-- where it stands -/
def ixF (n : Nat) (d : D) : Option Nat := match d with
  | .int i => ixN n i
  | _ => none
def mPick (Fs : List (List D → Sto → Rs D)) (md : Env → Sto → Rs D) (ml : Env → Sto → Rs (List D)) : Env → Sto → Rs D := fun env st => (md env st).bind fun d st1 => match ixF Fs.length d with
  | some j => match Fs[j]? with
    | some F => (ml env st1).bind F
    | none => .no
  | none => .no
/-- a def that is picked -/
def FnPk (X : Cx) (Γ : Gm) (n : Nat) (f : Addr) (F : List D → Sto → Rs D) : Prop := ∃ (k : Nat) (fd : FuncData) (ps : List Str), FnOk X.prog X.w X.K X.mg X.base (L2.CX X.prog X.w) k f fd ps (spM Γ n F) ∧ Room k X.A ∧ PySem.W.keepIn X.K (.ref f) = true ∧ Binds X.K fd ps []
inductive Pks (X : Cx) (Γ : Gm) (n : Nat) : List Addr → List (List D → Sto → Rs D) → Prop
  | nil : Pks X Γ n [] []
  | cons {f : Addr} {F : List D → Sto → Rs D} {fs : List Addr} {Fs : List (List D → Sto → Rs D)} (h : FnPk X Γ n f F) (r : Pks X Γ n fs Fs) : Pks X Γ n (f :: fs) (F :: Fs)
theorem Pks.at {X : Cx} {Γ : Gm} {n : Nat} {fs : List Addr} {Fs : List (List D → Sto → Rs D)} (h : Pks X Γ n fs Fs) : ∀ {j : Nat} {F : List D → Sto → Rs D}, Fs[j]? = some F → ∃ f, fs[j]? = some f ∧ FnPk X Γ n f F := by
  induction h with
  | nil => intro j F e; simp at e
  | @cons f F0 fs Fs h r ih =>
    intro j F e
    cases j with
    | zero =>
      have e' : some F0 = some F := e
      cases e'
      exact ⟨f, rfl, h⟩
    | succ j =>
      obtain ⟨f', e1, e2⟩ := ih (j := j) (F := F) e
      exact ⟨f', e1, e2⟩
theorem Pks.len {X : Cx} {Γ : Gm} {n : Nat} {fs : List Addr} {Fs : List (List D → Sto → Rs D)} (h : Pks X Γ n fs Fs) : fs.length = Fs.length := by
  induction h with
  | nil => rfl
  | cons _ _ ih => rw [List.length_cons, List.length_cons, ih]
section
variable {X : Cx} {W : WX} {n : Nat} {fs : List Addr} {Fs : List (List D → Sto → Rs D)} {ns : List Expr} {ix e : Expr} {es : List Expr} {md : Env → Sto → Rs D} {ml : Env → Sto → Rs (List D)} {lp sp pos : Pos} {ce : Nat → Option Addr} {fe : Nat → Str} {tb : List Addr}
/-- the name of a def, as a value -/
theorem pe_fn {x : Str} {f : Addr} {p : Pos} (hg : Gl X x) (hm : X.mg x = some (.ref f)) (hd : (x == ("__debug__" : Str)) = false := by decide) : PE X (.Name x p) (tC (.ref f)) := pe_glob hg hm rfl hd
/-- what the call is made of -/
theorem pick_of (hp : Pks X (gx X ce fe tb) n fs Fs) (hl : Fs.length ≤ 1000) {σ : L2.St} {H : Hp} {Q : VK} (h : tE (gx X ce fe tb) W (mPick Fs md ml) σ H Q) :
    tOp (rIxL X.K) (tLst (tCs (fs.map V.ref))) (tE (gx X ce fe tb) W md) σ H fun v H2 => ∃ (f : Addr) (F : List D → Sto → Rs D) (π : Pl) (env : Env) (st : Sto), v = .ref f ∧ FnPk X (gx X ce fe tb) n f F ∧ EnvR (gx X ce fe tb) π H2 σ env ∧ StR (gx X ce fe tb) π H2 st ∧ Out (gx X ce fe tb) (Rep (gx X ce fe tb)) W σ π H2 ((ml env st).bind F) Q := by
  obtain ⟨π, env, st, E, S, h⟩ := h
  refine ⟨by rw [List.length_map, hp.len, sizeLine_eq]; omega, fun p hpn => ?_⟩
  have hr := S.fresh hpn
  refine bindG (E.ext (ext_new hpn).toKp) (S.new hpn) (Out.ext (ext_new hpn) h) fun π1 H2 y d st1 e1 E1 S1 r1 h1 => ?_
  have hP : H2 p = some (.lst (fs.map V.ref)) := e1.keep p _ upd_same rfl hr
  split at h1
  · rename_i j hj
    split at h1
    · rename_i F hF
      obtain ⟨f, ef, hpk⟩ := hp.at hF
      cases d with
      | int i =>
        have hj' : ixN Fs.length i = some j := hj
        refine ⟨p, fs.map V.ref, i, .ref f, rfl, r1, SqL.of hP, ?_, f, F, π1, env, st1, rfl, hpk, E1, S1, h1⟩
        unfold atI
        rw [List.length_map, hp.len, hj', Option.bind_some, List.getElem?_map, ef]
        rfl
      | _ => cases hj
    · exact h1.elim
  · exact h1.elim
theorem den_pick (hp : Pks X (gx X ce fe tb) n fs Fs) (hl : Fs.length ≤ 1000) (hns : PA X ns (tCs (fs.map V.ref))) (hi : PE X ix (tE (gx X ce fe tb) W md)) (tk : Takes X W) (ha : PA X (e :: es) (tL (gx X ce fe tb) W ml)) (hn : (e :: es).length = n) (hlen : ∀ env st ds st', ml env st = .ok ds st' → ds.length = (e :: es).length)
    (hs : PlainIx ix := by exact fun _ _ => rfl) (he : starEach (e :: es) X.env = (false, eval e X.env) :: starEach es X.env := by rfl) (hpl : (backTo pos (starEach es X.env)).any (·.1) = false := by rfl) :
    PE X (.Call (.Subscript (.List ns lp) ix sp) (e :: es) [] pos) (tE (gx X ce fe tb) W (mPick Fs md ml)) := by
  refine ⟨fun pins s σ H Q I h => ?_⟩
  show wpAny _ _ (eval (.Subscript (.List ns lp) ix sp) X.env >>= fun f => callWith pos f [] (backTo pos (starEach (e :: es) X.env)) (backToKw pos (keywordEach [] X.env))) _ _ _
  refine wpAny_bind (thn ((pe_ix ix_list (pe_lst hns) hi hs).run pins s σ H _ I (pick_of hp hl h)) fun u s1 ⟨v, H1, I1, rv, f, F, π, env, st, ev, hpk, E, S, o⟩ => ?_)
  subst ev
  obtain rfl : u = Value.ref f := rv
  obtain ⟨k, fd, ps, G, hr, hk, hb⟩ := hpk
  have rd : tL (gx X ce fe tb) W ml σ H1 fun vs H2 => spM (gx X ce fe tb) n F vs H2 Q (fun c d H' => W c d σ H') := by
    refine ⟨π, env, st, E, S, ?_⟩
    cases q : ml env st with
    | ex x st1 => rw [q] at o; exact o
    | no => rw [q] at o; exact o
    | ok ds st1 =>
      rw [q] at o
      intro π1 H2 vs e1 S1 r1
      exact call_of S1 r1 (by rw [r1.length, hlen env st ds st1 q, hn]) (Out.ext e1 o)
  refine PySem.W.callWith_K (h₀ := X.base) I.ok.mod.kin hk (thn (ha.run pos pins s1 σ H1 _ I1 rd) fun us s2 ⟨vs, H2, I2, r, q⟩ => ⟨I2.kIn, ?_⟩) he hpl
  exact run_fnSD (ds := []) (dvs := []) (E := fun σ c d H' => W c d σ H') G hr hb .nil (passAt tk σ) I2 r (by rw [List.append_nil]; exact q)
theorem den_pick0 (hp : Pks X (gx X ce fe tb) 0 fs Fs) (hl : Fs.length ≤ 1000) (hns : PA X ns (tCs (fs.map V.ref))) (hi : PE X ix (tE (gx X ce fe tb) W md)) (tk : Takes X W) (hs : PlainIx ix := by exact fun _ _ => rfl) :
    PE X (.Call (.Subscript (.List ns lp) ix sp) [] [] pos) (tE (gx X ce fe tb) W (mPick Fs md lNil)) := by
  refine ⟨fun pins s σ H Q I h => ?_⟩
  show wpAny _ _ (eval (.Subscript (.List ns lp) ix sp) X.env >>= fun f => callWith pos f [] (backTo pos (starEach [] X.env)) (backToKw pos (keywordEach [] X.env))) _ _ _
  refine wpAny_bind (thn ((pe_ix ix_list (pe_lst hns) hi hs).run pins s σ H _ I (pick_of hp hl h)) fun u s1 ⟨v, H1, I1, rv, f, F, π, env, st, ev, hpk, E, S, o⟩ => ?_)
  subst ev
  obtain rfl : u = Value.ref f := rv
  obtain ⟨k, fd, ps, G, hr, hk, hb⟩ := hpk
  have q : spM (gx X ce fe tb) 0 F [] H1 Q (fun c d H' => W c d σ H') := call_of (ds := []) S rfl rfl o
  refine PySem.W.callWith_K0 I1.kIn hk ?_
  exact run_fnSD (us := []) (vs := []) (ds := []) (dvs := []) (E := fun σ c d H' => W c d σ H') G hr hb .nil (passAt tk σ) I1 .nil q
end
end Dn
end

section
set_option Elab.async false
set_option linter.all false
set_option maxRecDepth 100000
set_option maxHeartbeats 4000000
/-! The draws of the laws, on the side of the denotations. -/
namespace Dn
open PySem PySem.Spec PyProof.Rows L2

/-! ### the helpers that the laws share -/
def uBox (c : Int) : List D → Sto → Rs D := dFn 3 (sSeq (sAsg (gNm 2) (mIf (asT (m2 (fLt) (mVar 1) (mCall fLen (lCons (mVar 0) (lNil))))) (m2 fIx (mVar 0) (mVar 1)) (mC (.int 0)))) (sRet (mLst true (lCons (m2 (fMul false) (mCall fAbs (lCons (mVar 2) (lNil))) (mCall fInt (lCons (m2 (fGe) (mCall fAbs (lCons (mVar 2) (lNil))) (m2 (fPow) (mC (.int 10)) (mC (.int 18)))) (lNil)))) (lCons (m2 (fAdd false) (m2 (fAdd false) (m2 (fModA) (mCall fInt (lCons (mVar 2) (lNil))) (mC (.int 2305843009213693951))) (m2 (fMul false) (mC (.int 39373)) (mVar 1))) (mC (.int c))) (lCons (mC (.int 0)) (lNil)))))))
def uTake : List D → Sto → Rs D := dFn 6 (sSeq (sIf (asT (m2 (fGt) (m2 fIx (mVar 0) (mC (.int 0))) (mC (.int 0)))) (sSeq (sAsg (gNm 5) (m2 (fModA) (mCall fInt (lCons (m2 fIx (mVar 0) (mC (.int 0))) (lNil))) (mVar 1))) (sSeq (sSet (mVar 0) (mC (.int 0)) (m2 (fDivA) (m2 fIx (mVar 0) (mC (.int 0))) (mVar 1))) (sRet (mVar 5)))) (sNil)) (sSeq (sSet (mVar 0) (mC (.int 2)) (m2 (fAdd false) (m2 fIx (mVar 0) (mC (.int 2))) (mC (.int 1)))) (sSeq (sAsg (gNm 2) (m2 (fModA) (mCall fInt (lCons (m2 (fMul false) (m2 (fAdd false) (m2 fIx (mVar 0) (mC (.int 1))) (m2 (fMul false) (mC (.int 48271)) (m2 fIx (mVar 0) (mC (.int 2))))) (m2 (fAdd false) (mC (.int 39373)) (m2 fIx (mVar 0) (mC (.int 2))))) (lNil))) (mC (.int 2147483647)))) (sSeq (sAsg (gNm 3) (m2 (fAdd false) (m2 (fModA) (mCall fInt (lCons (mVar 2) (lNil))) (mC (.int 40009))) (mC (.int 7)))) (sSeq (sAsg (gNm 4) (m2 (fModA) (mCall fInt (lCons (m2 (fMul false) (m2 (fAdd false) (m2 (fAdd false) (mVar 2) (m2 fIx (mVar 0) (mC (.int 2)))) (m2 (fDivA) (m2 fIx (mVar 0) (mC (.int 1))) (mC (.int 1000003)))) (mVar 3)) (lNil))) (mC (.int 2147483629)))) (sRet (m2 (fModA) (mCall fInt (lCons (m2 (fDivA) (m2 (fModA) (mCall fInt (lCons (m2 (fAdd false) (m2 (fMul false) (mVar 4) (mC (.int 48271))) (mVar 2)) (lNil))) (mC (.int 2147483587))) (mC (.int 64))) (lNil))) (mVar 1))))))))
def uCells : List D → Sto → Rs D := dFn 6 (sSeq (sAsg (gNm 2) (mOr (mCall (fList true) (lCons (mSl false (mVar 0) (oNone) (oSome (mVar 1))) (lNil))) (mLst true (lCons (mC (.int 0)) (lNil))))) (sSeq (sFor (mIns itE (lCons (mSl false (mVar 0) (oSome (mVar 1)) (oSome (mC (.int 63)))) (lNil))) (gTp 2 (gsCons (gNm 3) (gsCons (gNm 4) (gsNil)))) (sSeq (sAsg (gNm 5) (m2 (fModA) (mCall fInt (lCons (mVar 3) (lNil))) (mVar 1))) (sSet (mVar 2) (mVar 5) (m2 (fAdd false) (m2 fIx (mVar 2) (mVar 5)) (m2 (fMul false) (mVar 4) (m2 (fAdd false) (mVar 3) (mC (.int 2)))))))) (sRet (mVar 2))))
def uOf : List D → Sto → Rs D := dFn 2 (sRet (m2 fIx (mVar 1) (mCall (uTake) (lCons (mVar 0) (lCons (mCall fLen (lCons (mVar 1) (lNil))) (lNil))))))
theorem ixN3_0 : ixN 3 0 = some 0 := by decide
theorem ixN3_1 : ixN 3 1 = some 1 := by decide
theorem ixN3_2 : ixN 3 2 = some 2 := by decide
theorem cMul_l {i j : Int} (h1 : -18446744073709551616 < i) (h2 : i < 18446744073709551616) : cMul i j = true := by
  unfold cMul
  simp
  omega
theorem cMul_r {i j : Int} (h1 : -18446744073709551616 < j) (h2 : j < 18446744073709551616) : cMul i j = true := by
  unfold cMul
  simp
  omega
def drawI (b c low : Int) : Int :=
  let once := (b + 48271 * c) * (39373 + c) % 2147483647
  let wide := once % 40009 + 7
  let twice := (once + c + b / 1000003) * wide % 2147483629
  (twice * 48271 + once) % 2147483587 / 64 % low
theorem log_small {n : Nat} (h : n < 2 ^ 64) : n.log2 < 9000 := by
  by_cases hz : n = 0
  · subst hz; decide
  · have := (Nat.log2_lt hz (k := 64)).mpr h
    omega
theorem take_raw (n : Nat) (st : Sto) (a b c low : Int) (h : st[n]? = some (.lst [.int a, .int b, .int c])) (ha : 0 ≤ a) (hb : 0 ≤ b) (hb2 : b < 2^62) (hc : 0 ≤ c) (hc2 : c < 2^20) (hl : 0 < low) (hl2 : low < 2 ^ 63) :
    ∃ r a' c', uTake [.cell n, .int low] st = .ok (.int r) (st.set n (.lst [.int a', .int b, .int c'])) ∧ 0 ≤ r ∧ r < low ∧ 0 ≤ a' ∧ c ≤ c' ∧ c' ≤ c + 1 := by
  have hn : n < st.length := (List.getElem?_eq_some_iff.mp h).1
  have hl2 : low.natAbs.log2 < 9000 := log_small (by omega)
  unfold uTake dFn startE
  by_cases hpos : 0 < a
  · refine ⟨a % low, a / low, c, ?_, Int.emod_nonneg _ (by omega), Int.emod_lt_of_pos _ hl, Int.ediv_nonneg ha (by omega), Int.le_refl _, by omega⟩
    simp [sSeq, sIf, asT, m2, mVar, mC, Rs.bind, Rs.thn, sAsg, gNm, sSet, sRet, mCall, lCons, lNil, fIx, fInt, h, getL, getS, sNil, atI, ixN3_0, ixN3_1, ixN3_2, fGt, fOrder, Dn.opI, hpos, fModA, fDivA, hl, hl2, fSet]
  · have ha0 : a = 0 := by omega
    subst ha0
    refine ⟨drawI b (c + 1) low, 0, c + 1, ?_, Int.emod_nonneg _ (by omega), Int.emod_lt_of_pos _ hl, Int.le_refl _, by omega, Int.le_refl _⟩
    have k1 : cMul (b + 48271 * (c + 1)) (39373 + (c + 1)) = true := cMul_r (by omega) (by omega)
    have k2 : cMul 48271 (c + 1) = true := cMul_l (by omega) (by omega)
    have k3 : ∀ x y : Int, cMul y (x % 40009 + 7) = true := fun x y => cMul_r (by omega) (by omega)
    have k4 : ∀ x : Int, cMul x 48271 = true := fun x => cMul_r (by omega) (by omega)
    have h5 : Nat.log2 1000003 < 9000 := log_small (by decide)
    have h6 : Nat.log2 64 < 9000 := log_small (by decide)
    have hs : (st.set n (.lst [.int 0, .int b, .int (c + 1)]))[n]? = some (.lst [.int 0, .int b, .int (c + 1)]) := by rw [List.getElem?_set_self hn]
    simp [k1, k2, k3, k4, h5, h6, sSeq, sIf, asT, m2, mVar, mC, Rs.bind, Rs.thn, sAsg, gNm, sSet, sRet, mCall, lCons, lNil, fIx, fInt, h, hs, getL, getS, sNil, atI, ixN3_0, ixN3_1, ixN3_2, fGt, fOrder, Dn.opI, fModA, fDivA, hl, hl2, fSet, fAdd, fMul, drawI]

/-- a source of draws at n: at most N of its later numbers are drawn -/
def Urn (n N : Nat) (st : Sto) : Prop := ∃ a b c : Int, st[n]? = some (.lst [.int a, .int b, .int c]) ∧ 0 ≤ a ∧ 0 ≤ b ∧ b < 2 ^ 62 ∧ 0 ≤ c ∧ c ≤ N
/-- nothing that was there is another, but the cell n -/
def Keep (n : Nat) (st st' : Sto) : Prop := st.length ≤ st'.length ∧ ∀ j, j < st.length → j ≠ n → st'[j]? = st[j]?
theorem Keep.rfl' (n : Nat) (st : Sto) : Keep n st st := ⟨Nat.le_refl _, fun _ _ _ => rfl⟩
theorem Keep.trans {n : Nat} {a b c : Sto} (h : Keep n a b) (k : Keep n b c) : Keep n a c :=
  ⟨Nat.le_trans h.1 k.1, fun j hj hn => (k.2 j (Nat.lt_of_lt_of_le hj h.1) hn).trans (h.2 j hj hn)⟩
theorem Urn.lt {n N : Nat} {st : Sto} (h : Urn n N st) : n < st.length := by
  obtain ⟨a, b, c, h, _⟩ := h
  exact (List.getElem?_eq_some_iff.mp h).1
theorem Urn.le {n N M : Nat} {st : Sto} (h : Urn n N st) (k : N ≤ M) : Urn n M st := by
  obtain ⟨a, b, c, h, h1, h2, h3, h4, h5⟩ := h
  exact ⟨a, b, c, h, h1, h2, h3, h4, by omega⟩
theorem take_ok {n N : Nat} {st : Sto} {low : Int} (h : Urn n N st) (hN : N < 2 ^ 20) (hl : 0 < low) (hl2 : low < 2 ^ 63) :
    ∃ r st', uTake [.cell n, .int low] st = .ok (.int r) st' ∧ 0 ≤ r ∧ r < low ∧ Urn n (N + 1) st' ∧ Keep n st st' ∧ st'.length = st.length := by
  have hlt := h.lt
  obtain ⟨a, b, c, h, h1, h2, h3, h4, h5⟩ := h
  obtain ⟨r, a', c', e, e1, e2, e3, e4, e5⟩ := take_raw n st a b c low h h1 h2 h3 h4 (by omega) hl hl2
  refine ⟨r, _, e, e1, e2, ⟨a', b, c', by rw [List.getElem?_set_self hlt], e3, h2, h3, by omega, by omega⟩, ⟨by rw [List.length_set]; exact Nat.le_refl _, fun j hj hn => ?_⟩, by rw [List.length_set]⟩
  rw [List.getElem?_set_ne (Ne.symm hn)]

/-! ### a loop with an invariant -/
theorem loopF_inv {b : Itb} {tg : D → Env → Option Env} {body : Env → Sto → Sr} (I : Nat → Env → Sto → Prop) (m : Nat)
    (step : ∀ i env st, I i env st → i < m → ∃ d env', b.at_ i st = some d ∧ tg d env = some env' ∧ ∃ e s, (body env' st = .nx e s ∨ body env' st = .ct e s) ∧ I (i + 1) e s)
    (stop : ∀ env st, I m env st → b.at_ m st = none) :
    ∀ (n i : Nat) (env : Env) (st : Sto), m < n + i → i ≤ m → I i env st → ∃ e s, loopF b tg body n i env st = .nx e s ∧ I m e s
  | 0, i, env, st, h, h1, _ => by omega
  | n + 1, i, env, st, h, h1, hi => by
    by_cases hm : i = m
    · subst hm
      refine ⟨env, st, ?_, hi⟩
      unfold loopF
      rw [stop env st hi]
    · obtain ⟨d, env', e1, e2, e, s, e3, e4⟩ := step i env st hi (by omega)
      obtain ⟨x, y, hx, hy⟩ := loopF_inv I m step stop n (i + 1) e s (by omega) (by omega) e4
      refine ⟨x, y, ?_, hy⟩
      unfold loopF
      rw [e1]
      dsimp only
      rw [e2]
      dsimp only
      rcases e3 with e3 | e3
      · rw [e3]; exact hx
      · rw [e3]; exact hx
theorem box_ok {c : Int} (hc : 0 ≤ c) (hc2 : c < 1000000000) {m : Nat} {l : List Int} {st : Sto} {k : Nat} (hk : k < 1000) (h : st[m]? = some (.lst (l.map D.int))) :
    ∃ st', uBox c [.cell m, .int k] st = .ok (.cell st.length) st' ∧ Urn st.length 0 st' ∧ st'.length = st.length + 1 ∧ ∀ j, j < st.length → st'[j]? = st[j]? := by
  have key : ∀ z : Int, ∃ a b : Int, 0 ≤ a ∧ 0 ≤ b ∧ b < 2 ^ 62 ∧
      (sRet (mLst true (lCons (m2 (fMul false) (mCall fAbs (lCons (mVar 2) (lNil))) (mCall fInt (lCons (m2 (fGe) (mCall fAbs (lCons (mVar 2) (lNil))) (m2 (fPow) (mC (.int 10)) (mC (.int 18)))) (lNil)))) (lCons (m2 (fAdd false) (m2 (fAdd false) (m2 (fModA) (mCall fInt (lCons (mVar 2) (lNil))) (mC (.int 2305843009213693951))) (m2 (fMul false) (mC (.int 39373)) (mVar 1))) (mC (.int c))) (lCons (mC (.int 0)) (lNil)))))) [some (.cell m), some (.int k), some (.int z)] st = .rt (.cell st.length) (st ++ [.lst [.int a, .int b, .int 0]]) := by
    intro z
    have p1 : (10 : Int) ^ (18 : Int).toNat = 1000000000000000000 := by decide
    have p2 : cPow 10 18 = true := by decide
    have p3 : cMul 39373 (k : Int) = true := cMul_l (by omega) (by omega)
    have p5 : (3 : Nat) ≤ sz := by decide
    obtain ⟨w, hw, hw0⟩ : ∃ w : Int, (if z < 0 then -z else z) = w ∧ 0 ≤ w := ⟨_, rfl, by split <;> omega⟩
    by_cases hz : 1000000000000000000 ≤ w
    · have p4 : cMul w 1 = true := cMul_r (by omega) (by omega)
      refine ⟨w, z % 2305843009213693951 + 39373 * (k : Int) + c, by omega, by omega, by omega, ?_⟩
      simp [sRet, mLst, lCons, lNil, m2, mVar, mC, mCall, Rs.bind, Rs.thn, fAbs, fInt, fGe, fOrder, fPow, opI, fMul, fAdd, fModA, hw, p1, p2, p3, p4, p5, hz, mkL]
    · have p4 : cMul w 0 = true := cMul_r (by omega) (by omega)
      refine ⟨0, z % 2305843009213693951 + 39373 * (k : Int) + c, by omega, by omega, by omega, ?_⟩
      simp [sRet, mLst, lCons, lNil, m2, mVar, mC, mCall, Rs.bind, Rs.thn, fAbs, fInt, fGe, fOrder, fPow, opI, fMul, fAdd, fModA, hw, p1, p2, p3, p4, p5, hz, mkL]
  have fin : ∀ z : Int, uBox c [.cell m, .int k] st = (match (sRet (mLst true (lCons (m2 (fMul false) (mCall fAbs (lCons (mVar 2) (lNil))) (mCall fInt (lCons (m2 (fGe) (mCall fAbs (lCons (mVar 2) (lNil))) (m2 (fPow) (mC (.int 10)) (mC (.int 18)))) (lNil)))) (lCons (m2 (fAdd false) (m2 (fAdd false) (m2 (fModA) (mCall fInt (lCons (mVar 2) (lNil))) (mC (.int 2305843009213693951))) (m2 (fMul false) (mC (.int 39373)) (mVar 1))) (mC (.int c))) (lCons (mC (.int 0)) (lNil)))))) [some (.cell m), some (.int k), some (.int z)] st with
    | .nx _ st' => .ok .non st'
    | .rt d st' => .ok d st'
    | .ex x _ st' => .ex x st'
    | _ => .no) → ∃ st', uBox c [.cell m, .int k] st = .ok (.cell st.length) st' ∧ Urn st.length 0 st' ∧ st'.length = st.length + 1 ∧ ∀ j, j < st.length → st'[j]? = st[j]? := by
    intro z hz
    obtain ⟨a, b, h1, h2, h3, h4⟩ := key z
    rw [h4] at hz
    refine ⟨_, hz, ⟨a, b, 0, by simp, h1, h2, h3, Int.le_refl _, by simp⟩, by simp, fun j hj => List.getElem?_append_left hj⟩
  by_cases hkl : (k : Int) < l.length
  · have hq : k < l.length := by omega
    refine fin l[k] ?_
    have q1 : ixN l.length (k : Int) = some k := by
      unfold ixN
      rw [if_pos (by omega), if_pos hkl]
      rfl
    have q2 : (l.map D.int)[k]? = some (.int l[k]) := by rw [List.getElem?_map, List.getElem?_eq_getElem hq]; rfl
    unfold uBox dFn startE
    simp only [sSeq, sAsg, gNm]
    simp [mIf, asT, m2, mVar, mCall, lCons, lNil, Rs.bind, Rs.thn, fLen, fLt, fOrder, fIx, getS, getL, h, atI, q1, q2, hkl, hq]
    all_goals rfl
  · refine fin 0 ?_
    unfold uBox dFn startE
    simp only [sSeq, sAsg, gNm]
    simp [mIf, asT, m2, mVar, mC, mCall, lCons, lNil, Rs.bind, Rs.thn, fLen, fLt, fOrder, fIx, getS, getL, h, hkl]
    all_goals rfl

theorem cutD_map {α β : Type} (f : α → β) (l : List α) (lo hi : Option Int) : cutD (l.map f) lo hi = (cutD l lo hi).map f := by
  unfold cutD
  rw [List.length_map, List.map_take, List.map_drop]
theorem cut_to {α : Type} (l : List α) (t : Nat) : cutD l none (some (t : Int)) = l.take t := by
  unfold cutD HT.sIx
  dsimp only
  rw [if_neg (by omega), Int.toNat_natCast, List.drop_zero, Nat.sub_zero]
  by_cases h : t ≤ l.length
  · rw [Nat.min_eq_left h]
  · rw [Nat.min_eq_right (by omega), List.take_length, List.take_of_length_le (by omega)]
theorem cut_at {α : Type} (l : List α) (t u : Nat) (h : t ≤ u) : cutD l (some (t : Int)) (some (u : Int)) = (l.take u).drop t := by
  unfold cutD HT.sIx
  dsimp only
  rw [if_neg (by omega), if_neg (by omega), Int.toNat_natCast, Int.toNat_natCast]
  rw [List.drop_take]
  by_cases h1 : t ≤ l.length
  · rw [Nat.min_eq_left h1]
    by_cases h2 : u ≤ l.length
    · rw [Nat.min_eq_left h2]
    · rw [Nat.min_eq_right (by omega), List.take_of_length_le (by simp), List.take_of_length_le (by simp; omega)]
  · rw [List.drop_eq_nil_of_le (as := l) (i := t) (by omega), show min u l.length - min t l.length = 0 by omega]
    simp
/-- a changed list of ints at n, that many -/
def Ints (n k : Nat) (st : Sto) : Prop := ∃ l : List Int, l.length = k ∧ st[n]? = some (.lst (l.map D.int))
theorem cells_loop {s0 : Sto} {ns : List Int} {top : Nat} {r1 r2 : Option D} {n : Nat} (ht : 0 < top) {ms : List Int} (hms : ms.length ≤ 63) :
    ∀ (f i : Nat) (env : Env) (st : Sto), ms.length < f + i → i ≤ ms.length → (∃ x y z, env = [r1, some (.int (top : Int)), some (.cell n), x, y, z]) → Ints n top st → s0.length ≤ n → (∀ j, j < s0.length → st[j]? = s0[j]?) →
      ∃ e s, loopF (.enum (.fix (ms.map D.int))) (gTp 2 (gsCons (gNm 3) (gsCons (gNm 4) (gsNil)))) (sSeq (sAsg (gNm 5) (m2 (fModA) (mCall fInt (lCons (mVar 3) (lNil))) (mVar 1))) (sSet (mVar 2) (mVar 5) (m2 (fAdd false) (m2 fIx (mVar 2) (mVar 5)) (m2 (fMul false) (mVar 4) (m2 (fAdd false) (mVar 3) (mC (.int 2))))))) f i env st = .nx e s
        ∧ (∃ x y z, e = [r1, some (.int (top : Int)), some (.cell n), x, y, z]) ∧ Ints n top s ∧ ∀ j, j < s0.length → s[j]? = s0[j]? := by
  intro f i env st h1 h2 h3 h4 h5 h6
  obtain ⟨e, s, a, b⟩ := loopF_inv (b := .enum (.fix (ms.map D.int))) (tg := gTp 2 (gsCons (gNm 3) (gsCons (gNm 4) (gsNil)))) (body := sSeq (sAsg (gNm 5) (m2 (fModA) (mCall fInt (lCons (mVar 3) (lNil))) (mVar 1))) (sSet (mVar 2) (mVar 5) (m2 (fAdd false) (m2 fIx (mVar 2) (mVar 5)) (m2 (fMul false) (mVar 4) (m2 (fAdd false) (mVar 3) (mC (.int 2)))))))
    (fun _ env st => (∃ x y z, env = [r1, some (.int (top : Int)), some (.cell n), x, y, z]) ∧ Ints n top st ∧ ∀ j, j < s0.length → st[j]? = s0[j]?) ms.length
    (by
      intro i env st hI hi
      obtain ⟨⟨x, y, z, rfl⟩, ⟨l, hl, hn⟩, hk⟩ := hI
      refine ⟨.tup [.int i, .int ms[i]], [r1, some (.int (top : Int)), some (.cell n), some (.int i), some (.int ms[i]), z], ?_, ?_, ?_⟩
      · unfold Itb.at_ Src.at_
        dsimp only
        rw [List.getElem?_map, List.getElem?_eq_getElem hi]
        rfl
      · simp [gTp, gsCons, gNm, gsNil]
      · have q1 : 0 < (top : Int) := by omega
        have q2 : ((i % top : Nat) : Int) = (i : Int) % (top : Int) := by simp
        have q3 : i % top < top := Nat.mod_lt _ ht
        have q4 : ixN top ((i : Int) % (top : Int)) = some (i % top) := by
          rw [← q2]
          unfold ixN
          rw [if_pos (by omega), if_pos (by omega)]
          rfl
        have q5 : (l.map D.int)[i % top]? = some (.int (l[i % top]'(by omega))) := by rw [List.getElem?_map, List.getElem?_eq_getElem (by omega)]; rfl
        have q6 : cMul ms[i] ((i : Int) + 2) = true := cMul_r (by omega) (by omega)
        have q7 : n < st.length := (List.getElem?_eq_some_iff.mp hn).1
        have q8 : i % top < l.length := by omega
        refine ⟨[r1, some (.int (top : Int)), some (.cell n), some (.int i), some (.int ms[i]), some (.int ((i : Int) % (top : Int)))], st.set n (.lst ((l.set (i % top) (l[i % top] + ms[i] * ((i : Int) + 2))).map D.int)), .inl ?_, ⟨some (.int i), some (.int ms[i]), some (.int ((i : Int) % (top : Int))), rfl⟩, ⟨l.set (i % top) (l[i % top] + ms[i] * ((i : Int) + 2)), by rw [List.length_set, hl], by rw [List.getElem?_set_self q7]⟩, fun j hj => ?_⟩
        · have q9 : (l.set (i % top) (l[i % top] + ms[i] * ((i : Int) + 2))).map D.int = (l.map D.int).set (i % top) (.int (l[i % top] + ms[i] * ((i : Int) + 2))) := List.map_set
          rw [q9]
          simp [sSeq, sAsg, gNm, m2, mCall, lCons, lNil, mVar, Rs.bind, Rs.thn, fInt, fModA, mC, fAdd, fMul, sSet, ht, q1, fIx, getS, getL, hn, atI, hl, q4, q5, q6, q8, fSet, List.getElem?_eq_getElem q8]
        · rw [List.getElem?_set_ne (by omega)]
          exact hk j hj)
    (by
      intro env st _
      unfold Itb.at_ Src.at_
      dsimp only
      rw [List.getElem?_eq_none (by rw [List.length_map]; exact Nat.le_refl _)])
    f i env st h1 h2 ⟨h3, h4, h6⟩
  exact ⟨e, s, a, b.1, b.2⟩

theorem cells_ok {ns : List Int} {top : Nat} (ht : 0 < top) (ht2 : top ≤ 63) (hns : ns.length ≤ 63) (st : Sto) :
    ∃ n k st', uCells [.rol (ns.map D.int), .int (top : Int)] st = .ok (.cell n) st' ∧ Ints n k st' ∧ 0 < k ∧ st.length ≤ n ∧ ∀ j, j < st.length → st'[j]? = st[j]? := by
  have p1 : (1 : Nat) ≤ sz := by decide
  by_cases h0 : ns = []
  · subst h0
    refine ⟨st.length + 1, 1, st ++ [.lst []] ++ [.lst [.int 0]], ?_, ⟨[0], rfl, by simp⟩, by omega, by omega, fun j hj => by rw [List.append_assoc]; exact List.getElem?_append_left hj⟩
    unfold uCells dFn startE
    simp [sSeq, sAsg, gNm, mOr, mCall, lCons, lNil, mSl, oNone, oSome, mVar, mC, Rs.bind, Rs.thn, fSl, getL, getS, mkL, fList, tru, mLst, sFor, mIns, itE, srcOf, loopF, Itb.at_, Itb.fuel, Src.at_, Src.len, cutD, sRet, p1]
  · have hc : cutD (ns.map D.int) none (some (top : Int)) = (ns.take top).map D.int := by rw [cut_to, List.map_take]
    have hd : cutD (ns.map D.int) (some (top : Int)) (some 63) = ((ns.take 63).drop top).map D.int := by
      have := cut_at (ns.map D.int) top 63 ht2
      rw [show ((63 : Nat) : Int) = 63 from rfl] at this
      rw [this, List.map_drop, List.map_take]
    have hlen : 0 < ns.length := List.length_pos_iff.mpr h0
    have hne : ns.take top ≠ [] := by
      intro h
      have := congrArg List.length h
      rw [List.length_take, List.length_nil] at this
      omega
    have hne2 : ((ns.map D.int).take top).isEmpty = false := by
      rw [← List.map_take]
      cases h : ns.take top with
      | nil => exact absurd h hne
      | cons _ _ => rfl
    have tail : ∀ (R : Sr) (k : Nat), (∃ e s, R = .nx e s ∧ (∃ x y z, e = [some (.rol (ns.map D.int)), some (.int (top : Int)), some (.cell st.length), x, y, z]) ∧ Ints st.length k s ∧ 0 < k ∧ ∀ j, j < st.length → s[j]? = st[j]?) →
        uCells [.rol (ns.map D.int), .int (top : Int)] st = (match (match R with
          | .nx e s => sRet (mVar 2) e s
          | r => r) with
          | .nx _ st' => .ok .non st'
          | .rt d st' => .ok d st'
          | .ex x _ st' => .ex x st'
          | _ => .no) →
        ∃ n k st', uCells [.rol (ns.map D.int), .int (top : Int)] st = .ok (.cell n) st' ∧ Ints n k st' ∧ 0 < k ∧ st.length ≤ n ∧ ∀ j, j < st.length → st'[j]? = st[j]? := by
      rintro R k ⟨e, s, rfl, ⟨x, y, z, rfl⟩, h1, h2, h3⟩ hR
      exact ⟨st.length, k, s, hR, h1, h2, Nat.le_refl _, h3⟩
    refine tail (loopF (.enum (.fix (((ns.take 63).drop top).map D.int))) (gTp 2 (gsCons (gNm 3) (gsCons (gNm 4) (gsNil)))) (sSeq (sAsg (gNm 5) (m2 (fModA) (mCall fInt (lCons (mVar 3) (lNil))) (mVar 1))) (sSet (mVar 2) (mVar 5) (m2 (fAdd false) (m2 fIx (mVar 2) (mVar 5)) (m2 (fMul false) (mVar 4) (m2 (fAdd false) (mVar 3) (mC (.int 2)))))))
      (((ns.take 63).drop top).length + 1) 0 [some (.rol (ns.map D.int)), some (.int (top : Int)), some (.cell st.length), none, none, none] (st ++ [.lst ((ns.take top).map D.int)])) (ns.take top).length ?_ ?_
    · have hI : Ints st.length (ns.take top).length (st ++ [.lst ((ns.take top).map D.int)]) := ⟨_, rfl, by simp⟩
      have hk : ∀ j, j < st.length → (st ++ [Cell.lst ((ns.take top).map D.int)])[j]? = st[j]? := fun j hj => List.getElem?_append_left hj
      by_cases hlt : top < ns.length
      · have ht3 : (ns.take top).length = top := by rw [List.length_take]; omega
        rw [ht3] at hI ⊢
        obtain ⟨e, s, a, b, c, d⟩ := cells_loop (s0 := st) (ns := ns) (r1 := some (.rol (ns.map D.int))) (r2 := none) (n := st.length) ht (ms := (ns.take 63).drop top) (by rw [List.length_drop, List.length_take]; omega)
          (((ns.take 63).drop top).length + 1) 0 _ _ (by omega) (by omega) ⟨none, none, none, rfl⟩ hI (Nat.le_refl _) hk
        exact ⟨e, s, a, b, c, ht, d⟩
      · have hnil : (ns.take 63).drop top = [] := List.drop_eq_nil_of_le (by rw [List.length_take]; omega)
        rw [hnil]
        exact ⟨_, _, rfl, ⟨none, none, none, rfl⟩, hI, by rw [List.length_take]; omega, hk⟩
    · unfold uCells dFn startE
      simp [sSeq, sAsg, gNm, mOr, mCall, lCons, lNil, mSl, oNone, oSome, mVar, mC, Rs.bind, Rs.thn, fSl, getL, getS, mkL, fList, tru, sFor, mIns, itE, srcOf, Itb.fuel, Src.len, hc, hd, hne2]
      all_goals rfl
theorem of_ok {n N : Nat} {st : Sto} {g : D} {ds : List D} (h : Urn n N st) (hN : N < 2 ^ 20) (hg : ∀ st', getS g st' = some ds) (hgs : ∀ l, g ≠ .str l) (hd : ds ≠ []) (hd2 : ds.length ≤ sz) :
    ∃ d st', uOf [.cell n, g] st = .ok d st' ∧ d ∈ ds ∧ Urn n (N + 1) st' ∧ Keep n st st' ∧ st'.length = st.length := by
  have hl : 0 < ds.length := List.length_pos_iff.mpr hd
  have hz : sz < 2 ^ 63 := by decide
  obtain ⟨r, st', e, e1, e2, e3, e4, e5⟩ := take_ok (low := (ds.length : Int)) h hN (by omega) (by omega)
  have hr : r.toNat < ds.length := by omega
  refine ⟨ds[r.toNat], st', ?_, List.getElem_mem hr, e3, e4, e5⟩
  have q1 : ixN ds.length r = some r.toNat := by
    unfold ixN
    rw [if_pos e1, if_pos e2]
  unfold uOf dFn startE
  have q2 : fIx g (.int r) st' = .ok ds[r.toNat] st' := by
    cases g with
    | str l => exact absurd rfl (hgs l)
    | _ => simp [fIx, hg, atI, q1, hr]
  have q3 : fLen [g] st = .ok (.int ds.length) st := by
    cases g with
    | str l => exact absurd rfl (hgs l)
    | _ => simp [fLen, hg]
  simp [sRet, m2, mVar, mCall, lCons, lNil, Rs.bind, Rs.thn, q3, e, q2]
end Dn
end

section
set_option Elab.async false
set_option linter.all false
set_option maxRecDepth 100000
set_option maxHeartbeats 4000000
/-! Lists that are told by their parts; equal, of the same kinds. -/
namespace Dn
open PySem PySem.Spec PyProof.Rows L2
theorem loopC_inv {b : Itb} {tg : D → Env → Option Env} {te : Env → Sto → Rs D} {env : Env} (I : Nat → Sto → Prop) (P : Nat → D → Prop) (m : Nat)
    (step : ∀ i st, I i st → i < m → ∃ d env', b.at_ i st = some d ∧ tg d env = some env' ∧ ∃ y s, te env' st = .ok y s ∧ P i y ∧ I (i + 1) s)
    (stop : ∀ st, I m st → b.at_ m st = none) :
    ∀ (n i : Nat) (st : Sto), m < n + i → i ≤ m → I i st → ∃ ys s, loopC b tg mYes te env n i st = .ok ys s ∧ ys.length = m - i ∧ (∀ j y, ys[j]? = some y → P (i + j) y) ∧ I m s
  | 0, i, st, h, h1, _ => by omega
  | n + 1, i, st, h, h1, hi => by
    by_cases hm : i = m
    · subst hm
      refine ⟨[], st, ?_, by simp, fun j y hy => by simp at hy, hi⟩
      unfold loopC
      rw [stop st hi]
    · obtain ⟨d, env', e1, e2, y, s, e3, e4, e5⟩ := step i st hi (by omega)
      obtain ⟨ys, s2, x1, x2, x3, x4⟩ := loopC_inv (te := te) (env := env) I P m step stop n (i + 1) s (by omega) (by omega) e5
      refine ⟨y :: ys, s2, ?_, by rw [List.length_cons, x2]; omega, fun j z hz => ?_, x4⟩
      · unfold loopC
        rw [e1]
        dsimp only
        rw [e2]
        simp only [mYes, Rs.bindN, e3, x1]
      · cases j with
        | zero => cases hz; exact e4
        | succ j =>
          have := x3 j z hz
          rwa [show i + 1 + j = i + (j + 1) by omega] at this
def uSameB (self0 : List D → Sto → Rs D) : Env → Sto → Sr := sSeq (sIf (asTru (mIsi [.list, .tuple] (mVar 1))) (sSeq (sIf (mOrT (asT (m2 (fEq true) (mIsi [.list] (mVar 0)) (mIsi [.list] (mVar 1)))) (asT (m2 (fEq true) (mIsi [.tuple] (mVar 0)) (mIsi [.tuple] (mVar 1))))) (sRet (mC (.bl false))) (sNil)) (sRet (mAnd (m2 (fEq false) (mCall fLen (lCons (mVar 0) (lNil))) (mCall fLen (lCons (mVar 1) (lNil)))) (mCall fAll (lCons (mLc false [2, 3] (mIns itZG (lCons (mVar 0) (lCons (mVar 1) (lNil)))) (gTp 2 (gsCons (gNm 2) (gsCons (gNm 3) (gsNil)))) (mYes) (mCall (self0) (lCons (mVar 2) (lCons (mVar 3) (lNil))))) (lNil)))))) (sNil)) (sSeq (sIf (mOrT (asT (m2 (fIs false) (mVar 1) (mC .non))) (asTru (mIsi [.bool, .str] (mVar 1)))) (sRet (mAnd (m2 (fEq false) (mVar 0) (mVar 1)) (mAnd (m2 (fEq false) (mIsi [.bool] (mVar 0)) (mIsi [.bool] (mVar 1))) (m2 (fEq false) (m2 (fIs false) (mVar 0) (mC .non)) (m2 (fIs false) (mVar 1) (mC .non)))))) (sNil)) (sRet (mAnd (mIsi [.int] (mVar 0)) (mAnd (mNot (mIsi [.bool] (mVar 0))) (m2 (fEq false) (mVar 0) (mVar 1))))))
def uSame : Nat → Nat → List D → Sto → Rs D
  | 0, _ => fun _ _ => .no
  | n + 1, _ => dFn 4 (uSameB (uSame n 0))
/-- equal, and of the same kinds at every depth, of no more than n -/
def eqv (st : Sto) : Nat → D → D → Prop
  | 0, _, _ => False
  | n + 1, a, b => match b with
    | .tup ys => ∃ xs, a = .tup xs ∧ xs.length = ys.length ∧ ys.length < sz ∧ ∀ (i : Nat) x y, xs[i]? = some x → ys[i]? = some y → eqv st n x y
    | .non => a = b
    | .bl _ => a = b
    | .int _ => a = b
    | .str _ => a = b
    | b => ∃ xs ys, getL a st = some xs ∧ getL b st = some ys ∧ xs.length = ys.length ∧ ys.length < sz ∧ ∀ (i : Nat) x y, xs[i]? = some x → ys[i]? = some y → eqv st n x y
theorem bls_true : ∀ {ys : List D}, (∀ (j : Nat) y, ys[j]? = some y → y = .bl true) → ∃ bs, blsOf ys = some bs ∧ bs.all id = true
  | [], _ => ⟨[], rfl, rfl⟩
  | y :: ys, h => by
    have h0 := h 0 y rfl
    subst h0
    obtain ⟨bs, e1, e2⟩ := bls_true (ys := ys) fun j z hz => h (j + 1) z hz
    refine ⟨true :: bs, ?_, by simpa using e2⟩
    unfold blsOf
    rw [e1]
/-- what is common to the two walks -/
theorem same_walk {st : Sto} {n : Nat} {a b : D} {xs ys : List D} {s t : Src} (ha : ∀ i, s.at_ i st = xs[i]?) (hb : ∀ i, t.at_ i st = ys[i]?) (hf : s.len st = xs.length) (hl : xs.length = ys.length) (hz : ys.length < sz)
    (hz2 : itZG [a, b] = some (.zip s t)) (h : ∀ (i : Nat) x y, xs[i]? = some x → ys[i]? = some y → uSame n 0 [x, y] st = .ok (.bl true) st) :
    mCall fAll (lCons (mLc false [2, 3] (mIns itZG (lCons (mVar 0) (lCons (mVar 1) (lNil)))) (gTp 2 (gsCons (gNm 2) (gsCons (gNm 3) (gsNil)))) (mYes) (mCall (uSame n 0) (lCons (mVar 2) (lCons (mVar 3) (lNil))))) (lNil)) [some a, some b, none, none] st = .ok (.bl true) st := by
  obtain ⟨zs, s2, x1, x2, x3, x4⟩ := loopC_inv (b := .zip s t) (tg := gTp 2 (gsCons (gNm 2) (gsCons (gNm 3) (gsNil)))) (te := mCall (uSame n 0) (lCons (mVar 2) (lCons (mVar 3) (lNil)))) (env := [some a, some b, none, none])
    (fun _ s' => s' = st) (fun _ y => y = .bl true) ys.length
    (by
      rintro i _ rfl hi
      have hx : xs[i]? = some (xs[i]'(by omega)) := List.getElem?_eq_getElem (by omega)
      have hy : ys[i]? = some ys[i] := List.getElem?_eq_getElem hi
      refine ⟨.tup [xs[i]'(by omega), ys[i]], [some a, some b, some (xs[i]'(by omega)), some ys[i]], ?_, ?_, .bl true, _, ?_, rfl, rfl⟩
      · unfold Itb.at_
        dsimp only
        rw [ha, hb, hx, hy]
      · simp [gTp, gsCons, gNm, gsNil]
      · simp [mCall, lCons, lNil, mVar, Rs.bind, h i _ _ hx hy])
    (by
      rintro _ rfl
      unfold Itb.at_
      dsimp only
      rw [ha, List.getElem?_eq_none (by omega)])
    (xs.length + 1) 0 st (by omega) (by omega) rfl
  subst x4
  obtain ⟨bs, e1, e2⟩ := bls_true (ys := zs) fun j y hy => x3 j y hy
  have hfu : (Itb.zip s t).fuel s2 = xs.length + 1 := by
    unfold Itb.fuel
    dsimp only
    rw [hf]
  have hle : xs.length + 1 ≤ sz := by omega
  have x5 : loopC (.zip s t) (gTp 2 (gsCons (gNm 2) (gsCons (gNm 3) (gsNil)))) mYes (mCall (uSame n 0) (lCons (mVar 2) (lCons (mVar 3) (lNil)))) (wipeE [some a, some b, none, none] [2, 3]) (xs.length + 1) 0 s2 = .ok zs s2 := x1
  simp [mCall, lCons, lNil, mLc, mIns, mVar, Rs.bind, hz2, hfu, hle, x5, Rs.bindN, mkL, fAll, getL, e1, e2]

theorem src_of_list {a : D} {xs : List D} {st : Sto} (h : getL a st = some xs) : ∃ k s, srcG a = some (k, s) ∧ (∀ i, s.at_ i st = xs[i]?) ∧ s.len st = xs.length := by
  cases a with
  | lst ds => cases h; exact ⟨_, .fix xs, rfl, fun _ => rfl, rfl⟩
  | rol ds => cases h; exact ⟨_, .fix xs, rfl, fun _ => rfl, rfl⟩
  | cell n =>
    refine ⟨_, .live n, rfl, ?_⟩
    unfold getL at h
    unfold Src.at_ Src.len
    dsimp only at h ⊢
    split at h
    · rename_i ds e
      cases h
      first
        | (rw [e]; exact ⟨fun _ => rfl, rfl⟩)
        | exact ⟨fun _ => rfl, rfl⟩
    · cases h
  | _ => cases h
theorem isK_list {a : D} {xs : List D} {st : Sto} (h : getL a st = some xs) : anyK a [.list] = true ∧ anyK a [.tuple] = false := by
  cases a <;> first | exact ⟨rfl, rfl⟩ | cases h
theorem isX_list {a : D} {xs : List D} {st : Sto} (h : getL a st = some xs) : isX a = false := by
  cases a <;> first | rfl | cases h
theorem fLen_list {a : D} {xs : List D} {st : Sto} (h : getL a st = some xs) : fLen [a] st = .ok (.int (xs.length : Nat)) st := by
  cases a with
  | lst ds => cases h; rfl
  | rol ds => cases h; rfl
  | cell n =>
    unfold fLen
    dsimp only
    rw [show getS (.cell n) st = some xs from h]
  | _ => cases h
theorem same_ok {st : Sto} : ∀ (n : Nat) (a b : D), eqv st n a b → uSame n 0 [a, b] st = .ok (.bl true) st
  | 0, _, _, h => h.elim
  | n + 1, a, b, h => by
    have lists : ∀ {b : D}, (∃ xs ys, getL a st = some xs ∧ getL b st = some ys ∧ xs.length = ys.length ∧ ys.length < sz ∧ ∀ (i : Nat) x y, xs[i]? = some x → ys[i]? = some y → eqv st n x y) → uSame (n + 1) 0 [a, b] st = .ok (.bl true) st := by
      rintro b ⟨xs, ys, ha, hb, hl, hz, hs⟩
      obtain ⟨k1, s, e1, f1, g1⟩ := src_of_list ha
      obtain ⟨k2, t, e2, f2, g2⟩ := src_of_list hb
      have hw := same_walk (n := n) (a := a) (b := b) f1 f2 g1 hl hz (by unfold itZG; dsimp only; rw [e1, e2]) fun i x y hx hy => same_ok n x y (hs i x y hx hy)
      obtain ⟨i1, i2⟩ := isK_list ha
      obtain ⟨i3, i4⟩ := isK_list hb
      have i5 : anyK b [.list, .tuple] = true := by
        unfold anyK at i3 ⊢
        rw [Bool.or_eq_true] at i3
        rcases i3 with i3 | i3
        · rw [i3]; rfl
        · cases i3
      have x1 := isX_list ha
      have x2 := isX_list hb
      have l1 := fLen_list ha
      have l2 := fLen_list hb
      have m : ∀ c, mAnd (m2 (fEq false) (mCall fLen (lCons (mVar 0) (lNil))) (mCall fLen (lCons (mVar 1) (lNil)))) c [some a, some b, none, none] st = c [some a, some b, none, none] st := by
        intro c
        simp [mAnd, m2, mCall, lCons, lNil, mVar, Rs.bind, l1, l2, hl, fEq, tru]
      show dFn 4 (uSameB (uSame n 0)) [a, b] st = _
      unfold dFn startE uSameB
      simp only [List.map_cons, List.map_nil, List.length_cons, List.length_nil, List.replicate, List.append, List.cons_append, List.nil_append]
      simp [sSeq, sIf, asTru, mIsi, x1, x2, mVar, Rs.bind, Rs.thn, i5, tru', tru, sRet, mOrT, asT, m2, i1, i2, i3, i4, fEq, m, hw, sNil]
    cases b with
    | lst _ => exact lists h
    | rol _ => exact lists h
    | cell _ => exact lists h
    | ktp _ => exact lists h
    | dic _ => exact lists h
    | xz _ => exact lists h
    | xo _ _ => exact lists h
    | tup ys =>
      obtain ⟨xs, rfl, hl, hz, hs⟩ := h
      have hw := same_walk (n := n) (a := .tup xs) (b := .tup ys) (s := .fix xs) (t := .fix ys) (fun _ => rfl) (fun _ => rfl) rfl hl hz rfl fun i x y hx hy => same_ok n x y (hs i x y hx hy)
      have m : ∀ c, mAnd (m2 (fEq false) (mCall fLen (lCons (mVar 0) (lNil))) (mCall fLen (lCons (mVar 1) (lNil)))) c [some (.tup xs), some (.tup ys), none, none] st = c [some (.tup xs), some (.tup ys), none, none] st := by
        intro c
        simp [mAnd, m2, mCall, lCons, lNil, mVar, Rs.bind, fLen, getS, hl, fEq, tru]
      show dFn 4 (uSameB (uSame n 0)) [.tup xs, .tup ys] st = _
      unfold dFn startE uSameB
      have i1 : anyK (.tup xs) [.list] = false := rfl
      have i2 : anyK (.tup xs) [.tuple] = true := rfl
      have i3 : anyK (.tup ys) [.list] = false := rfl
      have i4 : anyK (.tup ys) [.tuple] = true := rfl
      have i5 : anyK (.tup ys) [.list, .tuple] = true := rfl
      simp only [List.map_cons, List.map_nil, List.length_cons, List.length_nil, List.replicate, List.append, List.cons_append, List.nil_append]
      simp [sSeq, sIf, asTru, mIsi, mVar, Rs.bind, Rs.thn, i5, tru', tru, sRet, mOrT, asT, m2, i1, i2, i3, i4, fEq, m, hw, sNil]
    | non => cases (show a = .non from h); rfl
    | bl k => cases (show a = .bl k from h); cases k <;> rfl
    | int i =>
      cases (show a = .int i from h)
      show dFn 4 (uSameB (uSame n 0)) [.int i, .int i] st = _
      unfold dFn startE uSameB
      have i1 : anyK (.int i) [.list, .tuple] = false := rfl
      have i2 : anyK (.int i) [.bool, .str] = false := rfl
      have i3 : anyK (.int i) [.int] = true := rfl
      have i4 : anyK (.int i) [.bool] = false := rfl
      simp [sSeq, sIf, asTru, mIsi, mVar, mC, Rs.bind, Rs.thn, i1, tru', tru, sRet, mOrT, asT, m2, i2, i3, i4, fEq, sNil, fIs, isNon, mAnd, mNot]
    | str l =>
      cases (show a = .str l from h)
      show dFn 4 (uSameB (uSame n 0)) [.str l, .str l] st = _
      unfold dFn startE uSameB
      have i1 : anyK (.str l) [.list, .tuple] = false := rfl
      have i2 : anyK (.str l) [.bool, .str] = true := rfl
      have i3 : anyK (.str l) [.int] = false := rfl
      have i4 : anyK (.str l) [.bool] = false := rfl
      simp [sSeq, sIf, asTru, mIsi, mVar, mC, Rs.bind, Rs.thn, i1, tru', tru, sRet, mOrT, asT, m2, i2, i3, i4, fEq, sNil, fIs, isNon, mAnd, mNot]
end Dn
end

section
set_option Elab.async false
set_option linter.all false
set_option maxRecDepth 100000
set_option maxHeartbeats 4000000
/-! What is drawn. -/
namespace Dn
open PySem PySem.Spec PyProof.Rows L2
/-- r draws k times at most from the source at n, comes to a value of P, and changes nothing else that was there -/
def Dw {α : Type} (n k : Nat) (P : α → Prop) (r : Sto → Rs α) : Prop := ∀ N st, Urn n N st → N + k < 2 ^ 20 → ∃ d s, r st = .ok d s ∧ P d ∧ Urn n (N + k) s ∧ Keep n st s
section
variable {α β : Type} {n a b k : Nat} {P : α → Prop} {Q : β → Prop}
theorem Dw.mono {P' : α → Prop} {r : Sto → Rs α} (h : Dw n a P r) (hk : a ≤ b) (hp : ∀ d, P d → P' d) : Dw n b P' r := fun N st hu hN =>
  let ⟨d, s, e, p, u, q⟩ := h N st hu (by omega)
  ⟨d, s, e, hp d p, u.le (by omega), q⟩
theorem dw_bind {r : Sto → Rs α} {f : α → Sto → Rs β} (h : Dw n a P r) (g : ∀ d, P d → Dw n b Q (f d)) : Dw n (a + b) Q (fun st => (r st).bind f) := fun N st hu hN => by
  obtain ⟨d, s, e, p, u, q⟩ := h N st hu (by omega)
  obtain ⟨d2, s2, e2, p2, u2, q2⟩ := g d p (N + a) s u (by omega)
  refine ⟨d2, s2, ?_, p2, by rw [show N + (a + b) = N + a + b by omega]; exact u2, q.trans q2⟩
  show (r st).bind f = _
  rw [e]
  exact e2
theorem dw_ok {d : α} (h : P d) : Dw n 0 P (fun st => .ok d st) := fun N st hu _ => ⟨d, st, rfl, h, hu, .rfl' n st⟩
theorem dw_eq {r r' : Sto → Rs α} (h : ∀ st, r st = r' st) (g : Dw n a P r') : Dw n a P r := by
  rw [funext h]; exact g
end
section
variable {n a b k : Nat} {env : Env} {P Q : D → Prop} {R : List D → Prop}
theorem dw_var {i : Nat} {d : D} (h : env[i]? = some (some d)) (hp : P d) : Dw n 0 P (mVar i env) :=
  dw_eq (fun st => by unfold mVar; rw [h]) (dw_ok hp)
theorem dw_c {d : D} (hp : P d) : Dw n 0 P (mC d env) := dw_ok hp
theorem dw_nil : Dw n 0 (fun ds => ds = []) (lNil env) := dw_ok rfl
theorem dw_cons {m : Env → Sto → Rs D} {ml : Env → Sto → Rs (List D)} (h : Dw n a P (m env)) (g : Dw n b R (ml env)) : Dw n (a + b) (fun ds => ∃ d es, ds = d :: es ∧ P d ∧ R es) (lCons m ml env) :=
  dw_bind h fun d hd => (dw_bind g fun es he => dw_ok ⟨d, es, rfl, hd, he⟩ : Dw n (b + 0) _ _)
theorem dw_call {F : List D → Sto → Rs D} {ml : Env → Sto → Rs (List D)} (h : Dw n a R (ml env)) (g : ∀ ds, R ds → Dw n b P (F ds)) : Dw n (a + b) P (mCall F ml env) := dw_bind h g
theorem dw_tup {ml : Env → Sto → Rs (List D)} (h : Dw n a R (ml env)) (hz : ∀ ds, R ds → ds.length ≤ sz) : Dw n (a + 0) (fun d => ∃ ds, d = .tup ds ∧ R ds) (mTup ml env) :=
  dw_bind h fun ds hd => dw_eq (fun st => if_pos (hz ds hd)) (dw_ok ⟨ds, rfl, hd⟩)
theorem dw_lst {ml : Env → Sto → Rs (List D)} (h : Dw n a R (ml env)) (hz : ∀ ds, R ds → ds.length ≤ sz) : Dw n (a + 0) (fun d => ∃ ds, d = .lst ds ∧ R ds) (mLst false ml env) :=
  dw_bind h fun ds hd => dw_eq (fun st => if_pos (hz ds hd)) (dw_ok ⟨ds, rfl, hd⟩)
theorem dw_m2 {f : D → D → Sto → Rs D} {ma mb : Env → Sto → Rs D} {T : D → Prop} (h : Dw n a P (ma env)) (g : Dw n b Q (mb env)) (hf : ∀ x y, P x → Q y → Dw n k T (f x y)) : Dw n (a + (b + k)) T (m2 f ma mb env) :=
  dw_bind h fun x hx => dw_bind g fun y hy => hf x y hx hy
theorem dw_asT {m : Env → Sto → Rs D} {T : Bool → Prop} (h : Dw n a (fun d => ∃ c, d = .bl c ∧ T c) (m env)) : Dw n (a + 0) T (asT m env) :=
  dw_bind h fun d hd => by
    obtain ⟨c, rfl, hc⟩ := hd
    exact dw_ok hc
theorem dw_if {t : Env → Sto → Rs Bool} {ma mb : Env → Sto → Rs D} {T : Bool → Prop} (h : Dw n a T (t env)) (g1 : T true → Dw n b P (ma env)) (g2 : T false → Dw n b P (mb env)) : Dw n (a + b) P (mIf t ma mb env) :=
  dw_bind h fun c hc => by
    cases c with
    | true => exact g1 hc
    | false => exact g2 hc
theorem dw_take {low : Int} (hl : 0 < low) (hl2 : low < 2 ^ 63) : Dw n 1 (fun d => ∃ r : Int, d = .int r ∧ 0 ≤ r ∧ r < low) (uTake [.cell n, .int low]) := fun N st hu hN =>
  let ⟨r, s, e, e1, e2, e3, e4, _⟩ := take_ok (low := low) hu (by omega) hl hl2
  ⟨.int r, s, e, ⟨r, rfl, e1, e2⟩, e3, e4⟩
theorem dw_of {g : D} {ds : List D} (hg : ∀ st', getS g st' = some ds) (hgs : ∀ l, g ≠ .str l) (hd : ds ≠ []) (hd2 : ds.length ≤ sz) : Dw n 1 (fun d => d ∈ ds) (uOf [.cell n, g]) := fun N st hu hN =>
  let ⟨d, s, e, e1, e2, e3, _⟩ := of_ok hu (by omega) hg hgs hd hd2
  ⟨d, s, e, e1, e2, e3⟩
/-- a list that is told by as many draws as are drawn -/
theorem dw_lc {mi : Env → Sto → Rs D} {M j : Nat} {vs : List Nat} {te : Env → Sto → Rs D} (hM : M < sz) (h : Dw n a (fun d => ∃ r : Int, d = .int r ∧ 0 ≤ r ∧ r ≤ M) (mi env)) (hj : ∀ i : Nat, Dw n b P (te ((wipeE env vs).set j (some (.int i))))) :
    Dw n (a + M * b) (fun d => ∃ ys, d = .lst ys ∧ ys.length ≤ M ∧ ∀ y ∈ ys, P y) (mLc false vs (mIns itR1 (lCons mi lNil)) (gNm j) mYes te env) := fun N st hu hN => by
  obtain ⟨d, s, e, ⟨r, rfl, hr0, hr⟩, u, q⟩ := h N st hu (by omega)
  have hz62 : sz < 2 ^ 62 := by decide
  have hrM : r.toNat ≤ M := by omega
  obtain ⟨ys, s2, x1, x2, x3, x4⟩ := loopC_inv (b := .rng 0 1 r.toNat) (tg := gNm j) (te := te) (env := wipeE env vs) (fun i s' => Urn n (N + a + i * b) s' ∧ Keep n st s') (fun _ y => P y) r.toNat
    (by
      rintro i s' ⟨hu', hq'⟩ hi
      have hib : (i + 1) * b ≤ M * b := Nat.mul_le_mul_right b (by omega)
      have hib2 : (i + 1) * b = i * b + b := Nat.succ_mul i b
      obtain ⟨y, s3, y1, y2, y3, y4⟩ := hj i (N + a + i * b) s' hu' (by omega)
      refine ⟨.int i, _, ?_, rfl, y, s3, y1, y2, ?_, hq'.trans y4⟩
      · unfold Itb.at_
        dsimp only
        rw [if_pos hi]
        simp
      · rw [hib2, ← Nat.add_assoc]
        exact y3)
    (by
      rintro s' _
      unfold Itb.at_
      dsimp only
      rw [if_neg (Nat.lt_irrefl _)])
    (r.toNat + 1) 0 s (by omega) (by omega) ⟨by rw [Nat.zero_mul]; exact u, q⟩
  have hrb : r.toNat * b ≤ M * b := Nat.mul_le_mul_right b hrM
  refine ⟨.lst ys, s2, ?_, ⟨ys, rfl, by omega, fun y hy => ?_⟩, x4.1.le (by omega), x4.2⟩
  · have h1 : itR1 [.int r] = some (.rng 0 1 r.toNat) := by
      unfold itR1
      dsimp only
      rw [if_pos (by omega)]
    have h2 : r.toNat + 1 ≤ sz := by omega
    simp [mLc, mIns, lCons, lNil, Rs.bind, e, h1, Itb.fuel, h2, x1, Rs.bindN, mkL]
  · obtain ⟨i, hi⟩ := List.getElem?_of_mem hy
    exact x3 i y hi
theorem dw_tuple {m : Env → Sto → Rs D} {T : List D → Prop} (h : Dw n a (fun d => ∃ ys, d = .lst ys ∧ T ys) (m env)) : Dw n (a + 0) (fun d => ∃ ys, d = .tup ys ∧ T ys) (mCall fTuple (lCons m lNil) env) :=
  dw_eq (r' := fun st => (m env st).bind fun d s => fTuple [d] s) (fun st => by
    unfold mCall lCons lNil
    cases m env st <;> rfl) (dw_bind h fun d ⟨ys, hd, hy⟩ => by
      subst hd
      exact dw_ok ⟨ys, rfl, hy⟩)
end
/-! ### defs -/
def fin (r : Sr) : Rs D := match r with
  | .nx _ st' => .ok .non st'
  | .rt d st' => .ok d st'
  | .ex x _ st' => .ex x st'
  | _ => .no
theorem dFn_fin {n : Nat} {B : Env → Sto → Sr} {ds : List D} : dFn n B ds = fun st => fin (B (startE n ds) st) := rfl
theorem fin_ret {m : Env → Sto → Rs D} {env : Env} {st : Sto} : fin (sRet m env st) = m env st := by
  unfold sRet
  cases m env st <;> rfl
theorem fin_if {t : Env → Sto → Rs Bool} {A B : Env → Sto → Sr} {env : Env} {st : Sto} (m : Env → Sto → Rs D) : fin (sSeq (sIf t (sRet m) sNil) B env st) = (t env st).bind fun c s => match c with
    | true => m env s
    | false => fin (B env s) := by
  unfold sSeq sIf sNil sRet
  cases h : t env st with
  | ok c s =>
    cases c with
    | true => simp only [Rs.thn, Rs.bind]; cases m env s <;> rfl
    | false => rfl
  | ex x s => rfl
  | no => rfl
theorem fin_asg {i : Nat} {m : Env → Sto → Rs D} {B : Env → Sto → Sr} {env : Env} {st : Sto} : fin (sSeq (sAsg (gNm i) m) B env st) = (m env st).bind fun d s => fin (B (env.set i (some d)) s) := by
  unfold sSeq sAsg gNm
  cases m env st <;> rfl
/-! ### closed: seen by the kernel -/
def okT (r : Rs D) : Bool := match r with
  | .ok (.bl true) _ => true
  | _ => false
theorem okT_ok {r : Rs D} (h : okT r = true) : ∃ st, r = .ok (.bl true) st := by
  unfold okT at h
  split at h
  · exact ⟨_, rfl⟩
  · cases h
end Dn
end

section
set_option Elab.async false
set_option linter.all false
set_option maxRecDepth 100000
set_option maxHeartbeats 4000000
/-! tuple(range(a, b)), list(range(a, b)) -/
namespace Dn
open PySem PySem.Spec PyProof.Rows L2
def rgD (a b : Int) : List D := (List.range (b - a).toNat).map fun i => D.int (a + (i : Nat))
def rgB (a b : Int) : Bool := decide (-(2 ^ 62) ≤ a) && (decide (a < 2 ^ 62) && (decide (-(2 ^ 62) ≤ b) && (decide (b < 2 ^ 62) && decide ((b - a).toNat ≤ 2 ^ 24))))
theorem rgB_ok {a b : Int} (h : rgB a b = true) : RgOk a b := by
  unfold rgB at h
  simp only [Bool.and_eq_true, decide_eq_true_eq] at h
  exact h
theorem repL_map {Γ : Gm} {π : Pl} {H : Hp} {α : Type} {f : α → V} {g : α → D} (h : ∀ i, Rep Γ π H (f i) (g i)) : ∀ l : List α, RepL Γ π H (l.map f) (l.map g)
  | [] => rfl
  | x :: l => ⟨f x, l.map f, rfl, h x, repL_map h l⟩
theorem rg_rep {Γ : Gm} {π : Pl} {H : Hp} (a b : Int) : RepL Γ π H (rgV a b) (rgD a b) := repL_map (f := fun i : Nat => V.int (a + (i : Nat))) (g := fun i : Nat => D.int (a + (i : Nat))) (fun _ => rfl) _
def fTR (a b : D) (st : Sto) : Rs D := match a, b with
  | .int i, .int j => if rgB i j then .ok (.tup (rgD i j)) st else .no
  | _, _ => .no
def fLR (mu : Bool) (a b : D) (st : Sto) : Rs D := match a, b with
  | .int i, .int j => if rgB i j then mkL mu (rgD i j) st else .no
  | _, _ => .no
section
variable {X : Cx} {W : WX} {ce : Nat → Option Addr} {fe : Nat → Str} {tb : List Addr} {a b : Expr} {ma mb : Env → Sto → Rs D} {p p2 pos pos2 : Pos}
theorem den_tupR2 (hc : X.calm = true) (hg : Gl X "tuple") (hm : X.mg "tuple" = none) (hg2 : Gl X "range") (hm2 : X.mg "range" = none) (ha : PE X a (tE (gx X ce fe tb) W ma)) (hb : PE X b (tE (gx X ce fe tb) W mb))
    (na : starEach [a, b] X.env = (false, eval a X.env) :: starEach [b] X.env := by rfl) (nb : starEach [b] X.env = (false, eval b X.env) :: starEach [] X.env := by rfl) (hp : (backTo pos2 (starEach [b] X.env)).any (·.1) = false := by rfl)
    (na2 : starEach [.Call (.Name "range" p2) [a, b] [] pos2] X.env = (false, eval (.Call (.Name "range" p2) [a, b] [] pos2) X.env) :: starEach [] X.env := by rfl) :
    PE X (.Call (.Name "tuple" p) [.Call (.Name "range" p2) [a, b] [] pos2] [] pos) (tE (gx X ce fe tb) W (m2 fTR ma mb)) := by
  refine imE (pe_tupRg hc hg hm (prg_2 hg2 hm2 ha hb na nb hp) na2) fun σ H Q ⟨π, env, st, E, S, h⟩ => ?_
  refine bindG E S h fun π1 H1 x d st1 e1 E1 S1 r1 h1 => ?_
  refine bindG E1 S1 h1 fun π2 H2 y e st2 e2 E2 S2 r2 h2 => ?_
  unfold fTR at h2
  split at h2
  · split at h2
    · rename_i i j hr
      exact ⟨_, _, r1, r2, rgB_ok hr, fun q hq => h2.newT S2 (rg_rep _ _) hq⟩
    · exact h2.elim
  · exact h2.elim
theorem den_listR2 {mu : Bool} (hc : X.calm = true) (hg : Gl X "list") (hm : X.mg "list" = none) (hg2 : Gl X "range") (hm2 : X.mg "range" = none) (ha : PE X a (tE (gx X ce fe tb) W ma)) (hb : PE X b (tE (gx X ce fe tb) W mb))
    (na : starEach [a, b] X.env = (false, eval a X.env) :: starEach [b] X.env := by rfl) (nb : starEach [b] X.env = (false, eval b X.env) :: starEach [] X.env := by rfl) (hp : (backTo pos2 (starEach [b] X.env)).any (·.1) = false := by rfl)
    (na2 : starEach [.Call (.Name "range" p2) [a, b] [] pos2] X.env = (false, eval (.Call (.Name "range" p2) [a, b] [] pos2) X.env) :: starEach [] X.env := by rfl) :
    PE X (.Call (.Name "list" p) [.Call (.Name "range" p2) [a, b] [] pos2] [] pos) (tE (gx X ce fe tb) W (m2 (fLR mu) ma mb)) := by
  refine imE (pe_listRg hc hg hm (prg_2 hg2 hm2 ha hb na nb hp) na2) fun σ H Q ⟨π, env, st, E, S, h⟩ => ?_
  refine bindG E S h fun π1 H1 x d st1 e1 E1 S1 r1 h1 => ?_
  refine bindG E1 S1 h1 fun π2 H2 y e st2 e2 E2 S2 r2 h2 => ?_
  unfold fLR at h2
  split at h2
  · split at h2
    · rename_i i j hr
      exact ⟨_, _, r1, r2, rgB_ok hr, fun q hq => h2.newL S2 (rg_rep _ _) hq⟩
    · exact h2.elim
  · exact h2.elim
/-- the same of range(b) -/
theorem den_tupR1 (hc : X.calm = true) (hg : Gl X "tuple") (hm : X.mg "tuple" = none) (hg2 : Gl X "range") (hm2 : X.mg "range" = none) (hb : PE X b (tE (gx X ce fe tb) W mb))
    (nb : starEach [b] X.env = (false, eval b X.env) :: starEach [] X.env := by rfl)
    (na2 : starEach [.Call (.Name "range" p2) [b] [] pos2] X.env = (false, eval (.Call (.Name "range" p2) [b] [] pos2) X.env) :: starEach [] X.env := by rfl) :
    PE X (.Call (.Name "tuple" p) [.Call (.Name "range" p2) [b] [] pos2] [] pos) (tE (gx X ce fe tb) W (m1 (fTR (.int 0)) mb)) := by
  refine imE (pe_tupRg hc hg hm (prg_1 hg2 hm2 hb nb) na2) fun σ H Q ⟨π, env, st, E, S, h⟩ => ?_
  refine bindG E S h fun π2 H2 y e st2 e2 E2 S2 r2 h2 => ?_
  unfold fTR at h2
  split at h2
  · split at h2
    · rename_i i j hq hr
      cases hq
      exact ⟨_, r2, rgB_ok hr, fun q hq => h2.newT S2 (rg_rep _ _) hq⟩
    · exact h2.elim
  · exact h2.elim
theorem den_listR1 {mu : Bool} (hc : X.calm = true) (hg : Gl X "list") (hm : X.mg "list" = none) (hg2 : Gl X "range") (hm2 : X.mg "range" = none) (hb : PE X b (tE (gx X ce fe tb) W mb))
    (nb : starEach [b] X.env = (false, eval b X.env) :: starEach [] X.env := by rfl)
    (na2 : starEach [.Call (.Name "range" p2) [b] [] pos2] X.env = (false, eval (.Call (.Name "range" p2) [b] [] pos2) X.env) :: starEach [] X.env := by rfl) :
    PE X (.Call (.Name "list" p) [.Call (.Name "range" p2) [b] [] pos2] [] pos) (tE (gx X ce fe tb) W (m1 (fLR mu (.int 0)) mb)) := by
  refine imE (pe_listRg hc hg hm (prg_1 hg2 hm2 hb nb) na2) fun σ H Q ⟨π, env, st, E, S, h⟩ => ?_
  refine bindG E S h fun π2 H2 y e st2 e2 E2 S2 r2 h2 => ?_
  unfold fLR at h2
  split at h2
  · split at h2
    · rename_i i j hq hr
      cases hq
      exact ⟨_, r2, rgB_ok hr, fun q hq => h2.newL S2 (rg_rep _ _) hq⟩
    · exact h2.elim
  · exact h2.elim
end
end Dn
end

section
set_option Elab.async false
set_option linter.all false
set_option maxRecDepth 100000
set_option maxHeartbeats 4000000
/-! Lists told from lists, where nothing is changed. -/
namespace Dn
open PySem PySem.Spec PyProof.Rows L2
/-- what is walked holds ds, whatever the store -/
def Walks1 (st : Sto) (b : Itb) (ds : List D) : Prop := (∀ i, b.at_ i st = ds[i]?) ∧ b.fuel st = ds.length + 1
theorem walks_fix (st : Sto) (ds : List D) : Walks1 st (.one (.fix ds)) ds := ⟨fun _ => rfl, rfl⟩
theorem walks_str (st : Sto) (l : List Nat) : Walks1 st (.sgn l) (l.map fun c => .str [c]) := ⟨fun i => by
  unfold Itb.at_
  dsimp only
  rw [List.getElem?_map]
  cases l[i]? <;> rfl, by rw [List.length_map]; rfl⟩
theorem lc_map {mi : Env → Sto → Rs Itb} {b : Itb} {vs : List Nat} {g : D → Env → Option Env} {te : Env → Sto → Rs D} {env : Env} {st : Sto} {ds : List D} {F : D → D} (hm : mi env st = .ok b st) (hw : Walks1 st b ds) (hz : ds.length < sz)
    (hte : ∀ d ∈ ds, ∃ env', g d (wipeE env vs) = some env' ∧ te env' st = .ok (F d) st) : mLc false vs mi g mYes te env st = .ok (.lst (ds.map F)) st := by
  obtain ⟨hat, hfu⟩ := hw
  obtain ⟨ys, s2, x1, x2, x3, x4⟩ := loopC_inv (b := b) (tg := g) (te := te) (env := wipeE env vs) (fun _ s' => s' = st) (fun i y => ∀ d, ds[i]? = some d → y = F d) ds.length
    (by
      rintro i _ rfl hi
      obtain ⟨env', e1, e2⟩ := hte ds[i] (List.getElem_mem hi)
      exact ⟨ds[i], env', by rw [hat, List.getElem?_eq_getElem hi], e1, F ds[i], _, e2, fun d hd => by rw [List.getElem?_eq_getElem hi] at hd; cases hd; rfl, rfl⟩)
    (by
      rintro _ rfl
      rw [hat, List.getElem?_eq_none (Nat.le_refl _)])
    (ds.length + 1) 0 st (by omega) (by omega) rfl
  subst x4
  have hys : ys = ds.map F := by
    refine List.ext_getElem (by rw [x2, List.length_map]; rfl) fun i h1 h2 => ?_
    rw [List.length_map] at h2
    rw [List.getElem_map]
    exact x3 i ys[i] (List.getElem?_eq_getElem h1) ds[i] (by rw [Nat.zero_add]; exact List.getElem?_eq_getElem h2)
  subst hys
  have hle : ds.length + 1 ≤ sz := by omega
  unfold mLc
  rw [hm]
  simp [Rs.bind, hfu, hle, x1, Rs.bindN, mkL]
theorem loopC_filter {b : Itb} {g : D → Env → Option Env} {tt : Env → Sto → Rs Bool} {te : Env → Sto → Rs D} {env : Env} {st : Sto} {ds : List D} {p : D → Bool} {F : D → D} (hat : ∀ i, b.at_ i st = ds[i]?)
    (hte : ∀ d ∈ ds, ∃ env', g d env = some env' ∧ tt env' st = .ok (p d) st ∧ te env' st = .ok (F d) st) : ∀ (n i : Nat), ds.length < n + i → i ≤ ds.length → loopC b g tt te env n i st = .ok (((ds.drop i).filter p).map F) st
  | 0, i, h, h1 => by omega
  | n + 1, i, h, h1 => by
    unfold loopC
    rw [hat]
    by_cases hi : i < ds.length
    · obtain ⟨env', e1, e2, e3⟩ := hte ds[i] (List.getElem_mem hi)
      have hr := loopC_filter (g := g) (tt := tt) (te := te) (env := env) (p := p) (F := F) hat hte n (i + 1) (by omega) (by omega)
      rw [List.getElem?_eq_getElem hi, List.drop_eq_getElem_cons hi]
      dsimp only
      rw [e1]
      dsimp only
      cases hp : p ds[i] with
      | false =>
        rw [hp] at e2
        rw [List.filter_cons_of_neg (by rw [hp]; decide)]
        simp [e2, Rs.bindN, hr]
      | true =>
        rw [hp] at e2
        rw [List.filter_cons_of_pos hp]
        simp [e2, e3, Rs.bindN, hr]
    · rw [List.getElem?_eq_none (by omega), List.drop_eq_nil_of_le (by omega)]
      rfl
theorem lc_filter {mi : Env → Sto → Rs Itb} {b : Itb} {vs : List Nat} {g : D → Env → Option Env} {tt : Env → Sto → Rs Bool} {te : Env → Sto → Rs D} {env : Env} {st : Sto} {ds : List D} {p : D → Bool} {F : D → D} (hm : mi env st = .ok b st) (hw : Walks1 st b ds) (hz : ds.length < sz)
    (hte : ∀ d ∈ ds, ∃ env', g d (wipeE env vs) = some env' ∧ tt env' st = .ok (p d) st ∧ te env' st = .ok (F d) st) : mLc false vs mi g tt te env st = .ok (.lst ((ds.filter p).map F)) st := by
  have hle : ds.length + 1 ≤ sz := by omega
  have x1 := loopC_filter (env := wipeE env vs) hw.1 hte (ds.length + 1) 0 (by omega) (by omega)
  unfold mLc
  rw [hm]
  simp [Rs.bind, hw.2, hle, x1, Rs.bindN, mkL]
/-- "".join(..) of as many texts -/
theorem strs_map {α : Type} (f : α → List Nat) : ∀ l : List α, strsOf (l.map fun x => .str (f x)) = some (l.map f)
  | [] => rfl
  | x :: l => by
    rw [List.map_cons, List.map_cons]
    unfold strsOf
    rw [strs_map f l]
theorem join_nil : ∀ ls : List (List Nat), joinD [] ls = ls.flatten
  | [] => rfl
  | [p] => by simp [joinD]
  | p :: q :: r => by
    show p ++ ([] ++ joinD [] (q :: r)) = _
    rw [join_nil (q :: r)]
    simp
theorem sum_flat : ∀ ls : List (List Nat), sumLen ls = ls.flatten.length
  | [] => rfl
  | p :: r => by
    unfold sumLen
    rw [sum_flat r, List.flatten_cons, List.length_append]
theorem join_map {m : Env → Sto → Rs D} {env : Env} {st : Sto} {α : Type} {f : α → List Nat} {l : List α} (h : m env st = .ok (.lst (l.map fun x => .str (f x))) st) (hz : (l.map f).flatten.length ≤ sz) : mJoin (mC (.str [])) m env st = .ok (.str (l.map f).flatten) st := by
  have h2 : sumLen (l.map f) + (l.map f).length * ([] : List Nat).length ≤ sz := by rw [sum_flat]; simpa using hz
  unfold mJoin mC
  simp [Rs.bind, h, getS, getL, strs_map, join_nil]
  rw [sum_flat]
  simpa using hz

/-! ### any, all of what is walked -/
theorem loopG_all {b : Itb} {g : D → Env → Option Env} {te : Env → Sto → Rs D} {env : Env} {st : Sto} {ds : List D} {p : D → Bool} (hat : ∀ i, b.at_ i st = ds[i]?)
    (hte : ∀ d ∈ ds, ∃ env', g d env = some env' ∧ te env' st = .ok (.bl (p d)) st) : ∀ (n i : Nat), ds.length < n + i → i ≤ ds.length → loopG false b g mYes te env n i st = .ok ((ds.drop i).all p) st
  | 0, i, h, h1 => by omega
  | n + 1, i, h, h1 => by
    unfold loopG
    rw [hat]
    by_cases hi : i < ds.length
    · obtain ⟨env', e1, e3⟩ := hte ds[i] (List.getElem_mem hi)
      have hr := loopG_all (g := g) (te := te) (env := env) (p := p) hat hte n (i + 1) (by omega) (by omega)
      rw [List.getElem?_eq_getElem hi, List.drop_eq_getElem_cons hi, List.all_cons]
      dsimp only
      rw [e1]
      dsimp only
      cases hp : p ds[i] with
      | false =>
        rw [hp] at e3
        simp [mYes, Rs.bindN, e3]
      | true =>
        rw [hp] at e3
        simp [mYes, Rs.bindN, e3, hr]
    · rw [List.getElem?_eq_none (by omega), List.drop_eq_nil_of_le (by omega)]
      rfl
theorem gen_all {mi : Env → Sto → Rs Itb} {b : Itb} {vs : List Nat} {g : D → Env → Option Env} {te : Env → Sto → Rs D} {env : Env} {st : Sto} {ds : List D} {p : D → Bool} (hm : mi env st = .ok b st) (hw : Walks1 st b ds)
    (hte : ∀ d ∈ ds, ∃ env', g d (wipeE env vs) = some env' ∧ te env' st = .ok (.bl (p d)) st) : mGen false vs mi g mYes te env st = .ok (.bl (ds.all p)) st := by
  have x1 := loopG_all (env := wipeE env vs) hw.1 hte (ds.length + 1) 0 (by omega) (by omega)
  unfold mGen
  rw [hm]
  simp [Rs.bind, hw.2, x1, Rs.bindN]
/-- range(0, n, 2) -/
theorem walks_even (st : Sto) {n : Nat} (hn : n < 2 ^ 20) : ∃ b, itR3 [.int 0, .int (n : Int), .int 2] = some b ∧ Walks1 st b ((List.range ((n + 1) / 2)).map fun k : Nat => D.int (2 * (k : Int))) := by
  have h1 : Builtin.Range.rangeSize 0 (n : Int) 2 = (((n + 1) / 2 : Nat) : Int) := by
    unfold Builtin.Range.rangeSize
    rw [if_pos (by decide)]
    split <;> omega
  have h2 : Builtin.Range.small 0 (n : Int) 2 = true := by
    unfold Builtin.Range.small
    rw [h1]
    unfold Builtin.Range.rangeFitsLong
    simp
    omega
  refine ⟨.rng 0 2 ((n + 1) / 2), ?_, fun i => ?_, ?_⟩
  · unfold itR3 rgN
    dsimp only
    rw [h1, h2]
    rw [if_pos (by refine ⟨by decide, by decide, rfl, by omega⟩), Int.toNat_natCast]
  · unfold Itb.at_
    dsimp only
    rw [List.getElem?_map]
    by_cases hi : i < (n + 1) / 2
    · rw [if_pos hi, List.getElem?_range hi]
      simp [Int.mul_comm]
    · rw [if_neg hi, List.getElem?_eq_none (by rw [List.length_range]; omega)]
      rfl
  · unfold Itb.fuel
    simp
theorem ins_ok {f : List D → Option Itb} {ml : Env → Sto → Rs (List D)} {env : Env} {st st' : Sto} {ds : List D} {b : Itb} (h : ml env st = .ok ds st') (hf : f ds = some b) : mIns f ml env st = .ok b st' := by
  unfold mIns
  rw [h]
  show (match f ds with
    | some b => Rs.ok b st'
    | none => .no) = _
  rw [hf]
theorem fin_if_no {t : Env → Sto → Rs Bool} {A B : Env → Sto → Sr} {env : Env} {st st' : Sto} (h : t env st = .ok false st') : fin (sSeq (sIf t A sNil) B env st) = fin (B env st') := by
  unfold sSeq sIf sNil
  rw [h]
  rfl
theorem fin_set {i : Nat} {m : Env → Sto → Rs D} {B : Env → Sto → Sr} {env : Env} {st st' : Sto} {d : D} (h : m env st = .ok d st') : fin (sSeq (sAsg (gNm i) m) B env st) = fin (B (env.set i (some d)) st') := by
  rw [fin_asg, h]
  rfl
theorem tuple_of {m : Env → Sto → Rs D} {env : Env} {st st' : Sto} {ys : List D} (h : m env st = .ok (.lst ys) st') : mCall fTuple (lCons m lNil) env st = .ok (.tup ys) st' := by
  unfold mCall lCons
  rw [h]
  rfl
end Dn
end

section
set_option Elab.async false
set_option linter.all false
set_option maxRecDepth 100000
set_option maxHeartbeats 4000000
/-! exceptions that are kept as values: made, their field read, whether they are of a built-in class -/
namespace Dn
open PySem PySem.Spec PyProof.Rows L2

/-! ### made with keywords too: the rules of the library's calls, wider -/
section
open Builtin Builtin.ObjectAttr PySem.HandSPX
variable {M : Model} {prog : Program} {w : World} {A : Around} {E : Value → Shared → Prop} {R : Result → Shared → Prop} {h : Heap} {g : Array GenState} {d : Drawn} {t : Nat} {os : OsState}
variable {nm q : Str} {C N : Addr} {bs bm bmB : List Value} {hdct : Bool} {sn : List Str} {sub : List Value} {ab : Bool} {col : Option Bool} {dd : Option Addr} {k0 k1 k2 k3 k5 : Option Value} {B newId initId : String}
theorem new_check (FB : ExcBaseFacts B newId initId bmB) (hT : ∀ Y : String, bm.contains (.type Y) = bmB.contains (.type Y)) {rest : List Value} {kw : List (Str × Value)} {Q : Unit → Shared → Prop}
    (hC : h.get? C = some (excClassObj nm q C N bs bm hdct sn sub ab col dd k0 k1 k2 k3 k5 newId)) (hq : Q () ⟨h, g, d, t, os⟩) :
    wpAny M A (checkBuiltinCall newId ⟨.ref C :: rest, kw⟩) Q E ⟨h, g, d, t, os⟩ := by
  have cB : (Value.ref C :: bm).contains (.type B) = true := by rw [List.contains_cons, hT, FB.hasB, Bool.or_true]
  have nS := FB.noStar
  simp only [checkBuiltinCall, FB.newKind, FB.newSplit, FB.newRow]
  repeat (first
    | refine wpAny_loadPart_at hC ?_
    | (refine wpAny_isSubtype_exc hC ?_; rw [cB])
    | refine wpAny_staticBase_exc hC ?_
    | refine wpAny_madeBy_exc hC ?_
    | simp only [bne_self_eq_false, Bool.false_eq_true, if_false]
    | wp_step)
  exact hq
theorem new_run (FB : ExcBaseFacts B newId initId bmB) (hT : ∀ Y : String, bm.contains (.type Y) = bmB.contains (.type Y)) {rest : List Value} {kw : List (Str × Value)}
    (hC : h.get? C = some (excClassObj nm q C N bs bm hdct sn sub ab col dd k0 k1 k2 k3 k5 newId))
    (hq : R (.ok (.ret (.ref (h.objs.size + 1)))) ⟨(h.push (PySem.W.kdv_tup rest)).push (excO C h.objs.size), g, d, t, os⟩) (hz : rest.length ≤ sizeLine) :
    codeAny (model prog w) A (.builtin newId ⟨.ref C :: rest, kw⟩) R ⟨h, g, d, t, os⟩ := by
  have en := FB.ends
  have cB : (Value.ref C :: bm).contains (.type B) = true := by rw [List.contains_cons, hT, FB.hasB, Bool.or_true]
  have cA : (Value.ref C :: bm).contains (.type "AttributeError") = false := by rw [List.contains_cons, hT, FB.noAttr]; rfl
  have cN : (Value.ref C :: bm).contains (.type "NameError") = false := by rw [List.contains_cons, hT, FB.noName]; rfl
  refine codeAny_builtinAt FB.entry ?_
  unfold Builtin.«BaseException.__new__»
  refine PySem.wpAt_bind ?_
  show PySem.wpAt _ _ _ (stack >>= _) _ _ _
  refine PySem.wpAt_bind (PySem.wpAt_stack fun p below => PySem.wpAt_of_wpAny ?_)
  wp_walk
  refine PySem.wpAt_of_wpAny ?_
  rw [FB.owner]
  repeat (first
    | with_reducible refine wpAny_madeHere_exc FB.canon hC ?_
    | with_reducible refine wpAny_loadPart_at hC ?_
    | (with_reducible refine wpAny_isSubtype_exc hC ?_; first | rw [cB] | rw [cA] | rw [cN])
    | wp_step)
  show R _ _
  rw [Heap.size_push]
  exact hq
theorem type_run (FB : ExcBaseFacts B newId initId bmB) (hT : ∀ Y : String, bm.contains (.type Y) = bmB.contains (.type Y)) {rest : List Value} {kw : List (Str × Value)} {fI : Addr} {Q : Fin → Shared → Prop}
    (hC : h.get? C = some (excClassObj nm q C N bs bm hdct sn sub ab col dd k0 k1 k2 k3 k5 newId))
    (hi : PySem.W.Looks (model prog w) h (typeLookup (.ref C) "__init__") (some (.ref fI))) (hb : ∀ self, PySem.W.Looks (model prog w) h (bindSpecial (.ref fI) self) (.ref fI, [self])) (hz : rest.length ≤ sizeLine)
    (hq : codeAny (model prog w) A (.call (.ref fI) ⟨.ref (h.objs.size + 1) :: rest, kw⟩)
      (fun r s' => match r with | .ok (.ret v) => v = .none ∧ Q (.done (.ret (.ref (h.objs.size + 1)))) s' | .ok _ => False | .error e => E e s')
      ⟨(h.push (PySem.W.kdv_tup rest)).push (excO C h.objs.size), g, d, t, os⟩) :
    wpAny (model prog w) A (Builtin.«type.__call__» ⟨.ref C :: rest, kw⟩) Q E ⟨h, g, d, t, os⟩ := by
  repeat (first
    | with_reducible refine wpAny_loadPart_at hC ?_
    | with_reducible refine wpAny_madeBy_exc hC ?_
    | wp_step)
  refine codeAny_call_builtin_code (Code.quiet_builtin _ FB.quiet) (new_check FB hT hC ?_)
  refine new_run FB hT hC ?_ hz
  show wpAny _ _ _ _ _ _
  have kk : ∀ b o, h.get? b = some o → ((h.push (PySem.W.kdv_tup rest)).push (excO C h.objs.size)).get? b = some o := fun b o e => Heap.get?_push_of_some _ (Heap.get?_push_of_some _ e)
  have hC1 := kk _ _ hC
  have hg1 : ((h.push (PySem.W.kdv_tup rest)).push (excO C h.objs.size)).get? (h.objs.size + 1) = some (excO C h.objs.size) := by heap_get
  have cC : (Value.ref C :: bm).contains (.ref C) = true := by simp
  have i1 := hi.keeps kk
  have b1 := (hb (.ref (h.objs.size + 1))).keeps kk
  unfold isInstance
  repeat (first
    | with_reducible refine wpAny_loadPart_at hg1 ?_
    | (with_reducible refine wpAny_isSubtype_exc hC1 ?_; rw [cC])
    | wp_step)
  show wpAny _ _ (typeLookup (.ref C) _) _ _ _
  refine i1.at ?_
  refine wpAny_holding (wpAny_bind (b1.at ?_))
  refine wpAny_bind (wpAny_call (codeAny_mono hq fun r s' z => ?_))
  rcases r with e | (v | _ | _ | _) <;> first | exact z | exact z.elim | skip
  obtain ⟨rfl, z⟩ := z
  first
    | exact wpAny_pure (wpAny_pure z)
    | (wp_walk; exact z)
theorem call_run (FB : ExcBaseFacts B newId initId bmB) (hT : ∀ Y : String, bm.contains (.type Y) = bmB.contains (.type Y)) {rest : List Value} {kw : List (Str × Value)} {fI : Addr}
    (hC : h.get? C = some (excClassObj nm q C N bs bm hdct sn sub ab col dd k0 k1 k2 k3 k5 newId))
    (hi : PySem.W.Looks (model prog w) h (typeLookup (.ref C) "__init__") (some (.ref fI))) (hb : ∀ self, PySem.W.Looks (model prog w) h (bindSpecial (.ref fI) self) (.ref fI, [self])) (hz : rest.length ≤ sizeLine)
    (hq : codeAny (model prog w) (A.under (.builtin "type.__call__" ⟨.ref C :: rest, kw⟩)) (.call (.ref fI) ⟨.ref (h.objs.size + 1) :: rest, kw⟩) (PySem.W.InitBack (h.objs.size + 1) R)
      ⟨(h.push (PySem.W.kdv_tup rest)).push (excO C h.objs.size), g, d, t, os⟩) :
    codeAny (model prog w) A (.call (.ref C) ⟨rest, kw⟩) R ⟨h, g, d, t, os⟩ := by
  have f1 := tc_lookup
  have f2 := tc_bind (.ref C)
  have ty : (⟨h, g, d, t, os⟩ : Shared).TypeIs (.ref C) "type" := ⟨_, hC, rfl⟩
  refine codeAny_of_tree ?_
  show wpAny _ _ (callAny (.ref C) _) _ _ _
  repeat (any_goals (first | assumption | with_reducible refine wpAny_loadPart_at hC ?_ | wp_step))
  refine ⟨rfl, ?_⟩
  refine codeAny_call_builtin_at (Code.quiet_builtin _ (by decide +kernel)) entry_typeCall (wpAny_check_type_call_sub hC (type_run FB hT hC hi hb hz ?_))
  refine codeAny_mono hq fun r s' z => ?_
  rcases r with e | (v | _ | _ | _) <;> exact z
end
end Dn
end

section
set_option Elab.async false
set_option linter.all false
set_option maxRecDepth 100000
set_option maxHeartbeats 4000000
namespace Dn
open PySem PySem.Spec PyProof.Rows L2
section
variable {X : Cx} {pins : List (Addr × Obj)} {σ : L2.St} {H1 : Hp} {s1 : Shared} {us : List Value} {kw : List (Str × Value)} {u : Value} {y : V} {C fI : Addr} {fd : FuncData} {f : Str} {B newId initId : String} {bmB : List Value} {Q : VK}
/-- C(y): a new exception with its dict -/
theorem run_new1 (b : XB B newId initId bmB) (T : XC X.K C newId bmB) (iC : PySem.W.findIn X.K (.ref C) "__init__" = some (some (.ref fI))) (tI : PySem.W.typeIn X.K (.ref fI) = some (.type "function"))
    (F1 : FnOk X.prog X.w X.K X.mg X.base CX0 1 fI fd ["self", f] (spI1 X.K C f)) (hr : Room 2 X.A) (hbs : ∀ (s : Shared) (self : Value), X.K.In s.heap → BindsTo s fd ⟨self :: us, kw⟩ ((["self", f] : List Str).zip [self, u]))
    (hz : us.length ≤ sizeLine) (I1 : Inv X pins σ H1 s1) (ry : RelV y u)
    (q : ∀ a d, H1 a = none → H1 d = none → d ≠ a → Q (.ref a) (upd (upd (upd H1 a (exo a C none)) d (exd d [(f, y)])) a (exo a C (some d)))) :
    wpAny (model X.prog X.w) X.A (call (.ref C) us kw) (EP X pins σ Q) X.xe s1 := by
  obtain ⟨nm, q0, N, bs, sn, sub, ab, col, dd, k0, k1, k2, k3, k5, hC⟩ := T.cls
  obtain ⟨hp, g, dr, tk, os⟩ := s1
  have hsz : hp.objs.size ≤ hp.objs.size + 1 := Nat.le_succ _
  have hn : H1 (hp.objs.size + 1) = none := I1.hok.fresh hsz
  have kk : ∀ b o, hp.get? b = some o → ((hp.push (PySem.W.kdv_tup us)).push (PySem.HandSPX.excO C hp.objs.size)).get? b = some o := fun b o e => Heap.get?_push_of_some _ (Heap.get?_push_of_some _ e)
  have hget : ((hp.push (PySem.W.kdv_tup us)).push (PySem.HandSPX.excO C hp.objs.size)).get? (hp.objs.size + 1) = some (PySem.HandSPX.excO C hp.objs.size) := by heap_get
  have I2 : Inv X pins σ (upd H1 (hp.objs.size + 1) (exo (hp.objs.size + 1) C none)) ⟨(hp.push (PySem.W.kdv_tup us)).push (PySem.HandSPX.excO C hp.objs.size), g, dr, tk, os⟩ :=
    I1.laid (t' := tk) (a := hp.objs.size + 1) (o := exo (hp.objs.size + 1) C none) (h' := (hp.push (PySem.W.kdv_tup us)).push (PySem.HandSPX.excO C hp.objs.size)) kk hsz (exo_ok hget)
  have r2 : Vals [V.ref (hp.objs.size + 1), y] [Value.ref (hp.objs.size + 1), u] := .cons rfl (.cons ry .nil)
  have hsp : spI1 X.K C f [V.ref (hp.objs.size + 1), y] (upd H1 (hp.objs.size + 1) (exo (hp.objs.size + 1) C none)) (fun v H2 => v = .non ∧ Q (.ref (hp.objs.size + 1)) H2) (fun _ _ _ => False) :=
    ⟨_, y, rfl, upd_same, fun dx h1 h2 => ⟨rfl, q _ _ hn (by rw [upd_ne h2] at h1; exact h1) h2⟩⟩
  refine wpAny_call (call_run b.F (fun Y => rfl) (I1.kIn _ _ hC) (PySem.W.looks_findIn I1.kIn iC) (fun self => PySem.W.bind_fn I1.kIn self tI) hz
    (codeAny_mono (F1.run _ X.stack _ _ ⟨Value.ref (hp.objs.size + 1) :: us, kw⟩ [Value.ref (hp.objs.size + 1), u] _ _ (fun _ _ _ => False) (hr.make C us kw) (I2.env0.make C us kw) (hbs _ _ I2.kIn) r2 hsp) fun r s' hq' => ?_))
  cases r with
  | error er => exact False.elim hq'
  | ok fl =>
    cases fl with
    | ret u' =>
      obtain ⟨v, H', I3, rv, ev, q3⟩ := I2.after hq'
      subst ev
      exact ⟨rv, ⟨V.ref (hp.objs.size + 1), H', I3, rfl, q3⟩⟩
    | next => exact False.elim hq'
    | brk => exact False.elim hq'
    | cont => exact False.elim hq'
/-- C() -/
theorem run_new0 (b : XB B newId initId bmB) (T : XC X.K C newId bmB) (iC : PySem.W.findIn X.K (.ref C) "__init__" = some (some (.ref fI))) (tI : PySem.W.typeIn X.K (.ref fI) = some (.type "function"))
    (F1 : FnOk X.prog X.w X.K X.mg X.base CX0 1 fI fd ["self"] (spI0 C)) (hr : Room 2 X.A) (hbs : ∀ (s : Shared) (self : Value), X.K.In s.heap → BindsTo s fd ⟨[self], []⟩ ((["self"] : List Str).zip [self]))
    (I1 : Inv X pins σ H1 s1) (q : ∀ a, H1 a = none → Q (.ref a) (upd H1 a (exo a C none))) :
    wpAny (model X.prog X.w) X.A (call (.ref C) [] []) (EP X pins σ Q) X.xe s1 := by
  obtain ⟨nm, q0, N, bs, sn, sub, ab, col, dd, k0, k1, k2, k3, k5, hC⟩ := T.cls
  obtain ⟨hp, g, dr, tk, os⟩ := s1
  have hsz : hp.objs.size ≤ hp.objs.size + 1 := Nat.le_succ _
  have hn : H1 (hp.objs.size + 1) = none := I1.hok.fresh hsz
  have kk : ∀ b o, hp.get? b = some o → ((hp.push (PySem.W.kdv_tup [])).push (PySem.HandSPX.excO C hp.objs.size)).get? b = some o := fun b o e => Heap.get?_push_of_some _ (Heap.get?_push_of_some _ e)
  have hget : ((hp.push (PySem.W.kdv_tup [])).push (PySem.HandSPX.excO C hp.objs.size)).get? (hp.objs.size + 1) = some (PySem.HandSPX.excO C hp.objs.size) := by heap_get
  have I2 : Inv X pins σ (upd H1 (hp.objs.size + 1) (exo (hp.objs.size + 1) C none)) ⟨(hp.push (PySem.W.kdv_tup [])).push (PySem.HandSPX.excO C hp.objs.size), g, dr, tk, os⟩ :=
    I1.laid (t' := tk) (a := hp.objs.size + 1) (o := exo (hp.objs.size + 1) C none) (h' := (hp.push (PySem.W.kdv_tup [])).push (PySem.HandSPX.excO C hp.objs.size)) kk hsz (exo_ok hget)
  have r2 : Vals [V.ref (hp.objs.size + 1)] [Value.ref (hp.objs.size + 1)] := .cons rfl .nil
  have hsp : spI0 C [V.ref (hp.objs.size + 1)] (upd H1 (hp.objs.size + 1) (exo (hp.objs.size + 1) C none)) (fun v H2 => v = .non ∧ Q (.ref (hp.objs.size + 1)) H2) (fun _ _ _ => False) :=
    ⟨_, rfl, upd_same, rfl, q _ hn⟩
  refine wpAny_call (call_run b.F (fun Y => rfl) (I1.kIn _ _ hC) (PySem.W.looks_findIn I1.kIn iC) (fun self => PySem.W.bind_fn I1.kIn self tI) (Nat.zero_le _)
    (codeAny_mono (F1.run _ X.stack _ _ ⟨[Value.ref (hp.objs.size + 1)], []⟩ [Value.ref (hp.objs.size + 1)] _ _ (fun _ _ _ => False) (hr.make C [] []) (I2.env0.make C [] []) (hbs _ _ I2.kIn) r2 hsp) fun r s' hq' => ?_))
  cases r with
  | error er => exact False.elim hq'
  | ok fl =>
    cases fl with
    | ret u' =>
      obtain ⟨v, H', I3, rv, ev, q3⟩ := I2.after hq'
      subst ev
      exact ⟨rv, ⟨V.ref (hp.objs.size + 1), H', I3, rfl, q3⟩⟩
    | next => exact False.elim hq'
    | brk => exact False.elim hq'
    | cont => exact False.elim hq'
end

/-! ### the denotations -/
def mMk0 (c : Nat) : Env → Sto → Rs D := fun _ st => .ok (.xz c) st
def mMk1 (c : Nat) (m : Env → Sto → Rs D) : Env → Sto → Rs D := fun env st => (m env st).bind fun d st1 => .ok (.xo c d) st1
def mFld (c : Nat) (m : Env → Sto → Rs D) : Env → Sto → Rs D := fun env st => (m env st).bind fun d st1 => match d with
  | .xo k a => if k = c then .ok a st1 else .no
  | _ => .no
def xcN : D → Option Nat
  | .xz c => some c
  | .xo c _ => some c
  | _ => none
def mIsX (bs : List Bool) (m : Env → Sto → Rs D) : Env → Sto → Rs D := fun env st => (m env st).bind fun d st1 => match xcN d with
  | some c => match bs[c]? with
    | some b => .ok (.bl b) st1
    | none => .no
  | none => .no
section
variable {X : Cx} {W : WX} {ce : Nat → Option Addr} {fe : Nat → Str} {tb : List Addr} {x : Str} {C fI : Addr} {fd : FuncData} {p pos : Pos} {e : Expr} {m : Env → Sto → Rs D} {B newId initId : String} {bmB : List Value} {c : Nat}
theorem new0_out {Q : VK} {σ : L2.St} {π : Pl} {H : Hp} {st : Sto} {a : Addr} (hce : ce c = some C) (S : StR (gx X ce fe tb) π H st) (h : Out (gx X ce fe tb) (Rep (gx X ce fe tb)) W σ π H (.ok (.xz c) st) Q) (ha : H a = none) : Q (.ref a) (upd H a (exo a C none)) :=
  h π _ _ (ext_new ha) (S.new ha) ⟨a, C, rfl, hce, upd_same⟩
theorem new1_out {Q : VK} {σ : L2.St} {π : Pl} {H : Hp} {st : Sto} {a d : Addr} {y : V} {dy : D} (hce : ce c = some C) (S : StR (gx X ce fe tb) π H st) (ry : Rep (gx X ce fe tb) π H y dy) (h : Out (gx X ce fe tb) (Rep (gx X ce fe tb)) W σ π H (.ok (.xo c dy) st) Q) (ha : H a = none) (hd : H d = none) (hne : d ≠ a) :
    Q (.ref a) (upd (upd (upd H a (exo a C none)) d (exd d [(fe c, y)])) a (exo a C (some d))) := by
  have e1 : upd (upd (upd H a (exo a C none)) d (exd d [(fe c, y)])) a (exo a C (some d)) = upd (upd H d (exd d [(fe c, y)])) a (exo a C (some d)) := by
    funext b
    by_cases hb : b = a
    · rw [hb, upd_same, upd_same]
    · rw [upd_ne hb, upd_ne hb]
      by_cases hbd : b = d
      · rw [hbd, upd_same, upd_same]
      · rw [upd_ne hbd, upd_ne hbd, upd_ne hb]
  rw [e1]
  have ha2 : upd H d (exd d [(fe c, y)]) a = none := by rw [upd_ne (Ne.symm hne)]; exact ha
  have x1 : Ext π H π (upd H d (exd d [(fe c, y)])) := ext_new hd
  have x2 : Ext π (upd H d (exd d [(fe c, y)])) π (upd (upd H d (exd d [(fe c, y)])) a (exo a C (some d))) := ext_new ha2
  refine h π _ _ (x1.trans x2) ((S.new hd).new ha2) ⟨a, C, d, y, rfl, hce, upd_same, ?_, (ry.ext x1.toKp).ext x2.toKp⟩
  rw [upd_ne hne, upd_same]
theorem den_mk0 (hce : ce c = some C) (b : XB B newId initId bmB) (T : XC X.K C newId bmB) (iC : PySem.W.findIn X.K (.ref C) "__init__" = some (some (.ref fI))) (tI : PySem.W.typeIn X.K (.ref fI) = some (.type "function"))
    (F1 : FnOk X.prog X.w X.K X.mg X.base CX0 1 fI fd ["self"] (spI0 C)) (hr : Room 2 X.A) (hb : Binds X.K fd ["self"] []) (hg : Gl X x) (hm : X.mg x = some (.ref C)) (hdb : (x == ("__debug__" : Str)) = false := by decide) :
    PE X (.Call (.Name x p) [] [] pos) (tE (gx X ce fe tb) W (mMk0 c)) := by
  refine ⟨fun pins s σ H Q I ⟨π, env, st, E, S, h⟩ => ?_⟩
  refine wpAny_Call_Name_kw (ld_glob I hg hm ?_ hdb)
  refine PySem.W.callWith_K0 I.kIn T.kC ?_
  exact run_new0 b T iC tI F1 hr (fun s self hK => by have := hb s [self] hK rfl; rwa [List.append_nil] at this) I fun a ha => new0_out hce S h ha
theorem den_mk1 (hce : ce c = some C) (b : XB B newId initId bmB) (T : XC X.K C newId bmB) (iC : PySem.W.findIn X.K (.ref C) "__init__" = some (some (.ref fI))) (tI : PySem.W.typeIn X.K (.ref fI) = some (.type "function"))
    (F1 : FnOk X.prog X.w X.K X.mg X.base CX0 1 fI fd ["self", fe c] (spI1 X.K C (fe c))) (hr : Room 2 X.A) (hb : Binds X.K fd ["self", fe c] []) (hg : Gl X x) (hm : X.mg x = some (.ref C)) (ha : PE X e (tE (gx X ce fe tb) W m)) (hdb : (x == ("__debug__" : Str)) = false := by decide)
    (he : starEach [e] X.env = (false, eval e X.env) :: starEach [] X.env := by rfl) :
    PE X (.Call (.Name x p) [e] [] pos) (tE (gx X ce fe tb) W (mMk1 c m)) := by
  refine ⟨fun pins s σ H Q I ⟨π, env, st, E, S, h⟩ => ?_⟩
  refine wpAny_Call_Name_kw (ld_glob I hg hm ?_ hdb)
  have h' : tCons (tE (gx X ce fe tb) W m) tNil σ H (fun vs H1 => ∃ y, vs = [y] ∧ ∀ a d, H1 a = none → H1 d = none → d ≠ a → Q (.ref a) (upd (upd (upd H1 a (exo a C none)) d (exd d [(fe c, y)])) a (exo a C (some d)))) :=
    bindG E S h fun π1 H1 y d st1 e1 E1 S1 r1 h1 => ⟨y, rfl, fun a dx h2 h3 h4 => new1_out hce S1 r1 h1 h2 h3 h4⟩
  refine PySem.W.callWith_K (h₀ := X.base) I.ok.mod.kin T.kC (thn ((pa_cons ha pa_nil he).run pos pins s σ H _ I h') fun us s1 ⟨vs, H1, I1, r1, y, ev, q1⟩ => ⟨I1.kIn, ?_⟩) he (by rfl)
  subst ev
  obtain ⟨u, rfl, ry⟩ : ∃ u, us = [u] ∧ RelV y u := by
    cases r1 with
    | cons ry rr => cases rr; exact ⟨_, rfl, ry⟩
  refine run_new1 b T iC tI F1 hr (fun s self hK => ?_) (by show 1 ≤ sizeLine; rw [sizeLine_eq]; decide) I1 ry q1
  have := hb s [self, u] hK rfl
  rwa [List.append_nil] at this
/-- C(k=e) -/
theorem den_mkK {kws : List Keyword} {mk : Env → Sto → Rs (List D)} (hce : ce c = some C) (b : XB B newId initId bmB) (T : XC X.K C newId bmB) (iC : PySem.W.findIn X.K (.ref C) "__init__" = some (some (.ref fI))) (tI : PySem.W.typeIn X.K (.ref fI) = some (.type "function"))
    (F1 : FnOk X.prog X.w X.K X.mg X.base CX0 1 fI fd ["self", fe c] (spI1 X.K C (fe c))) (hr : Room 2 X.A) (hb : KwB fd ["self", fe c] 1 [fe c] [0, 1]) (hg : Gl X x) (hm : X.mg x = some (.ref C)) (hkw : PK X kws (tL (gx X ce fe tb) W mk))
    (hmk : ∀ env st, mk env st = (m env st).bind fun d st1 => .ok [d] st1)
    (hall : (backToKw pos (keywordEach kws X.env)).all (·.1.isSome) = true := by rfl) (hks : (backToKw pos (keywordEach kws X.env)).filterMap (·.1) = [fe c] := by rfl)
    (hdb : (x == ("__debug__" : Str)) = false := by decide) (hpl : ((backTo pos (starEach [] X.env)).any (·.1) || (backToKw pos (keywordEach kws X.env)).any (·.1.isNone)) = false := by rfl) :
    PE X (.Call (.Name x p) [] kws pos) (tE (gx X ce fe tb) W (mMk1 c m)) := by
  refine ⟨fun pins s σ H Q I ⟨π, env, st, E, S, h⟩ => ?_⟩
  refine wpAny_Call_Name_kw (ld_glob I hg hm ?_ hdb)
  have rd : tL (gx X ce fe tb) W mk σ H fun vs H1 => ∃ y, vs = [y] ∧ ∀ a d, H1 a = none → H1 d = none → d ≠ a → Q (.ref a) (upd (upd (upd H1 a (exo a C none)) d (exd d [(fe c, y)])) a (exo a C (some d))) := by
    refine ⟨π, env, st, E, S, ?_⟩
    rw [hmk]
    unfold mMk1 at h
    cases q : m env st with
    | ok d st1 =>
      rw [q] at h
      rintro π1 H1 vs e1 S1 ⟨y, vr, rfl, ry, rfl⟩
      exact ⟨y, rfl, fun a dx h2 h3 h4 => new1_out hce S1 ry (Out.ext e1 h) h2 h3 h4⟩
    | ex x st1 => rw [q] at h; exact h
    | no => rw [q] at h; exact h
  refine PySem.W.callWith_KW0 (h₀ := X.base) I.ok.mod.kin T.kC hall (thn (hkw.run pos pins s σ H _ I rd) fun ws s1 ⟨vs, H1, I1, rz, y, ev, q1⟩ => ⟨I1.kIn, ?_⟩) hpl
  rw [hks]
  subst ev
  obtain ⟨u, rfl, ry⟩ : ∃ u, ws = [u] ∧ RelV y u := by
    cases rz with
    | cons ry rr => cases rr; exact ⟨_, rfl, ry⟩
  exact run_new1 b T iC tI F1 hr (fun s self hK => hb s [self] [u] rfl rfl) (Nat.zero_le _) I1 ry q1
/-- e.f -/
theorem den_fld {n : Str} (hce : ce c = some C) (T : XfC X.K C) (hno : PySem.W.findIn X.K (.ref C) n = some none) (hn : fe c = n) (he : PE X e (tE (gx X ce fe tb) W m)) (hb : attributeBase e n X.env (eval e X.env) = eval e X.env := by rfl) :
    PE X (.Attribute e n pos) (tE (gx X ce fe tb) W (mFld c m)) := by
  refine ⟨fun pins s σ H Q I ⟨π, env, st, E, S, h⟩ => ?_⟩
  have h' : tE (gx X ce fe tb) W m σ H (fun v H1 => ∃ a dd w, v = .ref a ∧ H1 a = some (exo a C (some dd)) ∧ H1 dd = some (exd dd [(n, w)]) ∧ Q w H1) := by
    refine bindG E S h fun π1 H1 y d st1 e1 E1 S1 r1 h1 => ?_
    cases d with
    | xo k a =>
      replace h1 : Out (gx X ce fe tb) (Rep (gx X ce fe tb)) W σ π1 H1 (if k = c then .ok a st1 else .no) Q := h1
      split at h1
      · rename_i hk
        subst hk
        obtain ⟨p, C', dd, w, rfl, hC, h2, h3, rw⟩ := r1
        have hC' : ce k = some C' := hC
        rw [hce] at hC'
        cases hC'
        rw [← hn]
        exact ⟨p, dd, w, rfl, h2, h3, h1.now S1 rw⟩
      · exact h1.elim
    | _ => exact h1.elim
  refine attr_of hb (thn (he.run pins s σ H _ I h') fun u s1 ⟨v, H1, I1, rv, a, dd, w, ev, ha, hd, q⟩ => ?_)
  subst ev
  obtain rfl : u = Value.ref a := rv
  obtain ⟨t1, hA⟩ := exo_at I1.hok ha
  obtain ⟨mA, hns, hr⟩ := exd_at I1.hok hd
  obtain ⟨od, ho, hl⟩ := lookIn_ns hns
  obtain ⟨u, hu, ru⟩ := RelO.some_of (v := w) (o := mA n) (by have := hr n; rwa [show List.lookup n [(n, w)] = some w by simp] at this)
  have J : PySem.W.InstAt s1.heap a _ C (some od) := ⟨hA, rfl, rfl, ho⟩
  exact HandSPX.exc_get I1.kIn J T.ga T.gg T.exC (PySem.W.findObj_own T.hdC hno rfl (by rw [hl, hu])) (handed_of ru) ⟨w, H1, I1.tok _, ru, q⟩
end
/-- isinstance(e, B), e an exception of one of the own classes -/
theorem call_isV {X : Cx} : CallR X (.builtin "isinstance") (fun xs H Q => ∃ (a C : Addr) (dx : Option Addr) (c : V) (cv : Value) (b : Bool), xs = [.ref a, c] ∧ ExcC X.K C ∧ H a = some (exo a C dx) ∧ (∀ d, dx = some d → ∃ fs, H d = some (exd d fs)) ∧ (∀ u, RelV c u → u = cv) ∧ PySem.W.kitOne X.K (.ref C) cv = some b ∧ Q (.bl b) H) := by
  intro pins s σ H xs us Q I r h
  obtain ⟨a, C, dx, c, cv, b, rfl, T, ha, hdx, hcv, e, q⟩ := h
  cases r with
  | cons rx rr =>
    cases rr with
    | cons rt rr =>
      cases rr
      cases rx
      have ec := hcv _ rt
      subst ec
      obtain ⟨t1, hA⟩ := exo_at I.hok ha
      have J : ∃ ox od, PySem.W.InstAt s.heap a ox C od := by
        cases dx with
        | none => exact ⟨_, none, hA, rfl, rfl, trivial⟩
        | some d =>
          obtain ⟨fs, hfs⟩ := hdx d rfl
          obtain ⟨mA, ⟨o, es, ep, ho, _⟩, _⟩ := exd_at I.hok hfs
          exact ⟨_, some o, hA, rfl, rfl, ho⟩
      obtain ⟨ox, od, J⟩ := J
      have hcl : (PySem.W.clsIn X.K C).isSome = true := by
        obtain ⟨cd, hc, _⟩ := PySem.W.any_some T.hd
        rw [hc]; rfl
      exact PySem.W.kia_one (PySem.W.kitx_exc hcl T.hg T.hk T.hs T.ha T.hn T.ht T.hm) I.kIn J e (fun z => nomatch z) fun tk => ⟨.bl b, H, I.kept (t' := tk) fun _ _ z => z, rfl, q⟩
theorem den_isX {X : Cx} {W : WX} {ce : Nat → Option Addr} {fe : Nat → Str} {tb : List Addr} {B : String} {bs : List Bool} {e e2 : Expr} {m : Env → Sto → Rs D} {p pos : Pos}
    (hb : ∀ c b, bs[c]? = some b → ∃ C, ce c = some C ∧ ExcC X.K C ∧ PySem.W.kitOne X.K (.ref C) (.type B) = some b) (hg : Gl X "isinstance") (hm : X.mg "isinstance" = none) (he : PE X e (tE (gx X ce fe tb) W m)) (ht : PE X e2 (tC (.ty B)))
    (hs : starEach (e :: [e2]) X.env = (false, eval e X.env) :: starEach [e2] X.env := by rfl) (hs2 : starEach [e2] X.env = (false, eval e2 X.env) :: starEach [] X.env := by rfl) (hpl : (backTo pos (starEach [e2] X.env)).any (·.1) = false := by rfl) :
    PE X (.Call (.Name "isinstance" p) [e, e2] [] pos) (tE (gx X ce fe tb) W (mIsX bs m)) := by
  refine imE (pe_callB call_isV hg hm PyProof.Rows.boot_isinstance (pa_cons he (pat_cons ht pat_nil hs2) hs) (by decide) (by decide) hs hpl) fun σ H Q ⟨π, env, st, E, S, h⟩ => ?_
  refine bindG E S h fun π1 H1 v d st1 e1 E1 S1 r1 h1 => ?_
  cases d with
  | xz c =>
    replace h1 : Out (gx X ce fe tb) (Rep (gx X ce fe tb)) W σ π1 H1 (match bs[c]? with
      | some b => .ok (.bl b) st1
      | none => .no) Q := h1
    split at h1
    · rename_i b hc
      obtain ⟨a, C, rfl, hC, ha⟩ := r1
      obtain ⟨C', hC', T, hk⟩ := hb c b hc
      have : ce c = some C := hC
      rw [hC'] at this
      cases this
      exact ⟨a, C, none, .ty B, .type B, b, rfl, T, ha, fun d z => (by cases z), fun u r => r, hk, h1.now S1 rfl⟩
    · exact h1.elim
  | xo c dy =>
    replace h1 : Out (gx X ce fe tb) (Rep (gx X ce fe tb)) W σ π1 H1 (match bs[c]? with
      | some b => .ok (.bl b) st1
      | none => .no) Q := h1
    split at h1
    · rename_i b hc
      obtain ⟨a, C, dd, w, rfl, hC, ha, hd, _⟩ := r1
      obtain ⟨C', hC', T, hk⟩ := hb c b hc
      have : ce c = some C := hC
      rw [hC'] at this
      cases this
      exact ⟨a, C, some dd, .ty B, .type B, b, rfl, T, ha, fun d z => (by cases z; exact ⟨_, hd⟩), fun u r => r, hk, h1.now S1 rfl⟩
    · exact h1.elim
  | _ => exact h1.elim
end Dn
end

section
set_option Elab.async false
set_option linter.all false
set_option maxRecDepth 100000
set_option maxHeartbeats 4000000
/-! xs.extend(a list or a tuple), x.bit_length(), slices from the right, f"{x:b}", counting a sign -/
namespace Dn
open PySem PySem.Spec PyProof.Rows L2

/-! ### extend -/
section
open AutoSeq1
theorem extT (l b : Addr) (n n2 : Nat) (xs ys : Array Value) (dd : Option Addr) (sl : Array (Option Value)) (h1 : ¬(!xs.isEmpty && Builtin.List.listTooLong (xs.size + ys.size)) = true) (h2 : xs.size ≤ sizeLine) (h3 : xs.size + ys.size ≤ sizeLine + 1) :
    Meets (Builtin.«list.extend» ⟨[.ref l, .ref b], []⟩) (fun _ R s => s.heap.get? l = some { cls := .type "list", dict := none, data := .seq xs n, slots := #[] } ∧ s.heap.get? b = some { cls := .type "tuple", dict := dd, data := .seq ys n2, slots := sl } ∧
      R (.ok (.ret Value.none)) { s with heap := s.heap.update l (Obj.mapSeq fun x => x ++ ys), toks := s.toks }) :=
  .of_wp fun prog w A R s h => by
    obtain ⟨hp, g, d, tk, os⟩ := s
    obtain ⟨ql, qb, h⟩ := h
    have a1 := idx_int
    have a2 := AutoSeq1.sub_tuple_tuple
    have a3 := AutoSeq1.sub_list_list
    have a4 := AutoSeq1.sub_tuple_list
    have a5 := AutoSeq1.sub_list_tuple
    have hz : (xs ++ ys).size ≤ sizeLine + 1 := by rw [Array.size_append]; exact h3
    wp_walk using (wpAny_updateSeq ql rfl (hz := h2) (_hz' := hz)), wpAny_loadPart' ql, wpAny_loadPart' qb
    exact ⟨_, rfl, h⟩
end
section
variable {X : Cx}
def rExtT (K : PySem.W.Frag) : V → List V → Hp → VK → Prop := fun x vs H Q => ∃ l b xs zs, x = .ref l ∧ vs = [.ref b] ∧ H l = some (.lst xs) ∧ SqT K H b zs ∧ xs.length + zs.length ≤ sizeLine ∧ Q .non (upd H l (.lst (xs ++ zs)))
theorem mt_extT : MtM X "list.extend" (rExtT X.K) := by
  intro pins s σ H x vs v us Q I rx rv h
  obtain ⟨l, b, xs, zs, rfl, rfl, hH, hB, hz, q⟩ := h
  cases rx
  obtain ⟨u, rfl, ru⟩ := rv.one
  cases ru
  obtain ⟨z, its, n, r, hl, e⟩ := I.lstM hH
  obtain ⟨its2, r2, ⟨⟨cls, dd, data, sl⟩, ho, hc, n2, hd⟩, hl2⟩ := I.tuple hB
  simp only at hc hd
  subst hc hd
  have l1 := r.length
  have l2 := r2.length
  have hsz : its.toArray.size + its2.toArray.size ≤ sizeLine := by rw [List.size_toArray, List.size_toArray]; omega
  have hno : ¬ (!its.toArray.isEmpty && Builtin.List.listTooLong (its.toArray.size + its2.toArray.size)) = true := by
    rw [notLongL hsz, Bool.and_false]; exact Bool.false_ne_true
  refine call_meets PySem.F.slot_list_extend ⟨_, e, rfl⟩ PySem.F.entry_list_extend (PySem.F.args_list_extend_2 _ _) (extT l b n n2 its.toArray its2.toArray dd sl hno (by rw [List.size_toArray]; omega) (by omega)) ⟨e, ho, ?_⟩
  refine ⟨.non, _, I.lset (its' := its ++ its2) hH e (by simp) (r.append r2) ?_, rfl, q⟩
  rw [List.length_append]; omega
theorem mtm_or {id : String} {r1 r2 : V → List V → Hp → VK → Prop} (h1 : MtM X id r1) (h2 : MtM X id r2) : MtM X id (fun x vs H Q => r1 x vs H Q ∨ r2 x vs H Q) := fun pins s σ H x xs v us Q I rx rv h =>
  h.elim (h1 pins s σ H x xs v us Q I rx rv) (h2 pins s σ H x xs v us Q I rx rv)
end
def getE : D → Sto → Option (List D)
  | .tup ds, _ => some ds
  | d, st => getM d st
def mExt (mo me : Env → Sto → Rs D) : Env → Sto → Rs D := fun env st => (mo env st).bind fun o st1 => match o with
  | .cell n => (me env st1).bind fun d st2 => match st2[n]? with
    | some (.lst ds) => match getE d st2 with
      | some es => if ds.length + es.length ≤ sz then .ok .non (st2.set n (.lst (ds ++ es))) else .no
      | none => .no
    | _ => .no
  | _ => .no
section
variable {X : Cx} {W : WX} {ce : Nat → Option Addr} {fe : Nat → Str} {tb : List Addr} {o e : Expr} {mo me m : Env → Sto → Rs D} {apos cpos : Pos}
theorem den_ext (ho : PE X o (tE (gx X ce fe tb) W mo)) (he : PE X e (tE (gx X ce fe tb) W me)) (hbase : attributeBase o "extend" X.env (eval o X.env) = eval o X.env := by rfl)
    (hfew : ((backTo cpos (starEach [e] X.env)).all (fun x => !x.1) && (backToKw cpos (keywordEach [] X.env)).all (fun x => x.1.isSome)
      && decide ([e].length + ([] : List Keyword).length + (if ([] : List Keyword).isEmpty then 0 else 1) < 30)) = true := by rfl)
    (hline : (apos.endLine == cpos.line) = true := by rfl) (hs : starEach [e] X.env = (false, eval e X.env) :: starEach [] X.env := by rfl) :
    PE X (.Call (.Attribute o "extend" apos) [e] [] cpos) (tE (gx X ce fe tb) W (mExt mo me)) := by
  refine imE (pe_bm PySem.F.plainAttrs_list PySem.F.slot_list_extend PySem.F.type_list_extend (mtm_or mt_extend mt_extT) ho (pa_cons he pa_nil hs) hbase hfew hline hs rfl) fun σ H Q ⟨π, env, st, E, S, h⟩ => ?_
  refine bindG E S h fun π1 H1 v d st1 e1 E1 S1 r1 h1 => ?_
  cases d with
  | cell n =>
    have ty : tyV X.K "list" v H1 := by
      obtain ⟨p, rfl, hp, hd⟩ := r1
      obtain ⟨vs, hv⟩ := S1.lst (List.mem_of_getElem? hp) hd
      exact .inl ⟨rfl, vs, SqL.of hv⟩
    refine ⟨ty, ?_⟩
    refine bindG E1 S1 h1 fun π2 H2 w dw st2 e2 E2 S2 r2 h2 => ?_
    obtain ⟨p, rfl, hp, _⟩ := r1.ext e2.toKp
    split at h2
    · rename_i ds q
      split at h2
      · rename_i es qe
        split at h2
        · rename_i hz
          obtain ⟨vs, hv, rl⟩ := S2.read hp q
          have fin : ∀ {zs : List V}, RepL (gx X ce fe tb) π2 H2 zs es → Q .non (upd H2 p (.lst (vs ++ zs))) := fun {zs} rz =>
            h2 π2 _ _ (ext_put S2 (List.mem_of_getElem? hp) hv) (S2.put hp hv (rl.append rz)) rfl
          have lists : getM dw st2 = some es → rExtend (.ref p) [w] H2 Q ∨ rExtT X.K (.ref p) [w] H2 Q := fun qm => by
            obtain ⟨b, zs, rfl, hb, rz⟩ := getM_ok S2 r2 qm
            exact .inl ⟨p, b, vs, zs, rfl, rfl, hv, hb, by rw [rl.length, rz.length, sizeLine_eq]; exact hz, fin rz⟩
          cases dw with
          | tup es' =>
            cases qe
            obtain ⟨b, zs, rfl, hb, rz⟩ := r2
            exact .inr ⟨p, b, vs, zs, rfl, rfl, hv, SqT.of hb, by rw [rl.length, rz.length, sizeLine_eq]; exact hz, fin rz⟩
          | non => cases qe
          | bl _ => cases qe
          | int _ => cases qe
          | str _ => cases qe
          | lst _ => exact lists qe
          | rol _ => exact lists qe
          | cell _ => exact lists qe
          | ktp _ => cases qe
          | dic _ => cases qe
          | xz _ => cases qe
          | xo _ _ => cases qe
        · exact h2.elim
      · exact h2.elim
    · exact h2.elim
  | _ => exact h1.elim

/-! ### bit_length -/
def fBits (d : D) (st : Sto) : Rs D := match d with
  | .int i => .ok (.int ((Builtin.Int.intBits i : Nat) : Int)) st
  | _ => .no
def mBits (m : Env → Sto → Rs D) : Env → Sto → Rs D := fun env st => (m env st).bind fBits
theorem den_bits {pos : Pos} (ho : PE X o (tE (gx X ce fe tb) W m)) (hbase : attributeBase o "bit_length" X.env (eval o X.env) = eval o X.env := by rfl) (hline : (apos.endLine == pos.line) = true := by rfl) :
    PE X (.Call (.Attribute o "bit_length" apos) [] [] pos) (tE (gx X ce fe tb) W (mBits m)) := by
  refine imE (pe_bits ho hbase hline) fun σ H Q ⟨π, env, st, E, S, h⟩ => ?_
  refine bindG E S h fun π1 H1 v d st1 e1 E1 S1 r1 h1 => ?_
  cases d with
  | int i => exact ⟨i, r1, Out.now h1 S1 rfl⟩
  | _ => exact h1.elim
end
end Dn
end

section
set_option Elab.async false
set_option linter.all false
set_option maxRecDepth 100000
set_option maxHeartbeats 4000000
namespace Dn
open PySem PySem.Spec PyProof.Rows L2

/-! ### slices from the right: xs[::-1], xs[-2::-1] -/
def revN (lo : Option Int) (n : Nat) : Nat := match lo with
  | none => n
  | some i => if i < 0 then (i + n + 1).toNat else min (i.toNat + 1) n
theorem revN_le (lo : Option Int) (n : Nat) : revN lo n ≤ n := by
  cases lo with
  | none => exact Nat.le_refl _
  | some i =>
    unfold revN
    dsimp only
    split <;> omega
theorem rev_take {α : Type} (xs : Array α) (m : Nat) : (List.range m).filterMap (fun k => xs[m - 1 - k]?) = (xs.toList.take m).reverse := by
  have e : (List.range m).filterMap (fun k => xs[m - 1 - k]?) = ((List.range m).map fun k => m - 1 - k).filterMap (xs[·]?) := by
    rw [List.filterMap_map]; rfl
  rw [e, PySem.W.krv_range, List.filterMap_reverse]
  have := pick_run xs 0 m
  rw [show ((0 + ·) : Nat → Nat) = id from funext fun k => Nat.zero_add k, List.map_id, List.drop_zero] at this
  rw [this]
theorem bounds_rev (lo : Option Int) (n : Nat) : sliceBounds lo none (some (-1)) n = (((revN lo n : Nat) : Int) - 1, -1, -1) := by
  cases lo with
  | none => rfl
  | some i =>
    have e : sliceBounds (some i) none (some (-1)) n = (max (-1) (min (if i < 0 then i + n else i) ((n : Int) - 1)), -1, -1) := rfl
    rw [e]
    unfold revN
    dsimp only
    refine Prod.ext ?_ rfl
    dsimp only
    split <;> omega
theorem range_rev (m : Nat) : sliceRange ((m : Int) - 1) (-1) (-1) = (List.range m).map fun k => m - 1 - k := PySem.W.krv_sliceRange m
theorem pick_rev (xs : Array Value) (lo : Option Int) : slicePick xs lo none (some (-1)) = (xs.toList.take (revN lo xs.size)).reverse.toArray := by
  unfold slicePick
  rw [bounds_rev]
  show ((sliceRange ((revN lo xs.size : Int) - 1) (-1) (-1)).filterMap (xs[·]?)).toArray = _
  rw [range_rev, List.filterMap_map]
  exact congrArg List.toArray (rev_take xs (revN lo xs.size))
theorem adjust_rev (lo : Option Int) (n : Nat) : Builtin.Slice.sliceAdjust lo none (-1) (n : Int) = (((revN lo n : Nat) : Int) - 1, -1) := by
  cases lo with
  | none => rfl
  | some i =>
    have e : Builtin.Slice.sliceAdjust (some i) none (-1) (n : Int) = (if i < 0 then max (i + n) (-1) else min i ((n : Int) - 1), -1) := rfl
    rw [e]
    unfold revN
    dsimp only
    refine Prod.ext ?_ rfl
    dsimp only
    split <;> omega
theorem places_rev (m : Nat) : Builtin.Slice.slicePlaces ((m : Int) - 1) (-1) (-1) = m := by
  unfold Builtin.Slice.slicePlaces
  rw [if_neg (by omega)]
  rw [show (-(-1 : Int)) = 1 by omega, Int.ediv_one]
  split <;> omega
section
variable {prog : Program} {w : World} {A : Around} {E : Value → Shared → Prop} {s : Shared}
open HT
theorem applied_rev {sl : Addr} {vl vs : Value} {lo : Option Int} {n : Nat} {Q : Int × Int × Nat → Shared → Prop} (hs : s.heap.IsSliceOf sl vl .none vs) (pl : IsPart vl lo) (ps : IsPart vs (some (-1)))
    (h : Q (((revN lo n : Nat) : Int) - 1, -1, revN lo n) s) : wpAny (model prog w) A (Builtin.Slice.sliceApplied (.ref sl) (pure (n : Int))) Q E s := by
  obtain ⟨ox, e1, e2, e3⟩ := id hs
  unfold Builtin.Slice.sliceApplied Builtin.Slice.sliceFields
  refine wpAny_bind (wpAny_bind (wpAny_field e1 e3 (x := vl) rfl (wpAny_bind (wpAny_field e1 e3 (x := .none) rfl (wpAny_bind (wpAny_field e1 e3 (x := vs) rfl (wpAny_pure ?_)))))))
  refine wpAny_bind (slicePart_ ps ?_)
  show wpAny _ _ (if ((-1 : Int) == 0) = true then _ else _) _ _ s
  rw [if_neg (by decide)]
  refine wpAny_bind (slicePart_ pl (wpAny_bind (slicePart_none (wpAny_bind (wpAny_pure ?_)))))
  show wpAny _ _ (match Builtin.Slice.sliceAdjust lo none (-1) (n : Int) with | (lo, hi) => pure (lo, (-1 : Int), Builtin.Slice.slicePlaces lo hi (-1))) _ _ s
  rw [adjust_rev lo n]
  show wpAny _ _ (pure (((revN lo n : Nat) : Int) - 1, (-1 : Int), Builtin.Slice.slicePlaces (((revN lo n : Nat) : Int) - 1) (-1) (-1))) _ _ s
  rw [places_rev]
  exact wpAny_pure h
theorem item_rev {t sl : Addr} {items : Array Value} {vl vs : Value} {lo : Option Int} {Q : Value → Shared → Prop} (ht : IsTup s.heap t items) (hs : s.heap.IsSliceOf sl vl .none vs) (pl : IsPart vl lo) (ps : IsPart vs (some (-1)))
    (h : Q (.ref s.heap.objs.size) { s with heap := s.heap.push { cls := .type "tuple", data := .seq (items.toList.take (revN lo items.size)).reverse.toArray } }) (hz : items.size ≤ sizeLine) :
    wpAny (model prog w) A (getItem (.ref t) (.ref sl)) Q E s := by
  have ok : sizeOk (.seq (items.toList.take (revN lo items.size)).reverse.toArray) := by
    show (items.toList.take (revN lo items.size)).reverse.toArray.size ≤ sizeLine
    rw [List.size_toArray, List.length_reverse, List.length_take, Array.length_toList]; omega
  obtain ⟨ox, e1, e2, e3⟩ := id hs
  have ty : s.TypeIs (.ref sl) "slice" := ⟨ox, e1, e2⟩
  unfold getItem
  try with_reducible refine wpAny_holding ?_
  first | refine wpAny_bind (wpAny_pure ?_) | skip
  refine wpAny_bind (wpAny_sequenceKey ht.typeIs (by decide) ?_)
  refine wpAny_bind (wpAny_callSpecial?_slot (name := Str.ofString "__getitem__") ht.typeIs PyProof.Rows.slot_tuple_getitem (wpAny_call_entry PyProof.Rows.slot_tuple_getitem ht.typeIs entry_tuple_getitem ?_ (args_tuple_getitem _ _)))
  show wpAny _ _ (Builtin.Tuple.tupleItemsOf (.ref t) >>= _) _ _ s
  refine wpAny_bind (tupleItemsOf_ ht ?_)
  refine wpAny_bind (wpAny_typeOf ty ?_)
  rw [if_pos (by decide)]
  refine wpAny_bind (applied_rev hs pl ps ?_)
  have no : ¬ (((((revN lo items.size : Nat) : Int) - 1) == 0 && (-1 : Int) == 1 && revN lo items.size == items.size) = true) := by
    rw [show ((-1 : Int) == 1) = false from rfl, Bool.and_false, Bool.false_and]; exact Bool.false_ne_true
  show wpAny _ _ (if ((((revN lo items.size : Nat) : Int) - 1) == 0 && (-1 : Int) == 1 && revN lo items.size == items.size) = true then _ else _) _ _ s
  rw [if_neg no]
  have e : ((List.range (revN lo items.size)).filterMap fun (k : Nat) => items[((((revN lo items.size : Nat) : Int) - 1) + (k : Int) * (-1)).toNat]?) = (items.toList.take (revN lo items.size)).reverse := by
    rw [← rev_take]
    congr 1
    funext k
    have : ((((revN lo items.size : Nat) : Int) - 1) + (k : Int) * (-1)).toNat = revN lo items.size - 1 - k := by omega
    rw [this]
  rw [e]
  first
    | exact wpAny_bind (m := Builtin.Tuple.tupleExact _) (wpAny_newObj_type (wpAny_pure ⟨_, rfl, wpAny_pure h⟩) ok)
    | exact wpAny_bind (m := Builtin.Tuple.tupleExact _) (wpAny_newObj_type (wpAny_bind (wpAny_pure (wpAny_pure ⟨_, rfl, wpAny_pure h⟩))) ok)
    | exact wpAny_bind (wpAny_bind (m := Builtin.Tuple.tupleExact _) (wpAny_newObj_type (wpAny_pure (wpAny_pure ⟨_, rfl, wpAny_pure h⟩)) ok))
    | exact wpAny_bind (wpAny_bind (m := Builtin.Tuple.tupleExact _) (wpAny_newObj_type (wpAny_pure ⟨_, rfl, wpAny_pure h⟩) ok))
end
/-- the reading: a list gives a new list, a tuple a new tuple -/
def tRev (K : PySem.W.Frag) (te : TE) (tl : TO) : TE := fun σ H Q => te σ H fun x H1 => tl σ H1 fun lo H2 => ∃ a xs, x = .ref a ∧ ((SqL K H2 a xs ∧ ∀ p, H2 p = none → Q (.ref p) (upd H2 p (.lst (xs.take (revN lo xs.length)).reverse))) ∨
  (SqT K H2 a xs ∧ ∀ p, H2 p = none → Q (.ref p) (upd H2 p (.tup (xs.take (revN lo xs.length)).reverse))))
theorem pe_rev {X : Cx} {e : Expr} {te : TE} {lo : Option Expr} {tl : TO} {k : Nat} {p1 p2 p3 pos : Pos} (he : PE X e te) (hl : PO X lo tl) : PE X (.Subscript e (.Slice lo none (some (.UnaryOp .USub (.Constant (.int 1) k p1) p2)) p3) pos) (tRev X.K te tl) := by
  refine ⟨fun pins s σ H Q I h => ?_⟩
  refine Subscript_ (thn (he.run pins s σ H _ I h) fun v s1 ⟨x, H1, I1, r1, q1⟩ => ?_)
  have hst : PO X (some (.UnaryOp .USub (.Constant (.int 1) k p1) p2)) (tPart (tUn (rU fun i => .int (-i)) (tC (.int 1)))) := po_some (pe_un un_neg pe_int)
  refine wpAny_Slice (thn (hl.run pins s1 σ H1 _ I1 q1) fun vl s2 ⟨l, H2, I2, pl, a, xs, ex, q⟩ => ?_)
  subst ex
  cases r1
  refine thn (po_none.run pins s2 σ H2 (fun o H3 => o = none ∧ H3 = H2) I2 ⟨rfl, rfl⟩) fun vu s3 ⟨u, H3, I3, pu, eu, e3⟩ => ?_
  subst eu e3
  refine thn (hst.run pins s3 σ H3 (fun o H4 => o = some (-1) ∧ H4 = H3) I3 ⟨1, rfl, -1, rfl, rfl, rfl⟩) fun vs s4 ⟨o, H4, I4, ps, eo, e4⟩ => ?_
  subst eo e4
  have evu : vu = .none := by cases pu; rfl
  subst evu
  have I5 : Inv X pins σ H4 { s4 with heap := s4.heap.push { cls := .type "slice", data := .fields #[vl, .none, vs] } } := I4.kept (t' := s4.toks) fun b ob q => Heap.get?_push_of_some _ q
  have hf : H4 (s4.heap.push { cls := .type "slice", data := .fields #[vl, .none, vs] }).objs.size = none := I5.hok.fresh (Nat.le_refl _)
  rcases q with ⟨hx, q⟩ | ⟨hx, q⟩
  · obtain ⟨its, r, ht, hz⟩ := I5.list hx
    have hlen := r.length
    show wpAny (model X.prog X.w) X.A (subscriptTail e (.Slice lo none (some (.UnaryOp .USub (.Constant (.int 1) k p1) p2)) p3) (.ref a) (.ref s4.heap.objs.size)) (EP X pins σ Q) X.xe _
    refine tail_any (ops := [.ref a, .ref s4.heap.objs.size]) ht.isList.typeIs (PySem.slot_list_getitem.lookup) ?_ (by with_unfolding_all rfl)
    refine wpAny_getItem_list_slice ht.isList (Heap.IsSliceOf.new _ vl .none vs) pl pu ps (by decide) ?_ (by rw [List.size_toArray]; omega)
    rw [pick_rev]
    have hsz : its.toArray.size = xs.length := by rw [List.size_toArray]; exact hlen.symm
    rw [hsz]
    refine ⟨.ref _, _, I5.laid (t' := s4.toks) (o := .lst (xs.take (revN l xs.length)).reverse) (fun b ob q => Heap.get?_push_of_some _ q) (Nat.le_refl _) ?_, rfl, q _ hf⟩
    exact ⟨by rw [List.length_reverse, List.length_take]; omega, _, 0, (r.take _).reverse, Heap.get?_push_size _ rfl⟩
  · obtain ⟨its, r, ht, hz⟩ := I5.tuple hx
    have hlen := r.length
    show wpAny (model X.prog X.w) X.A (subscriptTail e (.Slice lo none (some (.UnaryOp .USub (.Constant (.int 1) k p1) p2)) p3) (.ref a) (.ref s4.heap.objs.size)) (EP X pins σ Q) X.xe _
    refine tail_any (ops := [.ref a, .ref s4.heap.objs.size]) ht.typeIs (PyProof.Rows.slot_tuple_getitem.lookup) ?_ (by with_unfolding_all rfl)
    refine item_rev ht (Heap.IsSliceOf.new _ vl .none vs) pl ps ?_ (by rw [List.size_toArray]; omega)
    have hsz : its.toArray.size = xs.length := by rw [List.size_toArray]; exact hlen.symm
    rw [hsz]
    refine ⟨.ref _, _, I5.laid (t' := s4.toks) (o := .tup (xs.take (revN l xs.length)).reverse) (fun b ob q => Heap.get?_push_of_some _ q) (Nat.le_refl _) ?_, rfl, q _ hf⟩
    refine ⟨?_, _, (r.take _).reverse, ?_⟩
    · rw [List.length_reverse, List.length_take]; omega
    · exact ⟨_, Heap.get?_push_size _ rfl, rfl, 0, rfl⟩
def fRev (mu : Bool) (d : D) (lo : Option Int) (st : Sto) : Rs D := match d with
  | .tup ds => .ok (.tup (ds.take (revN lo ds.length)).reverse) st
  | d => match getL d st with
    | some ds => mkL mu (ds.take (revN lo ds.length)).reverse st
    | none => .no
def mRev (mu : Bool) (m : Env → Sto → Rs D) (mo : Env → Sto → Rs (Option Int)) : Env → Sto → Rs D := fun env st => (m env st).bind fun d st1 => (mo env st1).bind fun lo st2 => fRev mu d lo st2
theorem o_rev {Γ : Gm} {W : WX} {σ : L2.St} {mu : Bool} {lo : Option Int} {π : Pl} {H : Hp} {st : Sto} {v : V} {d : D} {Q : VK} (S : StR Γ π H st) (r : Rep Γ π H v d) (h : Out Γ (Rep Γ) W σ π H (fRev mu d lo st) Q) :
    ∃ a xs, v = .ref a ∧ ((SqL Γ.K H a xs ∧ ∀ p, H p = none → Q (.ref p) (upd H p (.lst (xs.take (revN lo xs.length)).reverse))) ∨ (SqT Γ.K H a xs ∧ ∀ p, H p = none → Q (.ref p) (upd H p (.tup (xs.take (revN lo xs.length)).reverse)))) := by
  have lists : ∀ {d : D}, Rep Γ π H v d → Out Γ (Rep Γ) W σ π H (match getL d st with
    | some ds => mkL mu (ds.take (revN lo ds.length)).reverse st
    | none => .no) Q → ∃ a xs, v = .ref a ∧ ((SqL Γ.K H a xs ∧ ∀ p, H p = none → Q (.ref p) (upd H p (.lst (xs.take (revN lo xs.length)).reverse))) ∨ (SqT Γ.K H a xs ∧ ∀ p, H p = none → Q (.ref p) (upd H p (.tup (xs.take (revN lo xs.length)).reverse)))) := fun {d} r h => by
    split at h
    · rename_i ds e
      obtain ⟨p, vs, rfl, hq, rl⟩ := getL_ok S r e
      refine ⟨p, vs, rfl, .inl ⟨hq, fun l hl => ?_⟩⟩
      rw [rl.length]
      exact h.newL S (rl.take _).reverse hl
    · exact h.elim
  cases d with
  | tup ds =>
    obtain ⟨p, vs, rfl, hq, rl⟩ := r
    refine ⟨p, vs, rfl, .inr ⟨SqT.of hq, fun l hl => ?_⟩⟩
    rw [rl.length]
    exact Out.newT h S (rl.take _).reverse hl
  | non => exact lists (d := .non) r h
  | bl _ => exact lists (d := .bl _) r h
  | int _ => exact lists (d := .int _) r h
  | str _ => exact lists (d := .str _) r h
  | lst _ => exact lists (d := .lst _) r h
  | rol _ => exact lists (d := .rol _) r h
  | cell _ => exact lists (d := .cell _) r h
  | ktp _ => exact lists (d := .ktp _) r h
  | dic _ => exact lists (d := .dic _) r h
  | xz _ => exact lists (d := .xz _) r h
  | xo _ _ => exact lists (d := .xo _ _) r h
theorem den_rev (mu : Bool) {X : Cx} {W : WX} {ce : Nat → Option Addr} {fe : Nat → Str} {tb : List Addr} {e : Expr} {m : Env → Sto → Rs D} {lo : Option Expr} {mo : Env → Sto → Rs (Option Int)} {k : Nat} {p1 p2 p3 pos : Pos} (he : PE X e (tE (gx X ce fe tb) W m)) (hl : PO X lo (tO (gx X ce fe tb) W mo)) :
    PE X (.Subscript e (.Slice lo none (some (.UnaryOp .USub (.Constant (.int 1) k p1) p2)) p3) pos) (tE (gx X ce fe tb) W (mRev mu m mo)) := by
  refine imE (pe_rev he hl) fun σ H Q ⟨π, env, st, E, S, h⟩ => ?_
  refine bindG E S h fun π1 H1 v d st1 e1 E1 S1 r1 h1 => ?_
  refine bindG E1 S1 h1 fun π2 H2 lo lo' st2 e2 E2 S2 r2 h2 => ?_
  rw [show lo = lo' from r2]
  exact o_rev S2 (r1.ext e2.toKp) h2
end Dn
end

section
set_option Elab.async false
set_option linter.all false
set_option maxRecDepth 100000
set_option maxHeartbeats 1000000
namespace Dn
open PySem PySem.Spec PyProof.Rows L2
section
open Builtin Builtin.Int
abbrev sB : Str := "b"
def fmB : Builtin.Float.FormatSpec := { align := 62, type := some 98 }
theorem parseB (name : String) : Builtin.Float.parseFormatSpec [98] name 62 = .ok fmB := by rfl
def binS (x : Int) : Str := ⟨((Nat.toDigits 2 x.natAbs).map Char.toNat).toArray⟩
theorem gives_bin (x : Int) (t u : Tok) (hx : 0 ≤ x) : Gives (Builtin.«int.__format__» ⟨[.int x t, .str sB u], []⟩) (.str (binS x)) := by
  unfold Builtin.«int.__format__»
  refine gives_after_typeNameOf (T := "str") (fun s => typeIs_str s _ _) (by decide) fun kind => ?_
  intro prog w A R s hq
  simp only [asStr?, pure_bind, bind_pure, bind_assoc, show (sB.length == 0) = false from rfl, Bool.false_eq_true, if_false]
  rw [if_neg (by decide)]
  refine wpAny_bind (wpAny_typeNameOfCut_int ?_)
  rw [show sB.cps.toList = [98] from rfl]
  simp only [parseB]
  rw [if_pos (by decide)]
  refine (Gives.of_eq (m := .str (binS x)) ?_) prog w A R s hq
  show retStr _ = _
  rw [decide_eq_false (show ¬ x < 0 by omega)]
  show retStr _ = retStr (binS x)
  congr 1
  have e : ∀ ds : List Nat, intField' fmB false [] ds [] 4 = (⟨ds.toArray⟩ : Str) := by
    intro ds
    cases ds with
    | nil => rfl
    | cons a l => simp [intField', fmB]; omega
  exact e _
end
/-! ### f"{x:b}" -/
def tBin (te : TE) : TE := fun σ H Q => te σ H fun x H1 => ∃ i : Int, x = .int i ∧ 0 ≤ i ∧ (binS i).length ≤ sizeLine ∧ Q (.str (binS i)) H1
theorem pe_bin {X : Cx} {e : Expr} {te : TE} {p1 p2 p3 p4 : Pos} {k : Nat} (he : PE X e te) : PE X (.JoinedStr [.FormattedValue e (-1) (some (.JoinedStr [.Constant (.str sB) k p1] p2)) p3] p4) (tBin te) := by
  refine pe_joined1 ⟨fun pins s σ H Q I h => ?_⟩
  refine wpAny_FormattedValue_spec (thn (he.run pins s σ H _ I h) fun v s1 ⟨x, H1, I1, r1, i, ex, hi, hl, q⟩ => ?_)
  subst ex
  obtain ⟨t, rfl⟩ := r1
  refine thn ((pe_joined1 (X := X) (pos := p2) (pe_str (X := X) (x := sB) (pos := p1) (j := k))).run pins s1 σ H1 (fun y H2 => y = .str sB ∧ H2 = H1) I1 ⟨rfl, rfl⟩) fun r s2 ⟨y, H2, I2, r2, ey, eH⟩ => ?_
  subst ey eH
  obtain ⟨u, rfl⟩ := r2
  refine ⟨sB, u, rfl, ?_⟩
  exact wpAny_formatField_spec (T := "int") (sp := sB) rfl (fun s' => typeIs_int s' _ _) PyProof.Rows.slot_int_format PyProof.Rows.entry_int_format (fun a b => PyProof.Rows.args_int_format a b) (fun u => gives_bin i t u hi)
    ⟨.str (binS i), H2, I2.tok _, ⟨_, rfl⟩, q⟩ (by show 1 ≤ sizeLine; rw [sizeLine_eq]; decide) hl
theorem bin_len (n : Nat) : (binS n).length = (Nat.toDigits 2 n).length := by
  show ((Nat.toDigits 2 n).map Char.toNat).toArray.size = _
  simp
def fBin (d : D) (st : Sto) : Rs D := match d with
  | .int i => if 0 ≤ i then (if ((Nat.toDigits 2 i.natAbs).map Char.toNat).length ≤ sz then .ok (.str ((Nat.toDigits 2 i.natAbs).map Char.toNat)) st else .no) else .no
  | _ => .no
def mBin (m : Env → Sto → Rs D) : Env → Sto → Rs D := fun env st => (m env st).bind fBin
theorem den_bin {X : Cx} {W : WX} {ce : Nat → Option Addr} {fe : Nat → Str} {tb : List Addr} {e : Expr} {m : Env → Sto → Rs D} {p1 p2 p3 p4 : Pos} {k : Nat} (he : PE X e (tE (gx X ce fe tb) W m)) :
    PE X (.JoinedStr [.FormattedValue e (-1) (some (.JoinedStr [.Constant (.str sB) k p1] p2)) p3] p4) (tE (gx X ce fe tb) W (mBin m)) := by
  refine imE (pe_bin he) fun σ H Q ⟨π, env, st, E, S, h⟩ => ?_
  refine bindG E S h fun π1 H1 v d st1 e1 E1 S1 r1 h1 => ?_
  cases d with
  | int i =>
    unfold fBin at h1
    dsimp only at h1
    split at h1
    · rename_i hi
      split at h1
      · rename_i hl
        refine ⟨i, r1, hi, ?_, Out.now h1 S1 ?_⟩
        · show ((Nat.toDigits 2 i.natAbs).map Char.toNat).toArray.size ≤ sizeLine
          rw [List.size_toArray, sizeLine_eq]; exact hl
        · rfl
      · exact h1.elim
    · exact h1.elim
  | _ => exact h1.elim

/-! ### how often a sign stands in a text -/
section
open Builtin Builtin.Str StrLaws
theorem occ_count (x : Str) (c : Nat) : ∀ (m i free : Nat) (found : Array Nat), i + m = x.length + 1 → found.size ≤ i → free ≤ i →
    (forIn (List.range' i m) (found, free) (occBody x ⟨#[c]⟩ x.length (x.length + 1))).run.fst.size = found.size + (x.cps.toList.drop i).count c
  | 0, i, free, found, h, h1, h2 => by
    have : x.cps.toList.drop i = [] := List.drop_eq_nil_of_le (by simp [Str.length] at h; simp; omega)
    rw [this]; simp
  | m + 1, i, free, found, h, h1, h2 => by
    rw [List.range'_succ, List.forIn_cons]
    unfold occBody
    by_cases hc : x.cps.toList[i]? = some c
    · have q := (subAt_one x c i).mpr hc
      have h3 : found.size < x.length + 1 := by omega
      rw [if_pos ⟨⟨⟨h3, h2⟩, q.1⟩, q.2⟩]
      show (forIn (List.range' (i + 1) m) (found.push i, i + 1) (occBody x ⟨#[c]⟩ x.length (x.length + 1))).run.fst.size = _
      rw [occ_count x c m (i + 1) (i + 1) (found.push i) (by omega) (by rw [Array.size_push]; omega) (Nat.le_refl _), Array.size_push]
      obtain ⟨hlt, e⟩ := List.getElem?_eq_some_iff.mp hc
      rw [List.drop_eq_getElem_cons hlt, e, List.count_cons_self]
      omega
    · have q : ¬ (((found.size < x.length + 1 ∧ free ≤ i) ∧ i + (⟨#[c]⟩ : Str).length ≤ x.length) ∧ subAt x ⟨#[c]⟩ i = true) := fun z => hc ((subAt_one x c i).mp ⟨z.1.2, z.2⟩)
      rw [if_neg q]
      show (forIn (List.range' (i + 1) m) (found, free) (occBody x ⟨#[c]⟩ x.length (x.length + 1))).run.fst.size = _
      rw [occ_count x c m (i + 1) free found (by omega) (by omega) (by omega)]
      congr 1
      by_cases hlt : i < x.cps.toList.length
      · rw [List.drop_eq_getElem_cons hlt, List.count_cons_of_ne]
        intro e
        exact hc (by rw [List.getElem?_eq_getElem hlt, e])
      · rw [List.drop_eq_nil_of_le (by omega), List.drop_eq_nil_of_le (by omega)]
theorem txt_count1 (l : List Nat) (c : Nat) : Txt.count ⟨⟨l⟩⟩ ⟨#[c]⟩ = ((l.count c : Nat) : Int) := by
  unfold Txt.count
  rw [occ_eq]
  have := occ_count ⟨⟨l⟩⟩ c ((⟨⟨l⟩⟩ : Str).length + 1) 0 0 #[] (by omega) (Nat.le_refl _) (Nat.le_refl _)
  rw [Array.length_toList, Nat.sub_zero, this]
  simp
end
def fCnt (a b : D) (st : Sto) : Rs D := match a, b with
  | .str l, .str [c] => .ok (.int ((l.count c : Nat) : Int)) st
  | _, _ => .no
def mCnt (mo me : Env → Sto → Rs D) : Env → Sto → Rs D := fun env st => (mo env st).bind fun o st1 => match o with
  | .str l => (me env st1).bind fun d st2 => fCnt (.str l) d st2
  | _ => .no
theorem den_cnt {X : Cx} {W : WX} {ce : Nat → Option Addr} {fe : Nat → Str} {tb : List Addr} {o e : Expr} {mo me : Env → Sto → Rs D} {apos cpos : Pos} (ho : PE X o (tE (gx X ce fe tb) W mo)) (he : PE X e (tE (gx X ce fe tb) W me)) (hs : starEach [e] X.env = [(false, eval e X.env)] := by rfl) (hbase : attributeBase o "count" X.env (eval o X.env) = eval o X.env := by rfl) (hline : (apos.endLine == cpos.line) = true := by rfl) :
    PE X (.Call (.Attribute o "count" apos) [e] [] cpos) (tE (gx X ce fe tb) W (mCnt mo me)) := by
  refine imE (pe_m1 PySem.F.slot_str_count PySem.F.type_str_count mt_count ho he hs hbase hline) fun σ H Q ⟨π, env, st, E, S, h⟩ => ?_
  refine bindG E S h fun π1 H1 v d st1 e1 E1 S1' r1 h1 => ?_
  cases d with
  | str l =>
    refine ⟨⟨_, r1⟩, ?_⟩
    refine bindG E1 S1' h1 fun π2 H2 w dw st2 e2 E2 S2 r2 h2 => ?_
    cases dw <;> first | (exact h2.elim) | skip
    rename_i l2
    rcases l2 with _ | ⟨c, _ | ⟨c2, l3⟩⟩
    · exact h2.elim
    · exact ⟨Dn.S1 l, Dn.S1 [c], r1, by rw [show w = _ from r2]; rfl, h2.now S2 (by rw [show Txt.count (Dn.S1 l) (Dn.S1 [c]) = _ from txt_count1 l c]; rfl)⟩
    · exact h2.elim
  | _ => exact h1.elim
end Dn
end

section
set_option Elab.async false
set_option linter.all false
set_option maxRecDepth 100000
set_option maxHeartbeats 4000000
namespace Dn
open PySem PySem.Spec PyProof.Rows L2
def sPar3 (i j l : Nat) (ml : Env → Sto → Rs (List D)) : Env → Sto → Sr := fun env st => (ml env st).thn env fun ds st1 => match ds with
  | [u, v, w] => .nx (((env.set i (some u)).set j (some v)).set l (some w)) st1
  | _ => .no
theorem ds_par3 {X : Cx} {W : WX} {Γ : Gm} {a b c : Expr} {pos : Pos} (i j l : Nat) {x y z : Str} {ml : Env → Sto → Rs (List D)} {px py pz pt : Pos} {kt k2 pt2} (hc : X.calm = true) (hN : X.N.Nodup) (hi : X.N[i]? = some x) (hj : X.N[j]? = some y) (hl : X.N[l]? = some z) (hij : i ≠ j) (hil : i ≠ l) (hjl : j ≠ l)
    (hx : X.env.scope.names.lookup x = some .local) (hy : X.env.scope.names.lookup y = some .local) (hz : X.env.scope.names.lookup z = some .local) (ha : PA X [a, b, c] (tL Γ W ml))
    (hw : swappedStores [.Tuple [.Name x px, .Name y py, .Name z pz] kt pt] (.Tuple [a, b, c] k2 pt2) X.env = pure (some [x, y, z]))
    (hs : swapsWithSole [.Tuple [.Name x px, .Name y py, .Name z pz] kt pt] (.Tuple [a, b, c] k2 pt2) pos.line X.env = pure false := by rfl) :
    PS X (.Assign [.Tuple [.Name x px, .Name y py, .Name z pz] kt pt] (.Tuple [a, b, c] k2 pt2) pos) (tS Γ W (sPar3 i j l ml)) := by
  refine imS (ps_par3 hc hN hi hj hl hij hil hjl hx hy hz ha hw hs) fun D σ H ⟨π, env, st, E, S, h⟩ => bindS E S h fun π1 H1 vs ds st1 e1 E1 S1 r1 h1 => ?_
  split at h1
  · obtain ⟨v0, vr, rfl, r2, w0, wr, rfl, r3, u0, ur, rfl, r4, r5⟩ := r1
    rw [show ur = [] from r5]
    exact ⟨v0, w0, u0, rfl, h1.nxt (((E1.set r2).set r3).set r4) S1⟩
  · exact h1.elim
end Dn
end

section
set_option Elab.async false
set_option linter.all false
set_option maxRecDepth 100000
set_option maxHeartbeats 4000000
/-! dicts: what is at a key, stores, in, get -/
namespace Dn
open PySem PySem.Spec PyProof.Rows L2

/-! ### keys -/
def keyD : D → Option Key
  | .int i => some (.inl i)
  | .str l => some (.inr ⟨⟨l⟩⟩)
  | _ => none
def keysD : List D → Option (List Key)
  | [] => some []
  | d :: ds => match keyD d with
    | some k => match keysD ds with
      | some ks => some (k :: ks)
      | none => none
    | none => none
def tkeyD : D → Option (List Key)
  | .tup ds => keysD ds
  | _ => none
section
variable {Γ : Gm} {π : Pl} {H : Hp}
theorem keyD_ok {v : V} {d : D} {k : Key} (r : Rep Γ π H v d) (h : keyD d = some k) : v = kV k := by
  cases d <;> first | (cases h; done) | skip
  · cases h; exact r
  · cases h; exact r
theorem keysD_ok : ∀ {vs : List V} {ds : List D} {ks : List Key}, RepL Γ π H vs ds → keysD ds = some ks → vs = ks.map kV
  | _, [], _, r, h => by cases h; exact r
  | _, d :: ds, ks, ⟨v, vr, e, rv, rl⟩, h => by
    unfold keysD at h
    split at h
    · rename_i k e1
      split at h
      · rename_i ks' e2
        cases h
        rw [e, keyD_ok rv e1, keysD_ok rl e2]
        rfl
      · cases h
    · cases h
theorem tkeyD_ok {v : V} {d : D} {ks : List Key} (r : Rep Γ π H v d) (h : tkeyD d = some ks) : ∃ b, v = .ref b ∧ H b = some (.tup (ks.map kV)) := by
  cases d with
  | tup ds =>
    obtain ⟨p, vs, rfl, hp, rl⟩ := r
    exact ⟨p, rfl, by rw [hp, keysD_ok rl h]⟩
  | _ => cases h
end
/-! ### pairs -/
section
variable {κ : Type} [DecidableEq κ]
def valD (kvs : List (κ × D)) (k : κ) : Option D := match kvs with
  | [] => none
  | p :: r => if p.1 = k then some p.2 else valD r k
def putD (kvs : List (κ × D)) (k : κ) (d : D) : List (κ × D) :=
  if (kvs.any fun kv => decide (kv.1 = k)) = true then kvs.map (fun kv => if kv.1 = k then (kv.1, d) else kv) else kvs ++ [(k, d)]
variable {Γ : Gm} {π : Pl} {H : Hp}
def RepO (Γ : Gm) (π : Pl) (H : Hp) : Option V → Option D → Prop
  | none, none => True
  | some v, some d => Rep Γ π H v d
  | _, _ => False
theorem KvR.nil {ws : List (κ × V)} (r : KvR Γ π H ws ([] : List (κ × D))) : ws = [] := List.map_eq_nil_iff.mp r.1
theorem KvR.cons {ws : List (κ × V)} {p : κ × D} {l : List (κ × D)} (r : KvR Γ π H ws (p :: l)) : ∃ v wr, ws = (p.1, v) :: wr ∧ Rep Γ π H v p.2 ∧ KvR Γ π H wr l := by
  obtain ⟨e, rl⟩ := r
  cases ws with
  | nil => cases e
  | cons w wr =>
    rw [List.map_cons, List.map_cons] at e
    obtain ⟨e1, e2⟩ := List.cons.inj e
    rw [List.map_cons, List.map_cons] at rl
    obtain ⟨v, vr, e3, rv, rr⟩ := rl
    obtain ⟨e4, e5⟩ := List.cons.inj e3
    obtain ⟨a, b⟩ := w
    simp only at e1 e4
    subst e1
    subst e4
    exact ⟨b, wr, rfl, rv, e2, by rw [e5]; exact rr⟩
theorem KvR.mk {ws : List (κ × V)} {p : κ × D} {l : List (κ × D)} {v : V} (rv : Rep Γ π H v p.2) (r : KvR Γ π H ws l) : KvR Γ π H ((p.1, v) :: ws) (p :: l) :=
  ⟨by rw [List.map_cons, List.map_cons, r.1], v, _, rfl, rv, r.2⟩
theorem KvR.val : ∀ {kvs : List (κ × D)} {ws : List (κ × V)}, KvR Γ π H ws kvs → ∀ k, RepO Γ π H (valV ws k) (valD kvs k)
  | [], ws, r, k => by rw [KvR.nil r]; exact True.intro
  | p :: l, ws, r, k => by
    obtain ⟨v, wr, rfl, rv, rr⟩ := r.cons
    unfold valD
    split
    · rename_i e
      rw [valV_pos (p := (p.1, v)) e]
      exact rv
    · rename_i e
      have : valV ((p.1, v) :: wr) k = valV wr k := by unfold valV; rw [List.find?_cons, decide_eq_false e]
      rw [this]
      exact KvR.val rr k
theorem KvR.any : ∀ {kvs : List (κ × D)} {ws : List (κ × V)} (k : κ), KvR Γ π H ws kvs → (ws.any fun kv => decide (kv.1 = k)) = (kvs.any fun kv => decide (kv.1 = k))
  | [], ws, k, r => by rw [KvR.nil r]; rfl
  | p :: l, ws, k, r => by
    obtain ⟨v, wr, rfl, _, rr⟩ := r.cons
    rw [List.any_cons, List.any_cons, KvR.any k rr]
theorem KvR.repl : ∀ {kvs : List (κ × D)} {ws : List (κ × V)} {k : κ} {v : V} {d : D}, KvR Γ π H ws kvs → Rep Γ π H v d → KvR Γ π H (ws.map fun kv => if kv.1 = k then (kv.1, v) else kv) (kvs.map fun kv => if kv.1 = k then (kv.1, d) else kv)
  | [], ws, k, v, d, r, _ => by rw [KvR.nil r]; exact ⟨rfl, rfl⟩
  | p :: l, ws, k, v, d, r, rv => by
    obtain ⟨u, wr, rfl, ru, rr⟩ := r.cons
    rw [List.map_cons, List.map_cons]
    by_cases e : p.1 = k
    · rw [if_pos e, if_pos e]
      exact KvR.mk (p := (p.1, d)) rv (KvR.repl rr rv)
    · rw [if_neg e, if_neg e]
      exact KvR.mk (p := p) ru (KvR.repl rr rv)
theorem KvR.snoc {k : κ} {v : V} {d : D} : ∀ {kvs : List (κ × D)} {ws : List (κ × V)}, KvR Γ π H ws kvs → Rep Γ π H v d → KvR Γ π H (ws ++ [(k, v)]) (kvs ++ [(k, d)])
  | [], ws, r, rv => by rw [KvR.nil r]; exact KvR.mk (p := (k, d)) rv ⟨rfl, rfl⟩
  | p :: l, ws, r, rv => by
    obtain ⟨u, wr, rfl, ru, rr⟩ := r.cons
    exact KvR.mk (p := p) ru (KvR.snoc rr rv)
theorem KvR.put {kvs : List (κ × D)} {ws : List (κ × V)} {k : κ} {v : V} {d : D} (r : KvR Γ π H ws kvs) (rv : Rep Γ π H v d) : KvR Γ π H (putK ws k v) (putD kvs k d) := by
  unfold putK putD
  rw [r.any k]
  split
  · exact r.repl rv
  · exact r.snoc rv
theorem KvR.length {kvs : List (κ × D)} {ws : List (κ × V)} (r : KvR Γ π H ws kvs) : ws.length = kvs.length := by
  have := congrArg List.length r.1
  simpa using this
end
/-! ### dicts in the store -/
theorem StR.readK {Γ : Gm} {π : Pl} {H : Hp} {st : Sto} {n : Nat} {p : Addr} {kvs : List (Key × D)} (S : StR Γ π H st) (hn : π.ρ[n]? = some p) (h : st[n]? = some (.dK kvs)) : ∃ ws, H p = some (.dK ws) ∧ KvR Γ π H ws kvs := (S.at_ n p _ hn h).2
theorem StR.readT {Γ : Gm} {π : Pl} {H : Hp} {st : Sto} {n : Nat} {p : Addr} {kvs : List (List Key × D)} (S : StR Γ π H st) (hn : π.ρ[n]? = some p) (h : st[n]? = some (.dT kvs)) : ∃ ws, H p = some (.dT ws) ∧ KvR Γ π H ws kvs := (S.at_ n p _ hn h).2
section
variable {Γ : Gm} {π : Pl} {H : Hp} {st : Sto}
/-- a cell's object is written: any object that no step keeps fixed -/
theorem ext_cell {p : Addr} {o u : HO} (S : StR Γ π H st) (hm : p ∈ π.ρ) (hp : H p = some o) (hf : fixO o = false) : Ext π H π (upd H p u) :=
  { fix := fun b x e f => by rw [upd_ne (fun z => by rw [z, hp] at e; cases e; rw [hf] at f; cases f)]; exact e
    frz := fun b x f e => by rw [upd_ne (fun z => (S.frz b f).1 (by rw [z]; exact hm))]; exact e
    pre := fun _ _ h => h
    fr := fun _ h => h
    kd := fun _ _ _ => rfl
    keep := fun b x e _ n => by rw [upd_ne (fun z => n (by rw [z]; exact hm))]; exact e
    there := fun b e => by
      by_cases z : b = p
      · rw [z, upd_same] at e; cases e
      · rw [upd_ne z] at e; exact e
    newR := fun _ h => .inl h
    newF := fun _ h => .inl h }
theorem StR.put_cell {n : Nat} {p : Addr} {o u : HO} {c : Cell} (S : StR Γ π H st) (hn : π.ρ[n]? = some p) (hp : H p = some o) (hf : fixO o = false) (ht : isTb o = false) (r : CellR Γ π (upd H p u) p c) : StR Γ π (upd H p u) (st.set n c) where
  nd := S.nd
  len := by rw [List.length_set]; exact S.len
  at_ := fun m q d h1 h2 => by
    have hm : p ∈ π.ρ := List.mem_of_getElem? hn
    by_cases e : m = n
    · subst e
      have h3 : m < st.length := by rw [← S.len]; exact (List.getElem?_eq_some_iff.mp hn).1
      rw [List.getElem?_set_self h3] at h2
      cases h2
      rw [hn] at h1; cases h1
      exact r
    · rw [List.getElem?_set_ne (Ne.symm e)] at h2
      have hq : q ≠ p := fun z => e (by
        have hi := (List.getElem?_eq_some_iff.mp h1)
        have hj := (List.getElem?_eq_some_iff.mp hn)
        exact (List.getElem_inj S.nd).mp (hi.2.trans (z.trans hj.2.symm)))
      exact (S.at_ m q d h1 h2).ext (ext_cell S hm hp hf).toKp h1 fun x z => by rw [upd_ne hq]; exact z
  frz := fun q f => let ⟨a, ys, b⟩ := S.frz q f; ⟨a, ys, by rw [upd_ne (fun z => a (by rw [z]; exact List.mem_of_getElem? hn))]; exact b⟩
  tab := fun P hP => let ⟨ps, a, b⟩ := S.tab P hP; ⟨ps, by rw [upd_ne (fun z => by rw [z, hp] at a; cases a; cases ht)]; exact a, b⟩
  dn := S.dn
/-- a dict becomes a place of the store -/
def Pl.pd (π : Pl) (p : Addr) : Pl := ⟨π.ρ ++ [p], π.F, fun q => q == p || π.δ q⟩
theorem kp_pd {p : Addr} (hr : p ∉ π.ρ) : Kp π H (π.pd p) H :=
  { fix := fun _ _ e _ => e, frz := fun _ _ _ e => e, fr := fun _ h => h
    kd := fun n q h => by
      have : q ≠ p := fun z => hr (by rw [← z]; exact List.mem_of_getElem? h)
      show (q == p || π.δ q) = π.δ q
      rw [beq_eq_false_iff_ne.mpr this, Bool.false_or]
    pre := fun n q h => by
      obtain ⟨h1, e⟩ := List.getElem?_eq_some_iff.mp h
      show (π.ρ ++ [p])[n]? = some q
      rw [List.getElem?_append_left h1]; exact h }
theorem Ext.pd {π' : Pl} {H' : Hp} {p : Addr} (e : Ext π H π' H') (hp : H p = none) (hr : p ∉ π'.ρ) : Ext π H (π'.pd p) H' :=
  { fix := e.fix, frz := e.frz, fr := e.fr, keep := e.keep, there := e.there, newF := e.newF
    kd := fun n q h => ((kp_pd (H := H') hr).kd n q (e.pre n q h)).trans (e.kd n q h)
    pre := fun n q h => (kp_pd (H := H') hr).pre n q (e.pre n q h)
    newR := fun q h => (List.mem_append.mp h).elim (e.newR q) fun z => by
      have z' : q = p := by simpa using z
      rw [z']; exact .inr hp }
theorem StR.pd {p : Addr} {c : Cell} (S : StR Γ π H st) (hr : p ∉ π.ρ) (hf : ¬ π.F p) (r : CellR Γ (π.pd p) H p c) : StR Γ (π.pd p) H (st ++ [c]) where
  nd := by
    show (π.ρ ++ [p]).Nodup
    rw [List.nodup_append]
    refine ⟨S.nd, by simp, fun a ha b hb e => ?_⟩
    have z : b = p := by simpa using hb
    rw [e, z] at ha
    exact hr ha
  len := by
    show (π.ρ ++ [p]).length = _
    rw [List.length_append, List.length_append, S.len]; rfl
  at_ := fun n q d h1 h2 => by
    have h1 : (π.ρ ++ [p])[n]? = some q := h1
    have hl := S.len
    by_cases hn : n < π.ρ.length
    · rw [List.getElem?_append_left hn] at h1
      rw [List.getElem?_append_left (by omega)] at h2
      exact (S.at_ n q d h1 h2).ext (kp_pd hr) h1 fun _ e => e
    · have hn' := (List.getElem?_eq_some_iff.mp h1).1
      rw [List.length_append] at hn'
      have e : n = π.ρ.length := by simp at hn'; omega
      rw [List.getElem?_append_right (by omega), e, Nat.sub_self] at h1
      rw [List.getElem?_append_right (by omega), e, ← hl, Nat.sub_self] at h2
      have e1 : p = q := by simpa using h1
      have e2 : c = d := by simpa using h2
      subst e1; subst e2
      exact r
  frz := fun q f => by
    obtain ⟨a, xs, b⟩ := S.frz q f
    refine ⟨fun h => (List.mem_append.mp h).elim a fun z => ?_, xs, b⟩
    have z' : q = p := by simpa using z
    rw [z'] at f
    exact hf f
  tab := S.tab
  dn := fun q h => by
    have h : (q == p || π.δ q) = true := h
    rw [Bool.or_eq_true] at h
    rcases h with h | h
    · exact List.mem_append_right _ (by simpa using h)
    · exact List.mem_append_left _ (S.dn q h)
end
end Dn
end

section
set_option Elab.async false
set_option linter.all false
set_option maxRecDepth 100000
set_option maxHeartbeats 4000000
namespace Dn
open PySem PySem.Spec PyProof.Rows L2
section
variable {Γ : Gm} {W : WX} {σ : L2.St} {π : Pl} {H : Hp} {st : Sto}
/-- a new dict is handed on -/
theorem Out.newD {Q : VK} {p : Addr} {u : HO} {c : Cell} (h : Out Γ (Rep Γ) W σ π H (.ok (.dic st.length) (st ++ [c])) Q) (S : StR Γ π H st) (hp : H p = none) (r : CellR Γ (π.pd p) (upd H p u) p c) : Q (.ref p) (upd H p u) := by
  have S1 : StR Γ π (upd H p u) st := S.new hp
  have hr : p ∉ π.ρ := S.fresh hp
  refine h (π.pd p) _ _ ((ext_new hp).pd hp hr) (S1.pd hr (S.freshF hp) r) ⟨p, rfl, ?_, ?_⟩
  · show (π.ρ ++ [p])[st.length]? = some p
    rw [List.getElem?_append_right (by rw [S.len]; omega), S.len, Nat.sub_self]
    rfl
  · show (p == p || π.δ p) = true
    simp
end
/-! ### {} -/
def mDnew (t : Bool) : Env → Sto → Rs D := fun _ st => .ok (.dic st.length) (st ++ [if t then .dT [] else .dK []])
theorem pd_self (π : Pl) (p : Addr) : (π.pd p).δ p = true := by
  show (p == p || π.δ p) = true
  simp
theorem den_dnew (t : Bool) {X : Cx} {W : WX} {ce : Nat → Option Addr} {fe : Nat → Str} {tb : List Addr} {pos : Pos} : PE X (.Dict [] [] pos) (tE (gx X ce fe tb) W (mDnew t)) := by
  cases t with
  | true =>
    refine imE pe_dnewT fun σ H Q ⟨π, env, st, E, S, h⟩ p hp => ?_
    exact Out.newD (c := .dT []) h S hp ⟨pd_self π p, [], upd_same, rfl, rfl⟩
  | false =>
    refine imE pe_dnewK fun σ H Q ⟨π, env, st, E, S, h⟩ p hp => ?_
    exact Out.newD (c := .dK []) h S hp ⟨pd_self π p, [], upd_same, rfl, rfl⟩
/-! ### what is at a key -/
def fGetD (d k : D) (st : Sto) : Option (Option D) := match d with
  | .dic n => match st[n]? with
    | some (.dK kvs) => match keyD k with
      | some k => some (valD kvs k)
      | none => none
    | some (.dT kvs) => match tkeyD k with
      | some k => some (valD kvs k)
      | none => none
    | _ => none
  | _ => none
theorem get_ok {Γ : Gm} {π : Pl} {H : Hp} {st : Sto} {v y : V} {d k : D} {r : Option D} (S : StR Γ π H st) (rv : Rep Γ π H v d) (ry : Rep Γ π H y k) (h : fGetD d k st = some r) : ∃ a o, v = .ref a ∧ DGet H a y o ∧ RepO Γ π H o r := by
  cases d <;> first | (cases h; done) | skip
  rename_i n
  obtain ⟨p, rfl, hn, hd⟩ := rv
  unfold fGetD at h
  dsimp only at h
  split at h
  · rename_i kvs e
    obtain ⟨ws, hp, rk⟩ := S.readK hn e
    split at h
    · rename_i k' ek
      cases h
      rw [keyD_ok ry ek]
      exact ⟨p, _, rfl, DGet.k hp, rk.val k'⟩
    · cases h
  · rename_i kvs e
    obtain ⟨ws, hp, rk⟩ := S.readT hn e
    split at h
    · rename_i k' ek
      cases h
      obtain ⟨b, rfl, hb⟩ := tkeyD_ok ry ek
      exact ⟨p, _, rfl, DGet.t hp hb, rk.val k'⟩
    · cases h
  · cases h
theorem RepO.some_of {Γ : Gm} {π : Pl} {H : Hp} {o : Option V} {d : D} (r : RepO Γ π H o (some d)) : ∃ v, o = Option.some v ∧ Rep Γ π H v d := by
  cases o with
  | none => exact r.elim
  | some v => exact ⟨v, rfl, r⟩
theorem RepO.isSome {Γ : Gm} {π : Pl} {H : Hp} : ∀ {o : Option V} {d : Option D}, RepO Γ π H o d → o.isSome = d.isSome
  | none, none, _ => rfl
  | some _, some _, _ => rfl
  | none, some _, h => h.elim
  | some _, none, h => h.elim
/-! ### d[k] -/
def rIxD : R2 := fun x y H Q => ∃ a v, x = .ref a ∧ DGet H a y (some v) ∧ Q v H
theorem ix_dict {X : Cx} (hu : X.A.units + 1 < cLine) : IxR X rIxD := by
  intro value slice pins s σ H x y v u Q I rx ry h hs
  obtain ⟨a, z, rfl, g, q⟩ := h
  obtain rfl : v = Value.ref a := rx
  exact tail_any (ops := [.ref a, u]) (dict_typeIs I g) PySem.F.slot_dict_getitem.lookup (d_getItem hu I g ry fun w' s3 I3 rw' => ⟨z, H, I3, rw', q⟩) hs
def fIxD (a b : D) (st : Sto) : Rs D := match fGetD a b st with
  | some (some d) => .ok d st
  | some none => .no
  | none => fIx a b st
theorem o_ixD {Γ : Gm} : Op2 Γ (fun x y H Q => rIx Γ.K x y H Q ∨ rIxD x y H Q) fIxD := by
  intro W σ π H x y a b st Q S rx ry h
  unfold fIxD at h
  split at h
  · rename_i d e
    obtain ⟨p, o, rfl, g, r⟩ := get_ok S rx ry e
    obtain ⟨v, rfl, rv⟩ := RepO.some_of r
    exact .inr ⟨p, v, rfl, g, h.now S rv⟩
  · exact h.elim
  · exact .inl (o_ix W σ π H x y a b st Q S rx ry h)
section
variable {X : Cx} {W : WX} {ce : Nat → Option Addr} {fe : Nat → Str} {tb : List Addr} {a b c o e f : Expr} {ma mb mc : Env → Sto → Rs D} {pos apos cpos : Pos}
theorem den_ixD (hu : X.A.units + 64 < cLine) (ha : PE X a (tE (gx X ce fe tb) W ma)) (hb : PE X b (tE (gx X ce fe tb) W mb)) (hs : PlainIx b := by exact fun _ _ => rfl) : PE X (.Subscript a b pos) (tE (gx X ce fe tb) W (m2 fIxD ma mb)) :=
  imE (pe_ix (ix_seq.or (ix_dict (by omega))) ha hb hs) fun _ _ _ h => tOp2 o_ixD h
/-! ### k in d -/
def fInD (neg : Bool) (a b : D) (st : Sto) : Rs D := match fGetD b a st with
  | some o => .ok (.bl (neg != o.isSome)) st
  | none => .no
def rInD (neg : Bool) : R2 := fun x y H Q => ∃ a o, y = .ref a ∧ DGet H a x o ∧ Q (.bl (neg != o.isSome)) H
theorem op_inD (hu : X.A.units + 64 < cLine) : OpR X (compareOp .In) (rInD false) := by
  intro pins s σ H x y v u Q I rx ry h
  obtain ⟨a, o, rfl, g, q⟩ := h
  obtain rfl : u = Value.ref a := ry
  exact d_in (by omega) I g rx fun s' I' => ⟨.bl o.isSome, H, I', rfl, by simpa using q⟩
theorem op_ninD (hu : X.A.units + 64 < cLine) : OpR X (compareOp .NotIn) (rInD true) := by
  intro pins s σ H x y v u Q I rx ry h
  obtain ⟨a, o, rfl, g, q⟩ := h
  obtain rfl : u = Value.ref a := ry
  exact d_notIn (by omega) I g rx fun s' I' => ⟨.bl (!o.isSome), H, I', rfl, by simpa using q⟩
theorem o_inD {Γ : Gm} (neg : Bool) : Op2 Γ (rInD neg) (fInD neg) := by
  intro W σ π H x y a b st Q S rx ry h
  unfold fInD at h
  split at h
  · rename_i r e
    obtain ⟨p, o, rfl, g, ro⟩ := get_ok S ry rx e
    refine ⟨p, o, rfl, g, ?_⟩
    rw [ro.isSome]
    exact h.now S rfl
  · exact h.elim
/-! ### d.get(k, x) -/
def mGet2 (md mk mx : Env → Sto → Rs D) : Env → Sto → Rs D := fun env st => (md env st).bind fun d st1 => match d with
  | .dic n => (mk env st1).bind fun k st2 => (mx env st2).bind fun x st3 => match fGetD (.dic n) k st3 with
    | some (some v) => .ok v st3
    | some none => .ok x st3
    | none => .no
  | _ => .no
theorem isD_of {Γ : Gm} {π : Pl} {H : Hp} {st : Sto} {v : V} {n : Nat} (S : StR Γ π H st) (r : Rep Γ π H v (.dic n)) : ∃ a, v = .ref a ∧ IsD H a := by
  obtain ⟨p, rfl, hn, hd⟩ := r
  obtain ⟨c, q⟩ := S.cell_at (List.mem_of_getElem? hn)
  cases c with
  | lst _ => have z := q.1; rw [hd] at z; cases z
  | dK kvs => obtain ⟨_, ws, hp, _⟩ := q; exact ⟨p, rfl, .inl ⟨ws, .inl hp⟩⟩
  | dT kvs => obtain ⟨_, ws, hp, _⟩ := q; exact ⟨p, rfl, .inr ⟨ws, .inl hp⟩⟩
theorem den_get2 (hu : X.A.units + 64 < cLine) (ho : PE X o (tE (gx X ce fe tb) W ma)) (he : PE X e (tE (gx X ce fe tb) W mb)) (hf : PE X f (tE (gx X ce fe tb) W mc)) (m : M2 X o "get" apos e f cpos := by exact ⟨rfl, rfl, rfl, rfl⟩) :
    PE X (.Call (.Attribute o "get" apos) [e, f] [] cpos) (tE (gx X ce fe tb) W (mGet2 ma mb mc)) := by
  refine imE (pe_dget2 (by omega) ho he hf m) fun σ H Q ⟨π, env, st, E, S, h⟩ => ?_
  refine bindG E S h fun π1 H1 v d st1 e1 E1 S1 r1 h1 => ?_
  cases d with
  | dic n =>
    obtain ⟨a, rfl, hD⟩ := isD_of S1 r1
    refine ⟨a, rfl, hD, ?_⟩
    refine bindG E1 S1 h1 fun π2 H2 y k st2 e2 E2 S2 r2 h2 => ?_
    refine bindG E2 S2 h2 fun π3 H3 z x st3 e3 E3 S3 r3 h3 => ?_
    split at h3
    · rename_i d eg
      obtain ⟨p, ov, ep, g, ro⟩ := get_ok S3 ((r1.ext e2.toKp).ext e3.toKp) (r2.ext e3.toKp) eg
      cases ep
      obtain ⟨w, rfl, rw⟩ := RepO.some_of ro
      exact ⟨_, g, h3.now S3 rw⟩
    · rename_i eg
      obtain ⟨p, ov, ep, g, ro⟩ := get_ok S3 ((r1.ext e2.toKp).ext e3.toKp) (r2.ext e3.toKp) eg
      cases ep
      have : ov = none := by
        have := ro.isSome
        cases ov with
        | none => rfl
        | some _ => cases this
      rw [this] at g
      exact ⟨_, g, h3.now S3 r3⟩
    · exact h3.elim
  | _ => exact h1.elim
/-! ### d[k] = v -/
def fPutD (d k v : D) (st : Sto) : Option Sto := match d with
  | .dic n => match st[n]? with
    | some (.dK kvs) => match keyD k with
      | some k => if kvs.length < sz then some (st.set n (.dK (putD kvs k v))) else none
      | none => none
    | some (.dT kvs) => match tkeyD k with
      | some k => if kvs.length < sz then some (st.set n (.dT (putD kvs k v))) else none
      | none => none
    | _ => none
  | _ => none
theorem put_ok {Γ : Gm} {π : Pl} {H : Hp} {st st' : Sto} {u y x : V} {d k v : D} (S : StR Γ π H st) (ru : Rep Γ π H u d) (ry : Rep Γ π H y k) (rx : Rep Γ π H x v) (h : fPutD d k v st = some st') :
    ∃ a H', u = .ref a ∧ DPut H a y x H' ∧ Ext π H π H' ∧ StR Γ π H' st' := by
  cases d <;> first | (cases h; done) | skip
  rename_i n
  obtain ⟨p, rfl, hn, hd⟩ := ru
  unfold fPutD at h
  dsimp only at h
  have hm : p ∈ π.ρ := List.mem_of_getElem? hn
  split at h
  · rename_i kvs e
    obtain ⟨ws, hp, rk⟩ := S.readK hn e
    split at h
    · rename_i k' ek
      split at h
      · rename_i hz
        cases h
        rw [keyD_ok ry ek]
        have ex : Ext π H π (upd H p (.dK (putK ws k' x))) := ext_cell S hm hp rfl
        exact ⟨p, _, rfl, DPut.k hp (by rw [rk.length, sizeLine_eq]; exact hz), ex, S.put_cell hn hp rfl rfl ⟨hd, _, upd_same, (rk.put rx).ext ex.toKp⟩⟩
      · cases h
    · cases h
  · rename_i kvs e
    obtain ⟨ws, hp, rk⟩ := S.readT hn e
    split at h
    · rename_i k' ek
      split at h
      · rename_i hz
        cases h
        obtain ⟨b, rfl, hb⟩ := tkeyD_ok ry ek
        have ex : Ext π H π (upd H p (.dT (putK ws k' x))) := ext_cell S hm hp rfl
        exact ⟨p, _, rfl, DPut.t hp hb (by rw [rk.length, sizeLine_eq]; exact hz), ex, S.put_cell hn hp rfl rfl ⟨hd, _, upd_same, (rk.put rx).ext ex.toKp⟩⟩
      · cases h
    · cases h
  · cases h
def sPutD (mo mi me : Env → Sto → Rs D) : Env → Sto → Sr := fun env st => (me env st).thn env fun v st1 => (mo env st1).thn env fun o st2 => (mi env st2).thn env fun i st3 => match fPutD o i v st3 with
  | some st4 => .nx env st4
  | none => .no
theorem ds_putD {i value : Expr} {mi me : Env → Sto → Rs D} {pos' : Pos} (hu : X.A.units + 64 < cLine) (ho : PE X o (tE (gx X ce fe tb) W ma)) (hi : PE X i (tE (gx X ce fe tb) W mi)) (hv : PE X value (tE (gx X ce fe tb) W me)) (hs : swapsWith value (some (.Subscript o i pos')) pos.line X.env = pure false := by rfl) :
    PS X (.Assign [.Subscript o i pos'] value pos) (tS (gx X ce fe tb) W (sPutD ma mi me)) := by
  refine imS (ps_dput (by omega) ho hi hv hs) fun De σ H ⟨π, env, st, E, S, h⟩ => ?_
  refine bindS E S h fun π1 H1 x v st1 e1 E1 S1 r1 h1 => ?_
  refine bindS E1 S1 h1 fun π2 H2 u d st2 e2 E2 S2 r2 h2 => ?_
  refine bindS E2 S2 h2 fun π3 H3 y k st3 e3 E3 S3 r3 h3 => ?_
  split at h3
  · rename_i st4 ep
    obtain ⟨a, H4, rfl, g, ex, S4⟩ := put_ok S3 (r2.ext e3.toKp) r3 ((r1.ext e2.toKp).ext e3.toKp) ep
    exact ⟨a, H4, rfl, g, (OutS.ext ex h3).nxt (E3.ext ex.toKp) S4⟩
  · exact h3.elim
end
end Dn
end

section
set_option Elab.async false
set_option linter.all false
set_option maxRecDepth 100000
set_option maxHeartbeats 4000000
namespace Dn
open PySem PySem.Spec PyProof.Rows L2
open RZ
/-- a zip whose tuple is out -/
def ZOut (h : Heap) (z TI TO r : Addr) (b : Bool) : Prop := h.get? z = some ({ cls := .type "zip", data := .fields #[rawInt r, .bool b, .bool false, .ref TI, .ref TO] } : Obj)
section
variable {prog : Program} {w : World} {A : Around} {E : Value → Shared → Prop} {s : Shared}
theorem zipO_free {z TI TO r : Addr} {b : Bool} {Q : Bool → Shared → Prop} (hz : ZOut s.heap z TI TO r b) (hr : ∃ o, s.heap.get? r = some o)
    (hQ : ∀ h', ZOut h' z TI TO r true → Heap.SameBut z s.heap h' → Q false { s with heap := h' }) : wpAny (model prog w) A (Builtin.SmallTypes.ownedTupleIsFree (.ref z)) Q E s := by
  obtain ⟨o, hr⟩ := hr
  unfold Builtin.SmallTypes.ownedTupleIsFree
  refine wpAny_bind (wpAny_field hz rfl (x := rawInt r) rfl ?_)
  show wpAny _ _ (loadIfAlive (r : Int).toNat >>= _) _ _ _
  rw [Int.toNat_natCast]
  refine wpAny_bind (PySem.W.kdx_alive hr ?_)
  rw [if_neg (by simp)]
  refine wpAny_bind (wpAny_field hz rfl (x := .bool b) rfl ?_)
  cases b with
  | true =>
    rw [if_neg (by simp)]
    exact wpAny_pure (hQ s.heap hz ⟨rfl, fun _ _ => rfl⟩)
  | false =>
    rw [if_pos (by decide)]
    refine wpAny_bind (wpAny_setField_rec hz (by simp) fun h1 hz1 hs1 => wpAny_pure (hQ h1 hz1 hs1))
theorem zipO_next_item {c1 c2 : Bool} {z TI TO i1 i2 l1 l2 r : Addr} {k1 k2 : Nat} {xs ys : Array Value} {x y : Value} {b : Bool} {Q : Value → Shared → Prop} (D : ZipApart z TI TO i1 i2 l1 l2)
    (hz : ZOut s.heap z TI TO r b) (hr : ∃ o, s.heap.get? r = some o) (hTI : IsPair s.heap TI (.ref i1) (.ref i2))
    (h1 : ItH c1 s.heap i1 l1 k1) (h2 : ItH c2 s.heap i2 l2 k2) (hl1 : SqH c1 s.heap l1 xs) (hl2 : SqH c2 s.heap l2 ys) (hx : xs[k1]? = some x) (hy : ys[k2]? = some y)
    (hQ : ∀ h', ZOut h' z TI TO r true → ItH c1 h' i1 l1 (k1 + 1) → ItH c2 h' i2 l2 (k2 + 1) → IsPair h' s.heap.objs.size x y → h'.objs.size = s.heap.objs.size + 1 →
      (∀ c o, c ≠ z → c ≠ i1 → c ≠ i2 → s.heap.get? c = some o → h'.get? c = some o) → Q (.ref s.heap.objs.size) { s with heap := h' }) :
    wpAny (model prog w) A (Builtin.«zip.__next__» ⟨[.ref z], []⟩) (fun fin s' => ∃ v, fin = .done (.ret v) ∧ Q v s') E s := by
  show wpAny _ _ (field (.ref z) 2 >>= _) _ _ _
  refine wpAny_bind (wpAny_field hz rfl (x := .bool false) rfl ?_)
  show wpAny _ _ (field (.ref z) 3 >>= _) _ _ _
  refine wpAny_bind (wpAny_field hz rfl (x := .ref TI) rfl ?_)
  refine wpAny_bind (wpAny_seqItems hTI rfl ?_)
  show wpAny _ _ (Builtin.SmallTypes.ownedTupleIsFree (.ref z) >>= _) _ _ _
  refine wpAny_bind (zipO_free hz hr fun h₁ hz₁ hs₁ => ?_)
  rw [if_neg (by decide)]
  simp only [← Array.forIn_toList, List.forIn_cons, List.forIn_nil]
  refine wpAny_bind (wpAny_bind (wpAny_bind (wpAny_holding ?_)))
  show wpAny _ _ (Builtin.SmallTypes.nextOf (.ref i1) >>= _) _ _ _
  refine wpAny_bind (nextK_item (h1.extBut hs₁.extBut D.i1z) (hl1.extBut hs₁.extBut D.l1z) hx fun h₂ h1₂ hs₂ => wpAny_pure (wpAny_pure ?_))
  dsimp only
  refine wpAny_bind (wpAny_bind (wpAny_holding ?_))
  show wpAny _ _ (Builtin.SmallTypes.nextOf (.ref i2) >>= _) _ _ _
  refine wpAny_bind (nextK_item ((h2.extBut hs₁.extBut D.i2z).extBut hs₂.extBut D.i12.symm) ((hl2.extBut hs₁.extBut D.l2z).extBut hs₂.extBut D.l2i1) hy fun h₃ h2₃ hs₃ => wpAny_pure (wpAny_pure (wpAny_pure ?_)))
  dsimp only
  have hsz : h₃.objs.size = s.heap.objs.size := by rw [hs₃.1, hs₂.1, hs₁.1]
  have hz₃ : ZOut h₃ z TI TO r true := hs₃.extBut _ _ D.i2z.symm (hs₂.extBut _ _ D.i1z.symm hz₁)
  have h1₃ : ItH c1 h₃ i1 l1 (k1 + 1) := h1₂.extBut hs₃.extBut D.i12
  refine wpAny_bind (wpAny_newTuple (wpAny_pure ⟨_, rfl, ?_⟩) (by simp [sizeLine_eq]))
  have up : ∀ (o' : Obj) c o, h₃.get? c = some o → (h₃.push o').get? c = some o := fun o' c o e => Heap.get?_push_of_some _ e
  rw [hsz]
  refine hQ _ (up _ _ _ hz₃) (h1₃.at fun o e => up _ _ o e) (h2₃.at fun o e => up _ _ o e) ?_ (by rw [Heap.size_push, hsz]) fun c o a1 a2 a3 e => up _ _ _ (hs₃.extBut _ _ a3 (hs₂.extBut _ _ a2 (hs₁.extBut _ _ a1 e)))
  rw [← hsz]
  exact Heap.get?_push_size _ rfl
theorem zipO_next_end {c1 c2 : Bool} {z TI TO i1 i2 l1 l2 r : Addr} {k1 k2 : Nat} {xs ys : Array Value} {b : Bool} {Q : Fin → Shared → Prop} (hh : A.handled = none) (D : ZipApart z TI TO i1 i2 l1 l2)
    (hz : ZOut s.heap z TI TO r b) (hr : ∃ o, s.heap.get? r = some o) (hTI : IsPair s.heap TI (.ref i1) (.ref i2))
    (h1 : ItH c1 s.heap i1 l1 k1) (h2 : ItH c2 s.heap i2 l2 k2) (hl1 : SqH c1 s.heap l1 xs) (hl2 : SqH c2 s.heap l2 ys) (hend : xs[k1]? = none ∨ ys[k2]? = none)
    (hE : ∀ h' e, (∀ c o, c ≠ z → c ≠ i1 → c ≠ i2 → s.heap.get? c = some o → h'.get? c = some o) → (∃ o, h'.get? e = some o ∧ o.cls = .type "StopIteration") → E (.ref e) { s with heap := h' }) :
    wpAny (model prog w) A (Builtin.«zip.__next__» ⟨[.ref z], []⟩) Q E s := by
  show wpAny _ _ (field (.ref z) 2 >>= _) _ _ _
  refine wpAny_bind (wpAny_field hz rfl (x := .bool false) rfl ?_)
  show wpAny _ _ (field (.ref z) 3 >>= _) _ _ _
  refine wpAny_bind (wpAny_field hz rfl (x := .ref TI) rfl ?_)
  refine wpAny_bind (wpAny_seqItems hTI rfl ?_)
  show wpAny _ _ (Builtin.SmallTypes.ownedTupleIsFree (.ref z) >>= _) _ _ _
  refine wpAny_bind (zipO_free hz hr fun h₁ hz₁ hs₁ => ?_)
  rw [if_neg (by decide)]
  simp only [← Array.forIn_toList, List.forIn_cons, List.forIn_nil]
  refine wpAny_bind (wpAny_bind (wpAny_bind (wpAny_holding ?_)))
  show wpAny _ _ (Builtin.SmallTypes.nextOf (.ref i1) >>= _) _ _ _
  cases hx : xs[k1]? with
  | none =>
    exact wpAny_bind (nextK_end hh (h1.extBut hs₁.extBut D.i1z) (hl1.extBut hs₁.extBut D.l1z) hx fun h₂ e hs₂ he => hE h₂ e (fun c o a1 a2 _ x => hs₂ _ _ a2 (hs₁.extBut _ _ a1 x)) he)
  | some x =>
    have hy : ys[k2]? = none := by rcases hend with h | h; rw [hx] at h; cases h; exact h
    refine wpAny_bind (nextK_item (h1.extBut hs₁.extBut D.i1z) (hl1.extBut hs₁.extBut D.l1z) hx fun h₂ h1₂ hs₂ => wpAny_pure (wpAny_pure ?_))
    dsimp only
    refine wpAny_bind (wpAny_bind (wpAny_holding ?_))
    show wpAny _ _ (Builtin.SmallTypes.nextOf (.ref i2) >>= _) _ _ _
    exact wpAny_bind (nextK_end hh ((h2.extBut hs₁.extBut D.i2z).extBut hs₂.extBut D.i12.symm) ((hl2.extBut hs₁.extBut D.l2z).extBut hs₂.extBut D.l2i1) hy fun h₃ e hs₃ he => hE h₃ e (fun c o a1 a2 a3 x => hs₃ _ _ a3 (hs₂.extBut _ _ a2 (hs₁.extBut _ _ a1 x))) he)
/-- a zip as it is: its tuple in or out -/
def ZSt (h : Heap) (z TI TO : Addr) : Prop := (IsZip h z TI TO .none ∧ ∃ x y, IsPair h TO x y) ∨ ∃ r b, ZOut h z TI TO r b ∧ (∃ o, h.get? r = some o) ∧ r ≠ z
theorem pyNext_zs_item {c1 c2 : Bool} {z TI TO i1 i2 l1 l2 : Addr} {k1 k2 : Nat} {xs ys : Array Value} {x y : Value} {Q : Option Value → Shared → Prop} (D : ZipApart z TI TO i1 i2 l1 l2)
    (hz : ZSt s.heap z TI TO) (hTI : IsPair s.heap TI (.ref i1) (.ref i2))
    (h1 : ItH c1 s.heap i1 l1 k1) (h2 : ItH c2 s.heap i2 l2 k2) (hl1 : SqH c1 s.heap l1 xs) (hl2 : SqH c2 s.heap l2 ys) (hx : xs[k1]? = some x) (hy : ys[k2]? = some y)
    (hQ : ∀ h', ZSt h' z TI TO → ItH c1 h' i1 l1 (k1 + 1) → ItH c2 h' i2 l2 (k2 + 1) → IsPair h' s.heap.objs.size x y → h'.objs.size = s.heap.objs.size + 1 →
      (∀ c o, c ≠ z → c ≠ TO → c ≠ i1 → c ≠ i2 → s.heap.get? c = some o → h'.get? c = some o) → Q (some (.ref s.heap.objs.size)) { s with heap := h' }) :
    wpAny (model prog w) A (pyNext (.ref z)) Q E s := by
  rcases hz with ⟨hz, a, b, hTO⟩ | ⟨r, b, hz, hr, hrz⟩
  · have hzl : z < s.heap.objs.size := Heap.lt_size hz
    exact pyNext_zipG_item D hz hTI hTO h1 h2 hl1 hl2 hx hy fun h' a1 a2 a3 a4 a5 a6 a7 => hQ h' (.inr ⟨_, false, a1, ⟨_, a5⟩, Nat.ne_of_gt hzl⟩) a3 a4 a5 a6 a7
  · have hT : s.TypeIs (.ref z) "zip" := ⟨_, hz, rfl⟩
    unfold pyNext
    refine wpAny_bind (wpAny_attempt (wpAny_callSpecial?_slot (name := Str.ofString "__next__") hT PySem.F.slot_zip_next
      (wpAny_call_entry PySem.F.slot_zip_next hT PySem.F.entry_zip_next
        (zipO_next_item D hz hr hTI h1 h2 hl1 hl2 hx hy fun h' a1 a3 a4 a5 a6 a7 => wpAny_pure (hQ h' (.inr ⟨r, true, a1, ?_, hrz⟩) a3 a4 a5 a6 fun c o e1 _ e3 e4 e => a7 c o e1 e3 e4 e)) (PySem.F.args_zip_next_1 _))))
    by_cases e1 : r = i1
    · rw [e1]; obtain ⟨o, e, _⟩ := a3.obj; exact ⟨o, e⟩
    · by_cases e2 : r = i2
      · rw [e2]; obtain ⟨o, e, _⟩ := a4.obj; exact ⟨o, e⟩
      · obtain ⟨o, e⟩ := hr
        exact ⟨o, a7 r o hrz e1 e2 e⟩
theorem pyNext_zs_end {c1 c2 : Bool} {z TI TO i1 i2 l1 l2 : Addr} {k1 k2 : Nat} {xs ys : Array Value} {Q : Option Value → Shared → Prop} (hh : A.handled = none) (D : ZipApart z TI TO i1 i2 l1 l2)
    (hz : ZSt s.heap z TI TO) (hTI : IsPair s.heap TI (.ref i1) (.ref i2))
    (h1 : ItH c1 s.heap i1 l1 k1) (h2 : ItH c2 s.heap i2 l2 k2) (hl1 : SqH c1 s.heap l1 xs) (hl2 : SqH c2 s.heap l2 ys) (hend : xs[k1]? = none ∨ ys[k2]? = none)
    (hQ : ∀ h', (∀ c o, c ≠ z → c ≠ TO → c ≠ i1 → c ≠ i2 → s.heap.get? c = some o → h'.get? c = some o) → Q none { s with heap := h' }) : wpAny (model prog w) A (pyNext (.ref z)) Q E s := by
  rcases hz with ⟨hz, a, b, hTO⟩ | ⟨r, b, hz, hr, hrz⟩
  · exact pyNext_zipG_end hh D hz hTI hTO h1 h2 hl1 hl2 hend hQ
  · have hT : s.TypeIs (.ref z) "zip" := ⟨_, hz, rfl⟩
    unfold pyNext
    refine wpAny_bind (wpAny_attempt (wpAny_callSpecial?_slot (name := Str.ofString "__next__") hT PySem.F.slot_zip_next
      (wpAny_call_entry PySem.F.slot_zip_next hT PySem.F.entry_zip_next (zipO_next_end hh D hz hr hTI h1 h2 hl1 hl2 hend fun h' e hk he => ?_) (PySem.F.args_zip_next_1 _))))
    obtain ⟨o, ho, hc⟩ := he
    refine wpAny_bind (wpAny_isInstance (T := "StopIteration") (b := true) ⟨o, ho, hc⟩ isSubtype_stop ?_)
    exact wpAny_pure (hQ _ fun c o e1 _ e3 e4 e => hk c o e1 e3 e4 e)
end
end Dn
end

section
set_option Elab.async false
set_option linter.all false
set_option maxRecDepth 100000
set_option maxHeartbeats 4000000
/-! dict(zip(a, b)) of two tuples, the keys tuples; d.update(e) -/
namespace Dn
open PySem PySem.Spec PyProof.Rows L2
open RZ
theorem SqH.at {c : Bool} {h h' : Heap} {a : Addr} {xs : Array Value} (x : SqH c h a xs) (e : ∀ o, h.get? a = some o → h'.get? a = some o) : SqH c h' a xs := by
  cases c
  · exact Heap.IsList.at x e
  · exact Heap.IsTuple.at x e
theorem SqH.obj {c : Bool} {h : Heap} {a : Addr} {xs : Array Value} (x : SqH c h a xs) : ∃ o, h.get? a = some o := by
  cases c
  · obtain ⟨o, e, _⟩ := x; exact ⟨o, e⟩
  · obtain ⟨o, e, _⟩ := x; exact ⟨o, e⟩
section
variable {prog : Program} {w : World} {A : Around} {E : Value → Shared → Prop} {s : Shared}
theorem pyNext_zo_item {c1 c2 : Bool} {z TI TO i1 i2 l1 l2 r : Addr} {k1 k2 : Nat} {xs ys : Array Value} {x y : Value} {b : Bool} {Q : Option Value → Shared → Prop} (D : ZipApart z TI TO i1 i2 l1 l2)
    (hz : ZOut s.heap z TI TO r b) (hr : ∃ o, s.heap.get? r = some o) (hTI : IsPair s.heap TI (.ref i1) (.ref i2))
    (h1 : ItH c1 s.heap i1 l1 k1) (h2 : ItH c2 s.heap i2 l2 k2) (hl1 : SqH c1 s.heap l1 xs) (hl2 : SqH c2 s.heap l2 ys) (hx : xs[k1]? = some x) (hy : ys[k2]? = some y)
    (hQ : ∀ h', ZOut h' z TI TO r true → ItH c1 h' i1 l1 (k1 + 1) → ItH c2 h' i2 l2 (k2 + 1) → IsPair h' s.heap.objs.size x y → h'.objs.size = s.heap.objs.size + 1 →
      (∀ c o, c ≠ z → c ≠ i1 → c ≠ i2 → s.heap.get? c = some o → h'.get? c = some o) → Q (some (.ref s.heap.objs.size)) { s with heap := h' }) :
    wpAny (model prog w) A (pyNext (.ref z)) Q E s := by
  have hT : s.TypeIs (.ref z) "zip" := ⟨_, hz, rfl⟩
  unfold pyNext
  exact wpAny_bind (wpAny_attempt (wpAny_callSpecial?_slot (name := Str.ofString "__next__") hT PySem.F.slot_zip_next
    (wpAny_call_entry PySem.F.slot_zip_next hT PySem.F.entry_zip_next
      (zipO_next_item D hz hr hTI h1 h2 hl1 hl2 hx hy fun h' a1 a3 a4 a5 a6 a7 => wpAny_pure (hQ h' a1 a3 a4 a5 a6 a7)) (PySem.F.args_zip_next_1 _))))
theorem pyNext_zo_end {c1 c2 : Bool} {z TI TO i1 i2 l1 l2 r : Addr} {k1 k2 : Nat} {xs ys : Array Value} {b : Bool} {Q : Option Value → Shared → Prop} (hh : A.handled = none) (D : ZipApart z TI TO i1 i2 l1 l2)
    (hz : ZOut s.heap z TI TO r b) (hr : ∃ o, s.heap.get? r = some o) (hTI : IsPair s.heap TI (.ref i1) (.ref i2))
    (h1 : ItH c1 s.heap i1 l1 k1) (h2 : ItH c2 s.heap i2 l2 k2) (hl1 : SqH c1 s.heap l1 xs) (hl2 : SqH c2 s.heap l2 ys) (hend : xs[k1]? = none ∨ ys[k2]? = none)
    (hQ : ∀ h', (∀ c o, c ≠ z → c ≠ i1 → c ≠ i2 → s.heap.get? c = some o → h'.get? c = some o) → Q none { s with heap := h' }) : wpAny (model prog w) A (pyNext (.ref z)) Q E s := by
  have hT : s.TypeIs (.ref z) "zip" := ⟨_, hz, rfl⟩
  unfold pyNext
  refine wpAny_bind (wpAny_attempt (wpAny_callSpecial?_slot (name := Str.ofString "__next__") hT PySem.F.slot_zip_next
    (wpAny_call_entry PySem.F.slot_zip_next hT PySem.F.entry_zip_next (zipO_next_end hh D hz hr hTI h1 h2 hl1 hl2 hend fun h' e hk he => ?_) (PySem.F.args_zip_next_1 _))))
  obtain ⟨o, ho, hc⟩ := he
  refine wpAny_bind (wpAny_isInstance (T := "StopIteration") (b := true) ⟨o, ho, hc⟩ isSubtype_stop ?_)
  exact wpAny_pure (hQ _ hk)
/-- zip of two, each a list or a tuple, as the argument of dict() -/
theorem pairArg_zip (c1 c2 : Bool) (z TI TO i1 i2 l1 l2 : Addr) (D : ZipApart z TI TO i1 i2 l1 l2) (xs ys : Array Value) :
    PairArg prog w "zip" z [z, TI, TO, i1, i2, l1, l2] [z, TO, i1, i2] (min xs.size ys.size) (fun i k v => xs[i]? = some k ∧ ys[i]? = some v)
      (fun h => IsZip h z TI TO .none ∧ IsPair h TI (.ref i1) (.ref i2) ∧ (∃ a b, IsPair h TO a b) ∧ ItH c1 h i1 l1 0 ∧ ItH c2 h i2 l2 0 ∧ SqH c1 h l1 xs ∧ SqH c2 h l2 ys) where
  type := fun s ok => ⟨_, ok.1, rfl⟩
  notDict := by decide
  keep := fun h h' ok hk => by
    obtain ⟨hz, hTI, ⟨a, b, hTO⟩, h1, h2, hl1, hl2⟩ := ok
    exact ⟨hk _ _ hz, hk _ _ hTI, ⟨a, b, hk _ _ hTO⟩, h1.at fun o e => hk _ o e, h2.at fun o e => hk _ o e, hl1.at fun o e => hk _ o e, hl2.at fun o e => hk _ o e⟩
  there := fun h ok b hb => by
    obtain ⟨hz, hTI, ⟨a, c, hTO⟩, h1, h2, hl1, hl2⟩ := ok
    obtain ⟨o1, h1, _⟩ := h1.obj
    obtain ⟨o2, h2, _⟩ := h2.obj
    obtain ⟨o3, hl1⟩ := hl1.obj
    obtain ⟨o4, hl2⟩ := hl2.obj
    simp only [List.mem_cons, List.not_mem_nil, or_false] at hb
    rcases hb with rfl | rfl | rfl | rfl | rfl | rfl | rfl
    all_goals first | exact ⟨_, hz⟩ | exact ⟨_, hTI⟩ | exact ⟨_, hTO⟩ | exact ⟨_, h1⟩ | exact ⟨_, h2⟩ | exact ⟨_, hl1⟩ | exact ⟨_, hl2⟩
  sub := fun b hb => by simp at hb ⊢; rcases hb with rfl | rfl | rfl | rfl <;> simp
  noKeys := fun A s Q E hA ok h => getAttrOr_miss_zip ok.1 rfl rfl rfl zip_no_keys (by decide +kernel) hA h
  iter := fun A s d Q E hA ok hd hdf h => by
    obtain ⟨hz, hTI, ⟨a, b, hTO⟩, h1, h2, hl1, hl2⟩ := ok
    simp only [List.mem_cons, List.not_mem_nil, or_false, not_or] at hdf
    obtain ⟨dz, dTI, dTO, di1, di2, dl1, dl2⟩ := hdf
    refine wpAny_pyIter_zip hz (h z [z, TO, i1, i2] (fun i h => IsPair h TI (.ref i1) (.ref i2) ∧ ItH c1 h i1 l1 i ∧ ItH c2 h i2 l2 i ∧ SqH c1 h l1 xs ∧ SqH c2 h l2 ys ∧
      ((IsZip h z TI TO .none ∧ ∃ a b, IsPair h TO a b) ∨ ∃ T f oT, ZOut h z TI TO T f ∧ h.get? T = some oT ∧ T ≠ z ∧ T ≠ i1 ∧ T ≠ i2 ∧ T ≠ d)) s.heap s.toks ?_
      ⟨hTI, h1, h2, hl1, hl2, .inl ⟨hz, a, b, hTO⟩⟩ (fun _ _ e => e) fun b hb => .inl hb)
    exact {
      off := fun hm => by
        simp only [List.mem_cons, List.not_mem_nil, or_false] at hm
        rcases hm with e | e | e | e
        · exact dz e
        · exact dTO e
        · exact di1 e
        · exact di2 e
      frame := fun i h₁ h₂ st hk => by
        obtain ⟨hTI, h1, h2, hl1, hl2, hz⟩ := st
        refine ⟨hk _ _ (Ne.symm dTI) hTI, h1.at fun o e => hk _ o (Ne.symm di1) e, h2.at fun o e => hk _ o (Ne.symm di2) e, hl1.at fun o e => hk _ o (Ne.symm dl1) e, hl2.at fun o e => hk _ o (Ne.symm dl2) e, ?_⟩
        rcases hz with ⟨hz, a, b, hTO⟩ | ⟨T, f, oT, hz, hT, r1, r2, r3, r4⟩
        · exact .inl ⟨hk _ _ (Ne.symm dz) hz, a, b, hk _ _ (Ne.symm dTO) hTO⟩
        · exact .inr ⟨T, f, oT, hk _ _ (Ne.symm dz) hz, hk _ _ r4 hT, r1, r2, r3, r4⟩
      item := fun i s₁ Q₁ E₁ hi st hds hQ => by
        obtain ⟨hTI, h1, h2, hl1, hl2, hz⟩ := st
        have hix : i < xs.size := Nat.lt_of_lt_of_le hi (Nat.min_le_left ..)
        have hiy : i < ys.size := Nat.lt_of_lt_of_le hi (Nat.min_le_right ..)
        have ex := Array.getElem?_eq_getElem hix
        have ey := Array.getElem?_eq_getElem hiy
        have lt : ∀ {c o}, s₁.heap.get? c = some o → s₁.heap.objs.size ≠ c := fun e => Nat.ne_of_gt (Heap.lt_size e)
        have n1 : s₁.heap.objs.size ≠ i1 := let ⟨_, e, _⟩ := h1.obj; lt e
        have n2 : s₁.heap.objs.size ≠ i2 := let ⟨_, e, _⟩ := h2.obj; lt e
        rcases hz with ⟨hz, a, b, hTO⟩ | ⟨T, f, oT, hz, hT, r1, r2, r3, r4⟩
        · refine pyNext_zipG_item D hz hTI hTO h1 h2 hl1 hl2 ex ey fun h' a1 a2 a3 a4 a5 a6 hk => ?_
          exact hQ s₁.heap.objs.size _ _ h' s₁.toks ⟨ex, ey⟩ (.inl ⟨_, a5, rfl, _, rfl⟩)
            ⟨hk _ _ D.TIz D.TITO D.TIi1 D.TIi2 hTI, a3, a4, hl1.at fun o e => hk _ o D.l1z D.l1TO D.l1i1 D.l1i2 e, hl2.at fun o e => hk _ o D.l2z D.l2TO D.l2i1 D.l2i2 e,
              .inr ⟨s₁.heap.objs.size, false, _, a1, a5, lt hz, n1, n2, Nat.ne_of_gt hds⟩⟩
            fun c o hc e => hk c o (fun x => hc (by simp [x])) (fun x => hc (by simp [x])) (fun x => hc (by simp [x])) (fun x => hc (by simp [x])) e
        · refine pyNext_zo_item D hz ⟨_, hT⟩ hTI h1 h2 hl1 hl2 ex ey fun h' a1 a3 a4 a5 a6 hk => ?_
          exact hQ s₁.heap.objs.size _ _ h' s₁.toks ⟨ex, ey⟩ (.inl ⟨_, a5, rfl, _, rfl⟩)
            ⟨hk _ _ D.TIz D.TIi1 D.TIi2 hTI, a3, a4, hl1.at fun o e => hk _ o D.l1z D.l1i1 D.l1i2 e, hl2.at fun o e => hk _ o D.l2z D.l2i1 D.l2i2 e,
              .inr ⟨T, true, oT, a1, hk _ _ r1 r2 r3 hT, r1, r2, r3, r4⟩⟩
            fun c o hc e => hk c o (fun x => hc (by simp [x])) (fun x => hc (by simp [x])) (fun x => hc (by simp [x])) e
      done := fun s₁ Q₁ E₁ st hQ => by
        obtain ⟨hTI, h1, h2, hl1, hl2, hz⟩ := st
        have hend : xs[min xs.size ys.size]? = none ∨ ys[min xs.size ys.size]? = none := by
          rcases Nat.le_total xs.size ys.size with h | h
          · exact .inl (Array.getElem?_eq_none (by rw [Nat.min_eq_left h]; exact Nat.le_refl _))
          · exact .inr (Array.getElem?_eq_none (by rw [Nat.min_eq_right h]; exact Nat.le_refl _))
        rcases hz with ⟨hz, a, b, hTO⟩ | ⟨T, f, oT, hz, hT, r1, r2, r3, r4⟩
        · exact pyNext_zipG_end hA D hz hTI hTO h1 h2 hl1 hl2 hend fun h' hk => hQ h' s₁.toks fun c o hc e => hk c o (fun x => hc (by simp [x])) (fun x => hc (by simp [x])) (fun x => hc (by simp [x])) (fun x => hc (by simp [x])) e
        · exact pyNext_zo_end hA D hz ⟨_, hT⟩ hTI h1 h2 hl1 hl2 hend fun h' hk => hQ h' s₁.toks fun c o hc e => hk c o (fun x => hc (by simp [x])) (fun x => hc (by simp [x])) (fun x => hc (by simp [x])) e }
end
/-! ### the pairs -/
def zip3 : List (List Key) → List Addr → List Value → List (List Key × Addr × Value)
  | k :: ks, b :: bs, w :: ws => (k, b, w) :: zip3 ks bs ws
  | _, _, _ => []
abbrev KeysAt (H : Hp) : List Addr → List (List Key) → Prop := Paired fun b k => H b = some (.tup (k.map kV))
def putsV {κ : Type} [DecidableEq κ] (acc : List (κ × V)) (l : List (κ × V)) : List (κ × V) := l.foldl (fun a x => putK a x.1 x.2) acc
def putsD {κ : Type} [DecidableEq κ] (acc : List (κ × D)) (l : List (κ × D)) : List (κ × D) := l.foldl (fun a x => putD a x.1 x.2) acc
theorem putsV_le {κ : Type} [DecidableEq κ] : ∀ (l acc : List (κ × V)), (putsV acc l).length ≤ acc.length + l.length
  | [], acc => Nat.le_refl _
  | x :: l, acc => by
    have h1 := putsV_le l (putK acc x.1 x.2)
    have h2 := length_putK acc x.1 x.2
    rw [List.length_cons]
    show (putsV (putK acc x.1 x.2) l).length ≤ _
    omega
theorem zip3_get : ∀ {ks : List (List Key)} {bs : List Addr} {ws : List Value} {i : Nat} {k : List Key} {b : Addr} {w : Value}, ks[i]? = some k → bs[i]? = some b → ws[i]? = some w → (zip3 ks bs ws)[i]? = some (k, b, w)
  | [], _, _, _, _, _, _, h, _, _ => by simp at h
  | _ :: _, [], _, _, _, _, _, _, h, _ => by simp at h
  | _ :: _, _ :: _, [], _, _, _, _, _, _, h => by simp at h
  | _ :: _, _ :: _, _ :: _, 0, _, _, _, h1, h2, h3 => by
    rw [List.getElem?_cons_zero] at h1 h2 h3
    cases h1; cases h2; cases h3
    rfl
  | _ :: ks, _ :: bs, _ :: ws, i + 1, _, _, _, h1, h2, h3 => by
    rw [List.getElem?_cons_succ] at h1 h2 h3
    show (zip3 ks bs ws)[i]? = _
    exact zip3_get h1 h2 h3
theorem zip3_len : ∀ {ks : List (List Key)} {bs : List Addr} {ws : List Value}, bs.length = ks.length → (zip3 ks bs ws).length = min bs.length ws.length
  | [], [], _, _ => by simp [zip3]
  | [], _ :: _, _, h => by simp at h
  | _ :: _, [], _, h => by simp at h
  | _ :: _, _ :: _, [], _ => by simp [zip3]
  | _ :: ks, _ :: bs, _ :: ws, h => by
    have := zip3_len (ks := ks) (bs := bs) (ws := ws) (by simpa using h)
    simp only [zip3, List.length_cons, this]
    omega
theorem zip3_mem {H : Hp} : ∀ {ks : List (List Key)} {bs : List Addr} {ws : List Value}, KeysAt H bs ks → ∀ x ∈ zip3 ks bs ws, H x.2.1 = some (.tup (x.1.map kV))
  | [], _, _, _, x, h => by simp [zip3] at h
  | _ :: _, [], _, _, x, h => by simp [zip3] at h
  | _ :: _, _ :: _, [], _, x, h => by simp [zip3] at h
  | k :: ks, b :: bs, w :: ws, .cons h t, x, hx => by
    rcases List.mem_cons.mp hx with e | hx
    · rw [e]; exact h
    · exact zip3_mem t x hx
theorem kt_zip {H : Hp} : ∀ {ks : List (List Key)} {bs : List Addr} {us : List V} {ws : List Value}, KeysAt H bs ks → Vals us ws → ∀ {acc : List (List Key × V)} {xs : List (List Key × Addr × Value)}, KT H acc xs → KT H (putsV acc (ks.zip us)) (storedAllH xs (zip3 ks bs ws))
  | [], [], _, _, _, _, _, _, h => h
  | _ :: _, _ :: _, [], [], _, _, _, _, h => h
  | k :: ks, b :: bs, u :: us, w :: ws, .cons hk tk, .cons hu tu, acc, xs, h => by
    show KT H (putsV (putK acc k u) (ks.zip us)) (storedAllH (storedH xs k b w) (zip3 ks bs ws))
    exact kt_zip tk tu (h.put k hk hu)
theorem kt_all {H : Hp} {more : List (List Key × V)} {ys : List (List Key × Addr × Value)} (r : KT H more ys) : ∀ {acc : List (List Key × V)} {xs : List (List Key × Addr × Value)}, KT H acc xs → KT H (putsV acc more) (storedAllH xs ys) := by
  induction r with
  | nil => exact fun h => h
  | @cons p q ps qs h t ih =>
    intro acc xs ha
    show KT H (putsV (putK acc p.1 p.2) ps) (storedAllH (storedH xs q.1 q.2.1 q.2.2) qs)
    refine ih ?_
    obtain ⟨h1, h2, h3⟩ := h
    rw [← h1]
    exact ha.put p.1 h2 h3
theorem KvR.puts {κ : Type} [DecidableEq κ] {Γ : Gm} {π : Pl} {H : Hp} : ∀ {ks : List κ} {us : List V} {ds : List D}, RepL Γ π H us ds → ∀ {ws : List (κ × V)} {kvs : List (κ × D)}, KvR Γ π H ws kvs → KvR Γ π H (putsV ws (ks.zip us)) (putsD kvs (ks.zip ds))
  | [], _, _, _, _, _, h => h
  | k :: ks, us, [], r, ws, kvs, h => by
    rw [show us = [] from r]
    exact h
  | k :: ks, us, d :: ds, ⟨v, vr, e, rv, rl⟩, ws, kvs, h => by
    rw [e]
    exact KvR.puts rl (h.put rv)
theorem KvR.all {κ : Type} [DecidableEq κ] {Γ : Gm} {π : Pl} {H : Hp} : ∀ {mo : List (κ × D)} {mv : List (κ × V)}, KvR Γ π H mv mo → ∀ {ws : List (κ × V)} {kvs : List (κ × D)}, KvR Γ π H ws kvs → KvR Γ π H (putsV ws mv) (putsD kvs mo)
  | [], mv, r, ws, kvs, h => by rw [r.nil]; exact h
  | p :: l, mv, r, ws, kvs, h => by
    obtain ⟨v, wr, rfl, rv, rr⟩ := r.cons
    exact KvR.all rr (h.put rv)
/-! ### dict(zip(a, b)) -/
def tDZ (K : PySem.W.Frag) (ta : TA) : TE := fun σ H Q => ta σ H fun vs H1 => ∃ p q bs us ks, vs = [.ref p, .ref q] ∧ SqT K H1 p (bs.map V.ref) ∧ SqT K H1 q us ∧ KeysAt H1 bs ks ∧
  ∀ d, H1 d = none → Q (.ref d) (upd H1 d (.dT (putsV [] (ks.zip us))))
section
variable {X : Cx} {e e2 : Expr} {ta : TA} {p pos p2 pos2 : Pos}
theorem pe_dzip (hu : X.A.units + 64 < cLine) (hcalm : X.calm = true) (hgd : Gl X "dict") (hmd : X.mg "dict" = none) (hg : Gl X "zip") (hm : X.mg "zip" = none) (ha : PA X [e, e2] ta)
    (hs : starEach [e, e2] X.env = (false, eval e X.env) :: starEach [e2] X.env := by rfl) (hpl : (backTo pos2 (starEach [e2] X.env)).any (·.1) = false := by rfl)
    (hs2 : starEach [.Call (.Name "zip" p2) [e, e2] [] pos2] X.env = (false, eval (.Call (.Name "zip" p2) [e, e2] [] pos2) X.env) :: starEach [] X.env := by rfl) (hpl2 : (backTo pos (starEach [] X.env)).any (·.1) = false := by rfl) :
    PE X (.Call (.Name "dict" p) [.Call (.Name "zip" p2) [e, e2] [] pos2] [] pos) (tDZ X.K ta) := by
  refine ⟨fun pins s σ H Q I h => ?_⟩
  refine Call_ (ld_blt I hgd hmd PyProof.Rows.boot_dict (PyProof.Rows.callWith_type1 ?_ hs2 hpl2))
  rw [hs2]
  show wpAny _ _ (spliced ((false, eval (.Call (.Name "zip" p2) [e, e2] [] pos2) X.env) :: backTo pos (starEach [] X.env))) _ _ s
  refine Calls.spliced_cons ?_
  refine Call_ (ld_blt I hg hm PyProof.Rows.boot_zip (PyProof.Rows.callWith_type1 (thn (ha.run pos2 pins s σ H _ I h) fun us s1 ⟨vs, H1, I1, r1, q1⟩ => ?_) hs hpl))
  obtain ⟨a, b, bs, ws, ks, rfl, hqx, hqy, hK, q⟩ := q1
  obtain ⟨_, _, rfl, ra, rb⟩ := vals2 r1
  cases ra
  cases rb
  obtain ⟨its, rv, px⟩ := sqG_at (c := true) I1 hqx
  obtain ⟨its2, rv2, py⟩ := sqG_at (c := true) I1 hqy
  refine call_zg px py fun h' hz hTI hTO h1 h2 hsz hk => ?_
  refine Calls.spliced_nil ?_
  have ap := PySem.W.ktu_apart s1.heap.objs.size a b (sqG_lt (c := true) I1 hqx) (sqG_lt (c := true) I1 hqy)
  have hits : its = bs.map Value.ref := refs_at rv
  obtain ⟨_, _, _, hl1⟩ := I1.tuple hqx
  obtain ⟨_, _, _, hl2⟩ := I1.tuple hqy
  have hle5 : s1.heap.objs.size ≤ h'.objs.size := by rw [hsz]; exact Nat.le_add_right _ _
  have e1 : ks.length = bs.length := (Paired.length hK).symm
  have e2 : its2.length = ws.length := rv2.length.symm
  have e3 : its.length = bs.length := by rw [hits, List.length_map]
  have hfr : ∀ c ∈ [s1.heap.objs.size + 4, s1.heap.objs.size + 3, s1.heap.objs.size, s1.heap.objs.size + 1], s1.heap.objs.size ≤ c := by
    intro c hc
    simp only [List.mem_cons, List.not_mem_nil, or_false] at hc
    rcases hc with rfl | rfl | rfl | rfl <;> omega
  refine PySem.call_dict_pairsH (knd := tupleKind (mixKind X.prog X.w)) (ps := zip3 ks bs its2) (s := { s1 with heap := h' }) (pairArg_zip true true _ _ _ _ _ a b ap its.toArray its2.toArray) (I1.ok.hd hcalm) (tupleKind_room_in1 (by show X.A.units + 1 + 1 < cLine; omega))
    ⟨hz, hTI, ⟨_, _, hTO⟩, h1, h2, px.at fun o e => hk _ _ e, py.at fun o e => hk _ _ e⟩ ?_ ?_ ?_ fun h'' tk dd hk2 => ?_
  · refine ⟨by rw [zip3_len e1.symm, List.size_toArray, List.size_toArray, e3], fun i key v ⟨x1, x2⟩ => ?_⟩
    have x1 : its[i]? = some key := by simpa using x1
    have x2 : its2[i]? = some v := by simpa using x2
    rw [hits, List.getElem?_map] at x1
    obtain ⟨b0, hb0, rfl⟩ := Option.map_eq_some_iff.mp x1
    have hi : i < ks.length := by rw [e1]; exact (List.getElem?_eq_some_iff.mp hb0).1
    exact ⟨ks[i], b0, zip3_get (List.getElem?_eq_getElem hi) hb0 x2, rfl⟩
  · intro g hg' x hx
    have hH := zip3_mem hK x hx
    have hb : x.2.1 < s1.heap.objs.size := I1.hok.lt hH
    obtain ⟨o, items, n, ho, hc, hd, hi⟩ := key_of I1.hok hH
    refine ⟨o, items, n, hg' _ _ (fun z => ?_) (fun z => ?_) (hk _ _ ho), hc, hd, hi⟩
    · exact Nat.ne_of_lt (Nat.lt_of_lt_of_le hb hle5) z
    · exact absurd hb (Nat.not_lt.mpr (hfr _ z))
  · rw [List.size_toArray, List.size_toArray, e2]
    exact Nat.le_trans (Nat.min_le_right _ _) hl2
  · have hf : H1 h'.objs.size = none := I1.hok.fresh hle5
    refine ⟨.ref h'.objs.size, upd H1 h'.objs.size (.dT (putsV [] (ks.zip ws))), I1.laid (a := h'.objs.size) (t' := tk) (fun c o e => hk2 c o (fun z => ?_) (hk _ _ e)) hle5 ?_, rfl, q _ hf⟩
    · exact absurd (Heap.lt_size e) (Nat.not_lt.mpr (hfr _ z))
    · obtain ⟨o, es, ep, ho, x1, x2, x3, _, x4⟩ := dd
      refine ⟨?_, ?_, _, (kt_zip hK rv2 .nil).keeps fun c ys ec => ?_, o, es, ep, ho, x1, x2, x3, x4⟩
      · have := putsV_le (ks.zip ws) []
        rw [List.length_zip] at this
        simp only [List.length_nil, Nat.zero_add] at this
        exact Nat.le_trans this (Nat.le_trans (Nat.min_le_right _ _) hl2)
      · exact beq_eq_false_iff_ne.mpr (Nat.ne_of_gt (Nat.lt_of_lt_of_le I1.big hle5))
      · rw [upd_ne (fun z => by rw [z, hf] at ec; cases ec)]
        exact ec
end
end Dn
end

section
set_option Elab.async false
set_option linter.all false
set_option maxRecDepth 100000
set_option maxHeartbeats 4000000
namespace Dn
open PySem PySem.Spec PyProof.Rows L2
open RZ
/-! ### a < b < c as a test -/
theorem tE_asT {Γ : Gm} {W : WX} {m : Env → Sto → Rs D} {σ : L2.St} {H : Hp} {Q : Bool → Hp → Prop} (h : tT Γ W (asT m) σ H Q) : tE Γ W m σ H (fun x H' => ∃ k, x = .bl k ∧ Q k H') := by
  obtain ⟨π, env, st, E, S, h⟩ := h
  refine bindG E S h fun π1 H1 x a st1 e1 E1 S1 r1 h1 => ?_
  cases a with
  | bl k => exact ⟨k, r1, h1.now S1 rfl⟩
  | _ => exact h1.elim
theorem den_tch {X : Cx} {Γ : Gm} {W : WX} {op op' : CmpOp} {r r' : R2} {f g : D → D → Sto → Rs D} {a b c : Expr} {ma mb mc : Env → Sto → Rs D} {pos : Pos} (ho : OpR X (compareOp op) r) (hf : Op2 Γ r f) (ho' : OpR X (compareOp op') r') (hg : Op2 Γ r' g) (ha : PE X a (tE Γ W ma)) (hb : PE X b (tE Γ W mb)) (hc : PE X c (tE Γ W mc)) (hm : lastMarks [op, op'] [b, c] = false := by with_unfolding_all rfl) :
    PT X (.Compare a [op, op'] [b, c] pos) (tT Γ W (asT (mCh f g ma mb mc))) := imT (pt_chain ho ho' ha hb hc hm) fun _ _ _ h => tCh_of hf hg (tE_asT h)
def tkeysD : List D → Option (List (List Key))
  | [] => some []
  | d :: ds => match tkeyD d with
    | some k => match tkeysD ds with
      | some ks => some (k :: ks)
      | none => none
    | none => none
theorem tkeysD_ok {Γ : Gm} {π : Pl} {H : Hp} : ∀ {vs : List V} {ds : List D} {ks : List (List Key)}, RepL Γ π H vs ds → tkeysD ds = some ks → ∃ bs : List Addr, vs = bs.map V.ref ∧ KeysAt H bs ks
  | _, [], _, r, h => by
    cases h
    exact ⟨[], r, .nil⟩
  | _, d :: ds, ks, ⟨v, vr, e, rv, rl⟩, h => by
    unfold tkeysD at h
    split at h
    · rename_i k e1
      split at h
      · rename_i ks' e2
        cases h
        obtain ⟨b, rfl, hb⟩ := tkeyD_ok rv e1
        obtain ⟨bs, rfl, hB⟩ := tkeysD_ok rl e2
        exact ⟨b :: bs, e, .cons hb hB⟩
      · cases h
    · cases h
def mDzip (ml : Env → Sto → Rs (List D)) : Env → Sto → Rs D := fun env st => (ml env st).bind fun ds st1 => match ds with
  | [.tup xs, .tup ys] => match tkeysD xs with
    | some ks => .ok (.dic st1.length) (st1 ++ [.dT (putsD [] (ks.zip ys))])
    | none => .no
  | _ => .no
section
variable {X : Cx} {W : WX} {ce : Nat → Option Addr} {fe : Nat → Str} {tb : List Addr} {e e2 : Expr} {ml : Env → Sto → Rs (List D)} {p pos p2 pos2 : Pos}
theorem den_dzip (hu : X.A.units + 64 < cLine) (hcalm : X.calm = true) (hgd : Gl X "dict") (hmd : X.mg "dict" = none) (hg : Gl X "zip") (hm : X.mg "zip" = none) (ha : PA X [e, e2] (tL (gx X ce fe tb) W ml))
    (hs : starEach [e, e2] X.env = (false, eval e X.env) :: starEach [e2] X.env := by rfl) (hpl : (backTo pos2 (starEach [e2] X.env)).any (·.1) = false := by rfl)
    (hs2 : starEach [.Call (.Name "zip" p2) [e, e2] [] pos2] X.env = (false, eval (.Call (.Name "zip" p2) [e, e2] [] pos2) X.env) :: starEach [] X.env := by rfl) (hpl2 : (backTo pos (starEach [] X.env)).any (·.1) = false := by rfl) :
    PE X (.Call (.Name "dict" p) [.Call (.Name "zip" p2) [e, e2] [] pos2] [] pos) (tE (gx X ce fe tb) W (mDzip ml)) := by
  refine imE (pe_dzip hu hcalm hgd hmd hg hm ha hs hpl hs2 hpl2) fun σ H Q ⟨π, env, st, E, S, h⟩ => ?_
  refine bindG E S h fun π1 H1 vs ds st1 e1 E1 S1 r1 h1 => ?_
  split at h1
  · rename_i xs ys
    split at h1
    · rename_i ks ek
      obtain ⟨v0, vr, rfl, r1, r2⟩ := r1
      obtain ⟨v1, vr2, rfl, r3, r4⟩ := r2
      rw [show vr2 = [] from r4]
      obtain ⟨p, us, rfl, hp, rx⟩ := r1
      obtain ⟨q, ws, rfl, hq, ry⟩ := r3
      obtain ⟨bs, rfl, hB⟩ := tkeysD_ok rx ek
      refine ⟨p, q, bs, ws, ks, rfl, SqT.of hp, SqT.of hq, hB, fun d hd => ?_⟩
      refine Out.newD (c := .dT (putsD [] (ks.zip ys))) h1 S1 hd ⟨pd_self π1 d, _, upd_same, ?_⟩
      have r0 : KvR (gx X ce fe tb) π1 H1 (putsV [] (ks.zip ws)) (putsD [] (ks.zip ys)) := KvR.puts ry ⟨rfl, rfl⟩
      exact r0.ext ((ext_new hd).pd hd (S1.fresh hd)).toKp
    · exact h1.elim
  · exact h1.elim
end
/-! ### d.update(e) -/
def rUpdT : V → List V → Hp → VK → Prop := fun x xs H Q => ∃ a b kvs more, x = .ref a ∧ xs = [.ref b] ∧ a ≠ b ∧ H a = some (.dT kvs) ∧ H b = some (.dT more) ∧ (kvs ≠ [] ∨ more.length ≤ 1) ∧ kvs.length + more.length ≤ sizeLine ∧
  Q .non (upd H a (.dT (putsV kvs more)))
theorem mt_updT {X : Cx} (hu : X.A.units + 1 < cLine) : MtR X "dict.update" rUpdT := by
  intro pins s σ H x xs v us Q I rx rxs h
  obtain ⟨a, b, kvs, more, rfl, rfl, hab, ha, hb, hne, hsz, q⟩ := h
  cases rx
  obtain ⟨_, rfl, r1⟩ := vals1 rxs
  cases r1
  obtain ⟨z1, hd1, xs1, rel1, dd1⟩ := dt_of I.hok ha
  obtain ⟨z2, hd2, xs2, rel2, dd2⟩ := dt_of I.hok hb
  have l1 : kvs.length = xs1.length := Paired.length rel1
  have l2 : more.length = xs2.length := Paired.length rel2
  refine call_update_dictH (knd := tupleKind (mixKind X.prog X.w)) (tupleKind_room_in1 hu) hab hd2 dd1 dd2 ?_ (by omega) fun h' dd' _ sb => ?_
  · rcases hne with h | h
    · refine .inl fun e => h ?_
      rw [e] at l1
      exact List.length_eq_zero_iff.mp l1
    · refine .inr ⟨keyed_apart tupleKind_stays dd2, ?_⟩
      cases xs2 with
      | nil => exact List.nodup_nil
      | cons y ys => cases ys with
        | nil => simp
        | cons y2 ys => simp at l2; omega
  · refine ⟨.non, _, ?_, rfl, q⟩
    obtain ⟨o, es, ep, ho, x1, x2, x3, _, x4⟩ := dd'
    refine d_write (t' := s.toks) I (by rw [ha]; exact True.intro) sb ⟨o, ho⟩ ⟨?_, hd1, _, (kt_all rel2 rel1).keeps fun c ys ec => ?_, o, es, ep, ho, x1, x2, x3, x4⟩
    · exact Nat.le_trans (putsV_le more kvs) hsz
    · rw [upd_ne (ne_of ec ha (fun z => nomatch z))]
      exact ec
def fUpdT (d e : D) (st : Sto) : Option Sto := match d, e with
  | .dic n, .dic m => if n = m then none else match st[n]?, st[m]? with
    | some (.dT kvs), some (.dT more) => if (kvs.length ≠ 0 ∨ more.length ≤ 1) ∧ kvs.length + more.length ≤ sz then some (st.set n (.dT (putsD kvs more))) else none
    | _, _ => none
  | _, _ => none
def mUpdD (mo me : Env → Sto → Rs D) : Env → Sto → Rs D := fun env st => (mo env st).bind fun o st1 => match o with
  | .dic n => (me env st1).bind fun d st2 => match fUpdT (.dic n) d st2 with
    | some st3 => .ok .non st3
    | none => .no
  | _ => .no
section
variable {X : Cx} {W : WX} {ce : Nat → Option Addr} {fe : Nat → Str} {tb : List Addr} {o e : Expr} {mo me m : Env → Sto → Rs D} {apos cpos : Pos}
theorem den_updD (hu : X.A.units + 64 < cLine) (ho : PE X o (tE (gx X ce fe tb) W mo)) (he : PE X e (tE (gx X ce fe tb) W me)) (hbase : attributeBase o "update" X.env (eval o X.env) = eval o X.env := by rfl)
    (hfew : ((backTo cpos (starEach [e] X.env)).all (fun x => !x.1) && (backToKw cpos (keywordEach [] X.env)).all (fun x => x.1.isSome)
      && decide ([e].length + ([] : List Keyword).length + (if ([] : List Keyword).isEmpty then 0 else 1) < 30)) = true := by rfl)
    (hline : (apos.endLine == cpos.line) = true := by rfl) (hs : starEach [e] X.env = (false, eval e X.env) :: starEach [] X.env := by rfl) :
    PE X (.Call (.Attribute o "update" apos) [e] [] cpos) (tE (gx X ce fe tb) W (mUpdD mo me)) := by
  refine imE (pe_bm PySem.F.plainAttrs_dict PySem.F.slot_dict_update PySem.F.type_dict_update (mt_updT (by omega)) ho (pa_cons he pa_nil hs) hbase hfew hline hs rfl) fun σ H Q ⟨π, env, st, E, S, h⟩ => ?_
  refine bindG E S h fun π1 H1 v d st1 e1 E1 S1 r1 h1 => ?_
  cases d with
  | dic n =>
    have ty : tyV X.K "dict" v H1 := by
      obtain ⟨p, rfl, hn, hd⟩ := r1
      obtain ⟨c, q⟩ := S1.cell_at (List.mem_of_getElem? hn)
      cases c with
      | lst _ => have z := q.1; rw [hd] at z; cases z
      | dK kvs => obtain ⟨_, ws, hp, _⟩ := q; exact .inr (.inr (.inl ⟨rfl, .inl ⟨ws, hp⟩⟩))
      | dT kvs => obtain ⟨_, ws, hp, _⟩ := q; exact .inr (.inr (.inl ⟨rfl, .inr ⟨ws, hp⟩⟩))
    refine ⟨ty, ?_⟩
    refine bindG E1 S1 h1 fun π2 H2 w dw st2 e2 E2 S2 r2 h2 => ?_
    obtain ⟨p, rfl, hn, hd⟩ := r1.ext e2.toKp
    split at h2
    · rename_i st3 ef
      cases dw <;> first | (cases ef; done) | skip
      rename_i m
      obtain ⟨p2, rfl, hn2, hd2⟩ := r2
      unfold fUpdT at ef
      dsimp only at ef
      split at ef
      · cases ef
      · rename_i hnm
        split at ef
        · rename_i kvs more c1 c2
          split at ef
          · rename_i hz
            cases ef
            obtain ⟨ws1, hp1, rk1⟩ := S2.readT hn c1
            obtain ⟨ws2, hp2, rk2⟩ := S2.readT hn2 c2
            have hpp : p ≠ p2 := fun z => hnm (by
              have hi := (List.getElem?_eq_some_iff.mp hn)
              have hj := (List.getElem?_eq_some_iff.mp hn2)
              exact (List.getElem_inj S2.nd).mp (hi.2.trans (z.trans hj.2.symm)))
            have hm : p ∈ π2.ρ := List.mem_of_getElem? hn
            have ex : Ext π2 H2 π2 (upd H2 p (.dT (putsV ws1 ws2))) := ext_cell S2 hm hp1 rfl
            refine ⟨p, p2, ws1, ws2, rfl, rfl, hpp, hp1, hp2, ?_, ?_, h2 π2 _ _ ex (S2.put_cell hn hp1 rfl rfl ⟨hd, _, upd_same, (KvR.all rk2 rk1).ext ex.toKp⟩) rfl⟩
            · rw [rk2.length]
              exact hz.1.imp (fun h e => h (by rw [← rk1.length, e]; rfl)) id
            · rw [rk1.length, rk2.length, sizeLine_eq]
              exact hz.2
          · cases ef
        · cases ef
    · exact h2.elim
  | _ => exact h1.elim
end
end Dn
end

section
set_option Elab.async false
set_option linter.all false
set_option maxRecDepth 100000
set_option maxHeartbeats 4000000
/-! sorted(xs), xs a list of pairs of whole numbers -/
namespace Dn
open PySem PySem.Spec PyProof.Rows L2
section
variable {α : Type}
def insB (lt : α → α → Bool) (y : α) : List α → List α
  | [] => [y]
  | x :: r => if lt y x then y :: x :: r else x :: insB lt y r
def sortB (lt : α → α → Bool) (acc : List α) : List α → List α
  | [] => acc
  | y :: r => sortB lt (insB lt y acc) r
theorem insB_cut {lt : α → α → Bool} (O : SrtO.Swo lt) (y : α) : ∀ {l : List α}, SrtO.Srtd lt l → ∃ M N, l = M ++ N ∧ insB lt y l = M ++ y :: N ∧ (∀ x ∈ M, lt y x = false) ∧ ∀ x ∈ N, lt y x = true
  | [], _ => ⟨[], [], rfl, rfl, (fun _ h => nomatch h), (fun _ h => nomatch h)⟩
  | x :: r, h => by
    unfold insB
    cases q : lt y x with
    | true => exact ⟨[], x :: r, rfl, if_pos rfl, (fun _ h => nomatch h), O.lt_all h q⟩
    | false =>
      obtain ⟨M, N, e1, e2, h1, h2⟩ := insB_cut O y (List.pairwise_cons.mp h).2
      refine ⟨x :: M, N, by rw [e1]; rfl, by rw [if_neg (by decide), e2]; rfl, fun z hz => ?_, h2⟩
      rcases List.mem_cons.mp hz with e | hz
      · rw [e]; exact q
      · exact h1 z hz
theorem sortB_ok {lt : α → α → Bool} (O : SrtO.Swo lt) : ∀ {l acc O1 : List α}, SrtO.Srtd lt acc → SrtO.Stb lt acc O1 → SrtO.Srtd lt (sortB lt acc l) ∧ SrtO.Stb lt (sortB lt acc l) (O1 ++ l)
  | [], acc, O1, h1, h2 => by rw [List.append_nil]; exact ⟨h1, h2⟩
  | y :: r, acc, O1, h1, h2 => by
    obtain ⟨M, N, e1, e2, a, b⟩ := insB_cut O y h1
    have h3 : SrtO.Srtd lt (insB lt y acc) := by rw [e2]; exact SrtO.ins_srtd O (by rw [← e1]; exact h1) a b
    have h4 : SrtO.Stb lt (insB lt y acc) (O1 ++ [y]) := by rw [e2]; exact SrtO.ins_stb O b (by rw [← e1]; exact h2)
    have := sortB_ok O (l := r) h3 h4
    rw [List.append_assoc] at this
    exact this
end
theorem insB_two {α β : Type} {F : α → β → Prop} {l1 : α → α → Bool} {l2 : β → β → Bool} (ag : ∀ a b c d, F a c → F b d → l1 a b = l2 c d) {y : α} {z : β} (hy : F y z) : ∀ {xs : List α} {ys : List β}, Paired F xs ys → Paired F (insB l1 y xs) (insB l2 z ys)
  | _, _, .nil => .cons hy .nil
  | x :: xs, w :: ys, .cons h t => by
    unfold insB
    rw [ag y x z w hy h]
    cases l2 z w with
    | true => exact .cons hy (.cons h t)
    | false => exact .cons h (insB_two ag hy t)
theorem sortB_two {α β : Type} {F : α → β → Prop} {l1 : α → α → Bool} {l2 : β → β → Bool} (ag : ∀ a b c d, F a c → F b d → l1 a b = l2 c d) : ∀ {xs : List α} {ys : List β}, Paired F xs ys → ∀ {as : List α} {bs : List β}, Paired F as bs → Paired F (sortB l1 as xs) (sortB l2 bs ys)
  | _, _, .nil, _, _, h => h
  | x :: xs, w :: ys, .cons h t, as, bs, h2 => sortB_two ag t (insB_two ag h h2)
/-! ### pairs of whole numbers -/
def pairD : D → Option (Int × Int)
  | .tup [.int i, .int j] => some (i, j)
  | _ => none
def keyP (d : D) : Int × Int := (pairD d).getD (0, 0)
def allP : List D → Bool
  | [] => true
  | d :: ds => (pairD d).isSome && allP ds
def ltD (x y : D) : Bool := SrtO.lexB (keyP x) (keyP y)
def keyV (H : Hp) (v : V) : Int × Int := match v with
  | .ref t => match H t with
    | some (.tup [.int i, .int j]) => (i, j)
    | _ => (0, 0)
  | _ => (0, 0)
theorem pairD_eq {d : D} {p : Int × Int} (h : pairD d = some p) : d = .tup [.int p.1, .int p.2] := by
  unfold pairD at h
  split at h
  · cases h; rfl
  · cases h
theorem pair_rep {Γ : Gm} {π : Pl} {H : Hp} {v : V} {d : D} (r : Rep Γ π H v d) (h : (pairD d).isSome = true) : ∃ t, v = .ref t ∧ H t = some (.tup [.int (keyV H v).1, .int (keyV H v).2]) ∧ keyV H v = keyP d := by
  obtain ⟨p, hp⟩ := Option.isSome_iff_exists.mp h
  have e := pairD_eq hp
  subst e
  obtain ⟨t, vs, rfl, ht, rl⟩ := r
  obtain ⟨v0, vr, rfl, r1, r2⟩ := rl
  obtain ⟨v1, vr2, rfl, r3, r4⟩ := r2
  rw [show vr2 = [] from r4, show v0 = _ from r1, show v1 = _ from r3] at ht
  have k : keyV H (.ref t) = p := by
    unfold keyV
    dsimp only
    rw [ht]
  refine ⟨t, rfl, by rw [k]; exact ht, ?_⟩
  rw [k]
  unfold keyP
  rw [hp]
  rfl
theorem pairs_two {Γ : Gm} {π : Pl} {H : Hp} : ∀ {vs : List V} {ds : List D}, RepL Γ π H vs ds → allP ds = true → Paired (fun v d => Rep Γ π H v d ∧ keyV H v = keyP d) vs ds ∧ ∀ v ∈ vs, ∃ t, v = .ref t ∧ H t = some (.tup [.int (keyV H v).1, .int (keyV H v).2])
  | _, [], r, _ => by rw [show _ = [] from r]; exact ⟨.nil, (fun _ h => nomatch h)⟩
  | _, d :: ds, ⟨v, vr, e, rv, rl⟩, h => by
    subst e
    unfold allP at h
    rw [Bool.and_eq_true] at h
    obtain ⟨a, b⟩ := pairs_two rl h.2
    obtain ⟨t, e1, e2, e3⟩ := pair_rep rv h.1
    refine ⟨.cons ⟨rv, e3⟩ a, fun x hx => ?_⟩
    rcases List.mem_cons.mp hx with e | hx
    · rw [e]; exact ⟨t, e1, e2⟩
    · exact b x hx
theorem repL_of {Γ : Gm} {π : Pl} {H : Hp} {vs : List V} {ds : List D} (h : Paired (fun v d => Rep Γ π H v d ∧ keyV H v = keyP d) vs ds) : RepL Γ π H vs ds := by
  induction h with
  | nil => rfl
  | cons a t ih => exact ⟨_, _, rfl, a.1, ih⟩
def fSortP (mu : Bool) (ds : List D) (st : Sto) : Rs D := match ds with
  | [d] => match getL d st with
    | some xs => if allP xs then mkL mu (sortB ltD [] xs) st else .no
    | none => .no
  | _ => .no
theorem o_sortP {Γ : Gm} (mu : Bool) : OpN Γ (L2.rSortedPO Γ.K) (fSortP mu) := fun W σ π H vs ds st Q S r h => by
  unfold fSortP at h
  split at h
  · rename_i d
    obtain ⟨v, rfl, rv⟩ := r.one'
    split at h
    · rename_i xs e
      obtain ⟨p, ws, rfl, hq, rl⟩ := getL_ok S rv e
      split at h
      · rename_i ha
        obtain ⟨pr, hk⟩ := pairs_two rl ha
        refine ⟨p, ws, keyV H, rfl, hq, hk, fun ys l h1 h2 hl => ?_⟩
        have O := L2.ltP_swo (keyV H)
        have so := sortB_ok O (l := ws) (acc := []) (O1 := []) List.Pairwise.nil (SrtO.Stb.refl _)
        have e : ys = sortB (L2.ltP (keyV H)) [] ws := SrtO.stb_uniq O h1 so.1 (h2.trans ⟨so.2.perm.symm, fun x => (so.2.cls x).symm⟩)
        rw [e]
        refine h.newL S (repL_of (sortB_two (fun a b c d h1 h2 => ?_) pr .nil)) hl
        show SrtO.lexB (keyV H a) (keyV H b) = SrtO.lexB (keyP c) (keyP d)
        rw [h1.2, h2.2]
      · exact h.elim
    · exact h.elim
  · exact h.elim
end Dn
end

section
set_option Elab.async false
set_option linter.all false
set_option maxRecDepth 100000
set_option maxHeartbeats 4000000
/-! sorted(d.items()), the keys and the values whole numbers -/
namespace Dn
open PySem PySem.Spec PySem.W PyProof.Rows L2
/-- more objects -/
theorem ext_more {π : Pl} {H H' : Hp} (k : ∀ b o, H b = some o → H' b = some o) : Ext π H π H' :=
  { fix := fun b u e _ => k b u e
    frz := fun b u _ e => k b u e
    pre := fun _ _ h => h
    fr := fun _ h => h
    kd := fun _ _ _ => rfl
    keep := fun b u e _ _ => k b u e
    there := fun b e => by
      cases q : H b with
      | none => rfl
      | some o => rw [k b o q] at e; cases e
    newR := fun _ h => .inl h
    newF := fun _ h => .inl h }
theorem StR.more {Γ : Gm} {π : Pl} {H H' : Hp} {st : Sto} (S : StR Γ π H st) (k : ∀ b o, H b = some o → H' b = some o) : StR Γ π H' st :=
  ⟨S.nd, S.len, fun n q c h1 h2 => (S.at_ n q c h1 h2).ext (ext_more k).toKp h1 fun u e => k _ _ e,
    fun q f => let ⟨a, xs, b⟩ := S.frz q f; ⟨a, xs, k _ _ b⟩,
    fun P hP => let ⟨ps, a, b⟩ := S.tab P hP; ⟨ps, k _ _ a, b⟩, S.dn⟩
section
variable {prog : Program} {w : World} {K : Type} [DecidableEq K] {knd : KeyKind prog w K} {A : Around} {E : Value → Shared → Prop} {s : Shared} {r d : Addr} {kvs : List (K × Value)} {ep : Nat}
theorem call_sortedItems {Q : Value → Shared → Prop} (hh : A.handled = none) (hv : s.heap.IsItemsView r d) (hm : s.heap.DictAt knd d kvs ep) (hn : kvs.length ≤ sizeLine)
    (hQ : ∀ h' tk as, (∀ b o, s.heap.get? b = some o → h'.get? b = some o) → as.length = kvs.length → KdxG knd kvs s.heap.objs.size h' as → ∃ k : Value → Int × Int, (∀ v ∈ as.map Value.ref, Srt.IsPair h' v (k v).1 (k v).2) ∧
      ∀ (h2 : Heap) (dd : Addr) (out : List Value), SrtO.Srtd (fun v u => SrtO.lexB (k v) (k u)) out → SrtO.Stb (fun v u => SrtO.lexB (k v) (k u)) out (as.map Value.ref) → (∀ b o, h'.get? b = some o → h2.get? b = some o) → h'.objs.size ≤ dd →
        (∃ n, h2.get? dd = some (seqObj "list" out.toArray n)) → Q (.ref dd) { s with heap := h2, toks := tk }) :
    wpAny (model prog w) A (call (.builtin "sorted") [.ref r]) Q E s := by
  refine Calls.call_function_entry kind_sorted plain_sorted entry_sorted (args_sorted1 _) ?_
  unfold Builtin.«sorted»
  refine wpAny_bind (m := checkCount "sorted" 1 1 _) (wpAny_pure ?_)
  refine wpAny_bind (kdx_collect (knd := knd) (kvs := kvs) (ep := ep) hh hv hm hn fun h' tk as hk hl hG => ?_)
  obtain ⟨k, hp, hQ⟩ := hQ h' tk as hk hl hG
  have hz : (as.map Value.ref).length ≤ sizeLine := by rw [List.length_map, hl]; exact hn
  refine wpAny_bind (wpAny_newList ?_ hz)
  have hoL : (h'.push (seqObj "list" (as.map Value.ref).toArray 0)).get? h'.objs.size = some (seqObj "list" (as.map Value.ref).toArray 0) := Heap.get?_push_size _ rfl
  show wpAny _ _ _ _ _ { s with heap := h'.push (seqObj "list" (as.map Value.ref).toArray 0), toks := tk }
  refine wpAny_bind (wpAny_holding (wpAny_call_entry slot_list_sort ⟨_, hoL, rfl⟩ entry_list_sort (SrtO.list_sort_ord (SrtO.swo_lex k) hoL hz (fun h2 => ?_) fun out hs hb => ⟨_, rfl, ?_⟩) (args_list_sort _)))
  · refine SrtO.pairs_sortableO (by omega) (fun v hm => (hp v hm).keeps fun b o e _ => Heap.get?_push_of_some _ e) fun o e => ?_
    have e' := e.symm.trans hoL
    cases e'
    intro c
    exact absurd (Value.type.inj c) (by decide)
  · refine wpAny_pure ⟨_, rfl, hQ _ _ out hs hb (fun b o e => ?_) (Nat.le_refl _) (sortedHeap_at (n := 0) hoL)⟩
    have hlt := Heap.lt_size e
    rw [sortedHeap_old (Nat.ne_of_lt hlt) (by rw [Heap.size_push]; exact Nat.lt_succ_of_lt hlt)]
    exact Heap.get?_push_of_some _ e
end
/-! ### as a rule -/
section
variable {X : Cx}
theorem tups_laid {pins : List (Addr × Obj)} {σ : L2.St} {H : Hp} {s : Shared} {h' : Heap} {tk : Nat} {kvs : List (Key × V)} {vs : List (Key × Value)} {lo : Addr} {as : List Addr} (I : Inv X pins σ H s) (kv : KV kvs vs)
    (hk : ∀ b o, s.heap.get? b = some o → h'.get? b = some o) (hlo : s.heap.objs.size ≤ lo) (hl : as.length = vs.length) (hG : KdxG (mixKind X.prog X.w) vs lo h' as) :
    ∃ H' : Hp, (∀ b o, H b = some o → H' b = some o) ∧ Paired (fun (t : Addr) (q : Key × V) => H' t = some (.tup [kV q.1, q.2])) as kvs ∧ Inv X pins σ H' { s with heap := h', toks := tk } := by
  have lk : kvs.length = vs.length := Paired.length kv
  have nd : as.Nodup := List.Pairwise.imp (fun {a b} (h : a < b) => Nat.ne_of_lt h) hG.rise
  have new : ∀ t ∈ as, H t = none := fun t ht => I.hok.fresh (Nat.le_trans hlo (Nat.le_of_lt (hG.above t ht)))
  have atP := LiI.putT_at as kvs H (by omega) nd
  have off : ∀ b, b ∉ as → LiI.putT H as kvs b = H b := fun b h1 => LiI.putT_off as kvs _ h1
  have low : ∀ b o, s.heap.get? b = some o → b ∉ as := fun b o e z => absurd (Heap.lt_size e) (Nat.not_lt.mpr (Nat.le_trans hlo (Nat.le_of_lt (hG.above b z))))
  have kp : ∀ b u, H b = some u → (LiI.putT H as kvs) b = some u := fun b u e => by
    rw [off b (fun z => by rw [new b z] at e; cases e)]
    exact e
  refine ⟨LiI.putT H as kvs, kp, atP, ?_⟩
  refine I.call' (ch := []) rfl ⟨fun b o q _ _ _ => hk b o q, fun b o q _ _ _ => ⟨o.slots, hk b o q⟩, fun b o q n _ => ?_, fun b o q _ => ⟨o, hk b o q⟩, fun b xs q => kp b _ q, fun b o u q => kp b _ q, fun b ps q => ⟨#[], by rw [kp b _ q]; simp⟩⟩ (fun b u q => ?_) I.bare fun b z => by simp at z
  · rw [off b (low b o q)]
    exact n
  · by_cases hb : b ∈ as
    · obtain ⟨j, pk, e1, e2, e3⟩ := LiI.paired_ix atP hb
      rw [e3] at q
      cases q
      obtain ⟨key, k, x, f1, f2, f3⟩ := hG.pairs j b e1
      obtain ⟨qv, g1, g2, g3⟩ := LiI.paired_get kv e2
      rw [f1] at g1
      cases g1
      have rk : RelV (kV pk.1) key := by
        rw [g2]
        exact relV_key (show keyIs k key = true from f2)
      exact ⟨by show 2 ≤ sizeLine; decide, [key, x], .cons rk (.cons g3 .nil), ⟨_, f3, rfl, _, rfl⟩⟩
    · rw [off b hb] at q
      exact (I.hok b u q).stay (fun d v _ y => hk d v y) (fun d y => kp d _ y) fun d xs y => kp d _ y
/-- the pairs are whole numbers -/
def IntKv (kvs : List (Key × V)) : Prop := ∀ q ∈ kvs, ∃ i j, q = (.inl i, .int j)
def tSortIt (te : TE) : TE := fun σ H Q => te σ H fun x H1 => ∃ (d : Addr) (kvs : List (Key × V)), x = .ref d ∧ H1 d = some (.dK kvs) ∧ IntKv kvs ∧
  ∀ (H' : Hp) (ts : List Addr), (∀ b o, H1 b = some o → H' b = some o) → Paired (fun (t : Addr) (q : Key × V) => H' t = some (.tup [kV q.1, q.2])) ts kvs → ∀ p, H' p = none → Q (.ref p) (upd H' p (.lst (sortB (ltP (keyV H')) [] (ts.map V.ref))))
variable {e : Expr} {te : TE} {p apos cpos pos : Pos}
theorem pe_sortIt (hc : X.calm = true) (he : PE X e te) (hg : Gl X "sorted") (hm : X.mg "sorted" = none) (hbase : attributeBase e "items" X.env (eval e X.env) = eval e X.env := by rfl) (hline : (apos.endLine == cpos.line) = true := by rfl)
    (hs : starEach [.Call (.Attribute e "items" apos) [] [] cpos] X.env = (false, eval (.Call (.Attribute e "items" apos) [] [] cpos) X.env) :: starEach [] X.env := by rfl) :
    PE X (.Call (.Name "sorted" p) [.Call (.Attribute e "items" apos) [] [] cpos] [] pos) (tSortIt te) := by
  refine ⟨fun pins s σ H Q I hq => ?_⟩
  refine wpAny_Call_Name_kw (ld_blt I hg hm PyProof.Rows.boot_sorted ?_)
  refine PyProof.Rows.callWith_builtin1 ?_ hs rfl
  rw [hs]
  show wpAny _ _ (spliced ((false, eval (.Call (.Attribute e "items" apos) [] [] cpos) X.env) :: backTo pos (starEach [] X.env))) _ _ s
  refine Calls.spliced_cons ?_
  refine wpAny_Call_method (T := "dict") (id := "dict.items") hbase rfl hline F.plainAttrs_dict F.slot_dict_items F.type_dict_items (thn (he.run pins s σ H _ I hq) fun u s1 ⟨x, H1, I1, rx, d, kvs, ex, hd, hi, q⟩ => ?_)
  subst ex
  obtain rfl : u = Value.ref d := rx
  obtain ⟨hz, hs0, vs, kv, hdo⟩ := I1.hok d _ hd
  obtain ⟨ep, hat⟩ := hdo.dictAt
  have lk : kvs.length = vs.length := Paired.length kv
  refine ⟨hdo.typeIs, hdo.mapOf.noDict, ?_⟩
  show wpAny _ _ (callWith cpos (.builtin "dict.items") [.ref d] [] []) _ X.xe s1
  refine method_meetsIn F.slot_dict_items F.entry_dict_items rfl (PySem.evalArgs_none ⟨rfl, hdo.typeIs, F.args_dict_items_1 _, _, meets_dict_items (mixKind X.prog X.w) d hs0, ⟨vs, hdo⟩, ?_⟩)
  refine Calls.spliced_nil ?_
  refine call_sortedItems (s := { s1 with heap := s1.heap.push { cls := .type "dict_items", data := .fields #[.ref d] } }) (knd := mixKind X.prog X.w) (kvs := vs) (ep := ep) (I1.ok.hd hc) ⟨_, Heap.get?_push_size _ rfl, rfl, rfl⟩ (hat.push _) (by omega) fun h' tk as hk hl hG => ?_
  have hk1 : ∀ b o, s1.heap.get? b = some o → h'.get? b = some o := fun b o e => hk b o (Heap.get?_push_of_some _ e)
  obtain ⟨H', k1, k2, J⟩ := tups_laid (tk := tk) I1 kv hk1 (by show s1.heap.objs.size ≤ (s1.heap.push _).objs.size; rw [Heap.size_push]; exact Nat.le_succ _) hl hG
  refine ⟨fun u => keyV H' (backV u), fun v hv => ?_, fun h2 dd out h3 h4 hk2 hdd hn => ?_⟩
  · obtain ⟨t, ht, rfl⟩ := List.mem_map.mp hv
    obtain ⟨j, qv, e1, e2, e3⟩ := LiI.paired_ix k2 ht
    obtain ⟨i, j', rfl⟩ := hi qv (List.mem_of_getElem? e2)
    obtain ⟨_, its2, r2, o, ho, hc', n, hdat⟩ := J.hok _ _ e3
    obtain ⟨u1, u2, rfl, ri, rj⟩ := vals2 r2
    obtain ⟨t1, rfl⟩ := ri
    obtain ⟨t2, rfl⟩ := rj
    have kk : keyV H' (backV (Value.ref t)) = (i, j') := by
      show keyV H' (.ref t) = _
      unfold keyV
      dsimp only
      rw [e3]
      rfl
    show Srt.IsPair h' (Value.ref t) (keyV H' (backV (Value.ref t))).1 (keyV H' (backV (Value.ref t))).2
    rw [kk]
    exact ⟨t, o, t1, t2, n, rfl, ho, hc', hdat⟩
  · have so := sortB_ok (ltP_swo (keyV H')) (l := as.map V.ref) (acc := []) (O1 := []) List.Pairwise.nil (SrtO.Stb.refl _)
    have eb : as.map V.ref = (as.map Value.ref).map backV := by rw [List.map_map]; rfl
    have hb : SrtO.Stb (ltP (keyV H')) (out.map backV) (as.map V.ref) := by
      rw [eb]
      exact SrtO.Stb.map (ltP_swo (keyV H')) backV h4
    have e : out.map backV = sortB (ltP (keyV H')) [] (as.map V.ref) := SrtO.stb_uniq (ltP_swo (keyV H')) (SrtO.srtd_map h3) so.1 (hb.trans ⟨so.2.perm.symm, fun x => (so.2.cls x).symm⟩)
    have h5 : ∀ u ∈ out, ∃ a, u = Value.ref a := fun u hu => by
      obtain ⟨a, _, rfl⟩ := List.mem_map.mp (h4.perm.mem_iff.mp hu)
      exact ⟨a, rfl⟩
    obtain ⟨n, hn⟩ := hn
    have hf := J.hok.fresh hdd
    refine ⟨.ref dd, upd H' dd (.lst (out.map backV)), J.laid (t' := tk) hk2 hdd ⟨?_, out, n, vals_back h5, hn⟩, rfl, ?_⟩
    · rw [hb.len, List.length_map, hl, ← lk]
      exact hz
    · rw [e]
      exact q H' as k1 k2 dd hf
end
/-! ### the denotation -/
def pairsI : List (Key × D) → Option (List D)
  | [] => some []
  | (.inl i, .int j) :: r => match pairsI r with
    | some ds => some (.tup [.int i, .int j] :: ds)
    | none => none
  | _ :: _ => none
def mSortIt (mu : Bool) (m : Env → Sto → Rs D) : Env → Sto → Rs D := fun env st => (m env st).bind fun d st1 => match d with
  | .dic n => match st1[n]? with
    | some (.dK kvs) => match pairsI kvs with
      | some ds => mkL mu (sortB ltD [] ds) st1
      | none => .no
    | _ => .no
  | _ => .no
theorem pairsI_ok {Γ : Gm} {π : Pl} {H : Hp} : ∀ {kvs : List (Key × D)} {ws : List (Key × V)} {ds : List D}, KvR Γ π H ws kvs → pairsI kvs = some ds → IntKv ws ∧
    ∀ (π' : Pl) (H' : Hp) (ts : List Addr), Paired (fun (t : Addr) (q : Key × V) => H' t = some (.tup [kV q.1, q.2])) ts ws → Paired (fun v d => Rep Γ π' H' v d ∧ keyV H' v = keyP d) (ts.map V.ref) ds
  | [], ws, ds, r, h => by
    cases h
    rw [r.nil]
    refine ⟨(fun q hq => nomatch hq), fun π' H' ts p => ?_⟩
    cases p
    exact .nil
  | (k, d) :: l, ws, ds, r, h => by
    obtain ⟨v, wr, rfl, rv, rr⟩ := r.cons
    cases k with
    | inr x => cases h
    | inl i =>
      cases d <;> first | (cases h; done) | skip
      rename_i j
      unfold pairsI at h
      split at h
      · rename_i ds' e
        cases h
        obtain ⟨a, b⟩ := pairsI_ok rr e
        have ev : v = V.int j := rv
        subst ev
        refine ⟨fun q hq => ?_, fun π' H' ts p => ?_⟩
        · rcases List.mem_cons.mp hq with e | hq
          · exact ⟨i, j, e⟩
          · exact a q hq
        · cases p with
          | @cons t _ ts _ h1 h2 =>
            have h1' : H' t = some (.tup [.int i, .int j]) := h1
            refine .cons ⟨⟨t, _, rfl, h1', V.int i, _, rfl, rfl, V.int j, _, rfl, rfl, rfl⟩, ?_⟩ (b π' H' ts h2)
            show keyV H' (.ref t) = keyP (.tup [.int i, .int j])
            unfold keyV
            dsimp only
            rw [h1']
            rfl
      · cases h
section
variable {X : Cx} {W : WX} {ce : Nat → Option Addr} {fe : Nat → Str} {tb : List Addr} {e : Expr} {m : Env → Sto → Rs D} {p apos cpos pos : Pos}
theorem den_sortIt (mu : Bool) (hc : X.calm = true) (he : PE X e (tE (gx X ce fe tb) W m)) (hg : Gl X "sorted") (hm : X.mg "sorted" = none) (hbase : attributeBase e "items" X.env (eval e X.env) = eval e X.env := by rfl) (hline : (apos.endLine == cpos.line) = true := by rfl)
    (hs : starEach [.Call (.Attribute e "items" apos) [] [] cpos] X.env = (false, eval (.Call (.Attribute e "items" apos) [] [] cpos) X.env) :: starEach [] X.env := by rfl) :
    PE X (.Call (.Name "sorted" p) [.Call (.Attribute e "items" apos) [] [] cpos] [] pos) (tE (gx X ce fe tb) W (mSortIt mu m)) := by
  refine imE (pe_sortIt hc he hg hm hbase hline hs) fun σ H Q ⟨π, env, st, E, S, h⟩ => ?_
  refine bindG E S h fun π1 H1 v d st1 e1 E1 S1 r1 h1 => ?_
  cases d with
  | dic n =>
    obtain ⟨q, rfl, hn, hd⟩ := r1
    dsimp only at h1
    split at h1
    · rename_i kvs ek
      obtain ⟨ws, hp, rk⟩ := S1.readK hn ek
      split at h1
      · rename_i ds ep
        obtain ⟨hi, hpr⟩ := pairsI_ok rk ep
        refine ⟨q, ws, rfl, hp, hi, fun H' ts k pr p hf => ?_⟩
        have two := hpr π1 H' ts pr
        refine (Out.ext (ext_more k) h1).newL (S1.more k) (repL_of (sortB_two (fun a b c d h1 h2 => ?_) two .nil)) hf
        show SrtO.lexB (keyV H' a) (keyV H' b) = SrtO.lexB (keyP c) (keyP d)
        rw [h1.2, h2.2]
      · exact h1.elim
    · exact h1.elim
  | _ => exact h1.elim
end
end Dn
end

section
set_option Elab.async false
set_option linter.all false
set_option maxRecDepth 100000
set_option maxHeartbeats 4000000
/-! min(xs), xs a list of pairs of whole numbers -/
namespace Dn
open PySem PySem.Spec PySem.W PyProof.Rows L2
theorem argBest_le (bt : Nat → Nat → Bool) : ∀ k, argBest bt k ≤ k
  | 0 => Nat.le_refl _
  | k + 1 => by
    unfold argBest
    split
    · exact Nat.le_refl _
    · exact Nat.le_trans (argBest_le bt k) (Nat.le_succ _)
theorem argBest_congr {bt bt' : Nat → Nat → Bool} : ∀ k, (∀ i j, i ≤ k → j ≤ k → bt i j = bt' i j) → argBest bt k = argBest bt' k
  | 0, _ => rfl
  | k + 1, h => by
    have e := argBest_congr k fun i j hi hj => h i j (Nat.le_trans hi (Nat.le_succ _)) (Nat.le_trans hj (Nat.le_succ _))
    unfold argBest
    rw [e, h (k + 1) (argBest bt' k) (Nat.le_refl _) (Nat.le_trans (argBest_le bt' k) (Nat.le_succ _))]
def dataP (p : Int × Int) : PyData := .tuple [.int p.1, .int p.2]
theorem dataP_lt (p q : Int × Int) : dataLt (dataP p) (dataP q) = SrtO.lexB p q := by
  obtain ⟨a, b⟩ := p
  obtain ⟨c, d⟩ := q
  unfold dataLt dataP SrtO.lexB
  simp only [keyToks, keyToksAll, List.cons_append, List.nil_append, PyProof.Rows.lexLt, itemLt]
  by_cases h : a = c
  · subst h
    simp
  · simp [h]
    omega
theorem dataP_alike (l : List (Int × Int)) : AlikeAll (l.map dataP) := by
  refine ⟨fun x hx y hy => ?_, fun x hx => ?_⟩
  · obtain ⟨p, _, rfl⟩ := List.mem_map.mp hx
    obtain ⟨q, _, rfl⟩ := List.mem_map.mp hy
    rfl
  · obtain ⟨p, _, rfl⟩ := List.mem_map.mp hx
    intro e
    cases e
theorem dataP_depth : ∀ l : List (Int × Int), PyData.depthAll (l.map dataP) ≤ 8
  | [] => by simp [PyData.depthAll]
  | p :: l => by
    have := dataP_depth l
    simp only [List.map_cons, PyData.depthAll]
    refine Nat.max_le.mpr ⟨?_, this⟩
    simp [dataP, PyData.depth, PyData.depthAll]
theorem reads_pairs {h : Heap} : ∀ {vs : List Value} {l : List (Int × Int)}, Paired (fun v p => Srt.IsPair h v p.1 p.2) vs l → ReadsAll h vs (l.map dataP) []
  | _, _, .nil => .nil
  | v :: vs, p :: l, .cons hp t => by
    obtain ⟨a, o, t1, t2, n, rfl, ho, hc, hd⟩ := hp
    exact ReadsAll.cons (as := []) (bs := []) (Reads.tuple ho hc hd (ReadsAll.cons (as := []) (bs := []) (.int _ _) (ReadsAll.cons (as := []) (bs := []) (.int _ _) .nil))) (reads_pairs t)
def rMinP (K : PySem.W.Frag) : List V → Hp → VK → Prop := fun vs H Q => ∃ a xs, vs = [V.ref a] ∧ SqL K H a xs ∧ xs ≠ [] ∧ (∀ x ∈ xs, ∃ t, x = V.ref t ∧ H t = some (.tup [.int (keyV H x).1, .int (keyV H x).2])) ∧
  ∀ v, xs[argBest (fun i j => SrtO.lexB (keyV H (xs.getD i .non)) (keyV H (xs.getD j .non))) (xs.length - 1)]? = some v → Q v H
section
variable {X : Cx}
theorem cr_minP (hu : X.A.units + 64 < cLine) (hc : X.calm = true) : CallR X (.builtin "min") (rMinP X.K) := by
  intro pins s σ H vs us Q I r h
  obtain ⟨a, xs, rfl, hs, hne, hx, q⟩ := h
  obtain ⟨its, rv, hl, _⟩ := I.list hs
  obtain ⟨u, rfl, ru⟩ := vals1 r
  obtain rfl : u = Value.ref a := ru
  have pr : ∀ {xs : List V} {its : List Value}, Vals xs its → (∀ x ∈ xs, ∃ t, x = V.ref t ∧ H t = some (.tup [.int (keyV H x).1, .int (keyV H x).2])) → Paired (fun v p => Srt.IsPair s.heap v p.1 p.2) its (xs.map (keyV H)) := by
    intro xs its r
    induction r with
    | nil => exact fun _ => .nil
    | @cons x v xs vs h t ih =>
      intro hx
      refine .cons ?_ (ih fun y hy => hx y (List.mem_cons_of_mem _ hy))
      obtain ⟨t0, e, ht⟩ := hx x List.mem_cons_self
      rw [e] at h
      cases h
      obtain ⟨_, its2, r2, o, ho, hc, n, hd⟩ := I.hok _ _ ht
      obtain ⟨u1, u2, rfl, ri, rj⟩ := vals2 r2
      obtain ⟨t1, rfl⟩ := ri
      obtain ⟨t2, rfl⟩ := rj
      exact ⟨t0, o, t1, t2, n, rfl, ho, hc, hd⟩
  have hr : ReadsAll s.heap its.toArray.toList ((xs.map (keyV H)).map dataP) [] := by
    have := reads_pairs (pr rv hx)
    simpa using this
  have hlen := rv.length
  have hpos : 0 < its.length := by
    rw [← hlen]
    exact List.length_pos_iff.mpr hne
  have hd := dataP_depth (xs.map (keyV H))
  refine call_min_walkH (iter_listW (A := X.A.in1) (I.ok.hd hc) hl.isList fun s₂ e W st hfp hw hk => ?_)
  refine ⟨_, _, _, _, _, _, _, s.heap, _, rfl, W, st, hfp, by simpa using hpos, hw, hk, cmpIn_lt (A := X.A.in1) hr (dataP_alike _) (by show X.A.units + 1 + _ < _; omega), fun v s' hP m => ?_⟩
  obtain ⟨h', tk, rfl, hk'⟩ := moved_old e rfl m
  have hP' : its[argBest (fun i j => SrtO.lexB (keyV H (xs.getD i .non)) (keyV H (xs.getD j .non))) (xs.length - 1)]? = some v := by
    have e0 : its.toArray.size - 1 = xs.length - 1 := by rw [List.size_toArray, hlen]
    rw [e0, argBest_congr (bt' := fun i j => SrtO.lexB (keyV H (xs.getD i .non)) (keyV H (xs.getD j .non))) (xs.length - 1) (fun i j hi hj => ?_)] at hP
    · simpa using hP
    · have li : i < xs.length := by omega
      have lj : j < xs.length := by omega
      have g : ∀ {i : Nat}, i < xs.length → ((xs.map (keyV H)).map dataP).getD i .none = dataP (keyV H (xs.getD i .non)) := fun {i} li => by
        simp [List.getD, List.getElem?_map, List.getElem?_eq_getElem li]
      rw [g li, g lj, dataP_lt]
  have hi := argBest_le (fun i j => SrtO.lexB (keyV H (xs.getD i .non)) (keyV H (xs.getD j .non))) (xs.length - 1)
  obtain ⟨x, hx0⟩ : ∃ x, xs[argBest (fun i j => SrtO.lexB (keyV H (xs.getD i .non)) (keyV H (xs.getD j .non))) (xs.length - 1)]? = some x := ⟨_, List.getElem?_eq_getElem (by omega)⟩
  obtain ⟨u, hu', ru⟩ := rv.get hx0
  rw [hP'] at hu'
  cases hu'
  exact ⟨x, H, I.kept hk', ru, q x hx0⟩
end
def minI (xs : List D) : Nat := argBest (fun i j => ltD (xs.getD i .non) (xs.getD j .non)) (xs.length - 1)
def fMinP (ds : List D) (st : Sto) : Rs D := match ds with
  | [d] => match getL d st with
    | some xs => if allP xs && !xs.isEmpty then (match xs[minI xs]? with
      | some m => .ok m st
      | none => .no) else .no
    | none => .no
  | _ => .no
theorem paired_at {α β : Type} {F : α → β → Prop} : ∀ {xs : List α} {ys : List β}, Paired F xs ys → ∀ {i : Nat} {x : α} {y : β}, xs[i]? = some x → ys[i]? = some y → F x y
  | _, _, .nil, i, x, y, h, _ => by simp at h
  | _, _, .cons r t, 0, x, y, h, h2 => by
    cases h; cases h2
    exact r
  | _, _, .cons r t, i + 1, x, y, h, h2 => paired_at t (by simpa using h) (by simpa using h2)
theorem o_minP {Γ : Gm} : OpN Γ (rMinP Γ.K) fMinP := fun W σ π H vs ds st Q S r h => by
  unfold fMinP at h
  split at h
  · rename_i d
    obtain ⟨v, rfl, rv⟩ := r.one'
    split at h
    · rename_i xs e
      obtain ⟨p, ws, rfl, hq, rl⟩ := getL_ok S rv e
      split at h
      · rename_i ha
        rw [Bool.and_eq_true] at ha
        obtain ⟨pr, hk⟩ := pairs_two rl ha.1
        have hl : ws.length = xs.length := Paired.length pr
        split at h
        · rename_i m em
          refine ⟨p, ws, rfl, hq, fun z => ?_, hk, fun v hv => ?_⟩
          · rw [z] at hl
            have : xs = [] := List.length_eq_zero_iff.mp hl.symm
            rw [this] at ha
            simp at ha
          · have ei : argBest (fun i j => SrtO.lexB (keyV H (ws.getD i .non)) (keyV H (ws.getD j .non))) (ws.length - 1) = minI xs := by
              unfold minI
              rw [hl]
              have hpos : 0 < xs.length := List.length_pos_iff.mpr (fun z => by rw [z] at ha; simp at ha)
              refine argBest_congr _ fun i j hi hj => ?_
              have g : ∀ {i : Nat}, i < xs.length → keyV H (ws.getD i .non) = keyP (xs.getD i .non) := fun {i} li => by
                have a1 : ws[i]? = some ws[i] := List.getElem?_eq_getElem (by omega)
                have a2 : xs[i]? = some xs[i] := List.getElem?_eq_getElem li
                have := (paired_at pr a1 a2).2
                simpa [List.getD, a1, a2] using this
              show SrtO.lexB _ _ = SrtO.lexB _ _
              rw [g (by omega), g (by omega)]
            rw [ei] at hv
            exact h.now S (paired_at pr hv em).1
        · exact h.elim
      · exact h.elim
    · exact h.elim
  · exact h.elim
end Dn
end

section
set_option Elab.async false
set_option linter.all false
set_option maxRecDepth 100000
set_option maxHeartbeats 4000000
/-! the script's cells, one of them: the store told wholly -/
namespace Dn
open PySem PySem.Spec PySem.W PyProof.Rows L2
theorem set_last {α : Type} (s0 : List α) (a b : α) : (s0 ++ [a]).set s0.length b = s0 ++ [b] := by simp
theorem cell1_loop {s0 : Sto} {r1 : Option D} {ms : List Int} (hms : ms.length ≤ 63) :
    ∀ (f i : Nat) (env : Env) (st : Sto), ms.length < f + i → i ≤ ms.length → (∃ x y z, env = [r1, some (.int 1), some (.cell s0.length), x, y, z]) → (∃ c : Int, st = s0 ++ [.lst [.int c]]) →
      ∃ e s, loopF (.enum (.fix (ms.map D.int))) (gTp 2 (gsCons (gNm 3) (gsCons (gNm 4) (gsNil)))) (sSeq (sAsg (gNm 5) (m2 (fModA) (mCall fInt (lCons (mVar 3) (lNil))) (mVar 1))) (sSet (mVar 2) (mVar 5) (m2 (fAdd false) (m2 fIx (mVar 2) (mVar 5)) (m2 (fMul false) (mVar 4) (m2 (fAdd false) (mVar 3) (mC (.int 2))))))) f i env st = .nx e s
        ∧ (∃ x y z, e = [r1, some (.int 1), some (.cell s0.length), x, y, z]) ∧ ∃ c : Int, s = s0 ++ [.lst [.int c]] := by
  intro f i env st h1 h2 h3 h4
  obtain ⟨e, s, a, b⟩ := loopF_inv (b := .enum (.fix (ms.map D.int))) (tg := gTp 2 (gsCons (gNm 3) (gsCons (gNm 4) (gsNil)))) (body := sSeq (sAsg (gNm 5) (m2 (fModA) (mCall fInt (lCons (mVar 3) (lNil))) (mVar 1))) (sSet (mVar 2) (mVar 5) (m2 (fAdd false) (m2 fIx (mVar 2) (mVar 5)) (m2 (fMul false) (mVar 4) (m2 (fAdd false) (mVar 3) (mC (.int 2)))))))
    (fun _ env st => (∃ x y z, env = [r1, some (.int 1), some (.cell s0.length), x, y, z]) ∧ ∃ c : Int, st = s0 ++ [.lst [.int c]]) ms.length
    (by
      intro i env st hI hi
      obtain ⟨⟨x, y, z, rfl⟩, c, rfl⟩ := hI
      refine ⟨.tup [.int i, .int ms[i]], [r1, some (.int 1), some (.cell s0.length), some (.int i), some (.int ms[i]), z], ?_, ?_, ?_⟩
      · unfold Itb.at_ Src.at_
        dsimp only
        rw [List.getElem?_map, List.getElem?_eq_getElem hi]
        rfl
      · simp [gTp, gsCons, gNm, gsNil]
      · have q6 : cMul ms[i] ((i : Int) + 2) = true := cMul_r (by omega) (by omega)
        have q4 : ixN 1 0 = some 0 := by decide
        refine ⟨[r1, some (.int 1), some (.cell s0.length), some (.int i), some (.int ms[i]), some (.int 0)], s0 ++ [.lst [.int (c + ms[i] * ((i : Int) + 2))]], .inl ?_, ⟨some (.int i), some (.int ms[i]), some (.int 0), rfl⟩, _, rfl⟩
        simp [sSeq, sAsg, gNm, m2, mCall, lCons, lNil, mVar, Rs.bind, Rs.thn, fInt, fModA, mC, fAdd, fMul, sSet, fIx, getS, getL, atI, q4, q6, fSet, Int.emod_one])
    (by
      intro env st _
      unfold Itb.at_ Src.at_
      dsimp only
      rw [List.getElem?_eq_none (by rw [List.length_map]; exact Nat.le_refl _)])
    f i env st h1 h2 ⟨h3, h4⟩
  exact ⟨e, s, a, b.1, b.2⟩
theorem cells_one {ns : List Int} (hns : ns.length ≤ 63) (st : Sto) :
    ∃ n c st', uCells [.rol (ns.map D.int), .int 1] st = .ok (.cell n) st' ∧ ((st' = st ++ [.lst [.int c]] ∧ n = st.length) ∨ (st' = st ++ [.lst [], .lst [.int c]] ∧ n = st.length + 1)) := by
  have p1 : (1 : Nat) ≤ sz := by decide
  cases ns with
  | nil =>
    refine ⟨st.length + 1, 0, st ++ [.lst []] ++ [.lst [.int 0]], ?_, .inr ⟨by simp, rfl⟩⟩
    unfold uCells dFn startE
    simp [sSeq, sAsg, gNm, mOr, mCall, lCons, lNil, mSl, oNone, oSome, mVar, mC, Rs.bind, Rs.thn, fSl, getL, getS, mkL, fList, tru, mLst, sFor, mIns, itE, srcOf, loopF, Itb.at_, Itb.fuel, Src.at_, Src.len, cutD, sRet, p1]
  | cons a r =>
    have hc : cutD ((a :: r).map D.int) none (some 1) = [D.int a] := by
      have := cut_to ((a :: r).map D.int) 1
      rw [show ((1 : Nat) : Int) = 1 from rfl] at this
      rw [this]
      rfl
    have hd : cutD ((a :: r).map D.int) (some 1) (some 63) = (((a :: r).take 63).drop 1).map D.int := by
      have := cut_at ((a :: r).map D.int) 1 63 (by decide)
      rw [show ((63 : Nat) : Int) = 63 from rfl, show ((1 : Nat) : Int) = 1 from rfl] at this
      rw [this, List.map_drop, List.map_take]
    obtain ⟨e, s, h1, ⟨x, y, z, h2⟩, c, h3⟩ := cell1_loop (s0 := st) (r1 := some (.rol ((a :: r).map D.int))) (ms := ((a :: r).take 63).drop 1) (by rw [List.length_drop, List.length_take]; omega)
      ((((a :: r).take 63).drop 1).length + 1) 0 [some (.rol ((a :: r).map D.int)), some (.int 1), some (.cell st.length), none, none, none] (st ++ [.lst [.int a]]) (by omega) (by omega) ⟨none, none, none, rfl⟩ ⟨a, rfl⟩
    subst h2
    refine ⟨st.length, c, s, ?_, .inl ⟨h3, rfl⟩⟩
    have fin : ∀ R : Sr, R = .nx [some (.rol ((a :: r).map D.int)), some (.int 1), some (.cell st.length), x, y, z] s → uCells [.rol ((a :: r).map D.int), .int 1] st = (match (match R with
          | .nx e s => sRet (mVar 2) e s
          | r => r) with
          | .nx _ st' => .ok .non st'
          | .rt d st' => .ok d st'
          | .ex x _ st' => .ex x st'
          | _ => .no) → uCells [.rol ((a :: r).map D.int), .int 1] st = .ok (.cell st.length) s := by
      rintro R rfl hR
      rw [hR]
      rfl
    refine fin _ h1 ?_
    clear fin h1
    generalize (a :: r).map D.int = L at hc hd ⊢
    unfold uCells dFn startE
    simp [sSeq, sAsg, gNm, mOr, mCall, lCons, lNil, mSl, oNone, oSome, mVar, mC, Rs.bind, Rs.thn, fSl, getL, getS, mkL, fList, tru, sFor, mIns, itE, srcOf, Itb.fuel, Src.len, hc, hd]
    all_goals rfl
end Dn
end

section
set_option Elab.async false
set_option linter.all false
set_option maxRecDepth 100000
set_option maxHeartbeats 4000000
/-! str(number), texts with holes, text.partition(sign), text.find(sign, begin), int(text) -/
namespace Dn
open PySem PySem.Spec PyProof.Rows L2
open PySem.NumText in
def decS (n : Nat) : List Nat := (Nat.toDigits 10 n).map Char.toNat
theorem decS_ok (i : Int) (h : 0 ≤ i) : (Str.ofString (toString i)) = (⟨⟨decS i.natAbs⟩⟩ : Str) := by
  obtain ⟨m, rfl⟩ := Int.eq_ofNat_of_zero_le h
  have := text_ofNat m
  exact this
theorem log_lt {n : Nat} (h : n < 2 ^ 1900) : n.log2 < 1920 := by
  by_cases z : n = 0
  · rw [z]; decide
  · have := (Nat.log2_lt z (k := 1900)).mpr h
    omega
def okI (i : Int) : Bool := decide (0 ≤ i) && decide (i.natAbs < 2 ^ 1900)
theorem okI_ok {i : Int} (h : okI i = true) : 0 ≤ i ∧ i.natAbs.log2 < 1920 := by
  unfold okI at h
  rw [Bool.and_eq_true, decide_eq_true_eq, decide_eq_true_eq] at h
  exact ⟨h.1, log_lt h.2⟩
section
variable {X : Cx}
/-! ### str(x) -/
def rStr : List V → Hp → VK → Prop := fun xs H Q => (∃ i : Int, xs = [.int i] ∧ i.natAbs.log2 < 1920 ∧ Q (.str (toString i)) H) ∨ (∃ a : Str, xs = [.str a] ∧ Q (.str a) H)
theorem call_strA : CallR X (.type "str") rStr := fun pins s σ H xs us Q I r h => h.elim (fun h => call_str_int pins s σ H xs us Q I r h) (fun h => SkE.call_str_str pins s σ H xs us Q I r h)
def fStr (ds : List D) (st : Sto) : Rs D := match ds with
  | [.int i] => if okI i then .ok (.str (decS i.natAbs)) st else .no
  | [.str l] => .ok (.str l) st
  | _ => .no
theorem o_str {Γ : Gm} : OpN Γ rStr fStr := fun W σ π H vs ds st Q S r h => by
  unfold fStr at h
  split at h
  · rename_i i
    split at h
    · rename_i hi
      obtain ⟨v, rfl, rv⟩ := r.one'
      obtain ⟨h0, h1⟩ := okI_ok hi
      exact .inl ⟨i, by rw [show v = _ from rv], h1, h.now S (by rw [decS_ok i h0]; exact rfl)⟩
    · exact h.elim
  · rename_i l
    obtain ⟨v, rfl, rv⟩ := r.one'
    exact .inr ⟨⟨⟨l⟩⟩, by rw [show v = _ from rv], h.now S rfl⟩
  · exact h.elim

/-! ### texts with holes -/
def fmtD : D → Option (List Nat)
  | .str l => if l.length ≤ sz then some l else none
  | .int i => if okI i then some (decS i.natAbs) else none
  | _ => none
def jsGo : List (Env → Sto → Rs D) → List Nat → Env → Sto → Rs D
  | [], acc, env, st => .ok (.str acc) st
  | m :: ms, acc, env, st => (m env st).bind fun d st1 => match fmtD d with
    | some l => if acc.length + l.length ≤ sz then jsGo ms (acc ++ l) env st1 else .no
    | none => .no
def mJs (ms : List (Env → Sto → Rs D)) : Env → Sto → Rs D := jsGo ms []
variable {W : WX} {ce : Nat → Option Addr} {fe : Nat → Str} {tb : List Addr}
/-- a part -/
def PJ1 (X : Cx) (W : WX) (ce : Nat → Option Addr) (fe : Nat → Str) (tb : List Addr) (e : Expr) (m : Env → Sto → Rs D) : Prop :=
  ∃ t, PE X e t ∧ ∀ σ π H env st (acc : List Nat) (ms : List (Env → Sto → Rs D)) (Q : Str → Hp → Prop) (ts : List TE),
    EnvR (gx X ce fe tb) π H σ env → StR (gx X ce fe tb) π H st →
    Out (gx X ce fe tb) (Rep (gx X ce fe tb)) W σ π H (jsGo (m :: ms) acc env st) (fun v H1 => ∃ y, v = .str y ∧ Q y H1) →
    (∀ π1 H1 st1 acc1, Ext π H π1 H1 → EnvR (gx X ce fe tb) π1 H1 σ env → StR (gx X ce fe tb) π1 H1 st1 → Out (gx X ce fe tb) (Rep (gx X ce fe tb)) W σ π1 H1 (jsGo ms acc1 env st1) (fun v H1 => ∃ y, v = .str y ∧ Q y H1) → tJs ts (S1 acc1) σ H1 Q) →
    tJs (t :: ts) (S1 acc) σ H Q
theorem pj1_fmt {e : Expr} {m : Env → Sto → Rs D} {pos : Pos} (he : PE X e (tE (gx X ce fe tb) W m)) : PJ1 X W ce fe tb (.FormattedValue e (-1) none pos) m := by
  refine ⟨_, pe_fmt he, fun σ π H env st acc ms Q ts E S h k => ?_⟩
  show tFmt (tE (gx X ce fe tb) W m) σ H _
  refine bindG E S h fun π1 H1 v d st1 e1 E1 S1' r1 h1 => ?_
  split at h1
  · rename_i l q
    split at h1
    · rename_i hz
      have fin : ∃ y : Str, V.str (S1 l) = .str y ∧ (S1 acc ++ y).length ≤ sizeLine ∧ tJs ts (S1 acc ++ y) σ H1 Q := by
        refine ⟨S1 l, rfl, ?_, ?_⟩
        · rw [show S1 acc ++ S1 l = S1 (acc ++ l) from str_app acc l]
          show (acc ++ l).length ≤ sizeLine
          rw [List.length_append, sizeLine_eq]; exact hz
        · rw [show S1 acc ++ S1 l = S1 (acc ++ l) from str_app acc l]
          exact k π1 H1 st1 (acc ++ l) e1 E1 S1' h1
      cases d with
      | str l' =>
        unfold fmtD at q
        dsimp only at q
        split at q
        · rename_i hl
          cases q
          exact .inl ⟨S1 l, r1, by show l.length ≤ sizeLine; rw [sizeLine_eq]; exact hl, fin⟩
        · cases q
      | int i =>
        unfold fmtD at q
        dsimp only at q
        split at q
        · rename_i hl
          cases q
          obtain ⟨h0, h2⟩ := okI_ok hl
          exact .inr ⟨i, r1, h2, by rw [decS_ok i h0]; exact fin⟩
        · cases q
      | _ => cases q
    · exact h1.elim
  · exact h1.elim
theorem pj1_str {x : Str} {l : List Nat} {j : Nat} {pos : Pos} (hl : x = ⟨⟨l⟩⟩ := by rfl) : PJ1 X W ce fe tb (.Constant (.str x) j pos) (mC (.str l)) := by
  refine ⟨_, pe_str, fun σ π H env st acc ms Q ts E S h k => ?_⟩
  subst hl
  have h : Out (gx X ce fe tb) (Rep (gx X ce fe tb)) W σ π H (match fmtD (.str l) with
    | some l => if acc.length + l.length ≤ sz then jsGo ms (acc ++ l) env st else .no
    | none => .no) _ := h
  split at h
  · rename_i l2 q
    unfold fmtD at q
    dsimp only at q
    split at q
    · cases q
      split at h
      · rename_i hz
        refine ⟨S1 l, rfl, ?_, ?_⟩
        · rw [show S1 acc ++ S1 l = S1 (acc ++ l) from str_app acc l]
          show (acc ++ l).length ≤ sizeLine
          rw [List.length_append, sizeLine_eq]; exact hz
        · rw [show S1 acc ++ S1 l = S1 (acc ++ l) from str_app acc l]
          exact k π H st (acc ++ l) Ext.refl E S h
      · exact h.elim
    · cases q
  · exact h.elim
inductive PJD (X : Cx) (W : WX) (ce : Nat → Option Addr) (fe : Nat → Str) (tb : List Addr) : List Expr → List (Env → Sto → Rs D) → Prop
  | nil : PJD X W ce fe tb [] []
  | cons {e : Expr} {m : Env → Sto → Rs D} {es : List Expr} {ms : List (Env → Sto → Rs D)} (h : PJ1 X W ce fe tb e m) (r : PJD X W ce fe tb es ms) : PJD X W ce fe tb (e :: es) (m :: ms)
theorem pjd_ok {es : List Expr} {ms : List (Env → Sto → Rs D)} (h : PJD X W ce fe tb es ms) : ∃ ts, PJ X es ts ∧ ∀ σ π H env st (acc : List Nat) (Q : Str → Hp → Prop), EnvR (gx X ce fe tb) π H σ env → StR (gx X ce fe tb) π H st →
    Out (gx X ce fe tb) (Rep (gx X ce fe tb)) W σ π H (jsGo ms acc env st) (fun v H1 => ∃ y, v = .str y ∧ Q y H1) → tJs ts (S1 acc) σ H Q := by
  induction h with
  | nil =>
    refine ⟨[], .nil, fun σ π H env st acc Q E S h => ?_⟩
    obtain ⟨y, e, q⟩ := Out.now (R := Rep (gx X ce fe tb)) (a := D.str acc) (b := .str (S1 acc)) (st := st) h S rfl
    cases e
    exact q
  | cons h1 r ih =>
    obtain ⟨t, p1, k1⟩ := h1
    obtain ⟨ts, p2, k2⟩ := ih
    exact ⟨t :: ts, .cons p1 p2, fun σ π H env st acc Q E S h => k1 σ π H env st acc _ Q ts E S h fun π1 H1 st1 acc1 _ E1 S1 h1 => k2 σ π1 H1 env st1 acc1 Q E1 S1 h1⟩
theorem Out.wk {α β : Type} {Γ : Gm} {R : Pl → Hp → β → α → Prop} {W : WX} {σ : L2.St} {π : Pl} {H : Hp} {r : Rs α} {Q P : β → Hp → Prop} (h : Out Γ R W σ π H r Q) (k : ∀ b H a st π1, R π1 H b a → r = .ok a st → Q b H → P b H) : Out Γ R W σ π H r P := by
  cases r with
  | ok a st => exact fun π1 H1 b e S r => k b H1 a st π1 r rfl (h π1 H1 b e S r)
  | ex x st => exact h
  | no => exact h
theorem jsGo_str : ∀ (ms : List (Env → Sto → Rs D)) (acc : List Nat) (env : Env) (st st1 : Sto) (a : D), jsGo ms acc env st = .ok a st1 → ∃ l, a = .str l
  | [], acc, env, st, st1, a, h => by
    have h : Rs.ok (D.str acc) st = .ok a st1 := h
    cases h; exact ⟨acc, rfl⟩
  | m :: ms, acc, env, st, st1, a, h => by
    unfold jsGo at h
    cases q : m env st with
    | ok d st2 =>
      rw [q] at h
      have h : (match fmtD d with
        | some l => if acc.length + l.length ≤ sz then jsGo ms (acc ++ l) env st2 else .no
        | none => .no) = .ok a st1 := h
      split at h
      · split at h
        · exact jsGo_str ms _ env st2 st1 a h
        · cases h
      · cases h
    | ex x st2 => rw [q] at h; cases h
    | no => rw [q] at h; cases h
theorem den_js {v1 v2 : Expr} {rest : List Expr} {ms : List (Env → Sto → Rs D)} {pos : Pos} (h : PJD X W ce fe tb (v1 :: v2 :: rest) ms) : PE X (.JoinedStr (v1 :: v2 :: rest) pos) (tE (gx X ce fe tb) W (mJs ms)) := by
  obtain ⟨ts, p, k⟩ := pjd_ok h
  refine imE (pe_joined p) fun σ H Q ⟨π, env, st, E, S, h⟩ => ?_
  refine k σ π H env st [] _ E S (h.wk fun b H1 a st1 π1 r e q => ?_)
  obtain ⟨l, rfl⟩ := jsGo_str ms [] env st st1 a e
  exact ⟨⟨⟨l⟩⟩, r, by rw [← show b = _ from r]; exact q⟩

/-! ### text.partition(sign) -/
theorem occ_no {c : Nat} {l : List Nat} (h : idxN c l = none) : Builtin.Str.occurrences (Dn.S1 l) (Dn.S1 [c]) 0 (Dn.S1 l).length 1 = [] := by
  have hn : ∀ {l : List Nat}, idxN c l = none → ∀ j : Nat, l[j]? ≠ some c := by
    intro l
    induction l with
    | nil => intro _ j z; simp at z
    | cons x xs ih =>
      intro h j
      unfold idxN at h
      split at h
      · cases h
      · rename_i e
        split at h
        · cases h
        · rename_i q
          cases j with
          | zero => exact fun z => e (Option.some.inj z)
          | succ j => exact ih q j
  have sa : ∀ j, StrLaws.At (Dn.S1 l) (Dn.S1 [c]) (Dn.S1 l).length j ↔ l[j]? = some c := fun j => StrLaws.subAt_one (Dn.S1 l) c j
  rcases StrLaws.occ_head (Dn.S1 l) (Dn.S1 [c]) 1 (Nat.le_refl 1) with ⟨e, _⟩ | ⟨j, r, e, aj, bj⟩
  · exact e
  · exact absurd ((sa j).mp aj) (hn h j)
def fPart (a b : D) (st : Sto) : Rs D := match a, b with
  | .str l, .str [c] => if l.length ≤ sz then (match idxN c l with
    | some i => .ok (.tup [.str (l.take i), .str [c], .str (l.drop (i + 1))]) st
    | none => .ok (.tup [.str l, .str [], .str []]) st) else .no
  | _, _ => .no
def mPart (mo me : Env → Sto → Rs D) : Env → Sto → Rs D := fun env st => (mo env st).bind fun o st1 => match o with
  | .str l => (me env st1).bind fun d st2 => fPart (.str l) d st2
  | _ => .no
theorem part_ok (l : List Nat) (c : Nat) : Txt.partition (S1 l) (S1 [c]) = match idxN c l with
    | some i => (S1 (l.take i), S1 [c], S1 (l.drop (i + 1)))
    | none => (S1 l, S1 [], S1 []) := by
  unfold Txt.partition
  cases q : idxN c l with
  | some i =>
    obtain ⟨r, e⟩ := occ_idx q
    rw [e]
    dsimp only
    have e1 : Builtin.Str.strSub (S1 l) 0 i = S1 (l.take i) := by rw [strSub_mk]; simp [S1]
    have e2 : Builtin.Str.strSub (S1 l) (i + (S1 [c]).length) (S1 l).length = S1 (l.drop (i + 1)) := by
      rw [strSub_mk]
      show (⟨((l.drop (i + 1)).take (l.length - (i + 1))).toArray⟩ : Str) = S1 (l.drop (i + 1))
      rw [List.take_of_length_le (by rw [List.length_drop]; omega)]
      rfl
    rw [e1, e2]
  | none =>
    rw [occ_no q]
    rfl
theorem den_part {o e : Expr} {mo me : Env → Sto → Rs D} {apos cpos : Pos} (ho : PE X o (tE (gx X ce fe tb) W mo)) (he : PE X e (tE (gx X ce fe tb) W me)) (hs : starEach [e] X.env = [(false, eval e X.env)] := by rfl) (hbase : attributeBase o "partition" X.env (eval o X.env) = eval o X.env := by rfl) (hline : (apos.endLine == cpos.line) = true := by rfl) :
    PE X (.Call (.Attribute o "partition" apos) [e] [] cpos) (tE (gx X ce fe tb) W (mPart mo me)) := by
  refine imE (pe_partition ho he hs hbase hline) fun σ H Q ⟨π, env, st, E, S, h⟩ => ?_
  refine bindG E S h fun π1 H1 v d st1 e1 E1 S1' r1 h1 => ?_
  cases d with
  | str l =>
    refine ⟨⟨_, r1⟩, ?_⟩
    refine bindG E1 S1' h1 fun π2 H2 w dw st2 e2 E2 S2 r2 h2 => ?_
    cases dw <;> first | (exact h2.elim) | skip
    rename_i l2
    rcases l2 with _ | ⟨c, _ | ⟨c2, l3⟩⟩
    · exact h2.elim
    · unfold fPart at h2
      dsimp only at h2
      split at h2
      · rename_i hz
        refine ⟨Dn.S1 l, Dn.S1 [c], r1, by rw [show w = _ from r2]; rfl, rfl, by rw [sizeLine_eq]; exact hz, fun p hp => ?_⟩
        rw [part_ok]
        cases q : idxN c l with
        | some i =>
          rw [q] at h2
          exact Out.newT h2 S2 ⟨_, _, rfl, rfl, _, _, rfl, rfl, _, _, rfl, rfl, rfl⟩ hp
        | none =>
          rw [q] at h2
          exact Out.newT h2 S2 ⟨_, _, rfl, rfl, _, _, rfl, rfl, _, _, rfl, rfl, rfl⟩ hp
      · exact h2.elim
    · exact h2.elim
  | _ => exact h1.elim

/-! ### text.find(sign, begin) -/
def findN (c : Nat) (l : List Nat) (i : Int) : Int := match idxN c (l.drop (PySem.fromIndex l.length i)) with
  | some k => ((PySem.fromIndex l.length i + k : Nat) : Int)
  | none => -1
theorem idxN_none (c : Nat) : ∀ {l : List Nat}, idxN c l = none → ∀ j : Nat, l[j]? ≠ some c
  | [], _, j => fun z => by simp at z
  | x :: xs, h, j => by
    unfold idxN at h
    split at h
    · cases h
    · rename_i e
      split at h
      · cases h
      · rename_i q
        cases j with
        | zero => exact fun z => e (Option.some.inj z)
        | succ j => exact idxN_none c q j
theorem find_ok (c : Nat) (l : List Nat) (i : Int) : Txt.find3 (S1 l) (S1 [c]) i = findN c l i := by
  unfold Txt.find3 findN
  show (match Builtin.Str.occurrences (S1 l) (S1 [c]) (PySem.fromIndex l.length i) (S1 l).length 1 with | k :: _ => (k : Int) | [] => -1) = _
  generalize PySem.fromIndex l.length i = lo
  have sa : ∀ j, StrLaws.At (Dn.S1 l) (Dn.S1 [c]) (Dn.S1 l).length j ↔ l[j]? = some c := fun j => StrLaws.subAt_one (Dn.S1 l) c j
  rcases StrLaws.occ_head_from (S1 l) (S1 [c]) lo 1 (Nat.le_refl 1) with ⟨e, hn⟩ | ⟨j, r, e, hlo, aj, bj⟩
  · rw [e]
    cases q : idxN c (l.drop lo) with
    | none => rfl
    | some k =>
      obtain ⟨a, _⟩ := idxN_ok c q
      rw [List.getElem?_drop] at a
      exact absurd ((sa (lo + k)).mpr a) (hn (lo + k) (by omega))
  · rw [e]
    dsimp only
    cases q : idxN c (l.drop lo) with
    | none =>
      have := idxN_none c q (j - lo)
      rw [List.getElem?_drop, show lo + (j - lo) = j by omega] at this
      exact absurd ((sa j).mp aj) this
    | some k =>
      obtain ⟨a, b⟩ := idxN_ok c q
      rw [List.getElem?_drop] at a
      have : lo + k = j := by
        rcases Nat.lt_trichotomy (lo + k) j with z | z | z
        · exact absurd ((sa (lo + k)).mpr a) (bj _ (by omega) z)
        · exact z
        · have := b (j - lo) (by omega)
          rw [List.getElem?_drop, show lo + (j - lo) = j by omega] at this
          exact absurd ((sa j).mp aj) this
      show (j : Int) = ((lo + k : Nat) : Int)
      rw [this]
def fFind (a b i : D) (st : Sto) : Rs D := match a, b, i with
  | .str l, .str [c], .int i => .ok (.int (findN c l i)) st
  | _, _, _ => .no
def mFind (mo : Env → Sto → Rs D) (ml : Env → Sto → Rs (List D)) : Env → Sto → Rs D := fun env st => (mo env st).bind fun o st1 => match o with
  | .str l => (ml env st1).bind fun ds st2 => match ds with
    | [b, i] => fFind (.str l) b i st2
    | _ => .no
  | _ => .no
theorem den_find {o e e2 : Expr} {mo : Env → Sto → Rs D} {ml : Env → Sto → Rs (List D)} {apos cpos : Pos} (ho : PE X o (tE (gx X ce fe tb) W mo)) (ha : PA X [e, e2] (tL (gx X ce fe tb) W ml)) (hbase : attributeBase o "find" X.env (eval o X.env) = eval o X.env := by rfl)
    (hfew : ((backTo cpos (starEach [e, e2] X.env)).all (fun x => !x.1) && (backToKw cpos (keywordEach [] X.env)).all (fun x => x.1.isSome)
      && decide ([e, e2].length + ([] : List Keyword).length + (if ([] : List Keyword).isEmpty then 0 else 1) < 30)) = true := by rfl)
    (hline : (apos.endLine == cpos.line) = true := by rfl) (hs : starEach [e, e2] X.env = (false, eval e X.env) :: starEach [e2] X.env := by rfl) (hplain : (backTo cpos (starEach [e2] X.env)).any (·.1) = false := by rfl) :
    PE X (.Call (.Attribute o "find" apos) [e, e2] [] cpos) (tE (gx X ce fe tb) W (mFind mo ml)) := by
  refine imE (pe_bmS PySem.F.plainAttrs_str PySem.F.slot_str_find PySem.F.type_str_find mt_find3.toS ho ha hbase hfew hline hs hplain) fun σ H Q ⟨π, env, st, E, S, h⟩ => ?_
  refine bindG E S h fun π1 H1 v d st1 e1 E1 S1' r1 h1 => ?_
  cases d with
  | str l =>
    have ty : tyV X.K "str" v H1 := by
      rw [show v = _ from r1]; exact rfl
    refine ⟨ty, ?_⟩
    refine bindG E1 S1' h1 fun π2 H2 ws ds st2 e2 E2 S2 r2 h2 => ?_
    split at h2
    · rename_i b i
      cases b <;> first | (exact h2.elim) | skip
      rename_i lb
      rcases lb with _ | ⟨c, _ | ⟨c2, l3⟩⟩
      · exact h2.elim
      · cases i <;> first | (exact h2.elim) | skip
        rename_i i'
        obtain ⟨w1, wr, rfl, q1, w2, wr2, rfl, q2, q3⟩ := r2
        rw [show wr2 = [] from q3]
        refine ⟨Dn.S1 l, Dn.S1 [c], i', r1, by rw [show w1 = _ from q1, show w2 = _ from q2]; rfl, ?_⟩
        rw [find_ok]
        exact h2.now S2 rfl
      · exact h2.elim
    · exact h2.elim
  | _ => exact h1.elim

/-! ### int(text of figures) -/
def rIntA : List V → Hp → VK → Prop := fun xs H Q => ((∃ i, xs = [.int i] ∧ Q (.int i) H) ∨ ∃ k, xs = [.bl k] ∧ Q (.int (if k then 1 else 0)) H) ∨ (∃ (a : Str) (n : Int), xs = [.str a] ∧ PySem.intText? a = some n ∧ a.length ≤ 640 ∧ Q (.int n) H)
theorem call_intA : CallR X (.type "int") rIntA := fun pins s σ H xs us Q I r h => h.elim (fun h => call_int1 pins s σ H xs us Q I r h) (fun h => call_int_str pins s σ H xs us Q I r h)
def decV : Nat → List Nat → Option Nat
  | a, [] => some a
  | a, c :: cs => if 48 ≤ c ∧ c ≤ 57 then decV (a * 10 + (c - 48)) cs else none
def fIntA (ds : List D) (st : Sto) : Rs D := match ds with
  | [.int i] => .ok (.int i) st
  | [.bl k] => .ok (.int (if k then 1 else 0)) st
  | [.str (c :: l)] => if l.length < 600 then (match decV 0 (c :: l) with
    | some n => .ok (.int ((n : Nat) : Int)) st
    | none => .no) else .no
  | _ => .no
theorem decV_ok : ∀ {l : List Nat} {a n : Nat}, decV a l = some n → PySem.NumText.AllDigits l ∧ l.foldl (fun acc c => acc * 10 + (c - 48)) a = n
  | [], a, n, h => by
    cases h
    refine ⟨fun c hc => ?_, rfl⟩
    cases hc
  | c :: cs, a, n, h => by
    unfold decV at h
    split at h
    · rename_i hc
      obtain ⟨p, q⟩ := decV_ok h
      exact ⟨fun d hd => by
        rcases List.mem_cons.mp hd with rfl | hd
        · exact hc
        · exact p d hd, q⟩
    · cases h
open PySem.NumText PySem.W in
theorem o_intA {Γ : Gm} : OpN Γ rIntA fIntA := fun W σ π H vs ds st Q S r h => by
  unfold fIntA at h
  split at h
  · rename_i i
    obtain ⟨v, rfl, rv⟩ := r.one'
    exact .inl (.inl ⟨i, by rw [show v = _ from rv], h.now S rfl⟩)
  · rename_i k
    obtain ⟨v, rfl, rv⟩ := r.one'
    exact .inl (.inr ⟨k, by rw [show v = _ from rv], h.now S rfl⟩)
  · rename_i c l
    split at h
    · rename_i hz
      split at h
      · rename_i n q
        obtain ⟨v, rfl, rv⟩ := r.one'
        obtain ⟨p, e⟩ := decV_ok q
        have hl : (⟨⟨c :: l⟩⟩ : Str).length = l.length + 1 := rfl
        have := intText_digits (x := ⟨⟨c :: l⟩⟩) p (by simp) (by rw [hl]; omega)
        rw [show PySem.NumText.digitsVal (⟨⟨c :: l⟩⟩ : Str).cps.toList = n from e] at this
        exact .inr ⟨⟨⟨c :: l⟩⟩, n, by rw [show v = _ from rv], this, by rw [hl]; omega, h.now S rfl⟩
      · exact h.elim
    · exact h.elim
  · exact h.elim
end
end Dn
end

section
set_option Elab.async false
set_option linter.all false
set_option maxRecDepth 100000
set_option maxHeartbeats 1000000
/-! places of the store that a call leaves behind are dropped where nothing leads to them -/
namespace Dn
open PySem PySem.Spec PyProof.Rows L2
mutual
def renD (f : Nat → Option Nat) : D → Option D
  | .cell m => match f m with
    | some k => some (.cell k)
    | none => none
  | .dic m => match f m with
    | some k => some (.dic k)
    | none => none
  | .tup xs => match renL f xs with
    | some ys => some (.tup ys)
    | none => none
  | .lst xs => match renL f xs with
    | some ys => some (.lst ys)
    | none => none
  | .rol xs => match renL f xs with
    | some ys => some (.rol ys)
    | none => none
  | .ktp xs => match renL f xs with
    | some ys => some (.ktp ys)
    | none => none
  | .xo c d => match renD f d with
    | some e => some (.xo c e)
    | none => none
  | .non => some .non
  | .bl b => some (.bl b)
  | .int i => some (.int i)
  | .str s => some (.str s)
  | .xz c => some (.xz c)
def renL (f : Nat → Option Nat) : List D → Option (List D)
  | [] => some []
  | d :: ds => match renD f d with
    | some e => (match renL f ds with
      | some es => some (e :: es)
      | none => none)
    | none => none
end
mutual
def idsD : D → List Nat → List Nat
  | .cell m, r => m :: r
  | .dic m, r => m :: r
  | .tup xs, r => idsL xs r
  | .lst xs, r => idsL xs r
  | .rol xs, r => idsL xs r
  | .ktp xs, r => idsL xs r
  | .xo _ d, r => idsD d r
  | .non, r => r
  | .bl _, r => r
  | .int _, r => r
  | .str _, r => r
  | .xz _, r => r
def idsL : List D → List Nat → List Nat
  | [], r => r
  | d :: ds, r => idsD d (idsL ds r)
end
def idsC : Cell → List Nat → List Nat
  | .lst xs, r => idsL xs r
  | .dK kvs, r => idsL (kvs.map Prod.snd) r
  | .dT kvs, r => idsL (kvs.map Prod.snd) r
def idsS : Sto → List Nat
  | [] => []
  | c :: cs => idsC c (idsS cs)
def renC (f : Nat → Option Nat) : Cell → Option Cell
  | .lst xs => match renL f xs with
    | some ys => some (.lst ys)
    | none => none
  | .dK kvs => match renL f (kvs.map Prod.snd) with
    | some ys => some (.dK ((kvs.map Prod.fst).zip ys))
    | none => none
  | .dT kvs => match renL f (kvs.map Prod.snd) with
    | some ys => some (.dT ((kvs.map Prod.fst).zip ys))
    | none => none
/-- the places that are led to, from n on -/
def clo (n : Nat) (st : Sto) : Nat → List Nat → List Nat → List Nat
  | 0, _, acc => acc
  | _ + 1, [], acc => acc
  | k + 1, m :: ms, acc => if m < n || acc.contains m then clo n st k ms acc else match st[m]? with
    | some c => clo n st k (idsC c ms) (acc ++ [m])
    | none => acc
def renS (f : Nat → Option Nat) (st : Sto) : List Nat → Option Sto
  | [] => some []
  | m :: ms => match st[m]? with
    | some c => (match renC f c with
      | some c' => (match renS f st ms with
        | some cs => some (c' :: cs)
        | none => none)
      | none => none)
    | none => none
def gcT (n : Nat) (d : D) (st : Sto) : Option (D × Sto) :=
  let ix := List.range n ++ clo n st 200 (idsD d (idsS (st.take n))) []
  if decide ix.Nodup then
    match renD (fun m => idxN m ix) d with
    | some d' => (match renS (fun m => idxN m ix) st ix with
      | some st' => some (d', st')
      | none => none)
    | none => none
  else none
def gcR (n : Nat) (r : Rs D) : Rs D := match r with
  | .ok d st => (match gcT n d st with
    | some (d', st') => .ok d' st'
    | none => .ok d st)
  | .ex x st => (match x.arg with
    | none => (match gcT n .non st with
      | some (_, st') => .ex x st'
      | none => .ex x st)
    | some d => (match gcT n d st with
      | some (d', st') => .ex ⟨x.c, some d'⟩ st'
      | none => .ex x st))
  | .no => .no
def gcF (F : List D → Sto → Rs D) : List D → Sto → Rs D := fun ds st => gcR st.length (F ds st)

section
variable {Γ : Gm} {π π' : Pl} {H : Hp}
/-- places are told by other numbers -/
structure Rn (f : Nat → Option Nat) (π π' : Pl) : Prop where
  fr : ∀ p, π.F p → π'.F p
  at_ : ∀ m k p, f m = some k → π.ρ[m]? = some p → π'.ρ[k]? = some p ∧ π'.δ p = π.δ p
mutual
theorem ren_ok {f : Nat → Option Nat} (R : Rn f π π') : ∀ {v : V} {d d' : D}, Rep Γ π H v d → renD f d = some d' → Rep Γ π' H v d'
  | v, .cell m, d', ⟨p, a, b, c⟩, h => by
    unfold renD at h
    split at h
    · rename_i k e
      cases h
      obtain ⟨x, y⟩ := R.at_ m k p e b
      exact ⟨p, a, x, y.trans c⟩
    · cases h
  | v, .dic m, d', ⟨p, a, b, c⟩, h => by
    unfold renD at h
    split at h
    · rename_i k e
      cases h
      obtain ⟨x, y⟩ := R.at_ m k p e b
      exact ⟨p, a, x, y.trans c⟩
    · cases h
  | v, .tup xs, d', ⟨p, vs, a, b, c⟩, h => by
    unfold renD at h
    split at h
    · rename_i ys e
      cases h
      exact ⟨p, vs, a, b, renL_ok R c e⟩
    · cases h
  | v, .ktp xs, d', ⟨p, vs, a, b, c⟩, h => by
    unfold renD at h
    split at h
    · rename_i ys e
      cases h
      exact ⟨p, vs, a, b, renL_ok R c e⟩
    · cases h
  | v, .lst xs, d', ⟨p, vs, a, b, n, c⟩, h => by
    unfold renD at h
    split at h
    · rename_i ys e
      cases h
      exact ⟨p, vs, a, b, R.fr p n, renL_ok R c e⟩
    · cases h
  | v, .rol xs, d', ⟨p, vs, a, b, c⟩, h => by
    unfold renD at h
    split at h
    · rename_i ys e
      cases h
      refine ⟨p, vs, a, ?_, renL_ok R c e⟩
      rcases b with (b | ⟨b, q⟩) | b
      · exact .inl (.inl b)
      · exact .inl (.inr ⟨b, R.fr p q⟩)
      · exact .inr b
    · cases h
  | v, .xo c d, d', ⟨p, C, dd, w, a, b, x, y, r⟩, h => by
    unfold renD at h
    split at h
    · rename_i e' e
      cases h
      exact ⟨p, C, dd, w, a, b, x, y, ren_ok R r e⟩
    · cases h
  | v, .non, d', r, h => by unfold renD at h; cases h; exact r
  | v, .bl _, d', r, h => by unfold renD at h; cases h; exact r
  | v, .int _, d', r, h => by unfold renD at h; cases h; exact r
  | v, .str _, d', r, h => by unfold renD at h; cases h; exact r
  | v, .xz _, d', r, h => by unfold renD at h; cases h; exact r
theorem renL_ok {f : Nat → Option Nat} (R : Rn f π π') : ∀ {vs : List V} {ds ds' : List D}, RepL Γ π H vs ds → renL f ds = some ds' → RepL Γ π' H vs ds'
  | vs, [], ds', r, h => by unfold renL at h; cases h; exact r
  | vs, d :: ds, ds', ⟨v, vr, a, b, c⟩, h => by
    unfold renL at h
    split at h
    · rename_i e q
      split at h
      · rename_i es q2
        cases h
        exact ⟨v, vr, a, ren_ok R b q, renL_ok R c q2⟩
      · cases h
    · cases h
end
theorem renL_len {f : Nat → Option Nat} : ∀ {ds ds' : List D}, renL f ds = some ds' → ds'.length = ds.length
  | [], ds', h => by unfold renL at h; cases h; rfl
  | d :: ds, ds', h => by
    unfold renL at h
    split at h
    · split at h
      · rename_i es q2
        cases h
        rw [List.length_cons, List.length_cons, renL_len q2]
      · cases h
    · cases h
theorem kv_ren {κ : Type} {f : Nat → Option Nat} (R : Rn f π π') {ws : List (κ × V)} {kvs : List (κ × D)} {ys : List D} (h : KvR Γ π H ws kvs) (e : renL f (kvs.map Prod.snd) = some ys) : KvR Γ π' H ws ((kvs.map Prod.fst).zip ys) := by
  have hl := renL_len e
  rw [List.length_map] at hl
  refine ⟨?_, ?_⟩
  · rw [h.1, List.map_fst_zip (by rw [List.length_map]; omega)]
  · rw [List.map_snd_zip (by rw [List.length_map]; omega)]
    exact renL_ok R h.2 e
theorem cell_ren {f : Nat → Option Nat} (R : Rn f π π') {p : Addr} {c c' : Cell} (hd : π'.δ p = π.δ p) (h : CellR Γ π H p c) (e : renC f c = some c') : CellR Γ π' H p c' := by
  cases c with
  | lst xs =>
    unfold renC at e
    dsimp only at e
    split at e
    · rename_i ys q
      cases e
      obtain ⟨a, vs, b, r⟩ := h
      exact ⟨hd.trans a, vs, b, renL_ok R r q⟩
    · cases e
  | dK kvs =>
    unfold renC at e
    dsimp only at e
    split at e
    · rename_i ys q
      cases e
      obtain ⟨a, vs, b, r⟩ := h
      exact ⟨hd.trans a, vs, b, kv_ren R r q⟩
    · cases e
  | dT kvs =>
    unfold renC at e
    dsimp only at e
    split at e
    · rename_i ys q
      cases e
      obtain ⟨a, vs, b, r⟩ := h
      exact ⟨hd.trans a, vs, b, kv_ren R r q⟩
    · cases e
theorem renS_ok {f : Nat → Option Nat} {st : Sto} : ∀ {ix : List Nat} {st' : Sto}, renS f st ix = some st' → st'.length = ix.length ∧ ∀ (k m : Nat), ix[k]? = some m → ∃ c c', st[m]? = some c ∧ renC f c = some c' ∧ st'[k]? = some c'
  | [], st', h => by
    unfold renS at h
    cases h
    exact ⟨rfl, fun k m q => by simp at q⟩
  | m :: ms, st', h => by
    unfold renS at h
    split at h
    · rename_i c e
      split at h
      · rename_i c' e2
        split at h
        · rename_i cs e3
          cases h
          obtain ⟨a, b⟩ := renS_ok e3
          refine ⟨by rw [List.length_cons, List.length_cons, a], fun k j q => ?_⟩
          cases k with
          | zero =>
            cases q
            exact ⟨c, c', e, e2, rfl⟩
          | succ k => exact b k j q
        · cases h
      · cases h
    · cases h
/-- the places' addresses, by the new numbers -/
def Pl.ix (π : Pl) (ix : List Nat) : Pl := ⟨ix.map (fun m => π.ρ.getD m 0), π.F, fun p => π.δ p && decide (p ∈ ix.map (fun m => π.ρ.getD m 0))⟩
theorem getD_of {l : List Addr} {m : Nat} {p : Addr} (h : l[m]? = some p) : l.getD m 0 = p := by
  rw [List.getD_eq_getElem?_getD, h]; rfl
theorem rn_ix (ix : List Nat) : Rn (fun m => idxN m ix) π (π.ix ix) where
  fr := fun p h => h
  at_ := fun m k p h e => by
    have h1 := (idxN_ok m h).1
    have h2 : (ix.map (fun m => π.ρ.getD m 0))[k]? = some p := by
      rw [List.getElem?_map, h1, Option.map_some, getD_of e]
    refine ⟨h2, ?_⟩
    show (π.δ p && decide (p ∈ ix.map (fun m => π.ρ.getD m 0))) = π.δ p
    rw [decide_eq_true (List.mem_of_getElem? h2), Bool.and_true]
theorem st_ix {st st' : Sto} {ix : List Nat} (S : StR Γ π H st) (hn : ix.Nodup) (h : renS (fun m => idxN m ix) st ix = some st') : StR Γ (π.ix ix) H st' := by
  obtain ⟨hl, hc⟩ := renS_ok h
  have at1 : ∀ m, m ∈ ix → ∃ p, π.ρ[m]? = some p := fun m hm => by
    obtain ⟨k, hk, e⟩ := List.getElem_of_mem hm
    obtain ⟨c, c', q, _⟩ := hc k m (by rw [List.getElem?_eq_getElem hk, e])
    have := (List.getElem?_eq_some_iff.mp q).1
    rw [← S.len] at this
    exact ⟨_, List.getElem?_eq_getElem this⟩
  refine ⟨?_, ?_, ?_, ?_, S.tab, ?_⟩
  · show (ix.map (fun m => π.ρ.getD m 0)).Nodup
    refine List.pairwise_iff_getElem.mpr fun i j hi hj hij => ?_
    rw [List.length_map] at hi hj
    rw [List.getElem_map, List.getElem_map]
    obtain ⟨p, hp⟩ := at1 ix[i] (List.getElem_mem _)
    obtain ⟨q, hq⟩ := at1 ix[j] (List.getElem_mem _)
    rw [getD_of hp, getD_of hq]
    intro z
    cases z
    have h1 := List.getElem?_eq_some_iff.mp hp
    have h2 := List.getElem?_eq_some_iff.mp hq
    have := (List.getElem_inj S.nd).mp (h1.2.trans h2.2.symm)
    have := (List.getElem_inj hn).mp this
    omega
  · show (ix.map (fun m => π.ρ.getD m 0)).length = st'.length
    rw [List.length_map, hl]
  · intro k p c h1 h2
    have h1 : (ix.map (fun m => π.ρ.getD m 0))[k]? = some p := h1
    rw [List.getElem?_map] at h1
    cases e : ix[k]? with
    | none => rw [e] at h1; cases h1
    | some m =>
      rw [e] at h1
      obtain ⟨c1, c2, q1, q2, q3⟩ := hc k m e
      rw [q3] at h2
      cases h2
      obtain ⟨p', hp'⟩ := at1 m (List.mem_of_getElem? e)
      have ep : p' = p := by
        have z : π.ρ.getD m 0 = p := Option.some.inj h1
        rw [← z, getD_of hp']
      subst ep
      refine cell_ren (rn_ix ix) ?_ (S.at_ m p' c1 hp' q1) q2
      show (π.δ p' && decide (p' ∈ ix.map (fun m => π.ρ.getD m 0))) = π.δ p'
      have : p' ∈ ix.map (fun m => π.ρ.getD m 0) := List.mem_map.mpr ⟨m, List.mem_of_getElem? e, getD_of hp'⟩
      rw [decide_eq_true this, Bool.and_true]
  · intro p hf
    obtain ⟨a, b⟩ := S.frz p hf
    refine ⟨fun z => ?_, b⟩
    obtain ⟨m, hm, e⟩ := List.mem_map.mp z
    obtain ⟨q, hq⟩ := at1 m hm
    rw [getD_of hq] at e
    subst e
    exact a (List.mem_of_getElem? hq)
  · intro p hp
    have hp : (π.δ p && decide (p ∈ ix.map (fun m => π.ρ.getD m 0))) = true := hp
    rw [Bool.and_eq_true, decide_eq_true_eq] at hp
    exact hp.2
theorem ext_ix {π0 : Pl} {H0 : Hp} {ks : List Nat} {st st' : Sto} (e : Ext π0 H0 π H) (S : StR Γ π H st) (h : renS (fun m => idxN m (List.range π0.ρ.length ++ ks)) st (List.range π0.ρ.length ++ ks) = some st') : Ext π0 H0 (π.ix (List.range π0.ρ.length ++ ks)) H := by
  have pre : ∀ (n : Nat) (p : Addr), π0.ρ[n]? = some p → ((List.range π0.ρ.length ++ ks).map (fun m => π.ρ.getD m 0))[n]? = some p := fun n p hp => by
    have hn := (List.getElem?_eq_some_iff.mp hp).1
    rw [List.getElem?_map, List.getElem?_append_left (by rw [List.length_range]; exact hn), List.getElem?_range hn, Option.map_some, getD_of (e.pre n p hp)]
  exact { fix := e.fix, frz := e.frz, fr := e.fr, keep := e.keep, there := e.there, newF := e.newF, pre := pre
          kd := fun n p hp => by
            show (π.δ p && decide (p ∈ (List.range π0.ρ.length ++ ks).map (fun m => π.ρ.getD m 0))) = π0.δ p
            rw [decide_eq_true (List.mem_of_getElem? (pre n p hp)), Bool.and_true, e.kd n p hp]
          newR := fun q hq => by
            obtain ⟨m, hm, z⟩ := List.mem_map.mp hq
            obtain ⟨k, hk, e2⟩ := List.getElem_of_mem hm
            obtain ⟨c, c', q1, _⟩ := (renS_ok h).2 k m (by rw [List.getElem?_eq_getElem hk, e2])
            have hl := (List.getElem?_eq_some_iff.mp q1).1
            rw [← S.len] at hl
            rw [getD_of (List.getElem?_eq_getElem hl)] at z
            subst z
            exact e.newR _ (List.getElem_mem hl) }
theorem gcT_ok {π0 : Pl} {H0 : Hp} {n : Nat} {d d' : D} {st st' : Sto} (hn : π0.ρ.length = n) (e : Ext π0 H0 π H) (S : StR Γ π H st) (h : gcT n d st = some (d', st')) :
    ∃ π2, Ext π0 H0 π2 H ∧ StR Γ π2 H st' ∧ ∀ v, Rep Γ π H v d → Rep Γ π2 H v d' := by
  subst hn
  unfold gcT at h
  dsimp only at h
  generalize clo π0.ρ.length st 200 (idsD d (idsS (st.take π0.ρ.length))) [] = ks at h
  split at h
  · rename_i hnd
    split at h
    · rename_i d1 e1
      split at h
      · rename_i st1 e2
        cases h
        exact ⟨_, ext_ix e S e2, st_ix S (of_decide_eq_true hnd) e2, fun v r => ren_ok (rn_ix _) r e1⟩
      · cases h
    · cases h
  · cases h
theorem gcR_ok {W : WX} {σ : L2.St} {r : Rs D} {st : Sto} {Q : VK} (S : StR Γ π H st) (h : Out Γ (Rep Γ) W σ π H (gcR st.length r) Q) : Out Γ (Rep Γ) W σ π H r Q := by
  cases r with
  | ok d st1 =>
    unfold gcR at h
    dsimp only at h
    split at h
    · rename_i d' st' e
      intro π1 H1 v e1 S1 r1
      obtain ⟨π2, e2, S2, k⟩ := gcT_ok (π0 := π) (H0 := H) S.len e1 S1 e
      exact h π2 H1 v e2 S2 (k v r1)
    · exact h
  | ex x st1 =>
    obtain ⟨c, arg⟩ := x
    unfold gcR at h
    dsimp only at h
    cases arg with
    | none =>
      dsimp only at h
      split at h
      · rename_i d' st' e
        intro π1 H1 cls dx e1 S1 ⟨C, r1, r2, r3⟩
        obtain ⟨π2, e2, S2, k⟩ := gcT_ok (π0 := π) (H0 := H) S.len e1 S1 e
        exact h π2 H1 cls dx e2 S2 ⟨C, r1, r2, r3⟩
      · exact h
    | some d =>
      dsimp only at h
      split at h
      · rename_i d' st' e
        intro π1 H1 cls dx e1 S1 ⟨C, r1, r2, dd, v, r3, r4, r5⟩
        obtain ⟨π2, e2, S2, k⟩ := gcT_ok (π0 := π) (H0 := H) S.len e1 S1 e
        exact h π2 H1 cls dx e2 S2 ⟨C, r1, r2, dd, v, r3, r4, k v r5⟩
      · exact h
  | no => exact h
end
theorem fn_gc {P : Program} {w : World} {K : PySem.W.Frag} {mg : Str → Option Value} {base : Heap} {CX : CXT} {Γ : Gm} {k n : Nat} {f : Addr} {fd : FuncData} {ps : List Str} {F : List D → Sto → Rs D}
    (h : FnOk P w K mg base CX k f fd ps (spM Γ n F)) : FnOk P w K mg base CX k f fd ps (spM Γ n (gcF F)) :=
  h.imp fun vs H Q E ⟨hn, π, ds, st, S, r, o⟩ => ⟨hn, π, ds, st, S, r, gcR_ok S o⟩
end Dn
end

section
set_option Elab.async false
set_option linter.all false
set_option maxRecDepth 100000
set_option maxHeartbeats 4000000
/-! enumerate(zip(a, b)) -/
namespace Dn
open PySem PySem.Spec PyProof.Rows L2
open RZ
section
variable {prog : Program} {w : World} {A : Around} {E : Value → Shared → Prop} {s : Shared}
/-- a zip object: what it keeps of its last pair, whether it was seen elsewhere -/
abbrev ZB (h : Heap) (z TI TO : Addr) (f0 : Value) (b : Bool) : Prop :=
  h.get? z = some ({ cls := .type "zip", dict := none, data := .fields #[f0, .bool b, .bool false, .ref TI, .ref TO], slots := #[] } : Obj)
def ZA (h : Heap) (z TI TO : Addr) : Prop := ∃ f0 b, (f0 = Value.none ∨ ∃ r : Addr, f0 = rawInt r) ∧ ZB h z TI TO f0 b ∧ ∃ x y, IsPair h TO x y
theorem zipF_next_item {c1 c2 : Bool} {z TI TO i1 i2 l1 l2 : Addr} {k1 k2 : Nat} {xs ys : Array Value} {x y a b f0 : Value} {fb : Bool} {Q : Value → Shared → Prop} (D : ZipApart z TI TO i1 i2 l1 l2)
    (hz : ZB s.heap z TI TO f0 fb) (hfree : ∀ Q : Bool → Shared → Prop, Q true s → wpAny (model prog w) A (Builtin.SmallTypes.ownedTupleIsFree (.ref z)) Q E s) (hTI : IsPair s.heap TI (.ref i1) (.ref i2)) (hTO : IsPair s.heap TO a b)
    (h1 : ItH c1 s.heap i1 l1 k1) (h2 : ItH c2 s.heap i2 l2 k2) (hl1 : SqH c1 s.heap l1 xs) (hl2 : SqH c2 s.heap l2 ys) (hx : xs[k1]? = some x) (hy : ys[k2]? = some y)
    (hQ : ∀ h', ZB h' z TI TO (rawInt s.heap.objs.size) false → IsPair h' TO x y → ItH c1 h' i1 l1 (k1 + 1) → ItH c2 h' i2 l2 (k2 + 1) → IsPair h' s.heap.objs.size x y → h'.objs.size = s.heap.objs.size + 1 →
      (∀ c o, c ≠ z → c ≠ TO → c ≠ i1 → c ≠ i2 → s.heap.get? c = some o → h'.get? c = some o) → Q (.ref s.heap.objs.size) { s with heap := h' }) :
    wpAny (model prog w) A (Builtin.«zip.__next__» ⟨[.ref z], []⟩) (fun fin s' => ∃ v, fin = .done (.ret v) ∧ Q v s') E s := by
  show wpAny _ _ (field (.ref z) 2 >>= _) _ _ _
  refine wpAny_bind (wpAny_field hz rfl (x := .bool false) rfl ?_)
  show wpAny _ _ (field (.ref z) 3 >>= _) _ _ _
  refine wpAny_bind (wpAny_field hz rfl (x := .ref TI) rfl ?_)
  refine wpAny_bind (wpAny_seqItems hTI rfl ?_)
  show wpAny _ _ (Builtin.SmallTypes.ownedTupleIsFree (.ref z) >>= _) _ _ _
  refine wpAny_bind (hfree _ ?_)
  simp only [if_true]
  refine wpAny_bind (wpAny_rule ?_)
  refine wpAny_bind (wpAny_field hz rfl (x := .ref TO) rfl ?_)
  refine wpAny_bind (wpAny_setField_rec hz (by simp) fun h₁ hz₁ hs₁ => ?_)
  replace hz₁ : ZB h₁ z TI TO .ellipsis fb := hz₁
  refine wpAny_bind ?_
  simp only [List.zipIdx_cons, List.zipIdx_nil, List.forIn_cons, List.forIn_nil]

  refine wpAny_bind (wpAny_bind (wpAny_onRaise ?_))
  show wpAny _ _ (Builtin.SmallTypes.nextOf (.ref i1) >>= _) _ _ _
  refine wpAny_bind (nextK_item (h1.extBut hs₁.extBut D.i1z) (hl1.extBut hs₁.extBut D.l1z) hx fun h₂ h1₂ hs₂ => wpAny_pure ?_)
  have hTO₂ : IsPair h₂ TO a b := hs₂.extBut _ _ D.TOi1 (hs₁.extBut _ _ D.TOz hTO)
  refine wpAny_bind (wpAny_seqItems hTO₂ rfl ?_)
  refine wpAny_bind (wpAny_updateSeq_pair hTO₂ fun h₃ hTO₃ hs₃ => ?_)
  replace hTO₃ : IsPair h₃ TO x b := hTO₃
  refine wpAny_bind (wpAny_letGo (wpAny_pure ?_))

  refine wpAny_bind (wpAny_bind (wpAny_onRaise ?_))
  show wpAny _ _ (Builtin.SmallTypes.nextOf (.ref i2) >>= _) _ _ _
  refine wpAny_bind (nextK_item (((h2.extBut hs₁.extBut D.i2z).extBut hs₂.extBut D.i12.symm).extBut hs₃.extBut D.TOi2.symm)
    (((hl2.extBut hs₁.extBut D.l2z).extBut hs₂.extBut D.l2i1).extBut hs₃.extBut D.l2TO) hy fun h₄ h2₄ hs₄ => wpAny_pure ?_)
  have hTO₄ : IsPair h₄ TO x b := hs₄.extBut _ _ D.TOi2 hTO₃
  refine wpAny_bind (wpAny_seqItems hTO₄ rfl ?_)
  refine wpAny_bind (wpAny_updateSeq_pair hTO₄ fun h₅ hTO₅ hs₅ => ?_)
  replace hTO₅ : IsPair h₅ TO x y := hTO₅
  refine wpAny_bind (wpAny_letGo (wpAny_pure (wpAny_pure ?_)))

  refine wpAny_bind (wpAny_seqItems hTO₅ rfl ?_)
  refine wpAny_bind (wpAny_newTuple ?_)
  have hsz : h₅.objs.size = s.heap.objs.size := by rw [hs₅.1, hs₄.1, hs₃.1, hs₂.1, hs₁.1]
  have hz₅ : ZB h₅ z TI TO .ellipsis fb := hs₅.extBut _ _ D.TOz.symm (hs₄.extBut _ _ D.i2z.symm (hs₃.extBut _ _ D.TOz.symm (hs₂.extBut _ _ D.i1z.symm hz₁)))
  have hk₅ : ∀ c o, c ≠ z → c ≠ TO → c ≠ i1 → c ≠ i2 → s.heap.get? c = some o → h₅.get? c = some o := fun c o c1 c2 c3 c4 e =>
    hs₅.extBut _ _ c2 (hs₄.extBut _ _ c4 (hs₃.extBut _ _ c2 (hs₂.extBut _ _ c3 (hs₁.extBut _ _ c1 e))))
  have h1₅ : ItH c1 h₅ i1 l1 (k1 + 1) := ((h1₂.extBut hs₃.extBut D.TOi1.symm).extBut hs₄.extBut D.i12).extBut hs₅.extBut D.TOi1.symm
  have h2₅ : ItH c2 h₅ i2 l2 (k2 + 1) := h2₄.extBut hs₅.extBut D.TOi2.symm
  have hzlt : z < h₅.objs.size := Heap.lt_size hz₅
  have hTOlt : TO < h₅.objs.size := Heap.lt_size hTO₅
  have hi1lt : i1 < h₅.objs.size := by obtain ⟨_, e, _⟩ := h1₅.obj; exact Heap.lt_size e
  have hi2lt : i2 < h₅.objs.size := by obtain ⟨_, e, _⟩ := h2₅.obj; exact Heap.lt_size e
  show wpAny _ _ (Builtin.SmallTypes.ownedTupleHandOut (.ref z) (.ref h₅.objs.size) >>= _) _ _ _
  refine wpAny_bind ?_
  unfold Builtin.SmallTypes.ownedTupleHandOut
  have hz₆ : ZB (h₅.push { cls := .type "tuple", data := .seq #[x, y] }) z TI TO .ellipsis fb := Heap.get?_push_of_some _ hz₅
  refine wpAny_bind (wpAny_setField_rec hz₆ (by simp) fun h₇ hz₇ hs₇ => ?_)
  replace hz₇ : ZB h₇ z TI TO (rawInt h₅.objs.size) fb := hz₇
  refine wpAny_setField_rec hz₇ (by simp) fun h₈ hz₈ hs₈ => ?_
  replace hz₈ : ZB h₈ z TI TO (rawInt h₅.objs.size) false := hz₈
  have up : ∀ c o, c ≠ z → h₅.get? c = some o → h₈.get? c = some o := fun c o c1 e => hs₈.extBut _ _ c1 (hs₇.extBut _ _ c1 (Heap.get?_push_of_some _ e))
  have hT₈ : IsPair h₈ h₅.objs.size x y := hs₈.extBut _ _ (Nat.ne_of_gt hzlt) (hs₇.extBut _ _ (Nat.ne_of_gt hzlt) (Heap.get?_push_size _ rfl))
  have hz8 : h₈.objs.size = h₅.objs.size + 1 := by rw [hs₈.1, hs₇.1, Heap.size_push]
  rw [hsz] at hz₈ hT₈ hz8
  refine wpAny_pure ⟨_, rfl, ?_⟩
  show Q (.ref h₅.objs.size) _
  rw [hsz]
  exact hQ h₈ hz₈ (up _ _ D.TOz hTO₅) (h1₅.at fun o e => up _ o D.i1z e) (h2₅.at fun o e => up _ o D.i2z e) hT₈ hz8 fun c o c1 c2 c3 c4 e => up c o c1 (hk₅ c o c1 c2 c3 c4 e)

theorem zipF_next_end {c1 c2 : Bool} {z TI TO i1 i2 l1 l2 : Addr} {k1 k2 : Nat} {xs ys : Array Value} {a b f0 : Value} {fb : Bool} {Q : Fin → Shared → Prop} (hh : A.handled = none) (D : ZipApart z TI TO i1 i2 l1 l2)
    (hz : ZB s.heap z TI TO f0 fb) (hfree : ∀ Q : Bool → Shared → Prop, Q true s → wpAny (model prog w) A (Builtin.SmallTypes.ownedTupleIsFree (.ref z)) Q E s) (hTI : IsPair s.heap TI (.ref i1) (.ref i2)) (hTO : IsPair s.heap TO a b)
    (h1 : ItH c1 s.heap i1 l1 k1) (h2 : ItH c2 s.heap i2 l2 k2) (hl1 : SqH c1 s.heap l1 xs) (hl2 : SqH c2 s.heap l2 ys) (hend : xs[k1]? = none ∨ ys[k2]? = none)
    (hE : ∀ h' e, (∀ c o, c ≠ z → c ≠ TO → c ≠ i1 → c ≠ i2 → s.heap.get? c = some o → h'.get? c = some o) → (∃ o, h'.get? e = some o ∧ o.cls = .type "StopIteration") → E (.ref e) { s with heap := h' }) :
    wpAny (model prog w) A (Builtin.«zip.__next__» ⟨[.ref z], []⟩) Q E s := by
  show wpAny _ _ (field (.ref z) 2 >>= _) _ _ _
  refine wpAny_bind (wpAny_field hz rfl (x := .bool false) rfl ?_)
  show wpAny _ _ (field (.ref z) 3 >>= _) _ _ _
  refine wpAny_bind (wpAny_field hz rfl (x := .ref TI) rfl ?_)
  refine wpAny_bind (wpAny_seqItems hTI rfl ?_)
  show wpAny _ _ (Builtin.SmallTypes.ownedTupleIsFree (.ref z) >>= _) _ _ _
  refine wpAny_bind (hfree _ ?_)
  simp only [if_true]
  refine wpAny_bind (wpAny_rule ?_)
  refine wpAny_bind (wpAny_field hz rfl (x := .ref TO) rfl ?_)
  refine wpAny_bind (wpAny_setField_rec hz (by simp) fun h₁ hz₁ hs₁ => ?_)
  replace hz₁ : ZB h₁ z TI TO .ellipsis fb := hz₁
  refine wpAny_bind ?_
  simp only [List.zipIdx_cons, List.zipIdx_nil, List.forIn_cons, List.forIn_nil]
  refine wpAny_bind (wpAny_bind (wpAny_onRaise ?_))
  show wpAny _ _ (Builtin.SmallTypes.nextOf (.ref i1) >>= _) _ _ _
  cases hx : xs[k1]? with
  | none =>
    refine wpAny_bind (nextK_end hh (h1.extBut hs₁.extBut D.i1z) (hl1.extBut hs₁.extBut D.l1z) hx fun h₂ e hs₂ he => ?_)
    obtain ⟨oe, hoe, hce⟩ := he
    have hz₂ : ZB h₂ z TI TO .ellipsis fb := hs₂ _ _ D.i1z.symm hz₁
    have hez : e ≠ z := fun x => by subst x; rw [hz₂] at hoe; cases hoe; simp at hce
    refine wpAny_setField_rec hz₂ (by simp) fun h₃ _ hs₃ => hE h₃ e (fun c o c1 _ c3 _ x => hs₃.extBut _ _ c1 (hs₂ _ _ c3 (hs₁.extBut _ _ c1 x))) ⟨oe, hs₃.extBut _ _ hez hoe, hce⟩
  | some x =>
    have hy : ys[k2]? = none := by rcases hend with h | h; rw [hx] at h; cases h; exact h
    refine wpAny_bind (nextK_item (h1.extBut hs₁.extBut D.i1z) (hl1.extBut hs₁.extBut D.l1z) hx fun h₂ h1₂ hs₂ => wpAny_pure ?_)
    have hTO₂ : IsPair h₂ TO a b := hs₂.extBut _ _ D.TOi1 (hs₁.extBut _ _ D.TOz hTO)
    refine wpAny_bind (wpAny_seqItems hTO₂ rfl ?_)
    refine wpAny_bind (wpAny_updateSeq_pair hTO₂ fun h₃ hTO₃ hs₃ => ?_)
    refine wpAny_bind (wpAny_letGo (wpAny_pure ?_))
    refine wpAny_bind (wpAny_bind (wpAny_onRaise ?_))
    show wpAny _ _ (Builtin.SmallTypes.nextOf (.ref i2) >>= _) _ _ _
    refine wpAny_bind (nextK_end hh (((h2.extBut hs₁.extBut D.i2z).extBut hs₂.extBut D.i12.symm).extBut hs₃.extBut D.TOi2.symm)
      (((hl2.extBut hs₁.extBut D.l2z).extBut hs₂.extBut D.l2i1).extBut hs₃.extBut D.l2TO) hy fun h₄ e hs₄ he => ?_)
    obtain ⟨oe, hoe, hce⟩ := he
    have hz₄ : ZB h₄ z TI TO .ellipsis fb := hs₄ _ _ D.i2z.symm (hs₃.extBut _ _ D.TOz.symm (hs₂.extBut _ _ D.i1z.symm hz₁))
    have hez : e ≠ z := fun x => by subst x; rw [hz₄] at hoe; cases hoe; simp at hce
    refine wpAny_setField_rec hz₄ (by simp) fun h₅ _ hs₅ => hE h₅ e (fun c o c1 c2 c3 c4 x => hs₅.extBut _ _ c1 (hs₄ _ _ c4 (hs₃.extBut _ _ c2 (hs₂.extBut _ _ c3 (hs₁.extBut _ _ c1 x))))) ⟨oe, hs₅.extBut _ _ hez hoe, hce⟩


theorem zb_free {z TI TO : Addr} {f0 : Value} {b : Bool} (hz : ZB s.heap z TI TO f0 b) (h : f0 = .none ∨ ∃ r : Addr, f0 = rawInt r ∧ s.heap.get? r = none) (Q : Bool → Shared → Prop) (q : Q true s) :
    wpAny (model prog w) A (Builtin.SmallTypes.ownedTupleIsFree (.ref z)) Q E s := by
  unfold Builtin.SmallTypes.ownedTupleIsFree
  rcases h with rfl | ⟨r, rfl, hr⟩
  · exact wpAny_bind (wpAny_field hz rfl (x := .none) rfl (wpAny_pure q))
  · refine wpAny_bind (wpAny_field hz rfl (x := rawInt r) rfl ?_)
    show wpAny _ _ (loadIfAlive (r : Int).toNat >>= _) _ _ _
    rw [Int.toNat_natCast]
    refine wpAny_bind ?_
    have z : ∀ (R : Option Obj → Shared → Prop), R none s → wpAny (model prog w) A (loadIfAlive r) R E s := fun R h => by
      have h' : R (s.heap.get? r) s := by rw [hr]; exact h
      exact fun _ _ _ => h'
    refine z _ ?_
    rw [if_pos (by simp)]
    exact wpAny_pure q
theorem zb_cases (h : Heap) {f0 : Value} (hf : f0 = Value.none ∨ ∃ r : Addr, f0 = rawInt r) : (f0 = .none ∨ ∃ r : Addr, f0 = rawInt r ∧ h.get? r = none) ∨ ∃ r : Addr, f0 = rawInt r ∧ ∃ o, h.get? r = some o := by
  rcases hf with rfl | ⟨r, rfl⟩
  · exact .inl (.inl rfl)
  · cases e : h.get? r with
    | none => exact .inl (.inr ⟨r, rfl, e⟩)
    | some o => exact .inr ⟨r, rfl, o, e⟩
theorem nextZ_item {c1 c2 : Bool} {z TI TO i1 i2 l1 l2 : Addr} {k1 k2 : Nat} {xs ys : Array Value} {x y : Value} {Q : Value → Shared → Prop} (D : ZipApart z TI TO i1 i2 l1 l2)
    (hz : ZA s.heap z TI TO) (hTI : IsPair s.heap TI (.ref i1) (.ref i2))
    (h1 : ItH c1 s.heap i1 l1 k1) (h2 : ItH c2 s.heap i2 l2 k2) (hl1 : SqH c1 s.heap l1 xs) (hl2 : SqH c2 s.heap l2 ys) (hx : xs[k1]? = some x) (hy : ys[k2]? = some y)
    (hQ : ∀ h', ZA h' z TI TO → ItH c1 h' i1 l1 (k1 + 1) → ItH c2 h' i2 l2 (k2 + 1) → IsPair h' s.heap.objs.size x y → h'.objs.size = s.heap.objs.size + 1 →
      (∀ c o, c ≠ z → c ≠ TO → c ≠ i1 → c ≠ i2 → s.heap.get? c = some o → h'.get? c = some o) → Q (.ref s.heap.objs.size) { s with heap := h' }) :
    wpAny (model prog w) A (Builtin.SmallTypes.nextOf (.ref z)) Q E s := by
  obtain ⟨f0, fb, hf, hz, a, b, hTO⟩ := hz
  have hT : s.TypeIs (.ref z) "zip" := ⟨_, hz, rfl⟩
  unfold Builtin.SmallTypes.nextOf
  rcases zb_cases s.heap hf with hd | ⟨r, rfl, hr⟩
  · exact wpAny_bind (wpAny_callSpecial?_slot (name := Str.ofString "__next__") hT PySem.F.slot_zip_next
      (wpAny_call_entry PySem.F.slot_zip_next hT PySem.F.entry_zip_next
        (zipF_next_item D hz (fun Q q => zb_free hz hd Q q) hTI hTO h1 h2 hl1 hl2 hx hy fun h' a1 a2 a3 a4 a5 a6 a7 => wpAny_pure (hQ h' ⟨_, false, .inr ⟨_, rfl⟩, a1, _, _, a2⟩ a3 a4 a5 a6 a7)) (PySem.F.args_zip_next_1 _)))
  · exact wpAny_bind (wpAny_callSpecial?_slot (name := Str.ofString "__next__") hT PySem.F.slot_zip_next
      (wpAny_call_entry PySem.F.slot_zip_next hT PySem.F.entry_zip_next
        (zipO_next_item D hz hr hTI h1 h2 hl1 hl2 hx hy fun h' a1 a3 a4 a5 a6 a7 => wpAny_pure (hQ h' ⟨_, true, .inr ⟨r, rfl⟩, a1, a, b, a7 _ _ D.TOz D.TOi1 D.TOi2 hTO⟩ a3 a4 a5 a6 fun c o e1 _ e3 e4 e => a7 c o e1 e3 e4 e)) (PySem.F.args_zip_next_1 _)))
theorem nextZ_end {c1 c2 : Bool} {z TI TO i1 i2 l1 l2 : Addr} {k1 k2 : Nat} {xs ys : Array Value} {Q : Value → Shared → Prop} (hh : A.handled = none) (D : ZipApart z TI TO i1 i2 l1 l2)
    (hz : ZA s.heap z TI TO) (hTI : IsPair s.heap TI (.ref i1) (.ref i2))
    (h1 : ItH c1 s.heap i1 l1 k1) (h2 : ItH c2 s.heap i2 l2 k2) (hl1 : SqH c1 s.heap l1 xs) (hl2 : SqH c2 s.heap l2 ys) (hend : xs[k1]? = none ∨ ys[k2]? = none)
    (hE : ∀ h' e, (∀ c o, c ≠ z → c ≠ TO → c ≠ i1 → c ≠ i2 → s.heap.get? c = some o → h'.get? c = some o) → (∃ o, h'.get? e = some o ∧ o.cls = .type "StopIteration") → E (.ref e) { s with heap := h' }) :
    wpAny (model prog w) A (Builtin.SmallTypes.nextOf (.ref z)) Q E s := by
  obtain ⟨f0, fb, hf, hz, a, b, hTO⟩ := hz
  have hT : s.TypeIs (.ref z) "zip" := ⟨_, hz, rfl⟩
  unfold Builtin.SmallTypes.nextOf
  rcases zb_cases s.heap hf with hd | ⟨r, rfl, hr⟩
  · exact wpAny_bind (wpAny_callSpecial?_slot (name := Str.ofString "__next__") hT PySem.F.slot_zip_next
      (wpAny_call_entry PySem.F.slot_zip_next hT PySem.F.entry_zip_next (zipF_next_end hh D hz (fun Q q => zb_free hz hd Q q) hTI hTO h1 h2 hl1 hl2 hend hE) (PySem.F.args_zip_next_1 _)))
  · exact wpAny_bind (wpAny_callSpecial?_slot (name := Str.ofString "__next__") hT PySem.F.slot_zip_next
      (wpAny_call_entry PySem.F.slot_zip_next hT PySem.F.entry_zip_next (zipO_next_end hh D hz hr hTI h1 h2 hl1 hl2 hend fun h' e hk he => hE h' e (fun c o e1 _ e3 e4 e => hk c o e1 e3 e4 e) he) (PySem.F.args_zip_next_1 _)))
/-- an iterator held whole: what is apart -/
structure EzApart (e z TI TO i1 i2 : Addr) : Prop where
  ez : e ≠ z
  eTI : e ≠ TI
  eTO : e ≠ TO
  e1 : e ≠ i1
  e2 : e ≠ i2
theorem ZA.at {h h' : Heap} {z TI TO : Addr} (x : ZA h z TI TO) (kz : ∀ o, h.get? z = some o → h'.get? z = some o) (kt : ∀ o, h.get? TO = some o → h'.get? TO = some o) : ZA h' z TI TO := by
  obtain ⟨f0, b, hf, hz, a, b, hTO⟩ := x
  exact ⟨f0, _, hf, kz _ hz, a, b, kt _ hTO⟩
theorem enumZ_item {c1 c2 : Bool} {e z TI TO i1 i2 l1 l2 : Addr} {i : Nat} {xs ys : Array Value} {x y old : Value} {Q : Value → Shared → Prop} (D : ZipApart z TI TO i1 i2 l1 l2) (F : EzApart e z TI TO i1 i2)
    (he : IsEnum s.heap e z i old) (hz : ZA s.heap z TI TO) (hTI : IsPair s.heap TI (.ref i1) (.ref i2))
    (h1 : ItH c1 s.heap i1 l1 i) (h2 : ItH c2 s.heap i2 l2 i) (hl1 : SqH c1 s.heap l1 xs) (hl2 : SqH c2 s.heap l2 ys) (hx : xs[i]? = some x) (hy : ys[i]? = some y)
    (hQ : ∀ h', IsEnumOut h' e z ((i : Int) + 1) (.ref s.heap.objs.size) (s.heap.objs.size + 1) → ZA h' z TI TO → ItH c1 h' i1 l1 (i + 1) → ItH c2 h' i2 l2 (i + 1) → IsPair h' s.heap.objs.size x y →
      h'.get? (s.heap.objs.size + 1) = some { cls := .type "tuple", data := .seq #[.int i s.toks, .ref s.heap.objs.size] } → h'.objs.size = s.heap.objs.size + 2 →
      (∀ b o, b ≠ e → b ≠ z → b ≠ TO → b ≠ i1 → b ≠ i2 → s.heap.get? b = some o → h'.get? b = some o) → Q (.ref (s.heap.objs.size + 1)) { s with heap := h', toks := s.toks + 1 }) :
    wpAny (model prog w) A (Builtin.«enumerate.__next__» ⟨[.ref e], []⟩) (fun fin s' => ∃ v, fin = .done (.ret v) ∧ Q v s') E s := by
  obtain ⟨hp, g, d, tk, os⟩ := s
  have hel : e < hp.objs.size := Heap.lt_size he
  show wpAny _ _ (field (.ref e) 2 >>= _) _ _ _
  refine wpAny_bind (wpAny_field he rfl (x := .ref z) rfl ?_)
  refine wpAny_bind (nextZ_item D hz hTI h1 h2 hl1 hl2 hx hy fun h₁ z₁ a₁ b₁ p₁ sz₁ k₁ => ?_)
  replace sz₁ : h₁.objs.size = hp.objs.size + 1 := sz₁
  replace p₁ : IsPair h₁ hp.objs.size x y := p₁
  replace k₁ : ∀ c o, c ≠ z → c ≠ TO → c ≠ i1 → c ≠ i2 → hp.get? c = some o → h₁.get? c = some o := k₁
  show wpAny _ _ _ _ _ ⟨h₁, g, d, tk, os⟩
  have he₁ : IsEnum h₁ e z i old := k₁ _ _ F.ez F.eTO F.e1 F.e2 he
  show wpAny _ _ (field (.ref e) 3 >>= _) _ _ ⟨h₁, g, d, tk, os⟩
  refine wpAny_bind (wpAny_field he₁ rfl (x := rawInt i) rfl ?_)
  show wpAny _ _ (field (.ref e) 4 >>= _) _ _ ⟨h₁, g, d, tk, os⟩
  refine wpAny_bind (wpAny_field he₁ rfl (x := .none) rfl ?_)
  show wpAny _ _ (mkInt i >>= _) _ _ ⟨h₁, g, d, tk, os⟩
  refine wpAny_bind (wpAny_mkInt ?_)
  show wpAny _ _ (setField (.ref e) 3 (rawInt ((i : Int) + 1)) >>= _) _ _ ⟨h₁, g, d, tk + 1, os⟩
  refine wpAny_bind (wpAny_setField_rec he₁ (by simp) fun h₂ he₂ hs₂ => ?_)
  replace hs₂ : Heap.SameBut e h₁ h₂ := hs₂
  replace he₂ : IsEnum h₂ e z ((i : Int) + 1) old := he₂
  show wpAny _ _ (setField (.ref e) 4 .none >>= _) _ _ ⟨h₂, g, d, tk + 1, os⟩
  refine wpAny_bind (wpAny_setField_rec he₂ (by simp) fun h₃ he₃ hs₃ => ?_)
  replace hs₃ : Heap.SameBut e h₂ h₃ := hs₃
  replace he₃ : IsEnum h₃ e z ((i : Int) + 1) old := he₃
  show wpAny _ _ (newTuple [.int i tk, .ref hp.objs.size] >>= _) _ _ ⟨h₃, g, d, tk + 1, os⟩
  refine wpAny_bind (wpAny_newTuple ?_)
  have he₄ : IsEnum (h₃.push { cls := .type "tuple", data := .seq #[.int i tk, .ref hp.objs.size] }) e z ((i : Int) + 1) old := Heap.get?_push_of_some _ he₃
  generalize hh₄ : h₃.push { cls := .type "tuple", data := .seq #[.int i tk, .ref hp.objs.size] } = h₄ at he₄
  have hsz : h₃.objs.size = hp.objs.size + 1 := by rw [hs₃.1, hs₂.1, sz₁]
  have ht₄ : h₄.get? (hp.objs.size + 1) = some { cls := .type "tuple", data := .seq #[.int i tk, .ref hp.objs.size] } := by rw [← hh₄, ← hsz]; exact Heap.get?_push_size _ rfl
  have hz₄ : h₄.objs.size = hp.objs.size + 2 := by rw [← hh₄, Heap.size_push, hsz]
  have up : ∀ b o, b ≠ e → h₁.get? b = some o → h₄.get? b = some o := fun b o hbe hb => by
    rw [← hh₄]; exact Heap.get?_push_of_some _ (hs₃.extBut b o hbe (hs₂.extBut b o hbe hb))
  show wpAny _ _ (Builtin.SmallTypes.ownedTupleIsFree (.ref e) >>= _) _ _ ⟨h₄, g, d, tk + 1, os⟩
  rw [hsz]
  refine wpAny_bind ?_
  unfold Builtin.SmallTypes.ownedTupleIsFree
  refine wpAny_bind (wpAny_field he₄ rfl (x := .none) rfl (wpAny_pure ?_))
  simp only [if_true]
  refine wpAny_bind (wpAny_rule ?_)
  refine wpAny_bind (wpAny_field he₄ rfl (x := old) rfl ?_)
  refine wpAny_bind (wpAny_setField_rec he₄ (by simp) fun h₅ he₅ hs₅ => ?_)
  replace hs₅ : Heap.SameBut e h₄ h₅ := hs₅
  replace he₅ : IsEnum h₅ e z ((i : Int) + 1) (.ref hp.objs.size) := he₅
  show wpAny _ _ (Builtin.SmallTypes.ownedTupleHandOut (.ref e) (.ref (hp.objs.size + 1)) >>= _) _ _ ⟨h₅, g, d, tk + 1, os⟩
  refine wpAny_bind ?_
  unfold Builtin.SmallTypes.ownedTupleHandOut
  refine wpAny_bind (wpAny_setField_rec he₅ (by simp) fun h₆ he₆ hs₆ => ?_)
  replace hs₆ : Heap.SameBut e h₅ h₆ := hs₆
  replace he₆ : IsEnumOut h₆ e z ((i : Int) + 1) (.ref hp.objs.size) (hp.objs.size + 1) := he₆
  refine wpAny_setField_rec he₆ (by simp) fun h₇ he₇ hs₇ => ?_
  replace hs₇ : Heap.SameBut e h₆ h₇ := hs₇
  replace he₇ : IsEnumOut h₇ e z ((i : Int) + 1) (.ref hp.objs.size) (hp.objs.size + 1) := he₇
  have last : ∀ b o, b ≠ e → h₄.get? b = some o → h₇.get? b = some o := fun b o hbe hb => hs₇.extBut b o hbe (hs₆.extBut b o hbe (hs₅.extBut b o hbe hb))
  have all : ∀ b o, b ≠ e → h₁.get? b = some o → h₇.get? b = some o := fun b o hbe hb => last b o hbe (up b o hbe hb)
  refine wpAny_bind (wpAny_letGo (wpAny_pure ⟨_, rfl, hQ h₇ he₇ (z₁.at (fun o q => all _ o F.ez.symm q) (fun o q => all _ o F.eTO.symm q)) (a₁.at fun o q => all _ o F.e1.symm q) (b₁.at fun o q => all _ o F.e2.symm q) ?_ ?_ ?_ ?_⟩))
  · exact all _ _ (Nat.ne_of_gt hel) p₁
  · exact last _ _ (Nat.ne_of_gt (Nat.lt_succ_of_lt hel)) ht₄
  · rw [hs₇.1, hs₆.1, hs₅.1, hz₄]
  · exact fun b o a1 a2 a3 a4 a5 hb => all b o a1 (k₁ b o a2 a3 a4 a5 hb)
theorem pyNext_ez_item {c1 c2 : Bool} {e z TI TO i1 i2 l1 l2 : Addr} {i : Nat} {xs ys : Array Value} {x y old : Value} {Q : Option Value → Shared → Prop} (D : ZipApart z TI TO i1 i2 l1 l2) (F : EzApart e z TI TO i1 i2)
    (he : IsEnum s.heap e z i old) (hz : ZA s.heap z TI TO) (hTI : IsPair s.heap TI (.ref i1) (.ref i2))
    (h1 : ItH c1 s.heap i1 l1 i) (h2 : ItH c2 s.heap i2 l2 i) (hl1 : SqH c1 s.heap l1 xs) (hl2 : SqH c2 s.heap l2 ys) (hx : xs[i]? = some x) (hy : ys[i]? = some y)
    (hQ : ∀ h', IsEnumOut h' e z ((i : Int) + 1) (.ref s.heap.objs.size) (s.heap.objs.size + 1) → ZA h' z TI TO → ItH c1 h' i1 l1 (i + 1) → ItH c2 h' i2 l2 (i + 1) → IsPair h' s.heap.objs.size x y →
      h'.get? (s.heap.objs.size + 1) = some { cls := .type "tuple", data := .seq #[.int i s.toks, .ref s.heap.objs.size] } → h'.objs.size = s.heap.objs.size + 2 →
      (∀ b o, b ≠ e → b ≠ z → b ≠ TO → b ≠ i1 → b ≠ i2 → s.heap.get? b = some o → h'.get? b = some o) → Q (some (.ref (s.heap.objs.size + 1))) { s with heap := h', toks := s.toks + 1 }) :
    wpAny (model prog w) A (pyNext (.ref e)) Q E s := by
  have hT : s.TypeIs (.ref e) "enumerate" := ⟨_, he, rfl⟩
  unfold pyNext
  exact wpAny_bind (wpAny_attempt (wpAny_callSpecial?_slot (name := Str.ofString "__next__") hT PySem.F.slot_enumerate_next
    (wpAny_call_entry PySem.F.slot_enumerate_next hT PySem.F.entry_enumerate_next
      (enumZ_item D F he hz hTI h1 h2 hl1 hl2 hx hy fun h' a1 a2 a3 a4 a5 a6 a7 a8 => wpAny_pure (hQ h' a1 a2 a3 a4 a5 a6 a7 a8)) (PySem.F.args_enumerate_next_1 _))))
theorem pyNext_ez_end {c1 c2 : Bool} {e z TI TO i1 i2 l1 l2 : Addr} {i : Nat} {xs ys : Array Value} {old : Value} {Q : Option Value → Shared → Prop} (hh : A.handled = none) (D : ZipApart z TI TO i1 i2 l1 l2)
    (he : IsEnum s.heap e z i old) (hz : ZA s.heap z TI TO) (hTI : IsPair s.heap TI (.ref i1) (.ref i2))
    (h1 : ItH c1 s.heap i1 l1 i) (h2 : ItH c2 s.heap i2 l2 i) (hl1 : SqH c1 s.heap l1 xs) (hl2 : SqH c2 s.heap l2 ys) (hend : xs[i]? = none ∨ ys[i]? = none)
    (hQ : ∀ h', (∀ c o, c ≠ z → c ≠ TO → c ≠ i1 → c ≠ i2 → s.heap.get? c = some o → h'.get? c = some o) → Q none { s with heap := h' }) : wpAny (model prog w) A (pyNext (.ref e)) Q E s := by
  have hT : s.TypeIs (.ref e) "enumerate" := ⟨_, he, rfl⟩
  unfold pyNext
  refine wpAny_bind (wpAny_attempt (wpAny_callSpecial?_slot (name := Str.ofString "__next__") hT PySem.F.slot_enumerate_next
    (wpAny_call_entry PySem.F.slot_enumerate_next hT PySem.F.entry_enumerate_next ?_ (PySem.F.args_enumerate_next_1 _))))
  show wpAny _ _ (field (.ref e) 2 >>= _) _ _ _
  refine wpAny_bind (wpAny_field he rfl (x := .ref z) rfl ?_)
  refine wpAny_bind (nextZ_end hh D hz hTI h1 h2 hl1 hl2 hend fun h' x hk hx' => ?_)
  obtain ⟨o, ho, hc⟩ := hx'
  refine wpAny_bind (wpAny_isInstance (T := "StopIteration") (b := true) ⟨o, ho, hc⟩ isSubtype_stop ?_)
  exact wpAny_pure (hQ _ hk)
end
end Dn
end

section
set_option Elab.async false
set_option linter.all false
set_option maxRecDepth 100000
set_option maxHeartbeats 4000000
namespace Dn
open PySem PySem.Spec PyProof.Rows L2
open RZ
theorem meets_ez (z TI TO : Addr) (f0 : Value) :
    Meets (Builtin.«enumerate.__new__» ⟨[.type "enumerate", .ref z], []⟩) (fun _ R s => IsZip s.heap z TI TO f0 ∧
      R (.ok (.ret (.ref s.heap.objs.size))) { s with heap := s.heap.push { cls := .type "enumerate", data := .fields #[.none, .bool false, .ref z, rawInt 0, .none, .none] } }) :=
  .of_wp fun prog w A R s h => by
    obtain ⟨hp, g, d, tk, os⟩ := s; obtain ⟨hl, h⟩ := h
    have hsub := sub_enumerate
    wp_walk using AutoSeq1.wpAny_loadPart' hl
    refine wpAny_stack_any fun st => wpAny_pure ?_
    split
    · rename_i c _ _ _ _ _
      cases (c == Value.type "enumerate")
      · wp_walk using AutoSeq1.wpAny_loadPart' hl, wpAny_pyIter_zip hl
        exact ⟨_, rfl, h⟩
      · wp_walk using AutoSeq1.wpAny_loadPart' hl, wpAny_pyIter_zip hl
        exact ⟨_, rfl, h⟩
    · wp_walk using AutoSeq1.wpAny_loadPart' hl, wpAny_pyIter_zip hl
      exact ⟨_, rfl, h⟩
theorem call_ez {prog : Program} {w : World} {A : Around} {E : Value → Shared → Prop} {s : Shared} {z TI TO : Addr} {f0 : Value} {Q : Value → Shared → Prop} (hz : IsZip s.heap z TI TO f0)
    (h : ∀ h', IsEnum h' s.heap.objs.size z 0 .none → h'.objs.size = s.heap.objs.size + 1 → (∀ b o, s.heap.get? b = some o → h'.get? b = some o) → Q (.ref s.heap.objs.size) { s with heap := h' }) :
    wpAny (model prog w) A (call (.type "enumerate") [.ref z]) Q E s := by
  refine callType_new PySem.F.called_enumerate (by decide) (PySem.F.typeCall_enumerate_1 _) (PySem.F.newCall_enumerate_1 _) (fun obj => PySem.F.args_object_init_2 obj _) PySem.F.entry_enumerate_new
    (meets_ez z TI TO f0) ⟨hz, ?_⟩
  have he : IsEnum (s.heap.push { cls := .type "enumerate", data := .fields #[.none, .bool false, .ref z, rawInt 0, .none, .none] }) s.heap.objs.size z 0 .none := Heap.get?_push_size _ rfl
  exact ⟨⟨_, he, rfl⟩, h _ he (Heap.size_push ..) fun b o x => Heap.get?_push_of_some _ x⟩
/-- the pairs of the things at a and b, numbered, in new pairs -/
def ItE2 (K : PySem.W.Frag) (c1 c2 : Bool) (a b : Addr) : It :=
  ⟨fun i H => ∃ (xs ys : List V) (x y : V), SqG c1 K H a xs ∧ SqG c2 K H b ys ∧ xs[i]? = some x ∧ ys[i]? = some y,
    fun i H v H' => ∃ T U x y, v = .ref U ∧ H T = none ∧ H U = none ∧ U ≠ T ∧ H' = upd (upd H T (.tup [x, y])) U (.tup [.int (i : Nat), .ref T]) ∧ (∀ xs, SqG c1 K H a xs → xs[i]? = some x) ∧ ∀ ys, SqG c2 K H b ys → ys[i]? = some y,
    fun i H => ∃ xs ys : List V, SqG c1 K H a xs ∧ SqG c2 K H b ys ∧ (xs.length ≤ i ∨ ys.length ≤ i)⟩
theorem inv_more {X : Cx} {pins : List (Addr × Obj)} {σ : L2.St} {H : Hp} {s : Shared} {T : Addr} {ob : HO} (I : Inv X pins σ H s) (hf : FpOk X pins H T) (new : ObjOk X.prog X.w (upd H T ob) s.heap T ob) : Inv X pins σ (upd H T ob) s := by
  have hn : H T = none := hf.1
  refine I.step (h' := s.heap) (g' := s.gens) (t' := s.toks) (d' := s.drawn) (ch := [T]) (fun b hb => ?_) (fun b o _ _ hc e _ => e) (fun b o _ _ hc e _ => ⟨o.slots, e⟩)
    (fun b o hc e n => ?_) (fun b o hc e => ⟨o, e⟩) (fun b xs e => ?_) (fun b o u e => ?_) (fun b ps e => ⟨#[], ?_⟩) (fun m hm => hm) (fun b u e => ?_) I.bare
  · have z : b = T := by simpa using hb
    subst z
    exact ⟨hf.2.2.2.1, hf.2.1, hf.2.2.2.2.1, hf.2.2.2.2.2⟩
  · rw [upd_ne (fun z => hc (by simp [z]))]; exact n
  · rw [upd_ne (ne_of_none e hn)]; exact e
  · rw [upd_ne (ne_of_none e hn)]; exact e
  · rw [upd_ne (ne_of_none e hn), e]; simp
  · by_cases hb : b = T
    · subst hb
      rw [upd_same] at e
      cases e
      exact new
    · rw [upd_ne hb] at e
      exact (I.hok b u e).stay (fun c v hc q => q) (fun c q => by rw [upd_ne (ne_of_none q hn)]; exact q) fun c xs q => by rw [upd_ne (ne_of_none q hn)]; exact q
theorem turn_ez {P : Program} {w : World} {K : PySem.W.Frag} {elts : List Expr} {kk : Nat} {tpos : Pos} {c1 c2 : Bool} {a b e z TI TO i1 i2 : Addr} (D : ZipApart z TI TO i1 i2 a b) (F : EzApart e z TI TO i1 i2) :
    Turn P w K (.Tuple elts kk tpos) (ItE2 K c1 c2 a b) [e, z, TI, TO, i1, i2] e (fun i h => (∃ old, IsEnum h e z ((i : Nat) : Int) old) ∧ ZA h z TI TO ∧ IsPair h TI (.ref i1) (.ref i2) ∧ ItH c1 h i1 a i ∧ ItH c2 h i2 b i) where
  mem := by simp
  obj := fun i h st c hc => by
    obtain ⟨⟨old, he⟩, ⟨f0, fb, _, hz, x, y, hTO⟩, hTI, h1, h2⟩ := st
    obtain ⟨o1, e1, d1⟩ := h1.obj
    obtain ⟨o2, e2, d2⟩ := h2.obj
    have e' : c = e ∨ c = z ∨ c = TI ∨ c = TO ∨ c = i1 ∨ c = i2 := by simpa using hc
    rcases e' with q | q | q | q | q | q
    · rw [q]; exact ⟨_, he, fun v q => nomatch q⟩
    · rw [q]; exact ⟨_, hz, fun v q => nomatch q⟩
    · rw [q]; exact ⟨_, hTI, fun v q => nomatch q⟩
    · rw [q]; exact ⟨_, hTO, fun v q => nomatch q⟩
    · rw [q]; exact ⟨o1, e1, fun v q => by rw [d1] at q; cases q⟩
    · rw [q]; exact ⟨o2, e2, fun v q => by rw [d2] at q; cases q⟩
  keep := fun i h h' st k => by
    obtain ⟨⟨old, he⟩, hz, hTI, h1, h2⟩ := st
    exact ⟨⟨old, k e (by simp) _ he⟩, hz.at (fun o q => k z (by simp) o q) (fun o q => k TO (by simp) o q), k TI (by simp) _ hTI, h1.at fun o q => k i1 (by simp) o q, h2.at fun o q => k i2 (by simp) o q⟩
  item := by
    intro X hP hw hK hc i pins s σ H E I hf st hg
    subst hP hw hK
    obtain ⟨⟨old, he⟩, hz, hTI, h1, h2⟩ := st
    obtain ⟨xs, ys, x, y, hqx, hqy, hx, hy⟩ := hg
    obtain ⟨its, rv, p⟩ := sqG_at I hqx
    obtain ⟨its2, rv2, p2⟩ := sqG_at I hqy
    obtain ⟨u, hu, ru⟩ := rv.get hx
    obtain ⟨u2, hu2, ru2⟩ := rv2.get hy
    have hel : e < s.heap.objs.size := Heap.lt_size he
    have hlt : ∀ c ∈ [e, z, TI, TO, i1, i2], c < s.heap.objs.size := fun c hcm => by
      have e' : c = e ∨ c = z ∨ c = TI ∨ c = TO ∨ c = i1 ∨ c = i2 := by simpa using hcm
      obtain ⟨f0, fb, _, hz', x', y', hTO⟩ := hz
      rcases e' with q | q | q | q | q | q
      · rw [q]; exact hel
      · rw [q]; exact Heap.lt_size hz'
      · rw [q]; exact Heap.lt_size hTI
      · rw [q]; exact Heap.lt_size hTO
      · rw [q]; obtain ⟨_, e1, _⟩ := h1.obj; exact Heap.lt_size e1
      · rw [q]; obtain ⟨_, e2, _⟩ := h2.obj; exact Heap.lt_size e2
    refine pyNext_ez_item D F he hz hTI h1 h2 p p2 (x := u) (y := u2) (by simpa using hu) (by simpa using hu2) fun h' e' z' a' b' hT hU hsz hk => ?_
    refine ⟨_, rfl, wpAny_letOwnedTupleGo_enum (s := { s with heap := h', toks := s.toks + 1 }) e' fun h'' e'' sb => ?_⟩
    have nT : e ≠ s.heap.objs.size := Nat.ne_of_lt hel
    have nU : e ≠ s.heap.objs.size + 1 := Nat.ne_of_lt (Nat.lt_succ_of_lt hel)
    have hT2 : h''.get? s.heap.objs.size = some { cls := .type "tuple", data := .seq #[u, u2] } := (sb.2 _ nT.symm).trans hT
    have hU2 : h''.get? (s.heap.objs.size + 1) = some { cls := .type "tuple", data := .seq #[.int i s.toks, .ref s.heap.objs.size] } := (sb.2 _ nU.symm).trans hU
    have new : ObjOk X.prog X.w (upd H s.heap.objs.size (.tup [x, y])) h'' s.heap.objs.size (.tup [x, y]) :=
      ⟨by show 2 ≤ sizeLine; decide, [u, u2], .cons ru (.cons ru2 .nil), ⟨_, hT2, rfl, _, rfl⟩⟩
    have I1 : Inv X pins σ (upd H s.heap.objs.size (.tup [x, y])) { s with heap := h'', toks := s.toks + 1 } :=
      I.turnedNew (ch := [e, z, TI, TO, i1, i2]) (fun c o hb q => (sb.2 c (fun q' => hb (by simp [q']))).trans (hk c o (fun q' => hb (by simp [q'])) (fun q' => hb (by simp [q'])) (fun q' => hb (by simp [q'])) (fun q' => hb (by simp [q'])) (fun q' => hb (by simp [q'])) q)) hf (Nat.le_refl _) new
    have nHU : H (s.heap.objs.size + 1) = none := I.hok.fresh (Nat.le_succ _)
    have nHU1 : (upd H s.heap.objs.size (.tup [x, y])) (s.heap.objs.size + 1) = none := by rw [upd_ne (Nat.succ_ne_self _)]; exact nHU
    have new2 : ObjOk X.prog X.w (upd (upd H s.heap.objs.size (.tup [x, y])) (s.heap.objs.size + 1) (.tup [.int (i : Nat), .ref s.heap.objs.size])) h'' (s.heap.objs.size + 1) (.tup [.int (i : Nat), .ref s.heap.objs.size]) :=
      ⟨by show 2 ≤ sizeLine; decide, [.int i s.toks, .ref s.heap.objs.size], .cons (show RelV (.int (i : Nat)) (.int (i : Nat) s.toks) from ⟨s.toks, rfl⟩) (.cons (show RelV (.ref s.heap.objs.size) (.ref s.heap.objs.size) from rfl) .nil), ⟨_, hU2, rfl, _, rfl⟩⟩
    have I2 := inv_more (T := s.heap.objs.size + 1) (ob := .tup [.int (i : Nat), .ref s.heap.objs.size]) I1 (I.fpOk (Nat.le_succ _) nHU1) new2
    refine ⟨.ref (s.heap.objs.size + 1), _, I2, rfl, ⟨_, _, x, y, rfl, I.hok.fresh (Nat.le_refl _), nHU, Nat.succ_ne_self _, rfl, fun l hl => by rw [sqG_inj I hl hqx]; exact hx, fun l hl => by rw [sqG_inj I hl hqy]; exact hy⟩, ⟨⟨.ref s.heap.objs.size, ?_⟩, z'.at (fun o q => (sb.2 _ F.ez.symm).trans q) (fun o q => (sb.2 _ F.eTO.symm).trans q), ?_, ?_, ?_⟩, fun c hcm => ?_⟩
    · have e1 : ((i + 1 : Nat) : Int) = (i : Int) + 1 := by omega
      rw [e1]; exact e''
    · exact (sb.2 _ F.eTI.symm).trans (hk _ _ F.eTI.symm D.TIz D.TITO D.TIi1 D.TIi2 hTI)
    · exact a'.at fun o q => (sb.2 _ F.e1.symm).trans q
    · exact b'.at fun o q => (sb.2 _ F.e2.symm).trans q
    · have l := hlt c hcm
      rw [upd_ne (Nat.ne_of_lt (Nat.lt_succ_of_lt l)), upd_ne (Nat.ne_of_lt l)]
      exact (hf c hcm).1
  done := by
    intro X hP hw hK hc i pins s σ H E I hf st hg
    subst hP hw hK
    obtain ⟨⟨old, he⟩, hz, hTI, h1, h2⟩ := st
    obtain ⟨xs, ys, hqx, hqy, hend⟩ := hg
    obtain ⟨its, rv, p⟩ := sqG_at I hqx
    obtain ⟨its2, rv2, p2⟩ := sqG_at I hqy
    have l1 := rv.length
    have l2 := rv2.length
    have he' : its.toArray[i]? = none ∨ its2.toArray[i]? = none := by
      rcases hend with q | q
      · exact .inl (by simp; omega)
      · exact .inr (by simp; omega)
    exact pyNext_ez_end (I.ok.hd hc) D he hz hTI h1 h2 p p2 he' fun h' hk => ⟨rfl, I.turnedL (t' := s.toks) (ch := [e, z, TI, TO, i1, i2]) (fun c o hb q =>
      hk c o (fun q' => hb (by simp [q'])) (fun q' => hb (by simp [q'])) (fun q' => hb (by simp [q'])) (fun q' => hb (by simp [q'])) q) hf⟩
  self := fun A i s Q E st h => let ⟨⟨_, he⟩, _⟩ := st; wpAny_pyIter_enum he h
def iEz (K : PySem.W.Frag) (ta : TA) : TI := fun σ H R => ta σ H fun vs H1 => ∃ a b xs ys c1 c2, vs = [.ref a, .ref b] ∧ SqG c1 K H1 a xs ∧ SqG c2 K H1 b ys ∧ R (ItE2 K c1 c2 a b) H1
theorem pi_ez {X : Cx} {e e2 : Expr} {ta : TA} {p pos p2 pos2 tpos : Pos} {elts : List Expr} {kk : Nat} (hgd : Gl X "enumerate") (hmd : X.mg "enumerate" = none) (hg : Gl X "zip") (hm : X.mg "zip" = none) (ha : PA X [e, e2] ta)
    (hs : starEach [e, e2] X.env = (false, eval e X.env) :: starEach [e2] X.env := by rfl) (hpl : (backTo pos2 (starEach [e2] X.env)).any (·.1) = false := by rfl)
    (hs2 : starEach [.Call (.Name "zip" p2) [e, e2] [] pos2] X.env = (false, eval (.Call (.Name "zip" p2) [e, e2] [] pos2) X.env) :: starEach [] X.env := by rfl) (hpl2 : (backTo pos (starEach [] X.env)).any (·.1) = false := by rfl) :
    PI X (.Tuple elts kk tpos) (.Call (.Name "enumerate" p) [.Call (.Name "zip" p2) [e, e2] [] pos2] [] pos) (iEz X.K ta) := by
  refine ⟨fun pins s σ H R I h => ?_⟩
  refine Call_ (ld_blt I hgd hmd boot_enumerate (PyProof.Rows.callWith_type1 ?_ hs2 hpl2))
  rw [hs2]
  show wpAny _ _ (spliced ((false, eval (.Call (.Name "zip" p2) [e, e2] [] pos2) X.env) :: backTo pos (starEach [] X.env))) _ _ s
  refine Calls.spliced_cons ?_
  refine Call_ (ld_blt I hg hm PyProof.Rows.boot_zip (PyProof.Rows.callWith_type1 (thn (ha.run pos2 pins s σ H _ I h) fun us s1 ⟨vs, H1, I1, r1, q1⟩ => ?_) hs hpl))
  obtain ⟨a, b, xs, ys, c1, c2, ex, hqx, hqy, q⟩ := q1
  subst ex
  obtain ⟨_, _, rfl, ra, rb⟩ := vals2 r1
  cases ra
  cases rb
  obtain ⟨its, rv, px⟩ := sqG_at I1 hqx
  obtain ⟨its2, rv2, py⟩ := sqG_at I1 hqy
  refine call_zg px py fun h' hz hTI hTO h1 h2 hsz hk => ?_
  refine Calls.spliced_nil ?_
  refine call_ez (s := { s1 with heap := h' }) hz fun h'' he hsz2 hk2 => wpAny_pyIter_enum he ?_
  have hk3 : ∀ c o, s1.heap.get? c = some o → h''.get? c = some o := fun c o e => hk2 c o (hk c o e)
  have I2 : Inv X pins σ H1 { s1 with heap := h'' } := I1.kept (t' := s1.toks) hk3
  have hsz' : h'.objs.size = s1.heap.objs.size + 5 := hsz
  have ap := PySem.W.ktu_apart s1.heap.objs.size a b (sqG_lt I1 hqx) (sqG_lt I1 hqy)
  refine ⟨h'.objs.size, [h'.objs.size, s1.heap.objs.size + 4, s1.heap.objs.size + 2, s1.heap.objs.size + 3, s1.heap.objs.size, s1.heap.objs.size + 1], _, _, H1, rfl, I2, turn_ez ap ⟨by show h'.objs.size ≠ _; rw [hsz']; omega, by show h'.objs.size ≠ _; rw [hsz']; omega, by show h'.objs.size ≠ _; rw [hsz']; omega, by show h'.objs.size ≠ _; rw [hsz']; omega, by show h'.objs.size ≠ _; rw [hsz']; omega⟩,
    ⟨⟨.none, he⟩, ⟨.none, false, .inl rfl, hk2 _ _ hz, _, _, hk2 _ _ hTO⟩, hk2 _ _ hTI, h1.at fun o x => hk2 _ o x, h2.at fun o x => hk2 _ o x⟩, fun c hcm => ?_, q⟩
  have e' : c = h'.objs.size ∨ c = s1.heap.objs.size + 4 ∨ c = s1.heap.objs.size + 2 ∨ c = s1.heap.objs.size + 3 ∨ c = s1.heap.objs.size ∨ c = s1.heap.objs.size + 1 := by simpa using hcm
  have hle : s1.heap.objs.size ≤ c := by
    rcases e' with z | z | z | z | z | z
    · rw [z, hsz']; exact Nat.le_add_right _ _
    · rw [z]; exact Nat.le_add_right _ _
    · rw [z]; exact Nat.le_add_right _ _
    · rw [z]; exact Nat.le_add_right _ _
    · rw [z]; exact Nat.le_refl _
    · rw [z]; exact Nat.le_add_right _ _
  exact I1.fpOk hle (I1.hok.fresh hle)
theorem ez_at {a b : Src} {i : Nat} {st : Sto} {d : D} (e : (Itb.ez a b).at_ i st = some d) : ∃ x y, a.at_ i st = some x ∧ b.at_ i st = some y ∧ d = .tup [.int (i : Nat), .tup [x, y]] := by
  unfold Itb.at_ at e
  dsimp only at e
  split at e
  · rename_i x ex
    split at e
    · rename_i y ey
      exact ⟨x, y, ex, ey, (Option.some.inj e).symm⟩
    · cases e
  · cases e
theorem ez_no {a b : Src} {i : Nat} {st : Sto} (e : (Itb.ez a b).at_ i st = none) : a.at_ i st = none ∨ b.at_ i st = none := by
  unfold Itb.at_ at e
  dsimp only at e
  split at e
  · split at e
    · cases e
    · rename_i y; exact .inr y
  · rename_i x; exact .inl x
theorem itr_ez {Γ : Gm} {π : Pl} {H : Hp} {c1 c2 : Bool} {a b : Addr} {s t : Src} (h : SrcG c1 Γ π H a s) (h2 : SrcG c2 Γ π H b t) : ItR Γ π H (ItE2 Γ.K c1 c2 a b) (.ez s t) where
  go := fun π' H' st i d k S e => by
    obtain ⟨x, y, ex, ey, _⟩ := ez_at e
    obtain ⟨vs, ds, hq, rl, f⟩ := h π' H' st k S
    obtain ⟨ws, es, hq2, rl2, f2⟩ := h2 π' H' st k S
    obtain ⟨v, ev, _⟩ := rl.get (show ds[i]? = some x by rw [← f]; exact ex)
    obtain ⟨w, ew, _⟩ := rl2.get (show es[i]? = some y by rw [← f2]; exact ey)
    exact ⟨vs, ws, v, w, hq, hq2, ev, ew⟩
  stop := fun π' H' st i k S e => by
    obtain ⟨vs, ds, hq, rl, f⟩ := h π' H' st k S
    obtain ⟨ws, es, hq2, rl2, f2⟩ := h2 π' H' st k S
    refine ⟨vs, ws, hq, hq2, (ez_no e).imp (fun z => rl.none (show ds[i]? = none by rw [← f]; exact z)) fun z => rl2.none (show es[i]? = none by rw [← f2]; exact z)⟩
  yld := fun π' H' st i d x H2 k S e y => by
    obtain ⟨x0, y0, ex, ey, rfl⟩ := ez_at e
    obtain ⟨vs, ds, hq, rl, f⟩ := h π' H' st k S
    obtain ⟨ws, es, hq2, rl2, f2⟩ := h2 π' H' st k S
    obtain ⟨v, ev, rv⟩ := rl.get (show ds[i]? = some x0 by rw [← f]; exact ex)
    obtain ⟨w, ew, rw'⟩ := rl2.get (show es[i]? = some y0 by rw [← f2]; exact ey)
    obtain ⟨T, U, z1, z2, rfl, hT, hU, hUT, rfl, g1, g2⟩ := y
    have ex1 := Option.some.inj ((g1 vs hq).symm.trans ev)
    have ex2 := Option.some.inj ((g2 ws hq2).symm.trans ew)
    subst ex1; subst ex2
    obtain ⟨p1, p2, p3⟩ := pair_new S hT rv rw'
    have hU1 : (upd H' T (.tup [z1, z2])) U = none := by rw [upd_ne hUT]; exact hU
    obtain ⟨q1, q2, q3⟩ := pair_new (p3 st S) hU1 (show Rep Γ π' (upd H' T (.tup [z1, z2])) (.int (i : Nat)) (.int (i : Nat)) from rfl) p1
    exact ⟨q1, p2.trans q2, fun st' S' => q3 st' (p3 st' S')⟩
def itEZ (ds : List D) : Option Itb := match ds with
  | [a, b] => match srcG a, srcG b with
    | some (_, s), some (_, t) => some (.ez s t)
    | _, _ => none
  | _ => none
section
variable {X : Cx} {W : WX} {ce : Nat → Option Addr} {fe : Nat → Str} {tb : List Addr} {e e2 : Expr} {ml : Env → Sto → Rs (List D)} {p pos p2 pos2 tpos : Pos} {elts : List Expr} {kk : Nat}
theorem di_ez (hgd : Gl X "enumerate") (hmd : X.mg "enumerate" = none) (hg : Gl X "zip") (hm : X.mg "zip" = none) (ha : PA X [e, e2] (tL (gx X ce fe tb) W ml))
    (hs : starEach [e, e2] X.env = (false, eval e X.env) :: starEach [e2] X.env := by rfl) (hpl : (backTo pos2 (starEach [e2] X.env)).any (·.1) = false := by rfl)
    (hs2 : starEach [.Call (.Name "zip" p2) [e, e2] [] pos2] X.env = (false, eval (.Call (.Name "zip" p2) [e, e2] [] pos2) X.env) :: starEach [] X.env := by rfl) (hpl2 : (backTo pos (starEach [] X.env)).any (·.1) = false := by rfl) :
    PI X (.Tuple elts kk tpos) (.Call (.Name "enumerate" p) [.Call (.Name "zip" p2) [e, e2] [] pos2] [] pos) (tI (gx X ce fe tb) W (mIns itEZ ml)) := by
  refine imI (pi_ez hgd hmd hg hm ha hs hpl hs2 hpl2) fun σ H R q => tI_by q fun π1 H1 v d st1 it S r e rr => ?_
  unfold itEZ at e
  split at e
  · rename_i a b
    split at e
    · rename_i c1 s c2 t ea eb
      cases e
      obtain ⟨v0, vr, rfl, r1, r2⟩ := r
      obtain ⟨v1, vr2, rfl, r3, r4⟩ := r2
      rw [show vr2 = [] from r4]
      obtain ⟨p, rfl, hs⟩ := srcG_ok r1 ea
      obtain ⟨q, rfl, ht⟩ := srcG_ok r3 eb
      obtain ⟨vs, ds, hq, _⟩ := hs π1 H1 st1 Ext.refl.toKp S
      obtain ⟨ws, es, hq2, _⟩ := ht π1 H1 st1 Ext.refl.toKp S
      exact ⟨p, q, vs, ws, c1, c2, rfl, hq, hq2, rr _ (itr_ez hs ht)⟩
    · cases e
  · cases e
end
end Dn
end

section
set_option Elab.async false
set_option linter.all false
set_option maxRecDepth 100000
set_option maxHeartbeats 4000000
/-! del xs[i], del xs[i:], xs.insert(i, x), xs[i], ys[j] = pair -/
namespace Dn
open PySem PySem.Spec PyProof.Rows L2
theorem zip_take (g : Value × Nat → Option Value) (a N : Nat) : ∀ (xs : List Value) (n : Nat), n + xs.length ≤ N → (∀ x k, k < N → g (x, k) = if a ≤ k then none else some x) → (xs.zipIdx n).filterMap g = xs.take (a - n)
  | [], n, _, _ => by simp
  | x :: xs, n, hN, h => by
    rw [List.zipIdx_cons, List.filterMap_cons, h x n (by simp at hN; omega)]
    have ih := zip_take g a N xs (n + 1) (by simp at hN; omega) h
    by_cases hn : a ≤ n
    · rw [if_pos hn]
      dsimp only
      rw [ih, show a - (n + 1) = 0 by omega, show a - n = 0 by omega, List.take_zero, List.take_zero]
    · rw [if_neg hn]
      dsimp only
      rw [ih, show a - n = (a - (n + 1)) + 1 by omega, List.take_succ_cons]
theorem bounds_from {a n : Nat} (hc : a ≤ n) : sliceBounds (some (a : Int)) none none n = ((a : Int), (n : Int), 1) := by
  simp only [sliceBounds, Option.getD_none]
  have h1 : ¬ ((a : Int) < 0) := by omega
  simp only [h1, if_false, show (1 : Int) > 0 by decide, if_true]
  congr 1
  omega
section
variable {prog : Program} {w : World} {A : Around} {E : Value → Shared → Prop} {s : Shared}
theorem delItem_from {l sl : Addr} {items : Array Value} {n : Nat} {vl : Value} {a : Nat} {Q : Unit → Shared → Prop}
    (e : s.heap.get? l = some { cls := .type "list", data := .seq items n })
    (hs : s.heap.IsSliceOf sl vl .none .none) (pl : IsPart vl (some (a : Int))) (hc : a ≤ items.size)
    (hsz : items.size ≤ sizeLine) (h : ∀ f : Array Value → Array Value, f items = (items.toList.take a).toArray → Q () { s with heap := s.heap.update l (Obj.mapSeq f) }) :
    wpAny (model prog w) A (delItem (.ref l) (.ref sl)) Q E s := by
  have hl : s.heap.IsList l items := PySem.IsL.isList e
  obtain ⟨os, hos, hcs, hds⟩ := id hs
  have hTs : s.TypeIs (.ref sl) "slice" := ⟨os, hos, hcs⟩
  have hstep : ¬ ((rawPart none == rawInt 0) = true) := Bool.false_ne_true
  refine wpAny_delItem_slot hl.typeIs (by decide) PySem.F.slot_list_delitem (wpAny_call_entry PySem.F.slot_list_delitem hl.typeIs PySem.F.entry_list_delitem ?_ (PySem.F.args_list_delitem_2 _ _))
  show wpAny _ _ (Builtin.List.listSubscript? (.ref sl) >>= _) _ _ s
  refine wpAny_bind ?_
  unfold Builtin.List.listSubscript?
  refine wpAny_bind (wpAny_specialOf hTs slice_no_index ?_)
  simp only [Option.isNone_none, if_true]
  refine wpAny_pure ?_
  show wpAny _ _ (typeOf (.ref sl) >>= _) _ _ s
  refine wpAny_bind (wpAny_typeOf hTs ?_)
  first
    | rw [if_neg (by decide)]
    | refine PySem.W.KFB.if_not (by decide) ?_
  rw [listSliceParts_eq]
  refine wpAny_bind (wpAny_bind (wpAny_field hos hds (x := .none) rfl (wpAny_bind (wpAny_listPart .none ?_))))
  rw [if_neg hstep]
  refine wpAny_bind (wpAny_field hos hds (x := vl) rfl (wpAny_bind (wpAny_listPart pl ?_)))
  refine wpAny_bind (wpAny_field hos hds (x := .none) rfl (wpAny_bind (wpAny_listPart .none (wpAny_pure ?_))))
  dsimp only
  unfold Builtin.List.listItems
  refine wpAny_bind (wpAny_bind (wpAny_seqItems e rfl (wpAny_pure ?_)))
  refine wpAny_bind (wpAny_of_eq ((sliceIndices_raw (some (a : Int)) none none items.size (by simp)).trans (congrArg (pure : Int × Int × Int → Sem (Int × Int × Int)) (bounds_from hc))) ?_)
  dsimp only
  refine wpAny_bind (wpAny_rule ?_)
  have fe : ∀ g : Value × Nat → Option Value, (∀ x k, k < items.size → g (x, k) = if a ≤ k then none else some x) → (items.toList.zipIdx.filterMap g).toArray = (items.toList.take a).toArray := fun g hg => by
    rw [show items.toList.zipIdx = items.toList.zipIdx 0 from rfl, zip_take g a items.size items.toList 0 (by simp) hg, Nat.sub_zero]
  unfold Builtin.List.listUpdate
  refine wpAny_bind (wpAny_updateSeq (hz := hsz) (_hz' := ?hz') e rfl ?_)
  case hz' =>
    rw [fe _ ?sel]
    · rw [List.size_toArray, List.length_take]
      have : items.toList.length = items.size := Array.length_toList
      omega
    case sel =>
      intro x k hk
      show (if ((if (1 : Int) > 0 then (decide ((a : Int) ≤ (k : Int)) && decide ((k : Int) < (items.size : Int)) && (((k : Int) - (a : Int)) % 1 == 0)) else _) : Bool) = true then none else some x) = _
      rw [if_pos (by decide : (1 : Int) > 0)]
      have : ((k : Int) - (a : Int)) % 1 = 0 := by omega
      rw [this]
      by_cases ha : a ≤ k
      · rw [if_pos ha, decide_eq_true (by omega : (a : Int) ≤ k), decide_eq_true (by omega : (k : Int) < items.size)]; rfl
      · rw [if_neg ha, decide_eq_false (by omega : ¬ (a : Int) ≤ k)]; rfl
  refine wpAny_bind (wpAny_letGo ?_)
  have sel2 : ∀ (x : Value) (k : Nat), k < items.size → (if ((if (1 : Int) > 0 then (decide ((a : Int) ≤ (k : Int)) && decide ((k : Int) < (items.size : Int)) && (((k : Int) - (a : Int)) % 1 == 0)) else false) : Bool) = true then none else some x) = if a ≤ k then none else some x := by
    intro x k hk
    rw [if_pos (by decide : (1 : Int) > 0)]
    have : ((k : Int) - (a : Int)) % 1 = 0 := by omega
    rw [this]
    by_cases ha : a ≤ k
    · rw [if_pos ha, decide_eq_true (by omega : (a : Int) ≤ k), decide_eq_true (by omega : (k : Int) < items.size)]; rfl
    · rw [if_neg ha, decide_eq_false (by omega : ¬ (a : Int) ≤ k)]; rfl
  have pick : ∀ {f : Array Value → Array Value}, f items = (items.toList.take a).toArray → Q () { s with heap := s.heap.update l (Obj.mapSeq f) } := fun {f} hf => h f hf
  first
    | (refine wpAny_pure ⟨.none, rfl, ?_⟩
       refine pick ?_
       exact fe _ fun x k hk => sel2 x k hk)
    | (refine wpAny_bind (wpAny_pure (wpAny_pure ⟨.none, rfl, wpAny_pure ?_⟩))
       refine pick ?_
       exact fe _ fun x k hk => sel2 x k hk)
    | (refine wpAny_pure ⟨.none, rfl, wpAny_pure ?_⟩
       refine pick ?_
       exact fe _ fun x k hk => sel2 x k hk)
end
section
variable {X : Cx}
/-- del xs[a:] at the value level -/
theorem del_from {pins : List (Addr × Obj)} {s : Shared} {σ : L2.St} {H : Hp} {l sl : Addr} {xs : List V} {a : Nat} {vl : Value} {Q : Unit → Shared → Prop} (I : Inv X pins σ H s)
    (hH : H l = some (.lst xs)) (hs : s.heap.IsSliceOf sl vl .none .none) (pl : IsPart vl (some (a : Int))) (hc : a ≤ xs.length)
    (h : ∀ s', Inv X pins σ (upd H l (.lst (xs.take a))) s' → Q () s') : wpAny (model X.prog X.w) X.A (delItem (.ref l) (.ref sl)) Q X.xe s := by
  obtain ⟨z, its, n, r, hl, e⟩ := I.lstM hH
  refine delItem_from (a := a) e hs pl (by rw [List.size_toArray]; omega) (by rw [List.size_toArray]; omega) fun f hf => h _ ?_
  refine I.lset (its' := its.take a) (t' := s.toks) hH e ?_ (r.take _) ?_
  · rw [hf]
  · rw [List.length_take]; omega
def tDelF (to : TE) (tl : TO) : TS := fun D σ H => to σ H fun x H1 => tl σ H1 fun lo H2 => ∃ (l : Addr) (xs : List V) (a : Nat), x = .ref l ∧ lo = some (a : Int) ∧ H2 l = some (.lst xs) ∧ a ≤ xs.length ∧ D.nx σ (upd H2 l (.lst (xs.take a)))
theorem ps_delF {o : Expr} {lo : Option Expr} {to : TE} {tl : TO} {p3 tpos pos : Pos} (ho : PE X o to) (hl : PO X lo tl) : PS X (.Delete [.Subscript o (.Slice lo none none p3) tpos] pos) (tDelF to tl) := by
  refine ⟨fun pins s σ H D I h => ?_⟩
  refine wpAny_Delete (wpAny_deleteEach_cons (wpAny_delete_Subscript (thn (ho.run pins s σ H _ I h) fun u s1 ⟨x, H1, I1, rx, q1⟩ => ?_)))
  refine wpAny_Slice (thn (hl.run pins s1 σ H1 _ I1 q1) fun vl s2 ⟨lv, H2, I2, pl, l, xs, a, ex, elo, hH, hc, q⟩ => ?_)
  subst ex elo
  cases (show u = Value.ref l from rx)
  refine thn (po_none.run pins s2 σ H2 (fun o H3 => o = none ∧ H3 = H2) I2 ⟨rfl, rfl⟩) fun vu s3 ⟨u, H3, I3, pu, eu, e3⟩ => ?_
  subst eu e3
  refine thn (po_none.run pins s3 σ H3 (fun o H4 => o = none ∧ H4 = H3) I3 ⟨rfl, rfl⟩) fun vs s4 ⟨o, H4, I4, ps, eo, e4⟩ => ?_
  subst eo e4
  have evu : vu = .none := by cases pu; rfl
  have evs : vs = .none := by cases ps; rfl
  subst evu evs
  have I5 : Inv X pins σ H4 { s4 with heap := s4.heap.push { cls := .type "slice", data := .fields #[vl, .none, .none] } } := I4.kept (t' := s4.toks) fun b ob q => Heap.get?_push_of_some _ q
  exact del_from I5 hH (Heap.IsSliceOf.new _ vl .none .none) pl hc fun s' I' => wpAny_deleteEach_nil ⟨σ, _, I', q⟩
end
/-! ### the denotations -/
def sDel (mo mi : Env → Sto → Rs D) : Env → Sto → Sr := fun env st => (mo env st).thn env fun o st1 => (mi env st1).thn env fun i st2 => match o, i with
  | .cell n, .int k => (match st2[n]? with
    | some (.lst ds) => (match ixN ds.length k with
      | some j => if ds.length ≤ sz then .nx env (st2.set n (.lst (ds.eraseIdx j))) else .no
      | none => .no)
    | _ => .no)
  | _, _ => .no
theorem RepL.eraseIdx {Γ : Gm} {π : Pl} {H : Hp} : ∀ {vs : List V} {ds : List D} (n : Nat), RepL Γ π H vs ds → RepL Γ π H (vs.eraseIdx n) (ds.eraseIdx n)
  | vs, [], n, h => by
    have e : vs = [] := h
    subst e
    rw [List.eraseIdx_nil, List.eraseIdx_nil]; exact rfl
  | _, _ :: _, 0, ⟨v, vr, a, b, c⟩ => by subst a; exact c
  | _, _ :: _, n + 1, ⟨v, vr, a, b, c⟩ => by subst a; exact ⟨v, _, rfl, b, RepL.eraseIdx n c⟩
section
variable {X : Cx} {W : WX} {ce : Nat → Option Addr} {fe : Nat → Str} {tb : List Addr}
theorem ds_delL {o i : Expr} {mo mi : Env → Sto → Rs D} {tpos pos : Pos} (ho : PE X o (tE (gx X ce fe tb) W mo)) (hi : PE X i (tE (gx X ce fe tb) W mi)) : PS X (.Delete [.Subscript o i tpos] pos) (tS (gx X ce fe tb) W (sDel mo mi)) := by
  refine imS (ps_delL ho hi) fun D σ H ⟨π, env, st, E, S, h⟩ => ?_
  refine bindS E S h fun π1 H1 v d st1 e1 E1 S1 r1 h1 => ?_
  refine bindS E1 S1 h1 fun π2 H2 w dw st2 e2 E2 S2 r2 h2 => ?_
  cases d <;> first | (exact h2.elim) | skip
  cases dw <;> first | (exact h2.elim) | skip
  rename_i n k
  obtain ⟨p, rfl, hp, _⟩ := r1.ext e2.toKp
  dsimp only at h2
  split at h2
  · rename_i ds q
    split at h2
    · rename_i j hj
      split at h2
      · rename_i hz
        obtain ⟨vs, hv, rl⟩ := S2.read hp q
        obtain ⟨s1, s2, s3, s4⟩ := ixN_seq hj
        have hl := rl.length
        have hz' : ds.length ≤ 16777216 := hz
        refine ⟨p, vs, k, j, rfl, r2, hv, by omega, by omega, by rw [hl]; exact s1, ?_⟩
        exact h2 π2 _ σ (ext_put S2 (List.mem_of_getElem? hp) hv) (E2.ext (ext_put S2 (List.mem_of_getElem? hp) hv).toKp) (S2.put hp hv (rl.eraseIdx j))
      · exact h2.elim
    · exact h2.elim
  · exact h2.elim
def sDelF (mo : Env → Sto → Rs D) (ml : Env → Sto → Rs (Option Int)) : Env → Sto → Sr := fun env st => (mo env st).thn env fun o st1 => (ml env st1).thn env fun i st2 => match o, i with
  | .cell n, some k => (match st2[n]? with
    | some (.lst ds) => if 0 ≤ k ∧ k ≤ ds.length then .nx env (st2.set n (.lst (ds.take k.toNat))) else .no
    | _ => .no)
  | _, _ => .no
theorem ds_delF {o : Expr} {lo : Option Expr} {mo : Env → Sto → Rs D} {ml : Env → Sto → Rs (Option Int)} {p3 tpos pos : Pos} (ho : PE X o (tE (gx X ce fe tb) W mo)) (hl : PO X lo (tO (gx X ce fe tb) W ml)) :
    PS X (.Delete [.Subscript o (.Slice lo none none p3) tpos] pos) (tS (gx X ce fe tb) W (sDelF mo ml)) := by
  refine imS (ps_delF ho hl) fun D σ H ⟨π, env, st, E, S, h⟩ => ?_
  refine bindS E S h fun π1 H1 v d st1 e1 E1 S1 r1 h1 => ?_
  refine bindS E1 S1 h1 fun π2 H2 lo lo' st2 e2 E2 S2 r2 h2 => ?_
  have el : lo = lo' := r2
  subst el
  cases d <;> first | (exact h2.elim) | skip
  rename_i n
  cases lo with
  | none => exact h2.elim
  | some k =>
    obtain ⟨p, rfl, hp, _⟩ := r1.ext e2.toKp
    dsimp only at h2
    split at h2
    · rename_i ds q
      split at h2
      · rename_i hz
        obtain ⟨vs, hv, rl⟩ := S2.read hp q
        have hlen := rl.length
        refine ⟨p, vs, k.toNat, rfl, by rw [Int.toNat_of_nonneg hz.1], hv, by omega, ?_⟩
        exact h2 π2 _ σ (ext_put S2 (List.mem_of_getElem? hp) hv) (E2.ext (ext_put S2 (List.mem_of_getElem? hp) hv).toKp) (S2.put hp hv (rl.take _))
      · exact h2.elim
    · exact h2.elim
/-! ### xs.insert(i, x) -/
def mIns2 (mo : Env → Sto → Rs D) (ml : Env → Sto → Rs (List D)) : Env → Sto → Rs D := fun env st => (mo env st).bind fun o st1 => match o with
  | .cell n => (ml env st1).bind fun ds st2 => match ds with
    | [.int k, x] => (match st2[n]? with
      | some (.lst es) => if es.length < sz ∧ 0 ≤ k ∧ k < 2 ^ 63 then .ok .non (st2.set n (.lst (es.take k.toNat ++ [x] ++ es.drop k.toNat))) else .no
      | _ => .no)
    | _ => .no
  | _ => .no
theorem den_insert {o e e2 : Expr} {mo : Env → Sto → Rs D} {ml : Env → Sto → Rs (List D)} {apos cpos : Pos} (ho : PE X o (tE (gx X ce fe tb) W mo)) (ha : PA X [e, e2] (tL (gx X ce fe tb) W ml)) (hbase : attributeBase o "insert" X.env (eval o X.env) = eval o X.env := by rfl)
    (hfew : ((backTo cpos (starEach [e, e2] X.env)).all (fun x => !x.1) && (backToKw cpos (keywordEach [] X.env)).all (fun x => x.1.isSome)
      && decide ([e, e2].length + ([] : List Keyword).length + (if ([] : List Keyword).isEmpty then 0 else 1) < 30)) = true := by rfl)
    (hline : (apos.endLine == cpos.line) = true := by rfl) (hs : starEach [e, e2] X.env = (false, eval e X.env) :: starEach [e2] X.env := by rfl) (hplain : (backTo cpos (starEach [e2] X.env)).any (·.1) = false := by rfl) :
    PE X (.Call (.Attribute o "insert" apos) [e, e2] [] cpos) (tE (gx X ce fe tb) W (mIns2 mo ml)) := by
  refine imE (pe_bmS PySem.F.plainAttrs_list PySem.F.slot_list_insert PySem.F.type_list_insert (MtR.toS (mt_insert (X := X))) ho ha hbase hfew hline hs hplain) fun σ H Q ⟨π, env, st, E, S, h⟩ => ?_
  refine bindG E S h fun π1 H1 v d st1 e1 E1 S1 r1 h1 => ?_
  cases d with
  | cell n =>
    have ty : tyV X.K "list" v H1 := by
      obtain ⟨p, rfl, hp, hd⟩ := r1
      obtain ⟨vs, hv⟩ := S1.lst (List.mem_of_getElem? hp) hd
      exact .inl ⟨rfl, vs, SqL.of hv⟩
    refine ⟨ty, ?_⟩
    refine bindG E1 S1 h1 fun π2 H2 ws ds st2 e2 E2 S2 r2 h2 => ?_
    split at h2
    · rename_i k x
      split at h2
      · rename_i es q
        split at h2
        · rename_i hz
          obtain ⟨p, rfl, hp, _⟩ := r1.ext e2.toKp
          obtain ⟨vs, hv, rl⟩ := S2.read hp q
          obtain ⟨w1, wr, rfl, q1, w2, wr2, rfl, q2, q3⟩ := r2
          rw [show wr2 = [] from q3]
          refine ⟨p, vs, k, w2, rfl, by rw [show w1 = _ from q1], hv, by rw [rl.length, sizeLine_eq]; exact hz.1, hz.2.1, hz.2.2, ?_⟩
          exact h2 π2 _ _ (ext_put S2 (List.mem_of_getElem? hp) hv) (S2.put hp hv (((rl.take _).append (show RepL (gx X ce fe tb) π2 H2 [w2] [x] from ⟨w2, [], rfl, q2, rfl⟩)).append (rl.drop _))) rfl
        · exact h2.elim
      · exact h2.elim
    · exact h2.elim
  | _ => exact h1.elim
/-! ### xs[i], ys[j] = a pair -/
def sSet2 (mo1 mi1 mo2 mi2 me : Env → Sto → Rs D) : Env → Sto → Sr := fun env st => (me env st).thn env fun v st1 => match v with
  | .tup [a, b] => (mo1 env st1).thn env fun o st2 => (mi1 env st2).thn env fun i st3 => (match fSet o i a st3 with
    | some st4 => (mo2 env st4).thn env fun o2 st5 => (mi2 env st5).thn env fun i2 st6 => (match fSet o2 i2 b st6 with
      | some st7 => .nx env st7
      | none => .no)
    | none => .no)
  | _ => .no
theorem ds_sub2 {e o i o2 i2 : Expr} {mo mi mo2 mi2 m : Env → Sto → Rs D} {sp1 sp2 tp pos : Pos} {k : Nat} (hc : X.calm = true) (ho : PE X o (tE (gx X ce fe tb) W mo)) (hi : PE X i (tE (gx X ce fe tb) W mi)) (ho2 : PE X o2 (tE (gx X ce fe tb) W mo2)) (hi2 : PE X i2 (tE (gx X ce fe tb) W mi2)) (he : PE X e (tE (gx X ce fe tb) W m))
    (ha : ∀ v, assign (.Subscript o i sp1) X.env v = (do
      let ov ← holding [v] (eval o X.env)
      let iv ← holding [v, ov] (eval i X.env)
      standAt sp1
      holding [v, ov, iv] (setItem ov iv v)
      release [v, ov, iv] []) := by intro _; rfl)
    (ha2 : ∀ v, assign (.Subscript o2 i2 sp2) X.env v = (do
      let ov ← holding [v] (eval o2 X.env)
      let iv ← holding [v, ov] (eval i2 X.env)
      standAt sp2
      holding [v, ov, iv] (setItem ov iv v)
      release [v, ov, iv] []) := by intro _; rfl)
    (hn : (assignEach [.Subscript o i sp1, .Subscript o2 i2 sp2] X.env).length = 2 := by rfl) (hst : (assignEach [.Subscript o i sp1, .Subscript o2 i2 sp2] X.env).findIdx? (·.1) = none := by rfl)
    (hh1 : (assignEach [.Subscript o i sp1, .Subscript o2 i2 sp2] X.env).map (·.2) = assign (.Subscript o i sp1) X.env :: (assignEach [.Subscript o2 i2 sp2] X.env).map (·.2) := by rfl)
    (hh2 : (assignEach [.Subscript o2 i2 sp2] X.env).map (·.2) = assign (.Subscript o2 i2 sp2) X.env :: (assignEach [] X.env).map (·.2) := by rfl)
    (hs : swapsWithSole [.Tuple [.Subscript o i sp1, .Subscript o2 i2 sp2] k tp] e pos.line X.env = pure false := by rfl) (hw : swappedStores [.Tuple [.Subscript o i sp1, .Subscript o2 i2 sp2] k tp] e X.env = pure none := by rfl)
    (h1 : (assignEach [.Tuple [.Subscript o i sp1, .Subscript o2 i2 sp2] k tp] X.env).map (·.2) = [assign (.Tuple [.Subscript o i sp1, .Subscript o2 i2 sp2] k tp) X.env] := by rfl) :
    PS X (.Assign [.Tuple [.Subscript o i sp1, .Subscript o2 i2 sp2] k tp] e pos) (tS (gx X ce fe tb) W (sSet2 mo mi mo2 mi2 m)) := by
  refine imS (ps_asg he (pg_tup hc (pgs_cons (pg_sub ho hi set_list ha) (pgs_cons (pg_sub ho2 hi2 set_list ha2) pgs_nil hh2) hh1) hn hst) hs hw h1) fun D σ H ⟨π, env, st, E, S, h⟩ => ?_
  refine bindS E S h fun π1 H1 v vd st1 e1 E1 S1 r1 h1 => ?_
  split at h1
  · rename_i a b
    obtain ⟨p, vs, rfl, hq, v1, vr, rfl, ra, v2, vr2, rfl, rb, rn⟩ := r1
    have en : vr2 = [] := rn
    subst en
    refine ⟨p, [v1, v2], rfl, SqT.of hq, rfl, v1, [v2], rfl, ?_⟩
    refine bindS E1 S1 h1 fun π2 H2 o od st2 e2 E2 S2 r2 h2 => ?_
    refine bindS E2 S2 h2 fun π3 H3 i id st3 e3 E3 S3 r3 h3 => ?_
    split at h3
    · rename_i st4 e4
      refine o_set S3 (r2.ext e3.toKp) r3 ((ra.ext e2.toKp).ext e3.toKp) e4 fun H4 x S4 => ?_
      refine ⟨v2, [], rfl, ?_⟩
      refine bindS (E3.ext x.toKp) S4 (OutS.ext x h3) fun π5 H5 o2 od2 st5 e5 E5 S5 r5 h5 => ?_
      refine bindS E5 S5 h5 fun π6 H6 i2 id2 st6 e6 E6 S6 r6 h6 => ?_
      split at h6
      · rename_i st7 e7
        exact o_set S6 (r5.ext e6.toKp) r6 (((((rb.ext e2.toKp).ext e3.toKp).ext x.toKp).ext e5.toKp).ext e6.toKp) e7 fun H7 y S7 => ⟨rfl, h6 π6 H7 σ y (E6.ext y.toKp) S7⟩
      · exact h6.elim
    · exact h3.elim
  · exact h1.elim
end
end Dn
end

section
set_option Elab.async false
set_option linter.all false
set_option maxRecDepth 100000
set_option maxHeartbeats 1000000
/-! x in a list or a tuple of data of some depth -/
theorem L2.Room.units65 {k : Nat} {A : PySem.Around} (r : L2.Room k A) : A.units + 65 < PySem.cLine := by have := r.un; omega
namespace Dn
open PySem PySem.Spec PyProof.Rows L2
theorem room65 {A : Around} {da : PyData} {xs : List PyData} (h : SeqAt.shaped da = true) (hu : A.units + 65 < cLine) : A.units + 1 + min (PyData.depthAll xs) da.depth < cLine := by
  have := SeqAt.depth_of_shaped h
  omega
def rInA (K : PySem.W.Frag) (neg : Bool) : R2 := fun x y H Q => (∃ (c : Nat) (z : Str), x = .str ⟨#[c]⟩ ∧ y = .str z ∧ Q (.bl (neg != decide (c ∈ z.cps.toList))) H) ∨
  ∃ d ds, Dp K H x d ∧ ((Dp K H y (.list ds) ∧ SeqAt.shaped (.list ds) = true) ∨ (Dp K H y (.tuple ds) ∧ SeqAt.shaped (.tuple ds) = true)) ∧ SeqAt.shaped d = true ∧ Q (.bl (neg != ds.any fun z => PyData.eqv z d)) H
theorem op_inA {X : Cx} (hu : X.A.units + 65 < cLine) : OpR X (compareOp .In) (rInA X.K false) := by
  intro pins s σ H x y v u Q I rx ry h
  rcases h with ⟨c, z, e1, e2, q⟩ | ⟨d, ds, hd, he, sd, q⟩
  · exact op_in_sign pins s σ H x y v u Q I rx ry ⟨c, z, e1, e2, by simpa using q⟩
  · obtain ⟨as, r1⟩ := Dp.reads I d x v hd rx
    have q' : Q (.bl (ds.any fun z => PyData.eqv z d)) H := by simpa using q
    rcases he with ⟨he, se⟩ | ⟨he, se⟩
    · obtain ⟨bs, r2⟩ := Dp.reads I (.list ds) y u he ry
      exact SeqAt.in_list_reads r2 r1 (SeqAt.canLay_of_shaped se) (SeqAt.canLay_of_shaped sd) (room65 sd hu) ⟨.bl _, H, I, rfl, q'⟩
    · obtain ⟨bs, r2⟩ := Dp.reads I (.tuple ds) y u he ry
      exact SeqAt.in_tuple_reads r2 r1 (SeqAt.canLay_of_shaped se) (SeqAt.canLay_of_shaped sd) (room65 sd hu) ⟨.bl _, H, I, rfl, q'⟩
theorem op_ninA {X : Cx} (hu : X.A.units + 65 < cLine) : OpR X (compareOp .NotIn) (rInA X.K true) := by
  intro pins s σ H x y v u Q I rx ry h
  rcases h with ⟨c, z, e1, e2, q⟩ | ⟨d, ds, hd, he, sd, q⟩
  · exact op_notIn_sign pins s σ H x y v u Q I rx ry ⟨c, z, e1, e2, by simpa using q⟩
  · obtain ⟨as, r1⟩ := Dp.reads I d x v hd rx
    have q' : Q (.bl (!ds.any fun z => PyData.eqv z d)) H := by simpa using q
    rcases he with ⟨he, se⟩ | ⟨he, se⟩
    · obtain ⟨bs, r2⟩ := Dp.reads I (.list ds) y u he ry
      exact SeqAt.notIn_list_reads r2 r1 (SeqAt.canLay_of_shaped se) (SeqAt.canLay_of_shaped sd) (room65 sd hu) ⟨.bl _, H, I, rfl, q'⟩
    · obtain ⟨bs, r2⟩ := Dp.reads I (.tuple ds) y u he ry
      exact SeqAt.notIn_tuple_reads r2 r1 (SeqAt.canLay_of_shaped se) (SeqAt.canLay_of_shaped sd) (room65 sd hu) ⟨.bl _, H, I, rfl, q'⟩
def anyE (f : D → Bool) : List D → Bool
  | [] => false
  | d :: ds => f d || anyE f ds
def getT : D → Sto → Option (List D)
  | .tup ds, _ => some ds
  | d, st => getL d st
def fInA (neg : Bool) (a b : D) (st : Sto) : Rs D := match a, b with
  | .str [c], .str l => .ok (.bl (neg != memN c l)) st
  | a, b => if okD 63 st a && okD 64 st b then (match getT b st with
    | some ds => .ok (.bl (neg != anyE (fun z => eqD 63 st z a) ds)) st
    | none => .no) else .no
theorem anyE_ok (f : D → Bool) (g : D → PyData) (p : PyData) : ∀ (ds : List D), (∀ d ∈ ds, f d = PyData.eqv (g d) p) → anyE f ds = (mapL g ds).any fun z => PyData.eqv z p
  | [], _ => rfl
  | d :: ds, h => by
    show (f d || anyE f ds) = (PyData.eqv (g d) p || (mapL g ds).any fun z => PyData.eqv z p)
    rw [h d List.mem_cons_self, anyE_ok f g p ds fun e he => h e (List.mem_cons_of_mem _ he)]
theorem shaped63 {st : Sto} {d : D} (h : okD 63 st d = true) : SeqAt.shaped (toPd 63 st d) = true := by
  unfold SeqAt.shaped
  rw [toPd_can 63 d h, decide_eq_true (Nat.le_trans (toPd_depth 63 d) (by omega))]
  rfl
theorem o_inA {Γ : Gm} (neg : Bool) : Op2 Γ (rInA Γ.K neg) (fInA neg) := by
  intro W σ π H x y a b st Q S rx ry h
  have all : ∀ {a b : D}, Rep Γ π H x a → Rep Γ π H y b → Out Γ (Rep Γ) W σ π H (if okD 63 st a && okD 64 st b then (match getT b st with
    | some ds => .ok (.bl (neg != anyE (fun z => eqD 63 st z a) ds)) st
    | none => .no) else .no) Q → rInA Γ.K neg x y H Q := fun {a b} rx ry h => by
    split at h
    · rename_i hh
      rw [Bool.and_eq_true] at hh
      have dp := toPd_ok S 64 y b hh.2 ry
      have sh := shaped_pd hh.2
      split at h
      · rename_i ds eg
        have key : ∀ (hk : allL (okD 63 st) ds = true), Q (.bl (neg != (mapL (toPd 63 st) ds).any fun z => PyData.eqv z (toPd 63 st a))) H := fun hk => by
          rw [← anyE_ok (fun z => eqD 63 st z a) (toPd 63 st) (toPd 63 st a) ds fun d hd => eqD_ok 63 d a (allL_at hk d hd) hh.1]
          exact h.now S rfl
        cases lb : isL b with
        | true =>
          obtain ⟨x', e1, o1⟩ := okD_L hh.2 lb
          have e2 : getL b st = some ds := by
            cases b <;> first | (cases lb; done) | exact eg
          rw [e1] at e2
          cases e2
          have ep : toPd 64 st b = .list (mapL (toPd 63 st) ds) := by
            rw [toPd_L lb]; unfold toLs; rw [e1]
          rw [ep] at dp sh
          exact .inr ⟨_, _, toPd_ok S 63 x a hh.1 rx, .inl ⟨dp, sh⟩, shaped63 hh.1, key o1⟩
        | false =>
          cases b <;> first | (cases lb; done) | (exact absurd (show (none : Option (List D)) = some ds from eg) (fun z => nomatch z)) | skip
          rename_i es
          have e2 : es = ds := Option.some.inj eg
          subst e2
          exact .inr ⟨_, _, toPd_ok S 63 x a hh.1 rx, .inr ⟨dp, sh⟩, shaped63 hh.1, key hh.2⟩
      · exact h.elim
    · exact h.elim
  unfold fInA at h
  split at h
  · rename_i c l
    refine .inl ⟨c, _, rx, ry, ?_⟩
    rw [← memN_ok]
    exact h.now S rfl
  · exact all rx ry h
end Dn
end

section
namespace Lk28
open PySem PySem.Spec PyProof.Rows L2 Dn
/-! ### what stands in the module -/
def k__DIGITS : D := .str [48, 49, 50, 51, 52, 53, 54, 55, 56, 57, 97, 98, 99, 100, 101, 102]
def k__ONES : D := .int 4294967295
def k__START : D := .ktp [.int 1779033703, .int 3144134277, .int 1013904242, .int 2773480762, .int 1359893119, .int 2600822924, .int 528734635, .int 1541459225]
def k__STEPS : D := .ktp [.int 1116352408, .int 1899447441, .int 3049323471, .int 3921009573, .int 961987163, .int 1508970993, .int 2453635748, .int 2870763221, .int 3624381080, .int 310598401, .int 607225278, .int 1426881987, .int 1925078388, .int 2162078206, .int 2614888103, .int 3248222580, .int 3835390401, .int 4022224774, .int 264347078, .int 604807628, .int 770255983, .int 1249150122, .int 1555081692, .int 1996064986, .int 2554220882, .int 2821834349, .int 2952996808, .int 3210313671, .int 3336571891, .int 3584528711, .int 113926993, .int 338241895, .int 666307205, .int 773529912, .int 1294757372, .int 1396182291, .int 1695183700, .int 1986661051, .int 2177026350, .int 2456956037, .int 2730485921, .int 2820302411, .int 3259730800, .int 3345764771, .int 3516065817, .int 3600352804, .int 4094571909, .int 275423344, .int 430227734, .int 506948616, .int 659060556, .int 883997877, .int 958139571, .int 1322822218, .int 1537002063, .int 1747873779, .int 1955562222, .int 2024104815, .int 2227730452, .int 2361852424, .int 2428436474, .int 2756734187, .int 3204031479, .int 3329325298]
/-! ### the denotations -/
def b__octets_of : Dn.Env → Sto → Sr := sRet (mLc false [2] (mIns itR3 (lCons (m2 (fSub) (mVar 1) (mC (.int 1))) (lCons (m1 fNeg (mC (.int 1))) (lCons (m1 fNeg (mC (.int 1))) (lNil))))) (gNm 2) (mYes) (m2 (fAnd) (m2 (fShr) (mVar 0) (m2 (fMul false) (mC (.int 8)) (mVar 2))) (mC (.int 255))))
def d__octets_of : List D → Sto → Rs D := dFn 3 b__octets_of
def b__filled_up : Dn.Env → Sto → Sr := sSeq (sAsg (gNm 1) (mCall fLen (lCons (mVar 0) (lNil)))) (sRet (m2 (fAdd false) (m2 (fAdd false) (mLst false (lStar (mVar 0) (lCons (mC (.int 128)) (lNil)))) (m2 (fMul false) (mLst false (lCons (mC (.int 0)) (lNil))) (m2 (fModA) (m2 (fSub) (mC (.int 55)) (mVar 1)) (mC (.int 64))))) (mCall (d__octets_of) (lCons (m2 (fMul false) (mC (.int 8)) (mVar 1)) (lCons (mC (.int 8)) (lNil))))))
def d__filled_up : List D → Sto → Rs D := dFn 2 b__filled_up
def b__quad_at : Dn.Env → Sto → Sr := sRet (m2 (fAdd false) (m2 (fAdd false) (m2 (fAdd false) (m2 (fShl) (m2 fIx (mVar 0) (mVar 1)) (mC (.int 24))) (m2 (fShl) (m2 fIx (mVar 0) (m2 (fAdd false) (mVar 1) (mC (.int 1)))) (mC (.int 16)))) (m2 (fShl) (m2 fIx (mVar 0) (m2 (fAdd false) (mVar 1) (mC (.int 2)))) (mC (.int 8)))) (m2 fIx (mVar 0) (m2 (fAdd false) (mVar 1) (mC (.int 3)))))
def d__quad_at : List D → Sto → Rs D := dFn 2 b__quad_at
def b__turns : Dn.Env → Sto → Sr := sSeq (sAsg (gNm 4) (m2 (fAdd false) (m2 (fShl) (mVar 0) (mC (.int 32))) (mVar 0))) (sRet (m2 (fAnd) (m2 (fXor) (m2 (fXor) (m2 (fShr) (mVar 4) (mVar 1)) (m2 (fShr) (mVar 4) (mVar 2))) (m2 (fShr) (mVar 4) (mVar 3))) (mC k__ONES)))
def d__turns : List D → Sto → Rs D := dFn 5 b__turns
def b__quads_of : Dn.Env → Sto → Sr := sSeq (sAsg (gNm 1) (mLc true [2] (mIns itR3 (lCons (mC (.int 0)) (lCons (mC (.int 64)) (lCons (mC (.int 4)) (lNil))))) (gNm 2) (mYes) (mCall (d__quad_at) (lCons (mVar 0) (lCons (mVar 2) (lNil)))))) (sSeq (sFor (mIns itR2 (lCons (mC (.int 16)) (lCons (mC (.int 64)) (lNil)))) (gNm 2) (sSeq (sPar 5 6 (lCons (m2 fIx (mVar 1) (m2 (fSub) (mVar 2) (mC (.int 15)))) (lCons (m2 fIx (mVar 1) (m2 (fSub) (mVar 2) (mC (.int 2)))) (lNil)))) (sSeq (sAsg (gNm 3) (m2 (fAdd false) (m2 fIx (mVar 1) (m2 (fSub) (mVar 2) (mC (.int 16)))) (m2 (fXor) (m2 (fXor) (mCall (d__turns) (lCons (mVar 5) (lCons (mC (.int 7)) (lCons (mC (.int 18)) (lCons (mC (.int 0)) (lNil)))))) (mVar 5)) (m2 (fShr) (mVar 5) (mC (.int 3)))))) (sSeq (sAsg (gNm 4) (m2 (fAdd false) (m2 fIx (mVar 1) (m2 (fSub) (mVar 2) (mC (.int 7)))) (m2 (fXor) (m2 (fXor) (mCall (d__turns) (lCons (mVar 6) (lCons (mC (.int 17)) (lCons (mC (.int 19)) (lCons (mC (.int 0)) (lNil)))))) (mVar 6)) (m2 (fShr) (mVar 6) (mC (.int 10)))))) (sExp (mApp (mVar 1) (m2 (fAnd) (m2 (fAdd false) (mVar 3) (mVar 4)) (mC k__ONES)))))))) (sRet (mVar 1)))
def d__quads_of : List D → Sto → Rs D := dFn 7 b__quads_of
def b__state_behind : Dn.Env → Sto → Sr := sSeq (sAsg (gTp 8 (gsCons (gNm 3) (gsCons (gNm 4) (gsCons (gNm 5) (gsCons (gNm 6) (gsCons (gNm 7) (gsCons (gNm 8) (gsCons (gNm 9) (gsCons (gNm 10) (gsNil)))))))))) (mVar 0)) (sSeq (sFor (mIns itZG (lCons (mC k__STEPS) (lCons (mCall (d__quads_of) (lCons (mVar 1) (lNil))) (lNil)))) (gTp 2 (gsCons (gNm 11) (gsCons (gNm 12) (gsNil)))) (sSeq (sAsg (gNm 13) (m2 (fAdd false) (m2 (fAdd false) (m2 (fAdd false) (m2 (fAdd false) (mVar 10) (mCall (d__turns) (lCons (mVar 7) (lCons (mC (.int 6)) (lCons (mC (.int 11)) (lCons (mC (.int 25)) (lNil))))))) (m2 (fXor) (m2 (fAnd) (mVar 7) (mVar 8)) (m2 (fAnd) (m2 (fXor) (mVar 7) (mC k__ONES)) (mVar 9)))) (mVar 11)) (mVar 12))) (sSeq (sAsg (gNm 14) (m2 (fAdd false) (mCall (d__turns) (lCons (mVar 3) (lCons (mC (.int 2)) (lCons (mC (.int 13)) (lCons (mC (.int 22)) (lNil)))))) (m2 (fXor) (m2 (fXor) (m2 (fAnd) (mVar 3) (mVar 4)) (m2 (fAnd) (mVar 3) (mVar 5))) (m2 (fAnd) (mVar 4) (mVar 5))))) (sAsg (gTp 8 (gsCons (gNm 3) (gsCons (gNm 4) (gsCons (gNm 5) (gsCons (gNm 6) (gsCons (gNm 7) (gsCons (gNm 8) (gsCons (gNm 9) (gsCons (gNm 10) (gsNil)))))))))) (mTup (lCons (m2 (fAnd) (m2 (fAdd false) (mVar 13) (mVar 14)) (mC k__ONES)) (lCons (mVar 3) (lCons (mVar 4) (lCons (mVar 5) (lCons (m2 (fAnd) (m2 (fAdd false) (mVar 6) (mVar 13)) (mC k__ONES)) (lCons (mVar 7) (lCons (mVar 8) (lCons (mVar 9) (lNil)))))))))))))) (sSeq (sAsg (gNm 2) (mTup (lCons (mVar 3) (lCons (mVar 4) (lCons (mVar 5) (lCons (mVar 6) (lCons (mVar 7) (lCons (mVar 8) (lCons (mVar 9) (lCons (mVar 10) (lNil))))))))))) (sRet (mCall fTuple (lCons (mLc false [15, 16] (mIns itZG (lCons (mVar 0) (lCons (mVar 2) (lNil)))) (gTp 2 (gsCons (gNm 15) (gsCons (gNm 16) (gsNil)))) (mYes) (m2 (fAnd) (m2 (fAdd false) (mVar 15) (mVar 16)) (mC k__ONES))) (lNil))))))
def d__state_behind : List D → Sto → Rs D := dFn 17 b__state_behind
def b_sha : Dn.Env → Sto → Sr := sSeq (sAsg (gNm 1) (mC k__START)) (sSeq (sAsg (gNm 2) (mCall (d__filled_up) (lCons (mVar 0) (lNil)))) (sSeq (sFor (mIns itR3 (lCons (mC (.int 0)) (lCons (mCall fLen (lCons (mVar 2) (lNil))) (lCons (mC (.int 64)) (lNil))))) (gNm 3) (sAsg (gNm 1) (mCall (d__state_behind) (lCons (mVar 1) (lCons (mSl false (mVar 2) (oSome (mVar 3)) (oSome (m2 (fAdd false) (mVar 3) (mC (.int 64))))) (lNil)))))) (sRet (mCall fTuple (lCons (mLc2 false [4, 5] [5] (mIn itA (mVar 1)) (gNm 4) (mYes) (mIn itA (mCall (d__octets_of) (lCons (mVar 4) (lCons (mC (.int 4)) (lNil))))) (gNm 5) (mYes) (mVar 5)) (lNil))))))
def d_sha : List D → Sto → Rs D := dFn 6 b_sha
def b_hex_text : Dn.Env → Sto → Sr := sRet (mJoin (mC (.str [])) (mLc false [1] (mIn itA (mVar 0)) (gNm 1) (mYes) (m2 (fAdd false) (m2 fIx (mC k__DIGITS) (m2 (fDivA) (mVar 1) (mC (.int 16)))) (m2 fIx (mC k__DIGITS) (m2 (fModA) (mVar 1) (mC (.int 16)))))))
def d_hex_text : List D → Sto → Rs D := dFn 2 b_hex_text
def b_hex_numbers : Dn.Env → Sto → Sr := sSeq (sIf (mOrT (asT (m2 (fEq true) (m2 (fModA) (mCall fLen (lCons (mVar 0) (lNil))) (mC (.int 2))) (mC (.int 0)))) (mNotT (asTru (mGen false [2] (mIn itA (mVar 0)) (gNm 2) (mYes) (m2 (fInS false) (mVar 2) (mC k__DIGITS)))))) (sRz0 1) (sNil)) (sSeq (sAsg (gNm 1) (mLc false [2] (mIn itA (mVar 0)) (gNm 2) (mYes) (mIndexS (mC k__DIGITS) (mVar 2)))) (sRet (mCall fTuple (lCons (mLc false [3] (mIns itR3 (lCons (mC (.int 0)) (lCons (mCall fLen (lCons (mVar 1) (lNil))) (lCons (mC (.int 2)) (lNil))))) (gNm 3) (mYes) (m2 (fAdd false) (m2 (fMul false) (mC (.int 16)) (m2 fIx (mVar 1) (mVar 3))) (m2 fIx (mVar 1) (m2 (fAdd false) (mVar 3) (mC (.int 1)))))) (lNil)))))
def d_hex_numbers : List D → Sto → Rs D := dFn 4 b_hex_numbers
def b_codes_of : Dn.Env → Sto → Sr := sRet (mCall fTuple (lCons (mLc false [1] (mIn itA (mVar 0)) (gNm 1) (mYes) (mCall fOrd (lCons (mVar 1) (lNil)))) (lNil)))
def d_codes_of : List D → Sto → Rs D := dFn 2 b_codes_of
def b__sha_numbers : Dn.Env → Sto → Sr := sSeq (sIf (asT (m2 (fEq false) (m2 fIx (mVar 0) (mC (.int 0))) (mC (.str [110, 111, 110, 101])))) (sRet (mTup (lNil))) (sNil)) (sSeq (sIf (asT (m2 (fEq false) (m2 fIx (mVar 0) (mC (.int 0))) (mC (.str [108, 101, 97, 102])))) (sRet (m2 (fAdd false) (mTup (lCons (mC (.int 0)) (lNil))) (mCall (d_codes_of) (lCons (m2 fIx (mVar 0) (mC (.int 1))) (lNil))))) (sNil)) (sRet (m2 (fAdd false) (m2 (fAdd false) (mTup (lCons (mC (.int 1)) (lNil))) (mCall (d_hex_numbers) (lCons (m2 fIx (mVar 0) (mC (.int 1))) (lNil)))) (mCall (d_hex_numbers) (lCons (m2 fIx (mVar 0) (mC (.int 2))) (lNil))))))
def d__sha_numbers : List D → Sto → Rs D := dFn 1 b__sha_numbers
def b__weak_seal : Dn.Env → Sto → Sr := sSeq (sIf (asT (m2 (fEq false) (m2 fIx (mVar 2) (mC (.int 0))) (mC (.str [110, 111, 110, 101])))) (sRet (m2 (fModA) (mVar 1) (mVar 0))) (sNil)) (sSeq (sIf (asT (m2 (fEq false) (m2 fIx (mVar 2) (mC (.int 0))) (mC (.str [108, 101, 97, 102])))) (sSeq (sAsg (gNm 3) (m2 (fAdd false) (mVar 1) (mC (.int 1)))) (sSeq (sFor (mIn itA (mCall (d_codes_of) (lCons (m2 fIx (mVar 2) (mC (.int 1))) (lNil)))) (gNm 4) (sAsg (gNm 3) (m2 (fModA) (m2 (fAdd false) (m2 (fMul false) (mC (.int 131)) (mVar 3)) (mVar 4)) (mVar 0)))) (sRet (m2 (fModA) (mVar 3) (mVar 0))))) (sNil)) (sRet (m2 (fModA) (m2 (fAdd false) (m2 (fAdd false) (m2 (fAdd false) (m2 (fMul false) (mC (.int 7)) (m2 fIx (mVar 2) (mC (.int 1)))) (m2 (fMul false) (mC (.int 3)) (m2 fIx (mVar 2) (mC (.int 2))))) (mVar 1)) (mC (.int 2))) (mVar 0))))
def d__weak_seal : List D → Sto → Rs D := dFn 5 b__weak_seal
def b_sealed : Dn.Env → Sto → Sr := sSeq (sIf (asT (m2 (fEq false) (m2 fIx (mVar 0) (mC (.int 0))) (mC (.str [115, 104, 97])))) (sRet (mCall (d_hex_text) (lCons (mCall (d_sha) (lCons (mCall (d__sha_numbers) (lCons (mVar 1) (lNil))) (lNil))) (lNil)))) (sNil)) (sSeq (sIf (asT (m2 (fEq false) (m2 fIx (mVar 0) (mC (.int 0))) (mC (.str [119, 104, 111, 108, 101])))) (sRet (mVar 1)) (sNil)) (sRet (mCall (d__weak_seal) (lCons (m2 fIx (mVar 0) (mC (.int 1))) (lCons (m2 fIx (mVar 0) (mC (.int 2))) (lCons (mVar 1) (lNil)))))))
def d_sealed : List D → Sto → Rs D := dFn 2 b_sealed
def b_crown : Dn.Env → Sto → Sr := sSeq (sIf (asT (m2 (fLt) (mVar 0) (mC (.int 2)))) (sRz0 2) (sNil)) (sRet (m2 (fShl) (mC (.int 1)) (m2 (fSub) (mBits (m2 (fSub) (mVar 0) (mC (.int 1)))) (mC (.int 1)))))
def d_crown : List D → Sto → Rs D := dFn 1 b_crown
def b__longer : Dn.Env → Sto → Sr := sSeq (sAsg (gTp 2 (gsCons (gNm 5) (gsCons (gNm 6) (gsNil)))) (mVar 1)) (sSeq (sAsg (gNm 3) (mCall (d_sealed) (lCons (mVar 0) (lCons (mTup (lCons (mC (.str [108, 101, 97, 102])) (lCons (mVar 2) (lNil)))) (lNil))))) (sSeq (sAsg (gNm 4) (mVar 5)) (sSeq (sWhile 2000 (asTru (m2 (fAnd) (mVar 4) (mC (.int 1)))) (sSeq (sAsg (gNm 3) (mCall (d_sealed) (lCons (mVar 0) (lCons (mTup (lCons (mC (.str [110, 111, 100, 101])) (lCons (m2 fIx (mVar 6) (m1 fNeg (mC (.int 1)))) (lCons (mVar 3) (lNil))))) (lNil))))) (sSeq (sAsg (gNm 6) (mSl false (mVar 6) (oNone) (oSome (m1 fNeg (mC (.int 1)))))) (sAsg (gNm 4) (m2 (fShr) (mVar 4) (mC (.int 1))))))) (sRet (mTup (lCons (m2 (fAdd false) (mVar 5) (mC (.int 1))) (lCons (mTup (lStar (mVar 6) (lCons (mVar 3) (lNil)))) (lNil))))))))
def d__longer : List D → Sto → Rs D := dFn 7 b__longer
def b_tops_of : Dn.Env → Sto → Sr := sSeq (sAsg (gNm 2) (mTup (lCons (mC (.int 0)) (lCons (mTup (lNil)) (lNil))))) (sSeq (sFor (mIn itA (mVar 1)) (gNm 3) (sAsg (gNm 2) (mCall (d__longer) (lCons (mVar 0) (lCons (mVar 2) (lCons (mVar 3) (lNil))))))) (sRet (mVar 2)))
def d_tops_of : List D → Sto → Rs D := dFn 4 b_tops_of
def b__head : Dn.Env → Sto → Sr := sSeq (sAsg (gTp 2 (gsCons (gNm 4) (gsCons (gNm 5) (gsNil)))) (mVar 1)) (sSeq (sIf (mNotT (asTru (mVar 5))) (sRet (mTup (lCons (mVar 4) (lCons (mCall (d_sealed) (lCons (mVar 0) (lCons (mTup (lCons (mC (.str [110, 111, 110, 101])) (lNil))) (lNil)))) (lNil))))) (sNil)) (sSeq (sAsg (gNm 2) (m2 fIx (mVar 5) (m1 fNeg (mC (.int 1))))) (sSeq (sFor (mIn itA (mRev false (mVar 5) (oSome (m1 fNeg (mC (.int 2)))))) (gNm 3) (sAsg (gNm 2) (mCall (d_sealed) (lCons (mVar 0) (lCons (mTup (lCons (mC (.str [110, 111, 100, 101])) (lCons (mVar 3) (lCons (mVar 2) (lNil))))) (lNil)))))) (sRet (mTup (lCons (mVar 4) (lCons (mVar 2) (lNil))))))))
def d__head : List D → Sto → Rs D := dFn 6 b__head
def b_head_of : Dn.Env → Sto → Sr := sRet (mCall (d__head) (lCons (mVar 0) (lCons (mCall (d_tops_of) (lCons (mVar 0) (lCons (mVar 1) (lNil)))) (lNil))))
def d_head_of : List D → Sto → Rs D := dFn 2 b_head_of
def b_root : Dn.Env → Sto → Sr := sRet (m2 fIx (mCall (d_head_of) (lCons (mVar 0) (lCons (mVar 1) (lNil)))) (mC (.int 1)))
def d_root : List D → Sto → Rs D := dFn 2 b_root
def b_seal_of_stretch : Dn.Env → Sto → Sr := sSeq (sAsg (gTp 2 (gsCons (gNm 3) (gsCons (gNm 4) (gsNil)))) (mVar 2)) (sSeq (sIf (asT (m2 (fGt) (mVar 4) (mCall fLen (lCons (mVar 1) (lNil))))) (sRz1 0 (m2 (fSub) (mVar 4) (mC (.int 1)))) (sNil)) (sRet (mCall (d_root) (lCons (mVar 0) (lCons (mSl false (mVar 1) (oSome (mVar 3)) (oSome (mVar 4))) (lNil))))))
def d_seal_of_stretch : List D → Sto → Rs D := dFn 5 b_seal_of_stretch
def b_halves : Dn.Env → Sto → Sr := sSeq (sAsg (gTp 2 (gsCons (gNm 2) (gsCons (gNm 3) (gsNil)))) (mVar 0)) (sSeq (sAsg (gNm 1) (m2 (fAdd false) (mVar 2) (mCall (d_crown) (lCons (m2 (fSub) (mVar 3) (mVar 2)) (lNil))))) (sRet (mTup (lCons (mTup (lCons (mVar 2) (lCons (mVar 1) (lNil)))) (lCons (mTup (lCons (mVar 1) (lCons (mVar 3) (lNil)))) (lNil))))))
def d_halves : List D → Sto → Rs D := dFn 4 b_halves
def b__are_unlike : Dn.Env → Sto → Sr := sRet (m2 (fEq true) (mCall (d_seal_of_stretch) (lCons (mVar 0) (lCons (mVar 1) (lCons (mVar 3) (lNil))))) (mCall (d_seal_of_stretch) (lCons (mVar 0) (lCons (mVar 2) (lCons (mVar 3) (lNil))))))
def d__are_unlike : List D → Sto → Rs D := dFn 4 b__are_unlike
def b_search : Dn.Env → Sto → Sr := sSeq (sAsg (gNm 3) (mCall fMin (lCons (mCall fLen (lCons (mVar 1) (lNil))) (lCons (mCall fLen (lCons (mVar 2) (lNil))) (lNil))))) (sSeq (sIf (asT (m2 (fEq false) (mVar 3) (mC (.int 0)))) (sRet (mTup (lCons (mTup (lNil)) (lCons (mC .non) (lNil))))) (sNil)) (sSeq (sPar 4 5 (lCons (mLst true (lCons (mTup (lCons (mC (.int 0)) (lCons (mVar 3) (lNil)))) (lNil))) (lCons (mTup (lCons (mC (.int 0)) (lCons (mVar 3) (lNil)))) (lNil)))) (sSeq (sIf (mNotT (asTru (mCall (d__are_unlike) (lCons (mVar 0) (lCons (mVar 1) (lCons (mVar 2) (lCons (mVar 5) (lNil)))))))) (sRet (mTup (lCons (mCall fTuple (lCons (mVar 4) (lNil))) (lCons (mC .non) (lNil))))) (sNil)) (sSeq (sWhile 2000 (asT (m2 (fGt) (m2 (fSub) (m2 fIx (mVar 5) (mC (.int 1))) (m2 fIx (mVar 5) (mC (.int 0)))) (mC (.int 1)))) (sSeq (sAsg (gTp 2 (gsCons (gNm 6) (gsCons (gNm 7) (gsNil)))) (mCall (d_halves) (lCons (mVar 5) (lNil)))) (sSeq (sExp (mApp (mVar 4) (mVar 6))) (sAsg (gNm 5) (mIf (asTru (mCall (d__are_unlike) (lCons (mVar 0) (lCons (mVar 1) (lCons (mVar 2) (lCons (mVar 6) (lNil))))))) (mVar 6) (mVar 7)))))) (sRet (mTup (lCons (mCall fTuple (lCons (mVar 4) (lNil))) (lCons (m2 fIx (mVar 5) (mC (.int 0))) (lNil)))))))))
def d_search : List D → Sto → Rs D := dFn 8 b_search
def b__law_box : Dn.Env → Sto → Sr := sSeq (sAsg (gNm 2) (mIf (asT (m2 (fLt) (mVar 1) (mCall fLen (lCons (mVar 0) (lNil))))) (m2 fIx (mVar 0) (mVar 1)) (mC (.int 0)))) (sRet (mLst true (lCons (m2 (fMul false) (mCall fAbs (lCons (mVar 2) (lNil))) (mCall fInt (lCons (m2 (fGe) (mCall fAbs (lCons (mVar 2) (lNil))) (m2 (fPow) (mC (.int 10)) (mC (.int 18)))) (lNil)))) (lCons (m2 (fAdd false) (m2 (fAdd false) (m2 (fModA) (mCall fInt (lCons (mVar 2) (lNil))) (mC (.int 2305843009213693951))) (m2 (fMul false) (mC (.int 39373)) (mVar 1))) (mC (.int 1318328))) (lCons (mC (.int 0)) (lNil))))))
def d__law_box : List D → Sto → Rs D := dFn 3 b__law_box
def b__law_take : Dn.Env → Sto → Sr := sSeq (sIf (asT (m2 (fGt) (m2 fIx (mVar 0) (mC (.int 0))) (mC (.int 0)))) (sSeq (sAsg (gNm 5) (m2 (fModA) (mCall fInt (lCons (m2 fIx (mVar 0) (mC (.int 0))) (lNil))) (mVar 1))) (sSeq (sSet (mVar 0) (mC (.int 0)) (m2 (fDivA) (m2 fIx (mVar 0) (mC (.int 0))) (mVar 1))) (sRet (mVar 5)))) (sNil)) (sSeq (sSet (mVar 0) (mC (.int 2)) (m2 (fAdd false) (m2 fIx (mVar 0) (mC (.int 2))) (mC (.int 1)))) (sSeq (sAsg (gNm 2) (m2 (fModA) (mCall fInt (lCons (m2 (fMul false) (m2 (fAdd false) (m2 fIx (mVar 0) (mC (.int 1))) (m2 (fMul false) (mC (.int 48271)) (m2 fIx (mVar 0) (mC (.int 2))))) (m2 (fAdd false) (mC (.int 39373)) (m2 fIx (mVar 0) (mC (.int 2))))) (lNil))) (mC (.int 2147483647)))) (sSeq (sAsg (gNm 3) (m2 (fAdd false) (m2 (fModA) (mCall fInt (lCons (mVar 2) (lNil))) (mC (.int 40009))) (mC (.int 7)))) (sSeq (sAsg (gNm 4) (m2 (fModA) (mCall fInt (lCons (m2 (fMul false) (m2 (fAdd false) (m2 (fAdd false) (mVar 2) (m2 fIx (mVar 0) (mC (.int 2)))) (m2 (fDivA) (m2 fIx (mVar 0) (mC (.int 1))) (mC (.int 1000003)))) (mVar 3)) (lNil))) (mC (.int 2147483629)))) (sRet (m2 (fModA) (mCall fInt (lCons (m2 (fDivA) (m2 (fModA) (mCall fInt (lCons (m2 (fAdd false) (m2 (fMul false) (mVar 4) (mC (.int 48271))) (mVar 2)) (lNil))) (mC (.int 2147483587))) (mC (.int 64))) (lNil))) (mVar 1)))))))
def d__law_take : List D → Sto → Rs D := dFn 6 b__law_take
def b__law_cells : Dn.Env → Sto → Sr := sSeq (sAsg (gNm 2) (mOr (mCall (fList true) (lCons (mSl false (mVar 0) (oNone) (oSome (mVar 1))) (lNil))) (mLst true (lCons (mC (.int 0)) (lNil))))) (sSeq (sFor (mIns itE (lCons (mSl false (mVar 0) (oSome (mVar 1)) (oSome (mC (.int 63)))) (lNil))) (gTp 2 (gsCons (gNm 3) (gsCons (gNm 4) (gsNil)))) (sSeq (sAsg (gNm 5) (m2 (fModA) (mCall fInt (lCons (mVar 3) (lNil))) (mVar 1))) (sSet (mVar 2) (mVar 5) (m2 (fAdd false) (m2 fIx (mVar 2) (mVar 5)) (m2 (fMul false) (mVar 4) (m2 (fAdd false) (mVar 3) (mC (.int 2)))))))) (sRet (mVar 2)))
def d__law_cells : List D → Sto → Rs D := dFn 6 b__law_cells
def b__law_of : Dn.Env → Sto → Sr := sRet (m2 fIx (mVar 1) (mCall (d__law_take) (lCons (mVar 0) (lCons (mCall fLen (lCons (mVar 1) (lNil))) (lNil)))))
def d__law_of : List D → Sto → Rs D := dFn 2 b__law_of
def b__law_same (self0 : List D → Sto → Rs D) : Dn.Env → Sto → Sr := sSeq (sIf (asTru (mIsi [.list, .tuple] (mVar 1))) (sSeq (sIf (mOrT (asT (m2 (fEq true) (mIsi [.list] (mVar 0)) (mIsi [.list] (mVar 1)))) (asT (m2 (fEq true) (mIsi [.tuple] (mVar 0)) (mIsi [.tuple] (mVar 1))))) (sRet (mC (.bl false))) (sNil)) (sRet (mAnd (m2 (fEq false) (mCall fLen (lCons (mVar 0) (lNil))) (mCall fLen (lCons (mVar 1) (lNil)))) (mCall fAll (lCons (mLc false [2, 3] (mIns itZG (lCons (mVar 0) (lCons (mVar 1) (lNil)))) (gTp 2 (gsCons (gNm 2) (gsCons (gNm 3) (gsNil)))) (mYes) (mCall (self0) (lCons (mVar 2) (lCons (mVar 3) (lNil))))) (lNil)))))) (sNil)) (sSeq (sIf (mOrT (asT (m2 (fIs false) (mVar 1) (mC .non))) (asTru (mIsi [.bool, .str] (mVar 1)))) (sRet (mAnd (m2 (fEq false) (mVar 0) (mVar 1)) (mAnd (m2 (fEq false) (mIsi [.bool] (mVar 0)) (mIsi [.bool] (mVar 1))) (m2 (fEq false) (m2 (fIs false) (mVar 0) (mC .non)) (m2 (fIs false) (mVar 1) (mC .non)))))) (sNil)) (sRet (mAnd (mIsi [.int] (mVar 0)) (mAnd (mNot (mIsi [.bool] (mVar 0))) (m2 (fEq false) (mVar 0) (mVar 1))))))
def r__law_same : Nat → Nat → List D → Sto → Rs D
  | 0, _ => fun _ _ => .no
  | n + 1, _ => dFn 4 (b__law_same (r__law_same n 0))
def d__law_same : List D → Sto → Rs D := r__law_same 12 0
def b__law_seal : Dn.Env → Sto → Sr := sSeq (sIf (asT (m2 (fEq false) (m2 fIx (mVar 0) (mC (.int 0))) (mC (.str [119, 104, 111, 108, 101])))) (sRet (mVar 1)) (sNil)) (sSeq (sIf (asT (m2 (fEq false) (m2 fIx (mVar 1) (mC (.int 0))) (mC (.str [110, 111, 110, 101])))) (sRet (m2 (fModA) (m2 fIx (mVar 0) (mC (.int 2))) (m2 fIx (mVar 0) (mC (.int 1))))) (sNil)) (sSeq (sIf (asT (m2 (fEq false) (m2 fIx (mVar 1) (mC (.int 0))) (mC (.str [110, 111, 100, 101])))) (sRet (m2 (fModA) (m2 (fAdd false) (m2 (fAdd false) (m2 (fAdd false) (m2 (fMul false) (mC (.int 7)) (m2 fIx (mVar 1) (mC (.int 1)))) (m2 (fMul false) (mC (.int 3)) (m2 fIx (mVar 1) (mC (.int 2))))) (m2 fIx (mVar 0) (mC (.int 2)))) (mC (.int 2))) (m2 fIx (mVar 0) (mC (.int 1))))) (sNil)) (sSeq (sAsg (gNm 2) (m2 (fAdd false) (m2 fIx (mVar 0) (mC (.int 2))) (mC (.int 1)))) (sSeq (sFor (mIn itA (m2 fIx (mVar 1) (mC (.int 1)))) (gNm 3) (sAsg (gNm 2) (m2 (fAdd false) (m2 (fMul false) (mC (.int 131)) (mVar 2)) (mCall fOrd (lCons (mVar 3) (lNil)))))) (sRet (m2 (fModA) (mVar 2) (m2 fIx (mVar 0) (mC (.int 1)))))))))
def d__law_seal : List D → Sto → Rs D := dFn 4 b__law_seal
def b__law_crown : Dn.Env → Sto → Sr := sSeq (sAsg (gNm 1) (mC (.int 1))) (sSeq (sWhile 2000 (asT (m2 (fLt) (m2 (fMul false) (mC (.int 2)) (mVar 1)) (mVar 0))) (sAsg (gNm 1) (m2 (fMul false) (mC (.int 2)) (mVar 1)))) (sRet (mVar 1)))
def d__law_crown : List D → Sto → Rs D := dFn 2 b__law_crown
def b__law_root (self0 : List D → Sto → Rs D) : Dn.Env → Sto → Sr := sSeq (sIf (asT (m2 (fLt) (mCall fLen (lCons (mVar 1) (lNil))) (mC (.int 2)))) (sRet (mCall (d__law_seal) (lCons (mVar 0) (lCons (mIf (asT (m2 (fEq false) (mCall fLen (lCons (mVar 1) (lNil))) (mC (.int 0)))) (mTup (lCons (mC (.str [110, 111, 110, 101])) (lNil))) (mTup (lCons (mC (.str [108, 101, 97, 102])) (lCons (m2 fIx (mVar 1) (mC (.int 0))) (lNil))))) (lNil))))) (sNil)) (sSeq (sAsg (gNm 2) (mCall (d__law_crown) (lCons (mCall fLen (lCons (mVar 1) (lNil))) (lNil)))) (sRet (mCall (d__law_seal) (lCons (mVar 0) (lCons (mTup (lCons (mC (.str [110, 111, 100, 101])) (lCons (mCall (self0) (lCons (mVar 0) (lCons (mSl false (mVar 1) (oNone) (oSome (mVar 2))) (lNil)))) (lCons (mCall (self0) (lCons (mVar 0) (lCons (mSl false (mVar 1) (oSome (mVar 2)) (oNone)) (lNil)))) (lNil))))) (lNil))))))
def r__law_root : Nat → Nat → List D → Sto → Rs D
  | 0, _ => fun _ _ => .no
  | n + 1, _ => dFn 3 (b__law_root (r__law_root n 0))
def d__law_root : List D → Sto → Rs D := r__law_root 30 0
def b__law_sides : Dn.Env → Sto → Sr := sSeq (sPar3 2 3 4 (lCons (mC (.int 0)) (lCons (mVar 0) (lCons (mLst false (lNil)) (lNil))))) (sSeq (sWhile 2000 (asT (m2 (fGt) (m2 (fSub) (mVar 3) (mVar 2)) (mC (.int 1)))) (sSeq (sAsg (gNm 5) (m2 (fAdd false) (mVar 2) (mCall (d__law_crown) (lCons (m2 (fSub) (mVar 3) (mVar 2)) (lNil))))) (sIf (asT (m2 (fLt) (mVar 1) (mVar 5))) (sSeq (sAsg (gNm 4) (m2 (fAdd false) (mLst false (lCons (mTup (lCons (mC (.bl false)) (lCons (mTup (lCons (mVar 5) (lCons (mVar 3) (lNil)))) (lNil)))) (lNil))) (mVar 4))) (sAsg (gNm 3) (mVar 5))) (sSeq (sAsg (gNm 4) (m2 (fAdd false) (mLst false (lCons (mTup (lCons (mC (.bl true)) (lCons (mTup (lCons (mVar 2) (lCons (mVar 5) (lNil)))) (lNil)))) (lNil))) (mVar 4))) (sAsg (gNm 2) (mVar 5)))))) (sRet (mVar 4)))
def d__law_sides : List D → Sto → Rs D := dFn 6 b__law_sides
def b__law_first : Dn.Env → Sto → Sr := sSeq (sFor (mIns itR1 (lCons (mCall fMax (lCons (mCall fLen (lCons (mVar 0) (lNil))) (lCons (mCall fLen (lCons (mVar 1) (lNil))) (lNil)))) (lNil))) (gNm 2) (sIf (asT (m2 (fEq true) (mSl false (mVar 0) (oSome (mVar 2)) (oSome (m2 (fAdd false) (mVar 2) (mC (.int 1))))) (mSl false (mVar 1) (oSome (mVar 2)) (oSome (m2 (fAdd false) (mVar 2) (mC (.int 1))))))) (sRet (mVar 2)) (sNil))) (sRet (mC .non))
def d__law_first : List D → Sto → Rs D := dFn 3 b__law_first
def b__law_sealer : Dn.Env → Sto → Sr := sRet (mCall (d__law_of) (lCons (mVar 0) (lCons (mLst false (lCons (mTup (lCons (mC (.str [119, 104, 111, 108, 101])) (lNil))) (lCons (mTup (lCons (mC (.str [119, 104, 111, 108, 101])) (lNil))) (lCons (mTup (lCons (mC (.str [119, 101, 97, 107])) (lCons (mC (.int 2)) (lCons (mC (.int 1)) (lNil))))) (lCons (mTup (lCons (mC (.str [119, 101, 97, 107])) (lCons (mC (.int 3)) (lCons (mC (.int 0)) (lNil))))) (lCons (mTup (lCons (mC (.str [119, 101, 97, 107])) (lCons (mC (.int 7)) (lCons (mC (.int 4)) (lNil))))) (lCons (mTup (lCons (mC (.str [119, 101, 97, 107])) (lCons (mC (.int 97)) (lCons (mC (.int 5)) (lNil))))) (lCons (mTup (lCons (mC (.str [119, 101, 97, 107])) (lCons (mC (.int 1000003)) (lCons (mC (.int 12)) (lNil))))) (lNil))))))))) (lNil))))
def d__law_sealer : List D → Sto → Rs D := dFn 1 b__law_sealer
def b__law_log : Dn.Env → Sto → Sr := sRet (mCall fTuple (lCons (mLc false [2] (mIns itR1 (lCons (mCall (d__law_take) (lCons (mVar 0) (lCons (m2 (fAdd false) (mVar 1) (mC (.int 1))) (lNil)))) (lNil))) (gNm 2) (mYes) (mCall (d__law_of) (lCons (mVar 0) (lCons (mLst false (lCons (mC (.str [])) (lCons (mC (.str [97])) (lCons (mC (.str [98])) (lCons (mC (.str [99])) (lCons (mC (.str [97, 98])) (lCons (mC (.str [97, 32, 98])) (lCons (mC (.str [55])) (lCons (mC (.str [126, 32, 57])) (lCons (mC (.str [98, 111, 98, 32, 49, 50])) (lCons (mC (.str [97])) (lNil)))))))))))) (lNil))))) (lNil)))
def d__law_log : List D → Sto → Rs D := dFn 3 b__law_log
def b__law_front_right : Dn.Env → Sto → Sr := sSeq (sAsg (gTp 2 (gsCons (gNm 1) (gsCons (gNm 2) (gsNil)))) (mTup (lCons (mTup (lCons (mC (.str [119, 104, 111, 108, 101])) (lNil))) (lCons (mTup (lCons (mC (.str [97])) (lCons (mC (.str [98])) (lCons (mC (.str [99])) (lCons (mC (.str [100])) (lCons (mC (.str [101])) (lNil))))))) (lNil))))) (sSeq (sAsg (gNm 0) (mLst false (lCons (mCall (d_search) (lCons (mVar 1) (lCons (mVar 2) (lCons (mTup (lCons (mC (.str [120])) (lCons (mC (.str [98])) (lCons (mC (.str [99])) (lCons (mC (.str [100])) (lCons (mC (.str [120])) (lNil))))))) (lNil))))) (lCons (mCall (d_search) (lCons (mVar 1) (lCons (mVar 2) (lCons (m2 (fAdd false) (mSl false (mVar 2) (oNone) (oSome (mC (.int 3)))) (mTup (lCons (mC (.str [120])) (lCons (mC (.str [101])) (lNil))))) (lNil))))) (lCons (mCall (d_search) (lCons (mVar 1) (lCons (mVar 2) (lCons (m2 (fAdd false) (mSl false (mVar 2) (oNone) (oSome (mC (.int 4)))) (mTup (lCons (mC (.str [120])) (lNil)))) (lNil))))) (lCons (mCall (d_search) (lCons (mVar 1) (lCons (mVar 2) (lCons (mSl false (mVar 2) (oNone) (oSome (mC (.int 4)))) (lNil))))) (lCons (mCall (d_search) (lCons (mVar 1) (lCons (mVar 2) (lCons (mTup (lNil)) (lNil))))) (lNil)))))))) (sRet (mCall (d__law_same) (lCons (mVar 0) (lCons (mLst false (lCons (mTup (lCons (mTup (lCons (mTup (lCons (mC (.int 0)) (lCons (mC (.int 5)) (lNil)))) (lCons (mTup (lCons (mC (.int 0)) (lCons (mC (.int 4)) (lNil)))) (lCons (mTup (lCons (mC (.int 0)) (lCons (mC (.int 2)) (lNil)))) (lCons (mTup (lCons (mC (.int 0)) (lCons (mC (.int 1)) (lNil)))) (lNil)))))) (lCons (mC (.int 0)) (lNil)))) (lCons (mTup (lCons (mTup (lCons (mTup (lCons (mC (.int 0)) (lCons (mC (.int 5)) (lNil)))) (lCons (mTup (lCons (mC (.int 0)) (lCons (mC (.int 4)) (lNil)))) (lCons (mTup (lCons (mC (.int 0)) (lCons (mC (.int 2)) (lNil)))) (lCons (mTup (lCons (mC (.int 2)) (lCons (mC (.int 3)) (lNil)))) (lNil)))))) (lCons (mC (.int 3)) (lNil)))) (lCons (mTup (lCons (mTup (lCons (mTup (lCons (mC (.int 0)) (lCons (mC (.int 5)) (lNil)))) (lCons (mTup (lCons (mC (.int 0)) (lCons (mC (.int 4)) (lNil)))) (lNil)))) (lCons (mC (.int 4)) (lNil)))) (lCons (mTup (lCons (mTup (lCons (mTup (lCons (mC (.int 0)) (lCons (mC (.int 4)) (lNil)))) (lNil))) (lCons (mC .non) (lNil)))) (lCons (mTup (lCons (mTup (lNil)) (lCons (mC .non) (lNil)))) (lNil))))))) (lNil))))))
def d__law_front_right : List D → Sto → Rs D := dFn 3 b__law_front_right
def b__law_found (self0 : List D → Sto → Rs D) : Dn.Env → Sto → Sr := sSeq (sIf (asT (m2 (fEq false) (m2 (fSub) (mVar 4) (mVar 3)) (mC (.int 1)))) (sRet (mTup (lCons (mLst false (lNil)) (lCons (mVar 3) (lNil))))) (sNil)) (sSeq (sAsg (gNm 5) (m2 (fAdd false) (mVar 3) (mCall (d__law_crown) (lCons (m2 (fSub) (mVar 4) (mVar 3)) (lNil))))) (sSeq (sIf (asT (m2 (fEq true) (mCall (d__law_root) (lCons (mVar 0) (lCons (mSl false (mVar 1) (oSome (mVar 3)) (oSome (mVar 5))) (lNil)))) (mCall (d__law_root) (lCons (mVar 0) (lCons (mSl false (mVar 2) (oSome (mVar 3)) (oSome (mVar 5))) (lNil)))))) (sAsg (gTp 2 (gsCons (gNm 6) (gsCons (gNm 7) (gsNil)))) (mCall (self0) (lCons (mVar 0) (lCons (mVar 1) (lCons (mVar 2) (lCons (mVar 3) (lCons (mVar 5) (lNil)))))))) (sAsg (gTp 2 (gsCons (gNm 6) (gsCons (gNm 7) (gsNil)))) (mCall (self0) (lCons (mVar 0) (lCons (mVar 1) (lCons (mVar 2) (lCons (mVar 5) (lCons (mVar 4) (lNil))))))))) (sRet (mTup (lCons (m2 (fAdd false) (mLst false (lCons (mTup (lCons (mVar 3) (lCons (mVar 5) (lNil)))) (lNil))) (mVar 6)) (lCons (mVar 7) (lNil)))))))
def r__law_found : Nat → Nat → List D → Sto → Rs D
  | 0, _ => fun _ _ => .no
  | n + 1, _ => dFn 8 (b__law_found (r__law_found n 0))
def d__law_found : List D → Sto → Rs D := r__law_found 30 0
def b__law_right : Dn.Env → Sto → Sr := sSeq (sFor (mIns itR1 (lCons (mC (.int 3)) (lNil))) (gNm 1) (sSeq (sPar 5 6 (lCons (mCall (d__law_sealer) (lCons (mVar 0) (lNil))) (lCons (mCall (d__law_log) (lCons (mVar 0) (lCons (mC (.int 16)) (lNil)))) (lNil)))) (sSeq (sAsg (gNm 2) (m2 (fAdd true) (mCall (fList false) (lCons (mVar 6) (lNil))) (mCall (fList false) (lCons (mCall (d__law_log) (lCons (mVar 0) (lCons (mC (.int 2)) (lNil)))) (lNil))))) (sSeq (sFor (mIns itR1 (lCons (mCall (d__law_take) (lCons (mVar 0) (lCons (mC (.int 4)) (lNil)))) (lNil))) (gNm 3) (sIf (asT (m2 (fEq true) (mVar 2) (mLst false (lNil)))) (sSet (mVar 2) (mCall (d__law_take) (lCons (mVar 0) (lCons (mCall fLen (lCons (mVar 2) (lNil))) (lNil)))) (mCall (d__law_of) (lCons (mVar 0) (lCons (mLst false (lCons (mC (.str [97])) (lCons (mC (.str [98])) (lCons (mC (.str [])) (lCons (mC (.str [113])) (lCons (mC (.str [97, 32, 98])) (lNil))))))) (lNil))))) (sNil))) (sSeq (sAsg (gNm 2) (mCall fTuple (lCons (mSl false (mVar 2) (oNone) (oSome (mCall fMax (lCons (mC (.int 0)) (lCons (m2 (fSub) (mCall fLen (lCons (mVar 2) (lNil))) (mCall (d__law_take) (lCons (mVar 0) (lCons (mC (.int 3)) (lNil))))) (lNil)))))) (lNil)))) (sSeq (sPar 7 8 (lCons (mCall fMin (lCons (mCall fLen (lCons (mVar 6) (lNil))) (lCons (mCall fLen (lCons (mVar 2) (lNil))) (lNil)))) (lCons (mCall (d__law_first) (lCons (mVar 6) (lCons (mVar 2) (lNil)))) (lNil)))) (sSeq (sAsg (gNm 4) (mTup (lCons (mTup (lNil)) (lCons (mC .non) (lNil))))) (sSeq (sIf (mAndT (asT (m2 (fGt) (mVar 7) (mC (.int 0)))) (asT (m2 (fEq false) (mCall (d__law_root) (lCons (mVar 5) (lCons (mSl false (mVar 6) (oNone) (oSome (mVar 7))) (lNil)))) (mCall (d__law_root) (lCons (mVar 5) (lCons (mSl false (mVar 2) (oNone) (oSome (mVar 7))) (lNil))))))) (sAsg (gNm 4) (mTup (lCons (mTup (lCons (mTup (lCons (mC (.int 0)) (lCons (mVar 7) (lNil)))) (lNil))) (lCons (mC .non) (lNil))))) (sIf (asT (m2 (fGt) (mVar 7) (mC (.int 0)))) (sSeq (sAsg (gTp 2 (gsCons (gNm 9) (gsCons (gNm 10) (gsNil)))) (mCall (d__law_found) (lCons (mVar 5) (lCons (mVar 6) (lCons (mVar 2) (lCons (mC (.int 0)) (lCons (mVar 7) (lNil)))))))) (sSeq (sAsg (gNm 4) (mTup (lCons (m2 (fAdd false) (mTup (lCons (mTup (lCons (mC (.int 0)) (lCons (mVar 7) (lNil)))) (lNil))) (mCall fTuple (lCons (mVar 9) (lNil)))) (lCons (mVar 10) (lNil))))) (sIf (mOrT (asT (m2 (fEq true) (mCall fLen (lCons (m2 fIx (mVar 4) (mC (.int 0))) (lNil))) (m2 (fAdd false) (mC (.int 1)) (mCall fLen (lCons (mCall (d__law_sides) (lCons (mVar 7) (lCons (mVar 10) (lNil)))) (lNil)))))) (asT (m2 (fEq false) (m2 fIx (mVar 6) (mVar 10)) (m2 fIx (mVar 2) (mVar 10))))) (sRet (mC (.bl false))) (sNil)))) (sNil))) (sSeq (sIf (mNotT (asTru (mCall (d__law_same) (lCons (mLst false (lCons (mCall (d_search) (lCons (mVar 5) (lCons (mVar 6) (lCons (mVar 2) (lNil))))) (lCons (mCall (d_search) (lCons (mVar 5) (lCons (mCall (fList false) (lCons (mVar 2) (lNil))) (lCons (mCall (fList false) (lCons (mVar 6) (lNil))) (lNil))))) (lNil)))) (lCons (mLst false (lCons (mVar 4) (lCons (mVar 4) (lNil)))) (lNil)))))) (sRet (mC (.bl false))) (sNil)) (sIf (mAndT (asT (m2 (fEq false) (mVar 5) (mTup (lCons (mC (.str [119, 104, 111, 108, 101])) (lNil))))) (asT (m2 (fEq true) (m2 fIx (mVar 4) (mC (.int 1))) (mIf (mAndT (asT (m2 (fIs true) (mVar 8) (mC .non))) (asT (m2 (fLt) (mVar 8) (mVar 7)))) (mVar 8) (mC .non))))) (sRet (mC (.bl false))) (sNil))))))))))) (sRet (mC (.bl true)))
def d__law_right : List D → Sto → Rs D := dFn 11 b__law_right
def b_law : Dn.Env → Sto → Sr := sSeq (sIf (mNotT (asTru (mCall (d__law_front_right) lNil))) (sRet (mC (.bl false))) (sNil)) (sRet (mCall (d__law_right) (lCons (mCall (d__law_box) (lCons (mCall (d__law_cells) (lCons (mVar 0) (lCons (mC (.int 1)) (lNil)))) (lCons (mC (.int 0)) (lNil)))) (lNil))))
def d_law : List D → Sto → Rs D := dFn 1 b_law
end Lk28
end

section
/-! roots by halves, and by a stack of perfect trees -/
namespace Mk
/-- the greatest power of 2 below n (for n at least 2) -/
def half : Nat → Nat → Nat → Nat
  | 0, f, _ => f
  | k + 1, f, n => if 2 * f < n then half k (2 * f) n else f
section
variable {S E : Type}
structure Sl (S E : Type) where
  non : S
  leaf : E → S
  node : S → S → S
/-- t is a root of the row es -/
inductive Rt (sl : Sl S E) : List E → S → Prop where
  | leaf (e : E) : Rt sl [e] (sl.leaf e)
  | node (xs ys : List E) (a b : S) (k : Nat) (hx : xs.length = 2 ^ k) (h0 : 0 < ys.length) (hy : ys.length ≤ 2 ^ k) (ha : Rt sl xs a) (hb : Rt sl ys b) : Rt sl (xs ++ ys) (sl.node a b)
/-- a stack, the latest block first -/
inductive Stk (sl : Sl S E) : Nat → Nat → List E → List S → Prop where
  | zero (k : Nat) : Stk sl 0 k [] []
  | even (m k : Nat) (hm : 0 < m) (es : List E) (st : List S) (h : Stk sl m (k + 1) es st) : Stk sl (2 * m) k es st
  | odd (m k : Nat) (es bs : List E) (b : S) (st : List S) (hb : bs.length = 2 ^ k) (r : Rt sl bs b) (h : Stk sl m (k + 1) es st) : Stk sl (2 * m + 1) k (es ++ bs) (b :: st)
def carry (sl : Sl S E) : Nat → Nat → List S → S → List S
  | 0, _, st, b => b :: st
  | f + 1, n, st, b => if n % 2 = 1 then (match st with
    | s :: st' => carry sl f (n / 2) st' (sl.node s b)
    | [] => [b]) else b :: st
theorem Stk.inv {sl : Sl S E} {n k : Nat} {es : List E} {st : List S} (h : Stk sl n k es st) : (n = 0 ∧ es = [] ∧ st = []) ∨ (∃ m, 0 < m ∧ n = 2 * m ∧ Stk sl m (k + 1) es st) ∨
    ∃ m es' bs b st', n = 2 * m + 1 ∧ es = es' ++ bs ∧ st = b :: st' ∧ bs.length = 2 ^ k ∧ Rt sl bs b ∧ Stk sl m (k + 1) es' st' := by
  cases h with
  | zero => exact .inl ⟨rfl, rfl, rfl⟩
  | even m k hm es st h => exact .inr (.inl ⟨m, hm, rfl, h⟩)
  | odd m k es bs b st hb r h => exact .inr (.inr ⟨m, es, bs, b, st, rfl, rfl, rfl, hb, r, h⟩)
theorem carry_ok (sl : Sl S E) : ∀ (f n k : Nat) (es bs : List E) (st : List S) (b : S), n < 2 ^ f → Stk sl n k es st → bs.length = 2 ^ k → Rt sl bs b → Stk sl (n + 1) k (es ++ bs) (carry sl f n st b)
  | 0, n, k, es, bs, st, b, hn, h, hb, r => by
    rcases h.inv with ⟨rfl, rfl, rfl⟩ | ⟨m, hm, e, h⟩ | ⟨m, es', bs', b', st', rfl, rfl, rfl, hb', r', h⟩
    · exact Stk.odd 0 k [] bs b [] hb r (.zero _)
    · simp at hn; omega
    · simp at hn
  | f + 1, n, k, es, bs, st, b, hn, h, hb, r => by
    rcases h.inv with ⟨rfl, rfl, rfl⟩ | ⟨m, hm, e, h'⟩ | ⟨m, es', bs', b', st', e, rfl, rfl, hb', r', h'⟩
    · exact Stk.odd 0 k [] bs b [] hb r (.zero _)
    · subst e
      unfold carry
      rw [if_neg (by omega)]
      exact Stk.odd m k es bs b st hb r h'
    · subst e
      unfold carry
      rw [if_pos (by omega), show (2 * m + 1) / 2 = m by omega]
      dsimp only
      have hp : (bs' ++ bs).length = 2 ^ (k + 1) := by rw [List.length_append, hb, hb', Nat.pow_succ]; omega
      have rr : Rt sl (bs' ++ bs) (sl.node b' b) := Rt.node bs' bs b' b k hb' (by rw [hb]; exact Nat.pow_pos (by omega)) (by rw [hb]; exact Nat.le_refl _) r' r
      have ih := carry_ok sl f m (k + 1) es' (bs' ++ bs) st' (sl.node b' b) (by rw [Nat.pow_succ] at hn; omega) h' hp rr
      rw [List.append_assoc]
      have e : 2 * m + 1 + 1 = 2 * (m + 1) := by omega
      rw [e]
      exact Stk.even (m + 1) k (by omega) _ _ ih
def fold (sl : Sl S E) : List S → S → S
  | [], t => t
  | s :: st, t => fold sl st (sl.node s t)
theorem fold_ok (sl : Sl S E) {n k : Nat} {es : List E} {st : List S} (h : Stk sl n k es st) : ∀ (rs : List E) (t : S), 0 < rs.length → rs.length ≤ 2 ^ k → Rt sl rs t → Rt sl (es ++ rs) (fold sl st t) := by
  induction h with
  | zero k => exact fun rs t _ _ r => r
  | even m k hm es st h ih => exact fun rs t h0 h1 r => ih rs t h0 (by rw [Nat.pow_succ]; omega) r
  | odd m k es bs b st hb rb h ih =>
    intro rs t h0 h1 r
    rw [List.append_assoc]
    exact ih (bs ++ rs) (sl.node b t) (by rw [List.length_append]; omega) (by rw [List.length_append, hb, Nat.pow_succ]; omega) (Rt.node bs rs b t k hb h0 h1 rb r)
theorem head_ok (sl : Sl S E) {n k : Nat} {es : List E} {st : List S} (h : Stk sl n k es st) (hn : 0 < n) : ∃ b st', st = b :: st' ∧ Rt sl es (fold sl st' b) := by
  induction h with
  | zero k => omega
  | even m k hm es st h ih => exact ih hm
  | odd m k es bs b st hb rb h ih =>
    exact ⟨b, st, rfl, fold_ok sl h bs b (by rw [hb]; exact Nat.pow_pos (by omega)) (by rw [hb, Nat.pow_succ]; omega) rb⟩
/-- one row has one root -/
theorem pow_uniq {a b n : Nat} (h1 : 2 ^ a < n) (h2 : n ≤ 2 ^ (a + 1)) (h3 : 2 ^ b < n) (h4 : n ≤ 2 ^ (b + 1)) : a = b := by
  rcases Nat.lt_trichotomy a b with h | h | h
  · have : 2 ^ (a + 1) ≤ 2 ^ b := Nat.pow_le_pow_right (by omega) h
    omega
  · exact h
  · have : 2 ^ (b + 1) ≤ 2 ^ a := Nat.pow_le_pow_right (by omega) h
    omega
theorem Rt.pos {sl : Sl S E} {es : List E} {t : S} (h : Rt sl es t) : 0 < es.length := by
  induction h with
  | leaf e => exact Nat.one_pos
  | node xs ys a b k hx h0 hy ha hb iha ihb => rw [List.length_append]; omega
theorem Rt.inv {sl : Sl S E} {es : List E} {t : S} (h : Rt sl es t) : (∃ e, es = [e] ∧ t = sl.leaf e) ∨
    ∃ xs ys a b k, es = xs ++ ys ∧ xs.length = 2 ^ k ∧ 0 < ys.length ∧ ys.length ≤ 2 ^ k ∧ t = sl.node a b ∧ Rt sl xs a ∧ Rt sl ys b := by
  cases h with
  | leaf e => exact .inl ⟨e, rfl, rfl⟩
  | node xs ys a b k hx h0 hy ha hb => exact .inr ⟨xs, ys, a, b, k, rfl, hx, h0, hy, rfl, ha, hb⟩
theorem Rt.uniq {sl : Sl S E} {es : List E} {t : S} (h : Rt sl es t) : ∀ {u : S}, Rt sl es u → t = u := by
  induction h with
  | leaf e =>
    intro u q
    rcases q.inv with ⟨e', he, hu⟩ | ⟨xs, ys, a, b, k, he, hx, h0, hy, hu, _, _⟩
    · cases he; exact hu.symm
    · have := congrArg List.length he
      rw [List.length_append, hx] at this
      have : 0 < 2 ^ k := Nat.pow_pos (by omega)
      simp at *
      omega
  | node xs ys a b k hx h0 hy ha hb iha ihb =>
    intro u q
    have hk : 0 < 2 ^ k := Nat.pow_pos (by omega)
    rcases q.inv with ⟨e', he, hu⟩ | ⟨xs', ys', a', b', k', he, hx', h0', hy', hu, ha', hb'⟩
    · have := congrArg List.length he
      rw [List.length_append, hx] at this
      simp at this
      omega
    · have hl := congrArg List.length he
      rw [List.length_append, List.length_append, hx, hx'] at hl
      have ek : k = k' := pow_uniq (n := 2 ^ k + ys.length) (by omega) (by rw [Nat.pow_succ]; omega) (by omega) (by rw [Nat.pow_succ]; omega)
      subst ek
      obtain ⟨e1, e2⟩ := List.append_inj he (by rw [hx, hx'])
      subst e1 e2
      rw [hu, iha ha', ihb hb']
end
end Mk
end

section
set_option linter.all false
set_option maxRecDepth 100000
set_option maxHeartbeats 1000000
namespace Lk28
open PySem PySem.Spec PyProof.Rows L2 Dn
def wW : D := .str [119, 104, 111, 108, 101]
def wK : D := .str [119, 101, 97, 107]
def wN : D := .str [110, 111, 110, 101]
def wL : D := .str [108, 101, 97, 102]
def wD : D := .str [110, 111, 100, 101]
/-- a sealer: none the whole one, else a weak one's numbers -/
abbrev Sr0 := Option (Int × Int)
def slD : Sr0 → D
  | none => .tup [wW]
  | some (m, k) => .tup [wK, .int m, .int k]
def okSl : Sr0 → Prop
  | none => True
  | some (m, k) => 0 < m
def hs (k : Int) (l : List Nat) : Int := l.foldl (fun v c => 131 * v + (c : Nat)) (k + 1)
def slF : Sr0 → Mk.Sl D (List Nat)
  | none => ⟨.tup [wN], fun l => .tup [wL, .str l], fun a b => .tup [wD, a, b]⟩
  | some (m, k) => ⟨.int (k % m), fun l => .int (hs k l % m), fun a b => match a, b with
    | .int x, .int y => .int ((7 * x + 3 * y + k + 2) % m)
    | _, _ => .non⟩
/-- what can be a seal -/
def isS : Sr0 → D → Prop
  | none, _ => True
  | some _, d => ∃ i, d = .int i
theorem isS_leaf {s : Sr0} {l : List Nat} : isS s ((slF s).leaf l) := by
  cases s with
  | none => trivial
  | some p => exact ⟨_, rfl⟩
theorem isS_node {s : Sr0} {a b : D} (ha : isS s a) (hb : isS s b) : isS s ((slF s).node a b) := by
  cases s with
  | none => trivial
  | some p =>
    obtain ⟨x, rfl⟩ := ha
    obtain ⟨y, rfl⟩ := hb
    exact ⟨_, rfl⟩
theorem isS_rt {s : Sr0} {es : List (List Nat)} {t : D} (h : Mk.Rt (slF s) es t) : isS s t := by
  induction h with
  | leaf e => exact isS_leaf
  | node xs ys a b k hx h0 hy ha hb iha ihb => exact isS_node iha ihb
theorem loop_tup {tg : D → Dn.Env → Option Dn.Env} {body : Dn.Env → Sto → Sr} {xs : List D} {st : Sto} (P : Nat → Dn.Env → Prop)
    (h : ∀ (i : Nat) (d : D) (env : Dn.Env), xs[i]? = some d → P i env → ∃ env1 env2, tg d env = some env1 ∧ body env1 st = .nx env2 st ∧ P (i + 1) env2) :
    ∀ (n i : Nat) (env : Dn.Env), P i env → n + i = xs.length + 1 → i ≤ xs.length → ∃ env2, loopF (.one (.fix xs)) tg body n i env st = .nx env2 st ∧ P xs.length env2
  | 0, i, env, hp, hn, hi => by omega
  | n + 1, i, env, hp, hn, hi => by
    unfold loopF
    by_cases e : i = xs.length
    · subst e
      have : (Itb.one (.fix xs)).at_ xs.length st = none := by
        show xs[xs.length]? = none
        simp
      rw [this]
      exact ⟨env, rfl, hp⟩
    · have hi' : i < xs.length := by omega
      have : (Itb.one (.fix xs)).at_ i st = some xs[i] := by
        show xs[i]? = some xs[i]
        exact List.getElem?_eq_getElem hi'
      rw [this]
      obtain ⟨env1, env2, h1, h2, h3⟩ := h i xs[i] env (List.getElem?_eq_getElem hi') hp
      dsimp only
      rw [h1]
      dsimp only
      rw [h2]
      exact loop_tup P h n (i + 1) env2 h3 (by omega) (by omega)
theorem loop_txt {tg : D → Dn.Env → Option Dn.Env} {body : Dn.Env → Sto → Sr} {l : List Nat} {st : Sto} (P : Nat → Dn.Env → Prop)
    (h : ∀ (i : Nat) (c : Nat) (env : Dn.Env), l[i]? = some c → P i env → ∃ env1 env2, tg (.str [c]) env = some env1 ∧ body env1 st = .nx env2 st ∧ P (i + 1) env2) :
    ∀ (n i : Nat) (env : Dn.Env), P i env → n + i = l.length + 1 → i ≤ l.length → ∃ env2, loopF (.sgn l) tg body n i env st = .nx env2 st ∧ P l.length env2
  | 0, i, env, hp, hn, hi => by omega
  | n + 1, i, env, hp, hn, hi => by
    unfold loopF
    by_cases e : i = l.length
    · subst e
      have : (Itb.sgn l).at_ l.length st = none := by
        show (match l[l.length]? with | some c => some (D.str [c]) | none => none) = none
        simp
      rw [this]
      exact ⟨env, rfl, hp⟩
    · have hi' : i < l.length := by omega
      have : (Itb.sgn l).at_ i st = some (.str [l[i]]) := by
        show (match l[i]? with | some c => some (D.str [c]) | none => none) = _
        rw [List.getElem?_eq_getElem hi']
      rw [this]
      obtain ⟨env1, env2, h1, h2, h3⟩ := h i l[i] env (List.getElem?_eq_getElem hi') hp
      dsimp only
      rw [h1]
      dsimp only
      rw [h2]
      exact loop_txt P h n (i + 1) env2 h3 (by omega) (by omega)
/-! ### the law's own seals -/
theorem lseal_whole {a : D} {st : Sto} : d__law_seal [slD none, a] st = .ok a st := by
  rfl
theorem lseal_none {s : Sr0} (hs : okSl s) {st : Sto} : d__law_seal [slD s, .tup [wN]] st = .ok (slF s).non st := by
  cases s with
  | none => rfl
  | some p =>
    obtain ⟨m, k⟩ := p
    have hm : (0 : Int) < m := hs
    show d__law_seal [.tup [wK, .int m, .int k], .tup [wN]] st = .ok (.int (k % m)) st
    rw [show d__law_seal = dFn 4 b__law_seal from rfl, dFn_fin]
    simp [b__law_seal, startE, sSeq, sIf, asT, m2, mVar, mC, Rs.bind, Rs.thn, fIx, getS, atI, ixN, fEq, sNil, sRet, fin, fModA, hm, wK, wN]
theorem lseal_node {s : Sr0} (hs : okSl s) {a b : D} (ha : isS s a) (hb : isS s b) {st : Sto} : d__law_seal [slD s, .tup [wD, a, b]] st = .ok ((slF s).node a b) st := by
  cases s with
  | none => rfl
  | some p =>
    obtain ⟨m, k⟩ := p
    obtain ⟨x, rfl⟩ := ha
    obtain ⟨y, rfl⟩ := hb
    have hm : (0 : Int) < m := hs
    show d__law_seal [.tup [wK, .int m, .int k], .tup [wD, .int x, .int y]] st = .ok (.int ((7 * x + 3 * y + k + 2) % m)) st
    rw [show d__law_seal = dFn 4 b__law_seal from rfl, dFn_fin]
    simp [b__law_seal, startE, sSeq, sIf, asT, m2, mVar, mC, Rs.bind, Rs.thn, fIx, getS, atI, ixN, fEq, sNil, sRet, fin, fModA, hm, wK, wD, fMul, fAdd, cMul]
end Lk28
end

section
set_option linter.all false
set_option maxRecDepth 100000
set_option maxHeartbeats 1000000
namespace Lk28
open PySem PySem.Spec PyProof.Rows L2 Dn
theorem hs_snoc (k : Int) (l : List Nat) (c : Nat) : hs k (l ++ [c]) = 131 * hs k l + (c : Nat) := by
  unfold hs
  rw [List.foldl_append]
  rfl
theorem take_succ {α : Type} {l : List α} {i : Nat} {c : α} (h : l[i]? = some c) : l.take (i + 1) = l.take i ++ [c] := by
  rw [List.take_add_one, h]
  rfl
section
variable {a b : Dn.Env → Sto → Sr} {E E' : Dn.Env} {S S' : Sto} {r : Rs D}
theorem fin_seq (h : a E S = .nx E' S') (k : fin (b E' S') = r) : fin (sSeq a b E S) = r := by
  unfold sSeq
  rw [h]
  exact k
theorem fin_skip {t : Dn.Env → Sto → Rs Bool} {c : Dn.Env → Sto → Sr} (h : t E S = .ok false S') (k : fin (b E S') = r) : fin (sSeq (sIf t c sNil) b E S) = r := by
  refine fin_seq (E' := E) (S' := S') ?_ k
  unfold sIf
  rw [h]
  rfl
theorem fin_take {t : Dn.Env → Sto → Rs Bool} {m : Dn.Env → Sto → Rs D} (h : t E S = .ok true S') (k : m E S' = r) : fin (sSeq (sIf t (sRet m) c) b E S) = r := by
  unfold sSeq sIf
  rw [h]
  subst k
  show fin (match sRet m E S' with | .nx env' st' => b env' st' | r => r) = m E S'
  unfold sRet
  cases m E S' <;> rfl
theorem fin_ret' {m : Dn.Env → Sto → Rs D} (k : m E S = r) : fin (sRet m E S) = r := by rw [fin_ret, k]
theorem fin_ret_seq {m : Dn.Env → Sto → Rs D} (k : m E S = r) : fin (sSeq (sRet m) b E S) = r := by
  subst k
  unfold sSeq sRet
  cases m E S <;> rfl
theorem asg_of {k : Nat} {m : Dn.Env → Sto → Rs D} {d : D} (h : m E S = .ok d S') : sAsg (gNm k) m E S = .nx (E.set k (some d)) S' := by
  unfold sAsg
  rw [h]
  rfl
theorem for_txt {m : Dn.Env → Sto → Rs D} {tg : D → Dn.Env → Option Dn.Env} {body : Dn.Env → Sto → Sr} {l : List Nat} (P : Nat → Dn.Env → Prop) (hm : m E S = .ok (.str l) S) (h0 : P 0 E)
    (h : ∀ (i : Nat) (c : Nat) (env : Dn.Env), l[i]? = some c → P i env → ∃ env1 env2, tg (.str [c]) env = some env1 ∧ body env1 S = .nx env2 S ∧ P (i + 1) env2) :
    ∃ E2, sFor (mIn itA m) tg body E S = .nx E2 S ∧ P l.length E2 := by
  obtain ⟨E2, e, p⟩ := loop_txt (tg := tg) (body := body) (l := l) (st := S) P h (l.length + 1) 0 E h0 (by omega) (by omega)
  refine ⟨E2, ?_, p⟩
  unfold sFor mIn
  rw [hm]
  exact e
theorem for_tup {m : Dn.Env → Sto → Rs D} {tg : D → Dn.Env → Option Dn.Env} {body : Dn.Env → Sto → Sr} {xs : List D} (P : Nat → Dn.Env → Prop) (hm : m E S = .ok (.tup xs) S) (h0 : P 0 E)
    (h : ∀ (i : Nat) (d : D) (env : Dn.Env), xs[i]? = some d → P i env → ∃ env1 env2, tg d env = some env1 ∧ body env1 S = .nx env2 S ∧ P (i + 1) env2) :
    ∃ E2, sFor (mIn itA m) tg body E S = .nx E2 S ∧ P xs.length E2 := by
  obtain ⟨E2, e, p⟩ := loop_tup (tg := tg) (body := body) (xs := xs) (st := S) P h (xs.length + 1) 0 E h0 (by omega) (by omega)
  refine ⟨E2, ?_, p⟩
  unfold sFor mIn
  rw [hm]
  exact e
theorem for_seq {m : Dn.Env → Sto → Rs D} {tg : D → Dn.Env → Option Dn.Env} {body : Dn.Env → Sto → Sr} {xs : List D} {d : D} (P : Nat → Dn.Env → Prop) (hm : m E S = .ok d S) (hd : itA d = some (.one (.fix xs))) (h0 : P 0 E)
    (h : ∀ (i : Nat) (d : D) (env : Dn.Env), xs[i]? = some d → P i env → ∃ env1 env2, tg d env = some env1 ∧ body env1 S = .nx env2 S ∧ P (i + 1) env2) :
    ∃ E2, sFor (mIn itA m) tg body E S = .nx E2 S ∧ P xs.length E2 := by
  obtain ⟨E2, e, p⟩ := loop_tup (tg := tg) (body := body) (xs := xs) (st := S) P h (xs.length + 1) 0 E h0 (by omega) (by omega)
  refine ⟨E2, ?_, p⟩
  unfold sFor mIn
  rw [hm]
  simp only [Rs.bind]
  rw [hd]
  exact e
end
theorem call1 {F : List D → Sto → Rs D} {m : Dn.Env → Sto → Rs D} {E : Dn.Env} {S T : Sto} {d : D} (h : m E S = .ok d T) : mCall F (lCons m lNil) E S = F [d] T := by
  unfold mCall lCons
  rw [h]
  rfl
theorem call2 {F : List D → Sto → Rs D} {m n : Dn.Env → Sto → Rs D} {E : Dn.Env} {S T U : Sto} {d e : D} (h : m E S = .ok d T) (h2 : n E T = .ok e U) : mCall F (lCons m (lCons n lNil)) E S = F [d, e] U := by
  unfold mCall lCons
  rw [h]
  simp only [Rs.bind]
  rw [h2]
  rfl
theorem m2_of {f : D → D → Sto → Rs D} {m k : Dn.Env → Sto → Rs D} {E : Dn.Env} {S T U : Sto} {a b : D} {r : Rs D} (h1 : m E S = .ok a T) (h2 : k E T = .ok b U) (h3 : f a b U = r) : m2 f m k E S = r := by
  unfold m2
  rw [h1]
  simp only [Rs.bind]
  rw [h2]
  exact h3
theorem asT_of {m : Dn.Env → Sto → Rs D} {E : Dn.Env} {S T : Sto} {b : Bool} (h : m E S = .ok (.bl b) T) : asT m E S = .ok b T := by
  unfold asT
  rw [h]
  rfl
theorem lcons_of {m : Dn.Env → Sto → Rs D} {ml : Dn.Env → Sto → Rs (List D)} {E : Dn.Env} {S T U : Sto} {d : D} {ds : List D} (h : m E S = .ok d T) (h2 : ml E T = .ok ds U) : lCons m ml E S = .ok (d :: ds) U := by
  unfold lCons
  rw [h]
  simp only [Rs.bind]
  rw [h2]
theorem call_of {F : List D → Sto → Rs D} {ml : Dn.Env → Sto → Rs (List D)} {E : Dn.Env} {S T : Sto} {ds : List D} (h : ml E S = .ok ds T) : mCall F ml E S = F ds T := by
  unfold mCall
  rw [h]
  rfl
theorem tup_of {ml : Dn.Env → Sto → Rs (List D)} {E : Dn.Env} {S T : Sto} {ds : List D} (h : ml E S = .ok ds T) (hz : ds.length ≤ sz) : mTup ml E S = .ok (.tup ds) T := by
  unfold mTup
  rw [h]
  simp only [Rs.bind]
  rw [if_pos hz]
theorem lseal_leaf {s : Sr0} (hk : okSl s) {l : List Nat} {st : Sto} : d__law_seal [slD s, .tup [wL, .str l]] st = .ok ((slF s).leaf l) st := by
  cases s with
  | none => rfl
  | some p =>
    obtain ⟨m, k⟩ := p
    have hm : (0 : Int) < m := hk
    show d__law_seal [.tup [wK, .int m, .int k], .tup [wL, .str l]] st = .ok (.int (hs k l % m)) st
    rw [show d__law_seal = dFn 4 b__law_seal from rfl, dFn_fin]
    show fin (b__law_seal [some (.tup [wK, .int m, .int k]), some (.tup [wL, .str l]), none, none] st) = _
    unfold b__law_seal
    refine fin_skip (S' := st) rfl (fin_skip (S' := st) rfl (fin_skip (S' := st) rfl (fin_seq (E' := [some (.tup [wK, .int m, .int k]), some (.tup [wL, .str l]), some (.int (k + 1)), none]) (S' := st) rfl ?_)))
    obtain ⟨E2, e1, x, e2⟩ := for_txt (S := st) (l := l) (m := m2 fIx (mVar 1) (mC (.int 1))) (tg := gNm 3) (body := sAsg (gNm 2) (m2 (fAdd false) (m2 (fMul false) (mC (.int 131)) (mVar 2)) (mCall fOrd (lCons (mVar 3) (lNil)))))
      (E := [some (.tup [wK, .int m, .int k]), some (.tup [wL, .str l]), some (.int (k + 1)), none])
      (fun i env => ∃ x, env = [some (.tup [wK, .int m, .int k]), some (.tup [wL, .str l]), some (.int (hs k (l.take i))), x]) rfl ⟨none, rfl⟩ (fun i c env hc ⟨x, he⟩ => by
        subst he
        refine ⟨_, _, rfl, ?_, ⟨some (.str [c]), rfl⟩⟩
        rw [take_succ hc, hs_snoc]
        simp [sAsg, m2, mC, mVar, Rs.bind, Rs.thn, fMul, fAdd, cMul, mCall, lCons, lNil, fOrd, gNm])
    rw [List.take_length] at e2
    subst e2
    refine fin_seq e1 (fin_ret' ?_)
    simp [m2, mVar, Rs.bind, fIx, getS, atI, ixN, mC, fModA, hm]
/-! ### the program's seals -/
theorem codes_ok {l : List Nat} {st : Sto} (hz : l.length < sz) : d_codes_of [.str l] st = .ok (.tup (l.map fun c => .int (c : Nat))) st := by
  rw [show d_codes_of = dFn 2 b_codes_of from rfl, dFn_fin]
  show fin (b_codes_of [some (.str l), none] st) = _
  unfold b_codes_of
  refine fin_ret' ?_
  have h := lc_map (mi := mIn itA (mVar 0)) (b := .sgn l) (vs := [1]) (g := gNm 1) (te := mCall fOrd (lCons (mVar 1) (lNil))) (env := [some (.str l), none]) (st := st) (ds := l.map fun c => .str [c]) (F := fun d => match d with | .str [c] => .int (c : Nat) | _ => .non) rfl (walks_str st l) (by rw [List.length_map]; exact hz) (fun d hd => by
    obtain ⟨c, _, rfl⟩ := List.mem_map.mp hd
    exact ⟨_, rfl, rfl⟩)
  rw [call1 h, List.map_map]
  rfl
theorem seal_whole {a : D} {st : Sto} : d_sealed [slD none, a] st = .ok a st := by rfl
/-- what a weak sealer reckons -/
theorem seal_weak {m k : Int} {a : D} {st : Sto} : d_sealed [.tup [wK, .int m, .int k], a] st = d__weak_seal [.int m, .int k, a] st := by
  rw [show d_sealed = dFn 2 b_sealed from rfl, dFn_fin]
  show fin (b_sealed [some (.tup [wK, .int m, .int k]), some a] st) = _
  unfold b_sealed
  exact fin_skip (S' := st) rfl (fin_skip (S' := st) rfl (fin_ret' rfl))
theorem seal_none {s : Sr0} (hk : okSl s) {st : Sto} : d_sealed [slD s, .tup [wN]] st = .ok (slF s).non st := by
  cases s with
  | none => rfl
  | some p =>
    obtain ⟨m, k⟩ := p
    have hm : (0 : Int) < m := hk
    refine Eq.trans seal_weak ?_
    rw [show d__weak_seal = dFn 5 b__weak_seal from rfl, dFn_fin]
    show fin (b__weak_seal [some (.int m), some (.int k), some (.tup [wN]), none, none] st) = _
    unfold b__weak_seal
    refine fin_take (S' := st) rfl ?_
    simp [m2, mVar, Rs.bind, fModA, hm, slF]
theorem seal_node {s : Sr0} (hk : okSl s) {a b : D} (ha : isS s a) (hb : isS s b) {st : Sto} : d_sealed [slD s, .tup [wD, a, b]] st = .ok ((slF s).node a b) st := by
  cases s with
  | none => rfl
  | some p =>
    obtain ⟨m, k⟩ := p
    obtain ⟨x, rfl⟩ := ha
    obtain ⟨y, rfl⟩ := hb
    have hm : (0 : Int) < m := hk
    refine Eq.trans seal_weak ?_
    rw [show d__weak_seal = dFn 5 b__weak_seal from rfl, dFn_fin]
    show fin (b__weak_seal [some (.int m), some (.int k), some (.tup [wD, .int x, .int y]), none, none] st) = _
    unfold b__weak_seal
    refine fin_skip (S' := st) rfl (fin_skip (S' := st) rfl (fin_ret' ?_))
    simp [m2, mVar, Rs.bind, fIx, getS, atI, ixN, mC, fMul, cMul, fAdd, fModA, hm, slF]
theorem mod_step (v c m k : Int) : (131 * (v % m) + c) % m = (131 * v + c) % m := by
  rw [Int.add_emod, Int.mul_emod, Int.emod_emod_of_dvd v (Int.dvd_refl m), ← Int.mul_emod, ← Int.add_emod]
theorem seal_leaf {s : Sr0} (hk : okSl s) {l : List Nat} (hz : l.length < sz) {st : Sto} : d_sealed [slD s, .tup [wL, .str l]] st = .ok ((slF s).leaf l) st := by
  cases s with
  | none => rfl
  | some p =>
    obtain ⟨m, k⟩ := p
    have hm : (0 : Int) < m := hk
    refine Eq.trans seal_weak ?_
    rw [show d__weak_seal = dFn 5 b__weak_seal from rfl, dFn_fin]
    show fin (b__weak_seal [some (.int m), some (.int k), some (.tup [wL, .str l]), none, none] st) = _
    unfold b__weak_seal
    refine fin_skip (S' := st) rfl ?_
    have hc := codes_ok (l := l) (st := st) hz
    obtain ⟨E2, e1, x, v, e2, ev⟩ := for_tup (S := st) (xs := l.map fun c => .int (c : Nat)) (m := mCall (d_codes_of) (lCons (m2 fIx (mVar 2) (mC (.int 1))) (lNil))) (tg := gNm 4) (body := sAsg (gNm 3) (m2 (fModA) (m2 (fAdd false) (m2 (fMul false) (mC (.int 131)) (mVar 3)) (mVar 4)) (mVar 0)))
      (E := [some (.int m), some (.int k), some (.tup [wL, .str l]), some (.int (k + 1)), none])
      (fun i env => ∃ x v, env = [some (.int m), some (.int k), some (.tup [wL, .str l]), some (.int v), x] ∧ v % m = hs k (l.take i) % m) (by exact hc) ⟨none, k + 1, rfl, rfl⟩ (fun i c env hc ⟨x, v, he, hv⟩ => by
        subst he
        rw [List.getElem?_map] at hc
        obtain ⟨c, hc', rfl⟩ := Option.map_eq_some_iff.mp hc
        refine ⟨_, _, rfl, ?_, ⟨some (.int (c : Nat)), (131 * v + (c : Nat)) % m, rfl, ?_⟩⟩
        · simp [sAsg, m2, mC, mVar, Rs.bind, Rs.thn, fMul, fAdd, cMul, gNm, fModA, hm]
        · rw [take_succ hc', hs_snoc, Int.emod_emod_of_dvd _ (Int.dvd_refl m), ← mod_step v _ m k, hv, mod_step _ _ m k])
    rw [List.length_map, List.take_length] at ev
    subst e2
    unfold sSeq sIf
    have ht : asT (m2 (fEq false) (m2 fIx (mVar 2) (mC (.int 0))) (mC (.str [108, 101, 97, 102]))) [some (.int m), some (.int k), some (.tup [wL, .str l]), none, none] st = .ok true st := rfl
    rw [ht]
    dsimp only [Rs.thn]
    have ha : sAsg (gNm 3) (m2 (fAdd false) (mVar 1) (mC (.int 1))) [some (.int m), some (.int k), some (.tup [wL, .str l]), none, none] st = .nx [some (.int m), some (.int k), some (.tup [wL, .str l]), some (.int (k + 1)), none] st := rfl
    rw [ha]
    dsimp only
    rw [e1]
    dsimp only
    simp [sRet, m2, mVar, Rs.bind, Rs.thn, fModA, hm, fin, slF, ev]
end Lk28
end

section
set_option linter.all false
set_option maxRecDepth 100000
set_option maxHeartbeats 1000000
namespace Lk28
open PySem PySem.Spec PyProof.Rows L2 Dn
/-- the law's own crown -/
theorem lcrown_loop {n : Nat} {st : Sto} : ∀ (d f j : Nat), n ≤ 2 ^ (j + 1 + d) → 2 ^ j < n → d < f → ∃ k, 2 ^ k < n ∧ n ≤ 2 ^ (k + 1) ∧
    loopW (asT (m2 (fLt) (m2 (fMul false) (mC (.int 2)) (mVar 1)) (mVar 0))) (sAsg (gNm 1) (m2 (fMul false) (mC (.int 2)) (mVar 1))) f [some (.int (n : Nat)), some (.int ((2 ^ j : Nat) : Int))] st = .nx [some (.int (n : Nat)), some (.int ((2 ^ k : Nat) : Int))] st
  | d, 0, j, _, _, h => by omega
  | d, f + 1, j, h1, h2, h3 => by
    have ht : asT (m2 (fLt) (m2 (fMul false) (mC (.int 2)) (mVar 1)) (mVar 0)) [some (.int (n : Nat)), some (.int ((2 ^ j : Nat) : Int))] st = .ok (decide (2 * ((2 ^ j : Nat) : Int) < (n : Nat))) st := by
      simp [asT, m2, mC, mVar, Rs.bind, fMul, cMul, fLt, fOrder]
    unfold loopW
    rw [ht]
    by_cases c : 2 ^ (j + 1) < n
    · have c' : 2 * ((2 ^ j : Nat) : Int) < (n : Nat) := by rw [Nat.pow_succ] at c; omega
      rw [decide_eq_true c']
      have hb : sAsg (gNm 1) (m2 (fMul false) (mC (.int 2)) (mVar 1)) [some (.int (n : Nat)), some (.int ((2 ^ j : Nat) : Int))] st = .nx [some (.int (n : Nat)), some (.int ((2 ^ (j + 1) : Nat) : Int))] st := by
        have e : (2 : Int) * ((2 ^ j : Nat) : Int) = ((2 ^ (j + 1) : Nat) : Int) := by rw [Nat.pow_succ]; omega
        rw [← e]
        simp [sAsg, m2, mC, mVar, Rs.bind, Rs.thn, fMul, cMul, gNm]
      dsimp only [Rs.thn]
      rw [hb]
      dsimp only
      cases d with
      | zero => rw [Nat.add_zero] at h1; omega
      | succ d => exact lcrown_loop d f (j + 1) (by rw [show j + 1 + 1 + d = j + 1 + (d + 1) by omega]; exact h1) c (by omega)
    · have c' : ¬ 2 * ((2 ^ j : Nat) : Int) < (n : Nat) := by rw [Nat.pow_succ] at c; omega
      rw [decide_eq_false c']
      exact ⟨j, h2, by omega, rfl⟩
theorem lcrown_ok {n : Nat} (h2 : 2 ≤ n) (hz : n ≤ 2 ^ 1000) {st : Sto} : ∃ k, 2 ^ k < n ∧ n ≤ 2 ^ (k + 1) ∧ d__law_crown [.int (n : Nat)] st = .ok (.int ((2 ^ k : Nat) : Int)) st := by
  obtain ⟨k, a, b, c⟩ := lcrown_loop (n := n) (st := st) 999 2000 0 (by simpa using hz) (by omega) (by omega)
  refine ⟨k, a, b, ?_⟩
  rw [show d__law_crown = dFn 2 b__law_crown from rfl, dFn_fin]
  show fin (b__law_crown [some (.int (n : Nat)), none] st) = _
  unfold b__law_crown
  refine fin_seq (E' := [some (.int (n : Nat)), some (.int ((2 ^ 0 : Nat) : Int))]) (S' := st) rfl (fin_seq (by exact c) (fin_ret' rfl))
/-- the program's crown -/
theorem crown_ok {n : Nat} (h2 : 2 ≤ n) {k : Nat} (a : 2 ^ k < n) (b : n ≤ 2 ^ (k + 1)) (hk : k ≤ 1000) {st : Sto} : d_crown [.int (n : Nat)] st = .ok (.int ((2 ^ k : Nat) : Int)) st := by
  have e : Builtin.Int.intBits ((n : Int) - 1) = k + 1 := by
    have h1 : Builtin.Int.intBits ((n : Int) - 1) ≤ k + 1 := (PySem.intBits_le_iff).mpr (by omega)
    have h2 : ¬ Builtin.Int.intBits ((n : Int) - 1) ≤ k := fun z => by
      have := (PySem.intBits_le_iff).mp z
      omega
    omega
  rw [show d_crown = dFn 1 b_crown from rfl, dFn_fin]
  show fin (b_crown [some (.int (n : Nat))] st) = _
  unfold b_crown
  have hn : ¬ ((n : Int) < 2) := by omega
  refine fin_skip (S' := st) (by simp [asT, m2, mVar, mC, Rs.bind, fLt, fOrder, hn]) (fin_ret' ?_)
  have hb : mBits (m2 (fSub) (mVar 0) (mC (.int 1))) [some (.int (n : Nat))] st = .ok (.int ((k + 1 : Nat) : Int)) st := by
    simp [mBits, m2, mVar, mC, Rs.bind, fSub, Dn.opI, fBits, e]
  have hs : m2 (fSub) (mBits (m2 (fSub) (mVar 0) (mC (.int 1)))) (mC (.int 1)) [some (.int (n : Nat))] st = .ok (.int ((k : Nat) : Int)) st := m2_of hb rfl (by
    have : (((k + 1 : Nat) : Int) - 1) = ((k : Nat) : Int) := by omega
    simp [fSub, Dn.opI])
  have h3 : ((k : Nat) : Int) ≤ 1000000 := by omega
  exact m2_of rfl hs (by simp [fShl, Dn.opI, cPow, h3])
theorem len_tup {es : List (List Nat)} {st : Sto} : fLen [.tup (es.map D.str)] st = .ok (.int (es.length : Nat)) st := by
  simp [fLen, getS]
/-- the tuple of a row's texts -/
abbrev tp (es : List (List Nat)) : D := .tup (es.map D.str)
/-- the law's own root -/
theorem lroot_ok {s : Sr0} (hk : okSl s) {st : Sto} : ∀ (f : Nat) (es : List (List Nat)), 0 < es.length → es.length ≤ 2 ^ f → es.length ≤ 2 ^ 900 → ∃ t, r__law_root (f + 1) 0 [slD s, tp es] st = .ok t st ∧ Mk.Rt (slF s) es t := by
  intro f
  induction f with
  | zero =>
    intro es h0 h1 _
    obtain ⟨e, rfl⟩ : ∃ e, es = [e] := by
      cases es with
      | nil => simp at h0
      | cons e r => cases r with
        | nil => exact ⟨e, rfl⟩
        | cons _ _ => simp at h1
    refine ⟨_, ?_, Mk.Rt.leaf e⟩
    show dFn 3 (b__law_root (r__law_root 0 0)) [slD s, tp [e]] st = _
    rw [dFn_fin]
    show fin (b__law_root (r__law_root 0 0) [some (slD s), some (tp [e]), none] st) = _
    unfold b__law_root
    exact fin_take (S' := st) rfl ((call2 (T := st) (U := st) rfl rfl).trans (lseal_leaf hk))
  | succ f ih =>
    intro es h0 h1 hz
    by_cases hn : es.length = 1
    · obtain ⟨e, rfl⟩ : ∃ e, es = [e] := by
        cases es with
        | nil => simp at h0
        | cons e r => cases r with
          | nil => exact ⟨e, rfl⟩
          | cons _ _ => simp at hn
      refine ⟨_, ?_, Mk.Rt.leaf e⟩
      show dFn 3 (b__law_root (r__law_root (f + 1) 0)) [slD s, tp [e]] st = _
      rw [dFn_fin]
      show fin (b__law_root (r__law_root (f + 1) 0) [some (slD s), some (tp [e]), none] st) = _
      unfold b__law_root
      exact fin_take (S' := st) rfl ((call2 (T := st) (U := st) rfl rfl).trans (lseal_leaf hk))
    · obtain ⟨k, ka, kb, kc⟩ := lcrown_ok (n := es.length) (st := st) (by omega) (Nat.le_trans hz (Nat.pow_le_pow_right (by omega) (by omega)))
      have hl1 : (es.take (2 ^ k)).length = 2 ^ k := by rw [List.length_take]; omega
      have hl2 : (es.drop (2 ^ k)).length = es.length - 2 ^ k := by rw [List.length_drop]
      have hk0 : 0 < 2 ^ k := Nat.pow_pos (by omega)
      have hkf : 2 ^ k ≤ 2 ^ f := by
        by_cases z : k ≤ f
        · exact Nat.pow_le_pow_right (by omega) z
        · have : 2 ^ (f + 1) ≤ 2 ^ k := Nat.pow_le_pow_right (by omega) (by omega)
          omega
      obtain ⟨t1, e1, r1⟩ := ih (es.take (2 ^ k)) (by omega) (by omega) (by omega)
      obtain ⟨t2, e2, r2⟩ := ih (es.drop (2 ^ k)) (by omega) (by rw [hl2]; rw [Nat.pow_succ] at kb; omega) (by omega)
      refine ⟨(slF s).node t1 t2, ?_, ?_⟩
      · show dFn 3 (b__law_root (r__law_root (f + 1) 0)) [slD s, tp es] st = _
        rw [dFn_fin]
        show fin (b__law_root (r__law_root (f + 1) 0) [some (slD s), some (tp es), none] st) = _
        unfold b__law_root
        have hc : ¬ ((es.length : Int) < 2) := by omega
        refine fin_skip (S' := st) (asT_of (m2_of (call1 (d := tp es) (T := st) rfl |>.trans len_tup) rfl (by simp [fLt, fOrder, hc]))) ?_
        refine fin_seq (E' := [some (slD s), some (tp es), some (.int ((2 ^ k : Nat) : Int))]) (S' := st) (asg_of (call1 (call1 (d := tp es) (T := st) rfl |>.trans len_tup) |>.trans kc)) (fin_ret' ?_)
        have c1 : mSl false (mVar 1) (oNone) (oSome (mVar 2)) [some (slD s), some (tp es), some (.int ((2 ^ k : Nat) : Int))] st = .ok (tp (es.take (2 ^ k))) st := by
          show Rs.ok (D.tup (Dn.cutD (es.map D.str) none (some ((2 ^ k : Nat) : Int)))) st = _
          unfold Dn.cutD
          rw [HT.sIx_none, HT.sIx_nat, List.drop_zero, List.length_map, Nat.sub_zero, show min (2 ^ k) es.length = 2 ^ k by omega, ← List.map_take]
        have c2 : mSl false (mVar 1) (oSome (mVar 2)) (oNone) [some (slD s), some (tp es), some (.int ((2 ^ k : Nat) : Int))] st = .ok (tp (es.drop (2 ^ k))) st := by
          show Rs.ok (D.tup (Dn.cutD (es.map D.str) (some ((2 ^ k : Nat) : Int)) none)) st = _
          unfold Dn.cutD
          rw [HT.sIx_none, HT.sIx_nat, List.length_map, show min (2 ^ k) es.length = 2 ^ k by omega, List.take_of_length_le (by rw [List.length_drop, List.length_map]; omega), ← List.map_drop]
        refine (call2 (T := st) (U := st) (e := .tup [wD, t1, t2]) rfl ?_).trans (lseal_node hk (isS_rt r1) (isS_rt r2))
        exact tup_of (lcons_of (T := st) rfl (lcons_of (call2 (T := st) rfl c1 |>.trans e1) (lcons_of (call2 (T := st) rfl c2 |>.trans e2) rfl))) (by show 3 ≤ sz; decide)
      · have := Mk.Rt.node (sl := slF s) (es.take (2 ^ k)) (es.drop (2 ^ k)) t1 t2 k hl1 (by omega) (by rw [hl2]; rw [Nat.pow_succ] at kb; omega) r1 r2
        rw [List.take_append_drop] at this
        exact this
end Lk28
end

section
set_option linter.all false
set_option maxRecDepth 100000
set_option maxHeartbeats 1000000
namespace Lk28
open PySem PySem.Spec PyProof.Rows L2 Dn
/-- tops: the size, the stack from the bottom -/
abbrev tops (n : Nat) (stk : List D) : D := .tup [.int (n : Nat), .tup stk.reverse]
theorem neg1 {E : Dn.Env} {st : Sto} : m1 fNeg (mC (.int 1)) E st = .ok (.int (-1)) st := rfl
theorem last_ix {x : D} {r : List D} {st : Sto} : fIx (.tup (x :: r).reverse) (.int (-1)) st = .ok x st := by
  have h : ((x :: r).reverse)[r.length]? = some x := by
    rw [List.reverse_cons, List.getElem?_append_right (by simp)]
    simp
  have e : atI (x :: r).reverse (-1) = some x := by
    unfold atI ixN
    rw [if_neg (by decide), if_pos (by rw [List.length_reverse, List.length_cons]; omega)]
    rw [show (-1 + ((x :: r).reverse.length : Int)).toNat = r.length by rw [List.length_reverse, List.length_cons]; omega]
    exact h
  simp only [fIx, getS]
  rw [e]
theorem cut_last {x : D} {r : List D} : Dn.cutD (x :: r).reverse none (some (-1)) = r.reverse := by
  unfold Dn.cutD
  rw [HT.sIx_none, List.drop_zero, Nat.sub_zero]
  have : HT.sIx (x :: r).reverse.length (x :: r).reverse.length (some (-1)) = r.length := by
    show (if (-1 : Int) < 0 then ((-1 : Int) + ((x :: r).reverse.length : Int)).toNat else min (-1 : Int).toNat (x :: r).reverse.length) = _
    rw [if_pos (by decide), List.length_reverse, List.length_cons]
    omega
  rw [this, List.reverse_cons, List.take_append_of_le_length (by simp), List.take_of_length_le (by simp)]
abbrev lgT : Dn.Env → Sto → Rs Bool := asTru (m2 (fAnd) (mVar 4) (mC (.int 1)))
abbrev lgB : Dn.Env → Sto → Sr := sSeq (sAsg (gNm 3) (mCall (d_sealed) (lCons (mVar 0) (lCons (mTup (lCons (mC (.str [110, 111, 100, 101])) (lCons (m2 fIx (mVar 6) (m1 fNeg (mC (.int 1)))) (lCons (mVar 3) (lNil))))) (lNil))))) (sSeq (sAsg (gNm 6) (mSl false (mVar 6) (oNone) (oSome (m1 fNeg (mC (.int 1)))))) (sAsg (gNm 4) (m2 (fShr) (mVar 4) (mC (.int 1)))))
abbrev lgE (s : Sr0) (a1 a2 : D) (n : Nat) (last : D) (left : Nat) (stk : List D) : Dn.Env := [some (slD s), some a1, some a2, some last, some (.int (left : Nat)), some (.int (n : Nat)), some (.tup stk.reverse)]
theorem lg_step {s : Sr0} (hk : okSl s) {a1 a2 : D} {n : Nat} {last x : D} {left : Nat} {r : List D} (hx : isS s x) (hl : isS s last) {st : Sto} :
    lgB (lgE s a1 a2 n last left (x :: r)) st = .nx (lgE s a1 a2 n ((slF s).node x last) (left / 2) r) st := by
  have e1 : sAsg (gNm 3) (mCall (d_sealed) (lCons (mVar 0) (lCons (mTup (lCons (mC (.str [110, 111, 100, 101])) (lCons (m2 fIx (mVar 6) (m1 fNeg (mC (.int 1)))) (lCons (mVar 3) (lNil))))) (lNil)))) (lgE s a1 a2 n last left (x :: r)) st = .nx (lgE s a1 a2 n ((slF s).node x last) left (x :: r)) st :=
    asg_of ((call2 (T := st) (U := st) (e := .tup [wD, x, last]) rfl (tup_of (lcons_of (T := st) rfl (lcons_of (m2_of rfl neg1 last_ix) (lcons_of rfl rfl))) (by show 3 ≤ sz; decide))).trans (seal_node hk hx hl))
  have e2 : sAsg (gNm 6) (mSl false (mVar 6) (oNone) (oSome (m1 fNeg (mC (.int 1))))) (lgE s a1 a2 n ((slF s).node x last) left (x :: r)) st = .nx (lgE s a1 a2 n ((slF s).node x last) left r) st := by
    refine asg_of (k := 6) (d := .tup r.reverse) ?_
    show Rs.ok (D.tup (Dn.cutD (x :: r).reverse none (some (-1)))) st = _
    rw [cut_last]
  have e3 : sAsg (gNm 4) (m2 (fShr) (mVar 4) (mC (.int 1))) (lgE s a1 a2 n ((slF s).node x last) left r) st = .nx (lgE s a1 a2 n ((slF s).node x last) (left / 2) r) st :=
    asg_of (k := 4) (d := .int ((left / 2 : Nat) : Int)) (m2_of rfl rfl (by simp [fShr, Dn.opI]))
  unfold lgB
  show sSeq _ _ _ st = _
  unfold sSeq
  rw [e1]
  dsimp only
  rw [e2]
  exact e3
theorem lg_loop {s : Sr0} (hk : okSl s) {a1 a2 : D} {n : Nat} {st : Sto} : ∀ (f left : Nat) (last : D) (stk : List D), left < 2 ^ f → (∀ x ∈ stk, isS s x) → isS s last → (∀ k, left % 2 ^ (k + 1) = 2 ^ (k + 1) - 1 → k < stk.length) →
    ∃ last' left' stk', loopW lgT lgB (f + 1) (lgE s a1 a2 n last left stk) st = .nx (lgE s a1 a2 n last' left' stk') st ∧ last' :: stk' = Mk.carry (slF s) f left stk last
  | 0, left, last, stk, hf, hs, hl, hd => by
    have : left = 0 := by simpa using hf
    subst this
    exact ⟨last, 0, stk, rfl, rfl⟩
  | f + 1, left, last, stk, hf, hs, hl, hd => by
    have ht : lgT (lgE s a1 a2 n last left stk) st = .ok (decide (left % 2 = 1)) st := by
      have h1 : m2 (fAnd) (mVar 4) (mC (.int 1)) (lgE s a1 a2 n last left stk) st = .ok (.int ((left : Int) % 2)) st := m2_of rfl rfl (by simp [fAnd, Dn.opI, bitAnd_m1])
      unfold lgT asTru
      rw [h1]
      have : (((left : Int) % 2) != 0) = decide (left % 2 = 1) := by
        by_cases z : left % 2 = 1
        · rw [decide_eq_true z]
          have : (left : Int) % 2 = 1 := by omega
          rw [this]; rfl
        · rw [decide_eq_false z]
          have : (left : Int) % 2 = 0 := by omega
          rw [this]; rfl
      show (match (some (((left : Int) % 2) != 0)) with | some k => Rs.ok k st | none => .no) = _
      rw [this]
    unfold loopW
    rw [ht]
    by_cases z : left % 2 = 1
    · rw [decide_eq_true z]
      have h0 := hd 0 (by simpa using z)
      obtain ⟨x, r, rfl⟩ : ∃ x r, stk = x :: r := by
        cases stk with
        | nil => simp at h0
        | cons x r => exact ⟨x, r, rfl⟩
      dsimp only [Rs.thn]
      rw [lg_step hk (hs x List.mem_cons_self) hl]
      dsimp only
      obtain ⟨last', left', stk', e1, e2⟩ := lg_loop hk (a1 := a1) (a2 := a2) (n := n) (st := st) f (left / 2) ((slF s).node x last) r (by rw [Nat.pow_succ] at hf; omega) (fun y hy => hs y (List.mem_cons_of_mem _ hy)) (isS_node (hs x List.mem_cons_self) hl) (fun k hk' => by
        have := hd (k + 1) (by
          have e : left = 2 * (left / 2) + 1 := by omega
          have : 2 ^ (k + 1 + 1) = 2 * 2 ^ (k + 1) := by rw [Nat.pow_succ]; omega
          rw [this, Nat.mod_mul, z, hk']
          have : 0 < 2 ^ (k + 1) := Nat.pow_pos (by omega)
          omega)
        simp at this
        exact this)
      refine ⟨last', left', stk', e1, ?_⟩
      rw [e2]
      show _ = Mk.carry (slF s) (f + 1) left (x :: r) last
      rw [Mk.carry, if_pos z]
    · rw [decide_eq_false z]
      refine ⟨last, left, stk, rfl, ?_⟩
      unfold Mk.carry
      rw [if_neg z]
end Lk28
end

section
set_option linter.all false
set_option maxRecDepth 100000
set_option maxHeartbeats 1000000
namespace Mk
section
variable {S E : Type} {sl : Sl S E}
theorem Stk.ones {n k : Nat} {es : List E} {st : List S} (h : Stk sl n k es st) : ∀ j, n % 2 ^ (j + 1) = 2 ^ (j + 1) - 1 → j < st.length := by
  induction h with
  | zero k =>
    intro j hj
    have : 2 ≤ 2 ^ (j + 1) := by
      have := Nat.pow_le_pow_right (n := 2) (by omega) (show 1 ≤ j + 1 by omega)
      simpa using this
    rw [Nat.zero_mod] at hj
    omega
  | even m k hm es st h ih =>
    intro j hj
    have e : 2 ^ (j + 1) = 2 * 2 ^ j := by rw [Nat.pow_succ]; omega
    have hp : 0 < 2 ^ j := Nat.pow_pos (by omega)
    rw [e, Nat.mul_mod_mul_left] at hj
    omega
  | odd m k es bs b st hb r h ih =>
    intro j hj
    cases j with
    | zero => simp
    | succ j =>
      have e : 2 ^ (j + 1 + 1) = 2 * 2 ^ (j + 1) := by rw [Nat.pow_succ]; omega
      rw [e, Nat.mod_mul, show (2 * m + 1) % 2 = 1 by omega, show (2 * m + 1) / 2 = m by omega] at hj
      have := ih j (by omega)
      simp
      exact this
theorem Stk.all {n k : Nat} {es : List E} {st : List S} (h : Stk sl n k es st) : ∀ x ∈ st, ∃ bs, Rt sl bs x := by
  induction h with
  | zero k => intro x hx; cases hx
  | even m k hm es st h ih => exact ih
  | odd m k es bs b st hb r h ih =>
    intro x hx
    rcases List.mem_cons.mp hx with rfl | hx
    · exact ⟨bs, r⟩
    · exact ih x hx
theorem Stk.size {n k : Nat} {es : List E} {st : List S} (h : Stk sl n k es st) : es.length = n * 2 ^ k := by
  induction h with
  | zero k => simp
  | even m k hm es st h ih => rw [ih, Nat.pow_succ]; rw [Nat.mul_comm 2 m, Nat.mul_assoc, Nat.mul_comm 2]
  | odd m k es bs b st hb r h ih =>
    rw [List.length_append, hb, ih, Nat.pow_succ, Nat.add_mul, Nat.one_mul, Nat.mul_comm 2 m, Nat.mul_assoc, Nat.mul_comm 2]
theorem Stk.len {n k : Nat} {es : List E} {st : List S} (h : Stk sl n k es st) : st.length ≤ n := by
  induction h with
  | zero k => simp
  | even m k hm es st h ih => omega
  | odd m k es bs b st hb r h ih => simp; omega
theorem fold_snoc (sl : Sl S E) (x : S) : ∀ (l : List S) (t : S), fold sl (l ++ [x]) t = sl.node x (fold sl l t)
  | [], t => rfl
  | y :: l, t => fold_snoc sl x l (sl.node y t)
end
end Mk
namespace Lk28
open PySem PySem.Spec PyProof.Rows L2 Dn
theorem stk_isS {s : Sr0} {n k : Nat} {es : List (List Nat)} {stk : List D} (h : Mk.Stk (slF s) n k es stk) : ∀ x ∈ stk, isS s x := fun x hx => by
  obtain ⟨bs, r⟩ := h.all x hx
  exact isS_rt r
theorem nat_pow (n : Nat) : n < 2 ^ n := Nat.lt_two_pow_self
theorem longer_ok {s : Sr0} (hk : okSl s) {n : Nat} (hn : n ≤ 1000) {es : List (List Nat)} {stk : List D} (h : Mk.Stk (slF s) n 0 es stk) {e : List Nat} (he : e.length < sz) {st : Sto} :
    ∃ stk2, d__longer [slD s, tops n stk, .str e] st = .ok (tops (n + 1) stk2) st ∧ Mk.Stk (slF s) (n + 1) 0 (es ++ [e]) stk2 := by
  have hp : n < 2 ^ 1999 := Nat.lt_of_lt_of_le (nat_pow n) (Nat.pow_le_pow_right (by omega) (by omega))
  obtain ⟨last', left', stk', e1, e2⟩ := lg_loop hk (a1 := tops n stk) (a2 := .str e) (n := n) (st := st) 1999 n ((slF s).leaf e) stk hp (stk_isS h) isS_leaf h.ones
  have hc := Mk.carry_ok (slF s) 1999 n 0 es [e] stk ((slF s).leaf e) hp h rfl (Mk.Rt.leaf e)
  rw [← e2] at hc
  refine ⟨last' :: stk', ?_, hc⟩
  have hlen := hc.len
  rw [show d__longer = dFn 7 b__longer from rfl, dFn_fin]
  show fin (b__longer [some (slD s), some (tops n stk), some (.str e), none, none, none, none] st) = _
  unfold b__longer
  refine fin_seq (E' := [some (slD s), some (tops n stk), some (.str e), none, none, some (.int (n : Nat)), some (.tup stk.reverse)]) (S' := st) rfl ?_
  refine fin_seq (E' := [some (slD s), some (tops n stk), some (.str e), some ((slF s).leaf e), none, some (.int (n : Nat)), some (.tup stk.reverse)]) (S' := st) (asg_of ((call2 (T := st) (U := st) (e := .tup [wL, .str e]) rfl rfl).trans (seal_leaf hk he))) ?_
  refine fin_seq (E' := lgE s (tops n stk) (.str e) n ((slF s).leaf e) n stk) (S' := st) rfl ?_
  refine fin_seq (by exact e1) (fin_ret' ?_)
  refine tup_of (ds := [.int ((n + 1 : Nat) : Int), .tup (last' :: stk').reverse]) (lcons_of (T := st) rfl (lcons_of (T := st) ?_ rfl)) (by show 2 ≤ sz; decide)
  refine tup_of (ds := (last' :: stk').reverse) ?_ ?_
  · rw [List.reverse_cons]; rfl
  · rw [List.length_reverse]; exact Nat.le_trans hlen (by show n + 1 ≤ 16777216; omega)
theorem tops_ok {s : Sr0} (hk : okSl s) {es : List (List Nat)} {c : D} (hc : itA c = some (.one (.fix (es.map D.str)))) (hl : es.length ≤ 1000) (he : ∀ e ∈ es, e.length < sz) {st : Sto} : ∃ stk, d_tops_of [slD s, c] st = .ok (tops es.length stk) st ∧ Mk.Stk (slF s) es.length 0 es stk := by
  rw [show d_tops_of = dFn 4 b_tops_of from rfl, dFn_fin]
  show ∃ stk, fin (b_tops_of [some (slD s), some (c), none, none] st) = _ ∧ _
  unfold b_tops_of
  obtain ⟨E2, e1, stk, x, e2, hs⟩ := for_seq (S := st) (d := c) (xs := es.map D.str) (m := mVar 1) (tg := gNm 3) (body := sAsg (gNm 2) (mCall (d__longer) (lCons (mVar 0) (lCons (mVar 2) (lCons (mVar 3) (lNil))))))
      (E := [some (slD s), some (c), some (tops 0 []), none])
      (fun i env => ∃ stk x, env = [some (slD s), some (c), some (tops i stk), x] ∧ Mk.Stk (slF s) i 0 (es.take i) stk) rfl hc ⟨[], none, rfl, Mk.Stk.zero 0⟩ (fun i d env hd ⟨stk, x, he', hs⟩ => by
        subst he'
        rw [List.getElem?_map] at hd
        obtain ⟨e, hi, rfl⟩ := Option.map_eq_some_iff.mp hd
        have hi' := (List.getElem?_eq_some_iff.mp hi).1
        obtain ⟨stk2, q1, q2⟩ := longer_ok hk (n := i) (by omega) hs (he e (List.mem_of_getElem? hi)) (st := st)
        refine ⟨[some (slD s), some (c), some (tops i stk), some (.str e)], [some (slD s), some (c), some (tops (i + 1) stk2), some (.str e)], rfl, ?_, ⟨stk2, some (.str e), rfl, by rw [take_succ hi]; exact q2⟩⟩
        exact asg_of (k := 2) ((call_of (T := st) (lcons_of (T := st) rfl (lcons_of (T := st) rfl (lcons_of (T := st) rfl rfl)))).trans q1))
  rw [List.length_map] at e2 hs
  subst e2
  rw [List.take_length] at hs
  refine ⟨stk, ?_, hs⟩
  exact fin_seq (E' := [some (slD s), some (c), some (tops 0 []), none]) (S' := st) rfl (fin_seq e1 (fin_ret' rfl))
theorem rev2 {x : D} {r : List D} : ((x :: r).reverse.take (revN (some (-2)) (x :: r).reverse.length)).reverse = r := by
  have : revN (some (-2)) (x :: r).reverse.length = r.length := by
    show (if (-2 : Int) < 0 then ((-2 : Int) + ((x :: r).reverse.length : Nat) + 1).toNat else min ((-2 : Int).toNat + 1) (x :: r).reverse.length) = _
    rw [if_pos (by decide), List.length_reverse, List.length_cons]
    omega
  rw [this, List.reverse_cons, List.take_append_of_le_length (by simp), List.take_of_length_le (by simp), List.reverse_reverse]
theorem head_none {s : Sr0} (hk : okSl s) {st : Sto} : d__head [slD s, tops 0 []] st = .ok (.tup [.int 0, (slF s).non]) st := by
  rw [show d__head = dFn 6 b__head from rfl, dFn_fin]
  show fin (b__head [some (slD s), some (tops 0 []), none, none, none, none] st) = _
  unfold b__head
  refine fin_seq (E' := [some (slD s), some (tops 0 []), none, none, some (.int 0), some (.tup [])]) (S' := st) rfl (fin_take (S' := st) rfl ?_)
  exact tup_of (ds := [.int 0, (slF s).non]) (lcons_of (T := st) rfl (lcons_of (T := st) ((call2 (T := st) (U := st) (e := .tup [wN]) rfl rfl).trans (seal_none hk)) rfl)) (by show 2 ≤ sz; decide)
theorem head_some {s : Sr0} (hk : okSl s) {n : Nat} {x : D} {r : List D} (hx : isS s x) (hr : ∀ y ∈ r, isS s y) {st : Sto} : d__head [slD s, tops n (x :: r)] st = .ok (.tup [.int (n : Nat), Mk.fold (slF s) r x]) st := by
  rw [show d__head = dFn 6 b__head from rfl, dFn_fin]
  show fin (b__head [some (slD s), some (tops n (x :: r)), none, none, none, none] st) = _
  unfold b__head
  let E0 : D → Option D → Dn.Env := fun t y => [some (slD s), some (tops n (x :: r)), some t, y, some (.int (n : Nat)), some (.tup (x :: r).reverse)]
  refine fin_seq (E' := [some (slD s), some (tops n (x :: r)), none, none, some (.int (n : Nat)), some (.tup (x :: r).reverse)]) (S' := st) rfl ?_
  refine fin_skip (S' := st) ?_ ?_
  · have : tru (.tup (x :: r).reverse) st = some true := by
      show some (!(x :: r).reverse.isEmpty) = _
      rw [List.isEmpty_reverse]; rfl
    show (asTru (mVar 5) [some (slD s), some (tops n (x :: r)), none, none, some (.int (n : Nat)), some (.tup (x :: r).reverse)] st).bind (fun b st1 => Rs.ok (!b) st1) = _
    unfold asTru
    show (tru' (.tup (x :: r).reverse) st).bind _ = _
    unfold tru'
    rw [this]
    rfl
  refine fin_seq (E' := E0 x none) (S' := st) (asg_of (k := 2) (m2_of rfl neg1 last_ix)) ?_
  have hm : mRev false (mVar 5) (oSome (m1 fNeg (mC (.int 2)))) (E0 x none) st = .ok (.tup r) st := by
    show Rs.ok (D.tup ((x :: r).reverse.take (revN (some (-2)) (x :: r).reverse.length)).reverse) st = _
    rw [rev2]
  obtain ⟨E2, e1, y, e2⟩ := for_tup (S := st) (xs := r) (m := mRev false (mVar 5) (oSome (m1 fNeg (mC (.int 2))))) (tg := gNm 3) (body := sAsg (gNm 2) (mCall (d_sealed) (lCons (mVar 0) (lCons (mTup (lCons (mC (.str [110, 111, 100, 101])) (lCons (mVar 3) (lCons (mVar 2) (lNil))))) (lNil)))))
      (E := E0 x none) (fun i env => ∃ y, env = E0 (Mk.fold (slF s) (r.take i) x) y) hm ⟨none, rfl⟩ (fun i d env hd ⟨y, he⟩ => by
        subst he
        have hS : isS s (Mk.fold (slF s) (r.take i) x) := by
          have : ∀ (l : List D) (t : D), (∀ y ∈ l, isS s y) → isS s t → isS s (Mk.fold (slF s) l t) := by
            intro l
            induction l with
            | nil => exact fun t _ h => h
            | cons z l ih => exact fun t hl ht => ih _ (fun y hy => hl y (List.mem_cons_of_mem _ hy)) (isS_node (hl z List.mem_cons_self) ht)
          exact this _ _ (fun y hy => hr y (List.mem_of_mem_take hy)) hx
        refine ⟨E0 (Mk.fold (slF s) (r.take i) x) (some d), E0 (Mk.fold (slF s) (r.take (i + 1)) x) (some d), rfl, ?_, ⟨some d, rfl⟩⟩
        rw [take_succ hd, Mk.fold_snoc]
        exact asg_of (k := 2) ((call2 (T := st) (U := st) (e := .tup [wD, d, Mk.fold (slF s) (r.take i) x]) rfl rfl).trans (seal_node hk (hr d (List.mem_of_getElem? hd)) hS)))
  rw [List.take_length] at e2
  subst e2
  exact fin_seq e1 (fin_ret' rfl)
/-- the program's root of a row -/
theorem root_ok {s : Sr0} (hk : okSl s) {es : List (List Nat)} {c : D} (hc : itA c = some (.one (.fix (es.map D.str)))) (h0 : 0 < es.length) (hl : es.length ≤ 1000) (he : ∀ e ∈ es, e.length < sz) {st : Sto} : ∃ t, d_root [slD s, c] st = .ok t st ∧ Mk.Rt (slF s) es t := by
  obtain ⟨stk, e1, hs⟩ := tops_ok hk hc hl he (st := st)
  obtain ⟨b, r, rfl, hr⟩ := Mk.head_ok (slF s) hs h0
  have hS := stk_isS hs
  refine ⟨_, ?_, hr⟩
  rw [show d_root = dFn 2 b_root from rfl, dFn_fin]
  show fin (b_root [some (slD s), some (c)] st) = _
  unfold b_root
  refine fin_ret' (m2_of (a := .tup [.int (es.length : Nat), Mk.fold (slF s) r b]) (T := st) ?_ rfl rfl)
  refine (call2 (T := st) (U := st) rfl rfl).trans ?_
  rw [show d_head_of = dFn 2 b_head_of from rfl, dFn_fin]
  show fin (b_head_of [some (slD s), some (c)] st) = _
  unfold b_head_of
  exact fin_ret' ((call2 (T := st) (U := st) (e := tops es.length (b :: r)) rfl ((call2 (T := st) (U := st) rfl rfl).trans e1)).trans (head_some hk (hS b List.mem_cons_self) (fun y hy => hS y (List.mem_cons_of_mem _ hy))))
end Lk28
end

section
set_option linter.all false
set_option maxRecDepth 100000
set_option maxHeartbeats 1000000
namespace Lk28
open PySem PySem.Spec PyProof.Rows L2 Dn
/-! ### what is plain, and equality -/
inductive PL : Nat → D → Prop
  | str (n : Nat) (l : List Nat) (h : allL (fun c => decide (c < 0x110000)) l = true) : PL (n + 1) (.str l)
  | int (n : Nat) (i : Int) : PL (n + 1) (.int i)
  | tup (n : Nat) (ds : List D) (h : ∀ d ∈ ds, PL n d) : PL (n + 1) (.tup ds)
theorem PL.mono {n : Nat} {d : D} (h : PL n d) : ∀ {m : Nat}, n ≤ m → PL m d := by
  induction h with
  | str n l h =>
    intro m hm
    obtain ⟨m, rfl⟩ : ∃ k, m = k + 1 := ⟨m - 1, by omega⟩
    exact PL.str m l h
  | int n i =>
    intro m hm
    obtain ⟨m, rfl⟩ : ∃ k, m = k + 1 := ⟨m - 1, by omega⟩
    exact PL.int m i
  | tup n ds h ih =>
    intro m hm
    obtain ⟨m, rfl⟩ : ∃ k, m = k + 1 := ⟨m - 1, by omega⟩
    exact PL.tup m ds fun d hd => ih d hd (by omega)
theorem allL_of {α : Type} {f : α → Bool} : ∀ {l : List α}, (∀ x ∈ l, f x = true) → allL f l = true
  | [], _ => rfl
  | x :: l, h => by
    show (f x && allL f l) = true
    rw [h x List.mem_cons_self, allL_of fun y hy => h y (List.mem_cons_of_mem _ hy)]
    rfl
theorem PL.ok {n : Nat} {d : D} (st : Sto) (h : PL n d) : okD n st d = true := by
  induction h with
  | str n l h => exact h
  | int n i => rfl
  | tup n ds h ih => exact allL_of ih
theorem eqL_dec {f : D → D → Bool} : ∀ (xs ys : List D), (∀ x ∈ xs, ∀ y ∈ ys, (f x y = true ↔ x = y)) → (eqL f xs ys = true ↔ xs = ys)
  | [], [], _ => ⟨fun _ => rfl, fun _ => rfl⟩
  | [], _ :: _, _ => ⟨(fun h => by cases h), (fun h => by cases h)⟩
  | _ :: _, [], _ => ⟨(fun h => by cases h), (fun h => by cases h)⟩
  | x :: xs, y :: ys, h => by
    have ih := eqL_dec xs ys fun a ha b hb => h a (List.mem_cons_of_mem _ ha) b (List.mem_cons_of_mem _ hb)
    have h0 := h x List.mem_cons_self y List.mem_cons_self
    show (f x y && eqL f xs ys) = true ↔ _
    rw [Bool.and_eq_true, h0, ih]
    constructor
    · rintro ⟨rfl, rfl⟩; rfl
    · intro e; cases e; exact ⟨rfl, rfl⟩
theorem PL.eq {n : Nat} {st : Sto} {a : D} (ha : PL n a) : ∀ {b : D}, PL n b → (eqD n st a b = true ↔ a = b) := by
  induction ha with
  | str n l h =>
    intro b hb
    cases hb with
    | str _ m _ =>
      show decide (l = m) = true ↔ _
      rw [decide_eq_true_eq]
      exact ⟨fun e => by rw [e], fun e => by cases e; rfl⟩
    | int _ i => exact ⟨(fun e => by cases e), (fun e => by cases e)⟩
    | tup _ ds _ => exact ⟨(fun e => by cases e), (fun e => by cases e)⟩
  | int n i =>
    intro b hb
    cases hb with
    | str _ m _ => exact ⟨(fun e => by cases e), (fun e => by cases e)⟩
    | int _ j =>
      show (i == j) = true ↔ _
      rw [beq_iff_eq]
      exact ⟨fun e => by rw [e], fun e => by cases e; rfl⟩
    | tup _ ds _ => exact ⟨(fun e => by cases e), (fun e => by cases e)⟩
  | tup n xs h ih =>
    intro b hb
    cases hb with
    | str _ m _ => exact ⟨(fun e => by cases e), (fun e => by cases e)⟩
    | int _ j => exact ⟨(fun e => by cases e), (fun e => by cases e)⟩
    | tup _ ys hy =>
      show eqL (eqD n st) xs ys = true ↔ _
      rw [eqL_dec xs ys fun x hx y hy' => ih x hx (hy y hy')]
      exact ⟨fun e => by rw [e], fun e => by cases e; rfl⟩
/-- is it another one -/
noncomputable def ne (a b : D) : Bool := @decide (a ≠ b) (Classical.propDecidable _)
theorem ne_same (a : D) : ne a a = false := by
  unfold ne
  exact @decide_eq_false _ (Classical.propDecidable _) (fun z => z rfl)
theorem ne_diff {a b : D} (h : a ≠ b) : ne a b = true := by
  unfold ne
  exact @decide_eq_true _ (Classical.propDecidable _) h
theorem ne_iff {a b : D} : ne a b = true ↔ a ≠ b := ⟨(fun h e => by rw [e, ne_same] at h; cases h), ne_diff⟩
theorem ne_comm (a b : D) : ne a b = ne b a := by
  by_cases e : a = b
  · rw [e]
  · rw [ne_diff e, ne_diff (fun z => e z.symm)]
theorem fne_ok {a b : D} (ha : PL 64 a) (hb : PL 64 b) {st : Sto} : fEq true a b st = .ok (.bl (ne a b)) st := by
  have gen : (if okD 64 st a && okD 64 st b then Rs.ok (D.bl (true != eqD 64 st a b)) st else .no) = .ok (.bl (ne a b)) st := by
    rw [ha.ok st, hb.ok st]
    have : (true != eqD 64 st a b) = ne a b := by
      by_cases e : a = b
      · rw [(ha.eq hb).mpr e, e, ne_same]; rfl
      · have : eqD 64 st a b = false := by
          cases q : eqD 64 st a b with
          | false => rfl
          | true => exact absurd ((ha.eq hb).mp q) e
        rw [this, ne_diff e]; rfl
    rw [this]
    rfl
  cases ha with
  | str _ l _ =>
    cases hb with
    | str _ m _ =>
      show Rs.ok (D.bl (true != decide (l = m))) st = _
      by_cases e : l = m
      · subst e; rw [decide_eq_true rfl, ne_same]; rfl
      · rw [decide_eq_false e, ne_diff (fun z => e (by cases z; rfl))]; rfl
    | int _ i => exact gen
    | tup _ ds _ => exact gen
  | int _ i =>
    cases hb with
    | str _ m _ => exact gen
    | int _ j =>
      show Rs.ok (D.bl (true != decide (i = j))) st = _
      by_cases e : i = j
      · subst e; rw [decide_eq_true rfl, ne_same]; rfl
      · rw [decide_eq_false e, ne_diff (fun z => e (by cases z; rfl))]; rfl
    | tup _ ds _ => exact gen
  | tup _ xs _ =>
    cases hb with
    | str _ m _ => exact gen
    | int _ i => exact gen
    | tup _ ds _ => exact gen
/-- roots are plain -/
abbrev okE (e : List Nat) : Prop := allL (fun c => decide (c < 0x110000)) e = true ∧ e.length < sz
theorem rt_plain {s : Sr0} {es : List (List Nat)} {t : D} (h : Mk.Rt (slF s) es t) : (∀ e ∈ es, okE e) → ∀ k, es.length ≤ 2 ^ k → PL (k + 3) t := by
  cases s with
  | some p =>
    intro he k hk
    obtain ⟨i, rfl⟩ := isS_rt h
    exact PL.int _ i
  | none =>
    induction h with
    | leaf e =>
      intro he k hk
      exact PL.tup (k + 2) _ fun d hd => by
        simp at hd
        rcases hd with rfl | rfl
        · exact PL.str (k + 1) _ (by decide)
        · exact PL.str (k + 1) _ (he e (by simp)).1
    | node xs ys a b j hx h0 hy ha hb iha ihb =>
      intro he k hk
      rw [List.length_append, hx] at hk
      have hp : 0 < 2 ^ j := Nat.pow_pos (by omega)
      have hj : j < k := by
        by_cases z : j < k
        · exact z
        · have : 2 ^ k ≤ 2 ^ j := Nat.pow_le_pow_right (by omega) (by omega)
          omega
      obtain ⟨k, rfl⟩ : ∃ m, k = m + 1 := ⟨k - 1, by omega⟩
      have hjk : 2 ^ j ≤ 2 ^ k := Nat.pow_le_pow_right (by omega) (by omega)
      exact PL.tup (k + 3) _ fun d hd => by
        simp at hd
        rcases hd with rfl | rfl | rfl
        · exact PL.str (k + 2) _ (by decide)
        · exact iha (fun e h => he e (List.mem_append_left _ h)) k (by omega)
        · exact ihb (fun e h => he e (List.mem_append_right _ h)) k (by omega)
/-- by the whole sealer unlike rows have unlike roots -/
theorem rt_inj {es fs : List (List Nat)} {t : D} (h : Mk.Rt (slF none) es t) : ∀ {fs : List (List Nat)}, Mk.Rt (slF none) fs t → es.length = fs.length → es = fs := by
  induction h with
  | leaf e =>
    intro fs q hl
    rcases q.inv with ⟨e', rfl, hu⟩ | ⟨xs, ys, a, b, k, rfl, hx, h0, hy, hu, _, _⟩
    · have : e = e' := by
        have z : D.tup [wL, .str e] = .tup [wL, .str e'] := hu
        cases z; rfl
      rw [this]
    · have z : D.tup [wL, .str e] = .tup [wD, a, b] := hu
      cases z
  | node xs ys a b k hx h0 hy ha hb iha ihb =>
    intro fs q hl
    rcases q.inv with ⟨e', rfl, hu⟩ | ⟨xs', ys', a', b', k', rfl, hx', h0', hy', hu, ha', hb'⟩
    · have z : D.tup [wD, a, b] = .tup [wL, .str e'] := hu
      cases z
    · have z : D.tup [wD, a, b] = .tup [wD, a', b'] := hu
      cases z
      rw [List.length_append, List.length_append, hx, hx'] at hl
      have hk : 0 < 2 ^ k := Nat.pow_pos (by omega)
      have ek : k = k' := Mk.pow_uniq (n := 2 ^ k + ys.length) (by omega) (by rw [Nat.pow_succ]; omega) (by omega) (by rw [Nat.pow_succ]; omega)
      subst ek
      rw [iha ha' (by omega), ihb hb' (by omega)]
end Lk28
end

section
set_option linter.all false
set_option maxRecDepth 100000
set_option maxHeartbeats 1000000
namespace Lk28
open PySem PySem.Spec PyProof.Rows L2 Dn
/-- a row as a tuple (true) or a list -/
def cn (b : Bool) (es : List (List Nat)) : D := if b then .tup (es.map D.str) else .lst (es.map D.str)
theorem cn_it (b : Bool) (es : List (List Nat)) : itA (cn b es) = some (.one (.fix (es.map D.str))) := by cases b <;> rfl
theorem cn_len (b : Bool) (es : List (List Nat)) (st : Sto) : fLen [cn b es] st = .ok (.int (es.length : Nat)) st := by
  cases b <;> simp [cn, fLen, getS, getL]
def sub (b e : Nat) (es : List (List Nat)) : List (List Nat) := (es.drop b).take (e - b)
theorem sub_len {b e : Nat} {es : List (List Nat)} (h : e ≤ es.length) : (sub b e es).length = e - b := by
  unfold sub
  rw [List.length_take, List.length_drop]
  omega
theorem sub_mem {b e : Nat} {es : List (List Nat)} {x : List Nat} (h : x ∈ sub b e es) : x ∈ es := List.mem_of_mem_drop (List.mem_of_mem_take h)
theorem cut_sub {b e : Nat} {es : List (List Nat)} (hbe : b ≤ e) (he : e ≤ es.length) : Dn.cutD (es.map D.str) (some ((b : Nat) : Int)) (some ((e : Nat) : Int)) = (sub b e es).map D.str := by
  unfold Dn.cutD sub
  rw [HT.sIx_nat, HT.sIx_nat, List.length_map, show min b es.length = b by omega, show min e es.length = e by omega, List.map_take, List.map_drop]
theorem cn_sl {tb : Bool} {b e : Nat} {es : List (List Nat)} (hbe : b ≤ e) (he : e ≤ es.length) (st : Sto) : fSl false (cn tb es) (some ((b : Nat) : Int)) (some ((e : Nat) : Int)) st = .ok (cn tb (sub b e es)) st := by
  cases tb with
  | true =>
    show Rs.ok (D.tup (Dn.cutD (es.map D.str) (some ((b : Nat) : Int)) (some ((e : Nat) : Int)))) st = _
    rw [cut_sub hbe he]; rfl
  | false =>
    show Rs.ok (D.lst (Dn.cutD (es.map D.str) (some ((b : Nat) : Int)) (some ((e : Nat) : Int)))) st = _
    rw [cut_sub hbe he]; rfl
abbrev pr (b e : Nat) : D := .tup [.int (b : Nat), .int (e : Nat)]
abbrev okR (es : List (List Nat)) : Prop := es.length ≤ 1000 ∧ ∀ e ∈ es, okE e
theorem stretch_ok {s : Sr0} (hk : okSl s) {tb : Bool} {es : List (List Nat)} (hr : okR es) {b e : Nat} (hbe : b < e) (he : e ≤ es.length) {st : Sto} : ∃ t, d_seal_of_stretch [slD s, cn tb es, pr b e] st = .ok t st ∧ Mk.Rt (slF s) (sub b e es) t := by
  have hl := sub_len (b := b) he
  obtain ⟨t, e1, r⟩ := root_ok hk (cn_it tb (sub b e es)) (by omega) (by have := hr.1; omega) (fun x hx => (hr.2 x (sub_mem hx)).2) (st := st)
  refine ⟨t, ?_, r⟩
  rw [show d_seal_of_stretch = dFn 5 b_seal_of_stretch from rfl, dFn_fin]
  show fin (b_seal_of_stretch [some (slD s), some (cn tb es), some (pr b e), none, none] st) = _
  unfold b_seal_of_stretch
  refine fin_seq (E' := [some (slD s), some (cn tb es), some (pr b e), some (.int (b : Nat)), some (.int (e : Nat))]) (S' := st) rfl ?_
  have hn : ¬ ((es.length : Int) < (e : Int)) := by omega
  refine fin_skip (S' := st) (asT_of (m2_of rfl ((call1 (d := cn tb es) (T := st) rfl).trans (cn_len tb es st)) (by simp [fGt, fOrder, hn]))) (fin_ret' ?_)
  exact (call2 (T := st) (U := st) rfl (by exact cn_sl (by omega) he st)).trans e1
/-- have the stretches unlike roots -/
noncomputable def UU (s : Sr0) (es fs : List (List Nat)) (b e : Nat) : Bool := @decide (∃ t u, Mk.Rt (slF s) (sub b e es) t ∧ Mk.Rt (slF s) (sub b e fs) u ∧ t ≠ u) (Classical.propDecidable _)
theorem uu_ne {s : Sr0} {es fs : List (List Nat)} {b e : Nat} {t u : D} (h1 : Mk.Rt (slF s) (sub b e es) t) (h2 : Mk.Rt (slF s) (sub b e fs) u) : UU s es fs b e = ne t u := by
  unfold UU
  by_cases z : t = u
  · rw [z, ne_same]
    exact @decide_eq_false _ (Classical.propDecidable _) fun ⟨t', u', a, b, c⟩ => c (by rw [a.uniq h1, b.uniq h2, z])
  · rw [ne_diff z]
    exact @decide_eq_true _ (Classical.propDecidable _) ⟨t, u, h1, h2, z⟩
theorem uu_comm (s : Sr0) (es fs : List (List Nat)) (b e : Nat) : UU s es fs b e = UU s fs es b e := by
  unfold UU
  by_cases z : ∃ t u, Mk.Rt (slF s) (sub b e es) t ∧ Mk.Rt (slF s) (sub b e fs) u ∧ t ≠ u
  · rw [@decide_eq_true _ (Classical.propDecidable _) z]
    obtain ⟨t, u, h1, h2, h3⟩ := z
    exact (@decide_eq_true _ (Classical.propDecidable _) ⟨u, t, h2, h1, fun q => h3 q.symm⟩).symm
  · rw [@decide_eq_false _ (Classical.propDecidable _) z]
    exact (@decide_eq_false _ (Classical.propDecidable _) fun ⟨t, u, h1, h2, h3⟩ => z ⟨u, t, h2, h1, fun q => h3 q.symm⟩).symm
theorem rt_plain64 {s : Sr0} {es : List (List Nat)} {b e : Nat} {t : D} (hr : okR es) (he : e ≤ es.length) (h : Mk.Rt (slF s) (sub b e es) t) : PL 64 t :=
  (rt_plain h (fun x hx => hr.2 x (sub_mem hx)) 10 (by rw [sub_len he]; have := hr.1; omega)).mono (by omega)
theorem unlike_ok {s : Sr0} (hk : okSl s) {tb tc : Bool} {es fs : List (List Nat)} (hr : okR es) (hr2 : okR fs) {b e : Nat} (hbe : b < e) (he : e ≤ es.length) (he2 : e ≤ fs.length) {st : Sto} :
    d__are_unlike [slD s, cn tb es, cn tc fs, pr b e] st = .ok (.bl (UU s es fs b e)) st := by
  obtain ⟨t, e1, r1⟩ := stretch_ok hk hr hbe he (tb := tb) (st := st)
  obtain ⟨u, e2, r2⟩ := stretch_ok hk hr2 hbe he2 (tb := tc) (st := st)
  rw [show d__are_unlike = dFn 4 b__are_unlike from rfl, dFn_fin]
  show fin (b__are_unlike [some (slD s), some (cn tb es), some (cn tc fs), some (pr b e)] st) = _
  unfold b__are_unlike
  refine fin_ret' (m2_of (a := t) (b := u) (T := st) (U := st) ?_ ?_ ?_)
  · exact (call_of (T := st) (lcons_of (T := st) rfl (lcons_of (T := st) rfl (lcons_of (T := st) rfl rfl)))).trans e1
  · exact (call_of (T := st) (lcons_of (T := st) rfl (lcons_of (T := st) rfl (lcons_of (T := st) rfl rfl)))).trans e2
  · rw [uu_ne r1 r2]
    exact fne_ok (rt_plain64 hr he r1) (rt_plain64 hr2 he2 r2)
/-- the way of the search: the stretches compared, the place -/
inductive Fd (U : Nat → Nat → Bool) : Nat → Nat → List (Nat × Nat) → Nat → Prop
  | one (lo : Nat) : Fd U lo (lo + 1) [] lo
  | left (lo n k p : Nat) (L : List (Nat × Nat)) (h1 : 2 ^ k < n - lo) (h2 : n - lo ≤ 2 ^ (k + 1)) (u : U lo (lo + 2 ^ k) = true) (h : Fd U lo (lo + 2 ^ k) L p) : Fd U lo n ((lo, lo + 2 ^ k) :: L) p
  | right (lo n k p : Nat) (L : List (Nat × Nat)) (h1 : 2 ^ k < n - lo) (h2 : n - lo ≤ 2 ^ (k + 1)) (u : U lo (lo + 2 ^ k) = false) (h : Fd U (lo + 2 ^ k) n L p) : Fd U lo n ((lo, lo + 2 ^ k) :: L) p
theorem Fd.in {U : Nat → Nat → Bool} {lo n p : Nat} {L : List (Nat × Nat)} (h : Fd U lo n L p) : lo ≤ p ∧ p < n := by
  induction h with
  | one lo => omega
  | left lo n k p L h1 h2 u h ih => omega
  | right lo n k p L h1 h2 u h ih => omega
theorem Fd.inv {U : Nat → Nat → Bool} {lo n p : Nat} {L : List (Nat × Nat)} (h : Fd U lo n L p) : (n = lo + 1 ∧ L = [] ∧ p = lo) ∨ ∃ k L', 2 ^ k < n - lo ∧ n - lo ≤ 2 ^ (k + 1) ∧ L = (lo, lo + 2 ^ k) :: L' ∧
    ((U lo (lo + 2 ^ k) = true ∧ Fd U lo (lo + 2 ^ k) L' p) ∨ (U lo (lo + 2 ^ k) = false ∧ Fd U (lo + 2 ^ k) n L' p)) := by
  cases h with
  | one => exact .inl ⟨rfl, rfl, rfl⟩
  | left _ _ k _ L' h1 h2 u h => exact .inr ⟨k, L', h1, h2, rfl, .inl ⟨u, h⟩⟩
  | right _ _ k _ L' h1 h2 u h => exact .inr ⟨k, L', h1, h2, rfl, .inr ⟨u, h⟩⟩
theorem Fd.uniq {U : Nat → Nat → Bool} {lo n p : Nat} {L : List (Nat × Nat)} (h : Fd U lo n L p) : ∀ {M : List (Nat × Nat)} {q : Nat}, Fd U lo n M q → L = M ∧ p = q := by
  induction h with
  | one lo =>
    intro M q g
    rcases g.inv with ⟨_, rfl, rfl⟩ | ⟨k, L', h1, _⟩
    · exact ⟨rfl, rfl⟩
    · have : 0 < 2 ^ k := Nat.pow_pos (by omega)
      omega
  | left lo n k p L h1 h2 u h ih =>
    intro M q g
    have hk : 0 < 2 ^ k := Nat.pow_pos (by omega)
    rcases g.inv with ⟨e, _, _⟩ | ⟨k', L', h1', h2', rfl, gg⟩
    · omega
    · have := Mk.pow_uniq h1 h2 h1' h2'
      subst this
      rcases gg with ⟨u', g'⟩ | ⟨u', g'⟩
      · obtain ⟨e1, e2⟩ := ih g'
        rw [e1]; exact ⟨rfl, e2⟩
      · rw [u] at u'; exact absurd u' (by decide)
  | right lo n k p L h1 h2 u h ih =>
    intro M q g
    have hk : 0 < 2 ^ k := Nat.pow_pos (by omega)
    rcases g.inv with ⟨e, _, _⟩ | ⟨k', L', h1', h2', rfl, gg⟩
    · omega
    · have := Mk.pow_uniq h1 h2 h1' h2'
      subst this
      rcases gg with ⟨u', g'⟩ | ⟨u', g'⟩
      · rw [u] at u'; exact absurd u' (by decide)
      · obtain ⟨e1, e2⟩ := ih g'
        rw [e1]; exact ⟨rfl, e2⟩
end Lk28
end

section
set_option linter.all false
set_option maxRecDepth 100000
set_option maxHeartbeats 1000000
namespace Lk28
open PySem PySem.Spec PyProof.Rows L2 Dn
def prs (L : List (Nat × Nat)) : List D := L.map fun p => pr p.1 p.2
abbrev seT : Dn.Env → Sto → Rs Bool := asT (m2 (fGt) (m2 (fSub) (m2 fIx (mVar 5) (mC (.int 1))) (m2 fIx (mVar 5) (mC (.int 0)))) (mC (.int 1)))
abbrev seB : Dn.Env → Sto → Sr := sSeq (sAsg (gTp 2 (gsCons (gNm 6) (gsCons (gNm 7) (gsNil)))) (mCall (d_halves) (lCons (mVar 5) (lNil)))) (sSeq (sExp (mApp (mVar 4) (mVar 6))) (sAsg (gNm 5) (mIf (asTru (mCall (d__are_unlike) (lCons (mVar 0) (lCons (mVar 1) (lCons (mVar 2) (lCons (mVar 6) (lNil))))))) (mVar 6) (mVar 7))))
abbrev seE (s : Sr0) (c1 c2 : D) (n cl b e : Nat) (x y : Option D) : Dn.Env := [some (slD s), some c1, some c2, some (.int (n : Nat)), some (.cell cl), some (pr b e), x, y]
theorem halves_ok {b e k : Nat} (hk : k ≤ 1000) (h1 : 2 ^ k < e - b) (h2 : e - b ≤ 2 ^ (k + 1)) {st : Sto} : d_halves [pr b e] st = .ok (.tup [pr b (b + 2 ^ k), pr (b + 2 ^ k) e]) st := by
  have hp : 0 < 2 ^ k := Nat.pow_pos (by omega)
  have hc := crown_ok (n := e - b) (by omega) h1 h2 hk (st := st)
  rw [show d_halves = dFn 4 b_halves from rfl, dFn_fin]
  show fin (b_halves [some (pr b e), none, none, none] st) = _
  unfold b_halves
  refine fin_seq (E' := [some (pr b e), none, some (.int (b : Nat)), some (.int (e : Nat))]) (S' := st) rfl ?_
  refine fin_seq (E' := [some (pr b e), some (.int ((b + 2 ^ k : Nat) : Int)), some (.int (b : Nat)), some (.int (e : Nat))]) (S' := st) ?_ (fin_ret' rfl)
  refine asg_of (k := 1) (m2_of (a := .int (b : Nat)) (b := .int ((2 ^ k : Nat) : Int)) (T := st) (U := st) rfl ?_ ?_)
  · refine (call1 (d := .int ((e - b : Nat) : Int)) (T := st) (m2_of (a := .int (e : Nat)) (b := .int (b : Nat)) (T := st) (U := st) rfl rfl ?_)).trans hc
    have : ((e : Int) - (b : Int)) = ((e - b : Nat) : Int) := by omega
    simp [fSub, Dn.opI, this]
  · simp [fAdd]
theorem search_loop {s : Sr0} (hk : okSl s) {tb tc : Bool} {es fs : List (List Nat)} (hr : okR es) (hr2 : okR fs) {n : Nat} {st0 : Sto} : ∀ (f b e : Nat) (acc : List (Nat × Nat)) (x y : Option D), b < e → e ≤ es.length → e ≤ fs.length → e - b ≤ f → acc.length + (e - b) < 5000 →
    ∃ L p x' y', Fd (UU s es fs) b e L p ∧ loopW seT seB f (seE s (cn tb es) (cn tc fs) n st0.length b e x y) (st0 ++ [.lst (prs acc)]) = .nx (seE s (cn tb es) (cn tc fs) n st0.length p (p + 1) x' y') (st0 ++ [.lst (prs (acc ++ L))])
  | 0, b, e, acc, x, y, h1, h2, h3, h4, h5 => by omega
  | f + 1, b, e, acc, x, y, h1, h2, h3, h4, h5 => by
    have ht : seT (seE s (cn tb es) (cn tc fs) n st0.length b e x y) (st0 ++ [.lst (prs acc)]) = .ok (decide (1 < e - b)) (st0 ++ [.lst (prs acc)]) := by
      refine asT_of (m2_of (a := .int ((e : Int) - (b : Int))) (b := .int 1) (T := st0 ++ [.lst (prs acc)]) (U := st0 ++ [.lst (prs acc)]) rfl rfl ?_)
      have : (decide ((1 : Int) < (e : Int) - (b : Int))) = decide (1 < e - b) := by
        by_cases z : 1 < e - b
        · rw [decide_eq_true z, decide_eq_true (by omega : (1 : Int) < (e : Int) - (b : Int))]
        · rw [decide_eq_false z, decide_eq_false (by omega : ¬ (1 : Int) < (e : Int) - (b : Int))]
      simp only [fGt, fOrder]
      rw [this]
    unfold loopW
    rw [ht]
    by_cases z : 1 < e - b
    · rw [decide_eq_true z]
      obtain ⟨k, ka, kb⟩ : ∃ k, 2 ^ k < e - b ∧ e - b ≤ 2 ^ (k + 1) := by
        obtain ⟨k, a, b, _⟩ := lcrown_loop (n := e - b) (st := []) 999 2000 0 (by
          have : e - b ≤ 1000 := by have := hr.1; omega
          have h10 : 2 ^ 10 ≤ 2 ^ (0 + 1 + 999) := Nat.pow_le_pow_right (by omega) (by omega)
          omega) (by omega) (by omega)
        exact ⟨k, a, b⟩
      have hp : 0 < 2 ^ k := Nat.pow_pos (by omega)
      have hk' : k ≤ 1000 := by
        have : k < 2 ^ k := Nat.lt_two_pow_self
        have := hr.1
        omega
      let st1 : Sto := st0 ++ [.lst (prs acc)]
      have a1 : sAsg (gTp 2 (gsCons (gNm 6) (gsCons (gNm 7) (gsNil)))) (mCall (d_halves) (lCons (mVar 5) (lNil))) (seE s (cn tb es) (cn tc fs) n st0.length b e x y) st1 = .nx (seE s (cn tb es) (cn tc fs) n st0.length b e (some (pr b (b + 2 ^ k))) (some (pr (b + 2 ^ k) e))) st1 := by
        unfold sAsg
        rw [show mCall (d_halves) (lCons (mVar 5) (lNil)) (seE s (cn tb es) (cn tc fs) n st0.length b e x y) st1 = _ from (call1 (d := pr b e) (T := st1) rfl).trans (halves_ok hk' ka kb)]
        rfl
      let E1 := seE s (cn tb es) (cn tc fs) n st0.length b e (some (pr b (b + 2 ^ k))) (some (pr (b + 2 ^ k) e))
      let st2 : Sto := st0 ++ [.lst (prs (acc ++ [(b, b + 2 ^ k)]))]
      have a2 : sExp (mApp (mVar 4) (mVar 6)) E1 st1 = .nx E1 st2 := by
        have hg : (st0 ++ [Cell.lst (prs acc)])[st0.length]? = some (.lst (prs acc)) := by
          rw [List.getElem?_append_right (Nat.le_refl _), Nat.sub_self]; rfl
        have hz : (prs acc).length < sz := by
          show (acc.map _).length < 16777216
          rw [List.length_map]; omega
        have hs : (st0 ++ [Cell.lst (prs acc)]).set st0.length (.lst (prs acc ++ [pr b (b + 2 ^ k)])) = st2 := by
          rw [List.set_append_right _ _ (Nat.le_refl _), Nat.sub_self]
          show st0 ++ [Cell.lst (prs acc ++ [pr b (b + 2 ^ k)])] = st0 ++ [.lst (prs (acc ++ [(b, b + 2 ^ k)]))]
          unfold prs
          rw [List.map_append]; rfl
        show (mApp (mVar 4) (mVar 6) E1 st1).thn E1 (fun _ st' => .nx E1 st') = _
        have : mApp (mVar 4) (mVar 6) E1 st1 = .ok .non st2 := by
          show (match (st0 ++ [Cell.lst (prs acc)])[st0.length]? with
            | some (.lst ds) => if ds.length < sz then Rs.ok D.non ((st0 ++ [Cell.lst (prs acc)]).set st0.length (.lst (ds ++ [pr b (b + 2 ^ k)]))) else .no
            | _ => .no) = _
          rw [hg]
          dsimp only
          rw [if_pos hz, hs]
        rw [this]
        rfl
      have hu := unlike_ok hk hr hr2 (tb := tb) (tc := tc) (b := b) (e := b + 2 ^ k) (by omega) (by omega) (by omega) (st := st2)
      have a3 : sAsg (gNm 5) (mIf (asTru (mCall (d__are_unlike) (lCons (mVar 0) (lCons (mVar 1) (lCons (mVar 2) (lCons (mVar 6) (lNil))))))) (mVar 6) (mVar 7)) E1 st2 =
          .nx (if UU s es fs b (b + 2 ^ k) then seE s (cn tb es) (cn tc fs) n st0.length b (b + 2 ^ k) (some (pr b (b + 2 ^ k))) (some (pr (b + 2 ^ k) e)) else seE s (cn tb es) (cn tc fs) n st0.length (b + 2 ^ k) e (some (pr b (b + 2 ^ k))) (some (pr (b + 2 ^ k) e))) st2 := by
        have hcall : mCall (d__are_unlike) (lCons (mVar 0) (lCons (mVar 1) (lCons (mVar 2) (lCons (mVar 6) (lNil))))) E1 st2 = .ok (.bl (UU s es fs b (b + 2 ^ k))) st2 :=
          (call_of (T := st2) (lcons_of (T := st2) rfl (lcons_of (T := st2) rfl (lcons_of (T := st2) rfl (lcons_of (T := st2) rfl rfl))))).trans hu
        have hm : mIf (asTru (mCall (d__are_unlike) (lCons (mVar 0) (lCons (mVar 1) (lCons (mVar 2) (lCons (mVar 6) (lNil))))))) (mVar 6) (mVar 7) E1 st2 = .ok (if UU s es fs b (b + 2 ^ k) then pr b (b + 2 ^ k) else pr (b + 2 ^ k) e) st2 := by
          unfold mIf asTru
          rw [hcall]
          cases UU s es fs b (b + 2 ^ k) <;> rfl
        refine (asg_of (k := 5) hm).trans ?_
        cases UU s es fs b (b + 2 ^ k) <;> rfl
      dsimp only [Rs.thn]
      have ab : seB (seE s (cn tb es) (cn tc fs) n st0.length b e x y) st1 = .nx (if UU s es fs b (b + 2 ^ k) then seE s (cn tb es) (cn tc fs) n st0.length b (b + 2 ^ k) (some (pr b (b + 2 ^ k))) (some (pr (b + 2 ^ k) e)) else seE s (cn tb es) (cn tc fs) n st0.length (b + 2 ^ k) e (some (pr b (b + 2 ^ k))) (some (pr (b + 2 ^ k) e))) st2 := by
        show sSeq _ _ _ _ = _
        unfold sSeq
        rw [a1]
        dsimp only
        rw [a2]
        exact a3
      rw [show seB (seE s (cn tb es) (cn tc fs) n st0.length b e x y) (st0 ++ [.lst (prs acc)]) = _ from ab]
      dsimp only
      cases hU : UU s es fs b (b + 2 ^ k) with
      | true =>
        rw [if_pos rfl]
        obtain ⟨L, p, x', y', q1, q2⟩ := search_loop hk hr hr2 (tb := tb) (tc := tc) (n := n) (st0 := st0) f b (b + 2 ^ k) (acc ++ [(b, b + 2 ^ k)]) (some (pr b (b + 2 ^ k))) (some (pr (b + 2 ^ k) e)) (by omega) (by omega) (by omega) (by omega) (by simp; omega)
        refine ⟨(b, b + 2 ^ k) :: L, p, x', y', Fd.left b e k p L ka kb hU q1, ?_⟩
        rw [show acc ++ (b, b + 2 ^ k) :: L = acc ++ [(b, b + 2 ^ k)] ++ L by simp]
        exact q2
      | false =>
        rw [if_neg (by decide)]
        obtain ⟨L, p, x', y', q1, q2⟩ := search_loop hk hr hr2 (tb := tb) (tc := tc) (n := n) (st0 := st0) f (b + 2 ^ k) e (acc ++ [(b, b + 2 ^ k)]) (some (pr b (b + 2 ^ k))) (some (pr (b + 2 ^ k) e)) (by omega) (by omega) (by omega) (by omega) (by simp; omega)
        refine ⟨(b, b + 2 ^ k) :: L, p, x', y', Fd.right b e k p L ka kb hU q1, ?_⟩
        rw [show acc ++ (b, b + 2 ^ k) :: L = acc ++ [(b, b + 2 ^ k)] ++ L by simp]
        exact q2
    · rw [decide_eq_false z]
      have : e = b + 1 := by omega
      subst this
      exact ⟨[], b, x, y, Fd.one b, by rw [List.append_nil]; rfl⟩
end Lk28
end

section
set_option linter.all false
set_option maxRecDepth 100000
set_option maxHeartbeats 1000000
namespace Lk28
open PySem PySem.Spec PyProof.Rows L2 Dn
/-- what the search comes to -/
def Du (s : Sr0) (es fs : List (List Nat)) (n : Nat) (d : D) : Prop :=
  (n = 0 ∧ d = .tup [.tup [], .non]) ∨ (0 < n ∧ UU s es fs 0 n = false ∧ d = .tup [.tup [pr 0 n], .non]) ∨
    (0 < n ∧ UU s es fs 0 n = true ∧ ∃ L p, Fd (UU s es fs) 0 n L p ∧ d = .tup [.tup (prs ((0, n) :: L)), .int (p : Nat)])
theorem Du.uniq {s : Sr0} {es fs : List (List Nat)} {n : Nat} {d d' : D} (h : Du s es fs n d) (h' : Du s es fs n d') : d = d' := by
  rcases h with ⟨h1, rfl⟩ | ⟨h1, u, rfl⟩ | ⟨h1, u, L, p, f, rfl⟩
  · rcases h' with ⟨_, rfl⟩ | ⟨h2, _⟩ | ⟨h2, _⟩
    · rfl
    · omega
    · omega
  · rcases h' with ⟨h2, _⟩ | ⟨_, _, rfl⟩ | ⟨_, u', _⟩
    · omega
    · rfl
    · rw [u] at u'; exact absurd u' (by decide)
  · rcases h' with ⟨h2, _⟩ | ⟨_, u', _⟩ | ⟨_, _, L', p', f', rfl⟩
    · omega
    · rw [u] at u'; exact absurd u' (by decide)
    · obtain ⟨e1, e2⟩ := f.uniq f'
      rw [e1, e2]
theorem Fd.comm {U V : Nat → Nat → Bool} (e : ∀ a b, U a b = V a b) {lo n p : Nat} {L : List (Nat × Nat)} (h : Fd U lo n L p) : Fd V lo n L p := by
  induction h with
  | one lo => exact Fd.one lo
  | left lo n k p L h1 h2 u h ih => exact Fd.left lo n k p L h1 h2 (by rw [← e]; exact u) ih
  | right lo n k p L h1 h2 u h ih => exact Fd.right lo n k p L h1 h2 (by rw [← e]; exact u) ih
theorem Du.comm {s : Sr0} {es fs : List (List Nat)} {n : Nat} {d : D} (h : Du s es fs n d) : Du s fs es n d := by
  rcases h with ⟨h1, rfl⟩ | ⟨h1, u, rfl⟩ | ⟨h1, u, L, p, f, rfl⟩
  · exact .inl ⟨h1, rfl⟩
  · exact .inr (.inl ⟨h1, by rw [uu_comm]; exact u, rfl⟩)
  · exact .inr (.inr ⟨h1, by rw [uu_comm]; exact u, L, p, f.comm fun a b => uu_comm s es fs a b, rfl⟩)
theorem search_ok {s : Sr0} (hk : okSl s) {tb tc : Bool} {es fs : List (List Nat)} (hr : okR es) (hr2 : okR fs) (st : Sto) :
    ∃ d st', d_search [slD s, cn tb es, cn tc fs] st = .ok d (st ++ st') ∧ Du s es fs (min es.length fs.length) d := by
  generalize hn : min es.length fs.length = n
  rw [show d_search = dFn 8 b_search from rfl, dFn_fin]
  show ∃ d st', fin (b_search [some (slD s), some (cn tb es), some (cn tc fs), none, none, none, none, none] st) = _ ∧ _
  unfold b_search
  have e1 : sAsg (gNm 3) (mCall fMin (lCons (mCall fLen (lCons (mVar 1) (lNil))) (lCons (mCall fLen (lCons (mVar 2) (lNil))) (lNil)))) [some (slD s), some (cn tb es), some (cn tc fs), none, none, none, none, none] st = .nx [some (slD s), some (cn tb es), some (cn tc fs), some (.int (n : Nat)), none, none, none, none] st := by
    refine asg_of (k := 3) (d := .int (n : Nat)) ((call2 (d := .int (es.length : Nat)) (e := .int (fs.length : Nat)) (T := st) (U := st) ((call1 (T := st) rfl).trans (cn_len tb es st)) ((call1 (T := st) rfl).trans (cn_len tc fs st))).trans ?_)
    show Rs.ok (D.int (if ((fs.length : Nat) : Int) < ((es.length : Nat) : Int) then ((fs.length : Nat) : Int) else ((es.length : Nat) : Int))) st = _
    have : (if ((fs.length : Nat) : Int) < ((es.length : Nat) : Int) then ((fs.length : Nat) : Int) else ((es.length : Nat) : Int)) = (n : Int) := by
      rw [← hn]
      split <;> omega
    rw [this]
  by_cases h0 : n = 0
  · subst h0
    exact ⟨_, [], by rw [List.append_nil]; exact fin_seq e1 (fin_take (S' := st) rfl rfl), .inl ⟨rfl, rfl⟩⟩
  have hq : ¬ ((n : Nat) : Int) = 0 := by omega
  have e2 : asT (m2 (fEq false) (mVar 3) (mC (.int 0))) [some (slD s), some (cn tb es), some (cn tc fs), some (.int (n : Nat)), none, none, none, none] st = .ok false st := asT_of (m2_of rfl rfl (by simp [fEq, h0]))
  let st1 : Sto := st ++ [.lst (prs [(0, n)])]
  let E0 := seE s (cn tb es) (cn tc fs) n st.length 0 n none none
  have e3 : sPar 4 5 (lCons (mLst true (lCons (mTup (lCons (mC (.int 0)) (lCons (mVar 3) (lNil)))) (lNil))) (lCons (mTup (lCons (mC (.int 0)) (lCons (mVar 3) (lNil)))) (lNil))) [some (slD s), some (cn tb es), some (cn tc fs), some (.int (n : Nat)), none, none, none, none] st = .nx E0 st1 := rfl
  have hu := unlike_ok hk hr hr2 (tb := tb) (tc := tc) (b := 0) (e := n) (by omega) (by omega) (by omega) (st := st1)
  have hcall : mCall (d__are_unlike) (lCons (mVar 0) (lCons (mVar 1) (lCons (mVar 2) (lCons (mVar 5) (lNil))))) E0 st1 = .ok (.bl (UU s es fs 0 n)) st1 :=
    (call_of (T := st1) (lcons_of (T := st1) rfl (lcons_of (T := st1) rfl (lcons_of (T := st1) rfl (lcons_of (T := st1) rfl rfl))))).trans hu
  have ht : mNotT (asTru (mCall (d__are_unlike) (lCons (mVar 0) (lCons (mVar 1) (lCons (mVar 2) (lCons (mVar 5) (lNil))))))) E0 st1 = .ok (!UU s es fs 0 n) st1 := by
    unfold mNotT asTru
    rw [hcall]
    rfl
  have tup_cell : ∀ (L : List (Nat × Nat)) (x y : Option D) (b e : Nat), mCall fTuple (lCons (mVar 4) (lNil)) (seE s (cn tb es) (cn tc fs) n st.length b e x y) (st ++ [Cell.lst (prs L)]) = .ok (.tup (prs L)) (st ++ [Cell.lst (prs L)]) := fun L x y b e => by
    refine (call1 (d := .cell st.length) (T := st ++ [Cell.lst (prs L)]) rfl).trans ?_
    have hg : (st ++ [Cell.lst (prs L)])[st.length]? = some (.lst (prs L)) := by
      rw [List.getElem?_append_right (Nat.le_refl _), Nat.sub_self]; rfl
    unfold fTuple
    show (match getL (.cell st.length) (st ++ [Cell.lst (prs L)]) with | some xs => Rs.ok (D.tup xs) (st ++ [Cell.lst (prs L)]) | none => .no) = _
    have : getL (.cell st.length) (st ++ [Cell.lst (prs L)]) = some (prs L) := by
      show (match (st ++ [Cell.lst (prs L)])[st.length]? with | some (.lst ds) => some ds | _ => none) = _
      rw [hg]
    rw [this]
  cases hU : UU s es fs 0 n with
  | false =>
    refine ⟨.tup [.tup [pr 0 n], .non], [.lst (prs [(0, n)])], fin_seq e1 (fin_skip e2 (fin_seq e3 (fin_take (S' := st1) (by rw [ht, hU]; rfl) ?_))), .inr (.inl ⟨by omega, hU, rfl⟩)⟩
    exact tup_of (ds := [.tup [pr 0 n], .non]) (lcons_of (T := st1) (tup_cell [(0, n)] none none 0 n) rfl) (by show 2 ≤ sz; decide)
  | true =>
    have hb : n ≤ 1000 := by have := hr.1; omega
    obtain ⟨L, p, x', y', q1, q2⟩ := search_loop hk hr hr2 (tb := tb) (tc := tc) (n := n) (st0 := st) 2000 0 n [(0, n)] none none (by omega) (by omega) (by omega) (by omega) (by simp; omega)
    rw [show [(0, n)] ++ L = (0, n) :: L from rfl] at q2
    refine ⟨.tup [.tup (prs ((0, n) :: L)), .int (p : Nat)], [.lst (prs ((0, n) :: L))], fin_seq e1 (fin_skip e2 (fin_seq e3 (fin_skip (S' := st1) (by rw [ht, hU]; rfl) (fin_seq q2 (fin_ret' ?_))))), .inr (.inr ⟨by omega, hU, L, p, q1, rfl⟩)⟩
    exact tup_of (ds := [.tup (prs ((0, n) :: L)), .int (p : Nat)]) (lcons_of (T := st ++ [Cell.lst (prs ((0, n) :: L))]) (tup_cell ((0, n) :: L) x' y' p (p + 1)) rfl) (by show 2 ≤ sz; decide)
end Lk28
end

section
set_option linter.all false
set_option maxRecDepth 100000
set_option maxHeartbeats 1000000
namespace Lk28
open PySem PySem.Spec PyProof.Rows L2 Dn
theorem tp_cn (es : List (List Nat)) : tp es = cn true es := rfl
theorem Fd.len {U : Nat → Nat → Bool} {lo n p : Nat} {L : List (Nat × Nat)} (h : Fd U lo n L p) : L.length + lo < n := by
  induction h with
  | one lo => simp
  | left lo n k p L h1 h2 u h ih => simp; omega
  | right lo n k p L h1 h2 u h ih =>
    have : 0 < 2 ^ k := Nat.pow_pos (by omega)
    simp; omega
theorem lroot_sub {s : Sr0} (hk : okSl s) {es : List (List Nat)} (hr : okR es) {b e : Nat} (hbe : b < e) (he : e ≤ es.length) {st : Sto} : ∃ t, d__law_root [slD s, cn true (sub b e es)] st = .ok t st ∧ Mk.Rt (slF s) (sub b e es) t := by
  have hl := sub_len (b := b) he
  have h10 : 2 ^ 10 ≤ 2 ^ 29 := Nat.pow_le_pow_right (by omega) (by omega)
  have h11 : 2 ^ 10 ≤ 2 ^ 900 := Nat.pow_le_pow_right (by omega) (by omega)
  have := hr.1
  exact lroot_ok hk 29 (sub b e es) (by omega) (by omega) (by omega)
abbrev fdE (s : Sr0) (es fs : List (List Nat)) (lo n : Nat) (a b c : Option D) : Dn.Env := [some (slD s), some (cn true es), some (cn true fs), some (.int (lo : Nat)), some (.int (n : Nat)), a, b, c]
theorem lfound_ok {s : Sr0} (hk : okSl s) {es fs : List (List Nat)} (hr : okR es) (hr2 : okR fs) {st : Sto} : ∀ (f lo n : Nat), lo < n → n ≤ es.length → n ≤ fs.length → n - lo ≤ 2 ^ f →
    ∃ L p, Fd (UU s es fs) lo n L p ∧ r__law_found (f + 1) 0 [slD s, cn true es, cn true fs, .int (lo : Nat), .int (n : Nat)] st = .ok (.tup [.lst (prs L), .int (p : Nat)]) st := by
  intro f
  induction f with
  | zero =>
    intro lo n h1 h2 h3 h4
    have : n = lo + 1 := by simp at h4; omega
    subst this
    refine ⟨[], lo, Fd.one lo, ?_⟩
    show dFn 8 (b__law_found (r__law_found 0 0)) _ st = _
    rw [dFn_fin]
    show fin (b__law_found (r__law_found 0 0) (fdE s es fs lo (lo + 1) none none none) st) = _
    unfold b__law_found
    have e : (((lo + 1 : Nat) : Int) - (lo : Int)) = 1 := by omega
    exact fin_take (S' := st) (asT_of (m2_of (m2_of (T := st) (U := st) rfl rfl rfl) rfl (by simp [fEq]; omega))) rfl
  | succ f ih =>
    intro lo n h1 h2 h3 h4
    by_cases z : n = lo + 1
    · subst z
      refine ⟨[], lo, Fd.one lo, ?_⟩
      show dFn 8 (b__law_found (r__law_found (f + 1) 0)) _ st = _
      rw [dFn_fin]
      show fin (b__law_found (r__law_found (f + 1) 0) (fdE s es fs lo (lo + 1) none none none) st) = _
      unfold b__law_found
      exact fin_take (S' := st) (asT_of (m2_of (m2_of (T := st) (U := st) rfl rfl rfl) rfl (by simp [fEq]; omega))) rfl
    · have hb := hr.1
      have h10 : 2 ^ 10 ≤ 2 ^ 1000 := Nat.pow_le_pow_right (by omega) (by omega)
      obtain ⟨k, ka, kb, kc⟩ := lcrown_ok (n := n - lo) (st := st) (by omega) (by omega)
      have hp : 0 < 2 ^ k := Nat.pow_pos (by omega)
      have hkf : 2 ^ k ≤ 2 ^ f := by
        by_cases z : k ≤ f
        · exact Nat.pow_le_pow_right (by omega) z
        · have : 2 ^ (f + 1) ≤ 2 ^ k := Nat.pow_le_pow_right (by omega) (by omega)
          omega
      obtain ⟨t, t1, t2⟩ := lroot_sub hk hr (b := lo) (e := lo + 2 ^ k) (by omega) (by omega) (st := st)
      obtain ⟨u, u1, u2⟩ := lroot_sub hk hr2 (b := lo) (e := lo + 2 ^ k) (by omega) (by omega) (st := st)
      have hU := uu_ne t2 u2
      have hcmp : asT (m2 (fEq true) (mCall (d__law_root) (lCons (mVar 0) (lCons (mSl false (mVar 1) (oSome (mVar 3)) (oSome (mVar 5))) (lNil)))) (mCall (d__law_root) (lCons (mVar 0) (lCons (mSl false (mVar 2) (oSome (mVar 3)) (oSome (mVar 5))) (lNil))))) (fdE s es fs lo n (some (.int ((lo + 2 ^ k : Nat) : Int))) none none) st = .ok (UU s es fs lo (lo + 2 ^ k)) st := by
        refine asT_of (m2_of (a := t) (b := u) (T := st) (U := st) ((call2 (T := st) (U := st) rfl (by exact cn_sl (tb := true) (by omega) (by omega) st)).trans t1) ((call2 (T := st) (U := st) rfl (by exact cn_sl (tb := true) (by omega) (by omega) st)).trans u1) ?_)
        rw [hU]
        exact fne_ok (rt_plain64 hr (by omega) t2) (rt_plain64 hr2 (by omega) u2)
      have hcr : sAsg (gNm 5) (m2 (fAdd false) (mVar 3) (mCall (d__law_crown) (lCons (m2 (fSub) (mVar 4) (mVar 3)) (lNil)))) (fdE s es fs lo n none none none) st = .nx (fdE s es fs lo n (some (.int ((lo + 2 ^ k : Nat) : Int))) none none) st := by
        refine asg_of (k := 5) (m2_of (a := .int (lo : Nat)) (b := .int ((2 ^ k : Nat) : Int)) (T := st) (U := st) rfl ?_ (by simp [fAdd]))
        refine (call1 (d := .int ((n - lo : Nat) : Int)) (T := st) (m2_of (a := .int (n : Nat)) (b := .int (lo : Nat)) (T := st) (U := st) rfl rfl ?_)).trans kc
        have : ((n : Int) - (lo : Int)) = ((n - lo : Nat) : Int) := by omega
        simp [fSub, Dn.opI, this]
      have fin1 : ∀ (L : List (Nat × Nat)) (p : Nat), L.length < 5000 → fin (sRet (mTup (lCons (m2 (fAdd false) (mLst false (lCons (mTup (lCons (mVar 3) (lCons (mVar 5) (lNil)))) (lNil))) (mVar 6)) (lCons (mVar 7) (lNil)))) (fdE s es fs lo n (some (.int ((lo + 2 ^ k : Nat) : Int))) (some (.lst (prs L))) (some (.int (p : Nat)))) st) = .ok (.tup [.lst (prs ((lo, lo + 2 ^ k) :: L)), .int (p : Nat)]) st := fun L p hL => by
        refine fin_ret' (tup_of (ds := [.lst (prs ((lo, lo + 2 ^ k) :: L)), .int (p : Nat)]) (lcons_of (T := st) (m2_of (a := .lst [pr lo (lo + 2 ^ k)]) (b := .lst (prs L)) (T := st) (U := st) rfl rfl ?_) rfl) (by show 2 ≤ sz; decide))
        have : 1 + (prs L).length ≤ sz := by
          show 1 + (L.map _).length ≤ 16777216
          rw [List.length_map]; omega
        show (if [pr lo (lo + 2 ^ k)].length + (prs L).length ≤ sz then mkL false ([pr lo (lo + 2 ^ k)] ++ prs L) st else .no) = _
        rw [if_pos (show [pr lo (lo + 2 ^ k)].length + (prs L).length ≤ sz from this)]
        rfl
      have hne : asT (m2 (fEq false) (m2 (fSub) (mVar 4) (mVar 3)) (mC (.int 1))) (fdE s es fs lo n none none none) st = .ok false st := by
        refine asT_of (m2_of (m2_of (T := st) (U := st) rfl rfl rfl) rfl ?_)
        have : ¬ ((n : Int) - (lo : Int) = 1) := by omega
        simp [fEq, this]
      cases hb' : UU s es fs lo (lo + 2 ^ k) with
      | true =>
        obtain ⟨L, p, q1, q2⟩ := ih lo (lo + 2 ^ k) (by omega) (by omega) (by omega) (by omega)
        have hL := q1.len
        refine ⟨(lo, lo + 2 ^ k) :: L, p, Fd.left lo n k p L ka kb hb' q1, ?_⟩
        show dFn 8 (b__law_found (r__law_found (f + 1) 0)) _ st = _
        rw [dFn_fin]
        show fin (b__law_found (r__law_found (f + 1) 0) (fdE s es fs lo n none none none) st) = _
        unfold b__law_found
        refine fin_skip hne (fin_seq hcr (fin_seq (E' := fdE s es fs lo n (some (.int ((lo + 2 ^ k : Nat) : Int))) (some (.lst (prs L))) (some (.int (p : Nat)))) (S' := st) ?_ (fin1 L p (by omega))))
        unfold sIf
        rw [hcmp, hb']
        dsimp only [Rs.thn]
        unfold sAsg
        rw [show mCall (r__law_found (f + 1) 0) (lCons (mVar 0) (lCons (mVar 1) (lCons (mVar 2) (lCons (mVar 3) (lCons (mVar 5) (lNil)))))) (fdE s es fs lo n (some (.int ((lo + 2 ^ k : Nat) : Int))) none none) st = _ from q2]
        rfl
      | false =>
        obtain ⟨L, p, q1, q2⟩ := ih (lo + 2 ^ k) n (by omega) (by omega) (by omega) (by rw [Nat.pow_succ] at kb; omega)
        have hL := q1.len
        refine ⟨(lo, lo + 2 ^ k) :: L, p, Fd.right lo n k p L ka kb hb' q1, ?_⟩
        show dFn 8 (b__law_found (r__law_found (f + 1) 0)) _ st = _
        rw [dFn_fin]
        show fin (b__law_found (r__law_found (f + 1) 0) (fdE s es fs lo n none none none) st) = _
        unfold b__law_found
        refine fin_skip hne (fin_seq hcr (fin_seq (E' := fdE s es fs lo n (some (.int ((lo + 2 ^ k : Nat) : Int))) (some (.lst (prs L))) (some (.int (p : Nat)))) (S' := st) ?_ (fin1 L p (by omega))))
        unfold sIf
        rw [hcmp, hb']
        dsimp only [Rs.thn]
        unfold sAsg
        rw [show mCall (r__law_found (f + 1) 0) (lCons (mVar 0) (lCons (mVar 1) (lCons (mVar 2) (lCons (mVar 5) (lCons (mVar 4) (lNil)))))) (fdE s es fs lo n (some (.int ((lo + 2 ^ k : Nat) : Int))) none none) st = _ from q2]
        rfl
end Lk28
end

section
set_option linter.all false
set_option maxRecDepth 100000
set_option maxHeartbeats 1000000
namespace Lk28
open PySem PySem.Spec PyProof.Rows L2 Dn
abbrev sdT : Dn.Env → Sto → Rs Bool := asT (m2 (fGt) (m2 (fSub) (mVar 3) (mVar 2)) (mC (.int 1)))
abbrev sdB : Dn.Env → Sto → Sr := sSeq (sAsg (gNm 5) (m2 (fAdd false) (mVar 2) (mCall (d__law_crown) (lCons (m2 (fSub) (mVar 3) (mVar 2)) (lNil))))) (sIf (asT (m2 (fLt) (mVar 1) (mVar 5))) (sSeq (sAsg (gNm 4) (m2 (fAdd false) (mLst false (lCons (mTup (lCons (mC (.bl false)) (lCons (mTup (lCons (mVar 5) (lCons (mVar 3) (lNil)))) (lNil)))) (lNil))) (mVar 4))) (sAsg (gNm 3) (mVar 5))) (sSeq (sAsg (gNm 4) (m2 (fAdd false) (mLst false (lCons (mTup (lCons (mC (.bl true)) (lCons (mTup (lCons (mVar 2) (lCons (mVar 5) (lNil)))) (lNil)))) (lNil))) (mVar 4))) (sAsg (gNm 2) (mVar 5))))
abbrev sdE (n p lo hi : Nat) (acc : List D) (x : Option D) : Dn.Env := [some (.int (n : Nat)), some (.int (p : Nat)), some (.int (lo : Nat)), some (.int (hi : Nat)), some (.lst acc), x]
theorem sd_loop {U : Nat → Nat → Bool} {n lo hi p : Nat} {L : List (Nat × Nat)} {st : Sto} (h : Fd U lo hi L p) : ∀ (f : Nat) (acc : List D) (x : Option D), hi - lo ≤ f → hi ≤ 1000 → acc.length + (hi - lo) < 5000 →
    ∃ lo' hi' acc' x', loopW sdT sdB f (sdE n p lo hi acc x) st = .nx (sdE n p lo' hi' acc' x') st ∧ acc'.length = acc.length + L.length := by
  have test : ∀ (lo hi : Nat) (acc : List D) (x : Option D), sdT (sdE n p lo hi acc x) st = .ok (decide (1 < hi - lo)) st := fun lo hi acc x => by
    refine asT_of (m2_of (m2_of (T := st) (U := st) rfl rfl rfl) rfl ?_)
    have : (decide ((1 : Int) < (hi : Int) - (lo : Int))) = decide (1 < hi - lo) := by
      by_cases z : 1 < hi - lo
      · rw [decide_eq_true z, decide_eq_true (by omega : (1 : Int) < (hi : Int) - (lo : Int))]
      · rw [decide_eq_false z, decide_eq_false (by omega : ¬ (1 : Int) < (hi : Int) - (lo : Int))]
    simp only [fGt, fOrder]
    rw [this]
  have crn : ∀ (lo hi k : Nat) (acc : List D) (x : Option D), 2 ^ k < hi - lo → hi - lo ≤ 2 ^ (k + 1) → hi ≤ 1000 → sAsg (gNm 5) (m2 (fAdd false) (mVar 2) (mCall (d__law_crown) (lCons (m2 (fSub) (mVar 3) (mVar 2)) (lNil)))) (sdE n p lo hi acc x) st = .nx (sdE n p lo hi acc (some (.int ((lo + 2 ^ k : Nat) : Int)))) st := fun lo hi k acc x ka kb hh => by
    have hp : 0 < 2 ^ k := Nat.pow_pos (by omega)
    have h10 : 2 ^ 10 ≤ 2 ^ 1000 := Nat.pow_le_pow_right (by omega) (by omega)
    obtain ⟨k', a', b', c'⟩ := lcrown_ok (n := hi - lo) (st := st) (by omega) (by omega)
    have := Mk.pow_uniq ka kb a' b'
    subst this
    refine asg_of (k := 5) (m2_of (a := .int (lo : Nat)) (b := .int ((2 ^ k : Nat) : Int)) (T := st) (U := st) rfl ?_ (by simp [fAdd]))
    refine (call1 (d := .int ((hi - lo : Nat) : Int)) (T := st) (m2_of (a := .int (hi : Nat)) (b := .int (lo : Nat)) (T := st) (U := st) rfl rfl ?_)).trans c'
    have : ((hi : Int) - (lo : Int)) = ((hi - lo : Nat) : Int) := by omega
    simp [fSub, Dn.opI, this]
  have add1 : ∀ (d : D) (acc : List D), acc.length < 5000 → fAdd false (.lst [d]) (.lst acc) st = .ok (.lst (d :: acc)) st := fun d acc ha => by
    show (if [d].length + acc.length ≤ sz then mkL false ([d] ++ acc) st else .no) = _
    rw [if_pos (show [d].length + acc.length ≤ sz by show 1 + acc.length ≤ 16777216; omega)]
    rfl
  induction h with
  | one lo =>
    intro f acc x hf hh ha
    refine ⟨lo, lo + 1, acc, x, ?_, by simp⟩
    cases f with
    | zero => omega
    | succ f =>
      unfold loopW
      rw [test, decide_eq_false (by omega)]
      rfl
  | left lo hi k p L ka kb u h ih =>
    intro f acc x hf hh ha
    have hp : 0 < 2 ^ k := Nat.pow_pos (by omega)
    have hin := h.in
    cases f with
    | zero => omega
    | succ f =>
      obtain ⟨lo', hi', acc', x', q1, q2⟩ := ih test crn f (.tup [.bl false, pr (lo + 2 ^ k) hi] :: acc) (some (.int ((lo + 2 ^ k : Nat) : Int))) (by omega) (by omega) (by simp; omega)
      refine ⟨lo', hi', acc', x', ?_, by rw [q2]; simp; omega⟩
      unfold loopW
      rw [test, decide_eq_true (by omega)]
      dsimp only [Rs.thn]
      have hb : sdB (sdE n p lo hi acc x) st = .nx (sdE n p lo (lo + 2 ^ k) (.tup [.bl false, pr (lo + 2 ^ k) hi] :: acc) (some (.int ((lo + 2 ^ k : Nat) : Int)))) st := by
        show sSeq _ _ _ _ = _
        unfold sSeq
        rw [crn lo hi k acc x ka kb hh]
        dsimp only
        have ht : asT (m2 (fLt) (mVar 1) (mVar 5)) (sdE n p lo hi acc (some (.int ((lo + 2 ^ k : Nat) : Int)))) st = .ok true st := by
          refine asT_of (m2_of (T := st) (U := st) rfl rfl ?_)
          have : ((p : Int) < ((lo + 2 ^ k : Nat) : Int)) := by omega
          show Rs.ok (D.bl (decide ((p : Int) < ((lo + 2 ^ k : Nat) : Int)))) st = _
          rw [decide_eq_true this]
        unfold sIf
        rw [ht]
        dsimp only [Rs.thn]
        rw [show sAsg (gNm 4) (m2 (fAdd false) (mLst false (lCons (mTup (lCons (mC (.bl false)) (lCons (mTup (lCons (mVar 5) (lCons (mVar 3) (lNil)))) (lNil)))) (lNil))) (mVar 4)) (sdE n p lo hi acc (some (.int ((lo + 2 ^ k : Nat) : Int)))) st = .nx (sdE n p lo hi (.tup [.bl false, pr (lo + 2 ^ k) hi] :: acc) (some (.int ((lo + 2 ^ k : Nat) : Int)))) st from
          asg_of (k := 4) (m2_of (a := .lst [.tup [.bl false, pr (lo + 2 ^ k) hi]]) (b := .lst acc) (T := st) (U := st) rfl rfl (add1 _ acc (by omega)))]
        rfl
      rw [hb]
      exact q1
  | right lo hi k p L ka kb u h ih =>
    intro f acc x hf hh ha
    have hp : 0 < 2 ^ k := Nat.pow_pos (by omega)
    have hin := h.in
    cases f with
    | zero => omega
    | succ f =>
      obtain ⟨lo', hi', acc', x', q1, q2⟩ := ih test crn f (.tup [.bl true, pr lo (lo + 2 ^ k)] :: acc) (some (.int ((lo + 2 ^ k : Nat) : Int))) (by omega) (by omega) (by simp; omega)
      refine ⟨lo', hi', acc', x', ?_, by rw [q2]; simp; omega⟩
      unfold loopW
      rw [test, decide_eq_true (by omega)]
      dsimp only [Rs.thn]
      have hb : sdB (sdE n p lo hi acc x) st = .nx (sdE n p (lo + 2 ^ k) hi (.tup [.bl true, pr lo (lo + 2 ^ k)] :: acc) (some (.int ((lo + 2 ^ k : Nat) : Int)))) st := by
        show sSeq _ _ _ _ = _
        unfold sSeq
        rw [crn lo hi k acc x ka kb hh]
        dsimp only
        have ht : asT (m2 (fLt) (mVar 1) (mVar 5)) (sdE n p lo hi acc (some (.int ((lo + 2 ^ k : Nat) : Int)))) st = .ok false st := by
          refine asT_of (m2_of (T := st) (U := st) rfl rfl ?_)
          have : ¬ ((p : Int) < ((lo + 2 ^ k : Nat) : Int)) := by omega
          show Rs.ok (D.bl (decide ((p : Int) < ((lo + 2 ^ k : Nat) : Int)))) st = _
          rw [decide_eq_false this]
        unfold sIf
        rw [ht]
        dsimp only [Rs.thn]
        rw [show sAsg (gNm 4) (m2 (fAdd false) (mLst false (lCons (mTup (lCons (mC (.bl true)) (lCons (mTup (lCons (mVar 2) (lCons (mVar 5) (lNil)))) (lNil)))) (lNil))) (mVar 4)) (sdE n p lo hi acc (some (.int ((lo + 2 ^ k : Nat) : Int)))) st = .nx (sdE n p lo hi (.tup [.bl true, pr lo (lo + 2 ^ k)] :: acc) (some (.int ((lo + 2 ^ k : Nat) : Int)))) st from
          asg_of (k := 4) (m2_of (a := .lst [.tup [.bl true, pr lo (lo + 2 ^ k)]]) (b := .lst acc) (T := st) (U := st) rfl rfl (add1 _ acc (by omega)))]
        rfl
      rw [hb]
      exact q1
theorem sides_ok {U : Nat → Nat → Bool} {n p : Nat} {L : List (Nat × Nat)} (h : Fd U 0 n L p) (hn : n ≤ 1000) (st : Sto) : ∃ acc, d__law_sides [.int (n : Nat), .int (p : Nat)] st = .ok (.lst acc) st ∧ acc.length = L.length := by
  obtain ⟨lo', hi', acc', x', q1, q2⟩ := sd_loop (n := n) (st := st) h 2000 [] none (by omega) hn (by simp; omega)
  refine ⟨acc', ?_, by simpa using q2⟩
  rw [show d__law_sides = dFn 6 b__law_sides from rfl, dFn_fin]
  show fin (b__law_sides [some (.int (n : Nat)), some (.int (p : Nat)), none, none, none, none] st) = _
  unfold b__law_sides
  exact fin_seq (E' := sdE n p 0 n [] none) (S' := st) rfl (fin_seq q1 (fin_ret' rfl))
end Lk28
end

section
set_option linter.all false
set_option maxRecDepth 100000
set_option maxHeartbeats 1000000
namespace Lk28
open PySem PySem.Spec PyProof.Rows L2 Dn
theorem rt_ex {s : Sr0} (hk : okSl s) {es : List (List Nat)} (hr : okR es) {b e : Nat} (hbe : b < e) (he : e ≤ es.length) : ∃ t, Mk.Rt (slF s) (sub b e es) t := by
  obtain ⟨t, _, h⟩ := stretch_ok hk (tb := true) hr hbe he (st := [])
  exact ⟨t, h⟩
theorem sub_app {a b c : Nat} {es : List (List Nat)} (h1 : a ≤ b) (h2 : b ≤ c) (h3 : c ≤ es.length) : sub a b es ++ sub b c es = sub a c es := by
  unfold sub
  have e : es.drop b = (es.drop a).drop (b - a) := by rw [List.drop_drop]; congr 1; omega
  rw [e, ← List.take_add]
  congr 1
  omega
theorem uu_right {s : Sr0} (hk : okSl s) {es fs : List (List Nat)} (hr : okR es) (hr2 : okR fs) {lo n k : Nat} (h1 : 2 ^ k < n - lo) (h2 : n - lo ≤ 2 ^ (k + 1)) (he : n ≤ es.length) (hf : n ≤ fs.length) (u : UU s es fs lo (lo + 2 ^ k) = false) (w : UU s es fs lo n = true) :
    UU s es fs (lo + 2 ^ k) n = true := by
  have hp : 0 < 2 ^ k := Nat.pow_pos (by omega)
  obtain ⟨t1, r1⟩ := rt_ex hk hr (b := lo) (e := lo + 2 ^ k) (by omega) (by omega)
  obtain ⟨t2, r2⟩ := rt_ex hk hr (b := lo + 2 ^ k) (e := n) (by omega) he
  obtain ⟨u1, q1⟩ := rt_ex hk hr2 (b := lo) (e := lo + 2 ^ k) (by omega) (by omega)
  obtain ⟨u2, q2⟩ := rt_ex hk hr2 (b := lo + 2 ^ k) (e := n) (by omega) hf
  have n1 := Mk.Rt.node (sl := slF s) _ _ t1 t2 k (by rw [sub_len (by omega)]; omega) (by rw [sub_len he]; omega) (by rw [sub_len he]; rw [Nat.pow_succ] at h2; omega) r1 r2
  have n2 := Mk.Rt.node (sl := slF s) _ _ u1 u2 k (by rw [sub_len (by omega)]; omega) (by rw [sub_len hf]; omega) (by rw [sub_len hf]; rw [Nat.pow_succ] at h2; omega) q1 q2
  rw [sub_app (by omega) (by omega) he] at n1
  rw [sub_app (by omega) (by omega) hf] at n2
  rw [uu_ne n1 n2, ne_iff] at w
  rw [uu_ne r1 q1] at u
  have e1 : t1 = u1 := by
    by_cases z : t1 = u1
    · exact z
    · rw [ne_diff z] at u; exact absurd u (by decide)
  rw [uu_ne r2 q2, ne_iff]
  intro z
  exact w (by rw [e1, z])
theorem fd_end {s : Sr0} (hk : okSl s) {es fs : List (List Nat)} (hr : okR es) (hr2 : okR fs) {lo n p : Nat} {L : List (Nat × Nat)} (h : Fd (UU s es fs) lo n L p) : n ≤ es.length → n ≤ fs.length → UU s es fs lo n = true → UU s es fs p (p + 1) = true := by
  induction h with
  | one lo => exact fun _ _ w => w
  | left lo n k p L h1 h2 u h ih => exact fun he hf w => ih (by omega) (by omega) u
  | right lo n k p L h1 h2 u h ih => exact fun he hf w => ih he hf (uu_right hk hr hr2 h1 h2 he hf u w)
theorem sub_one {p : Nat} {es : List (List Nat)} (h : p < es.length) : sub p (p + 1) es = [es[p]] := by
  unfold sub
  rw [show p + 1 - p = 1 by omega, List.drop_eq_getElem_cons h]
  rfl
theorem place_unlike {s : Sr0} (hk : okSl s) {es fs : List (List Nat)} (hr : okR es) (hr2 : okR fs) {p : Nat} (he : p < es.length) (hf : p < fs.length) (u : UU s es fs p (p + 1) = true) : es[p] ≠ fs[p] := by
  obtain ⟨t, r⟩ := rt_ex hk hr (b := p) (e := p + 1) (by omega) (by omega)
  obtain ⟨t', r'⟩ := rt_ex hk hr2 (b := p) (e := p + 1) (by omega) (by omega)
  rw [uu_ne r r', ne_iff] at u
  intro z
  rw [sub_one he] at r
  rw [sub_one hf, ← z] at r'
  exact u (r.uniq r')
/-! ### by the whole sealer -/
theorem uu_whole {es fs : List (List Nat)} (hr : okR es) (hr2 : okR fs) {b e : Nat} (hbe : b < e) (he : e ≤ es.length) (hf : e ≤ fs.length) (u : UU none es fs b e = false) : sub b e es = sub b e fs := by
  obtain ⟨t, r⟩ := rt_ex (s := none) trivial hr hbe he
  obtain ⟨t', r'⟩ := rt_ex (s := none) trivial hr2 hbe hf
  rw [uu_ne r r'] at u
  have z : t = t' := by
    by_cases z : t = t'
    · exact z
    · rw [ne_diff z] at u; exact absurd u (by decide)
  subst z
  exact @rt_inj _ [] _ r _ r' (by rw [sub_len he, sub_len hf])
theorem fd_front {es fs : List (List Nat)} (hr : okR es) (hr2 : okR fs) {lo n p : Nat} {L : List (Nat × Nat)} (h : Fd (UU none es fs) lo n L p) : n ≤ es.length → n ≤ fs.length → sub lo p es = sub lo p fs := by
  induction h with
  | one lo => intro he hf; unfold sub; simp
  | left lo n k p L h1 h2 u h ih => exact fun he hf => ih (by omega) (by omega)
  | right lo n k p L h1 h2 u h ih =>
    intro he hf
    have hp : 0 < 2 ^ k := Nat.pow_pos (by omega)
    have hin := h.in
    rw [← sub_app (b := lo + 2 ^ k) (by omega) (by omega) (by omega), ← sub_app (b := lo + 2 ^ k) (es := fs) (by omega) (by omega) (by omega), ih he hf, uu_whole hr hr2 (by omega) (by omega) (by omega) u]
theorem take_same {es fs : List (List Nat)} {p : Nat} (h : sub 0 p es = sub 0 p fs) : ∀ j, j < p → es[j]? = fs[j]? := fun j hj => by
  have : (sub 0 p es)[j]? = (sub 0 p fs)[j]? := by rw [h]
  unfold sub at this
  rw [List.drop_zero, List.drop_zero, Nat.sub_zero, List.getElem?_take_of_lt hj, List.getElem?_take_of_lt hj] at this
  exact this
/-! ### the first unlike place -/
def at1 (k : Nat) (es : List (List Nat)) : List D := match es[k]? with
  | some e => [.str e]
  | none => []
theorem cut_at1 (k : Nat) (es : List (List Nat)) : Dn.cutD (es.map D.str) (some ((k : Nat) : Int)) (some ((k + 1 : Nat) : Int)) = at1 k es := by
  unfold Dn.cutD at1
  rw [HT.sIx_nat, HT.sIx_nat, List.length_map]
  by_cases h : k < es.length
  · rw [show min k es.length = k by omega, show min (k + 1) es.length = k + 1 by omega, List.getElem?_eq_getElem h, show k + 1 - k = 1 by omega, List.drop_eq_getElem_cons (by rw [List.length_map]; exact h)]
    simp
  · rw [show min k es.length = es.length by omega, show min (k + 1) es.length = es.length by omega, List.getElem?_eq_none (by omega)]
    simp
theorem at1_plain {k : Nat} {es : List (List Nat)} (hr : okR es) : PL 64 (.tup (at1 k es)) := by
  refine PL.tup 63 _ fun d hd => ?_
  unfold at1 at hd
  cases q : es[k]? with
  | none => rw [q] at hd; cases hd
  | some e =>
    rw [q] at hd
    simp at hd
    subst hd
    exact PL.str 62 _ (hr.2 e (List.mem_of_getElem? q)).1
theorem at1_inj {k : Nat} {es fs : List (List Nat)} : D.tup (at1 k es) = .tup (at1 k fs) ↔ es[k]? = fs[k]? := by
  unfold at1
  cases es[k]? with
  | none => cases fs[k]? with
    | none => exact ⟨fun _ => rfl, fun _ => rfl⟩
    | some f => exact ⟨(fun h => by cases h), (fun h => by cases h)⟩
  | some e => cases fs[k]? with
    | none => exact ⟨(fun h => by cases h), (fun h => by cases h)⟩
    | some f => exact ⟨(fun h => by cases h; rfl), (fun h => by cases h; rfl)⟩
abbrev ffB : Dn.Env → Sto → Sr := sIf (asT (m2 (fEq true) (mSl false (mVar 0) (oSome (mVar 2)) (oSome (m2 (fAdd false) (mVar 2) (mC (.int 1))))) (mSl false (mVar 1) (oSome (mVar 2)) (oSome (m2 (fAdd false) (mVar 2) (mC (.int 1))))))) (sRet (mVar 2)) (sNil)
theorem ff_loop {es fs : List (List Nat)} (hr : okR es) (hr2 : okR fs) {N : Nat} {st : Sto} : ∀ (f i : Nat) (x : Option D), f + i = N + 1 → i ≤ N → (∀ j, j < i → es[j]? = fs[j]?) →
    (∃ x', loopF (.rng 0 1 N) (gNm 2) ffB f i [some (cn true es), some (cn true fs), x] st = .nx [some (cn true es), some (cn true fs), x'] st ∧ ∀ j, j < N → es[j]? = fs[j]?) ∨
      ∃ k, loopF (.rng 0 1 N) (gNm 2) ffB f i [some (cn true es), some (cn true fs), x] st = .rt (.int (k : Nat)) st ∧ (∀ j, j < k → es[j]? = fs[j]?) ∧ es[k]? ≠ fs[k]?
  | 0, i, x, hf, hi, hj => by omega
  | f + 1, i, x, hf, hi, hj => by
    unfold loopF
    by_cases h : i < N
    · have ha : (Itb.rng 0 1 N).at_ i st = some (.int (i : Nat)) := by
        show (if i < N then some (D.int (0 + (i : Nat) * 1)) else none) = _
        rw [if_pos h]
        congr 2
        omega
      rw [ha]
      dsimp only
      rw [show gNm 2 (.int (i : Nat)) [some (cn true es), some (cn true fs), x] = some [some (cn true es), some (cn true fs), some (.int (i : Nat))] from rfl]
      dsimp only
      have ht : asT (m2 (fEq true) (mSl false (mVar 0) (oSome (mVar 2)) (oSome (m2 (fAdd false) (mVar 2) (mC (.int 1))))) (mSl false (mVar 1) (oSome (mVar 2)) (oSome (m2 (fAdd false) (mVar 2) (mC (.int 1)))))) [some (cn true es), some (cn true fs), some (.int (i : Nat))] st = .ok (ne (.tup (at1 i es)) (.tup (at1 i fs))) st := by
        refine asT_of (m2_of (a := .tup (at1 i es)) (b := .tup (at1 i fs)) (T := st) (U := st) ?_ ?_ (fne_ok (at1_plain hr) (at1_plain hr2)))
        · show Rs.ok (D.tup (Dn.cutD (es.map D.str) (some ((i : Nat) : Int)) (some ((i : Nat) + 1 : Int)))) st = _
          rw [show ((i : Nat) : Int) + 1 = ((i + 1 : Nat) : Int) by omega, cut_at1]
        · show Rs.ok (D.tup (Dn.cutD (fs.map D.str) (some ((i : Nat) : Int)) (some ((i : Nat) + 1 : Int)))) st = _
          rw [show ((i : Nat) : Int) + 1 = ((i + 1 : Nat) : Int) by omega, cut_at1]
      by_cases q : es[i]? = fs[i]?
      · have hb : ffB [some (cn true es), some (cn true fs), some (.int (i : Nat))] st = .nx [some (cn true es), some (cn true fs), some (.int (i : Nat))] st := by
          show sIf _ _ _ _ _ = _
          unfold sIf
          rw [ht, at1_inj.mpr q, ne_same]
          rfl
        rw [hb]
        dsimp only
        exact ff_loop hr hr2 f (i + 1) (some (.int (i : Nat))) (by omega) (by omega) fun j hj' => by
          by_cases e : j = i
          · rw [e]; exact q
          · exact hj j (by omega)
      · have hb : ffB [some (cn true es), some (cn true fs), some (.int (i : Nat))] st = .rt (.int (i : Nat)) st := by
          show sIf _ _ _ _ _ = _
          unfold sIf
          rw [ht, ne_diff (fun z => q (at1_inj.mp z))]
          rfl
        rw [hb]
        exact .inr ⟨i, rfl, hj, q⟩
    · have ha : (Itb.rng 0 1 N).at_ i st = none := by
        show (if i < N then some (D.int (0 + (i : Nat) * 1)) else none) = _
        rw [if_neg h]
      rw [ha]
      exact .inl ⟨x, rfl, fun j hj' => hj j (by omega)⟩
theorem ins_of {f : List D → Option Itb} {ml : Dn.Env → Sto → Rs (List D)} {E : Dn.Env} {S T : Sto} {ds : List D} {b : Itb} (h : ml E S = .ok ds T) (hf : f ds = some b) : mIns f ml E S = .ok b T := by
  unfold mIns
  rw [h]
  simp only [Rs.bind]
  rw [hf]
theorem itr1_nat (N : Nat) (h : N ≤ 2000) : itR1 [.int ((N : Nat) : Int)] = some (.rng 0 1 N) := by
  simp only [itR1]
  rw [if_pos ⟨by omega, by omega⟩, Int.toNat_natCast]
theorem first_ok {es fs : List (List Nat)} (hr : okR es) (hr2 : okR fs) (st : Sto) : ∃ d, d__law_first [cn true es, cn true fs] st = .ok d st ∧ ((d = .non ∧ ∀ j : Nat, j < max es.length fs.length → es[j]? = fs[j]?) ∨ ∃ k : Nat, d = .int (k : Nat) ∧ (∀ j, j < k → es[j]? = fs[j]?) ∧ es[k]? ≠ fs[k]?) := by
  rw [show d__law_first = dFn 3 b__law_first from rfl, dFn_fin]
  show ∃ d, fin (b__law_first [some (cn true es), some (cn true fs), none] st) = _ ∧ _
  unfold b__law_first
  have hm : mIns itR1 (lCons (mCall fMax (lCons (mCall fLen (lCons (mVar 0) (lNil))) (lCons (mCall fLen (lCons (mVar 1) (lNil))) (lNil)))) (lNil)) [some (cn true es), some (cn true fs), none] st = .ok (.rng 0 1 (max es.length fs.length)) st := by
    have h1 : mCall fMax (lCons (mCall fLen (lCons (mVar 0) (lNil))) (lCons (mCall fLen (lCons (mVar 1) (lNil))) (lNil))) [some (cn true es), some (cn true fs), none] st = .ok (.int ((max es.length fs.length : Nat) : Int)) st := by
      refine (call2 (d := .int (es.length : Nat)) (e := .int (fs.length : Nat)) (T := st) (U := st) ((call1 (T := st) rfl).trans (cn_len true es st)) ((call1 (T := st) rfl).trans (cn_len true fs st))).trans ?_
      show Rs.ok (D.int (if ((fs.length : Nat) : Int) > ((es.length : Nat) : Int) then ((fs.length : Nat) : Int) else ((es.length : Nat) : Int))) st = _
      congr 2
      split <;> omega
    have h2 := hr.1
    have h3 := hr2.1
    exact ins_of (lcons_of h1 rfl) (itr1_nat _ (by omega))
  have hfor : sFor (mIns itR1 (lCons (mCall fMax (lCons (mCall fLen (lCons (mVar 0) (lNil))) (lCons (mCall fLen (lCons (mVar 1) (lNil))) (lNil)))) (lNil))) (gNm 2) ffB [some (cn true es), some (cn true fs), none] st = loopF (.rng 0 1 (max es.length fs.length)) (gNm 2) ffB (max es.length fs.length + 1) 0 [some (cn true es), some (cn true fs), none] st := by
    unfold sFor
    rw [hm]
    rfl
  rcases ff_loop hr hr2 (N := max es.length fs.length) (st := st) (max es.length fs.length + 1) 0 none (by omega) (by omega) (fun j hj => by omega) with ⟨x', q, h⟩ | ⟨k, q, h1, h2⟩
  · exact ⟨.non, fin_seq (hfor.trans q) (fin_ret' rfl), .inl ⟨rfl, h⟩⟩
  · refine ⟨.int (k : Nat), ?_, .inr ⟨k, rfl, h1, h2⟩⟩
    show fin (sSeq _ _ _ _) = _
    unfold sSeq
    rw [show sFor _ (gNm 2) _ _ _ = _ from hfor.trans q]
    rfl
end Lk28
end

section
set_option linter.all false
set_option maxRecDepth 100000
set_option maxHeartbeats 2000000
namespace Lk28
open PySem PySem.Spec PyProof.Rows L2 Dn
theorem take_eq : d__law_take = uTake := rfl
theorem of_eq : d__law_of = uOf := rfl
theorem box_eq : d__law_box = uBox 1318328 := rfl
theorem cells_eq : d__law_cells = uCells := rfl
def L7 : List D := [slD none, slD none, slD (some (2, 1)), slD (some (3, 0)), slD (some (7, 4)), slD (some (97, 5)), slD (some (1000003, 12))]
theorem dw_sealer {n : Nat} : Dw n 1 (fun d => ∃ s, okSl s ∧ d = slD s) (d__law_sealer [.cell n]) := by
  refine dw_eq (r' := uOf [.cell n, .lst L7]) (fun st => ?_) ?_
  · rw [show d__law_sealer = dFn 1 b__law_sealer from rfl, dFn_fin]
    show fin (b__law_sealer [some (.cell n)] st) = _
    unfold b__law_sealer
    refine fin_ret' ?_
    rw [of_eq]
    exact call2 (T := st) (U := st) rfl rfl
  · refine Dw.mono (dw_of (g := .lst L7) (ds := L7) (fun _ => rfl) (fun _ h => by cases h) (by simp [L7]) (by decide)) (Nat.le_refl _) fun d hd => ?_
    simp only [L7, List.mem_cons, List.not_mem_nil, or_false] at hd
    rcases hd with rfl | rfl | rfl | rfl | rfl | rfl | rfl
    · exact ⟨none, trivial, rfl⟩
    · exact ⟨none, trivial, rfl⟩
    · exact ⟨some (2, 1), (by decide : (0 : Int) < 2), rfl⟩
    · exact ⟨some (3, 0), (by decide : (0 : Int) < 3), rfl⟩
    · exact ⟨some (7, 4), (by decide : (0 : Int) < 7), rfl⟩
    · exact ⟨some (97, 5), (by decide : (0 : Int) < 97), rfl⟩
    · exact ⟨some (1000003, 12), (by decide : (0 : Int) < 1000003), rfl⟩
def LE : List D := [.str [], .str [97], .str [98], .str [99], .str [97, 98], .str [97, 32, 98], .str [55], .str [126, 32, 57], .str [98, 111, 98, 32, 49, 50], .str [97]]
abbrev isE (d : D) : Prop := ∃ e, okE e ∧ d = .str e
theorem le_ok : ∀ d ∈ LE, isE d := fun d hd => by
  simp only [LE, List.mem_cons, List.not_mem_nil, or_false] at hd
  rcases hd with rfl | rfl | rfl | rfl | rfl | rfl | rfl | rfl | rfl | rfl <;> exact ⟨_, ⟨by decide, by decide⟩, rfl⟩
theorem row_of : ∀ {ys : List D}, (∀ y ∈ ys, isE y) → ∃ es : List (List Nat), ys = es.map D.str ∧ ∀ e ∈ es, okE e
  | [], _ => ⟨[], rfl, fun _ h => nomatch h⟩
  | y :: ys, h => by
    obtain ⟨e, he, rfl⟩ := h y List.mem_cons_self
    obtain ⟨es, rfl, hs⟩ := row_of (ys := ys) fun z hz => h z (List.mem_cons_of_mem _ hz)
    exact ⟨e :: es, rfl, fun x hx => (List.mem_cons.mp hx).elim (fun q => by rw [q]; exact he) (hs x)⟩
abbrev lgM : Dn.Env → Sto → Rs D := mCall (d__law_take) (lCons (mVar 0) (lCons (m2 (fAdd false) (mVar 1) (mC (.int 1))) (lNil)))
abbrev lgE2 : Dn.Env → Sto → Rs D := mCall (d__law_of) (lCons (mVar 0) (lCons (mLst false (lCons (mC (.str [])) (lCons (mC (.str [97])) (lCons (mC (.str [98])) (lCons (mC (.str [99])) (lCons (mC (.str [97, 98])) (lCons (mC (.str [97, 32, 98])) (lCons (mC (.str [55])) (lCons (mC (.str [126, 32, 57])) (lCons (mC (.str [98, 111, 98, 32, 49, 50])) (lCons (mC (.str [97])) (lNil)))))))))))) (lNil)))
theorem dw_log {n : Nat} (M : Nat) (hM : M ≤ 100) : Dw n (1 + M * 1 + 0) (fun d => ∃ es, es.length ≤ M ∧ (∀ e ∈ es, okE e) ∧ d = cn true es) (d__law_log [.cell n, .int (M : Nat)]) := by
  have hl : Dw n (1 + M * 1) (fun d => ∃ ys, d = .lst ys ∧ ys.length ≤ M ∧ ∀ y ∈ ys, isE y) (mLc false [2] (mIns itR1 (lCons lgM lNil)) (gNm 2) mYes lgE2 [some (.cell n), some (.int (M : Nat)), none]) := by
    refine dw_lc (by show M < 16777216; omega) ?_ fun i => ?_
    · refine dw_eq (r' := uTake [.cell n, .int ((M : Int) + 1)]) (fun st => ?_) ?_
      · exact call2 (T := st) (U := st) rfl rfl
      · exact Dw.mono (dw_take (by omega) (by omega)) (Nat.le_refl _) fun d ⟨r, e, h0, h1⟩ => ⟨r, e, h0, by omega⟩
    · refine dw_eq (r' := uOf [.cell n, .lst LE]) (fun st => ?_) ?_
      · exact call2 (T := st) (U := st) rfl rfl
      · exact Dw.mono (dw_of (g := .lst LE) (ds := LE) (fun _ => rfl) (fun _ h => by cases h) (by simp [LE]) (by decide)) (Nat.le_refl _) le_ok
  refine dw_eq (r' := mCall fTuple (lCons (mLc false [2] (mIns itR1 (lCons lgM lNil)) (gNm 2) mYes lgE2) lNil) [some (.cell n), some (.int (M : Nat)), none]) (fun st => ?_) ?_
  · rw [show d__law_log = dFn 3 b__law_log from rfl, dFn_fin]
    show fin (b__law_log [some (.cell n), some (.int (M : Nat)), none] st) = _
    unfold b__law_log
    exact fin_ret
  · refine Dw.mono (dw_tuple (T := fun ys => ys.length ≤ M ∧ ∀ y ∈ ys, isE y) hl) (Nat.le_refl _) fun d ⟨ys, e, h1, h2⟩ => ?_
    obtain ⟨es, rfl, hs⟩ := row_of h2
    rw [List.length_map] at h1
    exact ⟨es, h1, hs, e⟩
def L5 : List D := [.str [97], .str [98], .str [], .str [113], .str [97, 32, 98]]
theorem l5_ok : ∀ d ∈ L5, isE d := fun d hd => by
  simp only [L5, List.mem_cons, List.not_mem_nil, or_false] at hd
  rcases hd with rfl | rfl | rfl | rfl | rfl <;> exact ⟨_, ⟨by decide, by decide⟩, rfl⟩
theorem dw_five {n : Nat} : Dw n 1 isE (uOf [.cell n, .lst L5]) :=
  Dw.mono (dw_of (g := .lst L5) (ds := L5) (fun _ => rfl) (fun _ h => by cases h) (by simp [L5]) (by decide)) (Nat.le_refl _) l5_ok
end Lk28
end

section
set_option linter.all false
set_option maxRecDepth 100000
set_option maxHeartbeats 2000000
namespace Lk28
open PySem PySem.Spec PyProof.Rows L2 Dn
theorem nx_seq {a b : Dn.Env → Sto → Sr} {E E' : Dn.Env} {S S' : Sto} {r : Sr} (h : a E S = .nx E' S') (k : b E' S' = r) : sSeq a b E S = r := by
  unfold sSeq
  rw [h]
  exact k
theorem sl_of {mu : Bool} {ma : Dn.Env → Sto → Rs D} {mlo mhi : Dn.Env → Sto → Rs (Option Int)} {E : Dn.Env} {S T U V : Sto} {a : D} {lo hi : Option Int} {r : Rs D} (h1 : ma E S = .ok a T) (h2 : mlo E T = .ok lo U) (h3 : mhi E U = .ok hi V) (h4 : fSl mu a lo hi V = r) : mSl mu ma mlo mhi E S = r := by
  unfold mSl
  rw [h1]
  simp only [Rs.bind]
  rw [h2]
  simp only
  rw [h3]
  exact h4
theorem osome_of {m : Dn.Env → Sto → Rs D} {E : Dn.Env} {S T : Sto} {i : Int} (h : m E S = .ok (.int i) T) : oSome m E S = .ok (some i) T := by
  unfold oSome
  rw [h]
  rfl
theorem mand_of {t u : Dn.Env → Sto → Rs Bool} {E : Dn.Env} {S T : Sto} {r : Rs Bool} (h : t E S = .ok true T) (k : u E T = r) : mAndT t u E S = r := by
  unfold mAndT
  rw [h]
  exact k
theorem mand_no {t u : Dn.Env → Sto → Rs Bool} {E : Dn.Env} {S T : Sto} (h : t E S = .ok false T) : mAndT t u E S = .ok false T := by
  unfold mAndT
  rw [h]
  rfl
theorem mor_no {t u : Dn.Env → Sto → Rs Bool} {E : Dn.Env} {S T : Sto} {r : Rs Bool} (h : t E S = .ok false T) (k : u E T = r) : mOrT t u E S = r := by
  unfold mOrT
  rw [h]
  exact k
theorem mif_yes {t : Dn.Env → Sto → Rs Bool} {m k : Dn.Env → Sto → Rs D} {E : Dn.Env} {S T : Sto} {r : Rs D} (h : t E S = .ok true T) (q : m E T = r) : mIf t m k E S = r := by
  unfold mIf
  rw [h]
  exact q
theorem mif_no {t : Dn.Env → Sto → Rs Bool} {m k : Dn.Env → Sto → Rs D} {E : Dn.Env} {S T : Sto} {r : Rs D} (h : t E S = .ok false T) (q : k E T = r) : mIf t m k E S = r := by
  unfold mIf
  rw [h]
  exact q
theorem if_yes {t : Dn.Env → Sto → Rs Bool} {a b : Dn.Env → Sto → Sr} {E : Dn.Env} {S T : Sto} {r : Sr} (h : t E S = .ok true T) (q : a E T = r) : sIf t a b E S = r := by
  unfold sIf
  rw [h]
  exact q
theorem if_no {t : Dn.Env → Sto → Rs Bool} {a b : Dn.Env → Sto → Sr} {E : Dn.Env} {S T : Sto} {r : Sr} (h : t E S = .ok false T) (q : b E T = r) : sIf t a b E S = r := by
  unfold sIf
  rw [h]
  exact q
theorem mlst_of {ml : Dn.Env → Sto → Rs (List D)} {E : Dn.Env} {S T : Sto} {ds : List D} (h : ml E S = .ok ds T) (hz : ds.length ≤ sz) : mLst false ml E S = .ok (.lst ds) T := by
  unfold mLst
  rw [h]
  simp only [Rs.bind]
  rw [if_pos hz]
  rfl
theorem sset_of {mo mi me : Dn.Env → Sto → Rs D} {E : Dn.Env} {S T U V W : Sto} {v o i : D} (h1 : me E S = .ok v T) (h2 : mo E T = .ok o U) (h3 : mi E U = .ok i V) (h4 : fSet o i v V = some W) : sSet mo mi me E S = .nx E W := by
  unfold sSet
  rw [h1]
  simp only [Rs.thn]
  rw [h2]
  simp only
  rw [h3]
  simp only
  rw [h4]
theorem par_of {i j : Nat} {ml : Dn.Env → Sto → Rs (List D)} {E : Dn.Env} {S T : Sto} {v w : D} (h : ml E S = .ok [v, w] T) : sPar i j ml E S = .nx ((E.set i (some v)).set j (some w)) T := by
  unfold sPar
  rw [h]
  rfl
theorem feq_of {a b : D} {S : Sto} {x : Bool} (h : fEq true a b S = .ok (.bl x) S) : fEq false a b S = .ok (.bl (!x)) S := by
  have gen : ∀ (c d : Bool), (if c then Rs.ok (D.bl (true != d)) S else .no) = .ok (.bl x) S → (if c then Rs.ok (D.bl (false != d)) S else .no) = .ok (.bl (!x)) S := fun c d h => by
    cases c with
    | false => cases h
    | true => cases d <;> cases x <;> first | rfl | (exfalso; revert h; simp)
  unfold fEq at h ⊢
  split at h
  · cases x <;> simp_all
  · cases x <;> simp_all
  · cases x <;> simp_all
  · rename_i h1 h2 h3
    exact gen _ _ h
/-! ### the store -/
theorem Urn.app {n N : Nat} {st : Sto} {x : List Cell} (h : Urn n N st) : Urn n N (st ++ x) := by
  have hl := h.lt
  obtain ⟨a, b, c, h, q⟩ := h
  exact ⟨a, b, c, by rw [List.getElem?_append_left hl]; exact h, q⟩
theorem Urn.put {n c N : Nat} {st : Sto} {x : Cell} (hc : c ≠ n) (h : Urn n N st) : Urn n N (st.set c x) := by
  obtain ⟨a, b, c', h, q⟩ := h
  exact ⟨a, b, c', by rw [List.getElem?_set_ne hc]; exact h, q⟩
abbrev okS (es : List (List Nat)) : Prop := ∀ e ∈ es, okE e
def Row (c M : Nat) (st : Sto) : Prop := ∃ fs, fs.length ≤ M ∧ okS fs ∧ st[c]? = some (.lst (fs.map D.str))
theorem Row.keep {n c M : Nat} {st st' : Sto} (h : Row c M st) (hc : c ≠ n) (k : Keep n st st') : Row c M st' := by
  obtain ⟨fs, h1, h2, h3⟩ := h
  exact ⟨fs, h1, h2, by rw [k.2 c (List.getElem?_eq_some_iff.mp h3).1 hc]; exact h3⟩
theorem getl_cell {c : Nat} {st : Sto} {ds : List D} (h : st[c]? = some (.lst ds)) : getL (.cell c) st = some ds := by
  show (match st[c]? with | some (.lst ds) => some ds | _ => none) = _
  rw [h]
abbrev A1 : Dn.Env → Sto → Sr := sPar 5 6 (lCons (mCall (d__law_sealer) (lCons (mVar 0) (lNil))) (lCons (mCall (d__law_log) (lCons (mVar 0) (lCons (mC (.int 16)) (lNil)))) (lNil)))
abbrev A2 : Dn.Env → Sto → Sr := sAsg (gNm 2) (m2 (fAdd true) (mCall (fList false) (lCons (mVar 6) (lNil))) (mCall (fList false) (lCons (mCall (d__law_log) (lCons (mVar 0) (lCons (mC (.int 2)) (lNil)))) (lNil))))
abbrev A3 : Dn.Env → Sto → Sr := sFor (mIns itR1 (lCons (mCall (d__law_take) (lCons (mVar 0) (lCons (mC (.int 4)) (lNil)))) (lNil))) (gNm 3) (sIf (asT (m2 (fEq true) (mVar 2) (mLst false (lNil)))) (sSet (mVar 2) (mCall (d__law_take) (lCons (mVar 0) (lCons (mCall fLen (lCons (mVar 2) (lNil))) (lNil)))) (mCall (d__law_of) (lCons (mVar 0) (lCons (mLst false (lCons (mC (.str [97])) (lCons (mC (.str [98])) (lCons (mC (.str [])) (lCons (mC (.str [113])) (lCons (mC (.str [97, 32, 98])) (lNil))))))) (lNil))))) (sNil))
abbrev A4 : Dn.Env → Sto → Sr := sAsg (gNm 2) (mCall fTuple (lCons (mSl false (mVar 2) (oNone) (oSome (mCall fMax (lCons (mC (.int 0)) (lCons (m2 (fSub) (mCall fLen (lCons (mVar 2) (lNil))) (mCall (d__law_take) (lCons (mVar 0) (lCons (mC (.int 3)) (lNil))))) (lNil)))))) (lNil)))
abbrev A5 : Dn.Env → Sto → Sr := sPar 7 8 (lCons (mCall fMin (lCons (mCall fLen (lCons (mVar 6) (lNil))) (lCons (mCall fLen (lCons (mVar 2) (lNil))) (lNil)))) (lCons (mCall (d__law_first) (lCons (mVar 6) (lCons (mVar 2) (lNil)))) (lNil)))
abbrev A6 : Dn.Env → Sto → Sr := sAsg (gNm 4) (mTup (lCons (mTup (lNil)) (lCons (mC .non) (lNil))))
abbrev A7 : Dn.Env → Sto → Sr := sIf (mAndT (asT (m2 (fGt) (mVar 7) (mC (.int 0)))) (asT (m2 (fEq false) (mCall (d__law_root) (lCons (mVar 5) (lCons (mSl false (mVar 6) (oNone) (oSome (mVar 7))) (lNil)))) (mCall (d__law_root) (lCons (mVar 5) (lCons (mSl false (mVar 2) (oNone) (oSome (mVar 7))) (lNil))))))) (sAsg (gNm 4) (mTup (lCons (mTup (lCons (mTup (lCons (mC (.int 0)) (lCons (mVar 7) (lNil)))) (lNil))) (lCons (mC .non) (lNil))))) (sIf (asT (m2 (fGt) (mVar 7) (mC (.int 0)))) (sSeq (sAsg (gTp 2 (gsCons (gNm 9) (gsCons (gNm 10) (gsNil)))) (mCall (d__law_found) (lCons (mVar 5) (lCons (mVar 6) (lCons (mVar 2) (lCons (mC (.int 0)) (lCons (mVar 7) (lNil)))))))) (sSeq (sAsg (gNm 4) (mTup (lCons (m2 (fAdd false) (mTup (lCons (mTup (lCons (mC (.int 0)) (lCons (mVar 7) (lNil)))) (lNil))) (mCall fTuple (lCons (mVar 9) (lNil)))) (lCons (mVar 10) (lNil))))) (sIf (mOrT (asT (m2 (fEq true) (mCall fLen (lCons (m2 fIx (mVar 4) (mC (.int 0))) (lNil))) (m2 (fAdd false) (mC (.int 1)) (mCall fLen (lCons (mCall (d__law_sides) (lCons (mVar 7) (lCons (mVar 10) (lNil)))) (lNil)))))) (asT (m2 (fEq false) (m2 fIx (mVar 6) (mVar 10)) (m2 fIx (mVar 2) (mVar 10))))) (sRet (mC (.bl false))) (sNil)))) (sNil))
abbrev A8 : Dn.Env → Sto → Sr := sIf (mNotT (asTru (mCall (d__law_same) (lCons (mLst false (lCons (mCall (d_search) (lCons (mVar 5) (lCons (mVar 6) (lCons (mVar 2) (lNil))))) (lCons (mCall (d_search) (lCons (mVar 5) (lCons (mCall (fList false) (lCons (mVar 2) (lNil))) (lCons (mCall (fList false) (lCons (mVar 6) (lNil))) (lNil))))) (lNil)))) (lCons (mLst false (lCons (mVar 4) (lCons (mVar 4) (lNil)))) (lNil)))))) (sRet (mC (.bl false))) (sNil)
abbrev A9 : Dn.Env → Sto → Sr := sIf (mAndT (asT (m2 (fEq false) (mVar 5) (mTup (lCons (mC (.str [119, 104, 111, 108, 101])) (lNil))))) (asT (m2 (fEq true) (m2 fIx (mVar 4) (mC (.int 1))) (mIf (mAndT (asT (m2 (fIs true) (mVar 8) (mC .non))) (asT (m2 (fLt) (mVar 8) (mVar 7)))) (mVar 8) (mC .non))))) (sRet (mC (.bl false))) (sNil)
abbrev B3 : Dn.Env → Sto → Sr := sIf (asT (m2 (fEq true) (mVar 2) (mLst false (lNil)))) (sSet (mVar 2) (mCall (d__law_take) (lCons (mVar 0) (lCons (mCall fLen (lCons (mVar 2) (lNil))) (lNil)))) (mCall (d__law_of) (lCons (mVar 0) (lCons (mLst false (lCons (mC (.str [97])) (lCons (mC (.str [98])) (lCons (mC (.str [])) (lCons (mC (.str [113])) (lCons (mC (.str [97, 32, 98])) (lNil))))))) (lNil))))) (sNil)
theorem body_eq : b__law_right = sSeq (sFor (mIns itR1 (lCons (mC (.int 3)) (lNil))) (gNm 1) (sSeq A1 (sSeq A2 (sSeq A3 (sSeq A4 (sSeq A5 (sSeq A6 (sSeq A7 (sSeq A8 A9))))))))) (sRet (mC (.bl true))) := rfl
section
variable {n N : Nat} {st : Sto} {x1 x2 x3 x4 x5 x6 x7 x8 x9 x10 : Option D}
theorem a1_ok (hu : Urn n N st) (hN : N + 18 < 2 ^ 20) : ∃ s es st', okSl s ∧ es.length ≤ 16 ∧ okS es ∧ Urn n (N + 18) st' ∧
    A1 [some (.cell n), x1, x2, x3, x4, x5, x6, x7, x8, x9, x10] st = .nx [some (.cell n), x1, x2, x3, x4, some (slD s), some (cn true es), x7, x8, x9, x10] st' := by
  obtain ⟨d, s1, e1, ⟨s, hk, rfl⟩, u1, q1⟩ := dw_sealer (n := n) N st hu (by omega)
  obtain ⟨d, s2, e2, ⟨es, hl, he, rfl⟩, u2, q2⟩ := dw_log (n := n) 16 (by decide) (N + 1) s1 u1 (by omega)
  refine ⟨s, es, s2, hk, hl, he, u2.le (by omega), ?_⟩
  exact par_of (lcons_of (T := s1) ((call1 (T := st) rfl).trans e1) (lcons_of (T := s2) ((call2 (T := s1) (U := s1) rfl rfl).trans e2) rfl))
theorem a2_ok {es : List (List Nat)} (hl : es.length ≤ 16) (he : okS es) (hu : Urn n N st) (hN : N + 3 < 2 ^ 20) : ∃ c st', c ≠ n ∧ Urn n (N + 3) st' ∧ Row c 18 st' ∧
    A2 [some (.cell n), x1, x2, x3, x4, x5, some (cn true es), x7, x8, x9, x10] st = .nx [some (.cell n), x1, some (.cell c), x3, x4, x5, some (cn true es), x7, x8, x9, x10] st' := by
  obtain ⟨d, s2, e2, ⟨fs, hl2, he2, rfl⟩, u2, q2⟩ := dw_log (n := n) 2 (by decide) N st hu (by omega)
  have hlt := u2.lt
  have hz : (es.map D.str).length + (fs.map D.str).length ≤ 16777216 := by rw [List.length_map, List.length_map]; omega
  refine ⟨s2.length, s2 ++ [.lst ((es ++ fs).map D.str)], by omega, (Urn.app u2).le (by omega), ⟨es ++ fs, by rw [List.length_append]; omega, fun e h => ?_, by simp⟩, ?_⟩
  · rcases List.mem_append.mp h with h | h
    · exact he e h
    · exact he2 e h
  · refine asg_of (k := 2) (m2_of (a := .lst (es.map D.str)) (b := .lst (fs.map D.str)) (T := st) (U := s2) rfl ?_ ?_)
    · exact (call1 (T := s2) ((call2 (T := st) (U := st) rfl rfl).trans e2)).trans rfl
    · show (if (es.map D.str).length + (fs.map D.str).length ≤ sz then mkL true (es.map D.str ++ fs.map D.str) s2 else .no) = _
      rw [if_pos (by exact hz), List.map_append]
      rfl
theorem b3_ok {c : Nat} (hu : Urn n N st) (hN : N + 2 < 2 ^ 20) (hc : c ≠ n) (hr : Row c 18 st) : ∃ st', Urn n (N + 2) st' ∧ Row c 18 st' ∧
    B3 [some (.cell n), x1, some (.cell c), x3, x4, x5, x6, x7, x8, x9, x10] st = .nx [some (.cell n), x1, some (.cell c), x3, x4, x5, x6, x7, x8, x9, x10] st' := by
  have hr0 := hr
  obtain ⟨fs, h1, h2, h3⟩ := hr
  have hcl := (List.getElem?_eq_some_iff.mp h3).1
  have g := getl_cell h3
  have hok : okD 64 st (.cell c) = true := by
    show (match getL (.cell c) st with | some ds => allL (okD 63 st) ds | none => false) = true
    rw [g]
    refine allL_of fun x hx => ?_
    obtain ⟨e, he, rfl⟩ := List.mem_map.mp hx
    exact (h2 e he).1
  have ht : ∀ b, eqL (eqD 63 st) (fs.map D.str) [] = b → asT (m2 (fEq true) (mVar 2) (mLst false (lNil))) [some (.cell n), x1, some (.cell c), x3, x4, x5, x6, x7, x8, x9, x10] st = .ok (!b) st := fun b hb => by
    refine asT_of (m2_of (a := .cell c) (b := .lst []) (T := st) (U := st) rfl rfl ?_)
    show (if okD 64 st (.cell c) && okD 64 st (.lst []) then Rs.ok (D.bl (true != eqO (eqD 63 st) (getL (.cell c) st) (getL (.lst []) st))) st else .no) = _
    rw [hok, g]
    show Rs.ok (D.bl (true != eqL (eqD 63 st) (fs.map D.str) [])) st = _
    rw [hb]
    cases b <;> rfl
  by_cases h0 : fs = []
  · subst h0
    exact ⟨st, hu.le (by omega), hr0, if_no (ht true rfl) rfl⟩
  · have hf : 0 < fs.length := List.length_pos_iff.mpr h0
    obtain ⟨v, s1, e1, ⟨e, he, rfl⟩, u1, q1⟩ := dw_five (n := n) N st hu (by omega)
    have h4 : s1[c]? = some (.lst (fs.map D.str)) := by rw [q1.2 c hcl hc]; exact h3
    obtain ⟨r, s2, e2, r0, r1, u2, q2, _⟩ := take_ok (low := ((fs.length : Nat) : Int)) u1 (by omega) (by omega) (by omega)
    have hcl1 := (List.getElem?_eq_some_iff.mp h4).1
    have h5 : s2[c]? = some (.lst (fs.map D.str)) := by rw [q2.2 c hcl1 hc]; exact h4
    have hcl2 := (List.getElem?_eq_some_iff.mp h5).1
    refine ⟨s2.set c (.lst ((fs.set r.toNat e).map D.str)), Urn.put hc (u2.le (by omega)), ⟨fs.set r.toNat e, by rw [List.length_set]; exact h1, fun x hx => ?_, by rw [List.getElem?_set_self hcl2]⟩, if_yes (ht false ?_) ?_⟩
    · rcases List.mem_or_eq_of_mem_set hx with hx | hx
      · exact h2 x hx
      · rw [hx]; exact he
    · cases fs with
      | nil => exact absurd rfl h0
      | cons a b => rfl
    · have hv : mCall (d__law_of) (lCons (mVar 0) (lCons (mLst false (lCons (mC (.str [97])) (lCons (mC (.str [98])) (lCons (mC (.str [])) (lCons (mC (.str [113])) (lCons (mC (.str [97, 32, 98])) (lNil))))))) (lNil))) [some (.cell n), x1, some (.cell c), x3, x4, x5, x6, x7, x8, x9, x10] st = .ok (.str e) s1 := by
        rw [of_eq]
        exact (call2 (T := st) (U := st) rfl rfl).trans e1
      have hi : mCall (d__law_take) (lCons (mVar 0) (lCons (mCall fLen (lCons (mVar 2) (lNil))) (lNil))) [some (.cell n), x1, some (.cell c), x3, x4, x5, x6, x7, x8, x9, x10] s1 = .ok (.int r) s2 := by
        rw [take_eq]
        refine (call2 (d := .cell n) (e := .int (fs.length : Nat)) (T := s1) (U := s1) rfl ?_).trans e2
        refine (call1 (d := .cell c) (T := s1) rfl).trans ?_
        rw [fLen_list (getl_cell h4), List.length_map]
      have hs : fSet (.cell c) (.int r) (.str e) s2 = some (s2.set c (.lst ((fs.set r.toNat e).map D.str))) := by
        unfold fSet
        dsimp only
        rw [h5]
        dsimp only
        have : ixN (fs.map D.str).length r = some r.toNat := by
          rw [List.length_map]
          unfold ixN
          rw [if_pos r0, if_pos r1]
        rw [this, List.map_set]
      exact sset_of hv rfl hi hs
end
end Lk28
end

section
set_option linter.all false
set_option maxRecDepth 100000
set_option maxHeartbeats 2000000
namespace Lk28
open PySem PySem.Spec PyProof.Rows L2 Dn
section
variable {n N : Nat} {st : Sto} {x1 x2 x3 x4 x5 x6 x7 x8 x9 x10 : Option D}
theorem a3_ok {c : Nat} (hu : Urn n N st) (hN : N + 9 < 2 ^ 20) (hc : c ≠ n) (hr : Row c 18 st) : ∃ y3 st', Urn n (N + 9) st' ∧ Row c 18 st' ∧
    A3 [some (.cell n), x1, some (.cell c), x3, x4, x5, x6, x7, x8, x9, x10] st = .nx [some (.cell n), x1, some (.cell c), y3, x4, x5, x6, x7, x8, x9, x10] st' := by
  obtain ⟨r, s1, e1, r0, r1, u1, q1, _⟩ := take_ok (low := 4) hu (by omega) (by omega) (by omega)
  have hr1 := hr.keep hc q1
  have hm : mIns itR1 (lCons (mCall (d__law_take) (lCons (mVar 0) (lCons (mC (.int 4)) (lNil)))) (lNil)) [some (.cell n), x1, some (.cell c), x3, x4, x5, x6, x7, x8, x9, x10] st = .ok (.rng 0 1 r.toNat) s1 := by
    refine ins_of (ds := [.int r]) (lcons_of (T := s1) ?_ rfl) ?_
    · rw [take_eq]
      exact (call2 (T := st) (U := st) rfl rfl).trans e1
    · have := itr1_nat r.toNat (by omega)
      rwa [Int.toNat_of_nonneg r0] at this
  obtain ⟨e, s, h1, ⟨y, h2⟩, h3, h4⟩ := loopF_inv (b := .rng 0 1 r.toNat) (tg := gNm 3) (body := B3)
    (fun i env s => (∃ y, env = [some (.cell n), x1, some (.cell c), y, x4, x5, x6, x7, x8, x9, x10]) ∧ Urn n (N + 1 + 2 * i) s ∧ Row c 18 s) r.toNat
    (by
      rintro i env s ⟨⟨y, rfl⟩, hu, hrow⟩ hi
      obtain ⟨s', a, b, d⟩ := b3_ok (x1 := x1) (x3 := some (.int (i : Nat))) (x4 := x4) (x5 := x5) (x6 := x6) (x7 := x7) (x8 := x8) (x9 := x9) (x10 := x10) hu (by omega) hc hrow
      refine ⟨.int (i : Nat), _, ?_, rfl, _, s', .inl d, ⟨some (.int (i : Nat)), rfl⟩, a.le (by omega), b⟩
      unfold Itb.at_
      dsimp only
      rw [if_pos hi]
      simp)
    (by
      rintro env s _
      unfold Itb.at_
      dsimp only
      rw [if_neg (Nat.lt_irrefl _)])
    (r.toNat + 1) 0 [some (.cell n), x1, some (.cell c), x3, x4, x5, x6, x7, x8, x9, x10] s1 (by omega) (by omega) ⟨⟨x3, rfl⟩, u1, hr1⟩
  subst h2
  refine ⟨y, s, h3.le (by omega), h4, ?_⟩
  show sFor _ _ _ _ _ = _
  unfold sFor
  rw [hm]
  exact h1
theorem a4_ok {c : Nat} (hu : Urn n N st) (hN : N + 1 < 2 ^ 20) (hc : c ≠ n) (hr : Row c 18 st) : ∃ fs st', fs.length ≤ 18 ∧ okS fs ∧ Urn n (N + 1) st' ∧
    A4 [some (.cell n), x1, some (.cell c), x3, x4, x5, x6, x7, x8, x9, x10] st = .nx [some (.cell n), x1, some (cn true fs), x3, x4, x5, x6, x7, x8, x9, x10] st' := by
  obtain ⟨r, s1, e1, r0, r1, u1, q1, _⟩ := take_ok (low := 3) hu (by omega) (by omega) (by omega)
  have hr1 := hr.keep hc q1
  obtain ⟨fs, h1, h2, h3⟩ := hr
  obtain ⟨fs', g1, g2, g3⟩ := hr1
  have hff : fs' = fs := by
    have := q1.2 c (List.getElem?_eq_some_iff.mp h3).1 hc
    rw [h3, g3] at this
    have := Option.some.inj this
    injection this with this
    exact (List.map_inj_right (fun a b h => by injection h)).mp this
  subst hff
  have hmx : mCall fMax (lCons (mC (.int 0)) (lCons (m2 (fSub) (mCall fLen (lCons (mVar 2) (lNil))) (mCall (d__law_take) (lCons (mVar 0) (lCons (mC (.int 3)) (lNil))))) (lNil))) [some (.cell n), x1, some (.cell c), x3, x4, x5, x6, x7, x8, x9, x10] st = .ok (.int ((fs'.length - r.toNat : Nat) : Int)) s1 := by
    refine (call2 (d := .int 0) (e := .int ((fs'.length : Nat) - r)) (T := st) (U := s1) rfl (m2_of (a := .int (fs'.length : Nat)) (b := .int r) (T := st) (U := s1) ?_ ?_ rfl)).trans ?_
    · refine (call1 (d := .cell c) (T := st) rfl).trans ?_
      rw [fLen_list (getl_cell h3), List.length_map]
    · rw [take_eq]
      exact (call2 (T := st) (U := st) rfl rfl).trans e1
    · show Rs.ok (D.int (if ((fs'.length : Nat) : Int) - r > 0 then ((fs'.length : Nat) : Int) - r else 0)) s1 = _
      congr 2
      split <;> omega
  refine ⟨fs'.take (fs'.length - r.toNat), s1, by rw [List.length_take]; omega, fun e he => h2 e (List.mem_of_mem_take he), u1, asg_of (k := 2) ((call1 (d := .lst ((fs'.take (fs'.length - r.toNat)).map D.str)) (T := s1) (sl_of (T := st) (U := st) (V := s1) rfl rfl (osome_of hmx) ?_)).trans rfl)⟩
  show (match getL (.cell c) s1 with | some ds => mkL false (Dn.cutD ds none (some ((fs'.length - r.toNat : Nat) : Int))) s1 | none => .no) = _
  rw [getl_cell g3]
  show mkL false (Dn.cutD (fs'.map D.str) none (some ((fs'.length - r.toNat : Nat) : Int))) s1 = _
  rw [cut_to, ← List.map_take]
  rfl
theorem min_ok {a b : Nat} : (if ((b : Nat) : Int) < ((a : Nat) : Int) then ((b : Nat) : Int) else ((a : Nat) : Int)) = ((min a b : Nat) : Int) := by
  split <;> omega
theorem a5_ok {es fs : List (List Nat)} (hr : okR es) (hr2 : okR fs) : ∃ d, ((d = .non ∧ ∀ j : Nat, j < max es.length fs.length → es[j]? = fs[j]?) ∨ ∃ k : Nat, d = .int (k : Nat) ∧ (∀ j, j < k → es[j]? = fs[j]?) ∧ es[k]? ≠ fs[k]?) ∧
    A5 [some (.cell n), x1, some (cn true fs), x3, x4, x5, some (cn true es), x7, x8, x9, x10] st = .nx [some (.cell n), x1, some (cn true fs), x3, x4, x5, some (cn true es), some (.int ((min es.length fs.length : Nat) : Int)), some d, x9, x10] st := by
  obtain ⟨d, e, h⟩ := first_ok hr hr2 st
  refine ⟨d, h, par_of (lcons_of (T := st) ?_ (lcons_of (T := st) ((call2 (T := st) (U := st) rfl rfl).trans e) rfl))⟩
  refine (call2 (d := .int (es.length : Nat)) (e := .int (fs.length : Nat)) (T := st) (U := st) ((call1 (T := st) rfl).trans (cn_len true es st)) ((call1 (T := st) rfl).trans (cn_len true fs st))).trans ?_
  show Rs.ok (D.int (if ((fs.length : Nat) : Int) < ((es.length : Nat) : Int) then ((fs.length : Nat) : Int) else ((es.length : Nat) : Int))) st = _
  rw [min_ok]
theorem sub_zero (k : Nat) (es : List (List Nat)) : sub 0 k es = es.take k := by
  unfold sub
  rw [List.drop_zero, Nat.sub_zero]
theorem cn_ix {es : List (List Nat)} {p : Nat} (h : p < es.length) (st : Sto) : fIx (cn true es) (.int (p : Nat)) st = .ok (.str es[p]) st := by
  have h2 : ((p : Nat) : Int) < ((es.length : Nat) : Int) := by omega
  simp [cn, fIx, getS, atI, ixN, h, h2]
theorem a7_ok {s : Sr0} (hk : okSl s) {es fs : List (List Nat)} (hr : okR es) (hr2 : okR fs) {m : Nat} (hm : m = min es.length fs.length) : ∃ d y9 y10, Du s es fs m d ∧
    A7 [some (.cell n), x1, some (cn true fs), x3, some (.tup [.tup [], .non]), some (slD s), some (cn true es), some (.int (m : Nat)), x8, x9, x10] st = .nx [some (.cell n), x1, some (cn true fs), x3, some d, some (slD s), some (cn true es), some (.int (m : Nat)), x8, y9, y10] st := by
  have hgt : asT (m2 (fGt) (mVar 7) (mC (.int 0))) [some (.cell n), x1, some (cn true fs), x3, some (.tup [.tup [], .non]), some (slD s), some (cn true es), some (.int (m : Nat)), x8, x9, x10] st = .ok (decide (0 < m)) st := by
    refine asT_of (m2_of (T := st) (U := st) rfl rfl ?_)
    simp [fGt, fOrder]
  by_cases h0 : m = 0
  · subst h0
    exact ⟨_, x9, x10, .inl ⟨rfl, rfl⟩, if_no (mand_no hgt) (if_no hgt rfl)⟩
  have hpos : 0 < m := by omega
  rw [decide_eq_true hpos] at hgt
  obtain ⟨t, t1, t2⟩ := lroot_sub hk hr (b := 0) (e := m) (by omega) (by omega) (st := st)
  obtain ⟨u, u1, u2⟩ := lroot_sub hk hr2 (b := 0) (e := m) (by omega) (by omega) (st := st)
  have hU := uu_ne t2 u2
  rw [sub_zero] at t1 u1
  have hq : asT (m2 (fEq false) (mCall (d__law_root) (lCons (mVar 5) (lCons (mSl false (mVar 6) (oNone) (oSome (mVar 7))) (lNil)))) (mCall (d__law_root) (lCons (mVar 5) (lCons (mSl false (mVar 2) (oNone) (oSome (mVar 7))) (lNil))))) [some (.cell n), x1, some (cn true fs), x3, some (.tup [.tup [], .non]), some (slD s), some (cn true es), some (.int (m : Nat)), x8, x9, x10] st = .ok (!UU s es fs 0 m) st := by
    have sl : ∀ gs : List (List Nat), fSl false (cn true gs) none (some ((m : Nat) : Int)) st = .ok (cn true (gs.take m)) st := fun gs => by
      show Rs.ok (D.tup (Dn.cutD (gs.map D.str) none (some ((m : Nat) : Int)))) st = _
      rw [cut_to, ← List.map_take]
      rfl
    refine asT_of (m2_of (a := t) (b := u) (T := st) (U := st) ((call2 (T := st) (U := st) rfl (sl_of (T := st) (U := st) (V := st) rfl rfl (osome_of rfl) (sl es))).trans t1) ((call2 (T := st) (U := st) rfl (sl_of (T := st) (U := st) (V := st) rfl rfl (osome_of rfl) (sl fs))).trans u1) ?_)
    rw [hU]
    exact feq_of (fne_ok (rt_plain64 hr (by omega) t2) (rt_plain64 hr2 (by omega) u2))
  cases hb : UU s es fs 0 m with
  | false =>
    rw [hb] at hq
    exact ⟨_, x9, x10, .inr (.inl ⟨hpos, hb, rfl⟩), if_yes (mand_of hgt hq) rfl⟩
  | true =>
    rw [hb] at hq
    have hle := hr.1
    obtain ⟨L, p, f, q⟩ := lfound_ok hk hr hr2 (st := st) 29 0 m (by omega) (by omega) (by omega) (by omega)
    have hL := f.len
    have hpm := f.in
    refine ⟨.tup [.tup (prs ((0, m) :: L)), .int (p : Nat)], some (.lst (prs L)), some (.int (p : Nat)), .inr (.inr ⟨hpos, hb, L, p, f, rfl⟩), if_no (mand_of hgt hq) (if_yes hgt ?_)⟩
    let E1 : Dn.Env := [some (.cell n), x1, some (cn true fs), x3, some (.tup [.tup [], .non]), some (slD s), some (cn true es), some (.int (m : Nat)), x8, some (.lst (prs L)), some (.int (p : Nat))]
    let E2 : Dn.Env := [some (.cell n), x1, some (cn true fs), x3, some (.tup [.tup (prs ((0, m) :: L)), .int (p : Nat)]), some (slD s), some (cn true es), some (.int (m : Nat)), x8, some (.lst (prs L)), some (.int (p : Nat))]
    refine nx_seq (E' := E1) (S' := st) ?_ (nx_seq (E' := E2) (S' := st) ?_ ?_)
    · have hc : mCall (d__law_found) (lCons (mVar 5) (lCons (mVar 6) (lCons (mVar 2) (lCons (mC (.int 0)) (lCons (mVar 7) (lNil)))))) [some (.cell n), x1, some (cn true fs), x3, some (.tup [.tup [], .non]), some (slD s), some (cn true es), some (.int (m : Nat)), x8, x9, x10] st = .ok (.tup [.lst (prs L), .int (p : Nat)]) st := (call_of (T := st) (ds := [slD s, cn true es, cn true fs, .int 0, .int (m : Nat)]) rfl).trans q
      show sAsg _ _ _ _ = _
      unfold sAsg
      rw [hc]
      rfl
    · have hz : 1 + (prs L).length ≤ sz := by
        show 1 + (L.map _).length ≤ 16777216
        rw [List.length_map]; omega
      refine asg_of (k := 4) (tup_of (ds := [.tup (prs ((0, m) :: L)), .int (p : Nat)]) (lcons_of (T := st) (m2_of (a := .tup [pr 0 m]) (b := .tup (prs L)) (T := st) (U := st) rfl rfl ?_) rfl) (by show 2 ≤ sz; decide))
      show (if [pr 0 m].length + (prs L).length ≤ sz then Rs.ok (D.tup ([pr 0 m] ++ prs L)) st else .no) = _
      rw [if_pos (show [pr 0 m].length + (prs L).length ≤ sz from hz)]
      rfl
    · obtain ⟨acc, sd, al⟩ := sides_ok f (by omega) st
      have hend := fd_end hk hr hr2 f (by omega) (by omega) hb
      have hdiff := place_unlike hk hr hr2 (by omega) (by omega) hend
      have hlen : fLen [.tup (prs ((0, m) :: L))] st = .ok (.int ((L.length + 1 : Nat) : Int)) st := by
        show Rs.ok (D.int (((prs ((0, m) :: L)).length : Nat) : Int)) st = _
        unfold prs
        rw [List.length_map]
        rfl
      have hs : mCall (d__law_sides) (lCons (mVar 7) (lCons (mVar 10) (lNil))) E2 st = .ok (.lst acc) st := (call2 (T := st) (U := st) rfl rfl).trans sd
      refine if_no (mor_no (T := st) (asT_of (m2_of (a := .int ((L.length + 1 : Nat) : Int)) (b := .int (1 + ((L.length : Nat) : Int))) (T := st) (U := st) ((call1 (d := .tup (prs ((0, m) :: L))) (T := st) rfl).trans hlen) (m2_of (a := .int 1) (b := .int (L.length : Nat)) (T := st) (U := st) rfl ((call1 (T := st) hs).trans ?_) rfl) ?_)) (asT_of (m2_of (a := .str (es[p]'(by omega))) (b := .str (fs[p]'(by omega))) (T := st) (U := st) (m2_of (T := st) (U := st) rfl rfl (cn_ix (by omega) st)) (m2_of (T := st) (U := st) rfl rfl (cn_ix (by omega) st)) ?_))) rfl
      · show Rs.ok (D.int ((acc.length : Nat) : Int)) st = _
        rw [al]
      · show Rs.ok (D.bl (true != decide (((L.length + 1 : Nat) : Int) = 1 + ((L.length : Nat) : Int)))) st = _
        rw [decide_eq_true (by omega)]
        rfl
      · show Rs.ok (D.bl (false != decide (es[p]'(by omega) = fs[p]'(by omega)))) st = _
        rw [decide_eq_false hdiff]
        rfl
end
end Lk28
end

section
set_option linter.all false
set_option maxRecDepth 100000
set_option maxHeartbeats 2000000
namespace Lk28
open PySem PySem.Spec PyProof.Rows L2 Dn
theorem same_eq : ∀ n, r__law_same n 0 = uSame n 0
  | 0 => rfl
  | n + 1 => by
    show dFn 4 (b__law_same (r__law_same n 0)) = dFn 4 (uSameB (uSame n 0))
    rw [same_eq n]
    rfl
theorem eqv_tup {st : Sto} {k : Nat} {xs : List D} (hz : xs.length < sz) (h : ∀ x ∈ xs, eqv st k x x) : eqv st (k + 1) (.tup xs) (.tup xs) :=
  ⟨xs, rfl, rfl, hz, fun i x y hx hy => by
    rw [hx] at hy
    cases hy
    exact h x (List.mem_of_getElem? hx)⟩
theorem eqv_lst {st : Sto} {k : Nat} {xs : List D} (hz : xs.length < sz) (h : ∀ x ∈ xs, eqv st k x x) : eqv st (k + 1) (.lst xs) (.lst xs) :=
  show ∃ us ys, getL (.lst xs) st = some us ∧ getL (.lst xs) st = some ys ∧ us.length = ys.length ∧ ys.length < sz ∧ ∀ (i : Nat) x y, us[i]? = some x → ys[i]? = some y → eqv st k x y from
  ⟨xs, xs, rfl, rfl, rfl, hz, fun i x y hx hy => by
    rw [hx] at hy
    cases hy
    exact h x (List.mem_of_getElem? hx)⟩
theorem two_sz : (2 : Nat) < sz := by decide
theorem eqv_prs {st : Sto} {k : Nat} (L : List (Nat × Nat)) (h : L.length ≤ 2000) : eqv st (k + 3) (.tup (prs L)) (.tup (prs L)) := by
  refine eqv_tup (by unfold prs; rw [List.length_map]; show L.length < 16777216; omega) fun x hx => ?_
  obtain ⟨p, _, rfl⟩ := List.mem_map.mp hx
  refine eqv_tup two_sz fun x hx => ?_
  rcases List.mem_cons.mp hx with rfl | hx
  · rfl
  · rcases List.mem_cons.mp hx with rfl | hx
    · rfl
    · cases hx
theorem eqv_du {s : Sr0} {es fs : List (List Nat)} {m : Nat} {d : D} (hm : m ≤ 1000) (h : Du s es fs m d) {st : Sto} {k : Nat} : eqv st (k + 4) d d := by
  have two : ∀ {a b : D} (x : D), x ∈ [a, b] → x = a ∨ x = b := fun x hx => by simpa using hx
  rcases h with ⟨_, rfl⟩ | ⟨_, _, rfl⟩ | ⟨_, _, L, p, f, rfl⟩
  · refine eqv_tup two_sz fun x hx => ?_
    rcases two x hx with rfl | rfl
    · exact eqv_prs [] (by decide)
    · rfl
  · refine eqv_tup two_sz fun x hx => ?_
    rcases two x hx with rfl | rfl
    · exact eqv_prs [(0, m)] (by simp)
    · rfl
  · have hL := f.len
    refine eqv_tup two_sz fun x hx => ?_
    rcases two x hx with rfl | rfl
    · exact eqv_prs ((0, m) :: L) (by rw [List.length_cons]; omega)
    · rfl
section
variable {n N : Nat} {st : Sto} {x1 x2 x3 x4 x5 x6 x7 x8 x9 x10 : Option D}
theorem a8_ok {s : Sr0} (hk : okSl s) {es fs : List (List Nat)} (hr : okR es) (hr2 : okR fs) {d : D} (hd : Du s es fs (min es.length fs.length) d) : ∃ w, ∀ b,
    sIf (mNotT (asTru (mCall (d__law_same) (lCons (mLst false (lCons (mCall (d_search) (lCons (mVar 5) (lCons (mVar 6) (lCons (mVar 2) (lNil))))) (lCons (mCall (d_search) (lCons (mVar 5) (lCons (mCall (fList false) (lCons (mVar 2) (lNil))) (lCons (mCall (fList false) (lCons (mVar 6) (lNil))) (lNil))))) (lNil)))) (lCons (mLst false (lCons (mVar 4) (lCons (mVar 4) (lNil)))) (lNil)))))) b sNil [some (.cell n), x1, some (cn true fs), x3, some d, some (slD s), some (cn true es), x7, x8, x9, x10] st = .nx [some (.cell n), x1, some (cn true fs), x3, some d, some (slD s), some (cn true es), x7, x8, x9, x10] (st ++ w) := by
  obtain ⟨d1, w1, e1, q1⟩ := search_ok hk (tb := true) (tc := true) hr hr2 st
  obtain ⟨d2, w2, e2, q2⟩ := search_ok hk (tb := false) (tc := false) hr2 hr (st ++ w1)
  rw [Nat.min_comm] at q2
  have z1 := q1.uniq hd
  have z2 := q2.comm.uniq hd
  subst z1
  subst z2
  refine ⟨w1 ++ w2, fun b => if_no (T := st ++ (w1 ++ w2)) ?_ ?_⟩
  · have hc : mCall (d__law_same) (lCons (mLst false (lCons (mCall (d_search) (lCons (mVar 5) (lCons (mVar 6) (lCons (mVar 2) (lNil))))) (lCons (mCall (d_search) (lCons (mVar 5) (lCons (mCall (fList false) (lCons (mVar 2) (lNil))) (lCons (mCall (fList false) (lCons (mVar 6) (lNil))) (lNil))))) (lNil)))) (lCons (mLst false (lCons (mVar 4) (lCons (mVar 4) (lNil)))) (lNil))) [some (.cell n), x1, some (cn true fs), x3, some d2, some (slD s), some (cn true es), x7, x8, x9, x10] st = .ok (.bl true) (st ++ (w1 ++ w2)) := by
      have f1 : mCall (d_search) (lCons (mVar 5) (lCons (mVar 6) (lCons (mVar 2) (lNil)))) [some (.cell n), x1, some (cn true fs), x3, some d2, some (slD s), some (cn true es), x7, x8, x9, x10] st = .ok d2 (st ++ w1) := (call_of (T := st) (ds := [slD s, cn true es, cn true fs]) rfl).trans e1
      have f2 : mCall (d_search) (lCons (mVar 5) (lCons (mCall (fList false) (lCons (mVar 2) (lNil))) (lCons (mCall (fList false) (lCons (mVar 6) (lNil))) (lNil)))) [some (.cell n), x1, some (cn true fs), x3, some d2, some (slD s), some (cn true es), x7, x8, x9, x10] (st ++ w1) = .ok d2 (st ++ w1 ++ w2) := (call_of (T := st ++ w1) (ds := [slD s, cn false fs, cn false es]) rfl).trans e2
      refine (call2 (T := st ++ w1 ++ w2) (U := st ++ w1 ++ w2) (mlst_of (lcons_of f1 (lcons_of f2 rfl)) (by show 2 ≤ sz; decide)) rfl).trans ?_
      show r__law_same 12 0 _ _ = _
      rw [same_eq, List.append_assoc]
      refine same_ok 12 _ _ (eqv_lst two_sz fun x hx => ?_)
      have hx' : x = d2 ∨ x = d2 := by simpa using hx
      have : x = d2 := by rcases hx' with h | h <;> exact h
      subst this
      have hl := hr.1
      exact eqv_du (by omega) hd (k := 7)
    unfold mNotT asTru
    rw [hc]
    rfl
  · rfl
theorem a9_ok {s : Sr0} (hk : okSl s) {es fs : List (List Nat)} (hr : okR es) (hr2 : okR fs) {d f : D} {m : Nat} (hm : m = min es.length fs.length) (hd : Du s es fs m d)
    (hf : (f = .non ∧ ∀ j : Nat, j < max es.length fs.length → es[j]? = fs[j]?) ∨ ∃ k : Nat, f = .int (k : Nat) ∧ (∀ j, j < k → es[j]? = fs[j]?) ∧ es[k]? ≠ fs[k]?) :
    A9 [some (.cell n), x1, some (cn true fs), x3, some d, some (slD s), some (cn true es), some (.int (m : Nat)), some f, x9, x10] st = .nx [some (.cell n), x1, some (cn true fs), x3, some d, some (slD s), some (cn true es), some (.int (m : Nat)), some f, x9, x10] st := by
  have nine : ∀ v : D, fIx d (.int 1) st = .ok v st → fEq true v v st = .ok (.bl false) st → mIf (mAndT (asT (m2 (fIs true) (mVar 8) (mC .non))) (asT (m2 (fLt) (mVar 8) (mVar 7)))) (mVar 8) (mC .non) [some (.cell n), x1, some (cn true fs), x3, some d, some (slD s), some (cn true es), some (.int (m : Nat)), some f, x9, x10] st = .ok v st →
      asT (m2 (fEq true) (m2 fIx (mVar 4) (mC (.int 1))) (mIf (mAndT (asT (m2 (fIs true) (mVar 8) (mC .non))) (asT (m2 (fLt) (mVar 8) (mVar 7)))) (mVar 8) (mC .non))) [some (.cell n), x1, some (cn true fs), x3, some d, some (slD s), some (cn true es), some (.int (m : Nat)), some f, x9, x10] st = .ok false st :=
    fun v h1 h2 h3 => asT_of (m2_of (a := v) (b := v) (T := st) (U := st) (m2_of (T := st) (U := st) rfl rfl h1) h3 h2)
  have none_of : (f = .non ∨ ∃ k : Nat, f = .int (k : Nat) ∧ m ≤ k) → mIf (mAndT (asT (m2 (fIs true) (mVar 8) (mC .non))) (asT (m2 (fLt) (mVar 8) (mVar 7)))) (mVar 8) (mC .non) [some (.cell n), x1, some (cn true fs), x3, some d, some (slD s), some (cn true es), some (.int (m : Nat)), some f, x9, x10] st = .ok .non st := by
    rintro (rfl | ⟨k, rfl, hk⟩)
    · exact mif_no (T := st) (mand_no rfl) rfl
    · refine mif_no (T := st) (mand_of (T := st) rfl (asT_of (m2_of (T := st) (U := st) rfl rfl ?_))) rfl
      have : ¬ ((k : Int) < (m : Int)) := by omega
      simp [fLt, fOrder]
      omega
  have some_of : ∀ k : Nat, f = .int (k : Nat) → k < m → mIf (mAndT (asT (m2 (fIs true) (mVar 8) (mC .non))) (asT (m2 (fLt) (mVar 8) (mVar 7)))) (mVar 8) (mC .non) [some (.cell n), x1, some (cn true fs), x3, some d, some (slD s), some (cn true es), some (.int (m : Nat)), some f, x9, x10] st = .ok (.int (k : Nat)) st := by
    rintro k rfl hk
    refine mif_yes (T := st) (mand_of (T := st) rfl (asT_of (m2_of (T := st) (U := st) rfl rfl ?_))) rfl
    simp [fLt, fOrder]
    omega
  cases s with
  | some p =>
    obtain ⟨a, b⟩ := p
    refine if_no (mand_no (asT_of (m2_of (a := slD (some (a, b))) (b := .tup [wW]) (T := st) (U := st) rfl rfl ?_))) rfl
    rfl
  | none =>
    have hw : asT (m2 (fEq false) (mVar 5) (mTup (lCons (mC (.str [119, 104, 111, 108, 101])) (lNil)))) [some (.cell n), x1, some (cn true fs), x3, some d, some (slD none), some (cn true es), some (.int (m : Nat)), some f, x9, x10] st = .ok true st := rfl
    refine if_no (mand_of hw ?_) rfl
    rcases hd with ⟨h0, rfl⟩ | ⟨h0, hU, rfl⟩ | ⟨h0, hU, L, p, g, rfl⟩
    · refine nine .non rfl rfl (none_of ?_)
      rcases hf with ⟨e, _⟩ | ⟨k, e, _⟩
      · exact .inl e
      · exact .inr ⟨k, e, by omega⟩
    · refine nine .non rfl rfl (none_of ?_)
      rcases hf with ⟨e, _⟩ | ⟨k, e, _, h2⟩
      · exact .inl e
      · refine .inr ⟨k, e, Nat.le_of_not_lt fun hlt => h2 ?_⟩
        exact take_same (uu_whole hr hr2 h0 (by omega) (by omega) hU) k hlt
    · have hpm := g.in
      have hfr := take_same (fd_front hr hr2 g (by omega) (by omega))
      have hend := place_unlike (s := none) trivial hr hr2 (p := p) (by omega) (by omega) (fd_end (s := none) trivial hr hr2 g (by omega) (by omega) hU)
      have hne : es[p]? ≠ fs[p]? := by
        rw [List.getElem?_eq_getElem (by omega), List.getElem?_eq_getElem (by omega)]
        intro z
        exact hend (Option.some.inj z)
      rcases hf with ⟨_, h1⟩ | ⟨k, e, h1, h2⟩
      · exact absurd (h1 p (by omega)) hne
      · have : k = p := by
          rcases Nat.lt_trichotomy k p with h | h | h
          · exact absurd (hfr k h) h2
          · exact h
          · exact absurd (h1 p h) hne
        subst this
        refine nine (.int (k : Nat)) rfl ?_ (some_of k e (by omega))
        show Rs.ok (D.bl (true != decide (((k : Nat) : Int) = ((k : Nat) : Int)))) st = _
        rw [decide_eq_true rfl]
        rfl
theorem lap_ok (hu : Urn n N st) (hN : N + 40 < 2 ^ 20) : ∃ y2 y3 y4 y5 y6 y7 y8 y9 y10 st', Urn n (N + 40) st' ∧
    (sSeq A1 (sSeq A2 (sSeq A3 (sSeq A4 (sSeq A5 (sSeq A6 (sSeq A7 (sSeq A8 A9)))))))) [some (.cell n), x1, x2, x3, x4, x5, x6, x7, x8, x9, x10] st = .nx [some (.cell n), x1, y2, y3, y4, y5, y6, y7, y8, y9, y10] st' := by
  obtain ⟨s, es, s1, hk, hl, he, u1, e1⟩ := a1_ok (x1 := x1) (x2 := x2) (x3 := x3) (x4 := x4) (x5 := x5) (x6 := x6) (x7 := x7) (x8 := x8) (x9 := x9) (x10 := x10) hu (by omega)
  obtain ⟨c, s2, hc, u2, r2, e2⟩ := a2_ok (x1 := x1) (x2 := x2) (x3 := x3) (x4 := x4) (x5 := some (slD s)) (x7 := x7) (x8 := x8) (x9 := x9) (x10 := x10) hl he u1 (by omega)
  obtain ⟨y3, s3, u3, r3, e3⟩ := a3_ok (x1 := x1) (x3 := x3) (x4 := x4) (x5 := some (slD s)) (x6 := some (cn true es)) (x7 := x7) (x8 := x8) (x9 := x9) (x10 := x10) u2 (by omega) hc r2
  obtain ⟨fs, s4, hl4, hf4, u4, e4⟩ := a4_ok (x1 := x1) (x3 := y3) (x4 := x4) (x5 := some (slD s)) (x6 := some (cn true es)) (x7 := x7) (x8 := x8) (x9 := x9) (x10 := x10) u3 (by omega) hc r3
  have hr : okR es := ⟨by omega, he⟩
  have hr2 : okR fs := ⟨by omega, hf4⟩
  obtain ⟨f, hf, e5⟩ := a5_ok (n := n) (st := s4) (x1 := x1) (x3 := y3) (x4 := x4) (x5 := some (slD s)) (x7 := x7) (x8 := x8) (x9 := x9) (x10 := x10) hr hr2
  obtain ⟨d, y9, y10, hd, e7⟩ := a7_ok (n := n) (st := s4) (x1 := x1) (x3 := y3) (x8 := some f) (x9 := x9) (x10 := x10) hk hr hr2 rfl
  obtain ⟨w, e8⟩ := a8_ok (n := n) (st := s4) (x1 := x1) (x3 := y3) (x7 := some (.int ((min es.length fs.length : Nat) : Int))) (x8 := some f) (x9 := y9) (x10 := y10) hk hr hr2 hd
  have e9 := a9_ok (n := n) (st := s4 ++ w) (x1 := x1) (x3 := y3) (x9 := y9) (x10 := y10) hk hr hr2 rfl hd hf
  exact ⟨_, _, _, _, _, _, _, _, _, s4 ++ w, (Urn.app u4).le (by omega), nx_seq e1 (nx_seq e2 (nx_seq e3 (nx_seq e4 (nx_seq e5 (nx_seq rfl (nx_seq e7 (nx_seq (e8 _) e9)))))))⟩
theorem right_ok (hu : Urn n 0 st) : ∃ st', d__law_right [.cell n] st = .ok (.bl true) st' := by
  rw [show d__law_right = dFn 11 b__law_right from rfl, dFn_fin, body_eq]
  obtain ⟨e, s, h1, _⟩ := loopF_inv (b := .rng 0 1 3) (tg := gNm 1) (body := sSeq A1 (sSeq A2 (sSeq A3 (sSeq A4 (sSeq A5 (sSeq A6 (sSeq A7 (sSeq A8 A9))))))))
    (fun i env s => (∃ x1 x2 x3 x4 x5 x6 x7 x8 x9 x10, env = [some (.cell n), x1, x2, x3, x4, x5, x6, x7, x8, x9, x10]) ∧ Urn n (40 * i) s) 3
    (by
      rintro i env s ⟨⟨x1, x2, x3, x4, x5, x6, x7, x8, x9, x10, rfl⟩, hu⟩ hi
      obtain ⟨y2, y3, y4, y5, y6, y7, y8, y9, y10, s', a, b⟩ := lap_ok (x1 := some (.int (i : Nat))) (x2 := x2) (x3 := x3) (x4 := x4) (x5 := x5) (x6 := x6) (x7 := x7) (x8 := x8) (x9 := x9) (x10 := x10) hu (by omega)
      refine ⟨.int (i : Nat), _, ?_, rfl, _, s', .inl b, ⟨_, _, _, _, _, _, _, _, _, _, rfl⟩, a.le (by omega)⟩
      unfold Itb.at_
      dsimp only
      rw [if_pos hi]
      simp)
    (by
      rintro env s _
      unfold Itb.at_
      dsimp only
      rw [if_neg (Nat.lt_irrefl _)])
    4 0 [some (.cell n), none, none, none, none, none, none, none, none, none, none] st (by omega) (by omega) ⟨⟨_, _, _, _, _, _, _, _, _, _, rfl⟩, hu⟩
  refine ⟨s, ?_⟩
  show fin (sSeq _ _ [some (.cell n), none, none, none, none, none, none, none, none, none, none] st) = _
  exact fin_seq (E' := e) (S' := s) h1 rfl
end
theorem front : ∃ st, d__law_front_right [] [] = .ok (.bl true) st := okT_ok (by decide +kernel)
theorem law_true (ns : List Int) (hns : ns.length ≤ 63) (_ : ∀ z ∈ ns, Builtin.Int.intBits z ≤ 1048576) : ∃ st, d_law [.rol (ns.map D.int)] [] = .ok (.bl true) st := by
  obtain ⟨st1, hh⟩ := front
  obtain ⟨m, k, st2, c1, ⟨l, hlk, c2⟩, hk, c3, c4⟩ := cells_ok (ns := ns) (top := 1) (by decide) (by decide) hns st1
  obtain ⟨st3, b1, b2, b3, b4⟩ := box_ok (c := 1318328) (by decide) (by decide) (m := m) (l := l) (st := st2) (k := 0) (by decide) c2
  obtain ⟨st4, hr⟩ := right_ok b2
  refine ⟨st4, ?_⟩
  show fin (b_law [some (.rol (ns.map D.int))] []) = _
  unfold b_law
  refine fin_skip (S' := st1) ?_ (fin_ret' ?_)
  · have : mCall (d__law_front_right) lNil [some (.rol (ns.map D.int))] [] = .ok (.bl true) st1 := hh
    unfold mNotT asTru
    rw [this]
    rfl
  · have e1 : mCall (d__law_cells) (lCons (mVar 0) (lCons (mC (.int 1)) (lNil))) [some (.rol (ns.map D.int))] st1 = .ok (.cell m) st2 := by
      rw [cells_eq]
      exact (call2 (T := st1) (U := st1) rfl rfl).trans c1
    have e2 : mCall (d__law_box) (lCons (mCall (d__law_cells) (lCons (mVar 0) (lCons (mC (.int 1)) (lNil)))) (lCons (mC (.int 0)) (lNil))) [some (.rol (ns.map D.int))] st1 = .ok (.cell st2.length) st3 := by
      rw [box_eq]
      exact (call2 (T := st2) (U := st2) e1 rfl).trans b1
    exact (call1 e2).trans hr
end Lk28
end

section
namespace Lk28
open PySem PySem.Spec PyProof.Rows L2 Dn
/-! ### the text -/
def topS (i : Nat) : Stmt := PySem.Challenge.pw_leafway_k28_whole_unlike_places_found_by.main.body.getD i (.Pass ⟨0, 0, 0, 0⟩)
def inS (i j : Nat) : Stmt := match topS i with
  | .ClassDef _ _ _ b _ _ _ _ _ _ _ => b.getD j (.Pass ⟨0, 0, 0, 0⟩)
  | _ => .Pass ⟨0, 0, 0, 0⟩
abbrev s__octets_of : Stmt := topS 14
abbrev N__octets_of : List Str := ["number", "many", "place"]
theorem sc__octets_of : FnScope N__octets_of ["number", "many"] (defScope s__octets_of) := ⟨rfl, rfl, rfl, by decide +kernel, rfl, by decide +kernel, by decide +kernel⟩
abbrev s__filled_up : Stmt := topS 13
abbrev N__filled_up : List Str := ["numbers", "many"]
theorem sc__filled_up : FnScope N__filled_up ["numbers"] (defScope s__filled_up) := ⟨rfl, rfl, rfl, by decide +kernel, rfl, by decide +kernel, by decide +kernel⟩
abbrev s__quad_at : Stmt := topS 17
abbrev N__quad_at : List Str := ["block", "at"]
theorem sc__quad_at : FnScope N__quad_at ["block", "at"] (defScope s__quad_at) := ⟨rfl, rfl, rfl, by decide +kernel, rfl, by decide +kernel, by decide +kernel⟩
abbrev s__turns : Stmt := topS 18
abbrev N__turns : List Str := ["quad", "one", "two", "three", "twice"]
theorem sc__turns : FnScope N__turns ["quad", "one", "two", "three"] (defScope s__turns) := ⟨rfl, rfl, rfl, by decide +kernel, rfl, by decide +kernel, by decide +kernel⟩
abbrev s__quads_of : Stmt := topS 16
abbrev N__quads_of : List Str := ["block", "quads", "at", "early", "late", "y", "z"]
theorem sc__quads_of : FnScope N__quads_of ["block"] (defScope s__quads_of) := ⟨rfl, rfl, rfl, by decide +kernel, rfl, by decide +kernel, by decide +kernel⟩
abbrev s__state_behind : Stmt := topS 15
abbrev N__state_behind : List Str := ["state", "block", "behind", "a", "b", "c", "d", "e", "f", "g", "h", "step", "quad", "one", "two", "old", "new"]
theorem sc__state_behind : FnScope N__state_behind ["state", "block"] (defScope s__state_behind) := ⟨rfl, rfl, rfl, by decide +kernel, rfl, by decide +kernel, by decide +kernel⟩
abbrev s_sha : Stmt := topS 9
abbrev N_sha : List Str := ["numbers", "state", "filled", "begin", "quad", "octet"]
theorem sc_sha : FnScope N_sha ["numbers"] (defScope s_sha) := ⟨rfl, rfl, rfl, by decide +kernel, rfl, by decide +kernel, by decide +kernel⟩
abbrev s_hex_text : Stmt := topS 10
abbrev N_hex_text : List Str := ["numbers", "own"]
theorem sc_hex_text : FnScope N_hex_text ["numbers"] (defScope s_hex_text) := ⟨rfl, rfl, rfl, by decide +kernel, rfl, by decide +kernel, by decide +kernel⟩
abbrev s_hex_numbers : Stmt := topS 11
abbrev N_hex_numbers : List Str := ["text", "values", "sign", "at"]
theorem sc_hex_numbers : FnScope N_hex_numbers ["text"] (defScope s_hex_numbers) := ⟨rfl, rfl, rfl, by decide +kernel, rfl, by decide +kernel, by decide +kernel⟩
abbrev s_codes_of : Stmt := topS 12
abbrev N_codes_of : List Str := ["text", "sign"]
theorem sc_codes_of : FnScope N_codes_of ["text"] (defScope s_codes_of) := ⟨rfl, rfl, rfl, by decide +kernel, rfl, by decide +kernel, by decide +kernel⟩
abbrev s__sha_numbers : Stmt := topS 21
abbrev N__sha_numbers : List Str := ["matter"]
theorem sc__sha_numbers : FnScope N__sha_numbers ["matter"] (defScope s__sha_numbers) := ⟨rfl, rfl, rfl, by decide +kernel, rfl, by decide +kernel, by decide +kernel⟩
abbrev s__weak_seal : Stmt := topS 22
abbrev N__weak_seal : List Str := ["m", "k", "matter", "value", "code"]
theorem sc__weak_seal : FnScope N__weak_seal ["m", "k", "matter"] (defScope s__weak_seal) := ⟨rfl, rfl, rfl, by decide +kernel, rfl, by decide +kernel, by decide +kernel⟩
abbrev s_sealed : Stmt := topS 20
abbrev N_sealed : List Str := ["sealer", "matter"]
theorem sc_sealed : FnScope N_sealed ["sealer", "matter"] (defScope s_sealed) := ⟨rfl, rfl, rfl, by decide +kernel, rfl, by decide +kernel, by decide +kernel⟩
abbrev s_crown : Stmt := topS 24
abbrev N_crown : List Str := ["size"]
theorem sc_crown : FnScope N_crown ["size"] (defScope s_crown) := ⟨rfl, rfl, rfl, by decide +kernel, rfl, by decide +kernel, by decide +kernel⟩
abbrev s__longer : Stmt := topS 29
abbrev N__longer : List Str := ["sealer", "tops", "entry", "last", "left", "size", "seals"]
theorem sc__longer : FnScope N__longer ["sealer", "tops", "entry"] (defScope s__longer) := ⟨rfl, rfl, rfl, by decide +kernel, rfl, by decide +kernel, by decide +kernel⟩
abbrev s_tops_of : Stmt := topS 28
abbrev N_tops_of : List Str := ["sealer", "log", "tops", "entry"]
theorem sc_tops_of : FnScope N_tops_of ["sealer", "log"] (defScope s_tops_of) := ⟨rfl, rfl, rfl, by decide +kernel, rfl, by decide +kernel, by decide +kernel⟩
abbrev s__head : Stmt := topS 30
abbrev N__head : List Str := ["sealer", "tops", "top", "seal", "size", "seals"]
theorem sc__head : FnScope N__head ["sealer", "tops"] (defScope s__head) := ⟨rfl, rfl, rfl, by decide +kernel, rfl, by decide +kernel, by decide +kernel⟩
abbrev s_head_of : Stmt := topS 26
abbrev N_head_of : List Str := ["sealer", "log"]
theorem sc_head_of : FnScope N_head_of ["sealer", "log"] (defScope s_head_of) := ⟨rfl, rfl, rfl, by decide +kernel, rfl, by decide +kernel, by decide +kernel⟩
abbrev s_root : Stmt := topS 25
abbrev N_root : List Str := ["sealer", "log"]
theorem sc_root : FnScope N_root ["sealer", "log"] (defScope s_root) := ⟨rfl, rfl, rfl, by decide +kernel, rfl, by decide +kernel, by decide +kernel⟩
abbrev s_seal_of_stretch : Stmt := topS 27
abbrev N_seal_of_stretch : List Str := ["sealer", "log", "stretch", "begin", "end"]
theorem sc_seal_of_stretch : FnScope N_seal_of_stretch ["sealer", "log", "stretch"] (defScope s_seal_of_stretch) := ⟨rfl, rfl, rfl, by decide +kernel, rfl, by decide +kernel, by decide +kernel⟩
abbrev s_halves : Stmt := topS 32
abbrev N_halves : List Str := ["node", "middle", "begin", "end"]
theorem sc_halves : FnScope N_halves ["node"] (defScope s_halves) := ⟨rfl, rfl, rfl, by decide +kernel, rfl, by decide +kernel, by decide +kernel⟩
abbrev s__are_unlike : Stmt := topS 35
abbrev N__are_unlike : List Str := ["sealer", "log", "other", "stretch"]
theorem sc__are_unlike : FnScope N__are_unlike ["sealer", "log", "other", "stretch"] (defScope s__are_unlike) := ⟨rfl, rfl, rfl, by decide +kernel, rfl, by decide +kernel, by decide +kernel⟩
abbrev s_search : Stmt := topS 34
abbrev N_search : List Str := ["sealer", "log", "other", "size", "compared", "node", "left", "right"]
theorem sc_search : FnScope N_search ["sealer", "log", "other"] (defScope s_search) := ⟨rfl, rfl, rfl, by decide +kernel, rfl, by decide +kernel, by decide +kernel⟩
abbrev s__law_box : Stmt := topS 37
abbrev N__law_box : List Str := ["script", "k", "bit_so"]
theorem sc__law_box : FnScope N__law_box ["script", "k"] (defScope s__law_box) := ⟨rfl, rfl, rfl, by decide +kernel, rfl, by decide +kernel, by decide +kernel⟩
abbrev s__law_take : Stmt := topS 38
abbrev N__law_take : List Str := ["urn", "low_so", "once", "far", "twice", "took"]
theorem sc__law_take : FnScope N__law_take ["urn", "low_so"] (defScope s__law_take) := ⟨rfl, rfl, rfl, by decide +kernel, rfl, by decide +kernel, by decide +kernel⟩
abbrev s__law_cells : Stmt := topS 39
abbrev N__law_cells : List Str := ["script", "roof_so", "bits_so", "k", "bit_so", "at_so"]
theorem sc__law_cells : FnScope N__law_cells ["script", "roof_so"] (defScope s__law_cells) := ⟨rfl, rfl, rfl, by decide +kernel, rfl, by decide +kernel, by decide +kernel⟩
abbrev s__law_of : Stmt := topS 40
abbrev N__law_of : List Str := ["urn", "some_so"]
theorem sc__law_of : FnScope N__law_of ["urn", "some_so"] (defScope s__law_of) := ⟨rfl, rfl, rfl, by decide +kernel, rfl, by decide +kernel, by decide +kernel⟩
abbrev s__law_same : Stmt := topS 41
abbrev N__law_same : List Str := ["near", "goal", "mine_so", "own"]
theorem sc__law_same : FnScope N__law_same ["near", "goal"] (defScope s__law_same) := ⟨rfl, rfl, rfl, by decide +kernel, rfl, by decide +kernel, by decide +kernel⟩
abbrev s__law_seal : Stmt := topS 42
abbrev N__law_seal : List Str := ["sealer", "matter", "found", "sign_so"]
theorem sc__law_seal : FnScope N__law_seal ["sealer", "matter"] (defScope s__law_seal) := ⟨rfl, rfl, rfl, by decide +kernel, rfl, by decide +kernel, by decide +kernel⟩
abbrev s__law_crown : Stmt := topS 43
abbrev N__law_crown : List Str := ["n", "found"]
theorem sc__law_crown : FnScope N__law_crown ["n"] (defScope s__law_crown) := ⟨rfl, rfl, rfl, by decide +kernel, rfl, by decide +kernel, by decide +kernel⟩
abbrev s__law_root : Stmt := topS 44
abbrev N__law_root : List Str := ["sealer", "deal", "c"]
theorem sc__law_root : FnScope N__law_root ["sealer", "deal"] (defScope s__law_root) := ⟨rfl, rfl, rfl, by decide +kernel, rfl, by decide +kernel, by decide +kernel⟩
abbrev s__law_sides : Stmt := topS 45
abbrev N__law_sides : List Str := ["n", "k", "low_so", "far_so", "found", "c"]
theorem sc__law_sides : FnScope N__law_sides ["n", "k"] (defScope s__law_sides) := ⟨rfl, rfl, rfl, by decide +kernel, rfl, by decide +kernel, by decide +kernel⟩
abbrev s__law_first : Stmt := topS 46
abbrev N__law_first : List Str := ["deal", "far", "k"]
theorem sc__law_first : FnScope N__law_first ["deal", "far"] (defScope s__law_first) := ⟨rfl, rfl, rfl, by decide +kernel, rfl, by decide +kernel, by decide +kernel⟩
abbrev s__law_sealer : Stmt := topS 47
abbrev N__law_sealer : List Str := ["urn"]
theorem sc__law_sealer : FnScope N__law_sealer ["urn"] (defScope s__law_sealer) := ⟨rfl, rfl, rfl, by decide +kernel, rfl, by decide +kernel, by decide +kernel⟩
abbrev s__law_log : Stmt := topS 48
abbrev N__law_log : List Str := ["urn", "most_so", "lap"]
theorem sc__law_log : FnScope N__law_log ["urn", "most_so"] (defScope s__law_log) := ⟨rfl, rfl, rfl, by decide +kernel, rfl, by decide +kernel, by decide +kernel⟩
abbrev s__law_front_right : Stmt := topS 49
abbrev N__law_front_right : List Str := ["got", "whole", "deal"]
theorem sc__law_front_right : FnScope N__law_front_right [] (defScope s__law_front_right) := ⟨rfl, rfl, rfl, by decide +kernel, rfl, by decide +kernel, by decide +kernel⟩
abbrev s__law_found : Stmt := topS 50
abbrev N__law_found : List Str := ["sealer", "deal", "far", "low_so", "n", "c", "rest", "k"]
theorem sc__law_found : FnScope N__law_found ["sealer", "deal", "far", "low_so", "n"] (defScope s__law_found) := ⟨rfl, rfl, rfl, by decide +kernel, rfl, by decide +kernel, by decide +kernel⟩
abbrev s__law_right : Stmt := topS 51
abbrev N__law_right : List Str := ["urn", "lap", "far", "turn", "due", "sealer", "deal", "n", "first_so", "rest", "k"]
theorem sc__law_right : FnScope N__law_right ["urn"] (defScope s__law_right) := ⟨rfl, rfl, rfl, by decide +kernel, rfl, by decide +kernel, by decide +kernel⟩
abbrev s_law : Stmt := topS 52
abbrev N_law : List Str := ["script"]
theorem sc_law : FnScope N_law ["script"] (defScope s_law) := ⟨rfl, rfl, rfl, by decide +kernel, rfl, by decide +kernel, by decide +kernel⟩
abbrev s_I0 : Stmt := inS 1 0
theorem sc_I0 : FnScope ["self", "place"] ["self", "place"] (defScope s_I0) := ⟨rfl, rfl, rfl, by decide +kernel, rfl, by decide +kernel, by decide +kernel⟩
abbrev s_I1 : Stmt := inS 2 0
theorem sc_I1 : FnScope ["self"] ["self"] (defScope s_I1) := ⟨rfl, rfl, rfl, by decide +kernel, rfl, by decide +kernel, by decide +kernel⟩
abbrev s_I2 : Stmt := inS 3 0
theorem sc_I2 : FnScope ["self"] ["self"] (defScope s_I2) := ⟨rfl, rfl, rfl, by decide +kernel, rfl, by decide +kernel, by decide +kernel⟩
/-! ### what the top has left -/
def cds : List CD := [⟨"NoPlace", "place", "LookupError"⟩, ⟨"CanNot", "", "ValueError"⟩, ⟨"Unfit", "", "ValueError"⟩]
def tfs : List He.Defn := [("hex_numbers", none)]
theorem ct_hex_numbers (K : PySem.W.Frag) : He.cT K ("hex_numbers", none) ∈ tfs.map (He.cT K) := List.mem_map.mpr ⟨_, List.mem_of_getElem? (i := 0) rfl, rfl⟩
theorem pt_hex_numbers (K : PySem.W.Frag) : (He.cT K ("hex_numbers", none)).2 ∈ tbs K tfs := List.mem_map.mpr ⟨_, List.mem_of_getElem? (i := 0) rfl, rfl⟩
structure Txt (K : PySem.W.Frag) (mg : Str → Option Value) (fd fdi : Nat → FuncData) : Prop where
  F__octets_of : FnT K "_octets_of" "_octets_of" s__octets_of (He.ga K "_octets_of") (fd 0)
  g__octets_of : mg "_octets_of" = some (.ref (He.ga K "_octets_of"))
  b__octets_of : Binds K (fd 0) ["number", "many"] []
  F__filled_up : FnT K "_filled_up" "_filled_up" s__filled_up (He.ga K "_filled_up") (fd 1)
  g__filled_up : mg "_filled_up" = some (.ref (He.ga K "_filled_up"))
  b__filled_up : Binds K (fd 1) ["numbers"] []
  F__quad_at : FnT K "_quad_at" "_quad_at" s__quad_at (He.ga K "_quad_at") (fd 2)
  g__quad_at : mg "_quad_at" = some (.ref (He.ga K "_quad_at"))
  b__quad_at : Binds K (fd 2) ["block", "at"] []
  F__turns : FnT K "_turns" "_turns" s__turns (He.ga K "_turns") (fd 3)
  g__turns : mg "_turns" = some (.ref (He.ga K "_turns"))
  b__turns : Binds K (fd 3) ["quad", "one", "two", "three"] []
  F__quads_of : FnT K "_quads_of" "_quads_of" s__quads_of (He.ga K "_quads_of") (fd 4)
  g__quads_of : mg "_quads_of" = some (.ref (He.ga K "_quads_of"))
  b__quads_of : Binds K (fd 4) ["block"] []
  F__state_behind : FnT K "_state_behind" "_state_behind" s__state_behind (He.ga K "_state_behind") (fd 5)
  g__state_behind : mg "_state_behind" = some (.ref (He.ga K "_state_behind"))
  b__state_behind : Binds K (fd 5) ["state", "block"] []
  F_sha : FnT K "sha" "sha" s_sha (He.ga K "sha") (fd 6)
  g_sha : mg "sha" = some (.ref (He.ga K "sha"))
  b_sha : Binds K (fd 6) ["numbers"] []
  F_hex_text : FnT K "hex_text" "hex_text" s_hex_text (He.ga K "hex_text") (fd 7)
  g_hex_text : mg "hex_text" = some (.ref (He.ga K "hex_text"))
  b_hex_text : Binds K (fd 7) ["numbers"] []
  F_hex_numbers : FnT K "hex_numbers" "hex_numbers" s_hex_numbers (He.ga K "hex_numbers") (fd 8)
  g_hex_numbers : mg "hex_numbers" = some (.ref (He.ga K "hex_numbers"))
  b_hex_numbers : Binds K (fd 8) ["text"] []
  cd_hex_numbers : (fd 8).code = .ref (He.cT K ("hex_numbers", none)).1
  F_codes_of : FnT K "codes_of" "codes_of" s_codes_of (He.ga K "codes_of") (fd 9)
  g_codes_of : mg "codes_of" = some (.ref (He.ga K "codes_of"))
  b_codes_of : Binds K (fd 9) ["text"] []
  F__sha_numbers : FnT K "_sha_numbers" "_sha_numbers" s__sha_numbers (He.ga K "_sha_numbers") (fd 10)
  g__sha_numbers : mg "_sha_numbers" = some (.ref (He.ga K "_sha_numbers"))
  b__sha_numbers : Binds K (fd 10) ["matter"] []
  F__weak_seal : FnT K "_weak_seal" "_weak_seal" s__weak_seal (He.ga K "_weak_seal") (fd 11)
  g__weak_seal : mg "_weak_seal" = some (.ref (He.ga K "_weak_seal"))
  b__weak_seal : Binds K (fd 11) ["m", "k", "matter"] []
  F_sealed : FnT K "sealed" "sealed" s_sealed (He.ga K "sealed") (fd 12)
  g_sealed : mg "sealed" = some (.ref (He.ga K "sealed"))
  b_sealed : Binds K (fd 12) ["sealer", "matter"] []
  F_crown : FnT K "crown" "crown" s_crown (He.ga K "crown") (fd 13)
  g_crown : mg "crown" = some (.ref (He.ga K "crown"))
  b_crown : Binds K (fd 13) ["size"] []
  F__longer : FnT K "_longer" "_longer" s__longer (He.ga K "_longer") (fd 14)
  g__longer : mg "_longer" = some (.ref (He.ga K "_longer"))
  b__longer : Binds K (fd 14) ["sealer", "tops", "entry"] []
  F_tops_of : FnT K "tops_of" "tops_of" s_tops_of (He.ga K "tops_of") (fd 15)
  g_tops_of : mg "tops_of" = some (.ref (He.ga K "tops_of"))
  b_tops_of : Binds K (fd 15) ["sealer", "log"] []
  F__head : FnT K "_head" "_head" s__head (He.ga K "_head") (fd 16)
  g__head : mg "_head" = some (.ref (He.ga K "_head"))
  b__head : Binds K (fd 16) ["sealer", "tops"] []
  F_head_of : FnT K "head_of" "head_of" s_head_of (He.ga K "head_of") (fd 17)
  g_head_of : mg "head_of" = some (.ref (He.ga K "head_of"))
  b_head_of : Binds K (fd 17) ["sealer", "log"] []
  F_root : FnT K "root" "root" s_root (He.ga K "root") (fd 18)
  g_root : mg "root" = some (.ref (He.ga K "root"))
  b_root : Binds K (fd 18) ["sealer", "log"] []
  F_seal_of_stretch : FnT K "seal_of_stretch" "seal_of_stretch" s_seal_of_stretch (He.ga K "seal_of_stretch") (fd 19)
  g_seal_of_stretch : mg "seal_of_stretch" = some (.ref (He.ga K "seal_of_stretch"))
  b_seal_of_stretch : Binds K (fd 19) ["sealer", "log", "stretch"] []
  F_halves : FnT K "halves" "halves" s_halves (He.ga K "halves") (fd 20)
  g_halves : mg "halves" = some (.ref (He.ga K "halves"))
  b_halves : Binds K (fd 20) ["node"] []
  F__are_unlike : FnT K "_are_unlike" "_are_unlike" s__are_unlike (He.ga K "_are_unlike") (fd 21)
  g__are_unlike : mg "_are_unlike" = some (.ref (He.ga K "_are_unlike"))
  b__are_unlike : Binds K (fd 21) ["sealer", "log", "other", "stretch"] []
  F_search : FnT K "search" "search" s_search (He.ga K "search") (fd 22)
  g_search : mg "search" = some (.ref (He.ga K "search"))
  b_search : Binds K (fd 22) ["sealer", "log", "other"] []
  F__law_box : FnT K "_law_box" "_law_box" s__law_box (He.ga K "_law_box") (fd 23)
  g__law_box : mg "_law_box" = some (.ref (He.ga K "_law_box"))
  b__law_box : Binds K (fd 23) ["script", "k"] []
  F__law_take : FnT K "_law_take" "_law_take" s__law_take (He.ga K "_law_take") (fd 24)
  g__law_take : mg "_law_take" = some (.ref (He.ga K "_law_take"))
  b__law_take : Binds K (fd 24) ["urn", "low_so"] []
  F__law_cells : FnT K "_law_cells" "_law_cells" s__law_cells (He.ga K "_law_cells") (fd 25)
  g__law_cells : mg "_law_cells" = some (.ref (He.ga K "_law_cells"))
  b__law_cells : Binds K (fd 25) ["script", "roof_so"] []
  F__law_of : FnT K "_law_of" "_law_of" s__law_of (He.ga K "_law_of") (fd 26)
  g__law_of : mg "_law_of" = some (.ref (He.ga K "_law_of"))
  b__law_of : Binds K (fd 26) ["urn", "some_so"] []
  F__law_same : FnT K "_law_same" "_law_same" s__law_same (He.ga K "_law_same") (fd 27)
  g__law_same : mg "_law_same" = some (.ref (He.ga K "_law_same"))
  b__law_same : Binds K (fd 27) ["near", "goal"] []
  F__law_seal : FnT K "_law_seal" "_law_seal" s__law_seal (He.ga K "_law_seal") (fd 28)
  g__law_seal : mg "_law_seal" = some (.ref (He.ga K "_law_seal"))
  b__law_seal : Binds K (fd 28) ["sealer", "matter"] []
  F__law_crown : FnT K "_law_crown" "_law_crown" s__law_crown (He.ga K "_law_crown") (fd 29)
  g__law_crown : mg "_law_crown" = some (.ref (He.ga K "_law_crown"))
  b__law_crown : Binds K (fd 29) ["n"] []
  F__law_root : FnT K "_law_root" "_law_root" s__law_root (He.ga K "_law_root") (fd 30)
  g__law_root : mg "_law_root" = some (.ref (He.ga K "_law_root"))
  b__law_root : Binds K (fd 30) ["sealer", "deal"] []
  F__law_sides : FnT K "_law_sides" "_law_sides" s__law_sides (He.ga K "_law_sides") (fd 31)
  g__law_sides : mg "_law_sides" = some (.ref (He.ga K "_law_sides"))
  b__law_sides : Binds K (fd 31) ["n", "k"] []
  F__law_first : FnT K "_law_first" "_law_first" s__law_first (He.ga K "_law_first") (fd 32)
  g__law_first : mg "_law_first" = some (.ref (He.ga K "_law_first"))
  b__law_first : Binds K (fd 32) ["deal", "far"] []
  F__law_sealer : FnT K "_law_sealer" "_law_sealer" s__law_sealer (He.ga K "_law_sealer") (fd 33)
  g__law_sealer : mg "_law_sealer" = some (.ref (He.ga K "_law_sealer"))
  b__law_sealer : Binds K (fd 33) ["urn"] []
  F__law_log : FnT K "_law_log" "_law_log" s__law_log (He.ga K "_law_log") (fd 34)
  g__law_log : mg "_law_log" = some (.ref (He.ga K "_law_log"))
  b__law_log : Binds K (fd 34) ["urn", "most_so"] []
  F__law_front_right : FnT K "_law_front_right" "_law_front_right" s__law_front_right (He.ga K "_law_front_right") (fd 35)
  g__law_front_right : mg "_law_front_right" = some (.ref (He.ga K "_law_front_right"))
  b__law_front_right : Binds K (fd 35) [] []
  F__law_found : FnT K "_law_found" "_law_found" s__law_found (He.ga K "_law_found") (fd 36)
  g__law_found : mg "_law_found" = some (.ref (He.ga K "_law_found"))
  b__law_found : Binds K (fd 36) ["sealer", "deal", "far", "low_so", "n"] []
  F__law_right : FnT K "_law_right" "_law_right" s__law_right (He.ga K "_law_right") (fd 37)
  g__law_right : mg "_law_right" = some (.ref (He.ga K "_law_right"))
  b__law_right : Binds K (fd 37) ["urn"] []
  F_law : FnT K "law" "law" s_law (He.ga K "law") (fd 38)
  g_law : mg "law" = some (.ref (He.ga K "law"))
  b_law : Binds K (fd 38) ["script"] []
  m_abs : mg "abs" = none
  m_all : mg "all" = none
  m_bool : mg "bool" = none
  m_enumerate : mg "enumerate" = none
  m_int : mg "int" = none
  m_isinstance : mg "isinstance" = none
  m_len : mg "len" = none
  m_list : mg "list" = none
  m_max : mg "max" = none
  m_min : mg "min" = none
  m_ord : mg "ord" = none
  m_range : mg "range" = none
  m_str : mg "str" = none
  m_tuple : mg "tuple" = none
  m_zip : mg "zip" = none
  c__DIGITS : ∃ (v : V) (u : Value), mg "_DIGITS" = some u ∧ RelV v u ∧ ∀ (π : Pl) (H : Hp), Rep ⟨K, ceOf K cds, feOf cds, tbs K tfs⟩ π H v k__DIGITS
  c__ONES : ∃ (v : V) (u : Value), mg "_ONES" = some u ∧ RelV v u ∧ ∀ (π : Pl) (H : Hp), Rep ⟨K, ceOf K cds, feOf cds, tbs K tfs⟩ π H v k__ONES
  c__START : ∃ (v : V) (u : Value), mg "_START" = some u ∧ RelV v u ∧ ∀ (π : Pl) (H : Hp), Rep ⟨K, ceOf K cds, feOf cds, tbs K tfs⟩ π H v k__START
  c__STEPS : ∃ (v : V) (u : Value), mg "_STEPS" = some u ∧ RelV v u ∧ ∀ (π : Pl) (H : Hp), Rep ⟨K, ceOf K cds, feOf cds, tbs K tfs⟩ π H v k__STEPS
  gc0 : mg "NoPlace" = some (.ref (He.ga K "NoPlace"))
  cd0 : CDok K ⟨"NoPlace", "place", "LookupError"⟩
  FI0 : FnT K "__init__" "NoPlace.__init__" s_I0 (He.fAd K ("NoPlace", some "__init__")) (fdi 0)
  bI0 : Binds K (fdi 0) ["self", "place"] []
  gc1 : mg "CanNot" = some (.ref (He.ga K "CanNot"))
  cd1 : CDok K ⟨"CanNot", "", "ValueError"⟩
  FI1 : FnT K "__init__" "CanNot.__init__" s_I1 (He.fAd K ("CanNot", some "__init__")) (fdi 1)
  bI1 : Binds K (fdi 1) ["self"] []
  gc2 : mg "Unfit" = some (.ref (He.ga K "Unfit"))
  cd2 : CDok K ⟨"Unfit", "", "ValueError"⟩
  FI2 : FnT K "__init__" "Unfit.__init__" s_I2 (He.fAd K ("Unfit", some "__init__")) (fdi 2)
  bI2 : Binds K (fdi 2) ["self"] []
  xm : tellB K cds = true
section
variable {P : Program} {w : World} {K : PySem.W.Frag} {mg : Str → Option Value} {base : Heap} {fd fdi : Nat → FuncData}
theorem den_kons__DIGITS (T : Txt K mg fd fdi) {X : Cx} {W : WX} {pos : Pos} (hg : Gl X "_DIGITS" := by rfl) (hm : X.mg = mg := by rfl) (hK : X.K = K := by rfl) : PE X (.Name "_DIGITS" pos) (tE (gx X (ceOf K cds) (feOf cds) (tbs K tfs)) W (mC k__DIGITS)) := by
  obtain ⟨v, u, h1, h2, h3⟩ := T.c__DIGITS
  subst hK
  exact den_glob hg (by rw [hm]; exact h1) h2 h3
theorem den_kons__ONES (T : Txt K mg fd fdi) {X : Cx} {W : WX} {pos : Pos} (hg : Gl X "_ONES" := by rfl) (hm : X.mg = mg := by rfl) (hK : X.K = K := by rfl) : PE X (.Name "_ONES" pos) (tE (gx X (ceOf K cds) (feOf cds) (tbs K tfs)) W (mC k__ONES)) := by
  obtain ⟨v, u, h1, h2, h3⟩ := T.c__ONES
  subst hK
  exact den_glob hg (by rw [hm]; exact h1) h2 h3
theorem den_kons__START (T : Txt K mg fd fdi) {X : Cx} {W : WX} {pos : Pos} (hg : Gl X "_START" := by rfl) (hm : X.mg = mg := by rfl) (hK : X.K = K := by rfl) : PE X (.Name "_START" pos) (tE (gx X (ceOf K cds) (feOf cds) (tbs K tfs)) W (mC k__START)) := by
  obtain ⟨v, u, h1, h2, h3⟩ := T.c__START
  subst hK
  exact den_glob hg (by rw [hm]; exact h1) h2 h3
theorem den_kons__STEPS (T : Txt K mg fd fdi) {X : Cx} {W : WX} {pos : Pos} (hg : Gl X "_STEPS" := by rfl) (hm : X.mg = mg := by rfl) (hK : X.K = K := by rfl) : PE X (.Name "_STEPS" pos) (tE (gx X (ceOf K cds) (feOf cds) (tbs K tfs)) W (mC k__STEPS)) := by
  obtain ⟨v, u, h1, h2, h3⟩ := T.c__STEPS
  subst hK
  exact den_glob hg (by rw [hm]; exact h1) h2 h3
theorem ok_I0 (T : Txt K mg fd fdi) : FnOk P w K mg base CX0 1 (He.fAd K ("NoPlace", some "__init__")) (fdi 0) ["self", "place"] (spI1 K (He.ga K "NoPlace") "place") := ok_init1 (f := "place") T.FI0 sc_I0 xb_lookup T.cd0.xc T.cd0.no rfl rfl (by decide) (by decide) (fun _ => rfl)
theorem ok_I1 (T : Txt K mg fd fdi) : FnOk P w K mg base CX0 1 (He.fAd K ("CanNot", some "__init__")) (fdi 1) ["self"] (spI0 (He.ga K "CanNot")) := ok_init0 T.FI1 sc_I1
theorem ok_I2 (T : Txt K mg fd fdi) : FnOk P w K mg base CX0 1 (He.fAd K ("Unfit", some "__init__")) (fdi 2) ["self"] (spI0 (He.ga K "Unfit")) := ok_init0 T.FI2 sc_I2
theorem ok__octets_of (T : Txt K mg fd fdi) (hbs : ∀ p ∈ tfs.map (He.cT K), LamX.TabB base mg p.1 p.2) : FnOk P w K mg base (L2.CX P w) (1) (He.ga K "_octets_of") (fd 0) ["number", "many"] (spM ⟨K, ceOf K cds, feOf cds, tbs K tfs⟩ 2 (d__octets_of)) := fn_denD (k := 0) T.F__octets_of sc__octets_of rfl fun cdv hcd A outer s H E hr => by
    have tk := takes_of (X := cxOf (L2.CX P w) P w K mg base N__octets_of "_octets_of" (defScope s__octets_of) (He.ga K "_octets_of") cdv A outer s H E) rfl rfl rfl rfl
    have po := passes_of (X := cxOf (L2.CX P w) P w K mg base N__octets_of "_octets_of" (defScope s__octets_of) (He.ga K "_octets_of") cdv A outer s H E) rfl
    exact (dsn_one (ds_ret (den_lc false (own := [("place", 2)]) rfl sc__octets_of.nd (di_range3 (by rfl) T.m_range (den_cons (den_op op_sub o_sub (den_var 1) den_int) (den_cons (den_un un_neg o_neg den_int) (den_cons (den_un un_neg o_neg den_int) den_nil)))) (blkOk_by (own := [("place", 2)]) (N := N__octets_of) (sc := defScope s__octets_of) (by decide +kernel)) (dg_name 2) (by decide) (fun _ _ _ _ _ => (pg_name (i := 2) sc__octets_of.nd rfl (by first | exact Or.inl rfl | exact Or.inr rfl))) (fun _ _ _ _ _ => dts_nil) (fun _ _ _ _ _ => (den_op op_and o_and (den_op op_shr o_shr (den_var 0) (den_op op_mulA (o_mul false) den_int (den_var 2))) den_int)))))
theorem ok__filled_up (T : Txt K mg fd fdi) (hbs : ∀ p ∈ tfs.map (He.cT K), LamX.TabB base mg p.1 p.2) : FnOk P w K mg base (L2.CX P w) (2) (He.ga K "_filled_up") (fd 1) ["numbers"] (spM ⟨K, ceOf K cds, feOf cds, tbs K tfs⟩ 1 (d__filled_up)) := fn_denD (k := 1) T.F__filled_up sc__filled_up rfl fun cdv hcd A outer s H E hr => by
    have tk := takes_of (X := cxOf (L2.CX P w) P w K mg base N__filled_up "_filled_up" (defScope s__filled_up) (He.ga K "_filled_up") cdv A outer s H E) rfl rfl rfl rfl
    have po := passes_of (X := cxOf (L2.CX P w) P w K mg base N__filled_up "_filled_up" (defScope s__filled_up) (He.ga K "_filled_up") cdv A outer s H E) rfl
    exact (dsn_cons (ds_set 1 sc__filled_up.nd rfl (by first | exact Or.inl rfl | exact Or.inr rfl) (den_bf call_len o_len (by rfl) T.m_len PySem.boot_len (den_cons (den_var 0) den_nil))) (dsn_one (ds_ret (den_op op_addA (o_add false) (den_op op_addA (o_add false) (den_lst false (den_star (den_var 0) (den_cons den_int den_nil))) (den_op op_mulA (o_mul false) (den_lst false (den_cons den_int den_nil)) (den_op op_modA o_modA (den_op op_sub o_sub den_int (den_var 1)) den_int))) (den_call (ok__octets_of T hbs) (hr.mono (by decide)) (by rfl) T.g__octets_of T.F__octets_of.kp T.b__octets_of tk (den_cons (den_op op_mulA (o_mul false) den_int (den_var 1)) (den_cons den_int den_nil)) rfl (len_cons (len_cons len_nil)))))))
theorem ok__quad_at (T : Txt K mg fd fdi) (hbs : ∀ p ∈ tfs.map (He.cT K), LamX.TabB base mg p.1 p.2) : FnOk P w K mg base (L2.CX P w) (1) (He.ga K "_quad_at") (fd 2) ["block", "at"] (spM ⟨K, ceOf K cds, feOf cds, tbs K tfs⟩ 2 (d__quad_at)) := fn_denD (k := 0) T.F__quad_at sc__quad_at rfl fun cdv hcd A outer s H E hr => by
    have tk := takes_of (X := cxOf (L2.CX P w) P w K mg base N__quad_at "_quad_at" (defScope s__quad_at) (He.ga K "_quad_at") cdv A outer s H E) rfl rfl rfl rfl
    have po := passes_of (X := cxOf (L2.CX P w) P w K mg base N__quad_at "_quad_at" (defScope s__quad_at) (He.ga K "_quad_at") cdv A outer s H E) rfl
    exact (dsn_one (ds_ret (den_op op_addA (o_add false) (den_op op_addA (o_add false) (den_op op_addA (o_add false) (den_op op_shl o_shl (den_ix (den_var 0) (den_var 1)) den_int) (den_op op_shl o_shl (den_ix (den_var 0) (den_op op_addA (o_add false) (den_var 1) den_int)) den_int)) (den_op op_shl o_shl (den_ix (den_var 0) (den_op op_addA (o_add false) (den_var 1) den_int)) den_int)) (den_ix (den_var 0) (den_op op_addA (o_add false) (den_var 1) den_int)))))
theorem ok__turns (T : Txt K mg fd fdi) (hbs : ∀ p ∈ tfs.map (He.cT K), LamX.TabB base mg p.1 p.2) : FnOk P w K mg base (L2.CX P w) (1) (He.ga K "_turns") (fd 3) ["quad", "one", "two", "three"] (spM ⟨K, ceOf K cds, feOf cds, tbs K tfs⟩ 4 (d__turns)) := fn_denD (k := 0) T.F__turns sc__turns rfl fun cdv hcd A outer s H E hr => by
    have tk := takes_of (X := cxOf (L2.CX P w) P w K mg base N__turns "_turns" (defScope s__turns) (He.ga K "_turns") cdv A outer s H E) rfl rfl rfl rfl
    have po := passes_of (X := cxOf (L2.CX P w) P w K mg base N__turns "_turns" (defScope s__turns) (He.ga K "_turns") cdv A outer s H E) rfl
    exact (dsn_cons (ds_set 4 sc__turns.nd rfl (by first | exact Or.inl rfl | exact Or.inr rfl) (den_op op_addA (o_add false) (den_op op_shl o_shl (den_var 0) den_int) (den_var 0))) (dsn_one (ds_ret (den_op op_and o_and (den_op op_xor o_xor (den_op op_xor o_xor (den_op op_shr o_shr (den_var 4) (den_var 1)) (den_op op_shr o_shr (den_var 4) (den_var 2))) (den_op op_shr o_shr (den_var 4) (den_var 3))) (den_kons__ONES T)))))
theorem ok__quads_of (T : Txt K mg fd fdi) (hbs : ∀ p ∈ tfs.map (He.cT K), LamX.TabB base mg p.1 p.2) : FnOk P w K mg base (L2.CX P w) (2) (He.ga K "_quads_of") (fd 4) ["block"] (spM ⟨K, ceOf K cds, feOf cds, tbs K tfs⟩ 1 (d__quads_of)) := fn_denD (k := 1) T.F__quads_of sc__quads_of rfl fun cdv hcd A outer s H E hr => by
    have tk := takes_of (X := cxOf (L2.CX P w) P w K mg base N__quads_of "_quads_of" (defScope s__quads_of) (He.ga K "_quads_of") cdv A outer s H E) rfl rfl rfl rfl
    have po := passes_of (X := cxOf (L2.CX P w) P w K mg base N__quads_of "_quads_of" (defScope s__quads_of) (He.ga K "_quads_of") cdv A outer s H E) rfl
    exact (dsn_cons (ds_setLc 1 true (own := [("at", 2)]) rfl sc__quads_of.nd rfl rfl (sw_true rfl rfl rfl (by decide +kernel)) (di_range3 (by rfl) T.m_range (den_cons den_int (den_cons den_int (den_cons den_int den_nil)))) (blkOk_by (own := [("at", 2)]) (N := N__quads_of) (sc := defScope s__quads_of) (by decide +kernel)) (dg_name 2) (by decide) (fun _ _ _ _ _ => (pg_name (i := 2) sc__quads_of.nd rfl (by first | exact Or.inl rfl | exact Or.inr rfl))) (fun _ _ _ _ _ => dts_nil) (fun _ _ _ _ _ => (den_call (ok__quad_at T hbs) (hr.mono (by decide)) (by rfl) T.g__quad_at T.F__quad_at.kp T.b__quad_at takes0 (den_cons (den_var 0) (den_cons (den_var 2) den_nil)) rfl (len_cons (len_cons len_nil))))) (dsn_cons (ds_for po rfl (di_range2 (by rfl) T.m_range (den_cons den_int (den_cons den_int den_nil))) (pg_name (i := 2) sc__quads_of.nd rfl (by first | exact Or.inl rfl | exact Or.inr rfl)) (dg_name 2) (dsn_cons (ds_par 5 6 rfl sc__quads_of.nd rfl rfl (by decide) rfl rfl (den_cons (den_ix (den_var 1) (den_op op_sub o_sub (den_var 2) den_int)) (den_cons (den_ix (den_var 1) (den_op op_sub o_sub (den_var 2) den_int)) den_nil)) (by rfl)) (dsn_cons (ds_set 3 sc__quads_of.nd rfl (by first | exact Or.inl rfl | exact Or.inr rfl) (den_op op_addA (o_add false) (den_ix (den_var 1) (den_op op_sub o_sub (den_var 2) den_int)) (den_op op_xor o_xor (den_op op_xor o_xor (den_call (ok__turns T hbs) (hr.mono (by decide)) (by rfl) T.g__turns T.F__turns.kp T.b__turns tk (den_cons (den_var 5) (den_cons den_int (den_cons den_int (den_cons den_int den_nil)))) rfl (len_cons (len_cons (len_cons (len_cons len_nil))))) (den_var 5)) (den_op op_shr o_shr (den_var 5) den_int)))) (dsn_cons (ds_set 4 sc__quads_of.nd rfl (by first | exact Or.inl rfl | exact Or.inr rfl) (den_op op_addA (o_add false) (den_ix (den_var 1) (den_op op_sub o_sub (den_var 2) den_int)) (den_op op_xor o_xor (den_op op_xor o_xor (den_call (ok__turns T hbs) (hr.mono (by decide)) (by rfl) T.g__turns T.F__turns.kp T.b__turns tk (den_cons (den_var 6) (den_cons den_int (den_cons den_int (den_cons den_int den_nil)))) rfl (len_cons (len_cons (len_cons (len_cons len_nil))))) (den_var 6)) (den_op op_shr o_shr (den_var 6) den_int)))) (dsn_one (ds_expr (den_app (den_var 1) (den_op op_and o_and (den_op op_addA (o_add false) (den_var 3) (den_var 4)) (den_kons__ONES T))))))))) (dsn_one (ds_ret (den_var 1)))))
theorem ok__state_behind (T : Txt K mg fd fdi) (hbs : ∀ p ∈ tfs.map (He.cT K), LamX.TabB base mg p.1 p.2) : FnOk P w K mg base (L2.CX P w) (3) (He.ga K "_state_behind") (fd 5) ["state", "block"] (spM ⟨K, ceOf K cds, feOf cds, tbs K tfs⟩ 2 (d__state_behind)) := fn_denD (k := 2) T.F__state_behind sc__state_behind rfl fun cdv hcd A outer s H E hr => by
    have tk := takes_of (X := cxOf (L2.CX P w) P w K mg base N__state_behind "_state_behind" (defScope s__state_behind) (He.ga K "_state_behind") cdv A outer s H E) rfl rfl rfl rfl
    have po := passes_of (X := cxOf (L2.CX P w) P w K mg base N__state_behind "_state_behind" (defScope s__state_behind) (He.ga K "_state_behind") cdv A outer s H E) rfl
    exact (dsn_cons (ds_asg (pg_tupA rfl (pgs_cons (pg_name (i := 3) sc__state_behind.nd rfl (by first | exact Or.inl rfl | exact Or.inr rfl)) (pgs_cons (pg_name (i := 4) sc__state_behind.nd rfl (by first | exact Or.inl rfl | exact Or.inr rfl)) (pgs_cons (pg_name (i := 5) sc__state_behind.nd rfl (by first | exact Or.inl rfl | exact Or.inr rfl)) (pgs_cons (pg_name (i := 6) sc__state_behind.nd rfl (by first | exact Or.inl rfl | exact Or.inr rfl)) (pgs_cons (pg_name (i := 7) sc__state_behind.nd rfl (by first | exact Or.inl rfl | exact Or.inr rfl)) (pgs_cons (pg_name (i := 8) sc__state_behind.nd rfl (by first | exact Or.inl rfl | exact Or.inr rfl)) (pgs_cons (pg_name (i := 9) sc__state_behind.nd rfl (by first | exact Or.inl rfl | exact Or.inr rfl)) (pgs_cons (pg_name (i := 10) sc__state_behind.nd rfl (by first | exact Or.inl rfl | exact Or.inr rfl)) pgs_nil))))))))) (dg_tup (dgs_cons (dg_name 3) (dgs_cons (dg_name 4) (dgs_cons (dg_name 5) (dgs_cons (dg_name 6) (dgs_cons (dg_name 7) (dgs_cons (dg_name 8) (dgs_cons (dg_name 9) (dgs_cons (dg_name 10) dgs_nil))))))))) (den_var 0)) (dsn_cons (ds_for po rfl (di_zipG (by rfl) T.m_zip (den_cons (den_kons__STEPS T) (den_cons (den_call (ok__quads_of T hbs) (hr.mono (by decide)) (by rfl) T.g__quads_of T.F__quads_of.kp T.b__quads_of tk (den_cons (den_var 1) den_nil) rfl (len_cons len_nil)) den_nil))) (pg_tupA rfl (pgs_cons (pg_name (i := 11) sc__state_behind.nd rfl (by first | exact Or.inl rfl | exact Or.inr rfl)) (pgs_cons (pg_name (i := 12) sc__state_behind.nd rfl (by first | exact Or.inl rfl | exact Or.inr rfl)) pgs_nil))) (dg_tup (dgs_cons (dg_name 11) (dgs_cons (dg_name 12) dgs_nil))) (dsn_cons (ds_set 13 sc__state_behind.nd rfl (by first | exact Or.inl rfl | exact Or.inr rfl) (den_op op_addA (o_add false) (den_op op_addA (o_add false) (den_op op_addA (o_add false) (den_op op_addA (o_add false) (den_var 10) (den_call (ok__turns T hbs) (hr.mono (by decide)) (by rfl) T.g__turns T.F__turns.kp T.b__turns tk (den_cons (den_var 7) (den_cons den_int (den_cons den_int (den_cons den_int den_nil)))) rfl (len_cons (len_cons (len_cons (len_cons len_nil)))))) (den_op op_xor o_xor (den_op op_and o_and (den_var 7) (den_var 8)) (den_op op_and o_and (den_op op_xor o_xor (den_var 7) (den_kons__ONES T)) (den_var 9)))) (den_var 11)) (den_var 12))) (dsn_cons (ds_set 14 sc__state_behind.nd rfl (by first | exact Or.inl rfl | exact Or.inr rfl) (den_op op_addA (o_add false) (den_call (ok__turns T hbs) (hr.mono (by decide)) (by rfl) T.g__turns T.F__turns.kp T.b__turns tk (den_cons (den_var 3) (den_cons den_int (den_cons den_int (den_cons den_int den_nil)))) rfl (len_cons (len_cons (len_cons (len_cons len_nil))))) (den_op op_xor o_xor (den_op op_xor o_xor (den_op op_and o_and (den_var 3) (den_var 4)) (den_op op_and o_and (den_var 3) (den_var 5))) (den_op op_and o_and (den_var 4) (den_var 5))))) (dsn_one (ds_asg (pg_tupA rfl (pgs_cons (pg_name (i := 3) sc__state_behind.nd rfl (by first | exact Or.inl rfl | exact Or.inr rfl)) (pgs_cons (pg_name (i := 4) sc__state_behind.nd rfl (by first | exact Or.inl rfl | exact Or.inr rfl)) (pgs_cons (pg_name (i := 5) sc__state_behind.nd rfl (by first | exact Or.inl rfl | exact Or.inr rfl)) (pgs_cons (pg_name (i := 6) sc__state_behind.nd rfl (by first | exact Or.inl rfl | exact Or.inr rfl)) (pgs_cons (pg_name (i := 7) sc__state_behind.nd rfl (by first | exact Or.inl rfl | exact Or.inr rfl)) (pgs_cons (pg_name (i := 8) sc__state_behind.nd rfl (by first | exact Or.inl rfl | exact Or.inr rfl)) (pgs_cons (pg_name (i := 9) sc__state_behind.nd rfl (by first | exact Or.inl rfl | exact Or.inr rfl)) (pgs_cons (pg_name (i := 10) sc__state_behind.nd rfl (by first | exact Or.inl rfl | exact Or.inr rfl)) pgs_nil))))))))) (dg_tup (dgs_cons (dg_name 3) (dgs_cons (dg_name 4) (dgs_cons (dg_name 5) (dgs_cons (dg_name 6) (dgs_cons (dg_name 7) (dgs_cons (dg_name 8) (dgs_cons (dg_name 9) (dgs_cons (dg_name 10) dgs_nil))))))))) (den_tup (den_cons (den_op op_and o_and (den_op op_addA (o_add false) (den_var 13) (den_var 14)) (den_kons__ONES T)) (den_cons (den_var 3) (den_cons (den_var 4) (den_cons (den_var 5) (den_cons (den_op op_and o_and (den_op op_addA (o_add false) (den_var 6) (den_var 13)) (den_kons__ONES T)) (den_cons (den_var 7) (den_cons (den_var 8) (den_cons (den_var 9) den_nil)))))))))))))) (dsn_cons (ds_set 2 sc__state_behind.nd rfl (by first | exact Or.inl rfl | exact Or.inr rfl) (den_tup (den_cons (den_var 3) (den_cons (den_var 4) (den_cons (den_var 5) (den_cons (den_var 6) (den_cons (den_var 7) (den_cons (den_var 8) (den_cons (den_var 9) (den_cons (den_var 10) den_nil)))))))))) (dsn_one (ds_ret (den_bt call_tuple_of o_tuple (by rfl) T.m_tuple PyProof.Rows.boot_tuple (den_cons (den_lc false (own := [("old", 15), ("new", 16)]) rfl sc__state_behind.nd (di_zipG (by rfl) T.m_zip (den_cons (den_var 0) (den_cons (den_var 2) den_nil))) (blkOk_by (own := [("old", 15), ("new", 16)]) (N := N__state_behind) (sc := defScope s__state_behind) (by decide +kernel)) (dg_tup (dgs_cons (dg_name 15) (dgs_cons (dg_name 16) dgs_nil))) (by decide) (fun _ _ _ _ _ => (pg_tupA rfl (pgs_cons (pg_name (i := 15) sc__state_behind.nd rfl (by first | exact Or.inl rfl | exact Or.inr rfl)) (pgs_cons (pg_name (i := 16) sc__state_behind.nd rfl (by first | exact Or.inl rfl | exact Or.inr rfl)) pgs_nil)))) (fun _ _ _ _ _ => dts_nil) (fun _ _ _ _ _ => (den_op op_and o_and (den_op op_addA (o_add false) (den_var 15) (den_var 16)) (den_kons__ONES T)))) den_nil)))))))
theorem ok_sha (T : Txt K mg fd fdi) (hbs : ∀ p ∈ tfs.map (He.cT K), LamX.TabB base mg p.1 p.2) : FnOk P w K mg base (L2.CX P w) (4) (He.ga K "sha") (fd 6) ["numbers"] (spM ⟨K, ceOf K cds, feOf cds, tbs K tfs⟩ 1 (d_sha)) := fn_denD (k := 3) T.F_sha sc_sha rfl fun cdv hcd A outer s H E hr => by
    have tk := takes_of (X := cxOf (L2.CX P w) P w K mg base N_sha "sha" (defScope s_sha) (He.ga K "sha") cdv A outer s H E) rfl rfl rfl rfl
    have po := passes_of (X := cxOf (L2.CX P w) P w K mg base N_sha "sha" (defScope s_sha) (He.ga K "sha") cdv A outer s H E) rfl
    exact (dsn_cons (ds_set 1 sc_sha.nd rfl (by first | exact Or.inl rfl | exact Or.inr rfl) (den_kons__START T)) (dsn_cons (ds_set 2 sc_sha.nd rfl (by first | exact Or.inl rfl | exact Or.inr rfl) (den_call (ok__filled_up T hbs) (hr.mono (by decide)) (by rfl) T.g__filled_up T.F__filled_up.kp T.b__filled_up tk (den_cons (den_var 0) den_nil) rfl (len_cons len_nil))) (dsn_cons (ds_for po rfl (di_range3 (by rfl) T.m_range (den_cons den_int (den_cons (den_bf call_len o_len (by rfl) T.m_len PySem.boot_len (den_cons (den_var 2) den_nil)) (den_cons den_int den_nil)))) (pg_name (i := 3) sc_sha.nd rfl (by first | exact Or.inl rfl | exact Or.inr rfl)) (dg_name 3) (dsn_one (ds_set 1 sc_sha.nd rfl (by first | exact Or.inl rfl | exact Or.inr rfl) (den_call (ok__state_behind T hbs) (hr.mono (by decide)) (by rfl) T.g__state_behind T.F__state_behind.kp T.b__state_behind tk (den_cons (den_var 1) (den_cons (den_sl false (den_var 2) (den_osome (den_var 3)) (den_osome (den_op op_addA (o_add false) (den_var 3) den_int))) den_nil)) rfl (len_cons (len_cons len_nil)))))) (dsn_one (ds_ret (den_bt call_tuple_of o_tuple (by rfl) T.m_tuple PyProof.Rows.boot_tuple (den_cons (den_lc2 false (own := [("quad", 4), ("octet", 5)]) rfl sc_sha.nd (di_any (den_var 1)) (blkOk_by (own := [("quad", 4), ("octet", 5)]) (N := N_sha) (sc := defScope s_sha) (by decide +kernel)) (by decide) (dg_name 4) (by decide) (dg_name 5) (by decide) (fun _ _ _ _ _ => (pg_name (i := 4) sc_sha.nd rfl (by first | exact Or.inl rfl | exact Or.inr rfl))) (fun _ _ _ _ _ => dts_nil) (fun _ _ _ _ _ => (di_any (den_call (ok__octets_of T hbs) (hr.mono (by decide)) (by rfl) T.g__octets_of T.F__octets_of.kp T.b__octets_of takes0 (den_cons (den_var 4) (den_cons den_int den_nil)) rfl (len_cons (len_cons len_nil))))) (fun _ _ _ _ _ => (pg_name (i := 5) sc_sha.nd rfl (by first | exact Or.inl rfl | exact Or.inr rfl))) (fun _ _ _ _ _ => dts_nil) (fun _ _ _ _ _ => (den_var 5))) den_nil)))))))
theorem ok_hex_text (T : Txt K mg fd fdi) (hbs : ∀ p ∈ tfs.map (He.cT K), LamX.TabB base mg p.1 p.2) : FnOk P w K mg base (L2.CX P w) (1) (He.ga K "hex_text") (fd 7) ["numbers"] (spM ⟨K, ceOf K cds, feOf cds, tbs K tfs⟩ 1 (d_hex_text)) := fn_denD (k := 0) T.F_hex_text sc_hex_text rfl fun cdv hcd A outer s H E hr => by
    have tk := takes_of (X := cxOf (L2.CX P w) P w K mg base N_hex_text "hex_text" (defScope s_hex_text) (He.ga K "hex_text") cdv A outer s H E) rfl rfl rfl rfl
    have po := passes_of (X := cxOf (L2.CX P w) P w K mg base N_hex_text "hex_text" (defScope s_hex_text) (He.ga K "hex_text") cdv A outer s H E) rfl
    exact (dsn_one (ds_ret (den_join (den_str (l := [])) (den_lc false (own := [("own", 1)]) rfl sc_hex_text.nd (di_any (den_var 0)) (blkOk_by (own := [("own", 1)]) (N := N_hex_text) (sc := defScope s_hex_text) (by decide +kernel)) (dg_name 1) (by decide) (fun _ _ _ _ _ => (pg_name (i := 1) sc_hex_text.nd rfl (by first | exact Or.inl rfl | exact Or.inr rfl))) (fun _ _ _ _ _ => dts_nil) (fun _ _ _ _ _ => (den_op op_addA (o_add false) (den_ix (den_kons__DIGITS T) (den_op op_divA o_divA (den_var 1) den_int)) (den_ix (den_kons__DIGITS T) (den_op op_modA o_modA (den_var 1) den_int))))))))
theorem ok_hex_numbers (T : Txt K mg fd fdi) (hbs : ∀ p ∈ tfs.map (He.cT K), LamX.TabB base mg p.1 p.2) : FnOk P w K mg base (L2.CX P w) (3) (He.ga K "hex_numbers") (fd 8) ["text"] (spM ⟨K, ceOf K cds, feOf cds, tbs K tfs⟩ 1 (d_hex_numbers)) := fn_denD (k := 2) T.F_hex_numbers sc_hex_numbers rfl fun cdv hcd A outer s H E hr => by
    have tk := takes_of (X := cxOf (L2.CX P w) P w K mg base N_hex_numbers "hex_numbers" (defScope s_hex_numbers) (He.ga K "hex_numbers") cdv A outer s H E) rfl rfl rfl rfl
    have po := passes_of (X := cxOf (L2.CX P w) P w K mg base N_hex_numbers "hex_numbers" (defScope s_hex_numbers) (He.ga K "hex_numbers") cdv A outer s H E) rfl
    exact (dsn_cons (ds_if (den_w (den_tor (den_tcmp (op_neA hr.units) (o_eq true) (den_op op_modA o_modA (den_bf call_len o_len (by rfl) T.m_len PySem.boot_len (den_cons (den_var 0) den_nil)) den_int) den_int (nomark _)) (den_or1 (den_tnot (den_truth (den_all (k := 1) (own := [("sign", 2)]) (by rfl) T.m_all (hr.mono (by decide)) sc_hex_numbers.nd (gtb (hbs _ (ct_hex_numbers K))) (hcd.symm.trans T.cd_hex_numbers) (pt_hex_numbers K) rfl rfl (by decide +kernel) (by decide +kernel) (di_any (den_var 0)) (blkOk_by (own := [("sign", 2)]) (N := N_hex_numbers) (sc := defScope s_hex_numbers) (by decide +kernel)) (dg_name 2) (by decide) (fun _ _ _ _ _ _ _ => (pg_name (i := 2) sc_hex_numbers.nd rfl (by first | exact Or.inl rfl | exact Or.inr rfl))) (fun _ _ _ _ _ _ _ hr => dts_nil) (fun _ _ _ _ _ _ _ hr => (den_cmp op_in_sign o_inS (den_var 2) (den_kons__DIGITS T) rfl)))))))) (dsn_one (ds_rz0 (c := 1) rfl tk rfl xb_value T.cd1.xc T.cd1.iC T.cd1.tI (ok_I1 T) (hr.mono (by decide)) T.bI1 (by rfl) T.gc1)) dsn_nil) (dsn_cons (ds_set 1 sc_hex_numbers.nd rfl (by first | exact Or.inl rfl | exact Or.inr rfl) (den_lc false (own := [("sign", 2)]) rfl sc_hex_numbers.nd (di_any (den_var 0)) (blkOk_by (own := [("sign", 2)]) (N := N_hex_numbers) (sc := defScope s_hex_numbers) (by decide +kernel)) (dg_name 2) (by decide) (fun _ _ _ _ _ => (pg_name (i := 2) sc_hex_numbers.nd rfl (by first | exact Or.inl rfl | exact Or.inr rfl))) (fun _ _ _ _ _ => dts_nil) (fun _ _ _ _ _ => (den_indexS (den_kons__DIGITS T) (den_var 2))))) (dsn_one (ds_ret (den_bt call_tuple_of o_tuple (by rfl) T.m_tuple PyProof.Rows.boot_tuple (den_cons (den_lc false (own := [("at", 3)]) rfl sc_hex_numbers.nd (di_range3 (by rfl) T.m_range (den_cons den_int (den_cons (den_bf call_len o_len (by rfl) T.m_len PySem.boot_len (den_cons (den_var 1) den_nil)) (den_cons den_int den_nil)))) (blkOk_by (own := [("at", 3)]) (N := N_hex_numbers) (sc := defScope s_hex_numbers) (by decide +kernel)) (dg_name 3) (by decide) (fun _ _ _ _ _ => (pg_name (i := 3) sc_hex_numbers.nd rfl (by first | exact Or.inl rfl | exact Or.inr rfl))) (fun _ _ _ _ _ => dts_nil) (fun _ _ _ _ _ => (den_op op_addA (o_add false) (den_op op_mulA (o_mul false) den_int (den_ix (den_var 1) (den_var 3))) (den_ix (den_var 1) (den_op op_addA (o_add false) (den_var 3) den_int))))) den_nil))))))
theorem ok_codes_of (T : Txt K mg fd fdi) (hbs : ∀ p ∈ tfs.map (He.cT K), LamX.TabB base mg p.1 p.2) : FnOk P w K mg base (L2.CX P w) (1) (He.ga K "codes_of") (fd 9) ["text"] (spM ⟨K, ceOf K cds, feOf cds, tbs K tfs⟩ 1 (d_codes_of)) := fn_denD (k := 0) T.F_codes_of sc_codes_of rfl fun cdv hcd A outer s H E hr => by
    have tk := takes_of (X := cxOf (L2.CX P w) P w K mg base N_codes_of "codes_of" (defScope s_codes_of) (He.ga K "codes_of") cdv A outer s H E) rfl rfl rfl rfl
    have po := passes_of (X := cxOf (L2.CX P w) P w K mg base N_codes_of "codes_of" (defScope s_codes_of) (He.ga K "codes_of") cdv A outer s H E) rfl
    exact (dsn_one (ds_ret (den_bt call_tuple_of o_tuple (by rfl) T.m_tuple PyProof.Rows.boot_tuple (den_cons (den_lc false (own := [("sign", 1)]) rfl sc_codes_of.nd (di_any (den_var 0)) (blkOk_by (own := [("sign", 1)]) (N := N_codes_of) (sc := defScope s_codes_of) (by decide +kernel)) (dg_name 1) (by decide) (fun _ _ _ _ _ => (pg_name (i := 1) sc_codes_of.nd rfl (by first | exact Or.inl rfl | exact Or.inr rfl))) (fun _ _ _ _ _ => dts_nil) (fun _ _ _ _ _ => (den_bf call_ord o_ord (by rfl) T.m_ord PyProof.Rows.boot_ord (den_cons (den_var 1) den_nil)))) den_nil))))
theorem ok__sha_numbers (T : Txt K mg fd fdi) (hbs : ∀ p ∈ tfs.map (He.cT K), LamX.TabB base mg p.1 p.2) : FnOk P w K mg base (L2.CX P w) (4) (He.ga K "_sha_numbers") (fd 10) ["matter"] (spM ⟨K, ceOf K cds, feOf cds, tbs K tfs⟩ 1 (d__sha_numbers)) := fn_denD (k := 3) T.F__sha_numbers sc__sha_numbers rfl fun cdv hcd A outer s H E hr => by
    have tk := takes_of (X := cxOf (L2.CX P w) P w K mg base N__sha_numbers "_sha_numbers" (defScope s__sha_numbers) (He.ga K "_sha_numbers") cdv A outer s H E) rfl rfl rfl rfl
    have po := passes_of (X := cxOf (L2.CX P w) P w K mg base N__sha_numbers "_sha_numbers" (defScope s__sha_numbers) (He.ga K "_sha_numbers") cdv A outer s H E) rfl
    exact (dsn_cons (ds_if (den_tcmp (op_eqA hr.units) (o_eq false) (den_ix (den_var 0) den_int) (den_str (l := [110, 111, 110, 101])) (nomark _)) (dsn_one (ds_ret (den_tup den_nil))) dsn_nil) (dsn_cons (ds_if (den_tcmp (op_eqA hr.units) (o_eq false) (den_ix (den_var 0) den_int) (den_str (l := [108, 101, 97, 102])) (nomark _)) (dsn_one (ds_ret (den_op op_addA (o_add false) (den_tup (den_cons den_int den_nil)) (den_call (ok_codes_of T hbs) (hr.mono (by decide)) (by rfl) T.g_codes_of T.F_codes_of.kp T.b_codes_of tk (den_cons (den_ix (den_var 0) den_int) den_nil) rfl (len_cons len_nil))))) dsn_nil) (dsn_one (ds_ret (den_op op_addA (o_add false) (den_op op_addA (o_add false) (den_tup (den_cons den_int den_nil)) (den_call (ok_hex_numbers T hbs) (hr.mono (by decide)) (by rfl) T.g_hex_numbers T.F_hex_numbers.kp T.b_hex_numbers tk (den_cons (den_ix (den_var 0) den_int) den_nil) rfl (len_cons len_nil))) (den_call (ok_hex_numbers T hbs) (hr.mono (by decide)) (by rfl) T.g_hex_numbers T.F_hex_numbers.kp T.b_hex_numbers tk (den_cons (den_ix (den_var 0) den_int) den_nil) rfl (len_cons len_nil)))))))
theorem ok__weak_seal (T : Txt K mg fd fdi) (hbs : ∀ p ∈ tfs.map (He.cT K), LamX.TabB base mg p.1 p.2) : FnOk P w K mg base (L2.CX P w) (2) (He.ga K "_weak_seal") (fd 11) ["m", "k", "matter"] (spM ⟨K, ceOf K cds, feOf cds, tbs K tfs⟩ 3 (d__weak_seal)) := fn_denD (k := 1) T.F__weak_seal sc__weak_seal rfl fun cdv hcd A outer s H E hr => by
    have tk := takes_of (X := cxOf (L2.CX P w) P w K mg base N__weak_seal "_weak_seal" (defScope s__weak_seal) (He.ga K "_weak_seal") cdv A outer s H E) rfl rfl rfl rfl
    have po := passes_of (X := cxOf (L2.CX P w) P w K mg base N__weak_seal "_weak_seal" (defScope s__weak_seal) (He.ga K "_weak_seal") cdv A outer s H E) rfl
    exact (dsn_cons (ds_if (den_tcmp (op_eqA hr.units) (o_eq false) (den_ix (den_var 2) den_int) (den_str (l := [110, 111, 110, 101])) (nomark _)) (dsn_one (ds_ret (den_op op_modA o_modA (den_var 1) (den_var 0)))) dsn_nil) (dsn_cons (ds_if (den_tcmp (op_eqA hr.units) (o_eq false) (den_ix (den_var 2) den_int) (den_str (l := [108, 101, 97, 102])) (nomark _)) (dsn_cons (ds_set 3 sc__weak_seal.nd rfl (by first | exact Or.inl rfl | exact Or.inr rfl) (den_op op_addA (o_add false) (den_var 1) den_int)) (dsn_cons (ds_for po rfl (di_any (den_call (ok_codes_of T hbs) (hr.mono (by decide)) (by rfl) T.g_codes_of T.F_codes_of.kp T.b_codes_of tk (den_cons (den_ix (den_var 2) den_int) den_nil) rfl (len_cons len_nil))) (pg_name (i := 4) sc__weak_seal.nd rfl (by first | exact Or.inl rfl | exact Or.inr rfl)) (dg_name 4) (dsn_one (ds_set 3 sc__weak_seal.nd rfl (by first | exact Or.inl rfl | exact Or.inr rfl) (den_op op_modA o_modA (den_op op_addA (o_add false) (den_op op_mulA (o_mul false) den_int (den_var 3)) (den_var 4)) (den_var 0))))) (dsn_one (ds_ret (den_op op_modA o_modA (den_var 3) (den_var 0)))))) dsn_nil) (dsn_one (ds_ret (den_op op_modA o_modA (den_op op_addA (o_add false) (den_op op_addA (o_add false) (den_op op_addA (o_add false) (den_op op_mulA (o_mul false) den_int (den_ix (den_var 2) den_int)) (den_op op_mulA (o_mul false) den_int (den_ix (den_var 2) den_int))) (den_var 1)) den_int) (den_var 0))))))
theorem ok_sealed (T : Txt K mg fd fdi) (hbs : ∀ p ∈ tfs.map (He.cT K), LamX.TabB base mg p.1 p.2) : FnOk P w K mg base (L2.CX P w) (5) (He.ga K "sealed") (fd 12) ["sealer", "matter"] (spM ⟨K, ceOf K cds, feOf cds, tbs K tfs⟩ 2 (d_sealed)) := fn_denD (k := 4) T.F_sealed sc_sealed rfl fun cdv hcd A outer s H E hr => by
    have tk := takes_of (X := cxOf (L2.CX P w) P w K mg base N_sealed "sealed" (defScope s_sealed) (He.ga K "sealed") cdv A outer s H E) rfl rfl rfl rfl
    have po := passes_of (X := cxOf (L2.CX P w) P w K mg base N_sealed "sealed" (defScope s_sealed) (He.ga K "sealed") cdv A outer s H E) rfl
    exact (dsn_cons (ds_if (den_tcmp (op_eqA hr.units) (o_eq false) (den_ix (den_var 0) den_int) (den_str (l := [115, 104, 97])) (nomark _)) (dsn_one (ds_ret (den_call (ok_hex_text T hbs) (hr.mono (by decide)) (by rfl) T.g_hex_text T.F_hex_text.kp T.b_hex_text tk (den_cons (den_call (ok_sha T hbs) (hr.mono (by decide)) (by rfl) T.g_sha T.F_sha.kp T.b_sha tk (den_cons (den_call (ok__sha_numbers T hbs) (hr.mono (by decide)) (by rfl) T.g__sha_numbers T.F__sha_numbers.kp T.b__sha_numbers tk (den_cons (den_var 1) den_nil) rfl (len_cons len_nil)) den_nil) rfl (len_cons len_nil)) den_nil) rfl (len_cons len_nil)))) dsn_nil) (dsn_cons (ds_if (den_tcmp (op_eqA hr.units) (o_eq false) (den_ix (den_var 0) den_int) (den_str (l := [119, 104, 111, 108, 101])) (nomark _)) (dsn_one (ds_ret (den_var 1))) dsn_nil) (dsn_one (ds_ret (den_call (ok__weak_seal T hbs) (hr.mono (by decide)) (by rfl) T.g__weak_seal T.F__weak_seal.kp T.b__weak_seal tk (den_cons (den_ix (den_var 0) den_int) (den_cons (den_ix (den_var 0) den_int) (den_cons (den_var 1) den_nil))) rfl (len_cons (len_cons (len_cons len_nil))))))))
theorem ok_crown (T : Txt K mg fd fdi) (hbs : ∀ p ∈ tfs.map (He.cT K), LamX.TabB base mg p.1 p.2) : FnOk P w K mg base (L2.CX P w) (3) (He.ga K "crown") (fd 13) ["size"] (spM ⟨K, ceOf K cds, feOf cds, tbs K tfs⟩ 1 (d_crown)) := fn_denD (k := 2) T.F_crown sc_crown rfl fun cdv hcd A outer s H E hr => by
    have tk := takes_of (X := cxOf (L2.CX P w) P w K mg base N_crown "crown" (defScope s_crown) (He.ga K "crown") cdv A outer s H E) rfl rfl rfl rfl
    have po := passes_of (X := cxOf (L2.CX P w) P w K mg base N_crown "crown" (defScope s_crown) (He.ga K "crown") cdv A outer s H E) rfl
    exact (dsn_cons (ds_if (den_tcmp op_ltA (o_order _ _) (den_var 0) den_int (nomark _)) (dsn_one (ds_rz0 (c := 2) rfl tk rfl xb_value T.cd2.xc T.cd2.iC T.cd2.tI (ok_I2 T) (hr.mono (by decide)) T.bI2 (by rfl) T.gc2)) dsn_nil) (dsn_one (ds_ret (den_op op_shl o_shl den_int (den_op op_sub o_sub (den_bits (den_op op_sub o_sub (den_var 0) den_int)) den_int)))))
theorem ok__longer (T : Txt K mg fd fdi) (hbs : ∀ p ∈ tfs.map (He.cT K), LamX.TabB base mg p.1 p.2) : FnOk P w K mg base (L2.CX P w) (6) (He.ga K "_longer") (fd 14) ["sealer", "tops", "entry"] (spM ⟨K, ceOf K cds, feOf cds, tbs K tfs⟩ 3 (d__longer)) := fn_denD (k := 5) T.F__longer sc__longer rfl fun cdv hcd A outer s H E hr => by
    have tk := takes_of (X := cxOf (L2.CX P w) P w K mg base N__longer "_longer" (defScope s__longer) (He.ga K "_longer") cdv A outer s H E) rfl rfl rfl rfl
    have po := passes_of (X := cxOf (L2.CX P w) P w K mg base N__longer "_longer" (defScope s__longer) (He.ga K "_longer") cdv A outer s H E) rfl
    exact (dsn_cons (ds_asg (pg_tupA rfl (pgs_cons (pg_name (i := 5) sc__longer.nd rfl (by first | exact Or.inl rfl | exact Or.inr rfl)) (pgs_cons (pg_name (i := 6) sc__longer.nd rfl (by first | exact Or.inl rfl | exact Or.inr rfl)) pgs_nil))) (dg_tup (dgs_cons (dg_name 5) (dgs_cons (dg_name 6) dgs_nil))) (den_var 1)) (dsn_cons (ds_set 3 sc__longer.nd rfl (by first | exact Or.inl rfl | exact Or.inr rfl) (den_call (ok_sealed T hbs) (hr.mono (by decide)) (by rfl) T.g_sealed T.F_sealed.kp T.b_sealed tk (den_cons (den_var 0) (den_cons (den_tup (den_cons (den_str (l := [108, 101, 97, 102])) (den_cons (den_var 2) den_nil))) den_nil)) rfl (len_cons (len_cons len_nil)))) (dsn_cons (ds_set 4 sc__longer.nd rfl (by first | exact Or.inl rfl | exact Or.inr rfl) (den_var 5)) (dsn_cons (ds_while 2000 po (den_truth (den_op op_and o_and (den_var 4) den_int)) (dsn_cons (ds_set 3 sc__longer.nd rfl (by first | exact Or.inl rfl | exact Or.inr rfl) (den_call (ok_sealed T hbs) (hr.mono (by decide)) (by rfl) T.g_sealed T.F_sealed.kp T.b_sealed tk (den_cons (den_var 0) (den_cons (den_tup (den_cons (den_str (l := [110, 111, 100, 101])) (den_cons (den_ix (den_var 6) (den_un un_neg o_neg den_int)) (den_cons (den_var 3) den_nil)))) den_nil)) rfl (len_cons (len_cons len_nil)))) (dsn_cons (ds_set 6 sc__longer.nd rfl (by first | exact Or.inl rfl | exact Or.inr rfl) (den_sl false (den_var 6) den_onone (den_osome (den_un un_neg o_neg den_int)))) (dsn_one (ds_set 4 sc__longer.nd rfl (by first | exact Or.inl rfl | exact Or.inr rfl) (den_op op_shr o_shr (den_var 4) den_int)))))) (dsn_one (ds_ret (den_tup (den_cons (den_op op_addA (o_add false) (den_var 5) den_int) (den_cons (den_tup (den_star (den_var 6) (den_cons (den_var 3) den_nil))) den_nil)))))))))
theorem ok_tops_of (T : Txt K mg fd fdi) (hbs : ∀ p ∈ tfs.map (He.cT K), LamX.TabB base mg p.1 p.2) : FnOk P w K mg base (L2.CX P w) (7) (He.ga K "tops_of") (fd 15) ["sealer", "log"] (spM ⟨K, ceOf K cds, feOf cds, tbs K tfs⟩ 2 (d_tops_of)) := fn_denD (k := 6) T.F_tops_of sc_tops_of rfl fun cdv hcd A outer s H E hr => by
    have tk := takes_of (X := cxOf (L2.CX P w) P w K mg base N_tops_of "tops_of" (defScope s_tops_of) (He.ga K "tops_of") cdv A outer s H E) rfl rfl rfl rfl
    have po := passes_of (X := cxOf (L2.CX P w) P w K mg base N_tops_of "tops_of" (defScope s_tops_of) (He.ga K "tops_of") cdv A outer s H E) rfl
    exact (dsn_cons (ds_set 2 sc_tops_of.nd rfl (by first | exact Or.inl rfl | exact Or.inr rfl) (den_tup (den_cons den_int (den_cons (den_tup den_nil) den_nil)))) (dsn_cons (ds_for po rfl (di_any (den_var 1)) (pg_name (i := 3) sc_tops_of.nd rfl (by first | exact Or.inl rfl | exact Or.inr rfl)) (dg_name 3) (dsn_one (ds_set 2 sc_tops_of.nd rfl (by first | exact Or.inl rfl | exact Or.inr rfl) (den_call (ok__longer T hbs) (hr.mono (by decide)) (by rfl) T.g__longer T.F__longer.kp T.b__longer tk (den_cons (den_var 0) (den_cons (den_var 2) (den_cons (den_var 3) den_nil))) rfl (len_cons (len_cons (len_cons len_nil))))))) (dsn_one (ds_ret (den_var 2)))))
theorem ok__head (T : Txt K mg fd fdi) (hbs : ∀ p ∈ tfs.map (He.cT K), LamX.TabB base mg p.1 p.2) : FnOk P w K mg base (L2.CX P w) (6) (He.ga K "_head") (fd 16) ["sealer", "tops"] (spM ⟨K, ceOf K cds, feOf cds, tbs K tfs⟩ 2 (d__head)) := fn_denD (k := 5) T.F__head sc__head rfl fun cdv hcd A outer s H E hr => by
    have tk := takes_of (X := cxOf (L2.CX P w) P w K mg base N__head "_head" (defScope s__head) (He.ga K "_head") cdv A outer s H E) rfl rfl rfl rfl
    have po := passes_of (X := cxOf (L2.CX P w) P w K mg base N__head "_head" (defScope s__head) (He.ga K "_head") cdv A outer s H E) rfl
    exact (dsn_cons (ds_asg (pg_tupA rfl (pgs_cons (pg_name (i := 4) sc__head.nd rfl (by first | exact Or.inl rfl | exact Or.inr rfl)) (pgs_cons (pg_name (i := 5) sc__head.nd rfl (by first | exact Or.inl rfl | exact Or.inr rfl)) pgs_nil))) (dg_tup (dgs_cons (dg_name 4) (dgs_cons (dg_name 5) dgs_nil))) (den_var 1)) (dsn_cons (ds_if (den_tnot (den_truth (den_var 5))) (dsn_one (ds_ret (den_tup (den_cons (den_var 4) (den_cons (den_call (ok_sealed T hbs) (hr.mono (by decide)) (by rfl) T.g_sealed T.F_sealed.kp T.b_sealed tk (den_cons (den_var 0) (den_cons (den_tup (den_cons (den_str (l := [110, 111, 110, 101])) den_nil)) den_nil)) rfl (len_cons (len_cons len_nil))) den_nil))))) dsn_nil) (dsn_cons (ds_set 2 sc__head.nd rfl (by first | exact Or.inl rfl | exact Or.inr rfl) (den_ix (den_var 5) (den_un un_neg o_neg den_int))) (dsn_cons (ds_for po rfl (di_any (den_rev false (den_var 5) (den_osome (den_un un_neg o_neg den_int)))) (pg_name (i := 3) sc__head.nd rfl (by first | exact Or.inl rfl | exact Or.inr rfl)) (dg_name 3) (dsn_one (ds_set 2 sc__head.nd rfl (by first | exact Or.inl rfl | exact Or.inr rfl) (den_call (ok_sealed T hbs) (hr.mono (by decide)) (by rfl) T.g_sealed T.F_sealed.kp T.b_sealed tk (den_cons (den_var 0) (den_cons (den_tup (den_cons (den_str (l := [110, 111, 100, 101])) (den_cons (den_var 3) (den_cons (den_var 2) den_nil)))) den_nil)) rfl (len_cons (len_cons len_nil)))))) (dsn_one (ds_ret (den_tup (den_cons (den_var 4) (den_cons (den_var 2) den_nil)))))))))
theorem ok_head_of (T : Txt K mg fd fdi) (hbs : ∀ p ∈ tfs.map (He.cT K), LamX.TabB base mg p.1 p.2) : FnOk P w K mg base (L2.CX P w) (8) (He.ga K "head_of") (fd 17) ["sealer", "log"] (spM ⟨K, ceOf K cds, feOf cds, tbs K tfs⟩ 2 (d_head_of)) := fn_denD (k := 7) T.F_head_of sc_head_of rfl fun cdv hcd A outer s H E hr => by
    have tk := takes_of (X := cxOf (L2.CX P w) P w K mg base N_head_of "head_of" (defScope s_head_of) (He.ga K "head_of") cdv A outer s H E) rfl rfl rfl rfl
    have po := passes_of (X := cxOf (L2.CX P w) P w K mg base N_head_of "head_of" (defScope s_head_of) (He.ga K "head_of") cdv A outer s H E) rfl
    exact (dsn_one (ds_ret (den_call (ok__head T hbs) (hr.mono (by decide)) (by rfl) T.g__head T.F__head.kp T.b__head tk (den_cons (den_var 0) (den_cons (den_call (ok_tops_of T hbs) (hr.mono (by decide)) (by rfl) T.g_tops_of T.F_tops_of.kp T.b_tops_of tk (den_cons (den_var 0) (den_cons (den_var 1) den_nil)) rfl (len_cons (len_cons len_nil))) den_nil)) rfl (len_cons (len_cons len_nil)))))
theorem ok_root (T : Txt K mg fd fdi) (hbs : ∀ p ∈ tfs.map (He.cT K), LamX.TabB base mg p.1 p.2) : FnOk P w K mg base (L2.CX P w) (9) (He.ga K "root") (fd 18) ["sealer", "log"] (spM ⟨K, ceOf K cds, feOf cds, tbs K tfs⟩ 2 (d_root)) := fn_denD (k := 8) T.F_root sc_root rfl fun cdv hcd A outer s H E hr => by
    have tk := takes_of (X := cxOf (L2.CX P w) P w K mg base N_root "root" (defScope s_root) (He.ga K "root") cdv A outer s H E) rfl rfl rfl rfl
    have po := passes_of (X := cxOf (L2.CX P w) P w K mg base N_root "root" (defScope s_root) (He.ga K "root") cdv A outer s H E) rfl
    exact (dsn_one (ds_ret (den_ix (den_call (ok_head_of T hbs) (hr.mono (by decide)) (by rfl) T.g_head_of T.F_head_of.kp T.b_head_of tk (den_cons (den_var 0) (den_cons (den_var 1) den_nil)) rfl (len_cons (len_cons len_nil))) den_int)))
theorem ok_seal_of_stretch (T : Txt K mg fd fdi) (hbs : ∀ p ∈ tfs.map (He.cT K), LamX.TabB base mg p.1 p.2) : FnOk P w K mg base (L2.CX P w) (10) (He.ga K "seal_of_stretch") (fd 19) ["sealer", "log", "stretch"] (spM ⟨K, ceOf K cds, feOf cds, tbs K tfs⟩ 3 (d_seal_of_stretch)) := fn_denD (k := 9) T.F_seal_of_stretch sc_seal_of_stretch rfl fun cdv hcd A outer s H E hr => by
    have tk := takes_of (X := cxOf (L2.CX P w) P w K mg base N_seal_of_stretch "seal_of_stretch" (defScope s_seal_of_stretch) (He.ga K "seal_of_stretch") cdv A outer s H E) rfl rfl rfl rfl
    have po := passes_of (X := cxOf (L2.CX P w) P w K mg base N_seal_of_stretch "seal_of_stretch" (defScope s_seal_of_stretch) (He.ga K "seal_of_stretch") cdv A outer s H E) rfl
    exact (dsn_cons (ds_asg (pg_tupA rfl (pgs_cons (pg_name (i := 3) sc_seal_of_stretch.nd rfl (by first | exact Or.inl rfl | exact Or.inr rfl)) (pgs_cons (pg_name (i := 4) sc_seal_of_stretch.nd rfl (by first | exact Or.inl rfl | exact Or.inr rfl)) pgs_nil))) (dg_tup (dgs_cons (dg_name 3) (dgs_cons (dg_name 4) dgs_nil))) (den_var 2)) (dsn_cons (ds_if (den_tcmp op_gtA (o_order _ _) (den_var 4) (den_bf call_len o_len (by rfl) T.m_len PySem.boot_len (den_cons (den_var 1) den_nil)) (nomark _)) (dsn_one (ds_rz1 (c := 0) rfl tk rfl xb_lookup T.cd0.xc T.cd0.iC T.cd0.tI (ok_I0 T) (hr.mono (by decide)) T.bI0 (by rfl) T.gc0 (den_op op_sub o_sub (den_var 4) den_int))) dsn_nil) (dsn_one (ds_ret (den_call (ok_root T hbs) (hr.mono (by decide)) (by rfl) T.g_root T.F_root.kp T.b_root tk (den_cons (den_var 0) (den_cons (den_sl false (den_var 1) (den_osome (den_var 3)) (den_osome (den_var 4))) den_nil)) rfl (len_cons (len_cons len_nil)))))))
theorem ok_halves (T : Txt K mg fd fdi) (hbs : ∀ p ∈ tfs.map (He.cT K), LamX.TabB base mg p.1 p.2) : FnOk P w K mg base (L2.CX P w) (4) (He.ga K "halves") (fd 20) ["node"] (spM ⟨K, ceOf K cds, feOf cds, tbs K tfs⟩ 1 (d_halves)) := fn_denD (k := 3) T.F_halves sc_halves rfl fun cdv hcd A outer s H E hr => by
    have tk := takes_of (X := cxOf (L2.CX P w) P w K mg base N_halves "halves" (defScope s_halves) (He.ga K "halves") cdv A outer s H E) rfl rfl rfl rfl
    have po := passes_of (X := cxOf (L2.CX P w) P w K mg base N_halves "halves" (defScope s_halves) (He.ga K "halves") cdv A outer s H E) rfl
    exact (dsn_cons (ds_asg (pg_tupA rfl (pgs_cons (pg_name (i := 2) sc_halves.nd rfl (by first | exact Or.inl rfl | exact Or.inr rfl)) (pgs_cons (pg_name (i := 3) sc_halves.nd rfl (by first | exact Or.inl rfl | exact Or.inr rfl)) pgs_nil))) (dg_tup (dgs_cons (dg_name 2) (dgs_cons (dg_name 3) dgs_nil))) (den_var 0)) (dsn_cons (ds_set 1 sc_halves.nd rfl (by first | exact Or.inl rfl | exact Or.inr rfl) (den_op op_addA (o_add false) (den_var 2) (den_call (ok_crown T hbs) (hr.mono (by decide)) (by rfl) T.g_crown T.F_crown.kp T.b_crown tk (den_cons (den_op op_sub o_sub (den_var 3) (den_var 2)) den_nil) rfl (len_cons len_nil)))) (dsn_one (ds_ret (den_tup (den_cons (den_tup (den_cons (den_var 2) (den_cons (den_var 1) den_nil))) (den_cons (den_tup (den_cons (den_var 1) (den_cons (den_var 3) den_nil))) den_nil)))))))
theorem ok__are_unlike (T : Txt K mg fd fdi) (hbs : ∀ p ∈ tfs.map (He.cT K), LamX.TabB base mg p.1 p.2) : FnOk P w K mg base (L2.CX P w) (11) (He.ga K "_are_unlike") (fd 21) ["sealer", "log", "other", "stretch"] (spM ⟨K, ceOf K cds, feOf cds, tbs K tfs⟩ 4 (d__are_unlike)) := fn_denD (k := 10) T.F__are_unlike sc__are_unlike rfl fun cdv hcd A outer s H E hr => by
    have tk := takes_of (X := cxOf (L2.CX P w) P w K mg base N__are_unlike "_are_unlike" (defScope s__are_unlike) (He.ga K "_are_unlike") cdv A outer s H E) rfl rfl rfl rfl
    have po := passes_of (X := cxOf (L2.CX P w) P w K mg base N__are_unlike "_are_unlike" (defScope s__are_unlike) (He.ga K "_are_unlike") cdv A outer s H E) rfl
    exact (dsn_one (ds_ret (den_cmp (op_neA hr.units) (o_eq true) (den_call (ok_seal_of_stretch T hbs) (hr.mono (by decide)) (by rfl) T.g_seal_of_stretch T.F_seal_of_stretch.kp T.b_seal_of_stretch tk (den_cons (den_var 0) (den_cons (den_var 1) (den_cons (den_var 3) den_nil))) rfl (len_cons (len_cons (len_cons len_nil)))) (den_call (ok_seal_of_stretch T hbs) (hr.mono (by decide)) (by rfl) T.g_seal_of_stretch T.F_seal_of_stretch.kp T.b_seal_of_stretch tk (den_cons (den_var 0) (den_cons (den_var 2) (den_cons (den_var 3) den_nil))) rfl (len_cons (len_cons (len_cons len_nil)))) (nomark _))))
theorem ok_search (T : Txt K mg fd fdi) (hbs : ∀ p ∈ tfs.map (He.cT K), LamX.TabB base mg p.1 p.2) : FnOk P w K mg base (L2.CX P w) (12) (He.ga K "search") (fd 22) ["sealer", "log", "other"] (spM ⟨K, ceOf K cds, feOf cds, tbs K tfs⟩ 3 (d_search)) := fn_denD (k := 11) T.F_search sc_search rfl fun cdv hcd A outer s H E hr => by
    have tk := takes_of (X := cxOf (L2.CX P w) P w K mg base N_search "search" (defScope s_search) (He.ga K "search") cdv A outer s H E) rfl rfl rfl rfl
    have po := passes_of (X := cxOf (L2.CX P w) P w K mg base N_search "search" (defScope s_search) (He.ga K "search") cdv A outer s H E) rfl
    exact (dsn_cons (ds_set 3 sc_search.nd rfl (by first | exact Or.inl rfl | exact Or.inr rfl) (den_bf (call_min2 rfl) o_min (by rfl) T.m_min PyProof.Rows.boot_min (den_cons (den_bf call_len o_len (by rfl) T.m_len PySem.boot_len (den_cons (den_var 1) den_nil)) (den_cons (den_bf call_len o_len (by rfl) T.m_len PySem.boot_len (den_cons (den_var 2) den_nil)) den_nil)))) (dsn_cons (ds_if (den_tcmp (op_eqA hr.units) (o_eq false) (den_var 3) den_int (nomark _)) (dsn_one (ds_ret (den_tup (den_cons (den_tup den_nil) (den_cons den_non den_nil))))) dsn_nil) (dsn_cons (ds_par 4 5 rfl sc_search.nd rfl rfl (by decide) rfl rfl (den_cons (den_lst true (den_cons (den_tup (den_cons den_int (den_cons (den_var 3) den_nil))) den_nil)) (den_cons (den_tup (den_cons den_int (den_cons (den_var 3) den_nil))) den_nil)) (by rfl)) (dsn_cons (ds_if (den_tnot (den_truth (den_call (ok__are_unlike T hbs) (hr.mono (by decide)) (by rfl) T.g__are_unlike T.F__are_unlike.kp T.b__are_unlike tk (den_cons (den_var 0) (den_cons (den_var 1) (den_cons (den_var 2) (den_cons (den_var 5) den_nil)))) rfl (len_cons (len_cons (len_cons (len_cons len_nil))))))) (dsn_one (ds_ret (den_tup (den_cons (den_bt call_tuple_of o_tuple (by rfl) T.m_tuple PyProof.Rows.boot_tuple (den_cons (den_var 4) den_nil)) (den_cons den_non den_nil))))) dsn_nil) (dsn_cons (ds_while 2000 po (den_tcmp op_gtA (o_order _ _) (den_op op_sub o_sub (den_ix (den_var 5) den_int) (den_ix (den_var 5) den_int)) den_int (nomark _)) (dsn_cons (ds_asg (pg_tupA rfl (pgs_cons (pg_name (i := 6) sc_search.nd rfl (by first | exact Or.inl rfl | exact Or.inr rfl)) (pgs_cons (pg_name (i := 7) sc_search.nd rfl (by first | exact Or.inl rfl | exact Or.inr rfl)) pgs_nil))) (dg_tup (dgs_cons (dg_name 6) (dgs_cons (dg_name 7) dgs_nil))) (den_call (ok_halves T hbs) (hr.mono (by decide)) (by rfl) T.g_halves T.F_halves.kp T.b_halves tk (den_cons (den_var 5) den_nil) rfl (len_cons len_nil))) (dsn_cons (ds_expr (den_app (den_var 4) (den_var 6))) (dsn_one (ds_set 5 sc_search.nd rfl (by first | exact Or.inl rfl | exact Or.inr rfl) (den_if (den_truth (den_call (ok__are_unlike T hbs) (hr.mono (by decide)) (by rfl) T.g__are_unlike T.F__are_unlike.kp T.b__are_unlike tk (den_cons (den_var 0) (den_cons (den_var 1) (den_cons (den_var 2) (den_cons (den_var 6) den_nil)))) rfl (len_cons (len_cons (len_cons (len_cons len_nil)))))) (den_var 6) (den_var 7))))))) (dsn_one (ds_ret (den_tup (den_cons (den_bt call_tuple_of o_tuple (by rfl) T.m_tuple PyProof.Rows.boot_tuple (den_cons (den_var 4) den_nil)) (den_cons (den_ix (den_var 5) den_int) den_nil))))))))))
theorem ok__law_box (T : Txt K mg fd fdi) (hbs : ∀ p ∈ tfs.map (He.cT K), LamX.TabB base mg p.1 p.2) : FnOk P w K mg base (L2.CX P w) (1) (He.ga K "_law_box") (fd 23) ["script", "k"] (spM ⟨K, ceOf K cds, feOf cds, tbs K tfs⟩ 2 (d__law_box)) := fn_denD (k := 0) T.F__law_box sc__law_box rfl fun cdv hcd A outer s H E hr => by
    have tk := takes_of (X := cxOf (L2.CX P w) P w K mg base N__law_box "_law_box" (defScope s__law_box) (He.ga K "_law_box") cdv A outer s H E) rfl rfl rfl rfl
    have po := passes_of (X := cxOf (L2.CX P w) P w K mg base N__law_box "_law_box" (defScope s__law_box) (He.ga K "_law_box") cdv A outer s H E) rfl
    exact (dsn_cons (ds_set 2 sc__law_box.nd rfl (by first | exact Or.inl rfl | exact Or.inr rfl) (den_if (den_tcmp op_ltA (o_order _ _) (den_var 1) (den_bf call_len o_len (by rfl) T.m_len PySem.boot_len (den_cons (den_var 0) den_nil)) (nomark _)) (den_ix (den_var 0) (den_var 1)) den_int)) (dsn_one (ds_ret (den_lst true (den_cons (den_op op_mulA (o_mul false) (den_bf call_abs o_abs (by rfl) T.m_abs PyProof.Rows.boot_abs (den_cons (den_var 2) den_nil)) (den_bt call_int1 o_int (by rfl) T.m_int PyProof.Rows.boot_int (den_cons (den_cmp op_geA (o_order _ _) (den_bf call_abs o_abs (by rfl) T.m_abs PyProof.Rows.boot_abs (den_cons (den_var 2) den_nil)) (den_op op_pow o_pow den_int den_int) (nomark _)) den_nil))) (den_cons (den_op op_addA (o_add false) (den_op op_addA (o_add false) (den_op op_modA o_modA (den_bt call_int1 o_int (by rfl) T.m_int PyProof.Rows.boot_int (den_cons (den_var 2) den_nil)) den_int) (den_op op_mulA (o_mul false) den_int (den_var 1))) den_int) (den_cons den_int den_nil)))))))
theorem ok__law_take (T : Txt K mg fd fdi) (hbs : ∀ p ∈ tfs.map (He.cT K), LamX.TabB base mg p.1 p.2) : FnOk P w K mg base (L2.CX P w) (1) (He.ga K "_law_take") (fd 24) ["urn", "low_so"] (spM ⟨K, ceOf K cds, feOf cds, tbs K tfs⟩ 2 (d__law_take)) := fn_denD (k := 0) T.F__law_take sc__law_take rfl fun cdv hcd A outer s H E hr => by
    have tk := takes_of (X := cxOf (L2.CX P w) P w K mg base N__law_take "_law_take" (defScope s__law_take) (He.ga K "_law_take") cdv A outer s H E) rfl rfl rfl rfl
    have po := passes_of (X := cxOf (L2.CX P w) P w K mg base N__law_take "_law_take" (defScope s__law_take) (He.ga K "_law_take") cdv A outer s H E) rfl
    exact (dsn_cons (ds_if (den_tcmp op_gtA (o_order _ _) (den_ix (den_var 0) den_int) den_int (nomark _)) (dsn_cons (ds_set 5 sc__law_take.nd rfl (by first | exact Or.inl rfl | exact Or.inr rfl) (den_op op_modA o_modA (den_bt call_int1 o_int (by rfl) T.m_int PyProof.Rows.boot_int (den_cons (den_ix (den_var 0) den_int) den_nil)) (den_var 1))) (dsn_cons (ds_sub (den_var 0) den_int (den_op op_divA o_divA (den_ix (den_var 0) den_int) (den_var 1))) (dsn_one (ds_ret (den_var 5))))) dsn_nil) (dsn_cons (ds_sub (den_var 0) den_int (den_op op_addA (o_add false) (den_ix (den_var 0) den_int) den_int)) (dsn_cons (ds_set 2 sc__law_take.nd rfl (by first | exact Or.inl rfl | exact Or.inr rfl) (den_op op_modA o_modA (den_bt call_int1 o_int (by rfl) T.m_int PyProof.Rows.boot_int (den_cons (den_op op_mulA (o_mul false) (den_op op_addA (o_add false) (den_ix (den_var 0) den_int) (den_op op_mulA (o_mul false) den_int (den_ix (den_var 0) den_int))) (den_op op_addA (o_add false) den_int (den_ix (den_var 0) den_int))) den_nil)) den_int)) (dsn_cons (ds_set 3 sc__law_take.nd rfl (by first | exact Or.inl rfl | exact Or.inr rfl) (den_op op_addA (o_add false) (den_op op_modA o_modA (den_bt call_int1 o_int (by rfl) T.m_int PyProof.Rows.boot_int (den_cons (den_var 2) den_nil)) den_int) den_int)) (dsn_cons (ds_set 4 sc__law_take.nd rfl (by first | exact Or.inl rfl | exact Or.inr rfl) (den_op op_modA o_modA (den_bt call_int1 o_int (by rfl) T.m_int PyProof.Rows.boot_int (den_cons (den_op op_mulA (o_mul false) (den_op op_addA (o_add false) (den_op op_addA (o_add false) (den_var 2) (den_ix (den_var 0) den_int)) (den_op op_divA o_divA (den_ix (den_var 0) den_int) den_int)) (den_var 3)) den_nil)) den_int)) (dsn_one (ds_ret (den_op op_modA o_modA (den_bt call_int1 o_int (by rfl) T.m_int PyProof.Rows.boot_int (den_cons (den_op op_divA o_divA (den_op op_modA o_modA (den_bt call_int1 o_int (by rfl) T.m_int PyProof.Rows.boot_int (den_cons (den_op op_addA (o_add false) (den_op op_mulA (o_mul false) (den_var 4) den_int) (den_var 2)) den_nil)) den_int) den_int) den_nil)) (den_var 1)))))))))
theorem ok__law_cells (T : Txt K mg fd fdi) (hbs : ∀ p ∈ tfs.map (He.cT K), LamX.TabB base mg p.1 p.2) : FnOk P w K mg base (L2.CX P w) (1) (He.ga K "_law_cells") (fd 25) ["script", "roof_so"] (spM ⟨K, ceOf K cds, feOf cds, tbs K tfs⟩ 2 (d__law_cells)) := fn_denD (k := 0) T.F__law_cells sc__law_cells rfl fun cdv hcd A outer s H E hr => by
    have tk := takes_of (X := cxOf (L2.CX P w) P w K mg base N__law_cells "_law_cells" (defScope s__law_cells) (He.ga K "_law_cells") cdv A outer s H E) rfl rfl rfl rfl
    have po := passes_of (X := cxOf (L2.CX P w) P w K mg base N__law_cells "_law_cells" (defScope s__law_cells) (He.ga K "_law_cells") cdv A outer s H E) rfl
    exact (dsn_cons (ds_set 2 sc__law_cells.nd rfl (by first | exact Or.inl rfl | exact Or.inr rfl) (den_or (den_bt call_list_of (o_list true) (by rfl) T.m_list PyProof.Rows.boot_list (den_cons (den_sl false (den_var 0) den_onone (den_osome (den_var 1))) den_nil)) (den_one (den_lst true (den_cons den_int den_nil))))) (dsn_cons (ds_for po rfl (di_enum (by rfl) T.m_enumerate (den_cons (den_sl false (den_var 0) (den_osome (den_var 1)) (den_osome den_int)) den_nil)) (pg_tupA rfl (pgs_cons (pg_name (i := 3) sc__law_cells.nd rfl (by first | exact Or.inl rfl | exact Or.inr rfl)) (pgs_cons (pg_name (i := 4) sc__law_cells.nd rfl (by first | exact Or.inl rfl | exact Or.inr rfl)) pgs_nil))) (dg_tup (dgs_cons (dg_name 3) (dgs_cons (dg_name 4) dgs_nil))) (dsn_cons (ds_set 5 sc__law_cells.nd rfl (by first | exact Or.inl rfl | exact Or.inr rfl) (den_op op_modA o_modA (den_bt call_int1 o_int (by rfl) T.m_int PyProof.Rows.boot_int (den_cons (den_var 3) den_nil)) (den_var 1))) (dsn_one (ds_sub (den_var 2) (den_var 5) (den_op op_addA (o_add false) (den_ix (den_var 2) (den_var 5)) (den_op op_mulA (o_mul false) (den_var 4) (den_op op_addA (o_add false) (den_var 3) den_int))))))) (dsn_one (ds_ret (den_var 2)))))
theorem ok__law_of (T : Txt K mg fd fdi) (hbs : ∀ p ∈ tfs.map (He.cT K), LamX.TabB base mg p.1 p.2) : FnOk P w K mg base (L2.CX P w) (2) (He.ga K "_law_of") (fd 26) ["urn", "some_so"] (spM ⟨K, ceOf K cds, feOf cds, tbs K tfs⟩ 2 (d__law_of)) := fn_denD (k := 1) T.F__law_of sc__law_of rfl fun cdv hcd A outer s H E hr => by
    have tk := takes_of (X := cxOf (L2.CX P w) P w K mg base N__law_of "_law_of" (defScope s__law_of) (He.ga K "_law_of") cdv A outer s H E) rfl rfl rfl rfl
    have po := passes_of (X := cxOf (L2.CX P w) P w K mg base N__law_of "_law_of" (defScope s__law_of) (He.ga K "_law_of") cdv A outer s H E) rfl
    exact (dsn_one (ds_ret (den_ix (den_var 1) (den_call (ok__law_take T hbs) (hr.mono (by decide)) (by rfl) T.g__law_take T.F__law_take.kp T.b__law_take tk (den_cons (den_var 0) (den_cons (den_bf call_len o_len (by rfl) T.m_len PySem.boot_len (den_cons (den_var 1) den_nil)) den_nil)) rfl (len_cons (len_cons len_nil))))))
theorem okr__law_same (T : Txt K mg fd fdi) (hbs : ∀ p ∈ tfs.map (He.cT K), LamX.TabB base mg p.1 p.2) : ∀ n : Nat, FnOk P w K mg base (L2.CX P w) (2 * n + 1) (He.ga K "_law_same") (fd 27) ["near", "goal"] (spM ⟨K, ceOf K cds, feOf cds, tbs K tfs⟩ 2 ((r__law_same n 0)))
  | 0 => fn_no
  | n + 1 => by
    obtain IH0 := okr__law_same T hbs n
    exact (show FnOk P w K mg base (L2.CX P w) (2 * n + 2 + 1) (He.ga K "_law_same") (fd 27) ["near", "goal"] (spM ⟨K, ceOf K cds, feOf cds, tbs K tfs⟩ 2 (dFn 4 (b__law_same (r__law_same n 0)))) from fn_denD (k := 2 * n + 2) T.F__law_same sc__law_same rfl fun cdv hcd A outer s H E hr => by
          have tk := takes_of (X := cxOf (L2.CX P w) P w K mg base N__law_same "_law_same" (defScope s__law_same) (He.ga K "_law_same") cdv A outer s H E) rfl rfl rfl rfl
          have po := passes_of (X := cxOf (L2.CX P w) P w K mg base N__law_same "_law_same" (defScope s__law_same) (He.ga K "_law_same") cdv A outer s H E) rfl
          exact (dsn_cons (ds_if (den_truth (den_isiT [.list, .tuple] (by rfl) T.m_isinstance (den_var 1) (pat_cons (pe_kd .list (by rfl) T.m_list PyProof.Rows.boot_list) (pat_cons (pe_kd .tuple (by rfl) T.m_tuple PyProof.Rows.boot_tuple) pat_nil)) (by decide))) (dsn_cons (ds_if (den_w (den_tor (den_tcmp (op_neA hr.units) (o_eq true) (den_isi1 .list (by rfl) T.m_isinstance (den_var 0) (pe_kd .list (by rfl) T.m_list PyProof.Rows.boot_list)) (den_isi1 .list (by rfl) T.m_isinstance (den_var 1) (pe_kd .list (by rfl) T.m_list PyProof.Rows.boot_list)) (nomark _)) (den_or1 (den_tcmp (op_neA hr.units) (o_eq true) (den_isi1 .tuple (by rfl) T.m_isinstance (den_var 0) (pe_kd .tuple (by rfl) T.m_tuple PyProof.Rows.boot_tuple)) (den_isi1 .tuple (by rfl) T.m_isinstance (den_var 1) (pe_kd .tuple (by rfl) T.m_tuple PyProof.Rows.boot_tuple)) (nomark _))))) (dsn_one (ds_ret den_bl)) dsn_nil) (dsn_one (ds_ret (den_and (den_cmp (op_eqA hr.units) (o_eq false) (den_bf call_len o_len (by rfl) T.m_len PySem.boot_len (den_cons (den_var 0) den_nil)) (den_bf call_len o_len (by rfl) T.m_len PySem.boot_len (den_cons (den_var 1) den_nil)) (nomark _)) (den_one (den_bf (cr_all rfl) o_all (by rfl) T.m_all PyProof.Rows.boot_all (den_cons (den_lc false (own := [("mine_so", 2), ("own", 3)]) rfl sc__law_same.nd (di_zipG (by rfl) T.m_zip (den_cons (den_var 0) (den_cons (den_var 1) den_nil))) (blkOk_by (own := [("mine_so", 2), ("own", 3)]) (N := N__law_same) (sc := defScope s__law_same) (by decide +kernel)) (dg_tup (dgs_cons (dg_name 2) (dgs_cons (dg_name 3) dgs_nil))) (by decide) (fun _ _ _ _ _ => (pg_tupA rfl (pgs_cons (pg_name (i := 2) sc__law_same.nd rfl (by first | exact Or.inl rfl | exact Or.inr rfl)) (pgs_cons (pg_name (i := 3) sc__law_same.nd rfl (by first | exact Or.inl rfl | exact Or.inr rfl)) pgs_nil)))) (fun _ _ _ _ _ => dts_nil) (fun _ _ _ _ _ => (den_call IH0 (hr.mono (by omega)) (by rfl) T.g__law_same T.F__law_same.kp T.b__law_same takes0 (den_cons (den_var 2) (den_cons (den_var 3) den_nil)) rfl (len_cons (len_cons len_nil))))) den_nil))))))) dsn_nil) (dsn_cons (ds_if (den_w (den_tor (den_tcmp op_isN o_is (den_var 1) den_non (nomark _)) (den_or1 (den_truth (den_isiT [.bool, .str] (by rfl) T.m_isinstance (den_var 1) (pat_cons (pe_kd .bool (by rfl) T.m_bool PyProof.Rows.boot_bool) (pat_cons (pe_kd .str (by rfl) T.m_str PyProof.Rows.boot_str) pat_nil)) (by decide)))))) (dsn_one (ds_ret (den_and (den_cmp (op_eqA hr.units) (o_eq false) (den_var 0) (den_var 1) (nomark _)) (den_and (den_cmp (op_eqA hr.units) (o_eq false) (den_isi1 .bool (by rfl) T.m_isinstance (den_var 0) (pe_kd .bool (by rfl) T.m_bool PyProof.Rows.boot_bool)) (den_isi1 .bool (by rfl) T.m_isinstance (den_var 1) (pe_kd .bool (by rfl) T.m_bool PyProof.Rows.boot_bool)) (nomark _)) (den_one (den_cmp (op_eqA hr.units) (o_eq false) (den_cmp op_isN o_is (den_var 0) den_non (nomark _)) (den_cmp op_isN o_is (den_var 1) den_non (nomark _)) (nomark _))))))) dsn_nil) (dsn_one (ds_ret (den_and (den_isi1 .int (by rfl) T.m_isinstance (den_var 0) (pe_kd .int (by rfl) T.m_int PyProof.Rows.boot_int)) (den_and (den_not (den_isi1 .bool (by rfl) T.m_isinstance (den_var 0) (pe_kd .bool (by rfl) T.m_bool PyProof.Rows.boot_bool))) (den_one (den_cmp (op_eqA hr.units) (o_eq false) (den_var 0) (den_var 1) (nomark _)))))))))).mono (by omega)
theorem ok__law_same (T : Txt K mg fd fdi) (hbs : ∀ p ∈ tfs.map (He.cT K), LamX.TabB base mg p.1 p.2) : FnOk P w K mg base (L2.CX P w) (25) (He.ga K "_law_same") (fd 27) ["near", "goal"] (spM ⟨K, ceOf K cds, feOf cds, tbs K tfs⟩ 2 (d__law_same)) := (okr__law_same T hbs 12)
theorem ok__law_seal (T : Txt K mg fd fdi) (hbs : ∀ p ∈ tfs.map (He.cT K), LamX.TabB base mg p.1 p.2) : FnOk P w K mg base (L2.CX P w) (1) (He.ga K "_law_seal") (fd 28) ["sealer", "matter"] (spM ⟨K, ceOf K cds, feOf cds, tbs K tfs⟩ 2 (d__law_seal)) := fn_denD (k := 0) T.F__law_seal sc__law_seal rfl fun cdv hcd A outer s H E hr => by
    have tk := takes_of (X := cxOf (L2.CX P w) P w K mg base N__law_seal "_law_seal" (defScope s__law_seal) (He.ga K "_law_seal") cdv A outer s H E) rfl rfl rfl rfl
    have po := passes_of (X := cxOf (L2.CX P w) P w K mg base N__law_seal "_law_seal" (defScope s__law_seal) (He.ga K "_law_seal") cdv A outer s H E) rfl
    exact (dsn_cons (ds_if (den_tcmp (op_eqA hr.units) (o_eq false) (den_ix (den_var 0) den_int) (den_str (l := [119, 104, 111, 108, 101])) (nomark _)) (dsn_one (ds_ret (den_var 1))) dsn_nil) (dsn_cons (ds_if (den_tcmp (op_eqA hr.units) (o_eq false) (den_ix (den_var 1) den_int) (den_str (l := [110, 111, 110, 101])) (nomark _)) (dsn_one (ds_ret (den_op op_modA o_modA (den_ix (den_var 0) den_int) (den_ix (den_var 0) den_int)))) dsn_nil) (dsn_cons (ds_if (den_tcmp (op_eqA hr.units) (o_eq false) (den_ix (den_var 1) den_int) (den_str (l := [110, 111, 100, 101])) (nomark _)) (dsn_one (ds_ret (den_op op_modA o_modA (den_op op_addA (o_add false) (den_op op_addA (o_add false) (den_op op_addA (o_add false) (den_op op_mulA (o_mul false) den_int (den_ix (den_var 1) den_int)) (den_op op_mulA (o_mul false) den_int (den_ix (den_var 1) den_int))) (den_ix (den_var 0) den_int)) den_int) (den_ix (den_var 0) den_int)))) dsn_nil) (dsn_cons (ds_set 2 sc__law_seal.nd rfl (by first | exact Or.inl rfl | exact Or.inr rfl) (den_op op_addA (o_add false) (den_ix (den_var 0) den_int) den_int)) (dsn_cons (ds_for po rfl (di_any (den_ix (den_var 1) den_int)) (pg_name (i := 3) sc__law_seal.nd rfl (by first | exact Or.inl rfl | exact Or.inr rfl)) (dg_name 3) (dsn_one (ds_set 2 sc__law_seal.nd rfl (by first | exact Or.inl rfl | exact Or.inr rfl) (den_op op_addA (o_add false) (den_op op_mulA (o_mul false) den_int (den_var 2)) (den_bf call_ord o_ord (by rfl) T.m_ord PyProof.Rows.boot_ord (den_cons (den_var 3) den_nil)))))) (dsn_one (ds_ret (den_op op_modA o_modA (den_var 2) (den_ix (den_var 0) den_int)))))))))
theorem ok__law_crown (T : Txt K mg fd fdi) (hbs : ∀ p ∈ tfs.map (He.cT K), LamX.TabB base mg p.1 p.2) : FnOk P w K mg base (L2.CX P w) (1) (He.ga K "_law_crown") (fd 29) ["n"] (spM ⟨K, ceOf K cds, feOf cds, tbs K tfs⟩ 1 (d__law_crown)) := fn_denD (k := 0) T.F__law_crown sc__law_crown rfl fun cdv hcd A outer s H E hr => by
    have tk := takes_of (X := cxOf (L2.CX P w) P w K mg base N__law_crown "_law_crown" (defScope s__law_crown) (He.ga K "_law_crown") cdv A outer s H E) rfl rfl rfl rfl
    have po := passes_of (X := cxOf (L2.CX P w) P w K mg base N__law_crown "_law_crown" (defScope s__law_crown) (He.ga K "_law_crown") cdv A outer s H E) rfl
    exact (dsn_cons (ds_set 1 sc__law_crown.nd rfl (by first | exact Or.inl rfl | exact Or.inr rfl) den_int) (dsn_cons (ds_while 2000 po (den_tcmp op_ltA (o_order _ _) (den_op op_mulA (o_mul false) den_int (den_var 1)) (den_var 0) (nomark _)) (dsn_one (ds_set 1 sc__law_crown.nd rfl (by first | exact Or.inl rfl | exact Or.inr rfl) (den_op op_mulA (o_mul false) den_int (den_var 1))))) (dsn_one (ds_ret (den_var 1)))))
theorem okr__law_root (T : Txt K mg fd fdi) (hbs : ∀ p ∈ tfs.map (He.cT K), LamX.TabB base mg p.1 p.2) : ∀ n : Nat, FnOk P w K mg base (L2.CX P w) (2 * n + 2) (He.ga K "_law_root") (fd 30) ["sealer", "deal"] (spM ⟨K, ceOf K cds, feOf cds, tbs K tfs⟩ 2 ((r__law_root n 0)))
  | 0 => fn_no
  | n + 1 => by
    obtain IH0 := okr__law_root T hbs n
    exact (show FnOk P w K mg base (L2.CX P w) (2 * n + 3 + 1) (He.ga K "_law_root") (fd 30) ["sealer", "deal"] (spM ⟨K, ceOf K cds, feOf cds, tbs K tfs⟩ 2 (dFn 3 (b__law_root (r__law_root n 0)))) from fn_denD (k := 2 * n + 3) T.F__law_root sc__law_root rfl fun cdv hcd A outer s H E hr => by
          have tk := takes_of (X := cxOf (L2.CX P w) P w K mg base N__law_root "_law_root" (defScope s__law_root) (He.ga K "_law_root") cdv A outer s H E) rfl rfl rfl rfl
          have po := passes_of (X := cxOf (L2.CX P w) P w K mg base N__law_root "_law_root" (defScope s__law_root) (He.ga K "_law_root") cdv A outer s H E) rfl
          exact (dsn_cons (ds_if (den_tcmp op_ltA (o_order _ _) (den_bf call_len o_len (by rfl) T.m_len PySem.boot_len (den_cons (den_var 1) den_nil)) den_int (nomark _)) (dsn_one (ds_ret (den_call (ok__law_seal T hbs) (hr.mono (by omega)) (by rfl) T.g__law_seal T.F__law_seal.kp T.b__law_seal tk (den_cons (den_var 0) (den_cons (den_if (den_tcmp (op_eqA hr.units) (o_eq false) (den_bf call_len o_len (by rfl) T.m_len PySem.boot_len (den_cons (den_var 1) den_nil)) den_int (nomark _)) (den_tup (den_cons (den_str (l := [110, 111, 110, 101])) den_nil)) (den_tup (den_cons (den_str (l := [108, 101, 97, 102])) (den_cons (den_ix (den_var 1) den_int) den_nil)))) den_nil)) rfl (len_cons (len_cons len_nil))))) dsn_nil) (dsn_cons (ds_set 2 sc__law_root.nd rfl (by first | exact Or.inl rfl | exact Or.inr rfl) (den_call (ok__law_crown T hbs) (hr.mono (by omega)) (by rfl) T.g__law_crown T.F__law_crown.kp T.b__law_crown tk (den_cons (den_bf call_len o_len (by rfl) T.m_len PySem.boot_len (den_cons (den_var 1) den_nil)) den_nil) rfl (len_cons len_nil))) (dsn_one (ds_ret (den_call (ok__law_seal T hbs) (hr.mono (by omega)) (by rfl) T.g__law_seal T.F__law_seal.kp T.b__law_seal tk (den_cons (den_var 0) (den_cons (den_tup (den_cons (den_str (l := [110, 111, 100, 101])) (den_cons (den_call IH0 (hr.mono (by omega)) (by rfl) T.g__law_root T.F__law_root.kp T.b__law_root tk (den_cons (den_var 0) (den_cons (den_sl false (den_var 1) den_onone (den_osome (den_var 2))) den_nil)) rfl (len_cons (len_cons len_nil))) (den_cons (den_call IH0 (hr.mono (by omega)) (by rfl) T.g__law_root T.F__law_root.kp T.b__law_root tk (den_cons (den_var 0) (den_cons (den_sl false (den_var 1) (den_osome (den_var 2)) den_onone) den_nil)) rfl (len_cons (len_cons len_nil))) den_nil)))) den_nil)) rfl (len_cons (len_cons len_nil)))))))).mono (by omega)
theorem ok__law_root (T : Txt K mg fd fdi) (hbs : ∀ p ∈ tfs.map (He.cT K), LamX.TabB base mg p.1 p.2) : FnOk P w K mg base (L2.CX P w) (62) (He.ga K "_law_root") (fd 30) ["sealer", "deal"] (spM ⟨K, ceOf K cds, feOf cds, tbs K tfs⟩ 2 (d__law_root)) := (okr__law_root T hbs 30)
theorem ok__law_sides (T : Txt K mg fd fdi) (hbs : ∀ p ∈ tfs.map (He.cT K), LamX.TabB base mg p.1 p.2) : FnOk P w K mg base (L2.CX P w) (2) (He.ga K "_law_sides") (fd 31) ["n", "k"] (spM ⟨K, ceOf K cds, feOf cds, tbs K tfs⟩ 2 (d__law_sides)) := fn_denD (k := 1) T.F__law_sides sc__law_sides rfl fun cdv hcd A outer s H E hr => by
    have tk := takes_of (X := cxOf (L2.CX P w) P w K mg base N__law_sides "_law_sides" (defScope s__law_sides) (He.ga K "_law_sides") cdv A outer s H E) rfl rfl rfl rfl
    have po := passes_of (X := cxOf (L2.CX P w) P w K mg base N__law_sides "_law_sides" (defScope s__law_sides) (He.ga K "_law_sides") cdv A outer s H E) rfl
    exact (dsn_cons (ds_par3 2 3 4 rfl sc__law_sides.nd rfl rfl rfl (by decide) (by decide) (by decide) rfl rfl rfl (den_cons den_int (den_cons (den_var 0) (den_cons (den_lst false den_nil) den_nil))) (by rfl)) (dsn_cons (ds_while 2000 po (den_tcmp op_gtA (o_order _ _) (den_op op_sub o_sub (den_var 3) (den_var 2)) den_int (nomark _)) (dsn_cons (ds_set 5 sc__law_sides.nd rfl (by first | exact Or.inl rfl | exact Or.inr rfl) (den_op op_addA (o_add false) (den_var 2) (den_call (ok__law_crown T hbs) (hr.mono (by decide)) (by rfl) T.g__law_crown T.F__law_crown.kp T.b__law_crown tk (den_cons (den_op op_sub o_sub (den_var 3) (den_var 2)) den_nil) rfl (len_cons len_nil)))) (dsn_one (ds_if (den_tcmp op_ltA (o_order _ _) (den_var 1) (den_var 5) (nomark _)) (dsn_cons (ds_set 4 sc__law_sides.nd rfl (by first | exact Or.inl rfl | exact Or.inr rfl) (den_op op_addA (o_add false) (den_lst false (den_cons (den_tup (den_cons den_bl (den_cons (den_tup (den_cons (den_var 5) (den_cons (den_var 3) den_nil))) den_nil))) den_nil)) (den_var 4))) (dsn_one (ds_set 3 sc__law_sides.nd rfl (by first | exact Or.inl rfl | exact Or.inr rfl) (den_var 5)))) (dsn_cons (ds_set 4 sc__law_sides.nd rfl (by first | exact Or.inl rfl | exact Or.inr rfl) (den_op op_addA (o_add false) (den_lst false (den_cons (den_tup (den_cons den_bl (den_cons (den_tup (den_cons (den_var 2) (den_cons (den_var 5) den_nil))) den_nil))) den_nil)) (den_var 4))) (dsn_one (ds_set 2 sc__law_sides.nd rfl (by first | exact Or.inl rfl | exact Or.inr rfl) (den_var 5)))))))) (dsn_one (ds_ret (den_var 4)))))
theorem ok__law_first (T : Txt K mg fd fdi) (hbs : ∀ p ∈ tfs.map (He.cT K), LamX.TabB base mg p.1 p.2) : FnOk P w K mg base (L2.CX P w) (1) (He.ga K "_law_first") (fd 32) ["deal", "far"] (spM ⟨K, ceOf K cds, feOf cds, tbs K tfs⟩ 2 (d__law_first)) := fn_denD (k := 0) T.F__law_first sc__law_first rfl fun cdv hcd A outer s H E hr => by
    have tk := takes_of (X := cxOf (L2.CX P w) P w K mg base N__law_first "_law_first" (defScope s__law_first) (He.ga K "_law_first") cdv A outer s H E) rfl rfl rfl rfl
    have po := passes_of (X := cxOf (L2.CX P w) P w K mg base N__law_first "_law_first" (defScope s__law_first) (He.ga K "_law_first") cdv A outer s H E) rfl
    exact (dsn_cons (ds_for po rfl (di_range1 (by rfl) T.m_range (den_cons (den_bf (call_max2 rfl) o_max (by rfl) T.m_max PyProof.Rows.boot_max (den_cons (den_bf call_len o_len (by rfl) T.m_len PySem.boot_len (den_cons (den_var 0) den_nil)) (den_cons (den_bf call_len o_len (by rfl) T.m_len PySem.boot_len (den_cons (den_var 1) den_nil)) den_nil))) den_nil)) (pg_name (i := 2) sc__law_first.nd rfl (by first | exact Or.inl rfl | exact Or.inr rfl)) (dg_name 2) (dsn_one (ds_if (den_tcmp (op_neA hr.units) (o_eq true) (den_sl false (den_var 0) (den_osome (den_var 2)) (den_osome (den_op op_addA (o_add false) (den_var 2) den_int))) (den_sl false (den_var 1) (den_osome (den_var 2)) (den_osome (den_op op_addA (o_add false) (den_var 2) den_int))) (nomark _)) (dsn_one (ds_ret (den_var 2))) dsn_nil))) (dsn_one (ds_ret den_non)))
theorem ok__law_sealer (T : Txt K mg fd fdi) (hbs : ∀ p ∈ tfs.map (He.cT K), LamX.TabB base mg p.1 p.2) : FnOk P w K mg base (L2.CX P w) (3) (He.ga K "_law_sealer") (fd 33) ["urn"] (spM ⟨K, ceOf K cds, feOf cds, tbs K tfs⟩ 1 (d__law_sealer)) := fn_denD (k := 2) T.F__law_sealer sc__law_sealer rfl fun cdv hcd A outer s H E hr => by
    have tk := takes_of (X := cxOf (L2.CX P w) P w K mg base N__law_sealer "_law_sealer" (defScope s__law_sealer) (He.ga K "_law_sealer") cdv A outer s H E) rfl rfl rfl rfl
    have po := passes_of (X := cxOf (L2.CX P w) P w K mg base N__law_sealer "_law_sealer" (defScope s__law_sealer) (He.ga K "_law_sealer") cdv A outer s H E) rfl
    exact (dsn_one (ds_ret (den_call (ok__law_of T hbs) (hr.mono (by decide)) (by rfl) T.g__law_of T.F__law_of.kp T.b__law_of tk (den_cons (den_var 0) (den_cons (den_lst false (den_cons (den_tup (den_cons (den_str (l := [119, 104, 111, 108, 101])) den_nil)) (den_cons (den_tup (den_cons (den_str (l := [119, 104, 111, 108, 101])) den_nil)) (den_cons (den_tup (den_cons (den_str (l := [119, 101, 97, 107])) (den_cons den_int (den_cons den_int den_nil)))) (den_cons (den_tup (den_cons (den_str (l := [119, 101, 97, 107])) (den_cons den_int (den_cons den_int den_nil)))) (den_cons (den_tup (den_cons (den_str (l := [119, 101, 97, 107])) (den_cons den_int (den_cons den_int den_nil)))) (den_cons (den_tup (den_cons (den_str (l := [119, 101, 97, 107])) (den_cons den_int (den_cons den_int den_nil)))) (den_cons (den_tup (den_cons (den_str (l := [119, 101, 97, 107])) (den_cons den_int (den_cons den_int den_nil)))) den_nil)))))))) den_nil)) rfl (len_cons (len_cons len_nil)))))
theorem ok__law_log (T : Txt K mg fd fdi) (hbs : ∀ p ∈ tfs.map (He.cT K), LamX.TabB base mg p.1 p.2) : FnOk P w K mg base (L2.CX P w) (3) (He.ga K "_law_log") (fd 34) ["urn", "most_so"] (spM ⟨K, ceOf K cds, feOf cds, tbs K tfs⟩ 2 (d__law_log)) := fn_denD (k := 2) T.F__law_log sc__law_log rfl fun cdv hcd A outer s H E hr => by
    have tk := takes_of (X := cxOf (L2.CX P w) P w K mg base N__law_log "_law_log" (defScope s__law_log) (He.ga K "_law_log") cdv A outer s H E) rfl rfl rfl rfl
    have po := passes_of (X := cxOf (L2.CX P w) P w K mg base N__law_log "_law_log" (defScope s__law_log) (He.ga K "_law_log") cdv A outer s H E) rfl
    exact (dsn_one (ds_ret (den_bt call_tuple_of o_tuple (by rfl) T.m_tuple PyProof.Rows.boot_tuple (den_cons (den_lc false (own := [("lap", 2)]) rfl sc__law_log.nd (di_range1 (by rfl) T.m_range (den_cons (den_call (ok__law_take T hbs) (hr.mono (by decide)) (by rfl) T.g__law_take T.F__law_take.kp T.b__law_take tk (den_cons (den_var 0) (den_cons (den_op op_addA (o_add false) (den_var 1) den_int) den_nil)) rfl (len_cons (len_cons len_nil))) den_nil)) (blkOk_by (own := [("lap", 2)]) (N := N__law_log) (sc := defScope s__law_log) (by decide +kernel)) (dg_name 2) (by decide) (fun _ _ _ _ _ => (pg_name (i := 2) sc__law_log.nd rfl (by first | exact Or.inl rfl | exact Or.inr rfl))) (fun _ _ _ _ _ => dts_nil) (fun _ _ _ _ _ => (den_call (ok__law_of T hbs) (hr.mono (by decide)) (by rfl) T.g__law_of T.F__law_of.kp T.b__law_of takes0 (den_cons (den_var 0) (den_cons (den_lst false (den_cons (den_str (l := [])) (den_cons (den_str (l := [97])) (den_cons (den_str (l := [98])) (den_cons (den_str (l := [99])) (den_cons (den_str (l := [97, 98])) (den_cons (den_str (l := [97, 32, 98])) (den_cons (den_str (l := [55])) (den_cons (den_str (l := [126, 32, 57])) (den_cons (den_str (l := [98, 111, 98, 32, 49, 50])) (den_cons (den_str (l := [97])) den_nil))))))))))) den_nil)) rfl (len_cons (len_cons len_nil))))) den_nil))))
theorem ok__law_front_right (T : Txt K mg fd fdi) (hbs : ∀ p ∈ tfs.map (He.cT K), LamX.TabB base mg p.1 p.2) : FnOk P w K mg base (L2.CX P w) (26) (He.ga K "_law_front_right") (fd 35) [] (spM ⟨K, ceOf K cds, feOf cds, tbs K tfs⟩ 0 (d__law_front_right)) := fn_denD (k := 25) T.F__law_front_right sc__law_front_right rfl fun cdv hcd A outer s H E hr => by
    have tk := takes_of (X := cxOf (L2.CX P w) P w K mg base N__law_front_right "_law_front_right" (defScope s__law_front_right) (He.ga K "_law_front_right") cdv A outer s H E) rfl rfl rfl rfl
    have po := passes_of (X := cxOf (L2.CX P w) P w K mg base N__law_front_right "_law_front_right" (defScope s__law_front_right) (He.ga K "_law_front_right") cdv A outer s H E) rfl
    exact (dsn_cons (ds_asg (pg_tupA rfl (pgs_cons (pg_name (i := 1) sc__law_front_right.nd rfl (by first | exact Or.inl rfl | exact Or.inr rfl)) (pgs_cons (pg_name (i := 2) sc__law_front_right.nd rfl (by first | exact Or.inl rfl | exact Or.inr rfl)) pgs_nil))) (dg_tup (dgs_cons (dg_name 1) (dgs_cons (dg_name 2) dgs_nil))) (den_tup (den_cons (den_tup (den_cons (den_str (l := [119, 104, 111, 108, 101])) den_nil)) (den_cons (den_tup (den_cons (den_str (l := [97])) (den_cons (den_str (l := [98])) (den_cons (den_str (l := [99])) (den_cons (den_str (l := [100])) (den_cons (den_str (l := [101])) den_nil)))))) den_nil)))) (dsn_cons (ds_set 0 sc__law_front_right.nd rfl (by first | exact Or.inl rfl | exact Or.inr rfl) (den_lst false (den_cons (den_call (ok_search T hbs) (hr.mono (by decide)) (by rfl) T.g_search T.F_search.kp T.b_search tk (den_cons (den_var 1) (den_cons (den_var 2) (den_cons (den_tup (den_cons (den_str (l := [120])) (den_cons (den_str (l := [98])) (den_cons (den_str (l := [99])) (den_cons (den_str (l := [100])) (den_cons (den_str (l := [120])) den_nil)))))) den_nil))) rfl (len_cons (len_cons (len_cons len_nil)))) (den_cons (den_call (ok_search T hbs) (hr.mono (by decide)) (by rfl) T.g_search T.F_search.kp T.b_search tk (den_cons (den_var 1) (den_cons (den_var 2) (den_cons (den_op op_addA (o_add false) (den_sl false (den_var 2) den_onone (den_osome den_int)) (den_tup (den_cons (den_str (l := [120])) (den_cons (den_str (l := [101])) den_nil)))) den_nil))) rfl (len_cons (len_cons (len_cons len_nil)))) (den_cons (den_call (ok_search T hbs) (hr.mono (by decide)) (by rfl) T.g_search T.F_search.kp T.b_search tk (den_cons (den_var 1) (den_cons (den_var 2) (den_cons (den_op op_addA (o_add false) (den_sl false (den_var 2) den_onone (den_osome den_int)) (den_tup (den_cons (den_str (l := [120])) den_nil))) den_nil))) rfl (len_cons (len_cons (len_cons len_nil)))) (den_cons (den_call (ok_search T hbs) (hr.mono (by decide)) (by rfl) T.g_search T.F_search.kp T.b_search tk (den_cons (den_var 1) (den_cons (den_var 2) (den_cons (den_sl false (den_var 2) den_onone (den_osome den_int)) den_nil))) rfl (len_cons (len_cons (len_cons len_nil)))) (den_cons (den_call (ok_search T hbs) (hr.mono (by decide)) (by rfl) T.g_search T.F_search.kp T.b_search tk (den_cons (den_var 1) (den_cons (den_var 2) (den_cons (den_tup den_nil) den_nil))) rfl (len_cons (len_cons (len_cons len_nil)))) den_nil))))))) (dsn_one (ds_ret (den_call (ok__law_same T hbs) (hr.mono (by decide)) (by rfl) T.g__law_same T.F__law_same.kp T.b__law_same tk (den_cons (den_var 0) (den_cons (den_lst false (den_cons (den_tup (den_cons (den_tup (den_cons (den_tup (den_cons den_int (den_cons den_int den_nil))) (den_cons (den_tup (den_cons den_int (den_cons den_int den_nil))) (den_cons (den_tup (den_cons den_int (den_cons den_int den_nil))) (den_cons (den_tup (den_cons den_int (den_cons den_int den_nil))) den_nil))))) (den_cons den_int den_nil))) (den_cons (den_tup (den_cons (den_tup (den_cons (den_tup (den_cons den_int (den_cons den_int den_nil))) (den_cons (den_tup (den_cons den_int (den_cons den_int den_nil))) (den_cons (den_tup (den_cons den_int (den_cons den_int den_nil))) (den_cons (den_tup (den_cons den_int (den_cons den_int den_nil))) den_nil))))) (den_cons den_int den_nil))) (den_cons (den_tup (den_cons (den_tup (den_cons (den_tup (den_cons den_int (den_cons den_int den_nil))) (den_cons (den_tup (den_cons den_int (den_cons den_int den_nil))) den_nil))) (den_cons den_int den_nil))) (den_cons (den_tup (den_cons (den_tup (den_cons (den_tup (den_cons den_int (den_cons den_int den_nil))) den_nil)) (den_cons den_non den_nil))) (den_cons (den_tup (den_cons (den_tup den_nil) (den_cons den_non den_nil))) den_nil)))))) den_nil)) rfl (len_cons (len_cons len_nil)))))))
theorem okr__law_found (T : Txt K mg fd fdi) (hbs : ∀ p ∈ tfs.map (He.cT K), LamX.TabB base mg p.1 p.2) : ∀ n : Nat, FnOk P w K mg base (L2.CX P w) (2 * n + 63) (He.ga K "_law_found") (fd 36) ["sealer", "deal", "far", "low_so", "n"] (spM ⟨K, ceOf K cds, feOf cds, tbs K tfs⟩ 5 ((r__law_found n 0)))
  | 0 => fn_no
  | n + 1 => by
    obtain IH0 := okr__law_found T hbs n
    exact (show FnOk P w K mg base (L2.CX P w) (2 * n + 64 + 1) (He.ga K "_law_found") (fd 36) ["sealer", "deal", "far", "low_so", "n"] (spM ⟨K, ceOf K cds, feOf cds, tbs K tfs⟩ 5 (dFn 8 (b__law_found (r__law_found n 0)))) from fn_denD (k := 2 * n + 64) T.F__law_found sc__law_found rfl fun cdv hcd A outer s H E hr => by
          have tk := takes_of (X := cxOf (L2.CX P w) P w K mg base N__law_found "_law_found" (defScope s__law_found) (He.ga K "_law_found") cdv A outer s H E) rfl rfl rfl rfl
          have po := passes_of (X := cxOf (L2.CX P w) P w K mg base N__law_found "_law_found" (defScope s__law_found) (He.ga K "_law_found") cdv A outer s H E) rfl
          exact (dsn_cons (ds_if (den_tcmp (op_eqA hr.units) (o_eq false) (den_op op_sub o_sub (den_var 4) (den_var 3)) den_int (nomark _)) (dsn_one (ds_ret (den_tup (den_cons (den_lst false den_nil) (den_cons (den_var 3) den_nil))))) dsn_nil) (dsn_cons (ds_set 5 sc__law_found.nd rfl (by first | exact Or.inl rfl | exact Or.inr rfl) (den_op op_addA (o_add false) (den_var 3) (den_call (ok__law_crown T hbs) (hr.mono (by omega)) (by rfl) T.g__law_crown T.F__law_crown.kp T.b__law_crown tk (den_cons (den_op op_sub o_sub (den_var 4) (den_var 3)) den_nil) rfl (len_cons len_nil)))) (dsn_cons (ds_if (den_tcmp (op_neA hr.units) (o_eq true) (den_call (ok__law_root T hbs) (hr.mono (by omega)) (by rfl) T.g__law_root T.F__law_root.kp T.b__law_root tk (den_cons (den_var 0) (den_cons (den_sl false (den_var 1) (den_osome (den_var 3)) (den_osome (den_var 5))) den_nil)) rfl (len_cons (len_cons len_nil))) (den_call (ok__law_root T hbs) (hr.mono (by omega)) (by rfl) T.g__law_root T.F__law_root.kp T.b__law_root tk (den_cons (den_var 0) (den_cons (den_sl false (den_var 2) (den_osome (den_var 3)) (den_osome (den_var 5))) den_nil)) rfl (len_cons (len_cons len_nil))) (nomark _)) (dsn_one (ds_asg (pg_tupA rfl (pgs_cons (pg_name (i := 6) sc__law_found.nd rfl (by first | exact Or.inl rfl | exact Or.inr rfl)) (pgs_cons (pg_name (i := 7) sc__law_found.nd rfl (by first | exact Or.inl rfl | exact Or.inr rfl)) pgs_nil))) (dg_tup (dgs_cons (dg_name 6) (dgs_cons (dg_name 7) dgs_nil))) (den_call IH0 (hr.mono (by omega)) (by rfl) T.g__law_found T.F__law_found.kp T.b__law_found tk (den_cons (den_var 0) (den_cons (den_var 1) (den_cons (den_var 2) (den_cons (den_var 3) (den_cons (den_var 5) den_nil))))) rfl (len_cons (len_cons (len_cons (len_cons (len_cons len_nil)))))))) (dsn_one (ds_asg (pg_tupA rfl (pgs_cons (pg_name (i := 6) sc__law_found.nd rfl (by first | exact Or.inl rfl | exact Or.inr rfl)) (pgs_cons (pg_name (i := 7) sc__law_found.nd rfl (by first | exact Or.inl rfl | exact Or.inr rfl)) pgs_nil))) (dg_tup (dgs_cons (dg_name 6) (dgs_cons (dg_name 7) dgs_nil))) (den_call IH0 (hr.mono (by omega)) (by rfl) T.g__law_found T.F__law_found.kp T.b__law_found tk (den_cons (den_var 0) (den_cons (den_var 1) (den_cons (den_var 2) (den_cons (den_var 5) (den_cons (den_var 4) den_nil))))) rfl (len_cons (len_cons (len_cons (len_cons (len_cons len_nil))))))))) (dsn_one (ds_ret (den_tup (den_cons (den_op op_addA (o_add false) (den_lst false (den_cons (den_tup (den_cons (den_var 3) (den_cons (den_var 5) den_nil))) den_nil)) (den_var 6)) (den_cons (den_var 7) den_nil))))))))).mono (by omega)
theorem ok__law_found (T : Txt K mg fd fdi) (hbs : ∀ p ∈ tfs.map (He.cT K), LamX.TabB base mg p.1 p.2) : FnOk P w K mg base (L2.CX P w) (123) (He.ga K "_law_found") (fd 36) ["sealer", "deal", "far", "low_so", "n"] (spM ⟨K, ceOf K cds, feOf cds, tbs K tfs⟩ 5 (d__law_found)) := (okr__law_found T hbs 30)
theorem ok__law_right (T : Txt K mg fd fdi) (hbs : ∀ p ∈ tfs.map (He.cT K), LamX.TabB base mg p.1 p.2) : FnOk P w K mg base (L2.CX P w) (124) (He.ga K "_law_right") (fd 37) ["urn"] (spM ⟨K, ceOf K cds, feOf cds, tbs K tfs⟩ 1 (d__law_right)) := fn_denD (k := 123) T.F__law_right sc__law_right rfl fun cdv hcd A outer s H E hr => by
    have tk := takes_of (X := cxOf (L2.CX P w) P w K mg base N__law_right "_law_right" (defScope s__law_right) (He.ga K "_law_right") cdv A outer s H E) rfl rfl rfl rfl
    have po := passes_of (X := cxOf (L2.CX P w) P w K mg base N__law_right "_law_right" (defScope s__law_right) (He.ga K "_law_right") cdv A outer s H E) rfl
    exact (dsn_cons (ds_for po rfl (di_range1 (by rfl) T.m_range (den_cons den_int den_nil)) (pg_name (i := 1) sc__law_right.nd rfl (by first | exact Or.inl rfl | exact Or.inr rfl)) (dg_name 1) (dsn_cons (ds_par 5 6 rfl sc__law_right.nd rfl rfl (by decide) rfl rfl (den_cons (den_call (ok__law_sealer T hbs) (hr.mono (by decide)) (by rfl) T.g__law_sealer T.F__law_sealer.kp T.b__law_sealer tk (den_cons (den_var 0) den_nil) rfl (len_cons len_nil)) (den_cons (den_call (ok__law_log T hbs) (hr.mono (by decide)) (by rfl) T.g__law_log T.F__law_log.kp T.b__law_log tk (den_cons (den_var 0) (den_cons den_int den_nil)) rfl (len_cons (len_cons len_nil))) den_nil)) (by rfl)) (dsn_cons (ds_set 2 sc__law_right.nd rfl (by first | exact Or.inl rfl | exact Or.inr rfl) (den_op op_addA (o_add true) (den_bt call_list_of (o_list false) (by rfl) T.m_list PyProof.Rows.boot_list (den_cons (den_var 6) den_nil)) (den_bt call_list_of (o_list false) (by rfl) T.m_list PyProof.Rows.boot_list (den_cons (den_call (ok__law_log T hbs) (hr.mono (by decide)) (by rfl) T.g__law_log T.F__law_log.kp T.b__law_log tk (den_cons (den_var 0) (den_cons den_int den_nil)) rfl (len_cons (len_cons len_nil))) den_nil)))) (dsn_cons (ds_for po rfl (di_range1 (by rfl) T.m_range (den_cons (den_call (ok__law_take T hbs) (hr.mono (by decide)) (by rfl) T.g__law_take T.F__law_take.kp T.b__law_take tk (den_cons (den_var 0) (den_cons den_int den_nil)) rfl (len_cons (len_cons len_nil))) den_nil)) (pg_name (i := 3) sc__law_right.nd rfl (by first | exact Or.inl rfl | exact Or.inr rfl)) (dg_name 3) (dsn_one (ds_if (den_tcmp (op_neA hr.units) (o_eq true) (den_var 2) (den_lst false den_nil) (nomark _)) (dsn_one (ds_sub (den_var 2) (den_call (ok__law_take T hbs) (hr.mono (by decide)) (by rfl) T.g__law_take T.F__law_take.kp T.b__law_take tk (den_cons (den_var 0) (den_cons (den_bf call_len o_len (by rfl) T.m_len PySem.boot_len (den_cons (den_var 2) den_nil)) den_nil)) rfl (len_cons (len_cons len_nil))) (den_call (ok__law_of T hbs) (hr.mono (by decide)) (by rfl) T.g__law_of T.F__law_of.kp T.b__law_of tk (den_cons (den_var 0) (den_cons (den_lst false (den_cons (den_str (l := [97])) (den_cons (den_str (l := [98])) (den_cons (den_str (l := [])) (den_cons (den_str (l := [113])) (den_cons (den_str (l := [97, 32, 98])) den_nil)))))) den_nil)) rfl (len_cons (len_cons len_nil))))) dsn_nil))) (dsn_cons (ds_set 2 sc__law_right.nd rfl (by first | exact Or.inl rfl | exact Or.inr rfl) (den_bt call_tuple_of o_tuple (by rfl) T.m_tuple PyProof.Rows.boot_tuple (den_cons (den_sl false (den_var 2) den_onone (den_osome (den_bf (call_max2 rfl) o_max (by rfl) T.m_max PyProof.Rows.boot_max (den_cons den_int (den_cons (den_op op_sub o_sub (den_bf call_len o_len (by rfl) T.m_len PySem.boot_len (den_cons (den_var 2) den_nil)) (den_call (ok__law_take T hbs) (hr.mono (by decide)) (by rfl) T.g__law_take T.F__law_take.kp T.b__law_take tk (den_cons (den_var 0) (den_cons den_int den_nil)) rfl (len_cons (len_cons len_nil)))) den_nil))))) den_nil))) (dsn_cons (ds_par 7 8 rfl sc__law_right.nd rfl rfl (by decide) rfl rfl (den_cons (den_bf (call_min2 rfl) o_min (by rfl) T.m_min PyProof.Rows.boot_min (den_cons (den_bf call_len o_len (by rfl) T.m_len PySem.boot_len (den_cons (den_var 6) den_nil)) (den_cons (den_bf call_len o_len (by rfl) T.m_len PySem.boot_len (den_cons (den_var 2) den_nil)) den_nil))) (den_cons (den_call (ok__law_first T hbs) (hr.mono (by decide)) (by rfl) T.g__law_first T.F__law_first.kp T.b__law_first tk (den_cons (den_var 6) (den_cons (den_var 2) den_nil)) rfl (len_cons (len_cons len_nil))) den_nil)) (by rfl)) (dsn_cons (ds_set 4 sc__law_right.nd rfl (by first | exact Or.inl rfl | exact Or.inr rfl) (den_tup (den_cons (den_tup den_nil) (den_cons den_non den_nil)))) (dsn_cons (ds_if (den_w (den_tand (den_tcmp op_gtA (o_order _ _) (den_var 7) den_int (nomark _)) (den_and1 (den_tcmp (op_eqA hr.units) (o_eq false) (den_call (ok__law_root T hbs) (hr.mono (by decide)) (by rfl) T.g__law_root T.F__law_root.kp T.b__law_root tk (den_cons (den_var 5) (den_cons (den_sl false (den_var 6) den_onone (den_osome (den_var 7))) den_nil)) rfl (len_cons (len_cons len_nil))) (den_call (ok__law_root T hbs) (hr.mono (by decide)) (by rfl) T.g__law_root T.F__law_root.kp T.b__law_root tk (den_cons (den_var 5) (den_cons (den_sl false (den_var 2) den_onone (den_osome (den_var 7))) den_nil)) rfl (len_cons (len_cons len_nil))) (nomark _))))) (dsn_one (ds_set 4 sc__law_right.nd rfl (by first | exact Or.inl rfl | exact Or.inr rfl) (den_tup (den_cons (den_tup (den_cons (den_tup (den_cons den_int (den_cons (den_var 7) den_nil))) den_nil)) (den_cons den_non den_nil))))) (dsn_one (ds_if (den_tcmp op_gtA (o_order _ _) (den_var 7) den_int (nomark _)) (dsn_cons (ds_asg (pg_tupA rfl (pgs_cons (pg_name (i := 9) sc__law_right.nd rfl (by first | exact Or.inl rfl | exact Or.inr rfl)) (pgs_cons (pg_name (i := 10) sc__law_right.nd rfl (by first | exact Or.inl rfl | exact Or.inr rfl)) pgs_nil))) (dg_tup (dgs_cons (dg_name 9) (dgs_cons (dg_name 10) dgs_nil))) (den_call (ok__law_found T hbs) (hr.mono (by decide)) (by rfl) T.g__law_found T.F__law_found.kp T.b__law_found tk (den_cons (den_var 5) (den_cons (den_var 6) (den_cons (den_var 2) (den_cons den_int (den_cons (den_var 7) den_nil))))) rfl (len_cons (len_cons (len_cons (len_cons (len_cons len_nil))))))) (dsn_cons (ds_set 4 sc__law_right.nd rfl (by first | exact Or.inl rfl | exact Or.inr rfl) (den_tup (den_cons (den_op op_addA (o_add false) (den_tup (den_cons (den_tup (den_cons den_int (den_cons (den_var 7) den_nil))) den_nil)) (den_bt call_tuple_of o_tuple (by rfl) T.m_tuple PyProof.Rows.boot_tuple (den_cons (den_var 9) den_nil))) (den_cons (den_var 10) den_nil)))) (dsn_one (ds_if (den_w (den_tor (den_tcmp (op_neA hr.units) (o_eq true) (den_bf call_len o_len (by rfl) T.m_len PySem.boot_len (den_cons (den_ix (den_var 4) den_int) den_nil)) (den_op op_addA (o_add false) den_int (den_bf call_len o_len (by rfl) T.m_len PySem.boot_len (den_cons (den_call (ok__law_sides T hbs) (hr.mono (by decide)) (by rfl) T.g__law_sides T.F__law_sides.kp T.b__law_sides tk (den_cons (den_var 7) (den_cons (den_var 10) den_nil)) rfl (len_cons (len_cons len_nil))) den_nil))) (nomark _)) (den_or1 (den_tcmp (op_eqA hr.units) (o_eq false) (den_ix (den_var 6) (den_var 10)) (den_ix (den_var 2) (den_var 10)) (nomark _))))) (dsn_one (ds_ret den_bl)) dsn_nil)))) dsn_nil))) (dsn_cons (ds_if (den_tnot (den_truth (den_call (ok__law_same T hbs) (hr.mono (by decide)) (by rfl) T.g__law_same T.F__law_same.kp T.b__law_same tk (den_cons (den_lst false (den_cons (den_call (ok_search T hbs) (hr.mono (by decide)) (by rfl) T.g_search T.F_search.kp T.b_search tk (den_cons (den_var 5) (den_cons (den_var 6) (den_cons (den_var 2) den_nil))) rfl (len_cons (len_cons (len_cons len_nil)))) (den_cons (den_call (ok_search T hbs) (hr.mono (by decide)) (by rfl) T.g_search T.F_search.kp T.b_search tk (den_cons (den_var 5) (den_cons (den_bt call_list_of (o_list false) (by rfl) T.m_list PyProof.Rows.boot_list (den_cons (den_var 2) den_nil)) (den_cons (den_bt call_list_of (o_list false) (by rfl) T.m_list PyProof.Rows.boot_list (den_cons (den_var 6) den_nil)) den_nil))) rfl (len_cons (len_cons (len_cons len_nil)))) den_nil))) (den_cons (den_lst false (den_cons (den_var 4) (den_cons (den_var 4) den_nil))) den_nil)) rfl (len_cons (len_cons len_nil))))) (dsn_one (ds_ret den_bl)) dsn_nil) (dsn_one (ds_if (den_w (den_tand (den_tcmp (op_eqA hr.units) (o_eq false) (den_var 5) (den_tup (den_cons (den_str (l := [119, 104, 111, 108, 101])) den_nil)) (nomark _)) (den_and1 (den_tcmp (op_neA hr.units) (o_eq true) (den_ix (den_var 4) den_int) (den_if (den_w (den_tand (den_tcmp op_notN o_isn (den_var 8) den_non (nomark _)) (den_and1 (den_tcmp op_ltA (o_order _ _) (den_var 8) (den_var 7) (nomark _))))) (den_var 8) den_non) (nomark _))))) (dsn_one (ds_ret den_bl)) dsn_nil))))))))))) (dsn_one (ds_ret den_bl)))
theorem ok_law (T : Txt K mg fd fdi) (hbs : ∀ p ∈ tfs.map (He.cT K), LamX.TabB base mg p.1 p.2) : FnOk P w K mg base (L2.CX P w) (125) (He.ga K "law") (fd 38) ["script"] (spM ⟨K, ceOf K cds, feOf cds, tbs K tfs⟩ 1 (d_law)) := fn_denD (k := 124) T.F_law sc_law rfl fun cdv hcd A outer s H E hr => by
    have tk := takes_of (X := cxOf (L2.CX P w) P w K mg base N_law "law" (defScope s_law) (He.ga K "law") cdv A outer s H E) rfl rfl rfl rfl
    have po := passes_of (X := cxOf (L2.CX P w) P w K mg base N_law "law" (defScope s_law) (He.ga K "law") cdv A outer s H E) rfl
    exact (dsn_cons (ds_if (den_tnot (den_truth (den_call0 (ok__law_front_right T hbs) (hr.mono (by decide)) (by rfl) T.g__law_front_right T.F__law_front_right.kp T.b__law_front_right tk))) (dsn_one (ds_ret den_bl)) dsn_nil) (dsn_one (ds_ret (den_call (ok__law_right T hbs) (hr.mono (by decide)) (by rfl) T.g__law_right T.F__law_right.kp T.b__law_right tk (den_cons (den_call (ok__law_box T hbs) (hr.mono (by decide)) (by rfl) T.g__law_box T.F__law_box.kp T.b__law_box tk (den_cons (den_call (ok__law_cells T hbs) (hr.mono (by decide)) (by rfl) T.g__law_cells T.F__law_cells.kp T.b__law_cells tk (den_cons (den_var 0) (den_cons den_int den_nil)) rfl (len_cons (len_cons len_nil))) (den_cons den_int den_nil)) rfl (len_cons (len_cons len_nil))) den_nil) rfl (len_cons len_nil)))))
end
/-! ### the head -/
def l__START : List He.Dv := [.int 1779033703, .int 3144134277, .int 1013904242, .int 2773480762, .int 1359893119, .int 2600822924, .int 528734635, .int 1541459225]
def l__STEPS : List He.Dv := [.int 1116352408, .int 1899447441, .int 3049323471, .int 3921009573, .int 961987163, .int 1508970993, .int 2453635748, .int 2870763221, .int 3624381080, .int 310598401, .int 607225278, .int 1426881987, .int 1925078388, .int 2162078206, .int 2614888103, .int 3248222580, .int 3835390401, .int 4022224774, .int 264347078, .int 604807628, .int 770255983, .int 1249150122, .int 1555081692, .int 1996064986, .int 2554220882, .int 2821834349, .int 2952996808, .int 3210313671, .int 3336571891, .int 3584528711, .int 113926993, .int 338241895, .int 666307205, .int 773529912, .int 1294757372, .int 1396182291, .int 1695183700, .int 1986661051, .int 2177026350, .int 2456956037, .int 2730485921, .int 2820302411, .int 3259730800, .int 3345764771, .int 3516065817, .int 3600352804, .int 4094571909, .int 275423344, .int 430227734, .int 506948616, .int 659060556, .int 883997877, .int 958139571, .int 1322822218, .int 1537002063, .int 1747873779, .int 1955562222, .int 2024104815, .int 2227730452, .int 2361852424, .int 2428436474, .int 2756734187, .int 3204031479, .int 3329325298]
def fas : List He.Fa := (.glo "_octets_of" :: .glo "_filled_up" :: .glo "_quad_at" :: .glo "_turns" :: .glo "_quads_of" :: .glo "_state_behind" :: .glo "sha" :: .glo "hex_text" :: .glo "hex_numbers" :: .glo "codes_of" :: .glo "_sha_numbers" :: .glo "_weak_seal" :: .glo "sealed" :: .glo "crown" :: .glo "_longer" :: .glo "tops_of" :: .glo "_head" :: .glo "head_of" :: .glo "root" :: .glo "seal_of_stretch" :: .glo "halves" :: .glo "_are_unlike" :: .glo "search" :: .glo "_law_box" :: .glo "_law_take" :: .glo "_law_cells" :: .glo "_law_of" :: .glo "_law_same" :: .glo "_law_seal" :: .glo "_law_crown" :: .glo "_law_root" :: .glo "_law_sides" :: .glo "_law_first" :: .glo "_law_sealer" :: .glo "_law_log" :: .glo "_law_front_right" :: .glo "_law_found" :: .glo "_law_right" :: .glo "law" :: .glo "NoPlace" :: .glo "CanNot" :: .glo "Unfit" :: .free "abs" :: .free "all" :: .free "bool" :: .free "enumerate" :: .free "int" :: .free "isinstance" :: .free "len" :: .free "list" :: .free "max" :: .free "min" :: .free "ord" :: .free "range" :: .free "str" :: .free "tuple" :: .free "zip" :: .str "_DIGITS" "0123456789abcdef" :: .int "_ONES" 4294967295 :: .glo "_START" :: .glo "_STEPS" :: [] : List He.Fa)
def e__octets_of : He.DefD := ⟨("_octets_of", none), "_octets_of", "_octets_of", defArgs s__octets_of, defBody s__octets_of, defScope s__octets_of, [], []⟩
def e__filled_up : He.DefD := ⟨("_filled_up", none), "_filled_up", "_filled_up", defArgs s__filled_up, defBody s__filled_up, defScope s__filled_up, [], []⟩
def e__quad_at : He.DefD := ⟨("_quad_at", none), "_quad_at", "_quad_at", defArgs s__quad_at, defBody s__quad_at, defScope s__quad_at, [], []⟩
def e__turns : He.DefD := ⟨("_turns", none), "_turns", "_turns", defArgs s__turns, defBody s__turns, defScope s__turns, [], []⟩
def e__quads_of : He.DefD := ⟨("_quads_of", none), "_quads_of", "_quads_of", defArgs s__quads_of, defBody s__quads_of, defScope s__quads_of, [], []⟩
def e__state_behind : He.DefD := ⟨("_state_behind", none), "_state_behind", "_state_behind", defArgs s__state_behind, defBody s__state_behind, defScope s__state_behind, [], []⟩
def e_sha : He.DefD := ⟨("sha", none), "sha", "sha", defArgs s_sha, defBody s_sha, defScope s_sha, [], []⟩
def e_hex_text : He.DefD := ⟨("hex_text", none), "hex_text", "hex_text", defArgs s_hex_text, defBody s_hex_text, defScope s_hex_text, [], []⟩
def e_hex_numbers : He.DefD := ⟨("hex_numbers", none), "hex_numbers", "hex_numbers", defArgs s_hex_numbers, defBody s_hex_numbers, defScope s_hex_numbers, [], []⟩
def e_codes_of : He.DefD := ⟨("codes_of", none), "codes_of", "codes_of", defArgs s_codes_of, defBody s_codes_of, defScope s_codes_of, [], []⟩
def e__sha_numbers : He.DefD := ⟨("_sha_numbers", none), "_sha_numbers", "_sha_numbers", defArgs s__sha_numbers, defBody s__sha_numbers, defScope s__sha_numbers, [], []⟩
def e__weak_seal : He.DefD := ⟨("_weak_seal", none), "_weak_seal", "_weak_seal", defArgs s__weak_seal, defBody s__weak_seal, defScope s__weak_seal, [], []⟩
def e_sealed : He.DefD := ⟨("sealed", none), "sealed", "sealed", defArgs s_sealed, defBody s_sealed, defScope s_sealed, [], []⟩
def e_crown : He.DefD := ⟨("crown", none), "crown", "crown", defArgs s_crown, defBody s_crown, defScope s_crown, [], []⟩
def e__longer : He.DefD := ⟨("_longer", none), "_longer", "_longer", defArgs s__longer, defBody s__longer, defScope s__longer, [], []⟩
def e_tops_of : He.DefD := ⟨("tops_of", none), "tops_of", "tops_of", defArgs s_tops_of, defBody s_tops_of, defScope s_tops_of, [], []⟩
def e__head : He.DefD := ⟨("_head", none), "_head", "_head", defArgs s__head, defBody s__head, defScope s__head, [], []⟩
def e_head_of : He.DefD := ⟨("head_of", none), "head_of", "head_of", defArgs s_head_of, defBody s_head_of, defScope s_head_of, [], []⟩
def e_root : He.DefD := ⟨("root", none), "root", "root", defArgs s_root, defBody s_root, defScope s_root, [], []⟩
def e_seal_of_stretch : He.DefD := ⟨("seal_of_stretch", none), "seal_of_stretch", "seal_of_stretch", defArgs s_seal_of_stretch, defBody s_seal_of_stretch, defScope s_seal_of_stretch, [], []⟩
def e_halves : He.DefD := ⟨("halves", none), "halves", "halves", defArgs s_halves, defBody s_halves, defScope s_halves, [], []⟩
def e__are_unlike : He.DefD := ⟨("_are_unlike", none), "_are_unlike", "_are_unlike", defArgs s__are_unlike, defBody s__are_unlike, defScope s__are_unlike, [], []⟩
def e_search : He.DefD := ⟨("search", none), "search", "search", defArgs s_search, defBody s_search, defScope s_search, [], []⟩
def e__law_box : He.DefD := ⟨("_law_box", none), "_law_box", "_law_box", defArgs s__law_box, defBody s__law_box, defScope s__law_box, [], []⟩
def e__law_take : He.DefD := ⟨("_law_take", none), "_law_take", "_law_take", defArgs s__law_take, defBody s__law_take, defScope s__law_take, [], []⟩
def e__law_cells : He.DefD := ⟨("_law_cells", none), "_law_cells", "_law_cells", defArgs s__law_cells, defBody s__law_cells, defScope s__law_cells, [], []⟩
def e__law_of : He.DefD := ⟨("_law_of", none), "_law_of", "_law_of", defArgs s__law_of, defBody s__law_of, defScope s__law_of, [], []⟩
def e__law_same : He.DefD := ⟨("_law_same", none), "_law_same", "_law_same", defArgs s__law_same, defBody s__law_same, defScope s__law_same, [], []⟩
def e__law_seal : He.DefD := ⟨("_law_seal", none), "_law_seal", "_law_seal", defArgs s__law_seal, defBody s__law_seal, defScope s__law_seal, [], []⟩
def e__law_crown : He.DefD := ⟨("_law_crown", none), "_law_crown", "_law_crown", defArgs s__law_crown, defBody s__law_crown, defScope s__law_crown, [], []⟩
def e__law_root : He.DefD := ⟨("_law_root", none), "_law_root", "_law_root", defArgs s__law_root, defBody s__law_root, defScope s__law_root, [], []⟩
def e__law_sides : He.DefD := ⟨("_law_sides", none), "_law_sides", "_law_sides", defArgs s__law_sides, defBody s__law_sides, defScope s__law_sides, [], []⟩
def e__law_first : He.DefD := ⟨("_law_first", none), "_law_first", "_law_first", defArgs s__law_first, defBody s__law_first, defScope s__law_first, [], []⟩
def e__law_sealer : He.DefD := ⟨("_law_sealer", none), "_law_sealer", "_law_sealer", defArgs s__law_sealer, defBody s__law_sealer, defScope s__law_sealer, [], []⟩
def e__law_log : He.DefD := ⟨("_law_log", none), "_law_log", "_law_log", defArgs s__law_log, defBody s__law_log, defScope s__law_log, [], []⟩
def e__law_front_right : He.DefD := ⟨("_law_front_right", none), "_law_front_right", "_law_front_right", defArgs s__law_front_right, defBody s__law_front_right, defScope s__law_front_right, [], []⟩
def e__law_found : He.DefD := ⟨("_law_found", none), "_law_found", "_law_found", defArgs s__law_found, defBody s__law_found, defScope s__law_found, [], []⟩
def e__law_right : He.DefD := ⟨("_law_right", none), "_law_right", "_law_right", defArgs s__law_right, defBody s__law_right, defScope s__law_right, [], []⟩
def e_law : He.DefD := ⟨("law", none), "law", "law", defArgs s_law, defBody s_law, defScope s_law, [], []⟩
def e_I0 : He.DefD := ⟨("NoPlace", some "__init__"), "__init__", "NoPlace.__init__", defArgs s_I0, defBody s_I0, defScope s_I0, [], []⟩
def e_I1 : He.DefD := ⟨("CanNot", some "__init__"), "__init__", "CanNot.__init__", defArgs s_I1, defBody s_I1, defScope s_I1, [], []⟩
def e_I2 : He.DefD := ⟨("Unfit", some "__init__"), "__init__", "Unfit.__init__", defArgs s_I2, defBody s_I2, defScope s_I2, [], []⟩
def fns : List He.DefD := (e__octets_of :: e__filled_up :: e__quad_at :: e__turns :: e__quads_of :: e__state_behind :: e_sha :: e_hex_text :: e_hex_numbers :: e_codes_of :: e__sha_numbers :: e__weak_seal :: e_sealed :: e_crown :: e__longer :: e_tops_of :: e__head :: e_head_of :: e_root :: e_seal_of_stretch :: e_halves :: e__are_unlike :: e_search :: e__law_box :: e__law_take :: e__law_cells :: e__law_of :: e__law_same :: e__law_seal :: e__law_crown :: e__law_root :: e__law_sides :: e__law_first :: e__law_sealer :: e__law_log :: e__law_front_right :: e__law_found :: e__law_right :: e_law :: e_I0 :: e_I1 :: e_I2 :: [] : List He.DefD)
def exs (K : PySem.W.Frag) : Bool := clsB K cds && (He.tupB K "_START" l__START && (He.tupB K "_STEPS" l__STEPS))
abbrev RR : PySem.W.OpenRow := PySem.W.OpenLaw.row PySem.Challenge.rw_leafway_k28_whole_unlike_places_found_by
abbrev hk : PySem.W.Hook := He.hookX 6 fas fns [] tfs exs
def ob (s : PySem.W.SharedT) : He.AlX := He.obsX 6 fas fns [] tfs exs (HandSHeadRun.getT s)
theorem ob_eq (s : PySem.W.SharedT) : ob s = hk.obs s.abs := He.obsX_eq (HandSHeadRun.getT_eq s)
set_option maxHeartbeats 0 in
theorem run (w : World) : HandSHeadRun.RunEq RR (PySem.W.view RR.prog [52]) hk ob 3000 ("NoPlace" :: "CanNot" :: "Unfit" :: "_DIGITS" :: "_ONES" :: "_START" :: "_STEPS" :: "sha" :: "hex_text" :: "hex_numbers" :: "codes_of" :: "_filled_up" :: "_octets_of" :: "_state_behind" :: "_quads_of" :: "_quad_at" :: "_turns" :: "sealed" :: "_sha_numbers" :: "_weak_seal" :: "crown" :: "root" :: "head_of" :: "seal_of_stretch" :: "tops_of" :: "_longer" :: "_head" :: "halves" :: "search" :: "_are_unlike" :: "_law_box" :: "_law_take" :: "_law_cells" :: "_law_of" :: "_law_same" :: "_law_seal" :: "_law_crown" :: "_law_root" :: "_law_sides" :: "_law_first" :: "_law_sealer" :: "_law_log" :: "_law_front_right" :: "_law_found" :: "_law_right" :: [] : List Str) w := by
  intro os
  kernel_rfl
theorem txt {K : PySem.W.Frag} {h : Heap} {mg : Str → Option Value} {w : World} (X : K.In h) (G : h.Ns mainGlobals mg) (c : He.SaysX fas fns [] tfs exs w h K) : ∃ fd fdi : Nat → FuncData, Txt K mg fd fdi := by
  have cd := c.t.d
  obtain ⟨fd0, F0⟩ := cd.def_ 0 (d := e__octets_of) rfl
  obtain ⟨fd1, F1⟩ := cd.def_ 1 (d := e__filled_up) rfl
  obtain ⟨fd2, F2⟩ := cd.def_ 2 (d := e__quad_at) rfl
  obtain ⟨fd3, F3⟩ := cd.def_ 3 (d := e__turns) rfl
  obtain ⟨fd4, F4⟩ := cd.def_ 4 (d := e__quads_of) rfl
  obtain ⟨fd5, F5⟩ := cd.def_ 5 (d := e__state_behind) rfl
  obtain ⟨fd6, F6⟩ := cd.def_ 6 (d := e_sha) rfl
  obtain ⟨fd7, F7⟩ := cd.def_ 7 (d := e_hex_text) rfl
  obtain ⟨fd8, F8⟩ := cd.def_ 8 (d := e_hex_numbers) rfl
  obtain ⟨fd9, F9⟩ := cd.def_ 9 (d := e_codes_of) rfl
  obtain ⟨fd10, F10⟩ := cd.def_ 10 (d := e__sha_numbers) rfl
  obtain ⟨fd11, F11⟩ := cd.def_ 11 (d := e__weak_seal) rfl
  obtain ⟨fd12, F12⟩ := cd.def_ 12 (d := e_sealed) rfl
  obtain ⟨fd13, F13⟩ := cd.def_ 13 (d := e_crown) rfl
  obtain ⟨fd14, F14⟩ := cd.def_ 14 (d := e__longer) rfl
  obtain ⟨fd15, F15⟩ := cd.def_ 15 (d := e_tops_of) rfl
  obtain ⟨fd16, F16⟩ := cd.def_ 16 (d := e__head) rfl
  obtain ⟨fd17, F17⟩ := cd.def_ 17 (d := e_head_of) rfl
  obtain ⟨fd18, F18⟩ := cd.def_ 18 (d := e_root) rfl
  obtain ⟨fd19, F19⟩ := cd.def_ 19 (d := e_seal_of_stretch) rfl
  obtain ⟨fd20, F20⟩ := cd.def_ 20 (d := e_halves) rfl
  obtain ⟨fd21, F21⟩ := cd.def_ 21 (d := e__are_unlike) rfl
  obtain ⟨fd22, F22⟩ := cd.def_ 22 (d := e_search) rfl
  obtain ⟨fd23, F23⟩ := cd.def_ 23 (d := e__law_box) rfl
  obtain ⟨fd24, F24⟩ := cd.def_ 24 (d := e__law_take) rfl
  obtain ⟨fd25, F25⟩ := cd.def_ 25 (d := e__law_cells) rfl
  obtain ⟨fd26, F26⟩ := cd.def_ 26 (d := e__law_of) rfl
  obtain ⟨fd27, F27⟩ := cd.def_ 27 (d := e__law_same) rfl
  obtain ⟨fd28, F28⟩ := cd.def_ 28 (d := e__law_seal) rfl
  obtain ⟨fd29, F29⟩ := cd.def_ 29 (d := e__law_crown) rfl
  obtain ⟨fd30, F30⟩ := cd.def_ 30 (d := e__law_root) rfl
  obtain ⟨fd31, F31⟩ := cd.def_ 31 (d := e__law_sides) rfl
  obtain ⟨fd32, F32⟩ := cd.def_ 32 (d := e__law_first) rfl
  obtain ⟨fd33, F33⟩ := cd.def_ 33 (d := e__law_sealer) rfl
  obtain ⟨fd34, F34⟩ := cd.def_ 34 (d := e__law_log) rfl
  obtain ⟨fd35, F35⟩ := cd.def_ 35 (d := e__law_front_right) rfl
  obtain ⟨fd36, F36⟩ := cd.def_ 36 (d := e__law_found) rfl
  obtain ⟨fd37, F37⟩ := cd.def_ 37 (d := e__law_right) rfl
  obtain ⟨fd38, F38⟩ := cd.def_ 38 (d := e_law) rfl
  obtain ⟨gd0, G0⟩ := cd.def_ 39 (d := e_I0) rfl
  obtain ⟨gd1, G1⟩ := cd.def_ 40 (d := e_I1) rfl
  obtain ⟨gd2, G2⟩ := cd.def_ 41 (d := e_I2) rfl
  obtain ⟨x0, x1, x2⟩ := (by simpa [exs, Bool.and_eq_true] using c.more : clsB K cds = true ∧ He.tupB K "_START" l__START = true ∧ He.tupB K "_STEPS" l__STEPS = true)
  obtain ⟨xa, xb⟩ := Bool.and_eq_true_iff.mp x0
  refine ⟨fun i => match i with | 0 => fd0 | 1 => fd1 | 2 => fd2 | 3 => fd3 | 4 => fd4 | 5 => fd5 | 6 => fd6 | 7 => fd7 | 8 => fd8 | 9 => fd9 | 10 => fd10 | 11 => fd11 | 12 => fd12 | 13 => fd13 | 14 => fd14 | 15 => fd15 | 16 => fd16 | 17 => fd17 | 18 => fd18 | 19 => fd19 | 20 => fd20 | 21 => fd21 | 22 => fd22 | 23 => fd23 | 24 => fd24 | 25 => fd25 | 26 => fd26 | 27 => fd27 | 28 => fd28 | 29 => fd29 | 30 => fd30 | 31 => fd31 | 32 => fd32 | 33 => fd33 | 34 => fd34 | 35 => fd35 | 36 => fd36 | 37 => fd37 | 38 => fd38 | _ => fd0, fun i => match i with | 0 => gd0 | 1 => gd1 | 2 => gd2 | _ => gd0, ?_⟩
  exact {
    F__octets_of := F0
    g__octets_of := He.glo_ok X G (cd.fact 0 (f := .glo "_octets_of") rfl)
    b__octets_of := FunD.bindsN (ps := ["number", "many"]) F0 fun _ _ _ _ _ _ us hl => match us, hl with | [_, _], _ => rfl
    F__filled_up := F1
    g__filled_up := He.glo_ok X G (cd.fact 1 (f := .glo "_filled_up") rfl)
    b__filled_up := FunD.bindsN (ps := ["numbers"]) F1 fun _ _ _ _ _ _ us hl => match us, hl with | [_], _ => rfl
    F__quad_at := F2
    g__quad_at := He.glo_ok X G (cd.fact 2 (f := .glo "_quad_at") rfl)
    b__quad_at := FunD.bindsN (ps := ["block", "at"]) F2 fun _ _ _ _ _ _ us hl => match us, hl with | [_, _], _ => rfl
    F__turns := F3
    g__turns := He.glo_ok X G (cd.fact 3 (f := .glo "_turns") rfl)
    b__turns := FunD.bindsN (ps := ["quad", "one", "two", "three"]) F3 fun _ _ _ _ _ _ us hl => match us, hl with | [_, _, _, _], _ => rfl
    F__quads_of := F4
    g__quads_of := He.glo_ok X G (cd.fact 4 (f := .glo "_quads_of") rfl)
    b__quads_of := FunD.bindsN (ps := ["block"]) F4 fun _ _ _ _ _ _ us hl => match us, hl with | [_], _ => rfl
    F__state_behind := F5
    g__state_behind := He.glo_ok X G (cd.fact 5 (f := .glo "_state_behind") rfl)
    b__state_behind := FunD.bindsN (ps := ["state", "block"]) F5 fun _ _ _ _ _ _ us hl => match us, hl with | [_, _], _ => rfl
    F_sha := F6
    g_sha := He.glo_ok X G (cd.fact 6 (f := .glo "sha") rfl)
    b_sha := FunD.bindsN (ps := ["numbers"]) F6 fun _ _ _ _ _ _ us hl => match us, hl with | [_], _ => rfl
    F_hex_text := F7
    g_hex_text := He.glo_ok X G (cd.fact 7 (f := .glo "hex_text") rfl)
    b_hex_text := FunD.bindsN (ps := ["numbers"]) F7 fun _ _ _ _ _ _ us hl => match us, hl with | [_], _ => rfl
    F_hex_numbers := F8
    g_hex_numbers := He.glo_ok X G (cd.fact 8 (f := .glo "hex_numbers") rfl)
    b_hex_numbers := FunD.bindsN (ps := ["text"]) F8 fun _ _ _ _ _ _ us hl => match us, hl with | [_], _ => rfl
    cd_hex_numbers := code_at (p := ("hex_numbers", none)) F8
    F_codes_of := F9
    g_codes_of := He.glo_ok X G (cd.fact 9 (f := .glo "codes_of") rfl)
    b_codes_of := FunD.bindsN (ps := ["text"]) F9 fun _ _ _ _ _ _ us hl => match us, hl with | [_], _ => rfl
    F__sha_numbers := F10
    g__sha_numbers := He.glo_ok X G (cd.fact 10 (f := .glo "_sha_numbers") rfl)
    b__sha_numbers := FunD.bindsN (ps := ["matter"]) F10 fun _ _ _ _ _ _ us hl => match us, hl with | [_], _ => rfl
    F__weak_seal := F11
    g__weak_seal := He.glo_ok X G (cd.fact 11 (f := .glo "_weak_seal") rfl)
    b__weak_seal := FunD.bindsN (ps := ["m", "k", "matter"]) F11 fun _ _ _ _ _ _ us hl => match us, hl with | [_, _, _], _ => rfl
    F_sealed := F12
    g_sealed := He.glo_ok X G (cd.fact 12 (f := .glo "sealed") rfl)
    b_sealed := FunD.bindsN (ps := ["sealer", "matter"]) F12 fun _ _ _ _ _ _ us hl => match us, hl with | [_, _], _ => rfl
    F_crown := F13
    g_crown := He.glo_ok X G (cd.fact 13 (f := .glo "crown") rfl)
    b_crown := FunD.bindsN (ps := ["size"]) F13 fun _ _ _ _ _ _ us hl => match us, hl with | [_], _ => rfl
    F__longer := F14
    g__longer := He.glo_ok X G (cd.fact 14 (f := .glo "_longer") rfl)
    b__longer := FunD.bindsN (ps := ["sealer", "tops", "entry"]) F14 fun _ _ _ _ _ _ us hl => match us, hl with | [_, _, _], _ => rfl
    F_tops_of := F15
    g_tops_of := He.glo_ok X G (cd.fact 15 (f := .glo "tops_of") rfl)
    b_tops_of := FunD.bindsN (ps := ["sealer", "log"]) F15 fun _ _ _ _ _ _ us hl => match us, hl with | [_, _], _ => rfl
    F__head := F16
    g__head := He.glo_ok X G (cd.fact 16 (f := .glo "_head") rfl)
    b__head := FunD.bindsN (ps := ["sealer", "tops"]) F16 fun _ _ _ _ _ _ us hl => match us, hl with | [_, _], _ => rfl
    F_head_of := F17
    g_head_of := He.glo_ok X G (cd.fact 17 (f := .glo "head_of") rfl)
    b_head_of := FunD.bindsN (ps := ["sealer", "log"]) F17 fun _ _ _ _ _ _ us hl => match us, hl with | [_, _], _ => rfl
    F_root := F18
    g_root := He.glo_ok X G (cd.fact 18 (f := .glo "root") rfl)
    b_root := FunD.bindsN (ps := ["sealer", "log"]) F18 fun _ _ _ _ _ _ us hl => match us, hl with | [_, _], _ => rfl
    F_seal_of_stretch := F19
    g_seal_of_stretch := He.glo_ok X G (cd.fact 19 (f := .glo "seal_of_stretch") rfl)
    b_seal_of_stretch := FunD.bindsN (ps := ["sealer", "log", "stretch"]) F19 fun _ _ _ _ _ _ us hl => match us, hl with | [_, _, _], _ => rfl
    F_halves := F20
    g_halves := He.glo_ok X G (cd.fact 20 (f := .glo "halves") rfl)
    b_halves := FunD.bindsN (ps := ["node"]) F20 fun _ _ _ _ _ _ us hl => match us, hl with | [_], _ => rfl
    F__are_unlike := F21
    g__are_unlike := He.glo_ok X G (cd.fact 21 (f := .glo "_are_unlike") rfl)
    b__are_unlike := FunD.bindsN (ps := ["sealer", "log", "other", "stretch"]) F21 fun _ _ _ _ _ _ us hl => match us, hl with | [_, _, _, _], _ => rfl
    F_search := F22
    g_search := He.glo_ok X G (cd.fact 22 (f := .glo "search") rfl)
    b_search := FunD.bindsN (ps := ["sealer", "log", "other"]) F22 fun _ _ _ _ _ _ us hl => match us, hl with | [_, _, _], _ => rfl
    F__law_box := F23
    g__law_box := He.glo_ok X G (cd.fact 23 (f := .glo "_law_box") rfl)
    b__law_box := FunD.bindsN (ps := ["script", "k"]) F23 fun _ _ _ _ _ _ us hl => match us, hl with | [_, _], _ => rfl
    F__law_take := F24
    g__law_take := He.glo_ok X G (cd.fact 24 (f := .glo "_law_take") rfl)
    b__law_take := FunD.bindsN (ps := ["urn", "low_so"]) F24 fun _ _ _ _ _ _ us hl => match us, hl with | [_, _], _ => rfl
    F__law_cells := F25
    g__law_cells := He.glo_ok X G (cd.fact 25 (f := .glo "_law_cells") rfl)
    b__law_cells := FunD.bindsN (ps := ["script", "roof_so"]) F25 fun _ _ _ _ _ _ us hl => match us, hl with | [_, _], _ => rfl
    F__law_of := F26
    g__law_of := He.glo_ok X G (cd.fact 26 (f := .glo "_law_of") rfl)
    b__law_of := FunD.bindsN (ps := ["urn", "some_so"]) F26 fun _ _ _ _ _ _ us hl => match us, hl with | [_, _], _ => rfl
    F__law_same := F27
    g__law_same := He.glo_ok X G (cd.fact 27 (f := .glo "_law_same") rfl)
    b__law_same := FunD.bindsN (ps := ["near", "goal"]) F27 fun _ _ _ _ _ _ us hl => match us, hl with | [_, _], _ => rfl
    F__law_seal := F28
    g__law_seal := He.glo_ok X G (cd.fact 28 (f := .glo "_law_seal") rfl)
    b__law_seal := FunD.bindsN (ps := ["sealer", "matter"]) F28 fun _ _ _ _ _ _ us hl => match us, hl with | [_, _], _ => rfl
    F__law_crown := F29
    g__law_crown := He.glo_ok X G (cd.fact 29 (f := .glo "_law_crown") rfl)
    b__law_crown := FunD.bindsN (ps := ["n"]) F29 fun _ _ _ _ _ _ us hl => match us, hl with | [_], _ => rfl
    F__law_root := F30
    g__law_root := He.glo_ok X G (cd.fact 30 (f := .glo "_law_root") rfl)
    b__law_root := FunD.bindsN (ps := ["sealer", "deal"]) F30 fun _ _ _ _ _ _ us hl => match us, hl with | [_, _], _ => rfl
    F__law_sides := F31
    g__law_sides := He.glo_ok X G (cd.fact 31 (f := .glo "_law_sides") rfl)
    b__law_sides := FunD.bindsN (ps := ["n", "k"]) F31 fun _ _ _ _ _ _ us hl => match us, hl with | [_, _], _ => rfl
    F__law_first := F32
    g__law_first := He.glo_ok X G (cd.fact 32 (f := .glo "_law_first") rfl)
    b__law_first := FunD.bindsN (ps := ["deal", "far"]) F32 fun _ _ _ _ _ _ us hl => match us, hl with | [_, _], _ => rfl
    F__law_sealer := F33
    g__law_sealer := He.glo_ok X G (cd.fact 33 (f := .glo "_law_sealer") rfl)
    b__law_sealer := FunD.bindsN (ps := ["urn"]) F33 fun _ _ _ _ _ _ us hl => match us, hl with | [_], _ => rfl
    F__law_log := F34
    g__law_log := He.glo_ok X G (cd.fact 34 (f := .glo "_law_log") rfl)
    b__law_log := FunD.bindsN (ps := ["urn", "most_so"]) F34 fun _ _ _ _ _ _ us hl => match us, hl with | [_, _], _ => rfl
    F__law_front_right := F35
    g__law_front_right := He.glo_ok X G (cd.fact 35 (f := .glo "_law_front_right") rfl)
    b__law_front_right := FunD.bindsN (ps := []) F35 fun _ _ _ _ _ _ us hl => match us, hl with | [], _ => rfl
    F__law_found := F36
    g__law_found := He.glo_ok X G (cd.fact 36 (f := .glo "_law_found") rfl)
    b__law_found := FunD.bindsN (ps := ["sealer", "deal", "far", "low_so", "n"]) F36 fun _ _ _ _ _ _ us hl => match us, hl with | [_, _, _, _, _], _ => rfl
    F__law_right := F37
    g__law_right := He.glo_ok X G (cd.fact 37 (f := .glo "_law_right") rfl)
    b__law_right := FunD.bindsN (ps := ["urn"]) F37 fun _ _ _ _ _ _ us hl => match us, hl with | [_], _ => rfl
    F_law := F38
    g_law := He.glo_ok X G (cd.fact 38 (f := .glo "law") rfl)
    b_law := FunD.bindsN (ps := ["script"]) F38 fun _ _ _ _ _ _ us hl => match us, hl with | [_], _ => rfl
    m_abs := He.free_ok X G (cd.fact 42 (f := .free "abs") rfl)
    m_all := He.free_ok X G (cd.fact 43 (f := .free "all") rfl)
    m_bool := He.free_ok X G (cd.fact 44 (f := .free "bool") rfl)
    m_enumerate := He.free_ok X G (cd.fact 45 (f := .free "enumerate") rfl)
    m_int := He.free_ok X G (cd.fact 46 (f := .free "int") rfl)
    m_isinstance := He.free_ok X G (cd.fact 47 (f := .free "isinstance") rfl)
    m_len := He.free_ok X G (cd.fact 48 (f := .free "len") rfl)
    m_list := He.free_ok X G (cd.fact 49 (f := .free "list") rfl)
    m_max := He.free_ok X G (cd.fact 50 (f := .free "max") rfl)
    m_min := He.free_ok X G (cd.fact 51 (f := .free "min") rfl)
    m_ord := He.free_ok X G (cd.fact 52 (f := .free "ord") rfl)
    m_range := He.free_ok X G (cd.fact 53 (f := .free "range") rfl)
    m_str := He.free_ok X G (cd.fact 54 (f := .free "str") rfl)
    m_tuple := He.free_ok X G (cd.fact 55 (f := .free "tuple") rfl)
    m_zip := He.free_ok X G (cd.fact 56 (f := .free "zip") rfl)
    c__DIGITS := kons_str (l := [48, 49, 50, 51, 52, 53, 54, 55, 56, 57, 97, 98, 99, 100, 101, 102]) (He.str_ok X G (cd.fact 57 (f := .str "_DIGITS" "0123456789abcdef") rfl))
    c__ONES := kons_int (He.int_ok X G (cd.fact 58 (f := .int "_ONES" 4294967295) rfl))
    c__START := kons_tup (He.glo_ok X G (cd.fact 59 (f := .glo "_START") rfl)) x1 rfl
    c__STEPS := kons_tup (He.glo_ok X G (cd.fact 60 (f := .glo "_STEPS") rfl)) x2 rfl
    gc0 := He.glo_ok X G (cd.fact 39 (f := .glo "NoPlace") rfl)
    cd0 := CD.ok_of (List.all_eq_true.mp xa _ (List.mem_of_getElem? (i := 0) rfl))
    FI0 := G0
    bI0 := FunD.bindsN (ps := ["self", "place"]) G0 fun _ _ _ _ _ _ us hl => match us, hl with | [_, _], _ => rfl
    gc1 := He.glo_ok X G (cd.fact 40 (f := .glo "CanNot") rfl)
    cd1 := CD.ok_of (List.all_eq_true.mp xa _ (List.mem_of_getElem? (i := 1) rfl))
    FI1 := G1
    bI1 := FunD.bindsN (ps := ["self"]) G1 fun _ _ _ _ _ _ us hl => match us, hl with | [_], _ => rfl
    gc2 := He.glo_ok X G (cd.fact 41 (f := .glo "Unfit") rfl)
    cd2 := CD.ok_of (List.all_eq_true.mp xa _ (List.mem_of_getElem? (i := 2) rfl))
    FI2 := G2
    bI2 := FunD.bindsN (ps := ["self"]) G2 fun _ _ _ _ _ _ us hl => match us, hl with | [_], _ => rfl
    xm := xb
  }
/-- what is left: the law's denotation is True at each script -/
def LawTrue : Prop := ∀ ns : List Int, ns.length ≤ 63 → (∀ z ∈ ns, Builtin.Int.intBits z ≤ 1048576) → ∃ st, d_law [.rol (ns.map D.int)] [] = .ok (.bl true) st
end Lk28
open PySem PySem.W PySem.Calls PyProof.Rows
theorem Lk28.holds_of (hlaw : Lk28.LawTrue) : PySem.Challenge.rw_leafway_k28_whole_unlike_places_found_by.Holds := by
  w_on; o_law
  refine HandSHeadRun.head_any (r := OpenLaw.row PySem.Challenge.rw_leafway_k28_whole_unlike_places_found_by) (q := view (OpenLaw.row PySem.Challenge.rw_leafway_k28_whole_unlike_places_found_by).prog [52]) (H := Lk28.hk) (ob := Lk28.ob) (M := 3000) (loose := ("NoPlace" :: "CanNot" :: "Unfit" :: "_DIGITS" :: "_ONES" :: "_START" :: "_STEPS" :: "sha" :: "hex_text" :: "hex_numbers" :: "codes_of" :: "_filled_up" :: "_octets_of" :: "_state_behind" :: "_quads_of" :: "_quad_at" :: "_turns" :: "sealed" :: "_sha_numbers" :: "_weak_seal" :: "crown" :: "root" :: "head_of" :: "seal_of_stretch" :: "tops_of" :: "_longer" :: "_head" :: "halves" :: "search" :: "_are_unlike" :: "_law_box" :: "_law_take" :: "_law_cells" :: "_law_of" :: "_law_same" :: "_law_seal" :: "_law_crown" :: "_law_root" :: "_law_sides" :: "_law_first" :: "_law_sealer" :: "_law_log" :: "_law_front_right" :: "_law_found" :: "_law_right" :: [] : List Str)) (d := HandSHeadRun.topDef (OpenLaw.row PySem.Challenge.rw_leafway_k28_whole_unlike_places_found_by).prog 52) (kwd := []) Lk28.ob_eq
    (by kernel_rfl) (fun s => by kernel_rfl) Lk28.run (by kernel_rfl) (by kernel_rfl) (by kernel_rfl) (by rfl) (by first | assumption | decide +kernel) (by decide +kernel) ⟨rfl, rfl, rfl, rfl, rfl, by decide +kernel⟩ ?hw ?hc
  case hw => w_witness2
  case hc =>
    refine LamX.walk_ofTsE (l := PySem.Challenge.rw_leafway_k28_whole_unlike_places_found_by) (n := 63) (k := 125) (x := "script") (CX := fun w => L2.CX (PySem.Challenge.rw_leafway_k28_whole_unlike_places_found_by).prog w) rfl (by decide) (by kernel_rfl) ⟨rfl, by decide, by decide⟩ ?F (fun _ _ _ _ _ ⟨_, _, _, _, _, _, _, _, _, _, _, _, z⟩ => z)
    intro w mg fa h Y G hmg0
    obtain ⟨K, KX, c⟩ := Y
    obtain ⟨fd, fdi, T⟩ := Lk28.txt KX G c
    have hmg : mg ("law" : PySem.Str) = some (.ref fa) := by
      have e : (HandSHeadRun.topDef (OpenLaw.row PySem.Challenge.rw_leafway_k28_whole_unlike_places_found_by).prog 52).name = ("law" : PySem.Str) := by kernel_rfl
      rw [← e]
      exact hmg0
    have e := T.g_law.symm.trans hmg
    cases e
    refine ⟨K, KX, fd 38, Lk28.tfs.map (He.cT K), Dn.spM ⟨K, Dn.ceOf K Lk28.cds, Dn.feOf Lk28.cds, Dn.tbs K Lk28.tfs⟩ 1 Lk28.d_law, fun p hp => ?_, fun p hp => ?_, fun p hp => ?_, fun s v => L2.FunD.bindsA (ps := ["script"]) T.F_law (fun _ _ _ _ _ _ us hl => match us, hl with | [_], _ => rfl) s [v] rfl, fun H a ns hl hbits hT hS => ?_, fun base hKb nsb hbs => Lk28.ok_law T hbs⟩
    · obtain ⟨q, hq, rfl⟩ := List.mem_map.mp hp
      exact c.empty q hq
    · obtain ⟨q, hq, rfl⟩ := List.mem_map.mp hp
      exact c.out q hq
    · obtain ⟨q, hq, rfl⟩ := List.mem_map.mp hp
      exact PySem.W.codeHd_of_K KX (c.hd q hq)
    · exact Dn.law_sp (hlaw ns hl hbits) (fun P hP => by
        obtain ⟨q, hq, rfl⟩ := List.mem_map.mp hP
        exact hT _ (List.mem_map.mpr ⟨q, hq, rfl⟩)) hS

end
open PySem PySem.W PyProof.Rows
theorem PySem.Challenge.cw_leafway_k28_whole_unlike_places_found_by_holds : PySem.Challenge.rw_leafway_k28_whole_unlike_places_found_by.Holds := by
  exact Lk28.holds_of Lk28.law_true
