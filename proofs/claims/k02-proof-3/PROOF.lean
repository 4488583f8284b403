import PyProof.Rows.All
import Wide.All
import OpenK.KWalk
import OpenK.KMake
import OpenK.KDescr
import OpenK.KCall
import OpenK.KOwn
import KE.KIsAll
import KE.KItem
import KE.KxBytes
import Wide.FinOn
import Lean
import PyProof.EqAt
import PyProof.EqKinds
import PyProof.TupleCall
import KE.LcSums
import PyProof.Rows.EqDataRows
import PyProof.RulesAs
import PyProof.ZipIter
import PyProof.Draws
import PyProof.Rows.TupAdd
import PyProof.ListMulRoad
import PyProof.AutoListH
import PyProof.Rows.Range3
import PyProof.ListRange
import PyProof.EnumMake
import PyProof.EnumFor
import PyProof.Rows.SetFrom
import PyProof.WalksMore
import PyProof.StrOps2
import PyProof.Rows.MinMaxN
import PyProof.ConsumeWalk
import PyProof.Rows.SortWalk
import PyProof.ExcArgsOwn
import PyProof.StrBlock2
import KE.KMinKey
import PyProof.Rows.CallKwBuiltin
import PySem.PyData
import PySem.Challenge.RW_ranksure_k02_heights
import OpenK.AllK
import KE.RegKIsAll
set_option bootstrap.genMatcherCode false
-- CHANGE: your row's module here,as the last of these rows
set_option Elab.async false
set_option linter.all false
set_option maxRecDepth 100000
namespace L2
open PySem PySem.Spec PyProof.Rows
noncomputable abbrev Key:=Sum Int Str
noncomputable def tZ:Key→Value→Bool
  | .inl k,v=>Value.isInt k v
  | .inr x,v=>Value.isStrOf x v
noncomputable def xr (w:World):Key→Int
  | .inl k=>hashInt k
  | .inr x=>hashStr w x
theorem bJ:∀ {k:Key} {v:Value},tZ k v=true→(∃ i t,k=Sum.inl i∧v=Value.int i t)∨(∃ x t,k=Sum.inr x∧v=Value.str x t)
  | .inl i,v,h=>by
    obtain ⟨t,e⟩:=Value.isInt_shape (k:=i) (v:=v) h
    exact .inl ⟨i,t,rfl,e⟩
  | .inr x,v,h=>by
    obtain ⟨t,e⟩:=Value.isStrOf_shape (x:=x) (v:=v) h
    exact .inr ⟨x,t,rfl,e⟩
theorem uN (a b:Int):decide ((Sum.inl a:Key)=Sum.inl b)=(a == b):=by
  by_cases e:a=b
  · subst e; simp
  · have h:¬ (Sum.inl a:Key)=Sum.inl b:=fun q=>e (Sum.inl.inj q)
    rw [decide_eq_false h]
    exact (beq_eq_false_iff_ne.mpr e).symm
theorem uz (a b:Str):decide ((Sum.inr a:Key)=Sum.inr b)=decide (a=b):=by
  by_cases e:a=b
  · subst e; simp
  · have h:¬ (Sum.inr a:Key)=Sum.inr b:=fun q=>e (Sum.inr.inj q)
    rw [decide_eq_false h,decide_eq_false e]
theorem u6 (a:Int) (b:Str):decide ((Sum.inl a:Key)=Sum.inr b)=false:=decide_eq_false (fun q=>nomatch q)
theorem u3 (a:Str) (b:Int):decide ((Sum.inr a:Key)=Sum.inl b)=false:=decide_eq_false (fun q=>nomatch q)
noncomputable def n6 (prog:Program) (w:World):PySem.KeyKind prog w Key where
  is:=tZ
  hash:=xr w
  inj:=fun v a b ha hb=>by
    rcases bJ ha with ⟨i,t,rfl,rfl⟩ | ⟨x,t,rfl,rfl⟩
    · rcases bJ hb with ⟨j,u,rfl,e⟩ | ⟨y,u,rfl,e⟩
      · injection e with e1 _; rw [e1]
      · exact nomatch e
    · rcases bJ hb with ⟨j,u,rfl,e⟩ | ⟨y,u,rfl,e⟩
      · exact nomatch e
      · injection e with e1 _; rw [e1]
  byValue:=fun k v h=>by
    rcases bJ h with ⟨i,t,rfl,rfl⟩ | ⟨x,t,rfl,rfl⟩ <;> rfl
  pyHash:=fun hv h=>by
    rcases bJ hv with ⟨i,t,rfl,rfl⟩ | ⟨x,t,rfl,rfl⟩
    · exact wpAny_pyHash_int h
    · exact wpAny_pyHash_str h
  eqBool:=fun hu hv h=>by
    rcases bJ hu with ⟨i,t,rfl,rfl⟩ | ⟨x,t,rfl,rfl⟩
    · rcases bJ hv with ⟨j,u,rfl,rfl⟩ | ⟨y,u,rfl,rfl⟩
      · rw [uN] at h; exact wpAny_eqBool_int h
      · rw [u6] at h; exact SeqAt.EqAt.int_str i t y u _ _ _ _ h
    · rcases bJ hv with ⟨j,u,rfl,rfl⟩ | ⟨y,u,rfl,rfl⟩
      · rw [u3] at h; exact SeqAt.EqAt.str_int x t j u _ _ _ _ h
      · rw [uz] at h; exact wpAny_eqBool_str h
  «strs»:=fun k x t v h=>by
    rcases bJ h with ⟨i,u,rfl,e⟩ | ⟨y,u,rfl,e⟩
    · exact nomatch e
    · injection e with e1 _
      subst e1
      cases v <;> rfl
end L2
namespace L2
open PySem PySem.Spec PyProof.Rows
inductive V where
  | non | bl (b:Bool) | int (i:Int) | str (x:Str) | byt (b:Array UInt8) | flt (b:UInt64) | ref (a:Addr) | ty (n:String)
  deriving DecidableEq
noncomputable def RelV:V→Value→Prop
  | .non,u=>u=Value.none
  | .bl b,u=>u=Value.bool b
  | .int i,u=>∃ t,u=Value.int i t
  | .str x,u=>∃ t,u=Value.str x t
  | .byt b,u=>∃ t,u=Value.bytes b t
  | .flt b,u=>∃ t,u=Value.float b t
  | .ref a,u=>u=Value.ref a
  | .ty n,u=>u=Value.type n
noncomputable abbrev Vals:List V→List Value→Prop:=Paired RelV
theorem Vals.length {xs:List V} {us:List Value} (r:Vals xs us):xs.length=us.length:=Paired.length r
theorem Vals.get:∀ {xs:List V} {us:List Value} {i:Nat} {x:V},Vals xs us→xs[i]?=some x→∃ u,us[i]?=some u∧RelV x u
  | _,_,_,_,.nil,e=>by simp at e
  | _,_,0,_,.cons r _,e=>by simp at e; subst e; exact ⟨_,rfl,r⟩
  | _,_,i + 1,x,.cons _ t,e=>by
    obtain ⟨u,h1,h2⟩:=Vals.get (i:=i) (x:=x) t (by simpa using e)
    exact ⟨u,by simpa using h1,h2⟩
theorem Vals.set {x:V} {u:Value} (r:RelV x u):∀ {xs:List V} {us:List Value} (i:Nat),Vals xs us→Vals (xs.set i x) (us.set i u)
  | _,_,_,.nil=>.nil
  | _,_,0,.cons _ t=>.cons r t
  | _,_,i + 1,.cons q t=>.cons q (Vals.set r i t)
theorem Vals.append:∀ {xs ys:List V} {us ws:List Value},Vals xs us→Vals ys ws→Vals (xs++ys) (us++ws)
  | _,_,_,_,.nil,s=>s
  | _,_,_,_,.cons r t,s=>.cons r (Vals.append t s)
theorem Vals.take:∀ {xs:List V} {us:List Value} (n:Nat),Vals xs us→Vals (xs.take n) (us.take n)
  | _,_,0,_=>.nil
  | _,_,_ + 1,.nil=>.nil
  | _,_,n + 1,.cons r t=>.cons r (Vals.take n t)
theorem Vals.drop:∀ {xs:List V} {us:List Value} (n:Nat),Vals xs us→Vals (xs.drop n) (us.drop n)
  | _,_,0,r=>r
  | _,_,_ + 1,.nil=>.nil
  | _,_,n + 1,.cons _ t=>Vals.drop n t
noncomputable def we:Option V→Option Value→Prop
  | some v,some u=>RelV v u
  | none,none=>True
  | _,_=>False
noncomputable def KV {κ:Type}:List (κ × V)→List (κ × Value)→Prop:=Paired fun (p:κ × V) (q:κ × Value)=>p.1=q.1∧RelV p.2 q.2
noncomputable def kV:Key→V
  | .inl i=>.int i
  | .inr x=>.str x
inductive HO where
  | lst (xs:List V)
  | tup (xs:List V)
  | dK (kvs:List (Key × V)) | dT (kvs:List (List Key × V))
  | set (S:Int→Bool) (n:Nat)
  | ins (C dx:Addr) (fs:List (Str × V))
  | own (x:Addr)
  | xd (fs:List (Str × V))
  | met (f x:Addr)
  | rng (lo hi:Int)
  | frz (o:Obj) (u:HO)
  | tbl (q:Str)
  | ext (φ:Heap→Prop)
noncomputable abbrev Hp:=Addr→Option HO
noncomputable def upd (H:Hp) (a:Addr) (o:HO):Hp:=fun b=>if b=a then some o else H b
theorem bQ {H:Hp} {a:Addr} {o:HO}:upd H a o a=some o:=by unfold upd; rw [if_pos rfl]
theorem aQ {H:Hp} {a b:Addr} {o:HO} (h:b≠a):upd H a o b=H b:=by unfold upd; rw [if_neg h]
theorem aP {H:Hp} {a b:Addr} {o:HO} (h:H a=some o) (h':H b=none):a≠b:=by
  intro e; subst e; rw [h] at h'; cases h'
noncomputable def kZ (h:Heap) (a:Addr) (items:Array Value):Prop:=∃ o,h.get? a=some o∧o.cls=.type "tuple"∧o.dict=none∧∃ n,o.data=.seq items n
theorem kZ.tup {h:Heap} {a:Addr} {items:Array Value} (x:kZ h a items):IsTup h a items:=by
  obtain ⟨o,e,c,_,n,d⟩:=x
  exact ⟨o,e,c,n,d⟩
theorem kZ.new (h:Heap) (items:Array Value):kZ (h.push { cls:=.type "tuple",data:=.seq items }) h.objs.size items:=⟨_,Heap.get?_push_size _ rfl,rfl,rfl,_,rfl⟩
section
variable (P:Program) (w:World)
noncomputable def cF (H:Hp) (h:Heap) (a:Addr):HO→Prop
  | .lst xs=>xs.length≤sizeLine∧∃ (its:List Value) (n:Nat),Vals xs its∧h.get? a=some { cls:=.type "list",data:=.seq its.toArray n }
  | .tup xs=>xs.length≤sizeLine∧∃ its:List Value,Vals xs its∧kZ h a its.toArray
  | .dK kvs=>kvs.length≤sizeLine∧(a == sysModules)=false∧∃ vs,KV kvs vs∧h.DictOf (n6 P w) a vs
  | .dT kvs=>kvs.length≤sizeLine∧(a == sysModules)=false∧∃ xs:List (List Key × Addr × Value),
      Paired (fun (p:List Key × V) (q:List Key × Addr × Value)=>p.1=q.1∧H q.2.1=some (.tup (p.1.map kV))∧RelV p.2 q.2.2) kvs xs ∧
      ∃ o es ep,h.get? a=some o∧o.ExactDict∧o.data=.dict es ep∧es.toList=xs.map (entryOfKey (tupleKind (n6 P w)))∧(xs.map (·.1)).Nodup
  | .set S n=>h.SetOf (intKind P w) a S n
  | .ins C dx fs=>H dx=some (.own a)∧fs.length≤1000∧dx≠a∧h.get? a=some (PySem.W.instObj C dx) ∧
      ∃ mA,h.Ns1 dx mA∧(∀ f,we (fs.lookup f) (mA f))∧PySem.Within mA (fs.map (·.1))
  | .own _=>∃ o,h.get? a=some o
  | .xd fs=>∃ mA,h.Ns1 a mA∧∀ f,we (fs.lookup f) (mA f)
  | .rng lo hi=>∃ t u v,h.get? a=some { cls:=.type "range",data:=.fields #[.int lo t,.int hi u,.int 1 v] }
  | .frz o u=>h.get? a=some o∧cF H h a u
  | .tbl q=>∃ ps:Array Value,h.get? a=some { cls:=.none,data:=.fields ps }∧TriplesOk ps.toList∧∀ pos cv,codeAmong pos ps.toList=some cv→∃ c' o vs t,cv=.ref c'∧H c'=some (.frz o (.own c'))∧o.data=.fields vs∧vs[1]?=some (.str q t)
  | .met f x=>h.get? a=some (PySem.W.methodObj (.ref f) (.ref x))
  | .ext φ=>φ h∧(∃ o,h.get? a=some o)∧∀ h1 h2:Heap,φ h1→(∀ o,h1.get? a=some o→h2.get? a=some o)→φ h2
noncomputable def HOk (H:Hp) (h:Heap):Prop:=∀ a o,H a=some o→cF P w H h a o
end
section
variable {P:Program} {w:World} {H H':Hp} {h h':Heap} {a:Addr} {o:HO}
theorem cF.lt (x:cF P w H h a o):a < h.objs.size:=by
  cases o with
  | lst xs=>obtain ⟨_,_,_,_,e⟩:=x; exact Heap.lt_size e
  | tup xs=>obtain ⟨_,_,_,p⟩:=x; exact p.tup.lt
  | dK kvs=>obtain ⟨_,_,_,_,o,_,_,e,_⟩:=x; exact Heap.lt_size e
  | dT kvs=>obtain ⟨_,_,_,_,o,_,_,e,_⟩:=x; exact Heap.lt_size e
  | set S n=>obtain ⟨o,_,_,_,e,_⟩:=x; exact Heap.lt_size e
  | ins C dx fs=>obtain ⟨_,_,_,e,_⟩:=x; exact Heap.lt_size e
  | own y=>obtain ⟨_,e⟩:=x; exact Heap.lt_size e
  | xd fs=>obtain ⟨_,⟨_,_,_,e,_⟩,_⟩:=x; exact Heap.lt_size e
  | rng lo hi=>obtain ⟨_,_,_,e⟩:=x; exact Heap.lt_size e
  | frz ob u=>obtain ⟨e,_⟩:=x; exact Heap.lt_size e
  | tbl q=>obtain ⟨_,e,_⟩:=x; exact Heap.lt_size e
  | met f y=>exact Heap.lt_size (show h.get? a=some _ from x)
  | ext φ=>obtain ⟨_,⟨_,e⟩,_⟩:=x; exact Heap.lt_size e
theorem Paired.mapP {α β:Type} {F G:α→β→Prop}:∀ {l₁:List α} {l₂:List β},Paired F l₁ l₂→(∀ a b,F a b→G a b)→Paired G l₁ l₂
  | _,_,.nil,_=>.nil
  | _,_,.cons r t,f=>.cons (f _ _ r) (Paired.mapP t f)
theorem cF.stay (x:cF P w H h a o) (k:∀ b u,(b=a∨H b=some (.own a))→h.get? b=some u→h'.get? b=some u)
    (ho:∀ b,H b=some (.own a)→H' b=some (.own a)) (ht:∀ b xs,H b=some (.tup xs)→H' b=some (.tup xs)) (hf:∀ b o u,H b=some (.frz o u)→H' b=some (.frz o u):=by exact fun _ _ _ q=>q):cF P w H' h' a o:=by
  induction o with
  | lst xs=>obtain ⟨z,its,n,r,e⟩:=x; exact ⟨z,its,n,r,k _ _ (.inl rfl) e⟩
  | tup xs=>obtain ⟨z,its,r,ob,e,c⟩:=x; exact ⟨z,its,r,ob,k _ _ (.inl rfl) e,c⟩
  | dK kvs=>obtain ⟨z,y,vs,r,ob,es,ep,e,c⟩:=x; exact ⟨z,y,vs,r,ob,es,ep,k _ _ (.inl rfl) e,c⟩
  | dT kvs =>
    obtain ⟨z,y,xs,r,ob,es,ep,e,c⟩:=x
    exact ⟨z,y,xs,Paired.mapP r fun p q z=>⟨z.1,ht _ _ z.2.1,z.2.2⟩,ob,es,ep,k _ _ (.inl rfl) e,c⟩
  | set S n=>obtain ⟨ob,es,ep,t,e,c⟩:=x; exact ⟨ob,es,ep,t,k _ _ (.inl rfl) e,c⟩
  | ins C dx fs =>
    obtain ⟨d,z,ne,e,mA,⟨od,es,ep,e2,c⟩,r⟩:=x
    exact ⟨ho _ d,z,ne,k _ _ (.inl rfl) e,mA,⟨od,es,ep,k _ _ (.inr d) e2,c⟩,r⟩
  | own y=>obtain ⟨ob,e⟩:=x; exact ⟨ob,k _ _ (.inl rfl) e⟩
  | xd fs=>obtain ⟨mA,⟨od,es,ep,e,c⟩,r⟩:=x; exact ⟨mA,⟨od,es,ep,k _ _ (.inl rfl) e,c⟩,r⟩
  | rng lo hi=>obtain ⟨t,u,v,e⟩:=x; exact ⟨t,u,v,k _ _ (.inl rfl) e⟩
  | frz ob u ih=>obtain ⟨e,q⟩:=x; exact ⟨k _ _ (.inl rfl) e,ih q⟩
  | tbl q =>
    obtain ⟨ps,e,t,c⟩:=x
    exact ⟨ps,k a _ (.inl rfl) e,t,fun pos cv z=>by obtain ⟨c',o,vs,t',e1,e2,e3⟩:=c pos cv z; exact ⟨c',o,vs,t',e1,hf _ _ _ e2,e3⟩⟩
  | met f y =>
    have e:h.get? a=some (PySem.W.methodObj (.ref f) (.ref y)):=x
    show h'.get? a=some (PySem.W.methodObj (.ref f) (.ref y))
    exact k a _ (.inl rfl) e
  | ext φ=>obtain ⟨p,⟨o,e⟩,st⟩:=x; exact ⟨st _ _ p fun o q=>k _ _ (.inl rfl) q,⟨o,k _ _ (.inl rfl) e⟩,st⟩
theorem HOk.lt (x:HOk P w H h) (e:H a=some o):a < h.objs.size:=(x a o e).lt
theorem HOk.fresh (x:HOk P w H h) (e:h.objs.size≤a):H a=none:=by
  cases q:H a with
  | none=>rfl
  | some u=>exact absurd (Nat.lt_of_lt_of_le (x.lt q) e) (Nat.lt_irrefl _)
theorem HOk.kept (x:HOk P w H h) (k:∀ b u,h.get? b=some u→h'.get? b=some u):HOk P w H h':=fun a o e =>
  (x a o e).stay (fun b u _ q=>k b u q) (fun _ q=>q) fun _ _ q=>q
theorem HOk.laid (x:HOk P w H h) (k:∀ b u,h.get? b=some u→h'.get? b=some u) (hp:h.objs.size≤a) (new:cF P w (upd H a o) h' a o):HOk P w (upd H a o) h':=fun b u e=>by
  have hn:=x.fresh hp
  by_cases hb:b=a
  · subst hb; rw [bQ] at e; cases e; exact new
  · rw [aQ hb] at e
    exact (x b u e).stay (fun c v _ q=>k c v q) (fun c q=>by rw [aQ (aP q hn)]; exact q) (fun c xs q=>by rw [aQ (aP q hn)]; exact q) fun c ob w' q=>by rw [aQ (aP q hn)]; exact q
end
noncomputable def Rd (H:Hp) (a:Addr) (u:HO):Prop:=H a=some u∨∃ o,H a=some (.frz o u)
theorem Rd.ok {P:Program} {w:World} {H:Hp} {h:Heap} {a:Addr} {u:HO} (r:Rd H a u) (x:HOk P w H h):cF P w H h a u:=by
  rcases r with r | ⟨o,r⟩
  · exact x a u r
  · obtain ⟨_,q⟩:=x a _ r
    exact q
noncomputable def Mut:Option HO→Prop
  | some (.lst _)=>True
  | some (.dK _)=>True
  | some (.dT _)=>True
  | some (.set _ _)=>True
  | some (.ins _ _ _)=>True
  | some (.ext _)=>True
  | _=>False
section
variable {P:Program} {w:World} {H:Hp} {h h':Heap} {x e:Addr} {o':HO}
theorem HOk.write (ok:HOk P w H h) (mu:Mut (H x)) (he:e=x∨H e=some (.own x)) (k:∀ b u,b≠e→h.get? b=some u→h'.get? b=some u) (heo:∃ u,h'.get? e=some u)
    (new:cF P w (upd H x o') h' x o'):HOk P w (upd H x o') h':=fun b u q=>by
  have nown:∀ c y,H c=some (.own y)→c≠x:=fun c y r z=>by subst z; rw [r] at mu; exact mu
  have ntup:∀ c xs,H c=some (.tup xs)→c≠x:=fun c xs r z=>by subst z; rw [r] at mu; exact mu
  have nfrz:∀ c o u,H c=some (.frz o u)→c≠x:=fun c o u r z=>by subst z; rw [r] at mu; exact mu
  by_cases hb:b=x
  · subst hb; rw [bQ] at q; cases q; exact new
  · rw [aQ hb] at q
    by_cases hbe:b=e
    · have q':H b=some (.own x):=by
        rcases he with z | z
        · exact absurd (hbe.trans z) hb
        · rw [hbe]; exact z
      rw [q] at q'; cases q'
      obtain ⟨v,hv⟩:=heo
      exact ⟨v,by rw [hbe]; exact hv⟩
    · refine (ok b u q).stay (fun c v hc r=>k c v ?_ r) (fun c r=>by rw [aQ (nown c b r)]; exact r) (fun c xs r=>by rw [aQ (ntup c xs r)]; exact r) fun c o w' r=>by rw [aQ (nfrz c o w' r)]; exact r
      rcases hc with rfl | hc
      · exact hbe
      · rintro rfl
        rcases he with z | z
        · exact nown c b hc z
        · rw [hc] at z; cases z; exact hb rfl
end
structure Un (fs ex:List Addr) (H H':Hp) (h h':Heap):Prop where
  keep:∀ b o,h.get? b=some o→H b=none→b ∉ fs→b ∉ ex→h'.get? b=some o
  slot:∀ b o,h.get? b=some o→H b=none→b∈fs→b ∉ ex→∃ sl,h'.get? b=some { o with slots:=sl }
  free:∀ b o,h.get? b=some o→H b=none→b ∉ ex→H' b=none
  there:∀ b o,h.get? b=some o→b ∉ ex→∃ o',h'.get? b=some o'
  tups:∀ b xs,H b=some (.tup xs)→H' b=some (.tup xs)
  frzs:∀ b o u,H b=some (.frz o u)→H' b=some (.frz o u)
  tbls:∀ b q,H b=some (.tbl q)→H' b=some (.tbl q)
section
variable {fs fs' ex ex':List Addr} {H H1 H2:Hp} {h h1 h2 h':Heap} {a x e:Addr} {o:HO}
theorem Un.any (u:Un fs ex H H1 h h1) {b:Addr} {ob:Obj} (q:h.get? b=some ob) (n:H b=none) (hx:b ∉ ex):∃ sl,h1.get? b=some { ob with slots:=sl }:=by
  by_cases hb:b∈fs
  · exact u.slot b ob q n hb hx
  · exact ⟨ob.slots,u.keep b ob q n hb hx⟩
theorem Un.kept (k:∀ b u,h.get? b=some u→h'.get? b=some u):Un fs ex H H h h' :=
  ⟨fun b ob q _ _ _=>k b ob q,fun b ob q _ _ _=>⟨ob.slots,k b ob q⟩,fun _ _ _ n _=>n,fun b ob q _=>⟨ob,k b ob q⟩,fun _ _ q=>q,fun _ _ _ q=>q,fun _ _ q=>q⟩
theorem Un.refl:Un fs ex H H h h:=Un.kept fun _ _ q=>q
theorem Un.laid (k:∀ b u,h.get? b=some u→h'.get? b=some u) (hp:h.objs.size≤a) (hn:H a=none):Un fs ex H (upd H a o) h h' where
  keep:=fun b u q _ _ _=>k b u q
  slot:=fun b u q _ _ _=>⟨u.slots,k b u q⟩
  free:=fun b u q n _=>by rw [aQ (Nat.ne_of_lt (Nat.lt_of_lt_of_le (Heap.lt_size q) hp))]; exact n
  there:=fun b u q _=>⟨u,k b u q⟩
  tups:=fun b xs q=>by rw [aQ (aP q hn)]; exact q
  frzs:=fun b u xs q=>by rw [aQ (aP q hn)]; exact q
  tbls:=fun b ps q=>by rw [aQ (aP q hn)]; exact q
theorem Un.write (mu:Mut (H x)) (he:e=x∨H e=some (.own x)) (k:∀ b u,b≠e→h.get? b=some u→h'.get? b=some u) (heo:∃ u,h'.get? e=some u):Un fs ex H (upd H x o) h h':=by
  have hx:∀ b,H b=none→b≠x:=fun b n z=>by subst z; rw [n] at mu; exact mu
  have hb:∀ b,H b=none→b≠e:=fun b n z=>by
    subst z
    rcases he with r | r
    · exact hx b n r
    · rw [n] at r; cases r
  have hm:∀ b u,H b=some u→¬ Mut (some u)→b≠x:=fun b u q nm z=>by subst z; rw [q] at mu; exact nm mu
  refine ⟨fun b u q n _ _=>k b u (hb b n) q,fun b u q n _ _=>⟨u.slots,k b u (hb b n) q⟩,fun b u q n _=>by rw [aQ (hx b n)]; exact n,fun b u q _=>?_,
    fun b xs q=>by rw [aQ (hm b _ q fun z=>z)]; exact q,fun b u xs q=>by rw [aQ (hm b _ q fun z=>z)]; exact q,fun b ps q=>by rw [aQ (hm b _ q fun z=>z)]; exact q⟩
  by_cases hbe:b=e
  · subst hbe; exact heo
  · exact ⟨u,k b u hbe q⟩
end
noncomputable def trk (h:Heap) (H:Hp):List Addr:=(List.range h.objs.size).filter fun a=>(H a).isSome
noncomputable def kF (h:Heap) (H:Hp):Heap:=PySem.W.hideAll h (trk h H)
theorem pq (h:Heap) (H:Hp):(kF h H).objs.size=h.objs.size:=PySem.W.hideAll_size _ _
theorem qT {h:Heap} {H:Hp} {b:Addr} {o:Obj} (e:h.get? b=some o) (n:H b=none):(kF h H).get? b=some o :=
  PySem.W.hideAll_get _ e fun hm=>by
    have q:(H b).isSome=true:=(List.mem_filter.mp hm).2
    rw [n] at q; simp at q
theorem sC {h:Heap} {H:Hp} {b:Addr} {o:Obj} (e:(kF h H).get? b=some o):h.get? b=some o∧H b=none:=by
  have e':h.get? b=some o:=PySem.W.of_hideAll (trk h H) e
  refine ⟨e',?_⟩
  cases q:H b with
  | none=>rfl
  | some x =>
    have hm:b∈trk h H:=List.mem_filter.mpr ⟨List.mem_range.mpr (Heap.lt_size e'),by simp [q]⟩
    have z:(kF h H).get? b=none:=PySem.W.hideAll_none (trk h H) hm
    rw [z] at e; cases e
end L2
namespace L2
open PySem PySem.Spec PyProof.Rows
structure Mod (K:PySem.W.Frag) (mg:Str→Option Value) (base:Heap):Prop where
  kin:K.In base
  glob:base.Ns mainGlobals mg
  blt:∃ mb,base.Ns builtinsNs mb∧∀ x:Str,x≠"__name__"→mb x=bootBuiltins x
  nolimit:base.NoLimit
noncomputable def og:List Str:=[]
noncomputable def TabOf (K:PySem.W.Frag) (P:Addr) (q:Str):Prop:=∃ x∈og,∃ f oc od fd sl c,PySem.W.nsIn K mainGlobals x=some (some (.ref f))∧K.lookup f=some ⟨oc,od,.func fd,sl⟩∧fd.code=.ref c∧(∃ o vs,K.lookup c=some o∧o.data=.fields vs∧vs[11]?=some (.ref P))∧q=x++".<locals>.<lambda>"
structure Cx where
  prog:Program
  w:World
  K:PySem.W.Frag
  mg:Str→Option Value
  base:Heap
  A:Around
  N:List Str
  s₀:Shared
  H₀:Hp
  env:Env
  outer:List Env
  stack:List Env
  ex:List Addr
  fn:Str→Bool
  calm:Bool
  pn:List (Addr × Obj)
  xe:Value→Shared→Prop
noncomputable def frs (l:List Env):List Addr:=l.filterMap (·.frame)
noncomputable abbrev Cx.fs (X:Cx):List Addr:=frs X.outer
noncomputable def Vis (sc:Scope) (x:Str):Prop:=sc.names.lookup x=some .local∨sc.names.lookup x=some .cell∨sc.names.lookup x=some .free
noncomputable def Loc (sc:Scope) (x:Str):Prop:=sc.names.lookup x=some .local∨sc.names.lookup x=some .cell
noncomputable def Look (env:Env) (h:Heap) (m:Str→Option Value) (x:Str) (u:Value):Prop :=
  (env.kindOf x=some .local∧m x=some u)∨((env.kindOf x=some .cell∨env.kindOf x=some .free)∧∃ c,env.cells.lookup x=some c∧h.IsCell c (some u))
structure Cx.Ok (X:Cx):Prop where
  mod:Mod X.K X.mg X.base
  kind:X.env.scope.kind=.function
  glob:X.env.globals=mainGlobals
  blt:X.env.builtins=builtinsNs
  above:X.s₀.heap.objs.size≤X.env.locals
  inj:∀ x y c,X.env.cells.lookup x=some c→X.env.cells.lookup y=some c→x=y
  has:∀ x,(X.env.kindOf x=some .cell∨X.env.kindOf x=some .free)→∃ c,X.env.cells.lookup x=some c
  cab:∀ x c,X.fn x=true→X.env.cells.lookup x=some c→X.s₀.heap.objs.size≤c
  hd:X.calm=true→X.A.handled=none
  frames:X.A.frames=some X.stack
  stk:X.stack=X.outer∨(X.stack=X.env::X.outer∧X.env.frame=some X.env.locals)
  exf:∀ b∈X.ex,b≠X.env.locals∧∀ x c,X.env.cells.lookup x=some c→c≠b
  bs:∀ b o,X.base.get? b=some o→X.s₀.heap.get? b=some o∧X.H₀ b=none
  bsz:X.base.objs.size≤X.s₀.heap.objs.size
  noex:∀ b o,X.base.get? b=some o→b ∉ X.ex
  exfs:∀ b∈X.ex,b ∉ X.fs
  funs:X.s₀.heap.FunFrames X.base X.outer
  frf:∀ b∈X.fs,X.H₀ b=none
structure Inv (X:Cx) (pins:List (Addr × Obj)) (σ:List (Option V)) (H:Hp) (s:Shared):Prop where
  ok:X.Ok
  os:s.os=X.s₀.os
  bare:AllBare s.gens
  base:Un X.fs X.ex X.H₀ H X.s₀.heap s.heap
  loc:∃ m,s.heap.Ns X.env.locals m∧∀ (i:Nat) (x:Str) (v:V),X.N[i]?=some x→σ[i]?=some (some v)→Vis X.env.scope x→∃ u,RelV v u∧Look X.env s.heap m x u
  cell:∀ x c,X.env.cells.lookup x=some c→∃ v,s.heap.IsCell c v
  free:H X.env.locals=none
  freeC:∀ x c,X.env.cells.lookup x=some c→H c=none
  pin:∀ p∈X.pn++pins,s.heap.get? p.1=some p.2∧H p.1=none∧p.1≠X.env.locals∧p.1 ∉ X.fs∧∀ v,p.2.data≠.cell v
  hok:HOk X.prog X.w H s.heap
  len:σ.length=X.N.length
  tab:∀ P q,TabOf X.K P q→H P=some (.tbl q)
section
variable {X:Cx} {pins:List (Addr × Obj)} {σ:List (Option V)} {H H':Hp} {s:Shared} {h':Heap}
theorem Cx.Ok.nofr (ok:X.Ok) {b:Addr} {o:Obj} (e:X.base.get? b=some o):b ∉ X.fs:=fun hb=>by
  have:=(ok.funs.mem hb).1
  rw [e] at this; cases this
theorem Inv.bs (I:Inv X pins σ H s):∀ b o,X.base.get? b=some o→s.heap.get? b=some o∧H b=none:=fun b o e =>
  ⟨I.base.keep b o (I.ok.bs b o e).1 (I.ok.bs b o e).2 (I.ok.nofr e) (I.ok.noex b o e),I.base.free b o (I.ok.bs b o e).1 (I.ok.bs b o e).2 (I.ok.noex b o e)⟩
theorem Inv.bk (I:Inv X pins σ H s):∀ b o,X.base.get? b=some o→s.heap.get? b=some o:=fun b o e=>(I.bs b o e).1
theorem Inv.mod (I:Inv X pins σ H s):Mod X.K X.mg X.base:=I.ok.mod
theorem Inv.kIn (I:Inv X pins σ H s):X.K.In s.heap:=I.ok.mod.kin.keeps I.bk
theorem Inv.lt (I:Inv X pins σ H s):X.env.locals < s.heap.objs.size:=let ⟨_,hn,_⟩:=I.loc; hn.lt
theorem Inv.sz (I:Inv X pins σ H s):X.s₀.heap.objs.size≤s.heap.objs.size:=Nat.le_trans I.ok.above (Nat.le_of_lt I.lt)
theorem Inv.nofs (I:Inv X pins σ H s) {a:Addr} (h:s.heap.objs.size≤a):a ∉ X.fs:=fun hb=>by
  obtain ⟨_,o,ho,_⟩:=I.ok.funs.mem hb
  exact absurd (Nat.lt_of_lt_of_le (Heap.lt_size ho) (Nat.le_trans I.sz h)) (Nat.lt_irrefl _)
theorem Inv.cne (I:Inv X pins σ H s):∀ x c,X.env.cells.lookup x=some c→c≠X.env.locals:=fun x c e z=>by
  obtain ⟨v,o,ho,hd⟩:=I.cell x c e
  obtain ⟨m,⟨o',es,ep,ho',hd',_⟩,_⟩:=I.loc
  rw [z,ho'] at ho; cases ho; rw [hd'] at hd; cases hd
theorem Inv.funs (I:Inv X pins σ H s):s.heap.FunFrames X.base X.outer:=by
  have all:∀ (l:List Env),(∀ b∈frs l,b∈X.fs)→X.s₀.heap.FunFrames X.base l→s.heap.FunFrames X.base l:=by
    intro l
    induction l with
    | nil=>intro _ _; trivial
    | cons env r ih =>
      intro hs hl
      obtain ⟨hk,⟨L,o,hf,hn,ho,hd⟩,hr⟩:=hl
      have hL:L∈X.fs:=hs L (by unfold frs; rw [List.filterMap_cons,hf]; exact List.mem_cons_self)
      obtain ⟨sl,e⟩:=I.base.slot L o ho (I.ok.frf L hL) hL fun z=>I.ok.exfs L z hL
      exact ⟨hk,⟨L,_,hf,hn,e,hd⟩,ih (fun b hb=>hs b (by unfold frs; rw [List.filterMap_cons,hf]; exact List.mem_cons_of_mem _ hb)) hr⟩
  exact all X.outer (fun _ hb=>hb) I.ok.funs
theorem Inv.stack (I:Inv X pins σ H s):s.heap.FunFrames X.base X.stack:=by
  rcases I.ok.stk with e | ⟨e,hf⟩
  · rw [e]; exact I.funs
  · rw [e]
    obtain ⟨m,hn,_⟩:=I.loc
    refine .cons (by rw [I.ok.kind]; decide) hf hn ?_ I.funs
    exact Heap.get?_none_of_le (Nat.le_trans I.ok.bsz I.ok.above)
theorem Inv.stkSub (I:Inv X pins σ H s):∀ b∈frs X.stack,b∈X.env.locals::X.fs:=fun b hb=>by
  rcases I.ok.stk with e | ⟨e,hf⟩
  · rw [e] at hb; exact List.mem_cons_of_mem _ hb
  · rw [e] at hb
    unfold frs at hb
    rw [List.filterMap_cons,hf] at hb
    exact hb
theorem Inv.stkFree (I:Inv X pins σ H s):∀ b∈frs X.stack,H b=none:=fun b hb=>by
  rcases List.mem_cons.mp (I.stkSub b hb) with e | hb
  · rw [e]; exact I.free
  · obtain ⟨_,o,ho,_⟩:=I.ok.funs.mem hb
    exact I.base.free b o ho (I.ok.frf b hb) fun z=>I.ok.exfs b z hb
theorem Inv.step {g':Array GenState} {t':Nat} {d':Drawn} {ch:List Addr} (I:Inv X pins σ H s)
    (hch:∀ b∈ch,(b∈X.ex∨X.s₀.heap.objs.size≤b)∧b≠X.env.locals∧(∀ x c,X.env.cells.lookup x=some c→c≠b)∧∀ p∈X.pn++pins,p.1≠b)
    (keep:∀ b o,b≠X.env.locals→b ∉ X.fs→b ∉ ch→s.heap.get? b=some o→H b=none→h'.get? b=some o)
    (slot:∀ b o,b≠X.env.locals→b∈X.fs→b ∉ ch→s.heap.get? b=some o→H b=none→∃ sl,h'.get? b=some { o with slots:=sl }) (free:∀ b o,b ∉ ch→s.heap.get? b=some o→H b=none→H' b=none)
    (there:∀ b o,b ∉ ch→s.heap.get? b=some o→∃ o',h'.get? b=some o')
    (tups:∀ b xs,H b=some (.tup xs)→H' b=some (.tup xs)) (frzs:∀ b o u,H b=some (.frz o u)→H' b=some (.frz o u)) (tbls:∀ b q,H b=some (.tbl q)→H' b=some (.tbl q))
    (ns:∀ m,s.heap.Ns X.env.locals m→h'.Ns X.env.locals m) (hok:HOk X.prog X.w H' h') (hg:AllBare g') :
    Inv X pins σ H' { s with heap:=h',gens:=g',drawn:=d',toks:=t' }:=by
  have neL:∀ b o,X.s₀.heap.get? b=some o→b≠X.env.locals:=fun b o e=>Nat.ne_of_lt (Nat.lt_of_lt_of_le (Heap.lt_size e) I.ok.above)
  have neC:∀ b o,X.s₀.heap.get? b=some o→b ∉ X.ex→b ∉ ch:=fun b o e hx hb=>by
    rcases (hch b hb).1 with z | z
    · exact hx z
    · exact absurd (Nat.lt_of_lt_of_le (Heap.lt_size e) z) (Nat.lt_irrefl _)
  have cellK:∀ x c,X.env.cells.lookup x=some c→∀ v,s.heap.IsCell c v→h'.IsCell c v:=fun x c e v ⟨o,ho,hd⟩=>by
    have nch:c ∉ ch:=fun z=>(hch c z).2.2.1 x c e rfl
    by_cases hc:c∈X.fs
    · obtain ⟨sl,q⟩:=slot c o (I.cne x c e) hc nch ho (I.freeC x c e)
      exact ⟨_,q,hd⟩
    · exact ⟨o,keep c o (I.cne x c e) hc nch ho (I.freeC x c e),hd⟩
  refine ⟨I.ok,I.os,hg,⟨fun b o e n hb hx=>?_,fun b o e n hb hx=>?_,fun b o e n hx=>?_,fun b o e hx=>?_,fun b xs e=>tups b xs (I.base.tups b xs e),fun b o xs e=>frzs b o xs (I.base.frzs b o xs e),fun b ps e=>?_⟩,?_,fun x c e=>?_,?_,fun x c e=>?_,fun p hp=>?_,hok,I.len,fun P q t=>tbls P q (I.tab P q t)⟩
  · exact keep b o (neL b o e) hb (neC b o e hx) (I.base.keep b o e n hb hx) (I.base.free b o e n hx)
  · obtain ⟨sl,e1⟩:=I.base.slot b o e n hb hx
    obtain ⟨sl',e2⟩:=slot b _ (neL b o e) hb (neC b o e hx) e1 (I.base.free b o e n hx)
    exact ⟨sl',e2⟩
  · obtain ⟨o',e1⟩:=I.base.there b o e hx
    exact free b o' (neC b o e hx) e1 (I.base.free b o e n hx)
  · obtain ⟨o',e1⟩:=I.base.there b o e hx
    exact there b o' (neC b o e hx) e1
  · exact tbls b _ (I.base.tbls b ps e)
  · obtain ⟨m,hn,hl⟩:=I.loc
    refine ⟨m,ns m hn,fun i x v e1 e2 e3=>?_⟩
    obtain ⟨u,r,l⟩:=hl i x v e1 e2 e3
    refine ⟨u,r,?_⟩
    rcases l with l | ⟨k,c,e,z⟩
    · exact .inl l
    · exact .inr ⟨k,c,e,cellK x c e _ z⟩
  · obtain ⟨v,z⟩:=I.cell x c e
    exact ⟨v,cellK x c e v z⟩
  · obtain ⟨m,⟨o,_,_,ho,_⟩,_⟩:=I.loc
    exact free _ o (fun z=>(hch _ z).2.1 rfl) ho I.free
  · obtain ⟨v,o,ho,hd⟩:=I.cell x c e
    exact free c o (fun z=>(hch c z).2.2.1 x c e rfl) ho (I.freeC x c e)
  · obtain ⟨e,n,ne,nf,d⟩:=I.pin p hp
    have nch:p.1 ∉ ch:=fun z=>(hch p.1 z).2.2.2 p hp rfl
    exact ⟨keep p.1 p.2 ne nf nch e n,free p.1 p.2 nch e n,ne,nf,d⟩
theorem Inv.un {t':Nat} (I:Inv X pins σ H s) (u:Un X.fs [] H H' s.heap h') (hok:HOk X.prog X.w H' h'):Inv X pins σ H' { s with heap:=h',toks:=t' }:=by
  obtain ⟨m,⟨o,es,ep,ho,r⟩,_⟩:=id I.loc
  obtain ⟨sl,hL⟩:=u.any ho I.free (by simp)
  exact I.step (g':=s.gens) (d':=s.drawn) (ch:=[]) (fun _ z=>nomatch z) (fun b o _ hb _ e n=>u.keep b o e n hb (by simp)) (fun b o _ hb _ e n=>u.slot b o e n hb (by simp)) (fun b o _ e n=>u.free b o e n (by simp)) (fun b o _ e=>u.there b o e (by simp)) u.tups u.frzs u.tbls (fun m' hm=>by
    obtain ⟨o',es',ep',ho',r'⟩:=hm
    rw [ho] at ho'; cases ho'
    exact ⟨_,es',ep',hL,r'⟩) hok I.bare
theorem Inv.call {g':Array GenState} {t':Nat} {d':Drawn} {ch:List Addr} (I:Inv X pins σ H s) (u:Un (frs X.stack) ch H H' s.heap h') (hok:HOk X.prog X.w H' h') (hg:AllBare g')
    (hch:∀ b∈ch,(b∈X.ex∨X.s₀.heap.objs.size≤b)∧b≠X.env.locals∧(∀ x c,X.env.cells.lookup x=some c→c≠b)∧∀ p∈X.pn++pins,p.1≠b) :
    Inv X pins σ H' { s with heap:=h',gens:=g',drawn:=d',toks:=t' }:=by
  obtain ⟨m,⟨o,es,ep,ho,r⟩,_⟩:=id I.loc
  obtain ⟨sl,hL⟩:=u.any ho I.free fun z=>(hch _ z).2.1 rfl
  exact I.step (ch:=ch) hch (fun b o hL hb hc e n=>u.keep b o e n (fun z=>(List.mem_cons.mp (I.stkSub b z)).elim hL hb) hc) (fun b o _ _ hc e n=>u.any e n hc) (fun b o hc e n=>u.free b o e n hc) (fun b o hc e=>u.there b o e hc) u.tups u.frzs u.tbls (fun m' hm=>by
    obtain ⟨o',es',ep',ho',r'⟩:=hm
    rw [ho] at ho'; cases ho'
    exact ⟨_,es',ep',hL,r'⟩) hok hg
theorem Inv.turned {t':Nat} {it:Addr} (I:Inv X pins σ H s) (k:∀ b o,b≠it→s.heap.get? b=some o→h'.get? b=some o) (hn:H it=none) (hL:it≠X.env.locals)
    (h1:it∈X.ex∨X.s₀.heap.objs.size≤it) (h2:∀ x c,X.env.cells.lookup x=some c→c≠it) (h3:∀ p∈X.pn++pins,p.1≠it):Inv X pins σ H { s with heap:=h',toks:=t' }:=by
  have nit:∀ b u,H b=some u→b≠it:=fun b u e z=>by rw [z,hn] at e; cases e
  refine I.step (g':=s.gens) (d':=s.drawn) (ch:=[it]) (fun b hb=>?_) (fun b o _ _ hc e _=>k b o (fun z=>hc (by simp [z])) e) (fun b o _ _ hc e _=>⟨o.slots,k b o (fun z=>hc (by simp [z])) e⟩) (fun _ _ _ _ n=>n)
    (fun b o hc e=>⟨o,k b o (fun z=>hc (by simp [z])) e⟩) (fun _ _ e=>e) (fun _ _ _ e=>e) (fun b ps e=>e) (fun m hm=>?_) (fun b u e=>?_) I.bare
  · have e:b=it:=by simpa using hb
    subst e
    exact ⟨h1,hL,h2,h3⟩
  · obtain ⟨o,es,ep,ho,r⟩:=hm
    exact ⟨o,es,ep,k _ o (Ne.symm hL) ho,r⟩
  · refine (I.hok b u e).stay (fun c v hc q=>k c v ?_ q) (fun _ q=>q) fun _ _ q=>q
    rcases hc with z | z
    · rw [z]; exact nit b u e
    · exact nit c _ z
theorem Inv.tok (I:Inv X pins σ H s) (t:Nat):Inv X pins σ H { s with toks:=t }:=I.un (h':=s.heap) (t':=t) Un.refl I.hok
theorem Inv.kept {t':Nat} (I:Inv X pins σ H s) (k:∀ b u,s.heap.get? b=some u→h'.get? b=some u):Inv X pins σ H { s with heap:=h',toks:=t' }:=I.un (Un.kept k) (I.hok.kept k)
theorem Inv.laid {a:Addr} {o:HO} {t':Nat} (I:Inv X pins σ H s) (k:∀ b u,s.heap.get? b=some u→h'.get? b=some u) (hp:s.heap.objs.size≤a) (new:cF X.prog X.w (upd H a o) h' a o) :
    Inv X pins σ (upd H a o) { s with heap:=h',toks:=t' }:=I.un (Un.laid k hp (I.hok.fresh hp)) (I.hok.laid k hp new)
theorem Inv.write {x e:Addr} {o:HO} {t':Nat} (I:Inv X pins σ H s) (mu:Mut (H x)) (he:e=x∨H e=some (.own x)) (k:∀ b u,b≠e→s.heap.get? b=some u→h'.get? b=some u) (heo:∃ u,h'.get? e=some u)
    (new:cF X.prog X.w (upd H x o) h' x o):Inv X pins σ (upd H x o) { s with heap:=h',toks:=t' }:=I.un (Un.write mu he k heo) (I.hok.write mu he k heo new)
theorem Inv.pins_of {pins':List (Addr × Obj)} (I:Inv X pins σ H s) (h:∀ p∈pins',s.heap.get? p.1=some p.2∧H p.1=none∧p.1≠X.env.locals∧p.1 ∉ X.fs∧∀ v,p.2.data≠.cell v):Inv X pins' σ H s :=
  ⟨I.ok,I.os,I.bare,I.base,I.loc,I.cell,I.free,I.freeC,fun p hp=>(List.mem_append.mp hp).elim (fun z=>I.pin p (List.mem_append_left _ z)) (h p),I.hok,I.len,I.tab⟩
theorem mr {N:List Str} (hN:N.Nodup) {i j:Nat} {x:Str} (a:N[i]?=some x) (b:N[j]?=some x):i=j:=by
  obtain ⟨h1,e1⟩:=List.getElem?_eq_some_iff.mp a
  obtain ⟨h2,e2⟩:=List.getElem?_eq_some_iff.mp b
  exact (List.getElem_inj hN).mp (e1.trans e2.symm)
theorem o7 {M:Model} {A:Around} {E:Value→Shared→Prop} {i:Nat} {x:Str} {v:V} {u:Value} {Q:Unit→Shared→Prop} (I:Inv X pins σ H s) (hN:X.N.Nodup) (hi:X.N[i]?=some x) (hx:Loc X.env.scope x) (r:RelV v u)
    (h:∀ s',Inv X pins (σ.set i (some v)) H s'→(∃ a,Heap.SameBut a s.heap s'.heap∧(a=X.env.locals∨X.env.cells.lookup x=some a))→Q () s') (hf:X.fn x=true∨X.env.scope.names.lookup x=some .local:=by first | exact .inl rfl | exact .inr rfl | assumption):wpAny M A (storeName X.env x u) Q E s:=by
  obtain ⟨m,hn,hl⟩:=id I.loc
  have hcls:(X.env.scope.kind == .class || (X.env.scope.kind == .module && X.env.locals != X.env.globals))=false:=by rw [I.ok.kind]; rfl
  have hiσ:i < σ.length:=by rw [I.len]; exact (List.getElem?_eq_some_iff.mp hi).1
  have cne:=I.cne
  have tracked:∀ {a:Addr} {h':Heap},(∃ o,s.heap.get? a=some o∧H a=none)→Heap.SameBut a s.heap h'→HOk X.prog X.w H h':=fun {a h'} ha hs b ob e=>by
    obtain ⟨_,_,hfree⟩:=ha
    refine (I.hok b ob e).stay (fun c w' hc q=>(hs.2 c ?_).trans q) (fun _ q=>q) fun _ _ q=>q
    rintro rfl
    rcases hc with rfl | hc
    · rw [hfree] at e; cases e
    · rw [hfree] at hc; cases hc
  rcases hx with hk | hk
  · refine wpAny_storeName_local hk hn (fun h' hn' hs=>?_) hcls
    obtain ⟨oL,_,_,hoL,_⟩:=id hn
    refine h _ ⟨I.ok,I.os,I.bare,⟨fun b o e n hb hx=>?_,fun b o e n hb hx=>?_,I.base.free,fun b o e hx=>?_,I.base.tups,I.base.frzs,I.base.tbls⟩,⟨_,hn',fun j y v' e1 e2 e3=>?_⟩,fun y c e=>?_,I.free,I.freeC,fun p hp=>?_,tracked ⟨oL,hoL,I.free⟩ hs,by simpa using I.len,I.tab⟩ ⟨_,hs,.inl rfl⟩
    · exact (hs.2 b (Nat.ne_of_lt (Nat.lt_of_lt_of_le (Heap.lt_size e) I.ok.above))).trans (I.base.keep b o e n hb hx)
    · obtain ⟨sl,e1⟩:=I.base.slot b o e n hb hx
      exact ⟨sl,(hs.2 b (Nat.ne_of_lt (Nat.lt_of_lt_of_le (Heap.lt_size e) I.ok.above))).trans e1⟩
    · obtain ⟨o',e1⟩:=I.base.there b o e hx
      exact ⟨o',(hs.2 b (Nat.ne_of_lt (Nat.lt_of_lt_of_le (Heap.lt_size e) I.ok.above))).trans e1⟩
    · by_cases hj:j=i
      · subst hj
        rw [hi] at e1; cases e1
        rw [List.getElem?_set_self hiσ] at e2
        cases e2
        exact ⟨u,r,.inl ⟨hk,by simp⟩⟩
      · rw [List.getElem?_set_ne (Ne.symm hj)] at e2
        obtain ⟨u',r',q⟩:=hl j y v' e1 e2 e3
        refine ⟨u',r',?_⟩
        rcases q with ⟨k,e⟩ | ⟨k,c,e,z⟩
        · refine .inl ⟨k,?_⟩
          have:y≠x:=fun e=>hj (mr hN e1 (e ▸ hi))
          simp [this,e]
        · exact .inr ⟨k,c,e,z.sameBut hs (cne y c e)⟩
    · obtain ⟨w',z⟩:=I.cell y c e
      exact ⟨w',z.sameBut hs (cne y c e)⟩
    · obtain ⟨e,n,ne,nf,d⟩:=I.pin p hp
      exact ⟨(hs.2 p.1 ne).trans e,n,ne,nf,d⟩
  · have hfn:X.fn x=true:=by
      rcases hf with z | z
      · exact z
      · rw [z] at hk; cases hk
    obtain ⟨c,hc⟩:=I.ok.has x (.inl hk)
    obtain ⟨w',z⟩:=I.cell x c hc
    refine wpAny_storeName_cell I.ok.kind hk hc z (fun h' hc' hs=>?_)
    obtain ⟨oc,hoc,hocd⟩:=id z
    refine h { s with heap:=h' } ⟨I.ok,I.os,I.bare,⟨fun b o e n hb hx=>?_,fun b o e n hb hx=>?_,I.base.free,fun b o e hx=>?_,I.base.tups,I.base.frzs,I.base.tbls⟩,⟨m,hn.sameBut hs (Ne.symm (cne x c hc)),fun j y v' e1 e2 e3=>?_⟩,fun y c' e=>?_,I.free,I.freeC,fun p hp=>?_,tracked ⟨oc,hoc,I.freeC x c hc⟩ hs,by simpa using I.len,I.tab⟩ ⟨c,hs,.inr hc⟩
    · exact (hs.2 b (Nat.ne_of_lt (Nat.lt_of_lt_of_le (Heap.lt_size e) (I.ok.cab x c hfn hc)))).trans (I.base.keep b o e n hb hx)
    · obtain ⟨sl,e1⟩:=I.base.slot b o e n hb hx
      exact ⟨sl,(hs.2 b (Nat.ne_of_lt (Nat.lt_of_lt_of_le (Heap.lt_size e) (I.ok.cab x c hfn hc)))).trans e1⟩
    · obtain ⟨o',e1⟩:=I.base.there b o e hx
      exact ⟨o',(hs.2 b (Nat.ne_of_lt (Nat.lt_of_lt_of_le (Heap.lt_size e) (I.ok.cab x c hfn hc)))).trans e1⟩
    · by_cases hj:j=i
      · subst hj
        rw [hi] at e1; cases e1
        rw [List.getElem?_set_self hiσ] at e2
        cases e2
        exact ⟨u,r,.inr ⟨.inl hk,c,hc,hc'⟩⟩
      · rw [List.getElem?_set_ne (Ne.symm hj)] at e2
        obtain ⟨u',r',q⟩:=hl j y v' e1 e2 e3
        refine ⟨u',r',?_⟩
        rcases q with q | ⟨k,c',e,z'⟩
        · exact .inl q
        · refine .inr ⟨k,c',e,z'.sameBut hs ?_⟩
          rintro rfl
          exact hj (mr hN e1 (I.ok.inj _ _ _ e hc ▸ hi))
    · by_cases hcc:c'=c
      · subst hcc; exact ⟨_,hc'⟩
      · obtain ⟨w2,z2⟩:=I.cell y c' e
        exact ⟨w2,z2.sameBut hs hcc⟩
    · obtain ⟨e,n,ne,nf,d⟩:=I.pin p hp
      refine ⟨(hs.2 p.1 ?_).trans e,n,ne,nf,d⟩
      intro q
      rw [q,hoc] at e
      have q':oc=p.2:=Option.some.inj e
      exact d w' (by rw [← q']; exact hocd)
theorem jb {M:Model} {A:Around} {E:Value→Shared→Prop} {i:Nat} {x:Str} {v:V} {u:Value} {Q:Unit→Shared→Prop} (I:Inv X pins σ H s) (hN:X.N.Nodup) (hi:X.N[i]?=some x) (hx:Loc X.env.scope x) (r:RelV v u)
    (h:∀ s',Inv X pins (σ.set i (some v)) H s'→Q () s') (hf:X.fn x=true∨X.env.scope.names.lookup x=some .local:=by first | exact .inl rfl | exact .inr rfl | assumption):wpAny M A (storeName X.env x u) Q E s :=
  o7 I hN hi hx r (fun s' I' _=>h s' I') hf
theorem Inv.call' {s':Shared} {ch:List Addr} (I:Inv X pins σ H s) (ho:s'.os=s.os) (u:Un (frs X.stack) ch H H' s.heap s'.heap) (hok:HOk X.prog X.w H' s'.heap) (hg:AllBare s'.gens)
    (hch:∀ b∈ch,(b∈X.ex∨X.s₀.heap.objs.size≤b)∧b≠X.env.locals∧(∀ x c,X.env.cells.lookup x=some c→c≠b)∧∀ p∈X.pn++pins,p.1≠b):Inv X pins σ H' s':=by
  obtain ⟨h',g',d',t',o'⟩:=s'
  have e:o'=s.os:=ho
  subst e
  exact I.call (g':=g') (t':=t') (d':=d') u hok hg hch
end
noncomputable abbrev XK:=Value→Option Addr→Hp→Prop
noncomputable abbrev St:=List (Option V)
noncomputable abbrev VK:=V→Hp→Prop
noncomputable abbrev TE:=St→Hp→VK→Prop
noncomputable abbrev TT:=St→Hp→(Bool→Hp→Prop)→Prop
noncomputable abbrev TA:=St→Hp→(List V→Hp→Prop)→Prop
structure Ends where
  nx:St→Hp→Prop
  rt:VK
  bk:St→Hp→Prop:=fun _ _=>False
  ct:St→Hp→Prop:=fun _ _=>False
noncomputable abbrev TS:=Ends→St→Hp→Prop
noncomputable def EP (X:Cx) (pins:List (Addr × Obj)) (σ:St) (Q:VK) (u:Value) (s':Shared):Prop:=∃ v H',Inv X pins σ H' s'∧RelV v u∧Q v H'
noncomputable def TP (X:Cx) (pins:List (Addr × Obj)) (σ:St) (Q:Bool→Hp→Prop) (b:Bool) (s':Shared):Prop:=∃ H',Inv X pins σ H' s'∧Q b H'
noncomputable def AP (X:Cx) (pins:List (Addr × Obj)) (σ:St) (Q:List V→Hp→Prop) (us:List Value) (s':Shared):Prop:=∃ vs H',Inv X pins σ H' s'∧Vals vs us∧Q vs H'
noncomputable def SP (X:Cx) (pins:List (Addr × Obj)) (D:Ends) (f:Flow) (s':Shared):Prop :=
  match f with
  | .next=>∃ σ' H',Inv X pins σ' H' s'∧D.nx σ' H'
  | .brk=>∃ σ' H',Inv X pins σ' H' s'∧D.bk σ' H'
  | .cont=>∃ σ' H',Inv X pins σ' H' s'∧D.ct σ' H'
  | .ret u=>∃ v σ' H',Inv X pins σ' H' s'∧RelV v u∧D.rt v H'
noncomputable def PE (X:Cx) (e:Expr) (t:TE):Prop :=
  ∀ (pins:List (Addr × Obj)) (s:Shared) (σ:St) (H:Hp) (Q:VK),Inv X pins σ H s→t σ H Q→wpAny (model X.prog X.w) X.A (eval e X.env) (EP X pins σ Q) X.xe s
noncomputable def PT (X:Cx) (e:Expr) (t:TT):Prop :=
  ∀ (pins:List (Addr × Obj)) (s:Shared) (σ:St) (H:Hp) (Q:Bool→Hp→Prop),Inv X pins σ H s→t σ H Q→wpAny (model X.prog X.w) X.A (isTrue e X.env (eval e X.env)) (TP X pins σ Q) X.xe s
noncomputable def PW (X:Cx) (e:Expr) (t:TT):Prop :=
  ∀ (whole:Sem Value) (pins:List (Addr × Obj)) (s:Shared) (σ:St) (H:Hp) (Q:Bool→Hp→Prop),Inv X pins σ H s→t σ H Q→wpAny (model X.prog X.w) X.A (isTrue e X.env whole) (TP X pins σ Q) X.xe s
theorem PW.pt {X:Cx} {e:Expr} {t:TT} (h:PW X e t):PT X e t:=h _
noncomputable def PA (X:Cx) (es:List Expr) (t:TA):Prop :=
  ∀ (pos:Pos) (pins:List (Addr × Obj)) (s:Shared) (σ:St) (H:Hp) (Q:List V→Hp→Prop),Inv X pins σ H s→t σ H Q→wpAny (model X.prog X.w) X.A (spliced (backTo pos (starEach es X.env))) (AP X pins σ Q) X.xe s
noncomputable def PS (X:Cx) (st:Stmt) (t:TS):Prop :=
  ∀ (pins:List (Addr × Obj)) (s:Shared) (σ:St) (H:Hp) (D:Ends),Inv X pins σ H s→t D σ H→wpAny (model X.prog X.w) X.A (exec st X.env) (SP X pins D) X.xe s
noncomputable def PSs (X:Cx) (st:List Stmt) (t:TS):Prop :=
  ∀ (pins:List (Addr × Obj)) (s:Shared) (σ:St) (H:Hp) (D:Ends),Inv X pins σ H s→t D σ H→wpAny (model X.prog X.w) X.A (execs st X.env) (SP X pins D) X.xe s
theorem thn {α:Type} {t:Sem α} {Q Q':α→Shared→Prop} {M:Model} {A:Around} {E:Value→Shared→Prop} {s:Shared} (h:wpAny M A t Q E s) (hQ:∀ a s,Q a s→Q' a s):wpAny M A t Q' E s:=wpAny_mono h hQ fun _ _ x=>x
end L2
namespace L2
open PySem PySem.Spec PyProof.Rows
section
variable {X:Cx}
theorem bin {a b:Expr} {ta tb:TE} (ha:PE X a ta) (hb:PE X b tb) {pins:List (Addr × Obj)} {s:Shared} {σ:St} {H:Hp} {R:V→V→Hp→Prop} (I:Inv X pins σ H s) (h:ta σ H fun x H1=>tb σ H1 fun y H2=>R x y H2)
    {α:Type} {Q:α→Shared→Prop} {f:Value→Value→Sem α}
    (hf:∀ v u s2 x y H2,Inv X pins σ H2 s2→RelV x v→RelV y u→R x y H2→wpAny (model X.prog X.w) X.A (f v u) Q X.xe s2) :
    wpAny (model X.prog X.w) X.A (eval a X.env) (fun v s₁=>wpAny (model X.prog X.w) X.A (eval b X.env) (fun u s₂=>wpAny (model X.prog X.w) X.A (f v u) Q X.xe s₂) X.xe s₁) X.xe s:=by
  refine thn (ha pins s σ H _ I h) fun v s1 ⟨x,H1,I1,r1,q1⟩=>?_
  refine thn (hb pins s1 σ H1 _ I1 q1) fun u s2 ⟨y,H2,I2,r2,q2⟩=>?_
  exact hf v u s2 x y H2 I2 r1 r2 q2
noncomputable def vo (i:Nat):TE:=fun σ H Q=>∃ v,σ[i]?=some (some v)∧Q v H
noncomputable def tC (v:V):TE:=fun _ H Q=>Q v H
theorem fL {i:Nat} {x:Str} {pos:Pos} (hN:X.N[i]?=some x) (hv:Vis X.env.scope x) (hd:(x == ("__debug__":Str))=false:=by decide) (hcd:(x == ("__classdict__":Str))=false:=by decide):PE X (.Name x pos) (vo i):=by
  intro pins s σ H Q I h
  obtain ⟨v,e,h⟩:=h
  obtain ⟨m,hn,hl⟩:=I.loc
  obtain ⟨u,r,l⟩:=hl i x v hN e hv
  have fin:EP X pins σ Q u s:=⟨v,H,I,r,h⟩
  rcases l with ⟨hk,hm⟩ | ⟨hk,c,hc,hcell⟩
  · exact wpAny_Name (wpAny_loadName_local I.ok.kind hk hn hm fin) hd
  · rcases hk with hk | hk
    · exact wpAny_Name (wpAny_loadName_cell I.ok.kind hk hc hcell fin) hd
    · exact wpAny_Name (wpAny_loadName_free I.ok.kind hk hc hcell fin hcd) hd
theorem eR {i j pos}:PE X (.Constant (.int i) j pos) (tC (.int i)):=fun _ _ _ H _ I h=>wpAny_Constant_int ⟨.int i,H,I.tok _,⟨_,rfl⟩,h⟩
theorem wA {b j pos}:PE X (.Constant (.bool b) j pos) (tC (.bl b)):=fun _ _ _ H _ I h=>Constant_bool ⟨.bl b,H,I,rfl,h⟩
theorem uo {j pos}:PE X (.Constant .none j pos) (tC .non):=fun _ _ _ H _ I h=>Constant_none ⟨.non,H,I,rfl,h⟩
theorem qu {x j pos}:PE X (.Constant (.str x) j pos) (tC (.str x)):=fun _ _ _ H _ I h=>Calls.Constant_str ⟨.str x,H,I.tok _,⟨_,rfl⟩,h⟩
noncomputable def Gl (X:Cx) (x:Str):Prop:=X.env.kindOf x=some .globalImplicit
theorem gX {E:Value→Shared→Prop} {pins:List (Addr × Obj)} {s:Shared} {σ:St} {H:Hp} {x:Str} {u:Value} {pos:Pos} {Q:Value→Shared→Prop} (I:Inv X pins σ H s) (hg:Gl X x) (hm:X.mg x=some u) (h:Q u s)
    (hd:(x == ("__debug__":Str))=false:=by decide):wpAny (model X.prog X.w) X.A (eval (.Name x pos) X.env) Q E s :=
  Calls.Name_function_global I.ok.kind hg (Calls.loadGlobal_global (by rw [I.ok.glob]; exact I.mod.glob.keeps I.bk) hm h) hd
theorem d5 {E:Value→Shared→Prop} {pins:List (Addr × Obj)} {s:Shared} {σ:St} {H:Hp} {x:Str} {u:Value} {pos:Pos} {Q:Value→Shared→Prop} (I:Inv X pins σ H s) (hg:Gl X x) (hm:X.mg x=none) (hv:bootBuiltins x=some u) (h:Q u s)
    (hn:x≠"__name__":=by decide) (hd:(x == ("__debug__":Str))=false:=by decide):wpAny (model X.prog X.w) X.A (eval (.Name x pos) X.env) Q E s:=by
  obtain ⟨mb,h1,h2⟩:=I.mod.blt
  exact Calls.Name_function_global I.ok.kind hg (Calls.loadGlobal_builtin (by rw [I.ok.glob]; exact I.mod.glob.keeps I.bk) hm (by rw [I.ok.blt]; exact h1.keeps I.bk) ((h2 x hn).trans hv) h) hd
theorem k8 {x:Str} {v:V} {u:Value} {pos:Pos} (hg:Gl X x) (hm:X.mg x=some u) (r:RelV v u) (hd:(x == ("__debug__":Str))=false:=by decide):PE X (.Name x pos) (tC v) :=
  fun _ _ _ H _ I h=>gX I hg hm ⟨v,H,I,r,h⟩ hd
theorem n9 {x:Str} {v:V} {u:Value} {pos:Pos} (hg:Gl X x) (hm:X.mg x=none) (hv:bootBuiltins x=some u) (r:RelV v u) (hn:x≠"__name__":=by decide) (hd:(x == ("__debug__":Str))=false:=by decide):PE X (.Name x pos) (tC v) :=
  fun _ _ _ H _ I h=>d5 I hg hm hv ⟨v,H,I,r,h⟩ hn hd
noncomputable def t2I (ta tb:TE) (k:Int→Int→Hp→Prop):St→Hp→Prop:=fun σ H=>ta σ H fun x H1=>tb σ H1 fun y H2=>∃ i j,x=.int i∧y=.int j∧k i j H2
variable {a b:Expr} {ta tb:TE} {pos:Pos}
noncomputable def PC (X:Cx) (op:CmpOp) (a b:Expr) (t:TE):Prop :=
  ∀ (pins:List (Addr × Obj)) (s:Shared) (σ:St) (H:Hp) (Q:VK),Inv X pins σ H s→t σ H Q →
    wpAny (model X.prog X.w) X.A (eval a X.env) (fun v s₁=>wpAny (model X.prog X.w) X.A (eval b X.env) (fun u s₂=>wpAny (model X.prog X.w) X.A (compareOp op v u) (EP X pins σ Q) X.xe s₂) X.xe s₁) X.xe s
theorem lK (b:Expr) {op:CmpOp} (h:op≠.In) (h2:op≠.NotIn):behindInMarks op b=false:=by
  have e1:(op == CmpOp.In)=false:=by cases op <;> first | rfl | exact absurd rfl h
  have e2:(op == CmpOp.NotIn)=false:=by cases op <;> first | rfl | exact absurd rfl h2
  cases b <;> simp [behindInMarks,e1,e2]
noncomputable def wu (p:Int→Int→Bool) (ta tb:TE):TE:=fun σ H Q=>t2I ta tb (fun i j H2=>Q (.bl (p i j)) H2) σ H
noncomputable abbrev tLt:TE→TE→TE:=wu fun i j=>decide (i < j)
theorem uu {op:CmpOp} {p:Int→Int→Bool} (ha:PE X a ta) (hb:PE X b tb)
    (rule:∀ (i j:Int) (t u:Tok) (Q:Value→Shared→Prop) (s:Shared),Q (.bool (p i j)) s→wpAny (model X.prog X.w) X.A (compareOp op (.int i t) (.int j u)) Q X.xe s):PC X op a b (wu p ta tb):=by
  intro pins s σ H Q I h
  refine bin ha hb I h fun v u s2 x y H2 I2 rx ry q=>?_
  obtain ⟨i,j,rfl,rfl,q⟩:=q
  obtain ⟨t,rfl⟩:=rx
  obtain ⟨t',rfl⟩:=ry
  exact rule i j t t' _ s2 ⟨.bl _,H2,I2,rfl,q⟩
theorem v9 (ha:PE X a ta) (hb:PE X b tb):PC X .Lt a b (tLt ta tb):=uu ha hb fun _ _ _ _ _ _ h=>lt_int h
noncomputable def wX (ta:TE):TE:=fun σ H Q=>ta σ H fun x H1=>Q (.bl (decide (x=.non))) H1
noncomputable def v5 (ta:TE):TE:=fun σ H Q=>ta σ H fun x H1=>Q (.bl (!decide (x=.non))) H1
theorem RelV.none_iff {x:V} {v:Value} (r:RelV x v):(v == Value.none)=decide (x=.non):=by
  cases x with
  | non=>cases r; rfl
  | bl _=>cases r; rfl
  | int _=>obtain ⟨t,rfl⟩:=r; rfl
  | str _=>obtain ⟨t,rfl⟩:=r; rfl
  | byt _=>obtain ⟨t,rfl⟩:=r; rfl
  | flt _=>obtain ⟨t,rfl⟩:=r; rfl
  | ref _=>cases r; rfl
  | ty _=>cases r; rfl
theorem ue {j pos'} (ha:PE X a ta):PC X .Is a (.Constant .none j pos') (wX ta):=by
  intro pins s σ H Q I h
  refine thn (ha pins s σ H _ I h) fun v s1 ⟨x,H1,I1,r1,q1⟩=>?_
  exact Constant_none (is_none_gen ⟨.bl _,H1,I1,by rw [r1.none_iff]; rfl,q1⟩)
theorem oK {j pos'} (ha:PE X a ta):PC X .IsNot a (.Constant .none j pos') (v5 ta):=by
  intro pins s σ H Q I h
  refine thn (ha pins s σ H _ I h) fun v s1 ⟨x,H1,I1,r1,q1⟩=>?_
  exact Constant_none (isnot_none_gen ⟨.bl _,H1,I1,by rw [r1.none_iff]; rfl,q1⟩)
noncomputable def tB (t:TE):TT:=fun σ H Q=>t σ H fun x H1=>∃ c,x=.bl c∧Q c H1
theorem qM {op:CmpOp} {t:TE} (h:PC X op a b t) (h1:behindInMarks op b=false:=by first | exact lK _ (by decide) (by decide) | rfl):PE X (.Compare a [op] [b] pos) t:=fun pins s σ H Q I hw=>wpAny_Compare1 (h pins s σ H Q I hw) h1
theorem rJ {op:CmpOp} {t:TE} (h:PC X op a b t) (h1:behindInMarks op b=false:=by first | exact lK _ (by decide) (by decide) | rfl):PT X (.Compare a [op] [b] pos) (tB t):=by
  intro pins s σ H Q I hw
  refine wpAny_isTrue_Compare1 (thn (h pins s σ H _ I hw) fun v s1 h1=>thn h1 fun u s2 h2=>thn h2 fun c s3 ⟨x,H1,I1,r1,q1⟩=>?_) h1
  obtain ⟨d,rfl,q⟩:=q1
  cases r1
  exact wpAny_truthy_bool ⟨H1,I1,q⟩
theorem uv {e:Expr} {t:TE} (h:PE X e t) (he:∀ whole,isTrue e X.env whole=(do let v ← whole; standAt e.pos; holding [v] (truthy v)):=by intro _; rfl):PT X e (tB t):=by
  intro pins s σ H Q I hw
  refine isTrue_plain (thn (h pins s σ H _ I hw) fun v s1 ⟨x,H1,I1,r1,q1⟩=>?_) (he _)
  obtain ⟨d,rfl,q⟩:=q1
  cases r1
  exact wpAny_truthy_bool ⟨H1,I1,q⟩
variable {tA tB':TT} {rest:List Expr}
noncomputable def tOr (t u:TT):TT:=fun σ H Q=>t σ H fun c H1=>if c=true then Q true H1 else u σ H1 Q
noncomputable def xa (t:TT):TT:=fun σ H Q=>t σ H fun c H1=>Q (!c) H1
theorem u5 (ha:PT X a tA):PW X (.BoolOp .Or [a] pos) tA:=by
  intro wh pins s σ H Q I h
  refine isTrue_or (thn (ha pins s σ H Q I h) fun c s1 e=>?_)
  cases c with
  | false=>exact isTrue_or_nil e
  | true=>exact e
theorem vT (ha:PT X a tA) (hb:PW X (.BoolOp .Or (b::rest) pos) tB'):PW X (.BoolOp .Or (a::b::rest) pos) (tOr tA tB'):=by
  intro wh pins s σ H Q I h
  refine isTrue_or (thn (ha pins s σ H _ I h) fun c s1 ⟨H1,I1,q1⟩=>?_)
  cases c with
  | true=>exact ⟨H1,I1,q1⟩
  | false=>exact hb wh pins s1 σ H1 Q I1 q1
theorem t7 (ha:PT X a tA):PT X (.UnaryOp .Not a pos) (xa tA):=by
  intro pins s σ H Q I h
  exact isTrue_not (ha pins s σ H (fun c H1=>Q (!c) H1) I h)
noncomputable def vP (ta tb:TE):TE:=fun σ H Q=>ta σ H fun x H1=>∃ c,x=.bl c∧if c=true then tb σ H1 Q else Q (.bl false) H1
noncomputable def xo (ta tb:TE):TE:=fun σ H Q=>ta σ H fun x H1=>∃ c,x=.bl c∧if c=true then Q (.bl true) H1 else tb σ H1 Q
noncomputable def vM (ta:TE):TE:=fun σ H Q=>ta σ H fun x H1=>∃ c,x=.bl c∧Q (.bl (!c)) H1
theorem rG {op} {t:TE} (h:PE X a t):PE X (.BoolOp op [a] pos) t:=fun pins s σ H Q I hw=>BoolOp_one (h pins s σ H Q I hw)
theorem qY (ha:PE X a ta) (hb:PE X (.BoolOp .And (b::rest) pos) tb):PE X (.BoolOp .And (a::b::rest) pos) (vP ta tb):=by
  intro pins s σ H Q I h
  refine BoolOp_and (thn (ha pins s σ H _ I h) fun v s1 ⟨x,H1,I1,r1,q1⟩=>?_)
  obtain ⟨c,rfl,q1⟩:=q1
  cases r1
  refine wpAny_truthy_bool ?_
  cases c with
  | true=>exact hb pins s1 σ H1 Q I1 q1
  | false=>exact ⟨.bl false,H1,I1,rfl,q1⟩
theorem wa (ha:PE X a ta) (hb:PE X (.BoolOp .Or (b::rest) pos) tb):PE X (.BoolOp .Or (a::b::rest) pos) (xo ta tb):=by
  intro pins s σ H Q I h
  refine BoolOp_or (thn (ha pins s σ H _ I h) fun v s1 ⟨x,H1,I1,r1,q1⟩=>?_)
  obtain ⟨c,rfl,q1⟩:=q1
  cases r1
  refine wpAny_truthy_bool ?_
  cases c with
  | false=>exact hb pins s1 σ H1 Q I1 q1
  | true=>exact ⟨.bl true,H1,I1,rfl,q1⟩
theorem t6 (ha:PE X a ta):PE X (.UnaryOp .Not a pos) (vM ta):=by
  intro pins s σ H Q I h
  refine UnaryOp_ (thn (ha pins s σ H _ I h) fun v s1 ⟨x,H1,I1,r1,q1⟩=>?_)
  obtain ⟨c,rfl,q1⟩:=q1
  cases r1
  exact not_of (wpAny_truthy_bool ⟨.bl (!c),H1,I1,rfl,q1⟩)
end
end L2
namespace L2
open PySem PySem.Spec PyProof.Rows
noncomputable def SqL (K:PySem.W.Frag) (H:Hp) (a:Addr) (xs:List V):Prop :=
  Rd H a (.lst xs) ∨
    ∃ (o:Obj) (its:Array Value) (n:Nat),K.lookup a=some o∧o.cls=.type "list"∧o.dict=none∧o.data=.seq its n∧its.size≤sizeLine∧Vals xs its.toList
noncomputable def SqT (K:PySem.W.Frag) (H:Hp) (a:Addr) (xs:List V):Prop :=
  Rd H a (.tup xs) ∨
    ∃ (o:Obj) (its:Array Value) (n:Nat),K.lookup a=some o∧o.cls=.type "tuple"∧o.data=.seq its n∧its.size≤sizeLine∧Vals xs its.toList
noncomputable def wF:Value→Option V
  | .none=>some .non
  | .bool b=>some (.bl b)
  | .int i _=>some (.int i)
  | .str x _=>some (.str x)
  | .bytes b _=>some (.byt b)
  | .float b _=>some (.flt b)
  | .ref a=>some (.ref a)
  | .type n=>some (.ty n)
  | _=>none
theorem RelV.abs {x:V} {u:Value} (r:RelV x u):wF u=some x:=by
  cases x with
  | non=>cases r; rfl
  | bl _=>cases r; rfl
  | int _=>obtain ⟨t,rfl⟩:=r; rfl
  | str _=>obtain ⟨t,rfl⟩:=r; rfl
  | byt _=>obtain ⟨t,rfl⟩:=r; rfl
  | flt _=>obtain ⟨t,rfl⟩:=r; rfl
  | ref _=>cases r; rfl
  | ty _=>cases r; rfl
theorem RelV.inj {x y:V} {u:Value} (r:RelV x u) (q:RelV y u):x=y:=Option.some.inj (r.abs.symm.trans q.abs)
theorem Vals.inj:∀ {xs ys:List V} {us:List Value},Vals xs us→Vals ys us→xs=ys
  | _,_,_,.nil,.nil=>rfl
  | _,_,_,.cons r t,.cons r' t'=>by rw [r.inj r',Vals.inj t t']
section
variable {X:Cx} {pins:List (Addr × Obj)} {σ:St} {H:Hp} {s:Shared} {a:Addr} {xs ys:List V}
theorem SqL.of {K:PySem.W.Frag} (h:H a=some (.lst xs)):SqL K H a xs:=.inl (.inl h)
theorem SqT.of {K:PySem.W.Frag} (h:H a=some (.tup xs)):SqT K H a xs:=.inl (.inl h)
theorem Inv.list (I:Inv X pins σ H s) (h:SqL X.K H a xs):∃ its:List Value,Vals xs its∧PlainL s.heap a its.toArray∧xs.length≤sizeLine:=by
  rcases h with h | ⟨o,its,n,hk,hc,hd,hs,hz,r⟩
  · obtain ⟨z,its,n,r,e⟩:=h.ok I.hok
    exact ⟨its,r,⟨_,n,e,rfl,rfl,rfl⟩,z⟩
  · refine ⟨its.toList,r,⟨o,n,I.kIn a o hk,hc,hd,by simpa using hs⟩,?_⟩
    have e:=r.length
    simp only [Array.length_toList] at e
    omega
theorem Inv.tuple (I:Inv X pins σ H s) (h:SqT X.K H a xs):∃ its:List Value,Vals xs its∧IsTup s.heap a its.toArray∧xs.length≤sizeLine:=by
  rcases h with h | ⟨o,its,n,hk,hc,hs,hz,r⟩
  · obtain ⟨z,its,r,p⟩:=h.ok I.hok
    exact ⟨its,r,p.tup,z⟩
  · refine ⟨its.toList,r,⟨o,I.kIn a o hk,hc,n,by simpa using hs⟩,?_⟩
    have e:=r.length
    simp only [Array.length_toList] at e
    omega
theorem Inv.list_inj (I:Inv X pins σ H s) (h:SqL X.K H a xs) (h':SqL X.K H a ys):xs=ys:=by
  obtain ⟨its,r,⟨o,n,e,_,_,d⟩,_⟩:=I.list h
  obtain ⟨its',r',⟨o',n',e',_,_,d'⟩,_⟩:=I.list h'
  rw [e] at e'; cases e'
  rw [d] at d'
  injection d' with d1 _
  have:its=its':=by simpa using congrArg Array.toList d1
  subst this
  exact r.inj r'
theorem Inv.tuple_inj (I:Inv X pins σ H s) (h:SqT X.K H a xs) (h':SqT X.K H a ys):xs=ys:=by
  obtain ⟨its,r,⟨o,e,_,n,d⟩,_⟩:=I.tuple h
  obtain ⟨its',r',⟨o',e',_,n',d'⟩,_⟩:=I.tuple h'
  rw [e] at e'; cases e'
  rw [d] at d'
  injection d' with d1 _
  have:its=its':=by simpa using congrArg Array.toList d1
  subst this
  exact r.inj r'
end
noncomputable abbrev Cx.wish (X:Cx) (E:Value→Shared→Prop):Cx:={ X with xe:=E }
noncomputable abbrev Cx.nox (X:Cx):Cx:=X.wish fun _ _=>False
theorem Cx.Ok.wish {X:Cx} (ok:X.Ok) (E:Value→Shared→Prop):(X.wish E).Ok :=
  ⟨ok.mod,ok.kind,ok.glob,ok.blt,ok.above,ok.inj,ok.has,ok.cab,ok.hd,ok.frames,ok.stk,ok.exf,ok.bs,ok.bsz,ok.noex,ok.exfs,ok.funs,ok.frf⟩
theorem Cx.Ok.unwish {X:Cx} {E:Value→Shared→Prop} (ok:(X.wish E).Ok):X.Ok :=
  ⟨ok.mod,ok.kind,ok.glob,ok.blt,ok.above,ok.inj,ok.has,ok.cab,ok.hd,ok.frames,ok.stk,ok.exf,ok.bs,ok.bsz,ok.noex,ok.exfs,ok.funs,ok.frf⟩
section
variable {X:Cx} {pins:List (Addr × Obj)} {σ:St} {H:Hp} {s:Shared} {E:Value→Shared→Prop}
theorem Inv.wish (I:Inv X pins σ H s) (E:Value→Shared→Prop):Inv (X.wish E) pins σ H s:=⟨I.ok.wish E,I.os,I.bare,I.base,I.loc,I.cell,I.free,I.freeC,I.pin,I.hok,I.len,I.tab⟩
theorem Inv.unwish (I:Inv (X.wish E) pins σ H s):Inv X pins σ H s:=⟨I.ok.unwish,I.os,I.bare,I.base,I.loc,I.cell,I.free,I.freeC,I.pin,I.hok,I.len,I.tab⟩
theorem SP.unwish {D:Ends} {f:Flow} {s':Shared} (h:SP (X.wish E) pins D f s'):SP X pins D f s':=by
  cases f with
  | next=>obtain ⟨σ',H',I,q⟩:=h; exact ⟨σ',H',I.unwish,q⟩
  | brk=>obtain ⟨σ',H',I,q⟩:=h; exact ⟨σ',H',I.unwish,q⟩
  | cont=>obtain ⟨σ',H',I,q⟩:=h; exact ⟨σ',H',I.unwish,q⟩
  | ret u=>obtain ⟨v,σ',H',I,r,q⟩:=h; exact ⟨v,σ',H',I.unwish,r,q⟩
theorem PSs.nox {st:List Stmt} {t:TS} (h:PSs X.nox st t):PSs X st t:=fun pins s σ H D I hw =>
  wpAny_mono (h pins s σ H D (I.wish _) hw) (fun _ _ q=>q.unwish) fun _ _ z=>False.elim z
end
section
variable {X:Cx} {st:Stmt} {rest:List Stmt} {t u:TS} {e:Expr} {te:TE} {pos:Pos}
noncomputable def vI:TS:=fun D σ H=>D.nx σ H
noncomputable def xg (t u:TS):TS:=fun D σ H=>t { D with nx:=u D } σ H
theorem kO:PSs X [] vI:=fun _ _ σ H _ I h=>wpAny_execs_nil ⟨σ,H,I,h⟩
theorem gA (h1:PS X st t) (h2:PSs X rest u):PSs X (st::rest) (xg t u):=by
  intro pins s σ H D I h
  refine wpAny_execs_cons (thn (h1 pins s σ H { D with nx:=u D } I h) fun f s1 q=>?_)
  cases f with
  | next =>
    obtain ⟨σ',H',I',q⟩:=q
    exact h2 pins s1 σ' H' D I' q
  | ret v=>exact q
  | brk=>exact q
  | cont=>exact q
theorem fR (h1:PS X st t):PSs X [st] t:=by
  intro pins s σ H D I h
  refine wpAny_execs_cons (thn (h1 pins s σ H D I h) fun f s1 q=>?_)
  cases f with
  | next=>exact wpAny_execs_nil q
  | ret v=>exact q
  | brk=>exact q
  | cont=>exact q
theorem Inv.quiet {pins:List (Addr × Obj)} {σ:St} {H:Hp} {s:Shared} (I:Inv X pins σ H s):interactive X.env=false:=by simp [interactive,I.ok.kind]
noncomputable def vE (te:TE):TS:=fun D σ H=>te σ H fun _ H1=>D.nx σ H1
theorem iQ (he:PE X e te) (hs:swapsWith e none pos.line X.env=pure false:=by rfl):PS X (.Expr e pos) (vE te):=by
  intro pins s σ H D I h
  exact wpAny_Expr_any (thn (he pins s σ H _ I h) fun v s1 ⟨x,H1,I1,r1,q1⟩=>⟨σ,H1,I1,q1⟩) I.quiet hs
noncomputable def wL (te:TE):TS:=fun D σ H=>te σ H D.rt
theorem ip (he:PE X e te):PS X (.Return (some e) pos) (wL te):=by
  intro pins s σ H D I h
  exact wpAny_Return_some (thn (he pins s σ H _ I h) fun v s1 ⟨x,H1,I1,r1,q1⟩=>⟨x,σ,H1,I1,r1,q1⟩)
noncomputable def xn (c:TT) (t u:TS):TS:=fun D σ H=>c σ H fun b H1=>if b=true then t D σ H1 else u D σ H1
theorem qB {c:Expr} {a b:List Stmt} {tc:TT} (hc:PT X c tc) (ha:PSs X a t) (hb:PSs X b u):PS X (.If c a b pos) (xn tc t u):=by
  intro pins s σ H D I h
  refine wpAny_If (thn (hc pins s σ H _ I h) fun d s1 ⟨H1,I1,q1⟩=>?_)
  cases d with
  | true=>exact ha pins s1 σ H1 D I1 q1
  | false=>exact hb pins s1 σ H1 D I1 q1
end
noncomputable abbrev TG:=V→St→Hp→(St→Hp→Prop)→Prop
noncomputable abbrev TGs:=List V→St→Hp→(St→Hp→Prop)→Prop
noncomputable def PG (X:Cx) (target:Expr) (t:TG):Prop :=
  ∀ (pins:List (Addr × Obj)) (s:Shared) (σ:St) (H:Hp) (v:V) (u:Value) (Q:St→Hp→Prop),Inv X pins σ H s→RelV v u→t v σ H Q →
    wpAny (model X.prog X.w) X.A (assign target X.env u) (fun _ s'=>∃ σ' H',Inv X pins σ' H' s'∧Q σ' H') X.xe s
noncomputable def PGs (X:Cx) (ts:List Expr) (t:TGs):Prop :=
  ∀ (pins:List (Addr × Obj)) (s:Shared) (σ:St) (H:Hp) (vs:List V) (us:List Value) (Q:St→Hp→Prop),Inv X pins σ H s→Vals vs us→t vs σ H Q →
    wpAny (model X.prog X.w) X.A (assignInOrder ((assignEach ts X.env).map (·.2)) us) (fun _ s'=>∃ σ' H',Inv X pins σ' H' s'∧Q σ' H') X.xe s
noncomputable abbrev uP:=V→V→V→Hp→(Hp→Prop)→Prop
noncomputable def wk (X:Cx) (t:uP):Prop :=
  ∀ (pins:List (Addr × Obj)) (s:Shared) (σ:St) (H:Hp) (o i v:V) (ov iv u:Value) (Q:Hp→Prop),Inv X pins σ H s→RelV o ov→RelV i iv→RelV v u→t o i v H Q →
    wpAny (model X.prog X.w) X.A (setItem ov iv u) (fun _ s'=>∃ H',Inv X pins σ H' s'∧Q H') X.xe s
section
variable {X:Cx} {pos:Pos}
noncomputable def kl (i:Nat):TG:=fun v σ H Q=>Q (σ.set i (some v)) H
theorem cm {i:Nat} {x:Str} (hN:X.N.Nodup) (hi:X.N[i]?=some x) (hx:Loc X.env.scope x) (hf:X.fn x=true∨X.env.scope.names.lookup x=some .local:=by first | exact .inl rfl | exact .inr rfl | assumption):PG X (.Name x pos) (kl i):=by
  intro pins s σ H v u Q I r h
  exact wpAny_assign_Name (jb I hN hi hx r (fun s' I'=>⟨_,H,I',h⟩) hf)
noncomputable def vG:TGs:=fun vs σ H Q=>vs=[]∧Q σ H
noncomputable def tU (t:TG) (u:TGs):TGs:=fun vs σ H Q=>∃ v r,vs=v::r∧t v σ H fun σ' H'=>u r σ' H' Q
theorem oO:PGs X [] vG:=by
  intro pins s σ H vs us Q I r h
  obtain ⟨e,h⟩:=h
  subst e
  cases r
  exact assignInOrder_nil ⟨σ,H,I,h⟩
theorem gR {e:Expr} {es:List Expr} {t:TG} {u:TGs} (h1:PG X e t) (h2:PGs X es u)
    (hs:(assignEach (e::es) X.env).map (·.2)=assign e X.env::(assignEach es X.env).map (·.2):=by rfl):PGs X (e::es) (tU t u):=by
  intro pins s σ H vs us Q I r h
  obtain ⟨v,vr,e1,h⟩:=h
  subst e1
  cases r with
  | cons r rr =>
    rw [hs]
    refine assignInOrder_cons (thn (h1 pins s σ H _ _ _ I r h) fun _ s1 ⟨σ1,H1,I1,q1⟩=>?_)
    exact h2 pins s1 σ1 H1 _ _ Q I1 rr q1
noncomputable def vF (K:PySem.W.Frag) (n:Nat) (t:TGs):TG:=fun v σ H Q=>∃ a xs,v=.ref a∧SqT K H a xs∧xs.length=n∧t xs σ H Q
theorem qN {es:List Expr} {k:Nat} {t:TGs} {n:Nat} (hc:X.calm=true) (h:PGs X es t)
    (hn:(assignEach es X.env).length=n:=by rfl) (hst:(assignEach es X.env).findIdx? (·.1)=none:=by rfl):PG X (.Tuple es k pos) (vF X.K n t):=by
  intro pins s σ H v u Q I r hw
  obtain ⟨a,xs,e1,hq,hl,hw⟩:=hw
  subst e1
  cases r
  obtain ⟨its,rv,ht,hz⟩:=I.tuple hq
  refine assign_Tuple_tuple (I.ok.hd hc) ht (by simp [hn,← hl,rv.length]) hst fun h' hx=>?_
  have I1:Inv X pins σ H { s with heap:=h' }:=I.kept (t':=s.toks) fun b o e=>hx b o (Nat.ne_of_lt (Heap.lt_size e)) e
  exact h pins _ σ H xs _ Q I1 (by simpa using rv) hw
noncomputable def wK (to ti:TE) (t:uP):TG:=fun v σ H Q=>to σ H fun o H1=>ti σ H1 fun i H2=>t o i v H2 fun H3=>Q σ H3
theorem uC {o i:Expr} {to ti:TE} {t:uP} (ho:PE X o to) (hi:PE X i ti) (hs:wk X t)
    (ha:∀ v,assign (.Subscript o i pos) X.env v=(do
      let ov ← holding [v] (eval o X.env)
      let iv ← holding [v,ov] (eval i X.env)
      standAt pos
      holding [v,ov,iv] (setItem ov iv v)
      release [v,ov,iv] []):=by intro _; rfl):PG X (.Subscript o i pos) (wK to ti t):=by
  intro pins s σ H v u Q I r h
  rw [ha]
  refine wpAny_bind (wpAny_holding (thn (ho pins s σ H _ I h) fun ov s1 ⟨x,H1,I1,r1,q1⟩=>?_))
  refine wpAny_bind (wpAny_holding (thn (hi pins s1 σ H1 _ I1 q1) fun iv s2 ⟨y,H2,I2,r2,q2⟩=>?_))
  refine wpAny_bind (wpAny_standAt (wpAny_bind (wpAny_holding (thn (hs pins s2 σ H2 x y v ov iv u _ I2 r1 r2 r q2) fun _ s3 ⟨H3,I3,q3⟩=>?_))))
  exact wpAny_release ⟨σ,H3,I3,q3⟩
noncomputable def vA (te:TE) (g:TG):TS:=fun D σ H=>te σ H fun x H1=>g x σ H1 D.nx
theorem uQ {tg e:Expr} {te:TE} {g:TG} (he:PE X e te) (hg:PG X tg g) (hs:swapsWithSole [tg] e pos.line X.env=pure false:=by rfl) (hw:swappedStores [tg] e X.env=pure none:=by rfl)
    (h1:(assignEach [tg] X.env).map (·.2)=[assign tg X.env]:=by rfl):PS X (.Assign [tg] e pos) (vA te g):=by
  intro pins s σ H D I h
  refine wpAny_Assign_stores (thn (he pins s σ H _ I h) fun v s1 ⟨x,H1,I1,r1,q1⟩=>?_) hs hw
  rw [h1]
  exact thn (hg pins s1 σ H1 x v _ I1 r1 q1) fun _ s2 q=>q
theorem mP {i:Nat} {x:Str} {e:Expr} {te:TE} {pos':Pos} (hN:X.N.Nodup) (hi:X.N[i]?=some x) (hx:Loc X.env.scope x) (he:PE X e te) (hs:swapsWith e (some (.Name x pos')) pos.line X.env=pure false:=by rfl) (hf:X.fn x=true∨X.env.scope.names.lookup x=some .local:=by first | exact .inl rfl | exact .inr rfl | assumption) :
    PS X (.Assign [.Name x pos'] e pos) (vA te (kl i)):=by
  intro pins s σ H D I h
  refine wpAny_Assign_Name (thn (he pins s σ H _ I h) fun v s1 ⟨y,H1,I1,r1,q1⟩=>?_) hs
  exact jb I1 hN hi hx r1 (fun s2 I2=>⟨_,H1,I2,q1⟩) hf
end
section
variable {X:Cx} {pos:Pos}
end
structure It where
  go:Nat→Hp→Prop
  yld:Nat→Hp→V→Hp→Prop
  stop:Nat→Hp→Prop
noncomputable def jc (X:Cx) (pins:List (Addr × Obj)) (H:Hp) (b:Addr):Prop :=
  H b=none∧b≠X.env.locals∧b ∉ X.fs∧(b∈X.ex∨X.s₀.heap.objs.size≤b)∧(∀ x c,X.env.cells.lookup x=some c→c≠b)∧∀ p∈X.pn++pins,p.1≠b
theorem Inv.fpOk {X:Cx} {pins:List (Addr × Obj)} {σ:St} {H H':Hp} {s:Shared} {b:Addr} (I:Inv X pins σ H s) (hb:s.heap.objs.size≤b) (hn:H' b=none):jc X pins H' b:=by
  refine ⟨hn,Nat.ne_of_gt (Nat.lt_of_lt_of_le I.lt hb),I.nofs hb,.inr (Nat.le_trans I.sz hb),fun x c e z=>?_,fun p hp z=>?_⟩
  · obtain ⟨v,q⟩:=I.cell x c e
    exact absurd (Nat.lt_of_lt_of_le q.lt (by rw [z]; exact hb)) (Nat.lt_irrefl _)
  · exact absurd (Nat.lt_of_lt_of_le (Heap.lt_size (I.pin p hp).1) (by rw [z]; exact hb)) (Nat.lt_irrefl _)
structure Turn (P:Program) (w:World) (K:PySem.W.Frag) (tg:Expr) (J:It) (fp:List Addr) (it:Addr) (tn:Nat→Heap→Prop):Prop where
  mem:it∈fp
  obj:∀ i h,tn i h→∀ b∈fp,∃ o,h.get? b=some o∧∀ v,o.data≠.cell v
  keep:∀ i h h',tn i h→(∀ b∈fp,∀ o,h.get? b=some o→h'.get? b=some o)→tn i h'
  item:∀ (X:Cx),X.prog=P→X.w=w→X.K=K→X.calm=true→∀ (i:Nat) (pins:List (Addr × Obj)) (s:Shared) (σ:St) (H:Hp) (E:Value→Shared→Prop),Inv X pins σ H s→(∀ b∈fp,jc X pins H b)→tn i s.heap→J.go i H →
    wpAny (model P w) X.A (pyNext (.ref it)) (fun r s1=>∃ u,r=some u ∧
      wpAny (model P w) X.A (letOwnedTupleGo tg (.ref it) u) (fun _ s2=>∃ x H',Inv X pins σ H' s2∧RelV x u∧J.yld i H x H'∧tn (i + 1) s2.heap∧∀ b∈fp,H' b=none) E s1) E s
  done:∀ (X:Cx),X.prog=P→X.w=w→X.K=K→X.calm=true→∀ (i:Nat) (pins:List (Addr × Obj)) (s:Shared) (σ:St) (H:Hp) (E:Value→Shared→Prop),Inv X pins σ H s→(∀ b∈fp,jc X pins H b)→tn i s.heap→J.stop i H →
    wpAny (model P w) X.A (pyNext (.ref it)) (fun r s1=>r=none∧Inv X pins σ H s1) E s
  self:∀ (A:Around) (i:Nat) (s:Shared) (Q:Value→Shared→Prop) (E:Value→Shared→Prop),tn i s.heap→Q (.ref it) s→wpAny (model P w) A (pyIter (.ref it)) Q E s
noncomputable abbrev TI:=St→Hp→(It→Hp→Prop)→Prop
noncomputable def PIE (X:Cx) (pins:List (Addr × Obj)) (σ:St) (tg:Expr) (R:It→Hp→Prop) (itv:Value) (s2:Shared):Prop :=
  ∃ (it:Addr) (fp:List Addr) (tn:Nat→Heap→Prop) (J:It) (H':Hp),itv=.ref it∧Inv X pins σ H' s2∧Turn X.prog X.w X.K tg J fp it tn∧tn 0 s2.heap∧(∀ b∈fp,jc X pins H' b)∧R J H'
noncomputable def PI (X:Cx) (tg iter:Expr) (wi:TI):Prop :=
  ∀ (pins:List (Addr × Obj)) (s:Shared) (σ:St) (H:Hp) (R:It→Hp→Prop),Inv X pins σ H s→wi σ H R →
    wpAny (model X.prog X.w) X.A (eval iter X.env) (fun v s1=>wpAny (model X.prog X.w) X.A (pyIter v) (PIE X pins σ tg R) X.xe s1) X.xe s
theorem oU {M:Model} {A:Around} {E:Value→Shared→Prop} {s:Shared} {tg:Expr} {it:Addr} {u:Value} {o:Obj} {n:String} {vs:Array Value} {Q:Unit→Shared→Prop} (ho:s.heap.get? it=some o) (hc:o.cls=.type n) (hd:o.data=.fields vs)
    (hn:["enumerate", "zip", "dict_itemiterator", "dict_reverseitemiterator", "odict_iterator", "itertools.zip_longest", "itertools.pairwise"].contains n=false) (hQ:Q () s):wpAny M A (letOwnedTupleGo tg (.ref it) u) Q E s:=by
  unfold letOwnedTupleGo
  cases tg <;> first
    | exact wpAny_pure hQ
    | (cases u <;> first
        | exact wpAny_pure hQ
        | (refine wpAny_bind (wpAny_load ho ?_)
           rw [hc,hd]
           show wpAny M A (if (["enumerate", "zip", "dict_itemiterator", "dict_reverseitemiterator", "odict_iterator", "itertools.zip_longest", "itertools.pairwise"].contains n && vs[0]? == some (rawInt _))=true then _ else _) Q E s
           rw [if_neg (by intro h; rw [hn,Bool.false_and] at h; cases h)]
           exact wpAny_pure hQ))
noncomputable def Itl (K:PySem.W.Frag) (a:Addr):It :=
  ⟨fun i H=>∃ xs x,SqL K H a xs∧xs[i]?=some x,fun i H x H'=>H'=H∧∀ xs,SqL K H a xs→xs[i]?=some x,fun i H=>∃ xs,SqL K H a xs∧xs.length≤i⟩
noncomputable def Itt (K:PySem.W.Frag) (a:Addr):It :=
  ⟨fun i H=>∃ xs x,SqT K H a xs∧xs[i]?=some x,fun i H x H'=>H'=H∧∀ xs,SqT K H a xs→xs[i]?=some x,fun i H=>∃ xs,SqT K H a xs∧xs.length≤i⟩
noncomputable def Itr (lo:Int) (n:Nat):It:=⟨fun i _=>i < n,fun i H x H'=>H'=H∧x=.int (lo + i),fun i _=>n≤i⟩
theorem oY {P:Program} {w:World} {K:PySem.W.Frag} {tg:Expr} (a it:Addr):Turn P w K tg (Itl K a) [it] it (fun i h=>h.IsListIter it a i) where
  mem:=by simp
  obj:=fun i h st b hb=>by
    have e:b=it:=by simpa using hb
    subst e
    obtain ⟨o,e,c,d⟩:=st
    exact ⟨o,e,fun v z=>by rw [d] at z; cases z⟩
  keep:=fun i h h' st k=>st.at fun o e=>k it (by simp) o e
  item:=by
    intro X hP hw hK hc i pins s σ H E I hf st hg
    subst hP hw hK
    obtain ⟨xs,x,hq,hx⟩:=hg
    obtain ⟨its,rv,p,hz⟩:=I.list hq
    obtain ⟨u,hu,ru⟩:=rv.get hx
    obtain ⟨f0,f1,f2,f3,f4,f5⟩:=hf it (by simp)
    refine wpAny_pyNext_list_item st p.isList (x:=u) (by simpa using hu) fun h' st' sb=>?_
    have I1:Inv X pins σ H { s with heap:=h' }:=I.turned (t':=s.toks) (fun b o hb e=>(sb.2 b hb).trans e) f0 f1 f3 f4 f5
    obtain ⟨o,e,c,d⟩:=id st'
    exact ⟨u,rfl,oU (s:={ s with heap:=h' }) e c d (by decide) ⟨x,H,I1,ru,⟨rfl,fun ys hy=>by rw [I.list_inj hy hq]; exact hx⟩,st',fun b hb=>(hf b hb).1⟩⟩
  done:=by
    intro X hP hw hK hc i pins s σ H E I hf st hg
    subst hP hw hK
    obtain ⟨xs,hq,hx⟩:=hg
    obtain ⟨its,rv,p,hz⟩:=I.list hq
    obtain ⟨f0,f1,f2,f3,f4,f5⟩:=hf it (by simp)
    have hl:=rv.length
    exact wpAny_pyNext_list_end (I.ok.hd hc) st p.isList (by simp; omega) fun h' eb=>⟨rfl,I.turned (t':=s.toks) (fun b o hb e=>eb b o hb e) f0 f1 f3 f4 f5⟩
  self:=fun _ _ _ _ _ st h=>wpAny_pyIter_listiter st h
theorem nJ {P:Program} {w:World} {K:PySem.W.Frag} {tg:Expr} (a it:Addr):Turn P w K tg (Itt K a) [it] it (fun i h=>h.IsTupleIter it a i) where
  mem:=by simp
  obj:=fun i h st b hb=>by
    have e:b=it:=by simpa using hb
    subst e
    obtain ⟨o,e,c,d⟩:=st
    exact ⟨o,e,fun v z=>by rw [d] at z; cases z⟩
  keep:=fun i h h' st k=>st.at fun o e=>k it (by simp) o e
  item:=by
    intro X hP hw hK hc i pins s σ H E I hf st hg
    subst hP hw hK
    obtain ⟨xs,x,hq,hx⟩:=hg
    obtain ⟨its,rv,p,hz⟩:=I.tuple hq
    obtain ⟨u,hu,ru⟩:=rv.get hx
    obtain ⟨f0,f1,f2,f3,f4,f5⟩:=hf it (by simp)
    refine wpAny_pyNext_tuple_item st (show s.heap.IsTuple a its.toArray from p) (x:=u) (by simpa using hu) fun h' st' sb=>?_
    have I1:Inv X pins σ H { s with heap:=h' }:=I.turned (t':=s.toks) (fun b o hb e=>(sb.2 b hb).trans e) f0 f1 f3 f4 f5
    obtain ⟨o,e,c,d⟩:=id st'
    exact ⟨u,rfl,oU (s:={ s with heap:=h' }) e c d (by decide) ⟨x,H,I1,ru,⟨rfl,fun ys hy=>by rw [I.tuple_inj hy hq]; exact hx⟩,st',fun b hb=>(hf b hb).1⟩⟩
  done:=by
    intro X hP hw hK hc i pins s σ H E I hf st hg
    subst hP hw hK
    obtain ⟨xs,hq,hx⟩:=hg
    obtain ⟨its,rv,p,hz⟩:=I.tuple hq
    obtain ⟨f0,f1,f2,f3,f4,f5⟩:=hf it (by simp)
    have hl:=rv.length
    exact wpAny_pyNext_tuple_end (I.ok.hd hc) st (show s.heap.IsTuple a its.toArray from p) (by simp; omega) fun h' eb=>⟨rfl,I.turned (t':=s.toks) (fun b o hb e=>eb b o hb e) f0 f1 f3 f4 f5⟩
  self:=fun _ _ _ _ _ st h=>wpAny_pyIter_tupleiter st h
theorem mK {P:Program} {w:World} {K:PySem.W.Frag} {tg:Expr} (it:Addr) (lo:Int) (n:Nat):Turn P w K tg (Itr lo n) [it] it (fun i h=>IsRangeIter h it (lo + (i:Nat) * 1) ((n:Int) - (i:Nat)) 1) where
  mem:=by simp
  obj:=fun i h st b hb=>by
    have e:b=it:=by simpa using hb
    subst e
    exact ⟨_,st,fun v z=>by
      have z':Data.fields _=Data.cell v:=z
      cases z'⟩
  keep:=fun i h h' st k=>k it (by simp) _ st
  item:=by
    intro X hP hw hK hc i pins s σ H E I hf st hg
    subst hP hw hK
    obtain ⟨f0,f1,f2,f3,f4,f5⟩:=hf it (by simp)
    have W:=Walks.range (prog:=X.prog) (w:=X.w) (I.ok.hd hc) it lo 1 n
    refine W.item i s _ _ hg st fun v h' tk hv st' kk=>?_
    obtain ⟨t,rfl⟩:=hv
    have I1:Inv X pins σ H { s with heap:=h',toks:=tk }:=I.turned (fun b o hb e=>kk b o (by simpa using hb) e) f0 f1 f3 f4 f5
    refine ⟨_,rfl,oU (s:={ s with heap:=h',toks:=tk }) (n:="range_iterator") st' rfl rfl (by decide) ⟨.int (lo + i),H,I1,⟨t,?_⟩,⟨rfl,rfl⟩,st',fun b hb=>(hf b hb).1⟩⟩
    rw [Int.mul_one]
  done:=by
    intro X hP hw hK hc i pins s σ H E I hf st hg
    subst hP hw hK
    obtain ⟨f0,f1,f2,f3,f4,f5⟩:=hf it (by simp)
    exact wpAny_pyNext_range_end (I.ok.hd hc) st (by have:n≤i:=hg; omega) fun h' eb=>⟨rfl,I.turned (t':=s.toks) (fun b o hb e=>eb b o hb e) f0 f1 f3 f4 f5⟩
  self:=fun _ _ _ _ _ st h=>wpAny_pyIter_rangeiter st h
end L2
namespace L2
open PySem PySem.Spec PyProof.Rows
section
variable {X:Cx} {tg:Expr}
noncomputable def vX (K:PySem.W.Frag) (tl:TE):TI:=fun σ H R=>tl σ H fun x H1=>∃ a,x=.ref a∧(∃ xs,SqL K H1 a xs)∧R (Itl K a) H1
noncomputable def xm (K:PySem.W.Frag) (tl:TE):TI:=fun σ H R=>tl σ H fun x H1=>∃ a,x=.ref a∧(∃ xs,SqT K H1 a xs)∧R (Itt K a) H1
theorem tf {l:Expr} {tl:TE} (hl:PE X l tl):PI X tg l (vX X.K tl):=by
  intro pins s σ H R I h
  refine thn (hl pins s σ H _ I h) fun v s1 ⟨x,H1,I1,r1,q1⟩=>?_
  obtain ⟨a,e,⟨xs,hq⟩,q⟩:=q1
  subst e
  cases r1
  obtain ⟨its,rv,p,hz⟩:=I1.list hq
  refine wpAny_pyIter_list p.isList ?_
  refine ⟨s1.heap.objs.size,[s1.heap.objs.size],_,_,H1,rfl,I1.kept (t':=s1.toks) fun b o e=>Heap.get?_push_of_some _ e,oY a _,⟨_,Heap.get?_push_size _ rfl,rfl,rfl⟩,fun b hb=>?_,q⟩
  have e:b=s1.heap.objs.size:=by simpa using hb
  subst e
  exact I1.fpOk (Nat.le_refl _) (I1.hok.fresh (Nat.le_refl _))
theorem uW {l:Expr} {tl:TE} (hl:PE X l tl):PI X tg l (xm X.K tl):=by
  intro pins s σ H R I h
  refine thn (hl pins s σ H _ I h) fun v s1 ⟨x,H1,I1,r1,q1⟩=>?_
  obtain ⟨a,e,⟨xs,hq⟩,q⟩:=q1
  subst e
  cases r1
  obtain ⟨its,rv,p,hz⟩:=I1.tuple hq
  refine wpAny_pyIter_tuple (show s1.heap.IsTuple a its.toArray from p) ?_
  refine ⟨s1.heap.objs.size,[s1.heap.objs.size],_,_,H1,rfl,I1.kept (t':=s1.toks) fun b o e=>Heap.get?_push_of_some _ e,nJ a _,⟨_,Heap.get?_push_size _ rfl,rfl,rfl⟩,fun b hb=>?_,q⟩
  have e:b=s1.heap.objs.size:=by simpa using hb
  subst e
  exact I1.fpOk (Nat.le_refl _) (I1.hok.fresh (Nat.le_refl _))
theorem qR {pins:List (Addr × Obj)} {σ:St} {H:Hp} {s:Shared} {R:It→Hp→Prop} {E:Value→Shared→Prop} {lo hi:Int} {t u v:Tok} {tk:Nat} (I:Inv X pins σ H s) (h1:-(2 ^ 62)≤lo) (h2:lo < 2 ^ 62) (h3:-(2 ^ 62)≤hi) (h4:hi < 2 ^ 62)
    (q:R (Itr lo (hi - lo).toNat) H):wpAny (model X.prog X.w) X.A (pyIter (.ref s.heap.objs.size)) (PIE X pins σ tg R) E { s with heap:=s.heap.push { cls:=.type "range",data:=.fields #[.int lo t,.int hi u,.int 1 v] },toks:=tk }:=by
  refine wpAny_pyIter_range (IsRange.new ..) (small_one h1 h2 h3 h4) ?_
  have I1:Inv X pins σ H { s with heap:=s.heap.push { cls:=.type "range",data:=.fields #[.int lo t,.int hi u,.int 1 v] },toks:=tk }:=I.kept fun b o e=>Heap.get?_push_of_some _ e
  refine ⟨(s.heap.push { cls:=.type "range",data:=.fields #[.int lo t,.int hi u,.int 1 v] }).objs.size,[(s.heap.push { cls:=.type "range",data:=.fields #[.int lo t,.int hi u,.int 1 v] }).objs.size],_,_,H,rfl,
    I1.kept (t':=tk) fun b o e=>Heap.get?_push_of_some _ e,mK _ lo (hi - lo).toNat,?_,fun b hb=>?_,q⟩
  · have e1:lo + ((0:Nat):Int) * 1=lo:=by simp
    have e2:(((hi - lo).toNat:Nat):Int) - ((0:Nat):Int)=Builtin.Range.rangeSize lo hi 1:=by rw [rangeSize_one]; split <;> omega
    show IsRangeIter _ _ (lo + ((0:Nat):Int) * 1) ((((hi - lo).toNat:Nat):Int) - ((0:Nat):Int)) 1
    rw [e1,e2]
    exact Heap.get?_push_size _ rfl
  · have e:b=(s.heap.push { cls:=.type "range",data:=.fields #[.int lo t,.int hi u,.int 1 v] }).objs.size:=by simpa using hb
    subst e
    exact I1.fpOk (Nat.le_refl _) (I1.hok.fresh (Nat.le_refl _))
noncomputable def vw (ta:TA):TI:=fun σ H R=>ta σ H fun vs H1=>∃ j:Int,vs=[.int j]∧-(2 ^ 62)≤j∧j < 2 ^ 62∧R (Itr 0 j.toNat) H1
theorem pO {a:Expr} {ta:TA} {p pos:Pos} (hg:Gl X "range") (hm:X.mg "range"=none) (ha:PA X [a] ta) (hs:starEach [a] X.env=[(false,eval a X.env)]:=by rfl):PI X tg (.Call (.Name "range" p) [a] [] pos) (vw ta):=by
  intro pins s σ H R I h
  refine Call_ (d5 I hg hm boot_range (PyProof.Rows.callWith_type1 (thn (ha pos pins s σ H _ I h) fun us s1 ⟨vs,H1,I1,r1,q1⟩=>?_) hs rfl))
  obtain ⟨j,e,q1,q2,q⟩:=q1
  subst e
  cases r1 with
  | cons r rr =>
    cases rr
    obtain ⟨t,rfl⟩:=r
    exact call_range_1 (qR I1 (by omega) (by omega) q1 q2 (by simpa using q))
noncomputable def xc (wi:TI) (g:TG) (tb:TS):TS:=fun D σ H=>wi σ H fun J H1=>∃ W:Nat→Nat→St→Hp→Prop,(∃ m,W 0 m σ H1)∧∀ i m σ H,W i m σ H →
  (J.stop i H∧D.nx σ H)∨(J.go i H∧∃ N:St→Hp→Prop,(∀ σ' H',N σ' H'→∃ m',m' < m∧W (i + 1) m' σ' H')∧∀ x H',J.yld i H x H'→g x σ H' fun σ2 H2=>tb { D with nx:=N,ct:=N,bk:=D.nx } σ2 H2)
noncomputable def i9 (fp:List Addr) (h:Heap):List (Addr × Obj):=fp.filterMap fun b=>(h.get? b).map fun o=>(b,o)
theorem eZ {fp:List Addr} {h:Heap} {b:Addr} {o:Obj} (hb:b∈fp) (e:h.get? b=some o):(b,o)∈i9 fp h:=List.mem_filterMap.mpr ⟨b,hb,by rw [e]; rfl⟩
theorem pk {fp:List Addr} {h:Heap} {p:Addr × Obj} (hp:p∈i9 fp h):p.1∈fp∧h.get? p.1=some p.2:=by
  obtain ⟨b,hb,e⟩:=List.mem_filterMap.mp hp
  cases q:h.get? b with
  | none=>rw [q] at e; cases e
  | some o =>
    rw [q] at e
    have e':(b,o)=p:=Option.some.inj e
    subst e'
    exact ⟨hb,q⟩
theorem Inv.pinned {pins:List (Addr × Obj)} {σ:St} {H:Hp} {s:Shared} {fp:List Addr} (I:Inv X pins σ H s) (hf:∀ b∈fp,jc X pins H b) (ho:∀ b∈fp,∃ o,s.heap.get? b=some o∧∀ v,o.data≠.cell v):Inv X (pins++i9 fp s.heap) σ H s :=
  I.pins_of fun p hp=>(List.mem_append.mp hp).elim (fun z=>I.pin p (List.mem_append_right _ z)) fun z=>by
    obtain ⟨hb,e⟩:=pk z
    obtain ⟨f0,f1,f2,_⟩:=hf p.1 hb
    obtain ⟨o,e',d⟩:=ho p.1 hb
    rw [e] at e'; cases e'
    exact ⟨e,f0,f1,f2,d⟩
theorem Inv.unpinned {pins pl:List (Addr × Obj)} {σ:St} {H:Hp} {s:Shared} (I:Inv X (pins++pl) σ H s):Inv X pins σ H s:=I.pins_of fun p hp=>I.pin p (List.mem_append_right _ (List.mem_append_left _ hp))
theorem uE {iter:Expr} {body:List Stmt} {wi:TI} {g:TG} {tb:TS} {pos:Pos} (hp:PassesOwn (model X.prog X.w) X.A X.env X.xe) (hc:X.calm=true) (hi:PI X tg iter wi) (hg:PG X tg g) (hb:PSs X body tb)
    (hs:∀ x,foldedSetIterable iter X.env x=pure x:=by intro _; rfl):PS X (.For tg iter body [] pos) (xc wi g tb):=by
  intro pins s σ H D I h
  refine wpAny_For (thn (hi pins s σ H _ I h) fun v s1 h1=>thn h1 fun itv s2 h2=>?_) hs
  obtain ⟨it,fp,tn,J,H2,e,I2,T,st2,f2,W,⟨m0,w0⟩,turn⟩:=h2
  subst e
  -- what stays true of the iterator's objects through the loop
  have stat:∀ {H':Hp},(∀ b∈fp,H' b=none)→∀ b∈fp,jc X pins H' b:=fun hn b hb=>⟨hn b hb,(f2 b hb).2⟩
  refine codeAny_forLoop_any (fun n s'=>∃ i σ' H',Inv X pins σ' H' s'∧tn i s'.heap∧(∀ b∈fp,H' b=none)∧W i n σ' H') ?_ m0 ⟨0,σ,H2,I2,st2,fun b hb=>(f2 b hb).1,w0⟩
  rintro n s3 ⟨i,σ3,H3,I3,st3,fr3,w3⟩
  rcases turn i n σ3 H3 w3 with ⟨stop,qn⟩ | ⟨go,N,hN,step⟩
  · refine wpAny_passesOwn hp (thn (T.done X rfl rfl rfl hc i pins s3 σ3 H3 X.xe I3 (stat fr3) st3 stop) fun r s4 ⟨hr,I4⟩=>?_)
    subst hr
    exact wpAny_execs_nil ⟨σ3,H3,I4,qn⟩
  · refine wpAny_passesOwn hp (thn (T.item X rfl rfl rfl hc i pins s3 σ3 H3 X.xe I3 (stat fr3) st3 go) fun r s4 ⟨u,hr,h4⟩=>?_)
    subst hr
    refine wpAny_passesOwn hp (thn h4 fun _ s5 ⟨x,H5,I5,r5,y5,st5,fr5⟩=>?_)
    have I5':=I5.pinned (stat fr5) (T.obj _ _ st5)
    refine wpAny_passesOwn hp (thn (hg _ s5 σ3 H5 x u _ I5' r5 (step x H5 y5)) fun _ s6 ⟨σ6,H6,I6,q6⟩=>?_)
    refine wpAny_passesOwn hp (thn (hb _ s6 σ6 H6 _ I6 q6) fun f s7 q7=>?_)
    have again:∀ {σ7:St} {H7:Hp},Inv X (pins++i9 fp s5.heap) σ7 H7 s7→N σ7 H7→∃ m,m < n∧∃ i σ' H',Inv X pins σ' H' s7∧tn i s7.heap∧(∀ b∈fp,H' b=none)∧W i m σ' H':=fun {σ7 H7} I7 n7=>by
      obtain ⟨m',hm,w7⟩:=hN σ7 H7 n7
      refine ⟨m',hm,i + 1,σ7,H7,I7.unpinned,T.keep _ _ _ st5 fun b hb o e=>(I7.pin (b,o) (List.mem_append_right _ (List.mem_append_right _ (eZ hb e)))).1,fun b hb=>?_,w7⟩
      obtain ⟨o,e,d⟩:=T.obj _ _ st5 b hb
      exact (I7.pin (b,o) (List.mem_append_right _ (List.mem_append_right _ (eZ hb e)))).2.1
    cases f with
    | next=>obtain ⟨σ7,H7,I7,n7⟩:=q7; exact again I7 n7
    | cont=>obtain ⟨σ7,H7,I7,n7⟩:=q7; exact again I7 n7
    | brk=>obtain ⟨σ7,H7,I7,q7⟩:=q7; exact ⟨σ7,H7,I7.unpinned,q7⟩
    | ret v=>obtain ⟨x7,σ7,H7,I7,r7,q7⟩:=q7; exact ⟨x7,σ7,H7,I7.unpinned,r7,q7⟩
end
end L2
namespace L2
open PySem PySem.Spec PyProof.Rows
noncomputable abbrev R2:=V→V→Hp→VK→Prop
noncomputable def OpR (X:Cx) (f:Value→Value→Sem Value) (r:R2):Prop :=
  ∀ (pins:List (Addr × Obj)) (s:Shared) (σ:St) (H:Hp) (x y:V) (v u:Value) (Q:VK),Inv X pins σ H s→RelV x v→RelV y u→r x y H Q →
    wpAny (model X.prog X.w) X.A (f v u) (EP X pins σ Q) X.xe s
noncomputable def UnR (X:Cx) (f:Value→Sem Value) (r:V→Hp→VK→Prop):Prop :=
  ∀ (pins:List (Addr × Obj)) (s:Shared) (σ:St) (H:Hp) (x:V) (v:Value) (Q:VK),Inv X pins σ H s→RelV x v→r x H Q →
    wpAny (model X.prog X.w) X.A (f v) (EP X pins σ Q) X.xe s
noncomputable def fo (X:Cx) (f:Value) (r:List V→Hp→VK→Prop):Prop :=
  ∀ (pins:List (Addr × Obj)) (s:Shared) (σ:St) (H:Hp) (xs:List V) (us:List Value) (Q:VK),Inv X pins σ H s→Vals xs us→r xs H Q →
    wpAny (model X.prog X.w) X.A (call f us) (EP X pins σ Q) X.xe s
noncomputable def tOp (r:R2) (ta tb:TE):TE:=fun σ H Q=>ta σ H fun x H1=>tb σ H1 fun y H2=>r x y H2 Q
noncomputable def tUn (r:V→Hp→VK→Prop) (ta:TE):TE:=fun σ H Q=>ta σ H fun x H1=>r x H1 Q
noncomputable def rI (C:Int→Int→Prop) (g:Int→Int→V):R2:=fun x y H Q=>∃ i j,x=.int i∧y=.int j∧C i j∧Q (g i j) H
noncomputable def rI0 (g:Int→Int→V):R2:=fun x y H Q=>∃ i j,x=.int i∧y=.int j∧Q (g i j) H
noncomputable def rU (g:Int→V):V→Hp→VK→Prop:=fun x H Q=>∃ i,x=.int i∧Q (g i) H
section
variable {X:Cx} {a b c:Expr} {ta tb tc:TE} {pos:Pos}
theorem t8 (ha:PE X a ta) (hb:PE X b tb) {pins:List (Addr × Obj)} {s:Shared} {σ:St} {H:Hp} {R:V→V→Hp→Prop} (I:Inv X pins σ H s)
    (h:ta σ H fun x H1=>tb σ H1 fun y H2=>R x y H2) {Q:Value→Shared→Prop} {f:Value→Value→Sem Value}
    (hf:∀ v u s2 x y H2,Inv X pins σ H2 s2→RelV x v→RelV y u→R x y H2→wpAny (model X.prog X.w) X.A (f v u) Q X.xe s2) :
    wpAny (model X.prog X.w) X.A (eval a X.env) (fun v s₁=>wpAny (model X.prog X.w) X.A (eval b X.env) (fun u s₂=>wpAny (model X.prog X.w) X.A (f v u) Q X.xe s₂) X.xe s₁) X.xe s:=by
  refine thn (ha pins s σ H _ I h) fun v s1 ⟨x,H1,I1,r1,q1⟩=>?_
  refine thn (hb pins s1 σ H1 _ I1 q1) fun u s2 ⟨y,H2,I2,r2,q2⟩=>?_
  exact hf v u s2 x y H2 I2 r1 r2 q2
theorem cJ {op:Operator} {r:R2} (ho:OpR X (binaryOp op) r) (ha:PE X a ta) (hb:PE X b tb):PE X (.BinOp a op b pos) (tOp r ta tb):=by
  intro pins s σ H Q I h
  exact wpAny_BinOp (t8 ha hb I h fun v u s2 x y H2 I2 rx ry q=>ho pins s2 σ H2 x y v u Q I2 rx ry q)
theorem wj {op:UnaryOp} {r:V→Hp→VK→Prop} (ho:UnR X (unaryOp op) r) (ha:PE X a ta):PE X (.UnaryOp op a pos) (tUn r ta):=by
  intro pins s σ H Q I h
  exact UnaryOp_ (thn (ha pins s σ H _ I h) fun v s1 ⟨x,H1,I1,r1,q1⟩=>ho pins s1 σ H1 x v Q I1 r1 q1)
theorem opI {f:Value→Value→Sem Value} {C:Int→Int→Prop} {g:Int→Int→Int}
    (rule:∀ (i j:Int) (t u:Tok) (s:Shared) (Q:Value→Shared→Prop) (E:Value→Shared→Prop),C i j→Q (.int (g i j) s.toks) { s with toks:=s.toks + 1 }→wpAny (model X.prog X.w) X.A (f (.int i t) (.int j u)) Q E s) :
    OpR X f (rI C fun i j=>.int (g i j)):=by
  intro pins s σ H x y v u Q I rx ry h
  obtain ⟨i,j,rfl,rfl,hc,q⟩:=h
  obtain ⟨t,rfl⟩:=rx
  obtain ⟨t',rfl⟩:=ry
  exact rule i j t t' s _ _ hc ⟨.int (g i j),H,I.tok _,⟨_,rfl⟩,q⟩
theorem wm {f:Value→Value→Sem Value} {g:Int→Int→Int}
    (rule:∀ (i j:Int) (t u:Tok) (s:Shared) (Q:Value→Shared→Prop) (E:Value→Shared→Prop),Q (.int (g i j) s.toks) { s with toks:=s.toks + 1 }→wpAny (model X.prog X.w) X.A (f (.int i t) (.int j u)) Q E s) :
    OpR X f (rI0 fun i j=>.int (g i j)):=by
  intro pins s σ H x y v u Q I rx ry h
  obtain ⟨i,j,rfl,rfl,q⟩:=h
  obtain ⟨t,rfl⟩:=rx
  obtain ⟨t',rfl⟩:=ry
  exact rule i j t t' s _ _ ⟨.int (g i j),H,I.tok _,⟨_,rfl⟩,q⟩
theorem vZ {f:Value→Value→Sem Value} {g:Int→Int→Bool}
    (rule:∀ (i j:Int) (t u:Tok) (s:Shared) (Q:Value→Shared→Prop) (E:Value→Shared→Prop),Q (.bool (g i j)) s→wpAny (model X.prog X.w) X.A (f (.int i t) (.int j u)) Q E s) :
    OpR X f (rI0 fun i j=>.bl (g i j)):=by
  intro pins s σ H x y v u Q I rx ry h
  obtain ⟨i,j,rfl,rfl,q⟩:=h
  obtain ⟨t,rfl⟩:=rx
  obtain ⟨t',rfl⟩:=ry
  exact rule i j t t' s _ _ ⟨.bl (g i j),H,I,rfl,q⟩
noncomputable def vm (i j:Int):Prop:=0 < j∧j < 1073741824
noncomputable def sX (i j:Int):Prop:=(-(2 ^ 64) < i∧i < 2 ^ 64)∨(-(2 ^ 64) < j∧j < 2 ^ 64)
theorem sX.ok {i j:Int} (h:sX i j):IntMulOk i j:=by
  rcases h with ⟨h1,h2⟩ | ⟨h1,h2⟩
  · exact .of_left (intBits_le_64 h1 h2)
  · exact .of_right (intBits_le_64 h1 h2)
theorem ia:OpR X (binaryOp .Add) (rI0 fun i j=>.int (i + j)):=wm fun _ _ _ _ _ _ _ q=>add_int q
theorem uU:OpR X (binaryOp .Sub) (rI0 fun i j=>.int (i - j)):=wm fun _ _ _ _ _ _ _ q=>sub_int q
theorem ix:OpR X (binaryOp .Mult) (rI sX fun i j=>.int (i * j)):=opI fun _ _ _ _ _ _ _ hc q=>mul_int q hc.ok
theorem sJ:OpR X (binaryOp .FloorDiv) (rI vm fun i j=>.int (i / j)):=opI fun i j _ _ _ _ _ hc q=>by
  have h1:(0:Int) < j:=hc.1
  have h2:j < 1073741824:=hc.2
  exact floordiv_int (by omega) (by rw [Int.fdiv_eq_ediv_of_nonneg i (by omega)]; exact q) (.inl (PyProof.noPylong_small (by omega)))
theorem jJ:OpR X (binaryOp .Mod) (rI (fun _ j=>0 < j) fun i j=>.int (i % j)):=opI fun i j _ _ _ _ _ hc q=>by
  have h1:(0:Int) < j:=hc
  exact mod_int' (by omega) (by rw [Int.fmod_eq_emod_of_nonneg i (by omega)]; exact q)
theorem unI {f:Value→Sem Value} {g:Int→Int}
    (rule:∀ (i:Int) (t:Tok) (s:Shared) (Q:Value→Shared→Prop) (E:Value→Shared→Prop),Q (.int (g i) s.toks) { s with toks:=s.toks + 1 }→wpAny (model X.prog X.w) X.A (f (.int i t)) Q E s) :
    UnR X f (rU fun i=>.int (g i)):=by
  intro pins s σ H x v Q I rx h
  obtain ⟨i,rfl,q⟩:=h
  obtain ⟨t,rfl⟩:=rx
  exact rule i t s _ _ ⟨.int (g i),H,I.tok _,⟨_,rfl⟩,q⟩
theorem u9:UnR X (unaryOp .USub) (rU fun i=>.int (-i)):=unI fun _ _ _ _ _ q=>neg_int q
end
section
variable {X:Cx} {a b c:Expr} {ta tb tc:TE} {pos:Pos}
theorem vD:OpR X (compareOp .Lt) (rI0 fun i j=>.bl (decide (i < j))):=vZ fun _ _ _ _ _ _ _ q=>lt_int q
theorem tR:OpR X (compareOp .LtE) (rI0 fun i j=>.bl (decide (i≤j))):=vZ fun _ _ _ _ _ _ _ q=>le_int q
theorem OpR.or {f:Value→Value→Sem Value} {r r':R2} (h:OpR X f r) (h':OpR X f r'):OpR X f (fun x y H Q=>r x y H Q∨r' x y H Q):=by
  intro pins s σ H x y v u Q I rx ry q
  rcases q with q | q
  · exact h pins s σ H x y v u Q I rx ry q
  · exact h' pins s σ H x y v u Q I rx ry q
theorem jh (b:Expr) {op:CmpOp} (h:op≠.In:=by decide) (h2:op≠.NotIn:=by decide):behindInMarks op b=false:=by
  have e1:(op == CmpOp.In)=false:=by cases op <;> first | rfl | exact absurd rfl h
  have e2:(op == CmpOp.NotIn)=false:=by cases op <;> first | rfl | exact absurd rfl h2
  cases b <;> simp [behindInMarks,e1,e2]
theorem n8 {op:CmpOp} {r:R2} (ho:OpR X (compareOp op) r) (ha:PE X a ta) (hb:PE X b tb) (hm:behindInMarks op b=false):PE X (.Compare a [op] [b] pos) (tOp r ta tb):=by
  intro pins s σ H Q I h
  exact wpAny_Compare1 (t8 ha hb I h fun v u s2 x y H2 I2 rx ry q=>ho pins s2 σ H2 x y v u Q I2 rx ry q) hm
noncomputable def tJ (t:TE):TT:=fun σ H Q=>t σ H fun x H'=>∃ k,x=.bl k∧Q k H'
theorem iU {op:CmpOp} {r:R2} (ho:OpR X (compareOp op) r) (ha:PE X a ta) (hb:PE X b tb) (hm:behindInMarks op b=false):PT X (.Compare a [op] [b] pos) (tJ (tOp r ta tb)):=by
  intro pins s σ H Q I h
  refine wpAny_isTrue_Compare1 (thn (ha pins s σ H _ I h) fun v s1 ⟨x,H1,I1,r1,q1⟩=>thn (hb pins s1 σ H1 _ I1 q1) fun u s2 ⟨y,H2,I2,r2,q2⟩ =>
    thn (ho pins s2 σ H2 x y v u _ I2 r1 r2 q2) fun c s3 ⟨z,H3,I3,r3,k,e,q3⟩=>?_) hm
  subst e
  cases r3
  exact wpAny_truthy_bool ⟨H3,I3,q3⟩
noncomputable def uf (r r':R2) (ta tb tc:TE):TE:=fun σ H Q=>ta σ H fun x H1=>tb σ H1 fun y H2=>r x y H2 fun z H3=>∃ k,z=.bl k ∧
  (if k=true then tc σ H3 fun w' H4=>r' y w' H4 Q else Q (.bl false) H3)
theorem qO {op op':CmpOp} {r r':R2} (ho:OpR X (compareOp op) r) (ho':OpR X (compareOp op') r') (ha:PE X a ta) (hb:PE X b tb) (hc:PE X c tc)
    (hm:lastMarks [op,op'] [b,c]=false:=by with_unfolding_all rfl):PE X (.Compare a [op,op'] [b,c] pos) (uf r r' ta tb tc):=by
  intro pins s σ H Q I h
  refine Compare_chain (thn (ha pins s σ H _ I h) fun v s1 ⟨x,H1,I1,r1,q1⟩=>chain_link (thn (hb pins s1 σ H1 _ I1 q1) fun u s2 ⟨y,H2,I2,r2,q2⟩ =>
    thn (ho pins s2 σ H2 x y v u _ I2 r1 r2 q2) fun d s3 ⟨z,H3,I3,r3,k,e,q3⟩=>?_)) hm
  subst e
  cases r3
  refine wpAny_truthy_bool ?_
  cases k with
  | false=>exact ite_ff ⟨.bl false,H3,I3,rfl,q3⟩
  | true=>exact ite_tt (chain_last (thn (hc pins s3 σ H3 _ I3 q3) fun w' s4 ⟨z',H4,I4,r4,q4⟩=>ho' pins s4 σ H4 y z' u w' Q I4 r2 r4 q4))
theorem kM:(sizeLine:Nat) < 2 ^ 63:=by rw [sizeLine_eq]; decide
theorem vals1 {x:V} {us:List Value} (r:Vals [x] us):∃ u,us=[u]∧RelV x u:=by
  cases r with
  | cons r1 r2=>cases r2; exact ⟨_,rfl,r1⟩
theorem vals2 {x y:V} {us:List Value} (r:Vals [x,y] us):∃ u w',us=[u,w']∧RelV x u∧RelV y w':=by
  cases r with
  | cons r1 r2 =>
    cases r2 with
    | cons r3 r4=>cases r4; exact ⟨_,_,rfl,r1,r3⟩
theorem o4 (hc:X.calm=true):fo X (.builtin "min") (fun xs H Q=>∃ i j,xs=[.int i,.int j]∧Q (.int (if j < i then j else i)) H):=by
  intro pins s σ H xs us Q I r h
  obtain ⟨i,j,rfl,q⟩:=h
  obtain ⟨u,w',rfl,⟨t,rfl⟩,⟨t',rfl⟩⟩:=vals2 r
  refine min_two_ints (I.ok.hd hc) fun h' tk k=>⟨_,H,I.kept k,?_,q⟩
  by_cases hj:j < i
  · rw [if_pos hj,if_pos hj]; exact ⟨_,rfl⟩
  · rw [if_neg hj,if_neg hj]; exact ⟨_,rfl⟩
theorem j6:fo X (.type "int") (fun xs H Q=>(∃ i,xs=[.int i]∧Q (.int i) H)∨∃ k,xs=[.bl k]∧Q (.int (if k then 1 else 0)) H):=by
  intro pins s σ H xs us Q I r h
  rcases h with ⟨i,rfl,q⟩ | ⟨k,rfl,q⟩
  · obtain ⟨u,rfl,t,rfl⟩:=vals1 r
    exact call_int_int ⟨.int i,H,I,⟨_,rfl⟩,q⟩
  · obtain ⟨u,rfl,r1⟩:=vals1 r
    cases r1
    exact call_int_bool ⟨.int (if k then 1 else 0),H,I.tok _,⟨_,rfl⟩,q⟩
theorem lu:fo X (.type "str") (fun xs H Q=>∃ i,xs=[.int i]∧i.natAbs.log2 < 1920∧Q (.str (toString i)) H):=by
  intro pins s σ H xs us Q I r h
  obtain ⟨i,rfl,hz,q⟩:=h
  obtain ⟨u,rfl,t,rfl⟩:=vals1 r
  exact PySem.P.str_of_int hz ⟨.str _,H,I.tok _,⟨_,rfl⟩,q⟩
end
end L2
namespace L2
open PySem PySem.Spec PyProof.Rows
structure xy (h:Heap) (x dx C:Addr) (mA:Str→Option Value):Prop where
  obj:h.get? x=some (PySem.W.instObj C dx)
  ns:h.Ns1 dx mA
  ne:dx≠x
section
variable {prog:Program} {w:World} {A:Around} {E:Value→Shared→Prop} {s:Shared} {K:PySem.W.Frag} {x dx C f:Addr} {mA:Str→Option Value} {name:Str} {v:Value}
end
section
variable {P:Program} {w:World} {H H':Hp} {h h':Heap} {a C dx:Addr} {fs fs':List (Str × V)}
end
structure Cls (K:PySem.W.Frag) (C:Addr):Prop where
  pg:PySem.W.plainGet K C Str.empty=true
  hd:PySem.W.hasDictIn K C=true
  po:PySem.W.plainOver K C=true
  sa:PySem.W.findIn K (.ref C) "__setattr__"=some (some (.builtin "object.__setattr__"))
structure Con (K:PySem.W.Frag) (C:Addr) (f:Str) (v:V) (u:Value):Prop where
  at_:PySem.W.findIn K (.ref C) f=some (some u)
  rel:RelV v u
  get:PySem.W.specialIn K u "__get__"=some none
  cp:PySem.W.copiedNames.contains f=false
structure Meth (K:PySem.W.Frag) (C:Addr) (m:Str) (f:Addr):Prop where
  at_:PySem.W.findIn K (.ref C) m=some (some (.ref f))
  fn:PySem.W.isFn K (.ref f)=true
  kp:PySem.W.keepIn K (.ref f)=true
section
variable {X:Cx} {pins:List (Addr × Obj)} {σ:St} {H:Hp} {s:Shared} {a C dx:Addr} {fs:List (Str × V)} {f:Str} {v:V} {A:Around} {E:Value→Shared→Prop}
end
section
variable {X:Cx} {o e value:Expr} {f:Str} {pos pos' tpos:Pos} {ta tv:TE}
end
section
variable {X:Cx} {pins:List (Addr × Obj)} {σ:St} {H:Hp} {s:Shared} {A:Around} {E:Value→Shared→Prop} {Q:Value→Shared→Prop} {c:Value} {b:Bool}
inductive i6 (K:PySem.W.Frag) (H:Hp):V→Value→Prop where
  | non:i6 K H .non (.type "NoneType")
  | bl (x:Bool):i6 K H (.bl x) (.type "bool")
  | int (i:Int):i6 K H (.int i) (.type "int")
  | str (x:Str):i6 K H (.str x) (.type "str")
  | flt (x:UInt64):i6 K H (.flt x) (.type "float")
  | lst {a:Addr} {xs:List V} (e:H a=some (.lst xs)):i6 K H (.ref a) (.type "list")
  | frz {a:Addr} {o:Obj} {xs:List V} (e:H a=some (.frz o (.lst xs))):i6 K H (.ref a) (.type "list")
  | tup {a:Addr} {xs:List V} (e:H a=some (.tup xs)):i6 K H (.ref a) (.type "tuple")
  | dK {a:Addr} {kvs:List (Key × V)} (e:H a=some (.dK kvs)):i6 K H (.ref a) (.type "dict")
  | dT {a:Addr} {kvs:List (List Key × V)} (e:H a=some (.dT kvs)):i6 K H (.ref a) (.type "dict")
  | ins {a C dx:Addr} {fs:List (Str × V)} (e:H a=some (.ins C dx fs)) (cl:Cls K C) (ha:PySem.W.findIn K (.ref C) "__class__"=some (some (.builtin "object.__class__")))
      (hn:PySem.W.specialIn K (.builtin "object.__class__") "__get__"=some (some (.builtin "getset_descriptor.__get__"))) (htk:PySem.W.takesIn K (.builtin "object.__class__")=some true)
      (hm:PySem.W.mroIn K C (.type "object")=some true):i6 K H (.ref a) (.ref C)
end
end L2
namespace L2
open PySem PySem.Spec PyProof.Rows
structure cY (k:Nat) (A:Around):Prop where
  hd:A.handled=none
  dp:A.depth + 3 * k + 5 < recursionLimit
  un:A.units + 16 * k + 200 < cLine
theorem cY.mono {j k:Nat} {A:Around} (r:cY k A) (h:j≤k):cY j A:=⟨r.hd,by have:=r.dp; omega,by have:=r.un; omega⟩
theorem cY.deeper {k:Nat} {A:Around} (r:cY (k + 1) A) (env:Env):cY k (A.deeper env) :=
  ⟨r.hd,by have:=r.dp; show A.depth + 1 + 3 * k + 5 < _; omega,by have:=r.un; show A.units + 3 + 16 * k + 200 < _; omega⟩
theorem cY.depth {k:Nat} {A:Around} (r:cY k A):A.depth < recursionLimit:=by have:=r.dp; omega
theorem cY.units {k:Nat} {A:Around} (r:cY k A):A.units + 64 < cLine:=by have:=r.un; omega
noncomputable def wU:TA:=fun _ H Q=>Q [] H
noncomputable def vQ (ta:TE) (tr:TA):TA:=fun σ H Q=>ta σ H fun x H1=>tr σ H1 fun xs H2=>Q (x::xs) H2
section
variable {X:Cx} {e:Expr} {es:List Expr} {te:TE} {t:TA} {pos:Pos}
theorem df:PA X [] wU:=fun _ _ _ _ H Q I h=>Calls.spliced_nil ⟨[],H,I,.nil,h⟩
theorem b4 (ha:PE X e te) (hr:PA X es t) (hs:starEach (e::es) X.env=(false,eval e X.env)::starEach es X.env:=by rfl):PA X (e::es) (vQ te t):=by
  intro pos pins s σ H Q I h
  rw [hs]
  show wpAny _ _ (spliced ((false,eval e X.env)::backTo pos (starEach es X.env))) _ _ s
  refine Calls.spliced_cons (thn (ha pins s σ H _ I h) fun u s1 ⟨x,H1,I1,r1,q1⟩=>?_)
  exact thn (hr pos pins s1 σ H1 _ I1 q1) fun us s2 ⟨xs,H2,I2,r2,q2⟩=>⟨x::xs,H2,I2,.cons r1 r2,q2⟩
noncomputable def wG (t:TA):TE:=fun σ H Q=>t σ H fun xs H1=>xs.length≤sizeLine∧∀ p,H1 p=none→Q (.ref p) (upd H1 p (.tup xs))
noncomputable def w6 (t:TA):TE:=fun σ H Q=>t σ H fun xs H1=>xs.length≤sizeLine∧∀ p,H1 p=none→Q (.ref p) (upd H1 p (.lst xs))
theorem uY {x1} (h:PA X es t):PE X (.Tuple es x1 pos) (wG t):=by
  intro pins s σ H Q I hq
  refine wpAny_Tuple_spliced (thn (h pos pins s σ H _ I hq) fun us s1 ⟨xs,H1,I1,r,z,q⟩=>⟨by rw [← r.length]; exact z,?_⟩)
  have hf:H1 s1.heap.objs.size=none:=I1.hok.fresh (Nat.le_refl _)
  refine ⟨.ref s1.heap.objs.size,upd H1 s1.heap.objs.size (.tup xs),I1.laid (t':=s1.toks) (fun b u e=>Heap.get?_push_of_some _ e) (Nat.le_refl _) ?_,rfl,q _ hf⟩
  exact ⟨z,us,r,⟨_,Heap.get?_push_size _ rfl,rfl,rfl,_,rfl⟩⟩
theorem mX (h:PA X es t):PE X (.List es pos) (w6 t):=by
  intro pins s σ H Q I hq
  refine wpAny_List_spliced (thn (h pos pins s σ H _ I hq) fun us s1 ⟨xs,H1,I1,r,z,q⟩=>⟨by rw [← r.length]; exact z,?_⟩)
  have hf:H1 s1.heap.objs.size=none:=I1.hok.fresh (Nat.le_refl _)
  refine ⟨.ref s1.heap.objs.size,upd H1 s1.heap.objs.size (.lst xs),I1.laid (t':=s1.toks) (fun b u e=>Heap.get?_push_of_some _ e) (Nat.le_refl _) ?_,rfl,q _ hf⟩
  exact ⟨z,us,0,r,Heap.get?_push_size _ rfl⟩
end
noncomputable abbrev Sp:=List V→Hp→VK→XK→Prop
noncomputable abbrev CXT:=List Env→Hp→Shared→XK→Value→Shared→Prop
structure tH (P:Program) (w:World) (K:PySem.W.Frag) (mg:Str→Option Value) (base:Heap) (A:Around) (outer:List Env) (s:Shared) (H:Hp):Prop where
  frames:A.frames=some outer
  mod:Mod K mg base
  bs:∀ b o,base.get? b=some o→s.heap.get? b=some o∧H b=none
  bsz:base.objs.size≤s.heap.objs.size
  funs:s.heap.FunFrames base outer
  frf:∀ b∈frs outer,H b=none
  hok:HOk P w H s.heap
  bare:AllBare s.gens
  tab:∀ P q,TabOf K P q→H P=some (.tbl q)
noncomputable def CE (outer:List Env) (P:Program) (w:World) (H:Hp) (s:Shared) (Q:VK) (u:Value) (s':Shared):Prop :=
  ∃ v H',s'.os=s.os∧AllBare s'.gens∧Un (frs outer) [] H H' s.heap s'.heap∧HOk P w H' s'.heap∧RelV v u∧Q v H'
noncomputable def CR (CX:CXT) (outer:List Env) (P:Program) (w:World) (H:Hp) (s:Shared) (Q:VK) (E:XK) (r:Result) (s':Shared):Prop :=
  match r with
  | .ok (.ret u)=>CE outer P w H s Q u s'
  | .ok _=>False
  | .error e=>CX outer H s E e s'
structure fi (P:Program) (w:World) (K:PySem.W.Frag) (mg:Str→Option Value) (base:Heap) (CX:CXT) (k:Nat) (f:Addr) (fd:FuncData) (ps:List Str) (sp:Sp):Prop where
  len:∀ vs H Q E,sp vs H Q E→vs.length=ps.length
  run:∀ (A:Around) (outer:List Env) (s:Shared) (H:Hp) (args:Args) (us:List Value) (vs:List V) (Q:VK) (E:XK),cY k A→tH P w K mg base A outer s H→BindsTo s fd args (ps.zip us)→Vals vs us→sp vs H Q E →
    codeAny (model P w) A (.call (.ref f) args) (CR CX outer P w H s Q E) s
section
variable {X:Cx} {pins:List (Addr × Obj)} {σ:St} {H:Hp} {s s':Shared}
theorem Inv.env0 (I:Inv X pins σ H s):tH X.prog X.w X.K X.mg X.base X.A X.stack s H :=
  ⟨I.ok.frames,I.ok.mod,I.bs,Nat.le_trans I.ok.bsz I.sz,I.stack,I.stkFree,I.hok,I.bare,I.tab⟩
theorem Inv.after {Q:VK} {u:Value} (I:Inv X pins σ H s) (h:CE X.stack X.prog X.w H s Q u s'):EP X pins σ Q u s':=by
  obtain ⟨v,H',os,bare,un,hok,r,q⟩:=h
  obtain ⟨hh,g,d,t,os'⟩:=s'
  obtain rfl:os'=s.os:=os
  exact ⟨v,H',I.call (h':=hh) (g':=g) (d':=d) (t':=t) (ch:=[]) un hok bare (fun b z=>absurd z (by simp)),r,q⟩
end
noncomputable def vj (sp:Sp) (dvs:List V) (E:XK) (t:TA):TE:=fun σ H Q=>t σ H fun vs H1=>sp (vs++dvs) H1 Q E
noncomputable def Binds (K:PySem.W.Frag) (fd:FuncData) (ps:List Str) (ds:List Value):Prop :=
  ∀ (s:Shared) (us:List Value),K.In s.heap→(us++ds).length=ps.length→BindsTo s fd ⟨us,[]⟩ (ps.zip (us++ds))
theorem Binds.all {K:PySem.W.Frag} {fd:FuncData} {ps:List Str} (h:∀ us:List Value,us.length=ps.length→bindArgs fd ⟨us,[]⟩=pure (ps.zip us)):Binds K fd ps []:=fun s us _ hl=>by
  rw [List.append_nil] at hl ⊢
  exact .of_eq (h us hl)
noncomputable def Passes (CX:CXT) (X:Cx) (E:XK):Prop:=∀ (pins:List (Addr × Obj)) (σ:St) (H:Hp) (s:Shared) (e:Value) (s':Shared),Inv X pins σ H s→CX X.stack H s E e s'→X.xe e s'
section
variable {X:Cx} {CX:CXT} {k:Nat} {f C:Addr} {fd:FuncData} {ps:List Str} {sp:Sp} {dvs:List V} {ds:List Value} {E:XK} {x m:Str} {p pos apos:Pos} {e o:Expr} {es:List Expr} {ta:TE} {t:TA}
theorem uO {pins:List (Addr × Obj)} {σ:St} {H:Hp} {s:Shared} {Q:VK} {us:List Value} {vs:List V} (F:fi X.prog X.w X.K X.mg X.base CX k f fd ps sp) (hr:cY k X.A) (hb:Binds X.K fd ps ds) (hd:Vals dvs ds) (hx:Passes CX X E)
    (I:Inv X pins σ H s) (r:Vals vs us) (h:sp (vs++dvs) H Q E):wpAny (model X.prog X.w) X.A (call (.ref f) us) (EP X pins σ Q) X.xe s:=by
  have r2:Vals (vs++dvs) (us++ds):=r.append hd
  have hl:(us++ds).length=ps.length:=by rw [← r2.length]; exact F.len _ _ _ _ h
  refine wpAny_call (codeAny_mono (F.run X.A X.stack s H ⟨us,[]⟩ (us++ds) (vs++dvs) Q E hr I.env0 (hb s us I.kIn hl) r2 h) fun r s' hq=>?_)
  cases r with
  | error e=>exact hx pins σ H s e s' I hq
  | ok fl =>
    cases fl with
    | ret u=>exact I.after hq
    | next=>exact False.elim hq
    | brk=>exact False.elim hq
    | cont=>exact False.elim hq
theorem oA (F:fi X.prog X.w X.K X.mg X.base CX k f fd ps sp) (hr:cY k X.A) (hg:Gl X x) (hm:X.mg x=some (.ref f)) (hk:PySem.W.keepIn X.K (.ref f)=true) (hb:Binds X.K fd ps ds) (hd:Vals dvs ds) (hx:Passes CX X E)
    (ha:PA X (e::es) t) (hdb:(x == ("__debug__":Str))=false:=by decide) (he:starEach (e::es) X.env=(false,eval e X.env)::starEach es X.env:=by rfl) (hpl:(backTo pos (starEach es X.env)).any (·.1)=false:=by rfl) :
    PE X (.Call (.Name x p) (e::es) [] pos) (vj sp dvs E t):=by
  intro pins s σ H Q I h
  refine wpAny_Call_Name_kw (gX I hg hm ?_ hdb)
  refine PySem.W.callWith_K (h₀:=X.base) I.ok.mod.kin hk (thn (ha pos pins s σ H _ I h) fun us s1 ⟨vs,H1,I1,r,q⟩=>⟨I1.kIn,?_⟩) he hpl
  exact uO F hr hb hd hx I1 r q
structure Mk (K:PySem.W.Frag) (C f:Addr):Prop where
  makes:PySem.W.makesIn K C=true
  init:PySem.W.findIn K (.ref C) "__init__"=some (some (.ref f))
  fn:PySem.W.isFn K (.ref f)=true
  kp:PySem.W.keepIn K (.ref C)=true
end
section
variable {X:Cx} {CX:CXT} {k:Nat} {f C:Addr} {fd:FuncData} {ps ks:List Str} {sp:Sp} {E:XK} {x m:Str} {p pos apos kpos:Pos} {e o:Expr} {es:List Expr} {kws:List Keyword} {te ta:TE} {t tk:TA} {nm:Option Str}
structure wH (K:PySem.W.Frag) (fd:FuncData) (ps ks:List Str) (g:List Value→List Value→List Value) (gV:List V→List V→List V):Prop where
  to:∀ (s:Shared) (us ws:List Value),K.In s.heap→(g us ws).length=ps.length→BindsTo s fd ⟨us,ks.zip ws⟩ (ps.zip (g us ws))
  rel:∀ {vs:List V} {us:List Value} {zs:List V} {ws:List Value},Vals vs us→Vals zs ws→Vals (gV vs zs) (g us ws)
variable {g:List Value→List Value→List Value} {gV:List V→List V→List V}
end
structure a6 (N P:List Str) (sc:Scope):Prop where
  kind:sc.kind=.function
  co:sc.isCoroutine=false
  gen:sc.isGenerator=false
  nd:N.Nodup
  pre:N.take P.length=P
  par:∀ x∈P,sc.names.lookup x=some .local∨sc.names.lookup x=some .cell
  nofree:∀ y∈sc.names,y.2≠.free
theorem kv {kindOf:Str→Option NameKind} {x:Str}:∀ {binds:List (Str × Value)} {m:Str→Option Value},(∀ v,(x,v) ∉ binds)→bindL kindOf binds m x=m x
  | [],_,_=>rfl
  | (n,v)::r,m,h=>by
    unfold bindL
    rw [kv fun w hw=>h w (List.mem_cons_of_mem _ hw)]
    split
    · have:x≠n:=by rintro rfl; exact h v List.mem_cons_self
      simp [this]
    · rfl
theorem kh {kindOf:Str→Option NameKind} {x:Str}:∀ {binds:List (Str × Value)} {m:Str→Option Value},(∀ v,(x,v) ∉ binds)→bindC kindOf binds m x=m x
  | [],_,_=>rfl
  | (n,v)::r,m,h=>by
    unfold bindC
    rw [kh fun w hw=>h w (List.mem_cons_of_mem _ hw)]
    split
    · rfl
    · have:x≠n:=by rintro rfl; exact h v List.mem_cons_self
      simp [this]
theorem kz {kindOf:Str→Option NameKind} {x:Str} {v:Value}:∀ {P:List Str} {vs:List Value} {i:Nat} {m:Str→Option Value},P.Nodup→P[i]?=some x→vs[i]?=some v→kindOf x=some .local →
    bindL kindOf (P.zip vs) m x=some v
  | [],_,_,_,_,h,_,_=>by simp at h
  | _::_,[],_,_,_,_,h,_=>by simp at h
  | p::P,w::vs,0,m,nd,h1,h2,hk=>by
    simp at h1 h2; subst h1; subst h2
    show bindL kindOf ((p,w)::P.zip vs) m p=_
    unfold bindL
    rw [kv fun v hv=>(List.nodup_cons.mp nd).1 (List.of_mem_zip hv).1,if_pos hk]
    simp
  | p::P,w::vs,i + 1,m,nd,h1,h2,hk=>by
    show bindL kindOf ((p,w)::P.zip vs) m x=_
    unfold bindL
    exact kz (i:=i) (List.nodup_cons.mp nd).2 (by simpa using h1) (by simpa using h2) hk
theorem ko {kindOf:Str→Option NameKind} {x:Str} {v:Value}:∀ {P:List Str} {vs:List Value} {i:Nat} {m:Str→Option Value},P.Nodup→P[i]?=some x→vs[i]?=some v→kindOf x≠some .local →
    bindC kindOf (P.zip vs) m x=some v
  | [],_,_,_,_,h,_,_=>by simp at h
  | _::_,[],_,_,_,_,h,_=>by simp at h
  | p::P,w::vs,0,m,nd,h1,h2,hk=>by
    simp at h1 h2; subst h1; subst h2
    show bindC kindOf ((p,w)::P.zip vs) m p=_
    unfold bindC
    rw [kh fun v hv=>(List.nodup_cons.mp nd).1 (List.of_mem_zip hv).1,if_neg hk]
    simp
  | p::P,w::vs,i + 1,m,nd,h1,h2,hk=>by
    show bindC kindOf ((p,w)::P.zip vs) m x=_
    unfold bindC
    exact ko (i:=i) (List.nodup_cons.mp nd).2 (by simpa using h1) (by simpa using h2) hk
noncomputable def start (N:List Str) (vs:List V):St:=vs.map some++List.replicate (N.length - vs.length) none
noncomputable def eC (CX:CXT) (P:Program) (w:World) (K:PySem.W.Frag) (mg:Str→Option Value) (base:Heap) (N:List Str) (qual:Str) (scope:Scope) (f:Addr) (cd:Value) (A:Around) (outer:List Env) (s:Shared) (H:Hp) (E:XK):Cx where
  prog:=P
  w:=w
  K:=K
  mg:=mg
  base:=base
  A:=A.deeper (envOfC qual scope s.heap.objs.size f cd)
  N:=N
  s₀:=s
  H₀:=H
  env:=envOfC qual scope s.heap.objs.size f cd
  outer:=outer
  stack:=envOfC qual scope s.heap.objs.size f cd::outer
  ex:=[]
  calm:=true
  fn:=fun _=>true
  pn:=[]
  xe:=fun e s'=>wpAny (model P w) (A.deeper (envOfC qual scope s.heap.objs.size f cd)) (leaving (envOfC qual scope s.heap.objs.size f cd) e) (fun _ s''=>CX outer H s E e s'') (fun e' s''=>CX outer H s E e' s'') s'
theorem lJ {sc:Scope} {n:Nat} {x:Str} (h:sc.names.lookup x=some .cell):∃ c,(cellsFrom n sc.names []).lookup x=some c:=by
  have q:=PySem.W.cellsFrom_some sc.names n [] (.inl h)
  exact Option.isSome_iff_exists.mp q
theorem pN {CX:CXT} {P:Program} {w:World} {K:PySem.W.Frag} {mg:Str→Option Value} {base:Heap} {N ps:List Str} {qual:Str} {scope:Scope} {f:Addr} {cd:Value} {A:Around} {outer:List Env} {s s1:Shared} {H:Hp} {E:XK} {us:List Value} {vs:List V}
    (S:a6 N ps scope) (hd:A.handled=none) (e0:tH P w K mg base A outer s H) (hl:vs.length=ps.length) (r:Vals vs us)
    (x:InCallC s s.heap.objs.size (bindL (envOfC qual scope s.heap.objs.size f cd).kindOf (ps.zip us) fun _=>none) (cellsFrom (s.heap.objs.size + 1) scope.names []) (bindC (envOfC qual scope s.heap.objs.size f cd).kindOf (ps.zip us) fun _=>none) s1) :
    Inv (eC CX P w K mg base N qual scope f cd A outer s H E) [] (start N vs) H s1:=by
  have hpl:ps.length≤N.length:=by have:=congrArg List.length S.pre; rw [List.length_take] at this; omega
  obtain ⟨h1,tk,rfl,hk⟩:=x.done
  have noA:∀ b:Addr,b ∉ (eC CX P w K mg base N qual scope f cd A outer s H E).ex:=fun b z=>absurd (show b∈([]:List Addr) from z) (by simp)
  refine ⟨⟨e0.mod,S.kind,rfl,rfl,Nat.le_refl _,fun y z c h1 h2=>?_,fun y hy=>?_,fun y c _ h=>?_,fun _=>hd,Around.frames_deeper e0.frames,.inr ⟨rfl,rfl⟩,fun b z=>absurd z (noA b),e0.bs,e0.bsz,fun b _ _=>noA b,fun b z=>absurd z (noA b),e0.funs,e0.frf⟩,
    rfl,e0.bare,Un.kept hk,⟨_,x.toInCall.ns,fun i y v h1 h2 h3=>?_⟩,fun y c h=>⟨_,x.cell y c h⟩,e0.hok.fresh (Nat.le_refl _),fun y c h=>?_,fun p hp=>absurd (show p∈([]:List (Addr × Obj)) from hp) (by simp),e0.hok.kept hk,?_,e0.tab⟩
  · exact name_of_addr x.apart (PySem.mem_of_lookup h1) (PySem.mem_of_lookup h2)
  · have hy:scope.names.lookup y=some .cell∨scope.names.lookup y=some .free:=hy
    rcases hy with hy | hy
    · exact lJ hy
    · exact absurd rfl (S.nofree _ (PySem.mem_of_lookup hy))
  · exact Nat.le_of_lt (x.above y c (PySem.mem_of_lookup h))
  · have hi:i < vs.length:=by
      unfold start at h2
      by_cases hi:i < vs.length
      · exact hi
      · rw [List.getElem?_append_right (by simpa using hi)] at h2
        rw [List.getElem?_replicate] at h2
        split at h2 <;> cases h2
    have ha:vs[i]?=some v:=by
      unfold start at h2
      rw [List.getElem?_append_left (by simpa using hi),List.getElem?_map] at h2
      cases e:vs[i]? with
      | none=>rw [e] at h2; cases h2
      | some a=>rw [e] at h2; cases h2; rfl
    obtain ⟨u,hu,rv⟩:=r.get ha
    have hp:ps[i]?=some y:=by
      rw [← S.pre,List.getElem?_take_of_lt (by omega)]; exact h1
    have ndP:ps.Nodup:=by rw [← S.pre]; exact S.nd.sublist (List.take_sublist _ _)
    refine ⟨u,rv,?_⟩
    rcases S.par y (List.mem_of_getElem? hp) with k | k
    · exact .inl ⟨k,kz ndP hp hu k⟩
    · obtain ⟨c,e⟩:=lJ (n:=s.heap.objs.size + 1) k
      refine .inr ⟨.inl k,c,e,?_⟩
      have q:=x.cell y c e
      rw [ko ndP hp hu (by show scope.names.lookup y≠_; rw [k]; decide)] at q
      exact q
  · exact e0.hok.fresh (Nat.le_of_lt (x.above y c (PySem.mem_of_lookup h)))
  · unfold start
    show _=N.length
    rw [List.length_append,List.length_map,List.length_replicate]
    omega
theorem tN {CX:CXT} {P:Program} {w:World} {K:PySem.W.Frag} {mg:Str→Option Value} {base:Heap} {k:Nat} {f:Addr} {name qual:Str} {params:Arguments} {body:List Stmt} {scope:Scope} {dV kV doc pm cdv ct oc:Value} {an od:Option Addr}
    {osl:Array (Option Value)} {N ps:List Str} {sp:Sp} (lk:K.lookup f=some ⟨oc,od,.func (PySem.W.fnOf name qual params body scope dV kV doc pm an cdv ct),osl⟩) (hcd:PySem.W.codeIn K cdv qual=true) (S:a6 N ps scope)
    (len:∀ vs H Q E,sp vs H Q E→vs.length=ps.length)
    (hbody:∀ (A:Around) (outer:List Env) (s:Shared) (H:Hp) (vs:List V) (Q:VK) (E:XK),cY k (A.deeper (envOfC qual scope s.heap.objs.size f cdv))→sp vs H Q E →
      ∃ t,PSs (eC CX P w K mg base N qual scope f cdv A outer s H E) body t∧t { nx:=fun _ H'=>Q .non H',rt:=Q } (start N vs) H) :
    fi P w K mg base CX (k + 1) f (PySem.W.fnOf name qual params body scope dV kV doc pm an cdv ct) ps sp:=by
  refine ⟨len,fun A outer s H args us vs Q E hr e0 hb r hsp=>?_⟩
  have hl:=len _ _ _ _ hsp
  have KX:K.In s.heap:=e0.mod.kin.keeps fun b o e=>(e0.bs b o e).1
  have lim:s.heap.NoLimit:=e0.mod.nolimit.keeps fun b o e=>(e0.bs b o e).1
  have hkind:∀ y∈ps.zip us,scope.names.lookup y.1=some .local∨(scope.names.lookup y.1=some .cell∧((cellsFrom (s.heap.objs.size + 1) scope.names []).lookup y.1).isSome=true):=fun ⟨n,v⟩ hy=>by
    rcases S.par n (List.of_mem_zip hy).1 with q | q
    · exact .inl q
    · exact .inr ⟨q,PySem.W.cellsFrom_some _ _ _ (.inl q)⟩
  refine codeAny_call_function hr.depth (KX _ _ lk) rfl S.co S.gen rfl (PySem.W.codeRec_of KX hcd) (hb _ _ _ _ ?_)
  refine wpAny_newFunctionEnv_cells S.kind hkind fun env he s1 x=>?_
  subst he
  refine ⟨lim.keeps x.toInCall.keep,codeAny_func ?_⟩
  obtain ⟨t,ht,hq⟩:=hbody A outer s H vs Q E (hr.deeper _) hsp
  have I:Inv (eC CX P w K mg base N qual scope f cdv A outer s H E) [] (start N vs) H s1:=pN S hr.hd e0 hl r x
  refine wpAny_mono (ht [] s1 (start N vs) H _ I hq) (fun fl s' hs=>?_) fun e s' hs=>hs
  have fin:∀ {σ':St} {H':Hp} {v:V} {u:Value},Inv (eC CX P w K mg base N qual scope f cdv A outer s H E) [] σ' H' s'→RelV v u→Q v H'→CE outer P w H s Q u s' :=
    fun {σ' H' v u} J rv q=>⟨v,H',J.os,J.bare,J.base,J.hok,rv,q⟩
  cases fl with
  | ret u =>
    obtain ⟨v,σ',H',J,rv,q⟩:=hs
    exact fin J rv q
  | next =>
    obtain ⟨σ',H',J,q⟩:=hs
    exact fin (v:=V.non) (u:=Value.none) J rfl q
  | brk =>
    obtain ⟨_,_,_,q⟩:=hs
    exact False.elim q
  | cont =>
    obtain ⟨_,_,_,q⟩:=hs
    exact False.elim q
end L2
namespace L2
open PySem PySem.Spec PyProof.Rows
section
variable {X:Cx} {x:Str} {p pos:Pos} {e:Expr} {es:List Expr} {t:TA} {id T:String} {r:List V→Hp→VK→Prop}
noncomputable def tCB (r:List V→Hp→VK→Prop) (t:TA):TE:=fun σ H Q=>t σ H fun vs H1=>r vs H1 Q
theorem dO (hc:fo X (.builtin id) r) (hg:Gl X x) (hm:X.mg x=none) (hv:bootBuiltins x=some (.builtin id)) (ha:PA X (e::es) t) (hn:x≠"__name__":=by decide) (hdb:(x == ("__debug__":Str))=false:=by decide)
    (he:starEach (e::es) X.env=(false,eval e X.env)::starEach es X.env:=by rfl) (hpl:(backTo pos (starEach es X.env)).any (·.1)=false:=by rfl):PE X (.Call (.Name x p) (e::es) [] pos) (tCB r t):=by
  intro pins s σ H Q I h
  refine wpAny_Call_Name_kw (d5 I hg hm hv ?_ hn hdb)
  exact PyProof.Rows.callWith_builtin1 (thn (ha pos pins s σ H _ I h) fun us s1 ⟨vs,H1,I1,r1,q1⟩=>hc pins s1 σ H1 vs us Q I1 r1 q1) he hpl
theorem eE (hc:fo X (.type T) r) (hg:Gl X x) (hm:X.mg x=none) (hv:bootBuiltins x=some (.type T)) (ha:PA X (e::es) t) (hn:x≠"__name__":=by decide) (hdb:(x == ("__debug__":Str))=false:=by decide)
    (he:starEach (e::es) X.env=(false,eval e X.env)::starEach es X.env:=by rfl) (hpl:(backTo pos (starEach es X.env)).any (·.1)=false:=by rfl):PE X (.Call (.Name x p) (e::es) [] pos) (tCB r t):=by
  intro pins s σ H Q I h
  refine wpAny_Call_Name_kw (d5 I hg hm hv ?_ hn hdb)
  exact PyProof.Rows.callWith_type1 (thn (ha pos pins s σ H _ I h) fun us s1 ⟨vs,H1,I1,r1,q1⟩=>hc pins s1 σ H1 vs us Q I1 r1 q1) he hpl
end
end L2
namespace HT
open PySem PyProof.Rows
section
open PySem.SeqAt
open PySem.AutoSeq1 (wpAny_loadPart')
open PySem.MeetsSeq PySem.MeetsSeq2 PySem.MeetsSeq3
end
section
variable {prog:Program} {w:World} {A:Around} {E:Value→Shared→Prop} {s:Shared}
theorem sU {t b:Addr} {vs ws:List Value} {Q:Value→Shared→Prop} (ht:IsTup s.heap t vs.toArray) (hb:IsTup s.heap b ws.toArray) (hv:vs≠[])
    (h1:ws=[]→Q (.ref t) s) (h2:ws≠[]→Q (.ref s.heap.objs.size) { s with heap:=s.heap.push { cls:=.type "tuple",data:=.seq (vs++ws).toArray } })
    (hsz:vs.length + ws.length≤sizeLine):wpAny (model prog w) A (binaryOp .Add (.ref t) (.ref b)) Q E s:=by
  obtain ⟨⟨cls,dd,data,sl⟩,ho,hc,n,hd⟩:=id ht
  obtain ⟨⟨cls2,dd2,data2,sl2⟩,ho2,hc2,n2,hd2⟩:=id hb
  simp only at hc hd hc2 hd2
  subst hc hd hc2 hd2
  have e:vs.toArray++ws.toArray=(vs++ws).toArray:=by simp
  by_cases hw:ws=[]
  · exact concat_meets ⟨_,ho,rfl⟩ ⟨_,ho2,rfl⟩ noFill_tuple_add seq_tuple_add PySem.F.slot_tuple_add PySem.F.entry_tuple_add (PySem.F.args_tuple_add_2 _ _)
      (tuple_addW1 t b vs.toArray ws.toArray n n2 dd dd2 sl sl2 (by simpa using hv) (by simp [hw])) ⟨ho,ho2,h1 hw⟩
  · refine concat_meets ⟨_,ho,rfl⟩ ⟨_,ho2,rfl⟩ noFill_tuple_add seq_tuple_add PySem.F.slot_tuple_add PySem.F.entry_tuple_add (PySem.F.args_tuple_add_2 _ _)
      (tuple_addW2 t b vs.toArray ws.toArray n n2 dd dd2 sl sl2 (by simpa using hv) (by simpa using hw) (by rw [List.size_toArray,List.size_toArray]; exact hsz)) ⟨ho,ho2,?_⟩
    rw [e]
    exact h2 hw
noncomputable def sIx (n d:Nat):Option Int→Nat
  | none=>d
  | some v=>if v < 0 then (v + (n:Int)).toNat else min v.toNat n
theorem oz (n d k:Nat):sIx n d (some (k:Int))=min k n:=by
  show (if (k:Int) < 0 then ((k:Int) + (n:Int)).toNat else min (k:Int).toNat n)=min k n
  rw [if_neg (by omega),Int.toNat_natCast]
theorem vc (n d:Nat) (hd:d≤n) (o:Option Int):sIx n d o≤n:=by
  cases o with
  | none=>exact hd
  | some v =>
    show (if v < 0 then (v + (n:Int)).toNat else min v.toNat n)≤n
    by_cases hv:v < 0
    · rw [if_pos hv]; omega
    · rw [if_neg hv]; exact Nat.min_le_right _ _
theorem oG (v:Int) (n d:Nat):(if v < 0 then max (v + (n:Int)) 0 else min v (n:Int))=((sIx n d (some v):Nat):Int):=by
  show (if v < 0 then max (v + (n:Int)) 0 else min v (n:Int))=(((if v < 0 then (v + (n:Int)).toNat else min v.toNat n):Nat):Int)
  by_cases hv:v < 0
  · simp only [if_pos hv]; omega
  · simp only [if_neg hv]; omega
theorem nu (lo hi:Option Int) (n:Nat):Builtin.Slice.sliceAdjust lo hi 1 (n:Int)=(((sIx n 0 lo:Nat):Int),((sIx n n hi:Nat):Int)):=by
  have h1:¬ ((1:Int) < 0):=by omega
  unfold Builtin.Slice.sliceAdjust
  simp only [h1,if_false]
  refine Prod.ext ?_ ?_
  · cases lo with
    | none=>rfl
    | some v=>exact oG v n 0
  · cases hi with
    | none=>rfl
    | some v=>exact oG v n n
theorem nT (i j:Nat):Builtin.Slice.slicePlaces (i:Int) (j:Int) 1=j - i:=by
  unfold Builtin.Slice.slicePlaces
  have h1:(1:Int) > 0:=by omega
  simp only [h1,if_true,Int.ediv_one]
  split <;> omega
theorem jm {v:Value} {o:Option Int} {Q:Option Int→Shared→Prop} (p:IsPart v o) (h:Q o s):wpAny (model prog w) A (Builtin.Slice.slicePartIndex v) Q E s:=by
  cases p with
  | none=>exact slicePart_none h
  | int i t=>exact slicePart_int h
theorem eG {sl:Addr} {vl vu:Value} {lo hi:Option Int} {n:Nat} {Q:Int × Int × Nat→Shared→Prop} (hs:s.heap.IsSliceOf sl vl vu .none) (pl:IsPart vl lo) (pu:IsPart vu hi)
    (h:Q (((sIx n 0 lo:Nat):Int),1,sIx n n hi - sIx n 0 lo) s):wpAny (model prog w) A (Builtin.Slice.sliceApplied (.ref sl) (pure (n:Int))) Q E s:=by
  obtain ⟨os,hos,hcs,hds⟩:=id hs
  unfold Builtin.Slice.sliceApplied Builtin.Slice.sliceFields
  refine wpAny_bind (wpAny_bind (wpAny_field hos hds (x:=vl) rfl (wpAny_bind (wpAny_field hos hds (x:=vu) rfl (wpAny_bind (wpAny_field hos hds (x:=.none) rfl (wpAny_pure ?_)))))))
  refine wpAny_bind (slicePart_none ?_)
  show wpAny _ _ (if ((1:Int) == 0)=true then _ else _) _ _ s
  rw [if_neg (by decide)]
  refine wpAny_bind (jm pl (wpAny_bind (jm pu (wpAny_bind (wpAny_pure ?_)))))
  show wpAny _ _ (match Builtin.Slice.sliceAdjust lo hi 1 (n:Int) with | (lo,hi)=>pure (lo,(1:Int),Builtin.Slice.slicePlaces lo hi 1)) _ _ s
  rw [nu lo hi n]
  show wpAny _ _ (pure (((sIx n 0 lo:Nat):Int),(1:Int),Builtin.Slice.slicePlaces ((sIx n 0 lo:Nat):Int) ((sIx n n hi:Nat):Int) 1)) _ _ s
  rw [nT]
  exact wpAny_pure h
theorem qi (xs:Array Value) (i k:Nat):((List.range k).filterMap fun (m:Nat)=>xs[((i:Int) + (m:Int) * 1).toNat]?).toArray=((xs.toList.drop i).take k).toArray:=by
  have e:(fun (m:Nat)=>xs[((i:Int) + (m:Int) * 1).toNat]?)=fun m=>xs[i + m]?:=by
    funext m
    have:((i:Int) + (m:Int) * 1).toNat=i + m:=by omega
    rw [this]
  rw [e]
  have:=pick_run xs i k
  rw [List.filterMap_map] at this
  have e2:((fun x=>xs[x]?) ∘ fun x=>i + x)=fun m=>xs[i + m]?:=rfl
  rw [e2] at this
  rw [this]
theorem gB {t sl:Addr} {items:Array Value} {vl vu:Value} {lo hi:Option Int} {Q:Value→Shared→Prop} (ht:IsTup s.heap t items) (hs:s.heap.IsSliceOf sl vl vu .none) (pl:IsPart vl lo) (pu:IsPart vu hi)
    (hw:¬ (sIx items.size 0 lo=0∧sIx items.size items.size hi=items.size))
    (h:Q (.ref s.heap.objs.size) { s with heap:=s.heap.push { cls:=.type "tuple",data:=.seq ((items.toList.drop (sIx items.size 0 lo)).take (sIx items.size items.size hi - sIx items.size 0 lo)).toArray } })
    (hsz:items.size≤sizeLine):wpAny (model prog w) A (getItem (.ref t) (.ref sl)) Q E s:=by
  have htake:sizeOk (.seq ((items.toList.drop (sIx items.size 0 lo)).take (sIx items.size items.size hi - sIx items.size 0 lo)).toArray):=by
    show ((items.toList.drop (sIx items.size 0 lo)).take (sIx items.size items.size hi - sIx items.size 0 lo)).toArray.size≤sizeLine
    rw [List.size_toArray,List.length_take,List.length_drop,Array.length_toList]
    omega
  have hj:sIx items.size items.size hi≤items.size:=vc _ _ (Nat.le_refl _) hi
  obtain ⟨os,hos,hcs,hds⟩:=id hs
  have hTs:s.TypeIs (.ref sl) "slice":=⟨os,hos,hcs⟩
  unfold getItem
  try with_reducible refine wpAny_holding ?_
  first | refine wpAny_bind (wpAny_pure ?_) | skip
  refine wpAny_bind (wpAny_sequenceKey ht.typeIs (by decide) ?_)
  refine wpAny_bind (wpAny_callSpecial?_slot (name:=Str.ofString "__getitem__") ht.typeIs PyProof.Rows.slot_tuple_getitem
    (wpAny_call_entry PyProof.Rows.slot_tuple_getitem ht.typeIs entry_tuple_getitem ?_ (args_tuple_getitem _ _)))
  show wpAny _ _ (Builtin.Tuple.tupleItemsOf (.ref t) >>= _) _ _ s
  refine wpAny_bind (tupleItemsOf_ ht ?_)
  refine wpAny_bind (wpAny_typeOf hTs ?_)
  rw [if_pos (by decide)]
  refine wpAny_bind (eG hs pl pu ?_)
  have hno:¬ ((((sIx items.size 0 lo:Nat):Int) == 0 && (1:Int) == 1 && (sIx items.size items.size hi - sIx items.size 0 lo) == items.size)=true):=by
    intro q
    rw [Bool.and_eq_true,Bool.and_eq_true] at q
    have q1:((sIx items.size 0 lo:Nat):Int)=0:=eq_of_beq q.1.1
    have q2:sIx items.size items.size hi - sIx items.size 0 lo=items.size:=eq_of_beq q.2
    exact hw ⟨by omega,by omega⟩
  show wpAny _ _ (if (((sIx items.size 0 lo:Nat):Int) == 0 && (1:Int) == 1 && (sIx items.size items.size hi - sIx items.size 0 lo) == items.size)=true then _ else _) _ _ s
  rw [if_neg hno,qi]
  first
    | exact wpAny_bind (m:=Builtin.Tuple.tupleExact _) (wpAny_newObj_type (wpAny_pure ⟨_,rfl,wpAny_pure h⟩) htake)
    | exact wpAny_bind (m:=Builtin.Tuple.tupleExact _) (wpAny_newObj_type (wpAny_bind (wpAny_pure (wpAny_pure ⟨_,rfl,wpAny_pure h⟩))) htake)
    | exact wpAny_bind (wpAny_bind (m:=Builtin.Tuple.tupleExact _) (wpAny_newObj_type (wpAny_pure (wpAny_pure ⟨_,rfl,wpAny_pure h⟩)) htake))
    | exact wpAny_bind (wpAny_bind (m:=Builtin.Tuple.tupleExact _) (wpAny_newObj_type (wpAny_pure ⟨_,rfl,wpAny_pure h⟩) htake))
end
end HT
namespace L2
open PySem PySem.Spec PyProof.Rows
noncomputable abbrev TO:=St→Hp→(Option Int→Hp→Prop)→Prop
noncomputable def PO (X:Cx) (e:Option Expr) (t:TO):Prop :=
  ∀ (pins:List (Addr × Obj)) (s:Shared) (σ:St) (H:Hp) (Q:Option Int→Hp→Prop),Inv X pins σ H s→t σ H Q →
    wpAny (model X.prog X.w) X.A (evalPart e X.env) (fun u s'=>∃ o H',Inv X pins σ H' s'∧IsPart u o∧Q o H') X.xe s
noncomputable def su:TO:=fun _ H Q=>Q none H
noncomputable def wx (t:TE):TO:=fun σ H Q=>t σ H fun x H1=>∃ i,x=.int i∧Q (some i) H1
theorem intsAre_of {ns:List Int}:∀ {us:List Value},Vals (ns.map V.int) us→IntsAre us ns:=by
  induction ns with
  | nil=>intro us r; rw [List.map_nil] at r; cases r; exact .nil
  | cons n ns ih =>
    intro us r
    rw [List.map_cons] at r
    cases r with
    | cons r1 r2 =>
      obtain ⟨t,e⟩:=r1
      subst e
      exact .cons n t (ih r2)
section
variable {X:Cx} {e:Expr} {te:TE} {lo hi:Option Expr} {tl th:TO} {pos p2:Pos}
theorem tw:PO X none su:=by
  intro pins s σ H Q I h
  rw [evalPart_none]
  exact wpAny_pure ⟨none,H,I,.none,h⟩
theorem rR (h:PE X e te):PO X (some e) (wx te):=by
  intro pins s σ H Q I hw
  rw [evalPart_some]
  refine thn (h pins s σ H _ I hw) fun u s1 ⟨x,H1,I1,r1,q1⟩=>?_
  obtain ⟨i,rfl,q⟩:=q1
  obtain ⟨t,rfl⟩:=r1
  exact ⟨some i,H1,I1,.int i t,q⟩
noncomputable def SlR (X:Cx) (r:V→Option Int→Option Int→Hp→VK→Prop):Prop :=
  ∀ (pins:List (Addr × Obj)) (s:Shared) (σ:St) (H:Hp) (x:V) (v vl vu:Value) (lo hi:Option Int) (sl:Addr) (Q:VK),Inv X pins σ H s→RelV x v→s.heap.IsSliceOf sl vl vu .none→IsPart vl lo→IsPart vu hi→r x lo hi H Q →
    ∃ T id,typeLookup (.type T) "__getitem__"=pure (some (.builtin id))∧s.TypeIs v T∧wpAny (model X.prog X.w) X.A (getItem v (.ref sl)) (EP X pins σ Q) X.xe s
theorem SlR.or {r r':V→Option Int→Option Int→Hp→VK→Prop} (h:SlR X r) (h':SlR X r'):SlR X (fun x lo hi H Q=>r x lo hi H Q∨r' x lo hi H Q):=by
  intro pins s σ H x v vl vu lo hi sl Q I rx hs pl pu q
  rcases q with q | q
  · exact h pins s σ H x v vl vu lo hi sl Q I rx hs pl pu q
  · exact h' pins s σ H x v vl vu lo hi sl Q I rx hs pl pu q
noncomputable def tSl (r:V→Option Int→Option Int→Hp→VK→Prop) (te:TE) (tl th:TO):TE:=fun σ H Q=>te σ H fun x H1=>tl σ H1 fun l H2=>th σ H2 fun u H3=>r x l u H3 Q
theorem p8 {r:V→Option Int→Option Int→Hp→VK→Prop} (hr:SlR X r) (he:PE X e te) (hl:PO X lo tl) (hu:PO X hi th):PE X (.Subscript e (.Slice lo hi none p2) pos) (tSl r te tl th):=by
  intro pins s σ H Q I h
  refine Subscript_ (thn (he pins s σ H _ I h) fun v s1 ⟨x,H1,I1,r1,q1⟩=>?_)
  refine wpAny_Slice (thn (hl pins s1 σ H1 _ I1 q1) fun vl s2 ⟨l,H2,I2,pl,q2⟩=>thn (hu pins s2 σ H2 _ I2 q2) fun vu s3 ⟨u,H3,I3,pu,q3⟩=>?_)
  rw [evalPart_none]
  refine wpAny_pure ?_
  have I4:Inv X pins σ H3 { s3 with heap:=s3.heap.push { cls:=.type "slice",data:=.fields #[vl,vu,.none] } }:=I3.kept (t':=s3.toks) fun b ob q=>Heap.get?_push_of_some _ q
  obtain ⟨T,id,hT,ht,hg⟩:=hr pins { s3 with heap:=s3.heap.push { cls:=.type "slice",data:=.fields #[vl,vu,.none] } } σ H3 x v vl vu l u s3.heap.objs.size Q I4 r1 (Heap.IsSliceOf.new ..) pl pu q3
  show wpAny (model X.prog X.w) X.A (subscriptTail e (.Slice lo hi none p2) v (.ref s3.heap.objs.size)) (EP X pins σ Q) X.xe { s3 with heap:=s3.heap.push { cls:=.type "slice",data:=.fields #[vl,vu,.none] } }
  exact tail_any (ops:=[.ref s3.heap.objs.size,v]) ht hT hg (by with_unfolding_all rfl)
noncomputable def mf (xs:List V) (lo hi:Option Int):List V:=(xs.drop (HT.sIx xs.length 0 lo)).take (HT.sIx xs.length xs.length hi - HT.sIx xs.length 0 lo)
theorem iz (xs:List V) (lo hi:Option Int):(mf xs lo hi).length≤xs.length:=by
  unfold mf
  rw [List.length_take,List.length_drop]
  omega
noncomputable def wM (K:PySem.W.Frag):V→Option Int→Option Int→Hp→VK→Prop:=fun x lo hi H Q=>∃ a xs,x=.ref a∧SqT K H a xs ∧
  ¬ (HT.sIx xs.length 0 lo=0∧HT.sIx xs.length xs.length hi=xs.length)∧∀ p,H p=none→Q (.ref p) (upd H p (.tup (mf xs lo hi)))
theorem uI:SlR X (wM X.K):=by
  intro pins s σ H x v vl vu lo hi sl Q I rx hs pl pu h
  obtain ⟨a,xs,rfl,hx,hw,q⟩:=h
  cases rx
  obtain ⟨its,r,ht,hz⟩:=I.tuple hx
  have hlen:its.toArray.size=xs.length:=by rw [List.size_toArray]; exact r.length.symm
  refine ⟨"tuple",_,PyProof.Rows.slot_tuple_getitem.lookup,ht.typeIs,?_⟩
  refine HT.gB ht hs pl pu (by rw [hlen]; exact hw) ?_ (by rw [hlen]; exact hz)
  rw [hlen]
  refine ⟨.ref s.heap.objs.size,_,I.laid (t':=s.toks) (o:=.tup (mf xs lo hi)) (fun b ob q=>Heap.get?_push_of_some _ q) (Nat.le_refl _) ?_,rfl,q _ (I.hok.fresh (Nat.le_refl _))⟩
  exact ⟨Nat.le_trans (iz xs lo hi) hz,_,(r.drop (HT.sIx xs.length 0 lo)).take (HT.sIx xs.length xs.length hi - HT.sIx xs.length 0 lo),kZ.new _ _⟩
noncomputable def wy (K:PySem.W.Frag):R2:=fun x y H Q=>∃ a b xs ys,x=.ref a∧y=.ref b∧SqT K H a xs∧SqT K H b ys∧xs≠[]∧xs.length + ys.length≤sizeLine ∧
  (ys=[]→Q (.ref a) H)∧(ys≠[]→∀ p,H p=none→Q (.ref p) (upd H p (.tup (xs++ys))))
theorem Vals.nil_iff {xs:List V} {us:List Value} (r:Vals xs us):us=[]↔xs=[]:=by
  cases r with
  | nil=>simp
  | cons _ _=>simp
theorem rY:OpR X (binaryOp .Add) (wy X.K):=by
  intro pins s σ H x y v u Q I rx ry h
  obtain ⟨a,b,xs,ys,rfl,rfl,ha,hb,hx,hz,q1,q2⟩:=h
  cases rx
  cases ry
  obtain ⟨its,r1,p1,_⟩:=I.tuple ha
  obtain ⟨its2,r2,p2,_⟩:=I.tuple hb
  refine HT.sU p1 p2 (fun z=>hx (r1.nil_iff.mp z)) (fun z=>⟨.ref a,H,I,rfl,q1 (r2.nil_iff.mp z)⟩) (fun z=>?_) (by rw [← r1.length,← r2.length]; exact hz)
  refine ⟨.ref s.heap.objs.size,_,I.laid (t':=s.toks) (o:=.tup (xs++ys)) (fun b ob q=>Heap.get?_push_of_some _ q) (Nat.le_refl _) ?_,rfl,q2 (fun w=>z (r2.nil_iff.mpr w)) _ (I.hok.fresh (Nat.le_refl _))⟩
  exact ⟨by rw [List.length_append]; exact hz,_,r1.append r2,kZ.new _ _⟩
end
end L2
namespace L2
open PySem PySem.Spec PyProof.Rows
noncomputable def ixN (n:Nat) (i:Int):Option Nat:=if 0≤i then (if i < n then some i.toNat else none) else if -(n:Int)≤i then some (i + n).toNat else none
noncomputable def atI {α:Type} (xs:List α) (i:Int):Option α:=(ixN xs.length i).bind fun j=>xs[j]?
theorem lE {n:Nat} {i:Int} {j:Nat} (h:ixN n i=some j):seqIndex? i n=some j∧j < n∧-(n:Int)≤i∧i < n:=by
  unfold ixN at h
  by_cases h0:0≤i
  · rw [if_pos h0] at h
    by_cases h1:i < n
    · rw [if_pos h1] at h
      have e:i.toNat=j:=Option.some.inj h
      exact ⟨by rw [seqIndex_of h0 h1,e],by omega,by omega,h1⟩
    · rw [if_neg h1] at h; cases h
  · rw [if_neg h0] at h
    by_cases h1:-(n:Int)≤i
    · rw [if_pos h1] at h
      have e:(i + n).toNat=j:=Option.some.inj h
      exact ⟨by rw [seqIndex_neg (by omega) h1,e],by omega,h1,by omega⟩
    · rw [if_neg h1] at h; cases h
theorem nZ {α:Type} {xs:List α} {i:Int} {v:α} (h:atI xs i=some v):∃ j,seqIndex? i xs.length=some j∧xs[j]?=some v∧j < xs.length∧-(xs.length:Int)≤i∧i < xs.length:=by
  unfold atI at h
  cases e:ixN xs.length i with
  | none=>rw [e] at h; cases h
  | some j =>
    rw [e] at h
    obtain ⟨h1,h2,h3,h4⟩:=lE e
    exact ⟨j,h1,h,h2,h3,h4⟩
theorem tE {α:Type} {xs:List α} {j:Nat} {v:α} (h:xs[j]?=some v):atI xs (j:Int)=some v:=by
  have hj:j < xs.length:=(List.getElem?_eq_some_iff.mp h).1
  have e:ixN xs.length (j:Int)=some j:=by
    unfold ixN
    rw [if_pos (by omega),if_pos (by omega)]; simp
  unfold atI; rw [e]; exact h
noncomputable def n5 (b:Expr):Prop:=∀ o i,subscripted b false o i=operate [o,i] (getItem o i)
noncomputable def IxR (X:Cx) (r:R2):Prop :=
  ∀ (value slice:Expr) (pins:List (Addr × Obj)) (s:Shared) (σ:St) (H:Hp) (x y:V) (v u:Value) (Q:VK),Inv X pins σ H s→RelV x v→RelV y u→r x y H Q →
    subscripted slice false v u=operate [v,u] (getItem v u)→wpAny (model X.prog X.w) X.A (subscriptTail value slice v u) (EP X pins σ Q) X.xe s
noncomputable def MtR (X:Cx) (id:String) (r:V→List V→Hp→VK→Prop):Prop :=
  ∀ (pins:List (Addr × Obj)) (s:Shared) (σ:St) (H:Hp) (x:V) (xs:List V) (v:Value) (us:List Value) (Q:VK),Inv X pins σ H s→RelV x v→Vals xs us→r x xs H Q →
    wpAny (model X.prog X.w) X.A (call (.builtin id) (v::us)) (EP X pins σ Q) X.xe s
section
variable {X:Cx} {a b:Expr} {ta tb:TE} {pos:Pos}
theorem IxR.or {r r':R2} (h:IxR X r) (h':IxR X r'):IxR X (fun x y H Q=>r x y H Q∨r' x y H Q):=by
  intro value slice pins s σ H x y v u Q I rx ry q hs
  rcases q with q | q
  · exact h value slice pins s σ H x y v u Q I rx ry q hs
  · exact h' value slice pins s σ H x y v u Q I rx ry q hs
theorem qA {r:R2} (hr:IxR X r) (ha:PE X a ta) (hb:PE X b tb) (hs:n5 b):PE X (.Subscript a b pos) (tOp r ta tb):=by
  intro pins s σ H Q I h
  exact Subscript_ (t8 ha hb I h fun v u s2 x y H2 I2 rx ry q=>hr a b pins s2 σ H2 x y v u Q I2 rx ry q (hs _ _))
noncomputable def vN (K:PySem.W.Frag):R2:=fun x y H Q=>∃ p xs i v,x=.ref p∧y=.int i∧SqL K H p xs∧atI xs i=some v∧Q v H
noncomputable def vV (K:PySem.W.Frag):R2:=fun x y H Q=>∃ p xs i v,x=.ref p∧y=.int i∧SqT K H p xs∧atI xs i=some v∧Q v H
theorem kR:IxR X (vN X.K):=by
  intro value slice pins s σ H x y v u Q I rx ry h hs
  obtain ⟨p,xs,i,z,rfl,rfl,hq,he,q⟩:=h
  cases rx
  obtain ⟨t,rfl⟩:=ry
  obtain ⟨its,r,pl,hz⟩:=I.list hq
  obtain ⟨j,h1,h2,h3,h4,h5⟩:=nZ he
  obtain ⟨w,ew,rw'⟩:=r.get h2
  have hl:=r.length
  have hn:=kM
  have fin:EP X pins σ Q w s:=⟨z,H,I,rw',q⟩
  by_cases h0:0≤i
  · have hj:i.toNat=j:=by
      rw [seqIndex_of h0 h5] at h1
      exact Option.some.inj h1
    exact item_listR pl.isList h0 (by omega) (by rw [hj]; simpa using ew) fin hs
  · have hj:(i + (its.toArray.size:Int)).toNat=j:=by
      rw [seqIndex_neg (by omega) h4] at h1
      rw [List.size_toArray,← hl]
      exact Option.some.inj h1
    exact subscriptTail_builtinR (x:=w) pl.isList.typeIs slot_list_getitem.lookup
      (wpAny_getItem_list_neg (Q:=fun r s'=>r=w∧EP X pins σ Q r s') pl.isList (by omega) (by rw [List.size_toArray] <;> omega) (by omega) (by rw [hj]; simpa using ew) ⟨rfl,fin⟩) hs
theorem va:IxR X (vV X.K):=by
  intro value slice pins s σ H x y v u Q I rx ry h hs
  obtain ⟨p,xs,i,z,rfl,rfl,hq,he,q⟩:=h
  cases rx
  obtain ⟨t,rfl⟩:=ry
  obtain ⟨its,r,pl,hz⟩:=I.tuple hq
  obtain ⟨j,h1,h2,h3,h4,h5⟩:=nZ he
  obtain ⟨w,ew,rw'⟩:=r.get h2
  have hl:=r.length
  have hn:=kM
  have fin:EP X pins σ Q w s:=⟨z,H,I,rw',q⟩
  exact subscriptTail_builtinR (x:=w) pl.typeIs slot_tuple_getitem.lookup
    (getItem_tuple (j:=j) (Q:=fun r s'=>r=w∧EP X pins σ Q r s') pl (by omega) (by omega) (by rw [List.size_toArray,← hl]; exact h1) (by simpa using ew) ⟨rfl,fin⟩) hs
theorem mL (its:List Value) (n j:Nat) (u:Value):Obj.mapSeq (·.setIfInBounds j u) { cls:=.type "list",data:=.seq its.toArray n }={ cls:=.type "list",data:=.seq (its.set j u).toArray n }:=by
  simp [Obj.mapSeq]
theorem Inv.lst {pins:List (Addr × Obj)} {σ:St} {H:Hp} {s:Shared} {p:Addr} {xs:List V} (I:Inv X pins σ H s) (h:H p=some (.lst xs)) :
    ∃ (its:List Value) (n:Nat),Vals xs its∧s.heap.get? p=some { cls:=.type "list",data:=.seq its.toArray n }∧xs.length≤sizeLine:=by
  obtain ⟨z,its,n,r,e⟩:=I.hok p _ h
  exact ⟨its,n,r,e,z⟩
theorem Inv.lstUpd {pins:List (Addr × Obj)} {σ:St} {H:Hp} {s:Shared} {p:Addr} {xs ys:List V} {its its':List Value} {n n':Nat} {f:Obj→Obj} (I:Inv X pins σ H s) (h:H p=some (.lst xs))
    (ho:s.heap.get? p=some { cls:=.type "list",data:=.seq its.toArray n }) (hf:f { cls:=.type "list",data:=.seq its.toArray n }={ cls:=.type "list",data:=.seq its'.toArray n' }) (r:Vals ys its') (hz:ys.length≤sizeLine) (t:Nat) :
    Inv X pins σ (upd H p (.lst ys)) { s with heap:=s.heap.update p f,toks:=t }:=by
  have e:(s.heap.update p f).get? p=some { cls:=.type "list",data:=.seq its'.toArray n' }:=by
    rw [Heap.get?_update_self f ho (by rw [hf] <;> rfl),hf]
  refine I.write (x:=p) (e:=p) (by rw [h]; trivial) (.inl rfl) (fun b u hb q=>(Heap.get?_update_other _ _ (Ne.symm hb)).trans q) ⟨_,e⟩ ?_
  exact ⟨hz,its',n',r,e⟩
noncomputable def vp:V→V→V→Hp→(Hp→Prop)→Prop:=fun o i v H Q=>∃ p xs k j,o=.ref p∧i=.int k∧H p=some (.lst xs)∧ixN xs.length k=some j∧Q (upd H p (.lst (xs.set j v)))
theorem set_list:wk X vp:=by
  intro pins s σ H o i v ov iv u Q I ro ri rv h
  obtain ⟨p,xs,k,j,rfl,rfl,hp,hj,q⟩:=h
  cases ro
  obtain ⟨t,rfl⟩:=ri
  obtain ⟨its,n,r,ho,hz⟩:=I.lst hp
  obtain ⟨h1,h2,h3,h4⟩:=lE hj
  have hl:=r.length
  have hn:=kM
  have I':Inv X pins σ (upd H p (.lst (xs.set j v))) { s with heap:=s.heap.update p (Obj.mapSeq (·.setIfInBounds j u)) } :=
    I.lstUpd hp ho (mL its n j u) (r.set rv j) (by rw [List.length_set]; exact hz) s.toks
  by_cases h0:0≤k
  · have hk:k.toNat=j:=by
      rw [seqIndex_of h0 h4] at h1
      exact Option.some.inj h1
    exact PySem.W.ki_setAt ho h0 (by omega) (by rw [List.size_toArray,← hl]; exact h4) (by rw [hk]; exact ⟨_,I',q⟩)
  · have hk:(k + (its.toArray.size:Int)).toNat=j:=by
      rw [seqIndex_neg (by omega) h3] at h1
      rw [List.size_toArray,← hl]
      exact Option.some.inj h1
    exact PySem.W.ki_setBack ho (by omega) (by rw [List.size_toArray,← hl]; exact h3) (by omega) (by rw [hk]; exact ⟨_,I',q⟩)
theorem kE (lo hi:Option Int) (n:Nat):(sliceBounds lo hi none n).1=((HT.sIx n 0 lo:Nat):Int)∧(sliceBounds lo hi none n).2.1=((HT.sIx n n hi:Nat):Int)∧(sliceBounds lo hi none n).2.2=1:=by
  refine ⟨?_,?_,rfl⟩
  · cases lo with
    | none=>simp [sliceBounds,HT.sIx]
    | some i =>
      simp only [sliceBounds,HT.sIx,Option.getD_none,show (1:Int) > 0 by decide,if_true]
      by_cases h:i < 0
      · simp only [h,if_true] <;> omega
      · simp only [h,if_false] <;> omega
  · cases hi with
    | none=>simp [sliceBounds,HT.sIx]
    | some i =>
      simp only [sliceBounds,HT.sIx,Option.getD_none,show (1:Int) > 0 by decide,if_true]
      by_cases h:i < 0
      · simp only [h,if_true] <;> omega
      · simp only [h,if_false] <;> omega
theorem jP (its:List Value) (lo hi:Option Int):slicePick its.toArray lo hi none=((its.drop (HT.sIx its.length 0 lo)).take (HT.sIx its.length its.length hi - HT.sIx its.length 0 lo)).toArray:=by
  obtain ⟨h1,h2,h3⟩:=kE lo hi its.toArray.size
  unfold slicePick
  rw [h1,h2,h3]
  simp only [sliceRange_one,pick_run,List.size_toArray] <;> rfl
noncomputable def wR (K:PySem.W.Frag):V→Option Int→Option Int→Hp→VK→Prop:=fun x lo hi H Q=>∃ a xs,x=.ref a∧SqL K H a xs∧∀ p,H p=none→Q (.ref p) (upd H p (.lst (mf xs lo hi)))
theorem rP:SlR X (wR X.K):=by
  intro pins s σ H x v vl vu lo hi sl Q I rx hs pl pu h
  obtain ⟨a,xs,rfl,hx,q⟩:=h
  cases rx
  obtain ⟨its,r,ht,hz⟩:=I.list hx
  have hlen:=r.length
  refine ⟨"list",_,slot_list_getitem.lookup,ht.isList.typeIs,?_⟩
  refine wpAny_getItem_list_slice ht.isList hs pl pu .none (by simp) ?_ (by rw [List.size_toArray] <;> omega)
  rw [jP,← hlen]
  refine ⟨.ref s.heap.objs.size,_,I.laid (t':=s.toks) (o:=.lst (mf xs lo hi)) (fun b ob q=>Heap.get?_push_of_some _ q) (Nat.le_refl _) ?_,rfl,q _ (I.hok.fresh (Nat.le_refl _))⟩
  exact ⟨Nat.le_trans (iz xs lo hi) hz,_,0,(r.drop (HT.sIx xs.length 0 lo)).take (HT.sIx xs.length xs.length hi - HT.sIx xs.length 0 lo),Heap.get?_push_size _ rfl⟩
noncomputable def fU:V→Bool
  | .non=>true
  | .bl _=>true
  | .int _=>true
  | .str _=>true
  | _=>false
noncomputable def eqV:V→V→Bool
  | .non,.non=>true
  | .bl a,.bl b=>a == b
  | .bl a,.int b=>(if a then 1 else 0) == b
  | .int a,.bl b=>a == (if b then 1 else 0)
  | .int a,.int b=>a == b
  | .str a,.str b=>a == b
  | _,_=>false
theorem u4 {A:Around} {s:Shared} {y x:V} {u v:Value} (ry:RelV y u) (rx:RelV x v) (fy:fU y=true) (fx:fU x=true):SeqAt.EqAt A s u v (eqV y x):=by
  cases y with
  | non =>
    cases ry
    cases x with
    | non=>cases rx; exact SeqAt.EqAt.same _
    | bl b=>cases rx; exact SeqAt.EqAt.none_bool b
    | int b=>obtain ⟨t,rfl⟩:=rx; exact SeqAt.EqAt.none_int b t
    | str b=>obtain ⟨t,rfl⟩:=rx; exact SeqAt.EqAt.none_str b t
    | _=>exact absurd (show false=true from fx) Bool.false_ne_true
  | bl a =>
    cases ry
    cases x with
    | non=>cases rx; exact SeqAt.EqAt.bool_none a
    | bl b=>cases rx; exact SeqAt.EqAt.bool_bool a b
    | int b=>obtain ⟨t,rfl⟩:=rx; exact SeqAt.EqAt.bool_int a b t
    | str b=>obtain ⟨t,rfl⟩:=rx; exact SeqAt.EqAt.bool_str a b t
    | _=>exact absurd (show false=true from fx) Bool.false_ne_true
  | int a =>
    obtain ⟨t',rfl⟩:=ry
    cases x with
    | non=>cases rx; exact SeqAt.EqAt.int_none a t'
    | bl b=>cases rx; exact SeqAt.EqAt.int_bool a t' b
    | int b=>obtain ⟨t,rfl⟩:=rx; exact SeqAt.EqAt.int_int a t' b t
    | str b=>obtain ⟨t,rfl⟩:=rx; exact SeqAt.EqAt.int_str a t' b t
    | _=>exact absurd (show false=true from fx) Bool.false_ne_true
  | str a =>
    obtain ⟨t',rfl⟩:=ry
    cases x with
    | non=>cases rx; exact SeqAt.EqAt.str_none a t'
    | bl b=>cases rx; exact SeqAt.EqAt.str_bool a t' b
    | int b=>obtain ⟨t,rfl⟩:=rx; exact SeqAt.EqAt.str_int a t' b t
    | str b=>obtain ⟨t,rfl⟩:=rx; exact SeqAt.EqAt.str_str a t' b t
    | _=>exact absurd (show false=true from fx) Bool.false_ne_true
  | _=>exact absurd (show false=true from fy) Bool.false_ne_true
noncomputable def eqU (x:V) (u:Value):Bool:=match u with
  | .none=>eqV .non x
  | .bool b=>eqV (.bl b) x
  | .int i _=>eqV (.int i) x
  | .str z _=>eqV (.str z) x
  | _=>false
theorem qm {x y:V} {u:Value} (r:RelV y u) (f:fU y=true):eqU x u=eqV y x:=by
  cases y with
  | non=>cases r; rfl
  | bl b=>cases r; rfl
  | int i=>obtain ⟨t,rfl⟩:=r; rfl
  | str z=>obtain ⟨t,rfl⟩:=r; rfl
  | _=>exact absurd (show false=true from f) Bool.false_ne_true
theorem lz {x:V}:∀ {xs:List V} {us:List Value},Vals xs us→xs.all fU=true→us.any (eqU x)=xs.any fun y=>eqV y x
  | _,_,.nil,_=>rfl
  | y::xs,u::us,.cons r t,f=>by
    rw [List.all_cons,Bool.and_eq_true] at f
    rw [List.any_cons,List.any_cons,qm r f.1,lz t f.2]
theorem jt {A:Around} {s:Shared} {x:V} {v:Value} (rx:RelV x v) (fx:fU x=true):∀ {xs:List V} {us:List Value},Vals xs us→xs.all fU=true→∀ u∈us,SeqAt.EqAt A s u v (eqU x u)
  | _,_,.nil,_=>fun u hu=>by cases hu
  | y::xs,u::us,.cons r t,f=>fun u' hu=>by
    rw [List.all_cons,Bool.and_eq_true] at f
    rcases List.mem_cons.mp hu with rfl | hu
    · rw [qm r f.1]; exact u4 r rx f.1 fx
    · exact jt rx fx t f.2 u' hu
noncomputable def inV (x:V) (xs:List V):Bool:=xs.any fun y=>eqV y x
noncomputable def rIn (K:PySem.W.Frag) (neg:Bool):R2:=fun x y H Q=>∃ p xs,y=.ref p∧(SqL K H p xs∨SqT K H p xs)∧fU x=true∧xs.all fU=true∧Q (.bl (if neg then !inV x xs else inV x xs)) H
theorem pe:OpR X (compareOp .In) (rIn X.K false):=by
  intro pins s σ H x y v u Q I rx ry h
  obtain ⟨p,xs,rfl,hq,fx,fs,q⟩:=h
  cases ry
  rcases hq with hq | hq
  · obtain ⟨its,r,pl,hz⟩:=I.list hq
    refine SeqAt.in_listAt (eqU x) pl.isList (fun w hw=>jt rx fx r fs w (by simpa using hw)) ⟨.bl _,H,I,rfl,?_⟩
    rw [show its.toArray.any (eqU x)=its.any (eqU x) by simp,lz r fs]
    exact q
  · obtain ⟨its,r,pl,hz⟩:=I.tuple hq
    refine SeqAt.in_tupleAt (eqU x) pl (fun w hw=>jt rx fx r fs w (by simpa using hw)) ⟨.bl _,H,I,rfl,?_⟩
    rw [show its.toArray.any (eqU x)=its.any (eqU x) by simp,lz r fs]
    exact q
theorem fc:fo X (.builtin "len") (fun xs H Q=>∃ p ys,xs=[.ref p]∧(SqL X.K H p ys∨SqT X.K H p ys)∧Q (.int ys.length) H):=by
  intro pins s σ H xs us Q I r h
  obtain ⟨p,ys,rfl,hq,q⟩:=h
  obtain ⟨u,rfl,rx⟩:=vals1 r
  cases rx
  have hn:=kM
  rcases hq with hq | hq
  · obtain ⟨its,r',pl,hz⟩:=I.list hq
    have hlen:=r'.length
    exact Calls.call_len_list pl.isList (by simp only [List.size_toArray] <;> omega) ⟨.int ys.length,H,I.tok _,⟨s.toks + 1,by rw [List.size_toArray,hlen]⟩,q⟩
  · obtain ⟨its,r',pl,hz⟩:=I.tuple hq
    have hlen:=r'.length
    exact len_tuple pl (by simp only [List.size_toArray] <;> omega) ⟨.int ys.length,H,I.tok _,⟨s.toks + 1,by rw [List.size_toArray,hlen]⟩,q⟩
theorem lj:fo X (.type "list") (fun xs H Q=>∃ p ys,xs=[.ref p]∧(SqL X.K H p ys∨SqT X.K H p ys)∧∀ l,H l=none→Q (.ref l) (upd H l (.lst ys))):=by
  intro pins s σ H xs us Q I r h
  obtain ⟨p,ys,rfl,hq,q⟩:=h
  obtain ⟨u,rfl,rx⟩:=vals1 r
  cases rx
  have fin:∀ (its:List Value),Vals ys its→ys.length≤sizeLine→∀ (h':Heap) (c':Nat),(∀ b o',s.heap.get? b=some o'→h'.get? b=some o') →
      h'.get? s.heap.objs.size=some { cls:=.type "list",dict:=none,data:=.seq its.toArray c',slots:=#[] }→EP X pins σ Q (.ref s.heap.objs.size) { s with heap:=h' }:=fun its r' hz h' c' kp e =>
    ⟨.ref s.heap.objs.size,_,I.laid (t':=s.toks) kp (Nat.le_refl _) (show cF X.prog X.w _ h' _ (.lst ys) from ⟨hz,its,c',r',e⟩),rfl,q _ (I.hok.fresh (Nat.le_refl _))⟩
  rcases hq with hq | hq
  · obtain ⟨its,r',pl,hz⟩:=I.list hq
    have hlen:=r'.length
    obtain ⟨o,ho,hc,n,hd⟩:=pl.isList
    exact call_list_seq p (.inl rfl) ho hc hd (fun h' c' kp e=>fin its r' hz h' c' kp e) (by simp only [List.size_toArray] <;> omega)
  · obtain ⟨its,r',pl,hz⟩:=I.tuple hq
    have hlen:=r'.length
    obtain ⟨o,ho,hc,n,hd⟩:=pl
    exact call_list_seq p (.inr rfl) ho hc hd (fun h' c' kp e=>fin its r' hz h' c' kp e) (by simp only [List.size_toArray] <;> omega)
theorem jT:fo X (.type "tuple") (fun xs H Q=>∃ p ys,xs=[.ref p]∧((SqL X.K H p ys∧∀ l,H l=none→Q (.ref l) (upd H l (.tup ys)))∨(SqT X.K H p ys∧Q (.ref p) H))):=by
  intro pins s σ H xs us Q I r h
  obtain ⟨p,ys,rfl,h⟩:=h
  obtain ⟨u,rfl,rx⟩:=vals1 r
  cases rx
  rcases h with ⟨hq,q⟩ | ⟨hq,q⟩
  · obtain ⟨its,r',pl,hz⟩:=I.list hq
    have hlen:=r'.length
    refine call_tuple_list pl.isList (fun h' kp=>?_) (by simp only [List.size_toArray] <;> omega)
    have I1:Inv X pins σ H { s with heap:=h' }:=I.kept (t':=s.toks) kp
    have I2:Inv X pins σ (upd H h'.objs.size (.tup ys)) { s with heap:=h'.push { cls:=.type "tuple",data:=.seq its.toArray } } :=
      I1.laid (t':=s.toks) (fun b o e=>Heap.get?_push_of_some _ e) (Nat.le_refl _) (show cF X.prog X.w _ _ _ (.tup ys) from ⟨hz,its,r',kZ.new _ _⟩)
    exact ⟨.ref h'.objs.size,_,I2,rfl,q _ (I1.hok.fresh (Nat.le_refl _))⟩
  · obtain ⟨its,r',pl,hz⟩:=I.tuple hq
    exact call_tuple_same pl ⟨.ref p,H,I,rfl,q⟩
noncomputable def tyV (K:PySem.W.Frag) (T:String) (x:V) (H:Hp):Prop:=match x with
  | .str _=>T="str"
  | .int _=>T="int"
  | .ref p=>(T="list"∧∃ xs,SqL K H p xs)∨(T="tuple"∧∃ o,K.lookup p=some o∧o.cls=.type "tuple"∧o.dict=none) ∨
      (T="dict"∧((∃ kvs,H p=some (.dK kvs))∨∃ kvs,H p=some (.dT kvs)))∨(T="set"∧∃ S n,H p=some (.set S n))
  | _=>False
theorem uq {pins:List (Addr × Obj)} {σ:St} {H:Hp} {s:Shared} {T:String} {x:V} {v:Value} (I:Inv X pins σ H s) (r:RelV x v) (ty:tyV X.K T x H) :
    s.TypeIs v T∧∀ a,v=.ref a→∃ ob,s.heap.get? a=some ob∧ob.dict=none:=by
  cases x with
  | str z =>
    obtain ⟨t,rfl⟩:=r
    cases (show T="str" from ty)
    exact ⟨typeIs_str s z t,fun _ e=>nomatch e⟩
  | int i =>
    obtain ⟨t,rfl⟩:=r
    cases (show T="int" from ty)
    exact ⟨typeIs_int s i t,fun _ e=>nomatch e⟩
  | ref p =>
    cases r
    rcases ty with ⟨rfl,xs,hq⟩ | ⟨rfl,o,hk,hc,hd⟩ | ⟨rfl,hk⟩ | ⟨rfl,S,n,hk⟩
    · obtain ⟨its,_,pl,_⟩:=I.list hq
      refine ⟨pl.isList.typeIs,fun a e=>?_⟩
      cases e
      obtain ⟨o,n,e,c,hd,_⟩:=pl
      exact ⟨o,e,hd⟩
    · refine ⟨⟨o,I.kIn p o hk,hc⟩,fun a e=>?_⟩
      cases e
      exact ⟨o,I.kIn _ o hk,hd⟩
    · have z:∃ o,s.heap.get? p=some o∧o.ExactDict:=by
        rcases hk with ⟨kvs,hk⟩ | ⟨kvs,hk⟩
        · obtain ⟨_,_,_,_,o,_,_,e,ex,_⟩:=I.hok p _ hk
          exact ⟨o,e,ex⟩
        · obtain ⟨_,_,_,_,o,_,_,e,ex,_⟩:=I.hok p _ hk
          exact ⟨o,e,ex⟩
      obtain ⟨o,e,ex⟩:=z
      refine ⟨⟨o,e,ex.1⟩,fun a e2=>?_⟩
      cases e2
      exact ⟨o,e,ex.2.1⟩
    · obtain ⟨o,_,_,_,e,ex,_⟩:=I.hok p _ hk
      refine ⟨⟨o,e,ex.1⟩,fun a e2=>?_⟩
      cases e2
      exact ⟨o,e,ex.2.1⟩
  | _=>exact False.elim ty
noncomputable def tBM (K:PySem.W.Frag) (T:String) (r:V→List V→Hp→VK→Prop) (to:TE) (t:TA):TE:=fun σ H Q=>to σ H fun x H1=>tyV K T x H1∧t σ H1 fun xs H2=>r x xs H2 Q
variable {o e:Expr} {es:List Expr} {to:TE} {t:TA} {name:Str} {apos cpos:Pos} {T id:String} {r:V→List V→Hp→VK→Prop}
theorem oS (pa:PlainAttrs T) (slot:Slot T name id) (hty:typeOf (.builtin id)=pure (.type "method_descriptor")) (hm:MtR X id r) (ho:PE X o to) (ha:PA X (e::es) t)
    (hbase:attributeBase o name X.env (eval o X.env)=eval o X.env:=by rfl)
    (hfew:((backTo cpos (starEach (e::es) X.env)).all (fun x=>!x.1) && (backToKw cpos (keywordEach [] X.env)).all (fun x=>x.1.isSome)
      && decide ((e::es).length + ([]:List Keyword).length + (if ([]:List Keyword).isEmpty then 0 else 1) < 30))=true:=by rfl)
    (hline:(apos.endLine == cpos.line)=true:=by rfl) (hs:starEach (e::es) X.env=(false,eval e X.env)::starEach es X.env:=by rfl) (hplain:(backTo cpos (starEach es X.env)).any (·.1)=false:=by rfl) :
    PE X (.Call (.Attribute o name apos) (e::es) [] cpos) (tBM X.K T r to t):=by
  intro pins s σ H Q I h
  refine wpAny_Call_method_late hbase hfew hline rfl (thn (ho pins s σ H _ I h) fun v s1 ⟨x,H1,I1,r1,ty,q1⟩=>?_)
  obtain ⟨h1,h2⟩:=uq I1 r1 ty
  refine ⟨T,id,pa,slot,hty,h1,h2,?_⟩
  have hA:=ha cpos pins s1 σ H1 _ I1 q1
  rw [hs] at hA ⊢
  refine Calls.callWith_builtin (by show (false || (backTo cpos (starEach es X.env)).any (·.1))=false; rw [hplain] <;> rfl) (Calls.evalArgs_plain ?_)
  exact thn hA fun us s2 ⟨vs,H2,I2,r2,q2⟩=>hm pins s2 σ H2 x vs v us Q I2 r1 r2 q2
/- xs.append(e),list.index on a module's tuple .. are MtR facts of 06m -/
end
end L2
namespace L2
open PySem PySem.Spec PyProof.Rows
noncomputable def MtM (X:Cx) (id:String) (r:V→List V→Hp→VK→Prop):Prop :=
  ∀ (pins:List (Addr × Obj)) (s:Shared) (σ:St) (H:Hp) (x:V) (xs:List V) (v:Value) (us:List Value) (Q:VK),Inv X pins σ H s→RelV x v→Vals xs us→r x xs H Q →
    wpAny (model X.prog X.w) X.A (call (.builtin id) (v::us)) (EP X pins σ Q) X.xe s
theorem Vals.one:∀ {x:V} {us:List Value},Vals [x] us→∃ u,us=[u]∧RelV x u
  | _,_,.cons r .nil=>⟨_,rfl,r⟩
theorem Vals.eraseIdx:∀ {xs:List V} {us:List Value} (i:Nat),Vals xs us→Vals (xs.eraseIdx i) (us.eraseIdx i)
  | _,_,_,.nil=>.nil
  | _,_,0,.cons _ t=>t
  | _,_,i + 1,.cons r t=>.cons r (Vals.eraseIdx i t)
theorem Vals.rep {xs:List V} {us:List Value} (h:Vals xs us):∀ k:Nat,Vals (List.replicate k xs).flatten (List.replicate k us).flatten
  | 0=>.nil
  | k + 1=>by
    rw [List.replicate_succ,List.replicate_succ,List.flatten_cons,List.flatten_cons]
    exact Vals.append h (Vals.rep h k)
theorem kc {α:Type}:∀ (l:List α) (i:Nat),(l.eraseIdx i).length≤l.length
  | [],_=>Nat.le_refl _
  | _::_,0=>Nat.le_succ _
  | _::r,i + 1=>Nat.succ_le_succ (kc r i)
theorem foldl_rep (its:List Value):∀ (k:Nat) (acc:List Value),
    List.foldl (fun x1 x2=>x1++x2) acc.toArray (List.replicate k its.toArray)=(acc++(List.replicate k its).flatten).toArray
  | 0,acc=>by simp
  | k + 1,acc=>by
    have e:acc.toArray++its.toArray=(acc++its).toArray:=by simp
    have e2:(acc++its)++(List.replicate k its).flatten=acc++(List.replicate (k + 1) its).flatten:=by
      rw [List.replicate_succ,List.flatten_cons,List.append_assoc]
    rw [← e2,← foldl_rep its k (acc++its),← e,List.replicate_succ,List.foldl_cons]
section
variable {X:Cx} {pins:List (Addr × Obj)} {σ:St} {H:Hp} {s:Shared} {l b:Addr} {xs ys zs:List V}
theorem Inv.lset {its its':List Value} {n:Nat} {f:Array Value→Array Value} {t':Nat} (I:Inv X pins σ H s) (hH:H l=some (.lst xs))
    (e:s.heap.get? l=some { cls:=.type "list",data:=.seq its.toArray n }) (hf:f its.toArray=its'.toArray) (hv:Vals ys its') (hz:ys.length≤sizeLine) :
    Inv X pins σ (upd H l (.lst ys)) { s with heap:=s.heap.update l (Obj.mapSeq f),toks:=t' }:=by
  have q:=PySem.IsL.update e f
  rw [hf] at q
  refine I.write (x:=l) (e:=l) (by rw [hH]; exact trivial) (.inl rfl) (fun b' u hb hu=>(Heap.get?_update_other s.heap (Obj.mapSeq f) (Ne.symm hb)).trans hu) ⟨_,q⟩ ?_
  exact ⟨hz,its',_,hv,q⟩
theorem Inv.lnew {its:List Value} {t':Nat} (I:Inv X pins σ H s) (hv:Vals ys its) (hz:ys.length≤sizeLine) :
    Inv X pins σ (upd H s.heap.objs.size (.lst ys)) { s with heap:=s.heap.push { cls:=.type "list",data:=.seq its.toArray },toks:=t' } :=
  I.laid (fun _ _ q=>Heap.get?_push_of_some _ q) (Nat.le_refl _) ⟨hz,its,0,hv,Heap.get?_push_size _ rfl⟩
theorem Inv.fresh (I:Inv X pins σ H s):H s.heap.objs.size=none:=I.hok.fresh (Nat.le_refl _)
theorem Inv.lstM (I:Inv X pins σ H s) (hH:H l=some (.lst xs)):xs.length≤sizeLine∧∃ (its:List Value) (n:Nat),Vals xs its∧xs.length=its.length∧s.heap.get? l=some { cls:=.type "list",data:=.seq its.toArray n }:=by
  obtain ⟨z,its,n,r,e⟩:=I.hok l _ hH
  exact ⟨z,its,n,r,r.length,e⟩
theorem l8 {n:Nat} (h:n≤sizeLine):Builtin.List.listTooLong n=false:=by
  unfold Builtin.List.listTooLong
  exact decide_eq_false (by omega)
end
section
variable {X:Cx}
noncomputable def tF:V→List V→Hp→VK→Prop:=fun x vs H Q=>∃ l xs y,x=.ref l∧vs=[y]∧H l=some (.lst xs)∧xs.length < sizeLine∧Q .non (upd H l (.lst (xs++[y])))
theorem hX:MtM X "list.append" tF:=by
  intro pins s σ H x vs v us Q I rx rv h
  obtain ⟨l,xs,y,rfl,rfl,hH,hz,q⟩:=h
  cases rx
  obtain ⟨u,rfl,ru⟩:=rv.one
  obtain ⟨z,its,n,r,hl,e⟩:=I.lstM hH
  refine call_meets F.slot_list_append ⟨_,e,rfl⟩ F.entry_list_append (F.args_list_append_2 _ _) (PySem.list_append l its.toArray n u (by rw [List.size_toArray]; omega)) ⟨e,?_⟩
  refine ⟨.non,_,I.lset (its':=its++[u]) hH e (by simp) (r.append (.cons ru .nil)) ?_,rfl,q⟩
  rw [List.length_append,List.length_singleton]
  omega
noncomputable def sk:V→List V→Hp→VK→Prop:=fun x vs H Q=>∃ l b xs zs,x=.ref l∧vs=[.ref b]∧H l=some (.lst xs)∧H b=some (.lst zs)∧xs.length + zs.length≤sizeLine∧Q .non (upd H l (.lst (xs++zs)))
theorem pV:MtM X "list.extend" sk:=by
  intro pins s σ H x vs v us Q I rx rv h
  obtain ⟨l,b,xs,zs,rfl,rfl,hH,hB,hz,q⟩:=h
  cases rx
  obtain ⟨u,rfl,ru⟩:=rv.one
  cases ru
  obtain ⟨z,its,n,r,hl,e⟩:=I.lstM hH
  obtain ⟨z2,its2,n2,r2,hl2,e2⟩:=I.lstM hB
  have hsz:its.toArray.size + its2.toArray.size≤sizeLine:=by rw [List.size_toArray,List.size_toArray]; omega
  have hlong:¬ (!its.toArray.isEmpty && Builtin.List.listTooLong (its.toArray.size + its2.toArray.size))=true:=by
    rw [l8 hsz,Bool.and_false]
    exact Bool.false_ne_true
  refine call_meets F.slot_list_extend ⟨_,e,rfl⟩ F.entry_list_extend (F.args_list_extend_2 _ _)
    (AutoSeq1.list_extend_list_list_0 l its.toArray n b its2.toArray n2 hlong (by rw [List.size_toArray]; omega) (by omega)) ⟨e,e2,?_⟩
  refine ⟨.non,_,I.lset (its':=its++its2) hH e (by simp) (r.append r2) ?_,rfl,q⟩
  rw [List.length_append]
  omega
noncomputable def ux:V→List V→Hp→VK→Prop:=fun x vs H Q=>∃ l xs i k y,x=.ref l∧vs=[.int i]∧H l=some (.lst xs)∧-(2 ^ 63)≤i∧i < 2 ^ 63∧seqIndex? i xs.length=some k∧xs[k]?=some y∧Q y (upd H l (.lst (xs.eraseIdx k)))
theorem qj:MtM X "list.pop" ux:=by
  intro pins s σ H x vs v us Q I rx rv h
  obtain ⟨l,xs,i,k,y,rfl,rfl,hH,h1,h2,hk,hy,q⟩:=h
  cases rx
  obtain ⟨u,rfl,ru⟩:=rv.one
  obtain ⟨t,rfl⟩:=ru
  obtain ⟨z,its,n,r,hl,e⟩:=I.lstM hH
  obtain ⟨w,hw,rw'⟩:=r.get hy
  refine call_meets F.slot_list_pop ⟨_,e,rfl⟩ F.entry_list_pop (F.args_list_pop_2 _ _)
    (MeetsSeq.list_pop_at l its.toArray n i t k w (fitsIndex_both h1 h2) (by rw [List.size_toArray,← hl]; exact hk) (by rw [← Array.getElem?_toList]; exact hw) (by rw [List.size_toArray]; omega)) ⟨e,?_⟩
  refine ⟨y,_,I.lset (its':=its.eraseIdx k) hH e ?_ (r.eraseIdx k) ?_,rw',q⟩
  · show its.toArray.eraseIdxIfInBounds k=(its.eraseIdx k).toArray
    rw [List.eraseIdxIfInBounds_toArray]
  · have:=kc xs k
    omega
noncomputable def wq:R2:=fun x y H Q=>∃ l b xs zs,x=.ref l∧y=.ref b∧H l=some (.lst xs)∧H b=some (.lst zs)∧xs.length + zs.length≤sizeLine∧∀ p,H p=none→Q (.ref p) (upd H p (.lst (xs++zs)))
theorem ud:OpR X (binaryOp .Add) wq:=by
  intro pins s σ H x y v u Q I rx ry h
  obtain ⟨l,b,xs,zs,rfl,rfl,hH,hB,hz,q⟩:=h
  cases rx
  cases ry
  obtain ⟨z,its,n,r,hl,e⟩:=I.lstM hH
  obtain ⟨z2,its2,n2,r2,hl2,e2⟩:=I.lstM hB
  refine PySem.P.add_list e e2 ?_ (by rw [List.size_toArray,List.size_toArray]; omega)
  have ea:its.toArray++its2.toArray=(its++its2).toArray:=by simp
  rw [ea]
  exact ⟨.ref _,_,I.lnew (t':=s.toks) (r.append r2) (by rw [List.length_append]; omega),rfl,q _ I.fresh⟩
noncomputable def vR:R2:=fun x y H Q=>∃ l k xs,x=.ref l∧y=.int k∧H l=some (.lst xs)∧-(2 ^ 63)≤k∧k < 2 ^ 63∧xs.length * k.toNat≤sizeLine ∧
  ∀ p,H p=none→Q (.ref p) (upd H p (.lst (List.replicate k.toNat xs).flatten))
theorem len_rep {α:Type} (xs:List α) (k:Nat):(List.replicate k xs).flatten.length=k * xs.length:=by
  induction k with
  | zero=>simp
  | succ k ih=>rw [List.replicate_succ,List.flatten_cons,List.length_append,ih,Nat.succ_mul,Nat.add_comm]
theorem u7:OpR X (binaryOp .Mult) vR:=by
  intro pins s σ H x y v u Q I rx ry h
  obtain ⟨l,k,xs,rfl,rfl,hH,h1,h2,hz,q⟩:=h
  cases rx
  obtain ⟨t,rfl⟩:=ry
  obtain ⟨z,its,n,r,hl,e⟩:=I.lstM hH
  have hlen:its.toArray.size * k.toNat≤sizeLine:=by rw [List.size_toArray,← hl]; exact hz
  have hcap:¬ its.toArray.size * k.toNat > (2 ^ 63 - 1) / 8:=by
    have:(sizeLine:Nat)≤(2 ^ 63 - 1) / 8:=by decide
    omega
  have hfit:¬ (!Builtin.List.listFitsIndex k)=true:=by
    rw [fitsIndex_both h1 h2]
    exact Bool.false_ne_true
  have hlong:¬ Builtin.List.listTooLong (its.toArray.size * k.toNat)=true:=by
    rw [l8 hlen]
    exact Bool.false_ne_true
  have hnew:List.foldl (fun x1 x2=>x1++x2) #[] (List.replicate (if its.toArray.isEmpty=true then 0 else k.toNat) its.toArray)=(List.replicate k.toNat its).flatten.toArray:=by
    have f0:∀ m:Nat,List.foldl (fun x1 x2=>x1++x2) #[] (List.replicate m its.toArray)=(List.replicate m its).flatten.toArray:=fun m=>by
      have:=foldl_rep its m []
      rw [List.nil_append] at this
      exact this
    rw [f0]
    cases its with
    | nil=>simp
    | cons a r'=>rw [if_neg (by simp)]
  refine wpAny_binaryOp_repeat_ref (T:="list") (U:="int") (by decide) ⟨_,e,rfl⟩ (fun s'=>typeIs_int s' k t) noFill_list_mul F.fills_int_mul F.slot_int_rmul repeat_list F.slot_int_index.lookup
    (call_meets F.slot_int_rmul (typeIs_int s k t) F.entry_int_rmul (F.args_int_rmul_2 _ _) (int___rmul___int_list k t l its.toArray n)
      ⟨e,rfl,⟨_,e,rfl⟩,call_meets F.slot_list_mul ⟨_,e,rfl⟩ F.entry_list_mul (F.args_list_mul_2 _ _) (AutoListH.list___mul___list_int_3 l its.toArray n k t hfit hcap hlong) ⟨e,?_⟩⟩)
  rw [hnew]
  exact ⟨.ref _,_,I.lnew (t':=s.toks) (r.rep k.toNat) (by rw [len_rep,Nat.mul_comm]; exact hz),rfl,q _ I.fresh⟩
end
section
variable {prog:Program} {w:World} {A:Around} {E:Value→Shared→Prop} {s:Shared}
end
section
variable {X:Cx}
end
end L2
namespace Att
open PySem PySem.W PySem.Calls PyProof.Rows
theorem iI {P:Params} {h:Heap}:∀ (ns:List Int) (vs:List Value),WellAll P h vs (ns.map WData.int)→IntsAre vs ns:=by
  intro ns
  induction ns with
  | nil =>
    intro vs w
    rw [List.map_nil] at w
    cases w
    exact .nil
  | cons n ns ih =>
    intro vs w
    rw [List.map_cons] at w
    cases w with
    | cons a b =>
      cases a
      exact .cons _ _ (ih _ b)
theorem p0 {l:OpenLaw} {n:Nat} (hn:l.most=some n) {P:Params} {h:Heap} {args:List WData} {vals:List Value}
    (hpre:l.row.toRowW.claim.pre args=true) (hwl:WellAll P h vals args) :
    ∃ a vs ns,vals=[Value.ref a]∧args=[WData.list (ns.map WData.int)]∧h.get? a=some { cls:=.type "list",data:=.seq vs.toArray }∧IntsAre vs ns∧ns.length≤n:=by
  have hsh:WShape.hasAll [] args [.list .int]=true:=(pre_splitW hpre).1
  have hc:l.pre.holds [] { args:=args }=true:=(pre_splitW hpre).2
  obtain ⟨d,r,rfl,h1,h2⟩:=hasAllW_cons hsh
  obtain rfl:=hasAllW_nil h2
  obtain ⟨xs,rfl,h3⟩:=hasW_list h1
  obtain ⟨ns,rfl⟩:=items_int h3
  have hlen:ns.length≤n:=by
    unfold OpenLaw.pre at hc
    have h4:(WTm.not (.lt (.lit (.int (n:Int))) (.len (.arg 0)))).holds [] { args:=[.list (ns.map .int)] }=true:=by
      have h4:=(holds_andW hc).1
      rw [hn] at h4
      exact h4
    have h5:=condW_of h4 (w_not (w_lt w_lit (w_len_list (w_arg rfl))))
    rw [List.length_map] at h5
    refine Nat.le_of_not_lt fun q=>?_
    have q':(n:Int) < ((ns.length:Nat):Int):=by omega
    first
      | (rw [decide_eq_true q'] at h5; exact absurd h5 (by decide))
      | (simp at h5; omega)
  cases hwl with
  | cons w1 w2 =>
    cases w2
    cases w1 with
    | list ho hall=>exact ⟨_,_,ns,rfl,rfl,ho,iI ns _ hall,hlen⟩
theorem pK (l:OpenLaw) (args:List WData):l.row.toRowW.claim.post args (.bool true) args=true :=
  postW_of (r:=l.row.toRowW) (X:=(true == true))
    (show WShape.has [] (.bool true) .bool=true by first | rfl | decide | simp [WShape.has,WShape.arms,WShape.armsAll])
    (show (WTm.eq .res (.lit (.bool true))).value [] { args:=args,res:=some (.bool true),after:=args }=some (.bool (true == true)) from w_eq_bool (w_res rfl) w_lit) rfl
theorem lI {l:OpenLaw} {n:Nat} {q:Program} {loose:List Str} {XP:(Str→Option Value)→Heap→Prop} {YP:World→Heap→Prop} {d:DefRec}
    (hn:l.most=some n) (hdf:d.params.defaults=[])
    (call:∀ (w:World) (s₀ s₁:Shared) (mg mb:Str→Option Value) (fa:Addr) (o:Obj) (pm cd doc:Value) (a:Addr) (vs:List Value) (ns:List Int),
      Ground q loose [] XP w s₀ mg mb s₁.heap→YP w s₁.heap →
      s₁.heap.get? fa=some o→o.data=.func (docDef d.name d.params d.body d.scope pm cd doc)→s₁.heap.CodeRec cd d.name→mg d.name=some (.ref fa) →
      s₁.heap.get? a=some { cls:=.type "list",data:=.seq vs.toArray }→IntsAre vs ns→ns.length≤n→s₁.gens=#[] →
      codeAny (model l.prog w) callerA (.call (.ref fa) ⟨[.ref a],[]⟩) (fun r s'=>r=.ok (.ret (.bool true))∧OldK s₁.heap s'.heap∧s'.os=s₁.os∧AllBare s'.gens) s₁) :
    WalkO q loose XP YP l.row.toRowW d [] (fun f vs=>PySem.call f vs):=by
  intro w s₀ s₁ mg mb G Y fa o pm cd doc dV kV ho hd hcd hD hmg hg args vals as hpre hlay hrd hwl hlo
  obtain rfl:dV=.none:=Dflts.none hD hdf
  obtain rfl:kV=.none:=Dflts.noKw hD
  obtain ⟨a,vs,ns,rfl,rfl,hobj,hints,hlen⟩:=p0 hn hpre hwl
  refine enter_call (codeAny_mono (call w s₀ s₁ mg mb fa o pm cd doc a vs ns G Y ho (fd_plain hd) hcd hmg hobj hints hlen hg) fun r s' hq=>?_)
  obtain ⟨rfl,h2,h3,h4⟩:=hq
  exact ⟨.inl ⟨.bool true,.bool true,[],rfl,fun _=>rfl,.bool true,pK l _,fun _=>⟨List.Pairwise.nil,fun _ hm=>(nomatch hm)⟩⟩,h2,h3,h4⟩
section
variable {prog:Program} {w:World} {A:Around} {E:Value→Shared→Prop} {s:Shared} {K:Frag}
end
end Att
namespace L2
open PySem PySem.Spec PyProof.Rows
theorem ku:∀ {vs:List Value} {ns:List Int},IntsAre vs ns→Vals (ns.map V.int) vs
  | _,_,.nil=>.nil
  | _,_,.cons n t h=>.cons ⟨t,rfl⟩ (ku h)
noncomputable def uL (H:Hp):Prop:=∀ b,H b=none∨(∃ o xs,H b=some (.frz o (.lst xs)))∨∃ q,H b=some (.tbl q)
noncomputable def jq (K:PySem.W.Frag) (h:Heap):Prop:=(∀ P q,TabOf K P q→h.get? P=some { cls:=.none,data:=.fields #[] }∧K.lookup P=none∧isCodeTable h P)∧∀ P q q',TabOf K P q→TabOf K P q'→q=q'
section
open Classical
noncomputable def fW (K:PySem.W.Frag):Hp:=fun b=>if h:∃ q,TabOf K b q then some (.tbl h.choose) else none
theorem bU (K:PySem.W.Frag) (b:Addr):fW K b=none∨∃ q,TabOf K b q∧fW K b=some (.tbl q):=by
  unfold fW
  split
  · rename_i h; exact .inr ⟨_,h.choose_spec,rfl⟩
  · exact .inl rfl
theorem kx {K:PySem.W.Frag} {h:Heap} (hT:jq K h) {P:Addr} {q:Str} (t:TabOf K P q):fW K P=some (.tbl q):=by
  rcases bU K P with e | ⟨q',t',e⟩
  · unfold fW at e
    rw [dif_pos ⟨q,t⟩] at e; cases e
  · rw [e,hT.2 P q q' t t']
end
theorem law_call {P:Program} {w:World} {K:PySem.W.Frag} {mg mb:Str→Option Value} {CX:CXT} {k:Nat} {fa a:Addr} {fd:FuncData} {x:Str} {sp:Sp} {s₁:Shared} {vs:List Value} {ns:List Int}
    (KX:K.In s₁.heap) (hns:s₁.heap.Ns mainGlobals mg) (hb:s₁.heap.Ns builtinsNs mb) (hbb:∀ x:Str,x≠"__name__"→mb x=bootBuiltins x) (hlim:s₁.heap.NoLimit) (hg:s₁.gens=#[])
    (ha:s₁.heap.get? a=some { cls:=.type "list",data:=.seq vs.toArray }) (hi:IntsAre vs ns) (hl:ns.length≤sizeLine) (hr:cY k callerA)
    (F:∀ base:Heap,K.In base→base.Ns mainGlobals mg→fi P w K mg base CX k fa fd [x] sp) (hbind:∀ (s:Shared) (u:Value),BindsTo s fd ⟨[u],[]⟩ [(x,u)])
    (hsp:∀ H:Hp,uL H→SqL K H a (ns.map V.int)→sp [.ref a] H (fun v _=>v=.bl true) fun _ _ _=>False)
    (hCX:∀ H e s',CX [] H s₁ (fun _ _ _=>False) e s'→False) (hT:jq K s₁.heap) :
    codeAny (model P w) callerA (.call (.ref fa) ⟨[.ref a],[]⟩) (fun r s'=>r=.ok (.ret (.bool true))∧OldK s₁.heap s'.heap∧s'.os=s₁.os∧AllBare s'.gens) s₁:=by
  have rv:=ku hi
  have lenV:=hi.length
  -- from an abstract heap in which nothing but the script may be tracked
  have core:∀ H:Hp,uL H→SqL K H a (ns.map V.int)→HOk P w H s₁.heap→(∀ b,H b≠none→b=a∨∃ q,TabOf K b q)→(H a≠none→K.lookup a=none)→(∀ P q,TabOf K P q→H P=some (.tbl q)) →
      codeAny (model P w) callerA (.call (.ref fa) ⟨[.ref a],[]⟩) (fun r s'=>r=.ok (.ret (.bool true))∧OldK s₁.heap s'.heap∧s'.os=s₁.os∧AllBare s'.gens) s₁:=by
    intro H hO hS hok hA hK hTb
    have base_of:∀ {b:Addr} {o:Obj},s₁.heap.get? b=some o→H b=none→(kF s₁.heap H).get? b=some o:=fun e n=>qT e n
    have noA:∀ {b:Addr} {o:Obj} {es:Array DictEntry} {ep:Nat},s₁.heap.get? b=some o→o.data=.dict es ep→H b=none:=fun {b o es ep} e d=>by
      cases q:H b with
      | none=>rfl
      | some u =>
        rcases hA b (by rw [q]; simp) with e' | ⟨qq,e'⟩
        case inr=>rw [(hT.1 b qq e').1] at e; cases e; cases d
        subst e'
        rw [ha] at e; cases e
        have d':Data.seq vs.toArray _=Data.dict es ep:=d
        cases d'
    have nsK:∀ {b:Addr} {m:Str→Option Value},s₁.heap.Ns b m→(kF s₁.heap H).Ns b m:=fun {b m} ⟨o,es,ep,e,d,r⟩=>⟨o,es,ep,base_of e (noA e d),d,r⟩
    have hKb:K.In (kF s₁.heap H):=fun b o e=>base_of (KX b o e) (by
      cases q:H b with
      | none=>rfl
      | some u =>
        rcases hA b (by rw [q]; simp) with e' | ⟨qq,e'⟩
        case inr=>rw [(hT.1 b qq e').2.1] at e; cases e
        subst e'
        rw [hK (by rw [q]; simp)] at e; cases e)
    have hM:Mod K mg (kF s₁.heap H):=⟨hKb,nsK hns,⟨mb,nsK hb,hbb⟩,let ⟨mc,h1,h2⟩:=hlim; ⟨mc,nsK h1,h2⟩⟩
    have e0:tH P w K mg (kF s₁.heap H) callerA [] s₁ H:=⟨rfl,hM,fun b o e=>sC e,Nat.le_of_eq (pq _ _),trivial,fun b hb=>absurd (show b∈([]:List Addr) from hb) (by simp),hok,.of_eq hg,hTb⟩
    refine codeAny_mono ((F _ hKb (nsK hns)).run callerA [] s₁ H ⟨[.ref a],[]⟩ [.ref a] [.ref a] _ _ hr e0 (hbind s₁ (.ref a)) (.cons rfl .nil) (hsp H hO hS)) fun r s' h=>?_
    cases r with
    | error e=>exact (hCX H e s' h).elim
    | ok fl =>
      cases fl with
      | next=>exact False.elim h
      | brk=>exact False.elim h
      | cont=>exact False.elim h
      | ret u =>
        obtain ⟨v,H',os,bare,un,hok',r',q⟩:=h
        have q':v=.bl true:=q
        subst q'
        obtain rfl:u=Value.bool true:=r'
        have old:∀ b o,s₁.heap.get? b=some o→s'.heap.get? b=some o∨(isCodeTable s₁.heap b∧o.cls=.none∧∃ vs more,o.data=.fields vs∧s'.heap.get? b=some { o with data:=.fields (vs++more) }):=fun b o e=>?old
        case old =>
         cases q:H b with
         | none=>exact .inl <| un.keep b o e q (by intro z; exact absurd (show b∈([]:List Addr) from z) (by simp)) (by simp)
         | some u =>
          rcases hO b with z | ⟨ob,xs,z⟩ | ⟨qq,z⟩
          · rw [q] at z; cases z
          · have z2:=un.frzs b ob _ z
            obtain ⟨e1,_⟩:=hok b _ z
            obtain ⟨e2,_⟩:=hok' b _ z2
            rw [e] at e1; cases e1
            exact .inl e2
          · have z2:=un.tbls b qq z
            obtain ⟨ps,e2,_⟩:=hok' b _ z2
            rcases hA b (by rw [z]; simp) with e' | ⟨q2,e'⟩
            · obtain ⟨ps0,e3,_⟩:=hok b _ z
              rw [e'] at e3; rw [ha] at e3; cases e3
            · obtain ⟨e3,_,e4⟩:=hT.1 b q2 e'
              rw [e] at e3; cases e3
              exact .inr ⟨e4,rfl,#[],ps,rfl,by simpa using e2⟩
        exact ⟨rfl,⟨fun b o e=>(old b o e).imp id fun z=>.inl z,fun b o e=>by rcases old b o e with z | ⟨_,_,_,_,_,z⟩ <;> exact ⟨_,z⟩⟩,os,bare⟩
  have tok:∀ b q,TabOf K b q→cF P w (fun _=>none) s₁.heap b (.tbl q):=fun b q t=>⟨#[],(hT.1 b q t).1,trivial,fun pos cv z=>nomatch z⟩
  have tokH:∀ (H:Hp) b q,TabOf K b q→cF P w H s₁.heap b (.tbl q):=fun H b q t=>⟨#[],(hT.1 b q t).1,trivial,fun pos cv z=>nomatch z⟩
  have na:∀ q,¬ TabOf K a q:=fun q t=>by have:=(hT.1 a q t).1; rw [ha] at this; cases this
  cases hk:K.lookup a with
  | some o =>
    have e:=KX a o hk
    rw [ha] at e
    cases e
    refine core (fW K) (fun b=>(bU K b).imp id fun ⟨q,_,e⟩=>.inr ⟨q,e⟩) (.inr ⟨_,vs.toArray,_,hk,rfl,rfl,rfl,by rw [List.size_toArray,lenV]; exact hl,by simpa using rv⟩) (fun b u z=>?_) (fun b z=>?_) (fun z=>?_) fun P q t=>kx hT t
    · rcases bU K b with e | ⟨q,t,e⟩
      · rw [z] at e; cases e
      · rw [z] at e; cases e; exact tokH _ b q t
    · rcases bU K b with e | ⟨q,t,e⟩
      · exact absurd e z
      · exact .inr ⟨q,t⟩
    · rcases bU K a with e | ⟨q,t,e⟩
      · exact absurd e z
      · exact absurd t (na q)
  | none =>
    have eT:∀ b,b≠a→(fun b=>if b=a then some (HO.frz { cls:=.type "list",data:=.seq vs.toArray } (.lst (ns.map V.int))) else fW K b) b=fW K b:=fun b h=>if_neg h
    have eA:(fun b=>if b=a then some (HO.frz { cls:=.type "list",data:=.seq vs.toArray } (.lst (ns.map V.int))) else fW K b) a=some (HO.frz { cls:=.type "list",data:=.seq vs.toArray } (.lst (ns.map V.int))):=if_pos rfl
    refine core (fun b=>if b=a then some (.frz { cls:=.type "list",data:=.seq vs.toArray } (.lst (ns.map V.int))) else fW K b) (fun b=>?_) (.inl (.inr ⟨{ cls:=.type "list",data:=.seq vs.toArray },if_pos rfl⟩)) (fun b u z=>?_) (fun b z=>?_) (fun _=>hk) fun P q t=>?_
    · by_cases hb:b=a
      · exact .inr (.inl ⟨_,_,if_pos hb⟩)
      · rw [eT b hb]; exact (bU K b).imp id fun ⟨q,_,e⟩=>.inr ⟨q,e⟩
    · by_cases hb:b=a
      · subst hb
        rw [eA] at z; cases z
        exact ⟨ha,by rw [List.length_map]; exact hl,vs,_,rv,ha⟩
      · rw [eT b hb] at z
        rcases bU K b with e | ⟨q,t,e⟩
        · rw [z] at e; cases e
        · rw [z] at e; cases e; exact tokH _ b q t
    · by_cases hb:b=a
      · exact .inl hb
      · rcases bU K b with e | ⟨q,t,e⟩
        · exact absurd ((if_neg hb).trans e) z
        · exact .inr ⟨q,t⟩
    · exact (if_neg (fun z=>na q (by rw [← z]; exact t))).trans (kx hT t)
end L2
namespace L2
open PySem PySem.Spec PyProof.Rows
noncomputable abbrev KOf {K:PySem.W.Frag} {h:Heap} (_:K.In h):PySem.W.Frag:=K
theorem oa {l:PySem.W.OpenLaw} {n k:Nat} {q:Program} {loose:List Str} {XP:(Str→Option Value)→Heap→Prop} {YP:World→Heap→Prop} {d:DefRec} {K:Params→PySem.W.Frag} {CX:World→CXT} {sp:World→Sp} {x:Str}
    (hn:l.most=some n) (hn2:n≤sizeLine) (hdf:d.params.defaults=[]) (hr:cY k callerA)
    (hY:∀ (w:World) (h:Heap),YP w h→(K w.params).In h)
    (F:∀ (w:World) (mg:Str→Option Value) (fa:Addr) (h:Heap),(K w.params).In h→h.Ns mainGlobals mg→mg d.name=some (.ref fa) →
      ∃ fd:FuncData,(∀ (s:Shared) (u:Value),BindsTo s fd ⟨[u],[]⟩ [(x,u)]) ∧
        ∀ base:Heap,(K w.params).In base→base.Ns mainGlobals mg→fi l.prog w (K w.params) mg base (CX w) k fa fd [x] (sp w))
    (hsp:∀ (w:World) (H:Hp) (a:Addr) (ns:List Int),ns.length≤n→uL H→SqL (K w.params) H a (ns.map V.int)→sp w [.ref a] H (fun v _=>v=.bl true) fun _ _ _=>False)
    (hCX:∀ (w:World) (H:Hp) (s:Shared) (e:Value) (s':Shared),CX w [] H s (fun _ _ _=>False) e s'→False) (hTb:∀ (w:World) (h:Heap) (loose':List Str) (mean:ExcName→Option Value) (mg mb:Str→Option Value),PyProof.Rows.Top q loose' mean mg mb h→(K w.params).In h→jq (K w.params) h) :
    PySem.W.WalkO q loose XP YP l.row.toRowW d [] (fun f vs=>PySem.call f vs):=by
  refine Att.lI hn hdf fun w s₀ s₁ mg mb fa o pm cd doc a vs ns G Y ho hd hcd hmg hobj hints hlen hg=>?_
  have KX:=hY w _ Y
  obtain ⟨fd,hb,hF⟩:=F w mg fa _ KX G.T.g hmg
  exact law_call KX G.T.g G.T.b G.T.builtins G.T.nolimit hg hobj hints (Nat.le_trans hlen hn2) hr hF hb (fun H hO hS=>hsp w H a ns hlen hO hS) (fun H e s'=>hCX w H s₁ e s') (hTb w _ _ _ _ _ G.T KX)
end L2
/- THE LAST THEOREM (shape; LID,My.* are yours):
   My.Adr: a structure of the addresses that your layer names (classes,functions); My.Txt K t: a structure (Prop) of the equations over K;
   My.txt_mk:{K} {implicit addresses ..} (e1:nsIn K mainGlobals "law"=some (some (.ref f))) (e2:K.lookup f=some ⟨oc,od,.func (fnOf "law" "law" params body scope dV kV doc pm an cdv ct),sl⟩) (e3:codeIn K cdv "law"=true) ..:∃ t,My.Txt K t
set_option maxRecDepth 100000 in
set_option maxHeartbeats 0 in
theorem PySem.Challenge.cw_LID_holds : PySem.Challenge.rw_LID.Holds := by
  w_on; o_law; k_head; (case hw=>w_witness2)
  k_fill
  refine L2.oa (l:=PySem.Challenge.rw_LID) (n:=63) (k:=40) (x:="script") (CX:=fun w=>..) (sp:=fun _=>My.sp_law) rfl (by decide) rfl ⟨rfl,by decide,by decide⟩ (fun w h Y=>PySem.W.kIn_of Y) ?F ?S ?C
  case F =>
    intro w mg fa h KX G hmg
    have T:∃ t,My.Txt (L2.KOf KX) t:=by
      dsimp only [L2.KOf]                          -- K must stand as «<heap const> w.params» for k_is
      refine' My.txt_mk ?e1 ?e2 ?e3 ..
      (case e1=>PySem.W.k_is)                    -- in the order: a name -> its address -> its object -> its parts
      (case e2=>PySem.W.k_is)
      ..
    obtain ⟨t,T⟩:=T
    have e0:=hmg.symm.trans (PySem.W.mg_of KX G T.law)
    cases e0                                       -- fa is the law's own address
    exact ⟨_,fun s u=>.of_eq rfl,fun base kb nb=>My.law_fn T kb nb⟩     -- if «.of_eq rfl» comes too early: refine' ⟨_,?b,fun base kb nb=>My.law_fn T kb nb⟩; exact fun s u=>.of_eq rfl
  case S=>exact fun w H a ns hl hO hS=>..
  case C=>exact ..
(the tactic k_is has no namespace: write k_is) -/
namespace L2
open PySem PySem.Spec PyProof.Rows
noncomputable def ff (s:Stmt):Arguments:=match s with
  | .FunctionDef _ a _ _ _ _ _ _ _ _=>a
  | _=>{ posonlyargs:=[],args:=[],vararg:=none,kwonlyargs:=[],kw_defaults:=[],kwarg:=none,defaults:=[] }
noncomputable def cQ (s:Stmt):List Stmt:=match s with
  | .FunctionDef _ _ b _ _ _ _ _ _ _=>b
  | _=>[]
noncomputable def ax (s:Stmt):Scope:=match s with
  | .FunctionDef _ _ _ _ _ _ sc _ _ _=>sc
  | _=>{ kind:=.function,names:=[],isGenerator:=false,isCoroutine:=false }
noncomputable abbrev CX0:CXT:=fun _ _ _ _ _ _=>False
noncomputable abbrev E0:XK:=fun _ _ _=>False
theorem wg {X:Cx}:Passes CX0 X E0:=fun _ _ _ _ _ _ _ h=>h.elim
structure Fun (K:PySem.W.Frag) (x qual:Str) (st:Stmt) (f:Addr) (fd:FuncData):Prop where
  ex:∃ (oc:Value) (od:Option Addr) (kV doc pm:Value) (an:Option Addr) (cdv ct:Value) (osl:Array (Option Value)),
    fd=PySem.W.fnOf x qual (ff st) (cQ st) (ax st) .none kV doc pm an cdv ct∧K.lookup f=some ⟨oc,od,.func fd,osl⟩∧PySem.W.codeIn K cdv qual=true
  kp:PySem.W.keepIn K (.ref f)=true
section
variable {P:Program} {w:World} {K:PySem.W.Frag} {mg:Str→Option Value} {base:Heap}
theorem Fun.ok {x qual:Str} {st:Stmt} {f:Addr} {fd:FuncData} {N ps:List Str} {k:Nat} {sp:Sp} (F:Fun K x qual st f fd) (S:a6 N ps (ax st)) (len:∀ vs H Q E,sp vs H Q E→vs.length=ps.length)
    (hbody:∀ (cdv:Value) (A:Around) (outer:List Env) (s:Shared) (H:Hp) (vs:List V) (Q:VK) (E:XK),cY k (A.deeper (envOfC qual (ax st) s.heap.objs.size f cdv))→sp vs H Q E →
      ∃ t,PSs (eC CX0 P w K mg base N qual (ax st) f cdv A outer s H E).nox (cQ st) t∧t { nx:=fun _ H'=>Q .non H',rt:=Q } (start N vs) H):fi P w K mg base CX0 (k + 1) f fd ps sp:=by
  obtain ⟨oc,od,kV,doc,pm,an,cdv,ct,osl,rfl,lk,hcd⟩:=F.ex
  refine tN lk hcd S len fun A outer s H vs Q E hr hsp=>?_
  obtain ⟨t,h,q⟩:=hbody cdv A outer s H vs Q E hr hsp
  exact ⟨t,h.nox,q⟩
theorem Fun.binds {x qual:Str} {st:Stmt} {f:Addr} {fd:FuncData} {ps:List Str} (F:Fun K x qual st f fd)
    (h:∀ (kV doc pm:Value) (an:Option Addr) (cdv ct:Value) (us:List Value),us.length=ps.length→bindArgs (PySem.W.fnOf x qual (ff st) (cQ st) (ax st) .none kV doc pm an cdv ct) ⟨us,[]⟩=pure (ps.zip us)):Binds K fd ps []:=by
  obtain ⟨oc,od,kV,doc,pm,an,cdv,ct,osl,rfl,lk,hcd⟩:=F.ex
  exact .all (h kV doc pm an cdv ct)
theorem uH {x qual:Str} {st:Stmt} {f:Addr} {oc:Value} {od an:Option Addr} {osl:Array (Option Value)} {kV doc pm cdv ct:Value} (l:K.lookup f=some ⟨oc,od,.func (PySem.W.fnOf x qual (ff st) (cQ st) (ax st) .none kV doc pm an cdv ct),osl⟩)
    (c:PySem.W.codeIn K cdv qual=true) (k:PySem.W.keepIn K (.ref f)=true):Fun K x qual st f (PySem.W.fnOf x qual (ff st) (cQ st) (ax st) .none kV doc pm an cdv ct):=⟨⟨oc,od,kV,doc,pm,an,cdv,ct,osl,rfl,l,c⟩,k⟩
end
section
variable {X:Cx}
theorem pv (i:Nat) {x:Str} {pos:Pos} (hN:X.N[i]?=some x:=by rfl) (hv:Vis X.env.scope x:=by first | exact Or.inl rfl | exact Or.inr (Or.inl rfl) | exact Or.inr (Or.inr rfl)) (hd:(x == ("__debug__":Str))=false:=by decide)
    (hcd:(x == ("__classdict__":Str))=false:=by decide):PE X (.Name x pos) (vo i):=fL hN hv hd hcd
end
theorem vH {c A B:Prop} [Decidable c] (h1:c→A) (h2:¬ c→B):if c then A else B:=by
  by_cases h:c
  · rw [if_pos h]
    exact h1 h
  · rw [if_neg h]
    exact h2 h
noncomputable def av (H H':Hp):Prop:=∀ b o,H b=some o→H' b=some o
theorem av.refl (H:Hp):av H H:=fun _ _ h=>h
theorem av.trans {H H1 H2:Hp} (a:av H H1) (b:av H1 H2):av H H2:=fun c o h=>b c o (a c o h)
theorem av.free {H H':Hp} (e:av H H') {l:Addr} (h:H' l=Option.none):H l=Option.none:=by
  cases q:H l with
  | none=>rfl
  | some o =>
    rw [e l o q] at h
    cases h
theorem av.seq {K:PySem.W.Frag} {H H':Hp} {a:Addr} {xs:List V} (e:av H H') (h:SqL K H a xs):SqL K H' a xs:=by
  rcases h with (h | ⟨o,h⟩) | h
  · exact .inl (.inl (e _ _ h))
  · exact .inl (.inr ⟨o,e _ _ h⟩)
  · exact .inr h
end L2
set_option maxRecDepth 100000
set_option maxHeartbeats 4000000
namespace L2
open PySem PySem.Spec PyProof.Rows
noncomputable def iO:List (Str × NameKind)→List (Str × Addr)→List (Str × Addr)→List (Str × Addr)
  | [],_,acc=>acc
  | (n,k)::r,cells,acc=>iO r cells (if k == .free then (match cells.lookup n with | some c=>(n,c)::acc | none=>acc) else acc)
theorem fe (env:Env):∀ (names:List (Str × NameKind)) (acc:List (Str × Addr)),(∀ y∈names,y.2=.free→∃ c,env.cells.lookup y.1=some c) →
    (forIn names acc (fun (x:Str × NameKind) (cs:List (Str × Addr))=>match x with
      | (name,kind)=>if (kind == NameKind.free)=true then do let c ← cellOf env name; pure (ForInStep.yield ((name,c)::cs)) else pure (ForInStep.yield cs)):Sem (List (Str × Addr)))=pure (iO names env.cells acc)
  | [],acc,_=>rfl
  | (n,k)::r,acc,h=>by
    rw [List.forIn_cons]
    have hr:∀ y∈r,y.2=.free→∃ c,env.cells.lookup y.1=some c:=fun y hy=>h y (List.mem_cons_of_mem _ hy)
    dsimp only [iO]
    by_cases hk:k=.free
    · subst hk
      obtain ⟨c,hc⟩:=h (n,.free) List.mem_cons_self rfl
      have hc':env.cells.lookup n=some c:=hc
      have e:cellOf env n=pure c:=by unfold cellOf; rw [hc']
      rw [if_pos (show (NameKind.free == NameKind.free)=true by decide),if_pos (show (NameKind.free == NameKind.free)=true by decide),e,hc']
      exact fe env r ((n,c)::acc) hr
    · have hb:¬ (k == NameKind.free)=true:=by simpa using hk
      rw [if_neg hb,if_neg hb]
      exact fe env r acc hr
theorem iL {scope:Scope} {env:Env} (h:∀ y∈scope.names,y.2=.free→∃ c,env.cells.lookup y.1=some c):closureFor scope env=pure (iO scope.names env.cells []):=by
  have e:=fe env scope.names [] h
  unfold closureFor
  rw [← bind_pure (forIn scope.names [] _)] at e
  exact e
theorem lY:∀ (names:List (Str × NameKind)) (cells acc:List (Str × Addr)) (x:Str) (c:Addr),(∀ x c,acc.lookup x=some c→cells.lookup x=some c)→(iO names cells acc).lookup x=some c→cells.lookup x=some c
  | [],_,_,x,c,h,e=>h x c e
  | (n,k)::r,cells,acc,x,c,h,e=>by
    refine lY r cells _ x c (fun y d hy=>?_) e
    split at hy
    · split at hy
      · rename_i c' hc'
        rw [List.lookup_cons] at hy
        by_cases hyn:(y == n)=true
        · rw [hyn] at hy
          have hy':y=n:=eq_of_beq hyn
          subst hy'
          cases hy
          exact hc'
        · have:(y == n)=false:=by simpa using hyn
          rw [this] at hy
          exact h y d hy
      · exact h y d hy
    · exact h y d hy
theorem jY:∀ (names:List (Str × NameKind)) (cells acc:List (Str × Addr)) (x:Str),(∃ c,acc.lookup x=some c)→∃ c,(iO names cells acc).lookup x=some c
  | [],_,_,_,h=>h
  | (n,k)::r,cells,acc,x,h=>by
    refine jY r cells _ x ?_
    split
    · split
      · rw [List.lookup_cons]
        cases (x == n)
        · exact h
        · exact ⟨_,rfl⟩
      · exact h
    · exact h
theorem i0:∀ (names:List (Str × NameKind)) (cells acc:List (Str × Addr)) (x:Str) (c:Addr),(x,NameKind.free)∈names→cells.lookup x=some c→∃ c,(iO names cells acc).lookup x=some c
  | [],_,_,_,_,h,_=>by simp at h
  | (n,k)::r,cells,acc,x,c,h,e=>by
    rcases List.mem_cons.mp h with h | h
    · injection h with h1 h2
      subst h1; subst h2
      refine jY r cells _ x ?_
      rw [if_pos (by decide),e]
      exact ⟨c,by simp [List.lookup_cons]⟩
    · exact i0 r cells _ x c h e
noncomputable def blk (X:Cx) (M:List Str) (scope:Scope) (own:List Str) (C:Addr) (s2:Shared) (H2:Hp) (fp:List Addr):Cx where
  prog:=X.prog
  w:=X.w
  K:=X.K
  mg:=X.mg
  base:=X.base
  A:=X.A
  N:=M++own
  s₀:=s2
  H₀:=H2
  env:=compEnvC scope (iO scope.names X.env.cells []) C X.env
  outer:=X.stack
  stack:=X.stack
  ex:=fp
  fn:=fun _=>false
  calm:=X.calm
  pn:=[]
  xe:=fun _ _=>False
structure fI (X:Cx) (M:List Str) (scope:Scope) (own:List Str):Prop where
  kind:scope.kind=.function
  nocell:∀ y∈scope.names,y.2≠.cell
  names:∀ y∈scope.names,y.2=.local→scope.names.lookup y.1=some .local
  free:∀ y∈scope.names,y.2=.free→Vis X.env.scope y.1∧X.env.scope.names.lookup y.1≠some .local
  own:∀ x∈own,scope.names.lookup x=some .local
  outer:∀ p∈X.N.zip M,(p.1=p.2∧scope.names.lookup p.2≠some .local)∨scope.names.lookup p.2=none
  len:M.length=X.N.length
noncomputable def me (N M:List Str) (osc scope:Scope) (own:List Str):Bool :=
  (scope.kind == .function) && scope.names.all (fun y=>y.2 != .cell) && scope.names.all (fun y=>y.2 != .local || scope.names.lookup y.1 == some .local) &&
  scope.names.all (fun y=>y.2 != .free || (osc.names.lookup y.1 == some .cell || osc.names.lookup y.1 == some .free)) &&
  own.all (fun x=>scope.names.lookup x == some .local) && (N.zip M).all (fun p=>(p.1 == p.2 && scope.names.lookup p.2 != some .local) || scope.names.lookup p.2 == none) && (M.length == N.length)
theorem fI.of {X:Cx} {M:List Str} {scope:Scope} {own:List Str} (h:me X.N M X.env.scope scope own=true):fI X M scope own:=by
  unfold me at h
  simp only [Bool.and_eq_true,List.all_eq_true,Bool.or_eq_true,bne_iff_ne,beq_iff_eq,ne_eq] at h
  obtain ⟨⟨⟨⟨⟨⟨h1,h2⟩,h3⟩,h4⟩,h5⟩,h6⟩,h7⟩:=h
  refine ⟨h1,h2,fun y hy e=>(h3 y hy).resolve_left fun z=>z e,fun y hy e=>?_,h5,h6,h7⟩
  rcases (h4 y hy).resolve_left fun z=>z e with q | q
  · exact ⟨.inr (.inl q),by rw [q]; intro z; cases z⟩
  · exact ⟨.inr (.inr q),by rw [q]; intro z; cases z⟩
theorem cq {env:Env}:∀ {names:List (Str × NameKind)} {x:Str} {k:NameKind},
    (names.map fun (n,k)=>if (k == NameKind.free && env.scope.kind == .function && env.kindOf n == some .cell) then (n,NameKind.cell) else (n,k)).lookup x=some k→(k=.cell∨k=.free)→(∀ y∈names,y.2≠.cell)→(x,NameKind.free)∈names
  | [],_,_,h,_,_=>by simp at h
  | (n,k')::r,x,k,h,hk,hn=>by
    have hr:∀ y∈r,y.2≠NameKind.cell:=fun y hy=>hn y (List.mem_cons_of_mem _ hy)
    rw [List.map_cons,List.lookup_cons] at h
    by_cases hc:(k' == NameKind.free && env.scope.kind == .function && env.kindOf n == some .cell)=true
    · have hf:k'=.free:=by
        have:=hc
        simp only [Bool.and_eq_true] at this
        exact eq_of_beq this.1.1
      simp only [if_pos hc] at h
      cases hx:x == n with
      | true =>
        have:x=n:=eq_of_beq hx
        subst this; subst hf
        exact List.mem_cons_self
      | false =>
        rw [hx] at h
        exact List.mem_cons_of_mem _ (cq h hk hr)
    · simp only [if_neg hc] at h
      cases hx:x == n with
      | true =>
        rw [hx] at h
        have e:k'=k:=Option.some.inj h
        have:x=n:=eq_of_beq hx
        subst this; subst e
        rcases hk with hk | hk
        · exact absurd hk (hn _ List.mem_cons_self)
        · subst hk; exact List.mem_cons_self
      | false =>
        rw [hx] at h
        exact List.mem_cons_of_mem _ (cq h hk hr)
theorem ck {env:Env}:∀ {names:List (Str × NameKind)} {x:Str} {k:NameKind},
    (names.map fun (n,k)=>if (k == NameKind.free && env.scope.kind == .function && env.kindOf n == some .cell) then (n,NameKind.cell) else (n,k)).lookup x=some k→(∃ k0,names.lookup x=some k0∧(k=k0∨(k=.cell∧k0=.free)))
  | [],_,_,h=>by simp at h
  | (n,k')::r,x,k,h=>by
    rw [List.map_cons,List.lookup_cons] at h
    rw [List.lookup_cons]
    by_cases hc:(k' == NameKind.free && env.scope.kind == .function && env.kindOf n == some .cell)=true
    · have hf:k'=.free:=by
        have:=hc
        simp only [Bool.and_eq_true] at this
        exact eq_of_beq this.1.1
      simp only [if_pos hc] at h
      cases hx:x == n with
      | true =>
        rw [hx] at h
        exact ⟨k',rfl,.inr ⟨(Option.some.inj h).symm,hf⟩⟩
      | false =>
        rw [hx] at h
        exact ck h
    · simp only [if_neg hc] at h
      cases hx:x == n with
      | true =>
        rw [hx] at h
        exact ⟨k',rfl,.inl (Option.some.inj h).symm⟩
      | false =>
        rw [hx] at h
        exact ck h
section
variable {X:Cx} {M:List Str} {pins:List (Addr × Obj)} {σ:St} {H2:Hp} {s2:Shared} {scope:Scope} {own:List Str} {fp:List Addr}
theorem Inv.blk {h1:Heap} {t':Nat} {C D:Addr} (I:Inv X pins σ H2 s2) (B:fI X M scope own) (hf:∀ b∈fp,jc X pins H2 b) (hfs:∀ b∈fp,b < s2.heap.objs.size)
    (hD:D=s2.heap.objs.size) (hC:C=s2.heap.objs.size + 1) (hl:h1.get? D=some { cls:=.type "list",data:=.seq ([]:List Value).toArray 0 })
    (hn:h1.Ns C (fun _=>none)) (hk:∀ b o,s2.heap.get? b=some o→h1.get? b=some o) :
    Inv (L2.blk X M scope own C s2 H2 fp) [] (σ++List.replicate own.length none) (upd H2 D (.lst [])) { s2 with heap:=h1,toks:=t' }:=by
  have hcl:∀ x c,(iO scope.names X.env.cells []).lookup x=some c→X.env.cells.lookup x=some c:=fun x c e=>lY _ _ _ _ _ (fun _ _ z=>by simp at z) e
  have hlt:∀ x c,(iO scope.names X.env.cells []).lookup x=some c→c < s2.heap.objs.size:=fun x c e=>by
    obtain ⟨v,q⟩:=I.cell x c (hcl x c e)
    exact q.lt
  have freeD:H2 D=none:=I.hok.fresh (by rw [hD]; exact Nat.le_refl _)
  have freeC:H2 C=none:=I.hok.fresh (by rw [hC]; exact Nat.le_succ _)
  have hCD:C≠D:=by rw [hC,hD]; exact Nat.succ_ne_self _
  have hu:Un (frs X.stack) fp H2 (upd H2 D (.lst [])) s2.heap h1:=Un.laid hk (by rw [hD]; exact Nat.le_refl _) freeD
  refine ⟨⟨I.ok.mod,?_,I.ok.glob,I.ok.blt,?_,?_,?_,?_,I.ok.hd,I.ok.frames,.inl rfl,?_,I.bs,Nat.le_trans I.ok.bsz I.sz,?_,?_,I.stack,I.stkFree⟩,rfl,I.bare,hu,?_,?_,?_,?_,?_,?_,?_,fun P q t=>hu.tbls P q (I.tab P q t)⟩
  · exact B.kind
  · show s2.heap.objs.size≤C
    rw [hC]; exact Nat.le_succ _
  · intro x y c e1 e2
    exact I.ok.inj x y c (hcl x c e1) (hcl y c e2)
  · intro x hx
    have hm:(x,NameKind.free)∈scope.names:=by
      rcases hx with hx | hx
      · exact cq hx (.inl rfl) B.nocell
      · exact cq hx (.inr rfl) B.nocell
    obtain ⟨hv,hnl⟩:=B.free _ hm rfl
    have hh:X.env.kindOf x=some .cell∨X.env.kindOf x=some .free:=by
      rcases hv with z | z | z
      · exact absurd z hnl
      · exact .inl z
      · exact .inr z
    obtain ⟨c,e⟩:=I.ok.has x hh
    exact i0 _ _ _ x c hm e
  · intro x c hfn _
    exact absurd (show false=true from hfn) (by decide)
  · intro b hb
    refine ⟨?_,fun x c e z=>?_⟩
    · show b≠C
      rw [hC]
      exact Nat.ne_of_lt (Nat.lt_succ_of_lt (hfs b hb))
    · exact (hf b hb).2.2.2.2.1 x c (hcl x c e) z
  · intro b o e hb
    obtain ⟨_,_,_,f3,_⟩:=hf b hb
    rcases f3 with z | z
    · exact I.ok.noex b o e z
    · exact absurd (Nat.lt_of_lt_of_le (Heap.lt_size (I.ok.bs b o e).1) z) (Nat.lt_irrefl _)
  · intro b hb hs
    obtain ⟨_,f1,f2,_⟩:=hf b hb
    rcases List.mem_cons.mp (I.stkSub b hs) with z | z
    · exact f1 z
    · exact f2 z
  · refine ⟨_,hn,fun i x v e1 e2 e3=>?_⟩
    have hi:i < σ.length:=by
      by_cases hi:i < σ.length
      · exact hi
      · rw [List.getElem?_append_right (by omega),List.getElem?_replicate] at e2
        split at e2 <;> cases e2
    rw [List.getElem?_append_left hi] at e2
    have hiN:i < X.N.length:=by rw [← I.len]; exact hi
    have hiM:i < M.length:=by rw [B.len]; exact hiN
    have e1M:M[i]?=some x:=by
      have:(M++own)[i]?=some x:=e1
      rwa [List.getElem?_append_left hiM] at this
    obtain ⟨y,ey⟩:∃ y,X.N[i]?=some y:=⟨_,List.getElem?_eq_getElem hiN⟩
    have hz:(y,x)∈X.N.zip M:=List.mem_of_getElem? (i:=i) (by rw [List.getElem?_zip_eq_some]; exact ⟨ey,e1M⟩)
    have hin:∃ k,scope.names.lookup x=some k:=by
      rcases e3 with z | z | z
      · obtain ⟨k0,hk0,_⟩:=ck (show _=some NameKind.local from z); exact ⟨k0,hk0⟩
      · obtain ⟨k0,hk0,_⟩:=ck (show _=some NameKind.cell from z); exact ⟨k0,hk0⟩
      · obtain ⟨k0,hk0,_⟩:=ck (show _=some NameKind.free from z); exact ⟨k0,hk0⟩
    have hout:y=x∧scope.names.lookup x≠some .local:=by
      rcases B.outer _ hz with q | q
      · exact q
      · obtain ⟨k,hk⟩:=hin; rw [q] at hk; cases hk
    have e1':X.N[i]?=some x:=by rw [← hout.1]; exact ey
    have hx:(relabel scope X.env).names.lookup x=some .cell∨(relabel scope X.env).names.lookup x=some .free:=by
      rcases e3 with z | z
      · obtain ⟨k0,hk0,hk⟩:=ck (show _=some NameKind.local from z)
        rcases hk with hk | ⟨hk,_⟩
        · subst hk
          exact absurd hk0 hout.2
        · cases hk
      · exact z
    have hm:(x,NameKind.free)∈scope.names:=by
      rcases hx with hx | hx
      · exact cq hx (.inl rfl) B.nocell
      · exact cq hx (.inr rfl) B.nocell
    obtain ⟨hv,hnl⟩:=B.free _ hm rfl
    obtain ⟨m,_,hl'⟩:=I.loc
    obtain ⟨u,r,l⟩:=hl' i x v e1' e2 hv
    refine ⟨u,r,.inr ⟨hx,?_⟩⟩
    rcases l with ⟨z,_⟩ | ⟨_,c,hc,z⟩
    · exact absurd z hnl
    · obtain ⟨c',hc'⟩:=i0 scope.names X.env.cells [] x c hm hc
      have:=hcl x c' hc'
      rw [hc] at this
      cases this
      exact ⟨c,hc',z.keeps hk⟩
  · intro x c e
    obtain ⟨v,q⟩:=I.cell x c (hcl x c e)
    exact ⟨v,q.keeps hk⟩
  · show upd H2 D (.lst []) C=none
    rw [aQ hCD]; exact freeC
  · intro x c e
    have h1:=hlt x c e
    rw [aQ (by rw [hD]; exact Nat.ne_of_lt h1)]
    exact I.freeC x c (hcl x c e)
  · intro p hp
    exact absurd (show p∈([]:List (Addr × Obj))++[] from hp) (by simp)
  · exact I.hok.laid hk (by rw [hD]; exact Nat.le_refl _) ⟨Nat.zero_le _,[],0,.nil,hl⟩
  · show (σ++List.replicate own.length none).length=(M++own).length
    rw [List.length_append,List.length_append,List.length_replicate,I.len,B.len]
theorem Inv.unblk {C:Addr} {σ':St} {H':Hp} {s':Shared} {h':Heap} (I:Inv X pins σ H2 s2) (hf:∀ b∈fp,jc X pins H2 b) (hCs:s2.heap.objs.size≤C)
    (J:Inv (L2.blk X M scope own C s2 H2 fp) [] σ' H' s') (hs:Heap.SameBut C s'.heap h'):Inv X pins σ H' { s' with heap:=h' }:=by
  have hC:H' C=none:=J.free
  have k:∀ b o,b≠C→s'.heap.get? b=some o→h'.get? b=some o:=fun b o hb e=>(hs.2 b hb).trans e
  have old:∀ b o,s2.heap.get? b=some o→b≠C:=fun b o e=>Nat.ne_of_lt (Nat.lt_of_lt_of_le (Heap.lt_size e) hCs)
  have u:Un (frs X.stack) fp H2 H' s2.heap s'.heap:=J.base
  refine I.call' (s':={ s' with heap:=h' }) (ch:=fp) J.os ?_ ?_ J.bare fun b hb=>?_
  · refine ⟨fun b o e n h1 h2=>k b o (old b o e) (u.keep b o e n h1 h2),fun b o e n h1 h2=>?_,u.free,fun b o e h1=>?_,u.tups,u.frzs,u.tbls⟩
    · obtain ⟨sl,q⟩:=u.slot b o e n h1 h2
      exact ⟨sl,k b _ (old b o e) q⟩
    · obtain ⟨o',q⟩:=u.there b o e h1
      exact ⟨o',k b o' (old b o e) q⟩
  · intro b o e
    refine (J.hok b o e).stay (fun c v hc q=>k c v ?_ q) (fun _ q=>q) fun _ _ q=>q
    rintro rfl
    rcases hc with z | z
    · subst z; rw [hC] at e; cases e
    · rw [hC] at z; cases z
  · obtain ⟨f0,f1,f2,f3,f4,f5⟩:=hf b hb
    exact ⟨f3,f1,f4,f5⟩
end
section
variable {prog:Program} {w:World} {A:Around} {R:Result→Shared→Prop} {s:Shared}
theorem kB {elt target iter:Expr} {ifs:List Expr} {scope:Scope} {pos:Pos} {it acc:Value} {env:Env} (I:Nat→Shared→Prop)
    (turn:∀ n s,I n s→wpAny (model prog w) A (pyNext it) (fun r s₁=>match r with
      | none=>R (.ok .next) s₁
      | some v=>wpAny (model prog w) A (letOwnedTupleGo target it v) (fun _ s1'=>wpAny (model prog w) A (assign target env v) (fun _ s₂ =>
          wpAny (model prog w) A (forIn ifs true fun c r=>if r=true then do let ok ← isTrue c env (eval c env); pure (ForInStep.yield ok) else pure (ForInStep.yield r)) (fun ok s₃ =>
            if ok=true then wpAny (model prog w) A (eval elt env) (fun x s₄ =>
              wpAny (model prog w) A (call (.builtin "list.append") [acc,x]) (fun _ s₅=>∃ m,m < n∧I m s₅) (fun _ _=>False) s₄) (fun _ _=>False) s₃
            else ∃ m,m < n∧I m s₃) (fun _ _=>False) s₂) (fun _ _=>False) s1') (fun _ _=>False) s₁) (fun _ _=>False) s)
    (n:Nat) (h:I n s) :
    codeAny (model prog w) A (.compLoop (.ListComp elt [⟨target,iter,ifs,0⟩] scope pos) 0 it acc env) R s:=by
  refine codeAny_loop rfl I (fun n s hI=>?_) n h
  show wpAny _ A ((compTurn (.ListComp elt [⟨target,iter,ifs,0⟩] scope pos) 0 it acc env).onRaise (fun x=>do noteFrame x env; theTreesLotGoes x)) _ _ s
  refine wpAny_noted ?_
  rw [compTurn_list]
  refine wpAny_bind (wpAny_standAt (wpAny_bind (wpAny_mono (turn n s hI) (fun r s₁ h₁=>?_) fun _ _ h'=>h'.elim)))
  cases r with
  | none=>exact wpAny_pure h₁
  | some v =>
    refine wpAny_bind (wpAny_mono h₁ (fun _ s1' h1'=>?_) fun _ _ h'=>h'.elim)
    refine wpAny_bind (wpAny_mono h1' (fun _ s₂ h₂=>wpAny_bind (wpAny_mono h₂ (fun ok s₃ h₃=>?_) fun _ _ h'=>h'.elim)) fun _ _ h'=>h'.elim)
    cases ok with
    | false=>exact wpAny_pure ⟨rfl,h₃⟩
    | true =>
      exact wpAny_bind (wpAny_bind (wpAny_mono h₃ (fun x s₄ h₄=>wpAny_bind (wpAny_mono h₄ (fun _ s₅ h₅=>wpAny_pure (wpAny_pure ⟨rfl,h₅⟩)) fun _ _ h'=>h'.elim)) fun _ _ h'=>h'.elim))
end
noncomputable def vC:TT:=fun _ H Q=>Q true H
inductive PTs (X:Cx):List Expr→TT→Prop
  | nil:PTs X [] vC
  | one {c:Expr} {t:TT} (h:PT X c t):PTs X [c] t
theorem PTs.run {X:Cx} {ifs:List Expr} {t:TT} (h:PTs X ifs t) {pins:List (Addr × Obj)} {s:Shared} {σ:St} {H:Hp} {Q:Bool→Hp→Prop} (I:Inv X pins σ H s) (q:t σ H Q) :
    wpAny (model X.prog X.w) X.A (forIn ifs true fun c r=>if r=true then do let ok ← isTrue c X.env (eval c X.env); pure (ForInStep.yield ok) else pure (ForInStep.yield r)) (TP X pins σ Q) X.xe s:=by
  cases h with
  | nil=>exact wpAny_tests_nil ⟨H,I,q⟩
  | one h=>exact wpAny_tests_one (h pins s σ H Q I q)
noncomputable def LCR (J:It) (n:Nat) (g:TG) (tt:TT) (te:TE) (σ:St) (H1:Hp) (Q:VK):Prop:=∀ D,H1 D=none→∃ W:Nat→Nat→List V→Hp→Prop,(∃ m,W 0 m [] (upd H1 D (.lst []))) ∧
  ∀ i m ys H,W i m ys H→H D=some (.lst ys)∧((J.stop i H∧Q (.ref D) H)∨(J.go i H∧∀ x H' σ',σ'.length=n→J.yld i H x H'→g x (σ++σ') H' fun σ2 H2=>tt σ2 H2 fun b H3 =>
    if b=true then te σ2 H3 fun v H4=>H4 D=some (.lst ys)∧ys.length < sizeLine∧(∃ σ'',σ2=σ++σ''∧σ''.length=n)∧∃ m',m' < m∧W (i + 1) m' (ys++[v]) (upd H4 D (.lst (ys++[v])))
    else (∃ σ'',σ2=σ++σ''∧σ''.length=n)∧∃ m',m' < m∧W (i + 1) m' ys H3))
noncomputable def tLC (n:Nat) (wi:TI) (g:TG) (tt:TT) (te:TE):TE:=fun σ H Q=>wi σ H fun J H1=>LCR J n g tt te σ H1 Q
theorem ni {X:Cx} {M:List Str} {elt tg iter:Expr} {ifs:List Expr} {scope:Scope} {pos cpos:Pos} {own:List Str} {wi:TI} {g:TG} {tt:TT} {te:TE} {use:Option (Value→Sem Unit)} {Qf:Value→Shared→Prop} (hc:X.calm=true) (hi:PI X tg iter wi)
    (hg:∀ C s2 H2 fp,PG (blk X M scope own C s2 H2 fp) tg g) (ht:∀ C s2 H2 fp,PTs (blk X M scope own C s2 H2 fp) ifs tt) (he:∀ C s2 H2 fp,PE (blk X M scope own C s2 H2 fp) elt te)
    (hB:me X.N M X.env.scope scope own=true) (hs:∀ x,foldedSetIterable iter X.env x=pure x) {pins:List (Addr × Obj)} {s:Shared} {σ:St} {H:Hp} {Q:VK} (I:Inv X pins σ H s) (h:tLC own.length wi g tt te σ H Q)
    (fin:∀ (C D:Addr) (s5:Shared) (H4:Hp),(∀ h',Heap.SameBut C s5.heap h'→Inv X pins σ H4 { s5 with heap:=h' })→(∃ m,s5.heap.Ns C m)→H4 C=none→C≠X.env.locals→(∀ x c,X.env.cells.lookup x=some c→c≠C)→(∀ p∈X.pn++pins,p.1≠C)→X.s₀.heap.objs.size≤C→Q (.ref D) H4 →
      compPost (model X.prog X.w) X.A X.xe use Qf (.ref D) C (.ok .next) s5) :
    wpAny (model X.prog X.w) X.A (comprehension (.ListComp elt [⟨tg,iter,ifs,0⟩] scope pos) scope X.env cpos (newList []) false (eval iter X.env) use) Qf X.xe s:=by
  have B:fI X M scope own:=fI.of hB
  have hclos:closureFor scope X.env=pure (iO scope.names X.env.cells []):=iL fun y hy hf=>by
    obtain ⟨hv,hnl⟩:=B.free y hy hf
    have hh:X.env.kindOf y.1=some .cell∨X.env.kindOf y.1=some .free:=by
      rcases hv with z | z | z
      · exact absurd z hnl
      · exact .inl z
      · exact .inr z
    exact I.ok.has y.1 hh
  refine wpAny_comprehension_free (use:=use) rfl hs hclos B.kind B.names (thn (hi pins s σ H _ I h) fun v s1 h1=>thn h1 fun itv s2 h2=>?_)
  obtain ⟨it,fp,tn,J,H2,e,I2,T,st2,f2,hD⟩:=h2
  subst e
  have ffs:∀ b∈fp,b < s2.heap.objs.size:=fun b hb=>by
    obtain ⟨o,q,_⟩:=T.obj _ _ st2 b hb
    exact Heap.lt_size q
  obtain ⟨W,⟨m0,w0⟩,turn⟩:=hD s2.heap.objs.size (I2.hok.fresh (Nat.le_refl _))
  refine wpAny_newObj_type (wpAny_newFunctionEnv B.nocell (by intro y hy; simp at hy) (fun h₁ hns₁ hsb₁=>?_) B.kind)
  dsimp only at hns₁ hsb₁ ⊢
  generalize hG:s2.heap.push { cls:=.type "list",dict:=none,data:=.seq ([]:List Value).toArray }=G at hns₁ hsb₁ ⊢
  have hC:G.objs.size=s2.heap.objs.size + 1:=by rw [← hG,Heap.size_push]
  have hk:∀ b o,s2.heap.get? b=some o→h₁.get? b=some o:=fun b o e=>hsb₁.extBut b o (by
    rw [hC]; exact Nat.ne_of_lt (Nat.lt_succ_of_lt (Heap.lt_size e))) (Heap.get?_push_of_some _ (hG ▸ Heap.get?_push_of_some _ e))
  have hDC:s2.heap.objs.size≠G.objs.size:=by rw [hC]; exact Nat.ne_of_lt (Nat.lt_succ_self _)
  have hl:h₁.get? s2.heap.objs.size=some { cls:=.type "list",data:=.seq ([]:List Value).toArray 0 }:=hsb₁.extBut _ _ hDC (Heap.get?_push_of_some _ (hG ▸ Heap.get?_push_size _ rfl))
  have hns:h₁.Ns G.objs.size (fun _=>none):=by
    have e:(fun x=>([]:List (Str × Value)).reverse.lookup x)=fun _=>none:=by funext x; rfl
    rw [← e]; exact hns₁
  have I3:=fun t'=>I2.blk (t':=t') (C:=G.objs.size) (D:=s2.heap.objs.size) B f2 ffs rfl hC hl hns hk
  have stat:∀ {H':Hp},(∀ b∈fp,H' b=none)→∀ b∈fp,jc (blk X M scope own G.objs.size s2 H2 fp) [] H' b:=fun hn b hb=>by
    refine ⟨hn b hb,?_,?_,.inl hb,fun x c e z=>?_,fun p hp=>absurd (show p∈([]:List (Addr × Obj))++[] from hp) (by simp)⟩
    · show b≠G.objs.size
      rw [hC]; exact Nat.ne_of_lt (Nat.lt_succ_of_lt (ffs b hb))
    · exact (I3 0).ok.exfs b hb
    · exact ((I3 0).ok.exf b hb).2 x c e z
  have loop:∀ s3:Shared,(∃ t',s3={ s2 with heap:=h₁,toks:=t' })→codeAny (model X.prog X.w) X.A (.compLoop (.ListComp elt [⟨tg,iter,ifs,0⟩] scope pos) 0 (.ref it) (.ref s2.heap.objs.size) (compEnvC scope (iO scope.names X.env.cells []) G.objs.size X.env))
      (compPost (model X.prog X.w) X.A X.xe use Qf (.ref s2.heap.objs.size) G.objs.size) s3:=by
    rintro s3 ⟨t',rfl⟩
    refine kB (fun n s'=>∃ i ys σ' H',σ'.length=own.length∧Inv (blk X M scope own G.objs.size s2 H2 fp) [] (σ++σ') H' s'∧tn i s'.heap∧(∀ b∈fp,H' b=none)∧W i n ys H') ?_ m0
      ⟨0,[],_,_,by simp,I3 t',T.keep _ _ _ st2 fun b hb o e=>hk b o e,fun b hb=>by rw [aQ (Nat.ne_of_lt (ffs b hb))]; exact (f2 b hb).1,w0⟩
    rintro n s4 ⟨i,ys,σ',H4,hl',I4,st4,fr4,w4⟩
    obtain ⟨hDl,alt⟩:=turn i n ys H4 w4
    rcases alt with ⟨stop,qn⟩ | ⟨go,step⟩
    · refine thn (T.done (blk X M scope own G.objs.size s2 H2 fp) rfl rfl rfl hc i [] s4 _ H4 _ I4 (stat fr4) st4 stop) fun r s5 ⟨hr,I5⟩=>?_
      subst hr
      obtain ⟨m,hn,_⟩:=I5.loc
      have cS:s2.heap.objs.size≤G.objs.size:=by rw [hC]; exact Nat.le_succ _
      refine fin G.objs.size s2.heap.objs.size s5 H4 (fun h' hs'=>I2.unblk (C:=G.objs.size) f2 cS I5 hs') ⟨m,hn⟩ I5.free ?_ (fun x c e=>?_) (fun p hp=>?_) (Nat.le_trans I2.sz cS) qn
      · obtain ⟨_,hl0,_⟩:=I2.loc
        exact Nat.ne_of_gt (Nat.lt_of_lt_of_le hl0.lt cS)
      · obtain ⟨_,q⟩:=I2.cell x c e
        exact Nat.ne_of_lt (Nat.lt_of_lt_of_le q.lt cS)
      · exact Nat.ne_of_lt (Nat.lt_of_lt_of_le (Heap.lt_size (I2.pin p hp).1) cS)
    · refine thn (T.item (blk X M scope own G.objs.size s2 H2 fp) rfl rfl rfl hc i [] s4 _ H4 _ I4 (stat fr4) st4 go) fun r s5 ⟨u,hr,h5⟩=>?_
      subst hr
      refine thn h5 fun _ s6 ⟨x,H6,I6,r6,y6,st6,fr6⟩=>?_
      have I6':=I6.pinned (stat fr6) (T.obj _ _ st6)
      have kp:∀ {σ7:St} {H7:Hp} {s7:Shared},Inv (blk X M scope own G.objs.size s2 H2 fp) ([]++i9 fp s6.heap) σ7 H7 s7→tn (i + 1) s7.heap∧∀ b∈fp,H7 b=none:=fun {σ7 H7 s7} I7=>by
        refine ⟨T.keep _ _ _ st6 fun b hb o e=>(I7.pin (b,o) (List.mem_append_right _ (List.mem_append_right _ (eZ hb e)))).1,fun b hb=>?_⟩
        obtain ⟨o,e,d⟩:=T.obj _ _ st6 b hb
        exact (I7.pin (b,o) (List.mem_append_right _ (List.mem_append_right _ (eZ hb e)))).2.1
      refine thn (hg _ _ _ _ _ s6 _ H6 x u _ I6' r6 (step x H6 σ' hl' y6)) fun _ s7 ⟨σ7,H7,I7,q7⟩=>?_
      refine thn ((ht _ _ _ _).run I7 q7) fun ok s8 ⟨H8,I8,q8⟩=>?_
      cases ok with
      | false =>
        obtain ⟨⟨σ'',e,l''⟩,m',hm,w8⟩:=(show if false=true then _ else _ from q8)
        subst e
        obtain ⟨k1,k2⟩:=kp I8
        exact ⟨m',hm,i + 1,ys,σ'',H8,l'',I8.unpinned,k1,k2,w8⟩
      | true =>
        have q8:te σ7 H8 _:=q8
        refine thn (he _ _ _ _ _ s8 σ7 H8 _ I8 q8) fun y s9 ⟨v,H9,I9,r9,d9,z9,⟨σ'',e,l''⟩,m',hm,w9⟩=>?_
        subst e
        refine thn (hX (X:=blk X M scope own G.objs.size s2 H2 fp) _ s9 _ H9 (.ref s2.heap.objs.size) [v] (.ref s2.heap.objs.size) [y] (fun _ H'=>H'=upd H9 s2.heap.objs.size (.lst (ys++[v]))) I9 rfl (.cons r9 .nil) ⟨_,ys,v,rfl,rfl,d9,z9,rfl⟩) fun _ s10 ⟨_,H10,I10,_,e10⟩=>?_
        subst e10
        obtain ⟨k1,k2⟩:=kp I10
        exact ⟨m',hm,i + 1,ys++[v],σ'',_,l'',I10.unpinned,k1,k2,w9⟩
  exact codeAny_compStart_list (loop _ ⟨_,rfl⟩) (T.self _ 0 _ _ _ (T.keep _ _ _ st2 fun b hb o e=>hk b o e) (loop _ ⟨_,rfl⟩))
theorem qp {X:Cx} {M:List Str} {elt tg iter:Expr} {ifs:List Expr} {scope:Scope} {pos:Pos} {own:List Str} {wi:TI} {g:TG} {tt:TT} {te:TE} (hc:X.calm=true) (hi:PI X tg iter wi)
    (hg:∀ C s2 H2 fp,PG (blk X M scope own C s2 H2 fp) tg g) (ht:∀ C s2 H2 fp,PTs (blk X M scope own C s2 H2 fp) ifs tt) (he:∀ C s2 H2 fp,PE (blk X M scope own C s2 H2 fp) elt te)
    (hB:me X.N M X.env.scope scope own=true:=by rfl) (hs:∀ x,foldedSetIterable iter X.env x=pure x:=by intro _; rfl):PE X (.ListComp elt [⟨tg,iter,ifs,0⟩] scope pos) (tLC own.length wi g tt te):=by
  intro pins s σ H Q I h
  rw [eval_ListComp]
  refine ni hc hi hg ht he hB hs I h fun C D s5 H4 k ⟨m,hn⟩ _ _ _ _ _ q=>?_
  exact ⟨m,hn,fun h' hs'=>⟨.ref D,H4,k h' hs',rfl,q⟩⟩
end L2
set_option maxRecDepth 100000
set_option maxHeartbeats 4000000
namespace L2
open PySem PySem.Spec PyProof.Rows
mutual
noncomputable def IsD (K:PySem.W.Frag) (H:Hp):PyData→V→Prop
  | .none,v=>v=.non
  | .bool b,v=>v=.bl b
  | .int i,v=>v=.int i
  | .str x,v=>v=.str x
  | .list ds,v=>∃ a xs,v=.ref a∧SqL K H a xs∧cK K H ds xs
  | .tuple ds,v=>∃ a xs,v=.ref a∧SqT K H a xs∧cK K H ds xs
  | .dict _,_=>False
noncomputable def cK (K:PySem.W.Frag) (H:Hp):List PyData→List V→Prop
  | [],vs=>vs=[]
  | d::ds,vs=>∃ v r,vs=v::r∧IsD K H d v∧cK K H ds r
end
theorem av.tupS {K:PySem.W.Frag} {H H':Hp} {a:Addr} {xs:List V} (e:av H H') (h:SqT K H a xs):SqT K H' a xs:=by
  rcases h with (h | ⟨o,h⟩) | h
  · exact .inl (.inl (e _ _ h))
  · exact .inl (.inr ⟨o,e _ _ h⟩)
  · exact .inr h
mutual
theorem IsD.same {K:PySem.W.Frag} {H H':Hp} (e:av H H'):∀ {d:PyData} {v:V},IsD K H d v→IsD K H' d v
  | .none,_,h=>by unfold IsD at h ⊢; exact h
  | .bool _,_,h=>by unfold IsD at h ⊢; exact h
  | .int _,_,h=>by unfold IsD at h ⊢; exact h
  | .str _,_,h=>by unfold IsD at h ⊢; exact h
  | .list ds,_,h=>by
    unfold IsD at h ⊢
    obtain ⟨a,xs,e1,h1,h2⟩:=h
    exact ⟨a,xs,e1,e.seq h1,cK.same e h2⟩
  | .tuple ds,_,h=>by
    unfold IsD at h ⊢
    obtain ⟨a,xs,e1,h1,h2⟩:=h
    exact ⟨a,xs,e1,e.tupS h1,cK.same e h2⟩
  | .dict _,_,h=>by unfold IsD at h; exact h.elim
theorem cK.same {K:PySem.W.Frag} {H H':Hp} (e:av H H'):∀ {ds:List PyData} {vs:List V},cK K H ds vs→cK K H' ds vs
  | [],_,h=>by unfold cK at h ⊢; exact h
  | d::ds,_,h=>by
    unfold cK at h ⊢
    obtain ⟨v,r,e1,h1,h2⟩:=h
    exact ⟨v,r,e1,IsD.same e h1,cK.same e h2⟩
end
section
variable {K:PySem.W.Frag} {H:Hp}
theorem kX {i:Int}:IsD K H (.int i) (.int i):=by unfold IsD; rfl
theorem rB {b:Bool}:IsD K H (.bool b) (.bl b):=by unfold IsD; rfl
theorem rq:IsD K H .none .non:=by unfold IsD; rfl
theorem td {x:Str}:IsD K H (.str x) (.str x):=by unfold IsD; rfl
theorem tI {ds:List PyData} {a:Addr} {xs:List V} (h:SqT K H a xs) (h2:cK K H ds xs):IsD K H (.tuple ds) (.ref a):=by unfold IsD; exact ⟨a,xs,rfl,h,h2⟩
theorem kY {ds:List PyData} {a:Addr} {xs:List V} (h:SqL K H a xs) (h2:cK K H ds xs):IsD K H (.list ds) (.ref a):=by unfold IsD; exact ⟨a,xs,rfl,h,h2⟩
theorem jd:cK K H [] []:=by unfold cK; rfl
theorem kg {d:PyData} {ds:List PyData} {v:V} {vs:List V} (h:IsD K H d v) (h2:cK K H ds vs):cK K H (d::ds) (v::vs):=by unfold cK; exact ⟨v,vs,rfl,h,h2⟩
theorem IsD.ofInt {i:Int} {v:V} (h:IsD K H (.int i) v):v=.int i:=by unfold IsD at h; exact h
theorem IsD.ofBool {i:Bool} {v:V} (h:IsD K H (.bool i) v):v=.bl i:=by unfold IsD at h; exact h
theorem IsD.ofNone {v:V} (h:IsD K H .none v):v=.non:=by unfold IsD at h; exact h
theorem IsD.ofStr {x:Str} {v:V} (h:IsD K H (.str x) v):v=.str x:=by unfold IsD at h; exact h
theorem IsD.ofTup {ds:List PyData} {v:V} (h:IsD K H (.tuple ds) v):∃ a xs,v=.ref a∧SqT K H a xs∧cK K H ds xs:=by unfold IsD at h; exact h
theorem IsD.ofLst {ds:List PyData} {v:V} (h:IsD K H (.list ds) v):∃ a xs,v=.ref a∧SqL K H a xs∧cK K H ds xs:=by unfold IsD at h; exact h
theorem cK.nil_of {vs:List V} (h:cK K H [] vs):vs=[]:=by unfold cK at h; exact h
theorem cK.cons_of {d:PyData} {ds:List PyData} {vs:List V} (h:cK K H (d::ds) vs):∃ v r,vs=v::r∧IsD K H d v∧cK K H ds r:=by unfold cK at h; exact h
theorem kj:∀ (ns:List Int),cK K H (ns.map PyData.int) (ns.map V.int)
  | []=>jd
  | _::r=>kg kX (kj r)
end
section
variable {X:Cx} {pins:List (Addr × Obj)} {σ:St} {H:Hp} {s:Shared}
mutual
theorem Inv.reads (I:Inv X pins σ H s):∀ {d:PyData} {v:V} {u:Value},IsD X.K H d v→RelV v u→∃ as,Reads s.heap u d as
  | .none,_,_,h,r=>by rw [h.ofNone] at r; cases r; exact ⟨_,.none⟩
  | .bool _,_,_,h,r=>by rw [h.ofBool] at r; cases r; exact ⟨_,.bool _⟩
  | .int _,_,_,h,r=>by rw [h.ofInt] at r; obtain ⟨t,rfl⟩:=r; exact ⟨_,.int _ _⟩
  | .str _,_,_,h,r=>by rw [h.ofStr] at r; obtain ⟨t,rfl⟩:=r; exact ⟨_,.str _ _⟩
  | .list ds,_,_,h,r=>by
    obtain ⟨a,xs,e,h1,h2⟩:=h.ofLst
    subst e; cases r
    obtain ⟨its,rv,⟨o,n,g,c,_,d⟩,_⟩:=I.list h1
    obtain ⟨as,ra⟩:=Inv.readsAll I h2 rv
    exact ⟨_,.list g c d (by simpa using ra)⟩
  | .tuple ds,_,_,h,r=>by
    obtain ⟨a,xs,e,h1,h2⟩:=h.ofTup
    subst e; cases r
    obtain ⟨its,rv,⟨o,g,c,n,d⟩,_⟩:=I.tuple h1
    obtain ⟨as,ra⟩:=Inv.readsAll I h2 rv
    exact ⟨_,.tuple g c d (by simpa using ra)⟩
  | .dict _,_,_,h,_=>by unfold IsD at h; exact h.elim
theorem Inv.readsAll (I:Inv X pins σ H s):∀ {ds:List PyData} {vs:List V} {us:List Value},cK X.K H ds vs→Vals vs us→∃ as,ReadsAll s.heap us ds as
  | [],_,_,h,r=>by
    rw [h.nil_of] at r
    cases r
    exact ⟨_,.nil⟩
  | d::ds,_,_,h,r=>by
    obtain ⟨v,t,e,h1,h2⟩:=h.cons_of
    subst e
    cases r with
    | cons r1 r2 =>
      obtain ⟨as,q1⟩:=Inv.reads I h1 r1
      obtain ⟨bs,q2⟩:=Inv.readsAll I h2 r2
      exact ⟨_,.cons q1 q2⟩
end
open PySem.SeqAt in
theorem nr (hu:X.A.units + 64 < cLine):OpR X (compareOp .Eq) (fun x y H Q=>∃ d e,IsD X.K H d x∧IsD X.K H e y∧shaped d=true∧shaped e=true∧Q (.bl (PyData.eqv d e)) H):=by
  intro pins s σ H x y v u Q I rx ry h
  obtain ⟨d,e,hd,he,sd,se,q⟩:=h
  obtain ⟨as,ra⟩:=I.reads hd rx
  obtain ⟨bs,rb⟩:=I.reads he ry
  exact eq_dataH ra rb sd se hu ⟨.bl _,H,I,rfl,q⟩
open PySem.SeqAt in
theorem uS (hu:X.A.units + 64 < cLine):OpR X (compareOp .NotEq) (fun x y H Q=>∃ d e,IsD X.K H d x∧IsD X.K H e y∧shaped d=true∧shaped e=true∧Q (.bl (!PyData.eqv d e)) H):=by
  intro pins s σ H x y v u Q I rx ry h
  obtain ⟨d,e,hd,he,sd,se,q⟩:=h
  obtain ⟨as,ra⟩:=I.reads hd rx
  obtain ⟨bs,rb⟩:=I.reads he ry
  exact ne_dataH ra rb sd se hu ⟨.bl _,H,I,rfl,q⟩
noncomputable def tyD:PyData→String
  | .none=>"NoneType"
  | .bool _=>"bool"
  | .int _=>"int"
  | .str _=>"str"
  | .list _=>"list"
  | .tuple _=>"tuple"
  | .dict _=>"dict"
noncomputable def kD (d:PyData) (T:String):Bool:=tyD d == T || (T == "int" && tyD d == "bool")
theorem si (K:PySem.W.Frag) {a T:String} (ha:a∈["NoneType", "bool", "int", "str", "list", "tuple"]) (hT:T∈["bool", "int", "list", "tuple"]) :
    PySem.W.kitOne K (.type a) (.type T)=some (a == T || (T == "int" && a == "bool")):=by
  simp only [List.mem_cons,List.not_mem_nil,or_false] at ha hT
  rcases ha with rfl | rfl | rfl | rfl | rfl | rfl <;> rcases hT with rfl | rfl | rfl | rfl <;> rfl
theorem sv {H:Hp} {K:PySem.W.Frag} {d:PyData} {v:V} (h:IsD K H d v):tyD d∈["NoneType", "bool", "int", "str", "list", "tuple"]:=by
  cases d with
  | dict _=>unfold IsD at h; exact h.elim
  | _=>simp [tyD]
theorem my:fo X (.builtin "isinstance") (fun xs H Q=>∃ d v T,xs=[v,.ty T]∧IsD X.K H d v∧T∈["bool", "int", "list", "tuple"]∧Q (.bl (kD d T)) H):=by
  intro pins s σ H xs us Q I r h
  obtain ⟨d,v,T,rfl,hd,hT,q⟩:=h
  obtain ⟨u,c,rfl,r1,r2⟩:=vals2 r
  cases r2
  have e:PySem.W.kitOne X.K (.type (tyD d)) (.type T)=some (kD d T):=si X.K (sv hd) hT
  have fin:∀ tk,EP X pins σ Q (.bool (kD d T)) { s with toks:=tk }:=fun tk=>⟨.bl _,H,I.tok tk,rfl,q⟩
  cases d with
  | none=>rw [hd.ofNone] at r1; cases r1; exact PySem.W.kia_one PySem.W.kitx_none I.kIn True.intro e (fun z=>nomatch z) fin
  | bool b=>rw [hd.ofBool] at r1; cases r1; exact PySem.W.kia_one PySem.W.kitx_bool I.kIn True.intro e (fun z=>nomatch z) fin
  | int i=>rw [hd.ofInt] at r1; obtain ⟨t,rfl⟩:=r1; exact PySem.W.kia_one PySem.W.kitx_int I.kIn True.intro e (fun z=>nomatch z) fin
  | str x=>rw [hd.ofStr] at r1; obtain ⟨t,rfl⟩:=r1; exact PySem.W.kia_one PySem.W.kitx_str I.kIn True.intro e (fun z=>nomatch z) fin
  | list ds =>
    obtain ⟨a,xs,e1,h1,h2⟩:=hd.ofLst
    subst e1; cases r1
    obtain ⟨its,rv,⟨o,n,g,c,_,_⟩,_⟩:=I.list h1
    exact PySem.W.kia_one PySem.W.kitx_list I.kIn ⟨o,g,c⟩ e (fun z=>nomatch z) fin
  | tuple ds =>
    obtain ⟨a,xs,e1,h1,h2⟩:=hd.ofTup
    subst e1; cases r1
    obtain ⟨its,rv,⟨o,g,c,n,_⟩,_⟩:=I.tuple h1
    exact PySem.W.kia_one PySem.W.kitx_tuple I.kIn ⟨o,g,c⟩ e (fun z=>nomatch z) fin
  | dict _=>unfold IsD at hd; exact hd.elim
theorem ji:∀ {bs:List Bool} {us:List Value},Vals (bs.map V.bl) us→LSm.BoolsAre us bs
  | [],_,.nil=>.nil
  | b::r,_,.cons h t=>by
    cases (show _=Value.bool b from h)
    exact .cons b (ji t)
theorem qP (hc:X.calm=true):fo X (.builtin "all") (fun xs H Q=>∃ (a:Addr) (bs:List Bool),xs=[.ref a]∧SqL X.K H a (bs.map V.bl)∧Q (.bl (bs.all id)) H):=by
  intro pins s σ H xs us Q I r h
  obtain ⟨a,bs,rfl,hS,q⟩:=h
  obtain ⟨u,rfl,r1⟩:=vals1 r
  cases r1
  obtain ⟨its,rv,p,_⟩:=I.list hS
  have hl:=p.isList
  have hb:=ji rv
  have hlt:a < s.heap.objs.size:=by obtain ⟨_,e,_⟩:=hl; exact Heap.lt_size e
  refine call_all_walk (wpAny_pyIter_list hl ?_)
  refine ⟨s.heap.objs.size,[s.heap.objs.size,a],[s.heap.objs.size],its.toArray.size,_,_,fun i=>(bs[i]?).getD true,rfl,Walks.list (A:=X.A.in1) (I.ok.hd hc) _ a (Nat.ne_of_lt hlt) its.toArray,
    ⟨⟨_,Heap.get?_push_size _ rfl,rfl,rfl⟩,hl.push _⟩,fun i v s' Q' E' hP hQ=>?_,fun h' tk hk=>?_⟩
  · obtain ⟨b,e,rfl⟩:=hb.get i v (by simpa using hP)
    simp only [e,Option.getD_some] at hQ
    exact wpAny_truthy_bool hQ
  · have e:((List.range its.toArray.size).all fun i=>(bs[i]?).getD true)=bs.all id:=by
      rw [List.size_toArray,hb.length]; exact LSm.range_all bs
    rw [e]
    exact ⟨.bl _,H,I.kept (LSm.kept_iter hk),rfl,q⟩
end
end L2
set_option maxRecDepth 100000
set_option maxHeartbeats 4000000
namespace L2
open PySem PySem.Spec PyProof.Rows
structure o5 (P:Program) (w:World) (outer:List Env) (H:Hp) (s:Shared) (H':Hp) (B:Heap) (ea:Addr) (cls a0:Value) (s':Shared):Prop where
  os:s'.os=s.os
  bare:AllBare s'.gens
  hok:HOk P w H' B
  keep:∀ b o,s.heap.get? b=some o→H b=none→b ∉ frs outer→B.get? b=some o
  there:∀ b o,s.heap.get? b=some o→b ∉ frs outer→∃ o',B.get? b=some o'
  slot:∀ b o,s.heap.get? b=some o→b∈frs outer→∃ sl,s'.heap.get? b=some { o with slots:=sl }
  free:∀ b o,s.heap.get? b=some o→H b=none→H' b=none
  tups:∀ b xs,H b=some (.tup xs)→H' b=some (.tup xs)
  frzs:∀ b o u,H b=some (.frz o u)→H' b=some (.frz o u)
  tbls:∀ b q,H b=some (.tbl q)→H' b=some (.tbl q)
  fly:Heap.FlyingW B outer ea cls a0 s'.heap
noncomputable def CXW (P:Program) (w:World):CXT:=fun outer H s E e s'=>∃ ea cls a0 H' B,e=.ref ea∧E cls none H'∧o5 P w outer H s H' B ea cls a0 s'
theorem cF.get {P:Program} {w:World} {H:Hp} {h:Heap} {a:Addr} {o:HO} (x:cF P w H h a o):∃ ob,h.get? a=some ob:=by
  cases o with
  | lst xs=>obtain ⟨_,_,_,_,e⟩:=x; exact ⟨_,e⟩
  | tup xs=>obtain ⟨_,_,_,ob,e,_⟩:=x; exact ⟨_,e⟩
  | dK kvs=>obtain ⟨_,_,_,_,o,_,_,e,_⟩:=x; exact ⟨_,e⟩
  | dT kvs=>obtain ⟨_,_,_,_,o,_,_,e,_⟩:=x; exact ⟨_,e⟩
  | set S n=>obtain ⟨o,_,_,_,e,_⟩:=x; exact ⟨_,e⟩
  | ins C dx fs=>obtain ⟨_,_,_,e,_⟩:=x; exact ⟨_,e⟩
  | own y=>exact x
  | xd fs=>obtain ⟨_,⟨_,_,_,e,_⟩,_⟩:=x; exact ⟨_,e⟩
  | rng lo hi=>obtain ⟨_,_,_,e⟩:=x; exact ⟨_,e⟩
  | frz ob u=>obtain ⟨e,_⟩:=x; exact ⟨_,e⟩
  | tbl q=>obtain ⟨_,e,_⟩:=x; exact ⟨_,e⟩
  | met f y=>exact ⟨_,show h.get? a=some _ from x⟩
  | ext φ=>obtain ⟨_,e,_⟩:=x; exact e
section
variable {P:Program} {w:World} {K:PySem.W.Frag} {mg:Str→Option Value} {base:Heap} {N:List Str} {qual:Str} {scope:Scope} {f:Addr} {cd:Value} {A:Around} {outer:List Env} {s:Shared} {H:Hp} {E:XK}
theorem gM {env:Env} {L:Addr} (hf:env.frame=some L):frs (env::outer)=L::frs outer:=by
  unfold frs
  rw [List.filterMap_cons,hf]
theorem l5 {CX:CXT} {pins:List (Addr × Obj)} {σ:St} {H1:Hp} {s1:Shared} {h':Heap} {ea:Addr} {cls:Value} {vs:List Value}
    (I:Inv (eC (CXW P w) P w K mg base N qual scope f cd A outer s H E) pins σ H1 s1) (hx:Heap.MadeExcOf s1.heap h' ea cls vs) (hE:E cls none H1) :
    (eC (CXW P w) P w K mg base N qual scope f cd A outer s H E).xe (.ref ea) { s1 with heap:=h' }:=by
  have hst:=I.stack
  have hfs:frs (eC (CXW P w) P w K mg base N qual scope f cd A outer s H E).stack=s.heap.objs.size::frs outer:=gM rfl
  have hin:∀ env∈(eC (CXW P w) P w K mg base N qual scope f cd A outer s H E).stack,∀ b,env.frame=some b→b∈frs (eC (CXW P w) P w K mg base N qual scope f cd A outer s H E).stack:=fun env he b hb=>List.mem_filterMap.mpr ⟨env,he,hb⟩
  have out:∀ b o,s.heap.get? b=some o→b ∉ frs outer→b ∉ frs (eC (CXW P w) P w K mg base N qual scope f cd A outer s H E).stack:=fun b o e n z=>by
    rw [hfs] at z
    rcases List.mem_cons.mp z with z | z
    · rw [z] at e; exact absurd (Heap.lt_size e) (Nat.lt_irrefl _)
    · exact n z
  refine wpAny_leaves_madeW (base:=PySem.W.hideAll s1.heap (frs (eC (CXW P w) P w K mg base N qual scope f cd A outer s H E).stack)) I.ok.frames rfl (fun b o q=>PySem.W.of_hideAll _ q) (PySem.W.funFrames_hide hst hin) hx fun h2 t x1 x2 x3 x4=>?_
  refine ⟨ea,cls,.ref t,H1,_,rfl,hE,⟨I.os,I.bare,?_,?_,?_,?_,?_,I.base.tups,I.base.frzs,I.base.tbls,x1⟩⟩
  · intro a o e
    refine (I.hok a o e).stay (fun b u hb q=>PySem.W.hideAll_get _ q fun z=>?_) (fun _ q=>q) fun _ _ q=>q
    have:=I.stkFree b z
    rcases hb with hb | hb
    · rw [hb,e] at this; cases this
    · rw [hb] at this; cases this
  · intro b o e n hb
    exact PySem.W.hideAll_get _ (I.base.keep b o e n hb (List.not_mem_nil)) (out b o e hb)
  · intro b o e hb
    obtain ⟨o',q⟩:=I.base.there b o e (List.not_mem_nil)
    exact ⟨o',PySem.W.hideAll_get _ q (out b o e hb)⟩
  · intro b o e hb
    obtain ⟨sl,q⟩:=I.base.slot b o e (I.ok.frf b hb) hb (List.not_mem_nil)
    obtain ⟨_,o2,q2,d2⟩:=I.ok.funs.mem hb
    have q2:s.heap.get? b=some o2:=q2
    rw [e] at q2
    cases q2
    obtain ⟨sl2,q3⟩:=x4 b _ (hx.keeps b _ q) d2
    exact ⟨sl2,q3⟩
  · intro b o e n
    exact I.base.free b o e n (List.not_mem_nil)
theorem aS:Passes (CXW P w) (eC (CXW P w) P w K mg base N qual scope f cd A outer s H E) E:=by
  intro pins σ H1 s1 e s2 I hc
  obtain ⟨ea,cls,a0,H2,B,rfl,hE,F⟩:=hc
  have hfs:frs (eC (CXW P w) P w K mg base N qual scope f cd A outer s H E).stack=s.heap.objs.size::frs outer:=gM rfl
  have out:∀ b o,s.heap.get? b=some o→b ∉ frs outer→b ∉ frs (eC (CXW P w) P w K mg base N qual scope f cd A outer s H E).stack:=fun b o e n z=>by
    rw [hfs] at z
    rcases List.mem_cons.mp z with z | z
    · rw [z] at e; exact absurd (Heap.lt_size e) (Nat.lt_irrefl _)
    · exact n z
  refine wpAny_leaves_onW I.ok.frames rfl F.fly fun h2 x1 x2=>⟨ea,cls,a0,H2,B,rfl,hE,⟨F.os.trans I.os,F.bare,F.hok,?_,?_,?_,?_,?_,?_,?_,x1⟩⟩
  · intro b o e n hb
    exact F.keep b o (I.base.keep b o e n hb (List.not_mem_nil)) (I.base.free b o e n (List.not_mem_nil)) (out b o e hb)
  · intro b o e hb
    obtain ⟨o',q⟩:=I.base.there b o e (List.not_mem_nil)
    exact F.there b o' q (out b o e hb)
  · intro b o e hb
    obtain ⟨sl,q⟩:=I.base.slot b o e (I.ok.frf b hb) hb (List.not_mem_nil)
    obtain ⟨_,o2,q2,d2⟩:=I.ok.funs.mem hb
    have q2:s.heap.get? b=some o2:=q2
    rw [e] at q2
    cases q2
    obtain ⟨sl1,q1⟩:=F.slot b _ q (by rw [hfs]; exact List.mem_cons_of_mem _ hb)
    obtain ⟨sl2,q3⟩:=x2 b _ q1 d2
    exact ⟨sl2,q3⟩
  · intro b o e n
    obtain ⟨o',q⟩:=I.base.there b o e (List.not_mem_nil)
    exact F.free b o' q (I.base.free b o e n (List.not_mem_nil))
  · intro b xs e
    exact F.tups b xs (I.base.tups b xs e)
  · intro b o u e
    exact F.frzs b o u (I.base.frzs b o u e)
  · intro b ps e
    exact F.tbls b ps (I.base.tbls b ps e)
end
theorem oI {K:PySem.W.Frag} {h:Heap} {C:Addr} {bmB:List Value} {newId:String} (X:K.In h) (q:PySem.W.excIn K C bmB newId=true) :
    ∃ bm N nm qn bs hdct sn sub ab col dd k0 k1 k2 k3 k5 mN,h.get? C=some (excClassObj nm qn C N bs bm hdct sn sub ab col dd k0 k1 k2 k3 k5 newId)∧h.Ns N mN∧mN "__init__"=none∧OwnTail h bmB bm:=by
  unfold PySem.W.excIn at q
  split at q
  · rename_i d1 c1 l1 g1
    split at q
    · rename_i C2 bm2 j0 j1 j2 j3 n2 j5 hm hs
      simp only [Bool.and_eq_true,beq_iff_eq,Bool.not_eq_true'] at q
      obtain ⟨⟨⟨⟨⟨q1,q2⟩,q3⟩,q4⟩,q5⟩,q6⟩:=q
      subst q1; subst q2
      obtain ⟨z1,z2,z3,z4,z5,z6,z7,z8,z9,z10,z11⟩:=c1
      dsimp only at hm q3 q5 q6
      subst hm; subst q3
      have hl:l1=#[j0,j1,j2,j3,some (.builtin n2),j5]:=by
        obtain ⟨l⟩:=l1
        have hs':l=_:=hs
        rw [hs']
      subst hl
      exact ⟨bm2,z4,z1,z5,z2,z6,z7,z8,z9,z10,d1,j0,j1,j2,j3,j5,_,X _ _ g1,.of_isNs (PySem.W.isNs_of_in X q5),PySem.W.nsMap_none_of_in X q5 q6,PySem.W.tail_of_in X q4⟩
    · cases q
  · cases q
noncomputable def nA (X:Cx) (E:XK):Prop:=∀ (pins:List (Addr × Obj)) (σ:St) (H:Hp) (s:Shared) (h':Heap) (ea:Addr) (cls:Value) (vs:List Value),Inv X pins σ H s→Heap.MadeExcOf s.heap h' ea cls vs→E cls none H→X.xe (.ref ea) { s with heap:=h' }
noncomputable def uc (C:Addr) (E:XK) (t:TA):TS:=fun _ σ H=>t σ H fun vs H1=>vs.length≤sizeLine∧E (.ref C) none H1
theorem ql {X:Cx} {E:XK} {x:Str} {C:Addr} {B newId initId:String} {bm:List Value} {np cpos pos:Pos} {e:Expr} {es:List Expr} {t:TA} (hc:X.calm=true) (M:nA X E) (FB:ExcBaseFacts B newId initId bm) (hg:Gl X x) (hm:X.mg x=some (.ref C)) (hC:PySem.W.excIn X.K C bm newId=true)
    (ha:PA X (e::es) t) (hdb:(x == ("__debug__":Str))=false:=by decide) (he:starEach (e::es) X.env=(false,eval e X.env)::starEach es X.env:=by rfl) (hpl:(backTo cpos (starEach es X.env)).any (·.1)=false:=by rfl) :
    PS X (.Raise (some (.Call (.Name x np) (e::es) [] cpos)) none pos) (uc C E t):=by
  intro pins s σ H D I h
  obtain ⟨tl,N,nm,q,bs,hdct,sn,sub,ab,col,dd,k0,k1,k2,k3,k5,mN,hC0,hN,hni,T⟩:=oI I.mod.kin hC
  refine wpAny_Raise_call_subT (C:=C) (nm:=nm) (q:=q) (N:=N) (bs:=bs) (bm:=tl) (hdct:=hdct) (sn:=sn) (sub:=sub) (ab:=ab) (col:=col) (dd:=dd) (k0:=k0) (k1:=k1) (k2:=k2) (k3:=k3) (k5:=k5)
    FB (mN:=mN) (T.hasType FB.hasBase) (I.ok.hd hc) (by rw [he]; show (false || (backTo cpos (starEach es X.env)).any (·.1))=false; rw [hpl]; rfl) hni (gX I hg hm ⟨rfl,?_⟩ hdb)
  have q0:=ha cpos pins s σ H _ I h
  rw [he] at q0 ⊢
  refine Calls.evalArgs_plain (wpAny_mono q0 (fun us s2 h2=>?_) fun _ _ y=>y)
  obtain ⟨vs,H2,I2,rv,z,hE⟩:=h2
  exact ⟨rfl,by rw [← rv.length]; exact z,I2.bk _ _ hC0,hN.keeps I2.bk,T.keeps I2.bk,fun h' ea hx=>M pins σ H2 s2 h' ea _ _ I2 hx hE⟩
end L2
set_option maxRecDepth 100000
set_option maxHeartbeats 4000000
namespace L2
open PySem PySem.Spec PyProof.Rows
noncomputable def XP (X:Cx) (pins:List (Addr × Obj)) (σ:St) (Ex:XK) (ev:Value) (s':Shared):Prop:=∃ H s,Inv X pins σ H s∧CXW X.prog X.w X.stack H s Ex ev s'
noncomputable abbrev TX:=St→Hp→VK→XK→Prop
noncomputable def PEX (X:Cx) (e:Expr) (t:TX):Prop :=
  ∀ (pins:List (Addr × Obj)) (s:Shared) (σ:St) (H:Hp) (Q:VK) (Ex:XK),Inv X pins σ H s→t σ H Q Ex→wpAny (model X.prog X.w) X.A (eval e X.env) (EP X pins σ Q) (XP X pins σ Ex) s
noncomputable def wc (sp:Sp) (dvs:List V) (t:TA):TX:=fun σ H Q Ex=>t σ H fun vs H1=>sp (vs++dvs) H1 Q Ex
theorem rE {X:Cx} {k:Nat} {f:Addr} {fd:FuncData} {ps:List Str} {sp:Sp} {dvs:List V} {ds:List Value} {x:Str} {p pos:Pos} {e:Expr} {es:List Expr} {t:TA}
    (F:fi X.prog X.w X.K X.mg X.base (CXW X.prog X.w) k f fd ps sp) (hr:cY k X.A) (hg:Gl X x) (hm:X.mg x=some (.ref f)) (hk:PySem.W.keepIn X.K (.ref f)=true) (hb:Binds X.K fd ps ds) (hd:Vals dvs ds)
    (ha:PA X.nox (e::es) t) (hdb:(x == ("__debug__":Str))=false:=by decide) (he:starEach (e::es) X.env=(false,eval e X.env)::starEach es X.env:=by rfl) (hpl:(backTo pos (starEach es X.env)).any (·.1)=false:=by rfl) :
    PEX X (.Call (.Name x p) (e::es) [] pos) (wc sp dvs t):=by
  intro pins s σ H Q Ex I h
  refine wpAny_Call_Name_kw (gX I hg hm ?_ hdb)
  have q0:=ha pos pins s σ H _ (I.wish _) h
  refine PySem.W.callWith_K (h₀:=X.base) I.ok.mod.kin hk (wpAny_mono q0 (fun us s1 h1=>?_) fun _ _ z=>z.elim) he hpl
  obtain ⟨vs,H1,I1,r,q⟩:=h1
  have I1:=I1.unwish
  refine ⟨I1.kIn,?_⟩
  have r2:Vals (vs++dvs) (us++ds):=r.append hd
  have hl:(us++ds).length=ps.length:=by rw [← r2.length]; exact F.len _ _ _ _ q
  refine wpAny_call (codeAny_mono (F.run X.A X.stack s1 H1 ⟨us,[]⟩ (us++ds) (vs++dvs) Q Ex hr I1.env0 (hb s1 us I1.kIn hl) r2 q) fun r s' hq=>?_)
  cases r with
  | error ev=>exact ⟨H1,s1,I1,hq⟩
  | ok fl =>
    cases fl with
    | ret u=>exact I1.after hq
    | next=>exact False.elim hq
    | brk=>exact False.elim hq
    | cont=>exact False.elim hq
noncomputable def sui (X:Cx) (ea:Addr) (oe:Obj):Cx:={ X with A:=X.A.mark (some (.ref ea)),calm:=false,pn:=X.pn++[(ea,oe)],xe:=fun _ _=>False }
theorem Inv.sui {X:Cx} {pins:List (Addr × Obj)} {σ:St} {H:Hp} {s:Shared} {ea:Addr} {oe:Obj} (I:Inv X pins σ H s)
    (h:s.heap.get? ea=some oe∧H ea=none∧ea≠X.env.locals∧ea ∉ X.fs∧∀ v,oe.data≠.cell v):Inv (L2.sui X ea oe) pins σ H s :=
  ⟨⟨I.ok.mod,I.ok.kind,I.ok.glob,I.ok.blt,I.ok.above,I.ok.inj,I.ok.has,I.ok.cab,(fun z=>nomatch z),I.ok.frames,I.ok.stk,I.ok.exf,I.ok.bs,I.ok.bsz,I.ok.noex,I.ok.exfs,I.ok.funs,I.ok.frf⟩,
    I.os,I.bare,I.base,I.loc,I.cell,I.free,I.freeC,fun p hp=>by
      rcases List.mem_append.mp hp with hp | hp
      · rcases List.mem_append.mp (show p∈X.pn++[(ea,oe)] from hp) with hp | hp
        · exact I.pin p (List.mem_append_left _ hp)
        · cases List.mem_singleton.mp hp
          exact h
      · exact I.pin p (List.mem_append_right _ hp),I.hok,I.len,I.tab⟩
theorem Inv.unsui {X:Cx} {pins:List (Addr × Obj)} {σ:St} {H:Hp} {s:Shared} {ea:Addr} {oe:Obj} (ok:X.Ok) (I:Inv (L2.sui X ea oe) pins σ H s):Inv X pins σ H s :=
  ⟨ok,I.os,I.bare,I.base,I.loc,I.cell,I.free,I.freeC,fun p hp=>by
      rcases List.mem_append.mp hp with hp | hp
      · exact I.pin p (List.mem_append_left _ (List.mem_append_left _ hp))
      · exact I.pin p (List.mem_append_right _ hp),I.hok,I.len,I.tab⟩
theorem Inv.forget {X:Cx} {pins:List (Addr × Obj)} {σ:St} {H:Hp} {s:Shared} {h':Heap} {m':Str→Option Value} {t':Nat} (I:Inv X pins σ H s) (hn:h'.Ns X.env.locals m') (hs:Heap.SameBut X.env.locals s.heap h') :
    Inv X pins (List.replicate X.N.length none) H { s with heap:=h',toks:=t' }:=by
  have k:∀ b o,b≠X.env.locals→s.heap.get? b=some o→h'.get? b=some o:=fun b o hb e=>(hs.2 b hb).trans e
  have old:∀ b o,X.s₀.heap.get? b=some o→b≠X.env.locals:=fun b o e=>Nat.ne_of_lt (Nat.lt_of_lt_of_le (Heap.lt_size e) I.ok.above)
  refine ⟨I.ok,I.os,I.bare,⟨fun b o e n h1 h2=>k b o (old b o e) (I.base.keep b o e n h1 h2),fun b o e n h1 h2=>?_,I.base.free,fun b o e h1=>?_,I.base.tups,I.base.frzs,I.base.tbls⟩,⟨m',hn,fun i x v _ e2 _=>?_⟩,fun x c e=>?_,I.free,I.freeC,fun p hp=>?_,fun b o e=>?_,by simp,I.tab⟩
  · obtain ⟨sl,q⟩:=I.base.slot b o e n h1 h2
    exact ⟨sl,k b _ (old b o e) q⟩
  · obtain ⟨o',q⟩:=I.base.there b o e h1
    exact ⟨o',k b o' (old b o e) q⟩
  · rw [List.getElem?_replicate] at e2
    split at e2 <;> cases e2
  · obtain ⟨v,q⟩:=I.cell x c e
    exact ⟨v,q.sameBut hs (I.cne x c e)⟩
  · obtain ⟨e,n,ne,nf,d⟩:=I.pin p hp
    exact ⟨k p.1 p.2 ne e,n,ne,nf,d⟩
  · refine (I.hok b o e).stay (fun c v hc q=>k c v ?_ q) (fun _ q=>q) fun _ _ q=>q
    rintro rfl
    rcases hc with z | z
    · subst z; rw [I.free] at e; cases e
    · rw [I.free] at z; cases z
theorem o5.inv {X:Cx} {pins:List (Addr × Obj)} {σ:St} {H H':Hp} {s s':Shared} {B h5:Heap} {ea:Addr} {cls a0:Value} (I:Inv X pins σ H s) (F:o5 X.prog X.w X.stack H s H' B ea cls a0 s') (hB:B.StaysIn h5) (hs:s'.heap.UpToSlots h5) :
    Inv X pins σ H' { s' with heap:=h5 }:=by
  refine I.call' (s':={ s' with heap:=h5 }) (ch:=[]) F.os ⟨fun b o e n h1 _=>hB b o (F.keep b o e n h1),fun b o e n h1 _=>?_,fun b o e n _=>F.free b o e n,fun b o e _=>?_,F.tups,F.frzs,F.tbls⟩ (F.hok.kept hB) F.bare (fun b hb=>absurd hb (List.not_mem_nil))
  · obtain ⟨sl,q⟩:=F.slot b o e h1
    obtain ⟨_,o2,q2,d2⟩:=I.stack.mem h1
    rw [e] at q2
    cases q2
    obtain ⟨sl2,q3⟩:=hs b _ q d2
    exact ⟨sl2,q3⟩
  · by_cases hb:b∈frs X.stack
    · obtain ⟨sl,q⟩:=F.slot b o e hb
      obtain ⟨_,o2,q2,d2⟩:=I.stack.mem hb
      rw [e] at q2
      cases q2
      obtain ⟨sl2,q3⟩:=hs b _ q d2
      exact ⟨_,q3⟩
    · obtain ⟨o',q⟩:=F.there b o e hb
      exact ⟨o',hB _ _ q⟩
theorem o5.apart {X:Cx} {pins:List (Addr × Obj)} {σ:St} {H H':Hp} {s s':Shared} {B h5:Heap} {ea:Addr} {cls a0:Value} (I:Inv X pins σ H s) (F:o5 X.prog X.w X.stack H s H' B ea cls a0 s') (hfl:Heap.FlyingW B X.stack ea cls a0 h5) (hs:s'.heap.UpToSlots h5) :
    ∃ oe,oe.cls=cls∧h5.get? ea=some oe∧H' ea=none∧ea≠X.env.locals∧ea ∉ X.fs∧∀ v,oe.data≠.cell v:=by
  obtain ⟨f1,f2,f3,oe,vs,T,oT,ts,he,hc,hd,_⟩:=hfl
  have hne:∀ b,b∈frs X.stack→ea≠b:=fun b hb z=>by
    subst z
    obtain ⟨_,o,ho,hnf⟩:=f3.mem hb
    rw [he] at ho
    cases ho
    exact hnf _ hd
  refine ⟨oe,hc.1,he,?_,?_,fun z=>?_,fun v z=>by rw [hd] at z; cases z⟩
  · cases q:H' ea with
    | none=>rfl
    | some o =>
      obtain ⟨ob,e⟩:=(F.hok ea o q).get
      rw [f2] at e; cases e
  · rcases I.ok.stk with e | ⟨e,hf⟩
    · intro z
      obtain ⟨m,⟨o,es,ep,ho,hd2,_⟩,_⟩:=I.loc
      have nf:ea ∉ frs X.stack:=fun q=>hne ea q rfl
      obtain ⟨o',q⟩:=F.there ea o (by rw [z]; exact ho) nf
      rw [f2] at q; cases q
    · exact hne _ (by rw [e,gM hf]; exact List.mem_cons_self)
  · have:ea∈frs X.stack:=by
      rcases I.ok.stk with e | ⟨e,hf⟩
      · rw [e]; exact z
      · rw [e,gM hf]; exact List.mem_cons_of_mem _ z
    exact hne ea this rfl
theorem pG {X:Cx} {pins:List (Addr × Obj)} {σ:St} {H H':Hp} {s s':Shared} {B:Heap} {ea C:Addr} {a0:Value} {x n:Str} {i:Nat} {np hpos:Pos} {b0:Stmt} {suite:List Stmt} {D:Ends} {ts:Obj→TS} {bmB:List Value} {newId:String}
    (I:Inv X pins σ H s) (F:o5 X.prog X.w X.stack H s H' B ea (.ref C) a0 s') (hf:X.env.frame=some X.env.locals) (hst:∃ out,X.stack=X.env::out) (hN:X.N.Nodup) (hi:X.N[i]?=some n) (hl:X.env.scope.names.lookup n=some .local)
    (hg:Gl X x) (hm:X.mg x=some (.ref C)) (hC:PySem.W.excIn X.K C bmB newId=true) (hbase:bmB.contains (.type "BaseException")=true)
    (hs:∀ oe,oe.cls=.ref C→PSs (sui X ea oe) (b0::suite) (ts oe))
    (q:∀ oe,oe.cls=.ref C→ts oe { nx:=fun _ _=>False,rt:=D.rt } (σ.set i (some (.ref ea))) H')
    (hdb:(x == ("__debug__":Str))=false:=by decide) :
    wpAny (model X.prog X.w) X.A (noteFrame (.ref ea) X.env) (fun _ s2=>wpAny (model X.prog X.w) X.A (setFlight (.ref ea) none) (fun _ s3 =>
      wpAny (model X.prog X.w) X.A (handleBy (.ref ea) X.env [.ExceptHandler (some (.Name x np)) (some n) (b0::suite) hpos]) (SP X pins D) X.xe s3) X.xe s2) X.xe s':=by
  obtain ⟨out,hst⟩:=hst
  have hfr:X.A.frames=some (X.env::out):=by rw [← hst]; exact I.ok.frames
  have hfly:Heap.FlyingW B (X.env::out) ea (.ref C) a0 s'.heap:=by rw [← hst]; exact F.fly
  refine wpAny_looks_onW hfr hf hfly fun h4 hh4 hs4=>?_
  refine wpAny_landsW hh4 fun h5 hf5 hs5=>?_
  have hf5':Heap.FlyingW B X.stack ea (.ref C) a0 h5:=by rw [hst]; exact hf5
  have I5:Inv X pins σ H' { s' with heap:=h5 }:=F.inv I hf5.1 (hs4.trans hs5)
  obtain ⟨oe,hc,ap⟩:=F.apart I hf5' (hs4.trans hs5)
  have J5:=Inv.sui I5 ap
  refine wpAny_handleBy_cons (codeAny_handlers_test (gX (X:=sui X ea oe) J5 hg hm ?_ hdb)) (by intro z; cases z)
  obtain ⟨bm,Nn,nm,qn,bs,hdct,sn,sub,ab,col,dd,k0,k1,k2,k3,k5,mN,hC0,hN0,hni,TL⟩:=oI I5.kIn hC
  refine wpAny_excMatches_sub_self hC0 ap.1 hc (TL.hasType hbase) (codeAny_handlers_suite_as ?_)
  refine lands_againW hf5' fun h6 hf6 hs6=>?_
  have I6:Inv X pins σ H' { s' with heap:=h6 }:=F.inv I hf6.1 ((hs4.trans hs5).trans hs6)
  obtain ⟨oe6,hc6,ap6⟩:=F.apart I hf6 ((hs4.trans hs5).trans hs6)
  have J6:=Inv.sui I6 ap6
  refine jb (X:=sui X ea oe6) (v:=.ref ea) J6 hN hi (.inl hl) rfl (fun s7 J7=>?_) (.inr hl)
  refine wpAny_mono (hs oe6 hc6 pins s7 _ H' { nx:=fun _ _=>False,rt:=D.rt } J7 (q oe6 hc6)) (fun fl s8 h8=>?_) fun _ _ z=>z.elim
  have fin:∀ {v:V} {u:Value} {σ8:St} {H8:Hp},Inv (sui X ea oe6) pins σ8 H8 s8→RelV v u→D.rt v H8→wpAny (model X.prog X.w) X.A (do bindName X.env n .none; unbindBehindTheSuite X.env n hpos) (fun _ s9=>SP X pins D (.ret u) s9) X.xe s8:=fun {v u σ8 H8} J8 rv qv=>by
    have I8:=Inv.unsui I.ok J8
    obtain ⟨m8,hn8,_⟩:=I8.loc
    exact wpAny_nameGoes hl hn8 (by rw [I.ok.kind]; rfl) fun h9 m9 hn9 hs9=>⟨v,_,H8,I8.forget (t':=s8.toks + 1) hn9 hs9,rv,qv⟩
  cases fl with
  | ret u =>
    obtain ⟨v,σ8,H8,J8,rv,qv⟩:=h8
    exact fin J8 rv qv
  | next=>obtain ⟨_,_,_,z⟩:=h8; exact z.elim
  | brk=>obtain ⟨_,_,_,z⟩:=h8; exact z.elim
  | cont=>obtain ⟨_,_,_,z⟩:=h8; exact z.elim
noncomputable def rT (te:TX) (C:Addr) (i:Nat) (ts:Addr→Obj→TS):TS:=fun D σ H=>te σ H D.rt fun cls _ H1=>cls=.ref C∧∀ ea oe,H1 ea=none→oe.cls=.ref C→ts ea oe { nx:=fun _ _=>False,rt:=D.rt } (σ.set i (some (.ref ea))) H1
theorem nF {X:Cx} {e:Expr} {te:TX} {C:Addr} {x n:Str} {i:Nat} {np hpos rpos pos:Pos} {b0:Stmt} {suite:List Stmt} {ts:Addr→Obj→TS} {bmB:List Value} {newId:String} (he:PEX X e te)
    (hf:X.env.frame=some X.env.locals) (hst:∃ out,X.stack=X.env::out) (hN:X.N.Nodup) (hi:X.N[i]?=some n) (hl:X.env.scope.names.lookup n=some .local)
    (hg:Gl X x) (hm:X.mg x=some (.ref C)) (hC:PySem.W.excIn X.K C bmB newId=true) (hbase:bmB.contains (.type "BaseException")=true) (hs:∀ ea oe,oe.cls=.ref C→PSs (sui X ea oe) (b0::suite) (ts ea oe)) (hdb:(x == ("__debug__":Str))=false:=by decide) :
    PS X (.Try [.Return (some e) rpos] [.ExceptHandler (some (.Name x np)) (some n) (b0::suite) hpos] [] [] pos) (rT te C i ts):=by
  intro pins s σ H D I h
  refine wpAny_Try_except (wpAny_execs_cons (wpAny_Return_some (wpAny_mono (he pins s σ H _ _ I h) (fun v s1 h1=>?_) fun ev s1 h1=>?_)))
  · obtain ⟨y,H1,I1,r1,q1⟩:=h1
    exact ⟨y,σ,H1,I1,r1,q1⟩
  · obtain ⟨H1,s0,I0,ea,cls,a0,H2,B,rfl,⟨rfl,qs⟩,F⟩:=h1
    have hn:H2 ea=none:=by
      cases q:H2 ea with
      | none=>rfl
      | some o =>
        obtain ⟨ob,z⟩:=(F.hok ea o q).get
        rw [F.fly.2.1] at z; cases z
    exact pG (D:=D) (ts:=ts ea) I0 F hf hst hN hi hl hg hm hC hbase (fun oe ho=>hs ea oe ho) (fun oe ho=>qs ea oe hn ho) hdb
end L2
set_option maxRecDepth 100000
set_option maxHeartbeats 4000000
namespace L2
open PySem PySem.Spec PyProof.Rows
theorem gW {H:Hp} {D:Addr} {o:HO} (h:H D=none):av H (upd H D o):=fun b u e=>by rw [aQ (aP e h)]; exact e
theorem av.put {H H':Hp} {D:Addr} {o:HO} (s:av H H') (h:H D=none):av H (upd H' D o):=fun b u e=>by rw [aQ (aP e h)]; exact s b u e
mutual
noncomputable def c0:PyData→Bool
  | .list _=>false
  | .tuple ds=>gr ds
  | .dict _=>false
  | _=>true
noncomputable def gr:List PyData→Bool
  | []=>true
  | d::ds=>c0 d && gr ds
end
theorem set_own (σ:St) (x:Option V) (v:V) (σ':St) (h:σ'.length=1):(σ++σ').set σ.length (some v)=σ++[some v]:=by
  match σ',h with
  | [y],_=>simp
end L2
set_option maxRecDepth 100000
set_option maxHeartbeats 4000000
namespace L2
open PySem PySem.Spec PyProof.Rows
structure Rows (H H':Hp) (D:Addr) (qs:List Addr) (rs:List (List Int)):Prop where
  d:H' D=some (.lst (qs.map V.ref))
  len:qs.length=rs.length
  at':∀ (i:Nat) q r,qs[i]?=some q→rs[i]?=some r→H' q=some (.lst (r.map V.int))
  new:∀ q∈qs,H q=none
  nd:qs.Nodup
  nD:D ∉ qs
end L2
set_option maxRecDepth 100000
set_option maxHeartbeats 4000000
namespace L2
open PySem PySem.Spec PyProof.Rows
section
variable {prog:Program} {w:World} {A:Around} {E:Value→Shared→Prop} {s:Shared}
theorem mM {it t:Addr} {i:Nat} {its:Array Value} {x:Value} {Q:Value→Shared→Prop} (hi:s.heap.IsTupleIter it t i) (ht:s.heap.IsTuple t its) (hx:its[i]?=some x)
    (hQ:∀ h',h'.IsTupleIter it t (i + 1)→Heap.SameBut it s.heap h'→Q x { s with heap:=h' }):wpAny (model prog w) A (Builtin.SmallTypes.nextOf (.ref it)) Q E s:=by
  obtain ⟨oi,gi,ci,di⟩:=id hi
  obtain ⟨ot,gt,_,nt,dt⟩:=ht
  unfold Builtin.SmallTypes.nextOf
  refine wpAny_bind (wpAny_callSpecial?_slot (name:=Str.ofString "__next__") hi.typeIs F.slot_tuple_iterator_next (wpAny_call_entry F.slot_tuple_iterator_next hi.typeIs F.entry_tuple_iterator_next ?_ (F.args_tuple_iterator_next_1 _)))
  refine wpAny_bind (m:=field (.ref it) 0) (wpAny_field gi di (x:=.ref t) rfl ?_)
  show wpAny (model prog w) _ (if (Value.ref t == Value.none)=true then _ else _) _ _ s
  have nn:¬ (Value.ref t == Value.none)=true:=fun q=>Bool.false_ne_true q
  rw [if_neg nn]
  refine wpAny_bind (m:=field (.ref it) 1) (wpAny_field gi di (x:=.int i 0) rfl ?_)
  refine wpAny_bind (m:=seqItems? (.ref t)) (wpAny_seqItems gt dt ?_)
  simp only [Int.toNat_natCast,hx]
  refine wpAny_bind (wpAny_setField gi di (by simp) (wpAny_pure ⟨x,rfl,wpAny_pure (hQ _ ⟨_,Heap.get?_update_self _ gi (Obj.isFreed_of_fields (Obj.data_mapFields di _)),(Obj.cls_mapFields ..).trans ci,?_⟩ (Heap.SameBut.update ..))⟩))
  rw [Obj.data_mapFields di]
  simp [rawInt]
theorem jD {it t:Addr} {i:Nat} {its:Array Value} {Q:Value→Shared→Prop} (hh:A.handled=none) (hi:s.heap.IsTupleIter it t i) (ht:s.heap.IsTuple t its) (hx:its[i]?=none)
    (hE:∀ h' e,Heap.ExtBut it s.heap h'→(∃ o,h'.get? e=some o∧o.cls=.type "StopIteration")→E (.ref e) { s with heap:=h' }):wpAny (model prog w) A (Builtin.SmallTypes.nextOf (.ref it)) Q E s:=by
  obtain ⟨oi,gi,ci,di⟩:=id hi
  obtain ⟨ot,gt,_,nt,dt⟩:=ht
  unfold Builtin.SmallTypes.nextOf
  refine wpAny_bind (wpAny_callSpecial?_slot (name:=Str.ofString "__next__") hi.typeIs F.slot_tuple_iterator_next (wpAny_call_entry F.slot_tuple_iterator_next hi.typeIs F.entry_tuple_iterator_next ?_ (F.args_tuple_iterator_next_1 _)))
  refine wpAny_bind (m:=field (.ref it) 0) (wpAny_field gi di (x:=.ref t) rfl ?_)
  show wpAny (model prog w) _ (if (Value.ref t == Value.none)=true then _ else _) _ _ s
  have nn:¬ (Value.ref t == Value.none)=true:=fun q=>Bool.false_ne_true q
  rw [if_neg nn]
  refine wpAny_bind (m:=field (.ref it) 1) (wpAny_field gi di (x:=.int i 0) rfl ?_)
  refine wpAny_bind (m:=seqItems? (.ref t)) (wpAny_seqItems gt dt ?_)
  simp only [Int.toNat_natCast,hx]
  refine wpAny_bind (wpAny_rule (wpAny_bind (wpAny_setField gi di (by simp) ?_)))
  refine wpAny_bind (m:=newExc (.type "StopIteration") []) ?_
  unfold newExc newTuple
  refine wpAny_bind (wpAny_newObj_type ?_ (by size_fits ))
  refine wpAny_bind (m:=firstArgMember _ _) (wpAny_of_eq (a:=Value.none) (by first | rfl | (unfold firstArgMember; rfl)) ?_)
  refine wpAny_newObj_type ?_ (by size_fits )
  unfold raiseNew
  refine wpAny_bind (wpAny_handled ?_)
  first | rw [show A.in1.handled=none from hh] | rw [hh]
  refine wpAny_bind (wpAny_pure (wpAny_throw ?_))
  refine hE _ _ (fun b o hb e=>?_) ⟨_,Heap.get?_push_size _ rfl,rfl⟩
  exact Heap.get?_push_of_some _ (Heap.get?_push_of_some _ ((Heap.get?_update_other _ _ (Ne.symm hb)).trans e))
theorem p5 (hh:A.handled=none) (it t:Addr) (hne:t≠it) (its:Array Value):Draws prog w A it [it,t] its.size (fun i v=>its[i]?=some v) (fun i h=>h.IsTupleIter it t i∧h.IsTuple t its) where
  live:=fun _ _ st=>by
    obtain ⟨⟨o,g,_⟩,_⟩:=st
    exact ⟨o,g⟩
  frame:=fun _ _ _ st k=>by
    obtain ⟨⟨o,g,r⟩,⟨o2,g2,r2⟩⟩:=st
    exact ⟨⟨o,k it (by simp) o g,r⟩,⟨o2,k t (by simp) o2 g2,r2⟩⟩
  item:=fun i s Q E hi st hQ=>mM st.1 st.2 (x:=its[i]) (by simp [hi]) fun h' i' sb=>by
    refine hQ _ h' s.toks (by simp [hi]) ⟨i',?_⟩ sb
    obtain ⟨o2,g2,r2⟩:=st.2
    exact ⟨o2,(sb.2 t hne).trans g2,r2⟩
  done:=fun s Q E st hE=>jD hh st.1 st.2 (by simp) hE
end
structure xl (z TI TO i1 i2:Addr) (f1 f2:List Addr):Prop where
  TIz:TI≠z
  TOz:TO≠z
  z1:i1≠z
  z2:i2≠z
  TIO:TI≠TO
  TI1:TI≠i1
  TI2:TI≠i2
  TO1:TO≠i1
  TO2:TO≠i2
  i12:i1≠i2
  a1:∀ b∈f1,b≠z∧b≠TO∧b≠i2
  a2:∀ b∈f2,b≠z∧b≠TO∧b≠i1
section
variable {prog:Program} {w:World} {A:Around} {E:Value→Shared→Prop} {s:Shared} {z TI TO i1 i2:Addr} {f1 f2:List Addr} {n1 n2 k:Nat} {P1 P2:Nat→Value→Prop} {S1 S2:Nat→Heap→Prop} {a b:Value}
end
end L2
set_option maxRecDepth 100000
set_option maxHeartbeats 4000000
namespace L2
open PySem PySem.Spec PyProof.Rows
section
variable {X:Cx} {pins:List (Addr × Obj)} {σ:L2.St} {H:Hp} {s:Shared}
theorem Inv.turnLay {ch:List Addr} {h':Heap} {t':Nat} {T:Addr} {o:HO} (I:Inv X pins σ H s) (hf:∀ b∈ch,jc X pins H b) (hT:s.heap.objs.size≤T) (k:∀ b u,b ∉ ch→s.heap.get? b=some u→h'.get? b=some u)
    (new:cF X.prog X.w (upd H T o) h' T o):Inv X pins σ (upd H T o) { s with heap:=h',toks:=t' }:=by
  have hn:H T=none:=I.hok.fresh hT
  have nch:∀ b u,H b=some u→b ∉ ch:=fun b u e z=>by rw [(hf b z).1] at e; cases e
  have neT:∀ b u,s.heap.get? b=some u→b≠T:=fun b u e=>Nat.ne_of_lt (Nat.lt_of_lt_of_le (Heap.lt_size e) hT)
  refine I.step (g':=s.gens) (d':=s.drawn) (ch:=ch) (fun b hb=>?_) (fun b u _ _ hc e _=>k b u hc e) (fun b u _ _ hc e _=>⟨u.slots,k b u hc e⟩) (fun b u _ e n=>by rw [aQ (neT b u e)]; exact n)
    (fun b u hc e=>⟨u,k b u hc e⟩) (fun b xs e=>by rw [aQ (aP e hn)]; exact e) (fun b u v e=>by rw [aQ (aP e hn)]; exact e) (fun b ps e=>by rw [aQ (aP e hn)]; exact e) (fun m hm=>?_) (fun b u e=>?_) I.bare
  · obtain ⟨f0,f1,f2,f3,f4,f5⟩:=hf b hb
    exact ⟨f3,f1,f4,f5⟩
  · obtain ⟨o2,es,ep,ho,r⟩:=hm
    exact ⟨o2,es,ep,k _ o2 (fun z=>(hf _ z).2.1 rfl) ho,r⟩
  · by_cases hb:b=T
    · subst hb; rw [bQ] at e; cases e; exact new
    · rw [aQ hb] at e
      refine (I.hok b u e).stay (fun c v hc q=>k c v ?_ q) (fun c q=>by rw [aQ (aP q hn)]; exact q) (fun c xs q=>by rw [aQ (aP q hn)]; exact q) fun c o' w' q=>by rw [aQ (aP q hn)]; exact q
      rcases hc with z | z
      · rw [z]; exact nch b u e
      · exact nch c _ z
theorem Inv.turneds {ch:List Addr} {h':Heap} {t':Nat} (I:Inv X pins σ H s) (hf:∀ b∈ch,jc X pins H b) (k:∀ b u,b ∉ ch→s.heap.get? b=some u→h'.get? b=some u):Inv X pins σ H { s with heap:=h',toks:=t' }:=by
  have nch:∀ b u,H b=some u→b ∉ ch:=fun b u e z=>by rw [(hf b z).1] at e; cases e
  refine I.step (g':=s.gens) (d':=s.drawn) (ch:=ch) (fun b hb=>?_) (fun b u _ _ hc e _=>k b u hc e) (fun b u _ _ hc e _=>⟨u.slots,k b u hc e⟩) (fun b u _ e n=>n)
    (fun b u hc e=>⟨u,k b u hc e⟩) (fun b xs e=>e) (fun b u v e=>e) (fun b ps e=>e) (fun m hm=>?_) (fun b u e=>?_) I.bare
  · obtain ⟨f0,f1,f2,f3,f4,f5⟩:=hf b hb
    exact ⟨f3,f1,f4,f5⟩
  · obtain ⟨o2,es,ep,ho,r⟩:=hm
    exact ⟨o2,es,ep,k _ o2 (fun z=>(hf _ z).2.1 rfl) ho,r⟩
  · refine (I.hok b u e).stay (fun c v hc q=>k c v ?_ q) (fun _ q=>q) fun _ _ q=>q
    rcases hc with z | z
    · rw [z]; exact nch b u e
    · exact nch c _ z
end
end L2
set_option maxRecDepth 100000
set_option maxHeartbeats 4000000
namespace L2
open PySem PySem.Spec PyProof.Rows
inductive Rs (α:Type) where
  | ok (a:α)
  | rz (C:Addr)
  | no
namespace Rs
noncomputable def bind {α β:Type}:Rs α→(α→Rs β)→Rs β
  | ok a,f=>f a
  | rz C,_=>rz C
  | no,_=>no
noncomputable def c7 {α:Type}:Option α→Rs α
  | some a=>ok a
  | none=>no
noncomputable def calm {α:Type}:Rs α→Rs α
  | ok a=>ok a
  | _=>no
@[simp] theorem aq {α β:Type} (a:α) (f:α→Rs β):(ok a).bind f=f a:=rfl
@[simp] theorem eQ {α β:Type} (C:Addr) (f:α→Rs β):(rz C).bind f=rz C:=rfl
@[simp] theorem bX {α β:Type} (f:α→Rs β):(no:Rs α).bind f=no:=rfl
@[simp] theorem az {α:Type} (a:α):c7 (some a)=ok a:=rfl
@[simp] theorem ua {α:Type}:c7 (none:Option α)=no:=rfl
@[simp] theorem gH {α:Type} (a:α):(ok a).calm=ok a:=rfl
end Rs
noncomputable def del (H:Hp) (A:List Addr):Hp:=fun b=>if b∈A then none else H b
theorem oh {H:Hp}:del H []=H:=by funext b; simp [del]
theorem hU {H:Hp} {A:List Addr} {b:Addr} (h:b∈A):del H A b=none:=by simp [del,h]
theorem bA {H:Hp} {A:List Addr} {b:Addr} (h:b ∉ A):del H A b=H b:=by simp [del,h]
theorem c4 {H:Hp} {A:List Addr} {b:Addr} {o:HO} (h:del H A b=some o):b ∉ A∧H b=some o:=by
  by_cases z:b∈A
  · rw [hU z] at h; cases h
  · rw [bA z] at h; exact ⟨z,h⟩
theorem ay {H:Hp} {A:List Addr}:av (del H A) H:=fun _ _ e=>(c4 e).2
theorem av.del {H H':Hp} {A:List Addr} (s:av H H'):av (del H A) (L2.del H' A):=fun b o e=>by
  obtain ⟨z,e⟩:=c4 e
  rw [bA z]; exact s b o e
noncomputable def Ls (H:Hp) (A:List Addr):Prop:=∀ a∈A,∃ xs,H a=some (.lst xs)
theorem Ls.same {H H':Hp} {A:List Addr} (h:Ls H A) (s:av H H'):Ls H' A:=fun a ha=>by
  obtain ⟨xs,e⟩:=h a ha
  exact ⟨xs,s _ _ e⟩
theorem Ls.nil {H:Hp}:Ls H []:=fun _ h=>by cases h
theorem Ls.new {H:Hp} {A:List Addr} {p:Addr} (h:Ls H A) (hp:H p=none):p ∉ A:=fun z=>by
  obtain ⟨xs,e⟩:=h p z
  rw [hp] at e; cases e
noncomputable def ao (ns:List Int):PyData:=.dict [(.none,.list (ns.map .int))]
mutual
noncomputable def Is (K:PySem.W.Frag) (H:Hp):PyData→V→Prop
  | .none,v=>v=.non
  | .bool b,v=>v=.bl b
  | .int i,v=>v=.int i
  | .str x,v=>v=.str x
  | .list ds,v=>∃ a xs,v=.ref a∧H a=some (.lst xs)∧Iss K H ds xs
  | .tuple ds,v=>∃ a xs,v=.ref a∧H a=some (.tup xs)∧Iss K H ds xs
  | .dict kvs,v=>(∃ a ns,v=.ref a∧kvs=[(PyData.none,PyData.list (List.map PyData.int ns))]∧SqL K H a (List.map V.int ns)) ∨
      ∃ (a C dx:Addr) (fs:List (Str × V)),v=.ref a∧H a=some (.ins C dx fs)∧fs.lookup ("@":Str)=none∧(Isk K H kvs (("",.int (C:Int))::fs)∨Isk K H kvs (("",.int (C:Int))::("@",.int (a:Int))::fs))
noncomputable def Iss (K:PySem.W.Frag) (H:Hp):List PyData→List V→Prop
  | [],vs=>vs=[]
  | d::ds,vs=>∃ v r,vs=v::r∧Is K H d v∧Iss K H ds r
noncomputable def Isk (K:PySem.W.Frag) (H:Hp):List (PyData × PyData)→List (Str × V)→Prop
  | [],fs=>fs=[]
  | (k,d)::r,fs=>∃ f v fs',fs=(f,v)::fs'∧k=.str f∧Is K H d v∧Isk K H r fs'
end
section
variable {K:PySem.W.Frag} {H H':Hp}
theorem bP {i:Int}:Is K H (.int i) (.int i):=by unfold Is; rfl
theorem is_bool {b:Bool}:Is K H (.bool b) (.bl b):=by unfold Is; rfl
theorem is_none:Is K H .none .non:=by unfold Is; rfl
theorem kL {x:Str}:Is K H (.str x) (.str x):=by unfold Is; rfl
theorem f6 {ds:List PyData} {a:Addr} {xs:List V} (h:H a=some (.tup xs)) (h2:Iss K H ds xs):Is K H (.tuple ds) (.ref a):=by unfold Is; exact ⟨a,xs,rfl,h,h2⟩
theorem ng {ds:List PyData} {a:Addr} {xs:List V} (h:H a=some (.lst xs)) (h2:Iss K H ds xs):Is K H (.list ds) (.ref a):=by unfold Is; exact ⟨a,xs,rfl,h,h2⟩
theorem o8 {a:Addr} {ns:List Int} (h:SqL K H a (ns.map V.int)):Is K H (ao ns) (.ref a):=by unfold ao Is; exact .inl ⟨a,ns,rfl,rfl,h⟩
theorem cP:Iss K H [] []:=by unfold Iss; rfl
theorem cA {d:PyData} {ds:List PyData} {v:V} {vs:List V} (h:Is K H d v) (h2:Iss K H ds vs):Iss K H (d::ds) (v::vs):=by unfold Iss; exact ⟨v,vs,rfl,h,h2⟩
theorem iX {d:PyData} {v:V} (h:Is K H d v):Iss K H [d] [v]:=cA h cP
theorem Is.ofInt {i:Int} {v:V} (h:Is K H (.int i) v):v=.int i:=by unfold Is at h; exact h
theorem Is.ofBool {i:Bool} {v:V} (h:Is K H (.bool i) v):v=.bl i:=by unfold Is at h; exact h
theorem Is.ofNone {v:V} (h:Is K H .none v):v=.non:=by unfold Is at h; exact h
theorem Is.ofStr {x:Str} {v:V} (h:Is K H (.str x) v):v=.str x:=by unfold Is at h; exact h
theorem Is.ofTup {ds:List PyData} {v:V} (h:Is K H (.tuple ds) v):∃ a xs,v=.ref a∧H a=some (.tup xs)∧Iss K H ds xs:=by unfold Is at h; exact h
theorem Is.ofLst {ds:List PyData} {v:V} (h:Is K H (.list ds) v):∃ a xs,v=.ref a∧H a=some (.lst xs)∧Iss K H ds xs:=by unfold Is at h; exact h
theorem Is.ofScript {ns:List Int} {v:V} (h:Is K H (ao ns) v):∃ a,v=.ref a∧SqL K H a (ns.map V.int):=by
  unfold ao Is at h
  rcases h with h | ⟨a,C,dx,fs,_,_,_,h | h⟩
  case inr.inl=>unfold Isk at h; obtain ⟨f,_,_,_,h,_⟩:=h; cases h
  case inr.inr=>unfold Isk at h; obtain ⟨f,_,_,_,h,_⟩:=h; cases h
  obtain ⟨a,ms,e,e2,h⟩:=h
  have e3:ns.map PyData.int=ms.map PyData.int:=by injection e2 with e2 _; injection e2 with _ e2; injection e2
  have e4:ns=ms:=by
    have inj:∀ (a b:List Int),a.map PyData.int=b.map PyData.int→a=b:=by
      intro a
      induction a with
      | nil=>intro b hb; cases b with | nil=>rfl | cons _ _=>simp at hb
      | cons x r ih =>
        intro b hb
        cases b with
        | nil=>simp at hb
        | cons y s =>
          simp only [List.map_cons,List.cons.injEq,PyData.int.injEq] at hb
          rw [hb.1,ih s hb.2]
    exact inj _ _ e3
  subst e4
  exact ⟨a,e,h⟩
theorem Iss.nil_of {vs:List V} (h:Iss K H [] vs):vs=[]:=by unfold Iss at h; exact h
theorem Iss.cons_of {d:PyData} {ds:List PyData} {vs:List V} (h:Iss K H (d::ds) vs):∃ v r,vs=v::r∧Is K H d v∧Iss K H ds r:=by unfold Iss at h; exact h
theorem Iss.length:∀ {ds:List PyData} {vs:List V},Iss K H ds vs→vs.length=ds.length
  | [],_,h=>by rw [h.nil_of]; rfl
  | _::_,_,h=>by
    obtain ⟨v,r,e,_,h2⟩:=h.cons_of
    rw [e,List.length_cons,List.length_cons,Iss.length h2]
mutual
theorem Is.same (e:av H H'):∀ {d:PyData} {v:V},Is K H d v→Is K H' d v
  | .none,_,h=>by unfold Is at h ⊢; exact h
  | .bool _,_,h=>by unfold Is at h ⊢; exact h
  | .int _,_,h=>by unfold Is at h ⊢; exact h
  | .str _,_,h=>by unfold Is at h ⊢; exact h
  | .list ds,_,h=>by
    unfold Is at h ⊢
    obtain ⟨a,xs,e1,h1,h2⟩:=h
    exact ⟨a,xs,e1,e _ _ h1,Iss.same e h2⟩
  | .tuple ds,_,h=>by
    unfold Is at h ⊢
    obtain ⟨a,xs,e1,h1,h2⟩:=h
    exact ⟨a,xs,e1,e _ _ h1,Iss.same e h2⟩
  | .dict _,_,h=>by
    unfold Is at h ⊢
    rcases h with ⟨a,ns,e1,e2,h2⟩ | ⟨a,C,dx,fs,e1,h1,hn,h2 | h2⟩
    · exact .inl ⟨a,ns,e1,e2,e.seq h2⟩
    · exact .inr ⟨a,C,dx,fs,e1,e _ _ h1,hn,.inl (Isk.same e h2)⟩
    · exact .inr ⟨a,C,dx,fs,e1,e _ _ h1,hn,.inr (Isk.same e h2)⟩
theorem Iss.same (e:av H H'):∀ {ds:List PyData} {vs:List V},Iss K H ds vs→Iss K H' ds vs
  | [],_,h=>by unfold Iss at h ⊢; exact h
  | d::ds,_,h=>by
    unfold Iss at h ⊢
    obtain ⟨v,r,e1,h1,h2⟩:=h
    exact ⟨v,r,e1,Is.same e h1,Iss.same e h2⟩
theorem Isk.same (e:av H H'):∀ {ds:List (PyData × PyData)} {fs:List (Str × V)},Isk K H ds fs→Isk K H' ds fs
  | [],_,h=>by unfold Isk at h ⊢; exact h
  | (k,d)::ds,_,h=>by
    unfold Isk at h ⊢
    obtain ⟨f,v,r,e1,e2,h1,h2⟩:=h
    exact ⟨f,v,r,e1,e2,Is.same e h1,Isk.same e h2⟩
end
theorem uT {A:List Addr} (hA:Ls H A) {a:Addr} {xs:List V} (h:H a=some (.tup xs)):del H A a=some (.tup xs):=by
  rw [bA (fun q=>by obtain ⟨ys,e2⟩:=hA a q; rw [h] at e2; cases e2)]; exact h
mutual
theorem Is.dl {A:List Addr} (hA:Ls H A):∀ {d:PyData} {v:V},c0 d=true→Is K H d v→Is K (del H A) d v
  | .none,_,_,h=>by unfold Is at h ⊢; exact h
  | .bool _,_,_,h=>by unfold Is at h ⊢; exact h
  | .int _,_,_,h=>by unfold Is at h ⊢; exact h
  | .str _,_,_,h=>by unfold Is at h ⊢; exact h
  | .list _,_,n,_=>by unfold c0 at n; cases n
  | .dict _,_,n,_=>by unfold c0 at n; cases n
  | .tuple ds,_,n,h=>by
    unfold c0 at n
    obtain ⟨a,xs,e,h1,h2⟩:=h.ofTup
    subst e
    exact f6 (uT hA h1) (Iss.dl hA n h2)
theorem Iss.dl {A:List Addr} (hA:Ls H A):∀ {ds:List PyData} {vs:List V},gr ds=true→Iss K H ds vs→Iss K (del H A) ds vs
  | [],_,_,h=>by rw [h.nil_of]; exact cP
  | d::ds,_,n,h=>by
    unfold gr at n
    obtain ⟨n1,n2⟩:=Bool.and_eq_true_iff.mp n
    obtain ⟨v,r,e,h1,h2⟩:=h.cons_of
    subst e
    exact cA (Is.dl hA n1 h1) (Iss.dl hA n2 h2)
end
mutual
noncomputable def aI:PyData→Bool
  | .list ds=>eo ds
  | .tuple ds=>eo ds
  | .dict _=>false
  | _=>true
noncomputable def eo:List PyData→Bool
  | []=>true
  | d::ds=>aI d && eo ds
end
mutual
theorem Is.isd:∀ {d:PyData} {v:V},aI d=true→Is K H d v→IsD K H d v
  | .none,_,_,h=>by rw [h.ofNone]; exact rq
  | .bool _,_,_,h=>by rw [h.ofBool]; exact rB
  | .int _,_,_,h=>by rw [h.ofInt]; exact kX
  | .str _,_,_,h=>by rw [h.ofStr]; exact td
  | .list ds,_,n,h=>by
    unfold aI at n
    obtain ⟨a,xs,e,h1,h2⟩:=h.ofLst
    subst e
    exact kY (SqL.of h1) (Iss.isd n h2)
  | .tuple ds,_,n,h=>by
    unfold aI at n
    obtain ⟨a,xs,e,h1,h2⟩:=h.ofTup
    subst e
    exact tI (SqT.of h1) (Iss.isd n h2)
  | .dict _,_,n,_=>by unfold aI at n; cases n
theorem Iss.isd:∀ {ds:List PyData} {vs:List V},eo ds=true→Iss K H ds vs→cK K H ds vs
  | [],_,_,h=>by rw [h.nil_of]; exact jd
  | d::ds,_,n,h=>by
    unfold eo at n
    obtain ⟨n1,n2⟩:=Bool.and_eq_true_iff.mp n
    obtain ⟨v,r,e,h1,h2⟩:=h.cons_of
    subst e
    exact kg (Is.isd n1 h1) (Iss.isd n2 h2)
end
noncomputable def c8:PyData→Bool
  | .none=>true
  | .bool _=>true
  | .int _=>true
  | .str _=>true
  | _=>false
theorem IsD.is {d:PyData} {v:V} (n:c8 d=true) (h:IsD K H d v):Is K H d v:=by
  cases d with
  | none=>rw [h.ofNone]; exact is_none
  | bool _=>rw [h.ofBool]; exact is_bool
  | int _=>rw [h.ofInt]; exact bP
  | str _=>rw [h.ofStr]; exact kL
  | _=>cases n
theorem nL {d:PyData} (n:c8 d=true):c0 d=true:=by
  cases d with
  | list _=>cases n
  | tuple _=>cases n
  | dict _=>cases n
  | _=>unfold c0; rfl
theorem Iss.get:∀ {ds:List PyData} {vs:List V} {i:Nat} {v:V},Iss K H ds vs→vs[i]?=some v→∃ d,ds[i]?=some d∧Is K H d v
  | [],_,i,v,h,e=>by rw [h.nil_of] at e; simp at e
  | d::ds,_,i,v,h,e=>by
    obtain ⟨w,r,e1,h1,h2⟩:=h.cons_of
    subst e1
    cases i with
    | zero=>simp at e; subst e; exact ⟨d,rfl,h1⟩
    | succ i=>simpa using Iss.get (i:=i) h2 (by simpa using e)
theorem Iss.getD:∀ {ds:List PyData} {vs:List V} {i:Nat} {d:PyData},Iss K H ds vs→ds[i]?=some d→∃ v,vs[i]?=some v∧Is K H d v
  | [],_,i,v,h,e=>by simp at e
  | d::ds,_,i,v,h,e=>by
    obtain ⟨w,r,e1,h1,h2⟩:=h.cons_of
    subst e1
    cases i with
    | zero=>simp at e; subst e; exact ⟨w,rfl,h1⟩
    | succ i=>simpa using Iss.getD (i:=i) h2 (by simpa using e)
theorem Iss.append:∀ {ds es:List PyData} {vs us:List V},Iss K H ds vs→Iss K H es us→Iss K H (ds++es) (vs++us)
  | [],_,_,_,h,h'=>by rw [h.nil_of]; exact h'
  | d::ds,es,_,us,h,h'=>by
    obtain ⟨v,r,e,h1,h2⟩:=h.cons_of
    subst e
    exact cA h1 (Iss.append h2 h')
theorem Iss.take:∀ {ds:List PyData} {vs:List V} (n:Nat),Iss K H ds vs→Iss K H (ds.take n) (vs.take n)
  | [],_,n,h=>by rw [h.nil_of]; simpa using cP
  | d::ds,_,0,h=>by simpa using cP
  | d::ds,_,n + 1,h=>by
    obtain ⟨v,r,e,h1,h2⟩:=h.cons_of
    subst e
    exact cA h1 (Iss.take n h2)
theorem Iss.drop:∀ {ds:List PyData} {vs:List V} (n:Nat),Iss K H ds vs→Iss K H (ds.drop n) (vs.drop n)
  | [],_,n,h=>by rw [h.nil_of]; simpa using cP
  | d::ds,_,0,h=>h
  | d::ds,_,n + 1,h=>by
    obtain ⟨v,r,e,h1,h2⟩:=h.cons_of
    subst e
    exact Iss.drop n h2
theorem Iss.set {d:PyData} {v:V} (hv:Is K H d v):∀ {ds:List PyData} {vs:List V} (i:Nat),Iss K H ds vs→Iss K H (ds.set i d) (vs.set i v)
  | [],_,n,h=>by rw [h.nil_of]; simpa using cP
  | e::ds,_,0,h=>by
    obtain ⟨u,r,z,h1,h2⟩:=h.cons_of
    subst z
    exact cA hv h2
  | e::ds,_,n + 1,h=>by
    obtain ⟨u,r,z,h1,h2⟩:=h.cons_of
    subst z
    exact cA h1 (Iss.set hv n h2)
theorem Iss.eraseIdx:∀ {ds:List PyData} {vs:List V} (i:Nat),Iss K H ds vs→Iss K H (ds.eraseIdx i) (vs.eraseIdx i)
  | [],_,n,h=>by rw [h.nil_of]; simpa using cP
  | e::ds,_,0,h=>by
    obtain ⟨u,r,z,h1,h2⟩:=h.cons_of
    subst z
    exact h2
  | e::ds,_,n + 1,h=>by
    obtain ⟨u,r,z,h1,h2⟩:=h.cons_of
    subst z
    exact cA h1 (Iss.eraseIdx n h2)
theorem Iss.rep {ds:List PyData} {vs:List V} (h:Iss K H ds vs):∀ k:Nat,Iss K H (List.replicate k ds).flatten (List.replicate k vs).flatten
  | 0=>cP
  | k + 1=>by
    rw [List.replicate_succ,List.replicate_succ,List.flatten_cons,List.flatten_cons]
    exact h.append (Iss.rep h k)
theorem lG:∀ (ns:List Int),Iss K H (ns.map PyData.int) (ns.map V.int)
  | []=>cP
  | _::r=>cA bP (lG r)
theorem Iss.ofInts:∀ {ns:List Int} {vs:List V},Iss K H (ns.map PyData.int) vs→vs=ns.map V.int
  | [],_,h=>h.nil_of
  | n::r,_,h=>by
    obtain ⟨v,t,e,h1,h2⟩:=h.cons_of
    rw [e,h1.ofInt,Iss.ofInts h2]; rfl
theorem Iss.ofBools:∀ {ns:List Bool} {vs:List V},Iss K H (ns.map PyData.bool) vs→vs=ns.map V.bl
  | [],_,h=>h.nil_of
  | n::r,_,h=>by
    obtain ⟨v,t,e,h1,h2⟩:=h.cons_of
    rw [e,h1.ofBool,Iss.ofBools h2]; rfl
theorem Is.isNone {d:PyData} {v:V} (h:Is K H d v):(v=.non)↔d=.none:=by
  cases d with
  | none=>simp [h.ofNone]
  | bool b=>simp [h.ofBool]
  | int i=>simp [h.ofInt]
  | str x=>simp [h.ofStr]
  | list ds=>obtain ⟨a,xs,e,_⟩:=h.ofLst; simp [e]
  | tuple ds=>obtain ⟨a,xs,e,_⟩:=h.ofTup; simp [e]
  | dict _=>unfold Is at h; rcases h with ⟨a,ns,e,_⟩ | ⟨a,C,dx,fs,e,_⟩ <;> simp [e]
theorem bt {p:Addr} {o:HO} (h:H p=none):av H (upd H p o):=gW h
theorem kK {A:List Addr} {p:Addr} {o:HO} (h:p∈A):del (upd H p o) A=del H A:=by
  funext b
  by_cases z:b∈A
  · rw [hU z,hU z]
  · rw [bA z,bA z,aQ (by rintro rfl; exact z h)]
theorem gz {A:List Addr} {ds:List PyData} {xs:List V} {p:Addr} (hA:Ls H A) (hp:H p=none) (h:Iss K (del H A) ds xs):Is K (del (upd H p (.tup xs)) A) (.tuple ds) (.ref p) :=
  f6 (by rw [bA (hA.new hp)]; exact bQ) (h.same (av.del (bt hp)))
theorem fQ {A:List Addr} {ds:List PyData} {xs:List V} {p:Addr} (hA:Ls H A) (hp:H p=none) (h:Iss K (del H A) ds xs):Is K (del (upd H p (.lst xs)) A) (.list ds) (.ref p) :=
  ng (by rw [bA (hA.new hp)]; exact bQ) (h.same (av.del (bt hp)))
end
noncomputable abbrev Ds:=List (Option PyData)
structure cL (K:PySem.W.Frag) (H:Hp) (A:List Addr) (δ:Ds) (σ:St):Prop where
  ls:Ls H A
  len:δ.length=σ.length
  get:∀ (i:Nat) (d:PyData),δ[i]?=some (some d)→∃ v,σ[i]?=some (some v)∧Is K (del H A) d v
theorem cL.same {K:PySem.W.Frag} {H H':Hp} {A:List Addr} {δ:Ds} {σ:St} (R:cL K H A δ σ) (s:av H H'):cL K H' A δ σ :=
  ⟨R.ls.same s,R.len,fun i d e=>by
    obtain ⟨v,e1,h⟩:=R.get i d e
    exact ⟨v,e1,h.same s.del⟩⟩
noncomputable def fj (K:PySem.W.Frag) (E:XK) (A:List Addr) (H:Hp) (r:Rs PyData) (Q:VK):Prop:=match r with
  | .ok d=>∀ v H',av H H'→Is K (del H' A) d v→Q v H'
  | .rz C=>∀ H',av H H'→E (.ref C) none H'
  | .no=>False
noncomputable def xf (K:PySem.W.Frag) (E:XK) (A:List Addr) (H:Hp) (r:Rs (List PyData)) (Q:List V→Hp→Prop):Prop:=match r with
  | .ok d=>∀ v H',av H H'→Iss K (del H' A) d v→Q v H'
  | .rz C=>∀ H',av H H'→E (.ref C) none H'
  | .no=>False
noncomputable def lS (E:XK) (H:Hp) (r:Rs Bool) (Q:Bool→Hp→Prop):Prop:=match r with
  | .ok d=>∀ H',av H H'→Q d H'
  | .rz C=>∀ H',av H H'→E (.ref C) none H'
  | .no=>False
noncomputable def eD (K:PySem.W.Frag) (E:XK) (g:Ds→Rs PyData):TE:=fun σ H Q=>∃ A δ,cL K H A δ σ∧fj K E A H (g δ) Q
noncomputable def aD (K:PySem.W.Frag) (E:XK) (g:Ds→Rs (List PyData)):TA:=fun σ H Q=>∃ A δ,cL K H A δ σ∧xf K E A H (g δ) Q
noncomputable def cD (K:PySem.W.Frag) (E:XK) (g:Ds→Rs Bool):TT:=fun σ H Q=>∃ A δ,cL K H A δ σ∧lS E H (g δ) Q
noncomputable def PD (X:Cx) (E:XK) (e:Expr) (g:Ds→Rs PyData):Prop:=PE X e (eD X.K E g)
noncomputable def PAD (X:Cx) (E:XK) (es:List Expr) (g:Ds→Rs (List PyData)):Prop:=PA X es (aD X.K E g)∧∀ δ ds,g δ=.ok ds→ds.length=es.length
noncomputable def PCD (X:Cx) (E:XK) (e:Expr) (g:Ds→Rs Bool):Prop:=PT X e (cD X.K E g)
noncomputable def PWD (X:Cx) (E:XK) (e:Expr) (g:Ds→Rs Bool):Prop:=PW X e (cD X.K E g)
theorem PE.imp {X:Cx} {e:Expr} {t t':TE} (h:PE X e t) (k:∀ σ H Q,t' σ H Q→t σ H Q):PE X e t':=fun pins s σ H Q I q=>h pins s σ H Q I (k σ H Q q)
theorem PT.imp {X:Cx} {e:Expr} {t t':TT} (h:PT X e t) (k:∀ σ H Q,t' σ H Q→t σ H Q):PT X e t':=fun pins s σ H Q I q=>h pins s σ H Q I (k σ H Q q)
theorem PW.imp {X:Cx} {e:Expr} {t t':TT} (h:PW X e t) (k:∀ σ H Q,t' σ H Q→t σ H Q):PW X e t':=fun w pins s σ H Q I q=>h w pins s σ H Q I (k σ H Q q)
theorem PA.imp {X:Cx} {e:List Expr} {t t':TA} (h:PA X e t) (k:∀ σ H Q,t' σ H Q→t σ H Q):PA X e t':=fun p pins s σ H Q I q=>h p pins s σ H Q I (k σ H Q q)
theorem PS.imp {X:Cx} {e:Stmt} {t t':TS} (h:PS X e t) (k:∀ D σ H,t' D σ H→t D σ H):PS X e t':=fun pins s σ H D I q=>h pins s σ H D I (k D σ H q)
theorem PSs.imp {X:Cx} {e:List Stmt} {t t':TS} (h:PSs X e t) (k:∀ D σ H,t' D σ H→t D σ H):PSs X e t':=fun pins s σ H D I q=>h pins s σ H D I (k D σ H q)
theorem fj.mono {K:PySem.W.Frag} {E:XK} {A:List Addr} {H H1:Hp} {r:Rs PyData} {Q:VK} (h:fj K E A H r Q) (s:av H H1):fj K E A H1 r Q:=by
  cases r with
  | ok d=>exact fun v H' s' q=>h v H' (s.trans s') q
  | rz C=>exact fun H' s'=>h H' (s.trans s')
  | no=>exact h
theorem lS.mono {E:XK} {H H1:Hp} {r:Rs Bool} {Q:Bool→Hp→Prop} (h:lS E H r Q) (s:av H H1):lS E H1 r Q:=by
  cases r with
  | ok d=>exact fun H' s'=>h H' (s.trans s')
  | rz C=>exact fun H' s'=>h H' (s.trans s')
  | no=>exact h
theorem eD.run {K:PySem.W.Frag} {E:XK} {g:Ds→Rs PyData} {σ:St} {H:Hp} {A:List Addr} {δ:Ds} {Q:VK} (R:cL K H A δ σ)
    (ok:∀ d,g δ=.ok d→∀ v H',av H H'→cL K H' A δ σ→Is K (del H' A) d v→Q v H') (rz:∀ C,g δ=.rz C→∀ H',av H H'→E (.ref C) none H') (no:g δ=.no→False):eD K E g σ H Q:=by
  refine ⟨A,δ,R,?_⟩
  cases e:g δ with
  | ok d=>exact fun v H' s q=>ok d e v H' s (R.same s) q
  | rz C=>exact fun H' s=>rz C e H' s
  | no=>exact no e
theorem aD.run {K:PySem.W.Frag} {E:XK} {g:Ds→Rs (List PyData)} {σ:St} {H:Hp} {A:List Addr} {δ:Ds} {Q:List V→Hp→Prop} (R:cL K H A δ σ)
    (ok:∀ d,g δ=.ok d→∀ v H',av H H'→cL K H' A δ σ→Iss K (del H' A) d v→Q v H') (rz:∀ C,g δ=.rz C→∀ H',av H H'→E (.ref C) none H') (no:g δ=.no→False):aD K E g σ H Q:=by
  refine ⟨A,δ,R,?_⟩
  cases e:g δ with
  | ok d=>exact fun v H' s q=>ok d e v H' s (R.same s) q
  | rz C=>exact fun H' s=>rz C e H' s
  | no=>exact no e
theorem cD.run {K:PySem.W.Frag} {E:XK} {g:Ds→Rs Bool} {σ:St} {H:Hp} {A:List Addr} {δ:Ds} {Q:Bool→Hp→Prop} (R:cL K H A δ σ)
    (ok:∀ d,g δ=.ok d→∀ H',av H H'→cL K H' A δ σ→Q d H') (rz:∀ C,g δ=.rz C→∀ H',av H H'→E (.ref C) none H') (no:g δ=.no→False):cD K E g σ H Q:=by
  refine ⟨A,δ,R,?_⟩
  cases e:g δ with
  | ok d=>exact fun H' s=>ok d e H' s (R.same s)
  | rz C=>exact fun H' s=>rz C e H' s
  | no=>exact no e
end L2
set_option maxRecDepth 100000
set_option maxHeartbeats 4000000
namespace L2
open PySem PySem.Spec PyProof.Rows
noncomputable def ai (i:Nat):Ds→Rs PyData:=fun δ=>match δ[i]? with
  | some (some d)=>.ok d
  | _=>.no
noncomputable def gC (d:PyData):Ds→Rs PyData:=fun _=>.ok d
noncomputable def g1 (f:PyData→Option PyData) (a:Ds→Rs PyData):Ds→Rs PyData:=fun δ=>(a δ).bind fun x=>Rs.c7 (f x)
noncomputable def g2 (f:PyData→PyData→Option PyData) (a b:Ds→Rs PyData):Ds→Rs PyData:=fun δ=>(a δ).bind fun x=>(b δ).bind fun y=>Rs.c7 (f x y)
noncomputable def gF (f:List PyData→Option PyData) (as:Ds→Rs (List PyData)):Ds→Rs PyData:=fun δ=>(as δ).bind fun ds=>Rs.c7 (f ds)
noncomputable def au:Ds→Rs (List PyData):=fun _=>.ok []
noncomputable def af (a:Ds→Rs PyData) (r:Ds→Rs (List PyData)):Ds→Rs (List PyData):=fun δ=>(a δ).bind fun x=>(r δ).bind fun xs=>.ok (x::xs)
noncomputable def dG (as:Ds→Rs (List PyData)):Ds→Rs PyData:=fun δ=>(as δ).bind fun ds=>.ok (.tuple ds)
noncomputable def ly (as:Ds→Rs (List PyData)):Ds→Rs PyData:=fun δ=>(as δ).bind fun ds=>.ok (.list ds)
noncomputable def aG (gf:List PyData→Rs PyData) (as:Ds→Rs (List PyData)):Ds→Rs PyData:=fun δ=>(as δ).bind gf
noncomputable def truth:PyData→Rs Bool
  | .bool b=>.ok b
  | _=>.no
noncomputable def gT (a:Ds→Rs PyData):Ds→Rs Bool:=fun δ=>(a δ).bind truth
noncomputable def fG (a:Ds→Rs Bool):Ds→Rs Bool:=fun δ=>(a δ).bind fun b=>.ok (!b)
noncomputable def xp (a b:Ds→Rs Bool):Ds→Rs Bool:=fun δ=>(a δ).bind fun x=>if x=true then b δ else .ok false
noncomputable def cOr (a b:Ds→Rs Bool):Ds→Rs Bool:=fun δ=>(a δ).bind fun x=>if x=true then .ok true else b δ
noncomputable def sL (a b:Ds→Rs PyData):Ds→Rs PyData:=fun δ=>(a δ).bind fun x=>(truth x).bind fun t=>if t=true then b δ else .ok (.bool false)
noncomputable def gOr (a b:Ds→Rs PyData):Ds→Rs PyData:=fun δ=>(a δ).bind fun x=>(truth x).bind fun t=>if t=true then .ok (.bool true) else b δ
noncomputable def wZ (a:Ds→Rs PyData):Ds→Rs PyData:=fun δ=>(a δ).bind fun x=>(truth x).bind fun t=>.ok (.bool (!t))
section
variable {X:Cx} {E:XK} {a b c e:Expr} {ga gb gc:Ds→Rs PyData} {pos:Pos}
theorem ah (i:Nat) {x:Str} {pos:Pos} (hN:X.N[i]?=some x:=by rfl) (hv:Vis X.env.scope x:=by first | exact Or.inl rfl | exact Or.inr (Or.inl rfl) | exact Or.inr (Or.inr rfl)) (hd:(x == ("__debug__":Str))=false:=by decide)
    (hcd:(x == ("__classdict__":Str))=false:=by decide):PD X E (.Name x pos) (ai i) :=
  (fL hN hv hd hcd).imp fun σ H Q ⟨A,δ,R,o⟩=>by
    unfold ai at o
    split at o
    · rename_i d e
      obtain ⟨v,e1,h⟩:=R.get i d e
      exact ⟨v,e1,o v H (av.refl H) h⟩
    · exact o.elim
theorem qh {v:V} {d:PyData} (h:PE X e (tC v)) (hi:∀ K H,Is K H d v):PD X E e (gC d):=h.imp fun σ H Q ⟨A,δ,R,o⟩=>o v H (av.refl H) (hi _ _)
theorem ar {i j pos}:PD X E (.Constant (.int i) j pos) (gC (.int i)):=qh eR fun _ _=>bP
theorem gO {i j pos}:PD X E (.Constant (.bool i) j pos) (gC (.bool i)):=qh wA fun _ _=>is_bool
theorem ee {j pos}:PD X E (.Constant .none j pos) (gC .none):=qh uo fun _ _=>is_none
theorem k9 {i j pos}:PD X E (.Constant (.str i) j pos) (gC (.str i)):=qh qu fun _ _=>kL
theorem dY {i:Int} {x:Str} {pos:Pos} (hm:∃ t,X.mg x=some (.int i t)) (hg:Gl X x:=by rfl) (hd:(x == ("__debug__":Str))=false:=by decide):PD X E (.Name x pos) (gC (.int i)):=by
  obtain ⟨t,hm⟩:=hm
  exact qh (k8 (v:=.int i) hg hm ⟨_,rfl⟩ hd) fun _ _=>bP
noncomputable def OpD (K:PySem.W.Frag) (f:PyData→PyData→Option PyData) (r:R2):Prop :=
  ∀ (d1 d2 d:PyData) (x y:V) (H:Hp) (A:List Addr) (Q:VK),f d1 d2=some d→Ls H A→Is K (del H A) d1 x→Is K (del H A) d2 y→(∀ v H',av H H'→Is K (del H' A) d v→Q v H')→r x y H Q
theorem g2.read {r:R2} {f:PyData→PyData→Option PyData} {σ:St} {H:Hp} {A:List Addr} {δ:Ds} {Q:VK} {K:PySem.W.Frag} (hr:OpD K f r) (R:cL K H A δ σ) (o:fj K E A H (g2 f ga gb δ) Q) :
    tOp r (eD K E ga) (eD K E gb) σ H Q:=by
  unfold g2 at o
  refine eD.run R (fun d1 e1 v H1 s1 R1 h1=>?_) (fun C e1 H' s'=>?_) (fun e1=>?_)
  · rw [e1] at o
    refine eD.run R1 (fun d2 e2 u H2 s2 R2 h2=>?_) (fun C e2 H' s'=>?_) (fun e2=>?_)
    · simp only [Rs.aq,e2] at o
      cases e3:f d1 d2 with
      | none=>rw [e3] at o; exact o.elim
      | some d =>
        rw [e3] at o
        exact hr d1 d2 d v u H2 A Q e3 R2.ls (h1.same s2.del) h2 fun w H' s q=>o w H' (s1.trans (s2.trans s)) q
    · simp only [Rs.aq,e2,Rs.eQ] at o
      exact o H' (s1.trans s')
    · simp only [Rs.aq,e2,Rs.bX] at o
      exact o
  · rw [e1] at o; exact o H' s'
  · rw [e1] at o; exact o
theorem fF {r:R2} {f:PyData→PyData→Option PyData} (hr:OpD X.K f r) (ha:PD X E a ga) (hb:PD X E b gb) (mk:∀ {ta tb:TE},PE X a ta→PE X b tb→PE X e (tOp r ta tb)):PD X E e (g2 f ga gb) :=
  (mk ha hb).imp fun σ H Q ⟨A,δ,R,o⟩=>g2.read hr R o
theorem lq {r:R2} {f:PyData→PyData→Option PyData} (hr:OpD X.K f r) (ha:PD X E a ga) (hb:PD X E b gb) (mk:∀ {ta tb:TE},PE X a ta→PE X b tb→PT X e (tJ (tOp r ta tb))):PCD X E e (gT (g2 f ga gb)) :=
  (mk ha hb).imp fun σ H Q ⟨A,δ,R,o⟩=>by
    refine g2.read (Q:=fun x H'=>∃ k,x=.bl k∧Q k H') hr R ?_
    unfold gT at o
    cases q:g2 f ga gb δ with
    | no=>rw [q] at o; exact o
    | rz C=>rw [q] at o; exact o
    | ok d =>
      rw [q] at o
      cases d with
      | bool k=>exact fun v H' s h=>⟨k,h.ofBool,o H' s⟩
      | _=>exact o.elim
noncomputable def dI (f:Int→Int→Option PyData):PyData→PyData→Option PyData
  | .int i,.int j=>f i j
  | _,_=>none
theorem oV {f:Int→Int→Option PyData} {d1 d2 d:PyData} (h:dI f d1 d2=some d):∃ i j,d1=.int i∧d2=.int j∧f i j=some d:=by
  unfold dI at h
  split at h
  · exact ⟨_,_,rfl,rfl,h⟩
  · cases h
noncomputable def gY:=dI fun i j=>some (.int (i - j))
noncomputable def jL:=dI fun i j=>if 0 < j then some (.int (i % j)) else none
noncomputable def o1:=dI fun i j=>if 0 < j∧j < 1073741824 then some (.int (i / j)) else none
noncomputable def dLt:=dI fun i j=>some (.bool (decide (i < j)))
noncomputable def dLe:=dI fun i j=>some (.bool (decide (i≤j)))
noncomputable def dGt:=dI fun i j=>some (.bool (decide (j < i)))
noncomputable def dGe:=dI fun i j=>some (.bool (decide (j≤i)))
theorem kP {K:PySem.W.Frag} {f:Int→Int→PyData} {v:Int→Int→V} (hv:∀ i j K H,Is K H (f i j) (v i j)):OpD K (dI fun i j=>some (f i j)) (rI0 v):=fun d1 d2 d x y H A Q e hA h1 h2 k=>by
  obtain ⟨i,j,rfl,rfl,e⟩:=oV e
  cases e
  exact ⟨i,j,h1.ofInt,h2.ofInt,k _ H (av.refl H) (hv _ _ _ _)⟩
theorem tP {K:PySem.W.Frag} {C C':Int→Int→Prop} [∀ i j,Decidable (C' i j)] {f:Int→Int→PyData} {v:Int→Int→V} (hc:∀ i j,C' i j→C i j) (hv:∀ i j K H,Is K H (f i j) (v i j)):OpD K (dI fun i j=>if C' i j then some (f i j) else none) (rI C v):=fun d1 d2 d x y H A Q e hA h1 h2 k=>by
  obtain ⟨i,j,rfl,rfl,e2⟩:=oV e
  by_cases z:C' i j
  · simp only [if_pos z] at e2
    cases e2
    exact ⟨i,j,h1.ofInt,h2.ofInt,hc i j z,k _ H (av.refl H) (hv _ _ _ _)⟩
  · simp only [if_neg z] at e2; cases e2
theorem fk (ha:PD X E a ga) (hb:PD X E b gb):PD X E (.BinOp a .Sub b pos) (g2 gY ga gb):=fF (kP fun _ _ _ _=>bP) ha hb (cJ uU)
theorem qf (ha:PD X E a ga) (hb:PD X E b gb):PD X E (.BinOp a .Mod b pos) (g2 jL ga gb):=fF (tP (fun _ _ h=>h) fun _ _ _ _=>bP) ha hb (cJ jJ)
theorem uJ (ha:PD X E a ga) (hb:PD X E b gb):PD X E (.BinOp a .FloorDiv b pos) (g2 o1 ga gb):=fF (tP (C:=vm) (fun _ _ h=>h) fun _ _ _ _=>bP) ha hb (cJ sJ)
theorem u0 (ha:PD X E a ga) (hb:PD X E b gb):PCD X E (.Compare a [.Lt] [b] pos) (gT (g2 dLt ga gb)):=lq (kP fun _ _ _ _=>is_bool) ha hb fun h1 h2=>iU vD h1 h2 (jh _)
open PySem.SeqAt in
noncomputable def dEq (x y:PyData):Option PyData:=if aI x && aI y && shaped x && shaped y then some (.bool (PyData.eqv x y)) else none
open PySem.SeqAt in
noncomputable def dNe (x y:PyData):Option PyData:=if aI x && aI y && shaped x && shaped y then some (.bool (!PyData.eqv x y)) else none
open PySem.SeqAt in
theorem qe {K:PySem.W.Frag}:OpD K dEq (fun x y H Q=>∃ d e,IsD K H d x∧IsD K H e y∧shaped d=true∧shaped e=true∧Q (.bl (PyData.eqv d e)) H):=fun d1 d2 d x y H A Q e hA h1 h2 k=>by
  unfold dEq at e
  split at e
  · rename_i z
    simp only [Bool.and_eq_true] at z
    cases e
    exact ⟨d1,d2,(h1.same ay).isd z.1.1.1,(h2.same ay).isd z.1.1.2,z.1.2,z.2,k _ H (av.refl H) is_bool⟩
  · cases e
open PySem.SeqAt in
theorem ub {K:PySem.W.Frag}:OpD K dNe (fun x y H Q=>∃ d e,IsD K H d x∧IsD K H e y∧shaped d=true∧shaped e=true∧Q (.bl (!PyData.eqv d e)) H):=fun d1 d2 d x y H A Q e hA h1 h2 k=>by
  unfold dNe at e
  split at e
  · rename_i z
    simp only [Bool.and_eq_true] at z
    cases e
    exact ⟨d1,d2,(h1.same ay).isd z.1.1.1,(h2.same ay).isd z.1.1.2,z.1.2,z.2,k _ H (av.refl H) is_bool⟩
  · cases e
theorem tV {k:Nat} (hr:cY k X.A) (ha:PD X E a ga) (hb:PD X E b gb):PD X E (.Compare a [.Eq] [b] pos) (g2 dEq ga gb):=fF qe ha hb fun h1 h2=>n8 (nr hr.units) h1 h2 (jh _)
theorem vd {k:Nat} (hr:cY k X.A) (ha:PD X E a ga) (hb:PD X E b gb):PCD X E (.Compare a [.Eq] [b] pos) (gT (g2 dEq ga gb)):=lq qe ha hb fun h1 h2=>iU (nr hr.units) h1 h2 (jh _)
theorem uZ {k:Nat} (hr:cY k X.A) (ha:PD X E a ga) (hb:PD X E b gb):PCD X E (.Compare a [.NotEq] [b] pos) (gT (g2 dNe ga gb)):=lq ub ha hb fun h1 h2=>iU (uS hr.units) h1 h2 (jh _)
noncomputable def dw:PyData→Bool
  | .none=>true
  | _=>false
noncomputable def sW (x:PyData):Option PyData:=some (.bool (dw x))
noncomputable def j9 (x:PyData):Option PyData:=some (.bool (!dw x))
theorem g1.read {tt:(VK)→VK} {f:PyData→Option PyData} {σ:St} {H:Hp} {A:List Addr} {δ:Ds} {Q:VK} {K:PySem.W.Frag} (R:cL K H A δ σ) (o:fj K E A H (g1 f ga δ) Q)
    (hr:∀ d1 d x H',f d1=some d→Ls H' A→av H H'→Is K (del H' A) d1 x→(∀ v H2,av H' H2→Is K (del H2 A) d v→Q v H2)→tt Q x H'):eD K E ga σ H (tt Q):=by
  unfold g1 at o
  refine eD.run R (fun d1 e1 v H1 s1 R1 h1=>?_) (fun C e1 H' s'=>?_) (fun e1=>?_)
  · simp only [e1,Rs.aq] at o
    cases e3:f d1 with
    | none=>rw [e3] at o; exact o.elim
    | some d=>rw [e3] at o; exact hr d1 d v H1 e3 R1.ls s1 h1 fun w H' s q=>o w H' (s1.trans s) q
  · rw [e1] at o; exact o H' s'
  · rw [e1] at o; exact o
theorem mY {K:PySem.W.Frag} {H:Hp} {d:PyData} {v:V} (h:Is K H d v):decide (v=.non)=dw d:=by
  by_cases z:v=.non
  · rw [decide_eq_true z,h.isNone.mp z]; rfl
  · rw [decide_eq_false z]
    have:d≠.none:=fun q=>z (h.isNone.mpr q)
    cases d <;> first | (exact absurd rfl this) | rfl
theorem qz {j pos'} (ha:PD X E a ga):PD X E (.Compare a [.Is] [.Constant .none j pos'] pos) (g1 sW ga) :=
  (qM (ue ha)).imp fun σ H Q ⟨A,δ,R,o⟩=>g1.read (tt:=fun Q x H1=>Q (.bl (decide (x=.non))) H1) R o fun d1 d x H' e _ _ h k=>by
    cases e; rw [mY h]; exact k _ H' (av.refl _) is_bool
theorem wB {j pos'} (ha:PD X E a ga):PD X E (.Compare a [.IsNot] [.Constant .none j pos'] pos) (g1 j9 ga) :=
  (qM (oK ha)).imp fun σ H Q ⟨A,δ,R,o⟩=>g1.read (tt:=fun Q x H1=>Q (.bl (!decide (x=.non))) H1) R o fun d1 d x H' e _ _ h k=>by
    cases e; rw [mY h]; exact k _ H' (av.refl _) is_bool
theorem qS {t:TE} (h:PT X e (tB t)) (k:∀ σ H Q,eD X.K E ga σ H Q→t σ H Q):PCD X E e (gT ga):=h.imp fun σ H Q ⟨A,δ,R,o⟩=>k σ H _ ⟨A,δ,R,by
  unfold gT at o
  cases q:ga δ with
  | no=>rw [q] at o; exact o
  | rz C=>rw [q] at o; exact o
  | ok d =>
    rw [q] at o
    cases d with
    | bool c=>exact fun v H' s h=>⟨c,h.ofBool,o H' s⟩
    | _=>exact o.elim⟩
theorem bW (h:PD X E e ga) (he:∀ whole,isTrue e X.env whole=(do let v ← whole; standAt e.pos; holding [v] (truthy v)):=by intro _; rfl):PCD X E e (gT ga):=qS (uv h he) fun _ _ _ h=>h
theorem qQ {j pos'} (ha:PD X E a ga):PCD X E (.Compare a [.IsNot] [.Constant .none j pos'] pos) (gT (g1 j9 ga)) :=
  qS (rJ (oK ha)) fun σ H Q ⟨A,δ,R,o⟩=>g1.read (tt:=fun Q x H1=>Q (.bl (!decide (x=.non))) H1) R o fun d1 d x H' e _ _ h k=>by
    cases e; rw [mY h]; exact k _ H' (av.refl _) is_bool
theorem tT {ca:Ds→Rs Bool} {f:Bool→Rs Bool} {σ:St} {H:Hp} {A:List Addr} {δ:Ds} {Q:Bool→Hp→Prop} {K:PySem.W.Frag} {t:Bool→Hp→Prop} (R:cL K H A δ σ) (o:lS E H ((ca δ).bind f) Q)
    (k:∀ b H1,av H H1→cL K H1 A δ σ→lS E H1 (f b) Q→t b H1):cD K E ca σ H t:=by
  refine cD.run R (fun b e H1 s1 R1=>?_) (fun C e H' s'=>?_) (fun e=>?_)
  · rw [e] at o; exact k b H1 s1 R1 (lS.mono (show lS E H (f b) Q from o) s1)
  · rw [e] at o; exact o H' s'
  · rw [e] at o; exact o
variable {ca cb:Ds→Rs Bool} {rest:List Expr}
theorem cn (ha:PCD X E a ca):PCD X E (.UnaryOp .Not a pos) (fG ca):=(t7 ha).imp fun σ H Q ⟨A,δ,R,o⟩=>tT R o fun b H1 s1 R1 o=>o H1 (av.refl _)
theorem gU (ha:PCD X E a ca):PWD X E (.BoolOp .Or [a] pos) ca:=u5 ha
theorem i4 (ha:PCD X E a ca) (hb:PWD X E (.BoolOp .Or (b::rest) pos) cb):PWD X E (.BoolOp .Or (a::b::rest) pos) (cOr ca cb):=PW.imp (vT ha hb) fun σ H Q ⟨A,δ,R,o⟩=>tT R o fun b H1 s1 R1 o=>by
  cases b with
  | false=>exact ⟨A,δ,R1,o⟩
  | true=>exact o H1 (av.refl _)
theorem mx (h:PWD X E e ca):PCD X E e ca:=PW.pt h
theorem tX {f:PyData→Rs PyData} {σ:St} {H:Hp} {A:List Addr} {δ:Ds} {Q:VK} {K:PySem.W.Frag} {t:VK} (R:cL K H A δ σ) (o:fj K E A H ((ga δ).bind f) Q)
    (k:∀ d v H1,av H H1→cL K H1 A δ σ→Is K (del H1 A) d v→fj K E A H1 (f d) Q→t v H1):eD K E ga σ H t:=by
  refine eD.run R (fun d e v H1 s1 R1 h1=>?_) (fun C e H' s'=>?_) (fun e=>?_)
  · rw [e] at o; exact k d v H1 s1 R1 h1 (fj.mono (show fj K E A H (f d) Q from o) s1)
  · rw [e] at o; exact o H' s'
  · rw [e] at o; exact o
theorem jF {K:PySem.W.Frag} {E:XK} {A:List Addr} {H:Hp} {d:PyData} {f:Bool→Rs PyData} {Q:VK} (o:fj K E A H ((truth d).bind f) Q):∃ t,d=.bool t∧fj K E A H (f t) Q:=by
  cases d with
  | bool t=>exact ⟨t,rfl,o⟩
  | _=>exact o.elim
theorem mU {op} (ha:PD X E a ga):PD X E (.BoolOp op [a] pos) ga:=rG ha
theorem p7 (ha:PD X E a ga) (hb:PD X E (.BoolOp .And (b::rest) pos) gb):PD X E (.BoolOp .And (a::b::rest) pos) (sL ga gb):=(qY ha hb).imp fun σ H Q ⟨A,δ,R,o⟩=>tX R o fun d v H1 s1 R1 h1 o=>by
  obtain ⟨t,rfl,o⟩:=jF o
  refine ⟨t,h1.ofBool,?_⟩
  cases t with
  | true=>exact ⟨A,δ,R1,o⟩
  | false=>exact o _ H1 (av.refl _) is_bool
theorem vK (ha:PD X E a ga) (hb:PD X E (.BoolOp .Or (b::rest) pos) gb):PD X E (.BoolOp .Or (a::b::rest) pos) (gOr ga gb):=(wa ha hb).imp fun σ H Q ⟨A,δ,R,o⟩=>tX R o fun d v H1 s1 R1 h1 o=>by
  obtain ⟨t,rfl,o⟩:=jF o
  refine ⟨t,h1.ofBool,?_⟩
  cases t with
  | false=>exact ⟨A,δ,R1,o⟩
  | true=>exact o _ H1 (av.refl _) is_bool
noncomputable def de:PyData→Option PyData
  | .int i=>some (.int (-i))
  | _=>none
theorem dE (ha:PD X E a ga):PD X E (.UnaryOp .USub a pos) (g1 de ga):=(wj u9 ha).imp fun σ H Q ⟨A,δ,R,o⟩=>g1.read (tt:=fun Q x H1=>∃ i,x=.int i∧Q (.int (-i)) H1) R o fun d1 d x H' e _ _ h k=>by
  cases d1 with
  | int i=>cases e; exact ⟨i,h.ofInt,k _ H' (av.refl _) bP⟩
  | _=>cases e
variable {es:List Expr} {gs:Ds→Rs (List PyData)}
theorem aj:PAD X E [] au:=⟨df.imp fun σ H Q ⟨A,δ,R,o⟩=>o [] H (av.refl _) cP,fun δ ds e=>by cases e; rfl⟩
theorem ae (ha:PD X E a ga) (hr:PAD X E es gs) (hs:starEach (a::es) X.env=(false,eval a X.env)::starEach es X.env:=by rfl):PAD X E (a::es) (af ga gs):=by
  refine ⟨(b4 ha hr.1 hs).imp fun σ H Q ⟨A,δ,R,o⟩=>?_,fun δ ds e=>?_⟩
  · unfold af at o
    refine eD.run R (fun d e v H1 s1 R1 h1=>?_) (fun C e H' s'=>?_) (fun e=>?_)
    · simp only [e,Rs.aq] at o
      refine aD.run R1 (fun ds e2 vs H2 s2 R2 h2=>?_) (fun C e2 H' s'=>?_) (fun e2=>?_)
      · simp only [e2,Rs.aq] at o
        exact o _ H2 (s1.trans s2) (cA (h1.same s2.del) h2)
      · simp only [e2,Rs.eQ] at o; exact o H' (s1.trans s')
      · simp only [e2,Rs.bX] at o; exact o
    · simp only [e,Rs.eQ] at o; exact o H' s'
    · simp only [e,Rs.bX] at o; exact o
  · unfold af at e
    cases q:ga δ with
    | ok d =>
      cases q2:gs δ with
      | ok l =>
        simp only [q,q2,Rs.aq] at e
        cases e
        simp [hr.2 δ l q2]
      | rz C=>simp only [q,q2,Rs.aq,Rs.eQ] at e; cases e
      | no=>simp only [q,q2,Rs.aq,Rs.bX] at e; cases e
    | rz C=>simp only [q,Rs.eQ] at e; cases e
    | no=>simp only [q,Rs.bX] at e; cases e
theorem lV {f:List PyData→Rs PyData} {σ:St} {H:Hp} {A:List Addr} {δ:Ds} {Q:VK} {K:PySem.W.Frag} {t:List V→Hp→Prop} (R:cL K H A δ σ) (o:fj K E A H ((gs δ).bind f) Q)
    (k:∀ ds vs H1,gs δ=.ok ds→av H H1→cL K H1 A δ σ→Iss K (del H1 A) ds vs→fj K E A H1 (f ds) Q→t vs H1):aD K E gs σ H t:=by
  refine aD.run R (fun d e v H1 s1 R1 h1=>?_) (fun C e H' s'=>?_) (fun e=>?_)
  · rw [e] at o; exact k d v H1 e s1 R1 h1 (fj.mono (show fj K E A H (f d) Q from o) s1)
  · rw [e] at o; exact o H' s'
  · rw [e] at o; exact o
theorem d6 {x1} (h:PAD X E es gs) (hl:es.length≤1000:=by decide):PD X E (.Tuple es x1 pos) (dG gs):=(uY h.1).imp fun σ H Q ⟨A,δ,R,o⟩=>lV R o fun ds vs H1 e s1 R1 h1 o=>by
  have n:=h.2 δ ds e
  have m:=h1.length
  exact ⟨by rw [sizeLine_eq]; omega,fun p hp=>o _ _ (bt hp) (gz R1.ls hp h1)⟩
theorem nE (h:PAD X E es gs) (hl:es.length≤1000:=by decide):PD X E (.List es pos) (ly gs):=(mX h.1).imp fun σ H Q ⟨A,δ,R,o⟩=>lV R o fun ds vs H1 e s1 R1 h1 o=>by
  have n:=h.2 δ ds e
  have m:=h1.length
  exact ⟨by rw [sizeLine_eq]; omega,fun p hp=>o _ _ (bt hp) (fQ R1.ls hp h1)⟩
noncomputable def spD (K:PySem.W.Frag) (n:Nat) (gf:List PyData→Rs PyData):Sp:=fun vs H Q E=>∃ A ds,Ls H A∧Iss K (del H A) ds vs∧ds.length=n∧fj K E A H (gf ds) Q
structure aX (P:Program) (w:World) (K:PySem.W.Frag) (mg:Str→Option Value) (base:Heap) (k:Nat) (x:Str) (n:Nat) (gf:List PyData→Rs PyData):Prop where
  ex:∃ f fd ps,fi P w K mg base (CXW P w) k f fd ps (spD K n gf)∧mg x=some (.ref f)∧PySem.W.keepIn K (.ref f)=true∧Binds K fd ps []
theorem fu {X:Cx}:Passes (CXW X.prog X.w) X E0:=fun _ _ _ _ _ _ _ ⟨_,_,_,_,_,_,h,_⟩=>h.elim
theorem aK {k j:Nat} {x:Str} {p:Pos} {gf:List PyData→Rs PyData} (D:aX X.prog X.w X.K X.mg X.base k x (e::es).length gf) (hr:cY j X.A) (hx:Passes (CXW X.prog X.w) X E) (ha:PAD X E (e::es) gs) (hk:k≤j:=by decide) (hg:Gl X x:=by rfl)
    (hdb:(x == ("__debug__":Str))=false:=by decide) (he:starEach (e::es) X.env=(false,eval e X.env)::starEach es X.env:=by rfl) (hpl:(backTo pos (starEach es X.env)).any (·.1)=false:=by rfl) :
    PD X E (.Call (.Name x p) (e::es) [] pos) (aG gf gs):=by
  obtain ⟨f,fd,ps,F,hm,hkp,hb⟩:=D.ex
  refine (oA F (hr.mono hk) hg hm hkp hb .nil hx ha.1 hdb he hpl).imp fun σ H Q ⟨A,δ,R,o⟩=>lV R o fun ds vs H1 e s1 R1 h1 o=>?_
  refine ⟨A,ds,R1.ls,by simpa using h1,ha.2 δ ds e,o⟩
noncomputable def FnD (K:PySem.W.Frag) (f:List PyData→Option PyData) (r:List V→Hp→VK→Prop):Prop :=
  ∀ (ds:List PyData) (d:PyData) (vs:List V) (H:Hp) (A:List Addr) (Q:VK),f ds=some d→Ls H A→Iss K (del H A) ds vs→(∀ v H',av H H'→Is K (del H' A) d v→Q v H')→r vs H Q
theorem dN {r:List V→Hp→VK→Prop} {f:List PyData→Option PyData} (hf:FnD X.K f r) (ha:PAD X E es gs) (mk:∀ {t:TA},PA X es t→PE X e (tCB r t)):PD X E e (gF f gs) :=
  (mk ha.1).imp fun σ H Q ⟨A,δ,R,o⟩=>lV R o fun ds vs H1 e s1 R1 h1 o=>by
    cases q:f ds with
    | none=>rw [q] at o; exact o.elim
    | some d=>rw [q] at o; exact hf ds d vs H1 A Q q R1.ls h1 o
end
end L2
set_option maxRecDepth 100000
set_option maxHeartbeats 4000000
namespace L2
open PySem PySem.Spec PyProof.Rows
section
variable {X:Cx} {E:XK} {a b c e:Expr} {ga gb gc:Ds→Rs PyData} {pos:Pos} {es:List Expr} {gs:Ds→Rs (List PyData)}
noncomputable def tO (K:PySem.W.Frag):R2:=fun x y H Q=>∃ a b xs ys,x=.ref a∧y=.ref b∧SqT K H a xs∧SqT K H b ys∧xs.length + ys.length≤sizeLine ∧
  (xs=[]→Q (.ref b) H)∧(xs≠[]→ys=[]→Q (.ref a) H)∧(xs≠[]→ys≠[]→∀ p,H p=none→Q (.ref p) (upd H p (.tup (xs++ys))))
theorem rZ:OpR X (binaryOp .Add) (tO X.K):=by
  intro pins s σ H x y v u Q I rx ry h
  obtain ⟨a,b,xs,ys,rfl,rfl,ha,hb,hz,q0,q1,q2⟩:=h
  by_cases hx:xs=[]
  · cases rx
    cases ry
    obtain ⟨vs,r1,p1,_⟩:=I.tuple ha
    obtain ⟨ws,r2,p2,_⟩:=I.tuple hb
    obtain ⟨⟨cls,dd,data,sl⟩,ho,hc,n,hd⟩:=id p1
    obtain ⟨⟨cls2,dd2,data2,sl2⟩,ho2,hc2,n2,hd2⟩:=id p2
    simp only at hc hd hc2 hd2
    subst hc hd hc2 hd2
    have hv:vs=[]:=r1.nil_iff.mpr hx
    exact concat_meets ⟨_,ho,rfl⟩ ⟨_,ho2,rfl⟩ noFill_tuple_add seq_tuple_add PySem.F.slot_tuple_add PySem.F.entry_tuple_add (PySem.F.args_tuple_add_2 _ _)
      (tuple_addW0 a b vs.toArray ws.toArray n n2 dd dd2 sl sl2 (by simp [hv])) ⟨ho,ho2,⟨.ref b,H,I,rfl,q0 hx⟩⟩
  · exact rY pins s σ H _ _ v u Q I rx ry ⟨a,b,xs,ys,rfl,rfl,ha,hb,hx,hz,q1 hx,q2 hx⟩
noncomputable def bb:PyData→PyData→Option PyData
  | .int i,.int j=>some (.int (i + j))
  | .list x,.list y=>if x.length + y.length≤1000000 then some (.list (x++y)) else none
  | .tuple x,.tuple y=>if x.length + y.length≤1000000 then some (.tuple (x++y)) else none
  | _,_=>none
theorem sQ {K:PySem.W.Frag}:OpD K bb (fun x y H Q=>rI0 (fun i j=>.int (i + j)) x y H Q∨wq x y H Q∨tO K x y H Q):=fun d1 d2 d x y H A Q e hA h1 h2 k=>by
  unfold bb at e
  split at e
  · cases e
    exact .inl ⟨_,_,h1.ofInt,h2.ofInt,k _ H (av.refl _) bP⟩
  · rename_i l1 l2
    split at e
    · rename_i hz
      cases e
      obtain ⟨p,xs,rfl,hp,hx⟩:=h1.ofLst
      obtain ⟨q,ys,rfl,hq,hy⟩:=h2.ofLst
      refine .inr (.inl ⟨p,q,xs,ys,rfl,rfl,ay _ _ hp,ay _ _ hq,by rw [hx.length,hy.length,sizeLine_eq]; omega,fun r hr=>k _ _ (bt hr) (fQ hA hr (hx.append hy))⟩)
    · cases e
  · rename_i l1 l2
    split at e
    · rename_i hz
      cases e
      obtain ⟨p,xs,rfl,hp,hx⟩:=h1.ofTup
      obtain ⟨q,ys,rfl,hq,hy⟩:=h2.ofTup
      refine .inr (.inr ⟨p,q,xs,ys,rfl,rfl,SqT.of (ay _ _ hp),SqT.of (ay _ _ hq),by rw [hx.length,hy.length,sizeLine_eq]; omega,fun z=>?_,fun _ z=>?_,fun _ _ r hr=>k _ _ (bt hr) (gz hA hr (hx.append hy))⟩)
      · subst z
        have:l1=[]:=List.length_eq_zero_iff.mp (by rw [← hx.length]; rfl)
        subst this
        exact k _ H (av.refl _) (f6 hq hy)
      · subst z
        have:l2=[]:=List.length_eq_zero_iff.mp (by rw [← hy.length]; rfl)
        subst this
        rw [List.append_nil] at k
        exact k _ H (av.refl _) (f6 hp hx)
    · cases e
  · cases e
theorem bE (ha:PD X E a ga) (hb:PD X E b gb):PD X E (.BinOp a .Add b pos) (g2 bb ga gb):=fF sQ ha hb (cJ (ia.or (ud.or rZ)))
noncomputable def dIx:PyData→PyData→Option PyData
  | .list x,.int i=>atI x i
  | .tuple x,.int i=>atI x i
  | _,_=>none
theorem oj {K:PySem.W.Frag} {H:Hp} {ds:List PyData} {vs:List V} {i:Int} {d:PyData} (h:Iss K H ds vs) (e:atI ds i=some d):∃ v,atI vs i=some v∧Is K H d v:=by
  unfold atI at e ⊢
  rw [h.length]
  cases q:ixN ds.length i with
  | none=>rw [q] at e; cases e
  | some j=>rw [q] at e; exact h.getD e
theorem um {K:PySem.W.Frag}:OpD K dIx (fun x y H Q=>vN K x y H Q∨vV K x y H Q):=fun d1 d2 d x y H A Q e hA h1 h2 k=>by
  unfold dIx at e
  split at e
  · obtain ⟨p,xs,rfl,hp,hx⟩:=h1.ofLst
    obtain ⟨v,ev,hv⟩:=oj hx e
    exact .inl ⟨p,xs,_,v,rfl,h2.ofInt,SqL.of (ay _ _ hp),ev,k _ H (av.refl _) hv⟩
  · obtain ⟨p,xs,rfl,hp,hx⟩:=h1.ofTup
    obtain ⟨v,ev,hv⟩:=oj hx e
    exact .inr ⟨p,xs,_,v,rfl,h2.ofInt,SqT.of (ay _ _ hp),ev,k _ H (av.refl _) hv⟩
  · cases e
theorem cI (ha:PD X E a ga) (hb:PD X E b gb) (hs:n5 b:=by intro _ _; rfl):PD X E (.Subscript a b pos) (g2 dIx ga gb):=fF um ha hb fun h1 h2=>qA (kR.or va) h1 h2 hs
noncomputable def dm:List PyData→Option PyData
  | [.list x]=>some (.int x.length)
  | [.tuple x]=>some (.int x.length)
  | _=>none
theorem fT {K:PySem.W.Frag} {H:Hp} {d:PyData} {vs:List V} (h:Iss K H [d] vs):∃ v,vs=[v]∧Is K H d v:=by
  obtain ⟨v,r,rfl,h1,h2⟩:=h.cons_of
  rw [h2.nil_of]
  exact ⟨v,rfl,h1⟩
theorem wb {K:PySem.W.Frag} {H:Hp} {d e:PyData} {vs:List V} (h:Iss K H [d,e] vs):∃ v u,vs=[v,u]∧Is K H d v∧Is K H e u:=by
  obtain ⟨v,r,rfl,h1,h2⟩:=h.cons_of
  obtain ⟨u,rfl,h3⟩:=fT h2
  exact ⟨v,u,rfl,h1,h3⟩
theorem sS {K:PySem.W.Frag}:FnD K dm (fun xs H Q=>∃ p ys,xs=[.ref p]∧(SqL K H p ys∨SqT K H p ys)∧Q (.int ys.length) H):=fun ds d vs H A Q e hA h k=>by
  unfold dm at e
  split at e
  · cases e
    obtain ⟨v,rfl,hh⟩:=fT h
    obtain ⟨p,xs,rfl,hp,hx⟩:=hh.ofLst
    exact ⟨p,xs,rfl,.inl (SqL.of (ay _ _ hp)),k _ H (av.refl _) (by rw [hx.length]; exact bP)⟩
  · cases e
    obtain ⟨v,rfl,hh⟩:=fT h
    obtain ⟨p,xs,rfl,hp,hx⟩:=hh.ofTup
    exact ⟨p,xs,rfl,.inr (SqT.of (ay _ _ hp)),k _ H (av.refl _) (by rw [hx.length]; exact bP)⟩
  · cases e
theorem ec {p:Pos} (hm:X.mg "len"=none) (ha:PAD X E (a::es) gs) (hg:Gl X "len":=by rfl) (he:starEach (a::es) X.env=(false,eval a X.env)::starEach es X.env:=by rfl) (hpl:(backTo pos (starEach es X.env)).any (·.1)=false:=by rfl) :
    PD X E (.Call (.Name "len" p) (a::es) [] pos) (gF dm gs):=dN sS ha fun h=>dO fc hg hm PySem.boot_len h (by decide) (by decide) he hpl
theorem nP:bootBuiltins "int"=some (.type "int"):=by decide +kernel
theorem rO:bootBuiltins "bool"=some (.type "bool"):=by decide +kernel
theorem lR:bootBuiltins "tuple"=some (.type "tuple"):=by decide +kernel
theorem nX:bootBuiltins "list"=some (.type "list"):=by decide +kernel
theorem jZ:bootBuiltins "isinstance"=some (.builtin "isinstance"):=by decide +kernel
theorem uK:bootBuiltins "all"=some (.builtin "all"):=by decide +kernel
theorem t4:bootBuiltins "min"=some (.builtin "min"):=by decide +kernel
noncomputable def fX:List PyData→Option (List Int)
  | []=>some []
  | .int i::r=>(fX r).map (i::·)
  | _::_=>none
theorem eW:∀ {ds:List PyData} {ns:List Int},fX ds=some ns→ds=ns.map PyData.int
  | [],_,h=>by cases h; rfl
  | .int i::r,ns,h=>by
    unfold fX at h
    cases q:fX r with
    | none=>rw [q] at h; cases h
    | some l=>rw [q] at h; cases h; rw [eW q]; rfl
  | .none::_,_,h=>by cases h
  | .bool _::_,_,h=>by cases h
  | .str _::_,_,h=>by cases h
  | .list _::_,_,h=>by cases h
  | .tuple _::_,_,h=>by cases h
  | .dict _::_,_,h=>by cases h
theorem ic:∀ (ns:List Int),fX (ns.map PyData.int)=some ns
  | []=>rfl
  | n::r=>by rw [List.map_cons]; unfold fX; rw [ic r]; rfl
noncomputable def ej:List PyData→Option (List Bool)
  | []=>some []
  | .bool i::r=>(ej r).map (i::·)
  | _::_=>none
theorem iy:∀ {ds:List PyData} {ns:List Bool},ej ds=some ns→ds=ns.map PyData.bool
  | [],_,h=>by cases h; rfl
  | .bool i::r,ns,h=>by
    unfold ej at h
    cases q:ej r with
    | none=>rw [q] at h; cases h
    | some l=>rw [q] at h; cases h; rw [iy q]; rfl
  | .none::_,_,h=>by cases h
  | .int _::_,_,h=>by cases h
  | .str _::_,_,h=>by cases h
  | .list _::_,_,h=>by cases h
  | .tuple _::_,_,h=>by cases h
  | .dict _::_,_,h=>by cases h
theorem jB:∀ (ns:List Bool),ej (ns.map PyData.bool)=some ns
  | []=>rfl
  | n::r=>by rw [List.map_cons]; unfold ej; rw [jB r]; rfl
noncomputable def xA:List PyData→Option PyData
  | [.list x]=>(fX x).map fun ns=>.int ns.sum
  | _=>none
noncomputable def mQ:List PyData→Option PyData
  | [.list x]=>(ej x).map fun ns=>.bool (ns.all id)
  | _=>none
theorem sF {K:PySem.W.Frag}:FnD K mQ (fun xs H Q=>∃ (a:Addr) (ns:List Bool),xs=[.ref a]∧SqL K H a (ns.map V.bl)∧Q (.bl (ns.all id)) H):=fun ds d vs H A Q e hA h k=>by
  unfold mQ at e
  split at e
  · rename_i x
    cases q:ej x with
    | none=>rw [q] at e; cases e
    | some ns =>
      rw [q] at e; cases e
      obtain ⟨v,rfl,hh⟩:=fT h
      obtain ⟨p,xs,rfl,hp,hx⟩:=hh.ofLst
      rw [iy q] at hx
      rw [hx.ofBools] at hp
      exact ⟨p,ns,rfl,SqL.of (ay _ _ hp),k _ H (av.refl _) is_bool⟩
  · cases e
theorem nv {p:Pos} (hc:X.calm=true) (hm:X.mg "all"=none) (ha:PAD X E (a::es) gs) (hg:Gl X "all":=by rfl) (he:starEach (a::es) X.env=(false,eval a X.env)::starEach es X.env:=by rfl) (hpl:(backTo pos (starEach es X.env)).any (·.1)=false:=by rfl) :
    PD X E (.Call (.Name "all" p) (a::es) [] pos) (gF mQ gs):=dN sF ha fun h=>dO (qP hc) hg hm uK h (by decide) (by decide) he hpl
noncomputable def i5:List PyData→Option PyData
  | [.int i,.int j]=>some (.int (if j < i then j else i))
  | _=>none
noncomputable def wd:List PyData→Option PyData
  | [.int i,.int j]=>some (.int (if j > i then j else i))
  | _=>none
theorem rm {K:PySem.W.Frag}:FnD K i5 (fun xs H Q=>∃ i j,xs=[.int i,.int j]∧Q (.int (if j < i then j else i)) H):=fun ds d vs H A Q e hA h k=>by
  unfold i5 at e
  split at e
  · cases e
    obtain ⟨v,u,rfl,h1,h2⟩:=wb h
    rw [h1.ofInt,h2.ofInt]
    exact ⟨_,_,rfl,k _ H (av.refl _) bP⟩
  · cases e
theorem oC {p:Pos} (hc:X.calm=true) (hm:X.mg "min"=none) (ha:PAD X E (a::es) gs) (hg:Gl X "min":=by rfl) (he:starEach (a::es) X.env=(false,eval a X.env)::starEach es X.env:=by rfl) (hpl:(backTo pos (starEach es X.env)).any (·.1)=false:=by rfl) :
    PD X E (.Call (.Name "min" p) (a::es) [] pos) (gF i5 gs):=dN rm ha fun h=>dO (o4 hc) hg hm t4 h (by decide) (by decide) he hpl
noncomputable def oX:List PyData→Option PyData
  | [.int i]=>some (.int i)
  | [.bool k]=>some (.int (if k then 1 else 0))
  | _=>none
theorem rQ {K:PySem.W.Frag}:FnD K oX (fun xs H Q=>(∃ i,xs=[.int i]∧Q (.int i) H)∨∃ k,xs=[.bl k]∧Q (.int (if k then 1 else 0)) H):=fun ds d vs H A Q e hA h k=>by
  unfold oX at e
  split at e
  · cases e
    obtain ⟨v,rfl,h1⟩:=fT h
    rw [h1.ofInt]
    exact .inl ⟨_,rfl,k _ H (av.refl _) bP⟩
  · cases e
    obtain ⟨v,rfl,h1⟩:=fT h
    rw [h1.ofBool]
    exact .inr ⟨_,rfl,k _ H (av.refl _) bP⟩
  · cases e
theorem qc {p:Pos} (hm:X.mg "int"=none) (ha:PAD X E (a::es) gs) (hg:Gl X "int":=by rfl) (he:starEach (a::es) X.env=(false,eval a X.env)::starEach es X.env:=by rfl) (hpl:(backTo pos (starEach es X.env)).any (·.1)=false:=by rfl) :
    PD X E (.Call (.Name "int" p) (a::es) [] pos) (gF oX gs):=dN rQ ha fun h=>eE j6 hg hm nP h (by decide) (by decide) he hpl
noncomputable def fH:List PyData→Option PyData
  | [.list x]=>some (.tuple x)
  | [.tuple x]=>some (.tuple x)
  | _=>none
noncomputable def kf:List PyData→Option PyData
  | [.list x]=>some (.list x)
  | [.tuple x]=>some (.list x)
  | _=>none
theorem pB {K:PySem.W.Frag}:FnD K fH (fun xs H Q=>∃ p ys,xs=[.ref p]∧((SqL K H p ys∧∀ l,H l=none→Q (.ref l) (upd H l (.tup ys)))∨(SqT K H p ys∧Q (.ref p) H))):=fun ds d vs H A Q e hA h k=>by
  unfold fH at e
  split at e
  · cases e
    obtain ⟨v,rfl,hh⟩:=fT h
    obtain ⟨p,xs,rfl,hp,hx⟩:=hh.ofLst
    exact ⟨p,xs,rfl,.inl ⟨SqL.of (ay _ _ hp),fun l hl=>k _ _ (bt hl) (gz hA hl hx)⟩⟩
  · cases e
    obtain ⟨v,rfl,hh⟩:=fT h
    obtain ⟨p,xs,rfl,hp,hx⟩:=hh.ofTup
    exact ⟨p,xs,rfl,.inr ⟨SqT.of (ay _ _ hp),k _ H (av.refl _) (f6 hp hx)⟩⟩
  · cases e
theorem qa {K:PySem.W.Frag}:FnD K kf (fun xs H Q=>∃ p ys,xs=[.ref p]∧(SqL K H p ys∨SqT K H p ys)∧∀ l,H l=none→Q (.ref l) (upd H l (.lst ys))):=fun ds d vs H A Q e hA h k=>by
  unfold kf at e
  split at e
  · cases e
    obtain ⟨v,rfl,hh⟩:=fT h
    obtain ⟨p,xs,rfl,hp,hx⟩:=hh.ofLst
    exact ⟨p,xs,rfl,.inl (SqL.of (ay _ _ hp)),fun l hl=>k _ _ (bt hl) (fQ hA hl hx)⟩
  · cases e
    obtain ⟨v,rfl,hh⟩:=fT h
    obtain ⟨p,xs,rfl,hp,hx⟩:=hh.ofTup
    exact ⟨p,xs,rfl,.inr (SqT.of (ay _ _ hp)),fun l hl=>k _ _ (bt hl) (fQ hA hl hx)⟩
  · cases e
theorem f9 {p:Pos} (hm:X.mg "tuple"=none) (ha:PAD X E (a::es) gs) (hg:Gl X "tuple":=by rfl) (he:starEach (a::es) X.env=(false,eval a X.env)::starEach es X.env:=by rfl) (hpl:(backTo pos (starEach es X.env)).any (·.1)=false:=by rfl) :
    PD X E (.Call (.Name "tuple" p) (a::es) [] pos) (gF fH gs):=dN pB ha fun h=>eE jT hg hm lR h (by decide) (by decide) he hpl
theorem pI {p:Pos} (hm:X.mg "list"=none) (ha:PAD X E (a::es) gs) (hg:Gl X "list":=by rfl) (he:starEach (a::es) X.env=(false,eval a X.env)::starEach es X.env:=by rfl) (hpl:(backTo pos (starEach es X.env)).any (·.1)=false:=by rfl) :
    PD X E (.Call (.Name "list" p) (a::es) [] pos) (gF kf gs):=dN qa ha fun h=>eE lj hg hm nX h (by decide) (by decide) he hpl
noncomputable def ll (T:String) (d:PyData):Option PyData:=if aI d then some (.bool (kD d T)) else none
theorem g5 {T:Str} {T':String} {p p':Pos} (hm:X.mg "isinstance"=none) (hmT:X.mg T=none) (hb:bootBuiltins T=some (.type T')) (hT:T'∈["bool", "int", "list", "tuple"]) (ha:PD X E a ga)
    (hg:Gl X "isinstance":=by rfl) (hgT:Gl X T:=by rfl) (hn:T≠"__name__":=by decide) (hdT:(T == ("__debug__":Str))=false:=by decide) (hs:starEach [a,.Name T p'] X.env=(false,eval a X.env)::starEach [.Name T p'] X.env:=by rfl)
    (hs2:starEach [.Name T p'] X.env=(false,eval (.Name T p') X.env)::starEach [] X.env:=by rfl) (hpl:(backTo pos (starEach [.Name T p'] X.env)).any (·.1)=false:=by rfl) :
    PD X E (.Call (.Name "isinstance" p) [a,.Name T p'] [] pos) (g1 (ll T') ga):=by
  refine (dO my hg hm jZ (b4 ha (b4 (n9 (v:=.ty T') hgT hmT hb rfl hn hdT) df hs2) hs) (by decide) (by decide) hs hpl).imp fun σ H Q ⟨A,δ,R,o⟩=>?_
  refine g1.read (tt:=fun Q x H1=>∃ d v T,[x,V.ty T']=[v,.ty T]∧IsD X.K H1 d v∧T∈["bool", "int", "list", "tuple"]∧Q (.bl (kD d T)) H1) R o fun d1 d x H' e _ _ h k=>?_
  unfold ll at e
  split at e
  · rename_i z
    cases e
    exact ⟨d1,x,T',rfl,(h.same ay).isd z,hT,k _ H' (av.refl _) is_bool⟩
  · cases e
end
end L2
set_option maxRecDepth 100000
set_option maxHeartbeats 4000000
namespace L2
open PySem PySem.Spec PyProof.Rows
noncomputable def pY (K:PySem.W.Frag) (J:It) (ds:List PyData) (G:Hp):Prop:=∀ (H1:Hp) (B:List Addr),av G H1→Ls H1 B→(∀ b∈B,G b=none) →
  (∀ i,i < ds.length→J.go i H1)∧J.stop ds.length H1∧∀ i x H2,i < ds.length→J.yld i H1 x H2→av H1 H2∧∃ d,ds[i]?=some d∧Is K (del H2 B) d x
noncomputable def outI (K:PySem.W.Frag) (E:XK) (A:List Addr) (H:Hp) (r:Rs (List PyData)) (R:It→Hp→Prop):Prop:=match r with
  | .ok ds=>∀ J H',av H H'→pY K J ds (del H' A)→R J H'
  | .rz C=>∀ H',av H H'→E (.ref C) none H'
  | .no=>False
noncomputable def iD (K:PySem.W.Frag) (E:XK) (g:Ds→Rs (List PyData)):TI:=fun σ H R=>∃ A δ,cL K H A δ σ∧outI K E A H (g δ) R
noncomputable def PID (X:Cx) (E:XK) (tg iter:Expr) (g:Ds→Rs (List PyData)):Prop:=PI X tg iter (iD X.K E g)
theorem PI.imp {X:Cx} {tg it:Expr} {t t':TI} (h:PI X tg it t) (k:∀ σ H R,t' σ H R→t σ H R):PI X tg it t':=fun pins s σ H R I q=>h pins s σ H R I (k σ H R q)
theorem PI.or {X:Cx} {tg it:Expr} {t t':TI} (h:PI X tg it t) (h':PI X tg it t'):PI X tg it (fun σ H R=>t σ H R∨t' σ H R):=fun pins s σ H R I q=>q.elim (h pins s σ H R I) (h' pins s σ H R I)
section
variable {X:Cx} {E:XK} {tg a:Expr} {ga:Ds→Rs PyData} {pos:Pos}
noncomputable def oy:PyData→Rs (List PyData)
  | .list ds=>.ok ds
  | .tuple ds=>.ok ds
  | _=>.no
theorem lC {G H1:Hp} {B:List Addr} (s:av G H1) (hB:∀ b∈B,G b=none):av G (del H1 B):=fun b o e=>by
  rw [bA (fun z=>by rw [hB b z] at e; cases e)]
  exact s b o e
theorem pP {K:PySem.W.Frag} {G:Hp} {p:Addr} {xs:List V} {ds:List PyData} (hp:G p=some (.lst xs)) (h:Iss K G ds xs):pY K (Itl K p) ds G:=fun H1 B s _ hB=>by
  have hl:=h.length
  have hS:SqL K H1 p xs:=SqL.of (s _ _ hp)
  refine ⟨fun i hi=>⟨xs,xs[i]'(by omega),hS,List.getElem?_eq_getElem _⟩,⟨xs,hS,by omega⟩,fun i x H2 hi y=>?_⟩
  obtain ⟨rfl,y⟩:=y
  obtain ⟨d,e,hd⟩:=h.get (y xs hS)
  exact ⟨av.refl _,d,e,hd.same (lC s hB)⟩
theorem qb {K:PySem.W.Frag} {G:Hp} {p:Addr} {xs:List V} {ds:List PyData} (hp:G p=some (.tup xs)) (h:Iss K G ds xs):pY K (Itt K p) ds G:=fun H1 B s _ hB=>by
  have hl:=h.length
  have hS:SqT K H1 p xs:=SqT.of (s _ _ hp)
  refine ⟨fun i hi=>⟨xs,xs[i]'(by omega),hS,List.getElem?_eq_getElem _⟩,⟨xs,hS,by omega⟩,fun i x H2 hi y=>?_⟩
  obtain ⟨rfl,y⟩:=y
  obtain ⟨d,e,hd⟩:=h.get (y xs hS)
  exact ⟨av.refl _,d,e,hd.same (lC s hB)⟩
noncomputable def gE (g:Ds→Rs PyData):Ds→Rs (List PyData):=fun δ=>(g δ).bind oy
theorem gG (h:PD X E a ga):PID X E tg a (gE ga):=(PI.or (tf h) (uW h)).imp fun σ H R ⟨A,δ,Rp,o⟩=>by
  unfold gE at o
  cases q:ga δ with
  | no=>rw [q] at o; exact o.elim
  | rz C=>rw [q] at o; exact .inl (eD.run Rp (fun d e=>by rw [q] at e; cases e) (fun C' e H' s=>by rw [q] at e; cases e; exact o H' s) (fun e=>by rw [q] at e; cases e))
  | ok d =>
    rw [q] at o
    cases d with
    | list ds =>
      refine .inl (eD.run Rp (fun d e v H1 s1 R1 h1=>?_) (fun C' e=>by rw [q] at e; cases e) (fun e=>by rw [q] at e; cases e))
      rw [q] at e; cases e
      obtain ⟨p,xs,rfl,hp,hx⟩:=h1.ofLst
      exact ⟨p,rfl,⟨xs,SqL.of (ay _ _ hp)⟩,o _ H1 s1 (pP hp hx)⟩
    | tuple ds =>
      refine .inr (eD.run Rp (fun d e v H1 s1 R1 h1=>?_) (fun C' e=>by rw [q] at e; cases e) (fun e=>by rw [q] at e; cases e))
      rw [q] at e; cases e
      obtain ⟨p,xs,rfl,hp,hx⟩:=h1.ofTup
      exact ⟨p,rfl,⟨xs,SqT.of (ay _ _ hp)⟩,o _ H1 s1 (qb hp hx)⟩
    | _=>exact o.elim
noncomputable def bx (lo:Int) (n:Nat):List PyData:=(List.range n).map fun (i:Nat)=>PyData.int (lo + (i:Int))
theorem b7 (lo:Int) (n:Nat):(bx lo n).length=n:=by simp [bx]
theorem nS {K:PySem.W.Frag} {G:Hp} {lo:Int} {n:Nat}:pY K (Itr lo n) (bx lo n) G:=fun H1 B s _ hB=>by
  refine ⟨fun i hi=>by rw [b7] at hi; exact hi,by rw [b7]; exact Nat.le_refl _,fun i x H2 hi y=>?_⟩
  obtain ⟨rfl,rfl⟩:=y
  rw [b7] at hi
  exact ⟨av.refl _,_,by simp [bx,hi],bP⟩
noncomputable def rW:List PyData→Rs (List PyData)
  | [.int j]=>if -(2 ^ 62)≤j∧j < 2 ^ 62 then .ok (bx 0 j.toNat) else .no
  | _=>.no
noncomputable def vt:List PyData→Rs (List PyData)
  | [.int i,.int j]=>if -(2 ^ 62)≤i∧i < 2 ^ 62∧-(2 ^ 62)≤j∧j < 2 ^ 62 then .ok (bx i (j - i).toNat) else .no
  | _=>.no
noncomputable def fZ (g:Ds→Rs (List PyData)):Ds→Rs (List PyData):=fun δ=>(g δ).bind rW
noncomputable def v8 (g:Ds→Rs (List PyData)):Ds→Rs (List PyData):=fun δ=>(g δ).bind vt
theorem nG {gs:Ds→Rs (List PyData)} {f:List PyData→Rs (List PyData)} {σ:St} {H:Hp} {A:List Addr} {δ:Ds} {R:It→Hp→Prop} {K:PySem.W.Frag} {t:List V→Hp→Prop} (Rp:cL K H A δ σ) (o:outI K E A H ((gs δ).bind f) R)
    (k:∀ ds vs H1,gs δ=.ok ds→av H H1→cL K H1 A δ σ→Iss K (del H1 A) ds vs→outI K E A H1 (f ds) R→t vs H1):aD K E gs σ H t:=by
  refine aD.run Rp (fun d e v H1 s1 R1 h1=>?_) (fun C e H' s'=>?_) (fun e=>?_)
  · rw [e] at o
    refine k d v H1 e s1 R1 h1 ?_
    have o:outI K E A H (f d) R:=o
    cases q:f d with
    | ok ds=>rw [q] at o; exact fun J H' s j=>o J H' (s1.trans s) j
    | rz C=>rw [q] at o; exact fun H' s=>o H' (s1.trans s)
    | no=>rw [q] at o; exact o
  · rw [e] at o; exact o H' s'
  · rw [e] at o; exact o
theorem eO {gs:Ds→Rs (List PyData)} {p:Pos} (hm:X.mg "range"=none) (ha:PAD X E [a] gs) (hg:Gl X "range":=by rfl) (hs:starEach [a] X.env=[(false,eval a X.env)]:=by rfl) :
    PID X E tg (.Call (.Name "range" p) [a] [] pos) (fZ gs):=(pO hg hm ha.1 hs).imp fun σ H R ⟨A,δ,Rp,o⟩=>nG Rp o fun ds vs H1 e s1 R1 h1 o=>by
  unfold rW at o
  split at o
  · split at o
    · rename_i z
      obtain ⟨v,rfl,h⟩:=fT h1
      rw [h.ofInt]
      exact ⟨_,rfl,z.1,z.2,o _ H1 (av.refl _) nS⟩
    · exact o.elim
  · exact o.elim
noncomputable def TgD (K:PySem.W.Frag) (n0 n:Nat) (tgt:PyData→Option Ds) (g:TG):Prop:=∀ (d:PyData) (v:V) (σ σ':St) (H:Hp) (A:List Addr) (Q:St→Hp→Prop) (own:Ds),σ.length=n0→σ'.length=n→Ls H A→Is K (del H A) d v→tgt d=some own →
  own.length=n∧((∀ vs:St,vs.length=n→(∀ (i:Nat) e,own[i]?=some (some e)→∃ u,vs[i]?=some (some u)∧Is K (del H A) e u)→Q (σ++vs) H)→g v (σ++σ') H Q)
noncomputable def cw:PyData→Option Ds:=fun d=>some [some d]
theorem eM {K:PySem.W.Frag} {n0:Nat}:TgD K n0 1 cw (kl n0):=fun d v σ σ' H A Q own h1 h2 hA hd e=>by
  cases e
  refine ⟨rfl,fun k=>?_⟩
  unfold kl
  subst h1
  rw [set_own σ none v σ' h2]
  refine k _ rfl fun i e z=>?_
  match i,z with
  | 0,z=>cases z; exact ⟨v,rfl,hd⟩
noncomputable def eI (cond:Ds→Rs Bool) (elt:Ds→Rs PyData) (tgt:PyData→Option Ds) (δ:Ds):List PyData→Rs (List PyData)
  | []=>.ok []
  | d::r=>match tgt d with
    | none=>.no
    | some own=>(cond (δ++own)).calm.bind fun b=>if b=true then (elt (δ++own)).calm.bind fun x=>(eI cond elt tgt δ r).bind fun xs=>.ok (x::xs) else eI cond elt tgt δ r
noncomputable def da (n0:Nat) (src:Ds→Rs (List PyData)) (cond:Ds→Rs Bool) (elt:Ds→Rs PyData) (tgt:PyData→Option Ds):Ds→Rs (List PyData):=fun δ=>if δ.length=n0 then (src δ).bind fun ds=>if ds.length≤1000000 then eI cond elt tgt δ ds else .no else .no
noncomputable def cB:Ds→Rs Bool:=fun _=>.ok true
noncomputable def vq (K:PySem.W.Frag) (E:XK) (A:List Addr) (H:Hp) (r:Rs (List PyData)) (Q:VK):Prop:=match r with
  | .ok ds=>∀ a xs H',H a=none→av H H'→H' a=some (.lst xs)→Iss K (del H' (a::A)) ds xs→Q (.ref a) H'
  | .rz C=>∀ H',av H H'→E (.ref C) none H'
  | .no=>False
noncomputable def lD (K:PySem.W.Frag) (E:XK) (g:Ds→Rs (List PyData)):TE:=fun σ H Q=>∃ A δ,cL K H A δ σ∧vq K E A H (g δ) Q
noncomputable def PLD (X:Cx) (E:XK) (e:Expr) (g:Ds→Rs (List PyData)):Prop:=PE X e (lD X.K E g)
noncomputable def gL (g:Ds→Rs (List PyData)):Ds→Rs PyData:=fun δ=>(g δ).bind fun ds=>.ok (.list ds)
theorem o3 {H:Hp} {a:Addr} {A:List Addr}:av (del H (a::A)) (del H A):=fun b o e=>by
  obtain ⟨z,e⟩:=c4 e
  rw [bA (fun q=>z (List.mem_cons_of_mem _ q))]; exact e
theorem ig {e:Expr} {g:Ds→Rs (List PyData)} (h:PLD X E e g):PD X E e (gL g):=PE.imp h fun σ H Q ⟨A,δ,R,o⟩=>⟨A,δ,R,by
  unfold gL at o
  cases q:g δ with
  | no=>rw [q] at o; exact o
  | rz C=>rw [q] at o; exact o
  | ok ds =>
    rw [q] at o
    intro a xs H' hn s hl hi
    exact o _ H' s (ng (by rw [bA (R.ls.new hn)]; exact hl) (hi.same o3))⟩
theorem iP {es:List Expr} {gs:Ds→Rs (List PyData)} (h:PAD X E es gs) (hl:es.length≤1000:=by decide):PLD X E (.List es pos) gs:=(mX h.1).imp fun σ H Q ⟨A,δ,R,o⟩=>by
  refine aD.run R (fun ds e vs H1 s1 R1 h1=>?_) (fun C e H' s'=>by rw [e] at o; exact o H' s') (fun e=>by rw [e] at o; exact o)
  rw [e] at o
  have n:=h.2 δ ds e
  have m:=h1.length
  refine ⟨by rw [sizeLine_eq]; omega,fun p hp=>o p vs _ (s1.free hp) (s1.trans (bt hp)) bQ (h1.same ?_)⟩
  refine fun b o e=>?_
  obtain ⟨z,e⟩:=c4 e
  have:b≠p:=aP e hp
  rw [bA (by simp [this,z]),aQ this]; exact e
theorem ui {K:PySem.W.Frag} {own:List Str} {gi:Ds→Rs (List PyData)} {g:TG} {tt:TT} {cond:Ds→Rs Bool} {ge:Ds→Rs PyData} {tgt:PyData→Option Ds} {n0:Nat} (hT:TgD K n0 own.length tgt g) (htt:∀ σ H Q,cD K E0 cond σ H Q→tt σ H Q) :
    ∀ σ H Q,lD K E (da n0 gi cond ge tgt) σ H Q→tLC own.length (iD K E gi) g tt (eD K E0 ge) σ H Q:=by
  intro σ H Q ⟨A,δ,R,o⟩
  unfold da at o
  by_cases hn0:δ.length=n0
  case neg=>rw [if_neg hn0] at o; exact o.elim
  rw [if_pos hn0] at o
  have hσ:σ.length=n0:=by rw [← R.len]; exact hn0
  refine ⟨A,δ,R,?_⟩
  cases q:gi δ with
  | no=>rw [q] at o; exact o
  | rz C=>rw [q] at o; exact o
  | ok ds =>
    rw [q] at o
    have o:vq K E A H (if ds.length≤1000000 then eI cond ge tgt δ ds else .no) Q:=o
    by_cases hz:ds.length≤1000000
    case neg=>rw [if_neg hz] at o; exact o.elim
    rw [if_pos hz] at o
    intro J H1 s1 hJ D hD
    have R1:=R.same s1
    have nD:D ∉ A:=R1.ls.new hD
    cases qo:eI cond ge tgt δ ds with
    | rz C =>
      exfalso
      have:∀ l,eI cond ge tgt δ l≠.rz C:=by
        intro l
        induction l with
        | nil=>intro z; cases z
        | cons d r ih =>
          intro z
          unfold eI at z
          split at z
          · cases z
          · rename_i own' _
            cases c1:cond (δ++own') with
            | ok b =>
              simp only [c1,Rs.gH,Rs.aq] at z
              split at z
              · cases c2:ge (δ++own') with
                | ok x =>
                  simp only [c2,Rs.gH,Rs.aq] at z
                  cases c3:eI cond ge tgt δ r with
                  | ok l=>simp only [c3,Rs.aq] at z; cases z
                  | rz C'=>simp only [c3,Rs.eQ] at z; cases z; exact ih c3
                  | no=>simp only [c3,Rs.bX] at z; cases z
                | rz C'=>simp only [c2,Rs.calm,Rs.bX] at z; cases z
                | no=>simp only [c2,Rs.calm,Rs.bX] at z; cases z
              · exact ih z
            | rz C'=>simp only [c1,Rs.calm,Rs.bX] at z; cases z
            | no=>simp only [c1,Rs.calm,Rs.bX] at z; cases z
      exact this ds qo
    | no=>rw [qo] at o; exact o.elim
    | ok out =>
      rw [qo] at o
      have base:av (del H1 A) (del (upd H1 D (.lst [])) (D::A)):=fun b o e=>by
        obtain ⟨z,e⟩:=c4 e
        have nb:b≠D:=aP e hD
        rw [bA (by simp [nb,z]),aQ nb]; exact e
      refine ⟨fun i m ys H'=>m=ds.length - i∧i≤ds.length∧av H1 H'∧H' D=some (.lst ys)∧ys.length≤i∧∃ dn rest,eI cond ge tgt δ (ds.drop i)=.ok rest∧out=dn++rest∧Iss K (del H' (D::A)) dn ys,
        ⟨ds.length,by simp,Nat.zero_le _,bt hD,bQ,Nat.le_refl _,[],out,qo,rfl,cP⟩,?_⟩
      rintro i m ys H' ⟨rfl,hi,sm,hl,hy,dn,rest,c1,c2,c3⟩
      refine ⟨hl,?_⟩
      have sG:av (del H1 A) H':=ay.trans sm
      have hBn:∀ b∈D::A,(del H1 A) b=none:=fun b hb=>by
        rcases List.mem_cons.mp hb with z | z
        · rw [z,bA nD]; exact hD
        · exact hU z
      obtain ⟨jg,js,jy⟩:=hJ H' (D::A) sG (fun b hb=>by
        rcases List.mem_cons.mp hb with z | z
        · exact ⟨ys,by rw [z]; exact hl⟩
        · exact (R1.ls.same sm) b z) hBn
      by_cases hlt:i < ds.length
      · refine .inr ⟨jg i hlt,fun x H2 σ' hσ' y=>?_⟩
        obtain ⟨s2,d,ed,hd⟩:=jy i x H2 hlt y
        have edr:ds.drop i=d::ds.drop (i + 1):=by
          rw [List.drop_eq_getElem_cons hlt]
          have:ds[i]=d:=by
            have:=List.getElem?_eq_getElem hlt
            rw [this] at ed; exact Option.some.inj ed
          rw [this]
        rw [edr] at c1
        unfold eI at c1
        cases et:tgt d with
        | none=>rw [et] at c1; cases c1
        | some ow =>
          rw [et] at c1
          have l2:H2 D=some (.lst ys):=s2 _ _ hl
          have LsD:Ls H2 (D::A):=fun b hb=>by
            rcases List.mem_cons.mp hb with z | z
            · exact ⟨ys,by rw [z]; exact l2⟩
            · exact (R1.ls.same (sm.trans s2)) b z
          obtain ⟨hol,hgo⟩:=hT d x σ σ' H2 (D::A) (fun σ2 H2=>tt σ2 H2 fun b H3 =>
            if b=true then eD K E0 ge σ2 H3 fun v H4=>H4 D=some (.lst ys)∧ys.length < sizeLine∧(∃ σ'',σ2=σ++σ''∧σ''.length=own.length)∧∃ m',m' < ds.length - i∧_
            else (∃ σ'',σ2=σ++σ''∧σ''.length=own.length)∧∃ m',m' < ds.length - i∧_) ow hσ hσ' LsD hd et
          refine hgo fun vs hvs hown=>?_
          have sAll:av (del H1 A) (del H2 (D::A)):=lC (sG.trans s2) hBn
          have RE:cL K H2 (D::A) (δ++ow) (σ++vs):=by
            refine ⟨LsD,by rw [List.length_append,List.length_append,R.len,hvs,hol],fun k e ek=>?_⟩
            by_cases hk:k < δ.length
            · rw [List.getElem?_append_left hk] at ek
              obtain ⟨u,e1,hu⟩:=R1.get k e ek
              exact ⟨u,by rw [List.getElem?_append_left (by rw [← R.len]; exact hk)]; exact e1,hu.same sAll⟩
            · rw [List.getElem?_append_right (by omega)] at ek
              obtain ⟨u,e1,hu⟩:=hown _ e ek
              exact ⟨u,by rw [List.getElem?_append_right (by rw [← R.len]; omega),← R.len]; exact e1,hu⟩
          have bad:∀ r:Rs Bool,r=.rz 0→r.calm=.no:=fun r e=>by rw [e]; rfl
          refine htt _ _ _ (cD.run RE (fun b eb H3 s3 R3=>?_) (fun C eb=>?_) (fun eb=>?_))
          · simp only [eb,Rs.gH,Rs.aq] at c1
            cases b with
            | true =>
              simp only [if_true] at c1
              refine eD.run R3 (fun xd ex v H4 s4 R4 hv=>?_) (fun C ex=>?_) (fun ex=>?_)
              · simp only [ex,Rs.gH,Rs.aq] at c1
                cases cr:eI cond ge tgt δ (ds.drop (i + 1)) with
                | ok rs =>
                  simp only [cr,Rs.aq] at c1
                  cases c1
                  have l4:H4 D=some (.lst ys):=s4 _ _ (s3 _ _ l2)
                  have dU:del (upd H4 D (.lst (ys++[v]))) (D::A)=del H4 (D::A):=kK (List.mem_cons_self)
                  refine ⟨l4,by rw [sizeLine_eq]; omega,⟨vs,rfl,hvs⟩,ds.length - (i + 1),by omega,rfl,hlt,?_,bQ,by simp; omega,dn++[xd],rs,cr,by rw [c2]; simp,?_⟩
                  · exact av.put (((sm.trans s2).trans s3).trans s4) hD
                  · rw [dU]
                    exact (c3.same (av.del (s2.trans (s3.trans s4)))).append (iX hv)
                | rz C=>simp only [cr,Rs.eQ] at c1; cases c1
                | no=>simp only [cr,Rs.bX] at c1; cases c1
              · simp only [ex,Rs.calm,Rs.bX] at c1; cases c1
              · simp only [ex,Rs.calm,Rs.bX] at c1; cases c1
            | false =>
              simp only [Bool.false_eq_true,if_false] at c1
              exact ⟨⟨vs,rfl,hvs⟩,ds.length - (i + 1),by omega,rfl,hlt,(sm.trans s2).trans s3,s3 _ _ l2,by omega,dn,rest,c1,c2,c3.same (av.del (s2.trans s3))⟩
          · simp only [eb,Rs.calm,Rs.bX] at c1; cases c1
          · simp only [eb,Rs.calm,Rs.bX] at c1; cases c1
      · have e:i=ds.length:=by omega
        subst e
        rw [List.drop_length] at c1
        cases c1
        rw [List.append_nil] at c2
        subst c2
        exact .inl ⟨js,o D ys H' (s1.free hD) (s1.trans sm) hl c3⟩
theorem eF {M:List Str} {elt iter:Expr} {ifs:List Expr} {scope:Scope} {own:List Str} {gi:Ds→Rs (List PyData)} {g:TG} {tt:TT} {cond:Ds→Rs Bool} {ge:Ds→Rs PyData} {tgt:PyData→Option Ds} {n0:Nat} (hc:X.calm=true) (hi:PID X E tg iter gi)
    (hT:TgD X.K n0 own.length tgt g) (hg:∀ C s2 H2 fp,PG (blk X M scope own C s2 H2 fp) tg g) (ht:∀ C s2 H2 fp,PTs (blk X M scope own C s2 H2 fp) ifs tt) (htt:∀ σ H Q,cD X.K E0 cond σ H Q→tt σ H Q) (he:∀ C s2 H2 fp,PD (blk X M scope own C s2 H2 fp) E0 elt ge)
    (hB:me X.N M X.env.scope scope own=true:=by rfl) (hs:∀ x,foldedSetIterable iter X.env x=pure x:=by intro _; rfl):PLD X E (.ListComp elt [⟨tg,iter,ifs,0⟩] scope pos) (da n0 gi cond ge tgt) :=
  (qp (own:=own) (te:=eD X.K E0 ge) hc hi hg ht (fun C s2 H2 fp=>he C s2 H2 fp) hB hs).imp (ui hT htt)
end
end L2
set_option maxRecDepth 100000
set_option maxHeartbeats 4000000
namespace L2
open PySem PySem.Spec PyProof.Rows
inductive Sr where
  | nx (δ:Ds)
  | rt (d:PyData)
  | rz (C:Addr)
  | bk (δ:Ds)
  | ct (δ:Ds)
  | no
structure bS (K:PySem.W.Frag) (H0:Hp) (A0:List Addr) (H:Hp) (A:List Addr) (O:List Nat) (δ:Ds) (σ:St):Prop where
  same:av H0 H
  ls0:Ls H0 A0
  new:∀ a∈A,H0 a=none
  ls:Ls H A
  len:δ.length=σ.length
  pl:∀ (i:Nat) d,i ∉ O→δ[i]?=some (some d)→∃ v,σ[i]?=some (some v)∧Is K (del H (A++A0)) d v
  own:∀ (i:Nat) d,i∈O→δ[i]?=some (some d)→∃ a xs ds,σ[i]?=some (some (.ref a))∧a∈A∧H a=some (.lst xs)∧d=.list ds∧Iss K (del H (A++A0)) ds xs
  inj:∀ (i j:Nat) d e a,i∈O→j∈O→δ[i]?=some (some d)→δ[j]?=some (some e)→σ[i]?=some (some (.ref a))→σ[j]?=some (some (.ref a))→i=j
noncomputable def mask (O:List Nat) (δ:Ds):Ds:=if O=[] then δ else δ.mapIdx fun i d=>if i∈O then none else d
theorem l6 (δ:Ds):mask [] δ=δ:=by simp [mask]
theorem qD {O:List Nat} {δ:Ds} {i:Nat} {d:PyData} (h:(mask O δ)[i]?=some (some d)):i ∉ O∧δ[i]?=some (some d):=by
  unfold mask at h
  split at h
  · rename_i z; subst z; exact ⟨by simp,h⟩
  · rw [List.getElem?_mapIdx] at h
    cases q:δ[i]? with
    | none=>rw [q] at h; cases h
    | some x =>
      rw [q] at h
      simp only [Option.map_some,Option.some.injEq] at h
      by_cases z:i∈O
      · rw [if_pos z] at h; cases h
      · rw [if_neg z] at h; exact ⟨z,by rw [h]⟩
theorem qU {O:List Nat} {δ:Ds}:(mask O δ).length=δ.length:=by unfold mask; split <;> simp
theorem mB {H:Hp} {A B:List Addr}:av (del H (A++B)) (del H B):=fun b o e=>by
  obtain ⟨z,e⟩:=c4 e
  rw [bA (fun q=>z (List.mem_append_right _ q))]; exact e
section
variable {K:PySem.W.Frag} {E:XK} {H0 H H1:Hp} {A0 A:List Addr} {O:List Nat} {δ:Ds} {σ:St}
theorem bS.lsA (R:bS K H0 A0 H A O δ σ):Ls H (A++A0):=fun a h=>(List.mem_append.mp h).elim (R.ls a) fun z=>(R.ls0.same R.same) a z
theorem bS.step (R:bS K H0 A0 H A O δ σ) (s:av H H1):bS K H0 A0 H1 A O δ σ where
  same:=R.same.trans s
  ls0:=R.ls0
  new:=R.new
  ls:=R.ls.same s
  len:=R.len
  pl:=fun i d h e=>by
    obtain ⟨v,e1,h1⟩:=R.pl i d h e
    exact ⟨v,e1,h1.same s.del⟩
  own:=fun i d h e=>by
    obtain ⟨a,xs,ds,e1,h1,h2,h3,h4⟩:=R.own i d h e
    exact ⟨a,xs,ds,e1,h1,s _ _ h2,h3,h4.same s.del⟩
  inj:=R.inj
theorem bS.apart (R:bS K H0 A0 H A O δ σ) {a:Addr} (h:a∈A):a ∉ A0:=fun z=>by
  obtain ⟨xs,e⟩:=R.ls0 a z
  rw [R.new a h] at e; cases e
theorem bS.full (R:bS K H0 A0 H A O δ σ):cL K H A0 δ σ where
  ls:=R.ls0.same R.same
  len:=R.len
  get:=fun i d e=>by
    by_cases h:i∈O
    · obtain ⟨a,xs,ds,e1,h1,h2,h3,h4⟩:=R.own i d h e
      subst h3
      exact ⟨_,e1,ng (xs:=xs) (by rw [bA (R.apart h1)]; exact h2) (h4.same mB)⟩
    · obtain ⟨v,e1,h1⟩:=R.pl i d h e
      exact ⟨v,e1,h1.same mB⟩
theorem bS.part (R:bS K H0 A0 H A O δ σ):cL K H (A++A0) (mask O δ) σ where
  ls:=R.lsA
  len:=by rw [qU]; exact R.len
  get:=fun i d e=>by
    obtain ⟨h,e⟩:=qD e
    exact R.pl i d h e
theorem get_set {α:Type} {l:List α} {i j:Nat} {x y:α} (h:(l.set i x)[j]?=some y):(i=j∧y=x)∨(i≠j∧l[j]?=some y):=by
  by_cases z:i=j
  · subst z
    rw [List.getElem?_set_self'] at h
    cases q:l[i]? with
    | none=>rw [q] at h; cases h
    | some w=>rw [q] at h; simp at h; exact .inl ⟨rfl,h.symm⟩
  · rw [List.getElem?_set_ne z] at h; exact .inr ⟨z,h⟩
theorem iT {α:Type} {l:List α} {i j:Nat} {x y:α} (hn:i≠j) (h:l[j]?=some y):(l.set i x)[j]?=some y:=by rw [List.getElem?_set_ne hn]; exact h
theorem bS.set {i:Nat} {d:PyData} {v:V} (R:bS K H0 A0 H A O δ σ) (hi:i ∉ O) (hl:i < δ.length) (h:Is K (del H (A++A0)) d v):bS K H0 A0 H A O (δ.set i (some d)) (σ.set i (some v)) where
  same:=R.same
  ls0:=R.ls0
  new:=R.new
  ls:=R.ls
  len:=by simp [R.len]
  pl:=fun j e hj q=>by
    rcases get_set q with ⟨z,q⟩ | ⟨z,q⟩
    · cases q; subst z
      exact ⟨v,by rw [List.getElem?_set_self (by rw [← R.len]; exact hl)],h⟩
    · obtain ⟨u,e1,h1⟩:=R.pl j e hj q
      exact ⟨u,iT z e1,h1⟩
  own:=fun j e hj q=>by
    rcases get_set q with ⟨z,q⟩ | ⟨z,q⟩
    · subst z; exact absurd hj hi
    · obtain ⟨a,xs,ds,e1,h1⟩:=R.own j e hj q
      exact ⟨a,xs,ds,iT z e1,h1⟩
  inj:=fun j k d' e a hj hk q1 q2 p1 p2=>by
    have n1:i≠j:=fun z=>hi (z ▸ hj)
    have n2:i≠k:=fun z=>hi (z ▸ hk)
    rw [List.getElem?_set_ne n1] at q1 p1
    rw [List.getElem?_set_ne n2] at q2 p2
    exact R.inj j k d' e a hj hk q1 q2 p1 p2
theorem bS.setOwn {i:Nat} {ds:List PyData} {a:Addr} {xs:List V} (R:bS K H0 A0 H A O δ σ) (hi:i∈O) (hl:i < δ.length) (hn:H a=none) (s:av H H1) (ha:H1 a=some (.lst xs)) (h:Iss K (del H1 (a::(A++A0))) ds xs) :
    bS K H0 A0 H1 (a::A) O (δ.set i (some (.list ds))) (σ.set i (some (.ref a))) where
  same:=R.same.trans s
  ls0:=R.ls0
  new:=fun b hb=>by
    rcases List.mem_cons.mp hb with z | z
    · rw [z]; exact R.same.free hn
    · exact R.new b z
  ls:=fun b hb=>by
    rcases List.mem_cons.mp hb with z | z
    · exact ⟨xs,by rw [z]; exact ha⟩
    · exact (R.ls.same s) b z
  len:=by simp [R.len]
  pl:=fun j e hj q=>by
    rcases get_set q with ⟨z,q⟩ | ⟨z,q⟩
    · subst z; exact absurd hi hj
    · obtain ⟨u,e1,h1⟩:=R.pl j e hj q
      refine ⟨u,iT z e1,h1.same fun b o e=>?_⟩
      obtain ⟨y,e⟩:=c4 e
      have nb:b≠a:=aP e hn
      rw [bA (by simpa [nb] using y)]; exact s _ _ e
  own:=fun j e hj q=>by
    have kk:∀ b o,del H (A++A0) b=some o→del H1 (a::A++A0) b=some o:=fun b o e=>by
      obtain ⟨y,e⟩:=c4 e
      have nb:b≠a:=aP e hn
      rw [bA (by simpa [nb] using y)]; exact s _ _ e
    rcases get_set q with ⟨z,q⟩ | ⟨z,q⟩
    · cases q; subst z
      exact ⟨a,xs,ds,by rw [List.getElem?_set_self (by rw [← R.len]; exact hl)],List.mem_cons_self,ha,rfl,h⟩
    · obtain ⟨b,ys,es,e1,h1,h2,h3,h4⟩:=R.own j e hj q
      exact ⟨b,ys,es,iT z e1,List.mem_cons_of_mem _ h1,s _ _ h2,h3,h4.same kk⟩
  inj:=fun j k d' e b hj hk q1 q2 p1 p2=>by
    have old:∀ k,k∈O→i≠k→∀ e,δ[k]?=some (some e)→σ[k]?=some (some (.ref a))→False:=fun k hk _ e q p=>by
      obtain ⟨b,ys,es,e1,h1,h2,_⟩:=R.own k e hk q
      rw [p] at e1; cases e1
      rw [hn] at h2; cases h2
    by_cases z1:i=j
    · by_cases z2:i=k
      · rw [← z1,z2]
      · subst z1
        rw [List.getElem?_set_self (by rw [← R.len]; exact hl)] at p1
        cases p1
        rw [List.getElem?_set_ne z2] at q2 p2
        exact (old k hk z2 e q2 p2).elim
    · by_cases z2:i=k
      · subst z2
        rw [List.getElem?_set_self (by rw [← R.len]; exact hl)] at p2
        cases p2
        rw [List.getElem?_set_ne z1] at q1 p1
        exact (old j hj z1 d' q1 p1).elim
      · rw [List.getElem?_set_ne z1] at q1 p1
        rw [List.getElem?_set_ne z2] at q2 p2
        exact R.inj j k d' e b hj hk q1 q2 p1 p2
theorem bS.put {i:Nat} {ds:List PyData} {a:Addr} {ys:List V} {d0:PyData} (R:bS K H0 A0 H A O δ σ) (hi:i∈O) (hd:δ[i]?=some (some d0)) (hs:σ[i]?=some (some (.ref a))) (ha:a∈A) (h:Iss K (del H (A++A0)) ds ys) :
    bS K H0 A0 (upd H a (.lst ys)) A O (δ.set i (some (.list ds))) σ:=by
  have dU:del (upd H a (.lst ys)) (A++A0)=del H (A++A0):=kK (List.mem_append_left _ ha)
  have hl:i < δ.length:=(List.getElem?_eq_some_iff.mp hd).1
  refine ⟨fun b o e=>?_,R.ls0,R.new,fun b hb=>?_,by simp [R.len],fun j e hj q=>?_,fun j e hj q=>?_,fun j k d' e b hj hk q1 q2 p1 p2=>?_⟩
  · have nb:b≠a:=fun z=>by rw [z,R.new a ha] at e; cases e
    rw [aQ nb]; exact R.same b o e
  · by_cases z:b=a
    · exact ⟨ys,by rw [z,bQ]⟩
    · rw [aQ z]; exact R.ls b hb
  · rcases get_set q with ⟨z,q⟩ | ⟨z,q⟩
    · subst z; exact absurd hi hj
    · rw [dU]; exact R.pl j e hj q
  · rcases get_set q with ⟨z,q⟩ | ⟨z,q⟩
    · cases q; subst z
      exact ⟨a,ys,ds,hs,ha,bQ,rfl,by rw [dU]; exact h⟩
    · obtain ⟨b,zs,es,e1,h1,h2,h3,h4⟩:=R.own j e hj q
      have nb:b≠a:=fun w=>z (R.inj i j _ _ a hi hj hd q hs (by rw [← w]; exact e1))
      exact ⟨b,zs,es,e1,h1,by rw [aQ nb]; exact h2,h3,by rw [dU]; exact h4⟩
  · rcases get_set q1 with ⟨z1,q1⟩ | ⟨z1,q1⟩ <;> rcases get_set q2 with ⟨z2,q2⟩ | ⟨z2,q2⟩
    · rw [← z1,z2]
    · subst z1; exact R.inj i k d0 e b hi hk hd q2 p1 p2
    · subst z2; exact R.inj j i d' d0 b hj hi q1 hd p1 p2
    · exact R.inj j k d' e b hj hk q1 q2 p1 p2
noncomputable def un (H0 G:Hp):Hp:=fun b=>match H0 b with | some o=>some o | none=>G b
theorem qK {H0 G:Hp}:av H0 (un H0 G):=fun b o e=>by unfold un; rw [e]
theorem xb {H0 G:Hp} (h0:av H0 H) (hG:av G H):av G (un H0 G):=fun b o e=>by
  unfold un
  cases q:H0 b with
  | none=>exact e
  | some o2=>have h2:=h0 b o2 q; rw [hG b o e] at h2; exact h2.symm
theorem vz {H0 G:Hp} (h0:av H0 H) (hG:av G H):av (un H0 G) H:=fun b o e=>by
  unfold un at e
  cases q:H0 b with
  | none=>rw [q] at e; exact hG b o e
  | some o2=>rw [q] at e; rw [← Option.some.inj e]; exact h0 b o2 q
theorem bS.more (R:bS K H0 A0 H A O δ σ):bS K (un H0 (del H (A++A0))) A0 H A O δ σ :=
  ⟨vz R.same ay,R.ls0.same qK,fun a h=>by unfold un; rw [R.new a h]; exact hU (List.mem_append_left _ h),R.ls,R.len,R.pl,R.own,R.inj⟩
theorem bS.less {H0':Hp} (R:bS K H0' A0 H A O δ σ) (s:av H0 H0') (l:Ls H0 A0):bS K H0 A0 H A O δ σ:=⟨s.trans R.same,l,fun a h=>s.free (R.new a h),R.ls,R.len,R.pl,R.own,R.inj⟩
end
noncomputable def qX (K:PySem.W.Frag) (E:XK) (H0:Hp) (A0:List Addr) (O:List Nat) (r:Sr) (D:Ends):Prop:=match r with
  | .nx δ=>∀ A σ H,bS K H0 A0 H A O δ σ→D.nx σ H
  | .rt d=>∀ v H,av H0 H→Is K (del H A0) d v→D.rt v H
  | .rz C=>∀ H,av H0 H→E (.ref C) none H
  | .bk δ=>∀ A σ H,bS K H0 A0 H A O δ σ→D.bk σ H
  | .ct δ=>∀ A σ H,bS K H0 A0 H A O δ σ→D.ct σ H
  | .no=>False
noncomputable def sD (K:PySem.W.Frag) (E:XK) (O:List Nat) (G:Ds→Sr):TS:=fun D σ H=>∃ H0 A0 A δ,bS K H0 A0 H A O δ σ∧qX K E H0 A0 O (G δ) D
noncomputable def PSD (X:Cx) (E:XK) (O:List Nat) (s:Stmt) (G:Ds→Sr):Prop:=PS X s (sD X.K E O G)
noncomputable def PBD (X:Cx) (E:XK) (O:List Nat) (ss:List Stmt) (G:Ds→Sr):Prop:=PSs X ss (sD X.K E O G)
noncomputable def b3:Ds→Sr:=fun δ=>.nx δ
noncomputable def bL (a b:Ds→Sr):Ds→Sr:=fun δ=>match a δ with
  | .nx δ'=>b δ'
  | r=>r
noncomputable def ofR {α:Type} (r:Rs α) (k:α→Sr):Sr:=match r with
  | .ok a=>k a
  | .rz C=>.rz C
  | .no=>.no
@[simp] theorem aW {α:Type} (a:α) (k:α→Sr):ofR (.ok a) k=k a:=rfl
@[simp] theorem lA {α:Type} (C:Addr) (k:α→Sr):ofR (.rz C) k=.rz C:=rfl
@[simp] theorem kT {α:Type} (k:α→Sr):ofR (.no:Rs α) k=.no:=rfl
noncomputable def sIf (c:Ds→Rs Bool) (a b:Ds→Sr):Ds→Sr:=fun δ=>ofR (c δ) fun t=>if t=true then a δ else b δ
noncomputable def cM (g:Ds→Rs PyData):Ds→Sr:=fun δ=>ofR (g δ) .rt
noncomputable def ma (g:Ds→Rs PyData):Ds→Sr:=fun δ=>ofR (g δ) fun _=>.nx δ
noncomputable def cU (O:List Nat) (i:Nat) (g:Ds→Rs PyData):Ds→Sr:=fun δ=>if i < δ.length then ofR (g (mask O δ)) fun d=>.nx (δ.set i (some d)) else .no
noncomputable def gq (O:List Nat) (i:Nat) (g:Ds→Rs (List PyData)):Ds→Sr:=fun δ=>if i < δ.length then ofR (g (mask O δ)) fun ds=>.nx (δ.set i (some (.list ds))) else .no
noncomputable def nj (O:List Nat) (i:Nat) (g:Ds→Rs PyData):Ds→Sr:=fun δ=>match δ[i]? with
  | some (some (.list ds))=>ofR (g (mask O δ)) fun d=>if ds.length < 1000000 then .nx (δ.set i (some (.list (ds++[d])))) else .no
  | _=>.no
section
variable {X:Cx} {E:XK} {O:List Nat} {st:Stmt} {ss:List Stmt} {G G':Ds→Sr} {e a b c:Expr} {ga gb:Ds→Rs PyData} {ca:Ds→Rs Bool} {pos:Pos}
theorem b5:PBD X E O [] b3:=kO.imp fun D σ H ⟨H0,A0,A,δ,R,o⟩=>o A σ H R
theorem aA (h1:PSD X E O st G) (h2:PBD X E O ss G'):PBD X E O (st::ss) (bL G G'):=(gA h1 h2).imp fun D σ H ⟨H0,A0,A,δ,R,o⟩=>⟨H0,A0,A,δ,R,by
  unfold bL at o
  cases q:G δ with
  | nx δ'=>rw [q] at o; exact fun A' σ' H' R'=>⟨H0,A0,A',δ',R',o⟩
  | rt d=>rw [q] at o; exact o
  | rz C=>rw [q] at o; exact o
  | bk d=>rw [q] at o; exact o
  | ct d=>rw [q] at o; exact o
  | no=>rw [q] at o; exact o⟩
theorem aJ (h1:PSD X E O st G):PBD X E O [st] G:=(fR h1).imp fun D σ H h=>h
theorem cR {ss':List Stmt} (hc:PCD X E c ca) (h1:PBD X E O ss G) (h2:PBD X E O ss' G'):PSD X E O (.If c ss ss' pos) (sIf ca G G'):=(qB hc h1 h2).imp fun D σ H ⟨H0,A0,A,δ,R,o⟩=>by
  unfold sIf at o
  refine cD.run R.full (fun t et H1 s1 R1=>?_) (fun C et H' s'=>?_) (fun et=>?_)
  · rw [et] at o
    cases t with
    | true=>exact ⟨H0,A0,A,δ,R.step s1,o⟩
    | false=>exact ⟨H0,A0,A,δ,R.step s1,o⟩
  · rw [et] at o; exact o H' (R.same.trans s')
  · rw [et] at o; exact o
theorem ba (h:PD X E e ga):PSD X E O (.Return (some e) pos) (cM ga):=(ip h).imp fun D σ H ⟨H0,A0,A,δ,R,o⟩=>by
  unfold cM at o
  refine eD.run R.full (fun d ed v H1 s1 R1 hv=>?_) (fun C et H' s'=>?_) (fun et=>?_)
  · rw [ed] at o; exact o v H1 (R.same.trans s1) hv
  · rw [et] at o; exact o H' (R.same.trans s')
  · rw [et] at o; exact o
theorem lO (h:PD X E e ga) (hs:swapsWith e none pos.line X.env=pure false:=by rfl):PSD X E O (.Expr e pos) (ma ga):=(iQ h hs).imp fun D σ H ⟨H0,A0,A,δ,R,o⟩=>by
  unfold ma at o
  refine eD.run R.full (fun d ed v H1 s1 R1 hv=>?_) (fun C et H' s'=>?_) (fun et=>?_)
  · rw [ed] at o; exact o A σ H1 (R.step s1)
  · rw [et] at o; exact o H' (R.same.trans s')
  · rw [et] at o; exact o
theorem cu {i:Nat} {x:Str} {pos':Pos} (h:PD X E e ga) (hN:X.N.Nodup) (hO:i ∉ O:=by decide) (hi:X.N[i]?=some x:=by rfl) (hx:Loc X.env.scope x:=by first | exact Or.inl rfl | exact Or.inr rfl) (hs:swapsWith e (some (.Name x pos')) pos.line X.env=pure false:=by rfl)
    (hf:X.fn x=true∨X.env.scope.names.lookup x=some .local:=by first | exact .inl rfl | exact .inr rfl | assumption):PSD X E O (.Assign [.Name x pos'] e pos) (cU O i ga):=(mP hN hi hx h hs hf).imp fun D σ H ⟨H0,A0,A,δ,R,o⟩=>by
  unfold cU at o
  split at o
  · rename_i hl
    refine eD.run R.part (fun d ed v H1 s1 R1 hv=>?_) (fun C et H' s'=>?_) (fun et=>?_)
    · rw [ed] at o; exact o A _ H1 ((R.step s1).set hO hl hv)
    · rw [et] at o; exact o H' (R.same.trans s')
    · rw [et] at o; exact o
  · exact o.elim
theorem gJ {i:Nat} {x:Str} {pos':Pos} {gl:Ds→Rs (List PyData)} (h:PLD X E e gl) (hN:X.N.Nodup) (hO:i∈O:=by decide) (hi:X.N[i]?=some x:=by rfl) (hx:Loc X.env.scope x:=by first | exact Or.inl rfl | exact Or.inr rfl) (hs:swapsWith e (some (.Name x pos')) pos.line X.env=pure false:=by rfl)
    (hf:X.fn x=true∨X.env.scope.names.lookup x=some .local:=by first | exact .inl rfl | exact .inr rfl | assumption):PSD X E O (.Assign [.Name x pos'] e pos) (gq O i gl):=(mP hN hi hx h hs hf).imp fun D σ H ⟨H0,A0,A,δ,R,o⟩=>by
  unfold gq at o
  split at o
  · rename_i hl
    refine ⟨A++A0,mask O δ,R.part,?_⟩
    cases q:gl (mask O δ) with
    | ok ds =>
      rw [q] at o
      exact fun p xs H' hn s hp hi'=>o (p::A) _ H' (R.setOwn hO hl hn s hp hi')
    | rz C=>rw [q] at o; exact fun H' s'=>o H' (R.same.trans s')
    | no=>rw [q] at o; exact o
  · exact o.elim
theorem tyL {K:PySem.W.Frag} {H:Hp} {p:Addr} {xs:List V} (h:H p=some (.lst xs)):tyV K "list" (.ref p) H:=.inl ⟨rfl,xs,SqL.of h⟩
theorem rV {i:Nat} {x:Str} {pn pa pc:Pos} (h:PD X E e ga) (hO:i∈O:=by decide) (hi:X.N[i]?=some x:=by rfl) (hv:Vis X.env.scope x:=by first | exact Or.inl rfl | exact Or.inr (Or.inl rfl) | exact Or.inr (Or.inr rfl))
    (hd:(x == ("__debug__":Str))=false:=by decide) (hcd:(x == ("__classdict__":Str))=false:=by decide) (hst:starEach [e] X.env=(false,eval e X.env)::starEach [] X.env:=by rfl)
    (hbase:attributeBase (.Name x pn) "append" X.env (eval (.Name x pn) X.env)=eval (.Name x pn) X.env:=by rfl)
    (hfew:((backTo pc (starEach [e] X.env)).all (fun x=>!x.1) && (backToKw pc (keywordEach [] X.env)).all (fun x=>x.1.isSome) && decide (([e]:List Expr).length + ([]:List Keyword).length + (if ([]:List Keyword).isEmpty then 0 else 1) < 30))=true:=by rfl)
    (hline:(pa.endLine == pc.line)=true:=by rfl) (hs:swapsWith (.Call (.Attribute (.Name x pn) "append" pa) [e] [] pc) none pos.line X.env=pure false:=by rfl) :
    PSD X E O (.Expr (.Call (.Attribute (.Name x pn) "append" pa) [e] [] pc) pos) (nj O i ga) :=
  (iQ (oS PySem.F.plainAttrs_list PySem.F.slot_list_append PySem.F.type_list_append hX (fL hi hv hd hcd) (b4 h df hst) hbase hfew hline hst rfl) hs).imp fun D σ H ⟨H0,A0,A,δ,R,o⟩=>by
    unfold nj at o
    split at o
    · rename_i ds q
      obtain ⟨p,xs,ds',e1,hp,hl,e2,hx⟩:=R.own i _ hO q
      cases e2
      refine ⟨_,e1,tyL hl,?_⟩
      refine eD.run R.part (fun d ed v H1 s1 R1 hv=>?_) (fun C et H' s'=>?_) (fun et=>?_)
      · rw [ed] at o
        have o:qX X.K E H0 A0 O (if ds.length < 1000000 then .nx (δ.set i (some (.list (ds++[d])))) else .no) D:=o
        split at o
        · rename_i hz
          refine ⟨p,xs,v,rfl,rfl,s1 _ _ hl,by rw [hx.length,sizeLine_eq]; omega,?_⟩
          exact o A _ _ ((R.step s1).put hO q e1 hp ((hx.same s1.del).append (iX hv)))
        · exact o.elim
      · rw [et] at o; exact o H' (R.same.trans s')
      · rw [et] at o; exact o
    · exact o.elim
noncomputable def TgS (K:PySem.W.Frag) (O:List Nat) (tgt:PyData→Ds→Option Ds) (g:TG):Prop:=∀ (d:PyData) (v:V) (H0:Hp) (A0:List Addr) (H:Hp) (A:List Addr) (δ δ':Ds) (σ:St) (Q:St→Hp→Prop),bS K H0 A0 H A O δ σ→Is K (del H (A++A0)) d v→tgt d δ=some δ' →
  (∀ σ',bS K H0 A0 H A O δ' σ'→Q σ' H)→g v σ H Q
noncomputable def e9 (i:Nat):PyData→Ds→Option Ds:=fun d δ=>if i < δ.length then some (δ.set i (some d)) else none
theorem jl {K:PySem.W.Frag} {i:Nat} (hi:i ∉ O):TgS K O (e9 i) (kl i):=fun d v H0 A0 H A δ δ' σ Q R h e k=>by
  unfold e9 at e
  split at e
  · rename_i hl
    cases e
    exact k _ (R.set hi hl h)
  · cases e
noncomputable def fB:List Nat→List PyData→Ds→Option Ds
  | [],[],δ=>some δ
  | i::is,d::ds,δ=>if i < δ.length then fB is ds (δ.set i (some d)) else none
  | _,_,_=>none
noncomputable def fM (is:List Nat):PyData→Ds→Option Ds
  | .tuple ds,δ=>fB is ds δ
  | _,_=>none
noncomputable def nz:List Nat→TGs
  | []=>L2.vG
  | i::is=>L2.tU (kl i) (nz is)
theorem iB {K:PySem.W.Frag}:∀ (is:List Nat) (ds:List PyData) (vs:List V) (H0:Hp) (A0:List Addr) (H:Hp) (A:List Addr) (δ δ':Ds) (σ:St) (Q:St→Hp→Prop),(∀ i∈is,i ∉ O)→bS K H0 A0 H A O δ σ→Iss K (del H (A++A0)) ds vs→fB is ds δ=some δ' →
    (∀ σ',bS K H0 A0 H A O δ' σ'→Q σ' H)→nz is vs σ H Q
  | [],[],vs,H0,A0,H,A,δ,δ',σ,Q,_,R,h,e,k=>by
    cases e
    exact ⟨h.nil_of,k σ R⟩
  | i::is,d::ds,vs,H0,A0,H,A,δ,δ',σ,Q,hO,R,h,e,k=>by
    obtain ⟨v,r,rfl,h1,h2⟩:=h.cons_of
    unfold fB at e
    split at e
    · rename_i hl
      exact ⟨v,r,rfl,iB is ds r H0 A0 H A _ δ' _ Q (fun j hj=>hO j (List.mem_cons_of_mem _ hj)) (R.set (hO i List.mem_cons_self) hl h1) h2 e k⟩
    · cases e
  | [],_::_,_,_,_,_,_,_,_,_,_,_,_,_,e,_=>by cases e
  | _::_,[],_,_,_,_,_,_,_,_,_,_,_,_,e,_=>by cases e
theorem jf:∀ {is:List Nat} {ds:List PyData} {δ δ':Ds},fB is ds δ=some δ'→ds.length=is.length
  | [],[],_,_,_=>rfl
  | _::is,_::ds,δ,δ',e=>by
    unfold fB at e
    split at e
    · simp [jf e]
    · cases e
  | [],_::_,_,_,e=>by cases e
  | _::_,[],_,_,e=>by cases e
theorem oW {K:PySem.W.Frag} {is:List Nat} (hi:∀ i∈is,i ∉ O):TgS K O (fM is) (L2.vF K is.length (nz is)):=fun d v H0 A0 H A δ δ' σ Q R h e k=>by
  unfold fM at e
  split at e
  · obtain ⟨p,xs,rfl,hp,hx⟩:=h.ofTup
    exact ⟨p,xs,rfl,SqT.of (ay _ _ hp),by rw [hx.length,jf e],iB is _ xs H0 A0 H A δ δ' σ Q hi R hx e k⟩
  · cases e
noncomputable def forL (tgt:PyData→Ds→Option Ds) (body:Ds→Sr):List PyData→Ds→Sr
  | [],δ=>.nx δ
  | d::r,δ=>match tgt d δ with
    | none=>.no
    | some δ1=>match body δ1 with
      | .nx δ2=>forL tgt body r δ2
      | .ct δ2=>forL tgt body r δ2
      | .bk δ2=>.nx δ2
      | .rt v=>.rt v
      | .rz C=>.rz C
      | .no=>.no
noncomputable def lh (O:List Nat) (src:Ds→Rs (List PyData)) (tgt:PyData→Ds→Option Ds) (body:Ds→Sr):Ds→Sr:=fun δ=>ofR (src (mask O δ)) fun ds=>forL tgt body ds δ
theorem gQ {iter tg:Expr} {gi:Ds→Rs (List PyData)} {tgt:PyData→Ds→Option Ds} {g:TG} (hp:PassesOwn (model X.prog X.w) X.A X.env X.xe) (hc:X.calm=true) (hi:PID X E tg iter gi) (hT:TgS X.K O tgt g) (hg:PG X tg g) (hb:PBD X E O ss G)
    (hs:∀ x,foldedSetIterable iter X.env x=pure x:=by intro _; rfl):PSD X E O (.For tg iter ss [] pos) (lh O gi tgt G):=(uE hp hc hi hg hb hs).imp fun D σ H ⟨H0,A0,A,δ,R,o⟩=>by
  unfold lh at o
  refine ⟨A++A0,mask O δ,R.part,?_⟩
  cases q:gi (mask O δ) with
  | no=>rw [q] at o; exact o
  | rz C=>rw [q] at o; exact fun H' s'=>o H' (R.same.trans s')
  | ok ds =>
    rw [q] at o
    intro J H1 s1 hJ
    have R1:=(R.step s1).more
    have o:qX X.K E H0 A0 O (forL tgt G ds δ) D:=o
    refine ⟨fun i m σ' H'=>m=ds.length - i∧i≤ds.length∧∃ A' δ',bS X.K (un H0 (del H1 (A++A0))) A0 H' A' O δ' σ'∧qX X.K E H0 A0 O (forL tgt G (ds.drop i) δ') D,⟨ds.length,by simp,Nat.zero_le _,A,δ,R1,o⟩,?_⟩
    rintro i m σ' H' ⟨rfl,hi',A',δ',R',o'⟩
    have sG:av (del H1 (A++A0)) (un H0 (del H1 (A++A0))):=xb (R.same.trans s1) ay
    have hB:∀ b∈A'++A0,(del H1 (A++A0)) b=none:=fun b hb=>by
      rcases List.mem_append.mp hb with z | z
      · exact sG.free (R'.new b z)
      · exact hU (List.mem_append_right _ z)
    obtain ⟨jg,js,jy⟩:=hJ H' (A'++A0) (sG.trans R'.same) R'.lsA hB
    by_cases hlt:i < ds.length
    · refine .inr ⟨jg i hlt,?_⟩
      have edr:ds.drop i=ds[i]::ds.drop (i + 1):=List.drop_eq_getElem_cons hlt
      rw [edr] at o'
      unfold forL at o'
      refine ⟨fun σ2 H2=>∃ A2 δ2,bS X.K (un H0 (del H1 (A++A0))) A0 H2 A2 O δ2 σ2∧qX X.K E H0 A0 O (forL tgt G (ds.drop (i + 1)) δ2) D,fun σ2 H2 ⟨A2,δ2,R2,o2⟩=>⟨ds.length - (i + 1),by omega,rfl,hlt,A2,δ2,R2,o2⟩,fun x H2 y=>?_⟩
      obtain ⟨s2,d,ed,hd⟩:=jy i x H2 hlt y
      have:ds[i]=d:=by
        have:=List.getElem?_eq_getElem hlt
        rw [this] at ed; exact Option.some.inj ed
      rw [this] at o'
      cases et:tgt d δ' with
      | none=>rw [et] at o'; exact o'.elim
      | some δ1 =>
        simp only [et] at o'
        refine hT d x _ _ _ _ _ _ _ _ (R'.step s2) hd et fun σ3 R3=>⟨_,_,_,_,R3,?_⟩
        cases eb:G δ1 with
        | nx δ2=>rw [eb] at o'; exact fun A4 σ4 H4 R4=>⟨A4,δ2,R4,o'⟩
        | ct δ2=>rw [eb] at o'; exact fun A4 σ4 H4 R4=>⟨A4,δ2,R4,o'⟩
        | bk δ2=>rw [eb] at o'; exact fun A4 σ4 H4 R4=>o' A4 σ4 H4 (R4.less qK R.ls0)
        | rt v=>rw [eb] at o'; exact fun v4 H4 s4 h4=>o' v4 H4 (qK.trans s4) h4
        | rz C=>rw [eb] at o'; exact fun H4 s4=>o' H4 (qK.trans s4)
        | no=>rw [eb] at o'; exact o'
    · have e:i=ds.length:=by omega
      subst e
      rw [List.drop_length] at o'
      exact .inl ⟨js,o' A' σ' H' (R'.less qK R.ls0)⟩
end
end L2
set_option maxRecDepth 100000
set_option maxHeartbeats 4000000
namespace L2
open PySem PySem.Spec PyProof.Rows
section
variable {X:Cx} {E:XK} {O:List Nat} {st:Stmt} {ss:List Stmt} {G G':Ds→Sr} {e a b c:Expr} {ga gb gk:Ds→Rs PyData} {ca:Ds→Rs Bool} {pos:Pos}
noncomputable def jQ (i:Nat) (gk ge:Ds→Rs PyData):Ds→Sr:=fun δ=>match δ[i]? with
  | some (some (.list ds))=>ofR (ge δ) fun d=>ofR (gk δ) fun k=>match k with
    | .int k=>match ixN ds.length k with
      | some j=>if c0 d then .nx (δ.set i (some (.list (ds.set j d)))) else .no
      | none=>.no
    | _=>.no
  | _=>.no
theorem om {k:Expr} {i:Nat} {x:Str} {pn ps:Pos} (h:PD X E e ga) (hk:PD X E k gk) (hO:i∈O:=by decide) (hi:X.N[i]?=some x:=by rfl) (hv:Vis X.env.scope x:=by first | exact Or.inl rfl | exact Or.inr (Or.inl rfl) | exact Or.inr (Or.inr rfl))
    (hd:(x == ("__debug__":Str))=false:=by decide) (hcd:(x == ("__classdict__":Str))=false:=by decide)
    (ha:∀ v,assign (.Subscript (.Name x pn) k ps) X.env v=(do
      let ov ← holding [v] (eval (.Name x pn) X.env)
      let iv ← holding [v,ov] (eval k X.env)
      standAt ps
      holding [v,ov,iv] (setItem ov iv v)
      release [v,ov,iv] []):=by intro _; rfl)
    (hs:swapsWithSole [.Subscript (.Name x pn) k ps] e pos.line X.env=pure false:=by rfl) (hw:swappedStores [.Subscript (.Name x pn) k ps] e X.env=pure none:=by rfl)
    (h1:(assignEach [.Subscript (.Name x pn) k ps] X.env).map (·.2)=[assign (.Subscript (.Name x pn) k ps) X.env]:=by rfl):PSD X E O (.Assign [.Subscript (.Name x pn) k ps] e pos) (jQ i gk ga) :=
  (uQ h (uC (fL hi hv hd hcd) hk set_list ha) hs hw h1).imp fun D σ H ⟨H0,A0,A,δ,R,o⟩=>by
    unfold jQ at o
    split at o
    · rename_i ds q
      obtain ⟨p,xs,ds',e1,hp,hl,e2,hx⟩:=R.own i _ hO q
      cases e2
      refine eD.run R.full (fun d ed v H1 s1 R1 hv=>?_) (fun C et H' s'=>?_) (fun et=>?_)
      · simp only [ed,aW] at o
        refine ⟨_,e1,?_⟩
        refine eD.run R1 (fun kd ek u H2 s2 R2 hu=>?_) (fun C et H' s'=>?_) (fun et=>?_)
        · simp only [ek,aW] at o
          split at o
          · rename_i kk
            split at o
            · rename_i j hj
              split at o
              · rename_i hn
                have s12:=s1.trans s2
                refine ⟨p,xs,kk,j,rfl,hu.ofInt,s12 _ _ hl,by rw [hx.length]; exact hj,?_⟩
                exact o A _ _ ((R.step s12).put hO q e1 hp (Iss.set (((hv.same s2.del).same ay).dl (R.step s12).lsA hn) j (hx.same s12.del)))
              · exact o.elim
            · exact o.elim
          · exact o.elim
        · simp only [et,lA] at o; exact o H' (R.same.trans (s1.trans s'))
        · simp only [et,kT] at o; exact o
      · simp only [et,lA] at o; exact o H' (R.same.trans s')
      · simp only [et,kT] at o; exact o
    · exact o.elim
noncomputable def rL (O:List Nat) (i:Nat) (g:Ds→Rs PyData):Ds→Sr:=fun δ=>match δ[i]? with
  | some (some (.list ds))=>ofR (g (mask O δ)) fun d=>match d with
    | .list es=>if ds.length + es.length≤1000000 then .nx (δ.set i (some (.list (ds++es)))) else .no
    | _=>.no
  | _=>.no
theorem sO {i:Nat} {x:Str} {pn pa pc:Pos} (h:PD X E e ga) (hO:i∈O:=by decide) (hi:X.N[i]?=some x:=by rfl) (hv:Vis X.env.scope x:=by first | exact Or.inl rfl | exact Or.inr (Or.inl rfl) | exact Or.inr (Or.inr rfl))
    (hd:(x == ("__debug__":Str))=false:=by decide) (hcd:(x == ("__classdict__":Str))=false:=by decide) (hst:starEach [e] X.env=(false,eval e X.env)::starEach [] X.env:=by rfl)
    (hbase:attributeBase (.Name x pn) "extend" X.env (eval (.Name x pn) X.env)=eval (.Name x pn) X.env:=by rfl)
    (hfew:((backTo pc (starEach [e] X.env)).all (fun x=>!x.1) && (backToKw pc (keywordEach [] X.env)).all (fun x=>x.1.isSome) && decide (([e]:List Expr).length + ([]:List Keyword).length + (if ([]:List Keyword).isEmpty then 0 else 1) < 30))=true:=by rfl)
    (hline:(pa.endLine == pc.line)=true:=by rfl) (hs:swapsWith (.Call (.Attribute (.Name x pn) "extend" pa) [e] [] pc) none pos.line X.env=pure false:=by rfl) :
    PSD X E O (.Expr (.Call (.Attribute (.Name x pn) "extend" pa) [e] [] pc) pos) (rL O i ga) :=
  (iQ (oS PySem.F.plainAttrs_list PySem.F.slot_list_extend PySem.F.type_list_extend pV (fL hi hv hd hcd) (b4 h df hst) hbase hfew hline hst rfl) hs).imp fun D σ H ⟨H0,A0,A,δ,R,o⟩=>by
    unfold rL at o
    split at o
    · rename_i ds q
      obtain ⟨p,xs,ds',e1,hp,hl,e2,hx⟩:=R.own i _ hO q
      cases e2
      refine ⟨_,e1,tyL hl,?_⟩
      refine eD.run R.part (fun d ed v H1 s1 R1 hv=>?_) (fun C et H' s'=>?_) (fun et=>?_)
      · simp only [ed,aW] at o
        split at o
        · rename_i es
          split at o
          · rename_i hz
            obtain ⟨b,zs,rfl,hb,hz2⟩:=hv.ofLst
            refine ⟨p,b,xs,zs,rfl,rfl,s1 _ _ hl,ay _ _ hb,by rw [hx.length,hz2.length,sizeLine_eq]; omega,?_⟩
            exact o A _ _ ((R.step s1).put hO q e1 hp ((hx.same s1.del).append hz2))
          · exact o.elim
        · exact o.elim
      · simp only [et,lA] at o; exact o H' (R.same.trans s')
      · simp only [et,kT] at o; exact o
    · exact o.elim
structure kI (K:PySem.W.Frag) (mg:Str→Option Value) (x:Str) (C:Addr):Prop where
  m:mg x=some (.ref C)
  e:PySem.W.excIn K C [.type "ValueError",.type "Exception",.type "BaseException",.type "object"] "ValueError.__new__"=true
noncomputable def iu (C:Addr) (gs:Ds→Rs (List PyData)):Ds→Sr:=fun δ=>ofR (gs δ) fun _=>.rz C
theorem hR {x:Str} {C:Addr} {np cpos:Pos} {es:List Expr} {gs:Ds→Rs (List PyData)} (hc:X.calm=true) (M:nA X E) (EE:kI X.K X.mg x C) (ha:PAD X E (e::es) gs) (hl:(e::es).length≤1000:=by decide) (hg:Gl X x:=by rfl)
    (hdb:(x == ("__debug__":Str))=false:=by decide) (he:starEach (e::es) X.env=(false,eval e X.env)::starEach es X.env:=by rfl) (hpl:(backTo cpos (starEach es X.env)).any (·.1)=false:=by rfl) :
    PSD X E O (.Raise (some (.Call (.Name x np) (e::es) [] cpos)) none pos) (iu C gs) :=
  (ql hc M PySem.F.excBase_ValueError hg EE.m EE.e ha.1 hdb he hpl).imp fun D σ H ⟨H0,A0,A,δ,R,o⟩=>by
    unfold iu at o
    refine aD.run R.full (fun ds ed vs H1 s1 R1 hv=>?_) (fun C et H' s'=>?_) (fun et=>?_)
    · simp only [ed,aW] at o
      exact ⟨by rw [hv.length,ha.2 δ ds ed,sizeLine_eq]; omega,o H1 (R.same.trans s1)⟩
    · simp only [et,lA] at o; exact o H' (R.same.trans s')
    · simp only [et,kT] at o; exact o
end
section
variable {P:Program} {w:World} {K:PySem.W.Frag} {mg:Str→Option Value} {base:Heap}
theorem oR {x qual:Str} {st:Stmt} {f:Addr} {fd:FuncData} {N ps:List Str} {k:Nat} {sp:Sp} {CX:CXT} (F:Fun K x qual st f fd) (S:a6 N ps (ax st)) (len:∀ vs H Q E,sp vs H Q E→vs.length=ps.length)
    (hbody:∀ (cdv:Value) (A:Around) (outer:List Env) (s:Shared) (H:Hp) (vs:List V) (Q:VK) (E:XK),cY k (A.deeper (envOfC qual (ax st) s.heap.objs.size f cdv))→sp vs H Q E →
      ∃ t,PSs (eC CX P w K mg base N qual (ax st) f cdv A outer s H E) (cQ st) t∧t { nx:=fun _ H'=>Q .non H',rt:=Q } (start N vs) H):fi P w K mg base CX (k + 1) f fd ps sp:=by
  obtain ⟨oc,od,kV,doc,pm,an,cdv,ct,osl,rfl,lk,hcd⟩:=F.ex
  exact tN lk hcd S len fun A outer s H vs Q E hr hsp=>hbody cdv A outer s H vs Q E hr hsp
noncomputable def bz:Sr→Rs PyData
  | .rt d=>.ok d
  | .nx _=>.ok .none
  | .rz C=>.rz C
  | _=>.no
theorem mZ {N:List Str} {qual:Str} {scope:Scope} {f:Addr} {cd:Value} {A:Around} {outer:List Env} {s:Shared} {H:Hp} {E:XK}:nA (eC (CXW P w) P w K mg base N qual scope f cd A outer s H E) E :=
  fun _ _ _ _ _ _ _ _ I hx hE=>l5 (CX:=CX0) I hx hE
theorem bS.start {N ps:List Str} {A0:List Addr} {H:Hp} {O:List Nat} {ds:List PyData} {vs:List V} (hA:Ls H A0) (hi:Iss K (del H A0) ds vs) (hl:ds.length=ps.length) (hO:∀ i∈O,ps.length≤i) :
    bS K H A0 H [] O (ds.map some++List.replicate (N.length - ps.length) none) (L2.start N vs):=by
  have hv:=hi.length
  have at':∀ (i:Nat) d,(ds.map some++List.replicate (N.length - ps.length) none)[i]?=some (some d)→i < ds.length∧ds[i]?=some d:=fun i d e=>by
    by_cases h:i < ds.length
    · rw [List.getElem?_append_left (by simpa using h),List.getElem?_map] at e
      refine ⟨h,?_⟩
      cases q:ds[i]? with
      | none=>rw [q] at e; cases e
      | some z=>rw [q] at e; simp at e; rw [e]
    · rw [List.getElem?_append_right (by simpa using h),List.getElem?_replicate] at e
      split at e <;> cases e
  refine ⟨av.refl _,hA,(fun a h=>by cases h),(fun a h=>by cases h),?_,fun i d _ e=>?_,fun i d h e=>?_,fun i j d e a h _ q _ _ _=>?_⟩
  · unfold L2.start; simp [hv,hl]
  · obtain ⟨hlt,e⟩:=at' i d e
    obtain ⟨v,ev,hd⟩:=hi.getD e
    refine ⟨v,?_,hd⟩
    unfold L2.start
    rw [List.getElem?_append_left (by simp; omega),List.getElem?_map,ev]
    rfl
  · obtain ⟨hlt,_⟩:=at' i d e
    exact absurd (hO i h) (by omega)
  · obtain ⟨hlt,_⟩:=at' i d q
    exact absurd (hO i h) (by omega)
theorem aX.of {x qual:Str} {st:Stmt} {f:Addr} {fd:FuncData} {N ps:List Str} {k:Nat} {O:List Nat} {G:Ds→Sr} {gf:List PyData→Rs PyData} (F:Fun K x qual st f fd) (S:a6 N ps (ax st)) (b:Binds K fd ps []) (m:mg x=some (.ref f)) (hO:∀ i∈O,ps.length≤i)
    (body:∀ (cdv:Value) (A:Around) (outer:List Env) (s:Shared) (H:Hp) (E:XK),cY k (A.deeper (envOfC qual (ax st) s.heap.objs.size f cdv))→PBD (eC (CXW P w) P w K mg base N qual (ax st) f cdv A outer s H E) E O (cQ st) G)
    (hg:∀ ds,ds.length=ps.length→gf ds≠.no→bz (G (ds.map some++List.replicate (N.length - ps.length) none))=gf ds):aX P w K mg base (k + 1) x ps.length gf:=by
  refine ⟨f,fd,ps,oR F S (fun vs H Q E h=>?_) (fun cdv A outer s H vs Q E hr h=>?_),m,F.kp,b⟩
  · obtain ⟨A,ds,hA,hi,hl,o⟩:=h
    rw [hi.length,hl]
  · obtain ⟨A0,ds,hA,hi,hl,o⟩:=h
    refine ⟨_,body cdv A outer s H E hr,H,A0,[],_,bS.start hA hi hl hO,?_⟩
    have hg':=hg ds hl (fun z=>by rw [z] at o; exact o)
    cases q:G (ds.map some++List.replicate (N.length - ps.length) none) with
    | rt d=>rw [q] at hg'; rw [← hg'] at o; exact fun v H' s' hv=>o v H' s' hv
    | nx δ=>rw [q] at hg'; rw [← hg'] at o; exact fun A' σ H' R'=>o .non H' R'.same is_none
    | rz C=>rw [q] at hg'; rw [← hg'] at o; exact fun H' s'=>o H' s'
    | bk δ=>rw [q] at hg'; rw [← hg'] at o; exact o.elim
    | ct δ=>rw [q] at hg'; rw [← hg'] at o; exact o.elim
    | no=>rw [q] at hg'; rw [← hg'] at o; exact o.elim
theorem aX.old {x:Str} {f:Addr} {fd:FuncData} {ps:List Str} {k:Nat} {sp:Sp} {gf:List PyData→Rs PyData} (F:fi P w K mg base CX0 k f fd ps sp) (m:mg x=some (.ref f)) (kp:PySem.W.keepIn K (.ref f)=true) (b:Binds K fd ps [])
    (h:∀ ds,ds.length=ps.length→gf ds≠.no→∃ d,gf ds=.ok d∧c8 d=true∧∀ vs H Q,Iss K H ds vs→(∀ v H',av H H'→IsD K H' d v→Q v H')→sp vs H Q E0):aX P w K mg base k x ps.length gf:=by
  refine ⟨f,fd,ps,⟨fun vs H Q E h'=>?_,fun A outer s H args us vs Q E hr he hb hv h'=>?_⟩,m,kp,b⟩
  · obtain ⟨A,ds,hA,hi,hl,o⟩:=h'
    rw [hi.length,hl]
  · obtain ⟨A0,ds,hA,hi,hl,o⟩:=h'
    obtain ⟨d,e,nl,hsp⟩:=h ds hl (fun z=>by rw [z] at o; exact o)
    rw [e] at o
    refine codeAny_mono (F.run A outer s H args us vs Q E0 hr he hb hv (hsp vs H Q (hi.same ay) fun v H' s' hd=>o v H' s' ((hd.is nl).dl (hA.same s') (nL nl)))) fun r s' hq=>?_
    cases r with
    | error ev=>exact False.elim hq
    | ok fl =>
      cases fl with
      | ret u=>exact hq
      | next=>exact False.elim hq
      | brk=>exact False.elim hq
      | cont=>exact False.elim hq
end
end L2
set_option maxRecDepth 100000
set_option maxHeartbeats 4000000
namespace L2
open PySem PySem.Spec PyProof.Rows
open AutoSeq1 (wpAny_loadPart')
theorem ik:fillsNumberSlot (.type "tuple") "mul"=pure false :=
  PySem.fillsNumberSlot_seq (id:="tuple.__mul__") (r:=some (.builtin "tuple.__rmul__")) PySem.F.slot_tuple_mul.lookup (by decide +kernel) PySem.F.slot_tuple_rmul.lookup (by decide +kernel)
theorem kW:seqRepeat? (.type "tuple")=pure (some (.builtin "tuple.__mul__")):=by
  unfold seqRepeat?
  rw [PySem.seqSlot_of (T:="tuple") (name:="__mul__") (id:="tuple.__mul__") PySem.F.slot_tuple_mul.lookup (by decide +kernel),PySem.seqSlot_of (T:="tuple") (name:="__rmul__") (id:="tuple.__rmul__") PySem.F.slot_tuple_rmul.lookup (by decide +kernel)]
  rfl
theorem lg (a:Int) (t:Tok) (l:Addr) (items:Array Value) (n:Nat) (dd:Option Addr) (sl:Array (Option Value)) :
    Meets (Builtin.«int.__rmul__» ⟨[.int a t,.ref l],[]⟩) (fun _ R s=>s.heap.get? l=some { cls:=.type "tuple",dict:=dd,data:=.seq items n,slots:=sl }∧R (.ok (.ret Value.notImplemented)) s) :=
  .of_wp fun prog w A R s h=>by obtain ⟨hp,g,d,tk,os⟩:=s; obtain ⟨hl,h⟩:=h; wp_walk; exact ⟨_,rfl,h⟩
theorem qE (l:Addr) (items:Array Value) (n:Nat) (x:Int) (u:Tok) (dd:Option Addr) (sl:Array (Option Value)) (h1:(decide (x < -(2 ^ 63)) || decide (x ≥ 2 ^ 63))=false) (h2:(items.isEmpty || x == 1)=false) (h3:(decide (x≤0) || items.isEmpty)=false)
    (h4:decide ((items.size:Int) * x > (2 ^ 63 - 1) / 8)=false) (h5:Builtin.Tuple.tupleTooMany ((items.size:Int) * x)=false) (hsz:(List.foldl (fun x1 x2=>x1++x2) #[] (List.replicate x.toNat items)).size≤sizeLine) :
    Meets (Builtin.«tuple.__mul__» ⟨[.ref l,.int x u],[]⟩) (fun _ R s=>s.heap.get? l=some { cls:=.type "tuple",dict:=dd,data:=.seq items n,slots:=sl }∧R (.ok (.ret (Value.ref s.heap.objs.size))) { s with heap:=s.heap.push { cls:=Value.type "tuple",data:=Data.seq (List.foldl (fun x1 x2=>x1++x2) #[] (List.replicate x.toNat items)) } }) :=
  .of_wp fun prog w A R s h=>by
    obtain ⟨hp,g,d,tk,os⟩:=s; obtain ⟨hl,h⟩:=h
    have f1:=AutoSeq1.idx_int; have f2:=AutoSeq1.sub_tuple_tuple
    wp_walk using wpAny_loadPart' hl
    refine wpAny_ite_false (by rw [h1]; rfl) ?_
    wp_walk using wpAny_loadPart' hl
    refine wpAny_ite_false h4 ?_
    wp_walk using wpAny_loadPart' hl
    exact ⟨_,rfl,h⟩
section
variable {X:Cx} {E:XK} {a b c e:Expr} {ga gb gc:Ds→Rs PyData} {pos:Pos} {es:List Expr} {gs:Ds→Rs (List PyData)}
noncomputable def tQ (K:PySem.W.Frag):R2:=fun x y H Q=>∃ l k xs,x=.ref l∧y=.int k∧SqT K H l xs∧xs≠[]∧2≤k∧k < 1000000∧xs.length * k.toNat≤1000000∧∀ p,H p=none→Q (.ref p) (upd H p (.tup (List.replicate k.toNat xs).flatten))
theorem tj:OpR X (binaryOp .Mult) (tQ X.K):=by
  intro pins s σ H x y v u Q I rx ry h
  obtain ⟨l,k,xs,rfl,rfl,hl,hne,hk1,hk2,hz,q⟩:=h
  cases rx
  obtain ⟨t,rfl⟩:=ry
  obtain ⟨its,r,p1,_⟩:=I.tuple hl
  obtain ⟨⟨cls,dd,data,sl⟩,ho,hc,n,hd⟩:=id p1
  simp only at hc hd
  subst hc hd
  have hlen:=r.length
  have hne':its≠[]:=fun z=>hne (r.nil_iff.mp z)
  have hpos:0 < its.length:=List.length_pos_iff.mpr hne'
  have hfold:List.foldl (fun x1 x2=>x1++x2) #[] (List.replicate k.toNat its.toArray)=(List.replicate k.toNat its).flatten.toArray:=by
    have:=foldl_rep its k.toNat []
    rw [List.nil_append] at this
    exact this
  have hemp:its.toArray.isEmpty=false:=by simp [hne']
  have hmul:(its.length:Int) * k≤1000000:=by
    have e1:((its.length * k.toNat:Nat):Int)=(its.length:Int) * k:=by
      rw [Int.natCast_mul,Int.toNat_of_nonneg (by omega)]
    rw [← e1,← hlen]; omega
  have hsz2:(List.replicate k.toNat its).flatten.length≤1000000:=by rw [len_rep,Nat.mul_comm,← hlen]; exact hz
  refine wpAny_binaryOp_repeat_ref (T:="tuple") (U:="int") (by decide) ⟨_,ho,rfl⟩ (fun s'=>typeIs_int s' k t) ik PySem.F.fills_int_mul PySem.F.slot_int_rmul kW PySem.F.slot_int_index.lookup
    (call_meets PySem.F.slot_int_rmul (typeIs_int s k t) PySem.F.entry_int_rmul (PySem.F.args_int_rmul_2 _ _) (lg k t l its.toArray n dd sl)
      ⟨ho,rfl,⟨_,ho,rfl⟩,call_meets PySem.F.slot_tuple_mul ⟨_,ho,rfl⟩ PySem.F.entry_tuple_mul (PySem.F.args_tuple_mul_2 _ _) (qE l its.toArray n k t dd sl ?_ ?_ ?_ ?_ ?_ ?_) ⟨ho,?_⟩⟩)
  · rw [decide_eq_false (by omega),decide_eq_false (by omega)]; rfl
  · rw [hemp,Bool.false_or]; simp; omega
  · rw [hemp,Bool.or_false]; exact decide_eq_false (by omega)
  · rw [List.size_toArray]; exact decide_eq_false (by omega)
  · rw [List.size_toArray]
    unfold Builtin.Tuple.tupleTooMany
    rw [sizeLine_eq]
    exact decide_eq_false (by omega)
  · rw [hfold,List.size_toArray,sizeLine_eq]; omega
  · rw [hfold]
    refine ⟨.ref s.heap.objs.size,_,I.laid (t':=s.toks) (o:=.tup (List.replicate k.toNat xs).flatten) (fun b ob q=>Heap.get?_push_of_some _ q) (Nat.le_refl _) ?_,rfl,q _ (I.hok.fresh (Nat.le_refl _))⟩
    exact ⟨by rw [len_rep,Nat.mul_comm,sizeLine_eq]; omega,_,r.rep k.toNat,kZ.new _ _⟩
noncomputable def l7:PyData→PyData→Option PyData
  | .int i,.int j=>if (-(2 ^ 64) < i∧i < 2 ^ 64)∨(-(2 ^ 64) < j∧j < 2 ^ 64) then some (.int (i * j)) else none
  | .list x,.int k=>if 0≤k∧k < 1000000∧x.length * k.toNat≤1000000 then some (.list (List.replicate k.toNat x).flatten) else none
  | .tuple x,.int k=>if x≠[]∧2≤k∧k < 1000000∧x.length * k.toNat≤1000000 then some (.tuple (List.replicate k.toNat x).flatten) else none
  | _,_=>none
theorem sI {K:PySem.W.Frag}:OpD K l7 (fun x y H Q=>rI sX (fun i j=>.int (i * j)) x y H Q∨vR x y H Q∨tQ K x y H Q):=fun d1 d2 d x y H A Q e hA h1 h2 k=>by
  unfold l7 at e
  split at e
  · split at e
    · rename_i z
      cases e
      exact .inl ⟨_,_,h1.ofInt,h2.ofInt,z,k _ H (av.refl _) bP⟩
    · cases e
  · split at e
    · rename_i z
      cases e
      obtain ⟨p,xs,rfl,hp,hx⟩:=h1.ofLst
      exact .inr (.inl ⟨p,_,xs,rfl,h2.ofInt,ay _ _ hp,by omega,by omega,by rw [hx.length,sizeLine_eq]; omega,fun r hr=>k _ _ (bt hr) (fQ hA hr (hx.rep _))⟩)
    · cases e
  · split at e
    · rename_i z
      cases e
      obtain ⟨p,xs,rfl,hp,hx⟩:=h1.ofTup
      refine .inr (.inr ⟨p,_,xs,rfl,h2.ofInt,SqT.of (ay _ _ hp),fun q=>z.1 ?_,z.2.1,z.2.2.1,by rw [hx.length]; exact z.2.2.2,fun r hr=>k _ _ (bt hr) (gz hA hr (hx.rep _))⟩)
      exact List.length_eq_zero_iff.mp (by rw [← hx.length,q]; rfl)
    · cases e
  · cases e
theorem rh (ha:PD X E a ga) (hb:PD X E b gb):PD X E (.BinOp a .Mult b pos) (g2 l7 ga gb):=fF sI ha hb (cJ (ix.or (u7.or tj)))
end
section
variable {prog:Program} {w:World} {A:Around} {E:Value→Shared→Prop} {s:Shared}
theorem fS {t sl:Addr} {items:Array Value} {vl vu:Value} {lo hi:Option Int} {Q:Value→Shared→Prop} (ht:IsTup s.heap t items) (hs:s.heap.IsSliceOf sl vl vu .none) (pl:IsPart vl lo) (pu:IsPart vu hi)
    (hw:HT.sIx items.size 0 lo=0∧HT.sIx items.size items.size hi=items.size) (h:Q (.ref t) s):wpAny (model prog w) A (getItem (.ref t) (.ref sl)) Q E s:=by
  obtain ⟨os,hos,hcs,hds⟩:=id hs
  have hTs:s.TypeIs (.ref sl) "slice":=⟨os,hos,hcs⟩
  unfold getItem
  try with_reducible refine wpAny_holding ?_
  first | refine wpAny_bind (wpAny_pure ?_) | skip
  refine wpAny_bind (wpAny_sequenceKey ht.typeIs (by decide) ?_)
  refine wpAny_bind (wpAny_callSpecial?_slot (name:=Str.ofString "__getitem__") ht.typeIs PyProof.Rows.slot_tuple_getitem
    (wpAny_call_entry PyProof.Rows.slot_tuple_getitem ht.typeIs entry_tuple_getitem ?_ (args_tuple_getitem _ _)))
  show wpAny _ _ (Builtin.Tuple.tupleItemsOf (.ref t) >>= _) _ _ s
  refine wpAny_bind (tupleItemsOf_ ht ?_)
  refine wpAny_bind (wpAny_typeOf hTs ?_)
  rw [if_pos (by decide)]
  refine wpAny_bind (HT.eG hs pl pu ?_)
  have hyes:(((HT.sIx items.size 0 lo:Nat):Int) == 0 && (1:Int) == 1 && (HT.sIx items.size items.size hi - HT.sIx items.size 0 lo) == items.size)=true:=by
    rw [hw.1,hw.2]; simp
  show wpAny _ _ (if (((HT.sIx items.size 0 lo:Nat):Int) == 0 && (1:Int) == 1 && (HT.sIx items.size items.size hi - HT.sIx items.size 0 lo) == items.size)=true then _ else _) _ _ s
  rw [if_pos hyes]
  refine wpAny_bind (m:=Builtin.Tuple.tupleIsExact (.ref t)) (wpAny_bind (wpAny_typeOf ht.typeIs (wpAny_pure ?_)))
  rw [if_pos (by decide)]
  first
    | exact wpAny_bind (wpAny_rule (wpAny_pure ⟨_,rfl,wpAny_pure h⟩))
    | (refine wpAny_bind (wpAny_rule ?_); trace_state; exact wpAny_pure ⟨_,rfl,wpAny_pure h⟩)
end
end L2
set_option maxRecDepth 100000
set_option maxHeartbeats 4000000
namespace L2
open PySem PySem.Spec PyProof.Rows
section
variable {X:Cx} {E:XK} {a b c e:Expr} {ga gb gc:Ds→Rs PyData} {pos:Pos} {es:List Expr} {gs:Ds→Rs (List PyData)}
noncomputable def wo (K:PySem.W.Frag):V→Option Int→Option Int→Hp→VK→Prop:=fun x lo hi H Q=>∃ a xs,x=.ref a∧SqT K H a xs∧(HT.sIx xs.length 0 lo=0∧HT.sIx xs.length xs.length hi=xs.length)∧Q (.ref a) H
theorem so:SlR X (wo X.K):=by
  intro pins s σ H x v vl vu lo hi sl Q I rx hs pl pu h
  obtain ⟨a,xs,rfl,hx,hw,q⟩:=h
  cases rx
  obtain ⟨its,r,ht,hz⟩:=I.tuple hx
  have hlen:its.toArray.size=xs.length:=by rw [List.size_toArray,r.length]
  refine ⟨"tuple",_,PyProof.Rows.slot_tuple_getitem.lookup,ht.typeIs,?_⟩
  exact fS ht hs pl pu (by rw [hlen]; exact hw) ⟨.ref a,H,I,rfl,q⟩
noncomputable def cutD (xs:List PyData) (lo hi:Option Int):List PyData:=(xs.drop (HT.sIx xs.length 0 lo)).take (HT.sIx xs.length xs.length hi - HT.sIx xs.length 0 lo)
noncomputable def sP:PyData→Option Int→Option Int→Option PyData
  | .list x,lo,hi=>some (.list (cutD x lo hi))
  | .tuple x,lo,hi=>some (.tuple (cutD x lo hi))
  | _,_,_=>none
noncomputable def p9:PyData→Rs (Option Int)
  | .int i=>.ok (some i)
  | _=>.no
noncomputable def bO:Ds→Rs (Option Int):=fun _=>.ok none
noncomputable def c6 (g:Ds→Rs PyData):Ds→Rs (Option Int):=fun δ=>(g δ).bind p9
noncomputable def wQ (E:XK) (H:Hp) (r:Rs (Option Int)) (Q:Option Int→Hp→Prop):Prop:=match r with
  | .ok o=>∀ H',av H H'→Q o H'
  | .rz C=>∀ H',av H H'→E (.ref C) none H'
  | .no=>False
noncomputable def oD (K:PySem.W.Frag) (E:XK) (g:Ds→Rs (Option Int)):TO:=fun σ H Q=>∃ A δ,cL K H A δ σ∧wQ E H (g δ) Q
noncomputable def POD (X:Cx) (E:XK) (e:Option Expr) (g:Ds→Rs (Option Int)):Prop:=PO X e (oD X.K E g)
theorem PO.imp {e:Option Expr} {t t':TO} (h:PO X e t) (k:∀ σ H Q,t' σ H Q→t σ H Q):PO X e t':=fun pins s σ H Q I q=>h pins s σ H Q I (k σ H Q q)
theorem dJ:POD X E none bO:=tw.imp fun σ H Q ⟨A,δ,R,o⟩=>o H (av.refl _)
theorem dC (h:PD X E e ga):POD X E (some e) (c6 ga):=(rR h).imp fun σ H Q ⟨A,δ,R,o⟩=>⟨A,δ,R,by
  unfold c6 at o
  cases q:ga δ with
  | no=>rw [q] at o; exact o
  | rz C=>rw [q] at o; exact o
  | ok d =>
    rw [q] at o
    cases d with
    | int i=>exact fun v H' s h=>⟨i,h.ofInt,o H' s⟩
    | _=>exact o.elim⟩
theorem oD.run {K:PySem.W.Frag} {g:Ds→Rs (Option Int)} {σ:St} {H:Hp} {A:List Addr} {δ:Ds} {Q:Option Int→Hp→Prop} (R:cL K H A δ σ)
    (ok:∀ d,g δ=.ok d→∀ H',av H H'→cL K H' A δ σ→Q d H') (rz:∀ C,g δ=.rz C→∀ H',av H H'→E (.ref C) none H') (no:g δ=.no→False):oD K E g σ H Q:=by
  refine ⟨A,δ,R,?_⟩
  cases e:g δ with
  | ok d=>exact fun H' s=>ok d e H' s (R.same s)
  | rz C=>exact fun H' s=>rz C e H' s
  | no=>exact no e
noncomputable def b6 (g:Ds→Rs PyData) (lo hi:Ds→Rs (Option Int)):Ds→Rs PyData:=fun δ=>(g δ).bind fun d=>(lo δ).bind fun l=>(hi δ).bind fun h=>Rs.c7 (sP d l h)
theorem Iss.cut {K:PySem.W.Frag} {H:Hp} {ds:List PyData} {vs:List V} (h:Iss K H ds vs) (lo hi:Option Int):Iss K H (cutD ds lo hi) (mf vs lo hi):=by
  unfold cutD mf
  rw [h.length]
  exact (h.drop _).take _
theorem dP {lo hi:Option Expr} {gl gh:Ds→Rs (Option Int)} {p2:Pos} (he:PD X E e ga) (hl:POD X E lo gl) (hh:POD X E hi gh):PD X E (.Subscript e (.Slice lo hi none p2) pos) (b6 ga gl gh) :=
  (p8 (rP.or (uI.or so)) he hl hh).imp fun σ H Q ⟨A,δ,R,o⟩=>by
    unfold b6 at o
    refine eD.run R (fun d ed v H1 s1 R1 hv=>?_) (fun C et H' s'=>by rw [et] at o; exact o H' s') (fun et=>by rw [et] at o; exact o)
    simp only [ed,Rs.aq] at o
    refine oD.run R1 (fun l el H2 s2 R2=>?_) (fun C et H' s'=>by rw [et] at o; exact o H' (s1.trans s')) (fun et=>by rw [et] at o; exact o)
    simp only [el,Rs.aq] at o
    refine oD.run R2 (fun h eh H3 s3 R3=>?_) (fun C et H' s'=>by rw [et] at o; exact o H' (s1.trans (s2.trans s'))) (fun et=>by rw [et] at o; exact o)
    simp only [eh,Rs.aq] at o
    have hv3:=hv.same (s2.trans s3).del
    have s13:=s1.trans (s2.trans s3)
    cases d with
    | list ds =>
      obtain ⟨p,xs,rfl,hp,hx⟩:=hv3.ofLst
      exact .inl ⟨p,xs,rfl,SqL.of (ay _ _ hp),fun q hq=>o _ _ (s13.trans (bt hq)) (fQ R3.ls hq (hx.cut l h))⟩
    | tuple ds =>
      obtain ⟨p,xs,rfl,hp,hx⟩:=hv3.ofTup
      by_cases hw:HT.sIx xs.length 0 l=0∧HT.sIx xs.length xs.length h=xs.length
      · refine .inr (.inr ⟨p,xs,rfl,SqT.of (ay _ _ hp),hw,o _ _ s13 ?_⟩)
        have e:cutD ds l h=ds:=by
          unfold cutD
          rw [← hx.length,hw.1,hw.2]
          simp [hx.length]
        show Is X.K _ (.tuple (cutD ds l h)) _
        rw [e]
        exact f6 hp hx
      · exact .inr (.inl ⟨p,xs,rfl,SqT.of (ay _ _ hp),hw,fun q hq=>o _ _ (s13.trans (bt hq)) (gz R3.ls hq (hx.cut l h))⟩)
    | _=>exact o.elim
noncomputable def toV:PyData→V
  | .none=>.non
  | .bool b=>.bl b
  | .int i=>.int i
  | .str x=>.str x
  | _=>.non
noncomputable def inD (x:PyData) (xs:List PyData):Bool:=inV (toV x) (xs.map toV)
noncomputable def qg (neg:Bool):PyData→PyData→Option PyData
  | x,.list xs=>if c8 x && xs.all c8 then some (.bool (if neg then !inD x xs else inD x xs)) else none
  | x,.tuple xs=>if c8 x && xs.all c8 then some (.bool (if neg then !inD x xs else inD x xs)) else none
  | _,_=>none
theorem Is.flat {K:PySem.W.Frag} {H:Hp} {d:PyData} {v:V} (h:Is K H d v) (f:c8 d=true):v=toV d∧fU v=true:=by
  cases d with
  | none=>rw [h.ofNone]; exact ⟨rfl,rfl⟩
  | bool b=>rw [h.ofBool]; exact ⟨rfl,rfl⟩
  | int i=>rw [h.ofInt]; exact ⟨rfl,rfl⟩
  | str x=>rw [h.ofStr]; exact ⟨rfl,rfl⟩
  | _=>cases f
theorem Iss.flat {K:PySem.W.Frag} {H:Hp}:∀ {ds:List PyData} {vs:List V},Iss K H ds vs→ds.all c8=true→vs=ds.map toV∧vs.all fU=true
  | [],_,h,_=>by rw [h.nil_of]; exact ⟨rfl,rfl⟩
  | d::ds,_,h,f=>by
    rw [List.all_cons,Bool.and_eq_true] at f
    obtain ⟨v,r,rfl,h1,h2⟩:=h.cons_of
    obtain ⟨e1,f1⟩:=h1.flat f.1
    obtain ⟨e2,f2⟩:=Iss.flat h2 f.2
    exact ⟨by rw [e1,e2]; rfl,by rw [List.all_cons,f1,f2]; rfl⟩
theorem uB {K:PySem.W.Frag} {neg:Bool}:OpD K (qg neg) (rIn K neg):=fun d1 d2 d x y H A Q e hA h1 h2 k=>by
  unfold qg at e
  split at e
  · split at e
    · rename_i z
      rw [Bool.and_eq_true] at z
      cases e
      obtain ⟨p,xs,rfl,hp,hx⟩:=h2.ofLst
      obtain ⟨e1,f1⟩:=h1.flat z.1
      obtain ⟨e2,f2⟩:=hx.flat z.2
      refine ⟨p,xs,rfl,.inl (SqL.of (ay _ _ hp)),f1,f2,?_⟩
      rw [e1,e2]
      exact k _ H (av.refl _) is_bool
    · cases e
  · split at e
    · rename_i z
      rw [Bool.and_eq_true] at z
      cases e
      obtain ⟨p,xs,rfl,hp,hx⟩:=h2.ofTup
      obtain ⟨e1,f1⟩:=h1.flat z.1
      obtain ⟨e2,f2⟩:=hx.flat z.2
      refine ⟨p,xs,rfl,.inr (SqT.of (ay _ _ hp)),f1,f2,?_⟩
      rw [e1,e2]
      exact k _ H (av.refl _) is_bool
    · cases e
  · cases e
theorem vU (ha:PD X E a ga) (hb:PD X E b gb) (hm:behindInMarks .In b=false:=by with_unfolding_all rfl):PD X E (.Compare a [.In] [b] pos) (g2 (qg false) ga gb):=fF uB ha hb fun h1 h2=>n8 pe h1 h2 hm
noncomputable def hZ (f f':PyData→PyData→Option PyData) (a b c:Ds→Rs PyData):Ds→Rs PyData:=fun δ=>(a δ).bind fun x=>(b δ).bind fun y=>(Rs.c7 (f x y)).bind fun z=>(truth z).bind fun t=>if t=true then (c δ).bind fun w=>Rs.c7 (f' y w) else .ok (.bool false)
theorem rk {op op':CmpOp} {r r':R2} {f f':PyData→PyData→Option PyData} (ho:OpR X (compareOp op) r) (ho':OpR X (compareOp op') r') (hf:OpD X.K f r) (hf':OpD X.K f' r') (ha:PD X E a ga) (hb:PD X E b gb) (hc:PD X E c gc)
    (hm:lastMarks [op,op'] [b,c]=false:=by with_unfolding_all rfl):PD X E (.Compare a [op,op'] [b,c] pos) (hZ f f' ga gb gc):=(qO ho ho' ha hb hc hm).imp fun σ H Q ⟨A,δ,R,o⟩=>by
  unfold hZ at o
  refine eD.run R (fun d1 e1 v H1 s1 R1 h1=>?_) (fun C et H' s'=>by rw [et] at o; exact o H' s') (fun et=>by rw [et] at o; exact o)
  simp only [e1,Rs.aq] at o
  refine eD.run R1 (fun d2 e2 u H2 s2 R2 h2=>?_) (fun C et H' s'=>by rw [et] at o; exact o H' (s1.trans s')) (fun et=>by rw [et] at o; exact o)
  simp only [e2,Rs.aq] at o
  cases e3:f d1 d2 with
  | none=>rw [e3] at o; exact o.elim
  | some z =>
    simp only [e3,Rs.az,Rs.aq] at o
    refine hf d1 d2 z v u H2 A _ e3 R2.ls (h1.same s2.del) h2 fun w H3 s3 h3=>?_
    obtain ⟨t,rfl,o⟩:=jF o
    refine ⟨t,h3.ofBool,?_⟩
    cases t with
    | false=>exact o _ H3 (s1.trans (s2.trans s3)) is_bool
    | true =>
      have o:fj X.K E A H ((gc δ).bind fun w=>Rs.c7 (f' d2 w)) Q:=o
      refine eD.run (R2.same s3) (fun d3 e4 w' H4 s4 R4 h4=>?_) (fun C et H' s'=>by rw [et] at o; exact o H' (s1.trans (s2.trans (s3.trans s')))) (fun et=>by rw [et] at o; exact o)
      simp only [e4,Rs.aq] at o
      cases e5:f' d2 d3 with
      | none=>rw [e5] at o; exact o.elim
      | some d=>rw [e5] at o; exact hf' d2 d3 d u w' H4 A Q e5 R4.ls (h2.same (s3.trans s4).del) h4 fun x H5 s5 h5=>o x H5 (s1.trans (s2.trans (s3.trans (s4.trans s5)))) h5
theorem oF (ha:PD X E a ga) (hb:PD X E b gb) (hc:PD X E c gc) (hm:lastMarks [.LtE,.LtE] [b,c]=false:=by with_unfolding_all rfl):PD X E (.Compare a [.LtE,.LtE] [b,c] pos) (hZ dLe dLe ga gb gc):=rk tR tR (kP fun _ _ _ _=>is_bool) (kP fun _ _ _ _=>is_bool) ha hb hc hm
end
noncomputable def Itc (lo c:Int) (n:Nat):It:=⟨fun i _=>i < n,fun i H x H'=>H'=H∧x=.int (lo + i * c),fun i _=>n≤i⟩
theorem lX {P:Program} {w:World} {K:PySem.W.Frag} {tg:Expr} (it:Addr) (lo c:Int) (n:Nat):Turn P w K tg (Itc lo c n) [it] it (fun i h=>IsRangeIter h it (lo + (i:Nat) * c) ((n:Int) - (i:Nat)) c) where
  mem:=by simp
  obj:=fun i h st b hb=>by
    have e:b=it:=by simpa using hb
    subst e
    exact ⟨_,st,fun v z=>by
      have z':Data.fields _=Data.cell v:=z
      cases z'⟩
  keep:=fun i h h' st k=>k it (by simp) _ st
  item:=by
    intro X hP hw hK hc i pins s σ H E I hf st hg
    subst hP hw hK
    obtain ⟨f0,f1,f2,f3,f4,f5⟩:=hf it (by simp)
    have W:=Walks.range (prog:=X.prog) (w:=X.w) (I.ok.hd hc) it lo c n
    refine W.item i s _ _ hg st fun v h' tk hv st' kk=>?_
    obtain ⟨t,rfl⟩:=hv
    have I1:Inv X pins σ H { s with heap:=h',toks:=tk }:=I.turned (fun b o hb e=>kk b o (by simpa using hb) e) f0 f1 f3 f4 f5
    exact ⟨_,rfl,oU (s:={ s with heap:=h',toks:=tk }) (n:="range_iterator") st' rfl rfl (by decide) ⟨.int (lo + i * c),H,I1,⟨t,rfl⟩,⟨rfl,rfl⟩,st',fun b hb=>(hf b hb).1⟩⟩
  done:=by
    intro X hP hw hK hc i pins s σ H E I hf st hg
    subst hP hw hK
    obtain ⟨f0,f1,f2,f3,f4,f5⟩:=hf it (by simp)
    exact wpAny_pyNext_range_end (I.ok.hd hc) st (by have:n≤i:=hg; omega) fun h' eb=>⟨rfl,I.turned (t':=s.toks) (fun b o hb e=>eb b o hb e) f0 f1 f3 f4 f5⟩
  self:=fun _ _ _ _ _ st h=>wpAny_pyIter_rangeiter st h
section
variable {X:Cx} {E:XK} {tg a b c:Expr} {pos:Pos} {gs:Ds→Rs (List PyData)}
noncomputable def nN (i j c:Int):Nat:=(Builtin.Range.rangeSize i j c).toNat
theorem kN (a b c:Int):0≤Builtin.Range.rangeSize a b c:=by
  unfold Builtin.Range.rangeSize
  split
  · split
    · rename_i h1 h2
      have:0≤(b - a - 1) / c:=Int.ediv_nonneg (by omega) (by omega)
      omega
    · omega
  · split
    · rename_i h1 h2
      by_cases hc:c=0
      · subst hc; simp
      · have:0≤(a - b - 1) / (-c):=Int.ediv_nonneg (by omega) (by omega)
        omega
    · omega
noncomputable def iY (i j c:Int):Bool:=decide (-(1000000)≤i∧i≤1000000∧-(1000000)≤j∧j≤1000000∧-(1000000)≤c∧c≤1000000∧c≠0) && Builtin.Range.small i j c
noncomputable def vB (ta:TA):TI:=fun σ H R=>ta σ H fun vs H1=>∃ i j c:Int,vs=[.int i,.int j,.int c]∧iY i j c=true∧R (Itc i c (nN i j c)) H1
theorem pT {ta:TA} {p:Pos} (hg:Gl X "range") (hm:X.mg "range"=none) (ha:PA X [a,b,c] ta) (hs:starEach [a,b,c] X.env=[(false,eval a X.env),(false,eval b X.env),(false,eval c X.env)]:=by rfl) (hs2:starEach [b,c] X.env=[(false,eval b X.env),(false,eval c X.env)]:=by rfl) :
    PI X tg (.Call (.Name "range" p) [a,b,c] [] pos) (vB ta):=by
  intro pins s σ H R I h
  refine Call_ (d5 I hg hm boot_range (PyProof.Rows.callWith_type1 (thn (ha pos pins s σ H _ I h) fun us s1 ⟨vs,H1,I1,r1,q1⟩=>?_) (by rw [hs,hs2]) (by rw [hs2]; rfl)))
  obtain ⟨i,j,c,e,q1,q⟩:=q1
  subst e
  unfold iY at q1
  rw [Bool.and_eq_true] at q1
  have q2:=of_decide_eq_true q1.1
  cases r1 with
  | cons r rr =>
    cases rr with
    | cons r' rr =>
      cases rr with
      | cons r'' rr =>
        cases rr
        obtain ⟨t,rfl⟩:=r
        obtain ⟨t',rfl⟩:=r'
        obtain ⟨t'',rfl⟩:=r''
        refine PySem.call_range_3 q2.2.2.2.2.2.2 ?_ (.inl (PyProof.noPylong_small (by omega)))
        refine wpAny_pyIter_range (IsRange.new ..) q1.2 ?_
        have I2:Inv X pins σ H1 { s1 with heap:=s1.heap.push { cls:=.type "range",data:=.fields #[.int i t,.int j t',.int c t''] },toks:=s1.toks }:=I1.kept fun b o e=>Heap.get?_push_of_some _ e
        refine ⟨(s1.heap.push { cls:=.type "range",data:=.fields #[.int i t,.int j t',.int c t''] }).objs.size,[(s1.heap.push { cls:=.type "range",data:=.fields #[.int i t,.int j t',.int c t''] }).objs.size],_,_,H1,rfl,
          I2.kept (t':=s1.toks) fun b o e=>Heap.get?_push_of_some _ e,lX _ i c (nN i j c),?_,fun b hb=>?_,q⟩
        · have e1:i + ((0:Nat):Int) * c=i:=by simp
          have e2:((nN i j c:Nat):Int) - ((0:Nat):Int)=Builtin.Range.rangeSize i j c:=by
            have:=kN i j c
            unfold nN; omega
          show IsRangeIter _ _ (i + ((0:Nat):Int) * c) (((nN i j c:Nat):Int) - ((0:Nat):Int)) c
          rw [e1,e2]
          exact Heap.get?_push_size _ rfl
        · have e:b=(s1.heap.push { cls:=.type "range",data:=.fields #[.int i t,.int j t',.int c t''] }).objs.size:=by simpa using hb
          subst e
          exact I2.fpOk (Nat.le_refl _) (I2.hok.fresh (Nat.le_refl _))
noncomputable def dM (lo c:Int) (n:Nat):List PyData:=(List.range n).map fun (i:Nat)=>PyData.int (lo + (i:Int) * c)
theorem dF (lo c:Int) (n:Nat):(dM lo c n).length=n:=by simp [dM]
theorem lN {K:PySem.W.Frag} {G:Hp} {lo c:Int} {n:Nat}:pY K (Itc lo c n) (dM lo c n) G:=fun H1 B s _ hB=>by
  refine ⟨fun i hi=>by rw [dF] at hi; exact hi,by rw [dF]; exact Nat.le_refl _,fun i x H2 hi y=>?_⟩
  obtain ⟨rfl,rfl⟩:=y
  rw [dF] at hi
  exact ⟨av.refl _,_,by simp [dM,hi],bP⟩
noncomputable def qF:List PyData→Rs (List PyData)
  | [.int i,.int j,.int c]=>if iY i j c then .ok (dM i c (nN i j c)) else .no
  | _=>.no
noncomputable def ou (g:Ds→Rs (List PyData)):Ds→Rs (List PyData):=fun δ=>(g δ).bind qF
theorem w5 {K:PySem.W.Frag} {H:Hp} {d e f:PyData} {vs:List V} (h:Iss K H [d,e,f] vs):∃ v u w,vs=[v,u,w]∧Is K H d v∧Is K H e u∧Is K H f w:=by
  obtain ⟨v,r,rfl,h1,h2⟩:=h.cons_of
  obtain ⟨u,w,rfl,h3,h4⟩:=wb h2
  exact ⟨v,u,w,rfl,h1,h3,h4⟩
theorem mT {p:Pos} (hm:X.mg "range"=none) (ha:PAD X E [a,b,c] gs) (hg:Gl X "range":=by rfl) (hs:starEach [a,b,c] X.env=[(false,eval a X.env),(false,eval b X.env),(false,eval c X.env)]:=by rfl) (hs2:starEach [b,c] X.env=[(false,eval b X.env),(false,eval c X.env)]:=by rfl) :
    PID X E tg (.Call (.Name "range" p) [a,b,c] [] pos) (ou gs):=(pT hg hm ha.1 hs hs2).imp fun σ H R ⟨A,δ,Rp,o⟩=>nG Rp o fun ds vs H1 e s1 R1 h1 o=>by
  unfold qF at o
  split at o
  · split at o
    · rename_i z
      obtain ⟨v,u,w,rfl,h,h',h''⟩:=w5 h1
      rw [h.ofInt,h'.ofInt,h''.ofInt]
      exact ⟨_,_,_,rfl,z,o _ H1 (av.refl _) lN⟩
    · exact o.elim
  · exact o.elim
noncomputable def tLR (ta:TA):TE:=fun σ H Q=>ta σ H fun vs H1=>∃ j:Int,vs=[.int j]∧0≤j∧j≤1000000∧∀ p,H1 p=none→Q (.ref p) (upd H1 p (.lst ((List.range j.toNat).map fun (i:Nat)=>V.int (i:Int))))
theorem ug {pins:List (Addr × Obj)} {σ:St} {H1:Hp} {s2:Shared} {Q:VK} {j:Int} {h':Heap} {tk:Nat} {acc':Array Value} {c':Nat} (I2:Inv X pins σ H1 s2) (kk:∀ b o,s2.heap.get? b=some o→h'.get? b=some o)
    (hl:h'.get? s2.heap.objs.size=some { cls:=.type "list",dict:=none,data:=.seq acc' c',slots:=#[] }) (hi:ItemsOf (fun i v=>∃ t,v=.int ((0:Int) + (i:Int) * 1) t) acc' j.toNat) (q1:0≤j) (q2:j≤1000000)
    (q:∀ p,H1 p=none→Q (.ref p) (upd H1 p (.lst ((List.range j.toNat).map fun (i:Nat)=>V.int (i:Int))))):EP X pins σ Q (.ref s2.heap.objs.size) { s2 with heap:=h',toks:=tk }:=by
    have hv:Vals ((List.range j.toNat).map fun (i:Nat)=>V.int (i:Int)) acc'.toList:=by
      have aux:∀ (l:List Value) (k:Nat),(∀ (m:Nat) v,l[m]?=some v→∃ t,v=.int ((0:Int) + ((k + m:Nat):Int) * 1) t)→Vals ((List.range' k l.length).map fun (i:Nat)=>V.int (i:Int)) l:=by
        intro l
        induction l with
        | nil=>intro k _; exact .nil
        | cons x r ih =>
          intro k hk
          rw [List.length_cons,List.range'_succ,List.map_cons]
          refine .cons ?_ (ih (k + 1) fun m v hm=>?_)
          · obtain ⟨t,e⟩:=hk 0 x rfl
            exact ⟨t,by rw [e]; simp⟩
          · obtain ⟨t,e⟩:=hk (m + 1) v (by simpa using hm)
            exact ⟨t,by rw [e,show k + (m + 1)=k + 1 + m by omega]⟩
      have h1:=aux acc'.toList 0 (fun m v hm=>by
        obtain ⟨t,e⟩:=hi.2 m v (by rw [← Array.getElem?_toList]; exact hm)
        exact ⟨t,by rw [e]; simp⟩)
      rw [Array.length_toList,hi.1] at h1
      rw [List.range_eq_range']
      exact h1
    exact ⟨.ref s2.heap.objs.size,_,I2.laid (t':=tk) kk (Nat.le_refl _) (show cF X.prog X.w _ h' _ (.lst ((List.range j.toNat).map fun (i:Nat)=>V.int (i:Int))) from ⟨by rw [List.length_map,List.length_range,sizeLine_eq]; omega,acc'.toList,c',hv,by simpa using hl⟩),rfl,q _ (I2.hok.fresh (Nat.le_refl _))⟩
theorem kH {ta:TA} {p p2 pos2:Pos} (hc:X.calm=true) (hg:Gl X "range") (hm:X.mg "range"=none) (hgl:Gl X "list") (hml:X.mg "list"=none) (ha:PA X [a] ta) (hs:starEach [a] X.env=[(false,eval a X.env)]:=by rfl)
    (hs2:starEach [.Call (.Name "range" p) [a] [] pos] X.env=[(false,eval (.Call (.Name "range" p) [a] [] pos) X.env)]:=by rfl) :
    PE X (.Call (.Name "list" p2) [.Call (.Name "range" p) [a] [] pos] [] pos2) (tLR ta):=by
  intro pins s σ H Q I h
  refine Call_ (d5 I hgl hml nX (PyProof.Rows.callWith_type1 ?_ hs2 rfl))
  rw [hs2]
  show wpAny _ _ (spliced ((false,eval (.Call (.Name "range" p) [a] [] pos) X.env)::backTo pos2 [])) _ _ s
  refine Calls.spliced_cons (Call_ (d5 I hg hm boot_range (PyProof.Rows.callWith_type1 (thn (ha pos pins s σ H _ I h) fun us s1 ⟨vs,H1,I1,r1,q1⟩=>?_) hs rfl)))
  obtain ⟨j,e,q1,q2,q⟩:=q1
  subst e
  cases r1 with
  | cons r rr =>
    cases rr
    obtain ⟨t,rfl⟩:=r
    refine call_range_1 (Calls.spliced_nil ?_)
    have e2:Builtin.Range.rangeSize 0 j 1=((j.toNat:Nat):Int):=by rw [rangeSize_one]; split <;> omega
    refine call_list_range (n:=j.toNat) (I1.ok.hd hc) (IsRange.new ..) (small_one (by omega) (by omega) (by omega) (by omega)) e2 (by omega) fun h' tk acc' c' kk hl hi=>?_
    exact ug (I1.kept fun b o e=>Heap.get?_push_of_some _ e) kk hl hi q1 q2 q
noncomputable def kC:List PyData→Rs (List PyData)
  | [.int j]=>if 0≤j∧j≤1000000 then .ok (bx 0 j.toNat) else .no
  | _=>.no
noncomputable def gLR (g:Ds→Rs (List PyData)):Ds→Rs (List PyData):=fun δ=>(g δ).bind kC
theorem pE {p p2 pos2:Pos} (hc:X.calm=true) (hm:X.mg "range"=none) (hml:X.mg "list"=none) (ha:PAD X E [a] gs) (hg:Gl X "range":=by rfl) (hgl:Gl X "list":=by rfl) (hs:starEach [a] X.env=[(false,eval a X.env)]:=by rfl)
    (hs2:starEach [.Call (.Name "range" p) [a] [] pos] X.env=[(false,eval (.Call (.Name "range" p) [a] [] pos) X.env)]:=by rfl):PLD X E (.Call (.Name "list" p2) [.Call (.Name "range" p) [a] [] pos] [] pos2) (gLR gs) :=
  (kH hc hg hm hgl hml ha.1 hs hs2).imp fun σ H Q ⟨A,δ,R,o⟩=>by
    unfold gLR at o
    refine aD.run R (fun ds e vs H1 s1 R1 h1=>?_) (fun C e H' s'=>by rw [e] at o; exact o H' s') (fun e=>by rw [e] at o; exact o)
    simp only [e,Rs.aq] at o
    unfold kC at o
    split at o
    · split at o
      · rename_i j z
        obtain ⟨v,rfl,h⟩:=fT h1
        rw [h.ofInt]
        refine ⟨j,rfl,z.1,z.2,fun q hq=>o q _ _ (s1.free hq) (s1.trans (bt hq)) bQ ?_⟩
        have:bx 0 j.toNat=((List.range j.toNat).map fun (i:Nat)=>(i:Int)).map PyData.int:=by
          unfold bx; rw [List.map_map]; congr 1; funext i; simp
        rw [this,show ((List.range j.toNat).map fun (i:Nat)=>V.int (i:Int))=((List.range j.toNat).map fun (i:Nat)=>(i:Int)).map V.int by rw [List.map_map]; rfl]
        exact lG _
      · exact o.elim
    · exact o.elim
end
end L2
set_option maxRecDepth 100000
set_option maxHeartbeats 4000000
namespace L2
open PySem PySem.Spec PyProof.Rows
theorem lL (t:Addr) (xs:Array Value):Meets (Builtin.«enumerate.__new__» ⟨[.type "enumerate",.ref t],[]⟩) (fun _ R s=>s.heap.IsTuple t xs ∧
      R (.ok (.ret (.ref (s.heap.push { cls:=.type "tuple_iterator",data:=.fields #[.ref t,.int 0 0] }).objs.size)))
        { s with heap:=(s.heap.push { cls:=.type "tuple_iterator",data:=.fields #[.ref t,.int 0 0] }).push { cls:=.type "enumerate",data:=.fields #[.none,.bool false,.ref s.heap.objs.size,rawInt 0,.none,.none] } }) :=
  .of_wp fun prog w A R s h=>by
    obtain ⟨hp,g,d,tk,os⟩:=s; obtain ⟨hl,h⟩:=h
    have hsub:=sub_enumerate
    have hL:Heap.IsTuple (Shared.heap ⟨hp,g,d,tk,os⟩) t xs:=hl
    wp_walk
    refine wpAny_stack_any fun st=>wpAny_pure ?_
    split
    · rename_i c _ _ _ _ _
      cases (c == Value.type "enumerate")
      · wp_walk using wpAny_pyIter_tuple hL
        exact ⟨_,rfl,h⟩
      · wp_walk using wpAny_pyIter_tuple hL
        exact ⟨_,rfl,h⟩
    · wp_walk using wpAny_pyIter_tuple hL
      exact ⟨_,rfl,h⟩
theorem nV {prog:Program} {w:World} {A:Around} {E:Value→Shared→Prop} {s:Shared} {l:Addr} {items:Array Value} {Q:Value→Shared→Prop} (hL:s.heap.IsTuple l items)
    (h:∀ h',IsEnum h' (s.heap.objs.size + 1) s.heap.objs.size 0 .none→h'.IsTupleIter s.heap.objs.size l 0→(∀ b o,s.heap.get? b=some o→h'.get? b=some o)→Q (.ref (s.heap.objs.size + 1)) { s with heap:=h' }) :
    wpAny (model prog w) A (call (.type "enumerate") [.ref l]) Q E s:=by
  refine callType_new PySem.F.called_enumerate (by decide) (PySem.F.typeCall_enumerate_1 _) (PySem.F.newCall_enumerate_1 _) (fun obj=>PySem.F.args_object_init_2 obj _) PySem.F.entry_enumerate_new (lL l items) ⟨hL,?_⟩
  have hz:(s.heap.push { cls:=.type "tuple_iterator",data:=.fields #[.ref l,.int 0 0] }).objs.size=s.heap.objs.size + 1:=Heap.size_push ..
  show _∧_
  rw [hz]
  have he:IsEnum ((s.heap.push { cls:=.type "tuple_iterator",data:=.fields #[.ref l,.int 0 0] }).push
      { cls:=.type "enumerate",data:=.fields #[.none,.bool false,.ref s.heap.objs.size,rawInt 0,.none,.none] }) (s.heap.objs.size + 1) s.heap.objs.size 0 .none:=by
    have:=Heap.get?_push_size (s.heap.push { cls:=.type "tuple_iterator",data:=.fields #[.ref l,.int 0 0] })
      (o:={ cls:=.type "enumerate",data:=.fields #[.none,.bool false,.ref s.heap.objs.size,rawInt 0,.none,.none] }) rfl
    rw [hz] at this
    exact this
  refine ⟨⟨_,he,rfl⟩,h _ he ⟨_,Heap.get?_push_of_some _ (Heap.get?_push_size _ rfl),rfl,rfl⟩ fun b o e=>Heap.get?_push_of_some _ (Heap.get?_push_of_some _ e)⟩
noncomputable def Ite (P:Hp→List V→Prop) (n:Nat):It :=
  ⟨fun i H=>i < n∧∃ xs,P H xs∧xs.length=n,
   fun i H v H'=>∃ t x,v=.ref t∧H t=none∧H'=upd H t (.tup [.int i,x])∧∀ xs,P H xs→xs[i]?=some x,
   fun i H=>i=n∧∃ xs,P H xs∧xs.length=n⟩
theorem ka {P:Program} {w:World} {K:PySem.W.Frag} {elts:List Expr} {x1:Nat} {tp:Pos} {a e it:Addr} {n:Nat} {Pv:Hp→List V→Prop} {S:Nat→Heap→Prop} {B:Heap→Array Value→Prop} (hne:e≠it) (hea:e≠a)
    (hD:∀ (A:Around),A.handled=none→∀ its:Array Value,Draws P w A it [it,a] its.size (fun i v=>its[i]?=some v) (fun i h=>S i h∧B h its))
    (hB:∀ (X:Cx),X.prog=P→X.w=w→X.K=K→∀ {pins:List (Addr × Obj)} {s:Shared} {σ:St} {H:Hp} {xs:List V},Inv X pins σ H s→Pv H xs→∃ its:List Value,Vals xs its∧B s.heap its.toArray)
    (hI:∀ (X:Cx),X.prog=P→X.w=w→X.K=K→∀ {pins:List (Addr × Obj)} {s:Shared} {σ:St} {H:Hp} {xs ys:List V},Inv X pins σ H s→Pv H xs→Pv H ys→xs=ys)
    (hO:∀ i h,S i h→∃ o,h.get? it=some o∧∀ v,o.data≠.cell v) (hK:∀ i h h',S i h→(∀ o,h.get? it=some o→h'.get? it=some o)→S i h') :
    Turn P w K (.Tuple elts x1 tp) (Ite Pv n) [e,it] e (fun i h=>(∃ old,IsEnum h e it i old)∧S i h) where
  mem:=by simp
  obj:=fun i h st c hc=>by
    obtain ⟨⟨old,h1⟩,h2⟩:=st
    simp only [List.mem_cons,List.not_mem_nil,or_false] at hc
    rcases hc with rfl | rfl
    · exact ⟨_,h1,fun v q=>by cases q⟩
    · exact hO i h h2
  keep:=fun i h h' st k=>by
    obtain ⟨⟨old,h1⟩,h2⟩:=st
    exact ⟨⟨old,k e (by simp) _ h1⟩,hK i h h' h2 fun o q=>k it (by simp) o q⟩
  item:=by
    intro X hP hw hKK hc i pins s σ H E I hf st hg
    subst hP hw hKK
    obtain ⟨hi,xs,hx,lx⟩:=hg
    obtain ⟨⟨old,h1⟩,h2⟩:=st
    obtain ⟨its,rv,hb⟩:=hB X rfl rfl rfl I hx
    have la:=rv.length
    refine wpAny_pyNext_enum_itemD (hD X.A.in1 (I.ok.hd hc) its.toArray) h1 ⟨h2,hb⟩ (by simp; omega) hne (by simp [hne,hea]) fun x h' tk px ho hs hT hsz hk=>⟨_,rfl,?_⟩
    refine wpAny_letOwnedTupleGo_enum (s:={ s with heap:=h',toks:=tk + 1 }) ho fun h2' d1 d2=>?_
    have el:e < s.heap.objs.size:=Heap.lt_size h1
    have il:it < s.heap.objs.size:=by obtain ⟨o,q,_⟩:=hO i _ h2; exact Heap.lt_size q
    have up:∀ c o,c≠e→h'.get? c=some o→h2'.get? c=some o:=fun c o hc q=>(d2.2 c hc).trans q
    obtain ⟨x0,ex,rx⟩:∃ x0,xs[i]?=some x0∧RelV x0 x:=by
      have hil:i < xs.length:=by omega
      obtain ⟨u',e1,e2⟩:=rv.get (List.getElem?_eq_getElem hil)
      refine ⟨xs[i],List.getElem?_eq_getElem hil,?_⟩
      have px':its[i]?=some x:=by simpa using px
      rw [e1] at px'; cases px'; exact e2
    have fr:H s.heap.objs.size=none:=I.hok.fresh (Nat.le_refl _)
    refine ⟨.ref s.heap.objs.size,upd H s.heap.objs.size (.tup [.int i,x0]),?_,rfl,⟨_,x0,rfl,fr,rfl,fun ys h=>by rw [hI X rfl rfl rfl I h hx]; exact ex⟩,?_,fun c hc'=>?_⟩
    · refine I.turnLay (t':=tk + 1) (ch:=[e,it]) hf (Nat.le_refl _) (fun c o hn q=>?_) ⟨by show 2≤sizeLine; decide,[.int i tk,x],.cons ⟨tk,rfl⟩ (.cons rx .nil),⟨_,up _ _ (Nat.ne_of_gt el) hT,rfl,rfl,_,rfl⟩⟩
      simp only [List.mem_cons,List.not_mem_nil,or_false,not_or] at hn
      exact up c o hn.1 (hk c o hn.1 hn.2 q)
    · exact ⟨⟨x,by simpa using d1⟩,hK _ _ _ hs.1 fun o q=>up it o hne.symm q⟩
    · have h0:=(hf c hc').1
      simp only [List.mem_cons,List.not_mem_nil,or_false] at hc'
      rcases hc' with rfl | rfl
      · rw [aQ (Nat.ne_of_lt el)]; exact h0
      · rw [aQ (Nat.ne_of_lt il)]; exact h0
  done:=by
    intro X hP hw hKK hc i pins s σ H E I hf st hg
    subst hP hw hKK
    obtain ⟨hi,xs,hx,lx⟩:=hg
    obtain ⟨⟨old,h1⟩,h2⟩:=st
    obtain ⟨its,rv,hb⟩:=hB X rfl rfl rfl I hx
    have la:=rv.length
    have e':its.toArray.size=i:=by simp; omega
    refine wpAny_pyNext_enum_endD (hD X.A.in1 (I.ok.hd hc) its.toArray) h1 ⟨by rw [e']; exact h2,hb⟩ fun h' k=>⟨rfl,?_⟩
    refine I.turneds (t':=s.toks) (ch:=[e,it]) hf fun c o hn q=>?_
    simp only [List.mem_cons,List.not_mem_nil,or_false,not_or] at hn
    exact k c o hn.2 q
  self:=fun _ _ _ _ _ st h=>by
    obtain ⟨⟨old,h1⟩,_⟩:=st
    exact wpAny_pyIter_enum h1 h
theorem rS:bootBuiltins "enumerate"=some (.type "enumerate"):=by decide +kernel
noncomputable def vY (K:PySem.W.Frag) (ta:TA):TI:=fun σ H R=>ta σ H fun vs H1=>∃ a xs,vs=[.ref a]∧((SqT K H1 a xs∧R (Ite (fun H ys=>SqT K H a ys) xs.length) H1)∨(SqL K H1 a xs∧R (Ite (fun H ys=>SqL K H a ys) xs.length) H1))
theorem tG {X:Cx} {elts:List Expr} {x1:Nat} {tp:Pos} {a:Expr} {ta:TA} {p pos:Pos} (hg:Gl X "enumerate") (hm:X.mg "enumerate"=none) (ha:PA X [a] ta) (hs:starEach [a] X.env=[(false,eval a X.env)]:=by rfl) :
    PI X (.Tuple elts x1 tp) (.Call (.Name "enumerate" p) [a] [] pos) (vY X.K ta):=by
  intro pins s σ H R I h
  refine Call_ (d5 I hg hm rS (PyProof.Rows.callWith_type1 (thn (ha pos pins s σ H _ I h) fun us s1 ⟨vs,H1,I1,r1,q1⟩=>?_) hs rfl))
  obtain ⟨aa,xs,e,q⟩:=q1
  subst e
  obtain ⟨u1,e1,r2⟩:=vals1 r1
  subst e1
  cases r2
  have big:∀ c∈[s1.heap.objs.size + 1,s1.heap.objs.size],s1.heap.objs.size≤c:=fun c hc=>by
    simp only [List.mem_cons,List.not_mem_nil,or_false] at hc
    rcases hc with rfl | rfl
    · exact Nat.le_succ _
    · exact Nat.le_refl _
  have nes:s1.heap.objs.size + 1≠s1.heap.objs.size:=Nat.succ_ne_self _
  rcases q with ⟨hx,q⟩ | ⟨hx,q⟩
  · obtain ⟨its,rv,pt,_⟩:=I1.tuple hx
    have pt':s1.heap.IsTuple aa its.toArray:=pt
    have al:aa < s1.heap.objs.size:=by obtain ⟨_,g,_⟩:=pt'; exact Heap.lt_size g
    refine nV pt' fun h' he hit kk=>wpAny_pyIter_enum he ?_
    have I2:Inv X pins σ H1 { s1 with heap:=h' }:=I1.kept (t':=s1.toks) kk
    refine ⟨_,_,_,_,H1,rfl,I2,ka (a:=aa) (S:=fun i h=>h.IsTupleIter s1.heap.objs.size aa i) (B:=fun h its=>h.IsTuple aa its) nes (Nat.ne_of_gt (Nat.lt_succ_of_lt al)) (fun A hh its=>p5 hh s1.heap.objs.size aa (Nat.ne_of_lt al) its)
      (fun X' _ _ hK {_ _ _ _ _} I h=>?_) (fun X' _ _ hK {_ _ _ _ _ _} I h1 h2=>?_) (fun i h st=>?_) (fun i h h'' st k=>?_),⟨⟨_,he⟩,hit⟩,fun c hc=>I1.fpOk (big c hc) (I1.hok.fresh (big c hc)),q⟩
    · rw [← hK] at h
      obtain ⟨its,rv,p,_⟩:=I.tuple h
      exact ⟨its,rv,p⟩
    · rw [← hK] at h1 h2
      exact I.tuple_inj h1 h2
    · obtain ⟨o,g,_,d⟩:=st
      exact ⟨o,g,fun v q=>by rw [d] at q; cases q⟩
    · obtain ⟨o,g,r⟩:=st
      exact ⟨o,k o g,r⟩
  · obtain ⟨its,rv,pl,_⟩:=I1.list hx
    have al:aa < s1.heap.objs.size:=by obtain ⟨_,_,g,_⟩:=pl; exact Heap.lt_size g
    refine call_enumerate_list pl.isList fun h' he hit hz kk=>wpAny_pyIter_enum he ?_
    have I2:Inv X pins σ H1 { s1 with heap:=h' }:=I1.kept (t':=s1.toks) kk
    refine ⟨_,_,_,_,H1,rfl,I2,ka (a:=aa) (S:=fun i h=>h.IsListIter s1.heap.objs.size aa i) (B:=fun h its=>h.IsList aa its) nes (Nat.ne_of_gt (Nat.lt_succ_of_lt al)) (fun A hh its=>Draws.list hh s1.heap.objs.size aa (Nat.ne_of_lt al) its)
      (fun X' _ _ hK {_ _ _ _ _} I h=>?_) (fun X' _ _ hK {_ _ _ _ _ _} I h1 h2=>?_) (fun i h st=>?_) (fun i h h'' st k=>?_),⟨⟨_,he⟩,hit⟩,fun c hc=>I1.fpOk (big c hc) (I1.hok.fresh (big c hc)),q⟩
    · rw [← hK] at h
      obtain ⟨its,rv,p,_⟩:=I.list h
      exact ⟨its,rv,p.isList⟩
    · rw [← hK] at h1 h2
      exact I.list_inj h1 h2
    · obtain ⟨o,g,_,d⟩:=st
      exact ⟨o,g,fun v q=>by rw [d] at q; cases q⟩
    · obtain ⟨o,g,r⟩:=st
      exact ⟨o,k o g,r⟩
noncomputable def gK (ds:List PyData):List PyData:=ds.mapIdx fun i d=>.tuple [.int i,d]
theorem pR (ds:List PyData):(gK ds).length=ds.length:=by simp [gK]
theorem kn {K:PySem.W.Frag} {G:Hp} {Pv:Hp→List V→Prop} {xs:List V} {ds:List PyData} (h:Iss K G ds xs) (hp:∀ H1,av G H1→Pv H1 xs):pY K (Ite Pv xs.length) (gK ds) G:=fun H1 B s lB hB=>by
  have hl:=h.length
  rw [pR]
  refine ⟨fun i hi=>⟨by omega,xs,hp H1 s,rfl⟩,⟨hl.symm,xs,hp H1 s,rfl⟩,fun i x H2 hi y=>?_⟩
  obtain ⟨t,x0,rfl,ht,rfl,hx⟩:=y
  obtain ⟨d,e,hd⟩:=h.get (hx xs (hp H1 s))
  refine ⟨bt ht,.tuple [.int i,d],by unfold gK; rw [List.getElem?_mapIdx,e]; rfl,?_⟩
  have nb:t ∉ B:=lB.new ht
  exact f6 (by rw [bA nb]; exact bQ) (cA bP (iX (hd.same (fun b o q=>by
      have q1:=s b o q
      have nt:b≠t:=aP q1 ht
      rw [bA (fun z=>by rw [hB b z] at q; cases q),aQ nt]; exact q1))))
section
variable {X:Cx} {E:XK} {a b c e k:Expr} {ga gb gk:Ds→Rs PyData} {pos:Pos} {es:List Expr} {gs:Ds→Rs (List PyData)} {O:List Nat}
noncomputable def jz:List PyData→Rs (List PyData)
  | [.list ds]=>.ok (gK ds)
  | [.tuple ds]=>.ok (gK ds)
  | _=>.no
noncomputable def nY (g:Ds→Rs (List PyData)):Ds→Rs (List PyData):=fun δ=>(g δ).bind jz
theorem qJ {elts:List Expr} {x1:Nat} {tp p:Pos} (hm:X.mg "enumerate"=none) (ha:PAD X E [a] gs) (hg:Gl X "enumerate":=by rfl) (hs:starEach [a] X.env=[(false,eval a X.env)]:=by rfl) :
    PID X E (.Tuple elts x1 tp) (.Call (.Name "enumerate" p) [a] [] pos) (nY gs):=(tG hg hm ha.1 hs).imp fun σ H R ⟨A,δ,Rp,o⟩=>nG Rp o fun ds vs H1 e s1 R1 h1 o=>by
  unfold jz at o
  split at o
  · obtain ⟨v,rfl,h⟩:=fT h1
    obtain ⟨p,xs,rfl,hp,hx⟩:=h.ofLst
    exact ⟨p,xs,rfl,.inr ⟨SqL.of (ay _ _ hp),o _ H1 (av.refl _) (kn hx fun H2 s2=>SqL.of (s2 _ _ hp))⟩⟩
  · obtain ⟨v,rfl,h⟩:=fT h1
    obtain ⟨p,xs,rfl,hp,hx⟩:=h.ofTup
    exact ⟨p,xs,rfl,.inl ⟨SqT.of (ay _ _ hp),o _ H1 (av.refl _) (kn hx fun H2 s2=>SqT.of (s2 _ _ hp))⟩⟩
  · exact o.elim
noncomputable def eS (y x:Nat) (gk:Ds→Rs PyData):Ds→Sr:=fun δ=>match δ[y]?,δ[x]? with
  | some (some (.list ys)),some (some (.list xs))=>ofR (gk δ) fun k=>match k with
    | .int k=>if -(1000000)≤k∧k≤1000000∧ys.length < 1000000 then (match ixN xs.length k with
      | some j=>match xs[j]? with
        | some d=>.nx ((δ.set x (some (.list (xs.eraseIdx j)))).set y (some (.list (ys++[d]))))
        | none=>.no
      | none=>.no) else .no
    | _=>.no
  | _,_=>.no
theorem nU {y x:Nat} {ny nx:Str} {py pa pc px pb pd:Pos} (hk:PD X E k gk) (hyx:x≠y:=by decide) (hOy:y∈O:=by decide) (hOx:x∈O:=by decide) (hiy:X.N[y]?=some ny:=by rfl) (hix:X.N[x]?=some nx:=by rfl)
    (hvy:Vis X.env.scope ny:=by first | exact Or.inl rfl | exact Or.inr (Or.inl rfl) | exact Or.inr (Or.inr rfl)) (hvx:Vis X.env.scope nx:=by first | exact Or.inl rfl | exact Or.inr (Or.inl rfl) | exact Or.inr (Or.inr rfl))
    (hdy:(ny == ("__debug__":Str))=false:=by decide) (hcdy:(ny == ("__classdict__":Str))=false:=by decide) (hdx:(nx == ("__debug__":Str))=false:=by decide) (hcdx:(nx == ("__classdict__":Str))=false:=by decide)
    (hst:starEach [k] X.env=(false,eval k X.env)::starEach [] X.env:=by rfl) (hst2:starEach [.Call (.Attribute (.Name nx px) "pop" pb) [k] [] pd] X.env=(false,eval (.Call (.Attribute (.Name nx px) "pop" pb) [k] [] pd) X.env)::starEach [] X.env:=by rfl)
    (hbase:attributeBase (.Name nx px) "pop" X.env (eval (.Name nx px) X.env)=eval (.Name nx px) X.env:=by rfl) (hbase2:attributeBase (.Name ny py) "append" X.env (eval (.Name ny py) X.env)=eval (.Name ny py) X.env:=by rfl)
    (hfew:((backTo pd (starEach [k] X.env)).all (fun x=>!x.1) && (backToKw pd (keywordEach [] X.env)).all (fun x=>x.1.isSome) && decide (([k]:List Expr).length + ([]:List Keyword).length + (if ([]:List Keyword).isEmpty then 0 else 1) < 30))=true:=by rfl)
    (hfew2:((backTo pc (starEach [.Call (.Attribute (.Name nx px) "pop" pb) [k] [] pd] X.env)).all (fun x=>!x.1) && (backToKw pc (keywordEach [] X.env)).all (fun x=>x.1.isSome) && decide (([.Call (.Attribute (.Name nx px) "pop" pb) [k] [] pd]:List Expr).length + ([]:List Keyword).length + (if ([]:List Keyword).isEmpty then 0 else 1) < 30))=true:=by rfl)
    (hline:(pb.endLine == pd.line)=true:=by rfl) (hline2:(pa.endLine == pc.line)=true:=by rfl)
    (hs:swapsWith (.Call (.Attribute (.Name ny py) "append" pa) [.Call (.Attribute (.Name nx px) "pop" pb) [k] [] pd] [] pc) none pos.line X.env=pure false:=by rfl) :
    PSD X E O (.Expr (.Call (.Attribute (.Name ny py) "append" pa) [.Call (.Attribute (.Name nx px) "pop" pb) [k] [] pd] [] pc) pos) (eS y x gk) :=
  (iQ (oS PySem.F.plainAttrs_list PySem.F.slot_list_append PySem.F.type_list_append hX (fL hiy hvy hdy hcdy) (b4 (oS PySem.F.plainAttrs_list PySem.F.slot_list_pop PySem.F.type_list_pop qj (fL hix hvx hdx hcdx) (b4 hk df hst) hbase hfew hline hst rfl) df hst2) hbase2 hfew2 hline2 hst2 rfl) hs).imp fun D σ H ⟨H0,A0,A,δ,R,o⟩=>by
    unfold eS at o
    split at o
    · rename_i ys xs qy qx
      obtain ⟨p,vy,dy,e1,hp,hl,e2,hx⟩:=R.own y _ hOy qy
      cases e2
      obtain ⟨r,vx,dx,f1,hr,hm,f2,hz⟩:=R.own x _ hOx qx
      cases f2
      have npr:p≠r:=fun z=>hyx (R.inj x y _ _ p hOx hOy qx qy (by rw [z]; exact f1) e1)
      refine ⟨_,e1,tyL hl,_,f1,tyL hm,?_⟩
      refine eD.run R.full (fun kd ek u H1 s1 R1 hu=>?_) (fun C et H' s'=>by rw [et] at o; exact o H' (R.same.trans s')) (fun et=>by rw [et] at o; exact o)
      simp only [ek,aW] at o
      split at o
      · rename_i kk
        split at o
        · rename_i hb
          split at o
          · rename_i j hj
            split at o
            · rename_i d hd
              obtain ⟨w,hw,hwd⟩:=hz.getD hd
              have hj':=hj
              obtain ⟨g1,g2,g3,g4⟩:=lE hj
              have RS:=R.step s1
              have RS2:=RS.put (ds:=xs.eraseIdx j) (ys:=vx.eraseIdx j) hOx qx f1 hr ((hz.same s1.del).eraseIdx j)
              refine ⟨r,vx,kk,j,w,rfl,by rw [hu.ofInt],s1 _ _ hm,by omega,by omega,by rw [hz.length]; exact g1,hw,?_⟩
              have dU:del (upd H1 r (.lst (vx.eraseIdx j))) (A++A0)=del H1 (A++A0):=kK (List.mem_append_left _ hr)
              refine ⟨p,vy,w,rfl,rfl,by rw [aQ npr]; exact s1 _ _ hl,by rw [hx.length,sizeLine_eq]; omega,?_⟩
              refine o A _ _ (RS2.put (ds:=ys++[d]) hOy (by rw [List.getElem?_set_ne hyx]; exact qy) e1 hp ?_)
              rw [dU]
              exact (hx.same s1.del).append (iX (hwd.same s1.del))
            · exact o.elim
          · exact o.elim
        · exact o.elim
      · exact o.elim
    · exact o.elim
end
end L2
set_option maxRecDepth 100000
set_option maxHeartbeats 4000000
namespace L2
open PySem PySem.Spec PyProof.Rows
theorem mh:isSubtype (.type "tuple") (.type "set")=pure false:=by rw [isSubtype_type]; kernel_rfl
theorem lT:isSubtype (.type "tuple") (.type "frozenset")=pure false:=by rw [isSubtype_type]; kernel_rfl
section
variable {prog:Program} {w:World} {A:Around} {E:Value→Shared→Prop} {s:Shared}
noncomputable def seen (ns:List Int) (n:Nat):List Int:=firstMet (fun i=>ns.getD i 0) n
theorem pX {tu:Addr} {its:Array Value} {ns:List Int} {Q:Value→Shared→Prop} (hh:A.handled=none) (ht:s.heap.IsTuple tu its) (hi:IntsAre its.toList ns) (hb:its.size + 1 < scanBound)
    (hQ:∀ (h':Heap) (tk:Nat),h'.SetOf (intKind prog w) s.heap.objs.size (fun k=>(seen ns its.size).any (· == k)) (seen ns its.size).length→(∀ b o,b < s.heap.objs.size→s.heap.get? b=some o→h'.get? b=some o)→Q (.ref s.heap.objs.size) { s with heap:=h',toks:=tk }) :
    wpAny (model prog w) A (call (.type "set") [.ref tu]) Q E s:=by
  obtain ⟨c,tl,mro⟩:=PySem.F.called_set.mro
  have m1:=PySem.F.called_set.made; have m2:=PySem.F.called_set.sub
  refine wpAny_call (codeAny_of_tree ?_); show wpAny _ _ (callAny (.type "set") _) _ _ _
  refine wpAny_pure ⟨Code.quiet_builtin _ (by decide +kernel),codeAny_builtin PySem.F.entry_type_call ?_⟩; rw [Around.under_plain (weight_type_call_type "set" [.ref tu] []) rfl]
  have m3:=PySem.F.called_set.notType; have m4:=PySem.F.called_set.canCreate; have m5:=PySem.F.typeCall_set_1 (.ref tu)
  repeat (any_goals (first | assumption | wp_step))
  refine codeAny_mono (PySem.code_set_new_1 (.ref tu) (E:=E) (Q₁:=fun ob s1=>∃ led:Bool,ob=.ref s.heap.objs.size∧s1={ s with heap:=s.heap.push { cls:=.type "set",dict:=none,data:=.set #[] 0 (.fresh 0 0 led) } }) fun led=>⟨led,rfl,rfl⟩) fun r s1 hr=>?_
  cases r with
  | error ev=>exact hr
  | ok fl =>
    cases fl with
    | ret ob =>
      obtain ⟨led,rfl,rfl⟩:=hr
      have gS:(s.heap.push { cls:=.type "set",dict:=none,data:=.set #[] 0 (.fresh 0 0 led) }).get? s.heap.objs.size=some { cls:=.type "set",dict:=none,data:=.set #[] 0 (.fresh 0 0 led) }:=Heap.get?_push_size _ rfl
      have tS:Shared.TypeIs { s with heap:=s.heap.push { cls:=.type "set",dict:=none,data:=.set #[] 0 (.fresh 0 0 led) } } (.ref s.heap.objs.size) "set":=⟨_,gS,rfl⟩
      have m6:=PySem.F.called_set.init.lookup; have m7:=PySem.F.called_set.init.bind (.ref s.heap.objs.size)
      repeat (any_goals (first | assumption | wp_step))
      refine codeAny_mono (codeAny_call_builtin (R:=wants (fun rv s2=>rv=.none∧∃ h' tk,s2={ s with heap:=h',toks:=tk }∧h'.SetOf (intKind prog w) s.heap.objs.size (fun k=>(seen ns its.size).any (· == k)) (seen ns its.size).length ∧
          (∀ b o,b < s.heap.objs.size→s.heap.get? b=some o→h'.get? b=some o)) E) PySem.F.called_set.init.plain PySem.F.entry_set_init (PySem.check_set_init_1 tS ?_)) fun r2 s2 hr2=>?_
      · obtain ⟨⟨oc,od,oda,osl⟩,go,gc,gn,gd⟩:=ht
        simp only at gc gd; subst gc; subst gd
        have go':(s.heap.push { cls:=.type "set",dict:=none,data:=.set #[] 0 (.fresh 0 0 led) }).get? tu=some { cls:=.type "tuple",dict:=od,data:=.seq its gn,slots:=osl }:=Heap.get?_push_of_some _ go
        have n1:=mh; have n2:=lT
        have n3:(Value.type "tuple" == Value.type "dict")=false:=by decide
        have t1:(s.heap.push { cls:=.type "set",dict:=none,data:=.set #[] 0 (.fresh 0 0 led) }).IsTuple tu its:=⟨_,go',rfl,gn,rfl⟩
        unfold Builtin.«set.__init__» noKeywords Builtin.Frozenset.updateFrom; generalize zz:pyIter=PI
        wp_walk
        subst zz; refine wpAny_pyIter_tuple t1 (wpAny_bind (wpAny_runValue ?_))
        have tl':tu < s.heap.objs.size:=Heap.lt_size go
        have h3:A.in1.in1.in1.handled=none:=by simp [hh]
        have ne1:tu≠(s.heap.push { cls:=.type "set",dict:=none,data:=.set #[] 0 (.fresh 0 0 led) }).objs.size:=by rw [Heap.size_push]; exact Nat.ne_of_lt (Nat.lt_succ_of_lt tl')
        have nSf:s.heap.objs.size ∉ [(s.heap.push { cls:=.type "set",dict:=none,data:=.set #[] 0 (.fresh 0 0 led) }).objs.size,tu]:=by
          rw [Heap.size_push]; simp only [List.mem_cons,List.mem_singleton,List.not_mem_nil,or_false,not_or]; exact ⟨Nat.ne_of_lt (Nat.lt_succ_self _),Nat.ne_of_gt tl'⟩
        have vv:∀ (i:Nat) (v:Value),its[i]?=some v→∃ t,v=.int ((fun i=>ns.getD i 0) i) t:=fun i v hv=>IntsAre.int_at hi i v (by rw [Array.getElem?_toList]; exact hv)
        refine codeAny_set_update_loopS ((Walks.tuple h3 _ tu ne1 its).toS) s.heap.objs.size nSf (fun i=>ns.getD i 0) vv hb (its.size - 0) 0 _ (by omega) (Nat.zero_le _) ⟨⟨_,Heap.get?_push_size _ rfl,rfl,rfl⟩,⟨_,Heap.get?_push_of_some _ go',rfl,gn,rfl⟩⟩ ?_ ?_
        · have gg:((s.heap.push { cls:=.type "set",dict:=none,data:=.set #[] 0 (.fresh 0 0 led) }).push { cls:=.type "tuple_iterator",data:=.fields #[.ref tu,.int 0 0] }).get? s.heap.objs.size=some { cls:=.type "set",dict:=none,data:=.set #[] 0 (.fresh 0 0 led) }:=Heap.get?_push_of_some _ gS
          exact SetOf_congr ((setObjOf_fresh (knd:=intKind prog w) led).setOf gg (by unfold scanBound; omega)) (fun _=>rfl) rfl
        · intro s' mv hS'
          obtain ⟨h',g',d',tk',os'⟩:=s'
          have e1:g'=s.gens:=mv.gens; have e2:d'=s.drawn:=mv.drawn; have e3:os'=s.os:=mv.os
          subst e1; subst e2; subst e3
          show wpAny _ _ _ _ _ _; refine wpAny_pure ?_
          show wpAny _ _ (ret Value.none) _ _ _; refine wpAny_pure ⟨rfl,h',tk',rfl,hS',fun b o hb e=>?_⟩
          have b2:b≠(s.heap.push { cls:=.type "set",dict:=none,data:=.set #[] 0 (.fresh 0 0 led) }).objs.size:=by rw [Heap.size_push]; exact Nat.ne_of_lt (Nat.lt_succ_of_lt hb)
          exact mv.heap b o (by simp only [List.mem_cons,List.mem_singleton,List.not_mem_nil,or_false,not_or]; exact ⟨Nat.ne_of_lt hb,b2⟩) (Heap.get?_push_of_some _ (Heap.get?_push_of_some _ e))
      · cases r2 with
        | error ev=>exact hr2
        | ok fl2 =>
          cases fl2 with
          | ret rv =>
            obtain ⟨rfl,h',tk,rfl,hS',kk⟩:=hr2
            repeat (any_goals (first | assumption | wp_step))
            exact hQ _ _ hS' kk
          | _=>exact hr2.elim
    | _=>exact hr.elim
end
section
variable {X:Cx} {E:XK} {a b c e:Expr} {ga gb gc:Ds→Rs PyData} {pos:Pos} {es:List Expr} {gs:Ds→Rs (List PyData)}
theorem uM:bootBuiltins "set"=some (.type "set"):=by decide +kernel
noncomputable def tLS (K:PySem.W.Frag) (ta:TA):TE:=fun σ H Q=>ta σ H fun vs H1=>∃ (p:Addr) (ns:List Int),vs=[.ref p]∧SqT K H1 p (ns.map V.int)∧ns.length≤1000∧Q (.int (seen ns ns.length).length) H1
theorem pj {ta:TA} {p p2 pos2:Pos} (hc:X.calm=true) (hg:Gl X "set") (hm:X.mg "set"=none) (hgl:Gl X "len") (hml:X.mg "len"=none) (ha:PA X [a] ta) (hs:starEach [a] X.env=[(false,eval a X.env)]:=by rfl)
    (hs2:starEach [.Call (.Name "set" p) [a] [] pos] X.env=(false,eval (.Call (.Name "set" p) [a] [] pos) X.env)::starEach [] X.env:=by rfl) (hpl:(backTo pos2 (starEach [] X.env)).any (·.1)=false:=by rfl) :
    PE X (.Call (.Name "len" p2) [.Call (.Name "set" p) [a] [] pos] [] pos2) (tLS X.K ta):=by
  intro pins s σ H Q I h
  refine wpAny_Call_Name_kw (d5 I hgl hml PySem.boot_len ?_)
  refine PyProof.Rows.callWith_builtin1 ?_ hs2 hpl
  rw [hs2]
  show wpAny _ _ (spliced ((false,eval (.Call (.Name "set" p) [a] [] pos) X.env)::backTo pos2 [])) _ _ s
  refine Calls.spliced_cons (Call_ (d5 I hg hm uM (PyProof.Rows.callWith_type1 (thn (ha pos pins s σ H _ I h) fun us s1 ⟨vs,H1,I1,r1,q1⟩=>?_) hs rfl)))
  obtain ⟨q,ns,e,hq,hz,fin⟩:=q1
  subst e
  obtain ⟨u,rfl,ru⟩:=vals1 r1
  cases ru
  obtain ⟨its,rv,pt,_⟩:=I1.tuple hq
  have hl:=rv.length
  rw [List.length_map] at hl
  refine pX (I1.ok.hd hc) (show s1.heap.IsTuple q its.toArray from pt) (intsAre_of rv) (by rw [List.size_toArray]; unfold scanBound; omega) fun h' tk hS kk=>Calls.spliced_nil ?_
  have I2:Inv X pins σ H1 { s1 with heap:=h',toks:=tk }:=I1.kept fun b o e=>kk b o (Heap.lt_size e) e
  have esz:its.toArray.size=ns.length:=by rw [List.size_toArray]; exact hl.symm
  rw [esz] at hS
  obtain ⟨o,es',ep,t,ho,ex,hd,_,_,hb,hf,hsz⟩:=hS
  refine PySem.call_len_set ho ex hd hf (by unfold scanBound at hb; omega) ⟨.int (seen ns ns.length).length,H1,I2.tok _,⟨_,by rw [hsz]⟩,fin⟩
noncomputable def gD:List PyData→Option PyData
  | [.tuple x]=>(fX x).bind fun ns=>if ns.length≤1000 then some (.int (seen ns ns.length).length) else none
  | _=>none
theorem pL {p p2 pos2:Pos} (hc:X.calm=true) (hm:X.mg "set"=none) (hml:X.mg "len"=none) (ha:PAD X E [a] gs) (hg:Gl X "set":=by rfl) (hgl:Gl X "len":=by rfl) (hs:starEach [a] X.env=[(false,eval a X.env)]:=by rfl)
    (hs2:starEach [.Call (.Name "set" p) [a] [] pos] X.env=(false,eval (.Call (.Name "set" p) [a] [] pos) X.env)::starEach [] X.env:=by rfl) (hpl:(backTo pos2 (starEach [] X.env)).any (·.1)=false:=by rfl) :
    PD X E (.Call (.Name "len" p2) [.Call (.Name "set" p) [a] [] pos] [] pos2) (gF gD gs):=(pj hc hg hm hgl hml ha.1 hs hs2 hpl).imp fun σ H Q ⟨A,δ,R,o⟩=>lV R o fun ds vs H1 e s1 R1 h1 o=>by
  unfold gD at o
  split at o
  · rename_i x
    cases q:fX x with
    | none=>rw [q] at o; exact o.elim
    | some ns =>
      rw [q] at o
      obtain ⟨v,rfl,hh⟩:=fT h1
      obtain ⟨p,xs,rfl,hp,hx⟩:=hh.ofTup
      rw [eW q] at hx
      rw [hx.ofInts] at hp
      by_cases z:ns.length≤1000
      · simp only [Option.bind_some,if_pos z] at o
        exact ⟨p,ns,rfl,SqT.of (ay _ _ hp),z,o _ H1 (av.refl _) bP⟩
      · simp only [Option.bind_some,if_neg z] at o
        exact o.elim
  · exact o.elim
end
end L2
set_option maxRecDepth 100000
set_option maxHeartbeats 4000000
namespace L2
open PySem PySem.Spec PyProof.Rows
open AutoSeq1 (wpAny_loadPart')
open SeqAt (EqAt)
section
variable {X:Cx} {E:XK} {a o e:Expr} {ga go:Ds→Rs PyData} {pos:Pos} {es:List Expr} {gs:Ds→Rs (List PyData)}
noncomputable def qV (xs:List PyData) (y:PyData):Option PyData:=if c8 y && xs.all c8 then ((xs.map toV).findIdx? fun z=>eqV z (toV y)).map fun j=>.int j else none
noncomputable def xk (go ga:Ds→Rs PyData):Ds→Rs PyData:=fun δ=>(go δ).bind fun d=>match d with
  | .tuple xs=>(ga δ).bind fun y=>Rs.c7 (qV xs y)
  | _=>.no
end
end L2
set_option maxRecDepth 100000
set_option maxHeartbeats 4000000
namespace L2
open PySem PySem.Spec PyProof.Rows
section
variable {X:Cx} {E:XK} {a:Expr} {es:List Expr} {gs:Ds→Rs (List PyData)} {pos:Pos}
end
end L2
set_option maxRecDepth 100000
set_option maxHeartbeats 4000000
namespace L2
open PySem PySem.Spec PyProof.Rows
section
variable {X:Cx} {E:XK} {O:List Nat} {K:PySem.W.Frag} {H0 H:Hp} {A0 A:List Addr} {δ:Ds} {σ:St}
end
end L2
set_option maxRecDepth 100000
set_option maxHeartbeats 4000000
namespace L2
open PySem PySem.Spec PyProof.Rows
section
variable {X:Cx} {E:XK} {a b c:Expr} {ga gb gc:Ds→Rs PyData} {pos:Pos}
end
end L2
set_option maxRecDepth 100000
set_option maxHeartbeats 4000000
namespace L2
open PySem PySem.Spec PyProof.Rows
section
variable {X:Cx} {E:XK} {a:Expr} {es:List Expr} {gs:Ds→Rs (List PyData)} {pos:Pos}
end
end L2
set_option maxRecDepth 100000
set_option maxHeartbeats 4000000
namespace L2
open PySem PySem.Spec PyProof.Rows
section
variable {X:Cx} {E:XK} {a:Expr} {gs:Ds→Rs (List PyData)} {pos:Pos}
end
end L2
set_option maxRecDepth 100000
set_option maxHeartbeats 4000000
namespace PyProof.Rows
open PySem
section
variable {prog:Program} {w:World} {A:Around} {E:Value→Shared→Prop} {s:Shared}
end
end PyProof.Rows
namespace L2
open PySem PySem.Spec PyProof.Rows
section
variable {X:Cx} {E:XK} {a:Expr} {es:List Expr} {gs:Ds→Rs (List PyData)} {pos:Pos}
end
end L2
set_option maxRecDepth 100000
set_option maxHeartbeats 4000000
namespace L2
open PySem PySem.Spec PySem.Calls PyProof.Rows PySem.W PySem.Builtin PySem.Builtin.ObjectAttr PySem.Builtin.Getset_descriptor
section
variable {prog:Program} {w:World} {A:Around} {E:Value→Shared→Prop} {s:Shared} {K:Frag} {x D:Addr} {ox:Obj}
structure jn (h:Heap) (x:Addr) (D:Addr):Prop where
  ex:∃ o,h.get? x=some o∧o.cls=.ref D
theorem jn.type {M:Model} {h:Heap} (I:jn h x D):Looks M h (typeOf (.ref x)) (.ref D):=by
  obtain ⟨o,h1,h2⟩:=I.ex
  exact h2 ▸ (Looks.ld h1).andThen .now
theorem mJ {R:Result→Shared→Prop} {tp:Value} (X:K.In s.heap) (I:jn s.heap x D) (hm:mroIn K D (.type "object")=some true)
    (h:R (.ok (.ret (.ref D))) s):codeAny (model prog w) A (.call (.builtin "getset_descriptor.__get__") ⟨[.builtin "object.__class__",.ref x,tp],[]⟩) R s:=by
  obtain ⟨hh,g,dr,t,os⟩:=s
  have L0:=I.type (M:=model prog w); have L1:=looks_mroIn (M:=model prog w) X hm
  refine codeAny_call_builtin KF.slot_gs.plain KF.entry_gs (KF.slot_gs.check _ _ _ _ _ _ _ _ KF.type_class (KF.args_gs _ _ _) ?_)
  unfold Builtin.«getset_descriptor.__get__» descrGet
  rw [dga_obj]
  refine wpAny_bind (wpAny_pure ?_)
  unfold descrGetter descrCheckInstance descrNameAndClass isInstance
  simp only [KF.owner_class]
  repeat lk
  refine ⟨Code.quiet_builtin _ (by decide +kernel),codeAny_builtin KF.entry_class ?_⟩; unfold Builtin.«object.__class__» shownTypeOf
  repeat lk
  exact h
structure kU (K:Frag) (D:Addr):Prop where
  ga:findIn K (.ref D) "__getattribute__"=some (some (.builtin "BaseException.__getattribute__"))
  gt:findIn K (.ref D) "__getattr__"=some none
  cl:hasDictIn K D=true
  ca:findIn K (.ref D) "__class__"=some (some (.builtin "object.__class__"))
  gs:specialIn K (.builtin "object.__class__") "__get__"=some (some (.builtin "getset_descriptor.__get__"))
  tk:takesIn K (.builtin "object.__class__")=some true
  ob:mroIn K D (.type "object")=some true
  be:mroIn K D (.type "BaseException")=some true
theorem rd {M:Model} {h:Heap} (X:K.In h) (Z:kU K D):Looks M h (find (.ref x) (.ref D) "__class__") (.bind (.builtin "getset_descriptor.__get__") (.builtin "object.__class__")):=by
  have L1:=looks_findIn (M:=M) X Z.ca
  have L2:Looks M h (getOf (some (.builtin "object.__class__"))) _:=looks_specialIn X Z.gs
  have L3:=looks_takesIn (M:=M) X Z.tk
  unfold find
  refine L1.andThen (L2.andThen ?_)
  refine (show Looks M h (dataDescriptor? (some (.builtin "object.__class__")) (some (.builtin "getset_descriptor.__get__"))) _ from L3.andThen .now).andThen ?_
  exact Looks.tag .now
theorem pM {tk:Tok} {Q:Fin→Shared→Prop} (X:K.In s.heap) (Z:kU K D) (I:jn s.heap x D) (hq:Q (.done (.ret (.ref D))) s) :
    wpAny (model prog w) A (Builtin.«object.__getattribute__» ⟨[.ref x,.str "__class__" tk],[]⟩) Q E s:=by
  obtain ⟨hh,g,d,t,os⟩:=s
  have L0:=I.type (M:=model prog w)
  have L1:=rd (x:=x) (M:=model prog w) X Z
  refine wpAny_bind (wpAny_pure (wpAny_bind (wpAny_pure (wpAny_bind (L0.at (wpAny_bind (L1.at ?_)))))))
  show wpAny _ _ (holding [Value.builtin "object.__class__"] (call (.builtin "getset_descriptor.__get__") [.builtin "object.__class__",.ref x,.ref D]) >>= ret) _ _ _
  exact wpAny_bind (wpAny_holding (wpAny_call (mJ X I Z.ob (wpAny_pure hq))))
theorem pS {M:Model} {nameV:Value} {Q:Unit→Shared→Prop} (X:K.In s.heap) (Z:kU K D) (I:jn s.heap x D) (hq:Q () s):wpAny M A (checkBuiltinCall "BaseException.__getattribute__" ⟨[.ref x,nameV],[]⟩) Q E s:=by
  obtain ⟨hh,g,d,t,os⟩:=s
  have hk:builtinKind "BaseException.__getattribute__"=some .slot:=by decide +kernel
  have hsplit:splitId "BaseException.__getattribute__"=some ("BaseException", "__getattribute__"):=by decide +kernel
  have L0:=I.type (M:=M)
  have L1:=looks_mroIn (M:=M) X Z.be
  have ha:=F.args_bexc_ga (.ref x) nameV
  simp only [checkBuiltinCall,hk,hsplit]
  unfold isInstance
  repeat lk
  repeat (any_goals (first | assumption | wp_step))
theorem pZ {Q:Option Value→Shared→Prop} (X:K.In s.heap) (Z:kU K D) (I:jn s.heap x D) (h:Q (some (.ref D)) { s with toks:=s.toks + 1 }):wpAny (model prog w) A (getAttr? (.ref x) "__class__") Q E s:=by
  obtain ⟨hh,g,d,t,os⟩:=s
  have L0:=I.type (M:=model prog w)
  have L1:=looks_findIn (M:=model prog w) X Z.ga
  have L2:=looks_findIn (M:=model prog w) X Z.gt
  unfold getAttr? getAttrBy? getAttrBy
  refine wpAny_bind (wpAny_mkText (wpAny_bind (wpAny_attempt (wpAny_holding (wpAny_bind (L0.at (wpAny_bind (L1.at ?_))))))))
  show wpAny _ _ (getAttrByItsOwn _ _ _ _ _ _) _ _ _
  unfold getAttrByItsOwn
  refine wpAny_bind (show wpAny _ _ (typeLookup (.ref D) "__getattr__") _ _ _ from L2.at ?_)
  refine wpAny_bind (wpAny_attempt (wpAny_holding ?_))
  show wpAny _ _ (boundAndCalled _ _ _) _ _ _
  unfold boundAndCalled
  rw [F.excAttr_ValueError.ga.bind (.ref x)]
  refine wpAny_bind (wpAny_pure ?_)
  refine wpAny_call (codeAny_call_builtin F.excAttr_ValueError.ga.plain F.entry_bexc_ga (pS (s:=⟨hh,g,d,t + 1,os⟩) X Z I (pM (s:=⟨hh,g,d,t + 1,os⟩) X Z I ?_)))
  exact wpAny_pure (wpAny_pure h)
end
end L2
set_option maxRecDepth 100000
set_option maxHeartbeats 4000000
namespace L2
open PySem PySem.Spec PyProof.Rows
theorem qI {K:PySem.W.Frag} {x D:Addr} (Z:kU K D):PySem.W.KitX K (.ref x) (.ref D) (fun h=>jn h x D) where
  ty:=fun _ _ _ I=>I.type
  it:=fun M h X _=>by
    obtain ⟨cd,hc,_⟩:=PySem.W.any_some Z.cl
    unfold PySem.W.clsIn at hc
    split at hc
    · rename_i ho
      intro A' Q' E' s' k q; unfold isType loadHead
      exact wpAny_bind (wpAny_loadPart (k _ _ (X _ _ ho)) (wpAny_pure q))
    · cases hc
  ne:=fun h tp dd its n sl X htp=>by
    obtain ⟨cd,hc,_⟩:=PySem.W.any_some Z.cl
    refine Bool.eq_false_iff.mpr fun q=>?_
    obtain rfl:D=tp:=Value.ref.inj (beq_iff_eq.mp q)
    unfold PySem.W.clsIn at hc
    split at hc
    · rename_i ho
      have z:=(X _ _ ho).symm.trans htp
      cases z
    · cases hc
  ca:=fun X I k=>pZ X Z I k
noncomputable def uG:V→Value
  | .ref a=>.ref a
  | .ty T=>.type T
  | _=>.none
noncomputable def nc:V→Bool
  | .ref _=>true
  | .ty _=>true
  | _=>false
theorem rM {c:V} {u:Value} (h:nc c=true) (r:RelV c u):u=uG c:=by cases c <;> first | exact r | cases h
section
variable {X:Cx} {E:XK} {ea:Addr} {oe:Obj} {C:Addr} {pos:Pos} {i:Nat}
theorem nh (hp:(ea,oe)∈X.pn) (ho:oe.cls=.ref C) (Z:kU X.K C):fo X (.builtin "isinstance") (fun xs H Q=>∃ c b,xs=[.ref ea,c]∧nc c=true∧PySem.W.kitOne X.K (.ref C) (uG c)=some b∧Q (.bl b) H):=by
  intro pins s σ H xs us Q I r h
  obtain ⟨c,b,rfl,hc,e,q⟩:=h
  obtain ⟨u,u2,rfl,r1,r2⟩:=vals2 r
  cases r1
  rw [rM hc r2]
  exact PySem.W.kia_one (qI Z) I.kIn ⟨oe,(I.pin (ea,oe) (List.mem_append_left _ hp)).1,ho⟩ e (fun z=>nomatch z) fun tk=>⟨.bl b,H,I.tok tk,rfl,q⟩
noncomputable def tXe (i:Nat) (ea:Addr) (v:V):TE:=fun σ H Q=>σ[i]?=some (some (.ref ea))∧Q v H
theorem mS {x n:Str} {c:V} {b:Bool} {p p1 p2:Pos} (hp:(ea,oe)∈X.pn) (ho:oe.cls=.ref C) (Z:kU X.K C) (hm:X.mg "isinstance"=none) (hi:X.N[i]?=some n) (hc:PE X (.Name x p2) (tC c)) (hcl:nc c=true) (e:PySem.W.kitOne X.K (.ref C) (uG c)=some b)
    (hv:Vis X.env.scope n:=by first | exact Or.inl rfl | exact Or.inr (Or.inl rfl) | exact Or.inr (Or.inr rfl)) (hd:(n == ("__debug__":Str))=false:=by decide) (hcd:(n == ("__classdict__":Str))=false:=by decide) (hg:Gl X "isinstance":=by rfl)
    (hs:starEach [.Name n p1,.Name x p2] X.env=(false,eval (.Name n p1) X.env)::starEach [.Name x p2] X.env:=by rfl)
    (hs2:starEach [.Name x p2] X.env=(false,eval (.Name x p2) X.env)::starEach [] X.env:=by rfl) (hpl:(backTo pos (starEach [.Name x p2] X.env)).any (·.1)=false:=by rfl) :
    PE X (.Call (.Name "isinstance" p) [.Name n p1,.Name x p2] [] pos) (tXe i ea (.bl b)) :=
  (dO (nh hp ho Z) hg hm jZ (b4 (fL hi hv hd hcd) (b4 hc df hs2) hs) (by decide) (by decide) hs hpl).imp fun σ H Q ⟨e1,q⟩=>⟨_,e1,c,b,rfl,hcl,e,q⟩
theorem sH {op:BoolOp} {a:Expr} {v:V} (h:PE X a (tXe i ea v)):PE X (.BoolOp op [a] pos) (tXe i ea v):=rG h
theorem oH {a b:Expr} {rest:List Expr} {x y:Bool} (ha:PE X a (tXe i ea (.bl x))) (hb:PE X (.BoolOp .And (b::rest) pos) (tXe i ea (.bl y))):PE X (.BoolOp .And (a::b::rest) pos) (tXe i ea (.bl (x && y))) :=
  (qY ha hb).imp fun σ H Q ⟨e1,q⟩=>⟨e1,x,rfl,by cases x with | true=>exact ⟨e1,q⟩ | false=>exact q⟩
theorem sE {a:Expr} {x:Bool} (ha:PE X a (tXe i ea (.bl x))):PE X (.UnaryOp .Not a pos) (tXe i ea (.bl (!x))):=(t6 ha).imp fun σ H Q ⟨e1,q⟩=>⟨e1,x,rfl,q⟩
theorem sA {a:Expr} {x:Bool} {p:Pos} (ha:PE X a (tXe i ea (.bl x))) (hm:X.mg "int"=none) (hg:Gl X "int":=by rfl) (he:starEach [a] X.env=(false,eval a X.env)::starEach [] X.env:=by rfl):PE X (.Call (.Name "int" p) [a] [] pos) (tXe i ea (.int (if x then 1 else 0))) :=
  (eE j6 hg hm nP (b4 ha df he) (by decide) (by decide) he rfl).imp fun σ H Q ⟨e1,q⟩=>⟨e1,.inr ⟨x,rfl,q⟩⟩
noncomputable def vn:R2:=fun x y H Q=>∃ s n,x=.str s∧y=.int n∧MulOk s n∧Q (.str (Txt.mul s n)) H
theorem sT:OpR X (binaryOp .Mult) vn:=by
  intro pins s σ H x y v u Q I rx ry h
  obtain ⟨z,n,rfl,rfl,hok,q⟩:=h
  obtain ⟨t,rfl⟩:=rx
  obtain ⟨t2,rfl⟩:=ry
  exact SB.mul hok fun t' k=>⟨.str _,H,I.tok k,⟨_,rfl⟩,q⟩
theorem tm {b:Expr} {z:Str} {n:Int} {j:_} {p:Pos} (hb:PE X b (tXe i ea (.int n))) (hok:MulOk z n):PE X (.BinOp (.Constant (.str z) j p) .Mult b pos) (tXe i ea (.str (Txt.mul z n))) :=
  (cJ sT qu hb).imp fun σ H Q ⟨e1,q⟩=>⟨e1,z,n,rfl,rfl,hok,q⟩
noncomputable def mj (C:Addr) (i:Nat) (gf:List PyData→Rs PyData) (gs:Ds→Rs (List PyData)) (d:PyData):Ds→Sr:=fun δ=>if i < δ.length then (match gs δ with
  | .ok ds=>(match gf ds with
    | .ok v=>.rt v
    | .rz C'=>if C'=C then .rt d else .no
    | .no=>.no)
  | _=>.no) else .no
theorem sy {K:PySem.W.Frag} {H:Hp} {d:PyData} (h:c8 d=true):Is K H d (toV d):=by
  cases d with
  | none=>exact is_none
  | bool b=>exact is_bool
  | int i=>exact bP
  | str x=>exact kL
  | _=>cases h
theorem mR {O:List Nat} {k j:Nat} {f x n:Str} {gf:List PyData→Rs PyData} {gs:Ds→Rs (List PyData)} {a:Expr} {as:List Expr} {ex:Expr} {d:PyData} {p np cp rp rp2 hp:Pos} (D:aX X.prog X.w X.K X.mg X.base k f (a::as).length gf) (hr:cY j X.A)
    (ha:PAD X.nox E (a::as) gs) (EE:kI X.K X.mg x C) (hN:X.N.Nodup) (hfd:c8 d=true) (hx:∀ ea oe,oe.cls=.ref C→PE (sui X ea oe) ex (tXe i ea (toV d))) (hk:k≤j:=by decide)
    (hf:X.env.frame=some X.env.locals:=by rfl) (hst:∃ out,X.stack=X.env::out:=by exact ⟨_,rfl⟩) (hi:X.N[i]?=some n:=by rfl) (hl:X.env.scope.names.lookup n=some .local:=by rfl) (hg:Gl X x:=by rfl) (hgf:Gl X f:=by rfl)
    (hdf:(f == ("__debug__":Str))=false:=by decide) (hdb:(x == ("__debug__":Str))=false:=by decide) (he:starEach (a::as) X.env=(false,eval a X.env)::starEach as X.env:=by rfl) (hpl:(backTo cp (starEach as X.env)).any (·.1)=false:=by rfl) :
    PSD X E O (.Try [.Return (some (.Call (.Name f p) (a::as) [] cp)) rp] [.ExceptHandler (some (.Name x np)) (some n) [.Return (some ex) rp2] hp] [] [] pos) (mj C i gf gs d):=by
  obtain ⟨fa,fd,ps,F,hm,hkp,hb⟩:=D.ex
  refine (nF (rE F (hr.mono hk) hgf hm hkp hb .nil ha.1 hdf he hpl) hf hst hN hi hl hg EE.m EE.e (by decide) (fun ea oe ho=>fR (ip (hx ea oe ho))) hdb).imp fun Dn σ H ⟨H0,A0,A,δ,R,o⟩=>?_
  unfold mj at o
  split at o
  · rename_i hil
    refine aD.run R.full (fun ds ed vs H1 s1 R1 hv=>?_) (fun C' et H' s'=>?_) (fun et=>?_)
    · simp only [ed] at o
      refine ⟨A0,ds,R1.ls,by simpa using hv,ha.2 δ ds ed,?_⟩
      cases q:gf ds with
      | ok v=>rw [q] at o; exact fun u H' s' hu=>o u H' (R.same.trans (s1.trans s')) hu
      | rz C' =>
        rw [q] at o
        intro H' s'
        simp only at o
        split at o
        · rename_i z
          subst z
          refine ⟨rfl,fun ea oe hn ho=>⟨?_,?_⟩⟩
          · rw [List.getElem?_set_self (by rw [← R.len]; exact hil)]
          · exact o _ H' (R.same.trans (s1.trans s')) (sy hfd)
        · exact o.elim
      | no=>rw [q] at o; exact o.elim
    · simp only [et] at o; exact o.elim
    · simp only [et] at o; exact o
  · exact o.elim
theorem pJ (z:Str):MulOk z 1:=⟨by decide,fun _ h=>by simp at h,fun _ h=>by simp at h⟩
theorem rC {b:Expr} {z:Str} {x:Bool} {j:_} {p:Pos} (hx:x=true) (hb:PE X b (tXe i ea (.int (if x then 1 else 0)))):PE X (.BinOp (.Constant (.str z) j p) .Mult b pos) (tXe i ea (.str z)):=by
  subst hx
  exact tm (n:=1) hb (pJ z)
theorem mW {Y:Cx}:(ea,oe)∈(sui Y ea oe).pn:=List.mem_append_right _ (List.mem_singleton.mpr rfl)
noncomputable def pf:List PyData→Option PyData
  | [.int i]=>if -1000000000≤i∧i≤1000000000 then some (.str (toString i)) else none
  | _=>none
theorem pU {i:Int} (h1:-1000000000≤i) (h2:i≤1000000000):i.natAbs.log2 < 1920:=by
  by_cases z:i.natAbs=0
  · rw [z]; decide
  · have hz:i.natAbs.log2 < 31:=(Nat.log2_lt z).mpr (by omega)
    omega
theorem rN {K:PySem.W.Frag}:FnD K pf (fun xs H Q=>∃ i,xs=[.int i]∧i.natAbs.log2 < 1920∧Q (.str (toString i)) H):=fun ds d vs H A Q e hA h k=>by
  unfold pf at e
  split at e
  · split at e
    · rename_i z
      cases e
      obtain ⟨v,rfl,h1⟩:=fT h
      rw [h1.ofInt]
      exact ⟨_,rfl,pU z.1 z.2,k _ H (av.refl _) kL⟩
    · cases e
  · cases e
theorem uV:bootBuiltins "str"=some (.type "str"):=by decide +kernel
theorem jN:bootBuiltins "ValueError"=some (.type "ValueError"):=by decide +kernel
theorem qL {p:Pos} {a:Expr} {es:List Expr} {gs:Ds→Rs (List PyData)} (hm:X.mg "str"=none) (ha:PAD X E (a::es) gs) (hg:Gl X "str":=by rfl) (he:starEach (a::es) X.env=(false,eval a X.env)::starEach es X.env:=by rfl) (hpl:(backTo pos (starEach es X.env)).any (·.1)=false:=by rfl) :
    PD X E (.Call (.Name "str" p) (a::es) [] pos) (gF pf gs):=dN rN ha fun h=>eE lu hg hm uV h (by decide) (by decide) he hpl
end
end L2
set_option maxRecDepth 100000
set_option maxHeartbeats 4000000
namespace L2
open PySem PySem.Spec PyProof.Rows
section
variable {X:Cx} {E:XK} {ea:Addr} {oe:Obj} {C:Addr} {pos:Pos} {i:Nat}
end
end L2
set_option maxRecDepth 100000
set_option maxHeartbeats 4000000
namespace L2
open PySem PySem.Spec PyProof.Rows
section
variable {X:Cx} {E:XK} {O:List Nat} {e a b:Expr} {ga gb:Ds→Rs PyData} {es:List Expr} {gs:Ds→Rs (List PyData)} {pos:Pos}
noncomputable def uw (C:Addr) (names:List Str):Sp:=fun vs H Q _=>∃ (x dx:Addr) (args:List V),vs=.ref x::args∧args.length=names.length∧H x=some (.ins C dx []) ∧
  ∀ H':Hp,(∀ b,b≠x→H' b=H b)→H' x=some (.ins C dx (names.zip args))→Q .non H'
structure xw (P:Program) (w:World) (K:PySem.W.Frag) (mg:Str→Option Value) (base:Heap) (k:Nat) (x:Str) (C:Addr) (names:List Str):Prop where
  ex:∃ f fd ps,Mk K C f∧fi P w K mg base (CXW P w) k f fd ps (uw C names)∧Binds K fd ps []∧mg x=some (.ref C)
end
section
variable {prog:Program} {w:World} {A:Around} {R:Result→Shared→Prop} {I:Addr} {fp wr:List Addr} {n:Nat} {T:Nat→Value→Prop} {St:Nat→Heap→Prop} {dv:Value}
variable {E:Value→Shared→Prop} {s:Shared} {l:Addr} {xs:Array (Int × Tok)}
end
section
variable {X:Cx} {E:XK} {O:List Nat} {e a b:Expr} {ga gb:Ds→Rs PyData} {es:List Expr} {gs:Ds→Rs (List PyData)} {pos:Pos}
end
end L2
namespace L2
open PySem PySem.Spec PyProof.Rows
end L2
namespace L2
open PySem PySem.Spec PyProof.Rows
end L2
namespace RS
open PySem
structure Er where
  every:Int
  due:Int
  late:Int
  parts:List (Int × Option Int)
noncomputable def bp:Option Int→PyData
  | none=>.none
  | some i=>.int i
noncomputable def a7 (p:Int × Option Int):PyData:=.tuple [.int p.1,bp p.2]
noncomputable def Er.d (e:Er):PyData:=.tuple [.int e.every,.int e.due,.int e.late,.tuple (e.parts.map a7)]
noncomputable def bj (es:List Er):PyData:=.tuple (es.map Er.d)
noncomputable def isWhole (d:PyData) (lo hi:Int):Bool:=match d with
  | .int i=>decide (lo≤i) && decide (i≤hi)
  | _=>false
noncomputable def bq (d:PyData) (lo hi:Int):Bool:=match d with
  | .tuple ds=>decide (lo≤(ds.length:Int)) && decide ((ds.length:Int)≤hi)
  | _=>false
noncomputable def bR (d:PyData):Bool:=match d with
  | .tuple [a,b]=>isWhole a 1 20 && (match b with | .none=>true | b=>isWhole b 0 3)
  | _=>false
noncomputable def eB (ds:List PyData):Bool:=match ds.getLast? with
  | some (.tuple [_,.none])=>true
  | _=>false
noncomputable def cc (d:PyData):Bool:=match d with
  | .tuple ds=>decide (1≤ds.length) && decide (ds.length≤4) && ds.all bR && eB ds
  | _=>false
noncomputable def aZ (d:PyData):Bool:=match d with
  | .tuple [.int e,du,.int l,ps]=>decide (2≤e) && decide (e≤60) && (decide (0≤l) && decide (l≤(if e - 1 < 20 then e - 1 else 20))) && isWhole du 1 (e - l) && cc ps
  | _=>false
noncomputable def bu (d:PyData):Bool:=match d with
  | .tuple ds=>decide (1≤ds.length) && decide (ds.length≤6) && ds.all aZ
  | _=>false
structure Er.Ok (e:Er):Prop where
  e1:2≤e.every
  e2:e.every≤60
  l1:0≤e.late
  l2:e.late≤20
  l3:e.late < e.every
  d1:1≤e.due
  d2:e.due≤e.every - e.late
  p1:e.parts≠[]
  p2:e.parts.length≤4
  pl:∀ p∈e.parts,1≤p.1∧p.1≤20∧∀ t,p.2=some t→0≤t∧t≤3
  la:∀ p,e.parts.getLast?=some p→p.2=none
theorem pC {p:Int × Option Int} (h1:1≤p.1) (h2:p.1≤20) (h3:∀ t,p.2=some t→0≤t∧t≤3):bR (a7 p)=true:=by
  obtain ⟨l,t⟩:=p
  cases t with
  | none=>simp [bR,a7,bp,isWhole,h1,h2]
  | some t =>
    obtain ⟨a,b⟩:=h3 t rfl
    simp [bR,a7,bp,isWhole,h1,h2,a,b]
theorem l0 {e:Er} (h:e.Ok):aZ e.d=true:=by
  have hp:(e.parts.map a7).all bR=true:=by
    rw [List.all_eq_true]
    intro d hd
    obtain ⟨p,hp,rfl⟩:=List.mem_map.mp hd
    obtain ⟨a,b,c⟩:=h.pl p hp
    exact pC a b c
  have hl:eB (e.parts.map a7)=true:=by
    unfold eB
    rw [List.getLast?_map]
    cases q:e.parts.getLast? with
    | none=>exact absurd (List.getLast?_eq_none_iff.mp q) h.p1
    | some p =>
      obtain ⟨l,t⟩:=p
      have:t=none:=h.la _ q
      subst this
      rfl
  have hn:1≤e.parts.length:=by
    cases q:e.parts with
    | nil=>exact absurd q h.p1
    | cons _ _=>simp
  have h1:=h.e1; have h2:=h.e2; have h3:=h.l1; have h4:=h.l2; have h5:=h.l3; have h6:=h.d1; have h7:=h.d2; have h8:=h.p2
  have hl2:e.late≤if e.every - 1 < 20 then e.every - 1 else 20:=by split <;> omega
  simp [aZ,Er.d,cc,isWhole,hp,hl,hn,h1,h2,h3,h6,h7,h8,hl2]
theorem gP {es:List Er} (h1:1≤es.length) (h2:es.length≤6) (h:∀ e∈es,e.Ok):bu (bj es)=true:=by
  have hp:(es.map Er.d).all aZ=true:=by
    rw [List.all_eq_true]
    intro d hd
    obtain ⟨e,he,rfl⟩:=List.mem_map.mp hd
    exact l0 (h e he)
  simp [bu,bj,h1,h2,hp]
noncomputable def cellAt (ns:List Int) (k:Int):Int :=
  if k < (ns.length:Int) then ns.getD k.toNat 0 else if ns=[] then 0 else ns.getD (k % (ns.length:Int)).toNat 0 * 31 + k
noncomputable def pF (ns:List Int) (k:Int):Int:=(cellAt ns k + 7919 * k + 1) * 48271 % 2147483647
noncomputable def mixed (ns:List Int) (k many:Int):Int:=(pF ns k * pF ns k + 7 * pF ns k + k) % 2147483629 % many
theorem r8 (ns:List Int) (k:Int):0≤pF ns k:=Int.emod_nonneg _ (by decide)
theorem sR (ns:List Int) (k:Int):pF ns k < 2147483647:=Int.emod_lt_of_pos _ (by decide)
theorem bD (ns:List Int) (k:Int) {many:Int} (h:0 < many):0≤mixed ns k many:=Int.emod_nonneg _ (by omega)
theorem bK (ns:List Int) (k:Int) {many:Int} (h:0 < many):mixed ns k many < many:=Int.emod_lt_of_pos _ h
noncomputable def fY (i:Int):Option Int:=if i=0 then some 0 else if i=1 then some 1 else if i=2 then some 1 else if i=3 then some 0 else none
noncomputable def cE (ns:List Int) (j:Int) (tools:Bool):Int × Option Int:=(1 + mixed ns j 40 % 4,if tools then fY (mixed ns j 40 / 4 % 5) else none)
noncomputable def eu (ns:List Int) (at' every:Int):Int :=
  if every - 1 < mixed ns (at' + 1) 4 * (if mixed ns (at' + 2) 3=0 then 1 else 0) then every - 1 else mixed ns (at' + 1) 4 * (if mixed ns (at' + 2) 3=0 then 1 else 0)
noncomputable def iH (ns:List Int) (at' due:Int):Int:=if mixed ns (at' + 1) 3=0 then due - mixed ns (at' + 2) due else due
noncomputable def mkE (ns:List Int) (at' top:Int) (tools:Bool):Er where
  every:=3 + mixed ns at' top
  late:=eu ns at' (3 + mixed ns at' top)
  due:=iH ns at' (3 + mixed ns at' top - eu ns at' (3 + mixed ns at' top))
  parts:=((List.range (mixed ns (at' + 3) 3).toNat).map fun (k:Nat)=>cE ns (at' + 4 + (k:Int)) tools)++[(1 + mixed ns (at' + 6) 3,none)]
noncomputable def i3 (ns:List Int) (at' most top:Int) (tools:Bool):List Er:=(List.range (1 + mixed ns at' most).toNat).map fun (k:Nat)=>mkE ns (at' + 1 + 7 * (k:Int)) top tools
theorem mn (ns:List Int) (at' every:Int) (h:3≤every):0≤eu ns at' every∧eu ns at' every≤3∧eu ns at' every < every:=by
  have h1:=bD ns (at' + 1) (many:=4) (by decide)
  have h2:=bK ns (at' + 1) (many:=4) (by decide)
  unfold eu
  generalize mixed ns (at' + 1) 4=x at *
  by_cases hc:mixed ns (at' + 2) 3=0
  · simp only [hc,if_true,Int.mul_one]; split <;> omega
  · simp only [hc,if_false,Int.mul_zero]; split <;> omega
theorem tx (ns:List Int) (at' due:Int) (h:1≤due):1≤iH ns at' due∧iH ns at' due≤due:=by
  have h1:=bD ns (at' + 2) (many:=due) (by omega)
  have h2:=bK ns (at' + 2) (many:=due) (by omega)
  unfold iH
  split <;> omega
theorem sM (i t:Int) (h:fY i=some t):0≤t∧t≤1:=by
  unfold fY at h
  repeat' split at h
  all_goals (first | (cases h; decide) | cases h)
theorem qZ (ns:List Int) (j:Int) (tools:Bool):1≤(cE ns j tools).1∧(cE ns j tools).1≤4∧∀ t,(cE ns j tools).2=some t→0≤t∧t≤1:=by
  have h1:0≤mixed ns j 40 % 4:=Int.emod_nonneg _ (by decide)
  have h2:mixed ns j 40 % 4 < 4:=Int.emod_lt_of_pos _ (by decide)
  refine ⟨by unfold cE; simp only; omega,by unfold cE; simp only; omega,fun t h=>?_⟩
  unfold cE at h
  simp only at h
  cases tools with
  | false=>simp at h
  | true=>simp at h; exact sM _ _ h
theorem uh (ns:List Int) (at' top:Int) (tools:Bool) (h1:0 < top) (h2:top≤58):(mkE ns at' top tools).Ok:=by
  have a1:=bD ns at' h1
  have a2:=bK ns at' h1
  have l:=mn ns at' (3 + mixed ns at' top) (by omega)
  have d:=tx ns at' (3 + mixed ns at' top - eu ns at' (3 + mixed ns at' top)) (by omega)
  have n1:=bD ns (at' + 3) (many:=3) (by decide)
  have n2:=bK ns (at' + 3) (many:=3) (by decide)
  have n3:=bD ns (at' + 6) (many:=3) (by decide)
  have n4:=bK ns (at' + 6) (many:=3) (by decide)
  refine ⟨?_,?_,l.1,?_,l.2.2,d.1,d.2,?_,?_,?_,?_⟩
  · show 2≤3 + mixed ns at' top; omega
  · show 3 + mixed ns at' top≤60; omega
  · have:=l.2.1; show eu ns at' (3 + mixed ns at' top)≤20; omega
  · simp [mkE]
  · simp only [mkE,List.length_append,List.length_map,List.length_range,List.length_singleton]; omega
  · intro p hp
    simp only [mkE,List.mem_append,List.mem_map,List.mem_singleton] at hp
    rcases hp with ⟨k,_,rfl⟩ | rfl
    · have:=qZ ns (at' + 4 + (k:Int)) tools
      refine ⟨this.1,by omega,fun t ht=>?_⟩
      have:=this.2.2 t ht
      omega
    · exact ⟨by simp only; omega,by simp only; omega,fun t ht=>by cases ht⟩
  · intro p hp
    simp only [mkE,List.getLast?_append,List.getLast?_singleton,Option.some_or] at hp
    cases hp; rfl
theorem rA (ns:List Int) (at' most top:Int) (tools:Bool) (h:0 < most):1≤(i3 ns at' most top tools).length∧((i3 ns at' most top tools).length:Int)≤most:=by
  have h1:=bD ns at' h
  have h2:=bK ns at' h
  simp only [i3,List.length_map,List.length_range]
  omega
theorem tq (ns:List Int) (at' most top:Int) (tools:Bool) (h1:0 < top) (h2:top≤58):∀ e∈i3 ns at' most top tools,e.Ok:=by
  intro e he
  simp only [i3,List.mem_map] at he
  obtain ⟨k,_,rfl⟩:=he
  exact uh _ _ _ _ h1 h2
end RS
namespace RS
open PySem L2
structure Cs where
  RankError:Addr
  NoErrands:Addr
  NoRanks:Addr
  NoComings:Addr
  NoErrand:Addr
  NoNumber:Addr
  TooLong:Addr
  NoText:Addr
  Holding:Addr
  Jobs:Addr
noncomputable abbrev Gf:=List PyData→Rs PyData
noncomputable def bf (K:PySem.W.Frag) (mg:Str→Option Value) (x:Str) (st:Stmt) (ps:List Str):Prop:=∃ f fd,Fun K x x st f fd∧Binds K fd ps []∧mg x=some (.ref f)
noncomputable def dH (cs:Cs):Ds→Sr :=
  (bL (sIf (cOr (fG (gT (g1 (ll "int") (ai 0)))) (gT (g1 (ll "bool") (ai 0)))) (cM (gC (.bool false))) b3)
    (cM (hZ dLe dLe (ai 1) (ai 0) (ai 2))))
noncomputable def dD (cs:Cs):Ds→Sr :=
  (cM (sL (g1 (ll "tuple") (ai 0)) (hZ dLe dLe (ai 1) (gF dm (af (ai 0) au)) (ai 2))))
noncomputable def cV (cs:Cs) (aw ak:Gf):Ds→Sr :=
  (bL (sIf (cOr (fG (gT (aG ak (af (ai 0) (af (gC (.int 2)) (af (gC (.int 2)) au)))))) (fG (gT (aG aw (af (g2 dIx (ai 0) (gC (.int 0))) (af (gC (.int 1)) (af (gC (.int 20)) au))))))) (cM (gC (.bool false))) b3)
    (cM (gOr (g1 sW (g2 dIx (ai 0) (gC (.int 1)))) (aG aw (af (g2 dIx (ai 0) (gC (.int 1))) (af (gC (.int 0)) (af (g2 gY (gC (.int 4)) (gC (.int 1))) au)))))))
noncomputable def cG (cs:Cs) (ak gf_is_part:Gf):Ds→Sr :=
  (bL (sIf (cOr (fG (gT (aG ak (af (ai 0) (af (gC (.int 1)) (af (gC (.int 4)) au)))))) (fG (gT (gF mQ (af (gL (da 1 (gE (ai 0)) cB (aG gf_is_part (af (ai 1) au)) cw)) au))))) (cM (gC (.bool false))) b3)
    (cM (g1 sW (g2 dIx (g2 dIx (ai 0) (g1 de (gC (.int 1)))) (gC (.int 1))))))
noncomputable def bV (cs:Cs) (aw gf_are_parts ak:Gf):Ds→Sr :=
  (bL (sIf (fG (gT (aG ak (af (ai 0) (af (gC (.int 4)) (af (gC (.int 4)) au)))))) (cM (gC (.bool false))) b3)
    (bL (cU [] 1 (g2 dIx (ai 0) (gC (.int 0))))
    (bL (cU [] 2 (g2 dIx (ai 0) (gC (.int 1))))
    (bL (cU [] 3 (g2 dIx (ai 0) (gC (.int 2))))
    (bL (sIf (fG (gT (aG aw (af (ai 1) (af (gC (.int 2)) (af (gC (.int 60)) au)))))) (cM (gC (.bool false))) b3)
    (bL (sIf (fG (gT (aG aw (af (ai 3) (af (gC (.int 0)) (af (gF i5 (af (gC (.int 20)) (af (g2 gY (ai 1) (gC (.int 1))) au))) au)))))) (cM (gC (.bool false))) b3)
    (cM (sL (aG aw (af (ai 2) (af (gC (.int 1)) (af (g2 gY (ai 1) (ai 3)) au)))) (aG gf_are_parts (af (g2 dIx (ai 0) (gC (.int 3))) au))))))))))
noncomputable def dz (cs:Cs) (ak gf_is_errand:Gf):Ds→Sr :=
  (bL (sIf (cOr (fG (gT (aG ak (af (ai 0) (af (gC (.int 1)) (af (gC (.int 6)) au)))))) (fG (gT (gF mQ (af (gL (da 1 (gE (ai 0)) cB (aG gf_is_errand (af (ai 1) au)) cw)) au))))) (iu cs.NoErrands (af (gC (.str "errands are a tuple of 1 to 6 errands (every, due, late, parts)")) au)) b3)
    (cM (ai 0)))
noncomputable def bw (cs:Cs) (ak aw:Gf):Ds→Sr :=
  (bL (cU [] 2 (g2 gY (gF dm (af (ai 0) au)) (gC (.int 1))))
    (bL (sIf (cOr (fG (gT (aG ak (af (ai 1) (af (gF dm (af (ai 0) au)) (af (gF dm (af (ai 0) au)) au)))))) (fG (gT (gF mQ (af (gL (da 3 (gE (ai 1)) cB (aG aw (af (ai 3) (af (gC (.int 0)) (af (ai 2) au)))) cw)) au))))) (iu cs.NoRanks (af (gC (.str "ranks are a tuple of the numbers of all errands")) au)) b3)
    (bL (sIf (gT (g2 dLt (gF gD (af (ai 1) au)) (gF dm (af (ai 1) au)))) (iu cs.NoRanks (af (gC (.str "ranks have each errand's number once")) au)) b3)
    (cM (ai 1)))))
noncomputable def dQ (cs:Cs):Ds→Sr :=
  (cM (g2 (qg false) (ai 1) (gL (da 2 (gE (g2 dIx (ai 0) (gC (.int 3)))) cB (g2 dIx (ai 2) (gC (.int 1))) cw))))
noncomputable def fw (cs:Cs) (aV:Gf):Ds→Sr :=
  (bL (lh [] (nY (af (ai 1) au)) (fM [3,4]) (sIf (gT (aG aV (af (g2 dIx (ai 0) (ai 4)) (af (ai 2) au)))) (cM (ai 3)) b3))
    (cM (gC .none)))
noncomputable def cT (cs:Cs) (bo:Gf):Ds→Sr :=
  (cM (gL (da 2 (fZ (af (gC (.int 4)) au)) cB (aG bo (af (ai 0) (af (ai 1) (af (ai 2) au)))) cw)))
noncomputable def cN (cs:Cs) (ag:Gf):Ds→Sr :=
  (bL (cU [7] 4 (g2 bb (gC (.int 3)) (aG ag (af (ai 0) (af (ai 1) (af (ai 2) au))))))
    (bL (cU [7] 5 (g2 l7 (aG ag (af (ai 0) (af (g2 bb (ai 1) (gC (.int 1))) (af (gC (.int 4)) au)))) (gF oX (af (g2 dEq (aG ag (af (ai 0) (af (g2 bb (ai 1) (gC (.int 2))) (af (gC (.int 3)) au)))) (gC (.int 0))) au))))
    (bL (cU [7] 5 (gF i5 (af (ai 5) (af (g2 gY (ai 4) (gC (.int 1))) au))))
    (bL (cU [7] 6 (g2 gY (ai 4) (ai 5)))
    (bL (sIf (gT (g2 dEq (aG ag (af (ai 0) (af (g2 bb (ai 1) (gC (.int 1))) (af (gC (.int 3)) au)))) (gC (.int 0)))) (cU [7] 6 (g2 gY (ai 6) (aG ag (af (ai 0) (af (g2 bb (ai 1) (gC (.int 2))) (af (ai 6) au)))))) b3)
    (bL (gq [7] 7 au)
    (bL (lh [7] (fZ (af (aG ag (af (ai 0) (af (g2 bb (ai 1) (gC (.int 3))) (af (gC (.int 3)) au)))) au)) (e9 8) (bL (cU [7] 9 (aG ag (af (ai 0) (af (g2 bb (g2 bb (ai 1) (gC (.int 4))) (ai 8)) (af (gC (.int 40)) au)))))
    (bL (nj [7] 7 (dG (af (g2 bb (gC (.int 1)) (g2 jL (ai 9) (gC (.int 4)))) (af (g2 dIx (ly (af (gC (.int 0)) (af (gC (.int 1)) (af (gC (.int 1)) (af (gC (.int 0)) (af (gC .none) au)))))) (g2 jL (g2 o1 (ai 9) (gC (.int 4))) (gC (.int 5)))) au))))
    (sIf (fG (gT (ai 3))) (jQ 7 (g1 de (gC (.int 1))) (dG (af (g2 dIx (g2 dIx (ai 7) (g1 de (gC (.int 1)))) (gC (.int 0))) (af (gC .none) au)))) b3))))
    (cM (dG (af (ai 4) (af (ai 6) (af (ai 5) (af (gF fH (af (g2 bb (ai 7) (ly (af (dG (af (g2 bb (gC (.int 1)) (aG ag (af (ai 0) (af (g2 bb (ai 1) (gC (.int 6))) (af (gC (.int 3)) au))))) (af (gC .none) au))) au))) au)) au)))))))))))))
noncomputable def cy (cs:Cs) (aO ag:Gf):Ds→Sr :=
  (bL (cU [] 5 (g2 bb (gC (.int 1)) (aG ag (af (ai 0) (af (ai 1) (af (ai 2) au))))))
    (cM (gF fH (af (gL (da 6 (fZ (af (ai 5) au)) cB (aG aO (af (ai 0) (af (g2 bb (g2 bb (ai 1) (gC (.int 1))) (g2 l7 (gC (.int 7)) (ai 6))) (af (ai 3) (af (ai 4) au))))) cw)) au))))
noncomputable def c9 (cs:Cs) (ag:Gf):Ds→Sr :=
  (bL (gq [3,4] 3 (gLR (af (ai 2) au)))
    (bL (gq [3,4] 4 au)
    (bL (lh [3,4] (fZ (af (ai 2) au)) (e9 5) (eS 4 3 (aG ag (af (ai 0) (af (g2 bb (ai 1) (ai 5)) (af (gF dm (af (ai 3) au)) au))))))
    (cM (gF fH (af (ai 4) au))))))
noncomputable def cC (cs:Cs):Ds→Sr :=
  (bL (gq [2] 2 (af (gC .none) (af (gC .none) (af (gC .none) (af (gC .none) au)))))
    (bL (lh [2] (ou (af (g2 gY (gF dm (af (ai 1) au)) (gC (.int 1))) (af (g1 de (gC (.int 1))) (af (g1 de (gC (.int 1))) au)))) (e9 3) (lh [2] (gE (g2 dIx (g2 dIx (ai 0) (g2 dIx (ai 1) (ai 3))) (gC (.int 3)))) (fM [4,5]) (sIf (gT (g1 j9 (ai 5))) (jQ 2 (ai 5) (ai 3)) b3)))
    (cM (ai 2))))
noncomputable def cW (cs:Cs) (aN aF a8:Gf):Ds→Sr :=
  (bL (ma (aG a8 (af (ai 0) au)))
    (bL (ma (aG aF (af (ai 0) (af (ai 1) au))))
    (cM (aG aN (af (ai 0) (af (ai 1) au))))))
end RS
set_option maxRecDepth 100000
set_option maxHeartbeats 1000000
namespace RS
open PySem L2
theorem sN {O:List Nat} {δ:Ds} {i:Nat} (h:i ∉ O):(mask O δ)[i]?=δ[i]?:=by
  unfold mask
  by_cases z:O=[]
  · rw [if_pos z]
  · rw [if_neg z,List.getElem?_mapIdx]
    cases δ[i]? with
    | none=>rfl
    | some d=>simp [h]
theorem aE {O:List Nat} {δ:Ds} {i:Nat} (h:i ∉ O):ai i (mask O δ)=ai i δ:=by unfold ai; rw [sN h]
@[simp] theorem aM (d:PyData) (δ:Ds):ai 0 (some d::δ)=.ok d:=rfl
@[simp] theorem aR (i:Nat) (x:Option PyData) (δ:Ds):ai (i + 1) (x::δ)=ai i δ:=rfl
@[simp] theorem eH (d:PyData) (δ:Ds):gC d δ=.ok d:=rfl
@[simp] theorem sZ (f:PyData→Option PyData) (a:Ds→Rs PyData) (δ:Ds):g1 f a δ=(a δ).bind fun x=>Rs.c7 (f x):=rfl
@[simp] theorem dR (f:PyData→PyData→Option PyData) (a b:Ds→Rs PyData) (δ:Ds):g2 f a b δ=(a δ).bind fun x=>(b δ).bind fun y=>Rs.c7 (f x y):=rfl
@[simp] theorem jS (f:List PyData→Option PyData) (a:Ds→Rs (List PyData)) (δ:Ds):gF f a δ=(a δ).bind fun x=>Rs.c7 (f x):=rfl
@[simp] theorem bc (δ:Ds):au δ=.ok []:=rfl
@[simp] theorem aU (a:Ds→Rs PyData) (r:Ds→Rs (List PyData)) (δ:Ds):af a r δ=(a δ).bind fun x=>(r δ).bind fun xs=>.ok (x::xs):=rfl
@[simp] theorem jG (a:Ds→Rs (List PyData)) (δ:Ds):dG a δ=(a δ).bind fun ds=>.ok (.tuple ds):=rfl
@[simp] theorem nO (a:Ds→Rs (List PyData)) (δ:Ds):ly a δ=(a δ).bind fun ds=>.ok (.list ds):=rfl
@[simp] theorem bI (f:Gf) (a:Ds→Rs (List PyData)) (δ:Ds):aG f a δ=(a δ).bind f:=rfl
@[simp] theorem sV (a:Ds→Rs PyData) (δ:Ds):gT a δ=(a δ).bind truth:=rfl
@[simp] theorem iR (b:Bool):truth (.bool b)=.ok b:=rfl
@[simp] theorem uj (a:Ds→Rs Bool) (δ:Ds):fG a δ=(a δ).bind fun b=>.ok (!b):=rfl
@[simp] theorem wW (a b:Ds→Rs Bool) (δ:Ds):xp a b δ=(a δ).bind fun x=>if x=true then b δ else .ok false:=rfl
@[simp] theorem xv (a b:Ds→Rs Bool) (δ:Ds):cOr a b δ=(a δ).bind fun x=>if x=true then .ok true else b δ:=rfl
@[simp] theorem xq (a b:Ds→Rs PyData) (δ:Ds):sL a b δ=(a δ).bind fun x=>(truth x).bind fun t=>if t=true then b δ else .ok (.bool false):=rfl
@[simp] theorem xx (a b:Ds→Rs PyData) (δ:Ds):gOr a b δ=(a δ).bind fun x=>(truth x).bind fun t=>if t=true then .ok (.bool true) else b δ:=rfl
@[simp] theorem wO (a:Ds→Rs PyData) (δ:Ds):wZ a δ=(a δ).bind fun x=>(truth x).bind fun t=>.ok (.bool (!t)):=rfl
@[simp] theorem uy (a:Ds→Rs (List PyData)) (δ:Ds):gL a δ=(a δ).bind fun ds=>.ok (.list ds):=rfl
@[simp] theorem uF (a:Ds→Rs PyData) (δ:Ds):gE a δ=(a δ).bind oy:=rfl
@[simp] theorem wV (ds:List PyData):oy (.list ds)=.ok ds:=rfl
@[simp] theorem t9 (ds:List PyData):oy (.tuple ds)=.ok ds:=rfl
@[simp] theorem iW (a:Ds→Rs (List PyData)) (δ:Ds):fZ a δ=(a δ).bind rW:=rfl
@[simp] theorem wD (a:Ds→Rs (List PyData)) (δ:Ds):v8 a δ=(a δ).bind vt:=rfl
@[simp] theorem sY (a:Ds→Rs (List PyData)) (δ:Ds):ou a δ=(a δ).bind qF:=rfl
@[simp] theorem vk (a:Ds→Rs (List PyData)) (δ:Ds):gLR a δ=(a δ).bind kC:=rfl
@[simp] theorem sq (a:Ds→Rs (List PyData)) (δ:Ds):nY a δ=(a δ).bind jz:=rfl
@[simp] theorem wC (ds:List PyData):jz [.list ds]=.ok (gK ds):=rfl
@[simp] theorem tD (ds:List PyData):jz [.tuple ds]=.ok (gK ds):=rfl
@[simp] theorem vS (f f':PyData→PyData→Option PyData) (a b c:Ds→Rs PyData) (δ:Ds):hZ f f' a b c δ=(a δ).bind fun x=>(b δ).bind fun y=>(Rs.c7 (f x y)).bind fun z=>(truth z).bind fun t=>if t=true then (c δ).bind fun w=>Rs.c7 (f' y w) else .ok (.bool false):=rfl
@[simp] theorem j4 (δ:Ds):bO δ=.ok none:=rfl
@[simp] theorem oB (g:Ds→Rs PyData) (δ:Ds):c6 g δ=(g δ).bind p9:=rfl
@[simp] theorem oE (i:Int):p9 (.int i)=.ok (some i):=rfl
@[simp] theorem md (g:Ds→Rs PyData) (lo hi:Ds→Rs (Option Int)) (δ:Ds):b6 g lo hi δ=(g δ).bind fun d=>(lo δ).bind fun l=>(hi δ).bind fun h=>Rs.c7 (sP d l h):=rfl
@[simp] theorem xh (x:List PyData) (lo hi:Option Int):sP (.list x) lo hi=some (.list (cutD x lo hi)):=rfl
@[simp] theorem rF (x:List PyData) (lo hi:Option Int):sP (.tuple x) lo hi=some (.tuple (cutD x lo hi)):=rfl
@[simp] theorem bN (a b:Ds→Sr) (δ:Ds):bL a b δ=match a δ with | .nx δ'=>b δ' | r=>r:=rfl
@[simp] theorem oo (δ:Ds):b3 δ=.nx δ:=rfl
@[simp] theorem oM (c:Ds→Rs Bool) (a b:Ds→Sr) (δ:Ds):sIf c a b δ=ofR (c δ) fun t=>if t=true then a δ else b δ:=rfl
@[simp] theorem fm (g:Ds→Rs PyData) (δ:Ds):cM g δ=ofR (g δ) .rt:=rfl
@[simp] theorem sf (g:Ds→Rs PyData) (δ:Ds):ma g δ=ofR (g δ) fun _=>.nx δ:=rfl
@[simp] theorem rX (i:Nat) (g:Ds→Rs PyData) (δ:Ds):cU [] i g δ=if i < δ.length then ofR (g δ) fun d=>.nx (δ.set i (some d)) else .no:=by unfold cU; rw [l6]
@[simp] theorem vJ (C:Addr) (gs:Ds→Rs (List PyData)) (δ:Ds):iu C gs δ=ofR (gs δ) fun _=>.rz C:=rfl
theorem jE (O:List Nat) (src:Ds→Rs (List PyData)) (tgt:PyData→Ds→Option Ds) (body:Ds→Sr) (δ:Ds):lh O src tgt body δ=ofR (src (mask O δ)) fun ds=>forL tgt body ds δ:=rfl
@[simp] theorem eK (d:PyData):bz (.rt d)=.ok d:=rfl
@[simp] theorem vf (δ:Ds):bz (.nx δ)=.ok .none:=rfl
@[simp] theorem vh (C:Addr):bz (.rz C)=.rz C:=rfl
@[simp] theorem vg:bz .no=.no:=rfl
@[simp] theorem fh (a b:Int):bb (.int a) (.int b)=some (.int (a + b)):=rfl
@[simp] theorem oQ (a b:Int):gY (.int a) (.int b)=some (.int (a - b)):=rfl
@[simp] theorem vW (a b:Int):jL (.int a) (.int b)=if 0 < b then some (.int (a % b)) else none:=rfl
@[simp] theorem v3 (a b:Int):o1 (.int a) (.int b)=if 0 < b∧b < 1073741824 then some (.int (a / b)) else none:=rfl
@[simp] theorem xB (a b:Int):dLt (.int a) (.int b)=some (.bool (decide (a < b))):=rfl
@[simp] theorem xH (a b:Int):dLe (.int a) (.int b)=some (.bool (decide (a≤b))):=rfl
@[simp] theorem xG (a b:Int):dGt (.int a) (.int b)=some (.bool (decide (b < a))):=rfl
@[simp] theorem xI (a b:Int):dGe (.int a) (.int b)=some (.bool (decide (b≤a))):=rfl
@[simp] theorem oN (a:Int):de (.int a)=some (.int (-a)):=rfl
@[simp] theorem xu (d:PyData):sW d=some (.bool (dw d)):=rfl
@[simp] theorem wJ (d:PyData):j9 d=some (.bool (!dw d)):=rfl
@[simp] theorem v7:dw .none=true:=rfl
@[simp] theorem vi (i:Int):dw (.int i)=false:=rfl
@[simp] theorem qd (x:List PyData) (i:Int):dIx (.tuple x) (.int i)=atI x i:=rfl
@[simp] theorem qk (x:List PyData) (i:Int):dIx (.list x) (.int i)=atI x i:=rfl
@[simp] theorem kG (x:List PyData):dm [.tuple x]=some (.int x.length):=rfl
@[simp] theorem uR (x:List PyData):dm [.list x]=some (.int x.length):=rfl
@[simp] theorem vb (a b:Int):i5 [.int a,.int b]=some (.int (if b < a then b else a)):=rfl
@[simp] theorem wY (a b:Int):wd [.int a,.int b]=some (.int (if b > a then b else a)):=rfl
@[simp] theorem uA (b:Bool):oX [.bool b]=some (.int (if b then 1 else 0)):=rfl
@[simp] theorem rH (x:List PyData):fH [.list x]=some (.tuple x):=rfl
@[simp] theorem wI (x:List PyData):fH [.tuple x]=some (.tuple x):=rfl
@[simp] theorem tW (a b:Int):dEq (.int a) (.int b)=some (.bool (a == b)):=by
  have h:∀ i:Int,PySem.SeqAt.shaped (.int i)=true:=fun i=>by simp [PySem.SeqAt.shaped,PyData.canLay0,PyData.depth]
  unfold dEq; rw [h,h]; simp [aI,PyData.eqv]
@[simp] theorem xt (a b:Int):dNe (.int a) (.int b)=some (.bool (!(a == b))):=by
  have h:∀ i:Int,PySem.SeqAt.shaped (.int i)=true:=fun i=>by simp [PySem.SeqAt.shaped,PyData.canLay0,PyData.depth]
  unfold dNe; rw [h,h]; simp [aI,PyData.eqv]
theorem f7 {α:Type} {xs:List α} {i:Int} {j:Nat} (h:i=j):atI xs i=xs[j]?:=by
  subst h
  unfold atI ixN
  by_cases z:(j:Int) < xs.length
  · rw [if_pos (by omega),if_pos z]; simp
  · rw [if_pos (by omega),if_neg z]
    simp; omega
@[simp] theorem xJ {α:Type} (xs:List α):atI xs 0=xs[0]?:=f7 (j:=0) rfl
@[simp] theorem xE {α:Type} (xs:List α):atI xs 1=xs[1]?:=f7 (j:=1) rfl
@[simp] theorem xC {α:Type} (xs:List α):atI xs 2=xs[2]?:=f7 (j:=2) rfl
@[simp] theorem xF {α:Type} (xs:List α):atI xs 3=xs[3]?:=f7 (j:=3) rfl
theorem ib {α:Type} (xs:List α):atI xs (-1)=xs.getLast?:=by
  unfold atI ixN
  rw [if_neg (by decide)]
  by_cases z:xs=[]
  · subst z; rfl
  · have:0 < xs.length:=List.length_pos_iff.mpr z
    rw [if_pos (by omega),List.getLast?_eq_getElem?]
    simp only [Option.bind_some]
    congr 1
    omega
theorem jC {α:Type} (g:α→Bool) (xs:List α):mQ [.list (xs.map fun d=>.bool (g d))]=some (.bool (xs.all g)):=by
  have hb:ej (xs.map fun d=>PyData.bool (g d))=some (xs.map g):=by
    rw [show (xs.map fun d=>PyData.bool (g d))=(xs.map g).map PyData.bool by rw [List.map_map]; rfl]
    exact jB _
  show (ej (xs.map fun d=>PyData.bool (g d))).map (fun ns=>PyData.bool (ns.all id))=_
  rw [hb,Option.map_some,List.all_map]; rfl
theorem comp_map {elt:Ds→Rs PyData} {δ:Ds} {f:PyData→PyData}:∀ (ds:List PyData),(∀ d∈ds,elt (δ++[some d])=.ok (f d))→eI cB elt cw δ ds=.ok (ds.map f)
  | [],_=>rfl
  | d::r,h=>by
    unfold eI
    simp only [cw,cB,Rs.gH,Rs.aq,if_true,h d List.mem_cons_self,comp_map r fun e he=>h e (List.mem_cons_of_mem _ he),List.map_cons]
theorem dA {n0:Nat} {src:Ds→Rs (List PyData)} {elt:Ds→Rs PyData} {δ:Ds} {f:PyData→PyData} {ds:List PyData} (hn:δ.length=n0) (hs:src δ=.ok ds) (hl:ds.length≤1000000) (h:∀ d∈ds,elt (δ++[some d])=.ok (f d)) :
    da n0 src cB elt cw δ=.ok (ds.map f):=by
  unfold da
  rw [if_pos hn,hs]
  simp only [Rs.aq,if_pos hl]
  exact comp_map ds h
theorem jr:∀ {ds:List PyData},eo ds=true→∀ d∈ds,aI d=true
  | [],_,d,hd=>by cases hd
  | e::r,h,d,hd=>by
    unfold eo at h
    obtain ⟨h1,h2⟩:=Bool.and_eq_true_iff.mp h
    rcases List.mem_cons.mp hd with z | z
    · rw [z]; exact h1
    · exact jr h2 d z
theorem cj {ds:List PyData} (h:aI (.tuple ds)=true):∀ d∈ds,aI d=true:=by
  unfold aI at h; exact jr h
end RS
set_option maxRecDepth 100000
set_option maxHeartbeats 1000000
namespace RS
open PySem L2
noncomputable def aw:Gf
  | [d,.int a,.int b]=>if aI d then .ok (.bool (isWhole d a b)) else .no
  | _=>.no
theorem mO (cs:Cs):∀ ds,ds.length=3→aw ds≠.no→bz (dH cs (ds.map some++List.replicate 0 none))=aw ds:=by
  intro ds hl hne
  unfold aw at hne ⊢
  split at hne
  · rename_i d a b
    split at hne
    · rename_i hd
      simp only [hd,if_true]
      cases d with
      | int i=>by_cases h:a≤i <;> simp [dH,ll,hd,kD,tyD,isWhole,h]
      | dict _=>simp [aI] at hd
      | _=>simp [dH,ll,hd,kD,tyD,isWhole]
    · exact absurd rfl hne
  · exact absurd rfl hne
noncomputable def ak:Gf
  | [d,.int a,.int b]=>if aI d then .ok (.bool (bq d a b)) else .no
  | _=>.no
theorem mF (cs:Cs):∀ ds,ds.length=3→ak ds≠.no→bz (dD cs (ds.map some++List.replicate 0 none))=ak ds:=by
  intro ds hl hne
  unfold ak at hne ⊢
  split at hne
  · rename_i d a b
    split at hne
    · rename_i hd
      simp only [hd,if_true]
      cases d with
      | tuple x=>by_cases h:a≤(x.length:Int) <;> simp [dD,ll,hd,kD,tyD,bq,h]
      | dict _=>simp [aI] at hd
      | _=>simp [dD,ll,hd,kD,tyD,bq]
    · exact absurd rfl hne
  · exact absurd rfl hne
noncomputable def dj (g:PyData→Bool):Gf
  | [d]=>if aI d then .ok (.bool (g d)) else .no
  | _=>.no
theorem jx {g:PyData→Bool} {ds:List PyData} (h:dj g ds≠.no):∃ d,ds=[d]∧aI d=true∧dj g ds=.ok (.bool (g d)):=by
  unfold dj at h ⊢
  split at h
  · rename_i d
    split at h
    · rename_i hd; exact ⟨d,rfl,hd,by simp [hd]⟩
    · exact absurd rfl h
  · exact absurd rfl h
theorem jK {g:PyData→Bool} {d:PyData} (h:aI d=true):dj g [d]=.ok (.bool (g d)):=by unfold dj; simp [h]
@[simp] theorem ve {d:PyData} {a b:Int} (h:aI d=true):ak [d,.int a,.int b]=.ok (.bool (bq d a b)):=by unfold ak; simp [h]
@[simp] theorem tM {d:PyData} {a b:Int} (h:aI d=true):aw [d,.int a,.int b]=.ok (.bool (isWhole d a b)):=by unfold aw; simp [h]
theorem mm {d:PyData} (h:bq d 2 2=true):∃ a b,d=.tuple [a,b]:=by
  cases d with
  | tuple ds =>
    simp [bq] at h
    match ds,h with
    | [a,b],_=>exact ⟨a,b,rfl⟩
    | [],h=>simp at h
    | [_],h=>simp at h
    | _::_::_::_,h=>simp at h; omega
  | _=>cases h
theorem o6 (cs:Cs):∀ ds,ds.length=1→dj bR ds≠.no→bz (cV cs aw ak (ds.map some++List.replicate 0 none))=dj bR ds:=by
  intro ds hl hne
  obtain ⟨d,rfl,hd,e⟩:=jx hne
  rw [e]
  cases e1:bq d 2 2 with
  | false =>
    have:bR d=false:=by
      unfold bR
      split
      · simp [bq] at e1
      · rfl
    simp [cV,hd,e1,this]
  | true =>
    obtain ⟨a,b,rfl⟩:=mm e1
    have ha:=cj hd a (by simp)
    have hb:=cj hd b (by simp)
    cases e2:isWhole a 1 20 with
    | false=>simp [cV,hd,ha,e1,e2,bR]
    | true =>
      cases b with
      | none=>simp [cV,hd,ha,e1,e2,bR]
      | _=>simp [cV,hd,ha,hb,e1,e2,bR,dw]
theorem lQ (cs:Cs):∀ ds,ds.length=1→dj cc ds≠.no→bz (cG cs ak (dj bR) (ds.map some++List.replicate 0 none))=dj cc ds:=by
  intro ds hl hne
  obtain ⟨d,rfl,hd,e⟩:=jx hne
  rw [e]
  cases e1:bq d 1 4 with
  | false =>
    have:cc d=false:=by
      cases d with
      | tuple ds =>
        simp only [bq,Bool.and_eq_false_iff,decide_eq_false_iff_not] at e1
        simp only [cc,Bool.and_eq_false_iff,decide_eq_false_iff_not]
        refine .inl (.inl ?_)
        omega
      | _=>rfl
    simp [cG,hd,e1,this]
  | true =>
    obtain ⟨xs,rfl⟩:∃ ds,d=.tuple ds:=by cases d <;> first | exact ⟨_,rfl⟩ | cases e1
    have hn:1≤xs.length∧xs.length≤4:=by
      simp only [bq,Bool.and_eq_true,decide_eq_true_eq] at e1
      omega
    have hc:da 1 (gE (ai 0)) cB (aG (dj bR) (af (ai 1) au)) cw [some (.tuple xs)]=.ok (xs.map fun d=>.bool (bR d)) :=
      dA rfl rfl (by omega) fun d hd'=>by simp [jK (cj hd d hd')]
    have hf:=jC bR xs
    cases e2:xs.all bR with
    | false=>simp [cG,hd,e1,hc,hf,e2,cc]
    | true =>
      have hne:xs≠[]:=by intro z; subst z; simp at hn
      have hl2:xs.getLast?=some (xs.getLast hne):=List.getLast?_eq_some_getLast hne
      have hp:=List.all_eq_true.mp e2 _ (List.getLast_mem hne)
      obtain ⟨a,b,eab⟩:∃ a b,xs.getLast hne=.tuple [a,b]:=by
        revert hp
        generalize xs.getLast hne=z
        intro hp
        unfold bR at hp
        split at hp
        · exact ⟨_,_,rfl⟩
        · cases hp
      rw [eab] at hl2
      have hln:eB xs=dw b:=by
        unfold eB; rw [hl2]; cases b <;> rfl
      simp [cG,hd,e1,hc,hf,e2,cc,ib,hl2,hln,hn.1,hn.2]
theorem k7 {d:PyData} (h:bq d 4 4=true):∃ a b c e,d=.tuple [a,b,c,e]:=by
  cases d with
  | tuple ds =>
    simp [bq] at h
    match ds,h with
    | [a,b,c,e],_=>exact ⟨a,b,c,e,rfl⟩
    | [],h=>simp at h
    | [_],h=>simp at h
    | [_,_],h=>simp at h
    | [_,_,_],h=>simp at h
    | _::_::_::_::_::_,h=>simp at h; omega
  | _=>cases h
theorem bT {d:PyData} {a b:Int} (h:isWhole d a b=true):∃ i,d=.int i∧a≤i∧i≤b:=by
  cases d with
  | int i=>simp [isWhole] at h; exact ⟨i,rfl,h⟩
  | _=>cases h
theorem jv {a b c e:PyData} (h:isWhole a 2 60=false):aZ (.tuple [a,b,c,e])=false:=by
  cases a with
  | int i =>
    cases c with
    | int l =>
      simp only [isWhole,Bool.and_eq_false_iff,decide_eq_false_iff_not] at h
      simp only [aZ,Bool.and_eq_false_iff,decide_eq_false_iff_not]
      omega
    | _=>rfl
  | _=>rfl
theorem jW {b c e:PyData} {i:Int} (h:isWhole c 0 (if i - 1 < 20 then i - 1 else 20)=false):aZ (.tuple [.int i,b,c,e])=false:=by
  cases c with
  | int l =>
    simp only [isWhole,Bool.and_eq_false_iff,decide_eq_false_iff_not] at h
    simp only [aZ,Bool.and_eq_false_iff,decide_eq_false_iff_not]
    exact .inl (.inl (.inr h))
  | _=>rfl
theorem jO {b e:PyData} {i l:Int} (h1:2≤i∧i≤60) (h2:0≤l∧l≤if i - 1 < 20 then i - 1 else 20):aZ (.tuple [.int i,b,.int l,e])=(isWhole b 1 (i - l) && cc e):=by
  simp [aZ,h1.1,h1.2,h2.1,h2.2]
theorem mw (cs:Cs):∀ ds,ds.length=1→dj aZ ds≠.no→bz (bV cs aw (dj cc) ak (ds.map some++List.replicate 3 none))=dj aZ ds:=by
  intro ds hl hne
  obtain ⟨d,rfl,hd,e⟩:=jx hne
  rw [e]
  cases e1:bq d 4 4 with
  | false =>
    have:aZ d=false:=by
      unfold aZ
      split
      · simp [bq] at e1
      · rfl
    simp [bV,hd,e1,this]
  | true =>
    obtain ⟨a,b,c,q,rfl⟩:=k7 e1
    have ha:=cj hd a (by simp)
    have hb:=cj hd b (by simp)
    have hc:=cj hd c (by simp)
    have he:=cj hd q (by simp)
    cases e2:isWhole a 2 60 with
    | false=>simp [bV,hd,ha,hb,hc,he,e1,e2,jv e2]
    | true =>
      obtain ⟨i,rfl,i1,i2⟩:=bT e2
      cases e3:isWhole c 0 (if i - 1 < 20 then i - 1 else 20) with
      | false=>simp [bV,hd,ha,hb,hc,he,e1,e2,e3,jW e3]
      | true =>
        obtain ⟨l,rfl,l1,l2⟩:=bT e3
        have er:=jO (b:=b) (e:=q) ⟨i1,i2⟩ ⟨l1,l2⟩
        cases e4:isWhole b 1 (i - l) with
        | false=>simp [bV,hd,ha,hb,hc,he,e1,e2,e3,e4,er]
        | true=>simp [bV,hd,ha,hb,hc,he,e1,e2,e3,e4,er,jK he]
noncomputable def a8 (cs:Cs):Gf
  | [d]=>if aI d then (if bu d then .ok d else .rz cs.NoErrands) else .no
  | _=>.no
theorem pw (cs:Cs):∀ ds,ds.length=1→a8 cs ds≠.no→bz (dz cs ak (dj aZ) (ds.map some++List.replicate 0 none))=a8 cs ds:=by
  intro ds hl hne
  obtain ⟨d,rfl⟩:∃ d,ds=[d]:=by
    match ds,hl with
    | [d],_=>exact ⟨d,rfl⟩
  have hd:aI d=true:=by
    unfold a8 at hne
    by_cases z:aI d=true
    · exact z
    · simp [z] at hne
  have eg:a8 cs [d]=if bu d then .ok d else .rz cs.NoErrands:=by unfold a8; simp [hd]
  rw [eg]
  cases e1:bq d 1 6 with
  | false =>
    have:bu d=false:=by
      cases d with
      | tuple ds =>
        simp only [bq,Bool.and_eq_false_iff,decide_eq_false_iff_not] at e1
        simp only [bu,Bool.and_eq_false_iff,decide_eq_false_iff_not]
        refine .inl ?_
        omega
      | _=>rfl
    simp [dz,hd,e1,this]
  | true =>
    obtain ⟨xs,rfl⟩:∃ ds,d=.tuple ds:=by cases d <;> first | exact ⟨_,rfl⟩ | cases e1
    have hn:1≤xs.length∧xs.length≤6:=by
      simp only [bq,Bool.and_eq_true,decide_eq_true_eq] at e1
      omega
    have hc:da 1 (gE (ai 0)) cB (aG (dj aZ) (af (ai 1) au)) cw [some (.tuple xs)]=.ok (xs.map fun d=>.bool (aZ d)) :=
      dA rfl rfl (by omega) fun d hd'=>by simp [jK (cj hd d hd')]
    have hf:=jC aZ xs
    cases e2:xs.all aZ with
    | false=>simp [dz,hd,e1,hc,hf,e2,bu]
    | true=>simp [dz,hd,e1,hc,hf,e2,bu,hn.1,hn.2]
end RS
set_option maxRecDepth 100000
set_option maxHeartbeats 1000000
namespace RS
open PySem L2
theorem eU {β:Type} {tgt:PyData→Ds→Option Ds} {body:Ds→Sr} (inv:Nat→Ds→Prop):∀ (ds:List PyData) (k:Nat),(∀ (i:Nat) d δ,ds[i]?=some d→inv (k + i) δ→∃ δ1 δ2,tgt d δ=some δ1∧body δ1=.nx δ2∧inv (k + i + 1) δ2) →
    ∀ δ,inv k δ→∃ δ',forL tgt body ds δ=.nx δ'∧inv (k + ds.length) δ'
  | [],k,_,δ,h=>⟨δ,rfl,h⟩
  | d::r,k,hs,δ,h=>by
    obtain ⟨δ1,δ2,e1,e2,h2⟩:=hs 0 d δ rfl h
    obtain ⟨δ',e3,h3⟩:=eU (β:=β) inv r (k + 1) (fun i x δ hx hi=>by
      have:=hs (i + 1) x δ (by simpa using hx) (by rw [show k + (i + 1)=k + 1 + i by omega]; exact hi)
      rw [show k + 1 + i + 1=k + (i + 1) + 1 by omega]; exact this) δ2 h2
    exact ⟨δ',by unfold forL; rw [e1]; simp only [e2]; exact e3,by rw [List.length_cons,show k + (r.length + 1)=k + 1 + r.length by omega]; exact h3⟩
noncomputable def rf:PyData→Option Int
  | .int i=>some i
  | _=>none
noncomputable def bF:PyData→Int × Option Int
  | .tuple [.int l,t]=>(l,rf t)
  | _=>(0,none)
noncomputable def deE:PyData→Er
  | .tuple [.int e,.int d,.int l,.tuple ps]=>⟨e,d,l,ps.map bF⟩
  | _=>⟨0,0,0,[]⟩
noncomputable def bY:PyData→List Er
  | .tuple ds=>ds.map deE
  | _=>[]
theorem nB (o:Option Int):rf (bp o)=o:=by cases o <;> rfl
theorem jo (p:Int × Option Int):bF (a7 p)=p:=by
  obtain ⟨l,t⟩:=p
  simp [a7,bF,nB]
theorem tL (e:Er):deE e.d=e:=by
  obtain ⟨a,b,c,ps⟩:=e
  simp [Er.d,deE,List.map_map]
  conv=>rhs; rw [← List.map_id ps]
  exact List.map_congr_left fun p _=>jo p
theorem g0 (es:List Er):bY (bj es)=es:=by
  simp [bj,bY,List.map_map]
  conv=>rhs; rw [← List.map_id es]
  exact List.map_congr_left fun e _=>tL e
theorem part_of {d:PyData} (h:bR d=true):a7 (bF d)=d∧1≤(bF d).1∧(bF d).1≤20∧∀ t,(bF d).2=some t→0≤t∧t≤3:=by
  unfold bR at h
  split at h
  · rename_i a b
    rw [Bool.and_eq_true] at h
    obtain ⟨i,rfl,h1,h2⟩:=bT h.1
    have hb:=h.2
    cases b with
    | none=>exact ⟨rfl,h1,h2,fun t q=>by cases q⟩
    | int t =>
      obtain ⟨t',q,h3,h4⟩:=bT hb
      cases q
      exact ⟨rfl,h1,h2,fun t q=>by cases q; exact ⟨h3,h4⟩⟩
    | _=>cases hb
  · cases h
theorem j8 {d:PyData} (h:aZ d=true):(deE d).d=d∧(deE d).Ok:=by
  unfold aZ at h
  split at h
  · rename_i e du l ps
    simp only [Bool.and_eq_true,decide_eq_true_eq] at h
    obtain ⟨⟨⟨⟨h1,h2⟩,h3,h4⟩,h5⟩,h6⟩:=h
    obtain ⟨du,rfl,d1,d2⟩:=bT h5
    unfold cc at h6
    split at h6
    · rename_i ps
      simp only [Bool.and_eq_true,decide_eq_true_eq] at h6
      obtain ⟨⟨⟨p1,p2⟩,p3⟩,p4⟩:=h6
      have pa:=List.all_eq_true.mp p3
      have l4:l≤20∧l < e:=by split at h4 <;> omega
      refine ⟨?_,?_⟩
      · have em:ps.map (a7 ∘ bF)=ps:=by
          conv=>rhs; rw [← List.map_id ps]
          exact List.map_congr_left fun p hp=>(part_of (pa p hp)).1
        simp only [deE,Er.d,List.map_map,em]
      · refine ⟨h1,h2,h3,l4.1,l4.2,d1,d2,fun z=>?_,by simpa [deE] using p2,fun p hp=>?_,fun p hp=>?_⟩
        · have:ps=[]:=by simpa [deE] using z
          subst this; simp at p1
        · obtain ⟨q,hq,rfl⟩:=List.mem_map.mp (show p∈ps.map bF from hp)
          exact (part_of (pa q hq)).2
        · have hp:(ps.map bF).getLast?=some p:=hp
          rw [List.getLast?_map] at hp
          unfold eB at p4
          cases q:ps.getLast? with
          | none=>rw [q] at hp; cases hp
          | some z =>
            rw [q] at hp p4
            simp at hp
            split at p4
            · rename_i a heq
              cases heq
              subst hp
              unfold bF; split
              · rename_i l t e1
                injection e1 with e1; injection e1 with _ e1; injection e1 with e1 _
                rw [← e1]; rfl
              · rfl
            · cases p4
    · cases h6
  · cases h
theorem nQ {d:PyData} (h:bu d=true):bj (bY d)=d∧1≤(bY d).length∧(bY d).length≤6∧∀ e∈bY d,e.Ok:=by
  unfold bu at h
  split at h
  · rename_i ds
    simp only [Bool.and_eq_true,decide_eq_true_eq] at h
    obtain ⟨⟨h1,h2⟩,h3⟩:=h
    have pa:=List.all_eq_true.mp h3
    refine ⟨?_,by simpa [bY] using h1,by simpa [bY] using h2,fun e he=>?_⟩
    · simp only [bY,bj,List.map_map]
      congr 1
      conv=>rhs; rw [← List.map_id ds]
      exact List.map_congr_left fun p hp=>(j8 (pa p hp)).1
    · obtain ⟨q,hq,rfl⟩:=List.mem_map.mp (show e∈ds.map deE from he)
      exact (j8 (pa q hq)).2
  · cases h
noncomputable def deI:PyData→Int
  | .int i=>i
  | _=>0
noncomputable def cx:PyData→List Int
  | .tuple ds=>ds.map deI
  | _=>[]
noncomputable def aY (ns:List Int):PyData:=.tuple (ns.map .int)
theorem gN (ns:List Int):cx (aY ns)=ns:=by
  simp [aY,cx,List.map_map]
  conv=>rhs; rw [← List.map_id ns]
  exact List.map_congr_left fun _ _=>rfl
noncomputable def a9 (n:Nat):PyData→Bool
  | .tuple ds=>decide (ds.length=n) && ds.all (fun d=>isWhole d 0 ((n:Int) - 1)) && decide (ds.map deI).Nodup
  | _=>false
structure iC (n:Nat) (rs:List Int):Prop where
  len:rs.length=n
  rng:∀ r∈rs,0≤r∧r < n
  nd:rs.Nodup
theorem gI {n:Nat} {d:PyData} (h:a9 n d=true):aY (cx d)=d∧iC n (cx d):=by
  unfold a9 at h
  split at h
  · rename_i ds
    simp only [Bool.and_eq_true,decide_eq_true_eq] at h
    obtain ⟨⟨h1,h2⟩,h3⟩:=h
    have pa:=List.all_eq_true.mp h2
    refine ⟨?_,by simpa [cx] using h1,fun r hr=>?_,h3⟩
    · simp only [cx,aY,List.map_map]
      congr 1
      conv=>rhs; rw [← List.map_id ds]
      refine List.map_congr_left fun p hp=>?_
      obtain ⟨i,rfl,_⟩:=bT (pa p hp)
      rfl
    · obtain ⟨q,hq,rfl⟩:=List.mem_map.mp (show r∈ds.map deI from hr)
      obtain ⟨i,rfl,a,b⟩:=bT (pa q hq)
      exact ⟨a,by show i < n; omega⟩
  · cases h
theorem eX {n:Nat} {rs:List Int} (h:iC n rs):a9 n (aY rs)=true:=by
  have e:(rs.map PyData.int).map deI=rs:=by
    rw [List.map_map]; conv=>rhs; rw [← List.map_id rs]
    exact List.map_congr_left fun _ _=>rfl
  unfold a9 aY
  simp only [List.length_map,h.len,decide_true,Bool.true_and,e,h.nd,Bool.and_true]
  rw [List.all_eq_true]
  intro d hd
  obtain ⟨r,hr,rfl⟩:=List.mem_map.mp hd
  have:=h.rng r hr
  simp [isWhole,this.1]; omega
theorem iw:∀ (l acc:List Int),acc.Nodup→((l.foldl PyProof.Rows.step_dedup acc).length≤acc.length + l.length)∧((l.foldl PyProof.Rows.step_dedup acc).length=acc.length + l.length↔(acc++l).Nodup)
  | [],acc,h=>by simpa using h
  | x::r,acc,h=>by
    rw [List.foldl_cons]
    by_cases z:acc.any (· == x)=true
    · have e:PyProof.Rows.step_dedup acc x=acc:=by unfold PyProof.Rows.step_dedup; rw [if_pos z]
      rw [e]
      have:=iw r acc h
      refine ⟨by rw [List.length_cons]; omega,fun q=>?_,fun q=>?_⟩
      · rw [List.length_cons] at q; omega
      · exfalso
        obtain ⟨y,hy,ey⟩:=List.any_eq_true.mp z
        have:y=x:=by simpa using ey
        subst this
        rw [List.nodup_append] at q
        exact q.2.2 y hy y List.mem_cons_self rfl
    · have e:PyProof.Rows.step_dedup acc x=acc++[x]:=by unfold PyProof.Rows.step_dedup; rw [if_neg z]
      have hx:x ∉ acc:=fun q=>z (List.any_eq_true.mpr ⟨x,q,by simp⟩)
      have hn:(acc++[x]).Nodup:=by
        rw [List.nodup_append]
        exact ⟨h,by simp,fun a ha b hb=>by rw [List.mem_singleton.mp hb]; rintro rfl; exact hx ha⟩
      rw [e]
      have:=iw r (acc++[x]) hn
      rw [List.length_append,List.length_singleton,List.append_assoc] at this
      refine ⟨by rw [List.length_cons]; omega,?_⟩
      rw [List.length_cons,show acc.length + (r.length + 1)=acc.length + 1 + r.length by omega]
      exact this.2
theorem nW (ns:List Int):((seen ns ns.length).length:Int) < ns.length↔¬ ns.Nodup:=by
  have e:(List.range ns.length).map (fun i=>ns.getD i 0)=ns:=by
    apply List.ext_getElem?
    intro i
    rw [List.getElem?_map]
    by_cases h:i < ns.length
    · rw [List.getElem?_range h,List.getElem?_eq_getElem h]
      simp [List.getD_eq_getElem?_getD,List.getElem?_eq_getElem h]
    · rw [List.getElem?_eq_none (by simpa using h),List.getElem?_eq_none (by simpa using h)]; rfl
  have:=iw ns [] List.nodup_nil
  unfold seen PyProof.Rows.firstMet
  rw [e]
  simp only [List.length_nil,Nat.zero_add,List.nil_append] at this
  constructor
  · intro h q
    have:=this.2.mpr q
    omega
  · intro h
    have h1:=this.1
    have h2:¬ (List.foldl PyProof.Rows.step_dedup [] ns).length=ns.length:=fun q=>h (this.2.mp q)
    omega
noncomputable def aF (cs:Cs):Gf
  | [.tuple es,r]=>if aI r && decide (es.length≤100) then (if a9 es.length r then .ok r else .rz cs.NoRanks) else .no
  | _=>.no
theorem iK (cs:Cs):∀ ds,ds.length=2→aF cs ds≠.no→bz (bw cs ak aw (ds.map some++List.replicate 1 none))=aF cs ds:=by
  intro ds hl hne
  unfold aF at hne ⊢
  split at hne
  · rename_i es r
    split at hne
    · rename_i hh
      simp only [hh,if_true]
      rw [Bool.and_eq_true,decide_eq_true_eq] at hh
      obtain ⟨hd,h100⟩:=hh
      cases e1:bq r es.length es.length with
      | false =>
        have:a9 es.length r=false:=by
          cases r with
          | tuple xs =>
            have:xs.length≠es.length:=fun q=>by simp [bq,q] at e1
            simp [a9,this]
          | _=>rfl
        simp [bw,hd,e1,this]
      | true =>
        obtain ⟨xs,rfl⟩:∃ ds,r=.tuple ds:=by cases r <;> first | exact ⟨_,rfl⟩ | cases e1
        have hn:xs.length=es.length:=by
          simp only [bq,Bool.and_eq_true,decide_eq_true_eq] at e1
          omega
        have hc:da 3 (gE (ai 1)) cB (aG aw (af (ai 3) (af (gC (.int 0)) (af (ai 2) au)))) cw [some (.tuple es),some (.tuple xs),some (.int ((es.length:Int) - 1))]=.ok (xs.map fun d=>.bool (isWhole d 0 ((es.length:Int) - 1))) :=
          dA rfl rfl (by omega) fun d hd'=>by simp [cj hd d hd']
        have hf:=jC (fun d=>isWhole d 0 ((es.length:Int) - 1)) xs
        cases e2:xs.all (fun d=>isWhole d 0 ((es.length:Int) - 1)) with
        | false=>simp [bw,hd,e1,hc,hf,e2,a9]
        | true =>
          have pa:=List.all_eq_true.mp e2
          have ei:xs=(xs.map deI).map PyData.int:=by
            rw [List.map_map]
            conv=>lhs; rw [← List.map_id xs]
            refine List.map_congr_left fun p hp=>?_
            obtain ⟨i,rfl,_⟩:=bT (pa p hp)
            rfl
          have hs:gD [.tuple xs]=some (.int (seen (xs.map deI) (xs.map deI).length).length):=by
            unfold gD
            conv=>lhs; rw [ei]
            simp only [ic,Option.bind_some]
            rw [if_pos (by simp; omega)]
          have hsn:=nW (xs.map deI)
          have hml:(xs.map deI).length=es.length:=by rw [List.length_map]; exact hn
          rw [hml] at hs hsn
          by_cases hnd:(xs.map deI).Nodup
          · have h2:¬ (seen (xs.map deI) es.length).length < es.length:=fun q=>hsn.mp (by omega) hnd
            simp [bw,hd,e1,hc,hf,e2,hs,hn,h2,a9,hnd]
          · have h2:(seen (xs.map deI) es.length).length < es.length:=by have:=hsn.mpr hnd; omega
            simp [bw,hd,e1,hc,hf,e2,hs,hn,h2,a9,hnd]
    · exact absurd rfl hne
  · exact absurd rfl hne
end RS
set_option maxRecDepth 100000
set_option maxHeartbeats 1000000
namespace RS
open PySem L2
noncomputable def fz:PyData→Bool
  | .tuple [.int l,b]=>decide (0≤l) && decide (l≤1000000) && (match b with | .none=>true | .int t=>decide (0≤t) && decide (t≤3) | _=>false)
  | _=>false
noncomputable def pH:PyData→Bool
  | .tuple [.int e,.int _,.int l,.tuple ps]=>decide (1≤e) && decide (e < 1073741824) && decide (-1000000000≤l) && decide (l≤1000000000) && decide (ps.length≤1000) && ps.all fz
  | _=>false
noncomputable def ju:PyData→Bool
  | .tuple ds=>decide (ds.length≤100) && ds.all pH
  | _=>false
structure Er.Sh (e:Er):Prop where
  e1:1≤e.every
  e2:e.every < 1073741824
  l1:-1000000000≤e.late
  l2:e.late≤1000000000
  pn:e.parts.length≤1000
  pl:∀ p∈e.parts,0≤p.1∧p.1≤1000000∧∀ t,p.2=some t→0≤t∧t≤3
theorem ki {d:PyData} (h:fz d=true):a7 (bF d)=d∧0≤(bF d).1∧(bF d).1≤1000000∧∀ t,(bF d).2=some t→0≤t∧t≤3:=by
  unfold fz at h
  split at h
  · rename_i l b
    simp only [Bool.and_eq_true,decide_eq_true_eq] at h
    obtain ⟨⟨h1,h2⟩,h3⟩:=h
    cases b with
    | none=>exact ⟨rfl,h1,h2,fun t q=>by cases q⟩
    | int t =>
      simp only [Bool.and_eq_true,decide_eq_true_eq] at h3
      exact ⟨rfl,h1,h2,fun t q=>by cases q; exact h3⟩
    | _=>cases h3
  · cases h
theorem qr {d:PyData} (h:pH d=true):(deE d).d=d∧(deE d).Sh:=by
  unfold pH at h
  split at h
  · rename_i e du l ps
    simp only [Bool.and_eq_true,decide_eq_true_eq] at h
    obtain ⟨⟨⟨⟨⟨h1,h2⟩,hl1⟩,hl2⟩,h3⟩,h4⟩:=h
    have pa:=List.all_eq_true.mp h4
    have em:ps.map (a7 ∘ bF)=ps:=by
      conv=>rhs; rw [← List.map_id ps]
      exact List.map_congr_left fun p hp=>(ki (pa p hp)).1
    refine ⟨by simp only [deE,Er.d,List.map_map,em],h1,h2,hl1,hl2,by simpa [deE] using h3,fun p hp=>?_⟩
    obtain ⟨q,hq,rfl⟩:=List.mem_map.mp (show p∈ps.map bF from hp)
    exact (ki (pa q hq)).2
  · cases h
theorem oP {e:Er} (h:e.Sh):pH e.d=true:=by
  unfold pH Er.d
  simp only [h.e1,h.e2,h.l1,h.l2,decide_true,Bool.true_and,List.length_map,h.pn]
  rw [List.all_eq_true]
  intro d hd
  obtain ⟨p,hp,rfl⟩:=List.mem_map.mp hd
  obtain ⟨a,b,c⟩:=h.pl p hp
  obtain ⟨l,t⟩:=p
  cases t with
  | none=>simp at a b; simp [fz,a7,bp,a,b]
  | some t=>have:=c t rfl; simp at a b; simp [fz,a7,bp,a,b,this.1,this.2]
theorem Er.Ok.sh {e:Er} (h:e.Ok):e.Sh:=⟨by have:=h.e1; omega,by have:=h.e2; omega,by have:=h.l1; omega,by have:=h.l2; omega,by have:=h.p2; omega,fun p hp=>by
  obtain ⟨a,b,c⟩:=h.pl p hp
  exact ⟨by omega,by omega,c⟩⟩
theorem nK {d:PyData} (h:ju d=true):bj (bY d)=d∧(bY d).length≤100∧∀ e∈bY d,e.Sh:=by
  unfold ju at h
  split at h
  · rename_i ds
    simp only [Bool.and_eq_true,decide_eq_true_eq] at h
    have pa:=List.all_eq_true.mp h.2
    refine ⟨?_,by simpa [bY] using h.1,fun e he=>?_⟩
    · simp only [bY,bj,List.map_map]
      congr 1
      conv=>rhs; rw [← List.map_id ds]
      exact List.map_congr_left fun p hp=>(qr (pa p hp)).1
    · obtain ⟨q,hq,rfl⟩:=List.mem_map.mp (show e∈ds.map deE from he)
      exact (qr (pa q hq)).2
  · cases h
theorem jw {es:List Er} (h1:es.length≤100) (h:∀ e∈es,e.Sh):ju (bj es)=true:=by
  unfold ju bj
  simp only [List.length_map,h1,decide_true,Bool.true_and]
  rw [List.all_eq_true]
  intro d hd
  obtain ⟨e,he,rfl⟩:=List.mem_map.mp hd
  exact oP (h e he)
noncomputable def Er.has (e:Er) (t:Int):Bool:=e.parts.any fun p=>p.2 == some t
noncomputable def er0:Er:=⟨1,1,0,[]⟩
noncomputable def iJ (es:List Er) (n:Int):Er:=es.getD n.toNat er0
noncomputable def hts (es:List Er):List Int→Int→Int→Option Int
  | [],_,_=>none
  | r::rs,k,t=>if (iJ es r).has t then some k else hts es rs (k + 1) t
noncomputable def cf (es:List Er) (rs:List Int) (t:Int):Option Int:=hts es rs 0 t
theorem lM {es:List Er} {n:Int} (h0:0≤n) (h1:n < es.length):es[n.toNat]?=some (iJ es n):=by
  unfold iJ
  rw [List.getD_eq_getElem?_getD,List.getElem?_eq_getElem (by omega)]; rfl
theorem lH {es:List Er} {n:Int} (h0:0≤n) (h1:n < es.length):iJ es n∈es:=List.mem_of_getElem? (lM h0 h1)
theorem oq {es:List Er} {n:Int} (h0:0≤n) (h1:n < es.length):atI (es.map Er.d) n=some (iJ es n).d:=by
  rw [f7 (j:=n.toNat) (by omega),List.getElem?_map,lM h0 h1]; rfl
theorem rj {ns:List Int} {n:Int} (h0:0≤n) (h1:n < ns.length):atI (ns.map PyData.int) n=some (.int (ns.getD n.toNat 0)):=by
  rw [f7 (j:=n.toNat) (by omega),List.getElem?_map,List.getD_eq_getElem?_getD,List.getElem?_eq_getElem (by omega)]; rfl
theorem ur (p:Int × Option Int):dIx (a7 p) (.int 0)=some (.int p.1):=rfl
theorem uD (p:Int × Option Int):dIx (a7 p) (.int 1)=some (bp p.2):=rfl
theorem vL (e:Er):dIx e.d (.int 3)=some (.tuple (e.parts.map a7)):=rfl
end RS
set_option maxRecDepth 100000
set_option maxHeartbeats 1000000
namespace RS
open PySem L2
theorem rangeSize_down (n:Nat):Builtin.Range.rangeSize ((n:Int) - 1) (-1) (-1)=n:=by
  unfold Builtin.Range.rangeSize
  rw [if_neg (by decide)]
  split
  · simp
  · omega
theorem p6 (n:Nat) (h:n≤1000):qF [.int ((n:Int) - 1),.int (-1),.int (-1)]=.ok (dM ((n:Int) - 1) (-1) n):=by
  have hs:Builtin.Range.small ((n:Int) - 1) (-1) (-1)=true:=by
    unfold Builtin.Range.small
    rw [rangeSize_down]
    simp [Builtin.Range.rangeFitsLong]
    omega
  have ho:iY ((n:Int) - 1) (-1) (-1)=true:=by
    unfold iY
    rw [hs,Bool.and_true]
    exact decide_eq_true (by omega)
  unfold qF
  simp only [ho,if_true]
  unfold nN
  rw [rangeSize_down]
  rfl
noncomputable def aB:Gf
  | [d,r]=>if ju d && a9 (bY d).length r then .ok (.list ((List.range 4).map fun (t:Nat)=>bp (cf (bY d) (cx r) t))) else .no
  | _=>.no
theorem dZ {es:List Er} {rs:List Int} (h1:es.length≤100) (h:∀ e∈es,e.Sh) (hr:iC es.length rs):aB [bj es,aY rs]=.ok (.list ((List.range 4).map fun (t:Nat)=>bp (cf es rs t))):=by
  unfold aB; simp [jw h1 h,g0,eX hr,gN]
noncomputable def jj (k:Int) (L:List PyData) (p:Int × Option Int):List PyData:=match p.2 with
  | some t=>L.set t.toNat (.int k)
  | none=>L
theorem i7 (k:Int) (L:List PyData) (p:Int × Option Int):(jj k L p).length=L.length:=by unfold jj; split <;> simp
theorem jX (k:Int):∀ (ps:List (Int × Option Int)) (L:List PyData),(ps.foldl (jj k) L).length=L.length
  | [],L=>rfl
  | p::r,L=>by rw [List.foldl_cons,jX k r,i7]
theorem km (k:Int):∀ (ps:List (Int × Option Int)) (L:List PyData) (t:Nat),(∀ p∈ps,∀ t,p.2=some t→0≤t∧t≤3)→t < L.length→(ps.foldl (jj k) L)[t]?=if ps.any (fun p=>p.2 == some (t:Int)) then some (.int k) else L[t]?
  | [],L,t,_,_=>rfl
  | p::r,L,t,h,hl=>by
    rw [List.foldl_cons,km k r _ t (fun q hq=>h q (List.mem_cons_of_mem _ hq)) (by rw [i7]; exact hl)]
    rw [List.any_cons]
    cases hr:r.any (fun p=>p.2 == some (t:Int)) with
    | true=>simp
    | false =>
      obtain ⟨l,o⟩:=p
      cases o with
      | none=>simp [jj]
      | some u =>
        have hu:=h (l,some u) List.mem_cons_self u rfl
        simp only [Bool.false_eq_true,if_false,Bool.or_false,jj]
        by_cases z:u=(t:Int)
        · subst z
          simp [hl]
        · rw [List.getElem?_set_ne (by omega)]
          have:(some u == some (t:Int))=false:=by simpa using z
          rw [this]; rfl
theorem fV (E R:PyData) (k:Int):∀ (ps:List (Int × Option Int)) (L:List PyData) (x4 x5:Option PyData),L.length=4→(∀ p∈ps,∀ t,p.2=some t→0≤t∧t≤3) →
    ∃ y4 y5,forL (fM [4,5]) (sIf (gT (g1 j9 (ai 5))) (jQ 2 (ai 5) (ai 3)) b3) (ps.map a7) [some E,some R,some (.list L),some (.int k),x4,x5]=.nx [some E,some R,some (.list (ps.foldl (jj k) L)),some (.int k),y4,y5]
  | [],L,x4,x5,_,_=>⟨x4,x5,rfl⟩
  | p::r,L,x4,x5,hL,h=>by
    obtain ⟨y4,y5,e⟩:=fV E R k r (jj k L p) (some (.int p.1)) (some (bp p.2)) (by rw [i7]; exact hL) (fun q hq=>h q (List.mem_cons_of_mem _ hq))
    refine ⟨y4,y5,?_⟩
    rw [List.map_cons,List.foldl_cons]
    unfold forL
    obtain ⟨l,o⟩:=p
    cases o with
    | none =>
      simp [a7,fM,fB,bp]
      simpa [jj,bp] using e
    | some u =>
      have hu:=h (l,some u) List.mem_cons_self u rfl
      have hx:ixN L.length u=some u.toNat:=by unfold ixN; rw [if_pos hu.1,if_pos (by omega)]
      have nl:c0 (.int k)=true:=by unfold c0; rfl
      simp [a7,fM,fB,bp,jQ,hx,nl]
      simpa [jj,bp] using e
theorem rK (es:List Er) (rs:List Int) (k:Nat) (t:Int) (h:k < rs.length):hts es (rs.drop k) k t=if (iJ es (rs.getD k 0)).has t then some (k:Int) else hts es (rs.drop (k + 1)) ((k + 1:Nat):Int) t:=by
  rw [List.drop_eq_getElem_cons h]
  show (if _ then _ else _)=_
  rw [List.getD_eq_getElem?_getD,List.getElem?_eq_getElem h]
  simp
theorem jV (cs:Cs):∀ ds,ds.length=2→aB ds≠.no→bz (cC cs (ds.map some++List.replicate 4 none))=aB ds:=by
  intro ds hl hne
  obtain ⟨d,r,rfl⟩:∃ d r,ds=[d,r]:=by
    match ds,hl with
    | [d,r],_=>exact ⟨d,r,rfl⟩
  unfold aB at hne
  simp only at hne
  split at hne
  · rename_i hc
    rw [Bool.and_eq_true] at hc
    obtain ⟨e1,hlen,hsh⟩:=nK hc.1
    obtain ⟨e2,hr⟩:=gI hc.2
    rw [← e1,← e2]
    generalize bY d=es at *
    generalize cx r=rs at *
    rw [dZ hlen hsh hr]
    have hn:=hr.len
    -- the outer loop
    have outer:∃ δ',forL (e9 3) (lh [2] (gE (g2 dIx (g2 dIx (ai 0) (g2 dIx (ai 1) (ai 3))) (gC (.int 3)))) (fM [4,5]) (sIf (gT (g1 j9 (ai 5))) (jQ 2 (ai 5) (ai 3)) b3))
        (dM ((rs.length:Int) - 1) (-1) rs.length) [some (bj es),some (aY rs),some (.list [.none,.none,.none,.none]),none,none,none]=.nx δ' ∧
        (∃ x3 x4 x5,δ'=[some (bj es),some (aY rs),some (.list ((List.range 4).map fun (t:Nat)=>bp (hts es (rs.drop (rs.length - (0 + (dM ((rs.length:Int) - 1) (-1) rs.length).length))) (((rs.length - (0 + (dM ((rs.length:Int) - 1) (-1) rs.length).length):Nat):Int)) t))),x3,x4,x5]):=by
      refine eU (β:=Unit) (fun i δ=>∃ x3 x4 x5,δ=[some (bj es),some (aY rs),some (.list ((List.range 4).map fun (t:Nat)=>bp (hts es (rs.drop (rs.length - i)) ((rs.length - i:Nat):Int) t))),x3,x4,x5]) _ 0 ?_ _ ⟨none,none,none,?_⟩
      · rintro i dd δ hi ⟨x3,x4,x5,rfl⟩
        rw [Nat.zero_add] at *
        have hil:i < rs.length:=by
          have:=(List.getElem?_eq_some_iff.mp hi).1
          rwa [dF] at this
        have hdd:dd=.int (((rs.length - (i + 1):Nat):Int)):=by
          unfold dM at hi
          rw [List.getElem?_map,List.getElem?_range hil] at hi
          simp at hi
          rw [← hi]; congr 1; omega
        subst hdd
        generalize hk:rs.length - (i + 1)=k at *
        have hki:rs.length - i=k + 1:=by omega
        rw [hki]
        have hkl:k < rs.length:=by omega
        have hrk:=hr.rng (rs.getD k 0) (by rw [List.getD_eq_getElem?_getD,List.getElem?_eq_getElem hkl]; exact List.getElem_mem hkl)
        have hsk:=hsh _ (lH hrk.1 (by omega))
        obtain ⟨y4,y5,e⟩:=fV (bj es) (aY rs) k (iJ es (rs.getD k 0)).parts ((List.range 4).map fun (t:Nat)=>bp (hts es (rs.drop (k + 1)) ((k + 1:Nat):Int) t)) x4 x5 (by simp) (fun p hp=>(hsk.pl p hp).2.2)
        have a1:atI (rs.map PyData.int) (k:Int)=some (.int (rs.getD k 0)):=by rw [rj (by omega) (by omega)]; simp
        have a2:atI (es.map Er.d) (rs.getD k 0)=some (iJ es (rs.getD k 0)).d:=oq hrk.1 (by omega)
        refine ⟨[some (bj es),some (aY rs),some (.list ((List.range 4).map fun (t:Nat)=>bp (hts es (rs.drop (k + 1)) ((k + 1:Nat):Int) t))),some (.int k),x4,x5],_,by simp [e9],?_,some (.int k),y4,y5,rfl⟩
        rw [jE]
        have src:gE (g2 dIx (g2 dIx (ai 0) (g2 dIx (ai 1) (ai 3))) (gC (.int 3))) (mask [2] [some (bj es),some (aY rs),some (.list ((List.range 4).map fun (t:Nat)=>bp (hts es (rs.drop (k + 1)) ((k + 1:Nat):Int) t))),some (.int (k:Int)),x4,x5])=.ok ((iJ es (rs.getD k 0)).parts.map a7):=by
          simp only [uF,dR,aE (show 0 ∉ [2] by decide),aE (show 1 ∉ [2] by decide),aE (show 3 ∉ [2] by decide),aM,aR,eH,Rs.aq]
          simp only [bj,aY,qd,a1,a2,vL,Rs.az,Rs.aq,t9]
        rw [src,aW,e]
        have hL:(iJ es (rs.getD k 0)).parts.foldl (jj k) ((List.range 4).map fun (t:Nat)=>bp (hts es (rs.drop (k + 1)) ((k + 1:Nat):Int) t))=(List.range 4).map fun (t:Nat)=>bp (hts es (rs.drop k) k t):=?hL
        rw [hL]
        case hL =>
        apply List.ext_getElem?
        intro t
        by_cases ht:t < 4
        · rw [km _ _ _ _ (fun p hp=>(hsk.pl p hp).2.2) (by simpa using ht),List.getElem?_map,List.getElem?_map,List.getElem?_range ht]
          rw [Option.map_some,Option.map_some,rK es rs k t hkl]
          unfold Er.has
          split <;> rfl
        · rw [List.getElem?_eq_none (by rw [jX]; simp; omega),List.getElem?_eq_none (by simp; omega)]
      · simp [hts]; rfl
    rw [dF,Nat.zero_add,Nat.sub_self] at outer
    obtain ⟨δ',e,x3,x4,x5,rfl⟩:=outer
    have r3:=p6 rs.length (by omega)
    have hown:gq [2] 2 (af (gC .none) (af (gC .none) (af (gC .none) (af (gC .none) au)))) [some (bj es),some (aY rs),none,none,none,none]=.nx [some (bj es),some (aY rs),some (.list [.none,.none,.none,.none]),none,none,none]:=rfl
    have src:ou (af (g2 gY (gF dm (af (ai 1) au)) (gC (.int 1))) (af (g1 de (gC (.int 1))) (af (g1 de (gC (.int 1))) au))) (mask [2] [some (bj es),some (aY rs),some (.list [.none,.none,.none,.none]),none,none,none])=.ok (dM ((rs.length:Int) - 1) (-1) rs.length):=by
      simp only [sY,aU,bc,dR,sZ,jS,aE (show 1 ∉ [2] by decide),aM,aR,eH,Rs.aq,aY,kG,Rs.az,oQ,oN,List.length_map]
      exact r3
    show bz (cC cs [some (bj es),some (aY rs),none,none,none,none])=_
    simp only [cC,bN,hown,jE,src,aW]
    rw [e]
    simp [cf]
  · exact absurd rfl hne
end RS
set_option maxRecDepth 100000
set_option maxHeartbeats 1000000
namespace RS
open PySem L2
@[simp] theorem xj (go ga:Ds→Rs PyData) (δ:Ds):xk go ga δ=(go δ).bind fun d=>match d with | .tuple xs=>(ga δ).bind fun y=>Rs.c7 (qV xs y) | _=>.no:=rfl
theorem qH {xs:List PyData} {k:Nat}:cutD xs (some (k:Int)) none=xs.drop k:=by
  unfold cutD
  have e1:HT.sIx xs.length 0 (some (k:Int))=min k xs.length:=HT.oz _ _ _
  have e2:HT.sIx xs.length xs.length none=xs.length:=rfl
  rw [e1,e2]
  by_cases h:k≤xs.length
  · rw [Nat.min_eq_left h]; exact List.take_of_length_le (by simp)
  · rw [Nat.min_eq_right (by omega),List.drop_of_length_le (Nat.le_refl _),List.drop_of_length_le (by omega)]; simp
theorem uX {xs:List PyData} {k:Nat}:cutD xs none (some (k:Int))=xs.take k:=by
  unfold cutD
  have e1:HT.sIx xs.length 0 none=0:=rfl
  have e2:HT.sIx xs.length xs.length (some (k:Int))=min k xs.length:=HT.oz _ _ _
  rw [e1,e2]
  simp
end RS
set_option maxRecDepth 100000
set_option maxHeartbeats 1000000
namespace RS
open PySem L2
theorem qG {a b:Int} (h1:-(2 ^ 64) < a) (h2:a < 2 ^ 64):l7 (.int a) (.int b)=some (.int (a * b)):=by
  show (if _ then _ else _)=_
  rw [if_pos (.inl ⟨h1,h2⟩)]
end RS
set_option maxRecDepth 100000
set_option maxHeartbeats 1000000
namespace RS
open PySem L2
noncomputable def cO:PyData→Option (List Int)
  | .dict [(.none,.list l)]=>fX l
  | _=>none
theorem cX (ns:List Int):cO (ao ns)=some ns:=ic ns
noncomputable def ag:Gf
  | [s,.int k,.int many]=>(match cO s with
    | some ns=>if 0≤k∧0 < many then .ok (.int (mixed ns k many)) else .no
    | none=>.no)
  | _=>.no
theorem bG {ns:List Int} {k many:Int} (h1:0≤k) (h2:0 < many):ag [ao ns,.int k,.int many]=.ok (.int (mixed ns k many)):=by
  unfold ag; simp [cX,h1,h2]
theorem fD (O:List Nat) (i:Nat) (g:Ds→Rs PyData) (δ:Ds):cU O i g δ=if i < δ.length then ofR (g (mask O δ)) fun d=>.nx (δ.set i (some d)) else .no:=rfl
noncomputable def aO:Gf
  | [s,.int a,.int top,.bool tools]=>(match cO s with
    | some ns=>if 0≤a∧0 < top∧top≤58 then .ok (mkE ns a top tools).d else .no
    | none=>.no)
  | _=>.no
theorem eJ {ns:List Int} {a top:Int} {tools:Bool} (h1:0≤a) (h2:0 < top) (h3:top≤58):aO [ao ns,.int a,.int top,.bool tools]=.ok (mkE ns a top tools).d:=by
  unfold aO; simp [cX,h1,h2,h3]
theorem pz (o:Option Int):c0 (bp o)=true:=by cases o <;> (unfold bp c0; rfl)
theorem mH (p:Int × Option Int):c0 (a7 p)=true:=by
  unfold a7 c0 gr
  rw [show c0 (.int p.1)=true by unfold c0; rfl]
  unfold gr
  rw [pz]
  unfold gr
  rfl
theorem qw {i:Int} (h0:0≤i) (h1:i < 5):atI [PyData.int 0,PyData.int 1,PyData.int 1,PyData.int 0,PyData.none] i=some (bp (fY i)):=by
  have:i=0∨i=1∨i=2∨i=3∨i=4:=by omega
  rcases this with rfl | rfl | rfl | rfl | rfl <;> rfl
theorem lF (ns:List Int) (a top:Int) (tools:Bool) (ev la du:PyData) (ha:0≤a) (L:List PyData) (hL:L.length < 1000) (i:Nat) (x8 x9:Option PyData) :
    bL (cU [7] 9 (aG ag (af (ai 0) (af (g2 bb (g2 bb (ai 1) (gC (.int 4))) (ai 8)) (af (gC (.int 40)) au)))))
    (bL (nj [7] 7 (dG (af (g2 bb (gC (.int 1)) (g2 jL (ai 9) (gC (.int 4)))) (af (g2 dIx (ly (af (gC (.int 0)) (af (gC (.int 1)) (af (gC (.int 1)) (af (gC (.int 0)) (af (gC .none) au)))))) (g2 jL (g2 o1 (ai 9) (gC (.int 4))) (gC (.int 5)))) au))))
    (sIf (fG (gT (ai 3))) (jQ 7 (g1 de (gC (.int 1))) (dG (af (g2 dIx (g2 dIx (ai 7) (g1 de (gC (.int 1)))) (gC (.int 0))) (af (gC .none) au)))) b3))
      [some (ao ns),some (.int a),some (.int top),some (.bool tools),some ev,some la,some du,some (.list L),some (.int (0 + (i:Int))),x9]
   =.nx [some (ao ns),some (.int a),some (.int top),some (.bool tools),some ev,some la,some du,some (.list (L++[a7 (cE ns (a + 4 + (i:Int)) tools)])),some (.int (0 + (i:Int))),some (.int (mixed ns (a + 4 + (0 + (i:Int))) 40))]:=by
  have hm:=bG (ns:=ns) (k:=a + 4 + (0 + (i:Int))) (many:=40) (by omega) (by decide)
  have m0:=bD ns (a + 4 + (0 + (i:Int))) (many:=40) (by decide)
  have m1:=bK ns (a + 4 + (0 + (i:Int))) (many:=40) (by decide)
  have ek:a + 4 + (0 + (i:Int))=a + 4 + (i:Int):=by omega
  generalize hc:mixed ns (a + 4 + (0 + (i:Int))) 40=c at *
  have q1:0≤c / 4 % 5:=Int.emod_nonneg _ (by decide)
  have q2:c / 4 % 5 < 5:=Int.emod_lt_of_pos _ (by decide)
  have t5:=qw q1 q2
  have hp:cE ns (a + 4 + (i:Int)) tools=(1 + c % 4,if tools then fY (c / 4 % 5) else none):=by unfold cE; rw [← ek,hc]
  have s1:cU [7] 9 (aG ag (af (ai 0) (af (g2 bb (g2 bb (ai 1) (gC (.int 4))) (ai 8)) (af (gC (.int 40)) au)))) [some (ao ns),some (.int a),some (.int top),some (.bool tools),some ev,some la,some du,some (.list L),some (.int (0 + (i:Int))),x9]
     =.nx [some (ao ns),some (.int a),some (.int top),some (.bool tools),some ev,some la,some du,some (.list L),some (.int (0 + (i:Int))),some (.int c)]:=by
    rw [fD,if_pos (by simp)]
    simp only [bI,aU,bc,dR,aE (show 0 ∉ [7] by decide),aE (show 1 ∉ [7] by decide),aE (show 8 ∉ [7] by decide),aM,aR,eH,Rs.aq,fh,Rs.az,hm,aW]
    rfl
  have s2:nj [7] 7 (dG (af (g2 bb (gC (.int 1)) (g2 jL (ai 9) (gC (.int 4)))) (af (g2 dIx (ly (af (gC (.int 0)) (af (gC (.int 1)) (af (gC (.int 1)) (af (gC (.int 0)) (af (gC .none) au)))))) (g2 jL (g2 o1 (ai 9) (gC (.int 4))) (gC (.int 5)))) au)))
      [some (ao ns),some (.int a),some (.int top),some (.bool tools),some ev,some la,some du,some (.list L),some (.int (0 + (i:Int))),some (.int c)]
     =.nx [some (ao ns),some (.int a),some (.int top),some (.bool tools),some ev,some la,some du,some (.list (L++[a7 (1 + c % 4,fY (c / 4 % 5))])),some (.int (0 + (i:Int))),some (.int c)]:=by
    unfold nj
    simp only [List.getElem?_cons_succ,List.getElem?_cons_zero]
    simp only [jG,nO,aU,bc,dR,aE (show 9 ∉ [7] by decide),aM,aR,eH,Rs.aq,fh,Rs.az,vW,v3,if_pos (show (0:Int) < 4 by decide),if_pos (show (0:Int) < 5 by decide),if_pos (show (0:Int) < 4∧(4:Int) < 1073741824 by decide),qk,t5,aW,if_pos (show L.length < 1000000 by omega)]
    rfl
  rw [bN,s1]
  simp only
  rw [bN,s2]
  simp only
  cases tools with
  | true =>
    rw [hp]
    simp
  | false =>
    rw [hp]
    have hl:atI (L++[a7 (1 + c % 4,fY (c / 4 % 5))]) (-1)=some (a7 (1 + c % 4,fY (c / 4 % 5))):=by rw [ib]; simp
    have hx:ixN (L++[a7 (1 + c % 4,fY (c / 4 % 5))]).length (-1)=some L.length:=by
      unfold ixN
      rw [if_neg (by decide),List.length_append,List.length_singleton,if_pos (by omega)]
      congr 1; omega
    have hs:(L++[a7 (1 + c % 4,fY (c / 4 % 5))]).set L.length (.tuple [.int (1 + c % 4),.none])=L++[a7 (1 + c % 4,none)]:=by
      rw [List.set_append_right _ _ (Nat.le_refl _)]; simp; rfl
    have nl:c0 (.tuple [.int (1 + c % 4),.none])=true:=mH (1 + c % 4,none)
    rw [oM]
    simp only [uj,sV,aM,aR,Rs.aq,iR,aW,Bool.not_false,if_true]
    unfold jQ
    simp only [List.getElem?_cons_succ,List.getElem?_cons_zero,jG,aU,bc,dR,sZ,aM,aR,eH,Rs.aq,oN,Rs.az,qk,hl,ur,aW,hx,nl,if_true,hs]
    rfl
end RS
set_option maxRecDepth 100000
set_option maxHeartbeats 1000000
namespace RS
open PySem L2
theorem iV {j:Int} (h0:0≤j) (h1:j < 1000000):rW [.int j]=.ok (bx 0 j.toNat):=by
  show (if _ then _ else _)=_
  rw [if_pos (by omega)]
theorem e7 {lo:Int} {n i:Nat} {d:PyData} (h:(bx lo n)[i]?=some d):i < n∧d=.int (lo + (i:Int)):=by
  have hi:=(List.getElem?_eq_some_iff.mp h).1
  rw [b7] at hi
  unfold bx at h
  rw [List.getElem?_map,List.getElem?_range hi] at h
  exact ⟨hi,(Option.some.inj h).symm⟩
theorem jk {α:Type} (n:Nat) (g:Nat→α):(List.range (n + 1)).map g=(List.range n).map g++[g n]:=by rw [List.range_succ,List.map_append]; rfl
theorem kJ (cs:Cs):∀ ds,ds.length=4→aO ds≠.no→bz (cN cs ag (ds.map some++List.replicate 6 none))=aO ds:=by
  intro ds hl hne
  unfold aO at hne
  split at hne
  · rename_i s a top tools
    split at hne
    · rename_i ns hs
      have es:s=ao ns:=by
        unfold cO at hs
        split at hs
        · rename_i l
          rw [eW hs]; rfl
        · cases hs
      subst es
      split at hne
      · rename_i hc
        obtain ⟨ha,ht,ht2⟩:=hc
        rw [eJ ha ht ht2]
        show bz (cN cs ag [some (ao ns),some (.int a),some (.int top),some (.bool tools),none,none,none,none,none,none])=_
        have hm:∀ k many:Int,0≤k→0 < many→ag [ao ns,.int k,.int many]=.ok (.int (mixed ns k many)):=fun k many h1 h2=>bG h1 h2
        have a1:=bD ns a ht
        have lb:=mn ns a (3 + mixed ns a top) (by omega)
        have b1:=bD ns (a + 1) (many:=4) (by decide)
        have b2:=bK ns (a + 1) (many:=4) (by decide)
        have n1:=bD ns (a + 3) (many:=3) (by decide)
        have n2:=bK ns (a + 3) (many:=3) (by decide)
        have c1:=bD ns (a + 6) (many:=3) (by decide)
        have c2:=bK ns (a + 6) (many:=3) (by decide)
        -- every
        have s1:cU [7] 4 (g2 bb (gC (.int 3)) (aG ag (af (ai 0) (af (ai 1) (af (ai 2) au))))) [some (ao ns),some (.int a),some (.int top),some (.bool tools),none,none,none,none,none,none]
           =.nx [some (ao ns),some (.int a),some (.int top),some (.bool tools),some (.int (3 + mixed ns a top)),none,none,none,none,none]:=by
          rw [fD,if_pos (by simp)]
          simp only [bI,aU,bc,dR,aE (show 0 ∉ [7] by decide),aE (show 1 ∉ [7] by decide),aE (show 2 ∉ [7] by decide),aM,aR,eH,Rs.aq,hm a top ha ht,fh,Rs.az,aW]
          rfl
        generalize hev:3 + mixed ns a top=ev at *
        have evp:3≤ev:=by omega
        have s2:cU [7] 5 (g2 l7 (aG ag (af (ai 0) (af (g2 bb (ai 1) (gC (.int 1))) (af (gC (.int 4)) au)))) (gF oX (af (g2 dEq (aG ag (af (ai 0) (af (g2 bb (ai 1) (gC (.int 2))) (af (gC (.int 3)) au)))) (gC (.int 0))) au))) [some (ao ns),some (.int a),some (.int top),some (.bool tools),some (.int ev),none,none,none,none,none]
           =.nx [some (ao ns),some (.int a),some (.int top),some (.bool tools),some (.int ev),some (.int (mixed ns (a + 1) 4 * (if mixed ns (a + 2) 3=0 then 1 else 0))),none,none,none,none]:=by
          rw [fD,if_pos (by simp)]
          simp only [bI,aU,bc,dR,jS,aE (show 0 ∉ [7] by decide),aE (show 1 ∉ [7] by decide),aM,aR,eH,Rs.aq,fh,Rs.az,hm (a + 1) 4 (by omega) (by decide),hm (a + 2) 3 (by omega) (by decide),tW,uA]
          rw [qG (by omega) (by omega)]
          simp only [Rs.az,aW,beq_iff_eq]
          rfl
        have s3:cU [7] 5 (gF i5 (af (ai 5) (af (g2 gY (ai 4) (gC (.int 1))) au))) [some (ao ns),some (.int a),some (.int top),some (.bool tools),some (.int ev),some (.int (mixed ns (a + 1) 4 * (if mixed ns (a + 2) 3=0 then 1 else 0))),none,none,none,none]
           =.nx [some (ao ns),some (.int a),some (.int top),some (.bool tools),some (.int ev),some (.int (eu ns a ev)),none,none,none,none]:=by
          rw [fD,if_pos (by simp)]
          simp only [jS,aU,bc,dR,aE (show 4 ∉ [7] by decide),aE (show 5 ∉ [7] by decide),aM,aR,eH,Rs.aq,oQ,Rs.az,vb,aW]
          rfl
        generalize hla:eu ns a ev=la at *
        have s4:cU [7] 6 (g2 gY (ai 4) (ai 5)) [some (ao ns),some (.int a),some (.int top),some (.bool tools),some (.int ev),some (.int la),none,none,none,none]
           =.nx [some (ao ns),some (.int a),some (.int top),some (.bool tools),some (.int ev),some (.int la),some (.int (ev - la)),none,none,none]:=by
          rw [fD,if_pos (by simp)]
          simp only [dR,aE (show 4 ∉ [7] by decide),aE (show 5 ∉ [7] by decide),aM,aR,Rs.aq,oQ,Rs.az,aW]
          rfl
        have s5:sIf (gT (g2 dEq (aG ag (af (ai 0) (af (g2 bb (ai 1) (gC (.int 1))) (af (gC (.int 3)) au)))) (gC (.int 0)))) (cU [7] 6 (g2 gY (ai 6) (aG ag (af (ai 0) (af (g2 bb (ai 1) (gC (.int 2))) (af (ai 6) au)))))) b3
              [some (ao ns),some (.int a),some (.int top),some (.bool tools),some (.int ev),some (.int la),some (.int (ev - la)),none,none,none]
           =.nx [some (ao ns),some (.int a),some (.int top),some (.bool tools),some (.int ev),some (.int la),some (.int (iH ns a (ev - la))),none,none,none]:=by
          rw [oM]
          simp only [sV,dR,bI,aU,bc,aM,aR,eH,Rs.aq,fh,Rs.az,hm (a + 1) 3 (by omega) (by decide),tW,iR,aW]
          by_cases z:mixed ns (a + 1) 3=0
          · rw [if_pos (by simp [z]),fD,if_pos (by simp)]
            simp only [bI,aU,bc,dR,aE (show 0 ∉ [7] by decide),aE (show 1 ∉ [7] by decide),aE (show 6 ∉ [7] by decide),aM,aR,eH,Rs.aq,fh,Rs.az,hm (a + 2) (ev - la) (by omega) (by omega),oQ,aW]
            unfold iH
            rw [if_pos z]
            rfl
          · rw [if_neg (by simp [z])]
            unfold iH
            rw [if_neg z]
            rfl
        generalize hdu:iH ns a (ev - la)=du at *
        have s6:gq [7] 7 au [some (ao ns),some (.int a),some (.int top),some (.bool tools),some (.int ev),some (.int la),some (.int du),none,none,none]
           =.nx [some (ao ns),some (.int a),some (.int top),some (.bool tools),some (.int ev),some (.int la),some (.int du),some (.list []),none,none]:=rfl
        have src:fZ (af (aG ag (af (ai 0) (af (g2 bb (ai 1) (gC (.int 3))) (af (gC (.int 3)) au)))) au) (mask [7] [some (ao ns),some (.int a),some (.int top),some (.bool tools),some (.int ev),some (.int la),some (.int du),some (.list []),none,none])=.ok (bx 0 (mixed ns (a + 3) 3).toNat):=by
          simp only [iW,bI,aU,bc,dR,aE (show 0 ∉ [7] by decide),aE (show 1 ∉ [7] by decide),aM,aR,eH,Rs.aq,fh,Rs.az,hm (a + 3) 3 (by omega) (by decide)]
          exact iV n1 (by omega)
        obtain ⟨δ',e,x8,x9,hδ⟩:=eU (β:=Unit) (tgt:=e9 8) (body:=bL (cU [7] 9 (aG ag (af (ai 0) (af (g2 bb (g2 bb (ai 1) (gC (.int 4))) (ai 8)) (af (gC (.int 40)) au)))))
    (bL (nj [7] 7 (dG (af (g2 bb (gC (.int 1)) (g2 jL (ai 9) (gC (.int 4)))) (af (g2 dIx (ly (af (gC (.int 0)) (af (gC (.int 1)) (af (gC (.int 1)) (af (gC (.int 0)) (af (gC .none) au)))))) (g2 jL (g2 o1 (ai 9) (gC (.int 4))) (gC (.int 5)))) au))))
    (sIf (fG (gT (ai 3))) (jQ 7 (g1 de (gC (.int 1))) (dG (af (g2 dIx (g2 dIx (ai 7) (g1 de (gC (.int 1)))) (gC (.int 0))) (af (gC .none) au)))) b3)))
          (fun i δ=>∃ x8 x9,δ=[some (ao ns),some (.int a),some (.int top),some (.bool tools),some (.int ev),some (.int la),some (.int du),some (.list ((List.range i).map fun (k:Nat)=>a7 (cE ns (a + 4 + (k:Int)) tools))),x8,x9])
          (bx 0 (mixed ns (a + 3) 3).toNat) 0 (fun i d δ hi ⟨x8,x9,hx⟩=>by
            subst hx
            rw [Nat.zero_add] at *
            obtain ⟨hil,rfl⟩:=e7 hi
            refine ⟨[some (ao ns),some (.int a),some (.int top),some (.bool tools),some (.int ev),some (.int la),some (.int du),some (.list ((List.range i).map fun (k:Nat)=>a7 (cE ns (a + 4 + (k:Int)) tools))),some (.int (0 + (i:Int))),x9],_,rfl,lF ns a top tools (.int ev) (.int la) (.int du) ha _ (by simp; omega) i none x9,some (.int (0 + (i:Int))),some (.int (mixed ns (a + 4 + (0 + (i:Int))) 40)),?_⟩
            rw [jk]) [some (ao ns),some (.int a),some (.int top),some (.bool tools),some (.int ev),some (.int la),some (.int du),some (.list []),none,none] ⟨none,none,rfl⟩
        subst hδ
        rw [Nat.zero_add,b7] at e
        have hd:(mkE ns a top tools).d=.tuple [.int ev,.int du,.int la,.tuple (((List.range (mixed ns (a + 3) 3).toNat).map fun (k:Nat)=>a7 (cE ns (a + 4 + (k:Int)) tools))++[a7 (1 + mixed ns (a + 6) 3,none)])]:=by
          simp only [mkE,Er.d,List.map_append,List.map_map,hev,hla,hdu]
          rfl
        rw [hd]
        simp only [cN]
        rw [bN,s1]; simp only
        rw [bN,s2]; simp only
        rw [bN,s3]; simp only
        rw [bN,s4]; simp only
        rw [bN,s5]; simp only
        rw [bN,s6]; simp only
        rw [bN,jE,src,aW,e]; simp only
        simp only [fm,jG,nO,aU,bc,dR,jS,bI,aM,aR,eH,Rs.aq,fh,Rs.az,hm (a + 6) 3 (by omega) (by decide)]
        have hcat:bb (.list ((List.range (mixed ns (a + 3) 3).toNat).map fun (k:Nat)=>a7 (cE ns (a + 4 + (k:Int)) tools))) (.list [.tuple [.int (1 + mixed ns (a + 6) 3),.none]])=some (.list (((List.range (mixed ns (a + 3) 3).toNat).map fun (k:Nat)=>a7 (cE ns (a + 4 + (k:Int)) tools))++[a7 (1 + mixed ns (a + 6) 3,none)])):=by
          show (if _ then _ else _)=_
          rw [if_pos (by simp; omega)]
          rfl
        rw [hcat]
        simp
      · exact absurd rfl hne
    · exact absurd rfl hne
  · exact absurd rfl hne
noncomputable def aC:Gf
  | [s,.int a,.int most,.int top,.bool tools]=>(match cO s with
    | some ns=>if 0≤a∧0 < most∧most≤6∧0 < top∧top≤58 then .ok (bj (i3 ns a most top tools)) else .no
    | none=>.no)
  | _=>.no
theorem d4 {ns:List Int} {a most top:Int} {tools:Bool} (h1:0≤a) (h2:0 < most) (h3:most≤6) (h4:0 < top) (h5:top≤58):aC [ao ns,.int a,.int most,.int top,.bool tools]=.ok (bj (i3 ns a most top tools)):=by
  unfold aC; simp [cX,h1,h2,h3,h4,h5]
theorem dW {s:PyData} {ns:List Int} (hs:cO s=some ns):s=ao ns:=by
  unfold cO at hs
  split at hs
  · rename_i l
    rw [eW hs]; rfl
  · cases hs
theorem jM (cs:Cs):∀ ds,ds.length=5→aC ds≠.no→bz (cy cs aO ag (ds.map some++List.replicate 1 none))=aC ds:=by
  intro ds hl hne
  unfold aC at hne
  split at hne
  · rename_i s a most top tools
    split at hne
    · rename_i ns hs
      have es:=dW hs
      subst es
      split at hne
      · rename_i hc
        obtain ⟨ha,hm1,hm2,ht,ht2⟩:=hc
        rw [d4 ha hm1 hm2 ht ht2]
        have hm:=bG (ns:=ns) ha hm1
        have m1:=bD ns a hm1
        have m2:=bK ns a hm1
        have hcm:da 6 (fZ (af (ai 5) au)) cB (aG aO (af (ai 0) (af (g2 bb (g2 bb (ai 1) (gC (.int 1))) (g2 l7 (gC (.int 7)) (ai 6))) (af (ai 3) (af (ai 4) au))))) cw
            [some (ao ns),some (.int a),some (.int most),some (.int top),some (.bool tools),some (.int (1 + mixed ns a most))]=.ok ((bx 0 (1 + mixed ns a most).toNat).map fun d=>(mkE ns (a + 1 + 7 * deI d) top tools).d) :=
          dA rfl (by simp only [iW,aU,bc,aM,aR,Rs.aq]; exact iV (by omega) (by omega)) (by rw [b7]; omega) fun d hd=>by
            obtain ⟨i,hi⟩:=List.getElem?_of_mem hd
            obtain ⟨_,rfl⟩:=e7 hi
            simp only [List.cons_append,List.nil_append,bI,aU,bc,dR,aM,aR,eH,Rs.aq,fh,Rs.az]
            rw [qG (by decide) (by decide)]
            simp only [Rs.az,Rs.aq,fh]
            exact eJ (by omega) ht ht2
        have hds:bj (i3 ns a most top tools)=.tuple ((bx 0 (1 + mixed ns a most).toNat).map fun d=>(mkE ns (a + 1 + 7 * deI d) top tools).d):=by
          unfold bj i3 bx
          rw [List.map_map,List.map_map]
          congr 1
          refine List.map_congr_left fun k _=>?_
          simp [deI]
        rw [hds]
        show bz (cy cs aO ag [some (ao ns),some (.int a),some (.int most),some (.int top),some (.bool tools),none])=_
        simp only [cy,bN,rX,List.length_cons,List.length_nil,Nat.reduceAdd,Nat.reduceLT,if_true,bI,aU,bc,dR,aM,aR,eH,Rs.aq,hm,fh,Rs.az,aW,List.set_cons_succ,List.set_cons_zero,fm,jS,uy,hcm,rH,eK]
      · exact absurd rfl hne
    · exact absurd rfl hne
  · exact absurd rfl hne
end RS
set_option maxRecDepth 100000
set_option maxHeartbeats 1000000
namespace RS
open PySem PySem.Spec PyProof.Rows L2
section
variable {P:Program} {w:World} {K:PySem.W.Frag} {mg:Str→Option Value} {base:Heap}
theorem sx {x qual:Str} {st:Stmt} {f:Addr} {fd:FuncData} {N ps:List Str} {k:Nat} {O:List Nat} {G:Ds→Sr} {gf:List PyData→Rs PyData} (F:Fun K x qual st f fd) (S:a6 N ps (ax st)) (hO:∀ i∈O,ps.length≤i)
    (body:∀ (cdv:Value) (A:Around) (outer:List Env) (s:Shared) (H:Hp) (E:XK),cY k (A.deeper (envOfC qual (ax st) s.heap.objs.size f cdv))→PBD (eC (CXW P w) P w K mg base N qual (ax st) f cdv A outer s H E) E O (cQ st) G)
    (hg:∀ ds,ds.length=ps.length→gf ds≠.no→bz (G (ds.map some++List.replicate (N.length - ps.length) none))=gf ds):fi P w K mg base (CXW P w) (k + 1) f fd ps (spD K ps.length gf):=by
  refine oR F S (fun vs H Q E h=>?_) (fun cdv A outer s H vs Q E hr h=>?_)
  · obtain ⟨A,ds,hA,hi,hl,o⟩:=h
    rw [hi.length,hl]
  · obtain ⟨A0,ds,hA,hi,hl,o⟩:=h
    refine ⟨_,body cdv A outer s H E hr,H,A0,[],_,bS.start hA hi hl hO,?_⟩
    have hg':=hg ds hl (fun z=>by rw [z] at o; exact o)
    cases q:G (ds.map some++List.replicate (N.length - ps.length) none) with
    | rt d=>rw [q] at hg'; rw [← hg'] at o; exact fun v H' s' hv=>o v H' s' hv
    | nx δ=>rw [q] at hg'; rw [← hg'] at o; exact fun A' σ H' R'=>o .non H' R'.same is_none
    | rz C=>rw [q] at hg'; rw [← hg'] at o; exact fun H' s'=>o H' s'
    | bk δ=>rw [q] at hg'; rw [← hg'] at o; exact o.elim
    | ct δ=>rw [q] at hg'; rw [← hg'] at o; exact o.elim
    | no=>rw [q] at hg'; rw [← hg'] at o; exact o.elim
theorem bg {h:Heap} {x:Str} {st:Stmt} {ps:List Str} {f:Addr} {oc:Value} {od an:Option Addr} {sl:Array (Option Value)} {kV dc pm cd ct:Value} (X:K.In h) (G:h.Ns mainGlobals mg)
    (hb:∀ (kV doc pm:Value) (an:Option Addr) (cdv ct:Value) (us:List Value),us.length=ps.length→bindArgs (PySem.W.fnOf x x (ff st) (cQ st) (ax st) .none kV doc pm an cdv ct) ⟨us,[]⟩=pure (ps.zip us))
    (a:PySem.W.nsIn K mainGlobals x=some (some (.ref f)))
    (l:K.lookup f=some ⟨oc,od,.func (PySem.W.fnOf x x (ff st) (cQ st) (ax st) .none kV dc pm an cd ct),sl⟩)
    (c:PySem.W.codeIn K cd x=true) (k:PySem.W.keepIn K (.ref f)=true):bf K mg x st ps :=
  have F:=uH (st:=st) l c k
  ⟨f,_,F,F.binds hb,PySem.W.mg_of X G a⟩
theorem kS {h:Heap} {x:Str} {C:Addr} (X:K.In h) (G:h.Ns mainGlobals mg) (a:PySem.W.nsIn K mainGlobals x=some (some (.ref C)))
    (e:PySem.W.excIn K C [.type "ValueError",.type "Exception",.type "BaseException",.type "object"] "ValueError.__new__"=true):kI K mg x C:=⟨PySem.W.mg_of X G a,e⟩
theorem eV {h:Heap} {x:Str} {n:Int} {t:_} (X:K.In h) (G:h.Ns mainGlobals mg) (a:PySem.W.nsIn K mainGlobals x=some (some (.int n t))):∃ t,mg x=some (.int n t):=⟨t,PySem.W.mg_of X G a⟩
end
noncomputable def dX (n:Nat):Gf
  | [s]=>(match cO s with
    | some ns=>if ns.length≤n then .ok (.bool true) else .no
    | none=>.no)
  | _=>.no
theorem _root_.L2.tabsIn_nil (e:L2.og=[]) {K:PySem.W.Frag} {h:Heap}:L2.jq K h:=⟨(fun P q ⟨x,m,_⟩=>by rw [e] at m; cases m),(fun P q q' ⟨x,m,_⟩ _=>by rw [e] at m; cases m)⟩
theorem vO {l:PySem.W.OpenLaw} {n k:Nat} {q:Program} {loose:List Str} {XP:(Str→Option Value)→Heap→Prop} {YP:World→Heap→Prop} {d:DefRec} {K:Params→PySem.W.Frag} {x:Str} {st:Stmt}
    (hn:l.most=some n) (hn2:n≤sizeLine) (hdf:d.params.defaults=[]) (hr:cY k callerA)
    (hY:∀ (w:World) (h:Heap),YP w h→(K w.params).In h)
    (hb:∀ (kV doc pm:Value) (an:Option Addr) (cdv ct:Value) (us:List Value),us.length=1→bindArgs (PySem.W.fnOf d.name d.name (ff st) (cQ st) (ax st) .none kV doc pm an cdv ct) ⟨us,[]⟩=pure ([x].zip us))
    (F:∀ (w:World) (mg:Str→Option Value) (h:Heap),(K w.params).In h→h.Ns mainGlobals mg→
      bf (K w.params) mg d.name st [x]∧∀ f fd,Fun (K w.params) d.name d.name st f fd→∀ base:Heap,(K w.params).In base→base.Ns mainGlobals mg→fi l.prog w (K w.params) mg base (CXW l.prog w) k f fd [x] (spD (K w.params) 1 (dX n)))
    (hTb:∀ (w:World) (h:Heap) (loose':List Str) (mean:ExcName→Option Value) (mg mb:Str→Option Value),PyProof.Rows.Top q loose' mean mg mb h→(K w.params).In h→L2.jq (K w.params) h:=by exact fun _ _ _ _ _ _ _ _=>L2.tabsIn_nil rfl) :
    PySem.W.WalkO q loose XP YP l.row.toRowW d [] (fun f vs=>PySem.call f vs) :=
  L2.oa (n:=n) (k:=k) (x:=x) (CX:=fun w=>CXW l.prog w) (sp:=fun w=>spD (K w.params) 1 (dX n)) hn hn2 hdf hr hY
    (fun w mg fa h X G hfa=>by
      obtain ⟨⟨f,fd,F1,b,m⟩,hF⟩:=F w mg h X G
      have e:=hfa.symm.trans m
      cases e
      refine ⟨fd,fun s u=>?_,hF fa fd F1⟩
      obtain ⟨oc,od,kV,doc,pm,an,cdv,ct,osl,rfl,lk,hcd⟩:=F1.ex
      exact .of_eq (hb kV doc pm an cdv ct [u] rfl))
    (fun w H a ns hl hO hS=>by
      refine ⟨[],[ao ns],?_,?_,rfl,?_⟩
      · exact Ls.nil
      · rw [oh]; exact ⟨_,[],rfl,o8 hS,rfl⟩
      · have eg:dX n [ao ns]=.ok (.bool true):=by unfold dX; simp [cX,hl]
        rw [eg]
        intro v H' _ hv
        rw [oh] at hv
        unfold Is at hv
        exact hv)
    (fun w H s e s' ⟨_,_,_,_,_,_,z,_⟩=>z) hTb
end RS
set_option maxRecDepth 100000
set_option maxHeartbeats 1000000
namespace RS
open PySem PySem.Spec PyProof.Rows L2
section
variable {P:Program} {w:World} {K:PySem.W.Frag} {mg:Str→Option Value} {base:Heap}
theorem oJ {α:Type} {xs:List α} {k:Int} {v:α} (h0:0≤k) (h:xs[k.toNat]?=some v):atI xs k=some v:=by
  have:=tE h
  rwa [Int.toNat_of_nonneg h0] at this
theorem depthAll_ints:∀ ns:List Int,PyData.depthAll (ns.map PyData.int)≤1
  | []=>by simp [PyData.depthAll]
  | n::r=>by
    have:=depthAll_ints r
    simp only [List.map_cons,PyData.depthAll,PyData.depth]
    omega
theorem iA:∀ ns:List Int,PyData.canLayAll0 (ns.map PyData.int)=true
  | []=>by simp [PyData.canLayAll0]
  | n::r=>by simp [PyData.canLayAll0,PyData.canLay0,iA r]
theorem shaped_ints (ns:List Int):SeqAt.shaped (.list (ns.map PyData.int))=true:=by
  have:=depthAll_ints ns
  have h2:(PyData.list (ns.map PyData.int)).depth≤64:=by
    simp only [PyData.depth]
    omega
  simp [SeqAt.shaped,PyData.canLay0,iA,h2]
theorem nM:SeqAt.shaped (.list [])=true:=shaped_ints []
theorem rn:∀ ns:List Int,PyData.eqv (.list (ns.map PyData.int)) (.list [])=decide (ns=[])
  | []=>by simp [PyData.eqv,PyData.eqvAll]
  | _::_=>by simp [PyData.eqv,PyData.eqvAll]
noncomputable def qW (K:PySem.W.Frag):Sp:=fun vs H Q _=>∃ (a:Addr) (ns:List Int) (k:Int),vs=[.ref a,.int k]∧SqL K H a (ns.map V.int)∧0≤k∧∀ H',av H H'→Q (.int (cellAt ns k)) H'
noncomputable def tK (K:PySem.W.Frag):Sp:=fun vs H Q _=>∃ (a:Addr) (ns:List Int) (k many:Int),vs=[.ref a,.int k,.int many]∧SqL K H a (ns.map V.int)∧0≤k∧0 < many∧∀ H',av H H'→Q (.int (mixed ns k many)) H'
theorem sg (ds:List PyData) (hl:ds.length=3) (hne:ag ds≠.no):∃ d,ag ds=.ok d∧c8 d=true∧∀ vs H Q,Iss K H ds vs→(∀ v H',av H H'→IsD K H' d v→Q v H')→tK K vs H Q E0:=by
  unfold ag at hne
  split at hne
  · rename_i s k many
    split at hne
    · rename_i ns hs
      have es:=dW hs
      subst es
      split at hne
      · rename_i hc
        refine ⟨_,bG hc.1 hc.2,rfl,fun vs H Q hi ho=>?_⟩
        obtain ⟨v0,r0,rfl,h0,v1,r1,rfl,h1,v2,r2,rfl,h2,rfl⟩:=hi
        obtain ⟨a,rfl,hS⟩:=h0.ofScript
        rw [h1.ofInt,h2.ofInt]
        exact ⟨a,ns,k,many,rfl,hS,hc.1,hc.2,fun H' s'=>ho _ _ s' kX⟩
      · exact absurd rfl hne
    · exact absurd rfl hne
  · exact absurd rfl hne
end
end RS
set_option maxRecDepth 100000
set_option maxHeartbeats 1000000
namespace RS
open PySem L2
noncomputable def aV:Gf
  | [d,.int t]=>if pH d then .ok (.bool ((deE d).has t)) else .no
  | _=>.no
theorem fK {e:Er} {t:Int} (h:e.Sh):aV [e.d,.int t]=.ok (.bool (e.has t)):=by unfold aV; simp [oP h,tL]
theorem mz (t:Int):∀ ps:List (Int × Option Int),inD (.int t) ((ps.map a7).map fun d=>bp (bF d).2)=ps.any fun p=>p.2 == some t
  | []=>rfl
  | p::r=>by
    have h1:eqV (toV (bp p.2)) (.int t)=(p.2 == some t):=by
      rcases hp:p.2 with _ | z
      · rfl
      · show (z == t)=(some z == some t)
        simp
    have:=mz t r
    unfold inD inV at this ⊢
    rw [List.map_cons,List.map_cons,List.map_cons,List.any_cons,List.any_cons,this,jo]
    show (eqV (toV (bp p.2)) (.int t) || _)=_
    rw [h1]
theorem pW (ps:List (Int × Option Int)):((ps.map a7).map fun d=>bp (bF d).2).all c8=true:=by
  rw [List.all_eq_true]; intro d hd; obtain ⟨n,_,rfl⟩:=List.mem_map.mp hd; cases (bF n).2 <;> rfl
theorem mV (cs:Cs):∀ ds,ds.length=2→aV ds≠.no→bz (dQ cs (ds.map some++List.replicate 0 none))=aV ds:=by
  intro ds hl hne
  unfold aV at hne
  split at hne
  · rename_i d t
    split at hne
    · rename_i hd
      obtain ⟨e1,sh⟩:=qr hd
      rw [← e1]
      generalize deE d=e at sh
      rw [fK sh]
      have hc:da 2 (gE (g2 dIx (ai 0) (gC (.int 3)))) cB (g2 dIx (ai 2) (gC (.int 1))) cw [some e.d,some (.int t)]=.ok ((e.parts.map a7).map fun d=>bp (bF d).2) :=
        dA rfl (by simp [vL]) (by have:=sh.pn; simp; omega) fun d hd'=>by
          obtain ⟨p,hp,rfl⟩:=List.mem_map.mp hd'
          simp [uD,jo]
      have hi:qg false (.int t) (.list ((e.parts.map a7).map fun d=>bp (bF d).2))=some (.bool (e.has t)):=by
        show (if (c8 (.int t) && _)=true then some (PyData.bool (if false=true then _ else inD _ _)) else none)=_
        rw [pW,mz]; rfl
      show bz (dQ cs [some e.d,some (.int t)])=_
      simp only [dQ,fm,dR,aM,aR,uy,hc,Rs.aq,hi,Rs.az,aW,eK]
    · exact absurd rfl hne
  · exact absurd rfl hne
noncomputable def bo:Gf
  | [d,r,.int t]=>if ju d && a9 (bY d).length r then .ok (bp (cf (bY d) (cx r) t)) else .no
  | _=>.no
theorem gy {es:List Er} {rs:List Int} {t:Int} (h1:es.length≤100) (h:∀ e∈es,e.Sh) (hr:iC es.length rs):bo [bj es,aY rs,.int t]=.ok (bp (cf es rs t)):=by
  unfold bo; simp [jw h1 h,g0,eX hr,gN]
theorem iF (es:List Er) (hsh:∀ e∈es,e.Sh) (R:PyData) (t:Int):∀ (rs:List Int) (k:Nat) (x3 x4:Option PyData),(∀ m∈rs,0≤m∧m < es.length) →
    (∃ i,hts es rs k t=some i∧forL (fM [3,4]) (sIf (gT (aG aV (af (g2 dIx (ai 0) (ai 4)) (af (ai 2) au)))) (cM (ai 3)) b3) ((rs.map PyData.int).mapIdx fun i d=>.tuple [.int ((k + i:Nat):Int),d]) [some (bj es),some R,some (.int t),x3,x4]=.rt (.int i))
   ∨(hts es rs k t=none∧∃ δ,forL (fM [3,4]) (sIf (gT (aG aV (af (g2 dIx (ai 0) (ai 4)) (af (ai 2) au)))) (cM (ai 3)) b3) ((rs.map PyData.int).mapIdx fun i d=>.tuple [.int ((k + i:Nat):Int),d]) [some (bj es),some R,some (.int t),x3,x4]=.nx δ)
  | [],k,x3,x4,_=>.inr ⟨rfl,_,rfl⟩
  | m::r,k,x3,x4,hm=>by
    have h0:=hm m List.mem_cons_self
    have a2:atI (es.map Er.d) m=some (iJ es m).d:=oq h0.1 h0.2
    have ht:=fK (t:=t) (hsh _ (lH h0.1 h0.2))
    rw [List.map_cons,List.mapIdx_cons]
    unfold forL
    have e1:fM [3,4] (PyData.tuple [.int ((k + 0:Nat):Int),.int m]) [some (bj es),some R,some (.int t),x3,x4]=some [some (bj es),some R,some (.int t),some (.int (k:Int)),some (.int m)]:=rfl
    rw [e1]
    simp only [oM,sV,bI,aU,bc,dR,aM,aR,Rs.aq,bj,qd,a2,Rs.az,ht,iR,aW,fm,oo]
    unfold hts
    cases hh:(iJ es m).has t with
    | true=>exact .inl ⟨k,rfl,rfl⟩
    | false =>
      simp only [Bool.false_eq_true,if_false]
      have ih:=iF es hsh R t r (k + 1) (some (.int (k:Int))) (some (.int m)) (fun x hx=>hm x (List.mem_cons_of_mem _ hx))
      rw [show ((k + 1:Nat):Int)=(k:Int) + 1 by omega] at ih
      have ef:(fun (i:Nat) (d:PyData)=>PyData.tuple [.int ((k + (i + 1):Nat):Int),d])=fun i d=>.tuple [.int ((k + 1 + i:Nat):Int),d]:=by
        funext i d; rw [show k + (i + 1)=k + 1 + i by omega]
      rw [ef]
      exact ih
theorem q9 (cs:Cs):∀ ds,ds.length=3→bo ds≠.no→bz (fw cs aV (ds.map some++List.replicate 2 none))=bo ds:=by
  intro ds hl hne
  unfold bo at hne
  split at hne
  · rename_i d r t
    split at hne
    · rename_i hc
      simp only [Bool.and_eq_true] at hc
      obtain ⟨c1,c2⟩:=hc
      obtain ⟨e1,hlen,hsh⟩:=nK c1
      obtain ⟨e2,hr⟩:=gI c2
      rw [← e1,← e2]
      generalize bY d=es at *
      generalize cx r=rs at *
      rw [gy hlen hsh hr]
      have loop:=iF es hsh (aY rs) t rs 0 none none hr.rng
      show bz (fw cs aV [some (bj es),some (aY rs),some (.int t),none,none])=_
      have src:nY (af (ai 1) au) [some (bj es),some (aY rs),some (.int t),none,none]=.ok ((rs.map PyData.int).mapIdx fun i d=>.tuple [.int ((0 + i:Nat):Int),d]):=by
        simp only [sq,aU,bc,aM,aR,Rs.aq,aY,tD,gK,Nat.zero_add]
      simp only [fw]
      rw [bN,jE,l6,src,aW]
      unfold cf
      rcases loop with ⟨i,q1,q2⟩ | ⟨q1,δ,q2⟩
      · rw [q2]
        have q1:hts es rs 0 t=some i:=q1
        rw [q1]; rfl
      · rw [q2]
        have q1:hts es rs 0 t=none:=q1
        rw [q1]; rfl
    · exact absurd rfl hne
  · exact absurd rfl hne
noncomputable def bH (es:List Er) (rs:List Int):PyData:=.list ((List.range 4).map fun (t:Nat)=>bp (cf es rs t))
noncomputable def aN:Gf
  | [d,r]=>if ju d && a9 (bY d).length r then .ok (bH (bY d) (cx r)) else .no
  | _=>.no
theorem eN {es:List Er} {rs:List Int} (h1:es.length≤100) (h:∀ e∈es,e.Sh) (hr:iC es.length rs):aN [bj es,aY rs]=.ok (bH es rs):=by
  unfold aN; simp [jw h1 h,g0,eX hr,gN]
theorem k6 (cs:Cs):∀ ds,ds.length=2→aN ds≠.no→bz (cT cs bo (ds.map some++List.replicate 0 none))=aN ds:=by
  intro ds hl hne
  unfold aN at hne
  split at hne
  · rename_i d r
    split at hne
    · rename_i hc
      simp only [Bool.and_eq_true] at hc
      obtain ⟨c1,c2⟩:=hc
      obtain ⟨e1,hlen,hsh⟩:=nK c1
      obtain ⟨e2,hr⟩:=gI c2
      rw [← e1,← e2]
      generalize bY d=es at *
      generalize cx r=rs at *
      rw [eN hlen hsh hr]
      have hh:∀ t:Int,bo [bj es,aY rs,.int t]=.ok (bp (cf es rs t)):=fun t=>gy hlen hsh hr
      have hcm:da 2 (fZ (af (gC (.int 4)) au)) cB (aG bo (af (ai 0) (af (ai 1) (af (ai 2) au)))) cw [some (bj es),some (aY rs)]=.ok ((bx 0 (4:Int).toNat).map fun x=>bp (cf es rs (deI x))) :=
        dA rfl (by simp only [iW,aU,bc,eH,Rs.aq]; exact iV (by decide) (by decide)) (by rw [b7]; decide) fun x hx=>by
          obtain ⟨i,hi⟩:=List.getElem?_of_mem hx
          obtain ⟨_,rfl⟩:=e7 hi
          simp only [List.cons_append,List.nil_append,bI,aU,bc,aM,aR,Rs.aq,hh]
          rfl
      have hd:bH es rs=.list ((bx 0 (4:Int).toNat).map fun x=>bp (cf es rs (deI x))):=by
        unfold bH bx
        rw [List.map_map]
        congr 1
        try exact List.map_congr_left fun k _=>by simp [deI]
      rw [hd]
      show bz (cT cs bo [some (bj es),some (aY rs)])=_
      simp only [cT,fm,uy,hcm,Rs.aq,aW,eK]
    · exact absurd rfl hne
  · exact absurd rfl hne
noncomputable def bh (cs:Cs):Gf
  | [d,r]=>if aI d && aI r then (if bu d then (if a9 (bY d).length r then .ok (bH (bY d) (cx r)) else .rz cs.NoRanks) else .rz cs.NoErrands) else .no
  | _=>.no
theorem pQ (cs:Cs):∀ ds,ds.length=2→bh cs ds≠.no→bz (cW cs aN (aF cs) (a8 cs) (ds.map some++List.replicate 0 none))=bh cs ds:=by
  intro ds hl hne
  unfold bh at hne
  split at hne
  · rename_i d r
    split at hne
    · rename_i hc
      have hc':=hc
      simp only [Bool.and_eq_true] at hc
      obtain ⟨c1,c2⟩:=hc
      show bz (cW cs aN (aF cs) (a8 cs) [some d,some r])=_
      have k1:a8 cs [d]=if bu d then .ok d else .rz cs.NoErrands:=by unfold a8; simp only [c1,if_true]
      unfold bh
      simp only [hc',if_true]
      cases ie:bu d with
      | false=>simp [cW,k1,ie]
      | true =>
        obtain ⟨e1,hl1,hl6,hok⟩:=nQ ie
        have k2:aF cs [d,r]=if a9 (bY d).length r then .ok r else .rz cs.NoRanks:=by
          rw [← e1]
          unfold bj aF
          simp only [c2,List.length_map,Bool.true_and,show bY (.tuple ((bY d).map Er.d))=bY d from g0 _]
          rw [if_pos (by simp; omega)]
        cases ir:a9 (bY d).length r with
        | false=>simp [cW,k1,ie,k2,ir]
        | true =>
          obtain ⟨e2,hr⟩:=gI ir
          have hsh:∀ e∈bY d,e.Sh:=fun e he=>(hok e he).sh
          have hh:aN [d,r]=.ok (bH (bY d) (cx r)):=by
            conv=>lhs; rw [← e1,← e2]
            exact eN (by omega) hsh hr
          simp only [cW,bN,sf,bI,aU,bc,aM,aR,Rs.aq,k1,ie,if_true,aW,k2,ir,fm,hh,eK]
    · exact absurd rfl hne
  · exact absurd rfl hne
end RS
set_option maxRecDepth 100000
set_option maxHeartbeats 1000000
namespace RS
open PySem L2
noncomputable def bZ (ns:List Int) (a:Int) (many:Nat):Nat→List Int × List Int
  | 0=>((List.range many).map fun (i:Nat)=>(i:Int),[])
  | i + 1=>((bZ ns a many i).1.eraseIdx (mixed ns (a + (i:Int)) ((bZ ns a many i).1.length:Int)).toNat,(bZ ns a many i).2++[(bZ ns a many i).1.getD (mixed ns (a + (i:Int)) ((bZ ns a many i).1.length:Int)).toNat 0])
noncomputable def fP (ns:List Int) (a:Int) (many:Nat):List Int:=(bZ ns a many many).2
theorem iZ {α:Type}:∀ (l:List α) (j:Nat) (h:j < l.length),(l[j]::l.eraseIdx j).Perm l
  | [],j,h=>by simp at h
  | x::r,0,h=>by simp
  | x::r,j + 1,h=>by
    simp only [List.getElem_cons_succ,List.eraseIdx_cons_succ]
    have h':j < r.length:=by simpa using h
    exact (List.Perm.swap _ _ _).trans ((iZ r j h').cons x)
theorem j7 {α β:Type} (f:α→β):∀ (l:List α) (j:Nat),(l.map f).eraseIdx j=(l.eraseIdx j).map f
  | [],j=>by simp
  | x::r,0=>by simp
  | x::r,j + 1=>by simp [j7 f r j]
theorem jA (ns:List Int) (a:Int) (many:Nat):∀ i,i≤many→(bZ ns a many i).1.length=many - i∧(bZ ns a many i).2.length=i∧((bZ ns a many i).1++(bZ ns a many i).2).Perm ((List.range many).map fun (i:Nat)=>(i:Int))
  | 0,_=>⟨by simp [bZ],rfl,by simp [bZ]⟩
  | i + 1,h=>by
    obtain ⟨h1,h2,h3⟩:=jA ns a many i (by omega)
    simp only [bZ]
    generalize (bZ ns a many i).1=L at *
    generalize (bZ ns a many i).2=M at *
    have hL:0 < (L.length:Int):=by omega
    have m0:=bD ns (a + (i:Int)) hL
    have m1:=bK ns (a + (i:Int)) hL
    generalize mixed ns (a + (i:Int)) (L.length:Int)=z at *
    have hz:z.toNat < L.length:=by omega
    refine ⟨by rw [List.length_eraseIdx_of_lt hz]; omega,by simp [h2],?_⟩
    refine List.Perm.trans ?_ h3
    rw [List.getD_eq_getElem?_getD,List.getElem?_eq_getElem hz,Option.getD_some]
    have p1:(L[z.toNat]::L.eraseIdx z.toNat).Perm L:=iZ L z.toNat hz
    have p2:(L.eraseIdx z.toNat++(M++[L[z.toNat]])).Perm ((L[z.toNat]::L.eraseIdx z.toNat)++M):=by
      rw [← List.append_assoc]
      exact (List.perm_append_singleton _ _)
    exact p2.trans (p1.append_right M)
theorem nq (ns:List Int) (a:Int) (many:Nat):iC many (fP ns a many):=by
  obtain ⟨h1,h2,h3⟩:=jA ns a many many (Nat.le_refl _)
  unfold fP
  have e:(bZ ns a many many).1=[]:=List.length_eq_zero_iff.mp (by omega)
  rw [e,List.nil_append] at h3
  refine ⟨h2,fun r hr=>?_,h3.nodup_iff.mpr ?_⟩
  · obtain ⟨k,hk,rfl⟩:=List.mem_map.mp (h3.mem_iff.mp hr)
    have:=List.mem_range.mp hk
    omega
  · exact (List.nodup_range).map (f:=fun (i:Nat)=>(i:Int)) fun x y h=>by
      intro q; have q:(x:Int)=(y:Int):=q; exact h (by omega)
noncomputable def aL:Gf
  | [s,.int a,.int many]=>(match cO s with
    | some ns=>if 0≤a∧0≤many∧many≤100 then .ok (aY (fP ns a many.toNat)) else .no
    | none=>.no)
  | _=>.no
theorem fg {ns:List Int} {a many:Int} (h1:0≤a) (h2:0≤many) (h3:many≤100):aL [ao ns,.int a,.int many]=.ok (aY (fP ns a many.toNat)):=by
  unfold aL; simp [cX,h1,h2,h3]
theorem o9 (ns:List Int) (a:Int) (n i:Nat) (L M:List Int) (ha:0≤a) (hL:0 < (L.length:Int)) (hL2:L.length≤100) (hM:M.length≤100) :
    eS 4 3 (aG ag (af (ai 0) (af (g2 bb (ai 1) (ai 5)) (af (gF dm (af (ai 3) au)) au)))) [some (ao ns),some (.int a),some (.int (n:Int)),some (.list (L.map .int)),some (.list (M.map .int)),some (.int (0 + (i:Int)))]
   =.nx [some (ao ns),some (.int a),some (.int (n:Int)),some (.list ((L.eraseIdx (mixed ns (a + (i:Int)) (L.length:Int)).toNat).map .int)),some (.list ((M++[L.getD (mixed ns (a + (i:Int)) (L.length:Int)).toNat 0]).map .int)),some (.int (0 + (i:Int)))]:=by
  have hm':=bG (ns:=ns) (k:=a + (0 + (i:Int))) (many:=(L.length:Int)) (by omega) hL
  have m0:=bD ns (a + (i:Int)) hL
  have m1:=bK ns (a + (i:Int)) hL
  rw [show a + (0 + (i:Int))=a + (i:Int) by omega] at hm'
  generalize mixed ns (a + (i:Int)) (L.length:Int)=z at *
  have hz:z.toNat < L.length:=by omega
  have hg:aG ag (af (ai 0) (af (g2 bb (ai 1) (ai 5)) (af (gF dm (af (ai 3) au)) au))) [some (ao ns),some (.int a),some (.int (n:Int)),some (.list (L.map .int)),some (.list (M.map .int)),some (.int (0 + (i:Int)))]=.ok (.int z):=by
    simp only [bI,aU,bc,dR,jS,aM,aR,Rs.aq,fh,Rs.az,uR,List.length_map]
    rw [show a + (0 + (i:Int))=a + (i:Int) by omega]
    exact hm'
  have hix:ixN (L.map PyData.int).length z=some z.toNat:=by
    unfold ixN
    rw [if_pos m0,if_pos (by rw [List.length_map]; omega)]
  have hat:(L.map PyData.int)[z.toNat]?=some (.int (L.getD z.toNat 0)):=by
    rw [List.getElem?_map,List.getElem?_eq_getElem hz,List.getD_eq_getElem?_getD,List.getElem?_eq_getElem hz]; rfl
  unfold eS
  simp only [List.getElem?_cons_succ,List.getElem?_cons_zero,hg,aW]
  rw [if_pos (by refine ⟨by omega,by omega,?_⟩; rw [List.length_map]; omega)]
  simp only [hix,hat,List.set_cons_succ,List.set_cons_zero,List.map_append,List.map_cons,List.map_nil]
  rw [j7]
theorem ph (ns:List Int) (a:Int) (n i:Nat) (ha:0≤a) (hi:i < n) (hn:n≤100) :
    eS 4 3 (aG ag (af (ai 0) (af (g2 bb (ai 1) (ai 5)) (af (gF dm (af (ai 3) au)) au)))) [some (ao ns),some (.int a),some (.int (n:Int)),some (.list ((bZ ns a n i).1.map .int)),some (.list ((bZ ns a n i).2.map .int)),some (.int (0 + (i:Int)))]
   =.nx [some (ao ns),some (.int a),some (.int (n:Int)),some (.list ((bZ ns a n (i + 1)).1.map .int)),some (.list ((bZ ns a n (i + 1)).2.map .int)),some (.int (0 + (i:Int)))]:=by
  obtain ⟨h1,h2,h3⟩:=jA ns a n i (by omega)
  simp only [bZ]
  exact o9 ns a n i _ _ ha (by omega) (by omega) (by omega)
theorem rk1 (ns:List Int) (a:Int) (n:Nat) (hm2:(n:Int)≤100):gq [3,4] 3 (gLR (af (ai 2) au)) [some (ao ns),some (.int a),some (.int (n:Int)),none,none,none]=.nx [some (ao ns),some (.int a),some (.int (n:Int)),some (.list ((bZ ns a n 0).1.map .int)),none,none]:=by
  have hg:gLR (af (ai 2) au) (mask [3,4] [some (ao ns),some (.int a),some (.int (n:Int)),none,none,none])=.ok (bx 0 n):=by
    simp only [vk,aU,bc,aE (show 2 ∉ [3,4] by decide),aM,aR,Rs.aq]
    unfold kC
    simp only
    rw [if_pos (by omega),Int.toNat_natCast]
  have he:(bZ ns a n 0).1.map PyData.int=bx 0 n:=by
    simp only [bZ,bx,List.map_map]
    refine List.map_congr_left fun k _=>?_
    simp
  rw [he]
  unfold gq
  rw [hg,if_pos (by simp)]; simp only [aW,List.set_cons_succ,List.set_cons_zero]
theorem rk2 (ns:List Int) (a:Int) (n:Nat):gq [3,4] 4 au [some (ao ns),some (.int a),some (.int (n:Int)),some (.list ((bZ ns a n 0).1.map .int)),none,none]=.nx [some (ao ns),some (.int a),some (.int (n:Int)),some (.list ((bZ ns a n 0).1.map .int)),some (.list ((bZ ns a n 0).2.map .int)),none]:=by
  unfold gq
  rw [if_pos (by simp)]; simp only [bc,aW,List.set_cons_succ,List.set_cons_zero]
  rfl
theorem rk3 (ns:List Int) (a:Int) (n:Nat) (hm2:(n:Int)≤100):fZ (af (ai 2) au) (mask [3,4] [some (ao ns),some (.int a),some (.int (n:Int)),some (.list ((bZ ns a n 0).1.map .int)),some (.list ((bZ ns a n 0).2.map .int)),none])=.ok (bx 0 n):=by
  have hv:af (ai 2) au (mask [3,4] [some (ao ns),some (.int a),some (.int (n:Int)),some (.list ((bZ ns a n 0).1.map .int)),some (.list ((bZ ns a n 0).2.map .int)),none])=.ok [.int (n:Int)]:=rfl
  have hr:=iV (j:=(n:Int)) (Int.natCast_nonneg n) (by omega)
  rw [Int.toNat_natCast] at hr
  rw [iW,hv,Rs.aq,hr]
theorem mi (cs:Cs):∀ ds,ds.length=3→aL ds≠.no→bz (c9 cs ag (ds.map some++List.replicate 3 none))=aL ds:=by
  intro ds hl hne
  unfold aL at hne
  split at hne
  · rename_i s a many
    split at hne
    · rename_i ns hs
      have es:=dW hs
      subst es
      split at hne
      · rename_i hc
        obtain ⟨ha,hm,hm2⟩:=hc
        rw [fg ha hm hm2]
        obtain ⟨n,rfl⟩:∃ n:Nat,many=(n:Int):=⟨many.toNat,by omega⟩
        rw [Int.toNat_natCast]
        show bz (c9 cs ag [some (ao ns),some (.int a),some (.int (n:Int)),none,none,none])=_
        have s1:=rk1 ns a n hm2
        have s2:=rk2 ns a n
        have src:=rk3 ns a n hm2
        obtain ⟨δ',e,x5,hδ⟩:=eU (β:=Unit) (tgt:=e9 5) (body:=eS 4 3 (aG ag (af (ai 0) (af (g2 bb (ai 1) (ai 5)) (af (gF dm (af (ai 3) au)) au)))))
          (fun i δ=>∃ x5,δ=[some (ao ns),some (.int a),some (.int (n:Int)),some (.list ((bZ ns a n i).1.map .int)),some (.list ((bZ ns a n i).2.map .int)),x5])
          (bx 0 n) 0 (fun i d δ hi ⟨x5,hx⟩=>by
            subst hx
            rw [Nat.zero_add] at *
            obtain ⟨hil,rfl⟩:=e7 hi
            refine ⟨[some (ao ns),some (.int a),some (.int (n:Int)),some (.list ((bZ ns a n i).1.map .int)),some (.list ((bZ ns a n i).2.map .int)),some (.int (0 + (i:Int)))],_,rfl,?_,some (.int (0 + (i:Int))),rfl⟩
            exact ph ns a n i ha hil (by omega)) [some (ao ns),some (.int a),some (.int (n:Int)),some (.list ((bZ ns a n 0).1.map .int)),some (.list ((bZ ns a n 0).2.map .int)),none] ⟨none,rfl⟩
        subst hδ
        rw [Nat.zero_add,b7] at e
        simp only [c9]
        rw [bN,s1]; simp only
        rw [bN,s2]; simp only
        rw [bN,jE,src,aW,e]; simp only
        simp only [fm,jS,aU,bc,aM,aR,Rs.aq,rH,Rs.az,aW,eK]
        rfl
      · exact absurd rfl hne
    · exact absurd rfl hne
  · exact absurd rfl hne
end RS
namespace RS
open PySem L2
noncomputable def gu (cs:Cs) (bh:Gf):Ds→Sr :=
  (mj cs.NoRanks 2 bh (af (ai 0) (af (ai 1) au)) (.str "none"))
noncomputable def ke (cs:Cs) (ag aH aB aL aC:Gf):Ds→Sr :=
  (bL (cU [3] 1 (aG aC (af (ai 0) (af (gC (.int 8)) (af (gC (.int 4)) (af (gC (.int 28)) (af (gC (.bool true)) au)))))))
    (bL (cU [3] 2 (aG aL (af (ai 0) (af (gC (.int 0)) (af (gF dm (af (ai 1) au)) au)))))
    (bL (sIf (gT (g2 dNe (aG aH (af (ai 1) (af (ai 2) au))) (aG aB (af (ai 1) (af (ai 2) au))))) (cM (gC (.bool false))) b3)
    (bL (gq [3] 3 (af (gF kf (af (ai 2) au)) (af (g2 bb (ai 2) (b6 (ai 2) bO (c6 (gC (.int 1))))) (af (b6 (ai 2) (c6 (gC (.int 1))) bO) (af (g2 bb (b6 (ai 2) bO (c6 (g1 de (gC (.int 1))))) (dG (af (gF dm (af (ai 2) au)) au))) (af (g2 bb (b6 (ai 2) bO (c6 (g1 de (gC (.int 1))))) (dG (af (g1 de (gC (.int 1))) au))) (af (gC .none) (af (gC (.int 0)) au))))))))
    (bL (rL [3] 3 (ly (af (g2 bb (b6 (ai 2) bO (c6 (g1 de (gC (.int 1))))) (dG (af (gF pf (af (g2 dIx (ai 2) (g1 de (gC (.int 1)))) au)) au))) (af (g2 bb (dG (af (gC (.bool true)) au)) (b6 (ai 2) (c6 (gC (.int 1))) bO)) (af (g2 bb (b6 (ai 2) bO (c6 (g1 de (gC (.int 1))))) (dG (af (gC .none) au))) (af (g2 bb (ai 2) (dG (af (gF dm (af (ai 2) au)) au))) au))))))
    (cM (g2 dEq (aG aH (af (ai 1) (af (g2 dIx (ai 3) (aG ag (af (ai 0) (af (gC (.int 6)) (af (gC (.int 11)) au))))) au))) (gC (.str "none")))))))))
end RS
set_option maxRecDepth 100000
set_option maxHeartbeats 1000000
namespace RS
open PySem L2
theorem g7:∀ {ds:List PyData},(∀ d∈ds,aI d=true)→eo ds=true
  | [],_=>by unfold eo; rfl
  | d::r,h=>by unfold eo; rw [h d List.mem_cons_self,g7 fun e he=>h e (List.mem_cons_of_mem _ he)]; rfl
theorem b8 {ds:List PyData} (h:∀ d∈ds,aI d=true):aI (.tuple ds)=true:=by unfold aI; exact g7 h
theorem je {ds:List PyData} (h:∀ d∈ds,aI d=true):aI (.list ds)=true:=by unfold aI; exact g7 h
theorem cH (i:Int):aI (.int i)=true:=by unfold aI; rfl
theorem dB {d:PyData} (h:c8 d=true):aI d=true:=by cases d <;> first | (unfold aI; rfl) | cases h
theorem ky (o:Option Int):aI (bp o)=true:=by cases o <;> (unfold bp aI; rfl)
theorem mI (p:Int × Option Int):aI (a7 p)=true:=b8 fun d hd=>by
  rcases List.mem_cons.mp hd with rfl | hd
  · exact cH _
  · cases List.mem_singleton.mp hd; exact ky _
theorem rg (e:Er):aI e.d=true:=b8 fun d hd=>by
  rcases List.mem_cons.mp hd with rfl | hd
  · exact cH _
  · rcases List.mem_cons.mp hd with rfl | hd
    · exact cH _
    · rcases List.mem_cons.mp hd with rfl | hd
      · exact cH _
      · cases List.mem_singleton.mp hd
        exact b8 fun d hd=>by obtain ⟨p,_,rfl⟩:=List.mem_map.mp hd; exact mI p
theorem kq (es:List Er):aI (bj es)=true:=b8 fun d hd=>by obtain ⟨p,_,rfl⟩:=List.mem_map.mp hd; exact rg p
theorem cZ (rs:List Int):∀ d∈rs.map PyData.int,aI d=true:=fun d hd=>by obtain ⟨p,_,rfl⟩:=List.mem_map.mp hd; exact cH p
theorem nH (rs:List Int):aI (aY rs)=true:=b8 (cZ rs)
end RS
set_option maxRecDepth 100000
set_option maxHeartbeats 1000000
namespace RS
open PySem L2
noncomputable def aH:Gf
  | [d,r]=>if aI d && aI r && bu d then (if a9 (bY d).length r then .ok (bH (bY d) (cx r)) else .ok (.str "none")) else .no
  | _=>.no
theorem mD (cs:Cs):∀ ds,ds.length=2→aH ds≠.no→bz (gu cs (bh cs) (ds.map some++List.replicate 1 none))=aH ds:=by
  intro ds hl hne
  unfold aH at hne
  split at hne
  · rename_i d r
    split at hne
    · rename_i hc
      have hc':=hc
      simp only [Bool.and_eq_true] at hc
      obtain ⟨⟨c1,c2⟩,c3⟩:=hc
      have hh:bh cs [d,r]=if a9 (bY d).length r then .ok (bH (bY d) (cx r)) else .rz cs.NoRanks:=by
        unfold bh; simp only [c1,c2,c3,Bool.and_self,if_true]
      unfold aH
      simp only [hc',if_true]
      show bz (mj cs.NoRanks 2 (bh cs) (af (ai 0) (af (ai 1) au)) (.str "none") [some d,some r,none])=_
      unfold mj
      rw [if_pos (by simp)]
      simp only [aU,bc,aM,aR,Rs.aq,hh]
      cases a9 (bY d).length r <;> simp
    · exact absurd rfl hne
  · exact absurd rfl hne
theorem pD {es:List Er} {rs:List Int} (h1:1≤es.length) (h2:es.length≤6) (h:∀ e∈es,e.Ok) (hr:iC es.length rs):aH [bj es,aY rs]=.ok (bH es rs):=by
  unfold aH; simp [kq,nH,gP h1 h2 h,g0,eX hr,gN]
theorem cg {es:List Er} {r:PyData} (h1:1≤es.length) (h2:es.length≤6) (h:∀ e∈es,e.Ok) (hn:aI r=true) (hr:a9 es.length r=false):aH [bj es,r]=.ok (.str "none"):=by
  unfold aH; simp [kq,hn,gP h1 h2 h,g0,hr]
theorem ft {n:Nat} {ds:List PyData} (h:ds.length≠n):a9 n (.tuple ds)=false:=by unfold a9; simp [h]
theorem c5 {n:Nat} {ds:List PyData} {d:PyData} (hd:d∈ds) (h:isWhole d 0 ((n:Int) - 1)=false):a9 n (.tuple ds)=false:=by
  have:ds.all (fun d=>isWhole d 0 ((n:Int) - 1))=false:=by
    rw [Bool.eq_false_iff]; intro q
    have:=List.all_eq_true.mp q d hd
    rw [h] at this; cases this
  unfold a9; simp only [this,Bool.and_false,Bool.false_and]
theorem jH:∀ l:List (Option Int),PyData.depthAll (l.map bp)≤1
  | []=>by simp [PyData.depthAll]
  | n::r=>by
    have:=jH r
    have hn:(bp n).depth≤1:=by cases n <;> simp [bp,PyData.depth]
    simp only [List.map_cons,PyData.depthAll]
    omega
theorem iG:∀ l:List (Option Int),PyData.canLayAll0 (l.map bp)=true
  | []=>by simp [PyData.canLayAll0]
  | n::r=>by
    have hn:(bp n).canLay0=true:=by cases n <;> simp [bp,PyData.canLay0]
    simp [PyData.canLayAll0,hn,iG r]
theorem lP (l:List (Option Int)):SeqAt.shaped (.list (l.map bp))=true:=by
  have:=jH l
  have h2:(PyData.list (l.map bp)).depth≤64:=by
    simp only [PyData.depth]
    omega
  simp [SeqAt.shaped,PyData.canLay0,iG,h2]
theorem mq:∀ l:List (Option Int),PyData.eqvAll (l.map bp) (l.map bp)=true
  | []=>by simp [PyData.eqvAll]
  | n::r=>by
    have hn:PyData.eqv (bp n) (bp n)=true:=by cases n <;> simp [bp,PyData.eqv]
    simp [PyData.eqvAll,hn,mq r]
theorem sr (l:List (Option Int)):dNe (.list (l.map bp)) (.list (l.map bp))=some (.bool false):=by
  have hd:aI (.list (l.map bp))=true:=je fun d hd=>by obtain ⟨p,_,rfl⟩:=List.mem_map.mp hd; exact ky p
  unfold dNe
  rw [hd,lP]
  simp [PyData.eqv,mq]
theorem sj:dEq (.str "none") (.str "none")=some (.bool true):=by
  have h:PySem.SeqAt.shaped (.str "none")=true:=by decide +kernel
  unfold dEq; rw [h]; simp [aI,PyData.eqv]
theorem rD {xs:List PyData}:cutD xs none (some (-1))=xs.take (xs.length - 1):=by
  unfold cutD
  have e1:HT.sIx xs.length 0 none=0:=rfl
  have e2:HT.sIx xs.length xs.length (some (-1))=xs.length - 1:=by
    unfold HT.sIx
    simp only
    rw [if_pos (by decide)]; omega
  rw [e1,e2]
  simp
theorem tY {xs:List PyData}:cutD xs (some 1) none=xs.drop 1:=qH (k:=1)
theorem wt {xs:List PyData}:cutD xs none (some 1)=xs.take 1:=uX (k:=1)
theorem iS {x y:List PyData} (h:x.length + y.length≤1000000):bb (.tuple x) (.tuple y)=some (.tuple (x++y)):=by
  show (if _ then _ else _)=_
  rw [if_pos h]
noncomputable def iM (rs:List Int):List PyData:=[.list (rs.map .int),.tuple (rs.map .int++(rs.map PyData.int).take 1),.tuple ((rs.map PyData.int).drop 1),.tuple ((rs.map PyData.int).take ((rs.map PyData.int).length - 1)++[.int rs.length]),
  .tuple ((rs.map PyData.int).take ((rs.map PyData.int).length - 1)++[.int (-1)]),.none,.int 0]
noncomputable def kQ (rs:List Int):List PyData:=[.tuple ((rs.map PyData.int).take ((rs.map PyData.int).length - 1)++[.str (toString (rs.getLastD 0))]),.tuple (.bool true::(rs.map PyData.int).drop 1),
  .tuple ((rs.map PyData.int).take ((rs.map PyData.int).length - 1)++[.none]),.tuple (rs.map .int++[.int rs.length])]
theorem uk {es:List Er} {rs:List Int} (h1:1≤es.length) (h2:es.length≤6) (h:∀ e∈es,e.Ok) (hr:iC es.length rs):∀ x∈iM rs++kQ rs,aH [bj es,x]=.ok (.str "none"):=by
  have hl:=hr.len
  have ml:(rs.map PyData.int).length=es.length:=by rw [List.length_map]; exact hl
  have nt:∀ k,∀ d∈(rs.map PyData.int).take k,aI d=true:=fun k d hd=>cZ rs d (List.mem_of_mem_take hd)
  have nd:∀ k,∀ d∈(rs.map PyData.int).drop k,aI d=true:=fun k d hd=>cZ rs d (List.mem_of_mem_drop hd)
  have app:∀ {x y:List PyData},(∀ d∈x,aI d=true)→(∀ d∈y,aI d=true)→aI (.tuple (x++y))=true:=fun hx hy=>b8 fun d hd=>(List.mem_append.mp hd).elim (hx d) (hy d)
  have one:∀ {d:PyData},aI d=true→∀ e∈[d],aI e=true:=fun hd e he=>by cases List.mem_singleton.mp he; exact hd
  intro x hx
  unfold iM kQ at hx
  simp only [List.cons_append,List.nil_append,List.mem_cons,List.not_mem_nil,or_false] at hx
  rcases hx with rfl | rfl | rfl | rfl | rfl | rfl | rfl | rfl | rfl | rfl | rfl
  · exact cg h1 h2 h (je (cZ rs)) rfl
  · exact cg h1 h2 h (app (cZ rs) (nt _)) (ft (by rw [List.length_append,List.length_take,ml]; omega))
  · exact cg h1 h2 h (b8 (nd _)) (ft (by rw [List.length_drop,ml]; omega))
  · exact cg h1 h2 h (app (nt _) (one (cH _))) (c5 (List.mem_append_right _ List.mem_cons_self) (by unfold isWhole; simp; omega))
  · exact cg h1 h2 h (app (nt _) (one (cH _))) (c5 (List.mem_append_right _ List.mem_cons_self) (by unfold isWhole; simp))
  · exact cg h1 h2 h (dB rfl) rfl
  · exact cg h1 h2 h (dB rfl) rfl
  · exact cg h1 h2 h (app (nt _) (one (dB rfl))) (c5 (List.mem_append_right _ List.mem_cons_self) rfl)
  · exact cg h1 h2 h (b8 fun d hd=>(List.mem_cons.mp hd).elim (fun z=>by rw [z]; exact dB rfl) (nd _ d)) (c5 List.mem_cons_self rfl)
  · exact cg h1 h2 h (app (nt _) (one (dB rfl))) (c5 (List.mem_append_right _ List.mem_cons_self) rfl)
  · exact cg h1 h2 h (app (cZ rs) (one (cH _))) (ft (by rw [List.length_append,ml]; simp))
theorem oZ {rs:List Int} (h:1≤rs.length):atI (rs.map PyData.int) (-1)=some (.int (rs.getLastD 0)):=by
  rw [ib,List.getLast?_map,List.getLastD_eq_getLast?]
  cases hg:rs.getLast? with
  | none=>rw [List.getLast?_eq_none_iff] at hg; rw [hg] at h; simp at h
  | some x=>rfl
theorem law02 (cs:Cs) (ns:List Int):ke cs ag aH aB aL aC [some (ao ns),none,none,none]=.rt (.bool true):=by
  have hl:=rA ns 8 4 28 true (by decide)
  have hok:=tq ns 8 4 28 true (by decide) (by decide)
  have hes:aC [ao ns,.int 8,.int 4,.int 28,.bool true]=.ok (bj (i3 ns 8 4 28 true)):=d4 (by decide) (by decide) (by decide) (by decide) (by decide)
  generalize i3 ns 8 4 28 true=es at *
  have hrs:aL [ao ns,.int 0,.int (es.length:Int)]=.ok (aY (fP ns 0 es.length)):=by
    have:=fg (ns:=ns) (a:=0) (many:=(es.length:Int)) (by decide) (by omega) (by omega)
    rwa [Int.toNat_natCast] at this
  have hr:=nq ns 0 es.length
  generalize fP ns 0 es.length=rs at *
  have rl:=hr.len
  have hsh:∀ e∈es,e.Sh:=fun e he=>(hok e he).sh
  have ht:=pD hl.1 (by omega) hok hr
  have hh:aB [bj es,aY rs]=.ok (bH es rs):=dZ (by omega) hsh hr
  have hne:dNe (bH es rs) (bH es rs)=some (.bool false):=by
    have:bH es rs=.list (((List.range 4).map fun (t:Nat)=>cf es rs t).map bp):=by unfold bH; rw [List.map_map]; rfl
    rw [this]; exact sr _
  have hbad:=uk hl.1 (by omega) hok hr
  have m0:=bD ns 6 (many:=11) (by decide)
  have m1:=bK ns 6 (many:=11) (by decide)
  have hm:=bG (ns:=ns) (k:=6) (many:=11) (by decide) (by decide)
  generalize mixed ns 6 11=j at *
  have ml:(rs.map PyData.int).length=rs.length:=List.length_map ..
  have s1:cU [3] 1 (aG aC (af (ai 0) (af (gC (.int 8)) (af (gC (.int 4)) (af (gC (.int 28)) (af (gC (.bool true)) au)))))) [some (ao ns),none,none,none]=.nx [some (ao ns),some (bj es),none,none]:=by
    rw [fD,if_pos (by simp)]
    simp only [bI,aU,bc,eH,aE (show 0 ∉ [3] by decide),aM,Rs.aq,hes,aW]
    rfl
  have s2:cU [3] 2 (aG aL (af (ai 0) (af (gC (.int 0)) (af (gF dm (af (ai 1) au)) au)))) [some (ao ns),some (bj es),none,none]=.nx [some (ao ns),some (bj es),some (aY rs),none]:=by
    have hlen:dm [bj es]=some (.int (es.length:Int)):=by unfold bj; rw [kG,List.length_map]
    rw [fD,if_pos (by simp)]
    simp only [bI,aU,bc,eH,jS,aE (show 0 ∉ [3] by decide),aE (show 1 ∉ [3] by decide),aM,aR,Rs.aq,hlen,Rs.az,hrs,aW]
    rfl
  have s3:sIf (gT (g2 dNe (aG aH (af (ai 1) (af (ai 2) au))) (aG aB (af (ai 1) (af (ai 2) au))))) (cM (gC (.bool false))) b3 [some (ao ns),some (bj es),some (aY rs),none]=.nx [some (ao ns),some (bj es),some (aY rs),none]:=by
    simp only [oM,sV,dR,bI,aU,bc,aM,aR,Rs.aq,ht,hh,hne,Rs.az,iR,aW,Bool.false_eq_true,if_false,oo]
  have tk:∀ d,bb (.tuple ((rs.map PyData.int).take (rs.length - 1))) (.tuple [d])=some (.tuple ((rs.map PyData.int).take (rs.length - 1)++[d])):=fun d=>iS (by rw [List.length_take,ml]; simp; omega)
  have s4:gq [3] 3 (af (gF kf (af (ai 2) au)) (af (g2 bb (ai 2) (b6 (ai 2) bO (c6 (gC (.int 1))))) (af (b6 (ai 2) (c6 (gC (.int 1))) bO) (af (g2 bb (b6 (ai 2) bO (c6 (g1 de (gC (.int 1))))) (dG (af (gF dm (af (ai 2) au)) au))) (af (g2 bb (b6 (ai 2) bO (c6 (g1 de (gC (.int 1))))) (dG (af (g1 de (gC (.int 1))) au))) (af (gC .none) (af (gC (.int 0)) au)))))))
      [some (ao ns),some (bj es),some (aY rs),none]=.nx [some (ao ns),some (bj es),some (aY rs),some (.list (iM rs))]:=by
    have a1:bb (.tuple (rs.map PyData.int)) (.tuple ((rs.map PyData.int).take 1))=some (.tuple (rs.map .int++(rs.map PyData.int).take 1)):=iS (by rw [List.length_take,ml]; omega)
    have fl:kf [.tuple (rs.map PyData.int)]=some (.list (rs.map .int)):=rfl
    unfold gq
    rw [if_pos (by simp)]
    simp only [aU,bc,jS,sZ,dR,eH,jG,md,j4,oB,aE (show 2 ∉ [3] by decide),aM,aR,Rs.aq,aY,fl,Rs.az,oE,rF,wt,a1,tY,oN,rD,kG,tk,ml,aW]
    unfold iM
    simp only [ml]
    rfl
  have s5:rL [3] 3 (ly (af (g2 bb (b6 (ai 2) bO (c6 (g1 de (gC (.int 1))))) (dG (af (gF pf (af (g2 dIx (ai 2) (g1 de (gC (.int 1)))) au)) au))) (af (g2 bb (dG (af (gC (.bool true)) au)) (b6 (ai 2) (c6 (gC (.int 1))) bO)) (af (g2 bb (b6 (ai 2) bO (c6 (g1 de (gC (.int 1))))) (dG (af (gC .none) au))) (af (g2 bb (ai 2) (dG (af (gF dm (af (ai 2) au)) au))) au)))))
      [some (ao ns),some (bj es),some (aY rs),some (.list (iM rs))]=.nx [some (ao ns),some (bj es),some (aY rs),some (.list (iM rs++kQ rs))]:=by
    have a1:bb (.tuple [.bool true]) (.tuple ((rs.map PyData.int).drop 1))=some (.tuple (.bool true::(rs.map PyData.int).drop 1)):=iS (by rw [List.length_drop,ml]; simp; omega)
    have a2:bb (.tuple (rs.map PyData.int)) (.tuple [.int (rs.length:Int)])=some (.tuple (rs.map .int++[.int (rs.length:Int)])):=iS (by rw [ml]; simp; omega)
    have la:=oZ (rs:=rs) (by omega)
    have lr:0≤rs.getLastD 0∧rs.getLastD 0≤10:=by
      cases hrs':rs with
      | nil=>simp [hrs'] at rl; omega
      | cons x r =>
        have hmem:(x::r).getLastD 0∈rs:=by rw [hrs',List.getLastD_cons]; exact List.getLastD_mem_cons ..
        have:=hr.rng _ hmem
        omega
    have fs:pf [.int (rs.getLastD 0)]=some (.str (toString (rs.getLastD 0))):=by
      show (if _ then _ else _)=_
      rw [if_pos (by omega)]
    unfold rL
    simp only [List.getElem?_cons_succ,List.getElem?_cons_zero]
    simp only [nO,aU,bc,jS,sZ,dR,eH,jG,md,j4,oB,aE (show 2 ∉ [3] by decide),aM,aR,Rs.aq,aY,Rs.az,oE,rF,tY,oN,rD,kG,qd,la,fs,tk,a1,a2,ml,aW]
    rw [if_pos (by simp [iM])]
    unfold kQ
    simp only [ml]
    rfl
  have hat:∃ x,atI (iM rs++kQ rs) j=some x∧x∈iM rs++kQ rs:=by
    have hlen:(iM rs++kQ rs).length=11:=rfl
    have hj:j.toNat < (iM rs++kQ rs).length:=by omega
    refine ⟨(iM rs++kQ rs)[j.toNat],?_,List.getElem_mem hj⟩
    rw [f7 (j:=j.toNat) (by omega),List.getElem?_eq_getElem hj]
  obtain ⟨x,hx,hmem⟩:=hat
  have hb:=hbad x hmem
  simp only [ke]
  rw [bN,s1]; simp only
  rw [bN,s2]; simp only
  rw [bN,s3]; simp only
  rw [bN,s4]; simp only
  rw [bN,s5]; simp only
  simp only [fm,dR,bI,aU,bc,eH,aM,aR,Rs.aq,hm,qk,hx,Rs.az,hb,sj,aW]
theorem wz (cs:Cs):∀ ds,ds.length=1→dX 63 ds≠.no→bz (ke cs ag aH aB aL aC (ds.map some++List.replicate 3 none))=dX 63 ds:=by
  intro ds hl hne
  match ds,hl with
  | [s],_ =>
    unfold dX at hne ⊢
    simp only at hne ⊢
    split at hne
    · rename_i ns hs
      have es:=dW hs
      subst es
      split at hne
      · rename_i hc
        simp only [cX,if_pos hc]
        show bz (ke cs ag aH aB aL aC [some (ao ns),none,none,none])=_
        rw [law02]; rfl
      · exact absurd rfl hne
    · exact absurd rfl hne
end RS
set_option maxRecDepth 100000
set_option maxHeartbeats 4000000
namespace RS
open PySem PySem.Spec PyProof.Rows L2
noncomputable def top (i:Nat):Stmt:=PySem.Challenge.pw_ranksure_k02_heights.main.body.getD i (.Pass ⟨0,0,0,0⟩)
noncomputable abbrev gj:Stmt:=top 12
noncomputable abbrev gw:Stmt:=top 13
noncomputable abbrev g6:Stmt:=top 14
noncomputable abbrev fA:Stmt:=top 15
noncomputable abbrev fO:Stmt:=top 16
noncomputable abbrev hV:Stmt:=top 17
noncomputable abbrev dh:Stmt:=top 18
noncomputable abbrev gx:Stmt:=top 19
noncomputable abbrev ja:Stmt:=top 20
noncomputable abbrev fb:Stmt:=top 21
noncomputable abbrev g8:Stmt:=top 22
noncomputable abbrev cz:Stmt:=top 24
noncomputable abbrev dS:Stmt:=top 25
noncomputable abbrev eP:Stmt:=top 26
noncomputable abbrev d8:Stmt:=top 27
noncomputable abbrev fJ:Stmt:=top 28
noncomputable abbrev ez:Stmt:=top 29
noncomputable abbrev gm:Stmt:=top 30
noncomputable abbrev kr:Stmt:=top 31
structure Tx (K:PySem.W.Frag) (mg:Str→Option Value) (cs:Cs):Prop where
  f_is_whole:bf K mg "is_whole" gj ["thing", "least", "most"]
  f_is_tuple:bf K mg "is_tuple" gw ["thing", "fewest", "most"]
  f_is_part:bf K mg "is_part" g6 ["thing"]
  f_are_parts:bf K mg "are_parts" fA ["thing"]
  f_is_errand:bf K mg "is_errand" fO ["thing"]
  f_checked:bf K mg "checked" hV ["errands"]
  f_checked_ranks:bf K mg "checked_ranks" dh ["errands", "ranks"]
  f_has_tool:bf K mg "has_tool" gx ["errand", "tool"]
  f_height:bf K mg "height" ja ["errands", "ranks", "tool"]
  f_heights_of:bf K mg "heights_of" fb ["errands", "ranks"]
  f_heights:bf K mg "heights" g8 ["errands", "ranks"]
  f_law_cell_at:bf K mg "_law_cell_at" cz ["_law_script", "_law_k"]
  f_law_mixed:bf K mg "_law_mixed" dS ["_law_script", "_law_k", "_law_many"]
  f_law_errand:bf K mg "_law_errand" eP ["_law_script", "_law_at", "_law_top", "_law_tools"]
  f_law_errands:bf K mg "_law_errands" d8 ["_law_script", "_law_at", "_law_most", "_law_top", "_law_tools"]
  f_law_ranks:bf K mg "_law_ranks" fJ ["_law_script", "_law_at", "_law_many"]
  f_law_heights:bf K mg "_law_heights" ez ["_law_errands_here", "_law_ranks_here"]
  f_law_told:bf K mg "_law_told" gm ["_law_errands_here", "_law_ranks_here"]
  f_law:bf K mg "law" kr ["_law_script"]
  b_ValueError:mg "ValueError"=none
  b_all:mg "all"=none
  b_bool:mg "bool"=none
  b_enumerate:mg "enumerate"=none
  b_int:mg "int"=none
  b_isinstance:mg "isinstance"=none
  b_len:mg "len"=none
  b_list:mg "list"=none
  b_min:mg "min"=none
  b_range:mg "range"=none
  b_set:mg "set"=none
  b_str:mg "str"=none
  b_tuple:mg "tuple"=none
  c_LEAST_EVERY:∃ t,mg "LEAST_EVERY"=some (.int 2 t)
  c_MOST_ERRANDS:∃ t,mg "MOST_ERRANDS"=some (.int 6 t)
  c_MOST_EVERY:∃ t,mg "MOST_EVERY"=some (.int 60 t)
  c_MOST_LATE:∃ t,mg "MOST_LATE"=some (.int 20 t)
  c_MOST_LENGTH:∃ t,mg "MOST_LENGTH"=some (.int 20 t)
  c_MOST_PARTS:∃ t,mg "MOST_PARTS"=some (.int 4 t)
  c_TOOLS:∃ t,mg "TOOLS"=some (.int 4 t)
  e_NoErrands:kI K mg "NoErrands" cs.NoErrands
  e_NoRanks:kI K mg "NoRanks" cs.NoRanks
  e_RankError:kI K mg "RankError" cs.RankError
  x_NoRanks:kU K cs.NoRanks
  i_NoRanks_NoErrands:PySem.W.kitOne K (.ref cs.NoRanks) (.ref cs.NoErrands)=some false
  i_NoRanks_RankError:PySem.W.kitOne K (.ref cs.NoRanks) (.ref cs.RankError)=some true
  i_NoRanks_ValueError:PySem.W.kitOne K (.ref cs.NoRanks) (.type "ValueError")=some true
section
variable {P:Program} {w:World} {K:PySem.W.Frag} {mg:Str→Option Value} {base:Heap} {cs:Cs}
theorem nk:a6 ["_law_script", "_law_k"] ["_law_script", "_law_k"] (ax cz):=⟨rfl,rfl,rfl,by decide +kernel,rfl,by decide +kernel,by decide +kernel⟩
theorem nC {f:Addr} {fd:FuncData} (F:Fun K "_law_cell_at" "_law_cell_at" cz f fd) (bl:mg "len"=none):fi P w K mg base CX0 1 f fd ["_law_script", "_law_k"] (qW K):=by
  refine F.ok nk (fun vs H Q E h=>?_) (fun cdv A outer s H vs Q E hr h=>?_)
  · obtain ⟨a,ns,k,rfl,_⟩:=h
    rfl
  · obtain ⟨a,ns,k,rfl,hS,hk,kk⟩:=h
    refine ⟨_,gA (qB (rJ (v9 (pv 1) (dO fc rfl bl PySem.boot_len (b4 (pv 0) df)))) (fR (ip (qA kR (pv 0) (pv 1) (fun _ _=>rfl)))) kO)
      (gA (qB (iU (nr hr.units) (pv 0) (mX df) (jh _)) (fR (ip eR)) kO)
      (fR (ip (cJ ia (cJ ix (qA kR (pv 0) (cJ jJ (pv 1) (dO fc rfl bl PySem.boot_len (b4 (pv 0) df))) (fun _ _=>rfl)) eR) (pv 1))))),?_⟩
    refine ⟨_,rfl,_,rfl,a,_,rfl,.inl hS,k,_,rfl,rfl,_,rfl,?_⟩
    have hlen:(ns.map V.int).length=ns.length:=List.length_map ..
    rw [hlen]
    refine vH (fun hc=>?_) (fun hc=>?_)
    · have hc:k < (ns.length:Int):=of_decide_eq_true hc
      have hi:k.toNat < ns.length:=by omega
      refine ⟨_,rfl,_,rfl,a,_,k,.int (ns.getD k.toNat 0),rfl,rfl,hS,oJ hk ?_,?_⟩
      · rw [List.getElem?_map,List.getElem?_eq_getElem hi,List.getD_eq_getElem?_getD,List.getElem?_eq_getElem hi]; rfl
      · have:=kk H (av.refl H)
        rw [show cellAt ns k=ns.getD k.toNat 0 by unfold cellAt; rw [if_pos hc]] at this
        exact this
    · have hc:¬ k < (ns.length:Int):=fun z=>hc (decide_eq_true z)
      refine ⟨_,rfl,Nat.zero_le _,fun p hp=>⟨.list (ns.map .int),.list [],(kY hS (kj ns)).same (gW hp),kY (SqL.of bQ) jd,shaped_ints ns,nM,_,rfl,?_⟩⟩
      rw [rn]
      refine vH (fun hz=>?_) (fun hz=>?_)
      · have hz:ns=[]:=of_decide_eq_true hz
        have:=kk _ (gW (o:=.lst []) hp)
        rw [show cellAt ns k=0 by unfold cellAt; rw [if_neg hc,if_pos hz]] at this
        exact this
      · have hz:¬ ns=[]:=fun z=>hz (decide_eq_true z)
        have hpos:0 < (ns.length:Int):=by
          cases ns with
          | nil=>exact absurd rfl hz
          | cons _ _=>simp
        have h1:0≤k % (ns.length:Int):=Int.emod_nonneg _ (by omega)
        have h2:k % (ns.length:Int) < (ns.length:Int):=Int.emod_lt_of_pos _ hpos
        have hi:(k % (ns.length:Int)).toNat < ns.length:=by omega
        have s1:av H (upd H p (.lst [])):=gW hp
        refine ⟨_,rfl,_,rfl,_,rfl,a,_,rfl,.inl (s1.seq hS),_,_,rfl,rfl,by rw [hlen]; exact hpos,a,_,_,.int (ns.getD (k % (ns.length:Int)).toNat 0),rfl,rfl,s1.seq hS,?_,_,_,rfl,rfl,.inr ⟨by decide,by decide⟩,_,rfl,_,_,rfl,rfl,?_⟩
        · rw [hlen]
          refine oJ h1 ?_
          rw [List.getElem?_map,List.getElem?_eq_getElem hi,List.getD_eq_getElem?_getD,List.getElem?_eq_getElem hi]; rfl
        · have:=kk _ s1
          rw [show cellAt ns k=ns.getD (k % (ns.length:Int)).toNat 0 * 31 + k by unfold cellAt; rw [if_neg hc,if_neg hz]] at this
          exact this
theorem lZ:a6 ["_law_script", "_law_k", "_law_many", "_law_drawn"] ["_law_script", "_law_k", "_law_many"] (ax dS):=⟨rfl,rfl,rfl,by decide +kernel,rfl,by decide +kernel,by decide +kernel⟩
theorem qC {f fC:Addr} {fd fdC:FuncData} (F:Fun K "_law_mixed" "_law_mixed" dS f fd) (FC:Fun K "_law_cell_at" "_law_cell_at" cz fC fdC) (bC:Binds K fdC ["_law_script", "_law_k"] []) (mC:mg "_law_cell_at"=some (.ref fC)) (bl:mg "len"=none):fi P w K mg base CX0 2 f fd ["_law_script", "_law_k", "_law_many"] (tK K):=by
  have GC:fi P w K mg base CX0 1 fC fdC _ (qW K):=nC FC bl
  refine F.ok lZ (fun vs H Q E h=>?_) (fun cdv A outer s H vs Q E hr h=>?_)
  · obtain ⟨a,ns,k,many,rfl,_⟩:=h
    rfl
  · obtain ⟨a,ns,k,many,rfl,hS,hk,hm,kk⟩:=h
    refine ⟨_,gA (mP (i:=3) lZ.nd rfl (Or.inl rfl) (cJ jJ (cJ ix (cJ ia (cJ ia (oA GC hr rfl mC FC.kp bC .nil wg (b4 (pv 0) (b4 (pv 1) df))) (cJ ix eR (pv 1))) eR) eR) eR))
      (fR (ip (cJ jJ (cJ jJ (cJ ia (cJ ia (cJ ix (pv 3) (pv 3)) (cJ ix eR (pv 3))) (pv 1)) eR) (pv 2)))),?_⟩
    refine ⟨_,rfl,_,rfl,a,ns,k,rfl,hS,hk,fun H1 s1=>?_⟩
    refine ⟨_,rfl,_,_,rfl,rfl,.inl ⟨by decide,by decide⟩,_,_,rfl,rfl,_,_,rfl,rfl,_,_,rfl,rfl,.inr ⟨by decide,by decide⟩,_,_,rfl,rfl,(by show (0:Int) < 2147483647; decide),?_⟩
    have b1:=r8 ns k
    have b2:=sR ns k
    have eD:(cellAt ns k + 7919 * k + 1) * 48271 % 2147483647=pF ns k:=rfl
    refine ⟨_,rfl,_,rfl,_,_,rfl,rfl,.inl ⟨?_,?_⟩,_,rfl,_,_,rfl,rfl,.inl ⟨by decide,by decide⟩,_,_,rfl,rfl,_,rfl,_,_,rfl,rfl,_,_,rfl,rfl,(by show (0:Int) < 2147483629; decide),_,rfl,_,_,rfl,rfl,hm,kk H1 s1⟩
    · show -(2 ^ 64) < (cellAt ns k + 7919 * k + 1) * 48271 % 2147483647
      rw [eD]; omega
    · show (cellAt ns k + 7919 * k + 1) * 48271 % 2147483647 < 2 ^ 64
      rw [eD]; omega
theorem aT (T:Tx K mg cs):aX P w K mg base 2 "_law_mixed" 3 ag:=by
  obtain ⟨f,fd,F,b,m⟩:=T.f_law_mixed
  obtain ⟨fC,fdC,FC,bC,mC⟩:=T.f_law_cell_at
  exact aX.old (qC F FC bC mC T.b_len) m F.kp b sg
theorem lW:a6 ["thing", "least", "most"] ["thing", "least", "most"] (ax gj):=⟨rfl,rfl,rfl,by decide +kernel,rfl,by decide +kernel,by decide +kernel⟩
theorem bM (T:Tx K mg cs) { gf:Gf} (hL:∀ ds,ds.length=3→gf ds≠.no→bz (dH cs (ds.map some++List.replicate 0 none))=gf ds):aX P w K mg base 1 "is_whole" 3 gf:=by
  obtain ⟨f,fd,F,b,m⟩:=T.f_is_whole
  exact aX.of (O:=[]) (G:=dH cs) F lW b m (by decide) (fun cdv A outer s H E hr=>(aA (cR (mx (i4 (cn (bW (g5 T.b_isinstance T.b_int nP (by simp) (ah 0)))) (gU (bW (g5 T.b_isinstance T.b_bool rO (by simp) (ah 0)))))) (aJ (ba gO)) b5)
      (aJ (ba (oF (ah 1) (ah 0) (ah 2)))))) hL
theorem lU:a6 ["thing", "fewest", "most"] ["thing", "fewest", "most"] (ax gw):=⟨rfl,rfl,rfl,by decide +kernel,rfl,by decide +kernel,by decide +kernel⟩
theorem bB (T:Tx K mg cs) { gf:Gf} (hL:∀ ds,ds.length=3→gf ds≠.no→bz (dD cs (ds.map some++List.replicate 0 none))=gf ds):aX P w K mg base 1 "is_tuple" 3 gf:=by
  obtain ⟨f,fd,F,b,m⟩:=T.f_is_tuple
  exact aX.of (O:=[]) (G:=dD cs) F lU b m (by decide) (fun cdv A outer s H E hr=>(aJ (ba (p7 (g5 T.b_isinstance T.b_tuple lR (by simp) (ah 0)) (mU (oF (ah 1) (ec T.b_len (ae (ah 0) aj)) (ah 2))))))) hL
theorem nI:a6 ["thing"] ["thing"] (ax g6):=⟨rfl,rfl,rfl,by decide +kernel,rfl,by decide +kernel,by decide +kernel⟩
theorem gZ (T:Tx K mg cs) { aw ak gf:Gf} (bM:aX P w K mg base 1 "is_whole" 3 aw) (bB:aX P w K mg base 1 "is_tuple" 3 ak) (hL:∀ ds,ds.length=1→gf ds≠.no→bz (cV cs aw ak (ds.map some++List.replicate 0 none))=gf ds):aX P w K mg base 2 "is_part" 1 gf:=by
  obtain ⟨f,fd,F,b,m⟩:=T.f_is_part
  exact aX.of (O:=[]) (G:=cV cs aw ak) F nI b m (by decide) (fun cdv A outer s H E hr=>(aA (cR (mx (i4 (cn (bW (aK bB hr aS (ae (ah 0) (ae ar (ae ar aj)))))) (gU (cn (bW (aK bM hr aS (ae (cI (ah 0) ar) (ae ar (ae (dY T.c_MOST_LENGTH) aj))))))))) (aJ (ba gO)) b5)
      (aJ (ba (vK (qz (cI (ah 0) ar)) (mU (aK bM hr aS (ae (cI (ah 0) ar) (ae ar (ae (fk (dY T.c_TOOLS) ar) aj)))))))))) hL
theorem k4:a6 ["thing"] ["thing"] (ax fA):=⟨rfl,rfl,rfl,by decide +kernel,rfl,by decide +kernel,by decide +kernel⟩
theorem i8:(["thing", "part"]:List Str).Nodup:=by decide +kernel
theorem fE (T:Tx K mg cs) { ak gf_is_part gf:Gf} (bB:aX P w K mg base 1 "is_tuple" 3 ak) (gZ:aX P w K mg base 2 "is_part" 1 gf_is_part) (hL:∀ ds,ds.length=1→gf ds≠.no→bz (cG cs ak gf_is_part (ds.map some++List.replicate 0 none))=gf ds):aX P w K mg base 3 "are_parts" 1 gf:=by
  obtain ⟨f,fd,F,b,m⟩:=T.f_are_parts
  exact aX.of (O:=[]) (G:=cG cs ak gf_is_part) F k4 b m (by decide) (fun cdv A outer s H E hr=>(aA (cR (mx (i4 (cn (bW (aK bB hr aS (ae (ah 0) (ae ar (ae (dY T.c_MOST_PARTS) aj)))))) (gU (cn (bW (nv rfl T.b_all (ae (ig (eF (M:=["thing"]) (own:=["part"]) (n0:=1) (cond:=cB) rfl (gG (ah 0)) eM (fun _ _ _ _=>(cm (i:=1) i8 rfl (Or.inl rfl) (.inr rfl))) (fun _ _ _ _=>.nil) (fun σ H Q ⟨A,δ,R,o⟩=>o H (av.refl _)) (fun _ _ _ _=>(aK gZ hr fu (ae (ah 1) aj))))) aj))))))) (aJ (ba gO)) b5)
      (aJ (ba (qz (cI (cI (ah 0) (dE ar)) ar)))))) hL
theorem dk:a6 ["thing", "every", "due", "late"] ["thing"] (ax fO):=⟨rfl,rfl,rfl,by decide +kernel,rfl,by decide +kernel,by decide +kernel⟩
theorem fv (T:Tx K mg cs) { aw gf_are_parts ak gf:Gf} (bM:aX P w K mg base 1 "is_whole" 3 aw) (fE:aX P w K mg base 3 "are_parts" 1 gf_are_parts) (bB:aX P w K mg base 1 "is_tuple" 3 ak) (hL:∀ ds,ds.length=1→gf ds≠.no→bz (bV cs aw gf_are_parts ak (ds.map some++List.replicate 3 none))=gf ds):aX P w K mg base 4 "is_errand" 1 gf:=by
  obtain ⟨f,fd,F,b,m⟩:=T.f_is_errand
  exact aX.of (O:=[]) (G:=bV cs aw gf_are_parts ak) F dk b m (by decide) (fun cdv A outer s H E hr=>(aA (cR (cn (bW (aK bB hr aS (ae (ah 0) (ae ar (ae ar aj)))))) (aJ (ba gO)) b5)
      (aA (cu (i:=1) (cI (ah 0) ar) dk.nd)
      (aA (cu (i:=2) (cI (ah 0) ar) dk.nd)
      (aA (cu (i:=3) (cI (ah 0) ar) dk.nd)
      (aA (cR (cn (bW (aK bM hr aS (ae (ah 1) (ae (dY T.c_LEAST_EVERY) (ae (dY T.c_MOST_EVERY) aj)))))) (aJ (ba gO)) b5)
      (aA (cR (cn (bW (aK bM hr aS (ae (ah 3) (ae ar (ae (oC rfl T.b_min (ae (dY T.c_MOST_LATE) (ae (fk (ah 1) ar) aj))) aj)))))) (aJ (ba gO)) b5)
      (aJ (ba (p7 (aK bM hr aS (ae (ah 2) (ae ar (ae (fk (ah 1) (ah 3)) aj)))) (mU (aK fE hr aS (ae (cI (ah 0) ar) aj))))))))))))) hL
theorem mG:a6 ["errands"] ["errands"] (ax hV):=⟨rfl,rfl,rfl,by decide +kernel,rfl,by decide +kernel,by decide +kernel⟩
theorem kA:(["errands", "errand"]:List Str).Nodup:=by decide +kernel
theorem hW (T:Tx K mg cs) { ak gf_is_errand gf:Gf} (bB:aX P w K mg base 1 "is_tuple" 3 ak) (fv:aX P w K mg base 4 "is_errand" 1 gf_is_errand) (hL:∀ ds,ds.length=1→gf ds≠.no→bz (dz cs ak gf_is_errand (ds.map some++List.replicate 0 none))=gf ds):aX P w K mg base 5 "checked" 1 gf:=by
  obtain ⟨f,fd,F,b,m⟩:=T.f_checked
  exact aX.of (O:=[]) (G:=dz cs ak gf_is_errand) F mG b m (by decide) (fun cdv A outer s H E hr=>(aA (cR (mx (i4 (cn (bW (aK bB hr aS (ae (ah 0) (ae ar (ae (dY T.c_MOST_ERRANDS) aj)))))) (gU (cn (bW (nv rfl T.b_all (ae (ig (eF (M:=["errands"]) (own:=["errand"]) (n0:=1) (cond:=cB) rfl (gG (ah 0)) eM (fun _ _ _ _=>(cm (i:=1) kA rfl (Or.inl rfl) (.inr rfl))) (fun _ _ _ _=>.nil) (fun σ H Q ⟨A,δ,R,o⟩=>o H (av.refl _)) (fun _ _ _ _=>(aK fv hr fu (ae (ah 1) aj))))) aj))))))) (aJ (hR rfl mZ T.e_NoErrands (ae k9 aj))) b5)
      (aJ (ba (ah 0))))) hL
theorem eL:a6 ["errands", "ranks", "last"] ["errands", "ranks"] (ax dh):=⟨rfl,rfl,rfl,by decide +kernel,rfl,by decide +kernel,by decide +kernel⟩
theorem gp:(["errands", "ranks", "last", "number"]:List Str).Nodup:=by decide +kernel
theorem dg (T:Tx K mg cs) { ak aw gf:Gf} (bB:aX P w K mg base 1 "is_tuple" 3 ak) (bM:aX P w K mg base 1 "is_whole" 3 aw) (hL:∀ ds,ds.length=2→gf ds≠.no→bz (bw cs ak aw (ds.map some++List.replicate 1 none))=gf ds):aX P w K mg base 2 "checked_ranks" 2 gf:=by
  obtain ⟨f,fd,F,b,m⟩:=T.f_checked_ranks
  exact aX.of (O:=[]) (G:=bw cs ak aw) F eL b m (by decide) (fun cdv A outer s H E hr=>(aA (cu (i:=2) (fk (ec T.b_len (ae (ah 0) aj)) ar) eL.nd)
      (aA (cR (mx (i4 (cn (bW (aK bB hr aS (ae (ah 1) (ae (ec T.b_len (ae (ah 0) aj)) (ae (ec T.b_len (ae (ah 0) aj)) aj)))))) (gU (cn (bW (nv rfl T.b_all (ae (ig (eF (M:=["errands", "ranks", "last"]) (own:=["number"]) (n0:=3) (cond:=cB) rfl (gG (ah 1)) eM (fun _ _ _ _=>(cm (i:=3) gp rfl (Or.inl rfl) (.inr rfl))) (fun _ _ _ _=>.nil) (fun σ H Q ⟨A,δ,R,o⟩=>o H (av.refl _)) (fun _ _ _ _=>(aK bM hr fu (ae (ah 3) (ae ar (ae (ah 2) aj))))))) aj))))))) (aJ (hR rfl mZ T.e_NoRanks (ae k9 aj))) b5)
      (aA (cR (u0 (pL rfl T.b_set T.b_len (ae (ah 1) aj)) (ec T.b_len (ae (ah 1) aj))) (aJ (hR rfl mZ T.e_NoRanks (ae k9 aj))) b5)
      (aJ (ba (ah 1))))))) hL
theorem l9:a6 ["errand", "tool"] ["errand", "tool"] (ax gx):=⟨rfl,rfl,rfl,by decide +kernel,rfl,by decide +kernel,by decide +kernel⟩
theorem jR:(["errand", "tool", "part"]:List Str).Nodup:=by decide +kernel
theorem gv (T:Tx K mg cs) { gf:Gf} (hL:∀ ds,ds.length=2→gf ds≠.no→bz (dQ cs (ds.map some++List.replicate 0 none))=gf ds):aX P w K mg base 1 "has_tool" 2 gf:=by
  obtain ⟨f,fd,F,b,m⟩:=T.f_has_tool
  exact aX.of (O:=[]) (G:=dQ cs) F l9 b m (by decide) (fun cdv A outer s H E hr=>(aJ (ba (vU (ah 1) (ig (eF (M:=["errand", "tool"]) (own:=["part"]) (n0:=2) (cond:=cB) rfl (gG (cI (ah 0) ar)) eM (fun _ _ _ _=>(cm (i:=2) jR rfl (Or.inl rfl) (.inr rfl))) (fun _ _ _ _=>.nil) (fun σ H Q ⟨A,δ,R,o⟩=>o H (av.refl _)) (fun _ _ _ _=>(cI (ah 2) ar)))))))) hL
theorem iq:a6 ["errands", "ranks", "tool", "place", "number"] ["errands", "ranks", "tool"] (ax ja):=⟨rfl,rfl,rfl,by decide +kernel,rfl,by decide +kernel,by decide +kernel⟩
theorem jI (T:Tx K mg cs) { aV gf:Gf} (gv:aX P w K mg base 1 "has_tool" 2 aV) (hL:∀ ds,ds.length=3→gf ds≠.no→bz (fw cs aV (ds.map some++List.replicate 2 none))=gf ds):aX P w K mg base 2 "height" 3 gf:=by
  obtain ⟨f,fd,F,b,m⟩:=T.f_height
  exact aX.of (O:=[]) (G:=fw cs aV) F iq b m (by decide) (fun cdv A outer s H E hr=>(aA (gQ PassesOwn.leaving rfl (qJ T.b_enumerate (ae (ah 1) aj)) (oW (is:=[3,4]) (by decide)) (qN rfl (gR (cm (i:=3) iq.nd rfl (by first | exact Or.inl rfl | exact Or.inr rfl)) (gR (cm (i:=4) iq.nd rfl (by first | exact Or.inl rfl | exact Or.inr rfl)) oO))) (aJ (cR (bW (aK gv hr aS (ae (cI (ah 0) (ah 4)) (ae (ah 2) aj)))) (aJ (ba (ah 3))) b5)))
      (aJ (ba ee)))) hL
theorem jU:a6 ["errands", "ranks"] ["errands", "ranks"] (ax fb):=⟨rfl,rfl,rfl,by decide +kernel,rfl,by decide +kernel,by decide +kernel⟩
theorem iN:(["errands", "ranks", "tool"]:List Str).Nodup:=by decide +kernel
theorem eY (T:Tx K mg cs) { bo gf:Gf} (jI:aX P w K mg base 2 "height" 3 bo) (hL:∀ ds,ds.length=2→gf ds≠.no→bz (cT cs bo (ds.map some++List.replicate 0 none))=gf ds):aX P w K mg base 3 "heights_of" 2 gf:=by
  obtain ⟨f,fd,F,b,m⟩:=T.f_heights_of
  exact aX.of (O:=[]) (G:=cT cs bo) F jU b m (by decide) (fun cdv A outer s H E hr=>(aJ (ba (ig (eF (M:=["errands", "ranks"]) (own:=["tool"]) (n0:=2) (cond:=cB) rfl (eO T.b_range (ae (dY T.c_TOOLS) aj)) eM (fun _ _ _ _=>(cm (i:=2) iN rfl (Or.inl rfl) (.inr rfl))) (fun _ _ _ _=>.nil) (fun σ H Q ⟨A,δ,R,o⟩=>o H (av.refl _)) (fun _ _ _ _=>(aK jI hr fu (ae (ah 0) (ae (ah 1) (ae (ah 2) aj)))))))))) hL
theorem nR:a6 ["errands", "ranks"] ["errands", "ranks"] (ax g8):=⟨rfl,rfl,rfl,by decide +kernel,rfl,by decide +kernel,by decide +kernel⟩
theorem ij (T:Tx K mg cs) { aN aF a8 gf:Gf} (eY:aX P w K mg base 3 "heights_of" 2 aN) (dg:aX P w K mg base 2 "checked_ranks" 2 aF) (hW:aX P w K mg base 5 "checked" 1 a8) (hL:∀ ds,ds.length=2→gf ds≠.no→bz (cW cs aN aF a8 (ds.map some++List.replicate 0 none))=gf ds):aX P w K mg base 6 "heights" 2 gf:=by
  obtain ⟨f,fd,F,b,m⟩:=T.f_heights
  exact aX.of (O:=[]) (G:=cW cs aN aF a8) F nR b m (by decide) (fun cdv A outer s H E hr=>(aA (lO (aK hW hr aS (ae (ah 0) aj)))
      (aA (lO (aK dg hr aS (ae (ah 0) (ae (ah 1) aj))))
      (aJ (ba (aK eY hr aS (ae (ah 0) (ae (ah 1) aj)))))))) hL
theorem br:a6 ["_law_script", "_law_at", "_law_top", "_law_tools", "_law_every", "_law_late", "_law_due", "_law_parts", "_law_k", "_law_cell"] ["_law_script", "_law_at", "_law_top", "_law_tools"] (ax eP):=⟨rfl,rfl,rfl,by decide +kernel,rfl,by decide +kernel,by decide +kernel⟩
theorem e8 (T:Tx K mg cs) { ag gf:Gf} (aT:aX P w K mg base 2 "_law_mixed" 3 ag) (hL:∀ ds,ds.length=4→gf ds≠.no→bz (cN cs ag (ds.map some++List.replicate 6 none))=gf ds):aX P w K mg base 3 "_law_errand" 4 gf:=by
  obtain ⟨f,fd,F,b,m⟩:=T.f_law_errand
  exact aX.of (O:=[7]) (G:=cN cs ag) F br b m (by decide) (fun cdv A outer s H E hr=>(aA (cu (i:=4) (bE ar (aK aT hr aS (ae (ah 0) (ae (ah 1) (ae (ah 2) aj))))) br.nd)
      (aA (cu (i:=5) (rh (aK aT hr aS (ae (ah 0) (ae (bE (ah 1) ar) (ae ar aj)))) (qc T.b_int (ae (tV hr (aK aT hr aS (ae (ah 0) (ae (bE (ah 1) ar) (ae ar aj)))) ar) aj))) br.nd)
      (aA (cu (i:=5) (oC rfl T.b_min (ae (ah 5) (ae (fk (ah 4) ar) aj))) br.nd)
      (aA (cu (i:=6) (fk (ah 4) (ah 5)) br.nd)
      (aA (cR (vd hr (aK aT hr aS (ae (ah 0) (ae (bE (ah 1) ar) (ae ar aj)))) ar) (aJ (cu (i:=6) (fk (ah 6) (aK aT hr aS (ae (ah 0) (ae (bE (ah 1) ar) (ae (ah 6) aj))))) br.nd)) b5)
      (aA (gJ (i:=7) (iP aj) br.nd)
      (aA (gQ PassesOwn.leaving rfl (eO T.b_range (ae (aK aT hr aS (ae (ah 0) (ae (bE (ah 1) ar) (ae ar aj)))) aj)) (jl (i:=8) (by decide)) (cm (i:=8) br.nd rfl (by first | exact Or.inl rfl | exact Or.inr rfl)) (aA (cu (i:=9) (aK aT hr aS (ae (ah 0) (ae (bE (bE (ah 1) ar) (ah 8)) (ae ar aj)))) br.nd)
      (aA (rV (i:=7) (d6 (ae (bE ar (qf (ah 9) ar)) (ae (cI (nE (ae ar (ae ar (ae ar (ae ar (ae ee aj)))))) (qf (uJ (ah 9) ar) ar)) aj))))
      (aJ (cR (cn (bW (ah 3))) (aJ (om (i:=7) (d6 (ae (cI (cI (ah 7) (dE ar)) ar) (ae ee aj))) (dE ar))) b5)))))
      (aJ (ba (d6 (ae (ah 4) (ae (ah 6) (ae (ah 5) (ae (f9 T.b_tuple (ae (bE (ah 7) (nE (ae (d6 (ae (bE ar (aK aT hr aS (ae (ah 0) (ae (bE (ah 1) ar) (ae ar aj))))) (ae ee aj))) aj))) aj)) aj))))))))))))))) hL
theorem fq:a6 ["_law_script", "_law_at", "_law_most", "_law_top", "_law_tools", "_law_many"] ["_law_script", "_law_at", "_law_most", "_law_top", "_law_tools"] (ax d8):=⟨rfl,rfl,rfl,by decide +kernel,rfl,by decide +kernel,by decide +kernel⟩
theorem g9:(["_law_script", "_law_at", "_law_most", "_law_top", "_law_tools", "_law_many", "_law_k"]:List Str).Nodup:=by decide +kernel
theorem d7 (T:Tx K mg cs) { aO ag gf:Gf} (e8:aX P w K mg base 3 "_law_errand" 4 aO) (aT:aX P w K mg base 2 "_law_mixed" 3 ag) (hL:∀ ds,ds.length=5→gf ds≠.no→bz (cy cs aO ag (ds.map some++List.replicate 1 none))=gf ds):aX P w K mg base 4 "_law_errands" 5 gf:=by
  obtain ⟨f,fd,F,b,m⟩:=T.f_law_errands
  exact aX.of (O:=[]) (G:=cy cs aO ag) F fq b m (by decide) (fun cdv A outer s H E hr=>(aA (cu (i:=5) (bE ar (aK aT hr aS (ae (ah 0) (ae (ah 1) (ae (ah 2) aj))))) fq.nd)
      (aJ (ba (f9 T.b_tuple (ae (ig (eF (M:=["_law_script", "_law_at", "_law_most", "_law_top", "_law_tools", "_law_many"]) (own:=["_law_k"]) (n0:=6) (cond:=cB) rfl (eO T.b_range (ae (ah 5) aj)) eM (fun _ _ _ _=>(cm (i:=6) g9 rfl (Or.inl rfl) (.inr rfl))) (fun _ _ _ _=>.nil) (fun σ H Q ⟨A,δ,R,o⟩=>o H (av.refl _)) (fun _ _ _ _=>(aK e8 hr fu (ae (ah 0) (ae (bE (bE (ah 1) ar) (rh ar (ah 6))) (ae (ah 3) (ae (ah 4) aj)))))))) aj)))))) hL
theorem dq:a6 ["_law_script", "_law_at", "_law_many", "_law_left", "_law_made", "_law_k"] ["_law_script", "_law_at", "_law_many"] (ax fJ):=⟨rfl,rfl,rfl,by decide +kernel,rfl,by decide +kernel,by decide +kernel⟩
theorem fN (T:Tx K mg cs) { ag gf:Gf} (aT:aX P w K mg base 2 "_law_mixed" 3 ag) (hL:∀ ds,ds.length=3→gf ds≠.no→bz (c9 cs ag (ds.map some++List.replicate 3 none))=gf ds):aX P w K mg base 3 "_law_ranks" 3 gf:=by
  obtain ⟨f,fd,F,b,m⟩:=T.f_law_ranks
  exact aX.of (O:=[3,4]) (G:=c9 cs ag) F dq b m (by decide) (fun cdv A outer s H E hr=>(aA (gJ (i:=3) (pE rfl T.b_range T.b_list (ae (ah 2) aj)) dq.nd)
      (aA (gJ (i:=4) (iP aj) dq.nd)
      (aA (gQ PassesOwn.leaving rfl (eO T.b_range (ae (ah 2) aj)) (jl (i:=5) (by decide)) (cm (i:=5) dq.nd rfl (by first | exact Or.inl rfl | exact Or.inr rfl)) (aJ (nU (y:=4) (x:=3) (aK aT hr aS (ae (ah 0) (ae (bE (ah 1) (ah 5)) (ae (ec T.b_len (ae (ah 3) aj)) aj)))))))
      (aJ (ba (f9 T.b_tuple (ae (ah 4) aj)))))))) hL
theorem b9:a6 ["_law_errands_here", "_law_ranks_here", "_law_found", "_law_place", "_law_length", "_law_tool"] ["_law_errands_here", "_law_ranks_here"] (ax ez):=⟨rfl,rfl,rfl,by decide +kernel,rfl,by decide +kernel,by decide +kernel⟩
theorem en (T:Tx K mg cs) { gf:Gf} (hL:∀ ds,ds.length=2→gf ds≠.no→bz (cC cs (ds.map some++List.replicate 4 none))=gf ds):aX P w K mg base 1 "_law_heights" 2 gf:=by
  obtain ⟨f,fd,F,b,m⟩:=T.f_law_heights
  exact aX.of (O:=[2]) (G:=cC cs) F b9 b m (by decide) (fun cdv A outer s H E hr=>(aA (gJ (i:=2) (iP (ae ee (ae ee (ae ee (ae ee aj))))) b9.nd)
      (aA (gQ PassesOwn.leaving rfl (mT T.b_range (ae (fk (ec T.b_len (ae (ah 1) aj)) ar) (ae (dE ar) (ae (dE ar) aj)))) (jl (i:=3) (by decide)) (cm (i:=3) b9.nd rfl (by first | exact Or.inl rfl | exact Or.inr rfl)) (aJ (gQ PassesOwn.leaving rfl (gG (cI (cI (ah 0) (cI (ah 1) (ah 3))) ar)) (oW (is:=[4,5]) (by decide)) (qN rfl (gR (cm (i:=4) b9.nd rfl (by first | exact Or.inl rfl | exact Or.inr rfl)) (gR (cm (i:=5) b9.nd rfl (by first | exact Or.inl rfl | exact Or.inr rfl)) oO))) (aJ (cR (qQ (ah 5)) (aJ (om (i:=2) (ah 3) (ah 5))) b5)))))
      (aJ (ba (ah 2)))))) hL
theorem iE:a6 ["_law_errands_here", "_law_ranks_here", "e"] ["_law_errands_here", "_law_ranks_here"] (ax gm):=⟨rfl,rfl,rfl,by decide +kernel,rfl,by decide +kernel,by decide +kernel⟩
theorem e6 (T:Tx K mg cs) { bh gf:Gf} (ij:aX P w K mg base 6 "heights" 2 bh) (hL:∀ ds,ds.length=2→gf ds≠.no→bz (gu cs bh (ds.map some++List.replicate 1 none))=gf ds):aX P w K mg base 7 "_law_told" 2 gf:=by
  obtain ⟨f,fd,F,b,m⟩:=T.f_law_told
  exact aX.of (O:=[]) (G:=gu cs bh) F iE b m (by decide) (fun cdv A outer s H E hr=>(aJ (mR (i:=2) (d:=(.str "none")) ij hr (ae (ah 0) (ae (ah 1) aj)) T.e_NoRanks iE.nd rfl (by intro ea oe ho; exact rC (by rfl) (sA (oH (mS mW ho T.x_NoRanks T.b_isinstance rfl (k8 (v:=.ref cs.RankError) rfl T.e_RankError.m rfl) rfl T.i_NoRanks_RankError) (oH (mS mW ho T.x_NoRanks T.b_isinstance rfl (n9 (v:=.ty "ValueError") rfl T.b_ValueError jN rfl) rfl T.i_NoRanks_ValueError) (sH (sE (mS mW ho T.x_NoRanks T.b_isinstance rfl (k8 (v:=.ref cs.NoErrands) rfl T.e_NoErrands.m rfl) rfl T.i_NoRanks_NoErrands))))) T.b_int))))) hL
theorem lp:a6 ["_law_script", "_law_errands_here", "_law_ranks_here", "_law_some"] ["_law_script"] (ax kr):=⟨rfl,rfl,rfl,by decide +kernel,rfl,by decide +kernel,by decide +kernel⟩
theorem law_fn (T:Tx K mg cs) {f:Addr} {fd:FuncData} (F:Fun K "law" "law" kr f fd) { ag aH aB aL aC gf:Gf} (aT:aX P w K mg base 2 "_law_mixed" 3 ag) (e6:aX P w K mg base 7 "_law_told" 2 aH) (en:aX P w K mg base 1 "_law_heights" 2 aB) (fN:aX P w K mg base 3 "_law_ranks" 3 aL) (d7:aX P w K mg base 4 "_law_errands" 5 aC) (hL:∀ ds,ds.length=1→gf ds≠.no→bz (ke cs ag aH aB aL aC (ds.map some++List.replicate 3 none))=gf ds):fi P w K mg base (CXW P w) 8 f fd ["_law_script"] (spD K 1 gf) :=
  sx (O:=[3]) (G:=ke cs ag aH aB aL aC) F lp (by decide) (fun cdv A outer s H E hr=>(aA (cu (i:=1) (aK d7 hr aS (ae (ah 0) (ae ar (ae ar (ae ar (ae gO aj)))))) lp.nd)
      (aA (cu (i:=2) (aK fN hr aS (ae (ah 0) (ae ar (ae (ec T.b_len (ae (ah 1) aj)) aj)))) lp.nd)
      (aA (cR (uZ hr (aK e6 hr aS (ae (ah 1) (ae (ah 2) aj))) (aK en hr aS (ae (ah 1) (ae (ah 2) aj)))) (aJ (ba gO)) b5)
      (aA (gJ (i:=3) (iP (ae (pI T.b_list (ae (ah 2) aj)) (ae (bE (ah 2) (dP (ah 2) dJ (dC ar))) (ae (dP (ah 2) (dC ar) dJ) (ae (bE (dP (ah 2) dJ (dC (dE ar))) (d6 (ae (ec T.b_len (ae (ah 2) aj)) aj))) (ae (bE (dP (ah 2) dJ (dC (dE ar))) (d6 (ae (dE ar) aj))) (ae ee (ae ar aj)))))))) lp.nd)
      (aA (sO (i:=3) (nE (ae (bE (dP (ah 2) dJ (dC (dE ar))) (d6 (ae (qL T.b_str (ae (cI (ah 2) (dE ar)) aj)) aj))) (ae (bE (d6 (ae gO aj)) (dP (ah 2) (dC ar) dJ)) (ae (bE (dP (ah 2) dJ (dC (dE ar))) (d6 (ae ee aj))) (ae (bE (ah 2) (d6 (ae (ec T.b_len (ae (ah 2) aj)) aj))) aj))))))
      (aJ (ba (tV hr (aK e6 hr aS (ae (ah 1) (ae (cI (ah 3) (aK aT hr aS (ae (ah 0) (ae ar (ae ar aj))))) aj))) k9))))))))) hL
theorem law_ok (T:Tx K mg cs) {f:Addr} {fd:FuncData} (F:Fun K "law" "law" kr f fd):fi P w K mg base (CXW P w) 8 f fd ["_law_script"] (spD K 1 (dX 63)):=by
  have d_law_mixed:=aT (P:=P) (w:=w) (base:=base) T
  have d_has_tool:=gv (P:=P) (w:=w) (base:=base) T (mV cs)
  have d_height:=jI (P:=P) (w:=w) (base:=base) T d_has_tool (q9 cs)
  have d_heights_of:=eY (P:=P) (w:=w) (base:=base) T d_height (k6 cs)
  have d_is_tuple:=bB (P:=P) (w:=w) (base:=base) T (mF cs)
  have d_is_whole:=bM (P:=P) (w:=w) (base:=base) T (mO cs)
  have d_checked_ranks:=dg (P:=P) (w:=w) (base:=base) T d_is_tuple d_is_whole (iK cs)
  have d_is_part:=gZ (P:=P) (w:=w) (base:=base) T d_is_whole d_is_tuple (o6 cs)
  have d_are_parts:=fE (P:=P) (w:=w) (base:=base) T d_is_tuple d_is_part (lQ cs)
  have d_is_errand:=fv (P:=P) (w:=w) (base:=base) T d_is_whole d_are_parts d_is_tuple (mw cs)
  have d_checked:=hW (P:=P) (w:=w) (base:=base) T d_is_tuple d_is_errand (pw cs)
  have d_heights:=ij (P:=P) (w:=w) (base:=base) T d_heights_of d_checked_ranks d_checked (pQ cs)
  have d_law_told:=e6 (P:=P) (w:=w) (base:=base) T d_heights (mD cs)
  have d_law_heights:=en (P:=P) (w:=w) (base:=base) T (jV cs)
  have d_law_ranks:=fN (P:=P) (w:=w) (base:=base) T d_law_mixed (mi cs)
  have d_law_errand:=e8 (P:=P) (w:=w) (base:=base) T d_law_mixed (kJ cs)
  have d_law_errands:=d7 (P:=P) (w:=w) (base:=base) T d_law_errand d_law_mixed (jM cs)
  exact law_fn T F d_law_mixed d_law_told d_law_heights d_law_ranks d_law_errands (wz cs)
end
end RS
namespace RS
theorem pA:∀ {us:List PySem.Value},us.length=1→∃ a0,us=[a0]
  | [a0],_=>⟨_,rfl⟩
theorem mE:∀ {us:List PySem.Value},us.length=2→∃ a0 a1,us=[a0,a1]
  | [a0,a1],_=>⟨_,_,rfl⟩
theorem qt:∀ {us:List PySem.Value},us.length=3→∃ a0 a1 a2,us=[a0,a1,a2]
  | [a0,a1,a2],_=>⟨_,_,_,rfl⟩
theorem wN:∀ {us:List PySem.Value},us.length=4→∃ a0 a1 a2 a3,us=[a0,a1,a2,a3]
  | [a0,a1,a2,a3],_=>⟨_,_,_,_,rfl⟩
theorem xi:∀ {us:List PySem.Value},us.length=5→∃ a0 a1 a2 a3 a4,us=[a0,a1,a2,a3,a4]
  | [a0,a1,a2,a3,a4],_=>⟨_,_,_,_,_,rfl⟩
theorem xD:∀ {us:List PySem.Value},us.length=6→∃ a0 a1 a2 a3 a4 a5,us=[a0,a1,a2,a3,a4,a5]
  | [a0,a1,a2,a3,a4,a5],_=>⟨_,_,_,_,_,_,rfl⟩
end RS
open PySem PySem.W PyProof.Rows
set_option maxRecDepth 100000 in
set_option maxHeartbeats 0 in
theorem PySem.Challenge.cw_ranksure_k02_heights_holds : PySem.Challenge.rw_ranksure_k02_heights.Holds := by
  w_on; o_law; k_head; (case hw=>w_witness2)
  k_fill
  refine RS.vO (l:=PySem.Challenge.rw_ranksure_k02_heights) (n:=63) (k:=8) (x:="_law_script") (st:=RS.kr) rfl (by decide) rfl ⟨rfl,by decide,by decide⟩ (fun w h Y=>PySem.W.kIn_of Y) (fun _ _ _ _ _ _ us hl=>by obtain ⟨_,rfl⟩:=RS.pA hl; rfl) ?F
  case F =>
    intro w mg h KX G
    have f_is_whole:RS.bf (L2.KOf KX) mg "is_whole" RS.gj ["thing", "least", "most"]:=by
      delta L2.KOf
      refine' RS.bg KX G (fun _ _ _ _ _ _ us hl=>by obtain ⟨_,_,_,rfl⟩:=RS.qt hl; rfl) ?a_is_whole ?l_is_whole ?c_is_whole ?k_is_whole
      (case a_is_whole=>k_is); (case l_is_whole=>k_is); (case c_is_whole=>k_is); (case k_is_whole=>k_is)
    have f_is_tuple:RS.bf (L2.KOf KX) mg "is_tuple" RS.gw ["thing", "fewest", "most"]:=by
      delta L2.KOf
      refine' RS.bg KX G (fun _ _ _ _ _ _ us hl=>by obtain ⟨_,_,_,rfl⟩:=RS.qt hl; rfl) ?a_is_tuple ?l_is_tuple ?c_is_tuple ?k_is_tuple
      (case a_is_tuple=>k_is); (case l_is_tuple=>k_is); (case c_is_tuple=>k_is); (case k_is_tuple=>k_is)
    have f_is_part:RS.bf (L2.KOf KX) mg "is_part" RS.g6 ["thing"]:=by
      delta L2.KOf
      refine' RS.bg KX G (fun _ _ _ _ _ _ us hl=>by obtain ⟨_,rfl⟩:=RS.pA hl; rfl) ?a_is_part ?l_is_part ?c_is_part ?k_is_part
      (case a_is_part=>k_is); (case l_is_part=>k_is); (case c_is_part=>k_is); (case k_is_part=>k_is)
    have f_are_parts:RS.bf (L2.KOf KX) mg "are_parts" RS.fA ["thing"]:=by
      delta L2.KOf
      refine' RS.bg KX G (fun _ _ _ _ _ _ us hl=>by obtain ⟨_,rfl⟩:=RS.pA hl; rfl) ?a_are_parts ?l_are_parts ?c_are_parts ?k_are_parts
      (case a_are_parts=>k_is); (case l_are_parts=>k_is); (case c_are_parts=>k_is); (case k_are_parts=>k_is)
    have f_is_errand:RS.bf (L2.KOf KX) mg "is_errand" RS.fO ["thing"]:=by
      delta L2.KOf
      refine' RS.bg KX G (fun _ _ _ _ _ _ us hl=>by obtain ⟨_,rfl⟩:=RS.pA hl; rfl) ?a_is_errand ?l_is_errand ?c_is_errand ?k_is_errand
      (case a_is_errand=>k_is); (case l_is_errand=>k_is); (case c_is_errand=>k_is); (case k_is_errand=>k_is)
    have f_checked:RS.bf (L2.KOf KX) mg "checked" RS.hV ["errands"]:=by
      delta L2.KOf
      refine' RS.bg KX G (fun _ _ _ _ _ _ us hl=>by obtain ⟨_,rfl⟩:=RS.pA hl; rfl) ?a_checked ?l_checked ?c_checked ?k_checked
      (case a_checked=>k_is); (case l_checked=>k_is); (case c_checked=>k_is); (case k_checked=>k_is)
    have f_checked_ranks:RS.bf (L2.KOf KX) mg "checked_ranks" RS.dh ["errands", "ranks"]:=by
      delta L2.KOf
      refine' RS.bg KX G (fun _ _ _ _ _ _ us hl=>by obtain ⟨_,_,rfl⟩:=RS.mE hl; rfl) ?a_checked_ranks ?l_checked_ranks ?c_checked_ranks ?k_checked_ranks
      (case a_checked_ranks=>k_is); (case l_checked_ranks=>k_is); (case c_checked_ranks=>k_is); (case k_checked_ranks=>k_is)
    have f_has_tool:RS.bf (L2.KOf KX) mg "has_tool" RS.gx ["errand", "tool"]:=by
      delta L2.KOf
      refine' RS.bg KX G (fun _ _ _ _ _ _ us hl=>by obtain ⟨_,_,rfl⟩:=RS.mE hl; rfl) ?a_has_tool ?l_has_tool ?c_has_tool ?k_has_tool
      (case a_has_tool=>k_is); (case l_has_tool=>k_is); (case c_has_tool=>k_is); (case k_has_tool=>k_is)
    have f_height:RS.bf (L2.KOf KX) mg "height" RS.ja ["errands", "ranks", "tool"]:=by
      delta L2.KOf
      refine' RS.bg KX G (fun _ _ _ _ _ _ us hl=>by obtain ⟨_,_,_,rfl⟩:=RS.qt hl; rfl) ?a_height ?l_height ?c_height ?k_height
      (case a_height=>k_is); (case l_height=>k_is); (case c_height=>k_is); (case k_height=>k_is)
    have f_heights_of:RS.bf (L2.KOf KX) mg "heights_of" RS.fb ["errands", "ranks"]:=by
      delta L2.KOf
      refine' RS.bg KX G (fun _ _ _ _ _ _ us hl=>by obtain ⟨_,_,rfl⟩:=RS.mE hl; rfl) ?a_heights_of ?l_heights_of ?c_heights_of ?k_heights_of
      (case a_heights_of=>k_is); (case l_heights_of=>k_is); (case c_heights_of=>k_is); (case k_heights_of=>k_is)
    have f_heights:RS.bf (L2.KOf KX) mg "heights" RS.g8 ["errands", "ranks"]:=by
      delta L2.KOf
      refine' RS.bg KX G (fun _ _ _ _ _ _ us hl=>by obtain ⟨_,_,rfl⟩:=RS.mE hl; rfl) ?a_heights ?l_heights ?c_heights ?k_heights
      (case a_heights=>k_is); (case l_heights=>k_is); (case c_heights=>k_is); (case k_heights=>k_is)
    have f_law_cell_at:RS.bf (L2.KOf KX) mg "_law_cell_at" RS.cz ["_law_script", "_law_k"]:=by
      delta L2.KOf
      refine' RS.bg KX G (fun _ _ _ _ _ _ us hl=>by obtain ⟨_,_,rfl⟩:=RS.mE hl; rfl) ?a_law_cell_at ?l_law_cell_at ?c_law_cell_at ?k_law_cell_at
      (case a_law_cell_at=>k_is); (case l_law_cell_at=>k_is); (case c_law_cell_at=>k_is); (case k_law_cell_at=>k_is)
    have f_law_mixed:RS.bf (L2.KOf KX) mg "_law_mixed" RS.dS ["_law_script", "_law_k", "_law_many"]:=by
      delta L2.KOf
      refine' RS.bg KX G (fun _ _ _ _ _ _ us hl=>by obtain ⟨_,_,_,rfl⟩:=RS.qt hl; rfl) ?a_law_mixed ?l_law_mixed ?c_law_mixed ?k_law_mixed
      (case a_law_mixed=>k_is); (case l_law_mixed=>k_is); (case c_law_mixed=>k_is); (case k_law_mixed=>k_is)
    have f_law_errand:RS.bf (L2.KOf KX) mg "_law_errand" RS.eP ["_law_script", "_law_at", "_law_top", "_law_tools"]:=by
      delta L2.KOf
      refine' RS.bg KX G (fun _ _ _ _ _ _ us hl=>by obtain ⟨_,_,_,_,rfl⟩:=RS.wN hl; rfl) ?a_law_errand ?l_law_errand ?c_law_errand ?k_law_errand
      (case a_law_errand=>k_is); (case l_law_errand=>k_is); (case c_law_errand=>k_is); (case k_law_errand=>k_is)
    have f_law_errands:RS.bf (L2.KOf KX) mg "_law_errands" RS.d8 ["_law_script", "_law_at", "_law_most", "_law_top", "_law_tools"]:=by
      delta L2.KOf
      refine' RS.bg KX G (fun _ _ _ _ _ _ us hl=>by obtain ⟨_,_,_,_,_,rfl⟩:=RS.xi hl; rfl) ?a_law_errands ?l_law_errands ?c_law_errands ?k_law_errands
      (case a_law_errands=>k_is); (case l_law_errands=>k_is); (case c_law_errands=>k_is); (case k_law_errands=>k_is)
    have f_law_ranks:RS.bf (L2.KOf KX) mg "_law_ranks" RS.fJ ["_law_script", "_law_at", "_law_many"]:=by
      delta L2.KOf
      refine' RS.bg KX G (fun _ _ _ _ _ _ us hl=>by obtain ⟨_,_,_,rfl⟩:=RS.qt hl; rfl) ?a_law_ranks ?l_law_ranks ?c_law_ranks ?k_law_ranks
      (case a_law_ranks=>k_is); (case l_law_ranks=>k_is); (case c_law_ranks=>k_is); (case k_law_ranks=>k_is)
    have f_law_heights:RS.bf (L2.KOf KX) mg "_law_heights" RS.ez ["_law_errands_here", "_law_ranks_here"]:=by
      delta L2.KOf
      refine' RS.bg KX G (fun _ _ _ _ _ _ us hl=>by obtain ⟨_,_,rfl⟩:=RS.mE hl; rfl) ?a_law_heights ?l_law_heights ?c_law_heights ?k_law_heights
      (case a_law_heights=>k_is); (case l_law_heights=>k_is); (case c_law_heights=>k_is); (case k_law_heights=>k_is)
    have f_law_told:RS.bf (L2.KOf KX) mg "_law_told" RS.gm ["_law_errands_here", "_law_ranks_here"]:=by
      delta L2.KOf
      refine' RS.bg KX G (fun _ _ _ _ _ _ us hl=>by obtain ⟨_,_,rfl⟩:=RS.mE hl; rfl) ?a_law_told ?l_law_told ?c_law_told ?k_law_told
      (case a_law_told=>k_is); (case l_law_told=>k_is); (case c_law_told=>k_is); (case k_law_told=>k_is)
    have f_law:RS.bf (L2.KOf KX) mg "law" RS.kr ["_law_script"]:=by
      delta L2.KOf
      refine' RS.bg KX G (fun _ _ _ _ _ _ us hl=>by obtain ⟨_,rfl⟩:=RS.pA hl; rfl) ?a_law ?l_law ?c_law ?k_law
      (case a_law=>k_is); (case l_law=>k_is); (case c_law=>k_is); (case k_law=>k_is)
    have b_ValueError:mg "ValueError"=none:=by
      refine' PySem.W.mg_none_of KX G ?z_ValueError
      (case z_ValueError=>k_is)
    have b_all:mg "all"=none:=by
      refine' PySem.W.mg_none_of KX G ?z_all
      (case z_all=>k_is)
    have b_bool:mg "bool"=none:=by
      refine' PySem.W.mg_none_of KX G ?z_bool
      (case z_bool=>k_is)
    have b_enumerate:mg "enumerate"=none:=by
      refine' PySem.W.mg_none_of KX G ?z_enumerate
      (case z_enumerate=>k_is)
    have b_int:mg "int"=none:=by
      refine' PySem.W.mg_none_of KX G ?z_int
      (case z_int=>k_is)
    have b_isinstance:mg "isinstance"=none:=by
      refine' PySem.W.mg_none_of KX G ?z_isinstance
      (case z_isinstance=>k_is)
    have b_len:mg "len"=none:=by
      refine' PySem.W.mg_none_of KX G ?z_len
      (case z_len=>k_is)
    have b_list:mg "list"=none:=by
      refine' PySem.W.mg_none_of KX G ?z_list
      (case z_list=>k_is)
    have b_min:mg "min"=none:=by
      refine' PySem.W.mg_none_of KX G ?z_min
      (case z_min=>k_is)
    have b_range:mg "range"=none:=by
      refine' PySem.W.mg_none_of KX G ?z_range
      (case z_range=>k_is)
    have b_set:mg "set"=none:=by
      refine' PySem.W.mg_none_of KX G ?z_set
      (case z_set=>k_is)
    have b_str:mg "str"=none:=by
      refine' PySem.W.mg_none_of KX G ?z_str
      (case z_str=>k_is)
    have b_tuple:mg "tuple"=none:=by
      refine' PySem.W.mg_none_of KX G ?z_tuple
      (case z_tuple=>k_is)
    have c_LEAST_EVERY:∃ t,mg "LEAST_EVERY"=some (.int 2 t):=by
      refine' RS.eV KX G ?z_LEAST_EVERY
      (case z_LEAST_EVERY=>k_is)
    have c_MOST_ERRANDS:∃ t,mg "MOST_ERRANDS"=some (.int 6 t):=by
      refine' RS.eV KX G ?z_MOST_ERRANDS
      (case z_MOST_ERRANDS=>k_is)
    have c_MOST_EVERY:∃ t,mg "MOST_EVERY"=some (.int 60 t):=by
      refine' RS.eV KX G ?z_MOST_EVERY
      (case z_MOST_EVERY=>k_is)
    have c_MOST_LATE:∃ t,mg "MOST_LATE"=some (.int 20 t):=by
      refine' RS.eV KX G ?z_MOST_LATE
      (case z_MOST_LATE=>k_is)
    have c_MOST_LENGTH:∃ t,mg "MOST_LENGTH"=some (.int 20 t):=by
      refine' RS.eV KX G ?z_MOST_LENGTH
      (case z_MOST_LENGTH=>k_is)
    have c_MOST_PARTS:∃ t,mg "MOST_PARTS"=some (.int 4 t):=by
      refine' RS.eV KX G ?z_MOST_PARTS
      (case z_MOST_PARTS=>k_is)
    have c_TOOLS:∃ t,mg "TOOLS"=some (.int 4 t):=by
      refine' RS.eV KX G ?z_TOOLS
      (case z_TOOLS=>k_is)
    obtain ⟨C_NoErrands,C_NoRanks,C_RankError,e_NoErrands,e_NoRanks,e_RankError,x_NoRanks,i_NoRanks_NoErrands,i_NoRanks_RankError,i_NoRanks_ValueError⟩:∃ C_NoErrands C_NoRanks C_RankError:Addr,L2.kI (L2.KOf KX) mg "NoErrands" C_NoErrands∧L2.kI (L2.KOf KX) mg "NoRanks" C_NoRanks∧L2.kI (L2.KOf KX) mg "RankError" C_RankError∧L2.kU (L2.KOf KX) C_NoRanks∧PySem.W.kitOne (L2.KOf KX) (.ref C_NoRanks) (.ref C_NoErrands)=some false∧PySem.W.kitOne (L2.KOf KX) (.ref C_NoRanks) (.ref C_RankError)=some true∧PySem.W.kitOne (L2.KOf KX) (.ref C_NoRanks) (.type "ValueError")=some true:=by
      delta L2.KOf
      refine' ⟨_,_,_,RS.kS KX G ?a_NoErrands ?e_NoErrands,RS.kS KX G ?a_NoRanks ?e_NoRanks,RS.kS KX G ?a_RankError ?e_RankError,⟨?xga_NoRanks,?xgt_NoRanks,?xcl_NoRanks,?xca_NoRanks,?xgs_NoRanks,?xtk_NoRanks,?xob_NoRanks,?xbe_NoRanks⟩,?i_NoRanks_NoErrands,?i_NoRanks_RankError,?i_NoRanks_ValueError⟩
      (case a_NoErrands=>k_is); (case e_NoErrands=>k_exc)
      (case a_NoRanks=>k_is); (case e_NoRanks=>k_exc)
      (case a_RankError=>k_is); (case e_RankError=>k_exc)
      (case xga_NoRanks=>k_is); (case xgt_NoRanks=>k_is); (case xcl_NoRanks=>k_is); (case xca_NoRanks=>k_is); (case xgs_NoRanks=>k_is); (case xtk_NoRanks=>k_is); (case xob_NoRanks=>k_is); (case xbe_NoRanks=>k_is)
      (case i_NoRanks_NoErrands=>kit_is)
      (case i_NoRanks_RankError=>kit_is)
      (case i_NoRanks_ValueError=>kit_is)
    have T:RS.Tx (L2.KOf KX) mg ⟨C_RankError,C_NoErrands,C_NoRanks,0,0,0,0,0,0,0⟩:=⟨f_is_whole,f_is_tuple,f_is_part,f_are_parts,f_is_errand,f_checked,f_checked_ranks,f_has_tool,f_height,f_heights_of,f_heights,f_law_cell_at,f_law_mixed,f_law_errand,f_law_errands,f_law_ranks,f_law_heights,f_law_told,f_law,b_ValueError,b_all,b_bool,b_enumerate,b_int,b_isinstance,b_len,b_list,b_min,b_range,b_set,b_str,b_tuple,c_LEAST_EVERY,c_MOST_ERRANDS,c_MOST_EVERY,c_MOST_LATE,c_MOST_LENGTH,c_MOST_PARTS,c_TOOLS,e_NoErrands,e_NoRanks,e_RankError,x_NoRanks,i_NoRanks_NoErrands,i_NoRanks_RankError,i_NoRanks_ValueError⟩
    exact ⟨f_law,fun f fd F base hb hn=>RS.law_ok T F⟩
