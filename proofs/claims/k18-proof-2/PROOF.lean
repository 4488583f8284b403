import PyProof.Rows.All
import OpenK.AllK
import PySem.Challenge.RW_ranksure_k18_dealt
import KE.RegKIsAll
import Wide.All
import OpenK.KWalk
import OpenK.KMake
import OpenK.KDescr
import OpenK.KCall
import OpenK.KOwn
import KE.KIsAll
import KE.KItem
import KE.KxBytes
import Wide.FinOn
import Lean
import PyProof.EqAt
import PyProof.EqKinds
import PyProof.TupleCall
import KE.LcSums
import PyProof.Rows.EqDataRows
import PyProof.RulesAs
import PyProof.ZipIter
import PyProof.Draws
import PyProof.Rows.TupAdd
import PyProof.ListMulRoad
import PyProof.AutoListH
import PyProof.Rows.Range3
import PyProof.ListRange
import PyProof.EnumMake
import PyProof.EnumFor
import PyProof.Rows.SetFrom
import PyProof.WalksMore
import PyProof.StrOps2
import PyProof.Rows.MinMaxN
import PyProof.ConsumeWalk
import PyProof.Rows.SortWalk
import PyProof.ExcArgsOwn
import PyProof.StrBlock2
import KE.KMinKey
import PyProof.Rows.CallKwBuiltin
import PySem.PyData
set_option genSizeOf false
set_option genSizeOfSpec false
set_option genInjectivity false
set_option compiler.extract_closed false
set_option bootstrap.genMatcherCode false
set_option Elab.async false
set_option linter.all false
namespace RS
open PySem PySem.W PyProof.Rows
noncomputable def xx (p:Program) (w:World) (m:Nat) (ann:Option Value):Nat→SharedT→Thread→Option SharedT
  | 0,_,_=>none
  | n + 1,s,t=>match through t with
    | true=>some s
    | false=>match Fast.tw6613529449190102663 m ann t with
      | false=>none
      | true=>match Fast.tw10156331382660048174 (Fast.tw11892475500146522536 Fast.tw14364793385576792824) p w s t with
        | some x=>xx p w m ann n x.1 x.2
        | none=>none
theorem vn {p:Program} {w:World} {m:Nat} {ann:Option Value}:∀ {n:Nat} {s s':SharedT} {t:Thread},xx p w m ann n s t=some s'→topRun treeTable p w m ann n s.abs t=some s'.abs
  | 0,_,_,_,h=>by cases h
  | n + 1,s,s',t,h=>by
    unfold xx at h
    rw [← Fast.te6613529449190102663,← Fast.te10156331382660048174,← Fast.te11892475500146522536,← Fast.te14364793385576792824] at h
    unfold topRun
    cases ht:through t with
    | true=>rw [ht] at h; cases h; rfl
    | false =>
      rw [ht] at h
      cases hk:stepOk m ann t with
      | false=>rw [hk] at h; cases h
      | true =>
        rw [hk] at h
        cases hs:stepT (denote treeTable) p w s t with
        | none=>rw [hs] at h; cases h
        | some x =>
          rw [hs] at h
          rw [stepT_spec (s':=x.1) (t':=x.2) hs]
          exact vn h
noncomputable def EH (l:List Obj):BT:=(l.foldl (fun x o=>(x.1.ins x.2 o,x.2 + 1)) (BT.nil,0)).1
noncomputable def hdS (w:World) (os:OsState):SharedT:=⟨EH (boot_heap w.params).objs.toList,11,(boot_heap w.params).life,Array.mk [],boot_drawn,boot_toks,os⟩
theorem CV (w:World):(fun os=>(hdS w os).abs)=fun os=>⟨boot_heap w.params,Array.mk [],boot_drawn,boot_toks,os⟩:=by kernel_rfl
theorem Ea (w:World):((boot_heap w.params).isNs mainGlobals && (Array.mk []:Array GenState).size == 0,(boot_heap w.params).objs.size,(boot_heap w.params).nsMap mainGlobals "__annotations__")=(true,11,some (.ref 6)):=by kernel_rfl
noncomputable def A5 (p q:Program) (loose:List Str) (Xt:Shared→Bool) {α:Type} (Yf:Shared→α) (h:Heap) (s:Shared) :=
  (staticsOk (importedModules p.main.body) h s.heap && namesBound p s.heap && gensDone s && laidKept h s.heap,Fast.tw4187177175401517315 q loose (importedModules p.main.body) Xt true s,Yf s)
theorem DZ {p q:Program} {loose:List Str} {Xt:Shared→Bool} {α:Type} {Yf:Shared→α} {Ya:World→α} {N M:Nat}
    (e:opening p=plainProg p.main.scope.names) (hN:Nat.ble 600 N=true) (f:∀ s,fenceModules? p s=some s) (le:Nat.ble M N=true)
    (h:∀ w,(fun os=>(xx p w 11 (some (.ref 6)) M (hdS w os) (topStub p)).map fun s=>A5 p q loose Xt Yf (boot_heap w.params) s.abs)=fun _=>some (true,openGood q loose,Ya w)):LeftO p q loose Xt Yf Ya N:=fun w=>by
  obtain ⟨⟨hp,gs,d,k,os⟩,e1,e'⟩:=Option.map_eq_some_iff.mp (boot_open e hN f w)
  obtain ⟨rfl,rfl,rfl,rfl⟩:hp=boot_heap w.params∧gs=Array.mk []∧d=boot_drawn∧k=boot_toks:=by simpa using e'
  obtain ⟨z1,z2,z3⟩:_∧_∧_:=by simpa only [Prod.mk.injEq] using Ea w
  obtain ⟨s,hs,hv⟩:=Option.map_eq_some_iff.mp (congrFun (h w) os)
  obtain ⟨l1,l2,l3⟩:_∧_∧_:=by simpa only [A5,← Fast.te4187177175401517315,Prod.mk.injEq] using hv
  have r:=vn hs
  rw [congrFun (CV w) os] at r
  have r:=topRun_mono (N - M) _ _ _ _ r
  rw [show M + (N - M)=N by have:=Nat.le_of_ble_eq_true le; omega] at r
  unfold openEnds
  rw [e1]
  show (topFrom treeTable p w N _).map _=_
  have t:topFrom treeTable p w N ⟨boot_heap w.params,Array.mk [],boot_drawn,boot_toks,os⟩=some s.abs:=by
    unfold topFrom
    dsimp only
    rw [z1,z2,z3,r]
    show (match staticsOk (importedModules p.main.body) (boot_heap w.params) s.abs.heap && namesBound p s.abs.heap && gensDone s.abs && laidKept (boot_heap w.params) s.abs.heap with | true=>_ | false=>_)=_
    rw [l1]
  rw [t]
  exact congrArg some (Prod.ext l2 l3)
end RS
section
open PySem PySem.W PyProof.Rows
noncomputable def RS.vw:Program:=view PySem.Challenge.pw_ranksure_k18_dealt [1,2,3,5,6,7,8,9,10,11,12,13,14,15,16,17,18,19,20,21,23,24,25,26,27,28,29,30,31,33,34,35,36,37,38,40,41,42,43,44,45,46,48,49,50,51,52,53,54]
local macro_rules | `(tactic| o_head $H)=>`(tactic| (refine holds_open (N:=4254) (Xt:=fun s=>xlAt RS.vw [] s && recOk (RowW.records (OpenRow.toRowW (OpenLaw.row PySem.Challenge.rw_ranksure_k18_dealt))) s) (XP:=XL RS.vw []) (q:=RS.vw) (loose:=[]) (Yf:=Hook.obs $H) (Ya:=Hook.val $H) (YP:=Hook.says $H) ?hl (Hook.of $H) (Hook.keeps $H) (fun s e=>xl_of s (Bool.and_eq_true_iff.mp e).1) XL.keeps (by rfl) (by rfl) (by rfl) (fun s e=>recFacts_of (Bool.and_eq_true_iff.mp e).2) (by rfl) (by assumption) (by decide +kernel) ⟨rfl,rfl,rfl,rfl,rfl,by decide +kernel⟩ ?hw ?hc; (case hl=>refine RS.DZ (M:=2177) (by kernel_rfl) (by rfl) (by intro s; kernel_rfl) (by rfl) fun w=>?_; kernel_rfl)))
set_option maxRecDepth 100000 in
set_option maxHeartbeats 0 in
open_top RS.hdTop for PySem.Challenge.rw_ranksure_k18_dealt
end
-- CHANGE: your row's module here,as the last of these rows
set_option maxRecDepth 100000
namespace L2
open PySem PySem.Spec PyProof.Rows
noncomputable abbrev Key:=Sum Int Str
noncomputable def Df:Key→Value→Bool
  | .inl k,v=>Value.isInt k v
  | .inr x,v=>Value.isStrOf x v
noncomputable def Gr (w:World):Key→Int
  | .inl k=>hashInt k
  | .inr x=>hashStr w x
theorem dk:∀ {k:Key} {v:Value},Df k v=true→(∃ i t,k=Sum.inl i∧v=Value.int i t)∨(∃ x t,k=Sum.inr x∧v=Value.str x t)
  | .inl i,v,h=>by
    obtain ⟨t,e⟩:=Value.isInt_shape (k:=i) (v:=v) h
    exact .inl ⟨i,t,rfl,e⟩
  | .inr x,v,h=>by
    obtain ⟨t,e⟩:=Value.isStrOf_shape (x:=x) (v:=v) h
    exact .inr ⟨x,t,rfl,e⟩
theorem Ew (a b:Int):decide ((Sum.inl a:Key)=Sum.inl b)=(a == b):=by
  by_cases e:a=b
  · subst e; simp
  · have h:¬ (Sum.inl a:Key)=Sum.inl b:=fun q=>e (Sum.inl.inj q)
    rw [decide_eq_false h]
    exact (beq_eq_false_iff_ne.mpr e).symm
theorem DN (a b:Str):decide ((Sum.inr a:Key)=Sum.inr b)=decide (a=b):=by
  by_cases e:a=b
  · subst e; simp
  · have h:¬ (Sum.inr a:Key)=Sum.inr b:=fun q=>e (Sum.inr.inj q)
    rw [decide_eq_false h,decide_eq_false e]
theorem Ek (a:Int) (b:Str):decide ((Sum.inl a:Key)=Sum.inr b)=false:=decide_eq_false (fun q=>nomatch q)
theorem Eb (a:Str) (b:Int):decide ((Sum.inr a:Key)=Sum.inl b)=false:=decide_eq_false (fun q=>nomatch q)
noncomputable def yg (prog:Program) (w:World):PySem.KeyKind prog w Key where
  is:=Df
  hash:=Gr w
  inj:=fun v a b ha hb=>by
    rcases dk ha with ⟨i,t,rfl,rfl⟩ | ⟨x,t,rfl,rfl⟩
    · rcases dk hb with ⟨j,u,rfl,e⟩ | ⟨y,u,rfl,e⟩
      · injection e with e1 _; rw [e1]
      · exact nomatch e
    · rcases dk hb with ⟨j,u,rfl,e⟩ | ⟨y,u,rfl,e⟩
      · exact nomatch e
      · injection e with e1 _; rw [e1]
  byValue:=fun k v h=>by
    rcases dk h with ⟨i,t,rfl,rfl⟩ | ⟨x,t,rfl,rfl⟩ <;> rfl
  pyHash:=fun hv h=>by
    rcases dk hv with ⟨i,t,rfl,rfl⟩ | ⟨x,t,rfl,rfl⟩
    · exact wpAny_pyHash_int h
    · exact wpAny_pyHash_str h
  eqBool:=fun hu hv h=>by
    rcases dk hu with ⟨i,t,rfl,rfl⟩ | ⟨x,t,rfl,rfl⟩
    · rcases dk hv with ⟨j,u,rfl,rfl⟩ | ⟨y,u,rfl,rfl⟩
      · rw [Ew] at h; exact wpAny_eqBool_int h
      · rw [Ek] at h; exact SeqAt.EqAt.int_str i t y u _ _ _ _ h
    · rcases dk hv with ⟨j,u,rfl,rfl⟩ | ⟨y,u,rfl,rfl⟩
      · rw [Eb] at h; exact SeqAt.EqAt.str_int x t j u _ _ _ _ h
      · rw [DN] at h; exact wpAny_eqBool_str h
  «strs»:=fun k x t v h=>by
    rcases dk h with ⟨i,u,rfl,e⟩ | ⟨y,u,rfl,e⟩
    · exact nomatch e
    · injection e with e1 _
      subst e1
      cases v <;> rfl
end L2
namespace L2
open PySem PySem.Spec PyProof.Rows
inductive V where
  | non | bl (b:Bool) | int (i:Int) | str (x:Str) | byt (b:Array UInt8) | flt (b:UInt64) | ref (a:Addr) | ty (n:String)
  deriving DecidableEq
noncomputable def RelV:V→Value→Prop
  | .non,u=>u=Value.none
  | .bl b,u=>u=Value.bool b
  | .int i,u=>∃ t,u=Value.int i t
  | .str x,u=>∃ t,u=Value.str x t
  | .byt b,u=>∃ t,u=Value.bytes b t
  | .flt b,u=>∃ t,u=Value.float b t
  | .ref a,u=>u=Value.ref a
  | .ty n,u=>u=Value.type n
noncomputable abbrev Vals:List V→List Value→Prop:=Paired RelV
theorem Vals.length {xs:List V} {us:List Value} (r:Vals xs us):xs.length=us.length:=Paired.length r
theorem Vals.get:∀ {xs:List V} {us:List Value} {i:Nat} {x:V},Vals xs us→xs[i]?=some x→∃ u,us[i]?=some u∧RelV x u
  | _,_,_,_,.nil,e=>by simp at e
  | _,_,0,_,.cons r _,e=>by simp at e; subst e; exact ⟨_,rfl,r⟩
  | _,_,i + 1,x,.cons _ t,e=>by
    obtain ⟨u,h1,h2⟩:=Vals.get (i:=i) (x:=x) t (by simpa using e)
    exact ⟨u,by simpa using h1,h2⟩
theorem Vals.set {x:V} {u:Value} (r:RelV x u):∀ {xs:List V} {us:List Value} (i:Nat),Vals xs us→Vals (xs.set i x) (us.set i u)
  | _,_,_,.nil=>.nil
  | _,_,0,.cons _ t=>.cons r t
  | _,_,i + 1,.cons q t=>.cons q (Vals.set r i t)
theorem Vals.append {xs ys:List V} {us ws:List Value} (h:Vals xs us) (s:Vals ys ws):Vals (xs++ys) (us++ws):=by
  induction h with
  | nil=>exact s
  | cons r t ih=>exact .cons r ih
theorem Vals.take:∀ {xs:List V} {us:List Value} (n:Nat),Vals xs us→Vals (xs.take n) (us.take n)
  | _,_,0,_=>.nil
  | _,_,_ + 1,.nil=>.nil
  | _,_,n + 1,.cons r t=>.cons r (Vals.take n t)
theorem Vals.drop:∀ {xs:List V} {us:List Value} (n:Nat),Vals xs us→Vals (xs.drop n) (us.drop n)
  | _,_,0,r=>r
  | _,_,_ + 1,.nil=>.nil
  | _,_,n + 1,.cons _ t=>Vals.drop n t
noncomputable def wN:Option V→Option Value→Prop
  | some v,some u=>RelV v u
  | none,none=>True
  | _,_=>False
noncomputable def KV {κ:Type}:List (κ × V)→List (κ × Value)→Prop:=Paired fun (p:κ × V) (q:κ × Value)=>p.1=q.1∧RelV p.2 q.2
noncomputable def kV:Key→V
  | .inl i=>.int i
  | .inr x=>.str x
inductive HO where
  | lst (xs:List V)
  | tup (xs:List V)
  | dK (kvs:List (Key × V)) | dT (kvs:List (List Key × V))
  | set (S:Int→Bool) (n:Nat)
  | ins (C dx:Addr) (fs:List (Str × V))
  | own (x:Addr)
  | xd (fs:List (Str × V))
  | met (f x:Addr)
  | rng (lo hi:Int)
  | frz (o:Obj) (u:HO)
  | tbl (q:Str)
  | ext (φ:Heap→Prop)
noncomputable abbrev Hp:=Addr→Option HO
noncomputable def upd (H:Hp) (a:Addr) (o:HO):Hp:=fun b=>if b=a then some o else H b
theorem cn {H:Hp} {a:Addr} {o:HO}:upd H a o a=some o:=by unfold upd; rw [if_pos rfl]
theorem bD {H:Hp} {a b:Addr} {o:HO} (h:b≠a):upd H a o b=H b:=by unfold upd; rw [if_neg h]
theorem bE {H:Hp} {a b:Addr} {o:HO} (h:H a=some o) (h':H b=none):a≠b:=by
  intro e; subst e; rw [h] at h'; cases h'
noncomputable def sf (h:Heap) (a:Addr) (items:Array Value):Prop:=∃ o,h.get? a=some o∧o.cls=.type "tuple"∧o.dict=none∧∃ n,o.data=.seq items n
theorem sf.tup {h:Heap} {a:Addr} {items:Array Value} (x:sf h a items):IsTup h a items:=by
  obtain ⟨o,e,c,_,n,d⟩:=x
  exact ⟨o,e,c,n,d⟩
theorem sf.new (h:Heap) (items:Array Value):sf (h.push { cls:=.type "tuple",data:=.seq items }) h.objs.size items:=⟨_,Heap.get?_push_size _ rfl,rfl,rfl,_,rfl⟩
section
variable (P:Program) (w:World)
noncomputable def fD (H:Hp) (h:Heap) (a:Addr):HO→Prop
  | .lst xs=>xs.length≤sizeLine∧∃ (its:List Value) (n:Nat),Vals xs its∧h.get? a=some { cls:=.type "list",data:=.seq its.toArray n }
  | .tup xs=>xs.length≤sizeLine∧∃ its:List Value,Vals xs its∧sf h a its.toArray
  | .dK kvs=>kvs.length≤sizeLine∧(a == sysModules)=false∧∃ vs,KV kvs vs∧h.DictOf (yg P w) a vs
  | .dT kvs=>kvs.length≤sizeLine∧(a == sysModules)=false∧∃ xs:List (List Key × Addr × Value),
      Paired (fun (p:List Key × V) (q:List Key × Addr × Value)=>p.1=q.1∧H q.2.1=some (.tup (p.1.map kV))∧RelV p.2 q.2.2) kvs xs ∧
      ∃ o es ep,h.get? a=some o∧o.ExactDict∧o.data=.dict es ep∧es.toList=xs.map (entryOfKey (tupleKind (yg P w)))∧(xs.map (·.1)).Nodup
  | .set S n=>h.SetOf (intKind P w) a S n
  | .ins C dx fs=>H dx=some (.own a)∧fs.length≤1000∧dx≠a∧h.get? a=some (PySem.W.instObj C dx) ∧
      ∃ mA,h.Ns1 dx mA∧(∀ f,wN (fs.lookup f) (mA f))∧PySem.Within mA (fs.map (·.1))
  | .own _=>∃ o,h.get? a=some o
  | .xd fs=>∃ mA,h.Ns1 a mA∧∀ f,wN (fs.lookup f) (mA f)
  | .rng lo hi=>∃ t u v,h.get? a=some { cls:=.type "range",data:=.fields #[.int lo t,.int hi u,.int 1 v] }
  | .frz o u=>h.get? a=some o∧fD H h a u
  | .tbl q=>∃ ps:Array Value,h.get? a=some { cls:=.none,data:=.fields ps }∧TriplesOk ps.toList∧∀ pos cv,codeAmong pos ps.toList=some cv→∃ c' o vs t,cv=.ref c'∧H c'=some (.frz o (.own c'))∧o.data=.fields vs∧vs[1]?=some (.str q t)
  | .met f x=>h.get? a=some (PySem.W.methodObj (.ref f) (.ref x))
  | .ext φ=>φ h∧(∃ o,h.get? a=some o)∧∀ h1 h2:Heap,φ h1→(∀ o,h1.get? a=some o→h2.get? a=some o)→φ h2
noncomputable def HOk (H:Hp) (h:Heap):Prop:=∀ a o,H a=some o→fD P w H h a o
end
section
variable {P:Program} {w:World} {H H':Hp} {h h':Heap} {a:Addr} {o:HO}
theorem fD.lt (x:fD P w H h a o):a < h.objs.size:=by
  cases o with
  | lst xs=>obtain ⟨_,_,_,_,e⟩:=x; exact Heap.lt_size e
  | tup xs=>obtain ⟨_,_,_,p⟩:=x; exact p.tup.lt
  | dK kvs=>obtain ⟨_,_,_,_,o,_,_,e,_⟩:=x; exact Heap.lt_size e
  | dT kvs=>obtain ⟨_,_,_,_,o,_,_,e,_⟩:=x; exact Heap.lt_size e
  | set S n=>obtain ⟨o,_,_,_,e,_⟩:=x; exact Heap.lt_size e
  | ins C dx fs=>obtain ⟨_,_,_,e,_⟩:=x; exact Heap.lt_size e
  | own y=>obtain ⟨_,e⟩:=x; exact Heap.lt_size e
  | xd fs=>obtain ⟨_,⟨_,_,_,e,_⟩,_⟩:=x; exact Heap.lt_size e
  | rng lo hi=>obtain ⟨_,_,_,e⟩:=x; exact Heap.lt_size e
  | frz ob u=>obtain ⟨e,_⟩:=x; exact Heap.lt_size e
  | tbl q=>obtain ⟨_,e,_⟩:=x; exact Heap.lt_size e
  | met f y=>exact Heap.lt_size (show h.get? a=some _ from x)
  | ext φ=>obtain ⟨_,⟨_,e⟩,_⟩:=x; exact Heap.lt_size e
theorem Paired.mapP {α β:Type} {F G:α→β→Prop} {l₁:List α} {l₂:List β} (h:Paired F l₁ l₂) (f:∀ a b,F a b→G a b):Paired G l₁ l₂:=by
  induction h with
  | nil=>exact .nil
  | cons r t ih=>exact .cons (f _ _ r) ih
theorem fD.stay (x:fD P w H h a o) (k:∀ b u,(b=a∨H b=some (.own a))→h.get? b=some u→h'.get? b=some u)
    (ho:∀ b,H b=some (.own a)→H' b=some (.own a)) (ht:∀ b xs,H b=some (.tup xs)→H' b=some (.tup xs)) (hf:∀ b o u,H b=some (.frz o u)→H' b=some (.frz o u):=by exact fun _ _ _ q=>q):fD P w H' h' a o:=by
  induction o with
  | lst xs=>obtain ⟨z,its,n,r,e⟩:=x; exact ⟨z,its,n,r,k _ _ (.inl rfl) e⟩
  | tup xs=>obtain ⟨z,its,r,ob,e,c⟩:=x; exact ⟨z,its,r,ob,k _ _ (.inl rfl) e,c⟩
  | dK kvs=>obtain ⟨z,y,vs,r,ob,es,ep,e,c⟩:=x; exact ⟨z,y,vs,r,ob,es,ep,k _ _ (.inl rfl) e,c⟩
  | dT kvs =>
    obtain ⟨z,y,xs,r,ob,es,ep,e,c⟩:=x
    exact ⟨z,y,xs,Paired.mapP r fun p q z=>⟨z.1,ht _ _ z.2.1,z.2.2⟩,ob,es,ep,k _ _ (.inl rfl) e,c⟩
  | set S n=>obtain ⟨ob,es,ep,t,e,c⟩:=x; exact ⟨ob,es,ep,t,k _ _ (.inl rfl) e,c⟩
  | ins C dx fs =>
    obtain ⟨d,z,ne,e,mA,⟨od,es,ep,e2,c⟩,r⟩:=x
    exact ⟨ho _ d,z,ne,k _ _ (.inl rfl) e,mA,⟨od,es,ep,k _ _ (.inr d) e2,c⟩,r⟩
  | own y=>obtain ⟨ob,e⟩:=x; exact ⟨ob,k _ _ (.inl rfl) e⟩
  | xd fs=>obtain ⟨mA,⟨od,es,ep,e,c⟩,r⟩:=x; exact ⟨mA,⟨od,es,ep,k _ _ (.inl rfl) e,c⟩,r⟩
  | rng lo hi=>obtain ⟨t,u,v,e⟩:=x; exact ⟨t,u,v,k _ _ (.inl rfl) e⟩
  | frz ob u ih=>obtain ⟨e,q⟩:=x; exact ⟨k _ _ (.inl rfl) e,ih q⟩
  | tbl q =>
    obtain ⟨ps,e,t,c⟩:=x
    exact ⟨ps,k a _ (.inl rfl) e,t,fun pos cv z=>by obtain ⟨c',o,vs,t',e1,e2,e3⟩:=c pos cv z; exact ⟨c',o,vs,t',e1,hf _ _ _ e2,e3⟩⟩
  | met f y =>
    have e:h.get? a=some (PySem.W.methodObj (.ref f) (.ref y)):=x
    show h'.get? a=some (PySem.W.methodObj (.ref f) (.ref y))
    exact k a _ (.inl rfl) e
  | ext φ=>obtain ⟨p,⟨o,e⟩,st⟩:=x; exact ⟨st _ _ p fun o q=>k _ _ (.inl rfl) q,⟨o,k _ _ (.inl rfl) e⟩,st⟩
theorem HOk.lt (x:HOk P w H h) (e:H a=some o):a < h.objs.size:=(x a o e).lt
theorem HOk.fresh (x:HOk P w H h) (e:h.objs.size≤a):H a=none:=by
  cases q:H a with
  | none=>rfl
  | some u=>exact absurd (Nat.lt_of_lt_of_le (x.lt q) e) (Nat.lt_irrefl _)
theorem HOk.kept (x:HOk P w H h) (k:∀ b u,h.get? b=some u→h'.get? b=some u):HOk P w H h':=fun a o e =>
  (x a o e).stay (fun b u _ q=>k b u q) (fun _ q=>q) fun _ _ q=>q
theorem HOk.laid (x:HOk P w H h) (k:∀ b u,h.get? b=some u→h'.get? b=some u) (hp:h.objs.size≤a) (new:fD P w (upd H a o) h' a o):HOk P w (upd H a o) h':=fun b u e=>by
  have hn:=x.fresh hp
  by_cases hb:b=a
  · subst hb; rw [cn] at e; cases e; exact new
  · rw [bD hb] at e
    exact (x b u e).stay (fun c v _ q=>k c v q) (fun c q=>by rw [bD (bE q hn)]; exact q) (fun c xs q=>by rw [bD (bE q hn)]; exact q) fun c ob w' q=>by rw [bD (bE q hn)]; exact q
end
noncomputable def Rd (H:Hp) (a:Addr) (u:HO):Prop:=H a=some u∨∃ o,H a=some (.frz o u)
theorem Rd.ok {P:Program} {w:World} {H:Hp} {h:Heap} {a:Addr} {u:HO} (r:Rd H a u) (x:HOk P w H h):fD P w H h a u:=by
  rcases r with r | ⟨o,r⟩
  · exact x a u r
  · obtain ⟨_,q⟩:=x a _ r
    exact q
noncomputable def Mut:Option HO→Prop
  | some (.lst _)=>True
  | some (.dK _)=>True
  | some (.dT _)=>True
  | some (.set _ _)=>True
  | some (.ins _ _ _)=>True
  | some (.ext _)=>True
  | _=>False
section
variable {P:Program} {w:World} {H:Hp} {h h':Heap} {x e:Addr} {o':HO}
theorem HOk.write (ok:HOk P w H h) (mu:Mut (H x)) (he:e=x∨H e=some (.own x)) (k:∀ b u,b≠e→h.get? b=some u→h'.get? b=some u) (heo:∃ u,h'.get? e=some u)
    (new:fD P w (upd H x o') h' x o'):HOk P w (upd H x o') h':=fun b u q=>by
  have nown:∀ c y,H c=some (.own y)→c≠x:=fun c y r z=>by subst z; rw [r] at mu; exact mu
  have ntup:∀ c xs,H c=some (.tup xs)→c≠x:=fun c xs r z=>by subst z; rw [r] at mu; exact mu
  have nfrz:∀ c o u,H c=some (.frz o u)→c≠x:=fun c o u r z=>by subst z; rw [r] at mu; exact mu
  by_cases hb:b=x
  · subst hb; rw [cn] at q; cases q; exact new
  · rw [bD hb] at q
    by_cases hbe:b=e
    · have q':H b=some (.own x):=by
        rcases he with z | z
        · exact absurd (hbe.trans z) hb
        · rw [hbe]; exact z
      rw [q] at q'; cases q'
      obtain ⟨v,hv⟩:=heo
      exact ⟨v,by rw [hbe]; exact hv⟩
    · refine (ok b u q).stay (fun c v hc r=>k c v ?_ r) (fun c r=>by rw [bD (nown c b r)]; exact r) (fun c xs r=>by rw [bD (ntup c xs r)]; exact r) fun c o w' r=>by rw [bD (nfrz c o w' r)]; exact r
      rcases hc with rfl | hc
      · exact hbe
      · rintro rfl
        rcases he with z | z
        · exact nown c b hc z
        · rw [hc] at z; cases z; exact hb rfl
end
structure Un (fs ex:List Addr) (H H':Hp) (h h':Heap):Prop where
  keep:∀ b o,h.get? b=some o→H b=none→b ∉ fs→b ∉ ex→h'.get? b=some o
  slot:∀ b o,h.get? b=some o→H b=none→b∈fs→b ∉ ex→∃ sl,h'.get? b=some { o with slots:=sl }
  free:∀ b o,h.get? b=some o→H b=none→b ∉ ex→H' b=none
  there:∀ b o,h.get? b=some o→b ∉ ex→∃ o',h'.get? b=some o'
  tups:∀ b xs,H b=some (.tup xs)→H' b=some (.tup xs)
  frzs:∀ b o u,H b=some (.frz o u)→H' b=some (.frz o u)
  tbls:∀ b q,H b=some (.tbl q)→H' b=some (.tbl q)
section
variable {fs fs' ex ex':List Addr} {H H1 H2:Hp} {h h1 h2 h':Heap} {a x e:Addr} {o:HO}
theorem Un.any (u:Un fs ex H H1 h h1) {b:Addr} {ob:Obj} (q:h.get? b=some ob) (n:H b=none) (hx:b ∉ ex):∃ sl,h1.get? b=some { ob with slots:=sl }:=by
  by_cases hb:b∈fs
  · exact u.slot b ob q n hb hx
  · exact ⟨ob.slots,u.keep b ob q n hb hx⟩
theorem Un.kept (k:∀ b u,h.get? b=some u→h'.get? b=some u):Un fs ex H H h h' :=
  ⟨fun b ob q _ _ _=>k b ob q,fun b ob q _ _ _=>⟨ob.slots,k b ob q⟩,fun _ _ _ n _=>n,fun b ob q _=>⟨ob,k b ob q⟩,fun _ _ q=>q,fun _ _ _ q=>q,fun _ _ q=>q⟩
theorem Un.refl:Un fs ex H H h h:=Un.kept fun _ _ q=>q
theorem Un.laid (k:∀ b u,h.get? b=some u→h'.get? b=some u) (hp:h.objs.size≤a) (hn:H a=none):Un fs ex H (upd H a o) h h' where
  keep:=fun b u q _ _ _=>k b u q
  slot:=fun b u q _ _ _=>⟨u.slots,k b u q⟩
  free:=fun b u q n _=>by rw [bD (Nat.ne_of_lt (Nat.lt_of_lt_of_le (Heap.lt_size q) hp))]; exact n
  there:=fun b u q _=>⟨u,k b u q⟩
  tups:=fun b xs q=>by rw [bD (bE q hn)]; exact q
  frzs:=fun b u xs q=>by rw [bD (bE q hn)]; exact q
  tbls:=fun b ps q=>by rw [bD (bE q hn)]; exact q
theorem Un.write (mu:Mut (H x)) (he:e=x∨H e=some (.own x)) (k:∀ b u,b≠e→h.get? b=some u→h'.get? b=some u) (heo:∃ u,h'.get? e=some u):Un fs ex H (upd H x o) h h':=by
  have hx:∀ b,H b=none→b≠x:=fun b n z=>by subst z; rw [n] at mu; exact mu
  have hb:∀ b,H b=none→b≠e:=fun b n z=>by
    subst z
    rcases he with r | r
    · exact hx b n r
    · rw [n] at r; cases r
  have hm:∀ b u,H b=some u→¬ Mut (some u)→b≠x:=fun b u q nm z=>by subst z; rw [q] at mu; exact nm mu
  refine ⟨fun b u q n _ _=>k b u (hb b n) q,fun b u q n _ _=>⟨u.slots,k b u (hb b n) q⟩,fun b u q n _=>by rw [bD (hx b n)]; exact n,fun b u q _=>?_,
    fun b xs q=>by rw [bD (hm b _ q fun z=>z)]; exact q,fun b u xs q=>by rw [bD (hm b _ q fun z=>z)]; exact q,fun b ps q=>by rw [bD (hm b _ q fun z=>z)]; exact q⟩
  by_cases hbe:b=e
  · subst hbe; exact heo
  · exact ⟨u,k b u hbe q⟩
end
noncomputable def trk (h:Heap) (H:Hp):List Addr:=(List.range h.objs.size).filter fun a=>(H a).isSome
noncomputable def tF (h:Heap) (H:Hp):Heap:=PySem.W.hideAll h (trk h H)
theorem yS (h:Heap) (H:Hp):(tF h H).objs.size=h.objs.size:=PySem.W.hideAll_size _ _
theorem AQ {h:Heap} {H:Hp} {b:Addr} {o:Obj} (e:h.get? b=some o) (n:H b=none):(tF h H).get? b=some o :=
  PySem.W.hideAll_get _ e fun hm=>by
    have q:(H b).isSome=true:=(List.mem_filter.mp hm).2
    rw [n] at q; simp at q
theorem B3 {h:Heap} {H:Hp} {b:Addr} {o:Obj} (e:(tF h H).get? b=some o):h.get? b=some o∧H b=none:=by
  have e':h.get? b=some o:=PySem.W.of_hideAll (trk h H) e
  refine ⟨e',?_⟩
  cases q:H b with
  | none=>rfl
  | some x =>
    have hm:b∈trk h H:=List.mem_filter.mpr ⟨List.mem_range.mpr (Heap.lt_size e'),by simp [q]⟩
    have z:(tF h H).get? b=none:=PySem.W.hideAll_none (trk h H) hm
    rw [z] at e; cases e
end L2
namespace L2
open PySem PySem.Spec PyProof.Rows
structure Mod (K:PySem.W.Frag) (mg:Str→Option Value) (base:Heap):Prop where
  kin:K.In base
  glob:base.Ns mainGlobals mg
  blt:∃ mb,base.Ns builtinsNs mb∧∀ x:Str,x≠"__name__"→mb x=bootBuiltins x
  nolimit:base.NoLimit
noncomputable def yk:List Str:=[]
noncomputable def TabOf (K:PySem.W.Frag) (P:Addr) (q:Str):Prop:=∃ x∈yk,∃ f oc od fd sl c,PySem.W.nsIn K mainGlobals x=some (some (.ref f))∧K.lookup f=some ⟨oc,od,.func fd,sl⟩∧fd.code=.ref c∧(∃ o vs,K.lookup c=some o∧o.data=.fields vs∧vs[11]?=some (.ref P))∧q=x++".<locals>.<lambda>"
structure Cx where
  prog:Program
  w:World
  K:PySem.W.Frag
  mg:Str→Option Value
  base:Heap
  A:Around
  N:List Str
  s₀:Shared
  H₀:Hp
  env:Env
  outer:List Env
  stack:List Env
  ex:List Addr
  fn:Str→Bool
  calm:Bool
  pn:List (Addr × Obj)
  xe:Value→Shared→Prop
noncomputable def frs (l:List Env):List Addr:=l.filterMap (·.frame)
noncomputable abbrev Cx.fs (X:Cx):List Addr:=frs X.outer
noncomputable def Vis (sc:Scope) (x:Str):Prop:=sc.names.lookup x=some .local∨sc.names.lookup x=some .cell∨sc.names.lookup x=some .free
noncomputable def Loc (sc:Scope) (x:Str):Prop:=sc.names.lookup x=some .local∨sc.names.lookup x=some .cell
noncomputable def Look (env:Env) (h:Heap) (m:Str→Option Value) (x:Str) (u:Value):Prop :=
  (env.kindOf x=some .local∧m x=some u)∨((env.kindOf x=some .cell∨env.kindOf x=some .free)∧∃ c,env.cells.lookup x=some c∧h.IsCell c (some u))
structure Cx.Ok (X:Cx):Prop where
  mod:Mod X.K X.mg X.base
  kind:X.env.scope.kind=.function
  glob:X.env.globals=mainGlobals
  blt:X.env.builtins=builtinsNs
  above:X.s₀.heap.objs.size≤X.env.locals
  inj:∀ x y c,X.env.cells.lookup x=some c→X.env.cells.lookup y=some c→x=y
  has:∀ x,(X.env.kindOf x=some .cell∨X.env.kindOf x=some .free)→∃ c,X.env.cells.lookup x=some c
  cab:∀ x c,X.fn x=true→X.env.cells.lookup x=some c→X.s₀.heap.objs.size≤c
  hd:X.calm=true→X.A.handled=none
  frames:X.A.frames=some X.stack
  stk:X.stack=X.outer∨(X.stack=X.env::X.outer∧X.env.frame=some X.env.locals)
  exf:∀ b∈X.ex,b≠X.env.locals∧∀ x c,X.env.cells.lookup x=some c→c≠b
  bs:∀ b o,X.base.get? b=some o→X.s₀.heap.get? b=some o∧X.H₀ b=none
  bsz:X.base.objs.size≤X.s₀.heap.objs.size
  noex:∀ b o,X.base.get? b=some o→b ∉ X.ex
  exfs:∀ b∈X.ex,b ∉ X.fs
  funs:X.s₀.heap.FunFrames X.base X.outer
  frf:∀ b∈X.fs,X.H₀ b=none
structure Inv (X:Cx) (pins:List (Addr × Obj)) (σ:List (Option V)) (H:Hp) (s:Shared):Prop where
  ok:X.Ok
  os:s.os=X.s₀.os
  bare:AllBare s.gens
  base:Un X.fs X.ex X.H₀ H X.s₀.heap s.heap
  loc:∃ m,s.heap.Ns X.env.locals m∧∀ (i:Nat) (x:Str) (v:V),X.N[i]?=some x→σ[i]?=some (some v)→Vis X.env.scope x→∃ u,RelV v u∧Look X.env s.heap m x u
  cell:∀ x c,X.env.cells.lookup x=some c→∃ v,s.heap.IsCell c v
  free:H X.env.locals=none
  freeC:∀ x c,X.env.cells.lookup x=some c→H c=none
  pin:∀ p∈X.pn++pins,s.heap.get? p.1=some p.2∧H p.1=none∧p.1≠X.env.locals∧p.1 ∉ X.fs∧∀ v,p.2.data≠.cell v
  hok:HOk X.prog X.w H s.heap
  len:σ.length=X.N.length
  tab:∀ P q,TabOf X.K P q→H P=some (.tbl q)
section
variable {X:Cx} {pins:List (Addr × Obj)} {σ:List (Option V)} {H H':Hp} {s:Shared} {h':Heap}
theorem Cx.Ok.nofr (ok:X.Ok) {b:Addr} {o:Obj} (e:X.base.get? b=some o):b ∉ X.fs:=fun hb=>by
  have:=(ok.funs.mem hb).1
  rw [e] at this; cases this
theorem Inv.bs (I:Inv X pins σ H s):∀ b o,X.base.get? b=some o→s.heap.get? b=some o∧H b=none:=fun b o e =>
  ⟨I.base.keep b o (I.ok.bs b o e).1 (I.ok.bs b o e).2 (I.ok.nofr e) (I.ok.noex b o e),I.base.free b o (I.ok.bs b o e).1 (I.ok.bs b o e).2 (I.ok.noex b o e)⟩
theorem Inv.bk (I:Inv X pins σ H s):∀ b o,X.base.get? b=some o→s.heap.get? b=some o:=fun b o e=>(I.bs b o e).1
theorem Inv.mod (I:Inv X pins σ H s):Mod X.K X.mg X.base:=I.ok.mod
theorem Inv.kIn (I:Inv X pins σ H s):X.K.In s.heap:=I.ok.mod.kin.keeps I.bk
theorem Inv.lt (I:Inv X pins σ H s):X.env.locals < s.heap.objs.size:=let ⟨_,hn,_⟩:=I.loc; hn.lt
theorem Inv.sz (I:Inv X pins σ H s):X.s₀.heap.objs.size≤s.heap.objs.size:=Nat.le_trans I.ok.above (Nat.le_of_lt I.lt)
theorem Inv.nofs (I:Inv X pins σ H s) {a:Addr} (h:s.heap.objs.size≤a):a ∉ X.fs:=fun hb=>by
  obtain ⟨_,o,ho,_⟩:=I.ok.funs.mem hb
  exact absurd (Nat.lt_of_lt_of_le (Heap.lt_size ho) (Nat.le_trans I.sz h)) (Nat.lt_irrefl _)
theorem Inv.cne (I:Inv X pins σ H s):∀ x c,X.env.cells.lookup x=some c→c≠X.env.locals:=fun x c e z=>by
  obtain ⟨v,o,ho,hd⟩:=I.cell x c e
  obtain ⟨m,⟨o',es,ep,ho',hd',_⟩,_⟩:=I.loc
  rw [z,ho'] at ho; cases ho; rw [hd'] at hd; cases hd
theorem Inv.funs (I:Inv X pins σ H s):s.heap.FunFrames X.base X.outer:=by
  have all:∀ (l:List Env),(∀ b∈frs l,b∈X.fs)→X.s₀.heap.FunFrames X.base l→s.heap.FunFrames X.base l:=by
    intro l
    induction l with
    | nil=>intro _ _; trivial
    | cons env r ih =>
      intro hs hl
      obtain ⟨hk,⟨L,o,hf,hn,ho,hd⟩,hr⟩:=hl
      have hL:L∈X.fs:=hs L (by unfold frs; rw [List.filterMap_cons,hf]; exact List.mem_cons_self)
      obtain ⟨sl,e⟩:=I.base.slot L o ho (I.ok.frf L hL) hL fun z=>I.ok.exfs L z hL
      exact ⟨hk,⟨L,_,hf,hn,e,hd⟩,ih (fun b hb=>hs b (by unfold frs; rw [List.filterMap_cons,hf]; exact List.mem_cons_of_mem _ hb)) hr⟩
  exact all X.outer (fun _ hb=>hb) I.ok.funs
theorem Inv.stack (I:Inv X pins σ H s):s.heap.FunFrames X.base X.stack:=by
  rcases I.ok.stk with e | ⟨e,hf⟩
  · rw [e]; exact I.funs
  · rw [e]
    obtain ⟨m,hn,_⟩:=I.loc
    refine .cons (by rw [I.ok.kind]; decide) hf hn ?_ I.funs
    exact Heap.get?_none_of_le (Nat.le_trans I.ok.bsz I.ok.above)
theorem Inv.stkSub (I:Inv X pins σ H s):∀ b∈frs X.stack,b∈X.env.locals::X.fs:=fun b hb=>by
  rcases I.ok.stk with e | ⟨e,hf⟩
  · rw [e] at hb; exact List.mem_cons_of_mem _ hb
  · rw [e] at hb
    unfold frs at hb
    rw [List.filterMap_cons,hf] at hb
    exact hb
theorem Inv.stkFree (I:Inv X pins σ H s):∀ b∈frs X.stack,H b=none:=fun b hb=>by
  rcases List.mem_cons.mp (I.stkSub b hb) with e | hb
  · rw [e]; exact I.free
  · obtain ⟨_,o,ho,_⟩:=I.ok.funs.mem hb
    exact I.base.free b o ho (I.ok.frf b hb) fun z=>I.ok.exfs b z hb
theorem Inv.step {g':Array GenState} {t':Nat} {d':Drawn} {ch:List Addr} (I:Inv X pins σ H s)
    (hch:∀ b∈ch,(b∈X.ex∨X.s₀.heap.objs.size≤b)∧b≠X.env.locals∧(∀ x c,X.env.cells.lookup x=some c→c≠b)∧∀ p∈X.pn++pins,p.1≠b)
    (keep:∀ b o,b≠X.env.locals→b ∉ X.fs→b ∉ ch→s.heap.get? b=some o→H b=none→h'.get? b=some o)
    (slot:∀ b o,b≠X.env.locals→b∈X.fs→b ∉ ch→s.heap.get? b=some o→H b=none→∃ sl,h'.get? b=some { o with slots:=sl }) (free:∀ b o,b ∉ ch→s.heap.get? b=some o→H b=none→H' b=none)
    (there:∀ b o,b ∉ ch→s.heap.get? b=some o→∃ o',h'.get? b=some o')
    (tups:∀ b xs,H b=some (.tup xs)→H' b=some (.tup xs)) (frzs:∀ b o u,H b=some (.frz o u)→H' b=some (.frz o u)) (tbls:∀ b q,H b=some (.tbl q)→H' b=some (.tbl q))
    (ns:∀ m,s.heap.Ns X.env.locals m→h'.Ns X.env.locals m) (hok:HOk X.prog X.w H' h') (hg:AllBare g') :
    Inv X pins σ H' { s with heap:=h',gens:=g',drawn:=d',toks:=t' }:=by
  have neL:∀ b o,X.s₀.heap.get? b=some o→b≠X.env.locals:=fun b o e=>Nat.ne_of_lt (Nat.lt_of_lt_of_le (Heap.lt_size e) I.ok.above)
  have neC:∀ b o,X.s₀.heap.get? b=some o→b ∉ X.ex→b ∉ ch:=fun b o e hx hb=>by
    rcases (hch b hb).1 with z | z
    · exact hx z
    · exact absurd (Nat.lt_of_lt_of_le (Heap.lt_size e) z) (Nat.lt_irrefl _)
  have cellK:∀ x c,X.env.cells.lookup x=some c→∀ v,s.heap.IsCell c v→h'.IsCell c v:=fun x c e v pz4=>by
    obtain ⟨o,ho,hd⟩:=pz4
    have nch:c ∉ ch:=fun z=>(hch c z).2.2.1 x c e rfl
    by_cases hc:c∈X.fs
    · obtain ⟨sl,q⟩:=slot c o (I.cne x c e) hc nch ho (I.freeC x c e)
      exact ⟨_,q,hd⟩
    · exact ⟨o,keep c o (I.cne x c e) hc nch ho (I.freeC x c e),hd⟩
  refine ⟨I.ok,I.os,hg,⟨fun b o e n hb hx=>?_,fun b o e n hb hx=>?_,fun b o e n hx=>?_,fun b o e hx=>?_,fun b xs e=>tups b xs (I.base.tups b xs e),fun b o xs e=>frzs b o xs (I.base.frzs b o xs e),fun b ps e=>?_⟩,?_,fun x c e=>?_,?_,fun x c e=>?_,fun p hp=>?_,hok,I.len,fun P q t=>tbls P q (I.tab P q t)⟩
  · exact keep b o (neL b o e) hb (neC b o e hx) (I.base.keep b o e n hb hx) (I.base.free b o e n hx)
  · obtain ⟨sl,e1⟩:=I.base.slot b o e n hb hx
    obtain ⟨sl',e2⟩:=slot b _ (neL b o e) hb (neC b o e hx) e1 (I.base.free b o e n hx)
    exact ⟨sl',e2⟩
  · obtain ⟨o',e1⟩:=I.base.there b o e hx
    exact free b o' (neC b o e hx) e1 (I.base.free b o e n hx)
  · obtain ⟨o',e1⟩:=I.base.there b o e hx
    exact there b o' (neC b o e hx) e1
  · exact tbls b _ (I.base.tbls b ps e)
  · obtain ⟨m,hn,hl⟩:=I.loc
    refine ⟨m,ns m hn,fun i x v e1 e2 e3=>?_⟩
    obtain ⟨u,r,l⟩:=hl i x v e1 e2 e3
    refine ⟨u,r,?_⟩
    rcases l with l | ⟨k,c,e,z⟩
    · exact .inl l
    · exact .inr ⟨k,c,e,cellK x c e _ z⟩
  · obtain ⟨v,z⟩:=I.cell x c e
    exact ⟨v,cellK x c e v z⟩
  · obtain ⟨m,⟨o,_,_,ho,_⟩,_⟩:=I.loc
    exact free _ o (fun z=>(hch _ z).2.1 rfl) ho I.free
  · obtain ⟨v,o,ho,hd⟩:=I.cell x c e
    exact free c o (fun z=>(hch c z).2.2.1 x c e rfl) ho (I.freeC x c e)
  · obtain ⟨e,n,ne,nf,d⟩:=I.pin p hp
    have nch:p.1 ∉ ch:=fun z=>(hch p.1 z).2.2.2 p hp rfl
    exact ⟨keep p.1 p.2 ne nf nch e n,free p.1 p.2 nch e n,ne,nf,d⟩
theorem Inv.un {t':Nat} (I:Inv X pins σ H s) (u:Un X.fs [] H H' s.heap h') (hok:HOk X.prog X.w H' h'):Inv X pins σ H' { s with heap:=h',toks:=t' }:=by
  obtain ⟨m,⟨o,es,ep,ho,r⟩,_⟩:=id I.loc
  obtain ⟨sl,hL⟩:=u.any ho I.free (by simp)
  exact I.step (g':=s.gens) (d':=s.drawn) (ch:=[]) (fun _ z=>nomatch z) (fun b o _ hb _ e n=>u.keep b o e n hb (by simp)) (fun b o _ hb _ e n=>u.slot b o e n hb (by simp)) (fun b o _ e n=>u.free b o e n (by simp)) (fun b o _ e=>u.there b o e (by simp)) u.tups u.frzs u.tbls (fun m' hm=>by
    obtain ⟨o',es',ep',ho',r'⟩:=hm
    rw [ho] at ho'; cases ho'
    exact ⟨_,es',ep',hL,r'⟩) hok I.bare
theorem Inv.call {g':Array GenState} {t':Nat} {d':Drawn} {ch:List Addr} (I:Inv X pins σ H s) (u:Un (frs X.stack) ch H H' s.heap h') (hok:HOk X.prog X.w H' h') (hg:AllBare g')
    (hch:∀ b∈ch,(b∈X.ex∨X.s₀.heap.objs.size≤b)∧b≠X.env.locals∧(∀ x c,X.env.cells.lookup x=some c→c≠b)∧∀ p∈X.pn++pins,p.1≠b) :
    Inv X pins σ H' { s with heap:=h',gens:=g',drawn:=d',toks:=t' }:=by
  obtain ⟨m,⟨o,es,ep,ho,r⟩,_⟩:=id I.loc
  obtain ⟨sl,hL⟩:=u.any ho I.free fun z=>(hch _ z).2.1 rfl
  exact I.step (ch:=ch) hch (fun b o hL hb hc e n=>u.keep b o e n (fun z=>(List.mem_cons.mp (I.stkSub b z)).elim hL hb) hc) (fun b o _ _ hc e n=>u.any e n hc) (fun b o hc e n=>u.free b o e n hc) (fun b o hc e=>u.there b o e hc) u.tups u.frzs u.tbls (fun m' hm=>by
    obtain ⟨o',es',ep',ho',r'⟩:=hm
    rw [ho] at ho'; cases ho'
    exact ⟨_,es',ep',hL,r'⟩) hok hg
theorem Inv.turned {t':Nat} {it:Addr} (I:Inv X pins σ H s) (k:∀ b o,b≠it→s.heap.get? b=some o→h'.get? b=some o) (hn:H it=none) (hL:it≠X.env.locals)
    (h1:it∈X.ex∨X.s₀.heap.objs.size≤it) (h2:∀ x c,X.env.cells.lookup x=some c→c≠it) (h3:∀ p∈X.pn++pins,p.1≠it):Inv X pins σ H { s with heap:=h',toks:=t' }:=by
  have nit:∀ b u,H b=some u→b≠it:=fun b u e z=>by rw [z,hn] at e; cases e
  refine I.step (g':=s.gens) (d':=s.drawn) (ch:=[it]) (fun b hb=>?_) (fun b o _ _ hc e _=>k b o (fun z=>hc (by simp [z])) e) (fun b o _ _ hc e _=>⟨o.slots,k b o (fun z=>hc (by simp [z])) e⟩) (fun _ _ _ _ n=>n)
    (fun b o hc e=>⟨o,k b o (fun z=>hc (by simp [z])) e⟩) (fun _ _ e=>e) (fun _ _ _ e=>e) (fun b ps e=>e) (fun m hm=>?_) (fun b u e=>?_) I.bare
  · have e:b=it:=by simpa using hb
    subst e
    exact ⟨h1,hL,h2,h3⟩
  · obtain ⟨o,es,ep,ho,r⟩:=hm
    exact ⟨o,es,ep,k _ o (Ne.symm hL) ho,r⟩
  · refine (I.hok b u e).stay (fun c v hc q=>k c v ?_ q) (fun _ q=>q) fun _ _ q=>q
    rcases hc with z | z
    · rw [z]; exact nit b u e
    · exact nit c _ z
theorem Inv.tok (I:Inv X pins σ H s) (t:Nat):Inv X pins σ H { s with toks:=t }:=I.un (h':=s.heap) (t':=t) Un.refl I.hok
theorem Inv.kept {t':Nat} (I:Inv X pins σ H s) (k:∀ b u,s.heap.get? b=some u→h'.get? b=some u):Inv X pins σ H { s with heap:=h',toks:=t' }:=I.un (Un.kept k) (I.hok.kept k)
theorem Inv.laid {a:Addr} {o:HO} {t':Nat} (I:Inv X pins σ H s) (k:∀ b u,s.heap.get? b=some u→h'.get? b=some u) (hp:s.heap.objs.size≤a) (new:fD X.prog X.w (upd H a o) h' a o) :
    Inv X pins σ (upd H a o) { s with heap:=h',toks:=t' }:=I.un (Un.laid k hp (I.hok.fresh hp)) (I.hok.laid k hp new)
theorem Inv.write {x e:Addr} {o:HO} {t':Nat} (I:Inv X pins σ H s) (mu:Mut (H x)) (he:e=x∨H e=some (.own x)) (k:∀ b u,b≠e→s.heap.get? b=some u→h'.get? b=some u) (heo:∃ u,h'.get? e=some u)
    (new:fD X.prog X.w (upd H x o) h' x o):Inv X pins σ (upd H x o) { s with heap:=h',toks:=t' }:=I.un (Un.write mu he k heo) (I.hok.write mu he k heo new)
theorem Inv.pins_of {pins':List (Addr × Obj)} (I:Inv X pins σ H s) (h:∀ p∈pins',s.heap.get? p.1=some p.2∧H p.1=none∧p.1≠X.env.locals∧p.1 ∉ X.fs∧∀ v,p.2.data≠.cell v):Inv X pins' σ H s :=
  ⟨I.ok,I.os,I.bare,I.base,I.loc,I.cell,I.free,I.freeC,fun p hp=>(List.mem_append.mp hp).elim (fun z=>I.pin p (List.mem_append_left _ z)) (h p),I.hok,I.len,I.tab⟩
theorem u5 {N:List Str} (hN:N.Nodup) {i j:Nat} {x:Str} (a:N[i]?=some x) (b:N[j]?=some x):i=j:=by
  obtain ⟨h1,e1⟩:=List.getElem?_eq_some_iff.mp a
  obtain ⟨h2,e2⟩:=List.getElem?_eq_some_iff.mp b
  exact (List.getElem_inj hN).mp (e1.trans e2.symm)
theorem rO {M:Model} {A:Around} {E:Value→Shared→Prop} {i:Nat} {x:Str} {v:V} {u:Value} {Q:Unit→Shared→Prop} (I:Inv X pins σ H s) (hN:X.N.Nodup) (hi:X.N[i]?=some x) (hx:Loc X.env.scope x) (r:RelV v u)
    (h:∀ s',Inv X pins (σ.set i (some v)) H s'→(∃ a,Heap.SameBut a s.heap s'.heap∧(a=X.env.locals∨X.env.cells.lookup x=some a))→Q () s') (hf:X.fn x=true∨X.env.scope.names.lookup x=some .local:=by first | exact .inl rfl | exact .inr rfl | assumption):wpAny M A (storeName X.env x u) Q E s:=by
  obtain ⟨m,hn,hl⟩:=id I.loc
  have hcls:(X.env.scope.kind == .class || (X.env.scope.kind == .module && X.env.locals != X.env.globals))=false:=by rw [I.ok.kind]; rfl
  have hiσ:i < σ.length:=by rw [I.len]; exact (List.getElem?_eq_some_iff.mp hi).1
  have cne:=I.cne
  have tracked:∀ {a:Addr} {h':Heap},(∃ o,s.heap.get? a=some o∧H a=none)→Heap.SameBut a s.heap h'→HOk X.prog X.w H h':=fun {a h'} ha hs b ob e=>by
    obtain ⟨_,_,hfree⟩:=ha
    refine (I.hok b ob e).stay (fun c w' hc q=>(hs.2 c ?_).trans q) (fun _ q=>q) fun _ _ q=>q
    rintro rfl
    rcases hc with rfl | hc
    · rw [hfree] at e; cases e
    · rw [hfree] at hc; cases hc
  rcases hx with hk | hk
  · refine wpAny_storeName_local hk hn (fun h' hn' hs=>?_) hcls
    obtain ⟨oL,_,_,hoL,_⟩:=id hn
    refine h _ ⟨I.ok,I.os,I.bare,⟨fun b o e n hb hx=>?_,fun b o e n hb hx=>?_,I.base.free,fun b o e hx=>?_,I.base.tups,I.base.frzs,I.base.tbls⟩,⟨_,hn',fun j y v' e1 e2 e3=>?_⟩,fun y c e=>?_,I.free,I.freeC,fun p hp=>?_,tracked ⟨oL,hoL,I.free⟩ hs,by simpa using I.len,I.tab⟩ ⟨_,hs,.inl rfl⟩
    · exact (hs.2 b (Nat.ne_of_lt (Nat.lt_of_lt_of_le (Heap.lt_size e) I.ok.above))).trans (I.base.keep b o e n hb hx)
    · obtain ⟨sl,e1⟩:=I.base.slot b o e n hb hx
      exact ⟨sl,(hs.2 b (Nat.ne_of_lt (Nat.lt_of_lt_of_le (Heap.lt_size e) I.ok.above))).trans e1⟩
    · obtain ⟨o',e1⟩:=I.base.there b o e hx
      exact ⟨o',(hs.2 b (Nat.ne_of_lt (Nat.lt_of_lt_of_le (Heap.lt_size e) I.ok.above))).trans e1⟩
    · by_cases hj:j=i
      · subst hj
        rw [hi] at e1; cases e1
        rw [List.getElem?_set_self hiσ] at e2
        cases e2
        exact ⟨u,r,.inl ⟨hk,by simp⟩⟩
      · rw [List.getElem?_set_ne (Ne.symm hj)] at e2
        obtain ⟨u',r',q⟩:=hl j y v' e1 e2 e3
        refine ⟨u',r',?_⟩
        rcases q with ⟨k,e⟩ | ⟨k,c,e,z⟩
        · refine .inl ⟨k,?_⟩
          have:y≠x:=fun e=>hj (u5 hN e1 (e ▸ hi))
          simp [this,e]
        · exact .inr ⟨k,c,e,z.sameBut hs (cne y c e)⟩
    · obtain ⟨w',z⟩:=I.cell y c e
      exact ⟨w',z.sameBut hs (cne y c e)⟩
    · obtain ⟨e,n,ne,nf,d⟩:=I.pin p hp
      exact ⟨(hs.2 p.1 ne).trans e,n,ne,nf,d⟩
  · have hfn:X.fn x=true:=by
      rcases hf with z | z
      · exact z
      · rw [z] at hk; cases hk
    obtain ⟨c,hc⟩:=I.ok.has x (.inl hk)
    obtain ⟨w',z⟩:=I.cell x c hc
    refine wpAny_storeName_cell I.ok.kind hk hc z (fun h' hc' hs=>?_)
    obtain ⟨oc,hoc,hocd⟩:=id z
    refine h { s with heap:=h' } ⟨I.ok,I.os,I.bare,⟨fun b o e n hb hx=>?_,fun b o e n hb hx=>?_,I.base.free,fun b o e hx=>?_,I.base.tups,I.base.frzs,I.base.tbls⟩,⟨m,hn.sameBut hs (Ne.symm (cne x c hc)),fun j y v' e1 e2 e3=>?_⟩,fun y c' e=>?_,I.free,I.freeC,fun p hp=>?_,tracked ⟨oc,hoc,I.freeC x c hc⟩ hs,by simpa using I.len,I.tab⟩ ⟨c,hs,.inr hc⟩
    · exact (hs.2 b (Nat.ne_of_lt (Nat.lt_of_lt_of_le (Heap.lt_size e) (I.ok.cab x c hfn hc)))).trans (I.base.keep b o e n hb hx)
    · obtain ⟨sl,e1⟩:=I.base.slot b o e n hb hx
      exact ⟨sl,(hs.2 b (Nat.ne_of_lt (Nat.lt_of_lt_of_le (Heap.lt_size e) (I.ok.cab x c hfn hc)))).trans e1⟩
    · obtain ⟨o',e1⟩:=I.base.there b o e hx
      exact ⟨o',(hs.2 b (Nat.ne_of_lt (Nat.lt_of_lt_of_le (Heap.lt_size e) (I.ok.cab x c hfn hc)))).trans e1⟩
    · by_cases hj:j=i
      · subst hj
        rw [hi] at e1; cases e1
        rw [List.getElem?_set_self hiσ] at e2
        cases e2
        exact ⟨u,r,.inr ⟨.inl hk,c,hc,hc'⟩⟩
      · rw [List.getElem?_set_ne (Ne.symm hj)] at e2
        obtain ⟨u',r',q⟩:=hl j y v' e1 e2 e3
        refine ⟨u',r',?_⟩
        rcases q with q | ⟨k,c',e,z'⟩
        · exact .inl q
        · refine .inr ⟨k,c',e,z'.sameBut hs ?_⟩
          rintro rfl
          exact hj (u5 hN e1 (I.ok.inj _ _ _ e hc ▸ hi))
    · by_cases hcc:c'=c
      · subst hcc; exact ⟨_,hc'⟩
      · obtain ⟨w2,z2⟩:=I.cell y c' e
        exact ⟨w2,z2.sameBut hs hcc⟩
    · obtain ⟨e,n,ne,nf,d⟩:=I.pin p hp
      refine ⟨(hs.2 p.1 ?_).trans e,n,ne,nf,d⟩
      intro q
      rw [q,hoc] at e
      have q':oc=p.2:=Option.some.inj e
      exact d w' (by rw [← q']; exact hocd)
theorem o3 {M:Model} {A:Around} {E:Value→Shared→Prop} {i:Nat} {x:Str} {v:V} {u:Value} {Q:Unit→Shared→Prop} (I:Inv X pins σ H s) (hN:X.N.Nodup) (hi:X.N[i]?=some x) (hx:Loc X.env.scope x) (r:RelV v u)
    (h:∀ s',Inv X pins (σ.set i (some v)) H s'→Q () s') (hf:X.fn x=true∨X.env.scope.names.lookup x=some .local:=by first | exact .inl rfl | exact .inr rfl | assumption):wpAny M A (storeName X.env x u) Q E s :=
  rO I hN hi hx r (fun s' I' _=>h s' I') hf
theorem Inv.call' {s':Shared} {ch:List Addr} (I:Inv X pins σ H s) (ho:s'.os=s.os) (u:Un (frs X.stack) ch H H' s.heap s'.heap) (hok:HOk X.prog X.w H' s'.heap) (hg:AllBare s'.gens)
    (hch:∀ b∈ch,(b∈X.ex∨X.s₀.heap.objs.size≤b)∧b≠X.env.locals∧(∀ x c,X.env.cells.lookup x=some c→c≠b)∧∀ p∈X.pn++pins,p.1≠b):Inv X pins σ H' s':=by
  obtain ⟨h',g',d',t',o'⟩:=s'
  have e:o'=s.os:=ho
  subst e
  exact I.call (g':=g') (t':=t') (d':=d') u hok hg hch
end
noncomputable abbrev XK:=Value→Option Addr→Hp→Prop
noncomputable abbrev St:=List (Option V)
noncomputable abbrev VK:=V→Hp→Prop
noncomputable abbrev TE:=St→Hp→VK→Prop
noncomputable abbrev TT:=St→Hp→(Bool→Hp→Prop)→Prop
noncomputable abbrev TA:=St→Hp→(List V→Hp→Prop)→Prop
structure Ends where
  nx:St→Hp→Prop
  rt:VK
  bk:St→Hp→Prop:=fun _ _=>False
  ct:St→Hp→Prop:=fun _ _=>False
noncomputable abbrev TS:=Ends→St→Hp→Prop
noncomputable def EP (X:Cx) (pins:List (Addr × Obj)) (σ:St) (Q:VK) (u:Value) (s':Shared):Prop:=∃ v H',Inv X pins σ H' s'∧RelV v u∧Q v H'
noncomputable def TP (X:Cx) (pins:List (Addr × Obj)) (σ:St) (Q:Bool→Hp→Prop) (b:Bool) (s':Shared):Prop:=∃ H',Inv X pins σ H' s'∧Q b H'
noncomputable def AP (X:Cx) (pins:List (Addr × Obj)) (σ:St) (Q:List V→Hp→Prop) (us:List Value) (s':Shared):Prop:=∃ vs H',Inv X pins σ H' s'∧Vals vs us∧Q vs H'
noncomputable def SP (X:Cx) (pins:List (Addr × Obj)) (D:Ends) (f:Flow) (s':Shared):Prop :=
  match f with
  | .next=>∃ σ' H',Inv X pins σ' H' s'∧D.nx σ' H'
  | .brk=>∃ σ' H',Inv X pins σ' H' s'∧D.bk σ' H'
  | .cont=>∃ σ' H',Inv X pins σ' H' s'∧D.ct σ' H'
  | .ret u=>∃ v σ' H',Inv X pins σ' H' s'∧RelV v u∧D.rt v H'
noncomputable def PE (X:Cx) (e:Expr) (t:TE):Prop :=
  ∀ (pins:List (Addr × Obj)) (s:Shared) (σ:St) (H:Hp) (Q:VK),Inv X pins σ H s→t σ H Q→wpAny (model X.prog X.w) X.A (eval e X.env) (EP X pins σ Q) X.xe s
noncomputable def PT (X:Cx) (e:Expr) (t:TT):Prop :=
  ∀ (pins:List (Addr × Obj)) (s:Shared) (σ:St) (H:Hp) (Q:Bool→Hp→Prop),Inv X pins σ H s→t σ H Q→wpAny (model X.prog X.w) X.A (isTrue e X.env (eval e X.env)) (TP X pins σ Q) X.xe s
noncomputable def PW (X:Cx) (e:Expr) (t:TT):Prop :=
  ∀ (whole:Sem Value) (pins:List (Addr × Obj)) (s:Shared) (σ:St) (H:Hp) (Q:Bool→Hp→Prop),Inv X pins σ H s→t σ H Q→wpAny (model X.prog X.w) X.A (isTrue e X.env whole) (TP X pins σ Q) X.xe s
theorem PW.pt {X:Cx} {e:Expr} {t:TT} (h:PW X e t):PT X e t:=h _
noncomputable def PA (X:Cx) (es:List Expr) (t:TA):Prop :=
  ∀ (pos:Pos) (pins:List (Addr × Obj)) (s:Shared) (σ:St) (H:Hp) (Q:List V→Hp→Prop),Inv X pins σ H s→t σ H Q→wpAny (model X.prog X.w) X.A (spliced (backTo pos (starEach es X.env))) (AP X pins σ Q) X.xe s
noncomputable def PS (X:Cx) (st:Stmt) (t:TS):Prop :=
  ∀ (pins:List (Addr × Obj)) (s:Shared) (σ:St) (H:Hp) (D:Ends),Inv X pins σ H s→t D σ H→wpAny (model X.prog X.w) X.A (exec st X.env) (SP X pins D) X.xe s
noncomputable def PSs (X:Cx) (st:List Stmt) (t:TS):Prop :=
  ∀ (pins:List (Addr × Obj)) (s:Shared) (σ:St) (H:Hp) (D:Ends),Inv X pins σ H s→t D σ H→wpAny (model X.prog X.w) X.A (execs st X.env) (SP X pins D) X.xe s
theorem thn {α:Type} {t:Sem α} {Q Q':α→Shared→Prop} {M:Model} {A:Around} {E:Value→Shared→Prop} {s:Shared} (h:wpAny M A t Q E s) (hQ:∀ a s,Q a s→Q' a s):wpAny M A t Q' E s:=wpAny_mono h hQ fun _ _ x=>x
end L2
namespace L2
open PySem PySem.Spec PyProof.Rows
section
variable {X:Cx}
theorem bin {a b:Expr} {ta tb:TE} (ha:PE X a ta) (hb:PE X b tb) {pins:List (Addr × Obj)} {s:Shared} {σ:St} {H:Hp} {R:V→V→Hp→Prop} (I:Inv X pins σ H s) (h:ta σ H fun x H1=>tb σ H1 fun y H2=>R x y H2)
    {α:Type} {Q:α→Shared→Prop} {f:Value→Value→Sem α}
    (hf:∀ v u s2 x y H2,Inv X pins σ H2 s2→RelV x v→RelV y u→R x y H2→wpAny (model X.prog X.w) X.A (f v u) Q X.xe s2) :
    wpAny (model X.prog X.w) X.A (eval a X.env) (fun v s₁=>wpAny (model X.prog X.w) X.A (eval b X.env) (fun u s₂=>wpAny (model X.prog X.w) X.A (f v u) Q X.xe s₂) X.xe s₁) X.xe s:=by
  refine thn (ha pins s σ H _ I h) fun v s1 rz2=>?_
  obtain ⟨x,H1,I1,r1,q1⟩:=rz2
  refine thn (hb pins s1 σ H1 _ I1 q1) fun u s2 rz2=>?_
  obtain ⟨y,H2,I2,r2,q2⟩:=rz2
  exact hf v u s2 x y H2 I2 r1 r2 q2
noncomputable def Fz (i:Nat):TE:=fun σ H Q=>∃ v,σ[i]?=some (some v)∧Q v H
noncomputable def tC (v:V):TE:=fun _ H Q=>Q v H
theorem mX {i:Nat} {x:Str} {pos:Pos} (hN:X.N[i]?=some x) (hv:Vis X.env.scope x) (hd:(x == ("__debug__":Str))=false:=by decide) (hcd:(x == ("__classdict__":Str))=false:=by decide):PE X (.Name x pos) (Fz i):=by
  intro pins s σ H Q I h
  obtain ⟨v,e,h⟩:=h
  obtain ⟨m,hn,hl⟩:=I.loc
  obtain ⟨u,r,l⟩:=hl i x v hN e hv
  have fin:EP X pins σ Q u s:=⟨v,H,I,r,h⟩
  rcases l with ⟨hk,hm⟩ | ⟨hk,c,hc,hcell⟩
  · exact wpAny_Name (wpAny_loadName_local I.ok.kind hk hn hm fin) hd
  · rcases hk with hk | hk
    · exact wpAny_Name (wpAny_loadName_cell I.ok.kind hk hc hcell fin) hd
    · exact wpAny_Name (wpAny_loadName_free I.ok.kind hk hc hcell fin hcd) hd
theorem jz {i j pos}:PE X (.Constant (.int i) j pos) (tC (.int i)):=fun _ _ _ H _ I h=>wpAny_Constant_int ⟨.int i,H,I.tok _,⟨_,rfl⟩,h⟩
theorem Fg {b j pos}:PE X (.Constant (.bool b) j pos) (tC (.bl b)):=fun _ _ _ H _ I h=>Constant_bool ⟨.bl b,H,I,rfl,h⟩
theorem Dm {j pos}:PE X (.Constant .none j pos) (tC .non):=fun _ _ _ H _ I h=>Constant_none ⟨.non,H,I,rfl,h⟩
theorem Dv {x j pos}:PE X (.Constant (.str x) j pos) (tC (.str x)):=fun _ _ _ H _ I h=>Calls.Constant_str ⟨.str x,H,I.tok _,⟨_,rfl⟩,h⟩
noncomputable def Gl (X:Cx) (x:Str):Prop:=X.env.kindOf x=some .globalImplicit
theorem oR {E:Value→Shared→Prop} {pins:List (Addr × Obj)} {s:Shared} {σ:St} {H:Hp} {x:Str} {u:Value} {pos:Pos} {Q:Value→Shared→Prop} (I:Inv X pins σ H s) (hg:Gl X x) (hm:X.mg x=some u) (h:Q u s)
    (hd:(x == ("__debug__":Str))=false:=by decide):wpAny (model X.prog X.w) X.A (eval (.Name x pos) X.env) Q E s :=
  Calls.Name_function_global I.ok.kind hg (Calls.loadGlobal_global (by rw [I.ok.glob]; exact I.mod.glob.keeps I.bk) hm h) hd
theorem kF {E:Value→Shared→Prop} {pins:List (Addr × Obj)} {s:Shared} {σ:St} {H:Hp} {x:Str} {u:Value} {pos:Pos} {Q:Value→Shared→Prop} (I:Inv X pins σ H s) (hg:Gl X x) (hm:X.mg x=none) (hv:bootBuiltins x=some u) (h:Q u s)
    (hn:x≠"__name__":=by decide) (hd:(x == ("__debug__":Str))=false:=by decide):wpAny (model X.prog X.w) X.A (eval (.Name x pos) X.env) Q E s:=by
  obtain ⟨mb,h1,h2⟩:=I.mod.blt
  exact Calls.Name_function_global I.ok.kind hg (Calls.loadGlobal_builtin (by rw [I.ok.glob]; exact I.mod.glob.keeps I.bk) hm (by rw [I.ok.blt]; exact h1.keeps I.bk) ((h2 x hn).trans hv) h) hd
theorem BS {x:Str} {v:V} {u:Value} {pos:Pos} (hg:Gl X x) (hm:X.mg x=some u) (r:RelV v u) (hd:(x == ("__debug__":Str))=false:=by decide):PE X (.Name x pos) (tC v) :=
  fun _ _ _ H _ I h=>oR I hg hm ⟨v,H,I,r,h⟩ hd
theorem Cq {x:Str} {v:V} {u:Value} {pos:Pos} (hg:Gl X x) (hm:X.mg x=none) (hv:bootBuiltins x=some u) (r:RelV v u) (hn:x≠"__name__":=by decide) (hd:(x == ("__debug__":Str))=false:=by decide):PE X (.Name x pos) (tC v) :=
  fun _ _ _ H _ I h=>kF I hg hm hv ⟨v,H,I,r,h⟩ hn hd
noncomputable def t2I (ta tb:TE) (k:Int→Int→Hp→Prop):St→Hp→Prop:=fun σ H=>ta σ H fun x H1=>tb σ H1 fun y H2=>∃ i j,x=.int i∧y=.int j∧k i j H2
variable {a b:Expr} {ta tb:TE} {pos:Pos}
noncomputable def PC (X:Cx) (op:CmpOp) (a b:Expr) (t:TE):Prop :=
  ∀ (pins:List (Addr × Obj)) (s:Shared) (σ:St) (H:Hp) (Q:VK),Inv X pins σ H s→t σ H Q →
    wpAny (model X.prog X.w) X.A (eval a X.env) (fun v s₁=>wpAny (model X.prog X.w) X.A (eval b X.env) (fun u s₂=>wpAny (model X.prog X.w) X.A (compareOp op v u) (EP X pins σ Q) X.xe s₂) X.xe s₁) X.xe s
theorem uv (b:Expr) {op:CmpOp} (h:op≠.In) (h2:op≠.NotIn):behindInMarks op b=false:=by
  have e1:(op == CmpOp.In)=false:=by cases op <;> first | rfl | exact absurd rfl h
  have e2:(op == CmpOp.NotIn)=false:=by cases op <;> first | rfl | exact absurd rfl h2
  cases b <;> simp [behindInMarks,e1,e2]
noncomputable def FI (p:Int→Int→Bool) (ta tb:TE):TE:=fun σ H Q=>t2I ta tb (fun i j H2=>Q (.bl (p i j)) H2) σ H
noncomputable abbrev tLt:TE→TE→TE:=FI fun i j=>decide (i < j)
theorem D3 {op:CmpOp} {p:Int→Int→Bool} (ha:PE X a ta) (hb:PE X b tb)
    (rule:∀ (i j:Int) (t u:Tok) (Q:Value→Shared→Prop) (s:Shared),Q (.bool (p i j)) s→wpAny (model X.prog X.w) X.A (compareOp op (.int i t) (.int j u)) Q X.xe s):PC X op a b (FI p ta tb):=by
  intro pins s σ H Q I h
  refine bin ha hb I h fun v u s2 x y H2 I2 rx ry q=>?_
  obtain ⟨i,j,rfl,rfl,q⟩:=q
  obtain ⟨t,rfl⟩:=rx
  obtain ⟨t',rfl⟩:=ry
  exact rule i j t t' _ s2 ⟨.bl _,H2,I2,rfl,q⟩
theorem FF (ha:PE X a ta) (hb:PE X b tb):PC X .Lt a b (tLt ta tb):=D3 ha hb fun _ _ _ _ _ _ h=>lt_int h
noncomputable def F8 (ta:TE):TE:=fun σ H Q=>ta σ H fun x H1=>Q (.bl (decide (x=.non))) H1
noncomputable def E1 (ta:TE):TE:=fun σ H Q=>ta σ H fun x H1=>Q (.bl (!decide (x=.non))) H1
theorem RelV.none_iff {x:V} {v:Value} (r:RelV x v):(v == Value.none)=decide (x=.non):=by
  cases x with
  | non=>cases r; rfl
  | bl _=>cases r; rfl
  | int _=>obtain ⟨t,rfl⟩:=r; rfl
  | str _=>obtain ⟨t,rfl⟩:=r; rfl
  | byt _=>obtain ⟨t,rfl⟩:=r; rfl
  | flt _=>obtain ⟨t,rfl⟩:=r; rfl
  | ref _=>cases r; rfl
  | ty _=>cases r; rfl
theorem zP {j pos'} (ha:PE X a ta):PC X .Is a (.Constant .none j pos') (F8 ta):=by
  intro pins s σ H Q I h
  refine thn (ha pins s σ H _ I h) fun v s1 rz2=>?_
  obtain ⟨x,H1,I1,r1,q1⟩:=rz2
  exact Constant_none (is_none_gen ⟨.bl _,H1,I1,by rw [r1.none_iff]; rfl,q1⟩)
theorem xW {j pos'} (ha:PE X a ta):PC X .IsNot a (.Constant .none j pos') (E1 ta):=by
  intro pins s σ H Q I h
  refine thn (ha pins s σ H _ I h) fun v s1 rz2=>?_
  obtain ⟨x,H1,I1,r1,q1⟩:=rz2
  exact Constant_none (isnot_none_gen ⟨.bl _,H1,I1,by rw [r1.none_iff]; rfl,q1⟩)
noncomputable def tB (t:TE):TT:=fun σ H Q=>t σ H fun x H1=>∃ c,x=.bl c∧Q c H1
theorem zE {op:CmpOp} {t:TE} (h:PC X op a b t) (h1:behindInMarks op b=false:=by first | exact uv _ (by decide) (by decide) | rfl):PE X (.Compare a [op] [b] pos) t:=fun pins s σ H Q I hw=>wpAny_Compare1 (h pins s σ H Q I hw) h1
theorem xl {op:CmpOp} {t:TE} (h:PC X op a b t) (h1:behindInMarks op b=false:=by first | exact uv _ (by decide) (by decide) | rfl):PT X (.Compare a [op] [b] pos) (tB t):=by
  intro pins s σ H Q I hw
  refine wpAny_isTrue_Compare1 (thn (h pins s σ H _ I hw) fun v s1 h1=>thn h1 fun u s2 h2=>thn h2 fun c s3 rz2=>?_) h1
  obtain ⟨x,H1,I1,r1,q1⟩:=rz2
  obtain ⟨d,rfl,q⟩:=q1
  cases r1
  exact wpAny_truthy_bool ⟨H1,I1,q⟩
theorem En {e:Expr} {t:TE} (h:PE X e t) (he:∀ whole,isTrue e X.env whole=(do let v ← whole; standAt e.pos; holding [v] (truthy v)):=by intro _; rfl):PT X e (tB t):=by
  intro pins s σ H Q I hw
  refine isTrue_plain (thn (h pins s σ H _ I hw) fun v s1 rz2=>?_) (he _)
  obtain ⟨x,H1,I1,r1,q1⟩:=rz2
  obtain ⟨d,rfl,q⟩:=q1
  cases r1
  exact wpAny_truthy_bool ⟨H1,I1,q⟩
variable {tA tB':TT} {rest:List Expr}
noncomputable def F2 (t u:TT):TT:=fun σ H Q=>t σ H fun c H1=>if c=true then u σ H1 Q else Q false H1
noncomputable def tOr (t u:TT):TT:=fun σ H Q=>t σ H fun c H1=>if c=true then Q true H1 else u σ H1 Q
noncomputable def FX (t:TT):TT:=fun σ H Q=>t σ H fun c H1=>Q (!c) H1
theorem BX (ha:PT X a tA):PW X (.BoolOp .And [a] pos) tA:=by
  intro wh pins s σ H Q I h
  refine isTrue_and (thn (ha pins s σ H Q I h) fun c s1 e=>?_)
  cases c with
  | true=>exact isTrue_and_nil e
  | false=>exact e
theorem Dw (ha:PT X a tA):PW X (.BoolOp .Or [a] pos) tA:=by
  intro wh pins s σ H Q I h
  refine isTrue_or (thn (ha pins s σ H Q I h) fun c s1 e=>?_)
  cases c with
  | false=>exact isTrue_or_nil e
  | true=>exact e
theorem Es (ha:PT X a tA) (hb:PW X (.BoolOp .And (b::rest) pos) tB'):PW X (.BoolOp .And (a::b::rest) pos) (F2 tA tB'):=by
  intro wh pins s σ H Q I h
  refine isTrue_and (thn (ha pins s σ H _ I h) fun c s1 rz2=>?_)
  obtain ⟨H1,I1,q1⟩:=rz2
  cases c with
  | true=>exact hb wh pins s1 σ H1 Q I1 q1
  | false=>exact ⟨H1,I1,q1⟩
theorem FL (ha:PT X a tA) (hb:PW X (.BoolOp .Or (b::rest) pos) tB'):PW X (.BoolOp .Or (a::b::rest) pos) (tOr tA tB'):=by
  intro wh pins s σ H Q I h
  refine isTrue_or (thn (ha pins s σ H _ I h) fun c s1 rz2=>?_)
  obtain ⟨H1,I1,q1⟩:=rz2
  cases c with
  | true=>exact ⟨H1,I1,q1⟩
  | false=>exact hb wh pins s1 σ H1 Q I1 q1
theorem DM (ha:PT X a tA):PT X (.UnaryOp .Not a pos) (FX tA):=by
  intro pins s σ H Q I h
  exact isTrue_not (ha pins s σ H (fun c H1=>Q (!c) H1) I h)
noncomputable def Fw (ta tb:TE):TE:=fun σ H Q=>ta σ H fun x H1=>∃ c,x=.bl c∧if c=true then tb σ H1 Q else Q (.bl false) H1
noncomputable def FR (ta tb:TE):TE:=fun σ H Q=>ta σ H fun x H1=>∃ c,x=.bl c∧if c=true then Q (.bl true) H1 else tb σ H1 Q
theorem DV {op} {t:TE} (h:PE X a t):PE X (.BoolOp op [a] pos) t:=fun pins s σ H Q I hw=>BoolOp_one (h pins s σ H Q I hw)
theorem EB (ha:PE X a ta) (hb:PE X (.BoolOp .And (b::rest) pos) tb):PE X (.BoolOp .And (a::b::rest) pos) (Fw ta tb):=by
  intro pins s σ H Q I h
  refine BoolOp_and (thn (ha pins s σ H _ I h) fun v s1 rz2=>?_)
  obtain ⟨x,H1,I1,r1,q1⟩:=rz2
  obtain ⟨c,rfl,q1⟩:=q1
  cases r1
  refine wpAny_truthy_bool ?_
  cases c with
  | true=>exact hb pins s1 σ H1 Q I1 q1
  | false=>exact ⟨.bl false,H1,I1,rfl,q1⟩
theorem ER (ha:PE X a ta) (hb:PE X (.BoolOp .Or (b::rest) pos) tb):PE X (.BoolOp .Or (a::b::rest) pos) (FR ta tb):=by
  intro pins s σ H Q I h
  refine BoolOp_or (thn (ha pins s σ H _ I h) fun v s1 rz2=>?_)
  obtain ⟨x,H1,I1,r1,q1⟩:=rz2
  obtain ⟨c,rfl,q1⟩:=q1
  cases r1
  refine wpAny_truthy_bool ?_
  cases c with
  | false=>exact hb pins s1 σ H1 Q I1 q1
  | true=>exact ⟨.bl true,H1,I1,rfl,q1⟩
noncomputable def tIf (t:TT) (ta tb:TE):TE:=fun σ H Q=>t σ H fun c H1=>if c=true then ta σ H1 Q else tb σ H1 Q
theorem Bo {c:Expr} (hc:PT X c tA) (ha:PE X a ta) (hb:PE X b tb):PE X (.IfExp c a b pos) (tIf tA ta tb):=by
  intro pins s σ H Q I h
  refine wpAny_IfExp (thn (hc pins s σ H _ I h) fun d s1 rz2=>?_)
  obtain ⟨H1,I1,q1⟩:=rz2
  cases d with
  | true=>exact ha pins s1 σ H1 Q I1 q1
  | false=>exact hb pins s1 σ H1 Q I1 q1
end
end L2
namespace L2
open PySem PySem.Spec PyProof.Rows
noncomputable def SqL (K:PySem.W.Frag) (H:Hp) (a:Addr) (xs:List V):Prop :=
  Rd H a (.lst xs) ∨
    ∃ (o:Obj) (its:Array Value) (n:Nat),K.lookup a=some o∧o.cls=.type "list"∧o.dict=none∧o.data=.seq its n∧its.size≤sizeLine∧Vals xs its.toList
noncomputable def SqT (K:PySem.W.Frag) (H:Hp) (a:Addr) (xs:List V):Prop :=
  Rd H a (.tup xs) ∨
    ∃ (o:Obj) (its:Array Value) (n:Nat),K.lookup a=some o∧o.cls=.type "tuple"∧o.data=.seq its n∧its.size≤sizeLine∧Vals xs its.toList
noncomputable def Gj:Value→Option V
  | .none=>some .non
  | .bool b=>some (.bl b)
  | .int i _=>some (.int i)
  | .str x _=>some (.str x)
  | .bytes b _=>some (.byt b)
  | .float b _=>some (.flt b)
  | .ref a=>some (.ref a)
  | .type n=>some (.ty n)
  | _=>none
theorem RelV.abs {x:V} {u:Value} (r:RelV x u):Gj u=some x:=by
  cases x with
  | non=>cases r; rfl
  | bl _=>cases r; rfl
  | int _=>obtain ⟨t,rfl⟩:=r; rfl
  | str _=>obtain ⟨t,rfl⟩:=r; rfl
  | byt _=>obtain ⟨t,rfl⟩:=r; rfl
  | flt _=>obtain ⟨t,rfl⟩:=r; rfl
  | ref _=>cases r; rfl
  | ty _=>cases r; rfl
theorem RelV.inj {x y:V} {u:Value} (r:RelV x u) (q:RelV y u):x=y:=Option.some.inj (r.abs.symm.trans q.abs)
theorem Vals.inj {xs ys:List V} {us:List Value} (h:Vals xs us) (h':Vals ys us):xs=ys:=by
  induction h generalizing ys with
  | nil=>cases h'; rfl
  | cons r t ih =>
    cases h' with
    | cons r' t'=>rw [r.inj r',ih t']
section
variable {X:Cx} {pins:List (Addr × Obj)} {σ:St} {H:Hp} {s:Shared} {a:Addr} {xs ys:List V}
theorem SqL.of {K:PySem.W.Frag} (h:H a=some (.lst xs)):SqL K H a xs:=.inl (.inl h)
theorem SqT.of {K:PySem.W.Frag} (h:H a=some (.tup xs)):SqT K H a xs:=.inl (.inl h)
theorem Inv.list (I:Inv X pins σ H s) (h:SqL X.K H a xs):∃ its:List Value,Vals xs its∧PlainL s.heap a its.toArray∧xs.length≤sizeLine:=by
  rcases h with h | ⟨o,its,n,hk,hc,hd,hs,hz,r⟩
  · obtain ⟨z,its,n,r,e⟩:=h.ok I.hok
    exact ⟨its,r,⟨_,n,e,rfl,rfl,rfl⟩,z⟩
  · refine ⟨its.toList,r,⟨o,n,I.kIn a o hk,hc,hd,by simpa using hs⟩,?_⟩
    have e:=r.length
    simp only [Array.length_toList] at e
    omega
theorem Inv.tuple (I:Inv X pins σ H s) (h:SqT X.K H a xs):∃ its:List Value,Vals xs its∧IsTup s.heap a its.toArray∧xs.length≤sizeLine:=by
  rcases h with h | ⟨o,its,n,hk,hc,hs,hz,r⟩
  · obtain ⟨z,its,r,p⟩:=h.ok I.hok
    exact ⟨its,r,p.tup,z⟩
  · refine ⟨its.toList,r,⟨o,I.kIn a o hk,hc,n,by simpa using hs⟩,?_⟩
    have e:=r.length
    simp only [Array.length_toList] at e
    omega
theorem Inv.list_inj (I:Inv X pins σ H s) (h:SqL X.K H a xs) (h':SqL X.K H a ys):xs=ys:=by
  obtain ⟨its,r,⟨o,n,e,_,_,d⟩,_⟩:=I.list h
  obtain ⟨its',r',⟨o',n',e',_,_,d'⟩,_⟩:=I.list h'
  rw [e] at e'; cases e'
  rw [d] at d'
  injection d' with d1 _
  have:its=its':=by simpa using congrArg Array.toList d1
  subst this
  exact r.inj r'
theorem Inv.tuple_inj (I:Inv X pins σ H s) (h:SqT X.K H a xs) (h':SqT X.K H a ys):xs=ys:=by
  obtain ⟨its,r,⟨o,e,_,n,d⟩,_⟩:=I.tuple h
  obtain ⟨its',r',⟨o',e',_,n',d'⟩,_⟩:=I.tuple h'
  rw [e] at e'; cases e'
  rw [d] at d'
  injection d' with d1 _
  have:its=its':=by simpa using congrArg Array.toList d1
  subst this
  exact r.inj r'
end
noncomputable abbrev Cx.wish (X:Cx) (E:Value→Shared→Prop):Cx:={ X with xe:=E }
noncomputable abbrev Cx.nox (X:Cx):Cx:=X.wish fun _ _=>False
theorem Cx.Ok.wish {X:Cx} (ok:X.Ok) (E:Value→Shared→Prop):(X.wish E).Ok :=
  ⟨ok.mod,ok.kind,ok.glob,ok.blt,ok.above,ok.inj,ok.has,ok.cab,ok.hd,ok.frames,ok.stk,ok.exf,ok.bs,ok.bsz,ok.noex,ok.exfs,ok.funs,ok.frf⟩
theorem Cx.Ok.unwish {X:Cx} {E:Value→Shared→Prop} (ok:(X.wish E).Ok):X.Ok :=
  ⟨ok.mod,ok.kind,ok.glob,ok.blt,ok.above,ok.inj,ok.has,ok.cab,ok.hd,ok.frames,ok.stk,ok.exf,ok.bs,ok.bsz,ok.noex,ok.exfs,ok.funs,ok.frf⟩
section
variable {X:Cx} {pins:List (Addr × Obj)} {σ:St} {H:Hp} {s:Shared} {E:Value→Shared→Prop}
theorem Inv.wish (I:Inv X pins σ H s) (E:Value→Shared→Prop):Inv (X.wish E) pins σ H s:=⟨I.ok.wish E,I.os,I.bare,I.base,I.loc,I.cell,I.free,I.freeC,I.pin,I.hok,I.len,I.tab⟩
theorem Inv.unwish (I:Inv (X.wish E) pins σ H s):Inv X pins σ H s:=⟨I.ok.unwish,I.os,I.bare,I.base,I.loc,I.cell,I.free,I.freeC,I.pin,I.hok,I.len,I.tab⟩
theorem SP.unwish {D:Ends} {f:Flow} {s':Shared} (h:SP (X.wish E) pins D f s'):SP X pins D f s':=by
  cases f with
  | next=>obtain ⟨σ',H',I,q⟩:=h; exact ⟨σ',H',I.unwish,q⟩
  | brk=>obtain ⟨σ',H',I,q⟩:=h; exact ⟨σ',H',I.unwish,q⟩
  | cont=>obtain ⟨σ',H',I,q⟩:=h; exact ⟨σ',H',I.unwish,q⟩
  | ret u=>obtain ⟨v,σ',H',I,r,q⟩:=h; exact ⟨v,σ',H',I.unwish,r,q⟩
theorem PSs.nox {st:List Stmt} {t:TS} (h:PSs X.nox st t):PSs X st t:=fun pins s σ H D I hw =>
  wpAny_mono (h pins s σ H D (I.wish _) hw) (fun _ _ q=>q.unwish) fun _ _ z=>False.elim z
end
section
variable {X:Cx} {st:Stmt} {rest:List Stmt} {t u:TS} {e:Expr} {te:TE} {pos:Pos}
noncomputable def ET:TS:=fun D σ H=>D.nx σ H
noncomputable def FQ (t u:TS):TS:=fun D σ H=>t { D with nx:=u D } σ H
theorem sW:PSs X [] ET:=fun _ _ σ H _ I h=>wpAny_execs_nil ⟨σ,H,I,h⟩
theorem ic (h1:PS X st t) (h2:PSs X rest u):PSs X (st::rest) (FQ t u):=by
  intro pins s σ H D I h
  refine wpAny_execs_cons (thn (h1 pins s σ H { D with nx:=u D } I h) fun f s1 q=>?_)
  cases f with
  | next =>
    obtain ⟨σ',H',I',q⟩:=q
    exact h2 pins s1 σ' H' D I' q
  | ret v=>exact q
  | brk=>exact q
  | cont=>exact q
theorem kM (h1:PS X st t):PSs X [st] t:=by
  intro pins s σ H D I h
  refine wpAny_execs_cons (thn (h1 pins s σ H D I h) fun f s1 q=>?_)
  cases f with
  | next=>exact wpAny_execs_nil q
  | ret v=>exact q
  | brk=>exact q
  | cont=>exact q
theorem Inv.quiet {pins:List (Addr × Obj)} {σ:St} {H:Hp} {s:Shared} (I:Inv X pins σ H s):interactive X.env=false:=by simp [interactive,I.ok.kind]
noncomputable def Fb (te:TE):TS:=fun D σ H=>te σ H fun _ H1=>D.nx σ H1
theorem tL (he:PE X e te) (hs:swapsWith e none pos.line X.env=pure false:=by rfl):PS X (.Expr e pos) (Fb te):=by
  intro pins s σ H D I h
  exact wpAny_Expr_any (thn (he pins s σ H _ I h) fun v s1 qz2=>(by obtain ⟨x,H1,I1,r1,q1⟩:=qz2; exact ⟨σ,H1,I1,q1⟩)) I.quiet hs
noncomputable def FY (te:TE):TS:=fun D σ H=>te σ H D.rt
theorem qc (he:PE X e te):PS X (.Return (some e) pos) (FY te):=by
  intro pins s σ H D I h
  exact wpAny_Return_some (thn (he pins s σ H _ I h) fun v s1 qz2=>(by obtain ⟨x,H1,I1,r1,q1⟩:=qz2; exact ⟨x,σ,H1,I1,r1,q1⟩))
noncomputable def Gd (c:TT) (t u:TS):TS:=fun D σ H=>c σ H fun b H1=>if b=true then t D σ H1 else u D σ H1
theorem AG {c:Expr} {a b:List Stmt} {tc:TT} (hc:PT X c tc) (ha:PSs X a t) (hb:PSs X b u):PS X (.If c a b pos) (Gd tc t u):=by
  intro pins s σ H D I h
  refine wpAny_If (thn (hc pins s σ H _ I h) fun d s1 rz2=>?_)
  obtain ⟨H1,I1,q1⟩:=rz2
  cases d with
  | true=>exact ha pins s1 σ H1 D I1 q1
  | false=>exact hb pins s1 σ H1 D I1 q1
end
noncomputable abbrev TG:=V→St→Hp→(St→Hp→Prop)→Prop
noncomputable abbrev TGs:=List V→St→Hp→(St→Hp→Prop)→Prop
noncomputable def PG (X:Cx) (target:Expr) (t:TG):Prop :=
  ∀ (pins:List (Addr × Obj)) (s:Shared) (σ:St) (H:Hp) (v:V) (u:Value) (Q:St→Hp→Prop),Inv X pins σ H s→RelV v u→t v σ H Q →
    wpAny (model X.prog X.w) X.A (assign target X.env u) (fun _ s'=>∃ σ' H',Inv X pins σ' H' s'∧Q σ' H') X.xe s
noncomputable def PGs (X:Cx) (ts:List Expr) (t:TGs):Prop :=
  ∀ (pins:List (Addr × Obj)) (s:Shared) (σ:St) (H:Hp) (vs:List V) (us:List Value) (Q:St→Hp→Prop),Inv X pins σ H s→Vals vs us→t vs σ H Q →
    wpAny (model X.prog X.w) X.A (assignInOrder ((assignEach ts X.env).map (·.2)) us) (fun _ s'=>∃ σ' H',Inv X pins σ' H' s'∧Q σ' H') X.xe s
noncomputable abbrev DS:=V→V→V→Hp→(Hp→Prop)→Prop
noncomputable def Fj (X:Cx) (t:DS):Prop :=
  ∀ (pins:List (Addr × Obj)) (s:Shared) (σ:St) (H:Hp) (o i v:V) (ov iv u:Value) (Q:Hp→Prop),Inv X pins σ H s→RelV o ov→RelV i iv→RelV v u→t o i v H Q →
    wpAny (model X.prog X.w) X.A (setItem ov iv u) (fun _ s'=>∃ H',Inv X pins σ H' s'∧Q H') X.xe s
noncomputable abbrev TIp:=V→V→Hp→VK→Prop
noncomputable def PIp (X:Cx) (op:Operator) (t:TIp):Prop :=
  ∀ (pins:List (Addr × Obj)) (s:Shared) (σ:St) (H:Hp) (x y:V) (v u:Value) (Q:VK),Inv X pins σ H s→RelV x v→RelV y u→t x y H Q →
    wpAny (model X.prog X.w) X.A (inplaceOp op v u) (EP X pins σ Q) X.xe s
section
variable {X:Cx} {pos:Pos}
noncomputable def lp (i:Nat):TG:=fun v σ H Q=>Q (σ.set i (some v)) H
theorem ba {i:Nat} {x:Str} (hN:X.N.Nodup) (hi:X.N[i]?=some x) (hx:Loc X.env.scope x) (hf:X.fn x=true∨X.env.scope.names.lookup x=some .local:=by first | exact .inl rfl | exact .inr rfl | assumption):PG X (.Name x pos) (lp i):=by
  intro pins s σ H v u Q I r h
  exact wpAny_assign_Name (o3 I hN hi hx r (fun s' I'=>⟨_,H,I',h⟩) hf)
noncomputable def D8:TGs:=fun vs σ H Q=>vs=[]∧Q σ H
noncomputable def yt (t:TG) (u:TGs):TGs:=fun vs σ H Q=>∃ v r,vs=v::r∧t v σ H fun σ' H'=>u r σ' H' Q
theorem je:PGs X [] D8:=by
  intro pins s σ H vs us Q I r h
  obtain ⟨e,h⟩:=h
  subst e
  cases r
  exact assignInOrder_nil ⟨σ,H,I,h⟩
theorem c9 {e:Expr} {es:List Expr} {t:TG} {u:TGs} (h1:PG X e t) (h2:PGs X es u)
    (hs:(assignEach (e::es) X.env).map (·.2)=assign e X.env::(assignEach es X.env).map (·.2):=by rfl):PGs X (e::es) (yt t u):=by
  intro pins s σ H vs us Q I r h
  obtain ⟨v,vr,e1,h⟩:=h
  subst e1
  cases r with
  | cons r rr =>
    rw [hs]
    refine assignInOrder_cons (thn (h1 pins s σ H _ _ _ I r h) fun _ s1 rz2=>?_)
    obtain ⟨σ1,H1,I1,q1⟩:=rz2
    exact h2 pins s1 σ1 H1 _ _ Q I1 rr q1
noncomputable def DW (K:PySem.W.Frag) (n:Nat) (t:TGs):TG:=fun v σ H Q=>∃ a xs,v=.ref a∧SqT K H a xs∧xs.length=n∧t xs σ H Q
theorem lI {es:List Expr} {k:Nat} {t:TGs} {n:Nat} (hc:X.calm=true) (h:PGs X es t)
    (hn:(assignEach es X.env).length=n:=by rfl) (hst:(assignEach es X.env).findIdx? (·.1)=none:=by rfl):PG X (.Tuple es k pos) (DW X.K n t):=by
  intro pins s σ H v u Q I r hw
  obtain ⟨a,xs,e1,hq,hl,hw⟩:=hw
  subst e1
  cases r
  obtain ⟨its,rv,ht,hz⟩:=I.tuple hq
  refine assign_Tuple_tuple (I.ok.hd hc) ht (by simp [hn,← hl,rv.length]) hst fun h' hx=>?_
  have I1:Inv X pins σ H { s with heap:=h' }:=I.kept (t':=s.toks) fun b o e=>hx b o (Nat.ne_of_lt (Heap.lt_size e)) e
  exact h pins _ σ H xs _ Q I1 (by simpa using rv) hw
noncomputable def F4 (to ti:TE) (t:DS):TG:=fun v σ H Q=>to σ H fun o H1=>ti σ H1 fun i H2=>t o i v H2 fun H3=>Q σ H3
theorem EA {o i:Expr} {to ti:TE} {t:DS} (ho:PE X o to) (hi:PE X i ti) (hs:Fj X t)
    (ha:∀ v,assign (.Subscript o i pos) X.env v=(do
      let ov ← holding [v] (eval o X.env)
      let iv ← holding [v,ov] (eval i X.env)
      standAt pos
      holding [v,ov,iv] (setItem ov iv v)
      release [v,ov,iv] []):=by intro _; rfl):PG X (.Subscript o i pos) (F4 to ti t):=by
  intro pins s σ H v u Q I r h
  rw [ha]
  refine wpAny_bind (wpAny_holding (thn (ho pins s σ H _ I h) fun ov s1 rz2=>?_))
  obtain ⟨x,H1,I1,r1,q1⟩:=rz2
  refine wpAny_bind (wpAny_holding (thn (hi pins s1 σ H1 _ I1 q1) fun iv s2 rz2=>?_))
  obtain ⟨y,H2,I2,r2,q2⟩:=rz2
  refine wpAny_bind (wpAny_standAt (wpAny_bind (wpAny_holding (thn (hs pins s2 σ H2 x y v ov iv u _ I2 r1 r2 r q2) fun _ s3 rz2=>?_))))
  obtain ⟨H3,I3,q3⟩:=rz2
  exact wpAny_release ⟨σ,H3,I3,q3⟩
noncomputable def CN (te:TE) (g:TG):TS:=fun D σ H=>te σ H fun x H1=>g x σ H1 D.nx
theorem Dn {tg e:Expr} {te:TE} {g:TG} (he:PE X e te) (hg:PG X tg g) (hs:swapsWithSole [tg] e pos.line X.env=pure false:=by rfl) (hw:swappedStores [tg] e X.env=pure none:=by rfl)
    (h1:(assignEach [tg] X.env).map (·.2)=[assign tg X.env]:=by rfl):PS X (.Assign [tg] e pos) (CN te g):=by
  intro pins s σ H D I h
  refine wpAny_Assign_stores (thn (he pins s σ H _ I h) fun v s1 rz2=>?_) hs hw
  obtain ⟨x,H1,I1,r1,q1⟩:=rz2
  rw [h1]
  exact thn (hg pins s1 σ H1 x v _ I1 r1 q1) fun _ s2 q=>q
theorem rZ {i:Nat} {x:Str} {e:Expr} {te:TE} {pos':Pos} (hN:X.N.Nodup) (hi:X.N[i]?=some x) (hx:Loc X.env.scope x) (he:PE X e te) (hs:swapsWith e (some (.Name x pos')) pos.line X.env=pure false:=by rfl) (hf:X.fn x=true∨X.env.scope.names.lookup x=some .local:=by first | exact .inl rfl | exact .inr rfl | assumption) :
    PS X (.Assign [.Name x pos'] e pos) (CN te (lp i)):=by
  intro pins s σ H D I h
  refine wpAny_Assign_Name (thn (he pins s σ H _ I h) fun v s1 rz2=>?_) hs
  obtain ⟨y,H1,I1,r1,q1⟩:=rz2
  exact o3 I1 hN hi hx r1 (fun s2 I2=>⟨_,H1,I2,q1⟩) hf
noncomputable def FT (i:Nat) (te:TE) (ti:TIp):TS:=fun D σ H=>∃ x,σ[i]?=some (some x)∧te σ H fun y H1=>ti x y H1 fun z H2=>D.nx (σ.set i (some z)) H2
theorem DR {i:Nat} {x:Str} {e:Expr} {te:TE} {op:Operator} {ti:TIp} {pos':Pos} (hN:X.N.Nodup) (hi:X.N[i]?=some x) (hx:Loc X.env.scope x) (he:PE X e te) (ho:PIp X op ti) (hf:X.fn x=true∨X.env.scope.names.lookup x=some .local:=by first | exact .inl rfl | exact .inr rfl | assumption) :
    PS X (.AugAssign (.Name x pos') op e pos) (FT i te ti):=by
  intro pins s σ H D I h
  obtain ⟨v,e1,h⟩:=h
  obtain ⟨m,hn,hl⟩:=I.loc
  have vis:Vis X.env.scope x:=by rcases hx with k | k; exact .inl k; exact .inr (.inl k)
  obtain ⟨u,r,l⟩:=hl i x v hi e1 vis
  refine wpAny_AugAssign_Name ?_
  have go:wpAny (model X.prog X.w) X.A (eval e X.env) (fun w s₂=>wpAny (model X.prog X.w) X.A (inplaceOp op u w) (fun r s₃=>wpAny (model X.prog X.w) X.A (storeName X.env x r) (fun _=>SP X pins D .next) X.xe s₃) X.xe s₂) X.xe s:=by
    refine thn (he pins s σ H _ I h) fun w s1 rz2=>?_
    obtain ⟨y,H1,I1,r1,q1⟩:=rz2
    refine thn (ho pins s1 σ H1 v y u w _ I1 r r1 q1) fun z s2 rz2=>?_
    obtain ⟨zv,H2,I2,r2,q2⟩:=rz2
    exact o3 I2 hN hi hx r2 (fun s3 I3=>⟨_,H2,I3,q2⟩) hf
  rcases l with ⟨hk,hm⟩ | ⟨hk,c,hc,hcell⟩
  · exact wpAny_loadName_local I.ok.kind hk hn hm go
  · rcases hk with hk | hk
    · exact wpAny_loadName_cell I.ok.kind hk hc hcell go
    · rcases hx with k | k
      · have:X.env.scope.names.lookup x=some .free:=hk
        rw [k] at this; cases this
      · have:X.env.scope.names.lookup x=some .free:=hk
        rw [k] at this; cases this
noncomputable def ipI (f:Int→Int→Int):TIp:=fun x y H Q=>∃ i j,x=.int i∧y=.int j∧Q (.int (f i j)) H
theorem Eh:PIp X .Add (ipI fun i j=>i + j):=by
  intro pins s σ H x y v u Q I r1 r2 h
  obtain ⟨i,j,e1,e2,q⟩:=h
  subst e1; subst e2
  obtain ⟨t,rfl⟩:=r1
  obtain ⟨t',rfl⟩:=r2
  exact iadd_int ⟨.int _,H,I.tok _,⟨_,rfl⟩,q⟩
end
section
variable {X:Cx} {pos:Pos}
noncomputable def DC (c:TT) (tb:TS):TS:=fun D σ H=>∃ W:Nat→St→Hp→Prop,(∃ m,W m σ H)∧∀ m σ H,W m σ H →
  c σ H fun b H1=>if b=true then ∃ N:St→Hp→Prop,(∀ σ' H',N σ' H'→∃ m',m' < m∧W m' σ' H')∧tb { D with nx:=N,ct:=N,bk:=D.nx } σ H1 else D.nx σ H1
theorem zN {c:Expr} {body:List Stmt} {tc:TT} {tb:TS} (hp:PassesOwn (model X.prog X.w) X.A X.env X.xe) (hc:PT X c tc) (hb:PSs X body tb):PS X (.While c body [] pos) (DC tc tb):=by
  intro pins s σ H D I h
  obtain ⟨W,⟨m0,w0⟩,turn⟩:=h
  refine wpAny_While (codeAny_whileLoop (fun n s'=>∃ σ' H',Inv X pins σ' H' s'∧W n σ' H') ?_ m0 ⟨σ,H,I,w0⟩)
  rintro n s1 ⟨σ1,H1,I1,w1⟩
  refine wpAny_passesOwn hp (thn (hc pins s1 σ1 H1 _ I1 (turn n σ1 H1 w1)) fun b s2 rz2=>?_)
  obtain ⟨H2,I2,q2⟩:=rz2
  cases b with
  | true =>
    obtain ⟨N,hN,q2⟩:=q2
    rw [if_pos rfl]
    refine wpAny_passesOwn hp (thn (hb pins s2 σ1 H2 _ I2 q2) fun f s3 q3=>?_)
    cases f with
    | next =>
      obtain ⟨σ3,H3,I3,n3⟩:=q3
      obtain ⟨m',hm,w3⟩:=hN σ3 H3 n3
      exact ⟨m',hm,σ3,H3,I3,w3⟩
    | cont =>
      obtain ⟨σ3,H3,I3,n3⟩:=q3
      obtain ⟨m',hm,w3⟩:=hN σ3 H3 n3
      exact ⟨m',hm,σ3,H3,I3,w3⟩
    | brk=>exact q3
    | ret v=>exact q3
  | false =>
    rw [if_neg Bool.false_ne_true]
    exact wpAny_execs_nil ⟨σ1,H2,I2,q2⟩
end
structure It where
  go:Nat→Hp→Prop
  yld:Nat→Hp→V→Hp→Prop
  stop:Nat→Hp→Prop
noncomputable def o8 (X:Cx) (pins:List (Addr × Obj)) (H:Hp) (b:Addr):Prop :=
  H b=none∧b≠X.env.locals∧b ∉ X.fs∧(b∈X.ex∨X.s₀.heap.objs.size≤b)∧(∀ x c,X.env.cells.lookup x=some c→c≠b)∧∀ p∈X.pn++pins,p.1≠b
theorem Inv.fpOk {X:Cx} {pins:List (Addr × Obj)} {σ:St} {H H':Hp} {s:Shared} {b:Addr} (I:Inv X pins σ H s) (hb:s.heap.objs.size≤b) (hn:H' b=none):o8 X pins H' b:=by
  refine ⟨hn,Nat.ne_of_gt (Nat.lt_of_lt_of_le I.lt hb),I.nofs hb,.inr (Nat.le_trans I.sz hb),fun x c e z=>?_,fun p hp z=>?_⟩
  · obtain ⟨v,q⟩:=I.cell x c e
    exact absurd (Nat.lt_of_lt_of_le q.lt (by rw [z]; exact hb)) (Nat.lt_irrefl _)
  · exact absurd (Nat.lt_of_lt_of_le (Heap.lt_size (I.pin p hp).1) (by rw [z]; exact hb)) (Nat.lt_irrefl _)
structure Turn (P:Program) (w:World) (K:PySem.W.Frag) (tg:Expr) (J:It) (fp:List Addr) (it:Addr) (tn:Nat→Heap→Prop):Prop where
  mem:it∈fp
  obj:∀ i h,tn i h→∀ b∈fp,∃ o,h.get? b=some o∧∀ v,o.data≠.cell v
  keep:∀ i h h',tn i h→(∀ b∈fp,∀ o,h.get? b=some o→h'.get? b=some o)→tn i h'
  item:∀ (X:Cx),X.prog=P→X.w=w→X.K=K→X.calm=true→∀ (i:Nat) (pins:List (Addr × Obj)) (s:Shared) (σ:St) (H:Hp) (E:Value→Shared→Prop),Inv X pins σ H s→(∀ b∈fp,o8 X pins H b)→tn i s.heap→J.go i H →
    wpAny (model P w) X.A (pyNext (.ref it)) (fun r s1=>∃ u,r=some u ∧
      wpAny (model P w) X.A (letOwnedTupleGo tg (.ref it) u) (fun _ s2=>∃ x H',Inv X pins σ H' s2∧RelV x u∧J.yld i H x H'∧tn (i + 1) s2.heap∧∀ b∈fp,H' b=none) E s1) E s
  done:∀ (X:Cx),X.prog=P→X.w=w→X.K=K→X.calm=true→∀ (i:Nat) (pins:List (Addr × Obj)) (s:Shared) (σ:St) (H:Hp) (E:Value→Shared→Prop),Inv X pins σ H s→(∀ b∈fp,o8 X pins H b)→tn i s.heap→J.stop i H →
    wpAny (model P w) X.A (pyNext (.ref it)) (fun r s1=>r=none∧Inv X pins σ H s1) E s
  self:∀ (A:Around) (i:Nat) (s:Shared) (Q:Value→Shared→Prop) (E:Value→Shared→Prop),tn i s.heap→Q (.ref it) s→wpAny (model P w) A (pyIter (.ref it)) Q E s
noncomputable abbrev TI:=St→Hp→(It→Hp→Prop)→Prop
noncomputable def PIE (X:Cx) (pins:List (Addr × Obj)) (σ:St) (tg:Expr) (R:It→Hp→Prop) (itv:Value) (s2:Shared):Prop :=
  ∃ (it:Addr) (fp:List Addr) (tn:Nat→Heap→Prop) (J:It) (H':Hp),itv=.ref it∧Inv X pins σ H' s2∧Turn X.prog X.w X.K tg J fp it tn∧tn 0 s2.heap∧(∀ b∈fp,o8 X pins H' b)∧R J H'
noncomputable def PI (X:Cx) (tg iter:Expr) (wi:TI):Prop :=
  ∀ (pins:List (Addr × Obj)) (s:Shared) (σ:St) (H:Hp) (R:It→Hp→Prop),Inv X pins σ H s→wi σ H R →
    wpAny (model X.prog X.w) X.A (eval iter X.env) (fun v s1=>wpAny (model X.prog X.w) X.A (pyIter v) (PIE X pins σ tg R) X.xe s1) X.xe s
theorem Al {M:Model} {A:Around} {E:Value→Shared→Prop} {s:Shared} {tg:Expr} {it:Addr} {u:Value} {o:Obj} {n:String} {vs:Array Value} {Q:Unit→Shared→Prop} (ho:s.heap.get? it=some o) (hc:o.cls=.type n) (hd:o.data=.fields vs)
    (hn:["enumerate", "zip", "dict_itemiterator", "dict_reverseitemiterator", "odict_iterator", "itertools.zip_longest", "itertools.pairwise"].contains n=false) (hQ:Q () s):wpAny M A (letOwnedTupleGo tg (.ref it) u) Q E s:=by
  unfold letOwnedTupleGo
  cases tg <;> first
    | exact wpAny_pure hQ
    | (cases u <;> first
        | exact wpAny_pure hQ
        | (refine wpAny_bind (wpAny_load ho ?_)
           rw [hc,hd]
           show wpAny M A (if (["enumerate", "zip", "dict_itemiterator", "dict_reverseitemiterator", "odict_iterator", "itertools.zip_longest", "itertools.pairwise"].contains n && vs[0]? == some (rawInt _))=true then _ else _) Q E s
           rw [if_neg (by intro h; rw [hn,Bool.false_and] at h; cases h)]
           exact wpAny_pure hQ))
noncomputable def Itl (K:PySem.W.Frag) (a:Addr):It :=
  ⟨fun i H=>∃ xs x,SqL K H a xs∧xs[i]?=some x,fun i H x H'=>H'=H∧∀ xs,SqL K H a xs→xs[i]?=some x,fun i H=>∃ xs,SqL K H a xs∧xs.length≤i⟩
noncomputable def Itt (K:PySem.W.Frag) (a:Addr):It :=
  ⟨fun i H=>∃ xs x,SqT K H a xs∧xs[i]?=some x,fun i H x H'=>H'=H∧∀ xs,SqT K H a xs→xs[i]?=some x,fun i H=>∃ xs,SqT K H a xs∧xs.length≤i⟩
noncomputable def Itr (lo:Int) (n:Nat):It:=⟨fun i _=>i < n,fun i H x H'=>H'=H∧x=.int (lo + i),fun i _=>n≤i⟩
theorem yA {P:Program} {w:World} {K:PySem.W.Frag} {tg:Expr} (a it:Addr):Turn P w K tg (Itl K a) [it] it (fun i h=>h.IsListIter it a i) where
  mem:=by simp
  obj:=fun i h st b hb=>by
    have e:b=it:=by simpa using hb
    subst e
    obtain ⟨o,e,c,d⟩:=st
    exact ⟨o,e,fun v z=>by rw [d] at z; cases z⟩
  keep:=fun i h h' st k=>st.at fun o e=>k it (by simp) o e
  item:=by
    intro X hP hw hK hc i pins s σ H E I hf st hg
    subst hP hw hK
    obtain ⟨xs,x,hq,hx⟩:=hg
    obtain ⟨its,rv,p,hz⟩:=I.list hq
    obtain ⟨u,hu,ru⟩:=rv.get hx
    obtain ⟨f0,f1,f2,f3,f4,f5⟩:=hf it (by simp)
    refine wpAny_pyNext_list_item st p.isList (x:=u) (by simpa using hu) fun h' st' sb=>?_
    have I1:Inv X pins σ H { s with heap:=h' }:=I.turned (t':=s.toks) (fun b o hb e=>(sb.2 b hb).trans e) f0 f1 f3 f4 f5
    obtain ⟨o,e,c,d⟩:=id st'
    exact ⟨u,rfl,Al (s:={ s with heap:=h' }) e c d (by decide) ⟨x,H,I1,ru,⟨rfl,fun ys hy=>by rw [I.list_inj hy hq]; exact hx⟩,st',fun b hb=>(hf b hb).1⟩⟩
  done:=by
    intro X hP hw hK hc i pins s σ H E I hf st hg
    subst hP hw hK
    obtain ⟨xs,hq,hx⟩:=hg
    obtain ⟨its,rv,p,hz⟩:=I.list hq
    obtain ⟨f0,f1,f2,f3,f4,f5⟩:=hf it (by simp)
    have hl:=rv.length
    exact wpAny_pyNext_list_end (I.ok.hd hc) st p.isList (by simp; omega) fun h' eb=>⟨rfl,I.turned (t':=s.toks) (fun b o hb e=>eb b o hb e) f0 f1 f3 f4 f5⟩
  self:=fun _ _ _ _ _ st h=>wpAny_pyIter_listiter st h
theorem wc {P:Program} {w:World} {K:PySem.W.Frag} {tg:Expr} (a it:Addr):Turn P w K tg (Itt K a) [it] it (fun i h=>h.IsTupleIter it a i) where
  mem:=by simp
  obj:=fun i h st b hb=>by
    have e:b=it:=by simpa using hb
    subst e
    obtain ⟨o,e,c,d⟩:=st
    exact ⟨o,e,fun v z=>by rw [d] at z; cases z⟩
  keep:=fun i h h' st k=>st.at fun o e=>k it (by simp) o e
  item:=by
    intro X hP hw hK hc i pins s σ H E I hf st hg
    subst hP hw hK
    obtain ⟨xs,x,hq,hx⟩:=hg
    obtain ⟨its,rv,p,hz⟩:=I.tuple hq
    obtain ⟨u,hu,ru⟩:=rv.get hx
    obtain ⟨f0,f1,f2,f3,f4,f5⟩:=hf it (by simp)
    refine wpAny_pyNext_tuple_item st (show s.heap.IsTuple a its.toArray from p) (x:=u) (by simpa using hu) fun h' st' sb=>?_
    have I1:Inv X pins σ H { s with heap:=h' }:=I.turned (t':=s.toks) (fun b o hb e=>(sb.2 b hb).trans e) f0 f1 f3 f4 f5
    obtain ⟨o,e,c,d⟩:=id st'
    exact ⟨u,rfl,Al (s:={ s with heap:=h' }) e c d (by decide) ⟨x,H,I1,ru,⟨rfl,fun ys hy=>by rw [I.tuple_inj hy hq]; exact hx⟩,st',fun b hb=>(hf b hb).1⟩⟩
  done:=by
    intro X hP hw hK hc i pins s σ H E I hf st hg
    subst hP hw hK
    obtain ⟨xs,hq,hx⟩:=hg
    obtain ⟨its,rv,p,hz⟩:=I.tuple hq
    obtain ⟨f0,f1,f2,f3,f4,f5⟩:=hf it (by simp)
    have hl:=rv.length
    exact wpAny_pyNext_tuple_end (I.ok.hd hc) st (show s.heap.IsTuple a its.toArray from p) (by simp; omega) fun h' eb=>⟨rfl,I.turned (t':=s.toks) (fun b o hb e=>eb b o hb e) f0 f1 f3 f4 f5⟩
  self:=fun _ _ _ _ _ st h=>wpAny_pyIter_tupleiter st h
theorem wa {P:Program} {w:World} {K:PySem.W.Frag} {tg:Expr} (it:Addr) (lo:Int) (n:Nat):Turn P w K tg (Itr lo n) [it] it (fun i h=>IsRangeIter h it (lo + (i:Nat) * 1) ((n:Int) - (i:Nat)) 1) where
  mem:=by simp
  obj:=fun i h st b hb=>by
    have e:b=it:=by simpa using hb
    subst e
    exact ⟨_,st,fun v z=>by
      have z':Data.fields _=Data.cell v:=z
      cases z'⟩
  keep:=fun i h h' st k=>k it (by simp) _ st
  item:=by
    intro X hP hw hK hc i pins s σ H E I hf st hg
    subst hP hw hK
    obtain ⟨f0,f1,f2,f3,f4,f5⟩:=hf it (by simp)
    have W:=Walks.range (prog:=X.prog) (w:=X.w) (I.ok.hd hc) it lo 1 n
    refine W.item i s _ _ hg st fun v h' tk hv st' kk=>?_
    obtain ⟨t,rfl⟩:=hv
    have I1:Inv X pins σ H { s with heap:=h',toks:=tk }:=I.turned (fun b o hb e=>kk b o (by simpa using hb) e) f0 f1 f3 f4 f5
    refine ⟨_,rfl,Al (s:={ s with heap:=h',toks:=tk }) (n:="range_iterator") st' rfl rfl (by decide) ⟨.int (lo + i),H,I1,⟨t,?_⟩,⟨rfl,rfl⟩,st',fun b hb=>(hf b hb).1⟩⟩
    rw [Int.mul_one]
  done:=by
    intro X hP hw hK hc i pins s σ H E I hf st hg
    subst hP hw hK
    obtain ⟨f0,f1,f2,f3,f4,f5⟩:=hf it (by simp)
    exact wpAny_pyNext_range_end (I.ok.hd hc) st (by have:n≤i:=hg; omega) fun h' eb=>⟨rfl,I.turned (t':=s.toks) (fun b o hb e=>eb b o hb e) f0 f1 f3 f4 f5⟩
  self:=fun _ _ _ _ _ st h=>wpAny_pyIter_rangeiter st h
end L2
namespace L2
open PySem PySem.Spec PyProof.Rows
section
variable {X:Cx} {tg:Expr}
noncomputable def E5 (K:PySem.W.Frag) (tl:TE):TI:=fun σ H R=>tl σ H fun x H1=>∃ a,x=.ref a∧(∃ xs,SqL K H1 a xs)∧R (Itl K a) H1
noncomputable def Ge (K:PySem.W.Frag) (tl:TE):TI:=fun σ H R=>tl σ H fun x H1=>∃ a,x=.ref a∧(∃ xs,SqT K H1 a xs)∧R (Itt K a) H1
theorem Cy {l:Expr} {tl:TE} (hl:PE X l tl):PI X tg l (E5 X.K tl):=by
  intro pins s σ H R I h
  refine thn (hl pins s σ H _ I h) fun v s1 rz2=>?_
  obtain ⟨x,H1,I1,r1,q1⟩:=rz2
  obtain ⟨a,e,⟨xs,hq⟩,q⟩:=q1
  subst e
  cases r1
  obtain ⟨its,rv,p,hz⟩:=I1.list hq
  refine wpAny_pyIter_list p.isList ?_
  refine ⟨s1.heap.objs.size,[s1.heap.objs.size],_,_,H1,rfl,I1.kept (t':=s1.toks) fun b o e=>Heap.get?_push_of_some _ e,yA a _,⟨_,Heap.get?_push_size _ rfl,rfl,rfl⟩,fun b hb=>?_,q⟩
  have e:b=s1.heap.objs.size:=by simpa using hb
  subst e
  exact I1.fpOk (Nat.le_refl _) (I1.hok.fresh (Nat.le_refl _))
theorem DQ {l:Expr} {tl:TE} (hl:PE X l tl):PI X tg l (Ge X.K tl):=by
  intro pins s σ H R I h
  refine thn (hl pins s σ H _ I h) fun v s1 rz2=>?_
  obtain ⟨x,H1,I1,r1,q1⟩:=rz2
  obtain ⟨a,e,⟨xs,hq⟩,q⟩:=q1
  subst e
  cases r1
  obtain ⟨its,rv,p,hz⟩:=I1.tuple hq
  refine wpAny_pyIter_tuple (show s1.heap.IsTuple a its.toArray from p) ?_
  refine ⟨s1.heap.objs.size,[s1.heap.objs.size],_,_,H1,rfl,I1.kept (t':=s1.toks) fun b o e=>Heap.get?_push_of_some _ e,wc a _,⟨_,Heap.get?_push_size _ rfl,rfl,rfl⟩,fun b hb=>?_,q⟩
  have e:b=s1.heap.objs.size:=by simpa using hb
  subst e
  exact I1.fpOk (Nat.le_refl _) (I1.hok.fresh (Nat.le_refl _))
theorem Ax {pins:List (Addr × Obj)} {σ:St} {H:Hp} {s:Shared} {R:It→Hp→Prop} {E:Value→Shared→Prop} {lo hi:Int} {t u v:Tok} {tk:Nat} (I:Inv X pins σ H s) (h1:-(2 ^ 62)≤lo) (h2:lo < 2 ^ 62) (h3:-(2 ^ 62)≤hi) (h4:hi < 2 ^ 62)
    (q:R (Itr lo (hi - lo).toNat) H):wpAny (model X.prog X.w) X.A (pyIter (.ref s.heap.objs.size)) (PIE X pins σ tg R) E { s with heap:=s.heap.push { cls:=.type "range",data:=.fields #[.int lo t,.int hi u,.int 1 v] },toks:=tk }:=by
  refine wpAny_pyIter_range (IsRange.new ..) (small_one h1 h2 h3 h4) ?_
  have I1:Inv X pins σ H { s with heap:=s.heap.push { cls:=.type "range",data:=.fields #[.int lo t,.int hi u,.int 1 v] },toks:=tk }:=I.kept fun b o e=>Heap.get?_push_of_some _ e
  refine ⟨(s.heap.push { cls:=.type "range",data:=.fields #[.int lo t,.int hi u,.int 1 v] }).objs.size,[(s.heap.push { cls:=.type "range",data:=.fields #[.int lo t,.int hi u,.int 1 v] }).objs.size],_,_,H,rfl,
    I1.kept (t':=tk) fun b o e=>Heap.get?_push_of_some _ e,wa _ lo (hi - lo).toNat,?_,fun b hb=>?_,q⟩
  · have e1:lo + ((0:Nat):Int) * 1=lo:=by simp
    have e2:(((hi - lo).toNat:Nat):Int) - ((0:Nat):Int)=Builtin.Range.rangeSize lo hi 1:=by rw [rangeSize_one]; split <;> omega
    show IsRangeIter _ _ (lo + ((0:Nat):Int) * 1) ((((hi - lo).toNat:Nat):Int) - ((0:Nat):Int)) 1
    rw [e1,e2]
    exact Heap.get?_push_size _ rfl
  · have e:b=(s.heap.push { cls:=.type "range",data:=.fields #[.int lo t,.int hi u,.int 1 v] }).objs.size:=by simpa using hb
    subst e
    exact I1.fpOk (Nat.le_refl _) (I1.hok.fresh (Nat.le_refl _))
noncomputable def E8 (ta:TA):TI:=fun σ H R=>ta σ H fun vs H1=>∃ j:Int,vs=[.int j]∧-(2 ^ 62)≤j∧j < 2 ^ 62∧R (Itr 0 j.toNat) H1
theorem yN {a:Expr} {ta:TA} {p pos:Pos} (hg:Gl X "range") (hm:X.mg "range"=none) (ha:PA X [a] ta) (hs:starEach [a] X.env=[(false,eval a X.env)]:=by rfl):PI X tg (.Call (.Name "range" p) [a] [] pos) (E8 ta):=by
  intro pins s σ H R I h
  refine Call_ (kF I hg hm boot_range (PyProof.Rows.callWith_type1 (thn (ha pos pins s σ H _ I h) fun us s1 rz2=>?_) hs rfl))
  obtain ⟨vs,H1,I1,r1,q1⟩:=rz2
  obtain ⟨j,e,q1,q2,q⟩:=q1
  subst e
  cases r1 with
  | cons r rr =>
    cases rr
    obtain ⟨t,rfl⟩:=r
    exact call_range_1 (Ax I1 (by omega) (by omega) q1 q2 (by simpa using q))
noncomputable def F0 (wi:TI) (g:TG) (tb:TS):TS:=fun D σ H=>wi σ H fun J H1=>∃ W:Nat→Nat→St→Hp→Prop,(∃ m,W 0 m σ H1)∧∀ i m σ H,W i m σ H →
  (J.stop i H∧D.nx σ H)∨(J.go i H∧∃ N:St→Hp→Prop,(∀ σ' H',N σ' H'→∃ m',m' < m∧W (i + 1) m' σ' H')∧∀ x H',J.yld i H x H'→g x σ H' fun σ2 H2=>tb { D with nx:=N,ct:=N,bk:=D.nx } σ2 H2)
noncomputable def pH (fp:List Addr) (h:Heap):List (Addr × Obj):=fp.filterMap fun b=>(h.get? b).map fun o=>(b,o)
theorem jv {fp:List Addr} {h:Heap} {b:Addr} {o:Obj} (hb:b∈fp) (e:h.get? b=some o):(b,o)∈pH fp h:=List.mem_filterMap.mpr ⟨b,hb,by rw [e]; rfl⟩
theorem zg {fp:List Addr} {h:Heap} {p:Addr × Obj} (hp:p∈pH fp h):p.1∈fp∧h.get? p.1=some p.2:=by
  obtain ⟨b,hb,e⟩:=List.mem_filterMap.mp hp
  cases q:h.get? b with
  | none=>rw [q] at e; cases e
  | some o =>
    rw [q] at e
    have e':(b,o)=p:=Option.some.inj e
    subst e'
    exact ⟨hb,q⟩
theorem Inv.pinned {pins:List (Addr × Obj)} {σ:St} {H:Hp} {s:Shared} {fp:List Addr} (I:Inv X pins σ H s) (hf:∀ b∈fp,o8 X pins H b) (ho:∀ b∈fp,∃ o,s.heap.get? b=some o∧∀ v,o.data≠.cell v):Inv X (pins++pH fp s.heap) σ H s :=
  I.pins_of fun p hp=>(List.mem_append.mp hp).elim (fun z=>I.pin p (List.mem_append_right _ z)) fun z=>by
    obtain ⟨hb,e⟩:=zg z
    obtain ⟨f0,f1,f2,_⟩:=hf p.1 hb
    obtain ⟨o,e',d⟩:=ho p.1 hb
    rw [e] at e'; cases e'
    exact ⟨e,f0,f1,f2,d⟩
theorem Inv.unpinned {pins pl:List (Addr × Obj)} {σ:St} {H:Hp} {s:Shared} (I:Inv X (pins++pl) σ H s):Inv X pins σ H s:=I.pins_of fun p hp=>I.pin p (List.mem_append_right _ (List.mem_append_left _ hp))
theorem Ec {iter:Expr} {body:List Stmt} {wi:TI} {g:TG} {tb:TS} {pos:Pos} (hp:PassesOwn (model X.prog X.w) X.A X.env X.xe) (hc:X.calm=true) (hi:PI X tg iter wi) (hg:PG X tg g) (hb:PSs X body tb)
    (hs:∀ x,foldedSetIterable iter X.env x=pure x:=by intro _; rfl):PS X (.For tg iter body [] pos) (F0 wi g tb):=by
  intro pins s σ H D I h
  refine wpAny_For (thn (hi pins s σ H _ I h) fun v s1 h1=>thn h1 fun itv s2 h2=>?_) hs
  obtain ⟨it,fp,tn,J,H2,e,I2,T,st2,f2,W,⟨m0,w0⟩,turn⟩:=h2
  subst e
  -- what stays true of the iterator's objects through the loop
  have stat:∀ {H':Hp},(∀ b∈fp,H' b=none)→∀ b∈fp,o8 X pins H' b:=fun hn b hb=>⟨hn b hb,(f2 b hb).2⟩
  refine codeAny_forLoop_any (fun n s'=>∃ i σ' H',Inv X pins σ' H' s'∧tn i s'.heap∧(∀ b∈fp,H' b=none)∧W i n σ' H') ?_ m0 ⟨0,σ,H2,I2,st2,fun b hb=>(f2 b hb).1,w0⟩
  rintro n s3 ⟨i,σ3,H3,I3,st3,fr3,w3⟩
  rcases turn i n σ3 H3 w3 with ⟨stop,qn⟩ | ⟨go,N,hN,step⟩
  · refine wpAny_passesOwn hp (thn (T.done X rfl rfl rfl hc i pins s3 σ3 H3 X.xe I3 (stat fr3) st3 stop) fun r s4 rz2=>?_)
    obtain ⟨hr,I4⟩:=rz2
    subst hr
    exact wpAny_execs_nil ⟨σ3,H3,I4,qn⟩
  · refine wpAny_passesOwn hp (thn (T.item X rfl rfl rfl hc i pins s3 σ3 H3 X.xe I3 (stat fr3) st3 go) fun r s4 rz2=>?_)
    obtain ⟨u,hr,h4⟩:=rz2
    subst hr
    refine wpAny_passesOwn hp (thn h4 fun _ s5 rz2=>?_)
    obtain ⟨x,H5,I5,r5,y5,st5,fr5⟩:=rz2
    have I5':=I5.pinned (stat fr5) (T.obj _ _ st5)
    refine wpAny_passesOwn hp (thn (hg _ s5 σ3 H5 x u _ I5' r5 (step x H5 y5)) fun _ s6 rz2=>?_)
    obtain ⟨σ6,H6,I6,q6⟩:=rz2
    refine wpAny_passesOwn hp (thn (hb _ s6 σ6 H6 _ I6 q6) fun f s7 q7=>?_)
    have again:∀ {σ7:St} {H7:Hp},Inv X (pins++pH fp s5.heap) σ7 H7 s7→N σ7 H7→∃ m,m < n∧∃ i σ' H',Inv X pins σ' H' s7∧tn i s7.heap∧(∀ b∈fp,H' b=none)∧W i m σ' H':=fun {σ7 H7} I7 n7=>by
      obtain ⟨m',hm,w7⟩:=hN σ7 H7 n7
      refine ⟨m',hm,i + 1,σ7,H7,I7.unpinned,T.keep _ _ _ st5 fun b hb o e=>(I7.pin (b,o) (List.mem_append_right _ (List.mem_append_right _ (jv hb e)))).1,fun b hb=>?_,w7⟩
      obtain ⟨o,e,d⟩:=T.obj _ _ st5 b hb
      exact (I7.pin (b,o) (List.mem_append_right _ (List.mem_append_right _ (jv hb e)))).2.1
    cases f with
    | next=>obtain ⟨σ7,H7,I7,n7⟩:=q7; exact again I7 n7
    | cont=>obtain ⟨σ7,H7,I7,n7⟩:=q7; exact again I7 n7
    | brk=>obtain ⟨σ7,H7,I7,q7⟩:=q7; exact ⟨σ7,H7,I7.unpinned,q7⟩
    | ret v=>obtain ⟨x7,σ7,H7,I7,r7,q7⟩:=q7; exact ⟨x7,σ7,H7,I7.unpinned,r7,q7⟩
end
end L2
namespace L2
open PySem PySem.Spec PyProof.Rows
noncomputable abbrev R2:=V→V→Hp→VK→Prop
noncomputable def OpR (X:Cx) (f:Value→Value→Sem Value) (r:R2):Prop :=
  ∀ (pins:List (Addr × Obj)) (s:Shared) (σ:St) (H:Hp) (x y:V) (v u:Value) (Q:VK),Inv X pins σ H s→RelV x v→RelV y u→r x y H Q →
    wpAny (model X.prog X.w) X.A (f v u) (EP X pins σ Q) X.xe s
noncomputable def UnR (X:Cx) (f:Value→Sem Value) (r:V→Hp→VK→Prop):Prop :=
  ∀ (pins:List (Addr × Obj)) (s:Shared) (σ:St) (H:Hp) (x:V) (v:Value) (Q:VK),Inv X pins σ H s→RelV x v→r x H Q →
    wpAny (model X.prog X.w) X.A (f v) (EP X pins σ Q) X.xe s
noncomputable def jb (X:Cx) (f:Value) (r:List V→Hp→VK→Prop):Prop :=
  ∀ (pins:List (Addr × Obj)) (s:Shared) (σ:St) (H:Hp) (xs:List V) (us:List Value) (Q:VK),Inv X pins σ H s→Vals xs us→r xs H Q →
    wpAny (model X.prog X.w) X.A (call f us) (EP X pins σ Q) X.xe s
noncomputable def tOp (r:R2) (ta tb:TE):TE:=fun σ H Q=>ta σ H fun x H1=>tb σ H1 fun y H2=>r x y H2 Q
noncomputable def tUn (r:V→Hp→VK→Prop) (ta:TE):TE:=fun σ H Q=>ta σ H fun x H1=>r x H1 Q
noncomputable def rI (C:Int→Int→Prop) (g:Int→Int→V):R2:=fun x y H Q=>∃ i j,x=.int i∧y=.int j∧C i j∧Q (g i j) H
noncomputable def rI0 (g:Int→Int→V):R2:=fun x y H Q=>∃ i j,x=.int i∧y=.int j∧Q (g i j) H
noncomputable def rU (g:Int→V):V→Hp→VK→Prop:=fun x H Q=>∃ i,x=.int i∧Q (g i) H
section
variable {X:Cx} {a b c:Expr} {ta tb tc:TE} {pos:Pos}
theorem D9 (ha:PE X a ta) (hb:PE X b tb) {pins:List (Addr × Obj)} {s:Shared} {σ:St} {H:Hp} {R:V→V→Hp→Prop} (I:Inv X pins σ H s)
    (h:ta σ H fun x H1=>tb σ H1 fun y H2=>R x y H2) {Q:Value→Shared→Prop} {f:Value→Value→Sem Value}
    (hf:∀ v u s2 x y H2,Inv X pins σ H2 s2→RelV x v→RelV y u→R x y H2→wpAny (model X.prog X.w) X.A (f v u) Q X.xe s2) :
    wpAny (model X.prog X.w) X.A (eval a X.env) (fun v s₁=>wpAny (model X.prog X.w) X.A (eval b X.env) (fun u s₂=>wpAny (model X.prog X.w) X.A (f v u) Q X.xe s₂) X.xe s₁) X.xe s:=by
  refine thn (ha pins s σ H _ I h) fun v s1 rz2=>?_
  obtain ⟨x,H1,I1,r1,q1⟩:=rz2
  refine thn (hb pins s1 σ H1 _ I1 q1) fun u s2 rz2=>?_
  obtain ⟨y,H2,I2,r2,q2⟩:=rz2
  exact hf v u s2 x y H2 I2 r1 r2 q2
theorem fV {op:Operator} {r:R2} (ho:OpR X (binaryOp op) r) (ha:PE X a ta) (hb:PE X b tb):PE X (.BinOp a op b pos) (tOp r ta tb):=by
  intro pins s σ H Q I h
  exact wpAny_BinOp (D9 ha hb I h fun v u s2 x y H2 I2 rx ry q=>ho pins s2 σ H2 x y v u Q I2 rx ry q)
theorem E4 {op:UnaryOp} {r:V→Hp→VK→Prop} (ho:UnR X (unaryOp op) r) (ha:PE X a ta):PE X (.UnaryOp op a pos) (tUn r ta):=by
  intro pins s σ H Q I h
  exact UnaryOp_ (thn (ha pins s σ H _ I h) fun v s1 qz2=>(by obtain ⟨x,H1,I1,r1,q1⟩:=qz2; exact ho pins s1 σ H1 x v Q I1 r1 q1))
theorem opI {f:Value→Value→Sem Value} {C:Int→Int→Prop} {g:Int→Int→Int}
    (rule:∀ (i j:Int) (t u:Tok) (s:Shared) (Q:Value→Shared→Prop) (E:Value→Shared→Prop),C i j→Q (.int (g i j) s.toks) { s with toks:=s.toks + 1 }→wpAny (model X.prog X.w) X.A (f (.int i t) (.int j u)) Q E s) :
    OpR X f (rI C fun i j=>.int (g i j)):=by
  intro pins s σ H x y v u Q I rx ry h
  obtain ⟨i,j,rfl,rfl,hc,q⟩:=h
  obtain ⟨t,rfl⟩:=rx
  obtain ⟨t',rfl⟩:=ry
  exact rule i j t t' s _ _ hc ⟨.int (g i j),H,I.tok _,⟨_,rfl⟩,q⟩
theorem EX {f:Value→Value→Sem Value} {g:Int→Int→Int}
    (rule:∀ (i j:Int) (t u:Tok) (s:Shared) (Q:Value→Shared→Prop) (E:Value→Shared→Prop),Q (.int (g i j) s.toks) { s with toks:=s.toks + 1 }→wpAny (model X.prog X.w) X.A (f (.int i t) (.int j u)) Q E s) :
    OpR X f (rI0 fun i j=>.int (g i j)):=by
  intro pins s σ H x y v u Q I rx ry h
  obtain ⟨i,j,rfl,rfl,q⟩:=h
  obtain ⟨t,rfl⟩:=rx
  obtain ⟨t',rfl⟩:=ry
  exact rule i j t t' s _ _ ⟨.int (g i j),H,I.tok _,⟨_,rfl⟩,q⟩
theorem Ga {f:Value→Value→Sem Value} {g:Int→Int→Bool}
    (rule:∀ (i j:Int) (t u:Tok) (s:Shared) (Q:Value→Shared→Prop) (E:Value→Shared→Prop),Q (.bool (g i j)) s→wpAny (model X.prog X.w) X.A (f (.int i t) (.int j u)) Q E s) :
    OpR X f (rI0 fun i j=>.bl (g i j)):=by
  intro pins s σ H x y v u Q I rx ry h
  obtain ⟨i,j,rfl,rfl,q⟩:=h
  obtain ⟨t,rfl⟩:=rx
  obtain ⟨t',rfl⟩:=ry
  exact rule i j t t' s _ _ ⟨.bl (g i j),H,I,rfl,q⟩
noncomputable def FD (i j:Int):Prop:=0 < j∧j < 1073741824
noncomputable def BZ (i j:Int):Prop:=(-(2 ^ 64) < i∧i < 2 ^ 64)∨(-(2 ^ 64) < j∧j < 2 ^ 64)
theorem BZ.ok {i j:Int} (h:BZ i j):IntMulOk i j:=by
  rcases h with ⟨h1,h2⟩ | ⟨h1,h2⟩
  · exact .of_left (intBits_le_64 h1 h2)
  · exact .of_right (intBits_le_64 h1 h2)
theorem m6:OpR X (binaryOp .Add) (rI0 fun i j=>.int (i + j)):=EX fun _ _ _ _ _ _ _ q=>add_int q
theorem DX:OpR X (binaryOp .Sub) (rI0 fun i j=>.int (i - j)):=EX fun _ _ _ _ _ _ _ q=>sub_int q
theorem nv:OpR X (binaryOp .Mult) (rI BZ fun i j=>.int (i * j)):=opI fun _ _ _ _ _ _ _ hc q=>mul_int q hc.ok
theorem BA:OpR X (binaryOp .FloorDiv) (rI FD fun i j=>.int (i / j)):=opI fun i j _ _ _ _ _ hc q=>by
  have h1:(0:Int) < j:=hc.1
  have h2:j < 1073741824:=hc.2
  exact floordiv_int (by omega) (by rw [Int.fdiv_eq_ediv_of_nonneg i (by omega)]; exact q) (.inl (PyProof.noPylong_small (by omega)))
theorem p6:OpR X (binaryOp .Mod) (rI (fun _ j=>0 < j) fun i j=>.int (i % j)):=opI fun i j _ _ _ _ _ hc q=>by
  have h1:(0:Int) < j:=hc
  exact mod_int' (by omega) (by rw [Int.fmod_eq_emod_of_nonneg i (by omega)]; exact q)
theorem unI {f:Value→Sem Value} {g:Int→Int}
    (rule:∀ (i:Int) (t:Tok) (s:Shared) (Q:Value→Shared→Prop) (E:Value→Shared→Prop),Q (.int (g i) s.toks) { s with toks:=s.toks + 1 }→wpAny (model X.prog X.w) X.A (f (.int i t)) Q E s) :
    UnR X f (rU fun i=>.int (g i)):=by
  intro pins s σ H x v Q I rx h
  obtain ⟨i,rfl,q⟩:=h
  obtain ⟨t,rfl⟩:=rx
  exact rule i t s _ _ ⟨.int (g i),H,I.tok _,⟨_,rfl⟩,q⟩
theorem EC:UnR X (unaryOp .USub) (rU fun i=>.int (-i)):=unI fun _ _ _ _ _ q=>neg_int q
end
section
variable {X:Cx} {a b c:Expr} {ta tb tc:TE} {pos:Pos}
theorem xv:OpR X (compareOp .LtE) (rI0 fun i j=>.bl (decide (i≤j))):=Ga fun _ _ _ _ _ _ _ q=>le_int q
theorem OpR.or {f:Value→Value→Sem Value} {r r':R2} (h:OpR X f r) (h':OpR X f r'):OpR X f (fun x y H Q=>r x y H Q∨r' x y H Q):=by
  intro pins s σ H x y v u Q I rx ry q
  rcases q with q | q
  · exact h pins s σ H x y v u Q I rx ry q
  · exact h' pins s σ H x y v u Q I rx ry q
theorem mW (b:Expr) {op:CmpOp} (h:op≠.In:=by decide) (h2:op≠.NotIn:=by decide):behindInMarks op b=false:=by
  have e1:(op == CmpOp.In)=false:=by cases op <;> first | rfl | exact absurd rfl h
  have e2:(op == CmpOp.NotIn)=false:=by cases op <;> first | rfl | exact absurd rfl h2
  cases b <;> simp [behindInMarks,e1,e2]
theorem tK {op:CmpOp} {r:R2} (ho:OpR X (compareOp op) r) (ha:PE X a ta) (hb:PE X b tb) (hm:behindInMarks op b=false):PE X (.Compare a [op] [b] pos) (tOp r ta tb):=by
  intro pins s σ H Q I h
  exact wpAny_Compare1 (D9 ha hb I h fun v u s2 x y H2 I2 rx ry q=>ho pins s2 σ H2 x y v u Q I2 rx ry q) hm
noncomputable def C9 (t:TE):TT:=fun σ H Q=>t σ H fun x H'=>∃ k,x=.bl k∧Q k H'
theorem kK {op:CmpOp} {r:R2} (ho:OpR X (compareOp op) r) (ha:PE X a ta) (hb:PE X b tb) (hm:behindInMarks op b=false):PT X (.Compare a [op] [b] pos) (C9 (tOp r ta tb)):=by
  intro pins s σ H Q I h
  refine wpAny_isTrue_Compare1 (thn (ha pins s σ H _ I h) fun v s1 rz2=>?_) hm
  obtain ⟨x,H1,I1,r1,q1⟩:=rz2
  refine thn (hb pins s1 σ H1 _ I1 q1) fun u s2 rz2=>?_
  obtain ⟨y,H2,I2,r2,q2⟩:=rz2
  refine thn (ho pins s2 σ H2 x y v u _ I2 r1 r2 q2) fun c s3 rz2=>?_
  obtain ⟨z,H3,I3,r3,k,e,q3⟩:=rz2
  subst e
  cases r3
  exact wpAny_truthy_bool ⟨H3,I3,q3⟩
noncomputable def DK (r r':R2) (ta tb tc:TE):TE:=fun σ H Q=>ta σ H fun x H1=>tb σ H1 fun y H2=>r x y H2 fun z H3=>∃ k,z=.bl k ∧
  (if k=true then tc σ H3 fun w' H4=>r' y w' H4 Q else Q (.bl false) H3)
theorem Bu {op op':CmpOp} {r r':R2} (ho:OpR X (compareOp op) r) (ho':OpR X (compareOp op') r') (ha:PE X a ta) (hb:PE X b tb) (hc:PE X c tc)
    (hm:lastMarks [op,op'] [b,c]=false:=by with_unfolding_all rfl):PE X (.Compare a [op,op'] [b,c] pos) (DK r r' ta tb tc):=by
  intro pins s σ H Q I h
  refine Compare_chain (thn (ha pins s σ H _ I h) fun v s1 rz2=>?_) hm
  obtain ⟨x,H1,I1,r1,q1⟩:=rz2
  refine chain_link (thn (hb pins s1 σ H1 _ I1 q1) fun u s2 rz2=>?_)
  obtain ⟨y,H2,I2,r2,q2⟩:=rz2
  refine thn (ho pins s2 σ H2 x y v u _ I2 r1 r2 q2) fun d s3 rz2=>?_
  obtain ⟨z,H3,I3,r3,k,e,q3⟩:=rz2
  subst e
  cases r3
  refine wpAny_truthy_bool ?_
  cases k with
  | false=>exact ite_ff ⟨.bl false,H3,I3,rfl,q3⟩
  | true=>exact ite_tt (chain_last (thn (hc pins s3 σ H3 _ I3 q3) fun w' s4 qz2=>(by obtain ⟨z',H4,I4,r4,q4⟩:=qz2; exact ho' pins s4 σ H4 y z' u w' Q I4 r2 r4 q4)))
theorem sS:(sizeLine:Nat) < 2 ^ 63:=by rw [sizeLine_eq]; decide
theorem vals1 {x:V} {us:List Value} (r:Vals [x] us):∃ u,us=[u]∧RelV x u:=by
  cases r with
  | cons r1 r2=>cases r2; exact ⟨_,rfl,r1⟩
theorem vals2 {x y:V} {us:List Value} (r:Vals [x,y] us):∃ u w',us=[u,w']∧RelV x u∧RelV y w':=by
  cases r with
  | cons r1 r2 =>
    cases r2 with
    | cons r3 r4=>cases r4; exact ⟨_,_,rfl,r1,r3⟩
theorem zo (hc:X.calm=true):jb X (.builtin "min") (fun xs H Q=>∃ i j,xs=[.int i,.int j]∧Q (.int (if j < i then j else i)) H):=by
  intro pins s σ H xs us Q I r h
  obtain ⟨i,j,rfl,q⟩:=h
  obtain ⟨u,w',rfl,⟨t,rfl⟩,⟨t',rfl⟩⟩:=vals2 r
  refine min_two_ints (I.ok.hd hc) fun h' tk k=>⟨_,H,I.kept k,?_,q⟩
  by_cases hj:j < i
  · rw [if_pos hj,if_pos hj]; exact ⟨_,rfl⟩
  · rw [if_neg hj,if_neg hj]; exact ⟨_,rfl⟩
theorem yG:jb X (.type "int") (fun xs H Q=>(∃ i,xs=[.int i]∧Q (.int i) H)∨∃ k,xs=[.bl k]∧Q (.int (if k then 1 else 0)) H):=by
  intro pins s σ H xs us Q I r h
  rcases h with ⟨i,rfl,q⟩ | ⟨k,rfl,q⟩
  · obtain ⟨u,rfl,t,rfl⟩:=vals1 r
    exact call_int_int ⟨.int i,H,I,⟨_,rfl⟩,q⟩
  · obtain ⟨u,rfl,r1⟩:=vals1 r
    cases r1
    exact call_int_bool ⟨.int (if k then 1 else 0),H,I.tok _,⟨_,rfl⟩,q⟩
end
end L2
namespace L2
open PySem PySem.Spec PyProof.Rows
structure yP (h:Heap) (x dx C:Addr) (mA:Str→Option Value):Prop where
  obj:h.get? x=some (PySem.W.instObj C dx)
  ns:h.Ns1 dx mA
  ne:dx≠x
theorem yz {h:Heap} {dx:Addr} {mA:Str→Option Value} (n:h.Ns1 dx mA):∃ od,h.get? dx=some od∧∀ name,PySem.W.lookIn name od=some (mA name):=by
  obtain ⟨o,es,ep,ho,hd,hk,_,hm⟩:=n
  refine ⟨o,ho,fun name=>?_⟩
  have e:=hm name
  unfold nsFind findBy at e
  rw [← Array.find?_toList] at e
  unfold PySem.W.lookIn
  rw [hd]
  dsimp only
  split
  · rename_i y q
    rw [q] at e
    exact congrArg some e
  · rename_i q
    rw [q] at e
    have a:es.toList.any (·.refKey)=false:=by
      rw [List.any_eq_false]
      intro y hy
      obtain ⟨z,t,hkey⟩:=hk y (Array.mem_toList_iff.mp hy)
      simp [DictEntry.refKey,hkey]
    have a':¬ es.toList.any (·.refKey)=true:=by rw [a]; exact Bool.false_ne_true
    rw [if_neg a']
    exact congrArg some e
theorem yP.look {h:Heap} {x dx C:Addr} {mA:Str→Option Value} (I:yP h x dx C mA):∃ od,PySem.W.InstAt h x (PySem.W.instObj C dx) C (some od)∧∀ name,PySem.W.lookIn name od=some (mA name) :=
  let ⟨od,ho,hl⟩:=yz I.ns
  ⟨od,⟨I.obj,rfl,rfl,ho⟩,hl⟩
section
variable {prog:Program} {w:World} {A:Around} {E:Value→Shared→Prop} {s:Shared} {K:PySem.W.Frag} {x dx C f:Addr} {mA:Str→Option Value} {name:Str} {v:Value}
theorem get_map {expr:Bool} {Q:Value→Shared→Prop} (X:K.In s.heap) (I:yP s.heap x dx C mA) (hg:PySem.W.plainGet K C name=true) (hh:PySem.W.hasDictIn K C=true)
    (ha:PySem.W.findIn K (.ref C) name=some none) (hv:mA name=some v) (hv':PySem.W.handedIn v=true) (h:Q v { s with toks:=s.toks + 1 }) :
    wpAny (model prog w) A (getAttr (.ref x) name expr) Q E s:=by
  obtain ⟨od,J,hl⟩:=I.look
  exact PySem.W.get_value X J (PySem.W.plainGet_of hg).1 (PySem.W.findObj_own hh ha rfl (by rw [hl,hv])) hv' h
theorem Cb {ns:List Str} {Q:Unit→Shared→Prop} (X:K.In s.heap) (I:yP s.heap x dx C mA)
    (hs:PySem.W.findIn K (.ref C) "__setattr__"=some (some (.builtin "object.__setattr__"))) (hp:PySem.W.plainOver K C=true) (ht:PySem.W.takerIn K C name=some none) (hh:PySem.W.hasDictIn K C=true)
    (hw:PySem.Within mA ns) (hsz:ns.length≤sizeLine)
    (h:∀ h',yP h' x dx C (fun y=>if y=name then some v else mA y)→Heap.SameBut dx s.heap h'→Q () { s with heap:=h',toks:=s.toks + 2 }) :
    wpAny (model prog w) A (setAttr (.ref x) name v) Q E s:=by
  obtain ⟨od,J,hl⟩:=I.look
  refine PySem.W.set_plain X J hs (PySem.W.osa_open (s:={ s with toks:=s.toks + 1 }) (r:=none) X J hp ht fun b=>?_)
  obtain ⟨cd,hc,hd'⟩:=PySem.W.any_some hh
  have hx:s.heap.get? x=some ⟨.ref C,some dx,.plain,#[]⟩:=I.obj
  refine wpAny_bind (wpAny_pure (wpAny_bind (wpAny_bind (wpAny_loadPart hx (wpAny_bind (PySem.W.Looks.here (s:={ s with toks:=s.toks + 1 }) (PySem.W.looks_clsIn X hc) ?_))))))
  rw [hd']
  refine wpAny_pure (a:=some dx) (wpAny_bind (wpAny_pure (wpAny_bind ?_)))
  refine wpAny_nsSet1 (s:={ s with toks:=s.toks + 1 }) I.ns fun h' hn2 hs2=>?_
  obtain ⟨oD,esD,epD,hoD,hdD,hcD⟩:=hn2.count (PySem.Within.cons name v hw)
  refine wpAny_bind (wpAny_lookBehind hoD (by rw [hdD]; exact pastItsLine_dict (Nat.le_trans hcD (by rw [List.length_cons]; omega))) ?_)
  exact wpAny_pure (h _ ⟨(hs2.2 _ (Ne.symm I.ne)).trans I.obj,hn2,I.ne⟩ hs2)
theorem Bh {R:Result→Shared→Prop} {vs:List Value} {kw:List (Str × Value)} (X:K.In s.heap) (hm:PySem.W.makesIn K C=true)
    (hi:PySem.W.findIn K (.ref C) "__init__"=some (some (.ref f))) (hf:PySem.W.typeIn K (.ref f)=some (.type "function"))
    (h:codeAny (model prog w) (A.under (.builtin "type.__call__" ⟨.ref C::vs,kw⟩)) (.call (.ref f) ⟨.ref (s.heap.objs.size + 1)::vs,kw⟩) (PySem.W.InitBack (s.heap.objs.size + 1) R)
      { s with heap:=(s.heap.push PySem.W.emptyDict).push (PySem.W.instObj C s.heap.objs.size) }) :
    codeAny (model prog w) A (.call (.ref C) ⟨vs,kw⟩) R s:=by
  obtain ⟨hh,g,d,t,os⟩:=s
  exact PySem.W.make_core (PySem.W.makes_of X hm) (PySem.W.looks_findIn X hi) (fun self=>PySem.W.bind_fn X self hf) (.inl rfl) h
end
noncomputable def k4 (f:Str) (v:V):List (Str × V)→List (Str × V)
  | []=>[(f,v)]
  | (g,x)::r=>if g=f then (g,v)::r else (g,x)::k4 f v r
theorem nV (f g:Str) (v:V):∀ fs:List (Str × V),(k4 f v fs).lookup g=if g=f then some v else fs.lookup g
  | []=>by
    show List.lookup g [(f,v)]=_
    by_cases h:g=f
    · have hb:(g == f)=true:=beq_iff_eq.mpr h
      simp only [List.lookup,hb,if_pos h]
    · have hb:(g == f)=false:=beq_eq_false_iff_ne.mpr h
      simp only [List.lookup,hb,if_neg h]
  | (k,x)::r=>by
    have ih:=nV f g v r
    rw [show k4 f v ((k,x)::r)=(if k=f then (k,v)::r else (k,x)::k4 f v r) from rfl]
    by_cases hk:k=f
    · rw [if_pos hk]
      by_cases h:g=k
      · have hb:(g == k)=true:=beq_iff_eq.mpr h
        simp only [List.lookup,hb,if_pos (h.trans hk)]
      · have hb:(g == k)=false:=beq_eq_false_iff_ne.mpr h
        simp only [List.lookup,hb,if_neg (fun e:g=f=>h (e.trans hk.symm))]
    · rw [if_neg hk]
      by_cases h:g=k
      · have hb:(g == k)=true:=beq_iff_eq.mpr h
        simp only [List.lookup,hb,if_neg (fun e:g=f=>hk (h.symm.trans e))]
      · have hb:(g == k)=false:=beq_eq_false_iff_ne.mpr h
        simp only [List.lookup,hb]
        exact ih
theorem mQ (f:Str) (v:V):∀ fs:List (Str × V),f∈(k4 f v fs).map (·.1)∧∀ g,g∈fs.map (·.1)→g∈(k4 f v fs).map (·.1)
  | []=>⟨by simp [k4],fun g h=>by simp at h⟩
  | (k,x)::r=>by
    obtain ⟨i1,i2⟩:=mQ f v r
    rw [show k4 f v ((k,x)::r)=(if k=f then (k,v)::r else (k,x)::k4 f v r) from rfl]
    by_cases hk:k=f
    · rw [if_pos hk]
      subst hk
      exact ⟨by simp,fun g h=>by simpa using h⟩
    · rw [if_neg hk]
      refine ⟨?_,fun g h=>?_⟩
      · rw [List.map_cons]
        exact List.mem_cons_of_mem _ i1
      · rw [List.map_cons] at h ⊢
        rcases List.mem_cons.mp h with e | e
        · exact List.mem_cons.mpr (.inl e)
        · exact List.mem_cons_of_mem _ (i2 g e)
theorem nQ (f:Str) (v:V):∀ fs:List (Str × V),(k4 f v fs).length≤fs.length + 1
  | []=>by simp [k4]
  | (k,x)::r=>by
    have ih:=nQ f v r
    rw [show k4 f v ((k,x)::r)=(if k=f then (k,v)::r else (k,x)::k4 f v r) from rfl]
    by_cases hk:k=f
    · rw [if_pos hk,List.length_cons,List.length_cons]; omega
    · rw [if_neg hk,List.length_cons,List.length_cons]; omega
theorem wN.some_of {v:V} {o:Option Value} (r:wN (some v) o):∃ u,o=some u∧RelV v u:=by
  cases o with
  | none=>exact (show False from r).elim
  | some u=>exact ⟨u,rfl,r⟩
theorem zh {v:V} {u:Value} (r:RelV v u):PySem.W.handedIn u=true:=by
  cases v with
  | non=>cases (show u=Value.none from r); rfl
  | bl b=>cases (show u=Value.bool b from r); rfl
  | int i=>obtain ⟨t,e⟩:=(show ∃ t,u=Value.int i t from r); cases e; rfl
  | str x=>obtain ⟨t,e⟩:=(show ∃ t,u=Value.str x t from r); cases e; rfl
  | byt b=>obtain ⟨t,e⟩:=(show ∃ t,u=Value.bytes b t from r); cases e; rfl
  | flt b=>obtain ⟨t,e⟩:=(show ∃ t,u=Value.float b t from r); cases e; rfl
  | ref a=>cases (show u=Value.ref a from r); rfl
  | ty n=>cases (show u=Value.type n from r); rfl
section
variable {P:Program} {w:World} {H H':Hp} {h h':Heap} {a C dx:Addr} {fs fs':List (Str × V)}
theorem yr (hok:HOk P w H h) (e:H a=some (.ins C dx fs)):∃ mA,yP h a dx C mA∧(∀ f,wN (fs.lookup f) (mA f))∧PySem.Within mA (fs.map (·.1))∧fs.length≤1000∧H dx=some (.own a):=by
  obtain ⟨d,z,ne,ob,mA,n,r,q⟩:=(show fD P w H h a (.ins C dx fs) from hok a _ e)
  exact ⟨mA,⟨ob,n,ne⟩,r,q,z,d⟩
end
structure Cls (K:PySem.W.Frag) (C:Addr):Prop where
  pg:PySem.W.plainGet K C Str.empty=true
  hd:PySem.W.hasDictIn K C=true
  po:PySem.W.plainOver K C=true
  sa:PySem.W.findIn K (.ref C) "__setattr__"=some (some (.builtin "object.__setattr__"))
theorem Cls.get {K:PySem.W.Frag} {C:Addr} (c:Cls K C) (f:Str):PySem.W.plainGet K C f=true:=c.pg
noncomputable def gY (K:PySem.W.Frag) (C:Addr) (f:Str):Prop:=PySem.W.findIn K (.ref C) f=some none
theorem gY.taker {K:PySem.W.Frag} {C:Addr} {f:Str} (n:gY K C f):PySem.W.takerIn K C f=some none:=by
  unfold PySem.W.takerIn
  rw [show PySem.W.findIn K (.ref C) f=some none from n]
  rfl
section
variable {X:Cx} {pins:List (Addr × Obj)} {σ:St} {H:Hp} {s:Shared} {a C dx:Addr} {fs:List (Str × V)} {f:Str} {v:V} {A:Around} {E:Value→Shared→Prop}
theorem xh {b:Bool} {Q:Value→Shared→Prop} (I:Inv X pins σ H s) (e:H a=some (.ins C dx fs)) (c:Cls X.K C) (n:gY X.K C f) (l:fs.lookup f=some v)
    (h:∀ u s',Inv X pins σ H s'→RelV v u→Q u s'):wpAny (model X.prog X.w) A (getAttr (.ref a) f b) Q E s:=by
  obtain ⟨mA,O,r,_,_,_⟩:=yr I.hok e
  obtain ⟨u,hu,ru⟩:=wN.some_of (v:=v) (o:=mA f) (by rw [← l]; exact r f)
  exact get_map I.kIn O (c.get f) c.hd n hu (zh ru) (h u _ (I.tok _) ru)
theorem vT {y:V} {u:Value} {Q:Unit→Shared→Prop} (I:Inv X pins σ H s) (e:H a=some (.ins C dx fs)) (c:Cls X.K C) (n:gY X.K C f) (hl:fs.length < 1000) (ry:RelV y u)
    (h:∀ s',Inv X pins σ (upd H a (.ins C dx (k4 f y fs))) s'→Q () s'):wpAny (model X.prog X.w) A (setAttr (.ref a) f u) Q E s:=by
  obtain ⟨mA,O,r,wi,_,ho⟩:=yr I.hok e
  have hz:(fs.map (·.1)).length≤sizeLine:=by rw [List.length_map,sizeLine_eq]; omega
  refine Cb I.kIn O c.sa c.po n.taker c.hd wi hz fun h' O' sb=>h _ ?_
  have hd:∃ o,h'.get? dx=some o:=let ⟨o,_,_,e',_⟩:=O'.ns; ⟨o,e'⟩
  refine I.write (x:=a) (e:=dx) (by rw [e]; exact True.intro) (.inr ho) (fun b q hb z=>(sb.2 b hb).trans z) hd ?_
  refine ⟨by rw [bD O.ne]; exact ho,?_,O.ne,O'.obj,_,O'.ns,fun g=>?_,fun g hg=>?_⟩
  · have:=nQ f y fs; omega
  · show wN ((k4 f y fs).lookup g) (if g=f then some u else mA g)
    rw [nV]
    by_cases q:g=f
    · rw [if_pos q,if_pos q]; exact ry
    · rw [if_neg q,if_neg q]; exact r g
  · by_cases q:g=f
    · rw [q]; exact (mQ f y fs).1
    · refine (mQ f y fs).2 g (wi g fun z=>hg ?_)
      show (if g=f then some u else mA g)=none
      rw [if_neg q]; exact z
theorem Inv.made (I:Inv X pins σ H s):Inv X pins σ (upd (upd H s.heap.objs.size (.own (s.heap.objs.size + 1))) (s.heap.objs.size + 1) (.ins C s.heap.objs.size []))
    { s with heap:=(s.heap.push PySem.W.emptyDict).push (PySem.W.instObj C s.heap.objs.size) }:=by
  have e1:(s.heap.push PySem.W.emptyDict).get? s.heap.objs.size=some PySem.W.emptyDict:=Heap.get?_push_size s.heap rfl
  have e2:((s.heap.push PySem.W.emptyDict).push (PySem.W.instObj C s.heap.objs.size)).get? (s.heap.objs.size + 1)=some (PySem.W.instObj C s.heap.objs.size):=by
    have:=Heap.get?_push_size (s.heap.push PySem.W.emptyDict) (o:=PySem.W.instObj C s.heap.objs.size) rfl
    rwa [Heap.size_push] at this
  have e3:(s.heap.push PySem.W.emptyDict).Ns s.heap.objs.size (fun _=>none):=⟨PySem.W.emptyDict,#[],_,e1,rfl,(fun e he=>absurd he (by simp)),fun _=>rfl⟩
  have I1:=I.laid (a:=s.heap.objs.size) (o:=.own (s.heap.objs.size + 1)) (h':=s.heap.push PySem.W.emptyDict) (t':=s.toks) (fun b u q=>Heap.get?_push_of_some _ q) (Nat.le_refl _) ⟨_,e1⟩
  refine I1.laid (a:=s.heap.objs.size + 1) (o:=.ins C s.heap.objs.size []) (t':=s.toks) (fun b u q=>Heap.get?_push_of_some _ q) (Nat.le_of_eq (Heap.size_push _ _)) ?_
  have ne:s.heap.objs.size≠s.heap.objs.size + 1:=Nat.ne_of_lt (Nat.lt_succ_self _)
  refine ⟨by rw [bD ne,cn],Nat.zero_le _,ne,e2,fun _=>none,(Heap.Ns1.of_empty e3).at fun o q=>Heap.get?_push_of_some _ q,fun _=>True.intro,fun y hy=>absurd rfl hy⟩
theorem BW {prog:Program} {w:World} {env:Env} {e:Expr} {f:Str} {pos:Pos} {s:Shared} {Q:Value→Shared→Prop} (hb:attributeBase e f env (eval e env)=eval e env)
    (h:wpAny (model prog w) A (eval e env) (fun o s₁=>wpAny (model prog w) A (getAttr o f true) Q E s₁) E s):wpAny (model prog w) A (eval (.Attribute e f pos) env) Q E s :=
  Attribute_any_ h (by rw [arm_eval_Attribute,hb])
end
noncomputable def F9 (K:PySem.W.Frag) (ta:TE) (f:Str):TE:=fun σ H Q=>ta σ H fun x H1=>∃ a C dx fs v,x=.ref a∧H1 a=some (.ins C dx fs)∧Cls K C∧gY K C f∧fs.lookup f=some v∧Q v H1
noncomputable def FZ (K:PySem.W.Frag) (ta tv:TE) (f:Str):TS:=fun D σ H=>tv σ H fun y H1=>ta σ H1 fun x H2=>∃ a C dx fs,x=.ref a∧H2 a=some (.ins C dx fs)∧Cls K C∧gY K C f∧fs.length < 1000 ∧
  D.nx σ (upd H2 a (.ins C dx (k4 f y fs)))
section
variable {X:Cx} {o e value:Expr} {f:Str} {pos pos' tpos:Pos} {ta tv:TE}
theorem EG (he:PE X e ta) (hb:attributeBase e f X.env (eval e X.env)=eval e X.env):PE X (.Attribute e f pos) (F9 X.K ta f):=by
  intro pins s σ H Q I h
  refine BW hb (thn (he pins s σ H _ I h) fun u s1 rz2=>?_)
  obtain ⟨x,H1,I1,rx,a,C,dx,fs,v,ex,ea,c,n,l,q⟩:=rz2
  subst ex
  obtain rfl:u=Value.ref a:=rx
  exact xh I1 ea c n l fun u' s2 I2 ru=>⟨v,H1,I2,ru,q⟩
theorem sk (ha:PE X o ta) (hv:PE X value tv) (hs:swapsWith value (some (.Attribute o f pos')) pos.line X.env=pure false):PS X (.Assign [.Attribute o f pos'] value pos) (FZ X.K ta tv f):=by
  intro pins s σ H D I h
  refine plainObj_wpAny_Assign_Attribute (thn (hv pins s σ H _ I h) fun u s1 rz2=>?_) hs
  obtain ⟨y,H1,I1,ry,q⟩:=rz2
  refine thn (ha pins s1 σ H1 _ I1 q) fun ov s2 rz2=>?_
  obtain ⟨x,H2,I2,rx,a,C,dx,fs,ex,ea,c,n,l,q2⟩:=rz2
  subst ex
  obtain rfl:ov=Value.ref a:=rx
  exact vT I2 ea c n l ry fun s3 I3=>⟨σ,_,I3,q2⟩
end
section
variable {X:Cx} {pins:List (Addr × Obj)} {σ:St} {H:Hp} {s:Shared} {A:Around} {E:Value→Shared→Prop} {Q:Value→Shared→Prop} {c:Value} {b:Bool}
inductive qx (K:PySem.W.Frag) (H:Hp):V→Value→Prop where
  | non:qx K H .non (.type "NoneType")
  | bl (x:Bool):qx K H (.bl x) (.type "bool")
  | int (i:Int):qx K H (.int i) (.type "int")
  | str (x:Str):qx K H (.str x) (.type "str")
  | flt (x:UInt64):qx K H (.flt x) (.type "float")
  | lst {a:Addr} {xs:List V} (e:H a=some (.lst xs)):qx K H (.ref a) (.type "list")
  | frz {a:Addr} {o:Obj} {xs:List V} (e:H a=some (.frz o (.lst xs))):qx K H (.ref a) (.type "list")
  | tup {a:Addr} {xs:List V} (e:H a=some (.tup xs)):qx K H (.ref a) (.type "tuple")
  | dK {a:Addr} {kvs:List (Key × V)} (e:H a=some (.dK kvs)):qx K H (.ref a) (.type "dict")
  | dT {a:Addr} {kvs:List (List Key × V)} (e:H a=some (.dT kvs)):qx K H (.ref a) (.type "dict")
  | ins {a C dx:Addr} {fs:List (Str × V)} (e:H a=some (.ins C dx fs)) (cl:Cls K C) (ha:PySem.W.findIn K (.ref C) "__class__"=some (some (.builtin "object.__class__")))
      (hn:PySem.W.specialIn K (.builtin "object.__class__") "__get__"=some (some (.builtin "getset_descriptor.__get__"))) (htk:PySem.W.takesIn K (.builtin "object.__class__")=some true)
      (hm:PySem.W.mroIn K C (.type "object")=some true):qx K H (.ref a) (.ref C)
end
end L2
namespace L2
open PySem PySem.Spec PyProof.Rows
structure fm (k:Nat) (A:Around):Prop where
  hd:A.handled=none
  dp:A.depth + 3 * k + 5 < recursionLimit
  un:A.units + 16 * k + 200 < cLine
theorem fm.mono {j k:Nat} {A:Around} (r:fm k A) (h:j≤k):fm j A:=⟨r.hd,by have:=r.dp; omega,by have:=r.un; omega⟩
theorem fm.deeper {k:Nat} {A:Around} (r:fm (k + 1) A) (env:Env):fm k (A.deeper env) :=
  ⟨r.hd,by have:=r.dp; show A.depth + 1 + 3 * k + 5 < _; omega,by have:=r.un; show A.units + 3 + 16 * k + 200 < _; omega⟩
theorem vU {A:Around} {C:Addr} {us:List Value} {kw:List (Str × Value)}:(A.under (.builtin "type.__call__" ⟨.ref C::us,kw⟩)).depth=A.depth + 1:=by
  first | rfl | simp [Around.under,Code.weight,Code.isCreation,Code.isGuard,Code.isCaller,Code.frames,Code.isFrame,guardIds]
theorem vN {A:Around} {C:Addr} {us:List Value} {kw:List (Str × Value)}:(A.under (.builtin "type.__call__" ⟨.ref C::us,kw⟩)).units=A.units + 1:=by
  first | rfl | simp [Around.under,Code.cUnits,Code.frames,Code.isFrame]
theorem fm.make {k:Nat} {A:Around} (r:fm (k + 1) A) (C:Addr) (us:List Value) (kw:List (Str × Value)):fm k (A.under (.builtin "type.__call__" ⟨.ref C::us,kw⟩)) :=
  ⟨r.hd,by have:=r.dp; rw [vU]; omega,by have:=r.un; rw [vN]; omega⟩
theorem fm.depth {k:Nat} {A:Around} (r:fm k A):A.depth < recursionLimit:=by have:=r.dp; omega
theorem fm.units {k:Nat} {A:Around} (r:fm k A):A.units + 64 < cLine:=by have:=r.un; omega
noncomputable def Fu:TA:=fun _ H Q=>Q [] H
noncomputable def C4 (ta:TE) (tr:TA):TA:=fun σ H Q=>ta σ H fun x H1=>tr σ H1 fun xs H2=>Q (x::xs) H2
section
variable {X:Cx} {e:Expr} {es:List Expr} {te:TE} {t:TA} {pos:Pos}
theorem iU:PA X [] Fu:=fun _ _ _ _ H Q I h=>Calls.spliced_nil ⟨[],H,I,.nil,h⟩
theorem fT (ha:PE X e te) (hr:PA X es t) (hs:starEach (e::es) X.env=(false,eval e X.env)::starEach es X.env:=by rfl):PA X (e::es) (C4 te t):=by
  intro pos pins s σ H Q I h
  rw [hs]
  show wpAny _ _ (spliced ((false,eval e X.env)::backTo pos (starEach es X.env))) _ _ s
  refine Calls.spliced_cons (thn (ha pins s σ H _ I h) fun u s1 rz2=>?_)
  obtain ⟨x,H1,I1,r1,q1⟩:=rz2
  exact thn (hr pos pins s1 σ H1 _ I1 q1) fun us s2 qz2=>(by obtain ⟨xs,H2,I2,r2,q2⟩:=qz2; exact ⟨x::xs,H2,I2,.cons r1 r2,q2⟩)
noncomputable def Gi (t:TA):TE:=fun σ H Q=>t σ H fun xs H1=>xs.length≤sizeLine∧∀ p,H1 p=none→Q (.ref p) (upd H1 p (.tup xs))
noncomputable def F6 (t:TA):TE:=fun σ H Q=>t σ H fun xs H1=>xs.length≤sizeLine∧∀ p,H1 p=none→Q (.ref p) (upd H1 p (.lst xs))
theorem EI {x1} (h:PA X es t):PE X (.Tuple es x1 pos) (Gi t):=by
  intro pins s σ H Q I hq
  refine wpAny_Tuple_spliced (thn (h pos pins s σ H _ I hq) fun us s1 rz2=>?_)
  obtain ⟨xs,H1,I1,r,z,q⟩:=rz2
  refine ⟨by rw [← r.length]; exact z,?_⟩
  have hf:H1 s1.heap.objs.size=none:=I1.hok.fresh (Nat.le_refl _)
  refine ⟨.ref s1.heap.objs.size,upd H1 s1.heap.objs.size (.tup xs),I1.laid (t':=s1.toks) (fun b u e=>Heap.get?_push_of_some _ e) (Nat.le_refl _) ?_,rfl,q _ hf⟩
  exact ⟨z,us,r,⟨_,Heap.get?_push_size _ rfl,rfl,rfl,_,rfl⟩⟩
theorem wt (h:PA X es t):PE X (.List es pos) (F6 t):=by
  intro pins s σ H Q I hq
  refine wpAny_List_spliced (thn (h pos pins s σ H _ I hq) fun us s1 rz2=>?_)
  obtain ⟨xs,H1,I1,r,z,q⟩:=rz2
  refine ⟨by rw [← r.length]; exact z,?_⟩
  have hf:H1 s1.heap.objs.size=none:=I1.hok.fresh (Nat.le_refl _)
  refine ⟨.ref s1.heap.objs.size,upd H1 s1.heap.objs.size (.lst xs),I1.laid (t':=s1.toks) (fun b u e=>Heap.get?_push_of_some _ e) (Nat.le_refl _) ?_,rfl,q _ hf⟩
  exact ⟨z,us,0,r,Heap.get?_push_size _ rfl⟩
end
noncomputable abbrev Sp:=List V→Hp→VK→XK→Prop
noncomputable abbrev CXT:=List Env→Hp→Shared→XK→Value→Shared→Prop
structure wd (P:Program) (w:World) (K:PySem.W.Frag) (mg:Str→Option Value) (base:Heap) (A:Around) (outer:List Env) (s:Shared) (H:Hp):Prop where
  frames:A.frames=some outer
  mod:Mod K mg base
  bs:∀ b o,base.get? b=some o→s.heap.get? b=some o∧H b=none
  bsz:base.objs.size≤s.heap.objs.size
  funs:s.heap.FunFrames base outer
  frf:∀ b∈frs outer,H b=none
  hok:HOk P w H s.heap
  bare:AllBare s.gens
  tab:∀ P q,TabOf K P q→H P=some (.tbl q)
noncomputable def CE (outer:List Env) (P:Program) (w:World) (H:Hp) (s:Shared) (Q:VK) (u:Value) (s':Shared):Prop :=
  ∃ v H',s'.os=s.os∧AllBare s'.gens∧Un (frs outer) [] H H' s.heap s'.heap∧HOk P w H' s'.heap∧RelV v u∧Q v H'
noncomputable def CR (CX:CXT) (outer:List Env) (P:Program) (w:World) (H:Hp) (s:Shared) (Q:VK) (E:XK) (r:Result) (s':Shared):Prop :=
  match r with
  | .ok (.ret u)=>CE outer P w H s Q u s'
  | .ok _=>False
  | .error e=>CX outer H s E e s'
structure jk (P:Program) (w:World) (K:PySem.W.Frag) (mg:Str→Option Value) (base:Heap) (CX:CXT) (k:Nat) (f:Addr) (fd:FuncData) (ps:List Str) (sp:Sp):Prop where
  len:∀ vs H Q E,sp vs H Q E→vs.length=ps.length
  run:∀ (A:Around) (outer:List Env) (s:Shared) (H:Hp) (args:Args) (us:List Value) (vs:List V) (Q:VK) (E:XK),fm k A→wd P w K mg base A outer s H→BindsTo s fd args (ps.zip us)→Vals vs us→sp vs H Q E →
    codeAny (model P w) A (.call (.ref f) args) (CR CX outer P w H s Q E) s
theorem wd.make {P:Program} {w:World} {K:PySem.W.Frag} {mg:Str→Option Value} {base:Heap} {A:Around} {outer:List Env} {s:Shared} {H:Hp} (e:wd P w K mg base A outer s H) (C:Addr) (us:List Value) (kw:List (Str × Value)) :
    wd P w K mg base (A.under (.builtin "type.__call__" ⟨.ref C::us,kw⟩)) outer s H:=⟨by first | exact e.frames | (simpa [Around.under,Code.envs,Code.isFrame,pushEnvs] using e.frames),e.mod,e.bs,e.bsz,e.funs,e.frf,e.hok,e.bare,e.tab⟩
section
variable {X:Cx} {pins:List (Addr × Obj)} {σ:St} {H:Hp} {s s':Shared}
theorem Inv.env0 (I:Inv X pins σ H s):wd X.prog X.w X.K X.mg X.base X.A X.stack s H :=
  ⟨I.ok.frames,I.ok.mod,I.bs,Nat.le_trans I.ok.bsz I.sz,I.stack,I.stkFree,I.hok,I.bare,I.tab⟩
theorem Inv.after {Q:VK} {u:Value} (I:Inv X pins σ H s) (h:CE X.stack X.prog X.w H s Q u s'):EP X pins σ Q u s':=by
  obtain ⟨v,H',os,bare,un,hok,r,q⟩:=h
  obtain ⟨hh,g,d,t,os'⟩:=s'
  obtain rfl:os'=s.os:=os
  exact ⟨v,H',I.call (h':=hh) (g':=g) (d':=d) (t':=t) (ch:=[]) un hok bare (fun b z=>absurd z (by simp)),r,q⟩
end
noncomputable def Fm (sp:Sp) (dvs:List V) (E:XK) (t:TA):TE:=fun σ H Q=>t σ H fun vs H1=>sp (vs++dvs) H1 Q E
noncomputable def Ft (C:Addr) (sp:Sp) (dvs:List V) (E:XK) (t:TA):TE:=fun σ H Q=>t σ H fun vs H1=>∀ x dx,H1 x=none→H1 dx=none→dx≠x →
  sp (.ref x::(vs++dvs)) (upd (upd H1 dx (.own x)) x (.ins C dx [])) (fun v H2=>v=.non∧Q (.ref x) H2) E
noncomputable def Binds (K:PySem.W.Frag) (fd:FuncData) (ps:List Str) (ds:List Value):Prop :=
  ∀ (s:Shared) (us:List Value),K.In s.heap→(us++ds).length=ps.length→BindsTo s fd ⟨us,[]⟩ (ps.zip (us++ds))
theorem Binds.all {K:PySem.W.Frag} {fd:FuncData} {ps:List Str} (h:∀ us:List Value,us.length=ps.length→bindArgs fd ⟨us,[]⟩=pure (ps.zip us)):Binds K fd ps []:=fun s us _ hl=>by
  rw [List.append_nil] at hl ⊢
  exact .of_eq (h us hl)
noncomputable def Passes (CX:CXT) (X:Cx) (E:XK):Prop:=∀ (pins:List (Addr × Obj)) (σ:St) (H:Hp) (s:Shared) (e:Value) (s':Shared),Inv X pins σ H s→CX X.stack H s E e s'→X.xe e s'
section
variable {X:Cx} {CX:CXT} {k:Nat} {f C:Addr} {fd:FuncData} {ps:List Str} {sp:Sp} {dvs:List V} {ds:List Value} {E:XK} {x m:Str} {p pos apos:Pos} {e o:Expr} {es:List Expr} {ta:TE} {t:TA}
theorem D1 {pins:List (Addr × Obj)} {σ:St} {H:Hp} {s:Shared} {Q:VK} {us:List Value} {vs:List V} (F:jk X.prog X.w X.K X.mg X.base CX k f fd ps sp) (hr:fm k X.A) (hb:Binds X.K fd ps ds) (hd:Vals dvs ds) (hx:Passes CX X E)
    (I:Inv X pins σ H s) (r:Vals vs us) (h:sp (vs++dvs) H Q E):wpAny (model X.prog X.w) X.A (call (.ref f) us) (EP X pins σ Q) X.xe s:=by
  have r2:Vals (vs++dvs) (us++ds):=r.append hd
  have hl:(us++ds).length=ps.length:=by rw [← r2.length]; exact F.len _ _ _ _ h
  refine wpAny_call (codeAny_mono (F.run X.A X.stack s H ⟨us,[]⟩ (us++ds) (vs++dvs) Q E hr I.env0 (hb s us I.kIn hl) r2 h) fun r s' hq=>?_)
  cases r with
  | error e=>exact hx pins σ H s e s' I hq
  | ok fl =>
    cases fl with
    | ret u=>exact I.after hq
    | next=>exact False.elim hq
    | brk=>exact False.elim hq
    | cont=>exact False.elim hq
theorem xN (F:jk X.prog X.w X.K X.mg X.base CX k f fd ps sp) (hr:fm k X.A) (hg:Gl X x) (hm:X.mg x=some (.ref f)) (hk:PySem.W.keepIn X.K (.ref f)=true) (hb:Binds X.K fd ps ds) (hd:Vals dvs ds) (hx:Passes CX X E)
    (ha:PA X (e::es) t) (hdb:(x == ("__debug__":Str))=false:=by decide) (he:starEach (e::es) X.env=(false,eval e X.env)::starEach es X.env:=by rfl) (hpl:(backTo pos (starEach es X.env)).any (·.1)=false:=by rfl) :
    PE X (.Call (.Name x p) (e::es) [] pos) (Fm sp dvs E t):=by
  intro pins s σ H Q I h
  refine wpAny_Call_Name_kw (oR I hg hm ?_ hdb)
  refine PySem.W.callWith_K (h₀:=X.base) I.ok.mod.kin hk (thn (ha pos pins s σ H _ I h) fun us s1 rz2=>?_) he hpl
  obtain ⟨vs,H1,I1,r,q⟩:=rz2
  refine ⟨I1.kIn,?_⟩
  exact D1 F hr hb hd hx I1 r q
structure Mk (K:PySem.W.Frag) (C f:Addr):Prop where
  makes:PySem.W.makesIn K C=true
  init:PySem.W.findIn K (.ref C) "__init__"=some (some (.ref f))
  fn:PySem.W.isFn K (.ref f)=true
  kp:PySem.W.keepIn K (.ref C)=true
theorem Ag {pins:List (Addr × Obj)} {σ:St} {H:Hp} {s:Shared} {Q:VK} {us:List Value} {vs:List V} (M:Mk X.K C f) (F:jk X.prog X.w X.K X.mg X.base CX k f fd ps sp) (hr:fm (k + 1) X.A) (hb:Binds X.K fd ps ds) (hd:Vals dvs ds)
    (hx:Passes CX X E) (I:Inv X pins σ H s) (r:Vals vs us)
    (h:∀ x dx,H x=none→H dx=none→dx≠x→sp (.ref x::(vs++dvs)) (upd (upd H dx (.own x)) x (.ins C dx [])) (fun v H2=>v=.non∧Q (.ref x) H2) E) :
    wpAny (model X.prog X.w) X.A (call (.ref C) us) (EP X pins σ Q) X.xe s:=by
  have hq:=h (s.heap.objs.size + 1) s.heap.objs.size (I.hok.fresh (Nat.le_succ _)) (I.hok.fresh (Nat.le_refl _)) (Nat.ne_of_lt (Nat.lt_succ_self _))
  have I2:=Inv.made (C:=C) I
  have r2:Vals (V.ref (s.heap.objs.size + 1)::(vs++dvs)) (Value.ref (s.heap.objs.size + 1)::(us++ds)):=.cons rfl (r.append hd)
  have hl:(Value.ref (s.heap.objs.size + 1)::us++ds).length=ps.length:=by
    have e:=r2.length
    rw [F.len _ _ _ _ hq] at e
    exact e.symm
  refine wpAny_call (Bh (f:=f) I.kIn M.makes M.init (beq_iff_eq.mp M.fn) (codeAny_mono (F.run _ X.stack _ _ ⟨Value.ref (s.heap.objs.size + 1)::us,[]⟩ (Value.ref (s.heap.objs.size + 1)::(us++ds)) _ _ E (hr.make C us [])
    (I2.env0.make C us []) (hb _ (Value.ref (s.heap.objs.size + 1)::us) I2.kIn hl) r2 hq) fun r s' hq'=>?_))
  cases r with
  | error e=>exact hx pins σ _ _ e s' I2 hq'
  | ok fl =>
    cases fl with
    | ret u =>
      obtain ⟨v,H',I3,rv,ev,q3⟩:=I2.after hq'
      subst ev
      exact ⟨rv,⟨V.ref (s.heap.objs.size + 1),H',I3,rfl,q3⟩⟩
    | next=>exact False.elim hq'
    | brk=>exact False.elim hq'
    | cont=>exact False.elim hq'
theorem BD (M:Mk X.K C f) (F:jk X.prog X.w X.K X.mg X.base CX k f fd ps sp) (hr:fm (k + 1) X.A) (hg:Gl X x) (hm:X.mg x=some (.ref C)) (hb:Binds X.K fd ps ds) (hd:Vals dvs ds) (hx:Passes CX X E)
    (ha:PA X (e::es) t) (hdb:(x == ("__debug__":Str))=false:=by decide) (he:starEach (e::es) X.env=(false,eval e X.env)::starEach es X.env:=by rfl) (hpl:(backTo pos (starEach es X.env)).any (·.1)=false:=by rfl) :
    PE X (.Call (.Name x p) (e::es) [] pos) (Ft C sp dvs E t):=by
  intro pins s σ H Q I h
  refine wpAny_Call_Name_kw (oR I hg hm ?_ hdb)
  refine PySem.W.callWith_K (h₀:=X.base) I.ok.mod.kin M.kp (thn (ha pos pins s σ H _ I h) fun us s1 rz2=>?_) he hpl
  obtain ⟨vs,H1,I1,r,q⟩:=rz2
  refine ⟨I1.kIn,?_⟩
  exact Ag M F hr hb hd hx I1 r q
end
noncomputable def PK (X:Cx) (kws:List Keyword) (t:TA):Prop :=
  ∀ (pos:Pos) (pins:List (Addr × Obj)) (s:Shared) (σ:St) (H:Hp) (Q:List V→Hp→Prop),Inv X pins σ H s→t σ H Q→wpAny (model X.prog X.w) X.A (evalAll ((backToKw pos (keywordEach kws X.env)).map (·.2))) (AP X pins σ Q) X.xe s
section
variable {X:Cx} {CX:CXT} {k:Nat} {f C:Addr} {fd:FuncData} {ps ks:List Str} {sp:Sp} {E:XK} {x m:Str} {p pos apos kpos:Pos} {e o:Expr} {es:List Expr} {kws:List Keyword} {te ta:TE} {t tk:TA} {nm:Option Str}
theorem DO:PK X [] Fu:=fun _ _ _ _ H Q I h=>wpAny_evalAll_nil ⟨[],H,I,.nil,h⟩
theorem Cf (ha:PE X e te) (hr:PK X kws t):PK X (⟨nm,e,kpos⟩::kws) (C4 te t):=by
  intro pos pins s σ H Q I h
  show wpAny _ _ (evalAll ((do let v ← eval e X.env; standAt pos; pure v)::(backToKw pos (keywordEach kws X.env)).map (·.2))) _ _ s
  refine wpAny_evalAll_cons (wpAny_bind (thn (ha pins s σ H _ I h) fun u s1 rz2=>?_))
  obtain ⟨x,H1,I1,r1,q1⟩:=rz2
  refine wpAny_bind (wpAny_standAt (wpAny_pure ?_))
  exact thn (hr pos pins s1 σ H1 _ I1 q1) fun us s2 qz2=>(by obtain ⟨xs,H2,I2,r2,q2⟩:=qz2; exact ⟨x::xs,H2,I2,.cons r1 r2,q2⟩)
variable {g:List Value→List Value→List Value} {gV:List V→List V→List V}
end
structure bb (N P:List Str) (sc:Scope):Prop where
  kind:sc.kind=.function
  co:sc.isCoroutine=false
  gen:sc.isGenerator=false
  nd:N.Nodup
  pre:N.take P.length=P
  par:∀ x∈P,sc.names.lookup x=some .local∨sc.names.lookup x=some .cell
  nofree:∀ y∈sc.names,y.2≠.free
theorem rX {kindOf:Str→Option NameKind} {x:Str}:∀ {binds:List (Str × Value)} {m:Str→Option Value},(∀ v,(x,v) ∉ binds)→bindL kindOf binds m x=m x
  | [],_,_=>rfl
  | (n,v)::r,m,h=>by
    unfold bindL
    rw [rX fun w hw=>h w (List.mem_cons_of_mem _ hw)]
    split
    · have:x≠n:=by rintro rfl; exact h v List.mem_cons_self
      simp [this]
    · rfl
theorem qW {kindOf:Str→Option NameKind} {x:Str}:∀ {binds:List (Str × Value)} {m:Str→Option Value},(∀ v,(x,v) ∉ binds)→bindC kindOf binds m x=m x
  | [],_,_=>rfl
  | (n,v)::r,m,h=>by
    unfold bindC
    rw [qW fun w hw=>h w (List.mem_cons_of_mem _ hw)]
    split
    · rfl
    · have:x≠n:=by rintro rfl; exact h v List.mem_cons_self
      simp [this]
theorem rF {kindOf:Str→Option NameKind} {x:Str} {v:Value}:∀ {P:List Str} {vs:List Value} {i:Nat} {m:Str→Option Value},P.Nodup→P[i]?=some x→vs[i]?=some v→kindOf x=some .local →
    bindL kindOf (P.zip vs) m x=some v
  | [],_,_,_,_,h,_,_=>by simp at h
  | _::_,[],_,_,_,_,h,_=>by simp at h
  | p::P,w::vs,0,m,nd,h1,h2,hk=>by
    simp at h1 h2; subst h1; subst h2
    show bindL kindOf ((p,w)::P.zip vs) m p=_
    unfold bindL
    rw [rX fun v hv=>(List.nodup_cons.mp nd).1 (List.of_mem_zip hv).1,if_pos hk]
    simp
  | p::P,w::vs,i + 1,m,nd,h1,h2,hk=>by
    show bindL kindOf ((p,w)::P.zip vs) m x=_
    unfold bindL
    exact rF (i:=i) (List.nodup_cons.mp nd).2 (by simpa using h1) (by simpa using h2) hk
theorem rT {kindOf:Str→Option NameKind} {x:Str} {v:Value}:∀ {P:List Str} {vs:List Value} {i:Nat} {m:Str→Option Value},P.Nodup→P[i]?=some x→vs[i]?=some v→kindOf x≠some .local →
    bindC kindOf (P.zip vs) m x=some v
  | [],_,_,_,_,h,_,_=>by simp at h
  | _::_,[],_,_,_,_,h,_=>by simp at h
  | p::P,w::vs,0,m,nd,h1,h2,hk=>by
    simp at h1 h2; subst h1; subst h2
    show bindC kindOf ((p,w)::P.zip vs) m p=_
    unfold bindC
    rw [qW fun v hv=>(List.nodup_cons.mp nd).1 (List.of_mem_zip hv).1,if_neg hk]
    simp
  | p::P,w::vs,i + 1,m,nd,h1,h2,hk=>by
    show bindC kindOf ((p,w)::P.zip vs) m x=_
    unfold bindC
    exact rT (i:=i) (List.nodup_cons.mp nd).2 (by simpa using h1) (by simpa using h2) hk
noncomputable def start (N:List Str) (vs:List V):St:=vs.map some++List.replicate (N.length - vs.length) none
noncomputable def iX (CX:CXT) (P:Program) (w:World) (K:PySem.W.Frag) (mg:Str→Option Value) (base:Heap) (N:List Str) (qual:Str) (scope:Scope) (f:Addr) (cd:Value) (A:Around) (outer:List Env) (s:Shared) (H:Hp) (E:XK):Cx where
  prog:=P
  w:=w
  K:=K
  mg:=mg
  base:=base
  A:=A.deeper (envOfC qual scope s.heap.objs.size f cd)
  N:=N
  s₀:=s
  H₀:=H
  env:=envOfC qual scope s.heap.objs.size f cd
  outer:=outer
  stack:=envOfC qual scope s.heap.objs.size f cd::outer
  ex:=[]
  calm:=true
  fn:=fun _=>true
  pn:=[]
  xe:=fun e s'=>wpAny (model P w) (A.deeper (envOfC qual scope s.heap.objs.size f cd)) (leaving (envOfC qual scope s.heap.objs.size f cd) e) (fun _ s''=>CX outer H s E e s'') (fun e' s''=>CX outer H s E e' s'') s'
theorem vo {sc:Scope} {n:Nat} {x:Str} (h:sc.names.lookup x=some .cell):∃ c,(cellsFrom n sc.names []).lookup x=some c:=by
  have q:=PySem.W.cellsFrom_some sc.names n [] (.inl h)
  exact Option.isSome_iff_exists.mp q
theorem zd {CX:CXT} {P:Program} {w:World} {K:PySem.W.Frag} {mg:Str→Option Value} {base:Heap} {N ps:List Str} {qual:Str} {scope:Scope} {f:Addr} {cd:Value} {A:Around} {outer:List Env} {s s1:Shared} {H:Hp} {E:XK} {us:List Value} {vs:List V}
    (S:bb N ps scope) (hd:A.handled=none) (e0:wd P w K mg base A outer s H) (hl:vs.length=ps.length) (r:Vals vs us)
    (x:InCallC s s.heap.objs.size (bindL (envOfC qual scope s.heap.objs.size f cd).kindOf (ps.zip us) fun _=>none) (cellsFrom (s.heap.objs.size + 1) scope.names []) (bindC (envOfC qual scope s.heap.objs.size f cd).kindOf (ps.zip us) fun _=>none) s1) :
    Inv (iX CX P w K mg base N qual scope f cd A outer s H E) [] (start N vs) H s1:=by
  have hpl:ps.length≤N.length:=by have:=congrArg List.length S.pre; rw [List.length_take] at this; omega
  obtain ⟨h1,tk,rfl,hk⟩:=x.done
  have noA:∀ b:Addr,b ∉ (iX CX P w K mg base N qual scope f cd A outer s H E).ex:=fun b z=>absurd (show b∈([]:List Addr) from z) (by simp)
  refine ⟨⟨e0.mod,S.kind,rfl,rfl,Nat.le_refl _,fun y z c h1 h2=>?_,fun y hy=>?_,fun y c _ h=>?_,fun _=>hd,Around.frames_deeper e0.frames,.inr ⟨rfl,rfl⟩,fun b z=>absurd z (noA b),e0.bs,e0.bsz,fun b _ _=>noA b,fun b z=>absurd z (noA b),e0.funs,e0.frf⟩,
    rfl,e0.bare,Un.kept hk,⟨_,x.toInCall.ns,fun i y v h1 h2 h3=>?_⟩,fun y c h=>⟨_,x.cell y c h⟩,e0.hok.fresh (Nat.le_refl _),fun y c h=>?_,fun p hp=>absurd (show p∈([]:List (Addr × Obj)) from hp) (by simp),e0.hok.kept hk,?_,e0.tab⟩
  · exact name_of_addr x.apart (PySem.mem_of_lookup h1) (PySem.mem_of_lookup h2)
  · have hy:scope.names.lookup y=some .cell∨scope.names.lookup y=some .free:=hy
    rcases hy with hy | hy
    · exact vo hy
    · exact absurd rfl (S.nofree _ (PySem.mem_of_lookup hy))
  · exact Nat.le_of_lt (x.above y c (PySem.mem_of_lookup h))
  · have hi:i < vs.length:=by
      unfold start at h2
      by_cases hi:i < vs.length
      · exact hi
      · rw [List.getElem?_append_right (by simpa using hi)] at h2
        rw [List.getElem?_replicate] at h2
        split at h2 <;> cases h2
    have ha:vs[i]?=some v:=by
      unfold start at h2
      rw [List.getElem?_append_left (by simpa using hi),List.getElem?_map] at h2
      cases e:vs[i]? with
      | none=>rw [e] at h2; cases h2
      | some a=>rw [e] at h2; cases h2; rfl
    obtain ⟨u,hu,rv⟩:=r.get ha
    have hp:ps[i]?=some y:=by
      rw [← S.pre,List.getElem?_take_of_lt (by omega)]; exact h1
    have ndP:ps.Nodup:=by rw [← S.pre]; exact S.nd.sublist (List.take_sublist _ _)
    refine ⟨u,rv,?_⟩
    rcases S.par y (List.mem_of_getElem? hp) with k | k
    · exact .inl ⟨k,rF ndP hp hu k⟩
    · obtain ⟨c,e⟩:=vo (n:=s.heap.objs.size + 1) k
      refine .inr ⟨.inl k,c,e,?_⟩
      have q:=x.cell y c e
      rw [rT ndP hp hu (by show scope.names.lookup y≠_; rw [k]; decide)] at q
      exact q
  · exact e0.hok.fresh (Nat.le_of_lt (x.above y c (PySem.mem_of_lookup h)))
  · unfold start
    show _=N.length
    rw [List.length_append,List.length_map,List.length_replicate]
    omega
theorem Dh {CX:CXT} {P:Program} {w:World} {K:PySem.W.Frag} {mg:Str→Option Value} {base:Heap} {k:Nat} {f:Addr} {name qual:Str} {params:Arguments} {body:List Stmt} {scope:Scope} {dV kV doc pm cdv ct oc:Value} {an od:Option Addr}
    {osl:Array (Option Value)} {N ps:List Str} {sp:Sp} (lk:K.lookup f=some ⟨oc,od,.func (PySem.W.fnOf name qual params body scope dV kV doc pm an cdv ct),osl⟩) (hcd:PySem.W.codeIn K cdv qual=true) (S:bb N ps scope)
    (len:∀ vs H Q E,sp vs H Q E→vs.length=ps.length)
    (hbody:∀ (A:Around) (outer:List Env) (s:Shared) (H:Hp) (vs:List V) (Q:VK) (E:XK),fm k (A.deeper (envOfC qual scope s.heap.objs.size f cdv))→sp vs H Q E →
      ∃ t,PSs (iX CX P w K mg base N qual scope f cdv A outer s H E) body t∧t { nx:=fun _ H'=>Q .non H',rt:=Q } (start N vs) H) :
    jk P w K mg base CX (k + 1) f (PySem.W.fnOf name qual params body scope dV kV doc pm an cdv ct) ps sp:=by
  refine ⟨len,fun A outer s H args us vs Q E hr e0 hb r hsp=>?_⟩
  have hl:=len _ _ _ _ hsp
  have KX:K.In s.heap:=e0.mod.kin.keeps fun b o e=>(e0.bs b o e).1
  have lim:s.heap.NoLimit:=e0.mod.nolimit.keeps fun b o e=>(e0.bs b o e).1
  have hkind:∀ y∈ps.zip us,scope.names.lookup y.1=some .local∨(scope.names.lookup y.1=some .cell∧((cellsFrom (s.heap.objs.size + 1) scope.names []).lookup y.1).isSome=true):=fun pz0 hy=>by
    obtain ⟨n,v⟩:=pz0
    rcases S.par n (List.of_mem_zip hy).1 with q | q
    · exact .inl q
    · exact .inr ⟨q,PySem.W.cellsFrom_some _ _ _ (.inl q)⟩
  refine codeAny_call_function hr.depth (KX _ _ lk) rfl S.co S.gen rfl (PySem.W.codeRec_of KX hcd) (hb _ _ _ _ ?_)
  refine wpAny_newFunctionEnv_cells S.kind hkind fun env he s1 x=>?_
  subst he
  refine ⟨lim.keeps x.toInCall.keep,codeAny_func ?_⟩
  obtain ⟨t,ht,hq⟩:=hbody A outer s H vs Q E (hr.deeper _) hsp
  have I:Inv (iX CX P w K mg base N qual scope f cdv A outer s H E) [] (start N vs) H s1:=zd S hr.hd e0 hl r x
  refine wpAny_mono (ht [] s1 (start N vs) H _ I hq) (fun fl s' hs=>?_) fun e s' hs=>hs
  have fin:∀ {σ':St} {H':Hp} {v:V} {u:Value},Inv (iX CX P w K mg base N qual scope f cdv A outer s H E) [] σ' H' s'→RelV v u→Q v H'→CE outer P w H s Q u s' :=
    fun {σ' H' v u} J rv q=>⟨v,H',J.os,J.bare,J.base,J.hok,rv,q⟩
  cases fl with
  | ret u =>
    obtain ⟨v,σ',H',J,rv,q⟩:=hs
    exact fin J rv q
  | next =>
    obtain ⟨σ',H',J,q⟩:=hs
    exact fin (v:=V.non) (u:=Value.none) J rfl q
  | brk =>
    obtain ⟨_,_,_,q⟩:=hs
    exact False.elim q
  | cont =>
    obtain ⟨_,_,_,q⟩:=hs
    exact False.elim q
end L2
namespace L2
open PySem PySem.Spec PyProof.Rows
section
variable {X:Cx} {x:Str} {p pos:Pos} {e:Expr} {es:List Expr} {t:TA} {id T:String} {r:List V→Hp→VK→Prop}
noncomputable def tCB (r:List V→Hp→VK→Prop) (t:TA):TE:=fun σ H Q=>t σ H fun vs H1=>r vs H1 Q
theorem f6 (hc:jb X (.builtin id) r) (hg:Gl X x) (hm:X.mg x=none) (hv:bootBuiltins x=some (.builtin id)) (ha:PA X (e::es) t) (hn:x≠"__name__":=by decide) (hdb:(x == ("__debug__":Str))=false:=by decide)
    (he:starEach (e::es) X.env=(false,eval e X.env)::starEach es X.env:=by rfl) (hpl:(backTo pos (starEach es X.env)).any (·.1)=false:=by rfl):PE X (.Call (.Name x p) (e::es) [] pos) (tCB r t):=by
  intro pins s σ H Q I h
  refine wpAny_Call_Name_kw (kF I hg hm hv ?_ hn hdb)
  exact PyProof.Rows.callWith_builtin1 (thn (ha pos pins s σ H _ I h) fun us s1 qz2=>(by obtain ⟨vs,H1,I1,r1,q1⟩:=qz2; exact hc pins s1 σ H1 vs us Q I1 r1 q1)) he hpl
theorem rk (hc:jb X (.type T) r) (hg:Gl X x) (hm:X.mg x=none) (hv:bootBuiltins x=some (.type T)) (ha:PA X (e::es) t) (hn:x≠"__name__":=by decide) (hdb:(x == ("__debug__":Str))=false:=by decide)
    (he:starEach (e::es) X.env=(false,eval e X.env)::starEach es X.env:=by rfl) (hpl:(backTo pos (starEach es X.env)).any (·.1)=false:=by rfl):PE X (.Call (.Name x p) (e::es) [] pos) (tCB r t):=by
  intro pins s σ H Q I h
  refine wpAny_Call_Name_kw (kF I hg hm hv ?_ hn hdb)
  exact PyProof.Rows.callWith_type1 (thn (ha pos pins s σ H _ I h) fun us s1 qz2=>(by obtain ⟨vs,H1,I1,r1,q1⟩:=qz2; exact hc pins s1 σ H1 vs us Q I1 r1 q1)) he hpl
end
end L2
namespace HT
open PySem PyProof.Rows
section
open PySem.SeqAt
open PySem.AutoSeq1 (wpAny_loadPart')
open PySem.MeetsSeq PySem.MeetsSeq2 PySem.MeetsSeq3
end
section
variable {prog:Program} {w:World} {A:Around} {E:Value→Shared→Prop} {s:Shared}
theorem CU {t b:Addr} {vs ws:List Value} {Q:Value→Shared→Prop} (ht:IsTup s.heap t vs.toArray) (hb:IsTup s.heap b ws.toArray) (hv:vs≠[])
    (h1:ws=[]→Q (.ref t) s) (h2:ws≠[]→Q (.ref s.heap.objs.size) { s with heap:=s.heap.push { cls:=.type "tuple",data:=.seq (vs++ws).toArray } })
    (hsz:vs.length + ws.length≤sizeLine):wpAny (model prog w) A (binaryOp .Add (.ref t) (.ref b)) Q E s:=by
  obtain ⟨⟨cls,dd,data,sl⟩,ho,hc,n,hd⟩:=id ht
  obtain ⟨⟨cls2,dd2,data2,sl2⟩,ho2,hc2,n2,hd2⟩:=id hb
  simp only at hc hd hc2 hd2
  subst hc hd hc2 hd2
  have e:vs.toArray++ws.toArray=(vs++ws).toArray:=by simp
  by_cases hw:ws=[]
  · exact concat_meets ⟨_,ho,rfl⟩ ⟨_,ho2,rfl⟩ noFill_tuple_add seq_tuple_add PySem.F.slot_tuple_add PySem.F.entry_tuple_add (PySem.F.args_tuple_add_2 _ _)
      (tuple_addW1 t b vs.toArray ws.toArray n n2 dd dd2 sl sl2 (by simpa using hv) (by simp [hw])) ⟨ho,ho2,h1 hw⟩
  · refine concat_meets ⟨_,ho,rfl⟩ ⟨_,ho2,rfl⟩ noFill_tuple_add seq_tuple_add PySem.F.slot_tuple_add PySem.F.entry_tuple_add (PySem.F.args_tuple_add_2 _ _)
      (tuple_addW2 t b vs.toArray ws.toArray n n2 dd dd2 sl sl2 (by simpa using hv) (by simpa using hw) (by rw [List.size_toArray,List.size_toArray]; exact hsz)) ⟨ho,ho2,?_⟩
    rw [e]
    exact h2 hw
noncomputable def sIx (n d:Nat):Option Int→Nat
  | none=>d
  | some v=>if v < 0 then (v + (n:Int)).toNat else min v.toNat n
theorem xZ (n d k:Nat):sIx n d (some (k:Int))=min k n:=by
  show (if (k:Int) < 0 then ((k:Int) + (n:Int)).toNat else min (k:Int).toNat n)=min k n
  rw [if_neg (by omega),Int.toNat_natCast]
theorem EF (n d:Nat) (hd:d≤n) (o:Option Int):sIx n d o≤n:=by
  cases o with
  | none=>exact hd
  | some v =>
    show (if v < 0 then (v + (n:Int)).toNat else min v.toNat n)≤n
    by_cases hv:v < 0
    · rw [if_pos hv]; omega
    · rw [if_neg hv]; exact Nat.min_le_right _ _
theorem yl (v:Int) (n d:Nat):(if v < 0 then max (v + (n:Int)) 0 else min v (n:Int))=((sIx n d (some v):Nat):Int):=by
  show (if v < 0 then max (v + (n:Int)) 0 else min v (n:Int))=(((if v < 0 then (v + (n:Int)).toNat else min v.toNat n):Nat):Int)
  by_cases hv:v < 0
  · simp only [if_pos hv]; omega
  · simp only [if_neg hv]; omega
theorem vP (lo hi:Option Int) (n:Nat):Builtin.Slice.sliceAdjust lo hi 1 (n:Int)=(((sIx n 0 lo:Nat):Int),((sIx n n hi:Nat):Int)):=by
  have h1:¬ ((1:Int) < 0):=by omega
  unfold Builtin.Slice.sliceAdjust
  simp only [h1,if_false]
  refine Prod.ext ?_ ?_
  · cases lo with
    | none=>rfl
    | some v=>exact yl v n 0
  · cases hi with
    | none=>rfl
    | some v=>exact yl v n n
theorem vG (i j:Nat):Builtin.Slice.slicePlaces (i:Int) (j:Int) 1=j - i:=by
  unfold Builtin.Slice.slicePlaces
  have h1:(1:Int) > 0:=by omega
  simp only [h1,if_true,Int.ediv_one]
  split <;> omega
theorem qg {v:Value} {o:Option Int} {Q:Option Int→Shared→Prop} (p:IsPart v o) (h:Q o s):wpAny (model prog w) A (Builtin.Slice.slicePartIndex v) Q E s:=by
  cases p with
  | none=>exact slicePart_none h
  | int i t=>exact slicePart_int h
theorem i5 {sl:Addr} {vl vu:Value} {lo hi:Option Int} {n:Nat} {Q:Int × Int × Nat→Shared→Prop} (hs:s.heap.IsSliceOf sl vl vu .none) (pl:IsPart vl lo) (pu:IsPart vu hi)
    (h:Q (((sIx n 0 lo:Nat):Int),1,sIx n n hi - sIx n 0 lo) s):wpAny (model prog w) A (Builtin.Slice.sliceApplied (.ref sl) (pure (n:Int))) Q E s:=by
  obtain ⟨os,hos,hcs,hds⟩:=id hs
  unfold Builtin.Slice.sliceApplied Builtin.Slice.sliceFields
  refine wpAny_bind (wpAny_bind (wpAny_field hos hds (x:=vl) rfl (wpAny_bind (wpAny_field hos hds (x:=vu) rfl (wpAny_bind (wpAny_field hos hds (x:=.none) rfl (wpAny_pure ?_)))))))
  refine wpAny_bind (slicePart_none ?_)
  show wpAny _ _ (if ((1:Int) == 0)=true then _ else _) _ _ s
  rw [if_neg (by decide)]
  refine wpAny_bind (qg pl (wpAny_bind (qg pu (wpAny_bind (wpAny_pure ?_)))))
  show wpAny _ _ (match Builtin.Slice.sliceAdjust lo hi 1 (n:Int) with | (lo,hi)=>pure (lo,(1:Int),Builtin.Slice.slicePlaces lo hi 1)) _ _ s
  rw [vP lo hi n]
  show wpAny _ _ (pure (((sIx n 0 lo:Nat):Int),(1:Int),Builtin.Slice.slicePlaces ((sIx n 0 lo:Nat):Int) ((sIx n n hi:Nat):Int) 1)) _ _ s
  rw [vG]
  exact wpAny_pure h
theorem Be (xs:Array Value) (i k:Nat):((List.range k).filterMap fun (m:Nat)=>xs[((i:Int) + (m:Int) * 1).toNat]?).toArray=((xs.toList.drop i).take k).toArray:=by
  have e:(fun (m:Nat)=>xs[((i:Int) + (m:Int) * 1).toNat]?)=fun m=>xs[i + m]?:=by
    funext m
    have:((i:Int) + (m:Int) * 1).toNat=i + m:=by omega
    rw [this]
  rw [e]
  have:=pick_run xs i k
  rw [List.filterMap_map] at this
  have e2:((fun x=>xs[x]?) ∘ fun x=>i + x)=fun m=>xs[i + m]?:=rfl
  rw [e2] at this
  rw [this]
theorem mq {t sl:Addr} {items:Array Value} {vl vu:Value} {lo hi:Option Int} {Q:Value→Shared→Prop} (ht:IsTup s.heap t items) (hs:s.heap.IsSliceOf sl vl vu .none) (pl:IsPart vl lo) (pu:IsPart vu hi)
    (hw:¬ (sIx items.size 0 lo=0∧sIx items.size items.size hi=items.size))
    (h:Q (.ref s.heap.objs.size) { s with heap:=s.heap.push { cls:=.type "tuple",data:=.seq ((items.toList.drop (sIx items.size 0 lo)).take (sIx items.size items.size hi - sIx items.size 0 lo)).toArray } })
    (hsz:items.size≤sizeLine):wpAny (model prog w) A (getItem (.ref t) (.ref sl)) Q E s:=by
  have htake:sizeOk (.seq ((items.toList.drop (sIx items.size 0 lo)).take (sIx items.size items.size hi - sIx items.size 0 lo)).toArray):=by
    show ((items.toList.drop (sIx items.size 0 lo)).take (sIx items.size items.size hi - sIx items.size 0 lo)).toArray.size≤sizeLine
    rw [List.size_toArray,List.length_take,List.length_drop,Array.length_toList]
    omega
  have hj:sIx items.size items.size hi≤items.size:=EF _ _ (Nat.le_refl _) hi
  obtain ⟨os,hos,hcs,hds⟩:=id hs
  have hTs:s.TypeIs (.ref sl) "slice":=⟨os,hos,hcs⟩
  unfold getItem
  try with_reducible refine wpAny_holding ?_
  first | refine wpAny_bind (wpAny_pure ?_) | skip
  refine wpAny_bind (wpAny_sequenceKey ht.typeIs (by decide) ?_)
  refine wpAny_bind (wpAny_callSpecial?_slot (name:=Str.ofString "__getitem__") ht.typeIs PyProof.Rows.slot_tuple_getitem
    (wpAny_call_entry PyProof.Rows.slot_tuple_getitem ht.typeIs entry_tuple_getitem ?_ (args_tuple_getitem _ _)))
  show wpAny _ _ (Builtin.Tuple.tupleItemsOf (.ref t) >>= _) _ _ s
  refine wpAny_bind (tupleItemsOf_ ht ?_)
  refine wpAny_bind (wpAny_typeOf hTs ?_)
  rw [if_pos (by decide)]
  refine wpAny_bind (i5 hs pl pu ?_)
  have hno:¬ ((((sIx items.size 0 lo:Nat):Int) == 0 && (1:Int) == 1 && (sIx items.size items.size hi - sIx items.size 0 lo) == items.size)=true):=by
    intro q
    rw [Bool.and_eq_true,Bool.and_eq_true] at q
    have q1:((sIx items.size 0 lo:Nat):Int)=0:=eq_of_beq q.1.1
    have q2:sIx items.size items.size hi - sIx items.size 0 lo=items.size:=eq_of_beq q.2
    exact hw ⟨by omega,by omega⟩
  show wpAny _ _ (if (((sIx items.size 0 lo:Nat):Int) == 0 && (1:Int) == 1 && (sIx items.size items.size hi - sIx items.size 0 lo) == items.size)=true then _ else _) _ _ s
  rw [if_neg hno,Be]
  first
    | exact wpAny_bind (m:=Builtin.Tuple.tupleExact _) (wpAny_newObj_type (wpAny_pure ⟨_,rfl,wpAny_pure h⟩) htake)
    | exact wpAny_bind (m:=Builtin.Tuple.tupleExact _) (wpAny_newObj_type (wpAny_bind (wpAny_pure (wpAny_pure ⟨_,rfl,wpAny_pure h⟩))) htake)
    | exact wpAny_bind (wpAny_bind (m:=Builtin.Tuple.tupleExact _) (wpAny_newObj_type (wpAny_pure (wpAny_pure ⟨_,rfl,wpAny_pure h⟩)) htake))
    | exact wpAny_bind (wpAny_bind (m:=Builtin.Tuple.tupleExact _) (wpAny_newObj_type (wpAny_pure ⟨_,rfl,wpAny_pure h⟩) htake))
end
end HT
namespace L2
open PySem PySem.Spec PyProof.Rows
noncomputable abbrev TO:=St→Hp→(Option Int→Hp→Prop)→Prop
noncomputable def PO (X:Cx) (e:Option Expr) (t:TO):Prop :=
  ∀ (pins:List (Addr × Obj)) (s:Shared) (σ:St) (H:Hp) (Q:Option Int→Hp→Prop),Inv X pins σ H s→t σ H Q →
    wpAny (model X.prog X.w) X.A (evalPart e X.env) (fun u s'=>∃ o H',Inv X pins σ H' s'∧IsPart u o∧Q o H') X.xe s
noncomputable def BV:TO:=fun _ H Q=>Q none H
noncomputable def Fn (t:TE):TO:=fun σ H Q=>t σ H fun x H1=>∃ i,x=.int i∧Q (some i) H1
theorem intsAre_of {ns:List Int}:∀ {us:List Value},Vals (ns.map V.int) us→IntsAre us ns:=by
  induction ns with
  | nil=>intro us r; rw [List.map_nil] at r; cases r; exact .nil
  | cons n ns ih =>
    intro us r
    rw [List.map_cons] at r
    cases r with
    | cons r1 r2 =>
      obtain ⟨t,e⟩:=r1
      subst e
      exact .cons n t (ih r2)
section
variable {X:Cx} {e:Expr} {te:TE} {lo hi:Option Expr} {tl th:TO} {pos p2:Pos}
theorem CS:PO X none BV:=by
  intro pins s σ H Q I h
  rw [evalPart_none]
  exact wpAny_pure ⟨none,H,I,.none,h⟩
theorem Cr (h:PE X e te):PO X (some e) (Fn te):=by
  intro pins s σ H Q I hw
  rw [evalPart_some]
  refine thn (h pins s σ H _ I hw) fun u s1 rz2=>?_
  obtain ⟨x,H1,I1,r1,q1⟩:=rz2
  obtain ⟨i,rfl,q⟩:=q1
  obtain ⟨t,rfl⟩:=r1
  exact ⟨some i,H1,I1,.int i t,q⟩
noncomputable def SlR (X:Cx) (r:V→Option Int→Option Int→Hp→VK→Prop):Prop :=
  ∀ (pins:List (Addr × Obj)) (s:Shared) (σ:St) (H:Hp) (x:V) (v vl vu:Value) (lo hi:Option Int) (sl:Addr) (Q:VK),Inv X pins σ H s→RelV x v→s.heap.IsSliceOf sl vl vu .none→IsPart vl lo→IsPart vu hi→r x lo hi H Q →
    ∃ T id,typeLookup (.type T) "__getitem__"=pure (some (.builtin id))∧s.TypeIs v T∧wpAny (model X.prog X.w) X.A (getItem v (.ref sl)) (EP X pins σ Q) X.xe s
theorem SlR.or {r r':V→Option Int→Option Int→Hp→VK→Prop} (h:SlR X r) (h':SlR X r'):SlR X (fun x lo hi H Q=>r x lo hi H Q∨r' x lo hi H Q):=by
  intro pins s σ H x v vl vu lo hi sl Q I rx hs pl pu q
  rcases q with q | q
  · exact h pins s σ H x v vl vu lo hi sl Q I rx hs pl pu q
  · exact h' pins s σ H x v vl vu lo hi sl Q I rx hs pl pu q
noncomputable def tSl (r:V→Option Int→Option Int→Hp→VK→Prop) (te:TE) (tl th:TO):TE:=fun σ H Q=>te σ H fun x H1=>tl σ H1 fun l H2=>th σ H2 fun u H3=>r x l u H3 Q
theorem Ad {r:V→Option Int→Option Int→Hp→VK→Prop} (hr:SlR X r) (he:PE X e te) (hl:PO X lo tl) (hu:PO X hi th):PE X (.Subscript e (.Slice lo hi none p2) pos) (tSl r te tl th):=by
  intro pins s σ H Q I h
  refine Subscript_ (thn (he pins s σ H _ I h) fun v s1 rz2=>?_)
  obtain ⟨x,H1,I1,r1,q1⟩:=rz2
  refine wpAny_Slice (thn (hl pins s1 σ H1 _ I1 q1) fun vl s2 rz2=>?_)
  obtain ⟨l,H2,I2,pl,q2⟩:=rz2
  refine thn (hu pins s2 σ H2 _ I2 q2) fun vu s3 rz2=>?_
  obtain ⟨u,H3,I3,pu,q3⟩:=rz2
  rw [evalPart_none]
  refine wpAny_pure ?_
  have I4:Inv X pins σ H3 { s3 with heap:=s3.heap.push { cls:=.type "slice",data:=.fields #[vl,vu,.none] } }:=I3.kept (t':=s3.toks) fun b ob q=>Heap.get?_push_of_some _ q
  obtain ⟨T,id,hT,ht,hg⟩:=hr pins { s3 with heap:=s3.heap.push { cls:=.type "slice",data:=.fields #[vl,vu,.none] } } σ H3 x v vl vu l u s3.heap.objs.size Q I4 r1 (Heap.IsSliceOf.new ..) pl pu q3
  show wpAny (model X.prog X.w) X.A (subscriptTail e (.Slice lo hi none p2) v (.ref s3.heap.objs.size)) (EP X pins σ Q) X.xe { s3 with heap:=s3.heap.push { cls:=.type "slice",data:=.fields #[vl,vu,.none] } }
  exact tail_any (ops:=[.ref s3.heap.objs.size,v]) ht hT hg (by with_unfolding_all rfl)
noncomputable def ub (xs:List V) (lo hi:Option Int):List V:=(xs.drop (HT.sIx xs.length 0 lo)).take (HT.sIx xs.length xs.length hi - HT.sIx xs.length 0 lo)
theorem nX (xs:List V) (lo hi:Option Int):(ub xs lo hi).length≤xs.length:=by
  unfold ub
  rw [List.length_take,List.length_drop]
  omega
noncomputable def Gk (K:PySem.W.Frag):V→Option Int→Option Int→Hp→VK→Prop:=fun x lo hi H Q=>∃ a xs,x=.ref a∧SqT K H a xs ∧
  ¬ (HT.sIx xs.length 0 lo=0∧HT.sIx xs.length xs.length hi=xs.length)∧∀ p,H p=none→Q (.ref p) (upd H p (.tup (ub xs lo hi)))
theorem D5:SlR X (Gk X.K):=by
  intro pins s σ H x v vl vu lo hi sl Q I rx hs pl pu h
  obtain ⟨a,xs,rfl,hx,hw,q⟩:=h
  cases rx
  obtain ⟨its,r,ht,hz⟩:=I.tuple hx
  have hlen:its.toArray.size=xs.length:=by rw [List.size_toArray]; exact r.length.symm
  refine ⟨"tuple",_,PyProof.Rows.slot_tuple_getitem.lookup,ht.typeIs,?_⟩
  refine HT.mq ht hs pl pu (by rw [hlen]; exact hw) ?_ (by rw [hlen]; exact hz)
  rw [hlen]
  refine ⟨.ref s.heap.objs.size,_,I.laid (t':=s.toks) (o:=.tup (ub xs lo hi)) (fun b ob q=>Heap.get?_push_of_some _ q) (Nat.le_refl _) ?_,rfl,q _ (I.hok.fresh (Nat.le_refl _))⟩
  exact ⟨Nat.le_trans (nX xs lo hi) hz,_,(r.drop (HT.sIx xs.length 0 lo)).take (HT.sIx xs.length xs.length hi - HT.sIx xs.length 0 lo),sf.new _ _⟩
noncomputable def Fc (K:PySem.W.Frag):R2:=fun x y H Q=>∃ a b xs ys,x=.ref a∧y=.ref b∧SqT K H a xs∧SqT K H b ys∧xs≠[]∧xs.length + ys.length≤sizeLine ∧
  (ys=[]→Q (.ref a) H)∧(ys≠[]→∀ p,H p=none→Q (.ref p) (upd H p (.tup (xs++ys))))
theorem Vals.nil_iff {xs:List V} {us:List Value} (r:Vals xs us):us=[]↔xs=[]:=by
  cases r with
  | nil=>simp
  | cons _ _=>simp
theorem Ce:OpR X (binaryOp .Add) (Fc X.K):=by
  intro pins s σ H x y v u Q I rx ry h
  obtain ⟨a,b,xs,ys,rfl,rfl,ha,hb,hx,hz,q1,q2⟩:=h
  cases rx
  cases ry
  obtain ⟨its,r1,p1,_⟩:=I.tuple ha
  obtain ⟨its2,r2,p2,_⟩:=I.tuple hb
  refine HT.CU p1 p2 (fun z=>hx (r1.nil_iff.mp z)) (fun z=>⟨.ref a,H,I,rfl,q1 (r2.nil_iff.mp z)⟩) (fun z=>?_) (by rw [← r1.length,← r2.length]; exact hz)
  refine ⟨.ref s.heap.objs.size,_,I.laid (t':=s.toks) (o:=.tup (xs++ys)) (fun b ob q=>Heap.get?_push_of_some _ q) (Nat.le_refl _) ?_,rfl,q2 (fun w=>z (r2.nil_iff.mpr w)) _ (I.hok.fresh (Nat.le_refl _))⟩
  exact ⟨by rw [List.length_append]; exact hz,_,r1.append r2,sf.new _ _⟩
end
end L2
namespace L2
open PySem PySem.Spec PyProof.Rows
noncomputable def ixN (n:Nat) (i:Int):Option Nat:=if 0≤i then (if i < n then some i.toNat else none) else if -(n:Int)≤i then some (i + n).toNat else none
noncomputable def atI {α:Type} (xs:List α) (i:Int):Option α:=(ixN xs.length i).bind fun j=>xs[j]?
theorem yu {n:Nat} {i:Int} {j:Nat} (h:ixN n i=some j):seqIndex? i n=some j∧j < n∧-(n:Int)≤i∧i < n:=by
  unfold ixN at h
  by_cases h0:0≤i
  · rw [if_pos h0] at h
    by_cases h1:i < n
    · rw [if_pos h1] at h
      have e:i.toNat=j:=Option.some.inj h
      exact ⟨by rw [seqIndex_of h0 h1,e],by omega,by omega,h1⟩
    · rw [if_neg h1] at h; cases h
  · rw [if_neg h0] at h
    by_cases h1:-(n:Int)≤i
    · rw [if_pos h1] at h
      have e:(i + n).toNat=j:=Option.some.inj h
      exact ⟨by rw [seqIndex_neg (by omega) h1,e],by omega,h1,by omega⟩
    · rw [if_neg h1] at h; cases h
theorem xT {α:Type} {xs:List α} {i:Int} {v:α} (h:atI xs i=some v):∃ j,seqIndex? i xs.length=some j∧xs[j]?=some v∧j < xs.length∧-(xs.length:Int)≤i∧i < xs.length:=by
  unfold atI at h
  cases e:ixN xs.length i with
  | none=>rw [e] at h; cases h
  | some j =>
    rw [e] at h
    obtain ⟨h1,h2,h3,h4⟩:=yu e
    exact ⟨j,h1,h,h2,h3,h4⟩
theorem BG {α:Type} {xs:List α} {j:Nat} {v:α} (h:xs[j]?=some v):atI xs (j:Int)=some v:=by
  have hj:j < xs.length:=(List.getElem?_eq_some_iff.mp h).1
  have e:ixN xs.length (j:Int)=some j:=by
    unfold ixN
    rw [if_pos (by omega),if_pos (by omega)]; simp
  unfold atI; rw [e]; exact h
noncomputable def xF (b:Expr):Prop:=∀ o i,subscripted b false o i=operate [o,i] (getItem o i)
noncomputable def IxR (X:Cx) (r:R2):Prop :=
  ∀ (value slice:Expr) (pins:List (Addr × Obj)) (s:Shared) (σ:St) (H:Hp) (x y:V) (v u:Value) (Q:VK),Inv X pins σ H s→RelV x v→RelV y u→r x y H Q →
    subscripted slice false v u=operate [v,u] (getItem v u)→wpAny (model X.prog X.w) X.A (subscriptTail value slice v u) (EP X pins σ Q) X.xe s
noncomputable def MtR (X:Cx) (id:String) (r:V→List V→Hp→VK→Prop):Prop :=
  ∀ (pins:List (Addr × Obj)) (s:Shared) (σ:St) (H:Hp) (x:V) (xs:List V) (v:Value) (us:List Value) (Q:VK),Inv X pins σ H s→RelV x v→Vals xs us→r x xs H Q →
    wpAny (model X.prog X.w) X.A (call (.builtin id) (v::us)) (EP X pins σ Q) X.xe s
section
variable {X:Cx} {a b:Expr} {ta tb:TE} {pos:Pos}
theorem IxR.or {r r':R2} (h:IxR X r) (h':IxR X r'):IxR X (fun x y H Q=>r x y H Q∨r' x y H Q):=by
  intro value slice pins s σ H x y v u Q I rx ry q hs
  rcases q with q | q
  · exact h value slice pins s σ H x y v u Q I rx ry q hs
  · exact h' value slice pins s σ H x y v u Q I rx ry q hs
theorem zK {r:R2} (hr:IxR X r) (ha:PE X a ta) (hb:PE X b tb) (hs:xF b):PE X (.Subscript a b pos) (tOp r ta tb):=by
  intro pins s σ H Q I h
  exact Subscript_ (D9 ha hb I h fun v u s2 x y H2 I2 rx ry q=>hr a b pins s2 σ H2 x y v u Q I2 rx ry q (hs _ _))
noncomputable def E6 (K:PySem.W.Frag):R2:=fun x y H Q=>∃ p xs i v,x=.ref p∧y=.int i∧SqL K H p xs∧atI xs i=some v∧Q v H
noncomputable def ES (K:PySem.W.Frag):R2:=fun x y H Q=>∃ p xs i v,x=.ref p∧y=.int i∧SqT K H p xs∧atI xs i=some v∧Q v H
theorem sH:IxR X (E6 X.K):=by
  intro value slice pins s σ H x y v u Q I rx ry h hs
  obtain ⟨p,xs,i,z,rfl,rfl,hq,he,q⟩:=h
  cases rx
  obtain ⟨t,rfl⟩:=ry
  obtain ⟨its,r,pl,hz⟩:=I.list hq
  obtain ⟨j,h1,h2,h3,h4,h5⟩:=xT he
  obtain ⟨w,ew,rw'⟩:=r.get h2
  have hl:=r.length
  have hn:=sS
  have fin:EP X pins σ Q w s:=⟨z,H,I,rw',q⟩
  by_cases h0:0≤i
  · have hj:i.toNat=j:=by
      rw [seqIndex_of h0 h5] at h1
      exact Option.some.inj h1
    exact item_listR pl.isList h0 (by omega) (by rw [hj]; simpa using ew) fin hs
  · have hj:(i + (its.toArray.size:Int)).toNat=j:=by
      rw [seqIndex_neg (by omega) h4] at h1
      rw [List.size_toArray,← hl]
      exact Option.some.inj h1
    exact subscriptTail_builtinR (x:=w) pl.isList.typeIs slot_list_getitem.lookup
      (wpAny_getItem_list_neg (Q:=fun r s'=>r=w∧EP X pins σ Q r s') pl.isList (by omega) (by rw [List.size_toArray] <;> omega) (by omega) (by rw [hj]; simpa using ew) ⟨rfl,fin⟩) hs
theorem DB:IxR X (ES X.K):=by
  intro value slice pins s σ H x y v u Q I rx ry h hs
  obtain ⟨p,xs,i,z,rfl,rfl,hq,he,q⟩:=h
  cases rx
  obtain ⟨t,rfl⟩:=ry
  obtain ⟨its,r,pl,hz⟩:=I.tuple hq
  obtain ⟨j,h1,h2,h3,h4,h5⟩:=xT he
  obtain ⟨w,ew,rw'⟩:=r.get h2
  have hl:=r.length
  have hn:=sS
  have fin:EP X pins σ Q w s:=⟨z,H,I,rw',q⟩
  exact subscriptTail_builtinR (x:=w) pl.typeIs slot_tuple_getitem.lookup
    (getItem_tuple (j:=j) (Q:=fun r s'=>r=w∧EP X pins σ Q r s') pl (by omega) (by omega) (by rw [List.size_toArray,← hl]; exact h1) (by simpa using ew) ⟨rfl,fin⟩) hs
theorem wb (its:List Value) (n j:Nat) (u:Value):Obj.mapSeq (·.setIfInBounds j u) { cls:=.type "list",data:=.seq its.toArray n }={ cls:=.type "list",data:=.seq (its.set j u).toArray n }:=by
  simp [Obj.mapSeq]
theorem Inv.lst {pins:List (Addr × Obj)} {σ:St} {H:Hp} {s:Shared} {p:Addr} {xs:List V} (I:Inv X pins σ H s) (h:H p=some (.lst xs)) :
    ∃ (its:List Value) (n:Nat),Vals xs its∧s.heap.get? p=some { cls:=.type "list",data:=.seq its.toArray n }∧xs.length≤sizeLine:=by
  obtain ⟨z,its,n,r,e⟩:=I.hok p _ h
  exact ⟨its,n,r,e,z⟩
theorem Inv.lstUpd {pins:List (Addr × Obj)} {σ:St} {H:Hp} {s:Shared} {p:Addr} {xs ys:List V} {its its':List Value} {n n':Nat} {f:Obj→Obj} (I:Inv X pins σ H s) (h:H p=some (.lst xs))
    (ho:s.heap.get? p=some { cls:=.type "list",data:=.seq its.toArray n }) (hf:f { cls:=.type "list",data:=.seq its.toArray n }={ cls:=.type "list",data:=.seq its'.toArray n' }) (r:Vals ys its') (hz:ys.length≤sizeLine) (t:Nat) :
    Inv X pins σ (upd H p (.lst ys)) { s with heap:=s.heap.update p f,toks:=t }:=by
  have e:(s.heap.update p f).get? p=some { cls:=.type "list",data:=.seq its'.toArray n' }:=by
    rw [Heap.get?_update_self f ho (by rw [hf] <;> rfl),hf]
  refine I.write (x:=p) (e:=p) (by rw [h]; trivial) (.inl rfl) (fun b u hb q=>(Heap.get?_update_other _ _ (Ne.symm hb)).trans q) ⟨_,e⟩ ?_
  exact ⟨hz,its',n',r,e⟩
noncomputable def E3:V→V→V→Hp→(Hp→Prop)→Prop:=fun o i v H Q=>∃ p xs k j,o=.ref p∧i=.int k∧H p=some (.lst xs)∧ixN xs.length k=some j∧Q (upd H p (.lst (xs.set j v)))
theorem set_list:Fj X E3:=by
  intro pins s σ H o i v ov iv u Q I ro ri rv h
  obtain ⟨p,xs,k,j,rfl,rfl,hp,hj,q⟩:=h
  cases ro
  obtain ⟨t,rfl⟩:=ri
  obtain ⟨its,n,r,ho,hz⟩:=I.lst hp
  obtain ⟨h1,h2,h3,h4⟩:=yu hj
  have hl:=r.length
  have hn:=sS
  have I':Inv X pins σ (upd H p (.lst (xs.set j v))) { s with heap:=s.heap.update p (Obj.mapSeq (·.setIfInBounds j u)) } :=
    I.lstUpd hp ho (wb its n j u) (r.set rv j) (by rw [List.length_set]; exact hz) s.toks
  by_cases h0:0≤k
  · have hk:k.toNat=j:=by
      rw [seqIndex_of h0 h4] at h1
      exact Option.some.inj h1
    exact PySem.W.ki_setAt ho h0 (by omega) (by rw [List.size_toArray,← hl]; exact h4) (by rw [hk]; exact ⟨_,I',q⟩)
  · have hk:(k + (its.toArray.size:Int)).toNat=j:=by
      rw [seqIndex_neg (by omega) h3] at h1
      rw [List.size_toArray,← hl]
      exact Option.some.inj h1
    exact PySem.W.ki_setBack ho (by omega) (by rw [List.size_toArray,← hl]; exact h3) (by omega) (by rw [hk]; exact ⟨_,I',q⟩)
theorem sv (lo hi:Option Int) (n:Nat):(sliceBounds lo hi none n).1=((HT.sIx n 0 lo:Nat):Int)∧(sliceBounds lo hi none n).2.1=((HT.sIx n n hi:Nat):Int)∧(sliceBounds lo hi none n).2.2=1:=by
  refine ⟨?_,?_,rfl⟩
  · cases lo with
    | none=>simp [sliceBounds,HT.sIx]
    | some i =>
      simp only [sliceBounds,HT.sIx,Option.getD_none,show (1:Int) > 0 by decide,if_true]
      by_cases h:i < 0
      · simp only [h,if_true] <;> omega
      · simp only [h,if_false] <;> omega
  · cases hi with
    | none=>simp [sliceBounds,HT.sIx]
    | some i =>
      simp only [sliceBounds,HT.sIx,Option.getD_none,show (1:Int) > 0 by decide,if_true]
      by_cases h:i < 0
      · simp only [h,if_true] <;> omega
      · simp only [h,if_false] <;> omega
theorem qR (its:List Value) (lo hi:Option Int):slicePick its.toArray lo hi none=((its.drop (HT.sIx its.length 0 lo)).take (HT.sIx its.length its.length hi - HT.sIx its.length 0 lo)).toArray:=by
  obtain ⟨h1,h2,h3⟩:=sv lo hi its.toArray.size
  unfold slicePick
  rw [h1,h2,h3]
  simp only [sliceRange_one,pick_run,List.size_toArray] <;> rfl
noncomputable def F3 (K:PySem.W.Frag):V→Option Int→Option Int→Hp→VK→Prop:=fun x lo hi H Q=>∃ a xs,x=.ref a∧SqL K H a xs∧∀ p,H p=none→Q (.ref p) (upd H p (.lst (ub xs lo hi)))
theorem Cz:SlR X (F3 X.K):=by
  intro pins s σ H x v vl vu lo hi sl Q I rx hs pl pu h
  obtain ⟨a,xs,rfl,hx,q⟩:=h
  cases rx
  obtain ⟨its,r,ht,hz⟩:=I.list hx
  have hlen:=r.length
  refine ⟨"list",_,slot_list_getitem.lookup,ht.isList.typeIs,?_⟩
  refine wpAny_getItem_list_slice ht.isList hs pl pu .none (by simp) ?_ (by rw [List.size_toArray] <;> omega)
  rw [qR,← hlen]
  refine ⟨.ref s.heap.objs.size,_,I.laid (t':=s.toks) (o:=.lst (ub xs lo hi)) (fun b ob q=>Heap.get?_push_of_some _ q) (Nat.le_refl _) ?_,rfl,q _ (I.hok.fresh (Nat.le_refl _))⟩
  exact ⟨Nat.le_trans (nX xs lo hi) hz,_,0,(r.drop (HT.sIx xs.length 0 lo)).take (HT.sIx xs.length xs.length hi - HT.sIx xs.length 0 lo),Heap.get?_push_size _ rfl⟩
noncomputable def jV:V→Bool
  | .non=>true
  | .bl _=>true
  | .int _=>true
  | .str _=>true
  | _=>false
noncomputable def eqV:V→V→Bool
  | .non,.non=>true
  | .bl a,.bl b=>a == b
  | .bl a,.int b=>(if a then 1 else 0) == b
  | .int a,.bl b=>a == (if b then 1 else 0)
  | .int a,.int b=>a == b
  | .str a,.str b=>a == b
  | _,_=>false
theorem Dx {A:Around} {s:Shared} {y x:V} {u v:Value} (ry:RelV y u) (rx:RelV x v) (fy:jV y=true) (fx:jV x=true):SeqAt.EqAt A s u v (eqV y x):=by
  cases y with
  | non =>
    cases ry
    cases x with
    | non=>cases rx; exact SeqAt.EqAt.same _
    | bl b=>cases rx; exact SeqAt.EqAt.none_bool b
    | int b=>obtain ⟨t,rfl⟩:=rx; exact SeqAt.EqAt.none_int b t
    | str b=>obtain ⟨t,rfl⟩:=rx; exact SeqAt.EqAt.none_str b t
    | _=>exact absurd (show false=true from fx) Bool.false_ne_true
  | bl a =>
    cases ry
    cases x with
    | non=>cases rx; exact SeqAt.EqAt.bool_none a
    | bl b=>cases rx; exact SeqAt.EqAt.bool_bool a b
    | int b=>obtain ⟨t,rfl⟩:=rx; exact SeqAt.EqAt.bool_int a b t
    | str b=>obtain ⟨t,rfl⟩:=rx; exact SeqAt.EqAt.bool_str a b t
    | _=>exact absurd (show false=true from fx) Bool.false_ne_true
  | int a =>
    obtain ⟨t',rfl⟩:=ry
    cases x with
    | non=>cases rx; exact SeqAt.EqAt.int_none a t'
    | bl b=>cases rx; exact SeqAt.EqAt.int_bool a t' b
    | int b=>obtain ⟨t,rfl⟩:=rx; exact SeqAt.EqAt.int_int a t' b t
    | str b=>obtain ⟨t,rfl⟩:=rx; exact SeqAt.EqAt.int_str a t' b t
    | _=>exact absurd (show false=true from fx) Bool.false_ne_true
  | str a =>
    obtain ⟨t',rfl⟩:=ry
    cases x with
    | non=>cases rx; exact SeqAt.EqAt.str_none a t'
    | bl b=>cases rx; exact SeqAt.EqAt.str_bool a t' b
    | int b=>obtain ⟨t,rfl⟩:=rx; exact SeqAt.EqAt.str_int a t' b t
    | str b=>obtain ⟨t,rfl⟩:=rx; exact SeqAt.EqAt.str_str a t' b t
    | _=>exact absurd (show false=true from fx) Bool.false_ne_true
  | _=>exact absurd (show false=true from fy) Bool.false_ne_true
noncomputable def eqU (x:V) (u:Value):Bool:=match u with
  | .none=>eqV .non x
  | .bool b=>eqV (.bl b) x
  | .int i _=>eqV (.int i) x
  | .str z _=>eqV (.str z) x
  | _=>false
theorem wH {x y:V} {u:Value} (r:RelV y u) (f:jV y=true):eqU x u=eqV y x:=by
  cases y with
  | non=>cases r; rfl
  | bl b=>cases r; rfl
  | int i=>obtain ⟨t,rfl⟩:=r; rfl
  | str z=>obtain ⟨t,rfl⟩:=r; rfl
  | _=>exact absurd (show false=true from f) Bool.false_ne_true
theorem mj {x:V}:∀ {xs:List V} {us:List Value},Vals xs us→xs.all jV=true→us.any (eqU x)=xs.any fun y=>eqV y x
  | _,_,.nil,_=>rfl
  | y::xs,u::us,.cons r t,f=>by
    rw [List.all_cons,Bool.and_eq_true] at f
    rw [List.any_cons,List.any_cons,wH r f.1,mj t f.2]
theorem iZ {A:Around} {s:Shared} {x:V} {v:Value} (rx:RelV x v) (fx:jV x=true):∀ {xs:List V} {us:List Value},Vals xs us→xs.all jV=true→∀ u∈us,SeqAt.EqAt A s u v (eqU x u)
  | _,_,.nil,_=>fun u hu=>by cases hu
  | y::xs,u::us,.cons r t,f=>fun u' hu=>by
    rw [List.all_cons,Bool.and_eq_true] at f
    rcases List.mem_cons.mp hu with rfl | hu
    · rw [wH r f.1]; exact Dx r rx f.1 fx
    · exact iZ rx fx t f.2 u' hu
noncomputable def inV (x:V) (xs:List V):Bool:=xs.any fun y=>eqV y x
noncomputable def rIn (K:PySem.W.Frag) (neg:Bool):R2:=fun x y H Q=>∃ p xs,y=.ref p∧(SqL K H p xs∨SqT K H p xs)∧jV x=true∧xs.all jV=true∧Q (.bl (if neg then !inV x xs else inV x xs)) H
theorem rV:OpR X (compareOp .In) (rIn X.K false):=by
  intro pins s σ H x y v u Q I rx ry h
  obtain ⟨p,xs,rfl,hq,fx,fs,q⟩:=h
  cases ry
  rcases hq with hq | hq
  · obtain ⟨its,r,pl,hz⟩:=I.list hq
    refine SeqAt.in_listAt (eqU x) pl.isList (fun w hw=>iZ rx fx r fs w (by simpa using hw)) ⟨.bl _,H,I,rfl,?_⟩
    rw [show its.toArray.any (eqU x)=its.any (eqU x) by simp,mj r fs]
    exact q
  · obtain ⟨its,r,pl,hz⟩:=I.tuple hq
    refine SeqAt.in_tupleAt (eqU x) pl (fun w hw=>iZ rx fx r fs w (by simpa using hw)) ⟨.bl _,H,I,rfl,?_⟩
    rw [show its.toArray.any (eqU x)=its.any (eqU x) by simp,mj r fs]
    exact q
theorem tG:OpR X (compareOp .NotIn) (rIn X.K true):=by
  intro pins s σ H x y v u Q I rx ry h
  obtain ⟨p,xs,rfl,hq,fx,fs,q⟩:=h
  cases ry
  rcases hq with hq | hq
  · obtain ⟨its,r,pl,hz⟩:=I.list hq
    refine SeqAt.notIn_listAt (eqU x) pl.isList (fun w hw=>iZ rx fx r fs w (by simpa using hw)) ⟨.bl _,H,I,rfl,?_⟩
    rw [show its.toArray.any (eqU x)=its.any (eqU x) by simp,mj r fs]
    exact q
  · obtain ⟨its,r,pl,hz⟩:=I.tuple hq
    refine SeqAt.notIn_tupleAt (eqU x) pl (fun w hw=>iZ rx fx r fs w (by simpa using hw)) ⟨.bl _,H,I,rfl,?_⟩
    rw [show its.toArray.any (eqU x)=its.any (eqU x) by simp,mj r fs]
    exact q
theorem jE:jb X (.builtin "len") (fun xs H Q=>∃ p ys,xs=[.ref p]∧(SqL X.K H p ys∨SqT X.K H p ys)∧Q (.int ys.length) H):=by
  intro pins s σ H xs us Q I r h
  obtain ⟨p,ys,rfl,hq,q⟩:=h
  obtain ⟨u,rfl,rx⟩:=vals1 r
  cases rx
  have hn:=sS
  rcases hq with hq | hq
  · obtain ⟨its,r',pl,hz⟩:=I.list hq
    have hlen:=r'.length
    exact Calls.call_len_list pl.isList (by simp only [List.size_toArray] <;> omega) ⟨.int ys.length,H,I.tok _,⟨s.toks + 1,by rw [List.size_toArray,hlen]⟩,q⟩
  · obtain ⟨its,r',pl,hz⟩:=I.tuple hq
    have hlen:=r'.length
    exact len_tuple pl (by simp only [List.size_toArray] <;> omega) ⟨.int ys.length,H,I.tok _,⟨s.toks + 1,by rw [List.size_toArray,hlen]⟩,q⟩
theorem qG:jb X (.type "tuple") (fun xs H Q=>∃ p ys,xs=[.ref p]∧((SqL X.K H p ys∧∀ l,H l=none→Q (.ref l) (upd H l (.tup ys)))∨(SqT X.K H p ys∧Q (.ref p) H))):=by
  intro pins s σ H xs us Q I r h
  obtain ⟨p,ys,rfl,h⟩:=h
  obtain ⟨u,rfl,rx⟩:=vals1 r
  cases rx
  rcases h with ⟨hq,q⟩ | ⟨hq,q⟩
  · obtain ⟨its,r',pl,hz⟩:=I.list hq
    have hlen:=r'.length
    refine call_tuple_list pl.isList (fun h' kp=>?_) (by simp only [List.size_toArray] <;> omega)
    have I1:Inv X pins σ H { s with heap:=h' }:=I.kept (t':=s.toks) kp
    have I2:Inv X pins σ (upd H h'.objs.size (.tup ys)) { s with heap:=h'.push { cls:=.type "tuple",data:=.seq its.toArray } } :=
      I1.laid (t':=s.toks) (fun b o e=>Heap.get?_push_of_some _ e) (Nat.le_refl _) (show fD X.prog X.w _ _ _ (.tup ys) from ⟨hz,its,r',sf.new _ _⟩)
    exact ⟨.ref h'.objs.size,_,I2,rfl,q _ (I1.hok.fresh (Nat.le_refl _))⟩
  · obtain ⟨its,r',pl,hz⟩:=I.tuple hq
    exact call_tuple_same pl ⟨.ref p,H,I,rfl,q⟩
noncomputable def tyV (K:PySem.W.Frag) (T:String) (x:V) (H:Hp):Prop:=match x with
  | .str _=>T="str"
  | .int _=>T="int"
  | .ref p=>(T="list"∧∃ xs,SqL K H p xs)∨(T="tuple"∧∃ o,K.lookup p=some o∧o.cls=.type "tuple"∧o.dict=none) ∨
      (T="dict"∧((∃ kvs,H p=some (.dK kvs))∨∃ kvs,H p=some (.dT kvs)))∨(T="set"∧∃ S n,H p=some (.set S n))
  | _=>False
theorem D7 {pins:List (Addr × Obj)} {σ:St} {H:Hp} {s:Shared} {T:String} {x:V} {v:Value} (I:Inv X pins σ H s) (r:RelV x v) (ty:tyV X.K T x H) :
    s.TypeIs v T∧∀ a,v=.ref a→∃ ob,s.heap.get? a=some ob∧ob.dict=none:=by
  cases x with
  | str z =>
    obtain ⟨t,rfl⟩:=r
    cases (show T="str" from ty)
    exact ⟨typeIs_str s z t,fun _ e=>nomatch e⟩
  | int i =>
    obtain ⟨t,rfl⟩:=r
    cases (show T="int" from ty)
    exact ⟨typeIs_int s i t,fun _ e=>nomatch e⟩
  | ref p =>
    cases r
    rcases ty with ⟨rfl,xs,hq⟩ | ⟨rfl,o,hk,hc,hd⟩ | ⟨rfl,hk⟩ | ⟨rfl,S,n,hk⟩
    · obtain ⟨its,_,pl,_⟩:=I.list hq
      refine ⟨pl.isList.typeIs,fun a e=>?_⟩
      cases e
      obtain ⟨o,n,e,c,hd,_⟩:=pl
      exact ⟨o,e,hd⟩
    · refine ⟨⟨o,I.kIn p o hk,hc⟩,fun a e=>?_⟩
      cases e
      exact ⟨o,I.kIn _ o hk,hd⟩
    · have z:∃ o,s.heap.get? p=some o∧o.ExactDict:=by
        rcases hk with ⟨kvs,hk⟩ | ⟨kvs,hk⟩
        · obtain ⟨_,_,_,_,o,_,_,e,ex,_⟩:=I.hok p _ hk
          exact ⟨o,e,ex⟩
        · obtain ⟨_,_,_,_,o,_,_,e,ex,_⟩:=I.hok p _ hk
          exact ⟨o,e,ex⟩
      obtain ⟨o,e,ex⟩:=z
      refine ⟨⟨o,e,ex.1⟩,fun a e2=>?_⟩
      cases e2
      exact ⟨o,e,ex.2.1⟩
    · obtain ⟨o,_,_,_,e,ex,_⟩:=I.hok p _ hk
      refine ⟨⟨o,e,ex.1⟩,fun a e2=>?_⟩
      cases e2
      exact ⟨o,e,ex.2.1⟩
  | _=>exact False.elim ty
noncomputable def tBM (K:PySem.W.Frag) (T:String) (r:V→List V→Hp→VK→Prop) (to:TE) (t:TA):TE:=fun σ H Q=>to σ H fun x H1=>tyV K T x H1∧t σ H1 fun xs H2=>r x xs H2 Q
variable {o e:Expr} {es:List Expr} {to:TE} {t:TA} {name:Str} {apos cpos:Pos} {T id:String} {r:V→List V→Hp→VK→Prop}
theorem Dk (pa:PlainAttrs T) (slot:Slot T name id) (hty:typeOf (.builtin id)=pure (.type "method_descriptor")) (hm:MtR X id r) (ho:PE X o to) (ha:PA X (e::es) t)
    (hbase:attributeBase o name X.env (eval o X.env)=eval o X.env:=by rfl)
    (hfew:((backTo cpos (starEach (e::es) X.env)).all (fun x=>!x.1) && (backToKw cpos (keywordEach [] X.env)).all (fun x=>x.1.isSome)
      && decide ((e::es).length + ([]:List Keyword).length + (if ([]:List Keyword).isEmpty then 0 else 1) < 30))=true:=by rfl)
    (hline:(apos.endLine == cpos.line)=true:=by rfl) (hs:starEach (e::es) X.env=(false,eval e X.env)::starEach es X.env:=by rfl) (hplain:(backTo cpos (starEach es X.env)).any (·.1)=false:=by rfl) :
    PE X (.Call (.Attribute o name apos) (e::es) [] cpos) (tBM X.K T r to t):=by
  intro pins s σ H Q I h
  refine wpAny_Call_method_late hbase hfew hline rfl (thn (ho pins s σ H _ I h) fun v s1 rz2=>?_)
  obtain ⟨x,H1,I1,r1,ty,q1⟩:=rz2
  obtain ⟨h1,h2⟩:=D7 I1 r1 ty
  refine ⟨T,id,pa,slot,hty,h1,h2,?_⟩
  have hA:=ha cpos pins s1 σ H1 _ I1 q1
  rw [hs] at hA ⊢
  refine Calls.callWith_builtin (by show (false || (backTo cpos (starEach es X.env)).any (·.1))=false; rw [hplain] <;> rfl) (Calls.evalArgs_plain ?_)
  exact thn hA fun us s2 qz2=>(by obtain ⟨vs,H2,I2,r2,q2⟩:=qz2; exact hm pins s2 σ H2 x vs v us Q I2 r1 r2 q2)
end
end L2
namespace L2
open PySem PySem.Spec PyProof.Rows
noncomputable def MtM (X:Cx) (id:String) (r:V→List V→Hp→VK→Prop):Prop :=
  ∀ (pins:List (Addr × Obj)) (s:Shared) (σ:St) (H:Hp) (x:V) (xs:List V) (v:Value) (us:List Value) (Q:VK),Inv X pins σ H s→RelV x v→Vals xs us→r x xs H Q →
    wpAny (model X.prog X.w) X.A (call (.builtin id) (v::us)) (EP X pins σ Q) X.xe s
theorem Vals.one {x:V} {us:List Value} (h:Vals [x] us):∃ u,us=[u]∧RelV x u:=by
  cases h with
  | cons r t=>cases t; exact ⟨_,rfl,r⟩
theorem Vals.rep {xs:List V} {us:List Value} (h:Vals xs us):∀ k:Nat,Vals (List.replicate k xs).flatten (List.replicate k us).flatten
  | 0=>.nil
  | k + 1=>by
    rw [List.replicate_succ,List.replicate_succ,List.flatten_cons,List.flatten_cons]
    exact Vals.append h (Vals.rep h k)
theorem foldl_rep (its:List Value):∀ (k:Nat) (acc:List Value),
    List.foldl (fun x1 x2=>x1++x2) acc.toArray (List.replicate k its.toArray)=(acc++(List.replicate k its).flatten).toArray
  | 0,acc=>by simp
  | k + 1,acc=>by
    have e:acc.toArray++its.toArray=(acc++its).toArray:=by simp
    have e2:(acc++its)++(List.replicate k its).flatten=acc++(List.replicate (k + 1) its).flatten:=by
      rw [List.replicate_succ,List.flatten_cons,List.append_assoc]
    rw [← e2,← foldl_rep its k (acc++its),← e,List.replicate_succ,List.foldl_cons]
section
variable {X:Cx} {pins:List (Addr × Obj)} {σ:St} {H:Hp} {s:Shared} {l b:Addr} {xs ys zs:List V}
theorem Inv.lset {its its':List Value} {n:Nat} {f:Array Value→Array Value} {t':Nat} (I:Inv X pins σ H s) (hH:H l=some (.lst xs))
    (e:s.heap.get? l=some { cls:=.type "list",data:=.seq its.toArray n }) (hf:f its.toArray=its'.toArray) (hv:Vals ys its') (hz:ys.length≤sizeLine) :
    Inv X pins σ (upd H l (.lst ys)) { s with heap:=s.heap.update l (Obj.mapSeq f),toks:=t' }:=by
  have q:=PySem.IsL.update e f
  rw [hf] at q
  refine I.write (x:=l) (e:=l) (by rw [hH]; exact trivial) (.inl rfl) (fun b' u hb hu=>(Heap.get?_update_other s.heap (Obj.mapSeq f) (Ne.symm hb)).trans hu) ⟨_,q⟩ ?_
  exact ⟨hz,its',_,hv,q⟩
theorem Inv.lnew {its:List Value} {t':Nat} (I:Inv X pins σ H s) (hv:Vals ys its) (hz:ys.length≤sizeLine) :
    Inv X pins σ (upd H s.heap.objs.size (.lst ys)) { s with heap:=s.heap.push { cls:=.type "list",data:=.seq its.toArray },toks:=t' } :=
  I.laid (fun _ _ q=>Heap.get?_push_of_some _ q) (Nat.le_refl _) ⟨hz,its,0,hv,Heap.get?_push_size _ rfl⟩
theorem Inv.fresh (I:Inv X pins σ H s):H s.heap.objs.size=none:=I.hok.fresh (Nat.le_refl _)
theorem Inv.lstM (I:Inv X pins σ H s) (hH:H l=some (.lst xs)):xs.length≤sizeLine∧∃ (its:List Value) (n:Nat),Vals xs its∧xs.length=its.length∧s.heap.get? l=some { cls:=.type "list",data:=.seq its.toArray n }:=by
  obtain ⟨z,its,n,r,e⟩:=I.hok l _ hH
  exact ⟨z,its,n,r,r.length,e⟩
theorem vt {n:Nat} (h:n≤sizeLine):Builtin.List.listTooLong n=false:=by
  unfold Builtin.List.listTooLong
  exact decide_eq_false (by omega)
end
section
variable {X:Cx}
noncomputable def CH:V→List V→Hp→VK→Prop:=fun x vs H Q=>∃ l xs y,x=.ref l∧vs=[y]∧H l=some (.lst xs)∧xs.length < sizeLine∧Q .non (upd H l (.lst (xs++[y])))
theorem q9:MtM X "list.append" CH:=by
  intro pins s σ H x vs v us Q I rx rv h
  obtain ⟨l,xs,y,rfl,rfl,hH,hz,q⟩:=h
  cases rx
  obtain ⟨u,rfl,ru⟩:=rv.one
  obtain ⟨z,its,n,r,hl,e⟩:=I.lstM hH
  refine call_meets F.slot_list_append ⟨_,e,rfl⟩ F.entry_list_append (F.args_list_append_2 _ _) (PySem.list_append l its.toArray n u (by rw [List.size_toArray]; omega)) ⟨e,?_⟩
  refine ⟨.non,_,I.lset (its':=its++[u]) hH e (by simp) (r.append (.cons ru .nil)) ?_,rfl,q⟩
  rw [List.length_append,List.length_singleton]
  omega
noncomputable def CD:V→List V→Hp→VK→Prop:=fun x vs H Q=>∃ l b xs zs,x=.ref l∧vs=[.ref b]∧H l=some (.lst xs)∧H b=some (.lst zs)∧xs.length + zs.length≤sizeLine∧Q .non (upd H l (.lst (xs++zs)))
theorem zk:MtM X "list.extend" CD:=by
  intro pins s σ H x vs v us Q I rx rv h
  obtain ⟨l,b,xs,zs,rfl,rfl,hH,hB,hz,q⟩:=h
  cases rx
  obtain ⟨u,rfl,ru⟩:=rv.one
  cases ru
  obtain ⟨z,its,n,r,hl,e⟩:=I.lstM hH
  obtain ⟨z2,its2,n2,r2,hl2,e2⟩:=I.lstM hB
  have hsz:its.toArray.size + its2.toArray.size≤sizeLine:=by rw [List.size_toArray,List.size_toArray]; omega
  have hlong:¬ (!its.toArray.isEmpty && Builtin.List.listTooLong (its.toArray.size + its2.toArray.size))=true:=by
    rw [vt hsz,Bool.and_false]
    exact Bool.false_ne_true
  refine call_meets F.slot_list_extend ⟨_,e,rfl⟩ F.entry_list_extend (F.args_list_extend_2 _ _)
    (AutoSeq1.list_extend_list_list_0 l its.toArray n b its2.toArray n2 hlong (by rw [List.size_toArray]; omega) (by omega)) ⟨e,e2,?_⟩
  refine ⟨.non,_,I.lset (its':=its++its2) hH e (by simp) (r.append r2) ?_,rfl,q⟩
  rw [List.length_append]
  omega
noncomputable def FH:R2:=fun x y H Q=>∃ l b xs zs,x=.ref l∧y=.ref b∧H l=some (.lst xs)∧H b=some (.lst zs)∧xs.length + zs.length≤sizeLine∧∀ p,H p=none→Q (.ref p) (upd H p (.lst (xs++zs)))
theorem Eg:OpR X (binaryOp .Add) FH:=by
  intro pins s σ H x y v u Q I rx ry h
  obtain ⟨l,b,xs,zs,rfl,rfl,hH,hB,hz,q⟩:=h
  cases rx
  cases ry
  obtain ⟨z,its,n,r,hl,e⟩:=I.lstM hH
  obtain ⟨z2,its2,n2,r2,hl2,e2⟩:=I.lstM hB
  refine PySem.P.add_list e e2 ?_ (by rw [List.size_toArray,List.size_toArray]; omega)
  have ea:its.toArray++its2.toArray=(its++its2).toArray:=by simp
  rw [ea]
  exact ⟨.ref _,_,I.lnew (t':=s.toks) (r.append r2) (by rw [List.length_append]; omega),rfl,q _ I.fresh⟩
noncomputable def EY:R2:=fun x y H Q=>∃ l k xs,x=.ref l∧y=.int k∧H l=some (.lst xs)∧-(2 ^ 63)≤k∧k < 2 ^ 63∧xs.length * k.toNat≤sizeLine ∧
  ∀ p,H p=none→Q (.ref p) (upd H p (.lst (List.replicate k.toNat xs).flatten))
theorem len_rep {α:Type} (xs:List α) (k:Nat):(List.replicate k xs).flatten.length=k * xs.length:=by
  induction k with
  | zero=>simp
  | succ k ih=>rw [List.replicate_succ,List.flatten_cons,List.length_append,ih,Nat.succ_mul,Nat.add_comm]
theorem DG:OpR X (binaryOp .Mult) EY:=by
  intro pins s σ H x y v u Q I rx ry h
  obtain ⟨l,k,xs,rfl,rfl,hH,h1,h2,hz,q⟩:=h
  cases rx
  obtain ⟨t,rfl⟩:=ry
  obtain ⟨z,its,n,r,hl,e⟩:=I.lstM hH
  have hlen:its.toArray.size * k.toNat≤sizeLine:=by rw [List.size_toArray,← hl]; exact hz
  have hcap:¬ its.toArray.size * k.toNat > (2 ^ 63 - 1) / 8:=by
    have:(sizeLine:Nat)≤(2 ^ 63 - 1) / 8:=by decide
    omega
  have hfit:¬ (!Builtin.List.listFitsIndex k)=true:=by
    rw [fitsIndex_both h1 h2]
    exact Bool.false_ne_true
  have hlong:¬ Builtin.List.listTooLong (its.toArray.size * k.toNat)=true:=by
    rw [vt hlen]
    exact Bool.false_ne_true
  have hnew:List.foldl (fun x1 x2=>x1++x2) #[] (List.replicate (if its.toArray.isEmpty=true then 0 else k.toNat) its.toArray)=(List.replicate k.toNat its).flatten.toArray:=by
    have f0:∀ m:Nat,List.foldl (fun x1 x2=>x1++x2) #[] (List.replicate m its.toArray)=(List.replicate m its).flatten.toArray:=fun m=>by
      have:=foldl_rep its m []
      rw [List.nil_append] at this
      exact this
    rw [f0]
    cases its with
    | nil=>simp
    | cons a r'=>rw [if_neg (by simp)]
  refine wpAny_binaryOp_repeat_ref (T:="list") (U:="int") (by decide) ⟨_,e,rfl⟩ (fun s'=>typeIs_int s' k t) noFill_list_mul F.fills_int_mul F.slot_int_rmul repeat_list F.slot_int_index.lookup
    (call_meets F.slot_int_rmul (typeIs_int s k t) F.entry_int_rmul (F.args_int_rmul_2 _ _) (int___rmul___int_list k t l its.toArray n)
      ⟨e,rfl,⟨_,e,rfl⟩,call_meets F.slot_list_mul ⟨_,e,rfl⟩ F.entry_list_mul (F.args_list_mul_2 _ _) (AutoListH.list___mul___list_int_3 l its.toArray n k t hfit hcap hlong) ⟨e,?_⟩⟩)
  rw [hnew]
  exact ⟨.ref _,_,I.lnew (t':=s.toks) (r.rep k.toNat) (by rw [len_rep,Nat.mul_comm]; exact hz),rfl,q _ I.fresh⟩
end
section
variable {prog:Program} {w:World} {A:Around} {E:Value→Shared→Prop} {s:Shared}
end
section
variable {X:Cx}
end
end L2
namespace Att
open PySem PySem.W PySem.Calls PyProof.Rows
theorem oO {P:Params} {h:Heap}:∀ (ns:List Int) (vs:List Value),WellAll P h vs (ns.map WData.int)→IntsAre vs ns:=by
  intro ns
  induction ns with
  | nil =>
    intro vs w
    rw [List.map_nil] at w
    cases w
    exact .nil
  | cons n ns ih =>
    intro vs w
    rw [List.map_cons] at w
    cases w with
    | cons a b =>
      cases a
      exact .cons _ _ (ih _ b)
theorem zf {l:OpenLaw} {n:Nat} (hn:l.most=some n) {P:Params} {h:Heap} {args:List WData} {vals:List Value}
    (hpre:l.row.toRowW.claim.pre args=true) (hwl:WellAll P h vals args) :
    ∃ a vs ns,vals=[Value.ref a]∧args=[WData.list (ns.map WData.int)]∧h.get? a=some { cls:=.type "list",data:=.seq vs.toArray }∧IntsAre vs ns∧ns.length≤n:=by
  have hsh:WShape.hasAll [] args [.list .int]=true:=(pre_splitW hpre).1
  have hc:l.pre.holds [] { args:=args }=true:=(pre_splitW hpre).2
  obtain ⟨d,r,rfl,h1,h2⟩:=hasAllW_cons hsh
  obtain rfl:=hasAllW_nil h2
  obtain ⟨xs,rfl,h3⟩:=hasW_list h1
  obtain ⟨ns,rfl⟩:=items_int h3
  have hlen:ns.length≤n:=by
    unfold OpenLaw.pre at hc
    have h4:(WTm.not (.lt (.lit (.int (n:Int))) (.len (.arg 0)))).holds [] { args:=[.list (ns.map .int)] }=true:=by
      have h4:=(holds_andW hc).1
      rw [hn] at h4
      exact h4
    have h5:=condW_of h4 (w_not (w_lt w_lit (w_len_list (w_arg rfl))))
    rw [List.length_map] at h5
    refine Nat.le_of_not_lt fun q=>?_
    have q':(n:Int) < ((ns.length:Nat):Int):=by omega
    first
      | (rw [decide_eq_true q'] at h5; exact absurd h5 (by decide))
      | (simp at h5; omega)
  cases hwl with
  | cons w1 w2 =>
    cases w2
    cases w1 with
    | list ho hall=>exact ⟨_,_,ns,rfl,rfl,ho,oO ns _ hall,hlen⟩
theorem yK (l:OpenLaw) (args:List WData):l.row.toRowW.claim.post args (.bool true) args=true :=
  postW_of (r:=l.row.toRowW) (X:=(true == true))
    (show WShape.has [] (.bool true) .bool=true by first | rfl | decide | simp [WShape.has,WShape.arms,WShape.armsAll])
    (show (WTm.eq .res (.lit (.bool true))).value [] { args:=args,res:=some (.bool true),after:=args }=some (.bool (true == true)) from w_eq_bool (w_res rfl) w_lit) rfl
theorem uH {l:OpenLaw} {n:Nat} {q:Program} {loose:List Str} {XP:(Str→Option Value)→Heap→Prop} {YP:World→Heap→Prop} {d:DefRec}
    (hn:l.most=some n) (hdf:d.params.defaults=[])
    (call:∀ (w:World) (s₀ s₁:Shared) (mg mb:Str→Option Value) (fa:Addr) (o:Obj) (pm cd doc:Value) (a:Addr) (vs:List Value) (ns:List Int),
      Ground q loose [] XP w s₀ mg mb s₁.heap→YP w s₁.heap →
      s₁.heap.get? fa=some o→o.data=.func (docDef d.name d.params d.body d.scope pm cd doc)→s₁.heap.CodeRec cd d.name→mg d.name=some (.ref fa) →
      s₁.heap.get? a=some { cls:=.type "list",data:=.seq vs.toArray }→IntsAre vs ns→ns.length≤n→s₁.gens=#[] →
      codeAny (model l.prog w) callerA (.call (.ref fa) ⟨[.ref a],[]⟩) (fun r s'=>r=.ok (.ret (.bool true))∧OldK s₁.heap s'.heap∧s'.os=s₁.os∧AllBare s'.gens) s₁) :
    WalkO q loose XP YP l.row.toRowW d [] (fun f vs=>PySem.call f vs):=by
  intro w s₀ s₁ mg mb G Y fa o pm cd doc dV kV ho hd hcd hD hmg hg args vals as hpre hlay hrd hwl hlo
  obtain rfl:dV=.none:=Dflts.none hD hdf
  obtain rfl:kV=.none:=Dflts.noKw hD
  obtain ⟨a,vs,ns,rfl,rfl,hobj,hints,hlen⟩:=zf hn hpre hwl
  refine enter_call (codeAny_mono (call w s₀ s₁ mg mb fa o pm cd doc a vs ns G Y ho (fd_plain hd) hcd hmg hobj hints hlen hg) fun r s' hq=>?_)
  obtain ⟨rfl,h2,h3,h4⟩:=hq
  exact ⟨.inl ⟨.bool true,.bool true,[],rfl,fun _=>rfl,.bool true,yK l _,fun _=>⟨List.Pairwise.nil,fun _ hm=>(nomatch hm)⟩⟩,h2,h3,h4⟩
section
variable {prog:Program} {w:World} {A:Around} {E:Value→Shared→Prop} {s:Shared} {K:Frag}
end
end Att
namespace L2
open PySem PySem.Spec PyProof.Rows
theorem rh:∀ {vs:List Value} {ns:List Int},IntsAre vs ns→Vals (ns.map V.int) vs
  | _,_,.nil=>.nil
  | _,_,.cons n t h=>.cons ⟨t,rfl⟩ (rh h)
noncomputable def Ez (H:Hp):Prop:=∀ b,H b=none∨(∃ o xs,H b=some (.frz o (.lst xs)))∨∃ q,H b=some (.tbl q)
noncomputable def p0 (K:PySem.W.Frag) (h:Heap):Prop:=(∀ P q,TabOf K P q→h.get? P=some { cls:=.none,data:=.fields #[] }∧K.lookup P=none∧isCodeTable h P)∧∀ P q q',TabOf K P q→TabOf K P q'→q=q'
section
open Classical
noncomputable def lh (K:PySem.W.Frag):Hp:=fun b=>if h:∃ q,TabOf K b q then some (.tbl h.choose) else none
theorem dH (K:PySem.W.Frag) (b:Addr):lh K b=none∨∃ q,TabOf K b q∧lh K b=some (.tbl q):=by
  unfold lh
  split
  · rename_i h; exact .inr ⟨_,h.choose_spec,rfl⟩
  · exact .inl rfl
theorem rA {K:PySem.W.Frag} {h:Heap} (hT:p0 K h) {P:Addr} {q:Str} (t:TabOf K P q):lh K P=some (.tbl q):=by
  rcases dH K P with e | ⟨q',t',e⟩
  · unfold lh at e
    rw [dif_pos ⟨q,t⟩] at e; cases e
  · rw [e,hT.2 P q q' t t']
end
theorem law_call {P:Program} {w:World} {K:PySem.W.Frag} {mg mb:Str→Option Value} {CX:CXT} {k:Nat} {fa a:Addr} {fd:FuncData} {x:Str} {sp:Sp} {s₁:Shared} {vs:List Value} {ns:List Int}
    (KX:K.In s₁.heap) (hns:s₁.heap.Ns mainGlobals mg) (hb:s₁.heap.Ns builtinsNs mb) (hbb:∀ x:Str,x≠"__name__"→mb x=bootBuiltins x) (hlim:s₁.heap.NoLimit) (hg:s₁.gens=#[])
    (ha:s₁.heap.get? a=some { cls:=.type "list",data:=.seq vs.toArray }) (hi:IntsAre vs ns) (hl:ns.length≤sizeLine) (hr:fm k callerA)
    (F:∀ base:Heap,K.In base→base.Ns mainGlobals mg→jk P w K mg base CX k fa fd [x] sp) (hbind:∀ (s:Shared) (u:Value),BindsTo s fd ⟨[u],[]⟩ [(x,u)])
    (hsp:∀ H:Hp,Ez H→SqL K H a (ns.map V.int)→sp [.ref a] H (fun v _=>v=.bl true) fun _ _ _=>False)
    (hCX:∀ H e s',CX [] H s₁ (fun _ _ _=>False) e s'→False) (hT:p0 K s₁.heap) :
    codeAny (model P w) callerA (.call (.ref fa) ⟨[.ref a],[]⟩) (fun r s'=>r=.ok (.ret (.bool true))∧OldK s₁.heap s'.heap∧s'.os=s₁.os∧AllBare s'.gens) s₁:=by
  have rv:=rh hi
  have lenV:=hi.length
  -- from an abstract heap in which nothing but the script may be tracked
  have core:∀ H:Hp,Ez H→SqL K H a (ns.map V.int)→HOk P w H s₁.heap→(∀ b,H b≠none→b=a∨∃ q,TabOf K b q)→(H a≠none→K.lookup a=none)→(∀ P q,TabOf K P q→H P=some (.tbl q)) →
      codeAny (model P w) callerA (.call (.ref fa) ⟨[.ref a],[]⟩) (fun r s'=>r=.ok (.ret (.bool true))∧OldK s₁.heap s'.heap∧s'.os=s₁.os∧AllBare s'.gens) s₁:=by
    intro H hO hS hok hA hK hTb
    have base_of:∀ {b:Addr} {o:Obj},s₁.heap.get? b=some o→H b=none→(tF s₁.heap H).get? b=some o:=fun e n=>AQ e n
    have noA:∀ {b:Addr} {o:Obj} {es:Array DictEntry} {ep:Nat},s₁.heap.get? b=some o→o.data=.dict es ep→H b=none:=fun {b o es ep} e d=>by
      cases q:H b with
      | none=>rfl
      | some u =>
        rcases hA b (by rw [q]; simp) with e' | ⟨qq,e'⟩
        case inr=>rw [(hT.1 b qq e').1] at e; cases e; cases d
        subst e'
        rw [ha] at e; cases e
        have d':Data.seq vs.toArray _=Data.dict es ep:=d
        cases d'
    have nsK:∀ {b:Addr} {m:Str→Option Value},s₁.heap.Ns b m→(tF s₁.heap H).Ns b m:=fun {b m} qz2=>(by obtain ⟨o,es,ep,e,d,r⟩:=qz2; exact ⟨o,es,ep,base_of e (noA e d),d,r⟩)
    have hKb:K.In (tF s₁.heap H):=fun b o e=>base_of (KX b o e) (by
      cases q:H b with
      | none=>rfl
      | some u =>
        rcases hA b (by rw [q]; simp) with e' | ⟨qq,e'⟩
        case inr=>rw [(hT.1 b qq e').2.1] at e; cases e
        subst e'
        rw [hK (by rw [q]; simp)] at e; cases e)
    have hM:Mod K mg (tF s₁.heap H):=⟨hKb,nsK hns,⟨mb,nsK hb,hbb⟩,let ⟨mc,h1,h2⟩:=hlim; ⟨mc,nsK h1,h2⟩⟩
    have e0:wd P w K mg (tF s₁.heap H) callerA [] s₁ H:=⟨rfl,hM,fun b o e=>B3 e,Nat.le_of_eq (yS _ _),trivial,fun b hb=>absurd (show b∈([]:List Addr) from hb) (by simp),hok,.of_eq hg,hTb⟩
    refine codeAny_mono ((F _ hKb (nsK hns)).run callerA [] s₁ H ⟨[.ref a],[]⟩ [.ref a] [.ref a] _ _ hr e0 (hbind s₁ (.ref a)) (.cons rfl .nil) (hsp H hO hS)) fun r s' h=>?_
    cases r with
    | error e=>exact (hCX H e s' h).elim
    | ok fl =>
      cases fl with
      | next=>exact False.elim h
      | brk=>exact False.elim h
      | cont=>exact False.elim h
      | ret u =>
        obtain ⟨v,H',os,bare,un,hok',r',q⟩:=h
        have q':v=.bl true:=q
        subst q'
        obtain rfl:u=Value.bool true:=r'
        have old:∀ b o,s₁.heap.get? b=some o→s'.heap.get? b=some o∨(isCodeTable s₁.heap b∧o.cls=.none∧∃ vs more,o.data=.fields vs∧s'.heap.get? b=some { o with data:=.fields (vs++more) }):=fun b o e=>?old
        case old =>
         cases q:H b with
         | none=>exact .inl <| un.keep b o e q (by intro z; exact absurd (show b∈([]:List Addr) from z) (by simp)) (by simp)
         | some u =>
          rcases hO b with z | ⟨ob,xs,z⟩ | ⟨qq,z⟩
          · rw [q] at z; cases z
          · have z2:=un.frzs b ob _ z
            obtain ⟨e1,_⟩:=hok b _ z
            obtain ⟨e2,_⟩:=hok' b _ z2
            rw [e] at e1; cases e1
            exact .inl e2
          · have z2:=un.tbls b qq z
            obtain ⟨ps,e2,_⟩:=hok' b _ z2
            rcases hA b (by rw [z]; simp) with e' | ⟨q2,e'⟩
            · obtain ⟨ps0,e3,_⟩:=hok b _ z
              rw [e'] at e3; rw [ha] at e3; cases e3
            · obtain ⟨e3,_,e4⟩:=hT.1 b q2 e'
              rw [e] at e3; cases e3
              exact .inr ⟨e4,rfl,#[],ps,rfl,by simpa using e2⟩
        exact ⟨rfl,⟨fun b o e=>(old b o e).imp id fun z=>.inl z,fun b o e=>by rcases old b o e with z | ⟨_,_,_,_,_,z⟩ <;> exact ⟨_,z⟩⟩,os,bare⟩
  have tok:∀ b q,TabOf K b q→fD P w (fun _=>none) s₁.heap b (.tbl q):=fun b q t=>⟨#[],(hT.1 b q t).1,trivial,fun pos cv z=>nomatch z⟩
  have tokH:∀ (H:Hp) b q,TabOf K b q→fD P w H s₁.heap b (.tbl q):=fun H b q t=>⟨#[],(hT.1 b q t).1,trivial,fun pos cv z=>nomatch z⟩
  have na:∀ q,¬ TabOf K a q:=fun q t=>by have:=(hT.1 a q t).1; rw [ha] at this; cases this
  cases hk:K.lookup a with
  | some o =>
    have e:=KX a o hk
    rw [ha] at e
    cases e
    refine core (lh K) (fun b=>(dH K b).imp id fun qz0=>(by obtain ⟨q,_,e⟩:=qz0; exact .inr ⟨q,e⟩)) (.inr ⟨_,vs.toArray,_,hk,rfl,rfl,rfl,by rw [List.size_toArray,lenV]; exact hl,by simpa using rv⟩) (fun b u z=>?_) (fun b z=>?_) (fun z=>?_) fun P q t=>rA hT t
    · rcases dH K b with e | ⟨q,t,e⟩
      · rw [z] at e; cases e
      · rw [z] at e; cases e; exact tokH _ b q t
    · rcases dH K b with e | ⟨q,t,e⟩
      · exact absurd e z
      · exact .inr ⟨q,t⟩
    · rcases dH K a with e | ⟨q,t,e⟩
      · exact absurd e z
      · exact absurd t (na q)
  | none =>
    have eT:∀ b,b≠a→(fun b=>if b=a then some (HO.frz { cls:=.type "list",data:=.seq vs.toArray } (.lst (ns.map V.int))) else lh K b) b=lh K b:=fun b h=>if_neg h
    have eA:(fun b=>if b=a then some (HO.frz { cls:=.type "list",data:=.seq vs.toArray } (.lst (ns.map V.int))) else lh K b) a=some (HO.frz { cls:=.type "list",data:=.seq vs.toArray } (.lst (ns.map V.int))):=if_pos rfl
    refine core (fun b=>if b=a then some (.frz { cls:=.type "list",data:=.seq vs.toArray } (.lst (ns.map V.int))) else lh K b) (fun b=>?_) (.inl (.inr ⟨{ cls:=.type "list",data:=.seq vs.toArray },if_pos rfl⟩)) (fun b u z=>?_) (fun b z=>?_) (fun _=>hk) fun P q t=>?_
    · by_cases hb:b=a
      · exact .inr (.inl ⟨_,_,if_pos hb⟩)
      · rw [eT b hb]; exact (dH K b).imp id fun qz0=>(by obtain ⟨q,_,e⟩:=qz0; exact .inr ⟨q,e⟩)
    · by_cases hb:b=a
      · subst hb
        rw [eA] at z; cases z
        exact ⟨ha,by rw [List.length_map]; exact hl,vs,_,rv,ha⟩
      · rw [eT b hb] at z
        rcases dH K b with e | ⟨q,t,e⟩
        · rw [z] at e; cases e
        · rw [z] at e; cases e; exact tokH _ b q t
    · by_cases hb:b=a
      · exact .inl hb
      · rcases dH K b with e | ⟨q,t,e⟩
        · exact absurd ((if_neg hb).trans e) z
        · exact .inr ⟨q,t⟩
    · exact (if_neg (fun z=>na q (by rw [← z]; exact t))).trans (rA hT t)
end L2
namespace L2
open PySem PySem.Spec PyProof.Rows
noncomputable abbrev KOf {K:PySem.W.Frag} {h:Heap} (_:K.In h):PySem.W.Frag:=K
theorem xH {l:PySem.W.OpenLaw} {n k:Nat} {q:Program} {loose:List Str} {XP:(Str→Option Value)→Heap→Prop} {YP:World→Heap→Prop} {d:DefRec} {K:Params→PySem.W.Frag} {CX:World→CXT} {sp:World→Sp} {x:Str}
    (hn:l.most=some n) (hn2:n≤sizeLine) (hdf:d.params.defaults=[]) (hr:fm k callerA)
    (hY:∀ (w:World) (h:Heap),YP w h→(K w.params).In h)
    (F:∀ (w:World) (mg:Str→Option Value) (fa:Addr) (h:Heap),(K w.params).In h→h.Ns mainGlobals mg→mg d.name=some (.ref fa) →
      ∃ fd:FuncData,(∀ (s:Shared) (u:Value),BindsTo s fd ⟨[u],[]⟩ [(x,u)]) ∧
        ∀ base:Heap,(K w.params).In base→base.Ns mainGlobals mg→jk l.prog w (K w.params) mg base (CX w) k fa fd [x] (sp w))
    (hsp:∀ (w:World) (H:Hp) (a:Addr) (ns:List Int),ns.length≤n→Ez H→SqL (K w.params) H a (ns.map V.int)→sp w [.ref a] H (fun v _=>v=.bl true) fun _ _ _=>False)
    (hCX:∀ (w:World) (H:Hp) (s:Shared) (e:Value) (s':Shared),CX w [] H s (fun _ _ _=>False) e s'→False) (hTb:∀ (w:World) (h:Heap) (loose':List Str) (mean:ExcName→Option Value) (mg mb:Str→Option Value),PyProof.Rows.Top q loose' mean mg mb h→(K w.params).In h→p0 (K w.params) h) :
    PySem.W.WalkO q loose XP YP l.row.toRowW d [] (fun f vs=>PySem.call f vs):=by
  refine Att.uH hn hdf fun w s₀ s₁ mg mb fa o pm cd doc a vs ns G Y ho hd hcd hmg hobj hints hlen hg=>?_
  have KX:=hY w _ Y
  obtain ⟨fd,hb,hF⟩:=F w mg fa _ KX G.T.g hmg
  exact law_call KX G.T.g G.T.b G.T.builtins G.T.nolimit hg hobj hints (Nat.le_trans hlen hn2) hr hF hb (fun H hO hS=>hsp w H a ns hlen hO hS) (fun H e s'=>hCX w H s₁ e s') (hTb w _ _ _ _ _ G.T KX)
end L2
namespace L2
open PySem PySem.Spec PyProof.Rows
noncomputable def inClass (s:Stmt) (j:Nat):Stmt:=match s with
  | .ClassDef _ _ _ body _ _ _ _ _ _ _=>body.getD j (.Pass ⟨0,0,0,0⟩)
  | _=>.Pass ⟨0,0,0,0⟩
noncomputable def g7 (s:Stmt):Arguments:=match s with
  | .FunctionDef _ a _ _ _ _ _ _ _ _=>a
  | _=>{ posonlyargs:=[],args:=[],vararg:=none,kwonlyargs:=[],kw_defaults:=[],kwarg:=none,defaults:=[] }
noncomputable def eR (s:Stmt):List Stmt:=match s with
  | .FunctionDef _ _ b _ _ _ _ _ _ _=>b
  | _=>[]
noncomputable def aG (s:Stmt):Scope:=match s with
  | .FunctionDef _ _ _ _ _ _ sc _ _ _=>sc
  | _=>{ kind:=.function,names:=[],isGenerator:=false,isCoroutine:=false }
noncomputable abbrev CX0:CXT:=fun _ _ _ _ _ _=>False
noncomputable abbrev E0:XK:=fun _ _ _=>False
theorem Fp {X:Cx}:Passes CX0 X E0:=fun _ _ _ _ _ _ _ h=>h.elim
structure Fun (K:PySem.W.Frag) (x qual:Str) (st:Stmt) (f:Addr) (fd:FuncData):Prop where
  ex:∃ (oc:Value) (od:Option Addr) (kV doc pm:Value) (an:Option Addr) (cdv ct:Value) (osl:Array (Option Value)),
    fd=PySem.W.fnOf x qual (g7 st) (eR st) (aG st) .none kV doc pm an cdv ct∧K.lookup f=some ⟨oc,od,.func fd,osl⟩∧PySem.W.codeIn K cdv qual=true
  kp:PySem.W.keepIn K (.ref f)=true
section
variable {P:Program} {w:World} {K:PySem.W.Frag} {mg:Str→Option Value} {base:Heap}
theorem Fun.ok {x qual:Str} {st:Stmt} {f:Addr} {fd:FuncData} {N ps:List Str} {k:Nat} {sp:Sp} (F:Fun K x qual st f fd) (S:bb N ps (aG st)) (len:∀ vs H Q E,sp vs H Q E→vs.length=ps.length)
    (hbody:∀ (cdv:Value) (A:Around) (outer:List Env) (s:Shared) (H:Hp) (vs:List V) (Q:VK) (E:XK),fm k (A.deeper (envOfC qual (aG st) s.heap.objs.size f cdv))→sp vs H Q E →
      ∃ t,PSs (iX CX0 P w K mg base N qual (aG st) f cdv A outer s H E).nox (eR st) t∧t { nx:=fun _ H'=>Q .non H',rt:=Q } (start N vs) H):jk P w K mg base CX0 (k + 1) f fd ps sp:=by
  obtain ⟨oc,od,kV,doc,pm,an,cdv,ct,osl,rfl,lk,hcd⟩:=F.ex
  refine Dh lk hcd S len fun A outer s H vs Q E hr hsp=>?_
  obtain ⟨t,h,q⟩:=hbody cdv A outer s H vs Q E hr hsp
  exact ⟨t,h.nox,q⟩
theorem Fun.binds {x qual:Str} {st:Stmt} {f:Addr} {fd:FuncData} {ps:List Str} (F:Fun K x qual st f fd)
    (h:∀ (kV doc pm:Value) (an:Option Addr) (cdv ct:Value) (us:List Value),us.length=ps.length→bindArgs (PySem.W.fnOf x qual (g7 st) (eR st) (aG st) .none kV doc pm an cdv ct) ⟨us,[]⟩=pure (ps.zip us)):Binds K fd ps []:=by
  obtain ⟨oc,od,kV,doc,pm,an,cdv,ct,osl,rfl,lk,hcd⟩:=F.ex
  exact .all (h kV doc pm an cdv ct)
theorem Aw {x qual:Str} {st:Stmt} {f:Addr} {oc:Value} {od an:Option Addr} {osl:Array (Option Value)} {kV doc pm cdv ct:Value} (l:K.lookup f=some ⟨oc,od,.func (PySem.W.fnOf x qual (g7 st) (eR st) (aG st) .none kV doc pm an cdv ct),osl⟩)
    (c:PySem.W.codeIn K cdv qual=true) (k:PySem.W.keepIn K (.ref f)=true):Fun K x qual st f (PySem.W.fnOf x qual (g7 st) (eR st) (aG st) .none kV doc pm an cdv ct):=⟨⟨oc,od,kV,doc,pm,an,cdv,ct,osl,rfl,l,c⟩,k⟩
end
section
variable {X:Cx}
theorem pv (i:Nat) {x:Str} {pos:Pos} (hN:X.N[i]?=some x:=by rfl) (hv:Vis X.env.scope x:=by first | exact Or.inl rfl | exact Or.inr (Or.inl rfl) | exact Or.inr (Or.inr rfl)) (hd:(x == ("__debug__":Str))=false:=by decide)
    (hcd:(x == ("__classdict__":Str))=false:=by decide):PE X (.Name x pos) (Fz i):=mX hN hv hd hcd
end
theorem FK {c A B:Prop} [Decidable c] (h1:c→A) (h2:¬ c→B):if c then A else B:=by
  by_cases h:c
  · rw [if_pos h]
    exact h1 h
  · rw [if_neg h]
    exact h2 h
noncomputable def aM (H H':Hp):Prop:=∀ b o,H b=some o→H' b=some o
theorem aM.refl (H:Hp):aM H H:=fun _ _ h=>h
theorem aM.trans {H H1 H2:Hp} (a:aM H H1) (b:aM H1 H2):aM H H2:=fun c o h=>b c o (a c o h)
theorem aM.free {H H':Hp} (e:aM H H') {l:Addr} (h:H' l=Option.none):H l=Option.none:=by
  cases q:H l with
  | none=>rfl
  | some o =>
    rw [e l o q] at h
    cases h
theorem aM.seq {K:PySem.W.Frag} {H H':Hp} {a:Addr} {xs:List V} (e:aM H H') (h:SqL K H a xs):SqL K H' a xs:=by
  rcases h with (h | ⟨o,h⟩) | h
  · exact .inl (.inl (e _ _ h))
  · exact .inl (.inr ⟨o,e _ _ h⟩)
  · exact .inr h
end L2
set_option maxRecDepth 100000
set_option maxHeartbeats 4000000
namespace L2
open PySem PySem.Spec PyProof.Rows
noncomputable def oJ:List (Str × NameKind)→List (Str × Addr)→List (Str × Addr)→List (Str × Addr)
  | [],_,acc=>acc
  | (n,k)::r,cells,acc=>oJ r cells (if k == .free then (match cells.lookup n with | some c=>(n,c)::acc | none=>acc) else acc)
theorem jJ (env:Env):∀ (names:List (Str × NameKind)) (acc:List (Str × Addr)),(∀ y∈names,y.2=.free→∃ c,env.cells.lookup y.1=some c) →
    (forIn names acc (fun (x:Str × NameKind) (cs:List (Str × Addr))=>match x with
      | (name,kind)=>if (kind == NameKind.free)=true then do let c ← cellOf env name; pure (ForInStep.yield ((name,c)::cs)) else pure (ForInStep.yield cs)):Sem (List (Str × Addr)))=pure (oJ names env.cells acc)
  | [],acc,_=>rfl
  | (n,k)::r,acc,h=>by
    rw [List.forIn_cons]
    have hr:∀ y∈r,y.2=.free→∃ c,env.cells.lookup y.1=some c:=fun y hy=>h y (List.mem_cons_of_mem _ hy)
    dsimp only [oJ]
    by_cases hk:k=.free
    · subst hk
      obtain ⟨c,hc⟩:=h (n,.free) List.mem_cons_self rfl
      have hc':env.cells.lookup n=some c:=hc
      have e:cellOf env n=pure c:=by unfold cellOf; rw [hc']
      rw [if_pos (show (NameKind.free == NameKind.free)=true by decide),if_pos (show (NameKind.free == NameKind.free)=true by decide),e,hc']
      exact jJ env r ((n,c)::acc) hr
    · have hb:¬ (k == NameKind.free)=true:=by simpa using hk
      rw [if_neg hb,if_neg hb]
      exact jJ env r acc hr
theorem oB {scope:Scope} {env:Env} (h:∀ y∈scope.names,y.2=.free→∃ c,env.cells.lookup y.1=some c):closureFor scope env=pure (oJ scope.names env.cells []):=by
  have e:=jJ env scope.names [] h
  unfold closureFor
  rw [← bind_pure (forIn scope.names [] _)] at e
  exact e
theorem vc:∀ (names:List (Str × NameKind)) (cells acc:List (Str × Addr)) (x:Str) (c:Addr),(∀ x c,acc.lookup x=some c→cells.lookup x=some c)→(oJ names cells acc).lookup x=some c→cells.lookup x=some c
  | [],_,_,x,c,h,e=>h x c e
  | (n,k)::r,cells,acc,x,c,h,e=>by
    refine vc r cells _ x c (fun y d hy=>?_) e
    split at hy
    · split at hy
      · rename_i c' hc'
        rw [List.lookup_cons] at hy
        by_cases hyn:(y == n)=true
        · rw [hyn] at hy
          have hy':y=n:=eq_of_beq hyn
          subst hy'
          cases hy
          exact hc'
        · have:(y == n)=false:=by simpa using hyn
          rw [this] at hy
          exact h y d hy
      · exact h y d hy
    · exact h y d hy
theorem qX:∀ (names:List (Str × NameKind)) (cells acc:List (Str × Addr)) (x:Str),(∃ c,acc.lookup x=some c)→∃ c,(oJ names cells acc).lookup x=some c
  | [],_,_,_,h=>h
  | (n,k)::r,cells,acc,x,h=>by
    refine qX r cells _ x ?_
    split
    · split
      · rw [List.lookup_cons]
        cases (x == n)
        · exact h
        · exact ⟨_,rfl⟩
      · exact h
    · exact h
theorem qr:∀ (names:List (Str × NameKind)) (cells acc:List (Str × Addr)) (x:Str) (c:Addr),(x,NameKind.free)∈names→cells.lookup x=some c→∃ c,(oJ names cells acc).lookup x=some c
  | [],_,_,_,_,h,_=>by simp at h
  | (n,k)::r,cells,acc,x,c,h,e=>by
    rcases List.mem_cons.mp h with h | h
    · injection h with h1 h2
      subst h1; subst h2
      refine qX r cells _ x ?_
      rw [if_pos (by decide),e]
      exact ⟨c,by simp [List.lookup_cons]⟩
    · exact qr r cells _ x c h e
noncomputable def blk (X:Cx) (M:List Str) (scope:Scope) (own:List Str) (C:Addr) (s2:Shared) (H2:Hp) (fp:List Addr):Cx where
  prog:=X.prog
  w:=X.w
  K:=X.K
  mg:=X.mg
  base:=X.base
  A:=X.A
  N:=M++own
  s₀:=s2
  H₀:=H2
  env:=compEnvC scope (oJ scope.names X.env.cells []) C X.env
  outer:=X.stack
  stack:=X.stack
  ex:=fp
  fn:=fun _=>false
  calm:=X.calm
  pn:=[]
  xe:=fun _ _=>False
structure kH (X:Cx) (M:List Str) (scope:Scope) (own:List Str):Prop where
  kind:scope.kind=.function
  nocell:∀ y∈scope.names,y.2≠.cell
  names:∀ y∈scope.names,y.2=.local→scope.names.lookup y.1=some .local
  free:∀ y∈scope.names,y.2=.free→Vis X.env.scope y.1∧X.env.scope.names.lookup y.1≠some .local
  own:∀ x∈own,scope.names.lookup x=some .local
  outer:∀ p∈X.N.zip M,(p.1=p.2∧scope.names.lookup p.2≠some .local)∨scope.names.lookup p.2=none
  len:M.length=X.N.length
noncomputable def ql (N M:List Str) (osc scope:Scope) (own:List Str):Bool :=
  (scope.kind == .function) && scope.names.all (fun y=>y.2 != .cell) && scope.names.all (fun y=>y.2 != .local || scope.names.lookup y.1 == some .local) &&
  scope.names.all (fun y=>y.2 != .free || (osc.names.lookup y.1 == some .cell || osc.names.lookup y.1 == some .free)) &&
  own.all (fun x=>scope.names.lookup x == some .local) && (N.zip M).all (fun p=>(p.1 == p.2 && scope.names.lookup p.2 != some .local) || scope.names.lookup p.2 == none) && (M.length == N.length)
theorem kH.of {X:Cx} {M:List Str} {scope:Scope} {own:List Str} (h:ql X.N M X.env.scope scope own=true):kH X M scope own:=by
  unfold ql at h
  simp only [Bool.and_eq_true,List.all_eq_true,Bool.or_eq_true,bne_iff_ne,beq_iff_eq,ne_eq] at h
  obtain ⟨⟨⟨⟨⟨⟨h1,h2⟩,h3⟩,h4⟩,h5⟩,h6⟩,h7⟩:=h
  refine ⟨h1,h2,fun y hy e=>(h3 y hy).resolve_left fun z=>z e,fun y hy e=>?_,h5,h6,h7⟩
  rcases (h4 y hy).resolve_left fun z=>z e with q | q
  · exact ⟨.inr (.inl q),by rw [q]; intro z; cases z⟩
  · exact ⟨.inr (.inr q),by rw [q]; intro z; cases z⟩
theorem eP {env:Env}:∀ {names:List (Str × NameKind)} {x:Str} {k:NameKind},
    (names.map fun (n,k)=>if (k == NameKind.free && env.scope.kind == .function && env.kindOf n == some .cell) then (n,NameKind.cell) else (n,k)).lookup x=some k→(k=.cell∨k=.free)→(∀ y∈names,y.2≠.cell)→(x,NameKind.free)∈names
  | [],_,_,h,_,_=>by simp at h
  | (n,k')::r,x,k,h,hk,hn=>by
    have hr:∀ y∈r,y.2≠NameKind.cell:=fun y hy=>hn y (List.mem_cons_of_mem _ hy)
    rw [List.map_cons,List.lookup_cons] at h
    by_cases hc:(k' == NameKind.free && env.scope.kind == .function && env.kindOf n == some .cell)=true
    · have hf:k'=.free:=by
        have:=hc
        simp only [Bool.and_eq_true] at this
        exact eq_of_beq this.1.1
      simp only [if_pos hc] at h
      cases hx:x == n with
      | true =>
        have:x=n:=eq_of_beq hx
        subst this; subst hf
        exact List.mem_cons_self
      | false =>
        rw [hx] at h
        exact List.mem_cons_of_mem _ (eP h hk hr)
    · simp only [if_neg hc] at h
      cases hx:x == n with
      | true =>
        rw [hx] at h
        have e:k'=k:=Option.some.inj h
        have:x=n:=eq_of_beq hx
        subst this; subst e
        rcases hk with hk | hk
        · exact absurd hk (hn _ List.mem_cons_self)
        · subst hk; exact List.mem_cons_self
      | false =>
        rw [hx] at h
        exact List.mem_cons_of_mem _ (eP h hk hr)
theorem eU {env:Env}:∀ {names:List (Str × NameKind)} {x:Str} {k:NameKind},
    (names.map fun (n,k)=>if (k == NameKind.free && env.scope.kind == .function && env.kindOf n == some .cell) then (n,NameKind.cell) else (n,k)).lookup x=some k→(∃ k0,names.lookup x=some k0∧(k=k0∨(k=.cell∧k0=.free)))
  | [],_,_,h=>by simp at h
  | (n,k')::r,x,k,h=>by
    rw [List.map_cons,List.lookup_cons] at h
    rw [List.lookup_cons]
    by_cases hc:(k' == NameKind.free && env.scope.kind == .function && env.kindOf n == some .cell)=true
    · have hf:k'=.free:=by
        have:=hc
        simp only [Bool.and_eq_true] at this
        exact eq_of_beq this.1.1
      simp only [if_pos hc] at h
      cases hx:x == n with
      | true =>
        rw [hx] at h
        exact ⟨k',rfl,.inr ⟨(Option.some.inj h).symm,hf⟩⟩
      | false =>
        rw [hx] at h
        exact eU h
    · simp only [if_neg hc] at h
      cases hx:x == n with
      | true =>
        rw [hx] at h
        exact ⟨k',rfl,.inl (Option.some.inj h).symm⟩
      | false =>
        rw [hx] at h
        exact eU h
section
variable {X:Cx} {M:List Str} {pins:List (Addr × Obj)} {σ:St} {H2:Hp} {s2:Shared} {scope:Scope} {own:List Str} {fp:List Addr}
theorem Inv.blk {h1:Heap} {t':Nat} {C D:Addr} (I:Inv X pins σ H2 s2) (B:kH X M scope own) (hf:∀ b∈fp,o8 X pins H2 b) (hfs:∀ b∈fp,b < s2.heap.objs.size)
    (hD:D=s2.heap.objs.size) (hC:C=s2.heap.objs.size + 1) (hl:h1.get? D=some { cls:=.type "list",data:=.seq ([]:List Value).toArray 0 })
    (hn:h1.Ns C (fun _=>none)) (hk:∀ b o,s2.heap.get? b=some o→h1.get? b=some o) :
    Inv (L2.blk X M scope own C s2 H2 fp) [] (σ++List.replicate own.length none) (upd H2 D (.lst [])) { s2 with heap:=h1,toks:=t' }:=by
  have hcl:∀ x c,(oJ scope.names X.env.cells []).lookup x=some c→X.env.cells.lookup x=some c:=fun x c e=>vc _ _ _ _ _ (fun _ _ z=>by simp at z) e
  have hlt:∀ x c,(oJ scope.names X.env.cells []).lookup x=some c→c < s2.heap.objs.size:=fun x c e=>by
    obtain ⟨v,q⟩:=I.cell x c (hcl x c e)
    exact q.lt
  have freeD:H2 D=none:=I.hok.fresh (by rw [hD]; exact Nat.le_refl _)
  have freeC:H2 C=none:=I.hok.fresh (by rw [hC]; exact Nat.le_succ _)
  have hCD:C≠D:=by rw [hC,hD]; exact Nat.succ_ne_self _
  have hu:Un (frs X.stack) fp H2 (upd H2 D (.lst [])) s2.heap h1:=Un.laid hk (by rw [hD]; exact Nat.le_refl _) freeD
  refine ⟨⟨I.ok.mod,?_,I.ok.glob,I.ok.blt,?_,?_,?_,?_,I.ok.hd,I.ok.frames,.inl rfl,?_,I.bs,Nat.le_trans I.ok.bsz I.sz,?_,?_,I.stack,I.stkFree⟩,rfl,I.bare,hu,?_,?_,?_,?_,?_,?_,?_,fun P q t=>hu.tbls P q (I.tab P q t)⟩
  · exact B.kind
  · show s2.heap.objs.size≤C
    rw [hC]; exact Nat.le_succ _
  · intro x y c e1 e2
    exact I.ok.inj x y c (hcl x c e1) (hcl y c e2)
  · intro x hx
    have hm:(x,NameKind.free)∈scope.names:=by
      rcases hx with hx | hx
      · exact eP hx (.inl rfl) B.nocell
      · exact eP hx (.inr rfl) B.nocell
    obtain ⟨hv,hnl⟩:=B.free _ hm rfl
    have hh:X.env.kindOf x=some .cell∨X.env.kindOf x=some .free:=by
      rcases hv with z | z | z
      · exact absurd z hnl
      · exact .inl z
      · exact .inr z
    obtain ⟨c,e⟩:=I.ok.has x hh
    exact qr _ _ _ x c hm e
  · intro x c hfn _
    exact absurd (show false=true from hfn) (by decide)
  · intro b hb
    refine ⟨?_,fun x c e z=>?_⟩
    · show b≠C
      rw [hC]
      exact Nat.ne_of_lt (Nat.lt_succ_of_lt (hfs b hb))
    · exact (hf b hb).2.2.2.2.1 x c (hcl x c e) z
  · intro b o e hb
    obtain ⟨_,_,_,f3,_⟩:=hf b hb
    rcases f3 with z | z
    · exact I.ok.noex b o e z
    · exact absurd (Nat.lt_of_lt_of_le (Heap.lt_size (I.ok.bs b o e).1) z) (Nat.lt_irrefl _)
  · intro b hb hs
    obtain ⟨_,f1,f2,_⟩:=hf b hb
    rcases List.mem_cons.mp (I.stkSub b hs) with z | z
    · exact f1 z
    · exact f2 z
  · refine ⟨_,hn,fun i x v e1 e2 e3=>?_⟩
    have hi:i < σ.length:=by
      by_cases hi:i < σ.length
      · exact hi
      · rw [List.getElem?_append_right (by omega),List.getElem?_replicate] at e2
        split at e2 <;> cases e2
    rw [List.getElem?_append_left hi] at e2
    have hiN:i < X.N.length:=by rw [← I.len]; exact hi
    have hiM:i < M.length:=by rw [B.len]; exact hiN
    have e1M:M[i]?=some x:=by
      have:(M++own)[i]?=some x:=e1
      rwa [List.getElem?_append_left hiM] at this
    obtain ⟨y,ey⟩:∃ y,X.N[i]?=some y:=⟨_,List.getElem?_eq_getElem hiN⟩
    have hz:(y,x)∈X.N.zip M:=List.mem_of_getElem? (i:=i) (by rw [List.getElem?_zip_eq_some]; exact ⟨ey,e1M⟩)
    have hin:∃ k,scope.names.lookup x=some k:=by
      rcases e3 with z | z | z
      · obtain ⟨k0,hk0,_⟩:=eU (show _=some NameKind.local from z); exact ⟨k0,hk0⟩
      · obtain ⟨k0,hk0,_⟩:=eU (show _=some NameKind.cell from z); exact ⟨k0,hk0⟩
      · obtain ⟨k0,hk0,_⟩:=eU (show _=some NameKind.free from z); exact ⟨k0,hk0⟩
    have hout:y=x∧scope.names.lookup x≠some .local:=by
      rcases B.outer _ hz with q | q
      · exact q
      · obtain ⟨k,hk⟩:=hin; rw [q] at hk; cases hk
    have e1':X.N[i]?=some x:=by rw [← hout.1]; exact ey
    have hx:(relabel scope X.env).names.lookup x=some .cell∨(relabel scope X.env).names.lookup x=some .free:=by
      rcases e3 with z | z
      · obtain ⟨k0,hk0,hk⟩:=eU (show _=some NameKind.local from z)
        rcases hk with hk | ⟨hk,_⟩
        · subst hk
          exact absurd hk0 hout.2
        · cases hk
      · exact z
    have hm:(x,NameKind.free)∈scope.names:=by
      rcases hx with hx | hx
      · exact eP hx (.inl rfl) B.nocell
      · exact eP hx (.inr rfl) B.nocell
    obtain ⟨hv,hnl⟩:=B.free _ hm rfl
    obtain ⟨m,_,hl'⟩:=I.loc
    obtain ⟨u,r,l⟩:=hl' i x v e1' e2 hv
    refine ⟨u,r,.inr ⟨hx,?_⟩⟩
    rcases l with ⟨z,_⟩ | ⟨_,c,hc,z⟩
    · exact absurd z hnl
    · obtain ⟨c',hc'⟩:=qr scope.names X.env.cells [] x c hm hc
      have:=hcl x c' hc'
      rw [hc] at this
      cases this
      exact ⟨c,hc',z.keeps hk⟩
  · intro x c e
    obtain ⟨v,q⟩:=I.cell x c (hcl x c e)
    exact ⟨v,q.keeps hk⟩
  · show upd H2 D (.lst []) C=none
    rw [bD hCD]; exact freeC
  · intro x c e
    have h1:=hlt x c e
    rw [bD (by rw [hD]; exact Nat.ne_of_lt h1)]
    exact I.freeC x c (hcl x c e)
  · intro p hp
    exact absurd (show p∈([]:List (Addr × Obj))++[] from hp) (by simp)
  · exact I.hok.laid hk (by rw [hD]; exact Nat.le_refl _) ⟨Nat.zero_le _,[],0,.nil,hl⟩
  · show (σ++List.replicate own.length none).length=(M++own).length
    rw [List.length_append,List.length_append,List.length_replicate,I.len,B.len]
theorem Inv.unblk {C:Addr} {σ':St} {H':Hp} {s':Shared} {h':Heap} (I:Inv X pins σ H2 s2) (hf:∀ b∈fp,o8 X pins H2 b) (hCs:s2.heap.objs.size≤C)
    (J:Inv (L2.blk X M scope own C s2 H2 fp) [] σ' H' s') (hs:Heap.SameBut C s'.heap h'):Inv X pins σ H' { s' with heap:=h' }:=by
  have hC:H' C=none:=J.free
  have k:∀ b o,b≠C→s'.heap.get? b=some o→h'.get? b=some o:=fun b o hb e=>(hs.2 b hb).trans e
  have old:∀ b o,s2.heap.get? b=some o→b≠C:=fun b o e=>Nat.ne_of_lt (Nat.lt_of_lt_of_le (Heap.lt_size e) hCs)
  have u:Un (frs X.stack) fp H2 H' s2.heap s'.heap:=J.base
  refine I.call' (s':={ s' with heap:=h' }) (ch:=fp) J.os ?_ ?_ J.bare fun b hb=>?_
  · refine ⟨fun b o e n h1 h2=>k b o (old b o e) (u.keep b o e n h1 h2),fun b o e n h1 h2=>?_,u.free,fun b o e h1=>?_,u.tups,u.frzs,u.tbls⟩
    · obtain ⟨sl,q⟩:=u.slot b o e n h1 h2
      exact ⟨sl,k b _ (old b o e) q⟩
    · obtain ⟨o',q⟩:=u.there b o e h1
      exact ⟨o',k b o' (old b o e) q⟩
  · intro b o e
    refine (J.hok b o e).stay (fun c v hc q=>k c v ?_ q) (fun _ q=>q) fun _ _ q=>q
    rintro rfl
    rcases hc with z | z
    · subst z; rw [hC] at e; cases e
    · rw [hC] at z; cases z
  · obtain ⟨f0,f1,f2,f3,f4,f5⟩:=hf b hb
    exact ⟨f3,f1,f4,f5⟩
end
section
variable {prog:Program} {w:World} {A:Around} {R:Result→Shared→Prop} {s:Shared}
theorem tY {elt target iter:Expr} {ifs:List Expr} {scope:Scope} {pos:Pos} {it acc:Value} {env:Env} (I:Nat→Shared→Prop)
    (turn:∀ n s,I n s→wpAny (model prog w) A (pyNext it) (fun r s₁=>match r with
      | none=>R (.ok .next) s₁
      | some v=>wpAny (model prog w) A (letOwnedTupleGo target it v) (fun _ s1'=>wpAny (model prog w) A (assign target env v) (fun _ s₂ =>
          wpAny (model prog w) A (forIn ifs true fun c r=>if r=true then do let ok ← isTrue c env (eval c env); pure (ForInStep.yield ok) else pure (ForInStep.yield r)) (fun ok s₃ =>
            if ok=true then wpAny (model prog w) A (eval elt env) (fun x s₄ =>
              wpAny (model prog w) A (call (.builtin "list.append") [acc,x]) (fun _ s₅=>∃ m,m < n∧I m s₅) (fun _ _=>False) s₄) (fun _ _=>False) s₃
            else ∃ m,m < n∧I m s₃) (fun _ _=>False) s₂) (fun _ _=>False) s1') (fun _ _=>False) s₁) (fun _ _=>False) s)
    (n:Nat) (h:I n s) :
    codeAny (model prog w) A (.compLoop (.ListComp elt [⟨target,iter,ifs,0⟩] scope pos) 0 it acc env) R s:=by
  refine codeAny_loop rfl I (fun n s hI=>?_) n h
  show wpAny _ A ((compTurn (.ListComp elt [⟨target,iter,ifs,0⟩] scope pos) 0 it acc env).onRaise (fun x=>do noteFrame x env; theTreesLotGoes x)) _ _ s
  refine wpAny_noted ?_
  rw [compTurn_list]
  refine wpAny_bind (wpAny_standAt (wpAny_bind (wpAny_mono (turn n s hI) (fun r s₁ h₁=>?_) fun _ _ h'=>h'.elim)))
  cases r with
  | none=>exact wpAny_pure h₁
  | some v =>
    refine wpAny_bind (wpAny_mono h₁ (fun _ s1' h1'=>?_) fun _ _ h'=>h'.elim)
    refine wpAny_bind (wpAny_mono h1' (fun _ s₂ h₂=>wpAny_bind (wpAny_mono h₂ (fun ok s₃ h₃=>?_) fun _ _ h'=>h'.elim)) fun _ _ h'=>h'.elim)
    cases ok with
    | false=>exact wpAny_pure ⟨rfl,h₃⟩
    | true =>
      exact wpAny_bind (wpAny_bind (wpAny_mono h₃ (fun x s₄ h₄=>wpAny_bind (wpAny_mono h₄ (fun _ s₅ h₅=>wpAny_pure (wpAny_pure ⟨rfl,h₅⟩)) fun _ _ h'=>h'.elim)) fun _ _ h'=>h'.elim))
end
noncomputable def Fq:TT:=fun _ H Q=>Q true H
inductive PTs (X:Cx):List Expr→TT→Prop
  | nil:PTs X [] Fq
  | one {c:Expr} {t:TT} (h:PT X c t):PTs X [c] t
theorem PTs.run {X:Cx} {ifs:List Expr} {t:TT} (h:PTs X ifs t) {pins:List (Addr × Obj)} {s:Shared} {σ:St} {H:Hp} {Q:Bool→Hp→Prop} (I:Inv X pins σ H s) (q:t σ H Q) :
    wpAny (model X.prog X.w) X.A (forIn ifs true fun c r=>if r=true then do let ok ← isTrue c X.env (eval c X.env); pure (ForInStep.yield ok) else pure (ForInStep.yield r)) (TP X pins σ Q) X.xe s:=by
  cases h with
  | nil=>exact wpAny_tests_nil ⟨H,I,q⟩
  | one h=>exact wpAny_tests_one (h pins s σ H Q I q)
noncomputable def LCR (J:It) (n:Nat) (g:TG) (tt:TT) (te:TE) (σ:St) (H1:Hp) (Q:VK):Prop:=∀ D,H1 D=none→∃ W:Nat→Nat→List V→Hp→Prop,(∃ m,W 0 m [] (upd H1 D (.lst []))) ∧
  ∀ i m ys H,W i m ys H→H D=some (.lst ys)∧((J.stop i H∧Q (.ref D) H)∨(J.go i H∧∀ x H' σ',σ'.length=n→J.yld i H x H'→g x (σ++σ') H' fun σ2 H2=>tt σ2 H2 fun b H3 =>
    if b=true then te σ2 H3 fun v H4=>H4 D=some (.lst ys)∧ys.length < sizeLine∧(∃ σ'',σ2=σ++σ''∧σ''.length=n)∧∃ m',m' < m∧W (i + 1) m' (ys++[v]) (upd H4 D (.lst (ys++[v])))
    else (∃ σ'',σ2=σ++σ''∧σ''.length=n)∧∃ m',m' < m∧W (i + 1) m' ys H3))
noncomputable def tLC (n:Nat) (wi:TI) (g:TG) (tt:TT) (te:TE):TE:=fun σ H Q=>wi σ H fun J H1=>LCR J n g tt te σ H1 Q
theorem pb {X:Cx} {M:List Str} {elt tg iter:Expr} {ifs:List Expr} {scope:Scope} {pos cpos:Pos} {own:List Str} {wi:TI} {g:TG} {tt:TT} {te:TE} {use:Option (Value→Sem Unit)} {Qf:Value→Shared→Prop} (hc:X.calm=true) (hi:PI X tg iter wi)
    (hg:∀ C s2 H2 fp,PG (blk X M scope own C s2 H2 fp) tg g) (ht:∀ C s2 H2 fp,PTs (blk X M scope own C s2 H2 fp) ifs tt) (he:∀ C s2 H2 fp,PE (blk X M scope own C s2 H2 fp) elt te)
    (hB:ql X.N M X.env.scope scope own=true) (hs:∀ x,foldedSetIterable iter X.env x=pure x) {pins:List (Addr × Obj)} {s:Shared} {σ:St} {H:Hp} {Q:VK} (I:Inv X pins σ H s) (h:tLC own.length wi g tt te σ H Q)
    (fin:∀ (C D:Addr) (s5:Shared) (H4:Hp),(∀ h',Heap.SameBut C s5.heap h'→Inv X pins σ H4 { s5 with heap:=h' })→(∃ m,s5.heap.Ns C m)→H4 C=none→C≠X.env.locals→(∀ x c,X.env.cells.lookup x=some c→c≠C)→(∀ p∈X.pn++pins,p.1≠C)→X.s₀.heap.objs.size≤C→Q (.ref D) H4 →
      compPost (model X.prog X.w) X.A X.xe use Qf (.ref D) C (.ok .next) s5) :
    wpAny (model X.prog X.w) X.A (comprehension (.ListComp elt [⟨tg,iter,ifs,0⟩] scope pos) scope X.env cpos (newList []) false (eval iter X.env) use) Qf X.xe s:=by
  have B:kH X M scope own:=kH.of hB
  have hclos:closureFor scope X.env=pure (oJ scope.names X.env.cells []):=oB fun y hy hf=>by
    obtain ⟨hv,hnl⟩:=B.free y hy hf
    have hh:X.env.kindOf y.1=some .cell∨X.env.kindOf y.1=some .free:=by
      rcases hv with z | z | z
      · exact absurd z hnl
      · exact .inl z
      · exact .inr z
    exact I.ok.has y.1 hh
  refine wpAny_comprehension_free (use:=use) rfl hs hclos B.kind B.names (thn (hi pins s σ H _ I h) fun v s1 h1=>thn h1 fun itv s2 h2=>?_)
  obtain ⟨it,fp,tn,J,H2,e,I2,T,st2,f2,hD⟩:=h2
  subst e
  have ffs:∀ b∈fp,b < s2.heap.objs.size:=fun b hb=>by
    obtain ⟨o,q,_⟩:=T.obj _ _ st2 b hb
    exact Heap.lt_size q
  obtain ⟨W,⟨m0,w0⟩,turn⟩:=hD s2.heap.objs.size (I2.hok.fresh (Nat.le_refl _))
  refine wpAny_newObj_type (wpAny_newFunctionEnv B.nocell (by intro y hy; simp at hy) (fun h₁ hns₁ hsb₁=>?_) B.kind)
  dsimp only at hns₁ hsb₁ ⊢
  generalize hG:s2.heap.push { cls:=.type "list",dict:=none,data:=.seq ([]:List Value).toArray }=G at hns₁ hsb₁ ⊢
  have hC:G.objs.size=s2.heap.objs.size + 1:=by rw [← hG,Heap.size_push]
  have hk:∀ b o,s2.heap.get? b=some o→h₁.get? b=some o:=fun b o e=>hsb₁.extBut b o (by
    rw [hC]; exact Nat.ne_of_lt (Nat.lt_succ_of_lt (Heap.lt_size e))) (Heap.get?_push_of_some _ (hG ▸ Heap.get?_push_of_some _ e))
  have hDC:s2.heap.objs.size≠G.objs.size:=by rw [hC]; exact Nat.ne_of_lt (Nat.lt_succ_self _)
  have hl:h₁.get? s2.heap.objs.size=some { cls:=.type "list",data:=.seq ([]:List Value).toArray 0 }:=hsb₁.extBut _ _ hDC (Heap.get?_push_of_some _ (hG ▸ Heap.get?_push_size _ rfl))
  have hns:h₁.Ns G.objs.size (fun _=>none):=by
    have e:(fun x=>([]:List (Str × Value)).reverse.lookup x)=fun _=>none:=by funext x; rfl
    rw [← e]; exact hns₁
  have I3:=fun t'=>I2.blk (t':=t') (C:=G.objs.size) (D:=s2.heap.objs.size) B f2 ffs rfl hC hl hns hk
  have stat:∀ {H':Hp},(∀ b∈fp,H' b=none)→∀ b∈fp,o8 (blk X M scope own G.objs.size s2 H2 fp) [] H' b:=fun hn b hb=>by
    refine ⟨hn b hb,?_,?_,.inl hb,fun x c e z=>?_,fun p hp=>absurd (show p∈([]:List (Addr × Obj))++[] from hp) (by simp)⟩
    · show b≠G.objs.size
      rw [hC]; exact Nat.ne_of_lt (Nat.lt_succ_of_lt (ffs b hb))
    · exact (I3 0).ok.exfs b hb
    · exact ((I3 0).ok.exf b hb).2 x c e z
  have loop:∀ s3:Shared,(∃ t',s3={ s2 with heap:=h₁,toks:=t' })→codeAny (model X.prog X.w) X.A (.compLoop (.ListComp elt [⟨tg,iter,ifs,0⟩] scope pos) 0 (.ref it) (.ref s2.heap.objs.size) (compEnvC scope (oJ scope.names X.env.cells []) G.objs.size X.env))
      (compPost (model X.prog X.w) X.A X.xe use Qf (.ref s2.heap.objs.size) G.objs.size) s3:=by
    rintro s3 ⟨t',rfl⟩
    refine tY (fun n s'=>∃ i ys σ' H',σ'.length=own.length∧Inv (blk X M scope own G.objs.size s2 H2 fp) [] (σ++σ') H' s'∧tn i s'.heap∧(∀ b∈fp,H' b=none)∧W i n ys H') ?_ m0
      ⟨0,[],_,_,by simp,I3 t',T.keep _ _ _ st2 fun b hb o e=>hk b o e,fun b hb=>by rw [bD (Nat.ne_of_lt (ffs b hb))]; exact (f2 b hb).1,w0⟩
    rintro n s4 ⟨i,ys,σ',H4,hl',I4,st4,fr4,w4⟩
    obtain ⟨hDl,alt⟩:=turn i n ys H4 w4
    rcases alt with ⟨stop,qn⟩ | ⟨go,step⟩
    · refine thn (T.done (blk X M scope own G.objs.size s2 H2 fp) rfl rfl rfl hc i [] s4 _ H4 _ I4 (stat fr4) st4 stop) fun r s5 rz2=>?_
      obtain ⟨hr,I5⟩:=rz2
      subst hr
      obtain ⟨m,hn,_⟩:=I5.loc
      have cS:s2.heap.objs.size≤G.objs.size:=by rw [hC]; exact Nat.le_succ _
      refine fin G.objs.size s2.heap.objs.size s5 H4 (fun h' hs'=>I2.unblk (C:=G.objs.size) f2 cS I5 hs') ⟨m,hn⟩ I5.free ?_ (fun x c e=>?_) (fun p hp=>?_) (Nat.le_trans I2.sz cS) qn
      · obtain ⟨_,hl0,_⟩:=I2.loc
        exact Nat.ne_of_gt (Nat.lt_of_lt_of_le hl0.lt cS)
      · obtain ⟨_,q⟩:=I2.cell x c e
        exact Nat.ne_of_lt (Nat.lt_of_lt_of_le q.lt cS)
      · exact Nat.ne_of_lt (Nat.lt_of_lt_of_le (Heap.lt_size (I2.pin p hp).1) cS)
    · refine thn (T.item (blk X M scope own G.objs.size s2 H2 fp) rfl rfl rfl hc i [] s4 _ H4 _ I4 (stat fr4) st4 go) fun r s5 rz2=>?_
      obtain ⟨u,hr,h5⟩:=rz2
      subst hr
      refine thn h5 fun _ s6 rz2=>?_
      obtain ⟨x,H6,I6,r6,y6,st6,fr6⟩:=rz2
      have I6':=I6.pinned (stat fr6) (T.obj _ _ st6)
      have kp:∀ {σ7:St} {H7:Hp} {s7:Shared},Inv (blk X M scope own G.objs.size s2 H2 fp) ([]++pH fp s6.heap) σ7 H7 s7→tn (i + 1) s7.heap∧∀ b∈fp,H7 b=none:=fun {σ7 H7 s7} I7=>by
        refine ⟨T.keep _ _ _ st6 fun b hb o e=>(I7.pin (b,o) (List.mem_append_right _ (List.mem_append_right _ (jv hb e)))).1,fun b hb=>?_⟩
        obtain ⟨o,e,d⟩:=T.obj _ _ st6 b hb
        exact (I7.pin (b,o) (List.mem_append_right _ (List.mem_append_right _ (jv hb e)))).2.1
      refine thn (hg _ _ _ _ _ s6 _ H6 x u _ I6' r6 (step x H6 σ' hl' y6)) fun _ s7 rz2=>?_
      obtain ⟨σ7,H7,I7,q7⟩:=rz2
      refine thn ((ht _ _ _ _).run I7 q7) fun ok s8 rz2=>?_
      obtain ⟨H8,I8,q8⟩:=rz2
      cases ok with
      | false =>
        obtain ⟨⟨σ'',e,l''⟩,m',hm,w8⟩:=(show if false=true then _ else _ from q8)
        subst e
        obtain ⟨k1,k2⟩:=kp I8
        exact ⟨m',hm,i + 1,ys,σ'',H8,l'',I8.unpinned,k1,k2,w8⟩
      | true =>
        have q8:te σ7 H8 _:=q8
        refine thn (he _ _ _ _ _ s8 σ7 H8 _ I8 q8) fun y s9 rz2=>?_
        obtain ⟨v,H9,I9,r9,d9,z9,⟨σ'',e,l''⟩,m',hm,w9⟩:=rz2
        subst e
        refine thn (q9 (X:=blk X M scope own G.objs.size s2 H2 fp) _ s9 _ H9 (.ref s2.heap.objs.size) [v] (.ref s2.heap.objs.size) [y] (fun _ H'=>H'=upd H9 s2.heap.objs.size (.lst (ys++[v]))) I9 rfl (.cons r9 .nil) ⟨_,ys,v,rfl,rfl,d9,z9,rfl⟩) fun _ s10 rz2=>?_
        obtain ⟨_,H10,I10,_,e10⟩:=rz2
        subst e10
        obtain ⟨k1,k2⟩:=kp I10
        exact ⟨m',hm,i + 1,ys++[v],σ'',_,l'',I10.unpinned,k1,k2,w9⟩
  exact codeAny_compStart_list (loop _ ⟨_,rfl⟩) (T.self _ 0 _ _ _ (T.keep _ _ _ st2 fun b hb o e=>hk b o e) (loop _ ⟨_,rfl⟩))
theorem zD {X:Cx} {M:List Str} {elt tg iter:Expr} {ifs:List Expr} {scope:Scope} {pos:Pos} {own:List Str} {wi:TI} {g:TG} {tt:TT} {te:TE} (hc:X.calm=true) (hi:PI X tg iter wi)
    (hg:∀ C s2 H2 fp,PG (blk X M scope own C s2 H2 fp) tg g) (ht:∀ C s2 H2 fp,PTs (blk X M scope own C s2 H2 fp) ifs tt) (he:∀ C s2 H2 fp,PE (blk X M scope own C s2 H2 fp) elt te)
    (hB:ql X.N M X.env.scope scope own=true:=by rfl) (hs:∀ x,foldedSetIterable iter X.env x=pure x:=by intro _; rfl):PE X (.ListComp elt [⟨tg,iter,ifs,0⟩] scope pos) (tLC own.length wi g tt te):=by
  intro pins s σ H Q I h
  rw [eval_ListComp]
  refine pb hc hi hg ht he hB hs I h fun C D s5 H4 k rz5 _ _ _ _ _ q=>?_
  obtain ⟨m,hn⟩:=rz5
  exact ⟨m,hn,fun h' hs'=>⟨.ref D,H4,k h' hs',rfl,q⟩⟩
theorem zC {X:Cx} {M:List Str} {elt tg iter:Expr} {ifs:List Expr} {scope:Scope} {pos pos' spos:Pos} {own:List Str} {wi:TI} {g:TG} {tt:TT} {te:TE} {i:Nat} {x:Str} (hc:X.calm=true) (hN:X.N.Nodup) (hxi:X.N[i]?=some x) (hx:Loc X.env.scope x)
    (hsw:swapsWith (.ListComp elt [⟨tg,iter,ifs,0⟩] scope pos) (some (.Name x pos')) spos.line X.env=pure true) (hi:PI X tg iter wi)
    (hg:∀ C s2 H2 fp,PG (blk X M scope own C s2 H2 fp) tg g) (ht:∀ C s2 H2 fp,PTs (blk X M scope own C s2 H2 fp) ifs tt) (he:∀ C s2 H2 fp,PE (blk X M scope own C s2 H2 fp) elt te)
    (hB:ql X.N M X.env.scope scope own=true:=by rfl) (hs:∀ x,foldedSetIterable iter X.env x=pure x:=by intro _; rfl) (hf:X.fn x=true∨X.env.scope.names.lookup x=some .local:=by first | exact .inl rfl | exact .inr rfl | assumption) :
    PS X (.Assign [.Name x pos'] (.ListComp elt [⟨tg,iter,ifs,0⟩] scope pos) spos) (CN (tLC own.length wi g tt te) (lp i)):=by
  intro pins s σ H D I h
  show wpAny _ _ (exec _ X.env) _ _ s
  rw [exec_Assign_Name_used _ _ _ _ hsw]
  refine wpAny_bind (wpAny_standAt (wpAny_bind ?_))
  rw [arm_evalThenUse_ListComp]
  refine wpAny_bind (thn (pb (use:=some (assign (.Name x pos') X.env)) (Qf:=fun _ s'=>SP X pins D .next s') hc hi hg ht he hB hs I h fun C Dd s5 H4 k rz5 hC nl nc np ns q=>?_) fun _ s' hq=>wpAny_pure (wpAny_pure hq))
  obtain ⟨m,hn⟩:=rz5
  have I5:=k s5.heap (Heap.SameBut.refl _ _)
  show wpAny _ _ (assign (.Name x pos') X.env (.ref Dd)) _ _ s5
  refine wpAny_assign_Name (rO (v:=.ref Dd) I5 hN hxi hx rfl (fun s3 I3 rz2=>?_) hf)
  obtain ⟨a,sb,ha⟩:=rz2
  have nCa:C≠a:=by
    rcases ha with rfl | ha
    · exact nl
    · exact fun z=>nc x a ha z.symm
  refine ⟨m,hn.sameBut sb nCa,fun h' hs'=>⟨_,H4,?_,q⟩⟩
  have kk:∀ b o,b≠C→s3.heap.get? b=some o→h'.get? b=some o:=fun b o hb e=>(hs'.2 b hb).trans e
  refine I3.call' (s':={ s3 with heap:=h' }) (ch:=[C]) rfl ?_ ?_ I3.bare fun b hb=>?_
  · refine ⟨fun b o e _ _ z=>kk b o (fun q=>z (by rw [q]; exact List.mem_singleton.mpr rfl)) e,fun b o e _ _ z=>⟨o.slots,kk b o (fun q=>z (by rw [q]; exact List.mem_singleton.mpr rfl)) e⟩,fun _ _ _ n _=>n,fun b o e z=>⟨o,kk b o (fun q=>z (by rw [q]; exact List.mem_singleton.mpr rfl)) e⟩,fun _ _ q=>q,fun _ _ _ q=>q,fun _ _ q=>q⟩
  · intro b o e
    refine (I3.hok b o e).stay (fun c v hc q=>kk c v ?_ q) (fun _ q=>q) fun _ _ q=>q
    rintro rfl
    rcases hc with z | z
    · subst z; rw [hC] at e; cases e
    · rw [hC] at z; cases z
  · rw [List.mem_singleton.mp hb]
    exact ⟨.inr ns,fun z=>nl z,nc,np⟩
end L2
set_option maxRecDepth 100000
set_option maxHeartbeats 4000000
namespace L2
open PySem PySem.Spec PyProof.Rows
mutual
noncomputable def IsD (K:PySem.W.Frag) (H:Hp):PyData→V→Prop
  | .none,v=>v=.non
  | .bool b,v=>v=.bl b
  | .int i,v=>v=.int i
  | .str x,v=>v=.str x
  | .list ds,v=>∃ a xs,v=.ref a∧SqL K H a xs∧fE K H ds xs
  | .tuple ds,v=>∃ a xs,v=.ref a∧SqT K H a xs∧fE K H ds xs
  | .dict _,_=>False
noncomputable def fE (K:PySem.W.Frag) (H:Hp):List PyData→List V→Prop
  | [],vs=>vs=[]
  | d::ds,vs=>∃ v r,vs=v::r∧IsD K H d v∧fE K H ds r
end
theorem aM.tupS {K:PySem.W.Frag} {H H':Hp} {a:Addr} {xs:List V} (e:aM H H') (h:SqT K H a xs):SqT K H' a xs:=by
  rcases h with (h | ⟨o,h⟩) | h
  · exact .inl (.inl (e _ _ h))
  · exact .inl (.inr ⟨o,e _ _ h⟩)
  · exact .inr h
mutual
theorem IsD.same {K:PySem.W.Frag} {H H':Hp} (e:aM H H'):∀ {d:PyData} {v:V},IsD K H d v→IsD K H' d v
  | .none,_,h=>by unfold IsD at h ⊢; exact h
  | .bool _,_,h=>by unfold IsD at h ⊢; exact h
  | .int _,_,h=>by unfold IsD at h ⊢; exact h
  | .str _,_,h=>by unfold IsD at h ⊢; exact h
  | .list ds,_,h=>by
    unfold IsD at h ⊢
    obtain ⟨a,xs,e1,h1,h2⟩:=h
    exact ⟨a,xs,e1,e.seq h1,fE.same e h2⟩
  | .tuple ds,_,h=>by
    unfold IsD at h ⊢
    obtain ⟨a,xs,e1,h1,h2⟩:=h
    exact ⟨a,xs,e1,e.tupS h1,fE.same e h2⟩
  | .dict _,_,h=>by unfold IsD at h; exact h.elim
theorem fE.same {K:PySem.W.Frag} {H H':Hp} (e:aM H H'):∀ {ds:List PyData} {vs:List V},fE K H ds vs→fE K H' ds vs
  | [],_,h=>by unfold fE at h ⊢; exact h
  | d::ds,_,h=>by
    unfold fE at h ⊢
    obtain ⟨v,r,e1,h1,h2⟩:=h
    exact ⟨v,r,e1,IsD.same e h1,fE.same e h2⟩
end
section
variable {K:PySem.W.Frag} {H:Hp}
theorem tw {i:Int}:IsD K H (.int i) (.int i):=by unfold IsD; rfl
theorem Bf {b:Bool}:IsD K H (.bool b) (.bl b):=by unfold IsD; rfl
theorem Ah:IsD K H .none .non:=by unfold IsD; rfl
theorem CP {x:Str}:IsD K H (.str x) (.str x):=by unfold IsD; rfl
theorem BM {ds:List PyData} {a:Addr} {xs:List V} (h:SqT K H a xs) (h2:fE K H ds xs):IsD K H (.tuple ds) (.ref a):=by unfold IsD; exact ⟨a,xs,rfl,h,h2⟩
theorem tV {ds:List PyData} {a:Addr} {xs:List V} (h:SqL K H a xs) (h2:fE K H ds xs):IsD K H (.list ds) (.ref a):=by unfold IsD; exact ⟨a,xs,rfl,h,h2⟩
theorem oW:fE K H [] []:=by unfold fE; rfl
theorem qZ {d:PyData} {ds:List PyData} {v:V} {vs:List V} (h:IsD K H d v) (h2:fE K H ds vs):fE K H (d::ds) (v::vs):=by unfold fE; exact ⟨v,vs,rfl,h,h2⟩
theorem IsD.ofInt {i:Int} {v:V} (h:IsD K H (.int i) v):v=.int i:=by unfold IsD at h; exact h
theorem IsD.ofBool {i:Bool} {v:V} (h:IsD K H (.bool i) v):v=.bl i:=by unfold IsD at h; exact h
theorem IsD.ofNone {v:V} (h:IsD K H .none v):v=.non:=by unfold IsD at h; exact h
theorem IsD.ofStr {x:Str} {v:V} (h:IsD K H (.str x) v):v=.str x:=by unfold IsD at h; exact h
theorem IsD.ofTup {ds:List PyData} {v:V} (h:IsD K H (.tuple ds) v):∃ a xs,v=.ref a∧SqT K H a xs∧fE K H ds xs:=by unfold IsD at h; exact h
theorem IsD.ofLst {ds:List PyData} {v:V} (h:IsD K H (.list ds) v):∃ a xs,v=.ref a∧SqL K H a xs∧fE K H ds xs:=by unfold IsD at h; exact h
theorem fE.nil_of {vs:List V} (h:fE K H [] vs):vs=[]:=by unfold fE at h; exact h
theorem fE.cons_of {d:PyData} {ds:List PyData} {vs:List V} (h:fE K H (d::ds) vs):∃ v r,vs=v::r∧IsD K H d v∧fE K H ds r:=by unfold fE at h; exact h
theorem rH:∀ (ns:List Int),fE K H (ns.map PyData.int) (ns.map V.int)
  | []=>oW
  | _::r=>qZ tw (rH r)
end
section
variable {X:Cx} {pins:List (Addr × Obj)} {σ:St} {H:Hp} {s:Shared}
mutual
theorem Inv.reads (I:Inv X pins σ H s):∀ {d:PyData} {v:V} {u:Value},IsD X.K H d v→RelV v u→∃ as,Reads s.heap u d as
  | .none,_,_,h,r=>by rw [h.ofNone] at r; cases r; exact ⟨_,.none⟩
  | .bool _,_,_,h,r=>by rw [h.ofBool] at r; cases r; exact ⟨_,.bool _⟩
  | .int _,_,_,h,r=>by rw [h.ofInt] at r; obtain ⟨t,rfl⟩:=r; exact ⟨_,.int _ _⟩
  | .str _,_,_,h,r=>by rw [h.ofStr] at r; obtain ⟨t,rfl⟩:=r; exact ⟨_,.str _ _⟩
  | .list ds,_,_,h,r=>by
    obtain ⟨a,xs,e,h1,h2⟩:=h.ofLst
    subst e; cases r
    obtain ⟨its,rv,⟨o,n,g,c,_,d⟩,_⟩:=I.list h1
    obtain ⟨as,ra⟩:=Inv.readsAll I h2 rv
    exact ⟨_,.list g c d (by simpa using ra)⟩
  | .tuple ds,_,_,h,r=>by
    obtain ⟨a,xs,e,h1,h2⟩:=h.ofTup
    subst e; cases r
    obtain ⟨its,rv,⟨o,g,c,n,d⟩,_⟩:=I.tuple h1
    obtain ⟨as,ra⟩:=Inv.readsAll I h2 rv
    exact ⟨_,.tuple g c d (by simpa using ra)⟩
  | .dict _,_,_,h,_=>by unfold IsD at h; exact h.elim
theorem Inv.readsAll (I:Inv X pins σ H s):∀ {ds:List PyData} {vs:List V} {us:List Value},fE X.K H ds vs→Vals vs us→∃ as,ReadsAll s.heap us ds as
  | [],_,_,h,r=>by
    rw [h.nil_of] at r
    cases r
    exact ⟨_,.nil⟩
  | d::ds,_,_,h,r=>by
    obtain ⟨v,t,e,h1,h2⟩:=h.cons_of
    subst e
    cases r with
    | cons r1 r2 =>
      obtain ⟨as,q1⟩:=Inv.reads I h1 r1
      obtain ⟨bs,q2⟩:=Inv.readsAll I h2 r2
      exact ⟨_,.cons q1 q2⟩
end
open PySem.SeqAt in
theorem vH (hu:X.A.units + 64 < cLine):OpR X (compareOp .Eq) (fun x y H Q=>∃ d e,IsD X.K H d x∧IsD X.K H e y∧shaped d=true∧shaped e=true∧Q (.bl (PyData.eqv d e)) H):=by
  intro pins s σ H x y v u Q I rx ry h
  obtain ⟨d,e,hd,he,sd,se,q⟩:=h
  obtain ⟨as,ra⟩:=I.reads hd rx
  obtain ⟨bs,rb⟩:=I.reads he ry
  exact eq_dataH ra rb sd se hu ⟨.bl _,H,I,rfl,q⟩
open PySem.SeqAt in
theorem EK (hu:X.A.units + 64 < cLine):OpR X (compareOp .NotEq) (fun x y H Q=>∃ d e,IsD X.K H d x∧IsD X.K H e y∧shaped d=true∧shaped e=true∧Q (.bl (!PyData.eqv d e)) H):=by
  intro pins s σ H x y v u Q I rx ry h
  obtain ⟨d,e,hd,he,sd,se,q⟩:=h
  obtain ⟨as,ra⟩:=I.reads hd rx
  obtain ⟨bs,rb⟩:=I.reads he ry
  exact ne_dataH ra rb sd se hu ⟨.bl _,H,I,rfl,q⟩
noncomputable def tyD:PyData→String
  | .none=>"NoneType"
  | .bool _=>"bool"
  | .int _=>"int"
  | .str _=>"str"
  | .list _=>"list"
  | .tuple _=>"tuple"
  | .dict _=>"dict"
noncomputable def sF (d:PyData) (T:String):Bool:=tyD d == T || (T == "int" && tyD d == "bool")
theorem Cu (K:PySem.W.Frag) {a T:String} (ha:a∈["NoneType", "bool", "int", "str", "list", "tuple"]) (hT:T∈["bool", "int", "list", "tuple"]) :
    PySem.W.kitOne K (.type a) (.type T)=some (a == T || (T == "int" && a == "bool")):=by
  simp only [List.mem_cons,List.not_mem_nil,or_false] at ha hT
  rcases ha with rfl | rfl | rfl | rfl | rfl | rfl <;> rcases hT with rfl | rfl | rfl | rfl <;> rfl
theorem BL {H:Hp} {K:PySem.W.Frag} {d:PyData} {v:V} (h:IsD K H d v):tyD d∈["NoneType", "bool", "int", "str", "list", "tuple"]:=by
  cases d with
  | dict _=>unfold IsD at h; exact h.elim
  | _=>simp [tyD]
theorem uM:jb X (.builtin "isinstance") (fun xs H Q=>∃ d v T,xs=[v,.ty T]∧IsD X.K H d v∧T∈["bool", "int", "list", "tuple"]∧Q (.bl (sF d T)) H):=by
  intro pins s σ H xs us Q I r h
  obtain ⟨d,v,T,rfl,hd,hT,q⟩:=h
  obtain ⟨u,c,rfl,r1,r2⟩:=vals2 r
  cases r2
  have e:PySem.W.kitOne X.K (.type (tyD d)) (.type T)=some (sF d T):=Cu X.K (BL hd) hT
  have fin:∀ tk,EP X pins σ Q (.bool (sF d T)) { s with toks:=tk }:=fun tk=>⟨.bl _,H,I.tok tk,rfl,q⟩
  cases d with
  | none=>rw [hd.ofNone] at r1; cases r1; exact PySem.W.kia_one PySem.W.kitx_none I.kIn True.intro e (fun z=>nomatch z) fin
  | bool b=>rw [hd.ofBool] at r1; cases r1; exact PySem.W.kia_one PySem.W.kitx_bool I.kIn True.intro e (fun z=>nomatch z) fin
  | int i=>rw [hd.ofInt] at r1; obtain ⟨t,rfl⟩:=r1; exact PySem.W.kia_one PySem.W.kitx_int I.kIn True.intro e (fun z=>nomatch z) fin
  | str x=>rw [hd.ofStr] at r1; obtain ⟨t,rfl⟩:=r1; exact PySem.W.kia_one PySem.W.kitx_str I.kIn True.intro e (fun z=>nomatch z) fin
  | list ds =>
    obtain ⟨a,xs,e1,h1,h2⟩:=hd.ofLst
    subst e1; cases r1
    obtain ⟨its,rv,⟨o,n,g,c,_,_⟩,_⟩:=I.list h1
    exact PySem.W.kia_one PySem.W.kitx_list I.kIn ⟨o,g,c⟩ e (fun z=>nomatch z) fin
  | tuple ds =>
    obtain ⟨a,xs,e1,h1,h2⟩:=hd.ofTup
    subst e1; cases r1
    obtain ⟨its,rv,⟨o,g,c,n,_⟩,_⟩:=I.tuple h1
    exact PySem.W.kia_one PySem.W.kitx_tuple I.kIn ⟨o,g,c⟩ e (fun z=>nomatch z) fin
  | dict _=>unfold IsD at hd; exact hd.elim
theorem lG:∀ {bs:List Bool} {us:List Value},Vals (bs.map V.bl) us→LSm.BoolsAre us bs
  | [],_,.nil=>.nil
  | b::r,_,.cons h t=>by
    cases (show _=Value.bool b from h)
    exact .cons b (lG t)
theorem As (hc:X.calm=true):jb X (.builtin "all") (fun xs H Q=>∃ (a:Addr) (bs:List Bool),xs=[.ref a]∧SqL X.K H a (bs.map V.bl)∧Q (.bl (bs.all id)) H):=by
  intro pins s σ H xs us Q I r h
  obtain ⟨a,bs,rfl,hS,q⟩:=h
  obtain ⟨u,rfl,r1⟩:=vals1 r
  cases r1
  obtain ⟨its,rv,p,_⟩:=I.list hS
  have hl:=p.isList
  have hb:=lG rv
  have hlt:a < s.heap.objs.size:=by obtain ⟨_,e,_⟩:=hl; exact Heap.lt_size e
  refine call_all_walk (wpAny_pyIter_list hl ?_)
  refine ⟨s.heap.objs.size,[s.heap.objs.size,a],[s.heap.objs.size],its.toArray.size,_,_,fun i=>(bs[i]?).getD true,rfl,Walks.list (A:=X.A.in1) (I.ok.hd hc) _ a (Nat.ne_of_lt hlt) its.toArray,
    ⟨⟨_,Heap.get?_push_size _ rfl,rfl,rfl⟩,hl.push _⟩,fun i v s' Q' E' hP hQ=>?_,fun h' tk hk=>?_⟩
  · obtain ⟨b,e,rfl⟩:=hb.get i v (by simpa using hP)
    simp only [e,Option.getD_some] at hQ
    exact wpAny_truthy_bool hQ
  · have e:((List.range its.toArray.size).all fun i=>(bs[i]?).getD true)=bs.all id:=by
      rw [List.size_toArray,hb.length]; exact LSm.range_all bs
    rw [e]
    exact ⟨.bl _,H,I.kept (LSm.kept_iter hk),rfl,q⟩
theorem Bz (hc:X.calm=true):jb X (.builtin "sum") (fun xs H Q=>∃ (a:Addr) (ns:List Int),xs=[.ref a]∧SqL X.K H a (ns.map V.int)∧Q (.int ns.sum) H):=by
  intro pins s σ H xs us Q I r h
  obtain ⟨a,ns,rfl,hS,q⟩:=h
  obtain ⟨u,rfl,r1⟩:=vals1 r
  cases r1
  obtain ⟨its,rv,p,_⟩:=I.list hS
  have hi:IntsAre its ns:=intsAre_of rv
  obtain ⟨xs,hx⟩:=hi.allInts.items
  have hl':s.heap.IsList a (intItems xs):=hx ▸ p.isList
  refine sum_intListG (I.ok.hd hc) hl' fun h' tk t' hk=>?_
  have e1:ns=xs.toList.map (·.1):=by
    rw [← nums_intItems,← hx]
    exact (show numsOf its.toArray.toList=ns from hi.numsOf).symm
  have e2:preSum (numAt xs) xs.size=ns.sum:=by
    rw [preSum_eq,List.take_of_length_le (by simp),e1]
  rw [e2]
  exact ⟨.int _,H,I.kept hk,⟨_,rfl⟩,q⟩
end
end L2
set_option maxRecDepth 100000
set_option maxHeartbeats 4000000
namespace L2
open PySem PySem.Spec PyProof.Rows
structure Gq (P:Program) (w:World) (outer:List Env) (H:Hp) (s:Shared) (H':Hp) (B:Heap) (ea:Addr) (cls a0:Value) (s':Shared):Prop where
  os:s'.os=s.os
  bare:AllBare s'.gens
  hok:HOk P w H' B
  keep:∀ b o,s.heap.get? b=some o→H b=none→b ∉ frs outer→B.get? b=some o
  there:∀ b o,s.heap.get? b=some o→b ∉ frs outer→∃ o',B.get? b=some o'
  slot:∀ b o,s.heap.get? b=some o→b∈frs outer→∃ sl,s'.heap.get? b=some { o with slots:=sl }
  free:∀ b o,s.heap.get? b=some o→H b=none→H' b=none
  tups:∀ b xs,H b=some (.tup xs)→H' b=some (.tup xs)
  frzs:∀ b o u,H b=some (.frz o u)→H' b=some (.frz o u)
  tbls:∀ b q,H b=some (.tbl q)→H' b=some (.tbl q)
  fly:Heap.FlyingW B outer ea cls a0 s'.heap
noncomputable def CXW (P:Program) (w:World):CXT:=fun outer H s E e s'=>∃ ea cls a0 H' B,e=.ref ea∧E cls none H'∧Gq P w outer H s H' B ea cls a0 s'
section
variable {P:Program} {w:World} {K:PySem.W.Frag} {mg:Str→Option Value} {base:Heap} {N:List Str} {qual:Str} {scope:Scope} {f:Addr} {cd:Value} {A:Around} {outer:List Env} {s:Shared} {H:Hp} {E:XK}
theorem uo {env:Env} {L:Addr} (hf:env.frame=some L):frs (env::outer)=L::frs outer:=by
  unfold frs
  rw [List.filterMap_cons,hf]
theorem uT {CX:CXT} {pins:List (Addr × Obj)} {σ:St} {H1:Hp} {s1:Shared} {h':Heap} {ea:Addr} {cls:Value} {vs:List Value}
    (I:Inv (iX (CXW P w) P w K mg base N qual scope f cd A outer s H E) pins σ H1 s1) (hx:Heap.MadeExcOf s1.heap h' ea cls vs) (hE:E cls none H1) :
    (iX (CXW P w) P w K mg base N qual scope f cd A outer s H E).xe (.ref ea) { s1 with heap:=h' }:=by
  have hst:=I.stack
  have hfs:frs (iX (CXW P w) P w K mg base N qual scope f cd A outer s H E).stack=s.heap.objs.size::frs outer:=uo rfl
  have hin:∀ env∈(iX (CXW P w) P w K mg base N qual scope f cd A outer s H E).stack,∀ b,env.frame=some b→b∈frs (iX (CXW P w) P w K mg base N qual scope f cd A outer s H E).stack:=fun env he b hb=>List.mem_filterMap.mpr ⟨env,he,hb⟩
  have out:∀ b o,s.heap.get? b=some o→b ∉ frs outer→b ∉ frs (iX (CXW P w) P w K mg base N qual scope f cd A outer s H E).stack:=fun b o e n z=>by
    rw [hfs] at z
    rcases List.mem_cons.mp z with z | z
    · rw [z] at e; exact absurd (Heap.lt_size e) (Nat.lt_irrefl _)
    · exact n z
  refine wpAny_leaves_madeW (base:=PySem.W.hideAll s1.heap (frs (iX (CXW P w) P w K mg base N qual scope f cd A outer s H E).stack)) I.ok.frames rfl (fun b o q=>PySem.W.of_hideAll _ q) (PySem.W.funFrames_hide hst hin) hx fun h2 t x1 x2 x3 x4=>?_
  refine ⟨ea,cls,.ref t,H1,_,rfl,hE,⟨I.os,I.bare,?_,?_,?_,?_,?_,I.base.tups,I.base.frzs,I.base.tbls,x1⟩⟩
  · intro a o e
    refine (I.hok a o e).stay (fun b u hb q=>PySem.W.hideAll_get _ q fun z=>?_) (fun _ q=>q) fun _ _ q=>q
    have:=I.stkFree b z
    rcases hb with hb | hb
    · rw [hb,e] at this; cases this
    · rw [hb] at this; cases this
  · intro b o e n hb
    exact PySem.W.hideAll_get _ (I.base.keep b o e n hb (List.not_mem_nil)) (out b o e hb)
  · intro b o e hb
    obtain ⟨o',q⟩:=I.base.there b o e (List.not_mem_nil)
    exact ⟨o',PySem.W.hideAll_get _ q (out b o e hb)⟩
  · intro b o e hb
    obtain ⟨sl,q⟩:=I.base.slot b o e (I.ok.frf b hb) hb (List.not_mem_nil)
    obtain ⟨_,o2,q2,d2⟩:=I.ok.funs.mem hb
    have q2:s.heap.get? b=some o2:=q2
    rw [e] at q2
    cases q2
    obtain ⟨sl2,q3⟩:=x4 b _ (hx.keeps b _ q) d2
    exact ⟨sl2,q3⟩
  · intro b o e n
    exact I.base.free b o e n (List.not_mem_nil)
theorem aT:Passes (CXW P w) (iX (CXW P w) P w K mg base N qual scope f cd A outer s H E) E:=by
  intro pins σ H1 s1 e s2 I hc
  obtain ⟨ea,cls,a0,H2,B,rfl,hE,F⟩:=hc
  have hfs:frs (iX (CXW P w) P w K mg base N qual scope f cd A outer s H E).stack=s.heap.objs.size::frs outer:=uo rfl
  have out:∀ b o,s.heap.get? b=some o→b ∉ frs outer→b ∉ frs (iX (CXW P w) P w K mg base N qual scope f cd A outer s H E).stack:=fun b o e n z=>by
    rw [hfs] at z
    rcases List.mem_cons.mp z with z | z
    · rw [z] at e; exact absurd (Heap.lt_size e) (Nat.lt_irrefl _)
    · exact n z
  refine wpAny_leaves_onW I.ok.frames rfl F.fly fun h2 x1 x2=>⟨ea,cls,a0,H2,B,rfl,hE,⟨F.os.trans I.os,F.bare,F.hok,?_,?_,?_,?_,?_,?_,?_,x1⟩⟩
  · intro b o e n hb
    exact F.keep b o (I.base.keep b o e n hb (List.not_mem_nil)) (I.base.free b o e n (List.not_mem_nil)) (out b o e hb)
  · intro b o e hb
    obtain ⟨o',q⟩:=I.base.there b o e (List.not_mem_nil)
    exact F.there b o' q (out b o e hb)
  · intro b o e hb
    obtain ⟨sl,q⟩:=I.base.slot b o e (I.ok.frf b hb) hb (List.not_mem_nil)
    obtain ⟨_,o2,q2,d2⟩:=I.ok.funs.mem hb
    have q2:s.heap.get? b=some o2:=q2
    rw [e] at q2
    cases q2
    obtain ⟨sl1,q1⟩:=F.slot b _ q (by rw [hfs]; exact List.mem_cons_of_mem _ hb)
    obtain ⟨sl2,q3⟩:=x2 b _ q1 d2
    exact ⟨sl2,q3⟩
  · intro b o e n
    obtain ⟨o',q⟩:=I.base.there b o e (List.not_mem_nil)
    exact F.free b o' q (I.base.free b o e n (List.not_mem_nil))
  · intro b xs e
    exact F.tups b xs (I.base.tups b xs e)
  · intro b o u e
    exact F.frzs b o u (I.base.frzs b o u e)
  · intro b ps e
    exact F.tbls b ps (I.base.tbls b ps e)
end
theorem CY {K:PySem.W.Frag} {h:Heap} {C:Addr} {bmB:List Value} {newId:String} (X:K.In h) (q:PySem.W.excIn K C bmB newId=true) :
    ∃ bm N nm qn bs hdct sn sub ab col dd k0 k1 k2 k3 k5 mN,h.get? C=some (excClassObj nm qn C N bs bm hdct sn sub ab col dd k0 k1 k2 k3 k5 newId)∧h.Ns N mN∧mN "__init__"=none∧OwnTail h bmB bm:=by
  unfold PySem.W.excIn at q
  split at q
  · rename_i d1 c1 l1 g1
    split at q
    · rename_i C2 bm2 j0 j1 j2 j3 n2 j5 hm hs
      simp only [Bool.and_eq_true,beq_iff_eq,Bool.not_eq_true'] at q
      obtain ⟨⟨⟨⟨⟨q1,q2⟩,q3⟩,q4⟩,q5⟩,q6⟩:=q
      subst q1; subst q2
      obtain ⟨z1,z2,z3,z4,z5,z6,z7,z8,z9,z10,z11⟩:=c1
      dsimp only at hm q3 q5 q6
      subst hm; subst q3
      have hl:l1=#[j0,j1,j2,j3,some (.builtin n2),j5]:=by
        obtain ⟨l⟩:=l1
        have hs':l=_:=hs
        rw [hs']
      subst hl
      exact ⟨bm2,z4,z1,z5,z2,z6,z7,z8,z9,z10,d1,j0,j1,j2,j3,j5,_,X _ _ g1,.of_isNs (PySem.W.isNs_of_in X q5),PySem.W.nsMap_none_of_in X q5 q6,PySem.W.tail_of_in X q4⟩
    · cases q
  · cases q
noncomputable def vF (X:Cx) (E:XK):Prop:=∀ (pins:List (Addr × Obj)) (σ:St) (H:Hp) (s:Shared) (h':Heap) (ea:Addr) (cls:Value) (vs:List Value),Inv X pins σ H s→Heap.MadeExcOf s.heap h' ea cls vs→E cls none H→X.xe (.ref ea) { s with heap:=h' }
noncomputable def D0 (C:Addr) (E:XK) (t:TA):TS:=fun _ σ H=>t σ H fun vs H1=>vs.length≤sizeLine∧E (.ref C) none H1
theorem Bb {X:Cx} {E:XK} {x:Str} {C:Addr} {B newId initId:String} {bm:List Value} {np cpos pos:Pos} {e:Expr} {es:List Expr} {t:TA} (hc:X.calm=true) (M:vF X E) (FB:ExcBaseFacts B newId initId bm) (hg:Gl X x) (hm:X.mg x=some (.ref C)) (hC:PySem.W.excIn X.K C bm newId=true)
    (ha:PA X (e::es) t) (hdb:(x == ("__debug__":Str))=false:=by decide) (he:starEach (e::es) X.env=(false,eval e X.env)::starEach es X.env:=by rfl) (hpl:(backTo cpos (starEach es X.env)).any (·.1)=false:=by rfl) :
    PS X (.Raise (some (.Call (.Name x np) (e::es) [] cpos)) none pos) (D0 C E t):=by
  intro pins s σ H D I h
  obtain ⟨tl,N,nm,q,bs,hdct,sn,sub,ab,col,dd,k0,k1,k2,k3,k5,mN,hC0,hN,hni,T⟩:=CY I.mod.kin hC
  refine wpAny_Raise_call_subT (C:=C) (nm:=nm) (q:=q) (N:=N) (bs:=bs) (bm:=tl) (hdct:=hdct) (sn:=sn) (sub:=sub) (ab:=ab) (col:=col) (dd:=dd) (k0:=k0) (k1:=k1) (k2:=k2) (k3:=k3) (k5:=k5)
    FB (mN:=mN) (T.hasType FB.hasBase) (I.ok.hd hc) (by rw [he]; show (false || (backTo cpos (starEach es X.env)).any (·.1))=false; rw [hpl]; rfl) hni (oR I hg hm ⟨rfl,?_⟩ hdb)
  have q0:=ha cpos pins s σ H _ I h
  rw [he] at q0 ⊢
  refine Calls.evalArgs_plain (wpAny_mono q0 (fun us s2 h2=>?_) fun _ _ y=>y)
  obtain ⟨vs,H2,I2,rv,z,hE⟩:=h2
  exact ⟨rfl,by rw [← rv.length]; exact z,I2.bk _ _ hC0,hN.keeps I2.bk,T.keeps I2.bk,fun h' ea hx=>M pins σ H2 s2 h' ea _ _ I2 hx hE⟩
end L2
set_option maxRecDepth 100000
set_option maxHeartbeats 4000000
namespace L2
open PySem PySem.Spec PyProof.Rows
end L2
set_option maxRecDepth 100000
set_option maxHeartbeats 4000000
namespace L2
open PySem PySem.Spec PyProof.Rows
theorem mH {H:Hp} {D:Addr} {o:HO} (h:H D=none):aM H (upd H D o):=fun b u e=>by rw [bD (bE e h)]; exact e
theorem aM.put {H H':Hp} {D:Addr} {o:HO} (s:aM H H') (h:H D=none):aM H (upd H' D o):=fun b u e=>by rw [bD (bE e h)]; exact s b u e
mutual
noncomputable def ig:PyData→Bool
  | .list _=>false
  | .tuple ds=>ma ds
  | .dict _=>false
  | _=>true
noncomputable def ma:List PyData→Bool
  | []=>true
  | d::ds=>ig d && ma ds
end
theorem set_own (σ:St) (x:Option V) (v:V) (σ':St) (h:σ'.length=1):(σ++σ').set σ.length (some v)=σ++[some v]:=by
  obtain ⟨y,rfl⟩:=List.length_eq_one_iff.mp h
  simp
end L2
set_option maxRecDepth 100000
set_option maxHeartbeats 4000000
namespace L2
open PySem PySem.Spec PyProof.Rows
structure Rows (H H':Hp) (D:Addr) (qs:List Addr) (rs:List (List Int)):Prop where
  d:H' D=some (.lst (qs.map V.ref))
  len:qs.length=rs.length
  at':∀ (i:Nat) q r,qs[i]?=some q→rs[i]?=some r→H' q=some (.lst (r.map V.int))
  new:∀ q∈qs,H q=none
  nd:qs.Nodup
  nD:D ∉ qs
end L2
set_option maxRecDepth 100000
set_option maxHeartbeats 4000000
namespace L2
open PySem PySem.Spec PyProof.Rows
section
variable {prog:Program} {w:World} {A:Around} {E:Value→Shared→Prop} {s:Shared}
theorem vO {it t:Addr} {i:Nat} {its:Array Value} {x:Value} {Q:Value→Shared→Prop} (hi:s.heap.IsTupleIter it t i) (ht:s.heap.IsTuple t its) (hx:its[i]?=some x)
    (hQ:∀ h',h'.IsTupleIter it t (i + 1)→Heap.SameBut it s.heap h'→Q x { s with heap:=h' }):wpAny (model prog w) A (Builtin.SmallTypes.nextOf (.ref it)) Q E s:=by
  obtain ⟨oi,gi,ci,di⟩:=id hi
  obtain ⟨ot,gt,_,nt,dt⟩:=ht
  unfold Builtin.SmallTypes.nextOf
  refine wpAny_bind (wpAny_callSpecial?_slot (name:=Str.ofString "__next__") hi.typeIs F.slot_tuple_iterator_next (wpAny_call_entry F.slot_tuple_iterator_next hi.typeIs F.entry_tuple_iterator_next ?_ (F.args_tuple_iterator_next_1 _)))
  refine wpAny_bind (m:=field (.ref it) 0) (wpAny_field gi di (x:=.ref t) rfl ?_)
  show wpAny (model prog w) _ (if (Value.ref t == Value.none)=true then _ else _) _ _ s
  have nn:¬ (Value.ref t == Value.none)=true:=fun q=>Bool.false_ne_true q
  rw [if_neg nn]
  refine wpAny_bind (m:=field (.ref it) 1) (wpAny_field gi di (x:=.int i 0) rfl ?_)
  refine wpAny_bind (m:=seqItems? (.ref t)) (wpAny_seqItems gt dt ?_)
  simp only [Int.toNat_natCast,hx]
  refine wpAny_bind (wpAny_setField gi di (by simp) (wpAny_pure ⟨x,rfl,wpAny_pure (hQ _ ⟨_,Heap.get?_update_self _ gi (Obj.isFreed_of_fields (Obj.data_mapFields di _)),(Obj.cls_mapFields ..).trans ci,?_⟩ (Heap.SameBut.update ..))⟩))
  rw [Obj.data_mapFields di]
  simp [rawInt]
theorem pN {it t:Addr} {i:Nat} {its:Array Value} {Q:Value→Shared→Prop} (hh:A.handled=none) (hi:s.heap.IsTupleIter it t i) (ht:s.heap.IsTuple t its) (hx:its[i]?=none)
    (hE:∀ h' e,Heap.ExtBut it s.heap h'→(∃ o,h'.get? e=some o∧o.cls=.type "StopIteration")→E (.ref e) { s with heap:=h' }):wpAny (model prog w) A (Builtin.SmallTypes.nextOf (.ref it)) Q E s:=by
  obtain ⟨oi,gi,ci,di⟩:=id hi
  obtain ⟨ot,gt,_,nt,dt⟩:=ht
  unfold Builtin.SmallTypes.nextOf
  refine wpAny_bind (wpAny_callSpecial?_slot (name:=Str.ofString "__next__") hi.typeIs F.slot_tuple_iterator_next (wpAny_call_entry F.slot_tuple_iterator_next hi.typeIs F.entry_tuple_iterator_next ?_ (F.args_tuple_iterator_next_1 _)))
  refine wpAny_bind (m:=field (.ref it) 0) (wpAny_field gi di (x:=.ref t) rfl ?_)
  show wpAny (model prog w) _ (if (Value.ref t == Value.none)=true then _ else _) _ _ s
  have nn:¬ (Value.ref t == Value.none)=true:=fun q=>Bool.false_ne_true q
  rw [if_neg nn]
  refine wpAny_bind (m:=field (.ref it) 1) (wpAny_field gi di (x:=.int i 0) rfl ?_)
  refine wpAny_bind (m:=seqItems? (.ref t)) (wpAny_seqItems gt dt ?_)
  simp only [Int.toNat_natCast,hx]
  refine wpAny_bind (wpAny_rule (wpAny_bind (wpAny_setField gi di (by simp) ?_)))
  refine wpAny_bind (m:=newExc (.type "StopIteration") []) ?_
  unfold newExc newTuple
  refine wpAny_bind (wpAny_newObj_type ?_ (by size_fits ))
  refine wpAny_bind (m:=firstArgMember _ _) (wpAny_of_eq (a:=Value.none) (by first | rfl | (unfold firstArgMember; rfl)) ?_)
  refine wpAny_newObj_type ?_ (by size_fits )
  unfold raiseNew
  refine wpAny_bind (wpAny_handled ?_)
  first | rw [show A.in1.handled=none from hh] | rw [hh]
  refine wpAny_bind (wpAny_pure (wpAny_throw ?_))
  refine hE _ _ (fun b o hb e=>?_) ⟨_,Heap.get?_push_size _ rfl,rfl⟩
  exact Heap.get?_push_of_some _ (Heap.get?_push_of_some _ ((Heap.get?_update_other _ _ (Ne.symm hb)).trans e))
theorem yO (hh:A.handled=none) (it t:Addr) (hne:t≠it) (its:Array Value):Draws prog w A it [it,t] its.size (fun i v=>its[i]?=some v) (fun i h=>h.IsTupleIter it t i∧h.IsTuple t its) where
  live:=fun _ _ st=>by
    obtain ⟨⟨o,g,_⟩,_⟩:=st
    exact ⟨o,g⟩
  frame:=fun _ _ _ st k=>by
    obtain ⟨⟨o,g,r⟩,⟨o2,g2,r2⟩⟩:=st
    exact ⟨⟨o,k it (by simp) o g,r⟩,⟨o2,k t (by simp) o2 g2,r2⟩⟩
  item:=fun i s Q E hi st hQ=>vO st.1 st.2 (x:=its[i]) (by simp [hi]) fun h' i' sb=>by
    refine hQ _ h' s.toks (by simp [hi]) ⟨i',?_⟩ sb
    obtain ⟨o2,g2,r2⟩:=st.2
    exact ⟨o2,(sb.2 t hne).trans g2,r2⟩
  done:=fun s Q E st hE=>pN hh st.1 st.2 (by simp) hE
end
section
variable {prog:Program} {w:World} {A:Around} {E:Value→Shared→Prop} {s:Shared} {z TI TO i1 i2:Addr} {f1 f2:List Addr} {n1 n2 k:Nat} {P1 P2:Nat→Value→Prop} {S1 S2:Nat→Heap→Prop} {a b:Value}
end
end L2
set_option maxRecDepth 100000
set_option maxHeartbeats 4000000
namespace L2
open PySem PySem.Spec PyProof.Rows
section
variable {X:Cx} {pins:List (Addr × Obj)} {σ:L2.St} {H:Hp} {s:Shared}
theorem Inv.turnLay {ch:List Addr} {h':Heap} {t':Nat} {T:Addr} {o:HO} (I:Inv X pins σ H s) (hf:∀ b∈ch,o8 X pins H b) (hT:s.heap.objs.size≤T) (k:∀ b u,b ∉ ch→s.heap.get? b=some u→h'.get? b=some u)
    (new:fD X.prog X.w (upd H T o) h' T o):Inv X pins σ (upd H T o) { s with heap:=h',toks:=t' }:=by
  have hn:H T=none:=I.hok.fresh hT
  have nch:∀ b u,H b=some u→b ∉ ch:=fun b u e z=>by rw [(hf b z).1] at e; cases e
  have neT:∀ b u,s.heap.get? b=some u→b≠T:=fun b u e=>Nat.ne_of_lt (Nat.lt_of_lt_of_le (Heap.lt_size e) hT)
  refine I.step (g':=s.gens) (d':=s.drawn) (ch:=ch) (fun b hb=>?_) (fun b u _ _ hc e _=>k b u hc e) (fun b u _ _ hc e _=>⟨u.slots,k b u hc e⟩) (fun b u _ e n=>by rw [bD (neT b u e)]; exact n)
    (fun b u hc e=>⟨u,k b u hc e⟩) (fun b xs e=>by rw [bD (bE e hn)]; exact e) (fun b u v e=>by rw [bD (bE e hn)]; exact e) (fun b ps e=>by rw [bD (bE e hn)]; exact e) (fun m hm=>?_) (fun b u e=>?_) I.bare
  · obtain ⟨f0,f1,f2,f3,f4,f5⟩:=hf b hb
    exact ⟨f3,f1,f4,f5⟩
  · obtain ⟨o2,es,ep,ho,r⟩:=hm
    exact ⟨o2,es,ep,k _ o2 (fun z=>(hf _ z).2.1 rfl) ho,r⟩
  · by_cases hb:b=T
    · subst hb; rw [cn] at e; cases e; exact new
    · rw [bD hb] at e
      refine (I.hok b u e).stay (fun c v hc q=>k c v ?_ q) (fun c q=>by rw [bD (bE q hn)]; exact q) (fun c xs q=>by rw [bD (bE q hn)]; exact q) fun c o' w' q=>by rw [bD (bE q hn)]; exact q
      rcases hc with z | z
      · rw [z]; exact nch b u e
      · exact nch c _ z
theorem Inv.turneds {ch:List Addr} {h':Heap} {t':Nat} (I:Inv X pins σ H s) (hf:∀ b∈ch,o8 X pins H b) (k:∀ b u,b ∉ ch→s.heap.get? b=some u→h'.get? b=some u):Inv X pins σ H { s with heap:=h',toks:=t' }:=by
  have nch:∀ b u,H b=some u→b ∉ ch:=fun b u e z=>by rw [(hf b z).1] at e; cases e
  refine I.step (g':=s.gens) (d':=s.drawn) (ch:=ch) (fun b hb=>?_) (fun b u _ _ hc e _=>k b u hc e) (fun b u _ _ hc e _=>⟨u.slots,k b u hc e⟩) (fun b u _ e n=>n)
    (fun b u hc e=>⟨u,k b u hc e⟩) (fun b xs e=>e) (fun b u v e=>e) (fun b ps e=>e) (fun m hm=>?_) (fun b u e=>?_) I.bare
  · obtain ⟨f0,f1,f2,f3,f4,f5⟩:=hf b hb
    exact ⟨f3,f1,f4,f5⟩
  · obtain ⟨o2,es,ep,ho,r⟩:=hm
    exact ⟨o2,es,ep,k _ o2 (fun z=>(hf _ z).2.1 rfl) ho,r⟩
  · refine (I.hok b u e).stay (fun c v hc q=>k c v ?_ q) (fun _ q=>q) fun _ _ q=>q
    rcases hc with z | z
    · rw [z]; exact nch b u e
    · exact nch c _ z
end
end L2
set_option maxRecDepth 100000
set_option maxHeartbeats 4000000
namespace L2
open PySem PySem.Spec PyProof.Rows
inductive Rs (α:Type) where
  | ok (a:α)
  | rz (C:Addr)
  | no
namespace Rs
noncomputable def bind {α β:Type}:Rs α→(α→Rs β)→Rs β
  | ok a,f=>f a
  | rz C,_=>rz C
  | no,_=>no
noncomputable def f9 {α:Type}:Option α→Rs α
  | some a=>ok a
  | none=>no
noncomputable def calm {α:Type}:Rs α→Rs α
  | ok a=>ok a
  | _=>no
@[simp] theorem ai {α β:Type} (a:α) (f:α→Rs β):(ok a).bind f=f a:=rfl
@[simp] theorem jl {α β:Type} (C:Addr) (f:α→Rs β):(rz C).bind f=rz C:=rfl
@[simp] theorem dN {α β:Type} (f:α→Rs β):(no:Rs α).bind f=no:=rfl
@[simp] theorem ak {α:Type} (a:α):f9 (some a)=ok a:=rfl
@[simp] theorem Ey {α:Type}:f9 (none:Option α)=no:=rfl
@[simp] theorem gM {α:Type} (a:α):(ok a).calm=ok a:=rfl
end Rs
noncomputable def del (H:Hp) (A:List Addr):Hp:=fun b=>if b∈A then none else H b
theorem xU {H:Hp}:del H []=H:=by funext b; simp [del]
theorem nj {H:Hp} {A:List Addr} {b:Addr} (h:b∈A):del H A b=none:=by simp [del,h]
theorem cu {H:Hp} {A:List Addr} {b:Addr} (h:b ∉ A):del H A b=H b:=by simp [del,h]
theorem fY {H:Hp} {A:List Addr} {b:Addr} {o:HO} (h:del H A b=some o):b ∉ A∧H b=some o:=by
  by_cases z:b∈A
  · rw [nj z] at h; cases h
  · rw [cu z] at h; exact ⟨z,h⟩
theorem aX {H:Hp} {A:List Addr}:aM (del H A) H:=fun _ _ e=>(fY e).2
theorem aM.del {H H':Hp} {A:List Addr} (s:aM H H'):aM (del H A) (L2.del H' A):=fun b o e=>by
  obtain ⟨z,e⟩:=fY e
  rw [cu z]; exact s b o e
noncomputable def Ls (H:Hp) (A:List Addr):Prop:=∀ a∈A,∃ xs,H a=some (.lst xs)
theorem Ls.same {H H':Hp} {A:List Addr} (h:Ls H A) (s:aM H H'):Ls H' A:=fun a ha=>by
  obtain ⟨xs,e⟩:=h a ha
  exact ⟨xs,s _ _ e⟩
theorem Ls.nil {H:Hp}:Ls H []:=fun _ h=>by cases h
theorem Ls.new {H:Hp} {A:List Addr} {p:Addr} (h:Ls H A) (hp:H p=none):p ∉ A:=fun z=>by
  obtain ⟨xs,e⟩:=h p z
  rw [hp] at e; cases e
noncomputable def aI (ns:List Int):PyData:=.dict [(.none,.list (ns.map .int))]
mutual
noncomputable def Is (K:PySem.W.Frag) (H:Hp):PyData→V→Prop
  | .none,v=>v=.non
  | .bool b,v=>v=.bl b
  | .int i,v=>v=.int i
  | .str x,v=>v=.str x
  | .list ds,v=>∃ a xs,v=.ref a∧H a=some (.lst xs)∧Iss K H ds xs
  | .tuple ds,v=>∃ a xs,v=.ref a∧H a=some (.tup xs)∧Iss K H ds xs
  | .dict kvs,v=>(∃ a ns,v=.ref a∧kvs=[(PyData.none,PyData.list (List.map PyData.int ns))]∧SqL K H a (List.map V.int ns)) ∨
      ∃ (a C dx:Addr) (fs:List (Str × V)),v=.ref a∧H a=some (.ins C dx fs)∧fs.lookup ("@":Str)=none∧(Isk K H kvs (("",.int (C:Int))::fs)∨Isk K H kvs (("",.int (C:Int))::("@",.int (a:Int))::fs))
noncomputable def Iss (K:PySem.W.Frag) (H:Hp):List PyData→List V→Prop
  | [],vs=>vs=[]
  | d::ds,vs=>∃ v r,vs=v::r∧Is K H d v∧Iss K H ds r
noncomputable def Isk (K:PySem.W.Frag) (H:Hp):List (PyData × PyData)→List (Str × V)→Prop
  | [],fs=>fs=[]
  | (k,d)::r,fs=>∃ f v fs',fs=(f,v)::fs'∧k=.str f∧Is K H d v∧Isk K H r fs'
end
noncomputable def Ba (C:Addr) (fds:List (Str × PyData)):PyData:=.dict ((.str "",.int (C:Int))::fds.map fun p=>(.str p.1,p.2))
section
variable {K:PySem.W.Frag} {H H':Hp}
theorem c6 {i:Int}:Is K H (.int i) (.int i):=by unfold Is; rfl
theorem is_bool {b:Bool}:Is K H (.bool b) (.bl b):=by unfold Is; rfl
theorem is_none:Is K H .none .non:=by unfold Is; rfl
theorem A7 {x:Str}:Is K H (.str x) (.str x):=by unfold Is; rfl
theorem lH {ds:List PyData} {a:Addr} {xs:List V} (h:H a=some (.tup xs)) (h2:Iss K H ds xs):Is K H (.tuple ds) (.ref a):=by unfold Is; exact ⟨a,xs,rfl,h,h2⟩
theorem pQ {ds:List PyData} {a:Addr} {xs:List V} (h:H a=some (.lst xs)) (h2:Iss K H ds xs):Is K H (.list ds) (.ref a):=by unfold Is; exact ⟨a,xs,rfl,h,h2⟩
theorem y2 {a:Addr} {ns:List Int} (h:SqL K H a (ns.map V.int)):Is K H (aI ns) (.ref a):=by unfold aI Is; exact .inl ⟨a,ns,rfl,rfl,h⟩
theorem gK:Iss K H [] []:=by unfold Iss; rfl
theorem fQ {d:PyData} {ds:List PyData} {v:V} {vs:List V} (h:Is K H d v) (h2:Iss K H ds vs):Iss K H (d::ds) (v::vs):=by unfold Iss; exact ⟨v,vs,rfl,h,h2⟩
theorem sy {d:PyData} {v:V} (h:Is K H d v):Iss K H [d] [v]:=fQ h gK
theorem Is.ofInt {i:Int} {v:V} (h:Is K H (.int i) v):v=.int i:=by unfold Is at h; exact h
theorem Is.ofBool {i:Bool} {v:V} (h:Is K H (.bool i) v):v=.bl i:=by unfold Is at h; exact h
theorem Is.ofNone {v:V} (h:Is K H .none v):v=.non:=by unfold Is at h; exact h
theorem Is.ofStr {x:Str} {v:V} (h:Is K H (.str x) v):v=.str x:=by unfold Is at h; exact h
theorem Is.ofTup {ds:List PyData} {v:V} (h:Is K H (.tuple ds) v):∃ a xs,v=.ref a∧H a=some (.tup xs)∧Iss K H ds xs:=by unfold Is at h; exact h
theorem Is.ofLst {ds:List PyData} {v:V} (h:Is K H (.list ds) v):∃ a xs,v=.ref a∧H a=some (.lst xs)∧Iss K H ds xs:=by unfold Is at h; exact h
theorem Is.ofScript {ns:List Int} {v:V} (h:Is K H (aI ns) v):∃ a,v=.ref a∧SqL K H a (ns.map V.int):=by
  unfold aI Is at h
  rcases h with h | ⟨a,C,dx,fs,_,_,_,h | h⟩
  case inr.inl=>unfold Isk at h; obtain ⟨f,_,_,_,h,_⟩:=h; cases h
  case inr.inr=>unfold Isk at h; obtain ⟨f,_,_,_,h,_⟩:=h; cases h
  obtain ⟨a,ms,e,e2,h⟩:=h
  have e3:ns.map PyData.int=ms.map PyData.int:=by injection e2 with e2 _; injection e2 with _ e2; injection e2
  have e4:ns=ms:=by
    have inj:∀ (a b:List Int),a.map PyData.int=b.map PyData.int→a=b:=by
      intro a
      induction a with
      | nil=>intro b hb; cases b with | nil=>rfl | cons _ _=>simp at hb
      | cons x r ih =>
        intro b hb
        cases b with
        | nil=>simp at hb
        | cons y s =>
          simp only [List.map_cons,List.cons.injEq,PyData.int.injEq] at hb
          rw [hb.1,ih s hb.2]
    exact inj _ _ e3
  subst e4
  exact ⟨a,e,h⟩
theorem Iss.nil_of {vs:List V} (h:Iss K H [] vs):vs=[]:=by unfold Iss at h; exact h
theorem Iss.cons_of {d:PyData} {ds:List PyData} {vs:List V} (h:Iss K H (d::ds) vs):∃ v r,vs=v::r∧Is K H d v∧Iss K H ds r:=by unfold Iss at h; exact h
theorem Iss.length:∀ {ds:List PyData} {vs:List V},Iss K H ds vs→vs.length=ds.length
  | [],_,h=>by rw [h.nil_of]; rfl
  | _::_,_,h=>by
    obtain ⟨v,r,e,_,h2⟩:=h.cons_of
    rw [e,List.length_cons,List.length_cons,Iss.length h2]
mutual
theorem Is.same (e:aM H H'):∀ {d:PyData} {v:V},Is K H d v→Is K H' d v
  | .none,_,h=>by unfold Is at h ⊢; exact h
  | .bool _,_,h=>by unfold Is at h ⊢; exact h
  | .int _,_,h=>by unfold Is at h ⊢; exact h
  | .str _,_,h=>by unfold Is at h ⊢; exact h
  | .list ds,_,h=>by
    unfold Is at h ⊢
    obtain ⟨a,xs,e1,h1,h2⟩:=h
    exact ⟨a,xs,e1,e _ _ h1,Iss.same e h2⟩
  | .tuple ds,_,h=>by
    unfold Is at h ⊢
    obtain ⟨a,xs,e1,h1,h2⟩:=h
    exact ⟨a,xs,e1,e _ _ h1,Iss.same e h2⟩
  | .dict _,_,h=>by
    unfold Is at h ⊢
    rcases h with ⟨a,ns,e1,e2,h2⟩ | ⟨a,C,dx,fs,e1,h1,hn,h2 | h2⟩
    · exact .inl ⟨a,ns,e1,e2,e.seq h2⟩
    · exact .inr ⟨a,C,dx,fs,e1,e _ _ h1,hn,.inl (Isk.same e h2)⟩
    · exact .inr ⟨a,C,dx,fs,e1,e _ _ h1,hn,.inr (Isk.same e h2)⟩
theorem Iss.same (e:aM H H'):∀ {ds:List PyData} {vs:List V},Iss K H ds vs→Iss K H' ds vs
  | [],_,h=>by unfold Iss at h ⊢; exact h
  | d::ds,_,h=>by
    unfold Iss at h ⊢
    obtain ⟨v,r,e1,h1,h2⟩:=h
    exact ⟨v,r,e1,Is.same e h1,Iss.same e h2⟩
theorem Isk.same (e:aM H H'):∀ {ds:List (PyData × PyData)} {fs:List (Str × V)},Isk K H ds fs→Isk K H' ds fs
  | [],_,h=>by unfold Isk at h ⊢; exact h
  | (k,d)::ds,_,h=>by
    unfold Isk at h ⊢
    obtain ⟨f,v,r,e1,e2,h1,h2⟩:=h
    exact ⟨f,v,r,e1,e2,Is.same e h1,Isk.same e h2⟩
end
theorem ye:Isk K H [] []:=by unfold Isk; rfl
theorem uK {f:Str} {d:PyData} {r:List (PyData × PyData)} {v:V} {fs:List (Str × V)} (h:Is K H d v) (h2:Isk K H r fs):Isk K H ((.str f,d)::r) ((f,v)::fs):=by unfold Isk; exact ⟨f,v,fs,rfl,rfl,h,h2⟩
theorem Ed {C a dx:Addr} {fds:List (Str × PyData)} {fs:List (Str × V)} (h:H a=some (.ins C dx fs)) (hn:fs.lookup ("@":Str)=none) (h2:Isk K H (fds.map fun p=>(.str p.1,p.2)) fs):Is K H (Ba C fds) (.ref a):=by
  unfold Ba Is
  exact .inr ⟨a,C,dx,fs,rfl,h,hn,.inl (uK c6 h2)⟩
theorem DY {A:List Addr} (hA:Ls H A) {a:Addr} {xs:List V} (h:H a=some (.tup xs)):del H A a=some (.tup xs):=by
  rw [cu (fun q=>by obtain ⟨ys,e2⟩:=hA a q; rw [h] at e2; cases e2)]; exact h
mutual
theorem Is.dl {A:List Addr} (hA:Ls H A):∀ {d:PyData} {v:V},ig d=true→Is K H d v→Is K (del H A) d v
  | .none,_,_,h=>by unfold Is at h ⊢; exact h
  | .bool _,_,_,h=>by unfold Is at h ⊢; exact h
  | .int _,_,_,h=>by unfold Is at h ⊢; exact h
  | .str _,_,_,h=>by unfold Is at h ⊢; exact h
  | .list _,_,n,_=>by unfold ig at n; cases n
  | .dict _,_,n,_=>by unfold ig at n; cases n
  | .tuple ds,_,n,h=>by
    unfold ig at n
    obtain ⟨a,xs,e,h1,h2⟩:=h.ofTup
    subst e
    exact lH (DY hA h1) (Iss.dl hA n h2)
theorem Iss.dl {A:List Addr} (hA:Ls H A):∀ {ds:List PyData} {vs:List V},ma ds=true→Iss K H ds vs→Iss K (del H A) ds vs
  | [],_,_,h=>by rw [h.nil_of]; exact gK
  | d::ds,_,n,h=>by
    unfold ma at n
    obtain ⟨n1,n2⟩:=Bool.and_eq_true_iff.mp n
    obtain ⟨v,r,e,h1,h2⟩:=h.cons_of
    subst e
    exact fQ (Is.dl hA n1 h1) (Iss.dl hA n2 h2)
end
mutual
noncomputable def bU:PyData→Bool
  | .list ds=>iP ds
  | .tuple ds=>iP ds
  | .dict _=>false
  | _=>true
noncomputable def iP:List PyData→Bool
  | []=>true
  | d::ds=>bU d && iP ds
end
mutual
theorem Is.isd:∀ {d:PyData} {v:V},bU d=true→Is K H d v→IsD K H d v
  | .none,_,_,h=>by rw [h.ofNone]; exact Ah
  | .bool _,_,_,h=>by rw [h.ofBool]; exact Bf
  | .int _,_,_,h=>by rw [h.ofInt]; exact tw
  | .str _,_,_,h=>by rw [h.ofStr]; exact CP
  | .list ds,_,n,h=>by
    unfold bU at n
    obtain ⟨a,xs,e,h1,h2⟩:=h.ofLst
    subst e
    exact tV (SqL.of h1) (Iss.isd n h2)
  | .tuple ds,_,n,h=>by
    unfold bU at n
    obtain ⟨a,xs,e,h1,h2⟩:=h.ofTup
    subst e
    exact BM (SqT.of h1) (Iss.isd n h2)
  | .dict _,_,n,_=>by unfold bU at n; cases n
theorem Iss.isd:∀ {ds:List PyData} {vs:List V},iP ds=true→Iss K H ds vs→fE K H ds vs
  | [],_,_,h=>by rw [h.nil_of]; exact oW
  | d::ds,_,n,h=>by
    unfold iP at n
    obtain ⟨n1,n2⟩:=Bool.and_eq_true_iff.mp n
    obtain ⟨v,r,e,h1,h2⟩:=h.cons_of
    subst e
    exact qZ (Is.isd n1 h1) (Iss.isd n2 h2)
end
noncomputable def fw:PyData→Bool
  | .none=>true
  | .bool _=>true
  | .int _=>true
  | .str _=>true
  | _=>false
theorem IsD.is {d:PyData} {v:V} (n:fw d=true) (h:IsD K H d v):Is K H d v:=by
  cases d with
  | none=>rw [h.ofNone]; exact is_none
  | bool _=>rw [h.ofBool]; exact is_bool
  | int _=>rw [h.ofInt]; exact c6
  | str _=>rw [h.ofStr]; exact A7
  | _=>cases n
theorem wm {d:PyData} (n:fw d=true):ig d=true:=by
  cases d with
  | list _=>cases n
  | tuple _=>cases n
  | dict _=>cases n
  | _=>unfold ig; rfl
theorem Iss.get:∀ {ds:List PyData} {vs:List V} {i:Nat} {v:V},Iss K H ds vs→vs[i]?=some v→∃ d,ds[i]?=some d∧Is K H d v
  | [],_,i,v,h,e=>by rw [h.nil_of] at e; simp at e
  | d::ds,_,i,v,h,e=>by
    obtain ⟨w,r,e1,h1,h2⟩:=h.cons_of
    subst e1
    cases i with
    | zero=>simp at e; subst e; exact ⟨d,rfl,h1⟩
    | succ i=>simpa using Iss.get (i:=i) h2 (by simpa using e)
theorem Iss.getD:∀ {ds:List PyData} {vs:List V} {i:Nat} {d:PyData},Iss K H ds vs→ds[i]?=some d→∃ v,vs[i]?=some v∧Is K H d v
  | [],_,i,v,h,e=>by simp at e
  | d::ds,_,i,v,h,e=>by
    obtain ⟨w,r,e1,h1,h2⟩:=h.cons_of
    subst e1
    cases i with
    | zero=>simp at e; subst e; exact ⟨w,rfl,h1⟩
    | succ i=>simpa using Iss.getD (i:=i) h2 (by simpa using e)
theorem Iss.append:∀ {ds es:List PyData} {vs us:List V},Iss K H ds vs→Iss K H es us→Iss K H (ds++es) (vs++us)
  | [],_,_,_,h,h'=>by rw [h.nil_of]; exact h'
  | d::ds,es,_,us,h,h'=>by
    obtain ⟨v,r,e,h1,h2⟩:=h.cons_of
    subst e
    exact fQ h1 (Iss.append h2 h')
theorem Iss.take:∀ {ds:List PyData} {vs:List V} (n:Nat),Iss K H ds vs→Iss K H (ds.take n) (vs.take n)
  | [],_,n,h=>by rw [h.nil_of]; simpa using gK
  | d::ds,_,0,h=>by simpa using gK
  | d::ds,_,n + 1,h=>by
    obtain ⟨v,r,e,h1,h2⟩:=h.cons_of
    subst e
    exact fQ h1 (Iss.take n h2)
theorem Iss.drop:∀ {ds:List PyData} {vs:List V} (n:Nat),Iss K H ds vs→Iss K H (ds.drop n) (vs.drop n)
  | [],_,n,h=>by rw [h.nil_of]; simpa using gK
  | d::ds,_,0,h=>h
  | d::ds,_,n + 1,h=>by
    obtain ⟨v,r,e,h1,h2⟩:=h.cons_of
    subst e
    exact Iss.drop n h2
theorem Iss.set {d:PyData} {v:V} (hv:Is K H d v):∀ {ds:List PyData} {vs:List V} (i:Nat),Iss K H ds vs→Iss K H (ds.set i d) (vs.set i v)
  | [],_,n,h=>by rw [h.nil_of]; simpa using gK
  | e::ds,_,0,h=>by
    obtain ⟨u,r,z,h1,h2⟩:=h.cons_of
    subst z
    exact fQ hv h2
  | e::ds,_,n + 1,h=>by
    obtain ⟨u,r,z,h1,h2⟩:=h.cons_of
    subst z
    exact fQ h1 (Iss.set hv n h2)
theorem Iss.rep {ds:List PyData} {vs:List V} (h:Iss K H ds vs):∀ k:Nat,Iss K H (List.replicate k ds).flatten (List.replicate k vs).flatten
  | 0=>gK
  | k + 1=>by
    rw [List.replicate_succ,List.replicate_succ,List.flatten_cons,List.flatten_cons]
    exact h.append (Iss.rep h k)
theorem mf:∀ (ns:List Int),Iss K H (ns.map PyData.int) (ns.map V.int)
  | []=>gK
  | _::r=>fQ c6 (mf r)
theorem Iss.ofInts:∀ {ns:List Int} {vs:List V},Iss K H (ns.map PyData.int) vs→vs=ns.map V.int
  | [],_,h=>h.nil_of
  | n::r,_,h=>by
    obtain ⟨v,t,e,h1,h2⟩:=h.cons_of
    rw [e,h1.ofInt,Iss.ofInts h2]; rfl
theorem Iss.ofBools:∀ {ns:List Bool} {vs:List V},Iss K H (ns.map PyData.bool) vs→vs=ns.map V.bl
  | [],_,h=>h.nil_of
  | n::r,_,h=>by
    obtain ⟨v,t,e,h1,h2⟩:=h.cons_of
    rw [e,h1.ofBool,Iss.ofBools h2]; rfl
theorem Is.isNone {d:PyData} {v:V} (h:Is K H d v):(v=.non)↔d=.none:=by
  cases d with
  | none=>simp [h.ofNone]
  | bool b=>simp [h.ofBool]
  | int i=>simp [h.ofInt]
  | str x=>simp [h.ofStr]
  | list ds=>obtain ⟨a,xs,e,_⟩:=h.ofLst; simp [e]
  | tuple ds=>obtain ⟨a,xs,e,_⟩:=h.ofTup; simp [e]
  | dict _=>unfold Is at h; rcases h with ⟨a,ns,e,_⟩ | ⟨a,C,dx,fs,e,_⟩ <;> simp [e]
theorem cE {p:Addr} {o:HO} (h:H p=none):aM H (upd H p o):=mH h
theorem xO {A:List Addr} {p:Addr} {o:HO} (h:p∈A):del (upd H p o) A=del H A:=by
  funext b
  by_cases z:b∈A
  · rw [nj z,nj z]
  · rw [cu z,cu z,bD (by rintro rfl; exact z h)]
theorem mI {A:List Addr} {ds:List PyData} {xs:List V} {p:Addr} (hA:Ls H A) (hp:H p=none) (h:Iss K (del H A) ds xs):Is K (del (upd H p (.tup xs)) A) (.tuple ds) (.ref p) :=
  lH (by rw [cu (hA.new hp)]; exact cn) (h.same (aM.del (cE hp)))
theorem kU {A:List Addr} {ds:List PyData} {xs:List V} {p:Addr} (hA:Ls H A) (hp:H p=none) (h:Iss K (del H A) ds xs):Is K (del (upd H p (.lst xs)) A) (.list ds) (.ref p) :=
  pQ (by rw [cu (hA.new hp)]; exact cn) (h.same (aM.del (cE hp)))
end
noncomputable abbrev Ds:=List (Option PyData)
structure fF (K:PySem.W.Frag) (H:Hp) (A:List Addr) (δ:Ds) (σ:St):Prop where
  ls:Ls H A
  len:δ.length=σ.length
  get:∀ (i:Nat) (d:PyData),δ[i]?=some (some d)→∃ v,σ[i]?=some (some v)∧Is K (del H A) d v
theorem fF.same {K:PySem.W.Frag} {H H':Hp} {A:List Addr} {δ:Ds} {σ:St} (R:fF K H A δ σ) (s:aM H H'):fF K H' A δ σ :=
  ⟨R.ls.same s,R.len,fun i d e=>by
    obtain ⟨v,e1,h⟩:=R.get i d e
    exact ⟨v,e1,h.same s.del⟩⟩
noncomputable def iO (K:PySem.W.Frag) (E:XK) (A:List Addr) (H:Hp) (r:Rs PyData) (Q:VK):Prop:=match r with
  | .ok d=>∀ v H',aM H H'→Is K (del H' A) d v→Q v H'
  | .rz C=>∀ H',aM H H'→E (.ref C) none H'
  | .no=>False
noncomputable def F5 (K:PySem.W.Frag) (E:XK) (A:List Addr) (H:Hp) (r:Rs (List PyData)) (Q:List V→Hp→Prop):Prop:=match r with
  | .ok d=>∀ v H',aM H H'→Iss K (del H' A) d v→Q v H'
  | .rz C=>∀ H',aM H H'→E (.ref C) none H'
  | .no=>False
noncomputable def uD (E:XK) (H:Hp) (r:Rs Bool) (Q:Bool→Hp→Prop):Prop:=match r with
  | .ok d=>∀ H',aM H H'→Q d H'
  | .rz C=>∀ H',aM H H'→E (.ref C) none H'
  | .no=>False
noncomputable def eD (K:PySem.W.Frag) (E:XK) (g:Ds→Rs PyData):TE:=fun σ H Q=>∃ A δ,fF K H A δ σ∧iO K E A H (g δ) Q
noncomputable def aD (K:PySem.W.Frag) (E:XK) (g:Ds→Rs (List PyData)):TA:=fun σ H Q=>∃ A δ,fF K H A δ σ∧F5 K E A H (g δ) Q
noncomputable def cD (K:PySem.W.Frag) (E:XK) (g:Ds→Rs Bool):TT:=fun σ H Q=>∃ A δ,fF K H A δ σ∧uD E H (g δ) Q
noncomputable def PD (X:Cx) (E:XK) (e:Expr) (g:Ds→Rs PyData):Prop:=PE X e (eD X.K E g)
noncomputable def PAD (X:Cx) (E:XK) (es:List Expr) (g:Ds→Rs (List PyData)):Prop:=PA X es (aD X.K E g)∧∀ δ ds,g δ=.ok ds→ds.length=es.length
noncomputable def PCD (X:Cx) (E:XK) (e:Expr) (g:Ds→Rs Bool):Prop:=PT X e (cD X.K E g)
noncomputable def PWD (X:Cx) (E:XK) (e:Expr) (g:Ds→Rs Bool):Prop:=PW X e (cD X.K E g)
theorem PE.imp {X:Cx} {e:Expr} {t t':TE} (h:PE X e t) (k:∀ σ H Q,t' σ H Q→t σ H Q):PE X e t':=fun pins s σ H Q I q=>h pins s σ H Q I (k σ H Q q)
theorem PT.imp {X:Cx} {e:Expr} {t t':TT} (h:PT X e t) (k:∀ σ H Q,t' σ H Q→t σ H Q):PT X e t':=fun pins s σ H Q I q=>h pins s σ H Q I (k σ H Q q)
theorem PW.imp {X:Cx} {e:Expr} {t t':TT} (h:PW X e t) (k:∀ σ H Q,t' σ H Q→t σ H Q):PW X e t':=fun w pins s σ H Q I q=>h w pins s σ H Q I (k σ H Q q)
theorem PA.imp {X:Cx} {e:List Expr} {t t':TA} (h:PA X e t) (k:∀ σ H Q,t' σ H Q→t σ H Q):PA X e t':=fun p pins s σ H Q I q=>h p pins s σ H Q I (k σ H Q q)
theorem PS.imp {X:Cx} {e:Stmt} {t t':TS} (h:PS X e t) (k:∀ D σ H,t' D σ H→t D σ H):PS X e t':=fun pins s σ H D I q=>h pins s σ H D I (k D σ H q)
theorem PSs.imp {X:Cx} {e:List Stmt} {t t':TS} (h:PSs X e t) (k:∀ D σ H,t' D σ H→t D σ H):PSs X e t':=fun pins s σ H D I q=>h pins s σ H D I (k D σ H q)
theorem iO.mono {K:PySem.W.Frag} {E:XK} {A:List Addr} {H H1:Hp} {r:Rs PyData} {Q:VK} (h:iO K E A H r Q) (s:aM H H1):iO K E A H1 r Q:=by
  cases r with
  | ok d=>exact fun v H' s' q=>h v H' (s.trans s') q
  | rz C=>exact fun H' s'=>h H' (s.trans s')
  | no=>exact h
theorem uD.mono {E:XK} {H H1:Hp} {r:Rs Bool} {Q:Bool→Hp→Prop} (h:uD E H r Q) (s:aM H H1):uD E H1 r Q:=by
  cases r with
  | ok d=>exact fun H' s'=>h H' (s.trans s')
  | rz C=>exact fun H' s'=>h H' (s.trans s')
  | no=>exact h
theorem eD.run {K:PySem.W.Frag} {E:XK} {g:Ds→Rs PyData} {σ:St} {H:Hp} {A:List Addr} {δ:Ds} {Q:VK} (R:fF K H A δ σ)
    (ok:∀ d,g δ=.ok d→∀ v H',aM H H'→fF K H' A δ σ→Is K (del H' A) d v→Q v H') (rz:∀ C,g δ=.rz C→∀ H',aM H H'→E (.ref C) none H') (no:g δ=.no→False):eD K E g σ H Q:=by
  refine ⟨A,δ,R,?_⟩
  cases e:g δ with
  | ok d=>exact fun v H' s q=>ok d e v H' s (R.same s) q
  | rz C=>exact fun H' s=>rz C e H' s
  | no=>exact no e
theorem aD.run {K:PySem.W.Frag} {E:XK} {g:Ds→Rs (List PyData)} {σ:St} {H:Hp} {A:List Addr} {δ:Ds} {Q:List V→Hp→Prop} (R:fF K H A δ σ)
    (ok:∀ d,g δ=.ok d→∀ v H',aM H H'→fF K H' A δ σ→Iss K (del H' A) d v→Q v H') (rz:∀ C,g δ=.rz C→∀ H',aM H H'→E (.ref C) none H') (no:g δ=.no→False):aD K E g σ H Q:=by
  refine ⟨A,δ,R,?_⟩
  cases e:g δ with
  | ok d=>exact fun v H' s q=>ok d e v H' s (R.same s) q
  | rz C=>exact fun H' s=>rz C e H' s
  | no=>exact no e
theorem cD.run {K:PySem.W.Frag} {E:XK} {g:Ds→Rs Bool} {σ:St} {H:Hp} {A:List Addr} {δ:Ds} {Q:Bool→Hp→Prop} (R:fF K H A δ σ)
    (ok:∀ d,g δ=.ok d→∀ H',aM H H'→fF K H' A δ σ→Q d H') (rz:∀ C,g δ=.rz C→∀ H',aM H H'→E (.ref C) none H') (no:g δ=.no→False):cD K E g σ H Q:=by
  refine ⟨A,δ,R,?_⟩
  cases e:g δ with
  | ok d=>exact fun H' s=>ok d e H' s (R.same s)
  | rz C=>exact fun H' s=>rz C e H' s
  | no=>exact no e
end L2
set_option maxRecDepth 100000
set_option maxHeartbeats 4000000
namespace L2
open PySem PySem.Spec PyProof.Rows
noncomputable def ag (i:Nat):Ds→Rs PyData:=fun δ=>match δ[i]? with
  | some (some d)=>.ok d
  | _=>.no
noncomputable def gC (d:PyData):Ds→Rs PyData:=fun _=>.ok d
noncomputable def g1 (f:PyData→Option PyData) (a:Ds→Rs PyData):Ds→Rs PyData:=fun δ=>(a δ).bind fun x=>Rs.f9 (f x)
noncomputable def g2 (f:PyData→PyData→Option PyData) (a b:Ds→Rs PyData):Ds→Rs PyData:=fun δ=>(a δ).bind fun x=>(b δ).bind fun y=>Rs.f9 (f x y)
noncomputable def gF (f:List PyData→Option PyData) (as:Ds→Rs (List PyData)):Ds→Rs PyData:=fun δ=>(as δ).bind fun ds=>Rs.f9 (f ds)
noncomputable def ao:Ds→Rs (List PyData):=fun _=>.ok []
noncomputable def ae (a:Ds→Rs PyData) (r:Ds→Rs (List PyData)):Ds→Rs (List PyData):=fun δ=>(a δ).bind fun x=>(r δ).bind fun xs=>.ok (x::xs)
noncomputable def kf (as:Ds→Rs (List PyData)):Ds→Rs PyData:=fun δ=>(as δ).bind fun ds=>.ok (.tuple ds)
noncomputable def dE (as:Ds→Rs (List PyData)):Ds→Rs PyData:=fun δ=>(as δ).bind fun ds=>.ok (.list ds)
noncomputable def aF (gf:List PyData→Rs PyData) (as:Ds→Rs (List PyData)):Ds→Rs PyData:=fun δ=>(as δ).bind gf
noncomputable def truth:PyData→Rs Bool
  | .bool b=>.ok b
  | _=>.no
noncomputable def gT (a:Ds→Rs PyData):Ds→Rs Bool:=fun δ=>(a δ).bind truth
noncomputable def jA (a:Ds→Rs Bool):Ds→Rs Bool:=fun δ=>(a δ).bind fun b=>.ok (!b)
noncomputable def uU (a b:Ds→Rs Bool):Ds→Rs Bool:=fun δ=>(a δ).bind fun x=>if x=true then b δ else .ok false
noncomputable def cOr (a b:Ds→Rs Bool):Ds→Rs Bool:=fun δ=>(a δ).bind fun x=>if x=true then .ok true else b δ
noncomputable def tq (a b:Ds→Rs PyData):Ds→Rs PyData:=fun δ=>(a δ).bind fun x=>(truth x).bind fun t=>if t=true then b δ else .ok (.bool false)
noncomputable def gOr (a b:Ds→Rs PyData):Ds→Rs PyData:=fun δ=>(a δ).bind fun x=>(truth x).bind fun t=>if t=true then .ok (.bool true) else b δ
noncomputable def Gg (a:Ds→Rs PyData):Ds→Rs PyData:=fun δ=>(a δ).bind fun x=>(truth x).bind fun t=>.ok (.bool (!t))
noncomputable def gIf (c:Ds→Rs Bool) (a b:Ds→Rs PyData):Ds→Rs PyData:=fun δ=>(c δ).bind fun x=>if x=true then a δ else b δ
section
variable {X:Cx} {E:XK} {a b c e:Expr} {ga gb gc:Ds→Rs PyData} {pos:Pos}
theorem ah (i:Nat) {x:Str} {pos:Pos} (hN:X.N[i]?=some x:=by rfl) (hv:Vis X.env.scope x:=by first | exact Or.inl rfl | exact Or.inr (Or.inl rfl) | exact Or.inr (Or.inr rfl)) (hd:(x == ("__debug__":Str))=false:=by decide)
    (hcd:(x == ("__classdict__":Str))=false:=by decide):PD X E (.Name x pos) (ag i) :=
  (mX hN hv hd hcd).imp fun σ H Q pz3=>by
    obtain ⟨A,δ,R,o⟩:=pz3
    unfold ag at o
    split at o
    · rename_i d e
      obtain ⟨v,e1,h⟩:=R.get i d e
      exact ⟨v,e1,o v H (aM.refl H) h⟩
    · exact o.elim
theorem Aa {v:V} {d:PyData} (h:PE X e (tC v)) (hi:∀ K H,Is K H d v):PD X E e (gC d):=h.imp fun σ H Q qz3=>(by obtain ⟨A,δ,R,o⟩:=qz3; exact o v H (aM.refl H) (hi _ _))
theorem aH {i j pos}:PD X E (.Constant (.int i) j pos) (gC (.int i)):=Aa jz fun _ _=>c6
theorem jX {i j pos}:PD X E (.Constant (.bool i) j pos) (gC (.bool i)):=Aa Fg fun _ _=>is_bool
theorem iQ {j pos}:PD X E (.Constant .none j pos) (gC .none):=Aa Dm fun _ _=>is_none
theorem AM {i j pos}:PD X E (.Constant (.str i) j pos) (gC (.str i)):=Aa Dv fun _ _=>A7
theorem gJ {i:Int} {x:Str} {pos:Pos} (hm:∃ t,X.mg x=some (.int i t)) (hg:Gl X x:=by rfl) (hd:(x == ("__debug__":Str))=false:=by decide):PD X E (.Name x pos) (gC (.int i)):=by
  obtain ⟨t,hm⟩:=hm
  exact Aa (BS (v:=.int i) hg hm ⟨_,rfl⟩ hd) fun _ _=>c6
noncomputable def OpD (K:PySem.W.Frag) (f:PyData→PyData→Option PyData) (r:R2):Prop :=
  ∀ (d1 d2 d:PyData) (x y:V) (H:Hp) (A:List Addr) (Q:VK),f d1 d2=some d→Ls H A→Is K (del H A) d1 x→Is K (del H A) d2 y→(∀ v H',aM H H'→Is K (del H' A) d v→Q v H')→r x y H Q
theorem g2.read {r:R2} {f:PyData→PyData→Option PyData} {σ:St} {H:Hp} {A:List Addr} {δ:Ds} {Q:VK} {K:PySem.W.Frag} (hr:OpD K f r) (R:fF K H A δ σ) (o:iO K E A H (g2 f ga gb δ) Q) :
    tOp r (eD K E ga) (eD K E gb) σ H Q:=by
  unfold g2 at o
  refine eD.run R (fun d1 e1 v H1 s1 R1 h1=>?_) (fun C e1 H' s'=>?_) (fun e1=>?_)
  · rw [e1] at o
    refine eD.run R1 (fun d2 e2 u H2 s2 R2 h2=>?_) (fun C e2 H' s'=>?_) (fun e2=>?_)
    · simp only [Rs.ai,e2] at o
      cases e3:f d1 d2 with
      | none=>rw [e3] at o; exact o.elim
      | some d =>
        rw [e3] at o
        exact hr d1 d2 d v u H2 A Q e3 R2.ls (h1.same s2.del) h2 fun w H' s q=>o w H' (s1.trans (s2.trans s)) q
    · simp only [Rs.ai,e2,Rs.jl] at o
      exact o H' (s1.trans s')
    · simp only [Rs.ai,e2,Rs.dN] at o
      exact o
  · rw [e1] at o; exact o H' s'
  · rw [e1] at o; exact o
theorem jC {r:R2} {f:PyData→PyData→Option PyData} (hr:OpD X.K f r) (ha:PD X E a ga) (hb:PD X E b gb) (mk:∀ {ta tb:TE},PE X a ta→PE X b tb→PE X e (tOp r ta tb)):PD X E e (g2 f ga gb) :=
  (mk ha hb).imp fun σ H Q qz3=>(by obtain ⟨A,δ,R,o⟩:=qz3; exact g2.read hr R o)
theorem md {r:R2} {f:PyData→PyData→Option PyData} (hr:OpD X.K f r) (ha:PD X E a ga) (hb:PD X E b gb) (mk:∀ {ta tb:TE},PE X a ta→PE X b tb→PT X e (C9 (tOp r ta tb))):PCD X E e (gT (g2 f ga gb)) :=
  (mk ha hb).imp fun σ H Q pz3=>by
    obtain ⟨A,δ,R,o⟩:=pz3
    refine g2.read (Q:=fun x H'=>∃ k,x=.bl k∧Q k H') hr R ?_
    unfold gT at o
    cases q:g2 f ga gb δ with
    | no=>rw [q] at o; exact o
    | rz C=>rw [q] at o; exact o
    | ok d =>
      rw [q] at o
      cases d with
      | bool k=>exact fun v H' s h=>⟨k,h.ofBool,o H' s⟩
      | _=>exact o.elim
noncomputable def dI (f:Int→Int→Option PyData):PyData→PyData→Option PyData
  | .int i,.int j=>f i j
  | _,_=>none
theorem xu {f:Int→Int→Option PyData} {d1 d2 d:PyData} (h:dI f d1 d2=some d):∃ i j,d1=.int i∧d2=.int j∧f i j=some d:=by
  unfold dI at h
  split at h
  · exact ⟨_,_,rfl,rfl,h⟩
  · cases h
noncomputable def kW:=dI fun i j=>some (.int (i - j))
noncomputable def qK:=dI fun i j=>if 0 < j then some (.int (i % j)) else none
noncomputable def vI:=dI fun i j=>if 0 < j∧j < 1073741824 then some (.int (i / j)) else none
noncomputable def dLt:=dI fun i j=>some (.bool (decide (i < j)))
noncomputable def dLe:=dI fun i j=>some (.bool (decide (i≤j)))
noncomputable def dGt:=dI fun i j=>some (.bool (decide (j < i)))
noncomputable def dGe:=dI fun i j=>some (.bool (decide (j≤i)))
theorem qy {K:PySem.W.Frag} {f:Int→Int→PyData} {v:Int→Int→V} (hv:∀ i j K H,Is K H (f i j) (v i j)):OpD K (dI fun i j=>some (f i j)) (rI0 v):=fun d1 d2 d x y H A Q e hA h1 h2 k=>by
  obtain ⟨i,j,rfl,rfl,e⟩:=xu e
  cases e
  exact ⟨i,j,h1.ofInt,h2.ofInt,k _ H (aM.refl H) (hv _ _ _ _)⟩
theorem Dl {K:PySem.W.Frag} {C C':Int→Int→Prop} [∀ i j,Decidable (C' i j)] {f:Int→Int→PyData} {v:Int→Int→V} (hc:∀ i j,C' i j→C i j) (hv:∀ i j K H,Is K H (f i j) (v i j)):OpD K (dI fun i j=>if C' i j then some (f i j) else none) (rI C v):=fun d1 d2 d x y H A Q e hA h1 h2 k=>by
  obtain ⟨i,j,rfl,rfl,e2⟩:=xu e
  by_cases z:C' i j
  · simp only [if_pos z] at e2
    cases e2
    exact ⟨i,j,h1.ofInt,h2.ofInt,hc i j z,k _ H (aM.refl H) (hv _ _ _ _)⟩
  · simp only [if_neg z] at e2; cases e2
theorem jH (ha:PD X E a ga) (hb:PD X E b gb):PD X E (.BinOp a .Sub b pos) (g2 kW ga gb):=jC (qy fun _ _ _ _=>c6) ha hb (fV DX)
theorem zF (ha:PD X E a ga) (hb:PD X E b gb):PD X E (.BinOp a .Mod b pos) (g2 qK ga gb):=jC (Dl (fun _ _ h=>h) fun _ _ _ _=>c6) ha hb (fV p6)
theorem AD (ha:PD X E a ga) (hb:PD X E b gb):PD X E (.BinOp a .FloorDiv b pos) (g2 vI ga gb):=jC (Dl (C:=FD) (fun _ _ h=>h) fun _ _ _ _=>c6) ha hb (fV BA)
theorem EW (ha:PD X E a ga) (hb:PD X E b gb):PD X E (.Compare a [.LtE] [b] pos) (g2 dLe ga gb):=jC (qy fun _ _ _ _=>is_bool) ha hb fun h1 h2=>tK xv h1 h2 (mW _)
theorem AF (ha:PD X E a ga) (hb:PD X E b gb):PCD X E (.Compare a [.LtE] [b] pos) (gT (g2 dLe ga gb)):=md (qy fun _ _ _ _=>is_bool) ha hb fun h1 h2=>kK xv h1 h2 (mW _)
open PySem.SeqAt in
noncomputable def dEq (x y:PyData):Option PyData:=if bU x && bU y && shaped x && shaped y then some (.bool (PyData.eqv x y)) else none
open PySem.SeqAt in
noncomputable def dNe (x y:PyData):Option PyData:=if bU x && bU y && shaped x && shaped y then some (.bool (!PyData.eqv x y)) else none
open PySem.SeqAt in
theorem Bm {K:PySem.W.Frag}:OpD K dEq (fun x y H Q=>∃ d e,IsD K H d x∧IsD K H e y∧shaped d=true∧shaped e=true∧Q (.bl (PyData.eqv d e)) H):=fun d1 d2 d x y H A Q e hA h1 h2 k=>by
  unfold dEq at e
  split at e
  · rename_i z
    simp only [Bool.and_eq_true] at z
    cases e
    exact ⟨d1,d2,(h1.same aX).isd z.1.1.1,(h2.same aX).isd z.1.1.2,z.1.2,z.2,k _ H (aM.refl H) is_bool⟩
  · cases e
open PySem.SeqAt in
theorem ED {K:PySem.W.Frag}:OpD K dNe (fun x y H Q=>∃ d e,IsD K H d x∧IsD K H e y∧shaped d=true∧shaped e=true∧Q (.bl (!PyData.eqv d e)) H):=fun d1 d2 d x y H A Q e hA h1 h2 k=>by
  unfold dNe at e
  split at e
  · rename_i z
    simp only [Bool.and_eq_true] at z
    cases e
    exact ⟨d1,d2,(h1.same aX).isd z.1.1.1,(h2.same aX).isd z.1.1.2,z.1.2,z.2,k _ H (aM.refl H) is_bool⟩
  · cases e
theorem xr {k:Nat} (hr:fm k X.A) (ha:PD X E a ga) (hb:PD X E b gb):PD X E (.Compare a [.Eq] [b] pos) (g2 dEq ga gb):=jC Bm ha hb fun h1 h2=>tK (vH hr.units) h1 h2 (mW _)
theorem qb {k:Nat} (hr:fm k X.A) (ha:PD X E a ga) (hb:PD X E b gb):PCD X E (.Compare a [.Eq] [b] pos) (gT (g2 dEq ga gb)):=md Bm ha hb fun h1 h2=>kK (vH hr.units) h1 h2 (mW _)
theorem o5 {k:Nat} (hr:fm k X.A) (ha:PD X E a ga) (hb:PD X E b gb):PCD X E (.Compare a [.NotEq] [b] pos) (gT (g2 dNe ga gb)):=md ED ha hb fun h1 h2=>kK (EK hr.units) h1 h2 (mW _)
noncomputable def dO:PyData→Bool
  | .none=>true
  | _=>false
noncomputable def oZ (x:PyData):Option PyData:=some (.bool (dO x))
noncomputable def e7 (x:PyData):Option PyData:=some (.bool (!dO x))
theorem g1.read {tt:(VK)→VK} {f:PyData→Option PyData} {σ:St} {H:Hp} {A:List Addr} {δ:Ds} {Q:VK} {K:PySem.W.Frag} (R:fF K H A δ σ) (o:iO K E A H (g1 f ga δ) Q)
    (hr:∀ d1 d x H',f d1=some d→Ls H' A→aM H H'→Is K (del H' A) d1 x→(∀ v H2,aM H' H2→Is K (del H2 A) d v→Q v H2)→tt Q x H'):eD K E ga σ H (tt Q):=by
  unfold g1 at o
  refine eD.run R (fun d1 e1 v H1 s1 R1 h1=>?_) (fun C e1 H' s'=>?_) (fun e1=>?_)
  · simp only [e1,Rs.ai] at o
    cases e3:f d1 with
    | none=>rw [e3] at o; exact o.elim
    | some d=>rw [e3] at o; exact hr d1 d v H1 e3 R1.ls s1 h1 fun w H' s q=>o w H' (s1.trans s) q
  · rw [e1] at o; exact o H' s'
  · rw [e1] at o; exact o
theorem ua {K:PySem.W.Frag} {H:Hp} {d:PyData} {v:V} (h:Is K H d v):decide (v=.non)=dO d:=by
  by_cases z:v=.non
  · rw [decide_eq_true z,h.isNone.mp z]; rfl
  · rw [decide_eq_false z]
    have:d≠.none:=fun q=>z (h.isNone.mpr q)
    cases d <;> first | (exact absurd rfl this) | rfl
theorem An {j pos'} (ha:PD X E a ga):PD X E (.Compare a [.Is] [.Constant .none j pos'] pos) (g1 oZ ga) :=
  (zE (zP ha)).imp fun σ H Q ⟨A,δ,R,o⟩=>g1.read (tt:=fun Q x H1=>Q (.bl (decide (x=.non))) H1) R o fun d1 d x H' e _ _ h k=>by
    cases e; rw [ua h]; exact k _ H' (aM.refl _) is_bool
theorem xM {j pos'} (ha:PD X E a ga):PD X E (.Compare a [.IsNot] [.Constant .none j pos'] pos) (g1 e7 ga) :=
  (zE (xW ha)).imp fun σ H Q ⟨A,δ,R,o⟩=>g1.read (tt:=fun Q x H1=>Q (.bl (!decide (x=.non))) H1) R o fun d1 d x H' e _ _ h k=>by
    cases e; rw [ua h]; exact k _ H' (aM.refl _) is_bool
theorem wR {t:TE} (h:PT X e (tB t)) (k:∀ σ H Q,eD X.K E ga σ H Q→t σ H Q):PCD X E e (gT ga):=h.imp fun σ H Q ⟨A,δ,R,o⟩=>k σ H _ ⟨A,δ,R,by
  unfold gT at o
  cases q:ga δ with
  | no=>rw [q] at o; exact o
  | rz C=>rw [q] at o; exact o
  | ok d =>
    rw [q] at o
    cases d with
    | bool c=>exact fun v H' s h=>⟨c,h.ofBool,o H' s⟩
    | _=>exact o.elim⟩
theorem cG (h:PD X E e ga) (he:∀ whole,isTrue e X.env whole=(do let v ← whole; standAt e.pos; holding [v] (truthy v)):=by intro _; rfl):PCD X E e (gT ga):=wR (En h he) fun _ _ _ h=>h
theorem tm {j pos'} (ha:PD X E a ga):PCD X E (.Compare a [.Is] [.Constant .none j pos'] pos) (gT (g1 oZ ga)) :=
  wR (xl (zP ha)) fun σ H Q ⟨A,δ,R,o⟩=>g1.read (tt:=fun Q x H1=>Q (.bl (decide (x=.non))) H1) R o fun d1 d x H' e _ _ h k=>by
    cases e; rw [ua h]; exact k _ H' (aM.refl _) is_bool
theorem mM {j pos'} (ha:PD X E a ga):PCD X E (.Compare a [.IsNot] [.Constant .none j pos'] pos) (gT (g1 e7 ga)) :=
  wR (xl (xW ha)) fun σ H Q ⟨A,δ,R,o⟩=>g1.read (tt:=fun Q x H1=>Q (.bl (!decide (x=.non))) H1) R o fun d1 d x H' e _ _ h k=>by
    cases e; rw [ua h]; exact k _ H' (aM.refl _) is_bool
theorem Bc {ca:Ds→Rs Bool} {f:Bool→Rs Bool} {σ:St} {H:Hp} {A:List Addr} {δ:Ds} {Q:Bool→Hp→Prop} {K:PySem.W.Frag} {t:Bool→Hp→Prop} (R:fF K H A δ σ) (o:uD E H ((ca δ).bind f) Q)
    (k:∀ b H1,aM H H1→fF K H1 A δ σ→uD E H1 (f b) Q→t b H1):cD K E ca σ H t:=by
  refine cD.run R (fun b e H1 s1 R1=>?_) (fun C e H' s'=>?_) (fun e=>?_)
  · rw [e] at o; exact k b H1 s1 R1 (uD.mono (show uD E H (f b) Q from o) s1)
  · rw [e] at o; exact o H' s'
  · rw [e] at o; exact o
variable {ca cb:Ds→Rs Bool} {rest:List Expr}
theorem eo (ha:PCD X E a ca):PCD X E (.UnaryOp .Not a pos) (jA ca):=(DM ha).imp fun σ H Q qz3=>(by obtain ⟨A,δ,R,o⟩:=qz3; exact Bc R o fun b H1 s1 R1 o=>o H1 (aM.refl _))
theorem vy (ha:PCD X E a ca):PWD X E (.BoolOp .And [a] pos) ca:=BX ha
theorem kR (ha:PCD X E a ca):PWD X E (.BoolOp .Or [a] pos) ca:=Dw ha
theorem yv (ha:PCD X E a ca) (hb:PWD X E (.BoolOp .And (b::rest) pos) cb):PWD X E (.BoolOp .And (a::b::rest) pos) (uU ca cb):=PW.imp (Es ha hb) fun σ H Q ⟨A,δ,R,o⟩=>Bc R o fun b H1 s1 R1 o=>by
  cases b with
  | true=>exact ⟨A,δ,R1,o⟩
  | false=>exact o H1 (aM.refl _)
theorem ni (ha:PCD X E a ca) (hb:PWD X E (.BoolOp .Or (b::rest) pos) cb):PWD X E (.BoolOp .Or (a::b::rest) pos) (cOr ca cb):=PW.imp (FL ha hb) fun σ H Q ⟨A,δ,R,o⟩=>Bc R o fun b H1 s1 R1 o=>by
  cases b with
  | false=>exact ⟨A,δ,R1,o⟩
  | true=>exact o H1 (aM.refl _)
theorem n9 (h:PWD X E e ca):PCD X E e ca:=PW.pt h
theorem C6 {f:PyData→Rs PyData} {σ:St} {H:Hp} {A:List Addr} {δ:Ds} {Q:VK} {K:PySem.W.Frag} {t:VK} (R:fF K H A δ σ) (o:iO K E A H ((ga δ).bind f) Q)
    (k:∀ d v H1,aM H H1→fF K H1 A δ σ→Is K (del H1 A) d v→iO K E A H1 (f d) Q→t v H1):eD K E ga σ H t:=by
  refine eD.run R (fun d e v H1 s1 R1 h1=>?_) (fun C e H' s'=>?_) (fun e=>?_)
  · rw [e] at o; exact k d v H1 s1 R1 h1 (iO.mono (show iO K E A H (f d) Q from o) s1)
  · rw [e] at o; exact o H' s'
  · rw [e] at o; exact o
theorem pJ {K:PySem.W.Frag} {E:XK} {A:List Addr} {H:Hp} {d:PyData} {f:Bool→Rs PyData} {Q:VK} (o:iO K E A H ((truth d).bind f) Q):∃ t,d=.bool t∧iO K E A H (f t) Q:=by
  cases d with
  | bool t=>exact ⟨t,rfl,o⟩
  | _=>exact o.elim
theorem m7 {op} (ha:PD X E a ga):PD X E (.BoolOp op [a] pos) ga:=DV ha
theorem pU (ha:PD X E a ga) (hb:PD X E (.BoolOp .And (b::rest) pos) gb):PD X E (.BoolOp .And (a::b::rest) pos) (tq ga gb):=(EB ha hb).imp fun σ H Q ⟨A,δ,R,o⟩=>C6 R o fun d v H1 s1 R1 h1 o=>by
  obtain ⟨t,rfl,o⟩:=pJ o
  refine ⟨t,h1.ofBool,?_⟩
  cases t with
  | true=>exact ⟨A,δ,R1,o⟩
  | false=>exact o _ H1 (aM.refl _) is_bool
theorem EZ (ha:PD X E a ga) (hb:PD X E (.BoolOp .Or (b::rest) pos) gb):PD X E (.BoolOp .Or (a::b::rest) pos) (gOr ga gb):=(ER ha hb).imp fun σ H Q ⟨A,δ,R,o⟩=>C6 R o fun d v H1 s1 R1 h1 o=>by
  obtain ⟨t,rfl,o⟩:=pJ o
  refine ⟨t,h1.ofBool,?_⟩
  cases t with
  | false=>exact ⟨A,δ,R1,o⟩
  | true=>exact o _ H1 (aM.refl _) is_bool
theorem C8 (hc:PCD X E c ca) (ha:PD X E a ga) (hb:PD X E b gb):PD X E (.IfExp c a b pos) (gIf ca ga gb):=(Bo hc ha hb).imp fun σ H Q pz3=>by
  obtain ⟨A,δ,R,o⟩:=pz3
  unfold gIf at o
  refine cD.run R (fun t e H1 s1 R1=>?_) (fun C e H' s'=>?_) (fun e=>?_)
  · rw [e] at o
    have o:=iO.mono (show iO X.K E A H (if t=true then ga δ else gb δ) Q from o) s1
    cases t with
    | true=>exact ⟨A,δ,R1,o⟩
    | false=>exact ⟨A,δ,R1,o⟩
  · rw [e] at o; exact o H' s'
  · rw [e] at o; exact o
noncomputable def qL:PyData→Option PyData
  | .int i=>some (.int (-i))
  | _=>none
theorem sJ (ha:PD X E a ga):PD X E (.UnaryOp .USub a pos) (g1 qL ga):=(E4 EC ha).imp fun σ H Q ⟨A,δ,R,o⟩=>g1.read (tt:=fun Q x H1=>∃ i,x=.int i∧Q (.int (-i)) H1) R o fun d1 d x H' e _ _ h k=>by
  cases d1 with
  | int i=>cases e; exact ⟨i,h.ofInt,k _ H' (aM.refl _) c6⟩
  | _=>cases e
variable {es:List Expr} {gs:Ds→Rs (List PyData)}
theorem aj:PAD X E [] ao:=⟨iU.imp fun σ H Q qz3=>(by obtain ⟨A,δ,R,o⟩:=qz3; exact o [] H (aM.refl _) gK),fun δ ds e=>by cases e; rfl⟩
theorem af (ha:PD X E a ga) (hr:PAD X E es gs) (hs:starEach (a::es) X.env=(false,eval a X.env)::starEach es X.env:=by rfl):PAD X E (a::es) (ae ga gs):=by
  refine ⟨(fT ha hr.1 hs).imp fun σ H Q ⟨A,δ,R,o⟩=>?_,fun δ ds e=>?_⟩
  · unfold ae at o
    refine eD.run R (fun d e v H1 s1 R1 h1=>?_) (fun C e H' s'=>?_) (fun e=>?_)
    · simp only [e,Rs.ai] at o
      refine aD.run R1 (fun ds e2 vs H2 s2 R2 h2=>?_) (fun C e2 H' s'=>?_) (fun e2=>?_)
      · simp only [e2,Rs.ai] at o
        exact o _ H2 (s1.trans s2) (fQ (h1.same s2.del) h2)
      · simp only [e2,Rs.jl] at o; exact o H' (s1.trans s')
      · simp only [e2,Rs.dN] at o; exact o
    · simp only [e,Rs.jl] at o; exact o H' s'
    · simp only [e,Rs.dN] at o; exact o
  · unfold ae at e
    cases q:ga δ with
    | ok d =>
      cases q2:gs δ with
      | ok l =>
        simp only [q,q2,Rs.ai] at e
        cases e
        simp [hr.2 δ l q2]
      | rz C=>simp only [q,q2,Rs.ai,Rs.jl] at e; cases e
      | no=>simp only [q,q2,Rs.ai,Rs.dN] at e; cases e
    | rz C=>simp only [q,Rs.jl] at e; cases e
    | no=>simp only [q,Rs.dN] at e; cases e
theorem vg {f:List PyData→Rs PyData} {σ:St} {H:Hp} {A:List Addr} {δ:Ds} {Q:VK} {K:PySem.W.Frag} {t:List V→Hp→Prop} (R:fF K H A δ σ) (o:iO K E A H ((gs δ).bind f) Q)
    (k:∀ ds vs H1,gs δ=.ok ds→aM H H1→fF K H1 A δ σ→Iss K (del H1 A) ds vs→iO K E A H1 (f ds) Q→t vs H1):aD K E gs σ H t:=by
  refine aD.run R (fun d e v H1 s1 R1 h1=>?_) (fun C e H' s'=>?_) (fun e=>?_)
  · rw [e] at o; exact k d v H1 e s1 R1 h1 (iO.mono (show iO K E A H (f d) Q from o) s1)
  · rw [e] at o; exact o H' s'
  · rw [e] at o; exact o
theorem nq {x1} (h:PAD X E es gs) (hl:es.length≤1000:=by decide):PD X E (.Tuple es x1 pos) (kf gs):=(EI h.1).imp fun σ H Q ⟨A,δ,R,o⟩=>vg R o fun ds vs H1 e s1 R1 h1 o=>by
  have n:=h.2 δ ds e
  have m:=h1.length
  exact ⟨by rw [sizeLine_eq]; omega,fun p hp=>o _ _ (cE hp) (mI R1.ls hp h1)⟩
theorem fX (h:PAD X E es gs) (hl:es.length≤1000:=by decide):PD X E (.List es pos) (dE gs):=(wt h.1).imp fun σ H Q ⟨A,δ,R,o⟩=>vg R o fun ds vs H1 e s1 R1 h1 o=>by
  have n:=h.2 δ ds e
  have m:=h1.length
  exact ⟨by rw [sizeLine_eq]; omega,fun p hp=>o _ _ (cE hp) (kU R1.ls hp h1)⟩
noncomputable def spD (K:PySem.W.Frag) (n:Nat) (gf:List PyData→Rs PyData):Sp:=fun vs H Q E=>∃ A ds,Ls H A∧Iss K (del H A) ds vs∧ds.length=n∧iO K E A H (gf ds) Q
structure aY (P:Program) (w:World) (K:PySem.W.Frag) (mg:Str→Option Value) (base:Heap) (k:Nat) (x:Str) (n:Nat) (gf:List PyData→Rs PyData):Prop where
  ex:∃ f fd ps,jk P w K mg base (CXW P w) k f fd ps (spD K n gf)∧mg x=some (.ref f)∧PySem.W.keepIn K (.ref f)=true∧Binds K fd ps []
theorem gS {X:Cx}:Passes (CXW X.prog X.w) X E0:=fun _ _ _ _ _ _ _ qz7=>(by obtain ⟨_,_,_,_,_,_,h,_⟩:=qz7; exact h.elim)
theorem aN {k j:Nat} {x:Str} {p:Pos} {gf:List PyData→Rs PyData} (D:aY X.prog X.w X.K X.mg X.base k x (e::es).length gf) (hr:fm j X.A) (hx:Passes (CXW X.prog X.w) X E) (ha:PAD X E (e::es) gs) (hk:k≤j:=by decide) (hg:Gl X x:=by rfl)
    (hdb:(x == ("__debug__":Str))=false:=by decide) (he:starEach (e::es) X.env=(false,eval e X.env)::starEach es X.env:=by rfl) (hpl:(backTo pos (starEach es X.env)).any (·.1)=false:=by rfl) :
    PD X E (.Call (.Name x p) (e::es) [] pos) (aF gf gs):=by
  obtain ⟨f,fd,ps,F,hm,hkp,hb⟩:=D.ex
  refine (xN F (hr.mono hk) hg hm hkp hb .nil hx ha.1 hdb he hpl).imp fun σ H Q rz3=>?_
  obtain ⟨A,δ,R,o⟩:=rz3
  refine vg R o fun ds vs H1 e s1 R1 h1 o=>?_
  refine ⟨A,ds,R1.ls,by simpa using h1,ha.2 δ ds e,o⟩
noncomputable def FnD (K:PySem.W.Frag) (f:List PyData→Option PyData) (r:List V→Hp→VK→Prop):Prop :=
  ∀ (ds:List PyData) (d:PyData) (vs:List V) (H:Hp) (A:List Addr) (Q:VK),f ds=some d→Ls H A→Iss K (del H A) ds vs→(∀ v H',aM H H'→Is K (del H' A) d v→Q v H')→r vs H Q
theorem gW {r:List V→Hp→VK→Prop} {f:List PyData→Option PyData} (hf:FnD X.K f r) (ha:PAD X E es gs) (mk:∀ {t:TA},PA X es t→PE X e (tCB r t)):PD X E e (gF f gs) :=
  (mk ha.1).imp fun σ H Q ⟨A,δ,R,o⟩=>vg R o fun ds vs H1 e s1 R1 h1 o=>by
    cases q:f ds with
    | none=>rw [q] at o; exact o.elim
    | some d=>rw [q] at o; exact hf ds d vs H1 A Q q R1.ls h1 o
end
end L2
set_option maxRecDepth 100000
set_option maxHeartbeats 4000000
namespace L2
open PySem PySem.Spec PyProof.Rows
section
variable {X:Cx} {E:XK} {a b c e:Expr} {ga gb gc:Ds→Rs PyData} {pos:Pos} {es:List Expr} {gs:Ds→Rs (List PyData)}
noncomputable def De (K:PySem.W.Frag):R2:=fun x y H Q=>∃ a b xs ys,x=.ref a∧y=.ref b∧SqT K H a xs∧SqT K H b ys∧xs.length + ys.length≤sizeLine ∧
  (xs=[]→Q (.ref b) H)∧(xs≠[]→ys=[]→Q (.ref a) H)∧(xs≠[]→ys≠[]→∀ p,H p=none→Q (.ref p) (upd H p (.tup (xs++ys))))
theorem CK:OpR X (binaryOp .Add) (De X.K):=by
  intro pins s σ H x y v u Q I rx ry h
  obtain ⟨a,b,xs,ys,rfl,rfl,ha,hb,hz,q0,q1,q2⟩:=h
  by_cases hx:xs=[]
  · cases rx
    cases ry
    obtain ⟨vs,r1,p1,_⟩:=I.tuple ha
    obtain ⟨ws,r2,p2,_⟩:=I.tuple hb
    obtain ⟨⟨cls,dd,data,sl⟩,ho,hc,n,hd⟩:=id p1
    obtain ⟨⟨cls2,dd2,data2,sl2⟩,ho2,hc2,n2,hd2⟩:=id p2
    simp only at hc hd hc2 hd2
    subst hc hd hc2 hd2
    have hv:vs=[]:=r1.nil_iff.mpr hx
    exact concat_meets ⟨_,ho,rfl⟩ ⟨_,ho2,rfl⟩ noFill_tuple_add seq_tuple_add PySem.F.slot_tuple_add PySem.F.entry_tuple_add (PySem.F.args_tuple_add_2 _ _)
      (tuple_addW0 a b vs.toArray ws.toArray n n2 dd dd2 sl sl2 (by simp [hv])) ⟨ho,ho2,⟨.ref b,H,I,rfl,q0 hx⟩⟩
  · exact Ce pins s σ H _ _ v u Q I rx ry ⟨a,b,xs,ys,rfl,rfl,ha,hb,hx,hz,q1 hx,q2 hx⟩
noncomputable def bz:PyData→PyData→Option PyData
  | .int i,.int j=>some (.int (i + j))
  | .list x,.list y=>if x.length + y.length≤1000000 then some (.list (x++y)) else none
  | .tuple x,.tuple y=>if x.length + y.length≤1000000 then some (.tuple (x++y)) else none
  | _,_=>none
theorem Cp {K:PySem.W.Frag}:OpD K bz (fun x y H Q=>rI0 (fun i j=>.int (i + j)) x y H Q∨FH x y H Q∨De K x y H Q):=fun d1 d2 d x y H A Q e hA h1 h2 k=>by
  unfold bz at e
  split at e
  · cases e
    exact .inl ⟨_,_,h1.ofInt,h2.ofInt,k _ H (aM.refl _) c6⟩
  · rename_i l1 l2
    split at e
    · rename_i hz
      cases e
      obtain ⟨p,xs,rfl,hp,hx⟩:=h1.ofLst
      obtain ⟨q,ys,rfl,hq,hy⟩:=h2.ofLst
      refine .inr (.inl ⟨p,q,xs,ys,rfl,rfl,aX _ _ hp,aX _ _ hq,by rw [hx.length,hy.length,sizeLine_eq]; omega,fun r hr=>k _ _ (cE hr) (kU hA hr (hx.append hy))⟩)
    · cases e
  · rename_i l1 l2
    split at e
    · rename_i hz
      cases e
      obtain ⟨p,xs,rfl,hp,hx⟩:=h1.ofTup
      obtain ⟨q,ys,rfl,hq,hy⟩:=h2.ofTup
      refine .inr (.inr ⟨p,q,xs,ys,rfl,rfl,SqT.of (aX _ _ hp),SqT.of (aX _ _ hq),by rw [hx.length,hy.length,sizeLine_eq]; omega,fun z=>?_,fun _ z=>?_,fun _ _ r hr=>k _ _ (cE hr) (mI hA hr (hx.append hy))⟩)
      · subst z
        have:l1=[]:=List.length_eq_zero_iff.mp (by rw [← hx.length]; rfl)
        subst this
        exact k _ H (aM.refl _) (lH hq hy)
      · subst z
        have:l2=[]:=List.length_eq_zero_iff.mp (by rw [← hy.length]; rfl)
        subst this
        rw [List.append_nil] at k
        exact k _ H (aM.refl _) (lH hp hx)
    · cases e
  · cases e
theorem b9 (ha:PD X E a ga) (hb:PD X E b gb):PD X E (.BinOp a .Add b pos) (g2 bz ga gb):=jC Cp ha hb (fV (m6.or (Eg.or CK)))
noncomputable def dIx:PyData→PyData→Option PyData
  | .list x,.int i=>atI x i
  | .tuple x,.int i=>atI x i
  | _,_=>none
theorem yh {K:PySem.W.Frag} {H:Hp} {ds:List PyData} {vs:List V} {i:Int} {d:PyData} (h:Iss K H ds vs) (e:atI ds i=some d):∃ v,atI vs i=some v∧Is K H d v:=by
  unfold atI at e ⊢
  rw [h.length]
  cases q:ixN ds.length i with
  | none=>rw [q] at e; cases e
  | some j=>rw [q] at e; exact h.getD e
theorem Em {K:PySem.W.Frag}:OpD K dIx (fun x y H Q=>E6 K x y H Q∨ES K x y H Q):=fun d1 d2 d x y H A Q e hA h1 h2 k=>by
  unfold dIx at e
  split at e
  · obtain ⟨p,xs,rfl,hp,hx⟩:=h1.ofLst
    obtain ⟨v,ev,hv⟩:=yh hx e
    exact .inl ⟨p,xs,_,v,rfl,h2.ofInt,SqL.of (aX _ _ hp),ev,k _ H (aM.refl _) hv⟩
  · obtain ⟨p,xs,rfl,hp,hx⟩:=h1.ofTup
    obtain ⟨v,ev,hv⟩:=yh hx e
    exact .inr ⟨p,xs,_,v,rfl,h2.ofInt,SqT.of (aX _ _ hp),ev,k _ H (aM.refl _) hv⟩
  · cases e
theorem b5 (ha:PD X E a ga) (hb:PD X E b gb) (hs:xF b:=by intro _ _; rfl):PD X E (.Subscript a b pos) (g2 dIx ga gb):=jC Em ha hb fun h1 h2=>zK (sH.or DB) h1 h2 hs
noncomputable def fc:List PyData→Option PyData
  | [.list x]=>some (.int x.length)
  | [.tuple x]=>some (.int x.length)
  | _=>none
theorem kX {K:PySem.W.Frag} {H:Hp} {d:PyData} {vs:List V} (h:Iss K H [d] vs):∃ v,vs=[v]∧Is K H d v:=by
  obtain ⟨v,r,rfl,h1,h2⟩:=h.cons_of
  rw [h2.nil_of]
  exact ⟨v,rfl,h1⟩
theorem Fx {K:PySem.W.Frag} {H:Hp} {d e:PyData} {vs:List V} (h:Iss K H [d,e] vs):∃ v u,vs=[v,u]∧Is K H d v∧Is K H e u:=by
  obtain ⟨v,r,rfl,h1,h2⟩:=h.cons_of
  obtain ⟨u,rfl,h3⟩:=kX h2
  exact ⟨v,u,rfl,h1,h3⟩
theorem CA {K:PySem.W.Frag}:FnD K fc (fun xs H Q=>∃ p ys,xs=[.ref p]∧(SqL K H p ys∨SqT K H p ys)∧Q (.int ys.length) H):=fun ds d vs H A Q e hA h k=>by
  unfold fc at e
  split at e
  · cases e
    obtain ⟨v,rfl,hh⟩:=kX h
    obtain ⟨p,xs,rfl,hp,hx⟩:=hh.ofLst
    exact ⟨p,xs,rfl,.inl (SqL.of (aX _ _ hp)),k _ H (aM.refl _) (by rw [hx.length]; exact c6)⟩
  · cases e
    obtain ⟨v,rfl,hh⟩:=kX h
    obtain ⟨p,xs,rfl,hp,hx⟩:=hh.ofTup
    exact ⟨p,xs,rfl,.inr (SqT.of (aX _ _ hp)),k _ H (aM.refl _) (by rw [hx.length]; exact c6)⟩
  · cases e
theorem ip {p:Pos} (hm:X.mg "len"=none) (ha:PAD X E (a::es) gs) (hg:Gl X "len":=by rfl) (he:starEach (a::es) X.env=(false,eval a X.env)::starEach es X.env:=by rfl) (hpl:(backTo pos (starEach es X.env)).any (·.1)=false:=by rfl) :
    PD X E (.Call (.Name "len" p) (a::es) [] pos) (gF fc gs):=gW CA ha fun h=>f6 jE hg hm PySem.boot_len h (by decide) (by decide) he hpl
theorem By:bootBuiltins "int"=some (.type "int"):=by decide +kernel
theorem CM:bootBuiltins "bool"=some (.type "bool"):=by decide +kernel
theorem vh:bootBuiltins "tuple"=some (.type "tuple"):=by decide +kernel
theorem su:bootBuiltins "list"=some (.type "list"):=by decide +kernel
theorem yB:bootBuiltins "isinstance"=some (.builtin "isinstance"):=by decide +kernel
theorem Du:bootBuiltins "all"=some (.builtin "all"):=by decide +kernel
theorem Dz:bootBuiltins "sum"=some (.builtin "sum"):=by decide +kernel
theorem Dt:bootBuiltins "min"=some (.builtin "min"):=by decide +kernel
noncomputable def fg:List PyData→Option (List Int)
  | []=>some []
  | .int i::r=>(fg r).map (i::·)
  | _::_=>none
theorem cQ:∀ {ds:List PyData} {ns:List Int},fg ds=some ns→ds=ns.map PyData.int
  | [],_,h=>by cases h; rfl
  | .int i::r,ns,h=>by
    unfold fg at h
    cases q:fg r with
    | none=>rw [q] at h; cases h
    | some l=>rw [q] at h; cases h; rw [cQ q]; rfl
  | .none::_,_,h=>by cases h
  | .bool _::_,_,h=>by cases h
  | .str _::_,_,h=>by cases h
  | .list _::_,_,h=>by cases h
  | .tuple _::_,_,h=>by cases h
  | .dict _::_,_,h=>by cases h
theorem b4:∀ (ns:List Int),fg (ns.map PyData.int)=some ns
  | []=>rfl
  | n::r=>by rw [List.map_cons]; unfold fg; rw [b4 r]; rfl
noncomputable def gA:List PyData→Option (List Bool)
  | []=>some []
  | .bool i::r=>(gA r).map (i::·)
  | _::_=>none
theorem ku:∀ {ds:List PyData} {ns:List Bool},gA ds=some ns→ds=ns.map PyData.bool
  | [],_,h=>by cases h; rfl
  | .bool i::r,ns,h=>by
    unfold gA at h
    cases q:gA r with
    | none=>rw [q] at h; cases h
    | some l=>rw [q] at h; cases h; rw [ku q]; rfl
  | .none::_,_,h=>by cases h
  | .int _::_,_,h=>by cases h
  | .str _::_,_,h=>by cases h
  | .list _::_,_,h=>by cases h
  | .tuple _::_,_,h=>by cases h
  | .dict _::_,_,h=>by cases h
theorem l5:∀ (ns:List Bool),gA (ns.map PyData.bool)=some ns
  | []=>rfl
  | n::r=>by rw [List.map_cons]; unfold gA; rw [l5 r]; rfl
noncomputable def zt:List PyData→Option PyData
  | [.list x]=>(fg x).map fun ns=>.int ns.sum
  | _=>none
noncomputable def zi:List PyData→Option PyData
  | [.list x]=>(gA x).map fun ns=>.bool (ns.all id)
  | _=>none
theorem BH {K:PySem.W.Frag}:FnD K zt (fun xs H Q=>∃ (a:Addr) (ns:List Int),xs=[.ref a]∧SqL K H a (ns.map V.int)∧Q (.int ns.sum) H):=fun ds d vs H A Q e hA h k=>by
  unfold zt at e
  split at e
  · rename_i x
    cases q:fg x with
    | none=>rw [q] at e; cases e
    | some ns =>
      rw [q] at e; cases e
      obtain ⟨v,rfl,hh⟩:=kX h
      obtain ⟨p,xs,rfl,hp,hx⟩:=hh.ofLst
      rw [cQ q] at hx
      rw [hx.ofInts] at hp
      exact ⟨p,ns,rfl,SqL.of (aX _ _ hp),k _ H (aM.refl _) c6⟩
  · cases e
theorem BE {K:PySem.W.Frag}:FnD K zi (fun xs H Q=>∃ (a:Addr) (ns:List Bool),xs=[.ref a]∧SqL K H a (ns.map V.bl)∧Q (.bl (ns.all id)) H):=fun ds d vs H A Q e hA h k=>by
  unfold zi at e
  split at e
  · rename_i x
    cases q:gA x with
    | none=>rw [q] at e; cases e
    | some ns =>
      rw [q] at e; cases e
      obtain ⟨v,rfl,hh⟩:=kX h
      obtain ⟨p,xs,rfl,hp,hx⟩:=hh.ofLst
      rw [ku q] at hx
      rw [hx.ofBools] at hp
      exact ⟨p,ns,rfl,SqL.of (aX _ _ hp),k _ H (aM.refl _) is_bool⟩
  · cases e
theorem Ep {p:Pos} (hc:X.calm=true) (hm:X.mg "sum"=none) (ha:PAD X E (a::es) gs) (hg:Gl X "sum":=by rfl) (he:starEach (a::es) X.env=(false,eval a X.env)::starEach es X.env:=by rfl) (hpl:(backTo pos (starEach es X.env)).any (·.1)=false:=by rfl) :
    PD X E (.Call (.Name "sum" p) (a::es) [] pos) (gF zt gs):=gW BH ha fun h=>f6 (Bz hc) hg hm Dz h (by decide) (by decide) he hpl
theorem Am {p:Pos} (hc:X.calm=true) (hm:X.mg "all"=none) (ha:PAD X E (a::es) gs) (hg:Gl X "all":=by rfl) (he:starEach (a::es) X.env=(false,eval a X.env)::starEach es X.env:=by rfl) (hpl:(backTo pos (starEach es X.env)).any (·.1)=false:=by rfl) :
    PD X E (.Call (.Name "all" p) (a::es) [] pos) (gF zi gs):=gW BE ha fun h=>f6 (As hc) hg hm Du h (by decide) (by decide) he hpl
noncomputable def qa:List PyData→Option PyData
  | [.int i,.int j]=>some (.int (if j < i then j else i))
  | _=>none
noncomputable def FE:List PyData→Option PyData
  | [.int i,.int j]=>some (.int (if j > i then j else i))
  | _=>none
theorem zR {K:PySem.W.Frag}:FnD K qa (fun xs H Q=>∃ i j,xs=[.int i,.int j]∧Q (.int (if j < i then j else i)) H):=fun ds d vs H A Q e hA h k=>by
  unfold qa at e
  split at e
  · cases e
    obtain ⟨v,u,rfl,h1,h2⟩:=Fx h
    rw [h1.ofInt,h2.ofInt]
    exact ⟨_,_,rfl,k _ H (aM.refl _) c6⟩
  · cases e
theorem xX {p:Pos} (hc:X.calm=true) (hm:X.mg "min"=none) (ha:PAD X E (a::es) gs) (hg:Gl X "min":=by rfl) (he:starEach (a::es) X.env=(false,eval a X.env)::starEach es X.env:=by rfl) (hpl:(backTo pos (starEach es X.env)).any (·.1)=false:=by rfl) :
    PD X E (.Call (.Name "min" p) (a::es) [] pos) (gF qa gs):=gW zR ha fun h=>f6 (zo hc) hg hm Dt h (by decide) (by decide) he hpl
noncomputable def tX:List PyData→Option PyData
  | [.int i]=>some (.int i)
  | [.bool k]=>some (.int (if k then 1 else 0))
  | _=>none
theorem BQ {K:PySem.W.Frag}:FnD K tX (fun xs H Q=>(∃ i,xs=[.int i]∧Q (.int i) H)∨∃ k,xs=[.bl k]∧Q (.int (if k then 1 else 0)) H):=fun ds d vs H A Q e hA h k=>by
  unfold tX at e
  split at e
  · cases e
    obtain ⟨v,rfl,h1⟩:=kX h
    rw [h1.ofInt]
    exact .inl ⟨_,rfl,k _ H (aM.refl _) c6⟩
  · cases e
    obtain ⟨v,rfl,h1⟩:=kX h
    rw [h1.ofBool]
    exact .inr ⟨_,rfl,k _ H (aM.refl _) c6⟩
  · cases e
theorem vf {p:Pos} (hm:X.mg "int"=none) (ha:PAD X E (a::es) gs) (hg:Gl X "int":=by rfl) (he:starEach (a::es) X.env=(false,eval a X.env)::starEach es X.env:=by rfl) (hpl:(backTo pos (starEach es X.env)).any (·.1)=false:=by rfl) :
    PD X E (.Call (.Name "int" p) (a::es) [] pos) (gF tX gs):=gW BQ ha fun h=>rk yG hg hm By h (by decide) (by decide) he hpl
noncomputable def fS:List PyData→Option PyData
  | [.list x]=>some (.tuple x)
  | [.tuple x]=>some (.tuple x)
  | _=>none
theorem yZ {K:PySem.W.Frag}:FnD K fS (fun xs H Q=>∃ p ys,xs=[.ref p]∧((SqL K H p ys∧∀ l,H l=none→Q (.ref l) (upd H l (.tup ys)))∨(SqT K H p ys∧Q (.ref p) H))):=fun ds d vs H A Q e hA h k=>by
  unfold fS at e
  split at e
  · cases e
    obtain ⟨v,rfl,hh⟩:=kX h
    obtain ⟨p,xs,rfl,hp,hx⟩:=hh.ofLst
    exact ⟨p,xs,rfl,.inl ⟨SqL.of (aX _ _ hp),fun l hl=>k _ _ (cE hl) (mI hA hl hx)⟩⟩
  · cases e
    obtain ⟨v,rfl,hh⟩:=kX h
    obtain ⟨p,xs,rfl,hp,hx⟩:=hh.ofTup
    exact ⟨p,xs,rfl,.inr ⟨SqT.of (aX _ _ hp),k _ H (aM.refl _) (lH hp hx)⟩⟩
  · cases e
theorem ir {p:Pos} (hm:X.mg "tuple"=none) (ha:PAD X E (a::es) gs) (hg:Gl X "tuple":=by rfl) (he:starEach (a::es) X.env=(false,eval a X.env)::starEach es X.env:=by rfl) (hpl:(backTo pos (starEach es X.env)).any (·.1)=false:=by rfl) :
    PD X E (.Call (.Name "tuple" p) (a::es) [] pos) (gF fS gs):=gW yZ ha fun h=>rk qG hg hm vh h (by decide) (by decide) he hpl
noncomputable def kZ (T:String) (d:PyData):Option PyData:=if bU d then some (.bool (sF d T)) else none
theorem i8 {T:Str} {T':String} {p p':Pos} (hm:X.mg "isinstance"=none) (hmT:X.mg T=none) (hb:bootBuiltins T=some (.type T')) (hT:T'∈["bool", "int", "list", "tuple"]) (ha:PD X E a ga)
    (hg:Gl X "isinstance":=by rfl) (hgT:Gl X T:=by rfl) (hn:T≠"__name__":=by decide) (hdT:(T == ("__debug__":Str))=false:=by decide) (hs:starEach [a,.Name T p'] X.env=(false,eval a X.env)::starEach [.Name T p'] X.env:=by rfl)
    (hs2:starEach [.Name T p'] X.env=(false,eval (.Name T p') X.env)::starEach [] X.env:=by rfl) (hpl:(backTo pos (starEach [.Name T p'] X.env)).any (·.1)=false:=by rfl) :
    PD X E (.Call (.Name "isinstance" p) [a,.Name T p'] [] pos) (g1 (kZ T') ga):=by
  refine (f6 uM hg hm yB (fT ha (fT (Cq (v:=.ty T') hgT hmT hb rfl hn hdT) iU hs2) hs) (by decide) (by decide) hs hpl).imp fun σ H Q rz3=>?_
  obtain ⟨A,δ,R,o⟩:=rz3
  refine g1.read (tt:=fun Q x H1=>∃ d v T,[x,V.ty T']=[v,.ty T]∧IsD X.K H1 d v∧T∈["bool", "int", "list", "tuple"]∧Q (.bl (sF d T)) H1) R o fun d1 d x H' e _ _ h k=>?_
  unfold kZ at e
  split at e
  · rename_i z
    cases e
    exact ⟨d1,x,T',rfl,(h.same aX).isd z,hT,k _ H' (aM.refl _) is_bool⟩
  · cases e
end
end L2
set_option maxRecDepth 100000
set_option maxHeartbeats 4000000
namespace L2
open PySem PySem.Spec PyProof.Rows
noncomputable def zH (K:PySem.W.Frag) (J:It) (ds:List PyData) (G:Hp):Prop:=∀ (H1:Hp) (B:List Addr),aM G H1→Ls H1 B→(∀ b∈B,G b=none) →
  (∀ i,i < ds.length→J.go i H1)∧J.stop ds.length H1∧∀ i x H2,i < ds.length→J.yld i H1 x H2→aM H1 H2∧∃ d,ds[i]?=some d∧Is K (del H2 B) d x
noncomputable def outI (K:PySem.W.Frag) (E:XK) (A:List Addr) (H:Hp) (r:Rs (List PyData)) (R:It→Hp→Prop):Prop:=match r with
  | .ok ds=>∀ J H',aM H H'→zH K J ds (del H' A)→R J H'
  | .rz C=>∀ H',aM H H'→E (.ref C) none H'
  | .no=>False
noncomputable def iD (K:PySem.W.Frag) (E:XK) (g:Ds→Rs (List PyData)):TI:=fun σ H R=>∃ A δ,fF K H A δ σ∧outI K E A H (g δ) R
noncomputable def PID (X:Cx) (E:XK) (tg iter:Expr) (g:Ds→Rs (List PyData)):Prop:=PI X tg iter (iD X.K E g)
theorem PI.imp {X:Cx} {tg it:Expr} {t t':TI} (h:PI X tg it t) (k:∀ σ H R,t' σ H R→t σ H R):PI X tg it t':=fun pins s σ H R I q=>h pins s σ H R I (k σ H R q)
theorem PI.or {X:Cx} {tg it:Expr} {t t':TI} (h:PI X tg it t) (h':PI X tg it t'):PI X tg it (fun σ H R=>t σ H R∨t' σ H R):=fun pins s σ H R I q=>q.elim (h pins s σ H R I) (h' pins s σ H R I)
section
variable {X:Cx} {E:XK} {tg a:Expr} {ga:Ds→Rs PyData} {pos:Pos}
noncomputable def yo:PyData→Rs (List PyData)
  | .list ds=>.ok ds
  | .tuple ds=>.ok ds
  | _=>.no
theorem sA {G H1:Hp} {B:List Addr} (s:aM G H1) (hB:∀ b∈B,G b=none):aM G (del H1 B):=fun b o e=>by
  rw [cu (fun z=>by rw [hB b z] at e; cases e)]
  exact s b o e
theorem zm {K:PySem.W.Frag} {G:Hp} {p:Addr} {xs:List V} {ds:List PyData} (hp:G p=some (.lst xs)) (h:Iss K G ds xs):zH K (Itl K p) ds G:=fun H1 B s _ hB=>by
  have hl:=h.length
  have hS:SqL K H1 p xs:=SqL.of (s _ _ hp)
  refine ⟨fun i hi=>⟨xs,xs[i]'(by omega),hS,List.getElem?_eq_getElem _⟩,⟨xs,hS,by omega⟩,fun i x H2 hi y=>?_⟩
  obtain ⟨rfl,y⟩:=y
  obtain ⟨d,e,hd⟩:=h.get (y xs hS)
  exact ⟨aM.refl _,d,e,hd.same (sA s hB)⟩
theorem AZ {K:PySem.W.Frag} {G:Hp} {p:Addr} {xs:List V} {ds:List PyData} (hp:G p=some (.tup xs)) (h:Iss K G ds xs):zH K (Itt K p) ds G:=fun H1 B s _ hB=>by
  have hl:=h.length
  have hS:SqT K H1 p xs:=SqT.of (s _ _ hp)
  refine ⟨fun i hi=>⟨xs,xs[i]'(by omega),hS,List.getElem?_eq_getElem _⟩,⟨xs,hS,by omega⟩,fun i x H2 hi y=>?_⟩
  obtain ⟨rfl,y⟩:=y
  obtain ⟨d,e,hd⟩:=h.get (y xs hS)
  exact ⟨aM.refl _,d,e,hd.same (sA s hB)⟩
noncomputable def cm (g:Ds→Rs PyData):Ds→Rs (List PyData):=fun δ=>(g δ).bind yo
theorem cz (h:PD X E a ga):PID X E tg a (cm ga):=(PI.or (Cy h) (DQ h)).imp fun σ H R pz3=>by
  obtain ⟨A,δ,Rp,o⟩:=pz3
  unfold cm at o
  cases q:ga δ with
  | no=>rw [q] at o; exact o.elim
  | rz C=>rw [q] at o; exact .inl (eD.run Rp (fun d e=>by rw [q] at e; cases e) (fun C' e H' s=>by rw [q] at e; cases e; exact o H' s) (fun e=>by rw [q] at e; cases e))
  | ok d =>
    rw [q] at o
    cases d with
    | list ds =>
      refine .inl (eD.run Rp (fun d e v H1 s1 R1 h1=>?_) (fun C' e=>by rw [q] at e; cases e) (fun e=>by rw [q] at e; cases e))
      rw [q] at e; cases e
      obtain ⟨p,xs,rfl,hp,hx⟩:=h1.ofLst
      exact ⟨p,rfl,⟨xs,SqL.of (aX _ _ hp)⟩,o _ H1 s1 (zm hp hx)⟩
    | tuple ds =>
      refine .inr (eD.run Rp (fun d e v H1 s1 R1 h1=>?_) (fun C' e=>by rw [q] at e; cases e) (fun e=>by rw [q] at e; cases e))
      rw [q] at e; cases e
      obtain ⟨p,xs,rfl,hp,hx⟩:=h1.ofTup
      exact ⟨p,rfl,⟨xs,SqT.of (aX _ _ hp)⟩,o _ H1 s1 (AZ hp hx)⟩
    | _=>exact o.elim
noncomputable def b7 (lo:Int) (n:Nat):List PyData:=(List.range n).map fun (i:Nat)=>PyData.int (lo + (i:Int))
theorem dy (lo:Int) (n:Nat):(b7 lo n).length=n:=by simp [b7]
theorem wL {K:PySem.W.Frag} {G:Hp} {lo:Int} {n:Nat}:zH K (Itr lo n) (b7 lo n) G:=fun H1 B s _ hB=>by
  refine ⟨fun i hi=>by rw [dy] at hi; exact hi,by rw [dy]; exact Nat.le_refl _,fun i x H2 hi y=>?_⟩
  obtain ⟨rfl,rfl⟩:=y
  rw [dy] at hi
  exact ⟨aM.refl _,_,by simp [b7,hi],c6⟩
noncomputable def BR:List PyData→Rs (List PyData)
  | [.int j]=>if -(2 ^ 62)≤j∧j < 2 ^ 62 then .ok (b7 0 j.toNat) else .no
  | _=>.no
noncomputable def Fi:List PyData→Rs (List PyData)
  | [.int i,.int j]=>if -(2 ^ 62)≤i∧i < 2 ^ 62∧-(2 ^ 62)≤j∧j < 2 ^ 62 then .ok (b7 i (j - i).toNat) else .no
  | _=>.no
noncomputable def cZ (g:Ds→Rs (List PyData)):Ds→Rs (List PyData):=fun δ=>(g δ).bind BR
noncomputable def EU (g:Ds→Rs (List PyData)):Ds→Rs (List PyData):=fun δ=>(g δ).bind Fi
theorem zU {gs:Ds→Rs (List PyData)} {f:List PyData→Rs (List PyData)} {σ:St} {H:Hp} {A:List Addr} {δ:Ds} {R:It→Hp→Prop} {K:PySem.W.Frag} {t:List V→Hp→Prop} (Rp:fF K H A δ σ) (o:outI K E A H ((gs δ).bind f) R)
    (k:∀ ds vs H1,gs δ=.ok ds→aM H H1→fF K H1 A δ σ→Iss K (del H1 A) ds vs→outI K E A H1 (f ds) R→t vs H1):aD K E gs σ H t:=by
  refine aD.run Rp (fun d e v H1 s1 R1 h1=>?_) (fun C e H' s'=>?_) (fun e=>?_)
  · rw [e] at o
    refine k d v H1 e s1 R1 h1 ?_
    have o:outI K E A H (f d) R:=o
    cases q:f d with
    | ok ds=>rw [q] at o; exact fun J H' s j=>o J H' (s1.trans s) j
    | rz C=>rw [q] at o; exact fun H' s=>o H' (s1.trans s)
    | no=>rw [q] at o; exact o
  · rw [e] at o; exact o H' s'
  · rw [e] at o; exact o
theorem cX {gs:Ds→Rs (List PyData)} {p:Pos} (hm:X.mg "range"=none) (ha:PAD X E [a] gs) (hg:Gl X "range":=by rfl) (hs:starEach [a] X.env=[(false,eval a X.env)]:=by rfl) :
    PID X E tg (.Call (.Name "range" p) [a] [] pos) (cZ gs):=(yN hg hm ha.1 hs).imp fun σ H R ⟨A,δ,Rp,o⟩=>zU Rp o fun ds vs H1 e s1 R1 h1 o=>by
  unfold BR at o
  split at o
  · split at o
    · rename_i z
      obtain ⟨v,rfl,h⟩:=kX h1
      rw [h.ofInt]
      exact ⟨_,rfl,z.1,z.2,o _ H1 (aM.refl _) wL⟩
    · exact o.elim
  · exact o.elim
noncomputable def TgD (K:PySem.W.Frag) (n0 n:Nat) (tgt:PyData→Option Ds) (g:TG):Prop:=∀ (d:PyData) (v:V) (σ σ':St) (H:Hp) (A:List Addr) (Q:St→Hp→Prop) (own:Ds),σ.length=n0→σ'.length=n→Ls H A→Is K (del H A) d v→tgt d=some own →
  own.length=n∧((∀ vs:St,vs.length=n→(∀ (i:Nat) e,own[i]?=some (some e)→∃ u,vs[i]?=some (some u)∧Is K (del H A) e u)→Q (σ++vs) H)→g v (σ++σ') H Q)
noncomputable def bj:PyData→Option Ds:=fun d=>some [some d]
theorem cF {K:PySem.W.Frag} {n0:Nat}:TgD K n0 1 bj (lp n0):=fun d v σ σ' H A Q own h1 h2 hA hd e=>by
  cases e
  refine ⟨rfl,fun k=>?_⟩
  unfold lp
  subst h1
  rw [set_own σ none v σ' h2]
  refine k _ rfl fun i e z=>?_
  match i,z with
  | 0,z=>cases z; exact ⟨v,rfl,hd⟩
noncomputable def eN:PyData→Option Ds
  | .tuple [x,y]=>some [some x,some y]
  | _=>none
theorem qu {K:PySem.W.Frag} {n0:Nat}:TgD K n0 2 eN (L2.DW K 2 (L2.yt (lp n0) (L2.yt (lp (n0 + 1)) L2.D8))):=fun d v σ σ' H A Q own h1 h2 hA hd e=>by
  unfold eN at e
  split at e
  · rename_i x y
    cases e
    refine ⟨rfl,fun k=>?_⟩
    obtain ⟨p,xs,rfl,hp,hx⟩:=hd.ofTup
    obtain ⟨u,w,rfl,hu,hw⟩:=Fx hx
    subst h1
    refine ⟨p,_,rfl,SqT.of (aX _ _ hp),rfl,u,[w],rfl,w,[],rfl,rfl,?_⟩
    match σ',h2 with
    | [s1,s2],_ =>
      have:((σ++[s1,s2]).set σ.length (some u)).set (σ.length + 1) (some w)=σ++[some u,some w]:=by
        rw [List.set_append_right _ _ (Nat.le_refl _),List.set_append_right _ _ (by omega)]
        simp
      rw [this]
      refine k _ rfl fun i e z=>?_
      match i,z with
      | 0,z=>cases z; exact ⟨u,rfl,hu⟩
      | 1,z=>cases z; exact ⟨w,rfl,hw⟩
  · cases e
noncomputable def fZ (cond:Ds→Rs Bool) (elt:Ds→Rs PyData) (tgt:PyData→Option Ds) (δ:Ds):List PyData→Rs (List PyData)
  | []=>.ok []
  | d::r=>match tgt d with
    | none=>.no
    | some own=>(cond (δ++own)).calm.bind fun b=>if b=true then (elt (δ++own)).calm.bind fun x=>(fZ cond elt tgt δ r).bind fun xs=>.ok (x::xs) else fZ cond elt tgt δ r
noncomputable def bx (n0:Nat) (src:Ds→Rs (List PyData)) (cond:Ds→Rs Bool) (elt:Ds→Rs PyData) (tgt:PyData→Option Ds):Ds→Rs (List PyData):=fun δ=>if δ.length=n0 then (src δ).bind fun ds=>if ds.length≤1000000 then fZ cond elt tgt δ ds else .no else .no
noncomputable def bL:Ds→Rs Bool:=fun _=>.ok true
noncomputable def Fv (K:PySem.W.Frag) (E:XK) (A:List Addr) (H:Hp) (r:Rs (List PyData)) (Q:VK):Prop:=match r with
  | .ok ds=>∀ a xs H',H a=none→aM H H'→H' a=some (.lst xs)→Iss K (del H' (a::A)) ds xs→Q (.ref a) H'
  | .rz C=>∀ H',aM H H'→E (.ref C) none H'
  | .no=>False
noncomputable def lD (K:PySem.W.Frag) (E:XK) (g:Ds→Rs (List PyData)):TE:=fun σ H Q=>∃ A δ,fF K H A δ σ∧Fv K E A H (g δ) Q
noncomputable def PLD (X:Cx) (E:XK) (e:Expr) (g:Ds→Rs (List PyData)):Prop:=PE X e (lD X.K E g)
noncomputable def gL (g:Ds→Rs (List PyData)):Ds→Rs PyData:=fun δ=>(g δ).bind fun ds=>.ok (.list ds)
theorem rS {H:Hp} {a:Addr} {A:List Addr}:aM (del H (a::A)) (del H A):=fun b o e=>by
  obtain ⟨z,e⟩:=fY e
  rw [cu (fun q=>z (List.mem_cons_of_mem _ q))]; exact e
theorem dP {e:Expr} {g:Ds→Rs (List PyData)} (h:PLD X E e g):PD X E e (gL g):=PE.imp h fun σ H Q ⟨A,δ,R,o⟩=>⟨A,δ,R,by
  unfold gL at o
  cases q:g δ with
  | no=>rw [q] at o; exact o
  | rz C=>rw [q] at o; exact o
  | ok ds =>
    rw [q] at o
    intro a xs H' hn s hl hi
    exact o _ H' s (pQ (by rw [cu (R.ls.new hn)]; exact hl) (hi.same rS))⟩
theorem kO {es:List Expr} {gs:Ds→Rs (List PyData)} (h:PAD X E es gs) (hl:es.length≤1000:=by decide):PLD X E (.List es pos) gs:=(wt h.1).imp fun σ H Q pz3=>by
  obtain ⟨A,δ,R,o⟩:=pz3
  refine aD.run R (fun ds e vs H1 s1 R1 h1=>?_) (fun C e H' s'=>by rw [e] at o; exact o H' s') (fun e=>by rw [e] at o; exact o)
  rw [e] at o
  have n:=h.2 δ ds e
  have m:=h1.length
  refine ⟨by rw [sizeLine_eq]; omega,fun p hp=>o p vs _ (s1.free hp) (s1.trans (cE hp)) cn (h1.same ?_)⟩
  refine fun b o e=>?_
  obtain ⟨z,e⟩:=fY e
  have:b≠p:=bE e hp
  rw [cu (by simp [this,z]),bD this]; exact e
theorem Ac {K:PySem.W.Frag} {own:List Str} {gi:Ds→Rs (List PyData)} {g:TG} {tt:TT} {cond:Ds→Rs Bool} {ge:Ds→Rs PyData} {tgt:PyData→Option Ds} {n0:Nat} (hT:TgD K n0 own.length tgt g) (htt:∀ σ H Q,cD K E0 cond σ H Q→tt σ H Q) :
    ∀ σ H Q,lD K E (bx n0 gi cond ge tgt) σ H Q→tLC own.length (iD K E gi) g tt (eD K E0 ge) σ H Q:=by
  intro σ H Q ⟨A,δ,R,o⟩
  unfold bx at o
  by_cases hn0:δ.length=n0
  case neg=>rw [if_neg hn0] at o; exact o.elim
  rw [if_pos hn0] at o
  have hσ:σ.length=n0:=by rw [← R.len]; exact hn0
  refine ⟨A,δ,R,?_⟩
  cases q:gi δ with
  | no=>rw [q] at o; exact o
  | rz C=>rw [q] at o; exact o
  | ok ds =>
    rw [q] at o
    have o:Fv K E A H (if ds.length≤1000000 then fZ cond ge tgt δ ds else .no) Q:=o
    by_cases hz:ds.length≤1000000
    case neg=>rw [if_neg hz] at o; exact o.elim
    rw [if_pos hz] at o
    intro J H1 s1 hJ D hD
    have R1:=R.same s1
    have nD:D ∉ A:=R1.ls.new hD
    cases qo:fZ cond ge tgt δ ds with
    | rz C =>
      exfalso
      have:∀ l,fZ cond ge tgt δ l≠.rz C:=by
        intro l
        induction l with
        | nil=>intro z; cases z
        | cons d r ih =>
          intro z
          unfold fZ at z
          split at z
          · cases z
          · rename_i own' _
            cases c1:cond (δ++own') with
            | ok b =>
              simp only [c1,Rs.gM,Rs.ai] at z
              split at z
              · cases c2:ge (δ++own') with
                | ok x =>
                  simp only [c2,Rs.gM,Rs.ai] at z
                  cases c3:fZ cond ge tgt δ r with
                  | ok l=>simp only [c3,Rs.ai] at z; cases z
                  | rz C'=>simp only [c3,Rs.jl] at z; cases z; exact ih c3
                  | no=>simp only [c3,Rs.dN] at z; cases z
                | rz C'=>simp only [c2,Rs.calm,Rs.dN] at z; cases z
                | no=>simp only [c2,Rs.calm,Rs.dN] at z; cases z
              · exact ih z
            | rz C'=>simp only [c1,Rs.calm,Rs.dN] at z; cases z
            | no=>simp only [c1,Rs.calm,Rs.dN] at z; cases z
      exact this ds qo
    | no=>rw [qo] at o; exact o.elim
    | ok out =>
      rw [qo] at o
      have base:aM (del H1 A) (del (upd H1 D (.lst [])) (D::A)):=fun b o e=>by
        obtain ⟨z,e⟩:=fY e
        have nb:b≠D:=bE e hD
        rw [cu (by simp [nb,z]),bD nb]; exact e
      refine ⟨fun i m ys H'=>m=ds.length - i∧i≤ds.length∧aM H1 H'∧H' D=some (.lst ys)∧ys.length≤i∧∃ dn rest,fZ cond ge tgt δ (ds.drop i)=.ok rest∧out=dn++rest∧Iss K (del H' (D::A)) dn ys,
        ⟨ds.length,by simp,Nat.zero_le _,cE hD,cn,Nat.le_refl _,[],out,qo,rfl,gK⟩,?_⟩
      rintro i m ys H' ⟨rfl,hi,sm,hl,hy,dn,rest,c1,c2,c3⟩
      refine ⟨hl,?_⟩
      have sG:aM (del H1 A) H':=aX.trans sm
      have hBn:∀ b∈D::A,(del H1 A) b=none:=fun b hb=>by
        rcases List.mem_cons.mp hb with z | z
        · rw [z,cu nD]; exact hD
        · exact nj z
      obtain ⟨jg,js,jy⟩:=hJ H' (D::A) sG (fun b hb=>by
        rcases List.mem_cons.mp hb with z | z
        · exact ⟨ys,by rw [z]; exact hl⟩
        · exact (R1.ls.same sm) b z) hBn
      by_cases hlt:i < ds.length
      · refine .inr ⟨jg i hlt,fun x H2 σ' hσ' y=>?_⟩
        obtain ⟨s2,d,ed,hd⟩:=jy i x H2 hlt y
        have edr:ds.drop i=d::ds.drop (i + 1):=by
          rw [List.drop_eq_getElem_cons hlt]
          have:ds[i]=d:=by
            have:=List.getElem?_eq_getElem hlt
            rw [this] at ed; exact Option.some.inj ed
          rw [this]
        rw [edr] at c1
        unfold fZ at c1
        cases et:tgt d with
        | none=>rw [et] at c1; cases c1
        | some ow =>
          rw [et] at c1
          have l2:H2 D=some (.lst ys):=s2 _ _ hl
          have LsD:Ls H2 (D::A):=fun b hb=>by
            rcases List.mem_cons.mp hb with z | z
            · exact ⟨ys,by rw [z]; exact l2⟩
            · exact (R1.ls.same (sm.trans s2)) b z
          obtain ⟨hol,hgo⟩:=hT d x σ σ' H2 (D::A) (fun σ2 H2=>tt σ2 H2 fun b H3 =>
            if b=true then eD K E0 ge σ2 H3 fun v H4=>H4 D=some (.lst ys)∧ys.length < sizeLine∧(∃ σ'',σ2=σ++σ''∧σ''.length=own.length)∧∃ m',m' < ds.length - i∧_
            else (∃ σ'',σ2=σ++σ''∧σ''.length=own.length)∧∃ m',m' < ds.length - i∧_) ow hσ hσ' LsD hd et
          refine hgo fun vs hvs hown=>?_
          have sAll:aM (del H1 A) (del H2 (D::A)):=sA (sG.trans s2) hBn
          have RE:fF K H2 (D::A) (δ++ow) (σ++vs):=by
            refine ⟨LsD,by rw [List.length_append,List.length_append,R.len,hvs,hol],fun k e ek=>?_⟩
            by_cases hk:k < δ.length
            · rw [List.getElem?_append_left hk] at ek
              obtain ⟨u,e1,hu⟩:=R1.get k e ek
              exact ⟨u,by rw [List.getElem?_append_left (by rw [← R.len]; exact hk)]; exact e1,hu.same sAll⟩
            · rw [List.getElem?_append_right (by omega)] at ek
              obtain ⟨u,e1,hu⟩:=hown _ e ek
              exact ⟨u,by rw [List.getElem?_append_right (by rw [← R.len]; omega),← R.len]; exact e1,hu⟩
          have bad:∀ r:Rs Bool,r=.rz 0→r.calm=.no:=fun r e=>by rw [e]; rfl
          refine htt _ _ _ (cD.run RE (fun b eb H3 s3 R3=>?_) (fun C eb=>?_) (fun eb=>?_))
          · simp only [eb,Rs.gM,Rs.ai] at c1
            cases b with
            | true =>
              simp only [if_true] at c1
              refine eD.run R3 (fun xd ex v H4 s4 R4 hv=>?_) (fun C ex=>?_) (fun ex=>?_)
              · simp only [ex,Rs.gM,Rs.ai] at c1
                cases cr:fZ cond ge tgt δ (ds.drop (i + 1)) with
                | ok rs =>
                  simp only [cr,Rs.ai] at c1
                  cases c1
                  have l4:H4 D=some (.lst ys):=s4 _ _ (s3 _ _ l2)
                  have dU:del (upd H4 D (.lst (ys++[v]))) (D::A)=del H4 (D::A):=xO (List.mem_cons_self)
                  refine ⟨l4,by rw [sizeLine_eq]; omega,⟨vs,rfl,hvs⟩,ds.length - (i + 1),by omega,rfl,hlt,?_,cn,by simp; omega,dn++[xd],rs,cr,by rw [c2]; simp,?_⟩
                  · exact aM.put (((sm.trans s2).trans s3).trans s4) hD
                  · rw [dU]
                    exact (c3.same (aM.del (s2.trans (s3.trans s4)))).append (sy hv)
                | rz C=>simp only [cr,Rs.jl] at c1; cases c1
                | no=>simp only [cr,Rs.dN] at c1; cases c1
              · simp only [ex,Rs.calm,Rs.dN] at c1; cases c1
              · simp only [ex,Rs.calm,Rs.dN] at c1; cases c1
            | false =>
              simp only [Bool.false_eq_true,if_false] at c1
              exact ⟨⟨vs,rfl,hvs⟩,ds.length - (i + 1),by omega,rfl,hlt,(sm.trans s2).trans s3,s3 _ _ l2,by omega,dn,rest,c1,c2,c3.same (aM.del (s2.trans s3))⟩
          · simp only [eb,Rs.calm,Rs.dN] at c1; cases c1
          · simp only [eb,Rs.calm,Rs.dN] at c1; cases c1
      · have e:i=ds.length:=by omega
        subst e
        rw [List.drop_length] at c1
        cases c1
        rw [List.append_nil] at c2
        subst c2
        exact .inl ⟨js,o D ys H' (s1.free hD) (s1.trans sm) hl c3⟩
theorem cw {M:List Str} {elt iter:Expr} {ifs:List Expr} {scope:Scope} {own:List Str} {gi:Ds→Rs (List PyData)} {g:TG} {tt:TT} {cond:Ds→Rs Bool} {ge:Ds→Rs PyData} {tgt:PyData→Option Ds} {n0:Nat} (hc:X.calm=true) (hi:PID X E tg iter gi)
    (hT:TgD X.K n0 own.length tgt g) (hg:∀ C s2 H2 fp,PG (blk X M scope own C s2 H2 fp) tg g) (ht:∀ C s2 H2 fp,PTs (blk X M scope own C s2 H2 fp) ifs tt) (htt:∀ σ H Q,cD X.K E0 cond σ H Q→tt σ H Q) (he:∀ C s2 H2 fp,PD (blk X M scope own C s2 H2 fp) E0 elt ge)
    (hB:ql X.N M X.env.scope scope own=true:=by rfl) (hs:∀ x,foldedSetIterable iter X.env x=pure x:=by intro _; rfl):PLD X E (.ListComp elt [⟨tg,iter,ifs,0⟩] scope pos) (bx n0 gi cond ge tgt) :=
  (zD (own:=own) (te:=eD X.K E0 ge) hc hi hg ht (fun C s2 H2 fp=>he C s2 H2 fp) hB hs).imp (Ac hT htt)
noncomputable def PLS (X:Cx) (E:XK) (i:Nat) (st:Stmt) (gl:Ds→Rs (List PyData)):Prop:=PS X st (CN (lD X.K E gl) (lp i))
theorem uN {M:List Str} {elt iter:Expr} {ifs:List Expr} {scope:Scope} {own:List Str} {gi:Ds→Rs (List PyData)} {g:TG} {tt:TT} {cond:Ds→Rs Bool} {ge:Ds→Rs PyData} {tgt:PyData→Option Ds} {n0:Nat} {i:Nat} {x:Str} {pos' spos:Pos} (hc:X.calm=true) (hN:X.N.Nodup) (hi:PID X E tg iter gi)
    (hT:TgD X.K n0 own.length tgt g) (hg:∀ C s2 H2 fp,PG (blk X M scope own C s2 H2 fp) tg g) (ht:∀ C s2 H2 fp,PTs (blk X M scope own C s2 H2 fp) ifs tt) (htt:∀ σ H Q,cD X.K E0 cond σ H Q→tt σ H Q) (he:∀ C s2 H2 fp,PD (blk X M scope own C s2 H2 fp) E0 elt ge)
    (hxi:X.N[i]?=some x:=by rfl) (hx:Loc X.env.scope x:=by first | exact Or.inl rfl | exact Or.inr rfl) (hsw:swapsWith (.ListComp elt [⟨tg,iter,ifs,0⟩] scope pos) (some (.Name x pos')) spos.line X.env=pure true:=by rfl)
    (hB:ql X.N M X.env.scope scope own=true:=by rfl) (hs:∀ x,foldedSetIterable iter X.env x=pure x:=by intro _; rfl) (hf:X.fn x=true∨X.env.scope.names.lookup x=some .local:=by first | exact .inl rfl | exact .inr rfl | assumption) :
    PLS X E i (.Assign [.Name x pos'] (.ListComp elt [⟨tg,iter,ifs,0⟩] scope pos) spos) (bx n0 gi cond ge tgt) :=
  PS.imp (zC (own:=own) (te:=eD X.K E0 ge) hc hN hxi hx hsw hi hg ht (fun C s2 H2 fp=>he C s2 H2 fp) hB hs hf) fun D σ H h=>Ac hT htt σ H _ h
end
end L2
set_option maxRecDepth 100000
set_option maxHeartbeats 4000000
namespace L2
open PySem PySem.Spec PyProof.Rows
inductive Sr where
  | nx (δ:Ds)
  | rt (d:PyData)
  | rz (C:Addr)
  | bk (δ:Ds)
  | ct (δ:Ds)
  | no
structure cO (K:PySem.W.Frag) (H0:Hp) (A0:List Addr) (H:Hp) (A:List Addr) (O:List Nat) (δ:Ds) (σ:St):Prop where
  same:aM H0 H
  ls0:Ls H0 A0
  new:∀ a∈A,H0 a=none
  ls:Ls H A
  len:δ.length=σ.length
  pl:∀ (i:Nat) d,i ∉ O→δ[i]?=some (some d)→∃ v,σ[i]?=some (some v)∧Is K (del H (A++A0)) d v
  own:∀ (i:Nat) d,i∈O→δ[i]?=some (some d)→∃ a xs ds,σ[i]?=some (some (.ref a))∧a∈A∧H a=some (.lst xs)∧d=.list ds∧Iss K (del H (A++A0)) ds xs
  inj:∀ (i j:Nat) d e a,i∈O→j∈O→δ[i]?=some (some d)→δ[j]?=some (some e)→σ[i]?=some (some (.ref a))→σ[j]?=some (some (.ref a))→i=j
noncomputable def mask (O:List Nat) (δ:Ds):Ds:=if O=[] then δ else δ.mapIdx fun i d=>if i∈O then none else d
theorem eM (δ:Ds):mask [] δ=δ:=by simp [mask]
theorem Bt {O:List Nat} {δ:Ds} {i:Nat} {d:PyData} (h:(mask O δ)[i]?=some (some d)):i ∉ O∧δ[i]?=some (some d):=by
  unfold mask at h
  split at h
  · rename_i z; subst z; exact ⟨by simp,h⟩
  · rw [List.getElem?_mapIdx] at h
    cases q:δ[i]? with
    | none=>rw [q] at h; cases h
    | some x =>
      rw [q] at h
      simp only [Option.map_some,Option.some.injEq] at h
      by_cases z:i∈O
      · rw [if_pos z] at h; cases h
      · rw [if_neg z] at h; exact ⟨z,by rw [h]⟩
theorem Bx {O:List Nat} {δ:Ds}:(mask O δ).length=δ.length:=by unfold mask; split <;> simp
theorem vD {H:Hp} {A B:List Addr}:aM (del H (A++B)) (del H B):=fun b o e=>by
  obtain ⟨z,e⟩:=fY e
  rw [cu (fun q=>z (List.mem_append_right _ q))]; exact e
section
variable {K:PySem.W.Frag} {E:XK} {H0 H H1:Hp} {A0 A:List Addr} {O:List Nat} {δ:Ds} {σ:St}
theorem cO.lsA (R:cO K H0 A0 H A O δ σ):Ls H (A++A0):=fun a h=>(List.mem_append.mp h).elim (R.ls a) fun z=>(R.ls0.same R.same) a z
theorem cO.step (R:cO K H0 A0 H A O δ σ) (s:aM H H1):cO K H0 A0 H1 A O δ σ where
  same:=R.same.trans s
  ls0:=R.ls0
  new:=R.new
  ls:=R.ls.same s
  len:=R.len
  pl:=fun i d h e=>by
    obtain ⟨v,e1,h1⟩:=R.pl i d h e
    exact ⟨v,e1,h1.same s.del⟩
  own:=fun i d h e=>by
    obtain ⟨a,xs,ds,e1,h1,h2,h3,h4⟩:=R.own i d h e
    exact ⟨a,xs,ds,e1,h1,s _ _ h2,h3,h4.same s.del⟩
  inj:=R.inj
theorem cO.apart (R:cO K H0 A0 H A O δ σ) {a:Addr} (h:a∈A):a ∉ A0:=fun z=>by
  obtain ⟨xs,e⟩:=R.ls0 a z
  rw [R.new a h] at e; cases e
theorem cO.full (R:cO K H0 A0 H A O δ σ):fF K H A0 δ σ where
  ls:=R.ls0.same R.same
  len:=R.len
  get:=fun i d e=>by
    by_cases h:i∈O
    · obtain ⟨a,xs,ds,e1,h1,h2,h3,h4⟩:=R.own i d h e
      subst h3
      exact ⟨_,e1,pQ (xs:=xs) (by rw [cu (R.apart h1)]; exact h2) (h4.same vD)⟩
    · obtain ⟨v,e1,h1⟩:=R.pl i d h e
      exact ⟨v,e1,h1.same vD⟩
theorem cO.part (R:cO K H0 A0 H A O δ σ):fF K H (A++A0) (mask O δ) σ where
  ls:=R.lsA
  len:=by rw [Bx]; exact R.len
  get:=fun i d e=>by
    obtain ⟨h,e⟩:=Bt e
    exact R.pl i d h e
theorem get_set {α:Type} {l:List α} {i j:Nat} {x y:α} (h:(l.set i x)[j]?=some y):(i=j∧y=x)∨(i≠j∧l[j]?=some y):=by
  by_cases z:i=j
  · subst z
    rw [List.getElem?_set_self'] at h
    cases q:l[i]? with
    | none=>rw [q] at h; cases h
    | some w=>rw [q] at h; simp at h; exact .inl ⟨rfl,h.symm⟩
  · rw [List.getElem?_set_ne z] at h; exact .inr ⟨z,h⟩
theorem oP {α:Type} {l:List α} {i j:Nat} {x y:α} (hn:i≠j) (h:l[j]?=some y):(l.set i x)[j]?=some y:=by rw [List.getElem?_set_ne hn]; exact h
theorem cO.set {i:Nat} {d:PyData} {v:V} (R:cO K H0 A0 H A O δ σ) (hi:i ∉ O) (hl:i < δ.length) (h:Is K (del H (A++A0)) d v):cO K H0 A0 H A O (δ.set i (some d)) (σ.set i (some v)) where
  same:=R.same
  ls0:=R.ls0
  new:=R.new
  ls:=R.ls
  len:=by simp [R.len]
  pl:=fun j e hj q=>by
    rcases get_set q with ⟨z,q⟩ | ⟨z,q⟩
    · cases q; subst z
      exact ⟨v,by rw [List.getElem?_set_self (by rw [← R.len]; exact hl)],h⟩
    · obtain ⟨u,e1,h1⟩:=R.pl j e hj q
      exact ⟨u,oP z e1,h1⟩
  own:=fun j e hj q=>by
    rcases get_set q with ⟨z,q⟩ | ⟨z,q⟩
    · subst z; exact absurd hj hi
    · obtain ⟨a,xs,ds,e1,h1⟩:=R.own j e hj q
      exact ⟨a,xs,ds,oP z e1,h1⟩
  inj:=fun j k d' e a hj hk q1 q2 p1 p2=>by
    have n1:i≠j:=fun z=>hi (z ▸ hj)
    have n2:i≠k:=fun z=>hi (z ▸ hk)
    rw [List.getElem?_set_ne n1] at q1 p1
    rw [List.getElem?_set_ne n2] at q2 p2
    exact R.inj j k d' e a hj hk q1 q2 p1 p2
theorem cO.setOwn {i:Nat} {ds:List PyData} {a:Addr} {xs:List V} (R:cO K H0 A0 H A O δ σ) (hi:i∈O) (hl:i < δ.length) (hn:H a=none) (s:aM H H1) (ha:H1 a=some (.lst xs)) (h:Iss K (del H1 (a::(A++A0))) ds xs) :
    cO K H0 A0 H1 (a::A) O (δ.set i (some (.list ds))) (σ.set i (some (.ref a))) where
  same:=R.same.trans s
  ls0:=R.ls0
  new:=fun b hb=>by
    rcases List.mem_cons.mp hb with z | z
    · rw [z]; exact R.same.free hn
    · exact R.new b z
  ls:=fun b hb=>by
    rcases List.mem_cons.mp hb with z | z
    · exact ⟨xs,by rw [z]; exact ha⟩
    · exact (R.ls.same s) b z
  len:=by simp [R.len]
  pl:=fun j e hj q=>by
    rcases get_set q with ⟨z,q⟩ | ⟨z,q⟩
    · subst z; exact absurd hi hj
    · obtain ⟨u,e1,h1⟩:=R.pl j e hj q
      refine ⟨u,oP z e1,h1.same fun b o e=>?_⟩
      obtain ⟨y,e⟩:=fY e
      have nb:b≠a:=bE e hn
      rw [cu (by simpa [nb] using y)]; exact s _ _ e
  own:=fun j e hj q=>by
    have kk:∀ b o,del H (A++A0) b=some o→del H1 (a::A++A0) b=some o:=fun b o e=>by
      obtain ⟨y,e⟩:=fY e
      have nb:b≠a:=bE e hn
      rw [cu (by simpa [nb] using y)]; exact s _ _ e
    rcases get_set q with ⟨z,q⟩ | ⟨z,q⟩
    · cases q; subst z
      exact ⟨a,xs,ds,by rw [List.getElem?_set_self (by rw [← R.len]; exact hl)],List.mem_cons_self,ha,rfl,h⟩
    · obtain ⟨b,ys,es,e1,h1,h2,h3,h4⟩:=R.own j e hj q
      exact ⟨b,ys,es,oP z e1,List.mem_cons_of_mem _ h1,s _ _ h2,h3,h4.same kk⟩
  inj:=fun j k d' e b hj hk q1 q2 p1 p2=>by
    have old:∀ k,k∈O→i≠k→∀ e,δ[k]?=some (some e)→σ[k]?=some (some (.ref a))→False:=fun k hk _ e q p=>by
      obtain ⟨b,ys,es,e1,h1,h2,_⟩:=R.own k e hk q
      rw [p] at e1; cases e1
      rw [hn] at h2; cases h2
    by_cases z1:i=j
    · by_cases z2:i=k
      · rw [← z1,z2]
      · subst z1
        rw [List.getElem?_set_self (by rw [← R.len]; exact hl)] at p1
        cases p1
        rw [List.getElem?_set_ne z2] at q2 p2
        exact (old k hk z2 e q2 p2).elim
    · by_cases z2:i=k
      · subst z2
        rw [List.getElem?_set_self (by rw [← R.len]; exact hl)] at p2
        cases p2
        rw [List.getElem?_set_ne z1] at q1 p1
        exact (old j hj z1 d' q1 p1).elim
      · rw [List.getElem?_set_ne z1] at q1 p1
        rw [List.getElem?_set_ne z2] at q2 p2
        exact R.inj j k d' e b hj hk q1 q2 p1 p2
theorem cO.put {i:Nat} {ds:List PyData} {a:Addr} {ys:List V} {d0:PyData} (R:cO K H0 A0 H A O δ σ) (hi:i∈O) (hd:δ[i]?=some (some d0)) (hs:σ[i]?=some (some (.ref a))) (ha:a∈A) (h:Iss K (del H (A++A0)) ds ys) :
    cO K H0 A0 (upd H a (.lst ys)) A O (δ.set i (some (.list ds))) σ:=by
  have dU:del (upd H a (.lst ys)) (A++A0)=del H (A++A0):=xO (List.mem_append_left _ ha)
  have hl:i < δ.length:=(List.getElem?_eq_some_iff.mp hd).1
  refine ⟨fun b o e=>?_,R.ls0,R.new,fun b hb=>?_,by simp [R.len],fun j e hj q=>?_,fun j e hj q=>?_,fun j k d' e b hj hk q1 q2 p1 p2=>?_⟩
  · have nb:b≠a:=fun z=>by rw [z,R.new a ha] at e; cases e
    rw [bD nb]; exact R.same b o e
  · by_cases z:b=a
    · exact ⟨ys,by rw [z,cn]⟩
    · rw [bD z]; exact R.ls b hb
  · rcases get_set q with ⟨z,q⟩ | ⟨z,q⟩
    · subst z; exact absurd hi hj
    · rw [dU]; exact R.pl j e hj q
  · rcases get_set q with ⟨z,q⟩ | ⟨z,q⟩
    · cases q; subst z
      exact ⟨a,ys,ds,hs,ha,cn,rfl,by rw [dU]; exact h⟩
    · obtain ⟨b,zs,es,e1,h1,h2,h3,h4⟩:=R.own j e hj q
      have nb:b≠a:=fun w=>z (R.inj i j _ _ a hi hj hd q hs (by rw [← w]; exact e1))
      exact ⟨b,zs,es,e1,h1,by rw [bD nb]; exact h2,h3,by rw [dU]; exact h4⟩
  · rcases get_set q1 with ⟨z1,q1⟩ | ⟨z1,q1⟩ <;> rcases get_set q2 with ⟨z2,q2⟩ | ⟨z2,q2⟩
    · rw [← z1,z2]
    · subst z1; exact R.inj i k d0 e b hi hk hd q2 p1 p2
    · subst z2; exact R.inj j i d' d0 b hj hi q1 hd p1 p2
    · exact R.inj j k d' e b hj hk q1 q2 p1 p2
noncomputable def un (H0 G:Hp):Hp:=fun b=>match H0 b with | some o=>some o | none=>G b
theorem AE {H0 G:Hp}:aM H0 (un H0 G):=fun b o e=>by unfold un; rw [e]
theorem Gb {H0 G:Hp} (h0:aM H0 H) (hG:aM G H):aM G (un H0 G):=fun b o e=>by
  unfold un
  cases q:H0 b with
  | none=>exact e
  | some o2=>have h2:=h0 b o2 q; rw [hG b o e] at h2; exact h2.symm
theorem EO {H0 G:Hp} (h0:aM H0 H) (hG:aM G H):aM (un H0 G) H:=fun b o e=>by
  unfold un at e
  cases q:H0 b with
  | none=>rw [q] at e; exact hG b o e
  | some o2=>rw [q] at e; rw [← Option.some.inj e]; exact h0 b o2 q
theorem cO.more (R:cO K H0 A0 H A O δ σ):cO K (un H0 (del H (A++A0))) A0 H A O δ σ :=
  ⟨EO R.same aX,R.ls0.same AE,fun a h=>by unfold un; rw [R.new a h]; exact nj (List.mem_append_left _ h),R.ls,R.len,R.pl,R.own,R.inj⟩
theorem cO.less {H0':Hp} (R:cO K H0' A0 H A O δ σ) (s:aM H0 H0') (l:Ls H0 A0):cO K H0 A0 H A O δ σ:=⟨s.trans R.same,l,fun a h=>s.free (R.new a h),R.ls,R.len,R.pl,R.own,R.inj⟩
end
noncomputable def um (K:PySem.W.Frag) (E:XK) (H0:Hp) (A0:List Addr) (O:List Nat) (r:Sr) (D:Ends):Prop:=match r with
  | .nx δ=>∀ A σ H,cO K H0 A0 H A O δ σ→D.nx σ H
  | .rt d=>∀ v H,aM H0 H→Is K (del H A0) d v→D.rt v H
  | .rz C=>∀ H,aM H0 H→E (.ref C) none H
  | .bk δ=>∀ A σ H,cO K H0 A0 H A O δ σ→D.bk σ H
  | .ct δ=>∀ A σ H,cO K H0 A0 H A O δ σ→D.ct σ H
  | .no=>False
noncomputable def sD (K:PySem.W.Frag) (E:XK) (O:List Nat) (G:Ds→Sr):TS:=fun D σ H=>∃ H0 A0 A δ,cO K H0 A0 H A O δ σ∧um K E H0 A0 O (G δ) D
noncomputable def PSD (X:Cx) (E:XK) (O:List Nat) (s:Stmt) (G:Ds→Sr):Prop:=PS X s (sD X.K E O G)
noncomputable def PBD (X:Cx) (E:XK) (O:List Nat) (ss:List Stmt) (G:Ds→Sr):Prop:=PSs X ss (sD X.K E O G)
noncomputable def bM:Ds→Sr:=fun δ=>.nx δ
noncomputable def bu (a b:Ds→Sr):Ds→Sr:=fun δ=>match a δ with
  | .nx δ'=>b δ'
  | r=>r
noncomputable def ofR {α:Type} (r:Rs α) (k:α→Sr):Sr:=match r with
  | .ok a=>k a
  | .rz C=>.rz C
  | .no=>.no
@[simp] theorem ay {α:Type} (a:α) (k:α→Sr):ofR (.ok a) k=k a:=rfl
@[simp] theorem pS {α:Type} (C:Addr) (k:α→Sr):ofR (.rz C) k=.rz C:=rfl
@[simp] theorem ph {α:Type} (k:α→Sr):ofR (.no:Rs α) k=.no:=rfl
noncomputable def sIf (c:Ds→Rs Bool) (a b:Ds→Sr):Ds→Sr:=fun δ=>ofR (c δ) fun t=>if t=true then a δ else b δ
noncomputable def bQ (g:Ds→Rs PyData):Ds→Sr:=fun δ=>ofR (g δ) .rt
noncomputable def uc (g:Ds→Rs PyData):Ds→Sr:=fun δ=>ofR (g δ) fun _=>.nx δ
noncomputable def bw (O:List Nat) (i:Nat) (g:Ds→Rs PyData):Ds→Sr:=fun δ=>if i < δ.length then ofR (g (mask O δ)) fun d=>.nx (δ.set i (some d)) else .no
noncomputable def kD (O:List Nat) (i:Nat) (g:Ds→Rs (List PyData)):Ds→Sr:=fun δ=>if i < δ.length then ofR (g (mask O δ)) fun ds=>.nx (δ.set i (some (.list ds))) else .no
noncomputable def iT (O:List Nat) (i:Nat) (g:Ds→Rs PyData):Ds→Sr:=fun δ=>match δ[i]? with
  | some (some (.list ds))=>ofR (g (mask O δ)) fun d=>if ds.length < 1000000 then .nx (δ.set i (some (.list (ds++[d])))) else .no
  | _=>.no
section
variable {X:Cx} {E:XK} {O:List Nat} {st:Stmt} {ss:List Stmt} {G G':Ds→Sr} {e a b c:Expr} {ga gb:Ds→Rs PyData} {ca:Ds→Rs Bool} {pos:Pos}
theorem ck:PBD X E O [] bM:=sW.imp fun D σ H qz3=>(by obtain ⟨H0,A0,A,δ,R,o⟩:=qz3; exact o A σ H R)
theorem ax (h1:PSD X E O st G) (h2:PBD X E O ss G'):PBD X E O (st::ss) (bu G G'):=(ic h1 h2).imp fun D σ H ⟨H0,A0,A,δ,R,o⟩=>⟨H0,A0,A,δ,R,by
  unfold bu at o
  cases q:G δ with
  | nx δ'=>rw [q] at o; exact fun A' σ' H' R'=>⟨H0,A0,A',δ',R',o⟩
  | rt d=>rw [q] at o; exact o
  | rz C=>rw [q] at o; exact o
  | bk d=>rw [q] at o; exact o
  | ct d=>rw [q] at o; exact o
  | no=>rw [q] at o; exact o⟩
theorem aA (h1:PSD X E O st G):PBD X E O [st] G:=(kM h1).imp fun D σ H h=>h
theorem cP {ss':List Stmt} (hc:PCD X E c ca) (h1:PBD X E O ss G) (h2:PBD X E O ss' G'):PSD X E O (.If c ss ss' pos) (sIf ca G G'):=(AG hc h1 h2).imp fun D σ H pz3=>by
  obtain ⟨H0,A0,A,δ,R,o⟩:=pz3
  unfold sIf at o
  refine cD.run R.full (fun t et H1 s1 R1=>?_) (fun C et H' s'=>?_) (fun et=>?_)
  · rw [et] at o
    cases t with
    | true=>exact ⟨H0,A0,A,δ,R.step s1,o⟩
    | false=>exact ⟨H0,A0,A,δ,R.step s1,o⟩
  · rw [et] at o; exact o H' (R.same.trans s')
  · rw [et] at o; exact o
theorem aW (h:PD X E e ga):PSD X E O (.Return (some e) pos) (bQ ga):=(qc h).imp fun D σ H pz3=>by
  obtain ⟨H0,A0,A,δ,R,o⟩:=pz3
  unfold bQ at o
  refine eD.run R.full (fun d ed v H1 s1 R1 hv=>?_) (fun C et H' s'=>?_) (fun et=>?_)
  · rw [ed] at o; exact o v H1 (R.same.trans s1) hv
  · rw [et] at o; exact o H' (R.same.trans s')
  · rw [et] at o; exact o
theorem u6 (h:PD X E e ga) (hs:swapsWith e none pos.line X.env=pure false:=by rfl):PSD X E O (.Expr e pos) (uc ga):=(tL h hs).imp fun D σ H pz3=>by
  obtain ⟨H0,A0,A,δ,R,o⟩:=pz3
  unfold uc at o
  refine eD.run R.full (fun d ed v H1 s1 R1 hv=>?_) (fun C et H' s'=>?_) (fun et=>?_)
  · rw [ed] at o; exact o A σ H1 (R.step s1)
  · rw [et] at o; exact o H' (R.same.trans s')
  · rw [et] at o; exact o
theorem bB {i:Nat} {x:Str} {pos':Pos} (h:PD X E e ga) (hN:X.N.Nodup) (hO:i ∉ O:=by decide) (hi:X.N[i]?=some x:=by rfl) (hx:Loc X.env.scope x:=by first | exact Or.inl rfl | exact Or.inr rfl) (hs:swapsWith e (some (.Name x pos')) pos.line X.env=pure false:=by rfl)
    (hf:X.fn x=true∨X.env.scope.names.lookup x=some .local:=by first | exact .inl rfl | exact .inr rfl | assumption):PSD X E O (.Assign [.Name x pos'] e pos) (bw O i ga):=(rZ hN hi hx h hs hf).imp fun D σ H pz3=>by
  obtain ⟨H0,A0,A,δ,R,o⟩:=pz3
  unfold bw at o
  split at o
  · rename_i hl
    refine eD.run R.part (fun d ed v H1 s1 R1 hv=>?_) (fun C et H' s'=>?_) (fun et=>?_)
    · rw [ed] at o; exact o A _ H1 ((R.step s1).set hO hl hv)
    · rw [et] at o; exact o H' (R.same.trans s')
    · rw [et] at o; exact o
  · exact o.elim
theorem kT {i:Nat} {x:Str} {pos':Pos} {gl:Ds→Rs (List PyData)} (h:PLD X E e gl) (hN:X.N.Nodup) (hO:i∈O:=by decide) (hi:X.N[i]?=some x:=by rfl) (hx:Loc X.env.scope x:=by first | exact Or.inl rfl | exact Or.inr rfl) (hs:swapsWith e (some (.Name x pos')) pos.line X.env=pure false:=by rfl)
    (hf:X.fn x=true∨X.env.scope.names.lookup x=some .local:=by first | exact .inl rfl | exact .inr rfl | assumption):PSD X E O (.Assign [.Name x pos'] e pos) (kD O i gl):=(rZ hN hi hx h hs hf).imp fun D σ H pz3=>by
  obtain ⟨H0,A0,A,δ,R,o⟩:=pz3
  unfold kD at o
  split at o
  · rename_i hl
    refine ⟨A++A0,mask O δ,R.part,?_⟩
    cases q:gl (mask O δ) with
    | ok ds =>
      rw [q] at o
      exact fun p xs H' hn s hp hi'=>o (p::A) _ H' (R.setOwn hO hl hn s hp hi')
    | rz C=>rw [q] at o; exact fun H' s'=>o H' (R.same.trans s')
    | no=>rw [q] at o; exact o
  · exact o.elim
theorem vv {i:Nat} {gl:Ds→Rs (List PyData)} (h:PLS X E i st gl) (hO:i ∉ O:=by decide):PSD X E O st (bw O i (gL gl)):=PS.imp h fun D σ H pz3=>by
  obtain ⟨H0,A0,A,δ,R,o⟩:=pz3
  unfold bw gL at o
  split at o
  · rename_i hl
    have R1:=R.part
    refine ⟨A++A0,mask O δ,R1,?_⟩
    cases q:gl (mask O δ) with
    | ok ds =>
      rw [q] at o
      intro p xs H' hn s hp hi'
      exact o A _ H' ((R.step s).set hO hl (pQ (by rw [cu (R1.ls.new hn)]; exact hp) (hi'.same rS)))
    | rz C=>rw [q] at o; exact fun H' s'=>o H' (R.same.trans s')
    | no=>rw [q] at o; exact o
  · exact o.elim
theorem tyL {K:PySem.W.Frag} {H:Hp} {p:Addr} {xs:List V} (h:H p=some (.lst xs)):tyV K "list" (.ref p) H:=.inl ⟨rfl,xs,SqL.of h⟩
theorem mL {i:Nat} {x:Str} {pn pa pc:Pos} (h:PD X E e ga) (hO:i∈O:=by decide) (hi:X.N[i]?=some x:=by rfl) (hv:Vis X.env.scope x:=by first | exact Or.inl rfl | exact Or.inr (Or.inl rfl) | exact Or.inr (Or.inr rfl))
    (hd:(x == ("__debug__":Str))=false:=by decide) (hcd:(x == ("__classdict__":Str))=false:=by decide) (hst:starEach [e] X.env=(false,eval e X.env)::starEach [] X.env:=by rfl)
    (hbase:attributeBase (.Name x pn) "append" X.env (eval (.Name x pn) X.env)=eval (.Name x pn) X.env:=by rfl)
    (hfew:((backTo pc (starEach [e] X.env)).all (fun x=>!x.1) && (backToKw pc (keywordEach [] X.env)).all (fun x=>x.1.isSome) && decide (([e]:List Expr).length + ([]:List Keyword).length + (if ([]:List Keyword).isEmpty then 0 else 1) < 30))=true:=by rfl)
    (hline:(pa.endLine == pc.line)=true:=by rfl) (hs:swapsWith (.Call (.Attribute (.Name x pn) "append" pa) [e] [] pc) none pos.line X.env=pure false:=by rfl) :
    PSD X E O (.Expr (.Call (.Attribute (.Name x pn) "append" pa) [e] [] pc) pos) (iT O i ga) :=
  (tL (Dk PySem.F.plainAttrs_list PySem.F.slot_list_append PySem.F.type_list_append q9 (mX hi hv hd hcd) (fT h iU hst) hbase hfew hline hst rfl) hs).imp fun D σ H pz3=>by
    obtain ⟨H0,A0,A,δ,R,o⟩:=pz3
    unfold iT at o
    split at o
    · rename_i ds q
      obtain ⟨p,xs,ds',e1,hp,hl,e2,hx⟩:=R.own i _ hO q
      cases e2
      refine ⟨_,e1,tyL hl,?_⟩
      refine eD.run R.part (fun d ed v H1 s1 R1 hv=>?_) (fun C et H' s'=>?_) (fun et=>?_)
      · rw [ed] at o
        have o:um X.K E H0 A0 O (if ds.length < 1000000 then .nx (δ.set i (some (.list (ds++[d])))) else .no) D:=o
        split at o
        · rename_i hz
          refine ⟨p,xs,v,rfl,rfl,s1 _ _ hl,by rw [hx.length,sizeLine_eq]; omega,?_⟩
          exact o A _ _ ((R.step s1).put hO q e1 hp ((hx.same s1.del).append (sy hv)))
        · exact o.elim
      · rw [et] at o; exact o H' (R.same.trans s')
      · rw [et] at o; exact o
    · exact o.elim
noncomputable def TgS (K:PySem.W.Frag) (O:List Nat) (tgt:PyData→Ds→Option Ds) (g:TG):Prop:=∀ (d:PyData) (v:V) (H0:Hp) (A0:List Addr) (H:Hp) (A:List Addr) (δ δ':Ds) (σ:St) (Q:St→Hp→Prop),cO K H0 A0 H A O δ σ→Is K (del H (A++A0)) d v→tgt d δ=some δ' →
  (∀ σ',cO K H0 A0 H A O δ' σ'→Q σ' H)→g v σ H Q
noncomputable def bK (i:Nat):PyData→Ds→Option Ds:=fun d δ=>if i < δ.length then some (δ.set i (some d)) else none
theorem dG {K:PySem.W.Frag} {i:Nat} (hi:i ∉ O):TgS K O (bK i) (lp i):=fun d v H0 A0 H A δ δ' σ Q R h e k=>by
  unfold bK at e
  split at e
  · rename_i hl
    cases e
    exact k _ (R.set hi hl h)
  · cases e
noncomputable def nk:List Nat→List PyData→Ds→Option Ds
  | [],[],δ=>some δ
  | i::is,d::ds,δ=>if i < δ.length then nk is ds (δ.set i (some d)) else none
  | _,_,_=>none
noncomputable def e8 (is:List Nat):PyData→Ds→Option Ds
  | .tuple ds,δ=>nk is ds δ
  | _,_=>none
noncomputable def wU:List Nat→TGs
  | []=>L2.D8
  | i::is=>L2.yt (lp i) (wU is)
theorem oj {K:PySem.W.Frag}:∀ (is:List Nat) (ds:List PyData) (vs:List V) (H0:Hp) (A0:List Addr) (H:Hp) (A:List Addr) (δ δ':Ds) (σ:St) (Q:St→Hp→Prop),(∀ i∈is,i ∉ O)→cO K H0 A0 H A O δ σ→Iss K (del H (A++A0)) ds vs→nk is ds δ=some δ' →
    (∀ σ',cO K H0 A0 H A O δ' σ'→Q σ' H)→wU is vs σ H Q
  | [],[],vs,H0,A0,H,A,δ,δ',σ,Q,_,R,h,e,k=>by
    cases e
    exact ⟨h.nil_of,k σ R⟩
  | i::is,d::ds,vs,H0,A0,H,A,δ,δ',σ,Q,hO,R,h,e,k=>by
    obtain ⟨v,r,rfl,h1,h2⟩:=h.cons_of
    unfold nk at e
    split at e
    · rename_i hl
      exact ⟨v,r,rfl,oj is ds r H0 A0 H A _ δ' _ Q (fun j hj=>hO j (List.mem_cons_of_mem _ hj)) (R.set (hO i List.mem_cons_self) hl h1) h2 e k⟩
    · cases e
  | [],_::_,_,_,_,_,_,_,_,_,_,_,_,_,e,_=>by cases e
  | _::_,[],_,_,_,_,_,_,_,_,_,_,_,_,e,_=>by cases e
theorem pd:∀ {is:List Nat} {ds:List PyData} {δ δ':Ds},nk is ds δ=some δ'→ds.length=is.length
  | [],[],_,_,_=>rfl
  | _::is,_::ds,δ,δ',e=>by
    unfold nk at e
    split at e
    · simp [pd e]
    · cases e
  | [],_::_,_,_,e=>by cases e
  | _::_,[],_,_,e=>by cases e
theorem oU {K:PySem.W.Frag} {is:List Nat} (hi:∀ i∈is,i ∉ O):TgS K O (e8 is) (L2.DW K is.length (wU is)):=fun d v H0 A0 H A δ δ' σ Q R h e k=>by
  unfold e8 at e
  split at e
  · obtain ⟨p,xs,rfl,hp,hx⟩:=h.ofTup
    exact ⟨p,xs,rfl,SqT.of (aX _ _ hp),by rw [hx.length,pd e],oj is _ xs H0 A0 H A δ δ' σ Q hi R hx e k⟩
  · cases e
noncomputable def forL (tgt:PyData→Ds→Option Ds) (body:Ds→Sr):List PyData→Ds→Sr
  | [],δ=>.nx δ
  | d::r,δ=>match tgt d δ with
    | none=>.no
    | some δ1=>match body δ1 with
      | .nx δ2=>forL tgt body r δ2
      | .ct δ2=>forL tgt body r δ2
      | .bk δ2=>.nx δ2
      | .rt v=>.rt v
      | .rz C=>.rz C
      | .no=>.no
noncomputable def gu (O:List Nat) (src:Ds→Rs (List PyData)) (tgt:PyData→Ds→Option Ds) (body:Ds→Sr):Ds→Sr:=fun δ=>ofR (src (mask O δ)) fun ds=>forL tgt body ds δ
theorem dg {iter tg:Expr} {gi:Ds→Rs (List PyData)} {tgt:PyData→Ds→Option Ds} {g:TG} (hp:PassesOwn (model X.prog X.w) X.A X.env X.xe) (hc:X.calm=true) (hi:PID X E tg iter gi) (hT:TgS X.K O tgt g) (hg:PG X tg g) (hb:PBD X E O ss G)
    (hs:∀ x,foldedSetIterable iter X.env x=pure x:=by intro _; rfl):PSD X E O (.For tg iter ss [] pos) (gu O gi tgt G):=(Ec hp hc hi hg hb hs).imp fun D σ H pz3=>by
  obtain ⟨H0,A0,A,δ,R,o⟩:=pz3
  unfold gu at o
  refine ⟨A++A0,mask O δ,R.part,?_⟩
  cases q:gi (mask O δ) with
  | no=>rw [q] at o; exact o
  | rz C=>rw [q] at o; exact fun H' s'=>o H' (R.same.trans s')
  | ok ds =>
    rw [q] at o
    intro J H1 s1 hJ
    have R1:=(R.step s1).more
    have o:um X.K E H0 A0 O (forL tgt G ds δ) D:=o
    refine ⟨fun i m σ' H'=>m=ds.length - i∧i≤ds.length∧∃ A' δ',cO X.K (un H0 (del H1 (A++A0))) A0 H' A' O δ' σ'∧um X.K E H0 A0 O (forL tgt G (ds.drop i) δ') D,⟨ds.length,by simp,Nat.zero_le _,A,δ,R1,o⟩,?_⟩
    rintro i m σ' H' ⟨rfl,hi',A',δ',R',o'⟩
    have sG:aM (del H1 (A++A0)) (un H0 (del H1 (A++A0))):=Gb (R.same.trans s1) aX
    have hB:∀ b∈A'++A0,(del H1 (A++A0)) b=none:=fun b hb=>by
      rcases List.mem_append.mp hb with z | z
      · exact sG.free (R'.new b z)
      · exact nj (List.mem_append_right _ z)
    obtain ⟨jg,js,jy⟩:=hJ H' (A'++A0) (sG.trans R'.same) R'.lsA hB
    by_cases hlt:i < ds.length
    · refine .inr ⟨jg i hlt,?_⟩
      have edr:ds.drop i=ds[i]::ds.drop (i + 1):=List.drop_eq_getElem_cons hlt
      rw [edr] at o'
      unfold forL at o'
      refine ⟨fun σ2 H2=>∃ A2 δ2,cO X.K (un H0 (del H1 (A++A0))) A0 H2 A2 O δ2 σ2∧um X.K E H0 A0 O (forL tgt G (ds.drop (i + 1)) δ2) D,fun σ2 H2 ⟨A2,δ2,R2,o2⟩=>⟨ds.length - (i + 1),by omega,rfl,hlt,A2,δ2,R2,o2⟩,fun x H2 y=>?_⟩
      obtain ⟨s2,d,ed,hd⟩:=jy i x H2 hlt y
      have:ds[i]=d:=by
        have:=List.getElem?_eq_getElem hlt
        rw [this] at ed; exact Option.some.inj ed
      rw [this] at o'
      cases et:tgt d δ' with
      | none=>rw [et] at o'; exact o'.elim
      | some δ1 =>
        simp only [et] at o'
        refine hT d x _ _ _ _ _ _ _ _ (R'.step s2) hd et fun σ3 R3=>⟨_,_,_,_,R3,?_⟩
        cases eb:G δ1 with
        | nx δ2=>rw [eb] at o'; exact fun A4 σ4 H4 R4=>⟨A4,δ2,R4,o'⟩
        | ct δ2=>rw [eb] at o'; exact fun A4 σ4 H4 R4=>⟨A4,δ2,R4,o'⟩
        | bk δ2=>rw [eb] at o'; exact fun A4 σ4 H4 R4=>o' A4 σ4 H4 (R4.less AE R.ls0)
        | rt v=>rw [eb] at o'; exact fun v4 H4 s4 h4=>o' v4 H4 (AE.trans s4) h4
        | rz C=>rw [eb] at o'; exact fun H4 s4=>o' H4 (AE.trans s4)
        | no=>rw [eb] at o'; exact o'
    · have e:i=ds.length:=by omega
      subst e
      rw [List.drop_length] at o'
      exact .inl ⟨js,o' A' σ' H' (R'.less AE R.ls0)⟩
end
end L2
set_option maxRecDepth 100000
set_option maxHeartbeats 4000000
namespace L2
open PySem PySem.Spec PyProof.Rows
section
variable {X:Cx} {E:XK} {O:List Nat} {st:Stmt} {ss:List Stmt} {G G':Ds→Sr} {e a b c:Expr} {ga gb gk:Ds→Rs PyData} {ca:Ds→Rs Bool} {pos:Pos}
noncomputable def dZ (c:Ds→Rs Bool) (b:Ds→Sr):Nat→Ds→Sr
  | 0,_=>.no
  | n + 1,δ=>ofR (c δ) fun t=>if t=true then (match b δ with
    | .nx δ2=>dZ c b n δ2
    | .ct δ2=>dZ c b n δ2
    | .bk δ2=>.nx δ2
    | .rt v=>.rt v
    | .rz C=>.rz C
    | .no=>.no) else .nx δ
theorem rE (fuel:Nat) (hp:PassesOwn (model X.prog X.w) X.A X.env X.xe) (hc:PCD X E c ca) (hb:PBD X E O ss G):PSD X E O (.While c ss [] pos) (fun δ=>dZ ca G fuel δ):=(zN hp hc hb).imp fun D σ H pz3=>by
  obtain ⟨H0,A0,A,δ,R,o⟩:=pz3
  refine ⟨fun m σ H=>∃ A δ,cO X.K H0 A0 H A O δ σ∧um X.K E H0 A0 O (dZ ca G m δ) D,⟨fuel,A,δ,R,o⟩,?_⟩
  rintro m σ H ⟨A,δ,R,o⟩
  cases m with
  | zero=>exact o.elim
  | succ m =>
    unfold dZ at o
    refine cD.run R.full (fun t et H1 s1 R1=>?_) (fun C et H' s'=>?_) (fun et=>?_)
    · rw [et] at o
      cases t with
      | false=>exact o A σ H1 (R.step s1)
      | true =>
        refine ⟨fun σ' H'=>∃ A δ,cO X.K H0 A0 H' A O δ σ'∧um X.K E H0 A0 O (dZ ca G m δ) D,fun σ' H' q=>⟨m,Nat.lt_succ_self m,q⟩,H0,A0,A,δ,R.step s1,?_⟩
        have o:um X.K E H0 A0 O (match G δ with
          | .nx δ2=>dZ ca G m δ2
          | .ct δ2=>dZ ca G m δ2
          | .bk δ2=>.nx δ2
          | .rt v=>.rt v
          | .rz C=>.rz C
          | .no=>.no) D:=o
        cases eb:G δ with
        | nx δ2=>rw [eb] at o; exact fun A4 σ4 H4 R4=>⟨A4,δ2,R4,o⟩
        | ct δ2=>rw [eb] at o; exact fun A4 σ4 H4 R4=>⟨A4,δ2,R4,o⟩
        | bk δ2=>rw [eb] at o; exact o
        | rt v=>rw [eb] at o; exact o
        | rz C=>rw [eb] at o; exact o
        | no=>rw [eb] at o; exact o
    · rw [et] at o; exact o H' (R.same.trans s')
    · rw [et] at o; exact o
noncomputable def ze (i:Nat) (gk ge:Ds→Rs PyData):Ds→Sr:=fun δ=>match δ[i]? with
  | some (some (.list ds))=>ofR (ge δ) fun d=>ofR (gk δ) fun k=>match k with
    | .int k=>match ixN ds.length k with
      | some j=>if ig d then .nx (δ.set i (some (.list (ds.set j d)))) else .no
      | none=>.no
    | _=>.no
  | _=>.no
theorem B9 {k:Expr} {i:Nat} {x:Str} {pn ps:Pos} (h:PD X E e ga) (hk:PD X E k gk) (hO:i∈O:=by decide) (hi:X.N[i]?=some x:=by rfl) (hv:Vis X.env.scope x:=by first | exact Or.inl rfl | exact Or.inr (Or.inl rfl) | exact Or.inr (Or.inr rfl))
    (hd:(x == ("__debug__":Str))=false:=by decide) (hcd:(x == ("__classdict__":Str))=false:=by decide)
    (ha:∀ v,assign (.Subscript (.Name x pn) k ps) X.env v=(do
      let ov ← holding [v] (eval (.Name x pn) X.env)
      let iv ← holding [v,ov] (eval k X.env)
      standAt ps
      holding [v,ov,iv] (setItem ov iv v)
      release [v,ov,iv] []):=by intro _; rfl)
    (hs:swapsWithSole [.Subscript (.Name x pn) k ps] e pos.line X.env=pure false:=by rfl) (hw:swappedStores [.Subscript (.Name x pn) k ps] e X.env=pure none:=by rfl)
    (h1:(assignEach [.Subscript (.Name x pn) k ps] X.env).map (·.2)=[assign (.Subscript (.Name x pn) k ps) X.env]:=by rfl):PSD X E O (.Assign [.Subscript (.Name x pn) k ps] e pos) (ze i gk ga) :=
  (Dn h (EA (mX hi hv hd hcd) hk set_list ha) hs hw h1).imp fun D σ H pz3=>by
    obtain ⟨H0,A0,A,δ,R,o⟩:=pz3
    unfold ze at o
    split at o
    · rename_i ds q
      obtain ⟨p,xs,ds',e1,hp,hl,e2,hx⟩:=R.own i _ hO q
      cases e2
      refine eD.run R.full (fun d ed v H1 s1 R1 hv=>?_) (fun C et H' s'=>?_) (fun et=>?_)
      · simp only [ed,ay] at o
        refine ⟨_,e1,?_⟩
        refine eD.run R1 (fun kd ek u H2 s2 R2 hu=>?_) (fun C et H' s'=>?_) (fun et=>?_)
        · simp only [ek,ay] at o
          split at o
          · rename_i kk
            split at o
            · rename_i j hj
              split at o
              · rename_i hn
                have s12:=s1.trans s2
                refine ⟨p,xs,kk,j,rfl,hu.ofInt,s12 _ _ hl,by rw [hx.length]; exact hj,?_⟩
                exact o A _ _ ((R.step s12).put hO q e1 hp (Iss.set (((hv.same s2.del).same aX).dl (R.step s12).lsA hn) j (hx.same s12.del)))
              · exact o.elim
            · exact o.elim
          · exact o.elim
        · simp only [et,pS] at o; exact o H' (R.same.trans (s1.trans s'))
        · simp only [et,ph] at o; exact o
      · simp only [et,pS] at o; exact o H' (R.same.trans s')
      · simp only [et,ph] at o; exact o
    · exact o.elim
noncomputable def zW (O:List Nat) (i:Nat) (g:Ds→Rs PyData):Ds→Sr:=fun δ=>match δ[i]? with
  | some (some (.list ds))=>ofR (g (mask O δ)) fun d=>match d with
    | .list es=>if ds.length + es.length≤1000000 then .nx (δ.set i (some (.list (ds++es)))) else .no
    | _=>.no
  | _=>.no
theorem BB {i:Nat} {x:Str} {pn pa pc:Pos} (h:PD X E e ga) (hO:i∈O:=by decide) (hi:X.N[i]?=some x:=by rfl) (hv:Vis X.env.scope x:=by first | exact Or.inl rfl | exact Or.inr (Or.inl rfl) | exact Or.inr (Or.inr rfl))
    (hd:(x == ("__debug__":Str))=false:=by decide) (hcd:(x == ("__classdict__":Str))=false:=by decide) (hst:starEach [e] X.env=(false,eval e X.env)::starEach [] X.env:=by rfl)
    (hbase:attributeBase (.Name x pn) "extend" X.env (eval (.Name x pn) X.env)=eval (.Name x pn) X.env:=by rfl)
    (hfew:((backTo pc (starEach [e] X.env)).all (fun x=>!x.1) && (backToKw pc (keywordEach [] X.env)).all (fun x=>x.1.isSome) && decide (([e]:List Expr).length + ([]:List Keyword).length + (if ([]:List Keyword).isEmpty then 0 else 1) < 30))=true:=by rfl)
    (hline:(pa.endLine == pc.line)=true:=by rfl) (hs:swapsWith (.Call (.Attribute (.Name x pn) "extend" pa) [e] [] pc) none pos.line X.env=pure false:=by rfl) :
    PSD X E O (.Expr (.Call (.Attribute (.Name x pn) "extend" pa) [e] [] pc) pos) (zW O i ga) :=
  (tL (Dk PySem.F.plainAttrs_list PySem.F.slot_list_extend PySem.F.type_list_extend zk (mX hi hv hd hcd) (fT h iU hst) hbase hfew hline hst rfl) hs).imp fun D σ H pz3=>by
    obtain ⟨H0,A0,A,δ,R,o⟩:=pz3
    unfold zW at o
    split at o
    · rename_i ds q
      obtain ⟨p,xs,ds',e1,hp,hl,e2,hx⟩:=R.own i _ hO q
      cases e2
      refine ⟨_,e1,tyL hl,?_⟩
      refine eD.run R.part (fun d ed v H1 s1 R1 hv=>?_) (fun C et H' s'=>?_) (fun et=>?_)
      · simp only [ed,ay] at o
        split at o
        · rename_i es
          split at o
          · rename_i hz
            obtain ⟨b,zs,rfl,hb,hz2⟩:=hv.ofLst
            refine ⟨p,b,xs,zs,rfl,rfl,s1 _ _ hl,aX _ _ hb,by rw [hx.length,hz2.length,sizeLine_eq]; omega,?_⟩
            exact o A _ _ ((R.step s1).put hO q e1 hp ((hx.same s1.del).append hz2))
          · exact o.elim
        · exact o.elim
      · simp only [et,pS] at o; exact o H' (R.same.trans s')
      · simp only [et,ph] at o; exact o
    · exact o.elim
structure yC (K:PySem.W.Frag) (mg:Str→Option Value) (x:Str) (C:Addr):Prop where
  m:mg x=some (.ref C)
  e:PySem.W.excIn K C [.type "ValueError",.type "Exception",.type "BaseException",.type "object"] "ValueError.__new__"=true
noncomputable def qt (C:Addr) (gs:Ds→Rs (List PyData)):Ds→Sr:=fun δ=>ofR (gs δ) fun _=>.rz C
theorem rG {x:Str} {C:Addr} {np cpos:Pos} {es:List Expr} {gs:Ds→Rs (List PyData)} (hc:X.calm=true) (M:vF X E) (EE:yC X.K X.mg x C) (ha:PAD X E (e::es) gs) (hl:(e::es).length≤1000:=by decide) (hg:Gl X x:=by rfl)
    (hdb:(x == ("__debug__":Str))=false:=by decide) (he:starEach (e::es) X.env=(false,eval e X.env)::starEach es X.env:=by rfl) (hpl:(backTo cpos (starEach es X.env)).any (·.1)=false:=by rfl) :
    PSD X E O (.Raise (some (.Call (.Name x np) (e::es) [] cpos)) none pos) (qt C gs) :=
  (Bb hc M PySem.F.excBase_ValueError hg EE.m EE.e ha.1 hdb he hpl).imp fun D σ H pz3=>by
    obtain ⟨H0,A0,A,δ,R,o⟩:=pz3
    unfold qt at o
    refine aD.run R.full (fun ds ed vs H1 s1 R1 hv=>?_) (fun C et H' s'=>?_) (fun et=>?_)
    · simp only [ed,ay] at o
      exact ⟨by rw [hv.length,ha.2 δ ds ed,sizeLine_eq]; omega,o H1 (R.same.trans s1)⟩
    · simp only [et,pS] at o; exact o H' (R.same.trans s')
    · simp only [et,ph] at o; exact o
end
section
variable {P:Program} {w:World} {K:PySem.W.Frag} {mg:Str→Option Value} {base:Heap}
theorem tO {x qual:Str} {st:Stmt} {f:Addr} {fd:FuncData} {N ps:List Str} {k:Nat} {sp:Sp} {CX:CXT} (F:Fun K x qual st f fd) (S:bb N ps (aG st)) (len:∀ vs H Q E,sp vs H Q E→vs.length=ps.length)
    (hbody:∀ (cdv:Value) (A:Around) (outer:List Env) (s:Shared) (H:Hp) (vs:List V) (Q:VK) (E:XK),fm k (A.deeper (envOfC qual (aG st) s.heap.objs.size f cdv))→sp vs H Q E →
      ∃ t,PSs (iX CX P w K mg base N qual (aG st) f cdv A outer s H E) (eR st) t∧t { nx:=fun _ H'=>Q .non H',rt:=Q } (start N vs) H):jk P w K mg base CX (k + 1) f fd ps sp:=by
  obtain ⟨oc,od,kV,doc,pm,an,cdv,ct,osl,rfl,lk,hcd⟩:=F.ex
  exact Dh lk hcd S len fun A outer s H vs Q E hr hsp=>hbody cdv A outer s H vs Q E hr hsp
noncomputable def bf:Sr→Rs PyData
  | .rt d=>.ok d
  | .nx _=>.ok .none
  | .rz C=>.rz C
  | _=>.no
theorem AO {N:List Str} {qual:Str} {scope:Scope} {f:Addr} {cd:Value} {A:Around} {outer:List Env} {s:Shared} {H:Hp} {E:XK}:vF (iX (CXW P w) P w K mg base N qual scope f cd A outer s H E) E :=
  fun _ _ _ _ _ _ _ _ I hx hE=>uT (CX:=CX0) I hx hE
theorem cO.start {N ps:List Str} {A0:List Addr} {H:Hp} {O:List Nat} {ds:List PyData} {vs:List V} (hA:Ls H A0) (hi:Iss K (del H A0) ds vs) (hl:ds.length=ps.length) (hO:∀ i∈O,ps.length≤i) :
    cO K H A0 H [] O (ds.map some++List.replicate (N.length - ps.length) none) (L2.start N vs):=by
  have hv:=hi.length
  have at':∀ (i:Nat) d,(ds.map some++List.replicate (N.length - ps.length) none)[i]?=some (some d)→i < ds.length∧ds[i]?=some d:=fun i d e=>by
    by_cases h:i < ds.length
    · rw [List.getElem?_append_left (by simpa using h),List.getElem?_map] at e
      refine ⟨h,?_⟩
      cases q:ds[i]? with
      | none=>rw [q] at e; cases e
      | some z=>rw [q] at e; simp at e; rw [e]
    · rw [List.getElem?_append_right (by simpa using h),List.getElem?_replicate] at e
      split at e <;> cases e
  refine ⟨aM.refl _,hA,(fun a h=>by cases h),(fun a h=>by cases h),?_,fun i d _ e=>?_,fun i d h e=>?_,fun i j d e a h _ q _ _ _=>?_⟩
  · unfold L2.start; simp [hv,hl]
  · obtain ⟨hlt,e⟩:=at' i d e
    obtain ⟨v,ev,hd⟩:=hi.getD e
    refine ⟨v,?_,hd⟩
    unfold L2.start
    rw [List.getElem?_append_left (by simp; omega),List.getElem?_map,ev]
    rfl
  · obtain ⟨hlt,_⟩:=at' i d e
    exact absurd (hO i h) (by omega)
  · obtain ⟨hlt,_⟩:=at' i d q
    exact absurd (hO i h) (by omega)
theorem aY.of {x qual:Str} {st:Stmt} {f:Addr} {fd:FuncData} {N ps:List Str} {k:Nat} {O:List Nat} {G:Ds→Sr} {gf:List PyData→Rs PyData} (F:Fun K x qual st f fd) (S:bb N ps (aG st)) (b:Binds K fd ps []) (m:mg x=some (.ref f)) (hO:∀ i∈O,ps.length≤i)
    (body:∀ (cdv:Value) (A:Around) (outer:List Env) (s:Shared) (H:Hp) (E:XK),fm k (A.deeper (envOfC qual (aG st) s.heap.objs.size f cdv))→PBD (iX (CXW P w) P w K mg base N qual (aG st) f cdv A outer s H E) E O (eR st) G)
    (hg:∀ ds,ds.length=ps.length→gf ds≠.no→bf (G (ds.map some++List.replicate (N.length - ps.length) none))=gf ds):aY P w K mg base (k + 1) x ps.length gf:=by
  refine ⟨f,fd,ps,tO F S (fun vs H Q E h=>?_) (fun cdv A outer s H vs Q E hr h=>?_),m,F.kp,b⟩
  · obtain ⟨A,ds,hA,hi,hl,o⟩:=h
    rw [hi.length,hl]
  · obtain ⟨A0,ds,hA,hi,hl,o⟩:=h
    refine ⟨_,body cdv A outer s H E hr,H,A0,[],_,cO.start hA hi hl hO,?_⟩
    have hg':=hg ds hl (fun z=>by rw [z] at o; exact o)
    cases q:G (ds.map some++List.replicate (N.length - ps.length) none) with
    | rt d=>rw [q] at hg'; rw [← hg'] at o; exact fun v H' s' hv=>o v H' s' hv
    | nx δ=>rw [q] at hg'; rw [← hg'] at o; exact fun A' σ H' R'=>o .non H' R'.same is_none
    | rz C=>rw [q] at hg'; rw [← hg'] at o; exact fun H' s'=>o H' s'
    | bk δ=>rw [q] at hg'; rw [← hg'] at o; exact o.elim
    | ct δ=>rw [q] at hg'; rw [← hg'] at o; exact o.elim
    | no=>rw [q] at hg'; rw [← hg'] at o; exact o.elim
theorem aY.old {x:Str} {f:Addr} {fd:FuncData} {ps:List Str} {k:Nat} {sp:Sp} {gf:List PyData→Rs PyData} (F:jk P w K mg base CX0 k f fd ps sp) (m:mg x=some (.ref f)) (kp:PySem.W.keepIn K (.ref f)=true) (b:Binds K fd ps [])
    (h:∀ ds,ds.length=ps.length→gf ds≠.no→∃ d,gf ds=.ok d∧fw d=true∧∀ vs H Q,Iss K H ds vs→(∀ v H',aM H H'→IsD K H' d v→Q v H')→sp vs H Q E0):aY P w K mg base k x ps.length gf:=by
  refine ⟨f,fd,ps,⟨fun vs H Q E h'=>?_,fun A outer s H args us vs Q E hr he hb hv h'=>?_⟩,m,kp,b⟩
  · obtain ⟨A,ds,hA,hi,hl,o⟩:=h'
    rw [hi.length,hl]
  · obtain ⟨A0,ds,hA,hi,hl,o⟩:=h'
    obtain ⟨d,e,nl,hsp⟩:=h ds hl (fun z=>by rw [z] at o; exact o)
    rw [e] at o
    refine codeAny_mono (F.run A outer s H args us vs Q E0 hr he hb hv (hsp vs H Q (hi.same aX) fun v H' s' hd=>o v H' s' ((hd.is nl).dl (hA.same s') (wm nl)))) fun r s' hq=>?_
    cases r with
    | error ev=>exact False.elim hq
    | ok fl =>
      cases fl with
      | ret u=>exact hq
      | next=>exact False.elim hq
      | brk=>exact False.elim hq
      | cont=>exact False.elim hq
end
end L2
set_option maxRecDepth 100000
set_option maxHeartbeats 4000000
namespace L2
open PySem PySem.Spec PyProof.Rows
open AutoSeq1 (wpAny_loadPart')
theorem nL:fillsNumberSlot (.type "tuple") "mul"=pure false :=
  PySem.fillsNumberSlot_seq (id:="tuple.__mul__") (r:=some (.builtin "tuple.__rmul__")) PySem.F.slot_tuple_mul.lookup (by decide +kernel) PySem.F.slot_tuple_rmul.lookup (by decide +kernel)
theorem sx:seqRepeat? (.type "tuple")=pure (some (.builtin "tuple.__mul__")):=by
  unfold seqRepeat?
  rw [PySem.seqSlot_of (T:="tuple") (name:="__mul__") (id:="tuple.__mul__") PySem.F.slot_tuple_mul.lookup (by decide +kernel),PySem.seqSlot_of (T:="tuple") (name:="__rmul__") (id:="tuple.__rmul__") PySem.F.slot_tuple_rmul.lookup (by decide +kernel)]
  rfl
theorem sq (a:Int) (t:Tok) (l:Addr) (items:Array Value) (n:Nat) (dd:Option Addr) (sl:Array (Option Value)) :
    Meets (Builtin.«int.__rmul__» ⟨[.int a t,.ref l],[]⟩) (fun _ R s=>s.heap.get? l=some { cls:=.type "tuple",dict:=dd,data:=.seq items n,slots:=sl }∧R (.ok (.ret Value.notImplemented)) s) :=
  .of_wp fun prog w A R s h=>by obtain ⟨hp,g,d,tk,os⟩:=s; obtain ⟨hl,h⟩:=h; wp_walk; exact ⟨_,rfl,h⟩
theorem AW (l:Addr) (items:Array Value) (n:Nat) (x:Int) (u:Tok) (dd:Option Addr) (sl:Array (Option Value)) (h1:(decide (x < -(2 ^ 63)) || decide (x ≥ 2 ^ 63))=false) (h2:(items.isEmpty || x == 1)=false) (h3:(decide (x≤0) || items.isEmpty)=false)
    (h4:decide ((items.size:Int) * x > (2 ^ 63 - 1) / 8)=false) (h5:Builtin.Tuple.tupleTooMany ((items.size:Int) * x)=false) (hsz:(List.foldl (fun x1 x2=>x1++x2) #[] (List.replicate x.toNat items)).size≤sizeLine) :
    Meets (Builtin.«tuple.__mul__» ⟨[.ref l,.int x u],[]⟩) (fun _ R s=>s.heap.get? l=some { cls:=.type "tuple",dict:=dd,data:=.seq items n,slots:=sl }∧R (.ok (.ret (Value.ref s.heap.objs.size))) { s with heap:=s.heap.push { cls:=Value.type "tuple",data:=Data.seq (List.foldl (fun x1 x2=>x1++x2) #[] (List.replicate x.toNat items)) } }) :=
  .of_wp fun prog w A R s h=>by
    obtain ⟨hp,g,d,tk,os⟩:=s; obtain ⟨hl,h⟩:=h
    have f1:=AutoSeq1.idx_int; have f2:=AutoSeq1.sub_tuple_tuple
    wp_walk using wpAny_loadPart' hl
    refine wpAny_ite_false (by rw [h1]; rfl) ?_
    wp_walk using wpAny_loadPart' hl
    refine wpAny_ite_false h4 ?_
    wp_walk using wpAny_loadPart' hl
    exact ⟨_,rfl,h⟩
section
variable {X:Cx} {E:XK} {a b c e:Expr} {ga gb gc:Ds→Rs PyData} {pos:Pos} {es:List Expr} {gs:Ds→Rs (List PyData)}
noncomputable def C5 (K:PySem.W.Frag):R2:=fun x y H Q=>∃ l k xs,x=.ref l∧y=.int k∧SqT K H l xs∧xs≠[]∧2≤k∧k < 1000000∧xs.length * k.toNat≤1000000∧∀ p,H p=none→Q (.ref p) (upd H p (.tup (List.replicate k.toNat xs).flatten))
theorem Cm:OpR X (binaryOp .Mult) (C5 X.K):=by
  intro pins s σ H x y v u Q I rx ry h
  obtain ⟨l,k,xs,rfl,rfl,hl,hne,hk1,hk2,hz,q⟩:=h
  cases rx
  obtain ⟨t,rfl⟩:=ry
  obtain ⟨its,r,p1,_⟩:=I.tuple hl
  obtain ⟨⟨cls,dd,data,sl⟩,ho,hc,n,hd⟩:=id p1
  simp only at hc hd
  subst hc hd
  have hlen:=r.length
  have hne':its≠[]:=fun z=>hne (r.nil_iff.mp z)
  have hpos:0 < its.length:=List.length_pos_iff.mpr hne'
  have hfold:List.foldl (fun x1 x2=>x1++x2) #[] (List.replicate k.toNat its.toArray)=(List.replicate k.toNat its).flatten.toArray:=by
    have:=foldl_rep its k.toNat []
    rw [List.nil_append] at this
    exact this
  have hemp:its.toArray.isEmpty=false:=by simp [hne']
  have hmul:(its.length:Int) * k≤1000000:=by
    have e1:((its.length * k.toNat:Nat):Int)=(its.length:Int) * k:=by
      rw [Int.natCast_mul,Int.toNat_of_nonneg (by omega)]
    rw [← e1,← hlen]; omega
  have hsz2:(List.replicate k.toNat its).flatten.length≤1000000:=by rw [len_rep,Nat.mul_comm,← hlen]; exact hz
  refine wpAny_binaryOp_repeat_ref (T:="tuple") (U:="int") (by decide) ⟨_,ho,rfl⟩ (fun s'=>typeIs_int s' k t) nL PySem.F.fills_int_mul PySem.F.slot_int_rmul sx PySem.F.slot_int_index.lookup
    (call_meets PySem.F.slot_int_rmul (typeIs_int s k t) PySem.F.entry_int_rmul (PySem.F.args_int_rmul_2 _ _) (sq k t l its.toArray n dd sl)
      ⟨ho,rfl,⟨_,ho,rfl⟩,call_meets PySem.F.slot_tuple_mul ⟨_,ho,rfl⟩ PySem.F.entry_tuple_mul (PySem.F.args_tuple_mul_2 _ _) (AW l its.toArray n k t dd sl ?_ ?_ ?_ ?_ ?_ ?_) ⟨ho,?_⟩⟩)
  · rw [decide_eq_false (by omega),decide_eq_false (by omega)]; rfl
  · rw [hemp,Bool.false_or]; simp; omega
  · rw [hemp,Bool.or_false]; exact decide_eq_false (by omega)
  · rw [List.size_toArray]; exact decide_eq_false (by omega)
  · rw [List.size_toArray]
    unfold Builtin.Tuple.tupleTooMany
    rw [sizeLine_eq]
    exact decide_eq_false (by omega)
  · rw [hfold,List.size_toArray,sizeLine_eq]; omega
  · rw [hfold]
    refine ⟨.ref s.heap.objs.size,_,I.laid (t':=s.toks) (o:=.tup (List.replicate k.toNat xs).flatten) (fun b ob q=>Heap.get?_push_of_some _ q) (Nat.le_refl _) ?_,rfl,q _ (I.hok.fresh (Nat.le_refl _))⟩
    exact ⟨by rw [len_rep,Nat.mul_comm,sizeLine_eq]; omega,_,r.rep k.toNat,sf.new _ _⟩
noncomputable def lJ:PyData→PyData→Option PyData
  | .int i,.int j=>if (-(2 ^ 64) < i∧i < 2 ^ 64)∨(-(2 ^ 64) < j∧j < 2 ^ 64) then some (.int (i * j)) else none
  | .list x,.int k=>if 0≤k∧k < 1000000∧x.length * k.toNat≤1000000 then some (.list (List.replicate k.toNat x).flatten) else none
  | .tuple x,.int k=>if x≠[]∧2≤k∧k < 1000000∧x.length * k.toNat≤1000000 then some (.tuple (List.replicate k.toNat x).flatten) else none
  | _,_=>none
theorem Cd {K:PySem.W.Frag}:OpD K lJ (fun x y H Q=>rI BZ (fun i j=>.int (i * j)) x y H Q∨EY x y H Q∨C5 K x y H Q):=fun d1 d2 d x y H A Q e hA h1 h2 k=>by
  unfold lJ at e
  split at e
  · split at e
    · rename_i z
      cases e
      exact .inl ⟨_,_,h1.ofInt,h2.ofInt,z,k _ H (aM.refl _) c6⟩
    · cases e
  · split at e
    · rename_i z
      cases e
      obtain ⟨p,xs,rfl,hp,hx⟩:=h1.ofLst
      exact .inr (.inl ⟨p,_,xs,rfl,h2.ofInt,aX _ _ hp,by omega,by omega,by rw [hx.length,sizeLine_eq]; omega,fun r hr=>k _ _ (cE hr) (kU hA hr (hx.rep _))⟩)
    · cases e
  · split at e
    · rename_i z
      cases e
      obtain ⟨p,xs,rfl,hp,hx⟩:=h1.ofTup
      refine .inr (.inr ⟨p,_,xs,rfl,h2.ofInt,SqT.of (aX _ _ hp),fun q=>z.1 ?_,z.2.1,z.2.2.1,by rw [hx.length]; exact z.2.2.2,fun r hr=>k _ _ (cE hr) (mI hA hr (hx.rep _))⟩)
      exact List.length_eq_zero_iff.mp (by rw [← hx.length,q]; rfl)
    · cases e
  · cases e
theorem tx (ha:PD X E a ga) (hb:PD X E b gb):PD X E (.BinOp a .Mult b pos) (g2 lJ ga gb):=jC Cd ha hb (fV (nv.or (DG.or Cm)))
end
section
variable {prog:Program} {w:World} {A:Around} {E:Value→Shared→Prop} {s:Shared}
theorem k8 {t sl:Addr} {items:Array Value} {vl vu:Value} {lo hi:Option Int} {Q:Value→Shared→Prop} (ht:IsTup s.heap t items) (hs:s.heap.IsSliceOf sl vl vu .none) (pl:IsPart vl lo) (pu:IsPart vu hi)
    (hw:HT.sIx items.size 0 lo=0∧HT.sIx items.size items.size hi=items.size) (h:Q (.ref t) s):wpAny (model prog w) A (getItem (.ref t) (.ref sl)) Q E s:=by
  obtain ⟨os,hos,hcs,hds⟩:=id hs
  have hTs:s.TypeIs (.ref sl) "slice":=⟨os,hos,hcs⟩
  unfold getItem
  try with_reducible refine wpAny_holding ?_
  first | refine wpAny_bind (wpAny_pure ?_) | skip
  refine wpAny_bind (wpAny_sequenceKey ht.typeIs (by decide) ?_)
  refine wpAny_bind (wpAny_callSpecial?_slot (name:=Str.ofString "__getitem__") ht.typeIs PyProof.Rows.slot_tuple_getitem
    (wpAny_call_entry PyProof.Rows.slot_tuple_getitem ht.typeIs entry_tuple_getitem ?_ (args_tuple_getitem _ _)))
  show wpAny _ _ (Builtin.Tuple.tupleItemsOf (.ref t) >>= _) _ _ s
  refine wpAny_bind (tupleItemsOf_ ht ?_)
  refine wpAny_bind (wpAny_typeOf hTs ?_)
  rw [if_pos (by decide)]
  refine wpAny_bind (HT.i5 hs pl pu ?_)
  have hyes:(((HT.sIx items.size 0 lo:Nat):Int) == 0 && (1:Int) == 1 && (HT.sIx items.size items.size hi - HT.sIx items.size 0 lo) == items.size)=true:=by
    rw [hw.1,hw.2]; simp
  show wpAny _ _ (if (((HT.sIx items.size 0 lo:Nat):Int) == 0 && (1:Int) == 1 && (HT.sIx items.size items.size hi - HT.sIx items.size 0 lo) == items.size)=true then _ else _) _ _ s
  rw [if_pos hyes]
  refine wpAny_bind (m:=Builtin.Tuple.tupleIsExact (.ref t)) (wpAny_bind (wpAny_typeOf ht.typeIs (wpAny_pure ?_)))
  rw [if_pos (by decide)]
  first
    | exact wpAny_bind (wpAny_rule (wpAny_pure ⟨_,rfl,wpAny_pure h⟩))
    | (refine wpAny_bind (wpAny_rule ?_); trace_state; exact wpAny_pure ⟨_,rfl,wpAny_pure h⟩)
end
end L2
set_option maxRecDepth 100000
set_option maxHeartbeats 4000000
namespace L2
open PySem PySem.Spec PyProof.Rows
section
variable {X:Cx} {E:XK} {a b c e:Expr} {ga gb gc:Ds→Rs PyData} {pos:Pos} {es:List Expr} {gs:Ds→Rs (List PyData)}
noncomputable def FA (K:PySem.W.Frag):V→Option Int→Option Int→Hp→VK→Prop:=fun x lo hi H Q=>∃ a xs,x=.ref a∧SqT K H a xs∧(HT.sIx xs.length 0 lo=0∧HT.sIx xs.length xs.length hi=xs.length)∧Q (.ref a) H
theorem BP:SlR X (FA X.K):=by
  intro pins s σ H x v vl vu lo hi sl Q I rx hs pl pu h
  obtain ⟨a,xs,rfl,hx,hw,q⟩:=h
  cases rx
  obtain ⟨its,r,ht,hz⟩:=I.tuple hx
  have hlen:its.toArray.size=xs.length:=by rw [List.size_toArray,r.length]
  refine ⟨"tuple",_,PyProof.Rows.slot_tuple_getitem.lookup,ht.typeIs,?_⟩
  exact k8 ht hs pl pu (by rw [hlen]; exact hw) ⟨.ref a,H,I,rfl,q⟩
noncomputable def cutD (xs:List PyData) (lo hi:Option Int):List PyData:=(xs.drop (HT.sIx xs.length 0 lo)).take (HT.sIx xs.length xs.length hi - HT.sIx xs.length 0 lo)
noncomputable def v5:PyData→Option Int→Option Int→Option PyData
  | .list x,lo,hi=>some (.list (cutD x lo hi))
  | .tuple x,lo,hi=>some (.tuple (cutD x lo hi))
  | _,_,_=>none
noncomputable def zL:PyData→Rs (Option Int)
  | .int i=>.ok (some i)
  | _=>.no
noncomputable def cA:Ds→Rs (Option Int):=fun _=>.ok none
noncomputable def eZ (g:Ds→Rs PyData):Ds→Rs (Option Int):=fun δ=>(g δ).bind zL
noncomputable def F7 (E:XK) (H:Hp) (r:Rs (Option Int)) (Q:Option Int→Hp→Prop):Prop:=match r with
  | .ok o=>∀ H',aM H H'→Q o H'
  | .rz C=>∀ H',aM H H'→E (.ref C) none H'
  | .no=>False
noncomputable def oD (K:PySem.W.Frag) (E:XK) (g:Ds→Rs (Option Int)):TO:=fun σ H Q=>∃ A δ,fF K H A δ σ∧F7 E H (g δ) Q
noncomputable def POD (X:Cx) (E:XK) (e:Option Expr) (g:Ds→Rs (Option Int)):Prop:=PO X e (oD X.K E g)
theorem PO.imp {e:Option Expr} {t t':TO} (h:PO X e t) (k:∀ σ H Q,t' σ H Q→t σ H Q):PO X e t':=fun pins s σ H Q I q=>h pins s σ H Q I (k σ H Q q)
theorem jY:POD X E none cA:=CS.imp fun σ H Q qz3=>(by obtain ⟨A,δ,R,o⟩:=qz3; exact o H (aM.refl _))
theorem j8 (h:PD X E e ga):POD X E (some e) (eZ ga):=(Cr h).imp fun σ H Q ⟨A,δ,R,o⟩=>⟨A,δ,R,by
  unfold eZ at o
  cases q:ga δ with
  | no=>rw [q] at o; exact o
  | rz C=>rw [q] at o; exact o
  | ok d =>
    rw [q] at o
    cases d with
    | int i=>exact fun v H' s h=>⟨i,h.ofInt,o H' s⟩
    | _=>exact o.elim⟩
theorem oD.run {K:PySem.W.Frag} {g:Ds→Rs (Option Int)} {σ:St} {H:Hp} {A:List Addr} {δ:Ds} {Q:Option Int→Hp→Prop} (R:fF K H A δ σ)
    (ok:∀ d,g δ=.ok d→∀ H',aM H H'→fF K H' A δ σ→Q d H') (rz:∀ C,g δ=.rz C→∀ H',aM H H'→E (.ref C) none H') (no:g δ=.no→False):oD K E g σ H Q:=by
  refine ⟨A,δ,R,?_⟩
  cases e:g δ with
  | ok d=>exact fun H' s=>ok d e H' s (R.same s)
  | rz C=>exact fun H' s=>rz C e H' s
  | no=>exact no e
noncomputable def c5 (g:Ds→Rs PyData) (lo hi:Ds→Rs (Option Int)):Ds→Rs PyData:=fun δ=>(g δ).bind fun d=>(lo δ).bind fun l=>(hi δ).bind fun h=>Rs.f9 (v5 d l h)
theorem Iss.cut {K:PySem.W.Frag} {H:Hp} {ds:List PyData} {vs:List V} (h:Iss K H ds vs) (lo hi:Option Int):Iss K H (cutD ds lo hi) (ub vs lo hi):=by
  unfold cutD ub
  rw [h.length]
  exact (h.drop _).take _
theorem ko {lo hi:Option Expr} {gl gh:Ds→Rs (Option Int)} {p2:Pos} (he:PD X E e ga) (hl:POD X E lo gl) (hh:POD X E hi gh):PD X E (.Subscript e (.Slice lo hi none p2) pos) (c5 ga gl gh) :=
  (Ad (Cz.or (D5.or BP)) he hl hh).imp fun σ H Q pz3=>by
    obtain ⟨A,δ,R,o⟩:=pz3
    unfold c5 at o
    refine eD.run R (fun d ed v H1 s1 R1 hv=>?_) (fun C et H' s'=>by rw [et] at o; exact o H' s') (fun et=>by rw [et] at o; exact o)
    simp only [ed,Rs.ai] at o
    refine oD.run R1 (fun l el H2 s2 R2=>?_) (fun C et H' s'=>by rw [et] at o; exact o H' (s1.trans s')) (fun et=>by rw [et] at o; exact o)
    simp only [el,Rs.ai] at o
    refine oD.run R2 (fun h eh H3 s3 R3=>?_) (fun C et H' s'=>by rw [et] at o; exact o H' (s1.trans (s2.trans s'))) (fun et=>by rw [et] at o; exact o)
    simp only [eh,Rs.ai] at o
    have hv3:=hv.same (s2.trans s3).del
    have s13:=s1.trans (s2.trans s3)
    cases d with
    | list ds =>
      obtain ⟨p,xs,rfl,hp,hx⟩:=hv3.ofLst
      exact .inl ⟨p,xs,rfl,SqL.of (aX _ _ hp),fun q hq=>o _ _ (s13.trans (cE hq)) (kU R3.ls hq (hx.cut l h))⟩
    | tuple ds =>
      obtain ⟨p,xs,rfl,hp,hx⟩:=hv3.ofTup
      by_cases hw:HT.sIx xs.length 0 l=0∧HT.sIx xs.length xs.length h=xs.length
      · refine .inr (.inr ⟨p,xs,rfl,SqT.of (aX _ _ hp),hw,o _ _ s13 ?_⟩)
        have e:cutD ds l h=ds:=by
          unfold cutD
          rw [← hx.length,hw.1,hw.2]
          simp [hx.length]
        show Is X.K _ (.tuple (cutD ds l h)) _
        rw [e]
        exact lH hp hx
      · exact .inr (.inl ⟨p,xs,rfl,SqT.of (aX _ _ hp),hw,fun q hq=>o _ _ (s13.trans (cE hq)) (mI R3.ls hq (hx.cut l h))⟩)
    | _=>exact o.elim
noncomputable def toV:PyData→V
  | .none=>.non
  | .bool b=>.bl b
  | .int i=>.int i
  | .str x=>.str x
  | _=>.non
noncomputable def inD (x:PyData) (xs:List PyData):Bool:=inV (toV x) (xs.map toV)
noncomputable def gG (neg:Bool):PyData→PyData→Option PyData
  | x,.list xs=>if fw x && xs.all fw then some (.bool (if neg then !inD x xs else inD x xs)) else none
  | x,.tuple xs=>if fw x && xs.all fw then some (.bool (if neg then !inD x xs else inD x xs)) else none
  | _,_=>none
theorem Is.flat {K:PySem.W.Frag} {H:Hp} {d:PyData} {v:V} (h:Is K H d v) (f:fw d=true):v=toV d∧jV v=true:=by
  cases d with
  | none=>rw [h.ofNone]; exact ⟨rfl,rfl⟩
  | bool b=>rw [h.ofBool]; exact ⟨rfl,rfl⟩
  | int i=>rw [h.ofInt]; exact ⟨rfl,rfl⟩
  | str x=>rw [h.ofStr]; exact ⟨rfl,rfl⟩
  | _=>cases f
theorem Iss.flat {K:PySem.W.Frag} {H:Hp}:∀ {ds:List PyData} {vs:List V},Iss K H ds vs→ds.all fw=true→vs=ds.map toV∧vs.all jV=true
  | [],_,h,_=>by rw [h.nil_of]; exact ⟨rfl,rfl⟩
  | d::ds,_,h,f=>by
    rw [List.all_cons,Bool.and_eq_true] at f
    obtain ⟨v,r,rfl,h1,h2⟩:=h.cons_of
    obtain ⟨e1,f1⟩:=h1.flat f.1
    obtain ⟨e2,f2⟩:=Iss.flat h2 f.2
    exact ⟨by rw [e1,e2]; rfl,by rw [List.all_cons,f1,f2]; rfl⟩
theorem wy {K:PySem.W.Frag} {neg:Bool}:OpD K (gG neg) (rIn K neg):=fun d1 d2 d x y H A Q e hA h1 h2 k=>by
  unfold gG at e
  split at e
  · split at e
    · rename_i z
      rw [Bool.and_eq_true] at z
      cases e
      obtain ⟨p,xs,rfl,hp,hx⟩:=h2.ofLst
      obtain ⟨e1,f1⟩:=h1.flat z.1
      obtain ⟨e2,f2⟩:=hx.flat z.2
      refine ⟨p,xs,rfl,.inl (SqL.of (aX _ _ hp)),f1,f2,?_⟩
      rw [e1,e2]
      exact k _ H (aM.refl _) is_bool
    · cases e
  · split at e
    · rename_i z
      rw [Bool.and_eq_true] at z
      cases e
      obtain ⟨p,xs,rfl,hp,hx⟩:=h2.ofTup
      obtain ⟨e1,f1⟩:=h1.flat z.1
      obtain ⟨e2,f2⟩:=hx.flat z.2
      refine ⟨p,xs,rfl,.inr (SqT.of (aX _ _ hp)),f1,f2,?_⟩
      rw [e1,e2]
      exact k _ H (aM.refl _) is_bool
    · cases e
  · cases e
theorem Fl (ha:PD X E a ga) (hb:PD X E b gb) (hm:behindInMarks .In b=false:=by with_unfolding_all rfl):PD X E (.Compare a [.In] [b] pos) (g2 (gG false) ga gb):=jC wy ha hb fun h1 h2=>tK rV h1 h2 hm
theorem Ej (ha:PD X E a ga) (hb:PD X E b gb) (hm:behindInMarks .In b=false:=by with_unfolding_all rfl):PCD X E (.Compare a [.In] [b] pos) (gT (g2 (gG false) ga gb)):=md wy ha hb fun h1 h2=>kK rV h1 h2 hm
theorem nN (ha:PD X E a ga) (hb:PD X E b gb) (hm:behindInMarks .NotIn b=false:=by with_unfolding_all rfl):PCD X E (.Compare a [.NotIn] [b] pos) (gT (g2 (gG true) ga gb)):=md wy ha hb fun h1 h2=>kK tG h1 h2 hm
noncomputable def nK (f f':PyData→PyData→Option PyData) (a b c:Ds→Rs PyData):Ds→Rs PyData:=fun δ=>(a δ).bind fun x=>(b δ).bind fun y=>(Rs.f9 (f x y)).bind fun z=>(truth z).bind fun t=>if t=true then (c δ).bind fun w=>Rs.f9 (f' y w) else .ok (.bool false)
theorem zY {op op':CmpOp} {r r':R2} {f f':PyData→PyData→Option PyData} (ho:OpR X (compareOp op) r) (ho':OpR X (compareOp op') r') (hf:OpD X.K f r) (hf':OpD X.K f' r') (ha:PD X E a ga) (hb:PD X E b gb) (hc:PD X E c gc)
    (hm:lastMarks [op,op'] [b,c]=false:=by with_unfolding_all rfl):PD X E (.Compare a [op,op'] [b,c] pos) (nK f f' ga gb gc):=(Bu ho ho' ha hb hc hm).imp fun σ H Q pz3=>by
  obtain ⟨A,δ,R,o⟩:=pz3
  unfold nK at o
  refine eD.run R (fun d1 e1 v H1 s1 R1 h1=>?_) (fun C et H' s'=>by rw [et] at o; exact o H' s') (fun et=>by rw [et] at o; exact o)
  simp only [e1,Rs.ai] at o
  refine eD.run R1 (fun d2 e2 u H2 s2 R2 h2=>?_) (fun C et H' s'=>by rw [et] at o; exact o H' (s1.trans s')) (fun et=>by rw [et] at o; exact o)
  simp only [e2,Rs.ai] at o
  cases e3:f d1 d2 with
  | none=>rw [e3] at o; exact o.elim
  | some z =>
    simp only [e3,Rs.ak,Rs.ai] at o
    refine hf d1 d2 z v u H2 A _ e3 R2.ls (h1.same s2.del) h2 fun w H3 s3 h3=>?_
    obtain ⟨t,rfl,o⟩:=pJ o
    refine ⟨t,h3.ofBool,?_⟩
    cases t with
    | false=>exact o _ H3 (s1.trans (s2.trans s3)) is_bool
    | true =>
      have o:iO X.K E A H ((gc δ).bind fun w=>Rs.f9 (f' d2 w)) Q:=o
      refine eD.run (R2.same s3) (fun d3 e4 w' H4 s4 R4 h4=>?_) (fun C et H' s'=>by rw [et] at o; exact o H' (s1.trans (s2.trans (s3.trans s')))) (fun et=>by rw [et] at o; exact o)
      simp only [e4,Rs.ai] at o
      cases e5:f' d2 d3 with
      | none=>rw [e5] at o; exact o.elim
      | some d=>rw [e5] at o; exact hf' d2 d3 d u w' H4 A Q e5 R4.ls (h2.same (s3.trans s4).del) h4 fun x H5 s5 h5=>o x H5 (s1.trans (s2.trans (s3.trans (s4.trans s5)))) h5
theorem yj (ha:PD X E a ga) (hb:PD X E b gb) (hc:PD X E c gc) (hm:lastMarks [.LtE,.LtE] [b,c]=false:=by with_unfolding_all rfl):PD X E (.Compare a [.LtE,.LtE] [b,c] pos) (nK dLe dLe ga gb gc):=zY xv xv (qy fun _ _ _ _=>is_bool) (qy fun _ _ _ _=>is_bool) ha hb hc hm
end
section
variable {X:Cx} {E:XK} {tg a b c:Expr} {pos:Pos} {gs:Ds→Rs (List PyData)}
noncomputable def Gp (i j c:Int):Nat:=(Builtin.Range.rangeSize i j c).toNat
noncomputable def Ex (i j c:Int):Bool:=decide (-(1000000)≤i∧i≤1000000∧-(1000000)≤j∧j≤1000000∧-(1000000)≤c∧c≤1000000∧c≠0) && Builtin.Range.small i j c
noncomputable def D6 (lo c:Int) (n:Nat):List PyData:=(List.range n).map fun (i:Nat)=>PyData.int (lo + (i:Int) * c)
noncomputable def Fh:List PyData→Rs (List PyData)
  | [.int i,.int j,.int c]=>if Ex i j c then .ok (D6 i c (Gp i j c)) else .no
  | _=>.no
noncomputable def E9 (g:Ds→Rs (List PyData)):Ds→Rs (List PyData):=fun δ=>(g δ).bind Fh
noncomputable def tLR (ta:TA):TE:=fun σ H Q=>ta σ H fun vs H1=>∃ j:Int,vs=[.int j]∧0≤j∧j≤1000000∧∀ p,H1 p=none→Q (.ref p) (upd H1 p (.lst ((List.range j.toNat).map fun (i:Nat)=>V.int (i:Int))))
theorem Dy {pins:List (Addr × Obj)} {σ:St} {H1:Hp} {s2:Shared} {Q:VK} {j:Int} {h':Heap} {tk:Nat} {acc':Array Value} {c':Nat} (I2:Inv X pins σ H1 s2) (kk:∀ b o,s2.heap.get? b=some o→h'.get? b=some o)
    (hl:h'.get? s2.heap.objs.size=some { cls:=.type "list",dict:=none,data:=.seq acc' c',slots:=#[] }) (hi:ItemsOf (fun i v=>∃ t,v=.int ((0:Int) + (i:Int) * 1) t) acc' j.toNat) (q1:0≤j) (q2:j≤1000000)
    (q:∀ p,H1 p=none→Q (.ref p) (upd H1 p (.lst ((List.range j.toNat).map fun (i:Nat)=>V.int (i:Int))))):EP X pins σ Q (.ref s2.heap.objs.size) { s2 with heap:=h',toks:=tk }:=by
    have hv:Vals ((List.range j.toNat).map fun (i:Nat)=>V.int (i:Int)) acc'.toList:=by
      have aux:∀ (l:List Value) (k:Nat),(∀ (m:Nat) v,l[m]?=some v→∃ t,v=.int ((0:Int) + ((k + m:Nat):Int) * 1) t)→Vals ((List.range' k l.length).map fun (i:Nat)=>V.int (i:Int)) l:=by
        intro l
        induction l with
        | nil=>intro k _; exact .nil
        | cons x r ih =>
          intro k hk
          rw [List.length_cons,List.range'_succ,List.map_cons]
          refine .cons ?_ (ih (k + 1) fun m v hm=>?_)
          · obtain ⟨t,e⟩:=hk 0 x rfl
            exact ⟨t,by rw [e]; simp⟩
          · obtain ⟨t,e⟩:=hk (m + 1) v (by simpa using hm)
            exact ⟨t,by rw [e,show k + (m + 1)=k + 1 + m by omega]⟩
      have h1:=aux acc'.toList 0 (fun m v hm=>by
        obtain ⟨t,e⟩:=hi.2 m v (by rw [← Array.getElem?_toList]; exact hm)
        exact ⟨t,by rw [e]; simp⟩)
      rw [Array.length_toList,hi.1] at h1
      rw [List.range_eq_range']
      exact h1
    exact ⟨.ref s2.heap.objs.size,_,I2.laid (t':=tk) kk (Nat.le_refl _) (show fD X.prog X.w _ h' _ (.lst ((List.range j.toNat).map fun (i:Nat)=>V.int (i:Int))) from ⟨by rw [List.length_map,List.length_range,sizeLine_eq]; omega,acc'.toList,c',hv,by simpa using hl⟩),rfl,q _ (I2.hok.fresh (Nat.le_refl _))⟩
theorem t7 {ta:TA} {p p2 pos2:Pos} (hc:X.calm=true) (hg:Gl X "range") (hm:X.mg "range"=none) (hgl:Gl X "list") (hml:X.mg "list"=none) (ha:PA X [a] ta) (hs:starEach [a] X.env=[(false,eval a X.env)]:=by rfl)
    (hs2:starEach [.Call (.Name "range" p) [a] [] pos] X.env=[(false,eval (.Call (.Name "range" p) [a] [] pos) X.env)]:=by rfl) :
    PE X (.Call (.Name "list" p2) [.Call (.Name "range" p) [a] [] pos] [] pos2) (tLR ta):=by
  intro pins s σ H Q I h
  refine Call_ (kF I hgl hml su (PyProof.Rows.callWith_type1 ?_ hs2 rfl))
  rw [hs2]
  show wpAny _ _ (spliced ((false,eval (.Call (.Name "range" p) [a] [] pos) X.env)::backTo pos2 [])) _ _ s
  refine Calls.spliced_cons (Call_ (kF I hg hm boot_range (PyProof.Rows.callWith_type1 (thn (ha pos pins s σ H _ I h) fun us s1 rz2=>?_) hs rfl)))
  obtain ⟨vs,H1,I1,r1,q1⟩:=rz2
  obtain ⟨j,e,q1,q2,q⟩:=q1
  subst e
  cases r1 with
  | cons r rr =>
    cases rr
    obtain ⟨t,rfl⟩:=r
    refine call_range_1 (Calls.spliced_nil ?_)
    have e2:Builtin.Range.rangeSize 0 j 1=((j.toNat:Nat):Int):=by rw [rangeSize_one]; split <;> omega
    refine call_list_range (n:=j.toNat) (I1.ok.hd hc) (IsRange.new ..) (small_one (by omega) (by omega) (by omega) (by omega)) e2 (by omega) fun h' tk acc' c' kk hl hi=>?_
    exact Dy (I1.kept fun b o e=>Heap.get?_push_of_some _ e) kk hl hi q1 q2 q
noncomputable def sL:List PyData→Rs (List PyData)
  | [.int j]=>if 0≤j∧j≤1000000 then .ok (b7 0 j.toNat) else .no
  | _=>.no
noncomputable def gLR (g:Ds→Rs (List PyData)):Ds→Rs (List PyData):=fun δ=>(g δ).bind sL
theorem zb {p p2 pos2:Pos} (hc:X.calm=true) (hm:X.mg "range"=none) (hml:X.mg "list"=none) (ha:PAD X E [a] gs) (hg:Gl X "range":=by rfl) (hgl:Gl X "list":=by rfl) (hs:starEach [a] X.env=[(false,eval a X.env)]:=by rfl)
    (hs2:starEach [.Call (.Name "range" p) [a] [] pos] X.env=[(false,eval (.Call (.Name "range" p) [a] [] pos) X.env)]:=by rfl):PLD X E (.Call (.Name "list" p2) [.Call (.Name "range" p) [a] [] pos] [] pos2) (gLR gs) :=
  (t7 hc hg hm hgl hml ha.1 hs hs2).imp fun σ H Q pz3=>by
    obtain ⟨A,δ,R,o⟩:=pz3
    unfold gLR at o
    refine aD.run R (fun ds e vs H1 s1 R1 h1=>?_) (fun C e H' s'=>by rw [e] at o; exact o H' s') (fun e=>by rw [e] at o; exact o)
    simp only [e,Rs.ai] at o
    unfold sL at o
    split at o
    · split at o
      · rename_i j z
        obtain ⟨v,rfl,h⟩:=kX h1
        rw [h.ofInt]
        refine ⟨j,rfl,z.1,z.2,fun q hq=>o q _ _ (s1.free hq) (s1.trans (cE hq)) cn ?_⟩
        have:b7 0 j.toNat=((List.range j.toNat).map fun (i:Nat)=>(i:Int)).map PyData.int:=by
          unfold b7; rw [List.map_map]; congr 1; funext i; simp
        rw [this,show ((List.range j.toNat).map fun (i:Nat)=>V.int (i:Int))=((List.range j.toNat).map fun (i:Nat)=>(i:Int)).map V.int by rw [List.map_map]; rfl]
        exact mf _
      · exact o.elim
    · exact o.elim
end
end L2
set_option maxRecDepth 100000
set_option maxHeartbeats 4000000
namespace L2
open PySem PySem.Spec PyProof.Rows
theorem uE (t:Addr) (xs:Array Value):Meets (Builtin.«enumerate.__new__» ⟨[.type "enumerate",.ref t],[]⟩) (fun _ R s=>s.heap.IsTuple t xs ∧
      R (.ok (.ret (.ref (s.heap.push { cls:=.type "tuple_iterator",data:=.fields #[.ref t,.int 0 0] }).objs.size)))
        { s with heap:=(s.heap.push { cls:=.type "tuple_iterator",data:=.fields #[.ref t,.int 0 0] }).push { cls:=.type "enumerate",data:=.fields #[.none,.bool false,.ref s.heap.objs.size,rawInt 0,.none,.none] } }) :=
  .of_wp fun prog w A R s h=>by
    obtain ⟨hp,g,d,tk,os⟩:=s; obtain ⟨hl,h⟩:=h
    have hsub:=sub_enumerate
    have hL:Heap.IsTuple (Shared.heap ⟨hp,g,d,tk,os⟩) t xs:=hl
    wp_walk
    refine wpAny_stack_any fun st=>wpAny_pure ?_
    split
    · rename_i c _ _ _ _ _
      cases (c == Value.type "enumerate")
      · wp_walk using wpAny_pyIter_tuple hL
        exact ⟨_,rfl,h⟩
      · wp_walk using wpAny_pyIter_tuple hL
        exact ⟨_,rfl,h⟩
    · wp_walk using wpAny_pyIter_tuple hL
      exact ⟨_,rfl,h⟩
theorem wD {prog:Program} {w:World} {A:Around} {E:Value→Shared→Prop} {s:Shared} {l:Addr} {items:Array Value} {Q:Value→Shared→Prop} (hL:s.heap.IsTuple l items)
    (h:∀ h',IsEnum h' (s.heap.objs.size + 1) s.heap.objs.size 0 .none→h'.IsTupleIter s.heap.objs.size l 0→(∀ b o,s.heap.get? b=some o→h'.get? b=some o)→Q (.ref (s.heap.objs.size + 1)) { s with heap:=h' }) :
    wpAny (model prog w) A (call (.type "enumerate") [.ref l]) Q E s:=by
  refine callType_new PySem.F.called_enumerate (by decide) (PySem.F.typeCall_enumerate_1 _) (PySem.F.newCall_enumerate_1 _) (fun obj=>PySem.F.args_object_init_2 obj _) PySem.F.entry_enumerate_new (uE l items) ⟨hL,?_⟩
  have hz:(s.heap.push { cls:=.type "tuple_iterator",data:=.fields #[.ref l,.int 0 0] }).objs.size=s.heap.objs.size + 1:=Heap.size_push ..
  show _∧_
  rw [hz]
  have he:IsEnum ((s.heap.push { cls:=.type "tuple_iterator",data:=.fields #[.ref l,.int 0 0] }).push
      { cls:=.type "enumerate",data:=.fields #[.none,.bool false,.ref s.heap.objs.size,rawInt 0,.none,.none] }) (s.heap.objs.size + 1) s.heap.objs.size 0 .none:=by
    have:=Heap.get?_push_size (s.heap.push { cls:=.type "tuple_iterator",data:=.fields #[.ref l,.int 0 0] })
      (o:={ cls:=.type "enumerate",data:=.fields #[.none,.bool false,.ref s.heap.objs.size,rawInt 0,.none,.none] }) rfl
    rw [hz] at this
    exact this
  refine ⟨⟨_,he,rfl⟩,h _ he ⟨_,Heap.get?_push_of_some _ (Heap.get?_push_size _ rfl),rfl,rfl⟩ fun b o e=>Heap.get?_push_of_some _ (Heap.get?_push_of_some _ e)⟩
noncomputable def Ite (P:Hp→List V→Prop) (n:Nat):It :=
  ⟨fun i H=>i < n∧∃ xs,P H xs∧xs.length=n,
   fun i H v H'=>∃ t x,v=.ref t∧H t=none∧H'=upd H t (.tup [.int i,x])∧∀ xs,P H xs→xs[i]?=some x,
   fun i H=>i=n∧∃ xs,P H xs∧xs.length=n⟩
theorem rR {P:Program} {w:World} {K:PySem.W.Frag} {elts:List Expr} {x1:Nat} {tp:Pos} {a e it:Addr} {n:Nat} {Pv:Hp→List V→Prop} {S:Nat→Heap→Prop} {B:Heap→Array Value→Prop} (hne:e≠it) (hea:e≠a)
    (hD:∀ (A:Around),A.handled=none→∀ its:Array Value,Draws P w A it [it,a] its.size (fun i v=>its[i]?=some v) (fun i h=>S i h∧B h its))
    (hB:∀ (X:Cx),X.prog=P→X.w=w→X.K=K→∀ {pins:List (Addr × Obj)} {s:Shared} {σ:St} {H:Hp} {xs:List V},Inv X pins σ H s→Pv H xs→∃ its:List Value,Vals xs its∧B s.heap its.toArray)
    (hI:∀ (X:Cx),X.prog=P→X.w=w→X.K=K→∀ {pins:List (Addr × Obj)} {s:Shared} {σ:St} {H:Hp} {xs ys:List V},Inv X pins σ H s→Pv H xs→Pv H ys→xs=ys)
    (hO:∀ i h,S i h→∃ o,h.get? it=some o∧∀ v,o.data≠.cell v) (hK:∀ i h h',S i h→(∀ o,h.get? it=some o→h'.get? it=some o)→S i h') :
    Turn P w K (.Tuple elts x1 tp) (Ite Pv n) [e,it] e (fun i h=>(∃ old,IsEnum h e it i old)∧S i h) where
  mem:=by simp
  obj:=fun i h st c hc=>by
    obtain ⟨⟨old,h1⟩,h2⟩:=st
    simp only [List.mem_cons,List.not_mem_nil,or_false] at hc
    rcases hc with rfl | rfl
    · exact ⟨_,h1,fun v q=>by cases q⟩
    · exact hO i h h2
  keep:=fun i h h' st k=>by
    obtain ⟨⟨old,h1⟩,h2⟩:=st
    exact ⟨⟨old,k e (by simp) _ h1⟩,hK i h h' h2 fun o q=>k it (by simp) o q⟩
  item:=by
    intro X hP hw hKK hc i pins s σ H E I hf st hg
    subst hP hw hKK
    obtain ⟨hi,xs,hx,lx⟩:=hg
    obtain ⟨⟨old,h1⟩,h2⟩:=st
    obtain ⟨its,rv,hb⟩:=hB X rfl rfl rfl I hx
    have la:=rv.length
    refine wpAny_pyNext_enum_itemD (hD X.A.in1 (I.ok.hd hc) its.toArray) h1 ⟨h2,hb⟩ (by simp; omega) hne (by simp [hne,hea]) fun x h' tk px ho hs hT hsz hk=>⟨_,rfl,?_⟩
    refine wpAny_letOwnedTupleGo_enum (s:={ s with heap:=h',toks:=tk + 1 }) ho fun h2' d1 d2=>?_
    have el:e < s.heap.objs.size:=Heap.lt_size h1
    have il:it < s.heap.objs.size:=by obtain ⟨o,q,_⟩:=hO i _ h2; exact Heap.lt_size q
    have up:∀ c o,c≠e→h'.get? c=some o→h2'.get? c=some o:=fun c o hc q=>(d2.2 c hc).trans q
    obtain ⟨x0,ex,rx⟩:∃ x0,xs[i]?=some x0∧RelV x0 x:=by
      have hil:i < xs.length:=by omega
      obtain ⟨u',e1,e2⟩:=rv.get (List.getElem?_eq_getElem hil)
      refine ⟨xs[i],List.getElem?_eq_getElem hil,?_⟩
      have px':its[i]?=some x:=by simpa using px
      rw [e1] at px'; cases px'; exact e2
    have fr:H s.heap.objs.size=none:=I.hok.fresh (Nat.le_refl _)
    refine ⟨.ref s.heap.objs.size,upd H s.heap.objs.size (.tup [.int i,x0]),?_,rfl,⟨_,x0,rfl,fr,rfl,fun ys h=>by rw [hI X rfl rfl rfl I h hx]; exact ex⟩,?_,fun c hc'=>?_⟩
    · refine I.turnLay (t':=tk + 1) (ch:=[e,it]) hf (Nat.le_refl _) (fun c o hn q=>?_) ⟨by show 2≤sizeLine; decide,[.int i tk,x],.cons ⟨tk,rfl⟩ (.cons rx .nil),⟨_,up _ _ (Nat.ne_of_gt el) hT,rfl,rfl,_,rfl⟩⟩
      simp only [List.mem_cons,List.not_mem_nil,or_false,not_or] at hn
      exact up c o hn.1 (hk c o hn.1 hn.2 q)
    · exact ⟨⟨x,by simpa using d1⟩,hK _ _ _ hs.1 fun o q=>up it o hne.symm q⟩
    · have h0:=(hf c hc').1
      simp only [List.mem_cons,List.not_mem_nil,or_false] at hc'
      rcases hc' with rfl | rfl
      · rw [bD (Nat.ne_of_lt el)]; exact h0
      · rw [bD (Nat.ne_of_lt il)]; exact h0
  done:=by
    intro X hP hw hKK hc i pins s σ H E I hf st hg
    subst hP hw hKK
    obtain ⟨hi,xs,hx,lx⟩:=hg
    obtain ⟨⟨old,h1⟩,h2⟩:=st
    obtain ⟨its,rv,hb⟩:=hB X rfl rfl rfl I hx
    have la:=rv.length
    have e':its.toArray.size=i:=by simp; omega
    refine wpAny_pyNext_enum_endD (hD X.A.in1 (I.ok.hd hc) its.toArray) h1 ⟨by rw [e']; exact h2,hb⟩ fun h' k=>⟨rfl,?_⟩
    refine I.turneds (t':=s.toks) (ch:=[e,it]) hf fun c o hn q=>?_
    simp only [List.mem_cons,List.not_mem_nil,or_false,not_or] at hn
    exact k c o hn.2 q
  self:=fun _ _ _ _ _ st h=>by
    obtain ⟨⟨old,h1⟩,_⟩:=st
    exact wpAny_pyIter_enum h1 h
theorem Cc:bootBuiltins "enumerate"=some (.type "enumerate"):=by decide +kernel
noncomputable def EV (K:PySem.W.Frag) (ta:TA):TI:=fun σ H R=>ta σ H fun vs H1=>∃ a xs,vs=[.ref a]∧((SqT K H1 a xs∧R (Ite (fun H ys=>SqT K H a ys) xs.length) H1)∨(SqL K H1 a xs∧R (Ite (fun H ys=>SqL K H a ys) xs.length) H1))
theorem Cv {X:Cx} {elts:List Expr} {x1:Nat} {tp:Pos} {a:Expr} {ta:TA} {p pos:Pos} (hg:Gl X "enumerate") (hm:X.mg "enumerate"=none) (ha:PA X [a] ta) (hs:starEach [a] X.env=[(false,eval a X.env)]:=by rfl) :
    PI X (.Tuple elts x1 tp) (.Call (.Name "enumerate" p) [a] [] pos) (EV X.K ta):=by
  intro pins s σ H R I h
  refine Call_ (kF I hg hm Cc (PyProof.Rows.callWith_type1 (thn (ha pos pins s σ H _ I h) fun us s1 rz2=>?_) hs rfl))
  obtain ⟨vs,H1,I1,r1,q1⟩:=rz2
  obtain ⟨aa,xs,e,q⟩:=q1
  subst e
  obtain ⟨u1,e1,r2⟩:=vals1 r1
  subst e1
  cases r2
  have big:∀ c∈[s1.heap.objs.size + 1,s1.heap.objs.size],s1.heap.objs.size≤c:=fun c hc=>by
    simp only [List.mem_cons,List.not_mem_nil,or_false] at hc
    rcases hc with rfl | rfl
    · exact Nat.le_succ _
    · exact Nat.le_refl _
  have nes:s1.heap.objs.size + 1≠s1.heap.objs.size:=Nat.succ_ne_self _
  rcases q with ⟨hx,q⟩ | ⟨hx,q⟩
  · obtain ⟨its,rv,pt,_⟩:=I1.tuple hx
    have pt':s1.heap.IsTuple aa its.toArray:=pt
    have al:aa < s1.heap.objs.size:=by obtain ⟨_,g,_⟩:=pt'; exact Heap.lt_size g
    refine wD pt' fun h' he hit kk=>wpAny_pyIter_enum he ?_
    have I2:Inv X pins σ H1 { s1 with heap:=h' }:=I1.kept (t':=s1.toks) kk
    refine ⟨_,_,_,_,H1,rfl,I2,rR (a:=aa) (S:=fun i h=>h.IsTupleIter s1.heap.objs.size aa i) (B:=fun h its=>h.IsTuple aa its) nes (Nat.ne_of_gt (Nat.lt_succ_of_lt al)) (fun A hh its=>yO hh s1.heap.objs.size aa (Nat.ne_of_lt al) its)
      (fun X' _ _ hK {_ _ _ _ _} I h=>?_) (fun X' _ _ hK {_ _ _ _ _ _} I h1 h2=>?_) (fun i h st=>?_) (fun i h h'' st k=>?_),⟨⟨_,he⟩,hit⟩,fun c hc=>I1.fpOk (big c hc) (I1.hok.fresh (big c hc)),q⟩
    · rw [← hK] at h
      obtain ⟨its,rv,p,_⟩:=I.tuple h
      exact ⟨its,rv,p⟩
    · rw [← hK] at h1 h2
      exact I.tuple_inj h1 h2
    · obtain ⟨o,g,_,d⟩:=st
      exact ⟨o,g,fun v q=>by rw [d] at q; cases q⟩
    · obtain ⟨o,g,r⟩:=st
      exact ⟨o,k o g,r⟩
  · obtain ⟨its,rv,pl,_⟩:=I1.list hx
    have al:aa < s1.heap.objs.size:=by obtain ⟨_,_,g,_⟩:=pl; exact Heap.lt_size g
    refine call_enumerate_list pl.isList fun h' he hit hz kk=>wpAny_pyIter_enum he ?_
    have I2:Inv X pins σ H1 { s1 with heap:=h' }:=I1.kept (t':=s1.toks) kk
    refine ⟨_,_,_,_,H1,rfl,I2,rR (a:=aa) (S:=fun i h=>h.IsListIter s1.heap.objs.size aa i) (B:=fun h its=>h.IsList aa its) nes (Nat.ne_of_gt (Nat.lt_succ_of_lt al)) (fun A hh its=>Draws.list hh s1.heap.objs.size aa (Nat.ne_of_lt al) its)
      (fun X' _ _ hK {_ _ _ _ _} I h=>?_) (fun X' _ _ hK {_ _ _ _ _ _} I h1 h2=>?_) (fun i h st=>?_) (fun i h h'' st k=>?_),⟨⟨_,he⟩,hit⟩,fun c hc=>I1.fpOk (big c hc) (I1.hok.fresh (big c hc)),q⟩
    · rw [← hK] at h
      obtain ⟨its,rv,p,_⟩:=I.list h
      exact ⟨its,rv,p.isList⟩
    · rw [← hK] at h1 h2
      exact I.list_inj h1 h2
    · obtain ⟨o,g,_,d⟩:=st
      exact ⟨o,g,fun v q=>by rw [d] at q; cases q⟩
    · obtain ⟨o,g,r⟩:=st
      exact ⟨o,k o g,r⟩
noncomputable def gg (ds:List PyData):List PyData:=ds.mapIdx fun i d=>.tuple [.int i,d]
theorem zA (ds:List PyData):(gg ds).length=ds.length:=by simp [gg]
theorem rN {K:PySem.W.Frag} {G:Hp} {Pv:Hp→List V→Prop} {xs:List V} {ds:List PyData} (h:Iss K G ds xs) (hp:∀ H1,aM G H1→Pv H1 xs):zH K (Ite Pv xs.length) (gg ds) G:=fun H1 B s lB hB=>by
  have hl:=h.length
  rw [zA]
  refine ⟨fun i hi=>⟨by omega,xs,hp H1 s,rfl⟩,⟨hl.symm,xs,hp H1 s,rfl⟩,fun i x H2 hi y=>?_⟩
  obtain ⟨t,x0,rfl,ht,rfl,hx⟩:=y
  obtain ⟨d,e,hd⟩:=h.get (hx xs (hp H1 s))
  refine ⟨cE ht,.tuple [.int i,d],by unfold gg; rw [List.getElem?_mapIdx,e]; rfl,?_⟩
  have nb:t ∉ B:=lB.new ht
  exact lH (by rw [cu nb]; exact cn) (fQ c6 (sy (hd.same (fun b o q=>by
      have q1:=s b o q
      have nt:b≠t:=bE q1 ht
      rw [cu (fun z=>by rw [hB b z] at q; cases q),bD nt]; exact q1))))
section
variable {X:Cx} {E:XK} {a b c e k:Expr} {ga gb gk:Ds→Rs PyData} {pos:Pos} {es:List Expr} {gs:Ds→Rs (List PyData)} {O:List Nat}
noncomputable def pD:List PyData→Rs (List PyData)
  | [.list ds]=>.ok (gg ds)
  | [.tuple ds]=>.ok (gg ds)
  | _=>.no
noncomputable def iG (g:Ds→Rs (List PyData)):Ds→Rs (List PyData):=fun δ=>(g δ).bind pD
theorem j7 {elts:List Expr} {x1:Nat} {tp p:Pos} (hm:X.mg "enumerate"=none) (ha:PAD X E [a] gs) (hg:Gl X "enumerate":=by rfl) (hs:starEach [a] X.env=[(false,eval a X.env)]:=by rfl) :
    PID X E (.Tuple elts x1 tp) (.Call (.Name "enumerate" p) [a] [] pos) (iG gs):=(Cv hg hm ha.1 hs).imp fun σ H R ⟨A,δ,Rp,o⟩=>zU Rp o fun ds vs H1 e s1 R1 h1 o=>by
  unfold pD at o
  split at o
  · obtain ⟨v,rfl,h⟩:=kX h1
    obtain ⟨p,xs,rfl,hp,hx⟩:=h.ofLst
    exact ⟨p,xs,rfl,.inr ⟨SqL.of (aX _ _ hp),o _ H1 (aM.refl _) (rN hx fun H2 s2=>SqL.of (s2 _ _ hp))⟩⟩
  · obtain ⟨v,rfl,h⟩:=kX h1
    obtain ⟨p,xs,rfl,hp,hx⟩:=h.ofTup
    exact ⟨p,xs,rfl,.inl ⟨SqT.of (aX _ _ hp),o _ H1 (aM.refl _) (rN hx fun H2 s2=>SqT.of (s2 _ _ hp))⟩⟩
  · exact o.elim
end
end L2
set_option maxRecDepth 100000
set_option maxHeartbeats 4000000
namespace L2
open PySem PySem.Spec PyProof.Rows
section
variable {prog:Program} {w:World} {A:Around} {E:Value→Shared→Prop} {s:Shared}
end
section
variable {X:Cx} {E:XK} {a b c e:Expr} {ga gb gc:Ds→Rs PyData} {pos:Pos} {es:List Expr} {gs:Ds→Rs (List PyData)}
end
end L2
set_option maxRecDepth 100000
set_option maxHeartbeats 4000000
namespace L2
open PySem PySem.Spec PyProof.Rows
open AutoSeq1 (wpAny_loadPart')
open SeqAt (EqAt)
theorem ur {prog:Program} {w:World} {A:Around} {E:Value→Shared→Prop} {s:Shared} {its:Array Value} {x:Value} {e:Value→Bool} {j:Nat} {Q:Option PySem.Fin × Unit→Shared→Prop} (hj:j < its.size) (hit:e its[j]=true) (hno:∀ m (hm:m < its.size),m < j→e its[m]=false)
    (he:∀ y,y∈its→EqAt A s y x (e y)) (hQ:Q (some (.done (.ret (.int j s.toks))),()) { s with toks:=s.toks + 1 }):∀ (k i m:Nat),i + k=j→j < i + m →
    wpAny (model prog w) A (forIn (List.range' i m) ((none:Option PySem.Fin),()) fun (i:Nat) _=>match its[i]? with
      | some y=>do
        let b ← eqBool y x
        if b=true then do
            let r ← retInt (i:Int)
            pure (ForInStep.done (some r,()))
          else pure (ForInStep.yield (none,()))
      | _=>pure (ForInStep.yield (none,()))) Q E s
  | 0,i,0,h1,h2=>by omega
  | 0,i,m + 1,h1,h2=>by
    have:i=j:=by omega
    subst this
    rw [List.range'_succ,List.forIn_cons]
    have q:its[i]?=some its[i]:=by simp [hj]
    simp only [q]
    refine wpAny_bind (wpAny_bind (he _ (Array.getElem_mem hj) prog w _ _ ?_))
    rw [hit,if_pos rfl]
    unfold retInt
    exact wpAny_bind (wpAny_bind (wpAny_mkInt (wpAny_pure (wpAny_pure (wpAny_pure hQ)))))
  | k + 1,i,0,h1,h2=>by omega
  | k + 1,i,m + 1,h1,h2=>by
    have hi:i < its.size:=by omega
    rw [List.range'_succ,List.forIn_cons]
    have q:its[i]?=some its[i]:=by simp [hi]
    simp only [q]
    refine wpAny_bind (wpAny_bind (he _ (Array.getElem_mem hi) prog w _ _ ?_))
    rw [hno i hi (by omega),if_neg Bool.false_ne_true]
    exact wpAny_pure (ur hj hit hno he hQ k (i + 1) m (by omega) (by omega))
theorem yI (tu:Addr) (its:Array Value) (n:Nat) (dd:Option Addr) (sl:Array (Option Value)) (x:Value) (e:Value→Bool) (j:Nat) (hj:j < its.size) (hit:e its[j]=true) (hno:∀ m (hm:m < its.size),m < j→e its[m]=false) :
    Meets (Builtin.«tuple.index» ⟨[.ref tu,x],[]⟩)
      (fun A R s=>s.heap.get? tu=some { cls:=.type "tuple",dict:=dd,data:=.seq its n,slots:=sl }∧(∀ y,y∈its→EqAt A.in1 s y x (e y))∧R (.ok (.ret (.int j s.toks))) { s with toks:=s.toks + 1 }):=by
  intro prog w A R s hs
  obtain ⟨hp,g,d,tk,os⟩:=s
  obtain ⟨hl,he,hR⟩:=hs
  unfold Builtin.«tuple.index»
  simp only [Std.Legacy.Range.forIn_eq_forIn_range',Std.Legacy.Range.size]
  generalize hF:(@forIn Sem (List Nat))=F
  wp_walk using wpAny_loadPart' hl
  subst hF
  refine ur hj hit hno he ?_ j 0 _ (by omega) (by simp; omega)
  exact wpAny_pure hR
section
variable {X:Cx} {E:XK} {a o e:Expr} {ga go:Ds→Rs PyData} {pos:Pos} {es:List Expr} {gs:Ds→Rs (List PyData)}
noncomputable def DU:V→List V→Hp→VK→Prop:=fun x vs H Q=>∃ l xs y j,x=.ref l∧vs=[y]∧H l=some (.tup xs)∧jV y=true∧xs.all jV=true∧(xs.findIdx? fun z=>eqV z y)=some j∧Q (.int j) H
noncomputable def tIx (to:TE) (t:TA):TE:=fun σ H Q=>to σ H fun x H1=>(∃ l xs,x=.ref l∧H1 l=some (.tup xs))∧t σ H1 fun vs H2=>DU x vs H2 Q
theorem A8 {to:TE} {t:TA} {apos cpos:Pos} (ho:PE X o to) (ha:PA X [e] t) (hbase:attributeBase o "index" X.env (eval o X.env)=eval o X.env:=by rfl)
    (hfew:((backTo cpos (starEach [e] X.env)).all (fun x=>!x.1) && (backToKw cpos (keywordEach [] X.env)).all (fun x=>x.1.isSome) && decide (([e]:List Expr).length + ([]:List Keyword).length + (if ([]:List Keyword).isEmpty then 0 else 1) < 30))=true:=by rfl)
    (hline:(apos.endLine == cpos.line)=true:=by rfl) (hs:starEach [e] X.env=(false,eval e X.env)::starEach [] X.env:=by rfl) (hplain:(backTo cpos (starEach [] X.env)).any (·.1)=false:=by rfl) :
    PE X (.Call (.Attribute o "index" apos) [e] [] cpos) (tIx to t):=by
  intro pins s σ H Q I h
  refine wpAny_Call_method_late hbase hfew hline rfl (thn (ho pins s σ H _ I h) fun v s1 rz2=>?_)
  obtain ⟨x,H1,I1,r1,⟨l,xs,hx,hl⟩,q1⟩:=rz2
  subst hx
  cases r1
  obtain ⟨hz,its,rv,ob,ge,gc,gd,n,gq⟩:=I1.hok l _ hl
  refine ⟨"tuple", "tuple.index",PySem.F.plainAttrs_tuple,PySem.F.slot_tuple_index,PySem.F.type_tuple_index,⟨ob,ge,gc⟩,fun a ea=>by cases ea; exact ⟨ob,ge,gd⟩,?_⟩
  have hA:=ha cpos pins s1 σ H1 _ I1 q1
  rw [hs] at hA ⊢
  refine Calls.callWith_builtin (by show (false || (backTo cpos (starEach [] X.env)).any (·.1))=false; rw [hplain]; rfl) (Calls.evalArgs_plain ?_)
  refine thn hA fun us s2 rz2=>?_
  obtain ⟨vs,H2,I2,r2,q2⟩:=rz2
  obtain ⟨l',xs',y,j,e1,e2,hl',fy,fs,hj,q⟩:=q2
  cases e1
  subst e2
  obtain ⟨hz',its',rv',ob',ge',gc',gd',n',gq'⟩:=I2.hok l _ hl'
  obtain ⟨u,rfl,ru⟩:=vals1 r2
  obtain ⟨oc,od,oda,osl⟩:=ob'
  simp only at gc' gd' gq'
  subst gc' gd' gq'
  have hlen:=rv'.length
  obtain ⟨hjl,hjt,hjn⟩:=List.findIdx?_eq_some_iff_getElem.mp hj
  have at':∀ (m:Nat) (hm:m < xs'.length),eqU y (its'[m]'(by omega))=eqV xs'[m] y:=fun m hm=>by
    obtain ⟨w',hw,rw'⟩:=rv'.get (List.getElem?_eq_getElem hm)
    have:its'[m]'(by omega)=w':=by
      have h2:=List.getElem?_eq_getElem (show m < its'.length by omega)
      rw [h2] at hw; exact Option.some.inj hw
    rw [this]
    exact wH rw' (List.all_eq_true.mp fs _ (List.getElem_mem hm))
  refine call_meets PySem.F.slot_tuple_index ⟨_,ge',rfl⟩ PySem.F.entry_tuple_index (PySem.F.args_tuple_index_2 _ _) (yI l its'.toArray n' none osl u (eqU y) j (by simp; omega) (by simpa [at' j hjl] using hjt) (fun m hm hmj=>?_)) ⟨ge',fun z hz=>iZ ru fy rv' fs z (by simpa using hz),⟨.int j,H2,I2.tok _,⟨_,rfl⟩,q⟩⟩
  have hm':m < xs'.length:=by simp at hm; omega
  have:=hjn m hmj
  simpa [at' m hm'] using this
noncomputable def mZ (xs:List PyData) (y:PyData):Option PyData:=if fw y && xs.all fw then ((xs.map toV).findIdx? fun z=>eqV z (toV y)).map fun j=>.int j else none
noncomputable def wO (go ga:Ds→Rs PyData):Ds→Rs PyData:=fun δ=>(go δ).bind fun d=>match d with
  | .tuple xs=>(ga δ).bind fun y=>Rs.f9 (mZ xs y)
  | _=>.no
theorem vp {apos cpos:Pos} (ho:PD X E o go) (ha:PD X E e ga) (hbase:attributeBase o "index" X.env (eval o X.env)=eval o X.env:=by rfl)
    (hfew:((backTo cpos (starEach [e] X.env)).all (fun x=>!x.1) && (backToKw cpos (keywordEach [] X.env)).all (fun x=>x.1.isSome) && decide (([e]:List Expr).length + ([]:List Keyword).length + (if ([]:List Keyword).isEmpty then 0 else 1) < 30))=true:=by rfl)
    (hline:(apos.endLine == cpos.line)=true:=by rfl) (hs:starEach [e] X.env=(false,eval e X.env)::starEach [] X.env:=by rfl) (hplain:(backTo cpos (starEach [] X.env)).any (·.1)=false:=by rfl) :
    PD X E (.Call (.Attribute o "index" apos) [e] [] cpos) (wO go ga):=(A8 ho (fT ha iU hs) hbase hfew hline hs hplain).imp fun σ H Q pz3=>by
  obtain ⟨A,δ,R,oo⟩:=pz3
  unfold wO at oo
  refine eD.run R (fun d1 e1 v H1 s1 R1 h1=>?_) (fun C et H' s'=>by rw [et] at oo; exact oo H' s') (fun et=>by rw [et] at oo; exact oo)
  simp only [e1,Rs.ai] at oo
  cases d1 with
  | tuple xs =>
    obtain ⟨p,vs,rfl,hp,hx⟩:=h1.ofTup
    refine ⟨⟨p,vs,rfl,aX _ _ hp⟩,?_⟩
    have oo:iO X.K E A H ((ga δ).bind fun y=>Rs.f9 (mZ xs y)) Q:=oo
    refine eD.run R1 (fun d2 e2 u H2 s2 R2 h2=>?_) (fun C et H' s'=>by rw [et] at oo; exact oo H' (s1.trans s')) (fun et=>by rw [et] at oo; exact oo)
    simp only [e2,Rs.ai] at oo
    unfold mZ at oo
    split at oo
    · rename_i z
      rw [Bool.and_eq_true] at z
      obtain ⟨f1,f2⟩:=h2.flat z.1
      obtain ⟨f3,f4⟩:=hx.flat z.2
      cases q:((xs.map toV).findIdx? fun z=>eqV z (toV d2)) with
      | none=>rw [q] at oo; exact oo.elim
      | some j =>
        rw [q] at oo
        exact ⟨p,vs,u,j,rfl,rfl,s2 _ _ (aX _ _ hp),f2,f4,by rw [f1,f3]; exact q,oo _ H2 (s1.trans s2) c6⟩
    · exact oo.elim
  | _=>exact oo.elim
end
end L2
set_option maxRecDepth 100000
set_option maxHeartbeats 4000000
namespace L2
open PySem PySem.Spec PyProof.Rows
noncomputable def uZ:List Int→Option Int
  | []=>none
  | x::r=>some (r.foldl (fun a b=>if b > a then b else a) x)
theorem fold_max:∀ (r:List Int) (x:Int),(r.foldl (fun a b=>if b > a then b else a) x)∈x::r∧∀ a∈x::r,a≤r.foldl (fun a b=>if b > a then b else a) x
  | [],x=>⟨List.mem_cons_self,fun a ha=>by cases List.mem_singleton.mp ha; exact Int.le_refl _⟩
  | y::r,x=>by
    obtain ⟨h1,h2⟩:=fold_max r (if y > x then y else x)
    rw [List.foldl_cons]
    have h0:=h2 _ List.mem_cons_self
    refine ⟨?_,fun a ha=>?_⟩
    · rcases List.mem_cons.mp h1 with z | z
      · rw [z]; split <;> simp
      · exact List.mem_cons_of_mem _ (List.mem_cons_of_mem _ z)
    · have hx:x≤(if y > x then y else x):=by split <;> omega
      have hy:y≤(if y > x then y else x):=by split <;> omega
      rcases List.mem_cons.mp ha with rfl | ha
      · exact Int.le_trans hx h0
      · rcases List.mem_cons.mp ha with rfl | ha
        · exact Int.le_trans hy h0
        · exact h2 a (List.mem_cons_of_mem _ ha)
theorem BN {ns:List Int} {M m:Int} (h1:M∈ns) (h2:∀ a∈ns,a≤M) (e:uZ ns=some m):M=m:=by
  cases ns with
  | nil=>cases e
  | cons x r =>
    cases e
    obtain ⟨g1,g2⟩:=fold_max r x
    have a1:=h2 _ g1
    have a2:=g2 _ h1
    omega
section
variable {X:Cx} {E:XK} {a:Expr} {es:List Expr} {gs:Ds→Rs (List PyData)} {pos:Pos}
theorem BJ:bootBuiltins "max"=some (.builtin "max"):=by decide +kernel
end
end L2
set_option maxRecDepth 100000
set_option maxHeartbeats 4000000
namespace L2
open PySem PySem.Spec PyProof.Rows
section
variable {X:Cx} {E:XK} {O:List Nat} {K:PySem.W.Frag} {H0 H:Hp} {A0 A:List Addr} {δ:Ds} {σ:St}
theorem mY {B C:List Addr} (h:∀ a∈C,a∈B):aM (del H B) (del H C):=fun b o e=>by
  obtain ⟨h1,h2⟩:=fY e
  rw [cu fun z=>h1 (h b z)]; exact h2
theorem cO.release {i:Nat} {ds:List PyData} (R:cO K H0 A0 H A O δ σ) (hi:i∈O) (e:δ[i]?=some (some (.list ds))):∃ A',cO K H0 A0 H A' (O.filter (·≠i)) δ σ:=by
  obtain ⟨a,xs,ds',e1,h1,h2,h3,h4⟩:=R.own i _ hi e
  cases h3
  have sub:∀ b∈A.filter (·≠a)++A0,b∈A++A0:=fun b hb=>by
    rcases List.mem_append.mp hb with z | z
    · exact List.mem_append_left _ (List.mem_filter.mp z).1
    · exact List.mem_append_right _ z
  have na:a ∉ A.filter (·≠a)++A0:=fun z=>by
    rcases List.mem_append.mp z with z | z
    · have:=(List.mem_filter.mp z).2
      simp at this
    · exact R.apart h1 z
  refine ⟨A.filter (·≠a),?_⟩
  exact {
    same:=R.same
    ls0:=R.ls0
    new:=fun b hb=>R.new b (List.mem_filter.mp hb).1
    ls:=fun b hb=>R.ls b (List.mem_filter.mp hb).1
    len:=R.len
    pl:=fun j d hj q=>by
      by_cases z:j=i
      · subst z
        rw [e] at q
        cases q
        exact ⟨.ref a,e1,pQ (xs:=xs) (by rw [cu na]; exact h2) (h4.same (mY sub))⟩
      · have hj':j ∉ O:=fun w=>hj (List.mem_filter.mpr ⟨w,by simpa using z⟩)
        obtain ⟨v,q1,q2⟩:=R.pl j d hj' q
        exact ⟨v,q1,q2.same (mY sub)⟩
    own:=fun j d hj q=>by
      obtain ⟨jO,jn⟩:=List.mem_filter.mp hj
      have jn:j≠i:=by simpa using jn
      obtain ⟨b,ys,es,q1,q2,q3,q4,q5⟩:=R.own j d jO q
      refine ⟨b,ys,es,q1,List.mem_filter.mpr ⟨q2,?_⟩,q3,q4,q5.same (mY sub)⟩
      have:b≠a:=fun w=>by
        subst w
        exact jn (R.inj j i d _ b jO hi q e q1 e1)
      simpa using this
    inj:=fun j k d e a hj hk=>R.inj j k d e a (List.mem_filter.mp hj).1 (List.mem_filter.mp hk).1 }
end
end L2
set_option maxRecDepth 100000
set_option maxHeartbeats 4000000
namespace L2
open PySem PySem.Spec PyProof.Rows
section
variable {X:Cx} {E:XK} {a b c:Expr} {ga gb gc:Ds→Rs PyData} {pos:Pos}
end
end L2
set_option maxRecDepth 100000
set_option maxHeartbeats 4000000
namespace L2
open PySem PySem.Spec PyProof.Rows
section
variable {X:Cx} {E:XK} {a:Expr} {es:List Expr} {gs:Ds→Rs (List PyData)} {pos:Pos}
theorem A6 (hc:X.calm=true):jb X (.builtin "any") (fun xs H Q=>∃ (a:Addr) (bs:List Bool),xs=[.ref a]∧SqL X.K H a (bs.map V.bl)∧Q (.bl (bs.any id)) H):=by
  intro pins s σ H xs us Q I r h
  obtain ⟨a,bs,rfl,hS,q⟩:=h
  obtain ⟨u,rfl,r1⟩:=vals1 r
  cases r1
  obtain ⟨its,rv,p,_⟩:=I.list hS
  have hl:=p.isList
  have hb:=lG rv
  have hlt:a < s.heap.objs.size:=by obtain ⟨_,e,_⟩:=hl; exact Heap.lt_size e
  refine call_any_walk (wpAny_pyIter_list hl ?_)
  refine ⟨s.heap.objs.size,[s.heap.objs.size,a],[s.heap.objs.size],its.toArray.size,_,_,fun i=>(bs[i]?).getD false,rfl,Walks.list (A:=X.A.in1) (I.ok.hd hc) _ a (Nat.ne_of_lt hlt) its.toArray,
    ⟨⟨_,Heap.get?_push_size _ rfl,rfl,rfl⟩,hl.push _⟩,fun i v s' Q' E' hP hQ=>?_,fun h' tk hk=>?_⟩
  · obtain ⟨b,e,rfl⟩:=hb.get i v (by simpa using hP)
    simp only [e,Option.getD_some] at hQ
    exact wpAny_truthy_bool hQ
  · have e:((List.range its.toArray.size).any fun i=>(bs[i]?).getD false)=bs.any id:=by
      rw [List.size_toArray,hb.length]; exact LSm.range_any bs
    rw [e]
    exact ⟨.bl _,H,I.kept (LSm.kept_iter hk),rfl,q⟩
noncomputable def uy:List PyData→Option PyData
  | [.list x]=>(gA x).map fun ns=>.bool (ns.any id)
  | _=>none
theorem BK {K:PySem.W.Frag}:FnD K uy (fun xs H Q=>∃ (a:Addr) (ns:List Bool),xs=[.ref a]∧SqL K H a (ns.map V.bl)∧Q (.bl (ns.any id)) H):=fun ds d vs H A Q e hA h k=>by
  unfold uy at e
  split at e
  · rename_i x
    cases q:gA x with
    | none=>rw [q] at e; cases e
    | some ns =>
      rw [q] at e; cases e
      obtain ⟨v,rfl,hh⟩:=kX h
      obtain ⟨p,xs,rfl,hp,hx⟩:=hh.ofLst
      rw [ku q] at hx
      rw [hx.ofBools] at hp
      exact ⟨p,ns,rfl,SqL.of (aX _ _ hp),k _ H (aM.refl _) is_bool⟩
  · cases e
theorem DT:bootBuiltins "any"=some (.builtin "any"):=by decide +kernel
theorem AV {p:Pos} (hc:X.calm=true) (hm:X.mg "any"=none) (ha:PAD X E (a::es) gs) (hg:Gl X "any":=by rfl) (he:starEach (a::es) X.env=(false,eval a X.env)::starEach es X.env:=by rfl) (hpl:(backTo pos (starEach es X.env)).any (·.1)=false:=by rfl) :
    PD X E (.Call (.Name "any" p) (a::es) [] pos) (gF uy gs):=gW BK ha fun h=>f6 (A6 hc) hg hm DT h (by decide) (by decide) he hpl
end
end L2
set_option maxRecDepth 100000
set_option maxHeartbeats 4000000
namespace L2
open PySem PySem.Spec PyProof.Rows
section
variable {X:Cx} {E:XK} {a:Expr} {gs:Ds→Rs (List PyData)} {pos:Pos}
end
end L2
set_option maxRecDepth 100000
set_option maxHeartbeats 4000000
namespace PyProof.Rows
open PySem
section
variable {prog:Program} {w:World} {A:Around} {E:Value→Shared→Prop} {s:Shared}
theorem v9 {l:Addr} {o:Obj} {n:Nat} {vs:List Value} {Q:List Value→Shared→Prop} (ho:s.heap.get? l=some o) (hc:o.cls=.type "tuple") (hd:o.data=.seq vs.toArray n) (hz:vs.length≤sizeLine)
    (h:Q vs { s with heap:=(s.heap.push (seqObj "list" #[] 0)).update s.heap.objs.size (Obj.mapSeq (·++vs.toArray)) }):wpAny (model prog w) A (collect (.ref l)) Q E s:=by
  unfold collect; refine wpAny_bind (wpAny_runValue (codeAny_builtin entry_proto_collect' ?_))
  show wpAny _ _ (do again (.builtin "list.__iadd__" ⟨[← newList [],Value.ref l],[]⟩)) _ _ s
  refine wpAny_bind (wpAny_newList (wpAny_pure ⟨Code.quiet_builtin _ (by decide +kernel),codeAny_builtin entry_list_iadd' ?g⟩)); case g =>
  show wpAny _ _ (Builtin.List.listExtendWith (Value.ref s.heap.objs.size) (Value.ref l) (Value.ref s.heap.objs.size)) _ _ { s with heap:=s.heap.push (seqObj "list" #[] 0) }
  unfold Builtin.List.listExtendWith; have ho':(s.heap.push (seqObj "list" #[] 0)).get? l=some o:=Heap.get?_push_of_some _ ho
  refine wpAny_bind (wpAny_typeOf (T:="tuple") ⟨o,ho',hc⟩ ?_)
  have ht:(Value.type "tuple" == Value.type "tuple")=true:=by rfl
  rw [if_pos (by rw [ht]; simp)]; refine wpAny_bind (listItems_at ho' hd ?_)
  refine wpAny_bind (listItems_at (xs:=#[]) (n:=0) (Heap.get?_push_size _ rfl) rfl ?_); rw [if_neg (by simp)]
  refine wpAny_bind (listUpdate_at (xs:=#[]) (n:=0) (Heap.get?_push_size _ rfl) rfl ?_ (Nat.zero_le _) (by show (#[]++vs.toArray).size≤sizeLine + 1; simp; omega)); refine wpAny_pure ?_
  show wpAny (model prog w) A (do let o ← load s.heap.objs.size; match o.data with | .seq xs _=>pure xs.toList | _=>unsupported "internal:collect") Q E { s with heap:=(s.heap.push (seqObj "list" #[] 0)).update s.heap.objs.size (Obj.mapSeq (·++vs.toArray)) }
  refine wpAny_bind (wpAny_load (get?_update_seq (Heap.get?_push_size _ rfl) _) ?_); show wpAny _ _ (pure ((#[]:Array Value)++vs.toArray).toList) Q E _
  rw [show ((#[]:Array Value)++vs.toArray).toList=vs by simp]; exact wpAny_pure h
theorem wF {l:Addr} {o:Obj} {n:Nat} {vs:List Value} {ns:List Int} {Q:Value→Shared→Prop} (ho:s.heap.get? l=some o) (hc:o.cls=.type "tuple") (hd:o.data=.seq vs.toArray n) (hI:IntsAre vs ns) (h64:vs.length < 64)
    (h:∀ (out:Array Value) (ns':List Int),IntsAre out.toList ns'→ns'.Perm ns→ns'.Pairwise (·≤·)→Q (.ref (s.heap.objs.size + 1)) { s with heap:=sortedAll s.heap vs out }):wpAny (model prog w) A (call (.builtin "sorted") [.ref l]) Q E s:=by
  refine Calls.call_function_entry kind_sorted plain_sorted entry_sorted (args_sorted1 _) ?_; unfold Builtin.«sorted»
  refine wpAny_bind (m:=checkCount "sorted" 1 1 _) (wpAny_pure ?_); refine wpAny_bind (v9 ho hc hd (by rw [sizeLine_eq]; omega) ?_)
  refine wpAny_bind (wpAny_newList ?_); have hsz:((s.heap.push (seqObj "list" #[] 0)).update s.heap.objs.size (Obj.mapSeq (·++vs.toArray))).objs.size=s.heap.objs.size + 1:=by rw [Heap.size_update,size_push']
  have hoL:(((s.heap.push (seqObj "list" #[] 0)).update s.heap.objs.size (Obj.mapSeq (·++vs.toArray))).push (seqObj "list" vs.toArray 0)).get? (s.heap.objs.size + 1)=some (seqObj "list" vs.toArray 0):=by rw [← hsz]; exact Heap.get?_push_size _ rfl
  show wpAny _ _ _ _ _ { s with heap:=((s.heap.push (seqObj "list" #[] 0)).update s.heap.objs.size (Obj.mapSeq (·++vs.toArray))).push (seqObj "list" vs.toArray 0) }; rw [hsz]
  refine wpAny_bind (wpAny_holding (wpAny_call_entry slot_list_sort ⟨_,hoL,rfl⟩ entry_list_sort (list_sort_tree hoL hI h64 fun out ns' a1 a2 a3=>⟨_,rfl,?_⟩) (args_list_sort _))); exact wpAny_pure ⟨_,rfl,h out ns' a1 a2 a3⟩
end
end PyProof.Rows
namespace L2
open PySem PySem.Spec PyProof.Rows
noncomputable def insI (x:Int):List Int→List Int
  | []=>[x]
  | y::r=>if x≤y then x::y::r else y::insI x r
noncomputable def sortI:List Int→List Int
  | []=>[]
  | x::r=>insI x (sortI r)
theorem insI_perm (x:Int):∀ l:List Int,(insI x l).Perm (x::l)
  | []=>.refl _
  | y::r=>by
    unfold insI
    split
    · exact .refl _
    · exact ((insI_perm x r).cons y).trans (.swap _ _ _)
theorem sortI_perm:∀ l:List Int,(sortI l).Perm l
  | []=>.refl _
  | x::r=>(insI_perm x _).trans ((sortI_perm r).cons x)
theorem nU (x:Int):∀ l:List Int,l.Pairwise (·≤·)→(insI x l).Pairwise (·≤·)
  | [],_=>by simp [insI]
  | y::r,h=>by
    obtain ⟨h1,h2⟩:=List.pairwise_cons.mp h
    unfold insI
    split
    · rename_i z
      refine List.pairwise_cons.mpr ⟨fun a ha=>?_,h⟩
      rcases List.mem_cons.mp ha with rfl | ha
      · exact z
      · exact Int.le_trans z (h1 a ha)
    · rename_i z
      refine List.pairwise_cons.mpr ⟨fun a ha=>?_,nU x r h2⟩
      rcases List.mem_cons.mp ((insI_perm x r).mem_iff.mp ha) with rfl | ha
      · omega
      · exact h1 a ha
theorem eW:∀ l:List Int,(sortI l).Pairwise (·≤·)
  | []=>.nil
  | x::r=>nU x _ (eW r)
theorem gD:∀ {l m:List Int},l.Perm m→l.Pairwise (·≤·)→m.Pairwise (·≤·)→l=m
  | [],m,h,_,_=>by rw [List.nil_perm.mp h]
  | x::r,[],h,_,_=>by have:=h.length_eq; simp at this
  | x::r,y::m,h,h1,h2=>by
    obtain ⟨a1,a2⟩:=List.pairwise_cons.mp h1
    obtain ⟨b1,b2⟩:=List.pairwise_cons.mp h2
    have e:x=y:=by
      have c1:x≤y:=by
        rcases List.mem_cons.mp (h.mem_iff.mpr (List.mem_cons_self (a:=y) (l:=m))) with z | z
        · omega
        · exact a1 y z
      have c2:y≤x:=by
        rcases List.mem_cons.mp (h.mem_iff.mp (List.mem_cons_self (a:=x) (l:=r))) with z | z
        · omega
        · exact b1 x z
      omega
    subst e
    rw [gD (List.Perm.cons_inv h) a2 b2]
section
variable {X:Cx} {E:XK} {a:Expr} {es:List Expr} {gs:Ds→Rs (List PyData)} {pos:Pos}
theorem kG:∀ {its:List Value} {ns:List Int},IntsAre its ns→Vals (ns.map V.int) its
  | _,_,.nil=>.nil
  | _,_,.cons n t r=>.cons ⟨t,rfl⟩ (kG r)
theorem sg:jb X (.builtin "sorted") (fun xs H Q=>∃ (a:Addr) (ns:List Int),xs=[.ref a]∧SqL X.K H a (ns.map V.int)∧ns.length < 64∧∀ p,H p=none→Q (.ref p) (upd H p (.lst ((sortI ns).map V.int)))):=by
  intro pins s σ H xs us Q I r h
  obtain ⟨a,ns,rfl,hS,h64,q⟩:=h
  obtain ⟨u,rfl,r1⟩:=vals1 r
  cases r1
  obtain ⟨its,rv,p,_⟩:=I.list hS
  have hi:IntsAre its ns:=intsAre_of rv
  refine sorted_ints p.isList hi (by rw [hi.length]; exact h64) fun out ns' a1 a2 a3=>?_
  obtain ⟨e,he⟩:=sortedAll_at s.heap its out
  have en:ns'=sortI ns:=gD (a2.trans (sortI_perm ns).symm) a3 (eW ns)
  subst en
  have hz:((sortI ns).map V.int).length≤sizeLine:=by rw [List.length_map,(sortI_perm ns).length_eq,sizeLine_eq]; omega
  have ho:fD X.prog X.w (upd H (s.heap.objs.size + 1) (.lst ((sortI ns).map V.int))) (sortedAll s.heap its out) (s.heap.objs.size + 1) (.lst ((sortI ns).map V.int)):=⟨hz,out.toList,e,kG a1,he⟩
  exact ⟨.ref (s.heap.objs.size + 1),_,I.laid (t':=s.toks) (fun _ _=>sortedAll_old) (Nat.le_succ _) ho,rfl,q _ (I.hok.fresh (Nat.le_succ _))⟩
theorem sE:jb X (.builtin "sorted") (fun xs H Q=>∃ (a:Addr) (ns:List Int),xs=[.ref a]∧SqT X.K H a (ns.map V.int)∧ns.length < 64∧∀ p,H p=none→Q (.ref p) (upd H p (.lst ((sortI ns).map V.int)))):=by
  intro pins s σ H xs us Q I r h
  obtain ⟨a,ns,rfl,hS,h64,q⟩:=h
  obtain ⟨u,rfl,r1⟩:=vals1 r
  cases r1
  obtain ⟨its,rv,⟨o,ho,hc,n,hd⟩,_⟩:=I.tuple hS
  have hi:IntsAre its ns:=intsAre_of rv
  refine wF ho hc hd hi (by rw [hi.length]; exact h64) fun out ns' a1 a2 a3=>?_
  obtain ⟨e,he⟩:=sortedAll_at s.heap its out
  have en:ns'=sortI ns:=gD (a2.trans (sortI_perm ns).symm) a3 (eW ns)
  subst en
  have hz:((sortI ns).map V.int).length≤sizeLine:=by rw [List.length_map,(sortI_perm ns).length_eq,sizeLine_eq]; omega
  have ho:fD X.prog X.w (upd H (s.heap.objs.size + 1) (.lst ((sortI ns).map V.int))) (sortedAll s.heap its out) (s.heap.objs.size + 1) (.lst ((sortI ns).map V.int)):=⟨hz,out.toList,e,kG a1,he⟩
  exact ⟨.ref (s.heap.objs.size + 1),_,I.laid (t':=s.toks) (fun _ _=>sortedAll_old) (Nat.le_succ _) ho,rfl,q _ (I.hok.fresh (Nat.le_succ _))⟩
theorem uz:jb X (.builtin "sorted") (fun xs H Q=>∃ (a:Addr) (ns:List Int),xs=[.ref a]∧(SqL X.K H a (ns.map V.int)∨SqT X.K H a (ns.map V.int))∧ns.length < 64∧∀ p,H p=none→Q (.ref p) (upd H p (.lst ((sortI ns).map V.int)))):=by
  intro pins s σ H xs us Q I r h
  obtain ⟨a,ns,e,hS | hS,h64,q⟩:=h
  · exact sg pins s σ H xs us Q I r ⟨a,ns,e,hS,h64,q⟩
  · exact sE pins s σ H xs us Q I r ⟨a,ns,e,hS,h64,q⟩
noncomputable def dW:List PyData→Option PyData
  | [.list x]=>(fg x).bind fun ns=>if ns.length < 64 then some (.list ((sortI ns).map PyData.int)) else none
  | [.tuple x]=>(fg x).bind fun ns=>if ns.length < 64 then some (.list ((sortI ns).map PyData.int)) else none
  | _=>none
theorem wI {K:PySem.W.Frag}:FnD K dW (fun xs H Q=>∃ (a:Addr) (ns:List Int),xs=[.ref a]∧(SqL K H a (ns.map V.int)∨SqT K H a (ns.map V.int))∧ns.length < 64∧∀ p,H p=none→Q (.ref p) (upd H p (.lst ((sortI ns).map V.int)))):=fun ds d vs H A Q e hA h k=>by
  unfold dW at e
  split at e
  · obtain ⟨ns,q,e⟩:=Option.bind_eq_some_iff.mp e
    split at e
    · rename_i h64
      cases e
      obtain ⟨v,rfl,hh⟩:=kX h
      obtain ⟨p,xs,rfl,hp,hx⟩:=hh.ofLst
      rw [cQ q] at hx
      rw [hx.ofInts] at hp
      exact ⟨p,ns,rfl,.inl (SqL.of (aX _ _ hp)),h64,fun l hl=>k _ _ (cE hl) (kU hA hl (mf _))⟩
    · cases e
  · obtain ⟨ns,q,e⟩:=Option.bind_eq_some_iff.mp e
    split at e
    · rename_i h64
      cases e
      obtain ⟨v,rfl,hh⟩:=kX h
      obtain ⟨p,xs,rfl,hp,hx⟩:=hh.ofTup
      rw [cQ q] at hx
      rw [hx.ofInts] at hp
      exact ⟨p,ns,rfl,.inr (SqT.of (aX _ _ hp)),h64,fun l hl=>k _ _ (cE hl) (kU hA hl (mf _))⟩
    · cases e
  · cases e
theorem yM:bootBuiltins "sorted"=some (.builtin "sorted"):=by decide +kernel
theorem nE {p:Pos} (hm:X.mg "sorted"=none) (ha:PAD X E (a::es) gs) (hg:Gl X "sorted":=by rfl) (he:starEach (a::es) X.env=(false,eval a X.env)::starEach es X.env:=by rfl) (hpl:(backTo pos (starEach es X.env)).any (·.1)=false:=by rfl) :
    PD X E (.Call (.Name "sorted" p) (a::es) [] pos) (gF dW gs):=gW wI ha fun h=>f6 uz hg hm yM h (by decide) (by decide) he hpl
end
end L2
set_option maxRecDepth 100000
set_option maxHeartbeats 4000000
namespace L2
open PySem PySem.Spec PySem.Calls PyProof.Rows PySem.W PySem.Builtin PySem.Builtin.ObjectAttr PySem.Builtin.Getset_descriptor
section
variable {prog:Program} {w:World} {A:Around} {E:Value→Shared→Prop} {s:Shared} {K:Frag} {x D:Addr} {ox:Obj}
structure C3 (h:Heap) (x:Addr) (D:Addr):Prop where
  ex:∃ o,h.get? x=some o∧o.cls=.ref D
theorem C3.type {M:Model} {h:Heap} (I:C3 h x D):Looks M h (typeOf (.ref x)) (.ref D):=by
  obtain ⟨o,h1,h2⟩:=I.ex
  exact h2 ▸ (Looks.ld h1).andThen .now
end
end L2
set_option maxRecDepth 100000
set_option maxHeartbeats 4000000
namespace L2
open PySem PySem.Spec PyProof.Rows
section
variable {X:Cx} {E:XK} {ea:Addr} {oe:Obj} {C:Addr} {pos:Pos} {i:Nat}
end
end L2
set_option maxRecDepth 100000
set_option maxHeartbeats 4000000
namespace L2
open PySem PySem.Spec PyProof.Rows
section
variable {X:Cx} {E:XK} {ea:Addr} {oe:Obj} {C:Addr} {pos:Pos} {i:Nat}
end
end L2
set_option maxRecDepth 100000
set_option maxHeartbeats 4000000
namespace L2
open PySem PySem.Spec PyProof.Rows
noncomputable def w5 (O:List Nat) (i:Nat) (g:Ds→Rs PyData):Ds→Sr:=fun δ=>match δ[i]? with
  | some (some (.int a))=>ofR (g (mask O δ)) fun d=>match d with
    | .int b=>.nx (δ.set i (some (.int (a + b))))
    | _=>.no
  | _=>.no
section
variable {X:Cx} {E:XK} {O:List Nat} {e a b:Expr} {ga gb:Ds→Rs PyData} {es:List Expr} {gs:Ds→Rs (List PyData)} {pos:Pos}
theorem Cj {i:Nat} {x:Str} {pos':Pos} (h:PD X E e ga) (hN:X.N.Nodup) (hO:i ∉ O:=by decide) (hi:X.N[i]?=some x:=by rfl) (hx:Loc X.env.scope x:=by first | exact Or.inl rfl | exact Or.inr rfl)
    (hf:X.fn x=true∨X.env.scope.names.lookup x=some .local:=by first | exact .inl rfl | exact .inr rfl | assumption):PSD X E O (.AugAssign (.Name x pos') .Add e pos) (w5 O i ga):=(DR hN hi hx h Eh hf).imp fun D σ H pz3=>by
  obtain ⟨H0,A0,A,δ,R,o⟩:=pz3
  unfold w5 at o
  split at o
  · rename_i z hz
    obtain ⟨v,ev,hv⟩:=R.pl i _ hO hz
    have hl:i < δ.length:=(List.getElem?_eq_some_iff.mp hz).1
    refine ⟨v,ev,?_⟩
    refine eD.run R.part (fun d ed u H1 s1 R1 hu=>?_) (fun C et H' s'=>?_) (fun et=>?_)
    · rw [ed,ay] at o
      split at o
      · refine ⟨_,_,hv.ofInt,hu.ofInt,o A _ H1 ((R.step s1).set hO hl c6)⟩
      · exact o.elim
    · rw [et,pS] at o; exact o H' (R.same.trans s')
    · rw [et,ph] at o; exact o
  · exact o.elim
noncomputable def lu (f:Str):List (PyData × PyData)→Option PyData
  | []=>none
  | (k,d)::r=>match k with
    | .str g=>if g=f then some d else lu f r
    | _=>none
noncomputable def pB (C:Addr) (f:Str):PyData→Option PyData
  | .dict (k::r)=>match k with
    | (.str z,.int c)=>if z=""∧c=(C:Int) then lu f r else none
    | _=>none
  | _=>none
theorem Isk.lu {K:PySem.W.Frag} {H:Hp}:∀ {r:List (PyData × PyData)} {fs:List (Str × V)} {f:Str} {d:PyData},Isk K H r fs→L2.lu f r=some d→∃ v,fs.lookup f=some v∧Is K H d v
  | [],_,f,d,_,l=>by simp [L2.lu] at l
  | (k,x)::r,fs,f,d,h,l=>by
    unfold Isk at h
    obtain ⟨g,v,fs',rfl,rfl,h1,h2⟩:=h
    simp only [L2.lu] at l
    rw [List.lookup_cons]
    by_cases z:g=f
    · subst z
      rw [if_pos rfl] at l
      cases l
      exact ⟨v,by simp,h1⟩
    · rw [if_neg z] at l
      have:(f == g)=false:=by simpa using fun q=>z q.symm
      rw [this]
      exact Isk.lu h2 l
theorem Ci {K:PySem.W.Frag} {H:Hp} {C:Addr} {f:Str} {d x:PyData} {v:V} (hf:f≠"@") (e:pB C f d=some x) (h:Is K H d v):∃ a dx fs u,v=.ref a∧H a=some (.ins C dx fs)∧fs.lookup f=some u∧Is K H x u:=by
  unfold pB at e
  split at e
  · rename_i k r
    split at e
    · rename_i z c
      split at e
      · rename_i q
        obtain ⟨rfl,rfl⟩:=q
        unfold Is at h
        rcases h with ⟨a,ns,_,ek,_⟩ | ⟨a,C',dx,fs,ev,h1,hn,h2 | h2⟩
        · injection ek with ek _; cases ek
        · unfold Isk at h2
          obtain ⟨g,u,fs',e1,e2,h3,h4⟩:=h2
          cases e1
          have e5:=h3.ofInt
          injection e5 with e5
          obtain rfl:C'=C:=Int.ofNat.inj e5
          obtain ⟨u,l,hu⟩:=h4.lu e
          exact ⟨a,dx,fs,u,ev,h1,l,hu⟩
        · unfold Isk at h2
          obtain ⟨g,u,fs',e1,e2,h3,h4⟩:=h2
          cases e1
          have e5:=h3.ofInt
          injection e5 with e5
          obtain rfl:C'=C:=Int.ofNat.inj e5
          obtain ⟨u,l,hu⟩:=h4.lu e
          rw [List.lookup_cons,show (f == ("@":Str))=false by simpa using hf] at l
          exact ⟨a,dx,fs,u,ev,h1,l,hu⟩
      · cases e
    · cases e
  · cases e
theorem DF {C:Addr} {f:Str} (cl:Cls X.K C) (n:gY X.K C f) (ha:PD X E a ga) (hb:attributeBase a f X.env (eval a X.env)=eval a X.env:=by rfl) (hf:f≠"@":=by decide):PD X E (.Attribute a f pos) (g1 (pB C f) ga) :=
  (EG ha hb).imp fun σ H Q ⟨A,δ,R,o⟩=>g1.read (tt:=fun Q x H1=>∃ a C dx fs v,x=.ref a∧H1 a=some (.ins C dx fs)∧Cls X.K C∧gY X.K C f∧fs.lookup f=some v∧Q v H1) R o fun d1 d x H' e _ _ h k=>by
    obtain ⟨p,dx,fs,u,rfl,hp,l,hu⟩:=Ci hf e h
    exact ⟨p,C,dx,fs,u,rfl,aX _ _ hp,cl,n,l,k _ H' (aM.refl _) hu⟩
noncomputable def DE (C:Addr) (names:List Str):Sp:=fun vs H Q _=>∃ (x dx:Addr) (args:List V),vs=.ref x::args∧args.length=names.length∧H x=some (.ins C dx []) ∧
  ∀ H':Hp,(∀ b,b≠x→H' b=H b)→H' x=some (.ins C dx (names.zip args))→Q .non H'
structure Bl (P:Program) (w:World) (K:PySem.W.Frag) (mg:Str→Option Value) (base:Heap) (k:Nat) (x:Str) (C:Addr) (names:List Str):Prop where
  ex:∃ f fd ps,Mk K C f∧jk P w K mg base (CXW P w) k f fd ps (DE C names)∧Binds K fd ps []∧mg x=some (.ref C)
noncomputable def uF (C:Addr) (names:List Str):List PyData→Rs PyData:=fun ds=>if ds.length=names.length then .ok (Ba C (names.zip ds)) else .no
theorem xQ {K:PySem.W.Frag} {H:Hp}:∀ {names:List Str} {ds:List PyData} {vs:List V},Iss K H ds vs→Isk K H ((names.zip ds).map fun p=>(.str p.1,p.2)) (names.zip vs)
  | [],_,_,_=>by simpa using ye
  | _::_,[],_,h=>by rw [h.nil_of]; simpa using ye
  | n::ns,d::ds,_,h=>by
    obtain ⟨v,r,rfl,h1,h2⟩:=h.cons_of
    simp only [List.zip_cons_cons,List.map_cons]
    exact uK h1 (xQ h2)
theorem Ab {f:Str}:∀ {names:List Str} {vs:List V},f ∉ names→(names.zip vs).lookup f=none
  | [],_,_=>rfl
  | _::_,[],_=>rfl
  | n::ns,v::vs,h=>by
    rw [List.zip_cons_cons,List.lookup_cons,show (f == n)=false by simpa using fun q=>h (by rw [q]; exact List.mem_cons_self)]
    exact Ab fun q=>h (List.mem_cons_of_mem _ q)
theorem BO {k j:Nat} {x:Str} {C:Addr} {names:List Str} {p:Pos} (D:Bl X.prog X.w X.K X.mg X.base k x C names) (hr:fm j X.A) (hx:Passes (CXW X.prog X.w) X E) (ha:PAD X E (e::es) gs) (hk:k + 1≤j:=by decide) (hg:Gl X x:=by rfl)
    (hdb:(x == ("__debug__":Str))=false:=by decide) (he:starEach (e::es) X.env=(false,eval e X.env)::starEach es X.env:=by rfl) (hpl:(backTo pos (starEach es X.env)).any (·.1)=false:=by rfl) (hn:("@":Str) ∉ names:=by decide) :
    PD X E (.Call (.Name x p) (e::es) [] pos) (aF (uF C names) gs):=by
  obtain ⟨f,fd,ps,M,F,hb,hm⟩:=D.ex
  refine (BD M F (hr.mono hk) hg hm hb .nil hx ha.1 hdb he hpl).imp fun σ H Q rz3=>?_
  obtain ⟨A,δ,R,o⟩:=rz3
  refine vg R o fun ds vs H1 e s1 R1 h1 o=>?_
  unfold uF at o
  split at o
  · rename_i hl
    intro x dx nx ndx ne
    refine ⟨x,dx,vs++[],rfl,by rw [List.append_nil,h1.length,hl],cn,fun H' k1 k2=>⟨rfl,?_⟩⟩
    rw [List.append_nil] at k2
    have sm:aM H1 H':=fun b q eb=>by
      have n1:b≠x:=bE eb nx
      rw [k1 b n1,bD n1,bD (bE eb ndx)]
      exact eb
    refine o (.ref x) H' sm (Ed (dx:=dx) (fs:=names.zip vs) ?_ (Ab hn) (xQ (h1.same sm.del)))
    rw [cu (R1.ls.new nx)]
    exact k2
  · exact o.elim
noncomputable def ux:PyData→PyData→Option PyData
  | .list x,.int d=>(fg x).map fun ns=>.int ((uZ ns).getD d)
  | _,_=>none
end
section
variable {prog:Program} {w:World} {A:Around} {R:Result→Shared→Prop} {I:Addr} {fp wr:List Addr} {n:Nat} {T:Nat→Value→Prop} {St:Nat→Heap→Prop} {dv:Value}
theorem Bw (a v:Value):argsOk "max" ⟨[a],[(Str.ofString "default",v)]⟩:=by unfold argsOk; kernel_rfl
theorem sI:(toString "max"++toString ".loop":String)="max.loop":=by decide
theorem pM (W:Walks prog w A.in1 I fp wr n T St) (bt:Nat→Nat→Bool) (hc:CmpOf prog w A.in1 .Gt T bt) (S:Addr) (hf:S ∉ fp):∀ (k j:Nat) (s:Shared) (vb:Value) (c:Nat),n=j + 1 + k→St (j + 1) s.heap→T (argBest bt j) vb →
    s.heap.get? S=some { cls:=.type "list",dict:=none,data:=.seq #[vb,vb] c,slots:=#[] }→(∀ v h' tk,T (argBest bt (n - 1)) v→(∀ b o,b ∉ wr→b≠S→s.heap.get? b=some o→h'.get? b=some o)→R (.ok (.ret v)) { s with heap:=h',toks:=tk }) →
    codeAny (model prog w) A (.builtin "max.loop" ⟨[.ref I,.none,.ref S],[(Str.ofString "default",dv)]⟩) R s
  | 0,j,s,vb,c,hn,hst,hb,hS,hR=>by
    have nw:S ∉ wr:=fun h=>hf (W.sub _ h)
    refine codeAny_builtin F.entry_max_loop ?_
    rw [Around.under_plainId F.plain_max_loop _]; show wpAny _ A.in1 (seqItems? (.ref S) >>= _) _ _ s
    refine wpAny_bind (wpAny_seqItems hS rfl ?_); show wpAny _ A.in1 (tryCatch (pyNext (.ref I)) _ >>= _) _ _ s
    refine wpAny_bind (wpAny_tryCatch (W.done s _ _ (by rw [show n=j + 1 from hn]; exact hst) fun h1 t1 k1=>?_))
    have hS1:=k1 S _ nw hS
    show wpAny _ A.in1 (updateSeq S (fun _=>#[]) >>= _) _ _ _
    refine wpAny_bind (wpAny_updateSeq hS1 rfl (wpAny_bind (wpAny_letGo (wpAny_pure ?_))))
    exact hR vb _ t1 (by rw [show n - 1=j by omega]; exact hb) fun b o q1 q2 z=>(Heap.get?_update_other _ _ (Ne.symm q2)).trans (k1 b o q1 z)
  | k + 1,j,s,vb,c,hn,hst,hb,hS,hR=>by
    have nw:S ∉ wr:=fun h=>hf (W.sub _ h)
    refine codeAny_builtin F.entry_max_loop ?_
    rw [Around.under_plainId F.plain_max_loop _]; show wpAny _ A.in1 (seqItems? (.ref S) >>= _) _ _ s
    refine wpAny_bind (wpAny_seqItems hS rfl ?_); show wpAny _ A.in1 (tryCatch (pyNext (.ref I)) _ >>= _) _ _ s
    refine wpAny_bind (wpAny_tryCatch (W.item (j + 1) s _ _ (by omega) hst fun v h1 t1 hv st1 k1=>?_))
    have hS1:=k1 S _ nw hS
    show wpAny _ A.in1 (tryCatch (holding [v,v] (richCompare .Gt v vb >>= _)) _ >>= _) _ _ _
    refine wpAny_bind (wpAny_tryCatch (wpAny_holding (wpAny_bind (hc (j + 1) (argBest bt j) v vb _ _ _ hv hb (wpAny_bind (wpAny_holding (wpAny_truthy_bool (wpAny_bind (wpAny_letGo (wpAny_pure ?_))))))))))
    cases q:bt (j + 1) (argBest bt j) with
    | true =>
      rw [if_pos rfl]
      refine wpAny_bind (wpAny_updateSeq hS1 rfl (wpAny_bind (wpAny_letGo ?_)))
      rw [sI]
      refine wpAny_pure ⟨plainId_quiet F.plain_max_loop _,pM W bt hc S hf k (j + 1) _ v _ (by omega) (W.frame _ _ _ st1 fun b hbf o e=>?_) (by unfold argBest; rw [q]; exact hv) (Heap.get?_update_self _ hS1 rfl) fun v2 h2 t2 p2 k2=>?_⟩
      · exact (Heap.get?_update_other _ _ (fun z:S=b=>hf (z ▸ hbf))).trans e
      · exact hR v2 h2 t2 p2 fun b o q1 q2 z=>k2 b o q1 q2 ((Heap.get?_update_other _ _ (Ne.symm q2)).trans (k1 b o q1 z))
    | false =>
      rw [if_neg (by decide)]
      refine wpAny_bind (wpAny_letGo ?_)
      rw [sI]
      refine wpAny_pure ⟨plainId_quiet F.plain_max_loop _,pM W bt hc S hf k (j + 1) _ vb c (by omega) st1 (by unfold argBest; rw [q]; exact hb) hS1 fun v2 h2 t2 p2 k2=>?_⟩
      exact hR v2 h2 t2 p2 fun b o q1 q2 z=>k2 b o q1 q2 (k1 b o q1 z)
variable {E:Value→Shared→Prop} {s:Shared} {l:Addr} {xs:Array (Int × Tok)}
theorem AS {Q:Value→Shared→Prop} (hh:A.handled=none) (hl:s.heap.IsList l (intItems xs))
    (h0:xs.size=0→∀ h' tk,(∀ b o,s.heap.get? b=some o→h'.get? b=some o)→Q dv { s with heap:=h',toks:=tk })
    (h:0 < xs.size→∀ v h' tk,(intItems xs)[argBest (fun i j=>decide (numAt xs i > numAt xs j)) (xs.size - 1)]?=some v→(∀ b o,s.heap.get? b=some o→h'.get? b=some o)→Q v { s with heap:=h',toks:=tk }) :
    wpAny (model prog w) A (call (.builtin "max") [.ref l] [(Str.ofString "default",dv)]) Q E s:=by
  refine kmk_tree F.kind_max F.plain_max F.entry_max (Bw _ _) ?_
  show wpAny _ A.in1 (Builtin.Builtins.bindParams "max" ["key", "default"] 0 ⟨[],[(Str.ofString "default",dv)]⟩ >>= _) _ _ s
  refine wpAny_bind (wpAny_of_eq (show Builtin.Builtins.bindParams "max" ["key", "default"] 0 ⟨[],[(Str.ofString "default",dv)]⟩=pure [none,some dv] from rfl) (wpAny_bind (wpAny_pure ?_)))
  refine wpAny_bind (iter_intList hl fun s2 e st hfp hlI=>wpAny_bind (wpAny_newObj_type ?_))
  subst e
  have W:=Walks.list (prog:=prog) (w:=w) (A:=A.in1) hh s.heap.objs.size l hlI (intItems xs)
  have hsz:(intItems xs).size=xs.size:=by simp [intItems]
  have hSf:(s.heap.push { cls:=.type "list_iterator",data:=.fields #[.ref l,.int 0 0] }).objs.size ∉ [s.heap.objs.size,l]:=fun hm=>Nat.lt_irrefl _ (hfp _ hm)
  rw [sI]
  refine wpAny_pure ⟨plainId_quiet F.plain_max_loop _,codeAny_builtin F.entry_max_loop ?_⟩
  rw [Around.under_plainId F.plain_max_loop _]
  show wpAny _ A.in1 (seqItems? (.ref _) >>= _) _ _ _
  refine wpAny_bind (wpAny_seqItems (Heap.get?_push_size _ rfl) rfl ?_)
  show wpAny _ A.in1 (tryCatch (pyNext (.ref _)) _ >>= _) _ _ _
  have st1:=W.frame _ _ _ st fun b _ o e=>Heap.get?_push_of_some { cls:=.type "list",data:=.seq #[] } e
  have nS:(s.heap.push { cls:=.type "list_iterator",data:=.fields #[.ref l,.int 0 0] }).objs.size ∉ [s.heap.objs.size]:=fun z=>hSf (List.mem_cons.mpr (.inl (List.mem_singleton.mp z)))
  have kp:∀ b o,s.heap.get? b=some o→b ∉ [s.heap.objs.size]∧((s.heap.push { cls:=.type "list_iterator",data:=.fields #[.ref l,.int 0 0] }).push { cls:=.type "list",data:=.seq #[] }).get? b=some o∧b≠(s.heap.push { cls:=.type "list_iterator",data:=.fields #[.ref l,.int 0 0] }).objs.size:=fun b o e=>by
    have hb:b < s.heap.objs.size:=Heap.lt_size e
    refine ⟨fun z=>?_,Heap.get?_push_of_some _ (Heap.get?_push_of_some _ e),?_⟩
    · rw [List.mem_singleton.mp z] at hb; exact Nat.lt_irrefl _ hb
    · rw [Heap.size_push]; exact Nat.ne_of_lt (Nat.lt_succ_of_lt hb)
  by_cases hz:xs.size=0
  · refine wpAny_bind (wpAny_tryCatch (W.done _ _ _ (by rw [hsz,hz]; exact st1) fun h1 t1 k1=>?_))
    show wpAny _ A.in1 (rule _ >>= _) _ _ _
    refine wpAny_bind (wpAny_rule (wpAny_pure ?_))
    exact h0 hz h1 t1 fun b o e=>k1 b o (kp b o e).1 (kp b o e).2.1
  · refine wpAny_bind (wpAny_tryCatch (W.item 0 _ _ _ (by rw [hsz]; omega) st1 fun v h1 t1 hv st2 k1=>?_))
    have hS1:=k1 _ _ nS (Heap.get?_push_size _ rfl)
    show wpAny _ A.in1 (updateSeq _ (fun _=>#[v,v]) >>= _) _ _ _
    refine wpAny_bind (wpAny_updateSeq hS1 rfl ?_)
    rw [sI]
    refine wpAny_pure ⟨plainId_quiet F.plain_max_loop _,pM W _ (CmpOf.ints_gt (numAt xs) fun _ _=>intItems_at) _ hSf (xs.size - 1) 0 _ v _ (by rw [hsz]; omega) (W.frame _ _ _ st2 fun b hbf o e=>?_) hv (Heap.get?_update_self _ hS1 rfl) fun v2 h2 t2 p2 k2=>?_⟩
    · exact (Heap.get?_update_other _ _ (fun z:(s.heap.push { cls:=.type "list_iterator",data:=.fields #[.ref l,.int 0 0] }).objs.size=b=>hSf (by rw [z]; exact hbf))).trans e
    · refine h (by omega) v2 h2 t2 (by rw [hsz] at p2; exact p2) fun b o e=>k2 b o (kp b o e).1 (kp b o e).2.2 ?_
      exact (Heap.get?_update_other _ _ (Ne.symm (kp b o e).2.2)).trans (k1 b o (kp b o e).1 (kp b o e).2.1)
end
section
variable {X:Cx} {E:XK} {O:List Nat} {e a b:Expr} {ga gb:Ds→Rs PyData} {es:List Expr} {gs:Ds→Rs (List PyData)} {pos:Pos}
theorem yW {ns:List Int} (h:ns.length=0) (d:Int):(uZ ns).getD d=d:=by cases ns with | nil=>rfl | cons _ _=>simp at h
theorem eD.weak {K:PySem.W.Frag} {g:Ds→Rs PyData} {σ:St} {H:Hp} {Q Q':VK} (h:eD K E g σ H Q) (k:∀ v H',Q v H'→Q' v H'):eD K E g σ H Q':=by
  obtain ⟨A,δ,R,o⟩:=h
  refine ⟨A,δ,R,?_⟩
  cases q:g δ with
  | ok d=>rw [q] at o; exact fun v H' s1 h1=>k v H' (o v H' s1 h1)
  | rz C=>rw [q] at o; exact o
  | no=>rw [q] at o; exact o
theorem Cw {p kp:Pos} (hc:X.calm=true) (hm:X.mg "max"=none) (ha:PD X E a ga) (hb:PD X E b gb) (hg:Gl X "max":=by rfl) (he:starEach [a] X.env=[(false,eval a X.env)]:=by rfl) :
    PD X E (.Call (.Name "max" p) [a] [⟨some "default",b,kp⟩] pos) (g2 ux ga gb):=by
  have key:PE X (.Call (.Name "max" p) [a] [⟨some "default",b,kp⟩] pos) (tOp (fun x y H Q=>∃ (p:Addr) (ns:List Int) (d:Int),x=.ref p∧y=.int d∧SqL X.K H p (ns.map V.int)∧Q (.int ((uZ ns).getD d)) H) (eD X.K E ga) (eD X.K E gb)):=by
    intro pins s σ H Q I h
    refine wpAny_Call_Name_kw (kF I hg hm BJ ?_ (by decide) (by decide))
    refine callWith_kw ?_ (by rw [he]; rfl) (by rw [he]; rfl) rfl rfl
    refine thn ((fT ha iU he) pos pins s σ H (fun vs H1=>∃ x,vs=[x]∧eD X.K E gb σ H1 fun y H2=>∃ (p:Addr) (ns:List Int) (d:Int),x=.ref p∧y=.int d∧SqL X.K H2 p (ns.map V.int)∧Q (.int ((uZ ns).getD d)) H2) I
      (eD.weak h fun x H1 q=>⟨x,rfl,q⟩)) fun us s1 ⟨vs,H1,I1,r1,x,q0,q1⟩=>?_
    subst q0
    obtain ⟨u,rfl,ru⟩:=vals1 r1
    refine thn ((Cf hb DO) pos pins s1 σ H1 (fun vs H2=>∃ y,vs=[y]∧∃ (p:Addr) (ns:List Int) (d:Int),x=.ref p∧y=.int d∧SqL X.K H2 p (ns.map V.int)∧Q (.int ((uZ ns).getD d)) H2) I1
      (eD.weak q1 fun y H2 q=>⟨y,rfl,q⟩)) fun ws s2 ⟨zs,H2,I2,r2,y,q2,p,ns,d,ex,ey,hS,q3⟩=>?_
    subst q2
    obtain ⟨v,rfl,rv⟩:=vals1 r2
    subst ex ey
    obtain rfl:u=Value.ref p:=ru
    obtain ⟨td,rfl⟩:=(show ∃ t,v=Value.int d t from rv)
    obtain ⟨its,rl,pl,_⟩:=I2.list hS
    have hi:IntsAre its ns:=intsAre_of rl
    obtain ⟨xs,hx⟩:=hi.allInts.items
    have hns:ns=xs.toList.map (·.1):=by rw [← hi.numsOf,← nums_intItems,← hx]
    have hl':s2.heap.IsList p (intItems xs):=hx ▸ pl.isList
    have hnl:ns.length=xs.size:=by rw [hns,List.length_map,Array.length_toList]
    refine AS (I2.ok.hd hc) hl' (fun hz h' tk hk=>?_) fun hz v h' tk hv hk=>?_
    · rw [yW (by omega) d] at q3
      exact ⟨.int d,H2,I2.kept hk,⟨_,rfl⟩,q3⟩
    · obtain ⟨t,rfl⟩:=intItems_at hv
      obtain ⟨h1,h2⟩:=argBest_gt (numAt xs) (xs.size - 1)
      obtain ⟨m,em⟩:∃ m,uZ ns=some m:=by
        cases ns with
        | nil=>simp at hnl; omega
        | cons _ _=>exact ⟨_,rfl⟩
      have e:numAt xs (argBest (fun i j=>decide (numAt xs i > numAt xs j)) (xs.size - 1))=m:=by
        refine BN ?_ (fun b hb=>?_) em
        · rw [hns,numAt_eq]; exact getD_mem (by rw [List.length_map,Array.length_toList]; omega)
        · rw [hns] at hb
          obtain ⟨j,hj,rfl⟩:=mem_getD hb
          rw [List.length_map,Array.length_toList] at hj
          rw [← numAt_eq]; exact h2 j (by omega)
      rw [em] at q3
      exact ⟨.int m,H2,I2.kept hk,⟨_,by rw [← e]⟩,q3⟩
  exact key.imp fun σ H Q ⟨A,δ,R,o⟩=>g2.read (fun d1 d2 d x y H' A' Q' e' hA h1 h2 k=>by
    unfold ux at e'
    split at e'
    · rename_i l dd
      obtain ⟨ns,q,rfl⟩:=Option.map_eq_some_iff.mp e'
      obtain ⟨p,xs,rfl,hp,hx⟩:=h1.ofLst
      rw [cQ q] at hx
      rw [hx.ofInts] at hp
      exact ⟨p,ns,dd,rfl,h2.ofInt,SqL.of (aX _ _ hp),k _ H' (aM.refl _) c6⟩
    · cases e') R o
end
end L2
namespace L2
open PySem PySem.Spec PyProof.Rows
theorem CW {K:PySem.W.Frag} {qual:Str} {st:Stmt} {ps:List Str} {f C:Addr} {oc:Value} {od an:Option Addr} {sl:Array (Option Value)} {kV dc pm cd ct:Value}
    (hb:∀ (kV doc pm:Value) (an:Option Addr) (cdv ct:Value) (us:List Value),us.length=ps.length→bindArgs (PySem.W.fnOf "__init__" qual (g7 st) (eR st) (aG st) .none kV doc pm an cdv ct) ⟨us,[]⟩=pure (ps.zip us))
    (a:PySem.W.findIn K (.ref C) "__init__"=some (some (.ref f))) (i:PySem.W.isFn K (.ref f)=true)
    (l:K.lookup f=some ⟨oc,od,.func (PySem.W.fnOf "__init__" qual (g7 st) (eR st) (aG st) .none kV dc pm an cd ct),sl⟩)
    (c:PySem.W.codeIn K cd qual=true) (k:PySem.W.keepIn K (.ref f)=true) (mk:PySem.W.makesIn K C=true) (kc:PySem.W.keepIn K (.ref C)=true):∃ f fd,Mk K C f∧Fun K "__init__" qual st f fd∧Binds K fd ps [] :=
  have F:=Aw (st:=st) l c k
  ⟨f,_,⟨mk,a,i,kc⟩,F,F.binds hb⟩
end L2
namespace L2
open PySem PySem.Spec PyProof.Rows
theorem kQ {X:Cx} {e:Expr} {g:Ds→Rs Bool} (h:PCD X E0 e g):PTs X [e] (cD X.K E0 g):=.one h
end L2
namespace RS
open PySem
set_option genInjectivity true in
structure Er where
  every:Int
  due:Int
  late:Int
  parts:List (Int × Option Int)
noncomputable def bZ:Option Int→PyData
  | none=>.none
  | some i=>.int i
noncomputable def bJ (p:Int × Option Int):PyData:=.tuple [.int p.1,bZ p.2]
noncomputable def Er.d (e:Er):PyData:=.tuple [.int e.every,.int e.due,.int e.late,.tuple (e.parts.map bJ)]
noncomputable def av (es:List Er):PyData:=.tuple (es.map Er.d)
noncomputable def isWhole (d:PyData) (lo hi:Int):Bool:=match d with
  | .int i=>decide (lo≤i) && decide (i≤hi)
  | _=>false
noncomputable def c4 (d:PyData) (lo hi:Int):Bool:=match d with
  | .tuple ds=>decide (lo≤(ds.length:Int)) && decide ((ds.length:Int)≤hi)
  | _=>false
noncomputable def dD (d:PyData):Bool:=match d with
  | .tuple [a,b]=>isWhole a 1 20 && (match b with | .none=>true | b=>isWhole b 0 3)
  | _=>false
noncomputable def ja (ds:List PyData):Bool:=match ds.getLast? with
  | some (.tuple [_,.none])=>true
  | _=>false
noncomputable def eC (d:PyData):Bool:=match d with
  | .tuple ds=>decide (1≤ds.length) && decide (ds.length≤4) && ds.all dD && ja ds
  | _=>false
noncomputable def b6 (d:PyData):Bool:=match d with
  | .tuple [.int e,du,.int l,ps]=>decide (2≤e) && decide (e≤60) && (decide (0≤l) && decide (l≤(if e - 1 < 20 then e - 1 else 20))) && isWhole du 1 (e - l) && eC ps
  | _=>false
noncomputable def cJ (d:PyData):Bool:=match d with
  | .tuple ds=>decide (1≤ds.length) && decide (ds.length≤6) && ds.all b6
  | _=>false
structure Er.Ok (e:Er):Prop where
  e1:2≤e.every
  e2:e.every≤60
  l1:0≤e.late
  l2:e.late≤20
  l3:e.late < e.every
  d1:1≤e.due
  d2:e.due≤e.every - e.late
  p1:e.parts≠[]
  p2:e.parts.length≤4
  pl:∀ p∈e.parts,1≤p.1∧p.1≤20∧∀ t,p.2=some t→0≤t∧t≤3
  la:∀ p,e.parts.getLast?=some p→p.2=none
theorem zy {p:Int × Option Int} (h1:1≤p.1) (h2:p.1≤20) (h3:∀ t,p.2=some t→0≤t∧t≤3):dD (bJ p)=true:=by
  obtain ⟨l,t⟩:=p
  cases t with
  | none=>simp [dD,bJ,bZ,isWhole,h1,h2]
  | some t =>
    obtain ⟨a,b⟩:=h3 t rfl
    simp [dD,bJ,bZ,isWhole,h1,h2,a,b]
theorem uf {e:Er} (h:e.Ok):b6 e.d=true:=by
  have hp:(e.parts.map bJ).all dD=true:=by
    rw [List.all_eq_true]
    intro d hd
    obtain ⟨p,hp,rfl⟩:=List.mem_map.mp hd
    obtain ⟨a,b,c⟩:=h.pl p hp
    exact zy a b c
  have hl:ja (e.parts.map bJ)=true:=by
    unfold ja
    rw [List.getLast?_map]
    cases q:e.parts.getLast? with
    | none=>exact absurd (List.getLast?_eq_none_iff.mp q) h.p1
    | some p =>
      obtain ⟨l,t⟩:=p
      have:t=none:=h.la _ q
      subst this
      rfl
  have hn:1≤e.parts.length:=by
    cases q:e.parts with
    | nil=>exact absurd q h.p1
    | cons _ _=>simp
  have h1:=h.e1; have h2:=h.e2; have h3:=h.l1; have h4:=h.l2; have h5:=h.l3; have h6:=h.d1; have h7:=h.d2; have h8:=h.p2
  have hl2:e.late≤if e.every - 1 < 20 then e.every - 1 else 20:=by split <;> omega
  simp [b6,Er.d,eC,isWhole,hp,hl,hn,h1,h2,h3,h6,h7,h8,hl2]
theorem fG {es:List Er} (h1:1≤es.length) (h2:es.length≤6) (h:∀ e∈es,e.Ok):cJ (av es)=true:=by
  have hp:(es.map Er.d).all b6=true:=by
    rw [List.all_eq_true]
    intro d hd
    obtain ⟨e,he,rfl⟩:=List.mem_map.mp hd
    exact uf (h e he)
  simp [cJ,av,h1,h2,hp]
noncomputable def cellAt (ns:List Int) (k:Int):Int :=
  if k < (ns.length:Int) then ns.getD k.toNat 0 else if ns=[] then 0 else ns.getD (k % (ns.length:Int)).toNat 0 * 31 + k
noncomputable def zx (ns:List Int) (k:Int):Int:=(cellAt ns k + 7919 * k + 1) * 48271 % 2147483647
noncomputable def mixed (ns:List Int) (k many:Int):Int:=(zx ns k * zx ns k + 7 * zx ns k + k) % 2147483629 % many
theorem Cg (ns:List Int) (k:Int):0≤zx ns k:=Int.emod_nonneg _ (by decide)
theorem C1 (ns:List Int) (k:Int):zx ns k < 2147483647:=Int.emod_lt_of_pos _ (by decide)
theorem dq (ns:List Int) (k:Int) {many:Int} (h:0 < many):0≤mixed ns k many:=Int.emod_nonneg _ (by omega)
theorem dC (ns:List Int) (k:Int) {many:Int} (h:0 < many):mixed ns k many < many:=Int.emod_lt_of_pos _ h
noncomputable def lz (i:Int):Option Int:=if i=0 then some 0 else if i=1 then some 1 else if i=2 then some 1 else if i=3 then some 0 else none
noncomputable def fk (ns:List Int) (j:Int) (tools:Bool):Int × Option Int:=(1 + mixed ns j 40 % 4,if tools then lz (mixed ns j 40 / 4 % 5) else none)
noncomputable def iR (ns:List Int) (at' every:Int):Int :=
  if every - 1 < mixed ns (at' + 1) 4 * (if mixed ns (at' + 2) 3=0 then 1 else 0) then every - 1 else mixed ns (at' + 1) 4 * (if mixed ns (at' + 2) 3=0 then 1 else 0)
noncomputable def nW (ns:List Int) (at' due:Int):Int:=if mixed ns (at' + 1) 3=0 then due - mixed ns (at' + 2) due else due
noncomputable def mkE (ns:List Int) (at' top:Int) (tools:Bool):Er where
  every:=3 + mixed ns at' top
  late:=iR ns at' (3 + mixed ns at' top)
  due:=nW ns at' (3 + mixed ns at' top - iR ns at' (3 + mixed ns at' top))
  parts:=((List.range (mixed ns (at' + 3) 3).toNat).map fun (k:Nat)=>fk ns (at' + 4 + (k:Int)) tools)++[(1 + mixed ns (at' + 6) 3,none)]
noncomputable def oI (ns:List Int) (at' most top:Int) (tools:Bool):List Er:=(List.range (1 + mixed ns at' most).toNat).map fun (k:Nat)=>mkE ns (at' + 1 + 7 * (k:Int)) top tools
theorem uq (ns:List Int) (at' every:Int) (h:3≤every):0≤iR ns at' every∧iR ns at' every≤3∧iR ns at' every < every:=by
  have h1:=dq ns (at' + 1) (many:=4) (by decide)
  have h2:=dC ns (at' + 1) (many:=4) (by decide)
  unfold iR
  generalize mixed ns (at' + 1) 4=x at *
  by_cases hc:mixed ns (at' + 2) 3=0
  · simp only [hc,if_true,Int.mul_one]; split <;> omega
  · simp only [hc,if_false,Int.mul_zero]; split <;> omega
theorem CQ (ns:List Int) (at' due:Int) (h:1≤due):1≤nW ns at' due∧nW ns at' due≤due:=by
  have h1:=dq ns (at' + 2) (many:=due) (by omega)
  have h2:=dC ns (at' + 2) (many:=due) (by omega)
  unfold nW
  split <;> omega
theorem Ca (i t:Int) (h:lz i=some t):0≤t∧t≤1:=by
  unfold lz at h
  repeat' split at h
  all_goals (first | (cases h; decide) | cases h)
theorem zM (ns:List Int) (j:Int) (tools:Bool):1≤(fk ns j tools).1∧(fk ns j tools).1≤4∧∀ t,(fk ns j tools).2=some t→0≤t∧t≤1:=by
  have h1:0≤mixed ns j 40 % 4:=Int.emod_nonneg _ (by decide)
  have h2:mixed ns j 40 % 4 < 4:=Int.emod_lt_of_pos _ (by decide)
  refine ⟨by unfold fk; simp only; omega,by unfold fk; simp only; omega,fun t h=>?_⟩
  unfold fk at h
  simp only at h
  cases tools with
  | false=>simp at h
  | true=>simp at h; exact Ca _ _ h
theorem Ee (ns:List Int) (at' top:Int) (tools:Bool) (h1:0 < top) (h2:top≤58):(mkE ns at' top tools).Ok:=by
  have a1:=dq ns at' h1
  have a2:=dC ns at' h1
  have l:=uq ns at' (3 + mixed ns at' top) (by omega)
  have d:=CQ ns at' (3 + mixed ns at' top - iR ns at' (3 + mixed ns at' top)) (by omega)
  have n1:=dq ns (at' + 3) (many:=3) (by decide)
  have n2:=dC ns (at' + 3) (many:=3) (by decide)
  have n3:=dq ns (at' + 6) (many:=3) (by decide)
  have n4:=dC ns (at' + 6) (many:=3) (by decide)
  refine ⟨?_,?_,l.1,?_,l.2.2,d.1,d.2,?_,?_,?_,?_⟩
  · show 2≤3 + mixed ns at' top; omega
  · show 3 + mixed ns at' top≤60; omega
  · have:=l.2.1; show iR ns at' (3 + mixed ns at' top)≤20; omega
  · simp [mkE]
  · simp only [mkE,List.length_append,List.length_map,List.length_range,List.length_singleton]; omega
  · intro p hp
    simp only [mkE,List.mem_append,List.mem_map,List.mem_singleton] at hp
    rcases hp with ⟨k,_,rfl⟩ | rfl
    · have:=zM ns (at' + 4 + (k:Int)) tools
      refine ⟨this.1,by omega,fun t ht=>?_⟩
      have:=this.2.2 t ht
      omega
    · exact ⟨by simp only; omega,by simp only; omega,fun t ht=>by cases ht⟩
  · intro p hp
    simp only [mkE,List.getLast?_append,List.getLast?_singleton,Option.some_or] at hp
    cases hp; rfl
theorem zG (ns:List Int) (at' most top:Int) (tools:Bool) (h:0 < most):1≤(oI ns at' most top tools).length∧((oI ns at' most top tools).length:Int)≤most:=by
  have h1:=dq ns at' h
  have h2:=dC ns at' h
  simp only [oI,List.length_map,List.length_range]
  omega
theorem CG (ns:List Int) (at' most top:Int) (tools:Bool) (h1:0 < top) (h2:top≤58):∀ e∈oI ns at' most top tools,e.Ok:=by
  intro e he
  simp only [oI,List.mem_map] at he
  obtain ⟨k,_,rfl⟩:=he
  exact Ee _ _ _ _ h1 h2
end RS
namespace RS
open PySem L2
structure Cs where
  RankError:Addr
  NoErrands:Addr
  NoRanks:Addr
  NoComings:Addr
  NoErrand:Addr
  NoNumber:Addr
  TooLong:Addr
  NoText:Addr
  Holding:Addr
  Jobs:Addr
noncomputable abbrev Gf:=List PyData→Rs PyData
noncomputable def a7 (K:PySem.W.Frag) (mg:Str→Option Value) (x:Str) (st:Stmt) (ps:List Str):Prop:=∃ f fd,Fun K x x st f fd∧Binds K fd ps []∧mg x=some (.ref f)
noncomputable def iA (cs:Cs):Ds→Sr :=
  (bu (sIf (cOr (jA (gT (g1 (kZ "int") (ag 0)))) (gT (g1 (kZ "bool") (ag 0)))) (bQ (gC (.bool false))) bM)
    (bQ (nK dLe dLe (ag 1) (ag 0) (ag 2))))
noncomputable def ij (cs:Cs):Ds→Sr :=
  (bQ (tq (g1 (kZ "tuple") (ag 0)) (nK dLe dLe (ag 1) (gF fc (ae (ag 0) ao)) (ag 2))))
noncomputable def gy (cs:Cs) (aQ aR:Gf):Ds→Sr :=
  (bu (sIf (cOr (jA (gT (aF aR (ae (ag 0) (ae (gC (.int 2)) (ae (gC (.int 2)) ao)))))) (jA (gT (aF aQ (ae (g2 dIx (ag 0) (gC (.int 0))) (ae (gC (.int 1)) (ae (gC (.int 20)) ao))))))) (bQ (gC (.bool false))) bM)
    (bQ (gOr (g1 oZ (g2 dIx (ag 0) (gC (.int 1)))) (aF aQ (ae (g2 dIx (ag 0) (gC (.int 1))) (ae (gC (.int 0)) (ae (g2 kW (gC (.int 4)) (gC (.int 1))) ao)))))))
noncomputable def fv (cs:Cs) (aR gf_is_part:Gf):Ds→Sr :=
  (bu (sIf (cOr (jA (gT (aF aR (ae (ag 0) (ae (gC (.int 1)) (ae (gC (.int 4)) ao)))))) (jA (gT (gF zi (ae (gL (bx 1 (cm (ag 0)) bL (aF gf_is_part (ae (ag 1) ao)) bj)) ao))))) (bQ (gC (.bool false))) bM)
    (bQ (g1 oZ (g2 dIx (g2 dIx (ag 0) (g1 qL (gC (.int 1)))) (gC (.int 1))))))
noncomputable def dJ (cs:Cs) (aQ gf_are_parts aR:Gf):Ds→Sr :=
  (bu (sIf (jA (gT (aF aR (ae (ag 0) (ae (gC (.int 4)) (ae (gC (.int 4)) ao)))))) (bQ (gC (.bool false))) bM)
    (bu (bw [] 1 (g2 dIx (ag 0) (gC (.int 0))))
    (bu (bw [] 2 (g2 dIx (ag 0) (gC (.int 1))))
    (bu (bw [] 3 (g2 dIx (ag 0) (gC (.int 2))))
    (bu (sIf (jA (gT (aF aQ (ae (ag 1) (ae (gC (.int 2)) (ae (gC (.int 60)) ao)))))) (bQ (gC (.bool false))) bM)
    (bu (sIf (jA (gT (aF aQ (ae (ag 3) (ae (gC (.int 0)) (ae (gF qa (ae (gC (.int 20)) (ae (g2 kW (ag 1) (gC (.int 1))) ao))) ao)))))) (bQ (gC (.bool false))) bM)
    (bQ (tq (aF aQ (ae (ag 2) (ae (gC (.int 1)) (ae (g2 kW (ag 1) (ag 3)) ao)))) (aF gf_are_parts (ae (g2 dIx (ag 0) (gC (.int 3))) ao))))))))))
noncomputable def g9 (cs:Cs) (aR gf_is_errand:Gf):Ds→Sr :=
  (bu (sIf (cOr (jA (gT (aF aR (ae (ag 0) (ae (gC (.int 1)) (ae (gC (.int 6)) ao)))))) (jA (gT (gF zi (ae (gL (bx 1 (cm (ag 0)) bL (aF gf_is_errand (ae (ag 1) ao)) bj)) ao))))) (qt cs.NoErrands (ae (gC (.str "errands are a tuple of 1 to 6 errands (every, due, late, parts)")) ao)) bM)
    (bQ (ag 0)))
noncomputable def nB (cs:Cs):Ds→Sr :=
  (bQ (gF zt (ae (gL (bx 1 (cm (g2 dIx (ag 0) (gC (.int 3)))) bL (g2 dIx (ag 1) (gC (.int 0))) bj)) ao)))
noncomputable def ib (cs:Cs):Ds→Sr :=
  (bQ (g2 (gG false) (ag 1) (gL (bx 2 (cm (g2 dIx (ag 0) (gC (.int 3)))) bL (g2 dIx (ag 2) (gC (.int 1))) bj))))
noncomputable def j4 (cs:Cs) (a6:Gf):Ds→Sr :=
  (bu (gu [] (iG (ae (ag 1) ao)) (e8 [3,4]) (sIf (gT (aF a6 (ae (g2 dIx (ag 0) (ag 4)) (ae (ag 2) ao)))) (bQ (ag 3)) bM))
    (bQ (gC .none)))
noncomputable def fI (cs:Cs) (cI:Gf):Ds→Sr :=
  (bQ (gL (bx 2 (cZ (ae (gC (.int 4)) ao)) bL (aF cI (ae (ag 0) (ae (ag 1) (ae (ag 2) ao)))) bj)))
noncomputable def hV (cs:Cs) (bT:Gf):Ds→Sr :=
  (bu (bw [5] 3 (wO (ag 1) (ag 2)))
    (bu (bw [5] 4 (aF bT (ae (ag 0) (ae (ag 1) ao))))
    (bu (kD [5] 5 ao)
    (bu (gu [5] (cm (c5 (ag 1) (eZ (g2 bz (ag 3) (gC (.int 1)))) cA)) (bK 6) (gu [5] (iG (ae (g2 dIx (g2 dIx (ag 0) (ag 6)) (gC (.int 3))) ao)) (e8 [7,8]) (sIf (uU (gT (g1 e7 (g2 dIx (ag 8) (gC (.int 1))))) (gT (g2 dLe (g2 dIx (ag 4) (g2 dIx (ag 8) (gC (.int 1)))) (ag 3)))) (iT [5] 5 (aF (uF cs.Holding ["number", "part", "tool", "times"]) (ae (ag 6) (ae (ag 7) (ae (g2 dIx (ag 8) (gC (.int 1))) (ae (g2 kW (g2 dIx (ag 8) (gC (.int 0))) (gC (.int 1))) ao)))))) bM)))
    (bQ (ag 5))))))
noncomputable def eL (cs:Cs) (cc:Gf):Ds→Sr :=
  (bQ (g2 ux (gL (bx 3 (cm (aF cc (ae (ag 0) (ae (ag 1) (ae (ag 2) ao))))) bL (g1 (pB cs.Holding "times") (ag 3)) bj)) (gC (.int 0))))
noncomputable def f7 (cs:Cs):Ds→Sr :=
  (bQ (g2 vI (g2 kW (g2 bz (ag 0) (ag 1)) (gC (.int 1))) (ag 1)))
noncomputable def qd (cs:Cs) (gf_work_of bG:Gf):Ds→Sr :=
  (bu (bw [] 5 (g2 bz (ag 3) (aF gf_work_of (ae (g2 dIx (ag 0) (ag 2)) ao))))
    (bu (gu [] (cm (c5 (ag 1) cA (eZ (wO (ag 1) (ag 2))))) (bK 6) (bu (bw [] 7 (g2 dIx (ag 0) (ag 6)))
    (w5 [] 5 (g2 lJ (aF gf_work_of (ae (ag 7) ao)) (aF bG (ae (g2 bz (ag 4) (g2 dIx (ag 7) (gC (.int 2)))) (ae (g2 dIx (ag 7) (gC (.int 0))) ao)))))))
    (bQ (ag 5))))
noncomputable def gQ (cs:Cs) (cH:Gf):Ds→Sr :=
  (bu (bw [5] 4 (g2 kW (g2 dIx (g2 dIx (ag 0) (ag 2)) (gC (.int 0))) (g2 dIx (g2 dIx (ag 0) (ag 2)) (gC (.int 2)))))
    (bu (kD [5] 5 ao)
    (bu (bw [5] 6 (aF cH (ae (ag 0) (ae (ag 1) (ae (ag 2) (ae (ag 3) (ae (gC (.int 1)) ao)))))))
    (bu (fun δ=>dZ (gT (g2 dLe (ag 6) (ag 4))) (bu (iT [5] 5 (ag 6))
    (bu (bw [5] 7 (aF cH (ae (ag 0) (ae (ag 1) (ae (ag 2) (ae (ag 3) (ae (ag 6) ao)))))))
    (bu (sIf (gT (g2 dEq (ag 7) (ag 6))) (bQ (ag 5)) bM)
    (bw [5] 6 (ag 7))))) 1000000 δ)
    (bQ (gC .none))))))
noncomputable def eO (cs:Cs) (b8:Gf):Ds→Sr :=
  (bu (bw [] 4 (aF b8 (ae (ag 0) (ae (ag 1) (ae (ag 2) (ae (ag 3) ao))))))
    (bQ (gIf (gT (g1 oZ (ag 4))) (gC .none) (g2 dIx (ag 4) (g1 qL (gC (.int 1)))))))
noncomputable def de (cs:Cs) (bI bX:Gf):Ds→Sr :=
  (bQ (aF bX (ae (ag 0) (ae (ag 1) (ae (ag 2) (ae (aF bI (ae (ag 0) (ae (ag 1) (ae (ag 2) ao)))) ao))))))
noncomputable def gv (cs:Cs) (bp:Gf):Ds→Sr :=
  (bu (bw [] 4 (aF bp (ae (ag 0) (ae (ag 1) (ae (ag 2) ao)))))
    (bQ (tq (g1 e7 (ag 4)) (g2 dLe (g2 bz (ag 4) (ag 3)) (g2 dIx (g2 dIx (ag 0) (ag 2)) (gC (.int 1)))))))
noncomputable def fJ (cs:Cs) (au:Gf):Ds→Sr :=
  (bu (bw [7] 4 (g2 bz (gC (.int 3)) (aF au (ae (ag 0) (ae (ag 1) (ae (ag 2) ao))))))
    (bu (bw [7] 5 (g2 lJ (aF au (ae (ag 0) (ae (g2 bz (ag 1) (gC (.int 1))) (ae (gC (.int 4)) ao)))) (gF tX (ae (g2 dEq (aF au (ae (ag 0) (ae (g2 bz (ag 1) (gC (.int 2))) (ae (gC (.int 3)) ao)))) (gC (.int 0))) ao))))
    (bu (bw [7] 5 (gF qa (ae (ag 5) (ae (g2 kW (ag 4) (gC (.int 1))) ao))))
    (bu (bw [7] 6 (g2 kW (ag 4) (ag 5)))
    (bu (sIf (gT (g2 dEq (aF au (ae (ag 0) (ae (g2 bz (ag 1) (gC (.int 1))) (ae (gC (.int 3)) ao)))) (gC (.int 0)))) (bw [7] 6 (g2 kW (ag 6) (aF au (ae (ag 0) (ae (g2 bz (ag 1) (gC (.int 2))) (ae (ag 6) ao)))))) bM)
    (bu (kD [7] 7 ao)
    (bu (gu [7] (cZ (ae (aF au (ae (ag 0) (ae (g2 bz (ag 1) (gC (.int 3))) (ae (gC (.int 3)) ao)))) ao)) (bK 8) (bu (bw [7] 9 (aF au (ae (ag 0) (ae (g2 bz (g2 bz (ag 1) (gC (.int 4))) (ag 8)) (ae (gC (.int 40)) ao)))))
    (bu (iT [7] 7 (kf (ae (g2 bz (gC (.int 1)) (g2 qK (ag 9) (gC (.int 4)))) (ae (g2 dIx (dE (ae (gC (.int 0)) (ae (gC (.int 1)) (ae (gC (.int 1)) (ae (gC (.int 0)) (ae (gC .none) ao)))))) (g2 qK (g2 vI (ag 9) (gC (.int 4))) (gC (.int 5)))) ao))))
    (sIf (jA (gT (ag 3))) (ze 7 (g1 qL (gC (.int 1))) (kf (ae (g2 dIx (g2 dIx (ag 7) (g1 qL (gC (.int 1)))) (gC (.int 0))) (ae (gC .none) ao)))) bM))))
    (bQ (kf (ae (ag 4) (ae (ag 6) (ae (ag 5) (ae (gF fS (ae (g2 bz (ag 7) (dE (ae (kf (ae (g2 bz (gC (.int 1)) (aF au (ae (ag 0) (ae (g2 bz (ag 1) (gC (.int 6))) (ae (gC (.int 3)) ao))))) (ae (gC .none) ao))) ao))) ao)) ao)))))))))))))
noncomputable def ff (cs:Cs) (bP au:Gf):Ds→Sr :=
  (bu (bw [] 5 (g2 bz (gC (.int 1)) (aF au (ae (ag 0) (ae (ag 1) (ae (ag 2) ao))))))
    (bQ (gF fS (ae (gL (bx 6 (cZ (ae (ag 5) ao)) bL (aF bP (ae (ag 0) (ae (g2 bz (g2 bz (ag 1) (gC (.int 1))) (g2 lJ (gC (.int 7)) (ag 6))) (ae (ag 3) (ae (ag 4) ao))))) bj)) ao))))
noncomputable def pX (cs:Cs):Ds→Sr :=
  (bQ (gF zt (ae (gL (bx 1 (cm (g2 dIx (ag 0) (gC (.int 3)))) bL (g2 dIx (ag 1) (gC (.int 0))) bj)) ao)))
end RS
set_option maxRecDepth 100000
set_option maxHeartbeats 1000000
namespace RS
open PySem L2
theorem Ck {O:List Nat} {δ:Ds} {i:Nat} (h:i ∉ O):(mask O δ)[i]?=δ[i]?:=by
  unfold mask
  by_cases z:O=[]
  · rw [if_pos z]
  · rw [if_neg z,List.getElem?_mapIdx]
    cases δ[i]? with
    | none=>rfl
    | some d=>simp [h]
theorem aB {O:List Nat} {δ:Ds} {i:Nat} (h:i ∉ O):ag i (mask O δ)=ag i δ:=by unfold ag; rw [Ck h]
@[simp] theorem ar (d:PyData) (δ:Ds):ag 0 (some d::δ)=.ok d:=rfl
@[simp] theorem aw (i:Nat) (x:Option PyData) (δ:Ds):ag (i + 1) (x::δ)=ag i δ:=rfl
@[simp] theorem d4 (d:PyData) (δ:Ds):gC d δ=.ok d:=rfl
@[simp] theorem nP (f:PyData→Option PyData) (a:Ds→Rs PyData) (δ:Ds):g1 f a δ=(a δ).bind fun x=>Rs.f9 (f x):=rfl
@[simp] theorem cq (f:PyData→PyData→Option PyData) (a b:Ds→Rs PyData) (δ:Ds):g2 f a b δ=(a δ).bind fun x=>(b δ).bind fun y=>Rs.f9 (f x y):=rfl
@[simp] theorem g6 (f:List PyData→Option PyData) (a:Ds→Rs (List PyData)) (δ:Ds):gF f a δ=(a δ).bind fun x=>Rs.f9 (f x):=rfl
@[simp] theorem aO (δ:Ds):ao δ=.ok []:=rfl
@[simp] theorem aC (a:Ds→Rs PyData) (r:Ds→Rs (List PyData)) (δ:Ds):ae a r δ=(a δ).bind fun x=>(r δ).bind fun xs=>.ok (x::xs):=rfl
@[simp] theorem tR (a:Ds→Rs (List PyData)) (δ:Ds):kf a δ=(a δ).bind fun ds=>.ok (.tuple ds):=rfl
@[simp] theorem g0 (a:Ds→Rs (List PyData)) (δ:Ds):dE a δ=(a δ).bind fun ds=>.ok (.list ds):=rfl
@[simp] theorem a9 (f:Gf) (a:Ds→Rs (List PyData)) (δ:Ds):aF f a δ=(a δ).bind f:=rfl
@[simp] theorem eu (a:Ds→Rs PyData) (δ:Ds):gT a δ=(a δ).bind truth:=rfl
@[simp] theorem bA (b:Bool):truth (.bool b)=.ok b:=rfl
@[simp] theorem qE (a:Ds→Rs Bool) (δ:Ds):jA a δ=(a δ).bind fun b=>.ok (!b):=rfl
@[simp] theorem xk (a b:Ds→Rs Bool) (δ:Ds):uU a b δ=(a δ).bind fun x=>if x=true then b δ else .ok false:=rfl
@[simp] theorem C7 (a b:Ds→Rs Bool) (δ:Ds):cOr a b δ=(a δ).bind fun x=>if x=true then .ok true else b δ:=rfl
@[simp] theorem DH (a b:Ds→Rs PyData) (δ:Ds):tq a b δ=(a δ).bind fun x=>(truth x).bind fun t=>if t=true then b δ else .ok (.bool false):=rfl
@[simp] theorem Gs (a b:Ds→Rs PyData) (δ:Ds):gOr a b δ=(a δ).bind fun x=>(truth x).bind fun t=>if t=true then .ok (.bool true) else b δ:=rfl
@[simp] theorem FU (a:Ds→Rs PyData) (δ:Ds):Gg a δ=(a δ).bind fun x=>(truth x).bind fun t=>.ok (.bool (!t)):=rfl
@[simp] theorem jx (a:Ds→Rs (List PyData)) (δ:Ds):gL a δ=(a δ).bind fun ds=>.ok (.list ds):=rfl
@[simp] theorem nu (a:Ds→Rs PyData) (δ:Ds):cm a δ=(a δ).bind yo:=rfl
@[simp] theorem FW (ds:List PyData):yo (.list ds)=.ok ds:=rfl
@[simp] theorem tf (ds:List PyData):yo (.tuple ds)=.ok ds:=rfl
@[simp] theorem gI (a:Ds→Rs (List PyData)) (δ:Ds):cZ a δ=(a δ).bind BR:=rfl
@[simp] theorem FO (a:Ds→Rs (List PyData)) (δ:Ds):EU a δ=(a δ).bind Fi:=rfl
@[simp] theorem FP (a:Ds→Rs (List PyData)) (δ:Ds):E9 a δ=(a δ).bind Fh:=rfl
@[simp] theorem E2 (a:Ds→Rs (List PyData)) (δ:Ds):gLR a δ=(a δ).bind sL:=rfl
@[simp] theorem oV (a:Ds→Rs (List PyData)) (δ:Ds):iG a δ=(a δ).bind pD:=rfl
@[simp] theorem xw (ds:List PyData):pD [.list ds]=.ok (gg ds):=rfl
@[simp] theorem xI (ds:List PyData):pD [.tuple ds]=.ok (gg ds):=rfl
@[simp] theorem Fs (f f':PyData→PyData→Option PyData) (a b c:Ds→Rs PyData) (δ:Ds):nK f f' a b c δ=(a δ).bind fun x=>(b δ).bind fun y=>(Rs.f9 (f x y)).bind fun z=>(truth z).bind fun t=>if t=true then (c δ).bind fun w=>Rs.f9 (f' y w) else .ok (.bool false):=rfl
@[simp] theorem nr (δ:Ds):cA δ=.ok none:=rfl
@[simp] theorem tS (g:Ds→Rs PyData) (δ:Ds):eZ g δ=(g δ).bind zL:=rfl
@[simp] theorem sN (i:Int):zL (.int i)=.ok (some i):=rfl
@[simp] theorem pO (g:Ds→Rs PyData) (lo hi:Ds→Rs (Option Int)) (δ:Ds):c5 g lo hi δ=(g δ).bind fun d=>(lo δ).bind fun l=>(hi δ).bind fun h=>Rs.f9 (v5 d l h):=rfl
@[simp] theorem xa (x:List PyData) (lo hi:Option Int):v5 (.list x) lo hi=some (.list (cutD x lo hi)):=rfl
@[simp] theorem AK (x:List PyData) (lo hi:Option Int):v5 (.tuple x) lo hi=some (.tuple (cutD x lo hi)):=rfl
@[simp] theorem aV (a b:Ds→Sr) (δ:Ds):bu a b δ=match a δ with | .nx δ'=>b δ' | r=>r:=rfl
@[simp] theorem ee (δ:Ds):bM δ=.nx δ:=rfl
@[simp] theorem dz (c:Ds→Rs Bool) (a b:Ds→Sr) (δ:Ds):sIf c a b δ=ofR (c δ) fun t=>if t=true then a δ else b δ:=rfl
@[simp] theorem cx (g:Ds→Rs PyData) (δ:Ds):bQ g δ=ofR (g δ) .rt:=rfl
@[simp] theorem xD (g:Ds→Rs PyData) (δ:Ds):uc g δ=ofR (g δ) fun _=>.nx δ:=rfl
@[simp] theorem ej (i:Nat) (g:Ds→Rs PyData) (δ:Ds):bw [] i g δ=if i < δ.length then ofR (g δ) fun d=>.nx (δ.set i (some d)) else .no:=by unfold bw; rw [eM]
@[simp] theorem zS (C:Addr) (gs:Ds→Rs (List PyData)) (δ:Ds):qt C gs δ=ofR (gs δ) fun _=>.rz C:=rfl
theorem dR (O:List Nat) (src:Ds→Rs (List PyData)) (tgt:PyData→Ds→Option Ds) (body:Ds→Sr) (δ:Ds):gu O src tgt body δ=ofR (src (mask O δ)) fun ds=>forL tgt body ds δ:=rfl
@[simp] theorem cf (d:PyData):bf (.rt d)=.ok d:=rfl
@[simp] theorem EL (δ:Ds):bf (.nx δ)=.ok .none:=rfl
@[simp] theorem yX (C:Addr):bf (.rz C)=.rz C:=rfl
@[simp] theorem EM:bf .no=.no:=rfl
@[simp] theorem gP (a b:Int):bz (.int a) (.int b)=some (.int (a + b)):=rfl
@[simp] theorem rn (a b:Int):kW (.int a) (.int b)=some (.int (a - b)):=rfl
@[simp] theorem E7 (a b:Int):qK (.int a) (.int b)=if 0 < b then some (.int (a % b)) else none:=rfl
@[simp] theorem Dc (a b:Int):vI (.int a) (.int b)=if 0 < b∧b < 1073741824 then some (.int (a / b)) else none:=rfl
@[simp] theorem Gy (a b:Int):dLt (.int a) (.int b)=some (.bool (decide (a < b))):=rfl
@[simp] theorem Gn (a b:Int):dLe (.int a) (.int b)=some (.bool (decide (a≤b))):=rfl
@[simp] theorem Gz (a b:Int):dGt (.int a) (.int b)=some (.bool (decide (b < a))):=rfl
@[simp] theorem Gx (a b:Int):dGe (.int a) (.int b)=some (.bool (decide (b≤a))):=rfl
@[simp] theorem FN (a:Int):qL (.int a)=some (.int (-a)):=rfl
@[simp] theorem yn (d:PyData):oZ d=some (.bool (dO d)):=rfl
@[simp] theorem sO (d:PyData):e7 d=some (.bool (!dO d)):=rfl
@[simp] theorem pR:dO .none=true:=rfl
@[simp] theorem yT (i:Int):dO (.int i)=false:=rfl
@[simp] theorem ya (x:List PyData) (i:Int):dIx (.tuple x) (.int i)=atI x i:=rfl
@[simp] theorem Au (x:List PyData) (i:Int):dIx (.list x) (.int i)=atI x i:=rfl
@[simp] theorem vL (x:List PyData):fc [.tuple x]=some (.int x.length):=rfl
@[simp] theorem tD (x:List PyData):fc [.list x]=some (.int x.length):=rfl
@[simp] theorem Eo (a b:Int):qa [.int a,.int b]=some (.int (if b < a then b else a)):=rfl
@[simp] theorem FV (a b:Int):FE [.int a,.int b]=some (.int (if b > a then b else a)):=rfl
@[simp] theorem Av (b:Bool):tX [.bool b]=some (.int (if b then 1 else 0)):=rfl
@[simp] theorem vS (x:List PyData):fS [.list x]=some (.tuple x):=rfl
@[simp] theorem Gm (x:List PyData):fS [.tuple x]=some (.tuple x):=rfl
@[simp] theorem lq (a b:Int):dEq (.int a) (.int b)=some (.bool (a == b)):=by
  have h:∀ i:Int,PySem.SeqAt.shaped (.int i)=true:=fun i=>by simp [PySem.SeqAt.shaped,PyData.canLay0,PyData.depth]
  unfold dEq; rw [h,h]; simp [bU,PyData.eqv]
@[simp] theorem Fd (a b:Int):dNe (.int a) (.int b)=some (.bool (!(a == b))):=by
  have h:∀ i:Int,PySem.SeqAt.shaped (.int i)=true:=fun i=>by simp [PySem.SeqAt.shaped,PyData.canLay0,PyData.depth]
  unfold dNe; rw [h,h]; simp [bU,PyData.eqv]
theorem nM {α:Type} {xs:List α} {i:Int} {j:Nat} (h:i=j):atI xs i=xs[j]?:=by
  subst h
  unfold atI ixN
  by_cases z:(j:Int) < xs.length
  · rw [if_pos (by omega),if_pos z]; simp
  · rw [if_pos (by omega),if_neg z]
    simp; omega
@[simp] theorem Gw {α:Type} (xs:List α):atI xs 0=xs[0]?:=nM (j:=0) rfl
@[simp] theorem GA {α:Type} (xs:List α):atI xs 1=xs[1]?:=nM (j:=1) rfl
@[simp] theorem Gu {α:Type} (xs:List α):atI xs 2=xs[2]?:=nM (j:=2) rfl
@[simp] theorem Gv {α:Type} (xs:List α):atI xs 3=xs[3]?:=nM (j:=3) rfl
theorem m8 {α:Type} (xs:List α):atI xs (-1)=xs.getLast?:=by
  unfold atI ixN
  rw [if_neg (by decide)]
  by_cases z:xs=[]
  · subst z; rfl
  · have:0 < xs.length:=List.length_pos_iff.mpr z
    rw [if_pos (by omega),List.getLast?_eq_getElem?]
    simp only [Option.bind_some]
    congr 1
    omega
theorem uP {α:Type} (g:α→Bool) (xs:List α):zi [.list (xs.map fun d=>.bool (g d))]=some (.bool (xs.all g)):=by
  have hb:gA (xs.map fun d=>PyData.bool (g d))=some (xs.map g):=by
    rw [show (xs.map fun d=>PyData.bool (g d))=(xs.map g).map PyData.bool by rw [List.map_map]; rfl]
    exact l5 _
  show (gA (xs.map fun d=>PyData.bool (g d))).map (fun ns=>PyData.bool (ns.all id))=_
  rw [hb,Option.map_some,List.all_map]; rfl
theorem Ai {α:Type} (g:α→Int) (xs:List α):zt [.list (xs.map fun d=>.int (g d))]=some (.int (xs.map g).sum):=by
  have hb:fg (xs.map fun d=>PyData.int (g d))=some (xs.map g):=by
    rw [show (xs.map fun d=>PyData.int (g d))=(xs.map g).map PyData.int by rw [List.map_map]; rfl]
    exact b4 _
  show (fg (xs.map fun d=>PyData.int (g d))).map (fun ns=>PyData.int ns.sum)=_
  rw [hb,Option.map_some]
theorem comp_map {elt:Ds→Rs PyData} {δ:Ds} {f:PyData→PyData}:∀ (ds:List PyData),(∀ d∈ds,elt (δ++[some d])=.ok (f d))→fZ bL elt bj δ ds=.ok (ds.map f)
  | [],_=>rfl
  | d::r,h=>by
    unfold fZ
    simp only [bj,bL,Rs.gM,Rs.ai,if_true,h d List.mem_cons_self,comp_map r fun e he=>h e (List.mem_cons_of_mem _ he),List.map_cons]
theorem cU {n0:Nat} {src:Ds→Rs (List PyData)} {elt:Ds→Rs PyData} {δ:Ds} {f:PyData→PyData} {ds:List PyData} (hn:δ.length=n0) (hs:src δ=.ok ds) (hl:ds.length≤1000000) (h:∀ d∈ds,elt (δ++[some d])=.ok (f d)) :
    bx n0 src bL elt bj δ=.ok (ds.map f):=by
  unfold bx
  rw [if_pos hn,hs]
  simp only [Rs.ai,if_pos hl]
  exact comp_map ds h
theorem pE:∀ {ds:List PyData},iP ds=true→∀ d∈ds,bU d=true
  | [],_,d,hd=>by cases hd
  | e::r,h,d,hd=>by
    unfold iP at h
    obtain ⟨h1,h2⟩:=Bool.and_eq_true_iff.mp h
    rcases List.mem_cons.mp hd with z | z
    · rw [z]; exact h1
    · exact pE h2 d z
theorem fu {ds:List PyData} (h:bU (.tuple ds)=true):∀ d∈ds,bU d=true:=by
  unfold bU at h; exact pE h
end RS
set_option maxRecDepth 100000
set_option maxHeartbeats 1000000
namespace RS
open PySem L2
noncomputable def aQ:Gf
  | [d,.int a,.int b]=>if bU d then .ok (.bool (isWhole d a b)) else .no
  | _=>.no
theorem sV {f:PyData→Int→Int→Rs PyData} {ds:List PyData} (h:(match ds with | [x0,.int x1,.int x2]=>f x0 x1 x2 | _=>.no)≠.no):∃ x0 x1 x2,ds=[x0,.int x1,.int x2]∧f x0 x1 x2≠.no:=by
  rcases ds with _ | ⟨x0,_ | ⟨x1,_ | ⟨x2,_ | ⟨y,ys⟩⟩⟩⟩
  · exact absurd rfl h
  · exact absurd rfl h
  · first | exact absurd rfl h | (cases x1 <;> exact absurd rfl h)
  · skip
    cases x1 with
    | int x1 =>
      cases x2 with
      | int x2 =>
        exact ⟨_,_,_,rfl,h⟩
      | _=>exact absurd rfl h
    | _=>first | exact absurd rfl h | (cases x2 <;> exact absurd rfl h)
  · first | exact absurd rfl h | (cases x1 <;> first | exact absurd rfl h | (cases x2 <;> exact absurd rfl h))
theorem vQ (cs:Cs):∀ ds,ds.length=3→aQ ds≠.no→bf (iA cs (ds.map some++List.replicate 0 none))=aQ ds:=by
  intro ds hl hne
  obtain ⟨d,a,b,ez,hz⟩:=sV hne
  clear hne; subst ez; have hne:=hz; clear hz
  unfold aQ
  · skip
    split at hne
    · rename_i hd
      simp only [hd,if_true]
      cases d with
      | int i=>by_cases h:a≤i <;> simp [iA,kZ,hd,sF,tyD,isWhole,h]
      | dict _=>simp [bU] at hd
      | _=>simp [iA,kZ,hd,sF,tyD,isWhole]
    · exact absurd rfl hne
noncomputable def aR:Gf
  | [d,.int a,.int b]=>if bU d then .ok (.bool (c4 d a b)) else .no
  | _=>.no
theorem wQ (cs:Cs):∀ ds,ds.length=3→aR ds≠.no→bf (ij cs (ds.map some++List.replicate 0 none))=aR ds:=by
  intro ds hl hne
  obtain ⟨d,a,b,ez,hz⟩:=sV hne
  clear hne; subst ez; have hne:=hz; clear hz
  unfold aR
  · skip
    split at hne
    · rename_i hd
      simp only [hd,if_true]
      cases d with
      | tuple x=>by_cases h:a≤(x.length:Int) <;> simp [ij,kZ,hd,sF,tyD,c4,h]
      | dict _=>simp [bU] at hd
      | _=>simp [ij,kZ,hd,sF,tyD,c4]
    · exact absurd rfl hne
noncomputable def g5 (g:PyData→Bool):Gf
  | [d]=>if bU d then .ok (.bool (g d)) else .no
  | _=>.no
theorem o6 {g:PyData→Bool} {ds:List PyData} (h:g5 g ds≠.no):∃ d,ds=[d]∧bU d=true∧g5 g ds=.ok (.bool (g d)):=by
  unfold g5 at h ⊢
  split at h
  · rename_i d
    split at h
    · rename_i hd; exact ⟨d,rfl,hd,by simp [hd]⟩
    · exact absurd rfl h
  · exact absurd rfl h
theorem qh {g:PyData→Bool} {d:PyData} (h:bU d=true):g5 g [d]=.ok (.bool (g d)):=by unfold g5; simp [h]
@[simp] theorem EN {d:PyData} {a b:Int} (h:bU d=true):aR [d,.int a,.int b]=.ok (.bool (c4 d a b)):=by unfold aR; simp [h]
@[simp] theorem Di {d:PyData} {a b:Int} (h:bU d=true):aQ [d,.int a,.int b]=.ok (.bool (isWhole d a b)):=by unfold aQ; simp [h]
theorem uL {d:PyData} (h:c4 d 2 2=true):∃ a b,d=.tuple [a,b]:=by
  cases d with
  | tuple ds =>
    simp [c4] at h
    match ds,h with
    | [a,b],_=>exact ⟨a,b,rfl⟩
    | [],h=>simp at h
    | [_],h=>simp at h
    | _::_::_::_,h=>simp at h; omega
  | _=>cases h
theorem yJ (cs:Cs):∀ ds,ds.length=1→g5 dD ds≠.no→bf (gy cs aQ aR (ds.map some++List.replicate 0 none))=g5 dD ds:=by
  intro ds hl hne
  obtain ⟨d,rfl,hd,e⟩:=o6 hne
  rw [e]
  cases e1:c4 d 2 2 with
  | false =>
    have:dD d=false:=by
      unfold dD
      split
      · simp [c4] at e1
      · rfl
    simp [gy,hd,e1,this]
  | true =>
    obtain ⟨a,b,rfl⟩:=uL e1
    have ha:=fu hd a (by simp)
    have hb:=fu hd b (by simp)
    cases e2:isWhole a 1 20 with
    | false=>simp [gy,hd,ha,e1,e2,dD]
    | true =>
      cases b with
      | none=>simp [gy,hd,ha,e1,e2,dD]
      | _=>simp [gy,hd,ha,hb,e1,e2,dD,dO]
theorem vk (cs:Cs):∀ ds,ds.length=1→g5 eC ds≠.no→bf (fv cs aR (g5 dD) (ds.map some++List.replicate 0 none))=g5 eC ds:=by
  intro ds hl hne
  obtain ⟨d,rfl,hd,e⟩:=o6 hne
  rw [e]
  cases e1:c4 d 1 4 with
  | false =>
    have:eC d=false:=by
      cases d with
      | tuple ds =>
        simp only [c4,Bool.and_eq_false_iff,decide_eq_false_iff_not] at e1
        simp only [eC,Bool.and_eq_false_iff,decide_eq_false_iff_not]
        refine .inl (.inl ?_)
        omega
      | _=>rfl
    simp [fv,hd,e1,this]
  | true =>
    obtain ⟨xs,rfl⟩:∃ ds,d=.tuple ds:=by cases d <;> first | exact ⟨_,rfl⟩ | cases e1
    have hn:1≤xs.length∧xs.length≤4:=by
      simp only [c4,Bool.and_eq_true,decide_eq_true_eq] at e1
      omega
    have hc:bx 1 (cm (ag 0)) bL (aF (g5 dD) (ae (ag 1) ao)) bj [some (.tuple xs)]=.ok (xs.map fun d=>.bool (dD d)) :=
      cU rfl rfl (by omega) fun d hd'=>by simp [qh (fu hd d hd')]
    have hf:=uP dD xs
    cases e2:xs.all dD with
    | false=>simp [fv,hd,e1,hc,hf,e2,eC]
    | true =>
      have hne:xs≠[]:=by intro z; subst z; simp at hn
      have hl2:xs.getLast?=some (xs.getLast hne):=List.getLast?_eq_some_getLast hne
      have hp:=List.all_eq_true.mp e2 _ (List.getLast_mem hne)
      obtain ⟨a,b,eab⟩:∃ a b,xs.getLast hne=.tuple [a,b]:=by
        revert hp
        generalize xs.getLast hne=z
        intro hp
        unfold dD at hp
        split at hp
        · exact ⟨_,_,rfl⟩
        · cases hp
      rw [eab] at hl2
      have hln:ja xs=dO b:=by
        unfold ja; rw [hl2]; cases b <;> rfl
      simp [fv,hd,e1,hc,hf,e2,eC,m8,hl2,hln,hn.1,hn.2]
theorem tJ {d:PyData} (h:c4 d 4 4=true):∃ a b c e,d=.tuple [a,b,c,e]:=by
  cases d with
  | tuple ds =>
    simp [c4] at h
    match ds,h with
    | [a,b,c,e],_=>exact ⟨a,b,c,e,rfl⟩
    | [],h=>simp at h
    | [_],h=>simp at h
    | [_,_],h=>simp at h
    | [_,_,_],h=>simp at h
    | _::_::_::_::_::_,h=>simp at h; omega
  | _=>cases h
theorem eK {d:PyData} {a b:Int} (h:isWhole d a b=true):∃ i,d=.int i∧a≤i∧i≤b:=by
  cases d with
  | int i=>simp [isWhole] at h; exact ⟨i,rfl,h⟩
  | _=>cases h
theorem qB {a b c e:PyData} (h:isWhole a 2 60=false):b6 (.tuple [a,b,c,e])=false:=by
  cases a with
  | int i =>
    cases c with
    | int l =>
      simp only [isWhole,Bool.and_eq_false_iff,decide_eq_false_iff_not] at h
      simp only [b6,Bool.and_eq_false_iff,decide_eq_false_iff_not]
      omega
    | _=>rfl
  | _=>rfl
theorem qS {b c e:PyData} {i:Int} (h:isWhole c 0 (if i - 1 < 20 then i - 1 else 20)=false):b6 (.tuple [.int i,b,c,e])=false:=by
  cases c with
  | int l =>
    simp only [isWhole,Bool.and_eq_false_iff,decide_eq_false_iff_not] at h
    simp only [b6,Bool.and_eq_false_iff,decide_eq_false_iff_not]
    exact .inl (.inl (.inr h))
  | _=>rfl
theorem qJ {b e:PyData} {i l:Int} (h1:2≤i∧i≤60) (h2:0≤l∧l≤if i - 1 < 20 then i - 1 else 20):b6 (.tuple [.int i,b,.int l,e])=(isWhole b 1 (i - l) && eC e):=by
  simp [b6,h1.1,h1.2,h2.1,h2.2]
theorem vq (cs:Cs):∀ ds,ds.length=1→g5 b6 ds≠.no→bf (dJ cs aQ (g5 eC) aR (ds.map some++List.replicate 3 none))=g5 b6 ds:=by
  intro ds hl hne
  obtain ⟨d,rfl,hd,e⟩:=o6 hne
  rw [e]
  cases e1:c4 d 4 4 with
  | false =>
    have:b6 d=false:=by
      unfold b6
      split
      · simp [c4] at e1
      · rfl
    simp [dJ,hd,e1,this]
  | true =>
    obtain ⟨a,b,c,q,rfl⟩:=tJ e1
    have ha:=fu hd a (by simp)
    have hb:=fu hd b (by simp)
    have hc:=fu hd c (by simp)
    have he:=fu hd q (by simp)
    cases e2:isWhole a 2 60 with
    | false=>simp [dJ,hd,ha,hb,hc,he,e1,e2,qB e2]
    | true =>
      obtain ⟨i,rfl,i1,i2⟩:=eK e2
      cases e3:isWhole c 0 (if i - 1 < 20 then i - 1 else 20) with
      | false=>simp [dJ,hd,ha,hb,hc,he,e1,e2,e3,qS e3]
      | true =>
        obtain ⟨l,rfl,l1,l2⟩:=eK e3
        have er:=qJ (b:=b) (e:=q) ⟨i1,i2⟩ ⟨l1,l2⟩
        cases e4:isWhole b 1 (i - l) with
        | false=>simp [dJ,hd,ha,hb,hc,he,e1,e2,e3,e4,er]
        | true=>simp [dJ,hd,ha,hb,hc,he,e1,e2,e3,e4,er,qh he]
noncomputable def bc (cs:Cs):Gf
  | [d]=>if bU d then (if cJ d then .ok d else .rz cs.NoErrands) else .no
  | _=>.no
theorem yR (cs:Cs):∀ ds,ds.length=1→bc cs ds≠.no→bf (g9 cs aR (g5 b6) (ds.map some++List.replicate 0 none))=bc cs ds:=by
  intro ds hl hne
  obtain ⟨d,rfl⟩:∃ d,ds=[d]:=by
    match ds,hl with
    | [d],_=>exact ⟨d,rfl⟩
  have hd:bU d=true:=by
    unfold bc at hne
    by_cases z:bU d=true
    · exact z
    · simp [z] at hne
  have eg:bc cs [d]=if cJ d then .ok d else .rz cs.NoErrands:=by unfold bc; simp [hd]
  rw [eg]
  cases e1:c4 d 1 6 with
  | false =>
    have:cJ d=false:=by
      cases d with
      | tuple ds =>
        simp only [c4,Bool.and_eq_false_iff,decide_eq_false_iff_not] at e1
        simp only [cJ,Bool.and_eq_false_iff,decide_eq_false_iff_not]
        refine .inl ?_
        omega
      | _=>rfl
    simp [g9,hd,e1,this]
  | true =>
    obtain ⟨xs,rfl⟩:∃ ds,d=.tuple ds:=by cases d <;> first | exact ⟨_,rfl⟩ | cases e1
    have hn:1≤xs.length∧xs.length≤6:=by
      simp only [c4,Bool.and_eq_true,decide_eq_true_eq] at e1
      omega
    have hc:bx 1 (cm (ag 0)) bL (aF (g5 b6) (ae (ag 1) ao)) bj [some (.tuple xs)]=.ok (xs.map fun d=>.bool (b6 d)) :=
      cU rfl rfl (by omega) fun d hd'=>by simp [qh (fu hd d hd')]
    have hf:=uP b6 xs
    cases e2:xs.all b6 with
    | false=>simp [g9,hd,e1,hc,hf,e2,cJ]
    | true=>simp [g9,hd,e1,hc,hf,e2,cJ,hn.1,hn.2]
end RS
set_option maxRecDepth 100000
set_option maxHeartbeats 1000000
namespace RS
open PySem L2
theorem fo {β:Type} {tgt:PyData→Ds→Option Ds} {body:Ds→Sr} (inv:Nat→Ds→Prop):∀ (ds:List PyData) (k:Nat),(∀ (i:Nat) d δ,ds[i]?=some d→inv (k + i) δ→∃ δ1 δ2,tgt d δ=some δ1∧body δ1=.nx δ2∧inv (k + i + 1) δ2) →
    ∀ δ,inv k δ→∃ δ',forL tgt body ds δ=.nx δ'∧inv (k + ds.length) δ'
  | [],k,_,δ,h=>⟨δ,rfl,h⟩
  | d::r,k,hs,δ,h=>by
    obtain ⟨δ1,δ2,e1,e2,h2⟩:=hs 0 d δ rfl h
    obtain ⟨δ',e3,h3⟩:=fo (β:=β) inv r (k + 1) (fun i x δ hx hi=>by
      have:=hs (i + 1) x δ (by simpa using hx) (by rw [show k + (i + 1)=k + 1 + i by omega]; exact hi)
      rw [show k + 1 + i + 1=k + (i + 1) + 1 by omega]; exact this) δ2 h2
    exact ⟨δ',by unfold forL; rw [e1]; simp only [e2]; exact e3,by rw [List.length_cons,show k + (r.length + 1)=k + 1 + r.length by omega]; exact h3⟩
noncomputable def AA:PyData→Option Int
  | .int i=>some i
  | _=>none
noncomputable def cN:PyData→Int × Option Int
  | .tuple [.int l,t]=>(l,AA t)
  | _=>(0,none)
noncomputable def deE:PyData→Er
  | .tuple [.int e,.int d,.int l,.tuple ps]=>⟨e,d,l,ps.map cN⟩
  | _=>⟨0,0,0,[]⟩
theorem qV (e:Int) (d:Int) (l:Int) (ps:List PyData):deE (.tuple [.int e,.int d,.int l,.tuple ps])=⟨e,d,l,ps.map cN⟩:=rfl
noncomputable def cj:PyData→List Er
  | .tuple ds=>ds.map deE
  | _=>[]
theorem xm (o:Option Int):AA (bZ o)=o:=by cases o <;> rfl
theorem ky (p:Int × Option Int):cN (bJ p)=p:=by
  obtain ⟨l,t⟩:=p
  simp [bJ,cN,xm]
theorem xB (e:Er):deE e.d=e:=by
  obtain ⟨a,b,c,ps⟩:=e
  simp [Er.d,qV,List.map_map]
  conv=>rhs; rw [← List.map_id ps]
  exact List.map_congr_left fun p _=>ky p
theorem dw (es:List Er):cj (av es)=es:=by
  simp [av,cj,List.map_map]
  conv=>rhs; rw [← List.map_id es]
  exact List.map_congr_left fun e _=>xB e
theorem part_of {d:PyData} (h:dD d=true):bJ (cN d)=d∧1≤(cN d).1∧(cN d).1≤20∧∀ t,(cN d).2=some t→0≤t∧t≤3:=by
  unfold dD at h
  split at h
  · rename_i a b
    rw [Bool.and_eq_true] at h
    obtain ⟨i,rfl,h1,h2⟩:=eK h.1
    have hb:=h.2
    cases b with
    | none=>exact ⟨rfl,h1,h2,fun t q=>by cases q⟩
    | int t =>
      obtain ⟨t',q,h3,h4⟩:=eK hb
      cases q
      exact ⟨rfl,h1,h2,fun t q=>by cases q; exact ⟨h3,h4⟩⟩
    | _=>cases hb
  · cases h
theorem rP {d:PyData} (h:b6 d=true):(deE d).d=d∧(deE d).Ok:=by
  unfold b6 at h
  split at h
  · rename_i e du l ps
    simp only [Bool.and_eq_true,decide_eq_true_eq] at h
    obtain ⟨⟨⟨⟨h1,h2⟩,h3,h4⟩,h5⟩,h6⟩:=h
    obtain ⟨du,rfl,d1,d2⟩:=eK h5
    unfold eC at h6
    split at h6
    · rename_i ps
      simp only [Bool.and_eq_true,decide_eq_true_eq] at h6
      obtain ⟨⟨⟨p1,p2⟩,p3⟩,p4⟩:=h6
      have pa:=List.all_eq_true.mp p3
      have l4:l≤20∧l < e:=by split at h4 <;> omega
      refine ⟨?_,?_⟩
      · have em:ps.map (bJ ∘ cN)=ps:=by
          conv=>rhs; rw [← List.map_id ps]
          exact List.map_congr_left fun p hp=>(part_of (pa p hp)).1
        simp only [qV,Er.d,List.map_map,em]
      · refine ⟨h1,h2,h3,l4.1,l4.2,d1,d2,fun z=>?_,by simpa [qV] using p2,fun p hp=>?_,fun p hp=>?_⟩
        · have:ps=[]:=by simpa [qV] using z
          subst this; simp at p1
        · obtain ⟨q,hq,rfl⟩:=List.mem_map.mp (show p∈ps.map cN from hp)
          exact (part_of (pa q hq)).2
        · have hp:(ps.map cN).getLast?=some p:=hp
          rw [List.getLast?_map] at hp
          unfold ja at p4
          cases q:ps.getLast? with
          | none=>rw [q] at hp; cases hp
          | some z =>
            rw [q] at hp p4
            simp at hp
            split at p4
            · rename_i a heq
              cases heq
              subst hp
              unfold cN; split
              · rename_i l t e1
                injection e1 with e1; injection e1 with _ e1; injection e1 with e1 _
                rw [← e1]; rfl
              · rfl
            · cases p4
    · cases h6
  · cases h
theorem lR {d:PyData} (h:cJ d=true):av (cj d)=d∧1≤(cj d).length∧(cj d).length≤6∧∀ e∈cj d,e.Ok:=by
  unfold cJ at h
  split at h
  · rename_i ds
    simp only [Bool.and_eq_true,decide_eq_true_eq] at h
    obtain ⟨⟨h1,h2⟩,h3⟩:=h
    have pa:=List.all_eq_true.mp h3
    refine ⟨?_,by simpa [cj] using h1,by simpa [cj] using h2,fun e he=>?_⟩
    · simp only [cj,av,List.map_map]
      congr 1
      conv=>rhs; rw [← List.map_id ds]
      exact List.map_congr_left fun p hp=>(rP (pa p hp)).1
    · obtain ⟨q,hq,rfl⟩:=List.mem_map.mp (show e∈ds.map deE from he)
      exact (rP (pa q hq)).2
  · cases h
noncomputable def deI:PyData→Int
  | .int i=>i
  | _=>0
noncomputable def c7:PyData→List Int
  | .tuple ds=>ds.map deI
  | _=>[]
noncomputable def aL (ns:List Int):PyData:=.tuple (ns.map .int)
theorem fW (ns:List Int):c7 (aL ns)=ns:=by
  simp [aL,c7,List.map_map]
  conv=>rhs; rw [← List.map_id ns]
  exact List.map_congr_left fun _ _=>rfl
noncomputable def jf (n:Nat):PyData→Bool
  | .tuple ds=>decide (ds.length=n) && ds.all (fun d=>isWhole d 0 ((n:Int) - 1)) && decide (ds.map deI).Nodup
  | _=>false
structure bV (n:Nat) (rs:List Int):Prop where
  len:rs.length=n
  rng:∀ r∈rs,0≤r∧r < n
  nd:rs.Nodup
theorem oY {n:Nat} {d:PyData} (h:jf n d=true):aL (c7 d)=d∧bV n (c7 d):=by
  unfold jf at h
  split at h
  · rename_i ds
    simp only [Bool.and_eq_true,decide_eq_true_eq] at h
    obtain ⟨⟨h1,h2⟩,h3⟩:=h
    have pa:=List.all_eq_true.mp h2
    refine ⟨?_,by simpa [c7] using h1,fun r hr=>?_,h3⟩
    · simp only [c7,aL,List.map_map]
      congr 1
      conv=>rhs; rw [← List.map_id ds]
      refine List.map_congr_left fun p hp=>?_
      obtain ⟨i,rfl,_⟩:=eK (pa p hp)
      rfl
    · obtain ⟨q,hq,rfl⟩:=List.mem_map.mp (show r∈ds.map deI from hr)
      obtain ⟨i,rfl,a,b⟩:=eK (pa q hq)
      exact ⟨a,by show i < n; omega⟩
  · cases h
theorem lN {n:Nat} {rs:List Int} (h:bV n rs):jf n (aL rs)=true:=by
  have e:(rs.map PyData.int).map deI=rs:=by
    rw [List.map_map]; conv=>rhs; rw [← List.map_id rs]
    exact List.map_congr_left fun _ _=>rfl
  unfold jf aL
  simp only [List.length_map,h.len,decide_true,Bool.true_and,e,h.nd,Bool.and_true]
  rw [List.all_eq_true]
  intro d hd
  obtain ⟨r,hr,rfl⟩:=List.mem_map.mp hd
  have:=h.rng r hr
  simp [isWhole,this.1]; omega
end RS
set_option maxRecDepth 100000
set_option maxHeartbeats 1000000
namespace RS
open PySem L2
noncomputable def ki:PyData→Bool
  | .tuple [.int l,b]=>decide (0≤l) && decide (l≤1000000) && (match b with | .none=>true | .int t=>decide (0≤t) && decide (t≤3) | _=>false)
  | _=>false
noncomputable def sT:PyData→Bool
  | .tuple [.int e,.int _,.int l,.tuple ps]=>decide (1≤e) && decide (e < 1073741824) && decide (-1000000000≤l) && decide (l≤1000000000) && decide (ps.length≤1000) && ps.all ki
  | _=>false
noncomputable def pW:PyData→Bool
  | .tuple ds=>decide (ds.length≤100) && ds.all sT
  | _=>false
structure Er.Sh (e:Er):Prop where
  e1:1≤e.every
  e2:e.every < 1073741824
  l1:-1000000000≤e.late
  l2:e.late≤1000000000
  pn:e.parts.length≤1000
  pl:∀ p∈e.parts,0≤p.1∧p.1≤1000000∧∀ t,p.2=some t→0≤t∧t≤3
theorem rq {d:PyData} (h:ki d=true):bJ (cN d)=d∧0≤(cN d).1∧(cN d).1≤1000000∧∀ t,(cN d).2=some t→0≤t∧t≤3:=by
  unfold ki at h
  split at h
  · rename_i l b
    simp only [Bool.and_eq_true,decide_eq_true_eq] at h
    obtain ⟨⟨h1,h2⟩,h3⟩:=h
    cases b with
    | none=>exact ⟨rfl,h1,h2,fun t q=>by cases q⟩
    | int t =>
      simp only [Bool.and_eq_true,decide_eq_true_eq] at h3
      exact ⟨rfl,h1,h2,fun t q=>by cases q; exact h3⟩
    | _=>cases h3
  · cases h
theorem rp {d:PyData} (h:sT d=true):(deE d).d=d∧(deE d).Sh:=by
  unfold sT at h
  split at h
  · rename_i e du l ps
    simp only [Bool.and_eq_true,decide_eq_true_eq] at h
    obtain ⟨⟨⟨⟨⟨h1,h2⟩,hl1⟩,hl2⟩,h3⟩,h4⟩:=h
    have pa:=List.all_eq_true.mp h4
    have em:ps.map (bJ ∘ cN)=ps:=by
      conv=>rhs; rw [← List.map_id ps]
      exact List.map_congr_left fun p hp=>(rq (pa p hp)).1
    refine ⟨by simp only [qV,Er.d,List.map_map,em],h1,h2,hl1,hl2,by simpa [qV] using h3,fun p hp=>?_⟩
    obtain ⟨q,hq,rfl⟩:=List.mem_map.mp (show p∈ps.map cN from hp)
    exact (rq (pa q hq)).2
  · cases h
theorem mO {e:Er} (h:e.Sh):sT e.d=true:=by
  unfold sT Er.d
  simp only [h.e1,h.e2,h.l1,h.l2,decide_true,Bool.true_and,List.length_map,h.pn]
  rw [List.all_eq_true]
  intro d hd
  obtain ⟨p,hp,rfl⟩:=List.mem_map.mp hd
  obtain ⟨a,b,c⟩:=h.pl p hp
  obtain ⟨l,t⟩:=p
  cases t with
  | none=>simp at a b; simp [ki,bJ,bZ,a,b]
  | some t=>have:=c t rfl; simp at a b; simp [ki,bJ,bZ,a,b,this.1,this.2]
theorem Er.Ok.sh {e:Er} (h:e.Ok):e.Sh:=⟨by have:=h.e1; omega,by have:=h.e2; omega,by have:=h.l1; omega,by have:=h.l2; omega,by have:=h.p2; omega,fun p hp=>by
  obtain ⟨a,b,c⟩:=h.pl p hp
  exact ⟨by omega,by omega,c⟩⟩
theorem w6 {d:PyData} (h:pW d=true):av (cj d)=d∧(cj d).length≤100∧∀ e∈cj d,e.Sh:=by
  unfold pW at h
  split at h
  · rename_i ds
    simp only [Bool.and_eq_true,decide_eq_true_eq] at h
    have pa:=List.all_eq_true.mp h.2
    refine ⟨?_,by simpa [cj] using h.1,fun e he=>?_⟩
    · simp only [cj,av,List.map_map]
      congr 1
      conv=>rhs; rw [← List.map_id ds]
      exact List.map_congr_left fun p hp=>(rp (pa p hp)).1
    · obtain ⟨q,hq,rfl⟩:=List.mem_map.mp (show e∈ds.map deE from he)
      exact (rp (pa q hq)).2
  · cases h
theorem pz {es:List Er} (h1:es.length≤100) (h:∀ e∈es,e.Sh):pW (av es)=true:=by
  unfold pW av
  simp only [List.length_map,h1,decide_true,Bool.true_and]
  rw [List.all_eq_true]
  intro d hd
  obtain ⟨e,he,rfl⟩:=List.mem_map.mp hd
  exact mO (h e he)
noncomputable def Er.work (e:Er):Int:=(e.parts.map (·.1)).sum
noncomputable def Er.has (e:Er) (t:Int):Bool:=e.parts.any fun p=>p.2 == some t
noncomputable def er0:Er:=⟨1,1,0,[]⟩
noncomputable def az (es:List Er) (n:Int):Er:=es.getD n.toNat er0
noncomputable def hts (es:List Er):List Int→Int→Int→Option Int
  | [],_,_=>none
  | r::rs,k,t=>if (az es r).has t then some k else hts es rs (k + 1) t
noncomputable def bY (es:List Er) (rs:List Int) (t:Int):Option Int:=hts es rs 0 t
noncomputable def placeOf (rs:List Int) (n:Int):Nat:=rs.findIdx (· == n)
noncomputable def iW (es:List Er) (rs:List Int) (pl:Int) (acc:Int) (p:Int × Option Int):Int:=match p.2 with
  | some t=>(match bY es rs t with
    | some h=>if h≤pl then max acc (p.1 - 1) else acc
    | none=>acc)
  | none=>acc
noncomputable def cp (es:List Er) (rs:List Int) (n:Int):Int:=(((rs.drop (placeOf rs n + 1)).map fun m=>(az es m).parts).flatten).foldl (iW es rs (placeOf rs n)) 0
noncomputable def Er.times (e:Er) (t:Int):Int:=(t + e.late) / e.every + (if (t + e.late) % e.every > 0 then 1 else 0)
noncomputable def dQ (es:List Er) (rs:List Int) (n t:Int):Int:=cp es rs n + (az es n).work + ((rs.take (placeOf rs n)).map fun m=>(az es m).times t * (az es m).work).sum
noncomputable def bR (es:List Er) (rs:List Int) (n:Int):Option Int:=((List.range ((az es n).every - (az es n).late).toNat).map fun (i:Nat)=>(1 + (i:Int))).find? fun t=>decide (dQ es rs n t≤t)
noncomputable def ft (es:List Er) (rs:List Int) (n:Int):Bool:=match bR es rs n with
  | some t=>decide (t≤(az es n).due)
  | none=>false
theorem uw {es:List Er} {n:Int} (h0:0≤n) (h1:n < es.length):es[n.toNat]?=some (az es n):=by
  unfold az
  rw [List.getD_eq_getElem?_getD,List.getElem?_eq_getElem (by omega)]; rfl
theorem bW {es:List Er} {n:Int} (h0:0≤n) (h1:n < es.length):az es n∈es:=List.mem_of_getElem? (uw h0 h1)
theorem fU {es:List Er} {n:Int} (h0:0≤n) (h1:n < es.length):atI (es.map Er.d) n=some (az es n).d:=by
  rw [nM (j:=n.toNat) (by omega),List.getElem?_map,uw h0 h1]; rfl
noncomputable def cB:Gf
  | [d]=>if sT d then .ok (.int (deE d).work) else .no
  | _=>.no
theorem h9 {e:Er} (h:e.Sh):cB [e.d]=.ok (.int e.work):=by unfold cB; simp [mO h,xB]
theorem Ae (p:Int × Option Int):dIx (bJ p) (.int 0)=some (.int p.1):=rfl
theorem Ak (p:Int × Option Int):dIx (bJ p) (.int 1)=some (bZ p.2):=rfl
theorem Bq (e:Er):dIx e.d (.int 3)=some (.tuple (e.parts.map bJ)):=rfl
theorem Aq {f:PyData→Rs PyData} {ds:List PyData} (h:(match ds with | [x0]=>f x0 | _=>.no)≠.no):∃ x0,ds=[x0]∧f x0≠.no:=by
  rcases ds with _ | ⟨x0,_ | ⟨y,ys⟩⟩
  · exact absurd rfl h
  · skip
    exact ⟨_,rfl,h⟩
  · exact absurd rfl h
theorem xc (cs:Cs):∀ ds,ds.length=1→cB ds≠.no→bf (pX cs (ds.map some++List.replicate 0 none))=cB ds:=by
  intro ds hl hne
  obtain ⟨d,ez,hz⟩:=Aq hne
  clear hne; subst ez; have hne:=hz; clear hz
  · skip
    split at hne
    · rename_i hd
      obtain ⟨e1,sh⟩:=rp hd
      rw [← e1]
      generalize deE d=e at sh
      rw [h9 sh]
      have hc:bx 1 (cm (g2 dIx (ag 0) (gC (.int 3)))) bL (g2 dIx (ag 1) (gC (.int 0))) bj [some e.d]=.ok ((e.parts.map bJ).map fun d=>.int (cN d).1) :=
        cU rfl (by simp [Bq]) (by have:=sh.pn; simp; omega) fun d hd'=>by
          obtain ⟨p,hp,rfl⟩:=List.mem_map.mp hd'
          simp [Ae,ky]
      have hm:((e.parts.map bJ).map fun d=>PyData.int (cN d).1)=e.parts.map fun p=>.int p.1:=by
        rw [List.map_map]; exact List.map_congr_left fun p _=>by simp [ky]
      rw [hm] at hc
      simp [pX,hc,Ai,Er.work]
    · exact absurd rfl hne
end RS
set_option maxRecDepth 100000
set_option maxHeartbeats 1000000
namespace RS
open PySem L2
end RS
set_option maxRecDepth 100000
set_option maxHeartbeats 1000000
namespace RS
open PySem L2
theorem l9 {rs:List Int} {n:Int} (h:n∈rs):placeOf rs n < rs.length:=List.findIdx_lt_length_of_exists ⟨n,h,by simp⟩
theorem vd:∀ {l m:List Int},l.Nodup→(∀ x∈l,x∈m)→l.length≤m.length
  | [],m,_,_=>Nat.zero_le _
  | x::r,m,hn,hs=>by
    rw [List.nodup_cons] at hn
    have hx:=hs x List.mem_cons_self
    have:=vd (l:=r) (m:=m.erase x) hn.2 fun y hy=>by
      rw [List.mem_erase_of_ne (by rintro rfl; exact hn.1 hy)]
      exact hs y (List.mem_cons_of_mem _ hy)
    rw [List.length_erase_of_mem hx] at this
    have hp:=List.length_pos_of_mem hx
    rw [List.length_cons]; omega
theorem bV.mem {k:Nat} {rs:List Int} (h:bV k rs) {n:Int} (h0:0≤n) (h1:n < k):n∈rs:=by
  have base:∀ x:Int,0≤x→x < k→x∈(List.range k).map fun (i:Nat)=>(i:Int):=fun x a b=>List.mem_map.mpr ⟨x.toNat,List.mem_range.mpr (by omega),by omega⟩
  by_cases z:n∈rs
  · exact z
  · exfalso
    have:=vd (l:=n::rs) (m:=(List.range k).map fun (i:Nat)=>(i:Int)) (List.nodup_cons.mpr ⟨z,h.nd⟩) fun x hx=>by
      rcases List.mem_cons.mp hx with q | q
      · rw [q]; exact base n h0 h1
      · have:=h.rng x q
        exact base x this.1 this.2
    have hl:=h.len
    simp at this
    omega
theorem i6 (ns:List Int):(ns.map PyData.int).all fw=true:=by
  rw [List.all_eq_true]; intro d hd; obtain ⟨n,_,rfl⟩:=List.mem_map.mp hd; rfl
theorem mv (n:Int):∀ rs:List Int,n∈rs→(((rs.map PyData.int).map toV).findIdx? fun z=>eqV z (.int n))=some (placeOf rs n)
  | [],h=>by cases h
  | r::rs,h=>by
    have ev:eqV (.int r) (.int n)=(r == n):=rfl
    rw [List.map_cons,List.map_cons,List.findIdx?_cons]
    unfold placeOf
    rw [List.findIdx_cons]
    show (if eqV (.int r) (.int n)=true then some 0 else _)=_
    rw [ev]
    cases hr:r == n with
    | true=>rfl
    | false =>
      have hne:r≠n:=by simpa using hr
      have:=mv n rs ((List.mem_cons.mp h).resolve_left fun q=>hne q.symm)
      rw [if_neg Bool.false_ne_true,this]
      rfl
theorem ou {rs:List Int} {n:Int} (h:n∈rs):mZ (rs.map .int) (.int n)=some (.int (placeOf rs n)):=by
  unfold mZ
  rw [i6,show fw (.int n)=true from rfl]
  simp only [Bool.and_self,if_true]
  rw [show toV (.int n)=.int n from rfl,mv n rs h]; rfl
@[simp] theorem AI (go ga:Ds→Rs PyData) (δ:Ds):wO go ga δ=(go δ).bind fun d=>match d with | .tuple xs=>(ga δ).bind fun y=>Rs.f9 (mZ xs y) | _=>.no:=rfl
theorem qv {xs:List PyData} {k:Nat}:cutD xs (some (k:Int)) none=xs.drop k:=by
  unfold cutD
  have e1:HT.sIx xs.length 0 (some (k:Int))=min k xs.length:=HT.xZ _ _ _
  have e2:HT.sIx xs.length xs.length none=xs.length:=rfl
  rw [e1,e2]
  by_cases h:k≤xs.length
  · rw [Nat.min_eq_left h]; exact List.take_of_length_le (by simp)
  · rw [Nat.min_eq_right (by omega),List.drop_of_length_le (Nat.le_refl _),List.drop_of_length_le (by omega)]; simp
theorem AY {xs:List PyData} {k:Nat}:cutD xs none (some (k:Int))=xs.take k:=by
  unfold cutD
  have e1:HT.sIx xs.length 0 none=0:=rfl
  have e2:HT.sIx xs.length xs.length (some (k:Int))=min k xs.length:=HT.xZ _ _ _
  rw [e1,e2]
  simp
theorem vm (es:List Er) (t:Int):∀ (rs:List Int) (k:Int) (m:Int),m∈rs→(az es m).has t=true→∃ h,hts es rs k t=some h
  | [],_,_,h,_=>by cases h
  | r::rs,k,m,h,ht=>by
    unfold hts
    by_cases z:(az es r).has t=true
    · exact ⟨k,by rw [if_pos z]⟩
    · rw [if_neg z]
      rcases List.mem_cons.mp h with q | q
      · subst q; exact absurd ht z
      · exact vm es t rs (k + 1) m q ht
theorem wM {es:List Er} {rs:List Int} {t:Int} (h0:0≤t) (h3:t≤3):atI ((List.range 4).map fun (t:Nat)=>bZ (bY es rs t)) t=some (bZ (bY es rs t)):=by
  rw [nM (j:=t.toNat) (by omega),List.getElem?_map,List.getElem?_range (by omega)]
  simp only [Option.map_some]
  rw [Int.toNat_of_nonneg h0]
theorem D4 {e:Er} {p:Int × Option Int} {t:Int} (hp:p∈e.parts) (h:p.2=some t):e.has t=true:=List.any_eq_true.mpr ⟨p,hp,by simp [h]⟩
end RS
set_option maxRecDepth 100000
set_option maxHeartbeats 1000000
namespace RS
open PySem L2
theorem pf:∀ (ps:List (Int × Option Int)),(∀ p∈ps,0≤p.1∧p.1≤1000000)→0≤(ps.map (·.1)).sum∧(ps.map (·.1)).sum≤1000000 * ps.length
  | [],_=>by simp
  | p::r,h=>by
    have h1:=h p List.mem_cons_self
    have h2:=pf r fun q hq=>h q (List.mem_cons_of_mem _ hq)
    simp only [List.map_cons,List.sum_cons,List.length_cons]
    omega
theorem Er.Sh.work_b {e:Er} (h:e.Sh):0≤e.work∧e.work≤1000000000:=by
  have:=pf e.parts fun p hp=>⟨(h.pl p hp).1,(h.pl p hp).2.1⟩
  have h2:=h.pn
  unfold Er.work
  omega
theorem xg {a b:Int} (h1:-(2 ^ 64) < a) (h2:a < 2 ^ 64):lJ (.int a) (.int b)=some (.int (a * b)):=by
  show (if _ then _ else _)=_
  rw [if_pos (.inl ⟨h1,h2⟩)]
end RS
set_option maxRecDepth 100000
set_option maxHeartbeats 1000000
namespace RS
open PySem L2
noncomputable def eV (B:Nat) (p:Int→Bool):Option Int:=((List.range B).map fun (i:Nat)=>(1 + (i:Int))).find? p
theorem rY (B:Nat) (p:Int→Bool):eV (B + 1) p=(eV B p).or (if p (1 + (B:Int)) then some (1 + (B:Int)) else none):=by
  unfold eV
  rw [List.range_succ,List.map_append,List.find?_append]
  congr 1
  simp only [List.map_cons,List.map_nil,List.find?_cons,List.find?_nil]
  cases p (1 + (B:Int)) <;> rfl
theorem eS {p:Int→Bool}:∀ {B:Nat} {t:Int},eV B p=some t→1≤t∧t≤B∧p t=true∧∀ s,1≤s→s < t→p s=false
  | 0,t,h=>by cases h
  | B + 1,t,h=>by
    rw [rY] at h
    cases q:eV B p with
    | some u =>
      rw [q] at h
      cases h
      obtain ⟨h1,h2,h3,h4⟩:=eS q
      exact ⟨h1,by omega,h3,h4⟩
    | none =>
      rw [q,Option.none_or] at h
      split at h
      · rename_i hp
        cases h
        refine ⟨by omega,by omega,hp,fun s h1 h2=>?_⟩
        unfold eV at q
        have:=List.find?_eq_none.mp q s (List.mem_map.mpr ⟨(s - 1).toNat,List.mem_range.mpr (by omega),by omega⟩)
        simpa using this
      · cases h
theorem jK {B:Nat} {p:Int→Bool} (h:eV B p=none):∀ s:Int,1≤s→s≤(B:Int)→p s=false:=fun s h1 h2=>by
  unfold eV at h
  have:=List.find?_eq_none.mp h s (List.mem_map.mpr ⟨(s - 1).toNat,List.mem_range.mpr (by omega),by omega⟩)
  simpa using this
theorem wG {B B':Nat} {p p':Int→Bool} {t:Int} (h:eV B p=some t) (hB:B≤B') (hp:∀ s,1≤s→p s=true→p' s=true):∃ t',eV B' p'=some t'∧t'≤t:=by
  obtain ⟨h1,h2,h3,h4⟩:=eS h
  have hp':=hp t h1 h3
  cases q:eV B' p' with
  | none=>rw [jK q t h1 (by omega)] at hp'; cases hp'
  | some u =>
    obtain ⟨u1,u2,u3,u4⟩:=eS q
    refine ⟨u,rfl,?_⟩
    by_cases z:t < u
    · rw [u4 t h1 z] at hp'; cases hp'
    · omega
theorem df (es:List Er) (rs:List Int) (n:Int):bR es rs n=eV ((az es n).every - (az es n).late).toNat fun t=>decide (dQ es rs n t≤t):=rfl
theorem Er.times_mono {e:Er} (h:1≤e.every) {t u:Int} (ht:t≤u):e.times t≤e.times u:=by
  unfold Er.times
  have q:=Int.ediv_le_ediv (c:=e.every) (by omega) (show t + e.late≤u + e.late by omega)
  have r1:=Int.emod_nonneg (t + e.late) (b:=e.every) (by omega)
  have r2:=Int.emod_nonneg (u + e.late) (b:=e.every) (by omega)
  have d1:=Int.mul_ediv_add_emod (t + e.late) e.every
  have d2:=Int.mul_ediv_add_emod (u + e.late) e.every
  by_cases z:(t + e.late) / e.every=(u + e.late) / e.every
  · rw [← z] at d2 ⊢
    split <;> split <;> omega
  · split <;> split <;> omega
theorem uW {α:Type} (f g:α→Int):∀ l:List α,(∀ x∈l,f x≤g x)→(l.map f).sum≤(l.map g).sum
  | [],_=>Int.le_refl _
  | x::r,h=>by
    have h1:=h x List.mem_cons_self
    have h2:=uW f g r fun y hy=>h y (List.mem_cons_of_mem _ hy)
    simp only [List.map_cons,List.sum_cons]
    omega
theorem iq {α:Type} (f:α→Int):∀ l:List α,(∀ x∈l,0≤f x)→0≤(l.map f).sum
  | [],_=>Int.le_refl _
  | x::r,h=>by
    have h1:=h x List.mem_cons_self
    have h2:=iq f r fun y hy=>h y (List.mem_cons_of_mem _ hy)
    simp only [List.map_cons,List.sum_cons]
    omega
theorem u7 {es:List Er} {rs:List Int} {n t u:Int} (hsh:∀ e∈es,e.Sh) (hr:bV es.length rs) (ht:t≤u):dQ es rs n t≤dQ es rs n u:=by
  unfold dQ
  have:=uW (fun m=>(az es m).times t * (az es m).work) (fun m=>(az es m).times u * (az es m).work) (rs.take (placeOf rs n)) fun m hm=>by
    have hm':=hr.rng m (List.mem_of_mem_take hm)
    have hs:=hsh _ (bW hm'.1 hm'.2)
    exact Int.mul_le_mul_of_nonneg_right (Er.times_mono hs.e1 ht) hs.work_b.1
  omega
structure nF (f:Int→Int):Prop where
  mono:∀ t u,1≤t→t≤u→f t≤f u
  one:∀ t,1≤t→1≤f t
theorem nF.fix {f:Int→Int} (R:nF f) {t:Int} (h1:1≤t) (h:f t≤t) (h4:∀ s,1≤s→s < t→¬ f s≤s):f t=t:=by
  by_cases z:f t < t
  · exact absurd (R.mono _ _ (R.one t h1) h) (fun q=>h4 (f t) (R.one t h1) z q)
  · omega
end RS
set_option maxRecDepth 100000
set_option maxHeartbeats 1000000
namespace RS
open PySem L2
theorem Er.times_le_iff {e:Er} (h:1≤e.every) {t c:Int}:e.times t≤c↔t + e.late≤e.every * c:=by
  unfold Er.times
  have r1:=Int.emod_nonneg (t + e.late) (b:=e.every) (by omega)
  have r2:=Int.emod_lt_of_pos (t + e.late) (b:=e.every) (by omega)
  have d1:=Int.mul_ediv_add_emod (t + e.late) e.every
  generalize (t + e.late) / e.every=q at *
  generalize (t + e.late) % e.every=r at *
  generalize t + e.late=x at *
  generalize e.every=v at *
  constructor
  · intro hc
    split at hc
    · have:v * (q + 1)≤v * c:=Int.mul_le_mul_of_nonneg_left hc (by omega)
      rw [Int.mul_add] at this
      omega
    · have:v * q≤v * c:=Int.mul_le_mul_of_nonneg_left (by omega) (by omega)
      omega
  · intro hx
    split
    · have:v * q < v * c:=by omega
      have:=Int.lt_of_mul_lt_mul_left this (by omega)
      omega
    · have:v * q≤v * c:=by omega
      have:=Int.le_of_mul_le_mul_left this (by omega)
      omega
theorem Er.times_pos {e:Er} (h:1≤e.every) {t:Int} (ht:0≤t + e.late):0≤e.times t:=by
  unfold Er.times
  have:=Int.ediv_nonneg ht (show 0≤e.every by omega)
  split <;> omega
inductive Fa2 {α β:Type} (R:α→β→Prop):List α→List β→Prop where
  | nil:Fa2 R [] []
  | cons {a:α} {b:β} {l:List α} {m:List β} (h:R a b) (t:Fa2 R l m):Fa2 R (a::l) (b::m)
noncomputable def uR (a b:Option Int):Prop:=∀ t,b=some t→∃ u,a=some u∧u≤t
end RS
set_option maxRecDepth 100000
set_option maxHeartbeats 1000000
namespace RS
open PySem L2
noncomputable def cnd (es:List Er) (rs:List Int) (pl:Int) (t:Int):Bool:=match bY es rs t with
  | some h=>decide (h≤pl)
  | none=>false
noncomputable def vx (c:Int→Bool) (acc:Int) (p:Int × Option Int):Int:=match p.2 with
  | some t=>if c t then max acc (p.1 - 1) else acc
  | none=>acc
theorem uk (es:List Er) (rs:List Int) (pl:Int):iW es rs pl=vx (cnd es rs pl):=by
  funext acc p
  unfold iW vx cnd
  cases p.2 with
  | none=>rfl
  | some t =>
    simp only
    cases bY es rs t with
    | none=>rfl
    | some h=>simp
theorem Bi {c:Int→Bool} {acc M:Int} {p:Int × Option Int}:vx c acc p≤M↔acc≤M∧∀ t,p.2=some t→c t=true→p.1 - 1≤M:=by
  unfold vx
  rcases hp:p.2 with _ | t
  · simp
  · simp only
    cases hc:c t with
    | false=>simp [hc]
    | true =>
      simp only [if_true]
      constructor
      · intro h
        refine ⟨by omega,fun u hu _=>by cases hu; omega⟩
      · rintro ⟨h1,h2⟩
        have:=h2 t rfl hc
        omega
theorem va {c:Int→Bool} {M:Int}:∀ (l:List (Int × Option Int)) (acc:Int),l.foldl (vx c) acc≤M↔acc≤M∧∀ p∈l,∀ t,p.2=some t→c t=true→p.1 - 1≤M
  | [],acc=>by simp
  | p::l,acc=>by
    rw [List.foldl_cons,va l,Bi]
    constructor
    · rintro ⟨⟨h1,h2⟩,h3⟩
      exact ⟨h1,fun q hq=>(List.mem_cons.mp hq).elim (fun z=>by rw [z]; exact h2) (h3 q)⟩
    · rintro ⟨h1,h2⟩
      exact ⟨⟨h1,h2 p List.mem_cons_self⟩,fun q hq=>h2 q (List.mem_cons_of_mem _ hq)⟩
theorem Ap (es:List Er) (t:Int):∀ (rs:List Int) (k:Int) (j:Nat),(∃ h,hts es rs k t=some h∧h≤k + j)↔∃ m∈rs.take (j + 1),(az es m).has t=true
  | [],k,j=>by simp [hts]
  | r::rs,k,j=>by
    unfold hts
    rw [List.take_succ_cons]
    by_cases hr:(az es r).has t=true
    · rw [if_pos hr]
      exact ⟨fun _=>⟨r,List.mem_cons_self,hr⟩,fun _=>⟨k,rfl,by omega⟩⟩
    · rw [if_neg hr]
      cases j with
      | zero =>
        have lo:∀ (rs:List Int) (k:Int) h,hts es rs k t=some h→k≤h:=by
          intro rs
          induction rs with
          | nil=>intro k h e; cases e
          | cons a l ih =>
            intro k h e
            unfold hts at e
            split at e
            · cases e; exact Int.le_refl _
            · have:=ih _ _ e; omega
        constructor
        · rintro ⟨h,e,hl⟩
          have:=lo rs (k + 1) h e
          omega
        · rintro ⟨m,hm,hh⟩
          simp at hm
          subst hm
          exact absurd hh hr
      | succ j =>
        have ih:=Ap es t rs (k + 1) j
        constructor
        · rintro ⟨h,e,hl⟩
          obtain ⟨m,hm,hh⟩:=ih.mp ⟨h,e,by omega⟩
          exact ⟨m,List.mem_cons_of_mem _ hm,hh⟩
        · rintro ⟨m,hm,hh⟩
          rcases List.mem_cons.mp hm with z | z
          · rw [z] at hh; exact absurd hh hr
          · obtain ⟨h,e,hl⟩:=ih.mpr ⟨m,z,hh⟩
            exact ⟨h,e,by omega⟩
theorem xY {es:List Er} {rs:List Int} {pl:Nat} {t:Int}:cnd es rs (pl:Int) t=true↔∃ m∈rs.take (pl + 1),(az es m).has t=true:=by
  rw [← Ap es t rs 0 pl]
  unfold cnd bY
  cases hts es rs 0 t with
  | none=>simp
  | some h=>simp
noncomputable def ve (es:List Er) (ms:List Int):List (Int × Option Int):=(ms.map fun m=>(az es m).parts).flatten
theorem xP {es:List Er} {ms:List Int} {p:Int × Option Int}:p∈ve es ms↔∃ m∈ms,p∈(az es m).parts:=by
  unfold ve
  rw [List.mem_flatten]
  constructor
  · rintro ⟨l,hl,hp⟩
    obtain ⟨m,hm,rfl⟩:=List.mem_map.mp hl
    exact ⟨m,hm,hp⟩
  · rintro ⟨m,hm,hp⟩
    exact ⟨_,List.mem_map.mpr ⟨m,hm,rfl⟩,hp⟩
theorem c8 {es:List Er} {rs:List Int} {n M:Int}:cp es rs n≤M↔0≤M∧∀ m∈rs.drop (placeOf rs n + 1),∀ p∈(az es m).parts,∀ t,p.2=some t→(∃ u∈rs.take (placeOf rs n + 1),(az es u).has t=true)→p.1 - 1≤M:=by
  unfold cp
  rw [uk,va]
  constructor
  · rintro ⟨h1,h2⟩
    exact ⟨h1,fun m hm p hp t ht hu=>h2 p (xP.mpr ⟨m,hm,hp⟩) t ht (xY.mpr hu)⟩
  · rintro ⟨h1,h2⟩
    refine ⟨h1,fun p hp t ht hc=>?_⟩
    obtain ⟨m,hm,hp⟩:=xP.mp hp
    exact h2 m hm p hp t ht (xY.mp hc)
theorem nY {A r:List Int} {n:Int} (h:n ∉ A):placeOf (A++r) n=A.length + placeOf r n:=by
  unfold placeOf
  induction A with
  | nil=>simp
  | cons a l ih =>
    have hn:(a == n)=false:=by
      rw [beq_eq_false_iff_ne]; intro z; exact h (by rw [z]; exact List.mem_cons_self)
    rw [List.cons_append,List.findIdx_cons,hn,cond_false,ih fun q=>h (List.mem_cons_of_mem _ q),List.length_cons]
    omega
theorem me (n:Int) (r:List Int):placeOf (n::r) n=0:=by unfold placeOf; simp [List.findIdx_cons]
end RS
set_option maxRecDepth 100000
set_option maxHeartbeats 1000000
namespace RS
open PySem L2
theorem vK (es:List Er) (rs:List Int) (n:Int):0≤cp es rs n:=(c8.mp (Int.le_refl _)).1
theorem zr {es:List Er} {rs ot:List Int} {n:Int} (h1:∀ u,u∈rs.take (placeOf rs n + 1)↔u∈ot.take (placeOf ot n + 1)) (h2:∀ u,u∈rs.drop (placeOf rs n + 1)↔u∈ot.drop (placeOf ot n + 1)):cp es rs n=cp es ot n:=by
  have a:=(c8 (es:=es) (rs:=ot) (n:=n)).mp (Int.le_refl _)
  have b:=(c8 (es:=es) (rs:=rs) (n:=n)).mp (Int.le_refl _)
  have c1:cp es rs n≤cp es ot n:=c8.mpr ⟨a.1,fun m hm p hp t ht qz6=>(by obtain ⟨u,hu,hh⟩:=qz6; exact a.2 m ((h2 m).mp hm) p hp t ht ⟨u,(h1 u).mp hu,hh⟩)⟩
  have c2:cp es ot n≤cp es rs n:=c8.mpr ⟨b.1,fun m hm p hp t ht qz6=>(by obtain ⟨u,hu,hh⟩:=qz6; exact b.2 m ((h2 m).mpr hm) p hp t ht ⟨u,(h1 u).mpr hu,hh⟩)⟩
  omega
theorem oy:∀ (ps:List (Int × Option Int)),(∀ p∈ps,0≤p.1)→∀ p∈ps,p.1≤(ps.map (·.1)).sum
  | [],_,p,hp=>by cases hp
  | q::r,h,p,hp=>by
    have h0:=h q List.mem_cons_self
    have h1:=iq (fun p:Int × Option Int=>p.1) r fun p hp=>h p (List.mem_cons_of_mem _ hp)
    simp only [List.map_cons,List.sum_cons]
    rcases List.mem_cons.mp hp with rfl | hp
    · omega
    · have:=oy r (fun p hp=>h p (List.mem_cons_of_mem _ hp)) p hp
      omega
theorem Er.Sh.part_le {e:Er} (h:e.Sh) {p:Int × Option Int} (hp:p∈e.parts):p.1≤e.work:=oy e.parts (fun p hp=>(h.pl p hp).1) p hp
theorem Er.times_one {e:Er} (h:1≤e.every) (hl:0≤e.late) {t:Int} (ht:1≤t):1≤e.times t:=by
  by_cases z:e.times t≤0
  · have:=(Er.times_le_iff h).mp z
    omega
  · omega
section
variable {es:List Er} {A B:List Int} {x y:Int}
theorem yx (A r:List Int) (k:Nat):(A++r).drop (A.length + k)=r.drop k:=by rw [List.drop_append]; simp
end
end RS
set_option maxRecDepth 100000
set_option maxHeartbeats 1000000
namespace RS
open PySem L2
structure m5 (es fs:List Er) (rs:List Int) (φ:Int→Int):Prop where
  at':∀ m∈rs,az fs (φ m)=az es m
  inj:∀ m∈rs,∀ k∈rs,φ m=φ k→m=k
theorem rW {φ:Int→Int}:∀ {rs:List Int} {n:Int},n∈rs→(∀ m∈rs,φ m=φ n→m=n)→placeOf (rs.map φ) (φ n)=placeOf rs n
  | [],n,h,_=>by cases h
  | r::rs,n,h,hi=>by
    unfold placeOf
    rw [List.map_cons,List.findIdx_cons,List.findIdx_cons]
    by_cases z:r=n
    · subst z; simp
    · have e1:(r == n)=false:=by simpa using z
      have e2:(φ r == φ n)=false:=by
        rw [beq_eq_false_iff_ne]; intro q; exact z (hi r List.mem_cons_self q)
      have ih:=rW (φ:=φ) ((List.mem_cons.mp h).resolve_left fun q=>z q.symm) fun m hm=>hi m (List.mem_cons_of_mem _ hm)
      unfold placeOf at ih
      rw [e1,e2,cond_false,cond_false,ih]
theorem m5.place {es fs:List Er} {rs:List Int} {φ:Int→Int} (h:m5 es fs rs φ) {n:Int} (hn:n∈rs):placeOf (rs.map φ) (φ n)=placeOf rs n:=rW hn fun m hm=>h.inj m hm n hn
theorem m5.hold {es fs:List Er} {rs:List Int} {φ:Int→Int} (h:m5 es fs rs φ) {n:Int} (hn:n∈rs):cp fs (rs.map φ) (φ n)=cp es rs n:=by
  have a:=(c8 (es:=es) (rs:=rs) (n:=n)).mp (Int.le_refl _)
  have b:=(c8 (es:=fs) (rs:=rs.map φ) (n:=φ n)).mp (Int.le_refl _)
  rw [h.place hn,← List.map_drop,← List.map_take] at b
  have c1:cp fs (rs.map φ) (φ n)≤cp es rs n:=by
    refine c8.mpr ⟨a.1,?_⟩
    rw [h.place hn,← List.map_drop,← List.map_take]
    intro m hm p hp t ht ⟨u,hu,hh⟩
    obtain ⟨m',hm',rfl⟩:=List.mem_map.mp hm
    obtain ⟨u',hu',rfl⟩:=List.mem_map.mp hu
    rw [h.at' m' (List.mem_of_mem_drop hm')] at hp
    rw [h.at' u' (List.mem_of_mem_take hu')] at hh
    exact a.2 m' hm' p hp t ht ⟨u',hu',hh⟩
  have c2:cp es rs n≤cp fs (rs.map φ) (φ n):=by
    refine c8.mpr ⟨b.1,fun m hm p hp t ht rz6=>?_⟩
    obtain ⟨u,hu,hh⟩:=rz6
    refine b.2 (φ m) (List.mem_map.mpr ⟨m,hm,rfl⟩) p (by rw [h.at' m (List.mem_of_mem_drop hm)]; exact hp) t ht ⟨φ u,List.mem_map.mpr ⟨u,hu,rfl⟩,by rw [h.at' u (List.mem_of_mem_take hu)]; exact hh⟩
  omega
theorem m5.need {es fs:List Er} {rs:List Int} {φ:Int→Int} (h:m5 es fs rs φ) {n:Int} (hn:n∈rs) (t:Int):dQ fs (rs.map φ) (φ n) t=dQ es rs n t:=by
  unfold dQ
  rw [h.hold hn,h.at' n hn,h.place hn,← List.map_take,List.map_map]
  congr 2
  refine List.map_congr_left fun m hm=>?_
  simp only [Function.comp,h.at' m (List.mem_of_mem_take hm)]
theorem m5.longest {es fs:List Er} {rs:List Int} {φ:Int→Int} (h:m5 es fs rs φ) {n:Int} (hn:n∈rs):bR fs (rs.map φ) (φ n)=bR es rs n:=by
  rw [df,df,h.at' n hn]
  congr 1
  funext t
  rw [h.need hn]
end RS
set_option maxRecDepth 100000
set_option maxHeartbeats 1000000
namespace RS
open PySem L2
theorem kS {rs:List Int} {n:Int} (h:n∈rs):rs[placeOf rs n]?=some n:=by
  have lt:=l9 h
  rw [List.getElem?_eq_getElem lt]
  have hg:(rs[placeOf rs n] == n)=true:=List.findIdx_getElem (p:=(· == n)) (xs:=rs) (w:=lt)
  rw [beq_iff_eq.mp hg]
theorem gw {rs:List Int} {n:Int} (h:n∈rs):rs.take (placeOf rs n + 1)=rs.take (placeOf rs n)++[n]:=by
  rw [List.take_add_one,kS h]; rfl
theorem iK {rs:List Int} {n:Int} (h:n∈rs):rs=rs.take (placeOf rs n)++n::rs.drop (placeOf rs n + 1):=by
  have h1:=List.take_append_drop (placeOf rs n + 1) rs
  rw [gw h,List.append_assoc] at h1
  exact h1.symm
theorem mK {rs:List Int} {n:Int} (hn:n∈rs) (nd:rs.Nodup) {m:Int}:m∈rs.drop (placeOf rs n + 1)↔m∈rs∧m≠n∧m ∉ rs.take (placeOf rs n):=by
  have e:=iK hn
  have nd':=nd
  rw [e] at nd'
  obtain ⟨n1,n2,n3⟩:=List.nodup_append.mp nd'
  constructor
  · intro hm
    refine ⟨List.mem_of_mem_drop hm,fun z=>?_,fun z=>n3 m z m (List.mem_cons_of_mem _ hm) rfl⟩
    rw [z] at hm
    exact (List.nodup_cons.mp n2).1 hm
  · rintro ⟨h1,h2,h3⟩
    rw [e] at h1
    rcases List.mem_append.mp h1 with z | z
    · exact absurd z h3
    · exact (List.mem_cons.mp z).resolve_left h2
theorem uQ {α:Type} (f:α→Int) {l m:List α} (h:l.Perm m):(l.map f).sum=(m.map f).sum:=by
  induction h with
  | nil=>rfl
  | cons x _ ih=>simp only [List.map_cons,List.sum_cons,ih]
  | swap x y l=>simp only [List.map_cons,List.sum_cons]; omega
  | trans _ _ h1 h2=>exact h1.trans h2
section
variable {es:List Er} {rs ot:List Int} {n:Int}
theorem gO {k:Nat} (hr:bV k rs) {m:Int}:m∈rs↔0≤m∧m < k:=⟨hr.rng m,fun h=>hr.mem h.1 h.2⟩
theorem v3 (hr:bV es.length rs) (ho:bV es.length ot) (n0:0≤n) (n1:n < es.length) (h:(rs.take (placeOf rs n)).Perm (ot.take (placeOf ot n))):cp es rs n=cp es ot n∧(∀ t,dQ es rs n t=dQ es ot n t)∧bR es rs n=bR es ot n:=by
  have mr:=hr.mem n0 n1
  have mo:=ho.mem n0 n1
  have hh:cp es rs n=cp es ot n:=by
    apply zr
    · intro u
      rw [gw mr,gw mo,List.mem_append,List.mem_append,h.mem_iff]
    · intro u
      rw [mK mr hr.nd,mK mo ho.nd,gO hr,gO ho,h.mem_iff]
  have hn:∀ t,dQ es rs n t=dQ es ot n t:=fun t=>by
    unfold dQ
    rw [hh,uQ _ h]
  refine ⟨hh,hn,?_⟩
  rw [df,df]
  congr 1
  funext t
  rw [hn]
theorem vV {X:List Int} {t:Int} (hsh:∀ e∈es,e.Sh) (hl:∀ e∈es,0≤e.late) (hr:bV es.length rs) (ho:bV es.length ot) (n0:0≤n) (n1:n < es.length) (h:(rs.take (placeOf rs n)).Perm (ot.take (placeOf ot n)++X)) (ht:1≤t):dQ es ot n t≤dQ es rs n t:=by
  have mr:=hr.mem n0 n1
  have mo:=ho.mem n0 n1
  have hX:∀ m∈X,0≤m∧m < es.length:=fun m hm=>hr.rng m (List.mem_of_mem_take (h.mem_iff.mpr (List.mem_append_right _ hm)))
  have sX:∀ m∈X,(az es m).work≤(az es m).times t * (az es m).work∧0≤(az es m).work:=fun m hm=>by
    have mm:=bW (hX m hm).1 (hX m hm).2
    have sm:=hsh _ mm
    have t1:=Er.times_one (e:=az es m) sm.e1 (hl _ mm) ht
    have:=Int.mul_le_mul_of_nonneg_right t1 sm.work_b.1
    exact ⟨by omega,sm.work_b.1⟩
  have W0:0≤(X.map fun m=>(az es m).times t * (az es m).work).sum:=iq _ X fun m hm=>by have:=sX m hm; omega
  have inX:∀ (X:List Int),(∀ m∈X,0≤(az es m).times t * (az es m).work)→∀ m∈X,(az es m).times t * (az es m).work≤(X.map fun m=>(az es m).times t * (az es m).work).sum:=by
    intro X
    induction X with
    | nil=>intro _ m hm; cases hm
    | cons a l ih =>
      intro hp m hm
      have h0:=hp a List.mem_cons_self
      have h1:=iq (fun m=>(az es m).times t * (az es m).work) l fun m hm=>hp m (List.mem_cons_of_mem _ hm)
      simp only [List.map_cons,List.sum_cons]
      rcases List.mem_cons.mp hm with rfl | hm
      · omega
      · have:=ih (fun m hm=>hp m (List.mem_cons_of_mem _ hm)) m hm
        omega
  have b:=(c8 (es:=es) (rs:=rs) (n:=n)).mp (Int.le_refl _)
  have hh:cp es ot n≤cp es rs n + (X.map fun m=>(az es m).times t * (az es m).work).sum:=by
    refine c8.mpr ⟨by omega,fun m hm p hp u hu rz6=>?_⟩
    obtain ⟨v,hv,hv2⟩:=rz6
    obtain ⟨d1,d2,d3⟩:=(mK mo ho.nd).mp hm
    have hmr:m∈rs:=(gO hr).mpr ((gO ho).mp d1)
    by_cases z:m∈rs.take (placeOf rs n)
    · have hmX:m∈X:=(List.mem_append.mp (h.mem_iff.mp z)).resolve_left d3
      have mm:=bW (hX m hmX).1 (hX m hmX).2
      have a1:=(hsh _ mm).part_le hp
      have a2:=sX m hmX
      have a3:=inX X (fun m hm=>by have:=sX m hm; omega) m hmX
      omega
    · have hd:m∈rs.drop (placeOf rs n + 1):=(mK mr hr.nd).mpr ⟨hmr,d2,z⟩
      have hv':v∈rs.take (placeOf rs n + 1):=by
        rw [gw mo] at hv
        rw [gw mr]
        rcases List.mem_append.mp hv with q | q
        · exact List.mem_append_left _ (h.mem_iff.mpr (List.mem_append_left _ q))
        · exact List.mem_append_right _ q
      have:=b.2 m hd p hp u hu ⟨v,hv',hv2⟩
      omega
  have hs:=uQ (fun m=>(az es m).times t * (az es m).work) h
  rw [List.map_append,List.sum_append] at hs
  unfold dQ
  omega
theorem qQ {X:List Int} (hsh:∀ e∈es,e.Sh) (hl:∀ e∈es,0≤e.late) (hr:bV es.length rs) (ho:bV es.length ot) (n0:0≤n) (n1:n < es.length) (h:(rs.take (placeOf rs n)).Perm (ot.take (placeOf ot n)++X)):uR (bR es ot n) (bR es rs n):=fun t e=>by
  rw [df] at e ⊢
  refine wG e (Nat.le_refl _) fun s h1 h2=>?_
  have:=vV hsh hl hr ho n0 n1 h h1
  have h2:=of_decide_eq_true h2
  exact decide_eq_true (by omega)
end
end RS
set_option maxRecDepth 100000
set_option maxHeartbeats 1000000
namespace RS
open PySem L2
noncomputable def fK:PyData→Option (List Int)
  | .dict [(.none,.list l)]=>fg l
  | _=>none
theorem gn (ns:List Int):fK (aI ns)=some ns:=b4 ns
noncomputable def au:Gf
  | [s,.int k,.int many]=>(match fK s with
    | some ns=>if 0≤k∧0 < many then .ok (.int (mixed ns k many)) else .no
    | none=>.no)
  | _=>.no
theorem d5 {ns:List Int} {k many:Int} (h1:0≤k) (h2:0 < many):au [aI ns,.int k,.int many]=.ok (.int (mixed ns k many)):=by
  unfold au; simp [gn,h1,h2]
theorem ec (O:List Nat) (i:Nat) (g:Ds→Rs PyData) (δ:Ds):bw O i g δ=if i < δ.length then ofR (g (mask O δ)) fun d=>.nx (δ.set i (some d)) else .no:=rfl
noncomputable def bP:Gf
  | [s,.int a,.int top,.bool tools]=>(match fK s with
    | some ns=>if 0≤a∧0 < top∧top≤58 then .ok (mkE ns a top tools).d else .no
    | none=>.no)
  | _=>.no
theorem i4 {ns:List Int} {a top:Int} {tools:Bool} (h1:0≤a) (h2:0 < top) (h3:top≤58):bP [aI ns,.int a,.int top,.bool tools]=.ok (mkE ns a top tools).d:=by
  unfold bP; simp [gn,h1,h2,h3]
theorem y9 (o:Option Int):ig (bZ o)=true:=by cases o <;> (unfold bZ ig; rfl)
theorem wx (p:Int × Option Int):ig (bJ p)=true:=by
  unfold bJ ig ma
  rw [show ig (.int p.1)=true by unfold ig; rfl]
  unfold ma
  rw [y9]
  unfold ma
  rfl
theorem zB {i:Int} (h0:0≤i) (h1:i < 5):atI [PyData.int 0,PyData.int 1,PyData.int 1,PyData.int 0,PyData.none] i=some (bZ (lz i)):=by
  have:i=0∨i=1∨i=2∨i=3∨i=4:=by omega
  rcases this with rfl | rfl | rfl | rfl | rfl <;> rfl
theorem uC (ns:List Int) (a top:Int) (tools:Bool) (ev la du:PyData) (ha:0≤a) (L:List PyData) (hL:L.length < 1000) (i:Nat) (x8 x9:Option PyData) :
    bu (bw [7] 9 (aF au (ae (ag 0) (ae (g2 bz (g2 bz (ag 1) (gC (.int 4))) (ag 8)) (ae (gC (.int 40)) ao)))))
    (bu (iT [7] 7 (kf (ae (g2 bz (gC (.int 1)) (g2 qK (ag 9) (gC (.int 4)))) (ae (g2 dIx (dE (ae (gC (.int 0)) (ae (gC (.int 1)) (ae (gC (.int 1)) (ae (gC (.int 0)) (ae (gC .none) ao)))))) (g2 qK (g2 vI (ag 9) (gC (.int 4))) (gC (.int 5)))) ao))))
    (sIf (jA (gT (ag 3))) (ze 7 (g1 qL (gC (.int 1))) (kf (ae (g2 dIx (g2 dIx (ag 7) (g1 qL (gC (.int 1)))) (gC (.int 0))) (ae (gC .none) ao)))) bM))
      [some (aI ns),some (.int a),some (.int top),some (.bool tools),some ev,some la,some du,some (.list L),some (.int (0 + (i:Int))),x9]
   =.nx [some (aI ns),some (.int a),some (.int top),some (.bool tools),some ev,some la,some du,some (.list (L++[bJ (fk ns (a + 4 + (i:Int)) tools)])),some (.int (0 + (i:Int))),some (.int (mixed ns (a + 4 + (0 + (i:Int))) 40))]:=by
  have hm:=d5 (ns:=ns) (k:=a + 4 + (0 + (i:Int))) (many:=40) (by omega) (by decide)
  have m0:=dq ns (a + 4 + (0 + (i:Int))) (many:=40) (by decide)
  have m1:=dC ns (a + 4 + (0 + (i:Int))) (many:=40) (by decide)
  have ek:a + 4 + (0 + (i:Int))=a + 4 + (i:Int):=by omega
  generalize hc:mixed ns (a + 4 + (0 + (i:Int))) 40=c at *
  have q1:0≤c / 4 % 5:=Int.emod_nonneg _ (by decide)
  have q2:c / 4 % 5 < 5:=Int.emod_lt_of_pos _ (by decide)
  have t5:=zB q1 q2
  have hp:fk ns (a + 4 + (i:Int)) tools=(1 + c % 4,if tools then lz (c / 4 % 5) else none):=by unfold fk; rw [← ek,hc]
  have s1:bw [7] 9 (aF au (ae (ag 0) (ae (g2 bz (g2 bz (ag 1) (gC (.int 4))) (ag 8)) (ae (gC (.int 40)) ao)))) [some (aI ns),some (.int a),some (.int top),some (.bool tools),some ev,some la,some du,some (.list L),some (.int (0 + (i:Int))),x9]
     =.nx [some (aI ns),some (.int a),some (.int top),some (.bool tools),some ev,some la,some du,some (.list L),some (.int (0 + (i:Int))),some (.int c)]:=by
    rw [ec,if_pos (by simp)]
    simp only [a9,aC,aO,cq,aB (show 0 ∉ [7] by decide),aB (show 1 ∉ [7] by decide),aB (show 8 ∉ [7] by decide),ar,aw,d4,Rs.ai,gP,Rs.ak,hm,ay]
    rfl
  have s2:iT [7] 7 (kf (ae (g2 bz (gC (.int 1)) (g2 qK (ag 9) (gC (.int 4)))) (ae (g2 dIx (dE (ae (gC (.int 0)) (ae (gC (.int 1)) (ae (gC (.int 1)) (ae (gC (.int 0)) (ae (gC .none) ao)))))) (g2 qK (g2 vI (ag 9) (gC (.int 4))) (gC (.int 5)))) ao)))
      [some (aI ns),some (.int a),some (.int top),some (.bool tools),some ev,some la,some du,some (.list L),some (.int (0 + (i:Int))),some (.int c)]
     =.nx [some (aI ns),some (.int a),some (.int top),some (.bool tools),some ev,some la,some du,some (.list (L++[bJ (1 + c % 4,lz (c / 4 % 5))])),some (.int (0 + (i:Int))),some (.int c)]:=by
    unfold iT
    simp only [List.getElem?_cons_succ,List.getElem?_cons_zero]
    simp only [tR,g0,aC,aO,cq,aB (show 9 ∉ [7] by decide),ar,aw,d4,Rs.ai,gP,Rs.ak,E7,Dc,if_pos (show (0:Int) < 4 by decide),if_pos (show (0:Int) < 5 by decide),if_pos (show (0:Int) < 4∧(4:Int) < 1073741824 by decide),Au,t5,ay,if_pos (show L.length < 1000000 by omega)]
    rfl
  rw [aV,s1]
  simp only
  rw [aV,s2]
  simp only
  cases tools with
  | true =>
    rw [hp]
    simp
  | false =>
    rw [hp]
    have hl:atI (L++[bJ (1 + c % 4,lz (c / 4 % 5))]) (-1)=some (bJ (1 + c % 4,lz (c / 4 % 5))):=by rw [m8]; simp
    have hx:ixN (L++[bJ (1 + c % 4,lz (c / 4 % 5))]).length (-1)=some L.length:=by
      unfold ixN
      rw [if_neg (by decide),List.length_append,List.length_singleton,if_pos (by omega)]
      congr 1; omega
    have hs:(L++[bJ (1 + c % 4,lz (c / 4 % 5))]).set L.length (.tuple [.int (1 + c % 4),.none])=L++[bJ (1 + c % 4,none)]:=by
      rw [List.set_append_right _ _ (Nat.le_refl _)]; simp; rfl
    have nl:ig (.tuple [.int (1 + c % 4),.none])=true:=wx (1 + c % 4,none)
    rw [dz]
    simp only [qE,eu,ar,aw,Rs.ai,bA,ay,Bool.not_false,if_true]
    unfold ze
    simp only [List.getElem?_cons_succ,List.getElem?_cons_zero,tR,aC,aO,cq,nP,ar,aw,d4,Rs.ai,FN,Rs.ak,Au,hl,Ae,ay,hx,nl,if_true,hs]
    rfl
end RS
set_option maxRecDepth 100000
set_option maxHeartbeats 1000000
namespace RS
open PySem L2
theorem gN {j:Int} (h0:0≤j) (h1:j < 1000000):BR [.int j]=.ok (b7 0 j.toNat):=by
  show (if _ then _ else _)=_
  rw [if_pos (by omega)]
theorem ia {lo:Int} {n i:Nat} {d:PyData} (h:(b7 lo n)[i]?=some d):i < n∧d=.int (lo + (i:Int)):=by
  have hi:=(List.getElem?_eq_some_iff.mp h).1
  rw [dy] at hi
  unfold b7 at h
  rw [List.getElem?_map,List.getElem?_range hi] at h
  exact ⟨hi,(Option.some.inj h).symm⟩
theorem qA {α:Type} (n:Nat) (g:Nat→α):(List.range (n + 1)).map g=(List.range n).map g++[g n]:=by rw [List.range_succ,List.map_append]; rfl
theorem AU {f:PyData→Int→Int→Bool→Rs PyData} {ds:List PyData} (h:(match ds with | [x0,.int x1,.int x2,.bool x3]=>f x0 x1 x2 x3 | _=>.no)≠.no):∃ x0 x1 x2 x3,ds=[x0,.int x1,.int x2,.bool x3]∧f x0 x1 x2 x3≠.no:=by
  rcases ds with _ | ⟨x0,_ | ⟨x1,_ | ⟨x2,_ | ⟨x3,_ | ⟨y,ys⟩⟩⟩⟩⟩
  · exact absurd rfl h
  · exact absurd rfl h
  · first | exact absurd rfl h | (cases x1 <;> exact absurd rfl h)
  · first | exact absurd rfl h | (cases x1 <;> first | exact absurd rfl h | (cases x2 <;> exact absurd rfl h))
  · skip
    cases x1 with
    | int x1 =>
      cases x2 with
      | int x2 =>
        cases x3 with
        | bool x3 =>
          exact ⟨_,_,_,_,rfl,h⟩
        | _=>exact absurd rfl h
      | _=>first | exact absurd rfl h | (cases x3 <;> exact absurd rfl h)
    | _=>first | exact absurd rfl h | (cases x2 <;> first | exact absurd rfl h | (cases x3 <;> exact absurd rfl h))
  · first | exact absurd rfl h | (cases x1 <;> first | exact absurd rfl h | (cases x2 <;> first | exact absurd rfl h | (cases x3 <;> exact absurd rfl h)))
theorem tM (cs:Cs):∀ ds,ds.length=4→bP ds≠.no→bf (fJ cs au (ds.map some++List.replicate 6 none))=bP ds:=by
  intro ds hl hne
  obtain ⟨s,a,top,tools,ez,hz⟩:=AU hne
  clear hne; subst ez; have hne:=hz; clear hz
  · skip
    split at hne
    · rename_i ns hs
      have es:s=aI ns:=by
        unfold fK at hs
        split at hs
        · rename_i l
          rw [cQ hs]; rfl
        · cases hs
      subst es
      split at hne
      · rename_i hc
        obtain ⟨ha,ht,ht2⟩:=hc
        rw [i4 ha ht ht2]
        show bf (fJ cs au [some (aI ns),some (.int a),some (.int top),some (.bool tools),none,none,none,none,none,none])=_
        have hm:∀ k many:Int,0≤k→0 < many→au [aI ns,.int k,.int many]=.ok (.int (mixed ns k many)):=fun k many h1 h2=>d5 h1 h2
        have a1:=dq ns a ht
        have lb:=uq ns a (3 + mixed ns a top) (by omega)
        have b1:=dq ns (a + 1) (many:=4) (by decide)
        have b2:=dC ns (a + 1) (many:=4) (by decide)
        have n1:=dq ns (a + 3) (many:=3) (by decide)
        have n2:=dC ns (a + 3) (many:=3) (by decide)
        have c1:=dq ns (a + 6) (many:=3) (by decide)
        have c2:=dC ns (a + 6) (many:=3) (by decide)
        -- every
        have s1:bw [7] 4 (g2 bz (gC (.int 3)) (aF au (ae (ag 0) (ae (ag 1) (ae (ag 2) ao))))) [some (aI ns),some (.int a),some (.int top),some (.bool tools),none,none,none,none,none,none]
           =.nx [some (aI ns),some (.int a),some (.int top),some (.bool tools),some (.int (3 + mixed ns a top)),none,none,none,none,none]:=by
          rw [ec,if_pos (by simp)]
          simp only [a9,aC,aO,cq,aB (show 0 ∉ [7] by decide),aB (show 1 ∉ [7] by decide),aB (show 2 ∉ [7] by decide),ar,aw,d4,Rs.ai,hm a top ha ht,gP,Rs.ak,ay]
          rfl
        generalize hev:3 + mixed ns a top=ev at *
        have evp:3≤ev:=by omega
        have s2:bw [7] 5 (g2 lJ (aF au (ae (ag 0) (ae (g2 bz (ag 1) (gC (.int 1))) (ae (gC (.int 4)) ao)))) (gF tX (ae (g2 dEq (aF au (ae (ag 0) (ae (g2 bz (ag 1) (gC (.int 2))) (ae (gC (.int 3)) ao)))) (gC (.int 0))) ao))) [some (aI ns),some (.int a),some (.int top),some (.bool tools),some (.int ev),none,none,none,none,none]
           =.nx [some (aI ns),some (.int a),some (.int top),some (.bool tools),some (.int ev),some (.int (mixed ns (a + 1) 4 * (if mixed ns (a + 2) 3=0 then 1 else 0))),none,none,none,none]:=by
          rw [ec,if_pos (by simp)]
          simp only [a9,aC,aO,cq,g6,aB (show 0 ∉ [7] by decide),aB (show 1 ∉ [7] by decide),ar,aw,d4,Rs.ai,gP,Rs.ak,hm (a + 1) 4 (by omega) (by decide),hm (a + 2) 3 (by omega) (by decide),lq,Av]
          rw [xg (by omega) (by omega)]
          simp only [Rs.ak,ay,beq_iff_eq]
          rfl
        have s3:bw [7] 5 (gF qa (ae (ag 5) (ae (g2 kW (ag 4) (gC (.int 1))) ao))) [some (aI ns),some (.int a),some (.int top),some (.bool tools),some (.int ev),some (.int (mixed ns (a + 1) 4 * (if mixed ns (a + 2) 3=0 then 1 else 0))),none,none,none,none]
           =.nx [some (aI ns),some (.int a),some (.int top),some (.bool tools),some (.int ev),some (.int (iR ns a ev)),none,none,none,none]:=by
          rw [ec,if_pos (by simp)]
          simp only [g6,aC,aO,cq,aB (show 4 ∉ [7] by decide),aB (show 5 ∉ [7] by decide),ar,aw,d4,Rs.ai,rn,Rs.ak,Eo,ay]
          rfl
        generalize hla:iR ns a ev=la at *
        have s4:bw [7] 6 (g2 kW (ag 4) (ag 5)) [some (aI ns),some (.int a),some (.int top),some (.bool tools),some (.int ev),some (.int la),none,none,none,none]
           =.nx [some (aI ns),some (.int a),some (.int top),some (.bool tools),some (.int ev),some (.int la),some (.int (ev - la)),none,none,none]:=by
          rw [ec,if_pos (by simp)]
          simp only [cq,aB (show 4 ∉ [7] by decide),aB (show 5 ∉ [7] by decide),ar,aw,Rs.ai,rn,Rs.ak,ay]
          rfl
        have s5:sIf (gT (g2 dEq (aF au (ae (ag 0) (ae (g2 bz (ag 1) (gC (.int 1))) (ae (gC (.int 3)) ao)))) (gC (.int 0)))) (bw [7] 6 (g2 kW (ag 6) (aF au (ae (ag 0) (ae (g2 bz (ag 1) (gC (.int 2))) (ae (ag 6) ao)))))) bM
              [some (aI ns),some (.int a),some (.int top),some (.bool tools),some (.int ev),some (.int la),some (.int (ev - la)),none,none,none]
           =.nx [some (aI ns),some (.int a),some (.int top),some (.bool tools),some (.int ev),some (.int la),some (.int (nW ns a (ev - la))),none,none,none]:=by
          rw [dz]
          simp only [eu,cq,a9,aC,aO,ar,aw,d4,Rs.ai,gP,Rs.ak,hm (a + 1) 3 (by omega) (by decide),lq,bA,ay]
          by_cases z:mixed ns (a + 1) 3=0
          · rw [if_pos (by simp [z]),ec,if_pos (by simp)]
            simp only [a9,aC,aO,cq,aB (show 0 ∉ [7] by decide),aB (show 1 ∉ [7] by decide),aB (show 6 ∉ [7] by decide),ar,aw,d4,Rs.ai,gP,Rs.ak,hm (a + 2) (ev - la) (by omega) (by omega),rn,ay]
            unfold nW
            rw [if_pos z]
            rfl
          · rw [if_neg (by simp [z])]
            unfold nW
            rw [if_neg z]
            rfl
        generalize hdu:nW ns a (ev - la)=du at *
        have s6:kD [7] 7 ao [some (aI ns),some (.int a),some (.int top),some (.bool tools),some (.int ev),some (.int la),some (.int du),none,none,none]
           =.nx [some (aI ns),some (.int a),some (.int top),some (.bool tools),some (.int ev),some (.int la),some (.int du),some (.list []),none,none]:=rfl
        have src:cZ (ae (aF au (ae (ag 0) (ae (g2 bz (ag 1) (gC (.int 3))) (ae (gC (.int 3)) ao)))) ao) (mask [7] [some (aI ns),some (.int a),some (.int top),some (.bool tools),some (.int ev),some (.int la),some (.int du),some (.list []),none,none])=.ok (b7 0 (mixed ns (a + 3) 3).toNat):=by
          simp only [gI,a9,aC,aO,cq,aB (show 0 ∉ [7] by decide),aB (show 1 ∉ [7] by decide),ar,aw,d4,Rs.ai,gP,Rs.ak,hm (a + 3) 3 (by omega) (by decide)]
          exact gN n1 (by omega)
        obtain ⟨δ',e,x8,x9,hδ⟩:=fo (β:=Unit) (tgt:=bK 8) (body:=bu (bw [7] 9 (aF au (ae (ag 0) (ae (g2 bz (g2 bz (ag 1) (gC (.int 4))) (ag 8)) (ae (gC (.int 40)) ao)))))
    (bu (iT [7] 7 (kf (ae (g2 bz (gC (.int 1)) (g2 qK (ag 9) (gC (.int 4)))) (ae (g2 dIx (dE (ae (gC (.int 0)) (ae (gC (.int 1)) (ae (gC (.int 1)) (ae (gC (.int 0)) (ae (gC .none) ao)))))) (g2 qK (g2 vI (ag 9) (gC (.int 4))) (gC (.int 5)))) ao))))
    (sIf (jA (gT (ag 3))) (ze 7 (g1 qL (gC (.int 1))) (kf (ae (g2 dIx (g2 dIx (ag 7) (g1 qL (gC (.int 1)))) (gC (.int 0))) (ae (gC .none) ao)))) bM)))
          (fun i δ=>∃ x8 x9,δ=[some (aI ns),some (.int a),some (.int top),some (.bool tools),some (.int ev),some (.int la),some (.int du),some (.list ((List.range i).map fun (k:Nat)=>bJ (fk ns (a + 4 + (k:Int)) tools))),x8,x9])
          (b7 0 (mixed ns (a + 3) 3).toNat) 0 (fun i d δ hi pz4=>by
            obtain ⟨x8,x9,hx⟩:=pz4
            subst hx
            rw [Nat.zero_add] at *
            obtain ⟨hil,rfl⟩:=ia hi
            refine ⟨[some (aI ns),some (.int a),some (.int top),some (.bool tools),some (.int ev),some (.int la),some (.int du),some (.list ((List.range i).map fun (k:Nat)=>bJ (fk ns (a + 4 + (k:Int)) tools))),some (.int (0 + (i:Int))),x9],_,rfl,uC ns a top tools (.int ev) (.int la) (.int du) ha _ (by simp; omega) i none x9,some (.int (0 + (i:Int))),some (.int (mixed ns (a + 4 + (0 + (i:Int))) 40)),?_⟩
            rw [qA]) [some (aI ns),some (.int a),some (.int top),some (.bool tools),some (.int ev),some (.int la),some (.int du),some (.list []),none,none] ⟨none,none,rfl⟩
        subst hδ
        rw [Nat.zero_add,dy] at e
        have hd:(mkE ns a top tools).d=.tuple [.int ev,.int du,.int la,.tuple (((List.range (mixed ns (a + 3) 3).toNat).map fun (k:Nat)=>bJ (fk ns (a + 4 + (k:Int)) tools))++[bJ (1 + mixed ns (a + 6) 3,none)])]:=by
          simp only [mkE,Er.d,List.map_append,List.map_map,hev,hla,hdu]
          rfl
        rw [hd]
        simp only [fJ]
        rw [aV,s1]; simp only
        rw [aV,s2]; simp only
        rw [aV,s3]; simp only
        rw [aV,s4]; simp only
        rw [aV,s5]; simp only
        rw [aV,s6]; simp only
        rw [aV,dR,src,ay,e]; simp only
        simp only [cx,tR,g0,aC,aO,cq,g6,a9,ar,aw,d4,Rs.ai,gP,Rs.ak,hm (a + 6) 3 (by omega) (by decide)]
        have hcat:bz (.list ((List.range (mixed ns (a + 3) 3).toNat).map fun (k:Nat)=>bJ (fk ns (a + 4 + (k:Int)) tools))) (.list [.tuple [.int (1 + mixed ns (a + 6) 3),.none]])=some (.list (((List.range (mixed ns (a + 3) 3).toNat).map fun (k:Nat)=>bJ (fk ns (a + 4 + (k:Int)) tools))++[bJ (1 + mixed ns (a + 6) 3,none)])):=by
          show (if _ then _ else _)=_
          rw [if_pos (by simp; omega)]
          rfl
        rw [hcat]
        simp
      · exact absurd rfl hne
    · exact absurd rfl hne
noncomputable def bh:Gf
  | [s,.int a,.int most,.int top,.bool tools]=>(match fK s with
    | some ns=>if 0≤a∧0 < most∧most≤6∧0 < top∧top≤58 then .ok (av (oI ns a most top tools)) else .no
    | none=>.no)
  | _=>.no
theorem iN {ns:List Int} {a most top:Int} {tools:Bool} (h1:0≤a) (h2:0 < most) (h3:most≤6) (h4:0 < top) (h5:top≤58):bh [aI ns,.int a,.int most,.int top,.bool tools]=.ok (av (oI ns a most top tools)):=by
  unfold bh; simp [gn,h1,h2,h3,h4,h5]
theorem kB {s:PyData} {ns:List Int} (hs:fK s=some ns):s=aI ns:=by
  unfold fK at hs
  split at hs
  · rename_i l
    rw [cQ hs]; rfl
  · cases hs
theorem zl {f:PyData→Int→Int→Int→Bool→Rs PyData} {ds:List PyData} (h:(match ds with | [x0,.int x1,.int x2,.int x3,.bool x4]=>f x0 x1 x2 x3 x4 | _=>.no)≠.no):∃ x0 x1 x2 x3 x4,ds=[x0,.int x1,.int x2,.int x3,.bool x4]∧f x0 x1 x2 x3 x4≠.no:=by
  rcases ds with _ | ⟨x0,_ | ⟨x1,_ | ⟨x2,_ | ⟨x3,_ | ⟨x4,_ | ⟨y,ys⟩⟩⟩⟩⟩⟩
  · exact absurd rfl h
  · exact absurd rfl h
  · first | exact absurd rfl h | (cases x1 <;> exact absurd rfl h)
  · first | exact absurd rfl h | (cases x1 <;> first | exact absurd rfl h | (cases x2 <;> exact absurd rfl h))
  · first | exact absurd rfl h | (cases x1 <;> first | exact absurd rfl h | (cases x2 <;> first | exact absurd rfl h | (cases x3 <;> exact absurd rfl h)))
  · skip
    cases x1 with
    | int x1 =>
      cases x2 with
      | int x2 =>
        cases x3 with
        | int x3 =>
          cases x4 with
          | bool x4 =>
            exact ⟨_,_,_,_,_,rfl,h⟩
          | _=>exact absurd rfl h
        | _=>first | exact absurd rfl h | (cases x4 <;> exact absurd rfl h)
      | _=>first | exact absurd rfl h | (cases x3 <;> first | exact absurd rfl h | (cases x4 <;> exact absurd rfl h))
    | _=>first | exact absurd rfl h | (cases x2 <;> first | exact absurd rfl h | (cases x3 <;> first | exact absurd rfl h | (cases x4 <;> exact absurd rfl h)))
  · first | exact absurd rfl h | (cases x1 <;> first | exact absurd rfl h | (cases x2 <;> first | exact absurd rfl h | (cases x3 <;> first | exact absurd rfl h | (cases x4 <;> exact absurd rfl h))))
theorem qM (cs:Cs):∀ ds,ds.length=5→bh ds≠.no→bf (ff cs bP au (ds.map some++List.replicate 1 none))=bh ds:=by
  intro ds hl hne
  obtain ⟨s,a,most,top,tools,ez,hz⟩:=zl hne
  clear hne; subst ez; have hne:=hz; clear hz
  · skip
    split at hne
    · rename_i ns hs
      have es:=kB hs
      subst es
      split at hne
      · rename_i hc
        obtain ⟨ha,hm1,hm2,ht,ht2⟩:=hc
        rw [iN ha hm1 hm2 ht ht2]
        have hm:=d5 (ns:=ns) ha hm1
        have m1:=dq ns a hm1
        have m2:=dC ns a hm1
        have hcm:bx 6 (cZ (ae (ag 5) ao)) bL (aF bP (ae (ag 0) (ae (g2 bz (g2 bz (ag 1) (gC (.int 1))) (g2 lJ (gC (.int 7)) (ag 6))) (ae (ag 3) (ae (ag 4) ao))))) bj
            [some (aI ns),some (.int a),some (.int most),some (.int top),some (.bool tools),some (.int (1 + mixed ns a most))]=.ok ((b7 0 (1 + mixed ns a most).toNat).map fun d=>(mkE ns (a + 1 + 7 * deI d) top tools).d) :=
          cU rfl (by simp only [gI,aC,aO,ar,aw,Rs.ai]; exact gN (by omega) (by omega)) (by rw [dy]; omega) fun d hd=>by
            obtain ⟨i,hi⟩:=List.getElem?_of_mem hd
            obtain ⟨_,rfl⟩:=ia hi
            simp only [List.cons_append,List.nil_append,a9,aC,aO,cq,ar,aw,d4,Rs.ai,gP,Rs.ak]
            rw [xg (by decide) (by decide)]
            simp only [Rs.ak,Rs.ai,gP]
            exact i4 (by omega) ht ht2
        have hds:av (oI ns a most top tools)=.tuple ((b7 0 (1 + mixed ns a most).toNat).map fun d=>(mkE ns (a + 1 + 7 * deI d) top tools).d):=by
          unfold av oI b7
          rw [List.map_map,List.map_map]
          congr 1
          refine List.map_congr_left fun k _=>?_
          simp [deI]
        rw [hds]
        show bf (ff cs bP au [some (aI ns),some (.int a),some (.int most),some (.int top),some (.bool tools),none])=_
        simp only [ff,aV,ej,List.length_cons,List.length_nil,Nat.reduceAdd,Nat.reduceLT,if_true,a9,aC,aO,cq,ar,aw,d4,Rs.ai,hm,gP,Rs.ak,ay,List.set_cons_succ,List.set_cons_zero,cx,g6,jx,hcm,vS,cf]
      · exact absurd rfl hne
    · exact absurd rfl hne
end RS
set_option maxRecDepth 100000
set_option maxHeartbeats 1000000
namespace RS
open PySem L2
noncomputable def a6:Gf
  | [d,.int t]=>if sT d then .ok (.bool ((deE d).has t)) else .no
  | _=>.no
theorem fM {e:Er} {t:Int} (h:e.Sh):a6 [e.d,.int t]=.ok (.bool (e.has t)):=by unfold a6; simp [mO h,xB]
theorem uV (t:Int):∀ ps:List (Int × Option Int),inD (.int t) ((ps.map bJ).map fun d=>bZ (cN d).2)=ps.any fun p=>p.2 == some t
  | []=>rfl
  | p::r=>by
    have h1:eqV (toV (bZ p.2)) (.int t)=(p.2 == some t):=by
      rcases hp:p.2 with _ | z
      · rfl
      · show (z == t)=(some z == some t)
        simp
    have:=uV t r
    unfold inD inV at this ⊢
    rw [List.map_cons,List.map_cons,List.map_cons,List.any_cons,List.any_cons,this,ky]
    show (eqV (toV (bZ p.2)) (.int t) || _)=_
    rw [h1]
theorem yU (ps:List (Int × Option Int)):((ps.map bJ).map fun d=>bZ (cN d).2).all fw=true:=by
  rw [List.all_eq_true]; intro d hd; obtain ⟨n,_,rfl⟩:=List.mem_map.mp hd; cases (cN n).2 <;> rfl
theorem tj {f:PyData→Int→Rs PyData} {ds:List PyData} (h:(match ds with | [x0,.int x1]=>f x0 x1 | _=>.no)≠.no):∃ x0 x1,ds=[x0,.int x1]∧f x0 x1≠.no:=by
  rcases ds with _ | ⟨x0,_ | ⟨x1,_ | ⟨y,ys⟩⟩⟩
  · exact absurd rfl h
  · exact absurd rfl h
  · skip
    cases x1 with
    | int x1 =>
      exact ⟨_,_,rfl,h⟩
    | _=>exact absurd rfl h
  · first | exact absurd rfl h | (cases x1 <;> exact absurd rfl h)
theorem wY (cs:Cs):∀ ds,ds.length=2→a6 ds≠.no→bf (ib cs (ds.map some++List.replicate 0 none))=a6 ds:=by
  intro ds hl hne
  obtain ⟨d,t,ez,hz⟩:=tj hne
  clear hne; subst ez; have hne:=hz; clear hz
  · skip
    split at hne
    · rename_i hd
      obtain ⟨e1,sh⟩:=rp hd
      rw [← e1]
      generalize deE d=e at sh
      rw [fM sh]
      have hc:bx 2 (cm (g2 dIx (ag 0) (gC (.int 3)))) bL (g2 dIx (ag 2) (gC (.int 1))) bj [some e.d,some (.int t)]=.ok ((e.parts.map bJ).map fun d=>bZ (cN d).2) :=
        cU rfl (by simp [Bq]) (by have:=sh.pn; simp; omega) fun d hd'=>by
          obtain ⟨p,hp,rfl⟩:=List.mem_map.mp hd'
          simp [Ak,ky]
      have hi:gG false (.int t) (.list ((e.parts.map bJ).map fun d=>bZ (cN d).2))=some (.bool (e.has t)):=by
        show (if (fw (.int t) && _)=true then some (PyData.bool (if false=true then _ else inD _ _)) else none)=_
        rw [yU,uV]; rfl
      show bf (ib cs [some e.d,some (.int t)])=_
      simp only [ib,cx,cq,ar,aw,jx,hc,Rs.ai,hi,Rs.ak,ay,cf]
    · exact absurd rfl hne
noncomputable def cI:Gf
  | [d,r,.int t]=>if pW d && jf (cj d).length r then .ok (bZ (bY (cj d) (c7 r) t)) else .no
  | _=>.no
theorem mB {es:List Er} {rs:List Int} {t:Int} (h1:es.length≤100) (h:∀ e∈es,e.Sh) (hr:bV es.length rs):cI [av es,aL rs,.int t]=.ok (bZ (bY es rs t)):=by
  unfold cI; simp [pz h1 h,dw,lN hr,fW]
theorem n8 (es:List Er) (hsh:∀ e∈es,e.Sh) (R:PyData) (t:Int):∀ (rs:List Int) (k:Nat) (x3 x4:Option PyData),(∀ m∈rs,0≤m∧m < es.length) →
    (∃ i,hts es rs k t=some i∧forL (e8 [3,4]) (sIf (gT (aF a6 (ae (g2 dIx (ag 0) (ag 4)) (ae (ag 2) ao)))) (bQ (ag 3)) bM) ((rs.map PyData.int).mapIdx fun i d=>.tuple [.int ((k + i:Nat):Int),d]) [some (av es),some R,some (.int t),x3,x4]=.rt (.int i))
   ∨(hts es rs k t=none∧∃ δ,forL (e8 [3,4]) (sIf (gT (aF a6 (ae (g2 dIx (ag 0) (ag 4)) (ae (ag 2) ao)))) (bQ (ag 3)) bM) ((rs.map PyData.int).mapIdx fun i d=>.tuple [.int ((k + i:Nat):Int),d]) [some (av es),some R,some (.int t),x3,x4]=.nx δ)
  | [],k,x3,x4,_=>.inr ⟨rfl,_,rfl⟩
  | m::r,k,x3,x4,hm=>by
    have h0:=hm m List.mem_cons_self
    have a2:atI (es.map Er.d) m=some (az es m).d:=fU h0.1 h0.2
    have ht:=fM (t:=t) (hsh _ (bW h0.1 h0.2))
    rw [List.map_cons,List.mapIdx_cons]
    unfold forL
    have e1:e8 [3,4] (PyData.tuple [.int ((k + 0:Nat):Int),.int m]) [some (av es),some R,some (.int t),x3,x4]=some [some (av es),some R,some (.int t),some (.int (k:Int)),some (.int m)]:=rfl
    rw [e1]
    simp only [dz,eu,a9,aC,aO,cq,ar,aw,Rs.ai,av,ya,a2,Rs.ak,ht,bA,ay,cx,ee]
    unfold hts
    cases hh:(az es m).has t with
    | true=>exact .inl ⟨k,rfl,rfl⟩
    | false =>
      simp only [Bool.false_eq_true,if_false]
      have ih:=n8 es hsh R t r (k + 1) (some (.int (k:Int))) (some (.int m)) (fun x hx=>hm x (List.mem_cons_of_mem _ hx))
      rw [show ((k + 1:Nat):Int)=(k:Int) + 1 by omega] at ih
      have ef:(fun (i:Nat) (d:PyData)=>PyData.tuple [.int ((k + (i + 1):Nat):Int),d])=fun i d=>.tuple [.int ((k + 1 + i:Nat):Int),d]:=by
        funext i d; rw [show k + (i + 1)=k + 1 + i by omega]
      rw [ef]
      exact ih
theorem oQ {f:PyData→PyData→Int→Rs PyData} {ds:List PyData} (h:(match ds with | [x0,x1,.int x2]=>f x0 x1 x2 | _=>.no)≠.no):∃ x0 x1 x2,ds=[x0,x1,.int x2]∧f x0 x1 x2≠.no:=by
  rcases ds with _ | ⟨x0,_ | ⟨x1,_ | ⟨x2,_ | ⟨y,ys⟩⟩⟩⟩
  · exact absurd rfl h
  · exact absurd rfl h
  · exact absurd rfl h
  · skip
    cases x2 with
    | int x2 =>
      exact ⟨_,_,_,rfl,h⟩
    | _=>exact absurd rfl h
  · first | exact absurd rfl h | (cases x2 <;> exact absurd rfl h)
theorem Ar (cs:Cs):∀ ds,ds.length=3→cI ds≠.no→bf (j4 cs a6 (ds.map some++List.replicate 2 none))=cI ds:=by
  intro ds hl hne
  obtain ⟨d,r,t,ez,hz⟩:=oQ hne
  clear hne; subst ez; have hne:=hz; clear hz
  · skip
    split at hne
    · rename_i hc
      simp only [Bool.and_eq_true] at hc
      obtain ⟨c1,c2⟩:=hc
      obtain ⟨e1,hlen,hsh⟩:=w6 c1
      obtain ⟨e2,hr⟩:=oY c2
      rw [← e1,← e2]
      generalize cj d=es at *
      generalize c7 r=rs at *
      rw [mB hlen hsh hr]
      have loop:=n8 es hsh (aL rs) t rs 0 none none hr.rng
      show bf (j4 cs a6 [some (av es),some (aL rs),some (.int t),none,none])=_
      have src:iG (ae (ag 1) ao) [some (av es),some (aL rs),some (.int t),none,none]=.ok ((rs.map PyData.int).mapIdx fun i d=>.tuple [.int ((0 + i:Nat):Int),d]):=by
        simp only [oV,aC,aO,ar,aw,Rs.ai,aL,xI,gg,Nat.zero_add]
      simp only [j4]
      rw [aV,dR,eM,src,ay]
      unfold bY
      rcases loop with ⟨i,q1,q2⟩ | ⟨q1,δ,q2⟩
      · rw [q2]
        have q1:hts es rs 0 t=some i:=q1
        rw [q1]; rfl
      · rw [q2]
        have q1:hts es rs 0 t=none:=q1
        rw [q1]; rfl
    · exact absurd rfl hne
noncomputable def cY (es:List Er) (rs:List Int):PyData:=.list ((List.range 4).map fun (t:Nat)=>bZ (bY es rs t))
noncomputable def bT:Gf
  | [d,r]=>if pW d && jf (cj d).length r then .ok (cY (cj d) (c7 r)) else .no
  | _=>.no
theorem i9 {es:List Er} {rs:List Int} (h1:es.length≤100) (h:∀ e∈es,e.Sh) (hr:bV es.length rs):bT [av es,aL rs]=.ok (cY es rs):=by
  unfold bT; simp [pz h1 h,dw,lN hr,fW]
theorem vZ {f:PyData→PyData→Rs PyData} {ds:List PyData} (h:(match ds with | [x0,x1]=>f x0 x1 | _=>.no)≠.no):∃ x0 x1,ds=[x0,x1]∧f x0 x1≠.no:=by
  rcases ds with _ | ⟨x0,_ | ⟨x1,_ | ⟨y,ys⟩⟩⟩
  · exact absurd rfl h
  · exact absurd rfl h
  · skip
    exact ⟨_,_,rfl,h⟩
  · exact absurd rfl h
theorem t9 (cs:Cs):∀ ds,ds.length=2→bT ds≠.no→bf (fI cs cI (ds.map some++List.replicate 0 none))=bT ds:=by
  intro ds hl hne
  obtain ⟨d,r,ez,hz⟩:=vZ hne
  clear hne; subst ez; have hne:=hz; clear hz
  · skip
    split at hne
    · rename_i hc
      simp only [Bool.and_eq_true] at hc
      obtain ⟨c1,c2⟩:=hc
      obtain ⟨e1,hlen,hsh⟩:=w6 c1
      obtain ⟨e2,hr⟩:=oY c2
      rw [← e1,← e2]
      generalize cj d=es at *
      generalize c7 r=rs at *
      rw [i9 hlen hsh hr]
      have hh:∀ t:Int,cI [av es,aL rs,.int t]=.ok (bZ (bY es rs t)):=fun t=>mB hlen hsh hr
      have hcm:bx 2 (cZ (ae (gC (.int 4)) ao)) bL (aF cI (ae (ag 0) (ae (ag 1) (ae (ag 2) ao)))) bj [some (av es),some (aL rs)]=.ok ((b7 0 (4:Int).toNat).map fun x=>bZ (bY es rs (deI x))) :=
        cU rfl (by simp only [gI,aC,aO,d4,Rs.ai]; exact gN (by decide) (by decide)) (by rw [dy]; decide) fun x hx=>by
          obtain ⟨i,hi⟩:=List.getElem?_of_mem hx
          obtain ⟨_,rfl⟩:=ia hi
          simp only [List.cons_append,List.nil_append,a9,aC,aO,ar,aw,Rs.ai,hh]
          rfl
      have hd:cY es rs=.list ((b7 0 (4:Int).toNat).map fun x=>bZ (bY es rs (deI x))):=by
        unfold cY b7
        rw [List.map_map]
        congr 1
        try exact List.map_congr_left fun k _=>by simp [deI]
      rw [hd]
      show bf (fI cs cI [some (av es),some (aL rs)])=_
      simp only [fI,cx,jx,hcm,Rs.ai,ay,cf]
    · exact absurd rfl hne
end RS
set_option maxRecDepth 100000
set_option maxHeartbeats 1000000
namespace RS
open PySem L2
noncomputable def kY (ns:List Int) (a:Int) (many:Nat):Nat→List Int × List Int
  | 0=>((List.range many).map fun (i:Nat)=>(i:Int),[])
  | i + 1=>((kY ns a many i).1.eraseIdx (mixed ns (a + (i:Int)) ((kY ns a many i).1.length:Int)).toNat,(kY ns a many i).2++[(kY ns a many i).1.getD (mixed ns (a + (i:Int)) ((kY ns a many i).1.length:Int)).toNat 0])
noncomputable def oT (ns:List Int) (a:Int) (many:Nat):List Int:=(kY ns a many many).2
theorem p9 {α:Type}:∀ (l:List α) (j:Nat) (h:j < l.length),(l[j]::l.eraseIdx j).Perm l
  | [],j,h=>by simp at h
  | x::r,0,h=>by simp
  | x::r,j + 1,h=>by
    simp only [List.getElem_cons_succ,List.eraseIdx_cons_succ]
    have h':j < r.length:=by simpa using h
    exact (List.Perm.swap _ _ _).trans ((p9 r j h').cons x)
theorem uX (ns:List Int) (a:Int) (many:Nat):∀ i,i≤many→(kY ns a many i).1.length=many - i∧(kY ns a many i).2.length=i∧((kY ns a many i).1++(kY ns a many i).2).Perm ((List.range many).map fun (i:Nat)=>(i:Int))
  | 0,_=>⟨by simp [kY],rfl,by simp [kY]⟩
  | i + 1,h=>by
    obtain ⟨h1,h2,h3⟩:=uX ns a many i (by omega)
    simp only [kY]
    generalize (kY ns a many i).1=L at *
    generalize (kY ns a many i).2=M at *
    have hL:0 < (L.length:Int):=by omega
    have m0:=dq ns (a + (i:Int)) hL
    have m1:=dC ns (a + (i:Int)) hL
    generalize mixed ns (a + (i:Int)) (L.length:Int)=z at *
    have hz:z.toNat < L.length:=by omega
    refine ⟨by rw [List.length_eraseIdx_of_lt hz]; omega,by simp [h2],?_⟩
    refine List.Perm.trans ?_ h3
    rw [List.getD_eq_getElem?_getD,List.getElem?_eq_getElem hz,Option.getD_some]
    have p1:(L[z.toNat]::L.eraseIdx z.toNat).Perm L:=p9 L z.toNat hz
    have p2:(L.eraseIdx z.toNat++(M++[L[z.toNat]])).Perm ((L[z.toNat]::L.eraseIdx z.toNat)++M):=by
      rw [← List.append_assoc]
      exact (List.perm_append_singleton _ _)
    exact p2.trans (p1.append_right M)
theorem we (ns:List Int) (a:Int) (many:Nat):bV many (oT ns a many):=by
  obtain ⟨h1,h2,h3⟩:=uX ns a many many (Nat.le_refl _)
  unfold oT
  have e:(kY ns a many many).1=[]:=List.length_eq_zero_iff.mp (by omega)
  rw [e,List.nil_append] at h3
  refine ⟨h2,fun r hr=>?_,h3.nodup_iff.mpr ?_⟩
  · obtain ⟨k,hk,rfl⟩:=List.mem_map.mp (h3.mem_iff.mp hr)
    have:=List.mem_range.mp hk
    omega
  · exact (List.nodup_range).map (f:=fun (i:Nat)=>(i:Int)) fun x y h=>by
      intro q; have q:(x:Int)=(y:Int):=q; exact h (by omega)
noncomputable def jB:Gf
  | [s,.int a,.int many]=>(match fK s with
    | some ns=>if 0≤a∧0≤many∧many≤100 then .ok (aL (oT ns a many.toNat)) else .no
    | none=>.no)
  | _=>.no
theorem oG {ns:List Int} {a many:Int} (h1:0≤a) (h2:0≤many) (h3:many≤100):jB [aI ns,.int a,.int many]=.ok (aL (oT ns a many.toNat)):=by
  unfold jB; simp [gn,h1,h2,h3]
end RS
set_option maxRecDepth 100000
set_option maxHeartbeats 1000000
namespace RS
open PySem PySem.Spec PyProof.Rows L2
section
variable {P:Program} {w:World} {K:PySem.W.Frag} {mg:Str→Option Value} {base:Heap}
theorem BF {x qual:Str} {st:Stmt} {f:Addr} {fd:FuncData} {N ps:List Str} {k:Nat} {O:List Nat} {G:Ds→Sr} {gf:List PyData→Rs PyData} (F:Fun K x qual st f fd) (S:bb N ps (aG st)) (hO:∀ i∈O,ps.length≤i)
    (body:∀ (cdv:Value) (A:Around) (outer:List Env) (s:Shared) (H:Hp) (E:XK),fm k (A.deeper (envOfC qual (aG st) s.heap.objs.size f cdv))→PBD (iX (CXW P w) P w K mg base N qual (aG st) f cdv A outer s H E) E O (eR st) G)
    (hg:∀ ds,ds.length=ps.length→gf ds≠.no→bf (G (ds.map some++List.replicate (N.length - ps.length) none))=gf ds):jk P w K mg base (CXW P w) (k + 1) f fd ps (spD K ps.length gf):=by
  refine tO F S (fun vs H Q E h=>?_) (fun cdv A outer s H vs Q E hr h=>?_)
  · obtain ⟨A,ds,hA,hi,hl,o⟩:=h
    rw [hi.length,hl]
  · obtain ⟨A0,ds,hA,hi,hl,o⟩:=h
    refine ⟨_,body cdv A outer s H E hr,H,A0,[],_,cO.start hA hi hl hO,?_⟩
    have hg':=hg ds hl (fun z=>by rw [z] at o; exact o)
    cases q:G (ds.map some++List.replicate (N.length - ps.length) none) with
    | rt d=>rw [q] at hg'; rw [← hg'] at o; exact fun v H' s' hv=>o v H' s' hv
    | nx δ=>rw [q] at hg'; rw [← hg'] at o; exact fun A' σ H' R'=>o .non H' R'.same is_none
    | rz C=>rw [q] at hg'; rw [← hg'] at o; exact fun H' s'=>o H' s'
    | bk δ=>rw [q] at hg'; rw [← hg'] at o; exact o.elim
    | ct δ=>rw [q] at hg'; rw [← hg'] at o; exact o.elim
    | no=>rw [q] at hg'; rw [← hg'] at o; exact o.elim
theorem a8 {h:Heap} {x:Str} {st:Stmt} {ps:List Str} {f:Addr} {oc:Value} {od an:Option Addr} {sl:Array (Option Value)} {kV dc pm cd ct:Value} (X:K.In h) (G:h.Ns mainGlobals mg)
    (hb:∀ (kV doc pm:Value) (an:Option Addr) (cdv ct:Value) (us:List Value),us.length=ps.length→bindArgs (PySem.W.fnOf x x (g7 st) (eR st) (aG st) .none kV doc pm an cdv ct) ⟨us,[]⟩=pure (ps.zip us))
    (a:PySem.W.nsIn K mainGlobals x=some (some (.ref f)))
    (l:K.lookup f=some ⟨oc,od,.func (PySem.W.fnOf x x (g7 st) (eR st) (aG st) .none kV dc pm an cd ct),sl⟩)
    (c:PySem.W.codeIn K cd x=true) (k:PySem.W.keepIn K (.ref f)=true):a7 K mg x st ps :=
  have F:=Aw (st:=st) l c k
  ⟨f,_,F,F.binds hb,PySem.W.mg_of X G a⟩
theorem xS {h:Heap} {x:Str} {C:Addr} (X:K.In h) (G:h.Ns mainGlobals mg) (a:PySem.W.nsIn K mainGlobals x=some (some (.ref C)))
    (e:PySem.W.excIn K C [.type "ValueError",.type "Exception",.type "BaseException",.type "object"] "ValueError.__new__"=true):yC K mg x C:=⟨PySem.W.mg_of X G a,e⟩
theorem iM {h:Heap} {x:Str} {n:Int} {t:_} (X:K.In h) (G:h.Ns mainGlobals mg) (a:PySem.W.nsIn K mainGlobals x=some (some (.int n t))):∃ t,mg x=some (.int n t):=⟨t,PySem.W.mg_of X G a⟩
end
noncomputable def fj (n:Nat):Gf
  | [s]=>(match fK s with
    | some ns=>if ns.length≤n then .ok (.bool true) else .no
    | none=>.no)
  | _=>.no
theorem _root_.L2.tabsIn_nil (e:L2.yk=[]) {K:PySem.W.Frag} {h:Heap}:L2.p0 K h:=⟨(fun P q pz2=>by obtain ⟨x,m,_⟩:=pz2; rw [e] at m; cases m),(fun P q q' pz3 _=>by obtain ⟨x,m,_⟩:=pz3; rw [e] at m; cases m)⟩
theorem FJ {l:PySem.W.OpenLaw} {n k:Nat} {q:Program} {loose:List Str} {XP:(Str→Option Value)→Heap→Prop} {YP:World→Heap→Prop} {d:DefRec} {K:Params→PySem.W.Frag} {x:Str} {st:Stmt}
    (hn:l.most=some n) (hn2:n≤sizeLine) (hdf:d.params.defaults=[]) (hr:fm k callerA)
    (hY:∀ (w:World) (h:Heap),YP w h→(K w.params).In h)
    (hb:∀ (kV doc pm:Value) (an:Option Addr) (cdv ct:Value) (us:List Value),us.length=1→bindArgs (PySem.W.fnOf d.name d.name (g7 st) (eR st) (aG st) .none kV doc pm an cdv ct) ⟨us,[]⟩=pure ([x].zip us))
    (F:∀ (w:World) (mg:Str→Option Value) (h:Heap),(K w.params).In h→h.Ns mainGlobals mg→
      a7 (K w.params) mg d.name st [x]∧∀ f fd,Fun (K w.params) d.name d.name st f fd→∀ base:Heap,(K w.params).In base→base.Ns mainGlobals mg→jk l.prog w (K w.params) mg base (CXW l.prog w) k f fd [x] (spD (K w.params) 1 (fj n)))
    (hTb:∀ (w:World) (h:Heap) (loose':List Str) (mean:ExcName→Option Value) (mg mb:Str→Option Value),PyProof.Rows.Top q loose' mean mg mb h→(K w.params).In h→L2.p0 (K w.params) h:=by exact fun _ _ _ _ _ _ _ _=>L2.tabsIn_nil rfl) :
    PySem.W.WalkO q loose XP YP l.row.toRowW d [] (fun f vs=>PySem.call f vs) :=
  L2.xH (n:=n) (k:=k) (x:=x) (CX:=fun w=>CXW l.prog w) (sp:=fun w=>spD (K w.params) 1 (fj n)) hn hn2 hdf hr hY
    (fun w mg fa h X G hfa=>by
      obtain ⟨⟨f,fd,F1,b,m⟩,hF⟩:=F w mg h X G
      have e:=hfa.symm.trans m
      cases e
      refine ⟨fd,fun s u=>?_,hF fa fd F1⟩
      obtain ⟨oc,od,kV,doc,pm,an,cdv,ct,osl,rfl,lk,hcd⟩:=F1.ex
      exact .of_eq (hb kV doc pm an cdv ct [u] rfl))
    (fun w H a ns hl hO hS=>by
      refine ⟨[],[aI ns],?_,?_,rfl,?_⟩
      · exact Ls.nil
      · rw [xU]; exact ⟨_,[],rfl,y2 hS,rfl⟩
      · have eg:fj n [aI ns]=.ok (.bool true):=by unfold fj; simp [gn,hl]
        rw [eg]
        intro v H' _ hv
        rw [xU] at hv
        unfold Is at hv
        exact hv)
    (fun w H s e s' qz5=>(by obtain ⟨_,_,_,_,_,_,z,_⟩:=qz5; exact z)) hTb
end RS
set_option maxRecDepth 100000
set_option maxHeartbeats 1000000
namespace RS
open PySem L2
theorem m3:∀ {ds:List PyData},(∀ d∈ds,bU d=true)→iP ds=true
  | [],_=>by unfold iP; rfl
  | d::r,h=>by unfold iP; rw [h d List.mem_cons_self,m3 fun e he=>h e (List.mem_cons_of_mem _ he)]; rfl
theorem jm {ds:List PyData} (h:∀ d∈ds,bU d=true):bU (.tuple ds)=true:=by unfold bU; exact m3 h
theorem gH {ds:List PyData} (h:∀ d∈ds,bU d=true):bU (.list ds)=true:=by unfold bU; exact m3 h
theorem hU (i:Int):bU (.int i)=true:=by unfold bU; rfl
theorem yF (o:Option Int):bU (bZ o)=true:=by cases o <;> (unfold bZ bU; rfl)
theorem vW (p:Int × Option Int):bU (bJ p)=true:=jm fun d hd=>by
  rcases List.mem_cons.mp hd with rfl | hd
  · exact hU _
  · cases List.mem_singleton.mp hd; exact yF _
theorem zO (e:Er):bU e.d=true:=jm fun d hd=>by
  rcases List.mem_cons.mp hd with rfl | hd
  · exact hU _
  · rcases List.mem_cons.mp hd with rfl | hd
    · exact hU _
    · rcases List.mem_cons.mp hd with rfl | hd
      · exact hU _
      · cases List.mem_singleton.mp hd
        exact jm fun d hd=>by obtain ⟨p,_,rfl⟩:=List.mem_map.mp hd; exact vW p
theorem kN (es:List Er):bU (av es)=true:=jm fun d hd=>by obtain ⟨p,_,rfl⟩:=List.mem_map.mp hd; exact zO p
theorem iB (rs:List Int):∀ d∈rs.map PyData.int,bU d=true:=fun d hd=>by obtain ⟨p,_,rfl⟩:=List.mem_map.mp hd; exact hU p
end RS
set_option maxRecDepth 100000
set_option maxHeartbeats 1000000
namespace RS
open PySem PySem.Spec PyProof.Rows L2
section
variable {P:Program} {w:World} {K:PySem.W.Frag} {mg:Str→Option Value} {base:Heap}
theorem xC {α:Type} {xs:List α} {k:Int} {v:α} (h0:0≤k) (h:xs[k.toNat]?=some v):atI xs k=some v:=by
  have:=BG h
  rwa [Int.toNat_of_nonneg h0] at this
theorem depthAll_ints:∀ ns:List Int,PyData.depthAll (ns.map PyData.int)≤1
  | []=>by simp [PyData.depthAll]
  | n::r=>by
    have:=depthAll_ints r
    simp only [List.map_cons,PyData.depthAll,PyData.depth]
    omega
theorem om:∀ ns:List Int,PyData.canLayAll0 (ns.map PyData.int)=true
  | []=>by simp [PyData.canLayAll0]
  | n::r=>by simp [PyData.canLayAll0,PyData.canLay0,om r]
theorem shaped_ints (ns:List Int):SeqAt.shaped (.list (ns.map PyData.int))=true:=by
  have:=depthAll_ints ns
  have h2:(PyData.list (ns.map PyData.int)).depth≤64:=by
    simp only [PyData.depth]
    omega
  simp [SeqAt.shaped,PyData.canLay0,om,h2]
theorem wJ:SeqAt.shaped (.list [])=true:=shaped_ints []
theorem Az:∀ ns:List Int,PyData.eqv (.list (ns.map PyData.int)) (.list [])=decide (ns=[])
  | []=>by simp [PyData.eqv,PyData.eqvAll]
  | _::_=>by simp [PyData.eqv,PyData.eqvAll]
noncomputable def zX (K:PySem.W.Frag):Sp:=fun vs H Q _=>∃ (a:Addr) (ns:List Int) (k:Int),vs=[.ref a,.int k]∧SqL K H a (ns.map V.int)∧0≤k∧∀ H',aM H H'→Q (.int (cellAt ns k)) H'
noncomputable def Dj (K:PySem.W.Frag):Sp:=fun vs H Q _=>∃ (a:Addr) (ns:List Int) (k many:Int),vs=[.ref a,.int k,.int many]∧SqL K H a (ns.map V.int)∧0≤k∧0 < many∧∀ H',aM H H'→Q (.int (mixed ns k many)) H'
theorem CB (ds:List PyData) (hl:ds.length=3) (hne:au ds≠.no):∃ d,au ds=.ok d∧fw d=true∧∀ vs H Q,Iss K H ds vs→(∀ v H',aM H H'→IsD K H' d v→Q v H')→Dj K vs H Q E0:=by
  obtain ⟨s,k,many,ez,hz⟩:=sV hne
  clear hne; subst ez; have hne:=hz; clear hz
  · skip
    split at hne
    · rename_i ns hs
      have es:=kB hs
      subst es
      split at hne
      · rename_i hc
        refine ⟨_,d5 hc.1 hc.2,rfl,fun vs H Q hi ho=>?_⟩
        obtain ⟨v0,r0,rfl,h0,v1,r1,rfl,h1,v2,r2,rfl,h2,rfl⟩:=hi
        obtain ⟨a,rfl,hS⟩:=h0.ofScript
        rw [h1.ofInt,h2.ofInt]
        exact ⟨a,ns,k,many,rfl,hS,hc.1,hc.2,fun H' s'=>ho _ _ s' tw⟩
      · exact absurd rfl hne
    · exact absurd rfl hne
end
end RS
set_option maxRecDepth 100000
set_option maxHeartbeats 1000000
namespace RS
open PySem L2
section
variable {es:List Er} {rs:List Int} {n:Int}
end
theorem ly {l:List PyData} (h:bU (.list l)=true):kZ "list" (.list l)=some (.bool true):=by
  unfold kZ; rw [h]; rfl
theorem oA {cond:Ds→Rs Bool} {elt:Ds→Rs PyData} {δ:Ds} {p:PyData→Bool}:∀ (ds:List PyData),(∀ d∈ds,cond (δ++[some d])=.ok (p d)∧elt (δ++[some d])=.ok d)→fZ cond elt bj δ ds=.ok (ds.filter p)
  | [],_=>rfl
  | d::r,h=>by
    obtain ⟨h1,h2⟩:=h d List.mem_cons_self
    have ih:=oA r fun e he=>h e (List.mem_cons_of_mem _ he)
    unfold fZ
    cases hp:p d with
    | true=>simp only [bj,h1,hp,Rs.gM,Rs.ai,if_true,h2,ih,List.filter_cons]
    | false=>simp only [bj,h1,hp,Rs.gM,Rs.ai,if_false,Bool.false_eq_true,ih,List.filter_cons]
theorem jP {n0:Nat} {src:Ds→Rs (List PyData)} {cond:Ds→Rs Bool} {elt:Ds→Rs PyData} {δ:Ds} {p:PyData→Bool} {ds:List PyData} (hn:δ.length=n0) (hs:src δ=.ok ds) (hl:ds.length≤1000000) (h:∀ d∈ds,cond (δ++[some d])=.ok (p d)∧elt (δ++[some d])=.ok d) :
    bx n0 src cond elt bj δ=.ok (ds.filter p):=by
  unfold bx
  rw [if_pos hn,hs]
  simp only [Rs.ai,if_pos hl]
  exact oA ds h
theorem Aj (ns:List Int) (a top:Int) (ha:0≤a) (ht:0 < top) (ht2:top≤58):∃ es rs,oI ns a 4 top true=es∧1≤es.length∧es.length≤4∧(∀ e∈es,e.Ok)∧bV es.length rs∧bh [aI ns,.int a,.int 4,.int top,.bool true]=.ok (av es)∧jB [aI ns,.int 0,.int (es.length:Int)]=.ok (aL rs):=by
  have hl:=zG ns a 4 top true (by decide)
  have hok:=CG ns a 4 top true ht ht2
  have hes:bh [aI ns,.int a,.int 4,.int top,.bool true]=.ok (av (oI ns a 4 top true)):=iN ha (by decide) (by decide) ht ht2
  generalize oI ns a 4 top true=es at *
  have hrs:=oG (ns:=ns) (a:=0) (many:=(es.length:Int)) (by decide) (by omega) (by omega)
  rw [Int.toNat_natCast] at hrs
  exact ⟨es,_,rfl,hl.1,by omega,hok,we ns 0 es.length,hes,hrs⟩
theorem A3 (es:List Er):fc [av es]=some (.int (es.length:Int)):=by unfold av; rw [vL,List.length_map]
theorem lawT_of {n:Nat} {G:Ds→Sr} {k:Nat} (h:∀ ns:List Int,G (some (aI ns)::List.replicate k none)=.rt (.bool true)):∀ ds,ds.length=1→fj n ds≠.no→bf (G (ds.map some++List.replicate k none))=fj n ds:=by
  intro ds hl hne
  match ds,hl with
  | [s],_ =>
    unfold fj at hne ⊢
    simp only at hne ⊢
    split at hne
    · rename_i ns hs
      have es:=kB hs
      subst es
      split at hne
      · rename_i hc
        simp only [gn,if_pos hc]
        show bf (G (some (aI ns)::List.replicate k none))=_
        rw [h]; rfl
      · exact absurd rfl hne
    · exact absurd rfl hne
end RS
set_option maxRecDepth 100000
set_option maxHeartbeats 4000000
namespace L2
open PySem PySem.Spec PyProof.Rows
section
variable {X:Cx} {E:XK} {a b:Expr} {gs:Ds→Rs (List PyData)} {pos:Pos}
end
end L2
set_option maxRecDepth 100000
set_option maxHeartbeats 4000000
namespace L2
open PySem PySem.Spec PyProof.Rows
section
variable {X:Cx} {E:XK} {O:List Nat} {K:PySem.W.Frag} {H0 H:Hp} {A0 A:List Addr} {δ:Ds} {σ:St} {pos:Pos}
theorem cO.forget {y:Nat} (R:cO K H0 A0 H A (O.filter (·≠y)) δ σ):cO K H0 A0 H A O (δ.set y none) σ where
  same:=R.same
  ls0:=R.ls0
  new:=R.new
  ls:=R.ls
  len:=by rw [List.length_set]; exact R.len
  pl:=fun j d hj q=>by
    have hn:j≠y:=fun z=>by
      subst z
      by_cases hl:j < δ.length
      · rw [List.getElem?_set_self hl] at q; cases q
      · rw [List.getElem?_eq_none (by rw [List.length_set]; omega)] at q; cases q
    rw [List.getElem?_set_ne (Ne.symm hn)] at q
    exact R.pl j d (fun z=>hj (List.mem_filter.mp z).1) q
  own:=fun j d hj q=>by
    have hn:j≠y:=fun z=>by
      subst z
      by_cases hl:j < δ.length
      · rw [List.getElem?_set_self hl] at q; cases q
      · rw [List.getElem?_eq_none (by rw [List.length_set]; omega)] at q; cases q
    rw [List.getElem?_set_ne (Ne.symm hn)] at q
    exact R.own j d (List.mem_filter.mpr ⟨hj,by simpa using hn⟩) q
  inj:=fun j k d e a hj hk q1 q2=>by
    have hn:∀ j d,(δ.set y none)[j]?=some (some d)→j≠y:=fun j d q z=>by
      subst z
      by_cases hl:j < δ.length
      · rw [List.getElem?_set_self hl] at q; cases q
      · rw [List.getElem?_eq_none (by rw [List.length_set]; omega)] at q; cases q
    have n1:=hn j d q1
    have n2:=hn k e q2
    rw [List.getElem?_set_ne (Ne.symm n1)] at q1
    rw [List.getElem?_set_ne (Ne.symm n2)] at q2
    exact R.inj j k d e a (List.mem_filter.mpr ⟨hj,by simpa using n1⟩) (List.mem_filter.mpr ⟨hk,by simpa using n2⟩) q1 q2
noncomputable def yf (x y:Nat):Ds→Sr:=fun δ=>match δ[y]? with
  | some (some (.list ds))=>if x < δ.length then .nx ((δ.set x (some (.list ds))).set y none) else .no
  | _=>.no
theorem zZ {x y:Nat} {xs ys:Str} {pos' p:Pos} (hN:X.N.Nodup) (hO:x ∉ O:=by decide) (hy:y∈O:=by decide) (hi:X.N[x]?=some xs:=by rfl) (hj:X.N[y]?=some ys:=by rfl) (hx:Loc X.env.scope xs:=by first | exact Or.inl rfl | exact Or.inr rfl)
    (hv:Vis X.env.scope ys:=by first | exact Or.inl rfl | exact Or.inr (Or.inl rfl) | exact Or.inr (Or.inr rfl)) (hd:(ys == ("__debug__":Str))=false:=by decide) (hcd:(ys == ("__classdict__":Str))=false:=by decide) (hs:swapsWith (.Name ys p) (some (.Name xs pos')) pos.line X.env=pure false:=by rfl)
    (hf:X.fn xs=true∨X.env.scope.names.lookup xs=some .local:=by first | exact .inl rfl | exact .inr rfl | assumption):PSD X E O (.Assign [.Name xs pos'] (.Name ys p) pos) (yf x y) :=
  (rZ hN hi hx (mX hj hv hd hcd) hs hf).imp fun D σ H pz3=>by
    obtain ⟨H0,A0,A,δ,R,o⟩:=pz3
    unfold yf at o
    split at o
    · rename_i ds q
      split at o
      · rename_i hl
        obtain ⟨a,us,ds',e1,h1,h2,h3,h4⟩:=R.own y _ hy q
        obtain ⟨A',R'⟩:=R.release hy q
        have hOy:y ∉ O.filter (·≠y):=fun z=>by have:=(List.mem_filter.mp z).2; simp at this
        obtain ⟨v,ev,hvv⟩:=R'.pl y _ hOy q
        refine ⟨v,ev,o A' _ H ?_⟩
        have hOx:x ∉ O.filter (·≠y):=fun z=>hO (List.mem_filter.mp z).1
        exact (R'.set hOx hl hvv).forget
      · exact o.elim
    · exact o.elim
end
end L2
set_option maxRecDepth 100000
set_option maxHeartbeats 1000000
namespace L2
open PySem PySem.Spec PyProof.Rows
theorem aY.nil {P:Program} {w:World} {K:PySem.W.Frag} {mg:Str→Option Value} {base:Heap} {x qual:Str} {st:Stmt} {f:Addr} {fd:FuncData} {ps:List Str} {k n:Nat} (F:Fun K x qual st f fd) (m:mg x=some (.ref f)) (b:Binds K fd ps []):aY P w K mg base k x n (fun _=>.no):=by
  refine ⟨f,fd,ps,⟨fun vs H Q E h=>?_,fun A outer s H args us vs Q E hr he hb hv h=>?_⟩,m,F.kp,b⟩
  · obtain ⟨A,ds,hA,hi,hl,o⟩:=h
    exact o.elim
  · obtain ⟨A0,ds,hA,hi,hl,o⟩:=h
    exact o.elim
end L2
namespace RS
open PySem L2
theorem p8:∀ a b:List Int,PyData.eqvAll (a.map PyData.int) (b.map PyData.int)=decide (a=b)
  | [],[]=>by simp [PyData.eqvAll]
  | [],_::_=>by simp [PyData.eqvAll]
  | _::_,[]=>by simp [PyData.eqvAll]
  | x::a,y::b=>by
    have h:(x == y)=decide (x=y):=by by_cases z:x=y <;> simp [z]
    simp [PyData.eqvAll,PyData.eqv,p8 a b,h]
theorem xJ (a b:List Int):dEq (.list (a.map PyData.int)) (.list (b.map PyData.int))=some (.bool (decide (a=b))):=by
  unfold dEq
  rw [gH (iB a),gH (iB b),shaped_ints,shaped_ints]
  simp [PyData.eqv,p8]
theorem tQ (a b:List Int):dNe (.list (a.map PyData.int)) (.list (b.map PyData.int))=some (.bool (!decide (a=b))):=by
  unfold dNe
  rw [gH (iB a),gH (iB b),shaped_ints,shaped_ints]
  simp [PyData.eqv,p8]
noncomputable def a5 (n:Nat):List Int:=(List.range n).map fun (i:Nat)=>(i:Int)
theorem d6 (n:Nat):(a5 n).Nodup:=by
  unfold a5
  exact List.Pairwise.map _ (fun a b h=>by omega) List.nodup_range
theorem br {n:Nat} {x:Int}:x∈a5 n↔0≤x∧x < n:=by
  unfold a5
  rw [List.mem_map]
  constructor
  · rintro ⟨i,hi,rfl⟩; have:=List.mem_range.mp hi; omega
  · intro h; exact ⟨x.toNat,List.mem_range.mpr (by omega),by omega⟩
theorem b0 (n:Nat):(a5 n).length=n:=by simp [a5]
theorem kA (n:Nat):b7 0 n=(a5 n).map PyData.int:=by
  unfold b7 a5
  rw [List.map_map]
  exact List.map_congr_left fun i _=>by simp
theorem lX {n:Nat} {o:List Int}:o.Perm (a5 n)↔bV n o:=by
  constructor
  · intro h
    exact ⟨by rw [h.length_eq,b0],fun r hr=>br.mp (h.subset hr),h.symm.nodup (d6 n)⟩
  · intro h
    exact (List.perm_ext_iff_of_nodup h.nd (d6 n)).mpr fun a=>⟨fun ha=>br.mpr (h.rng a ha),fun ha=>by have:=br.mp ha; exact h.mem this.1 this.2⟩
end RS
namespace RS
open PySem L2
noncomputable def cT (cs:Cs) (aU:Gf):Ds→Sr :=
  (bu (gu [] (cm (ag 1)) (bK 2) (bu (sIf (uU (gT (g2 dNe (ag 2) (dE ao))) (gT (g1 oZ (aF aU (ae (gF fS (ae (gL (bx 6 (cm (ag 2)) bL (g2 dIx (ag 0) (ag 6)) bj)) ao)) ao))))) (bQ (gC (.bool false))) bM)
    (gu [] (cZ (ae (gF fc (ae (ag 0) ao)) ao)) (bK 3) (sIf (gT (g2 (gG true) (ag 3) (ag 2))) (gu [] (cm (ag 2)) (bK 4) (bu (bw [] 5 (gL (bx 6 (cm (g2 dIx (g2 dIx (ag 0) (ag 4)) (gC (.int 3)))) (gT (g1 e7 (ag 7))) (ag 7) eN)))
    (sIf (gT (g2 dNe (gL (bx 6 (cm (g2 dIx (g2 dIx (ag 0) (ag 3)) (gC (.int 3)))) (gT (g2 (gG false) (ag 7) (ag 5))) (ag 7) eN)) (dE ao))) (bQ (gC (.bool false))) bM))) bM))))
    (bQ (gC (.bool true))))
noncomputable def eF (cs:Cs):Ds→Sr :=
  (bu (bw [4] 2 (dE (ae (gL (bx 7 (cZ (ae (ag 1) ao)) bL (dE ao) bj)) ao)))
    (bu (gu [4] (cZ (ae (ag 0) ao)) (bK 3) (bu (kD [4] 4 ao)
    (bu (gu [4] (cm (ag 2)) (bK 5) (gu [4] (cZ (ae (ag 1) ao)) (bK 6) (iT [4] 4 (gL (bx 7 (iG (ae (ag 5) ao)) bL (g2 bz (ag 8) (g2 lJ (dE (ae (ag 3) ao)) (gF tX (ae (g2 dEq (ag 7) (ag 6)) ao)))) eN)))))
    (yf 2 4))))
    (bQ (ag 2))))
end RS
set_option maxRecDepth 100000
set_option maxHeartbeats 1000000
namespace RS
open PySem L2
theorem ue (x:Int) (xs:List Int):(xs.map PyData.int).filter (fun d=>!decide (deI d=x))=(xs.filter fun y=>decide (y≠x)).map PyData.int:=by
  rw [List.filter_map]
  congr 1
  refine List.filter_congr fun y _=>?_
  show (!decide (y=x))=decide (y≠x)
  by_cases z:y=x <;> simp [z]
theorem Gh {a b:List PyData} (h:a.length + b.length≤1000000):bz (.tuple a) (.tuple b)=some (.tuple (a++b)):=by
  show (if _ then _ else _)=_
  rw [if_pos h]
noncomputable def lg (es:List Er) (rs:List Int):Bool:=rs.all fun n=>ft es rs n
end RS
set_option maxRecDepth 100000
set_option maxHeartbeats 1000000
namespace RS
open PySem L2
structure Et (gf:Gf):Prop where
  of:∀ es:List Er,1≤es.length→es.length≤6→(∀ e∈es,e.Ok)→(∃ rs,gf [av es]=.ok (aL rs)∧bV es.length rs∧lg es rs=true)∨(gf [av es]=.ok .none∧∀ rs,bV es.length rs→lg es rs=false)
theorem Fo {n:Nat} {δ:Ds} {gs:Ds→Rs (List PyData)} (h:gs δ=.ok [.int (n:Int)]) (hn:n≤100):gLR gs δ=.ok ((a5 n).map PyData.int):=by
  rw [E2,h,Rs.ai]
  unfold sL
  simp only
  rw [if_pos (by omega),Int.toNat_natCast,kA]
theorem mz (x:Int):∀ ss:List Int,inV (toV (.int x)) ((ss.map PyData.int).map toV)=decide (x∈ss)
  | []=>by simp [inV]
  | s::r=>by
    have ih:=mz x r
    unfold inV at ih ⊢
    rw [List.map_cons,List.map_cons,List.any_cons,ih]
    show ((s == x) || _)=_
    by_cases z:x=s
    · subst z; simp
    · have h:(s == x)=false:=by simpa using fun q=>z q.symm
      simp [h,z]
theorem B8 (x:Int) (ss:List Int):gG false (.int x) (.list (ss.map PyData.int))=some (.bool (decide (x∈ss))):=by
  show (if (fw (.int x) && _)=true then some (PyData.bool (if false=true then _ else inD _ _)) else none)=_
  rw [i6]
  unfold inD
  rw [mz]
  rfl
end RS
set_option maxRecDepth 100000
set_option maxHeartbeats 1000000
namespace RS
open PySem L2
noncomputable def FG (e:Er) (m:Int):Er:={ e with parts:=e.parts.dropLast++[((e.parts.getLast?.getD (0,none)).1 + m,none)] }
noncomputable def grown (es:List Er) (n m:Int):List Er:=es.set n.toNat (FG (az es n) m)
end RS
set_option maxRecDepth 100000
set_option maxHeartbeats 1000000
namespace RS
open PySem L2
noncomputable def Fits (es:List Er):Prop:=∃ rs,bV es.length rs∧lg es rs=true
noncomputable def dB (a b:Er):Prop:=∀ t,a.has t=true→b.has t=false
noncomputable def sub (es:List Er) (row:List Int):List Er:=row.map fun n=>az es n
noncomputable def xV (es:List Er) (row:List Int):Prop:=(row≠[]→Fits (sub es row))∧∀ m:Int,0≤m→m < es.length→m ∉ row→∀ n∈row,dB (az es n) (az es m)
noncomputable def jN (es:List Er) (rows:List (List Int)):Prop:=∀ row∈rows,xV es row
theorem jF {tgt:PyData→Ds→Option Ds} {body:Ds→Sr} (inv:Ds→Prop) (p:PyData→Prop):∀ (ds:List PyData),(∀ d∈ds,∀ δ,inv δ→∃ δ1,tgt d δ=some δ1∧((p d∧∃ δ2,body δ1=.nx δ2∧inv δ2)∨(¬ p d∧body δ1=.rt (.bool false)))) →
    ∀ δ,inv δ→((∀ d∈ds,p d)∧∃ δ',forL tgt body ds δ=.nx δ'∧inv δ')∨((¬ ∀ d∈ds,p d)∧forL tgt body ds δ=.rt (.bool false))
  | [],_,δ,h=>.inl ⟨fun d hd=>(List.not_mem_nil hd).elim,δ,rfl,h⟩
  | d::r,hs,δ,h=>by
    obtain ⟨δ1,e1,alt⟩:=hs d List.mem_cons_self δ h
    unfold forL
    rw [e1]
    rcases alt with ⟨hp,δ2,e2,h2⟩ | ⟨hp,e2⟩
    · simp only [e2]
      rcases jF inv p r (fun x hx=>hs x (List.mem_cons_of_mem _ hx)) δ2 h2 with ⟨q,δ',e3,h3⟩ | ⟨q,e3⟩
      · exact .inl ⟨fun x hx=>by
          rcases List.mem_cons.mp hx with rfl | hx
          · exact hp
          · exact q x hx,δ',e3,h3⟩
      · exact .inr ⟨fun z=>q fun x hx=>z x (List.mem_cons_of_mem _ hx),e3⟩
    · simp only [e2]
      exact .inr ⟨fun z=>hp (z d List.mem_cons_self),trivial⟩
noncomputable def aS (r:List Int):PyData:=.list (r.map PyData.int)
noncomputable def aq (rows:List (List Int)):PyData:=.list (rows.map aS)
noncomputable def dj (ps:List (Int × Option Int)):List Int:=ps.filterMap (·.2)
theorem kL (e:Er) (t:Int):e.has t=true↔t∈dj e.parts:=by
  unfold Er.has dj
  rw [List.any_eq_true,List.mem_filterMap]
  constructor
  · rintro ⟨p,hp,h⟩; exact ⟨p,hp,by simpa using h⟩
  · rintro ⟨p,hp,h⟩; exact ⟨p,hp,by simpa using h⟩
theorem pZ {cond:Ds→Rs Bool} {elt:Ds→Rs PyData} {δ:Ds} (f:Int × Option Int→Bool):∀ (ps:List (Int × Option Int)),(∀ p∈ps,cond (δ++[some (.int p.1),some (bZ p.2)])=.ok (f p)∧elt (δ++[some (.int p.1),some (bZ p.2)])=.ok (bZ p.2)) →
    fZ cond elt eN δ (ps.map bJ)=.ok ((ps.filter f).map fun p=>bZ p.2)
  | [],_=>rfl
  | p::r,h=>by
    obtain ⟨h1,h2⟩:=h p List.mem_cons_self
    have ih:=pZ f r fun e he=>h e (List.mem_cons_of_mem _ he)
    rw [List.map_cons]
    unfold fZ
    rw [show eN (bJ p)=some [some (.int p.1),some (bZ p.2)] from rfl]
    simp only [h1,Rs.gM,Rs.ai]
    cases hp:f p with
    | true=>simp only [if_true,h2,Rs.gM,Rs.ai,ih,List.filter_cons,hp,List.map_cons]
    | false=>simp only [Bool.false_eq_true,if_false,ih,List.filter_cons,hp]
theorem n5 {n0:Nat} {src:Ds→Rs (List PyData)} {cond:Ds→Rs Bool} {elt:Ds→Rs PyData} {δ:Ds} (f:Int × Option Int→Bool) {ps:List (Int × Option Int)} (hn:δ.length=n0) (hs:src δ=.ok (ps.map bJ)) (hl:ps.length≤1000) (h:∀ p∈ps,cond (δ++[some (.int p.1),some (bZ p.2)])=.ok (f p)∧elt (δ++[some (.int p.1),some (bZ p.2)])=.ok (bZ p.2)) :
    bx n0 src cond elt eN δ=.ok ((ps.filter f).map fun p=>bZ p.2):=by
  unfold bx
  rw [if_pos hn,hs]
  simp only [Rs.ai]
  rw [if_pos (by rw [List.length_map]; omega)]
  exact pZ f ps h
theorem wg (ps:List (Int × Option Int)):((ps.filter fun p=>!dO (bZ p.2)).map fun p=>bZ p.2)=(dj ps).map PyData.int:=by
  induction ps with
  | nil=>rfl
  | cons p r ih =>
    obtain ⟨l,o⟩:=p
    cases o with
    | none =>
      rw [List.filter_cons_of_neg (by simp [bZ])]
      rw [ih]; rfl
    | some t =>
      rw [List.filter_cons_of_pos (by simp [bZ])]
      rw [List.map_cons,ih]; rfl
theorem DD (o:Option Int) (ss:List Int):gG false (bZ o) (.list (ss.map PyData.int))=some (.bool (match o with | some x=>decide (x∈ss) | none=>false)):=by
  cases o with
  | some x=>exact B8 x ss
  | none =>
    show (if (fw .none && _)=true then some (PyData.bool (if false=true then _ else inD _ _)) else none)=_
    rw [i6]
    have:inD (bZ none) (ss.map PyData.int)=false:=by
      unfold inD inV
      rw [List.any_eq_false]
      intro v hv
      obtain ⟨d,hd,rfl⟩:=List.mem_map.mp hv
      obtain ⟨x,_,rfl⟩:=List.mem_map.mp hd
      intro z; cases z
    rw [this]; rfl
theorem qw (x:Int) (ss:List Int):gG true (.int x) (.list (ss.map PyData.int))=some (.bool (!decide (x∈ss))):=by
  show (if (fw (.int x) && _)=true then some (PyData.bool (if true=true then _ else inD _ _)) else none)=_
  rw [i6]
  unfold inD
  rw [mz]
  rfl
end RS
set_option maxRecDepth 100000
set_option maxHeartbeats 1000000
namespace RS
open PySem L2
noncomputable def B6 (p:Prop):Bool:=@decide p (Classical.propDecidable p)
theorem rD {p:Prop} (h:p):B6 p=true:=@decide_eq_true p (Classical.propDecidable p) h
theorem p5 {p:Prop} (h:¬ p):B6 p=false:=@decide_eq_false p (Classical.propDecidable p) h
noncomputable def rj:List PyData→Option (List (List Int))
  | []=>some []
  | .list r::t=>(fg r).bind fun x=>(rj t).map fun l=>x::l
  | _::_=>none
theorem nI:∀ rows:List (List Int),rj (rows.map aS)=some rows
  | []=>rfl
  | r::t=>by
    rw [List.map_cons]
    show (fg (r.map PyData.int)).bind _=_
    rw [b4,nI t]; rfl
theorem jq:∀ {l:List PyData} {rows:List (List Int)},rj l=some rows→l=rows.map aS
  | [],rows,h=>by cases h; rfl
  | .list r::t,rows,h=>by
    obtain ⟨x,hx,h⟩:=Option.bind_eq_some_iff.mp (show (fg r).bind _=some rows from h)
    obtain ⟨l,hl,rfl⟩:=Option.map_eq_some_iff.mp h
    rw [List.map_cons,cQ hx,jq hl]; rfl
  | .none::_,_,h=>by cases h
  | .bool _::_,_,h=>by cases h
  | .int _::_,_,h=>by cases h
  | .str _::_,_,h=>by cases h
  | .tuple _::_,_,h=>by cases h
  | .dict _::_,_,h=>by cases h
noncomputable def sU (n:Nat) (rows:List (List Int)):Bool:=rows.all fun r=>decide (r.length≤6) && r.all fun x=>decide (0≤x) && decide (x < n)
noncomputable def aJ:Gf
  | [d,.list l]=>if cJ d then (match rj l with
    | some rows=>if sU (cj d).length rows then .ok (.bool (B6 (jN (cj d) rows))) else .no
    | none=>.no) else .no
  | _=>.no
theorem eE {es:List Er} {rows:List (List Int)} (h1:1≤es.length) (h2:es.length≤6) (h:∀ e∈es,e.Ok) (hr:sU es.length rows=true):aJ [av es,aq rows]=.ok (.bool (B6 (jN es rows))):=by
  unfold aq aJ
  simp only [fG h1 h2 h,if_true,nI,dw,hr]
theorem tE (ps:List (Int × Option Int)) (ss:List Int):((ps.filter fun p=>match p.2 with | some x=>decide (x∈ss) | none=>false).map fun p=>bZ p.2)=((dj ps).filter fun x=>decide (x∈ss)).map PyData.int:=by
  induction ps with
  | nil=>rfl
  | cons p r ih =>
    obtain ⟨l,o⟩:=p
    cases o with
    | none =>
      rw [List.filter_cons_of_neg (by simp)]
      rw [ih]; rfl
    | some t =>
      have et:dj ((l,some t)::r)=t::dj r:=rfl
      rw [et]
      by_cases z:t∈ss
      · rw [List.filter_cons_of_pos (by simpa using z),List.filter_cons_of_pos (by simpa using z),List.map_cons,ih]; rfl
      · rw [List.filter_cons_of_neg (by simpa using z),List.filter_cons_of_neg (by simpa using z),ih]
theorem oa {a b:Er}:dB a b↔(dj b.parts).filter (fun x=>decide (x∈dj a.parts))=[]:=by
  unfold dB
  rw [List.filter_eq_nil_iff]
  constructor
  · intro h t ht hx
    have h1:=h t ((kL a t).mpr (of_decide_eq_true hx))
    rw [(kL b t).mpr ht] at h1; cases h1
  · intro h t ht
    cases q:b.has t with
    | false=>rfl
    | true=>exact absurd (decide_eq_true ((kL a t).mp ht)) (h t ((kL b t).mp q))
noncomputable abbrev AB:Ds→Sr:=bu (bw [] 5 (gL (bx 6 (cm (g2 dIx (g2 dIx (ag 0) (ag 4)) (gC (.int 3)))) (gT (g1 e7 (ag 7))) (ag 7) eN)))
    (sIf (gT (g2 dNe (gL (bx 6 (cm (g2 dIx (g2 dIx (ag 0) (ag 3)) (gC (.int 3)))) (gT (g2 (gG false) (ag 7) (ag 5))) (ag 7) eN)) (dE ao))) (bQ (gC (.bool false))) bM)
theorem Fe {es:List Er} (hok:∀ e∈es,e.Ok) (B r:PyData) {n m:Int} (n0:0≤n) (n1:n < es.length) (m0:0≤m) (m1:m < es.length) (x5:Option PyData) :
    (dB (az es n) (az es m)∧∃ y5,AB [some (av es),some B,some r,some (.int m),some (.int n),x5]=.nx [some (av es),some B,some r,some (.int m),some (.int n),y5]) ∨
    (¬ dB (az es n) (az es m)∧AB [some (av es),some B,some r,some (.int m),some (.int n),x5]=.rt (.bool false)):=by
  have an:dIx (av es) (.int n)=some (az es n).d:=fU n0 n1
  have am:dIx (av es) (.int m)=some (az es m).d:=fU m0 m1
  have pn:=(hok _ (bW n0 n1)).p2
  have pm:=(hok _ (bW m0 m1)).p2
  have c1:bx 6 (cm (g2 dIx (g2 dIx (ag 0) (ag 4)) (gC (.int 3)))) (gT (g1 e7 (ag 7))) (ag 7) eN [some (av es),some B,some r,some (.int m),some (.int n),x5]=.ok (((az es n).parts.filter fun p=>!dO (bZ p.2)).map fun p=>bZ p.2):=by
    refine n5 _ rfl ?_ (by omega) fun p hp=>⟨?_,rfl⟩
    · simp only [nu,cq,ar,aw,d4,Rs.ai,an,Rs.ak,Bq,tf]
    · simp only [List.cons_append,List.nil_append,eu,nP,ar,aw,Rs.ai,show ∀ d,e7 d=some (.bool (!dO d)) from fun _=>rfl,Rs.ak,bA]
  rw [wg] at c1
  have t1:bw [] 5 (gL (bx 6 (cm (g2 dIx (g2 dIx (ag 0) (ag 4)) (gC (.int 3)))) (gT (g1 e7 (ag 7))) (ag 7) eN)) [some (av es),some B,some r,some (.int m),some (.int n),x5]=.nx [some (av es),some B,some r,some (.int m),some (.int n),some (.list ((dj (az es n).parts).map PyData.int))]:=by
    rw [ej,if_pos (by simp)]
    simp only [jx,c1,Rs.ai,ay]
    rfl
  have c2:bx 6 (cm (g2 dIx (g2 dIx (ag 0) (ag 3)) (gC (.int 3)))) (gT (g2 (gG false) (ag 7) (ag 5))) (ag 7) eN [some (av es),some B,some r,some (.int m),some (.int n),some (.list ((dj (az es n).parts).map PyData.int))]=.ok (((az es m).parts.filter fun p=>match p.2 with | some x=>decide (x∈dj (az es n).parts) | none=>false).map fun p=>bZ p.2):=by
    refine n5 _ rfl ?_ (by omega) fun p hp=>⟨?_,rfl⟩
    · simp only [nu,cq,ar,aw,d4,Rs.ai,am,Rs.ak,Bq,tf]
    · simp only [List.cons_append,List.nil_append,eu,cq,ar,aw,Rs.ai,DD,Rs.ak,bA]
      first | done | (cases p.2 <;> rfl)
  rw [tE] at c2
  have hne:=tQ ((dj (az es m).parts).filter fun x=>decide (x∈dj (az es n).parts)) []
  have hne':dNe (.list (((dj (az es m).parts).filter fun x=>decide (x∈dj (az es n).parts)).map PyData.int)) (.list [])=some (.bool (!decide (((dj (az es m).parts).filter fun x=>decide (x∈dj (az es n).parts))=[]))):=hne
  unfold AB
  rw [aV,t1]
  simp only [dz,eu,cq,jx,c2,g0,aO,Rs.ai,hne',Rs.ak,bA,ay,cx,d4,ee]
  by_cases z:dB (az es n) (az es m)
  · left
    refine ⟨z,?_⟩
    rw [decide_eq_true (oa.mp z)]
    exact ⟨_,rfl⟩
  · right
    refine ⟨z,?_⟩
    rw [decide_eq_false fun q=>z (oa.mpr q)]
    rfl
noncomputable abbrev uJ:Ds→Sr:=sIf (gT (g2 (gG true) (ag 3) (ag 2))) (gu [] (cm (ag 2)) (bK 4) AB) bM
theorem DJ {es:List Er} (hok:∀ e∈es,e.Ok) (B:PyData) (row:List Int) (hrow:∀ n∈row,0≤n∧n < es.length) {m:Int} (m0:0≤m) (m1:m < es.length) (x4 x5:Option PyData) :
    ((m ∉ row→∀ n∈row,dB (az es n) (az es m))∧∃ y4 y5,uJ [some (av es),some B,some (aS row),some (.int m),x4,x5]=.nx [some (av es),some B,some (aS row),some (.int m),y4,y5]) ∨
    (¬ (m ∉ row→∀ n∈row,dB (az es n) (az es m))∧uJ [some (av es),some B,some (aS row),some (.int m),x4,x5]=.rt (.bool false)):=by
  have hni:gG true (.int m) (aS row)=some (.bool (!decide (m∈row))):=qw m row
  unfold uJ
  by_cases z:m∈row
  · left
    refine ⟨fun h=>absurd z h,x4,x5,?_⟩
    simp only [dz,eu,cq,ar,aw,Rs.ai,hni,decide_eq_true z,Bool.not_true,Rs.ak,bA,ay,Bool.false_eq_true,if_false,ee]
  · have src:cm (ag 2) [some (av es),some B,some (aS row),some (.int m),x4,x5]=.ok (row.map PyData.int):=rfl
    have go:=jF (tgt:=bK 4) (body:=AB) (fun δ=>∃ x4 x5,δ=[some (av es),some B,some (aS row),some (.int m),x4,x5]) (fun d=>dB (az es (deI d)) (az es m)) (row.map PyData.int) (fun d hd δ pz3=>by
      obtain ⟨x4,x5,hx⟩:=pz3
      subst hx
      obtain ⟨n,hn,rfl⟩:=List.mem_map.mp hd
      have hr:=hrow n hn
      refine ⟨_,rfl,?_⟩
      rcases Fe hok B (aS row) hr.1 hr.2 m0 m1 x5 with ⟨q,y5,e⟩ | ⟨q,e⟩
      · exact .inl ⟨q,_,e,_,_,rfl⟩
      · exact .inr ⟨q,e⟩) [some (av es),some B,some (aS row),some (.int m),x4,x5] ⟨x4,x5,rfl⟩
    have iff:(∀ d∈row.map PyData.int,dB (az es (deI d)) (az es m))↔∀ n∈row,dB (az es n) (az es m):=⟨fun h n hn=>h _ (List.mem_map.mpr ⟨n,hn,rfl⟩),fun h d hd=>by obtain ⟨n,hn,rfl⟩:=List.mem_map.mp hd; exact h n hn⟩
    rcases go with ⟨q,δ',e,y4,y5,rfl⟩ | ⟨q,e⟩
    · left
      refine ⟨fun _=>iff.mp q,y4,y5,?_⟩
      simp only [dz,eu,cq,ar,aw,Rs.ai,hni,decide_eq_false z,Bool.not_false,Rs.ak,bA,ay,if_true,dR,eM,src,e]
    · right
      refine ⟨fun h=>q (iff.mpr (h z)),?_⟩
      simp only [dz,eu,cq,ar,aw,Rs.ai,hni,decide_eq_false z,Bool.not_false,Rs.ak,bA,ay,if_true,dR,eM,src,e]
noncomputable abbrev yc (aU:Gf):Ds→Sr:=bu (sIf (uU (gT (g2 dNe (ag 2) (dE ao))) (gT (g1 oZ (aF aU (ae (gF fS (ae (gL (bx 6 (cm (ag 2)) bL (g2 dIx (ag 0) (ag 6)) bj)) ao)) ao))))) (bQ (gC (.bool false))) bM)
    (gu [] (cZ (ae (gF fc (ae (ag 0) ao)) ao)) (bK 3) uJ)
theorem Dp {es:List Er} (hok:∀ e∈es,e.Ok) {row:List Int} (hrow:∀ n∈row,0≤n∧n < es.length):∀ e∈sub es row,e.Ok:=fun e he=>by
  obtain ⟨n,hn,rfl⟩:=List.mem_map.mp he
  have:=hrow n hn
  exact hok _ (bW this.1 this.2)
theorem D2 {aU:Gf} (F:Et aU) {es:List Er} (l1:1≤es.length) (l6:es.length≤6) (hok:∀ e∈es,e.Ok) (B:PyData) (row:List Int) (hrow:∀ n∈row,0≤n∧n < es.length) (h6:row.length≤6) (x3 x4 x5:Option PyData) :
    (xV es row∧∃ y3 y4 y5,yc aU [some (av es),some B,some (aS row),x3,x4,x5]=.nx [some (av es),some B,some (aS row),y3,y4,y5]) ∨
    (¬ xV es row∧yc aU [some (av es),some B,some (aS row),x3,x4,x5]=.rt (.bool false)):=by
  have hne:dNe (aS row) (.list [])=some (.bool (!decide (row=[]))):=tQ row []
  have hcm:bx 6 (cm (ag 2)) bL (g2 dIx (ag 0) (ag 6)) bj [some (av es),some B,some (aS row),x3,x4,x5]=.ok ((row.map PyData.int).map fun d=>(az es (deI d)).d) :=
    cU rfl rfl (by rw [List.length_map]; omega) fun d hd=>by
      obtain ⟨n,hn,rfl⟩:=List.mem_map.mp hd
      have hr:=hrow n hn
      have an:dIx (av es) (.int n)=some (az es n).d:=fU hr.1 hr.2
      simp only [List.cons_append,List.nil_append,cq,ar,aw,Rs.ai,an,Rs.ak]
      rfl
  have em:((row.map PyData.int).map fun d=>(az es (deI d)).d)=(sub es row).map Er.d:=by
    unfold sub
    rw [List.map_map,List.map_map]; exact List.map_congr_left fun n _=>rfl
  rw [em] at hcm
  have hft:fS [.list ((sub es row).map Er.d)]=some (av (sub es row)):=rfl
  have hln:(sub es row).length=row.length:=by unfold sub; rw [List.length_map]
  -- the first test
  have first:(¬ (row≠[]→Fits (sub es row))∧sIf (uU (gT (g2 dNe (ag 2) (dE ao))) (gT (g1 oZ (aF aU (ae (gF fS (ae (gL (bx 6 (cm (ag 2)) bL (g2 dIx (ag 0) (ag 6)) bj)) ao)) ao))))) (bQ (gC (.bool false))) bM [some (av es),some B,some (aS row),x3,x4,x5]=.rt (.bool false)) ∨
      ((row≠[]→Fits (sub es row))∧sIf (uU (gT (g2 dNe (ag 2) (dE ao))) (gT (g1 oZ (aF aU (ae (gF fS (ae (gL (bx 6 (cm (ag 2)) bL (g2 dIx (ag 0) (ag 6)) bj)) ao)) ao))))) (bQ (gC (.bool false))) bM [some (av es),some B,some (aS row),x3,x4,x5]=.nx [some (av es),some B,some (aS row),x3,x4,x5]):=by
    by_cases z:row=[]
    · right
      refine ⟨fun h=>absurd z h,?_⟩
      simp only [dz,xk,eu,cq,g0,aO,ar,aw,Rs.ai,hne,decide_eq_true z,Bool.not_true,Rs.ak,bA,ay,Bool.false_eq_true,if_false,ee]
    · have hpos:1≤row.length:=by cases row with | nil=>exact absurd rfl z | cons _ _=>simp
      rcases F.of (sub es row) (by omega) (by omega) (Dp hok hrow) with ⟨rs,hf,hr,ha⟩ | ⟨hf,hno⟩
      · right
        have hin:dO (aL rs)=false:=rfl
        refine ⟨fun _=>⟨rs,hr,ha⟩,?_⟩
        simp only [dz,xk,eu,nP,cq,jx,g6,a9,g0,aC,aO,ar,aw,Rs.ai,hne,decide_eq_false z,Bool.not_false,hcm,hft,hf,yn,hin,Rs.ak,bA,ay,Bool.false_eq_true,if_false,if_true,ee]
      · left
        refine ⟨fun h=>?_,?_⟩
        · obtain ⟨rs,hr,ha⟩:=h z
          rw [hno rs hr] at ha; cases ha
        · simp only [dz,xk,eu,nP,cq,jx,g6,a9,g0,aC,aO,ar,aw,Rs.ai,hne,decide_eq_false z,Bool.not_false,hcm,hft,hf,yn,pR,Rs.ak,bA,ay,if_true,cx,d4]
  unfold yc
  rcases first with ⟨q,e⟩ | ⟨q,e⟩
  · right
    refine ⟨fun h=>q h.1,?_⟩
    rw [aV,e]
  · have hv:(ae (gF fc (ae (ag 0) ao)) ao) [some (av es),some B,some (aS row),x3,x4,x5]=.ok [.int (es.length:Int)]:=by
      simp only [aC,aO,g6,ar,Rs.ai,A3,Rs.ak]
    have hrg:=gN (j:=(es.length:Int)) (Int.natCast_nonneg _) (by omega)
    rw [Int.toNat_natCast] at hrg
    have src:cZ (ae (gF fc (ae (ag 0) ao)) ao) [some (av es),some B,some (aS row),x3,x4,x5]=.ok (b7 0 es.length):=by rw [gI,hv,Rs.ai,hrg]
    have go:=jF (tgt:=bK 3) (body:=uJ) (fun δ=>∃ x3 x4 x5,δ=[some (av es),some B,some (aS row),x3,x4,x5]) (fun d=>deI d ∉ row→∀ n∈row,dB (az es n) (az es (deI d))) (b7 0 es.length) (fun d hd δ pz3=>by
      obtain ⟨x3,x4,x5,hx⟩:=pz3
      subst hx
      obtain ⟨i,hi⟩:=List.getElem?_of_mem hd
      obtain ⟨hil,rfl⟩:=ia hi
      refine ⟨_,rfl,?_⟩
      rcases DJ hok B row hrow (m:=0 + (i:Int)) (by omega) (by omega) x4 x5 with ⟨q,y4,y5,e⟩ | ⟨q,e⟩
      · exact .inl ⟨q,_,e,_,_,_,rfl⟩
      · exact .inr ⟨q,e⟩) [some (av es),some B,some (aS row),x3,x4,x5] ⟨x3,x4,x5,rfl⟩
    have iff:(∀ d∈b7 0 es.length,deI d ∉ row→∀ n∈row,dB (az es n) (az es (deI d)))↔∀ m:Int,0≤m→m < es.length→m ∉ row→∀ n∈row,dB (az es n) (az es m):=by
      rw [kA]
      exact ⟨fun h m m0 m1=>h _ (List.mem_map.mpr ⟨m,br.mpr ⟨m0,m1⟩,rfl⟩),fun h d hd=>by obtain ⟨n,hn,rfl⟩:=List.mem_map.mp hd; have:=br.mp hn; exact h n this.1 this.2⟩
    rcases go with ⟨q2,δ',e2,y3,y4,y5,rfl⟩ | ⟨q2,e2⟩
    · left
      refine ⟨⟨q,iff.mp q2⟩,y3,y4,y5,?_⟩
      rw [aV,e]
      simp only [dR,eM,src,ay,e2]
    · right
      refine ⟨fun h=>q2 (iff.mpr h.2),?_⟩
      rw [aV,e]
      simp only [dR,eM,src,ay,e2]
theorem Af {f:PyData→List PyData→Rs PyData} {ds:List PyData} (h:(match ds with | [x0,.list x1]=>f x0 x1 | _=>.no)≠.no):∃ x0 x1,ds=[x0,.list x1]∧f x0 x1≠.no:=by
  rcases ds with _ | ⟨x0,_ | ⟨x1,_ | ⟨y,ys⟩⟩⟩
  · exact absurd rfl h
  · exact absurd rfl h
  · skip
    cases x1 with
    | list x1 =>
      exact ⟨_,_,rfl,h⟩
    | _=>exact absurd rfl h
  · first | exact absurd rfl h | (cases x1 <;> exact absurd rfl h)
theorem m4 {aU:Gf} (F:Et aU) (cs:Cs):∀ ds,ds.length=2→aJ ds≠.no→bf (cT cs aU (ds.map some++List.replicate 4 none))=aJ ds:=by
  intro ds hl hne
  obtain ⟨d,l,ez,hz⟩:=Af hne
  clear hne; subst ez; have hne:=hz; clear hz
  · skip
    split at hne
    · rename_i c1
      split at hne
      · rename_i rows hrw
        split at hne
        · rename_i hin
          obtain ⟨e1,l1,l6,hok⟩:=lR c1
          rw [jq hrw,← e1]
          generalize cj d=es at *
          have eg:=eE l1 l6 hok hin
          have eg':aJ [av es,.list (rows.map aS)]=_:=eg
          rw [eg']
          have hrs:∀ row∈rows,(∀ n∈row,0≤n∧n < es.length)∧row.length≤6:=fun row hr=>by
            have:=List.all_eq_true.mp hin row hr
            simp only [Bool.and_eq_true,decide_eq_true_eq,List.all_eq_true] at this
            exact ⟨fun n hn=>by have:=this.2 n hn; omega,this.1⟩
          have go:=jF (tgt:=bK 2) (body:=yc aU) (fun δ=>∃ x2 x3 x4 x5,δ=[some (av es),some (.list (rows.map aS)),x2,x3,x4,x5]) (fun d=>∃ row,d=aS row∧xV es row) (rows.map aS) (fun d hd δ pz3=>by
            obtain ⟨x2,x3,x4,x5,hx⟩:=pz3
            subst hx
            obtain ⟨row,hr,rfl⟩:=List.mem_map.mp hd
            have h2:=hrs row hr
            refine ⟨_,rfl,?_⟩
            rcases D2 F l1 l6 hok (.list (rows.map aS)) row h2.1 h2.2 x3 x4 x5 with ⟨q,y3,y4,y5,e⟩ | ⟨q,e⟩
            · exact .inl ⟨⟨row,rfl,q⟩,_,e,_,_,_,_,rfl⟩
            · refine .inr ⟨?_,e⟩
              rintro ⟨row',hrr,hq⟩
              have:row.map PyData.int=row'.map PyData.int:=by injection hrr
              have e3:row=row':=by
                have h1:=b4 row
                rw [this,b4] at h1
                exact (Option.some.inj h1).symm
              rw [← e3] at hq
              exact q hq) [some (av es),some (.list (rows.map aS)),none,none,none,none] ⟨none,none,none,none,rfl⟩
          have src:cm (ag 1) [some (av es),some (.list (rows.map aS)),none,none,none,none]=.ok (rows.map aS):=rfl
          show bf (cT cs aU [some (av es),some (.list (rows.map aS)),none,none,none,none])=_
          simp only [cT]
          rw [aV,dR,eM,src,ay]
          rcases go with ⟨q,δ',e,x2,x3,x4,x5,rfl⟩ | ⟨q,e⟩
          · rw [e]
            have hp:jN es rows:=fun row hr=>by
              obtain ⟨row',hrr,hq⟩:=q _ (List.mem_map.mpr ⟨row,hr,rfl⟩)
              have:row.map PyData.int=row'.map PyData.int:=by injection hrr
              have e3:row=row':=by
                have h1:=b4 row
                rw [this,b4] at h1
                exact (Option.some.inj h1).symm
              rw [e3]; exact hq
            rw [rD hp]
            rfl
          · rw [e]
            have hp:¬ jN es rows:=fun h=>q fun d hd=>by
              obtain ⟨row,hr,rfl⟩:=List.mem_map.mp hd
              exact ⟨row,rfl,h row hr⟩
            rw [p5 hp]
            rfl
        · exact absurd rfl hne
      · exact absurd rfl hne
    · exact absurd rfl hne
end RS
set_option maxRecDepth 100000
set_option maxHeartbeats 1000000
namespace RS
open PySem L2
noncomputable def putAt (x:Int) (hand:Nat) (k:Nat) (row:List Int):List Int:=row++(if k=hand then [x] else [])
noncomputable def jI (h:Nat) (x:Int) (rows:List (List Int)):List (List (List Int)):=(List.range h).map fun hand=>rows.mapIdx (putAt x hand)
noncomputable def dl (h:Nat):Nat→List (List (List Int))
  | 0=>[List.replicate h []]
  | n + 1=>((dl h n).map (jI h n)).flatten
theorem pe (h:Nat) (x:Int) (rows:List (List Int)):(jI h x rows).length=h:=by simp [jI]
theorem kE {α:Type} {k:Nat}:∀ (l:List (List α)),(∀ x∈l,x.length=k)→l.flatten.length=l.length * k
  | [],_=>by simp
  | a::l,h=>by
    rw [List.flatten_cons,List.length_append,List.length_cons,Nat.succ_mul,h a List.mem_cons_self,kE l fun x hx=>h x (List.mem_cons_of_mem _ hx)]; omega
theorem wz (h:Nat):∀ n,(dl h n).length=h ^ n
  | 0=>rfl
  | n + 1=>by
    show (((dl h n).map (jI h n)).flatten).length=_
    rw [kE (k:=h) _ fun x hx=>by obtain ⟨r,_,rfl⟩:=List.mem_map.mp hx; exact pe h n r,List.length_map,wz h n]; rfl
theorem zV {h n:Nat} (h4:h≤4) (n6:n≤6):h ^ n≤4096:=Nat.le_trans (Nat.pow_le_pow_left h4 n) (Nat.le_trans (Nat.pow_le_pow_right (by decide) n6) (by decide))
theorem sC (h:Nat):∀ (n:Nat) (rows:List (List Int)),rows∈dl h n→∃ f:Nat→Nat,(∀ i < n,f i < h)∧rows=(List.range h).map fun hand=>(a5 n).filter fun x=>decide (f x.toNat=hand)
  | 0,rows,hr=>by
    cases List.mem_singleton.mp hr
    refine ⟨fun _=>0,fun i hi=>absurd hi (Nat.not_lt_zero _),?_⟩
    apply List.ext_getElem?
    intro i
    rw [List.getElem?_map,List.getElem?_replicate]
    by_cases hi:i < h
    · rw [if_pos hi,List.getElem?_range hi]; rfl
    · rw [if_neg hi,List.getElem?_eq_none (by simpa using hi)]; rfl
  | n + 1,rows,hr=>by
    obtain ⟨l,hl,hr⟩:=List.mem_flatten.mp hr
    obtain ⟨r0,h0,rfl⟩:=List.mem_map.mp hl
    obtain ⟨hand,hh,rfl⟩:=List.mem_map.mp hr
    obtain ⟨f,hf,rfl⟩:=sC h n r0 h0
    refine ⟨fun k=>if k=n then hand else f k,fun i hi=>?_,?_⟩
    · show (if i=n then hand else f i) < h
      split
      · exact List.mem_range.mp hh
      · exact hf i (by omega)
    apply List.ext_getElem?
    intro i
    rw [List.getElem?_mapIdx,List.getElem?_map,List.getElem?_map]
    by_cases hi:i < h
    · rw [List.getElem?_range hi]
      simp only [Option.map_some,Option.some.injEq]
      unfold putAt
      have er:a5 (n + 1)=a5 n++[(n:Int)]:=by unfold a5; rw [List.range_succ,List.map_append]; rfl
      rw [er,List.filter_append]
      congr 1
      · refine List.filter_congr fun x hx=>?_
        have:=br.mp hx
        have:x.toNat≠n:=by omega
        simp [this]
      · have:(n:Int).toNat=n:=Int.toNat_natCast n
        by_cases z:i=hand
        · subst z; simp [this]
        · have z':¬ hand=i:=fun q=>z q.symm
          simp [this,z,z']
    · rw [List.getElem?_eq_none (by simpa using hi)]; rfl
theorem rC {elt:Ds→Rs PyData} {δ:Ds} (f:Nat→List Int→List Int):∀ (rows:List (List Int)) (k:Nat),(∀ i row,elt (δ++[some (.int ((i:Nat):Int)),some (aS row)])=.ok (aS (f i row))∨row ∉ rows) →
    fZ bL elt eN δ ((rows.map aS).mapIdx fun i d=>.tuple [.int ((k + i:Nat):Int),d])=.ok ((rows.mapIdx fun i row=>f (k + i) row).map aS)
  | [],_,_=>rfl
  | row::r,k,h=>by
    have h1:elt (δ++[some (.int ((k:Nat):Int)),some (aS row)])=.ok (aS (f k row)):=(h k row).resolve_right fun z=>z List.mem_cons_self
    have ih:=rC f r (k + 1) fun i row'=>(h i row').imp_right fun z q=>z (List.mem_cons_of_mem _ q)
    rw [List.map_cons,List.mapIdx_cons,List.mapIdx_cons,List.map_cons]
    unfold fZ
    rw [show eN (PyData.tuple [.int ((k + 0:Nat):Int),aS row])=some [some (.int ((k:Nat):Int)),some (aS row)] from rfl]
    have ef:(fun (i:Nat) (d:PyData)=>PyData.tuple [.int ((k + (i + 1):Nat):Int),d])=fun i d=>.tuple [.int ((k + 1 + i:Nat):Int),d]:=by
      funext i d; rw [show k + (i + 1)=k + 1 + i by omega]
    have ef2:(fun (i:Nat) (row:List Int)=>f (k + (i + 1)) row)=fun i row=>f (k + 1 + i) row:=by
      funext i d; rw [show k + (i + 1)=k + 1 + i by omega]
    rw [ef,ef2]
    have hc:∀ x,bL x=.ok true:=fun _=>rfl
    simp only [hc,Rs.gM,Rs.ai,if_true,h1,ih]
    rfl
noncomputable abbrev CZ:Ds→Sr:=iT [4] 4 (gL (bx 7 (iG (ae (ag 5) ao)) bL (g2 bz (ag 8) (g2 lJ (dE (ae (ag 3) ao)) (gF tX (ae (g2 dEq (ag 7) (ag 6)) ao)))) eN))
theorem Ff (n h:PyData) (fd:PyData) (x:Int) (acc:List PyData) (hz:acc.length < 1000000) (rows:List (List Int)) (hr:∀ r∈rows,r.length≤100) (hl:rows.length≤100) (hand:Nat) :
    CZ [some n,some h,some fd,some (.int x),some (.list acc),some (aq rows),some (.int (hand:Int))]=.nx [some n,some h,some fd,some (.int x),some (.list (acc++[aq (rows.mapIdx (putAt x hand))])),some (aq rows),some (.int (hand:Int))]:=by
  have hm:mask [4] [some n,some h,some fd,some (PyData.int x),some (.list acc),some (aq rows),some (.int (hand:Int))]=[some n,some h,some fd,some (.int x),none,some (aq rows),some (.int (hand:Int))]:=rfl
  have hcm:bx 7 (iG (ae (ag 5) ao)) bL (g2 bz (ag 8) (g2 lJ (dE (ae (ag 3) ao)) (gF tX (ae (g2 dEq (ag 7) (ag 6)) ao)))) eN [some n,some h,some fd,some (.int x),none,some (aq rows),some (.int (hand:Int))]=.ok ((rows.mapIdx fun i row=>putAt x hand (0 + i) row).map aS):=by
    unfold bx
    rw [if_pos (show [some n,some h,some fd,some (PyData.int x),none,some (aq rows),some (PyData.int (hand:Int))].length=7 from rfl)]
    have src:iG (ae (ag 5) ao) [some n,some h,some fd,some (.int x),none,some (aq rows),some (.int (hand:Int))]=.ok ((rows.map aS).mapIdx fun i d=>.tuple [.int ((0 + i:Nat):Int),d]):=by
      simp only [oV,aC,aO,ar,aw,Rs.ai,aq,xw,gg,Nat.zero_add]
    rw [src]
    simp only [Rs.ai]
    rw [if_pos (by rw [List.length_mapIdx,List.length_map]; omega)]
    refine rC (putAt x hand) rows 0 fun i row=>?_
    by_cases hin:row∈rows
    · left
      have hrl:=hr row hin
      have hq:((i:Int) == (hand:Int))=decide (i=hand):=by
        by_cases z:i=hand
        · simp [z]
        · have z':¬ ((i:Int)=(hand:Int)):=by omega
          rw [decide_eq_false z]
          exact beq_eq_false_iff_ne.mpr z'
      have hml:lJ (.list [.int x]) (.int (if decide (i=hand)=true then 1 else 0))=some (.list ((if i=hand then [x] else []).map PyData.int)):=by
        by_cases z:i=hand
        · rw [decide_eq_true z,if_pos rfl,if_pos z]; rfl
        · rw [decide_eq_false z,if_neg (by decide),if_neg z]; rfl
      have had:bz (aS row) (.list ((if i=hand then [x] else []).map PyData.int))=some (aS (putAt x hand i row)):=by
        show (if _ then _ else _)=_
        rw [if_pos (by split <;> simp <;> omega)]
        unfold aS putAt
        rw [List.map_append]
      simp only [List.cons_append,List.nil_append,cq,g6,g0,aC,aO,ar,aw,Rs.ai,lq,hq,Rs.ak,Av,hml,had]
    · exact .inr hin
  unfold CZ iT
  simp only [List.getElem?_cons_succ,List.getElem?_cons_zero,hm,jx,hcm,Rs.ai,ay,if_pos hz,Nat.zero_add]
  rfl
end RS
set_option maxRecDepth 100000
set_option maxHeartbeats 1000000
namespace RS
open PySem L2
theorem uu (n h fd:PyData) (x:Int) (rows:List (List Int)) (hr:∀ r∈rows,r.length≤100) (hl:rows.length≤100):∀ (hs:List Nat) (acc:List PyData) (x6:Option PyData),acc.length + hs.length < 1000000 →
    ∃ y6,forL (bK 6) CZ (hs.map fun (k:Nat)=>PyData.int (k:Int)) [some n,some h,some fd,some (.int x),some (.list acc),some (aq rows),x6]=.nx [some n,some h,some fd,some (.int x),some (.list (acc++(hs.map fun hand=>rows.mapIdx (putAt x hand)).map aq)),some (aq rows),y6]
  | [],acc,x6,_=>⟨x6,by simp [forL]⟩
  | k::r,acc,x6,hz=>by
    have hz':acc.length + (r.length + 1) < 1000000:=hz
    obtain ⟨y6,e⟩:=uu n h fd x rows hr hl r (acc++[aq (rows.mapIdx (putAt x k))]) (some (.int (k:Int))) (by rw [List.length_append,List.length_singleton]; omega)
    refine ⟨y6,?_⟩
    rw [List.map_cons]
    unfold forL
    rw [show bK 6 (PyData.int (k:Int)) [some n,some h,some fd,some (.int x),some (.list acc),some (aq rows),x6]=some [some n,some h,some fd,some (.int x),some (.list acc),some (aq rows),some (.int (k:Int))] from rfl]
    simp only [Ff n h fd x acc (by omega) rows hr hl k,e]
    rw [List.map_cons,List.map_cons,List.append_assoc]
    rfl
theorem zQ (h:Nat):b7 0 h=(List.range h).map fun (k:Nat)=>PyData.int (k:Int):=by
  unfold b7; exact List.map_congr_left fun k _=>by simp
noncomputable abbrev vA:Ds→Sr:=gu [4] (cZ (ae (ag 1) ao)) (bK 6) CZ
theorem Dq (n:PyData) {h:Nat} (h4:h≤4) (fd:PyData) (x:Int) (acc:List PyData) (rows:List (List Int)) (x6:Option PyData):cZ (ae (ag 1) ao) (mask [4] [some n,some (.int (h:Int)),some fd,some (.int x),some (.list acc),some (aq rows),x6])=.ok ((List.range h).map fun (k:Nat)=>PyData.int (k:Int)):=by
  have hrg:=gN (j:=(h:Int)) (by omega) (by omega)
  rw [Int.toNat_natCast,zQ] at hrg
  have hv:(ae (ag 1) ao) (mask [4] [some n,some (.int (h:Int)),some fd,some (.int x),some (.list acc),some (aq rows),x6])=.ok [.int (h:Int)]:=rfl
  rw [gI,hv,Rs.ai,hrg]
theorem EJ (n:PyData) {h:Nat} (h4:h≤4) (fd:PyData) (x:Int) (acc:List PyData) (rows:List (List Int)) (h1:rows.length≤100∧∀ r∈rows,r.length≤100) (hz:acc.length + 4 < 900000) (x6:Option PyData) :
    ∃ z6,vA [some n,some (.int (h:Int)),some fd,some (.int x),some (.list acc),some (aq rows),x6]=.nx [some n,some (.int (h:Int)),some fd,some (.int x),some (.list (acc++(jI h x rows).map aq)),some (aq rows),z6]:=by
  obtain ⟨z6,e1⟩:=uu n (.int (h:Int)) fd x rows h1.2 h1.1 (List.range h) acc x6 (by rw [List.length_range]; omega)
  refine ⟨z6,?_⟩
  unfold vA
  rw [dR,Dq n h4 fd x acc rows x6,ay,e1]
  rfl
theorem BY (n:PyData) {h:Nat} (h4:h≤4) (fd:PyData) (x:Int) (rl:List (List (List Int))) (x5 x6:Option PyData) (hr:∀ rows∈rl,rows.length≤100∧∀ r∈rows,r.length≤100) (hz:rl.length≤10000) :
    ∃ y5 y6,forL (bK 5) vA (rl.map aq) [some n,some (.int (h:Int)),some fd,some (.int x),some (.list []),x5,x6]=.nx [some n,some (.int (h:Int)),some fd,some (.int x),some (.list (((rl.map (jI h x)).flatten).map aq)),y5,y6]:=by
  obtain ⟨δ',e,y5,y6,hδ⟩:=fo (β:=Unit) (tgt:=bK 5) (body:=vA) (fun i δ=>∃ x5 x6,δ=[some n,some (.int (h:Int)),some fd,some (.int x),some (.list ((((rl.take i).map (jI h x)).flatten).map aq)),x5,x6]) (rl.map aq) 0 (fun i d δ hi pz4=>by
    obtain ⟨x5,x6,hx⟩:=pz4
    subst hx
    rw [Nat.zero_add]
    rw [List.getElem?_map] at hi
    obtain ⟨rows,hrows,rfl⟩:=Option.map_eq_some_iff.mp hi
    have hil:=(List.getElem?_eq_some_iff.mp hrows).1
    have hlen:((((rl.take i).map (jI h x)).flatten).map aq).length≤40000:=by
      rw [List.length_map,kE (k:=h) _ fun y hy=>by obtain ⟨r,_,rfl⟩:=List.mem_map.mp hy; exact pe h x r,List.length_map,List.length_take]
      have:min i rl.length * h≤10000 * 4:=Nat.mul_le_mul (by omega) h4
      omega
    obtain ⟨z6,hb⟩:=EJ n h4 fd x ((((rl.take i).map (jI h x)).flatten).map aq) rows (hr rows (List.mem_of_getElem? hrows)) (by omega) x6
    refine ⟨_,_,rfl,hb,some (aq rows),z6,?_⟩
    rw [List.take_succ,hrows,Option.toList_some,List.map_append,List.flatten_append,List.map_append]
    simp only [List.map_cons,List.map_nil,List.flatten_cons,List.flatten_nil,List.append_nil]) [some n,some (.int (h:Int)),some fd,some (.int x),some (.list []),x5,x6] ⟨x5,x6,rfl⟩
  refine ⟨y5,y6,?_⟩
  rw [e,hδ,List.length_map,Nat.zero_add,List.take_length]
noncomputable def bo:Gf
  | [.int n,.int h]=>if 0≤n∧n≤6∧1≤h∧h≤4 then .ok (.list ((dl h.toNat n.toNat).map aq)) else .no
  | _=>.no
theorem iz {n h:Nat} (h1:n≤6) (h2:1≤h) (h3:h≤4):bo [.int (n:Int),.int (h:Int)]=.ok (.list ((dl h n).map aq)):=by
  unfold bo
  simp only
  rw [if_pos (by omega),Int.toNat_natCast,Int.toNat_natCast]
theorem zJ {h n:Nat} (h4:h≤4) (n6:n≤6):∀ rows∈dl h n,rows.length≤100∧∀ r∈rows,r.length≤100:=fun rows hr=>by
  obtain ⟨f,_,rfl⟩:=sC h n rows hr
  refine ⟨by rw [List.length_map,List.length_range]; omega,fun r hr=>?_⟩
  obtain ⟨k,_,rfl⟩:=List.mem_map.mp hr
  have:=List.length_filter_le (fun x:Int=>decide (f x.toNat=k)) (a5 n)
  rw [b0] at this
  omega
theorem zT {f:Int→Int→Rs PyData} {ds:List PyData} (h:(match ds with | [.int x0,.int x1]=>f x0 x1 | _=>.no)≠.no):∃ x0 x1,ds=[.int x0,.int x1]∧f x0 x1≠.no:=by
  rcases ds with _ | ⟨x0,_ | ⟨x1,_ | ⟨y,ys⟩⟩⟩
  · exact absurd rfl h
  · first | exact absurd rfl h | (cases x0 <;> exact absurd rfl h)
  · skip
    cases x0 with
    | int x0 =>
      cases x1 with
      | int x1 =>
        exact ⟨_,_,rfl,h⟩
      | _=>exact absurd rfl h
    | _=>first | exact absurd rfl h | (cases x1 <;> exact absurd rfl h)
  · first | exact absurd rfl h | (cases x0 <;> first | exact absurd rfl h | (cases x1 <;> exact absurd rfl h))
theorem pK (cs:Cs):∀ ds,ds.length=2→bo ds≠.no→bf (eF cs (ds.map some++List.replicate 5 none))=bo ds:=by
  intro ds hl hne
  obtain ⟨n',h',ez,hz⟩:=zT hne
  clear hne; subst ez; have hne:=hz; clear hz
  · skip
    split at hne
    · rename_i hc
      obtain ⟨n,rfl⟩:∃ n:Nat,n'=(n:Int):=⟨n'.toNat,by omega⟩
      obtain ⟨h,rfl⟩:∃ h:Nat,h'=(h:Int):=⟨h'.toNat,by omega⟩
      have n6:n≤6:=by omega
      have h1:1≤h:=by omega
      have h4:h≤4:=by omega
      rw [iz n6 h1 h4]
      have hrh:=gN (j:=(h:Int)) (by omega) (by omega)
      rw [Int.toNat_natCast] at hrh
      have hrn:=gN (j:=(n:Int)) (by omega) (by omega)
      rw [Int.toNat_natCast] at hrn
      have hcm:bx 7 (cZ (ae (ag 1) ao)) bL (dE ao) bj (mask [4] [some (.int (n:Int)),some (.int (h:Int)),none,none,none,none,none])=.ok ((b7 0 h).map fun _=>.list []):=by
        refine cU rfl ?_ (by rw [dy]; omega) fun d _=>rfl
        have hv:(ae (ag 1) ao) (mask [4] [some (.int (n:Int)),some (.int (h:Int)),none,none,none,none,none])=.ok [.int (h:Int)]:=rfl
        rw [gI,hv,Rs.ai,hrh]
      have em:((b7 0 h).map fun _=>PyData.list [])=(List.replicate h ([]:List Int)).map aS:=by
        rw [List.map_const',dy,List.map_replicate]; rfl
      rw [em] at hcm
      have s1:bw [4] 2 (dE (ae (gL (bx 7 (cZ (ae (ag 1) ao)) bL (dE ao) bj)) ao)) [some (.int (n:Int)),some (.int (h:Int)),none,none,none,none,none]=.nx [some (.int (n:Int)),some (.int (h:Int)),some (.list ((dl h 0).map aq)),none,none,none,none]:=by
        rw [ec,if_pos (by simp)]
        simp only [g0,aC,aO,jx,hcm,Rs.ai,ay]
        rfl
      have src:cZ (ae (ag 0) ao) (mask [4] [some (.int (n:Int)),some (.int (h:Int)),some (.list ((dl h 0).map aq)),none,none,none,none])=.ok (b7 0 n):=by
        have hv:(ae (ag 0) ao) (mask [4] [some (.int (n:Int)),some (.int (h:Int)),some (.list ((dl h 0).map aq)),none,none,none,none])=.ok [.int (n:Int)]:=rfl
        rw [gI,hv,Rs.ai,hrn]
      obtain ⟨δ',e,x3,x5,x6,hδ⟩:=fo (β:=Unit) (tgt:=bK 3) (body:=bu (kD [4] 4 ao) (bu (gu [4] (cm (ag 2)) (bK 5) vA) (yf 2 4)))
        (fun i δ=>∃ x3 x5 x6,δ=[some (.int (n:Int)),some (.int (h:Int)),some (.list ((dl h i).map aq)),x3,none,x5,x6]) (b7 0 n) 0 (fun i d δ hi pz4=>by
          obtain ⟨x3,x5,x6,hx⟩:=pz4
          subst hx
          obtain ⟨hil,hd⟩:=ia hi
          rw [Int.zero_add] at hd
          subst hd
          rw [Nat.zero_add]
          have hlen:=wz h i
          have hpw:=zV (h:=h) (n:=i) h4 (by omega)
          obtain ⟨y5,y6,e⟩:=BY (.int (n:Int)) h4 (.list ((dl h i).map aq)) (i:Int) (dl h i) x5 x6 (zJ h4 (by omega)) (by rw [hlen]; omega)
          refine ⟨[some (.int (n:Int)),some (.int (h:Int)),some (.list ((dl h i).map aq)),some (.int (i:Int)),none,x5,x6],[some (.int (n:Int)),some (.int (h:Int)),some (.list ((dl h (i + 1)).map aq)),some (.int (i:Int)),none,y5,y6],rfl,?_,_,_,_,rfl⟩
          have t1:kD [4] 4 ao [some (.int (n:Int)),some (.int (h:Int)),some (.list ((dl h i).map aq)),some (.int (i:Int)),none,x5,x6]=.nx [some (.int (n:Int)),some (.int (h:Int)),some (.list ((dl h i).map aq)),some (.int (i:Int)),some (.list []),x5,x6]:=rfl
          have src2:cm (ag 2) (mask [4] [some (.int (n:Int)),some (.int (h:Int)),some (.list ((dl h i).map aq)),some (.int (i:Int)),some (.list []),x5,x6])=.ok ((dl h i).map aq):=rfl
          rw [aV,t1]; simp only
          rw [aV,dR,src2,ay,e]
          rfl) [some (.int (n:Int)),some (.int (h:Int)),some (.list ((dl h 0).map aq)),none,none,none,none] ⟨none,none,none,rfl⟩
      rw [dy,Nat.zero_add] at hδ
      subst hδ
      show bf (eF cs [some (.int (n:Int)),some (.int (h:Int)),none,none,none,none,none])=_
      simp only [eF]
      rw [aV,s1]; simp only
      rw [aV,dR,src,ay,e]
      rfl
    · exact absurd rfl hne
noncomputable def fA (n h:Nat) (f:Nat→Nat):List (List Int):=(List.range h).map fun hand=>(a5 n).filter fun x=>decide (f x.toNat=hand)
end RS
set_option maxRecDepth 100000
set_option maxHeartbeats 1000000
namespace RS
open PySem L2
end RS
set_option maxRecDepth 100000
set_option maxHeartbeats 1000000
namespace RS
open PySem L2
end RS
set_option maxRecDepth 100000
set_option maxHeartbeats 1000000
namespace RS
open PySem L2
theorem m5.ft {es fs:List Er} {rs:List Int} {φ:Int→Int} (h:m5 es fs rs φ) {n:Int} (hn:n∈rs):RS.ft fs (rs.map φ) (φ n)=RS.ft es rs n:=by
  unfold RS.ft
  rw [h.longest hn,h.at' n hn]
theorem m5.all {es fs:List Er} {rs:List Int} {φ:Int→Int} (h:m5 es fs rs φ):lg fs (rs.map φ)=lg es rs:=by
  unfold lg
  rw [List.all_map]
  cases q:rs.all fun n=>RS.ft es rs n with
  | true =>
    rw [List.all_eq_true] at q ⊢
    intro n hn
    show RS.ft fs (rs.map φ) (φ n)=true
    rw [h.ft hn]; exact q n hn
  | false =>
    obtain ⟨n,hn,hx⟩:=List.all_eq_false.mp q
    refine List.all_eq_false.mpr ⟨n,hn,?_⟩
    show ¬ RS.ft fs (rs.map φ) (φ n)=true
    rw [h.ft hn]; exact hx
theorem xn {es:List Er} {od:List Int} {k:Nat} (h:k < od.length):az (sub es od) (k:Int)=az es (od.getD k 0):=by
  unfold az sub
  rw [Int.toNat_natCast,List.getD_eq_getElem?_getD,List.getElem?_map,List.getElem?_eq_getElem h]
  simp only [Option.map_some,Option.getD_some]
  rw [List.getD_eq_getElem?_getD,List.getD_eq_getElem?_getD,List.getElem?_eq_getElem h]
  rfl
section
variable {es:List Er} {od:List Int} (ho:bV es.length od)
include ho
theorem sub_len:(sub es od).length=es.length:=by unfold sub; rw [List.length_map]; exact ho.len
theorem place_lt {m:Int} (m0:0≤m) (m1:m < es.length):placeOf od m < es.length:=by
  have:=l9 (ho.mem m0 (by omega))
  rw [ho.len] at this; exact this
theorem zq {m:Int} (m0:0≤m) (m1:m < es.length):az (sub es od) (placeOf od m:Int)=az es m:=by
  have hm:=ho.mem m0 (by omega)
  rw [xn (l9 hm),List.getD_eq_getElem?_getD,kS hm]; rfl
theorem rQ {m k:Int} (hm:m∈od) (hk:k∈od) (h:placeOf od m=placeOf od k):m=k:=by
  have h1:=kS hm
  have h2:=kS hk
  rw [h,h2] at h1
  exact (Option.some.inj h1).symm
theorem yy {rs:List Int} (hr:bV es.length rs):bV es.length (rs.map fun m=>(placeOf od m:Int)) where
  len:=by rw [List.length_map]; exact hr.len
  rng:=fun r h=>by
    obtain ⟨m,hm,rfl⟩:=List.mem_map.mp h
    have:=hr.rng m hm
    have:=place_lt ho this.1 this.2
    omega
  nd:=by
    refine List.pairwise_map.mpr (List.Pairwise.imp_of_mem (fun {a b} ha hb hne e=>hne ?_) hr.nd)
    have h1:=hr.rng a ha; have h2:=hr.rng b hb
    exact rQ ho (ho.mem h1.1 h1.2) (ho.mem h2.1 h2.2) (by omega)
theorem C0 {rs:List Int} (hr:bV es.length rs):m5 es (sub es od) rs fun m=>(placeOf od m:Int) where
  at':=fun m hm=>by have:=hr.rng m hm; exact zq ho this.1 this.2
  inj:=fun m hm k hk e=>by
    have h1:=hr.rng m hm; have h2:=hr.rng k hk
    exact rQ ho (ho.mem h1.1 h1.2) (ho.mem h2.1 h2.2) (by omega)
theorem Br (h:Fits es):Fits (sub es od):=by
  obtain ⟨rs,hr,ha⟩:=h
  refine ⟨rs.map fun m=>(placeOf od m:Int),by rw [sub_len ho]; exact yy ho hr,?_⟩
  rw [(C0 ho hr).all]; exact ha
end
theorem qY (es:List Er):sub es (a5 es.length)=es:=by
  apply List.ext_getElem?
  intro i
  unfold sub a5
  rw [List.map_map,List.getElem?_map]
  by_cases h:i < es.length
  · rw [List.getElem?_range h,List.getElem?_eq_getElem h]
    simp only [Option.map_some,Function.comp]
    congr 1
    unfold az
    rw [Int.toNat_natCast,List.getD_eq_getElem?_getD,List.getElem?_eq_getElem h]; rfl
  · rw [List.getElem?_eq_none (by simpa using h),List.getElem?_eq_none (by omega)]; rfl
theorem mE (n:Nat):bV n (a5 n):=⟨b0 n,fun r h=>br.mp h,d6 n⟩
theorem yw {es fs:List Er} (h:es.Perm fs) (hf:Fits es):Fits fs:=by
  suffices H:∃ od,bV es.length od∧fs=sub es od by
    obtain ⟨od,ho,rfl⟩:=H
    exact Br ho hf
  clear hf
  induction h with
  | nil=>exact ⟨[],⟨rfl,fun r h=>(List.not_mem_nil h).elim,List.nodup_nil⟩,rfl⟩
  | @cons x l m _ ih =>
    obtain ⟨od,ho,rfl⟩:=ih
    refine ⟨0::od.map (· + 1),⟨?_,?_,?_⟩,?_⟩
    · rw [List.length_cons,List.length_map,ho.len]; rfl
    · intro r hr
      rcases List.mem_cons.mp hr with rfl | hr
      · exact ⟨by decide,by rw [List.length_cons]; omega⟩
      · obtain ⟨k,hk,rfl⟩:=List.mem_map.mp hr
        have:=ho.rng k hk
        exact ⟨by omega,by rw [List.length_cons]; omega⟩
    · refine List.nodup_cons.mpr ⟨fun hz=>?_,?_⟩
      · obtain ⟨k,hk,e⟩:=List.mem_map.mp hz
        have:=ho.rng k hk
        omega
      · exact List.pairwise_map.mpr (ho.nd.imp fun hne e=>hne (by omega))
    · unfold sub
      rw [List.map_cons,List.map_map]
      congr 1
      refine List.map_congr_left fun k hk=>?_
      have:=ho.rng k hk
      unfold az
      show l.getD k.toNat er0=(x::l).getD (k + 1).toNat er0
      rw [show (k + 1).toNat=k.toNat + 1 by omega,List.getD_cons_succ]
  | @swap x y l =>
    refine ⟨1::0::(a5 l.length).map (· + 2),⟨?_,?_,?_⟩,?_⟩
    · simp [b0]
    · intro r hr
      rcases List.mem_cons.mp hr with rfl | hr
      · exact ⟨by decide,by rw [List.length_cons,List.length_cons]; omega⟩
      · rcases List.mem_cons.mp hr with rfl | hr
        · exact ⟨by decide,by rw [List.length_cons,List.length_cons]; omega⟩
        · obtain ⟨k,hk,rfl⟩:=List.mem_map.mp hr
          have:=br.mp hk
          exact ⟨by omega,by rw [List.length_cons,List.length_cons]; omega⟩
    · refine List.nodup_cons.mpr ⟨fun hz=>?_,List.nodup_cons.mpr ⟨fun hz=>?_,List.pairwise_map.mpr ((d6 _).imp fun hne e=>hne (by omega))⟩⟩
      · rcases List.mem_cons.mp hz with hz | hz
        · cases hz
        · obtain ⟨k,hk,e⟩:=List.mem_map.mp hz
          have:=br.mp hk
          omega
      · obtain ⟨k,hk,e⟩:=List.mem_map.mp hz
        have:=br.mp hk
        omega
    · have key:sub (y::x::l) ((a5 l.length).map (· + 2))=l:=by
        conv=>rhs; rw [← qY l]
        unfold sub
        rw [List.map_map]
        refine List.map_congr_left fun k hk=>?_
        have:=br.mp hk
        unfold az
        show (y::x::l).getD (k + 2).toNat er0=l.getD k.toNat er0
        rw [show (k + 2).toNat=k.toNat + 2 by omega,List.getD_cons_succ,List.getD_cons_succ]
      show x::y::l=_
      conv=>lhs; rw [← key]
      rfl
  | @trans a b c h1 _ ih1 ih2 =>
    obtain ⟨o1,r1,rfl⟩:=ih1
    obtain ⟨o2,r2,rfl⟩:=ih2
    have hl:(sub a o1).length=a.length:=sub_len r1
    rw [hl] at r2
    refine ⟨o2.map fun k=>o1.getD k.toNat 0,⟨?_,?_,?_⟩,?_⟩
    · rw [List.length_map,r2.len]
    · intro r hr
      obtain ⟨k,hk,rfl⟩:=List.mem_map.mp hr
      have h2:=r2.rng k hk
      have:o1.getD k.toNat 0∈o1:=by
        rw [List.getD_eq_getElem?_getD,List.getElem?_eq_getElem (by rw [r1.len]; omega)]
        exact List.getElem_mem _
      exact r1.rng _ this
    · refine List.pairwise_map.mpr (List.Pairwise.imp_of_mem (fun {p q} hp hq hne e=>hne ?_) r2.nd)
      have h1:=r2.rng p hp; have h2:=r2.rng q hq
      have i1:p.toNat < o1.length:=by rw [r1.len]; omega
      have i2:q.toNat < o1.length:=by rw [r1.len]; omega
      rw [List.getD_eq_getElem?_getD,List.getD_eq_getElem?_getD,List.getElem?_eq_getElem i1,List.getElem?_eq_getElem i2] at e
      have e':o1[p.toNat]=o1[q.toNat]:=e
      have hw:=List.pairwise_iff_getElem.mp r1.nd
      by_cases z1:p.toNat < q.toNat
      · exact absurd e' (hw _ _ i1 i2 z1)
      · by_cases z2:q.toNat < p.toNat
        · exact absurd e'.symm (hw _ _ i2 i1 z2)
        · omega
    · unfold sub
      rw [List.map_map]
      refine List.map_congr_left fun k hk=>?_
      have h2:=r2.rng k hk
      obtain ⟨j,rfl⟩:∃ j:Nat,k=(j:Int):=⟨k.toNat,by omega⟩
      have:=xn (es:=a) (od:=o1) (k:=j) (by rw [r1.len]; omega)
      unfold sub at this
      rw [this]
      show _=az a (o1.getD (j:Int).toNat 0)
      rw [Int.toNat_natCast]
end RS
set_option maxRecDepth 100000
set_option maxHeartbeats 1000000
namespace RS
open PySem L2
end RS
set_option maxRecDepth 100000
set_option maxHeartbeats 1000000
namespace RS
open PySem L2
theorem yL (cs:Cs):∀ ds,ds.length=1→cB ds≠.no→bf (nB cs (ds.map some++List.replicate 0 none))=cB ds:=xc cs
theorem lA {es:List Er} (cs:Cs) (h1:1≤es.length) (h2:es.length≤6) (h:∀ e∈es,e.Ok):bc cs [av es]=.ok (av es):=by
  unfold bc; simp [kN,fG h1 h2 h]
end RS
set_option maxRecDepth 100000
set_option maxHeartbeats 1000000
namespace RS
open PySem L2
structure Er.Wk (e:Er):Prop where
  sh:e.Sh
  e2:e.every≤60
  l1:0≤e.late
  p2:e.parts.length≤4
  pl:∀ p∈e.parts,1≤p.1∧p.1≤1000000
  p1:e.parts≠[]
theorem Er.Ok.wk {e:Er} (h:e.Ok):e.Wk:=⟨h.sh,h.e2,h.l1,h.p2,fun p hp=>by have:=h.pl p hp; exact ⟨this.1,by omega⟩,h.p1⟩
theorem Er.Wk.work1 {e:Er} (h:e.Wk):1≤e.work:=by
  obtain ⟨p,hp⟩:=List.exists_mem_of_ne_nil _ h.p1
  have h1:=h.sh.part_le hp
  have h2:=(h.pl p hp).1
  omega
noncomputable def wkB (e:Er):Bool:=decide (e.every≤60) && decide (0≤e.late) && decide (e.parts.length≤4) && e.parts.all (fun p=>decide (1≤p.1)) && decide (e.parts≠[])
theorem Ef {e:Er} (h:e.Wk):wkB e=true:=by
  unfold wkB
  simp only [Bool.and_eq_true,decide_eq_true_eq,List.all_eq_true]
  exact ⟨⟨⟨⟨h.e2,h.l1⟩,h.p2⟩,fun p hp=>(h.pl p hp).1⟩,h.p1⟩
theorem DL {e:Er} (h:wkB e=true) (hs:e.Sh):e.Wk:=by
  unfold wkB at h
  simp only [Bool.and_eq_true,decide_eq_true_eq,List.all_eq_true] at h
  obtain ⟨⟨⟨⟨a,b⟩,c⟩,d⟩,f⟩:=h
  exact ⟨hs,a,b,c,fun p hp=>⟨d p hp,(hs.pl p hp).2.1⟩,f⟩
noncomputable def jW (d:PyData):Bool:=pW d && decide (1≤(cj d).length) && decide ((cj d).length≤6) && (cj d).all wkB
theorem gU {es:List Er} (h1:1≤es.length) (h2:es.length≤6) (h:∀ e∈es,e.Wk):jW (av es)=true:=by
  unfold jW
  rw [pz (by omega) fun e he=>(h e he).sh,dw]
  simp only [Bool.and_eq_true,decide_eq_true_eq,List.all_eq_true]
  exact ⟨⟨⟨trivial,h1⟩,h2⟩,fun e he=>Ef (h e he)⟩
theorem km {d:PyData} (h:jW d=true):av (cj d)=d∧1≤(cj d).length∧(cj d).length≤6∧∀ e∈cj d,e.Wk:=by
  unfold jW at h
  simp only [Bool.and_eq_true,decide_eq_true_eq,List.all_eq_true] at h
  obtain ⟨⟨⟨a,b⟩,c⟩,f⟩:=h
  obtain ⟨e1,_,hs⟩:=w6 a
  exact ⟨e1,b,c,fun e he=>DL (f e he) (hs e he)⟩
noncomputable def okW (d r:PyData) (n:Int):Bool:=jW d && jf (cj d).length r && decide (0≤n) && decide (n < (cj d).length)
theorem lO {es:List Er} {rs:List Int} {n:Int} (h1:1≤es.length) (h2:es.length≤6) (h:∀ e∈es,e.Wk) (hr:bV es.length rs) (n0:0≤n) (n1:n < es.length):okW (av es) (aL rs) n=true:=by
  unfold okW
  rw [gU h1 h2 h,dw,lN hr]
  simp only [Bool.and_eq_true,decide_eq_true_eq]
  exact ⟨⟨⟨trivial,trivial⟩,n0⟩,n1⟩
theorem gx {d r:PyData} {n:Int} (h:okW d r n=true):∃ es rs,d=av es∧r=aL rs∧cj d=es∧c7 r=rs∧1≤es.length∧es.length≤6∧(∀ e∈es,e.Wk)∧bV es.length rs∧0≤n∧n < es.length:=by
  unfold okW at h
  simp only [Bool.and_eq_true,decide_eq_true_eq] at h
  obtain ⟨⟨⟨c1,c2⟩,n0⟩,n1⟩:=h
  obtain ⟨e1,l1,l6,hok⟩:=km c1
  obtain ⟨e2,hr⟩:=oY c2
  exact ⟨cj d,c7 r,e1.symm,e2.symm,rfl,rfl,l1,l6,hok,hr,n0,n1⟩
end RS
set_option maxRecDepth 100000
set_option maxHeartbeats 1000000
namespace RS
open PySem L2
noncomputable def hdD (C:Addr) (m k t l:Int):PyData:=Ba C [("number",.int m),("part",.int k),("tool",.int t),("times",.int l)]
noncomputable def i7 (C:Addr) (es:List Er) (rs:List Int) (pl m k:Int) (p:Int × Option Int):List PyData:=match p.2 with
  | some t=>(match bY es rs t with
    | some h=>if h≤pl then [hdD C m k t (p.1 - 1)] else []
    | none=>[])
  | none=>[]
noncomputable def hdM (C:Addr) (es:List Er) (rs:List Int) (pl m:Int):Nat→List (Int × Option Int)→List PyData
  | _,[]=>[]
  | k,p::r=>i7 C es rs pl m k p++hdM C es rs pl m (k + 1) r
noncomputable def iC (C:Addr) (es:List Er) (rs:List Int) (pl:Int):List Int→List PyData
  | []=>[]
  | m::r=>hdM C es rs pl m 0 (az es m).parts++iC C es rs pl r
theorem rM (C:Addr) (es:List Er) (rs:List Int) (pl m k:Int) (p:Int × Option Int):(i7 C es rs pl m k p).length≤1:=by
  unfold i7
  split
  · split
    · split <;> simp
    · simp
  · simp
theorem tW (C:Addr) (es:List Er) (rs:List Int) (pl m:Int):∀ (ps:List (Int × Option Int)) (k:Nat),(hdM C es rs pl m k ps).length≤ps.length
  | [],_=>by simp [hdM]
  | p::r,k=>by
    have h1:=rM C es rs pl m k p
    have h2:=tW C es rs pl m r (k + 1)
    unfold hdM
    rw [List.length_append,List.length_cons]; omega
noncomputable abbrev Bp (cs:Cs):Ds→Sr:=iT [5] 5 (aF (uF cs.Holding ["number", "part", "tool", "times"]) (ae (ag 6) (ae (ag 7) (ae (g2 dIx (ag 8) (gC (.int 1))) (ae (g2 kW (g2 dIx (ag 8) (gC (.int 0))) (gC (.int 1))) ao)))))
noncomputable abbrev lP (cs:Cs):Ds→Sr:=sIf (uU (gT (g1 e7 (g2 dIx (ag 8) (gC (.int 1))))) (gT (g2 dLe (g2 dIx (ag 4) (g2 dIx (ag 8) (gC (.int 1)))) (ag 3)))) (Bp cs) bM
theorem CI (cs:Cs) (es:List Er) (rs:List Int) (E R n:PyData) (pl:Nat) (m:Int) (HL:List PyData) (hHL:∀ t:Int,0≤t→t≤3→atI HL t=some (bZ (bY es rs t))) (p:Int × Option Int) (k:Nat) (acc:List PyData) (hl:acc.length < 1000000) (h:∀ t,p.2=some t→0≤t∧t≤3∧∃ h,bY es rs t=some h) :
    lP cs [some E,some R,some n,some (.int pl),some (.list HL),some (.list acc),some (.int m),some (.int k),some (bJ p)]
     =.nx [some E,some R,some n,some (.int pl),some (.list HL),some (.list (acc++i7 cs.Holding es rs pl m k p)),some (.int m),some (.int k),some (bJ p)]:=by
  obtain ⟨l,o⟩:=p
  cases o with
  | none=>simp [lP,Ak,bZ,i7]
  | some t =>
    obtain ⟨h0,h3,hh,ht⟩:=h t rfl
    have ha:=hHL t h0 h3
    rw [ht] at ha
    have e1:dIx (bJ (l,some t)) (.int 1)=some (.int t):=rfl
    have e0:dIx (bJ (l,some t)) (.int 0)=some (.int l):=rfl
    have hix:dIx (.list HL) (.int t)=some (.int hh):=ha
    have add:Bp cs [some E,some R,some n,some (.int pl),some (.list HL),some (.list acc),some (.int m),some (.int k),some (bJ (l,some t))]=.nx [some E,some R,some n,some (.int pl),some (.list HL),some (.list (acc++[hdD cs.Holding m k t (l - 1)])),some (.int m),some (.int k),some (bJ (l,some t))]:=by
      unfold Bp iT
      simp only [List.getElem?_cons_succ,List.getElem?_cons_zero]
      simp only [a9,aC,aO,cq,aB (show 6 ∉ [5] by decide),aB (show 7 ∉ [5] by decide),aB (show 8 ∉ [5] by decide),ar,aw,d4,Rs.ai,e1,e0,rn,Rs.ak]
      have hm:uF cs.Holding ["number", "part", "tool", "times"] [.int m,.int (k:Int),.int t,.int (l - 1)]=.ok (hdD cs.Holding m k t (l - 1)):=rfl
      rw [hm,ay,if_pos hl]
      rfl
    have hst:i7 cs.Holding es rs pl m k (l,some t)=if hh≤(pl:Int) then [hdD cs.Holding m k t (l - 1)] else []:=by
      unfold i7; simp only [ht]
    rw [hst]
    by_cases hle:hh≤(pl:Int)
    · rw [if_pos hle,← add]
      simp [lP,e1,hix,hle]
    · rw [if_neg hle,List.append_nil]
      simp [lP,e1,hix,hle]
theorem u0 (cs:Cs) (es:List Er) (rs:List Int) (E R n:PyData) (pl:Nat) (m:Int) (HL:List PyData) (hHL:∀ t:Int,0≤t→t≤3→atI HL t=some (bZ (bY es rs t))):∀ (ps:List (Int × Option Int)) (k:Nat) (acc:List PyData) (x7 x8:Option PyData),acc.length + ps.length < 1000000→(∀ p∈ps,∀ t,p.2=some t→0≤t∧t≤3∧∃ h,bY es rs t=some h) →
    ∃ y7 y8,forL (e8 [7,8]) (lP cs) ((ps.map bJ).mapIdx fun i d=>.tuple [.int ((k + i:Nat):Int),d])
      [some E,some R,some n,some (.int pl),some (.list HL),some (.list acc),some (.int m),x7,x8]
     =.nx [some E,some R,some n,some (.int pl),some (.list HL),some (.list (acc++hdM cs.Holding es rs pl m k ps)),some (.int m),y7,y8]
  | [],k,acc,x7,x8,_,_=>⟨x7,x8,by simp [forL,hdM]⟩
  | p::r,k,acc,x7,x8,hz,h=>by
    have hz':acc.length + (r.length + 1) < 1000000:=hz
    have hl1:=rM cs.Holding es rs pl m k p
    obtain ⟨y7,y8,e⟩:=u0 cs es rs E R n pl m HL hHL r (k + 1) (acc++i7 cs.Holding es rs pl m k p) (some (.int (k:Int))) (some (bJ p)) (by rw [List.length_append]; omega) (fun q hq=>h q (List.mem_cons_of_mem _ hq))
    refine ⟨y7,y8,?_⟩
    rw [List.map_cons,List.mapIdx_cons]
    unfold forL
    have e1:e8 [7,8] (PyData.tuple [.int ((k + 0:Nat):Int),bJ p]) [some E,some R,some n,some (.int pl),some (.list HL),some (.list acc),some (.int m),x7,x8]=some [some E,some R,some n,some (.int pl),some (.list HL),some (.list acc),some (.int m),some (.int (k:Int)),some (bJ p)]:=rfl
    rw [e1]
    simp only [CI cs es rs E R n pl m HL hHL p k acc (by omega) (h p List.mem_cons_self)]
    have ef:(fun (i:Nat) (d:PyData)=>PyData.tuple [.int ((k + (i + 1):Nat):Int),d])=fun i d=>.tuple [.int ((k + 1 + i:Nat):Int),d]:=by
      funext i d; rw [show k + (i + 1)=k + 1 + i by omega]
    rw [ef,e]
    rw [show hdM cs.Holding es rs pl m k (p::r)=i7 cs.Holding es rs pl m k p++hdM cs.Holding es rs pl m (k + 1) r from rfl,List.append_assoc]
theorem uj {es:List Er} {rs:List Int} (cs:Cs) (hsh:∀ e∈es,e.Sh) (hr:bV es.length rs) (n:PyData) (pl:Nat):∀ (ms:List Int) (acc:List PyData) (x6 x7 x8:Option PyData),acc.length + 1000 * ms.length < 1000000→(∀ m∈ms,m∈rs) →
    ∃ y6 y7 y8,forL (bK 6) (gu [5] (iG (ae (g2 dIx (g2 dIx (ag 0) (ag 6)) (gC (.int 3))) ao)) (e8 [7,8]) (lP cs)) (ms.map PyData.int)
      [some (av es),some (aL rs),some n,some (.int pl),some (cY es rs),some (.list acc),x6,x7,x8]
     =.nx [some (av es),some (aL rs),some n,some (.int pl),some (cY es rs),some (.list (acc++iC cs.Holding es rs pl ms)),y6,y7,y8]
  | [],acc,x6,x7,x8,_,_=>⟨x6,x7,x8,by simp [forL,iC]⟩
  | m::r,acc,x6,x7,x8,hz,h=>by
    have hz':acc.length + 1000 * (r.length + 1) < 1000000:=hz
    have hm:=h m List.mem_cons_self
    have hrg:=hr.rng m hm
    have hsm:=hsh _ (bW hrg.1 (by omega))
    have hpn:=hsm.pn
    have hml:=tW cs.Holding es rs pl m (az es m).parts 0
    obtain ⟨z7,z8,e1⟩:=u0 cs es rs (av es) (aL rs) n pl m ((List.range 4).map fun (t:Nat)=>bZ (bY es rs t)) (fun t a b=>wM a b) (az es m).parts 0 acc x7 x8 (by omega) fun p hp t ht=>by
      obtain ⟨_,_,c⟩:=hsm.pl p hp
      have:=c t ht
      exact ⟨this.1,this.2,vm es t rs 0 m hm (D4 hp ht)⟩
    obtain ⟨y6,y7,y8,e2⟩:=uj cs hsh hr n pl r (acc++hdM cs.Holding es rs pl m 0 (az es m).parts) (some (.int m)) z7 z8 (by rw [List.length_append]; omega) fun x hx=>h x (List.mem_cons_of_mem _ hx)
    refine ⟨y6,y7,y8,?_⟩
    rw [List.map_cons]
    unfold forL
    have a2:atI (es.map Er.d) m=some (az es m).d:=fU hrg.1 (by omega)
    have src:iG (ae (g2 dIx (g2 dIx (ag 0) (ag 6)) (gC (.int 3))) ao) (mask [5] [some (av es),some (aL rs),some n,some (.int pl),some (cY es rs),some (.list acc),some (.int m),x7,x8])=.ok (((az es m).parts.map bJ).mapIdx fun i d=>.tuple [.int ((0 + i:Nat):Int),d]):=by
      simp only [oV,aC,aO,cq,aB (show 0 ∉ [5] by decide),aB (show 6 ∉ [5] by decide),ar,aw,d4,Rs.ai,av,ya,a2,Rs.ak,Bq,xI,gg,Nat.zero_add]
    have ht:bK 6 (.int m) [some (av es),some (aL rs),some n,some (.int pl),some (cY es rs),some (.list acc),x6,x7,x8]=some [some (av es),some (aL rs),some n,some (.int pl),some (cY es rs),some (.list acc),some (.int m),x7,x8]:=rfl
    have e1':forL (e8 [7,8]) (lP cs) (((az es m).parts.map bJ).mapIdx fun i d=>.tuple [.int ((0 + i:Nat):Int),d]) [some (av es),some (aL rs),some n,some (.int pl),some (cY es rs),some (.list acc),some (.int m),x7,x8]=.nx [some (av es),some (aL rs),some n,some (.int pl),some (cY es rs),some (.list (acc++hdM cs.Holding es rs pl m 0 (az es m).parts)),some (.int m),z7,z8]:=e1
    rw [ht]
    simp only [dR,src,ay,e1',e2]
    rw [show iC cs.Holding es rs pl (m::r)=hdM cs.Holding es rs pl m 0 (az es m).parts++iC cs.Holding es rs pl r from rfl,List.append_assoc]
noncomputable def cc (cs:Cs):Gf
  | [d,r,.int n]=>if okW d r n then .ok (.list (iC cs.Holding (cj d) (c7 r) (placeOf (c7 r) n) ((c7 r).drop (placeOf (c7 r) n + 1)))) else .no
  | _=>.no
theorem kC {es:List Er} {rs:List Int} {n:Int} (cs:Cs) (h1:1≤es.length) (h2:es.length≤6) (h:∀ e∈es,e.Wk) (hr:bV es.length rs) (n0:0≤n) (n1:n < es.length):cc cs [av es,aL rs,.int n]=.ok (.list (iC cs.Holding es rs (placeOf rs n) (rs.drop (placeOf rs n + 1)))):=by
  unfold cc; simp only [lO h1 h2 h hr n0 n1,if_true,dw,fW]
theorem vR (cs:Cs):∀ ds,ds.length=3→cc cs ds≠.no→bf (hV cs bT (ds.map some++List.replicate 6 none))=cc cs ds:=by
  intro ds hl hne
  obtain ⟨d,r,n,ez,hz⟩:=oQ hne
  clear hne; subst ez; have hne:=hz; clear hz
  · skip
    split at hne
    · rename_i hc
      obtain ⟨es,rs,rfl,rfl,_,_,l1,l6,hok,hr,n0,n1⟩:=gx hc
      rw [kC cs l1 l6 hok hr n0 n1]
      have hsh:∀ e∈es,e.Sh:=fun e he=>(hok e he).sh
      have hmem:=hr.mem n0 (by omega)
      have hix:=ou hmem
      have hh:=i9 (by omega) hsh hr
      have hrl:=hr.len
      obtain ⟨y6,y7,y8,e⟩:=uj cs hsh hr (.int n) (placeOf rs n) (rs.drop (placeOf rs n + 1)) [] none none none (by rw [List.length_drop]; simp; omega) (fun m hm=>List.mem_of_mem_drop hm)
      have src:cm (c5 (ag 1) (eZ (g2 bz (ag 3) (gC (.int 1)))) cA) (mask [5] [some (av es),some (aL rs),some (.int n),some (.int (placeOf rs n)),some (cY es rs),some (.list []),none,none,none])=.ok ((rs.drop (placeOf rs n + 1)).map PyData.int):=by
        simp only [nu,pO,tS,nr,cq,aB (show 1 ∉ [5] by decide),aB (show 3 ∉ [5] by decide),ar,aw,d4,Rs.ai,gP,Rs.ak,sN,aL,AK,tf]
        rw [show (placeOf rs n:Int) + 1=((placeOf rs n + 1:Nat):Int) by omega,qv,List.map_drop]
      have s1:bw [5] 3 (wO (ag 1) (ag 2)) [some (av es),some (aL rs),some (.int n),none,none,none,none,none,none]=.nx [some (av es),some (aL rs),some (.int n),some (.int (placeOf rs n)),none,none,none,none,none]:=by
        rw [ec,if_pos (by simp)]
        simp only [AI,aB (show 1 ∉ [5] by decide),aB (show 2 ∉ [5] by decide),ar,aw,Rs.ai,aL,hix,Rs.ak,ay]
        rfl
      have s2:bw [5] 4 (aF bT (ae (ag 0) (ae (ag 1) ao))) [some (av es),some (aL rs),some (.int n),some (.int (placeOf rs n)),none,none,none,none,none]=.nx [some (av es),some (aL rs),some (.int n),some (.int (placeOf rs n)),some (cY es rs),none,none,none,none]:=by
        rw [ec,if_pos (by simp)]
        simp only [a9,aC,aO,aB (show 0 ∉ [5] by decide),aB (show 1 ∉ [5] by decide),ar,aw,Rs.ai,hh,ay]
        rfl
      have s3:kD [5] 5 ao [some (av es),some (aL rs),some (.int n),some (.int (placeOf rs n)),some (cY es rs),none,none,none,none]=.nx [some (av es),some (aL rs),some (.int n),some (.int (placeOf rs n)),some (cY es rs),some (.list []),none,none,none]:=rfl
      show bf (hV cs bT [some (av es),some (aL rs),some (.int n),none,none,none,none,none,none])=_
      simp only [hV]
      rw [aV,s1]; simp only
      rw [aV,s2]; simp only
      rw [aV,s3]; simp only
      rw [aV,dR,src,ay,e]
      rfl
    · exact absurd rfl hne
end RS
set_option maxRecDepth 100000
set_option maxHeartbeats 1000000
namespace RS
open PySem L2
noncomputable def lr (es:List Er) (rs:List Int) (pl:Int) (p:Int × Option Int):List Int:=match p.2 with
  | some t=>(match bY es rs t with
    | some h=>if h≤pl then [p.1 - 1] else []
    | none=>[])
  | none=>[]
noncomputable def tms (es:List Er) (rs:List Int) (pl:Int):List (Int × Option Int)→List Int
  | []=>[]
  | p::r=>lr es rs pl p++tms es rs pl r
theorem xK (es:List Er) (rs:List Int) (pl:Int) (b:List (Int × Option Int)):∀ a,tms es rs pl (a++b)=tms es rs pl a++tms es rs pl b
  | []=>rfl
  | p::r=>by
    show lr es rs pl p++tms es rs pl (r++b)=(lr es rs pl p++tms es rs pl r)++_
    rw [xK es rs pl b r,List.append_assoc]
theorem ug (es:List Er) (rs:List Int) (pl:Int):∀ (ps:List (Int × Option Int)) (acc:Int),ps.foldl (iW es rs pl) acc=(tms es rs pl ps).foldl max acc
  | [],_=>rfl
  | p::r,acc=>by
    rw [List.foldl_cons,ug es rs pl r]
    show _=(lr es rs pl p++tms es rs pl r).foldl max acc
    rw [List.foldl_append]
    have e:iW es rs pl acc p=(lr es rs pl p).foldl max acc:=by
      unfold iW lr
      cases p.2 with
      | none=>rfl
      | some t =>
        simp only
        cases bY es rs t with
        | none=>rfl
        | some h=>simp only; split <;> rfl
    rw [e]
theorem pG (es:List Er) (rs:List Int) (pl:Int):∀ (ps:List (Int × Option Int)),(∀ p∈ps,1≤p.1)→∀ a∈tms es rs pl ps,0≤a
  | [],_,a,h=>by cases h
  | p::r,hp,a,h=>by
    have h1:=hp p List.mem_cons_self
    unfold tms at h
    rcases List.mem_append.mp h with h | h
    · unfold lr at h
      split at h
      · split at h
        · split at h
          · cases List.mem_singleton.mp h; omega
          · cases h
        · cases h
      · cases h
    · exact pG es rs pl r (fun q hq=>hp q (List.mem_cons_of_mem _ hq)) a h
theorem zc {ns:List Int} (h:∀ a∈ns,0≤a):(uZ ns).getD 0=ns.foldl max 0:=by
  have hf:(fun a b:Int=>if b > a then b else a)=max:=by funext a b; split <;> omega
  cases ns with
  | nil=>rfl
  | cons x r =>
    have hx:=h x List.mem_cons_self
    show r.foldl (fun a b:Int=>if b > a then b else a) x=r.foldl max (max 0 x)
    rw [hf,show max 0 x=x by omega]
noncomputable def tmD (C:Addr) (d:PyData):PyData:=(pB C "times" d).getD .none
theorem ud (C:Addr) (m k t l:Int):pB C "times" (hdD C m k t l)=some (.int l):=by
  have n1:¬ (("number":Str)="times"):=by decide +kernel
  have n2:¬ (("part":Str)="times"):=by decide +kernel
  have n3:¬ (("tool":Str)="times"):=by decide +kernel
  simp only [hdD,Ba,List.map_cons,List.map_nil,pB,and_self,if_true,lu,n1,n2,n3,if_false]
theorem yQ (C:Addr) (es:List Er) (rs:List Int) (pl m k:Int) (p:Int × Option Int):(i7 C es rs pl m k p).map (tmD C)=(lr es rs pl p).map PyData.int∧∀ d∈i7 C es rs pl m k p,pB C "times" d=some (tmD C d):=by
  unfold i7 lr
  cases p.2 with
  | none=>exact ⟨rfl,fun d hd=>by cases hd⟩
  | some t =>
    simp only
    cases bY es rs t with
    | none=>exact ⟨rfl,fun d hd=>by cases hd⟩
    | some h =>
      simp only
      split
      · rw [List.map_cons,List.map_nil]
        refine ⟨by unfold tmD; rw [ud]; rfl,fun d hd=>?_⟩
        cases List.mem_singleton.mp hd
        unfold tmD; rw [ud]; rfl
      · exact ⟨rfl,fun d hd=>by cases hd⟩
theorem yd (C:Addr) (es:List Er) (rs:List Int) (pl m:Int):∀ (ps:List (Int × Option Int)) (k:Nat),(hdM C es rs pl m k ps).map (tmD C)=(tms es rs pl ps).map PyData.int∧∀ d∈hdM C es rs pl m k ps,pB C "times" d=some (tmD C d)
  | [],_=>⟨rfl,fun d hd=>by cases hd⟩
  | p::r,k=>by
    obtain ⟨a1,a2⟩:=yQ C es rs pl m k p
    obtain ⟨b1,b2⟩:=yd C es rs pl m r (k + 1)
    rw [show hdM C es rs pl m k (p::r)=i7 C es rs pl m k p++hdM C es rs pl m (k + 1) r from rfl,show tms es rs pl (p::r)=lr es rs pl p++tms es rs pl r from rfl]
    refine ⟨by rw [List.map_append,List.map_append,a1,b1],fun d hd=>?_⟩
    rcases List.mem_append.mp hd with h | h
    · exact a2 d h
    · exact b2 d h
theorem rf (C:Addr) (es:List Er) (rs:List Int) (pl:Int):∀ (ms:List Int),(iC C es rs pl ms).map (tmD C)=(tms es rs pl ((ms.map fun m=>(az es m).parts).flatten)).map PyData.int∧∀ d∈iC C es rs pl ms,pB C "times" d=some (tmD C d)
  | []=>⟨rfl,fun d hd=>by cases hd⟩
  | m::r=>by
    obtain ⟨a1,a2⟩:=yd C es rs pl m (az es m).parts 0
    obtain ⟨b1,b2⟩:=rf C es rs pl r
    unfold iC
    refine ⟨by rw [List.map_append,List.map_cons,List.flatten_cons,xK,List.map_append,a1,b1],fun d hd=>?_⟩
    rcases List.mem_append.mp hd with h | h
    · exact a2 d h
    · exact b2 d h
theorem rJ (C:Addr) (es:List Er) (rs:List Int) (pl:Int) (b:Nat):∀ (ms:List Int),(∀ m∈ms,(az es m).parts.length≤b)→(iC C es rs pl ms).length≤b * ms.length
  | [],_=>by simp [iC]
  | m::r,h=>by
    have h1:=h m List.mem_cons_self
    have h2:=tW C es rs pl m (az es m).parts 0
    have h3:=rJ C es rs pl b r fun x hx=>h x (List.mem_cons_of_mem _ hx)
    unfold iC
    rw [List.length_append,List.length_cons,Nat.mul_succ]; omega
noncomputable def bI:Gf
  | [d,r,.int n]=>if okW d r n then .ok (.int (cp (cj d) (c7 r) n)) else .no
  | _=>.no
theorem iH {es:List Er} {rs:List Int} {n:Int} (h1:1≤es.length) (h2:es.length≤6) (h:∀ e∈es,e.Wk) (hr:bV es.length rs) (n0:0≤n) (n1:n < es.length):bI [av es,aL rs,.int n]=.ok (.int (cp es rs n)):=by
  unfold bI; simp only [lO h1 h2 h hr n0 n1,if_true,dw,fW]
theorem qm (cs:Cs):∀ ds,ds.length=3→bI ds≠.no→bf (eL cs (cc cs) (ds.map some++List.replicate 0 none))=bI ds:=by
  intro ds hl hne
  obtain ⟨d,r,n,ez,hz⟩:=oQ hne
  clear hne; subst ez; have hne:=hz; clear hz
  · skip
    split at hne
    · rename_i hc
      obtain ⟨es,rs,rfl,rfl,_,_,l1,l6,hok,hr,n0,n1⟩:=gx hc
      rw [iH l1 l6 hok hr n0 n1]
      have hg:=kC cs l1 l6 hok hr n0 n1
      obtain ⟨m1,m2⟩:=rf cs.Holding es rs (placeOf rs n) (rs.drop (placeOf rs n + 1))
      have hrl:=hr.len
      have hol:∀ m∈rs.drop (placeOf rs n + 1),(az es m).Wk:=fun m hm=>by
        have:=hr.rng m (List.mem_of_mem_drop hm)
        exact hok _ (bW this.1 (by omega))
      have hln:=rJ cs.Holding es rs (placeOf rs n) 4 (rs.drop (placeOf rs n + 1)) fun m hm=>(hol m hm).p2
      have hdl:(rs.drop (placeOf rs n + 1)).length≤6:=by rw [List.length_drop]; omega
      have hcm:bx 3 (cm (aF (cc cs) (ae (ag 0) (ae (ag 1) (ae (ag 2) ao))))) bL (g1 (pB cs.Holding "times") (ag 3)) bj [some (av es),some (aL rs),some (.int n)]=.ok ((iC cs.Holding es rs (placeOf rs n) (rs.drop (placeOf rs n + 1))).map (tmD cs.Holding)) :=
        cU rfl (by simp only [nu,a9,aC,aO,ar,aw,Rs.ai,hg]; rfl) (by omega) fun x hx=>by
          simp only [List.cons_append,List.nil_append,nP,ar,aw,Rs.ai,m2 x hx,Rs.ak]
      have hmx:ux (.list ((iC cs.Holding es rs (placeOf rs n) (rs.drop (placeOf rs n + 1))).map (tmD cs.Holding))) (.int 0)=some (.int (cp es rs n)):=by
        unfold ux
        simp only
        rw [m1,b4,Option.map_some,zc (pG _ _ _ _ fun p hp=>?_),← ug]
        · rfl
        · obtain ⟨l,hl,hpl⟩:=List.mem_flatten.mp hp
          obtain ⟨m,hm,rfl⟩:=List.mem_map.mp hl
          exact ((hol m hm).pl p hpl).1
      show bf (eL cs (cc cs) [some (av es),some (aL rs),some (.int n)])=_
      simp only [eL,cx,cq,jx,hcm,Rs.ai,d4,hmx,Rs.ak,ay,cf]
    · exact absurd rfl hne
end RS
set_option maxRecDepth 100000
set_option maxHeartbeats 1000000
namespace RS
open PySem L2
noncomputable def oq (f:Int→Int) (T:Int):Nat→Int→List Int
  | 0,l=>[l]
  | m + 1,l=>if l=T then [l] else l::oq f T m (f l)
noncomputable def zj:Option (List Int)→PyData
  | some l=>.list (l.map .int)
  | none=>.none
structure Top (f:Int→Int) (T:Int):Prop where
  fix:f T=T
  one:1≤T
  low:∀ s,1≤s→s < T→¬ f s≤s
theorem pk {f:Int→Int} {T:Int} (R:nF f) (P:Top f T):∀ (m:Nat) (l:Int),1≤l→l≤T→T - l≤m→(oq f T m l).getLast?=some T
  | 0,l,h1,h2,h3=>by
    have:l=T:=by omega
    rw [this]; rfl
  | m + 1,l,h1,h2,h3=>by
    unfold oq
    by_cases z:l=T
    · rw [if_pos z,z]; rfl
    · rw [if_neg z,List.getLast?_cons]
      have hf:=P.low l h1 (by omega)
      have hT:=R.mono l T h1 h2
      rw [P.fix] at hT
      rw [pk R P m (f l) (by omega) hT (by omega)]; rfl
end RS
set_option maxRecDepth 100000
set_option maxHeartbeats 1000000
namespace RS
open PySem L2
noncomputable def bG:Gf
  | [.int t,.int e]=>if 0 < e∧e < 1073741824 then .ok (.int ((t + e - 1) / e)) else .no
  | _=>.no
theorem t8 (cs:Cs):∀ ds,ds.length=2→bG ds≠.no→bf (f7 cs (ds.map some++List.replicate 0 none))=bG ds:=by
  intro ds hl hne
  obtain ⟨t,e,ez,hz⟩:=zT hne
  clear hne; subst ez; have hne:=hz; clear hz
  unfold bG
  · skip
    split at hne
    · rename_i hc
      simp only [if_pos hc]
      show bf (f7 cs [some (.int t),some (.int e)])=_
      simp only [f7,cx,cq,ar,aw,d4,Rs.ai,gP,rn,Rs.ak,Dc,if_pos hc,ay,cf]
    · exact absurd rfl hne
theorem CC {x e:Int} (h:0 < e):(x + e - 1) / e=x / e + (if x % e > 0 then 1 else 0):=by
  have h1:=Int.mul_ediv_add_emod x e
  have h2:=Int.emod_nonneg x (show e≠0 by omega)
  have h3:=Int.emod_lt_of_pos x h
  generalize x / e=q at *
  generalize x % e=r at *
  have ex:x + e - 1=r + e - 1 + e * q:=by omega
  rw [ex,Int.add_mul_ediv_left _ _ (by omega)]
  by_cases z:r > 0
  · rw [if_pos z,show r + e - 1=(r - 1) + e * 1 by omega,Int.add_mul_ediv_left _ _ (by omega),Int.ediv_eq_zero_of_lt (by omega) (by omega)]; omega
  · rw [if_neg z,Int.ediv_eq_zero_of_lt (by omega) (by omega)]; omega
theorem qP {e:Er} {t:Int} (h:e.Sh):bG [.int (t + e.late),.int e.every]=.ok (.int (e.times t)):=by
  have h1:=h.e1; have h2:=h.e2
  unfold bG
  simp only [if_pos (show 0 < e.every∧e.every < 1073741824 from ⟨by omega,h2⟩)]
  rw [CC (by omega)]
  rfl
noncomputable def eJ (es:List Er) (rs:List Int) (n h t:Int):Int:=h + (az es n).work + ((rs.take (placeOf rs n)).map fun m=>(az es m).times t * (az es m).work).sum
theorem mJ {es:List Er} {rs:List Int} {n h:Int} (hok:∀ e∈es,e.Wk) (hr:bV es.length rs) (n0:0≤n) (n1:n < es.length) (h0:0≤h):nF (eJ es rs n h) where
  mono:=fun t u _ ht=>by
    have:=u7 (n:=n) (fun e he=>(hok e he).sh) hr ht
    unfold dQ at this
    unfold eJ
    omega
  one:=fun t ht=>by
    unfold eJ
    have h2:=(hok _ (bW n0 n1)).work1
    have h3:=iq (fun m=>(az es m).times t * (az es m).work) (rs.take (placeOf rs n)) fun m hm=>by
      have hm':=hr.rng m (List.mem_of_mem_take hm)
      have ho:=hok _ (bW hm'.1 hm'.2)
      have l0:=ho.l1
      exact Int.mul_nonneg (Er.times_pos ho.sh.e1 (by omega)) ho.sh.work_b.1
    omega
noncomputable def cH:Gf
  | [d,r,.int n,.int h,.int t]=>if okW d r n then .ok (.int (eJ (cj d) (c7 r) n h t)) else .no
  | _=>.no
theorem qD {es:List Er} {rs:List Int} {n h t:Int} (h1:1≤es.length) (h2:es.length≤6) (hk:∀ e∈es,e.Wk) (hr:bV es.length rs) (n0:0≤n) (n1:n < es.length):cH [av es,aL rs,.int n,.int h,.int t]=.ok (.int (eJ es rs n h t)):=by
  unfold cH; simp only [lO h1 h2 hk hr n0 n1,if_true,dw,fW]
theorem B4 {i:Nat} {g:Ds→Rs PyData} {δ:Ds} {a b:Int} (h:δ[i]?=some (some (.int a))) (hg:g δ=.ok (.int b)):w5 [] i g δ=.nx (δ.set i (some (.int (a + b)))):=by
  unfold w5; rw [eM,h]; simp only [hg,ay]
noncomputable abbrev AL:Ds→Sr:=bu (bw [] 7 (g2 dIx (ag 0) (ag 6)))
    (w5 [] 5 (g2 lJ (aF cB (ae (ag 7) ao)) (aF bG (ae (g2 bz (ag 4) (g2 dIx (ag 7) (gC (.int 2)))) (ae (g2 dIx (ag 7) (gC (.int 0))) ao)))))
theorem xE {es:List Er} {rs:List Int} (hsh:∀ e∈es,e.Sh) (hr:bV es.length rs) (n h:PyData) (t:Int):∀ (ms:List Int) (acc:Int) (x6 x7:Option PyData),(∀ m∈ms,m∈rs) →
    ∃ y6 y7,forL (bK 6) AL (ms.map PyData.int) [some (av es),some (aL rs),some n,some h,some (.int t),some (.int acc),x6,x7]
     =.nx [some (av es),some (aL rs),some n,some h,some (.int t),some (.int (acc + (ms.map fun m=>(az es m).times t * (az es m).work).sum)),y6,y7]
  | [],acc,x6,x7,_=>⟨x6,x7,by simp [forL]⟩
  | m::r,acc,x6,x7,hm'=>by
    have hm:=hm' m List.mem_cons_self
    have hrg:=hr.rng m hm
    have hsm:=hsh _ (bW hrg.1 (by omega))
    have a2:atI (es.map Er.d) m=some (az es m).d:=fU hrg.1 (by omega)
    obtain ⟨y6,y7,e2⟩:=xE hsh hr n h t r (acc + (az es m).times t * (az es m).work) (some (.int m)) (some (az es m).d) fun x hx=>hm' x (List.mem_cons_of_mem _ hx)
    refine ⟨y6,y7,?_⟩
    have hw:=hsm.work_b
    have hgw:=h9 hsm
    have hgr:=qP (t:=t) hsm
    rw [List.map_cons,List.map_cons,List.sum_cons,← Int.add_assoc]
    unfold forL
    generalize hE:az es m=e at *
    have i2:dIx e.d (.int 2)=some (.int e.late):=rfl
    have i0:dIx e.d (.int 0)=some (.int e.every):=rfl
    have st1:bw [] 7 (g2 dIx (ag 0) (ag 6)) [some (av es),some (aL rs),some n,some h,some (.int t),some (.int acc),some (.int m),x7]=.nx [some (av es),some (aL rs),some n,some h,some (.int t),some (.int acc),some (.int m),some e.d]:=by
      rw [ej,if_pos (by simp)]
      simp only [cq,ar,aw,Rs.ai,av,ya,a2,Rs.ak,ay]
      rfl
    have st2:w5 [] 5 (g2 lJ (aF cB (ae (ag 7) ao)) (aF bG (ae (g2 bz (ag 4) (g2 dIx (ag 7) (gC (.int 2)))) (ae (g2 dIx (ag 7) (gC (.int 0))) ao)))) [some (av es),some (aL rs),some n,some h,some (.int t),some (.int acc),some (.int m),some e.d]=.nx [some (av es),some (aL rs),some n,some h,some (.int t),some (.int (acc + e.times t * e.work)),some (.int m),some e.d]:=by
      rw [B4 (a:=acc) (b:=e.times t * e.work) rfl]
      · rfl
      · simp only [cq,a9,aC,aO,ar,aw,d4,Rs.ai,i2,i0,Rs.ak,gP,hgw,hgr,xg (b:=e.times t) (show -(2 ^ 64) < e.work by omega) (show e.work < 2 ^ 64 by omega)]
        rw [Int.mul_comm e.work]
    have ht:bK 6 (.int m) [some (av es),some (aL rs),some n,some h,some (.int t),some (.int acc),x6,x7]=some [some (av es),some (aL rs),some n,some h,some (.int t),some (.int acc),some (.int m),x7]:=rfl
    rw [ht]
    simp only [AL,aV,st1,st2]
    exact e2
theorem yH {f:PyData→PyData→Int→Int→Int→Rs PyData} {ds:List PyData} (h:(match ds with | [x0,x1,.int x2,.int x3,.int x4]=>f x0 x1 x2 x3 x4 | _=>.no)≠.no):∃ x0 x1 x2 x3 x4,ds=[x0,x1,.int x2,.int x3,.int x4]∧f x0 x1 x2 x3 x4≠.no:=by
  rcases ds with _ | ⟨x0,_ | ⟨x1,_ | ⟨x2,_ | ⟨x3,_ | ⟨x4,_ | ⟨y,ys⟩⟩⟩⟩⟩⟩
  · exact absurd rfl h
  · exact absurd rfl h
  · exact absurd rfl h
  · first | exact absurd rfl h | (cases x2 <;> exact absurd rfl h)
  · first | exact absurd rfl h | (cases x2 <;> first | exact absurd rfl h | (cases x3 <;> exact absurd rfl h))
  · skip
    cases x2 with
    | int x2 =>
      cases x3 with
      | int x3 =>
        cases x4 with
        | int x4 =>
          exact ⟨_,_,_,_,_,rfl,h⟩
        | _=>exact absurd rfl h
      | _=>first | exact absurd rfl h | (cases x4 <;> exact absurd rfl h)
    | _=>first | exact absurd rfl h | (cases x3 <;> first | exact absurd rfl h | (cases x4 <;> exact absurd rfl h))
  · first | exact absurd rfl h | (cases x2 <;> first | exact absurd rfl h | (cases x3 <;> first | exact absurd rfl h | (cases x4 <;> exact absurd rfl h)))
theorem Dr (cs:Cs):∀ ds,ds.length=5→cH ds≠.no→bf (qd cs cB bG (ds.map some++List.replicate 3 none))=cH ds:=by
  intro ds hl hne
  obtain ⟨d,r,n,h,t,ez,hz⟩:=yH hne
  clear hne; subst ez; have hne:=hz; clear hz
  · skip
    split at hne
    · rename_i hc
      obtain ⟨es,rs,rfl,rfl,_,_,l1,l6,hok,hr,n0,n1⟩:=gx hc
      rw [qD l1 l6 hok hr n0 n1]
      have hsh:∀ e∈es,e.Sh:=fun e he=>(hok e he).sh
      have hmem:=hr.mem n0 (by omega)
      have hix:=ou hmem
      have hsn:=hsh _ (bW n0 n1)
      have a2:atI (es.map Er.d) n=some (az es n).d:=fU n0 n1
      have hgw:=h9 hsn
      obtain ⟨y6,y7,e⟩:=xE hsh hr (.int n) (.int h) t (rs.take (placeOf rs n)) (h + (az es n).work) none none (fun m hm=>List.mem_of_mem_take hm)
      have src:cm (c5 (ag 1) cA (eZ (wO (ag 1) (ag 2)))) [some (av es),some (aL rs),some (.int n),some (.int h),some (.int t),some (.int (h + (az es n).work)),none,none]=.ok ((rs.take (placeOf rs n)).map PyData.int):=by
        simp only [nu,pO,tS,nr,AI,ar,aw,Rs.ai,aL,hix,Rs.ak,sN,AK,tf]
        rw [AY,List.map_take]
      have st0:bw [] 5 (g2 bz (ag 3) (aF cB (ae (g2 dIx (ag 0) (ag 2)) ao))) [some (av es),some (aL rs),some (.int n),some (.int h),some (.int t),none,none,none]=.nx [some (av es),some (aL rs),some (.int n),some (.int h),some (.int t),some (.int (h + (az es n).work)),none,none]:=by
        rw [ej,if_pos (by simp)]
        simp only [cq,a9,aC,aO,ar,aw,Rs.ai,av,ya,a2,Rs.ak,hgw,gP,ay]
        rfl
      show bf (qd cs cB bG [some (av es),some (aL rs),some (.int n),some (.int h),some (.int t),none,none,none])=_
      simp only [qd]
      rw [aV,st0]
      simp only
      rw [aV,dR,eM,src,ay,e]
      rfl
    · exact absurd rfl hne
end RS
set_option maxRecDepth 100000
set_option maxHeartbeats 1000000
namespace RS
open PySem L2
noncomputable def oX (es:List Er) (rs:List Int) (n h:Int):Option Int:=eV ((az es n).every - (az es n).late).toNat fun t=>decide (eJ es rs n h t≤t)
theorem wB (es:List Er) (rs:List Int) (n:Int):oX es rs n (cp es rs n)=bR es rs n:=rfl
noncomputable def iI (es:List Er) (rs:List Int) (n h:Int):Option (List Int):=(oX es rs n h).map fun T=>oq (eJ es rs n h) T T.toNat (eJ es rs n h 1)
noncomputable abbrev tZ:Ds→Rs Bool:=gT (g2 dLe (ag 6) (ag 4))
noncomputable abbrev tT:Ds→Sr:=bu (iT [5] 5 (ag 6))
    (bu (bw [5] 7 (aF cH (ae (ag 0) (ae (ag 1) (ae (ag 2) (ae (ag 3) (ae (ag 6) ao)))))))
    (bu (sIf (gT (g2 dEq (ag 7) (ag 6))) (bQ (ag 5)) bM)
    (bw [5] 6 (ag 7))))
section
variable {E Rr N h:PyData} {f:Int→Int} {most:Int}
theorem sj (gfn:∀ t,cH [E,Rr,N,h,.int t]=.ok (.int (f t))) (l:Int) (acc:List PyData) (hl:acc.length < 1000000) (x7:Option PyData) :
    tT [some E,some Rr,some N,some h,some (.int most),some (.list acc),some (.int l),x7]
     =if f l=l then .rt (.list (acc++[.int l])) else .nx [some E,some Rr,some N,some h,some (.int most),some (.list (acc++[.int l])),some (.int (f l)),some (.int (f l))]:=by
  have s1:iT [5] 5 (ag 6) [some E,some Rr,some N,some h,some (.int most),some (.list acc),some (.int l),x7]=.nx [some E,some Rr,some N,some h,some (.int most),some (.list (acc++[.int l])),some (.int l),x7]:=by
    unfold iT
    simp only [List.getElem?_cons_succ,List.getElem?_cons_zero,aB (show 6 ∉ [5] by decide),ar,aw,ay,if_pos hl]
    rfl
  have s2:bw [5] 7 (aF cH (ae (ag 0) (ae (ag 1) (ae (ag 2) (ae (ag 3) (ae (ag 6) ao)))))) [some E,some Rr,some N,some h,some (.int most),some (.list (acc++[.int l])),some (.int l),x7]=.nx [some E,some Rr,some N,some h,some (.int most),some (.list (acc++[.int l])),some (.int l),some (.int (f l))]:=by
    rw [ec,if_pos (by simp)]
    simp only [a9,aC,aO,aB (show 0 ∉ [5] by decide),aB (show 1 ∉ [5] by decide),aB (show 2 ∉ [5] by decide),aB (show 3 ∉ [5] by decide),aB (show 6 ∉ [5] by decide),ar,aw,Rs.ai,gfn,ay]
    rfl
  have s3:bw [5] 6 (ag 7) [some E,some Rr,some N,some h,some (.int most),some (.list (acc++[.int l])),some (.int l),some (.int (f l))]=.nx [some E,some Rr,some N,some h,some (.int most),some (.list (acc++[.int l])),some (.int (f l)),some (.int (f l))]:=by
    rw [ec,if_pos (by simp)]
    simp only [aB (show 7 ∉ [5] by decide),ar,aw,ay]
    rfl
  unfold tT
  rw [aV,s1]; simp only
  rw [aV,s2]; simp only
  rw [aV]
  by_cases z:f l=l
  · rw [if_pos z]
    have q:(f l == l)=true:=by simpa using z
    simp only [dz,eu,cq,ar,aw,Rs.ai,lq,q,Rs.ak,bA,if_true,ay,cx]
  · rw [if_neg z]
    have q:(f l == l)=false:=by simpa using z
    simp only [dz,eu,cq,ar,aw,Rs.ai,lq,q,Rs.ak,bA,if_false,Bool.false_eq_true,ay,ee,s3]
theorem oS (l:Int) (a x7:Option PyData):tZ [some E,some Rr,some N,some h,some (.int most),a,some (.int l),x7]=.ok (decide (l≤most)):=by
  simp only [tZ,eu,cq,ar,aw,Rs.ai,Gn,Rs.ak,bA]
theorem ym (gfn:∀ t,cH [E,Rr,N,h,.int t]=.ok (.int (f t))) (R:nF f) {T:Int} (P:Top f T) (hT:T≤most):∀ (j fuel:Nat) (l:Int) (acc:List PyData) (x7:Option PyData),1≤l→l≤T→T - l≤j→j < fuel→acc.length + j < 1000000 →
    dZ tZ tT fuel [some E,some Rr,some N,some h,some (.int most),some (.list acc),some (.int l),x7]=.rt (.list (acc++(oq f T j l).map PyData.int))
  | j,0,l,acc,x7,_,_,_,hf,_=>absurd hf (Nat.not_lt_zero _)
  | 0,fuel + 1,l,acc,x7,h1,h2,h3,hf,hc=>by
    have e:l=T:=by omega
    have ef:f l=l:=by rw [e]; exact P.fix
    unfold dZ
    rw [oS,ay,decide_eq_true (show l≤most by omega),if_pos rfl,sj gfn l acc (by omega),if_pos ef]
    rfl
  | j + 1,fuel + 1,l,acc,x7,h1,h2,h3,hf,hc=>by
    unfold dZ
    rw [oS,ay,decide_eq_true (show l≤most by omega),if_pos rfl,sj gfn l acc (by omega)]
    unfold oq
    by_cases e:l=T
    · have ef:f l=l:=by rw [e]; exact P.fix
      rw [if_pos ef,if_pos e]
      rfl
    · have hl:=P.low l h1 (by omega)
      have hm:=R.mono l T h1 h2
      rw [P.fix] at hm
      rw [if_neg (show ¬ f l=l by omega),if_neg e]
      simp only
      rw [ym gfn R P hT j fuel (f l) (acc++[PyData.int l]) _ (by omega) hm (by omega) (by omega) (by rw [List.length_append,List.length_singleton]; omega)]
      rw [List.map_cons,List.append_assoc]; rfl
theorem xG (gfn:∀ t,cH [E,Rr,N,h,.int t]=.ok (.int (f t))) (no:∀ s,1≤s→s≤most→¬ f s≤s):∀ (j fuel:Nat) (l:Int) (acc:List PyData) (x7:Option PyData),1≤l→most - l < j→j < fuel→acc.length + j < 1000000 →
    ∃ δ,dZ tZ tT fuel [some E,some Rr,some N,some h,some (.int most),some (.list acc),some (.int l),x7]=.nx δ
  | j,0,l,acc,x7,_,_,hf,_=>absurd hf (Nat.not_lt_zero _)
  | 0,fuel + 1,l,acc,x7,h1,h3,hf,hc=>by
    unfold dZ
    rw [oS,ay,decide_eq_false (show ¬ l≤most by omega),if_neg (by decide)]
    exact ⟨_,rfl⟩
  | j + 1,fuel + 1,l,acc,x7,h1,h3,hf,hc=>by
    unfold dZ
    rw [oS,ay]
    by_cases e:l≤most
    · rw [decide_eq_true e,if_pos rfl,sj gfn l acc (by omega)]
      have hl:=no l h1 e
      rw [if_neg (show ¬ f l=l by omega)]
      simp only
      exact xG gfn no j fuel (f l) (acc++[PyData.int l]) _ (by omega) (by omega) (by omega) (by rw [List.length_append,List.length_singleton]; omega)
    · rw [decide_eq_false e,if_neg (by decide)]
      exact ⟨_,rfl⟩
end
noncomputable def b8:Gf
  | [d,r,.int n,.int h]=>if okW d r n && decide (0≤h) then .ok (zj (iI (cj d) (c7 r) n h)) else .no
  | _=>.no
theorem jU {es:List Er} {rs:List Int} {n h:Int} (h1:1≤es.length) (h2:es.length≤6) (hk:∀ e∈es,e.Wk) (hr:bV es.length rs) (n0:0≤n) (n1:n < es.length) (h0:0≤h):b8 [av es,aL rs,.int n,.int h]=.ok (zj (iI es rs n h)):=by
  unfold b8; simp only [lO h1 h2 hk hr n0 n1,decide_eq_true h0,Bool.and_self,if_true,dw,fW]
theorem yp {es:List Er} {rs:List Int} {n h T:Int} (R:nF (eJ es rs n h)) (e:oX es rs n h=some T):Top (eJ es rs n h) T∧T≤(az es n).every - (az es n).late:=by
  obtain ⟨h1,h2,h3,h4⟩:=eS e
  have h4':∀ s,1≤s→s < T→¬ eJ es rs n h s≤s:=fun s a b=>of_decide_eq_false (h4 s a b)
  exact ⟨⟨R.fix h1 (of_decide_eq_true h3) h4',h1,h4'⟩,by omega⟩
theorem pT {f:PyData→PyData→Int→Int→Rs PyData} {ds:List PyData} (h:(match ds with | [x0,x1,.int x2,.int x3]=>f x0 x1 x2 x3 | _=>.no)≠.no):∃ x0 x1 x2 x3,ds=[x0,x1,.int x2,.int x3]∧f x0 x1 x2 x3≠.no:=by
  rcases ds with _ | ⟨x0,_ | ⟨x1,_ | ⟨x2,_ | ⟨x3,_ | ⟨y,ys⟩⟩⟩⟩⟩
  · exact absurd rfl h
  · exact absurd rfl h
  · exact absurd rfl h
  · first | exact absurd rfl h | (cases x2 <;> exact absurd rfl h)
  · skip
    cases x2 with
    | int x2 =>
      cases x3 with
      | int x3 =>
        exact ⟨_,_,_,_,rfl,h⟩
      | _=>exact absurd rfl h
    | _=>first | exact absurd rfl h | (cases x3 <;> exact absurd rfl h)
  · first | exact absurd rfl h | (cases x2 <;> first | exact absurd rfl h | (cases x3 <;> exact absurd rfl h))
theorem vj (cs:Cs):∀ ds,ds.length=4→b8 ds≠.no→bf (gQ cs cH (ds.map some++List.replicate 4 none))=b8 ds:=by
  intro ds hl hne
  obtain ⟨d,r,n,h,ez,hz⟩:=pT hne
  clear hne; subst ez; have hne:=hz; clear hz
  · skip
    split at hne
    · rename_i hc
      simp only [Bool.and_eq_true,decide_eq_true_eq] at hc
      obtain ⟨hc,h0⟩:=hc
      obtain ⟨es,rs,rfl,rfl,_,_,l1,l6,hok,hr,n0,n1⟩:=gx hc
      rw [jU l1 l6 hok hr n0 n1 h0]
      have gfn:∀ t,cH [av es,aL rs,.int n,.int h,.int t]=.ok (.int (eJ es rs n h t)):=fun t=>qD l1 l6 hok hr n0 n1
      have R:=mJ (h:=h) hok hr n0 n1 h0
      have hon:=hok _ (bW n0 n1)
      have a2:atI (es.map Er.d) n=some (az es n).d:=fU n0 n1
      have a3:dIx (av es) (.int n)=some (az es n).d:=a2
      have i2:dIx (az es n).d (.int 2)=some (.int (az es n).late):=rfl
      have i0:dIx (az es n).d (.int 0)=some (.int (az es n).every):=rfl
      have e60:=hon.e2; have la0:=hon.l1
      have f1:=R.one 1 (by decide)
      generalize hM:(az es n).every - (az es n).late=M at *
      have s1:bw [5] 4 (g2 kW (g2 dIx (g2 dIx (ag 0) (ag 2)) (gC (.int 0))) (g2 dIx (g2 dIx (ag 0) (ag 2)) (gC (.int 2)))) [some (av es),some (aL rs),some (.int n),some (.int h),none,none,none,none]=.nx [some (av es),some (aL rs),some (.int n),some (.int h),some (.int M),none,none,none]:=by
        rw [ec,if_pos (by simp)]
        simp only [cq,aB (show 0 ∉ [5] by decide),aB (show 2 ∉ [5] by decide),ar,aw,d4,Rs.ai,a3,i2,i0,Rs.ak,rn,ay,hM]
        rfl
      have s2:kD [5] 5 ao [some (av es),some (aL rs),some (.int n),some (.int h),some (.int M),none,none,none]=.nx [some (av es),some (aL rs),some (.int n),some (.int h),some (.int M),some (.list []),none,none]:=rfl
      have s3:bw [5] 6 (aF cH (ae (ag 0) (ae (ag 1) (ae (ag 2) (ae (ag 3) (ae (gC (.int 1)) ao)))))) [some (av es),some (aL rs),some (.int n),some (.int h),some (.int M),some (.list []),none,none]=.nx [some (av es),some (aL rs),some (.int n),some (.int h),some (.int M),some (.list []),some (.int (eJ es rs n h 1)),none]:=by
        rw [ec,if_pos (by simp)]
        simp only [a9,aC,aO,aB (show 0 ∉ [5] by decide),aB (show 1 ∉ [5] by decide),aB (show 2 ∉ [5] by decide),aB (show 3 ∉ [5] by decide),ar,aw,d4,Rs.ai,gfn,ay]
        rfl
      show bf (gQ cs cH [some (av es),some (aL rs),some (.int n),some (.int h),none,none,none,none])=_
      simp only [gQ]
      rw [aV,s1]; simp only
      rw [aV,s2]; simp only
      rw [aV,s3]; simp only
      rw [aV]
      cases q:oX es rs n h with
      | some T =>
        obtain ⟨P,hT⟩:=yp R q
        rw [hM] at hT
        have hle:eJ es rs n h 1≤T:=by have:=R.mono 1 T (by decide) P.one; rw [P.fix] at this; exact this
        have w:=ym gfn R P hT T.toNat 1000000 (eJ es rs n h 1) [] none f1 hle (by omega) (by omega) (by simp; omega)
        rw [w]
        simp only [iI,q,Option.map_some,zj,List.nil_append,cf]
      | none =>
        have no:∀ s,1≤s→s≤M→¬ eJ es rs n h s≤s:=fun s a b=>by
          have:=jK q s a (by omega)
          exact of_decide_eq_false this
        obtain ⟨δ,w⟩:=xG gfn no 100 1000000 (eJ es rs n h 1) [] none f1 (by omega) (by decide) (by decide)
        rw [w]
        simp only [iI,q,Option.map_none,zj,cx,d4,ay,cf]
    · exact absurd rfl hne
end RS
set_option maxRecDepth 100000
set_option maxHeartbeats 1000000
namespace RS
open PySem L2
noncomputable def bX:Gf
  | [d,r,.int n,.int h]=>if okW d r n && decide (0≤h) then .ok (bZ (oX (cj d) (c7 r) n h)) else .no
  | _=>.no
theorem jc {es:List Er} {rs:List Int} {n h:Int} (h1:1≤es.length) (h2:es.length≤6) (hk:∀ e∈es,e.Wk) (hr:bV es.length rs) (n0:0≤n) (n1:n < es.length) (h0:0≤h):bX [av es,aL rs,.int n,.int h]=.ok (bZ (oX es rs n h)):=by
  unfold bX; simp only [lO h1 h2 hk hr n0 n1,decide_eq_true h0,Bool.and_self,if_true,dw,fW]
theorem sP (cs:Cs):∀ ds,ds.length=4→bX ds≠.no→bf (eO cs b8 (ds.map some++List.replicate 1 none))=bX ds:=by
  intro ds hl hne
  obtain ⟨d,r,n,h,ez,hz⟩:=pT hne
  clear hne; subst ez; have hne:=hz; clear hz
  · skip
    split at hne
    · rename_i hc
      simp only [Bool.and_eq_true,decide_eq_true_eq] at hc
      obtain ⟨hc,h0⟩:=hc
      obtain ⟨es,rs,rfl,rfl,_,_,l1,l6,hok,hr,n0,n1⟩:=gx hc
      rw [jc l1 l6 hok hr n0 n1 h0]
      have hg:=jU l1 l6 hok hr n0 n1 h0
      have R:=mJ (h:=h) hok hr n0 n1 h0
      show bf (eO cs b8 [some (av es),some (aL rs),some (.int n),some (.int h),none])=_
      cases q:oX es rs n h with
      | none =>
        have e:iI es rs n h=none:=by unfold iI; rw [q]; rfl
        rw [e] at hg
        simp [eO,hg,zj,bZ,gIf]
      | some T =>
        obtain ⟨P,hT⟩:=yp R q
        have hle:eJ es rs n h 1≤T:=by have:=R.mono 1 T (by decide) P.one; rw [P.fix] at this; exact this
        have f1:=R.one 1 (by decide)
        have e:iI es rs n h=some (oq (eJ es rs n h) T T.toNat (eJ es rs n h 1)):=by unfold iI; rw [q]; rfl
        rw [e] at hg
        have hlast:=pk R P T.toNat (eJ es rs n h 1) f1 hle (by omega)
        have hx:dIx (.list ((oq (eJ es rs n h) T T.toNat (eJ es rs n h 1)).map PyData.int)) (.int (-1))=some (.int T):=by
          show atI _ (-1)=_
          rw [m8,List.getLast?_map,hlast]; rfl
        simp [eO,hg,zj,bZ,hx,gIf]
        rfl
    · exact absurd rfl hne
noncomputable def bp:Gf
  | [d,r,.int n]=>if okW d r n then .ok (bZ (bR (cj d) (c7 r) n)) else .no
  | _=>.no
theorem gj {es:List Er} {rs:List Int} {n:Int} (h1:1≤es.length) (h2:es.length≤6) (h:∀ e∈es,e.Wk) (hr:bV es.length rs) (n0:0≤n) (n1:n < es.length):bp [av es,aL rs,.int n]=.ok (bZ (bR es rs n)):=by
  unfold bp; simp only [lO h1 h2 h hr n0 n1,if_true,dw,fW]
theorem mi (cs:Cs):∀ ds,ds.length=3→bp ds≠.no→bf (de cs bI bX (ds.map some++List.replicate 0 none))=bp ds:=by
  intro ds hl hne
  obtain ⟨d,r,n,ez,hz⟩:=oQ hne
  clear hne; subst ez; have hne:=hz; clear hz
  · skip
    split at hne
    · rename_i hc
      obtain ⟨es,rs,rfl,rfl,_,_,l1,l6,hok,hr,n0,n1⟩:=gx hc
      rw [gj l1 l6 hok hr n0 n1]
      have h1:=iH l1 l6 hok hr n0 n1
      have h2:=jc l1 l6 hok hr n0 n1 (vK es rs n)
      rw [wB] at h2
      show bf (de cs bI bX [some (av es),some (aL rs),some (.int n)])=_
      simp only [de,cx,a9,aC,aO,ar,aw,Rs.ai,h1,h2,ay,cf]
    · exact absurd rfl hne
noncomputable def cK (es:List Er) (rs:List Int) (n room:Int):Bool:=match bR es rs n with
  | some t=>decide (t + room≤(az es n).due)
  | none=>false
theorem AX (es:List Er) (rs:List Int) (n:Int):cK es rs n 0=ft es rs n:=by
  unfold cK ft
  cases bR es rs n with
  | none=>rfl
  | some t=>simp
noncomputable def cg:Gf
  | [d,r,.int n,.int m]=>if okW d r n then .ok (.bool (cK (cj d) (c7 r) n m)) else .no
  | _=>.no
theorem kr {es:List Er} {rs:List Int} {n m:Int} (h1:1≤es.length) (h2:es.length≤6) (h:∀ e∈es,e.Wk) (hr:bV es.length rs) (n0:0≤n) (n1:n < es.length):cg [av es,aL rs,.int n,.int m]=.ok (.bool (cK es rs n m)):=by
  unfold cg; simp only [lO h1 h2 h hr n0 n1,if_true,dw,fW]
theorem wo (cs:Cs):∀ ds,ds.length=4→cg ds≠.no→bf (gv cs bp (ds.map some++List.replicate 1 none))=cg ds:=by
  intro ds hl hne
  obtain ⟨d,r,n,m,ez,hz⟩:=pT hne
  clear hne; subst ez; have hne:=hz; clear hz
  · skip
    split at hne
    · rename_i hc
      obtain ⟨es,rs,rfl,rfl,_,_,l1,l6,hok,hr,n0,n1⟩:=gx hc
      rw [kr l1 l6 hok hr n0 n1]
      have a2:atI (es.map Er.d) n=some (az es n).d:=fU n0 n1
      have a3:dIx (av es) (.int n)=some (az es n).d:=a2
      have hg:=gj l1 l6 hok hr n0 n1
      have he:∀ e:Er,dIx e.d (.int 1)=some (.int e.due):=fun _=>rfl
      unfold cK
      show bf (gv cs bp [some (av es),some (aL rs),some (.int n),some (.int m),none])=_
      cases hf:bR es rs n with
      | none=>rw [hf] at hg; simp [gv,hg,bZ]
      | some t=>rw [hf] at hg; simp [gv,hg,bZ,a3,he]
    · exact absurd rfl hne
end RS
set_option maxRecDepth 100000
set_option maxHeartbeats 4000000
namespace L2
open PySem PySem.Spec PyProof.Rows
section
variable {X:Cx} {E:XK} {o e:Expr} {es:List Expr} {ga:Ds→Rs PyData} {gs:Ds→Rs (List PyData)} {pos apos:Pos}
end
end L2
namespace L2
open PySem PySem.Spec PyProof.Rows
noncomputable def pw (i:Nat) (G:Ds→Sr):Ds→Sr:=fun δ=>match δ[i]? with
  | some (some (.list _))=>(match G δ with
    | .nx δ'=>.nx (δ'.set i none)
    | .rt d=>.rt d
    | .rz C=>.rz C
    | _=>.no)
  | _=>.no
theorem cO.letgo {K:PySem.W.Frag} {H0:Hp} {A0:List Addr} {H:Hp} {A:List Addr} {O:List Nat} {i:Nat} {δ:Ds} {σ:St} (R:cO K H0 A0 H A (O.filter (·≠i)) δ σ):cO K H0 A0 H A O (δ.set i none) σ where
  same:=R.same
  ls0:=R.ls0
  new:=R.new
  ls:=R.ls
  len:=by rw [List.length_set]; exact R.len
  pl:=fun j d hj q=>by
    rw [List.getElem?_set] at q
    split at q
    · split at q <;> cases q
    · exact R.pl j d (fun z=>hj (List.mem_filter.mp z).1) q
  own:=fun j d hj q=>by
    rw [List.getElem?_set] at q
    split at q
    · split at q <;> cases q
    · rename_i z
      exact R.own j d (List.mem_filter.mpr ⟨hj,by simpa using fun w=>z w.symm⟩) q
  inj:=fun j k d e a hj hk qj qk=>by
    rw [List.getElem?_set] at qj qk
    split at qj
    · split at qj <;> cases qj
    · rename_i z1
      split at qk
      · split at qk <;> cases qk
      · rename_i z2
        exact R.inj j k d e a (List.mem_filter.mpr ⟨hj,by simpa using fun w=>z1 w.symm⟩) (List.mem_filter.mpr ⟨hk,by simpa using fun w=>z2 w.symm⟩) qj qk
theorem aY.mono {P:Program} {w:World} {K:PySem.W.Frag} {mg:Str→Option Value} {base:Heap} {k k' n:Nat} {x:Str} {gf:List PyData→Rs PyData} (D:aY P w K mg base k x n gf) (h:k≤k'):aY P w K mg base k' x n gf:=by
  obtain ⟨f,fd,ps,F,m,kp,b⟩:=D
  exact ⟨f,fd,ps,⟨F.1,fun A outer s H args us vs Q E hr=>F.2 A outer s H args us vs Q E (hr.mono h)⟩,m,kp,b⟩
section
variable {X:Cx} {E:XK} {O:List Nat}
theorem Ao {i:Nat} {O':List Nat} {st:Stmt} {G:Ds→Sr} (h:PSD X E O' st G) (hi:i∈O:=by decide) (hO:O.filter (·≠i)=O':=by decide):PSD X E O st (pw i G):=by
  subst hO
  exact h.imp fun D σ H pz3=>by
    obtain ⟨H0,A0,A,δ,R,o⟩:=pz3
    unfold pw at o
    split at o
    · rename_i ds q
      obtain ⟨A',R'⟩:=R.release hi q
      refine ⟨H0,A0,A',δ,R',?_⟩
      cases g:G δ with
      | rt d=>rw [g] at o; exact o
      | rz C=>rw [g] at o; exact o
      | nx δ'=>rw [g] at o; exact fun A σ H R=>o A σ H R.letgo
      | bk _=>rw [g] at o; exact o.elim
      | ct _=>rw [g] at o; exact o.elim
      | no=>rw [g] at o; exact o.elim
    · exact o.elim
end
end L2
namespace RS
open PySem L2
noncomputable def gR (cs:Cs):Ds→Sr :=
  (bu (bw [] 3 (gL (bx 5 (cm (ag 1)) (gT (g2 dNe (ag 5) (ag 2))) (ag 5) bj)))
    (bu (bw [] 4 (gL (bx 5 (cZ (ae (gF fc (ae (ag 0) ao)) ao)) (gT (g2 (gG true) (ag 5) (ag 1))) (ag 5) bj)))
    (bQ (gF fS (ae (g2 bz (g2 bz (ag 3) (dE (ae (ag 2) ao))) (ag 4)) ao)))))
noncomputable def fN (cs:Cs):Ds→Sr :=
  (bQ (gL (bx 2 (cZ (ae (gF fc (ae (ag 0) ao)) ao)) (gT (g2 (gG true) (ag 2) (ag 1))) (ag 2) bj)))
noncomputable def cW (cs:Cs) (bN cg bF:Gf):Ds→Sr :=
  (bu (bw [] 3 (aF bF (ae (ag 0) (ae (ag 1) ao))))
    (bu (gu [] (cm (ag 3)) (bK 4) (sIf (gT (aF cg (ae (ag 0) (ae (aF bN (ae (ag 0) (ae (ag 3) (ae (ag 4) ao)))) (ae (ag 4) (ae (ag 2) ao)))))) (bQ (ag 4)) bM))
    (bQ (gC .none))))
noncomputable def cR (cs:Cs) (aP:Gf):Ds→Sr :=
  (bu (bw [] 2 (kf ao))
    (bu (bw [] 3 (aF aP (ae (ag 0) (ae (ag 2) (ae (ag 1) ao)))))
    (bu (fun δ=>dZ (gT (g1 e7 (ag 3))) (bu (bw [] 2 (g2 bz (kf (ae (ag 3) ao)) (ag 2)))
    (bw [] 3 (aF aP (ae (ag 0) (ae (ag 2) (ae (ag 1) ao)))))) 1000000 δ)
    (bQ (ag 2)))))
noncomputable def da (cs:Cs) (aZ:Gf):Ds→Sr :=
  (bu (bw [] 2 (aF aZ (ae (ag 0) (ae (ag 1) ao))))
    (bQ (gIf (gT (g2 dEq (gF fc (ae (ag 2) ao)) (gF fc (ae (ag 0) ao)))) (ag 2) (gC .none))))
noncomputable def gp (cs:Cs) (aE bc:Gf):Ds→Sr :=
  (bu (uc (aF bc (ae (ag 0) ao)))
    (bQ (aF aE (ae (ag 0) (ae (gC (.int 0)) ao)))))
noncomputable def eI (cs:Cs) (a6:Gf):Ds→Sr :=
  (bQ (gF uy (ae (gL (bx 2 (cZ (ae (gC (.int 4)) ao)) bL (tq (aF a6 (ae (ag 0) (ae (ag 2) ao))) (aF a6 (ae (ag 1) (ae (ag 2) ao)))) bj)) ao)))
noncomputable def iY (cs:Cs) (bq:Gf):Ds→Sr :=
  (bu (bw [5] 1 (dE ao))
    (bu (gu [5] (iG (ae (ag 0) ao)) (e8 [2,3]) (bu (bw [5] 4 (dE (ae (ag 2) ao)))
    (bu (kD [5] 5 ao)
    (bu (gu [5] (cm (ag 1)) (bK 6) (sIf (gT (gF uy (ae (gL (bx 7 (cm (ag 6)) bL (aF bq (ae (ag 3) (ae (g2 dIx (ag 0) (ag 7)) ao))) bj)) ao))) (bw [5] 4 (g2 bz (ag 6) (ag 4))) (iT [5] 5 (ag 6))))
    (pw 5 (bw [] 1 (g2 bz (ag 5) (dE (ae (ag 4) ao)))))))))
    (bQ (ag 1))))
noncomputable def eH (cs:Cs) (aE:Gf):Ds→Sr :=
  (bQ (g1 e7 (aF aE (ae (gF fS (ae (gL (bx 2 (cm (ag 1)) bL (g2 dIx (ag 0) (ag 2)) bj)) ao)) (ae (gC (.int 0)) ao)))))
noncomputable def gX (cs:Cs) (bg aK:Gf):Ds→Sr :=
  (bu (sIf (gT (g2 dEq (gF fc (ae (ag 1) ao)) (gC (.int 0)))) (bQ (ag 2)) bM)
    (bu (gu [] (iG (ae (ag 2) ao)) (e8 [3,4]) (bu (bw [] 5 (gF dW (ae (g2 bz (ag 4) (g2 dIx (ag 1) (gC (.int 0)))) ao)))
    (bu (sIf (gT (aF bg (ae (ag 0) (ae (ag 5) ao)))) (bu (bw [] 6 (aF aK (ae (ag 0) (ae (c5 (ag 1) (eZ (gC (.int 1))) cA) (ae (g2 bz (g2 bz (c5 (ag 2) cA (eZ (ag 3))) (dE (ae (ag 5) ao))) (c5 (ag 2) (eZ (g2 bz (ag 3) (gC (.int 1)))) cA)) ao)))))
    (sIf (gT (g1 e7 (ag 6))) (bQ (ag 6)) bM)) bM)
    (sIf (gT (g2 dEq (gF fc (ae (ag 4) ao)) (gC (.int 0)))) (bQ (gC .none)) bM))))
    (bQ (gC .none))))
noncomputable def fR (cs:Cs) (cM aK:Gf):Ds→Sr :=
  (bQ (aF aK (ae (ag 0) (ae (aF cM (ae (ag 0) ao)) (ae (gL (bx 2 (cZ (ae (ag 1) ao)) bL (dE ao) bj)) ao)))))
noncomputable def jj (cs:Cs) (bS aQ bc:Gf):Ds→Sr :=
  (bu (uc (aF bc (ae (ag 0) ao)))
    (bu (sIf (jA (gT (aF aQ (ae (ag 1) (ae (gC (.int 1)) (ae (gC (.int 4)) ao)))))) (qt cs.NoNumber (ae (gC (.str "hands are 1 to 4")) ao)) bM)
    (bQ (aF bS (ae (ag 0) (ae (ag 1) ao))))))
end RS
set_option maxRecDepth 100000
set_option maxHeartbeats 1000000
namespace RS
open PySem L2
theorem vJ {a b:List PyData} (h:a.length + b.length≤1000000):bz (.list a) (.list b)=some (.list (a++b)):=by
  show (if _ then _ else _)=_
  rw [if_pos h]
theorem wq (x:Int) (ss:List Int):gG true (.int x) (.tuple (ss.map PyData.int))=some (.bool (!decide (x∈ss))):=by
  show (if (fw (.int x) && _)=true then some (PyData.bool (if true=true then _ else inD _ _)) else none)=_
  rw [i6]
  unfold inD
  rw [mz]
  rfl
theorem xy {δ:Ds} {l:List PyData} (h:ag 0 δ=.ok (.tuple l)) (hl:l.length≤100):cZ (ae (gF fc (ae (ag 0) ao)) ao) δ=.ok ((a5 l.length).map PyData.int):=by
  have hv:(ae (gF fc (ae (ag 0) ao)) ao) δ=.ok [.int (l.length:Int)]:=by
    simp only [aC,aO,g6,h,Rs.ai,vL,Rs.ak]
  have hr:=gN (j:=(l.length:Int)) (Int.natCast_nonneg _) (by omega)
  rw [Int.toNat_natCast] at hr
  rw [gI,hv,Rs.ai,hr,kA]
noncomputable def bH (n:Nat) (ss:List Int):List Int:=(a5 n).filter fun y=>!decide (y∈ss)
theorem r8 (n:Nat) (ss:List Int):((a5 n).map PyData.int).filter (fun d=>!decide (deI d∈ss))=(bH n ss).map PyData.int:=by
  rw [List.filter_map]; rfl
theorem pq {δ:Ds} {ss:List Int} {n:Nat} {src:Ds→Rs (List PyData)} {k:Nat} {g:Ds→Rs PyData} {D:PyData} (hn:δ.length=k) (hs:src δ=.ok ((a5 n).map PyData.int)) (hl:n≤100) (hg:∀ d,g (δ++[some d])=.ok D) (hD:∀ x:Int,gG true (.int x) D=some (.bool (!decide (x∈ss)))) :
    bx k src (gT (g2 (gG true) (ag k) g)) (ag k) bj δ=.ok ((bH n ss).map PyData.int):=by
  rw [← r8]
  refine jP hn hs (by rw [List.length_map,b0]; omega) fun d hd=>?_
  obtain ⟨x,_,rfl⟩:=List.mem_map.mp hd
  have hv:ag k (δ++[some (.int x)])=.ok (.int x):=by
    unfold ag
    rw [← hn,List.getElem?_append_right (Nat.le_refl _),Nat.sub_self]; rfl
  refine ⟨?_,hv⟩
  simp only [eu,cq,hv,Rs.ai,hg,hD,Rs.ak,bA]
  rfl
noncomputable def gm (n:Nat) (ss:List Int) (k:Int):List Int:=(ss.filter fun y=>decide (y≠k))++[k]++bH n ss
noncomputable def bN:Gf
  | [.tuple l,.list xs,.int k]=>(match fg xs with
    | some ss=>if l.length≤100∧ss.length≤100 then .ok (aL (gm l.length ss k)) else .no
    | none=>.no)
  | _=>.no
theorem oC {es:List Er} {ss:List Int} {k:Int} (h1:es.length≤100) (h2:ss.length≤100):bN [av es,.list (ss.map PyData.int),.int k]=.ok (aL (gm es.length ss k)):=by
  unfold av bN
  simp only [b4,List.length_map]
  rw [if_pos ⟨h1,h2⟩]
theorem rL (n:Nat) (ss:List Int):(bH n ss).length≤n:=by
  unfold bH
  have:=List.length_filter_le (fun y=>!decide (y∈ss)) (a5 n)
  rw [b0] at this
  exact this
theorem B7 {f:List PyData→List PyData→Int→Rs PyData} {ds:List PyData} (h:(match ds with | [.tuple x0,.list x1,.int x2]=>f x0 x1 x2 | _=>.no)≠.no):∃ x0 x1 x2,ds=[.tuple x0,.list x1,.int x2]∧f x0 x1 x2≠.no:=by
  rcases ds with _ | ⟨x0,_ | ⟨x1,_ | ⟨x2,_ | ⟨y,ys⟩⟩⟩⟩
  · exact absurd rfl h
  · first | exact absurd rfl h | (cases x0 <;> exact absurd rfl h)
  · first | exact absurd rfl h | (cases x0 <;> first | exact absurd rfl h | (cases x1 <;> exact absurd rfl h))
  · skip
    cases x0 with
    | tuple x0 =>
      cases x1 with
      | list x1 =>
        cases x2 with
        | int x2 =>
          exact ⟨_,_,_,rfl,h⟩
        | _=>exact absurd rfl h
      | _=>first | exact absurd rfl h | (cases x2 <;> exact absurd rfl h)
    | _=>first | exact absurd rfl h | (cases x1 <;> first | exact absurd rfl h | (cases x2 <;> exact absurd rfl h))
  · first | exact absurd rfl h | (cases x0 <;> first | exact absurd rfl h | (cases x1 <;> first | exact absurd rfl h | (cases x2 <;> exact absurd rfl h)))
theorem uO (cs:Cs):∀ ds,ds.length=3→bN ds≠.no→bf (gR cs (ds.map some++List.replicate 2 none))=bN ds:=by
  intro ds hl hne
  obtain ⟨l,xs,k,ez,hz⟩:=B7 hne
  clear hne; subst ez; have hne:=hz; clear hz
  · skip
    split at hne
    · rename_i ss hx
      split at hne
      · rename_i hc
        have hx':=cQ hx
        subst hx'
        have hgg:bN [.tuple l,.list (ss.map PyData.int),.int k]=.ok (aL (gm l.length ss k)):=by
          unfold bN; simp only [b4]; rw [if_pos hc]
        rw [hgg]
        have c1:bx 5 (cm (ag 1)) (gT (g2 dNe (ag 5) (ag 2))) (ag 5) bj [some (.tuple l),some (.list (ss.map PyData.int)),some (.int k),none,none]=.ok ((ss.filter fun y=>decide (y≠k)).map PyData.int):=by
          rw [← ue]
          refine jP rfl (by rfl) (by rw [List.length_map]; omega) fun d hd=>?_
          obtain ⟨y,_,rfl⟩:=List.mem_map.mp hd
          have h:(y == k)=decide (y=k):=by by_cases z:y=k <;> simp [z]
          refine ⟨?_,rfl⟩
          simp only [List.cons_append,List.nil_append,eu,cq,ar,aw,Rs.ai,Fd,Rs.ak,bA,h]
          rfl
        generalize hF:ss.filter (fun y=>decide (y≠k))=F at *
        have hFl:F.length≤100:=by rw [← hF]; exact Nat.le_trans (List.length_filter_le _ _) hc.2
        have c2:bx 5 (cZ (ae (gF fc (ae (ag 0) ao)) ao)) (gT (g2 (gG true) (ag 5) (ag 1))) (ag 5) bj [some (.tuple l),some (.list (ss.map PyData.int)),some (.int k),some (.list (F.map PyData.int)),none]=.ok ((bH l.length ss).map PyData.int) :=
          pq rfl (xy rfl hc.1) hc.1 (fun d=>rfl) (fun x=>qw x ss)
        have hnl:=rL l.length ss
        have s1:bw [] 3 (gL (bx 5 (cm (ag 1)) (gT (g2 dNe (ag 5) (ag 2))) (ag 5) bj)) [some (.tuple l),some (.list (ss.map PyData.int)),some (.int k),none,none]=.nx [some (.tuple l),some (.list (ss.map PyData.int)),some (.int k),some (.list (F.map PyData.int)),none]:=by
          rw [ej,if_pos (by simp),jx,c1]; rfl
        have s2:bw [] 4 (gL (bx 5 (cZ (ae (gF fc (ae (ag 0) ao)) ao)) (gT (g2 (gG true) (ag 5) (ag 1))) (ag 5) bj)) [some (.tuple l),some (.list (ss.map PyData.int)),some (.int k),some (.list (F.map PyData.int)),none]=.nx [some (.tuple l),some (.list (ss.map PyData.int)),some (.int k),some (.list (F.map PyData.int)),some (.list ((bH l.length ss).map PyData.int))]:=by
          rw [ej,if_pos (by simp),jx,c2]; rfl
        have a1:bz (.list (F.map PyData.int)) (.list [.int k])=some (.list (F.map PyData.int++[.int k])):=vJ (by simp; omega)
        have a2:bz (.list (F.map PyData.int++[.int k])) (.list ((bH l.length ss).map PyData.int))=some (.list (F.map PyData.int++[.int k]++(bH l.length ss).map PyData.int)):=vJ (by simp; omega)
        show bf (gR cs [some (.tuple l),some (.list (ss.map PyData.int)),some (.int k),none,none])=_
        simp only [gR]
        rw [aV,s1]; simp only
        rw [aV,s2]; simp only
        simp only [cx,g6,aC,aO,cq,g0,ar,aw,Rs.ai,a1,a2,Rs.ak,vS,ay,cf]
        unfold gm aL
        rw [hF]
        simp
      · exact absurd rfl hne
    · exact absurd rfl hne
noncomputable def bF:Gf
  | [.tuple l,.tuple xs]=>(match fg xs with
    | some ss=>if l.length≤100 then .ok (.list ((bH l.length ss).map PyData.int)) else .no
    | none=>.no)
  | _=>.no
theorem nO {es:List Er} {ss:List Int} (h1:es.length≤100):bF [av es,aL ss]=.ok (.list ((bH es.length ss).map PyData.int)):=by
  unfold av aL bF
  simp only [b4,List.length_map]
  rw [if_pos h1]
theorem Ei {f:List PyData→List PyData→Rs PyData} {ds:List PyData} (h:(match ds with | [.tuple x0,.tuple x1]=>f x0 x1 | _=>.no)≠.no):∃ x0 x1,ds=[.tuple x0,.tuple x1]∧f x0 x1≠.no:=by
  rcases ds with _ | ⟨x0,_ | ⟨x1,_ | ⟨y,ys⟩⟩⟩
  · exact absurd rfl h
  · first | exact absurd rfl h | (cases x0 <;> exact absurd rfl h)
  · skip
    cases x0 with
    | tuple x0 =>
      cases x1 with
      | tuple x1 =>
        exact ⟨_,_,rfl,h⟩
      | _=>exact absurd rfl h
    | _=>first | exact absurd rfl h | (cases x1 <;> exact absurd rfl h)
  · first | exact absurd rfl h | (cases x0 <;> first | exact absurd rfl h | (cases x1 <;> exact absurd rfl h))
theorem sM (cs:Cs):∀ ds,ds.length=2→bF ds≠.no→bf (fN cs (ds.map some++List.replicate 0 none))=bF ds:=by
  intro ds hl hne
  obtain ⟨l,xs,ez,hz⟩:=Ei hne
  clear hne; subst ez; have hne:=hz; clear hz
  · skip
    split at hne
    · rename_i ss hx
      split at hne
      · rename_i hc
        have hx':=cQ hx
        subst hx'
        have hgg:bF [.tuple l,.tuple (ss.map PyData.int)]=.ok (.list ((bH l.length ss).map PyData.int)):=by
          unfold bF; simp only [b4]; rw [if_pos hc]
        rw [hgg]
        have c2:bx 2 (cZ (ae (gF fc (ae (ag 0) ao)) ao)) (gT (g2 (gG true) (ag 2) (ag 1))) (ag 2) bj [some (.tuple l),some (.tuple (ss.map PyData.int))]=.ok ((bH l.length ss).map PyData.int) :=
          pq rfl (xy rfl hc) hc (fun d=>rfl) (fun x=>wq x ss)
        show bf (fN cs [some (.tuple l),some (.tuple (ss.map PyData.int))])=_
        simp only [fN,cx,jx,c2,Rs.ai,ay,cf]
      · exact absurd rfl hne
    · exact absurd rfl hne
theorem d7 {n:Nat} {ss:List Int} {x:Int}:x∈bH n ss↔(0≤x∧x < n)∧x ∉ ss:=by
  unfold bH
  rw [List.mem_filter,br]
  simp
theorem iF (n:Nat) (ss:List Int):(bH n ss).Nodup:=(d6 n).filter _
theorem kg {n:Nat} {ss:List Int} {k:Int} (nd:ss.Nodup) (hs:∀ x∈ss,0≤x∧x < n) (hk:k∈ss):bV n (gm n ss k):=by
  rw [← lX]
  have e2:(ss.filter fun y=>decide (y≠k))=ss.erase k:=by
    rw [nd.erase_eq_filter]
    refine List.filter_congr fun y _=>?_
    by_cases z:y=k <;> simp [z]
  have p1:(gm n ss k).Perm (ss++bH n ss):=by
    unfold gm
    rw [e2]
    refine List.Perm.append_right _ ?_
    refine List.perm_append_comm.trans ?_
    exact (List.perm_cons_erase hk).symm
  refine p1.trans ?_
  refine (List.perm_ext_iff_of_nodup ?_ (d6 n)).mpr fun a=>?_
  · refine List.nodup_append.mpr ⟨nd,iF n ss,fun a ha b hb e=>?_⟩
    subst e
    exact (d7.mp hb).2 ha
  · rw [List.mem_append,d7,br]
    constructor
    · rintro (h | h)
      · exact hs a h
      · exact h.1
    · intro h
      by_cases z:a∈ss
      · exact .inl z
      · exact .inr ⟨h,z⟩
theorem pj {n:Nat} {ss:List Int} {k:Int}:(gm n ss k).take (placeOf (gm n ss k) k)=ss.filter fun y=>decide (y≠k):=by
  have h:placeOf (gm n ss k) k=(ss.filter fun y=>decide (y≠k)).length:=by
    unfold gm
    rw [List.append_assoc,nY (fun z=>by simpa using (List.mem_filter.mp z).2)]
    rw [List.singleton_append,me]; omega
  rw [h]
  unfold gm
  rw [List.append_assoc,List.take_left']
  rfl
noncomputable def eB (es:List Er) (ss:List Int) (m:Int):Option Int:=(bH es.length ss).find? fun k=>cK es (gm es.length (bH es.length ss) k) k m
noncomputable def aP:Gf
  | [d,.tuple xs,.int m]=>(match fg xs with
    | some ss=>if jW d then .ok (bZ (eB (cj d) ss m)) else .no
    | none=>.no)
  | _=>.no
theorem dY {es:List Er} {ss:List Int} {m:Int} (h1:1≤es.length) (h2:es.length≤6) (h:∀ e∈es,e.Wk):aP [av es,aL ss,.int m]=.ok (bZ (eB es ss m)):=by
  unfold aL aP
  simp only [b4,gU h1 h2 h,if_true,dw]
theorem yq {E P M L:PyData} {c:Ds→Rs Bool} {p:Int→Bool}:∀ (xs:List Int) (x4:Option PyData),(∀ k∈xs,c [some E,some P,some M,some L,some (.int k)]=.ok (p k)) →
    (∃ k,xs.find? p=some k∧forL (bK 4) (sIf c (bQ (ag 4)) bM) (xs.map PyData.int) [some E,some P,some M,some L,x4]=.rt (.int k))∨(xs.find? p=none∧∃ y4,forL (bK 4) (sIf c (bQ (ag 4)) bM) (xs.map PyData.int) [some E,some P,some M,some L,x4]=.nx [some E,some P,some M,some L,y4])
  | [],x4,_=>.inr ⟨rfl,x4,rfl⟩
  | k::r,x4,h=>by
    have hk:=h k List.mem_cons_self
    have ht:bK 4 (PyData.int k) [some E,some P,some M,some L,x4]=some [some E,some P,some M,some L,some (.int k)]:=rfl
    rw [List.map_cons]
    unfold forL
    rw [ht]
    cases q:p k with
    | true =>
      rw [q] at hk
      refine .inl ⟨k,by rw [List.find?_cons,q],?_⟩
      simp only [dz,hk,ay,if_true,cx,ar,aw]
    | false =>
      rw [q] at hk
      have hb:sIf c (bQ (ag 4)) bM [some E,some P,some M,some L,some (.int k)]=.nx [some E,some P,some M,some L,some (.int k)]:=by
        simp only [dz,hk,ay,Bool.false_eq_true,if_false,ee]
      simp only [hb]
      rcases yq r (some (.int k)) (fun x hx=>h x (List.mem_cons_of_mem _ hx)) with ⟨j,e1,e2⟩ | ⟨e1,y4,e2⟩
      · exact .inl ⟨j,by rw [List.find?_cons,q]; exact e1,e2⟩
      · exact .inr ⟨by rw [List.find?_cons,q]; exact e1,y4,e2⟩
theorem B5 {f:PyData→List PyData→Int→Rs PyData} {ds:List PyData} (h:(match ds with | [x0,.tuple x1,.int x2]=>f x0 x1 x2 | _=>.no)≠.no):∃ x0 x1 x2,ds=[x0,.tuple x1,.int x2]∧f x0 x1 x2≠.no:=by
  rcases ds with _ | ⟨x0,_ | ⟨x1,_ | ⟨x2,_ | ⟨y,ys⟩⟩⟩⟩
  · exact absurd rfl h
  · exact absurd rfl h
  · first | exact absurd rfl h | (cases x1 <;> exact absurd rfl h)
  · skip
    cases x1 with
    | tuple x1 =>
      cases x2 with
      | int x2 =>
        exact ⟨_,_,_,rfl,h⟩
      | _=>exact absurd rfl h
    | _=>first | exact absurd rfl h | (cases x2 <;> exact absurd rfl h)
  · first | exact absurd rfl h | (cases x1 <;> first | exact absurd rfl h | (cases x2 <;> exact absurd rfl h))
theorem lS (cs:Cs):∀ ds,ds.length=3→aP ds≠.no→bf (cW cs bN cg bF (ds.map some++List.replicate 2 none))=aP ds:=by
  intro ds hl hne
  obtain ⟨d,xs,m,ez,hz⟩:=B5 hne
  clear hne; subst ez; have hne:=hz; clear hz
  · skip
    split at hne
    · rename_i ss hx
      split at hne
      · rename_i hc
        have hx':=cQ hx
        subst hx'
        obtain ⟨e1,l1,l6,hok⟩:=km hc
        rw [← e1]
        generalize cj d=es at *
        have hgg:=dY (ss:=ss) (m:=m) l1 l6 hok
        unfold aL at hgg
        rw [hgg]
        have hnp:=nO (es:=es) (ss:=ss) (by omega)
        unfold aL at hnp
        have hnl:=rL es.length ss
        have s1:bw [] 3 (aF bF (ae (ag 0) (ae (ag 1) ao))) [some (av es),some (.tuple (ss.map PyData.int)),some (.int m),none,none]=.nx [some (av es),some (.tuple (ss.map PyData.int)),some (.int m),some (.list ((bH es.length ss).map PyData.int)),none]:=by
          rw [ej,if_pos (by simp)]
          simp only [a9,aC,aO,ar,aw,Rs.ai,hnp,ay]
          rfl
        have hc':∀ k∈bH es.length ss,(gT (aF cg (ae (ag 0) (ae (aF bN (ae (ag 0) (ae (ag 3) (ae (ag 4) ao)))) (ae (ag 4) (ae (ag 2) ao)))))) [some (av es),some (.tuple (ss.map PyData.int)),some (.int m),some (.list ((bH es.length ss).map PyData.int)),some (.int k)]=.ok (cK es (gm es.length (bH es.length ss) k) k m):=fun k hk=>by
          have ha:=oC (es:=es) (ss:=bH es.length ss) (k:=k) (by omega) (by omega)
          have hkr:=(d7.mp hk).1
          have hb:=kr (m:=m) l1 l6 hok (kg (iF es.length ss) (fun x hx=>(d7.mp hx).1) hk) hkr.1 hkr.2
          simp only [eu,a9,aC,aO,ar,aw,Rs.ai,ha,hb,bA]
        show bf (cW cs bN cg bF [some (av es),some (.tuple (ss.map PyData.int)),some (.int m),none,none])=_
        simp only [cW]
        rw [aV,s1]; simp only
        rw [aV,dR,eM]
        rw [show cm (ag 3) [some (av es),some (.tuple (ss.map PyData.int)),some (.int m),some (.list ((bH es.length ss).map PyData.int)),none]=.ok ((bH es.length ss).map PyData.int) from rfl,ay]
        unfold eB
        rcases yq (bH es.length ss) none hc' with ⟨k,q,e⟩ | ⟨q,y4,e⟩
        · rw [e,q]; rfl
        · rw [e,q]; rfl
      · exact absurd rfl hne
    · exact absurd rfl hne
end RS
set_option maxRecDepth 100000
set_option maxHeartbeats 1000000
namespace RS
open PySem L2
noncomputable def wK (es:List Er) (m:Int):Nat→List Int→List Int
  | 0,ss=>ss
  | f + 1,ss=>match eB es ss m with
    | some k=>wK es m f (k::ss)
    | none=>ss
noncomputable def eX (es:List Er) (m:Int):List Int:=wK es m (es.length + 1) []
noncomputable def PP (n:Nat) (ss:List Int):Prop:=(bH n ss++ss).Perm (a5 n)
theorem PP.nil (n:Nat):PP n []:=by
  unfold PP bH
  rw [List.append_nil,List.filter_eq_self.mpr fun a _=>by simp]
theorem PP.len {n:Nat} {ss:List Int} (h:PP n ss):(bH n ss).length + ss.length=n:=by
  have:=h.length_eq
  rwa [List.length_append,b0] at this
theorem PP.cons {n:Nat} {ss:List Int} (h:PP n ss) {k:Int} (hk:k∈bH n ss):PP n (k::ss):=by
  unfold PP at h ⊢
  have e1:bH n (k::ss)=(bH n ss).erase k:=by
    rw [(iF n ss).erase_eq_filter]
    unfold bH
    rw [List.filter_filter]
    refine List.filter_congr fun y _=>?_
    by_cases z:y=k
    · simp [z]
    · by_cases u:y∈ss <;> simp [z,u]
  rw [e1]
  refine List.Perm.trans ?_ h
  refine List.perm_middle.trans ?_
  exact List.Perm.append_right ss (List.perm_cons_erase hk).symm
theorem CT {es:List Er} {ss:List Int} {m k:Int} (h:eB es ss m=some k):k∈bH es.length ss:=List.mem_of_find?_eq_some h
theorem Bs {es:List Er} {ss:List Int} {m k:Int} (h:eB es ss m=some k):cK es (gm es.length (bH es.length ss) k) k m=true:=by
  have:=List.find?_some h
  exact this
theorem Bv {es:List Er} {ss:List Int} {m:Int} (h:eB es ss m=none):∀ k∈bH es.length ss,cK es (gm es.length (bH es.length ss) k) k m=false:=fun k hk=>by
  have:=List.find?_eq_none.mp h k hk
  simpa using this
structure Pld (es:List Er) (m:Int) (ss:List Int):Prop where
  pp:PP es.length ss
  rm:∀ A k B,ss=A++k::B→cK es (gm es.length (bH es.length B) k) k m=true
theorem Pld.nil (es:List Er) (m:Int):Pld es m []:=⟨PP.nil _,fun A k B h=>by simp at h⟩
theorem Pld.cons {es:List Er} {m k:Int} {ss:List Int} (h:Pld es m ss) (hk:eB es ss m=some k):Pld es m (k::ss):=⟨h.pp.cons (CT hk),fun A x B e=>by
  cases A with
  | nil=>cases e; exact Bs hk
  | cons a A=>cases e; exact h.rm A x B rfl⟩
theorem Bj {es:List Er} {m:Int}:∀ (j:Nat) (ss:List Int),Pld es m ss→es.length + 1≤ss.length + j→Pld es m (wK es m j ss)∧eB es (wK es m j ss) m=none
  | 0,ss,h,hl=>by have:=h.pp.len; omega
  | j + 1,ss,h,hl=>by
    unfold wK
    cases q:eB es ss m with
    | none=>exact ⟨h,q⟩
    | some k=>exact Bj j (k::ss) (h.cons q) (by rw [List.length_cons]; omega)
theorem lT (es:List Er) (m:Int):Pld es m (eX es m)∧eB es (eX es m) m=none:=Bj _ _ (Pld.nil es m) (by simp)
theorem PP.lenle {n:Nat} {ss:List Int} (h:PP n ss):ss.length≤n:=by have:=h.len; omega
noncomputable abbrev t6:Ds→Rs Bool:=gT (g1 e7 (ag 3))
noncomputable abbrev wj:Ds→Sr:=bu (bw [] 2 (g2 bz (kf (ae (ag 3) ao)) (ag 2)))
    (bw [] 3 (aF aP (ae (ag 0) (ae (ag 2) (ae (ag 1) ao)))))
theorem xq {es:List Er} {m:Int} (l1:1≤es.length) (l6:es.length≤6) (hok:∀ e∈es,e.Wk):∀ (j fuel:Nat) (ss:List Int),Pld es m ss→es.length + 1≤ss.length + j→j < fuel →
    ∃ x3,dZ t6 wj fuel [some (av es),some (.int m),some (aL ss),some (bZ (eB es ss m))]=.nx [some (av es),some (.int m),some (aL (wK es m j ss)),x3]
  | j,0,ss,_,_,hf=>absurd hf (Nat.not_lt_zero _)
  | 0,fuel + 1,ss,h,hl,hf=>by have:=h.pp.len; omega
  | j + 1,fuel + 1,ss,h,hl,hf=>by
    unfold dZ wK
    cases q:eB es ss m with
    | none =>
      refine ⟨some .none,?_⟩
      simp only [t6,bZ,eu,nP,ar,aw,Rs.ai,sO,pR,Rs.ak,bA,ay,Bool.not_true,Bool.false_eq_true,if_false]
    | some k =>
      have hln:=h.pp.lenle
      obtain ⟨x3,e⟩:=xq l1 l6 hok j fuel (k::ss) (h.cons q) (by rw [List.length_cons]; omega) (by omega)
      refine ⟨x3,?_⟩
      have ha:bz (.tuple [.int k]) (.tuple (ss.map PyData.int))=some (.tuple (.int k::ss.map PyData.int)):=Gh (a:=[.int k]) (by rw [List.length_map]; show 1 + ss.length≤1000000; omega)
      have ei:PyData.tuple (.int k::ss.map PyData.int)=aL (k::ss):=rfl
      have hg:=dY (ss:=k::ss) (m:=m) l1 l6 hok
      have t1:bw [] 2 (g2 bz (kf (ae (ag 3) ao)) (ag 2)) [some (av es),some (.int m),some (aL ss),some (.int k)]=.nx [some (av es),some (.int m),some (aL (k::ss)),some (.int k)]:=by
        rw [ej,if_pos (by simp)]
        simp only [cq,tR,aC,aO,ar,aw,Rs.ai,aL,ha,Rs.ak,ay]
        rfl
      have t2:bw [] 3 (aF aP (ae (ag 0) (ae (ag 2) (ae (ag 1) ao)))) [some (av es),some (.int m),some (aL (k::ss)),some (.int k)]=.nx [some (av es),some (.int m),some (aL (k::ss)),some (bZ (eB es (k::ss) m))]:=by
        rw [ej,if_pos (by simp)]
        simp only [a9,aC,aO,ar,aw,Rs.ai,hg,ay]
        rfl
      have hb:wj [some (av es),some (.int m),some (aL ss),some (.int k)]=.nx [some (av es),some (.int m),some (aL (k::ss)),some (bZ (eB es (k::ss) m))]:=by
        unfold wj
        rw [aV,t1]; simp only
        rw [t2]
      have ht:t6 [some (av es),some (.int m),some (aL ss),some (bZ (some k))]=.ok true:=by
        simp only [t6,bZ,eu,nP,ar,aw,Rs.ai,sO,yT,Rs.ak,bA,Bool.not_false]
      rw [ht,ay,if_pos rfl,show bZ (some k)=PyData.int k from rfl,hb]
      exact e
noncomputable def aZ:Gf
  | [d,.int m]=>if jW d then .ok (aL (eX (cj d) m)) else .no
  | _=>.no
theorem fB {es:List Er} {m:Int} (h1:1≤es.length) (h2:es.length≤6) (h:∀ e∈es,e.Wk):aZ [av es,.int m]=.ok (aL (eX es m)):=by
  unfold aZ
  simp only [gU h1 h2 h,if_true,dw]
theorem k7 (cs:Cs):∀ ds,ds.length=2→aZ ds≠.no→bf (cR cs aP (ds.map some++List.replicate 2 none))=aZ ds:=by
  intro ds hl hne
  obtain ⟨d,m,ez,hz⟩:=tj hne
  clear hne; subst ez; have hne:=hz; clear hz
  · skip
    split at hne
    · rename_i hc
      obtain ⟨e1,l1,l6,hok⟩:=km hc
      rw [← e1]
      generalize cj d=es at *
      rw [fB l1 l6 hok]
      obtain ⟨x3,e⟩:=xq (m:=m) l1 l6 hok (es.length + 1) 1000000 [] (Pld.nil es m) (by simp) (by omega)
      have hg:=dY (ss:=[]) (m:=m) l1 l6 hok
      have s1:bw [] 2 (kf ao) [some (av es),some (.int m),none,none]=.nx [some (av es),some (.int m),some (aL []),none]:=rfl
      have s2:bw [] 3 (aF aP (ae (ag 0) (ae (ag 2) (ae (ag 1) ao)))) [some (av es),some (.int m),some (aL []),none]=.nx [some (av es),some (.int m),some (aL []),some (bZ (eB es [] m))]:=by
        rw [ej,if_pos (by simp)]
        simp only [a9,aC,aO,ar,aw,Rs.ai,hg,ay]
        rfl
      show bf (cR cs aP [some (av es),some (.int m),none,none])=_
      simp only [cR]
      rw [aV,s1]; simp only
      rw [aV,s2]; simp only
      rw [aV]
      have e':dZ (gT (g1 e7 (ag 3))) (bu (bw [] 2 (g2 bz (kf (ae (ag 3) ao)) (ag 2))) (bw [] 3 (aF aP (ae (ag 0) (ae (ag 2) (ae (ag 1) ao)))))) 1000000 [some (av es),some (.int m),some (aL []),some (bZ (eB es [] m))]=_:=e
      rw [e']
      rfl
    · exact absurd rfl hne
noncomputable def rwR (es:List Er) (m:Int):Option (List Int):=if (eX es m).length=es.length then some (eX es m) else none
noncomputable def pC:Option (List Int)→PyData
  | none=>.none
  | some rs=>aL rs
noncomputable def aE:Gf
  | [d,.int m]=>if jW d then .ok (pC (rwR (cj d) m)) else .no
  | _=>.no
theorem d8 {es:List Er} {m:Int} (h1:1≤es.length) (h2:es.length≤6) (h:∀ e∈es,e.Wk):aE [av es,.int m]=.ok (pC (rwR es m)):=by
  unfold aE
  simp only [gU h1 h2 h,if_true,dw]
theorem mh (cs:Cs):∀ ds,ds.length=2→aE ds≠.no→bf (da cs aZ (ds.map some++List.replicate 1 none))=aE ds:=by
  intro ds hl hne
  obtain ⟨d,m,ez,hz⟩:=tj hne
  clear hne; subst ez; have hne:=hz; clear hz
  · skip
    split at hne
    · rename_i hc
      obtain ⟨e1,l1,l6,hok⟩:=km hc
      rw [← e1]
      generalize cj d=es at *
      rw [d8 l1 l6 hok]
      have hg:=fB (m:=m) l1 l6 hok
      have ll:∀ rs:List Int,fc [aL rs]=some (.int (rs.length:Int)):=fun rs=>by unfold aL; rw [vL,List.length_map]
      have s1:bw [] 2 (aF aZ (ae (ag 0) (ae (ag 1) ao))) [some (av es),some (.int m),none]=.nx [some (av es),some (.int m),some (aL (eX es m))]:=by
        rw [ej,if_pos (by simp)]
        simp only [a9,aC,aO,ar,aw,Rs.ai,hg,ay]
        rfl
      show bf (da cs aZ [some (av es),some (.int m),none])=_
      simp only [da]
      rw [aV,s1]; simp only
      unfold rwR
      by_cases z:(eX es m).length=es.length
      · rw [if_pos z]
        have q:(((eX es m).length:Int) == (es.length:Int))=true:=by simp [z]
        simp only [cx,gIf,eu,cq,g6,aC,aO,ar,aw,Rs.ai,ll,A3,Rs.ak,lq,q,bA,if_true,ay,cf]
        rfl
      · rw [if_neg z]
        have q:(((eX es m).length:Int) == (es.length:Int))=false:=by
          have:¬ (((eX es m).length:Int)=(es.length:Int)):=by omega
          simpa using this
        simp only [cx,gIf,eu,cq,g6,aC,aO,ar,aw,d4,Rs.ai,ll,A3,Rs.ak,lq,q,bA,Bool.false_eq_true,if_false,ay,cf]
        rfl
    · exact absurd rfl hne
noncomputable def kP (es:List Er) (rs:List Int) (m:Int):Bool:=rs.all fun n=>cK es rs n m
theorem mw (es:List Er) (rs:List Int):kP es rs 0=lg es rs:=by
  unfold kP lg
  simp only [AX]
theorem vE {es:List Er} {rs ot:List Int} {n m:Int} (h:bR es rs n=bR es ot n):cK es rs n m=cK es ot n m:=by
  unfold cK; rw [h]
theorem qU {es:List Er} {rs ot:List Int} {n m:Int} (h:uR (bR es ot n) (bR es rs n)) (hr:cK es rs n m=true):cK es ot n m=true:=by
  unfold cK at hr ⊢
  cases q:bR es rs n with
  | none=>rw [q] at hr; cases hr
  | some t =>
    rw [q] at hr
    obtain ⟨u,hu,hle⟩:=h t q
    rw [hu]
    have:=of_decide_eq_true hr
    exact decide_eq_true (by omega)
theorem uh {es:List Er} {m:Int} {rs:List Int} (h:Pld es m rs) (hl:rs.length=es.length):bV es.length rs∧kP es rs m=true:=by
  have hp:=h.pp
  have h0:bH es.length rs=[]:=List.eq_nil_of_length_eq_zero (by have:=hp.len; omega)
  have hr:bV es.length rs:=by
    rw [← lX]
    unfold PP at hp
    rw [h0] at hp
    exact hp
  refine ⟨hr,?_⟩
  unfold kP
  rw [List.all_eq_true]
  intro k hk
  have hkr:=hr.rng k hk
  have hs:=iK hk
  have hm:=h.rm _ _ _ hs
  generalize hB:rs.drop (placeOf rs k + 1)=B at *
  generalize hA:rs.take (placeOf rs k)=A at *
  have nd:=hr.nd
  rw [hs] at nd
  have ndA:=(List.nodup_append.mp nd)
  have hkB:k ∉ B:=(List.nodup_cons.mp ndA.2.1).1
  have hkA:k ∉ A:=fun z=>ndA.2.2 k z k List.mem_cons_self rfl
  have hkn:k∈bH es.length B:=d7.mpr ⟨hkr,hkB⟩
  have ho:=kg (n:=es.length) (iF es.length B) (fun x hx=>(d7.mp hx).1) hkn
  have hsa:=v3 hr ho hkr.1 hkr.2 (by
    rw [pj,hA]
    refine (List.perm_ext_iff_of_nodup ndA.1 ((iF es.length B).filter _)).mpr fun a=>?_
    rw [List.mem_filter,d7]
    constructor
    · intro ha
      have har:a∈rs:=by rw [hs]; exact List.mem_append_left _ ha
      refine ⟨⟨hr.rng a har,fun z=>ndA.2.2 a ha a (List.mem_cons_of_mem _ z) rfl⟩,?_⟩
      refine decide_eq_true fun e=>hkA (e ▸ ha)
    · rintro ⟨⟨har,hb⟩,hne⟩
      have hne':=of_decide_eq_true hne
      have ham:a∈rs:=hr.mem har.1 har.2
      rw [hs] at ham
      rcases List.mem_append.mp ham with z | z
      · exact z
      · rcases List.mem_cons.mp z with z | z
        · exact absurd z hne'
        · exact absurd z hb)
  rw [vE hsa.2.2]
  exact hm
theorem yY {es:List Er} {m:Int} {ss rs:List Int} (hsh:∀ e∈es,e.Sh) (hl:∀ e∈es,0≤e.late) (h:∀ k∈bH es.length ss,cK es (gm es.length (bH es.length ss) k) k m=false) (hr:bV es.length rs) {k:Int} (hk:(rs.filter fun n=>decide (n∈bH es.length ss)).getLast?=some k):cK es rs k m=false:=by
  have hkm:=List.mem_filter.mp (List.mem_of_getLast? hk)
  have hkn:k∈bH es.length ss:=of_decide_eq_true hkm.2
  have hkr:=hr.rng k hkm.1
  cases q:cK es rs k m with
  | false=>rfl
  | true =>
    exfalso
    have ho:=kg (n:=es.length) (iF es.length ss) (fun x hx=>(d7.mp hx).1) hkn
    have hs:=iK hkm.1
    generalize hB:rs.drop (placeOf rs k + 1)=B at *
    generalize hA:rs.take (placeOf rs k)=A at *
    have nd:=hr.nd
    rw [hs] at nd
    have ndA:=(List.nodup_append.mp nd)
    have hkA:k ∉ A:=fun z=>ndA.2.2 k z k List.mem_cons_self rfl
    have hkB:k ∉ B:=(List.nodup_cons.mp ndA.2.1).1
    have hnB:∀ x∈B,x ∉ bH es.length ss:=by
      rw [hs,List.filter_append,List.filter_cons_of_pos (by simpa using hkn)] at hk
      intro x hx hxn
      have hxf:x∈B.filter fun n=>decide (n∈bH es.length ss):=List.mem_filter.mpr ⟨hx,decide_eq_true hxn⟩
      have hsub:∀ y∈B.filter (fun n=>decide (n∈bH es.length ss)),y∈B:=fun y hy=>(List.mem_filter.mp hy).1
      generalize (B.filter fun n=>decide (n∈bH es.length ss))=C at *
      cases C with
      | nil=>cases hxf
      | cons c C =>
        rw [List.getLast?_append] at hk
        have hne:(k::c::C).getLast?=(c::C).getLast?:=by simp
        rw [hne] at hk
        obtain ⟨z,hz⟩:∃ z,(c::C).getLast?=some z:=by
          cases w:(c::C).getLast? with
          | none=>simp at w
          | some z=>exact ⟨z,rfl⟩
        rw [hz] at hk
        simp at hk
        subst hk
        exact hkB (hsub _ (List.mem_of_getLast? hz))
    have hf:=qQ (X:=A.filter fun x=>!decide (x∈bH es.length ss)) hsh hl hr ho hkr.1 hkr.2 (by
      rw [pj,hA]
      have p1:A.Perm ((A.filter fun x=>decide (x∈bH es.length ss))++A.filter fun x=>!decide (x∈bH es.length ss)):=(List.filter_append_perm _ A).symm
      refine p1.trans (List.Perm.append_right _ ?_)
      refine (List.perm_ext_iff_of_nodup (ndA.1.filter _) ((iF es.length ss).filter _)).mpr fun a=>?_
      rw [List.mem_filter,List.mem_filter]
      constructor
      · rintro ⟨ha,hn⟩
        exact ⟨of_decide_eq_true hn,decide_eq_true fun e=>hkA (e ▸ ha)⟩
      · rintro ⟨hn,hne⟩
        have hne':=of_decide_eq_true hne
        have har:=(d7.mp hn).1
        have ham:a∈rs:=hr.mem har.1 har.2
        rw [hs] at ham
        rcases List.mem_append.mp ham with z | z
        · exact ⟨z,decide_eq_true hn⟩
        · rcases List.mem_cons.mp z with z | z
          · exact absurd z hne'
          · exact absurd hn (hnB a z))
    have:=qU hf q
    rw [h k hkn] at this
    cases this
end RS
set_option maxRecDepth 100000
set_option maxHeartbeats 1000000
namespace RS
open PySem L2
theorem Ay {cs:Cs} {d:PyData} (hd:bU d=true) (hc:¬ cJ d=true):bc cs [d]=.rz cs.NoErrands:=by unfold bc; simp [hd,hc]
noncomputable def aU (cs:Cs):Gf
  | [d]=>if bU d then (if cJ d then .ok (pC (rwR (cj d) 0)) else .rz cs.NoErrands) else .no
  | _=>.no
theorem lj {es:List Er} (cs:Cs) (h1:1≤es.length) (h2:es.length≤6) (h:∀ e∈es,e.Ok):aU cs [av es]=.ok (pC (rwR es 0)):=by
  unfold aU; simp only [kN,fG h1 h2 h,if_true,dw]
theorem zp (cs:Cs):∀ ds,ds.length=1→aU cs ds≠.no→bf (gp cs aE (bc cs) (ds.map some++List.replicate 0 none))=aU cs ds:=by
  intro ds hl hne
  obtain ⟨d,ez,hz⟩:=Aq hne
  clear hne; subst ez; have hne:=hz; clear hz
  · skip
    split at hne
    · rename_i hd
      split at hne
      · rename_i hc
        obtain ⟨e1,l1,l6,hok⟩:=lR hc
        rw [← e1]
        generalize cj d=es at *
        rw [lj cs l1 l6 hok]
        have h1:=lA cs l1 l6 hok
        have h2:=d8 (m:=0) l1 l6 (fun e he=>(hok e he).wk)
        show bf (gp cs aE (bc cs) [some (av es)])=_
        simp only [gp,aV,xD,a9,aC,aO,ar,d4,Rs.ai,h1,ay,cx,h2,cf]
      · rename_i hc
        have h1:=Ay (cs:=cs) hd hc
        have h2:aU cs [d]=.rz cs.NoErrands:=by unfold aU; simp [hd,hc]
        rw [h2]
        show bf (gp cs aE (bc cs) [some d])=_
        simp [gp,h1]
    · exact absurd rfl hne
theorem yD {n:Nat} {ss rs:List Int} (hr:bV n rs) (hne:bH n ss≠[]):∃ k,(rs.filter fun x=>decide (x∈bH n ss)).getLast?=some k:=by
  cases q:(rs.filter fun x=>decide (x∈bH n ss)).getLast? with
  | some k=>exact ⟨k,rfl⟩
  | none =>
    exfalso
    have e:=List.getLast?_eq_none_iff.mp q
    obtain ⟨s,hs⟩:=List.exists_mem_of_ne_nil _ hne
    have h2:=(d7.mp hs).1
    exact List.filter_eq_nil_iff.mp e s (hr.mem h2.1 h2.2) (decide_eq_true hs)
theorem El {α:Type} {p:α→Bool} {l:List α} {a:α} (ha:a∈l) (h:p a=false):l.all p=false:=by
  cases q:l.all p with
  | false=>rfl
  | true=>rw [List.all_eq_true] at q; rw [q a ha] at h; cases h
theorem vC {es:List Er} {m:Int} {rs:List Int} (h:rwR es m=some rs):bV es.length rs∧kP es rs m=true:=by
  unfold rwR at h
  split at h
  · rename_i z
    cases h
    exact uh (lT es m).1 z
  · cases h
theorem BI {es:List Er} {m:Int} (z:¬ (eX es m).length=es.length):bH es.length (eX es m)≠[]:=fun e=>z (by
  have:=(lT es m).1.pp.len
  rw [e] at this
  simpa using this)
theorem uB {es:List Er} {m:Int} (hsh:∀ e∈es,e.Sh) (hl:∀ e∈es,0≤e.late) (h:rwR es m=none) {rs:List Int} (hr:bV es.length rs):kP es rs m=false:=by
  unfold rwR at h
  split at h
  · cases h
  · rename_i z
    obtain ⟨k,hk⟩:=yD hr (BI z)
    have hkm:=(List.mem_filter.mp (List.mem_of_getLast? hk)).1
    exact El hkm (yY hsh hl (Bv (lT es m).2) hr hk)
theorem DP (cs:Cs):Et (aU cs):=⟨fun es l1 l6 hok=>by
  rw [lj cs l1 l6 hok]
  cases q:rwR es 0 with
  | some rs =>
    obtain ⟨hr,ha⟩:=vC q
    exact .inl ⟨rs,rfl,hr,by rw [← mw]; exact ha⟩
  | none=>exact .inr ⟨rfl,fun rs hr=>by rw [← mw]; exact uB (fun e he=>(hok e he).sh) (fun e he=>(hok e he).l1) q hr⟩⟩
end RS
set_option maxRecDepth 100000
set_option maxHeartbeats 1000000
namespace RS
open PySem L2
noncomputable def Bk (A:List Er) (e:Er) (B:List Er) (M:Int):Prop:=0≤M∧∀ b∈B,∀ p∈b.parts,∀ t,p.2=some t→(∃ u∈A++[e],u.has t=true)→p.1 - 1≤M
noncomputable def xt (A:List Er) (e:Er) (h t:Int):Int:=h + e.work + (A.map fun a=>a.times t * a.work).sum
noncomputable def inT (A:List Er) (e:Er) (B:List Er):Prop:=∃ h t,Bk A e B h∧1≤t∧xt A e h t≤t∧t≤e.due
noncomputable def Cn (L:List Er):Prop:=∀ A e B,L=A++e::B→inT A e B
theorem yi {es:List Er} {rs:List Int} {n:Int} (hok:∀ e∈es,e.Ok) (hr:bV es.length rs) (n0:0≤n) (n1:n < es.length):ft es rs n=true↔inT ((rs.take (placeOf rs n)).map fun m=>az es m) (az es n) ((rs.drop (placeOf rs n + 1)).map fun m=>az es m):=by
  have hmem:=hr.mem n0 n1
  have hoe:=hok _ (bW n0 n1)
  have hh:∀ M,Bk ((rs.take (placeOf rs n)).map fun m=>az es m) (az es n) ((rs.drop (placeOf rs n + 1)).map fun m=>az es m) M↔cp es rs n≤M:=fun M=>by
    rw [c8]
    unfold Bk
    have e1:(rs.take (placeOf rs n)).map (fun m=>az es m)++[az es n]=(rs.take (placeOf rs n + 1)).map fun m=>az es m:=by
      rw [gw hmem,List.map_append]; rfl
    rw [e1]
    constructor
    · rintro ⟨h1,h2⟩
      refine ⟨h1,fun m hm p hp t ht qz6=>(by obtain ⟨u,hu,hx⟩:=qz6; exact h2 _ (List.mem_map.mpr ⟨m,hm,rfl⟩) p hp t ht ⟨_,List.mem_map.mpr ⟨u,hu,rfl⟩,hx⟩)⟩
    · rintro ⟨h1,h2⟩
      refine ⟨h1,fun b hb p hp t ht rz6=>?_⟩
      obtain ⟨u,hu,hx⟩:=rz6
      obtain ⟨m,hm,rfl⟩:=List.mem_map.mp hb
      obtain ⟨k,hk,rfl⟩:=List.mem_map.mp hu
      exact h2 m hm p hp t ht ⟨k,hk,hx⟩
  have hn:∀ h t,xt ((rs.take (placeOf rs n)).map fun m=>az es m) (az es n) h t=h + (az es n).work + ((rs.take (placeOf rs n)).map fun m=>(az es m).times t * (az es m).work).sum:=fun h t=>by
    unfold xt; rw [List.map_map]; rfl
  have hN:∀ t,dQ es rs n t=cp es rs n + (az es n).work + ((rs.take (placeOf rs n)).map fun m=>(az es m).times t * (az es m).work).sum:=fun t=>rfl
  constructor
  · intro h
    unfold ft at h
    cases q:bR es rs n with
    | none=>rw [q] at h; cases h
    | some t =>
      rw [q] at h
      have hd:=of_decide_eq_true h
      rw [df] at q
      obtain ⟨h1,_,h3,_⟩:=eS q
      have h3':=of_decide_eq_true h3
      refine ⟨cp es rs n,t,(hh _).mpr (Int.le_refl _),h1,?_,hd⟩
      rw [hn,← hN]; exact h3'
  · rintro ⟨h,t,hx,h1,h2,h3⟩
    have hle:=(hh h).mp hx
    rw [hn] at h2
    have hp:dQ es rs n t≤t:=by rw [hN]; omega
    have hd2:=hoe.d2
    unfold ft
    cases q:bR es rs n with
    | none =>
      rw [df] at q
      have:=of_decide_eq_false (jK q t h1 (by omega))
      omega
    | some u =>
      rw [df] at q
      obtain ⟨g1,_,_,g4⟩:=eS q
      refine decide_eq_true ?_
      rcases Int.lt_or_le t u with z | z
      · have:=of_decide_eq_false (g4 t h1 z)
        omega
      · omega
theorem Co {α:Type} (f:α→Int) {l m:List α} (h:l.Sublist m) (hf:∀ x∈m,0≤f x):(l.map f).sum≤(m.map f).sum:=by
  induction h with
  | slnil=>exact Int.le_refl _
  | @cons l m a _ ih =>
    have h1:=hf a List.mem_cons_self
    have h2:=ih fun x hx=>hf x (List.mem_cons_of_mem _ hx)
    rw [List.map_cons,List.sum_cons]; omega
  | @cons_cons l m a _ ih =>
    have h2:=ih fun x hx=>hf x (List.mem_cons_of_mem _ hx)
    rw [List.map_cons,List.map_cons,List.sum_cons,List.sum_cons]; omega
theorem CO {A A' B B':List Er} {e:Er} (hA:∀ a∈A,a.Ok) (h1:A'.Sublist A) (h2:B'.Sublist B) (h:inT A e B):inT A' e B':=by
  obtain ⟨hd,t,hh,t1,hn,hdue⟩:=h
  refine ⟨hd,t,⟨hh.1,fun b hb p hp tl ht ⟨u,hu,hx⟩=>hh.2 b (h2.subset hb) p hp tl ht ⟨u,?_,hx⟩⟩,t1,?_,hdue⟩
  · rcases List.mem_append.mp hu with z | z
    · exact List.mem_append_left _ (h1.subset z)
    · exact List.mem_append_right _ z
  · unfold xt at hn ⊢
    have:=Co (fun a:Er=>a.times t * a.work) h1 fun a ha=>by
      have ho:=hA a ha
      have l0:=ho.l1
      exact Int.mul_nonneg (Er.times_pos ho.sh.e1 (by omega)) ho.sh.work_b.1
    omega
theorem Bg {L M:List Er} (hok:∀ a∈L,a.Ok) (h:M.Sublist L) (hf:Cn L):Cn M:=fun A' e B' eq=>by
  rw [eq] at h
  obtain ⟨R1,R2,rfl,s1,s2⟩:=List.append_sublist_iff.mp h
  obtain ⟨X,Y,rfl,hx,s3⟩:=List.cons_sublist_iff.mp s2
  obtain ⟨X1,X2,rfl⟩:=List.append_of_mem hx
  have hi:=hf (R1++X1) e (X2++Y) (by simp)
  refine CO (fun a ha=>hok a (by simp at ha ⊢; rcases ha with z | z <;> simp [z])) ?_ ?_ hi
  · exact s1.trans (List.sublist_append_left _ _)
  · exact s3.trans (List.sublist_append_right _ _)
theorem fits_of {L:List Er} (hok:∀ a∈L,a.Ok) (h:Cn L):Fits L:=by
  refine ⟨a5 L.length,mE _,?_⟩
  unfold lg
  rw [List.all_eq_true]
  intro n hn
  have hr:=mE L.length
  have hrg:=hr.rng n hn
  rw [yi hok hr hrg.1 hrg.2]
  refine h _ _ _ ?_
  have hs:=iK hn
  have:=qY L
  unfold sub at this
  conv=>lhs; rw [← this,hs]
  rw [List.map_append,List.map_cons]
theorem B2 {es:List Er} {rs:List Int} (hok:∀ a∈es,a.Ok) (hr:bV es.length rs) (ha:lg es rs=true):Cn (rs.map fun m=>az es m):=fun A e B eq=>by
  obtain ⟨A0,R0,e1,e2,e3⟩:=List.map_eq_append_iff.mp eq
  obtain ⟨n,B0,e4,e5,e6⟩:=List.map_eq_cons_iff.mp e3
  subst e4
  have nd:=hr.nd
  rw [e1] at nd
  have hnA:n ∉ A0:=fun z=>(List.nodup_append.mp nd).2.2 n z n List.mem_cons_self rfl
  have hp:placeOf rs n=A0.length:=by
    rw [e1,nY hnA,me]; omega
  have hn:n∈rs:=by rw [e1]; simp
  have hrg:=hr.rng n hn
  have hi:=List.all_eq_true.mp ha n hn
  have:=(yi hok hr hrg.1 hrg.2).mp hi
  rw [hp] at this
  have t1:rs.take A0.length=A0:=by rw [e1]; simp
  have t2:rs.drop (A0.length + 1)=B0:=by rw [e1,yx]; rfl
  rw [t1,t2,e2,e5,e6] at this
  exact this
theorem mU {es:List Er} (hok:∀ e∈es,e.Ok) {row:List Int} (hr:∀ x∈row,0≤x∧x < es.length):∀ e∈sub es row,e.Ok:=fun e he=>by
  obtain ⟨m,hm,rfl⟩:=List.mem_map.mp he
  have:=hr m hm
  exact hok _ (bW this.1 this.2)
theorem zz {es:List Er} (hok:∀ e∈es,e.Ok) {row less:List Int} (hr:∀ x∈row,0≤x∧x < es.length) (nd:row.Nodup) (nd':less.Nodup) (hs:∀ x∈less,x∈row) (hf:Fits (sub es row)):Fits (sub es less):=by
  have hok1:=mU hok hr
  have hok2:=mU hok (fun x hx=>hr x (hs x hx))
  obtain ⟨rs,hR,ha⟩:=hf
  have hL:=B2 hok1 hR ha
  have hlen:(sub es row).length=row.length:=by unfold sub; rw [List.length_map]
  -- the order,in the numbers of all errands
  have hm:(rs.map fun m=>az (sub es row) m)=(rs.map fun m=>row.getD m.toNat 0).map fun m=>az es m:=by
    rw [List.map_map]
    refine List.map_congr_left fun m hm=>?_
    have:=hR.rng m hm
    rw [hlen] at this
    obtain ⟨j,rfl⟩:∃ j:Nat,m=(j:Int):=⟨m.toNat,by omega⟩
    rw [xn (by omega)]
    show _=az es (row.getD (j:Int).toNat 0)
    rw [Int.toNat_natCast]
  rw [hm] at hL
  have hp:(rs.map fun m=>row.getD m.toNat 0).Perm row:=by
    rw [hlen] at hR
    have h1:=(lX.mpr hR).map fun m:Int=>row.getD m.toNat 0
    refine h1.trans ?_
    have h2:(a5 row.length).map (fun m:Int=>row.getD m.toNat 0)=row:=by
      apply List.ext_getElem?
      intro i
      unfold a5
      rw [List.map_map,List.getElem?_map]
      by_cases h:i < row.length
      · rw [List.getElem?_range h]
        simp only [Option.map_some,Function.comp,Int.toNat_natCast]
        rw [List.getD_eq_getElem?_getD,List.getElem?_eq_getElem h]; rfl
      · rw [List.getElem?_eq_none (by simpa using h),List.getElem?_eq_none (by omega)]; rfl
    rw [h2]
  generalize (rs.map fun m=>row.getD m.toNat 0)=l at *
  have hpf:(l.filter fun x=>decide (x∈less)).Perm less:=by
    refine (List.perm_ext_iff_of_nodup ((hp.nodup_iff.mpr nd).filter _) nd').mpr fun a=>?_
    rw [List.mem_filter]
    constructor
    · rintro ⟨_,h⟩; exact of_decide_eq_true h
    · intro h; exact ⟨hp.mem_iff.mpr (hs a h),decide_eq_true h⟩
  have hok3:∀ a∈l.map (fun m=>az es m),a.Ok:=fun a ha=>by
    obtain ⟨m,hm,rfl⟩:=List.mem_map.mp ha
    have:=hr m (hp.mem_iff.mp hm)
    exact hok _ (bW this.1 this.2)
  have hF:=Bg hok3 ((List.filter_sublist (p:=fun x=>decide (x∈less))).map fun m=>az es m) hL
  have hfit:=fits_of (fun a ha=>by
    obtain ⟨m,hm,rfl⟩:=List.mem_map.mp ha
    have:=hr m (hp.mem_iff.mp (List.mem_filter.mp hm).1)
    exact hok _ (bW this.1 this.2)) hF
  exact yw (hpf.map fun m=>az es m) hfit
end RS
set_option maxRecDepth 100000
set_option maxHeartbeats 1000000
namespace RS
open PySem L2
noncomputable def dF (a b:Er):Bool:=(a5 4).any fun t=>a.has t && b.has t
theorem BU {e:Er} (h:e.Sh) {t:Int} (ht:e.has t=true):0≤t∧t≤3:=by
  unfold Er.has at ht
  obtain ⟨p,hp,he⟩:=List.any_eq_true.mp ht
  exact (h.pl p hp).2.2 t (by simpa using he)
theorem pI {a b:Er} (ha:a.Sh):dF a b=true↔∃ t,a.has t=true∧b.has t=true:=by
  unfold dF
  rw [List.any_eq_true]
  constructor
  · rintro ⟨t,_,h⟩
    rw [Bool.and_eq_true] at h
    exact ⟨t,h⟩
  · rintro ⟨t,h1,h2⟩
    have:=BU ha h1
    exact ⟨t,br.mpr ⟨this.1,by omega⟩,by rw [h1,h2]; rfl⟩
theorem uA {a b:Er}:dF a b=dF b a:=by
  unfold dF
  congr 1
  funext t
  exact Bool.and_comm _ _
theorem v7 {a b:Er} (ha:a.Sh) (h:dF a b=false):dB a b:=fun t ht=>by
  cases q:b.has t with
  | false=>rfl
  | true=>rw [(pI ha).mpr ⟨t,ht,q⟩] at h; cases h
theorem vX {a b:Er} (ha:a.Sh) (h:dB a b):dF a b=false:=by
  cases q:dF a b with
  | false=>rfl
  | true =>
    obtain ⟨t,h1,h2⟩:=(pI ha).mp q
    rw [h t h1] at h2; cases h2
noncomputable def bdT (es:List Er) (i:Int) (b:List Int):Bool:=b.any fun o=>dF (az es i) (az es o)
noncomputable def bdJ (es:List Er) (i:Int):List (List Int)→List Int→List Int
  | [],j=>j
  | b::r,j=>bdJ es i r (if bdT es i b then b++j else j)
noncomputable def bdA (es:List Er) (i:Int) (bs:List (List Int)):List (List Int):=bs.filter fun b=>!bdT es i b
noncomputable def nA (es:List Er) (bs:List (List Int)) (i:Int):List (List Int):=bdA es i bs++[bdJ es i bs [i]]
noncomputable def bdN (es:List Er) (k:Nat):List (List Int):=(a5 k).foldl (nA es) []
theorem nT (k:Nat):a5 (k + 1)=a5 k++[(k:Int)]:=by unfold a5; rw [List.range_succ,List.map_append]; rfl
theorem ui (es:List Er) (k:Nat):bdN es (k + 1)=nA es (bdN es k) (k:Int):=by
  unfold bdN
  rw [nT,List.foldl_append]; rfl
theorem pV (es:List Er) (i:Int):∀ (bs:List (List Int)) (j:List Int),(bdJ es i bs j).Perm ((bs.filter fun b=>bdT es i b).flatten++j)
  | [],j=>.refl _
  | b::r,j=>by
    unfold bdJ
    refine (pV es i r _).trans ?_
    cases q:bdT es i b with
    | true =>
      rw [List.filter_cons_of_pos q,List.flatten_cons,if_pos rfl,← List.append_assoc]
      exact List.Perm.append_right _ List.perm_append_comm
    | false=>rw [List.filter_cons_of_neg (by rw [q]; decide)]; exact .refl _
theorem qi (p:List Int→Bool):∀ bs:List (List Int),((bs.filter fun b=>!p b).flatten++(bs.filter fun b=>p b).flatten).Perm bs.flatten
  | []=>.refl _
  | b::r=>by
    have ih:=qi p r
    rw [List.flatten_cons]
    cases q:p b with
    | true =>
      rw [List.filter_cons_of_neg (by rw [q]; decide),List.filter_cons_of_pos q,List.flatten_cons]
      refine List.Perm.trans ?_ (List.Perm.append_left b ih)
      rw [← List.append_assoc,← List.append_assoc]
      exact List.Perm.append_right _ List.perm_append_comm
    | false =>
      rw [List.filter_cons_of_pos (by rw [q]; rfl),List.filter_cons_of_neg (by rw [q]; decide),List.flatten_cons,List.append_assoc]
      exact List.Perm.append_left b ih
structure Bd (es:List Er) (k:Nat) (bs:List (List Int)):Prop where
  pm:bs.flatten.Perm (a5 k)
  sep:∀ x y:Int,0≤x→x < k→0≤y→y < k→dF (az es x) (az es y)=true→∃ b∈bs,x∈b∧y∈b
  con:∀ f:Int→Nat,(∀ x y:Int,0≤x→x < k→0≤y→y < k→dF (az es x) (az es y)=true→f x=f y)→∀ b∈bs,∀ x∈b,∀ y∈b,f x=f y
  ne:∀ b∈bs,b≠[]
theorem kJ {es:List Er} {i:Int} {bs:List (List Int)} {x:Int}:x∈bdJ es i bs [i]↔x=i∨∃ b∈bs,bdT es i b=true∧x∈b:=by
  rw [(pV es i bs [i]).mem_iff,List.mem_append,List.mem_flatten,List.mem_singleton]
  constructor
  · rintro (⟨b,hb,hx⟩ | h)
    · obtain ⟨h1,h2⟩:=List.mem_filter.mp hb
      exact .inr ⟨b,h1,h2,hx⟩
    · exact .inl h
  · rintro (h | ⟨b,h1,h2,hx⟩)
    · exact .inr h
    · exact .inl ⟨b,List.mem_filter.mpr ⟨h1,h2⟩,hx⟩
theorem Bd.in_ {es:List Er} {k:Nat} {bs:List (List Int)} (h:Bd es k bs) {b:List Int} (hb:b∈bs) {x:Int} (hx:x∈b):0≤x∧x < k:=br.mp (h.pm.mem_iff.mp (List.mem_flatten.mpr ⟨b,hb,hx⟩))
theorem Bd.step {es:List Er} {k:Nat} {bs:List (List Int)} (h:Bd es k bs):Bd es (k + 1) (nA es bs (k:Int)) where
  pm:=by
    unfold nA
    rw [List.flatten_append,nT]
    have e:[bdJ es (k:Int) bs [(k:Int)]].flatten=bdJ es (k:Int) bs [(k:Int)]:=by simp
    rw [e]
    refine (List.Perm.append_left _ (pV es (k:Int) bs [(k:Int)])).trans ?_
    rw [← List.append_assoc]
    refine List.Perm.append_right _ ?_
    exact (qi (bdT es (k:Int)) bs).trans h.pm
  sep:=fun x y x0 x1 y0 y1 hs=>by
    have hw:∀ z:Int,0≤z→z < k→dF (az es (k:Int)) (az es z)=true→z∈bdJ es (k:Int) bs [(k:Int)]:=fun z z0 z1 hz=>by
      obtain ⟨b,hb,hzb⟩:=List.mem_flatten.mp (h.pm.mem_iff.mpr (br.mpr ⟨z0,z1⟩))
      exact kJ.mpr (.inr ⟨b,hb,List.any_eq_true.mpr ⟨z,hzb,hz⟩,hzb⟩)
    have hk:(k:Int)∈bdJ es (k:Int) bs [(k:Int)]:=kJ.mpr (.inl rfl)
    have hj:bdJ es (k:Int) bs [(k:Int)]∈nA es bs (k:Int):=List.mem_append_right _ (List.mem_singleton.mpr rfl)
    by_cases ex:x=(k:Int)
    · subst ex
      by_cases ey:y=(k:Int)
      · subst ey; exact ⟨_,hj,hk,hk⟩
      · exact ⟨_,hj,hk,hw y y0 (by omega) hs⟩
    · by_cases ey:y=(k:Int)
      · subst ey
        rw [uA] at hs
        exact ⟨_,hj,hw x x0 (by omega) hs,hk⟩
      · obtain ⟨b,hb,hx,hy⟩:=h.sep x y x0 (by omega) y0 (by omega) hs
        cases q:bdT es (k:Int) b with
        | true=>exact ⟨_,hj,kJ.mpr (.inr ⟨b,hb,q,hx⟩),kJ.mpr (.inr ⟨b,hb,q,hy⟩)⟩
        | false=>exact ⟨b,List.mem_append_left _ (List.mem_filter.mpr ⟨hb,by rw [q]; rfl⟩),hx,hy⟩
  con:=fun f hf b hb x hx y hy=>by
    have hc:=h.con f fun x y a1 a2 a3 a4=>hf x y a1 (by omega) a3 (by omega)
    rcases List.mem_append.mp hb with z | z
    · exact hc b (List.mem_filter.mp z).1 x hx y hy
    · cases List.mem_singleton.mp z
      have key:∀ w∈bdJ es (k:Int) bs [(k:Int)],f w=f (k:Int):=fun w hw=>by
        rcases kJ.mp hw with e | ⟨b,hb,ht,hwb⟩
        · rw [e]
        · obtain ⟨o,ho,hs⟩:=List.any_eq_true.mp ht
          have hor:=h.in_ hb ho
          rw [hc b hb w hwb o ho]
          exact (hf (k:Int) o (by omega) (by omega) hor.1 (by omega) hs).symm
      rw [key x hx,key y hy]
  ne:=fun b hb e=>by
    rcases List.mem_append.mp hb with z | z
    · exact h.ne b (List.mem_filter.mp z).1 e
    · cases List.mem_singleton.mp z
      have hk:(k:Int)∈bdJ es (k:Int) bs [(k:Int)]:=kJ.mpr (.inl rfl)
      rw [e] at hk
      cases hk
theorem pY (es:List Er):∀ k,Bd es k (bdN es k)
  | 0=>⟨.refl _,fun x y a b=>by omega,fun f hf b hb=>(List.not_mem_nil hb).elim,fun b hb=>(List.not_mem_nil hb).elim⟩
  | k + 1=>by rw [ui]; exact (pY es k).step
noncomputable def jZ (es:List Er) (row:List Int):Bool:=(rwR (sub es row) 0).isSome
theorem vB {es:List Er} (hok:∀ e∈es,e.Ok) {row:List Int} (hr:∀ x∈row,0≤x∧x < es.length):jZ es row=true↔Fits (sub es row):=by
  have hok1:=mU hok hr
  unfold jZ
  cases q:rwR (sub es row) 0 with
  | some rs =>
    obtain ⟨h1,h2⟩:=vC q
    rw [mw] at h2
    exact ⟨fun _=>⟨rs,h1,h2⟩,fun _=>rfl⟩
  | none =>
    refine ⟨fun h=>(by cases h),fun rz0=>?_⟩
    obtain ⟨rs,h1,h2⟩:=rz0
    have:=uB (fun e he=>(hok1 e he).sh) (fun e he=>(hok1 e he).l1) q h1
    rw [mw,h2] at this
    cases this
noncomputable def pA (es:List Er):List (List Int)→List (List Int)→List (List Int)→Prop
  | [],ps,r=>r=ps
  | b::bs,ps,r=>∃ A p B,ps=A++p::B∧jZ es (sortI (p++b))=true∧pA es bs (A++sortI (p++b)::B) r
theorem o4 (es:List Er):∀ (bs ps qs r:List (List Int)),ps.Perm qs→pA es bs ps r→∃ r',pA es bs qs r'
  | [],ps,qs,r,_,_=>⟨qs,rfl⟩
  | b::bs,ps,qs,r,hp,⟨A,p,B,e,hf,hd⟩=>by
    subst e
    have hm:p∈qs:=hp.mem_iff.mp (by simp)
    obtain ⟨A',B',rfl⟩:=List.append_of_mem hm
    have h1:(A++B).Perm (A'++B'):=((List.perm_middle.symm.trans hp).trans List.perm_middle).cons_inv
    have h2:(A++sortI (p++b)::B).Perm (A'++sortI (p++b)::B'):=(List.perm_middle.trans (h1.cons _)).trans List.perm_middle.symm
    obtain ⟨r',hr'⟩:=o4 es bs _ _ r h2 hd
    exact ⟨r',A',p,B',rfl,hf,hr'⟩
theorem Dg (x y z:List Int):(x++(y++z)).Perm (y++(x++z)):=by
  rw [← List.append_assoc,← List.append_assoc]; exact List.Perm.append_right _ List.perm_append_comm
theorem gB {l:List Int} {x:Int}:x∈sortI l↔x∈l:=(sortI_perm l).mem_iff
theorem oz (es:List Er):∀ (bs ps r:List (List Int)),pA es bs ps r→r.length=ps.length∧r.flatten.Perm (bs.flatten++ps.flatten)∧(∀ row∈r,row∈ps∨(jZ es row=true∧row.Pairwise (·≤·)))∧(∀ b∈bs,∃ row∈r,∀ x∈b,x∈row)∧(∀ p∈ps,∃ row∈r,∀ x∈p,x∈row)
  | [],ps,r,h=>by
    cases h
    exact ⟨rfl,.refl _,fun row hr=>.inl hr,fun b hb=>(List.not_mem_nil hb).elim,fun p hp=>⟨p,hp,fun x hx=>hx⟩⟩
  | b::bs,ps,r,⟨A,p,B,e,hf,hd⟩=>by
    subst e
    obtain ⟨h1,h2,h3,h4,h5⟩:=oz es bs _ r hd
    refine ⟨?_,?_,?_,?_,?_⟩
    · rw [h1]; simp
    · refine h2.trans ?_
      rw [List.flatten_append,List.flatten_cons,List.flatten_append,List.flatten_cons,List.flatten_cons]
      have hs:=sortI_perm (p++b)
      have g1:(sortI (p++b)++B.flatten).Perm ((p++b)++B.flatten):=List.Perm.append_right _ hs
      refine (List.Perm.append_left _ (List.Perm.append_left _ g1)).trans ?_
      -- bs++(A++((p++b)++B)) ~ (b++bs)++(A++(p++B))
      have g2:((p++b)++B.flatten).Perm (b++(p++B.flatten)):=by
        rw [← List.append_assoc]; exact List.Perm.append_right _ List.perm_append_comm
      refine (List.Perm.append_left _ (List.Perm.append_left _ g2)).trans ?_
      have g3:(A.flatten++(b++(p++B.flatten))).Perm (b++(A.flatten++(p++B.flatten))):=Dg _ _ _
      refine (List.Perm.append_left _ g3).trans ?_
      rw [← List.append_assoc]
      exact List.Perm.append_right _ List.perm_append_comm
    · intro row hrow
      rcases h3 row hrow with z | z
      · rcases List.mem_append.mp z with w | w
        · exact .inl (List.mem_append_left _ w)
        · rcases List.mem_cons.mp w with w | w
          · rw [w]; exact .inr ⟨hf,eW _⟩
          · exact .inl (List.mem_append_right _ (List.mem_cons_of_mem _ w))
      · exact .inr z
    · intro c hc
      rcases List.mem_cons.mp hc with rfl | hc
      · obtain ⟨row,hr,hx⟩:=h5 (sortI (p++c)) (by simp)
        exact ⟨row,hr,fun x hxc=>hx x (gB.mpr (List.mem_append_right _ hxc))⟩
      · exact h4 c hc
    · intro q hq
      rcases List.mem_append.mp hq with w | w
      · exact h5 q (List.mem_append_left _ w)
      · rcases List.mem_cons.mp w with w | w
        · rw [w]
          obtain ⟨row,hr,hx⟩:=h5 (sortI (p++b)) (by simp)
          exact ⟨row,hr,fun x hxc=>hx x (gB.mpr (List.mem_append_left _ hxc))⟩
        · exact h5 q (List.mem_append_right _ (List.mem_cons_of_mem _ w))
noncomputable def tryD (es:List Er) (b:List Int) (rec:List (List Int)→Option (List (List Int))):List (List Int)→List (List Int)→Option (List (List Int))
  | _,[]=>none
  | A,p::B=>match (if jZ es (sortI (p++b)) then rec (A++sortI (p++b)::B) else none) with
    | some r=>some r
    | none=>if p=[] then none else tryD es b rec (A++[p]) B
noncomputable def jR (es:List Er):Nat→List (List Int)→List (List Int)→Option (List (List Int))
  | _,[],ps=>some ps
  | 0,_::_,_=>none
  | n + 1,b::bs,ps=>tryD es b (jR es n bs) [] ps
theorem rK {es:List Er} {b:List Int} {rec:List (List Int)→Option (List (List Int))} {r:List (List Int)}:∀ (B A:List (List Int)),tryD es b rec A B=some r→∃ A' p B',A++B=A'++p::B'∧jZ es (sortI (p++b))=true∧rec (A'++sortI (p++b)::B')=some r
  | [],A,h=>by cases h
  | p::B,A,h=>by
    unfold tryD at h
    split at h
    · rename_i r' hr
      cases h
      split at hr
      · rename_i hf
        exact ⟨A,p,B,rfl,hf,hr⟩
      · cases hr
    · split at h
      · cases h
      · obtain ⟨A',q,B',e,h2⟩:=rK B (A++[p]) h
        exact ⟨A',q,B',by rw [← e]; simp,h2⟩
theorem pF (es:List Er):∀ (n:Nat) (bs ps r:List (List Int)),jR es n bs ps=some r→pA es bs ps r
  | n,[],ps,r,h=>by
    cases n <;> (cases h; rfl)
  | 0,b::bs,ps,r,h=>by cases h
  | n + 1,b::bs,ps,r,h=>by
    obtain ⟨A,p,B,e,hf,hr⟩:=rK ps [] h
    exact ⟨A,p,B,by simpa using e,hf,pF es n bs _ r hr⟩
noncomputable def my (ps:List (List Int)):Prop:=∀ A B,ps=A++[]::B→∀ q∈B,q=[]
theorem rd {es:List Er} {b:List Int} {rec:List (List Int)→Option (List (List Int))}:∀ (B A:List (List Int)),(∀ a∈A,a≠[])→tryD es b rec A B=none→∀ A' p B',B=A'++p::B'→jZ es (sortI (p++b))=true→(rec (A++A'++sortI (p++b)::B')=none∧∀ a∈A',a≠[])∨∃ A1 B1,B=A1++[]::B1∧p∈B1∧(∀ a∈A1,a≠[])∧(jZ es (sortI ([]++b))=true→rec (A++A1++sortI ([]++b)::B1)=none)
  | [],A,hA,h,A',p,B',e,_=>by simp at e
  | q::B,A,hA,h,A',p,B',e,hf=>by
    unfold tryD at h
    split at h
    · cases h
    · rename_i hn
      have hq:jZ es (sortI (q++b))=true→rec (A++sortI (q++b)::B)=none:=fun z=>by rw [if_pos z] at hn; exact hn
      cases A' with
      | nil =>
        cases e
        exact .inl ⟨by rw [List.append_nil]; exact hq hf,fun a ha=>(List.not_mem_nil ha).elim⟩
      | cons a A' =>
        cases e
        split at h
        · rename_i z
          subst z
          exact .inr ⟨[],_,rfl,by simp,fun a ha=>(List.not_mem_nil ha).elim,fun w=>by rw [List.append_nil]; exact hq w⟩
        · rename_i z
          rcases rd (A'++p::B') (A++[q]) (fun a ha=>by
              rcases List.mem_append.mp ha with w | w
              · exact hA a w
              · cases List.mem_singleton.mp w; exact z) h A' p B' rfl hf with ⟨h1,h2⟩ | ⟨A1,B1,h1,hp1,h2,h3⟩
          · refine .inl ⟨by rw [← h1]; simp,fun a ha=>?_⟩
            rcases List.mem_cons.mp ha with rfl | ha
            · exact z
            · exact h2 a ha
          · refine .inr ⟨q::A1,B1,by show q::(A'++p::B')=_; rw [h1]; rfl,hp1,fun a ha=>?_,fun w=>by rw [← h3 w]; simp⟩
            rcases List.mem_cons.mp ha with rfl | ha
            · exact z
            · exact h2 a ha
theorem AH {l:List Int} (h:l≠[]):sortI l≠[]:=fun e=>by
  have:=(sortI_perm l).length_eq
  rw [e] at this
  exact h (List.eq_nil_of_length_eq_zero this.symm)
theorem my.put {A B:List (List Int)} {p g:List Int} (h:my (A++p::B)) (hA:∀ a∈A,a≠[]) (hg:g≠[]):my (A++g::B):=fun X Y e=>by
  rcases List.append_eq_append_iff.mp e with ⟨Z,h1,h2⟩ | ⟨Z,h1,h2⟩
  · cases Z with
    | nil=>rw [List.nil_append] at h2; cases h2; exact absurd rfl hg
    | cons z Z =>
      cases h2
      exact h (A++p::Z) Y (by simp)
  · cases Z with
    | nil=>rw [List.nil_append] at h2; cases h2; exact absurd rfl hg
    | cons z Z =>
      cases h2
      exact absurd rfl (hA [] (by rw [h1]; simp))
theorem mS (es:List Er):∀ (n:Nat) (bs ps:List (List Int)),bs.length≤n→(∀ b∈bs,b≠[])→my ps→jR es n bs ps=none→∀ r,¬ pA es bs ps r
  | n,[],ps,_,_,_,h,r=>by cases n <;> cases h
  | 0,b::bs,ps,hl,_,_,_,r=>by simp at hl
  | n + 1,b::bs,ps,hl,hb,hp,h,r=>by
    rintro ⟨A,p,B,e,hf,hd⟩
    have hbn:=hb b List.mem_cons_self
    have hl':bs.length≤n:=by simpa using hl
    have hb':∀ c∈bs,c≠[]:=fun c hc=>hb c (List.mem_cons_of_mem _ hc)
    have gne:∀ q:List Int,sortI (q++b)≠[]:=fun q=>AH fun z=>hbn (List.append_eq_nil_iff.mp z).2
    rcases rd ps [] (fun a ha=>(List.not_mem_nil ha).elim) h A p B e hf with ⟨h1,h2⟩ | ⟨A1,B1,h1,hpm,h2,h3⟩
    · rw [List.nil_append] at h1
      exact mS es n bs _ hl' hb' ((e ▸ hp:my (A++p::B)).put h2 (gne p)) h1 r hd
    · have hp1:my (A1++[]::B1):=h1 ▸ hp
      have z:=hp1 A1 B1 rfl p hpm
      subst z
      have hperm:(A++B).Perm (A1++B1):=by
        have:(A++[]::B).Perm (A1++[]::B1):=by rw [← e,← h1]
        exact ((List.perm_middle.symm.trans this).trans List.perm_middle).cons_inv
      have h4:(A++sortI ([]++b)::B).Perm (A1++sortI ([]++b)::B1):=(List.perm_middle.trans (hperm.cons _)).trans List.perm_middle.symm
      obtain ⟨r',hr'⟩:=o4 es bs _ _ r h4 hd
      have h5:=h3 hf
      rw [List.nil_append] at h5
      exact mS es n bs _ hl' hb' (hp1.put h2 (gne [])) h5 r' hr'
noncomputable def lW (es:List Er) (h:Nat):Option (List (List Int)):=jR es 6 (bdN es es.length) (List.replicate h [])
theorem my.empty (h:Nat):my (List.replicate h []):=fun A B e q hq=>by
  have:q∈List.replicate h ([]:List Int):=by rw [e]; simp [hq]
  exact (List.mem_replicate.mp this).2
theorem jo (h:Nat):(List.replicate h ([]:List Int)).flatten=[]:=by
  induction h with
  | zero=>rfl
  | succ h ih=>rw [List.replicate_succ,List.flatten_cons,ih]; rfl
theorem vY {es:List Er} {k:Nat} {bs:List (List Int)} (h:Bd es k bs):bs.length≤k:=by
  have h1:=h.pm.length_eq
  rw [b0] at h1
  have:∀ bs:List (List Int),(∀ b∈bs,b≠[])→bs.length≤bs.flatten.length:=fun bs=>by
    induction bs with
    | nil=>intro _; exact Nat.le_refl _
    | cons b r ih =>
      intro hb
      have:=ih fun c hc=>hb c (List.mem_cons_of_mem _ hc)
      have h2:0 < b.length:=List.length_pos_iff.mpr (hb b List.mem_cons_self)
      rw [List.length_cons,List.flatten_cons,List.length_append]; omega
  have:=this bs h.ne
  omega
theorem yV {es:List Er} {h:Nat} (hok:∀ e∈es,e.Ok) {r:List (List Int)} (e:lW es h=some r):∃ f:Nat→Nat,(∀ i < es.length,f i < h)∧jN es (fA es.length h f)∧fA es.length h f=r:=by
  have hB:=pY es es.length
  have hd:=pF es _ _ _ _ e
  obtain ⟨h1,h2,h3,h4,h5⟩:=oz es _ _ _ hd
  rw [jo,List.append_nil] at h2
  have hpm:=h2.trans hB.pm
  rw [List.length_replicate] at h1
  have nd:r.flatten.Nodup:=hpm.nodup_iff.mpr (d6 _)
  obtain ⟨ndr,dis⟩:=List.pairwise_flatten.mp nd
  have hin:∀ row∈r,∀ x∈row,0≤x∧x < es.length:=fun row hr x hx=>br.mp (hpm.mem_iff.mp (List.mem_flatten.mpr ⟨row,hr,hx⟩))
  have hsort:∀ row∈r,row.Pairwise (·≤·):=fun row hr=>by
    rcases h3 row hr with z | z
    · rw [(List.mem_replicate.mp z).2]; exact List.Pairwise.nil
    · exact z.2
  have one:∀ (i j:Nat) (x:Int) (hi:i < r.length) (hj:j < r.length),x∈r[i]→x∈r[j]→i=j:=fun i j x hi hj xi xj=>by
    rcases Nat.lt_trichotomy i j with z | z | z
    · exact absurd rfl (List.pairwise_iff_getElem.mp dis i j hi hj z x xi x xj)
    · exact z
    · exact absurd rfl (List.pairwise_iff_getElem.mp dis j i hj hi z x xj x xi)
  let f:Nat→Nat:=fun i=>r.findIdx fun row=>decide ((i:Int)∈row)
  have hfi:∀ i < es.length,∃ hl:f i < r.length,(i:Int)∈r[f i]:=fun i hi=>by
    have hm:(i:Int)∈r.flatten:=hpm.mem_iff.mpr (br.mpr ⟨by omega,by omega⟩)
    obtain ⟨row,hr,hx⟩:=List.mem_flatten.mp hm
    have hl:f i < r.length:=List.findIdx_lt_length_of_exists ⟨row,hr,decide_eq_true hx⟩
    have:=List.findIdx_getElem (p:=fun row=>decide ((i:Int)∈row)) (xs:=r) (w:=hl)
    exact ⟨hl,of_decide_eq_true this⟩
  have hrows:fA es.length h f=r:=by
    apply List.ext_getElem?
    intro i
    rcases Nat.lt_or_ge i h with hih | hih
    case inr =>
      rw [List.getElem?_eq_none (by unfold fA; rw [List.length_map,List.length_range]; exact hih),List.getElem?_eq_none (by omega)]
    case inl =>
      have hi2:i < r.length:=by omega
      have e1:(fA es.length h f)[i]?=some ((a5 es.length).filter fun x=>decide (f x.toNat=i)):=by
        unfold fA; rw [List.getElem?_map,List.getElem?_range hih]; rfl
      rw [e1,List.getElem?_eq_getElem hi2]
      congr 1
      refine gD ?_ ?_ (hsort _ (List.getElem_mem hi2))
      · refine (List.perm_ext_iff_of_nodup ((d6 _).filter _) (ndr _ (List.getElem_mem hi2))).mpr fun x=>?_
        rw [List.mem_filter,br]
        constructor
        · rintro ⟨hx,hf⟩
          have hf':=of_decide_eq_true hf
          obtain ⟨hl,hm⟩:=hfi x.toNat (by omega)
          have e1:((x.toNat:Nat):Int)=x:=by omega
          rw [e1] at hm
          simp only [hf'] at hm
          exact hm
        · intro hx
          have hxr:=hin _ (List.getElem_mem hi2) x hx
          refine ⟨hxr,decide_eq_true ?_⟩
          obtain ⟨hl,hm⟩:=hfi x.toNat (by omega)
          have e1:((x.toNat:Nat):Int)=x:=by omega
          rw [e1] at hm
          exact one _ _ x hl hi2 hm hx
      · refine List.Pairwise.filter _ ?_
        unfold a5
        exact List.Pairwise.map _ (fun a b h=>by omega) (List.pairwise_lt_range (n:=es.length))
  refine ⟨f,fun i hi=>by obtain ⟨hl,_⟩:=hfi i hi; omega,?_,hrows⟩
  rw [hrows]
  intro row hrow
  refine ⟨fun hne=>?_,fun m m0 m1 hm n hn=>?_⟩
  · rcases h3 row hrow with z | z
    · exact absurd (List.mem_replicate.mp z).2 hne
    · exact (vB hok (hin row hrow)).mp z.1
  · have hnr:=hin row hrow n hn
    refine v7 (hok _ (bW hnr.1 hnr.2)).sh ?_
    cases q:dF (az es n) (az es m) with
    | false=>rfl
    | true =>
      exfalso
      obtain ⟨b,hb,hnb,hmb⟩:=hB.sep n m hnr.1 hnr.2 m0 m1 q
      obtain ⟨row',hr',hx'⟩:=h4 b hb
      obtain ⟨i,hi,rfl⟩:=List.getElem_of_mem hrow
      obtain ⟨j,hj,rfl⟩:=List.getElem_of_mem hr'
      have:=one i j n hi hj hn (hx' n hnb)
      subst this
      exact hm (hx' m hmb)
theorem uI {es:List Er} {h:Nat} {f:Nat→Nat} (hok:∀ e∈es,e.Ok) (hd:jN es (fA es.length h f)):∀ (bs ps:List (List Int)),ps.length=h→(∀ b∈bs,b≠[]∧∃ hand < h,∀ x∈b,(0≤x∧x < es.length)∧f x.toNat=hand)→(∀ i (hi:i < ps.length),∀ x∈ps[i],(0≤x∧x < es.length)∧f x.toNat=i)→(bs.flatten++ps.flatten).Nodup→∃ r,pA es bs ps r
  | [],ps,_,_,_,_=>⟨ps,rfl⟩
  | b::bs,ps,hl,hb,hp,nd=>by
    obtain ⟨hbn,hand,hh,hx⟩:=hb b List.mem_cons_self
    have hi:hand < ps.length:=by omega
    have hsp:ps=ps.take hand++ps[hand]::ps.drop (hand + 1):=by rw [List.getElem_cons_drop,List.take_append_drop]
    have hpe:=hp hand hi
    generalize hP:ps[hand]=p at *
    generalize hA:ps.take hand=A at *
    generalize hB:ps.drop (hand + 1)=B at *
    have hAl:A.length=hand:=by rw [← hA,List.length_take]; omega
    have hflat:ps.flatten=A.flatten++(p++B.flatten):=by rw [hsp,List.flatten_append,List.flatten_cons]
    have hin:∀ x∈p++b,(0≤x∧x < es.length)∧f x.toNat=hand:=fun x hx'=>by
      rcases List.mem_append.mp hx' with z | z
      · exact hpe x z
      · exact hx x z
    have ndpb:(p++b).Nodup:=by
      rw [List.flatten_cons,hflat] at nd
      have h1:=List.nodup_append.mp nd
      have h2:=List.nodup_append.mp h1.1
      have h3:=List.nodup_append.mp h1.2.1
      have h4:=List.nodup_append.mp h3.2.1
      refine List.nodup_append.mpr ⟨h4.1,h2.1,fun x xp y yb e=>?_⟩
      subst e
      exact h1.2.2 x (List.mem_append_left _ yb) x (List.mem_append_right _ (List.mem_append_left _ xp)) rfl
    have hsin:∀ x∈sortI (p++b),0≤x∧x < es.length:=fun x hx'=>(hin x (gB.mp hx')).1
    have hrow:(a5 es.length).filter (fun x=>decide (f x.toNat=hand))∈fA es.length h f:=List.mem_map.mpr ⟨hand,List.mem_range.mpr hh,rfl⟩
    have hmem:∀ x∈sortI (p++b),x∈(a5 es.length).filter (fun x=>decide (f x.toNat=hand)):=fun x hx'=>by
      have:=hin x (gB.mp hx')
      exact List.mem_filter.mpr ⟨br.mpr this.1,decide_eq_true this.2⟩
    have hfit:jZ es (sortI (p++b))=true:=by
      rw [vB hok hsin]
      have hne:(a5 es.length).filter (fun x=>decide (f x.toNat=hand))≠[]:=fun e=>by
        obtain ⟨x,hxb⟩:=List.exists_mem_of_ne_nil _ hbn
        have:=hmem x (gB.mpr (List.mem_append_right _ hxb))
        rw [e] at this; cases this
      exact zz hok (fun x hx'=>br.mp (List.mem_filter.mp hx').1) ((d6 _).filter _) ((sortI_perm _).nodup_iff.mpr ndpb) hmem ((hd _ hrow).1 hne)
    have hperm:(bs.flatten++(A++sortI (p++b)::B).flatten).Perm ((b::bs).flatten++ps.flatten):=by
      rw [hflat,List.flatten_append,List.flatten_cons,List.flatten_cons]
      have g1:(sortI (p++b)++B.flatten).Perm ((p++b)++B.flatten):=List.Perm.append_right _ (sortI_perm _)
      refine (List.Perm.append_left _ (List.Perm.append_left _ g1)).trans ?_
      have g2:((p++b)++B.flatten).Perm (b++(p++B.flatten)):=by
        rw [← List.append_assoc]; exact List.Perm.append_right _ List.perm_append_comm
      refine (List.Perm.append_left _ (List.Perm.append_left _ g2)).trans ?_
      have g3:(A.flatten++(b++(p++B.flatten))).Perm (b++(A.flatten++(p++B.flatten))):=Dg _ _ _
      refine (List.Perm.append_left _ g3).trans ?_
      rw [← List.append_assoc]
      exact List.Perm.append_right _ List.perm_append_comm
    obtain ⟨r,hr⟩:=uI hok hd bs (A++sortI (p++b)::B) (by rw [← hl,hsp]; simp) (fun c hc=>hb c (List.mem_cons_of_mem _ hc)) (fun i hi' x hx'=>by
      by_cases z:i=hand
      · subst z
        rw [List.getElem_append_right (by omega)] at hx'
        simp only [hAl,Nat.sub_self,List.getElem_cons_zero] at hx'
        exact hin x (gB.mp hx')
      · have hi2:i < ps.length:=by rw [hsp]; simpa using hi'
        have e:(A++sortI (p++b)::B)[i]=ps[i]:=by
          simp only [hsp]
          rcases Nat.lt_or_ge i A.length with w | w
          · rw [List.getElem_append_left w,List.getElem_append_left w]
          · rw [List.getElem_append_right w,List.getElem_append_right w]
            obtain ⟨j,hj⟩:∃ j,i - A.length=j + 1:=⟨i - A.length - 1,by omega⟩
            simp only [hj,List.getElem_cons_succ]
        rw [e] at hx'
        exact hp i hi2 x hx') (hperm.nodup_iff.mpr nd)
    exact ⟨r,A,p,B,hsp,hfit,hr⟩
theorem zu {es:List Er} {h:Nat} (l6:es.length≤6) (hok:∀ e∈es,e.Ok) (e:lW es h=none):∀ f:Nat→Nat,(∀ i < es.length,f i < h)→¬ jN es (fA es.length h f):=fun f hf hd=>by
  have hB:=pY es es.length
  have hno:=mS es _ _ _ (Nat.le_trans (vY hB) l6) hB.ne (my.empty h) e
  have hcon:=hB.con (fun x=>f x.toNat) fun x y x0 x1 y0 y1 hs=>by
    by_cases z:f x.toNat=f y.toNat
    · exact z
    · exfalso
      have hrow:(a5 es.length).filter (fun w=>decide (f w.toNat=f x.toNat))∈fA es.length h f:=List.mem_map.mpr ⟨f x.toNat,List.mem_range.mpr (hf _ (by omega)),rfl⟩
      have:=(hd _ hrow).2 y y0 y1 (fun w=>z (of_decide_eq_true (List.mem_filter.mp w).2).symm) x (List.mem_filter.mpr ⟨br.mpr ⟨x0,x1⟩,decide_eq_true rfl⟩)
      rw [vX (hok _ (bW x0 x1)).sh this] at hs
      cases hs
  obtain ⟨r,hr⟩:=uI hok hd (bdN es es.length) (List.replicate h []) (List.length_replicate) (fun b hb=>by
      have hne:=hB.ne b hb
      obtain ⟨y,hy⟩:=List.exists_mem_of_ne_nil _ hne
      have hyr:=hB.in_ hb hy
      refine ⟨hne,f y.toNat,hf _ (by omega),fun x hx=>⟨hB.in_ hb hx,hcon b hb x hx y hy⟩⟩) (fun i hi x hx=>by
      rw [List.getElem_replicate] at hx; cases hx) (by rw [jo,List.append_nil]; exact hB.pm.nodup_iff.mpr (d6 _))
  exact hno r hr
end RS
set_option maxRecDepth 100000
set_option maxHeartbeats 1000000
namespace RS
open PySem L2
theorem any_bools (l:List Bool):uy [.list (l.map PyData.bool)]=some (.bool (l.any id)):=by
  show (gA _).map _=_
  rw [l5]; rfl
noncomputable def bq:Gf
  | [a,b]=>if sT a && sT b then .ok (.bool (dF (deE a) (deE b))) else .no
  | _=>.no
theorem og {a b:Er} (ha:a.Sh) (hb:b.Sh):bq [a.d,b.d]=.ok (.bool (dF a b)):=by
  unfold bq; simp only [mO ha,mO hb,Bool.and_self,if_true,xB]
theorem qz (cs:Cs):∀ ds,ds.length=2→bq ds≠.no→bf (eI cs a6 (ds.map some++List.replicate 0 none))=bq ds:=by
  intro ds hl hne
  obtain ⟨x,y,ez,hz⟩:=vZ hne
  clear hne; subst ez; have hne:=hz; clear hz
  · skip
    split at hne
    · rename_i hc
      rw [Bool.and_eq_true] at hc
      obtain ⟨e1,ha⟩:=rp hc.1
      obtain ⟨e2,hb⟩:=rp hc.2
      rw [← e1,← e2]
      generalize deE x=a at *
      generalize deE y=b at *
      rw [og ha hb]
      have hrg:=gN (j:=4) (by decide) (by decide)
      have e4:b7 0 (4:Int).toNat=(a5 4).map PyData.int:=kA 4
      rw [e4] at hrg
      have src:cZ (ae (gC (.int 4)) ao) [some a.d,some b.d]=.ok ((a5 4).map PyData.int):=by
        rw [gI,aC,d4,Rs.ai,aO,Rs.ai,Rs.ai,hrg]
      have hcm:bx 2 (cZ (ae (gC (.int 4)) ao)) bL (tq (aF a6 (ae (ag 0) (ae (ag 2) ao))) (aF a6 (ae (ag 1) (ae (ag 2) ao)))) bj [some a.d,some b.d]=.ok (((a5 4).map PyData.int).map fun d=>.bool (a.has (deI d) && b.has (deI d))) :=
        cU rfl src (by rw [List.length_map,b0]; decide) fun d hd=>by
          obtain ⟨t,_,rfl⟩:=List.mem_map.mp hd
          have h1:=fM (t:=t) ha
          have h2:=fM (t:=t) hb
          show _=Rs.ok (PyData.bool (a.has t && b.has t))
          simp only [List.cons_append,List.nil_append,DH,a9,aC,aO,ar,aw,Rs.ai,h1,h2,bA]
          cases a.has t <;> rfl
      have em:(((a5 4).map PyData.int).map fun d=>PyData.bool (a.has (deI d) && b.has (deI d)))=((a5 4).map fun t=>a.has t && b.has t).map PyData.bool:=by
        rw [List.map_map,List.map_map]; exact List.map_congr_left fun t _=>rfl
      rw [em] at hcm
      have hf:=any_bools ((a5 4).map fun t=>a.has t && b.has t)
      rw [List.any_map] at hf
      show bf (eI cs a6 [some a.d,some b.d])=_
      simp only [eI,cx,g6,aC,aO,jx,hcm,Rs.ai,hf,Rs.ak,ay,cf]
      rfl
    · exact absurd rfl hne
noncomputable abbrev wA:Ds→Rs Bool:=gT (gF uy (ae (gL (bx 7 (cm (ag 6)) bL (aF bq (ae (ag 3) (ae (g2 dIx (ag 0) (ag 7)) ao))) bj)) ao))
noncomputable abbrev zw:Ds→Sr:=sIf wA (bw [5] 4 (g2 bz (ag 6) (ag 4))) (iT [5] 5 (ag 6))
theorem CJ {es:List Er} (hsh:∀ e∈es,e.Sh) {i:Int} (i0:0≤i) (i1:i < es.length) {b:List Int} (hb:∀ x∈b,0≤x∧x < es.length) (hl:b.length≤1000) (x1 x2 x4 x5:Option PyData):wA [some (av es),x1,x2,some (az es i).d,x4,x5,some (aS b)]=.ok (bdT es i b):=by
  have hcm:bx 7 (cm (ag 6)) bL (aF bq (ae (ag 3) (ae (g2 dIx (ag 0) (ag 7)) ao))) bj [some (av es),x1,x2,some (az es i).d,x4,x5,some (aS b)]=.ok ((b.map PyData.int).map fun d=>.bool (dF (az es i) (az es (deI d)))) :=
    cU rfl rfl (by rw [List.length_map]; omega) fun d hd=>by
      obtain ⟨o,ho,rfl⟩:=List.mem_map.mp hd
      have hor:=hb o ho
      have a3:dIx (av es) (.int o)=some (az es o).d:=fU hor.1 hor.2
      have hg:=og (hsh _ (bW i0 i1)) (hsh _ (bW hor.1 hor.2))
      show _=Rs.ok (PyData.bool (dF (az es i) (az es o)))
      simp only [List.cons_append,List.nil_append,a9,aC,aO,cq,ar,aw,Rs.ai,a3,Rs.ak,hg]
  have em:((b.map PyData.int).map fun d=>PyData.bool (dF (az es i) (az es (deI d))))=(b.map fun o=>dF (az es i) (az es o)).map PyData.bool:=by
    rw [List.map_map,List.map_map]; exact List.map_congr_left fun t _=>rfl
  rw [em] at hcm
  have hf:=any_bools (b.map fun o=>dF (az es i) (az es o))
  rw [List.any_map] at hf
  simp only [wA,eu,g6,aC,aO,jx,hcm,Rs.ai,hf,Rs.ak,bA]
  rfl
theorem p7 {es:List Er} (hsh:∀ e∈es,e.Sh) {i:Int} (i0:0≤i) (i1:i < es.length) (x1 x2:Option PyData):∀ (bs:List (List Int)) (j:List Int) (ap:List (List Int)) (x6:Option PyData),(∀ b∈bs,∀ x∈b,0≤x∧x < es.length)→bs.flatten.length + j.length≤100→ap.length + bs.length≤100 →
    ∃ y6,forL (bK 6) zw (bs.map aS) [some (av es),x1,x2,some (az es i).d,some (aS j),some (aq ap),x6]=.nx [some (av es),x1,x2,some (az es i).d,some (aS (bdJ es i bs j)),some (aq (ap++bdA es i bs)),y6]
  | [],j,ap,x6,_,_,_=>⟨x6,by simp [forL,bdJ,bdA]⟩
  | b::r,j,ap,x6,hb,hl,ha=>by
    have hl':b.length + r.flatten.length + j.length≤100:=by rw [List.flatten_cons,List.length_append] at hl; exact hl
    have ha':ap.length + (r.length + 1)≤100:=ha
    have ht:=CJ hsh i0 i1 (hb b List.mem_cons_self) (by omega) x1 x2 (some (aS j)) (some (aq ap))
    have hts:bK 6 (aS b) [some (av es),x1,x2,some (az es i).d,some (aS j),some (aq ap),x6]=some [some (av es),x1,x2,some (az es i).d,some (aS j),some (aq ap),some (aS b)]:=rfl
    have hb':∀ c∈r,∀ x∈c,0≤x∧x < es.length:=fun c hc=>hb c (List.mem_cons_of_mem _ hc)
    rw [List.map_cons]
    unfold forL
    rw [hts]
    cases q:bdT es i b with
    | true =>
      rw [q] at ht
      obtain ⟨y6,e⟩:=p7 hsh i0 i1 x1 x2 r (b++j) ap (some (aS b)) hb' (by rw [List.length_append]; omega) (by omega)
      refine ⟨y6,?_⟩
      have a1:bz (aS b) (aS j)=some (aS (b++j)):=by
        unfold aS
        rw [vJ (by rw [List.length_map,List.length_map]; omega),List.map_append]
      have hbdy:zw [some (av es),x1,x2,some (az es i).d,some (aS j),some (aq ap),some (aS b)]=.nx [some (av es),x1,x2,some (az es i).d,some (aS (b++j)),some (aq ap),some (aS b)]:=by
        unfold zw
        rw [dz,ht,ay,if_pos rfl,ec,if_pos (by simp)]
        simp only [cq,aB (show 6 ∉ [5] by decide),aB (show 4 ∉ [5] by decide),ar,aw,Rs.ai,a1,Rs.ak,ay]
        rfl
      simp only [hbdy,e]
      have e1:bdJ es i (b::r) j=bdJ es i r (b++j):=by show bdJ es i r (if bdT es i b then _ else _)=_; rw [q]; rfl
      have e2:bdA es i (b::r)=bdA es i r:=by unfold bdA; rw [List.filter_cons_of_neg (by rw [q]; decide)]
      rw [e1,e2]
    | false =>
      rw [q] at ht
      obtain ⟨y6,e⟩:=p7 hsh i0 i1 x1 x2 r j (ap++[b]) (some (aS b)) hb' (by omega) (by rw [List.length_append,List.length_singleton]; omega)
      refine ⟨y6,?_⟩
      have hbdy:zw [some (av es),x1,x2,some (az es i).d,some (aS j),some (aq ap),some (aS b)]=.nx [some (av es),x1,x2,some (az es i).d,some (aS j),some (aq (ap++[b])),some (aS b)]:=by
        unfold zw
        rw [dz,ht,ay,if_neg (by decide)]
        unfold iT aq
        simp only [List.getElem?_cons_succ,List.getElem?_cons_zero,aB (show 6 ∉ [5] by decide),ar,aw,ay,List.length_map,List.map_append]
        rw [if_pos (by omega)]
        rfl
      simp only [hbdy,e]
      have e1:bdJ es i (b::r) j=bdJ es i r j:=by show bdJ es i r (if bdT es i b then _ else _)=_; rw [q]; rfl
      have e2:bdA es i (b::r)=b::bdA es i r:=by unfold bdA; rw [List.filter_cons_of_pos (by rw [q]; rfl)]
      rw [e1,e2,List.append_assoc]; rfl
noncomputable def cM:Gf
  | [d]=>if jW d then .ok (aq (bdN (cj d) (cj d).length)) else .no
  | _=>.no
theorem lE {es:List Er} (h1:1≤es.length) (h2:es.length≤6) (h:∀ e∈es,e.Wk):cM [av es]=.ok (aq (bdN es es.length)):=by
  unfold cM; simp only [gU h1 h2 h,if_true,dw]
theorem za (cs:Cs):∀ ds,ds.length=1→cM ds≠.no→bf (iY cs bq (ds.map some++List.replicate 6 none))=cM ds:=by
  intro ds hl hne
  obtain ⟨d,ez,hz⟩:=Aq hne
  clear hne; subst ez; have hne:=hz; clear hz
  · skip
    split at hne
    · rename_i hc
      obtain ⟨e1,l1,l6,hok⟩:=km hc
      rw [← e1]
      generalize cj d=es at *
      rw [lE l1 l6 hok]
      have hsh:∀ e∈es,e.Sh:=fun e he=>(hok e he).sh
      have s1:bw [5] 1 (dE ao) [some (av es),none,none,none,none,none,none]=.nx [some (av es),some (aq []),none,none,none,none,none]:=rfl
      have src:iG (ae (ag 0) ao) (mask [5] [some (av es),some (aq []),none,none,none,none,none])=.ok (gg (es.map Er.d)):=rfl
      obtain ⟨δ',e,x2,x3,x4,x5,x6,hδ⟩:=fo (β:=Unit) (tgt:=e8 [2,3]) (body:=bu (bw [5] 4 (dE (ae (ag 2) ao))) (bu (kD [5] 5 ao) (bu (gu [5] (cm (ag 1)) (bK 6) zw) (pw 5 (bw [] 1 (g2 bz (ag 5) (dE (ae (ag 4) ao))))))))
        (fun k δ=>∃ x2 x3 x4 x5 x6,δ=[some (av es),some (aq (bdN es k)),x2,x3,x4,x5,x6]) (gg (es.map Er.d)) 0 (fun k d δ hk pz4=>by
          obtain ⟨x2,x3,x4,x5,x6,hx⟩:=pz4
          subst hx
          rw [Nat.zero_add] at *
          unfold gg at hk
          rw [List.getElem?_mapIdx,List.getElem?_map] at hk
          have hkl:k < es.length:=by
            rcases Nat.lt_or_ge k es.length with z | z
            · exact z
            · rw [List.getElem?_eq_none z] at hk; cases hk
          rw [List.getElem?_eq_getElem hkl] at hk
          have hd:d=.tuple [.int (k:Int),(az es (k:Int)).d]:=by
            have:az es (k:Int)=es[k]:=by
              unfold az
              rw [Int.toNat_natCast,List.getD_eq_getElem?_getD,List.getElem?_eq_getElem hkl]; rfl
            rw [this]
            exact (Option.some.inj hk).symm
          subst hd
          have hB:=pY es k
          have hfl:=hB.pm.length_eq
          rw [b0] at hfl
          have hbl:=vY hB
          obtain ⟨y6,ein⟩:=p7 hsh (i:=(k:Int)) (by omega) (by omega) (some (aq (bdN es k))) (some (.int (k:Int))) (bdN es k) [(k:Int)] [] x6 (fun b hb x hx=>by have:=hB.in_ hb hx; omega) (by rw [List.length_singleton]; omega) (by rw [List.length_nil]; omega)
          rw [List.nil_append] at ein
          refine ⟨[some (av es),some (aq (bdN es k)),some (.int (k:Int)),some (az es (k:Int)).d,x4,x5,x6],[some (av es),some (aq (bdN es (k + 1))),some (.int (k:Int)),some (az es (k:Int)).d,some (aS (bdJ es (k:Int) (bdN es k) [(k:Int)])),none,y6],rfl,?_,_,_,_,_,_,rfl⟩
          have t1:bw [5] 4 (dE (ae (ag 2) ao)) [some (av es),some (aq (bdN es k)),some (.int (k:Int)),some (az es (k:Int)).d,x4,x5,x6]=.nx [some (av es),some (aq (bdN es k)),some (.int (k:Int)),some (az es (k:Int)).d,some (aS [(k:Int)]),x5,x6]:=rfl
          have t2:kD [5] 5 ao [some (av es),some (aq (bdN es k)),some (.int (k:Int)),some (az es (k:Int)).d,some (aS [(k:Int)]),x5,x6]=.nx [some (av es),some (aq (bdN es k)),some (.int (k:Int)),some (az es (k:Int)).d,some (aS [(k:Int)]),some (aq []),x6]:=rfl
          have src2:cm (ag 1) (mask [5] [some (av es),some (aq (bdN es k)),some (.int (k:Int)),some (az es (k:Int)).d,some (aS [(k:Int)]),some (aq []),x6])=.ok ((bdN es k).map aS):=rfl
          have hal:(bdA es (k:Int) (bdN es k)).length≤100:=by
            unfold bdA
            exact Nat.le_trans (List.length_filter_le _ _) (by omega)
          have a1:bz (aq (bdA es (k:Int) (bdN es k))) (.list [aS (bdJ es (k:Int) (bdN es k) [(k:Int)])])=some (aq (bdN es (k + 1))):=by
            rw [ui]
            unfold aq nA
            rw [vJ (by rw [List.length_map]; show _ + 1≤1000000; omega),List.map_append]
            rfl
          have t4:pw 5 (bw [] 1 (g2 bz (ag 5) (dE (ae (ag 4) ao)))) [some (av es),some (aq (bdN es k)),some (.int (k:Int)),some (az es (k:Int)).d,some (aS (bdJ es (k:Int) (bdN es k) [(k:Int)])),some (aq (bdA es (k:Int) (bdN es k))),y6]=.nx [some (av es),some (aq (bdN es (k + 1))),some (.int (k:Int)),some (az es (k:Int)).d,some (aS (bdJ es (k:Int) (bdN es k) [(k:Int)])),none,y6]:=by
            have hs:bw [] 1 (g2 bz (ag 5) (dE (ae (ag 4) ao))) [some (av es),some (aq (bdN es k)),some (.int (k:Int)),some (az es (k:Int)).d,some (aS (bdJ es (k:Int) (bdN es k) [(k:Int)])),some (aq (bdA es (k:Int) (bdN es k))),y6]=.nx [some (av es),some (aq (bdN es (k + 1))),some (.int (k:Int)),some (az es (k:Int)).d,some (aS (bdJ es (k:Int) (bdN es k) [(k:Int)])),some (aq (bdA es (k:Int) (bdN es k))),y6]:=by
              rw [ej,if_pos (by simp)]
              simp only [cq,g0,aC,aO,ar,aw,Rs.ai,a1,Rs.ak,ay]
              rfl
            unfold pw
            simp only [List.getElem?_cons_succ,List.getElem?_cons_zero,hs]
            unfold aq
            rfl
          rw [aV,t1]; simp only
          rw [aV,t2]; simp only
          rw [aV,dR,src2,ay,ein]; simp only
          rw [t4]) [some (av es),some (aq []),none,none,none,none,none] ⟨none,none,none,none,none,rfl⟩
      have hln:0 + (gg (es.map Er.d)).length=es.length:=by unfold gg; rw [List.length_mapIdx,List.length_map]; omega
      rw [hln] at hδ
      show bf (iY cs bq [some (av es),none,none,none,none,none,none])=_
      simp only [iY]
      rw [aV,s1]; simp only
      rw [aV,dR,src,ay]
      have e':forL (e8 [2,3]) (bu (bw [5] 4 (dE (ae (ag 2) ao))) (bu (kD [5] 5 ao) (bu (gu [5] (cm (ag 1)) (bK 6) (sIf (gT (gF uy (ae (gL (bx 7 (cm (ag 6)) bL (aF bq (ae (ag 3) (ae (g2 dIx (ag 0) (ag 7)) ao))) bj)) ao))) (bw [5] 4 (g2 bz (ag 6) (ag 4))) (iT [5] 5 (ag 6)))) (pw 5 (bw [] 1 (g2 bz (ag 5) (dE (ae (ag 4) ao)))))))) (gg (es.map Er.d)) [some (av es),some (aq []),none,none,none,none,none]=_:=e
      rw [e',hδ]
      rfl
    · exact absurd rfl hne
end RS
set_option maxRecDepth 100000
set_option maxHeartbeats 1000000
namespace RS
open PySem L2
theorem wC {α:Type} (A:List α) (p:α) (R:List α):(A++p::R).drop (A.length + 1)=R:=by rw [List.drop_append]; simp
noncomputable def inR (n:Nat) (row:List Int):Bool:=row.all fun x=>decide (0≤x) && decide (x < (n:Int))
theorem tU {n:Nat} {row:List Int}:inR n row=true↔∀ x∈row,0≤x∧x < n:=by
  unfold inR
  simp only [List.all_eq_true,Bool.and_eq_true,decide_eq_true_eq]
theorem DI {es:List Er} (hok:∀ e∈es,e.Wk) {row:List Int} (hr:∀ x∈row,0≤x∧x < es.length):∀ e∈sub es row,e.Wk:=fun e he=>by
  obtain ⟨m,hm,rfl⟩:=List.mem_map.mp he
  have:=hr m hm
  exact hok _ (bW this.1 this.2)
noncomputable def bg:Gf
  | [d,.list xs]=>(match fg xs with
    | some row=>if jW d && inR (cj d).length row && decide (1≤row.length) && decide (row.length≤6) then .ok (.bool (jZ (cj d) row)) else .no
    | none=>.no)
  | _=>.no
theorem ix {es:List Er} {row:List Int} (h1:1≤es.length) (h2:es.length≤6) (h:∀ e∈es,e.Wk) (hr:∀ x∈row,0≤x∧x < es.length) (r1:1≤row.length) (r2:row.length≤6):bg [av es,aS row]=.ok (.bool (jZ es row)):=by
  unfold aS bg
  simp only [b4,gU h1 h2 h,dw,tU.mpr hr,decide_eq_true r1,decide_eq_true r2,Bool.and_self,if_true]
theorem pP (cs:Cs):∀ ds,ds.length=2→bg ds≠.no→bf (eH cs aE (ds.map some++List.replicate 0 none))=bg ds:=by
  intro ds hl hne
  obtain ⟨d,xs,ez,hz⟩:=Af hne
  clear hne; subst ez; have hne:=hz; clear hz
  · skip
    split at hne
    · rename_i row hx
      split at hne
      · rename_i hc
        simp only [Bool.and_eq_true,decide_eq_true_eq] at hc
        obtain ⟨⟨⟨c1,c2⟩,r1⟩,r2⟩:=hc
        have hx':=cQ hx
        subst hx'
        obtain ⟨e1,l1,l6,hok⟩:=km c1
        rw [← e1]
        generalize cj d=es at *
        have hr:=tU.mp c2
        have hgg:=ix l1 l6 hok hr r1 r2
        unfold aS at hgg
        rw [hgg]
        have hcm:bx 2 (cm (ag 1)) bL (g2 dIx (ag 0) (ag 2)) bj [some (av es),some (.list (row.map PyData.int))]=.ok ((row.map PyData.int).map fun d=>(az es (deI d)).d) :=
          cU rfl rfl (by rw [List.length_map]; omega) fun x hx=>by
            obtain ⟨n,hn,rfl⟩:=List.mem_map.mp hx
            have hrg:=hr n hn
            have a3:dIx (av es) (.int n)=some (az es n).d:=fU hrg.1 hrg.2
            simp only [List.cons_append,List.nil_append,cq,ar,aw,Rs.ai,a3,Rs.ak]
            rfl
        have em:((row.map PyData.int).map fun d=>(az es (deI d)).d)=(sub es row).map Er.d:=by
          unfold sub
          rw [List.map_map,List.map_map]; exact List.map_congr_left fun n _=>rfl
        rw [em] at hcm
        have hsl:(sub es row).length=row.length:=by unfold sub; rw [List.length_map]
        have hg:=d8 (es:=sub es row) (m:=0) (by omega) (by omega) (DI hok hr)
        have hg':aE [.tuple ((sub es row).map Er.d),.int 0]=.ok (pC (rwR (sub es row) 0)):=hg
        show bf (eH cs aE [some (av es),some (.list (row.map PyData.int))])=_
        simp only [eH,cx,nP,a9,aC,aO,g6,jx,d4,hcm,Rs.ai,vS,Rs.ak,hg',sO,ay,cf]
        unfold jZ
        cases rwR (sub es row) 0 <;> rfl
      · exact absurd rfl hne
    · exact absurd rfl hne
noncomputable def j6:Option (List (List Int))→PyData
  | none=>.none
  | some r=>aq r
structure AN (n:Nat) (k:Nat) (bs ps:List (List Int)):Prop where
  bl:bs.length≤k
  bn:∀ b∈bs,b≠[]
  rg:∀ x∈bs.flatten++ps.flatten,0≤x∧x < n
  fl:bs.flatten.length + ps.flatten.length≤6
  pl:ps.length≤100
noncomputable def dzB (n k:Nat) (bs ps:List (List Int)):Bool:=decide (bs.length≤k) && bs.all (fun b=>decide (b≠[])) && inR n (bs.flatten++ps.flatten) && decide (bs.flatten.length + ps.flatten.length≤6) && decide (ps.length≤100)
theorem xR {n k:Nat} {bs ps:List (List Int)}:dzB n k bs ps=true↔AN n k bs ps:=by
  unfold dzB
  simp only [Bool.and_eq_true,decide_eq_true_eq,List.all_eq_true,tU]
  exact ⟨fun ⟨⟨⟨⟨a,b⟩,c⟩,d⟩,e⟩=>⟨a,b,c,d,e⟩,fun h=>⟨⟨⟨⟨h.bl,h.bn⟩,h.rg⟩,h.fl⟩,h.pl⟩⟩
noncomputable def aK (k:Nat):Gf
  | [d,.list xb,.list xp]=>(match rj xb,rj xp with
    | some bs,some ps=>if jW d && dzB (cj d).length k bs ps then .ok (j6 (jR (cj d) k bs ps)) else .no
    | _,_=>.no)
  | _=>.no
theorem gZ {es:List Er} {k:Nat} {bs ps:List (List Int)} (h1:1≤es.length) (h2:es.length≤6) (h:∀ e∈es,e.Wk) (hz:AN es.length k bs ps):aK k [av es,aq bs,aq ps]=.ok (j6 (jR es k bs ps)):=by
  unfold aq aK
  simp only [nI,gU h1 h2 h,dw,xR.mpr hz,Bool.and_self,if_true]
noncomputable def fi:Nat→Gf
  | 0=>fun _=>.no
  | k + 1=>aK k
noncomputable abbrev qC (gr:Gf):Ds→Sr:=bu (bw [] 5 (gF dW (ae (g2 bz (ag 4) (g2 dIx (ag 1) (gC (.int 0)))) ao)))
    (bu (sIf (gT (aF bg (ae (ag 0) (ae (ag 5) ao)))) (bu (bw [] 6 (aF gr (ae (ag 0) (ae (c5 (ag 1) (eZ (gC (.int 1))) cA) (ae (g2 bz (g2 bz (c5 (ag 2) cA (eZ (ag 3))) (dE (ae (ag 5) ao))) (c5 (ag 2) (eZ (g2 bz (ag 3) (gC (.int 1)))) cA)) ao)))))
    (sIf (gT (g1 e7 (ag 6))) (bQ (ag 6)) bM)) bM)
    (sIf (gT (g2 dEq (gF fc (ae (ag 4) ao)) (gC (.int 0)))) (bQ (gC .none)) bM))
theorem zI (E B P x3:PyData) (p:List Int) (x5 x6:Option PyData):sIf (gT (g2 dEq (gF fc (ae (ag 4) ao)) (gC (.int 0)))) (bQ (gC .none)) bM [some E,some B,some P,some x3,some (aS p),x5,x6]=if p=[] then .rt .none else .nx [some E,some B,some P,some x3,some (aS p),x5,x6]:=by
  have h:((p.length:Int) == 0)=decide (p=[]):=by
    cases p with
    | nil=>rfl
    | cons a r=>simp; omega
  simp only [aS,dz,eu,cq,g6,aC,aO,ar,aw,d4,Rs.ai,tD,List.length_map,Rs.ak,lq,h,bA,ay,cx,ee]
  by_cases z:p=[]
  · rw [if_pos z,decide_eq_true z,if_pos rfl]
  · rw [if_neg z,decide_eq_false z,if_neg (by decide)]
theorem xA {es:List Er} (l1:1≤es.length) (l6:es.length≤6) (hok:∀ e∈es,e.Wk) {k:Nat} {b:List Int} {bs ps:List (List Int)} (hz:AN es.length (k + 1) (b::bs) ps):∀ (R A:List (List Int)) (x3 x4 x5 x6:Option PyData),ps=A++R →
    (∃ r,tryD es b (jR es k bs) A R=some r∧forL (e8 [3,4]) (qC (aK k)) ((R.map aS).mapIdx fun i d=>.tuple [.int ((A.length + i:Nat):Int),d]) [some (av es),some (aq (b::bs)),some (aq ps),x3,x4,x5,x6]=.rt (aq r)) ∨
    (tryD es b (jR es k bs) A R=none∧(forL (e8 [3,4]) (qC (aK k)) ((R.map aS).mapIdx fun i d=>.tuple [.int ((A.length + i:Nat):Int),d]) [some (av es),some (aq (b::bs)),some (aq ps),x3,x4,x5,x6]=.rt .none∨∃ δ,forL (e8 [3,4]) (qC (aK k)) ((R.map aS).mapIdx fun i d=>.tuple [.int ((A.length + i:Nat):Int),d]) [some (av es),some (aq (b::bs)),some (aq ps),x3,x4,x5,x6]=.nx δ))
  | [],A,x3,x4,x5,x6,e=>.inr ⟨rfl,.inr ⟨_,rfl⟩⟩
  | p::R,A,x3,x4,x5,x6,e=>by
    have hbn:=hz.bn b List.mem_cons_self
    have hfl:=hz.fl
    have hpl:=hz.pl
    have hfe:ps.flatten=A.flatten++(p++R.flatten):=by rw [e,List.flatten_append,List.flatten_cons]
    have hle:ps.flatten.length=A.flatten.length + (p.length + R.flatten.length):=by rw [hfe,List.length_append,List.length_append]
    have hpe:ps.length=A.length + (R.length + 1):=by rw [e,List.length_append]; rfl
    rw [List.flatten_cons,List.length_append] at hfl
    have hb1:1≤b.length:=List.length_pos_iff.mpr hbn
    have hrg:∀ x∈sortI (p++b),0≤x∧x < es.length:=fun x hx=>by
      refine hz.rg x ?_
      rw [List.flatten_cons,hfe]
      rcases List.mem_append.mp (gB.mp hx) with z | z <;> simp [z]
    have hsl:(sortI (p++b)).length=p.length + b.length:=by rw [(sortI_perm (p++b)).length_eq,List.length_append]
    have hz':AN es.length k bs (A++sortI (p++b)::R):=⟨by have:=hz.bl; simpa using this,fun c hc=>hz.bn c (List.mem_cons_of_mem _ hc),fun x hx=>by
        rcases List.mem_append.mp hx with z | z
        · exact hz.rg x (List.mem_append_left _ (by rw [List.flatten_cons]; exact List.mem_append_right _ z))
        · rw [List.flatten_append,List.flatten_cons] at z
          rcases List.mem_append.mp z with w | w
          · exact hz.rg x (List.mem_append_right _ (by rw [hfe]; exact List.mem_append_left _ w))
          · rcases List.mem_append.mp w with w | w
            · exact hrg x w
            · exact hz.rg x (List.mem_append_right _ (by rw [hfe]; simp [w])),by
        rw [List.flatten_append,List.flatten_cons,List.length_append,List.length_append,hsl]; omega,by rw [List.length_append,List.length_cons]; omega⟩
    have hgr:=gZ l1 l6 hok hz'
    have hfo:=ix l1 l6 hok hrg (by omega) (by omega)
    have hts:e8 [3,4] (PyData.tuple [.int ((A.length + 0:Nat):Int),aS p]) [some (av es),some (aq (b::bs)),some (aq ps),x3,x4,x5,x6]=some [some (av es),some (aq (b::bs)),some (aq ps),some (.int (A.length:Int)),some (aS p),x5,x6]:=rfl
    have i0:dIx (aq (b::bs)) (.int 0)=some (aS b):=by
      unfold aq
      rw [Au,List.map_cons]
      unfold atI ixN
      simp
    have a1:bz (aS p) (aS b)=some (aS (p++b)):=by
      unfold aS
      rw [vJ (by rw [List.length_map,List.length_map]; omega),List.map_append]
    have so:dW [aS (p++b)]=some (aS (sortI (p++b))):=by
      unfold aS dW
      simp only [b4,Option.bind_some]
      rw [if_pos (by rw [List.length_append]; omega)]
    have t1:bw [] 5 (gF dW (ae (g2 bz (ag 4) (g2 dIx (ag 1) (gC (.int 0)))) ao)) [some (av es),some (aq (b::bs)),some (aq ps),some (.int (A.length:Int)),some (aS p),x5,x6]=.nx [some (av es),some (aq (b::bs)),some (aq ps),some (.int (A.length:Int)),some (aS p),some (aS (sortI (p++b))),x6]:=by
      rw [ej,if_pos (by simp)]
      simp only [g6,aC,aO,cq,d4,ar,aw,Rs.ai,i0,Rs.ak,a1,so,ay]
      rfl
    have c0:v5 (aq (b::bs)) (some 1) none=some (aq bs):=by
      unfold aq
      rw [xa,show (1:Int)=((1:Nat):Int) from rfl,qv]; rfl
    have c1:v5 (aq ps) none (some (A.length:Int))=some (aq A):=by
      unfold aq
      rw [xa,AY,e,List.map_append,List.take_left' (by rw [List.length_map])]
    have c2:v5 (aq ps) (some ((A.length:Int) + 1)) none=some (aq R):=by
      unfold aq
      rw [xa,show ((A.length:Int) + 1)=((A.length + 1:Nat):Int) by omega,qv,e,← List.map_drop,wC]
    have a2:bz (aq A) (.list [aS (sortI (p++b))])=some (aq (A++[sortI (p++b)])):=by
      unfold aq
      rw [vJ (by rw [List.length_map]; show _ + 1≤1000000; omega),List.map_append]; rfl
    have a3:bz (aq (A++[sortI (p++b)])) (aq R)=some (aq (A++sortI (p++b)::R)):=by
      unfold aq
      rw [vJ (by rw [List.length_map,List.length_map,List.length_append,List.length_singleton]; omega),← List.map_append,List.append_assoc]; rfl
    have t2:bw [] 6 (aF (aK k) (ae (ag 0) (ae (c5 (ag 1) (eZ (gC (.int 1))) cA) (ae (g2 bz (g2 bz (c5 (ag 2) cA (eZ (ag 3))) (dE (ae (ag 5) ao))) (c5 (ag 2) (eZ (g2 bz (ag 3) (gC (.int 1)))) cA)) ao)))) [some (av es),some (aq (b::bs)),some (aq ps),some (.int (A.length:Int)),some (aS p),some (aS (sortI (p++b))),x6]=.nx [some (av es),some (aq (b::bs)),some (aq ps),some (.int (A.length:Int)),some (aS p),some (aS (sortI (p++b))),some (j6 (jR es k bs (A++sortI (p++b)::R)))]:=by
      rw [ej,if_pos (by simp)]
      simp only [a9,aC,aO,cq,pO,nr,tS,g0,d4,ar,aw,Rs.ai,sN,c0,c1,c2,gP,Rs.ak,a2,a3,hgr,ay]
      rfl
    have em:(fun (i:Nat) (d:PyData)=>PyData.tuple [.int ((A.length + (i + 1):Nat):Int),d])=fun i d=>.tuple [.int (((A++[p]).length + i:Nat):Int),d]:=by
      funext i d; rw [List.length_append,List.length_singleton,show A.length + (i + 1)=A.length + 1 + i by omega]
    rw [List.map_cons,List.mapIdx_cons,em]
    -- what one turn does
    have turn:∃ x6',(qC (aK k) [some (av es),some (aq (b::bs)),some (aq ps),some (.int (A.length:Int)),some (aS p),x5,x6]=match (if jZ es (sortI (p++b)) then jR es k bs (A++sortI (p++b)::R) else none) with
        | some r=>.rt (aq r)
        | none=>if p=[] then .rt .none else .nx [some (av es),some (aq (b::bs)),some (aq ps),some (.int (A.length:Int)),some (aS p),some (aS (sortI (p++b))),x6']):=by
      unfold qC
      rw [aV,t1]; simp only
      rw [aV]
      cases q:jZ es (sortI (p++b)) with
      | false =>
        rw [q] at hfo
        refine ⟨x6,?_⟩
        have t3:sIf (gT (aF bg (ae (ag 0) (ae (ag 5) ao)))) (bu (bw [] 6 (aF (aK k) (ae (ag 0) (ae (c5 (ag 1) (eZ (gC (.int 1))) cA) (ae (g2 bz (g2 bz (c5 (ag 2) cA (eZ (ag 3))) (dE (ae (ag 5) ao))) (c5 (ag 2) (eZ (g2 bz (ag 3) (gC (.int 1)))) cA)) ao))))) (sIf (gT (g1 e7 (ag 6))) (bQ (ag 6)) bM)) bM [some (av es),some (aq (b::bs)),some (aq ps),some (.int (A.length:Int)),some (aS p),some (aS (sortI (p++b))),x6]=.nx [some (av es),some (aq (b::bs)),some (aq ps),some (.int (A.length:Int)),some (aS p),some (aS (sortI (p++b))),x6]:=by
          rw [dz]
          simp only [eu,a9,aC,aO,ar,aw,Rs.ai,hfo,bA,ay,Bool.false_eq_true,if_false,ee]
        rw [t3]; simp only
        rw [zI]
        simp only [Bool.false_eq_true,if_false]
      | true =>
        rw [q] at hfo
        have t3:sIf (gT (aF bg (ae (ag 0) (ae (ag 5) ao)))) (bu (bw [] 6 (aF (aK k) (ae (ag 0) (ae (c5 (ag 1) (eZ (gC (.int 1))) cA) (ae (g2 bz (g2 bz (c5 (ag 2) cA (eZ (ag 3))) (dE (ae (ag 5) ao))) (c5 (ag 2) (eZ (g2 bz (ag 3) (gC (.int 1)))) cA)) ao))))) (sIf (gT (g1 e7 (ag 6))) (bQ (ag 6)) bM)) bM [some (av es),some (aq (b::bs)),some (aq ps),some (.int (A.length:Int)),some (aS p),some (aS (sortI (p++b))),x6]=sIf (gT (g1 e7 (ag 6))) (bQ (ag 6)) bM [some (av es),some (aq (b::bs)),some (aq ps),some (.int (A.length:Int)),some (aS p),some (aS (sortI (p++b))),some (j6 (jR es k bs (A++sortI (p++b)::R)))]:=by
          rw [dz]
          simp only [eu,a9,aC,aO,ar,aw,Rs.ai,hfo,bA,ay,if_true]
          rw [aV,t2]
        rw [t3]
        simp only [if_true]
        cases w:jR es k bs (A++sortI (p++b)::R) with
        | some r =>
          refine ⟨x6,?_⟩
          have hn:dO (j6 (some r))=false:=rfl
          simp only [dz,eu,nP,ar,aw,Rs.ai,sO,hn,Rs.ak,bA,Bool.not_false,ay,if_true,cx]
          rfl
        | none =>
          refine ⟨some .none,?_⟩
          have hs:sIf (gT (g1 e7 (ag 6))) (bQ (ag 6)) bM [some (av es),some (aq (b::bs)),some (aq ps),some (.int (A.length:Int)),some (aS p),some (aS (sortI (p++b))),some (j6 none)]=.nx [some (av es),some (aq (b::bs)),some (aq ps),some (.int (A.length:Int)),some (aS p),some (aS (sortI (p++b))),some .none]:=rfl
          rw [hs]; simp only
          rw [zI]
    obtain ⟨x6',turn⟩:=turn
    have hT:tryD es b (jR es k bs) A (p::R)=match (if jZ es (sortI (p++b)) then jR es k bs (A++sortI (p++b)::R) else none) with
        | some r=>some r
        | none=>if p=[] then none else tryD es b (jR es k bs) (A++[p]) R:=rfl
    rw [hT]
    unfold forL
    rw [hts]
    simp only
    rw [turn]
    generalize (if jZ es (sortI (p++b)) then jR es k bs (A++sortI (p++b)::R) else none)=T at *
    cases T with
    | some r=>exact .inl ⟨r,rfl,rfl⟩
    | none =>
      simp only
      by_cases z:p=[]
      · rw [if_pos z,if_pos z]
        exact .inr ⟨rfl,.inl rfl⟩
      · rw [if_neg z,if_neg z]
        simp only
        exact xA l1 l6 hok hz R (A++[p]) _ _ _ _ (by rw [e]; simp)
theorem CF {f:PyData→List PyData→List PyData→Rs PyData} {ds:List PyData} (h:(match ds with | [x0,.list x1,.list x2]=>f x0 x1 x2 | _=>.no)≠.no):∃ x0 x1 x2,ds=[x0,.list x1,.list x2]∧f x0 x1 x2≠.no:=by
  rcases ds with _ | ⟨x0,_ | ⟨x1,_ | ⟨x2,_ | ⟨y,ys⟩⟩⟩⟩
  · exact absurd rfl h
  · exact absurd rfl h
  · first | exact absurd rfl h | (cases x1 <;> exact absurd rfl h)
  · skip
    cases x1 with
    | list x1 =>
      cases x2 with
      | list x2 =>
        exact ⟨_,_,_,rfl,h⟩
      | _=>exact absurd rfl h
    | _=>first | exact absurd rfl h | (cases x2 <;> exact absurd rfl h)
  · first | exact absurd rfl h | (cases x1 <;> first | exact absurd rfl h | (cases x2 <;> exact absurd rfl h))
theorem nR (cs:Cs) (k:Nat):∀ ds,ds.length=3→aK k ds≠.no→bf (gX cs bg (fi k) (ds.map some++List.replicate 4 none))=aK k ds:=by
  intro ds hl hne
  obtain ⟨d,xb,xp,ez,hz⟩:=CF hne
  clear hne; subst ez; have hne:=hz; clear hz
  · skip
    split at hne
    · rename_i bs ps hb hp
      split at hne
      · rename_i hc
        rw [Bool.and_eq_true] at hc
        obtain ⟨c1,c2⟩:=hc
        have hz:=xR.mp c2
        have eb:=jq hb
        have ep:=jq hp
        subst eb ep
        obtain ⟨e1,l1,l6,hok⟩:=km c1
        rw [← e1]
        generalize cj d=es at *
        have hgg:=gZ l1 l6 hok hz
        unfold aq at hgg
        rw [hgg]
        show bf (gX cs bg (fi k) [some (av es),some (aq bs),some (aq ps),none,none,none,none])=_
        simp only [gX]
        rw [aV]
        cases bs with
        | nil =>
          have s1:sIf (gT (g2 dEq (gF fc (ae (ag 1) ao)) (gC (.int 0)))) (bQ (ag 2)) bM [some (av es),some (aq []),some (aq ps),none,none,none,none]=.rt (aq ps):=by
            have:((0:Int) == 0)=true:=rfl
            simp only [aq,List.map_nil,dz,eu,cq,g6,aC,aO,ar,aw,d4,Rs.ai,tD,List.length_nil,Rs.ak,lq,bA,ay,cx]
            rfl
          rw [s1]
          cases k <;> rfl
        | cons b bs =>
          obtain ⟨j,rfl⟩:∃ j,k=j + 1:=by
            cases k with
            | zero=>have:=hz.bl; simp at this
            | succ j=>exact ⟨j,rfl⟩
          have s1:sIf (gT (g2 dEq (gF fc (ae (ag 1) ao)) (gC (.int 0)))) (bQ (ag 2)) bM [some (av es),some (aq (b::bs)),some (aq ps),none,none,none,none]=.nx [some (av es),some (aq (b::bs)),some (aq ps),none,none,none,none]:=by
            have h0:((((b::bs).length:Nat):Int) == 0)=false:=by
              have:¬ ((((b::bs).length:Nat):Int)=0):=by rw [List.length_cons]; omega
              simpa using this
            simp only [aq,dz,eu,cq,g6,aC,aO,ar,aw,d4,Rs.ai,tD,List.length_map,Rs.ak,lq,h0,bA,ay,Bool.false_eq_true,if_false,ee]
          rw [s1]; simp only
          have src:iG (ae (ag 2) ao) (mask [] [some (av es),some (aq (b::bs)),some (aq ps),none,none,none,none])=.ok ((ps.map aS).mapIdx fun i d=>.tuple [.int ((([]:List (List Int)).length + i:Nat):Int),d]):=by
            rw [eM]
            simp only [aq,oV,aC,aO,ar,aw,Rs.ai,xw,gg,List.length_nil,Nat.zero_add]
          rw [aV,dR,src,ay]
          have hA:jR es (j + 1) (b::bs) ps=tryD es b (jR es j bs) [] ps:=rfl
          rw [hA]
          rcases xA l1 l6 hok hz ps [] none none none none rfl with ⟨r,h1,h2⟩ | ⟨h1,h2 | ⟨δ,h2⟩⟩
          · rw [h1]
            have h2':forL (e8 [3,4]) _ _ _=_:=h2
            rw [show fi (j + 1)=aK j from rfl]
            rw [h2']; rfl
          · rw [h1]
            have h2':forL (e8 [3,4]) _ _ _=_:=h2
            rw [show fi (j + 1)=aK j from rfl]
            rw [h2']; rfl
          · rw [h1]
            have h2':forL (e8 [3,4]) _ _ _=_:=h2
            rw [show fi (j + 1)=aK j from rfl]
            rw [h2']; rfl
      · exact absurd rfl hne
    · exact absurd rfl hne
end RS
set_option maxRecDepth 100000
set_option maxHeartbeats 1000000
namespace RS
open PySem L2
noncomputable def bS:Gf
  | [d,.int h]=>if jW d && decide (1≤h) && decide (h≤4) then .ok (j6 (lW (cj d) h.toNat)) else .no
  | _=>.no
theorem i3 {es:List Er} {h:Nat} (h1:1≤es.length) (h2:es.length≤6) (hk:∀ e∈es,e.Wk) (a:1≤h) (b:h≤4):bS [av es,.int (h:Int)]=.ok (j6 (lW es h)):=by
  unfold bS
  simp only [gU h1 h2 hk,dw,decide_eq_true (show (1:Int)≤(h:Int) by omega),decide_eq_true (show (h:Int)≤4 by omega),Bool.and_self,if_true,Int.toNat_natCast]
theorem sY (cs:Cs):∀ ds,ds.length=2→bS ds≠.no→bf (fR cs cM (aK 6) (ds.map some++List.replicate 0 none))=bS ds:=by
  intro ds hl hne
  obtain ⟨d,z,ez,hz⟩:=tj hne
  clear hne; subst ez; have hne:=hz; clear hz
  · skip
    split at hne
    · rename_i hc
      simp only [Bool.and_eq_true,decide_eq_true_eq] at hc
      obtain ⟨⟨c1,z1⟩,z4⟩:=hc
      obtain ⟨h,rfl⟩:∃ h:Nat,z=(h:Int):=⟨z.toNat,by omega⟩
      obtain ⟨e1,l1,l6,hok⟩:=km c1
      rw [← e1]
      generalize cj d=es at *
      rw [i3 l1 l6 hok (by omega) (by omega)]
      have hB:=pY es es.length
      have hfl:=hB.pm.length_eq
      rw [b0] at hfl
      have hb:=lE l1 l6 hok
      have hz:AN es.length 6 (bdN es es.length) (List.replicate h []):=⟨Nat.le_trans (vY hB) l6,hB.ne,fun x hx=>by
          rw [jo,List.append_nil] at hx
          exact br.mp (hB.pm.mem_iff.mp hx),by rw [jo,List.length_nil]; omega,by rw [List.length_replicate]; omega⟩
      have hg:=gZ l1 l6 hok hz
      have hrg:=gN (j:=(h:Int)) (Int.natCast_nonneg _) (by omega)
      rw [Int.toNat_natCast,kA] at hrg
      have src:cZ (ae (ag 1) ao) [some (av es),some (.int (h:Int))]=.ok ((a5 h).map PyData.int):=by
        rw [gI,aC,aw,ar,Rs.ai,aO,Rs.ai,Rs.ai,hrg]
      have hcm:bx 2 (cZ (ae (ag 1) ao)) bL (dE ao) bj [some (av es),some (.int (h:Int))]=.ok (((a5 h).map PyData.int).map fun _=>aS []) :=
        cU rfl src (by rw [List.length_map,b0]; omega) fun d hd=>rfl
      have em:(((a5 h).map PyData.int).map fun _=>aS [])=(List.replicate h ([]:List Int)).map aS:=by
        rw [List.map_const',List.map_replicate,List.length_map,b0]
      rw [em] at hcm
      have hg':aK 6 [av es,aq (bdN es es.length),.list ((List.replicate h ([]:List Int)).map aS)]=.ok (j6 (jR es 6 (bdN es es.length) (List.replicate h []))):=hg
      show bf (fR cs cM (aK 6) [some (av es),some (.int (h:Int))])=_
      simp only [fR,cx,a9,aC,aO,jx,ar,Rs.ai,hb,hcm,hg',ay,cf]
      rfl
    · exact absurd rfl hne
noncomputable def bO (cs:Cs):Gf
  | [d,z]=>if bU d then (if cJ d then (if bU z then (if isWhole z 1 4 then .ok (j6 (lW (cj d) (deI z).toNat)) else .rz cs.NoNumber) else .no) else .rz cs.NoErrands) else .no
  | _=>.no
theorem nZ {es:List Er} {h:Nat} (cs:Cs) (h1:1≤es.length) (h2:es.length≤6) (hk:∀ e∈es,e.Ok) (a:1≤h) (b:h≤4):bO cs [av es,.int (h:Int)]=.ok (j6 (lW es h)):=by
  have hw:isWhole (.int (h:Int)) 1 4=true:=by
    unfold isWhole
    simp only [decide_eq_true (show (1:Int)≤(h:Int) by omega),decide_eq_true (show (h:Int)≤4 by omega),Bool.and_self]
  unfold bO
  simp only [kN,fG h1 h2 hk,hU,hw,if_true,dw]
  rfl
theorem tI {es:List Er} {z:PyData} (cs:Cs) (h1:1≤es.length) (h2:es.length≤6) (hk:∀ e∈es,e.Ok) (hz:bU z=true) (hw:isWhole z 1 4=false):bO cs [av es,z]=.rz cs.NoNumber:=by
  unfold bO
  simp only [kN,fG h1 h2 hk,hz,hw,if_true,Bool.false_eq_true,if_false]
theorem BC (cs:Cs):∀ ds,ds.length=2→bO cs ds≠.no→bf (jj cs bS aQ (bc cs) (ds.map some++List.replicate 0 none))=bO cs ds:=by
  intro ds hl hne
  obtain ⟨d,z,ez,hz⟩:=vZ hne
  clear hne; subst ez; have hne:=hz; clear hz
  · skip
    split at hne
    · rename_i hd
      split at hne
      · rename_i hc
        obtain ⟨e1,l1,l6,hok⟩:=lR hc
        rw [← e1]
        generalize cj d=es at *
        have h1:=lA cs l1 l6 hok
        split at hne
        · rename_i hz
          have hi:aQ [z,.int 1,.int 4]=.ok (.bool (isWhole z 1 4)):=by unfold aQ; simp only [hz,if_true]
          show bf (jj cs bS aQ (bc cs) [some (av es),some z])=_
          simp only [jj]
          rw [aV]
          simp only [xD,a9,aC,aO,ar,aw,Rs.ai,h1,ay]
          rw [aV]
          cases hw:isWhole z 1 4 with
          | false =>
            rw [hw] at hi
            rw [tI cs l1 l6 hok hz hw]
            simp only [dz,qE,eu,a9,aC,aO,ar,aw,d4,Rs.ai,hi,bA,Bool.not_false,ay,if_true,zS,yX]
          | true =>
            rw [hw] at hi
            obtain ⟨h,rfl,a,b⟩:∃ h:Nat,z=.int (h:Int)∧1≤h∧h≤4:=by
              unfold isWhole at hw
              split at hw
              · rename_i i
                simp only [Bool.and_eq_true,decide_eq_true_eq] at hw
                exact ⟨i.toNat,by rw [Int.toNat_of_nonneg (by omega)],by omega,by omega⟩
              · cases hw
            rw [nZ cs l1 l6 hok a b]
            have h2:=i3 l1 l6 (fun e he=>(hok e he).wk) a b
            simp only [dz,qE,eu,a9,aC,aO,ar,aw,d4,Rs.ai,hi,bA,Bool.not_true,ay,Bool.false_eq_true,if_false,ee,cx,h2,cf]
        · exact absurd rfl hne
      · rename_i hc
        have h1:=Ay (cs:=cs) hd hc
        have h2:bO cs [d,z]=.rz cs.NoErrands:=by unfold bO; simp [hd,hc]
        rw [h2]
        show bf (jj cs bS aQ (bc cs) [some d,some z])=_
        simp [jj,h1]
    · exact absurd rfl hne
end RS
namespace RS
open PySem L2
noncomputable def qe (cs:Cs) (aJ bo bO au bh:Gf):Ds→Sr :=
  (bu (bw [5] 1 (aF bh (ae (ag 0) (ae (gC (.int 2)) (ae (gC (.int 4)) (ae (gC (.int 18)) (ae (gC (.bool true)) ao)))))))
    (bu (bw [5] 2 (g2 bz (gC (.int 1)) (aF au (ae (ag 0) (ae (gC (.int 0)) (ae (gC (.int 3)) ao))))))
    (bu (bw [5] 3 (aF bO (ae (ag 1) (ae (ag 2) ao))))
    (bu (sIf (gT (g1 oZ (ag 3))) (bQ (g2 dEq (gL (bx 6 (cm (aF bo (ae (gF fc (ae (ag 1) ao)) (ae (ag 2) ao)))) (gT (aF aJ (ae (ag 1) (ae (ag 6) ao)))) (ag 6) bj)) (dE ao))) bM)
    (bu (sIf (cOr (jA (gT (g1 (kZ "list") (ag 3)))) (gT (g2 dNe (gF fc (ae (ag 3) ao)) (ag 2)))) (bQ (gC (.bool false))) bM)
    (bu (gu [5] (cm (ag 3)) (bK 4) (sIf (cOr (jA (gT (g1 (kZ "list") (ag 4)))) (gT (g2 dNe (ag 4) (gF dW (ae (ag 4) ao))))) (bQ (gC (.bool false))) bM))
    (bu (kD [5] 5 ao)
    (bu (gu [5] (cm (ag 3)) (bK 4) (zW [5] 5 (ag 4)))
    (bQ (tq (g2 dEq (gF dW (ae (ag 5) ao)) (gL (gLR (ae (gF fc (ae (ag 1) ao)) ao)))) (aF aJ (ae (ag 1) (ae (ag 3) ao)))))))))))))
end RS
set_option maxRecDepth 100000
set_option maxHeartbeats 1000000
namespace RS
open PySem L2
structure Bn (gf:Gf):Prop where
  of:∀ (es:List Er) (h:Nat),1≤es.length→es.length≤6→(∀ e∈es,e.Ok)→1≤h→h≤4 →
    (∃ f:Nat→Nat,(∀ i < es.length,f i < h)∧jN es (fA es.length h f)∧gf [av es,.int (h:Int)]=.ok (aq (fA es.length h f))) ∨
    (gf [av es,.int (h:Int)]=.ok .none∧∀ f:Nat→Nat,(∀ i < es.length,f i < h)→¬ jN es (fA es.length h f))
theorem qp (l:List Int) (f:Nat→Nat):∀ h:Nat,(((List.range h).map fun hand=>l.filter fun x=>decide (f x.toNat=hand)).flatten).Perm (l.filter fun x=>decide (f x.toNat < h))
  | 0=>by
    have:l.filter (fun x=>decide (f x.toNat < 0))=[]:=List.filter_eq_nil_iff.mpr fun x _=>by simp
    rw [this]; exact .refl _
  | h + 1=>by
    rw [List.range_succ,List.map_append,List.flatten_append]
    simp only [List.map_cons,List.map_nil,List.flatten_cons,List.flatten_nil,List.append_nil]
    refine ((qp l f h).append_right _).trans ?_
    have key:=List.filter_append_perm (fun x:Int=>decide (f x.toNat < h)) (l.filter fun x=>decide (f x.toNat < h + 1))
    rw [List.filter_filter,List.filter_filter] at key
    have e1:l.filter (fun x=>decide (f x.toNat < h) && decide (f x.toNat < h + 1))=l.filter fun x=>decide (f x.toNat < h):=List.filter_congr fun x _=>by
      by_cases z:f x.toNat < h
      · have:f x.toNat < h + 1:=by omega
        simp [z,this]
      · simp [z]
    have e2:l.filter (fun x=>(!decide (f x.toNat < h)) && decide (f x.toNat < h + 1))=l.filter fun x=>decide (f x.toNat=h):=List.filter_congr fun x _=>by
      by_cases z:f x.toNat=h
      · simp [z]
      · by_cases z2:f x.toNat < h
        · simp [z,z2]
        · have:¬ f x.toNat < h + 1:=by omega
          simp [z,this]
    rw [e1,e2] at key
    exact key
theorem v8 {n h:Nat} {f:Nat→Nat} (hf:∀ i < n,f i < h):((fA n h f).flatten).Perm (a5 n):=by
  have:=qp (a5 n) f h
  rw [List.filter_eq_self.mpr fun x hx=>by
    have:=br.mp hx
    simpa using hf x.toNat (by omega)] at this
  exact this
theorem k9 (n:Nat):(a5 n).Pairwise (·≤·):=by
  unfold a5
  exact List.Pairwise.map _ (fun a b h=>by omega) (List.pairwise_lt_range (n:=n))
theorem yE {l:List Int} (h:l.Pairwise (·≤·)):sortI l=l:=gD (sortI_perm l) (eW l) h
theorem wV {l:List Int} (h:l.length < 64):dW [aS l]=some (aS (sortI l)):=by
  unfold aS dW
  simp only [b4,Option.bind_some]
  rw [if_pos h]
theorem vz {n h:Nat} (f:Nat→Nat) (n6:n≤6):sU n (fA n h f)=true:=by
  unfold sU
  rw [List.all_eq_true]
  intro r hr
  obtain ⟨k,_,rfl⟩:=List.mem_map.mp hr
  have hl:=List.length_filter_le (fun x:Int=>decide (f x.toNat=k)) (a5 n)
  rw [b0] at hl
  simp only [Bool.and_eq_true,decide_eq_true_eq,List.all_eq_true]
  refine ⟨by omega,fun x hx=>?_⟩
  have:=br.mp (List.mem_filter.mp hx).1
  omega
theorem qf (r:List Int):bU (aS r)=true:=gH (iB r)
theorem law_holds {aU bO:Gf} (S:Bn bO) (cs:Cs) (ns:List Int):qe cs aJ bo bO au bh (some (aI ns)::List.replicate 5 none)=.rt (.bool true):=by
  obtain ⟨es,rs0,_,l1,l4,hok,_,hes,_⟩:=Aj ns 2 18 (by decide) (by decide) (by decide)
  have hm:=d5 (ns:=ns) (k:=0) (many:=3) (by decide) (by decide)
  have m0:=dq ns 0 (many:=3) (by decide)
  have m1:=dC ns 0 (many:=3) (by decide)
  obtain ⟨h,hh,h1,h4⟩:∃ h:Nat,1 + mixed ns 0 3=(h:Int)∧1≤h∧h≤4:=⟨(1 + mixed ns 0 3).toNat,by omega,by omega,by omega⟩
  have s1:bw [5] 1 (aF bh (ae (ag 0) (ae (gC (.int 2)) (ae (gC (.int 4)) (ae (gC (.int 18)) (ae (gC (.bool true)) ao)))))) [some (aI ns),none,none,none,none,none]=.nx [some (aI ns),some (av es),none,none,none,none]:=by
    rw [ec,if_pos (by simp)]
    simp only [a9,aC,aO,aB (show 0 ∉ [5] by decide),ar,d4,Rs.ai,hes,ay]
    rfl
  have s2:bw [5] 2 (g2 bz (gC (.int 1)) (aF au (ae (ag 0) (ae (gC (.int 0)) (ae (gC (.int 3)) ao))))) [some (aI ns),some (av es),none,none,none,none]=.nx [some (aI ns),some (av es),some (.int (h:Int)),none,none,none]:=by
    rw [ec,if_pos (by simp)]
    simp only [cq,a9,aC,aO,aB (show 0 ∉ [5] by decide),ar,d4,Rs.ai,hm,gP,hh,Rs.ak,ay]
    rfl
  show qe cs aJ bo bO au bh [some (aI ns),none,none,none,none,none]=_
  simp only [qe]
  rw [aV,s1]; simp only
  rw [aV,s2]; simp only
  rcases S.of es h l1 (by omega) hok h1 h4 with ⟨f,hf,hd,hg⟩ | ⟨hg,hno⟩
  · have s3:bw [5] 3 (aF bO (ae (ag 1) (ae (ag 2) ao))) [some (aI ns),some (av es),some (.int (h:Int)),none,none,none]=.nx [some (aI ns),some (av es),some (.int (h:Int)),some (aq (fA es.length h f)),none,none]:=by
      rw [ec,if_pos (by simp)]
      simp only [a9,aC,aO,aB (show 1 ∉ [5] by decide),aB (show 2 ∉ [5] by decide),ar,aw,Rs.ai,hg,ay]
      rfl
    have hisd:=eE l1 (by omega) hok (vz (n:=es.length) (h:=h) f (by omega))
    rw [rD hd] at hisd
    have hfl:=v8 hf
    have hrl:(fA es.length h f).length=h:=by simp [fA]
    have hrs:∀ r∈fA es.length h f,r.Pairwise (·≤·)∧r.length≤6:=fun r hr=>by
      obtain ⟨k,_,rfl⟩:=List.mem_map.mp hr
      have hl:=List.length_filter_le (fun x:Int=>decide (f x.toNat=k)) (a5 es.length)
      rw [b0] at hl
      exact ⟨(k9 _).filter _,by omega⟩
    generalize fA es.length h f=rows at *
    have hin:dO (aq rows)=false:=rfl
    have hil:kZ "list" (aq rows)=some (.bool true):=ly (gH fun d hd=>by obtain ⟨r,_,rfl⟩:=List.mem_map.mp hd; exact qf r)
    have hlen:fc [aq rows]=some (.int (h:Int)):=by unfold aq; rw [tD,List.length_map,hrl]
    have hne:dNe (.int (h:Int)) (.int (h:Int))=some (.bool false):=by simp
    have src:cm (ag 3) (mask [5] [some (aI ns),some (av es),some (.int (h:Int)),some (aq rows),none,none])=.ok (rows.map aS):=rfl
    obtain ⟨δ',e,x4,hδ⟩:=fo (β:=Unit) (tgt:=bK 4) (body:=sIf (cOr (jA (gT (g1 (kZ "list") (ag 4)))) (gT (g2 dNe (ag 4) (gF dW (ae (ag 4) ao))))) (bQ (gC (.bool false))) bM)
      (fun _ δ=>∃ x4,δ=[some (aI ns),some (av es),some (.int (h:Int)),some (aq rows),x4,none]) (rows.map aS) 0 (fun i d δ hi pz4=>by
        obtain ⟨x4,hx⟩:=pz4
        subst hx
        obtain ⟨r,hr,rfl⟩:=List.mem_map.mp (List.mem_of_getElem? hi)
        have h2:=hrs r hr
        have hsr:=wV (l:=r) (by omega)
        rw [yE h2.1] at hsr
        have hnn:dNe (aS r) (aS r)=some (.bool false):=by
          have:=tQ r r
          simpa [aS] using this
        have hir:kZ "list" (aS r)=some (.bool true):=ly (qf r)
        refine ⟨_,_,rfl,?_,some (aS r),rfl⟩
        show sIf _ _ _ [some (aI ns),some (av es),some (.int (h:Int)),some (aq rows),some (aS r),none]=.nx [some (aI ns),some (av es),some (.int (h:Int)),some (aq rows),some (aS r),none]
        simp only [dz,C7,qE,eu,nP,cq,g6,aC,aO,ar,aw,Rs.ai,hir,hsr,hnn,Rs.ak,bA,ay,Bool.not_true,Bool.false_eq_true,if_false,ee]) [some (aI ns),some (av es),some (.int (h:Int)),some (aq rows),none,none] ⟨none,rfl⟩
    subst hδ
    have src2:cm (ag 3) (mask [5] [some (aI ns),some (av es),some (.int (h:Int)),some (aq rows),x4,some (.list [])])=.ok (rows.map aS):=rfl
    have hfl6:rows.flatten.length=es.length:=by rw [hfl.length_eq,b0]
    obtain ⟨δ2,e2,y4,hδ2⟩:=fo (β:=Unit) (tgt:=bK 4) (body:=zW [5] 5 (ag 4))
      (fun i δ=>∃ x4,δ=[some (aI ns),some (av es),some (.int (h:Int)),some (aq rows),x4,some (.list (((rows.take i).flatten).map PyData.int))]) (rows.map aS) 0 (fun i d δ hi pz4=>by
        obtain ⟨x4,hx⟩:=pz4
        subst hx
        rw [Nat.zero_add]
        rw [List.getElem?_map] at hi
        obtain ⟨r,hrow,rfl⟩:=Option.map_eq_some_iff.mp hi
        have h2:=hrs r (List.mem_of_getElem? hrow)
        have hsub:((rows.take i).flatten).length≤es.length:=by
          rw [← hfl6]
          conv=>rhs; rw [← List.take_append_drop i rows,List.flatten_append,List.length_append]
          omega
        refine ⟨[some (aI ns),some (av es),some (.int (h:Int)),some (aq rows),some (aS r),some (.list (((rows.take i).flatten).map PyData.int))],[some (aI ns),some (av es),some (.int (h:Int)),some (aq rows),some (aS r),some (.list (((rows.take i).flatten).map PyData.int++r.map PyData.int))],rfl,?_,some (aS r),?_⟩
        · unfold zW
          rw [show (([some (aI ns),some (av es),some (.int (h:Int)),some (aq rows),some (aS r),some (.list (((rows.take i).flatten).map PyData.int))]:Ds)[5]?)=some (some (.list (((rows.take i).flatten).map PyData.int))) from rfl]
          simp only [aB (show 4 ∉ [5] by decide),ar,aw,ay]
          unfold aS
          simp only
          rw [if_pos (by rw [List.length_map,List.length_map]; omega)]
          rfl
        · rw [List.take_succ,hrow,Option.toList_some,List.flatten_append]
          simp only [List.flatten_cons,List.flatten_nil,List.append_nil,List.map_append]) [some (aI ns),some (av es),some (.int (h:Int)),some (aq rows),x4,some (.list [])] ⟨x4,rfl⟩
    rw [List.length_map,Nat.zero_add,List.take_length] at hδ2
    subst hδ2
    have hso:dW [.list (rows.flatten.map PyData.int)]=some (.list ((a5 es.length).map PyData.int)):=by
      unfold dW
      simp only [b4,Option.bind_some]
      rw [if_pos (by omega),gD ((sortI_perm _).trans hfl) (eW _) (k9 _)]
    have hv:(ae (gF fc (ae (ag 1) ao)) ao) [some (aI ns),some (av es),some (.int (h:Int)),some (aq rows),y4,some (.list (rows.flatten.map PyData.int))]=.ok [.int (es.length:Int)]:=by
      simp only [aC,aO,g6,ar,aw,Rs.ai,A3,Rs.ak]
    have hlr:=Fo hv (by omega)
    have hee:dEq (.list ((a5 es.length).map PyData.int)) (.list ((a5 es.length).map PyData.int))=some (.bool true):=by rw [xJ]; simp
    rw [aV,s3]; simp only
    rw [aV]
    simp only [dz,eu,nP,ar,aw,Rs.ai,yn,hin,Rs.ak,bA,ay,Bool.false_eq_true,if_false,ee]
    rw [aV]
    simp only [dz,C7,qE,eu,nP,cq,g6,aC,aO,ar,aw,Rs.ai,hil,hlen,hne,Rs.ak,bA,ay,Bool.not_true,Bool.false_eq_true,if_false,ee]
    rw [aV,dR,src,ay,e]; simp only
    rw [aV]
    rw [show kD [5] 5 ao [some (aI ns),some (av es),some (.int (h:Int)),some (aq rows),x4,none]=.nx [some (aI ns),some (av es),some (.int (h:Int)),some (aq rows),x4,some (.list [])] from rfl]; simp only
    rw [aV,dR,src2,ay,e2]; simp only
    simp only [cx,tq,cq,g6,jx,a9,aC,aO,ar,aw,Rs.ai,hso,hlr,hee,hisd,Rs.ak]
    rfl
  · have s3:bw [5] 3 (aF bO (ae (ag 1) (ae (ag 2) ao))) [some (aI ns),some (av es),some (.int (h:Int)),none,none,none]=.nx [some (aI ns),some (av es),some (.int (h:Int)),some .none,none,none]:=by
      rw [ec,if_pos (by simp)]
      simp only [a9,aC,aO,aB (show 1 ∉ [5] by decide),aB (show 2 ∉ [5] by decide),ar,aw,Rs.ai,hg,ay]
      rfl
    have hde:=iz (n:=es.length) (h:=h) (by omega) h1 h4
    have hdl:=wz h es.length
    have hpw:=zV (h:=h) (n:=es.length) h4 (by omega)
    have hcm:bx 6 (cm (aF bo (ae (gF fc (ae (ag 1) ao)) (ae (ag 2) ao)))) (gT (aF aJ (ae (ag 1) (ae (ag 6) ao)))) (ag 6) bj [some (aI ns),some (av es),some (.int (h:Int)),some .none,none,none]=.ok (((dl h es.length).map aq).filter fun _=>false):=by
      refine jP rfl ?_ (by rw [List.length_map]; omega) fun d hd=>?_
      · simp only [nu,a9,aC,aO,g6,ar,aw,Rs.ai,A3,Rs.ak,hde]; rfl
      · obtain ⟨rows,hr,rfl⟩:=List.mem_map.mp hd
        obtain ⟨f,hf,rfl⟩:=sC h es.length rows hr
        have hisd:=eE l1 (by omega) hok (vz (n:=es.length) (h:=h) f (by omega))
        rw [p5 (hno f hf)] at hisd
        have hisd':aJ [av es,aq ((List.range h).map fun hand=>(a5 es.length).filter fun x=>decide (f x.toNat=hand))]=.ok (.bool false):=hisd
        refine ⟨?_,rfl⟩
        simp only [List.cons_append,List.nil_append,eu,a9,aC,aO,ar,aw,Rs.ai,hisd',bA]
    have hfl:(((dl h es.length).map aq).filter fun _=>false)=[]:=by rw [List.filter_eq_nil_iff]; intro a _; decide
    rw [hfl] at hcm
    have e0:dEq (.list []) (.list [])=some (.bool true):=xJ [] []
    rw [aV,s3]; simp only
    rw [aV]
    simp only [dz,eu,nP,ar,aw,Rs.ai,yn,pR,Rs.ak,bA,ay,if_true,cx,cq,jx,hcm,g0,aO,e0]
theorem Fy {aU bO:Gf} (S:Bn bO) (cs:Cs):∀ ds,ds.length=1→fj 63 ds≠.no→bf (qe cs aJ bo bO au bh (ds.map some++List.replicate 5 none))=fj 63 ds:=lawT_of (law_holds (aU:=aU) S cs)
end RS
namespace RS
open PySem L2
theorem CL (cs:Cs):Bn (bO cs):=⟨fun es h l1 l6 hok a b=>by
  rw [nZ cs l1 l6 hok a b]
  cases q:lW es h with
  | some r =>
    obtain ⟨f,h1,h2,h3⟩:=yV hok q
    exact .inl ⟨f,h1,h2,by rw [h3]; rfl⟩
  | none=>exact .inr ⟨rfl,zu l6 hok q⟩⟩
end RS
namespace RS
open PySem L2
theorem mD (cs:Cs):∀ ds,ds.length=2→aJ ds≠.no→bf (cT cs (aU cs) (ds.map some++List.replicate 4 none))=aJ ds:=m4 (DP cs) cs
theorem DA (cs:Cs):∀ ds,ds.length=1→fj 63 ds≠.no→bf (qe cs aJ bo (bO cs) au bh (ds.map some++List.replicate 5 none))=fj 63 ds:=Fy (aU:=aU cs) (CL cs) cs
end RS
set_option maxRecDepth 100000
set_option maxHeartbeats 4000000
namespace RS
open PySem PySem.Spec PyProof.Rows L2
noncomputable def top (i:Nat):Stmt:=PySem.Challenge.pw_ranksure_k18_dealt.main.body.getD i (.Pass ⟨0,0,0,0⟩)
noncomputable abbrev lQ:Stmt:=top 12
noncomputable abbrev lL:Stmt:=top 13
noncomputable abbrev nJ:Stmt:=top 14
noncomputable abbrev j9:Stmt:=top 15
noncomputable abbrev kn:Stmt:=top 16
noncomputable abbrev ny:Stmt:=top 17
noncomputable abbrev nC:Stmt:=top 18
noncomputable abbrev l7:Stmt:=top 19
noncomputable abbrev o7:Stmt:=top 20
noncomputable abbrev jr:Stmt:=top 21
noncomputable abbrev lF:Stmt:=top 24
noncomputable abbrev iw:Stmt:=top 25
noncomputable abbrev ju:Stmt:=top 26
noncomputable abbrev xo:Stmt:=top 27
noncomputable abbrev kx:Stmt:=top 28
noncomputable abbrev jD:Stmt:=top 29
noncomputable abbrev fO:Stmt:=top 30
noncomputable abbrev lK:Stmt:=top 31
noncomputable abbrev kv:Stmt:=top 33
noncomputable abbrev jT:Stmt:=top 34
noncomputable abbrev fq:Stmt:=top 35
noncomputable abbrev fe:Stmt:=top 36
noncomputable abbrev fH:Stmt:=top 37
noncomputable abbrev nH:Stmt:=top 38
noncomputable abbrev iE:Stmt:=top 41
noncomputable abbrev nG:Stmt:=top 42
noncomputable abbrev iy:Stmt:=top 43
noncomputable abbrev kq:Stmt:=top 44
noncomputable abbrev jM:Stmt:=top 45
noncomputable abbrev sr:Stmt:=top 46
noncomputable abbrev fh:Stmt:=top 48
noncomputable abbrev iJ:Stmt:=top 49
noncomputable abbrev jQ:Stmt:=top 50
noncomputable abbrev iV:Stmt:=top 51
noncomputable abbrev gE:Stmt:=top 52
noncomputable abbrev ik:Stmt:=top 53
noncomputable abbrev rB:Stmt:=top 54
noncomputable abbrev lZ:Stmt:=inClass (top 23) 0
structure Tx (K:PySem.W.Frag) (mg:Str→Option Value) (cs:Cs):Prop where
  f_is_whole:a7 K mg "is_whole" lQ ["thing", "least", "most"]
  f_is_tuple:a7 K mg "is_tuple" lL ["thing", "fewest", "most"]
  f_is_part:a7 K mg "is_part" nJ ["thing"]
  f_are_parts:a7 K mg "are_parts" j9 ["thing"]
  f_is_errand:a7 K mg "is_errand" kn ["thing"]
  f_checked:a7 K mg "checked" ny ["errands"]
  f_work_of:a7 K mg "work_of" nC ["errand"]
  f_has_tool:a7 K mg "has_tool" l7 ["errand", "tool"]
  f_height:a7 K mg "height" o7 ["errands", "ranks", "tool"]
  f_heights_of:a7 K mg "heights_of" jr ["errands", "ranks"]
  f_holdings:a7 K mg "holdings" lF ["errands", "ranks", "number"]
  f_hold_by_high:a7 K mg "hold_by_high" iw ["errands", "ranks", "number"]
  f_rounded_up:a7 K mg "rounded_up" ju ["times", "every"]
  f_need:a7 K mg "need" xo ["errands", "ranks", "number", "held_up", "times"]
  f_levels_by:a7 K mg "levels_by" kx ["errands", "ranks", "number", "held_up"]
  f_longest_by:a7 K mg "longest_by" jD ["errands", "ranks", "number", "held_up"]
  f_longest_by_high:a7 K mg "longest_by_high" fO ["errands", "ranks", "number"]
  f_has_room:a7 K mg "has_room" lK ["errands", "ranks", "number", "room"]
  f_as_lowest:a7 K mg "as_lowest" kv ["errands", "some", "number"]
  f_not_placed:a7 K mg "not_placed" jT ["errands", "placed"]
  f_following_lowest:a7 K mg "following_lowest" fq ["errands", "placed", "room"]
  f_placed_from_below:a7 K mg "placed_from_below" fe ["errands", "room"]
  f_ranks_with_room:a7 K mg "ranks_with_room" fH ["errands", "room"]
  f_fitting:a7 K mg "fitting" nH ["errands"]
  f_share_a_tool:a7 K mg "share_a_tool" iE ["errand", "other"]
  f_bundled:a7 K mg "bundled" nG ["errands"]
  f_fit_one_hand:a7 K mg "fit_one_hand" iy ["errands", "some"]
  f_all_dealt:a7 K mg "all_dealt" kq ["errands", "bundles", "piles"]
  f_dealing_to:a7 K mg "dealing_to" jM ["errands", "hands"]
  f_dealt:a7 K mg "dealt" sr ["errands", "hands"]
  f_law_cell_at:a7 K mg "_law_cell_at" fh ["_law_script", "_law_k"]
  f_law_mixed:a7 K mg "_law_mixed" iJ ["_law_script", "_law_k", "_law_many"]
  f_law_errand:a7 K mg "_law_errand" jQ ["_law_script", "_law_at", "_law_top", "_law_tools"]
  f_law_errands:a7 K mg "_law_errands" iV ["_law_script", "_law_at", "_law_most", "_law_top", "_law_tools"]
  f_law_is_dealing:a7 K mg "_law_is_dealing" gE ["_law_errands_here", "_law_rows"]
  f_law_dealings:a7 K mg "_law_dealings" ik ["_law_many", "_law_hands"]
  f_law:a7 K mg "law" rB ["_law_script"]
  b_all:mg "all"=none
  b_any:mg "any"=none
  b_bool:mg "bool"=none
  b_enumerate:mg "enumerate"=none
  b_int:mg "int"=none
  b_isinstance:mg "isinstance"=none
  b_len:mg "len"=none
  b_list:mg "list"=none
  b_max:mg "max"=none
  b_min:mg "min"=none
  b_range:mg "range"=none
  b_sorted:mg "sorted"=none
  b_sum:mg "sum"=none
  b_tuple:mg "tuple"=none
  c_LEAST_EVERY:∃ t,mg "LEAST_EVERY"=some (.int 2 t)
  c_MOST_ERRANDS:∃ t,mg "MOST_ERRANDS"=some (.int 6 t)
  c_MOST_EVERY:∃ t,mg "MOST_EVERY"=some (.int 60 t)
  c_MOST_HANDS:∃ t,mg "MOST_HANDS"=some (.int 4 t)
  c_MOST_LATE:∃ t,mg "MOST_LATE"=some (.int 20 t)
  c_MOST_LENGTH:∃ t,mg "MOST_LENGTH"=some (.int 20 t)
  c_MOST_PARTS:∃ t,mg "MOST_PARTS"=some (.int 4 t)
  c_TOOLS:∃ t,mg "TOOLS"=some (.int 4 t)
  e_NoErrands:yC K mg "NoErrands" cs.NoErrands
  e_NoNumber:yC K mg "NoNumber" cs.NoNumber
  cl_Holding:Cls K cs.Holding
  na_Holding_number:gY K cs.Holding "number"
  na_Holding_part:gY K cs.Holding "part"
  na_Holding_tool:gY K cs.Holding "tool"
  na_Holding_times:gY K cs.Holding "times"
  mk_Holding:∃ f fd,Mk K cs.Holding f∧Fun K "__init__" "Holding.__init__" lZ f fd∧Binds K fd ["self", "number", "part", "tool", "times"] []
  m_Holding:mg "Holding"=some (.ref cs.Holding)
section
variable {P:Program} {w:World} {K:PySem.W.Frag} {mg:Str→Option Value} {base:Heap} {cs:Cs}
theorem uY:bb ["self", "number", "part", "tool", "times"] ["self", "number", "part", "tool", "times"] (aG lZ):=⟨rfl,rfl,rfl,by decide +kernel,rfl,by decide +kernel,by decide +kernel⟩
theorem ng (T:Tx K mg cs):Bl P w K mg base 1 "Holding" cs.Holding ["number", "part", "tool", "times"]:=by
  obtain ⟨f,fd,M,F,b⟩:=T.mk_Holding
  refine ⟨f,fd,_,M,tO (k:=0) F uY (fun vs H Q E h=>?_) (fun cdv A outer s H vs Q E hr h=>?_),b,T.m_Holding⟩
  · obtain ⟨x,dx,args,rfl,hl,_⟩:=h
    rw [List.length_cons,hl]; rfl
  · obtain ⟨x,dx,args,rfl,hl,hx,k⟩:=h
    obtain ⟨a0,a1,a2,a3,rfl⟩:∃ a0 a1 a2 a3,args=[a0,a1,a2,a3]:=by
      cases args with
      | nil=>cases hl
      | cons a0 r0 =>
        cases r0 with
        | nil=>cases hl
        | cons a1 r1 =>
          cases r1 with
          | nil=>cases hl
          | cons a2 r2 =>
            cases r2 with
            | nil=>cases hl
            | cons a3 r3 =>
              cases r3 with
              | nil=>exact ⟨a0,a1,a2,a3,rfl⟩
              | cons _ _=>exact absurd hl (by simp)
    refine ⟨_,(ic (sk (pv 0) (pv 1) rfl) (ic (sk (pv 0) (pv 2) rfl) (ic (sk (pv 0) (pv 3) rfl) (kM (sk (pv 0) (pv 4) rfl))))),?_⟩
    refine ⟨_,rfl,_,rfl,x,cs.Holding,dx,_,rfl,hx,T.cl_Holding,T.na_Holding_number,(by show 0 < 1000; decide),_,rfl,_,rfl,x,cs.Holding,dx,_,rfl,cn,T.cl_Holding,T.na_Holding_part,(by show 1 < 1000; decide),_,rfl,_,rfl,x,cs.Holding,dx,_,rfl,cn,T.cl_Holding,T.na_Holding_tool,(by show 2 < 1000; decide),_,rfl,_,rfl,x,cs.Holding,dx,_,rfl,cn,T.cl_Holding,T.na_Holding_times,(by show 3 < 1000; decide),?_⟩
    exact k _ (fun b hb=>by rw [bD hb,bD hb,bD hb,bD hb]) (by rw [cn]; rfl)
theorem wu:bb ["_law_script", "_law_k"] ["_law_script", "_law_k"] (aG fh):=⟨rfl,rfl,rfl,by decide +kernel,rfl,by decide +kernel,by decide +kernel⟩
theorem vM {f:Addr} {fd:FuncData} (F:Fun K "_law_cell_at" "_law_cell_at" fh f fd) (bl:mg "len"=none):jk P w K mg base CX0 1 f fd ["_law_script", "_law_k"] (zX K):=by
  refine F.ok wu (fun vs H Q E h=>?_) (fun cdv A outer s H vs Q E hr h=>?_)
  · obtain ⟨a,ns,k,rfl,_⟩:=h
    rfl
  · obtain ⟨a,ns,k,rfl,hS,hk,kk⟩:=h
    refine ⟨_,ic (AG (xl (FF (pv 1) (f6 jE rfl bl PySem.boot_len (fT (pv 0) iU)))) (kM (qc (zK sH (pv 0) (pv 1) (fun _ _=>rfl)))) sW)
      (ic (AG (kK (vH hr.units) (pv 0) (wt iU) (mW _)) (kM (qc jz)) sW)
      (kM (qc (fV m6 (fV nv (zK sH (pv 0) (fV p6 (pv 1) (f6 jE rfl bl PySem.boot_len (fT (pv 0) iU))) (fun _ _=>rfl)) jz) (pv 1))))),?_⟩
    refine ⟨_,rfl,_,rfl,a,_,rfl,.inl hS,k,_,rfl,rfl,_,rfl,?_⟩
    have hlen:(ns.map V.int).length=ns.length:=List.length_map ..
    rw [hlen]
    refine FK (fun hc=>?_) (fun hc=>?_)
    · have hc:k < (ns.length:Int):=of_decide_eq_true hc
      have hi:k.toNat < ns.length:=by omega
      refine ⟨_,rfl,_,rfl,a,_,k,.int (ns.getD k.toNat 0),rfl,rfl,hS,xC hk ?_,?_⟩
      · rw [List.getElem?_map,List.getElem?_eq_getElem hi,List.getD_eq_getElem?_getD,List.getElem?_eq_getElem hi]; rfl
      · have:=kk H (aM.refl H)
        rw [show cellAt ns k=ns.getD k.toNat 0 by unfold cellAt; rw [if_pos hc]] at this
        exact this
    · have hc:¬ k < (ns.length:Int):=fun z=>hc (decide_eq_true z)
      refine ⟨_,rfl,Nat.zero_le _,fun p hp=>⟨.list (ns.map .int),.list [],(tV hS (rH ns)).same (mH hp),tV (SqL.of cn) oW,shaped_ints ns,wJ,_,rfl,?_⟩⟩
      rw [Az]
      refine FK (fun hz=>?_) (fun hz=>?_)
      · have hz:ns=[]:=of_decide_eq_true hz
        have:=kk _ (mH (o:=.lst []) hp)
        rw [show cellAt ns k=0 by unfold cellAt; rw [if_neg hc,if_pos hz]] at this
        exact this
      · have hz:¬ ns=[]:=fun z=>hz (decide_eq_true z)
        have hpos:0 < (ns.length:Int):=by
          cases ns with
          | nil=>exact absurd rfl hz
          | cons _ _=>simp
        have h1:0≤k % (ns.length:Int):=Int.emod_nonneg _ (by omega)
        have h2:k % (ns.length:Int) < (ns.length:Int):=Int.emod_lt_of_pos _ hpos
        have hi:(k % (ns.length:Int)).toNat < ns.length:=by omega
        have s1:aM H (upd H p (.lst [])):=mH hp
        refine ⟨_,rfl,_,rfl,_,rfl,a,_,rfl,.inl (s1.seq hS),_,_,rfl,rfl,by rw [hlen]; exact hpos,a,_,_,.int (ns.getD (k % (ns.length:Int)).toNat 0),rfl,rfl,s1.seq hS,?_,_,_,rfl,rfl,.inr ⟨by decide,by decide⟩,_,rfl,_,_,rfl,rfl,?_⟩
        · rw [hlen]
          refine xC h1 ?_
          rw [List.getElem?_map,List.getElem?_eq_getElem hi,List.getD_eq_getElem?_getD,List.getElem?_eq_getElem hi]; rfl
        · have:=kk _ s1
          rw [show cellAt ns k=ns.getD (k % (ns.length:Int)).toNat 0 * 31 + k by unfold cellAt; rw [if_neg hc,if_neg hz]] at this
          exact this
theorem uS:bb ["_law_script", "_law_k", "_law_many", "_law_drawn"] ["_law_script", "_law_k", "_law_many"] (aG iJ):=⟨rfl,rfl,rfl,by decide +kernel,rfl,by decide +kernel,by decide +kernel⟩
theorem AJ {f fC:Addr} {fd fdC:FuncData} (F:Fun K "_law_mixed" "_law_mixed" iJ f fd) (FC:Fun K "_law_cell_at" "_law_cell_at" fh fC fdC) (bC:Binds K fdC ["_law_script", "_law_k"] []) (mC:mg "_law_cell_at"=some (.ref fC)) (bl:mg "len"=none):jk P w K mg base CX0 2 f fd ["_law_script", "_law_k", "_law_many"] (Dj K):=by
  have GC:jk P w K mg base CX0 1 fC fdC _ (zX K):=vM FC bl
  refine F.ok uS (fun vs H Q E h=>?_) (fun cdv A outer s H vs Q E hr h=>?_)
  · obtain ⟨a,ns,k,many,rfl,_⟩:=h
    rfl
  · obtain ⟨a,ns,k,many,rfl,hS,hk,hm,kk⟩:=h
    refine ⟨_,ic (rZ (i:=3) uS.nd rfl (Or.inl rfl) (fV p6 (fV nv (fV m6 (fV m6 (xN GC hr rfl mC FC.kp bC .nil Fp (fT (pv 0) (fT (pv 1) iU))) (fV nv jz (pv 1))) jz) jz) jz))
      (kM (qc (fV p6 (fV p6 (fV m6 (fV m6 (fV nv (pv 3) (pv 3)) (fV nv jz (pv 3))) (pv 1)) jz) (pv 2)))),?_⟩
    refine ⟨_,rfl,_,rfl,a,ns,k,rfl,hS,hk,fun H1 s1=>?_⟩
    refine ⟨_,rfl,_,_,rfl,rfl,.inl ⟨by decide,by decide⟩,_,_,rfl,rfl,_,_,rfl,rfl,_,_,rfl,rfl,.inr ⟨by decide,by decide⟩,_,_,rfl,rfl,(by show (0:Int) < 2147483647; decide),?_⟩
    have b1:=Cg ns k
    have b2:=C1 ns k
    have eD:(cellAt ns k + 7919 * k + 1) * 48271 % 2147483647=zx ns k:=rfl
    refine ⟨_,rfl,_,rfl,_,_,rfl,rfl,.inl ⟨?_,?_⟩,_,rfl,_,_,rfl,rfl,.inl ⟨by decide,by decide⟩,_,_,rfl,rfl,_,rfl,_,_,rfl,rfl,_,_,rfl,rfl,(by show (0:Int) < 2147483629; decide),_,rfl,_,_,rfl,rfl,hm,kk H1 s1⟩
    · show -(2 ^ 64) < (cellAt ns k + 7919 * k + 1) * 48271 % 2147483647
      rw [eD]; omega
    · show (cellAt ns k + 7919 * k + 1) * 48271 % 2147483647 < 2 ^ 64
      rw [eD]; omega
theorem b3 (T:Tx K mg cs):aY P w K mg base 2 "_law_mixed" 3 au:=by
  obtain ⟨f,fd,F,b,m⟩:=T.f_law_mixed
  obtain ⟨fC,fdC,FC,bC,mC⟩:=T.f_law_cell_at
  exact aY.old (AJ F FC bC mC T.b_len) m F.kp b CB
theorem u9:bb ["thing", "least", "most"] ["thing", "least", "most"] (aG lQ):=⟨rfl,rfl,rfl,by decide +kernel,rfl,by decide +kernel,by decide +kernel⟩
theorem dr (T:Tx K mg cs) { gf:Gf} (hL:∀ ds,ds.length=3→gf ds≠.no→bf (iA cs (ds.map some++List.replicate 0 none))=gf ds):aY P w K mg base 1 "is_whole" 3 gf:=by
  obtain ⟨f,fd,F,b,m⟩:=T.f_is_whole
  exact aY.of (O:=[]) (G:=iA cs) F u9 b m (by decide) (fun cdv A outer s H E hr=>(ax (cP (n9 (ni (eo (cG (i8 T.b_isinstance T.b_int By (by simp) (ah 0)))) (kR (cG (i8 T.b_isinstance T.b_bool CM (by simp) (ah 0)))))) (aA (aW jX)) ck)
      (aA (aW (yj (ah 1) (ah 0) (ah 2)))))) hL
theorem vi:bb ["thing", "fewest", "most"] ["thing", "fewest", "most"] (aG lL):=⟨rfl,rfl,rfl,by decide +kernel,rfl,by decide +kernel,by decide +kernel⟩
theorem dS (T:Tx K mg cs) { gf:Gf} (hL:∀ ds,ds.length=3→gf ds≠.no→bf (ij cs (ds.map some++List.replicate 0 none))=gf ds):aY P w K mg base 1 "is_tuple" 3 gf:=by
  obtain ⟨f,fd,F,b,m⟩:=T.f_is_tuple
  exact aY.of (O:=[]) (G:=ij cs) F vi b m (by decide) (fun cdv A outer s H E hr=>(aA (aW (pU (i8 T.b_isinstance T.b_tuple vh (by simp) (ah 0)) (m7 (yj (ah 1) (ip T.b_len (af (ah 0) aj)) (ah 2))))))) hL
theorem wZ:bb ["thing"] ["thing"] (aG nJ):=⟨rfl,rfl,rfl,by decide +kernel,rfl,by decide +kernel,by decide +kernel⟩
theorem nh (T:Tx K mg cs) { aQ aR gf:Gf} (dr:aY P w K mg base 1 "is_whole" 3 aQ) (dS:aY P w K mg base 1 "is_tuple" 3 aR) (hL:∀ ds,ds.length=1→gf ds≠.no→bf (gy cs aQ aR (ds.map some++List.replicate 0 none))=gf ds):aY P w K mg base 2 "is_part" 1 gf:=by
  obtain ⟨f,fd,F,b,m⟩:=T.f_is_part
  exact aY.of (O:=[]) (G:=gy cs aQ aR) F wZ b m (by decide) (fun cdv A outer s H E hr=>(ax (cP (n9 (ni (eo (cG (aN dS hr aT (af (ah 0) (af aH (af aH aj)))))) (kR (eo (cG (aN dr hr aT (af (b5 (ah 0) aH) (af aH (af (gJ T.c_MOST_LENGTH) aj))))))))) (aA (aW jX)) ck)
      (aA (aW (EZ (An (b5 (ah 0) aH)) (m7 (aN dr hr aT (af (b5 (ah 0) aH) (af aH (af (jH (gJ T.c_TOOLS) aH) aj)))))))))) hL
theorem si:bb ["thing"] ["thing"] (aG j9):=⟨rfl,rfl,rfl,by decide +kernel,rfl,by decide +kernel,by decide +kernel⟩
theorem o9:(["thing", "part"]:List Str).Nodup:=by decide +kernel
theorem ka (T:Tx K mg cs) { aR gf_is_part gf:Gf} (dS:aY P w K mg base 1 "is_tuple" 3 aR) (nh:aY P w K mg base 2 "is_part" 1 gf_is_part) (hL:∀ ds,ds.length=1→gf ds≠.no→bf (fv cs aR gf_is_part (ds.map some++List.replicate 0 none))=gf ds):aY P w K mg base 3 "are_parts" 1 gf:=by
  obtain ⟨f,fd,F,b,m⟩:=T.f_are_parts
  exact aY.of (O:=[]) (G:=fv cs aR gf_is_part) F si b m (by decide) (fun cdv A outer s H E hr=>(ax (cP (n9 (ni (eo (cG (aN dS hr aT (af (ah 0) (af aH (af (gJ T.c_MOST_PARTS) aj)))))) (kR (eo (cG (Am rfl T.b_all (af (dP (cw (M:=["thing"]) (own:=["part"]) (n0:=1) (cond:=bL) rfl (cz (ah 0)) cF (fun _ _ _ _=>(ba (i:=1) o9 rfl (Or.inl rfl) (.inr rfl))) (fun _ _ _ _=>.nil) (fun σ H Q qz3=>(by obtain ⟨A,δ,R,o⟩:=qz3; exact o H (aM.refl _))) (fun _ _ _ _=>(aN nh hr gS (af (ah 1) aj))))) aj))))))) (aA (aW jX)) ck)
      (aA (aW (An (b5 (b5 (ah 0) (sJ aH)) aH)))))) hL
theorem g8:bb ["thing", "every", "due", "late"] ["thing"] (aG kn):=⟨rfl,rfl,rfl,by decide +kernel,rfl,by decide +kernel,by decide +kernel⟩
theorem kj (T:Tx K mg cs) { aQ gf_are_parts aR gf:Gf} (dr:aY P w K mg base 1 "is_whole" 3 aQ) (ka:aY P w K mg base 3 "are_parts" 1 gf_are_parts) (dS:aY P w K mg base 1 "is_tuple" 3 aR) (hL:∀ ds,ds.length=1→gf ds≠.no→bf (dJ cs aQ gf_are_parts aR (ds.map some++List.replicate 3 none))=gf ds):aY P w K mg base 4 "is_errand" 1 gf:=by
  obtain ⟨f,fd,F,b,m⟩:=T.f_is_errand
  exact aY.of (O:=[]) (G:=dJ cs aQ gf_are_parts aR) F g8 b m (by decide) (fun cdv A outer s H E hr=>(ax (cP (eo (cG (aN dS hr aT (af (ah 0) (af aH (af aH aj)))))) (aA (aW jX)) ck)
      (ax (bB (i:=1) (b5 (ah 0) aH) g8.nd)
      (ax (bB (i:=2) (b5 (ah 0) aH) g8.nd)
      (ax (bB (i:=3) (b5 (ah 0) aH) g8.nd)
      (ax (cP (eo (cG (aN dr hr aT (af (ah 1) (af (gJ T.c_LEAST_EVERY) (af (gJ T.c_MOST_EVERY) aj)))))) (aA (aW jX)) ck)
      (ax (cP (eo (cG (aN dr hr aT (af (ah 3) (af aH (af (xX rfl T.b_min (af (gJ T.c_MOST_LATE) (af (jH (ah 1) aH) aj))) aj)))))) (aA (aW jX)) ck)
      (aA (aW (pU (aN dr hr aT (af (ah 2) (af aH (af (jH (ah 1) (ah 3)) aj)))) (m7 (aN ka hr aT (af (b5 (ah 0) aH) aj))))))))))))) hL
theorem wX:bb ["errands"] ["errands"] (aG ny):=⟨rfl,rfl,rfl,by decide +kernel,rfl,by decide +kernel,by decide +kernel⟩
theorem sZ:(["errands", "errand"]:List Str).Nodup:=by decide +kernel
theorem jd (T:Tx K mg cs) { aR gf_is_errand gf:Gf} (dS:aY P w K mg base 1 "is_tuple" 3 aR) (kj:aY P w K mg base 4 "is_errand" 1 gf_is_errand) (hL:∀ ds,ds.length=1→gf ds≠.no→bf (g9 cs aR gf_is_errand (ds.map some++List.replicate 0 none))=gf ds):aY P w K mg base 5 "checked" 1 gf:=by
  obtain ⟨f,fd,F,b,m⟩:=T.f_checked
  exact aY.of (O:=[]) (G:=g9 cs aR gf_is_errand) F wX b m (by decide) (fun cdv A outer s H E hr=>(ax (cP (n9 (ni (eo (cG (aN dS hr aT (af (ah 0) (af aH (af (gJ T.c_MOST_ERRANDS) aj)))))) (kR (eo (cG (Am rfl T.b_all (af (dP (cw (M:=["errands"]) (own:=["errand"]) (n0:=1) (cond:=bL) rfl (cz (ah 0)) cF (fun _ _ _ _=>(ba (i:=1) sZ rfl (Or.inl rfl) (.inr rfl))) (fun _ _ _ _=>.nil) (fun σ H Q qz3=>(by obtain ⟨A,δ,R,o⟩:=qz3; exact o H (aM.refl _))) (fun _ _ _ _=>(aN kj hr gS (af (ah 1) aj))))) aj))))))) (aA (rG rfl AO T.e_NoErrands (af AM aj))) ck)
      (aA (aW (ah 0))))) hL
theorem xf:bb ["errand"] ["errand"] (aG nC):=⟨rfl,rfl,rfl,by decide +kernel,rfl,by decide +kernel,by decide +kernel⟩
theorem tP:(["errand", "part"]:List Str).Nodup:=by decide +kernel
theorem kI (T:Tx K mg cs) { gf:Gf} (hL:∀ ds,ds.length=1→gf ds≠.no→bf (nB cs (ds.map some++List.replicate 0 none))=gf ds):aY P w K mg base 1 "work_of" 1 gf:=by
  obtain ⟨f,fd,F,b,m⟩:=T.f_work_of
  exact aY.of (O:=[]) (G:=nB cs) F xf b m (by decide) (fun cdv A outer s H E hr=>(aA (aW (Ep rfl T.b_sum (af (dP (cw (M:=["errand"]) (own:=["part"]) (n0:=1) (cond:=bL) rfl (cz (b5 (ah 0) aH)) cF (fun _ _ _ _=>(ba (i:=1) tP rfl (Or.inl rfl) (.inr rfl))) (fun _ _ _ _=>.nil) (fun σ H Q qz3=>(by obtain ⟨A,δ,R,o⟩:=qz3; exact o H (aM.refl _))) (fun _ _ _ _=>(b5 (ah 1) aH)))) aj))))) hL
theorem uG:bb ["errand", "tool"] ["errand", "tool"] (aG l7):=⟨rfl,rfl,rfl,by decide +kernel,rfl,by decide +kernel,by decide +kernel⟩
theorem qT:(["errand", "tool", "part"]:List Str).Nodup:=by decide +kernel
theorem gz (T:Tx K mg cs) { gf:Gf} (hL:∀ ds,ds.length=2→gf ds≠.no→bf (ib cs (ds.map some++List.replicate 0 none))=gf ds):aY P w K mg base 1 "has_tool" 2 gf:=by
  obtain ⟨f,fd,F,b,m⟩:=T.f_has_tool
  exact aY.of (O:=[]) (G:=ib cs) F uG b m (by decide) (fun cdv A outer s H E hr=>(aA (aW (Fl (ah 1) (dP (cw (M:=["errand", "tool"]) (own:=["part"]) (n0:=2) (cond:=bL) rfl (cz (b5 (ah 0) aH)) cF (fun _ _ _ _=>(ba (i:=2) qT rfl (Or.inl rfl) (.inr rfl))) (fun _ _ _ _=>.nil) (fun σ H Q qz3=>(by obtain ⟨A,δ,R,o⟩:=qz3; exact o H (aM.refl _))) (fun _ _ _ _=>(b5 (ah 2) aH)))))))) hL
theorem mT:bb ["errands", "ranks", "tool", "place", "number"] ["errands", "ranks", "tool"] (aG o7):=⟨rfl,rfl,rfl,by decide +kernel,rfl,by decide +kernel,by decide +kernel⟩
theorem pL (T:Tx K mg cs) { a6 gf:Gf} (gz:aY P w K mg base 1 "has_tool" 2 a6) (hL:∀ ds,ds.length=3→gf ds≠.no→bf (j4 cs a6 (ds.map some++List.replicate 2 none))=gf ds):aY P w K mg base 2 "height" 3 gf:=by
  obtain ⟨f,fd,F,b,m⟩:=T.f_height
  exact aY.of (O:=[]) (G:=j4 cs a6) F mT b m (by decide) (fun cdv A outer s H E hr=>(ax (dg PassesOwn.leaving rfl (j7 T.b_enumerate (af (ah 1) aj)) (oU (is:=[3,4]) (by decide)) (lI rfl (c9 (ba (i:=3) mT.nd rfl (by first | exact Or.inl rfl | exact Or.inr rfl)) (c9 (ba (i:=4) mT.nd rfl (by first | exact Or.inl rfl | exact Or.inr rfl)) je))) (aA (cP (cG (aN gz hr aT (af (b5 (ah 0) (ah 4)) (af (ah 2) aj)))) (aA (aW (ah 3))) ck)))
      (aA (aW iQ)))) hL
theorem qN:bb ["errands", "ranks"] ["errands", "ranks"] (aG jr):=⟨rfl,rfl,rfl,by decide +kernel,rfl,by decide +kernel,by decide +kernel⟩
theorem oK:(["errands", "ranks", "tool"]:List Str).Nodup:=by decide +kernel
theorem jw (T:Tx K mg cs) { cI gf:Gf} (pL:aY P w K mg base 2 "height" 3 cI) (hL:∀ ds,ds.length=2→gf ds≠.no→bf (fI cs cI (ds.map some++List.replicate 0 none))=gf ds):aY P w K mg base 3 "heights_of" 2 gf:=by
  obtain ⟨f,fd,F,b,m⟩:=T.f_heights_of
  exact aY.of (O:=[]) (G:=fI cs cI) F qN b m (by decide) (fun cdv A outer s H E hr=>(aA (aW (dP (cw (M:=["errands", "ranks"]) (own:=["tool"]) (n0:=2) (cond:=bL) rfl (cX T.b_range (af (gJ T.c_TOOLS) aj)) cF (fun _ _ _ _=>(ba (i:=2) oK rfl (Or.inl rfl) (.inr rfl))) (fun _ _ _ _=>.nil) (fun σ H Q qz3=>(by obtain ⟨A,δ,R,o⟩:=qz3; exact o H (aM.refl _))) (fun _ _ _ _=>(aN pL hr gS (af (ah 0) (af (ah 1) (af (ah 2) aj)))))))))) hL
theorem eG:bb ["errands", "ranks", "number", "place", "tops", "found", "lower", "part", "pair"] ["errands", "ranks", "number"] (aG lF):=⟨rfl,rfl,rfl,by decide +kernel,rfl,by decide +kernel,by decide +kernel⟩
theorem lV (T:Tx K mg cs) { bT gf:Gf} (jw:aY P w K mg base 3 "heights_of" 2 bT) (ng:Bl P w K mg base 1 "Holding" cs.Holding ["number", "part", "tool", "times"]) (hL:∀ ds,ds.length=3→gf ds≠.no→bf (hV cs bT (ds.map some++List.replicate 6 none))=gf ds):aY P w K mg base 4 "holdings" 3 gf:=by
  obtain ⟨f,fd,F,b,m⟩:=T.f_holdings
  exact aY.of (O:=[5]) (G:=hV cs bT) F eG b m (by decide) (fun cdv A outer s H E hr=>(ax (bB (i:=3) (vp (ah 1) (ah 2)) eG.nd)
      (ax (bB (i:=4) (aN jw hr aT (af (ah 0) (af (ah 1) aj))) eG.nd)
      (ax (kT (i:=5) (kO aj) eG.nd)
      (ax (dg PassesOwn.leaving rfl (cz (ko (ah 1) (j8 (b9 (ah 3) aH)) jY)) (dG (i:=6) (by decide)) (ba (i:=6) eG.nd rfl (by first | exact Or.inl rfl | exact Or.inr rfl)) (aA (dg PassesOwn.leaving rfl (j7 T.b_enumerate (af (b5 (b5 (ah 0) (ah 6)) aH) aj)) (oU (is:=[7,8]) (by decide)) (lI rfl (c9 (ba (i:=7) eG.nd rfl (by first | exact Or.inl rfl | exact Or.inr rfl)) (c9 (ba (i:=8) eG.nd rfl (by first | exact Or.inl rfl | exact Or.inr rfl)) je))) (aA (cP (n9 (yv (mM (b5 (ah 8) aH)) (vy (AF (b5 (ah 4) (b5 (ah 8) aH)) (ah 3))))) (aA (mL (i:=5) (BO ng hr aT (af (ah 6) (af (ah 7) (af (b5 (ah 8) aH) (af (jH (b5 (ah 8) aH) aH) aj))))))) ck)))))
      (aA (aW (ah 5)))))))) hL
theorem oN:bb ["errands", "ranks", "number"] ["errands", "ranks", "number"] (aG iw):=⟨rfl,rfl,rfl,by decide +kernel,rfl,by decide +kernel,by decide +kernel⟩
theorem mF:(["errands", "ranks", "number", "holding"]:List Str).Nodup:=by decide +kernel
theorem iu (T:Tx K mg cs) { cc gf:Gf} (lV:aY P w K mg base 4 "holdings" 3 cc) (hL:∀ ds,ds.length=3→gf ds≠.no→bf (eL cs cc (ds.map some++List.replicate 0 none))=gf ds):aY P w K mg base 5 "hold_by_high" 3 gf:=by
  obtain ⟨f,fd,F,b,m⟩:=T.f_hold_by_high
  exact aY.of (O:=[]) (G:=eL cs cc) F oN b m (by decide) (fun cdv A outer s H E hr=>(aA (aW (Cw rfl T.b_max (dP (cw (M:=["errands", "ranks", "number"]) (own:=["holding"]) (n0:=3) (cond:=bL) rfl (cz (aN lV hr aT (af (ah 0) (af (ah 1) (af (ah 2) aj))))) cF (fun _ _ _ _=>(ba (i:=3) mF rfl (Or.inl rfl) (.inr rfl))) (fun _ _ _ _=>.nil) (fun σ H Q qz3=>(by obtain ⟨A,δ,R,o⟩:=qz3; exact o H (aM.refl _))) (fun _ _ _ _=>(DF T.cl_Holding T.na_Holding_times (ah 3))))) aH)))) hL
theorem qH:bb ["times", "every"] ["times", "every"] (aG ju):=⟨rfl,rfl,rfl,by decide +kernel,rfl,by decide +kernel,by decide +kernel⟩
theorem jh (T:Tx K mg cs) { gf:Gf} (hL:∀ ds,ds.length=2→gf ds≠.no→bf (f7 cs (ds.map some++List.replicate 0 none))=gf ds):aY P w K mg base 1 "rounded_up" 2 gf:=by
  obtain ⟨f,fd,F,b,m⟩:=T.f_rounded_up
  exact aY.of (O:=[]) (G:=f7 cs) F qH b m (by decide) (fun cdv A outer s H E hr=>(aA (aW (AD (jH (b9 (ah 0) (ah 1)) aH) (ah 1))))) hL
theorem mx:bb ["errands", "ranks", "number", "held_up", "times", "total", "higher", "errand"] ["errands", "ranks", "number", "held_up", "times"] (aG xo):=⟨rfl,rfl,rfl,by decide +kernel,rfl,by decide +kernel,by decide +kernel⟩
theorem sR (T:Tx K mg cs) { gf_work_of bG gf:Gf} (kI:aY P w K mg base 1 "work_of" 1 gf_work_of) (jh:aY P w K mg base 1 "rounded_up" 2 bG) (hL:∀ ds,ds.length=5→gf ds≠.no→bf (qd cs gf_work_of bG (ds.map some++List.replicate 3 none))=gf ds):aY P w K mg base 2 "need" 5 gf:=by
  obtain ⟨f,fd,F,b,m⟩:=T.f_need
  exact aY.of (O:=[]) (G:=qd cs gf_work_of bG) F mx b m (by decide) (fun cdv A outer s H E hr=>(ax (bB (i:=5) (b9 (ah 3) (aN kI hr aT (af (b5 (ah 0) (ah 2)) aj))) mx.nd)
      (ax (dg PassesOwn.leaving rfl (cz (ko (ah 1) jY (j8 (vp (ah 1) (ah 2))))) (dG (i:=6) (by decide)) (ba (i:=6) mx.nd rfl (by first | exact Or.inl rfl | exact Or.inr rfl)) (ax (bB (i:=7) (b5 (ah 0) (ah 6)) mx.nd)
      (aA (Cj (i:=5) (tx (aN kI hr aT (af (ah 7) aj)) (aN jh hr aT (af (b9 (ah 4) (b5 (ah 7) aH)) (af (b5 (ah 7) aH) aj)))) mx.nd))))
      (aA (aW (ah 5)))))) hL
theorem eQ:bb ["errands", "ranks", "number", "held_up", "most", "found", "level", "following"] ["errands", "ranks", "number", "held_up"] (aG kx):=⟨rfl,rfl,rfl,by decide +kernel,rfl,by decide +kernel,by decide +kernel⟩
theorem kl (T:Tx K mg cs) { cH gf:Gf} (sR:aY P w K mg base 2 "need" 5 cH) (hL:∀ ds,ds.length=4→gf ds≠.no→bf (gQ cs cH (ds.map some++List.replicate 4 none))=gf ds):aY P w K mg base 3 "levels_by" 4 gf:=by
  obtain ⟨f,fd,F,b,m⟩:=T.f_levels_by
  exact aY.of (O:=[5]) (G:=gQ cs cH) F eQ b m (by decide) (fun cdv A outer s H E hr=>(ax (bB (i:=4) (jH (b5 (b5 (ah 0) (ah 2)) aH) (b5 (b5 (ah 0) (ah 2)) aH)) eQ.nd)
      (ax (kT (i:=5) (kO aj) eQ.nd)
      (ax (bB (i:=6) (aN sR hr aT (af (ah 0) (af (ah 1) (af (ah 2) (af (ah 3) (af aH aj)))))) eQ.nd)
      (ax (rE 1000000 PassesOwn.leaving (AF (ah 6) (ah 4)) (ax (mL (i:=5) (ah 6))
      (ax (bB (i:=7) (aN sR hr aT (af (ah 0) (af (ah 1) (af (ah 2) (af (ah 3) (af (ah 6) aj)))))) eQ.nd)
      (ax (cP (qb hr (ah 7) (ah 6)) (aA (aW (ah 5))) ck)
      (aA (bB (i:=6) (ah 7) eQ.nd))))))
      (aA (aW iQ))))))) hL
theorem lC:bb ["errands", "ranks", "number", "held_up", "found"] ["errands", "ranks", "number", "held_up"] (aG jD):=⟨rfl,rfl,rfl,by decide +kernel,rfl,by decide +kernel,by decide +kernel⟩
theorem jG (T:Tx K mg cs) { b8 gf:Gf} (kl:aY P w K mg base 3 "levels_by" 4 b8) (hL:∀ ds,ds.length=4→gf ds≠.no→bf (eO cs b8 (ds.map some++List.replicate 1 none))=gf ds):aY P w K mg base 4 "longest_by" 4 gf:=by
  obtain ⟨f,fd,F,b,m⟩:=T.f_longest_by
  exact aY.of (O:=[]) (G:=eO cs b8) F lC b m (by decide) (fun cdv A outer s H E hr=>(ax (bB (i:=4) (aN kl hr aT (af (ah 0) (af (ah 1) (af (ah 2) (af (ah 3) aj))))) lC.nd)
      (aA (aW (C8 (tm (ah 4)) iQ (b5 (ah 4) (sJ aH))))))) hL
theorem l8:bb ["errands", "ranks", "number"] ["errands", "ranks", "number"] (aG fO):=⟨rfl,rfl,rfl,by decide +kernel,rfl,by decide +kernel,by decide +kernel⟩
theorem fP (T:Tx K mg cs) { bI bX gf:Gf} (iu:aY P w K mg base 5 "hold_by_high" 3 bI) (jG:aY P w K mg base 4 "longest_by" 4 bX) (hL:∀ ds,ds.length=3→gf ds≠.no→bf (de cs bI bX (ds.map some++List.replicate 0 none))=gf ds):aY P w K mg base 6 "longest_by_high" 3 gf:=by
  obtain ⟨f,fd,F,b,m⟩:=T.f_longest_by_high
  exact aY.of (O:=[]) (G:=de cs bI bX) F l8 b m (by decide) (fun cdv A outer s H E hr=>(aA (aW (aN jG hr aT (af (ah 0) (af (ah 1) (af (ah 2) (af (aN iu hr aT (af (ah 0) (af (ah 1) (af (ah 2) aj)))) aj)))))))) hL
theorem oh:bb ["errands", "ranks", "number", "room", "answer"] ["errands", "ranks", "number", "room"] (aG lK):=⟨rfl,rfl,rfl,by decide +kernel,rfl,by decide +kernel,by decide +kernel⟩
theorem lU (T:Tx K mg cs) { bp gf:Gf} (fP:aY P w K mg base 6 "longest_by_high" 3 bp) (hL:∀ ds,ds.length=4→gf ds≠.no→bf (gv cs bp (ds.map some++List.replicate 1 none))=gf ds):aY P w K mg base 7 "has_room" 4 gf:=by
  obtain ⟨f,fd,F,b,m⟩:=T.f_has_room
  exact aY.of (O:=[]) (G:=gv cs bp) F oh b m (by decide) (fun cdv A outer s H E hr=>(ax (bB (i:=4) (aN fP hr aT (af (ah 0) (af (ah 1) (af (ah 2) aj)))) oh.nd)
      (aA (aW (pU (xM (ah 4)) (m7 (EW (b9 (ah 4) (ah 3)) (b5 (b5 (ah 0) (ah 2)) aH)))))))) hL
theorem jS:bb ["errands", "some", "number", "higher", "lower"] ["errands", "some", "number"] (aG kv):=⟨rfl,rfl,rfl,by decide +kernel,rfl,by decide +kernel,by decide +kernel⟩
theorem kz:(["errands", "some", "number", "higher", "lower", "other"]:List Str).Nodup:=by decide +kernel
theorem kh (T:Tx K mg cs) { gf:Gf} (hL:∀ ds,ds.length=3→gf ds≠.no→bf (gR cs (ds.map some++List.replicate 2 none))=gf ds):aY P w K mg base 1 "as_lowest" 3 gf:=by
  obtain ⟨f,fd,F,b,m⟩:=T.f_as_lowest
  exact aY.of (O:=[]) (G:=gR cs) F jS b m (by decide) (fun cdv A outer s H E hr=>(ax (vv (i:=3) (uN (i:=3) (M:=["errands", "some", "number", "higher", "lower"]) (own:=["other"]) (n0:=5) (cond:=(gT (g2 dNe (ag 5) (ag 2)))) rfl jS.nd (cz (ah 1)) cF (fun _ _ _ _=>(ba (i:=5) kz rfl (Or.inl rfl) (.inr rfl))) (fun _ _ _ _=>(kQ (o5 hr (ah 5) (ah 2)))) (fun _ _ _ h=>h) (fun _ _ _ _=>(ah 5))))
      (ax (vv (i:=4) (uN (i:=4) (M:=["errands", "some", "number", "higher", "lower"]) (own:=["other"]) (n0:=5) (cond:=(gT (g2 (gG true) (ag 5) (ag 1)))) rfl jS.nd (cX T.b_range (af (ip T.b_len (af (ah 0) aj)) aj)) cF (fun _ _ _ _=>(ba (i:=5) kz rfl (Or.inl rfl) (.inr rfl))) (fun _ _ _ _=>(kQ (nN (ah 5) (ah 1)))) (fun _ _ _ h=>h) (fun _ _ _ _=>(ah 5))))
      (aA (aW (ir T.b_tuple (af (b9 (b9 (ah 3) (fX (af (ah 2) aj))) (ah 4)) aj))))))) hL
theorem qO:bb ["errands", "placed"] ["errands", "placed"] (aG jT):=⟨rfl,rfl,rfl,by decide +kernel,rfl,by decide +kernel,by decide +kernel⟩
theorem oF:(["errands", "placed", "number"]:List Str).Nodup:=by decide +kernel
theorem ji (T:Tx K mg cs) { gf:Gf} (hL:∀ ds,ds.length=2→gf ds≠.no→bf (fN cs (ds.map some++List.replicate 0 none))=gf ds):aY P w K mg base 1 "not_placed" 2 gf:=by
  obtain ⟨f,fd,F,b,m⟩:=T.f_not_placed
  exact aY.of (O:=[]) (G:=fN cs) F qO b m (by decide) (fun cdv A outer s H E hr=>(aA (aW (dP (cw (M:=["errands", "placed"]) (own:=["number"]) (n0:=2) (cond:=(gT (g2 (gG true) (ag 2) (ag 1)))) rfl (cX T.b_range (af (ip T.b_len (af (ah 0) aj)) aj)) cF (fun _ _ _ _=>(ba (i:=2) oF rfl (Or.inl rfl) (.inr rfl))) (fun _ _ _ _=>(kQ (nN (ah 2) (ah 1)))) (fun _ _ _ h=>h) (fun _ _ _ _=>(ah 2))))))) hL
theorem e9:bb ["errands", "placed", "room", "left", "number"] ["errands", "placed", "room"] (aG fq):=⟨rfl,rfl,rfl,by decide +kernel,rfl,by decide +kernel,by decide +kernel⟩
theorem dM (T:Tx K mg cs) { bN cg bF gf:Gf} (kh:aY P w K mg base 1 "as_lowest" 3 bN) (lU:aY P w K mg base 7 "has_room" 4 cg) (ji:aY P w K mg base 1 "not_placed" 2 bF) (hL:∀ ds,ds.length=3→gf ds≠.no→bf (cW cs bN cg bF (ds.map some++List.replicate 2 none))=gf ds):aY P w K mg base 8 "following_lowest" 3 gf:=by
  obtain ⟨f,fd,F,b,m⟩:=T.f_following_lowest
  exact aY.of (O:=[]) (G:=cW cs bN cg bF) F e9 b m (by decide) (fun cdv A outer s H E hr=>(ax (bB (i:=3) (aN ji hr aT (af (ah 0) (af (ah 1) aj))) e9.nd)
      (ax (dg PassesOwn.leaving rfl (cz (ah 3)) (dG (i:=4) (by decide)) (ba (i:=4) e9.nd rfl (by first | exact Or.inl rfl | exact Or.inr rfl)) (aA (cP (cG (aN lU hr aT (af (ah 0) (af (aN kh hr aT (af (ah 0) (af (ah 3) (af (ah 4) aj)))) (af (ah 4) (af (ah 2) aj)))))) (aA (aW (ah 4))) ck)))
      (aA (aW iQ))))) hL
theorem cC:bb ["errands", "room", "placed", "number"] ["errands", "room"] (aG fe):=⟨rfl,rfl,rfl,by decide +kernel,rfl,by decide +kernel,by decide +kernel⟩
theorem fb (T:Tx K mg cs) { aP gf:Gf} (dM:aY P w K mg base 8 "following_lowest" 3 aP) (hL:∀ ds,ds.length=2→gf ds≠.no→bf (cR cs aP (ds.map some++List.replicate 2 none))=gf ds):aY P w K mg base 9 "placed_from_below" 2 gf:=by
  obtain ⟨f,fd,F,b,m⟩:=T.f_placed_from_below
  exact aY.of (O:=[]) (G:=cR cs aP) F cC b m (by decide) (fun cdv A outer s H E hr=>(ax (bB (i:=2) (nq aj) cC.nd)
      (ax (bB (i:=3) (aN dM hr aT (af (ah 0) (af (ah 2) (af (ah 1) aj)))) cC.nd)
      (ax (rE 1000000 PassesOwn.leaving (mM (ah 3)) (ax (bB (i:=2) (b9 (nq (af (ah 3) aj)) (ah 2)) cC.nd)
      (aA (bB (i:=3) (aN dM hr aT (af (ah 0) (af (ah 2) (af (ah 1) aj)))) cC.nd))))
      (aA (aW (ah 2))))))) hL
theorem hW:bb ["errands", "room", "placed"] ["errands", "room"] (aG fH):=⟨rfl,rfl,rfl,by decide +kernel,rfl,by decide +kernel,by decide +kernel⟩
theorem dm (T:Tx K mg cs) { aZ gf:Gf} (fb:aY P w K mg base 9 "placed_from_below" 2 aZ) (hL:∀ ds,ds.length=2→gf ds≠.no→bf (da cs aZ (ds.map some++List.replicate 1 none))=gf ds):aY P w K mg base 10 "ranks_with_room" 2 gf:=by
  obtain ⟨f,fd,F,b,m⟩:=T.f_ranks_with_room
  exact aY.of (O:=[]) (G:=da cs aZ) F hW b m (by decide) (fun cdv A outer s H E hr=>(ax (bB (i:=2) (aN fb hr aT (af (ah 0) (af (ah 1) aj))) hW.nd)
      (aA (aW (C8 (qb hr (ip T.b_len (af (ah 2) aj)) (ip T.b_len (af (ah 0) aj))) (ah 2) iQ))))) hL
theorem wW:bb ["errands"] ["errands"] (aG nH):=⟨rfl,rfl,rfl,by decide +kernel,rfl,by decide +kernel,by decide +kernel⟩
theorem mR (T:Tx K mg cs) { aE bc gf:Gf} (dm:aY P w K mg base 10 "ranks_with_room" 2 aE) (jd:aY P w K mg base 5 "checked" 1 bc) (hL:∀ ds,ds.length=1→gf ds≠.no→bf (gp cs aE bc (ds.map some++List.replicate 0 none))=gf ds):aY P w K mg base 11 "fitting" 1 gf:=by
  obtain ⟨f,fd,F,b,m⟩:=T.f_fitting
  exact aY.of (O:=[]) (G:=gp cs aE bc) F wW b m (by decide) (fun cdv A outer s H E hr=>(ax (u6 (aN jd hr aT (af (ah 0) aj)))
      (aA (aW (aN dm hr aT (af (ah 0) (af aH aj))))))) hL
theorem oE:bb ["errand", "other"] ["errand", "other"] (aG iE):=⟨rfl,rfl,rfl,by decide +kernel,rfl,by decide +kernel,by decide +kernel⟩
theorem ml:(["errand", "other", "tool"]:List Str).Nodup:=by decide +kernel
theorem hZ (T:Tx K mg cs) { a6 gf:Gf} (gz:aY P w K mg base 1 "has_tool" 2 a6) (hL:∀ ds,ds.length=2→gf ds≠.no→bf (eI cs a6 (ds.map some++List.replicate 0 none))=gf ds):aY P w K mg base 2 "share_a_tool" 2 gf:=by
  obtain ⟨f,fd,F,b,m⟩:=T.f_share_a_tool
  exact aY.of (O:=[]) (G:=eI cs a6) F oE b m (by decide) (fun cdv A outer s H E hr=>(aA (aW (AV rfl T.b_any (af (dP (cw (M:=["errand", "other"]) (own:=["tool"]) (n0:=2) (cond:=bL) rfl (cX T.b_range (af (gJ T.c_TOOLS) aj)) cF (fun _ _ _ _=>(ba (i:=2) ml rfl (Or.inl rfl) (.inr rfl))) (fun _ _ _ _=>.nil) (fun σ H Q qz3=>(by obtain ⟨A,δ,R,o⟩:=qz3; exact o H (aM.refl _))) (fun _ _ _ _=>(pU (aN gz hr gS (af (ah 0) (af (ah 2) aj))) (m7 (aN gz hr gS (af (ah 1) (af (ah 2) aj)))))))) aj))))) hL
theorem dX:bb ["errands", "bundles", "number", "errand", "joined", "apart", "bundle"] ["errands"] (aG nG):=⟨rfl,rfl,rfl,by decide +kernel,rfl,by decide +kernel,by decide +kernel⟩
theorem tN:(["errands", "bundles", "number", "errand", "joined", "apart", "bundle", "other"]:List Str).Nodup:=by decide +kernel
theorem nz (T:Tx K mg cs) { bq gf:Gf} (hZ:aY P w K mg base 2 "share_a_tool" 2 bq) (hL:∀ ds,ds.length=1→gf ds≠.no→bf (iY cs bq (ds.map some++List.replicate 6 none))=gf ds):aY P w K mg base 3 "bundled" 1 gf:=by
  obtain ⟨f,fd,F,b,m⟩:=T.f_bundled
  exact aY.of (O:=[5]) (G:=iY cs bq) F dX b m (by decide) (fun cdv A outer s H E hr=>(ax (bB (i:=1) (fX aj) dX.nd)
      (ax (dg PassesOwn.leaving rfl (j7 T.b_enumerate (af (ah 0) aj)) (oU (is:=[2,3]) (by decide)) (lI rfl (c9 (ba (i:=2) dX.nd rfl (by first | exact Or.inl rfl | exact Or.inr rfl)) (c9 (ba (i:=3) dX.nd rfl (by first | exact Or.inl rfl | exact Or.inr rfl)) je))) (ax (bB (i:=4) (fX (af (ah 2) aj)) dX.nd)
      (ax (kT (i:=5) (kO aj) dX.nd)
      (ax (dg PassesOwn.leaving rfl (cz (ah 1)) (dG (i:=6) (by decide)) (ba (i:=6) dX.nd rfl (by first | exact Or.inl rfl | exact Or.inr rfl)) (aA (cP (cG (AV rfl T.b_any (af (dP (cw (M:=["errands", "bundles", "number", "errand", "joined", "apart", "bundle"]) (own:=["other"]) (n0:=7) (cond:=bL) rfl (cz (ah 6)) cF (fun _ _ _ _=>(ba (i:=7) tN rfl (Or.inl rfl) (.inr rfl))) (fun _ _ _ _=>.nil) (fun σ H Q qz3=>(by obtain ⟨A,δ,R,o⟩:=qz3; exact o H (aM.refl _))) (fun _ _ _ _=>(aN hZ hr gS (af (ah 3) (af (b5 (ah 0) (ah 7)) aj)))))) aj))) (aA (bB (i:=4) (b9 (ah 6) (ah 4)) dX.nd)) (aA (mL (i:=5) (ah 6))))))
      (aA (Ao (i:=5) (O':=[]) (bB (i:=1) (b9 (ah 5) (fX (af (ah 4) aj))) dX.nd)))))))
      (aA (aW (ah 1)))))) hL
theorem oM:bb ["errands", "some"] ["errands", "some"] (aG iy):=⟨rfl,rfl,rfl,by decide +kernel,rfl,by decide +kernel,by decide +kernel⟩
theorem mn:(["errands", "some", "number"]:List Str).Nodup:=by decide +kernel
theorem cV (T:Tx K mg cs) { aE gf:Gf} (dm:aY P w K mg base 10 "ranks_with_room" 2 aE) (hL:∀ ds,ds.length=2→gf ds≠.no→bf (eH cs aE (ds.map some++List.replicate 0 none))=gf ds):aY P w K mg base 11 "fit_one_hand" 2 gf:=by
  obtain ⟨f,fd,F,b,m⟩:=T.f_fit_one_hand
  exact aY.of (O:=[]) (G:=eH cs aE) F oM b m (by decide) (fun cdv A outer s H E hr=>(aA (aW (xM (aN dm hr aT (af (ir T.b_tuple (af (dP (cw (M:=["errands", "some"]) (own:=["number"]) (n0:=2) (cond:=bL) rfl (cz (ah 1)) cF (fun _ _ _ _=>(ba (i:=2) mn rfl (Or.inl rfl) (.inr rfl))) (fun _ _ _ _=>.nil) (fun σ H Q qz3=>(by obtain ⟨A,δ,R,o⟩:=qz3; exact o H (aM.refl _))) (fun _ _ _ _=>(b5 (ah 0) (ah 2))))) aj)) (af aH aj))))))) hL
theorem fL:bb ["errands", "bundles", "piles", "hand", "pile", "grown", "found"] ["errands", "bundles", "piles"] (aG kq):=⟨rfl,rfl,rfl,by decide +kernel,rfl,by decide +kernel,by decide +kernel⟩
theorem fz (T:Tx K mg cs) { bg aK gf:Gf} {k0:Nat} (cV:aY P w K mg base k0 "fit_one_hand" 2 bg) (fz:aY P w K mg base k0 "all_dealt" 3 aK) (hL:∀ ds,ds.length=3→gf ds≠.no→bf (gX cs bg aK (ds.map some++List.replicate 4 none))=gf ds):aY P w K mg base (k0 + 1) "all_dealt" 3 gf:=by
  obtain ⟨f,fd,F,b,m⟩:=T.f_all_dealt
  exact aY.of (O:=[]) (G:=gX cs bg aK) F fL b m (by decide) (fun cdv A outer s H E hr=>(ax (cP (qb hr (ip T.b_len (af (ah 1) aj)) aH) (aA (aW (ah 2))) ck)
      (ax (dg PassesOwn.leaving rfl (j7 T.b_enumerate (af (ah 2) aj)) (oU (is:=[3,4]) (by decide)) (lI rfl (c9 (ba (i:=3) fL.nd rfl (by first | exact Or.inl rfl | exact Or.inr rfl)) (c9 (ba (i:=4) fL.nd rfl (by first | exact Or.inl rfl | exact Or.inr rfl)) je))) (ax (bB (i:=5) (nE T.b_sorted (af (b9 (ah 4) (b5 (ah 1) aH)) aj)) fL.nd)
      (ax (cP (cG (aN cV hr aT (af (ah 0) (af (ah 5) aj)) (Nat.le_refl _))) (ax (bB (i:=6) (aN fz hr aT (af (ah 0) (af (ko (ah 1) (j8 aH) jY) (af (b9 (b9 (ko (ah 2) jY (j8 (ah 3))) (fX (af (ah 5) aj))) (ko (ah 2) (j8 (b9 (ah 3) aH)) jY)) aj))) (Nat.le_refl _)) fL.nd)
      (aA (cP (mM (ah 6)) (aA (aW (ah 6))) ck))) ck)
      (aA (cP (qb hr (ip T.b_len (af (ah 4) aj)) aH) (aA (aW iQ)) ck)))))
      (aA (aW iQ))))) hL
theorem mG (T:Tx K mg cs) (cV:aY P w K mg base 11 "fit_one_hand" 2 (bg)):∀ n:Nat,aY P w K mg base (11 + n + 1) "all_dealt" 3 (aK n)
  | 0=>fz (k0:=11) T (cV.mono (by omega)) (by obtain ⟨f,fd,F,b,m⟩:=T.f_all_dealt; exact aY.nil F m b) (nR cs 0)
  | n + 1=>fz (k0:=11 + n + 1) T (cV.mono (by omega)) (mG T cV n) (nR cs (n + 1))
theorem qI:bb ["errands", "hands"] ["errands", "hands"] (aG jM):=⟨rfl,rfl,rfl,by decide +kernel,rfl,by decide +kernel,by decide +kernel⟩
theorem oH:(["errands", "hands", "hand"]:List Str).Nodup:=by decide +kernel
theorem jL (T:Tx K mg cs) { cM aK gf:Gf} (nz:aY P w K mg base 3 "bundled" 1 cM) (fz:aY P w K mg base 18 "all_dealt" 3 aK) (hL:∀ ds,ds.length=2→gf ds≠.no→bf (fR cs cM aK (ds.map some++List.replicate 0 none))=gf ds):aY P w K mg base 19 "dealing_to" 2 gf:=by
  obtain ⟨f,fd,F,b,m⟩:=T.f_dealing_to
  exact aY.of (O:=[]) (G:=fR cs cM aK) F qI b m (by decide) (fun cdv A outer s H E hr=>(aA (aW (aN fz hr aT (af (ah 0) (af (aN nz hr aT (af (ah 0) aj)) (af (dP (cw (M:=["errands", "hands"]) (own:=["hand"]) (n0:=2) (cond:=bL) rfl (cX T.b_range (af (ah 1) aj)) cF (fun _ _ _ _=>(ba (i:=2) oH rfl (Or.inl rfl) (.inr rfl))) (fun _ _ _ _=>.nil) (fun σ H Q qz3=>(by obtain ⟨A,δ,R,o⟩:=qz3; exact o H (aM.refl _))) (fun _ _ _ _=>(fX aj)))) aj))))))) hL
theorem AR:bb ["errands", "hands"] ["errands", "hands"] (aG sr):=⟨rfl,rfl,rfl,by decide +kernel,rfl,by decide +kernel,by decide +kernel⟩
theorem sQ (T:Tx K mg cs) { bS aQ bc gf:Gf} (jL:aY P w K mg base 19 "dealing_to" 2 bS) (dr:aY P w K mg base 1 "is_whole" 3 aQ) (jd:aY P w K mg base 5 "checked" 1 bc) (hL:∀ ds,ds.length=2→gf ds≠.no→bf (jj cs bS aQ bc (ds.map some++List.replicate 0 none))=gf ds):aY P w K mg base 20 "dealt" 2 gf:=by
  obtain ⟨f,fd,F,b,m⟩:=T.f_dealt
  exact aY.of (O:=[]) (G:=jj cs bS aQ bc) F AR b m (by decide) (fun cdv A outer s H E hr=>(ax (u6 (aN jd hr aT (af (ah 0) aj)))
      (ax (cP (eo (cG (aN dr hr aT (af (ah 1) (af aH (af (gJ T.c_MOST_HANDS) aj)))))) (aA (rG rfl AO T.e_NoNumber (af AM aj))) ck)
      (aA (aW (aN jL hr aT (af (ah 0) (af (ah 1) aj)))))))) hL
theorem cy:bb ["_law_script", "_law_at", "_law_top", "_law_tools", "_law_every", "_law_late", "_law_due", "_law_parts", "_law_k", "_law_cell"] ["_law_script", "_law_at", "_law_top", "_law_tools"] (aG jQ):=⟨rfl,rfl,rfl,by decide +kernel,rfl,by decide +kernel,by decide +kernel⟩
theorem jt (T:Tx K mg cs) { au gf:Gf} (b3:aY P w K mg base 2 "_law_mixed" 3 au) (hL:∀ ds,ds.length=4→gf ds≠.no→bf (fJ cs au (ds.map some++List.replicate 6 none))=gf ds):aY P w K mg base 3 "_law_errand" 4 gf:=by
  obtain ⟨f,fd,F,b,m⟩:=T.f_law_errand
  exact aY.of (O:=[7]) (G:=fJ cs au) F cy b m (by decide) (fun cdv A outer s H E hr=>(ax (bB (i:=4) (b9 aH (aN b3 hr aT (af (ah 0) (af (ah 1) (af (ah 2) aj))))) cy.nd)
      (ax (bB (i:=5) (tx (aN b3 hr aT (af (ah 0) (af (b9 (ah 1) aH) (af aH aj)))) (vf T.b_int (af (xr hr (aN b3 hr aT (af (ah 0) (af (b9 (ah 1) aH) (af aH aj)))) aH) aj))) cy.nd)
      (ax (bB (i:=5) (xX rfl T.b_min (af (ah 5) (af (jH (ah 4) aH) aj))) cy.nd)
      (ax (bB (i:=6) (jH (ah 4) (ah 5)) cy.nd)
      (ax (cP (qb hr (aN b3 hr aT (af (ah 0) (af (b9 (ah 1) aH) (af aH aj)))) aH) (aA (bB (i:=6) (jH (ah 6) (aN b3 hr aT (af (ah 0) (af (b9 (ah 1) aH) (af (ah 6) aj))))) cy.nd)) ck)
      (ax (kT (i:=7) (kO aj) cy.nd)
      (ax (dg PassesOwn.leaving rfl (cX T.b_range (af (aN b3 hr aT (af (ah 0) (af (b9 (ah 1) aH) (af aH aj)))) aj)) (dG (i:=8) (by decide)) (ba (i:=8) cy.nd rfl (by first | exact Or.inl rfl | exact Or.inr rfl)) (ax (bB (i:=9) (aN b3 hr aT (af (ah 0) (af (b9 (b9 (ah 1) aH) (ah 8)) (af aH aj)))) cy.nd)
      (ax (mL (i:=7) (nq (af (b9 aH (zF (ah 9) aH)) (af (b5 (fX (af aH (af aH (af aH (af aH (af iQ aj)))))) (zF (AD (ah 9) aH) aH)) aj))))
      (aA (cP (eo (cG (ah 3))) (aA (B9 (i:=7) (nq (af (b5 (b5 (ah 7) (sJ aH)) aH) (af iQ aj))) (sJ aH))) ck)))))
      (aA (aW (nq (af (ah 4) (af (ah 6) (af (ah 5) (af (ir T.b_tuple (af (b9 (ah 7) (fX (af (nq (af (b9 aH (aN b3 hr aT (af (ah 0) (af (b9 (ah 1) aH) (af aH aj))))) (af iQ aj))) aj))) aj)) aj))))))))))))))) hL
theorem ke:bb ["_law_script", "_law_at", "_law_most", "_law_top", "_law_tools", "_law_many"] ["_law_script", "_law_at", "_law_most", "_law_top", "_law_tools"] (aG iV):=⟨rfl,rfl,rfl,by decide +kernel,rfl,by decide +kernel,by decide +kernel⟩
theorem mV:(["_law_script", "_law_at", "_law_most", "_law_top", "_law_tools", "_law_many", "_law_k"]:List Str).Nodup:=by decide +kernel
theorem iS (T:Tx K mg cs) { bP au gf:Gf} (jt:aY P w K mg base 3 "_law_errand" 4 bP) (b3:aY P w K mg base 2 "_law_mixed" 3 au) (hL:∀ ds,ds.length=5→gf ds≠.no→bf (ff cs bP au (ds.map some++List.replicate 1 none))=gf ds):aY P w K mg base 4 "_law_errands" 5 gf:=by
  obtain ⟨f,fd,F,b,m⟩:=T.f_law_errands
  exact aY.of (O:=[]) (G:=ff cs bP au) F ke b m (by decide) (fun cdv A outer s H E hr=>(ax (bB (i:=5) (b9 aH (aN b3 hr aT (af (ah 0) (af (ah 1) (af (ah 2) aj))))) ke.nd)
      (aA (aW (ir T.b_tuple (af (dP (cw (M:=["_law_script", "_law_at", "_law_most", "_law_top", "_law_tools", "_law_many"]) (own:=["_law_k"]) (n0:=6) (cond:=bL) rfl (cX T.b_range (af (ah 5) aj)) cF (fun _ _ _ _=>(ba (i:=6) mV rfl (Or.inl rfl) (.inr rfl))) (fun _ _ _ _=>.nil) (fun σ H Q qz3=>(by obtain ⟨A,δ,R,o⟩:=qz3; exact o H (aM.refl _))) (fun _ _ _ _=>(aN jt hr gS (af (ah 0) (af (b9 (b9 (ah 1) aH) (tx aH (ah 6))) (af (ah 3) (af (ah 4) aj)))))))) aj)))))) hL
theorem dh:bb ["_law_errands_here", "_law_rows", "_law_row", "_law_other", "_law_number", "_law_here"] ["_law_errands_here", "_law_rows"] (aG gE):=⟨rfl,rfl,rfl,by decide +kernel,rfl,by decide +kernel,by decide +kernel⟩
theorem dA:(["_law_errands_here", "_law_rows", "_law_row", "_law_other", "_law_number", "_law_here", "_law_length", "_law_tool"]:List Str).Nodup:=by decide +kernel
theorem k6:(["_law_errands_here", "_law_rows", "_law_row", "_law_other", "_law_number__", "_law_here", "_law_number"]:List Str).Nodup:=by decide +kernel
theorem eY (T:Tx K mg cs) { aU gf:Gf} (mR:aY P w K mg base 11 "fitting" 1 aU) (hL:∀ ds,ds.length=2→gf ds≠.no→bf (cT cs aU (ds.map some++List.replicate 4 none))=gf ds):aY P w K mg base 12 "_law_is_dealing" 2 gf:=by
  obtain ⟨f,fd,F,b,m⟩:=T.f_law_is_dealing
  exact aY.of (O:=[]) (G:=cT cs aU) F dh b m (by decide) (fun cdv A outer s H E hr=>(ax (dg PassesOwn.leaving rfl (cz (ah 1)) (dG (i:=2) (by decide)) (ba (i:=2) dh.nd rfl (by first | exact Or.inl rfl | exact Or.inr rfl)) (ax (cP (n9 (yv (o5 hr (ah 2) (fX aj)) (vy (tm (aN mR hr aT (af (ir T.b_tuple (af (dP (cw (M:=["_law_errands_here", "_law_rows", "_law_row", "_law_other", "_law_number__", "_law_here"]) (own:=["_law_number"]) (n0:=6) (cond:=bL) rfl (cz (ah 2)) cF (fun _ _ _ _=>(ba (i:=6) k6 rfl (Or.inl rfl) (.inr rfl))) (fun _ _ _ _=>.nil) (fun σ H Q qz3=>(by obtain ⟨A,δ,R,o⟩:=qz3; exact o H (aM.refl _))) (fun _ _ _ _=>(b5 (ah 0) (ah 6))))) aj)) aj)))))) (aA (aW jX)) ck)
      (aA (dg PassesOwn.leaving rfl (cX T.b_range (af (ip T.b_len (af (ah 0) aj)) aj)) (dG (i:=3) (by decide)) (ba (i:=3) dh.nd rfl (by first | exact Or.inl rfl | exact Or.inr rfl)) (aA (cP (nN (ah 3) (ah 2)) (aA (dg PassesOwn.leaving rfl (cz (ah 2)) (dG (i:=4) (by decide)) (ba (i:=4) dh.nd rfl (by first | exact Or.inl rfl | exact Or.inr rfl)) (ax (bB (i:=5) (dP (cw (M:=["_law_errands_here", "_law_rows", "_law_row", "_law_other", "_law_number", "_law_here"]) (own:=["_law_length", "_law_tool"]) (n0:=6) (cond:=(gT (g1 e7 (ag 7)))) rfl (cz (b5 (b5 (ah 0) (ah 4)) aH)) qu (fun _ _ _ _=>(lI rfl (c9 (ba (i:=6) dA rfl (Or.inl rfl) (.inr rfl)) (c9 (ba (i:=7) dA rfl (Or.inl rfl) (.inr rfl)) je)))) (fun _ _ _ _=>(kQ (mM (ah 7)))) (fun _ _ _ h=>h) (fun _ _ _ _=>(ah 7)))) dh.nd)
      (aA (cP (o5 hr (dP (cw (M:=["_law_errands_here", "_law_rows", "_law_row", "_law_other", "_law_number", "_law_here"]) (own:=["_law_length", "_law_tool"]) (n0:=6) (cond:=(gT (g2 (gG false) (ag 7) (ag 5)))) rfl (cz (b5 (b5 (ah 0) (ah 3)) aH)) qu (fun _ _ _ _=>(lI rfl (c9 (ba (i:=6) dA rfl (Or.inl rfl) (.inr rfl)) (c9 (ba (i:=7) dA rfl (Or.inl rfl) (.inr rfl)) je)))) (fun _ _ _ _=>(kQ (Ej (ah 7) (ah 5)))) (fun _ _ _ h=>h) (fun _ _ _ _=>(ah 7)))) (fX aj)) (aA (aW jX)) ck))))) ck))))))
      (aA (aW jX)))) hL
theorem cL:bb ["_law_many", "_law_hands", "_law_found", "_law_number", "_law_more", "_law_rows", "_law_hand"] ["_law_many", "_law_hands"] (aG ik):=⟨rfl,rfl,rfl,by decide +kernel,rfl,by decide +kernel,by decide +kernel⟩
theorem iL:(["_law_many", "_law_hands", "_law_found", "_law_number", "_law_more", "_law_rows", "_law_hand", "_law_k", "_law_row"]:List Str).Nodup:=by decide +kernel
theorem mP:(["_law_many", "_law_hands", "_law_found", "_law_number", "_law_more", "_law_rows", "_law_hand__", "_law_hand"]:List Str).Nodup:=by decide +kernel
theorem ie (T:Tx K mg cs) { gf:Gf} (hL:∀ ds,ds.length=2→gf ds≠.no→bf (eF cs (ds.map some++List.replicate 5 none))=gf ds):aY P w K mg base 1 "_law_dealings" 2 gf:=by
  obtain ⟨f,fd,F,b,m⟩:=T.f_law_dealings
  exact aY.of (O:=[4]) (G:=eF cs) F cL b m (by decide) (fun cdv A outer s H E hr=>(ax (bB (i:=2) (fX (af (dP (cw (M:=["_law_many", "_law_hands", "_law_found", "_law_number", "_law_more", "_law_rows", "_law_hand__"]) (own:=["_law_hand"]) (n0:=7) (cond:=bL) rfl (cX T.b_range (af (ah 1) aj)) cF (fun _ _ _ _=>(ba (i:=7) mP rfl (Or.inl rfl) (.inr rfl))) (fun _ _ _ _=>.nil) (fun σ H Q qz3=>(by obtain ⟨A,δ,R,o⟩:=qz3; exact o H (aM.refl _))) (fun _ _ _ _=>(fX aj)))) aj)) cL.nd)
      (ax (dg PassesOwn.leaving rfl (cX T.b_range (af (ah 0) aj)) (dG (i:=3) (by decide)) (ba (i:=3) cL.nd rfl (by first | exact Or.inl rfl | exact Or.inr rfl)) (ax (kT (i:=4) (kO aj) cL.nd)
      (ax (dg PassesOwn.leaving rfl (cz (ah 2)) (dG (i:=5) (by decide)) (ba (i:=5) cL.nd rfl (by first | exact Or.inl rfl | exact Or.inr rfl)) (aA (dg PassesOwn.leaving rfl (cX T.b_range (af (ah 1) aj)) (dG (i:=6) (by decide)) (ba (i:=6) cL.nd rfl (by first | exact Or.inl rfl | exact Or.inr rfl)) (aA (mL (i:=4) (dP (cw (M:=["_law_many", "_law_hands", "_law_found", "_law_number", "_law_more", "_law_rows", "_law_hand"]) (own:=["_law_k", "_law_row"]) (n0:=7) (cond:=bL) rfl (j7 T.b_enumerate (af (ah 5) aj)) qu (fun _ _ _ _=>(lI rfl (c9 (ba (i:=7) iL rfl (Or.inl rfl) (.inr rfl)) (c9 (ba (i:=8) iL rfl (Or.inl rfl) (.inr rfl)) je)))) (fun _ _ _ _=>.nil) (fun σ H Q qz3=>(by obtain ⟨A,δ,R,o⟩:=qz3; exact o H (aM.refl _))) (fun _ _ _ _=>(b9 (ah 8) (tx (fX (af (ah 3) aj)) (vf T.b_int (af (xr hr (ah 7) (ah 6)) aj))))))))))))
      (aA (zZ (x:=2) (y:=4) cL.nd)))))
      (aA (aW (ah 2)))))) hL
theorem lY:bb ["_law_script", "_law_errands_here", "_law_hands", "_law_answer", "_law_row", "_law_whole"] ["_law_script"] (aG rB):=⟨rfl,rfl,rfl,by decide +kernel,rfl,by decide +kernel,by decide +kernel⟩
theorem A9:(["_law_script", "_law_errands_here", "_law_hands", "_law_answer", "_law_row", "_law_whole", "_law_rows"]:List Str).Nodup:=by decide +kernel
theorem law_fn (T:Tx K mg cs) {f:Addr} {fd:FuncData} (F:Fun K "law" "law" rB f fd) { aJ bo bO au bh gf:Gf} (eY:aY P w K mg base 12 "_law_is_dealing" 2 aJ) (ie:aY P w K mg base 1 "_law_dealings" 2 bo) (sQ:aY P w K mg base 20 "dealt" 2 bO) (b3:aY P w K mg base 2 "_law_mixed" 3 au) (iS:aY P w K mg base 4 "_law_errands" 5 bh) (hL:∀ ds,ds.length=1→gf ds≠.no→bf (qe cs aJ bo bO au bh (ds.map some++List.replicate 5 none))=gf ds):jk P w K mg base (CXW P w) 21 f fd ["_law_script"] (spD K 1 gf) :=
  BF (O:=[5]) (G:=qe cs aJ bo bO au bh) F lY (by decide) (fun cdv A outer s H E hr=>(ax (bB (i:=1) (aN iS hr aT (af (ah 0) (af aH (af aH (af aH (af jX aj)))))) lY.nd)
      (ax (bB (i:=2) (b9 aH (aN b3 hr aT (af (ah 0) (af aH (af aH aj))))) lY.nd)
      (ax (bB (i:=3) (aN sQ hr aT (af (ah 1) (af (ah 2) aj))) lY.nd)
      (ax (cP (tm (ah 3)) (aA (aW (xr hr (dP (cw (M:=["_law_script", "_law_errands_here", "_law_hands", "_law_answer", "_law_row", "_law_whole"]) (own:=["_law_rows"]) (n0:=6) (cond:=(gT (aF aJ (ae (ag 1) (ae (ag 6) ao))))) rfl (cz (aN ie hr aT (af (ip T.b_len (af (ah 1) aj)) (af (ah 2) aj)))) cF (fun _ _ _ _=>(ba (i:=6) A9 rfl (Or.inl rfl) (.inr rfl))) (fun _ _ _ _=>(kQ (cG (aN eY hr gS (af (ah 1) (af (ah 6) aj)))))) (fun _ _ _ h=>h) (fun _ _ _ _=>(ah 6)))) (fX aj)))) ck)
      (ax (cP (n9 (ni (eo (cG (i8 T.b_isinstance T.b_list su (by simp) (ah 3)))) (kR (o5 hr (ip T.b_len (af (ah 3) aj)) (ah 2))))) (aA (aW jX)) ck)
      (ax (dg PassesOwn.leaving rfl (cz (ah 3)) (dG (i:=4) (by decide)) (ba (i:=4) lY.nd rfl (by first | exact Or.inl rfl | exact Or.inr rfl)) (aA (cP (n9 (ni (eo (cG (i8 T.b_isinstance T.b_list su (by simp) (ah 4)))) (kR (o5 hr (ah 4) (nE T.b_sorted (af (ah 4) aj)))))) (aA (aW jX)) ck)))
      (ax (kT (i:=5) (kO aj) lY.nd)
      (ax (dg PassesOwn.leaving rfl (cz (ah 3)) (dG (i:=4) (by decide)) (ba (i:=4) lY.nd rfl (by first | exact Or.inl rfl | exact Or.inr rfl)) (aA (BB (i:=5) (ah 4))))
      (aA (aW (pU (xr hr (nE T.b_sorted (af (ah 5) aj)) (dP (zb rfl T.b_range T.b_list (af (ip T.b_len (af (ah 1) aj)) aj)))) (m7 (aN eY hr aT (af (ah 1) (af (ah 3) aj)))))))))))))))) hL
theorem law_ok (T:Tx K mg cs) {f:Addr} {fd:FuncData} (F:Fun K "law" "law" rB f fd):jk P w K mg base (CXW P w) 21 f fd ["_law_script"] (spD K 1 (fj 63)):=by
  have d_as_lowest:=kh (P:=P) (w:=w) (base:=base) T (uO cs)
  have d_has_tool:=gz (P:=P) (w:=w) (base:=base) T (wY cs)
  have d_height:=pL (P:=P) (w:=w) (base:=base) T d_has_tool (Ar cs)
  have d_heights_of:=jw (P:=P) (w:=w) (base:=base) T d_height (t9 cs)
  have d_holdings:=lV (P:=P) (w:=w) (base:=base) T d_heights_of (ng T) (vR cs)
  have d_hold_by_high:=iu (P:=P) (w:=w) (base:=base) T d_holdings (qm cs)
  have d_work_of:=kI (P:=P) (w:=w) (base:=base) T (yL cs)
  have d_rounded_up:=jh (P:=P) (w:=w) (base:=base) T (t8 cs)
  have d_need:=sR (P:=P) (w:=w) (base:=base) T d_work_of d_rounded_up (Dr cs)
  have d_levels_by:=kl (P:=P) (w:=w) (base:=base) T d_need (vj cs)
  have d_longest_by:=jG (P:=P) (w:=w) (base:=base) T d_levels_by (sP cs)
  have d_longest_by_high:=fP (P:=P) (w:=w) (base:=base) T d_hold_by_high d_longest_by (mi cs)
  have d_has_room:=lU (P:=P) (w:=w) (base:=base) T d_longest_by_high (wo cs)
  have d_not_placed:=ji (P:=P) (w:=w) (base:=base) T (sM cs)
  have d_following_lowest:=dM (P:=P) (w:=w) (base:=base) T d_as_lowest d_has_room d_not_placed (lS cs)
  have d_placed_from_below:=fb (P:=P) (w:=w) (base:=base) T d_following_lowest (k7 cs)
  have d_ranks_with_room:=dm (P:=P) (w:=w) (base:=base) T d_placed_from_below (mh cs)
  have d_is_tuple:=dS (P:=P) (w:=w) (base:=base) T (wQ cs)
  have d_is_whole:=dr (P:=P) (w:=w) (base:=base) T (vQ cs)
  have d_is_part:=nh (P:=P) (w:=w) (base:=base) T d_is_whole d_is_tuple (yJ cs)
  have d_are_parts:=ka (P:=P) (w:=w) (base:=base) T d_is_tuple d_is_part (vk cs)
  have d_is_errand:=kj (P:=P) (w:=w) (base:=base) T d_is_whole d_are_parts d_is_tuple (vq cs)
  have d_checked:=jd (P:=P) (w:=w) (base:=base) T d_is_tuple d_is_errand (yR cs)
  have d_fitting:=mR (P:=P) (w:=w) (base:=base) T d_ranks_with_room d_checked (zp cs)
  have d_law_is_dealing:=eY (P:=P) (w:=w) (base:=base) T d_fitting (mD cs)
  have d_law_dealings:=ie (P:=P) (w:=w) (base:=base) T (pK cs)
  have d_share_a_tool:=hZ (P:=P) (w:=w) (base:=base) T d_has_tool (qz cs)
  have d_bundled:=nz (P:=P) (w:=w) (base:=base) T d_share_a_tool (za cs)
  have d_fit_one_hand:=cV (P:=P) (w:=w) (base:=base) T d_ranks_with_room (pP cs)
  have d_all_dealt:=mG (P:=P) (w:=w) (base:=base) T d_fit_one_hand 6
  have d_dealing_to:=jL (P:=P) (w:=w) (base:=base) T d_bundled d_all_dealt (sY cs)
  have d_dealt:=sQ (P:=P) (w:=w) (base:=base) T d_dealing_to d_is_whole d_checked (BC cs)
  have d_law_mixed:=b3 (P:=P) (w:=w) (base:=base) T
  have d_law_errand:=jt (P:=P) (w:=w) (base:=base) T d_law_mixed (tM cs)
  have d_law_errands:=iS (P:=P) (w:=w) (base:=base) T d_law_errand d_law_mixed (qM cs)
  exact law_fn T F d_law_is_dealing d_law_dealings d_dealt d_law_mixed d_law_errands (DA cs)
end
end RS
namespace RS
theorem lM {n:Nat} {us:List PySem.Value} (h:us.length=n + 1):∃ a t,us=a::t∧t.length=n:=by
  cases us with
  | nil=>cases h
  | cons a t=>exact ⟨a,t,rfl,Nat.succ.inj h⟩
theorem tH {us:List PySem.Value} (h:us.length=1):∃ a0,us=[a0]:=by
  obtain ⟨a0,t0,e0,h0⟩:=lM h
  have e:=List.eq_nil_of_length_eq_zero h0
  exact ⟨_,by rw [e0,e]⟩
theorem m9 {us:List PySem.Value} (h:us.length=2):∃ a0 a1,us=[a0,a1]:=by
  obtain ⟨a0,t0,e0,h0⟩:=lM h
  obtain ⟨a1,t1,e1,h1⟩:=lM h0
  have e:=List.eq_nil_of_length_eq_zero h1
  exact ⟨_,_,by rw [e0,e1,e]⟩
theorem qF {us:List PySem.Value} (h:us.length=3):∃ a0 a1 a2,us=[a0,a1,a2]:=by
  obtain ⟨a0,t0,e0,h0⟩:=lM h
  obtain ⟨a1,t1,e1,h1⟩:=lM h0
  obtain ⟨a2,t2,e2,h2⟩:=lM h1
  have e:=List.eq_nil_of_length_eq_zero h2
  exact ⟨_,_,_,by rw [e0,e1,e2,e]⟩
theorem Ct {us:List PySem.Value} (h:us.length=4):∃ a0 a1 a2 a3,us=[a0,a1,a2,a3]:=by
  obtain ⟨a0,t0,e0,h0⟩:=lM h
  obtain ⟨a1,t1,e1,h1⟩:=lM h0
  obtain ⟨a2,t2,e2,h2⟩:=lM h1
  obtain ⟨a3,t3,e3,h3⟩:=lM h2
  have e:=List.eq_nil_of_length_eq_zero h3
  exact ⟨_,_,_,_,by rw [e0,e1,e2,e3,e]⟩
theorem Eu {us:List PySem.Value} (h:us.length=5):∃ a0 a1 a2 a3 a4,us=[a0,a1,a2,a3,a4]:=by
  obtain ⟨a0,t0,e0,h0⟩:=lM h
  obtain ⟨a1,t1,e1,h1⟩:=lM h0
  obtain ⟨a2,t2,e2,h2⟩:=lM h1
  obtain ⟨a3,t3,e3,h3⟩:=lM h2
  obtain ⟨a4,t4,e4,h4⟩:=lM h3
  have e:=List.eq_nil_of_length_eq_zero h4
  exact ⟨_,_,_,_,_,by rw [e0,e1,e2,e3,e4,e]⟩
end RS
open PySem PySem.W PyProof.Rows
set_option maxRecDepth 100000 in
set_option maxHeartbeats 0 in
theorem PySem.Challenge.cw_ranksure_k18_dealt_holds : PySem.Challenge.rw_ranksure_k18_dealt.Holds := by
  refine RS.hdTop ?_
  k_fill
  refine RS.FJ (l:=PySem.Challenge.rw_ranksure_k18_dealt) (n:=63) (k:=21) (x:="_law_script") (st:=RS.rB) rfl (by decide) rfl ⟨rfl,by decide,by decide⟩ (fun w h Y=>PySem.W.kIn_of Y) (fun _ _ _ _ _ _ us hl=>by obtain ⟨_,rfl⟩:=RS.tH hl; rfl) ?F
  case F =>
    intro w mg h KX G
    have f_is_whole:RS.a7 (L2.KOf KX) mg "is_whole" RS.lQ ["thing", "least", "most"]:=by
      delta L2.KOf
      refine' RS.a8 KX G (fun _ _ _ _ _ _ us hl=>by obtain ⟨_,_,_,rfl⟩:=RS.qF hl; rfl) ?a_is_whole ?l_is_whole ?c_is_whole ?k_is_whole
      (case a_is_whole=>k_is); (case l_is_whole=>k_is); (case c_is_whole=>k_is); (case k_is_whole=>k_is)
    have f_is_tuple:RS.a7 (L2.KOf KX) mg "is_tuple" RS.lL ["thing", "fewest", "most"]:=by
      delta L2.KOf
      refine' RS.a8 KX G (fun _ _ _ _ _ _ us hl=>by obtain ⟨_,_,_,rfl⟩:=RS.qF hl; rfl) ?a_is_tuple ?l_is_tuple ?c_is_tuple ?k_is_tuple
      (case a_is_tuple=>k_is); (case l_is_tuple=>k_is); (case c_is_tuple=>k_is); (case k_is_tuple=>k_is)
    have f_is_part:RS.a7 (L2.KOf KX) mg "is_part" RS.nJ ["thing"]:=by
      delta L2.KOf
      refine' RS.a8 KX G (fun _ _ _ _ _ _ us hl=>by obtain ⟨_,rfl⟩:=RS.tH hl; rfl) ?a_is_part ?l_is_part ?c_is_part ?k_is_part
      (case a_is_part=>k_is); (case l_is_part=>k_is); (case c_is_part=>k_is); (case k_is_part=>k_is)
    have f_are_parts:RS.a7 (L2.KOf KX) mg "are_parts" RS.j9 ["thing"]:=by
      delta L2.KOf
      refine' RS.a8 KX G (fun _ _ _ _ _ _ us hl=>by obtain ⟨_,rfl⟩:=RS.tH hl; rfl) ?a_are_parts ?l_are_parts ?c_are_parts ?k_are_parts
      (case a_are_parts=>k_is); (case l_are_parts=>k_is); (case c_are_parts=>k_is); (case k_are_parts=>k_is)
    have f_is_errand:RS.a7 (L2.KOf KX) mg "is_errand" RS.kn ["thing"]:=by
      delta L2.KOf
      refine' RS.a8 KX G (fun _ _ _ _ _ _ us hl=>by obtain ⟨_,rfl⟩:=RS.tH hl; rfl) ?a_is_errand ?l_is_errand ?c_is_errand ?k_is_errand
      (case a_is_errand=>k_is); (case l_is_errand=>k_is); (case c_is_errand=>k_is); (case k_is_errand=>k_is)
    have f_checked:RS.a7 (L2.KOf KX) mg "checked" RS.ny ["errands"]:=by
      delta L2.KOf
      refine' RS.a8 KX G (fun _ _ _ _ _ _ us hl=>by obtain ⟨_,rfl⟩:=RS.tH hl; rfl) ?a_checked ?l_checked ?c_checked ?k_checked
      (case a_checked=>k_is); (case l_checked=>k_is); (case c_checked=>k_is); (case k_checked=>k_is)
    have f_work_of:RS.a7 (L2.KOf KX) mg "work_of" RS.nC ["errand"]:=by
      delta L2.KOf
      refine' RS.a8 KX G (fun _ _ _ _ _ _ us hl=>by obtain ⟨_,rfl⟩:=RS.tH hl; rfl) ?a_work_of ?l_work_of ?c_work_of ?k_work_of
      (case a_work_of=>k_is); (case l_work_of=>k_is); (case c_work_of=>k_is); (case k_work_of=>k_is)
    have f_has_tool:RS.a7 (L2.KOf KX) mg "has_tool" RS.l7 ["errand", "tool"]:=by
      delta L2.KOf
      refine' RS.a8 KX G (fun _ _ _ _ _ _ us hl=>by obtain ⟨_,_,rfl⟩:=RS.m9 hl; rfl) ?a_has_tool ?l_has_tool ?c_has_tool ?k_has_tool
      (case a_has_tool=>k_is); (case l_has_tool=>k_is); (case c_has_tool=>k_is); (case k_has_tool=>k_is)
    have f_height:RS.a7 (L2.KOf KX) mg "height" RS.o7 ["errands", "ranks", "tool"]:=by
      delta L2.KOf
      refine' RS.a8 KX G (fun _ _ _ _ _ _ us hl=>by obtain ⟨_,_,_,rfl⟩:=RS.qF hl; rfl) ?a_height ?l_height ?c_height ?k_height
      (case a_height=>k_is); (case l_height=>k_is); (case c_height=>k_is); (case k_height=>k_is)
    have f_heights_of:RS.a7 (L2.KOf KX) mg "heights_of" RS.jr ["errands", "ranks"]:=by
      delta L2.KOf
      refine' RS.a8 KX G (fun _ _ _ _ _ _ us hl=>by obtain ⟨_,_,rfl⟩:=RS.m9 hl; rfl) ?a_heights_of ?l_heights_of ?c_heights_of ?k_heights_of
      (case a_heights_of=>k_is); (case l_heights_of=>k_is); (case c_heights_of=>k_is); (case k_heights_of=>k_is)
    have f_holdings:RS.a7 (L2.KOf KX) mg "holdings" RS.lF ["errands", "ranks", "number"]:=by
      delta L2.KOf
      refine' RS.a8 KX G (fun _ _ _ _ _ _ us hl=>by obtain ⟨_,_,_,rfl⟩:=RS.qF hl; rfl) ?a_holdings ?l_holdings ?c_holdings ?k_holdings
      (case a_holdings=>k_is); (case l_holdings=>k_is); (case c_holdings=>k_is); (case k_holdings=>k_is)
    have f_hold_by_high:RS.a7 (L2.KOf KX) mg "hold_by_high" RS.iw ["errands", "ranks", "number"]:=by
      delta L2.KOf
      refine' RS.a8 KX G (fun _ _ _ _ _ _ us hl=>by obtain ⟨_,_,_,rfl⟩:=RS.qF hl; rfl) ?a_hold_by_high ?l_hold_by_high ?c_hold_by_high ?k_hold_by_high
      (case a_hold_by_high=>k_is); (case l_hold_by_high=>k_is); (case c_hold_by_high=>k_is); (case k_hold_by_high=>k_is)
    have f_rounded_up:RS.a7 (L2.KOf KX) mg "rounded_up" RS.ju ["times", "every"]:=by
      delta L2.KOf
      refine' RS.a8 KX G (fun _ _ _ _ _ _ us hl=>by obtain ⟨_,_,rfl⟩:=RS.m9 hl; rfl) ?a_rounded_up ?l_rounded_up ?c_rounded_up ?k_rounded_up
      (case a_rounded_up=>k_is); (case l_rounded_up=>k_is); (case c_rounded_up=>k_is); (case k_rounded_up=>k_is)
    have f_need:RS.a7 (L2.KOf KX) mg "need" RS.xo ["errands", "ranks", "number", "held_up", "times"]:=by
      delta L2.KOf
      refine' RS.a8 KX G (fun _ _ _ _ _ _ us hl=>by obtain ⟨_,_,_,_,_,rfl⟩:=RS.Eu hl; rfl) ?a_need ?l_need ?c_need ?k_need
      (case a_need=>k_is); (case l_need=>k_is); (case c_need=>k_is); (case k_need=>k_is)
    have f_levels_by:RS.a7 (L2.KOf KX) mg "levels_by" RS.kx ["errands", "ranks", "number", "held_up"]:=by
      delta L2.KOf
      refine' RS.a8 KX G (fun _ _ _ _ _ _ us hl=>by obtain ⟨_,_,_,_,rfl⟩:=RS.Ct hl; rfl) ?a_levels_by ?l_levels_by ?c_levels_by ?k_levels_by
      (case a_levels_by=>k_is); (case l_levels_by=>k_is); (case c_levels_by=>k_is); (case k_levels_by=>k_is)
    have f_longest_by:RS.a7 (L2.KOf KX) mg "longest_by" RS.jD ["errands", "ranks", "number", "held_up"]:=by
      delta L2.KOf
      refine' RS.a8 KX G (fun _ _ _ _ _ _ us hl=>by obtain ⟨_,_,_,_,rfl⟩:=RS.Ct hl; rfl) ?a_longest_by ?l_longest_by ?c_longest_by ?k_longest_by
      (case a_longest_by=>k_is); (case l_longest_by=>k_is); (case c_longest_by=>k_is); (case k_longest_by=>k_is)
    have f_longest_by_high:RS.a7 (L2.KOf KX) mg "longest_by_high" RS.fO ["errands", "ranks", "number"]:=by
      delta L2.KOf
      refine' RS.a8 KX G (fun _ _ _ _ _ _ us hl=>by obtain ⟨_,_,_,rfl⟩:=RS.qF hl; rfl) ?a_longest_by_high ?l_longest_by_high ?c_longest_by_high ?k_longest_by_high
      (case a_longest_by_high=>k_is); (case l_longest_by_high=>k_is); (case c_longest_by_high=>k_is); (case k_longest_by_high=>k_is)
    have f_has_room:RS.a7 (L2.KOf KX) mg "has_room" RS.lK ["errands", "ranks", "number", "room"]:=by
      delta L2.KOf
      refine' RS.a8 KX G (fun _ _ _ _ _ _ us hl=>by obtain ⟨_,_,_,_,rfl⟩:=RS.Ct hl; rfl) ?a_has_room ?l_has_room ?c_has_room ?k_has_room
      (case a_has_room=>k_is); (case l_has_room=>k_is); (case c_has_room=>k_is); (case k_has_room=>k_is)
    have f_as_lowest:RS.a7 (L2.KOf KX) mg "as_lowest" RS.kv ["errands", "some", "number"]:=by
      delta L2.KOf
      refine' RS.a8 KX G (fun _ _ _ _ _ _ us hl=>by obtain ⟨_,_,_,rfl⟩:=RS.qF hl; rfl) ?a_as_lowest ?l_as_lowest ?c_as_lowest ?k_as_lowest
      (case a_as_lowest=>k_is); (case l_as_lowest=>k_is); (case c_as_lowest=>k_is); (case k_as_lowest=>k_is)
    have f_not_placed:RS.a7 (L2.KOf KX) mg "not_placed" RS.jT ["errands", "placed"]:=by
      delta L2.KOf
      refine' RS.a8 KX G (fun _ _ _ _ _ _ us hl=>by obtain ⟨_,_,rfl⟩:=RS.m9 hl; rfl) ?a_not_placed ?l_not_placed ?c_not_placed ?k_not_placed
      (case a_not_placed=>k_is); (case l_not_placed=>k_is); (case c_not_placed=>k_is); (case k_not_placed=>k_is)
    have f_following_lowest:RS.a7 (L2.KOf KX) mg "following_lowest" RS.fq ["errands", "placed", "room"]:=by
      delta L2.KOf
      refine' RS.a8 KX G (fun _ _ _ _ _ _ us hl=>by obtain ⟨_,_,_,rfl⟩:=RS.qF hl; rfl) ?a_following_lowest ?l_following_lowest ?c_following_lowest ?k_following_lowest
      (case a_following_lowest=>k_is); (case l_following_lowest=>k_is); (case c_following_lowest=>k_is); (case k_following_lowest=>k_is)
    have f_placed_from_below:RS.a7 (L2.KOf KX) mg "placed_from_below" RS.fe ["errands", "room"]:=by
      delta L2.KOf
      refine' RS.a8 KX G (fun _ _ _ _ _ _ us hl=>by obtain ⟨_,_,rfl⟩:=RS.m9 hl; rfl) ?a_placed_from_below ?l_placed_from_below ?c_placed_from_below ?k_placed_from_below
      (case a_placed_from_below=>k_is); (case l_placed_from_below=>k_is); (case c_placed_from_below=>k_is); (case k_placed_from_below=>k_is)
    have f_ranks_with_room:RS.a7 (L2.KOf KX) mg "ranks_with_room" RS.fH ["errands", "room"]:=by
      delta L2.KOf
      refine' RS.a8 KX G (fun _ _ _ _ _ _ us hl=>by obtain ⟨_,_,rfl⟩:=RS.m9 hl; rfl) ?a_ranks_with_room ?l_ranks_with_room ?c_ranks_with_room ?k_ranks_with_room
      (case a_ranks_with_room=>k_is); (case l_ranks_with_room=>k_is); (case c_ranks_with_room=>k_is); (case k_ranks_with_room=>k_is)
    have f_fitting:RS.a7 (L2.KOf KX) mg "fitting" RS.nH ["errands"]:=by
      delta L2.KOf
      refine' RS.a8 KX G (fun _ _ _ _ _ _ us hl=>by obtain ⟨_,rfl⟩:=RS.tH hl; rfl) ?a_fitting ?l_fitting ?c_fitting ?k_fitting
      (case a_fitting=>k_is); (case l_fitting=>k_is); (case c_fitting=>k_is); (case k_fitting=>k_is)
    have f_share_a_tool:RS.a7 (L2.KOf KX) mg "share_a_tool" RS.iE ["errand", "other"]:=by
      delta L2.KOf
      refine' RS.a8 KX G (fun _ _ _ _ _ _ us hl=>by obtain ⟨_,_,rfl⟩:=RS.m9 hl; rfl) ?a_share_a_tool ?l_share_a_tool ?c_share_a_tool ?k_share_a_tool
      (case a_share_a_tool=>k_is); (case l_share_a_tool=>k_is); (case c_share_a_tool=>k_is); (case k_share_a_tool=>k_is)
    have f_bundled:RS.a7 (L2.KOf KX) mg "bundled" RS.nG ["errands"]:=by
      delta L2.KOf
      refine' RS.a8 KX G (fun _ _ _ _ _ _ us hl=>by obtain ⟨_,rfl⟩:=RS.tH hl; rfl) ?a_bundled ?l_bundled ?c_bundled ?k_bundled
      (case a_bundled=>k_is); (case l_bundled=>k_is); (case c_bundled=>k_is); (case k_bundled=>k_is)
    have f_fit_one_hand:RS.a7 (L2.KOf KX) mg "fit_one_hand" RS.iy ["errands", "some"]:=by
      delta L2.KOf
      refine' RS.a8 KX G (fun _ _ _ _ _ _ us hl=>by obtain ⟨_,_,rfl⟩:=RS.m9 hl; rfl) ?a_fit_one_hand ?l_fit_one_hand ?c_fit_one_hand ?k_fit_one_hand
      (case a_fit_one_hand=>k_is); (case l_fit_one_hand=>k_is); (case c_fit_one_hand=>k_is); (case k_fit_one_hand=>k_is)
    have f_all_dealt:RS.a7 (L2.KOf KX) mg "all_dealt" RS.kq ["errands", "bundles", "piles"]:=by
      delta L2.KOf
      refine' RS.a8 KX G (fun _ _ _ _ _ _ us hl=>by obtain ⟨_,_,_,rfl⟩:=RS.qF hl; rfl) ?a_all_dealt ?l_all_dealt ?c_all_dealt ?k_all_dealt
      (case a_all_dealt=>k_is); (case l_all_dealt=>k_is); (case c_all_dealt=>k_is); (case k_all_dealt=>k_is)
    have f_dealing_to:RS.a7 (L2.KOf KX) mg "dealing_to" RS.jM ["errands", "hands"]:=by
      delta L2.KOf
      refine' RS.a8 KX G (fun _ _ _ _ _ _ us hl=>by obtain ⟨_,_,rfl⟩:=RS.m9 hl; rfl) ?a_dealing_to ?l_dealing_to ?c_dealing_to ?k_dealing_to
      (case a_dealing_to=>k_is); (case l_dealing_to=>k_is); (case c_dealing_to=>k_is); (case k_dealing_to=>k_is)
    have f_dealt:RS.a7 (L2.KOf KX) mg "dealt" RS.sr ["errands", "hands"]:=by
      delta L2.KOf
      refine' RS.a8 KX G (fun _ _ _ _ _ _ us hl=>by obtain ⟨_,_,rfl⟩:=RS.m9 hl; rfl) ?a_dealt ?l_dealt ?c_dealt ?k_dealt
      (case a_dealt=>k_is); (case l_dealt=>k_is); (case c_dealt=>k_is); (case k_dealt=>k_is)
    have f_law_cell_at:RS.a7 (L2.KOf KX) mg "_law_cell_at" RS.fh ["_law_script", "_law_k"]:=by
      delta L2.KOf
      refine' RS.a8 KX G (fun _ _ _ _ _ _ us hl=>by obtain ⟨_,_,rfl⟩:=RS.m9 hl; rfl) ?a_law_cell_at ?l_law_cell_at ?c_law_cell_at ?k_law_cell_at
      (case a_law_cell_at=>k_is); (case l_law_cell_at=>k_is); (case c_law_cell_at=>k_is); (case k_law_cell_at=>k_is)
    have f_law_mixed:RS.a7 (L2.KOf KX) mg "_law_mixed" RS.iJ ["_law_script", "_law_k", "_law_many"]:=by
      delta L2.KOf
      refine' RS.a8 KX G (fun _ _ _ _ _ _ us hl=>by obtain ⟨_,_,_,rfl⟩:=RS.qF hl; rfl) ?a_law_mixed ?l_law_mixed ?c_law_mixed ?k_law_mixed
      (case a_law_mixed=>k_is); (case l_law_mixed=>k_is); (case c_law_mixed=>k_is); (case k_law_mixed=>k_is)
    have f_law_errand:RS.a7 (L2.KOf KX) mg "_law_errand" RS.jQ ["_law_script", "_law_at", "_law_top", "_law_tools"]:=by
      delta L2.KOf
      refine' RS.a8 KX G (fun _ _ _ _ _ _ us hl=>by obtain ⟨_,_,_,_,rfl⟩:=RS.Ct hl; rfl) ?a_law_errand ?l_law_errand ?c_law_errand ?k_law_errand
      (case a_law_errand=>k_is); (case l_law_errand=>k_is); (case c_law_errand=>k_is); (case k_law_errand=>k_is)
    have f_law_errands:RS.a7 (L2.KOf KX) mg "_law_errands" RS.iV ["_law_script", "_law_at", "_law_most", "_law_top", "_law_tools"]:=by
      delta L2.KOf
      refine' RS.a8 KX G (fun _ _ _ _ _ _ us hl=>by obtain ⟨_,_,_,_,_,rfl⟩:=RS.Eu hl; rfl) ?a_law_errands ?l_law_errands ?c_law_errands ?k_law_errands
      (case a_law_errands=>k_is); (case l_law_errands=>k_is); (case c_law_errands=>k_is); (case k_law_errands=>k_is)
    have f_law_is_dealing:RS.a7 (L2.KOf KX) mg "_law_is_dealing" RS.gE ["_law_errands_here", "_law_rows"]:=by
      delta L2.KOf
      refine' RS.a8 KX G (fun _ _ _ _ _ _ us hl=>by obtain ⟨_,_,rfl⟩:=RS.m9 hl; rfl) ?a_law_is_dealing ?l_law_is_dealing ?c_law_is_dealing ?k_law_is_dealing
      (case a_law_is_dealing=>k_is); (case l_law_is_dealing=>k_is); (case c_law_is_dealing=>k_is); (case k_law_is_dealing=>k_is)
    have f_law_dealings:RS.a7 (L2.KOf KX) mg "_law_dealings" RS.ik ["_law_many", "_law_hands"]:=by
      delta L2.KOf
      refine' RS.a8 KX G (fun _ _ _ _ _ _ us hl=>by obtain ⟨_,_,rfl⟩:=RS.m9 hl; rfl) ?a_law_dealings ?l_law_dealings ?c_law_dealings ?k_law_dealings
      (case a_law_dealings=>k_is); (case l_law_dealings=>k_is); (case c_law_dealings=>k_is); (case k_law_dealings=>k_is)
    have f_law:RS.a7 (L2.KOf KX) mg "law" RS.rB ["_law_script"]:=by
      delta L2.KOf
      refine' RS.a8 KX G (fun _ _ _ _ _ _ us hl=>by obtain ⟨_,rfl⟩:=RS.tH hl; rfl) ?a_law ?l_law ?c_law ?k_law
      (case a_law=>k_is); (case l_law=>k_is); (case c_law=>k_is); (case k_law=>k_is)
    have b_all:mg "all"=none:=by
      refine' PySem.W.mg_none_of KX G ?z_all
      (case z_all=>k_is)
    have b_any:mg "any"=none:=by
      refine' PySem.W.mg_none_of KX G ?z_any
      (case z_any=>k_is)
    have b_bool:mg "bool"=none:=by
      refine' PySem.W.mg_none_of KX G ?z_bool
      (case z_bool=>k_is)
    have b_enumerate:mg "enumerate"=none:=by
      refine' PySem.W.mg_none_of KX G ?z_enumerate
      (case z_enumerate=>k_is)
    have b_int:mg "int"=none:=by
      refine' PySem.W.mg_none_of KX G ?z_int
      (case z_int=>k_is)
    have b_isinstance:mg "isinstance"=none:=by
      refine' PySem.W.mg_none_of KX G ?z_isinstance
      (case z_isinstance=>k_is)
    have b_len:mg "len"=none:=by
      refine' PySem.W.mg_none_of KX G ?z_len
      (case z_len=>k_is)
    have b_list:mg "list"=none:=by
      refine' PySem.W.mg_none_of KX G ?z_list
      (case z_list=>k_is)
    have b_max:mg "max"=none:=by
      refine' PySem.W.mg_none_of KX G ?z_max
      (case z_max=>k_is)
    have b_min:mg "min"=none:=by
      refine' PySem.W.mg_none_of KX G ?z_min
      (case z_min=>k_is)
    have b_range:mg "range"=none:=by
      refine' PySem.W.mg_none_of KX G ?z_range
      (case z_range=>k_is)
    have b_sorted:mg "sorted"=none:=by
      refine' PySem.W.mg_none_of KX G ?z_sorted
      (case z_sorted=>k_is)
    have b_sum:mg "sum"=none:=by
      refine' PySem.W.mg_none_of KX G ?z_sum
      (case z_sum=>k_is)
    have b_tuple:mg "tuple"=none:=by
      refine' PySem.W.mg_none_of KX G ?z_tuple
      (case z_tuple=>k_is)
    have c_LEAST_EVERY:∃ t,mg "LEAST_EVERY"=some (.int 2 t):=by
      refine' RS.iM KX G ?z_LEAST_EVERY
      (case z_LEAST_EVERY=>k_is)
    have c_MOST_ERRANDS:∃ t,mg "MOST_ERRANDS"=some (.int 6 t):=by
      refine' RS.iM KX G ?z_MOST_ERRANDS
      (case z_MOST_ERRANDS=>k_is)
    have c_MOST_EVERY:∃ t,mg "MOST_EVERY"=some (.int 60 t):=by
      refine' RS.iM KX G ?z_MOST_EVERY
      (case z_MOST_EVERY=>k_is)
    have c_MOST_HANDS:∃ t,mg "MOST_HANDS"=some (.int 4 t):=by
      refine' RS.iM KX G ?z_MOST_HANDS
      (case z_MOST_HANDS=>k_is)
    have c_MOST_LATE:∃ t,mg "MOST_LATE"=some (.int 20 t):=by
      refine' RS.iM KX G ?z_MOST_LATE
      (case z_MOST_LATE=>k_is)
    have c_MOST_LENGTH:∃ t,mg "MOST_LENGTH"=some (.int 20 t):=by
      refine' RS.iM KX G ?z_MOST_LENGTH
      (case z_MOST_LENGTH=>k_is)
    have c_MOST_PARTS:∃ t,mg "MOST_PARTS"=some (.int 4 t):=by
      refine' RS.iM KX G ?z_MOST_PARTS
      (case z_MOST_PARTS=>k_is)
    have c_TOOLS:∃ t,mg "TOOLS"=some (.int 4 t):=by
      refine' RS.iM KX G ?z_TOOLS
      (case z_TOOLS=>k_is)
    obtain ⟨C_NoErrands,C_NoNumber,e_NoErrands,e_NoNumber⟩:∃ C_NoErrands C_NoNumber:Addr,L2.yC (L2.KOf KX) mg "NoErrands" C_NoErrands∧L2.yC (L2.KOf KX) mg "NoNumber" C_NoNumber:=by
      delta L2.KOf
      refine' ⟨_,_,RS.xS KX G ?a_NoErrands ?e_NoErrands,RS.xS KX G ?a_NoNumber ?e_NoNumber⟩
      (case a_NoErrands=>k_is); (case e_NoErrands=>k_exc)
      (case a_NoNumber=>k_is); (case e_NoNumber=>k_exc)
    obtain ⟨C_Holding,m_Holding,cl_Holding,na_Holding_number,na_Holding_part,na_Holding_tool,na_Holding_times,mk_Holding⟩:∃ C:Addr,mg "Holding"=some (.ref C)∧L2.Cls (L2.KOf KX) C∧PySem.W.findIn (L2.KOf KX) (.ref C) "number"=some none∧PySem.W.findIn (L2.KOf KX) (.ref C) "part"=some none∧PySem.W.findIn (L2.KOf KX) (.ref C) "tool"=some none∧PySem.W.findIn (L2.KOf KX) (.ref C) "times"=some none∧∃ f fd,L2.Mk (L2.KOf KX) C f∧L2.Fun (L2.KOf KX) "__init__" "Holding.__init__" RS.lZ f fd∧L2.Binds (L2.KOf KX) fd ["self", "number", "part", "tool", "times"] []:=by
      delta L2.KOf
      refine' ⟨_,PySem.W.mg_of KX G ?ac_Holding,⟨?pg_Holding,?hd_Holding,?po_Holding,?sa_Holding⟩,?n0_Holding,?n1_Holding,?n2_Holding,?n3_Holding,L2.CW (fun _ _ _ _ _ _ us hl=>by obtain ⟨_,_,_,_,_,rfl⟩:=RS.Eu hl; rfl) ?ai_Holding ?ii_Holding ?li_Holding ?ci_Holding ?ki_Holding ?mk_Holding ?kc_Holding⟩
      (case ac_Holding=>k_is); (case pg_Holding=>k_is); (case hd_Holding=>k_is); (case po_Holding=>k_is); (case sa_Holding=>k_is); (case n0_Holding=>k_is); (case n1_Holding=>k_is); (case n2_Holding=>k_is); (case n3_Holding=>k_is); (case ai_Holding=>k_is); (case ii_Holding=>k_is); (case li_Holding=>k_is); (case ci_Holding=>k_is); (case ki_Holding=>k_is); (case mk_Holding=>k_is); (case kc_Holding=>k_is)
    have T:RS.Tx (L2.KOf KX) mg ⟨0,C_NoErrands,0,0,0,C_NoNumber,0,0,C_Holding,0⟩:=⟨f_is_whole,f_is_tuple,f_is_part,f_are_parts,f_is_errand,f_checked,f_work_of,f_has_tool,f_height,f_heights_of,f_holdings,f_hold_by_high,f_rounded_up,f_need,f_levels_by,f_longest_by,f_longest_by_high,f_has_room,f_as_lowest,f_not_placed,f_following_lowest,f_placed_from_below,f_ranks_with_room,f_fitting,f_share_a_tool,f_bundled,f_fit_one_hand,f_all_dealt,f_dealing_to,f_dealt,f_law_cell_at,f_law_mixed,f_law_errand,f_law_errands,f_law_is_dealing,f_law_dealings,f_law,b_all,b_any,b_bool,b_enumerate,b_int,b_isinstance,b_len,b_list,b_max,b_min,b_range,b_sorted,b_sum,b_tuple,c_LEAST_EVERY,c_MOST_ERRANDS,c_MOST_EVERY,c_MOST_HANDS,c_MOST_LATE,c_MOST_LENGTH,c_MOST_PARTS,c_TOOLS,e_NoErrands,e_NoNumber,cl_Holding,na_Holding_number,na_Holding_part,na_Holding_tool,na_Holding_times,mk_Holding,m_Holding⟩
    exact ⟨f_law,fun f fd F base hb hn=>RS.law_ok T F⟩
