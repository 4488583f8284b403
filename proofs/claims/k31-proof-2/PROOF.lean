import PyProof.Rows.All
import OpenK.AllK
import PySem.Challenge.RW_ranksure_k31_rush
import KE.RegKIsAll
import Wide.All
import OpenK.KWalk
import OpenK.KMake
import OpenK.KDescr
import OpenK.KCall
import OpenK.KOwn
import KE.KIsAll
import KE.KItem
import KE.KxBytes
import Wide.FinOn
import Lean
import PyProof.EqAt
import PyProof.EqKinds
import PyProof.TupleCall
import KE.LcSums
import PyProof.Rows.EqDataRows
import PyProof.RulesAs
import PyProof.ZipIter
import PyProof.Draws
import PyProof.Rows.TupAdd
import PyProof.ListMulRoad
import PyProof.AutoListH
import PyProof.Rows.Range3
import PyProof.ListRange
import PyProof.EnumMake
import PyProof.EnumFor
import PyProof.Rows.SetFrom
import PyProof.WalksMore
import PyProof.StrOps2
import PyProof.Rows.MinMaxN
import PyProof.ConsumeWalk
import PyProof.Rows.SortWalk
import PyProof.ExcArgsOwn
import PyProof.StrBlock2
import KE.KMinKey
import PyProof.Rows.CallKwBuiltin
import PySem.PyData
set_option genSizeOf false
set_option genSizeOfSpec false
set_option genInjectivity false
set_option compiler.extract_closed false
set_option bootstrap.genMatcherCode false
set_option Elab.async false
set_option linter.all false
namespace RS
open PySem PySem.W PyProof.Rows
noncomputable def yo (p:Program) (w:World) (m:Nat) (ann:Option Value):Nat→SharedT→Thread→Option SharedT
  | 0,_,_=>none
  | n + 1,s,t=>match through t with
    | true=>some s
    | false=>match Fast.tw6613529449190102663 m ann t with
      | false=>none
      | true=>match Fast.tw10156331382660048174 (Fast.tw11892475500146522536 Fast.tw14364793385576792824) p w s t with
        | some x=>yo p w m ann n x.1 x.2
        | none=>none
theorem uF {p:Program} {w:World} {m:Nat} {ann:Option Value}:∀ {n:Nat} {s s':SharedT} {t:Thread},yo p w m ann n s t=some s'→topRun treeTable p w m ann n s.abs t=some s'.abs
  | 0,_,_,_,h=>by cases h
  | n + 1,s,s',t,h=>by
    unfold yo at h
    rw [← Fast.te6613529449190102663,← Fast.te10156331382660048174,← Fast.te11892475500146522536,← Fast.te14364793385576792824] at h
    unfold topRun
    cases ht:through t with
    | true=>rw [ht] at h; cases h; rfl
    | false =>
      rw [ht] at h
      cases hk:stepOk m ann t with
      | false=>rw [hk] at h; cases h
      | true =>
        rw [hk] at h
        cases hs:stepT (denote treeTable) p w s t with
        | none=>rw [hs] at h; cases h
        | some x =>
          rw [hs] at h
          rw [stepT_spec (s':=x.1) (t':=x.2) hs]
          exact uF h
noncomputable def Dw (l:List Obj):BT:=(l.foldl (fun x o=>(x.1.ins x.2 o,x.2 + 1)) (BT.nil,0)).1
noncomputable def hdS (w:World) (os:OsState):SharedT:=⟨Dw (boot_heap w.params).objs.toList,11,(boot_heap w.params).life,Array.mk [],boot_drawn,boot_toks,os⟩
theorem Bm (w:World):(fun os=>(hdS w os).abs)=fun os=>⟨boot_heap w.params,Array.mk [],boot_drawn,boot_toks,os⟩:=by kernel_rfl
theorem Dk (w:World):((boot_heap w.params).isNs mainGlobals && (Array.mk []:Array GenState).size == 0,(boot_heap w.params).objs.size,(boot_heap w.params).nsMap mainGlobals "__annotations__")=(true,11,some (.ref 6)):=by kernel_rfl
noncomputable def AA (p q:Program) (loose:List Str) (Xt:Shared→Bool) {α:Type} (Yf:Shared→α) (h:Heap) (s:Shared) :=
  (staticsOk (importedModules p.main.body) h s.heap && namesBound p s.heap && gensDone s && laidKept h s.heap,Fast.tw4187177175401517315 q loose (importedModules p.main.body) Xt true s,Yf s)
theorem Dz {p q:Program} {loose:List Str} {Xt:Shared→Bool} {α:Type} {Yf:Shared→α} {Ya:World→α} {N M:Nat}
    (e:opening p=plainProg p.main.scope.names) (hN:Nat.ble 600 N=true) (f:∀ s,fenceModules? p s=some s) (le:Nat.ble M N=true)
    (h:∀ w,(fun os=>(yo p w 11 (some (.ref 6)) M (hdS w os) (topStub p)).map fun s=>AA p q loose Xt Yf (boot_heap w.params) s.abs)=fun _=>some (true,openGood q loose,Ya w)):LeftO p q loose Xt Yf Ya N:=fun w=>by
  obtain ⟨⟨hp,gs,d,k,os⟩,e1,e'⟩:=Option.map_eq_some_iff.mp (boot_open e hN f w)
  obtain ⟨rfl,rfl,rfl,rfl⟩:hp=boot_heap w.params∧gs=Array.mk []∧d=boot_drawn∧k=boot_toks:=by simpa using e'
  obtain ⟨z1,z2,z3⟩:_∧_∧_:=by simpa only [Prod.mk.injEq] using Dk w
  obtain ⟨s,hs,hv⟩:=Option.map_eq_some_iff.mp (congrFun (h w) os)
  obtain ⟨l1,l2,l3⟩:_∧_∧_:=by simpa only [AA,← Fast.te4187177175401517315,Prod.mk.injEq] using hv
  have r:=uF hs
  rw [congrFun (Bm w) os] at r
  have r:=topRun_mono (N - M) _ _ _ _ r
  rw [show M + (N - M)=N by have:=Nat.le_of_ble_eq_true le; omega] at r
  unfold openEnds
  rw [e1]
  show (topFrom treeTable p w N _).map _=_
  have t:topFrom treeTable p w N ⟨boot_heap w.params,Array.mk [],boot_drawn,boot_toks,os⟩=some s.abs:=by
    unfold topFrom
    dsimp only
    rw [z1,z2,z3,r]
    show (match staticsOk (importedModules p.main.body) (boot_heap w.params) s.abs.heap && namesBound p s.abs.heap && gensDone s.abs && laidKept (boot_heap w.params) s.abs.heap with | true=>_ | false=>_)=_
    rw [l1]
  rw [t]
  exact congrArg some (Prod.ext l2 l3)
end RS
section
open PySem PySem.W PyProof.Rows
noncomputable def RS.vw:Program:=view PySem.Challenge.pw_ranksure_k31_rush [1,2,3,4,6,7,8,9,10,11,12,13,14,15,16,17,18,19,20,21,22,23,24,25,27,28,29,30,31,32,33,34,35,36,38,39,40,41,42,43,44,45,46,47,48,50,51,52,53,54,55,56,57,58,59,60,61,62]
local macro_rules | `(tactic| o_head $H)=>`(tactic| (refine holds_open (N:=5294) (Xt:=fun s=>xlAt RS.vw [] s && recOk (RowW.records (OpenRow.toRowW (OpenLaw.row PySem.Challenge.rw_ranksure_k31_rush))) s) (XP:=XL RS.vw []) (q:=RS.vw) (loose:=[]) (Yf:=Hook.obs $H) (Ya:=Hook.val $H) (YP:=Hook.says $H) ?hl (Hook.of $H) (Hook.keeps $H) (fun s e=>xl_of s (Bool.and_eq_true_iff.mp e).1) XL.keeps (by rfl) (by rfl) (by rfl) (fun s e=>recFacts_of (Bool.and_eq_true_iff.mp e).2) (by rfl) (by assumption) (by decide +kernel) ⟨rfl,rfl,rfl,rfl,rfl,by decide +kernel⟩ ?hw ?hc; (case hl=>refine RS.Dz (M:=2697) (by kernel_rfl) (by rfl) (by intro s; kernel_rfl) (by rfl) fun w=>?_; kernel_rfl)))
set_option maxRecDepth 100000 in
set_option maxHeartbeats 0 in
open_top RS.hdTop for PySem.Challenge.rw_ranksure_k31_rush
end
-- CHANGE: your row's module here,as the last of these rows
set_option maxRecDepth 100000
namespace L2
open PySem PySem.Spec PyProof.Rows
noncomputable abbrev Key:=Sum Int Str
noncomputable def CM:Key→Value→Bool
  | .inl k,v=>Value.isInt k v
  | .inr x,v=>Value.isStrOf x v
noncomputable def FF (w:World):Key→Int
  | .inl k=>hashInt k
  | .inr x=>hashStr w x
theorem df:∀ {k:Key} {v:Value},CM k v=true→(∃ i t,k=Sum.inl i∧v=Value.int i t)∨(∃ x t,k=Sum.inr x∧v=Value.str x t)
  | .inl i,v,h=>by
    obtain ⟨t,e⟩:=Value.isInt_shape (k:=i) (v:=v) h
    exact .inl ⟨i,t,rfl,e⟩
  | .inr x,v,h=>by
    obtain ⟨t,e⟩:=Value.isStrOf_shape (x:=x) (v:=v) h
    exact .inr ⟨x,t,rfl,e⟩
theorem Ec (a b:Int):decide ((Sum.inl a:Key)=Sum.inl b)=(a == b):=by
  by_cases e:a=b
  · subst e; simp
  · have h:¬ (Sum.inl a:Key)=Sum.inl b:=fun q=>e (Sum.inl.inj q)
    rw [decide_eq_false h]
    exact (beq_eq_false_iff_ne.mpr e).symm
theorem Df (a b:Str):decide ((Sum.inr a:Key)=Sum.inr b)=decide (a=b):=by
  by_cases e:a=b
  · subst e; simp
  · have h:¬ (Sum.inr a:Key)=Sum.inr b:=fun q=>e (Sum.inr.inj q)
    rw [decide_eq_false h,decide_eq_false e]
theorem DY (a:Int) (b:Str):decide ((Sum.inl a:Key)=Sum.inr b)=false:=decide_eq_false (fun q=>nomatch q)
theorem D8 (a:Str) (b:Int):decide ((Sum.inr a:Key)=Sum.inl b)=false:=decide_eq_false (fun q=>nomatch q)
noncomputable def xK (prog:Program) (w:World):PySem.KeyKind prog w Key where
  is:=CM
  hash:=FF w
  inj:=fun v a b ha hb=>by
    rcases df ha with ⟨i,t,rfl,rfl⟩ | ⟨x,t,rfl,rfl⟩
    · rcases df hb with ⟨j,u,rfl,e⟩ | ⟨y,u,rfl,e⟩
      · injection e with e1 _; rw [e1]
      · exact nomatch e
    · rcases df hb with ⟨j,u,rfl,e⟩ | ⟨y,u,rfl,e⟩
      · exact nomatch e
      · injection e with e1 _; rw [e1]
  byValue:=fun k v h=>by
    rcases df h with ⟨i,t,rfl,rfl⟩ | ⟨x,t,rfl,rfl⟩ <;> rfl
  pyHash:=fun hv h=>by
    rcases df hv with ⟨i,t,rfl,rfl⟩ | ⟨x,t,rfl,rfl⟩
    · exact wpAny_pyHash_int h
    · exact wpAny_pyHash_str h
  eqBool:=fun hu hv h=>by
    rcases df hu with ⟨i,t,rfl,rfl⟩ | ⟨x,t,rfl,rfl⟩
    · rcases df hv with ⟨j,u,rfl,rfl⟩ | ⟨y,u,rfl,rfl⟩
      · rw [Ec] at h; exact wpAny_eqBool_int h
      · rw [DY] at h; exact SeqAt.EqAt.int_str i t y u _ _ _ _ h
    · rcases df hv with ⟨j,u,rfl,rfl⟩ | ⟨y,u,rfl,rfl⟩
      · rw [D8] at h; exact SeqAt.EqAt.str_int x t j u _ _ _ _ h
      · rw [Df] at h; exact wpAny_eqBool_str h
  «strs»:=fun k x t v h=>by
    rcases df h with ⟨i,u,rfl,e⟩ | ⟨y,u,rfl,e⟩
    · exact nomatch e
    · injection e with e1 _
      subst e1
      cases v <;> rfl
end L2
namespace L2
open PySem PySem.Spec PyProof.Rows
inductive V where
  | non | bl (b:Bool) | int (i:Int) | str (x:Str) | byt (b:Array UInt8) | flt (b:UInt64) | ref (a:Addr) | ty (n:String)
  deriving DecidableEq
noncomputable def RelV:V→Value→Prop
  | .non,u=>u=Value.none
  | .bl b,u=>u=Value.bool b
  | .int i,u=>∃ t,u=Value.int i t
  | .str x,u=>∃ t,u=Value.str x t
  | .byt b,u=>∃ t,u=Value.bytes b t
  | .flt b,u=>∃ t,u=Value.float b t
  | .ref a,u=>u=Value.ref a
  | .ty n,u=>u=Value.type n
noncomputable abbrev Vals:List V→List Value→Prop:=Paired RelV
theorem Vals.length {xs:List V} {us:List Value} (r:Vals xs us):xs.length=us.length:=Paired.length r
theorem Vals.get:∀ {xs:List V} {us:List Value} {i:Nat} {x:V},Vals xs us→xs[i]?=some x→∃ u,us[i]?=some u∧RelV x u
  | _,_,_,_,.nil,e=>by simp at e
  | _,_,0,_,.cons r _,e=>by simp at e; subst e; exact ⟨_,rfl,r⟩
  | _,_,i + 1,x,.cons _ t,e=>by
    obtain ⟨u,h1,h2⟩:=Vals.get (i:=i) (x:=x) t (by simpa using e)
    exact ⟨u,by simpa using h1,h2⟩
theorem Vals.set {x:V} {u:Value} (r:RelV x u):∀ {xs:List V} {us:List Value} (i:Nat),Vals xs us→Vals (xs.set i x) (us.set i u)
  | _,_,_,.nil=>.nil
  | _,_,0,.cons _ t=>.cons r t
  | _,_,i + 1,.cons q t=>.cons q (Vals.set r i t)
theorem Vals.append {xs ys:List V} {us ws:List Value} (h:Vals xs us) (s:Vals ys ws):Vals (xs++ys) (us++ws):=by
  induction h with
  | nil=>exact s
  | cons r t ih=>exact .cons r ih
theorem Vals.take:∀ {xs:List V} {us:List Value} (n:Nat),Vals xs us→Vals (xs.take n) (us.take n)
  | _,_,0,_=>.nil
  | _,_,_ + 1,.nil=>.nil
  | _,_,n + 1,.cons r t=>.cons r (Vals.take n t)
theorem Vals.drop:∀ {xs:List V} {us:List Value} (n:Nat),Vals xs us→Vals (xs.drop n) (us.drop n)
  | _,_,0,r=>r
  | _,_,_ + 1,.nil=>.nil
  | _,_,n + 1,.cons _ t=>Vals.drop n t
noncomputable def wm:Option V→Option Value→Prop
  | some v,some u=>RelV v u
  | none,none=>True
  | _,_=>False
noncomputable def KV {κ:Type}:List (κ × V)→List (κ × Value)→Prop:=Paired fun (p:κ × V) (q:κ × Value)=>p.1=q.1∧RelV p.2 q.2
noncomputable def kV:Key→V
  | .inl i=>.int i
  | .inr x=>.str x
inductive HO where
  | lst (xs:List V)
  | tup (xs:List V)
  | dK (kvs:List (Key × V)) | dT (kvs:List (List Key × V))
  | set (S:Int→Bool) (n:Nat)
  | ins (C dx:Addr) (fs:List (Str × V))
  | own (x:Addr)
  | xd (fs:List (Str × V))
  | met (f x:Addr)
  | rng (lo hi:Int)
  | frz (o:Obj) (u:HO)
  | tbl (q:Str)
  | ext (φ:Heap→Prop)
noncomputable abbrev Hp:=Addr→Option HO
noncomputable def upd (H:Hp) (a:Addr) (o:HO):Hp:=fun b=>if b=a then some o else H b
theorem cp {H:Hp} {a:Addr} {o:HO}:upd H a o a=some o:=by unfold upd; rw [if_pos rfl]
theorem bx {H:Hp} {a b:Addr} {o:HO} (h:b≠a):upd H a o b=H b:=by unfold upd; rw [if_neg h]
theorem bF {H:Hp} {a b:Addr} {o:HO} (h:H a=some o) (h':H b=none):a≠b:=by
  intro e; subst e; rw [h] at h'; cases h'
noncomputable def sR (h:Heap) (a:Addr) (items:Array Value):Prop:=∃ o,h.get? a=some o∧o.cls=.type "tuple"∧o.dict=none∧∃ n,o.data=.seq items n
theorem sR.tup {h:Heap} {a:Addr} {items:Array Value} (x:sR h a items):IsTup h a items:=by
  obtain ⟨o,e,c,_,n,d⟩:=x
  exact ⟨o,e,c,n,d⟩
theorem sR.new (h:Heap) (items:Array Value):sR (h.push { cls:=.type "tuple",data:=.seq items }) h.objs.size items:=⟨_,Heap.get?_push_size _ rfl,rfl,rfl,_,rfl⟩
section
variable (P:Program) (w:World)
noncomputable def gr (H:Hp) (h:Heap) (a:Addr):HO→Prop
  | .lst xs=>xs.length≤sizeLine∧∃ (its:List Value) (n:Nat),Vals xs its∧h.get? a=some { cls:=.type "list",data:=.seq its.toArray n }
  | .tup xs=>xs.length≤sizeLine∧∃ its:List Value,Vals xs its∧sR h a its.toArray
  | .dK kvs=>kvs.length≤sizeLine∧(a == sysModules)=false∧∃ vs,KV kvs vs∧h.DictOf (xK P w) a vs
  | .dT kvs=>kvs.length≤sizeLine∧(a == sysModules)=false∧∃ xs:List (List Key × Addr × Value),
      Paired (fun (p:List Key × V) (q:List Key × Addr × Value)=>p.1=q.1∧H q.2.1=some (.tup (p.1.map kV))∧RelV p.2 q.2.2) kvs xs ∧
      ∃ o es ep,h.get? a=some o∧o.ExactDict∧o.data=.dict es ep∧es.toList=xs.map (entryOfKey (tupleKind (xK P w)))∧(xs.map (·.1)).Nodup
  | .set S n=>h.SetOf (intKind P w) a S n
  | .ins C dx fs=>H dx=some (.own a)∧fs.length≤1000∧dx≠a∧h.get? a=some (PySem.W.instObj C dx) ∧
      ∃ mA,h.Ns1 dx mA∧(∀ f,wm (fs.lookup f) (mA f))∧PySem.Within mA (fs.map (·.1))
  | .own _=>∃ o,h.get? a=some o
  | .xd fs=>∃ mA,h.Ns1 a mA∧∀ f,wm (fs.lookup f) (mA f)
  | .rng lo hi=>∃ t u v,h.get? a=some { cls:=.type "range",data:=.fields #[.int lo t,.int hi u,.int 1 v] }
  | .frz o u=>h.get? a=some o∧gr H h a u
  | .tbl q=>∃ ps:Array Value,h.get? a=some { cls:=.none,data:=.fields ps }∧TriplesOk ps.toList∧∀ pos cv,codeAmong pos ps.toList=some cv→∃ c' o vs t,cv=.ref c'∧H c'=some (.frz o (.own c'))∧o.data=.fields vs∧vs[1]?=some (.str q t)
  | .met f x=>h.get? a=some (PySem.W.methodObj (.ref f) (.ref x))
  | .ext φ=>φ h∧(∃ o,h.get? a=some o)∧∀ h1 h2:Heap,φ h1→(∀ o,h1.get? a=some o→h2.get? a=some o)→φ h2
noncomputable def HOk (H:Hp) (h:Heap):Prop:=∀ a o,H a=some o→gr P w H h a o
end
section
variable {P:Program} {w:World} {H H':Hp} {h h':Heap} {a:Addr} {o:HO}
theorem gr.lt (x:gr P w H h a o):a < h.objs.size:=by
  cases o with
  | lst xs=>obtain ⟨_,_,_,_,e⟩:=x; exact Heap.lt_size e
  | tup xs=>obtain ⟨_,_,_,p⟩:=x; exact p.tup.lt
  | dK kvs=>obtain ⟨_,_,_,_,o,_,_,e,_⟩:=x; exact Heap.lt_size e
  | dT kvs=>obtain ⟨_,_,_,_,o,_,_,e,_⟩:=x; exact Heap.lt_size e
  | set S n=>obtain ⟨o,_,_,_,e,_⟩:=x; exact Heap.lt_size e
  | ins C dx fs=>obtain ⟨_,_,_,e,_⟩:=x; exact Heap.lt_size e
  | own y=>obtain ⟨_,e⟩:=x; exact Heap.lt_size e
  | xd fs=>obtain ⟨_,⟨_,_,_,e,_⟩,_⟩:=x; exact Heap.lt_size e
  | rng lo hi=>obtain ⟨_,_,_,e⟩:=x; exact Heap.lt_size e
  | frz ob u=>obtain ⟨e,_⟩:=x; exact Heap.lt_size e
  | tbl q=>obtain ⟨_,e,_⟩:=x; exact Heap.lt_size e
  | met f y=>exact Heap.lt_size (show h.get? a=some _ from x)
  | ext φ=>obtain ⟨_,⟨_,e⟩,_⟩:=x; exact Heap.lt_size e
theorem Paired.mapP {α β:Type} {F G:α→β→Prop} {l₁:List α} {l₂:List β} (h:Paired F l₁ l₂) (f:∀ a b,F a b→G a b):Paired G l₁ l₂:=by
  induction h with
  | nil=>exact .nil
  | cons r t ih=>exact .cons (f _ _ r) ih
theorem gr.stay (x:gr P w H h a o) (k:∀ b u,(b=a∨H b=some (.own a))→h.get? b=some u→h'.get? b=some u)
    (ho:∀ b,H b=some (.own a)→H' b=some (.own a)) (ht:∀ b xs,H b=some (.tup xs)→H' b=some (.tup xs)) (hf:∀ b o u,H b=some (.frz o u)→H' b=some (.frz o u):=by exact fun _ _ _ q=>q):gr P w H' h' a o:=by
  induction o with
  | lst xs=>obtain ⟨z,its,n,r,e⟩:=x; exact ⟨z,its,n,r,k _ _ (.inl rfl) e⟩
  | tup xs=>obtain ⟨z,its,r,ob,e,c⟩:=x; exact ⟨z,its,r,ob,k _ _ (.inl rfl) e,c⟩
  | dK kvs=>obtain ⟨z,y,vs,r,ob,es,ep,e,c⟩:=x; exact ⟨z,y,vs,r,ob,es,ep,k _ _ (.inl rfl) e,c⟩
  | dT kvs =>
    obtain ⟨z,y,xs,r,ob,es,ep,e,c⟩:=x
    exact ⟨z,y,xs,Paired.mapP r fun p q z=>⟨z.1,ht _ _ z.2.1,z.2.2⟩,ob,es,ep,k _ _ (.inl rfl) e,c⟩
  | set S n=>obtain ⟨ob,es,ep,t,e,c⟩:=x; exact ⟨ob,es,ep,t,k _ _ (.inl rfl) e,c⟩
  | ins C dx fs =>
    obtain ⟨d,z,ne,e,mA,⟨od,es,ep,e2,c⟩,r⟩:=x
    exact ⟨ho _ d,z,ne,k _ _ (.inl rfl) e,mA,⟨od,es,ep,k _ _ (.inr d) e2,c⟩,r⟩
  | own y=>obtain ⟨ob,e⟩:=x; exact ⟨ob,k _ _ (.inl rfl) e⟩
  | xd fs=>obtain ⟨mA,⟨od,es,ep,e,c⟩,r⟩:=x; exact ⟨mA,⟨od,es,ep,k _ _ (.inl rfl) e,c⟩,r⟩
  | rng lo hi=>obtain ⟨t,u,v,e⟩:=x; exact ⟨t,u,v,k _ _ (.inl rfl) e⟩
  | frz ob u ih=>obtain ⟨e,q⟩:=x; exact ⟨k _ _ (.inl rfl) e,ih q⟩
  | tbl q =>
    obtain ⟨ps,e,t,c⟩:=x
    exact ⟨ps,k a _ (.inl rfl) e,t,fun pos cv z=>by obtain ⟨c',o,vs,t',e1,e2,e3⟩:=c pos cv z; exact ⟨c',o,vs,t',e1,hf _ _ _ e2,e3⟩⟩
  | met f y =>
    have e:h.get? a=some (PySem.W.methodObj (.ref f) (.ref y)):=x
    show h'.get? a=some (PySem.W.methodObj (.ref f) (.ref y))
    exact k a _ (.inl rfl) e
  | ext φ=>obtain ⟨p,⟨o,e⟩,st⟩:=x; exact ⟨st _ _ p fun o q=>k _ _ (.inl rfl) q,⟨o,k _ _ (.inl rfl) e⟩,st⟩
theorem HOk.lt (x:HOk P w H h) (e:H a=some o):a < h.objs.size:=(x a o e).lt
theorem HOk.fresh (x:HOk P w H h) (e:h.objs.size≤a):H a=none:=by
  cases q:H a with
  | none=>rfl
  | some u=>exact absurd (Nat.lt_of_lt_of_le (x.lt q) e) (Nat.lt_irrefl _)
theorem HOk.kept (x:HOk P w H h) (k:∀ b u,h.get? b=some u→h'.get? b=some u):HOk P w H h':=fun a o e =>
  (x a o e).stay (fun b u _ q=>k b u q) (fun _ q=>q) fun _ _ q=>q
theorem HOk.laid (x:HOk P w H h) (k:∀ b u,h.get? b=some u→h'.get? b=some u) (hp:h.objs.size≤a) (new:gr P w (upd H a o) h' a o):HOk P w (upd H a o) h':=fun b u e=>by
  have hn:=x.fresh hp
  by_cases hb:b=a
  · subst hb; rw [cp] at e; cases e; exact new
  · rw [bx hb] at e
    exact (x b u e).stay (fun c v _ q=>k c v q) (fun c q=>by rw [bx (bF q hn)]; exact q) (fun c xs q=>by rw [bx (bF q hn)]; exact q) fun c ob w' q=>by rw [bx (bF q hn)]; exact q
end
noncomputable def Rd (H:Hp) (a:Addr) (u:HO):Prop:=H a=some u∨∃ o,H a=some (.frz o u)
theorem Rd.ok {P:Program} {w:World} {H:Hp} {h:Heap} {a:Addr} {u:HO} (r:Rd H a u) (x:HOk P w H h):gr P w H h a u:=by
  rcases r with r | ⟨o,r⟩
  · exact x a u r
  · obtain ⟨_,q⟩:=x a _ r
    exact q
noncomputable def Mut:Option HO→Prop
  | some (.lst _)=>True
  | some (.dK _)=>True
  | some (.dT _)=>True
  | some (.set _ _)=>True
  | some (.ins _ _ _)=>True
  | some (.ext _)=>True
  | _=>False
section
variable {P:Program} {w:World} {H:Hp} {h h':Heap} {x e:Addr} {o':HO}
theorem HOk.write (ok:HOk P w H h) (mu:Mut (H x)) (he:e=x∨H e=some (.own x)) (k:∀ b u,b≠e→h.get? b=some u→h'.get? b=some u) (heo:∃ u,h'.get? e=some u)
    (new:gr P w (upd H x o') h' x o'):HOk P w (upd H x o') h':=fun b u q=>by
  have nown:∀ c y,H c=some (.own y)→c≠x:=fun c y r z=>by subst z; rw [r] at mu; exact mu
  have ntup:∀ c xs,H c=some (.tup xs)→c≠x:=fun c xs r z=>by subst z; rw [r] at mu; exact mu
  have nfrz:∀ c o u,H c=some (.frz o u)→c≠x:=fun c o u r z=>by subst z; rw [r] at mu; exact mu
  by_cases hb:b=x
  · subst hb; rw [cp] at q; cases q; exact new
  · rw [bx hb] at q
    by_cases hbe:b=e
    · have q':H b=some (.own x):=by
        rcases he with z | z
        · exact absurd (hbe.trans z) hb
        · rw [hbe]; exact z
      rw [q] at q'; cases q'
      obtain ⟨v,hv⟩:=heo
      exact ⟨v,by rw [hbe]; exact hv⟩
    · refine (ok b u q).stay (fun c v hc r=>k c v ?_ r) (fun c r=>by rw [bx (nown c b r)]; exact r) (fun c xs r=>by rw [bx (ntup c xs r)]; exact r) fun c o w' r=>by rw [bx (nfrz c o w' r)]; exact r
      rcases hc with rfl | hc
      · exact hbe
      · rintro rfl
        rcases he with z | z
        · exact nown c b hc z
        · rw [hc] at z; cases z; exact hb rfl
end
structure Un (fs ex:List Addr) (H H':Hp) (h h':Heap):Prop where
  keep:∀ b o,h.get? b=some o→H b=none→b ∉ fs→b ∉ ex→h'.get? b=some o
  slot:∀ b o,h.get? b=some o→H b=none→b∈fs→b ∉ ex→∃ sl,h'.get? b=some { o with slots:=sl }
  free:∀ b o,h.get? b=some o→H b=none→b ∉ ex→H' b=none
  there:∀ b o,h.get? b=some o→b ∉ ex→∃ o',h'.get? b=some o'
  tups:∀ b xs,H b=some (.tup xs)→H' b=some (.tup xs)
  frzs:∀ b o u,H b=some (.frz o u)→H' b=some (.frz o u)
  tbls:∀ b q,H b=some (.tbl q)→H' b=some (.tbl q)
section
variable {fs fs' ex ex':List Addr} {H H1 H2:Hp} {h h1 h2 h':Heap} {a x e:Addr} {o:HO}
theorem Un.any (u:Un fs ex H H1 h h1) {b:Addr} {ob:Obj} (q:h.get? b=some ob) (n:H b=none) (hx:b ∉ ex):∃ sl,h1.get? b=some { ob with slots:=sl }:=by
  by_cases hb:b∈fs
  · exact u.slot b ob q n hb hx
  · exact ⟨ob.slots,u.keep b ob q n hb hx⟩
theorem Un.kept (k:∀ b u,h.get? b=some u→h'.get? b=some u):Un fs ex H H h h' :=
  ⟨fun b ob q _ _ _=>k b ob q,fun b ob q _ _ _=>⟨ob.slots,k b ob q⟩,fun _ _ _ n _=>n,fun b ob q _=>⟨ob,k b ob q⟩,fun _ _ q=>q,fun _ _ _ q=>q,fun _ _ q=>q⟩
theorem Un.refl:Un fs ex H H h h:=Un.kept fun _ _ q=>q
theorem Un.laid (k:∀ b u,h.get? b=some u→h'.get? b=some u) (hp:h.objs.size≤a) (hn:H a=none):Un fs ex H (upd H a o) h h' where
  keep:=fun b u q _ _ _=>k b u q
  slot:=fun b u q _ _ _=>⟨u.slots,k b u q⟩
  free:=fun b u q n _=>by rw [bx (Nat.ne_of_lt (Nat.lt_of_lt_of_le (Heap.lt_size q) hp))]; exact n
  there:=fun b u q _=>⟨u,k b u q⟩
  tups:=fun b xs q=>by rw [bx (bF q hn)]; exact q
  frzs:=fun b u xs q=>by rw [bx (bF q hn)]; exact q
  tbls:=fun b ps q=>by rw [bx (bF q hn)]; exact q
theorem Un.write (mu:Mut (H x)) (he:e=x∨H e=some (.own x)) (k:∀ b u,b≠e→h.get? b=some u→h'.get? b=some u) (heo:∃ u,h'.get? e=some u):Un fs ex H (upd H x o) h h':=by
  have hx:∀ b,H b=none→b≠x:=fun b n z=>by subst z; rw [n] at mu; exact mu
  have hb:∀ b,H b=none→b≠e:=fun b n z=>by
    subst z
    rcases he with r | r
    · exact hx b n r
    · rw [n] at r; cases r
  have hm:∀ b u,H b=some u→¬ Mut (some u)→b≠x:=fun b u q nm z=>by subst z; rw [q] at mu; exact nm mu
  refine ⟨fun b u q n _ _=>k b u (hb b n) q,fun b u q n _ _=>⟨u.slots,k b u (hb b n) q⟩,fun b u q n _=>by rw [bx (hx b n)]; exact n,fun b u q _=>?_,
    fun b xs q=>by rw [bx (hm b _ q fun z=>z)]; exact q,fun b u xs q=>by rw [bx (hm b _ q fun z=>z)]; exact q,fun b ps q=>by rw [bx (hm b _ q fun z=>z)]; exact q⟩
  by_cases hbe:b=e
  · subst hbe; exact heo
  · exact ⟨u,k b u hbe q⟩
end
noncomputable def trk (h:Heap) (H:Hp):List Addr:=(List.range h.objs.size).filter fun a=>(H a).isSome
noncomputable def sZ (h:Heap) (H:Hp):Heap:=PySem.W.hideAll h (trk h H)
theorem y1 (h:Heap) (H:Hp):(sZ h H).objs.size=h.objs.size:=PySem.W.hideAll_size _ _
theorem zR {h:Heap} {H:Hp} {b:Addr} {o:Obj} (e:h.get? b=some o) (n:H b=none):(sZ h H).get? b=some o :=
  PySem.W.hideAll_get _ e fun hm=>by
    have q:(H b).isSome=true:=(List.mem_filter.mp hm).2
    rw [n] at q; simp at q
theorem BE {h:Heap} {H:Hp} {b:Addr} {o:Obj} (e:(sZ h H).get? b=some o):h.get? b=some o∧H b=none:=by
  have e':h.get? b=some o:=PySem.W.of_hideAll (trk h H) e
  refine ⟨e',?_⟩
  cases q:H b with
  | none=>rfl
  | some x =>
    have hm:b∈trk h H:=List.mem_filter.mpr ⟨List.mem_range.mpr (Heap.lt_size e'),by simp [q]⟩
    have z:(sZ h H).get? b=none:=PySem.W.hideAll_none (trk h H) hm
    rw [z] at e; cases e
end L2
namespace L2
open PySem PySem.Spec PyProof.Rows
structure Mod (K:PySem.W.Frag) (mg:Str→Option Value) (base:Heap):Prop where
  kin:K.In base
  glob:base.Ns mainGlobals mg
  blt:∃ mb,base.Ns builtinsNs mb∧∀ x:Str,x≠"__name__"→mb x=bootBuiltins x
  nolimit:base.NoLimit
noncomputable def xS:List Str:=[]
noncomputable def TabOf (K:PySem.W.Frag) (P:Addr) (q:Str):Prop:=∃ x∈xS,∃ f oc od fd sl c,PySem.W.nsIn K mainGlobals x=some (some (.ref f))∧K.lookup f=some ⟨oc,od,.func fd,sl⟩∧fd.code=.ref c∧(∃ o vs,K.lookup c=some o∧o.data=.fields vs∧vs[11]?=some (.ref P))∧q=x++".<locals>.<lambda>"
structure Cx where
  prog:Program
  w:World
  K:PySem.W.Frag
  mg:Str→Option Value
  base:Heap
  A:Around
  N:List Str
  s₀:Shared
  H₀:Hp
  env:Env
  outer:List Env
  stack:List Env
  ex:List Addr
  fn:Str→Bool
  calm:Bool
  pn:List (Addr × Obj)
  xe:Value→Shared→Prop
noncomputable def frs (l:List Env):List Addr:=l.filterMap (·.frame)
noncomputable abbrev Cx.fs (X:Cx):List Addr:=frs X.outer
noncomputable def Vis (sc:Scope) (x:Str):Prop:=sc.names.lookup x=some .local∨sc.names.lookup x=some .cell∨sc.names.lookup x=some .free
noncomputable def Loc (sc:Scope) (x:Str):Prop:=sc.names.lookup x=some .local∨sc.names.lookup x=some .cell
noncomputable def Look (env:Env) (h:Heap) (m:Str→Option Value) (x:Str) (u:Value):Prop :=
  (env.kindOf x=some .local∧m x=some u)∨((env.kindOf x=some .cell∨env.kindOf x=some .free)∧∃ c,env.cells.lookup x=some c∧h.IsCell c (some u))
structure Cx.Ok (X:Cx):Prop where
  mod:Mod X.K X.mg X.base
  kind:X.env.scope.kind=.function
  glob:X.env.globals=mainGlobals
  blt:X.env.builtins=builtinsNs
  above:X.s₀.heap.objs.size≤X.env.locals
  inj:∀ x y c,X.env.cells.lookup x=some c→X.env.cells.lookup y=some c→x=y
  has:∀ x,(X.env.kindOf x=some .cell∨X.env.kindOf x=some .free)→∃ c,X.env.cells.lookup x=some c
  cab:∀ x c,X.fn x=true→X.env.cells.lookup x=some c→X.s₀.heap.objs.size≤c
  hd:X.calm=true→X.A.handled=none
  frames:X.A.frames=some X.stack
  stk:X.stack=X.outer∨(X.stack=X.env::X.outer∧X.env.frame=some X.env.locals)
  exf:∀ b∈X.ex,b≠X.env.locals∧∀ x c,X.env.cells.lookup x=some c→c≠b
  bs:∀ b o,X.base.get? b=some o→X.s₀.heap.get? b=some o∧X.H₀ b=none
  bsz:X.base.objs.size≤X.s₀.heap.objs.size
  noex:∀ b o,X.base.get? b=some o→b ∉ X.ex
  exfs:∀ b∈X.ex,b ∉ X.fs
  funs:X.s₀.heap.FunFrames X.base X.outer
  frf:∀ b∈X.fs,X.H₀ b=none
structure Inv (X:Cx) (pins:List (Addr × Obj)) (σ:List (Option V)) (H:Hp) (s:Shared):Prop where
  ok:X.Ok
  os:s.os=X.s₀.os
  bare:AllBare s.gens
  base:Un X.fs X.ex X.H₀ H X.s₀.heap s.heap
  loc:∃ m,s.heap.Ns X.env.locals m∧∀ (i:Nat) (x:Str) (v:V),X.N[i]?=some x→σ[i]?=some (some v)→Vis X.env.scope x→∃ u,RelV v u∧Look X.env s.heap m x u
  cell:∀ x c,X.env.cells.lookup x=some c→∃ v,s.heap.IsCell c v
  free:H X.env.locals=none
  freeC:∀ x c,X.env.cells.lookup x=some c→H c=none
  pin:∀ p∈X.pn++pins,s.heap.get? p.1=some p.2∧H p.1=none∧p.1≠X.env.locals∧p.1 ∉ X.fs∧∀ v,p.2.data≠.cell v
  hok:HOk X.prog X.w H s.heap
  len:σ.length=X.N.length
  tab:∀ P q,TabOf X.K P q→H P=some (.tbl q)
section
variable {X:Cx} {pins:List (Addr × Obj)} {σ:List (Option V)} {H H':Hp} {s:Shared} {h':Heap}
theorem Cx.Ok.nofr (ok:X.Ok) {b:Addr} {o:Obj} (e:X.base.get? b=some o):b ∉ X.fs:=fun hb=>by
  have:=(ok.funs.mem hb).1
  rw [e] at this; cases this
theorem Inv.bs (I:Inv X pins σ H s):∀ b o,X.base.get? b=some o→s.heap.get? b=some o∧H b=none:=fun b o e =>
  ⟨I.base.keep b o (I.ok.bs b o e).1 (I.ok.bs b o e).2 (I.ok.nofr e) (I.ok.noex b o e),I.base.free b o (I.ok.bs b o e).1 (I.ok.bs b o e).2 (I.ok.noex b o e)⟩
theorem Inv.bk (I:Inv X pins σ H s):∀ b o,X.base.get? b=some o→s.heap.get? b=some o:=fun b o e=>(I.bs b o e).1
theorem Inv.mod (I:Inv X pins σ H s):Mod X.K X.mg X.base:=I.ok.mod
theorem Inv.kIn (I:Inv X pins σ H s):X.K.In s.heap:=I.ok.mod.kin.keeps I.bk
theorem Inv.lt (I:Inv X pins σ H s):X.env.locals < s.heap.objs.size:=let ⟨_,hn,_⟩:=I.loc; hn.lt
theorem Inv.sz (I:Inv X pins σ H s):X.s₀.heap.objs.size≤s.heap.objs.size:=Nat.le_trans I.ok.above (Nat.le_of_lt I.lt)
theorem Inv.nofs (I:Inv X pins σ H s) {a:Addr} (h:s.heap.objs.size≤a):a ∉ X.fs:=fun hb=>by
  obtain ⟨_,o,ho,_⟩:=I.ok.funs.mem hb
  exact absurd (Nat.lt_of_lt_of_le (Heap.lt_size ho) (Nat.le_trans I.sz h)) (Nat.lt_irrefl _)
theorem Inv.cne (I:Inv X pins σ H s):∀ x c,X.env.cells.lookup x=some c→c≠X.env.locals:=fun x c e z=>by
  obtain ⟨v,o,ho,hd⟩:=I.cell x c e
  obtain ⟨m,⟨o',es,ep,ho',hd',_⟩,_⟩:=I.loc
  rw [z,ho'] at ho; cases ho; rw [hd'] at hd; cases hd
theorem Inv.funs (I:Inv X pins σ H s):s.heap.FunFrames X.base X.outer:=by
  have all:∀ (l:List Env),(∀ b∈frs l,b∈X.fs)→X.s₀.heap.FunFrames X.base l→s.heap.FunFrames X.base l:=by
    intro l
    induction l with
    | nil=>intro _ _; trivial
    | cons env r ih =>
      intro hs hl
      obtain ⟨hk,⟨L,o,hf,hn,ho,hd⟩,hr⟩:=hl
      have hL:L∈X.fs:=hs L (by unfold frs; rw [List.filterMap_cons,hf]; exact List.mem_cons_self)
      obtain ⟨sl,e⟩:=I.base.slot L o ho (I.ok.frf L hL) hL fun z=>I.ok.exfs L z hL
      exact ⟨hk,⟨L,_,hf,hn,e,hd⟩,ih (fun b hb=>hs b (by unfold frs; rw [List.filterMap_cons,hf]; exact List.mem_cons_of_mem _ hb)) hr⟩
  exact all X.outer (fun _ hb=>hb) I.ok.funs
theorem Inv.stack (I:Inv X pins σ H s):s.heap.FunFrames X.base X.stack:=by
  rcases I.ok.stk with e | ⟨e,hf⟩
  · rw [e]; exact I.funs
  · rw [e]
    obtain ⟨m,hn,_⟩:=I.loc
    refine .cons (by rw [I.ok.kind]; decide) hf hn ?_ I.funs
    exact Heap.get?_none_of_le (Nat.le_trans I.ok.bsz I.ok.above)
theorem Inv.stkSub (I:Inv X pins σ H s):∀ b∈frs X.stack,b∈X.env.locals::X.fs:=fun b hb=>by
  rcases I.ok.stk with e | ⟨e,hf⟩
  · rw [e] at hb; exact List.mem_cons_of_mem _ hb
  · rw [e] at hb
    unfold frs at hb
    rw [List.filterMap_cons,hf] at hb
    exact hb
theorem Inv.stkFree (I:Inv X pins σ H s):∀ b∈frs X.stack,H b=none:=fun b hb=>by
  rcases List.mem_cons.mp (I.stkSub b hb) with e | hb
  · rw [e]; exact I.free
  · obtain ⟨_,o,ho,_⟩:=I.ok.funs.mem hb
    exact I.base.free b o ho (I.ok.frf b hb) fun z=>I.ok.exfs b z hb
theorem Inv.step {g':Array GenState} {t':Nat} {d':Drawn} {ch:List Addr} (I:Inv X pins σ H s)
    (hch:∀ b∈ch,(b∈X.ex∨X.s₀.heap.objs.size≤b)∧b≠X.env.locals∧(∀ x c,X.env.cells.lookup x=some c→c≠b)∧∀ p∈X.pn++pins,p.1≠b)
    (keep:∀ b o,b≠X.env.locals→b ∉ X.fs→b ∉ ch→s.heap.get? b=some o→H b=none→h'.get? b=some o)
    (slot:∀ b o,b≠X.env.locals→b∈X.fs→b ∉ ch→s.heap.get? b=some o→H b=none→∃ sl,h'.get? b=some { o with slots:=sl }) (free:∀ b o,b ∉ ch→s.heap.get? b=some o→H b=none→H' b=none)
    (there:∀ b o,b ∉ ch→s.heap.get? b=some o→∃ o',h'.get? b=some o')
    (tups:∀ b xs,H b=some (.tup xs)→H' b=some (.tup xs)) (frzs:∀ b o u,H b=some (.frz o u)→H' b=some (.frz o u)) (tbls:∀ b q,H b=some (.tbl q)→H' b=some (.tbl q))
    (ns:∀ m,s.heap.Ns X.env.locals m→h'.Ns X.env.locals m) (hok:HOk X.prog X.w H' h') (hg:AllBare g') :
    Inv X pins σ H' { s with heap:=h',gens:=g',drawn:=d',toks:=t' }:=by
  have neL:∀ b o,X.s₀.heap.get? b=some o→b≠X.env.locals:=fun b o e=>Nat.ne_of_lt (Nat.lt_of_lt_of_le (Heap.lt_size e) I.ok.above)
  have neC:∀ b o,X.s₀.heap.get? b=some o→b ∉ X.ex→b ∉ ch:=fun b o e hx hb=>by
    rcases (hch b hb).1 with z | z
    · exact hx z
    · exact absurd (Nat.lt_of_lt_of_le (Heap.lt_size e) z) (Nat.lt_irrefl _)
  have cellK:∀ x c,X.env.cells.lookup x=some c→∀ v,s.heap.IsCell c v→h'.IsCell c v:=fun x c e v pz4=>by
    obtain ⟨o,ho,hd⟩:=pz4
    have nch:c ∉ ch:=fun z=>(hch c z).2.2.1 x c e rfl
    by_cases hc:c∈X.fs
    · obtain ⟨sl,q⟩:=slot c o (I.cne x c e) hc nch ho (I.freeC x c e)
      exact ⟨_,q,hd⟩
    · exact ⟨o,keep c o (I.cne x c e) hc nch ho (I.freeC x c e),hd⟩
  refine ⟨I.ok,I.os,hg,⟨fun b o e n hb hx=>?_,fun b o e n hb hx=>?_,fun b o e n hx=>?_,fun b o e hx=>?_,fun b xs e=>tups b xs (I.base.tups b xs e),fun b o xs e=>frzs b o xs (I.base.frzs b o xs e),fun b ps e=>?_⟩,?_,fun x c e=>?_,?_,fun x c e=>?_,fun p hp=>?_,hok,I.len,fun P q t=>tbls P q (I.tab P q t)⟩
  · exact keep b o (neL b o e) hb (neC b o e hx) (I.base.keep b o e n hb hx) (I.base.free b o e n hx)
  · obtain ⟨sl,e1⟩:=I.base.slot b o e n hb hx
    obtain ⟨sl',e2⟩:=slot b _ (neL b o e) hb (neC b o e hx) e1 (I.base.free b o e n hx)
    exact ⟨sl',e2⟩
  · obtain ⟨o',e1⟩:=I.base.there b o e hx
    exact free b o' (neC b o e hx) e1 (I.base.free b o e n hx)
  · obtain ⟨o',e1⟩:=I.base.there b o e hx
    exact there b o' (neC b o e hx) e1
  · exact tbls b _ (I.base.tbls b ps e)
  · obtain ⟨m,hn,hl⟩:=I.loc
    refine ⟨m,ns m hn,fun i x v e1 e2 e3=>?_⟩
    obtain ⟨u,r,l⟩:=hl i x v e1 e2 e3
    refine ⟨u,r,?_⟩
    rcases l with l | ⟨k,c,e,z⟩
    · exact .inl l
    · exact .inr ⟨k,c,e,cellK x c e _ z⟩
  · obtain ⟨v,z⟩:=I.cell x c e
    exact ⟨v,cellK x c e v z⟩
  · obtain ⟨m,⟨o,_,_,ho,_⟩,_⟩:=I.loc
    exact free _ o (fun z=>(hch _ z).2.1 rfl) ho I.free
  · obtain ⟨v,o,ho,hd⟩:=I.cell x c e
    exact free c o (fun z=>(hch c z).2.2.1 x c e rfl) ho (I.freeC x c e)
  · obtain ⟨e,n,ne,nf,d⟩:=I.pin p hp
    have nch:p.1 ∉ ch:=fun z=>(hch p.1 z).2.2.2 p hp rfl
    exact ⟨keep p.1 p.2 ne nf nch e n,free p.1 p.2 nch e n,ne,nf,d⟩
theorem Inv.un {t':Nat} (I:Inv X pins σ H s) (u:Un X.fs [] H H' s.heap h') (hok:HOk X.prog X.w H' h'):Inv X pins σ H' { s with heap:=h',toks:=t' }:=by
  obtain ⟨m,⟨o,es,ep,ho,r⟩,_⟩:=id I.loc
  obtain ⟨sl,hL⟩:=u.any ho I.free (by simp)
  exact I.step (g':=s.gens) (d':=s.drawn) (ch:=[]) (fun _ z=>nomatch z) (fun b o _ hb _ e n=>u.keep b o e n hb (by simp)) (fun b o _ hb _ e n=>u.slot b o e n hb (by simp)) (fun b o _ e n=>u.free b o e n (by simp)) (fun b o _ e=>u.there b o e (by simp)) u.tups u.frzs u.tbls (fun m' hm=>by
    obtain ⟨o',es',ep',ho',r'⟩:=hm
    rw [ho] at ho'; cases ho'
    exact ⟨_,es',ep',hL,r'⟩) hok I.bare
theorem Inv.call {g':Array GenState} {t':Nat} {d':Drawn} {ch:List Addr} (I:Inv X pins σ H s) (u:Un (frs X.stack) ch H H' s.heap h') (hok:HOk X.prog X.w H' h') (hg:AllBare g')
    (hch:∀ b∈ch,(b∈X.ex∨X.s₀.heap.objs.size≤b)∧b≠X.env.locals∧(∀ x c,X.env.cells.lookup x=some c→c≠b)∧∀ p∈X.pn++pins,p.1≠b) :
    Inv X pins σ H' { s with heap:=h',gens:=g',drawn:=d',toks:=t' }:=by
  obtain ⟨m,⟨o,es,ep,ho,r⟩,_⟩:=id I.loc
  obtain ⟨sl,hL⟩:=u.any ho I.free fun z=>(hch _ z).2.1 rfl
  exact I.step (ch:=ch) hch (fun b o hL hb hc e n=>u.keep b o e n (fun z=>(List.mem_cons.mp (I.stkSub b z)).elim hL hb) hc) (fun b o _ _ hc e n=>u.any e n hc) (fun b o hc e n=>u.free b o e n hc) (fun b o hc e=>u.there b o e hc) u.tups u.frzs u.tbls (fun m' hm=>by
    obtain ⟨o',es',ep',ho',r'⟩:=hm
    rw [ho] at ho'; cases ho'
    exact ⟨_,es',ep',hL,r'⟩) hok hg
theorem Inv.turned {t':Nat} {it:Addr} (I:Inv X pins σ H s) (k:∀ b o,b≠it→s.heap.get? b=some o→h'.get? b=some o) (hn:H it=none) (hL:it≠X.env.locals)
    (h1:it∈X.ex∨X.s₀.heap.objs.size≤it) (h2:∀ x c,X.env.cells.lookup x=some c→c≠it) (h3:∀ p∈X.pn++pins,p.1≠it):Inv X pins σ H { s with heap:=h',toks:=t' }:=by
  have nit:∀ b u,H b=some u→b≠it:=fun b u e z=>by rw [z,hn] at e; cases e
  refine I.step (g':=s.gens) (d':=s.drawn) (ch:=[it]) (fun b hb=>?_) (fun b o _ _ hc e _=>k b o (fun z=>hc (by simp [z])) e) (fun b o _ _ hc e _=>⟨o.slots,k b o (fun z=>hc (by simp [z])) e⟩) (fun _ _ _ _ n=>n)
    (fun b o hc e=>⟨o,k b o (fun z=>hc (by simp [z])) e⟩) (fun _ _ e=>e) (fun _ _ _ e=>e) (fun b ps e=>e) (fun m hm=>?_) (fun b u e=>?_) I.bare
  · have e:b=it:=by simpa using hb
    subst e
    exact ⟨h1,hL,h2,h3⟩
  · obtain ⟨o,es,ep,ho,r⟩:=hm
    exact ⟨o,es,ep,k _ o (Ne.symm hL) ho,r⟩
  · refine (I.hok b u e).stay (fun c v hc q=>k c v ?_ q) (fun _ q=>q) fun _ _ q=>q
    rcases hc with z | z
    · rw [z]; exact nit b u e
    · exact nit c _ z
theorem Inv.tok (I:Inv X pins σ H s) (t:Nat):Inv X pins σ H { s with toks:=t }:=I.un (h':=s.heap) (t':=t) Un.refl I.hok
theorem Inv.kept {t':Nat} (I:Inv X pins σ H s) (k:∀ b u,s.heap.get? b=some u→h'.get? b=some u):Inv X pins σ H { s with heap:=h',toks:=t' }:=I.un (Un.kept k) (I.hok.kept k)
theorem Inv.laid {a:Addr} {o:HO} {t':Nat} (I:Inv X pins σ H s) (k:∀ b u,s.heap.get? b=some u→h'.get? b=some u) (hp:s.heap.objs.size≤a) (new:gr X.prog X.w (upd H a o) h' a o) :
    Inv X pins σ (upd H a o) { s with heap:=h',toks:=t' }:=I.un (Un.laid k hp (I.hok.fresh hp)) (I.hok.laid k hp new)
theorem Inv.write {x e:Addr} {o:HO} {t':Nat} (I:Inv X pins σ H s) (mu:Mut (H x)) (he:e=x∨H e=some (.own x)) (k:∀ b u,b≠e→s.heap.get? b=some u→h'.get? b=some u) (heo:∃ u,h'.get? e=some u)
    (new:gr X.prog X.w (upd H x o) h' x o):Inv X pins σ (upd H x o) { s with heap:=h',toks:=t' }:=I.un (Un.write mu he k heo) (I.hok.write mu he k heo new)
theorem Inv.pins_of {pins':List (Addr × Obj)} (I:Inv X pins σ H s) (h:∀ p∈pins',s.heap.get? p.1=some p.2∧H p.1=none∧p.1≠X.env.locals∧p.1 ∉ X.fs∧∀ v,p.2.data≠.cell v):Inv X pins' σ H s :=
  ⟨I.ok,I.os,I.bare,I.base,I.loc,I.cell,I.free,I.freeC,fun p hp=>(List.mem_append.mp hp).elim (fun z=>I.pin p (List.mem_append_left _ z)) (h p),I.hok,I.len,I.tab⟩
theorem uV {N:List Str} (hN:N.Nodup) {i j:Nat} {x:Str} (a:N[i]?=some x) (b:N[j]?=some x):i=j:=by
  obtain ⟨h1,e1⟩:=List.getElem?_eq_some_iff.mp a
  obtain ⟨h2,e2⟩:=List.getElem?_eq_some_iff.mp b
  exact (List.getElem_inj hN).mp (e1.trans e2.symm)
theorem sx {M:Model} {A:Around} {E:Value→Shared→Prop} {i:Nat} {x:Str} {v:V} {u:Value} {Q:Unit→Shared→Prop} (I:Inv X pins σ H s) (hN:X.N.Nodup) (hi:X.N[i]?=some x) (hx:Loc X.env.scope x) (r:RelV v u)
    (h:∀ s',Inv X pins (σ.set i (some v)) H s'→(∃ a,Heap.SameBut a s.heap s'.heap∧(a=X.env.locals∨X.env.cells.lookup x=some a))→Q () s') (hf:X.fn x=true∨X.env.scope.names.lookup x=some .local:=by first | exact .inl rfl | exact .inr rfl | assumption):wpAny M A (storeName X.env x u) Q E s:=by
  obtain ⟨m,hn,hl⟩:=id I.loc
  have hcls:(X.env.scope.kind == .class || (X.env.scope.kind == .module && X.env.locals != X.env.globals))=false:=by rw [I.ok.kind]; rfl
  have hiσ:i < σ.length:=by rw [I.len]; exact (List.getElem?_eq_some_iff.mp hi).1
  have cne:=I.cne
  have tracked:∀ {a:Addr} {h':Heap},(∃ o,s.heap.get? a=some o∧H a=none)→Heap.SameBut a s.heap h'→HOk X.prog X.w H h':=fun {a h'} ha hs b ob e=>by
    obtain ⟨_,_,hfree⟩:=ha
    refine (I.hok b ob e).stay (fun c w' hc q=>(hs.2 c ?_).trans q) (fun _ q=>q) fun _ _ q=>q
    rintro rfl
    rcases hc with rfl | hc
    · rw [hfree] at e; cases e
    · rw [hfree] at hc; cases hc
  rcases hx with hk | hk
  · refine wpAny_storeName_local hk hn (fun h' hn' hs=>?_) hcls
    obtain ⟨oL,_,_,hoL,_⟩:=id hn
    refine h _ ⟨I.ok,I.os,I.bare,⟨fun b o e n hb hx=>?_,fun b o e n hb hx=>?_,I.base.free,fun b o e hx=>?_,I.base.tups,I.base.frzs,I.base.tbls⟩,⟨_,hn',fun j y v' e1 e2 e3=>?_⟩,fun y c e=>?_,I.free,I.freeC,fun p hp=>?_,tracked ⟨oL,hoL,I.free⟩ hs,by simpa using I.len,I.tab⟩ ⟨_,hs,.inl rfl⟩
    · exact (hs.2 b (Nat.ne_of_lt (Nat.lt_of_lt_of_le (Heap.lt_size e) I.ok.above))).trans (I.base.keep b o e n hb hx)
    · obtain ⟨sl,e1⟩:=I.base.slot b o e n hb hx
      exact ⟨sl,(hs.2 b (Nat.ne_of_lt (Nat.lt_of_lt_of_le (Heap.lt_size e) I.ok.above))).trans e1⟩
    · obtain ⟨o',e1⟩:=I.base.there b o e hx
      exact ⟨o',(hs.2 b (Nat.ne_of_lt (Nat.lt_of_lt_of_le (Heap.lt_size e) I.ok.above))).trans e1⟩
    · by_cases hj:j=i
      · subst hj
        rw [hi] at e1; cases e1
        rw [List.getElem?_set_self hiσ] at e2
        cases e2
        exact ⟨u,r,.inl ⟨hk,by simp⟩⟩
      · rw [List.getElem?_set_ne (Ne.symm hj)] at e2
        obtain ⟨u',r',q⟩:=hl j y v' e1 e2 e3
        refine ⟨u',r',?_⟩
        rcases q with ⟨k,e⟩ | ⟨k,c,e,z⟩
        · refine .inl ⟨k,?_⟩
          have:y≠x:=fun e=>hj (uV hN e1 (e ▸ hi))
          simp [this,e]
        · exact .inr ⟨k,c,e,z.sameBut hs (cne y c e)⟩
    · obtain ⟨w',z⟩:=I.cell y c e
      exact ⟨w',z.sameBut hs (cne y c e)⟩
    · obtain ⟨e,n,ne,nf,d⟩:=I.pin p hp
      exact ⟨(hs.2 p.1 ne).trans e,n,ne,nf,d⟩
  · have hfn:X.fn x=true:=by
      rcases hf with z | z
      · exact z
      · rw [z] at hk; cases hk
    obtain ⟨c,hc⟩:=I.ok.has x (.inl hk)
    obtain ⟨w',z⟩:=I.cell x c hc
    refine wpAny_storeName_cell I.ok.kind hk hc z (fun h' hc' hs=>?_)
    obtain ⟨oc,hoc,hocd⟩:=id z
    refine h { s with heap:=h' } ⟨I.ok,I.os,I.bare,⟨fun b o e n hb hx=>?_,fun b o e n hb hx=>?_,I.base.free,fun b o e hx=>?_,I.base.tups,I.base.frzs,I.base.tbls⟩,⟨m,hn.sameBut hs (Ne.symm (cne x c hc)),fun j y v' e1 e2 e3=>?_⟩,fun y c' e=>?_,I.free,I.freeC,fun p hp=>?_,tracked ⟨oc,hoc,I.freeC x c hc⟩ hs,by simpa using I.len,I.tab⟩ ⟨c,hs,.inr hc⟩
    · exact (hs.2 b (Nat.ne_of_lt (Nat.lt_of_lt_of_le (Heap.lt_size e) (I.ok.cab x c hfn hc)))).trans (I.base.keep b o e n hb hx)
    · obtain ⟨sl,e1⟩:=I.base.slot b o e n hb hx
      exact ⟨sl,(hs.2 b (Nat.ne_of_lt (Nat.lt_of_lt_of_le (Heap.lt_size e) (I.ok.cab x c hfn hc)))).trans e1⟩
    · obtain ⟨o',e1⟩:=I.base.there b o e hx
      exact ⟨o',(hs.2 b (Nat.ne_of_lt (Nat.lt_of_lt_of_le (Heap.lt_size e) (I.ok.cab x c hfn hc)))).trans e1⟩
    · by_cases hj:j=i
      · subst hj
        rw [hi] at e1; cases e1
        rw [List.getElem?_set_self hiσ] at e2
        cases e2
        exact ⟨u,r,.inr ⟨.inl hk,c,hc,hc'⟩⟩
      · rw [List.getElem?_set_ne (Ne.symm hj)] at e2
        obtain ⟨u',r',q⟩:=hl j y v' e1 e2 e3
        refine ⟨u',r',?_⟩
        rcases q with q | ⟨k,c',e,z'⟩
        · exact .inl q
        · refine .inr ⟨k,c',e,z'.sameBut hs ?_⟩
          rintro rfl
          exact hj (uV hN e1 (I.ok.inj _ _ _ e hc ▸ hi))
    · by_cases hcc:c'=c
      · subst hcc; exact ⟨_,hc'⟩
      · obtain ⟨w2,z2⟩:=I.cell y c' e
        exact ⟨w2,z2.sameBut hs hcc⟩
    · obtain ⟨e,n,ne,nf,d⟩:=I.pin p hp
      refine ⟨(hs.2 p.1 ?_).trans e,n,ne,nf,d⟩
      intro q
      rw [q,hoc] at e
      have q':oc=p.2:=Option.some.inj e
      exact d w' (by rw [← q']; exact hocd)
theorem pU {M:Model} {A:Around} {E:Value→Shared→Prop} {i:Nat} {x:Str} {v:V} {u:Value} {Q:Unit→Shared→Prop} (I:Inv X pins σ H s) (hN:X.N.Nodup) (hi:X.N[i]?=some x) (hx:Loc X.env.scope x) (r:RelV v u)
    (h:∀ s',Inv X pins (σ.set i (some v)) H s'→Q () s') (hf:X.fn x=true∨X.env.scope.names.lookup x=some .local:=by first | exact .inl rfl | exact .inr rfl | assumption):wpAny M A (storeName X.env x u) Q E s :=
  sx I hN hi hx r (fun s' I' _=>h s' I') hf
theorem Inv.call' {s':Shared} {ch:List Addr} (I:Inv X pins σ H s) (ho:s'.os=s.os) (u:Un (frs X.stack) ch H H' s.heap s'.heap) (hok:HOk X.prog X.w H' s'.heap) (hg:AllBare s'.gens)
    (hch:∀ b∈ch,(b∈X.ex∨X.s₀.heap.objs.size≤b)∧b≠X.env.locals∧(∀ x c,X.env.cells.lookup x=some c→c≠b)∧∀ p∈X.pn++pins,p.1≠b):Inv X pins σ H' s':=by
  obtain ⟨h',g',d',t',o'⟩:=s'
  have e:o'=s.os:=ho
  subst e
  exact I.call (g':=g') (t':=t') (d':=d') u hok hg hch
end
noncomputable abbrev XK:=Value→Option Addr→Hp→Prop
noncomputable abbrev St:=List (Option V)
noncomputable abbrev VK:=V→Hp→Prop
noncomputable abbrev TE:=St→Hp→VK→Prop
noncomputable abbrev TT:=St→Hp→(Bool→Hp→Prop)→Prop
noncomputable abbrev TA:=St→Hp→(List V→Hp→Prop)→Prop
structure Ends where
  nx:St→Hp→Prop
  rt:VK
  bk:St→Hp→Prop:=fun _ _=>False
  ct:St→Hp→Prop:=fun _ _=>False
noncomputable abbrev TS:=Ends→St→Hp→Prop
noncomputable def EP (X:Cx) (pins:List (Addr × Obj)) (σ:St) (Q:VK) (u:Value) (s':Shared):Prop:=∃ v H',Inv X pins σ H' s'∧RelV v u∧Q v H'
noncomputable def TP (X:Cx) (pins:List (Addr × Obj)) (σ:St) (Q:Bool→Hp→Prop) (b:Bool) (s':Shared):Prop:=∃ H',Inv X pins σ H' s'∧Q b H'
noncomputable def AP (X:Cx) (pins:List (Addr × Obj)) (σ:St) (Q:List V→Hp→Prop) (us:List Value) (s':Shared):Prop:=∃ vs H',Inv X pins σ H' s'∧Vals vs us∧Q vs H'
noncomputable def SP (X:Cx) (pins:List (Addr × Obj)) (D:Ends) (f:Flow) (s':Shared):Prop :=
  match f with
  | .next=>∃ σ' H',Inv X pins σ' H' s'∧D.nx σ' H'
  | .brk=>∃ σ' H',Inv X pins σ' H' s'∧D.bk σ' H'
  | .cont=>∃ σ' H',Inv X pins σ' H' s'∧D.ct σ' H'
  | .ret u=>∃ v σ' H',Inv X pins σ' H' s'∧RelV v u∧D.rt v H'
noncomputable def PE (X:Cx) (e:Expr) (t:TE):Prop :=
  ∀ (pins:List (Addr × Obj)) (s:Shared) (σ:St) (H:Hp) (Q:VK),Inv X pins σ H s→t σ H Q→wpAny (model X.prog X.w) X.A (eval e X.env) (EP X pins σ Q) X.xe s
noncomputable def PT (X:Cx) (e:Expr) (t:TT):Prop :=
  ∀ (pins:List (Addr × Obj)) (s:Shared) (σ:St) (H:Hp) (Q:Bool→Hp→Prop),Inv X pins σ H s→t σ H Q→wpAny (model X.prog X.w) X.A (isTrue e X.env (eval e X.env)) (TP X pins σ Q) X.xe s
noncomputable def PW (X:Cx) (e:Expr) (t:TT):Prop :=
  ∀ (whole:Sem Value) (pins:List (Addr × Obj)) (s:Shared) (σ:St) (H:Hp) (Q:Bool→Hp→Prop),Inv X pins σ H s→t σ H Q→wpAny (model X.prog X.w) X.A (isTrue e X.env whole) (TP X pins σ Q) X.xe s
theorem PW.pt {X:Cx} {e:Expr} {t:TT} (h:PW X e t):PT X e t:=h _
noncomputable def PA (X:Cx) (es:List Expr) (t:TA):Prop :=
  ∀ (pos:Pos) (pins:List (Addr × Obj)) (s:Shared) (σ:St) (H:Hp) (Q:List V→Hp→Prop),Inv X pins σ H s→t σ H Q→wpAny (model X.prog X.w) X.A (spliced (backTo pos (starEach es X.env))) (AP X pins σ Q) X.xe s
noncomputable def PS (X:Cx) (st:Stmt) (t:TS):Prop :=
  ∀ (pins:List (Addr × Obj)) (s:Shared) (σ:St) (H:Hp) (D:Ends),Inv X pins σ H s→t D σ H→wpAny (model X.prog X.w) X.A (exec st X.env) (SP X pins D) X.xe s
noncomputable def PSs (X:Cx) (st:List Stmt) (t:TS):Prop :=
  ∀ (pins:List (Addr × Obj)) (s:Shared) (σ:St) (H:Hp) (D:Ends),Inv X pins σ H s→t D σ H→wpAny (model X.prog X.w) X.A (execs st X.env) (SP X pins D) X.xe s
theorem thn {α:Type} {t:Sem α} {Q Q':α→Shared→Prop} {M:Model} {A:Around} {E:Value→Shared→Prop} {s:Shared} (h:wpAny M A t Q E s) (hQ:∀ a s,Q a s→Q' a s):wpAny M A t Q' E s:=wpAny_mono h hQ fun _ _ x=>x
end L2
namespace L2
open PySem PySem.Spec PyProof.Rows
section
variable {X:Cx}
theorem bin {a b:Expr} {ta tb:TE} (ha:PE X a ta) (hb:PE X b tb) {pins:List (Addr × Obj)} {s:Shared} {σ:St} {H:Hp} {R:V→V→Hp→Prop} (I:Inv X pins σ H s) (h:ta σ H fun x H1=>tb σ H1 fun y H2=>R x y H2)
    {α:Type} {Q:α→Shared→Prop} {f:Value→Value→Sem α}
    (hf:∀ v u s2 x y H2,Inv X pins σ H2 s2→RelV x v→RelV y u→R x y H2→wpAny (model X.prog X.w) X.A (f v u) Q X.xe s2) :
    wpAny (model X.prog X.w) X.A (eval a X.env) (fun v s₁=>wpAny (model X.prog X.w) X.A (eval b X.env) (fun u s₂=>wpAny (model X.prog X.w) X.A (f v u) Q X.xe s₂) X.xe s₁) X.xe s:=by
  refine thn (ha pins s σ H _ I h) fun v s1 rz2=>?_
  obtain ⟨x,H1,I1,r1,q1⟩:=rz2
  refine thn (hb pins s1 σ H1 _ I1 q1) fun u s2 rz2=>?_
  obtain ⟨y,H2,I2,r2,q2⟩:=rz2
  exact hf v u s2 x y H2 I2 r1 r2 q2
noncomputable def EF (i:Nat):TE:=fun σ H Q=>∃ v,σ[i]?=some (some v)∧Q v H
noncomputable def tC (v:V):TE:=fun _ H Q=>Q v H
theorem oh {i:Nat} {x:Str} {pos:Pos} (hN:X.N[i]?=some x) (hv:Vis X.env.scope x) (hd:(x == ("__debug__":Str))=false:=by decide) (hcd:(x == ("__classdict__":Str))=false:=by decide):PE X (.Name x pos) (EF i):=by
  intro pins s σ H Q I h
  obtain ⟨v,e,h⟩:=h
  obtain ⟨m,hn,hl⟩:=I.loc
  obtain ⟨u,r,l⟩:=hl i x v hN e hv
  have fin:EP X pins σ Q u s:=⟨v,H,I,r,h⟩
  rcases l with ⟨hk,hm⟩ | ⟨hk,c,hc,hcell⟩
  · exact wpAny_Name (wpAny_loadName_local I.ok.kind hk hn hm fin) hd
  · rcases hk with hk | hk
    · exact wpAny_Name (wpAny_loadName_cell I.ok.kind hk hc hcell fin) hd
    · exact wpAny_Name (wpAny_loadName_free I.ok.kind hk hc hcell fin hcd) hd
theorem jS {i j pos}:PE X (.Constant (.int i) j pos) (tC (.int i)):=fun _ _ _ H _ I h=>wpAny_Constant_int ⟨.int i,H,I.tok _,⟨_,rfl⟩,h⟩
theorem EI {b j pos}:PE X (.Constant (.bool b) j pos) (tC (.bl b)):=fun _ _ _ H _ I h=>Constant_bool ⟨.bl b,H,I,rfl,h⟩
theorem D9 {j pos}:PE X (.Constant .none j pos) (tC .non):=fun _ _ _ H _ I h=>Constant_none ⟨.non,H,I,rfl,h⟩
theorem Di {x j pos}:PE X (.Constant (.str x) j pos) (tC (.str x)):=fun _ _ _ H _ I h=>Calls.Constant_str ⟨.str x,H,I.tok _,⟨_,rfl⟩,h⟩
noncomputable def Gl (X:Cx) (x:Str):Prop:=X.env.kindOf x=some .globalImplicit
theorem pz {E:Value→Shared→Prop} {pins:List (Addr × Obj)} {s:Shared} {σ:St} {H:Hp} {x:Str} {u:Value} {pos:Pos} {Q:Value→Shared→Prop} (I:Inv X pins σ H s) (hg:Gl X x) (hm:X.mg x=some u) (h:Q u s)
    (hd:(x == ("__debug__":Str))=false:=by decide):wpAny (model X.prog X.w) X.A (eval (.Name x pos) X.env) Q E s :=
  Calls.Name_function_global I.ok.kind hg (Calls.loadGlobal_global (by rw [I.ok.glob]; exact I.mod.glob.keeps I.bk) hm h) hd
theorem gU {E:Value→Shared→Prop} {pins:List (Addr × Obj)} {s:Shared} {σ:St} {H:Hp} {x:Str} {u:Value} {pos:Pos} {Q:Value→Shared→Prop} (I:Inv X pins σ H s) (hg:Gl X x) (hm:X.mg x=none) (hv:bootBuiltins x=some u) (h:Q u s)
    (hn:x≠"__name__":=by decide) (hd:(x == ("__debug__":Str))=false:=by decide):wpAny (model X.prog X.w) X.A (eval (.Name x pos) X.env) Q E s:=by
  obtain ⟨mb,h1,h2⟩:=I.mod.blt
  exact Calls.Name_function_global I.ok.kind hg (Calls.loadGlobal_builtin (by rw [I.ok.glob]; exact I.mod.glob.keeps I.bk) hm (by rw [I.ok.blt]; exact h1.keeps I.bk) ((h2 x hn).trans hv) h) hd
theorem BS {x:Str} {v:V} {u:Value} {pos:Pos} (hg:Gl X x) (hm:X.mg x=some u) (r:RelV v u) (hd:(x == ("__debug__":Str))=false:=by decide):PE X (.Name x pos) (tC v) :=
  fun _ _ _ H _ I h=>pz I hg hm ⟨v,H,I,r,h⟩ hd
theorem B8 {x:Str} {v:V} {u:Value} {pos:Pos} (hg:Gl X x) (hm:X.mg x=none) (hv:bootBuiltins x=some u) (r:RelV v u) (hn:x≠"__name__":=by decide) (hd:(x == ("__debug__":Str))=false:=by decide):PE X (.Name x pos) (tC v) :=
  fun _ _ _ H _ I h=>gU I hg hm hv ⟨v,H,I,r,h⟩ hn hd
noncomputable def t2I (ta tb:TE) (k:Int→Int→Hp→Prop):St→Hp→Prop:=fun σ H=>ta σ H fun x H1=>tb σ H1 fun y H2=>∃ i j,x=.int i∧y=.int j∧k i j H2
variable {a b:Expr} {ta tb:TE} {pos:Pos}
noncomputable def PC (X:Cx) (op:CmpOp) (a b:Expr) (t:TE):Prop :=
  ∀ (pins:List (Addr × Obj)) (s:Shared) (σ:St) (H:Hp) (Q:VK),Inv X pins σ H s→t σ H Q →
    wpAny (model X.prog X.w) X.A (eval a X.env) (fun v s₁=>wpAny (model X.prog X.w) X.A (eval b X.env) (fun u s₂=>wpAny (model X.prog X.w) X.A (compareOp op v u) (EP X pins σ Q) X.xe s₂) X.xe s₁) X.xe s
theorem vi (b:Expr) {op:CmpOp} (h:op≠.In) (h2:op≠.NotIn):behindInMarks op b=false:=by
  have e1:(op == CmpOp.In)=false:=by cases op <;> first | rfl | exact absurd rfl h
  have e2:(op == CmpOp.NotIn)=false:=by cases op <;> first | rfl | exact absurd rfl h2
  cases b <;> simp [behindInMarks,e1,e2]
noncomputable def Fe (p:Int→Int→Bool) (ta tb:TE):TE:=fun σ H Q=>t2I ta tb (fun i j H2=>Q (.bl (p i j)) H2) σ H
noncomputable abbrev tLt:TE→TE→TE:=Fe fun i j=>decide (i < j)
theorem Dv {op:CmpOp} {p:Int→Int→Bool} (ha:PE X a ta) (hb:PE X b tb)
    (rule:∀ (i j:Int) (t u:Tok) (Q:Value→Shared→Prop) (s:Shared),Q (.bool (p i j)) s→wpAny (model X.prog X.w) X.A (compareOp op (.int i t) (.int j u)) Q X.xe s):PC X op a b (Fe p ta tb):=by
  intro pins s σ H Q I h
  refine bin ha hb I h fun v u s2 x y H2 I2 rx ry q=>?_
  obtain ⟨i,j,rfl,rfl,q⟩:=q
  obtain ⟨t,rfl⟩:=rx
  obtain ⟨t',rfl⟩:=ry
  exact rule i j t t' _ s2 ⟨.bl _,H2,I2,rfl,q⟩
theorem EX (ha:PE X a ta) (hb:PE X b tb):PC X .Lt a b (tLt ta tb):=Dv ha hb fun _ _ _ _ _ _ h=>lt_int h
noncomputable def Fn (ta:TE):TE:=fun σ H Q=>ta σ H fun x H1=>Q (.bl (decide (x=.non))) H1
noncomputable def Eo (ta:TE):TE:=fun σ H Q=>ta σ H fun x H1=>Q (.bl (!decide (x=.non))) H1
theorem RelV.none_iff {x:V} {v:Value} (r:RelV x v):(v == Value.none)=decide (x=.non):=by
  cases x with
  | non=>cases r; rfl
  | bl _=>cases r; rfl
  | int _=>obtain ⟨t,rfl⟩:=r; rfl
  | str _=>obtain ⟨t,rfl⟩:=r; rfl
  | byt _=>obtain ⟨t,rfl⟩:=r; rfl
  | flt _=>obtain ⟨t,rfl⟩:=r; rfl
  | ref _=>cases r; rfl
  | ty _=>cases r; rfl
theorem AH {j pos'} (ha:PE X a ta):PC X .Is a (.Constant .none j pos') (Fn ta):=by
  intro pins s σ H Q I h
  refine thn (ha pins s σ H _ I h) fun v s1 rz2=>?_
  obtain ⟨x,H1,I1,r1,q1⟩:=rz2
  exact Constant_none (is_none_gen ⟨.bl _,H1,I1,by rw [r1.none_iff]; rfl,q1⟩)
theorem xJ {j pos'} (ha:PE X a ta):PC X .IsNot a (.Constant .none j pos') (Eo ta):=by
  intro pins s σ H Q I h
  refine thn (ha pins s σ H _ I h) fun v s1 rz2=>?_
  obtain ⟨x,H1,I1,r1,q1⟩:=rz2
  exact Constant_none (isnot_none_gen ⟨.bl _,H1,I1,by rw [r1.none_iff]; rfl,q1⟩)
noncomputable def tB (t:TE):TT:=fun σ H Q=>t σ H fun x H1=>∃ c,x=.bl c∧Q c H1
theorem A9 {op:CmpOp} {t:TE} (h:PC X op a b t) (h1:behindInMarks op b=false:=by first | exact vi _ (by decide) (by decide) | rfl):PE X (.Compare a [op] [b] pos) t:=fun pins s σ H Q I hw=>wpAny_Compare1 (h pins s σ H Q I hw) h1
theorem wy {op:CmpOp} {t:TE} (h:PC X op a b t) (h1:behindInMarks op b=false:=by first | exact vi _ (by decide) (by decide) | rfl):PT X (.Compare a [op] [b] pos) (tB t):=by
  intro pins s σ H Q I hw
  refine wpAny_isTrue_Compare1 (thn (h pins s σ H _ I hw) fun v s1 h1=>thn h1 fun u s2 h2=>thn h2 fun c s3 rz2=>?_) h1
  obtain ⟨x,H1,I1,r1,q1⟩:=rz2
  obtain ⟨d,rfl,q⟩:=q1
  cases r1
  exact wpAny_truthy_bool ⟨H1,I1,q⟩
theorem D5 {e:Expr} {t:TE} (h:PE X e t) (he:∀ whole,isTrue e X.env whole=(do let v ← whole; standAt e.pos; holding [v] (truthy v)):=by intro _; rfl):PT X e (tB t):=by
  intro pins s σ H Q I hw
  refine isTrue_plain (thn (h pins s σ H _ I hw) fun v s1 rz2=>?_) (he _)
  obtain ⟨x,H1,I1,r1,q1⟩:=rz2
  obtain ⟨d,rfl,q⟩:=q1
  cases r1
  exact wpAny_truthy_bool ⟨H1,I1,q⟩
variable {tA tB':TT} {rest:List Expr}
noncomputable def Ft (t u:TT):TT:=fun σ H Q=>t σ H fun c H1=>if c=true then u σ H1 Q else Q false H1
noncomputable def tOr (t u:TT):TT:=fun σ H Q=>t σ H fun c H1=>if c=true then Q true H1 else u σ H1 Q
noncomputable def FL (t:TT):TT:=fun σ H Q=>t σ H fun c H1=>Q (!c) H1
theorem Cj (ha:PT X a tA):PW X (.BoolOp .And [a] pos) tA:=by
  intro wh pins s σ H Q I h
  refine isTrue_and (thn (ha pins s σ H Q I h) fun c s1 e=>?_)
  cases c with
  | true=>exact isTrue_and_nil e
  | false=>exact e
theorem Dl (ha:PT X a tA):PW X (.BoolOp .Or [a] pos) tA:=by
  intro wh pins s σ H Q I h
  refine isTrue_or (thn (ha pins s σ H Q I h) fun c s1 e=>?_)
  cases c with
  | false=>exact isTrue_or_nil e
  | true=>exact e
theorem DS (ha:PT X a tA) (hb:PW X (.BoolOp .And (b::rest) pos) tB'):PW X (.BoolOp .And (a::b::rest) pos) (Ft tA tB'):=by
  intro wh pins s σ H Q I h
  refine isTrue_and (thn (ha pins s σ H _ I h) fun c s1 rz2=>?_)
  obtain ⟨H1,I1,q1⟩:=rz2
  cases c with
  | true=>exact hb wh pins s1 σ H1 Q I1 q1
  | false=>exact ⟨H1,I1,q1⟩
theorem E6 (ha:PT X a tA) (hb:PW X (.BoolOp .Or (b::rest) pos) tB'):PW X (.BoolOp .Or (a::b::rest) pos) (tOr tA tB'):=by
  intro wh pins s σ H Q I h
  refine isTrue_or (thn (ha pins s σ H _ I h) fun c s1 rz2=>?_)
  obtain ⟨H1,I1,q1⟩:=rz2
  cases c with
  | true=>exact ⟨H1,I1,q1⟩
  | false=>exact hb wh pins s1 σ H1 Q I1 q1
theorem DO (ha:PT X a tA):PT X (.UnaryOp .Not a pos) (FL tA):=by
  intro pins s σ H Q I h
  exact isTrue_not (ha pins s σ H (fun c H1=>Q (!c) H1) I h)
noncomputable def E5 (ta tb:TE):TE:=fun σ H Q=>ta σ H fun x H1=>∃ c,x=.bl c∧if c=true then tb σ H1 Q else Q (.bl false) H1
noncomputable def FP (ta tb:TE):TE:=fun σ H Q=>ta σ H fun x H1=>∃ c,x=.bl c∧if c=true then Q (.bl true) H1 else tb σ H1 Q
theorem Dj {op} {t:TE} (h:PE X a t):PE X (.BoolOp op [a] pos) t:=fun pins s σ H Q I hw=>BoolOp_one (h pins s σ H Q I hw)
theorem Dp (ha:PE X a ta) (hb:PE X (.BoolOp .And (b::rest) pos) tb):PE X (.BoolOp .And (a::b::rest) pos) (E5 ta tb):=by
  intro pins s σ H Q I h
  refine BoolOp_and (thn (ha pins s σ H _ I h) fun v s1 rz2=>?_)
  obtain ⟨x,H1,I1,r1,q1⟩:=rz2
  obtain ⟨c,rfl,q1⟩:=q1
  cases r1
  refine wpAny_truthy_bool ?_
  cases c with
  | true=>exact hb pins s1 σ H1 Q I1 q1
  | false=>exact ⟨.bl false,H1,I1,rfl,q1⟩
theorem EU (ha:PE X a ta) (hb:PE X (.BoolOp .Or (b::rest) pos) tb):PE X (.BoolOp .Or (a::b::rest) pos) (FP ta tb):=by
  intro pins s σ H Q I h
  refine BoolOp_or (thn (ha pins s σ H _ I h) fun v s1 rz2=>?_)
  obtain ⟨x,H1,I1,r1,q1⟩:=rz2
  obtain ⟨c,rfl,q1⟩:=q1
  cases r1
  refine wpAny_truthy_bool ?_
  cases c with
  | false=>exact hb pins s1 σ H1 Q I1 q1
  | true=>exact ⟨.bl true,H1,I1,rfl,q1⟩
noncomputable def tIf (t:TT) (ta tb:TE):TE:=fun σ H Q=>t σ H fun c H1=>if c=true then ta σ H1 Q else tb σ H1 Q
theorem Ak {c:Expr} (hc:PT X c tA) (ha:PE X a ta) (hb:PE X b tb):PE X (.IfExp c a b pos) (tIf tA ta tb):=by
  intro pins s σ H Q I h
  refine wpAny_IfExp (thn (hc pins s σ H _ I h) fun d s1 rz2=>?_)
  obtain ⟨H1,I1,q1⟩:=rz2
  cases d with
  | true=>exact ha pins s1 σ H1 Q I1 q1
  | false=>exact hb pins s1 σ H1 Q I1 q1
end
end L2
namespace L2
open PySem PySem.Spec PyProof.Rows
noncomputable def SqL (K:PySem.W.Frag) (H:Hp) (a:Addr) (xs:List V):Prop :=
  Rd H a (.lst xs) ∨
    ∃ (o:Obj) (its:Array Value) (n:Nat),K.lookup a=some o∧o.cls=.type "list"∧o.dict=none∧o.data=.seq its n∧its.size≤sizeLine∧Vals xs its.toList
noncomputable def SqT (K:PySem.W.Frag) (H:Hp) (a:Addr) (xs:List V):Prop :=
  Rd H a (.tup xs) ∨
    ∃ (o:Obj) (its:Array Value) (n:Nat),K.lookup a=some o∧o.cls=.type "tuple"∧o.data=.seq its n∧its.size≤sizeLine∧Vals xs its.toList
noncomputable def Fs:Value→Option V
  | .none=>some .non
  | .bool b=>some (.bl b)
  | .int i _=>some (.int i)
  | .str x _=>some (.str x)
  | .bytes b _=>some (.byt b)
  | .float b _=>some (.flt b)
  | .ref a=>some (.ref a)
  | .type n=>some (.ty n)
  | _=>none
theorem RelV.abs {x:V} {u:Value} (r:RelV x u):Fs u=some x:=by
  cases x with
  | non=>cases r; rfl
  | bl _=>cases r; rfl
  | int _=>obtain ⟨t,rfl⟩:=r; rfl
  | str _=>obtain ⟨t,rfl⟩:=r; rfl
  | byt _=>obtain ⟨t,rfl⟩:=r; rfl
  | flt _=>obtain ⟨t,rfl⟩:=r; rfl
  | ref _=>cases r; rfl
  | ty _=>cases r; rfl
theorem RelV.inj {x y:V} {u:Value} (r:RelV x u) (q:RelV y u):x=y:=Option.some.inj (r.abs.symm.trans q.abs)
theorem Vals.inj {xs ys:List V} {us:List Value} (h:Vals xs us) (h':Vals ys us):xs=ys:=by
  induction h generalizing ys with
  | nil=>cases h'; rfl
  | cons r t ih =>
    cases h' with
    | cons r' t'=>rw [r.inj r',ih t']
section
variable {X:Cx} {pins:List (Addr × Obj)} {σ:St} {H:Hp} {s:Shared} {a:Addr} {xs ys:List V}
theorem SqL.of {K:PySem.W.Frag} (h:H a=some (.lst xs)):SqL K H a xs:=.inl (.inl h)
theorem SqT.of {K:PySem.W.Frag} (h:H a=some (.tup xs)):SqT K H a xs:=.inl (.inl h)
theorem Inv.list (I:Inv X pins σ H s) (h:SqL X.K H a xs):∃ its:List Value,Vals xs its∧PlainL s.heap a its.toArray∧xs.length≤sizeLine:=by
  rcases h with h | ⟨o,its,n,hk,hc,hd,hs,hz,r⟩
  · obtain ⟨z,its,n,r,e⟩:=h.ok I.hok
    exact ⟨its,r,⟨_,n,e,rfl,rfl,rfl⟩,z⟩
  · refine ⟨its.toList,r,⟨o,n,I.kIn a o hk,hc,hd,by simpa using hs⟩,?_⟩
    have e:=r.length
    simp only [Array.length_toList] at e
    omega
theorem Inv.tuple (I:Inv X pins σ H s) (h:SqT X.K H a xs):∃ its:List Value,Vals xs its∧IsTup s.heap a its.toArray∧xs.length≤sizeLine:=by
  rcases h with h | ⟨o,its,n,hk,hc,hs,hz,r⟩
  · obtain ⟨z,its,r,p⟩:=h.ok I.hok
    exact ⟨its,r,p.tup,z⟩
  · refine ⟨its.toList,r,⟨o,I.kIn a o hk,hc,n,by simpa using hs⟩,?_⟩
    have e:=r.length
    simp only [Array.length_toList] at e
    omega
theorem Inv.list_inj (I:Inv X pins σ H s) (h:SqL X.K H a xs) (h':SqL X.K H a ys):xs=ys:=by
  obtain ⟨its,r,⟨o,n,e,_,_,d⟩,_⟩:=I.list h
  obtain ⟨its',r',⟨o',n',e',_,_,d'⟩,_⟩:=I.list h'
  rw [e] at e'; cases e'
  rw [d] at d'
  injection d' with d1 _
  have:its=its':=by simpa using congrArg Array.toList d1
  subst this
  exact r.inj r'
theorem Inv.tuple_inj (I:Inv X pins σ H s) (h:SqT X.K H a xs) (h':SqT X.K H a ys):xs=ys:=by
  obtain ⟨its,r,⟨o,e,_,n,d⟩,_⟩:=I.tuple h
  obtain ⟨its',r',⟨o',e',_,n',d'⟩,_⟩:=I.tuple h'
  rw [e] at e'; cases e'
  rw [d] at d'
  injection d' with d1 _
  have:its=its':=by simpa using congrArg Array.toList d1
  subst this
  exact r.inj r'
end
noncomputable abbrev Cx.wish (X:Cx) (E:Value→Shared→Prop):Cx:={ X with xe:=E }
noncomputable abbrev Cx.nox (X:Cx):Cx:=X.wish fun _ _=>False
theorem Cx.Ok.wish {X:Cx} (ok:X.Ok) (E:Value→Shared→Prop):(X.wish E).Ok :=
  ⟨ok.mod,ok.kind,ok.glob,ok.blt,ok.above,ok.inj,ok.has,ok.cab,ok.hd,ok.frames,ok.stk,ok.exf,ok.bs,ok.bsz,ok.noex,ok.exfs,ok.funs,ok.frf⟩
theorem Cx.Ok.unwish {X:Cx} {E:Value→Shared→Prop} (ok:(X.wish E).Ok):X.Ok :=
  ⟨ok.mod,ok.kind,ok.glob,ok.blt,ok.above,ok.inj,ok.has,ok.cab,ok.hd,ok.frames,ok.stk,ok.exf,ok.bs,ok.bsz,ok.noex,ok.exfs,ok.funs,ok.frf⟩
section
variable {X:Cx} {pins:List (Addr × Obj)} {σ:St} {H:Hp} {s:Shared} {E:Value→Shared→Prop}
theorem Inv.wish (I:Inv X pins σ H s) (E:Value→Shared→Prop):Inv (X.wish E) pins σ H s:=⟨I.ok.wish E,I.os,I.bare,I.base,I.loc,I.cell,I.free,I.freeC,I.pin,I.hok,I.len,I.tab⟩
theorem Inv.unwish (I:Inv (X.wish E) pins σ H s):Inv X pins σ H s:=⟨I.ok.unwish,I.os,I.bare,I.base,I.loc,I.cell,I.free,I.freeC,I.pin,I.hok,I.len,I.tab⟩
theorem SP.unwish {D:Ends} {f:Flow} {s':Shared} (h:SP (X.wish E) pins D f s'):SP X pins D f s':=by
  cases f with
  | next=>obtain ⟨σ',H',I,q⟩:=h; exact ⟨σ',H',I.unwish,q⟩
  | brk=>obtain ⟨σ',H',I,q⟩:=h; exact ⟨σ',H',I.unwish,q⟩
  | cont=>obtain ⟨σ',H',I,q⟩:=h; exact ⟨σ',H',I.unwish,q⟩
  | ret u=>obtain ⟨v,σ',H',I,r,q⟩:=h; exact ⟨v,σ',H',I.unwish,r,q⟩
theorem PSs.nox {st:List Stmt} {t:TS} (h:PSs X.nox st t):PSs X st t:=fun pins s σ H D I hw =>
  wpAny_mono (h pins s σ H D (I.wish _) hw) (fun _ _ q=>q.unwish) fun _ _ z=>False.elim z
end
section
variable {X:Cx} {st:Stmt} {rest:List Stmt} {t u:TS} {e:Expr} {te:TE} {pos:Pos}
noncomputable def EN:TS:=fun D σ H=>D.nx σ H
noncomputable def Fm (t u:TS):TS:=fun D σ H=>t { D with nx:=u D } σ H
theorem t8:PSs X [] EN:=fun _ _ σ H _ I h=>wpAny_execs_nil ⟨σ,H,I,h⟩
theorem ij (h1:PS X st t) (h2:PSs X rest u):PSs X (st::rest) (Fm t u):=by
  intro pins s σ H D I h
  refine wpAny_execs_cons (thn (h1 pins s σ H { D with nx:=u D } I h) fun f s1 q=>?_)
  cases f with
  | next =>
    obtain ⟨σ',H',I',q⟩:=q
    exact h2 pins s1 σ' H' D I' q
  | ret v=>exact q
  | brk=>exact q
  | cont=>exact q
theorem lH (h1:PS X st t):PSs X [st] t:=by
  intro pins s σ H D I h
  refine wpAny_execs_cons (thn (h1 pins s σ H D I h) fun f s1 q=>?_)
  cases f with
  | next=>exact wpAny_execs_nil q
  | ret v=>exact q
  | brk=>exact q
  | cont=>exact q
theorem Inv.quiet {pins:List (Addr × Obj)} {σ:St} {H:Hp} {s:Shared} (I:Inv X pins σ H s):interactive X.env=false:=by simp [interactive,I.ok.kind]
noncomputable def EA (te:TE):TS:=fun D σ H=>te σ H fun _ H1=>D.nx σ H1
theorem sV (he:PE X e te) (hs:swapsWith e none pos.line X.env=pure false:=by rfl):PS X (.Expr e pos) (EA te):=by
  intro pins s σ H D I h
  exact wpAny_Expr_any (thn (he pins s σ H _ I h) fun v s1 qz2=>(by obtain ⟨x,H1,I1,r1,q1⟩:=qz2; exact ⟨σ,H1,I1,q1⟩)) I.quiet hs
noncomputable def FT (te:TE):TS:=fun D σ H=>te σ H D.rt
theorem pT (he:PE X e te):PS X (.Return (some e) pos) (FT te):=by
  intro pins s σ H D I h
  exact wpAny_Return_some (thn (he pins s σ H _ I h) fun v s1 qz2=>(by obtain ⟨x,H1,I1,r1,q1⟩:=qz2; exact ⟨x,σ,H1,I1,r1,q1⟩))
noncomputable def FG (c:TT) (t u:TS):TS:=fun D σ H=>c σ H fun b H1=>if b=true then t D σ H1 else u D σ H1
theorem Ba {c:Expr} {a b:List Stmt} {tc:TT} (hc:PT X c tc) (ha:PSs X a t) (hb:PSs X b u):PS X (.If c a b pos) (FG tc t u):=by
  intro pins s σ H D I h
  refine wpAny_If (thn (hc pins s σ H _ I h) fun d s1 rz2=>?_)
  obtain ⟨H1,I1,q1⟩:=rz2
  cases d with
  | true=>exact ha pins s1 σ H1 D I1 q1
  | false=>exact hb pins s1 σ H1 D I1 q1
end
noncomputable abbrev TG:=V→St→Hp→(St→Hp→Prop)→Prop
noncomputable abbrev TGs:=List V→St→Hp→(St→Hp→Prop)→Prop
noncomputable def PG (X:Cx) (target:Expr) (t:TG):Prop :=
  ∀ (pins:List (Addr × Obj)) (s:Shared) (σ:St) (H:Hp) (v:V) (u:Value) (Q:St→Hp→Prop),Inv X pins σ H s→RelV v u→t v σ H Q →
    wpAny (model X.prog X.w) X.A (assign target X.env u) (fun _ s'=>∃ σ' H',Inv X pins σ' H' s'∧Q σ' H') X.xe s
noncomputable def PGs (X:Cx) (ts:List Expr) (t:TGs):Prop :=
  ∀ (pins:List (Addr × Obj)) (s:Shared) (σ:St) (H:Hp) (vs:List V) (us:List Value) (Q:St→Hp→Prop),Inv X pins σ H s→Vals vs us→t vs σ H Q →
    wpAny (model X.prog X.w) X.A (assignInOrder ((assignEach ts X.env).map (·.2)) us) (fun _ s'=>∃ σ' H',Inv X pins σ' H' s'∧Q σ' H') X.xe s
noncomputable abbrev DJ:=V→V→V→Hp→(Hp→Prop)→Prop
noncomputable def ER (X:Cx) (t:DJ):Prop :=
  ∀ (pins:List (Addr × Obj)) (s:Shared) (σ:St) (H:Hp) (o i v:V) (ov iv u:Value) (Q:Hp→Prop),Inv X pins σ H s→RelV o ov→RelV i iv→RelV v u→t o i v H Q →
    wpAny (model X.prog X.w) X.A (setItem ov iv u) (fun _ s'=>∃ H',Inv X pins σ H' s'∧Q H') X.xe s
noncomputable abbrev TIp:=V→V→Hp→VK→Prop
noncomputable def PIp (X:Cx) (op:Operator) (t:TIp):Prop :=
  ∀ (pins:List (Addr × Obj)) (s:Shared) (σ:St) (H:Hp) (x y:V) (v u:Value) (Q:VK),Inv X pins σ H s→RelV x v→RelV y u→t x y H Q →
    wpAny (model X.prog X.w) X.A (inplaceOp op v u) (EP X pins σ Q) X.xe s
section
variable {X:Cx} {pos:Pos}
noncomputable def oS (i:Nat):TG:=fun v σ H Q=>Q (σ.set i (some v)) H
theorem bf {i:Nat} {x:Str} (hN:X.N.Nodup) (hi:X.N[i]?=some x) (hx:Loc X.env.scope x) (hf:X.fn x=true∨X.env.scope.names.lookup x=some .local:=by first | exact .inl rfl | exact .inr rfl | assumption):PG X (.Name x pos) (oS i):=by
  intro pins s σ H v u Q I r h
  exact wpAny_assign_Name (pU I hN hi hx r (fun s' I'=>⟨_,H,I',h⟩) hf)
noncomputable def EO:TGs:=fun vs σ H Q=>vs=[]∧Q σ H
noncomputable def CF (t:TG) (u:TGs):TGs:=fun vs σ H Q=>∃ v r,vs=v::r∧t v σ H fun σ' H'=>u r σ' H' Q
theorem lG:PGs X [] EO:=by
  intro pins s σ H vs us Q I r h
  obtain ⟨e,h⟩:=h
  subst e
  cases r
  exact assignInOrder_nil ⟨σ,H,I,h⟩
theorem cU {e:Expr} {es:List Expr} {t:TG} {u:TGs} (h1:PG X e t) (h2:PGs X es u)
    (hs:(assignEach (e::es) X.env).map (·.2)=assign e X.env::(assignEach es X.env).map (·.2):=by rfl):PGs X (e::es) (CF t u):=by
  intro pins s σ H vs us Q I r h
  obtain ⟨v,vr,e1,h⟩:=h
  subst e1
  cases r with
  | cons r rr =>
    rw [hs]
    refine assignInOrder_cons (thn (h1 pins s σ H _ _ _ I r h) fun _ s1 rz2=>?_)
    obtain ⟨σ1,H1,I1,q1⟩:=rz2
    exact h2 pins s1 σ1 H1 _ _ Q I1 rr q1
noncomputable def EL (K:PySem.W.Frag) (n:Nat) (t:TGs):TG:=fun v σ H Q=>∃ a xs,v=.ref a∧SqT K H a xs∧xs.length=n∧t xs σ H Q
theorem oJ {es:List Expr} {k:Nat} {t:TGs} {n:Nat} (hc:X.calm=true) (h:PGs X es t)
    (hn:(assignEach es X.env).length=n:=by rfl) (hst:(assignEach es X.env).findIdx? (·.1)=none:=by rfl):PG X (.Tuple es k pos) (EL X.K n t):=by
  intro pins s σ H v u Q I r hw
  obtain ⟨a,xs,e1,hq,hl,hw⟩:=hw
  subst e1
  cases r
  obtain ⟨its,rv,ht,hz⟩:=I.tuple hq
  refine assign_Tuple_tuple (I.ok.hd hc) ht (by simp [hn,← hl,rv.length]) hst fun h' hx=>?_
  have I1:Inv X pins σ H { s with heap:=h' }:=I.kept (t':=s.toks) fun b o e=>hx b o (Nat.ne_of_lt (Heap.lt_size e)) e
  exact h pins _ σ H xs _ Q I1 (by simpa using rv) hw
noncomputable def Fv (to ti:TE) (t:DJ):TG:=fun v σ H Q=>to σ H fun o H1=>ti σ H1 fun i H2=>t o i v H2 fun H3=>Q σ H3
theorem DV {o i:Expr} {to ti:TE} {t:DJ} (ho:PE X o to) (hi:PE X i ti) (hs:ER X t)
    (ha:∀ v,assign (.Subscript o i pos) X.env v=(do
      let ov ← holding [v] (eval o X.env)
      let iv ← holding [v,ov] (eval i X.env)
      standAt pos
      holding [v,ov,iv] (setItem ov iv v)
      release [v,ov,iv] []):=by intro _; rfl):PG X (.Subscript o i pos) (Fv to ti t):=by
  intro pins s σ H v u Q I r h
  rw [ha]
  refine wpAny_bind (wpAny_holding (thn (ho pins s σ H _ I h) fun ov s1 rz2=>?_))
  obtain ⟨x,H1,I1,r1,q1⟩:=rz2
  refine wpAny_bind (wpAny_holding (thn (hi pins s1 σ H1 _ I1 q1) fun iv s2 rz2=>?_))
  obtain ⟨y,H2,I2,r2,q2⟩:=rz2
  refine wpAny_bind (wpAny_standAt (wpAny_bind (wpAny_holding (thn (hs pins s2 σ H2 x y v ov iv u _ I2 r1 r2 r q2) fun _ s3 rz2=>?_))))
  obtain ⟨H3,I3,q3⟩:=rz2
  exact wpAny_release ⟨σ,H3,I3,q3⟩
noncomputable def Ck (te:TE) (g:TG):TS:=fun D σ H=>te σ H fun x H1=>g x σ H1 D.nx
theorem zW {tg e:Expr} {te:TE} {g:TG} (he:PE X e te) (hg:PG X tg g) (hs:swapsWithSole [tg] e pos.line X.env=pure false:=by rfl) (hw:swappedStores [tg] e X.env=pure none:=by rfl)
    (h1:(assignEach [tg] X.env).map (·.2)=[assign tg X.env]:=by rfl):PS X (.Assign [tg] e pos) (Ck te g):=by
  intro pins s σ H D I h
  refine wpAny_Assign_stores (thn (he pins s σ H _ I h) fun v s1 rz2=>?_) hs hw
  obtain ⟨x,H1,I1,r1,q1⟩:=rz2
  rw [h1]
  exact thn (hg pins s1 σ H1 x v _ I1 r1 q1) fun _ s2 q=>q
theorem wc {i:Nat} {x:Str} {e:Expr} {te:TE} {pos':Pos} (hN:X.N.Nodup) (hi:X.N[i]?=some x) (hx:Loc X.env.scope x) (he:PE X e te) (hs:swapsWith e (some (.Name x pos')) pos.line X.env=pure false:=by rfl) (hf:X.fn x=true∨X.env.scope.names.lookup x=some .local:=by first | exact .inl rfl | exact .inr rfl | assumption) :
    PS X (.Assign [.Name x pos'] e pos) (Ck te (oS i)):=by
  intro pins s σ H D I h
  refine wpAny_Assign_Name (thn (he pins s σ H _ I h) fun v s1 rz2=>?_) hs
  obtain ⟨y,H1,I1,r1,q1⟩:=rz2
  exact pU I1 hN hi hx r1 (fun s2 I2=>⟨_,H1,I2,q1⟩) hf
noncomputable def Fq (i:Nat) (te:TE) (ti:TIp):TS:=fun D σ H=>∃ x,σ[i]?=some (some x)∧te σ H fun y H1=>ti x y H1 fun z H2=>D.nx (σ.set i (some z)) H2
theorem DE {i:Nat} {x:Str} {e:Expr} {te:TE} {op:Operator} {ti:TIp} {pos':Pos} (hN:X.N.Nodup) (hi:X.N[i]?=some x) (hx:Loc X.env.scope x) (he:PE X e te) (ho:PIp X op ti) (hf:X.fn x=true∨X.env.scope.names.lookup x=some .local:=by first | exact .inl rfl | exact .inr rfl | assumption) :
    PS X (.AugAssign (.Name x pos') op e pos) (Fq i te ti):=by
  intro pins s σ H D I h
  obtain ⟨v,e1,h⟩:=h
  obtain ⟨m,hn,hl⟩:=I.loc
  have vis:Vis X.env.scope x:=by rcases hx with k | k; exact .inl k; exact .inr (.inl k)
  obtain ⟨u,r,l⟩:=hl i x v hi e1 vis
  refine wpAny_AugAssign_Name ?_
  have go:wpAny (model X.prog X.w) X.A (eval e X.env) (fun w s₂=>wpAny (model X.prog X.w) X.A (inplaceOp op u w) (fun r s₃=>wpAny (model X.prog X.w) X.A (storeName X.env x r) (fun _=>SP X pins D .next) X.xe s₃) X.xe s₂) X.xe s:=by
    refine thn (he pins s σ H _ I h) fun w s1 rz2=>?_
    obtain ⟨y,H1,I1,r1,q1⟩:=rz2
    refine thn (ho pins s1 σ H1 v y u w _ I1 r r1 q1) fun z s2 rz2=>?_
    obtain ⟨zv,H2,I2,r2,q2⟩:=rz2
    exact pU I2 hN hi hx r2 (fun s3 I3=>⟨_,H2,I3,q2⟩) hf
  rcases l with ⟨hk,hm⟩ | ⟨hk,c,hc,hcell⟩
  · exact wpAny_loadName_local I.ok.kind hk hn hm go
  · rcases hk with hk | hk
    · exact wpAny_loadName_cell I.ok.kind hk hc hcell go
    · rcases hx with k | k
      · have:X.env.scope.names.lookup x=some .free:=hk
        rw [k] at this; cases this
      · have:X.env.scope.names.lookup x=some .free:=hk
        rw [k] at this; cases this
noncomputable def ipI (f:Int→Int→Int):TIp:=fun x y H Q=>∃ i j,x=.int i∧y=.int j∧Q (.int (f i j)) H
theorem DU:PIp X .Add (ipI fun i j=>i + j):=by
  intro pins s σ H x y v u Q I r1 r2 h
  obtain ⟨i,j,e1,e2,q⟩:=h
  subst e1; subst e2
  obtain ⟨t,rfl⟩:=r1
  obtain ⟨t',rfl⟩:=r2
  exact iadd_int ⟨.int _,H,I.tok _,⟨_,rfl⟩,q⟩
end
section
variable {X:Cx} {pos:Pos}
noncomputable def Ef (c:TT) (tb:TS):TS:=fun D σ H=>∃ W:Nat→St→Hp→Prop,(∃ m,W m σ H)∧∀ m σ H,W m σ H →
  c σ H fun b H1=>if b=true then ∃ N:St→Hp→Prop,(∀ σ' H',N σ' H'→∃ m',m' < m∧W m' σ' H')∧tb { D with nx:=N,ct:=N,bk:=D.nx } σ H1 else D.nx σ H1
theorem Bh {c:Expr} {body:List Stmt} {tc:TT} {tb:TS} (hp:PassesOwn (model X.prog X.w) X.A X.env X.xe) (hc:PT X c tc) (hb:PSs X body tb):PS X (.While c body [] pos) (Ef tc tb):=by
  intro pins s σ H D I h
  obtain ⟨W,⟨m0,w0⟩,turn⟩:=h
  refine wpAny_While (codeAny_whileLoop (fun n s'=>∃ σ' H',Inv X pins σ' H' s'∧W n σ' H') ?_ m0 ⟨σ,H,I,w0⟩)
  rintro n s1 ⟨σ1,H1,I1,w1⟩
  refine wpAny_passesOwn hp (thn (hc pins s1 σ1 H1 _ I1 (turn n σ1 H1 w1)) fun b s2 rz2=>?_)
  obtain ⟨H2,I2,q2⟩:=rz2
  cases b with
  | true =>
    obtain ⟨N,hN,q2⟩:=q2
    rw [if_pos rfl]
    refine wpAny_passesOwn hp (thn (hb pins s2 σ1 H2 _ I2 q2) fun f s3 q3=>?_)
    cases f with
    | next =>
      obtain ⟨σ3,H3,I3,n3⟩:=q3
      obtain ⟨m',hm,w3⟩:=hN σ3 H3 n3
      exact ⟨m',hm,σ3,H3,I3,w3⟩
    | cont =>
      obtain ⟨σ3,H3,I3,n3⟩:=q3
      obtain ⟨m',hm,w3⟩:=hN σ3 H3 n3
      exact ⟨m',hm,σ3,H3,I3,w3⟩
    | brk=>exact q3
    | ret v=>exact q3
  | false =>
    rw [if_neg Bool.false_ne_true]
    exact wpAny_execs_nil ⟨σ1,H2,I2,q2⟩
end
structure It where
  go:Nat→Hp→Prop
  yld:Nat→Hp→V→Hp→Prop
  stop:Nat→Hp→Prop
noncomputable def p7 (X:Cx) (pins:List (Addr × Obj)) (H:Hp) (b:Addr):Prop :=
  H b=none∧b≠X.env.locals∧b ∉ X.fs∧(b∈X.ex∨X.s₀.heap.objs.size≤b)∧(∀ x c,X.env.cells.lookup x=some c→c≠b)∧∀ p∈X.pn++pins,p.1≠b
theorem Inv.fpOk {X:Cx} {pins:List (Addr × Obj)} {σ:St} {H H':Hp} {s:Shared} {b:Addr} (I:Inv X pins σ H s) (hb:s.heap.objs.size≤b) (hn:H' b=none):p7 X pins H' b:=by
  refine ⟨hn,Nat.ne_of_gt (Nat.lt_of_lt_of_le I.lt hb),I.nofs hb,.inr (Nat.le_trans I.sz hb),fun x c e z=>?_,fun p hp z=>?_⟩
  · obtain ⟨v,q⟩:=I.cell x c e
    exact absurd (Nat.lt_of_lt_of_le q.lt (by rw [z]; exact hb)) (Nat.lt_irrefl _)
  · exact absurd (Nat.lt_of_lt_of_le (Heap.lt_size (I.pin p hp).1) (by rw [z]; exact hb)) (Nat.lt_irrefl _)
structure Turn (P:Program) (w:World) (K:PySem.W.Frag) (tg:Expr) (J:It) (fp:List Addr) (it:Addr) (tn:Nat→Heap→Prop):Prop where
  mem:it∈fp
  obj:∀ i h,tn i h→∀ b∈fp,∃ o,h.get? b=some o∧∀ v,o.data≠.cell v
  keep:∀ i h h',tn i h→(∀ b∈fp,∀ o,h.get? b=some o→h'.get? b=some o)→tn i h'
  item:∀ (X:Cx),X.prog=P→X.w=w→X.K=K→X.calm=true→∀ (i:Nat) (pins:List (Addr × Obj)) (s:Shared) (σ:St) (H:Hp) (E:Value→Shared→Prop),Inv X pins σ H s→(∀ b∈fp,p7 X pins H b)→tn i s.heap→J.go i H →
    wpAny (model P w) X.A (pyNext (.ref it)) (fun r s1=>∃ u,r=some u ∧
      wpAny (model P w) X.A (letOwnedTupleGo tg (.ref it) u) (fun _ s2=>∃ x H',Inv X pins σ H' s2∧RelV x u∧J.yld i H x H'∧tn (i + 1) s2.heap∧∀ b∈fp,H' b=none) E s1) E s
  done:∀ (X:Cx),X.prog=P→X.w=w→X.K=K→X.calm=true→∀ (i:Nat) (pins:List (Addr × Obj)) (s:Shared) (σ:St) (H:Hp) (E:Value→Shared→Prop),Inv X pins σ H s→(∀ b∈fp,p7 X pins H b)→tn i s.heap→J.stop i H →
    wpAny (model P w) X.A (pyNext (.ref it)) (fun r s1=>r=none∧Inv X pins σ H s1) E s
  self:∀ (A:Around) (i:Nat) (s:Shared) (Q:Value→Shared→Prop) (E:Value→Shared→Prop),tn i s.heap→Q (.ref it) s→wpAny (model P w) A (pyIter (.ref it)) Q E s
noncomputable abbrev TI:=St→Hp→(It→Hp→Prop)→Prop
noncomputable def PIE (X:Cx) (pins:List (Addr × Obj)) (σ:St) (tg:Expr) (R:It→Hp→Prop) (itv:Value) (s2:Shared):Prop :=
  ∃ (it:Addr) (fp:List Addr) (tn:Nat→Heap→Prop) (J:It) (H':Hp),itv=.ref it∧Inv X pins σ H' s2∧Turn X.prog X.w X.K tg J fp it tn∧tn 0 s2.heap∧(∀ b∈fp,p7 X pins H' b)∧R J H'
noncomputable def PI (X:Cx) (tg iter:Expr) (wi:TI):Prop :=
  ∀ (pins:List (Addr × Obj)) (s:Shared) (σ:St) (H:Hp) (R:It→Hp→Prop),Inv X pins σ H s→wi σ H R →
    wpAny (model X.prog X.w) X.A (eval iter X.env) (fun v s1=>wpAny (model X.prog X.w) X.A (pyIter v) (PIE X pins σ tg R) X.xe s1) X.xe s
theorem xU {M:Model} {A:Around} {E:Value→Shared→Prop} {s:Shared} {tg:Expr} {it:Addr} {u:Value} {o:Obj} {n:String} {vs:Array Value} {Q:Unit→Shared→Prop} (ho:s.heap.get? it=some o) (hc:o.cls=.type n) (hd:o.data=.fields vs)
    (hn:["enumerate", "zip", "dict_itemiterator", "dict_reverseitemiterator", "odict_iterator", "itertools.zip_longest", "itertools.pairwise"].contains n=false) (hQ:Q () s):wpAny M A (letOwnedTupleGo tg (.ref it) u) Q E s:=by
  unfold letOwnedTupleGo
  cases tg <;> first
    | exact wpAny_pure hQ
    | (cases u <;> first
        | exact wpAny_pure hQ
        | (refine wpAny_bind (wpAny_load ho ?_)
           rw [hc,hd]
           show wpAny M A (if (["enumerate", "zip", "dict_itemiterator", "dict_reverseitemiterator", "odict_iterator", "itertools.zip_longest", "itertools.pairwise"].contains n && vs[0]? == some (rawInt _))=true then _ else _) Q E s
           rw [if_neg (by intro h; rw [hn,Bool.false_and] at h; cases h)]
           exact wpAny_pure hQ))
noncomputable def Itl (K:PySem.W.Frag) (a:Addr):It :=
  ⟨fun i H=>∃ xs x,SqL K H a xs∧xs[i]?=some x,fun i H x H'=>H'=H∧∀ xs,SqL K H a xs→xs[i]?=some x,fun i H=>∃ xs,SqL K H a xs∧xs.length≤i⟩
noncomputable def Itt (K:PySem.W.Frag) (a:Addr):It :=
  ⟨fun i H=>∃ xs x,SqT K H a xs∧xs[i]?=some x,fun i H x H'=>H'=H∧∀ xs,SqT K H a xs→xs[i]?=some x,fun i H=>∃ xs,SqT K H a xs∧xs.length≤i⟩
noncomputable def Itr (lo:Int) (n:Nat):It:=⟨fun i _=>i < n,fun i H x H'=>H'=H∧x=.int (lo + i),fun i _=>n≤i⟩
theorem zC {P:Program} {w:World} {K:PySem.W.Frag} {tg:Expr} (a it:Addr):Turn P w K tg (Itl K a) [it] it (fun i h=>h.IsListIter it a i) where
  mem:=by simp
  obj:=fun i h st b hb=>by
    have e:b=it:=by simpa using hb
    subst e
    obtain ⟨o,e,c,d⟩:=st
    exact ⟨o,e,fun v z=>by rw [d] at z; cases z⟩
  keep:=fun i h h' st k=>st.at fun o e=>k it (by simp) o e
  item:=by
    intro X hP hw hK hc i pins s σ H E I hf st hg
    subst hP hw hK
    obtain ⟨xs,x,hq,hx⟩:=hg
    obtain ⟨its,rv,p,hz⟩:=I.list hq
    obtain ⟨u,hu,ru⟩:=rv.get hx
    obtain ⟨f0,f1,f2,f3,f4,f5⟩:=hf it (by simp)
    refine wpAny_pyNext_list_item st p.isList (x:=u) (by simpa using hu) fun h' st' sb=>?_
    have I1:Inv X pins σ H { s with heap:=h' }:=I.turned (t':=s.toks) (fun b o hb e=>(sb.2 b hb).trans e) f0 f1 f3 f4 f5
    obtain ⟨o,e,c,d⟩:=id st'
    exact ⟨u,rfl,xU (s:={ s with heap:=h' }) e c d (by decide) ⟨x,H,I1,ru,⟨rfl,fun ys hy=>by rw [I.list_inj hy hq]; exact hx⟩,st',fun b hb=>(hf b hb).1⟩⟩
  done:=by
    intro X hP hw hK hc i pins s σ H E I hf st hg
    subst hP hw hK
    obtain ⟨xs,hq,hx⟩:=hg
    obtain ⟨its,rv,p,hz⟩:=I.list hq
    obtain ⟨f0,f1,f2,f3,f4,f5⟩:=hf it (by simp)
    have hl:=rv.length
    exact wpAny_pyNext_list_end (I.ok.hd hc) st p.isList (by simp; omega) fun h' eb=>⟨rfl,I.turned (t':=s.toks) (fun b o hb e=>eb b o hb e) f0 f1 f3 f4 f5⟩
  self:=fun _ _ _ _ _ st h=>wpAny_pyIter_listiter st h
theorem wt {P:Program} {w:World} {K:PySem.W.Frag} {tg:Expr} (a it:Addr):Turn P w K tg (Itt K a) [it] it (fun i h=>h.IsTupleIter it a i) where
  mem:=by simp
  obj:=fun i h st b hb=>by
    have e:b=it:=by simpa using hb
    subst e
    obtain ⟨o,e,c,d⟩:=st
    exact ⟨o,e,fun v z=>by rw [d] at z; cases z⟩
  keep:=fun i h h' st k=>st.at fun o e=>k it (by simp) o e
  item:=by
    intro X hP hw hK hc i pins s σ H E I hf st hg
    subst hP hw hK
    obtain ⟨xs,x,hq,hx⟩:=hg
    obtain ⟨its,rv,p,hz⟩:=I.tuple hq
    obtain ⟨u,hu,ru⟩:=rv.get hx
    obtain ⟨f0,f1,f2,f3,f4,f5⟩:=hf it (by simp)
    refine wpAny_pyNext_tuple_item st (show s.heap.IsTuple a its.toArray from p) (x:=u) (by simpa using hu) fun h' st' sb=>?_
    have I1:Inv X pins σ H { s with heap:=h' }:=I.turned (t':=s.toks) (fun b o hb e=>(sb.2 b hb).trans e) f0 f1 f3 f4 f5
    obtain ⟨o,e,c,d⟩:=id st'
    exact ⟨u,rfl,xU (s:={ s with heap:=h' }) e c d (by decide) ⟨x,H,I1,ru,⟨rfl,fun ys hy=>by rw [I.tuple_inj hy hq]; exact hx⟩,st',fun b hb=>(hf b hb).1⟩⟩
  done:=by
    intro X hP hw hK hc i pins s σ H E I hf st hg
    subst hP hw hK
    obtain ⟨xs,hq,hx⟩:=hg
    obtain ⟨its,rv,p,hz⟩:=I.tuple hq
    obtain ⟨f0,f1,f2,f3,f4,f5⟩:=hf it (by simp)
    have hl:=rv.length
    exact wpAny_pyNext_tuple_end (I.ok.hd hc) st (show s.heap.IsTuple a its.toArray from p) (by simp; omega) fun h' eb=>⟨rfl,I.turned (t':=s.toks) (fun b o hb e=>eb b o hb e) f0 f1 f3 f4 f5⟩
  self:=fun _ _ _ _ _ st h=>wpAny_pyIter_tupleiter st h
theorem xn {P:Program} {w:World} {K:PySem.W.Frag} {tg:Expr} (it:Addr) (lo:Int) (n:Nat):Turn P w K tg (Itr lo n) [it] it (fun i h=>IsRangeIter h it (lo + (i:Nat) * 1) ((n:Int) - (i:Nat)) 1) where
  mem:=by simp
  obj:=fun i h st b hb=>by
    have e:b=it:=by simpa using hb
    subst e
    exact ⟨_,st,fun v z=>by
      have z':Data.fields _=Data.cell v:=z
      cases z'⟩
  keep:=fun i h h' st k=>k it (by simp) _ st
  item:=by
    intro X hP hw hK hc i pins s σ H E I hf st hg
    subst hP hw hK
    obtain ⟨f0,f1,f2,f3,f4,f5⟩:=hf it (by simp)
    have W:=Walks.range (prog:=X.prog) (w:=X.w) (I.ok.hd hc) it lo 1 n
    refine W.item i s _ _ hg st fun v h' tk hv st' kk=>?_
    obtain ⟨t,rfl⟩:=hv
    have I1:Inv X pins σ H { s with heap:=h',toks:=tk }:=I.turned (fun b o hb e=>kk b o (by simpa using hb) e) f0 f1 f3 f4 f5
    refine ⟨_,rfl,xU (s:={ s with heap:=h',toks:=tk }) (n:="range_iterator") st' rfl rfl (by decide) ⟨.int (lo + i),H,I1,⟨t,?_⟩,⟨rfl,rfl⟩,st',fun b hb=>(hf b hb).1⟩⟩
    rw [Int.mul_one]
  done:=by
    intro X hP hw hK hc i pins s σ H E I hf st hg
    subst hP hw hK
    obtain ⟨f0,f1,f2,f3,f4,f5⟩:=hf it (by simp)
    exact wpAny_pyNext_range_end (I.ok.hd hc) st (by have:n≤i:=hg; omega) fun h' eb=>⟨rfl,I.turned (t':=s.toks) (fun b o hb e=>eb b o hb e) f0 f1 f3 f4 f5⟩
  self:=fun _ _ _ _ _ st h=>wpAny_pyIter_rangeiter st h
end L2
namespace L2
open PySem PySem.Spec PyProof.Rows
section
variable {X:Cx} {tg:Expr}
noncomputable def E2 (K:PySem.W.Frag) (tl:TE):TI:=fun σ H R=>tl σ H fun x H1=>∃ a,x=.ref a∧(∃ xs,SqL K H1 a xs)∧R (Itl K a) H1
noncomputable def FK (K:PySem.W.Frag) (tl:TE):TI:=fun σ H R=>tl σ H fun x H1=>∃ a,x=.ref a∧(∃ xs,SqT K H1 a xs)∧R (Itt K a) H1
theorem BB {l:Expr} {tl:TE} (hl:PE X l tl):PI X tg l (E2 X.K tl):=by
  intro pins s σ H R I h
  refine thn (hl pins s σ H _ I h) fun v s1 rz2=>?_
  obtain ⟨x,H1,I1,r1,q1⟩:=rz2
  obtain ⟨a,e,⟨xs,hq⟩,q⟩:=q1
  subst e
  cases r1
  obtain ⟨its,rv,p,hz⟩:=I1.list hq
  refine wpAny_pyIter_list p.isList ?_
  refine ⟨s1.heap.objs.size,[s1.heap.objs.size],_,_,H1,rfl,I1.kept (t':=s1.toks) fun b o e=>Heap.get?_push_of_some _ e,zC a _,⟨_,Heap.get?_push_size _ rfl,rfl,rfl⟩,fun b hb=>?_,q⟩
  have e:b=s1.heap.objs.size:=by simpa using hb
  subst e
  exact I1.fpOk (Nat.le_refl _) (I1.hok.fresh (Nat.le_refl _))
theorem DL {l:Expr} {tl:TE} (hl:PE X l tl):PI X tg l (FK X.K tl):=by
  intro pins s σ H R I h
  refine thn (hl pins s σ H _ I h) fun v s1 rz2=>?_
  obtain ⟨x,H1,I1,r1,q1⟩:=rz2
  obtain ⟨a,e,⟨xs,hq⟩,q⟩:=q1
  subst e
  cases r1
  obtain ⟨its,rv,p,hz⟩:=I1.tuple hq
  refine wpAny_pyIter_tuple (show s1.heap.IsTuple a its.toArray from p) ?_
  refine ⟨s1.heap.objs.size,[s1.heap.objs.size],_,_,H1,rfl,I1.kept (t':=s1.toks) fun b o e=>Heap.get?_push_of_some _ e,wt a _,⟨_,Heap.get?_push_size _ rfl,rfl,rfl⟩,fun b hb=>?_,q⟩
  have e:b=s1.heap.objs.size:=by simpa using hb
  subst e
  exact I1.fpOk (Nat.le_refl _) (I1.hok.fresh (Nat.le_refl _))
theorem uM {pins:List (Addr × Obj)} {σ:St} {H:Hp} {s:Shared} {R:It→Hp→Prop} {E:Value→Shared→Prop} {lo hi:Int} {t u v:Tok} {tk:Nat} (I:Inv X pins σ H s) (h1:-(2 ^ 62)≤lo) (h2:lo < 2 ^ 62) (h3:-(2 ^ 62)≤hi) (h4:hi < 2 ^ 62)
    (q:R (Itr lo (hi - lo).toNat) H):wpAny (model X.prog X.w) X.A (pyIter (.ref s.heap.objs.size)) (PIE X pins σ tg R) E { s with heap:=s.heap.push { cls:=.type "range",data:=.fields #[.int lo t,.int hi u,.int 1 v] },toks:=tk }:=by
  refine wpAny_pyIter_range (IsRange.new ..) (small_one h1 h2 h3 h4) ?_
  have I1:Inv X pins σ H { s with heap:=s.heap.push { cls:=.type "range",data:=.fields #[.int lo t,.int hi u,.int 1 v] },toks:=tk }:=I.kept fun b o e=>Heap.get?_push_of_some _ e
  refine ⟨(s.heap.push { cls:=.type "range",data:=.fields #[.int lo t,.int hi u,.int 1 v] }).objs.size,[(s.heap.push { cls:=.type "range",data:=.fields #[.int lo t,.int hi u,.int 1 v] }).objs.size],_,_,H,rfl,
    I1.kept (t':=tk) fun b o e=>Heap.get?_push_of_some _ e,xn _ lo (hi - lo).toNat,?_,fun b hb=>?_,q⟩
  · have e1:lo + ((0:Nat):Int) * 1=lo:=by simp
    have e2:(((hi - lo).toNat:Nat):Int) - ((0:Nat):Int)=Builtin.Range.rangeSize lo hi 1:=by rw [rangeSize_one]; split <;> omega
    show IsRangeIter _ _ (lo + ((0:Nat):Int) * 1) ((((hi - lo).toNat:Nat):Int) - ((0:Nat):Int)) 1
    rw [e1,e2]
    exact Heap.get?_push_size _ rfl
  · have e:b=(s.heap.push { cls:=.type "range",data:=.fields #[.int lo t,.int hi u,.int 1 v] }).objs.size:=by simpa using hb
    subst e
    exact I1.fpOk (Nat.le_refl _) (I1.hok.fresh (Nat.le_refl _))
noncomputable def ES (ta:TA):TI:=fun σ H R=>ta σ H fun vs H1=>∃ j:Int,vs=[.int j]∧-(2 ^ 62)≤j∧j < 2 ^ 62∧R (Itr 0 j.toNat) H1
noncomputable def E1 (ta:TA):TI:=fun σ H R=>ta σ H fun vs H1=>∃ i j:Int,vs=[.int i,.int j]∧(-(2 ^ 62)≤i∧i < 2 ^ 62∧-(2 ^ 62)≤j∧j < 2 ^ 62)∧R (Itr i (j - i).toNat) H1
theorem zm {a:Expr} {ta:TA} {p pos:Pos} (hg:Gl X "range") (hm:X.mg "range"=none) (ha:PA X [a] ta) (hs:starEach [a] X.env=[(false,eval a X.env)]:=by rfl):PI X tg (.Call (.Name "range" p) [a] [] pos) (ES ta):=by
  intro pins s σ H R I h
  refine Call_ (gU I hg hm boot_range (PyProof.Rows.callWith_type1 (thn (ha pos pins s σ H _ I h) fun us s1 rz2=>?_) hs rfl))
  obtain ⟨vs,H1,I1,r1,q1⟩:=rz2
  obtain ⟨j,e,q1,q2,q⟩:=q1
  subst e
  cases r1 with
  | cons r rr =>
    cases rr
    obtain ⟨t,rfl⟩:=r
    exact call_range_1 (uM I1 (by omega) (by omega) q1 q2 (by simpa using q))
theorem zE {a b:Expr} {ta:TA} {p pos:Pos} (hg:Gl X "range") (hm:X.mg "range"=none) (ha:PA X [a,b] ta) (hs:starEach [a,b] X.env=[(false,eval a X.env),(false,eval b X.env)]:=by rfl) (hs2:starEach [b] X.env=[(false,eval b X.env)]:=by rfl) :
    PI X tg (.Call (.Name "range" p) [a,b] [] pos) (E1 ta):=by
  intro pins s σ H R I h
  refine Call_ (gU I hg hm boot_range (PyProof.Rows.callWith_type1 (thn (ha pos pins s σ H _ I h) fun us s1 rz2=>?_) (by rw [hs,hs2]) (by rw [hs2]; rfl)))
  obtain ⟨vs,H1,I1,r1,q1⟩:=rz2
  obtain ⟨i,j,e,⟨q1,q2,q3,q4⟩,q⟩:=q1
  subst e
  cases r1 with
  | cons r rr =>
    cases rr with
    | cons r' rr =>
      cases rr
      obtain ⟨t,rfl⟩:=r
      obtain ⟨t',rfl⟩:=r'
      exact call_range_2 (uM I1 q1 q2 q3 q4 q)
noncomputable def FE (wi:TI) (g:TG) (tb:TS):TS:=fun D σ H=>wi σ H fun J H1=>∃ W:Nat→Nat→St→Hp→Prop,(∃ m,W 0 m σ H1)∧∀ i m σ H,W i m σ H →
  (J.stop i H∧D.nx σ H)∨(J.go i H∧∃ N:St→Hp→Prop,(∀ σ' H',N σ' H'→∃ m',m' < m∧W (i + 1) m' σ' H')∧∀ x H',J.yld i H x H'→g x σ H' fun σ2 H2=>tb { D with nx:=N,ct:=N,bk:=D.nx } σ2 H2)
noncomputable def qf (fp:List Addr) (h:Heap):List (Addr × Obj):=fp.filterMap fun b=>(h.get? b).map fun o=>(b,o)
theorem jY {fp:List Addr} {h:Heap} {b:Addr} {o:Obj} (hb:b∈fp) (e:h.get? b=some o):(b,o)∈qf fp h:=List.mem_filterMap.mpr ⟨b,hb,by rw [e]; rfl⟩
theorem za {fp:List Addr} {h:Heap} {p:Addr × Obj} (hp:p∈qf fp h):p.1∈fp∧h.get? p.1=some p.2:=by
  obtain ⟨b,hb,e⟩:=List.mem_filterMap.mp hp
  cases q:h.get? b with
  | none=>rw [q] at e; cases e
  | some o =>
    rw [q] at e
    have e':(b,o)=p:=Option.some.inj e
    subst e'
    exact ⟨hb,q⟩
theorem Inv.pinned {pins:List (Addr × Obj)} {σ:St} {H:Hp} {s:Shared} {fp:List Addr} (I:Inv X pins σ H s) (hf:∀ b∈fp,p7 X pins H b) (ho:∀ b∈fp,∃ o,s.heap.get? b=some o∧∀ v,o.data≠.cell v):Inv X (pins++qf fp s.heap) σ H s :=
  I.pins_of fun p hp=>(List.mem_append.mp hp).elim (fun z=>I.pin p (List.mem_append_right _ z)) fun z=>by
    obtain ⟨hb,e⟩:=za z
    obtain ⟨f0,f1,f2,_⟩:=hf p.1 hb
    obtain ⟨o,e',d⟩:=ho p.1 hb
    rw [e] at e'; cases e'
    exact ⟨e,f0,f1,f2,d⟩
theorem Inv.unpinned {pins pl:List (Addr × Obj)} {σ:St} {H:Hp} {s:Shared} (I:Inv X (pins++pl) σ H s):Inv X pins σ H s:=I.pins_of fun p hp=>I.pin p (List.mem_append_right _ (List.mem_append_left _ hp))
theorem C8 {iter:Expr} {body:List Stmt} {wi:TI} {g:TG} {tb:TS} {pos:Pos} (hp:PassesOwn (model X.prog X.w) X.A X.env X.xe) (hc:X.calm=true) (hi:PI X tg iter wi) (hg:PG X tg g) (hb:PSs X body tb)
    (hs:∀ x,foldedSetIterable iter X.env x=pure x:=by intro _; rfl):PS X (.For tg iter body [] pos) (FE wi g tb):=by
  intro pins s σ H D I h
  refine wpAny_For (thn (hi pins s σ H _ I h) fun v s1 h1=>thn h1 fun itv s2 h2=>?_) hs
  obtain ⟨it,fp,tn,J,H2,e,I2,T,st2,f2,W,⟨m0,w0⟩,turn⟩:=h2
  subst e
  -- what stays true of the iterator's objects through the loop
  have stat:∀ {H':Hp},(∀ b∈fp,H' b=none)→∀ b∈fp,p7 X pins H' b:=fun hn b hb=>⟨hn b hb,(f2 b hb).2⟩
  refine codeAny_forLoop_any (fun n s'=>∃ i σ' H',Inv X pins σ' H' s'∧tn i s'.heap∧(∀ b∈fp,H' b=none)∧W i n σ' H') ?_ m0 ⟨0,σ,H2,I2,st2,fun b hb=>(f2 b hb).1,w0⟩
  rintro n s3 ⟨i,σ3,H3,I3,st3,fr3,w3⟩
  rcases turn i n σ3 H3 w3 with ⟨stop,qn⟩ | ⟨go,N,hN,step⟩
  · refine wpAny_passesOwn hp (thn (T.done X rfl rfl rfl hc i pins s3 σ3 H3 X.xe I3 (stat fr3) st3 stop) fun r s4 rz2=>?_)
    obtain ⟨hr,I4⟩:=rz2
    subst hr
    exact wpAny_execs_nil ⟨σ3,H3,I4,qn⟩
  · refine wpAny_passesOwn hp (thn (T.item X rfl rfl rfl hc i pins s3 σ3 H3 X.xe I3 (stat fr3) st3 go) fun r s4 rz2=>?_)
    obtain ⟨u,hr,h4⟩:=rz2
    subst hr
    refine wpAny_passesOwn hp (thn h4 fun _ s5 rz2=>?_)
    obtain ⟨x,H5,I5,r5,y5,st5,fr5⟩:=rz2
    have I5':=I5.pinned (stat fr5) (T.obj _ _ st5)
    refine wpAny_passesOwn hp (thn (hg _ s5 σ3 H5 x u _ I5' r5 (step x H5 y5)) fun _ s6 rz2=>?_)
    obtain ⟨σ6,H6,I6,q6⟩:=rz2
    refine wpAny_passesOwn hp (thn (hb _ s6 σ6 H6 _ I6 q6) fun f s7 q7=>?_)
    have again:∀ {σ7:St} {H7:Hp},Inv X (pins++qf fp s5.heap) σ7 H7 s7→N σ7 H7→∃ m,m < n∧∃ i σ' H',Inv X pins σ' H' s7∧tn i s7.heap∧(∀ b∈fp,H' b=none)∧W i m σ' H':=fun {σ7 H7} I7 n7=>by
      obtain ⟨m',hm,w7⟩:=hN σ7 H7 n7
      refine ⟨m',hm,i + 1,σ7,H7,I7.unpinned,T.keep _ _ _ st5 fun b hb o e=>(I7.pin (b,o) (List.mem_append_right _ (List.mem_append_right _ (jY hb e)))).1,fun b hb=>?_,w7⟩
      obtain ⟨o,e,d⟩:=T.obj _ _ st5 b hb
      exact (I7.pin (b,o) (List.mem_append_right _ (List.mem_append_right _ (jY hb e)))).2.1
    cases f with
    | next=>obtain ⟨σ7,H7,I7,n7⟩:=q7; exact again I7 n7
    | cont=>obtain ⟨σ7,H7,I7,n7⟩:=q7; exact again I7 n7
    | brk=>obtain ⟨σ7,H7,I7,q7⟩:=q7; exact ⟨σ7,H7,I7.unpinned,q7⟩
    | ret v=>obtain ⟨x7,σ7,H7,I7,r7,q7⟩:=q7; exact ⟨x7,σ7,H7,I7.unpinned,r7,q7⟩
end
end L2
namespace L2
open PySem PySem.Spec PyProof.Rows
noncomputable abbrev R2:=V→V→Hp→VK→Prop
noncomputable def OpR (X:Cx) (f:Value→Value→Sem Value) (r:R2):Prop :=
  ∀ (pins:List (Addr × Obj)) (s:Shared) (σ:St) (H:Hp) (x y:V) (v u:Value) (Q:VK),Inv X pins σ H s→RelV x v→RelV y u→r x y H Q →
    wpAny (model X.prog X.w) X.A (f v u) (EP X pins σ Q) X.xe s
noncomputable def UnR (X:Cx) (f:Value→Sem Value) (r:V→Hp→VK→Prop):Prop :=
  ∀ (pins:List (Addr × Obj)) (s:Shared) (σ:St) (H:Hp) (x:V) (v:Value) (Q:VK),Inv X pins σ H s→RelV x v→r x H Q →
    wpAny (model X.prog X.w) X.A (f v) (EP X pins σ Q) X.xe s
noncomputable def lR (X:Cx) (f:Value) (r:List V→Hp→VK→Prop):Prop :=
  ∀ (pins:List (Addr × Obj)) (s:Shared) (σ:St) (H:Hp) (xs:List V) (us:List Value) (Q:VK),Inv X pins σ H s→Vals xs us→r xs H Q →
    wpAny (model X.prog X.w) X.A (call f us) (EP X pins σ Q) X.xe s
noncomputable def tOp (r:R2) (ta tb:TE):TE:=fun σ H Q=>ta σ H fun x H1=>tb σ H1 fun y H2=>r x y H2 Q
noncomputable def tUn (r:V→Hp→VK→Prop) (ta:TE):TE:=fun σ H Q=>ta σ H fun x H1=>r x H1 Q
noncomputable def rI (C:Int→Int→Prop) (g:Int→Int→V):R2:=fun x y H Q=>∃ i j,x=.int i∧y=.int j∧C i j∧Q (g i j) H
noncomputable def rI0 (g:Int→Int→V):R2:=fun x y H Q=>∃ i j,x=.int i∧y=.int j∧Q (g i j) H
noncomputable def rU (g:Int→V):V→Hp→VK→Prop:=fun x H Q=>∃ i,x=.int i∧Q (g i) H
section
variable {X:Cx} {a b c:Expr} {ta tb tc:TE} {pos:Pos}
theorem Ee (ha:PE X a ta) (hb:PE X b tb) {pins:List (Addr × Obj)} {s:Shared} {σ:St} {H:Hp} {R:V→V→Hp→Prop} (I:Inv X pins σ H s)
    (h:ta σ H fun x H1=>tb σ H1 fun y H2=>R x y H2) {Q:Value→Shared→Prop} {f:Value→Value→Sem Value}
    (hf:∀ v u s2 x y H2,Inv X pins σ H2 s2→RelV x v→RelV y u→R x y H2→wpAny (model X.prog X.w) X.A (f v u) Q X.xe s2) :
    wpAny (model X.prog X.w) X.A (eval a X.env) (fun v s₁=>wpAny (model X.prog X.w) X.A (eval b X.env) (fun u s₂=>wpAny (model X.prog X.w) X.A (f v u) Q X.xe s₂) X.xe s₁) X.xe s:=by
  refine thn (ha pins s σ H _ I h) fun v s1 rz2=>?_
  obtain ⟨x,H1,I1,r1,q1⟩:=rz2
  refine thn (hb pins s1 σ H1 _ I1 q1) fun u s2 rz2=>?_
  obtain ⟨y,H2,I2,r2,q2⟩:=rz2
  exact hf v u s2 x y H2 I2 r1 r2 q2
theorem fV {op:Operator} {r:R2} (ho:OpR X (binaryOp op) r) (ha:PE X a ta) (hb:PE X b tb):PE X (.BinOp a op b pos) (tOp r ta tb):=by
  intro pins s σ H Q I h
  exact wpAny_BinOp (Ee ha hb I h fun v u s2 x y H2 I2 rx ry q=>ho pins s2 σ H2 x y v u Q I2 rx ry q)
theorem Fj {op:UnaryOp} {r:V→Hp→VK→Prop} (ho:UnR X (unaryOp op) r) (ha:PE X a ta):PE X (.UnaryOp op a pos) (tUn r ta):=by
  intro pins s σ H Q I h
  exact UnaryOp_ (thn (ha pins s σ H _ I h) fun v s1 qz2=>(by obtain ⟨x,H1,I1,r1,q1⟩:=qz2; exact ho pins s1 σ H1 x v Q I1 r1 q1))
theorem opI {f:Value→Value→Sem Value} {C:Int→Int→Prop} {g:Int→Int→Int}
    (rule:∀ (i j:Int) (t u:Tok) (s:Shared) (Q:Value→Shared→Prop) (E:Value→Shared→Prop),C i j→Q (.int (g i j) s.toks) { s with toks:=s.toks + 1 }→wpAny (model X.prog X.w) X.A (f (.int i t) (.int j u)) Q E s) :
    OpR X f (rI C fun i j=>.int (g i j)):=by
  intro pins s σ H x y v u Q I rx ry h
  obtain ⟨i,j,rfl,rfl,hc,q⟩:=h
  obtain ⟨t,rfl⟩:=rx
  obtain ⟨t',rfl⟩:=ry
  exact rule i j t t' s _ _ hc ⟨.int (g i j),H,I.tok _,⟨_,rfl⟩,q⟩
theorem EM {f:Value→Value→Sem Value} {g:Int→Int→Int}
    (rule:∀ (i j:Int) (t u:Tok) (s:Shared) (Q:Value→Shared→Prop) (E:Value→Shared→Prop),Q (.int (g i j) s.toks) { s with toks:=s.toks + 1 }→wpAny (model X.prog X.w) X.A (f (.int i t) (.int j u)) Q E s) :
    OpR X f (rI0 fun i j=>.int (g i j)):=by
  intro pins s σ H x y v u Q I rx ry h
  obtain ⟨i,j,rfl,rfl,q⟩:=h
  obtain ⟨t,rfl⟩:=rx
  obtain ⟨t',rfl⟩:=ry
  exact rule i j t t' s _ _ ⟨.int (g i j),H,I.tok _,⟨_,rfl⟩,q⟩
theorem Bl {f:Value→Value→Sem Value} {g:Int→Int→Bool}
    (rule:∀ (i j:Int) (t u:Tok) (s:Shared) (Q:Value→Shared→Prop) (E:Value→Shared→Prop),Q (.bool (g i j)) s→wpAny (model X.prog X.w) X.A (f (.int i t) (.int j u)) Q E s) :
    OpR X f (rI0 fun i j=>.bl (g i j)):=by
  intro pins s σ H x y v u Q I rx ry h
  obtain ⟨i,j,rfl,rfl,q⟩:=h
  obtain ⟨t,rfl⟩:=rx
  obtain ⟨t',rfl⟩:=ry
  exact rule i j t t' s _ _ ⟨.bl (g i j),H,I,rfl,q⟩
noncomputable def Fi (i j:Int):Prop:=0 < j∧j < 1073741824
noncomputable def B3 (i j:Int):Prop:=(-(2 ^ 64) < i∧i < 2 ^ 64)∨(-(2 ^ 64) < j∧j < 2 ^ 64)
theorem B3.ok {i j:Int} (h:B3 i j):IntMulOk i j:=by
  rcases h with ⟨h1,h2⟩ | ⟨h1,h2⟩
  · exact .of_left (intBits_le_64 h1 h2)
  · exact .of_right (intBits_le_64 h1 h2)
theorem nU:OpR X (binaryOp .Add) (rI0 fun i j=>.int (i + j)):=EM fun _ _ _ _ _ _ _ q=>add_int q
theorem Dh:OpR X (binaryOp .Sub) (rI0 fun i j=>.int (i - j)):=EM fun _ _ _ _ _ _ _ q=>sub_int q
theorem nY:OpR X (binaryOp .Mult) (rI B3 fun i j=>.int (i * j)):=opI fun _ _ _ _ _ _ _ hc q=>mul_int q hc.ok
theorem Cv:OpR X (binaryOp .FloorDiv) (rI Fi fun i j=>.int (i / j)):=opI fun i j _ _ _ _ _ hc q=>by
  have h1:(0:Int) < j:=hc.1
  have h2:j < 1073741824:=hc.2
  exact floordiv_int (by omega) (by rw [Int.fdiv_eq_ediv_of_nonneg i (by omega)]; exact q) (.inl (PyProof.noPylong_small (by omega)))
theorem qz:OpR X (binaryOp .Mod) (rI (fun _ j=>0 < j) fun i j=>.int (i % j)):=opI fun i j _ _ _ _ _ hc q=>by
  have h1:(0:Int) < j:=hc
  exact mod_int' (by omega) (by rw [Int.fmod_eq_emod_of_nonneg i (by omega)]; exact q)
theorem unI {f:Value→Sem Value} {g:Int→Int}
    (rule:∀ (i:Int) (t:Tok) (s:Shared) (Q:Value→Shared→Prop) (E:Value→Shared→Prop),Q (.int (g i) s.toks) { s with toks:=s.toks + 1 }→wpAny (model X.prog X.w) X.A (f (.int i t)) Q E s) :
    UnR X f (rU fun i=>.int (g i)):=by
  intro pins s σ H x v Q I rx h
  obtain ⟨i,rfl,q⟩:=h
  obtain ⟨t,rfl⟩:=rx
  exact rule i t s _ _ ⟨.int (g i),H,I.tok _,⟨_,rfl⟩,q⟩
theorem Dy:UnR X (unaryOp .USub) (rU fun i=>.int (-i)):=unI fun _ _ _ _ _ q=>neg_int q
end
section
variable {X:Cx} {a b c:Expr} {ta tb tc:TE} {pos:Pos}
theorem Fc:OpR X (compareOp .Lt) (rI0 fun i j=>.bl (decide (i < j))):=Bl fun _ _ _ _ _ _ _ q=>lt_int q
theorem xG:OpR X (compareOp .LtE) (rI0 fun i j=>.bl (decide (i≤j))):=Bl fun _ _ _ _ _ _ _ q=>le_int q
theorem CA:OpR X (compareOp .Gt) (rI0 fun i j=>.bl (decide (j < i))):=Bl fun _ _ _ _ _ _ _ q=>gt_int q
theorem Ex:OpR X (compareOp .GtE) (rI0 fun i j=>.bl (decide (j≤i))):=Bl fun _ _ _ _ _ _ _ q=>ge_int q
theorem OpR.or {f:Value→Value→Sem Value} {r r':R2} (h:OpR X f r) (h':OpR X f r'):OpR X f (fun x y H Q=>r x y H Q∨r' x y H Q):=by
  intro pins s σ H x y v u Q I rx ry q
  rcases q with q | q
  · exact h pins s σ H x y v u Q I rx ry q
  · exact h' pins s σ H x y v u Q I rx ry q
theorem jh (b:Expr) {op:CmpOp} (h:op≠.In:=by decide) (h2:op≠.NotIn:=by decide):behindInMarks op b=false:=by
  have e1:(op == CmpOp.In)=false:=by cases op <;> first | rfl | exact absurd rfl h
  have e2:(op == CmpOp.NotIn)=false:=by cases op <;> first | rfl | exact absurd rfl h2
  cases b <;> simp [behindInMarks,e1,e2]
theorem pC {op:CmpOp} {r:R2} (ho:OpR X (compareOp op) r) (ha:PE X a ta) (hb:PE X b tb) (hm:behindInMarks op b=false):PE X (.Compare a [op] [b] pos) (tOp r ta tb):=by
  intro pins s σ H Q I h
  exact wpAny_Compare1 (Ee ha hb I h fun v u s2 x y H2 I2 rx ry q=>ho pins s2 σ H2 x y v u Q I2 rx ry q) hm
noncomputable def CB (t:TE):TT:=fun σ H Q=>t σ H fun x H'=>∃ k,x=.bl k∧Q k H'
theorem i4 {op:CmpOp} {r:R2} (ho:OpR X (compareOp op) r) (ha:PE X a ta) (hb:PE X b tb) (hm:behindInMarks op b=false):PT X (.Compare a [op] [b] pos) (CB (tOp r ta tb)):=by
  intro pins s σ H Q I h
  refine wpAny_isTrue_Compare1 (thn (ha pins s σ H _ I h) fun v s1 rz2=>?_) hm
  obtain ⟨x,H1,I1,r1,q1⟩:=rz2
  refine thn (hb pins s1 σ H1 _ I1 q1) fun u s2 rz2=>?_
  obtain ⟨y,H2,I2,r2,q2⟩:=rz2
  refine thn (ho pins s2 σ H2 x y v u _ I2 r1 r2 q2) fun c s3 rz2=>?_
  obtain ⟨z,H3,I3,r3,k,e,q3⟩:=rz2
  subst e
  cases r3
  exact wpAny_truthy_bool ⟨H3,I3,q3⟩
noncomputable def DD (r r':R2) (ta tb tc:TE):TE:=fun σ H Q=>ta σ H fun x H1=>tb σ H1 fun y H2=>r x y H2 fun z H3=>∃ k,z=.bl k ∧
  (if k=true then tc σ H3 fun w' H4=>r' y w' H4 Q else Q (.bl false) H3)
theorem Ar {op op':CmpOp} {r r':R2} (ho:OpR X (compareOp op) r) (ho':OpR X (compareOp op') r') (ha:PE X a ta) (hb:PE X b tb) (hc:PE X c tc)
    (hm:lastMarks [op,op'] [b,c]=false:=by with_unfolding_all rfl):PE X (.Compare a [op,op'] [b,c] pos) (DD r r' ta tb tc):=by
  intro pins s σ H Q I h
  refine Compare_chain (thn (ha pins s σ H _ I h) fun v s1 rz2=>?_) hm
  obtain ⟨x,H1,I1,r1,q1⟩:=rz2
  refine chain_link (thn (hb pins s1 σ H1 _ I1 q1) fun u s2 rz2=>?_)
  obtain ⟨y,H2,I2,r2,q2⟩:=rz2
  refine thn (ho pins s2 σ H2 x y v u _ I2 r1 r2 q2) fun d s3 rz2=>?_
  obtain ⟨z,H3,I3,r3,k,e,q3⟩:=rz2
  subst e
  cases r3
  refine wpAny_truthy_bool ?_
  cases k with
  | false=>exact ite_ff ⟨.bl false,H3,I3,rfl,q3⟩
  | true=>exact ite_tt (chain_last (thn (hc pins s3 σ H3 _ I3 q3) fun w' s4 qz2=>(by obtain ⟨z',H4,I4,r4,q4⟩:=qz2; exact ho' pins s4 σ H4 y z' u w' Q I4 r2 r4 q4)))
theorem tX:(sizeLine:Nat) < 2 ^ 63:=by rw [sizeLine_eq]; decide
theorem vals1 {x:V} {us:List Value} (r:Vals [x] us):∃ u,us=[u]∧RelV x u:=by
  cases r with
  | cons r1 r2=>cases r2; exact ⟨_,rfl,r1⟩
theorem vals2 {x y:V} {us:List Value} (r:Vals [x,y] us):∃ u w',us=[u,w']∧RelV x u∧RelV y w':=by
  cases r with
  | cons r1 r2 =>
    cases r2 with
    | cons r3 r4=>cases r4; exact ⟨_,_,rfl,r1,r3⟩
theorem zd (hc:X.calm=true):lR X (.builtin "max") (fun xs H Q=>∃ i j,xs=[.int i,.int j]∧Q (.int (if j > i then j else i)) H):=by
  intro pins s σ H xs us Q I r h
  obtain ⟨i,j,rfl,q⟩:=h
  obtain ⟨u,w',rfl,⟨t,rfl⟩,⟨t',rfl⟩⟩:=vals2 r
  refine max_two_ints (I.ok.hd hc) fun h' tk k=>⟨_,H,I.kept k,?_,q⟩
  by_cases hj:j > i
  · rw [if_pos hj,if_pos hj]; exact ⟨_,rfl⟩
  · rw [if_neg hj,if_neg hj]; exact ⟨_,rfl⟩
theorem ze (hc:X.calm=true):lR X (.builtin "min") (fun xs H Q=>∃ i j,xs=[.int i,.int j]∧Q (.int (if j < i then j else i)) H):=by
  intro pins s σ H xs us Q I r h
  obtain ⟨i,j,rfl,q⟩:=h
  obtain ⟨u,w',rfl,⟨t,rfl⟩,⟨t',rfl⟩⟩:=vals2 r
  refine min_two_ints (I.ok.hd hc) fun h' tk k=>⟨_,H,I.kept k,?_,q⟩
  by_cases hj:j < i
  · rw [if_pos hj,if_pos hj]; exact ⟨_,rfl⟩
  · rw [if_neg hj,if_neg hj]; exact ⟨_,rfl⟩
theorem zB:lR X (.type "int") (fun xs H Q=>(∃ i,xs=[.int i]∧Q (.int i) H)∨∃ k,xs=[.bl k]∧Q (.int (if k then 1 else 0)) H):=by
  intro pins s σ H xs us Q I r h
  rcases h with ⟨i,rfl,q⟩ | ⟨k,rfl,q⟩
  · obtain ⟨u,rfl,t,rfl⟩:=vals1 r
    exact call_int_int ⟨.int i,H,I,⟨_,rfl⟩,q⟩
  · obtain ⟨u,rfl,r1⟩:=vals1 r
    cases r1
    exact call_int_bool ⟨.int (if k then 1 else 0),H,I.tok _,⟨_,rfl⟩,q⟩
end
end L2
namespace L2
open PySem PySem.Spec PyProof.Rows
structure yJ (h:Heap) (x dx C:Addr) (mA:Str→Option Value):Prop where
  obj:h.get? x=some (PySem.W.instObj C dx)
  ns:h.Ns1 dx mA
  ne:dx≠x
theorem zy {h:Heap} {dx:Addr} {mA:Str→Option Value} (n:h.Ns1 dx mA):∃ od,h.get? dx=some od∧∀ name,PySem.W.lookIn name od=some (mA name):=by
  obtain ⟨o,es,ep,ho,hd,hk,_,hm⟩:=n
  refine ⟨o,ho,fun name=>?_⟩
  have e:=hm name
  unfold nsFind findBy at e
  rw [← Array.find?_toList] at e
  unfold PySem.W.lookIn
  rw [hd]
  dsimp only
  split
  · rename_i y q
    rw [q] at e
    exact congrArg some e
  · rename_i q
    rw [q] at e
    have a:es.toList.any (·.refKey)=false:=by
      rw [List.any_eq_false]
      intro y hy
      obtain ⟨z,t,hkey⟩:=hk y (Array.mem_toList_iff.mp hy)
      simp [DictEntry.refKey,hkey]
    have a':¬ es.toList.any (·.refKey)=true:=by rw [a]; exact Bool.false_ne_true
    rw [if_neg a']
    exact congrArg some e
theorem yJ.look {h:Heap} {x dx C:Addr} {mA:Str→Option Value} (I:yJ h x dx C mA):∃ od,PySem.W.InstAt h x (PySem.W.instObj C dx) C (some od)∧∀ name,PySem.W.lookIn name od=some (mA name) :=
  let ⟨od,ho,hl⟩:=zy I.ns
  ⟨od,⟨I.obj,rfl,rfl,ho⟩,hl⟩
section
variable {prog:Program} {w:World} {A:Around} {E:Value→Shared→Prop} {s:Shared} {K:PySem.W.Frag} {x dx C f:Addr} {mA:Str→Option Value} {name:Str} {v:Value}
theorem get_map {expr:Bool} {Q:Value→Shared→Prop} (X:K.In s.heap) (I:yJ s.heap x dx C mA) (hg:PySem.W.plainGet K C name=true) (hh:PySem.W.hasDictIn K C=true)
    (ha:PySem.W.findIn K (.ref C) name=some none) (hv:mA name=some v) (hv':PySem.W.handedIn v=true) (h:Q v { s with toks:=s.toks + 1 }) :
    wpAny (model prog w) A (getAttr (.ref x) name expr) Q E s:=by
  obtain ⟨od,J,hl⟩:=I.look
  exact PySem.W.get_value X J (PySem.W.plainGet_of hg).1 (PySem.W.findObj_own hh ha rfl (by rw [hl,hv])) hv' h
theorem Bp {ns:List Str} {Q:Unit→Shared→Prop} (X:K.In s.heap) (I:yJ s.heap x dx C mA)
    (hs:PySem.W.findIn K (.ref C) "__setattr__"=some (some (.builtin "object.__setattr__"))) (hp:PySem.W.plainOver K C=true) (ht:PySem.W.takerIn K C name=some none) (hh:PySem.W.hasDictIn K C=true)
    (hw:PySem.Within mA ns) (hsz:ns.length≤sizeLine)
    (h:∀ h',yJ h' x dx C (fun y=>if y=name then some v else mA y)→Heap.SameBut dx s.heap h'→Q () { s with heap:=h',toks:=s.toks + 2 }) :
    wpAny (model prog w) A (setAttr (.ref x) name v) Q E s:=by
  obtain ⟨od,J,hl⟩:=I.look
  refine PySem.W.set_plain X J hs (PySem.W.osa_open (s:={ s with toks:=s.toks + 1 }) (r:=none) X J hp ht fun b=>?_)
  obtain ⟨cd,hc,hd'⟩:=PySem.W.any_some hh
  have hx:s.heap.get? x=some ⟨.ref C,some dx,.plain,#[]⟩:=I.obj
  refine wpAny_bind (wpAny_pure (wpAny_bind (wpAny_bind (wpAny_loadPart hx (wpAny_bind (PySem.W.Looks.here (s:={ s with toks:=s.toks + 1 }) (PySem.W.looks_clsIn X hc) ?_))))))
  rw [hd']
  refine wpAny_pure (a:=some dx) (wpAny_bind (wpAny_pure (wpAny_bind ?_)))
  refine wpAny_nsSet1 (s:={ s with toks:=s.toks + 1 }) I.ns fun h' hn2 hs2=>?_
  obtain ⟨oD,esD,epD,hoD,hdD,hcD⟩:=hn2.count (PySem.Within.cons name v hw)
  refine wpAny_bind (wpAny_lookBehind hoD (by rw [hdD]; exact pastItsLine_dict (Nat.le_trans hcD (by rw [List.length_cons]; omega))) ?_)
  exact wpAny_pure (h _ ⟨(hs2.2 _ (Ne.symm I.ne)).trans I.obj,hn2,I.ne⟩ hs2)
theorem AY {R:Result→Shared→Prop} {vs:List Value} {kw:List (Str × Value)} (X:K.In s.heap) (hm:PySem.W.makesIn K C=true)
    (hi:PySem.W.findIn K (.ref C) "__init__"=some (some (.ref f))) (hf:PySem.W.typeIn K (.ref f)=some (.type "function"))
    (h:codeAny (model prog w) (A.under (.builtin "type.__call__" ⟨.ref C::vs,kw⟩)) (.call (.ref f) ⟨.ref (s.heap.objs.size + 1)::vs,kw⟩) (PySem.W.InitBack (s.heap.objs.size + 1) R)
      { s with heap:=(s.heap.push PySem.W.emptyDict).push (PySem.W.instObj C s.heap.objs.size) }) :
    codeAny (model prog w) A (.call (.ref C) ⟨vs,kw⟩) R s:=by
  obtain ⟨hh,g,d,t,os⟩:=s
  exact PySem.W.make_core (PySem.W.makes_of X hm) (PySem.W.looks_findIn X hi) (fun self=>PySem.W.bind_fn X self hf) (.inl rfl) h
end
noncomputable def lP (f:Str) (v:V):List (Str × V)→List (Str × V)
  | []=>[(f,v)]
  | (g,x)::r=>if g=f then (g,v)::r else (g,x)::lP f v r
theorem oU (f g:Str) (v:V):∀ fs:List (Str × V),(lP f v fs).lookup g=if g=f then some v else fs.lookup g
  | []=>by
    show List.lookup g [(f,v)]=_
    by_cases h:g=f
    · have hb:(g == f)=true:=beq_iff_eq.mpr h
      simp only [List.lookup,hb,if_pos h]
    · have hb:(g == f)=false:=beq_eq_false_iff_ne.mpr h
      simp only [List.lookup,hb,if_neg h]
  | (k,x)::r=>by
    have ih:=oU f g v r
    rw [show lP f v ((k,x)::r)=(if k=f then (k,v)::r else (k,x)::lP f v r) from rfl]
    by_cases hk:k=f
    · rw [if_pos hk]
      by_cases h:g=k
      · have hb:(g == k)=true:=beq_iff_eq.mpr h
        simp only [List.lookup,hb,if_pos (h.trans hk)]
      · have hb:(g == k)=false:=beq_eq_false_iff_ne.mpr h
        simp only [List.lookup,hb,if_neg (fun e:g=f=>h (e.trans hk.symm))]
    · rw [if_neg hk]
      by_cases h:g=k
      · have hb:(g == k)=true:=beq_iff_eq.mpr h
        simp only [List.lookup,hb,if_neg (fun e:g=f=>hk (h.symm.trans e))]
      · have hb:(g == k)=false:=beq_eq_false_iff_ne.mpr h
        simp only [List.lookup,hb]
        exact ih
theorem og (f:Str) (v:V):∀ fs:List (Str × V),f∈(lP f v fs).map (·.1)∧∀ g,g∈fs.map (·.1)→g∈(lP f v fs).map (·.1)
  | []=>⟨by simp [lP],fun g h=>by simp at h⟩
  | (k,x)::r=>by
    obtain ⟨i1,i2⟩:=og f v r
    rw [show lP f v ((k,x)::r)=(if k=f then (k,v)::r else (k,x)::lP f v r) from rfl]
    by_cases hk:k=f
    · rw [if_pos hk]
      subst hk
      exact ⟨by simp,fun g h=>by simpa using h⟩
    · rw [if_neg hk]
      refine ⟨?_,fun g h=>?_⟩
      · rw [List.map_cons]
        exact List.mem_cons_of_mem _ i1
      · rw [List.map_cons] at h ⊢
        rcases List.mem_cons.mp h with e | e
        · exact List.mem_cons.mpr (.inl e)
        · exact List.mem_cons_of_mem _ (i2 g e)
theorem o5 (f:Str) (v:V):∀ fs:List (Str × V),(lP f v fs).length≤fs.length + 1
  | []=>by simp [lP]
  | (k,x)::r=>by
    have ih:=o5 f v r
    rw [show lP f v ((k,x)::r)=(if k=f then (k,v)::r else (k,x)::lP f v r) from rfl]
    by_cases hk:k=f
    · rw [if_pos hk,List.length_cons,List.length_cons]; omega
    · rw [if_neg hk,List.length_cons,List.length_cons]; omega
theorem wm.some_of {v:V} {o:Option Value} (r:wm (some v) o):∃ u,o=some u∧RelV v u:=by
  cases o with
  | none=>exact (show False from r).elim
  | some u=>exact ⟨u,rfl,r⟩
theorem zq {v:V} {u:Value} (r:RelV v u):PySem.W.handedIn u=true:=by
  cases v with
  | non=>cases (show u=Value.none from r); rfl
  | bl b=>cases (show u=Value.bool b from r); rfl
  | int i=>obtain ⟨t,e⟩:=(show ∃ t,u=Value.int i t from r); cases e; rfl
  | str x=>obtain ⟨t,e⟩:=(show ∃ t,u=Value.str x t from r); cases e; rfl
  | byt b=>obtain ⟨t,e⟩:=(show ∃ t,u=Value.bytes b t from r); cases e; rfl
  | flt b=>obtain ⟨t,e⟩:=(show ∃ t,u=Value.float b t from r); cases e; rfl
  | ref a=>cases (show u=Value.ref a from r); rfl
  | ty n=>cases (show u=Value.type n from r); rfl
section
variable {P:Program} {w:World} {H H':Hp} {h h':Heap} {a C dx:Addr} {fs fs':List (Str × V)}
theorem yt (hok:HOk P w H h) (e:H a=some (.ins C dx fs)):∃ mA,yJ h a dx C mA∧(∀ f,wm (fs.lookup f) (mA f))∧PySem.Within mA (fs.map (·.1))∧fs.length≤1000∧H dx=some (.own a):=by
  obtain ⟨d,z,ne,ob,mA,n,r,q⟩:=(show gr P w H h a (.ins C dx fs) from hok a _ e)
  exact ⟨mA,⟨ob,n,ne⟩,r,q,z,d⟩
end
structure Cls (K:PySem.W.Frag) (C:Addr):Prop where
  pg:PySem.W.plainGet K C Str.empty=true
  hd:PySem.W.hasDictIn K C=true
  po:PySem.W.plainOver K C=true
  sa:PySem.W.findIn K (.ref C) "__setattr__"=some (some (.builtin "object.__setattr__"))
theorem Cls.get {K:PySem.W.Frag} {C:Addr} (c:Cls K C) (f:Str):PySem.W.plainGet K C f=true:=c.pg
noncomputable def gY (K:PySem.W.Frag) (C:Addr) (f:Str):Prop:=PySem.W.findIn K (.ref C) f=some none
theorem gY.taker {K:PySem.W.Frag} {C:Addr} {f:Str} (n:gY K C f):PySem.W.takerIn K C f=some none:=by
  unfold PySem.W.takerIn
  rw [show PySem.W.findIn K (.ref C) f=some none from n]
  rfl
section
variable {X:Cx} {pins:List (Addr × Obj)} {σ:St} {H:Hp} {s:Shared} {a C dx:Addr} {fs:List (Str × V)} {f:Str} {v:V} {A:Around} {E:Value→Shared→Prop}
theorem xl {b:Bool} {Q:Value→Shared→Prop} (I:Inv X pins σ H s) (e:H a=some (.ins C dx fs)) (c:Cls X.K C) (n:gY X.K C f) (l:fs.lookup f=some v)
    (h:∀ u s',Inv X pins σ H s'→RelV v u→Q u s'):wpAny (model X.prog X.w) A (getAttr (.ref a) f b) Q E s:=by
  obtain ⟨mA,O,r,_,_,_⟩:=yt I.hok e
  obtain ⟨u,hu,ru⟩:=wm.some_of (v:=v) (o:=mA f) (by rw [← l]; exact r f)
  exact get_map I.kIn O (c.get f) c.hd n hu (zq ru) (h u _ (I.tok _) ru)
theorem v8 {y:V} {u:Value} {Q:Unit→Shared→Prop} (I:Inv X pins σ H s) (e:H a=some (.ins C dx fs)) (c:Cls X.K C) (n:gY X.K C f) (hl:fs.length < 1000) (ry:RelV y u)
    (h:∀ s',Inv X pins σ (upd H a (.ins C dx (lP f y fs))) s'→Q () s'):wpAny (model X.prog X.w) A (setAttr (.ref a) f u) Q E s:=by
  obtain ⟨mA,O,r,wi,_,ho⟩:=yt I.hok e
  have hz:(fs.map (·.1)).length≤sizeLine:=by rw [List.length_map,sizeLine_eq]; omega
  refine Bp I.kIn O c.sa c.po n.taker c.hd wi hz fun h' O' sb=>h _ ?_
  have hd:∃ o,h'.get? dx=some o:=let ⟨o,_,_,e',_⟩:=O'.ns; ⟨o,e'⟩
  refine I.write (x:=a) (e:=dx) (by rw [e]; exact True.intro) (.inr ho) (fun b q hb z=>(sb.2 b hb).trans z) hd ?_
  refine ⟨by rw [bx O.ne]; exact ho,?_,O.ne,O'.obj,_,O'.ns,fun g=>?_,fun g hg=>?_⟩
  · have:=o5 f y fs; omega
  · show wm ((lP f y fs).lookup g) (if g=f then some u else mA g)
    rw [oU]
    by_cases q:g=f
    · rw [if_pos q,if_pos q]; exact ry
    · rw [if_neg q,if_neg q]; exact r g
  · by_cases q:g=f
    · rw [q]; exact (og f y fs).1
    · refine (og f y fs).2 g (wi g fun z=>hg ?_)
      show (if g=f then some u else mA g)=none
      rw [if_neg q]; exact z
theorem Inv.made (I:Inv X pins σ H s):Inv X pins σ (upd (upd H s.heap.objs.size (.own (s.heap.objs.size + 1))) (s.heap.objs.size + 1) (.ins C s.heap.objs.size []))
    { s with heap:=(s.heap.push PySem.W.emptyDict).push (PySem.W.instObj C s.heap.objs.size) }:=by
  have e1:(s.heap.push PySem.W.emptyDict).get? s.heap.objs.size=some PySem.W.emptyDict:=Heap.get?_push_size s.heap rfl
  have e2:((s.heap.push PySem.W.emptyDict).push (PySem.W.instObj C s.heap.objs.size)).get? (s.heap.objs.size + 1)=some (PySem.W.instObj C s.heap.objs.size):=by
    have:=Heap.get?_push_size (s.heap.push PySem.W.emptyDict) (o:=PySem.W.instObj C s.heap.objs.size) rfl
    rwa [Heap.size_push] at this
  have e3:(s.heap.push PySem.W.emptyDict).Ns s.heap.objs.size (fun _=>none):=⟨PySem.W.emptyDict,#[],_,e1,rfl,(fun e he=>absurd he (by simp)),fun _=>rfl⟩
  have I1:=I.laid (a:=s.heap.objs.size) (o:=.own (s.heap.objs.size + 1)) (h':=s.heap.push PySem.W.emptyDict) (t':=s.toks) (fun b u q=>Heap.get?_push_of_some _ q) (Nat.le_refl _) ⟨_,e1⟩
  refine I1.laid (a:=s.heap.objs.size + 1) (o:=.ins C s.heap.objs.size []) (t':=s.toks) (fun b u q=>Heap.get?_push_of_some _ q) (Nat.le_of_eq (Heap.size_push _ _)) ?_
  have ne:s.heap.objs.size≠s.heap.objs.size + 1:=Nat.ne_of_lt (Nat.lt_succ_self _)
  refine ⟨by rw [bx ne,cp],Nat.zero_le _,ne,e2,fun _=>none,(Heap.Ns1.of_empty e3).at fun o q=>Heap.get?_push_of_some _ q,fun _=>True.intro,fun y hy=>absurd rfl hy⟩
theorem BP {prog:Program} {w:World} {env:Env} {e:Expr} {f:Str} {pos:Pos} {s:Shared} {Q:Value→Shared→Prop} (hb:attributeBase e f env (eval e env)=eval e env)
    (h:wpAny (model prog w) A (eval e env) (fun o s₁=>wpAny (model prog w) A (getAttr o f true) Q E s₁) E s):wpAny (model prog w) A (eval (.Attribute e f pos) env) Q E s :=
  Attribute_any_ h (by rw [arm_eval_Attribute,hb])
end
noncomputable def Fx (K:PySem.W.Frag) (ta:TE) (f:Str):TE:=fun σ H Q=>ta σ H fun x H1=>∃ a C dx fs v,x=.ref a∧H1 a=some (.ins C dx fs)∧Cls K C∧gY K C f∧fs.lookup f=some v∧Q v H1
noncomputable def FW (K:PySem.W.Frag) (ta tv:TE) (f:Str):TS:=fun D σ H=>tv σ H fun y H1=>ta σ H1 fun x H2=>∃ a C dx fs,x=.ref a∧H2 a=some (.ins C dx fs)∧Cls K C∧gY K C f∧fs.length < 1000 ∧
  D.nx σ (upd H2 a (.ins C dx (lP f y fs)))
section
variable {X:Cx} {o e value:Expr} {f:Str} {pos pos' tpos:Pos} {ta tv:TE}
theorem D4 (he:PE X e ta) (hb:attributeBase e f X.env (eval e X.env)=eval e X.env):PE X (.Attribute e f pos) (Fx X.K ta f):=by
  intro pins s σ H Q I h
  refine BP hb (thn (he pins s σ H _ I h) fun u s1 rz2=>?_)
  obtain ⟨x,H1,I1,rx,a,C,dx,fs,v,ex,ea,c,n,l,q⟩:=rz2
  subst ex
  obtain rfl:u=Value.ref a:=rx
  exact xl I1 ea c n l fun u' s2 I2 ru=>⟨v,H1,I2,ru,q⟩
theorem ui (ha:PE X o ta) (hv:PE X value tv) (hs:swapsWith value (some (.Attribute o f pos')) pos.line X.env=pure false):PS X (.Assign [.Attribute o f pos'] value pos) (FW X.K ta tv f):=by
  intro pins s σ H D I h
  refine plainObj_wpAny_Assign_Attribute (thn (hv pins s σ H _ I h) fun u s1 rz2=>?_) hs
  obtain ⟨y,H1,I1,ry,q⟩:=rz2
  refine thn (ha pins s1 σ H1 _ I1 q) fun ov s2 rz2=>?_
  obtain ⟨x,H2,I2,rx,a,C,dx,fs,ex,ea,c,n,l,q2⟩:=rz2
  subst ex
  obtain rfl:ov=Value.ref a:=rx
  exact v8 I2 ea c n l ry fun s3 I3=>⟨σ,_,I3,q2⟩
end
section
variable {X:Cx} {pins:List (Addr × Obj)} {σ:St} {H:Hp} {s:Shared} {A:Around} {E:Value→Shared→Prop} {Q:Value→Shared→Prop} {c:Value} {b:Bool}
inductive ql (K:PySem.W.Frag) (H:Hp):V→Value→Prop where
  | non:ql K H .non (.type "NoneType")
  | bl (x:Bool):ql K H (.bl x) (.type "bool")
  | int (i:Int):ql K H (.int i) (.type "int")
  | str (x:Str):ql K H (.str x) (.type "str")
  | flt (x:UInt64):ql K H (.flt x) (.type "float")
  | lst {a:Addr} {xs:List V} (e:H a=some (.lst xs)):ql K H (.ref a) (.type "list")
  | frz {a:Addr} {o:Obj} {xs:List V} (e:H a=some (.frz o (.lst xs))):ql K H (.ref a) (.type "list")
  | tup {a:Addr} {xs:List V} (e:H a=some (.tup xs)):ql K H (.ref a) (.type "tuple")
  | dK {a:Addr} {kvs:List (Key × V)} (e:H a=some (.dK kvs)):ql K H (.ref a) (.type "dict")
  | dT {a:Addr} {kvs:List (List Key × V)} (e:H a=some (.dT kvs)):ql K H (.ref a) (.type "dict")
  | ins {a C dx:Addr} {fs:List (Str × V)} (e:H a=some (.ins C dx fs)) (cl:Cls K C) (ha:PySem.W.findIn K (.ref C) "__class__"=some (some (.builtin "object.__class__")))
      (hn:PySem.W.specialIn K (.builtin "object.__class__") "__get__"=some (some (.builtin "getset_descriptor.__get__"))) (htk:PySem.W.takesIn K (.builtin "object.__class__")=some true)
      (hm:PySem.W.mroIn K C (.type "object")=some true):ql K H (.ref a) (.ref C)
end
end L2
namespace L2
open PySem PySem.Spec PyProof.Rows
structure fj (k:Nat) (A:Around):Prop where
  hd:A.handled=none
  dp:A.depth + 3 * k + 5 < recursionLimit
  un:A.units + 16 * k + 200 < cLine
theorem fj.mono {j k:Nat} {A:Around} (r:fj k A) (h:j≤k):fj j A:=⟨r.hd,by have:=r.dp; omega,by have:=r.un; omega⟩
theorem fj.deeper {k:Nat} {A:Around} (r:fj (k + 1) A) (env:Env):fj k (A.deeper env) :=
  ⟨r.hd,by have:=r.dp; show A.depth + 1 + 3 * k + 5 < _; omega,by have:=r.un; show A.units + 3 + 16 * k + 200 < _; omega⟩
theorem wu {A:Around} {C:Addr} {us:List Value} {kw:List (Str × Value)}:(A.under (.builtin "type.__call__" ⟨.ref C::us,kw⟩)).depth=A.depth + 1:=by
  first | rfl | simp [Around.under,Code.weight,Code.isCreation,Code.isGuard,Code.isCaller,Code.frames,Code.isFrame,guardIds]
theorem wj {A:Around} {C:Addr} {us:List Value} {kw:List (Str × Value)}:(A.under (.builtin "type.__call__" ⟨.ref C::us,kw⟩)).units=A.units + 1:=by
  first | rfl | simp [Around.under,Code.cUnits,Code.frames,Code.isFrame]
theorem fj.make {k:Nat} {A:Around} (r:fj (k + 1) A) (C:Addr) (us:List Value) (kw:List (Str × Value)):fj k (A.under (.builtin "type.__call__" ⟨.ref C::us,kw⟩)) :=
  ⟨r.hd,by have:=r.dp; rw [wu]; omega,by have:=r.un; rw [wj]; omega⟩
theorem fj.depth {k:Nat} {A:Around} (r:fj k A):A.depth < recursionLimit:=by have:=r.dp; omega
theorem fj.units {k:Nat} {A:Around} (r:fj k A):A.units + 64 < cLine:=by have:=r.un; omega
noncomputable def Ez:TA:=fun _ H Q=>Q [] H
noncomputable def CT (ta:TE) (tr:TA):TA:=fun σ H Q=>ta σ H fun x H1=>tr σ H1 fun xs H2=>Q (x::xs) H2
section
variable {X:Cx} {e:Expr} {es:List Expr} {te:TE} {t:TA} {pos:Pos}
theorem iI:PA X [] Ez:=fun _ _ _ _ H Q I h=>Calls.spliced_nil ⟨[],H,I,.nil,h⟩
theorem fg (ha:PE X e te) (hr:PA X es t) (hs:starEach (e::es) X.env=(false,eval e X.env)::starEach es X.env:=by rfl):PA X (e::es) (CT te t):=by
  intro pos pins s σ H Q I h
  rw [hs]
  show wpAny _ _ (spliced ((false,eval e X.env)::backTo pos (starEach es X.env))) _ _ s
  refine Calls.spliced_cons (thn (ha pins s σ H _ I h) fun u s1 rz2=>?_)
  obtain ⟨x,H1,I1,r1,q1⟩:=rz2
  exact thn (hr pos pins s1 σ H1 _ I1 q1) fun us s2 qz2=>(by obtain ⟨xs,H2,I2,r2,q2⟩:=qz2; exact ⟨x::xs,H2,I2,.cons r1 r2,q2⟩)
noncomputable def FU (t:TA):TE:=fun σ H Q=>t σ H fun xs H1=>xs.length≤sizeLine∧∀ p,H1 p=none→Q (.ref p) (upd H1 p (.tup xs))
noncomputable def Fy (t:TA):TE:=fun σ H Q=>t σ H fun xs H1=>xs.length≤sizeLine∧∀ p,H1 p=none→Q (.ref p) (upd H1 p (.lst xs))
theorem D7 {x1} (h:PA X es t):PE X (.Tuple es x1 pos) (FU t):=by
  intro pins s σ H Q I hq
  refine wpAny_Tuple_spliced (thn (h pos pins s σ H _ I hq) fun us s1 rz2=>?_)
  obtain ⟨xs,H1,I1,r,z,q⟩:=rz2
  refine ⟨by rw [← r.length]; exact z,?_⟩
  have hf:H1 s1.heap.objs.size=none:=I1.hok.fresh (Nat.le_refl _)
  refine ⟨.ref s1.heap.objs.size,upd H1 s1.heap.objs.size (.tup xs),I1.laid (t':=s1.toks) (fun b u e=>Heap.get?_push_of_some _ e) (Nat.le_refl _) ?_,rfl,q _ hf⟩
  exact ⟨z,us,r,⟨_,Heap.get?_push_size _ rfl,rfl,rfl,_,rfl⟩⟩
theorem wJ (h:PA X es t):PE X (.List es pos) (Fy t):=by
  intro pins s σ H Q I hq
  refine wpAny_List_spliced (thn (h pos pins s σ H _ I hq) fun us s1 rz2=>?_)
  obtain ⟨xs,H1,I1,r,z,q⟩:=rz2
  refine ⟨by rw [← r.length]; exact z,?_⟩
  have hf:H1 s1.heap.objs.size=none:=I1.hok.fresh (Nat.le_refl _)
  refine ⟨.ref s1.heap.objs.size,upd H1 s1.heap.objs.size (.lst xs),I1.laid (t':=s1.toks) (fun b u e=>Heap.get?_push_of_some _ e) (Nat.le_refl _) ?_,rfl,q _ hf⟩
  exact ⟨z,us,0,r,Heap.get?_push_size _ rfl⟩
end
noncomputable abbrev Sp:=List V→Hp→VK→XK→Prop
noncomputable abbrev CXT:=List Env→Hp→Shared→XK→Value→Shared→Prop
structure vY (P:Program) (w:World) (K:PySem.W.Frag) (mg:Str→Option Value) (base:Heap) (A:Around) (outer:List Env) (s:Shared) (H:Hp):Prop where
  frames:A.frames=some outer
  mod:Mod K mg base
  bs:∀ b o,base.get? b=some o→s.heap.get? b=some o∧H b=none
  bsz:base.objs.size≤s.heap.objs.size
  funs:s.heap.FunFrames base outer
  frf:∀ b∈frs outer,H b=none
  hok:HOk P w H s.heap
  bare:AllBare s.gens
  tab:∀ P q,TabOf K P q→H P=some (.tbl q)
noncomputable def CE (outer:List Env) (P:Program) (w:World) (H:Hp) (s:Shared) (Q:VK) (u:Value) (s':Shared):Prop :=
  ∃ v H',s'.os=s.os∧AllBare s'.gens∧Un (frs outer) [] H H' s.heap s'.heap∧HOk P w H' s'.heap∧RelV v u∧Q v H'
noncomputable def CR (CX:CXT) (outer:List Env) (P:Program) (w:World) (H:Hp) (s:Shared) (Q:VK) (E:XK) (r:Result) (s':Shared):Prop :=
  match r with
  | .ok (.ret u)=>CE outer P w H s Q u s'
  | .ok _=>False
  | .error e=>CX outer H s E e s'
structure jR (P:Program) (w:World) (K:PySem.W.Frag) (mg:Str→Option Value) (base:Heap) (CX:CXT) (k:Nat) (f:Addr) (fd:FuncData) (ps:List Str) (sp:Sp):Prop where
  len:∀ vs H Q E,sp vs H Q E→vs.length=ps.length
  run:∀ (A:Around) (outer:List Env) (s:Shared) (H:Hp) (args:Args) (us:List Value) (vs:List V) (Q:VK) (E:XK),fj k A→vY P w K mg base A outer s H→BindsTo s fd args (ps.zip us)→Vals vs us→sp vs H Q E →
    codeAny (model P w) A (.call (.ref f) args) (CR CX outer P w H s Q E) s
theorem vY.make {P:Program} {w:World} {K:PySem.W.Frag} {mg:Str→Option Value} {base:Heap} {A:Around} {outer:List Env} {s:Shared} {H:Hp} (e:vY P w K mg base A outer s H) (C:Addr) (us:List Value) (kw:List (Str × Value)) :
    vY P w K mg base (A.under (.builtin "type.__call__" ⟨.ref C::us,kw⟩)) outer s H:=⟨by first | exact e.frames | (simpa [Around.under,Code.envs,Code.isFrame,pushEnvs] using e.frames),e.mod,e.bs,e.bsz,e.funs,e.frf,e.hok,e.bare,e.tab⟩
section
variable {X:Cx} {pins:List (Addr × Obj)} {σ:St} {H:Hp} {s s':Shared}
theorem Inv.env0 (I:Inv X pins σ H s):vY X.prog X.w X.K X.mg X.base X.A X.stack s H :=
  ⟨I.ok.frames,I.ok.mod,I.bs,Nat.le_trans I.ok.bsz I.sz,I.stack,I.stkFree,I.hok,I.bare,I.tab⟩
theorem Inv.after {Q:VK} {u:Value} (I:Inv X pins σ H s) (h:CE X.stack X.prog X.w H s Q u s'):EP X pins σ Q u s':=by
  obtain ⟨v,H',os,bare,un,hok,r,q⟩:=h
  obtain ⟨hh,g,d,t,os'⟩:=s'
  obtain rfl:os'=s.os:=os
  exact ⟨v,H',I.call (h':=hh) (g':=g) (d':=d) (t':=t) (ch:=[]) un hok bare (fun b z=>absurd z (by simp)),r,q⟩
end
noncomputable def EW (sp:Sp) (dvs:List V) (E:XK) (t:TA):TE:=fun σ H Q=>t σ H fun vs H1=>sp (vs++dvs) H1 Q E
noncomputable def EY (C:Addr) (sp:Sp) (dvs:List V) (E:XK) (t:TA):TE:=fun σ H Q=>t σ H fun vs H1=>∀ x dx,H1 x=none→H1 dx=none→dx≠x →
  sp (.ref x::(vs++dvs)) (upd (upd H1 dx (.own x)) x (.ins C dx [])) (fun v H2=>v=.non∧Q (.ref x) H2) E
noncomputable def Binds (K:PySem.W.Frag) (fd:FuncData) (ps:List Str) (ds:List Value):Prop :=
  ∀ (s:Shared) (us:List Value),K.In s.heap→(us++ds).length=ps.length→BindsTo s fd ⟨us,[]⟩ (ps.zip (us++ds))
theorem Binds.all {K:PySem.W.Frag} {fd:FuncData} {ps:List Str} (h:∀ us:List Value,us.length=ps.length→bindArgs fd ⟨us,[]⟩=pure (ps.zip us)):Binds K fd ps []:=fun s us _ hl=>by
  rw [List.append_nil] at hl ⊢
  exact .of_eq (h us hl)
noncomputable def Passes (CX:CXT) (X:Cx) (E:XK):Prop:=∀ (pins:List (Addr × Obj)) (σ:St) (H:Hp) (s:Shared) (e:Value) (s':Shared),Inv X pins σ H s→CX X.stack H s E e s'→X.xe e s'
section
variable {X:Cx} {CX:CXT} {k:Nat} {f C:Addr} {fd:FuncData} {ps:List Str} {sp:Sp} {dvs:List V} {ds:List Value} {E:XK} {x m:Str} {p pos apos:Pos} {e o:Expr} {es:List Expr} {ta:TE} {t:TA}
theorem CW {pins:List (Addr × Obj)} {σ:St} {H:Hp} {s:Shared} {Q:VK} {us:List Value} {vs:List V} (F:jR X.prog X.w X.K X.mg X.base CX k f fd ps sp) (hr:fj k X.A) (hb:Binds X.K fd ps ds) (hd:Vals dvs ds) (hx:Passes CX X E)
    (I:Inv X pins σ H s) (r:Vals vs us) (h:sp (vs++dvs) H Q E):wpAny (model X.prog X.w) X.A (call (.ref f) us) (EP X pins σ Q) X.xe s:=by
  have r2:Vals (vs++dvs) (us++ds):=r.append hd
  have hl:(us++ds).length=ps.length:=by rw [← r2.length]; exact F.len _ _ _ _ h
  refine wpAny_call (codeAny_mono (F.run X.A X.stack s H ⟨us,[]⟩ (us++ds) (vs++dvs) Q E hr I.env0 (hb s us I.kIn hl) r2 h) fun r s' hq=>?_)
  cases r with
  | error e=>exact hx pins σ H s e s' I hq
  | ok fl =>
    cases fl with
    | ret u=>exact I.after hq
    | next=>exact False.elim hq
    | brk=>exact False.elim hq
    | cont=>exact False.elim hq
theorem yz (F:jR X.prog X.w X.K X.mg X.base CX k f fd ps sp) (hr:fj k X.A) (hg:Gl X x) (hm:X.mg x=some (.ref f)) (hk:PySem.W.keepIn X.K (.ref f)=true) (hb:Binds X.K fd ps ds) (hd:Vals dvs ds) (hx:Passes CX X E)
    (ha:PA X (e::es) t) (hdb:(x == ("__debug__":Str))=false:=by decide) (he:starEach (e::es) X.env=(false,eval e X.env)::starEach es X.env:=by rfl) (hpl:(backTo pos (starEach es X.env)).any (·.1)=false:=by rfl) :
    PE X (.Call (.Name x p) (e::es) [] pos) (EW sp dvs E t):=by
  intro pins s σ H Q I h
  refine wpAny_Call_Name_kw (pz I hg hm ?_ hdb)
  refine PySem.W.callWith_K (h₀:=X.base) I.ok.mod.kin hk (thn (ha pos pins s σ H _ I h) fun us s1 rz2=>?_) he hpl
  obtain ⟨vs,H1,I1,r,q⟩:=rz2
  refine ⟨I1.kIn,?_⟩
  exact CW F hr hb hd hx I1 r q
structure Mk (K:PySem.W.Frag) (C f:Addr):Prop where
  makes:PySem.W.makesIn K C=true
  init:PySem.W.findIn K (.ref C) "__init__"=some (some (.ref f))
  fn:PySem.W.isFn K (.ref f)=true
  kp:PySem.W.keepIn K (.ref C)=true
theorem zS {pins:List (Addr × Obj)} {σ:St} {H:Hp} {s:Shared} {Q:VK} {us:List Value} {vs:List V} (M:Mk X.K C f) (F:jR X.prog X.w X.K X.mg X.base CX k f fd ps sp) (hr:fj (k + 1) X.A) (hb:Binds X.K fd ps ds) (hd:Vals dvs ds)
    (hx:Passes CX X E) (I:Inv X pins σ H s) (r:Vals vs us)
    (h:∀ x dx,H x=none→H dx=none→dx≠x→sp (.ref x::(vs++dvs)) (upd (upd H dx (.own x)) x (.ins C dx [])) (fun v H2=>v=.non∧Q (.ref x) H2) E) :
    wpAny (model X.prog X.w) X.A (call (.ref C) us) (EP X pins σ Q) X.xe s:=by
  have hq:=h (s.heap.objs.size + 1) s.heap.objs.size (I.hok.fresh (Nat.le_succ _)) (I.hok.fresh (Nat.le_refl _)) (Nat.ne_of_lt (Nat.lt_succ_self _))
  have I2:=Inv.made (C:=C) I
  have r2:Vals (V.ref (s.heap.objs.size + 1)::(vs++dvs)) (Value.ref (s.heap.objs.size + 1)::(us++ds)):=.cons rfl (r.append hd)
  have hl:(Value.ref (s.heap.objs.size + 1)::us++ds).length=ps.length:=by
    have e:=r2.length
    rw [F.len _ _ _ _ hq] at e
    exact e.symm
  refine wpAny_call (AY (f:=f) I.kIn M.makes M.init (beq_iff_eq.mp M.fn) (codeAny_mono (F.run _ X.stack _ _ ⟨Value.ref (s.heap.objs.size + 1)::us,[]⟩ (Value.ref (s.heap.objs.size + 1)::(us++ds)) _ _ E (hr.make C us [])
    (I2.env0.make C us []) (hb _ (Value.ref (s.heap.objs.size + 1)::us) I2.kIn hl) r2 hq) fun r s' hq'=>?_))
  cases r with
  | error e=>exact hx pins σ _ _ e s' I2 hq'
  | ok fl =>
    cases fl with
    | ret u =>
      obtain ⟨v,H',I3,rv,ev,q3⟩:=I2.after hq'
      subst ev
      exact ⟨rv,⟨V.ref (s.heap.objs.size + 1),H',I3,rfl,q3⟩⟩
    | next=>exact False.elim hq'
    | brk=>exact False.elim hq'
    | cont=>exact False.elim hq'
theorem BC (M:Mk X.K C f) (F:jR X.prog X.w X.K X.mg X.base CX k f fd ps sp) (hr:fj (k + 1) X.A) (hg:Gl X x) (hm:X.mg x=some (.ref C)) (hb:Binds X.K fd ps ds) (hd:Vals dvs ds) (hx:Passes CX X E)
    (ha:PA X (e::es) t) (hdb:(x == ("__debug__":Str))=false:=by decide) (he:starEach (e::es) X.env=(false,eval e X.env)::starEach es X.env:=by rfl) (hpl:(backTo pos (starEach es X.env)).any (·.1)=false:=by rfl) :
    PE X (.Call (.Name x p) (e::es) [] pos) (EY C sp dvs E t):=by
  intro pins s σ H Q I h
  refine wpAny_Call_Name_kw (pz I hg hm ?_ hdb)
  refine PySem.W.callWith_K (h₀:=X.base) I.ok.mod.kin M.kp (thn (ha pos pins s σ H _ I h) fun us s1 rz2=>?_) he hpl
  obtain ⟨vs,H1,I1,r,q⟩:=rz2
  refine ⟨I1.kIn,?_⟩
  exact zS M F hr hb hd hx I1 r q
end
noncomputable def PK (X:Cx) (kws:List Keyword) (t:TA):Prop :=
  ∀ (pos:Pos) (pins:List (Addr × Obj)) (s:Shared) (σ:St) (H:Hp) (Q:List V→Hp→Prop),Inv X pins σ H s→t σ H Q→wpAny (model X.prog X.w) X.A (evalAll ((backToKw pos (keywordEach kws X.env)).map (·.2))) (AP X pins σ Q) X.xe s
section
variable {X:Cx} {CX:CXT} {k:Nat} {f C:Addr} {fd:FuncData} {ps ks:List Str} {sp:Sp} {E:XK} {x m:Str} {p pos apos kpos:Pos} {e o:Expr} {es:List Expr} {kws:List Keyword} {te ta:TE} {t tk:TA} {nm:Option Str}
theorem Dx:PK X [] Ez:=fun _ _ _ _ H Q I h=>wpAny_evalAll_nil ⟨[],H,I,.nil,h⟩
theorem BM (ha:PE X e te) (hr:PK X kws t):PK X (⟨nm,e,kpos⟩::kws) (CT te t):=by
  intro pos pins s σ H Q I h
  show wpAny _ _ (evalAll ((do let v ← eval e X.env; standAt pos; pure v)::(backToKw pos (keywordEach kws X.env)).map (·.2))) _ _ s
  refine wpAny_evalAll_cons (wpAny_bind (thn (ha pins s σ H _ I h) fun u s1 rz2=>?_))
  obtain ⟨x,H1,I1,r1,q1⟩:=rz2
  refine wpAny_bind (wpAny_standAt (wpAny_pure ?_))
  exact thn (hr pos pins s1 σ H1 _ I1 q1) fun us s2 qz2=>(by obtain ⟨xs,H2,I2,r2,q2⟩:=qz2; exact ⟨x::xs,H2,I2,.cons r1 r2,q2⟩)
variable {g:List Value→List Value→List Value} {gV:List V→List V→List V}
end
structure aT (N P:List Str) (sc:Scope):Prop where
  kind:sc.kind=.function
  co:sc.isCoroutine=false
  gen:sc.isGenerator=false
  nd:N.Nodup
  pre:N.take P.length=P
  par:∀ x∈P,sc.names.lookup x=some .local∨sc.names.lookup x=some .cell
  nofree:∀ y∈sc.names,y.2≠.free
theorem rZ {kindOf:Str→Option NameKind} {x:Str}:∀ {binds:List (Str × Value)} {m:Str→Option Value},(∀ v,(x,v) ∉ binds)→bindL kindOf binds m x=m x
  | [],_,_=>rfl
  | (n,v)::r,m,h=>by
    unfold bindL
    rw [rZ fun w hw=>h w (List.mem_cons_of_mem _ hw)]
    split
    · have:x≠n:=by rintro rfl; exact h v List.mem_cons_self
      simp [this]
    · rfl
theorem so {kindOf:Str→Option NameKind} {x:Str}:∀ {binds:List (Str × Value)} {m:Str→Option Value},(∀ v,(x,v) ∉ binds)→bindC kindOf binds m x=m x
  | [],_,_=>rfl
  | (n,v)::r,m,h=>by
    unfold bindC
    rw [so fun w hw=>h w (List.mem_cons_of_mem _ hw)]
    split
    · rfl
    · have:x≠n:=by rintro rfl; exact h v List.mem_cons_self
      simp [this]
theorem rN {kindOf:Str→Option NameKind} {x:Str} {v:Value}:∀ {P:List Str} {vs:List Value} {i:Nat} {m:Str→Option Value},P.Nodup→P[i]?=some x→vs[i]?=some v→kindOf x=some .local →
    bindL kindOf (P.zip vs) m x=some v
  | [],_,_,_,_,h,_,_=>by simp at h
  | _::_,[],_,_,_,_,h,_=>by simp at h
  | p::P,w::vs,0,m,nd,h1,h2,hk=>by
    simp at h1 h2; subst h1; subst h2
    show bindL kindOf ((p,w)::P.zip vs) m p=_
    unfold bindL
    rw [rZ fun v hv=>(List.nodup_cons.mp nd).1 (List.of_mem_zip hv).1,if_pos hk]
    simp
  | p::P,w::vs,i + 1,m,nd,h1,h2,hk=>by
    show bindL kindOf ((p,w)::P.zip vs) m x=_
    unfold bindL
    exact rN (i:=i) (List.nodup_cons.mp nd).2 (by simpa using h1) (by simpa using h2) hk
theorem rJ {kindOf:Str→Option NameKind} {x:Str} {v:Value}:∀ {P:List Str} {vs:List Value} {i:Nat} {m:Str→Option Value},P.Nodup→P[i]?=some x→vs[i]?=some v→kindOf x≠some .local →
    bindC kindOf (P.zip vs) m x=some v
  | [],_,_,_,_,h,_,_=>by simp at h
  | _::_,[],_,_,_,_,h,_=>by simp at h
  | p::P,w::vs,0,m,nd,h1,h2,hk=>by
    simp at h1 h2; subst h1; subst h2
    show bindC kindOf ((p,w)::P.zip vs) m p=_
    unfold bindC
    rw [so fun v hv=>(List.nodup_cons.mp nd).1 (List.of_mem_zip hv).1,if_neg hk]
    simp
  | p::P,w::vs,i + 1,m,nd,h1,h2,hk=>by
    show bindC kindOf ((p,w)::P.zip vs) m x=_
    unfold bindC
    exact rJ (i:=i) (List.nodup_cons.mp nd).2 (by simpa using h1) (by simpa using h2) hk
noncomputable def start (N:List Str) (vs:List V):St:=vs.map some++List.replicate (N.length - vs.length) none
noncomputable def jD (CX:CXT) (P:Program) (w:World) (K:PySem.W.Frag) (mg:Str→Option Value) (base:Heap) (N:List Str) (qual:Str) (scope:Scope) (f:Addr) (cd:Value) (A:Around) (outer:List Env) (s:Shared) (H:Hp) (E:XK):Cx where
  prog:=P
  w:=w
  K:=K
  mg:=mg
  base:=base
  A:=A.deeper (envOfC qual scope s.heap.objs.size f cd)
  N:=N
  s₀:=s
  H₀:=H
  env:=envOfC qual scope s.heap.objs.size f cd
  outer:=outer
  stack:=envOfC qual scope s.heap.objs.size f cd::outer
  ex:=[]
  calm:=true
  fn:=fun _=>true
  pn:=[]
  xe:=fun e s'=>wpAny (model P w) (A.deeper (envOfC qual scope s.heap.objs.size f cd)) (leaving (envOfC qual scope s.heap.objs.size f cd) e) (fun _ s''=>CX outer H s E e s'') (fun e' s''=>CX outer H s E e' s'') s'
theorem vP {sc:Scope} {n:Nat} {x:Str} (h:sc.names.lookup x=some .cell):∃ c,(cellsFrom n sc.names []).lookup x=some c:=by
  have q:=PySem.W.cellsFrom_some sc.names n [] (.inl h)
  exact Option.isSome_iff_exists.mp q
theorem yI {CX:CXT} {P:Program} {w:World} {K:PySem.W.Frag} {mg:Str→Option Value} {base:Heap} {N ps:List Str} {qual:Str} {scope:Scope} {f:Addr} {cd:Value} {A:Around} {outer:List Env} {s s1:Shared} {H:Hp} {E:XK} {us:List Value} {vs:List V}
    (S:aT N ps scope) (hd:A.handled=none) (e0:vY P w K mg base A outer s H) (hl:vs.length=ps.length) (r:Vals vs us)
    (x:InCallC s s.heap.objs.size (bindL (envOfC qual scope s.heap.objs.size f cd).kindOf (ps.zip us) fun _=>none) (cellsFrom (s.heap.objs.size + 1) scope.names []) (bindC (envOfC qual scope s.heap.objs.size f cd).kindOf (ps.zip us) fun _=>none) s1) :
    Inv (jD CX P w K mg base N qual scope f cd A outer s H E) [] (start N vs) H s1:=by
  have hpl:ps.length≤N.length:=by have:=congrArg List.length S.pre; rw [List.length_take] at this; omega
  obtain ⟨h1,tk,rfl,hk⟩:=x.done
  have noA:∀ b:Addr,b ∉ (jD CX P w K mg base N qual scope f cd A outer s H E).ex:=fun b z=>absurd (show b∈([]:List Addr) from z) (by simp)
  refine ⟨⟨e0.mod,S.kind,rfl,rfl,Nat.le_refl _,fun y z c h1 h2=>?_,fun y hy=>?_,fun y c _ h=>?_,fun _=>hd,Around.frames_deeper e0.frames,.inr ⟨rfl,rfl⟩,fun b z=>absurd z (noA b),e0.bs,e0.bsz,fun b _ _=>noA b,fun b z=>absurd z (noA b),e0.funs,e0.frf⟩,
    rfl,e0.bare,Un.kept hk,⟨_,x.toInCall.ns,fun i y v h1 h2 h3=>?_⟩,fun y c h=>⟨_,x.cell y c h⟩,e0.hok.fresh (Nat.le_refl _),fun y c h=>?_,fun p hp=>absurd (show p∈([]:List (Addr × Obj)) from hp) (by simp),e0.hok.kept hk,?_,e0.tab⟩
  · exact name_of_addr x.apart (PySem.mem_of_lookup h1) (PySem.mem_of_lookup h2)
  · have hy:scope.names.lookup y=some .cell∨scope.names.lookup y=some .free:=hy
    rcases hy with hy | hy
    · exact vP hy
    · exact absurd rfl (S.nofree _ (PySem.mem_of_lookup hy))
  · exact Nat.le_of_lt (x.above y c (PySem.mem_of_lookup h))
  · have hi:i < vs.length:=by
      unfold start at h2
      by_cases hi:i < vs.length
      · exact hi
      · rw [List.getElem?_append_right (by simpa using hi)] at h2
        rw [List.getElem?_replicate] at h2
        split at h2 <;> cases h2
    have ha:vs[i]?=some v:=by
      unfold start at h2
      rw [List.getElem?_append_left (by simpa using hi),List.getElem?_map] at h2
      cases e:vs[i]? with
      | none=>rw [e] at h2; cases h2
      | some a=>rw [e] at h2; cases h2; rfl
    obtain ⟨u,hu,rv⟩:=r.get ha
    have hp:ps[i]?=some y:=by
      rw [← S.pre,List.getElem?_take_of_lt (by omega)]; exact h1
    have ndP:ps.Nodup:=by rw [← S.pre]; exact S.nd.sublist (List.take_sublist _ _)
    refine ⟨u,rv,?_⟩
    rcases S.par y (List.mem_of_getElem? hp) with k | k
    · exact .inl ⟨k,rN ndP hp hu k⟩
    · obtain ⟨c,e⟩:=vP (n:=s.heap.objs.size + 1) k
      refine .inr ⟨.inl k,c,e,?_⟩
      have q:=x.cell y c e
      rw [rJ ndP hp hu (by show scope.names.lookup y≠_; rw [k]; decide)] at q
      exact q
  · exact e0.hok.fresh (Nat.le_of_lt (x.above y c (PySem.mem_of_lookup h)))
  · unfold start
    show _=N.length
    rw [List.length_append,List.length_map,List.length_replicate]
    omega
theorem CD {CX:CXT} {P:Program} {w:World} {K:PySem.W.Frag} {mg:Str→Option Value} {base:Heap} {k:Nat} {f:Addr} {name qual:Str} {params:Arguments} {body:List Stmt} {scope:Scope} {dV kV doc pm cdv ct oc:Value} {an od:Option Addr}
    {osl:Array (Option Value)} {N ps:List Str} {sp:Sp} (lk:K.lookup f=some ⟨oc,od,.func (PySem.W.fnOf name qual params body scope dV kV doc pm an cdv ct),osl⟩) (hcd:PySem.W.codeIn K cdv qual=true) (S:aT N ps scope)
    (len:∀ vs H Q E,sp vs H Q E→vs.length=ps.length)
    (hbody:∀ (A:Around) (outer:List Env) (s:Shared) (H:Hp) (vs:List V) (Q:VK) (E:XK),fj k (A.deeper (envOfC qual scope s.heap.objs.size f cdv))→sp vs H Q E →
      ∃ t,PSs (jD CX P w K mg base N qual scope f cdv A outer s H E) body t∧t { nx:=fun _ H'=>Q .non H',rt:=Q } (start N vs) H) :
    jR P w K mg base CX (k + 1) f (PySem.W.fnOf name qual params body scope dV kV doc pm an cdv ct) ps sp:=by
  refine ⟨len,fun A outer s H args us vs Q E hr e0 hb r hsp=>?_⟩
  have hl:=len _ _ _ _ hsp
  have KX:K.In s.heap:=e0.mod.kin.keeps fun b o e=>(e0.bs b o e).1
  have lim:s.heap.NoLimit:=e0.mod.nolimit.keeps fun b o e=>(e0.bs b o e).1
  have hkind:∀ y∈ps.zip us,scope.names.lookup y.1=some .local∨(scope.names.lookup y.1=some .cell∧((cellsFrom (s.heap.objs.size + 1) scope.names []).lookup y.1).isSome=true):=fun pz0 hy=>by
    obtain ⟨n,v⟩:=pz0
    rcases S.par n (List.of_mem_zip hy).1 with q | q
    · exact .inl q
    · exact .inr ⟨q,PySem.W.cellsFrom_some _ _ _ (.inl q)⟩
  refine codeAny_call_function hr.depth (KX _ _ lk) rfl S.co S.gen rfl (PySem.W.codeRec_of KX hcd) (hb _ _ _ _ ?_)
  refine wpAny_newFunctionEnv_cells S.kind hkind fun env he s1 x=>?_
  subst he
  refine ⟨lim.keeps x.toInCall.keep,codeAny_func ?_⟩
  obtain ⟨t,ht,hq⟩:=hbody A outer s H vs Q E (hr.deeper _) hsp
  have I:Inv (jD CX P w K mg base N qual scope f cdv A outer s H E) [] (start N vs) H s1:=yI S hr.hd e0 hl r x
  refine wpAny_mono (ht [] s1 (start N vs) H _ I hq) (fun fl s' hs=>?_) fun e s' hs=>hs
  have fin:∀ {σ':St} {H':Hp} {v:V} {u:Value},Inv (jD CX P w K mg base N qual scope f cdv A outer s H E) [] σ' H' s'→RelV v u→Q v H'→CE outer P w H s Q u s' :=
    fun {σ' H' v u} J rv q=>⟨v,H',J.os,J.bare,J.base,J.hok,rv,q⟩
  cases fl with
  | ret u =>
    obtain ⟨v,σ',H',J,rv,q⟩:=hs
    exact fin J rv q
  | next =>
    obtain ⟨σ',H',J,q⟩:=hs
    exact fin (v:=V.non) (u:=Value.none) J rfl q
  | brk =>
    obtain ⟨_,_,_,q⟩:=hs
    exact False.elim q
  | cont =>
    obtain ⟨_,_,_,q⟩:=hs
    exact False.elim q
end L2
namespace L2
open PySem PySem.Spec PyProof.Rows
section
variable {X:Cx} {x:Str} {p pos:Pos} {e:Expr} {es:List Expr} {t:TA} {id T:String} {r:List V→Hp→VK→Prop}
noncomputable def tCB (r:List V→Hp→VK→Prop) (t:TA):TE:=fun σ H Q=>t σ H fun vs H1=>r vs H1 Q
theorem gP (hc:lR X (.builtin id) r) (hg:Gl X x) (hm:X.mg x=none) (hv:bootBuiltins x=some (.builtin id)) (ha:PA X (e::es) t) (hn:x≠"__name__":=by decide) (hdb:(x == ("__debug__":Str))=false:=by decide)
    (he:starEach (e::es) X.env=(false,eval e X.env)::starEach es X.env:=by rfl) (hpl:(backTo pos (starEach es X.env)).any (·.1)=false:=by rfl):PE X (.Call (.Name x p) (e::es) [] pos) (tCB r t):=by
  intro pins s σ H Q I h
  refine wpAny_Call_Name_kw (gU I hg hm hv ?_ hn hdb)
  exact PyProof.Rows.callWith_builtin1 (thn (ha pos pins s σ H _ I h) fun us s1 qz2=>(by obtain ⟨vs,H1,I1,r1,q1⟩:=qz2; exact hc pins s1 σ H1 vs us Q I1 r1 q1)) he hpl
theorem rF (hc:lR X (.type T) r) (hg:Gl X x) (hm:X.mg x=none) (hv:bootBuiltins x=some (.type T)) (ha:PA X (e::es) t) (hn:x≠"__name__":=by decide) (hdb:(x == ("__debug__":Str))=false:=by decide)
    (he:starEach (e::es) X.env=(false,eval e X.env)::starEach es X.env:=by rfl) (hpl:(backTo pos (starEach es X.env)).any (·.1)=false:=by rfl):PE X (.Call (.Name x p) (e::es) [] pos) (tCB r t):=by
  intro pins s σ H Q I h
  refine wpAny_Call_Name_kw (gU I hg hm hv ?_ hn hdb)
  exact PyProof.Rows.callWith_type1 (thn (ha pos pins s σ H _ I h) fun us s1 qz2=>(by obtain ⟨vs,H1,I1,r1,q1⟩:=qz2; exact hc pins s1 σ H1 vs us Q I1 r1 q1)) he hpl
end
end L2
namespace HT
open PySem PyProof.Rows
section
open PySem.SeqAt
open PySem.AutoSeq1 (wpAny_loadPart')
open PySem.MeetsSeq PySem.MeetsSeq2 PySem.MeetsSeq3
end
section
variable {prog:Program} {w:World} {A:Around} {E:Value→Shared→Prop} {s:Shared}
theorem Bv {t b:Addr} {vs ws:List Value} {Q:Value→Shared→Prop} (ht:IsTup s.heap t vs.toArray) (hb:IsTup s.heap b ws.toArray) (hv:vs≠[])
    (h1:ws=[]→Q (.ref t) s) (h2:ws≠[]→Q (.ref s.heap.objs.size) { s with heap:=s.heap.push { cls:=.type "tuple",data:=.seq (vs++ws).toArray } })
    (hsz:vs.length + ws.length≤sizeLine):wpAny (model prog w) A (binaryOp .Add (.ref t) (.ref b)) Q E s:=by
  obtain ⟨⟨cls,dd,data,sl⟩,ho,hc,n,hd⟩:=id ht
  obtain ⟨⟨cls2,dd2,data2,sl2⟩,ho2,hc2,n2,hd2⟩:=id hb
  simp only at hc hd hc2 hd2
  subst hc hd hc2 hd2
  have e:vs.toArray++ws.toArray=(vs++ws).toArray:=by simp
  by_cases hw:ws=[]
  · exact concat_meets ⟨_,ho,rfl⟩ ⟨_,ho2,rfl⟩ noFill_tuple_add seq_tuple_add PySem.F.slot_tuple_add PySem.F.entry_tuple_add (PySem.F.args_tuple_add_2 _ _)
      (tuple_addW1 t b vs.toArray ws.toArray n n2 dd dd2 sl sl2 (by simpa using hv) (by simp [hw])) ⟨ho,ho2,h1 hw⟩
  · refine concat_meets ⟨_,ho,rfl⟩ ⟨_,ho2,rfl⟩ noFill_tuple_add seq_tuple_add PySem.F.slot_tuple_add PySem.F.entry_tuple_add (PySem.F.args_tuple_add_2 _ _)
      (tuple_addW2 t b vs.toArray ws.toArray n n2 dd dd2 sl sl2 (by simpa using hv) (by simpa using hw) (by rw [List.size_toArray,List.size_toArray]; exact hsz)) ⟨ho,ho2,?_⟩
    rw [e]
    exact h2 hw
noncomputable def sIx (n d:Nat):Option Int→Nat
  | none=>d
  | some v=>if v < 0 then (v + (n:Int)).toNat else min v.toNat n
theorem xH (n d k:Nat):sIx n d (some (k:Int))=min k n:=by
  show (if (k:Int) < 0 then ((k:Int) + (n:Int)).toNat else min (k:Int).toNat n)=min k n
  rw [if_neg (by omega),Int.toNat_natCast]
theorem DT (n d:Nat) (hd:d≤n) (o:Option Int):sIx n d o≤n:=by
  cases o with
  | none=>exact hd
  | some v =>
    show (if v < 0 then (v + (n:Int)).toNat else min v.toNat n)≤n
    by_cases hv:v < 0
    · rw [if_pos hv]; omega
    · rw [if_neg hv]; exact Nat.min_le_right _ _
theorem yw (v:Int) (n d:Nat):(if v < 0 then max (v + (n:Int)) 0 else min v (n:Int))=((sIx n d (some v):Nat):Int):=by
  show (if v < 0 then max (v + (n:Int)) 0 else min v (n:Int))=(((if v < 0 then (v + (n:Int)).toNat else min v.toNat n):Nat):Int)
  by_cases hv:v < 0
  · simp only [if_pos hv]; omega
  · simp only [if_neg hv]; omega
theorem xu (lo hi:Option Int) (n:Nat):Builtin.Slice.sliceAdjust lo hi 1 (n:Int)=(((sIx n 0 lo:Nat):Int),((sIx n n hi:Nat):Int)):=by
  have h1:¬ ((1:Int) < 0):=by omega
  unfold Builtin.Slice.sliceAdjust
  simp only [h1,if_false]
  refine Prod.ext ?_ ?_
  · cases lo with
    | none=>rfl
    | some v=>exact yw v n 0
  · cases hi with
    | none=>rfl
    | some v=>exact yw v n n
theorem v9 (i j:Nat):Builtin.Slice.slicePlaces (i:Int) (j:Int) 1=j - i:=by
  unfold Builtin.Slice.slicePlaces
  have h1:(1:Int) > 0:=by omega
  simp only [h1,if_true,Int.ediv_one]
  split <;> omega
theorem pJ {v:Value} {o:Option Int} {Q:Option Int→Shared→Prop} (p:IsPart v o) (h:Q o s):wpAny (model prog w) A (Builtin.Slice.slicePartIndex v) Q E s:=by
  cases p with
  | none=>exact slicePart_none h
  | int i t=>exact slicePart_int h
theorem ju {sl:Addr} {vl vu:Value} {lo hi:Option Int} {n:Nat} {Q:Int × Int × Nat→Shared→Prop} (hs:s.heap.IsSliceOf sl vl vu .none) (pl:IsPart vl lo) (pu:IsPart vu hi)
    (h:Q (((sIx n 0 lo:Nat):Int),1,sIx n n hi - sIx n 0 lo) s):wpAny (model prog w) A (Builtin.Slice.sliceApplied (.ref sl) (pure (n:Int))) Q E s:=by
  obtain ⟨os,hos,hcs,hds⟩:=id hs
  unfold Builtin.Slice.sliceApplied Builtin.Slice.sliceFields
  refine wpAny_bind (wpAny_bind (wpAny_field hos hds (x:=vl) rfl (wpAny_bind (wpAny_field hos hds (x:=vu) rfl (wpAny_bind (wpAny_field hos hds (x:=.none) rfl (wpAny_pure ?_)))))))
  refine wpAny_bind (slicePart_none ?_)
  show wpAny _ _ (if ((1:Int) == 0)=true then _ else _) _ _ s
  rw [if_neg (by decide)]
  refine wpAny_bind (pJ pl (wpAny_bind (pJ pu (wpAny_bind (wpAny_pure ?_)))))
  show wpAny _ _ (match Builtin.Slice.sliceAdjust lo hi 1 (n:Int) with | (lo,hi)=>pure (lo,(1:Int),Builtin.Slice.slicePlaces lo hi 1)) _ _ s
  rw [xu lo hi n]
  show wpAny _ _ (pure (((sIx n 0 lo:Nat):Int),(1:Int),Builtin.Slice.slicePlaces ((sIx n 0 lo:Nat):Int) ((sIx n n hi:Nat):Int) 1)) _ _ s
  rw [v9]
  exact wpAny_pure h
theorem zY (xs:Array Value) (i k:Nat):((List.range k).filterMap fun (m:Nat)=>xs[((i:Int) + (m:Int) * 1).toNat]?).toArray=((xs.toList.drop i).take k).toArray:=by
  have e:(fun (m:Nat)=>xs[((i:Int) + (m:Int) * 1).toNat]?)=fun m=>xs[i + m]?:=by
    funext m
    have:((i:Int) + (m:Int) * 1).toNat=i + m:=by omega
    rw [this]
  rw [e]
  have:=pick_run xs i k
  rw [List.filterMap_map] at this
  have e2:((fun x=>xs[x]?) ∘ fun x=>i + x)=fun m=>xs[i + m]?:=rfl
  rw [e2] at this
  rw [this]
theorem nE {t sl:Addr} {items:Array Value} {vl vu:Value} {lo hi:Option Int} {Q:Value→Shared→Prop} (ht:IsTup s.heap t items) (hs:s.heap.IsSliceOf sl vl vu .none) (pl:IsPart vl lo) (pu:IsPart vu hi)
    (hw:¬ (sIx items.size 0 lo=0∧sIx items.size items.size hi=items.size))
    (h:Q (.ref s.heap.objs.size) { s with heap:=s.heap.push { cls:=.type "tuple",data:=.seq ((items.toList.drop (sIx items.size 0 lo)).take (sIx items.size items.size hi - sIx items.size 0 lo)).toArray } })
    (hsz:items.size≤sizeLine):wpAny (model prog w) A (getItem (.ref t) (.ref sl)) Q E s:=by
  have htake:sizeOk (.seq ((items.toList.drop (sIx items.size 0 lo)).take (sIx items.size items.size hi - sIx items.size 0 lo)).toArray):=by
    show ((items.toList.drop (sIx items.size 0 lo)).take (sIx items.size items.size hi - sIx items.size 0 lo)).toArray.size≤sizeLine
    rw [List.size_toArray,List.length_take,List.length_drop,Array.length_toList]
    omega
  have hj:sIx items.size items.size hi≤items.size:=DT _ _ (Nat.le_refl _) hi
  obtain ⟨os,hos,hcs,hds⟩:=id hs
  have hTs:s.TypeIs (.ref sl) "slice":=⟨os,hos,hcs⟩
  unfold getItem
  try with_reducible refine wpAny_holding ?_
  first | refine wpAny_bind (wpAny_pure ?_) | skip
  refine wpAny_bind (wpAny_sequenceKey ht.typeIs (by decide) ?_)
  refine wpAny_bind (wpAny_callSpecial?_slot (name:=Str.ofString "__getitem__") ht.typeIs PyProof.Rows.slot_tuple_getitem
    (wpAny_call_entry PyProof.Rows.slot_tuple_getitem ht.typeIs entry_tuple_getitem ?_ (args_tuple_getitem _ _)))
  show wpAny _ _ (Builtin.Tuple.tupleItemsOf (.ref t) >>= _) _ _ s
  refine wpAny_bind (tupleItemsOf_ ht ?_)
  refine wpAny_bind (wpAny_typeOf hTs ?_)
  rw [if_pos (by decide)]
  refine wpAny_bind (ju hs pl pu ?_)
  have hno:¬ ((((sIx items.size 0 lo:Nat):Int) == 0 && (1:Int) == 1 && (sIx items.size items.size hi - sIx items.size 0 lo) == items.size)=true):=by
    intro q
    rw [Bool.and_eq_true,Bool.and_eq_true] at q
    have q1:((sIx items.size 0 lo:Nat):Int)=0:=eq_of_beq q.1.1
    have q2:sIx items.size items.size hi - sIx items.size 0 lo=items.size:=eq_of_beq q.2
    exact hw ⟨by omega,by omega⟩
  show wpAny _ _ (if (((sIx items.size 0 lo:Nat):Int) == 0 && (1:Int) == 1 && (sIx items.size items.size hi - sIx items.size 0 lo) == items.size)=true then _ else _) _ _ s
  rw [if_neg hno,zY]
  first
    | exact wpAny_bind (m:=Builtin.Tuple.tupleExact _) (wpAny_newObj_type (wpAny_pure ⟨_,rfl,wpAny_pure h⟩) htake)
    | exact wpAny_bind (m:=Builtin.Tuple.tupleExact _) (wpAny_newObj_type (wpAny_bind (wpAny_pure (wpAny_pure ⟨_,rfl,wpAny_pure h⟩))) htake)
    | exact wpAny_bind (wpAny_bind (m:=Builtin.Tuple.tupleExact _) (wpAny_newObj_type (wpAny_pure (wpAny_pure ⟨_,rfl,wpAny_pure h⟩)) htake))
    | exact wpAny_bind (wpAny_bind (m:=Builtin.Tuple.tupleExact _) (wpAny_newObj_type (wpAny_pure ⟨_,rfl,wpAny_pure h⟩) htake))
end
end HT
namespace L2
open PySem PySem.Spec PyProof.Rows
noncomputable abbrev TO:=St→Hp→(Option Int→Hp→Prop)→Prop
noncomputable def PO (X:Cx) (e:Option Expr) (t:TO):Prop :=
  ∀ (pins:List (Addr × Obj)) (s:Shared) (σ:St) (H:Hp) (Q:Option Int→Hp→Prop),Inv X pins σ H s→t σ H Q →
    wpAny (model X.prog X.w) X.A (evalPart e X.env) (fun u s'=>∃ o H',Inv X pins σ H' s'∧IsPart u o∧Q o H') X.xe s
noncomputable def By:TO:=fun _ H Q=>Q none H
noncomputable def E4 (t:TE):TO:=fun σ H Q=>t σ H fun x H1=>∃ i,x=.int i∧Q (some i) H1
theorem intsAre_of {ns:List Int}:∀ {us:List Value},Vals (ns.map V.int) us→IntsAre us ns:=by
  induction ns with
  | nil=>intro us r; rw [List.map_nil] at r; cases r; exact .nil
  | cons n ns ih =>
    intro us r
    rw [List.map_cons] at r
    cases r with
    | cons r1 r2 =>
      obtain ⟨t,e⟩:=r1
      subst e
      exact .cons n t (ih r2)
section
variable {X:Cx} {e:Expr} {te:TE} {lo hi:Option Expr} {tl th:TO} {pos p2:Pos}
theorem Cd:PO X none By:=by
  intro pins s σ H Q I h
  rw [evalPart_none]
  exact wpAny_pure ⟨none,H,I,.none,h⟩
theorem Cy (h:PE X e te):PO X (some e) (E4 te):=by
  intro pins s σ H Q I hw
  rw [evalPart_some]
  refine thn (h pins s σ H _ I hw) fun u s1 rz2=>?_
  obtain ⟨x,H1,I1,r1,q1⟩:=rz2
  obtain ⟨i,rfl,q⟩:=q1
  obtain ⟨t,rfl⟩:=r1
  exact ⟨some i,H1,I1,.int i t,q⟩
noncomputable def SlR (X:Cx) (r:V→Option Int→Option Int→Hp→VK→Prop):Prop :=
  ∀ (pins:List (Addr × Obj)) (s:Shared) (σ:St) (H:Hp) (x:V) (v vl vu:Value) (lo hi:Option Int) (sl:Addr) (Q:VK),Inv X pins σ H s→RelV x v→s.heap.IsSliceOf sl vl vu .none→IsPart vl lo→IsPart vu hi→r x lo hi H Q →
    ∃ T id,typeLookup (.type T) "__getitem__"=pure (some (.builtin id))∧s.TypeIs v T∧wpAny (model X.prog X.w) X.A (getItem v (.ref sl)) (EP X pins σ Q) X.xe s
theorem SlR.or {r r':V→Option Int→Option Int→Hp→VK→Prop} (h:SlR X r) (h':SlR X r'):SlR X (fun x lo hi H Q=>r x lo hi H Q∨r' x lo hi H Q):=by
  intro pins s σ H x v vl vu lo hi sl Q I rx hs pl pu q
  rcases q with q | q
  · exact h pins s σ H x v vl vu lo hi sl Q I rx hs pl pu q
  · exact h' pins s σ H x v vl vu lo hi sl Q I rx hs pl pu q
noncomputable def tSl (r:V→Option Int→Option Int→Hp→VK→Prop) (te:TE) (tl th:TO):TE:=fun σ H Q=>te σ H fun x H1=>tl σ H1 fun l H2=>th σ H2 fun u H3=>r x l u H3 Q
theorem zT {r:V→Option Int→Option Int→Hp→VK→Prop} (hr:SlR X r) (he:PE X e te) (hl:PO X lo tl) (hu:PO X hi th):PE X (.Subscript e (.Slice lo hi none p2) pos) (tSl r te tl th):=by
  intro pins s σ H Q I h
  refine Subscript_ (thn (he pins s σ H _ I h) fun v s1 rz2=>?_)
  obtain ⟨x,H1,I1,r1,q1⟩:=rz2
  refine wpAny_Slice (thn (hl pins s1 σ H1 _ I1 q1) fun vl s2 rz2=>?_)
  obtain ⟨l,H2,I2,pl,q2⟩:=rz2
  refine thn (hu pins s2 σ H2 _ I2 q2) fun vu s3 rz2=>?_
  obtain ⟨u,H3,I3,pu,q3⟩:=rz2
  rw [evalPart_none]
  refine wpAny_pure ?_
  have I4:Inv X pins σ H3 { s3 with heap:=s3.heap.push { cls:=.type "slice",data:=.fields #[vl,vu,.none] } }:=I3.kept (t':=s3.toks) fun b ob q=>Heap.get?_push_of_some _ q
  obtain ⟨T,id,hT,ht,hg⟩:=hr pins { s3 with heap:=s3.heap.push { cls:=.type "slice",data:=.fields #[vl,vu,.none] } } σ H3 x v vl vu l u s3.heap.objs.size Q I4 r1 (Heap.IsSliceOf.new ..) pl pu q3
  show wpAny (model X.prog X.w) X.A (subscriptTail e (.Slice lo hi none p2) v (.ref s3.heap.objs.size)) (EP X pins σ Q) X.xe { s3 with heap:=s3.heap.push { cls:=.type "slice",data:=.fields #[vl,vu,.none] } }
  exact tail_any (ops:=[.ref s3.heap.objs.size,v]) ht hT hg (by with_unfolding_all rfl)
noncomputable def vE (xs:List V) (lo hi:Option Int):List V:=(xs.drop (HT.sIx xs.length 0 lo)).take (HT.sIx xs.length xs.length hi - HT.sIx xs.length 0 lo)
theorem o1 (xs:List V) (lo hi:Option Int):(vE xs lo hi).length≤xs.length:=by
  unfold vE
  rw [List.length_take,List.length_drop]
  omega
noncomputable def FH (K:PySem.W.Frag):V→Option Int→Option Int→Hp→VK→Prop:=fun x lo hi H Q=>∃ a xs,x=.ref a∧SqT K H a xs ∧
  ¬ (HT.sIx xs.length 0 lo=0∧HT.sIx xs.length xs.length hi=xs.length)∧∀ p,H p=none→Q (.ref p) (upd H p (.tup (vE xs lo hi)))
theorem DK:SlR X (FH X.K):=by
  intro pins s σ H x v vl vu lo hi sl Q I rx hs pl pu h
  obtain ⟨a,xs,rfl,hx,hw,q⟩:=h
  cases rx
  obtain ⟨its,r,ht,hz⟩:=I.tuple hx
  have hlen:its.toArray.size=xs.length:=by rw [List.size_toArray]; exact r.length.symm
  refine ⟨"tuple",_,PyProof.Rows.slot_tuple_getitem.lookup,ht.typeIs,?_⟩
  refine HT.nE ht hs pl pu (by rw [hlen]; exact hw) ?_ (by rw [hlen]; exact hz)
  rw [hlen]
  refine ⟨.ref s.heap.objs.size,_,I.laid (t':=s.toks) (o:=.tup (vE xs lo hi)) (fun b ob q=>Heap.get?_push_of_some _ q) (Nat.le_refl _) ?_,rfl,q _ (I.hok.fresh (Nat.le_refl _))⟩
  exact ⟨Nat.le_trans (o1 xs lo hi) hz,_,(r.drop (HT.sIx xs.length 0 lo)).take (HT.sIx xs.length xs.length hi - HT.sIx xs.length 0 lo),sR.new _ _⟩
noncomputable def Fd (K:PySem.W.Frag):R2:=fun x y H Q=>∃ a b xs ys,x=.ref a∧y=.ref b∧SqT K H a xs∧SqT K H b ys∧xs≠[]∧xs.length + ys.length≤sizeLine ∧
  (ys=[]→Q (.ref a) H)∧(ys≠[]→∀ p,H p=none→Q (.ref p) (upd H p (.tup (xs++ys))))
theorem Vals.nil_iff {xs:List V} {us:List Value} (r:Vals xs us):us=[]↔xs=[]:=by
  cases r with
  | nil=>simp
  | cons _ _=>simp
theorem Br:OpR X (binaryOp .Add) (Fd X.K):=by
  intro pins s σ H x y v u Q I rx ry h
  obtain ⟨a,b,xs,ys,rfl,rfl,ha,hb,hx,hz,q1,q2⟩:=h
  cases rx
  cases ry
  obtain ⟨its,r1,p1,_⟩:=I.tuple ha
  obtain ⟨its2,r2,p2,_⟩:=I.tuple hb
  refine HT.Bv p1 p2 (fun z=>hx (r1.nil_iff.mp z)) (fun z=>⟨.ref a,H,I,rfl,q1 (r2.nil_iff.mp z)⟩) (fun z=>?_) (by rw [← r1.length,← r2.length]; exact hz)
  refine ⟨.ref s.heap.objs.size,_,I.laid (t':=s.toks) (o:=.tup (xs++ys)) (fun b ob q=>Heap.get?_push_of_some _ q) (Nat.le_refl _) ?_,rfl,q2 (fun w=>z (r2.nil_iff.mpr w)) _ (I.hok.fresh (Nat.le_refl _))⟩
  exact ⟨by rw [List.length_append]; exact hz,_,r1.append r2,sR.new _ _⟩
end
end L2
namespace L2
open PySem PySem.Spec PyProof.Rows
noncomputable def ixN (n:Nat) (i:Int):Option Nat:=if 0≤i then (if i < n then some i.toNat else none) else if -(n:Int)≤i then some (i + n).toNat else none
noncomputable def atI {α:Type} (xs:List α) (i:Int):Option α:=(ixN xs.length i).bind fun j=>xs[j]?
theorem tj {n:Nat} {i:Int} {j:Nat} (h:ixN n i=some j):seqIndex? i n=some j∧j < n∧-(n:Int)≤i∧i < n:=by
  unfold ixN at h
  by_cases h0:0≤i
  · rw [if_pos h0] at h
    by_cases h1:i < n
    · rw [if_pos h1] at h
      have e:i.toNat=j:=Option.some.inj h
      exact ⟨by rw [seqIndex_of h0 h1,e],by omega,by omega,h1⟩
    · rw [if_neg h1] at h; cases h
  · rw [if_neg h0] at h
    by_cases h1:-(n:Int)≤i
    · rw [if_pos h1] at h
      have e:(i + n).toNat=j:=Option.some.inj h
      exact ⟨by rw [seqIndex_neg (by omega) h1,e],by omega,h1,by omega⟩
    · rw [if_neg h1] at h; cases h
theorem yf {α:Type} {xs:List α} {i:Int} {v:α} (h:atI xs i=some v):∃ j,seqIndex? i xs.length=some j∧xs[j]?=some v∧j < xs.length∧-(xs.length:Int)≤i∧i < xs.length:=by
  unfold atI at h
  cases e:ixN xs.length i with
  | none=>rw [e] at h; cases h
  | some j =>
    rw [e] at h
    obtain ⟨h1,h2,h3,h4⟩:=tj e
    exact ⟨j,h1,h,h2,h3,h4⟩
theorem Bo {α:Type} {xs:List α} {j:Nat} {v:α} (h:xs[j]?=some v):atI xs (j:Int)=some v:=by
  have hj:j < xs.length:=(List.getElem?_eq_some_iff.mp h).1
  have e:ixN xs.length (j:Int)=some j:=by
    unfold ixN
    rw [if_pos (by omega),if_pos (by omega)]; simp
  unfold atI; rw [e]; exact h
noncomputable def yc (b:Expr):Prop:=∀ o i,subscripted b false o i=operate [o,i] (getItem o i)
noncomputable def IxR (X:Cx) (r:R2):Prop :=
  ∀ (value slice:Expr) (pins:List (Addr × Obj)) (s:Shared) (σ:St) (H:Hp) (x y:V) (v u:Value) (Q:VK),Inv X pins σ H s→RelV x v→RelV y u→r x y H Q →
    subscripted slice false v u=operate [v,u] (getItem v u)→wpAny (model X.prog X.w) X.A (subscriptTail value slice v u) (EP X pins σ Q) X.xe s
noncomputable def MtR (X:Cx) (id:String) (r:V→List V→Hp→VK→Prop):Prop :=
  ∀ (pins:List (Addr × Obj)) (s:Shared) (σ:St) (H:Hp) (x:V) (xs:List V) (v:Value) (us:List Value) (Q:VK),Inv X pins σ H s→RelV x v→Vals xs us→r x xs H Q →
    wpAny (model X.prog X.w) X.A (call (.builtin id) (v::us)) (EP X pins σ Q) X.xe s
section
variable {X:Cx} {a b:Expr} {ta tb:TE} {pos:Pos}
theorem IxR.or {r r':R2} (h:IxR X r) (h':IxR X r'):IxR X (fun x y H Q=>r x y H Q∨r' x y H Q):=by
  intro value slice pins s σ H x y v u Q I rx ry q hs
  rcases q with q | q
  · exact h value slice pins s σ H x y v u Q I rx ry q hs
  · exact h' value slice pins s σ H x y v u Q I rx ry q hs
theorem An {r:R2} (hr:IxR X r) (ha:PE X a ta) (hb:PE X b tb) (hs:yc b):PE X (.Subscript a b pos) (tOp r ta tb):=by
  intro pins s σ H Q I h
  exact Subscript_ (Ee ha hb I h fun v u s2 x y H2 I2 rx ry q=>hr a b pins s2 σ H2 x y v u Q I2 rx ry q (hs _ _))
noncomputable def Fb (K:PySem.W.Frag):R2:=fun x y H Q=>∃ p xs i v,x=.ref p∧y=.int i∧SqL K H p xs∧atI xs i=some v∧Q v H
noncomputable def ED (K:PySem.W.Frag):R2:=fun x y H Q=>∃ p xs i v,x=.ref p∧y=.int i∧SqT K H p xs∧atI xs i=some v∧Q v H
theorem tG:IxR X (Fb X.K):=by
  intro value slice pins s σ H x y v u Q I rx ry h hs
  obtain ⟨p,xs,i,z,rfl,rfl,hq,he,q⟩:=h
  cases rx
  obtain ⟨t,rfl⟩:=ry
  obtain ⟨its,r,pl,hz⟩:=I.list hq
  obtain ⟨j,h1,h2,h3,h4,h5⟩:=yf he
  obtain ⟨w,ew,rw'⟩:=r.get h2
  have hl:=r.length
  have hn:=tX
  have fin:EP X pins σ Q w s:=⟨z,H,I,rw',q⟩
  by_cases h0:0≤i
  · have hj:i.toNat=j:=by
      rw [seqIndex_of h0 h5] at h1
      exact Option.some.inj h1
    exact item_listR pl.isList h0 (by omega) (by rw [hj]; simpa using ew) fin hs
  · have hj:(i + (its.toArray.size:Int)).toNat=j:=by
      rw [seqIndex_neg (by omega) h4] at h1
      rw [List.size_toArray,← hl]
      exact Option.some.inj h1
    exact subscriptTail_builtinR (x:=w) pl.isList.typeIs slot_list_getitem.lookup
      (wpAny_getItem_list_neg (Q:=fun r s'=>r=w∧EP X pins σ Q r s') pl.isList (by omega) (by rw [List.size_toArray] <;> omega) (by omega) (by rw [hj]; simpa using ew) ⟨rfl,fin⟩) hs
theorem D1:IxR X (ED X.K):=by
  intro value slice pins s σ H x y v u Q I rx ry h hs
  obtain ⟨p,xs,i,z,rfl,rfl,hq,he,q⟩:=h
  cases rx
  obtain ⟨t,rfl⟩:=ry
  obtain ⟨its,r,pl,hz⟩:=I.tuple hq
  obtain ⟨j,h1,h2,h3,h4,h5⟩:=yf he
  obtain ⟨w,ew,rw'⟩:=r.get h2
  have hl:=r.length
  have hn:=tX
  have fin:EP X pins σ Q w s:=⟨z,H,I,rw',q⟩
  exact subscriptTail_builtinR (x:=w) pl.typeIs slot_tuple_getitem.lookup
    (getItem_tuple (j:=j) (Q:=fun r s'=>r=w∧EP X pins σ Q r s') pl (by omega) (by omega) (by rw [List.size_toArray,← hl]; exact h1) (by simpa using ew) ⟨rfl,fin⟩) hs
theorem xj (its:List Value) (n j:Nat) (u:Value):Obj.mapSeq (·.setIfInBounds j u) { cls:=.type "list",data:=.seq its.toArray n }={ cls:=.type "list",data:=.seq (its.set j u).toArray n }:=by
  simp [Obj.mapSeq]
theorem Inv.lst {pins:List (Addr × Obj)} {σ:St} {H:Hp} {s:Shared} {p:Addr} {xs:List V} (I:Inv X pins σ H s) (h:H p=some (.lst xs)) :
    ∃ (its:List Value) (n:Nat),Vals xs its∧s.heap.get? p=some { cls:=.type "list",data:=.seq its.toArray n }∧xs.length≤sizeLine:=by
  obtain ⟨z,its,n,r,e⟩:=I.hok p _ h
  exact ⟨its,n,r,e,z⟩
theorem Inv.lstUpd {pins:List (Addr × Obj)} {σ:St} {H:Hp} {s:Shared} {p:Addr} {xs ys:List V} {its its':List Value} {n n':Nat} {f:Obj→Obj} (I:Inv X pins σ H s) (h:H p=some (.lst xs))
    (ho:s.heap.get? p=some { cls:=.type "list",data:=.seq its.toArray n }) (hf:f { cls:=.type "list",data:=.seq its.toArray n }={ cls:=.type "list",data:=.seq its'.toArray n' }) (r:Vals ys its') (hz:ys.length≤sizeLine) (t:Nat) :
    Inv X pins σ (upd H p (.lst ys)) { s with heap:=s.heap.update p f,toks:=t }:=by
  have e:(s.heap.update p f).get? p=some { cls:=.type "list",data:=.seq its'.toArray n' }:=by
    rw [Heap.get?_update_self f ho (by rw [hf] <;> rfl),hf]
  refine I.write (x:=p) (e:=p) (by rw [h]; trivial) (.inl rfl) (fun b u hb q=>(Heap.get?_update_other _ _ (Ne.symm hb)).trans q) ⟨_,e⟩ ?_
  exact ⟨hz,its',n',r,e⟩
noncomputable def EJ:V→V→V→Hp→(Hp→Prop)→Prop:=fun o i v H Q=>∃ p xs k j,o=.ref p∧i=.int k∧H p=some (.lst xs)∧ixN xs.length k=some j∧Q (upd H p (.lst (xs.set j v)))
theorem set_list:ER X EJ:=by
  intro pins s σ H o i v ov iv u Q I ro ri rv h
  obtain ⟨p,xs,k,j,rfl,rfl,hp,hj,q⟩:=h
  cases ro
  obtain ⟨t,rfl⟩:=ri
  obtain ⟨its,n,r,ho,hz⟩:=I.lst hp
  obtain ⟨h1,h2,h3,h4⟩:=tj hj
  have hl:=r.length
  have hn:=tX
  have I':Inv X pins σ (upd H p (.lst (xs.set j v))) { s with heap:=s.heap.update p (Obj.mapSeq (·.setIfInBounds j u)) } :=
    I.lstUpd hp ho (xj its n j u) (r.set rv j) (by rw [List.length_set]; exact hz) s.toks
  by_cases h0:0≤k
  · have hk:k.toNat=j:=by
      rw [seqIndex_of h0 h4] at h1
      exact Option.some.inj h1
    exact PySem.W.ki_setAt ho h0 (by omega) (by rw [List.size_toArray,← hl]; exact h4) (by rw [hk]; exact ⟨_,I',q⟩)
  · have hk:(k + (its.toArray.size:Int)).toNat=j:=by
      rw [seqIndex_neg (by omega) h3] at h1
      rw [List.size_toArray,← hl]
      exact Option.some.inj h1
    exact PySem.W.ki_setBack ho (by omega) (by rw [List.size_toArray,← hl]; exact h3) (by omega) (by rw [hk]; exact ⟨_,I',q⟩)
theorem uf (lo hi:Option Int) (n:Nat):(sliceBounds lo hi none n).1=((HT.sIx n 0 lo:Nat):Int)∧(sliceBounds lo hi none n).2.1=((HT.sIx n n hi:Nat):Int)∧(sliceBounds lo hi none n).2.2=1:=by
  refine ⟨?_,?_,rfl⟩
  · cases lo with
    | none=>simp [sliceBounds,HT.sIx]
    | some i =>
      simp only [sliceBounds,HT.sIx,Option.getD_none,show (1:Int) > 0 by decide,if_true]
      by_cases h:i < 0
      · simp only [h,if_true] <;> omega
      · simp only [h,if_false] <;> omega
  · cases hi with
    | none=>simp [sliceBounds,HT.sIx]
    | some i =>
      simp only [sliceBounds,HT.sIx,Option.getD_none,show (1:Int) > 0 by decide,if_true]
      by_cases h:i < 0
      · simp only [h,if_true] <;> omega
      · simp only [h,if_false] <;> omega
theorem qW (its:List Value) (lo hi:Option Int):slicePick its.toArray lo hi none=((its.drop (HT.sIx its.length 0 lo)).take (HT.sIx its.length its.length hi - HT.sIx its.length 0 lo)).toArray:=by
  obtain ⟨h1,h2,h3⟩:=uf lo hi its.toArray.size
  unfold slicePick
  rw [h1,h2,h3]
  simp only [sliceRange_one,pick_run,List.size_toArray] <;> rfl
noncomputable def FR (K:PySem.W.Frag):V→Option Int→Option Int→Hp→VK→Prop:=fun x lo hi H Q=>∃ a xs,x=.ref a∧SqL K H a xs∧∀ p,H p=none→Q (.ref p) (upd H p (.lst (vE xs lo hi)))
theorem Ci:SlR X (FR X.K):=by
  intro pins s σ H x v vl vu lo hi sl Q I rx hs pl pu h
  obtain ⟨a,xs,rfl,hx,q⟩:=h
  cases rx
  obtain ⟨its,r,ht,hz⟩:=I.list hx
  have hlen:=r.length
  refine ⟨"list",_,slot_list_getitem.lookup,ht.isList.typeIs,?_⟩
  refine wpAny_getItem_list_slice ht.isList hs pl pu .none (by simp) ?_ (by rw [List.size_toArray] <;> omega)
  rw [qW,← hlen]
  refine ⟨.ref s.heap.objs.size,_,I.laid (t':=s.toks) (o:=.lst (vE xs lo hi)) (fun b ob q=>Heap.get?_push_of_some _ q) (Nat.le_refl _) ?_,rfl,q _ (I.hok.fresh (Nat.le_refl _))⟩
  exact ⟨Nat.le_trans (o1 xs lo hi) hz,_,0,(r.drop (HT.sIx xs.length 0 lo)).take (HT.sIx xs.length xs.length hi - HT.sIx xs.length 0 lo),Heap.get?_push_size _ rfl⟩
noncomputable def kz:V→Bool
  | .non=>true
  | .bl _=>true
  | .int _=>true
  | .str _=>true
  | _=>false
noncomputable def eqV:V→V→Bool
  | .non,.non=>true
  | .bl a,.bl b=>a == b
  | .bl a,.int b=>(if a then 1 else 0) == b
  | .int a,.bl b=>a == (if b then 1 else 0)
  | .int a,.int b=>a == b
  | .str a,.str b=>a == b
  | _,_=>false
theorem DQ {A:Around} {s:Shared} {y x:V} {u v:Value} (ry:RelV y u) (rx:RelV x v) (fy:kz y=true) (fx:kz x=true):SeqAt.EqAt A s u v (eqV y x):=by
  cases y with
  | non =>
    cases ry
    cases x with
    | non=>cases rx; exact SeqAt.EqAt.same _
    | bl b=>cases rx; exact SeqAt.EqAt.none_bool b
    | int b=>obtain ⟨t,rfl⟩:=rx; exact SeqAt.EqAt.none_int b t
    | str b=>obtain ⟨t,rfl⟩:=rx; exact SeqAt.EqAt.none_str b t
    | _=>exact absurd (show false=true from fx) Bool.false_ne_true
  | bl a =>
    cases ry
    cases x with
    | non=>cases rx; exact SeqAt.EqAt.bool_none a
    | bl b=>cases rx; exact SeqAt.EqAt.bool_bool a b
    | int b=>obtain ⟨t,rfl⟩:=rx; exact SeqAt.EqAt.bool_int a b t
    | str b=>obtain ⟨t,rfl⟩:=rx; exact SeqAt.EqAt.bool_str a b t
    | _=>exact absurd (show false=true from fx) Bool.false_ne_true
  | int a =>
    obtain ⟨t',rfl⟩:=ry
    cases x with
    | non=>cases rx; exact SeqAt.EqAt.int_none a t'
    | bl b=>cases rx; exact SeqAt.EqAt.int_bool a t' b
    | int b=>obtain ⟨t,rfl⟩:=rx; exact SeqAt.EqAt.int_int a t' b t
    | str b=>obtain ⟨t,rfl⟩:=rx; exact SeqAt.EqAt.int_str a t' b t
    | _=>exact absurd (show false=true from fx) Bool.false_ne_true
  | str a =>
    obtain ⟨t',rfl⟩:=ry
    cases x with
    | non=>cases rx; exact SeqAt.EqAt.str_none a t'
    | bl b=>cases rx; exact SeqAt.EqAt.str_bool a t' b
    | int b=>obtain ⟨t,rfl⟩:=rx; exact SeqAt.EqAt.str_int a t' b t
    | str b=>obtain ⟨t,rfl⟩:=rx; exact SeqAt.EqAt.str_str a t' b t
    | _=>exact absurd (show false=true from fx) Bool.false_ne_true
  | _=>exact absurd (show false=true from fy) Bool.false_ne_true
noncomputable def eqU (x:V) (u:Value):Bool:=match u with
  | .none=>eqV .non x
  | .bool b=>eqV (.bl b) x
  | .int i _=>eqV (.int i) x
  | .str z _=>eqV (.str z) x
  | _=>false
theorem wx {x y:V} {u:Value} (r:RelV y u) (f:kz y=true):eqU x u=eqV y x:=by
  cases y with
  | non=>cases r; rfl
  | bl b=>cases r; rfl
  | int i=>obtain ⟨t,rfl⟩:=r; rfl
  | str z=>obtain ⟨t,rfl⟩:=r; rfl
  | _=>exact absurd (show false=true from f) Bool.false_ne_true
theorem nA {x:V}:∀ {xs:List V} {us:List Value},Vals xs us→xs.all kz=true→us.any (eqU x)=xs.any fun y=>eqV y x
  | _,_,.nil,_=>rfl
  | y::xs,u::us,.cons r t,f=>by
    rw [List.all_cons,Bool.and_eq_true] at f
    rw [List.any_cons,List.any_cons,wx r f.1,nA t f.2]
theorem jz {A:Around} {s:Shared} {x:V} {v:Value} (rx:RelV x v) (fx:kz x=true):∀ {xs:List V} {us:List Value},Vals xs us→xs.all kz=true→∀ u∈us,SeqAt.EqAt A s u v (eqU x u)
  | _,_,.nil,_=>fun u hu=>by cases hu
  | y::xs,u::us,.cons r t,f=>fun u' hu=>by
    rw [List.all_cons,Bool.and_eq_true] at f
    rcases List.mem_cons.mp hu with rfl | hu
    · rw [wx r f.1]; exact DQ r rx f.1 fx
    · exact jz rx fx t f.2 u' hu
noncomputable def inV (x:V) (xs:List V):Bool:=xs.any fun y=>eqV y x
noncomputable def rIn (K:PySem.W.Frag) (neg:Bool):R2:=fun x y H Q=>∃ p xs,y=.ref p∧(SqL K H p xs∨SqT K H p xs)∧kz x=true∧xs.all kz=true∧Q (.bl (if neg then !inV x xs else inV x xs)) H
theorem zt:OpR X (compareOp .In) (rIn X.K false):=by
  intro pins s σ H x y v u Q I rx ry h
  obtain ⟨p,xs,rfl,hq,fx,fs,q⟩:=h
  cases ry
  rcases hq with hq | hq
  · obtain ⟨its,r,pl,hz⟩:=I.list hq
    refine SeqAt.in_listAt (eqU x) pl.isList (fun w hw=>jz rx fx r fs w (by simpa using hw)) ⟨.bl _,H,I,rfl,?_⟩
    rw [show its.toArray.any (eqU x)=its.any (eqU x) by simp,nA r fs]
    exact q
  · obtain ⟨its,r,pl,hz⟩:=I.tuple hq
    refine SeqAt.in_tupleAt (eqU x) pl (fun w hw=>jz rx fx r fs w (by simpa using hw)) ⟨.bl _,H,I,rfl,?_⟩
    rw [show its.toArray.any (eqU x)=its.any (eqU x) by simp,nA r fs]
    exact q
theorem sE:OpR X (compareOp .NotIn) (rIn X.K true):=by
  intro pins s σ H x y v u Q I rx ry h
  obtain ⟨p,xs,rfl,hq,fx,fs,q⟩:=h
  cases ry
  rcases hq with hq | hq
  · obtain ⟨its,r,pl,hz⟩:=I.list hq
    refine SeqAt.notIn_listAt (eqU x) pl.isList (fun w hw=>jz rx fx r fs w (by simpa using hw)) ⟨.bl _,H,I,rfl,?_⟩
    rw [show its.toArray.any (eqU x)=its.any (eqU x) by simp,nA r fs]
    exact q
  · obtain ⟨its,r,pl,hz⟩:=I.tuple hq
    refine SeqAt.notIn_tupleAt (eqU x) pl (fun w hw=>jz rx fx r fs w (by simpa using hw)) ⟨.bl _,H,I,rfl,?_⟩
    rw [show its.toArray.any (eqU x)=its.any (eqU x) by simp,nA r fs]
    exact q
theorem kl:lR X (.builtin "len") (fun xs H Q=>∃ p ys,xs=[.ref p]∧(SqL X.K H p ys∨SqT X.K H p ys)∧Q (.int ys.length) H):=by
  intro pins s σ H xs us Q I r h
  obtain ⟨p,ys,rfl,hq,q⟩:=h
  obtain ⟨u,rfl,rx⟩:=vals1 r
  cases rx
  have hn:=tX
  rcases hq with hq | hq
  · obtain ⟨its,r',pl,hz⟩:=I.list hq
    have hlen:=r'.length
    exact Calls.call_len_list pl.isList (by simp only [List.size_toArray] <;> omega) ⟨.int ys.length,H,I.tok _,⟨s.toks + 1,by rw [List.size_toArray,hlen]⟩,q⟩
  · obtain ⟨its,r',pl,hz⟩:=I.tuple hq
    have hlen:=r'.length
    exact len_tuple pl (by simp only [List.size_toArray] <;> omega) ⟨.int ys.length,H,I.tok _,⟨s.toks + 1,by rw [List.size_toArray,hlen]⟩,q⟩
theorem rh:lR X (.type "tuple") (fun xs H Q=>∃ p ys,xs=[.ref p]∧((SqL X.K H p ys∧∀ l,H l=none→Q (.ref l) (upd H l (.tup ys)))∨(SqT X.K H p ys∧Q (.ref p) H))):=by
  intro pins s σ H xs us Q I r h
  obtain ⟨p,ys,rfl,h⟩:=h
  obtain ⟨u,rfl,rx⟩:=vals1 r
  cases rx
  rcases h with ⟨hq,q⟩ | ⟨hq,q⟩
  · obtain ⟨its,r',pl,hz⟩:=I.list hq
    have hlen:=r'.length
    refine call_tuple_list pl.isList (fun h' kp=>?_) (by simp only [List.size_toArray] <;> omega)
    have I1:Inv X pins σ H { s with heap:=h' }:=I.kept (t':=s.toks) kp
    have I2:Inv X pins σ (upd H h'.objs.size (.tup ys)) { s with heap:=h'.push { cls:=.type "tuple",data:=.seq its.toArray } } :=
      I1.laid (t':=s.toks) (fun b o e=>Heap.get?_push_of_some _ e) (Nat.le_refl _) (show gr X.prog X.w _ _ _ (.tup ys) from ⟨hz,its,r',sR.new _ _⟩)
    exact ⟨.ref h'.objs.size,_,I2,rfl,q _ (I1.hok.fresh (Nat.le_refl _))⟩
  · obtain ⟨its,r',pl,hz⟩:=I.tuple hq
    exact call_tuple_same pl ⟨.ref p,H,I,rfl,q⟩
noncomputable def tyV (K:PySem.W.Frag) (T:String) (x:V) (H:Hp):Prop:=match x with
  | .str _=>T="str"
  | .int _=>T="int"
  | .ref p=>(T="list"∧∃ xs,SqL K H p xs)∨(T="tuple"∧∃ o,K.lookup p=some o∧o.cls=.type "tuple"∧o.dict=none) ∨
      (T="dict"∧((∃ kvs,H p=some (.dK kvs))∨∃ kvs,H p=some (.dT kvs)))∨(T="set"∧∃ S n,H p=some (.set S n))
  | _=>False
theorem C7 {pins:List (Addr × Obj)} {σ:St} {H:Hp} {s:Shared} {T:String} {x:V} {v:Value} (I:Inv X pins σ H s) (r:RelV x v) (ty:tyV X.K T x H) :
    s.TypeIs v T∧∀ a,v=.ref a→∃ ob,s.heap.get? a=some ob∧ob.dict=none:=by
  cases x with
  | str z =>
    obtain ⟨t,rfl⟩:=r
    cases (show T="str" from ty)
    exact ⟨typeIs_str s z t,fun _ e=>nomatch e⟩
  | int i =>
    obtain ⟨t,rfl⟩:=r
    cases (show T="int" from ty)
    exact ⟨typeIs_int s i t,fun _ e=>nomatch e⟩
  | ref p =>
    cases r
    rcases ty with ⟨rfl,xs,hq⟩ | ⟨rfl,o,hk,hc,hd⟩ | ⟨rfl,hk⟩ | ⟨rfl,S,n,hk⟩
    · obtain ⟨its,_,pl,_⟩:=I.list hq
      refine ⟨pl.isList.typeIs,fun a e=>?_⟩
      cases e
      obtain ⟨o,n,e,c,hd,_⟩:=pl
      exact ⟨o,e,hd⟩
    · refine ⟨⟨o,I.kIn p o hk,hc⟩,fun a e=>?_⟩
      cases e
      exact ⟨o,I.kIn _ o hk,hd⟩
    · have z:∃ o,s.heap.get? p=some o∧o.ExactDict:=by
        rcases hk with ⟨kvs,hk⟩ | ⟨kvs,hk⟩
        · obtain ⟨_,_,_,_,o,_,_,e,ex,_⟩:=I.hok p _ hk
          exact ⟨o,e,ex⟩
        · obtain ⟨_,_,_,_,o,_,_,e,ex,_⟩:=I.hok p _ hk
          exact ⟨o,e,ex⟩
      obtain ⟨o,e,ex⟩:=z
      refine ⟨⟨o,e,ex.1⟩,fun a e2=>?_⟩
      cases e2
      exact ⟨o,e,ex.2.1⟩
    · obtain ⟨o,_,_,_,e,ex,_⟩:=I.hok p _ hk
      refine ⟨⟨o,e,ex.1⟩,fun a e2=>?_⟩
      cases e2
      exact ⟨o,e,ex.2.1⟩
  | _=>exact False.elim ty
noncomputable def tBM (K:PySem.W.Frag) (T:String) (r:V→List V→Hp→VK→Prop) (to:TE) (t:TA):TE:=fun σ H Q=>to σ H fun x H1=>tyV K T x H1∧t σ H1 fun xs H2=>r x xs H2 Q
variable {o e:Expr} {es:List Expr} {to:TE} {t:TA} {name:Str} {apos cpos:Pos} {T id:String} {r:V→List V→Hp→VK→Prop}
theorem Ap (pa:PlainAttrs T) (slot:Slot T name id) (hty:typeOf (.builtin id)=pure (.type "method_descriptor")) (hm:MtR X id r) (ho:PE X o to) (ha:PA X (e::es) t)
    (hbase:attributeBase o name X.env (eval o X.env)=eval o X.env:=by rfl)
    (hfew:((backTo cpos (starEach (e::es) X.env)).all (fun x=>!x.1) && (backToKw cpos (keywordEach [] X.env)).all (fun x=>x.1.isSome)
      && decide ((e::es).length + ([]:List Keyword).length + (if ([]:List Keyword).isEmpty then 0 else 1) < 30))=true:=by rfl)
    (hline:(apos.endLine == cpos.line)=true:=by rfl) (hs:starEach (e::es) X.env=(false,eval e X.env)::starEach es X.env:=by rfl) (hplain:(backTo cpos (starEach es X.env)).any (·.1)=false:=by rfl) :
    PE X (.Call (.Attribute o name apos) (e::es) [] cpos) (tBM X.K T r to t):=by
  intro pins s σ H Q I h
  refine wpAny_Call_method_late hbase hfew hline rfl (thn (ho pins s σ H _ I h) fun v s1 rz2=>?_)
  obtain ⟨x,H1,I1,r1,ty,q1⟩:=rz2
  obtain ⟨h1,h2⟩:=C7 I1 r1 ty
  refine ⟨T,id,pa,slot,hty,h1,h2,?_⟩
  have hA:=ha cpos pins s1 σ H1 _ I1 q1
  rw [hs] at hA ⊢
  refine Calls.callWith_builtin (by show (false || (backTo cpos (starEach es X.env)).any (·.1))=false; rw [hplain] <;> rfl) (Calls.evalArgs_plain ?_)
  exact thn hA fun us s2 qz2=>(by obtain ⟨vs,H2,I2,r2,q2⟩:=qz2; exact hm pins s2 σ H2 x vs v us Q I2 r1 r2 q2)
end
end L2
namespace L2
open PySem PySem.Spec PyProof.Rows
noncomputable def MtM (X:Cx) (id:String) (r:V→List V→Hp→VK→Prop):Prop :=
  ∀ (pins:List (Addr × Obj)) (s:Shared) (σ:St) (H:Hp) (x:V) (xs:List V) (v:Value) (us:List Value) (Q:VK),Inv X pins σ H s→RelV x v→Vals xs us→r x xs H Q →
    wpAny (model X.prog X.w) X.A (call (.builtin id) (v::us)) (EP X pins σ Q) X.xe s
theorem Vals.one {x:V} {us:List Value} (h:Vals [x] us):∃ u,us=[u]∧RelV x u:=by
  cases h with
  | cons r t=>cases t; exact ⟨_,rfl,r⟩
theorem Vals.eraseIdx:∀ {xs:List V} {us:List Value} (i:Nat),Vals xs us→Vals (xs.eraseIdx i) (us.eraseIdx i)
  | _,_,_,.nil=>.nil
  | _,_,0,.cons _ t=>t
  | _,_,i + 1,.cons r t=>.cons r (Vals.eraseIdx i t)
theorem Vals.rep {xs:List V} {us:List Value} (h:Vals xs us):∀ k:Nat,Vals (List.replicate k xs).flatten (List.replicate k us).flatten
  | 0=>.nil
  | k + 1=>by
    rw [List.replicate_succ,List.replicate_succ,List.flatten_cons,List.flatten_cons]
    exact Vals.append h (Vals.rep h k)
theorem rT {α:Type}:∀ (l:List α) (i:Nat),(l.eraseIdx i).length≤l.length
  | [],_=>Nat.le_refl _
  | _::_,0=>Nat.le_succ _
  | _::r,i + 1=>Nat.succ_le_succ (rT r i)
theorem foldl_rep (its:List Value):∀ (k:Nat) (acc:List Value),
    List.foldl (fun x1 x2=>x1++x2) acc.toArray (List.replicate k its.toArray)=(acc++(List.replicate k its).flatten).toArray
  | 0,acc=>by simp
  | k + 1,acc=>by
    have e:acc.toArray++its.toArray=(acc++its).toArray:=by simp
    have e2:(acc++its)++(List.replicate k its).flatten=acc++(List.replicate (k + 1) its).flatten:=by
      rw [List.replicate_succ,List.flatten_cons,List.append_assoc]
    rw [← e2,← foldl_rep its k (acc++its),← e,List.replicate_succ,List.foldl_cons]
section
variable {X:Cx} {pins:List (Addr × Obj)} {σ:St} {H:Hp} {s:Shared} {l b:Addr} {xs ys zs:List V}
theorem Inv.lset {its its':List Value} {n:Nat} {f:Array Value→Array Value} {t':Nat} (I:Inv X pins σ H s) (hH:H l=some (.lst xs))
    (e:s.heap.get? l=some { cls:=.type "list",data:=.seq its.toArray n }) (hf:f its.toArray=its'.toArray) (hv:Vals ys its') (hz:ys.length≤sizeLine) :
    Inv X pins σ (upd H l (.lst ys)) { s with heap:=s.heap.update l (Obj.mapSeq f),toks:=t' }:=by
  have q:=PySem.IsL.update e f
  rw [hf] at q
  refine I.write (x:=l) (e:=l) (by rw [hH]; exact trivial) (.inl rfl) (fun b' u hb hu=>(Heap.get?_update_other s.heap (Obj.mapSeq f) (Ne.symm hb)).trans hu) ⟨_,q⟩ ?_
  exact ⟨hz,its',_,hv,q⟩
theorem Inv.lnew {its:List Value} {t':Nat} (I:Inv X pins σ H s) (hv:Vals ys its) (hz:ys.length≤sizeLine) :
    Inv X pins σ (upd H s.heap.objs.size (.lst ys)) { s with heap:=s.heap.push { cls:=.type "list",data:=.seq its.toArray },toks:=t' } :=
  I.laid (fun _ _ q=>Heap.get?_push_of_some _ q) (Nat.le_refl _) ⟨hz,its,0,hv,Heap.get?_push_size _ rfl⟩
theorem Inv.fresh (I:Inv X pins σ H s):H s.heap.objs.size=none:=I.hok.fresh (Nat.le_refl _)
theorem Inv.lstM (I:Inv X pins σ H s) (hH:H l=some (.lst xs)):xs.length≤sizeLine∧∃ (its:List Value) (n:Nat),Vals xs its∧xs.length=its.length∧s.heap.get? l=some { cls:=.type "list",data:=.seq its.toArray n }:=by
  obtain ⟨z,its,n,r,e⟩:=I.hok l _ hH
  exact ⟨z,its,n,r,r.length,e⟩
theorem AW {n:Nat} (h:n≤sizeLine):Builtin.List.listTooLong n=false:=by
  unfold Builtin.List.listTooLong
  exact decide_eq_false (by omega)
end
section
variable {X:Cx}
noncomputable def Cf:V→List V→Hp→VK→Prop:=fun x vs H Q=>∃ l xs y,x=.ref l∧vs=[y]∧H l=some (.lst xs)∧xs.length < sizeLine∧Q .non (upd H l (.lst (xs++[y])))
theorem oG:MtM X "list.append" Cf:=by
  intro pins s σ H x vs v us Q I rx rv h
  obtain ⟨l,xs,y,rfl,rfl,hH,hz,q⟩:=h
  cases rx
  obtain ⟨u,rfl,ru⟩:=rv.one
  obtain ⟨z,its,n,r,hl,e⟩:=I.lstM hH
  refine call_meets F.slot_list_append ⟨_,e,rfl⟩ F.entry_list_append (F.args_list_append_2 _ _) (PySem.list_append l its.toArray n u (by rw [List.size_toArray]; omega)) ⟨e,?_⟩
  refine ⟨.non,_,I.lset (its':=its++[u]) hH e (by simp) (r.append (.cons ru .nil)) ?_,rfl,q⟩
  rw [List.length_append,List.length_singleton]
  omega
noncomputable def DF:V→List V→Hp→VK→Prop:=fun x vs H Q=>∃ l xs i k y,x=.ref l∧vs=[.int i]∧H l=some (.lst xs)∧-(2 ^ 63)≤i∧i < 2 ^ 63∧seqIndex? i xs.length=some k∧xs[k]?=some y∧Q y (upd H l (.lst (xs.eraseIdx k)))
theorem AE:MtM X "list.pop" DF:=by
  intro pins s σ H x vs v us Q I rx rv h
  obtain ⟨l,xs,i,k,y,rfl,rfl,hH,h1,h2,hk,hy,q⟩:=h
  cases rx
  obtain ⟨u,rfl,ru⟩:=rv.one
  obtain ⟨t,rfl⟩:=ru
  obtain ⟨z,its,n,r,hl,e⟩:=I.lstM hH
  obtain ⟨w,hw,rw'⟩:=r.get hy
  refine call_meets F.slot_list_pop ⟨_,e,rfl⟩ F.entry_list_pop (F.args_list_pop_2 _ _)
    (MeetsSeq.list_pop_at l its.toArray n i t k w (fitsIndex_both h1 h2) (by rw [List.size_toArray,← hl]; exact hk) (by rw [← Array.getElem?_toList]; exact hw) (by rw [List.size_toArray]; omega)) ⟨e,?_⟩
  refine ⟨y,_,I.lset (its':=its.eraseIdx k) hH e ?_ (r.eraseIdx k) ?_,rw',q⟩
  · show its.toArray.eraseIdxIfInBounds k=(its.eraseIdx k).toArray
    rw [List.eraseIdxIfInBounds_toArray]
  · have:=rT xs k
    omega
noncomputable def Ff:R2:=fun x y H Q=>∃ l b xs zs,x=.ref l∧y=.ref b∧H l=some (.lst xs)∧H b=some (.lst zs)∧xs.length + zs.length≤sizeLine∧∀ p,H p=none→Q (.ref p) (upd H p (.lst (xs++zs)))
theorem C0:OpR X (binaryOp .Add) Ff:=by
  intro pins s σ H x y v u Q I rx ry h
  obtain ⟨l,b,xs,zs,rfl,rfl,hH,hB,hz,q⟩:=h
  cases rx
  cases ry
  obtain ⟨z,its,n,r,hl,e⟩:=I.lstM hH
  obtain ⟨z2,its2,n2,r2,hl2,e2⟩:=I.lstM hB
  refine PySem.P.add_list e e2 ?_ (by rw [List.size_toArray,List.size_toArray]; omega)
  have ea:its.toArray++its2.toArray=(its++its2).toArray:=by simp
  rw [ea]
  exact ⟨.ref _,_,I.lnew (t':=s.toks) (r.append r2) (by rw [List.length_append]; omega),rfl,q _ I.fresh⟩
noncomputable def E7:R2:=fun x y H Q=>∃ l k xs,x=.ref l∧y=.int k∧H l=some (.lst xs)∧-(2 ^ 63)≤k∧k < 2 ^ 63∧xs.length * k.toNat≤sizeLine ∧
  ∀ p,H p=none→Q (.ref p) (upd H p (.lst (List.replicate k.toNat xs).flatten))
theorem len_rep {α:Type} (xs:List α) (k:Nat):(List.replicate k xs).flatten.length=k * xs.length:=by
  induction k with
  | zero=>simp
  | succ k ih=>rw [List.replicate_succ,List.flatten_cons,List.length_append,ih,Nat.succ_mul,Nat.add_comm]
theorem DR:OpR X (binaryOp .Mult) E7:=by
  intro pins s σ H x y v u Q I rx ry h
  obtain ⟨l,k,xs,rfl,rfl,hH,h1,h2,hz,q⟩:=h
  cases rx
  obtain ⟨t,rfl⟩:=ry
  obtain ⟨z,its,n,r,hl,e⟩:=I.lstM hH
  have hlen:its.toArray.size * k.toNat≤sizeLine:=by rw [List.size_toArray,← hl]; exact hz
  have hcap:¬ its.toArray.size * k.toNat > (2 ^ 63 - 1) / 8:=by
    have:(sizeLine:Nat)≤(2 ^ 63 - 1) / 8:=by decide
    omega
  have hfit:¬ (!Builtin.List.listFitsIndex k)=true:=by
    rw [fitsIndex_both h1 h2]
    exact Bool.false_ne_true
  have hlong:¬ Builtin.List.listTooLong (its.toArray.size * k.toNat)=true:=by
    rw [AW hlen]
    exact Bool.false_ne_true
  have hnew:List.foldl (fun x1 x2=>x1++x2) #[] (List.replicate (if its.toArray.isEmpty=true then 0 else k.toNat) its.toArray)=(List.replicate k.toNat its).flatten.toArray:=by
    have f0:∀ m:Nat,List.foldl (fun x1 x2=>x1++x2) #[] (List.replicate m its.toArray)=(List.replicate m its).flatten.toArray:=fun m=>by
      have:=foldl_rep its m []
      rw [List.nil_append] at this
      exact this
    rw [f0]
    cases its with
    | nil=>simp
    | cons a r'=>rw [if_neg (by simp)]
  refine wpAny_binaryOp_repeat_ref (T:="list") (U:="int") (by decide) ⟨_,e,rfl⟩ (fun s'=>typeIs_int s' k t) noFill_list_mul F.fills_int_mul F.slot_int_rmul repeat_list F.slot_int_index.lookup
    (call_meets F.slot_int_rmul (typeIs_int s k t) F.entry_int_rmul (F.args_int_rmul_2 _ _) (int___rmul___int_list k t l its.toArray n)
      ⟨e,rfl,⟨_,e,rfl⟩,call_meets F.slot_list_mul ⟨_,e,rfl⟩ F.entry_list_mul (F.args_list_mul_2 _ _) (AutoListH.list___mul___list_int_3 l its.toArray n k t hfit hcap hlong) ⟨e,?_⟩⟩)
  rw [hnew]
  exact ⟨.ref _,_,I.lnew (t':=s.toks) (r.rep k.toNat) (by rw [len_rep,Nat.mul_comm]; exact hz),rfl,q _ I.fresh⟩
end
section
variable {prog:Program} {w:World} {A:Around} {E:Value→Shared→Prop} {s:Shared}
end
section
variable {X:Cx}
end
end L2
namespace Att
open PySem PySem.W PySem.Calls PyProof.Rows
theorem o9 {P:Params} {h:Heap}:∀ (ns:List Int) (vs:List Value),WellAll P h vs (ns.map WData.int)→IntsAre vs ns:=by
  intro ns
  induction ns with
  | nil =>
    intro vs w
    rw [List.map_nil] at w
    cases w
    exact .nil
  | cons n ns ih =>
    intro vs w
    rw [List.map_cons] at w
    cases w with
    | cons a b =>
      cases a
      exact .cons _ _ (ih _ b)
theorem zb {l:OpenLaw} {n:Nat} (hn:l.most=some n) {P:Params} {h:Heap} {args:List WData} {vals:List Value}
    (hpre:l.row.toRowW.claim.pre args=true) (hwl:WellAll P h vals args) :
    ∃ a vs ns,vals=[Value.ref a]∧args=[WData.list (ns.map WData.int)]∧h.get? a=some { cls:=.type "list",data:=.seq vs.toArray }∧IntsAre vs ns∧ns.length≤n:=by
  have hsh:WShape.hasAll [] args [.list .int]=true:=(pre_splitW hpre).1
  have hc:l.pre.holds [] { args:=args }=true:=(pre_splitW hpre).2
  obtain ⟨d,r,rfl,h1,h2⟩:=hasAllW_cons hsh
  obtain rfl:=hasAllW_nil h2
  obtain ⟨xs,rfl,h3⟩:=hasW_list h1
  obtain ⟨ns,rfl⟩:=items_int h3
  have hlen:ns.length≤n:=by
    unfold OpenLaw.pre at hc
    have h4:(WTm.not (.lt (.lit (.int (n:Int))) (.len (.arg 0)))).holds [] { args:=[.list (ns.map .int)] }=true:=by
      have h4:=(holds_andW hc).1
      rw [hn] at h4
      exact h4
    have h5:=condW_of h4 (w_not (w_lt w_lit (w_len_list (w_arg rfl))))
    rw [List.length_map] at h5
    refine Nat.le_of_not_lt fun q=>?_
    have q':(n:Int) < ((ns.length:Nat):Int):=by omega
    first
      | (rw [decide_eq_true q'] at h5; exact absurd h5 (by decide))
      | (simp at h5; omega)
  cases hwl with
  | cons w1 w2 =>
    cases w2
    cases w1 with
    | list ho hall=>exact ⟨_,_,ns,rfl,rfl,ho,o9 ns _ hall,hlen⟩
theorem y2 (l:OpenLaw) (args:List WData):l.row.toRowW.claim.post args (.bool true) args=true :=
  postW_of (r:=l.row.toRowW) (X:=(true == true))
    (show WShape.has [] (.bool true) .bool=true by first | rfl | decide | simp [WShape.has,WShape.arms,WShape.armsAll])
    (show (WTm.eq .res (.lit (.bool true))).value [] { args:=args,res:=some (.bool true),after:=args }=some (.bool (true == true)) from w_eq_bool (w_res rfl) w_lit) rfl
theorem u7 {l:OpenLaw} {n:Nat} {q:Program} {loose:List Str} {XP:(Str→Option Value)→Heap→Prop} {YP:World→Heap→Prop} {d:DefRec}
    (hn:l.most=some n) (hdf:d.params.defaults=[])
    (call:∀ (w:World) (s₀ s₁:Shared) (mg mb:Str→Option Value) (fa:Addr) (o:Obj) (pm cd doc:Value) (a:Addr) (vs:List Value) (ns:List Int),
      Ground q loose [] XP w s₀ mg mb s₁.heap→YP w s₁.heap →
      s₁.heap.get? fa=some o→o.data=.func (docDef d.name d.params d.body d.scope pm cd doc)→s₁.heap.CodeRec cd d.name→mg d.name=some (.ref fa) →
      s₁.heap.get? a=some { cls:=.type "list",data:=.seq vs.toArray }→IntsAre vs ns→ns.length≤n→s₁.gens=#[] →
      codeAny (model l.prog w) callerA (.call (.ref fa) ⟨[.ref a],[]⟩) (fun r s'=>r=.ok (.ret (.bool true))∧OldK s₁.heap s'.heap∧s'.os=s₁.os∧AllBare s'.gens) s₁) :
    WalkO q loose XP YP l.row.toRowW d [] (fun f vs=>PySem.call f vs):=by
  intro w s₀ s₁ mg mb G Y fa o pm cd doc dV kV ho hd hcd hD hmg hg args vals as hpre hlay hrd hwl hlo
  obtain rfl:dV=.none:=Dflts.none hD hdf
  obtain rfl:kV=.none:=Dflts.noKw hD
  obtain ⟨a,vs,ns,rfl,rfl,hobj,hints,hlen⟩:=zb hn hpre hwl
  refine enter_call (codeAny_mono (call w s₀ s₁ mg mb fa o pm cd doc a vs ns G Y ho (fd_plain hd) hcd hmg hobj hints hlen hg) fun r s' hq=>?_)
  obtain ⟨rfl,h2,h3,h4⟩:=hq
  exact ⟨.inl ⟨.bool true,.bool true,[],rfl,fun _=>rfl,.bool true,y2 l _,fun _=>⟨List.Pairwise.nil,fun _ hm=>(nomatch hm)⟩⟩,h2,h3,h4⟩
section
variable {prog:Program} {w:World} {A:Around} {E:Value→Shared→Prop} {s:Shared} {K:Frag}
end
end Att
namespace L2
open PySem PySem.Spec PyProof.Rows
theorem rK:∀ {vs:List Value} {ns:List Int},IntsAre vs ns→Vals (ns.map V.int) vs
  | _,_,.nil=>.nil
  | _,_,.cons n t h=>.cons ⟨t,rfl⟩ (rK h)
noncomputable def Eg (H:Hp):Prop:=∀ b,H b=none∨(∃ o xs,H b=some (.frz o (.lst xs)))∨∃ q,H b=some (.tbl q)
noncomputable def qO (K:PySem.W.Frag) (h:Heap):Prop:=(∀ P q,TabOf K P q→h.get? P=some { cls:=.none,data:=.fields #[] }∧K.lookup P=none∧isCodeTable h P)∧∀ P q q',TabOf K P q→TabOf K P q'→q=q'
section
open Classical
noncomputable def l5 (K:PySem.W.Frag):Hp:=fun b=>if h:∃ q,TabOf K b q then some (.tbl h.choose) else none
theorem dJ (K:PySem.W.Frag) (b:Addr):l5 K b=none∨∃ q,TabOf K b q∧l5 K b=some (.tbl q):=by
  unfold l5
  split
  · rename_i h; exact .inr ⟨_,h.choose_spec,rfl⟩
  · exact .inl rfl
theorem rL {K:PySem.W.Frag} {h:Heap} (hT:qO K h) {P:Addr} {q:Str} (t:TabOf K P q):l5 K P=some (.tbl q):=by
  rcases dJ K P with e | ⟨q',t',e⟩
  · unfold l5 at e
    rw [dif_pos ⟨q,t⟩] at e; cases e
  · rw [e,hT.2 P q q' t t']
end
theorem law_call {P:Program} {w:World} {K:PySem.W.Frag} {mg mb:Str→Option Value} {CX:CXT} {k:Nat} {fa a:Addr} {fd:FuncData} {x:Str} {sp:Sp} {s₁:Shared} {vs:List Value} {ns:List Int}
    (KX:K.In s₁.heap) (hns:s₁.heap.Ns mainGlobals mg) (hb:s₁.heap.Ns builtinsNs mb) (hbb:∀ x:Str,x≠"__name__"→mb x=bootBuiltins x) (hlim:s₁.heap.NoLimit) (hg:s₁.gens=#[])
    (ha:s₁.heap.get? a=some { cls:=.type "list",data:=.seq vs.toArray }) (hi:IntsAre vs ns) (hl:ns.length≤sizeLine) (hr:fj k callerA)
    (F:∀ base:Heap,K.In base→base.Ns mainGlobals mg→jR P w K mg base CX k fa fd [x] sp) (hbind:∀ (s:Shared) (u:Value),BindsTo s fd ⟨[u],[]⟩ [(x,u)])
    (hsp:∀ H:Hp,Eg H→SqL K H a (ns.map V.int)→sp [.ref a] H (fun v _=>v=.bl true) fun _ _ _=>False)
    (hCX:∀ H e s',CX [] H s₁ (fun _ _ _=>False) e s'→False) (hT:qO K s₁.heap) :
    codeAny (model P w) callerA (.call (.ref fa) ⟨[.ref a],[]⟩) (fun r s'=>r=.ok (.ret (.bool true))∧OldK s₁.heap s'.heap∧s'.os=s₁.os∧AllBare s'.gens) s₁:=by
  have rv:=rK hi
  have lenV:=hi.length
  -- from an abstract heap in which nothing but the script may be tracked
  have core:∀ H:Hp,Eg H→SqL K H a (ns.map V.int)→HOk P w H s₁.heap→(∀ b,H b≠none→b=a∨∃ q,TabOf K b q)→(H a≠none→K.lookup a=none)→(∀ P q,TabOf K P q→H P=some (.tbl q)) →
      codeAny (model P w) callerA (.call (.ref fa) ⟨[.ref a],[]⟩) (fun r s'=>r=.ok (.ret (.bool true))∧OldK s₁.heap s'.heap∧s'.os=s₁.os∧AllBare s'.gens) s₁:=by
    intro H hO hS hok hA hK hTb
    have base_of:∀ {b:Addr} {o:Obj},s₁.heap.get? b=some o→H b=none→(sZ s₁.heap H).get? b=some o:=fun e n=>zR e n
    have noA:∀ {b:Addr} {o:Obj} {es:Array DictEntry} {ep:Nat},s₁.heap.get? b=some o→o.data=.dict es ep→H b=none:=fun {b o es ep} e d=>by
      cases q:H b with
      | none=>rfl
      | some u =>
        rcases hA b (by rw [q]; simp) with e' | ⟨qq,e'⟩
        case inr=>rw [(hT.1 b qq e').1] at e; cases e; cases d
        subst e'
        rw [ha] at e; cases e
        have d':Data.seq vs.toArray _=Data.dict es ep:=d
        cases d'
    have nsK:∀ {b:Addr} {m:Str→Option Value},s₁.heap.Ns b m→(sZ s₁.heap H).Ns b m:=fun {b m} qz2=>(by obtain ⟨o,es,ep,e,d,r⟩:=qz2; exact ⟨o,es,ep,base_of e (noA e d),d,r⟩)
    have hKb:K.In (sZ s₁.heap H):=fun b o e=>base_of (KX b o e) (by
      cases q:H b with
      | none=>rfl
      | some u =>
        rcases hA b (by rw [q]; simp) with e' | ⟨qq,e'⟩
        case inr=>rw [(hT.1 b qq e').2.1] at e; cases e
        subst e'
        rw [hK (by rw [q]; simp)] at e; cases e)
    have hM:Mod K mg (sZ s₁.heap H):=⟨hKb,nsK hns,⟨mb,nsK hb,hbb⟩,let ⟨mc,h1,h2⟩:=hlim; ⟨mc,nsK h1,h2⟩⟩
    have e0:vY P w K mg (sZ s₁.heap H) callerA [] s₁ H:=⟨rfl,hM,fun b o e=>BE e,Nat.le_of_eq (y1 _ _),trivial,fun b hb=>absurd (show b∈([]:List Addr) from hb) (by simp),hok,.of_eq hg,hTb⟩
    refine codeAny_mono ((F _ hKb (nsK hns)).run callerA [] s₁ H ⟨[.ref a],[]⟩ [.ref a] [.ref a] _ _ hr e0 (hbind s₁ (.ref a)) (.cons rfl .nil) (hsp H hO hS)) fun r s' h=>?_
    cases r with
    | error e=>exact (hCX H e s' h).elim
    | ok fl =>
      cases fl with
      | next=>exact False.elim h
      | brk=>exact False.elim h
      | cont=>exact False.elim h
      | ret u =>
        obtain ⟨v,H',os,bare,un,hok',r',q⟩:=h
        have q':v=.bl true:=q
        subst q'
        obtain rfl:u=Value.bool true:=r'
        have old:∀ b o,s₁.heap.get? b=some o→s'.heap.get? b=some o∨(isCodeTable s₁.heap b∧o.cls=.none∧∃ vs more,o.data=.fields vs∧s'.heap.get? b=some { o with data:=.fields (vs++more) }):=fun b o e=>?old
        case old =>
         cases q:H b with
         | none=>exact .inl <| un.keep b o e q (by intro z; exact absurd (show b∈([]:List Addr) from z) (by simp)) (by simp)
         | some u =>
          rcases hO b with z | ⟨ob,xs,z⟩ | ⟨qq,z⟩
          · rw [q] at z; cases z
          · have z2:=un.frzs b ob _ z
            obtain ⟨e1,_⟩:=hok b _ z
            obtain ⟨e2,_⟩:=hok' b _ z2
            rw [e] at e1; cases e1
            exact .inl e2
          · have z2:=un.tbls b qq z
            obtain ⟨ps,e2,_⟩:=hok' b _ z2
            rcases hA b (by rw [z]; simp) with e' | ⟨q2,e'⟩
            · obtain ⟨ps0,e3,_⟩:=hok b _ z
              rw [e'] at e3; rw [ha] at e3; cases e3
            · obtain ⟨e3,_,e4⟩:=hT.1 b q2 e'
              rw [e] at e3; cases e3
              exact .inr ⟨e4,rfl,#[],ps,rfl,by simpa using e2⟩
        exact ⟨rfl,⟨fun b o e=>(old b o e).imp id fun z=>.inl z,fun b o e=>by rcases old b o e with z | ⟨_,_,_,_,_,z⟩ <;> exact ⟨_,z⟩⟩,os,bare⟩
  have tok:∀ b q,TabOf K b q→gr P w (fun _=>none) s₁.heap b (.tbl q):=fun b q t=>⟨#[],(hT.1 b q t).1,trivial,fun pos cv z=>nomatch z⟩
  have tokH:∀ (H:Hp) b q,TabOf K b q→gr P w H s₁.heap b (.tbl q):=fun H b q t=>⟨#[],(hT.1 b q t).1,trivial,fun pos cv z=>nomatch z⟩
  have na:∀ q,¬ TabOf K a q:=fun q t=>by have:=(hT.1 a q t).1; rw [ha] at this; cases this
  cases hk:K.lookup a with
  | some o =>
    have e:=KX a o hk
    rw [ha] at e
    cases e
    refine core (l5 K) (fun b=>(dJ K b).imp id fun qz0=>(by obtain ⟨q,_,e⟩:=qz0; exact .inr ⟨q,e⟩)) (.inr ⟨_,vs.toArray,_,hk,rfl,rfl,rfl,by rw [List.size_toArray,lenV]; exact hl,by simpa using rv⟩) (fun b u z=>?_) (fun b z=>?_) (fun z=>?_) fun P q t=>rL hT t
    · rcases dJ K b with e | ⟨q,t,e⟩
      · rw [z] at e; cases e
      · rw [z] at e; cases e; exact tokH _ b q t
    · rcases dJ K b with e | ⟨q,t,e⟩
      · exact absurd e z
      · exact .inr ⟨q,t⟩
    · rcases dJ K a with e | ⟨q,t,e⟩
      · exact absurd e z
      · exact absurd t (na q)
  | none =>
    have eT:∀ b,b≠a→(fun b=>if b=a then some (HO.frz { cls:=.type "list",data:=.seq vs.toArray } (.lst (ns.map V.int))) else l5 K b) b=l5 K b:=fun b h=>if_neg h
    have eA:(fun b=>if b=a then some (HO.frz { cls:=.type "list",data:=.seq vs.toArray } (.lst (ns.map V.int))) else l5 K b) a=some (HO.frz { cls:=.type "list",data:=.seq vs.toArray } (.lst (ns.map V.int))):=if_pos rfl
    refine core (fun b=>if b=a then some (.frz { cls:=.type "list",data:=.seq vs.toArray } (.lst (ns.map V.int))) else l5 K b) (fun b=>?_) (.inl (.inr ⟨{ cls:=.type "list",data:=.seq vs.toArray },if_pos rfl⟩)) (fun b u z=>?_) (fun b z=>?_) (fun _=>hk) fun P q t=>?_
    · by_cases hb:b=a
      · exact .inr (.inl ⟨_,_,if_pos hb⟩)
      · rw [eT b hb]; exact (dJ K b).imp id fun qz0=>(by obtain ⟨q,_,e⟩:=qz0; exact .inr ⟨q,e⟩)
    · by_cases hb:b=a
      · subst hb
        rw [eA] at z; cases z
        exact ⟨ha,by rw [List.length_map]; exact hl,vs,_,rv,ha⟩
      · rw [eT b hb] at z
        rcases dJ K b with e | ⟨q,t,e⟩
        · rw [z] at e; cases e
        · rw [z] at e; cases e; exact tokH _ b q t
    · by_cases hb:b=a
      · exact .inl hb
      · rcases dJ K b with e | ⟨q,t,e⟩
        · exact absurd ((if_neg hb).trans e) z
        · exact .inr ⟨q,t⟩
    · exact (if_neg (fun z=>na q (by rw [← z]; exact t))).trans (rL hT t)
end L2
namespace L2
open PySem PySem.Spec PyProof.Rows
noncomputable abbrev KOf {K:PySem.W.Frag} {h:Heap} (_:K.In h):PySem.W.Frag:=K
theorem xM {l:PySem.W.OpenLaw} {n k:Nat} {q:Program} {loose:List Str} {XP:(Str→Option Value)→Heap→Prop} {YP:World→Heap→Prop} {d:DefRec} {K:Params→PySem.W.Frag} {CX:World→CXT} {sp:World→Sp} {x:Str}
    (hn:l.most=some n) (hn2:n≤sizeLine) (hdf:d.params.defaults=[]) (hr:fj k callerA)
    (hY:∀ (w:World) (h:Heap),YP w h→(K w.params).In h)
    (F:∀ (w:World) (mg:Str→Option Value) (fa:Addr) (h:Heap),(K w.params).In h→h.Ns mainGlobals mg→mg d.name=some (.ref fa) →
      ∃ fd:FuncData,(∀ (s:Shared) (u:Value),BindsTo s fd ⟨[u],[]⟩ [(x,u)]) ∧
        ∀ base:Heap,(K w.params).In base→base.Ns mainGlobals mg→jR l.prog w (K w.params) mg base (CX w) k fa fd [x] (sp w))
    (hsp:∀ (w:World) (H:Hp) (a:Addr) (ns:List Int),ns.length≤n→Eg H→SqL (K w.params) H a (ns.map V.int)→sp w [.ref a] H (fun v _=>v=.bl true) fun _ _ _=>False)
    (hCX:∀ (w:World) (H:Hp) (s:Shared) (e:Value) (s':Shared),CX w [] H s (fun _ _ _=>False) e s'→False) (hTb:∀ (w:World) (h:Heap) (loose':List Str) (mean:ExcName→Option Value) (mg mb:Str→Option Value),PyProof.Rows.Top q loose' mean mg mb h→(K w.params).In h→qO (K w.params) h) :
    PySem.W.WalkO q loose XP YP l.row.toRowW d [] (fun f vs=>PySem.call f vs):=by
  refine Att.u7 hn hdf fun w s₀ s₁ mg mb fa o pm cd doc a vs ns G Y ho hd hcd hmg hobj hints hlen hg=>?_
  have KX:=hY w _ Y
  obtain ⟨fd,hb,hF⟩:=F w mg fa _ KX G.T.g hmg
  exact law_call KX G.T.g G.T.b G.T.builtins G.T.nolimit hg hobj hints (Nat.le_trans hlen hn2) hr hF hb (fun H hO hS=>hsp w H a ns hlen hO hS) (fun H e s'=>hCX w H s₁ e s') (hTb w _ _ _ _ _ G.T KX)
end L2
namespace L2
open PySem PySem.Spec PyProof.Rows
noncomputable def inClass (s:Stmt) (j:Nat):Stmt:=match s with
  | .ClassDef _ _ _ body _ _ _ _ _ _ _=>body.getD j (.Pass ⟨0,0,0,0⟩)
  | _=>.Pass ⟨0,0,0,0⟩
noncomputable def g7 (s:Stmt):Arguments:=match s with
  | .FunctionDef _ a _ _ _ _ _ _ _ _=>a
  | _=>{ posonlyargs:=[],args:=[],vararg:=none,kwonlyargs:=[],kw_defaults:=[],kwarg:=none,defaults:=[] }
noncomputable def eM (s:Stmt):List Stmt:=match s with
  | .FunctionDef _ _ b _ _ _ _ _ _ _=>b
  | _=>[]
noncomputable def aB (s:Stmt):Scope:=match s with
  | .FunctionDef _ _ _ _ _ _ sc _ _ _=>sc
  | _=>{ kind:=.function,names:=[],isGenerator:=false,isCoroutine:=false }
noncomputable abbrev CX0:CXT:=fun _ _ _ _ _ _=>False
noncomputable abbrev E0:XK:=fun _ _ _=>False
theorem E3 {X:Cx}:Passes CX0 X E0:=fun _ _ _ _ _ _ _ h=>h.elim
structure Fun (K:PySem.W.Frag) (x qual:Str) (st:Stmt) (f:Addr) (fd:FuncData):Prop where
  ex:∃ (oc:Value) (od:Option Addr) (kV doc pm:Value) (an:Option Addr) (cdv ct:Value) (osl:Array (Option Value)),
    fd=PySem.W.fnOf x qual (g7 st) (eM st) (aB st) .none kV doc pm an cdv ct∧K.lookup f=some ⟨oc,od,.func fd,osl⟩∧PySem.W.codeIn K cdv qual=true
  kp:PySem.W.keepIn K (.ref f)=true
section
variable {P:Program} {w:World} {K:PySem.W.Frag} {mg:Str→Option Value} {base:Heap}
theorem Fun.ok {x qual:Str} {st:Stmt} {f:Addr} {fd:FuncData} {N ps:List Str} {k:Nat} {sp:Sp} (F:Fun K x qual st f fd) (S:aT N ps (aB st)) (len:∀ vs H Q E,sp vs H Q E→vs.length=ps.length)
    (hbody:∀ (cdv:Value) (A:Around) (outer:List Env) (s:Shared) (H:Hp) (vs:List V) (Q:VK) (E:XK),fj k (A.deeper (envOfC qual (aB st) s.heap.objs.size f cdv))→sp vs H Q E →
      ∃ t,PSs (jD CX0 P w K mg base N qual (aB st) f cdv A outer s H E).nox (eM st) t∧t { nx:=fun _ H'=>Q .non H',rt:=Q } (start N vs) H):jR P w K mg base CX0 (k + 1) f fd ps sp:=by
  obtain ⟨oc,od,kV,doc,pm,an,cdv,ct,osl,rfl,lk,hcd⟩:=F.ex
  refine CD lk hcd S len fun A outer s H vs Q E hr hsp=>?_
  obtain ⟨t,h,q⟩:=hbody cdv A outer s H vs Q E hr hsp
  exact ⟨t,h.nox,q⟩
theorem Fun.binds {x qual:Str} {st:Stmt} {f:Addr} {fd:FuncData} {ps:List Str} (F:Fun K x qual st f fd)
    (h:∀ (kV doc pm:Value) (an:Option Addr) (cdv ct:Value) (us:List Value),us.length=ps.length→bindArgs (PySem.W.fnOf x qual (g7 st) (eM st) (aB st) .none kV doc pm an cdv ct) ⟨us,[]⟩=pure (ps.zip us)):Binds K fd ps []:=by
  obtain ⟨oc,od,kV,doc,pm,an,cdv,ct,osl,rfl,lk,hcd⟩:=F.ex
  exact .all (h kV doc pm an cdv ct)
theorem zK {x qual:Str} {st:Stmt} {f:Addr} {oc:Value} {od an:Option Addr} {osl:Array (Option Value)} {kV doc pm cdv ct:Value} (l:K.lookup f=some ⟨oc,od,.func (PySem.W.fnOf x qual (g7 st) (eM st) (aB st) .none kV doc pm an cdv ct),osl⟩)
    (c:PySem.W.codeIn K cdv qual=true) (k:PySem.W.keepIn K (.ref f)=true):Fun K x qual st f (PySem.W.fnOf x qual (g7 st) (eM st) (aB st) .none kV doc pm an cdv ct):=⟨⟨oc,od,kV,doc,pm,an,cdv,ct,osl,rfl,l,c⟩,k⟩
end
section
variable {X:Cx}
theorem pv (i:Nat) {x:Str} {pos:Pos} (hN:X.N[i]?=some x:=by rfl) (hv:Vis X.env.scope x:=by first | exact Or.inl rfl | exact Or.inr (Or.inl rfl) | exact Or.inr (Or.inr rfl)) (hd:(x == ("__debug__":Str))=false:=by decide)
    (hcd:(x == ("__classdict__":Str))=false:=by decide):PE X (.Name x pos) (EF i):=oh hN hv hd hcd
end
theorem Et {c A B:Prop} [Decidable c] (h1:c→A) (h2:¬ c→B):if c then A else B:=by
  by_cases h:c
  · rw [if_pos h]
    exact h1 h
  · rw [if_neg h]
    exact h2 h
noncomputable def aM (H H':Hp):Prop:=∀ b o,H b=some o→H' b=some o
theorem aM.refl (H:Hp):aM H H:=fun _ _ h=>h
theorem aM.trans {H H1 H2:Hp} (a:aM H H1) (b:aM H1 H2):aM H H2:=fun c o h=>b c o (a c o h)
theorem aM.free {H H':Hp} (e:aM H H') {l:Addr} (h:H' l=Option.none):H l=Option.none:=by
  cases q:H l with
  | none=>rfl
  | some o =>
    rw [e l o q] at h
    cases h
theorem aM.seq {K:PySem.W.Frag} {H H':Hp} {a:Addr} {xs:List V} (e:aM H H') (h:SqL K H a xs):SqL K H' a xs:=by
  rcases h with (h | ⟨o,h⟩) | h
  · exact .inl (.inl (e _ _ h))
  · exact .inl (.inr ⟨o,e _ _ h⟩)
  · exact .inr h
end L2
set_option maxRecDepth 100000
set_option maxHeartbeats 4000000
namespace L2
open PySem PySem.Spec PyProof.Rows
noncomputable def o7:List (Str × NameKind)→List (Str × Addr)→List (Str × Addr)→List (Str × Addr)
  | [],_,acc=>acc
  | (n,k)::r,cells,acc=>o7 r cells (if k == .free then (match cells.lookup n with | some c=>(n,c)::acc | none=>acc) else acc)
theorem jK (env:Env):∀ (names:List (Str × NameKind)) (acc:List (Str × Addr)),(∀ y∈names,y.2=.free→∃ c,env.cells.lookup y.1=some c) →
    (forIn names acc (fun (x:Str × NameKind) (cs:List (Str × Addr))=>match x with
      | (name,kind)=>if (kind == NameKind.free)=true then do let c ← cellOf env name; pure (ForInStep.yield ((name,c)::cs)) else pure (ForInStep.yield cs)):Sem (List (Str × Addr)))=pure (o7 names env.cells acc)
  | [],acc,_=>rfl
  | (n,k)::r,acc,h=>by
    rw [List.forIn_cons]
    have hr:∀ y∈r,y.2=.free→∃ c,env.cells.lookup y.1=some c:=fun y hy=>h y (List.mem_cons_of_mem _ hy)
    dsimp only [o7]
    by_cases hk:k=.free
    · subst hk
      obtain ⟨c,hc⟩:=h (n,.free) List.mem_cons_self rfl
      have hc':env.cells.lookup n=some c:=hc
      have e:cellOf env n=pure c:=by unfold cellOf; rw [hc']
      rw [if_pos (show (NameKind.free == NameKind.free)=true by decide),if_pos (show (NameKind.free == NameKind.free)=true by decide),e,hc']
      exact jK env r ((n,c)::acc) hr
    · have hb:¬ (k == NameKind.free)=true:=by simpa using hk
      rw [if_neg hb,if_neg hb]
      exact jK env r acc hr
theorem pf {scope:Scope} {env:Env} (h:∀ y∈scope.names,y.2=.free→∃ c,env.cells.lookup y.1=some c):closureFor scope env=pure (o7 scope.names env.cells []):=by
  have e:=jK env scope.names [] h
  unfold closureFor
  rw [← bind_pure (forIn scope.names [] _)] at e
  exact e
theorem vF:∀ (names:List (Str × NameKind)) (cells acc:List (Str × Addr)) (x:Str) (c:Addr),(∀ x c,acc.lookup x=some c→cells.lookup x=some c)→(o7 names cells acc).lookup x=some c→cells.lookup x=some c
  | [],_,_,x,c,h,e=>h x c e
  | (n,k)::r,cells,acc,x,c,h,e=>by
    refine vF r cells _ x c (fun y d hy=>?_) e
    split at hy
    · split at hy
      · rename_i c' hc'
        rw [List.lookup_cons] at hy
        by_cases hyn:(y == n)=true
        · rw [hyn] at hy
          have hy':y=n:=eq_of_beq hyn
          subst hy'
          cases hy
          exact hc'
        · have:(y == n)=false:=by simpa using hyn
          rw [this] at hy
          exact h y d hy
      · exact h y d hy
    · exact h y d hy
theorem sq:∀ (names:List (Str × NameKind)) (cells acc:List (Str × Addr)) (x:Str),(∃ c,acc.lookup x=some c)→∃ c,(o7 names cells acc).lookup x=some c
  | [],_,_,_,h=>h
  | (n,k)::r,cells,acc,x,h=>by
    refine sq r cells _ x ?_
    split
    · split
      · rw [List.lookup_cons]
        cases (x == n)
        · exact h
        · exact ⟨_,rfl⟩
      · exact h
    · exact h
theorem qw:∀ (names:List (Str × NameKind)) (cells acc:List (Str × Addr)) (x:Str) (c:Addr),(x,NameKind.free)∈names→cells.lookup x=some c→∃ c,(o7 names cells acc).lookup x=some c
  | [],_,_,_,_,h,_=>by simp at h
  | (n,k)::r,cells,acc,x,c,h,e=>by
    rcases List.mem_cons.mp h with h | h
    · injection h with h1 h2
      subst h1; subst h2
      refine sq r cells _ x ?_
      rw [if_pos (by decide),e]
      exact ⟨c,by simp [List.lookup_cons]⟩
    · exact qw r cells _ x c h e
noncomputable def blk (X:Cx) (M:List Str) (scope:Scope) (own:List Str) (C:Addr) (s2:Shared) (H2:Hp) (fp:List Addr):Cx where
  prog:=X.prog
  w:=X.w
  K:=X.K
  mg:=X.mg
  base:=X.base
  A:=X.A
  N:=M++own
  s₀:=s2
  H₀:=H2
  env:=compEnvC scope (o7 scope.names X.env.cells []) C X.env
  outer:=X.stack
  stack:=X.stack
  ex:=fp
  fn:=fun _=>false
  calm:=X.calm
  pn:=[]
  xe:=fun _ _=>False
structure kU (X:Cx) (M:List Str) (scope:Scope) (own:List Str):Prop where
  kind:scope.kind=.function
  nocell:∀ y∈scope.names,y.2≠.cell
  names:∀ y∈scope.names,y.2=.local→scope.names.lookup y.1=some .local
  free:∀ y∈scope.names,y.2=.free→Vis X.env.scope y.1∧X.env.scope.names.lookup y.1≠some .local
  own:∀ x∈own,scope.names.lookup x=some .local
  outer:∀ p∈X.N.zip M,(p.1=p.2∧scope.names.lookup p.2≠some .local)∨scope.names.lookup p.2=none
  len:M.length=X.N.length
noncomputable def pI (N M:List Str) (osc scope:Scope) (own:List Str):Bool :=
  (scope.kind == .function) && scope.names.all (fun y=>y.2 != .cell) && scope.names.all (fun y=>y.2 != .local || scope.names.lookup y.1 == some .local) &&
  scope.names.all (fun y=>y.2 != .free || (osc.names.lookup y.1 == some .cell || osc.names.lookup y.1 == some .free)) &&
  own.all (fun x=>scope.names.lookup x == some .local) && (N.zip M).all (fun p=>(p.1 == p.2 && scope.names.lookup p.2 != some .local) || scope.names.lookup p.2 == none) && (M.length == N.length)
theorem kU.of {X:Cx} {M:List Str} {scope:Scope} {own:List Str} (h:pI X.N M X.env.scope scope own=true):kU X M scope own:=by
  unfold pI at h
  simp only [Bool.and_eq_true,List.all_eq_true,Bool.or_eq_true,bne_iff_ne,beq_iff_eq,ne_eq] at h
  obtain ⟨⟨⟨⟨⟨⟨h1,h2⟩,h3⟩,h4⟩,h5⟩,h6⟩,h7⟩:=h
  refine ⟨h1,h2,fun y hy e=>(h3 y hy).resolve_left fun z=>z e,fun y hy e=>?_,h5,h6,h7⟩
  rcases (h4 y hy).resolve_left fun z=>z e with q | q
  · exact ⟨.inr (.inl q),by rw [q]; intro z; cases z⟩
  · exact ⟨.inr (.inr q),by rw [q]; intro z; cases z⟩
theorem eK {env:Env}:∀ {names:List (Str × NameKind)} {x:Str} {k:NameKind},
    (names.map fun (n,k)=>if (k == NameKind.free && env.scope.kind == .function && env.kindOf n == some .cell) then (n,NameKind.cell) else (n,k)).lookup x=some k→(k=.cell∨k=.free)→(∀ y∈names,y.2≠.cell)→(x,NameKind.free)∈names
  | [],_,_,h,_,_=>by simp at h
  | (n,k')::r,x,k,h,hk,hn=>by
    have hr:∀ y∈r,y.2≠NameKind.cell:=fun y hy=>hn y (List.mem_cons_of_mem _ hy)
    rw [List.map_cons,List.lookup_cons] at h
    by_cases hc:(k' == NameKind.free && env.scope.kind == .function && env.kindOf n == some .cell)=true
    · have hf:k'=.free:=by
        have:=hc
        simp only [Bool.and_eq_true] at this
        exact eq_of_beq this.1.1
      simp only [if_pos hc] at h
      cases hx:x == n with
      | true =>
        have:x=n:=eq_of_beq hx
        subst this; subst hf
        exact List.mem_cons_self
      | false =>
        rw [hx] at h
        exact List.mem_cons_of_mem _ (eK h hk hr)
    · simp only [if_neg hc] at h
      cases hx:x == n with
      | true =>
        rw [hx] at h
        have e:k'=k:=Option.some.inj h
        have:x=n:=eq_of_beq hx
        subst this; subst e
        rcases hk with hk | hk
        · exact absurd hk (hn _ List.mem_cons_self)
        · subst hk; exact List.mem_cons_self
      | false =>
        rw [hx] at h
        exact List.mem_cons_of_mem _ (eK h hk hr)
theorem eS {env:Env}:∀ {names:List (Str × NameKind)} {x:Str} {k:NameKind},
    (names.map fun (n,k)=>if (k == NameKind.free && env.scope.kind == .function && env.kindOf n == some .cell) then (n,NameKind.cell) else (n,k)).lookup x=some k→(∃ k0,names.lookup x=some k0∧(k=k0∨(k=.cell∧k0=.free)))
  | [],_,_,h=>by simp at h
  | (n,k')::r,x,k,h=>by
    rw [List.map_cons,List.lookup_cons] at h
    rw [List.lookup_cons]
    by_cases hc:(k' == NameKind.free && env.scope.kind == .function && env.kindOf n == some .cell)=true
    · have hf:k'=.free:=by
        have:=hc
        simp only [Bool.and_eq_true] at this
        exact eq_of_beq this.1.1
      simp only [if_pos hc] at h
      cases hx:x == n with
      | true =>
        rw [hx] at h
        exact ⟨k',rfl,.inr ⟨(Option.some.inj h).symm,hf⟩⟩
      | false =>
        rw [hx] at h
        exact eS h
    · simp only [if_neg hc] at h
      cases hx:x == n with
      | true =>
        rw [hx] at h
        exact ⟨k',rfl,.inl (Option.some.inj h).symm⟩
      | false =>
        rw [hx] at h
        exact eS h
section
variable {X:Cx} {M:List Str} {pins:List (Addr × Obj)} {σ:St} {H2:Hp} {s2:Shared} {scope:Scope} {own:List Str} {fp:List Addr}
theorem Inv.blk {h1:Heap} {t':Nat} {C D:Addr} (I:Inv X pins σ H2 s2) (B:kU X M scope own) (hf:∀ b∈fp,p7 X pins H2 b) (hfs:∀ b∈fp,b < s2.heap.objs.size)
    (hD:D=s2.heap.objs.size) (hC:C=s2.heap.objs.size + 1) (hl:h1.get? D=some { cls:=.type "list",data:=.seq ([]:List Value).toArray 0 })
    (hn:h1.Ns C (fun _=>none)) (hk:∀ b o,s2.heap.get? b=some o→h1.get? b=some o) :
    Inv (L2.blk X M scope own C s2 H2 fp) [] (σ++List.replicate own.length none) (upd H2 D (.lst [])) { s2 with heap:=h1,toks:=t' }:=by
  have hcl:∀ x c,(o7 scope.names X.env.cells []).lookup x=some c→X.env.cells.lookup x=some c:=fun x c e=>vF _ _ _ _ _ (fun _ _ z=>by simp at z) e
  have hlt:∀ x c,(o7 scope.names X.env.cells []).lookup x=some c→c < s2.heap.objs.size:=fun x c e=>by
    obtain ⟨v,q⟩:=I.cell x c (hcl x c e)
    exact q.lt
  have freeD:H2 D=none:=I.hok.fresh (by rw [hD]; exact Nat.le_refl _)
  have freeC:H2 C=none:=I.hok.fresh (by rw [hC]; exact Nat.le_succ _)
  have hCD:C≠D:=by rw [hC,hD]; exact Nat.succ_ne_self _
  have hu:Un (frs X.stack) fp H2 (upd H2 D (.lst [])) s2.heap h1:=Un.laid hk (by rw [hD]; exact Nat.le_refl _) freeD
  refine ⟨⟨I.ok.mod,?_,I.ok.glob,I.ok.blt,?_,?_,?_,?_,I.ok.hd,I.ok.frames,.inl rfl,?_,I.bs,Nat.le_trans I.ok.bsz I.sz,?_,?_,I.stack,I.stkFree⟩,rfl,I.bare,hu,?_,?_,?_,?_,?_,?_,?_,fun P q t=>hu.tbls P q (I.tab P q t)⟩
  · exact B.kind
  · show s2.heap.objs.size≤C
    rw [hC]; exact Nat.le_succ _
  · intro x y c e1 e2
    exact I.ok.inj x y c (hcl x c e1) (hcl y c e2)
  · intro x hx
    have hm:(x,NameKind.free)∈scope.names:=by
      rcases hx with hx | hx
      · exact eK hx (.inl rfl) B.nocell
      · exact eK hx (.inr rfl) B.nocell
    obtain ⟨hv,hnl⟩:=B.free _ hm rfl
    have hh:X.env.kindOf x=some .cell∨X.env.kindOf x=some .free:=by
      rcases hv with z | z | z
      · exact absurd z hnl
      · exact .inl z
      · exact .inr z
    obtain ⟨c,e⟩:=I.ok.has x hh
    exact qw _ _ _ x c hm e
  · intro x c hfn _
    exact absurd (show false=true from hfn) (by decide)
  · intro b hb
    refine ⟨?_,fun x c e z=>?_⟩
    · show b≠C
      rw [hC]
      exact Nat.ne_of_lt (Nat.lt_succ_of_lt (hfs b hb))
    · exact (hf b hb).2.2.2.2.1 x c (hcl x c e) z
  · intro b o e hb
    obtain ⟨_,_,_,f3,_⟩:=hf b hb
    rcases f3 with z | z
    · exact I.ok.noex b o e z
    · exact absurd (Nat.lt_of_lt_of_le (Heap.lt_size (I.ok.bs b o e).1) z) (Nat.lt_irrefl _)
  · intro b hb hs
    obtain ⟨_,f1,f2,_⟩:=hf b hb
    rcases List.mem_cons.mp (I.stkSub b hs) with z | z
    · exact f1 z
    · exact f2 z
  · refine ⟨_,hn,fun i x v e1 e2 e3=>?_⟩
    have hi:i < σ.length:=by
      by_cases hi:i < σ.length
      · exact hi
      · rw [List.getElem?_append_right (by omega),List.getElem?_replicate] at e2
        split at e2 <;> cases e2
    rw [List.getElem?_append_left hi] at e2
    have hiN:i < X.N.length:=by rw [← I.len]; exact hi
    have hiM:i < M.length:=by rw [B.len]; exact hiN
    have e1M:M[i]?=some x:=by
      have:(M++own)[i]?=some x:=e1
      rwa [List.getElem?_append_left hiM] at this
    obtain ⟨y,ey⟩:∃ y,X.N[i]?=some y:=⟨_,List.getElem?_eq_getElem hiN⟩
    have hz:(y,x)∈X.N.zip M:=List.mem_of_getElem? (i:=i) (by rw [List.getElem?_zip_eq_some]; exact ⟨ey,e1M⟩)
    have hin:∃ k,scope.names.lookup x=some k:=by
      rcases e3 with z | z | z
      · obtain ⟨k0,hk0,_⟩:=eS (show _=some NameKind.local from z); exact ⟨k0,hk0⟩
      · obtain ⟨k0,hk0,_⟩:=eS (show _=some NameKind.cell from z); exact ⟨k0,hk0⟩
      · obtain ⟨k0,hk0,_⟩:=eS (show _=some NameKind.free from z); exact ⟨k0,hk0⟩
    have hout:y=x∧scope.names.lookup x≠some .local:=by
      rcases B.outer _ hz with q | q
      · exact q
      · obtain ⟨k,hk⟩:=hin; rw [q] at hk; cases hk
    have e1':X.N[i]?=some x:=by rw [← hout.1]; exact ey
    have hx:(relabel scope X.env).names.lookup x=some .cell∨(relabel scope X.env).names.lookup x=some .free:=by
      rcases e3 with z | z
      · obtain ⟨k0,hk0,hk⟩:=eS (show _=some NameKind.local from z)
        rcases hk with hk | ⟨hk,_⟩
        · subst hk
          exact absurd hk0 hout.2
        · cases hk
      · exact z
    have hm:(x,NameKind.free)∈scope.names:=by
      rcases hx with hx | hx
      · exact eK hx (.inl rfl) B.nocell
      · exact eK hx (.inr rfl) B.nocell
    obtain ⟨hv,hnl⟩:=B.free _ hm rfl
    obtain ⟨m,_,hl'⟩:=I.loc
    obtain ⟨u,r,l⟩:=hl' i x v e1' e2 hv
    refine ⟨u,r,.inr ⟨hx,?_⟩⟩
    rcases l with ⟨z,_⟩ | ⟨_,c,hc,z⟩
    · exact absurd z hnl
    · obtain ⟨c',hc'⟩:=qw scope.names X.env.cells [] x c hm hc
      have:=hcl x c' hc'
      rw [hc] at this
      cases this
      exact ⟨c,hc',z.keeps hk⟩
  · intro x c e
    obtain ⟨v,q⟩:=I.cell x c (hcl x c e)
    exact ⟨v,q.keeps hk⟩
  · show upd H2 D (.lst []) C=none
    rw [bx hCD]; exact freeC
  · intro x c e
    have h1:=hlt x c e
    rw [bx (by rw [hD]; exact Nat.ne_of_lt h1)]
    exact I.freeC x c (hcl x c e)
  · intro p hp
    exact absurd (show p∈([]:List (Addr × Obj))++[] from hp) (by simp)
  · exact I.hok.laid hk (by rw [hD]; exact Nat.le_refl _) ⟨Nat.zero_le _,[],0,.nil,hl⟩
  · show (σ++List.replicate own.length none).length=(M++own).length
    rw [List.length_append,List.length_append,List.length_replicate,I.len,B.len]
theorem Inv.unblk {C:Addr} {σ':St} {H':Hp} {s':Shared} {h':Heap} (I:Inv X pins σ H2 s2) (hf:∀ b∈fp,p7 X pins H2 b) (hCs:s2.heap.objs.size≤C)
    (J:Inv (L2.blk X M scope own C s2 H2 fp) [] σ' H' s') (hs:Heap.SameBut C s'.heap h'):Inv X pins σ H' { s' with heap:=h' }:=by
  have hC:H' C=none:=J.free
  have k:∀ b o,b≠C→s'.heap.get? b=some o→h'.get? b=some o:=fun b o hb e=>(hs.2 b hb).trans e
  have old:∀ b o,s2.heap.get? b=some o→b≠C:=fun b o e=>Nat.ne_of_lt (Nat.lt_of_lt_of_le (Heap.lt_size e) hCs)
  have u:Un (frs X.stack) fp H2 H' s2.heap s'.heap:=J.base
  refine I.call' (s':={ s' with heap:=h' }) (ch:=fp) J.os ?_ ?_ J.bare fun b hb=>?_
  · refine ⟨fun b o e n h1 h2=>k b o (old b o e) (u.keep b o e n h1 h2),fun b o e n h1 h2=>?_,u.free,fun b o e h1=>?_,u.tups,u.frzs,u.tbls⟩
    · obtain ⟨sl,q⟩:=u.slot b o e n h1 h2
      exact ⟨sl,k b _ (old b o e) q⟩
    · obtain ⟨o',q⟩:=u.there b o e h1
      exact ⟨o',k b o' (old b o e) q⟩
  · intro b o e
    refine (J.hok b o e).stay (fun c v hc q=>k c v ?_ q) (fun _ q=>q) fun _ _ q=>q
    rintro rfl
    rcases hc with z | z
    · subst z; rw [hC] at e; cases e
    · rw [hC] at z; cases z
  · obtain ⟨f0,f1,f2,f3,f4,f5⟩:=hf b hb
    exact ⟨f3,f1,f4,f5⟩
end
section
variable {prog:Program} {w:World} {A:Around} {R:Result→Shared→Prop} {s:Shared}
theorem sS {elt target iter:Expr} {ifs:List Expr} {scope:Scope} {pos:Pos} {it acc:Value} {env:Env} (I:Nat→Shared→Prop)
    (turn:∀ n s,I n s→wpAny (model prog w) A (pyNext it) (fun r s₁=>match r with
      | none=>R (.ok .next) s₁
      | some v=>wpAny (model prog w) A (letOwnedTupleGo target it v) (fun _ s1'=>wpAny (model prog w) A (assign target env v) (fun _ s₂ =>
          wpAny (model prog w) A (forIn ifs true fun c r=>if r=true then do let ok ← isTrue c env (eval c env); pure (ForInStep.yield ok) else pure (ForInStep.yield r)) (fun ok s₃ =>
            if ok=true then wpAny (model prog w) A (eval elt env) (fun x s₄ =>
              wpAny (model prog w) A (call (.builtin "list.append") [acc,x]) (fun _ s₅=>∃ m,m < n∧I m s₅) (fun _ _=>False) s₄) (fun _ _=>False) s₃
            else ∃ m,m < n∧I m s₃) (fun _ _=>False) s₂) (fun _ _=>False) s1') (fun _ _=>False) s₁) (fun _ _=>False) s)
    (n:Nat) (h:I n s) :
    codeAny (model prog w) A (.compLoop (.ListComp elt [⟨target,iter,ifs,0⟩] scope pos) 0 it acc env) R s:=by
  refine codeAny_loop rfl I (fun n s hI=>?_) n h
  show wpAny _ A ((compTurn (.ListComp elt [⟨target,iter,ifs,0⟩] scope pos) 0 it acc env).onRaise (fun x=>do noteFrame x env; theTreesLotGoes x)) _ _ s
  refine wpAny_noted ?_
  rw [compTurn_list]
  refine wpAny_bind (wpAny_standAt (wpAny_bind (wpAny_mono (turn n s hI) (fun r s₁ h₁=>?_) fun _ _ h'=>h'.elim)))
  cases r with
  | none=>exact wpAny_pure h₁
  | some v =>
    refine wpAny_bind (wpAny_mono h₁ (fun _ s1' h1'=>?_) fun _ _ h'=>h'.elim)
    refine wpAny_bind (wpAny_mono h1' (fun _ s₂ h₂=>wpAny_bind (wpAny_mono h₂ (fun ok s₃ h₃=>?_) fun _ _ h'=>h'.elim)) fun _ _ h'=>h'.elim)
    cases ok with
    | false=>exact wpAny_pure ⟨rfl,h₃⟩
    | true =>
      exact wpAny_bind (wpAny_bind (wpAny_mono h₃ (fun x s₄ h₄=>wpAny_bind (wpAny_mono h₄ (fun _ s₅ h₅=>wpAny_pure (wpAny_pure ⟨rfl,h₅⟩)) fun _ _ h'=>h'.elim)) fun _ _ h'=>h'.elim))
end
noncomputable def EG:TT:=fun _ H Q=>Q true H
inductive PTs (X:Cx):List Expr→TT→Prop
  | nil:PTs X [] EG
  | one {c:Expr} {t:TT} (h:PT X c t):PTs X [c] t
theorem PTs.run {X:Cx} {ifs:List Expr} {t:TT} (h:PTs X ifs t) {pins:List (Addr × Obj)} {s:Shared} {σ:St} {H:Hp} {Q:Bool→Hp→Prop} (I:Inv X pins σ H s) (q:t σ H Q) :
    wpAny (model X.prog X.w) X.A (forIn ifs true fun c r=>if r=true then do let ok ← isTrue c X.env (eval c X.env); pure (ForInStep.yield ok) else pure (ForInStep.yield r)) (TP X pins σ Q) X.xe s:=by
  cases h with
  | nil=>exact wpAny_tests_nil ⟨H,I,q⟩
  | one h=>exact wpAny_tests_one (h pins s σ H Q I q)
noncomputable def LCR (J:It) (n:Nat) (g:TG) (tt:TT) (te:TE) (σ:St) (H1:Hp) (Q:VK):Prop:=∀ D,H1 D=none→∃ W:Nat→Nat→List V→Hp→Prop,(∃ m,W 0 m [] (upd H1 D (.lst []))) ∧
  ∀ i m ys H,W i m ys H→H D=some (.lst ys)∧((J.stop i H∧Q (.ref D) H)∨(J.go i H∧∀ x H' σ',σ'.length=n→J.yld i H x H'→g x (σ++σ') H' fun σ2 H2=>tt σ2 H2 fun b H3 =>
    if b=true then te σ2 H3 fun v H4=>H4 D=some (.lst ys)∧ys.length < sizeLine∧(∃ σ'',σ2=σ++σ''∧σ''.length=n)∧∃ m',m' < m∧W (i + 1) m' (ys++[v]) (upd H4 D (.lst (ys++[v])))
    else (∃ σ'',σ2=σ++σ''∧σ''.length=n)∧∃ m',m' < m∧W (i + 1) m' ys H3))
noncomputable def tLC (n:Nat) (wi:TI) (g:TG) (tt:TT) (te:TE):TE:=fun σ H Q=>wi σ H fun J H1=>LCR J n g tt te σ H1 Q
theorem qH {X:Cx} {M:List Str} {elt tg iter:Expr} {ifs:List Expr} {scope:Scope} {pos cpos:Pos} {own:List Str} {wi:TI} {g:TG} {tt:TT} {te:TE} {use:Option (Value→Sem Unit)} {Qf:Value→Shared→Prop} (hc:X.calm=true) (hi:PI X tg iter wi)
    (hg:∀ C s2 H2 fp,PG (blk X M scope own C s2 H2 fp) tg g) (ht:∀ C s2 H2 fp,PTs (blk X M scope own C s2 H2 fp) ifs tt) (he:∀ C s2 H2 fp,PE (blk X M scope own C s2 H2 fp) elt te)
    (hB:pI X.N M X.env.scope scope own=true) (hs:∀ x,foldedSetIterable iter X.env x=pure x) {pins:List (Addr × Obj)} {s:Shared} {σ:St} {H:Hp} {Q:VK} (I:Inv X pins σ H s) (h:tLC own.length wi g tt te σ H Q)
    (fin:∀ (C D:Addr) (s5:Shared) (H4:Hp),(∀ h',Heap.SameBut C s5.heap h'→Inv X pins σ H4 { s5 with heap:=h' })→(∃ m,s5.heap.Ns C m)→H4 C=none→C≠X.env.locals→(∀ x c,X.env.cells.lookup x=some c→c≠C)→(∀ p∈X.pn++pins,p.1≠C)→X.s₀.heap.objs.size≤C→Q (.ref D) H4 →
      compPost (model X.prog X.w) X.A X.xe use Qf (.ref D) C (.ok .next) s5) :
    wpAny (model X.prog X.w) X.A (comprehension (.ListComp elt [⟨tg,iter,ifs,0⟩] scope pos) scope X.env cpos (newList []) false (eval iter X.env) use) Qf X.xe s:=by
  have B:kU X M scope own:=kU.of hB
  have hclos:closureFor scope X.env=pure (o7 scope.names X.env.cells []):=pf fun y hy hf=>by
    obtain ⟨hv,hnl⟩:=B.free y hy hf
    have hh:X.env.kindOf y.1=some .cell∨X.env.kindOf y.1=some .free:=by
      rcases hv with z | z | z
      · exact absurd z hnl
      · exact .inl z
      · exact .inr z
    exact I.ok.has y.1 hh
  refine wpAny_comprehension_free (use:=use) rfl hs hclos B.kind B.names (thn (hi pins s σ H _ I h) fun v s1 h1=>thn h1 fun itv s2 h2=>?_)
  obtain ⟨it,fp,tn,J,H2,e,I2,T,st2,f2,hD⟩:=h2
  subst e
  have ffs:∀ b∈fp,b < s2.heap.objs.size:=fun b hb=>by
    obtain ⟨o,q,_⟩:=T.obj _ _ st2 b hb
    exact Heap.lt_size q
  obtain ⟨W,⟨m0,w0⟩,turn⟩:=hD s2.heap.objs.size (I2.hok.fresh (Nat.le_refl _))
  refine wpAny_newObj_type (wpAny_newFunctionEnv B.nocell (by intro y hy; simp at hy) (fun h₁ hns₁ hsb₁=>?_) B.kind)
  dsimp only at hns₁ hsb₁ ⊢
  generalize hG:s2.heap.push { cls:=.type "list",dict:=none,data:=.seq ([]:List Value).toArray }=G at hns₁ hsb₁ ⊢
  have hC:G.objs.size=s2.heap.objs.size + 1:=by rw [← hG,Heap.size_push]
  have hk:∀ b o,s2.heap.get? b=some o→h₁.get? b=some o:=fun b o e=>hsb₁.extBut b o (by
    rw [hC]; exact Nat.ne_of_lt (Nat.lt_succ_of_lt (Heap.lt_size e))) (Heap.get?_push_of_some _ (hG ▸ Heap.get?_push_of_some _ e))
  have hDC:s2.heap.objs.size≠G.objs.size:=by rw [hC]; exact Nat.ne_of_lt (Nat.lt_succ_self _)
  have hl:h₁.get? s2.heap.objs.size=some { cls:=.type "list",data:=.seq ([]:List Value).toArray 0 }:=hsb₁.extBut _ _ hDC (Heap.get?_push_of_some _ (hG ▸ Heap.get?_push_size _ rfl))
  have hns:h₁.Ns G.objs.size (fun _=>none):=by
    have e:(fun x=>([]:List (Str × Value)).reverse.lookup x)=fun _=>none:=by funext x; rfl
    rw [← e]; exact hns₁
  have I3:=fun t'=>I2.blk (t':=t') (C:=G.objs.size) (D:=s2.heap.objs.size) B f2 ffs rfl hC hl hns hk
  have stat:∀ {H':Hp},(∀ b∈fp,H' b=none)→∀ b∈fp,p7 (blk X M scope own G.objs.size s2 H2 fp) [] H' b:=fun hn b hb=>by
    refine ⟨hn b hb,?_,?_,.inl hb,fun x c e z=>?_,fun p hp=>absurd (show p∈([]:List (Addr × Obj))++[] from hp) (by simp)⟩
    · show b≠G.objs.size
      rw [hC]; exact Nat.ne_of_lt (Nat.lt_succ_of_lt (ffs b hb))
    · exact (I3 0).ok.exfs b hb
    · exact ((I3 0).ok.exf b hb).2 x c e z
  have loop:∀ s3:Shared,(∃ t',s3={ s2 with heap:=h₁,toks:=t' })→codeAny (model X.prog X.w) X.A (.compLoop (.ListComp elt [⟨tg,iter,ifs,0⟩] scope pos) 0 (.ref it) (.ref s2.heap.objs.size) (compEnvC scope (o7 scope.names X.env.cells []) G.objs.size X.env))
      (compPost (model X.prog X.w) X.A X.xe use Qf (.ref s2.heap.objs.size) G.objs.size) s3:=by
    rintro s3 ⟨t',rfl⟩
    refine sS (fun n s'=>∃ i ys σ' H',σ'.length=own.length∧Inv (blk X M scope own G.objs.size s2 H2 fp) [] (σ++σ') H' s'∧tn i s'.heap∧(∀ b∈fp,H' b=none)∧W i n ys H') ?_ m0
      ⟨0,[],_,_,by simp,I3 t',T.keep _ _ _ st2 fun b hb o e=>hk b o e,fun b hb=>by rw [bx (Nat.ne_of_lt (ffs b hb))]; exact (f2 b hb).1,w0⟩
    rintro n s4 ⟨i,ys,σ',H4,hl',I4,st4,fr4,w4⟩
    obtain ⟨hDl,alt⟩:=turn i n ys H4 w4
    rcases alt with ⟨stop,qn⟩ | ⟨go,step⟩
    · refine thn (T.done (blk X M scope own G.objs.size s2 H2 fp) rfl rfl rfl hc i [] s4 _ H4 _ I4 (stat fr4) st4 stop) fun r s5 rz2=>?_
      obtain ⟨hr,I5⟩:=rz2
      subst hr
      obtain ⟨m,hn,_⟩:=I5.loc
      have cS:s2.heap.objs.size≤G.objs.size:=by rw [hC]; exact Nat.le_succ _
      refine fin G.objs.size s2.heap.objs.size s5 H4 (fun h' hs'=>I2.unblk (C:=G.objs.size) f2 cS I5 hs') ⟨m,hn⟩ I5.free ?_ (fun x c e=>?_) (fun p hp=>?_) (Nat.le_trans I2.sz cS) qn
      · obtain ⟨_,hl0,_⟩:=I2.loc
        exact Nat.ne_of_gt (Nat.lt_of_lt_of_le hl0.lt cS)
      · obtain ⟨_,q⟩:=I2.cell x c e
        exact Nat.ne_of_lt (Nat.lt_of_lt_of_le q.lt cS)
      · exact Nat.ne_of_lt (Nat.lt_of_lt_of_le (Heap.lt_size (I2.pin p hp).1) cS)
    · refine thn (T.item (blk X M scope own G.objs.size s2 H2 fp) rfl rfl rfl hc i [] s4 _ H4 _ I4 (stat fr4) st4 go) fun r s5 rz2=>?_
      obtain ⟨u,hr,h5⟩:=rz2
      subst hr
      refine thn h5 fun _ s6 rz2=>?_
      obtain ⟨x,H6,I6,r6,y6,st6,fr6⟩:=rz2
      have I6':=I6.pinned (stat fr6) (T.obj _ _ st6)
      have kp:∀ {σ7:St} {H7:Hp} {s7:Shared},Inv (blk X M scope own G.objs.size s2 H2 fp) ([]++qf fp s6.heap) σ7 H7 s7→tn (i + 1) s7.heap∧∀ b∈fp,H7 b=none:=fun {σ7 H7 s7} I7=>by
        refine ⟨T.keep _ _ _ st6 fun b hb o e=>(I7.pin (b,o) (List.mem_append_right _ (List.mem_append_right _ (jY hb e)))).1,fun b hb=>?_⟩
        obtain ⟨o,e,d⟩:=T.obj _ _ st6 b hb
        exact (I7.pin (b,o) (List.mem_append_right _ (List.mem_append_right _ (jY hb e)))).2.1
      refine thn (hg _ _ _ _ _ s6 _ H6 x u _ I6' r6 (step x H6 σ' hl' y6)) fun _ s7 rz2=>?_
      obtain ⟨σ7,H7,I7,q7⟩:=rz2
      refine thn ((ht _ _ _ _).run I7 q7) fun ok s8 rz2=>?_
      obtain ⟨H8,I8,q8⟩:=rz2
      cases ok with
      | false =>
        obtain ⟨⟨σ'',e,l''⟩,m',hm,w8⟩:=(show if false=true then _ else _ from q8)
        subst e
        obtain ⟨k1,k2⟩:=kp I8
        exact ⟨m',hm,i + 1,ys,σ'',H8,l'',I8.unpinned,k1,k2,w8⟩
      | true =>
        have q8:te σ7 H8 _:=q8
        refine thn (he _ _ _ _ _ s8 σ7 H8 _ I8 q8) fun y s9 rz2=>?_
        obtain ⟨v,H9,I9,r9,d9,z9,⟨σ'',e,l''⟩,m',hm,w9⟩:=rz2
        subst e
        refine thn (oG (X:=blk X M scope own G.objs.size s2 H2 fp) _ s9 _ H9 (.ref s2.heap.objs.size) [v] (.ref s2.heap.objs.size) [y] (fun _ H'=>H'=upd H9 s2.heap.objs.size (.lst (ys++[v]))) I9 rfl (.cons r9 .nil) ⟨_,ys,v,rfl,rfl,d9,z9,rfl⟩) fun _ s10 rz2=>?_
        obtain ⟨_,H10,I10,_,e10⟩:=rz2
        subst e10
        obtain ⟨k1,k2⟩:=kp I10
        exact ⟨m',hm,i + 1,ys++[v],σ'',_,l'',I10.unpinned,k1,k2,w9⟩
  exact codeAny_compStart_list (loop _ ⟨_,rfl⟩) (T.self _ 0 _ _ _ (T.keep _ _ _ st2 fun b hb o e=>hk b o e) (loop _ ⟨_,rfl⟩))
theorem AO {X:Cx} {M:List Str} {elt tg iter:Expr} {ifs:List Expr} {scope:Scope} {pos:Pos} {own:List Str} {wi:TI} {g:TG} {tt:TT} {te:TE} (hc:X.calm=true) (hi:PI X tg iter wi)
    (hg:∀ C s2 H2 fp,PG (blk X M scope own C s2 H2 fp) tg g) (ht:∀ C s2 H2 fp,PTs (blk X M scope own C s2 H2 fp) ifs tt) (he:∀ C s2 H2 fp,PE (blk X M scope own C s2 H2 fp) elt te)
    (hB:pI X.N M X.env.scope scope own=true:=by rfl) (hs:∀ x,foldedSetIterable iter X.env x=pure x:=by intro _; rfl):PE X (.ListComp elt [⟨tg,iter,ifs,0⟩] scope pos) (tLC own.length wi g tt te):=by
  intro pins s σ H Q I h
  rw [eval_ListComp]
  refine qH hc hi hg ht he hB hs I h fun C D s5 H4 k rz5 _ _ _ _ _ q=>?_
  obtain ⟨m,hn⟩:=rz5
  exact ⟨m,hn,fun h' hs'=>⟨.ref D,H4,k h' hs',rfl,q⟩⟩
theorem Am {X:Cx} {M:List Str} {elt tg iter:Expr} {ifs:List Expr} {scope:Scope} {pos pos' spos:Pos} {own:List Str} {wi:TI} {g:TG} {tt:TT} {te:TE} {i:Nat} {x:Str} (hc:X.calm=true) (hN:X.N.Nodup) (hxi:X.N[i]?=some x) (hx:Loc X.env.scope x)
    (hsw:swapsWith (.ListComp elt [⟨tg,iter,ifs,0⟩] scope pos) (some (.Name x pos')) spos.line X.env=pure true) (hi:PI X tg iter wi)
    (hg:∀ C s2 H2 fp,PG (blk X M scope own C s2 H2 fp) tg g) (ht:∀ C s2 H2 fp,PTs (blk X M scope own C s2 H2 fp) ifs tt) (he:∀ C s2 H2 fp,PE (blk X M scope own C s2 H2 fp) elt te)
    (hB:pI X.N M X.env.scope scope own=true:=by rfl) (hs:∀ x,foldedSetIterable iter X.env x=pure x:=by intro _; rfl) (hf:X.fn x=true∨X.env.scope.names.lookup x=some .local:=by first | exact .inl rfl | exact .inr rfl | assumption) :
    PS X (.Assign [.Name x pos'] (.ListComp elt [⟨tg,iter,ifs,0⟩] scope pos) spos) (Ck (tLC own.length wi g tt te) (oS i)):=by
  intro pins s σ H D I h
  show wpAny _ _ (exec _ X.env) _ _ s
  rw [exec_Assign_Name_used _ _ _ _ hsw]
  refine wpAny_bind (wpAny_standAt (wpAny_bind ?_))
  rw [arm_evalThenUse_ListComp]
  refine wpAny_bind (thn (qH (use:=some (assign (.Name x pos') X.env)) (Qf:=fun _ s'=>SP X pins D .next s') hc hi hg ht he hB hs I h fun C Dd s5 H4 k rz5 hC nl nc np ns q=>?_) fun _ s' hq=>wpAny_pure (wpAny_pure hq))
  obtain ⟨m,hn⟩:=rz5
  have I5:=k s5.heap (Heap.SameBut.refl _ _)
  show wpAny _ _ (assign (.Name x pos') X.env (.ref Dd)) _ _ s5
  refine wpAny_assign_Name (sx (v:=.ref Dd) I5 hN hxi hx rfl (fun s3 I3 rz2=>?_) hf)
  obtain ⟨a,sb,ha⟩:=rz2
  have nCa:C≠a:=by
    rcases ha with rfl | ha
    · exact nl
    · exact fun z=>nc x a ha z.symm
  refine ⟨m,hn.sameBut sb nCa,fun h' hs'=>⟨_,H4,?_,q⟩⟩
  have kk:∀ b o,b≠C→s3.heap.get? b=some o→h'.get? b=some o:=fun b o hb e=>(hs'.2 b hb).trans e
  refine I3.call' (s':={ s3 with heap:=h' }) (ch:=[C]) rfl ?_ ?_ I3.bare fun b hb=>?_
  · refine ⟨fun b o e _ _ z=>kk b o (fun q=>z (by rw [q]; exact List.mem_singleton.mpr rfl)) e,fun b o e _ _ z=>⟨o.slots,kk b o (fun q=>z (by rw [q]; exact List.mem_singleton.mpr rfl)) e⟩,fun _ _ _ n _=>n,fun b o e z=>⟨o,kk b o (fun q=>z (by rw [q]; exact List.mem_singleton.mpr rfl)) e⟩,fun _ _ q=>q,fun _ _ _ q=>q,fun _ _ q=>q⟩
  · intro b o e
    refine (I3.hok b o e).stay (fun c v hc q=>kk c v ?_ q) (fun _ q=>q) fun _ _ q=>q
    rintro rfl
    rcases hc with z | z
    · subst z; rw [hC] at e; cases e
    · rw [hC] at z; cases z
  · rw [List.mem_singleton.mp hb]
    exact ⟨.inr ns,fun z=>nl z,nc,np⟩
end L2
set_option maxRecDepth 100000
set_option maxHeartbeats 4000000
namespace L2
open PySem PySem.Spec PyProof.Rows
mutual
noncomputable def IsD (K:PySem.W.Frag) (H:Hp):PyData→V→Prop
  | .none,v=>v=.non
  | .bool b,v=>v=.bl b
  | .int i,v=>v=.int i
  | .str x,v=>v=.str x
  | .list ds,v=>∃ a xs,v=.ref a∧SqL K H a xs∧fz K H ds xs
  | .tuple ds,v=>∃ a xs,v=.ref a∧SqT K H a xs∧fz K H ds xs
  | .dict _,_=>False
noncomputable def fz (K:PySem.W.Frag) (H:Hp):List PyData→List V→Prop
  | [],vs=>vs=[]
  | d::ds,vs=>∃ v r,vs=v::r∧IsD K H d v∧fz K H ds r
end
theorem aM.tupS {K:PySem.W.Frag} {H H':Hp} {a:Addr} {xs:List V} (e:aM H H') (h:SqT K H a xs):SqT K H' a xs:=by
  rcases h with (h | ⟨o,h⟩) | h
  · exact .inl (.inl (e _ _ h))
  · exact .inl (.inr ⟨o,e _ _ h⟩)
  · exact .inr h
mutual
theorem IsD.same {K:PySem.W.Frag} {H H':Hp} (e:aM H H'):∀ {d:PyData} {v:V},IsD K H d v→IsD K H' d v
  | .none,_,h=>by unfold IsD at h ⊢; exact h
  | .bool _,_,h=>by unfold IsD at h ⊢; exact h
  | .int _,_,h=>by unfold IsD at h ⊢; exact h
  | .str _,_,h=>by unfold IsD at h ⊢; exact h
  | .list ds,_,h=>by
    unfold IsD at h ⊢
    obtain ⟨a,xs,e1,h1,h2⟩:=h
    exact ⟨a,xs,e1,e.seq h1,fz.same e h2⟩
  | .tuple ds,_,h=>by
    unfold IsD at h ⊢
    obtain ⟨a,xs,e1,h1,h2⟩:=h
    exact ⟨a,xs,e1,e.tupS h1,fz.same e h2⟩
  | .dict _,_,h=>by unfold IsD at h; exact h.elim
theorem fz.same {K:PySem.W.Frag} {H H':Hp} (e:aM H H'):∀ {ds:List PyData} {vs:List V},fz K H ds vs→fz K H' ds vs
  | [],_,h=>by unfold fz at h ⊢; exact h
  | d::ds,_,h=>by
    unfold fz at h ⊢
    obtain ⟨v,r,e1,h1,h2⟩:=h
    exact ⟨v,r,e1,IsD.same e h1,fz.same e h2⟩
end
section
variable {K:PySem.W.Frag} {H:Hp}
theorem sO {i:Int}:IsD K H (.int i) (.int i):=by unfold IsD; rfl
theorem Aq {b:Bool}:IsD K H (.bool b) (.bl b):=by unfold IsD; rfl
theorem zI:IsD K H .none .non:=by unfold IsD; rfl
theorem Bq {x:Str}:IsD K H (.str x) (.str x):=by unfold IsD; rfl
theorem BH {ds:List PyData} {a:Addr} {xs:List V} (h:SqT K H a xs) (h2:fz K H ds xs):IsD K H (.tuple ds) (.ref a):=by unfold IsD; exact ⟨a,xs,rfl,h,h2⟩
theorem sT {ds:List PyData} {a:Addr} {xs:List V} (h:SqL K H a xs) (h2:fz K H ds xs):IsD K H (.list ds) (.ref a):=by unfold IsD; exact ⟨a,xs,rfl,h,h2⟩
theorem pW:fz K H [] []:=by unfold fz; rfl
theorem rP {d:PyData} {ds:List PyData} {v:V} {vs:List V} (h:IsD K H d v) (h2:fz K H ds vs):fz K H (d::ds) (v::vs):=by unfold fz; exact ⟨v,vs,rfl,h,h2⟩
theorem IsD.ofInt {i:Int} {v:V} (h:IsD K H (.int i) v):v=.int i:=by unfold IsD at h; exact h
theorem IsD.ofBool {i:Bool} {v:V} (h:IsD K H (.bool i) v):v=.bl i:=by unfold IsD at h; exact h
theorem IsD.ofNone {v:V} (h:IsD K H .none v):v=.non:=by unfold IsD at h; exact h
theorem IsD.ofStr {x:Str} {v:V} (h:IsD K H (.str x) v):v=.str x:=by unfold IsD at h; exact h
theorem IsD.ofTup {ds:List PyData} {v:V} (h:IsD K H (.tuple ds) v):∃ a xs,v=.ref a∧SqT K H a xs∧fz K H ds xs:=by unfold IsD at h; exact h
theorem IsD.ofLst {ds:List PyData} {v:V} (h:IsD K H (.list ds) v):∃ a xs,v=.ref a∧SqL K H a xs∧fz K H ds xs:=by unfold IsD at h; exact h
theorem fz.nil_of {vs:List V} (h:fz K H [] vs):vs=[]:=by unfold fz at h; exact h
theorem fz.cons_of {d:PyData} {ds:List PyData} {vs:List V} (h:fz K H (d::ds) vs):∃ v r,vs=v::r∧IsD K H d v∧fz K H ds r:=by unfold fz at h; exact h
theorem rG:∀ (ns:List Int),fz K H (ns.map PyData.int) (ns.map V.int)
  | []=>pW
  | _::r=>rP sO (rG r)
end
section
variable {X:Cx} {pins:List (Addr × Obj)} {σ:St} {H:Hp} {s:Shared}
mutual
theorem Inv.reads (I:Inv X pins σ H s):∀ {d:PyData} {v:V} {u:Value},IsD X.K H d v→RelV v u→∃ as,Reads s.heap u d as
  | .none,_,_,h,r=>by rw [h.ofNone] at r; cases r; exact ⟨_,.none⟩
  | .bool _,_,_,h,r=>by rw [h.ofBool] at r; cases r; exact ⟨_,.bool _⟩
  | .int _,_,_,h,r=>by rw [h.ofInt] at r; obtain ⟨t,rfl⟩:=r; exact ⟨_,.int _ _⟩
  | .str _,_,_,h,r=>by rw [h.ofStr] at r; obtain ⟨t,rfl⟩:=r; exact ⟨_,.str _ _⟩
  | .list ds,_,_,h,r=>by
    obtain ⟨a,xs,e,h1,h2⟩:=h.ofLst
    subst e; cases r
    obtain ⟨its,rv,⟨o,n,g,c,_,d⟩,_⟩:=I.list h1
    obtain ⟨as,ra⟩:=Inv.readsAll I h2 rv
    exact ⟨_,.list g c d (by simpa using ra)⟩
  | .tuple ds,_,_,h,r=>by
    obtain ⟨a,xs,e,h1,h2⟩:=h.ofTup
    subst e; cases r
    obtain ⟨its,rv,⟨o,g,c,n,d⟩,_⟩:=I.tuple h1
    obtain ⟨as,ra⟩:=Inv.readsAll I h2 rv
    exact ⟨_,.tuple g c d (by simpa using ra)⟩
  | .dict _,_,_,h,_=>by unfold IsD at h; exact h.elim
theorem Inv.readsAll (I:Inv X pins σ H s):∀ {ds:List PyData} {vs:List V} {us:List Value},fz X.K H ds vs→Vals vs us→∃ as,ReadsAll s.heap us ds as
  | [],_,_,h,r=>by
    rw [h.nil_of] at r
    cases r
    exact ⟨_,.nil⟩
  | d::ds,_,_,h,r=>by
    obtain ⟨v,t,e,h1,h2⟩:=h.cons_of
    subst e
    cases r with
    | cons r1 r2 =>
      obtain ⟨as,q1⟩:=Inv.reads I h1 r1
      obtain ⟨bs,q2⟩:=Inv.readsAll I h2 r2
      exact ⟨_,.cons q1 q2⟩
end
open PySem.SeqAt in
theorem vU (hu:X.A.units + 64 < cLine):OpR X (compareOp .Eq) (fun x y H Q=>∃ d e,IsD X.K H d x∧IsD X.K H e y∧shaped d=true∧shaped e=true∧Q (.bl (PyData.eqv d e)) H):=by
  intro pins s σ H x y v u Q I rx ry h
  obtain ⟨d,e,hd,he,sd,se,q⟩:=h
  obtain ⟨as,ra⟩:=I.reads hd rx
  obtain ⟨bs,rb⟩:=I.reads he ry
  exact eq_dataH ra rb sd se hu ⟨.bl _,H,I,rfl,q⟩
open PySem.SeqAt in
theorem Ej (hu:X.A.units + 64 < cLine):OpR X (compareOp .NotEq) (fun x y H Q=>∃ d e,IsD X.K H d x∧IsD X.K H e y∧shaped d=true∧shaped e=true∧Q (.bl (!PyData.eqv d e)) H):=by
  intro pins s σ H x y v u Q I rx ry h
  obtain ⟨d,e,hd,he,sd,se,q⟩:=h
  obtain ⟨as,ra⟩:=I.reads hd rx
  obtain ⟨bs,rb⟩:=I.reads he ry
  exact ne_dataH ra rb sd se hu ⟨.bl _,H,I,rfl,q⟩
noncomputable def tyD:PyData→String
  | .none=>"NoneType"
  | .bool _=>"bool"
  | .int _=>"int"
  | .str _=>"str"
  | .list _=>"list"
  | .tuple _=>"tuple"
  | .dict _=>"dict"
noncomputable def tY (d:PyData) (T:String):Bool:=tyD d == T || (T == "int" && tyD d == "bool")
theorem Ct (K:PySem.W.Frag) {a T:String} (ha:a∈["NoneType", "bool", "int", "str", "list", "tuple"]) (hT:T∈["bool", "int", "list", "tuple"]) :
    PySem.W.kitOne K (.type a) (.type T)=some (a == T || (T == "int" && a == "bool")):=by
  simp only [List.mem_cons,List.not_mem_nil,or_false] at ha hT
  rcases ha with rfl | rfl | rfl | rfl | rfl | rfl <;> rcases hT with rfl | rfl | rfl | rfl <;> rfl
theorem Cr {H:Hp} {K:PySem.W.Frag} {d:PyData} {v:V} (h:IsD K H d v):tyD d∈["NoneType", "bool", "int", "str", "list", "tuple"]:=by
  cases d with
  | dict _=>unfold IsD at h; exact h.elim
  | _=>simp [tyD]
theorem uJ:lR X (.builtin "isinstance") (fun xs H Q=>∃ d v T,xs=[v,.ty T]∧IsD X.K H d v∧T∈["bool", "int", "list", "tuple"]∧Q (.bl (tY d T)) H):=by
  intro pins s σ H xs us Q I r h
  obtain ⟨d,v,T,rfl,hd,hT,q⟩:=h
  obtain ⟨u,c,rfl,r1,r2⟩:=vals2 r
  cases r2
  have e:PySem.W.kitOne X.K (.type (tyD d)) (.type T)=some (tY d T):=Ct X.K (Cr hd) hT
  have fin:∀ tk,EP X pins σ Q (.bool (tY d T)) { s with toks:=tk }:=fun tk=>⟨.bl _,H,I.tok tk,rfl,q⟩
  cases d with
  | none=>rw [hd.ofNone] at r1; cases r1; exact PySem.W.kia_one PySem.W.kitx_none I.kIn True.intro e (fun z=>nomatch z) fin
  | bool b=>rw [hd.ofBool] at r1; cases r1; exact PySem.W.kia_one PySem.W.kitx_bool I.kIn True.intro e (fun z=>nomatch z) fin
  | int i=>rw [hd.ofInt] at r1; obtain ⟨t,rfl⟩:=r1; exact PySem.W.kia_one PySem.W.kitx_int I.kIn True.intro e (fun z=>nomatch z) fin
  | str x=>rw [hd.ofStr] at r1; obtain ⟨t,rfl⟩:=r1; exact PySem.W.kia_one PySem.W.kitx_str I.kIn True.intro e (fun z=>nomatch z) fin
  | list ds =>
    obtain ⟨a,xs,e1,h1,h2⟩:=hd.ofLst
    subst e1; cases r1
    obtain ⟨its,rv,⟨o,n,g,c,_,_⟩,_⟩:=I.list h1
    exact PySem.W.kia_one PySem.W.kitx_list I.kIn ⟨o,g,c⟩ e (fun z=>nomatch z) fin
  | tuple ds =>
    obtain ⟨a,xs,e1,h1,h2⟩:=hd.ofTup
    subst e1; cases r1
    obtain ⟨its,rv,⟨o,g,c,n,_⟩,_⟩:=I.tuple h1
    exact PySem.W.kia_one PySem.W.kitx_tuple I.kIn ⟨o,g,c⟩ e (fun z=>nomatch z) fin
  | dict _=>unfold IsD at hd; exact hd.elim
theorem qp:∀ {bs:List Bool} {us:List Value},Vals (bs.map V.bl) us→LSm.BoolsAre us bs
  | [],_,.nil=>.nil
  | b::r,_,.cons h t=>by
    cases (show _=Value.bool b from h)
    exact .cons b (qp t)
theorem AX (hc:X.calm=true):lR X (.builtin "all") (fun xs H Q=>∃ (a:Addr) (bs:List Bool),xs=[.ref a]∧SqL X.K H a (bs.map V.bl)∧Q (.bl (bs.all id)) H):=by
  intro pins s σ H xs us Q I r h
  obtain ⟨a,bs,rfl,hS,q⟩:=h
  obtain ⟨u,rfl,r1⟩:=vals1 r
  cases r1
  obtain ⟨its,rv,p,_⟩:=I.list hS
  have hl:=p.isList
  have hb:=qp rv
  have hlt:a < s.heap.objs.size:=by obtain ⟨_,e,_⟩:=hl; exact Heap.lt_size e
  refine call_all_walk (wpAny_pyIter_list hl ?_)
  refine ⟨s.heap.objs.size,[s.heap.objs.size,a],[s.heap.objs.size],its.toArray.size,_,_,fun i=>(bs[i]?).getD true,rfl,Walks.list (A:=X.A.in1) (I.ok.hd hc) _ a (Nat.ne_of_lt hlt) its.toArray,
    ⟨⟨_,Heap.get?_push_size _ rfl,rfl,rfl⟩,hl.push _⟩,fun i v s' Q' E' hP hQ=>?_,fun h' tk hk=>?_⟩
  · obtain ⟨b,e,rfl⟩:=hb.get i v (by simpa using hP)
    simp only [e,Option.getD_some] at hQ
    exact wpAny_truthy_bool hQ
  · have e:((List.range its.toArray.size).all fun i=>(bs[i]?).getD true)=bs.all id:=by
      rw [List.size_toArray,hb.length]; exact LSm.range_all bs
    rw [e]
    exact ⟨.bl _,H,I.kept (LSm.kept_iter hk),rfl,q⟩
theorem Af (hc:X.calm=true):lR X (.builtin "sum") (fun xs H Q=>∃ (a:Addr) (ns:List Int),xs=[.ref a]∧SqL X.K H a (ns.map V.int)∧Q (.int ns.sum) H):=by
  intro pins s σ H xs us Q I r h
  obtain ⟨a,ns,rfl,hS,q⟩:=h
  obtain ⟨u,rfl,r1⟩:=vals1 r
  cases r1
  obtain ⟨its,rv,p,_⟩:=I.list hS
  have hi:IntsAre its ns:=intsAre_of rv
  obtain ⟨xs,hx⟩:=hi.allInts.items
  have hl':s.heap.IsList a (intItems xs):=hx ▸ p.isList
  refine sum_intListG (I.ok.hd hc) hl' fun h' tk t' hk=>?_
  have e1:ns=xs.toList.map (·.1):=by
    rw [← nums_intItems,← hx]
    exact (show numsOf its.toArray.toList=ns from hi.numsOf).symm
  have e2:preSum (numAt xs) xs.size=ns.sum:=by
    rw [preSum_eq,List.take_of_length_le (by simp),e1]
  rw [e2]
  exact ⟨.int _,H,I.kept hk,⟨_,rfl⟩,q⟩
end
end L2
set_option maxRecDepth 100000
set_option maxHeartbeats 4000000
namespace L2
open PySem PySem.Spec PyProof.Rows
structure FA (P:Program) (w:World) (outer:List Env) (H:Hp) (s:Shared) (H':Hp) (B:Heap) (ea:Addr) (cls a0:Value) (s':Shared):Prop where
  os:s'.os=s.os
  bare:AllBare s'.gens
  hok:HOk P w H' B
  keep:∀ b o,s.heap.get? b=some o→H b=none→b ∉ frs outer→B.get? b=some o
  there:∀ b o,s.heap.get? b=some o→b ∉ frs outer→∃ o',B.get? b=some o'
  slot:∀ b o,s.heap.get? b=some o→b∈frs outer→∃ sl,s'.heap.get? b=some { o with slots:=sl }
  free:∀ b o,s.heap.get? b=some o→H b=none→H' b=none
  tups:∀ b xs,H b=some (.tup xs)→H' b=some (.tup xs)
  frzs:∀ b o u,H b=some (.frz o u)→H' b=some (.frz o u)
  tbls:∀ b q,H b=some (.tbl q)→H' b=some (.tbl q)
  fly:Heap.FlyingW B outer ea cls a0 s'.heap
noncomputable def CXW (P:Program) (w:World):CXT:=fun outer H s E e s'=>∃ ea cls a0 H' B,e=.ref ea∧E cls none H'∧FA P w outer H s H' B ea cls a0 s'
section
variable {P:Program} {w:World} {K:PySem.W.Frag} {mg:Str→Option Value} {base:Heap} {N:List Str} {qual:Str} {scope:Scope} {f:Addr} {cd:Value} {A:Around} {outer:List Env} {s:Shared} {H:Hp} {E:XK}
theorem uR {env:Env} {L:Addr} (hf:env.frame=some L):frs (env::outer)=L::frs outer:=by
  unfold frs
  rw [List.filterMap_cons,hf]
theorem vO {CX:CXT} {pins:List (Addr × Obj)} {σ:St} {H1:Hp} {s1:Shared} {h':Heap} {ea:Addr} {cls:Value} {vs:List Value}
    (I:Inv (jD (CXW P w) P w K mg base N qual scope f cd A outer s H E) pins σ H1 s1) (hx:Heap.MadeExcOf s1.heap h' ea cls vs) (hE:E cls none H1) :
    (jD (CXW P w) P w K mg base N qual scope f cd A outer s H E).xe (.ref ea) { s1 with heap:=h' }:=by
  have hst:=I.stack
  have hfs:frs (jD (CXW P w) P w K mg base N qual scope f cd A outer s H E).stack=s.heap.objs.size::frs outer:=uR rfl
  have hin:∀ env∈(jD (CXW P w) P w K mg base N qual scope f cd A outer s H E).stack,∀ b,env.frame=some b→b∈frs (jD (CXW P w) P w K mg base N qual scope f cd A outer s H E).stack:=fun env he b hb=>List.mem_filterMap.mpr ⟨env,he,hb⟩
  have out:∀ b o,s.heap.get? b=some o→b ∉ frs outer→b ∉ frs (jD (CXW P w) P w K mg base N qual scope f cd A outer s H E).stack:=fun b o e n z=>by
    rw [hfs] at z
    rcases List.mem_cons.mp z with z | z
    · rw [z] at e; exact absurd (Heap.lt_size e) (Nat.lt_irrefl _)
    · exact n z
  refine wpAny_leaves_madeW (base:=PySem.W.hideAll s1.heap (frs (jD (CXW P w) P w K mg base N qual scope f cd A outer s H E).stack)) I.ok.frames rfl (fun b o q=>PySem.W.of_hideAll _ q) (PySem.W.funFrames_hide hst hin) hx fun h2 t x1 x2 x3 x4=>?_
  refine ⟨ea,cls,.ref t,H1,_,rfl,hE,⟨I.os,I.bare,?_,?_,?_,?_,?_,I.base.tups,I.base.frzs,I.base.tbls,x1⟩⟩
  · intro a o e
    refine (I.hok a o e).stay (fun b u hb q=>PySem.W.hideAll_get _ q fun z=>?_) (fun _ q=>q) fun _ _ q=>q
    have:=I.stkFree b z
    rcases hb with hb | hb
    · rw [hb,e] at this; cases this
    · rw [hb] at this; cases this
  · intro b o e n hb
    exact PySem.W.hideAll_get _ (I.base.keep b o e n hb (List.not_mem_nil)) (out b o e hb)
  · intro b o e hb
    obtain ⟨o',q⟩:=I.base.there b o e (List.not_mem_nil)
    exact ⟨o',PySem.W.hideAll_get _ q (out b o e hb)⟩
  · intro b o e hb
    obtain ⟨sl,q⟩:=I.base.slot b o e (I.ok.frf b hb) hb (List.not_mem_nil)
    obtain ⟨_,o2,q2,d2⟩:=I.ok.funs.mem hb
    have q2:s.heap.get? b=some o2:=q2
    rw [e] at q2
    cases q2
    obtain ⟨sl2,q3⟩:=x4 b _ (hx.keeps b _ q) d2
    exact ⟨sl2,q3⟩
  · intro b o e n
    exact I.base.free b o e n (List.not_mem_nil)
theorem aK:Passes (CXW P w) (jD (CXW P w) P w K mg base N qual scope f cd A outer s H E) E:=by
  intro pins σ H1 s1 e s2 I hc
  obtain ⟨ea,cls,a0,H2,B,rfl,hE,F⟩:=hc
  have hfs:frs (jD (CXW P w) P w K mg base N qual scope f cd A outer s H E).stack=s.heap.objs.size::frs outer:=uR rfl
  have out:∀ b o,s.heap.get? b=some o→b ∉ frs outer→b ∉ frs (jD (CXW P w) P w K mg base N qual scope f cd A outer s H E).stack:=fun b o e n z=>by
    rw [hfs] at z
    rcases List.mem_cons.mp z with z | z
    · rw [z] at e; exact absurd (Heap.lt_size e) (Nat.lt_irrefl _)
    · exact n z
  refine wpAny_leaves_onW I.ok.frames rfl F.fly fun h2 x1 x2=>⟨ea,cls,a0,H2,B,rfl,hE,⟨F.os.trans I.os,F.bare,F.hok,?_,?_,?_,?_,?_,?_,?_,x1⟩⟩
  · intro b o e n hb
    exact F.keep b o (I.base.keep b o e n hb (List.not_mem_nil)) (I.base.free b o e n (List.not_mem_nil)) (out b o e hb)
  · intro b o e hb
    obtain ⟨o',q⟩:=I.base.there b o e (List.not_mem_nil)
    exact F.there b o' q (out b o e hb)
  · intro b o e hb
    obtain ⟨sl,q⟩:=I.base.slot b o e (I.ok.frf b hb) hb (List.not_mem_nil)
    obtain ⟨_,o2,q2,d2⟩:=I.ok.funs.mem hb
    have q2:s.heap.get? b=some o2:=q2
    rw [e] at q2
    cases q2
    obtain ⟨sl1,q1⟩:=F.slot b _ q (by rw [hfs]; exact List.mem_cons_of_mem _ hb)
    obtain ⟨sl2,q3⟩:=x2 b _ q1 d2
    exact ⟨sl2,q3⟩
  · intro b o e n
    obtain ⟨o',q⟩:=I.base.there b o e (List.not_mem_nil)
    exact F.free b o' q (I.base.free b o e n (List.not_mem_nil))
  · intro b xs e
    exact F.tups b xs (I.base.tups b xs e)
  · intro b o u e
    exact F.frzs b o u (I.base.frzs b o u e)
  · intro b ps e
    exact F.tbls b ps (I.base.tbls b ps e)
end
theorem Cb {K:PySem.W.Frag} {h:Heap} {C:Addr} {bmB:List Value} {newId:String} (X:K.In h) (q:PySem.W.excIn K C bmB newId=true) :
    ∃ bm N nm qn bs hdct sn sub ab col dd k0 k1 k2 k3 k5 mN,h.get? C=some (excClassObj nm qn C N bs bm hdct sn sub ab col dd k0 k1 k2 k3 k5 newId)∧h.Ns N mN∧mN "__init__"=none∧OwnTail h bmB bm:=by
  unfold PySem.W.excIn at q
  split at q
  · rename_i d1 c1 l1 g1
    split at q
    · rename_i C2 bm2 j0 j1 j2 j3 n2 j5 hm hs
      simp only [Bool.and_eq_true,beq_iff_eq,Bool.not_eq_true'] at q
      obtain ⟨⟨⟨⟨⟨q1,q2⟩,q3⟩,q4⟩,q5⟩,q6⟩:=q
      subst q1; subst q2
      obtain ⟨z1,z2,z3,z4,z5,z6,z7,z8,z9,z10,z11⟩:=c1
      dsimp only at hm q3 q5 q6
      subst hm; subst q3
      have hl:l1=#[j0,j1,j2,j3,some (.builtin n2),j5]:=by
        obtain ⟨l⟩:=l1
        have hs':l=_:=hs
        rw [hs']
      subst hl
      exact ⟨bm2,z4,z1,z5,z2,z6,z7,z8,z9,z10,d1,j0,j1,j2,j3,j5,_,X _ _ g1,.of_isNs (PySem.W.isNs_of_in X q5),PySem.W.nsMap_none_of_in X q5 q6,PySem.W.tail_of_in X q4⟩
    · cases q
  · cases q
noncomputable def wO (X:Cx) (E:XK):Prop:=∀ (pins:List (Addr × Obj)) (σ:St) (H:Hp) (s:Shared) (h':Heap) (ea:Addr) (cls:Value) (vs:List Value),Inv X pins σ H s→Heap.MadeExcOf s.heap h' ea cls vs→E cls none H→X.xe (.ref ea) { s with heap:=h' }
noncomputable def C9 (C:Addr) (E:XK) (t:TA):TS:=fun _ σ H=>t σ H fun vs H1=>vs.length≤sizeLine∧E (.ref C) none H1
theorem Az {X:Cx} {E:XK} {x:Str} {C:Addr} {B newId initId:String} {bm:List Value} {np cpos pos:Pos} {e:Expr} {es:List Expr} {t:TA} (hc:X.calm=true) (M:wO X E) (FB:ExcBaseFacts B newId initId bm) (hg:Gl X x) (hm:X.mg x=some (.ref C)) (hC:PySem.W.excIn X.K C bm newId=true)
    (ha:PA X (e::es) t) (hdb:(x == ("__debug__":Str))=false:=by decide) (he:starEach (e::es) X.env=(false,eval e X.env)::starEach es X.env:=by rfl) (hpl:(backTo cpos (starEach es X.env)).any (·.1)=false:=by rfl) :
    PS X (.Raise (some (.Call (.Name x np) (e::es) [] cpos)) none pos) (C9 C E t):=by
  intro pins s σ H D I h
  obtain ⟨tl,N,nm,q,bs,hdct,sn,sub,ab,col,dd,k0,k1,k2,k3,k5,mN,hC0,hN,hni,T⟩:=Cb I.mod.kin hC
  refine wpAny_Raise_call_subT (C:=C) (nm:=nm) (q:=q) (N:=N) (bs:=bs) (bm:=tl) (hdct:=hdct) (sn:=sn) (sub:=sub) (ab:=ab) (col:=col) (dd:=dd) (k0:=k0) (k1:=k1) (k2:=k2) (k3:=k3) (k5:=k5)
    FB (mN:=mN) (T.hasType FB.hasBase) (I.ok.hd hc) (by rw [he]; show (false || (backTo cpos (starEach es X.env)).any (·.1))=false; rw [hpl]; rfl) hni (pz I hg hm ⟨rfl,?_⟩ hdb)
  have q0:=ha cpos pins s σ H _ I h
  rw [he] at q0 ⊢
  refine Calls.evalArgs_plain (wpAny_mono q0 (fun us s2 h2=>?_) fun _ _ y=>y)
  obtain ⟨vs,H2,I2,rv,z,hE⟩:=h2
  exact ⟨rfl,by rw [← rv.length]; exact z,I2.bk _ _ hC0,hN.keeps I2.bk,T.keeps I2.bk,fun h' ea hx=>M pins σ H2 s2 h' ea _ _ I2 hx hE⟩
end L2
set_option maxRecDepth 100000
set_option maxHeartbeats 4000000
namespace L2
open PySem PySem.Spec PyProof.Rows
end L2
set_option maxRecDepth 100000
set_option maxHeartbeats 4000000
namespace L2
open PySem PySem.Spec PyProof.Rows
theorem nh {H:Hp} {D:Addr} {o:HO} (h:H D=none):aM H (upd H D o):=fun b u e=>by rw [bx (bF e h)]; exact e
theorem aM.put {H H':Hp} {D:Addr} {o:HO} (s:aM H H') (h:H D=none):aM H (upd H' D o):=fun b u e=>by rw [bx (bF e h)]; exact s b u e
mutual
noncomputable def gI:PyData→Bool
  | .list _=>false
  | .tuple ds=>mJ ds
  | .dict _=>false
  | _=>true
noncomputable def mJ:List PyData→Bool
  | []=>true
  | d::ds=>gI d && mJ ds
end
theorem set_own (σ:St) (x:Option V) (v:V) (σ':St) (h:σ'.length=1):(σ++σ').set σ.length (some v)=σ++[some v]:=by
  obtain ⟨y,rfl⟩:=List.length_eq_one_iff.mp h
  simp
end L2
set_option maxRecDepth 100000
set_option maxHeartbeats 4000000
namespace L2
open PySem PySem.Spec PyProof.Rows
structure Rows (H H':Hp) (D:Addr) (qs:List Addr) (rs:List (List Int)):Prop where
  d:H' D=some (.lst (qs.map V.ref))
  len:qs.length=rs.length
  at':∀ (i:Nat) q r,qs[i]?=some q→rs[i]?=some r→H' q=some (.lst (r.map V.int))
  new:∀ q∈qs,H q=none
  nd:qs.Nodup
  nD:D ∉ qs
end L2
set_option maxRecDepth 100000
set_option maxHeartbeats 4000000
namespace L2
open PySem PySem.Spec PyProof.Rows
section
variable {prog:Program} {w:World} {A:Around} {E:Value→Shared→Prop} {s:Shared}
theorem xt {it t:Addr} {i:Nat} {its:Array Value} {x:Value} {Q:Value→Shared→Prop} (hi:s.heap.IsTupleIter it t i) (ht:s.heap.IsTuple t its) (hx:its[i]?=some x)
    (hQ:∀ h',h'.IsTupleIter it t (i + 1)→Heap.SameBut it s.heap h'→Q x { s with heap:=h' }):wpAny (model prog w) A (Builtin.SmallTypes.nextOf (.ref it)) Q E s:=by
  obtain ⟨oi,gi,ci,di⟩:=id hi
  obtain ⟨ot,gt,_,nt,dt⟩:=ht
  unfold Builtin.SmallTypes.nextOf
  refine wpAny_bind (wpAny_callSpecial?_slot (name:=Str.ofString "__next__") hi.typeIs F.slot_tuple_iterator_next (wpAny_call_entry F.slot_tuple_iterator_next hi.typeIs F.entry_tuple_iterator_next ?_ (F.args_tuple_iterator_next_1 _)))
  refine wpAny_bind (m:=field (.ref it) 0) (wpAny_field gi di (x:=.ref t) rfl ?_)
  show wpAny (model prog w) _ (if (Value.ref t == Value.none)=true then _ else _) _ _ s
  have nn:¬ (Value.ref t == Value.none)=true:=fun q=>Bool.false_ne_true q
  rw [if_neg nn]
  refine wpAny_bind (m:=field (.ref it) 1) (wpAny_field gi di (x:=.int i 0) rfl ?_)
  refine wpAny_bind (m:=seqItems? (.ref t)) (wpAny_seqItems gt dt ?_)
  simp only [Int.toNat_natCast,hx]
  refine wpAny_bind (wpAny_setField gi di (by simp) (wpAny_pure ⟨x,rfl,wpAny_pure (hQ _ ⟨_,Heap.get?_update_self _ gi (Obj.isFreed_of_fields (Obj.data_mapFields di _)),(Obj.cls_mapFields ..).trans ci,?_⟩ (Heap.SameBut.update ..))⟩))
  rw [Obj.data_mapFields di]
  simp [rawInt]
theorem qI {it t:Addr} {i:Nat} {its:Array Value} {Q:Value→Shared→Prop} (hh:A.handled=none) (hi:s.heap.IsTupleIter it t i) (ht:s.heap.IsTuple t its) (hx:its[i]?=none)
    (hE:∀ h' e,Heap.ExtBut it s.heap h'→(∃ o,h'.get? e=some o∧o.cls=.type "StopIteration")→E (.ref e) { s with heap:=h' }):wpAny (model prog w) A (Builtin.SmallTypes.nextOf (.ref it)) Q E s:=by
  obtain ⟨oi,gi,ci,di⟩:=id hi
  obtain ⟨ot,gt,_,nt,dt⟩:=ht
  unfold Builtin.SmallTypes.nextOf
  refine wpAny_bind (wpAny_callSpecial?_slot (name:=Str.ofString "__next__") hi.typeIs F.slot_tuple_iterator_next (wpAny_call_entry F.slot_tuple_iterator_next hi.typeIs F.entry_tuple_iterator_next ?_ (F.args_tuple_iterator_next_1 _)))
  refine wpAny_bind (m:=field (.ref it) 0) (wpAny_field gi di (x:=.ref t) rfl ?_)
  show wpAny (model prog w) _ (if (Value.ref t == Value.none)=true then _ else _) _ _ s
  have nn:¬ (Value.ref t == Value.none)=true:=fun q=>Bool.false_ne_true q
  rw [if_neg nn]
  refine wpAny_bind (m:=field (.ref it) 1) (wpAny_field gi di (x:=.int i 0) rfl ?_)
  refine wpAny_bind (m:=seqItems? (.ref t)) (wpAny_seqItems gt dt ?_)
  simp only [Int.toNat_natCast,hx]
  refine wpAny_bind (wpAny_rule (wpAny_bind (wpAny_setField gi di (by simp) ?_)))
  refine wpAny_bind (m:=newExc (.type "StopIteration") []) ?_
  unfold newExc newTuple
  refine wpAny_bind (wpAny_newObj_type ?_ (by size_fits ))
  refine wpAny_bind (m:=firstArgMember _ _) (wpAny_of_eq (a:=Value.none) (by first | rfl | (unfold firstArgMember; rfl)) ?_)
  refine wpAny_newObj_type ?_ (by size_fits )
  unfold raiseNew
  refine wpAny_bind (wpAny_handled ?_)
  first | rw [show A.in1.handled=none from hh] | rw [hh]
  refine wpAny_bind (wpAny_pure (wpAny_throw ?_))
  refine hE _ _ (fun b o hb e=>?_) ⟨_,Heap.get?_push_size _ rfl,rfl⟩
  exact Heap.get?_push_of_some _ (Heap.get?_push_of_some _ ((Heap.get?_update_other _ _ (Ne.symm hb)).trans e))
theorem yN (hh:A.handled=none) (it t:Addr) (hne:t≠it) (its:Array Value):Draws prog w A it [it,t] its.size (fun i v=>its[i]?=some v) (fun i h=>h.IsTupleIter it t i∧h.IsTuple t its) where
  live:=fun _ _ st=>by
    obtain ⟨⟨o,g,_⟩,_⟩:=st
    exact ⟨o,g⟩
  frame:=fun _ _ _ st k=>by
    obtain ⟨⟨o,g,r⟩,⟨o2,g2,r2⟩⟩:=st
    exact ⟨⟨o,k it (by simp) o g,r⟩,⟨o2,k t (by simp) o2 g2,r2⟩⟩
  item:=fun i s Q E hi st hQ=>xt st.1 st.2 (x:=its[i]) (by simp [hi]) fun h' i' sb=>by
    refine hQ _ h' s.toks (by simp [hi]) ⟨i',?_⟩ sb
    obtain ⟨o2,g2,r2⟩:=st.2
    exact ⟨o2,(sb.2 t hne).trans g2,r2⟩
  done:=fun s Q E st hE=>qI hh st.1 st.2 (by simp) hE
end
section
variable {prog:Program} {w:World} {A:Around} {E:Value→Shared→Prop} {s:Shared} {z TI TO i1 i2:Addr} {f1 f2:List Addr} {n1 n2 k:Nat} {P1 P2:Nat→Value→Prop} {S1 S2:Nat→Heap→Prop} {a b:Value}
end
end L2
set_option maxRecDepth 100000
set_option maxHeartbeats 4000000
namespace L2
open PySem PySem.Spec PyProof.Rows
section
variable {X:Cx} {pins:List (Addr × Obj)} {σ:L2.St} {H:Hp} {s:Shared}
theorem Inv.turnLay {ch:List Addr} {h':Heap} {t':Nat} {T:Addr} {o:HO} (I:Inv X pins σ H s) (hf:∀ b∈ch,p7 X pins H b) (hT:s.heap.objs.size≤T) (k:∀ b u,b ∉ ch→s.heap.get? b=some u→h'.get? b=some u)
    (new:gr X.prog X.w (upd H T o) h' T o):Inv X pins σ (upd H T o) { s with heap:=h',toks:=t' }:=by
  have hn:H T=none:=I.hok.fresh hT
  have nch:∀ b u,H b=some u→b ∉ ch:=fun b u e z=>by rw [(hf b z).1] at e; cases e
  have neT:∀ b u,s.heap.get? b=some u→b≠T:=fun b u e=>Nat.ne_of_lt (Nat.lt_of_lt_of_le (Heap.lt_size e) hT)
  refine I.step (g':=s.gens) (d':=s.drawn) (ch:=ch) (fun b hb=>?_) (fun b u _ _ hc e _=>k b u hc e) (fun b u _ _ hc e _=>⟨u.slots,k b u hc e⟩) (fun b u _ e n=>by rw [bx (neT b u e)]; exact n)
    (fun b u hc e=>⟨u,k b u hc e⟩) (fun b xs e=>by rw [bx (bF e hn)]; exact e) (fun b u v e=>by rw [bx (bF e hn)]; exact e) (fun b ps e=>by rw [bx (bF e hn)]; exact e) (fun m hm=>?_) (fun b u e=>?_) I.bare
  · obtain ⟨f0,f1,f2,f3,f4,f5⟩:=hf b hb
    exact ⟨f3,f1,f4,f5⟩
  · obtain ⟨o2,es,ep,ho,r⟩:=hm
    exact ⟨o2,es,ep,k _ o2 (fun z=>(hf _ z).2.1 rfl) ho,r⟩
  · by_cases hb:b=T
    · subst hb; rw [cp] at e; cases e; exact new
    · rw [bx hb] at e
      refine (I.hok b u e).stay (fun c v hc q=>k c v ?_ q) (fun c q=>by rw [bx (bF q hn)]; exact q) (fun c xs q=>by rw [bx (bF q hn)]; exact q) fun c o' w' q=>by rw [bx (bF q hn)]; exact q
      rcases hc with z | z
      · rw [z]; exact nch b u e
      · exact nch c _ z
theorem Inv.turneds {ch:List Addr} {h':Heap} {t':Nat} (I:Inv X pins σ H s) (hf:∀ b∈ch,p7 X pins H b) (k:∀ b u,b ∉ ch→s.heap.get? b=some u→h'.get? b=some u):Inv X pins σ H { s with heap:=h',toks:=t' }:=by
  have nch:∀ b u,H b=some u→b ∉ ch:=fun b u e z=>by rw [(hf b z).1] at e; cases e
  refine I.step (g':=s.gens) (d':=s.drawn) (ch:=ch) (fun b hb=>?_) (fun b u _ _ hc e _=>k b u hc e) (fun b u _ _ hc e _=>⟨u.slots,k b u hc e⟩) (fun b u _ e n=>n)
    (fun b u hc e=>⟨u,k b u hc e⟩) (fun b xs e=>e) (fun b u v e=>e) (fun b ps e=>e) (fun m hm=>?_) (fun b u e=>?_) I.bare
  · obtain ⟨f0,f1,f2,f3,f4,f5⟩:=hf b hb
    exact ⟨f3,f1,f4,f5⟩
  · obtain ⟨o2,es,ep,ho,r⟩:=hm
    exact ⟨o2,es,ep,k _ o2 (fun z=>(hf _ z).2.1 rfl) ho,r⟩
  · refine (I.hok b u e).stay (fun c v hc q=>k c v ?_ q) (fun _ q=>q) fun _ _ q=>q
    rcases hc with z | z
    · rw [z]; exact nch b u e
    · exact nch c _ z
end
end L2
set_option maxRecDepth 100000
set_option maxHeartbeats 4000000
namespace L2
open PySem PySem.Spec PyProof.Rows
inductive Rs (α:Type) where
  | ok (a:α)
  | rz (C:Addr)
  | no
namespace Rs
noncomputable def bind {α β:Type}:Rs α→(α→Rs β)→Rs β
  | ok a,f=>f a
  | rz C,_=>rz C
  | no,_=>no
noncomputable def f9 {α:Type}:Option α→Rs α
  | some a=>ok a
  | none=>no
noncomputable def calm {α:Type}:Rs α→Rs α
  | ok a=>ok a
  | _=>no
@[simp] theorem aj {α β:Type} (a:α) (f:α→Rs β):(ok a).bind f=f a:=rfl
@[simp] theorem jU {α β:Type} (C:Addr) (f:α→Rs β):(rz C).bind f=rz C:=rfl
@[simp] theorem dX {α β:Type} (f:α→Rs β):(no:Rs α).bind f=no:=rfl
@[simp] theorem aq {α:Type} (a:α):f9 (some a)=ok a:=rfl
@[simp] theorem DH {α:Type}:f9 (none:Option α)=no:=rfl
@[simp] theorem jP {α:Type} (a:α):(ok a).calm=ok a:=rfl
end Rs
noncomputable def del (H:Hp) (A:List Addr):Hp:=fun b=>if b∈A then none else H b
theorem yu {H:Hp}:del H []=H:=by funext b; simp [del]
theorem oB {H:Hp} {A:List Addr} {b:Addr} (h:b∈A):del H A b=none:=by simp [del,h]
theorem cA {H:Hp} {A:List Addr} {b:Addr} (h:b ∉ A):del H A b=H b:=by simp [del,h]
theorem gJ {H:Hp} {A:List Addr} {b:Addr} {o:HO} (h:del H A b=some o):b ∉ A∧H b=some o:=by
  by_cases z:b∈A
  · rw [oB z] at h; cases h
  · rw [cA z] at h; exact ⟨z,h⟩
theorem aY {H:Hp} {A:List Addr}:aM (del H A) H:=fun _ _ e=>(gJ e).2
theorem aM.del {H H':Hp} {A:List Addr} (s:aM H H'):aM (del H A) (L2.del H' A):=fun b o e=>by
  obtain ⟨z,e⟩:=gJ e
  rw [cA z]; exact s b o e
noncomputable def Ls (H:Hp) (A:List Addr):Prop:=∀ a∈A,∃ xs,H a=some (.lst xs)
theorem Ls.same {H H':Hp} {A:List Addr} (h:Ls H A) (s:aM H H'):Ls H' A:=fun a ha=>by
  obtain ⟨xs,e⟩:=h a ha
  exact ⟨xs,s _ _ e⟩
theorem Ls.nil {H:Hp}:Ls H []:=fun _ h=>by cases h
theorem Ls.new {H:Hp} {A:List Addr} {p:Addr} (h:Ls H A) (hp:H p=none):p ∉ A:=fun z=>by
  obtain ⟨xs,e⟩:=h p z
  rw [hp] at e; cases e
noncomputable def aC (ns:List Int):PyData:=.dict [(.none,.list (ns.map .int))]
mutual
noncomputable def Is (K:PySem.W.Frag) (H:Hp):PyData→V→Prop
  | .none,v=>v=.non
  | .bool b,v=>v=.bl b
  | .int i,v=>v=.int i
  | .str x,v=>v=.str x
  | .list ds,v=>∃ a xs,v=.ref a∧H a=some (.lst xs)∧Iss K H ds xs
  | .tuple ds,v=>∃ a xs,v=.ref a∧H a=some (.tup xs)∧Iss K H ds xs
  | .dict kvs,v=>(∃ a ns,v=.ref a∧kvs=[(PyData.none,PyData.list (List.map PyData.int ns))]∧SqL K H a (List.map V.int ns)) ∨
      ∃ (a C dx:Addr) (fs:List (Str × V)),v=.ref a∧H a=some (.ins C dx fs)∧fs.lookup ("@":Str)=none∧(Isk K H kvs (("",.int (C:Int))::fs)∨Isk K H kvs (("",.int (C:Int))::("@",.int (a:Int))::fs))
noncomputable def Iss (K:PySem.W.Frag) (H:Hp):List PyData→List V→Prop
  | [],vs=>vs=[]
  | d::ds,vs=>∃ v r,vs=v::r∧Is K H d v∧Iss K H ds r
noncomputable def Isk (K:PySem.W.Frag) (H:Hp):List (PyData × PyData)→List (Str × V)→Prop
  | [],fs=>fs=[]
  | (k,d)::r,fs=>∃ f v fs',fs=(f,v)::fs'∧k=.str f∧Is K H d v∧Isk K H r fs'
end
noncomputable def zP (C:Addr) (fds:List (Str × PyData)):PyData:=.dict ((.str "",.int (C:Int))::fds.map fun p=>(.str p.1,p.2))
section
variable {K:PySem.W.Frag} {H H':Hp}
theorem cT {i:Int}:Is K H (.int i) (.int i):=by unfold Is; rfl
theorem is_bool {b:Bool}:Is K H (.bool b) (.bl b):=by unfold Is; rfl
theorem is_none:Is K H .none .non:=by unfold Is; rfl
theorem Ai {x:Str}:Is K H (.str x) (.str x):=by unfold Is; rfl
theorem l9 {ds:List PyData} {a:Addr} {xs:List V} (h:H a=some (.tup xs)) (h2:Iss K H ds xs):Is K H (.tuple ds) (.ref a):=by unfold Is; exact ⟨a,xs,rfl,h,h2⟩
theorem tw {ds:List PyData} {a:Addr} {xs:List V} (h:H a=some (.lst xs)) (h2:Iss K H ds xs):Is K H (.list ds) (.ref a):=by unfold Is; exact ⟨a,xs,rfl,h,h2⟩
theorem yM {a:Addr} {ns:List Int} (h:SqL K H a (ns.map V.int)):Is K H (aC ns) (.ref a):=by unfold aC Is; exact .inl ⟨a,ns,rfl,rfl,h⟩
theorem fU:Iss K H [] []:=by unfold Iss; rfl
theorem fc {d:PyData} {ds:List PyData} {v:V} {vs:List V} (h:Is K H d v) (h2:Iss K H ds vs):Iss K H (d::ds) (v::vs):=by unfold Iss; exact ⟨v,vs,rfl,h,h2⟩
theorem pE {d:PyData} {v:V} (h:Is K H d v):Iss K H [d] [v]:=fc h fU
theorem Is.ofInt {i:Int} {v:V} (h:Is K H (.int i) v):v=.int i:=by unfold Is at h; exact h
theorem Is.ofBool {i:Bool} {v:V} (h:Is K H (.bool i) v):v=.bl i:=by unfold Is at h; exact h
theorem Is.ofNone {v:V} (h:Is K H .none v):v=.non:=by unfold Is at h; exact h
theorem Is.ofStr {x:Str} {v:V} (h:Is K H (.str x) v):v=.str x:=by unfold Is at h; exact h
theorem Is.ofTup {ds:List PyData} {v:V} (h:Is K H (.tuple ds) v):∃ a xs,v=.ref a∧H a=some (.tup xs)∧Iss K H ds xs:=by unfold Is at h; exact h
theorem Is.ofLst {ds:List PyData} {v:V} (h:Is K H (.list ds) v):∃ a xs,v=.ref a∧H a=some (.lst xs)∧Iss K H ds xs:=by unfold Is at h; exact h
theorem Is.ofScript {ns:List Int} {v:V} (h:Is K H (aC ns) v):∃ a,v=.ref a∧SqL K H a (ns.map V.int):=by
  unfold aC Is at h
  rcases h with h | ⟨a,C,dx,fs,_,_,_,h | h⟩
  case inr.inl=>unfold Isk at h; obtain ⟨f,_,_,_,h,_⟩:=h; cases h
  case inr.inr=>unfold Isk at h; obtain ⟨f,_,_,_,h,_⟩:=h; cases h
  obtain ⟨a,ms,e,e2,h⟩:=h
  have e3:ns.map PyData.int=ms.map PyData.int:=by injection e2 with e2 _; injection e2 with _ e2; injection e2
  have e4:ns=ms:=by
    have inj:∀ (a b:List Int),a.map PyData.int=b.map PyData.int→a=b:=by
      intro a
      induction a with
      | nil=>intro b hb; cases b with | nil=>rfl | cons _ _=>simp at hb
      | cons x r ih =>
        intro b hb
        cases b with
        | nil=>simp at hb
        | cons y s =>
          simp only [List.map_cons,List.cons.injEq,PyData.int.injEq] at hb
          rw [hb.1,ih s hb.2]
    exact inj _ _ e3
  subst e4
  exact ⟨a,e,h⟩
theorem Iss.nil_of {vs:List V} (h:Iss K H [] vs):vs=[]:=by unfold Iss at h; exact h
theorem Iss.cons_of {d:PyData} {ds:List PyData} {vs:List V} (h:Iss K H (d::ds) vs):∃ v r,vs=v::r∧Is K H d v∧Iss K H ds r:=by unfold Iss at h; exact h
theorem Iss.length:∀ {ds:List PyData} {vs:List V},Iss K H ds vs→vs.length=ds.length
  | [],_,h=>by rw [h.nil_of]; rfl
  | _::_,_,h=>by
    obtain ⟨v,r,e,_,h2⟩:=h.cons_of
    rw [e,List.length_cons,List.length_cons,Iss.length h2]
mutual
theorem Is.same (e:aM H H'):∀ {d:PyData} {v:V},Is K H d v→Is K H' d v
  | .none,_,h=>by unfold Is at h ⊢; exact h
  | .bool _,_,h=>by unfold Is at h ⊢; exact h
  | .int _,_,h=>by unfold Is at h ⊢; exact h
  | .str _,_,h=>by unfold Is at h ⊢; exact h
  | .list ds,_,h=>by
    unfold Is at h ⊢
    obtain ⟨a,xs,e1,h1,h2⟩:=h
    exact ⟨a,xs,e1,e _ _ h1,Iss.same e h2⟩
  | .tuple ds,_,h=>by
    unfold Is at h ⊢
    obtain ⟨a,xs,e1,h1,h2⟩:=h
    exact ⟨a,xs,e1,e _ _ h1,Iss.same e h2⟩
  | .dict _,_,h=>by
    unfold Is at h ⊢
    rcases h with ⟨a,ns,e1,e2,h2⟩ | ⟨a,C,dx,fs,e1,h1,hn,h2 | h2⟩
    · exact .inl ⟨a,ns,e1,e2,e.seq h2⟩
    · exact .inr ⟨a,C,dx,fs,e1,e _ _ h1,hn,.inl (Isk.same e h2)⟩
    · exact .inr ⟨a,C,dx,fs,e1,e _ _ h1,hn,.inr (Isk.same e h2)⟩
theorem Iss.same (e:aM H H'):∀ {ds:List PyData} {vs:List V},Iss K H ds vs→Iss K H' ds vs
  | [],_,h=>by unfold Iss at h ⊢; exact h
  | d::ds,_,h=>by
    unfold Iss at h ⊢
    obtain ⟨v,r,e1,h1,h2⟩:=h
    exact ⟨v,r,e1,Is.same e h1,Iss.same e h2⟩
theorem Isk.same (e:aM H H'):∀ {ds:List (PyData × PyData)} {fs:List (Str × V)},Isk K H ds fs→Isk K H' ds fs
  | [],_,h=>by unfold Isk at h ⊢; exact h
  | (k,d)::ds,_,h=>by
    unfold Isk at h ⊢
    obtain ⟨f,v,r,e1,e2,h1,h2⟩:=h
    exact ⟨f,v,r,e1,e2,Is.same e h1,Isk.same e h2⟩
end
theorem ya:Isk K H [] []:=by unfold Isk; rfl
theorem uB {f:Str} {d:PyData} {r:List (PyData × PyData)} {v:V} {fs:List (Str × V)} (h:Is K H d v) (h2:Isk K H r fs):Isk K H ((.str f,d)::r) ((f,v)::fs):=by unfold Isk; exact ⟨f,v,fs,rfl,rfl,h,h2⟩
theorem DI {C a dx:Addr} {fds:List (Str × PyData)} {fs:List (Str × V)} (h:H a=some (.ins C dx fs)) (hn:fs.lookup ("@":Str)=none) (h2:Isk K H (fds.map fun p=>(.str p.1,p.2)) fs):Is K H (zP C fds) (.ref a):=by
  unfold zP Is
  exact .inr ⟨a,C,dx,fs,rfl,h,hn,.inl (uB cT h2)⟩
theorem D3 {A:List Addr} (hA:Ls H A) {a:Addr} {xs:List V} (h:H a=some (.tup xs)):del H A a=some (.tup xs):=by
  rw [cA (fun q=>by obtain ⟨ys,e2⟩:=hA a q; rw [h] at e2; cases e2)]; exact h
mutual
theorem Is.dl {A:List Addr} (hA:Ls H A):∀ {d:PyData} {v:V},gI d=true→Is K H d v→Is K (del H A) d v
  | .none,_,_,h=>by unfold Is at h ⊢; exact h
  | .bool _,_,_,h=>by unfold Is at h ⊢; exact h
  | .int _,_,_,h=>by unfold Is at h ⊢; exact h
  | .str _,_,_,h=>by unfold Is at h ⊢; exact h
  | .list _,_,n,_=>by unfold gI at n; cases n
  | .dict _,_,n,_=>by unfold gI at n; cases n
  | .tuple ds,_,n,h=>by
    unfold gI at n
    obtain ⟨a,xs,e,h1,h2⟩:=h.ofTup
    subst e
    exact l9 (D3 hA h1) (Iss.dl hA n h2)
theorem Iss.dl {A:List Addr} (hA:Ls H A):∀ {ds:List PyData} {vs:List V},mJ ds=true→Iss K H ds vs→Iss K (del H A) ds vs
  | [],_,_,h=>by rw [h.nil_of]; exact fU
  | d::ds,_,n,h=>by
    unfold mJ at n
    obtain ⟨n1,n2⟩:=Bool.and_eq_true_iff.mp n
    obtain ⟨v,r,e,h1,h2⟩:=h.cons_of
    subst e
    exact fc (Is.dl hA n1 h1) (Iss.dl hA n2 h2)
end
mutual
noncomputable def bZ:PyData→Bool
  | .list ds=>jd ds
  | .tuple ds=>jd ds
  | .dict _=>false
  | _=>true
noncomputable def jd:List PyData→Bool
  | []=>true
  | d::ds=>bZ d && jd ds
end
mutual
theorem Is.isd:∀ {d:PyData} {v:V},bZ d=true→Is K H d v→IsD K H d v
  | .none,_,_,h=>by rw [h.ofNone]; exact zI
  | .bool _,_,_,h=>by rw [h.ofBool]; exact Aq
  | .int _,_,_,h=>by rw [h.ofInt]; exact sO
  | .str _,_,_,h=>by rw [h.ofStr]; exact Bq
  | .list ds,_,n,h=>by
    unfold bZ at n
    obtain ⟨a,xs,e,h1,h2⟩:=h.ofLst
    subst e
    exact sT (SqL.of h1) (Iss.isd n h2)
  | .tuple ds,_,n,h=>by
    unfold bZ at n
    obtain ⟨a,xs,e,h1,h2⟩:=h.ofTup
    subst e
    exact BH (SqT.of h1) (Iss.isd n h2)
  | .dict _,_,n,_=>by unfold bZ at n; cases n
theorem Iss.isd:∀ {ds:List PyData} {vs:List V},jd ds=true→Iss K H ds vs→fz K H ds vs
  | [],_,_,h=>by rw [h.nil_of]; exact pW
  | d::ds,_,n,h=>by
    unfold jd at n
    obtain ⟨n1,n2⟩:=Bool.and_eq_true_iff.mp n
    obtain ⟨v,r,e,h1,h2⟩:=h.cons_of
    subst e
    exact rP (Is.isd n1 h1) (Iss.isd n2 h2)
end
noncomputable def f6:PyData→Bool
  | .none=>true
  | .bool _=>true
  | .int _=>true
  | .str _=>true
  | _=>false
theorem IsD.is {d:PyData} {v:V} (n:f6 d=true) (h:IsD K H d v):Is K H d v:=by
  cases d with
  | none=>rw [h.ofNone]; exact is_none
  | bool _=>rw [h.ofBool]; exact is_bool
  | int _=>rw [h.ofInt]; exact cT
  | str _=>rw [h.ofStr]; exact Ai
  | _=>cases n
theorem wK {d:PyData} (n:f6 d=true):gI d=true:=by
  cases d with
  | list _=>cases n
  | tuple _=>cases n
  | dict _=>cases n
  | _=>unfold gI; rfl
theorem Iss.get:∀ {ds:List PyData} {vs:List V} {i:Nat} {v:V},Iss K H ds vs→vs[i]?=some v→∃ d,ds[i]?=some d∧Is K H d v
  | [],_,i,v,h,e=>by rw [h.nil_of] at e; simp at e
  | d::ds,_,i,v,h,e=>by
    obtain ⟨w,r,e1,h1,h2⟩:=h.cons_of
    subst e1
    cases i with
    | zero=>simp at e; subst e; exact ⟨d,rfl,h1⟩
    | succ i=>simpa using Iss.get (i:=i) h2 (by simpa using e)
theorem Iss.getD:∀ {ds:List PyData} {vs:List V} {i:Nat} {d:PyData},Iss K H ds vs→ds[i]?=some d→∃ v,vs[i]?=some v∧Is K H d v
  | [],_,i,v,h,e=>by simp at e
  | d::ds,_,i,v,h,e=>by
    obtain ⟨w,r,e1,h1,h2⟩:=h.cons_of
    subst e1
    cases i with
    | zero=>simp at e; subst e; exact ⟨w,rfl,h1⟩
    | succ i=>simpa using Iss.getD (i:=i) h2 (by simpa using e)
theorem Iss.append:∀ {ds es:List PyData} {vs us:List V},Iss K H ds vs→Iss K H es us→Iss K H (ds++es) (vs++us)
  | [],_,_,_,h,h'=>by rw [h.nil_of]; exact h'
  | d::ds,es,_,us,h,h'=>by
    obtain ⟨v,r,e,h1,h2⟩:=h.cons_of
    subst e
    exact fc h1 (Iss.append h2 h')
theorem Iss.take:∀ {ds:List PyData} {vs:List V} (n:Nat),Iss K H ds vs→Iss K H (ds.take n) (vs.take n)
  | [],_,n,h=>by rw [h.nil_of]; simpa using fU
  | d::ds,_,0,h=>by simpa using fU
  | d::ds,_,n + 1,h=>by
    obtain ⟨v,r,e,h1,h2⟩:=h.cons_of
    subst e
    exact fc h1 (Iss.take n h2)
theorem Iss.drop:∀ {ds:List PyData} {vs:List V} (n:Nat),Iss K H ds vs→Iss K H (ds.drop n) (vs.drop n)
  | [],_,n,h=>by rw [h.nil_of]; simpa using fU
  | d::ds,_,0,h=>h
  | d::ds,_,n + 1,h=>by
    obtain ⟨v,r,e,h1,h2⟩:=h.cons_of
    subst e
    exact Iss.drop n h2
theorem Iss.set {d:PyData} {v:V} (hv:Is K H d v):∀ {ds:List PyData} {vs:List V} (i:Nat),Iss K H ds vs→Iss K H (ds.set i d) (vs.set i v)
  | [],_,n,h=>by rw [h.nil_of]; simpa using fU
  | e::ds,_,0,h=>by
    obtain ⟨u,r,z,h1,h2⟩:=h.cons_of
    subst z
    exact fc hv h2
  | e::ds,_,n + 1,h=>by
    obtain ⟨u,r,z,h1,h2⟩:=h.cons_of
    subst z
    exact fc h1 (Iss.set hv n h2)
theorem Iss.eraseIdx:∀ {ds:List PyData} {vs:List V} (i:Nat),Iss K H ds vs→Iss K H (ds.eraseIdx i) (vs.eraseIdx i)
  | [],_,n,h=>by rw [h.nil_of]; simpa using fU
  | e::ds,_,0,h=>by
    obtain ⟨u,r,z,h1,h2⟩:=h.cons_of
    subst z
    exact h2
  | e::ds,_,n + 1,h=>by
    obtain ⟨u,r,z,h1,h2⟩:=h.cons_of
    subst z
    exact fc h1 (Iss.eraseIdx n h2)
theorem Iss.rep {ds:List PyData} {vs:List V} (h:Iss K H ds vs):∀ k:Nat,Iss K H (List.replicate k ds).flatten (List.replicate k vs).flatten
  | 0=>fU
  | k + 1=>by
    rw [List.replicate_succ,List.replicate_succ,List.flatten_cons,List.flatten_cons]
    exact h.append (Iss.rep h k)
theorem uK:∀ (ns:List Int),Iss K H (ns.map PyData.int) (ns.map V.int)
  | []=>fU
  | _::r=>fc cT (uK r)
theorem Iss.ofInts:∀ {ns:List Int} {vs:List V},Iss K H (ns.map PyData.int) vs→vs=ns.map V.int
  | [],_,h=>h.nil_of
  | n::r,_,h=>by
    obtain ⟨v,t,e,h1,h2⟩:=h.cons_of
    rw [e,h1.ofInt,Iss.ofInts h2]; rfl
theorem Iss.ofBools:∀ {ns:List Bool} {vs:List V},Iss K H (ns.map PyData.bool) vs→vs=ns.map V.bl
  | [],_,h=>h.nil_of
  | n::r,_,h=>by
    obtain ⟨v,t,e,h1,h2⟩:=h.cons_of
    rw [e,h1.ofBool,Iss.ofBools h2]; rfl
theorem Is.isNone {d:PyData} {v:V} (h:Is K H d v):(v=.non)↔d=.none:=by
  cases d with
  | none=>simp [h.ofNone]
  | bool b=>simp [h.ofBool]
  | int i=>simp [h.ofInt]
  | str x=>simp [h.ofStr]
  | list ds=>obtain ⟨a,xs,e,_⟩:=h.ofLst; simp [e]
  | tuple ds=>obtain ⟨a,xs,e,_⟩:=h.ofTup; simp [e]
  | dict _=>unfold Is at h; rcases h with ⟨a,ns,e,_⟩ | ⟨a,C,dx,fs,e,_⟩ <;> simp [e]
theorem c6 {p:Addr} {o:HO} (h:H p=none):aM H (upd H p o):=nh h
theorem tD {A:List Addr} {p:Addr} {o:HO} (h:p∈A):del (upd H p o) A=del H A:=by
  funext b
  by_cases z:b∈A
  · rw [oB z,oB z]
  · rw [cA z,cA z,bx (by rintro rfl; exact z h)]
theorem nK {A:List Addr} {ds:List PyData} {xs:List V} {p:Addr} (hA:Ls H A) (hp:H p=none) (h:Iss K (del H A) ds xs):Is K (del (upd H p (.tup xs)) A) (.tuple ds) (.ref p) :=
  l9 (by rw [cA (hA.new hp)]; exact cp) (h.same (aM.del (c6 hp)))
theorem pG {A:List Addr} {ds:List PyData} {xs:List V} {p:Addr} (hA:Ls H A) (hp:H p=none) (h:Iss K (del H A) ds xs):Is K (del (upd H p (.lst xs)) A) (.list ds) (.ref p) :=
  tw (by rw [cA (hA.new hp)]; exact cp) (h.same (aM.del (c6 hp)))
end
noncomputable abbrev Ds:=List (Option PyData)
structure fw (K:PySem.W.Frag) (H:Hp) (A:List Addr) (δ:Ds) (σ:St):Prop where
  ls:Ls H A
  len:δ.length=σ.length
  get:∀ (i:Nat) (d:PyData),δ[i]?=some (some d)→∃ v,σ[i]?=some (some v)∧Is K (del H A) d v
theorem fw.same {K:PySem.W.Frag} {H H':Hp} {A:List Addr} {δ:Ds} {σ:St} (R:fw K H A δ σ) (s:aM H H'):fw K H' A δ σ :=
  ⟨R.ls.same s,R.len,fun i d e=>by
    obtain ⟨v,e1,h⟩:=R.get i d e
    exact ⟨v,e1,h.same s.del⟩⟩
noncomputable def jj (K:PySem.W.Frag) (E:XK) (A:List Addr) (H:Hp) (r:Rs PyData) (Q:VK):Prop:=match r with
  | .ok d=>∀ v H',aM H H'→Is K (del H' A) d v→Q v H'
  | .rz C=>∀ H',aM H H'→E (.ref C) none H'
  | .no=>False
noncomputable def Fz (K:PySem.W.Frag) (E:XK) (A:List Addr) (H:Hp) (r:Rs (List PyData)) (Q:List V→Hp→Prop):Prop:=match r with
  | .ok d=>∀ v H',aM H H'→Iss K (del H' A) d v→Q v H'
  | .rz C=>∀ H',aM H H'→E (.ref C) none H'
  | .no=>False
noncomputable def uz (E:XK) (H:Hp) (r:Rs Bool) (Q:Bool→Hp→Prop):Prop:=match r with
  | .ok d=>∀ H',aM H H'→Q d H'
  | .rz C=>∀ H',aM H H'→E (.ref C) none H'
  | .no=>False
noncomputable def eD (K:PySem.W.Frag) (E:XK) (g:Ds→Rs PyData):TE:=fun σ H Q=>∃ A δ,fw K H A δ σ∧jj K E A H (g δ) Q
noncomputable def aD (K:PySem.W.Frag) (E:XK) (g:Ds→Rs (List PyData)):TA:=fun σ H Q=>∃ A δ,fw K H A δ σ∧Fz K E A H (g δ) Q
noncomputable def cD (K:PySem.W.Frag) (E:XK) (g:Ds→Rs Bool):TT:=fun σ H Q=>∃ A δ,fw K H A δ σ∧uz E H (g δ) Q
noncomputable def PD (X:Cx) (E:XK) (e:Expr) (g:Ds→Rs PyData):Prop:=PE X e (eD X.K E g)
noncomputable def PAD (X:Cx) (E:XK) (es:List Expr) (g:Ds→Rs (List PyData)):Prop:=PA X es (aD X.K E g)∧∀ δ ds,g δ=.ok ds→ds.length=es.length
noncomputable def PCD (X:Cx) (E:XK) (e:Expr) (g:Ds→Rs Bool):Prop:=PT X e (cD X.K E g)
noncomputable def PWD (X:Cx) (E:XK) (e:Expr) (g:Ds→Rs Bool):Prop:=PW X e (cD X.K E g)
theorem PE.imp {X:Cx} {e:Expr} {t t':TE} (h:PE X e t) (k:∀ σ H Q,t' σ H Q→t σ H Q):PE X e t':=fun pins s σ H Q I q=>h pins s σ H Q I (k σ H Q q)
theorem PT.imp {X:Cx} {e:Expr} {t t':TT} (h:PT X e t) (k:∀ σ H Q,t' σ H Q→t σ H Q):PT X e t':=fun pins s σ H Q I q=>h pins s σ H Q I (k σ H Q q)
theorem PW.imp {X:Cx} {e:Expr} {t t':TT} (h:PW X e t) (k:∀ σ H Q,t' σ H Q→t σ H Q):PW X e t':=fun w pins s σ H Q I q=>h w pins s σ H Q I (k σ H Q q)
theorem PA.imp {X:Cx} {e:List Expr} {t t':TA} (h:PA X e t) (k:∀ σ H Q,t' σ H Q→t σ H Q):PA X e t':=fun p pins s σ H Q I q=>h p pins s σ H Q I (k σ H Q q)
theorem PS.imp {X:Cx} {e:Stmt} {t t':TS} (h:PS X e t) (k:∀ D σ H,t' D σ H→t D σ H):PS X e t':=fun pins s σ H D I q=>h pins s σ H D I (k D σ H q)
theorem PSs.imp {X:Cx} {e:List Stmt} {t t':TS} (h:PSs X e t) (k:∀ D σ H,t' D σ H→t D σ H):PSs X e t':=fun pins s σ H D I q=>h pins s σ H D I (k D σ H q)
theorem jj.mono {K:PySem.W.Frag} {E:XK} {A:List Addr} {H H1:Hp} {r:Rs PyData} {Q:VK} (h:jj K E A H r Q) (s:aM H H1):jj K E A H1 r Q:=by
  cases r with
  | ok d=>exact fun v H' s' q=>h v H' (s.trans s') q
  | rz C=>exact fun H' s'=>h H' (s.trans s')
  | no=>exact h
theorem uz.mono {E:XK} {H H1:Hp} {r:Rs Bool} {Q:Bool→Hp→Prop} (h:uz E H r Q) (s:aM H H1):uz E H1 r Q:=by
  cases r with
  | ok d=>exact fun H' s'=>h H' (s.trans s')
  | rz C=>exact fun H' s'=>h H' (s.trans s')
  | no=>exact h
theorem eD.run {K:PySem.W.Frag} {E:XK} {g:Ds→Rs PyData} {σ:St} {H:Hp} {A:List Addr} {δ:Ds} {Q:VK} (R:fw K H A δ σ)
    (ok:∀ d,g δ=.ok d→∀ v H',aM H H'→fw K H' A δ σ→Is K (del H' A) d v→Q v H') (rz:∀ C,g δ=.rz C→∀ H',aM H H'→E (.ref C) none H') (no:g δ=.no→False):eD K E g σ H Q:=by
  refine ⟨A,δ,R,?_⟩
  cases e:g δ with
  | ok d=>exact fun v H' s q=>ok d e v H' s (R.same s) q
  | rz C=>exact fun H' s=>rz C e H' s
  | no=>exact no e
theorem aD.run {K:PySem.W.Frag} {E:XK} {g:Ds→Rs (List PyData)} {σ:St} {H:Hp} {A:List Addr} {δ:Ds} {Q:List V→Hp→Prop} (R:fw K H A δ σ)
    (ok:∀ d,g δ=.ok d→∀ v H',aM H H'→fw K H' A δ σ→Iss K (del H' A) d v→Q v H') (rz:∀ C,g δ=.rz C→∀ H',aM H H'→E (.ref C) none H') (no:g δ=.no→False):aD K E g σ H Q:=by
  refine ⟨A,δ,R,?_⟩
  cases e:g δ with
  | ok d=>exact fun v H' s q=>ok d e v H' s (R.same s) q
  | rz C=>exact fun H' s=>rz C e H' s
  | no=>exact no e
theorem cD.run {K:PySem.W.Frag} {E:XK} {g:Ds→Rs Bool} {σ:St} {H:Hp} {A:List Addr} {δ:Ds} {Q:Bool→Hp→Prop} (R:fw K H A δ σ)
    (ok:∀ d,g δ=.ok d→∀ H',aM H H'→fw K H' A δ σ→Q d H') (rz:∀ C,g δ=.rz C→∀ H',aM H H'→E (.ref C) none H') (no:g δ=.no→False):cD K E g σ H Q:=by
  refine ⟨A,δ,R,?_⟩
  cases e:g δ with
  | ok d=>exact fun H' s=>ok d e H' s (R.same s)
  | rz C=>exact fun H' s=>rz C e H' s
  | no=>exact no e
end L2
set_option maxRecDepth 100000
set_option maxHeartbeats 4000000
namespace L2
open PySem PySem.Spec PyProof.Rows
noncomputable def ag (i:Nat):Ds→Rs PyData:=fun δ=>match δ[i]? with
  | some (some d)=>.ok d
  | _=>.no
noncomputable def gC (d:PyData):Ds→Rs PyData:=fun _=>.ok d
noncomputable def g1 (f:PyData→Option PyData) (a:Ds→Rs PyData):Ds→Rs PyData:=fun δ=>(a δ).bind fun x=>Rs.f9 (f x)
noncomputable def g2 (f:PyData→PyData→Option PyData) (a b:Ds→Rs PyData):Ds→Rs PyData:=fun δ=>(a δ).bind fun x=>(b δ).bind fun y=>Rs.f9 (f x y)
noncomputable def gF (f:List PyData→Option PyData) (as:Ds→Rs (List PyData)):Ds→Rs PyData:=fun δ=>(as δ).bind fun ds=>Rs.f9 (f ds)
noncomputable def ar:Ds→Rs (List PyData):=fun _=>.ok []
noncomputable def af (a:Ds→Rs PyData) (r:Ds→Rs (List PyData)):Ds→Rs (List PyData):=fun δ=>(a δ).bind fun x=>(r δ).bind fun xs=>.ok (x::xs)
noncomputable def gN (as:Ds→Rs (List PyData)):Ds→Rs PyData:=fun δ=>(as δ).bind fun ds=>.ok (.tuple ds)
noncomputable def sU (as:Ds→Rs (List PyData)):Ds→Rs PyData:=fun δ=>(as δ).bind fun ds=>.ok (.list ds)
noncomputable def aE (gf:List PyData→Rs PyData) (as:Ds→Rs (List PyData)):Ds→Rs PyData:=fun δ=>(as δ).bind gf
noncomputable def truth:PyData→Rs Bool
  | .bool b=>.ok b
  | _=>.no
noncomputable def gT (a:Ds→Rs PyData):Ds→Rs Bool:=fun δ=>(a δ).bind truth
noncomputable def iO (a:Ds→Rs Bool):Ds→Rs Bool:=fun δ=>(a δ).bind fun b=>.ok (!b)
noncomputable def nW (a b:Ds→Rs Bool):Ds→Rs Bool:=fun δ=>(a δ).bind fun x=>if x=true then b δ else .ok false
noncomputable def cOr (a b:Ds→Rs Bool):Ds→Rs Bool:=fun δ=>(a δ).bind fun x=>if x=true then .ok true else b δ
noncomputable def xk (a b:Ds→Rs PyData):Ds→Rs PyData:=fun δ=>(a δ).bind fun x=>(truth x).bind fun t=>if t=true then b δ else .ok (.bool false)
noncomputable def gOr (a b:Ds→Rs PyData):Ds→Rs PyData:=fun δ=>(a δ).bind fun x=>(truth x).bind fun t=>if t=true then .ok (.bool true) else b δ
noncomputable def FV (a:Ds→Rs PyData):Ds→Rs PyData:=fun δ=>(a δ).bind fun x=>(truth x).bind fun t=>.ok (.bool (!t))
noncomputable def gIf (c:Ds→Rs Bool) (a b:Ds→Rs PyData):Ds→Rs PyData:=fun δ=>(c δ).bind fun x=>if x=true then a δ else b δ
section
variable {X:Cx} {E:XK} {a b c e:Expr} {ga gb gc:Ds→Rs PyData} {pos:Pos}
theorem ah (i:Nat) {x:Str} {pos:Pos} (hN:X.N[i]?=some x:=by rfl) (hv:Vis X.env.scope x:=by first | exact Or.inl rfl | exact Or.inr (Or.inl rfl) | exact Or.inr (Or.inr rfl)) (hd:(x == ("__debug__":Str))=false:=by decide)
    (hcd:(x == ("__classdict__":Str))=false:=by decide):PD X E (.Name x pos) (ag i) :=
  (oh hN hv hd hcd).imp fun σ H Q pz3=>by
    obtain ⟨A,δ,R,o⟩:=pz3
    unfold ag at o
    split at o
    · rename_i d e
      obtain ⟨v,e1,h⟩:=R.get i d e
      exact ⟨v,e1,o v H (aM.refl H) h⟩
    · exact o.elim
theorem Bi {v:V} {d:PyData} (h:PE X e (tC v)) (hi:∀ K H,Is K H d v):PD X E e (gC d):=h.imp fun σ H Q qz3=>(by obtain ⟨A,δ,R,o⟩:=qz3; exact o v H (aM.refl H) (hi _ _))
theorem ay {i j pos}:PD X E (.Constant (.int i) j pos) (gC (.int i)):=Bi jS fun _ _=>cT
theorem mX {i j pos}:PD X E (.Constant (.bool i) j pos) (gC (.bool i)):=Bi EI fun _ _=>is_bool
theorem fk {j pos}:PD X E (.Constant .none j pos) (gC .none):=Bi D9 fun _ _=>is_none
theorem tW {i j pos}:PD X E (.Constant (.str i) j pos) (gC (.str i)):=Bi Di fun _ _=>Ai
theorem i6 {i:Int} {x:Str} {pos:Pos} (hm:∃ t,X.mg x=some (.int i t)) (hg:Gl X x:=by rfl) (hd:(x == ("__debug__":Str))=false:=by decide):PD X E (.Name x pos) (gC (.int i)):=by
  obtain ⟨t,hm⟩:=hm
  exact Bi (BS (v:=.int i) hg hm ⟨_,rfl⟩ hd) fun _ _=>cT
noncomputable def OpD (K:PySem.W.Frag) (f:PyData→PyData→Option PyData) (r:R2):Prop :=
  ∀ (d1 d2 d:PyData) (x y:V) (H:Hp) (A:List Addr) (Q:VK),f d1 d2=some d→Ls H A→Is K (del H A) d1 x→Is K (del H A) d2 y→(∀ v H',aM H H'→Is K (del H' A) d v→Q v H')→r x y H Q
theorem g2.read {r:R2} {f:PyData→PyData→Option PyData} {σ:St} {H:Hp} {A:List Addr} {δ:Ds} {Q:VK} {K:PySem.W.Frag} (hr:OpD K f r) (R:fw K H A δ σ) (o:jj K E A H (g2 f ga gb δ) Q) :
    tOp r (eD K E ga) (eD K E gb) σ H Q:=by
  unfold g2 at o
  refine eD.run R (fun d1 e1 v H1 s1 R1 h1=>?_) (fun C e1 H' s'=>?_) (fun e1=>?_)
  · rw [e1] at o
    refine eD.run R1 (fun d2 e2 u H2 s2 R2 h2=>?_) (fun C e2 H' s'=>?_) (fun e2=>?_)
    · simp only [Rs.aj,e2] at o
      cases e3:f d1 d2 with
      | none=>rw [e3] at o; exact o.elim
      | some d =>
        rw [e3] at o
        exact hr d1 d2 d v u H2 A Q e3 R2.ls (h1.same s2.del) h2 fun w H' s q=>o w H' (s1.trans (s2.trans s)) q
    · simp only [Rs.aj,e2,Rs.jU] at o
      exact o H' (s1.trans s')
    · simp only [Rs.aj,e2,Rs.dX] at o
      exact o
  · rw [e1] at o; exact o H' s'
  · rw [e1] at o; exact o
theorem jl {r:R2} {f:PyData→PyData→Option PyData} (hr:OpD X.K f r) (ha:PD X E a ga) (hb:PD X E b gb) (mk:∀ {ta tb:TE},PE X a ta→PE X b tb→PE X e (tOp r ta tb)):PD X E e (g2 f ga gb) :=
  (mk ha hb).imp fun σ H Q qz3=>(by obtain ⟨A,δ,R,o⟩:=qz3; exact g2.read hr R o)
theorem kg {r:R2} {f:PyData→PyData→Option PyData} (hr:OpD X.K f r) (ha:PD X E a ga) (hb:PD X E b gb) (mk:∀ {ta tb:TE},PE X a ta→PE X b tb→PT X e (CB (tOp r ta tb))):PCD X E e (gT (g2 f ga gb)) :=
  (mk ha hb).imp fun σ H Q pz3=>by
    obtain ⟨A,δ,R,o⟩:=pz3
    refine g2.read (Q:=fun x H'=>∃ k,x=.bl k∧Q k H') hr R ?_
    unfold gT at o
    cases q:g2 f ga gb δ with
    | no=>rw [q] at o; exact o
    | rz C=>rw [q] at o; exact o
    | ok d =>
      rw [q] at o
      cases d with
      | bool k=>exact fun v H' s h=>⟨k,h.ofBool,o H' s⟩
      | _=>exact o.elim
noncomputable def dI (f:Int→Int→Option PyData):PyData→PyData→Option PyData
  | .int i,.int j=>f i j
  | _,_=>none
theorem xY {f:Int→Int→Option PyData} {d1 d2 d:PyData} (h:dI f d1 d2=some d):∃ i j,d1=.int i∧d2=.int j∧f i j=some d:=by
  unfold dI at h
  split at h
  · exact ⟨_,_,rfl,rfl,h⟩
  · cases h
noncomputable def eW:=dI fun i j=>some (.int (i - j))
noncomputable def o8:=dI fun i j=>if 0 < j then some (.int (i % j)) else none
noncomputable def sy:=dI fun i j=>if 0 < j∧j < 1073741824 then some (.int (i / j)) else none
noncomputable def dLt:=dI fun i j=>some (.bool (decide (i < j)))
noncomputable def dLe:=dI fun i j=>some (.bool (decide (i≤j)))
noncomputable def dGt:=dI fun i j=>some (.bool (decide (j < i)))
noncomputable def dGe:=dI fun i j=>some (.bool (decide (j≤i)))
theorem j4 {K:PySem.W.Frag} {f:Int→Int→PyData} {v:Int→Int→V} (hv:∀ i j K H,Is K H (f i j) (v i j)):OpD K (dI fun i j=>some (f i j)) (rI0 v):=fun d1 d2 d x y H A Q e hA h1 h2 k=>by
  obtain ⟨i,j,rfl,rfl,e⟩:=xY e
  cases e
  exact ⟨i,j,h1.ofInt,h2.ofInt,k _ H (aM.refl H) (hv _ _ _ _)⟩
theorem CC {K:PySem.W.Frag} {C C':Int→Int→Prop} [∀ i j,Decidable (C' i j)] {f:Int→Int→PyData} {v:Int→Int→V} (hc:∀ i j,C' i j→C i j) (hv:∀ i j K H,Is K H (f i j) (v i j)):OpD K (dI fun i j=>if C' i j then some (f i j) else none) (rI C v):=fun d1 d2 d x y H A Q e hA h1 h2 k=>by
  obtain ⟨i,j,rfl,rfl,e2⟩:=xY e
  by_cases z:C' i j
  · simp only [if_pos z] at e2
    cases e2
    exact ⟨i,j,h1.ofInt,h2.ofInt,hc i j z,k _ H (aM.refl H) (hv _ _ _ _)⟩
  · simp only [if_neg z] at e2; cases e2
theorem ee (ha:PD X E a ga) (hb:PD X E b gb):PD X E (.BinOp a .Sub b pos) (g2 eW ga gb):=jl (j4 fun _ _ _ _=>cT) ha hb (fV Dh)
theorem xv (ha:PD X E a ga) (hb:PD X E b gb):PD X E (.BinOp a .Mod b pos) (g2 o8 ga gb):=jl (CC (fun _ _ h=>h) fun _ _ _ _=>cT) ha hb (fV qz)
theorem xa (ha:PD X E a ga) (hb:PD X E b gb):PD X E (.BinOp a .FloorDiv b pos) (g2 sy ga gb):=jl (CC (C:=Fi) (fun _ _ h=>h) fun _ _ _ _=>cT) ha hb (fV Cv)
theorem CI (ha:PD X E a ga) (hb:PD X E b gb):PD X E (.Compare a [.LtE] [b] pos) (g2 dLe ga gb):=jl (j4 fun _ _ _ _=>is_bool) ha hb fun h1 h2=>pC xG h1 h2 (jh _)
theorem Fg (ha:PD X E a ga) (hb:PD X E b gb):PD X E (.Compare a [.Gt] [b] pos) (g2 dGt ga gb):=jl (j4 fun _ _ _ _=>is_bool) ha hb fun h1 h2=>pC CA h1 h2 (jh _)
theorem Dg (ha:PD X E a ga) (hb:PD X E b gb):PCD X E (.Compare a [.Lt] [b] pos) (gT (g2 dLt ga gb)):=kg (j4 fun _ _ _ _=>is_bool) ha hb fun h1 h2=>i4 Fc h1 h2 (jh _)
theorem tU (ha:PD X E a ga) (hb:PD X E b gb):PCD X E (.Compare a [.LtE] [b] pos) (gT (g2 dLe ga gb)):=kg (j4 fun _ _ _ _=>is_bool) ha hb fun h1 h2=>i4 xG h1 h2 (jh _)
theorem Du (ha:PD X E a ga) (hb:PD X E b gb):PCD X E (.Compare a [.Gt] [b] pos) (gT (g2 dGt ga gb)):=kg (j4 fun _ _ _ _=>is_bool) ha hb fun h1 h2=>i4 CA h1 h2 (jh _)
theorem CY (ha:PD X E a ga) (hb:PD X E b gb):PCD X E (.Compare a [.GtE] [b] pos) (gT (g2 dGe ga gb)):=kg (j4 fun _ _ _ _=>is_bool) ha hb fun h1 h2=>i4 Ex h1 h2 (jh _)
open PySem.SeqAt in
noncomputable def dEq (x y:PyData):Option PyData:=if bZ x && bZ y && shaped x && shaped y then some (.bool (PyData.eqv x y)) else none
open PySem.SeqAt in
noncomputable def dNe (x y:PyData):Option PyData:=if bZ x && bZ y && shaped x && shaped y then some (.bool (!PyData.eqv x y)) else none
open PySem.SeqAt in
theorem zH {K:PySem.W.Frag}:OpD K dEq (fun x y H Q=>∃ d e,IsD K H d x∧IsD K H e y∧shaped d=true∧shaped e=true∧Q (.bl (PyData.eqv d e)) H):=fun d1 d2 d x y H A Q e hA h1 h2 k=>by
  unfold dEq at e
  split at e
  · rename_i z
    simp only [Bool.and_eq_true] at z
    cases e
    exact ⟨d1,d2,(h1.same aY).isd z.1.1.1,(h2.same aY).isd z.1.1.2,z.1.2,z.2,k _ H (aM.refl H) is_bool⟩
  · cases e
open PySem.SeqAt in
theorem De {K:PySem.W.Frag}:OpD K dNe (fun x y H Q=>∃ d e,IsD K H d x∧IsD K H e y∧shaped d=true∧shaped e=true∧Q (.bl (!PyData.eqv d e)) H):=fun d1 d2 d x y H A Q e hA h1 h2 k=>by
  unfold dNe at e
  split at e
  · rename_i z
    simp only [Bool.and_eq_true] at z
    cases e
    exact ⟨d1,d2,(h1.same aY).isd z.1.1.1,(h2.same aY).isd z.1.1.2,z.1.2,z.2,k _ H (aM.refl H) is_bool⟩
  · cases e
theorem CH {k:Nat} (hr:fj k X.A) (ha:PD X E a ga) (hb:PD X E b gb):PD X E (.Compare a [.Eq] [b] pos) (g2 dEq ga gb):=jl zH ha hb fun h1 h2=>pC (vU hr.units) h1 h2 (jh _)
theorem qL {k:Nat} (hr:fj k X.A) (ha:PD X E a ga) (hb:PD X E b gb):PCD X E (.Compare a [.Eq] [b] pos) (gT (g2 dEq ga gb)):=kg zH ha hb fun h1 h2=>i4 (vU hr.units) h1 h2 (jh _)
theorem A7 {k:Nat} (hr:fj k X.A) (ha:PD X E a ga) (hb:PD X E b gb):PCD X E (.Compare a [.NotEq] [b] pos) (gT (g2 dNe ga gb)):=kg De ha hb fun h1 h2=>i4 (Ej hr.units) h1 h2 (jh _)
noncomputable def fD:PyData→Bool
  | .none=>true
  | _=>false
noncomputable def vA (x:PyData):Option PyData:=some (.bool (fD x))
noncomputable def fZ (x:PyData):Option PyData:=some (.bool (!fD x))
theorem g1.read {tt:(VK)→VK} {f:PyData→Option PyData} {σ:St} {H:Hp} {A:List Addr} {δ:Ds} {Q:VK} {K:PySem.W.Frag} (R:fw K H A δ σ) (o:jj K E A H (g1 f ga δ) Q)
    (hr:∀ d1 d x H',f d1=some d→Ls H' A→aM H H'→Is K (del H' A) d1 x→(∀ v H2,aM H' H2→Is K (del H2 A) d v→Q v H2)→tt Q x H'):eD K E ga σ H (tt Q):=by
  unfold g1 at o
  refine eD.run R (fun d1 e1 v H1 s1 R1 h1=>?_) (fun C e1 H' s'=>?_) (fun e1=>?_)
  · simp only [e1,Rs.aj] at o
    cases e3:f d1 with
    | none=>rw [e3] at o; exact o.elim
    | some d=>rw [e3] at o; exact hr d1 d v H1 e3 R1.ls s1 h1 fun w H' s q=>o w H' (s1.trans s) q
  · rw [e1] at o; exact o H' s'
  · rw [e1] at o; exact o
theorem sJ {K:PySem.W.Frag} {H:Hp} {d:PyData} {v:V} (h:Is K H d v):decide (v=.non)=fD d:=by
  by_cases z:v=.non
  · rw [decide_eq_true z,h.isNone.mp z]; rfl
  · rw [decide_eq_false z]
    have:d≠.none:=fun q=>z (h.isNone.mpr q)
    cases d <;> first | (exact absurd rfl this) | rfl
theorem AN {j pos'} (ha:PD X E a ga):PD X E (.Compare a [.Is] [.Constant .none j pos'] pos) (g1 vA ga) :=
  (A9 (AH ha)).imp fun σ H Q ⟨A,δ,R,o⟩=>g1.read (tt:=fun Q x H1=>Q (.bl (decide (x=.non))) H1) R o fun d1 d x H' e _ _ h k=>by
    cases e; rw [sJ h]; exact k _ H' (aM.refl _) is_bool
theorem yd {j pos'} (ha:PD X E a ga):PD X E (.Compare a [.IsNot] [.Constant .none j pos'] pos) (g1 fZ ga) :=
  (A9 (xJ ha)).imp fun σ H Q ⟨A,δ,R,o⟩=>g1.read (tt:=fun Q x H1=>Q (.bl (!decide (x=.non))) H1) R o fun d1 d x H' e _ _ h k=>by
    cases e; rw [sJ h]; exact k _ H' (aM.refl _) is_bool
theorem vZ {t:TE} (h:PT X e (tB t)) (k:∀ σ H Q,eD X.K E ga σ H Q→t σ H Q):PCD X E e (gT ga):=h.imp fun σ H Q ⟨A,δ,R,o⟩=>k σ H _ ⟨A,δ,R,by
  unfold gT at o
  cases q:ga δ with
  | no=>rw [q] at o; exact o
  | rz C=>rw [q] at o; exact o
  | ok d =>
    rw [q] at o
    cases d with
    | bool c=>exact fun v H' s h=>⟨c,h.ofBool,o H' s⟩
    | _=>exact o.elim⟩
theorem cz (h:PD X E e ga) (he:∀ whole,isTrue e X.env whole=(do let v ← whole; standAt e.pos; holding [v] (truthy v)):=by intro _; rfl):PCD X E e (gT ga):=vZ (D5 h he) fun _ _ _ h=>h
theorem ym {j pos'} (ha:PD X E a ga):PCD X E (.Compare a [.Is] [.Constant .none j pos'] pos) (gT (g1 vA ga)) :=
  vZ (wy (AH ha)) fun σ H Q ⟨A,δ,R,o⟩=>g1.read (tt:=fun Q x H1=>Q (.bl (decide (x=.non))) H1) R o fun d1 d x H' e _ _ h k=>by
    cases e; rw [sJ h]; exact k _ H' (aM.refl _) is_bool
theorem ly {j pos'} (ha:PD X E a ga):PCD X E (.Compare a [.IsNot] [.Constant .none j pos'] pos) (gT (g1 fZ ga)) :=
  vZ (wy (xJ ha)) fun σ H Q ⟨A,δ,R,o⟩=>g1.read (tt:=fun Q x H1=>Q (.bl (!decide (x=.non))) H1) R o fun d1 d x H' e _ _ h k=>by
    cases e; rw [sJ h]; exact k _ H' (aM.refl _) is_bool
theorem zG {ca:Ds→Rs Bool} {f:Bool→Rs Bool} {σ:St} {H:Hp} {A:List Addr} {δ:Ds} {Q:Bool→Hp→Prop} {K:PySem.W.Frag} {t:Bool→Hp→Prop} (R:fw K H A δ σ) (o:uz E H ((ca δ).bind f) Q)
    (k:∀ b H1,aM H H1→fw K H1 A δ σ→uz E H1 (f b) Q→t b H1):cD K E ca σ H t:=by
  refine cD.run R (fun b e H1 s1 R1=>?_) (fun C e H' s'=>?_) (fun e=>?_)
  · rw [e] at o; exact k b H1 s1 R1 (uz.mono (show uz E H (f b) Q from o) s1)
  · rw [e] at o; exact o H' s'
  · rw [e] at o; exact o
variable {ca cb:Ds→Rs Bool} {rest:List Expr}
theorem dC (ha:PCD X E a ca):PCD X E (.UnaryOp .Not a pos) (iO ca):=(DO ha).imp fun σ H Q qz3=>(by obtain ⟨A,δ,R,o⟩:=qz3; exact zG R o fun b H1 s1 R1 o=>o H1 (aM.refl _))
theorem kT (ha:PCD X E a ca):PWD X E (.BoolOp .And [a] pos) ca:=Cj ha
theorem lK (ha:PCD X E a ca):PWD X E (.BoolOp .Or [a] pos) ca:=Dl ha
theorem nk (ha:PCD X E a ca) (hb:PWD X E (.BoolOp .And (b::rest) pos) cb):PWD X E (.BoolOp .And (a::b::rest) pos) (nW ca cb):=PW.imp (DS ha hb) fun σ H Q ⟨A,δ,R,o⟩=>zG R o fun b H1 s1 R1 o=>by
  cases b with
  | true=>exact ⟨A,δ,R1,o⟩
  | false=>exact o H1 (aM.refl _)
theorem oa (ha:PCD X E a ca) (hb:PWD X E (.BoolOp .Or (b::rest) pos) cb):PWD X E (.BoolOp .Or (a::b::rest) pos) (cOr ca cb):=PW.imp (E6 ha hb) fun σ H Q ⟨A,δ,R,o⟩=>zG R o fun b H1 s1 R1 o=>by
  cases b with
  | false=>exact ⟨A,δ,R1,o⟩
  | true=>exact o H1 (aM.refl _)
theorem kR (h:PWD X E e ca):PCD X E e ca:=PW.pt h
theorem CQ {f:PyData→Rs PyData} {σ:St} {H:Hp} {A:List Addr} {δ:Ds} {Q:VK} {K:PySem.W.Frag} {t:VK} (R:fw K H A δ σ) (o:jj K E A H ((ga δ).bind f) Q)
    (k:∀ d v H1,aM H H1→fw K H1 A δ σ→Is K (del H1 A) d v→jj K E A H1 (f d) Q→t v H1):eD K E ga σ H t:=by
  refine eD.run R (fun d e v H1 s1 R1 h1=>?_) (fun C e H' s'=>?_) (fun e=>?_)
  · rw [e] at o; exact k d v H1 s1 R1 h1 (jj.mono (show jj K E A H (f d) Q from o) s1)
  · rw [e] at o; exact o H' s'
  · rw [e] at o; exact o
theorem p0 {K:PySem.W.Frag} {E:XK} {A:List Addr} {H:Hp} {d:PyData} {f:Bool→Rs PyData} {Q:VK} (o:jj K E A H ((truth d).bind f) Q):∃ t,d=.bool t∧jj K E A H (f t) Q:=by
  cases d with
  | bool t=>exact ⟨t,rfl,o⟩
  | _=>exact o.elim
theorem oI {op} (ha:PD X E a ga):PD X E (.BoolOp op [a] pos) ga:=Dj ha
theorem qk (ha:PD X E a ga) (hb:PD X E (.BoolOp .And (b::rest) pos) gb):PD X E (.BoolOp .And (a::b::rest) pos) (xk ga gb):=(Dp ha hb).imp fun σ H Q ⟨A,δ,R,o⟩=>CQ R o fun d v H1 s1 R1 h1 o=>by
  obtain ⟨t,rfl,o⟩:=p0 o
  refine ⟨t,h1.ofBool,?_⟩
  cases t with
  | true=>exact ⟨A,δ,R1,o⟩
  | false=>exact o _ H1 (aM.refl _) is_bool
theorem Ew (ha:PD X E a ga) (hb:PD X E (.BoolOp .Or (b::rest) pos) gb):PD X E (.BoolOp .Or (a::b::rest) pos) (gOr ga gb):=(EU ha hb).imp fun σ H Q ⟨A,δ,R,o⟩=>CQ R o fun d v H1 s1 R1 h1 o=>by
  obtain ⟨t,rfl,o⟩:=p0 o
  refine ⟨t,h1.ofBool,?_⟩
  cases t with
  | false=>exact ⟨A,δ,R1,o⟩
  | true=>exact o _ H1 (aM.refl _) is_bool
theorem CU (hc:PCD X E c ca) (ha:PD X E a ga) (hb:PD X E b gb):PD X E (.IfExp c a b pos) (gIf ca ga gb):=(Ak hc ha hb).imp fun σ H Q pz3=>by
  obtain ⟨A,δ,R,o⟩:=pz3
  unfold gIf at o
  refine cD.run R (fun t e H1 s1 R1=>?_) (fun C e H' s'=>?_) (fun e=>?_)
  · rw [e] at o
    have o:=jj.mono (show jj X.K E A H (if t=true then ga δ else gb δ) Q from o) s1
    cases t with
    | true=>exact ⟨A,δ,R1,o⟩
    | false=>exact ⟨A,δ,R1,o⟩
  · rw [e] at o; exact o H' s'
  · rw [e] at o; exact o
noncomputable def nM:PyData→Option PyData
  | .int i=>some (.int (-i))
  | _=>none
theorem oj (ha:PD X E a ga):PD X E (.UnaryOp .USub a pos) (g1 nM ga):=(Fj Dy ha).imp fun σ H Q ⟨A,δ,R,o⟩=>g1.read (tt:=fun Q x H1=>∃ i,x=.int i∧Q (.int (-i)) H1) R o fun d1 d x H' e _ _ h k=>by
  cases d1 with
  | int i=>cases e; exact ⟨i,h.ofInt,k _ H' (aM.refl _) cT⟩
  | _=>cases e
variable {es:List Expr} {gs:Ds→Rs (List PyData)}
theorem ai:PAD X E [] ar:=⟨iI.imp fun σ H Q qz3=>(by obtain ⟨A,δ,R,o⟩:=qz3; exact o [] H (aM.refl _) fU),fun δ ds e=>by cases e; rfl⟩
theorem ae (ha:PD X E a ga) (hr:PAD X E es gs) (hs:starEach (a::es) X.env=(false,eval a X.env)::starEach es X.env:=by rfl):PAD X E (a::es) (af ga gs):=by
  refine ⟨(fg ha hr.1 hs).imp fun σ H Q ⟨A,δ,R,o⟩=>?_,fun δ ds e=>?_⟩
  · unfold af at o
    refine eD.run R (fun d e v H1 s1 R1 h1=>?_) (fun C e H' s'=>?_) (fun e=>?_)
    · simp only [e,Rs.aj] at o
      refine aD.run R1 (fun ds e2 vs H2 s2 R2 h2=>?_) (fun C e2 H' s'=>?_) (fun e2=>?_)
      · simp only [e2,Rs.aj] at o
        exact o _ H2 (s1.trans s2) (fc (h1.same s2.del) h2)
      · simp only [e2,Rs.jU] at o; exact o H' (s1.trans s')
      · simp only [e2,Rs.dX] at o; exact o
    · simp only [e,Rs.jU] at o; exact o H' s'
    · simp only [e,Rs.dX] at o; exact o
  · unfold af at e
    cases q:ga δ with
    | ok d =>
      cases q2:gs δ with
      | ok l =>
        simp only [q,q2,Rs.aj] at e
        cases e
        simp [hr.2 δ l q2]
      | rz C=>simp only [q,q2,Rs.aj,Rs.jU] at e; cases e
      | no=>simp only [q,q2,Rs.aj,Rs.dX] at e; cases e
    | rz C=>simp only [q,Rs.jU] at e; cases e
    | no=>simp only [q,Rs.dX] at e; cases e
theorem rR {f:List PyData→Rs PyData} {σ:St} {H:Hp} {A:List Addr} {δ:Ds} {Q:VK} {K:PySem.W.Frag} {t:List V→Hp→Prop} (R:fw K H A δ σ) (o:jj K E A H ((gs δ).bind f) Q)
    (k:∀ ds vs H1,gs δ=.ok ds→aM H H1→fw K H1 A δ σ→Iss K (del H1 A) ds vs→jj K E A H1 (f ds) Q→t vs H1):aD K E gs σ H t:=by
  refine aD.run R (fun d e v H1 s1 R1 h1=>?_) (fun C e H' s'=>?_) (fun e=>?_)
  · rw [e] at o; exact k d v H1 e s1 R1 h1 (jj.mono (show jj K E A H (f d) Q from o) s1)
  · rw [e] at o; exact o H' s'
  · rw [e] at o; exact o
theorem je {x1} (h:PAD X E es gs) (hl:es.length≤1000:=by decide):PD X E (.Tuple es x1 pos) (gN gs):=(D7 h.1).imp fun σ H Q ⟨A,δ,R,o⟩=>rR R o fun ds vs H1 e s1 R1 h1 o=>by
  have n:=h.2 δ ds e
  have m:=h1.length
  exact ⟨by rw [sizeLine_eq]; omega,fun p hp=>o _ _ (c6 hp) (nK R1.ls hp h1)⟩
theorem ur (h:PAD X E es gs) (hl:es.length≤1000:=by decide):PD X E (.List es pos) (sU gs):=(wJ h.1).imp fun σ H Q ⟨A,δ,R,o⟩=>rR R o fun ds vs H1 e s1 R1 h1 o=>by
  have n:=h.2 δ ds e
  have m:=h1.length
  exact ⟨by rw [sizeLine_eq]; omega,fun p hp=>o _ _ (c6 hp) (pG R1.ls hp h1)⟩
noncomputable def spD (K:PySem.W.Frag) (n:Nat) (gf:List PyData→Rs PyData):Sp:=fun vs H Q E=>∃ A ds,Ls H A∧Iss K (del H A) ds vs∧ds.length=n∧jj K E A H (gf ds) Q
structure aO (P:Program) (w:World) (K:PySem.W.Frag) (mg:Str→Option Value) (base:Heap) (k:Nat) (x:Str) (n:Nat) (gf:List PyData→Rs PyData):Prop where
  ex:∃ f fd ps,jR P w K mg base (CXW P w) k f fd ps (spD K n gf)∧mg x=some (.ref f)∧PySem.W.keepIn K (.ref f)=true∧Binds K fd ps []
theorem iM {X:Cx}:Passes (CXW X.prog X.w) X E0:=fun _ _ _ _ _ _ _ qz7=>(by obtain ⟨_,_,_,_,_,_,h,_⟩:=qz7; exact h.elim)
theorem aG {k j:Nat} {x:Str} {p:Pos} {gf:List PyData→Rs PyData} (D:aO X.prog X.w X.K X.mg X.base k x (e::es).length gf) (hr:fj j X.A) (hx:Passes (CXW X.prog X.w) X E) (ha:PAD X E (e::es) gs) (hk:k≤j:=by decide) (hg:Gl X x:=by rfl)
    (hdb:(x == ("__debug__":Str))=false:=by decide) (he:starEach (e::es) X.env=(false,eval e X.env)::starEach es X.env:=by rfl) (hpl:(backTo pos (starEach es X.env)).any (·.1)=false:=by rfl) :
    PD X E (.Call (.Name x p) (e::es) [] pos) (aE gf gs):=by
  obtain ⟨f,fd,ps,F,hm,hkp,hb⟩:=D.ex
  refine (yz F (hr.mono hk) hg hm hkp hb .nil hx ha.1 hdb he hpl).imp fun σ H Q rz3=>?_
  obtain ⟨A,δ,R,o⟩:=rz3
  refine rR R o fun ds vs H1 e s1 R1 h1 o=>?_
  refine ⟨A,ds,R1.ls,by simpa using h1,ha.2 δ ds e,o⟩
noncomputable def FnD (K:PySem.W.Frag) (f:List PyData→Option PyData) (r:List V→Hp→VK→Prop):Prop :=
  ∀ (ds:List PyData) (d:PyData) (vs:List V) (H:Hp) (A:List Addr) (Q:VK),f ds=some d→Ls H A→Iss K (del H A) ds vs→(∀ v H',aM H H'→Is K (del H' A) d v→Q v H')→r vs H Q
theorem iA {r:List V→Hp→VK→Prop} {f:List PyData→Option PyData} (hf:FnD X.K f r) (ha:PAD X E es gs) (mk:∀ {t:TA},PA X es t→PE X e (tCB r t)):PD X E e (gF f gs) :=
  (mk ha.1).imp fun σ H Q ⟨A,δ,R,o⟩=>rR R o fun ds vs H1 e s1 R1 h1 o=>by
    cases q:f ds with
    | none=>rw [q] at o; exact o.elim
    | some d=>rw [q] at o; exact hf ds d vs H1 A Q q R1.ls h1 o
end
end L2
set_option maxRecDepth 100000
set_option maxHeartbeats 4000000
namespace L2
open PySem PySem.Spec PyProof.Rows
section
variable {X:Cx} {E:XK} {a b c e:Expr} {ga gb gc:Ds→Rs PyData} {pos:Pos} {es:List Expr} {gs:Ds→Rs (List PyData)}
noncomputable def CS (K:PySem.W.Frag):R2:=fun x y H Q=>∃ a b xs ys,x=.ref a∧y=.ref b∧SqT K H a xs∧SqT K H b ys∧xs.length + ys.length≤sizeLine ∧
  (xs=[]→Q (.ref b) H)∧(xs≠[]→ys=[]→Q (.ref a) H)∧(xs≠[]→ys≠[]→∀ p,H p=none→Q (.ref p) (upd H p (.tup (xs++ys))))
theorem Bn:OpR X (binaryOp .Add) (CS X.K):=by
  intro pins s σ H x y v u Q I rx ry h
  obtain ⟨a,b,xs,ys,rfl,rfl,ha,hb,hz,q0,q1,q2⟩:=h
  by_cases hx:xs=[]
  · cases rx
    cases ry
    obtain ⟨vs,r1,p1,_⟩:=I.tuple ha
    obtain ⟨ws,r2,p2,_⟩:=I.tuple hb
    obtain ⟨⟨cls,dd,data,sl⟩,ho,hc,n,hd⟩:=id p1
    obtain ⟨⟨cls2,dd2,data2,sl2⟩,ho2,hc2,n2,hd2⟩:=id p2
    simp only at hc hd hc2 hd2
    subst hc hd hc2 hd2
    have hv:vs=[]:=r1.nil_iff.mpr hx
    exact concat_meets ⟨_,ho,rfl⟩ ⟨_,ho2,rfl⟩ noFill_tuple_add seq_tuple_add PySem.F.slot_tuple_add PySem.F.entry_tuple_add (PySem.F.args_tuple_add_2 _ _)
      (tuple_addW0 a b vs.toArray ws.toArray n n2 dd dd2 sl sl2 (by simp [hv])) ⟨ho,ho2,⟨.ref b,H,I,rfl,q0 hx⟩⟩
  · exact Br pins s σ H _ _ v u Q I rx ry ⟨a,b,xs,ys,rfl,rfl,ha,hb,hx,hz,q1 hx,q2 hx⟩
noncomputable def br:PyData→PyData→Option PyData
  | .int i,.int j=>some (.int (i + j))
  | .list x,.list y=>if x.length + y.length≤1000000 then some (.list (x++y)) else none
  | .tuple x,.tuple y=>if x.length + y.length≤1000000 then some (.tuple (x++y)) else none
  | _,_=>none
theorem B7 {K:PySem.W.Frag}:OpD K br (fun x y H Q=>rI0 (fun i j=>.int (i + j)) x y H Q∨Ff x y H Q∨CS K x y H Q):=fun d1 d2 d x y H A Q e hA h1 h2 k=>by
  unfold br at e
  split at e
  · cases e
    exact .inl ⟨_,_,h1.ofInt,h2.ofInt,k _ H (aM.refl _) cT⟩
  · rename_i l1 l2
    split at e
    · rename_i hz
      cases e
      obtain ⟨p,xs,rfl,hp,hx⟩:=h1.ofLst
      obtain ⟨q,ys,rfl,hq,hy⟩:=h2.ofLst
      refine .inr (.inl ⟨p,q,xs,ys,rfl,rfl,aY _ _ hp,aY _ _ hq,by rw [hx.length,hy.length,sizeLine_eq]; omega,fun r hr=>k _ _ (c6 hr) (pG hA hr (hx.append hy))⟩)
    · cases e
  · rename_i l1 l2
    split at e
    · rename_i hz
      cases e
      obtain ⟨p,xs,rfl,hp,hx⟩:=h1.ofTup
      obtain ⟨q,ys,rfl,hq,hy⟩:=h2.ofTup
      refine .inr (.inr ⟨p,q,xs,ys,rfl,rfl,SqT.of (aY _ _ hp),SqT.of (aY _ _ hq),by rw [hx.length,hy.length,sizeLine_eq]; omega,fun z=>?_,fun _ z=>?_,fun _ _ r hr=>k _ _ (c6 hr) (nK hA hr (hx.append hy))⟩)
      · subst z
        have:l1=[]:=List.length_eq_zero_iff.mp (by rw [← hx.length]; rfl)
        subst this
        exact k _ H (aM.refl _) (l9 hq hy)
      · subst z
        have:l2=[]:=List.length_eq_zero_iff.mp (by rw [← hy.length]; rfl)
        subst this
        rw [List.append_nil] at k
        exact k _ H (aM.refl _) (l9 hp hx)
    · cases e
  · cases e
theorem bO (ha:PD X E a ga) (hb:PD X E b gb):PD X E (.BinOp a .Add b pos) (g2 br ga gb):=jl B7 ha hb (fV (nU.or (C0.or Bn)))
noncomputable def dIx:PyData→PyData→Option PyData
  | .list x,.int i=>atI x i
  | .tuple x,.int i=>atI x i
  | _,_=>none
theorem xP {K:PySem.W.Frag} {H:Hp} {ds:List PyData} {vs:List V} {i:Int} {d:PyData} (h:Iss K H ds vs) (e:atI ds i=some d):∃ v,atI vs i=some v∧Is K H d v:=by
  unfold atI at e ⊢
  rw [h.length]
  cases q:ixN ds.length i with
  | none=>rw [q] at e; cases e
  | some j=>rw [q] at e; exact h.getD e
theorem C1 {K:PySem.W.Frag}:OpD K dIx (fun x y H Q=>Fb K x y H Q∨ED K x y H Q):=fun d1 d2 d x y H A Q e hA h1 h2 k=>by
  unfold dIx at e
  split at e
  · obtain ⟨p,xs,rfl,hp,hx⟩:=h1.ofLst
    obtain ⟨v,ev,hv⟩:=xP hx e
    exact .inl ⟨p,xs,_,v,rfl,h2.ofInt,SqL.of (aY _ _ hp),ev,k _ H (aM.refl _) hv⟩
  · obtain ⟨p,xs,rfl,hp,hx⟩:=h1.ofTup
    obtain ⟨v,ev,hv⟩:=xP hx e
    exact .inr ⟨p,xs,_,v,rfl,h2.ofInt,SqT.of (aY _ _ hp),ev,k _ H (aM.refl _) hv⟩
  · cases e
theorem bG (ha:PD X E a ga) (hb:PD X E b gb) (hs:yc b:=by intro _ _; rfl):PD X E (.Subscript a b pos) (g2 dIx ga gb):=jl C1 ha hb fun h1 h2=>An (tG.or D1) h1 h2 hs
noncomputable def eR:List PyData→Option PyData
  | [.list x]=>some (.int x.length)
  | [.tuple x]=>some (.int x.length)
  | _=>none
theorem nI {K:PySem.W.Frag} {H:Hp} {d:PyData} {vs:List V} (h:Iss K H [d] vs):∃ v,vs=[v]∧Is K H d v:=by
  obtain ⟨v,r,rfl,h1,h2⟩:=h.cons_of
  rw [h2.nil_of]
  exact ⟨v,rfl,h1⟩
theorem Bz {K:PySem.W.Frag} {H:Hp} {d e:PyData} {vs:List V} (h:Iss K H [d,e] vs):∃ v u,vs=[v,u]∧Is K H d v∧Is K H e u:=by
  obtain ⟨v,r,rfl,h1,h2⟩:=h.cons_of
  obtain ⟨u,rfl,h3⟩:=nI h2
  exact ⟨v,u,rfl,h1,h3⟩
theorem BO {K:PySem.W.Frag}:FnD K eR (fun xs H Q=>∃ p ys,xs=[.ref p]∧(SqL K H p ys∨SqT K H p ys)∧Q (.int ys.length) H):=fun ds d vs H A Q e hA h k=>by
  unfold eR at e
  split at e
  · cases e
    obtain ⟨v,rfl,hh⟩:=nI h
    obtain ⟨p,xs,rfl,hp,hx⟩:=hh.ofLst
    exact ⟨p,xs,rfl,.inl (SqL.of (aY _ _ hp)),k _ H (aM.refl _) (by rw [hx.length]; exact cT)⟩
  · cases e
    obtain ⟨v,rfl,hh⟩:=nI h
    obtain ⟨p,xs,rfl,hp,hx⟩:=hh.ofTup
    exact ⟨p,xs,rfl,.inr (SqT.of (aY _ _ hp)),k _ H (aM.refl _) (by rw [hx.length]; exact cT)⟩
  · cases e
theorem fA {p:Pos} (hm:X.mg "len"=none) (ha:PAD X E (a::es) gs) (hg:Gl X "len":=by rfl) (he:starEach (a::es) X.env=(false,eval a X.env)::starEach es X.env:=by rfl) (hpl:(backTo pos (starEach es X.env)).any (·.1)=false:=by rfl) :
    PD X E (.Call (.Name "len" p) (a::es) [] pos) (gF eR gs):=iA BO ha fun h=>gP kl hg hm PySem.boot_len h (by decide) (by decide) he hpl
theorem zL:bootBuiltins "int"=some (.type "int"):=by decide +kernel
theorem Bx:bootBuiltins "bool"=some (.type "bool"):=by decide +kernel
theorem u0:bootBuiltins "tuple"=some (.type "tuple"):=by decide +kernel
theorem BY:bootBuiltins "list"=some (.type "list"):=by decide +kernel
theorem zc:bootBuiltins "isinstance"=some (.builtin "isinstance"):=by decide +kernel
theorem DN:bootBuiltins "all"=some (.builtin "all"):=by decide +kernel
theorem DZ:bootBuiltins "sum"=some (.builtin "sum"):=by decide +kernel
theorem Dt:bootBuiltins "min"=some (.builtin "min"):=by decide +kernel
theorem Eb:bootBuiltins "max"=some (.builtin "max"):=by decide +kernel
noncomputable def gM:List PyData→Option (List Int)
  | []=>some []
  | .int i::r=>(gM r).map (i::·)
  | _::_=>none
theorem dR:∀ {ds:List PyData} {ns:List Int},gM ds=some ns→ds=ns.map PyData.int
  | [],_,h=>by cases h; rfl
  | .int i::r,ns,h=>by
    unfold gM at h
    cases q:gM r with
    | none=>rw [q] at h; cases h
    | some l=>rw [q] at h; cases h; rw [dR q]; rfl
  | .none::_,_,h=>by cases h
  | .bool _::_,_,h=>by cases h
  | .str _::_,_,h=>by cases h
  | .list _::_,_,h=>by cases h
  | .tuple _::_,_,h=>by cases h
  | .dict _::_,_,h=>by cases h
theorem d5:∀ (ns:List Int),gM (ns.map PyData.int)=some ns
  | []=>rfl
  | n::r=>by rw [List.map_cons]; unfold gM; rw [d5 r]; rfl
noncomputable def ib:List PyData→Option (List Bool)
  | []=>some []
  | .bool i::r=>(ib r).map (i::·)
  | _::_=>none
theorem oV:∀ {ds:List PyData} {ns:List Bool},ib ds=some ns→ds=ns.map PyData.bool
  | [],_,h=>by cases h; rfl
  | .bool i::r,ns,h=>by
    unfold ib at h
    cases q:ib r with
    | none=>rw [q] at h; cases h
    | some l=>rw [q] at h; cases h; rw [oV q]; rfl
  | .none::_,_,h=>by cases h
  | .int _::_,_,h=>by cases h
  | .str _::_,_,h=>by cases h
  | .list _::_,_,h=>by cases h
  | .tuple _::_,_,h=>by cases h
  | .dict _::_,_,h=>by cases h
theorem mM:∀ (ns:List Bool),ib (ns.map PyData.bool)=some ns
  | []=>rfl
  | n::r=>by rw [List.map_cons]; unfold ib; rw [mM r]; rfl
noncomputable def yU:List PyData→Option PyData
  | [.list x]=>(gM x).map fun ns=>.int ns.sum
  | _=>none
noncomputable def sW:List PyData→Option PyData
  | [.list x]=>(ib x).map fun ns=>.bool (ns.all id)
  | _=>none
theorem Cp {K:PySem.W.Frag}:FnD K yU (fun xs H Q=>∃ (a:Addr) (ns:List Int),xs=[.ref a]∧SqL K H a (ns.map V.int)∧Q (.int ns.sum) H):=fun ds d vs H A Q e hA h k=>by
  unfold yU at e
  split at e
  · rename_i x
    cases q:gM x with
    | none=>rw [q] at e; cases e
    | some ns =>
      rw [q] at e; cases e
      obtain ⟨v,rfl,hh⟩:=nI h
      obtain ⟨p,xs,rfl,hp,hx⟩:=hh.ofLst
      rw [dR q] at hx
      rw [hx.ofInts] at hp
      exact ⟨p,ns,rfl,SqL.of (aY _ _ hp),k _ H (aM.refl _) cT⟩
  · cases e
theorem Bu {K:PySem.W.Frag}:FnD K sW (fun xs H Q=>∃ (a:Addr) (ns:List Bool),xs=[.ref a]∧SqL K H a (ns.map V.bl)∧Q (.bl (ns.all id)) H):=fun ds d vs H A Q e hA h k=>by
  unfold sW at e
  split at e
  · rename_i x
    cases q:ib x with
    | none=>rw [q] at e; cases e
    | some ns =>
      rw [q] at e; cases e
      obtain ⟨v,rfl,hh⟩:=nI h
      obtain ⟨p,xs,rfl,hp,hx⟩:=hh.ofLst
      rw [oV q] at hx
      rw [hx.ofBools] at hp
      exact ⟨p,ns,rfl,SqL.of (aY _ _ hp),k _ H (aM.refl _) is_bool⟩
  · cases e
theorem zM {p:Pos} (hc:X.calm=true) (hm:X.mg "sum"=none) (ha:PAD X E (a::es) gs) (hg:Gl X "sum":=by rfl) (he:starEach (a::es) X.env=(false,eval a X.env)::starEach es X.env:=by rfl) (hpl:(backTo pos (starEach es X.env)).any (·.1)=false:=by rfl) :
    PD X E (.Call (.Name "sum" p) (a::es) [] pos) (gF yU gs):=iA Cp ha fun h=>gP (Af hc) hg hm DZ h (by decide) (by decide) he hpl
theorem tO {p:Pos} (hc:X.calm=true) (hm:X.mg "all"=none) (ha:PAD X E (a::es) gs) (hg:Gl X "all":=by rfl) (he:starEach (a::es) X.env=(false,eval a X.env)::starEach es X.env:=by rfl) (hpl:(backTo pos (starEach es X.env)).any (·.1)=false:=by rfl) :
    PD X E (.Call (.Name "all" p) (a::es) [] pos) (gF sW gs):=iA Bu ha fun h=>gP (AX hc) hg hm DN h (by decide) (by decide) he hpl
noncomputable def qt:List PyData→Option PyData
  | [.int i,.int j]=>some (.int (if j < i then j else i))
  | _=>none
noncomputable def lY:List PyData→Option PyData
  | [.int i,.int j]=>some (.int (if j > i then j else i))
  | _=>none
theorem zN {K:PySem.W.Frag}:FnD K qt (fun xs H Q=>∃ i j,xs=[.int i,.int j]∧Q (.int (if j < i then j else i)) H):=fun ds d vs H A Q e hA h k=>by
  unfold qt at e
  split at e
  · cases e
    obtain ⟨v,u,rfl,h1,h2⟩:=Bz h
    rw [h1.ofInt,h2.ofInt]
    exact ⟨_,_,rfl,k _ H (aM.refl _) cT⟩
  · cases e
theorem AU {K:PySem.W.Frag}:FnD K lY (fun xs H Q=>∃ i j,xs=[.int i,.int j]∧Q (.int (if j > i then j else i)) H):=fun ds d vs H A Q e hA h k=>by
  unfold lY at e
  split at e
  · cases e
    obtain ⟨v,u,rfl,h1,h2⟩:=Bz h
    rw [h1.ofInt,h2.ofInt]
    exact ⟨_,_,rfl,k _ H (aM.refl _) cT⟩
  · cases e
theorem xT {p:Pos} (hc:X.calm=true) (hm:X.mg "min"=none) (ha:PAD X E (a::es) gs) (hg:Gl X "min":=by rfl) (he:starEach (a::es) X.env=(false,eval a X.env)::starEach es X.env:=by rfl) (hpl:(backTo pos (starEach es X.env)).any (·.1)=false:=by rfl) :
    PD X E (.Call (.Name "min" p) (a::es) [] pos) (gF qt gs):=iA zN ha fun h=>gP (ze hc) hg hm Dt h (by decide) (by decide) he hpl
theorem yh {p:Pos} (hc:X.calm=true) (hm:X.mg "max"=none) (ha:PAD X E (a::es) gs) (hg:Gl X "max":=by rfl) (he:starEach (a::es) X.env=(false,eval a X.env)::starEach es X.env:=by rfl) (hpl:(backTo pos (starEach es X.env)).any (·.1)=false:=by rfl) :
    PD X E (.Call (.Name "max" p) (a::es) [] pos) (gF lY gs):=iA AU ha fun h=>gP (zd hc) hg hm Eb h (by decide) (by decide) he hpl
noncomputable def vo:List PyData→Option PyData
  | [.int i]=>some (.int i)
  | [.bool k]=>some (.int (if k then 1 else 0))
  | _=>none
theorem Ca {K:PySem.W.Frag}:FnD K vo (fun xs H Q=>(∃ i,xs=[.int i]∧Q (.int i) H)∨∃ k,xs=[.bl k]∧Q (.int (if k then 1 else 0)) H):=fun ds d vs H A Q e hA h k=>by
  unfold vo at e
  split at e
  · cases e
    obtain ⟨v,rfl,h1⟩:=nI h
    rw [h1.ofInt]
    exact .inl ⟨_,rfl,k _ H (aM.refl _) cT⟩
  · cases e
    obtain ⟨v,rfl,h1⟩:=nI h
    rw [h1.ofBool]
    exact .inr ⟨_,rfl,k _ H (aM.refl _) cT⟩
  · cases e
theorem uS {p:Pos} (hm:X.mg "int"=none) (ha:PAD X E (a::es) gs) (hg:Gl X "int":=by rfl) (he:starEach (a::es) X.env=(false,eval a X.env)::starEach es X.env:=by rfl) (hpl:(backTo pos (starEach es X.env)).any (·.1)=false:=by rfl) :
    PD X E (.Call (.Name "int" p) (a::es) [] pos) (gF vo gs):=iA Ca ha fun h=>rF zB hg hm zL h (by decide) (by decide) he hpl
noncomputable def ka:List PyData→Option PyData
  | [.list x]=>some (.tuple x)
  | [.tuple x]=>some (.tuple x)
  | _=>none
theorem yS {K:PySem.W.Frag}:FnD K ka (fun xs H Q=>∃ p ys,xs=[.ref p]∧((SqL K H p ys∧∀ l,H l=none→Q (.ref l) (upd H l (.tup ys)))∨(SqT K H p ys∧Q (.ref p) H))):=fun ds d vs H A Q e hA h k=>by
  unfold ka at e
  split at e
  · cases e
    obtain ⟨v,rfl,hh⟩:=nI h
    obtain ⟨p,xs,rfl,hp,hx⟩:=hh.ofLst
    exact ⟨p,xs,rfl,.inl ⟨SqL.of (aY _ _ hp),fun l hl=>k _ _ (c6 hl) (nK hA hl hx)⟩⟩
  · cases e
    obtain ⟨v,rfl,hh⟩:=nI h
    obtain ⟨p,xs,rfl,hp,hx⟩:=hh.ofTup
    exact ⟨p,xs,rfl,.inr ⟨SqT.of (aY _ _ hp),k _ H (aM.refl _) (l9 hp hx)⟩⟩
  · cases e
theorem jW {p:Pos} (hm:X.mg "tuple"=none) (ha:PAD X E (a::es) gs) (hg:Gl X "tuple":=by rfl) (he:starEach (a::es) X.env=(false,eval a X.env)::starEach es X.env:=by rfl) (hpl:(backTo pos (starEach es X.env)).any (·.1)=false:=by rfl) :
    PD X E (.Call (.Name "tuple" p) (a::es) [] pos) (gF ka gs):=iA yS ha fun h=>rF rh hg hm u0 h (by decide) (by decide) he hpl
noncomputable def ug (T:String) (d:PyData):Option PyData:=if bZ d then some (.bool (tY d T)) else none
theorem om {T:Str} {T':String} {p p':Pos} (hm:X.mg "isinstance"=none) (hmT:X.mg T=none) (hb:bootBuiltins T=some (.type T')) (hT:T'∈["bool", "int", "list", "tuple"]) (ha:PD X E a ga)
    (hg:Gl X "isinstance":=by rfl) (hgT:Gl X T:=by rfl) (hn:T≠"__name__":=by decide) (hdT:(T == ("__debug__":Str))=false:=by decide) (hs:starEach [a,.Name T p'] X.env=(false,eval a X.env)::starEach [.Name T p'] X.env:=by rfl)
    (hs2:starEach [.Name T p'] X.env=(false,eval (.Name T p') X.env)::starEach [] X.env:=by rfl) (hpl:(backTo pos (starEach [.Name T p'] X.env)).any (·.1)=false:=by rfl) :
    PD X E (.Call (.Name "isinstance" p) [a,.Name T p'] [] pos) (g1 (ug T') ga):=by
  refine (gP uJ hg hm zc (fg ha (fg (B8 (v:=.ty T') hgT hmT hb rfl hn hdT) iI hs2) hs) (by decide) (by decide) hs hpl).imp fun σ H Q rz3=>?_
  obtain ⟨A,δ,R,o⟩:=rz3
  refine g1.read (tt:=fun Q x H1=>∃ d v T,[x,V.ty T']=[v,.ty T]∧IsD X.K H1 d v∧T∈["bool", "int", "list", "tuple"]∧Q (.bl (tY d T)) H1) R o fun d1 d x H' e _ _ h k=>?_
  unfold ug at e
  split at e
  · rename_i z
    cases e
    exact ⟨d1,x,T',rfl,(h.same aY).isd z,hT,k _ H' (aM.refl _) is_bool⟩
  · cases e
end
end L2
set_option maxRecDepth 100000
set_option maxHeartbeats 4000000
namespace L2
open PySem PySem.Spec PyProof.Rows
noncomputable def yV (K:PySem.W.Frag) (J:It) (ds:List PyData) (G:Hp):Prop:=∀ (H1:Hp) (B:List Addr),aM G H1→Ls H1 B→(∀ b∈B,G b=none) →
  (∀ i,i < ds.length→J.go i H1)∧J.stop ds.length H1∧∀ i x H2,i < ds.length→J.yld i H1 x H2→aM H1 H2∧∃ d,ds[i]?=some d∧Is K (del H2 B) d x
noncomputable def outI (K:PySem.W.Frag) (E:XK) (A:List Addr) (H:Hp) (r:Rs (List PyData)) (R:It→Hp→Prop):Prop:=match r with
  | .ok ds=>∀ J H',aM H H'→yV K J ds (del H' A)→R J H'
  | .rz C=>∀ H',aM H H'→E (.ref C) none H'
  | .no=>False
noncomputable def iD (K:PySem.W.Frag) (E:XK) (g:Ds→Rs (List PyData)):TI:=fun σ H R=>∃ A δ,fw K H A δ σ∧outI K E A H (g δ) R
noncomputable def PID (X:Cx) (E:XK) (tg iter:Expr) (g:Ds→Rs (List PyData)):Prop:=PI X tg iter (iD X.K E g)
theorem PI.imp {X:Cx} {tg it:Expr} {t t':TI} (h:PI X tg it t) (k:∀ σ H R,t' σ H R→t σ H R):PI X tg it t':=fun pins s σ H R I q=>h pins s σ H R I (k σ H R q)
theorem PI.or {X:Cx} {tg it:Expr} {t t':TI} (h:PI X tg it t) (h':PI X tg it t'):PI X tg it (fun σ H R=>t σ H R∨t' σ H R):=fun pins s σ H R I q=>q.elim (h pins s σ H R I) (h' pins s σ H R I)
section
variable {X:Cx} {E:XK} {tg a:Expr} {ga:Ds→Rs PyData} {pos:Pos}
noncomputable def yp:PyData→Rs (List PyData)
  | .list ds=>.ok ds
  | .tuple ds=>.ok ds
  | _=>.no
theorem um {G H1:Hp} {B:List Addr} (s:aM G H1) (hB:∀ b∈B,G b=none):aM G (del H1 B):=fun b o e=>by
  rw [cA (fun z=>by rw [hB b z] at e; cases e)]
  exact s b o e
theorem yQ {K:PySem.W.Frag} {G:Hp} {p:Addr} {xs:List V} {ds:List PyData} (hp:G p=some (.lst xs)) (h:Iss K G ds xs):yV K (Itl K p) ds G:=fun H1 B s _ hB=>by
  have hl:=h.length
  have hS:SqL K H1 p xs:=SqL.of (s _ _ hp)
  refine ⟨fun i hi=>⟨xs,xs[i]'(by omega),hS,List.getElem?_eq_getElem _⟩,⟨xs,hS,by omega⟩,fun i x H2 hi y=>?_⟩
  obtain ⟨rfl,y⟩:=y
  obtain ⟨d,e,hd⟩:=h.get (y xs hS)
  exact ⟨aM.refl _,d,e,hd.same (um s hB)⟩
theorem Bd {K:PySem.W.Frag} {G:Hp} {p:Addr} {xs:List V} {ds:List PyData} (hp:G p=some (.tup xs)) (h:Iss K G ds xs):yV K (Itt K p) ds G:=fun H1 B s _ hB=>by
  have hl:=h.length
  have hS:SqT K H1 p xs:=SqT.of (s _ _ hp)
  refine ⟨fun i hi=>⟨xs,xs[i]'(by omega),hS,List.getElem?_eq_getElem _⟩,⟨xs,hS,by omega⟩,fun i x H2 hi y=>?_⟩
  obtain ⟨rfl,y⟩:=y
  obtain ⟨d,e,hd⟩:=h.get (y xs hS)
  exact ⟨aM.refl _,d,e,hd.same (um s hB)⟩
noncomputable def dS (g:Ds→Rs PyData):Ds→Rs (List PyData):=fun δ=>(g δ).bind yp
theorem dq (h:PD X E a ga):PID X E tg a (dS ga):=(PI.or (BB h) (DL h)).imp fun σ H R pz3=>by
  obtain ⟨A,δ,Rp,o⟩:=pz3
  unfold dS at o
  cases q:ga δ with
  | no=>rw [q] at o; exact o.elim
  | rz C=>rw [q] at o; exact .inl (eD.run Rp (fun d e=>by rw [q] at e; cases e) (fun C' e H' s=>by rw [q] at e; cases e; exact o H' s) (fun e=>by rw [q] at e; cases e))
  | ok d =>
    rw [q] at o
    cases d with
    | list ds =>
      refine .inl (eD.run Rp (fun d e v H1 s1 R1 h1=>?_) (fun C' e=>by rw [q] at e; cases e) (fun e=>by rw [q] at e; cases e))
      rw [q] at e; cases e
      obtain ⟨p,xs,rfl,hp,hx⟩:=h1.ofLst
      exact ⟨p,rfl,⟨xs,SqL.of (aY _ _ hp)⟩,o _ H1 s1 (yQ hp hx)⟩
    | tuple ds =>
      refine .inr (eD.run Rp (fun d e v H1 s1 R1 h1=>?_) (fun C' e=>by rw [q] at e; cases e) (fun e=>by rw [q] at e; cases e))
      rw [q] at e; cases e
      obtain ⟨p,xs,rfl,hp,hx⟩:=h1.ofTup
      exact ⟨p,rfl,⟨xs,SqT.of (aY _ _ hp)⟩,o _ H1 s1 (Bd hp hx)⟩
    | _=>exact o.elim
noncomputable def cn (lo:Int) (n:Nat):List PyData:=(List.range n).map fun (i:Nat)=>PyData.int (lo + (i:Int))
theorem en (lo:Int) (n:Nat):(cn lo n).length=n:=by simp [cn]
theorem qE {K:PySem.W.Frag} {G:Hp} {lo:Int} {n:Nat}:yV K (Itr lo n) (cn lo n) G:=fun H1 B s _ hB=>by
  refine ⟨fun i hi=>by rw [en] at hi; exact hi,by rw [en]; exact Nat.le_refl _,fun i x H2 hi y=>?_⟩
  obtain ⟨rfl,rfl⟩:=y
  rw [en] at hi
  exact ⟨aM.refl _,_,by simp [cn,hi],cT⟩
noncomputable def BR:List PyData→Rs (List PyData)
  | [.int j]=>if -(2 ^ 62)≤j∧j < 2 ^ 62 then .ok (cn 0 j.toNat) else .no
  | _=>.no
noncomputable def Eh:List PyData→Rs (List PyData)
  | [.int i,.int j]=>if -(2 ^ 62)≤i∧i < 2 ^ 62∧-(2 ^ 62)≤j∧j < 2 ^ 62 then .ok (cn i (j - i).toNat) else .no
  | _=>.no
noncomputable def e8 (g:Ds→Rs (List PyData)):Ds→Rs (List PyData):=fun δ=>(g δ).bind BR
noncomputable def yq (g:Ds→Rs (List PyData)):Ds→Rs (List PyData):=fun δ=>(g δ).bind Eh
theorem tm {gs:Ds→Rs (List PyData)} {f:List PyData→Rs (List PyData)} {σ:St} {H:Hp} {A:List Addr} {δ:Ds} {R:It→Hp→Prop} {K:PySem.W.Frag} {t:List V→Hp→Prop} (Rp:fw K H A δ σ) (o:outI K E A H ((gs δ).bind f) R)
    (k:∀ ds vs H1,gs δ=.ok ds→aM H H1→fw K H1 A δ σ→Iss K (del H1 A) ds vs→outI K E A H1 (f ds) R→t vs H1):aD K E gs σ H t:=by
  refine aD.run Rp (fun d e v H1 s1 R1 h1=>?_) (fun C e H' s'=>?_) (fun e=>?_)
  · rw [e] at o
    refine k d v H1 e s1 R1 h1 ?_
    have o:outI K E A H (f d) R:=o
    cases q:f d with
    | ok ds=>rw [q] at o; exact fun J H' s j=>o J H' (s1.trans s) j
    | rz C=>rw [q] at o; exact fun H' s=>o H' (s1.trans s)
    | no=>rw [q] at o; exact o
  · rw [e] at o; exact o H' s'
  · rw [e] at o; exact o
theorem eC {gs:Ds→Rs (List PyData)} {p:Pos} (hm:X.mg "range"=none) (ha:PAD X E [a] gs) (hg:Gl X "range":=by rfl) (hs:starEach [a] X.env=[(false,eval a X.env)]:=by rfl) :
    PID X E tg (.Call (.Name "range" p) [a] [] pos) (e8 gs):=(zm hg hm ha.1 hs).imp fun σ H R ⟨A,δ,Rp,o⟩=>tm Rp o fun ds vs H1 e s1 R1 h1 o=>by
  unfold BR at o
  split at o
  · split at o
    · rename_i z
      obtain ⟨v,rfl,h⟩:=nI h1
      rw [h.ofInt]
      exact ⟨_,rfl,z.1,z.2,o _ H1 (aM.refl _) qE⟩
    · exact o.elim
  · exact o.elim
theorem wg {b:Expr} {gs:Ds→Rs (List PyData)} {p:Pos} (hm:X.mg "range"=none) (ha:PAD X E [a,b] gs) (hg:Gl X "range":=by rfl) (hs:starEach [a,b] X.env=[(false,eval a X.env),(false,eval b X.env)]:=by rfl) (hs2:starEach [b] X.env=[(false,eval b X.env)]:=by rfl) :
    PID X E tg (.Call (.Name "range" p) [a,b] [] pos) (yq gs):=(zE hg hm ha.1 hs hs2).imp fun σ H R ⟨A,δ,Rp,o⟩=>tm Rp o fun ds vs H1 e s1 R1 h1 o=>by
  unfold Eh at o
  split at o
  · split at o
    · rename_i z
      obtain ⟨v,u,rfl,h,h'⟩:=Bz h1
      rw [h.ofInt,h'.ofInt]
      exact ⟨_,_,rfl,z,o _ H1 (aM.refl _) qE⟩
    · exact o.elim
  · exact o.elim
noncomputable def TgD (K:PySem.W.Frag) (n0 n:Nat) (tgt:PyData→Option Ds) (g:TG):Prop:=∀ (d:PyData) (v:V) (σ σ':St) (H:Hp) (A:List Addr) (Q:St→Hp→Prop) (own:Ds),σ.length=n0→σ'.length=n→Ls H A→Is K (del H A) d v→tgt d=some own →
  own.length=n∧((∀ vs:St,vs.length=n→(∀ (i:Nat) e,own[i]?=some (some e)→∃ u,vs[i]?=some (some u)∧Is K (del H A) e u)→Q (σ++vs) H)→g v (σ++σ') H Q)
noncomputable def bT:PyData→Option Ds:=fun d=>some [some d]
theorem dr {K:PySem.W.Frag} {n0:Nat}:TgD K n0 1 bT (oS n0):=fun d v σ σ' H A Q own h1 h2 hA hd e=>by
  cases e
  refine ⟨rfl,fun k=>?_⟩
  unfold oS
  subst h1
  rw [set_own σ none v σ' h2]
  refine k _ rfl fun i e z=>?_
  match i,z with
  | 0,z=>cases z; exact ⟨v,rfl,hd⟩
noncomputable def iR (cond:Ds→Rs Bool) (elt:Ds→Rs PyData) (tgt:PyData→Option Ds) (δ:Ds):List PyData→Rs (List PyData)
  | []=>.ok []
  | d::r=>match tgt d with
    | none=>.no
    | some own=>(cond (δ++own)).calm.bind fun b=>if b=true then (elt (δ++own)).calm.bind fun x=>(iR cond elt tgt δ r).bind fun xs=>.ok (x::xs) else iR cond elt tgt δ r
noncomputable def cw (n0:Nat) (src:Ds→Rs (List PyData)) (cond:Ds→Rs Bool) (elt:Ds→Rs PyData) (tgt:PyData→Option Ds):Ds→Rs (List PyData):=fun δ=>if δ.length=n0 then (src δ).bind fun ds=>if ds.length≤1000000 then iR cond elt tgt δ ds else .no else .no
noncomputable def cY:Ds→Rs Bool:=fun _=>.ok true
noncomputable def EV (K:PySem.W.Frag) (E:XK) (A:List Addr) (H:Hp) (r:Rs (List PyData)) (Q:VK):Prop:=match r with
  | .ok ds=>∀ a xs H',H a=none→aM H H'→H' a=some (.lst xs)→Iss K (del H' (a::A)) ds xs→Q (.ref a) H'
  | .rz C=>∀ H',aM H H'→E (.ref C) none H'
  | .no=>False
noncomputable def lD (K:PySem.W.Frag) (E:XK) (g:Ds→Rs (List PyData)):TE:=fun σ H Q=>∃ A δ,fw K H A δ σ∧EV K E A H (g δ) Q
noncomputable def PLD (X:Cx) (E:XK) (e:Expr) (g:Ds→Rs (List PyData)):Prop:=PE X e (lD X.K E g)
noncomputable def gL (g:Ds→Rs (List PyData)):Ds→Rs PyData:=fun δ=>(g δ).bind fun ds=>.ok (.list ds)
theorem rE {H:Hp} {a:Addr} {A:List Addr}:aM (del H (a::A)) (del H A):=fun b o e=>by
  obtain ⟨z,e⟩:=gJ e
  rw [cA (fun q=>z (List.mem_cons_of_mem _ q))]; exact e
theorem gQ {e:Expr} {g:Ds→Rs (List PyData)} (h:PLD X E e g):PD X E e (gL g):=PE.imp h fun σ H Q ⟨A,δ,R,o⟩=>⟨A,δ,R,by
  unfold gL at o
  cases q:g δ with
  | no=>rw [q] at o; exact o
  | rz C=>rw [q] at o; exact o
  | ok ds =>
    rw [q] at o
    intro a xs H' hn s hl hi
    exact o _ H' s (tw (by rw [cA (R.ls.new hn)]; exact hl) (hi.same rE))⟩
theorem nJ {es:List Expr} {gs:Ds→Rs (List PyData)} (h:PAD X E es gs) (hl:es.length≤1000:=by decide):PLD X E (.List es pos) gs:=(wJ h.1).imp fun σ H Q pz3=>by
  obtain ⟨A,δ,R,o⟩:=pz3
  refine aD.run R (fun ds e vs H1 s1 R1 h1=>?_) (fun C e H' s'=>by rw [e] at o; exact o H' s') (fun e=>by rw [e] at o; exact o)
  rw [e] at o
  have n:=h.2 δ ds e
  have m:=h1.length
  refine ⟨by rw [sizeLine_eq]; omega,fun p hp=>o p vs _ (s1.free hp) (s1.trans (c6 hp)) cp (h1.same ?_)⟩
  refine fun b o e=>?_
  obtain ⟨z,e⟩:=gJ e
  have:b≠p:=bF e hp
  rw [cA (by simp [this,z]),bx this]; exact e
theorem A1 {K:PySem.W.Frag} {own:List Str} {gi:Ds→Rs (List PyData)} {g:TG} {tt:TT} {cond:Ds→Rs Bool} {ge:Ds→Rs PyData} {tgt:PyData→Option Ds} {n0:Nat} (hT:TgD K n0 own.length tgt g) (htt:∀ σ H Q,cD K E0 cond σ H Q→tt σ H Q) :
    ∀ σ H Q,lD K E (cw n0 gi cond ge tgt) σ H Q→tLC own.length (iD K E gi) g tt (eD K E0 ge) σ H Q:=by
  intro σ H Q ⟨A,δ,R,o⟩
  unfold cw at o
  by_cases hn0:δ.length=n0
  case neg=>rw [if_neg hn0] at o; exact o.elim
  rw [if_pos hn0] at o
  have hσ:σ.length=n0:=by rw [← R.len]; exact hn0
  refine ⟨A,δ,R,?_⟩
  cases q:gi δ with
  | no=>rw [q] at o; exact o
  | rz C=>rw [q] at o; exact o
  | ok ds =>
    rw [q] at o
    have o:EV K E A H (if ds.length≤1000000 then iR cond ge tgt δ ds else .no) Q:=o
    by_cases hz:ds.length≤1000000
    case neg=>rw [if_neg hz] at o; exact o.elim
    rw [if_pos hz] at o
    intro J H1 s1 hJ D hD
    have R1:=R.same s1
    have nD:D ∉ A:=R1.ls.new hD
    cases qo:iR cond ge tgt δ ds with
    | rz C =>
      exfalso
      have:∀ l,iR cond ge tgt δ l≠.rz C:=by
        intro l
        induction l with
        | nil=>intro z; cases z
        | cons d r ih =>
          intro z
          unfold iR at z
          split at z
          · cases z
          · rename_i own' _
            cases c1:cond (δ++own') with
            | ok b =>
              simp only [c1,Rs.jP,Rs.aj] at z
              split at z
              · cases c2:ge (δ++own') with
                | ok x =>
                  simp only [c2,Rs.jP,Rs.aj] at z
                  cases c3:iR cond ge tgt δ r with
                  | ok l=>simp only [c3,Rs.aj] at z; cases z
                  | rz C'=>simp only [c3,Rs.jU] at z; cases z; exact ih c3
                  | no=>simp only [c3,Rs.dX] at z; cases z
                | rz C'=>simp only [c2,Rs.calm,Rs.dX] at z; cases z
                | no=>simp only [c2,Rs.calm,Rs.dX] at z; cases z
              · exact ih z
            | rz C'=>simp only [c1,Rs.calm,Rs.dX] at z; cases z
            | no=>simp only [c1,Rs.calm,Rs.dX] at z; cases z
      exact this ds qo
    | no=>rw [qo] at o; exact o.elim
    | ok out =>
      rw [qo] at o
      have base:aM (del H1 A) (del (upd H1 D (.lst [])) (D::A)):=fun b o e=>by
        obtain ⟨z,e⟩:=gJ e
        have nb:b≠D:=bF e hD
        rw [cA (by simp [nb,z]),bx nb]; exact e
      refine ⟨fun i m ys H'=>m=ds.length - i∧i≤ds.length∧aM H1 H'∧H' D=some (.lst ys)∧ys.length≤i∧∃ dn rest,iR cond ge tgt δ (ds.drop i)=.ok rest∧out=dn++rest∧Iss K (del H' (D::A)) dn ys,
        ⟨ds.length,by simp,Nat.zero_le _,c6 hD,cp,Nat.le_refl _,[],out,qo,rfl,fU⟩,?_⟩
      rintro i m ys H' ⟨rfl,hi,sm,hl,hy,dn,rest,c1,c2,c3⟩
      refine ⟨hl,?_⟩
      have sG:aM (del H1 A) H':=aY.trans sm
      have hBn:∀ b∈D::A,(del H1 A) b=none:=fun b hb=>by
        rcases List.mem_cons.mp hb with z | z
        · rw [z,cA nD]; exact hD
        · exact oB z
      obtain ⟨jg,js,jy⟩:=hJ H' (D::A) sG (fun b hb=>by
        rcases List.mem_cons.mp hb with z | z
        · exact ⟨ys,by rw [z]; exact hl⟩
        · exact (R1.ls.same sm) b z) hBn
      by_cases hlt:i < ds.length
      · refine .inr ⟨jg i hlt,fun x H2 σ' hσ' y=>?_⟩
        obtain ⟨s2,d,ed,hd⟩:=jy i x H2 hlt y
        have edr:ds.drop i=d::ds.drop (i + 1):=by
          rw [List.drop_eq_getElem_cons hlt]
          have:ds[i]=d:=by
            have:=List.getElem?_eq_getElem hlt
            rw [this] at ed; exact Option.some.inj ed
          rw [this]
        rw [edr] at c1
        unfold iR at c1
        cases et:tgt d with
        | none=>rw [et] at c1; cases c1
        | some ow =>
          rw [et] at c1
          have l2:H2 D=some (.lst ys):=s2 _ _ hl
          have LsD:Ls H2 (D::A):=fun b hb=>by
            rcases List.mem_cons.mp hb with z | z
            · exact ⟨ys,by rw [z]; exact l2⟩
            · exact (R1.ls.same (sm.trans s2)) b z
          obtain ⟨hol,hgo⟩:=hT d x σ σ' H2 (D::A) (fun σ2 H2=>tt σ2 H2 fun b H3 =>
            if b=true then eD K E0 ge σ2 H3 fun v H4=>H4 D=some (.lst ys)∧ys.length < sizeLine∧(∃ σ'',σ2=σ++σ''∧σ''.length=own.length)∧∃ m',m' < ds.length - i∧_
            else (∃ σ'',σ2=σ++σ''∧σ''.length=own.length)∧∃ m',m' < ds.length - i∧_) ow hσ hσ' LsD hd et
          refine hgo fun vs hvs hown=>?_
          have sAll:aM (del H1 A) (del H2 (D::A)):=um (sG.trans s2) hBn
          have RE:fw K H2 (D::A) (δ++ow) (σ++vs):=by
            refine ⟨LsD,by rw [List.length_append,List.length_append,R.len,hvs,hol],fun k e ek=>?_⟩
            by_cases hk:k < δ.length
            · rw [List.getElem?_append_left hk] at ek
              obtain ⟨u,e1,hu⟩:=R1.get k e ek
              exact ⟨u,by rw [List.getElem?_append_left (by rw [← R.len]; exact hk)]; exact e1,hu.same sAll⟩
            · rw [List.getElem?_append_right (by omega)] at ek
              obtain ⟨u,e1,hu⟩:=hown _ e ek
              exact ⟨u,by rw [List.getElem?_append_right (by rw [← R.len]; omega),← R.len]; exact e1,hu⟩
          have bad:∀ r:Rs Bool,r=.rz 0→r.calm=.no:=fun r e=>by rw [e]; rfl
          refine htt _ _ _ (cD.run RE (fun b eb H3 s3 R3=>?_) (fun C eb=>?_) (fun eb=>?_))
          · simp only [eb,Rs.jP,Rs.aj] at c1
            cases b with
            | true =>
              simp only [if_true] at c1
              refine eD.run R3 (fun xd ex v H4 s4 R4 hv=>?_) (fun C ex=>?_) (fun ex=>?_)
              · simp only [ex,Rs.jP,Rs.aj] at c1
                cases cr:iR cond ge tgt δ (ds.drop (i + 1)) with
                | ok rs =>
                  simp only [cr,Rs.aj] at c1
                  cases c1
                  have l4:H4 D=some (.lst ys):=s4 _ _ (s3 _ _ l2)
                  have dU:del (upd H4 D (.lst (ys++[v]))) (D::A)=del H4 (D::A):=tD (List.mem_cons_self)
                  refine ⟨l4,by rw [sizeLine_eq]; omega,⟨vs,rfl,hvs⟩,ds.length - (i + 1),by omega,rfl,hlt,?_,cp,by simp; omega,dn++[xd],rs,cr,by rw [c2]; simp,?_⟩
                  · exact aM.put (((sm.trans s2).trans s3).trans s4) hD
                  · rw [dU]
                    exact (c3.same (aM.del (s2.trans (s3.trans s4)))).append (pE hv)
                | rz C=>simp only [cr,Rs.jU] at c1; cases c1
                | no=>simp only [cr,Rs.dX] at c1; cases c1
              · simp only [ex,Rs.calm,Rs.dX] at c1; cases c1
              · simp only [ex,Rs.calm,Rs.dX] at c1; cases c1
            | false =>
              simp only [Bool.false_eq_true,if_false] at c1
              exact ⟨⟨vs,rfl,hvs⟩,ds.length - (i + 1),by omega,rfl,hlt,(sm.trans s2).trans s3,s3 _ _ l2,by omega,dn,rest,c1,c2,c3.same (aM.del (s2.trans s3))⟩
          · simp only [eb,Rs.calm,Rs.dX] at c1; cases c1
          · simp only [eb,Rs.calm,Rs.dX] at c1; cases c1
      · have e:i=ds.length:=by omega
        subst e
        rw [List.drop_length] at c1
        cases c1
        rw [List.append_nil] at c2
        subst c2
        exact .inl ⟨js,o D ys H' (s1.free hD) (s1.trans sm) hl c3⟩
theorem dZ {M:List Str} {elt iter:Expr} {ifs:List Expr} {scope:Scope} {own:List Str} {gi:Ds→Rs (List PyData)} {g:TG} {tt:TT} {cond:Ds→Rs Bool} {ge:Ds→Rs PyData} {tgt:PyData→Option Ds} {n0:Nat} (hc:X.calm=true) (hi:PID X E tg iter gi)
    (hT:TgD X.K n0 own.length tgt g) (hg:∀ C s2 H2 fp,PG (blk X M scope own C s2 H2 fp) tg g) (ht:∀ C s2 H2 fp,PTs (blk X M scope own C s2 H2 fp) ifs tt) (htt:∀ σ H Q,cD X.K E0 cond σ H Q→tt σ H Q) (he:∀ C s2 H2 fp,PD (blk X M scope own C s2 H2 fp) E0 elt ge)
    (hB:pI X.N M X.env.scope scope own=true:=by rfl) (hs:∀ x,foldedSetIterable iter X.env x=pure x:=by intro _; rfl):PLD X E (.ListComp elt [⟨tg,iter,ifs,0⟩] scope pos) (cw n0 gi cond ge tgt) :=
  (AO (own:=own) (te:=eD X.K E0 ge) hc hi hg ht (fun C s2 H2 fp=>he C s2 H2 fp) hB hs).imp (A1 hT htt)
noncomputable def PLS (X:Cx) (E:XK) (i:Nat) (st:Stmt) (gl:Ds→Rs (List PyData)):Prop:=PS X st (Ck (lD X.K E gl) (oS i))
theorem ux {M:List Str} {elt iter:Expr} {ifs:List Expr} {scope:Scope} {own:List Str} {gi:Ds→Rs (List PyData)} {g:TG} {tt:TT} {cond:Ds→Rs Bool} {ge:Ds→Rs PyData} {tgt:PyData→Option Ds} {n0:Nat} {i:Nat} {x:Str} {pos' spos:Pos} (hc:X.calm=true) (hN:X.N.Nodup) (hi:PID X E tg iter gi)
    (hT:TgD X.K n0 own.length tgt g) (hg:∀ C s2 H2 fp,PG (blk X M scope own C s2 H2 fp) tg g) (ht:∀ C s2 H2 fp,PTs (blk X M scope own C s2 H2 fp) ifs tt) (htt:∀ σ H Q,cD X.K E0 cond σ H Q→tt σ H Q) (he:∀ C s2 H2 fp,PD (blk X M scope own C s2 H2 fp) E0 elt ge)
    (hxi:X.N[i]?=some x:=by rfl) (hx:Loc X.env.scope x:=by first | exact Or.inl rfl | exact Or.inr rfl) (hsw:swapsWith (.ListComp elt [⟨tg,iter,ifs,0⟩] scope pos) (some (.Name x pos')) spos.line X.env=pure true:=by rfl)
    (hB:pI X.N M X.env.scope scope own=true:=by rfl) (hs:∀ x,foldedSetIterable iter X.env x=pure x:=by intro _; rfl) (hf:X.fn x=true∨X.env.scope.names.lookup x=some .local:=by first | exact .inl rfl | exact .inr rfl | assumption) :
    PLS X E i (.Assign [.Name x pos'] (.ListComp elt [⟨tg,iter,ifs,0⟩] scope pos) spos) (cw n0 gi cond ge tgt) :=
  PS.imp (Am (own:=own) (te:=eD X.K E0 ge) hc hN hxi hx hsw hi hg ht (fun C s2 H2 fp=>he C s2 H2 fp) hB hs hf) fun D σ H h=>A1 hT htt σ H _ h
end
end L2
set_option maxRecDepth 100000
set_option maxHeartbeats 4000000
namespace L2
open PySem PySem.Spec PyProof.Rows
inductive Sr where
  | nx (δ:Ds)
  | rt (d:PyData)
  | rz (C:Addr)
  | bk (δ:Ds)
  | ct (δ:Ds)
  | no
structure dB (K:PySem.W.Frag) (H0:Hp) (A0:List Addr) (H:Hp) (A:List Addr) (O:List Nat) (δ:Ds) (σ:St):Prop where
  same:aM H0 H
  ls0:Ls H0 A0
  new:∀ a∈A,H0 a=none
  ls:Ls H A
  len:δ.length=σ.length
  pl:∀ (i:Nat) d,i ∉ O→δ[i]?=some (some d)→∃ v,σ[i]?=some (some v)∧Is K (del H (A++A0)) d v
  own:∀ (i:Nat) d,i∈O→δ[i]?=some (some d)→∃ a xs ds,σ[i]?=some (some (.ref a))∧a∈A∧H a=some (.lst xs)∧d=.list ds∧Iss K (del H (A++A0)) ds xs
  inj:∀ (i j:Nat) d e a,i∈O→j∈O→δ[i]?=some (some d)→δ[j]?=some (some e)→σ[i]?=some (some (.ref a))→σ[j]?=some (some (.ref a))→i=j
noncomputable def mask (O:List Nat) (δ:Ds):Ds:=if O=[] then δ else δ.mapIdx fun i d=>if i∈O then none else d
theorem dE (δ:Ds):mask [] δ=δ:=by simp [mask]
theorem A3 {O:List Nat} {δ:Ds} {i:Nat} {d:PyData} (h:(mask O δ)[i]?=some (some d)):i ∉ O∧δ[i]?=some (some d):=by
  unfold mask at h
  split at h
  · rename_i z; subst z; exact ⟨by simp,h⟩
  · rw [List.getElem?_mapIdx] at h
    cases q:δ[i]? with
    | none=>rw [q] at h; cases h
    | some x =>
      rw [q] at h
      simp only [Option.map_some,Option.some.injEq] at h
      by_cases z:i∈O
      · rw [if_pos z] at h; cases h
      · rw [if_neg z] at h; exact ⟨z,by rw [h]⟩
theorem AD {O:List Nat} {δ:Ds}:(mask O δ).length=δ.length:=by unfold mask; split <;> simp
theorem uH {H:Hp} {A B:List Addr}:aM (del H (A++B)) (del H B):=fun b o e=>by
  obtain ⟨z,e⟩:=gJ e
  rw [cA (fun q=>z (List.mem_append_right _ q))]; exact e
section
variable {K:PySem.W.Frag} {E:XK} {H0 H H1:Hp} {A0 A:List Addr} {O:List Nat} {δ:Ds} {σ:St}
theorem dB.lsA (R:dB K H0 A0 H A O δ σ):Ls H (A++A0):=fun a h=>(List.mem_append.mp h).elim (R.ls a) fun z=>(R.ls0.same R.same) a z
theorem dB.step (R:dB K H0 A0 H A O δ σ) (s:aM H H1):dB K H0 A0 H1 A O δ σ where
  same:=R.same.trans s
  ls0:=R.ls0
  new:=R.new
  ls:=R.ls.same s
  len:=R.len
  pl:=fun i d h e=>by
    obtain ⟨v,e1,h1⟩:=R.pl i d h e
    exact ⟨v,e1,h1.same s.del⟩
  own:=fun i d h e=>by
    obtain ⟨a,xs,ds,e1,h1,h2,h3,h4⟩:=R.own i d h e
    exact ⟨a,xs,ds,e1,h1,s _ _ h2,h3,h4.same s.del⟩
  inj:=R.inj
theorem dB.apart (R:dB K H0 A0 H A O δ σ) {a:Addr} (h:a∈A):a ∉ A0:=fun z=>by
  obtain ⟨xs,e⟩:=R.ls0 a z
  rw [R.new a h] at e; cases e
theorem dB.full (R:dB K H0 A0 H A O δ σ):fw K H A0 δ σ where
  ls:=R.ls0.same R.same
  len:=R.len
  get:=fun i d e=>by
    by_cases h:i∈O
    · obtain ⟨a,xs,ds,e1,h1,h2,h3,h4⟩:=R.own i d h e
      subst h3
      exact ⟨_,e1,tw (xs:=xs) (by rw [cA (R.apart h1)]; exact h2) (h4.same uH)⟩
    · obtain ⟨v,e1,h1⟩:=R.pl i d h e
      exact ⟨v,e1,h1.same uH⟩
theorem dB.part (R:dB K H0 A0 H A O δ σ):fw K H (A++A0) (mask O δ) σ where
  ls:=R.lsA
  len:=by rw [AD]; exact R.len
  get:=fun i d e=>by
    obtain ⟨h,e⟩:=A3 e
    exact R.pl i d h e
theorem get_set {α:Type} {l:List α} {i j:Nat} {x y:α} (h:(l.set i x)[j]?=some y):(i=j∧y=x)∨(i≠j∧l[j]?=some y):=by
  by_cases z:i=j
  · subst z
    rw [List.getElem?_set_self'] at h
    cases q:l[i]? with
    | none=>rw [q] at h; cases h
    | some w=>rw [q] at h; simp at h; exact .inl ⟨rfl,h.symm⟩
  · rw [List.getElem?_set_ne z] at h; exact .inr ⟨z,h⟩
theorem pA {α:Type} {l:List α} {i j:Nat} {x y:α} (hn:i≠j) (h:l[j]?=some y):(l.set i x)[j]?=some y:=by rw [List.getElem?_set_ne hn]; exact h
theorem dB.set {i:Nat} {d:PyData} {v:V} (R:dB K H0 A0 H A O δ σ) (hi:i ∉ O) (hl:i < δ.length) (h:Is K (del H (A++A0)) d v):dB K H0 A0 H A O (δ.set i (some d)) (σ.set i (some v)) where
  same:=R.same
  ls0:=R.ls0
  new:=R.new
  ls:=R.ls
  len:=by simp [R.len]
  pl:=fun j e hj q=>by
    rcases get_set q with ⟨z,q⟩ | ⟨z,q⟩
    · cases q; subst z
      exact ⟨v,by rw [List.getElem?_set_self (by rw [← R.len]; exact hl)],h⟩
    · obtain ⟨u,e1,h1⟩:=R.pl j e hj q
      exact ⟨u,pA z e1,h1⟩
  own:=fun j e hj q=>by
    rcases get_set q with ⟨z,q⟩ | ⟨z,q⟩
    · subst z; exact absurd hj hi
    · obtain ⟨a,xs,ds,e1,h1⟩:=R.own j e hj q
      exact ⟨a,xs,ds,pA z e1,h1⟩
  inj:=fun j k d' e a hj hk q1 q2 p1 p2=>by
    have n1:i≠j:=fun z=>hi (z ▸ hj)
    have n2:i≠k:=fun z=>hi (z ▸ hk)
    rw [List.getElem?_set_ne n1] at q1 p1
    rw [List.getElem?_set_ne n2] at q2 p2
    exact R.inj j k d' e a hj hk q1 q2 p1 p2
theorem dB.setOwn {i:Nat} {ds:List PyData} {a:Addr} {xs:List V} (R:dB K H0 A0 H A O δ σ) (hi:i∈O) (hl:i < δ.length) (hn:H a=none) (s:aM H H1) (ha:H1 a=some (.lst xs)) (h:Iss K (del H1 (a::(A++A0))) ds xs) :
    dB K H0 A0 H1 (a::A) O (δ.set i (some (.list ds))) (σ.set i (some (.ref a))) where
  same:=R.same.trans s
  ls0:=R.ls0
  new:=fun b hb=>by
    rcases List.mem_cons.mp hb with z | z
    · rw [z]; exact R.same.free hn
    · exact R.new b z
  ls:=fun b hb=>by
    rcases List.mem_cons.mp hb with z | z
    · exact ⟨xs,by rw [z]; exact ha⟩
    · exact (R.ls.same s) b z
  len:=by simp [R.len]
  pl:=fun j e hj q=>by
    rcases get_set q with ⟨z,q⟩ | ⟨z,q⟩
    · subst z; exact absurd hi hj
    · obtain ⟨u,e1,h1⟩:=R.pl j e hj q
      refine ⟨u,pA z e1,h1.same fun b o e=>?_⟩
      obtain ⟨y,e⟩:=gJ e
      have nb:b≠a:=bF e hn
      rw [cA (by simpa [nb] using y)]; exact s _ _ e
  own:=fun j e hj q=>by
    have kk:∀ b o,del H (A++A0) b=some o→del H1 (a::A++A0) b=some o:=fun b o e=>by
      obtain ⟨y,e⟩:=gJ e
      have nb:b≠a:=bF e hn
      rw [cA (by simpa [nb] using y)]; exact s _ _ e
    rcases get_set q with ⟨z,q⟩ | ⟨z,q⟩
    · cases q; subst z
      exact ⟨a,xs,ds,by rw [List.getElem?_set_self (by rw [← R.len]; exact hl)],List.mem_cons_self,ha,rfl,h⟩
    · obtain ⟨b,ys,es,e1,h1,h2,h3,h4⟩:=R.own j e hj q
      exact ⟨b,ys,es,pA z e1,List.mem_cons_of_mem _ h1,s _ _ h2,h3,h4.same kk⟩
  inj:=fun j k d' e b hj hk q1 q2 p1 p2=>by
    have old:∀ k,k∈O→i≠k→∀ e,δ[k]?=some (some e)→σ[k]?=some (some (.ref a))→False:=fun k hk _ e q p=>by
      obtain ⟨b,ys,es,e1,h1,h2,_⟩:=R.own k e hk q
      rw [p] at e1; cases e1
      rw [hn] at h2; cases h2
    by_cases z1:i=j
    · by_cases z2:i=k
      · rw [← z1,z2]
      · subst z1
        rw [List.getElem?_set_self (by rw [← R.len]; exact hl)] at p1
        cases p1
        rw [List.getElem?_set_ne z2] at q2 p2
        exact (old k hk z2 e q2 p2).elim
    · by_cases z2:i=k
      · subst z2
        rw [List.getElem?_set_self (by rw [← R.len]; exact hl)] at p2
        cases p2
        rw [List.getElem?_set_ne z1] at q1 p1
        exact (old j hj z1 d' q1 p1).elim
      · rw [List.getElem?_set_ne z1] at q1 p1
        rw [List.getElem?_set_ne z2] at q2 p2
        exact R.inj j k d' e b hj hk q1 q2 p1 p2
theorem dB.put {i:Nat} {ds:List PyData} {a:Addr} {ys:List V} {d0:PyData} (R:dB K H0 A0 H A O δ σ) (hi:i∈O) (hd:δ[i]?=some (some d0)) (hs:σ[i]?=some (some (.ref a))) (ha:a∈A) (h:Iss K (del H (A++A0)) ds ys) :
    dB K H0 A0 (upd H a (.lst ys)) A O (δ.set i (some (.list ds))) σ:=by
  have dU:del (upd H a (.lst ys)) (A++A0)=del H (A++A0):=tD (List.mem_append_left _ ha)
  have hl:i < δ.length:=(List.getElem?_eq_some_iff.mp hd).1
  refine ⟨fun b o e=>?_,R.ls0,R.new,fun b hb=>?_,by simp [R.len],fun j e hj q=>?_,fun j e hj q=>?_,fun j k d' e b hj hk q1 q2 p1 p2=>?_⟩
  · have nb:b≠a:=fun z=>by rw [z,R.new a ha] at e; cases e
    rw [bx nb]; exact R.same b o e
  · by_cases z:b=a
    · exact ⟨ys,by rw [z,cp]⟩
    · rw [bx z]; exact R.ls b hb
  · rcases get_set q with ⟨z,q⟩ | ⟨z,q⟩
    · subst z; exact absurd hi hj
    · rw [dU]; exact R.pl j e hj q
  · rcases get_set q with ⟨z,q⟩ | ⟨z,q⟩
    · cases q; subst z
      exact ⟨a,ys,ds,hs,ha,cp,rfl,by rw [dU]; exact h⟩
    · obtain ⟨b,zs,es,e1,h1,h2,h3,h4⟩:=R.own j e hj q
      have nb:b≠a:=fun w=>z (R.inj i j _ _ a hi hj hd q hs (by rw [← w]; exact e1))
      exact ⟨b,zs,es,e1,h1,by rw [bx nb]; exact h2,h3,by rw [dU]; exact h4⟩
  · rcases get_set q1 with ⟨z1,q1⟩ | ⟨z1,q1⟩ <;> rcases get_set q2 with ⟨z2,q2⟩ | ⟨z2,q2⟩
    · rw [← z1,z2]
    · subst z1; exact R.inj i k d0 e b hi hk hd q2 p1 p2
    · subst z2; exact R.inj j i d' d0 b hj hi q1 hd p1 p2
    · exact R.inj j k d' e b hj hk q1 q2 p1 p2
noncomputable def un (H0 G:Hp):Hp:=fun b=>match H0 b with | some o=>some o | none=>G b
theorem Ao {H0 G:Hp}:aM H0 (un H0 G):=fun b o e=>by unfold un; rw [e]
theorem FY {H0 G:Hp} (h0:aM H0 H) (hG:aM G H):aM G (un H0 G):=fun b o e=>by
  unfold un
  cases q:H0 b with
  | none=>exact e
  | some o2=>have h2:=h0 b o2 q; rw [hG b o e] at h2; exact h2.symm
theorem E8 {H0 G:Hp} (h0:aM H0 H) (hG:aM G H):aM (un H0 G) H:=fun b o e=>by
  unfold un at e
  cases q:H0 b with
  | none=>rw [q] at e; exact hG b o e
  | some o2=>rw [q] at e; rw [← Option.some.inj e]; exact h0 b o2 q
theorem dB.more (R:dB K H0 A0 H A O δ σ):dB K (un H0 (del H (A++A0))) A0 H A O δ σ :=
  ⟨E8 R.same aY,R.ls0.same Ao,fun a h=>by unfold un; rw [R.new a h]; exact oB (List.mem_append_left _ h),R.ls,R.len,R.pl,R.own,R.inj⟩
theorem dB.less {H0':Hp} (R:dB K H0' A0 H A O δ σ) (s:aM H0 H0') (l:Ls H0 A0):dB K H0 A0 H A O δ σ:=⟨s.trans R.same,l,fun a h=>s.free (R.new a h),R.ls,R.len,R.pl,R.own,R.inj⟩
end
noncomputable def uT (K:PySem.W.Frag) (E:XK) (H0:Hp) (A0:List Addr) (O:List Nat) (r:Sr) (D:Ends):Prop:=match r with
  | .nx δ=>∀ A σ H,dB K H0 A0 H A O δ σ→D.nx σ H
  | .rt d=>∀ v H,aM H0 H→Is K (del H A0) d v→D.rt v H
  | .rz C=>∀ H,aM H0 H→E (.ref C) none H
  | .bk δ=>∀ A σ H,dB K H0 A0 H A O δ σ→D.bk σ H
  | .ct δ=>∀ A σ H,dB K H0 A0 H A O δ σ→D.ct σ H
  | .no=>False
noncomputable def sD (K:PySem.W.Frag) (E:XK) (O:List Nat) (G:Ds→Sr):TS:=fun D σ H=>∃ H0 A0 A δ,dB K H0 A0 H A O δ σ∧uT K E H0 A0 O (G δ) D
noncomputable def PSD (X:Cx) (E:XK) (O:List Nat) (s:Stmt) (G:Ds→Sr):Prop:=PS X s (sD X.K E O G)
noncomputable def PBD (X:Cx) (E:XK) (O:List Nat) (ss:List Stmt) (G:Ds→Sr):Prop:=PSs X ss (sD X.K E O G)
noncomputable def b5:Ds→Sr:=fun δ=>.nx δ
noncomputable def bo (a b:Ds→Sr):Ds→Sr:=fun δ=>match a δ with
  | .nx δ'=>b δ'
  | r=>r
noncomputable def ofR {α:Type} (r:Rs α) (k:α→Sr):Sr:=match r with
  | .ok a=>k a
  | .rz C=>.rz C
  | .no=>.no
@[simp] theorem aA {α:Type} (a:α) (k:α→Sr):ofR (.ok a) k=k a:=rfl
@[simp] theorem tJ {α:Type} (C:Addr) (k:α→Sr):ofR (.rz C) k=.rz C:=rfl
@[simp] theorem sN {α:Type} (k:α→Sr):ofR (.no:Rs α) k=.no:=rfl
noncomputable def sIf (c:Ds→Rs Bool) (a b:Ds→Sr):Ds→Sr:=fun δ=>ofR (c δ) fun t=>if t=true then a δ else b δ
noncomputable def b6 (g:Ds→Rs PyData):Ds→Sr:=fun δ=>ofR (g δ) .rt
noncomputable def nz (g:Ds→Rs PyData):Ds→Sr:=fun δ=>ofR (g δ) fun _=>.nx δ
noncomputable def bj (O:List Nat) (i:Nat) (g:Ds→Rs PyData):Ds→Sr:=fun δ=>if i < δ.length then ofR (g (mask O δ)) fun d=>.nx (δ.set i (some d)) else .no
noncomputable def lM (O:List Nat) (i:Nat) (g:Ds→Rs (List PyData)):Ds→Sr:=fun δ=>if i < δ.length then ofR (g (mask O δ)) fun ds=>.nx (δ.set i (some (.list ds))) else .no
noncomputable def nF (O:List Nat) (i:Nat) (g:Ds→Rs PyData):Ds→Sr:=fun δ=>match δ[i]? with
  | some (some (.list ds))=>ofR (g (mask O δ)) fun d=>if ds.length < 1000000 then .nx (δ.set i (some (.list (ds++[d])))) else .no
  | _=>.no
section
variable {X:Cx} {E:XK} {O:List Nat} {st:Stmt} {ss:List Stmt} {G G':Ds→Sr} {e a b c:Expr} {ga gb:Ds→Rs PyData} {ca:Ds→Rs Bool} {pos:Pos}
theorem cm:PBD X E O [] b5:=t8.imp fun D σ H qz3=>(by obtain ⟨H0,A0,A,δ,R,o⟩:=qz3; exact o A σ H R)
theorem au (h1:PSD X E O st G) (h2:PBD X E O ss G'):PBD X E O (st::ss) (bo G G'):=(ij h1 h2).imp fun D σ H ⟨H0,A0,A,δ,R,o⟩=>⟨H0,A0,A,δ,R,by
  unfold bo at o
  cases q:G δ with
  | nx δ'=>rw [q] at o; exact fun A' σ' H' R'=>⟨H0,A0,A',δ',R',o⟩
  | rt d=>rw [q] at o; exact o
  | rz C=>rw [q] at o; exact o
  | bk d=>rw [q] at o; exact o
  | ct d=>rw [q] at o; exact o
  | no=>rw [q] at o; exact o⟩
theorem az (h1:PSD X E O st G):PBD X E O [st] G:=(lH h1).imp fun D σ H h=>h
theorem cX {ss':List Stmt} (hc:PCD X E c ca) (h1:PBD X E O ss G) (h2:PBD X E O ss' G'):PSD X E O (.If c ss ss' pos) (sIf ca G G'):=(Ba hc h1 h2).imp fun D σ H pz3=>by
  obtain ⟨H0,A0,A,δ,R,o⟩:=pz3
  unfold sIf at o
  refine cD.run R.full (fun t et H1 s1 R1=>?_) (fun C et H' s'=>?_) (fun et=>?_)
  · rw [et] at o
    cases t with
    | true=>exact ⟨H0,A0,A,δ,R.step s1,o⟩
    | false=>exact ⟨H0,A0,A,δ,R.step s1,o⟩
  · rw [et] at o; exact o H' (R.same.trans s')
  · rw [et] at o; exact o
theorem aS (h:PD X E e ga):PSD X E O (.Return (some e) pos) (b6 ga):=(pT h).imp fun D σ H pz3=>by
  obtain ⟨H0,A0,A,δ,R,o⟩:=pz3
  unfold b6 at o
  refine eD.run R.full (fun d ed v H1 s1 R1 hv=>?_) (fun C et H' s'=>?_) (fun et=>?_)
  · rw [ed] at o; exact o v H1 (R.same.trans s1) hv
  · rw [et] at o; exact o H' (R.same.trans s')
  · rw [et] at o; exact o
theorem kN (h:PD X E e ga) (hs:swapsWith e none pos.line X.env=pure false:=by rfl):PSD X E O (.Expr e pos) (nz ga):=(sV h hs).imp fun D σ H pz3=>by
  obtain ⟨H0,A0,A,δ,R,o⟩:=pz3
  unfold nz at o
  refine eD.run R.full (fun d ed v H1 s1 R1 hv=>?_) (fun C et H' s'=>?_) (fun et=>?_)
  · rw [ed] at o; exact o A σ H1 (R.step s1)
  · rw [et] at o; exact o H' (R.same.trans s')
  · rw [et] at o; exact o
theorem a6 {i:Nat} {x:Str} {pos':Pos} (h:PD X E e ga) (hN:X.N.Nodup) (hO:i ∉ O:=by decide) (hi:X.N[i]?=some x:=by rfl) (hx:Loc X.env.scope x:=by first | exact Or.inl rfl | exact Or.inr rfl) (hs:swapsWith e (some (.Name x pos')) pos.line X.env=pure false:=by rfl)
    (hf:X.fn x=true∨X.env.scope.names.lookup x=some .local:=by first | exact .inl rfl | exact .inr rfl | assumption):PSD X E O (.Assign [.Name x pos'] e pos) (bj O i ga):=(wc hN hi hx h hs hf).imp fun D σ H pz3=>by
  obtain ⟨H0,A0,A,δ,R,o⟩:=pz3
  unfold bj at o
  split at o
  · rename_i hl
    refine eD.run R.part (fun d ed v H1 s1 R1 hv=>?_) (fun C et H' s'=>?_) (fun et=>?_)
    · rw [ed] at o; exact o A _ H1 ((R.step s1).set hO hl hv)
    · rw [et] at o; exact o H' (R.same.trans s')
    · rw [et] at o; exact o
  · exact o.elim
theorem lE {i:Nat} {x:Str} {pos':Pos} {gl:Ds→Rs (List PyData)} (h:PLD X E e gl) (hN:X.N.Nodup) (hO:i∈O:=by decide) (hi:X.N[i]?=some x:=by rfl) (hx:Loc X.env.scope x:=by first | exact Or.inl rfl | exact Or.inr rfl) (hs:swapsWith e (some (.Name x pos')) pos.line X.env=pure false:=by rfl)
    (hf:X.fn x=true∨X.env.scope.names.lookup x=some .local:=by first | exact .inl rfl | exact .inr rfl | assumption):PSD X E O (.Assign [.Name x pos'] e pos) (lM O i gl):=(wc hN hi hx h hs hf).imp fun D σ H pz3=>by
  obtain ⟨H0,A0,A,δ,R,o⟩:=pz3
  unfold lM at o
  split at o
  · rename_i hl
    refine ⟨A++A0,mask O δ,R.part,?_⟩
    cases q:gl (mask O δ) with
    | ok ds =>
      rw [q] at o
      exact fun p xs H' hn s hp hi'=>o (p::A) _ H' (R.setOwn hO hl hn s hp hi')
    | rz C=>rw [q] at o; exact fun H' s'=>o H' (R.same.trans s')
    | no=>rw [q] at o; exact o
  · exact o.elim
theorem vp {i:Nat} {gl:Ds→Rs (List PyData)} (h:PLS X E i st gl) (hO:i ∉ O:=by decide):PSD X E O st (bj O i (gL gl)):=PS.imp h fun D σ H pz3=>by
  obtain ⟨H0,A0,A,δ,R,o⟩:=pz3
  unfold bj gL at o
  split at o
  · rename_i hl
    have R1:=R.part
    refine ⟨A++A0,mask O δ,R1,?_⟩
    cases q:gl (mask O δ) with
    | ok ds =>
      rw [q] at o
      intro p xs H' hn s hp hi'
      exact o A _ H' ((R.step s).set hO hl (tw (by rw [cA (R1.ls.new hn)]; exact hp) (hi'.same rE)))
    | rz C=>rw [q] at o; exact fun H' s'=>o H' (R.same.trans s')
    | no=>rw [q] at o; exact o
  · exact o.elim
theorem tyL {K:PySem.W.Frag} {H:Hp} {p:Addr} {xs:List V} (h:H p=some (.lst xs)):tyV K "list" (.ref p) H:=.inl ⟨rfl,xs,SqL.of h⟩
theorem tx {i:Nat} {x:Str} {pn pa pc:Pos} (h:PD X E e ga) (hO:i∈O:=by decide) (hi:X.N[i]?=some x:=by rfl) (hv:Vis X.env.scope x:=by first | exact Or.inl rfl | exact Or.inr (Or.inl rfl) | exact Or.inr (Or.inr rfl))
    (hd:(x == ("__debug__":Str))=false:=by decide) (hcd:(x == ("__classdict__":Str))=false:=by decide) (hst:starEach [e] X.env=(false,eval e X.env)::starEach [] X.env:=by rfl)
    (hbase:attributeBase (.Name x pn) "append" X.env (eval (.Name x pn) X.env)=eval (.Name x pn) X.env:=by rfl)
    (hfew:((backTo pc (starEach [e] X.env)).all (fun x=>!x.1) && (backToKw pc (keywordEach [] X.env)).all (fun x=>x.1.isSome) && decide (([e]:List Expr).length + ([]:List Keyword).length + (if ([]:List Keyword).isEmpty then 0 else 1) < 30))=true:=by rfl)
    (hline:(pa.endLine == pc.line)=true:=by rfl) (hs:swapsWith (.Call (.Attribute (.Name x pn) "append" pa) [e] [] pc) none pos.line X.env=pure false:=by rfl) :
    PSD X E O (.Expr (.Call (.Attribute (.Name x pn) "append" pa) [e] [] pc) pos) (nF O i ga) :=
  (sV (Ap PySem.F.plainAttrs_list PySem.F.slot_list_append PySem.F.type_list_append oG (oh hi hv hd hcd) (fg h iI hst) hbase hfew hline hst rfl) hs).imp fun D σ H pz3=>by
    obtain ⟨H0,A0,A,δ,R,o⟩:=pz3
    unfold nF at o
    split at o
    · rename_i ds q
      obtain ⟨p,xs,ds',e1,hp,hl,e2,hx⟩:=R.own i _ hO q
      cases e2
      refine ⟨_,e1,tyL hl,?_⟩
      refine eD.run R.part (fun d ed v H1 s1 R1 hv=>?_) (fun C et H' s'=>?_) (fun et=>?_)
      · rw [ed] at o
        have o:uT X.K E H0 A0 O (if ds.length < 1000000 then .nx (δ.set i (some (.list (ds++[d])))) else .no) D:=o
        split at o
        · rename_i hz
          refine ⟨p,xs,v,rfl,rfl,s1 _ _ hl,by rw [hx.length,sizeLine_eq]; omega,?_⟩
          exact o A _ _ ((R.step s1).put hO q e1 hp ((hx.same s1.del).append (pE hv)))
        · exact o.elim
      · rw [et] at o; exact o H' (R.same.trans s')
      · rw [et] at o; exact o
    · exact o.elim
noncomputable def TgS (K:PySem.W.Frag) (O:List Nat) (tgt:PyData→Ds→Option Ds) (g:TG):Prop:=∀ (d:PyData) (v:V) (H0:Hp) (A0:List Addr) (H:Hp) (A:List Addr) (δ δ':Ds) (σ:St) (Q:St→Hp→Prop),dB K H0 A0 H A O δ σ→Is K (del H (A++A0)) d v→tgt d δ=some δ' →
  (∀ σ',dB K H0 A0 H A O δ' σ'→Q σ' H)→g v σ H Q
noncomputable def b7 (i:Nat):PyData→Ds→Option Ds:=fun d δ=>if i < δ.length then some (δ.set i (some d)) else none
theorem eH {K:PySem.W.Frag} {i:Nat} (hi:i ∉ O):TgS K O (b7 i) (oS i):=fun d v H0 A0 H A δ δ' σ Q R h e k=>by
  unfold b7 at e
  split at e
  · rename_i hl
    cases e
    exact k _ (R.set hi hl h)
  · cases e
noncomputable def iS:List Nat→List PyData→Ds→Option Ds
  | [],[],δ=>some δ
  | i::is,d::ds,δ=>if i < δ.length then iS is ds (δ.set i (some d)) else none
  | _,_,_=>none
noncomputable def dA (is:List Nat):PyData→Ds→Option Ds
  | .tuple ds,δ=>iS is ds δ
  | _,_=>none
noncomputable def xg:List Nat→TGs
  | []=>L2.EO
  | i::is=>L2.CF (oS i) (xg is)
theorem oW {K:PySem.W.Frag}:∀ (is:List Nat) (ds:List PyData) (vs:List V) (H0:Hp) (A0:List Addr) (H:Hp) (A:List Addr) (δ δ':Ds) (σ:St) (Q:St→Hp→Prop),(∀ i∈is,i ∉ O)→dB K H0 A0 H A O δ σ→Iss K (del H (A++A0)) ds vs→iS is ds δ=some δ' →
    (∀ σ',dB K H0 A0 H A O δ' σ'→Q σ' H)→xg is vs σ H Q
  | [],[],vs,H0,A0,H,A,δ,δ',σ,Q,_,R,h,e,k=>by
    cases e
    exact ⟨h.nil_of,k σ R⟩
  | i::is,d::ds,vs,H0,A0,H,A,δ,δ',σ,Q,hO,R,h,e,k=>by
    obtain ⟨v,r,rfl,h1,h2⟩:=h.cons_of
    unfold iS at e
    split at e
    · rename_i hl
      exact ⟨v,r,rfl,oW is ds r H0 A0 H A _ δ' _ Q (fun j hj=>hO j (List.mem_cons_of_mem _ hj)) (R.set (hO i List.mem_cons_self) hl h1) h2 e k⟩
    · cases e
  | [],_::_,_,_,_,_,_,_,_,_,_,_,_,_,e,_=>by cases e
  | _::_,[],_,_,_,_,_,_,_,_,_,_,_,_,e,_=>by cases e
theorem pM:∀ {is:List Nat} {ds:List PyData} {δ δ':Ds},iS is ds δ=some δ'→ds.length=is.length
  | [],[],_,_,_=>rfl
  | _::is,_::ds,δ,δ',e=>by
    unfold iS at e
    split at e
    · simp [pM e]
    · cases e
  | [],_::_,_,_,e=>by cases e
  | _::_,[],_,_,e=>by cases e
theorem lJ {K:PySem.W.Frag} {is:List Nat} (hi:∀ i∈is,i ∉ O):TgS K O (dA is) (L2.EL K is.length (xg is)):=fun d v H0 A0 H A δ δ' σ Q R h e k=>by
  unfold dA at e
  split at e
  · obtain ⟨p,xs,rfl,hp,hx⟩:=h.ofTup
    exact ⟨p,xs,rfl,SqT.of (aY _ _ hp),by rw [hx.length,pM e],oW is _ xs H0 A0 H A δ δ' σ Q hi R hx e k⟩
  · cases e
noncomputable def forL (tgt:PyData→Ds→Option Ds) (body:Ds→Sr):List PyData→Ds→Sr
  | [],δ=>.nx δ
  | d::r,δ=>match tgt d δ with
    | none=>.no
    | some δ1=>match body δ1 with
      | .nx δ2=>forL tgt body r δ2
      | .ct δ2=>forL tgt body r δ2
      | .bk δ2=>.nx δ2
      | .rt v=>.rt v
      | .rz C=>.rz C
      | .no=>.no
noncomputable def iT (O:List Nat) (src:Ds→Rs (List PyData)) (tgt:PyData→Ds→Option Ds) (body:Ds→Sr):Ds→Sr:=fun δ=>ofR (src (mask O δ)) fun ds=>forL tgt body ds δ
theorem dQ {iter tg:Expr} {gi:Ds→Rs (List PyData)} {tgt:PyData→Ds→Option Ds} {g:TG} (hp:PassesOwn (model X.prog X.w) X.A X.env X.xe) (hc:X.calm=true) (hi:PID X E tg iter gi) (hT:TgS X.K O tgt g) (hg:PG X tg g) (hb:PBD X E O ss G)
    (hs:∀ x,foldedSetIterable iter X.env x=pure x:=by intro _; rfl):PSD X E O (.For tg iter ss [] pos) (iT O gi tgt G):=(C8 hp hc hi hg hb hs).imp fun D σ H pz3=>by
  obtain ⟨H0,A0,A,δ,R,o⟩:=pz3
  unfold iT at o
  refine ⟨A++A0,mask O δ,R.part,?_⟩
  cases q:gi (mask O δ) with
  | no=>rw [q] at o; exact o
  | rz C=>rw [q] at o; exact fun H' s'=>o H' (R.same.trans s')
  | ok ds =>
    rw [q] at o
    intro J H1 s1 hJ
    have R1:=(R.step s1).more
    have o:uT X.K E H0 A0 O (forL tgt G ds δ) D:=o
    refine ⟨fun i m σ' H'=>m=ds.length - i∧i≤ds.length∧∃ A' δ',dB X.K (un H0 (del H1 (A++A0))) A0 H' A' O δ' σ'∧uT X.K E H0 A0 O (forL tgt G (ds.drop i) δ') D,⟨ds.length,by simp,Nat.zero_le _,A,δ,R1,o⟩,?_⟩
    rintro i m σ' H' ⟨rfl,hi',A',δ',R',o'⟩
    have sG:aM (del H1 (A++A0)) (un H0 (del H1 (A++A0))):=FY (R.same.trans s1) aY
    have hB:∀ b∈A'++A0,(del H1 (A++A0)) b=none:=fun b hb=>by
      rcases List.mem_append.mp hb with z | z
      · exact sG.free (R'.new b z)
      · exact oB (List.mem_append_right _ z)
    obtain ⟨jg,js,jy⟩:=hJ H' (A'++A0) (sG.trans R'.same) R'.lsA hB
    by_cases hlt:i < ds.length
    · refine .inr ⟨jg i hlt,?_⟩
      have edr:ds.drop i=ds[i]::ds.drop (i + 1):=List.drop_eq_getElem_cons hlt
      rw [edr] at o'
      unfold forL at o'
      refine ⟨fun σ2 H2=>∃ A2 δ2,dB X.K (un H0 (del H1 (A++A0))) A0 H2 A2 O δ2 σ2∧uT X.K E H0 A0 O (forL tgt G (ds.drop (i + 1)) δ2) D,fun σ2 H2 ⟨A2,δ2,R2,o2⟩=>⟨ds.length - (i + 1),by omega,rfl,hlt,A2,δ2,R2,o2⟩,fun x H2 y=>?_⟩
      obtain ⟨s2,d,ed,hd⟩:=jy i x H2 hlt y
      have:ds[i]=d:=by
        have:=List.getElem?_eq_getElem hlt
        rw [this] at ed; exact Option.some.inj ed
      rw [this] at o'
      cases et:tgt d δ' with
      | none=>rw [et] at o'; exact o'.elim
      | some δ1 =>
        simp only [et] at o'
        refine hT d x _ _ _ _ _ _ _ _ (R'.step s2) hd et fun σ3 R3=>⟨_,_,_,_,R3,?_⟩
        cases eb:G δ1 with
        | nx δ2=>rw [eb] at o'; exact fun A4 σ4 H4 R4=>⟨A4,δ2,R4,o'⟩
        | ct δ2=>rw [eb] at o'; exact fun A4 σ4 H4 R4=>⟨A4,δ2,R4,o'⟩
        | bk δ2=>rw [eb] at o'; exact fun A4 σ4 H4 R4=>o' A4 σ4 H4 (R4.less Ao R.ls0)
        | rt v=>rw [eb] at o'; exact fun v4 H4 s4 h4=>o' v4 H4 (Ao.trans s4) h4
        | rz C=>rw [eb] at o'; exact fun H4 s4=>o' H4 (Ao.trans s4)
        | no=>rw [eb] at o'; exact o'
    · have e:i=ds.length:=by omega
      subst e
      rw [List.drop_length] at o'
      exact .inl ⟨js,o' A' σ' H' (R'.less Ao R.ls0)⟩
end
end L2
set_option maxRecDepth 100000
set_option maxHeartbeats 4000000
namespace L2
open PySem PySem.Spec PyProof.Rows
section
variable {X:Cx} {E:XK} {O:List Nat} {st:Stmt} {ss:List Stmt} {G G':Ds→Sr} {e a b c:Expr} {ga gb gk:Ds→Rs PyData} {ca:Ds→Rs Bool} {pos:Pos}
noncomputable def c8 (c:Ds→Rs Bool) (b:Ds→Sr):Nat→Ds→Sr
  | 0,_=>.no
  | n + 1,δ=>ofR (c δ) fun t=>if t=true then (match b δ with
    | .nx δ2=>c8 c b n δ2
    | .ct δ2=>c8 c b n δ2
    | .bk δ2=>.nx δ2
    | .rt v=>.rt v
    | .rz C=>.rz C
    | .no=>.no) else .nx δ
theorem oK (fuel:Nat) (hp:PassesOwn (model X.prog X.w) X.A X.env X.xe) (hc:PCD X E c ca) (hb:PBD X E O ss G):PSD X E O (.While c ss [] pos) (fun δ=>c8 ca G fuel δ):=(Bh hp hc hb).imp fun D σ H pz3=>by
  obtain ⟨H0,A0,A,δ,R,o⟩:=pz3
  refine ⟨fun m σ H=>∃ A δ,dB X.K H0 A0 H A O δ σ∧uT X.K E H0 A0 O (c8 ca G m δ) D,⟨fuel,A,δ,R,o⟩,?_⟩
  rintro m σ H ⟨A,δ,R,o⟩
  cases m with
  | zero=>exact o.elim
  | succ m =>
    unfold c8 at o
    refine cD.run R.full (fun t et H1 s1 R1=>?_) (fun C et H' s'=>?_) (fun et=>?_)
    · rw [et] at o
      cases t with
      | false=>exact o A σ H1 (R.step s1)
      | true =>
        refine ⟨fun σ' H'=>∃ A δ,dB X.K H0 A0 H' A O δ σ'∧uT X.K E H0 A0 O (c8 ca G m δ) D,fun σ' H' q=>⟨m,Nat.lt_succ_self m,q⟩,H0,A0,A,δ,R.step s1,?_⟩
        have o:uT X.K E H0 A0 O (match G δ with
          | .nx δ2=>c8 ca G m δ2
          | .ct δ2=>c8 ca G m δ2
          | .bk δ2=>.nx δ2
          | .rt v=>.rt v
          | .rz C=>.rz C
          | .no=>.no) D:=o
        cases eb:G δ with
        | nx δ2=>rw [eb] at o; exact fun A4 σ4 H4 R4=>⟨A4,δ2,R4,o⟩
        | ct δ2=>rw [eb] at o; exact fun A4 σ4 H4 R4=>⟨A4,δ2,R4,o⟩
        | bk δ2=>rw [eb] at o; exact o
        | rt v=>rw [eb] at o; exact o
        | rz C=>rw [eb] at o; exact o
        | no=>rw [eb] at o; exact o
    · rw [et] at o; exact o H' (R.same.trans s')
    · rw [et] at o; exact o
noncomputable def qY (O:List Nat) (tgt:PyData→Ds→Option Ds) (g:Ds→Rs PyData):Ds→Sr:=fun δ=>ofR (g (mask O δ)) fun d=>match tgt d δ with
  | some δ'=>.nx δ'
  | none=>.no
theorem yy {tg:Expr} {tgt:PyData→Ds→Option Ds} {g:TG} (h:PD X E e ga) (hT:TgS X.K O tgt g) (hg:PG X tg g) (hs:swapsWithSole [tg] e pos.line X.env=pure false:=by rfl) (hw:swappedStores [tg] e X.env=pure none:=by rfl)
    (h1:(assignEach [tg] X.env).map (·.2)=[assign tg X.env]:=by rfl):PSD X E O (.Assign [tg] e pos) (qY O tgt ga):=(zW h hg hs hw h1).imp fun D σ H pz3=>by
  obtain ⟨H0,A0,A,δ,R,o⟩:=pz3
  unfold qY at o
  refine eD.run R.part (fun d ed v H1 s1 R1 hv=>?_) (fun C et H' s'=>?_) (fun et=>?_)
  · simp only [ed,aA] at o
    cases q:tgt d δ with
    | none=>rw [q] at o; exact o.elim
    | some δ'=>rw [q] at o; exact hT d v H0 A0 H1 A δ δ' σ _ (R.step s1) hv q fun σ' R'=>o A σ' H1 R'
  · rw [et] at o; exact o H' (R.same.trans s')
  · rw [et] at o; exact o
noncomputable def rf (i:Nat) (gk ge:Ds→Rs PyData):Ds→Sr:=fun δ=>match δ[i]? with
  | some (some (.list ds))=>ofR (ge δ) fun d=>ofR (gk δ) fun k=>match k with
    | .int k=>match ixN ds.length k with
      | some j=>if gI d then .nx (δ.set i (some (.list (ds.set j d)))) else .no
      | none=>.no
    | _=>.no
  | _=>.no
theorem ye {k:Expr} {i:Nat} {x:Str} {pn ps:Pos} (h:PD X E e ga) (hk:PD X E k gk) (hO:i∈O:=by decide) (hi:X.N[i]?=some x:=by rfl) (hv:Vis X.env.scope x:=by first | exact Or.inl rfl | exact Or.inr (Or.inl rfl) | exact Or.inr (Or.inr rfl))
    (hd:(x == ("__debug__":Str))=false:=by decide) (hcd:(x == ("__classdict__":Str))=false:=by decide)
    (ha:∀ v,assign (.Subscript (.Name x pn) k ps) X.env v=(do
      let ov ← holding [v] (eval (.Name x pn) X.env)
      let iv ← holding [v,ov] (eval k X.env)
      standAt ps
      holding [v,ov,iv] (setItem ov iv v)
      release [v,ov,iv] []):=by intro _; rfl)
    (hs:swapsWithSole [.Subscript (.Name x pn) k ps] e pos.line X.env=pure false:=by rfl) (hw:swappedStores [.Subscript (.Name x pn) k ps] e X.env=pure none:=by rfl)
    (h1:(assignEach [.Subscript (.Name x pn) k ps] X.env).map (·.2)=[assign (.Subscript (.Name x pn) k ps) X.env]:=by rfl):PSD X E O (.Assign [.Subscript (.Name x pn) k ps] e pos) (rf i gk ga) :=
  (zW h (DV (oh hi hv hd hcd) hk set_list ha) hs hw h1).imp fun D σ H pz3=>by
    obtain ⟨H0,A0,A,δ,R,o⟩:=pz3
    unfold rf at o
    split at o
    · rename_i ds q
      obtain ⟨p,xs,ds',e1,hp,hl,e2,hx⟩:=R.own i _ hO q
      cases e2
      refine eD.run R.full (fun d ed v H1 s1 R1 hv=>?_) (fun C et H' s'=>?_) (fun et=>?_)
      · simp only [ed,aA] at o
        refine ⟨_,e1,?_⟩
        refine eD.run R1 (fun kd ek u H2 s2 R2 hu=>?_) (fun C et H' s'=>?_) (fun et=>?_)
        · simp only [ek,aA] at o
          split at o
          · rename_i kk
            split at o
            · rename_i j hj
              split at o
              · rename_i hn
                have s12:=s1.trans s2
                refine ⟨p,xs,kk,j,rfl,hu.ofInt,s12 _ _ hl,by rw [hx.length]; exact hj,?_⟩
                exact o A _ _ ((R.step s12).put hO q e1 hp (Iss.set (((hv.same s2.del).same aY).dl (R.step s12).lsA hn) j (hx.same s12.del)))
              · exact o.elim
            · exact o.elim
          · exact o.elim
        · simp only [et,tJ] at o; exact o H' (R.same.trans (s1.trans s'))
        · simp only [et,sN] at o; exact o
      · simp only [et,tJ] at o; exact o H' (R.same.trans s')
      · simp only [et,sN] at o; exact o
    · exact o.elim
structure u6 (K:PySem.W.Frag) (mg:Str→Option Value) (x:Str) (C:Addr):Prop where
  m:mg x=some (.ref C)
  e:PySem.W.excIn K C [.type "ValueError",.type "Exception",.type "BaseException",.type "object"] "ValueError.__new__"=true
noncomputable def my (C:Addr) (gs:Ds→Rs (List PyData)):Ds→Sr:=fun δ=>ofR (gs δ) fun _=>.rz C
theorem lF {x:Str} {C:Addr} {np cpos:Pos} {es:List Expr} {gs:Ds→Rs (List PyData)} (hc:X.calm=true) (M:wO X E) (EE:u6 X.K X.mg x C) (ha:PAD X E (e::es) gs) (hl:(e::es).length≤1000:=by decide) (hg:Gl X x:=by rfl)
    (hdb:(x == ("__debug__":Str))=false:=by decide) (he:starEach (e::es) X.env=(false,eval e X.env)::starEach es X.env:=by rfl) (hpl:(backTo cpos (starEach es X.env)).any (·.1)=false:=by rfl) :
    PSD X E O (.Raise (some (.Call (.Name x np) (e::es) [] cpos)) none pos) (my C gs) :=
  (Az hc M PySem.F.excBase_ValueError hg EE.m EE.e ha.1 hdb he hpl).imp fun D σ H pz3=>by
    obtain ⟨H0,A0,A,δ,R,o⟩:=pz3
    unfold my at o
    refine aD.run R.full (fun ds ed vs H1 s1 R1 hv=>?_) (fun C et H' s'=>?_) (fun et=>?_)
    · simp only [ed,aA] at o
      exact ⟨by rw [hv.length,ha.2 δ ds ed,sizeLine_eq]; omega,o H1 (R.same.trans s1)⟩
    · simp only [et,tJ] at o; exact o H' (R.same.trans s')
    · simp only [et,sN] at o; exact o
end
section
variable {P:Program} {w:World} {K:PySem.W.Frag} {mg:Str→Option Value} {base:Heap}
theorem uw {x qual:Str} {st:Stmt} {f:Addr} {fd:FuncData} {N ps:List Str} {k:Nat} {sp:Sp} {CX:CXT} (F:Fun K x qual st f fd) (S:aT N ps (aB st)) (len:∀ vs H Q E,sp vs H Q E→vs.length=ps.length)
    (hbody:∀ (cdv:Value) (A:Around) (outer:List Env) (s:Shared) (H:Hp) (vs:List V) (Q:VK) (E:XK),fj k (A.deeper (envOfC qual (aB st) s.heap.objs.size f cdv))→sp vs H Q E →
      ∃ t,PSs (jD CX P w K mg base N qual (aB st) f cdv A outer s H E) (eM st) t∧t { nx:=fun _ H'=>Q .non H',rt:=Q } (start N vs) H):jR P w K mg base CX (k + 1) f fd ps sp:=by
  obtain ⟨oc,od,kV,doc,pm,an,cdv,ct,osl,rfl,lk,hcd⟩:=F.ex
  exact CD lk hcd S len fun A outer s H vs Q E hr hsp=>hbody cdv A outer s H vs Q E hr hsp
noncomputable def aV:Sr→Rs PyData
  | .rt d=>.ok d
  | .nx _=>.ok .none
  | .rz C=>.rz C
  | _=>.no
theorem tT {N:List Str} {qual:Str} {scope:Scope} {f:Addr} {cd:Value} {A:Around} {outer:List Env} {s:Shared} {H:Hp} {E:XK}:wO (jD (CXW P w) P w K mg base N qual scope f cd A outer s H E) E :=
  fun _ _ _ _ _ _ _ _ I hx hE=>vO (CX:=CX0) I hx hE
theorem dB.start {N ps:List Str} {A0:List Addr} {H:Hp} {O:List Nat} {ds:List PyData} {vs:List V} (hA:Ls H A0) (hi:Iss K (del H A0) ds vs) (hl:ds.length=ps.length) (hO:∀ i∈O,ps.length≤i) :
    dB K H A0 H [] O (ds.map some++List.replicate (N.length - ps.length) none) (L2.start N vs):=by
  have hv:=hi.length
  have at':∀ (i:Nat) d,(ds.map some++List.replicate (N.length - ps.length) none)[i]?=some (some d)→i < ds.length∧ds[i]?=some d:=fun i d e=>by
    by_cases h:i < ds.length
    · rw [List.getElem?_append_left (by simpa using h),List.getElem?_map] at e
      refine ⟨h,?_⟩
      cases q:ds[i]? with
      | none=>rw [q] at e; cases e
      | some z=>rw [q] at e; simp at e; rw [e]
    · rw [List.getElem?_append_right (by simpa using h),List.getElem?_replicate] at e
      split at e <;> cases e
  refine ⟨aM.refl _,hA,(fun a h=>by cases h),(fun a h=>by cases h),?_,fun i d _ e=>?_,fun i d h e=>?_,fun i j d e a h _ q _ _ _=>?_⟩
  · unfold L2.start; simp [hv,hl]
  · obtain ⟨hlt,e⟩:=at' i d e
    obtain ⟨v,ev,hd⟩:=hi.getD e
    refine ⟨v,?_,hd⟩
    unfold L2.start
    rw [List.getElem?_append_left (by simp; omega),List.getElem?_map,ev]
    rfl
  · obtain ⟨hlt,_⟩:=at' i d e
    exact absurd (hO i h) (by omega)
  · obtain ⟨hlt,_⟩:=at' i d q
    exact absurd (hO i h) (by omega)
theorem aO.of {x qual:Str} {st:Stmt} {f:Addr} {fd:FuncData} {N ps:List Str} {k:Nat} {O:List Nat} {G:Ds→Sr} {gf:List PyData→Rs PyData} (F:Fun K x qual st f fd) (S:aT N ps (aB st)) (b:Binds K fd ps []) (m:mg x=some (.ref f)) (hO:∀ i∈O,ps.length≤i)
    (body:∀ (cdv:Value) (A:Around) (outer:List Env) (s:Shared) (H:Hp) (E:XK),fj k (A.deeper (envOfC qual (aB st) s.heap.objs.size f cdv))→PBD (jD (CXW P w) P w K mg base N qual (aB st) f cdv A outer s H E) E O (eM st) G)
    (hg:∀ ds,ds.length=ps.length→gf ds≠.no→aV (G (ds.map some++List.replicate (N.length - ps.length) none))=gf ds):aO P w K mg base (k + 1) x ps.length gf:=by
  refine ⟨f,fd,ps,uw F S (fun vs H Q E h=>?_) (fun cdv A outer s H vs Q E hr h=>?_),m,F.kp,b⟩
  · obtain ⟨A,ds,hA,hi,hl,o⟩:=h
    rw [hi.length,hl]
  · obtain ⟨A0,ds,hA,hi,hl,o⟩:=h
    refine ⟨_,body cdv A outer s H E hr,H,A0,[],_,dB.start hA hi hl hO,?_⟩
    have hg':=hg ds hl (fun z=>by rw [z] at o; exact o)
    cases q:G (ds.map some++List.replicate (N.length - ps.length) none) with
    | rt d=>rw [q] at hg'; rw [← hg'] at o; exact fun v H' s' hv=>o v H' s' hv
    | nx δ=>rw [q] at hg'; rw [← hg'] at o; exact fun A' σ H' R'=>o .non H' R'.same is_none
    | rz C=>rw [q] at hg'; rw [← hg'] at o; exact fun H' s'=>o H' s'
    | bk δ=>rw [q] at hg'; rw [← hg'] at o; exact o.elim
    | ct δ=>rw [q] at hg'; rw [← hg'] at o; exact o.elim
    | no=>rw [q] at hg'; rw [← hg'] at o; exact o.elim
theorem aO.old {x:Str} {f:Addr} {fd:FuncData} {ps:List Str} {k:Nat} {sp:Sp} {gf:List PyData→Rs PyData} (F:jR P w K mg base CX0 k f fd ps sp) (m:mg x=some (.ref f)) (kp:PySem.W.keepIn K (.ref f)=true) (b:Binds K fd ps [])
    (h:∀ ds,ds.length=ps.length→gf ds≠.no→∃ d,gf ds=.ok d∧f6 d=true∧∀ vs H Q,Iss K H ds vs→(∀ v H',aM H H'→IsD K H' d v→Q v H')→sp vs H Q E0):aO P w K mg base k x ps.length gf:=by
  refine ⟨f,fd,ps,⟨fun vs H Q E h'=>?_,fun A outer s H args us vs Q E hr he hb hv h'=>?_⟩,m,kp,b⟩
  · obtain ⟨A,ds,hA,hi,hl,o⟩:=h'
    rw [hi.length,hl]
  · obtain ⟨A0,ds,hA,hi,hl,o⟩:=h'
    obtain ⟨d,e,nl,hsp⟩:=h ds hl (fun z=>by rw [z] at o; exact o)
    rw [e] at o
    refine codeAny_mono (F.run A outer s H args us vs Q E0 hr he hb hv (hsp vs H Q (hi.same aY) fun v H' s' hd=>o v H' s' ((hd.is nl).dl (hA.same s') (wK nl)))) fun r s' hq=>?_
    cases r with
    | error ev=>exact False.elim hq
    | ok fl =>
      cases fl with
      | ret u=>exact hq
      | next=>exact False.elim hq
      | brk=>exact False.elim hq
      | cont=>exact False.elim hq
end
end L2
set_option maxRecDepth 100000
set_option maxHeartbeats 4000000
namespace L2
open PySem PySem.Spec PyProof.Rows
open AutoSeq1 (wpAny_loadPart')
theorem nQ:fillsNumberSlot (.type "tuple") "mul"=pure false :=
  PySem.fillsNumberSlot_seq (id:="tuple.__mul__") (r:=some (.builtin "tuple.__rmul__")) PySem.F.slot_tuple_mul.lookup (by decide +kernel) PySem.F.slot_tuple_rmul.lookup (by decide +kernel)
theorem sQ:seqRepeat? (.type "tuple")=pure (some (.builtin "tuple.__mul__")):=by
  unfold seqRepeat?
  rw [PySem.seqSlot_of (T:="tuple") (name:="__mul__") (id:="tuple.__mul__") PySem.F.slot_tuple_mul.lookup (by decide +kernel),PySem.seqSlot_of (T:="tuple") (name:="__rmul__") (id:="tuple.__rmul__") PySem.F.slot_tuple_rmul.lookup (by decide +kernel)]
  rfl
theorem ud (a:Int) (t:Tok) (l:Addr) (items:Array Value) (n:Nat) (dd:Option Addr) (sl:Array (Option Value)) :
    Meets (Builtin.«int.__rmul__» ⟨[.int a t,.ref l],[]⟩) (fun _ R s=>s.heap.get? l=some { cls:=.type "tuple",dict:=dd,data:=.seq items n,slots:=sl }∧R (.ok (.ret Value.notImplemented)) s) :=
  .of_wp fun prog w A R s h=>by obtain ⟨hp,g,d,tk,os⟩:=s; obtain ⟨hl,h⟩:=h; wp_walk; exact ⟨_,rfl,h⟩
theorem AR (l:Addr) (items:Array Value) (n:Nat) (x:Int) (u:Tok) (dd:Option Addr) (sl:Array (Option Value)) (h1:(decide (x < -(2 ^ 63)) || decide (x ≥ 2 ^ 63))=false) (h2:(items.isEmpty || x == 1)=false) (h3:(decide (x≤0) || items.isEmpty)=false)
    (h4:decide ((items.size:Int) * x > (2 ^ 63 - 1) / 8)=false) (h5:Builtin.Tuple.tupleTooMany ((items.size:Int) * x)=false) (hsz:(List.foldl (fun x1 x2=>x1++x2) #[] (List.replicate x.toNat items)).size≤sizeLine) :
    Meets (Builtin.«tuple.__mul__» ⟨[.ref l,.int x u],[]⟩) (fun _ R s=>s.heap.get? l=some { cls:=.type "tuple",dict:=dd,data:=.seq items n,slots:=sl }∧R (.ok (.ret (Value.ref s.heap.objs.size))) { s with heap:=s.heap.push { cls:=Value.type "tuple",data:=Data.seq (List.foldl (fun x1 x2=>x1++x2) #[] (List.replicate x.toNat items)) } }) :=
  .of_wp fun prog w A R s h=>by
    obtain ⟨hp,g,d,tk,os⟩:=s; obtain ⟨hl,h⟩:=h
    have f1:=AutoSeq1.idx_int; have f2:=AutoSeq1.sub_tuple_tuple
    wp_walk using wpAny_loadPart' hl
    refine wpAny_ite_false (by rw [h1]; rfl) ?_
    wp_walk using wpAny_loadPart' hl
    refine wpAny_ite_false h4 ?_
    wp_walk using wpAny_loadPart' hl
    exact ⟨_,rfl,h⟩
section
variable {X:Cx} {E:XK} {a b c e:Expr} {ga gb gc:Ds→Rs PyData} {pos:Pos} {es:List Expr} {gs:Ds→Rs (List PyData)}
noncomputable def CL (K:PySem.W.Frag):R2:=fun x y H Q=>∃ l k xs,x=.ref l∧y=.int k∧SqT K H l xs∧xs≠[]∧2≤k∧k < 1000000∧xs.length * k.toNat≤1000000∧∀ p,H p=none→Q (.ref p) (upd H p (.tup (List.replicate k.toNat xs).flatten))
theorem BA:OpR X (binaryOp .Mult) (CL X.K):=by
  intro pins s σ H x y v u Q I rx ry h
  obtain ⟨l,k,xs,rfl,rfl,hl,hne,hk1,hk2,hz,q⟩:=h
  cases rx
  obtain ⟨t,rfl⟩:=ry
  obtain ⟨its,r,p1,_⟩:=I.tuple hl
  obtain ⟨⟨cls,dd,data,sl⟩,ho,hc,n,hd⟩:=id p1
  simp only at hc hd
  subst hc hd
  have hlen:=r.length
  have hne':its≠[]:=fun z=>hne (r.nil_iff.mp z)
  have hpos:0 < its.length:=List.length_pos_iff.mpr hne'
  have hfold:List.foldl (fun x1 x2=>x1++x2) #[] (List.replicate k.toNat its.toArray)=(List.replicate k.toNat its).flatten.toArray:=by
    have:=foldl_rep its k.toNat []
    rw [List.nil_append] at this
    exact this
  have hemp:its.toArray.isEmpty=false:=by simp [hne']
  have hmul:(its.length:Int) * k≤1000000:=by
    have e1:((its.length * k.toNat:Nat):Int)=(its.length:Int) * k:=by
      rw [Int.natCast_mul,Int.toNat_of_nonneg (by omega)]
    rw [← e1,← hlen]; omega
  have hsz2:(List.replicate k.toNat its).flatten.length≤1000000:=by rw [len_rep,Nat.mul_comm,← hlen]; exact hz
  refine wpAny_binaryOp_repeat_ref (T:="tuple") (U:="int") (by decide) ⟨_,ho,rfl⟩ (fun s'=>typeIs_int s' k t) nQ PySem.F.fills_int_mul PySem.F.slot_int_rmul sQ PySem.F.slot_int_index.lookup
    (call_meets PySem.F.slot_int_rmul (typeIs_int s k t) PySem.F.entry_int_rmul (PySem.F.args_int_rmul_2 _ _) (ud k t l its.toArray n dd sl)
      ⟨ho,rfl,⟨_,ho,rfl⟩,call_meets PySem.F.slot_tuple_mul ⟨_,ho,rfl⟩ PySem.F.entry_tuple_mul (PySem.F.args_tuple_mul_2 _ _) (AR l its.toArray n k t dd sl ?_ ?_ ?_ ?_ ?_ ?_) ⟨ho,?_⟩⟩)
  · rw [decide_eq_false (by omega),decide_eq_false (by omega)]; rfl
  · rw [hemp,Bool.false_or]; simp; omega
  · rw [hemp,Bool.or_false]; exact decide_eq_false (by omega)
  · rw [List.size_toArray]; exact decide_eq_false (by omega)
  · rw [List.size_toArray]
    unfold Builtin.Tuple.tupleTooMany
    rw [sizeLine_eq]
    exact decide_eq_false (by omega)
  · rw [hfold,List.size_toArray,sizeLine_eq]; omega
  · rw [hfold]
    refine ⟨.ref s.heap.objs.size,_,I.laid (t':=s.toks) (o:=.tup (List.replicate k.toNat xs).flatten) (fun b ob q=>Heap.get?_push_of_some _ q) (Nat.le_refl _) ?_,rfl,q _ (I.hok.fresh (Nat.le_refl _))⟩
    exact ⟨by rw [len_rep,Nat.mul_comm,sizeLine_eq]; omega,_,r.rep k.toNat,sR.new _ _⟩
noncomputable def nB:PyData→PyData→Option PyData
  | .int i,.int j=>if (-(2 ^ 64) < i∧i < 2 ^ 64)∨(-(2 ^ 64) < j∧j < 2 ^ 64) then some (.int (i * j)) else none
  | .list x,.int k=>if 0≤k∧k < 1000000∧x.length * k.toNat≤1000000 then some (.list (List.replicate k.toNat x).flatten) else none
  | .tuple x,.int k=>if x≠[]∧2≤k∧k < 1000000∧x.length * k.toNat≤1000000 then some (.tuple (List.replicate k.toNat x).flatten) else none
  | _,_=>none
theorem BF {K:PySem.W.Frag}:OpD K nB (fun x y H Q=>rI B3 (fun i j=>.int (i * j)) x y H Q∨E7 x y H Q∨CL K x y H Q):=fun d1 d2 d x y H A Q e hA h1 h2 k=>by
  unfold nB at e
  split at e
  · split at e
    · rename_i z
      cases e
      exact .inl ⟨_,_,h1.ofInt,h2.ofInt,z,k _ H (aM.refl _) cT⟩
    · cases e
  · split at e
    · rename_i z
      cases e
      obtain ⟨p,xs,rfl,hp,hx⟩:=h1.ofLst
      exact .inr (.inl ⟨p,_,xs,rfl,h2.ofInt,aY _ _ hp,by omega,by omega,by rw [hx.length,sizeLine_eq]; omega,fun r hr=>k _ _ (c6 hr) (pG hA hr (hx.rep _))⟩)
    · cases e
  · split at e
    · rename_i z
      cases e
      obtain ⟨p,xs,rfl,hp,hx⟩:=h1.ofTup
      refine .inr (.inr ⟨p,_,xs,rfl,h2.ofInt,SqT.of (aY _ _ hp),fun q=>z.1 ?_,z.2.1,z.2.2.1,by rw [hx.length]; exact z.2.2.2,fun r hr=>k _ _ (c6 hr) (nK hA hr (hx.rep _))⟩)
      exact List.length_eq_zero_iff.mp (by rw [← hx.length,q]; rfl)
    · cases e
  · cases e
theorem sH (ha:PD X E a ga) (hb:PD X E b gb):PD X E (.BinOp a .Mult b pos) (g2 nB ga gb):=jl BF ha hb (fV (nY.or (DR.or BA)))
end
section
variable {prog:Program} {w:World} {A:Around} {E:Value→Shared→Prop} {s:Shared}
theorem lO {t sl:Addr} {items:Array Value} {vl vu:Value} {lo hi:Option Int} {Q:Value→Shared→Prop} (ht:IsTup s.heap t items) (hs:s.heap.IsSliceOf sl vl vu .none) (pl:IsPart vl lo) (pu:IsPart vu hi)
    (hw:HT.sIx items.size 0 lo=0∧HT.sIx items.size items.size hi=items.size) (h:Q (.ref t) s):wpAny (model prog w) A (getItem (.ref t) (.ref sl)) Q E s:=by
  obtain ⟨os,hos,hcs,hds⟩:=id hs
  have hTs:s.TypeIs (.ref sl) "slice":=⟨os,hos,hcs⟩
  unfold getItem
  try with_reducible refine wpAny_holding ?_
  first | refine wpAny_bind (wpAny_pure ?_) | skip
  refine wpAny_bind (wpAny_sequenceKey ht.typeIs (by decide) ?_)
  refine wpAny_bind (wpAny_callSpecial?_slot (name:=Str.ofString "__getitem__") ht.typeIs PyProof.Rows.slot_tuple_getitem
    (wpAny_call_entry PyProof.Rows.slot_tuple_getitem ht.typeIs entry_tuple_getitem ?_ (args_tuple_getitem _ _)))
  show wpAny _ _ (Builtin.Tuple.tupleItemsOf (.ref t) >>= _) _ _ s
  refine wpAny_bind (tupleItemsOf_ ht ?_)
  refine wpAny_bind (wpAny_typeOf hTs ?_)
  rw [if_pos (by decide)]
  refine wpAny_bind (HT.ju hs pl pu ?_)
  have hyes:(((HT.sIx items.size 0 lo:Nat):Int) == 0 && (1:Int) == 1 && (HT.sIx items.size items.size hi - HT.sIx items.size 0 lo) == items.size)=true:=by
    rw [hw.1,hw.2]; simp
  show wpAny _ _ (if (((HT.sIx items.size 0 lo:Nat):Int) == 0 && (1:Int) == 1 && (HT.sIx items.size items.size hi - HT.sIx items.size 0 lo) == items.size)=true then _ else _) _ _ s
  rw [if_pos hyes]
  refine wpAny_bind (m:=Builtin.Tuple.tupleIsExact (.ref t)) (wpAny_bind (wpAny_typeOf ht.typeIs (wpAny_pure ?_)))
  rw [if_pos (by decide)]
  first
    | exact wpAny_bind (wpAny_rule (wpAny_pure ⟨_,rfl,wpAny_pure h⟩))
    | (refine wpAny_bind (wpAny_rule ?_); trace_state; exact wpAny_pure ⟨_,rfl,wpAny_pure h⟩)
end
end L2
set_option maxRecDepth 100000
set_option maxHeartbeats 4000000
namespace L2
open PySem PySem.Spec PyProof.Rows
section
variable {X:Cx} {E:XK} {a b c e:Expr} {ga gb gc:Ds→Rs PyData} {pos:Pos} {es:List Expr} {gs:Ds→Rs (List PyData)}
noncomputable def Fh (K:PySem.W.Frag):V→Option Int→Option Int→Hp→VK→Prop:=fun x lo hi H Q=>∃ a xs,x=.ref a∧SqT K H a xs∧(HT.sIx xs.length 0 lo=0∧HT.sIx xs.length xs.length hi=xs.length)∧Q (.ref a) H
theorem B9:SlR X (Fh X.K):=by
  intro pins s σ H x v vl vu lo hi sl Q I rx hs pl pu h
  obtain ⟨a,xs,rfl,hx,hw,q⟩:=h
  cases rx
  obtain ⟨its,r,ht,hz⟩:=I.tuple hx
  have hlen:its.toArray.size=xs.length:=by rw [List.size_toArray,r.length]
  refine ⟨"tuple",_,PyProof.Rows.slot_tuple_getitem.lookup,ht.typeIs,?_⟩
  exact lO ht hs pl pu (by rw [hlen]; exact hw) ⟨.ref a,H,I,rfl,q⟩
noncomputable def cutD (xs:List PyData) (lo hi:Option Int):List PyData:=(xs.drop (HT.sIx xs.length 0 lo)).take (HT.sIx xs.length xs.length hi - HT.sIx xs.length 0 lo)
noncomputable def zg:PyData→Option Int→Option Int→Option PyData
  | .list x,lo,hi=>some (.list (cutD x lo hi))
  | .tuple x,lo,hi=>some (.tuple (cutD x lo hi))
  | _,_,_=>none
noncomputable def AI:PyData→Rs (Option Int)
  | .int i=>.ok (some i)
  | _=>.no
noncomputable def cB:Ds→Rs (Option Int):=fun _=>.ok none
noncomputable def eU (g:Ds→Rs PyData):Ds→Rs (Option Int):=fun δ=>(g δ).bind AI
noncomputable def FI (E:XK) (H:Hp) (r:Rs (Option Int)) (Q:Option Int→Hp→Prop):Prop:=match r with
  | .ok o=>∀ H',aM H H'→Q o H'
  | .rz C=>∀ H',aM H H'→E (.ref C) none H'
  | .no=>False
noncomputable def oD (K:PySem.W.Frag) (E:XK) (g:Ds→Rs (Option Int)):TO:=fun σ H Q=>∃ A δ,fw K H A δ σ∧FI E H (g δ) Q
noncomputable def POD (X:Cx) (E:XK) (e:Option Expr) (g:Ds→Rs (Option Int)):Prop:=PO X e (oD X.K E g)
theorem PO.imp {e:Option Expr} {t t':TO} (h:PO X e t) (k:∀ σ H Q,t' σ H Q→t σ H Q):PO X e t':=fun pins s σ H Q I q=>h pins s σ H Q I (k σ H Q q)
theorem fX:POD X E none cB:=Cd.imp fun σ H Q qz3=>(by obtain ⟨A,δ,R,o⟩:=qz3; exact o H (aM.refl _))
theorem fN (h:PD X E e ga):POD X E (some e) (eU ga):=(Cy h).imp fun σ H Q ⟨A,δ,R,o⟩=>⟨A,δ,R,by
  unfold eU at o
  cases q:ga δ with
  | no=>rw [q] at o; exact o
  | rz C=>rw [q] at o; exact o
  | ok d =>
    rw [q] at o
    cases d with
    | int i=>exact fun v H' s h=>⟨i,h.ofInt,o H' s⟩
    | _=>exact o.elim⟩
theorem oD.run {K:PySem.W.Frag} {g:Ds→Rs (Option Int)} {σ:St} {H:Hp} {A:List Addr} {δ:Ds} {Q:Option Int→Hp→Prop} (R:fw K H A δ σ)
    (ok:∀ d,g δ=.ok d→∀ H',aM H H'→fw K H' A δ σ→Q d H') (rz:∀ C,g δ=.rz C→∀ H',aM H H'→E (.ref C) none H') (no:g δ=.no→False):oD K E g σ H Q:=by
  refine ⟨A,δ,R,?_⟩
  cases e:g δ with
  | ok d=>exact fun H' s=>ok d e H' s (R.same s)
  | rz C=>exact fun H' s=>rz C e H' s
  | no=>exact no e
noncomputable def da (g:Ds→Rs PyData) (lo hi:Ds→Rs (Option Int)):Ds→Rs PyData:=fun δ=>(g δ).bind fun d=>(lo δ).bind fun l=>(hi δ).bind fun h=>Rs.f9 (zg d l h)
theorem Iss.cut {K:PySem.W.Frag} {H:Hp} {ds:List PyData} {vs:List V} (h:Iss K H ds vs) (lo hi:Option Int):Iss K H (cutD ds lo hi) (vE vs lo hi):=by
  unfold cutD vE
  rw [h.length]
  exact (h.drop _).take _
theorem fO {lo hi:Option Expr} {gl gh:Ds→Rs (Option Int)} {p2:Pos} (he:PD X E e ga) (hl:POD X E lo gl) (hh:POD X E hi gh):PD X E (.Subscript e (.Slice lo hi none p2) pos) (da ga gl gh) :=
  (zT (Ci.or (DK.or B9)) he hl hh).imp fun σ H Q pz3=>by
    obtain ⟨A,δ,R,o⟩:=pz3
    unfold da at o
    refine eD.run R (fun d ed v H1 s1 R1 hv=>?_) (fun C et H' s'=>by rw [et] at o; exact o H' s') (fun et=>by rw [et] at o; exact o)
    simp only [ed,Rs.aj] at o
    refine oD.run R1 (fun l el H2 s2 R2=>?_) (fun C et H' s'=>by rw [et] at o; exact o H' (s1.trans s')) (fun et=>by rw [et] at o; exact o)
    simp only [el,Rs.aj] at o
    refine oD.run R2 (fun h eh H3 s3 R3=>?_) (fun C et H' s'=>by rw [et] at o; exact o H' (s1.trans (s2.trans s'))) (fun et=>by rw [et] at o; exact o)
    simp only [eh,Rs.aj] at o
    have hv3:=hv.same (s2.trans s3).del
    have s13:=s1.trans (s2.trans s3)
    cases d with
    | list ds =>
      obtain ⟨p,xs,rfl,hp,hx⟩:=hv3.ofLst
      exact .inl ⟨p,xs,rfl,SqL.of (aY _ _ hp),fun q hq=>o _ _ (s13.trans (c6 hq)) (pG R3.ls hq (hx.cut l h))⟩
    | tuple ds =>
      obtain ⟨p,xs,rfl,hp,hx⟩:=hv3.ofTup
      by_cases hw:HT.sIx xs.length 0 l=0∧HT.sIx xs.length xs.length h=xs.length
      · refine .inr (.inr ⟨p,xs,rfl,SqT.of (aY _ _ hp),hw,o _ _ s13 ?_⟩)
        have e:cutD ds l h=ds:=by
          unfold cutD
          rw [← hx.length,hw.1,hw.2]
          simp [hx.length]
        show Is X.K _ (.tuple (cutD ds l h)) _
        rw [e]
        exact l9 hp hx
      · exact .inr (.inl ⟨p,xs,rfl,SqT.of (aY _ _ hp),hw,fun q hq=>o _ _ (s13.trans (c6 hq)) (nK R3.ls hq (hx.cut l h))⟩)
    | _=>exact o.elim
noncomputable def toV:PyData→V
  | .none=>.non
  | .bool b=>.bl b
  | .int i=>.int i
  | .str x=>.str x
  | _=>.non
noncomputable def inD (x:PyData) (xs:List PyData):Bool:=inV (toV x) (xs.map toV)
noncomputable def kS (neg:Bool):PyData→PyData→Option PyData
  | x,.list xs=>if f6 x && xs.all f6 then some (.bool (if neg then !inD x xs else inD x xs)) else none
  | x,.tuple xs=>if f6 x && xs.all f6 then some (.bool (if neg then !inD x xs else inD x xs)) else none
  | _,_=>none
theorem Is.flat {K:PySem.W.Frag} {H:Hp} {d:PyData} {v:V} (h:Is K H d v) (f:f6 d=true):v=toV d∧kz v=true:=by
  cases d with
  | none=>rw [h.ofNone]; exact ⟨rfl,rfl⟩
  | bool b=>rw [h.ofBool]; exact ⟨rfl,rfl⟩
  | int i=>rw [h.ofInt]; exact ⟨rfl,rfl⟩
  | str x=>rw [h.ofStr]; exact ⟨rfl,rfl⟩
  | _=>cases f
theorem Iss.flat {K:PySem.W.Frag} {H:Hp}:∀ {ds:List PyData} {vs:List V},Iss K H ds vs→ds.all f6=true→vs=ds.map toV∧vs.all kz=true
  | [],_,h,_=>by rw [h.nil_of]; exact ⟨rfl,rfl⟩
  | d::ds,_,h,f=>by
    rw [List.all_cons,Bool.and_eq_true] at f
    obtain ⟨v,r,rfl,h1,h2⟩:=h.cons_of
    obtain ⟨e1,f1⟩:=h1.flat f.1
    obtain ⟨e2,f2⟩:=Iss.flat h2 f.2
    exact ⟨by rw [e1,e2]; rfl,by rw [List.all_cons,f1,f2]; rfl⟩
theorem AK {K:PySem.W.Frag} {neg:Bool}:OpD K (kS neg) (rIn K neg):=fun d1 d2 d x y H A Q e hA h1 h2 k=>by
  unfold kS at e
  split at e
  · split at e
    · rename_i z
      rw [Bool.and_eq_true] at z
      cases e
      obtain ⟨p,xs,rfl,hp,hx⟩:=h2.ofLst
      obtain ⟨e1,f1⟩:=h1.flat z.1
      obtain ⟨e2,f2⟩:=hx.flat z.2
      refine ⟨p,xs,rfl,.inl (SqL.of (aY _ _ hp)),f1,f2,?_⟩
      rw [e1,e2]
      exact k _ H (aM.refl _) is_bool
    · cases e
  · split at e
    · rename_i z
      rw [Bool.and_eq_true] at z
      cases e
      obtain ⟨p,xs,rfl,hp,hx⟩:=h2.ofTup
      obtain ⟨e1,f1⟩:=h1.flat z.1
      obtain ⟨e2,f2⟩:=hx.flat z.2
      refine ⟨p,xs,rfl,.inr (SqT.of (aY _ _ hp)),f1,f2,?_⟩
      rw [e1,e2]
      exact k _ H (aM.refl _) is_bool
    · cases e
  · cases e
theorem EC (ha:PD X E a ga) (hb:PD X E b gb) (hm:behindInMarks .In b=false:=by with_unfolding_all rfl):PD X E (.Compare a [.In] [b] pos) (g2 (kS false) ga gb):=jl AK ha hb fun h1 h2=>pC zt h1 h2 hm
theorem sr (ha:PD X E a ga) (hb:PD X E b gb) (hm:behindInMarks .NotIn b=false:=by with_unfolding_all rfl):PCD X E (.Compare a [.NotIn] [b] pos) (gT (g2 (kS true) ga gb)):=kg AK ha hb fun h1 h2=>i4 sE h1 h2 hm
noncomputable def n6 (f f':PyData→PyData→Option PyData) (a b c:Ds→Rs PyData):Ds→Rs PyData:=fun δ=>(a δ).bind fun x=>(b δ).bind fun y=>(Rs.f9 (f x y)).bind fun z=>(truth z).bind fun t=>if t=true then (c δ).bind fun w=>Rs.f9 (f' y w) else .ok (.bool false)
theorem Aj {op op':CmpOp} {r r':R2} {f f':PyData→PyData→Option PyData} (ho:OpR X (compareOp op) r) (ho':OpR X (compareOp op') r') (hf:OpD X.K f r) (hf':OpD X.K f' r') (ha:PD X E a ga) (hb:PD X E b gb) (hc:PD X E c gc)
    (hm:lastMarks [op,op'] [b,c]=false:=by with_unfolding_all rfl):PD X E (.Compare a [op,op'] [b,c] pos) (n6 f f' ga gb gc):=(Ar ho ho' ha hb hc hm).imp fun σ H Q pz3=>by
  obtain ⟨A,δ,R,o⟩:=pz3
  unfold n6 at o
  refine eD.run R (fun d1 e1 v H1 s1 R1 h1=>?_) (fun C et H' s'=>by rw [et] at o; exact o H' s') (fun et=>by rw [et] at o; exact o)
  simp only [e1,Rs.aj] at o
  refine eD.run R1 (fun d2 e2 u H2 s2 R2 h2=>?_) (fun C et H' s'=>by rw [et] at o; exact o H' (s1.trans s')) (fun et=>by rw [et] at o; exact o)
  simp only [e2,Rs.aj] at o
  cases e3:f d1 d2 with
  | none=>rw [e3] at o; exact o.elim
  | some z =>
    simp only [e3,Rs.aq,Rs.aj] at o
    refine hf d1 d2 z v u H2 A _ e3 R2.ls (h1.same s2.del) h2 fun w H3 s3 h3=>?_
    obtain ⟨t,rfl,o⟩:=p0 o
    refine ⟨t,h3.ofBool,?_⟩
    cases t with
    | false=>exact o _ H3 (s1.trans (s2.trans s3)) is_bool
    | true =>
      have o:jj X.K E A H ((gc δ).bind fun w=>Rs.f9 (f' d2 w)) Q:=o
      refine eD.run (R2.same s3) (fun d3 e4 w' H4 s4 R4 h4=>?_) (fun C et H' s'=>by rw [et] at o; exact o H' (s1.trans (s2.trans (s3.trans s')))) (fun et=>by rw [et] at o; exact o)
      simp only [e4,Rs.aj] at o
      cases e5:f' d2 d3 with
      | none=>rw [e5] at o; exact o.elim
      | some d=>rw [e5] at o; exact hf' d2 d3 d u w' H4 A Q e5 R4.ls (h2.same (s3.trans s4).del) h4 fun x H5 s5 h5=>o x H5 (s1.trans (s2.trans (s3.trans (s4.trans s5)))) h5
theorem xN (ha:PD X E a ga) (hb:PD X E b gb) (hc:PD X E c gc) (hm:lastMarks [.LtE,.LtE] [b,c]=false:=by with_unfolding_all rfl):PD X E (.Compare a [.LtE,.LtE] [b,c] pos) (n6 dLe dLe ga gb gc):=Aj xG xG (j4 fun _ _ _ _=>is_bool) (j4 fun _ _ _ _=>is_bool) ha hb hc hm
end
noncomputable def Itc (lo c:Int) (n:Nat):It:=⟨fun i _=>i < n,fun i H x H'=>H'=H∧x=.int (lo + i * c),fun i _=>n≤i⟩
theorem u5 {P:Program} {w:World} {K:PySem.W.Frag} {tg:Expr} (it:Addr) (lo c:Int) (n:Nat):Turn P w K tg (Itc lo c n) [it] it (fun i h=>IsRangeIter h it (lo + (i:Nat) * c) ((n:Int) - (i:Nat)) c) where
  mem:=by simp
  obj:=fun i h st b hb=>by
    have e:b=it:=by simpa using hb
    subst e
    exact ⟨_,st,fun v z=>by
      have z':Data.fields _=Data.cell v:=z
      cases z'⟩
  keep:=fun i h h' st k=>k it (by simp) _ st
  item:=by
    intro X hP hw hK hc i pins s σ H E I hf st hg
    subst hP hw hK
    obtain ⟨f0,f1,f2,f3,f4,f5⟩:=hf it (by simp)
    have W:=Walks.range (prog:=X.prog) (w:=X.w) (I.ok.hd hc) it lo c n
    refine W.item i s _ _ hg st fun v h' tk hv st' kk=>?_
    obtain ⟨t,rfl⟩:=hv
    have I1:Inv X pins σ H { s with heap:=h',toks:=tk }:=I.turned (fun b o hb e=>kk b o (by simpa using hb) e) f0 f1 f3 f4 f5
    exact ⟨_,rfl,xU (s:={ s with heap:=h',toks:=tk }) (n:="range_iterator") st' rfl rfl (by decide) ⟨.int (lo + i * c),H,I1,⟨t,rfl⟩,⟨rfl,rfl⟩,st',fun b hb=>(hf b hb).1⟩⟩
  done:=by
    intro X hP hw hK hc i pins s σ H E I hf st hg
    subst hP hw hK
    obtain ⟨f0,f1,f2,f3,f4,f5⟩:=hf it (by simp)
    exact wpAny_pyNext_range_end (I.ok.hd hc) st (by have:n≤i:=hg; omega) fun h' eb=>⟨rfl,I.turned (t':=s.toks) (fun b o hb e=>eb b o hb e) f0 f1 f3 f4 f5⟩
  self:=fun _ _ _ _ _ st h=>wpAny_pyIter_rangeiter st h
section
variable {X:Cx} {E:XK} {tg a b c:Expr} {pos:Pos} {gs:Ds→Rs (List PyData)}
noncomputable def wz (i j c:Int):Nat:=(Builtin.Range.rangeSize i j c).toNat
theorem tF (a b c:Int):0≤Builtin.Range.rangeSize a b c:=by
  unfold Builtin.Range.rangeSize
  split
  · split
    · rename_i h1 h2
      have:0≤(b - a - 1) / c:=Int.ediv_nonneg (by omega) (by omega)
      omega
    · omega
  · split
    · rename_i h1 h2
      by_cases hc:c=0
      · subst hc; simp
      · have:0≤(a - b - 1) / (-c):=Int.ediv_nonneg (by omega) (by omega)
        omega
    · omega
noncomputable def qF (i j c:Int):Bool:=decide (-(1000000)≤i∧i≤1000000∧-(1000000)≤j∧j≤1000000∧-(1000000)≤c∧c≤1000000∧c≠0) && Builtin.Range.small i j c
noncomputable def EZ (ta:TA):TI:=fun σ H R=>ta σ H fun vs H1=>∃ i j c:Int,vs=[.int i,.int j,.int c]∧qF i j c=true∧R (Itc i c (wz i j c)) H1
theorem zu {ta:TA} {p:Pos} (hg:Gl X "range") (hm:X.mg "range"=none) (ha:PA X [a,b,c] ta) (hs:starEach [a,b,c] X.env=[(false,eval a X.env),(false,eval b X.env),(false,eval c X.env)]:=by rfl) (hs2:starEach [b,c] X.env=[(false,eval b X.env),(false,eval c X.env)]:=by rfl) :
    PI X tg (.Call (.Name "range" p) [a,b,c] [] pos) (EZ ta):=by
  intro pins s σ H R I h
  refine Call_ (gU I hg hm boot_range (PyProof.Rows.callWith_type1 (thn (ha pos pins s σ H _ I h) fun us s1 rz2=>?_) (by rw [hs,hs2]) (by rw [hs2]; rfl)))
  obtain ⟨vs,H1,I1,r1,q1⟩:=rz2
  obtain ⟨i,j,c,e,q1,q⟩:=q1
  subst e
  unfold qF at q1
  rw [Bool.and_eq_true] at q1
  have q2:=of_decide_eq_true q1.1
  cases r1 with
  | cons r rr =>
    cases rr with
    | cons r' rr =>
      cases rr with
      | cons r'' rr =>
        cases rr
        obtain ⟨t,rfl⟩:=r
        obtain ⟨t',rfl⟩:=r'
        obtain ⟨t'',rfl⟩:=r''
        refine PySem.call_range_3 q2.2.2.2.2.2.2 ?_ (.inl (PyProof.noPylong_small (by omega)))
        refine wpAny_pyIter_range (IsRange.new ..) q1.2 ?_
        have I2:Inv X pins σ H1 { s1 with heap:=s1.heap.push { cls:=.type "range",data:=.fields #[.int i t,.int j t',.int c t''] },toks:=s1.toks }:=I1.kept fun b o e=>Heap.get?_push_of_some _ e
        refine ⟨(s1.heap.push { cls:=.type "range",data:=.fields #[.int i t,.int j t',.int c t''] }).objs.size,[(s1.heap.push { cls:=.type "range",data:=.fields #[.int i t,.int j t',.int c t''] }).objs.size],_,_,H1,rfl,
          I2.kept (t':=s1.toks) fun b o e=>Heap.get?_push_of_some _ e,u5 _ i c (wz i j c),?_,fun b hb=>?_,q⟩
        · have e1:i + ((0:Nat):Int) * c=i:=by simp
          have e2:((wz i j c:Nat):Int) - ((0:Nat):Int)=Builtin.Range.rangeSize i j c:=by
            have:=tF i j c
            unfold wz; omega
          show IsRangeIter _ _ (i + ((0:Nat):Int) * c) (((wz i j c:Nat):Int) - ((0:Nat):Int)) c
          rw [e1,e2]
          exact Heap.get?_push_size _ rfl
        · have e:b=(s1.heap.push { cls:=.type "range",data:=.fields #[.int i t,.int j t',.int c t''] }).objs.size:=by simpa using hb
          subst e
          exact I2.fpOk (Nat.le_refl _) (I2.hok.fresh (Nat.le_refl _))
noncomputable def iP (lo c:Int) (n:Nat):List PyData:=(List.range n).map fun (i:Nat)=>PyData.int (lo + (i:Int) * c)
theorem iJ (lo c:Int) (n:Nat):(iP lo c n).length=n:=by simp [iP]
theorem vM {K:PySem.W.Frag} {G:Hp} {lo c:Int} {n:Nat}:yV K (Itc lo c n) (iP lo c n) G:=fun H1 B s _ hB=>by
  refine ⟨fun i hi=>by rw [iJ] at hi; exact hi,by rw [iJ]; exact Nat.le_refl _,fun i x H2 hi y=>?_⟩
  obtain ⟨rfl,rfl⟩:=y
  rw [iJ] at hi
  exact ⟨aM.refl _,_,by simp [iP,hi],cT⟩
noncomputable def zZ:List PyData→Rs (List PyData)
  | [.int i,.int j,.int c]=>if qF i j c then .ok (iP i c (wz i j c)) else .no
  | _=>.no
noncomputable def xB (g:Ds→Rs (List PyData)):Ds→Rs (List PyData):=fun δ=>(g δ).bind zZ
theorem FJ {K:PySem.W.Frag} {H:Hp} {d e f:PyData} {vs:List V} (h:Iss K H [d,e,f] vs):∃ v u w,vs=[v,u,w]∧Is K H d v∧Is K H e u∧Is K H f w:=by
  obtain ⟨v,r,rfl,h1,h2⟩:=h.cons_of
  obtain ⟨u,w,rfl,h3,h4⟩:=Bz h2
  exact ⟨v,u,w,rfl,h1,h3,h4⟩
theorem wW {p:Pos} (hm:X.mg "range"=none) (ha:PAD X E [a,b,c] gs) (hg:Gl X "range":=by rfl) (hs:starEach [a,b,c] X.env=[(false,eval a X.env),(false,eval b X.env),(false,eval c X.env)]:=by rfl) (hs2:starEach [b,c] X.env=[(false,eval b X.env),(false,eval c X.env)]:=by rfl) :
    PID X E tg (.Call (.Name "range" p) [a,b,c] [] pos) (xB gs):=(zu hg hm ha.1 hs hs2).imp fun σ H R ⟨A,δ,Rp,o⟩=>tm Rp o fun ds vs H1 e s1 R1 h1 o=>by
  unfold zZ at o
  split at o
  · split at o
    · rename_i z
      obtain ⟨v,u,w,rfl,h,h',h''⟩:=FJ h1
      rw [h.ofInt,h'.ofInt,h''.ofInt]
      exact ⟨_,_,_,rfl,z,o _ H1 (aM.refl _) vM⟩
    · exact o.elim
  · exact o.elim
noncomputable def tLR (ta:TA):TE:=fun σ H Q=>ta σ H fun vs H1=>∃ j:Int,vs=[.int j]∧0≤j∧j≤1000000∧∀ p,H1 p=none→Q (.ref p) (upd H1 p (.lst ((List.range j.toNat).map fun (i:Nat)=>V.int (i:Int))))
theorem Ea {pins:List (Addr × Obj)} {σ:St} {H1:Hp} {s2:Shared} {Q:VK} {j:Int} {h':Heap} {tk:Nat} {acc':Array Value} {c':Nat} (I2:Inv X pins σ H1 s2) (kk:∀ b o,s2.heap.get? b=some o→h'.get? b=some o)
    (hl:h'.get? s2.heap.objs.size=some { cls:=.type "list",dict:=none,data:=.seq acc' c',slots:=#[] }) (hi:ItemsOf (fun i v=>∃ t,v=.int ((0:Int) + (i:Int) * 1) t) acc' j.toNat) (q1:0≤j) (q2:j≤1000000)
    (q:∀ p,H1 p=none→Q (.ref p) (upd H1 p (.lst ((List.range j.toNat).map fun (i:Nat)=>V.int (i:Int))))):EP X pins σ Q (.ref s2.heap.objs.size) { s2 with heap:=h',toks:=tk }:=by
    have hv:Vals ((List.range j.toNat).map fun (i:Nat)=>V.int (i:Int)) acc'.toList:=by
      have aux:∀ (l:List Value) (k:Nat),(∀ (m:Nat) v,l[m]?=some v→∃ t,v=.int ((0:Int) + ((k + m:Nat):Int) * 1) t)→Vals ((List.range' k l.length).map fun (i:Nat)=>V.int (i:Int)) l:=by
        intro l
        induction l with
        | nil=>intro k _; exact .nil
        | cons x r ih =>
          intro k hk
          rw [List.length_cons,List.range'_succ,List.map_cons]
          refine .cons ?_ (ih (k + 1) fun m v hm=>?_)
          · obtain ⟨t,e⟩:=hk 0 x rfl
            exact ⟨t,by rw [e]; simp⟩
          · obtain ⟨t,e⟩:=hk (m + 1) v (by simpa using hm)
            exact ⟨t,by rw [e,show k + (m + 1)=k + 1 + m by omega]⟩
      have h1:=aux acc'.toList 0 (fun m v hm=>by
        obtain ⟨t,e⟩:=hi.2 m v (by rw [← Array.getElem?_toList]; exact hm)
        exact ⟨t,by rw [e]; simp⟩)
      rw [Array.length_toList,hi.1] at h1
      rw [List.range_eq_range']
      exact h1
    exact ⟨.ref s2.heap.objs.size,_,I2.laid (t':=tk) kk (Nat.le_refl _) (show gr X.prog X.w _ h' _ (.lst ((List.range j.toNat).map fun (i:Nat)=>V.int (i:Int))) from ⟨by rw [List.length_map,List.length_range,sizeLine_eq]; omega,acc'.toList,c',hv,by simpa using hl⟩),rfl,q _ (I2.hok.fresh (Nat.le_refl _))⟩
theorem t9 {ta:TA} {p p2 pos2:Pos} (hc:X.calm=true) (hg:Gl X "range") (hm:X.mg "range"=none) (hgl:Gl X "list") (hml:X.mg "list"=none) (ha:PA X [a] ta) (hs:starEach [a] X.env=[(false,eval a X.env)]:=by rfl)
    (hs2:starEach [.Call (.Name "range" p) [a] [] pos] X.env=[(false,eval (.Call (.Name "range" p) [a] [] pos) X.env)]:=by rfl) :
    PE X (.Call (.Name "list" p2) [.Call (.Name "range" p) [a] [] pos] [] pos2) (tLR ta):=by
  intro pins s σ H Q I h
  refine Call_ (gU I hgl hml BY (PyProof.Rows.callWith_type1 ?_ hs2 rfl))
  rw [hs2]
  show wpAny _ _ (spliced ((false,eval (.Call (.Name "range" p) [a] [] pos) X.env)::backTo pos2 [])) _ _ s
  refine Calls.spliced_cons (Call_ (gU I hg hm boot_range (PyProof.Rows.callWith_type1 (thn (ha pos pins s σ H _ I h) fun us s1 rz2=>?_) hs rfl)))
  obtain ⟨vs,H1,I1,r1,q1⟩:=rz2
  obtain ⟨j,e,q1,q2,q⟩:=q1
  subst e
  cases r1 with
  | cons r rr =>
    cases rr
    obtain ⟨t,rfl⟩:=r
    refine call_range_1 (Calls.spliced_nil ?_)
    have e2:Builtin.Range.rangeSize 0 j 1=((j.toNat:Nat):Int):=by rw [rangeSize_one]; split <;> omega
    refine call_list_range (n:=j.toNat) (I1.ok.hd hc) (IsRange.new ..) (small_one (by omega) (by omega) (by omega) (by omega)) e2 (by omega) fun h' tk acc' c' kk hl hi=>?_
    exact Ea (I1.kept fun b o e=>Heap.get?_push_of_some _ e) kk hl hi q1 q2 q
noncomputable def tL:List PyData→Rs (List PyData)
  | [.int j]=>if 0≤j∧j≤1000000 then .ok (cn 0 j.toNat) else .no
  | _=>.no
noncomputable def gLR (g:Ds→Rs (List PyData)):Ds→Rs (List PyData):=fun δ=>(g δ).bind tL
theorem yD {p p2 pos2:Pos} (hc:X.calm=true) (hm:X.mg "range"=none) (hml:X.mg "list"=none) (ha:PAD X E [a] gs) (hg:Gl X "range":=by rfl) (hgl:Gl X "list":=by rfl) (hs:starEach [a] X.env=[(false,eval a X.env)]:=by rfl)
    (hs2:starEach [.Call (.Name "range" p) [a] [] pos] X.env=[(false,eval (.Call (.Name "range" p) [a] [] pos) X.env)]:=by rfl):PLD X E (.Call (.Name "list" p2) [.Call (.Name "range" p) [a] [] pos] [] pos2) (gLR gs) :=
  (t9 hc hg hm hgl hml ha.1 hs hs2).imp fun σ H Q pz3=>by
    obtain ⟨A,δ,R,o⟩:=pz3
    unfold gLR at o
    refine aD.run R (fun ds e vs H1 s1 R1 h1=>?_) (fun C e H' s'=>by rw [e] at o; exact o H' s') (fun e=>by rw [e] at o; exact o)
    simp only [e,Rs.aj] at o
    unfold tL at o
    split at o
    · split at o
      · rename_i j z
        obtain ⟨v,rfl,h⟩:=nI h1
        rw [h.ofInt]
        refine ⟨j,rfl,z.1,z.2,fun q hq=>o q _ _ (s1.free hq) (s1.trans (c6 hq)) cp ?_⟩
        have:cn 0 j.toNat=((List.range j.toNat).map fun (i:Nat)=>(i:Int)).map PyData.int:=by
          unfold cn; rw [List.map_map]; congr 1; funext i; simp
        rw [this,show ((List.range j.toNat).map fun (i:Nat)=>V.int (i:Int))=((List.range j.toNat).map fun (i:Nat)=>(i:Int)).map V.int by rw [List.map_map]; rfl]
        exact uK _
      · exact o.elim
    · exact o.elim
end
end L2
set_option maxRecDepth 100000
set_option maxHeartbeats 4000000
namespace L2
open PySem PySem.Spec PyProof.Rows
theorem vQ (t:Addr) (xs:Array Value):Meets (Builtin.«enumerate.__new__» ⟨[.type "enumerate",.ref t],[]⟩) (fun _ R s=>s.heap.IsTuple t xs ∧
      R (.ok (.ret (.ref (s.heap.push { cls:=.type "tuple_iterator",data:=.fields #[.ref t,.int 0 0] }).objs.size)))
        { s with heap:=(s.heap.push { cls:=.type "tuple_iterator",data:=.fields #[.ref t,.int 0 0] }).push { cls:=.type "enumerate",data:=.fields #[.none,.bool false,.ref s.heap.objs.size,rawInt 0,.none,.none] } }) :=
  .of_wp fun prog w A R s h=>by
    obtain ⟨hp,g,d,tk,os⟩:=s; obtain ⟨hl,h⟩:=h
    have hsub:=sub_enumerate
    have hL:Heap.IsTuple (Shared.heap ⟨hp,g,d,tk,os⟩) t xs:=hl
    wp_walk
    refine wpAny_stack_any fun st=>wpAny_pure ?_
    split
    · rename_i c _ _ _ _ _
      cases (c == Value.type "enumerate")
      · wp_walk using wpAny_pyIter_tuple hL
        exact ⟨_,rfl,h⟩
      · wp_walk using wpAny_pyIter_tuple hL
        exact ⟨_,rfl,h⟩
    · wp_walk using wpAny_pyIter_tuple hL
      exact ⟨_,rfl,h⟩
theorem v3 {prog:Program} {w:World} {A:Around} {E:Value→Shared→Prop} {s:Shared} {l:Addr} {items:Array Value} {Q:Value→Shared→Prop} (hL:s.heap.IsTuple l items)
    (h:∀ h',IsEnum h' (s.heap.objs.size + 1) s.heap.objs.size 0 .none→h'.IsTupleIter s.heap.objs.size l 0→(∀ b o,s.heap.get? b=some o→h'.get? b=some o)→Q (.ref (s.heap.objs.size + 1)) { s with heap:=h' }) :
    wpAny (model prog w) A (call (.type "enumerate") [.ref l]) Q E s:=by
  refine callType_new PySem.F.called_enumerate (by decide) (PySem.F.typeCall_enumerate_1 _) (PySem.F.newCall_enumerate_1 _) (fun obj=>PySem.F.args_object_init_2 obj _) PySem.F.entry_enumerate_new (vQ l items) ⟨hL,?_⟩
  have hz:(s.heap.push { cls:=.type "tuple_iterator",data:=.fields #[.ref l,.int 0 0] }).objs.size=s.heap.objs.size + 1:=Heap.size_push ..
  show _∧_
  rw [hz]
  have he:IsEnum ((s.heap.push { cls:=.type "tuple_iterator",data:=.fields #[.ref l,.int 0 0] }).push
      { cls:=.type "enumerate",data:=.fields #[.none,.bool false,.ref s.heap.objs.size,rawInt 0,.none,.none] }) (s.heap.objs.size + 1) s.heap.objs.size 0 .none:=by
    have:=Heap.get?_push_size (s.heap.push { cls:=.type "tuple_iterator",data:=.fields #[.ref l,.int 0 0] })
      (o:={ cls:=.type "enumerate",data:=.fields #[.none,.bool false,.ref s.heap.objs.size,rawInt 0,.none,.none] }) rfl
    rw [hz] at this
    exact this
  refine ⟨⟨_,he,rfl⟩,h _ he ⟨_,Heap.get?_push_of_some _ (Heap.get?_push_size _ rfl),rfl,rfl⟩ fun b o e=>Heap.get?_push_of_some _ (Heap.get?_push_of_some _ e)⟩
noncomputable def Ite (P:Hp→List V→Prop) (n:Nat):It :=
  ⟨fun i H=>i < n∧∃ xs,P H xs∧xs.length=n,
   fun i H v H'=>∃ t x,v=.ref t∧H t=none∧H'=upd H t (.tup [.int i,x])∧∀ xs,P H xs→xs[i]?=some x,
   fun i H=>i=n∧∃ xs,P H xs∧xs.length=n⟩
theorem sk {P:Program} {w:World} {K:PySem.W.Frag} {elts:List Expr} {x1:Nat} {tp:Pos} {a e it:Addr} {n:Nat} {Pv:Hp→List V→Prop} {S:Nat→Heap→Prop} {B:Heap→Array Value→Prop} (hne:e≠it) (hea:e≠a)
    (hD:∀ (A:Around),A.handled=none→∀ its:Array Value,Draws P w A it [it,a] its.size (fun i v=>its[i]?=some v) (fun i h=>S i h∧B h its))
    (hB:∀ (X:Cx),X.prog=P→X.w=w→X.K=K→∀ {pins:List (Addr × Obj)} {s:Shared} {σ:St} {H:Hp} {xs:List V},Inv X pins σ H s→Pv H xs→∃ its:List Value,Vals xs its∧B s.heap its.toArray)
    (hI:∀ (X:Cx),X.prog=P→X.w=w→X.K=K→∀ {pins:List (Addr × Obj)} {s:Shared} {σ:St} {H:Hp} {xs ys:List V},Inv X pins σ H s→Pv H xs→Pv H ys→xs=ys)
    (hO:∀ i h,S i h→∃ o,h.get? it=some o∧∀ v,o.data≠.cell v) (hK:∀ i h h',S i h→(∀ o,h.get? it=some o→h'.get? it=some o)→S i h') :
    Turn P w K (.Tuple elts x1 tp) (Ite Pv n) [e,it] e (fun i h=>(∃ old,IsEnum h e it i old)∧S i h) where
  mem:=by simp
  obj:=fun i h st c hc=>by
    obtain ⟨⟨old,h1⟩,h2⟩:=st
    simp only [List.mem_cons,List.not_mem_nil,or_false] at hc
    rcases hc with rfl | rfl
    · exact ⟨_,h1,fun v q=>by cases q⟩
    · exact hO i h h2
  keep:=fun i h h' st k=>by
    obtain ⟨⟨old,h1⟩,h2⟩:=st
    exact ⟨⟨old,k e (by simp) _ h1⟩,hK i h h' h2 fun o q=>k it (by simp) o q⟩
  item:=by
    intro X hP hw hKK hc i pins s σ H E I hf st hg
    subst hP hw hKK
    obtain ⟨hi,xs,hx,lx⟩:=hg
    obtain ⟨⟨old,h1⟩,h2⟩:=st
    obtain ⟨its,rv,hb⟩:=hB X rfl rfl rfl I hx
    have la:=rv.length
    refine wpAny_pyNext_enum_itemD (hD X.A.in1 (I.ok.hd hc) its.toArray) h1 ⟨h2,hb⟩ (by simp; omega) hne (by simp [hne,hea]) fun x h' tk px ho hs hT hsz hk=>⟨_,rfl,?_⟩
    refine wpAny_letOwnedTupleGo_enum (s:={ s with heap:=h',toks:=tk + 1 }) ho fun h2' d1 d2=>?_
    have el:e < s.heap.objs.size:=Heap.lt_size h1
    have il:it < s.heap.objs.size:=by obtain ⟨o,q,_⟩:=hO i _ h2; exact Heap.lt_size q
    have up:∀ c o,c≠e→h'.get? c=some o→h2'.get? c=some o:=fun c o hc q=>(d2.2 c hc).trans q
    obtain ⟨x0,ex,rx⟩:∃ x0,xs[i]?=some x0∧RelV x0 x:=by
      have hil:i < xs.length:=by omega
      obtain ⟨u',e1,e2⟩:=rv.get (List.getElem?_eq_getElem hil)
      refine ⟨xs[i],List.getElem?_eq_getElem hil,?_⟩
      have px':its[i]?=some x:=by simpa using px
      rw [e1] at px'; cases px'; exact e2
    have fr:H s.heap.objs.size=none:=I.hok.fresh (Nat.le_refl _)
    refine ⟨.ref s.heap.objs.size,upd H s.heap.objs.size (.tup [.int i,x0]),?_,rfl,⟨_,x0,rfl,fr,rfl,fun ys h=>by rw [hI X rfl rfl rfl I h hx]; exact ex⟩,?_,fun c hc'=>?_⟩
    · refine I.turnLay (t':=tk + 1) (ch:=[e,it]) hf (Nat.le_refl _) (fun c o hn q=>?_) ⟨by show 2≤sizeLine; decide,[.int i tk,x],.cons ⟨tk,rfl⟩ (.cons rx .nil),⟨_,up _ _ (Nat.ne_of_gt el) hT,rfl,rfl,_,rfl⟩⟩
      simp only [List.mem_cons,List.not_mem_nil,or_false,not_or] at hn
      exact up c o hn.1 (hk c o hn.1 hn.2 q)
    · exact ⟨⟨x,by simpa using d1⟩,hK _ _ _ hs.1 fun o q=>up it o hne.symm q⟩
    · have h0:=(hf c hc').1
      simp only [List.mem_cons,List.not_mem_nil,or_false] at hc'
      rcases hc' with rfl | rfl
      · rw [bx (Nat.ne_of_lt el)]; exact h0
      · rw [bx (Nat.ne_of_lt il)]; exact h0
  done:=by
    intro X hP hw hKK hc i pins s σ H E I hf st hg
    subst hP hw hKK
    obtain ⟨hi,xs,hx,lx⟩:=hg
    obtain ⟨⟨old,h1⟩,h2⟩:=st
    obtain ⟨its,rv,hb⟩:=hB X rfl rfl rfl I hx
    have la:=rv.length
    have e':its.toArray.size=i:=by simp; omega
    refine wpAny_pyNext_enum_endD (hD X.A.in1 (I.ok.hd hc) its.toArray) h1 ⟨by rw [e']; exact h2,hb⟩ fun h' k=>⟨rfl,?_⟩
    refine I.turneds (t':=s.toks) (ch:=[e,it]) hf fun c o hn q=>?_
    simp only [List.mem_cons,List.not_mem_nil,or_false,not_or] at hn
    exact k c o hn.2 q
  self:=fun _ _ _ _ _ st h=>by
    obtain ⟨⟨old,h1⟩,_⟩:=st
    exact wpAny_pyIter_enum h1 h
theorem BK:bootBuiltins "enumerate"=some (.type "enumerate"):=by decide +kernel
noncomputable def EH (K:PySem.W.Frag) (ta:TA):TI:=fun σ H R=>ta σ H fun vs H1=>∃ a xs,vs=[.ref a]∧((SqT K H1 a xs∧R (Ite (fun H ys=>SqT K H a ys) xs.length) H1)∨(SqL K H1 a xs∧R (Ite (fun H ys=>SqL K H a ys) xs.length) H1))
theorem BD {X:Cx} {elts:List Expr} {x1:Nat} {tp:Pos} {a:Expr} {ta:TA} {p pos:Pos} (hg:Gl X "enumerate") (hm:X.mg "enumerate"=none) (ha:PA X [a] ta) (hs:starEach [a] X.env=[(false,eval a X.env)]:=by rfl) :
    PI X (.Tuple elts x1 tp) (.Call (.Name "enumerate" p) [a] [] pos) (EH X.K ta):=by
  intro pins s σ H R I h
  refine Call_ (gU I hg hm BK (PyProof.Rows.callWith_type1 (thn (ha pos pins s σ H _ I h) fun us s1 rz2=>?_) hs rfl))
  obtain ⟨vs,H1,I1,r1,q1⟩:=rz2
  obtain ⟨aa,xs,e,q⟩:=q1
  subst e
  obtain ⟨u1,e1,r2⟩:=vals1 r1
  subst e1
  cases r2
  have big:∀ c∈[s1.heap.objs.size + 1,s1.heap.objs.size],s1.heap.objs.size≤c:=fun c hc=>by
    simp only [List.mem_cons,List.not_mem_nil,or_false] at hc
    rcases hc with rfl | rfl
    · exact Nat.le_succ _
    · exact Nat.le_refl _
  have nes:s1.heap.objs.size + 1≠s1.heap.objs.size:=Nat.succ_ne_self _
  rcases q with ⟨hx,q⟩ | ⟨hx,q⟩
  · obtain ⟨its,rv,pt,_⟩:=I1.tuple hx
    have pt':s1.heap.IsTuple aa its.toArray:=pt
    have al:aa < s1.heap.objs.size:=by obtain ⟨_,g,_⟩:=pt'; exact Heap.lt_size g
    refine v3 pt' fun h' he hit kk=>wpAny_pyIter_enum he ?_
    have I2:Inv X pins σ H1 { s1 with heap:=h' }:=I1.kept (t':=s1.toks) kk
    refine ⟨_,_,_,_,H1,rfl,I2,sk (a:=aa) (S:=fun i h=>h.IsTupleIter s1.heap.objs.size aa i) (B:=fun h its=>h.IsTuple aa its) nes (Nat.ne_of_gt (Nat.lt_succ_of_lt al)) (fun A hh its=>yN hh s1.heap.objs.size aa (Nat.ne_of_lt al) its)
      (fun X' _ _ hK {_ _ _ _ _} I h=>?_) (fun X' _ _ hK {_ _ _ _ _ _} I h1 h2=>?_) (fun i h st=>?_) (fun i h h'' st k=>?_),⟨⟨_,he⟩,hit⟩,fun c hc=>I1.fpOk (big c hc) (I1.hok.fresh (big c hc)),q⟩
    · rw [← hK] at h
      obtain ⟨its,rv,p,_⟩:=I.tuple h
      exact ⟨its,rv,p⟩
    · rw [← hK] at h1 h2
      exact I.tuple_inj h1 h2
    · obtain ⟨o,g,_,d⟩:=st
      exact ⟨o,g,fun v q=>by rw [d] at q; cases q⟩
    · obtain ⟨o,g,r⟩:=st
      exact ⟨o,k o g,r⟩
  · obtain ⟨its,rv,pl,_⟩:=I1.list hx
    have al:aa < s1.heap.objs.size:=by obtain ⟨_,_,g,_⟩:=pl; exact Heap.lt_size g
    refine call_enumerate_list pl.isList fun h' he hit hz kk=>wpAny_pyIter_enum he ?_
    have I2:Inv X pins σ H1 { s1 with heap:=h' }:=I1.kept (t':=s1.toks) kk
    refine ⟨_,_,_,_,H1,rfl,I2,sk (a:=aa) (S:=fun i h=>h.IsListIter s1.heap.objs.size aa i) (B:=fun h its=>h.IsList aa its) nes (Nat.ne_of_gt (Nat.lt_succ_of_lt al)) (fun A hh its=>Draws.list hh s1.heap.objs.size aa (Nat.ne_of_lt al) its)
      (fun X' _ _ hK {_ _ _ _ _} I h=>?_) (fun X' _ _ hK {_ _ _ _ _ _} I h1 h2=>?_) (fun i h st=>?_) (fun i h h'' st k=>?_),⟨⟨_,he⟩,hit⟩,fun c hc=>I1.fpOk (big c hc) (I1.hok.fresh (big c hc)),q⟩
    · rw [← hK] at h
      obtain ⟨its,rv,p,_⟩:=I.list h
      exact ⟨its,rv,p.isList⟩
    · rw [← hK] at h1 h2
      exact I.list_inj h1 h2
    · obtain ⟨o,g,_,d⟩:=st
      exact ⟨o,g,fun v q=>by rw [d] at q; cases q⟩
    · obtain ⟨o,g,r⟩:=st
      exact ⟨o,k o g,r⟩
noncomputable def lZ (ds:List PyData):List PyData:=ds.mapIdx fun i d=>.tuple [.int i,d]
theorem yZ (ds:List PyData):(lZ ds).length=ds.length:=by simp [lZ]
theorem sv {K:PySem.W.Frag} {G:Hp} {Pv:Hp→List V→Prop} {xs:List V} {ds:List PyData} (h:Iss K G ds xs) (hp:∀ H1,aM G H1→Pv H1 xs):yV K (Ite Pv xs.length) (lZ ds) G:=fun H1 B s lB hB=>by
  have hl:=h.length
  rw [yZ]
  refine ⟨fun i hi=>⟨by omega,xs,hp H1 s,rfl⟩,⟨hl.symm,xs,hp H1 s,rfl⟩,fun i x H2 hi y=>?_⟩
  obtain ⟨t,x0,rfl,ht,rfl,hx⟩:=y
  obtain ⟨d,e,hd⟩:=h.get (hx xs (hp H1 s))
  refine ⟨c6 ht,.tuple [.int i,d],by unfold lZ; rw [List.getElem?_mapIdx,e]; rfl,?_⟩
  have nb:t ∉ B:=lB.new ht
  exact l9 (by rw [cA nb]; exact cp) (fc cT (pE (hd.same (fun b o q=>by
      have q1:=s b o q
      have nt:b≠t:=bF q1 ht
      rw [cA (fun z=>by rw [hB b z] at q; cases q),bx nt]; exact q1))))
section
variable {X:Cx} {E:XK} {a b c e k:Expr} {ga gb gk:Ds→Rs PyData} {pos:Pos} {es:List Expr} {gs:Ds→Rs (List PyData)} {O:List Nat}
noncomputable def qb:List PyData→Rs (List PyData)
  | [.list ds]=>.ok (lZ ds)
  | [.tuple ds]=>.ok (lZ ds)
  | _=>.no
noncomputable def qd (g:Ds→Rs (List PyData)):Ds→Rs (List PyData):=fun δ=>(g δ).bind qb
theorem uE {elts:List Expr} {x1:Nat} {tp p:Pos} (hm:X.mg "enumerate"=none) (ha:PAD X E [a] gs) (hg:Gl X "enumerate":=by rfl) (hs:starEach [a] X.env=[(false,eval a X.env)]:=by rfl) :
    PID X E (.Tuple elts x1 tp) (.Call (.Name "enumerate" p) [a] [] pos) (qd gs):=(BD hg hm ha.1 hs).imp fun σ H R ⟨A,δ,Rp,o⟩=>tm Rp o fun ds vs H1 e s1 R1 h1 o=>by
  unfold qb at o
  split at o
  · obtain ⟨v,rfl,h⟩:=nI h1
    obtain ⟨p,xs,rfl,hp,hx⟩:=h.ofLst
    exact ⟨p,xs,rfl,.inr ⟨SqL.of (aY _ _ hp),o _ H1 (aM.refl _) (sv hx fun H2 s2=>SqL.of (s2 _ _ hp))⟩⟩
  · obtain ⟨v,rfl,h⟩:=nI h1
    obtain ⟨p,xs,rfl,hp,hx⟩:=h.ofTup
    exact ⟨p,xs,rfl,.inl ⟨SqT.of (aY _ _ hp),o _ H1 (aM.refl _) (sv hx fun H2 s2=>SqT.of (s2 _ _ hp))⟩⟩
  · exact o.elim
noncomputable def kf (y x:Nat) (gk:Ds→Rs PyData):Ds→Sr:=fun δ=>match δ[y]?,δ[x]? with
  | some (some (.list ys)),some (some (.list xs))=>ofR (gk δ) fun k=>match k with
    | .int k=>if -(1000000)≤k∧k≤1000000∧ys.length < 1000000 then (match ixN xs.length k with
      | some j=>match xs[j]? with
        | some d=>.nx ((δ.set x (some (.list (xs.eraseIdx j)))).set y (some (.list (ys++[d]))))
        | none=>.no
      | none=>.no) else .no
    | _=>.no
  | _,_=>.no
theorem wM {y x:Nat} {ny nx:Str} {py pa pc px pb pd:Pos} (hk:PD X E k gk) (hyx:x≠y:=by decide) (hOy:y∈O:=by decide) (hOx:x∈O:=by decide) (hiy:X.N[y]?=some ny:=by rfl) (hix:X.N[x]?=some nx:=by rfl)
    (hvy:Vis X.env.scope ny:=by first | exact Or.inl rfl | exact Or.inr (Or.inl rfl) | exact Or.inr (Or.inr rfl)) (hvx:Vis X.env.scope nx:=by first | exact Or.inl rfl | exact Or.inr (Or.inl rfl) | exact Or.inr (Or.inr rfl))
    (hdy:(ny == ("__debug__":Str))=false:=by decide) (hcdy:(ny == ("__classdict__":Str))=false:=by decide) (hdx:(nx == ("__debug__":Str))=false:=by decide) (hcdx:(nx == ("__classdict__":Str))=false:=by decide)
    (hst:starEach [k] X.env=(false,eval k X.env)::starEach [] X.env:=by rfl) (hst2:starEach [.Call (.Attribute (.Name nx px) "pop" pb) [k] [] pd] X.env=(false,eval (.Call (.Attribute (.Name nx px) "pop" pb) [k] [] pd) X.env)::starEach [] X.env:=by rfl)
    (hbase:attributeBase (.Name nx px) "pop" X.env (eval (.Name nx px) X.env)=eval (.Name nx px) X.env:=by rfl) (hbase2:attributeBase (.Name ny py) "append" X.env (eval (.Name ny py) X.env)=eval (.Name ny py) X.env:=by rfl)
    (hfew:((backTo pd (starEach [k] X.env)).all (fun x=>!x.1) && (backToKw pd (keywordEach [] X.env)).all (fun x=>x.1.isSome) && decide (([k]:List Expr).length + ([]:List Keyword).length + (if ([]:List Keyword).isEmpty then 0 else 1) < 30))=true:=by rfl)
    (hfew2:((backTo pc (starEach [.Call (.Attribute (.Name nx px) "pop" pb) [k] [] pd] X.env)).all (fun x=>!x.1) && (backToKw pc (keywordEach [] X.env)).all (fun x=>x.1.isSome) && decide (([.Call (.Attribute (.Name nx px) "pop" pb) [k] [] pd]:List Expr).length + ([]:List Keyword).length + (if ([]:List Keyword).isEmpty then 0 else 1) < 30))=true:=by rfl)
    (hline:(pb.endLine == pd.line)=true:=by rfl) (hline2:(pa.endLine == pc.line)=true:=by rfl)
    (hs:swapsWith (.Call (.Attribute (.Name ny py) "append" pa) [.Call (.Attribute (.Name nx px) "pop" pb) [k] [] pd] [] pc) none pos.line X.env=pure false:=by rfl) :
    PSD X E O (.Expr (.Call (.Attribute (.Name ny py) "append" pa) [.Call (.Attribute (.Name nx px) "pop" pb) [k] [] pd] [] pc) pos) (kf y x gk) :=
  (sV (Ap PySem.F.plainAttrs_list PySem.F.slot_list_append PySem.F.type_list_append oG (oh hiy hvy hdy hcdy) (fg (Ap PySem.F.plainAttrs_list PySem.F.slot_list_pop PySem.F.type_list_pop AE (oh hix hvx hdx hcdx) (fg hk iI hst) hbase hfew hline hst rfl) iI hst2) hbase2 hfew2 hline2 hst2 rfl) hs).imp fun D σ H pz3=>by
    obtain ⟨H0,A0,A,δ,R,o⟩:=pz3
    unfold kf at o
    split at o
    · rename_i ys xs qy qx
      obtain ⟨p,vy,dy,e1,hp,hl,e2,hx⟩:=R.own y _ hOy qy
      cases e2
      obtain ⟨r,vx,dx,f1,hr,hm,f2,hz⟩:=R.own x _ hOx qx
      cases f2
      have npr:p≠r:=fun z=>hyx (R.inj x y _ _ p hOx hOy qx qy (by rw [z]; exact f1) e1)
      refine ⟨_,e1,tyL hl,_,f1,tyL hm,?_⟩
      refine eD.run R.full (fun kd ek u H1 s1 R1 hu=>?_) (fun C et H' s'=>by rw [et] at o; exact o H' (R.same.trans s')) (fun et=>by rw [et] at o; exact o)
      simp only [ek,aA] at o
      split at o
      · rename_i kk
        split at o
        · rename_i hb
          split at o
          · rename_i j hj
            split at o
            · rename_i d hd
              obtain ⟨w,hw,hwd⟩:=hz.getD hd
              have hj':=hj
              obtain ⟨g1,g2,g3,g4⟩:=tj hj
              have RS:=R.step s1
              have RS2:=RS.put (ds:=xs.eraseIdx j) (ys:=vx.eraseIdx j) hOx qx f1 hr ((hz.same s1.del).eraseIdx j)
              refine ⟨r,vx,kk,j,w,rfl,by rw [hu.ofInt],s1 _ _ hm,by omega,by omega,by rw [hz.length]; exact g1,hw,?_⟩
              have dU:del (upd H1 r (.lst (vx.eraseIdx j))) (A++A0)=del H1 (A++A0):=tD (List.mem_append_left _ hr)
              refine ⟨p,vy,w,rfl,rfl,by rw [bx npr]; exact s1 _ _ hl,by rw [hx.length,sizeLine_eq]; omega,?_⟩
              refine o A _ _ (RS2.put (ds:=ys++[d]) hOy (by rw [List.getElem?_set_ne hyx]; exact qy) e1 hp ?_)
              rw [dU]
              exact (hx.same s1.del).append (pE (hwd.same s1.del))
            · exact o.elim
          · exact o.elim
        · exact o.elim
      · exact o.elim
    · exact o.elim
end
end L2
set_option maxRecDepth 100000
set_option maxHeartbeats 4000000
namespace L2
open PySem PySem.Spec PyProof.Rows
theorem vG:isSubtype (.type "tuple") (.type "set")=pure false:=by rw [isSubtype_type]; kernel_rfl
theorem uI:isSubtype (.type "tuple") (.type "frozenset")=pure false:=by rw [isSubtype_type]; kernel_rfl
section
variable {prog:Program} {w:World} {A:Around} {E:Value→Shared→Prop} {s:Shared}
noncomputable def seen (ns:List Int) (n:Nat):List Int:=firstMet (fun i=>ns.getD i 0) n
theorem y3 {tu:Addr} {its:Array Value} {ns:List Int} {Q:Value→Shared→Prop} (hh:A.handled=none) (ht:s.heap.IsTuple tu its) (hi:IntsAre its.toList ns) (hb:its.size + 1 < scanBound)
    (hQ:∀ (h':Heap) (tk:Nat),h'.SetOf (intKind prog w) s.heap.objs.size (fun k=>(seen ns its.size).any (· == k)) (seen ns its.size).length→(∀ b o,b < s.heap.objs.size→s.heap.get? b=some o→h'.get? b=some o)→Q (.ref s.heap.objs.size) { s with heap:=h',toks:=tk }) :
    wpAny (model prog w) A (call (.type "set") [.ref tu]) Q E s:=by
  obtain ⟨c,tl,mro⟩:=PySem.F.called_set.mro
  have m1:=PySem.F.called_set.made; have m2:=PySem.F.called_set.sub
  refine wpAny_call (codeAny_of_tree ?_); show wpAny _ _ (callAny (.type "set") _) _ _ _
  refine wpAny_pure ⟨Code.quiet_builtin _ (by decide +kernel),codeAny_builtin PySem.F.entry_type_call ?_⟩; rw [Around.under_plain (weight_type_call_type "set" [.ref tu] []) rfl]
  have m3:=PySem.F.called_set.notType; have m4:=PySem.F.called_set.canCreate; have m5:=PySem.F.typeCall_set_1 (.ref tu)
  repeat (any_goals (first | assumption | wp_step))
  refine codeAny_mono (PySem.code_set_new_1 (.ref tu) (E:=E) (Q₁:=fun ob s1=>∃ led:Bool,ob=.ref s.heap.objs.size∧s1={ s with heap:=s.heap.push { cls:=.type "set",dict:=none,data:=.set #[] 0 (.fresh 0 0 led) } }) fun led=>⟨led,rfl,rfl⟩) fun r s1 hr=>?_
  cases r with
  | error ev=>exact hr
  | ok fl =>
    cases fl with
    | ret ob =>
      obtain ⟨led,rfl,rfl⟩:=hr
      have gS:(s.heap.push { cls:=.type "set",dict:=none,data:=.set #[] 0 (.fresh 0 0 led) }).get? s.heap.objs.size=some { cls:=.type "set",dict:=none,data:=.set #[] 0 (.fresh 0 0 led) }:=Heap.get?_push_size _ rfl
      have tS:Shared.TypeIs { s with heap:=s.heap.push { cls:=.type "set",dict:=none,data:=.set #[] 0 (.fresh 0 0 led) } } (.ref s.heap.objs.size) "set":=⟨_,gS,rfl⟩
      have m6:=PySem.F.called_set.init.lookup; have m7:=PySem.F.called_set.init.bind (.ref s.heap.objs.size)
      repeat (any_goals (first | assumption | wp_step))
      refine codeAny_mono (codeAny_call_builtin (R:=wants (fun rv s2=>rv=.none∧∃ h' tk,s2={ s with heap:=h',toks:=tk }∧h'.SetOf (intKind prog w) s.heap.objs.size (fun k=>(seen ns its.size).any (· == k)) (seen ns its.size).length ∧
          (∀ b o,b < s.heap.objs.size→s.heap.get? b=some o→h'.get? b=some o)) E) PySem.F.called_set.init.plain PySem.F.entry_set_init (PySem.check_set_init_1 tS ?_)) fun r2 s2 hr2=>?_
      · obtain ⟨⟨oc,od,oda,osl⟩,go,gc,gn,gd⟩:=ht
        simp only at gc gd; subst gc; subst gd
        have go':(s.heap.push { cls:=.type "set",dict:=none,data:=.set #[] 0 (.fresh 0 0 led) }).get? tu=some { cls:=.type "tuple",dict:=od,data:=.seq its gn,slots:=osl }:=Heap.get?_push_of_some _ go
        have n1:=vG; have n2:=uI
        have n3:(Value.type "tuple" == Value.type "dict")=false:=by decide
        have t1:(s.heap.push { cls:=.type "set",dict:=none,data:=.set #[] 0 (.fresh 0 0 led) }).IsTuple tu its:=⟨_,go',rfl,gn,rfl⟩
        unfold Builtin.«set.__init__» noKeywords Builtin.Frozenset.updateFrom; generalize zz:pyIter=PI
        wp_walk
        subst zz; refine wpAny_pyIter_tuple t1 (wpAny_bind (wpAny_runValue ?_))
        have tl':tu < s.heap.objs.size:=Heap.lt_size go
        have h3:A.in1.in1.in1.handled=none:=by simp [hh]
        have ne1:tu≠(s.heap.push { cls:=.type "set",dict:=none,data:=.set #[] 0 (.fresh 0 0 led) }).objs.size:=by rw [Heap.size_push]; exact Nat.ne_of_lt (Nat.lt_succ_of_lt tl')
        have nSf:s.heap.objs.size ∉ [(s.heap.push { cls:=.type "set",dict:=none,data:=.set #[] 0 (.fresh 0 0 led) }).objs.size,tu]:=by
          rw [Heap.size_push]; simp only [List.mem_cons,List.mem_singleton,List.not_mem_nil,or_false,not_or]; exact ⟨Nat.ne_of_lt (Nat.lt_succ_self _),Nat.ne_of_gt tl'⟩
        have vv:∀ (i:Nat) (v:Value),its[i]?=some v→∃ t,v=.int ((fun i=>ns.getD i 0) i) t:=fun i v hv=>IntsAre.int_at hi i v (by rw [Array.getElem?_toList]; exact hv)
        refine codeAny_set_update_loopS ((Walks.tuple h3 _ tu ne1 its).toS) s.heap.objs.size nSf (fun i=>ns.getD i 0) vv hb (its.size - 0) 0 _ (by omega) (Nat.zero_le _) ⟨⟨_,Heap.get?_push_size _ rfl,rfl,rfl⟩,⟨_,Heap.get?_push_of_some _ go',rfl,gn,rfl⟩⟩ ?_ ?_
        · have gg:((s.heap.push { cls:=.type "set",dict:=none,data:=.set #[] 0 (.fresh 0 0 led) }).push { cls:=.type "tuple_iterator",data:=.fields #[.ref tu,.int 0 0] }).get? s.heap.objs.size=some { cls:=.type "set",dict:=none,data:=.set #[] 0 (.fresh 0 0 led) }:=Heap.get?_push_of_some _ gS
          exact SetOf_congr ((setObjOf_fresh (knd:=intKind prog w) led).setOf gg (by unfold scanBound; omega)) (fun _=>rfl) rfl
        · intro s' mv hS'
          obtain ⟨h',g',d',tk',os'⟩:=s'
          have e1:g'=s.gens:=mv.gens; have e2:d'=s.drawn:=mv.drawn; have e3:os'=s.os:=mv.os
          subst e1; subst e2; subst e3
          show wpAny _ _ _ _ _ _; refine wpAny_pure ?_
          show wpAny _ _ (ret Value.none) _ _ _; refine wpAny_pure ⟨rfl,h',tk',rfl,hS',fun b o hb e=>?_⟩
          have b2:b≠(s.heap.push { cls:=.type "set",dict:=none,data:=.set #[] 0 (.fresh 0 0 led) }).objs.size:=by rw [Heap.size_push]; exact Nat.ne_of_lt (Nat.lt_succ_of_lt hb)
          exact mv.heap b o (by simp only [List.mem_cons,List.mem_singleton,List.not_mem_nil,or_false,not_or]; exact ⟨Nat.ne_of_lt hb,b2⟩) (Heap.get?_push_of_some _ (Heap.get?_push_of_some _ e))
      · cases r2 with
        | error ev=>exact hr2
        | ok fl2 =>
          cases fl2 with
          | ret rv =>
            obtain ⟨rfl,h',tk,rfl,hS',kk⟩:=hr2
            repeat (any_goals (first | assumption | wp_step))
            exact hQ _ _ hS' kk
          | _=>exact hr2.elim
    | _=>exact hr.elim
end
section
variable {X:Cx} {E:XK} {a b c e:Expr} {ga gb gc:Ds→Rs PyData} {pos:Pos} {es:List Expr} {gs:Ds→Rs (List PyData)}
theorem DW:bootBuiltins "set"=some (.type "set"):=by decide +kernel
noncomputable def tLS (K:PySem.W.Frag) (ta:TA):TE:=fun σ H Q=>ta σ H fun vs H1=>∃ (p:Addr) (ns:List Int),vs=[.ref p]∧SqT K H1 p (ns.map V.int)∧ns.length≤1000∧Q (.int (seen ns ns.length).length) H1
theorem yG {ta:TA} {p p2 pos2:Pos} (hc:X.calm=true) (hg:Gl X "set") (hm:X.mg "set"=none) (hgl:Gl X "len") (hml:X.mg "len"=none) (ha:PA X [a] ta) (hs:starEach [a] X.env=[(false,eval a X.env)]:=by rfl)
    (hs2:starEach [.Call (.Name "set" p) [a] [] pos] X.env=(false,eval (.Call (.Name "set" p) [a] [] pos) X.env)::starEach [] X.env:=by rfl) (hpl:(backTo pos2 (starEach [] X.env)).any (·.1)=false:=by rfl) :
    PE X (.Call (.Name "len" p2) [.Call (.Name "set" p) [a] [] pos] [] pos2) (tLS X.K ta):=by
  intro pins s σ H Q I h
  refine wpAny_Call_Name_kw (gU I hgl hml PySem.boot_len ?_)
  refine PyProof.Rows.callWith_builtin1 ?_ hs2 hpl
  rw [hs2]
  show wpAny _ _ (spliced ((false,eval (.Call (.Name "set" p) [a] [] pos) X.env)::backTo pos2 [])) _ _ s
  refine Calls.spliced_cons (Call_ (gU I hg hm DW (PyProof.Rows.callWith_type1 (thn (ha pos pins s σ H _ I h) fun us s1 rz2=>?_) hs rfl)))
  obtain ⟨vs,H1,I1,r1,q1⟩:=rz2
  obtain ⟨q,ns,e,hq,hz,fin⟩:=q1
  subst e
  obtain ⟨u,rfl,ru⟩:=vals1 r1
  cases ru
  obtain ⟨its,rv,pt,_⟩:=I1.tuple hq
  have hl:=rv.length
  rw [List.length_map] at hl
  refine y3 (I1.ok.hd hc) (show s1.heap.IsTuple q its.toArray from pt) (intsAre_of rv) (by rw [List.size_toArray]; unfold scanBound; omega) fun h' tk hS kk=>Calls.spliced_nil ?_
  have I2:Inv X pins σ H1 { s1 with heap:=h',toks:=tk }:=I1.kept fun b o e=>kk b o (Heap.lt_size e) e
  have esz:its.toArray.size=ns.length:=by rw [List.size_toArray]; exact hl.symm
  rw [esz] at hS
  obtain ⟨o,es',ep,t,ho,ex,hd,_,_,hb,hf,hsz⟩:=hS
  refine PySem.call_len_set ho ex hd hf (by unfold scanBound at hb; omega) ⟨.int (seen ns ns.length).length,H1,I2.tok _,⟨_,by rw [hsz]⟩,fin⟩
noncomputable def nN:List PyData→Option PyData
  | [.tuple x]=>(gM x).bind fun ns=>if ns.length≤1000 then some (.int (seen ns ns.length).length) else none
  | _=>none
theorem yX {p p2 pos2:Pos} (hc:X.calm=true) (hm:X.mg "set"=none) (hml:X.mg "len"=none) (ha:PAD X E [a] gs) (hg:Gl X "set":=by rfl) (hgl:Gl X "len":=by rfl) (hs:starEach [a] X.env=[(false,eval a X.env)]:=by rfl)
    (hs2:starEach [.Call (.Name "set" p) [a] [] pos] X.env=(false,eval (.Call (.Name "set" p) [a] [] pos) X.env)::starEach [] X.env:=by rfl) (hpl:(backTo pos2 (starEach [] X.env)).any (·.1)=false:=by rfl) :
    PD X E (.Call (.Name "len" p2) [.Call (.Name "set" p) [a] [] pos] [] pos2) (gF nN gs):=(yG hc hg hm hgl hml ha.1 hs hs2 hpl).imp fun σ H Q ⟨A,δ,R,o⟩=>rR R o fun ds vs H1 e s1 R1 h1 o=>by
  unfold nN at o
  split at o
  · rename_i x
    cases q:gM x with
    | none=>rw [q] at o; exact o.elim
    | some ns =>
      rw [q] at o
      obtain ⟨v,rfl,hh⟩:=nI h1
      obtain ⟨p,xs,rfl,hp,hx⟩:=hh.ofTup
      rw [dR q] at hx
      rw [hx.ofInts] at hp
      by_cases z:ns.length≤1000
      · simp only [Option.bind_some,if_pos z] at o
        exact ⟨p,ns,rfl,SqT.of (aY _ _ hp),z,o _ H1 (aM.refl _) cT⟩
      · simp only [Option.bind_some,if_neg z] at o
        exact o.elim
  · exact o.elim
end
end L2
set_option maxRecDepth 100000
set_option maxHeartbeats 4000000
namespace L2
open PySem PySem.Spec PyProof.Rows
open AutoSeq1 (wpAny_loadPart')
open SeqAt (EqAt)
theorem vj {prog:Program} {w:World} {A:Around} {E:Value→Shared→Prop} {s:Shared} {its:Array Value} {x:Value} {e:Value→Bool} {j:Nat} {Q:Option PySem.Fin × Unit→Shared→Prop} (hj:j < its.size) (hit:e its[j]=true) (hno:∀ m (hm:m < its.size),m < j→e its[m]=false)
    (he:∀ y,y∈its→EqAt A s y x (e y)) (hQ:Q (some (.done (.ret (.int j s.toks))),()) { s with toks:=s.toks + 1 }):∀ (k i m:Nat),i + k=j→j < i + m →
    wpAny (model prog w) A (forIn (List.range' i m) ((none:Option PySem.Fin),()) fun (i:Nat) _=>match its[i]? with
      | some y=>do
        let b ← eqBool y x
        if b=true then do
            let r ← retInt (i:Int)
            pure (ForInStep.done (some r,()))
          else pure (ForInStep.yield (none,()))
      | _=>pure (ForInStep.yield (none,()))) Q E s
  | 0,i,0,h1,h2=>by omega
  | 0,i,m + 1,h1,h2=>by
    have:i=j:=by omega
    subst this
    rw [List.range'_succ,List.forIn_cons]
    have q:its[i]?=some its[i]:=by simp [hj]
    simp only [q]
    refine wpAny_bind (wpAny_bind (he _ (Array.getElem_mem hj) prog w _ _ ?_))
    rw [hit,if_pos rfl]
    unfold retInt
    exact wpAny_bind (wpAny_bind (wpAny_mkInt (wpAny_pure (wpAny_pure (wpAny_pure hQ)))))
  | k + 1,i,0,h1,h2=>by omega
  | k + 1,i,m + 1,h1,h2=>by
    have hi:i < its.size:=by omega
    rw [List.range'_succ,List.forIn_cons]
    have q:its[i]?=some its[i]:=by simp [hi]
    simp only [q]
    refine wpAny_bind (wpAny_bind (he _ (Array.getElem_mem hi) prog w _ _ ?_))
    rw [hno i hi (by omega),if_neg Bool.false_ne_true]
    exact wpAny_pure (vj hj hit hno he hQ k (i + 1) m (by omega) (by omega))
theorem zl (tu:Addr) (its:Array Value) (n:Nat) (dd:Option Addr) (sl:Array (Option Value)) (x:Value) (e:Value→Bool) (j:Nat) (hj:j < its.size) (hit:e its[j]=true) (hno:∀ m (hm:m < its.size),m < j→e its[m]=false) :
    Meets (Builtin.«tuple.index» ⟨[.ref tu,x],[]⟩)
      (fun A R s=>s.heap.get? tu=some { cls:=.type "tuple",dict:=dd,data:=.seq its n,slots:=sl }∧(∀ y,y∈its→EqAt A.in1 s y x (e y))∧R (.ok (.ret (.int j s.toks))) { s with toks:=s.toks + 1 }):=by
  intro prog w A R s hs
  obtain ⟨hp,g,d,tk,os⟩:=s
  obtain ⟨hl,he,hR⟩:=hs
  unfold Builtin.«tuple.index»
  simp only [Std.Legacy.Range.forIn_eq_forIn_range',Std.Legacy.Range.size]
  generalize hF:(@forIn Sem (List Nat))=F
  wp_walk using wpAny_loadPart' hl
  subst hF
  refine vj hj hit hno he ?_ j 0 _ (by omega) (by simp; omega)
  exact wpAny_pure hR
section
variable {X:Cx} {E:XK} {a o e:Expr} {ga go:Ds→Rs PyData} {pos:Pos} {es:List Expr} {gs:Ds→Rs (List PyData)}
noncomputable def Dr:V→List V→Hp→VK→Prop:=fun x vs H Q=>∃ l xs y j,x=.ref l∧vs=[y]∧H l=some (.tup xs)∧kz y=true∧xs.all kz=true∧(xs.findIdx? fun z=>eqV z y)=some j∧Q (.int j) H
noncomputable def tIx (to:TE) (t:TA):TE:=fun σ H Q=>to σ H fun x H1=>(∃ l xs,x=.ref l∧H1 l=some (.tup xs))∧t σ H1 fun vs H2=>Dr x vs H2 Q
theorem zU {to:TE} {t:TA} {apos cpos:Pos} (ho:PE X o to) (ha:PA X [e] t) (hbase:attributeBase o "index" X.env (eval o X.env)=eval o X.env:=by rfl)
    (hfew:((backTo cpos (starEach [e] X.env)).all (fun x=>!x.1) && (backToKw cpos (keywordEach [] X.env)).all (fun x=>x.1.isSome) && decide (([e]:List Expr).length + ([]:List Keyword).length + (if ([]:List Keyword).isEmpty then 0 else 1) < 30))=true:=by rfl)
    (hline:(apos.endLine == cpos.line)=true:=by rfl) (hs:starEach [e] X.env=(false,eval e X.env)::starEach [] X.env:=by rfl) (hplain:(backTo cpos (starEach [] X.env)).any (·.1)=false:=by rfl) :
    PE X (.Call (.Attribute o "index" apos) [e] [] cpos) (tIx to t):=by
  intro pins s σ H Q I h
  refine wpAny_Call_method_late hbase hfew hline rfl (thn (ho pins s σ H _ I h) fun v s1 rz2=>?_)
  obtain ⟨x,H1,I1,r1,⟨l,xs,hx,hl⟩,q1⟩:=rz2
  subst hx
  cases r1
  obtain ⟨hz,its,rv,ob,ge,gc,gd,n,gq⟩:=I1.hok l _ hl
  refine ⟨"tuple", "tuple.index",PySem.F.plainAttrs_tuple,PySem.F.slot_tuple_index,PySem.F.type_tuple_index,⟨ob,ge,gc⟩,fun a ea=>by cases ea; exact ⟨ob,ge,gd⟩,?_⟩
  have hA:=ha cpos pins s1 σ H1 _ I1 q1
  rw [hs] at hA ⊢
  refine Calls.callWith_builtin (by show (false || (backTo cpos (starEach [] X.env)).any (·.1))=false; rw [hplain]; rfl) (Calls.evalArgs_plain ?_)
  refine thn hA fun us s2 rz2=>?_
  obtain ⟨vs,H2,I2,r2,q2⟩:=rz2
  obtain ⟨l',xs',y,j,e1,e2,hl',fy,fs,hj,q⟩:=q2
  cases e1
  subst e2
  obtain ⟨hz',its',rv',ob',ge',gc',gd',n',gq'⟩:=I2.hok l _ hl'
  obtain ⟨u,rfl,ru⟩:=vals1 r2
  obtain ⟨oc,od,oda,osl⟩:=ob'
  simp only at gc' gd' gq'
  subst gc' gd' gq'
  have hlen:=rv'.length
  obtain ⟨hjl,hjt,hjn⟩:=List.findIdx?_eq_some_iff_getElem.mp hj
  have at':∀ (m:Nat) (hm:m < xs'.length),eqU y (its'[m]'(by omega))=eqV xs'[m] y:=fun m hm=>by
    obtain ⟨w',hw,rw'⟩:=rv'.get (List.getElem?_eq_getElem hm)
    have:its'[m]'(by omega)=w':=by
      have h2:=List.getElem?_eq_getElem (show m < its'.length by omega)
      rw [h2] at hw; exact Option.some.inj hw
    rw [this]
    exact wx rw' (List.all_eq_true.mp fs _ (List.getElem_mem hm))
  refine call_meets PySem.F.slot_tuple_index ⟨_,ge',rfl⟩ PySem.F.entry_tuple_index (PySem.F.args_tuple_index_2 _ _) (zl l its'.toArray n' none osl u (eqU y) j (by simp; omega) (by simpa [at' j hjl] using hjt) (fun m hm hmj=>?_)) ⟨ge',fun z hz=>jz ru fy rv' fs z (by simpa using hz),⟨.int j,H2,I2.tok _,⟨_,rfl⟩,q⟩⟩
  have hm':m < xs'.length:=by simp at hm; omega
  have:=hjn m hmj
  simpa [at' m hm'] using this
noncomputable def oN (xs:List PyData) (y:PyData):Option PyData:=if f6 y && xs.all f6 then ((xs.map toV).findIdx? fun z=>eqV z (toV y)).map fun j=>.int j else none
noncomputable def rk (go ga:Ds→Rs PyData):Ds→Rs PyData:=fun δ=>(go δ).bind fun d=>match d with
  | .tuple xs=>(ga δ).bind fun y=>Rs.f9 (oN xs y)
  | _=>.no
theorem m8 {apos cpos:Pos} (ho:PD X E o go) (ha:PD X E e ga) (hbase:attributeBase o "index" X.env (eval o X.env)=eval o X.env:=by rfl)
    (hfew:((backTo cpos (starEach [e] X.env)).all (fun x=>!x.1) && (backToKw cpos (keywordEach [] X.env)).all (fun x=>x.1.isSome) && decide (([e]:List Expr).length + ([]:List Keyword).length + (if ([]:List Keyword).isEmpty then 0 else 1) < 30))=true:=by rfl)
    (hline:(apos.endLine == cpos.line)=true:=by rfl) (hs:starEach [e] X.env=(false,eval e X.env)::starEach [] X.env:=by rfl) (hplain:(backTo cpos (starEach [] X.env)).any (·.1)=false:=by rfl) :
    PD X E (.Call (.Attribute o "index" apos) [e] [] cpos) (rk go ga):=(zU ho (fg ha iI hs) hbase hfew hline hs hplain).imp fun σ H Q pz3=>by
  obtain ⟨A,δ,R,oo⟩:=pz3
  unfold rk at oo
  refine eD.run R (fun d1 e1 v H1 s1 R1 h1=>?_) (fun C et H' s'=>by rw [et] at oo; exact oo H' s') (fun et=>by rw [et] at oo; exact oo)
  simp only [e1,Rs.aj] at oo
  cases d1 with
  | tuple xs =>
    obtain ⟨p,vs,rfl,hp,hx⟩:=h1.ofTup
    refine ⟨⟨p,vs,rfl,aY _ _ hp⟩,?_⟩
    have oo:jj X.K E A H ((ga δ).bind fun y=>Rs.f9 (oN xs y)) Q:=oo
    refine eD.run R1 (fun d2 e2 u H2 s2 R2 h2=>?_) (fun C et H' s'=>by rw [et] at oo; exact oo H' (s1.trans s')) (fun et=>by rw [et] at oo; exact oo)
    simp only [e2,Rs.aj] at oo
    unfold oN at oo
    split at oo
    · rename_i z
      rw [Bool.and_eq_true] at z
      obtain ⟨f1,f2⟩:=h2.flat z.1
      obtain ⟨f3,f4⟩:=hx.flat z.2
      cases q:((xs.map toV).findIdx? fun z=>eqV z (toV d2)) with
      | none=>rw [q] at oo; exact oo.elim
      | some j =>
        rw [q] at oo
        exact ⟨p,vs,u,j,rfl,rfl,s2 _ _ (aY _ _ hp),f2,f4,by rw [f1,f3]; exact q,oo _ H2 (s1.trans s2) cT⟩
    · exact oo.elim
  | _=>exact oo.elim
end
end L2
set_option maxRecDepth 100000
set_option maxHeartbeats 4000000
namespace L2
open PySem PySem.Spec PyProof.Rows
noncomputable def va:List Int→Option Int
  | []=>none
  | x::r=>some (r.foldl (fun a b=>if b > a then b else a) x)
theorem fold_max:∀ (r:List Int) (x:Int),(r.foldl (fun a b=>if b > a then b else a) x)∈x::r∧∀ a∈x::r,a≤r.foldl (fun a b=>if b > a then b else a) x
  | [],x=>⟨List.mem_cons_self,fun a ha=>by cases List.mem_singleton.mp ha; exact Int.le_refl _⟩
  | y::r,x=>by
    obtain ⟨h1,h2⟩:=fold_max r (if y > x then y else x)
    rw [List.foldl_cons]
    have h0:=h2 _ List.mem_cons_self
    refine ⟨?_,fun a ha=>?_⟩
    · rcases List.mem_cons.mp h1 with z | z
      · rw [z]; split <;> simp
      · exact List.mem_cons_of_mem _ (List.mem_cons_of_mem _ z)
    · have hx:x≤(if y > x then y else x):=by split <;> omega
      have hy:y≤(if y > x then y else x):=by split <;> omega
      rcases List.mem_cons.mp ha with rfl | ha
      · exact Int.le_trans hx h0
      · rcases List.mem_cons.mp ha with rfl | ha
        · exact Int.le_trans hy h0
        · exact h2 a (List.mem_cons_of_mem _ ha)
theorem Bt {ns:List Int} {M m:Int} (h1:M∈ns) (h2:∀ a∈ns,a≤M) (e:va ns=some m):M=m:=by
  cases ns with
  | nil=>cases e
  | cons x r =>
    cases e
    obtain ⟨g1,g2⟩:=fold_max r x
    have a1:=h2 _ g1
    have a2:=g2 _ h1
    omega
section
variable {X:Cx} {E:XK} {a:Expr} {es:List Expr} {gs:Ds→Rs (List PyData)} {pos:Pos}
theorem BV:bootBuiltins "max"=some (.builtin "max"):=by decide +kernel
end
end L2
set_option maxRecDepth 100000
set_option maxHeartbeats 4000000
namespace L2
open PySem PySem.Spec PyProof.Rows
section
variable {X:Cx} {E:XK} {O:List Nat} {K:PySem.W.Frag} {H0 H:Hp} {A0 A:List Addr} {δ:Ds} {σ:St}
end
end L2
set_option maxRecDepth 100000
set_option maxHeartbeats 4000000
namespace L2
open PySem PySem.Spec PyProof.Rows
section
variable {X:Cx} {E:XK} {a b c:Expr} {ga gb gc:Ds→Rs PyData} {pos:Pos}
end
end L2
set_option maxRecDepth 100000
set_option maxHeartbeats 4000000
namespace L2
open PySem PySem.Spec PyProof.Rows
section
variable {X:Cx} {E:XK} {a:Expr} {es:List Expr} {gs:Ds→Rs (List PyData)} {pos:Pos}
end
end L2
set_option maxRecDepth 100000
set_option maxHeartbeats 4000000
namespace L2
open PySem PySem.Spec PyProof.Rows
section
variable {X:Cx} {E:XK} {a:Expr} {gs:Ds→Rs (List PyData)} {pos:Pos}
end
end L2
set_option maxRecDepth 100000
set_option maxHeartbeats 4000000
namespace PyProof.Rows
open PySem
section
variable {prog:Program} {w:World} {A:Around} {E:Value→Shared→Prop} {s:Shared}
end
end PyProof.Rows
namespace L2
open PySem PySem.Spec PyProof.Rows
section
variable {X:Cx} {E:XK} {a:Expr} {es:List Expr} {gs:Ds→Rs (List PyData)} {pos:Pos}
end
end L2
set_option maxRecDepth 100000
set_option maxHeartbeats 4000000
namespace L2
open PySem PySem.Spec PySem.Calls PyProof.Rows PySem.W PySem.Builtin PySem.Builtin.ObjectAttr PySem.Builtin.Getset_descriptor
section
variable {prog:Program} {w:World} {A:Around} {E:Value→Shared→Prop} {s:Shared} {K:Frag} {x D:Addr} {ox:Obj}
structure CO (h:Heap) (x:Addr) (D:Addr):Prop where
  ex:∃ o,h.get? x=some o∧o.cls=.ref D
theorem CO.type {M:Model} {h:Heap} (I:CO h x D):Looks M h (typeOf (.ref x)) (.ref D):=by
  obtain ⟨o,h1,h2⟩:=I.ex
  exact h2 ▸ (Looks.ld h1).andThen .now
end
end L2
set_option maxRecDepth 100000
set_option maxHeartbeats 4000000
namespace L2
open PySem PySem.Spec PyProof.Rows
section
variable {X:Cx} {E:XK} {ea:Addr} {oe:Obj} {C:Addr} {pos:Pos} {i:Nat}
end
end L2
set_option maxRecDepth 100000
set_option maxHeartbeats 4000000
namespace L2
open PySem PySem.Spec PyProof.Rows
section
variable {X:Cx} {E:XK} {ea:Addr} {oe:Obj} {C:Addr} {pos:Pos} {i:Nat}
end
end L2
set_option maxRecDepth 100000
set_option maxHeartbeats 4000000
namespace L2
open PySem PySem.Spec PyProof.Rows
noncomputable def tE (O:List Nat) (i:Nat) (g:Ds→Rs PyData):Ds→Sr:=fun δ=>match δ[i]? with
  | some (some (.int a))=>ofR (g (mask O δ)) fun d=>match d with
    | .int b=>.nx (δ.set i (some (.int (a + b))))
    | _=>.no
  | _=>.no
section
variable {X:Cx} {E:XK} {O:List Nat} {e a b:Expr} {ga gb:Ds→Rs PyData} {es:List Expr} {gs:Ds→Rs (List PyData)} {pos:Pos}
theorem yg {i:Nat} {x:Str} {pos':Pos} (h:PD X E e ga) (hN:X.N.Nodup) (hO:i ∉ O:=by decide) (hi:X.N[i]?=some x:=by rfl) (hx:Loc X.env.scope x:=by first | exact Or.inl rfl | exact Or.inr rfl)
    (hf:X.fn x=true∨X.env.scope.names.lookup x=some .local:=by first | exact .inl rfl | exact .inr rfl | assumption):PSD X E O (.AugAssign (.Name x pos') .Add e pos) (tE O i ga):=(DE hN hi hx h DU hf).imp fun D σ H pz3=>by
  obtain ⟨H0,A0,A,δ,R,o⟩:=pz3
  unfold tE at o
  split at o
  · rename_i z hz
    obtain ⟨v,ev,hv⟩:=R.pl i _ hO hz
    have hl:i < δ.length:=(List.getElem?_eq_some_iff.mp hz).1
    refine ⟨v,ev,?_⟩
    refine eD.run R.part (fun d ed u H1 s1 R1 hu=>?_) (fun C et H' s'=>?_) (fun et=>?_)
    · rw [ed,aA] at o
      split at o
      · refine ⟨_,_,hv.ofInt,hu.ofInt,o A _ H1 ((R.step s1).set hO hl cT)⟩
      · exact o.elim
    · rw [et,tJ] at o; exact o H' (R.same.trans s')
    · rw [et,sN] at o; exact o
  · exact o.elim
noncomputable def lX (f:Str):List (PyData × PyData)→Option PyData
  | []=>none
  | (k,d)::r=>match k with
    | .str g=>if g=f then some d else lX f r
    | _=>none
noncomputable def pH (C:Addr) (f:Str):PyData→Option PyData
  | .dict (k::r)=>match k with
    | (.str z,.int c)=>if z=""∧c=(C:Int) then lX f r else none
    | _=>none
  | _=>none
theorem Isk.lX {K:PySem.W.Frag} {H:Hp}:∀ {r:List (PyData × PyData)} {fs:List (Str × V)} {f:Str} {d:PyData},Isk K H r fs→L2.lX f r=some d→∃ v,fs.lookup f=some v∧Is K H d v
  | [],_,f,d,_,l=>by simp [L2.lX] at l
  | (k,x)::r,fs,f,d,h,l=>by
    unfold Isk at h
    obtain ⟨g,v,fs',rfl,rfl,h1,h2⟩:=h
    simp only [L2.lX] at l
    rw [List.lookup_cons]
    by_cases z:g=f
    · subst z
      rw [if_pos rfl] at l
      cases l
      exact ⟨v,by simp,h1⟩
    · rw [if_neg z] at l
      have:(f == g)=false:=by simpa using fun q=>z q.symm
      rw [this]
      exact Isk.lX h2 l
theorem B1 {K:PySem.W.Frag} {H:Hp} {C:Addr} {f:Str} {d x:PyData} {v:V} (hf:f≠"@") (e:pH C f d=some x) (h:Is K H d v):∃ a dx fs u,v=.ref a∧H a=some (.ins C dx fs)∧fs.lookup f=some u∧Is K H x u:=by
  unfold pH at e
  split at e
  · rename_i k r
    split at e
    · rename_i z c
      split at e
      · rename_i q
        obtain ⟨rfl,rfl⟩:=q
        unfold Is at h
        rcases h with ⟨a,ns,_,ek,_⟩ | ⟨a,C',dx,fs,ev,h1,hn,h2 | h2⟩
        · injection ek with ek _; cases ek
        · unfold Isk at h2
          obtain ⟨g,u,fs',e1,e2,h3,h4⟩:=h2
          cases e1
          have e5:=h3.ofInt
          injection e5 with e5
          obtain rfl:C'=C:=Int.ofNat.inj e5
          obtain ⟨u,l,hu⟩:=h4.lX e
          exact ⟨a,dx,fs,u,ev,h1,l,hu⟩
        · unfold Isk at h2
          obtain ⟨g,u,fs',e1,e2,h3,h4⟩:=h2
          cases e1
          have e5:=h3.ofInt
          injection e5 with e5
          obtain rfl:C'=C:=Int.ofNat.inj e5
          obtain ⟨u,l,hu⟩:=h4.lX e
          rw [List.lookup_cons,show (f == ("@":Str))=false by simpa using hf] at l
          exact ⟨a,dx,fs,u,ev,h1,l,hu⟩
      · cases e
    · cases e
  · cases e
theorem Ei {C:Addr} {f:Str} (cl:Cls X.K C) (n:gY X.K C f) (ha:PD X E a ga) (hb:attributeBase a f X.env (eval a X.env)=eval a X.env:=by rfl) (hf:f≠"@":=by decide):PD X E (.Attribute a f pos) (g1 (pH C f) ga) :=
  (D4 ha hb).imp fun σ H Q ⟨A,δ,R,o⟩=>g1.read (tt:=fun Q x H1=>∃ a C dx fs v,x=.ref a∧H1 a=some (.ins C dx fs)∧Cls X.K C∧gY X.K C f∧fs.lookup f=some v∧Q v H1) R o fun d1 d x H' e _ _ h k=>by
    obtain ⟨p,dx,fs,u,rfl,hp,l,hu⟩:=B1 hf e h
    exact ⟨p,C,dx,fs,u,rfl,aY _ _ hp,cl,n,l,k _ H' (aM.refl _) hu⟩
noncomputable def C6 (C:Addr) (names:List Str):Sp:=fun vs H Q _=>∃ (x dx:Addr) (args:List V),vs=.ref x::args∧args.length=names.length∧H x=some (.ins C dx []) ∧
  ∀ H':Hp,(∀ b,b≠x→H' b=H b)→H' x=some (.ins C dx (names.zip args))→Q .non H'
structure AL (P:Program) (w:World) (K:PySem.W.Frag) (mg:Str→Option Value) (base:Heap) (k:Nat) (x:Str) (C:Addr) (names:List Str):Prop where
  ex:∃ f fd ps,Mk K C f∧jR P w K mg base (CXW P w) k f fd ps (C6 C names)∧Binds K fd ps []∧mg x=some (.ref C)
noncomputable def vt (C:Addr) (names:List Str):List PyData→Rs PyData:=fun ds=>if ds.length=names.length then .ok (zP C (names.zip ds)) else .no
theorem xD {K:PySem.W.Frag} {H:Hp}:∀ {names:List Str} {ds:List PyData} {vs:List V},Iss K H ds vs→Isk K H ((names.zip ds).map fun p=>(.str p.1,p.2)) (names.zip vs)
  | [],_,_,_=>by simpa using ya
  | _::_,[],_,h=>by rw [h.nil_of]; simpa using ya
  | n::ns,d::ds,_,h=>by
    obtain ⟨v,r,rfl,h1,h2⟩:=h.cons_of
    simp only [List.zip_cons_cons,List.map_cons]
    exact uB h1 (xD h2)
theorem A8 {f:Str}:∀ {names:List Str} {vs:List V},f ∉ names→(names.zip vs).lookup f=none
  | [],_,_=>rfl
  | _::_,[],_=>rfl
  | n::ns,v::vs,h=>by
    rw [List.zip_cons_cons,List.lookup_cons,show (f == n)=false by simpa using fun q=>h (by rw [q]; exact List.mem_cons_self)]
    exact A8 fun q=>h (List.mem_cons_of_mem _ q)
theorem Cm {k j:Nat} {x:Str} {C:Addr} {names:List Str} {p:Pos} (D:AL X.prog X.w X.K X.mg X.base k x C names) (hr:fj j X.A) (hx:Passes (CXW X.prog X.w) X E) (ha:PAD X E (e::es) gs) (hk:k + 1≤j:=by decide) (hg:Gl X x:=by rfl)
    (hdb:(x == ("__debug__":Str))=false:=by decide) (he:starEach (e::es) X.env=(false,eval e X.env)::starEach es X.env:=by rfl) (hpl:(backTo pos (starEach es X.env)).any (·.1)=false:=by rfl) (hn:("@":Str) ∉ names:=by decide) :
    PD X E (.Call (.Name x p) (e::es) [] pos) (aE (vt C names) gs):=by
  obtain ⟨f,fd,ps,M,F,hb,hm⟩:=D.ex
  refine (BC M F (hr.mono hk) hg hm hb .nil hx ha.1 hdb he hpl).imp fun σ H Q rz3=>?_
  obtain ⟨A,δ,R,o⟩:=rz3
  refine rR R o fun ds vs H1 e s1 R1 h1 o=>?_
  unfold vt at o
  split at o
  · rename_i hl
    intro x dx nx ndx ne
    refine ⟨x,dx,vs++[],rfl,by rw [List.append_nil,h1.length,hl],cp,fun H' k1 k2=>⟨rfl,?_⟩⟩
    rw [List.append_nil] at k2
    have sm:aM H1 H':=fun b q eb=>by
      have n1:b≠x:=bF eb nx
      rw [k1 b n1,bx n1,bx (bF eb ndx)]
      exact eb
    refine o (.ref x) H' sm (DI (dx:=dx) (fs:=names.zip vs) ?_ (A8 hn) (xD (h1.same sm.del)))
    rw [cA (R1.ls.new nx)]
    exact k2
  · exact o.elim
noncomputable def uY:PyData→PyData→Option PyData
  | .list x,.int d=>(gM x).map fun ns=>.int ((va ns).getD d)
  | _,_=>none
end
section
variable {prog:Program} {w:World} {A:Around} {R:Result→Shared→Prop} {I:Addr} {fp wr:List Addr} {n:Nat} {T:Nat→Value→Prop} {St:Nat→Heap→Prop} {dv:Value}
theorem Ah (a v:Value):argsOk "max" ⟨[a],[(Str.ofString "default",v)]⟩:=by unfold argsOk; kernel_rfl
theorem ua:(toString "max"++toString ".loop":String)="max.loop":=by decide
theorem pV (W:Walks prog w A.in1 I fp wr n T St) (bt:Nat→Nat→Bool) (hc:CmpOf prog w A.in1 .Gt T bt) (S:Addr) (hf:S ∉ fp):∀ (k j:Nat) (s:Shared) (vb:Value) (c:Nat),n=j + 1 + k→St (j + 1) s.heap→T (argBest bt j) vb →
    s.heap.get? S=some { cls:=.type "list",dict:=none,data:=.seq #[vb,vb] c,slots:=#[] }→(∀ v h' tk,T (argBest bt (n - 1)) v→(∀ b o,b ∉ wr→b≠S→s.heap.get? b=some o→h'.get? b=some o)→R (.ok (.ret v)) { s with heap:=h',toks:=tk }) →
    codeAny (model prog w) A (.builtin "max.loop" ⟨[.ref I,.none,.ref S],[(Str.ofString "default",dv)]⟩) R s
  | 0,j,s,vb,c,hn,hst,hb,hS,hR=>by
    have nw:S ∉ wr:=fun h=>hf (W.sub _ h)
    refine codeAny_builtin F.entry_max_loop ?_
    rw [Around.under_plainId F.plain_max_loop _]; show wpAny _ A.in1 (seqItems? (.ref S) >>= _) _ _ s
    refine wpAny_bind (wpAny_seqItems hS rfl ?_); show wpAny _ A.in1 (tryCatch (pyNext (.ref I)) _ >>= _) _ _ s
    refine wpAny_bind (wpAny_tryCatch (W.done s _ _ (by rw [show n=j + 1 from hn]; exact hst) fun h1 t1 k1=>?_))
    have hS1:=k1 S _ nw hS
    show wpAny _ A.in1 (updateSeq S (fun _=>#[]) >>= _) _ _ _
    refine wpAny_bind (wpAny_updateSeq hS1 rfl (wpAny_bind (wpAny_letGo (wpAny_pure ?_))))
    exact hR vb _ t1 (by rw [show n - 1=j by omega]; exact hb) fun b o q1 q2 z=>(Heap.get?_update_other _ _ (Ne.symm q2)).trans (k1 b o q1 z)
  | k + 1,j,s,vb,c,hn,hst,hb,hS,hR=>by
    have nw:S ∉ wr:=fun h=>hf (W.sub _ h)
    refine codeAny_builtin F.entry_max_loop ?_
    rw [Around.under_plainId F.plain_max_loop _]; show wpAny _ A.in1 (seqItems? (.ref S) >>= _) _ _ s
    refine wpAny_bind (wpAny_seqItems hS rfl ?_); show wpAny _ A.in1 (tryCatch (pyNext (.ref I)) _ >>= _) _ _ s
    refine wpAny_bind (wpAny_tryCatch (W.item (j + 1) s _ _ (by omega) hst fun v h1 t1 hv st1 k1=>?_))
    have hS1:=k1 S _ nw hS
    show wpAny _ A.in1 (tryCatch (holding [v,v] (richCompare .Gt v vb >>= _)) _ >>= _) _ _ _
    refine wpAny_bind (wpAny_tryCatch (wpAny_holding (wpAny_bind (hc (j + 1) (argBest bt j) v vb _ _ _ hv hb (wpAny_bind (wpAny_holding (wpAny_truthy_bool (wpAny_bind (wpAny_letGo (wpAny_pure ?_))))))))))
    cases q:bt (j + 1) (argBest bt j) with
    | true =>
      rw [if_pos rfl]
      refine wpAny_bind (wpAny_updateSeq hS1 rfl (wpAny_bind (wpAny_letGo ?_)))
      rw [ua]
      refine wpAny_pure ⟨plainId_quiet F.plain_max_loop _,pV W bt hc S hf k (j + 1) _ v _ (by omega) (W.frame _ _ _ st1 fun b hbf o e=>?_) (by unfold argBest; rw [q]; exact hv) (Heap.get?_update_self _ hS1 rfl) fun v2 h2 t2 p2 k2=>?_⟩
      · exact (Heap.get?_update_other _ _ (fun z:S=b=>hf (z ▸ hbf))).trans e
      · exact hR v2 h2 t2 p2 fun b o q1 q2 z=>k2 b o q1 q2 ((Heap.get?_update_other _ _ (Ne.symm q2)).trans (k1 b o q1 z))
    | false =>
      rw [if_neg (by decide)]
      refine wpAny_bind (wpAny_letGo ?_)
      rw [ua]
      refine wpAny_pure ⟨plainId_quiet F.plain_max_loop _,pV W bt hc S hf k (j + 1) _ vb c (by omega) st1 (by unfold argBest; rw [q]; exact hb) hS1 fun v2 h2 t2 p2 k2=>?_⟩
      exact hR v2 h2 t2 p2 fun b o q1 q2 z=>k2 b o q1 q2 (k1 b o q1 z)
variable {E:Value→Shared→Prop} {s:Shared} {l:Addr} {xs:Array (Int × Tok)}
theorem Ax {Q:Value→Shared→Prop} (hh:A.handled=none) (hl:s.heap.IsList l (intItems xs))
    (h0:xs.size=0→∀ h' tk,(∀ b o,s.heap.get? b=some o→h'.get? b=some o)→Q dv { s with heap:=h',toks:=tk })
    (h:0 < xs.size→∀ v h' tk,(intItems xs)[argBest (fun i j=>decide (numAt xs i > numAt xs j)) (xs.size - 1)]?=some v→(∀ b o,s.heap.get? b=some o→h'.get? b=some o)→Q v { s with heap:=h',toks:=tk }) :
    wpAny (model prog w) A (call (.builtin "max") [.ref l] [(Str.ofString "default",dv)]) Q E s:=by
  refine kmk_tree F.kind_max F.plain_max F.entry_max (Ah _ _) ?_
  show wpAny _ A.in1 (Builtin.Builtins.bindParams "max" ["key", "default"] 0 ⟨[],[(Str.ofString "default",dv)]⟩ >>= _) _ _ s
  refine wpAny_bind (wpAny_of_eq (show Builtin.Builtins.bindParams "max" ["key", "default"] 0 ⟨[],[(Str.ofString "default",dv)]⟩=pure [none,some dv] from rfl) (wpAny_bind (wpAny_pure ?_)))
  refine wpAny_bind (iter_intList hl fun s2 e st hfp hlI=>wpAny_bind (wpAny_newObj_type ?_))
  subst e
  have W:=Walks.list (prog:=prog) (w:=w) (A:=A.in1) hh s.heap.objs.size l hlI (intItems xs)
  have hsz:(intItems xs).size=xs.size:=by simp [intItems]
  have hSf:(s.heap.push { cls:=.type "list_iterator",data:=.fields #[.ref l,.int 0 0] }).objs.size ∉ [s.heap.objs.size,l]:=fun hm=>Nat.lt_irrefl _ (hfp _ hm)
  rw [ua]
  refine wpAny_pure ⟨plainId_quiet F.plain_max_loop _,codeAny_builtin F.entry_max_loop ?_⟩
  rw [Around.under_plainId F.plain_max_loop _]
  show wpAny _ A.in1 (seqItems? (.ref _) >>= _) _ _ _
  refine wpAny_bind (wpAny_seqItems (Heap.get?_push_size _ rfl) rfl ?_)
  show wpAny _ A.in1 (tryCatch (pyNext (.ref _)) _ >>= _) _ _ _
  have st1:=W.frame _ _ _ st fun b _ o e=>Heap.get?_push_of_some { cls:=.type "list",data:=.seq #[] } e
  have nS:(s.heap.push { cls:=.type "list_iterator",data:=.fields #[.ref l,.int 0 0] }).objs.size ∉ [s.heap.objs.size]:=fun z=>hSf (List.mem_cons.mpr (.inl (List.mem_singleton.mp z)))
  have kp:∀ b o,s.heap.get? b=some o→b ∉ [s.heap.objs.size]∧((s.heap.push { cls:=.type "list_iterator",data:=.fields #[.ref l,.int 0 0] }).push { cls:=.type "list",data:=.seq #[] }).get? b=some o∧b≠(s.heap.push { cls:=.type "list_iterator",data:=.fields #[.ref l,.int 0 0] }).objs.size:=fun b o e=>by
    have hb:b < s.heap.objs.size:=Heap.lt_size e
    refine ⟨fun z=>?_,Heap.get?_push_of_some _ (Heap.get?_push_of_some _ e),?_⟩
    · rw [List.mem_singleton.mp z] at hb; exact Nat.lt_irrefl _ hb
    · rw [Heap.size_push]; exact Nat.ne_of_lt (Nat.lt_succ_of_lt hb)
  by_cases hz:xs.size=0
  · refine wpAny_bind (wpAny_tryCatch (W.done _ _ _ (by rw [hsz,hz]; exact st1) fun h1 t1 k1=>?_))
    show wpAny _ A.in1 (rule _ >>= _) _ _ _
    refine wpAny_bind (wpAny_rule (wpAny_pure ?_))
    exact h0 hz h1 t1 fun b o e=>k1 b o (kp b o e).1 (kp b o e).2.1
  · refine wpAny_bind (wpAny_tryCatch (W.item 0 _ _ _ (by rw [hsz]; omega) st1 fun v h1 t1 hv st2 k1=>?_))
    have hS1:=k1 _ _ nS (Heap.get?_push_size _ rfl)
    show wpAny _ A.in1 (updateSeq _ (fun _=>#[v,v]) >>= _) _ _ _
    refine wpAny_bind (wpAny_updateSeq hS1 rfl ?_)
    rw [ua]
    refine wpAny_pure ⟨plainId_quiet F.plain_max_loop _,pV W _ (CmpOf.ints_gt (numAt xs) fun _ _=>intItems_at) _ hSf (xs.size - 1) 0 _ v _ (by rw [hsz]; omega) (W.frame _ _ _ st2 fun b hbf o e=>?_) hv (Heap.get?_update_self _ hS1 rfl) fun v2 h2 t2 p2 k2=>?_⟩
    · exact (Heap.get?_update_other _ _ (fun z:(s.heap.push { cls:=.type "list_iterator",data:=.fields #[.ref l,.int 0 0] }).objs.size=b=>hSf (by rw [z]; exact hbf))).trans e
    · refine h (by omega) v2 h2 t2 (by rw [hsz] at p2; exact p2) fun b o e=>k2 b o (kp b o e).1 (kp b o e).2.2 ?_
      exact (Heap.get?_update_other _ _ (Ne.symm (kp b o e).2.2)).trans (k1 b o (kp b o e).1 (kp b o e).2.1)
end
section
variable {X:Cx} {E:XK} {O:List Nat} {e a b:Expr} {ga gb:Ds→Rs PyData} {es:List Expr} {gs:Ds→Rs (List PyData)} {pos:Pos}
theorem yB {ns:List Int} (h:ns.length=0) (d:Int):(va ns).getD d=d:=by cases ns with | nil=>rfl | cons _ _=>simp at h
theorem eD.weak {K:PySem.W.Frag} {g:Ds→Rs PyData} {σ:St} {H:Hp} {Q Q':VK} (h:eD K E g σ H Q) (k:∀ v H',Q v H'→Q' v H'):eD K E g σ H Q':=by
  obtain ⟨A,δ,R,o⟩:=h
  refine ⟨A,δ,R,?_⟩
  cases q:g δ with
  | ok d=>rw [q] at o; exact fun v H' s1 h1=>k v H' (o v H' s1 h1)
  | rz C=>rw [q] at o; exact o
  | no=>rw [q] at o; exact o
theorem BJ {p kp:Pos} (hc:X.calm=true) (hm:X.mg "max"=none) (ha:PD X E a ga) (hb:PD X E b gb) (hg:Gl X "max":=by rfl) (he:starEach [a] X.env=[(false,eval a X.env)]:=by rfl) :
    PD X E (.Call (.Name "max" p) [a] [⟨some "default",b,kp⟩] pos) (g2 uY ga gb):=by
  have key:PE X (.Call (.Name "max" p) [a] [⟨some "default",b,kp⟩] pos) (tOp (fun x y H Q=>∃ (p:Addr) (ns:List Int) (d:Int),x=.ref p∧y=.int d∧SqL X.K H p (ns.map V.int)∧Q (.int ((va ns).getD d)) H) (eD X.K E ga) (eD X.K E gb)):=by
    intro pins s σ H Q I h
    refine wpAny_Call_Name_kw (gU I hg hm BV ?_ (by decide) (by decide))
    refine callWith_kw ?_ (by rw [he]; rfl) (by rw [he]; rfl) rfl rfl
    refine thn ((fg ha iI he) pos pins s σ H (fun vs H1=>∃ x,vs=[x]∧eD X.K E gb σ H1 fun y H2=>∃ (p:Addr) (ns:List Int) (d:Int),x=.ref p∧y=.int d∧SqL X.K H2 p (ns.map V.int)∧Q (.int ((va ns).getD d)) H2) I
      (eD.weak h fun x H1 q=>⟨x,rfl,q⟩)) fun us s1 ⟨vs,H1,I1,r1,x,q0,q1⟩=>?_
    subst q0
    obtain ⟨u,rfl,ru⟩:=vals1 r1
    refine thn ((BM hb Dx) pos pins s1 σ H1 (fun vs H2=>∃ y,vs=[y]∧∃ (p:Addr) (ns:List Int) (d:Int),x=.ref p∧y=.int d∧SqL X.K H2 p (ns.map V.int)∧Q (.int ((va ns).getD d)) H2) I1
      (eD.weak q1 fun y H2 q=>⟨y,rfl,q⟩)) fun ws s2 ⟨zs,H2,I2,r2,y,q2,p,ns,d,ex,ey,hS,q3⟩=>?_
    subst q2
    obtain ⟨v,rfl,rv⟩:=vals1 r2
    subst ex ey
    obtain rfl:u=Value.ref p:=ru
    obtain ⟨td,rfl⟩:=(show ∃ t,v=Value.int d t from rv)
    obtain ⟨its,rl,pl,_⟩:=I2.list hS
    have hi:IntsAre its ns:=intsAre_of rl
    obtain ⟨xs,hx⟩:=hi.allInts.items
    have hns:ns=xs.toList.map (·.1):=by rw [← hi.numsOf,← nums_intItems,← hx]
    have hl':s2.heap.IsList p (intItems xs):=hx ▸ pl.isList
    have hnl:ns.length=xs.size:=by rw [hns,List.length_map,Array.length_toList]
    refine Ax (I2.ok.hd hc) hl' (fun hz h' tk hk=>?_) fun hz v h' tk hv hk=>?_
    · rw [yB (by omega) d] at q3
      exact ⟨.int d,H2,I2.kept hk,⟨_,rfl⟩,q3⟩
    · obtain ⟨t,rfl⟩:=intItems_at hv
      obtain ⟨h1,h2⟩:=argBest_gt (numAt xs) (xs.size - 1)
      obtain ⟨m,em⟩:∃ m,va ns=some m:=by
        cases ns with
        | nil=>simp at hnl; omega
        | cons _ _=>exact ⟨_,rfl⟩
      have e:numAt xs (argBest (fun i j=>decide (numAt xs i > numAt xs j)) (xs.size - 1))=m:=by
        refine Bt ?_ (fun b hb=>?_) em
        · rw [hns,numAt_eq]; exact getD_mem (by rw [List.length_map,Array.length_toList]; omega)
        · rw [hns] at hb
          obtain ⟨j,hj,rfl⟩:=mem_getD hb
          rw [List.length_map,Array.length_toList] at hj
          rw [← numAt_eq]; exact h2 j (by omega)
      rw [em] at q3
      exact ⟨.int m,H2,I2.kept hk,⟨_,by rw [← e]⟩,q3⟩
  exact key.imp fun σ H Q ⟨A,δ,R,o⟩=>g2.read (fun d1 d2 d x y H' A' Q' e' hA h1 h2 k=>by
    unfold uY at e'
    split at e'
    · rename_i l dd
      obtain ⟨ns,q,rfl⟩:=Option.map_eq_some_iff.mp e'
      obtain ⟨p,xs,rfl,hp,hx⟩:=h1.ofLst
      rw [dR q] at hx
      rw [hx.ofInts] at hp
      exact ⟨p,ns,dd,rfl,h2.ofInt,SqL.of (aY _ _ hp),k _ H' (aM.refl _) cT⟩
    · cases e') R o
end
end L2
namespace L2
open PySem PySem.Spec PyProof.Rows
theorem B2 {K:PySem.W.Frag} {qual:Str} {st:Stmt} {ps:List Str} {f C:Addr} {oc:Value} {od an:Option Addr} {sl:Array (Option Value)} {kV dc pm cd ct:Value}
    (hb:∀ (kV doc pm:Value) (an:Option Addr) (cdv ct:Value) (us:List Value),us.length=ps.length→bindArgs (PySem.W.fnOf "__init__" qual (g7 st) (eM st) (aB st) .none kV doc pm an cdv ct) ⟨us,[]⟩=pure (ps.zip us))
    (a:PySem.W.findIn K (.ref C) "__init__"=some (some (.ref f))) (i:PySem.W.isFn K (.ref f)=true)
    (l:K.lookup f=some ⟨oc,od,.func (PySem.W.fnOf "__init__" qual (g7 st) (eM st) (aB st) .none kV dc pm an cd ct),sl⟩)
    (c:PySem.W.codeIn K cd qual=true) (k:PySem.W.keepIn K (.ref f)=true) (mk:PySem.W.makesIn K C=true) (kc:PySem.W.keepIn K (.ref C)=true):∃ f fd,Mk K C f∧Fun K "__init__" qual st f fd∧Binds K fd ps [] :=
  have F:=zK (st:=st) l c k
  ⟨f,_,⟨mk,a,i,kc⟩,F,F.binds hb⟩
end L2
namespace L2
open PySem PySem.Spec PyProof.Rows
theorem pD {X:Cx} {e:Expr} {g:Ds→Rs Bool} (h:PCD X E0 e g):PTs X [e] (cD X.K E0 g):=.one h
end L2
namespace RS
open PySem
set_option genInjectivity true in
structure Er where
  every:Int
  due:Int
  late:Int
  parts:List (Int × Option Int)
noncomputable def bg:Option Int→PyData
  | none=>.none
  | some i=>.int i
noncomputable def aU (p:Int × Option Int):PyData:=.tuple [.int p.1,bg p.2]
noncomputable def Er.d (e:Er):PyData:=.tuple [.int e.every,.int e.due,.int e.late,.tuple (e.parts.map aU)]
noncomputable def av (es:List Er):PyData:=.tuple (es.map Er.d)
noncomputable def isWhole (d:PyData) (lo hi:Int):Bool:=match d with
  | .int i=>decide (lo≤i) && decide (i≤hi)
  | _=>false
noncomputable def cC (d:PyData) (lo hi:Int):Bool:=match d with
  | .tuple ds=>decide (lo≤(ds.length:Int)) && decide ((ds.length:Int)≤hi)
  | _=>false
noncomputable def dD (d:PyData):Bool:=match d with
  | .tuple [a,b]=>isWhole a 1 20 && (match b with | .none=>true | b=>isWhole b 0 3)
  | _=>false
noncomputable def jF (ds:List PyData):Bool:=match ds.getLast? with
  | some (.tuple [_,.none])=>true
  | _=>false
noncomputable def eB (d:PyData):Bool:=match d with
  | .tuple ds=>decide (1≤ds.length) && decide (ds.length≤4) && ds.all dD && jF ds
  | _=>false
noncomputable def bP (d:PyData):Bool:=match d with
  | .tuple [.int e,du,.int l,ps]=>decide (2≤e) && decide (e≤60) && (decide (0≤l) && decide (l≤(if e - 1 < 20 then e - 1 else 20))) && isWhole du 1 (e - l) && eB ps
  | _=>false
noncomputable def cI (d:PyData):Bool:=match d with
  | .tuple ds=>decide (1≤ds.length) && decide (ds.length≤6) && ds.all bP
  | _=>false
structure Er.Ok (e:Er):Prop where
  e1:2≤e.every
  e2:e.every≤60
  l1:0≤e.late
  l2:e.late≤20
  l3:e.late < e.every
  d1:1≤e.due
  d2:e.due≤e.every - e.late
  p1:e.parts≠[]
  p2:e.parts.length≤4
  pl:∀ p∈e.parts,1≤p.1∧p.1≤20∧∀ t,p.2=some t→0≤t∧t≤3
  la:∀ p,e.parts.getLast?=some p→p.2=none
theorem yW {p:Int × Option Int} (h1:1≤p.1) (h2:p.1≤20) (h3:∀ t,p.2=some t→0≤t∧t≤3):dD (aU p)=true:=by
  obtain ⟨l,t⟩:=p
  cases t with
  | none=>simp [dD,aU,bg,isWhole,h1,h2]
  | some t =>
    obtain ⟨a,b⟩:=h3 t rfl
    simp [dD,aU,bg,isWhole,h1,h2,a,b]
theorem oY {e:Er} (h:e.Ok):bP e.d=true:=by
  have hp:(e.parts.map aU).all dD=true:=by
    rw [List.all_eq_true]
    intro d hd
    obtain ⟨p,hp,rfl⟩:=List.mem_map.mp hd
    obtain ⟨a,b,c⟩:=h.pl p hp
    exact yW a b c
  have hl:jF (e.parts.map aU)=true:=by
    unfold jF
    rw [List.getLast?_map]
    cases q:e.parts.getLast? with
    | none=>exact absurd (List.getLast?_eq_none_iff.mp q) h.p1
    | some p =>
      obtain ⟨l,t⟩:=p
      have:t=none:=h.la _ q
      subst this
      rfl
  have hn:1≤e.parts.length:=by
    cases q:e.parts with
    | nil=>exact absurd q h.p1
    | cons _ _=>simp
  have h1:=h.e1; have h2:=h.e2; have h3:=h.l1; have h4:=h.l2; have h5:=h.l3; have h6:=h.d1; have h7:=h.d2; have h8:=h.p2
  have hl2:e.late≤if e.every - 1 < 20 then e.every - 1 else 20:=by split <;> omega
  simp [bP,Er.d,eB,isWhole,hp,hl,hn,h1,h2,h3,h6,h7,h8,hl2]
theorem hV {es:List Er} (h1:1≤es.length) (h2:es.length≤6) (h:∀ e∈es,e.Ok):cI (av es)=true:=by
  have hp:(es.map Er.d).all bP=true:=by
    rw [List.all_eq_true]
    intro d hd
    obtain ⟨e,he,rfl⟩:=List.mem_map.mp hd
    exact oY (h e he)
  simp [cI,av,h1,h2,hp]
noncomputable def cellAt (ns:List Int) (k:Int):Int :=
  if k < (ns.length:Int) then ns.getD k.toNat 0 else if ns=[] then 0 else ns.getD (k % (ns.length:Int)).toNat 0 * 31 + k
noncomputable def yR (ns:List Int) (k:Int):Int:=(cellAt ns k + 7919 * k + 1) * 48271 % 2147483647
noncomputable def mixed (ns:List Int) (k many:Int):Int:=(yR ns k * yR ns k + 7 * yR ns k + k) % 2147483629 % many
theorem Cu (ns:List Int) (k:Int):0≤yR ns k:=Int.emod_nonneg _ (by decide)
theorem Cw (ns:List Int) (k:Int):yR ns k < 2147483647:=Int.emod_lt_of_pos _ (by decide)
theorem dh (ns:List Int) (k:Int) {many:Int} (h:0 < many):0≤mixed ns k many:=Int.emod_nonneg _ (by omega)
theorem dG (ns:List Int) (k:Int) {many:Int} (h:0 < many):mixed ns k many < many:=Int.emod_lt_of_pos _ h
noncomputable def l7 (i:Int):Option Int:=if i=0 then some 0 else if i=1 then some 1 else if i=2 then some 1 else if i=3 then some 0 else none
noncomputable def fo (ns:List Int) (j:Int) (tools:Bool):Int × Option Int:=(1 + mixed ns j 40 % 4,if tools then l7 (mixed ns j 40 / 4 % 5) else none)
noncomputable def jt (ns:List Int) (at' every:Int):Int :=
  if every - 1 < mixed ns (at' + 1) 4 * (if mixed ns (at' + 2) 3=0 then 1 else 0) then every - 1 else mixed ns (at' + 1) 4 * (if mixed ns (at' + 2) 3=0 then 1 else 0)
noncomputable def oP (ns:List Int) (at' due:Int):Int:=if mixed ns (at' + 1) 3=0 then due - mixed ns (at' + 2) due else due
noncomputable def mkE (ns:List Int) (at' top:Int) (tools:Bool):Er where
  every:=3 + mixed ns at' top
  late:=jt ns at' (3 + mixed ns at' top)
  due:=oP ns at' (3 + mixed ns at' top - jt ns at' (3 + mixed ns at' top))
  parts:=((List.range (mixed ns (at' + 3) 3).toNat).map fun (k:Nat)=>fo ns (at' + 4 + (k:Int)) tools)++[(1 + mixed ns (at' + 6) 3,none)]
noncomputable def o6 (ns:List Int) (at' most top:Int) (tools:Bool):List Er:=(List.range (1 + mixed ns at' most).toNat).map fun (k:Nat)=>mkE ns (at' + 1 + 7 * (k:Int)) top tools
theorem vN (ns:List Int) (at' every:Int) (h:3≤every):0≤jt ns at' every∧jt ns at' every≤3∧jt ns at' every < every:=by
  have h1:=dh ns (at' + 1) (many:=4) (by decide)
  have h2:=dG ns (at' + 1) (many:=4) (by decide)
  unfold jt
  generalize mixed ns (at' + 1) 4=x at *
  by_cases hc:mixed ns (at' + 2) 3=0
  · simp only [hc,if_true,Int.mul_one]; split <;> omega
  · simp only [hc,if_false,Int.mul_zero]; split <;> omega
theorem B4 (ns:List Int) (at' due:Int) (h:1≤due):1≤oP ns at' due∧oP ns at' due≤due:=by
  have h1:=dh ns (at' + 2) (many:=due) (by omega)
  have h2:=dG ns (at' + 2) (many:=due) (by omega)
  unfold oP
  split <;> omega
theorem BN (i t:Int) (h:l7 i=some t):0≤t∧t≤1:=by
  unfold l7 at h
  repeat' split at h
  all_goals (first | (cases h; decide) | cases h)
theorem Av (ns:List Int) (j:Int) (tools:Bool):1≤(fo ns j tools).1∧(fo ns j tools).1≤4∧∀ t,(fo ns j tools).2=some t→0≤t∧t≤1:=by
  have h1:0≤mixed ns j 40 % 4:=Int.emod_nonneg _ (by decide)
  have h2:mixed ns j 40 % 4 < 4:=Int.emod_lt_of_pos _ (by decide)
  refine ⟨by unfold fo; simp only; omega,by unfold fo; simp only; omega,fun t h=>?_⟩
  unfold fo at h
  simp only at h
  cases tools with
  | false=>simp at h
  | true=>simp at h; exact BN _ _ h
theorem DM (ns:List Int) (at' top:Int) (tools:Bool) (h1:0 < top) (h2:top≤58):(mkE ns at' top tools).Ok:=by
  have a1:=dh ns at' h1
  have a2:=dG ns at' h1
  have l:=vN ns at' (3 + mixed ns at' top) (by omega)
  have d:=B4 ns at' (3 + mixed ns at' top - jt ns at' (3 + mixed ns at' top)) (by omega)
  have n1:=dh ns (at' + 3) (many:=3) (by decide)
  have n2:=dG ns (at' + 3) (many:=3) (by decide)
  have n3:=dh ns (at' + 6) (many:=3) (by decide)
  have n4:=dG ns (at' + 6) (many:=3) (by decide)
  refine ⟨?_,?_,l.1,?_,l.2.2,d.1,d.2,?_,?_,?_,?_⟩
  · show 2≤3 + mixed ns at' top; omega
  · show 3 + mixed ns at' top≤60; omega
  · have:=l.2.1; show jt ns at' (3 + mixed ns at' top)≤20; omega
  · simp [mkE]
  · simp only [mkE,List.length_append,List.length_map,List.length_range,List.length_singleton]; omega
  · intro p hp
    simp only [mkE,List.mem_append,List.mem_map,List.mem_singleton] at hp
    rcases hp with ⟨k,_,rfl⟩ | rfl
    · have:=Av ns (at' + 4 + (k:Int)) tools
      refine ⟨this.1,by omega,fun t ht=>?_⟩
      have:=this.2.2 t ht
      omega
    · exact ⟨by simp only; omega,by simp only; omega,fun t ht=>by cases ht⟩
  · intro p hp
    simp only [mkE,List.getLast?_append,List.getLast?_singleton,Option.some_or] at hp
    cases hp; rfl
theorem Ab (ns:List Int) (at' most top:Int) (tools:Bool) (h:0 < most):1≤(o6 ns at' most top tools).length∧((o6 ns at' most top tools).length:Int)≤most:=by
  have h1:=dh ns at' h
  have h2:=dG ns at' h
  simp only [o6,List.length_map,List.length_range]
  omega
theorem Cz (ns:List Int) (at' most top:Int) (tools:Bool) (h1:0 < top) (h2:top≤58):∀ e∈o6 ns at' most top tools,e.Ok:=by
  intro e he
  simp only [o6,List.mem_map] at he
  obtain ⟨k,_,rfl⟩:=he
  exact DM _ _ _ _ h1 h2
end RS
namespace RS
open PySem L2
structure Cs where
  RankError:Addr
  NoErrands:Addr
  NoRanks:Addr
  NoComings:Addr
  NoErrand:Addr
  NoNumber:Addr
  TooLong:Addr
  NoText:Addr
  Holding:Addr
  Jobs:Addr
noncomputable abbrev Gf:=List PyData→Rs PyData
noncomputable def aQ (K:PySem.W.Frag) (mg:Str→Option Value) (x:Str) (st:Stmt) (ps:List Str):Prop:=∃ f fd,Fun K x x st f fd∧Binds K fd ps []∧mg x=some (.ref f)
noncomputable def ip (cs:Cs):Ds→Sr :=
  (bo (sIf (cOr (iO (gT (g1 (ug "int") (ag 0)))) (gT (g1 (ug "bool") (ag 0)))) (b6 (gC (.bool false))) b5)
    (b6 (n6 dLe dLe (ag 1) (ag 0) (ag 2))))
noncomputable def ir (cs:Cs):Ds→Sr :=
  (b6 (xk (g1 (ug "tuple") (ag 0)) (n6 dLe dLe (ag 1) (gF eR (af (ag 0) ar)) (ag 2))))
noncomputable def gv (cs:Cs) (aJ aH:Gf):Ds→Sr :=
  (bo (sIf (cOr (iO (gT (aE aH (af (ag 0) (af (gC (.int 2)) (af (gC (.int 2)) ar)))))) (iO (gT (aE aJ (af (g2 dIx (ag 0) (gC (.int 0))) (af (gC (.int 1)) (af (gC (.int 20)) ar))))))) (b6 (gC (.bool false))) b5)
    (b6 (gOr (g1 vA (g2 dIx (ag 0) (gC (.int 1)))) (aE aJ (af (g2 dIx (ag 0) (gC (.int 1))) (af (gC (.int 0)) (af (g2 eW (gC (.int 4)) (gC (.int 1))) ar)))))))
noncomputable def fv (cs:Cs) (aH gf_is_part:Gf):Ds→Sr :=
  (bo (sIf (cOr (iO (gT (aE aH (af (ag 0) (af (gC (.int 1)) (af (gC (.int 4)) ar)))))) (iO (gT (gF sW (af (gL (cw 1 (dS (ag 0)) cY (aE gf_is_part (af (ag 1) ar)) bT)) ar))))) (b6 (gC (.bool false))) b5)
    (b6 (g1 vA (g2 dIx (g2 dIx (ag 0) (g1 nM (gC (.int 1)))) (gC (.int 1))))))
noncomputable def dN (cs:Cs) (aJ gf_are_parts aH:Gf):Ds→Sr :=
  (bo (sIf (iO (gT (aE aH (af (ag 0) (af (gC (.int 4)) (af (gC (.int 4)) ar)))))) (b6 (gC (.bool false))) b5)
    (bo (bj [] 1 (g2 dIx (ag 0) (gC (.int 0))))
    (bo (bj [] 2 (g2 dIx (ag 0) (gC (.int 1))))
    (bo (bj [] 3 (g2 dIx (ag 0) (gC (.int 2))))
    (bo (sIf (iO (gT (aE aJ (af (ag 1) (af (gC (.int 2)) (af (gC (.int 60)) ar)))))) (b6 (gC (.bool false))) b5)
    (bo (sIf (iO (gT (aE aJ (af (ag 3) (af (gC (.int 0)) (af (gF qt (af (gC (.int 20)) (af (g2 eW (ag 1) (gC (.int 1))) ar))) ar)))))) (b6 (gC (.bool false))) b5)
    (b6 (xk (aE aJ (af (ag 2) (af (gC (.int 1)) (af (g2 eW (ag 1) (ag 3)) ar)))) (aE gf_are_parts (af (g2 dIx (ag 0) (gC (.int 3))) ar))))))))))
noncomputable def h9 (cs:Cs) (aH gf_is_errand:Gf):Ds→Sr :=
  (bo (sIf (cOr (iO (gT (aE aH (af (ag 0) (af (gC (.int 1)) (af (gC (.int 6)) ar)))))) (iO (gT (gF sW (af (gL (cw 1 (dS (ag 0)) cY (aE gf_is_errand (af (ag 1) ar)) bT)) ar))))) (my cs.NoErrands (af (gC (.str "errands are a tuple of 1 to 6 errands (every, due, late, parts)")) ar)) b5)
    (b6 (ag 0)))
noncomputable def cO (cs:Cs) (aH aJ:Gf):Ds→Sr :=
  (bo (bj [] 2 (g2 eW (gF eR (af (ag 0) ar)) (gC (.int 1))))
    (bo (sIf (cOr (iO (gT (aE aH (af (ag 1) (af (gF eR (af (ag 0) ar)) (af (gF eR (af (ag 0) ar)) ar)))))) (iO (gT (gF sW (af (gL (cw 3 (dS (ag 1)) cY (aE aJ (af (ag 3) (af (gC (.int 0)) (af (ag 2) ar)))) bT)) ar))))) (my cs.NoRanks (af (gC (.str "ranks are a tuple of the numbers of all errands")) ar)) b5)
    (bo (sIf (gT (g2 dLt (gF nN (af (ag 1) ar)) (gF eR (af (ag 1) ar)))) (my cs.NoRanks (af (gC (.str "ranks have each errand's number once")) ar)) b5)
    (b6 (ag 1)))))
noncomputable def dH (cs:Cs) (aJ:Gf):Ds→Sr :=
  (bo (sIf (iO (gT (aE aJ (af (ag 1) (af (gC (.int 0)) (af (g2 eW (gF eR (af (ag 0) ar)) (gC (.int 1))) ar)))))) (my cs.NoErrand (af (gC (.str "no errand has this number")) ar)) b5)
    (b6 (ag 1)))
noncomputable def e6 (cs:Cs) (bc bw ba:Gf):Ds→Sr :=
  (bo (nz (aE ba (af (ag 0) ar)))
    (bo (nz (aE bw (af (ag 0) (af (ag 1) ar))))
    (nz (aE bc (af (ag 0) (af (ag 2) ar))))))
noncomputable def n9 (cs:Cs):Ds→Sr :=
  (b6 (gF yU (af (gL (cw 1 (dS (g2 dIx (ag 0) (gC (.int 3)))) cY (g2 dIx (ag 1) (gC (.int 0))) bT)) ar)))
noncomputable def iG (cs:Cs):Ds→Sr :=
  (b6 (g2 (kS false) (ag 1) (gL (cw 2 (dS (g2 dIx (ag 0) (gC (.int 3)))) cY (g2 dIx (ag 2) (gC (.int 1))) bT))))
noncomputable def kL (cs:Cs) (b8:Gf):Ds→Sr :=
  (bo (iT [] (qd (af (ag 1) ar)) (dA [3,4]) (sIf (gT (aE b8 (af (g2 dIx (ag 0) (ag 4)) (af (ag 2) ar)))) (b6 (ag 3)) b5))
    (b6 (gC .none)))
noncomputable def fB (cs:Cs) (cJ:Gf):Ds→Sr :=
  (b6 (gL (cw 2 (e8 (af (gC (.int 4)) ar)) cY (aE cJ (af (ag 0) (af (ag 1) (af (ag 2) ar)))) bT)))
noncomputable def iE (cs:Cs) (bX:Gf):Ds→Sr :=
  (bo (bj [5] 3 (rk (ag 1) (ag 2)))
    (bo (bj [5] 4 (aE bX (af (ag 0) (af (ag 1) ar))))
    (bo (lM [5] 5 ar)
    (bo (iT [5] (dS (da (ag 1) (eU (g2 br (ag 3) (gC (.int 1)))) cB)) (b7 6) (iT [5] (qd (af (g2 dIx (g2 dIx (ag 0) (ag 6)) (gC (.int 3))) ar)) (dA [7,8]) (sIf (nW (gT (g1 fZ (g2 dIx (ag 8) (gC (.int 1))))) (gT (g2 dLe (g2 dIx (ag 4) (g2 dIx (ag 8) (gC (.int 1)))) (ag 3)))) (nF [5] 5 (aE (vt cs.Holding ["number", "part", "tool", "times"]) (af (ag 6) (af (ag 7) (af (g2 dIx (ag 8) (gC (.int 1))) (af (g2 eW (g2 dIx (ag 8) (gC (.int 0))) (gC (.int 1))) ar)))))) b5)))
    (b6 (ag 5))))))
noncomputable def eI (cs:Cs) (ck:Gf):Ds→Sr :=
  (b6 (g2 uY (gL (cw 3 (dS (aE ck (af (ag 0) (af (ag 1) (af (ag 2) ar))))) cY (g1 (pH cs.Holding "times") (ag 3)) bT)) (gC (.int 0))))
noncomputable def fQ (cs:Cs):Ds→Sr :=
  (b6 (g2 sy (g2 eW (g2 br (ag 0) (ag 1)) (gC (.int 1))) (ag 1)))
noncomputable def qe (cs:Cs) (gf_work_of bE:Gf):Ds→Sr :=
  (bo (bj [] 5 (g2 br (ag 3) (aE gf_work_of (af (g2 dIx (ag 0) (ag 2)) ar))))
    (bo (iT [] (dS (da (ag 1) cB (eU (rk (ag 1) (ag 2))))) (b7 6) (bo (bj [] 7 (g2 dIx (ag 0) (ag 6)))
    (tE [] 5 (g2 nB (aE gf_work_of (af (ag 7) ar)) (aE bE (af (g2 br (ag 4) (g2 dIx (ag 7) (gC (.int 2)))) (af (g2 dIx (ag 7) (gC (.int 0))) ar)))))))
    (b6 (ag 5))))
noncomputable def gG (cs:Cs) (cK:Gf):Ds→Sr :=
  (bo (bj [5] 4 (g2 eW (g2 dIx (g2 dIx (ag 0) (ag 2)) (gC (.int 0))) (g2 dIx (g2 dIx (ag 0) (ag 2)) (gC (.int 2)))))
    (bo (lM [5] 5 ar)
    (bo (bj [5] 6 (aE cK (af (ag 0) (af (ag 1) (af (ag 2) (af (ag 3) (af (gC (.int 1)) ar)))))))
    (bo (fun δ=>c8 (gT (g2 dLe (ag 6) (ag 4))) (bo (nF [5] 5 (ag 6))
    (bo (bj [5] 7 (aE cK (af (ag 0) (af (ag 1) (af (ag 2) (af (ag 3) (af (ag 6) ar)))))))
    (bo (sIf (gT (g2 dEq (ag 7) (ag 6))) (b6 (ag 5)) b5)
    (bj [5] 6 (ag 7))))) 1000000 δ)
    (b6 (gC .none))))))
noncomputable def eJ (cs:Cs) (cf:Gf):Ds→Sr :=
  (bo (bj [] 4 (aE cf (af (ag 0) (af (ag 1) (af (ag 2) (af (ag 3) ar))))))
    (b6 (gIf (gT (g1 vA (ag 4))) (gC .none) (g2 dIx (ag 4) (g1 nM (gC (.int 1)))))))
noncomputable def dj (cs:Cs) (bJ b4:Gf):Ds→Sr :=
  (b6 (aE b4 (af (ag 0) (af (ag 1) (af (ag 2) (af (aE bJ (af (ag 0) (af (ag 1) (af (ag 2) ar)))) ar))))))
noncomputable def gx (cs:Cs) (bp:Gf):Ds→Sr :=
  (bo (bj [] 4 (aE bp (af (ag 0) (af (ag 1) (af (ag 2) ar)))))
    (b6 (xk (g1 fZ (ag 4)) (g2 dLe (g2 br (ag 4) (ag 3)) (g2 dIx (g2 dIx (ag 0) (ag 2)) (gC (.int 1)))))))
noncomputable def fI (cs:Cs) (bu:Gf):Ds→Sr :=
  (b6 (aE bu (af (ag 0) (af (ag 1) (af (ag 2) (af (gC (.int 0)) ar))))))
noncomputable def fT (cs:Cs) (ak:Gf):Ds→Sr :=
  (bo (bj [7] 4 (g2 br (gC (.int 3)) (aE ak (af (ag 0) (af (ag 1) (af (ag 2) ar))))))
    (bo (bj [7] 5 (g2 nB (aE ak (af (ag 0) (af (g2 br (ag 1) (gC (.int 1))) (af (gC (.int 4)) ar)))) (gF vo (af (g2 dEq (aE ak (af (ag 0) (af (g2 br (ag 1) (gC (.int 2))) (af (gC (.int 3)) ar)))) (gC (.int 0))) ar))))
    (bo (bj [7] 5 (gF qt (af (ag 5) (af (g2 eW (ag 4) (gC (.int 1))) ar))))
    (bo (bj [7] 6 (g2 eW (ag 4) (ag 5)))
    (bo (sIf (gT (g2 dEq (aE ak (af (ag 0) (af (g2 br (ag 1) (gC (.int 1))) (af (gC (.int 3)) ar)))) (gC (.int 0)))) (bj [7] 6 (g2 eW (ag 6) (aE ak (af (ag 0) (af (g2 br (ag 1) (gC (.int 2))) (af (ag 6) ar)))))) b5)
    (bo (lM [7] 7 ar)
    (bo (iT [7] (e8 (af (aE ak (af (ag 0) (af (g2 br (ag 1) (gC (.int 3))) (af (gC (.int 3)) ar)))) ar)) (b7 8) (bo (bj [7] 9 (aE ak (af (ag 0) (af (g2 br (g2 br (ag 1) (gC (.int 4))) (ag 8)) (af (gC (.int 40)) ar)))))
    (bo (nF [7] 7 (gN (af (g2 br (gC (.int 1)) (g2 o8 (ag 9) (gC (.int 4)))) (af (g2 dIx (sU (af (gC (.int 0)) (af (gC (.int 1)) (af (gC (.int 1)) (af (gC (.int 0)) (af (gC .none) ar)))))) (g2 o8 (g2 sy (ag 9) (gC (.int 4))) (gC (.int 5)))) ar))))
    (sIf (iO (gT (ag 3))) (rf 7 (g1 nM (gC (.int 1))) (gN (af (g2 dIx (g2 dIx (ag 7) (g1 nM (gC (.int 1)))) (gC (.int 0))) (af (gC .none) ar)))) b5))))
    (b6 (gN (af (ag 4) (af (ag 6) (af (ag 5) (af (gF ka (af (g2 br (ag 7) (sU (af (gN (af (g2 br (gC (.int 1)) (aE ak (af (ag 0) (af (g2 br (ag 1) (gC (.int 6))) (af (gC (.int 3)) ar))))) (af (gC .none) ar))) ar))) ar)) ar)))))))))))))
noncomputable def fe (cs:Cs) (bU ak:Gf):Ds→Sr :=
  (bo (bj [] 5 (g2 br (gC (.int 1)) (aE ak (af (ag 0) (af (ag 1) (af (ag 2) ar))))))
    (b6 (gF ka (af (gL (cw 6 (e8 (af (ag 5) ar)) cY (aE bU (af (ag 0) (af (g2 br (g2 br (ag 1) (gC (.int 1))) (g2 nB (gC (.int 7)) (ag 6))) (af (ag 3) (af (ag 4) ar))))) bT)) ar))))
noncomputable def gO (cs:Cs) (ak:Gf):Ds→Sr :=
  (bo (lM [3,4] 3 (gLR (af (ag 2) ar)))
    (bo (lM [3,4] 4 ar)
    (bo (iT [3,4] (e8 (af (ag 2) ar)) (b7 5) (kf 4 3 (aE ak (af (ag 0) (af (g2 br (ag 1) (ag 5)) (af (gF eR (af (ag 3) ar)) ar))))))
    (b6 (gF ka (af (ag 4) ar))))))
noncomputable def ff (cs:Cs):Ds→Sr :=
  (bo (lM [2] 2 (af (gC .none) (af (gC .none) (af (gC .none) (af (gC .none) ar)))))
    (bo (iT [2] (xB (af (g2 eW (gF eR (af (ag 1) ar)) (gC (.int 1))) (af (g1 nM (gC (.int 1))) (af (g1 nM (gC (.int 1))) ar)))) (b7 3) (iT [2] (dS (g2 dIx (g2 dIx (ag 0) (g2 dIx (ag 1) (ag 3))) (gC (.int 3)))) (dA [4,5]) (sIf (gT (g1 fZ (ag 5))) (rf 2 (ag 5) (ag 3)) b5)))
    (b6 (ag 2))))
noncomputable def iz (cs:Cs) (bM:Gf):Ds→Sr :=
  (bo (bj [] 3 (rk (ag 1) (ag 2)))
    (bo (bj [] 4 (aE bM (af (ag 0) (af (ag 1) ar))))
    (bo (bj [] 5 (gC (.int 0)))
    (bo (iT [] (dS (da (ag 1) (eU (g2 br (ag 3) (gC (.int 1)))) cB)) (b7 6) (iT [] (dS (g2 dIx (g2 dIx (ag 0) (ag 6)) (gC (.int 3)))) (dA [7,8]) (sIf (nW (gT (g1 fZ (ag 8))) (gT (g2 dLe (g2 dIx (ag 4) (ag 8)) (ag 3)))) (bj [] 5 (gF lY (af (ag 5) (af (g2 eW (ag 7) (gC (.int 1))) ar)))) b5)))
    (b6 (ag 5))))))
noncomputable def jZ (cs:Cs):Ds→Sr :=
  (b6 (gF yU (af (gL (cw 1 (dS (g2 dIx (ag 0) (gC (.int 3)))) cY (g2 dIx (ag 1) (gC (.int 0))) bT)) ar)))
noncomputable def ie (cs:Cs) (bq b3:Gf):Ds→Sr :=
  (bo (bj [] 4 (g2 br (aE b3 (af (ag 0) (af (ag 1) (af (ag 2) ar)))) (aE bq (af (g2 dIx (ag 0) (ag 2)) ar))))
    (bo (iT [] (dS (da (ag 1) cB (eU (rk (ag 1) (ag 2))))) (b7 5) (bo (qY [] (dA [6,7,8,9]) (g2 dIx (ag 0) (ag 5)))
    (bo (bj [] 10 (g2 br (g2 sy (g2 br (ag 3) (ag 8)) (ag 6)) (gF vo (af (g2 dGt (g2 o8 (g2 br (ag 3) (ag 8)) (ag 6)) (gC (.int 0))) ar))))
    (bj [] 4 (g2 br (ag 4) (g2 nB (ag 10) (aE bq (af (g2 dIx (ag 0) (ag 5)) ar))))))))
    (b6 (ag 4))))
noncomputable def e9 (cs:Cs) (cj:Gf):Ds→Sr :=
  (bo (iT [] (yq (af (gC (.int 1)) (af (g2 br (g2 eW (g2 dIx (g2 dIx (ag 0) (ag 2)) (gC (.int 0))) (g2 dIx (g2 dIx (ag 0) (ag 2)) (gC (.int 2)))) (gC (.int 1))) ar))) (b7 3) (sIf (gT (g2 dLe (aE cj (af (ag 0) (af (ag 1) (af (ag 2) (af (ag 3) ar))))) (ag 3))) (b6 (ag 3)) b5))
    (b6 (gC .none)))
noncomputable def d7 (cs:Cs) (bS:Gf):Ds→Sr :=
  (bo (bj [] 3 (aE bS (af (ag 0) (af (ag 1) (af (ag 2) ar)))))
    (b6 (xk (g1 fZ (ag 3)) (g2 dLe (ag 3) (g2 dIx (g2 dIx (ag 0) (ag 2)) (gC (.int 1)))))))
end RS
set_option maxRecDepth 100000
set_option maxHeartbeats 1000000
namespace RS
open PySem L2
theorem B5 {O:List Nat} {δ:Ds} {i:Nat} (h:i ∉ O):(mask O δ)[i]?=δ[i]?:=by
  unfold mask
  by_cases z:O=[]
  · rw [if_pos z]
  · rw [if_neg z,List.getElem?_mapIdx]
    cases δ[i]? with
    | none=>rfl
    | some d=>simp [h]
theorem aL {O:List Nat} {δ:Ds} {i:Nat} (h:i ∉ O):ag i (mask O δ)=ag i δ:=by unfold ag; rw [B5 h]
@[simp] theorem aw (d:PyData) (δ:Ds):ag 0 (some d::δ)=.ok d:=rfl
@[simp] theorem ax (i:Nat) (x:Option PyData) (δ:Ds):ag (i + 1) (x::δ)=ag i δ:=rfl
@[simp] theorem dz (d:PyData) (δ:Ds):gC d δ=.ok d:=rfl
@[simp] theorem sM (f:PyData→Option PyData) (a:Ds→Rs PyData) (δ:Ds):g1 f a δ=(a δ).bind fun x=>Rs.f9 (f x):=rfl
@[simp] theorem cu (f:PyData→PyData→Option PyData) (a b:Ds→Rs PyData) (δ:Ds):g2 f a b δ=(a δ).bind fun x=>(b δ).bind fun y=>Rs.f9 (f x y):=rfl
@[simp] theorem jH (f:List PyData→Option PyData) (a:Ds→Rs (List PyData)) (δ:Ds):gF f a δ=(a δ).bind fun x=>Rs.f9 (f x):=rfl
@[simp] theorem aP (δ:Ds):ar δ=.ok []:=rfl
@[simp] theorem aI (a:Ds→Rs PyData) (r:Ds→Rs (List PyData)) (δ:Ds):af a r δ=(a δ).bind fun x=>(r δ).bind fun xs=>.ok (x::xs):=rfl
@[simp] theorem kX (a:Ds→Rs (List PyData)) (δ:Ds):gN a δ=(a δ).bind fun ds=>.ok (.tuple ds):=rfl
@[simp] theorem sF (a:Ds→Rs (List PyData)) (δ:Ds):sU a δ=(a δ).bind fun ds=>.ok (.list ds):=rfl
@[simp] theorem a5 (f:Gf) (a:Ds→Rs (List PyData)) (δ:Ds):aE f a δ=(a δ).bind f:=rfl
@[simp] theorem g5 (a:Ds→Rs PyData) (δ:Ds):gT a δ=(a δ).bind truth:=rfl
@[simp] theorem b9 (b:Bool):truth (.bool b)=.ok b:=rfl
@[simp] theorem tM (a:Ds→Rs Bool) (δ:Ds):iO a δ=(a δ).bind fun b=>.ok (!b):=rfl
@[simp] theorem oO (a b:Ds→Rs Bool) (δ:Ds):nW a b δ=(a δ).bind fun x=>if x=true then b δ else .ok false:=rfl
@[simp] theorem xF (a b:Ds→Rs Bool) (δ:Ds):cOr a b δ=(a δ).bind fun x=>if x=true then .ok true else b δ:=rfl
@[simp] theorem AM (a b:Ds→Rs PyData) (δ:Ds):xk a b δ=(a δ).bind fun x=>(truth x).bind fun t=>if t=true then b δ else .ok (.bool false):=rfl
@[simp] theorem FZ (a b:Ds→Rs PyData) (δ:Ds):gOr a b δ=(a δ).bind fun x=>(truth x).bind fun t=>if t=true then .ok (.bool true) else b δ:=rfl
@[simp] theorem Fp (a:Ds→Rs PyData) (δ:Ds):FV a δ=(a δ).bind fun x=>(truth x).bind fun t=>.ok (.bool (!t)):=rfl
@[simp] theorem uj (a:Ds→Rs (List PyData)) (δ:Ds):gL a δ=(a δ).bind fun ds=>.ok (.list ds):=rfl
@[simp] theorem mS (a:Ds→Rs PyData) (δ:Ds):dS a δ=(a δ).bind yp:=rfl
@[simp] theorem Fu (ds:List PyData):yp (.list ds)=.ok ds:=rfl
@[simp] theorem n5 (ds:List PyData):yp (.tuple ds)=.ok ds:=rfl
@[simp] theorem j8 (a:Ds→Rs (List PyData)) (δ:Ds):e8 a δ=(a δ).bind BR:=rfl
@[simp] theorem Ce (a:Ds→Rs (List PyData)) (δ:Ds):yq a δ=(a δ).bind Eh:=rfl
@[simp] theorem B6 (a:Ds→Rs (List PyData)) (δ:Ds):xB a δ=(a δ).bind zZ:=rfl
@[simp] theorem EK (a:Ds→Rs (List PyData)) (δ:Ds):gLR a δ=(a δ).bind tL:=rfl
@[simp] theorem xR (a:Ds→Rs (List PyData)) (δ:Ds):qd a δ=(a δ).bind qb:=rfl
@[simp] theorem Fl (ds:List PyData):qb [.list ds]=.ok (lZ ds):=rfl
@[simp] theorem xx (ds:List PyData):qb [.tuple ds]=.ok (lZ ds):=rfl
@[simp] theorem Ey (f f':PyData→PyData→Option PyData) (a b c:Ds→Rs PyData) (δ:Ds):n6 f f' a b c δ=(a δ).bind fun x=>(b δ).bind fun y=>(Rs.f9 (f x y)).bind fun z=>(truth z).bind fun t=>if t=true then (c δ).bind fun w=>Rs.f9 (f' y w) else .ok (.bool false):=rfl
@[simp] theorem gz (δ:Ds):cB δ=.ok none:=rfl
@[simp] theorem ki (g:Ds→Rs PyData) (δ:Ds):eU g δ=(g δ).bind AI:=rfl
@[simp] theorem jX (i:Int):AI (.int i)=.ok (some i):=rfl
@[simp] theorem iw (g:Ds→Rs PyData) (lo hi:Ds→Rs (Option Int)) (δ:Ds):da g lo hi δ=(g δ).bind fun d=>(lo δ).bind fun l=>(hi δ).bind fun h=>Rs.f9 (zg d l h):=rfl
@[simp] theorem FD (x:List PyData) (lo hi:Option Int):zg (.list x) lo hi=some (.list (cutD x lo hi)):=rfl
@[simp] theorem mD (x:List PyData) (lo hi:Option Int):zg (.tuple x) lo hi=some (.tuple (cutD x lo hi)):=rfl
@[simp] theorem aZ (a b:Ds→Sr) (δ:Ds):bo a b δ=match a δ with | .nx δ'=>b δ' | r=>r:=rfl
@[simp] theorem hU (δ:Ds):b5 δ=.nx δ:=rfl
@[simp] theorem gZ (c:Ds→Rs Bool) (a b:Ds→Sr) (δ:Ds):sIf c a b δ=ofR (c δ) fun t=>if t=true then a δ else b δ:=rfl
@[simp] theorem cG (g:Ds→Rs PyData) (δ:Ds):b6 g δ=ofR (g δ) .rt:=rfl
@[simp] theorem yj (g:Ds→Rs PyData) (δ:Ds):nz g δ=ofR (g δ) fun _=>.nx δ:=rfl
@[simp] theorem cW (i:Nat) (g:Ds→Rs PyData) (δ:Ds):bj [] i g δ=if i < δ.length then ofR (g δ) fun d=>.nx (δ.set i (some d)) else .no:=by unfold bj; rw [dE]
@[simp] theorem Ep (C:Addr) (gs:Ds→Rs (List PyData)) (δ:Ds):my C gs δ=ofR (gs δ) fun _=>.rz C:=rfl
theorem fm (O:List Nat) (src:Ds→Rs (List PyData)) (tgt:PyData→Ds→Option Ds) (body:Ds→Sr) (δ:Ds):iT O src tgt body δ=ofR (src (mask O δ)) fun ds=>forL tgt body ds δ:=rfl
@[simp] theorem bQ (d:PyData):aV (.rt d)=.ok d:=rfl
@[simp] theorem Em (δ:Ds):aV (.nx δ)=.ok .none:=rfl
@[simp] theorem En (C:Addr):aV (.rz C)=.rz C:=rfl
@[simp] theorem El:aV .no=.no:=rfl
@[simp] theorem c9 (a b:Int):br (.int a) (.int b)=some (.int (a + b)):=rfl
@[simp] theorem g0 (a b:Int):eW (.int a) (.int b)=some (.int (a - b)):=rfl
@[simp] theorem CP (a b:Int):o8 (.int a) (.int b)=if 0 < b then some (.int (a % b)) else none:=rfl
@[simp] theorem Ay (a b:Int):sy (.int a) (.int b)=if 0 < b∧b < 1073741824 then some (.int (a / b)) else none:=rfl
@[simp] theorem F3 (a b:Int):dLt (.int a) (.int b)=some (.bool (decide (a < b))):=rfl
@[simp] theorem FX (a b:Int):dLe (.int a) (.int b)=some (.bool (decide (a≤b))):=rfl
@[simp] theorem FQ (a b:Int):dGt (.int a) (.int b)=some (.bool (decide (b < a))):=rfl
@[simp] theorem yK (a b:Int):dGe (.int a) (.int b)=some (.bool (decide (b≤a))):=rfl
@[simp] theorem CG (a:Int):nM (.int a)=some (.int (-a)):=rfl
@[simp] theorem yk (d:PyData):vA d=some (.bool (fD d)):=rfl
@[simp] theorem AV (d:PyData):fZ d=some (.bool (!fD d)):=rfl
@[simp] theorem zO:fD .none=true:=rfl
@[simp] theorem zD (i:Int):fD (.int i)=false:=rfl
@[simp] theorem lU (x:List PyData) (i:Int):dIx (.tuple x) (.int i)=atI x i:=rfl
@[simp] theorem CN (x:List PyData) (i:Int):dIx (.list x) (.int i)=atI x i:=rfl
@[simp] theorem sY (x:List PyData):eR [.tuple x]=some (.int x.length):=rfl
@[simp] theorem D2 (x:List PyData):eR [.list x]=some (.int x.length):=rfl
@[simp] theorem C4 (a b:Int):qt [.int a,.int b]=some (.int (if b < a then b else a)):=rfl
@[simp] theorem Fo (a b:Int):lY [.int a,.int b]=some (.int (if b > a then b else a)):=rfl
@[simp] theorem A5 (b:Bool):vo [.bool b]=some (.int (if b then 1 else 0)):=rfl
@[simp] theorem wH (x:List PyData):ka [.list x]=some (.tuple x):=rfl
@[simp] theorem FO (x:List PyData):ka [.tuple x]=some (.tuple x):=rfl
@[simp] theorem nO (a b:Int):dEq (.int a) (.int b)=some (.bool (a == b)):=by
  have h:∀ i:Int,PySem.SeqAt.shaped (.int i)=true:=fun i=>by simp [PySem.SeqAt.shaped,PyData.canLay0,PyData.depth]
  unfold dEq; rw [h,h]; simp [bZ,PyData.eqv]
@[simp] theorem Es (a b:Int):dNe (.int a) (.int b)=some (.bool (!(a == b))):=by
  have h:∀ i:Int,PySem.SeqAt.shaped (.int i)=true:=fun i=>by simp [PySem.SeqAt.shaped,PyData.canLay0,PyData.depth]
  unfold dNe; rw [h,h]; simp [bZ,PyData.eqv]
theorem mx {α:Type} {xs:List α} {i:Int} {j:Nat} (h:i=j):atI xs i=xs[j]?:=by
  subst h
  unfold atI ixN
  by_cases z:(j:Int) < xs.length
  · rw [if_pos (by omega),if_pos z]; simp
  · rw [if_pos (by omega),if_neg z]
    simp; omega
@[simp] theorem FN {α:Type} (xs:List α):atI xs 0=xs[0]?:=mx (j:=0) rfl
@[simp] theorem F2 {α:Type} (xs:List α):atI xs 1=xs[1]?:=mx (j:=1) rfl
@[simp] theorem Fw {α:Type} (xs:List α):atI xs 2=xs[2]?:=mx (j:=2) rfl
@[simp] theorem F0 {α:Type} (xs:List α):atI xs 3=xs[3]?:=mx (j:=3) rfl
theorem nX {α:Type} (xs:List α):atI xs (-1)=xs.getLast?:=by
  unfold atI ixN
  rw [if_neg (by decide)]
  by_cases z:xs=[]
  · subst z; rfl
  · have:0 < xs.length:=List.length_pos_iff.mpr z
    rw [if_pos (by omega),List.getLast?_eq_getElem?]
    simp only [Option.bind_some]
    congr 1
    omega
theorem p9 {α:Type} (g:α→Bool) (xs:List α):sW [.list (xs.map fun d=>.bool (g d))]=some (.bool (xs.all g)):=by
  have hb:ib (xs.map fun d=>PyData.bool (g d))=some (xs.map g):=by
    rw [show (xs.map fun d=>PyData.bool (g d))=(xs.map g).map PyData.bool by rw [List.map_map]; rfl]
    exact mM _
  show (ib (xs.map fun d=>PyData.bool (g d))).map (fun ns=>PyData.bool (ns.all id))=_
  rw [hb,Option.map_some,List.all_map]; rfl
theorem AJ {α:Type} (g:α→Int) (xs:List α):yU [.list (xs.map fun d=>.int (g d))]=some (.int (xs.map g).sum):=by
  have hb:gM (xs.map fun d=>PyData.int (g d))=some (xs.map g):=by
    rw [show (xs.map fun d=>PyData.int (g d))=(xs.map g).map PyData.int by rw [List.map_map]; rfl]
    exact d5 _
  show (gM (xs.map fun d=>PyData.int (g d))).map (fun ns=>PyData.int ns.sum)=_
  rw [hb,Option.map_some]
theorem comp_map {elt:Ds→Rs PyData} {δ:Ds} {f:PyData→PyData}:∀ (ds:List PyData),(∀ d∈ds,elt (δ++[some d])=.ok (f d))→iR cY elt bT δ ds=.ok (ds.map f)
  | [],_=>rfl
  | d::r,h=>by
    unfold iR
    simp only [bT,cY,Rs.jP,Rs.aj,if_true,h d List.mem_cons_self,comp_map r fun e he=>h e (List.mem_cons_of_mem _ he),List.map_cons]
theorem eL {n0:Nat} {src:Ds→Rs (List PyData)} {elt:Ds→Rs PyData} {δ:Ds} {f:PyData→PyData} {ds:List PyData} (hn:δ.length=n0) (hs:src δ=.ok ds) (hl:ds.length≤1000000) (h:∀ d∈ds,elt (δ++[some d])=.ok (f d)) :
    cw n0 src cY elt bT δ=.ok (ds.map f):=by
  unfold cw
  rw [if_pos hn,hs]
  simp only [Rs.aj,if_pos hl]
  exact comp_map ds h
theorem qC:∀ {ds:List PyData},jd ds=true→∀ d∈ds,bZ d=true
  | [],_,d,hd=>by cases hd
  | e::r,h,d,hd=>by
    unfold jd at h
    obtain ⟨h1,h2⟩:=Bool.and_eq_true_iff.mp h
    rcases List.mem_cons.mp hd with z | z
    · rw [z]; exact h1
    · exact qC h2 d z
theorem eO {ds:List PyData} (h:bZ (.tuple ds)=true):∀ d∈ds,bZ d=true:=by
  unfold bZ at h; exact qC h
end RS
set_option maxRecDepth 100000
set_option maxHeartbeats 1000000
namespace RS
open PySem L2
noncomputable def aJ:Gf
  | [d,.int a,.int b]=>if bZ d then .ok (.bool (isWhole d a b)) else .no
  | _=>.no
theorem nH {f:PyData→Int→Int→Rs PyData} {ds:List PyData} (h:(match ds with | [x0,.int x1,.int x2]=>f x0 x1 x2 | _=>.no)≠.no):∃ x0 x1 x2,ds=[x0,.int x1,.int x2]∧f x0 x1 x2≠.no:=by
  rcases ds with _ | ⟨x0,_ | ⟨x1,_ | ⟨x2,_ | ⟨y,ys⟩⟩⟩⟩
  · exact absurd rfl h
  · exact absurd rfl h
  · first | exact absurd rfl h | (cases x1 <;> exact absurd rfl h)
  · skip
    cases x1 with
    | int x1 =>
      cases x2 with
      | int x2 =>
        exact ⟨_,_,_,rfl,h⟩
      | _=>exact absurd rfl h
    | _=>first | exact absurd rfl h | (cases x2 <;> exact absurd rfl h)
  · first | exact absurd rfl h | (cases x1 <;> first | exact absurd rfl h | (cases x2 <;> exact absurd rfl h))
theorem wD (cs:Cs):∀ ds,ds.length=3→aJ ds≠.no→aV (ip cs (ds.map some++List.replicate 0 none))=aJ ds:=by
  intro ds hl hne
  obtain ⟨d,a,b,ez,hz⟩:=nH hne
  clear hne; subst ez; have hne:=hz; clear hz
  unfold aJ
  · skip
    split at hne
    · rename_i hd
      simp only [hd,if_true]
      cases d with
      | int i=>by_cases h:a≤i <;> simp [ip,ug,hd,tY,tyD,isWhole,h]
      | dict _=>simp [bZ] at hd
      | _=>simp [ip,ug,hd,tY,tyD,isWhole]
    · exact absurd rfl hne
noncomputable def aH:Gf
  | [d,.int a,.int b]=>if bZ d then .ok (.bool (cC d a b)) else .no
  | _=>.no
theorem wI (cs:Cs):∀ ds,ds.length=3→aH ds≠.no→aV (ir cs (ds.map some++List.replicate 0 none))=aH ds:=by
  intro ds hl hne
  obtain ⟨d,a,b,ez,hz⟩:=nH hne
  clear hne; subst ez; have hne:=hz; clear hz
  unfold aH
  · skip
    split at hne
    · rename_i hd
      simp only [hd,if_true]
      cases d with
      | tuple x=>by_cases h:a≤(x.length:Int) <;> simp [ir,ug,hd,tY,tyD,cC,h]
      | dict _=>simp [bZ] at hd
      | _=>simp [ir,ug,hd,tY,tyD,cC]
    · exact absurd rfl hne
noncomputable def fu (g:PyData→Bool):Gf
  | [d]=>if bZ d then .ok (.bool (g d)) else .no
  | _=>.no
theorem p5 {g:PyData→Bool} {ds:List PyData} (h:fu g ds≠.no):∃ d,ds=[d]∧bZ d=true∧fu g ds=.ok (.bool (g d)):=by
  unfold fu at h ⊢
  split at h
  · rename_i d
    split at h
    · rename_i hd; exact ⟨d,rfl,hd,by simp [hd]⟩
    · exact absurd rfl h
  · exact absurd rfl h
theorem qK {g:PyData→Bool} {d:PyData} (h:bZ d=true):fu g [d]=.ok (.bool (g d)):=by unfold fu; simp [h]
@[simp] theorem Ek {d:PyData} {a b:Int} (h:bZ d=true):aH [d,.int a,.int b]=.ok (.bool (cC d a b)):=by unfold aH; simp [h]
@[simp] theorem CK {d:PyData} {a b:Int} (h:bZ d=true):aJ [d,.int a,.int b]=.ok (.bool (isWhole d a b)):=by unfold aJ; simp [h]
theorem vK {d:PyData} (h:cC d 2 2=true):∃ a b,d=.tuple [a,b]:=by
  cases d with
  | tuple ds =>
    simp [cC] at h
    match ds,h with
    | [a,b],_=>exact ⟨a,b,rfl⟩
    | [],h=>simp at h
    | [_],h=>simp at h
    | _::_::_::_,h=>simp at h; omega
  | _=>cases h
theorem zh (cs:Cs):∀ ds,ds.length=1→fu dD ds≠.no→aV (gv cs aJ aH (ds.map some++List.replicate 0 none))=fu dD ds:=by
  intro ds hl hne
  obtain ⟨d,rfl,hd,e⟩:=p5 hne
  rw [e]
  cases e1:cC d 2 2 with
  | false =>
    have:dD d=false:=by
      unfold dD
      split
      · simp [cC] at e1
      · rfl
    simp [gv,hd,e1,this]
  | true =>
    obtain ⟨a,b,rfl⟩:=vK e1
    have ha:=eO hd a (by simp)
    have hb:=eO hd b (by simp)
    cases e2:isWhole a 1 20 with
    | false=>simp [gv,hd,ha,e1,e2,dD]
    | true =>
      cases b with
      | none=>simp [gv,hd,ha,e1,e2,dD]
      | _=>simp [gv,hd,ha,hb,e1,e2,dD,fD]
theorem uL (cs:Cs):∀ ds,ds.length=1→fu eB ds≠.no→aV (fv cs aH (fu dD) (ds.map some++List.replicate 0 none))=fu eB ds:=by
  intro ds hl hne
  obtain ⟨d,rfl,hd,e⟩:=p5 hne
  rw [e]
  cases e1:cC d 1 4 with
  | false =>
    have:eB d=false:=by
      cases d with
      | tuple ds =>
        simp only [cC,Bool.and_eq_false_iff,decide_eq_false_iff_not] at e1
        simp only [eB,Bool.and_eq_false_iff,decide_eq_false_iff_not]
        refine .inl (.inl ?_)
        omega
      | _=>rfl
    simp [fv,hd,e1,this]
  | true =>
    obtain ⟨xs,rfl⟩:∃ ds,d=.tuple ds:=by cases d <;> first | exact ⟨_,rfl⟩ | cases e1
    have hn:1≤xs.length∧xs.length≤4:=by
      simp only [cC,Bool.and_eq_true,decide_eq_true_eq] at e1
      omega
    have hc:cw 1 (dS (ag 0)) cY (aE (fu dD) (af (ag 1) ar)) bT [some (.tuple xs)]=.ok (xs.map fun d=>.bool (dD d)) :=
      eL rfl rfl (by omega) fun d hd'=>by simp [qK (eO hd d hd')]
    have hf:=p9 dD xs
    cases e2:xs.all dD with
    | false=>simp [fv,hd,e1,hc,hf,e2,eB]
    | true =>
      have hne:xs≠[]:=by intro z; subst z; simp at hn
      have hl2:xs.getLast?=some (xs.getLast hne):=List.getLast?_eq_some_getLast hne
      have hp:=List.all_eq_true.mp e2 _ (List.getLast_mem hne)
      obtain ⟨a,b,eab⟩:∃ a b,xs.getLast hne=.tuple [a,b]:=by
        revert hp
        generalize xs.getLast hne=z
        intro hp
        unfold dD at hp
        split at hp
        · exact ⟨_,_,rfl⟩
        · cases hp
      rw [eab] at hl2
      have hln:jF xs=fD b:=by
        unfold jF; rw [hl2]; cases b <;> rfl
      simp [fv,hd,e1,hc,hf,e2,eB,nX,hl2,hln,hn.1,hn.2]
theorem sC {d:PyData} (h:cC d 4 4=true):∃ a b c e,d=.tuple [a,b,c,e]:=by
  cases d with
  | tuple ds =>
    simp [cC] at h
    match ds,h with
    | [a,b,c,e],_=>exact ⟨a,b,c,e,rfl⟩
    | [],h=>simp at h
    | [_],h=>simp at h
    | [_,_],h=>simp at h
    | [_,_,_],h=>simp at h
    | _::_::_::_::_::_,h=>simp at h; omega
  | _=>cases h
theorem dO {d:PyData} {a b:Int} (h:isWhole d a b=true):∃ i,d=.int i∧a≤i∧i≤b:=by
  cases d with
  | int i=>simp [isWhole] at h; exact ⟨i,rfl,h⟩
  | _=>cases h
theorem qc {a b c e:PyData} (h:isWhole a 2 60=false):bP (.tuple [a,b,c,e])=false:=by
  cases a with
  | int i =>
    cases c with
    | int l =>
      simp only [isWhole,Bool.and_eq_false_iff,decide_eq_false_iff_not] at h
      simp only [bP,Bool.and_eq_false_iff,decide_eq_false_iff_not]
      omega
    | _=>rfl
  | _=>rfl
theorem qU {b c e:PyData} {i:Int} (h:isWhole c 0 (if i - 1 < 20 then i - 1 else 20)=false):bP (.tuple [.int i,b,c,e])=false:=by
  cases c with
  | int l =>
    simp only [isWhole,Bool.and_eq_false_iff,decide_eq_false_iff_not] at h
    simp only [bP,Bool.and_eq_false_iff,decide_eq_false_iff_not]
    exact .inl (.inl (.inr h))
  | _=>rfl
theorem rn {b e:PyData} {i l:Int} (h1:2≤i∧i≤60) (h2:0≤l∧l≤if i - 1 < 20 then i - 1 else 20):bP (.tuple [.int i,b,.int l,e])=(isWhole b 1 (i - l) && eB e):=by
  simp [bP,h1.1,h1.2,h2.1,h2.2]
theorem uD (cs:Cs):∀ ds,ds.length=1→fu bP ds≠.no→aV (dN cs aJ (fu eB) aH (ds.map some++List.replicate 3 none))=fu bP ds:=by
  intro ds hl hne
  obtain ⟨d,rfl,hd,e⟩:=p5 hne
  rw [e]
  cases e1:cC d 4 4 with
  | false =>
    have:bP d=false:=by
      unfold bP
      split
      · simp [cC] at e1
      · rfl
    simp [dN,hd,e1,this]
  | true =>
    obtain ⟨a,b,c,q,rfl⟩:=sC e1
    have ha:=eO hd a (by simp)
    have hb:=eO hd b (by simp)
    have hc:=eO hd c (by simp)
    have he:=eO hd q (by simp)
    cases e2:isWhole a 2 60 with
    | false=>simp [dN,hd,ha,hb,hc,he,e1,e2,qc e2]
    | true =>
      obtain ⟨i,rfl,i1,i2⟩:=dO e2
      cases e3:isWhole c 0 (if i - 1 < 20 then i - 1 else 20) with
      | false=>simp [dN,hd,ha,hb,hc,he,e1,e2,e3,qU e3]
      | true =>
        obtain ⟨l,rfl,l1,l2⟩:=dO e3
        have er:=rn (b:=b) (e:=q) ⟨i1,i2⟩ ⟨l1,l2⟩
        cases e4:isWhole b 1 (i - l) with
        | false=>simp [dN,hd,ha,hb,hc,he,e1,e2,e3,e4,er]
        | true=>simp [dN,hd,ha,hb,hc,he,e1,e2,e3,e4,er,qK he]
noncomputable def ba (cs:Cs):Gf
  | [d]=>if bZ d then (if cI d then .ok d else .rz cs.NoErrands) else .no
  | _=>.no
theorem yP (cs:Cs):∀ ds,ds.length=1→ba cs ds≠.no→aV (h9 cs aH (fu bP) (ds.map some++List.replicate 0 none))=ba cs ds:=by
  intro ds hl hne
  obtain ⟨d,rfl⟩:∃ d,ds=[d]:=by
    match ds,hl with
    | [d],_=>exact ⟨d,rfl⟩
  have hd:bZ d=true:=by
    unfold ba at hne
    by_cases z:bZ d=true
    · exact z
    · simp [z] at hne
  have eg:ba cs [d]=if cI d then .ok d else .rz cs.NoErrands:=by unfold ba; simp [hd]
  rw [eg]
  cases e1:cC d 1 6 with
  | false =>
    have:cI d=false:=by
      cases d with
      | tuple ds =>
        simp only [cC,Bool.and_eq_false_iff,decide_eq_false_iff_not] at e1
        simp only [cI,Bool.and_eq_false_iff,decide_eq_false_iff_not]
        refine .inl ?_
        omega
      | _=>rfl
    simp [h9,hd,e1,this]
  | true =>
    obtain ⟨xs,rfl⟩:∃ ds,d=.tuple ds:=by cases d <;> first | exact ⟨_,rfl⟩ | cases e1
    have hn:1≤xs.length∧xs.length≤6:=by
      simp only [cC,Bool.and_eq_true,decide_eq_true_eq] at e1
      omega
    have hc:cw 1 (dS (ag 0)) cY (aE (fu bP) (af (ag 1) ar)) bT [some (.tuple xs)]=.ok (xs.map fun d=>.bool (bP d)) :=
      eL rfl rfl (by omega) fun d hd'=>by simp [qK (eO hd d hd')]
    have hf:=p9 bP xs
    cases e2:xs.all bP with
    | false=>simp [h9,hd,e1,hc,hf,e2,cI]
    | true=>simp [h9,hd,e1,hc,hf,e2,cI,hn.1,hn.2]
end RS
set_option maxRecDepth 100000
set_option maxHeartbeats 1000000
namespace RS
open PySem L2
theorem iq {β:Type} {tgt:PyData→Ds→Option Ds} {body:Ds→Sr} (inv:Nat→Ds→Prop):∀ (ds:List PyData) (k:Nat),(∀ (i:Nat) d δ,ds[i]?=some d→inv (k + i) δ→∃ δ1 δ2,tgt d δ=some δ1∧body δ1=.nx δ2∧inv (k + i + 1) δ2) →
    ∀ δ,inv k δ→∃ δ',forL tgt body ds δ=.nx δ'∧inv (k + ds.length) δ'
  | [],k,_,δ,h=>⟨δ,rfl,h⟩
  | d::r,k,hs,δ,h=>by
    obtain ⟨δ1,δ2,e1,e2,h2⟩:=hs 0 d δ rfl h
    obtain ⟨δ',e3,h3⟩:=iq (β:=β) inv r (k + 1) (fun i x δ hx hi=>by
      have:=hs (i + 1) x δ (by simpa using hx) (by rw [show k + (i + 1)=k + 1 + i by omega]; exact hi)
      rw [show k + 1 + i + 1=k + (i + 1) + 1 by omega]; exact this) δ2 h2
    exact ⟨δ',by unfold forL; rw [e1]; simp only [e2]; exact e3,by rw [List.length_cons,show k + (r.length + 1)=k + 1 + r.length by omega]; exact h3⟩
theorem sg {tgt:PyData→Ds→Option Ds} {body:Ds→Sr} (inv:Ds→Prop) (P:PyData→Option PyData):∀ (ds:List PyData),(∀ d∈ds,∀ δ,inv δ→∃ δ1,tgt d δ=some δ1∧((∃ v,P d=some v∧body δ1=.rt v)∨(P d=none∧∃ δ2,body δ1=.nx δ2∧inv δ2))) →
    ∀ δ,inv δ→(∃ v,ds.findSome? P=some v∧forL tgt body ds δ=.rt v)∨(ds.findSome? P=none∧∃ δ',forL tgt body ds δ=.nx δ'∧inv δ')
  | [],_,δ,h=>.inr ⟨rfl,δ,rfl,h⟩
  | d::r,hs,δ,h=>by
    obtain ⟨δ1,e1,alt⟩:=hs d List.mem_cons_self δ h
    rcases alt with ⟨v,pv,ev⟩ | ⟨pn,δ2,e2,h2⟩
    · exact .inl ⟨v,by simp [pv],by unfold forL; rw [e1]; simp only [ev]⟩
    · rcases sg inv P r (fun x hx=>hs x (List.mem_cons_of_mem _ hx)) δ2 h2 with ⟨v,q1,q2⟩ | ⟨q1,δ',q2,q3⟩
      · exact .inl ⟨v,by simp [pn,q1],by unfold forL; rw [e1]; simp only [e2]; exact q2⟩
      · exact .inr ⟨by simp [pn,q1],δ',by unfold forL; rw [e1]; simp only [e2]; exact q2,q3⟩
noncomputable def AQ:PyData→Option Int
  | .int i=>some i
  | _=>none
noncomputable def cQ:PyData→Int × Option Int
  | .tuple [.int l,t]=>(l,AQ t)
  | _=>(0,none)
noncomputable def deE:PyData→Er
  | .tuple [.int e,.int d,.int l,.tuple ps]=>⟨e,d,l,ps.map cQ⟩
  | _=>⟨0,0,0,[]⟩
theorem rY (e:Int) (d:Int) (l:Int) (ps:List PyData):deE (.tuple [.int e,.int d,.int l,.tuple ps])=⟨e,d,l,ps.map cQ⟩:=rfl
noncomputable def bN:PyData→List Er
  | .tuple ds=>ds.map deE
  | _=>[]
theorem we (o:Option Int):AQ (bg o)=o:=by cases o <;> rfl
theorem kO (p:Int × Option Int):cQ (aU p)=p:=by
  obtain ⟨l,t⟩:=p
  simp [aU,cQ,we]
theorem xZ (e:Er):deE e.d=e:=by
  obtain ⟨a,b,c,ps⟩:=e
  simp [Er.d,rY,List.map_map]
  conv=>rhs; rw [← List.map_id ps]
  exact List.map_congr_left fun p _=>kO p
theorem cx (es:List Er):bN (av es)=es:=by
  simp [av,bN,List.map_map]
  conv=>rhs; rw [← List.map_id es]
  exact List.map_congr_left fun e _=>xZ e
theorem part_of {d:PyData} (h:dD d=true):aU (cQ d)=d∧1≤(cQ d).1∧(cQ d).1≤20∧∀ t,(cQ d).2=some t→0≤t∧t≤3:=by
  unfold dD at h
  split at h
  · rename_i a b
    rw [Bool.and_eq_true] at h
    obtain ⟨i,rfl,h1,h2⟩:=dO h.1
    have hb:=h.2
    cases b with
    | none=>exact ⟨rfl,h1,h2,fun t q=>by cases q⟩
    | int t =>
      obtain ⟨t',q,h3,h4⟩:=dO hb
      cases q
      exact ⟨rfl,h1,h2,fun t q=>by cases q; exact ⟨h3,h4⟩⟩
    | _=>cases hb
  · cases h
theorem oz {d:PyData} (h:bP d=true):(deE d).d=d∧(deE d).Ok:=by
  unfold bP at h
  split at h
  · rename_i e du l ps
    simp only [Bool.and_eq_true,decide_eq_true_eq] at h
    obtain ⟨⟨⟨⟨h1,h2⟩,h3,h4⟩,h5⟩,h6⟩:=h
    obtain ⟨du,rfl,d1,d2⟩:=dO h5
    unfold eB at h6
    split at h6
    · rename_i ps
      simp only [Bool.and_eq_true,decide_eq_true_eq] at h6
      obtain ⟨⟨⟨p1,p2⟩,p3⟩,p4⟩:=h6
      have pa:=List.all_eq_true.mp p3
      have l4:l≤20∧l < e:=by split at h4 <;> omega
      refine ⟨?_,?_⟩
      · have em:ps.map (aU ∘ cQ)=ps:=by
          conv=>rhs; rw [← List.map_id ps]
          exact List.map_congr_left fun p hp=>(part_of (pa p hp)).1
        simp only [rY,Er.d,List.map_map,em]
      · refine ⟨h1,h2,h3,l4.1,l4.2,d1,d2,fun z=>?_,by simpa [rY] using p2,fun p hp=>?_,fun p hp=>?_⟩
        · have:ps=[]:=by simpa [rY] using z
          subst this; simp at p1
        · obtain ⟨q,hq,rfl⟩:=List.mem_map.mp (show p∈ps.map cQ from hp)
          exact (part_of (pa q hq)).2
        · have hp:(ps.map cQ).getLast?=some p:=hp
          rw [List.getLast?_map] at hp
          unfold jF at p4
          cases q:ps.getLast? with
          | none=>rw [q] at hp; cases hp
          | some z =>
            rw [q] at hp p4
            simp at hp
            split at p4
            · rename_i a heq
              cases heq
              subst hp
              unfold cQ; split
              · rename_i l t e1
                injection e1 with e1; injection e1 with _ e1; injection e1 with e1 _
                rw [← e1]; rfl
              · rfl
            · cases p4
    · cases h6
  · cases h
theorem mR {d:PyData} (h:cI d=true):av (bN d)=d∧1≤(bN d).length∧(bN d).length≤6∧∀ e∈bN d,e.Ok:=by
  unfold cI at h
  split at h
  · rename_i ds
    simp only [Bool.and_eq_true,decide_eq_true_eq] at h
    obtain ⟨⟨h1,h2⟩,h3⟩:=h
    have pa:=List.all_eq_true.mp h3
    refine ⟨?_,by simpa [bN] using h1,by simpa [bN] using h2,fun e he=>?_⟩
    · simp only [bN,av,List.map_map]
      congr 1
      conv=>rhs; rw [← List.map_id ds]
      exact List.map_congr_left fun p hp=>(oz (pa p hp)).1
    · obtain ⟨q,hq,rfl⟩:=List.mem_map.mp (show e∈ds.map deE from he)
      exact (oz (pa q hq)).2
  · cases h
noncomputable def deI:PyData→Int
  | .int i=>i
  | _=>0
noncomputable def bK:PyData→List Int
  | .tuple ds=>ds.map deI
  | _=>[]
noncomputable def ao (ns:List Int):PyData:=.tuple (ns.map .int)
theorem cq (ns:List Int):bK (ao ns)=ns:=by
  simp [ao,bK,List.map_map]
  conv=>rhs; rw [← List.map_id ns]
  exact List.map_congr_left fun _ _=>rfl
noncomputable def cE (n:Nat):PyData→Bool
  | .tuple ds=>decide (ds.length=n) && ds.all (fun d=>isWhole d 0 ((n:Int) - 1)) && decide (ds.map deI).Nodup
  | _=>false
structure bz (n:Nat) (rs:List Int):Prop where
  len:rs.length=n
  rng:∀ r∈rs,0≤r∧r < n
  nd:rs.Nodup
theorem eu {n:Nat} {d:PyData} (h:cE n d=true):ao (bK d)=d∧bz n (bK d):=by
  unfold cE at h
  split at h
  · rename_i ds
    simp only [Bool.and_eq_true,decide_eq_true_eq] at h
    obtain ⟨⟨h1,h2⟩,h3⟩:=h
    have pa:=List.all_eq_true.mp h2
    refine ⟨?_,by simpa [bK] using h1,fun r hr=>?_,h3⟩
    · simp only [bK,ao,List.map_map]
      congr 1
      conv=>rhs; rw [← List.map_id ds]
      refine List.map_congr_left fun p hp=>?_
      obtain ⟨i,rfl,_⟩:=dO (pa p hp)
      rfl
    · obtain ⟨q,hq,rfl⟩:=List.mem_map.mp (show r∈ds.map deI from hr)
      obtain ⟨i,rfl,a,b⟩:=dO (pa q hq)
      exact ⟨a,by show i < n; omega⟩
  · cases h
theorem cN {n:Nat} {rs:List Int} (h:bz n rs):cE n (ao rs)=true:=by
  have e:(rs.map PyData.int).map deI=rs:=by
    rw [List.map_map]; conv=>rhs; rw [← List.map_id rs]
    exact List.map_congr_left fun _ _=>rfl
  unfold cE ao
  simp only [List.length_map,h.len,decide_true,Bool.true_and,e,h.nd,Bool.and_true]
  rw [List.all_eq_true]
  intro d hd
  obtain ⟨r,hr,rfl⟩:=List.mem_map.mp hd
  have:=h.rng r hr
  simp [isWhole,this.1]; omega
theorem oA:∀ (l acc:List Int),acc.Nodup→((l.foldl PyProof.Rows.step_dedup acc).length≤acc.length + l.length)∧((l.foldl PyProof.Rows.step_dedup acc).length=acc.length + l.length↔(acc++l).Nodup)
  | [],acc,h=>by simpa using h
  | x::r,acc,h=>by
    rw [List.foldl_cons]
    by_cases z:acc.any (· == x)=true
    · have e:PyProof.Rows.step_dedup acc x=acc:=by unfold PyProof.Rows.step_dedup; rw [if_pos z]
      rw [e]
      have:=oA r acc h
      refine ⟨by rw [List.length_cons]; omega,fun q=>?_,fun q=>?_⟩
      · rw [List.length_cons] at q; omega
      · exfalso
        obtain ⟨y,hy,ey⟩:=List.any_eq_true.mp z
        have:y=x:=by simpa using ey
        subst this
        rw [List.nodup_append] at q
        exact q.2.2 y hy y List.mem_cons_self rfl
    · have e:PyProof.Rows.step_dedup acc x=acc++[x]:=by unfold PyProof.Rows.step_dedup; rw [if_neg z]
      have hx:x ∉ acc:=fun q=>z (List.any_eq_true.mpr ⟨x,q,by simp⟩)
      have hn:(acc++[x]).Nodup:=by
        rw [List.nodup_append]
        exact ⟨h,by simp,fun a ha b hb=>by rw [List.mem_singleton.mp hb]; rintro rfl; exact hx ha⟩
      rw [e]
      have:=oA r (acc++[x]) hn
      rw [List.length_append,List.length_singleton,List.append_assoc] at this
      refine ⟨by rw [List.length_cons]; omega,?_⟩
      rw [List.length_cons,show acc.length + (r.length + 1)=acc.length + 1 + r.length by omega]
      exact this.2
theorem wY (ns:List Int):((seen ns ns.length).length:Int) < ns.length↔¬ ns.Nodup:=by
  have e:(List.range ns.length).map (fun i=>ns.getD i 0)=ns:=by
    apply List.ext_getElem?
    intro i
    rw [List.getElem?_map]
    by_cases h:i < ns.length
    · rw [List.getElem?_range h,List.getElem?_eq_getElem h]
      simp [List.getD_eq_getElem?_getD,List.getElem?_eq_getElem h]
    · rw [List.getElem?_eq_none (by simpa using h),List.getElem?_eq_none (by simpa using h)]; rfl
  have:=oA ns [] List.nodup_nil
  unfold seen PyProof.Rows.firstMet
  rw [e]
  simp only [List.length_nil,Nat.zero_add,List.nil_append] at this
  constructor
  · intro h q
    have:=this.2.mpr q
    omega
  · intro h
    have h1:=this.1
    have h2:¬ (List.foldl PyProof.Rows.step_dedup [] ns).length=ns.length:=fun q=>h (this.2.mp q)
    omega
noncomputable def bw (cs:Cs):Gf
  | [.tuple es,r]=>if bZ r && decide (es.length≤100) then (if cE es.length r then .ok r else .rz cs.NoRanks) else .no
  | _=>.no
theorem AB {f:List PyData→PyData→Rs PyData} {ds:List PyData} (h:(match ds with | [.tuple x0,x1]=>f x0 x1 | _=>.no)≠.no):∃ x0 x1,ds=[.tuple x0,x1]∧f x0 x1≠.no:=by
  rcases ds with _ | ⟨x0,_ | ⟨x1,_ | ⟨y,ys⟩⟩⟩
  · exact absurd rfl h
  · first | exact absurd rfl h | (cases x0 <;> exact absurd rfl h)
  · skip
    cases x0 with
    | tuple x0 =>
      exact ⟨_,_,rfl,h⟩
    | _=>exact absurd rfl h
  · first | exact absurd rfl h | (cases x0 <;> exact absurd rfl h)
theorem pq (cs:Cs):∀ ds,ds.length=2→bw cs ds≠.no→aV (cO cs aH aJ (ds.map some++List.replicate 1 none))=bw cs ds:=by
  intro ds hl hne
  obtain ⟨es,r,ez,hz⟩:=AB hne
  clear hne; subst ez; have hne:=hz; clear hz
  unfold bw
  · skip
    split at hne
    · rename_i hh
      simp only [hh,if_true]
      rw [Bool.and_eq_true,decide_eq_true_eq] at hh
      obtain ⟨hd,h100⟩:=hh
      cases e1:cC r es.length es.length with
      | false =>
        have:cE es.length r=false:=by
          cases r with
          | tuple xs =>
            have:xs.length≠es.length:=fun q=>by simp [cC,q] at e1
            simp [cE,this]
          | _=>rfl
        simp [cO,hd,e1,this]
      | true =>
        obtain ⟨xs,rfl⟩:∃ ds,r=.tuple ds:=by cases r <;> first | exact ⟨_,rfl⟩ | cases e1
        have hn:xs.length=es.length:=by
          simp only [cC,Bool.and_eq_true,decide_eq_true_eq] at e1
          omega
        have hc:cw 3 (dS (ag 1)) cY (aE aJ (af (ag 3) (af (gC (.int 0)) (af (ag 2) ar)))) bT [some (.tuple es),some (.tuple xs),some (.int ((es.length:Int) - 1))]=.ok (xs.map fun d=>.bool (isWhole d 0 ((es.length:Int) - 1))) :=
          eL rfl rfl (by omega) fun d hd'=>by simp [eO hd d hd']
        have hf:=p9 (fun d=>isWhole d 0 ((es.length:Int) - 1)) xs
        cases e2:xs.all (fun d=>isWhole d 0 ((es.length:Int) - 1)) with
        | false=>simp [cO,hd,e1,hc,hf,e2,cE]
        | true =>
          have pa:=List.all_eq_true.mp e2
          have ei:xs=(xs.map deI).map PyData.int:=by
            rw [List.map_map]
            conv=>lhs; rw [← List.map_id xs]
            refine List.map_congr_left fun p hp=>?_
            obtain ⟨i,rfl,_⟩:=dO (pa p hp)
            rfl
          have hs:nN [.tuple xs]=some (.int (seen (xs.map deI) (xs.map deI).length).length):=by
            unfold nN
            conv=>lhs; rw [ei]
            simp only [d5,Option.bind_some]
            rw [if_pos (by simp; omega)]
          have hsn:=wY (xs.map deI)
          have hml:(xs.map deI).length=es.length:=by rw [List.length_map]; exact hn
          rw [hml] at hs hsn
          by_cases hnd:(xs.map deI).Nodup
          · have h2:¬ (seen (xs.map deI) es.length).length < es.length:=fun q=>hsn.mp (by omega) hnd
            simp [cO,hd,e1,hc,hf,e2,hs,hn,h2,cE,hnd]
          · have h2:(seen (xs.map deI) es.length).length < es.length:=by have:=hsn.mpr hnd; omega
            simp [cO,hd,e1,hc,hf,e2,hs,hn,h2,cE,hnd]
    · exact absurd rfl hne
end RS
set_option maxRecDepth 100000
set_option maxHeartbeats 1000000
namespace RS
open PySem L2
noncomputable def lz:PyData→Bool
  | .tuple [.int l,b]=>decide (0≤l) && decide (l≤1000000) && (match b with | .none=>true | .int t=>decide (0≤t) && decide (t≤3) | _=>false)
  | _=>false
noncomputable def v5:PyData→Bool
  | .tuple [.int e,.int _,.int l,.tuple ps]=>decide (1≤e) && decide (e < 1073741824) && decide (-1000000000≤l) && decide (l≤1000000000) && decide (ps.length≤1000) && ps.all lz
  | _=>false
noncomputable def jC:PyData→Bool
  | .tuple ds=>decide (ds.length≤100) && ds.all v5
  | _=>false
structure Er.Sh (e:Er):Prop where
  e1:1≤e.every
  e2:e.every < 1073741824
  l1:-1000000000≤e.late
  l2:e.late≤1000000000
  pn:e.parts.length≤1000
  pl:∀ p∈e.parts,0≤p.1∧p.1≤1000000∧∀ t,p.2=some t→0≤t∧t≤3
theorem rM {d:PyData} (h:lz d=true):aU (cQ d)=d∧0≤(cQ d).1∧(cQ d).1≤1000000∧∀ t,(cQ d).2=some t→0≤t∧t≤3:=by
  unfold lz at h
  split at h
  · rename_i l b
    simp only [Bool.and_eq_true,decide_eq_true_eq] at h
    obtain ⟨⟨h1,h2⟩,h3⟩:=h
    cases b with
    | none=>exact ⟨rfl,h1,h2,fun t q=>by cases q⟩
    | int t =>
      simp only [Bool.and_eq_true,decide_eq_true_eq] at h3
      exact ⟨rfl,h1,h2,fun t q=>by cases q; exact h3⟩
    | _=>cases h3
  · cases h
theorem yx {d:PyData} (h:v5 d=true):(deE d).d=d∧(deE d).Sh:=by
  unfold v5 at h
  split at h
  · rename_i e du l ps
    simp only [Bool.and_eq_true,decide_eq_true_eq] at h
    obtain ⟨⟨⟨⟨⟨h1,h2⟩,hl1⟩,hl2⟩,h3⟩,h4⟩:=h
    have pa:=List.all_eq_true.mp h4
    have em:ps.map (aU ∘ cQ)=ps:=by
      conv=>rhs; rw [← List.map_id ps]
      exact List.map_congr_left fun p hp=>(rM (pa p hp)).1
    refine ⟨by simp only [rY,Er.d,List.map_map,em],h1,h2,hl1,hl2,by simpa [rY] using h3,fun p hp=>?_⟩
    obtain ⟨q,hq,rfl⟩:=List.mem_map.mp (show p∈ps.map cQ from hp)
    exact (rM (pa q hq)).2
  · cases h
theorem uk {e:Er} (h:e.Sh):v5 e.d=true:=by
  unfold v5 Er.d
  simp only [h.e1,h.e2,h.l1,h.l2,decide_true,Bool.true_and,List.length_map,h.pn]
  rw [List.all_eq_true]
  intro d hd
  obtain ⟨p,hp,rfl⟩:=List.mem_map.mp hd
  obtain ⟨a,b,c⟩:=h.pl p hp
  obtain ⟨l,t⟩:=p
  cases t with
  | none=>simp at a b; simp [lz,aU,bg,a,b]
  | some t=>have:=c t rfl; simp at a b; simp [lz,aU,bg,a,b,this.1,this.2]
theorem Er.Ok.sh {e:Er} (h:e.Ok):e.Sh:=⟨by have:=h.e1; omega,by have:=h.e2; omega,by have:=h.l1; omega,by have:=h.l2; omega,by have:=h.p2; omega,fun p hp=>by
  obtain ⟨a,b,c⟩:=h.pl p hp
  exact ⟨by omega,by omega,c⟩⟩
theorem jV {d:PyData} (h:jC d=true):av (bN d)=d∧(bN d).length≤100∧∀ e∈bN d,e.Sh:=by
  unfold jC at h
  split at h
  · rename_i ds
    simp only [Bool.and_eq_true,decide_eq_true_eq] at h
    have pa:=List.all_eq_true.mp h.2
    refine ⟨?_,by simpa [bN] using h.1,fun e he=>?_⟩
    · simp only [bN,av,List.map_map]
      congr 1
      conv=>rhs; rw [← List.map_id ds]
      exact List.map_congr_left fun p hp=>(yx (pa p hp)).1
    · obtain ⟨q,hq,rfl⟩:=List.mem_map.mp (show e∈ds.map deE from he)
      exact (yx (pa q hq)).2
  · cases h
theorem fL {es:List Er} (h1:es.length≤100) (h:∀ e∈es,e.Sh):jC (av es)=true:=by
  unfold jC av
  simp only [List.length_map,h1,decide_true,Bool.true_and]
  rw [List.all_eq_true]
  intro d hd
  obtain ⟨e,he,rfl⟩:=List.mem_map.mp hd
  exact uk (h e he)
noncomputable def Er.work (e:Er):Int:=(e.parts.map (·.1)).sum
noncomputable def Er.has (e:Er) (t:Int):Bool:=e.parts.any fun p=>p.2 == some t
noncomputable def er0:Er:=⟨1,1,0,[]⟩
noncomputable def aF (es:List Er) (n:Int):Er:=es.getD n.toNat er0
noncomputable def hts (es:List Er):List Int→Int→Int→Option Int
  | [],_,_=>none
  | r::rs,k,t=>if (aF es r).has t then some k else hts es rs (k + 1) t
noncomputable def bh (es:List Er) (rs:List Int) (t:Int):Option Int:=hts es rs 0 t
noncomputable def placeOf (rs:List Int) (n:Int):Nat:=rs.findIdx (· == n)
noncomputable def c0 (es:List Er) (rs:List Int) (pl:Int) (acc:Int) (p:Int × Option Int):Int:=match p.2 with
  | some t=>(match bh es rs t with
    | some h=>if h≤pl then max acc (p.1 - 1) else acc
    | none=>acc)
  | none=>acc
noncomputable def cP (es:List Er) (rs:List Int) (n:Int):Int:=(((rs.drop (placeOf rs n + 1)).map fun m=>(aF es m).parts).flatten).foldl (c0 es rs (placeOf rs n)) 0
noncomputable def Er.times (e:Er) (t:Int):Int:=(t + e.late) / e.every + (if (t + e.late) % e.every > 0 then 1 else 0)
noncomputable def dF (es:List Er) (rs:List Int) (n t:Int):Int:=cP es rs n + (aF es n).work + ((rs.take (placeOf rs n)).map fun m=>(aF es m).times t * (aF es m).work).sum
noncomputable def bW (es:List Er) (rs:List Int) (n:Int):Option Int:=((List.range ((aF es n).every - (aF es n).late).toNat).map fun (i:Nat)=>(1 + (i:Int))).find? fun t=>decide (dF es rs n t≤t)
noncomputable def ec (es:List Er) (rs:List Int) (n:Int):Bool:=match bW es rs n with
  | some t=>decide (t≤(aF es n).due)
  | none=>false
theorem uy {es:List Er} {n:Int} (h0:0≤n) (h1:n < es.length):es[n.toNat]?=some (aF es n):=by
  unfold aF
  rw [List.getD_eq_getElem?_getD,List.getElem?_eq_getElem (by omega)]; rfl
theorem cc {es:List Er} {n:Int} (h0:0≤n) (h1:n < es.length):aF es n∈es:=List.mem_of_getElem? (uy h0 h1)
theorem dP {es:List Er} {n:Int} (h0:0≤n) (h1:n < es.length):atI (es.map Er.d) n=some (aF es n).d:=by
  rw [mx (j:=n.toNat) (by omega),List.getElem?_map,uy h0 h1]; rfl
theorem z0 {ns:List Int} {n:Int} (h0:0≤n) (h1:n < ns.length):atI (ns.map PyData.int) n=some (.int (ns.getD n.toNat 0)):=by
  rw [mx (j:=n.toNat) (by omega),List.getElem?_map,List.getD_eq_getElem?_getD,List.getElem?_eq_getElem (by omega)]; rfl
noncomputable def bq:Gf
  | [d]=>if v5 d then .ok (.int (deE d).work) else .no
  | _=>.no
theorem eE {e:Er} (h:e.Sh):bq [e.d]=.ok (.int e.work):=by unfold bq; simp [uk h,xZ]
theorem Aw (p:Int × Option Int):dIx (aU p) (.int 0)=some (.int p.1):=rfl
theorem zX (p:Int × Option Int):dIx (aU p) (.int 1)=some (bg p.2):=rfl
theorem zQ (e:Er):dIx e.d (.int 3)=some (.tuple (e.parts.map aU)):=rfl
theorem CJ {f:PyData→Rs PyData} {ds:List PyData} (h:(match ds with | [x0]=>f x0 | _=>.no)≠.no):∃ x0,ds=[x0]∧f x0≠.no:=by
  rcases ds with _ | ⟨x0,_ | ⟨y,ys⟩⟩
  · exact absurd rfl h
  · skip
    exact ⟨_,rfl,h⟩
  · exact absurd rfl h
theorem pN (cs:Cs):∀ ds,ds.length=1→bq ds≠.no→aV (jZ cs (ds.map some++List.replicate 0 none))=bq ds:=by
  intro ds hl hne
  obtain ⟨d,ez,hz⟩:=CJ hne
  clear hne; subst ez; have hne:=hz; clear hz
  · skip
    split at hne
    · rename_i hd
      obtain ⟨e1,sh⟩:=yx hd
      rw [← e1]
      generalize deE d=e at sh
      rw [eE sh]
      have hc:cw 1 (dS (g2 dIx (ag 0) (gC (.int 3)))) cY (g2 dIx (ag 1) (gC (.int 0))) bT [some e.d]=.ok ((e.parts.map aU).map fun d=>.int (cQ d).1) :=
        eL rfl (by simp [zQ]) (by have:=sh.pn; simp; omega) fun d hd'=>by
          obtain ⟨p,hp,rfl⟩:=List.mem_map.mp hd'
          simp [Aw,kO]
      have hm:((e.parts.map aU).map fun d=>PyData.int (cQ d).1)=e.parts.map fun p=>.int p.1:=by
        rw [List.map_map]; exact List.map_congr_left fun p _=>by simp [kO]
      rw [hm] at hc
      simp [jZ,hc,AJ,Er.work]
    · exact absurd rfl hne
end RS
set_option maxRecDepth 100000
set_option maxHeartbeats 1000000
namespace RS
open PySem L2
theorem rangeSize_down (n:Nat):Builtin.Range.rangeSize ((n:Int) - 1) (-1) (-1)=n:=by
  unfold Builtin.Range.rangeSize
  rw [if_neg (by decide)]
  split
  · simp
  · omega
theorem yF (n:Nat) (h:n≤1000):zZ [.int ((n:Int) - 1),.int (-1),.int (-1)]=.ok (iP ((n:Int) - 1) (-1) n):=by
  have hs:Builtin.Range.small ((n:Int) - 1) (-1) (-1)=true:=by
    unfold Builtin.Range.small
    rw [rangeSize_down]
    simp [Builtin.Range.rangeFitsLong]
    omega
  have ho:qF ((n:Int) - 1) (-1) (-1)=true:=by
    unfold qF
    rw [hs,Bool.and_true]
    exact decide_eq_true (by omega)
  unfold zZ
  simp only [ho,if_true]
  unfold wz
  rw [rangeSize_down]
  rfl
noncomputable def bM:Gf
  | [d,r]=>if jC d && cE (bN d).length r then .ok (.list ((List.range 4).map fun (t:Nat)=>bg (bh (bN d) (bK r) t))) else .no
  | _=>.no
theorem i8 {es:List Er} {rs:List Int} (h1:es.length≤100) (h:∀ e∈es,e.Sh) (hr:bz es.length rs):bM [av es,ao rs]=.ok (.list ((List.range 4).map fun (t:Nat)=>bg (bh es rs t))):=by
  unfold bM; simp [fL h1 h,cx,cN hr,cq]
noncomputable def qB (k:Int) (L:List PyData) (p:Int × Option Int):List PyData:=match p.2 with
  | some t=>L.set t.toNat (.int k)
  | none=>L
theorem pK (k:Int) (L:List PyData) (p:Int × Option Int):(qB k L p).length=L.length:=by unfold qB; split <;> simp
theorem sj (k:Int):∀ (ps:List (Int × Option Int)) (L:List PyData),(ps.foldl (qB k) L).length=L.length
  | [],L=>rfl
  | p::r,L=>by rw [List.foldl_cons,sj k r,pK]
theorem rV (k:Int):∀ (ps:List (Int × Option Int)) (L:List PyData) (t:Nat),(∀ p∈ps,∀ t,p.2=some t→0≤t∧t≤3)→t < L.length→(ps.foldl (qB k) L)[t]?=if ps.any (fun p=>p.2 == some (t:Int)) then some (.int k) else L[t]?
  | [],L,t,_,_=>rfl
  | p::r,L,t,h,hl=>by
    rw [List.foldl_cons,rV k r _ t (fun q hq=>h q (List.mem_cons_of_mem _ hq)) (by rw [pK]; exact hl)]
    rw [List.any_cons]
    cases hr:r.any (fun p=>p.2 == some (t:Int)) with
    | true=>simp
    | false =>
      obtain ⟨l,o⟩:=p
      cases o with
      | none=>simp [qB]
      | some u =>
        have hu:=h (l,some u) List.mem_cons_self u rfl
        simp only [Bool.false_eq_true,if_false,Bool.or_false,qB]
        by_cases z:u=(t:Int)
        · subst z
          simp [hl]
        · rw [List.getElem?_set_ne (by omega)]
          have:(some u == some (t:Int))=false:=by simpa using z
          rw [this]; rfl
theorem lW (E R:PyData) (k:Int):∀ (ps:List (Int × Option Int)) (L:List PyData) (x4 x5:Option PyData),L.length=4→(∀ p∈ps,∀ t,p.2=some t→0≤t∧t≤3) →
    ∃ y4 y5,forL (dA [4,5]) (sIf (gT (g1 fZ (ag 5))) (rf 2 (ag 5) (ag 3)) b5) (ps.map aU) [some E,some R,some (.list L),some (.int k),x4,x5]=.nx [some E,some R,some (.list (ps.foldl (qB k) L)),some (.int k),y4,y5]
  | [],L,x4,x5,_,_=>⟨x4,x5,rfl⟩
  | p::r,L,x4,x5,hL,h=>by
    obtain ⟨y4,y5,e⟩:=lW E R k r (qB k L p) (some (.int p.1)) (some (bg p.2)) (by rw [pK]; exact hL) (fun q hq=>h q (List.mem_cons_of_mem _ hq))
    refine ⟨y4,y5,?_⟩
    rw [List.map_cons,List.foldl_cons]
    unfold forL
    obtain ⟨l,o⟩:=p
    cases o with
    | none =>
      simp [aU,dA,iS,bg]
      simpa [qB,bg] using e
    | some u =>
      have hu:=h (l,some u) List.mem_cons_self u rfl
      have hx:ixN L.length u=some u.toNat:=by unfold ixN; rw [if_pos hu.1,if_pos (by omega)]
      have nl:gI (.int k)=true:=by unfold gI; rfl
      simp [aU,dA,iS,bg,rf,hx,nl]
      simpa [qB,bg] using e
theorem Bk (es:List Er) (rs:List Int) (k:Nat) (t:Int) (h:k < rs.length):hts es (rs.drop k) k t=if (aF es (rs.getD k 0)).has t then some (k:Int) else hts es (rs.drop (k + 1)) ((k + 1:Nat):Int) t:=by
  rw [List.drop_eq_getElem_cons h]
  show (if _ then _ else _)=_
  rw [List.getD_eq_getElem?_getD,List.getElem?_eq_getElem h]
  simp
theorem rD (cs:Cs):∀ ds,ds.length=2→bM ds≠.no→aV (ff cs (ds.map some++List.replicate 4 none))=bM ds:=by
  intro ds hl hne
  obtain ⟨d,r,rfl⟩:∃ d r,ds=[d,r]:=by
    match ds,hl with
    | [d,r],_=>exact ⟨d,r,rfl⟩
  unfold bM at hne
  simp only at hne
  split at hne
  · rename_i hc
    rw [Bool.and_eq_true] at hc
    obtain ⟨e1,hlen,hsh⟩:=jV hc.1
    obtain ⟨e2,hr⟩:=eu hc.2
    rw [← e1,← e2]
    generalize bN d=es at *
    generalize bK r=rs at *
    rw [i8 hlen hsh hr]
    have hn:=hr.len
    -- the outer loop
    have outer:∃ δ',forL (b7 3) (iT [2] (dS (g2 dIx (g2 dIx (ag 0) (g2 dIx (ag 1) (ag 3))) (gC (.int 3)))) (dA [4,5]) (sIf (gT (g1 fZ (ag 5))) (rf 2 (ag 5) (ag 3)) b5))
        (iP ((rs.length:Int) - 1) (-1) rs.length) [some (av es),some (ao rs),some (.list [.none,.none,.none,.none]),none,none,none]=.nx δ' ∧
        (∃ x3 x4 x5,δ'=[some (av es),some (ao rs),some (.list ((List.range 4).map fun (t:Nat)=>bg (hts es (rs.drop (rs.length - (0 + (iP ((rs.length:Int) - 1) (-1) rs.length).length))) (((rs.length - (0 + (iP ((rs.length:Int) - 1) (-1) rs.length).length):Nat):Int)) t))),x3,x4,x5]):=by
      refine iq (β:=Unit) (fun i δ=>∃ x3 x4 x5,δ=[some (av es),some (ao rs),some (.list ((List.range 4).map fun (t:Nat)=>bg (hts es (rs.drop (rs.length - i)) ((rs.length - i:Nat):Int) t))),x3,x4,x5]) _ 0 ?_ _ ⟨none,none,none,?_⟩
      · rintro i dd δ hi ⟨x3,x4,x5,rfl⟩
        rw [Nat.zero_add] at *
        have hil:i < rs.length:=by
          have:=(List.getElem?_eq_some_iff.mp hi).1
          rwa [iJ] at this
        have hdd:dd=.int (((rs.length - (i + 1):Nat):Int)):=by
          unfold iP at hi
          rw [List.getElem?_map,List.getElem?_range hil] at hi
          simp at hi
          rw [← hi]; congr 1; omega
        subst hdd
        generalize hk:rs.length - (i + 1)=k at *
        have hki:rs.length - i=k + 1:=by omega
        rw [hki]
        have hkl:k < rs.length:=by omega
        have hrk:=hr.rng (rs.getD k 0) (by rw [List.getD_eq_getElem?_getD,List.getElem?_eq_getElem hkl]; exact List.getElem_mem hkl)
        have hsk:=hsh _ (cc hrk.1 (by omega))
        obtain ⟨y4,y5,e⟩:=lW (av es) (ao rs) k (aF es (rs.getD k 0)).parts ((List.range 4).map fun (t:Nat)=>bg (hts es (rs.drop (k + 1)) ((k + 1:Nat):Int) t)) x4 x5 (by simp) (fun p hp=>(hsk.pl p hp).2.2)
        have a1:atI (rs.map PyData.int) (k:Int)=some (.int (rs.getD k 0)):=by rw [z0 (by omega) (by omega)]; simp
        have a2:atI (es.map Er.d) (rs.getD k 0)=some (aF es (rs.getD k 0)).d:=dP hrk.1 (by omega)
        refine ⟨[some (av es),some (ao rs),some (.list ((List.range 4).map fun (t:Nat)=>bg (hts es (rs.drop (k + 1)) ((k + 1:Nat):Int) t))),some (.int k),x4,x5],_,by simp [b7],?_,some (.int k),y4,y5,rfl⟩
        rw [fm]
        have src:dS (g2 dIx (g2 dIx (ag 0) (g2 dIx (ag 1) (ag 3))) (gC (.int 3))) (mask [2] [some (av es),some (ao rs),some (.list ((List.range 4).map fun (t:Nat)=>bg (hts es (rs.drop (k + 1)) ((k + 1:Nat):Int) t))),some (.int (k:Int)),x4,x5])=.ok ((aF es (rs.getD k 0)).parts.map aU):=by
          simp only [mS,cu,aL (show 0 ∉ [2] by decide),aL (show 1 ∉ [2] by decide),aL (show 3 ∉ [2] by decide),aw,ax,dz,Rs.aj]
          simp only [av,ao,lU,a1,a2,zQ,Rs.aq,Rs.aj,n5]
        rw [src,aA,e]
        have hL:(aF es (rs.getD k 0)).parts.foldl (qB k) ((List.range 4).map fun (t:Nat)=>bg (hts es (rs.drop (k + 1)) ((k + 1:Nat):Int) t))=(List.range 4).map fun (t:Nat)=>bg (hts es (rs.drop k) k t):=?hL
        rw [hL]
        case hL =>
        apply List.ext_getElem?
        intro t
        by_cases ht:t < 4
        · rw [rV _ _ _ _ (fun p hp=>(hsk.pl p hp).2.2) (by simpa using ht),List.getElem?_map,List.getElem?_map,List.getElem?_range ht]
          rw [Option.map_some,Option.map_some,Bk es rs k t hkl]
          unfold Er.has
          split <;> rfl
        · rw [List.getElem?_eq_none (by rw [sj]; simp; omega),List.getElem?_eq_none (by simp; omega)]
      · simp [hts]; rfl
    rw [iJ,Nat.zero_add,Nat.sub_self] at outer
    obtain ⟨δ',e,x3,x4,x5,rfl⟩:=outer
    have r3:=yF rs.length (by omega)
    have hown:lM [2] 2 (af (gC .none) (af (gC .none) (af (gC .none) (af (gC .none) ar)))) [some (av es),some (ao rs),none,none,none,none]=.nx [some (av es),some (ao rs),some (.list [.none,.none,.none,.none]),none,none,none]:=rfl
    have src:xB (af (g2 eW (gF eR (af (ag 1) ar)) (gC (.int 1))) (af (g1 nM (gC (.int 1))) (af (g1 nM (gC (.int 1))) ar))) (mask [2] [some (av es),some (ao rs),some (.list [.none,.none,.none,.none]),none,none,none])=.ok (iP ((rs.length:Int) - 1) (-1) rs.length):=by
      simp only [B6,aI,aP,cu,sM,jH,aL (show 1 ∉ [2] by decide),aw,ax,dz,Rs.aj,ao,sY,Rs.aq,g0,CG,List.length_map]
      exact r3
    show aV (ff cs [some (av es),some (ao rs),none,none,none,none])=_
    simp only [ff,aZ,hown,fm,src,aA]
    rw [e]
    simp [bh]
  · exact absurd rfl hne
end RS
set_option maxRecDepth 100000
set_option maxHeartbeats 1000000
namespace RS
open PySem L2
theorem wN {rs:List Int} {n:Int} (h:n∈rs):placeOf rs n < rs.length:=List.findIdx_lt_length_of_exists ⟨n,h,by simp⟩
theorem vJ:∀ {l m:List Int},l.Nodup→(∀ x∈l,x∈m)→l.length≤m.length
  | [],m,_,_=>Nat.zero_le _
  | x::r,m,hn,hs=>by
    rw [List.nodup_cons] at hn
    have hx:=hs x List.mem_cons_self
    have:=vJ (l:=r) (m:=m.erase x) hn.2 fun y hy=>by
      rw [List.mem_erase_of_ne (by rintro rfl; exact hn.1 hy)]
      exact hs y (List.mem_cons_of_mem _ hy)
    rw [List.length_erase_of_mem hx] at this
    have hp:=List.length_pos_of_mem hx
    rw [List.length_cons]; omega
theorem bz.mem {k:Nat} {rs:List Int} (h:bz k rs) {n:Int} (h0:0≤n) (h1:n < k):n∈rs:=by
  have base:∀ x:Int,0≤x→x < k→x∈(List.range k).map fun (i:Nat)=>(i:Int):=fun x a b=>List.mem_map.mpr ⟨x.toNat,List.mem_range.mpr (by omega),by omega⟩
  by_cases z:n∈rs
  · exact z
  · exfalso
    have:=vJ (l:=n::rs) (m:=(List.range k).map fun (i:Nat)=>(i:Int)) (List.nodup_cons.mpr ⟨z,h.nd⟩) fun x hx=>by
      rcases List.mem_cons.mp hx with q | q
      · rw [q]; exact base n h0 h1
      · have:=h.rng x q
        exact base x this.1 this.2
    have hl:=h.len
    simp at this
    omega
theorem oE (ns:List Int):(ns.map PyData.int).all f6=true:=by
  rw [List.all_eq_true]; intro d hd; obtain ⟨n,_,rfl⟩:=List.mem_map.mp hd; rfl
theorem nj (n:Int):∀ rs:List Int,n∈rs→(((rs.map PyData.int).map toV).findIdx? fun z=>eqV z (.int n))=some (placeOf rs n)
  | [],h=>by cases h
  | r::rs,h=>by
    have ev:eqV (.int r) (.int n)=(r == n):=rfl
    rw [List.map_cons,List.map_cons,List.findIdx?_cons]
    unfold placeOf
    rw [List.findIdx_cons]
    show (if eqV (.int r) (.int n)=true then some 0 else _)=_
    rw [ev]
    cases hr:r == n with
    | true=>rfl
    | false =>
      have hne:r≠n:=by simpa using hr
      have:=nj n rs ((List.mem_cons.mp h).resolve_left fun q=>hne q.symm)
      rw [if_neg Bool.false_ne_true,this]
      rfl
theorem iZ {rs:List Int} {n:Int} (h:n∈rs):oN (rs.map .int) (.int n)=some (.int (placeOf rs n)):=by
  unfold oN
  rw [oE,show f6 (.int n)=true from rfl]
  simp only [Bool.and_self,if_true]
  rw [show toV (.int n)=.int n from rfl,nj n rs h]; rfl
@[simp] theorem sL (go ga:Ds→Rs PyData) (δ:Ds):rk go ga δ=(go δ).bind fun d=>match d with | .tuple xs=>(ga δ).bind fun y=>Rs.f9 (oN xs y) | _=>.no:=rfl
theorem kG {xs:List PyData} {k:Nat}:cutD xs (some (k:Int)) none=xs.drop k:=by
  unfold cutD
  have e1:HT.sIx xs.length 0 (some (k:Int))=min k xs.length:=HT.xH _ _ _
  have e2:HT.sIx xs.length xs.length none=xs.length:=rfl
  rw [e1,e2]
  by_cases h:k≤xs.length
  · rw [Nat.min_eq_left h]; exact List.take_of_length_le (by simp)
  · rw [Nat.min_eq_right (by omega),List.drop_of_length_le (Nat.le_refl _),List.drop_of_length_le (by omega)]; simp
theorem tQ {xs:List PyData} {k:Nat}:cutD xs none (some (k:Int))=xs.take k:=by
  unfold cutD
  have e1:HT.sIx xs.length 0 none=0:=rfl
  have e2:HT.sIx xs.length xs.length (some (k:Int))=min k xs.length:=HT.xH _ _ _
  rw [e1,e2]
  simp
theorem qA (es:List Er) (t:Int):∀ (rs:List Int) (k:Int) (m:Int),m∈rs→(aF es m).has t=true→∃ h,hts es rs k t=some h
  | [],_,_,h,_=>by cases h
  | r::rs,k,m,h,ht=>by
    unfold hts
    by_cases z:(aF es r).has t=true
    · exact ⟨k,by rw [if_pos z]⟩
    · rw [if_neg z]
      rcases List.mem_cons.mp h with q | q
      · subst q; exact absurd ht z
      · exact qA es t rs (k + 1) m q ht
theorem qj {es:List Er} {rs:List Int} {t:Int} (h0:0≤t) (h3:t≤3):atI ((List.range 4).map fun (t:Nat)=>bg (bh es rs t)) t=some (bg (bh es rs t)):=by
  rw [mx (j:=t.toNat) (by omega),List.getElem?_map,List.getElem?_range (by omega)]
  simp only [Option.map_some]
  rw [Int.toNat_of_nonneg h0]
noncomputable def b3:Gf
  | [d,r,.int n]=>if jC d && cE (bN d).length r && decide (0≤n) && decide (n < (bN d).length) then .ok (.int (cP (bN d) (bK r) n)) else .no
  | _=>.no
theorem kB {es:List Er} {rs:List Int} {n:Int} (h1:es.length≤100) (h:∀ e∈es,e.Sh) (hr:bz es.length rs) (n0:0≤n) (n1:n < es.length):b3 [av es,ao rs,.int n]=.ok (.int (cP es rs n)):=by
  unfold b3; simp [fL h1 h,cx,cN hr,cq,n0,n1]
theorem DC {d r x:PyData} {f:PyData→PyData→Int→Bool} {g:PyData→PyData→Int→PyData} {gf:Gf} (hgf:∀ d r n,gf [d,r,.int n]=if f d r n then .ok (g d r n) else .no) (hno:∀ d r x,(∀ n,x≠.int n)→gf [d,r,x]=.no) (h:gf [d,r,x]≠.no):∃ n,x=.int n∧f d r n=true:=by
  cases x with
  | int n =>
    refine ⟨n,rfl,?_⟩
    rw [hgf] at h
    by_cases z:f d r n=true
    · exact z
    · rw [if_neg z] at h; exact absurd rfl h
  | _=>exact absurd (hno d r _ (by intro n q; cases q)) h
theorem qN (es:List Er) (rs:List Int) (E R n:PyData) (pl:Nat) (lo:PyData) (HL:List PyData) (hHL:∀ t:Int,0≤t→t≤3→atI HL t=some (bg (bh es rs t))):∀ (ps:List (Int × Option Int)) (acc:Int) (x7 x8:Option PyData),(∀ p∈ps,∀ t,p.2=some t→0≤t∧t≤3∧∃ h,bh es rs t=some h) →
    ∃ y7 y8,forL (dA [7,8]) (sIf (nW (gT (g1 fZ (ag 8))) (gT (g2 dLe (g2 dIx (ag 4) (ag 8)) (ag 3)))) (bj [] 5 (gF lY (af (ag 5) (af (g2 eW (ag 7) (gC (.int 1))) ar)))) b5) (ps.map aU)
      [some E,some R,some n,some (.int pl),some (.list HL),some (.int acc),some lo,x7,x8]
     =.nx [some E,some R,some n,some (.int pl),some (.list HL),some (.int (ps.foldl (c0 es rs pl) acc)),some lo,y7,y8]
  | [],acc,x7,x8,_=>⟨x7,x8,rfl⟩
  | p::r,acc,x7,x8,h=>by
    obtain ⟨y7,y8,e⟩:=qN es rs E R n pl lo HL hHL r (c0 es rs pl acc p) (some (.int p.1)) (some (bg p.2)) (fun q hq=>h q (List.mem_cons_of_mem _ hq))
    refine ⟨y7,y8,?_⟩
    rw [List.map_cons,List.foldl_cons]
    unfold forL
    obtain ⟨l,o⟩:=p
    cases o with
    | none =>
      simp [aU,dA,iS,bg]
      simpa [c0,bg] using e
    | some t =>
      obtain ⟨h0,h3,hh,ht⟩:=h (l,some t) List.mem_cons_self t rfl
      have ha:=hHL t h0 h3
      rw [ht] at ha
      by_cases hle:hh≤(pl:Int)
      · have em:c0 es rs pl acc (l,some t)=if l - 1 > acc then l - 1 else acc:=by
          unfold c0; simp only [ht,if_pos hle]; split <;> omega
        rw [em] at e ⊢
        simp only [aU,bg] at e
        simp [aU,dA,iS,bg,ha,hle]
        exact e
      · have em:c0 es rs pl acc (l,some t)=acc:=by unfold c0; simp only [ht,if_neg hle]
        rw [em] at e ⊢
        simp only [aU,bg] at e
        simp [aU,dA,iS,bg,ha,hle]
        exact e
theorem Al {e:Er} {p:Int × Option Int} {t:Int} (hp:p∈e.parts) (h:p.2=some t):e.has t=true:=List.any_eq_true.mpr ⟨p,hp,by simp [h]⟩
theorem qv {es:List Er} {rs:List Int} (hsh:∀ e∈es,e.Sh) (hr:bz es.length rs) (n:PyData) (pl:Nat):∀ (ms:List Int) (acc:Int) (x6 x7 x8:Option PyData),(∀ m∈ms,m∈rs) →
    ∃ y6 y7 y8,forL (b7 6) (iT [] (dS (g2 dIx (g2 dIx (ag 0) (ag 6)) (gC (.int 3)))) (dA [7,8]) (sIf (nW (gT (g1 fZ (ag 8))) (gT (g2 dLe (g2 dIx (ag 4) (ag 8)) (ag 3)))) (bj [] 5 (gF lY (af (ag 5) (af (g2 eW (ag 7) (gC (.int 1))) ar)))) b5)) (ms.map PyData.int)
      [some (av es),some (ao rs),some n,some (.int pl),some (.list ((List.range 4).map fun (t:Nat)=>bg (bh es rs t))),some (.int acc),x6,x7,x8]
     =.nx [some (av es),some (ao rs),some n,some (.int pl),some (.list ((List.range 4).map fun (t:Nat)=>bg (bh es rs t))),some (.int (((ms.map fun m=>(aF es m).parts).flatten).foldl (c0 es rs pl) acc)),y6,y7,y8]
  | [],acc,x6,x7,x8,_=>⟨x6,x7,x8,rfl⟩
  | m::r,acc,x6,x7,x8,h=>by
    have hm:=h m List.mem_cons_self
    have hrg:=hr.rng m hm
    have hsm:=hsh _ (cc hrg.1 (by omega))
    obtain ⟨z7,z8,e1⟩:=qN es rs (av es) (ao rs) n pl (.int m) ((List.range 4).map fun (t:Nat)=>bg (bh es rs t)) (fun t a b=>qj a b) (aF es m).parts acc x7 x8 fun p hp t ht=>by
      obtain ⟨_,_,c⟩:=hsm.pl p hp
      have:=c t ht
      exact ⟨this.1,this.2,qA es t rs 0 m hm (Al hp ht)⟩
    obtain ⟨y6,y7,y8,e2⟩:=qv hsh hr n pl r ((aF es m).parts.foldl (c0 es rs pl) acc) (some (.int m)) z7 z8 fun x hx=>h x (List.mem_cons_of_mem _ hx)
    refine ⟨y6,y7,y8,?_⟩
    rw [List.map_cons,List.map_cons,List.flatten_cons,List.foldl_append]
    unfold forL
    have a2:atI (es.map Er.d) m=some (aF es m).d:=dP hrg.1 (by omega)
    have src:dS (g2 dIx (g2 dIx (ag 0) (ag 6)) (gC (.int 3))) [some (av es),some (ao rs),some n,some (.int pl),some (.list ((List.range 4).map fun (t:Nat)=>bg (bh es rs t))),some (.int acc),some (.int m),x7,x8]=.ok ((aF es m).parts.map aU):=by
      simp only [mS,cu,aw,ax,dz,Rs.aj,av,lU,a2,Rs.aq,zQ,n5]
    have ht:b7 6 (.int m) [some (av es),some (ao rs),some n,some (.int pl),some (.list ((List.range 4).map fun (t:Nat)=>bg (bh es rs t))),some (.int acc),x6,x7,x8]=some [some (av es),some (ao rs),some n,some (.int pl),some (.list ((List.range 4).map fun (t:Nat)=>bg (bh es rs t))),some (.int acc),some (.int m),x7,x8]:=rfl
    rw [ht]
    simp only [fm,dE,src,aA,e1]
    exact e2
theorem wF (cs:Cs):∀ ds,ds.length=3→b3 ds≠.no→aV (iz cs bM (ds.map some++List.replicate 6 none))=b3 ds:=by
  intro ds hl hne
  obtain ⟨d,r,x,rfl⟩:∃ d r x,ds=[d,r,x]:=by
    match ds,hl with
    | [d,r,x],_=>exact ⟨d,r,x,rfl⟩
  obtain ⟨n,rfl,hc⟩:=DC (gf:=b3) (fun _ _ _=>rfl) (fun d r x hx=>by unfold b3; split <;> first | (rename_i q; injection q with _ q; injection q with _ q; injection q with q _; exact absurd q (hx _)) | rfl) hne
  simp only [Bool.and_eq_true,decide_eq_true_eq] at hc
  obtain ⟨⟨⟨c1,c2⟩,n0⟩,n1⟩:=hc
  obtain ⟨e1,hlen,hsh⟩:=jV c1
  obtain ⟨e2,hr⟩:=eu c2
  rw [← e1,← e2]
  generalize bN d=es at *
  generalize bK r=rs at *
  rw [kB hlen hsh hr n0 n1]
  have hmem:=hr.mem n0 (by omega)
  have hix:=iZ hmem
  have hh:=i8 hlen hsh hr
  obtain ⟨y6,y7,y8,e⟩:=qv hsh hr (.int n) (placeOf rs n) (rs.drop (placeOf rs n + 1)) 0 none none none (fun m hm=>List.mem_of_mem_drop hm)
  have src:dS (da (ag 1) (eU (g2 br (ag 3) (gC (.int 1)))) cB) [some (av es),some (ao rs),some (.int n),some (.int (placeOf rs n)),some (.list ((List.range 4).map fun (t:Nat)=>bg (bh es rs t))),some (.int 0),none,none,none]=.ok ((rs.drop (placeOf rs n + 1)).map PyData.int):=by
    simp only [mS,iw,ki,gz,cu,aw,ax,dz,Rs.aj,c9,Rs.aq,jX,ao,mD,n5]
    rw [show (placeOf rs n:Int) + 1=((placeOf rs n + 1:Nat):Int) by omega,kG,List.map_drop]
  show aV (iz cs bM [some (av es),some (ao rs),some (.int n),none,none,none,none,none,none])=_
  simp only [iz,aZ,cW,List.length_cons,List.length_nil,sL,aw,ax,Rs.aj,ao,hix,Rs.aq]
  simp only [Nat.reduceAdd,Nat.reduceLT,if_true,aA,List.set_cons_succ,List.set_cons_zero,a5,aI,aP,aw,ax,Rs.aj]
  rw [show (PyData.tuple (rs.map PyData.int))=ao rs from rfl,hh]
  simp only [aA,List.length_cons,List.length_nil,Nat.reduceAdd,Nat.reduceLT,if_true,List.set_cons_succ,List.set_cons_zero,dz,fm,dE,src]
  rw [e]
  rfl
end RS
set_option maxRecDepth 100000
set_option maxHeartbeats 1000000
namespace RS
open PySem L2
theorem qG:∀ (ps:List (Int × Option Int)),(∀ p∈ps,0≤p.1∧p.1≤1000000)→0≤(ps.map (·.1)).sum∧(ps.map (·.1)).sum≤1000000 * ps.length
  | [],_=>by simp
  | p::r,h=>by
    have h1:=h p List.mem_cons_self
    have h2:=qG r fun q hq=>h q (List.mem_cons_of_mem _ hq)
    simp only [List.map_cons,List.sum_cons,List.length_cons]
    omega
theorem Er.Sh.work_b {e:Er} (h:e.Sh):0≤e.work∧e.work≤1000000000:=by
  have:=qG e.parts fun p hp=>⟨(h.pl p hp).1,(h.pl p hp).2.1⟩
  have h2:=h.pn
  unfold Er.work
  omega
theorem Dn {a b:Int} (h1:-(2 ^ 64) < b) (h2:b < 2 ^ 64):nB (.int a) (.int b)=some (.int (a * b)):=by
  show (if _ then _ else _)=_
  rw [if_pos (.inr ⟨h1,h2⟩)]
theorem xp {a b:Int} (h1:-(2 ^ 64) < a) (h2:a < 2 ^ 64):nB (.int a) (.int b)=some (.int (a * b)):=by
  show (if _ then _ else _)=_
  rw [if_pos (.inl ⟨h1,h2⟩)]
noncomputable def cj:Gf
  | [d,r,.int n,.int t]=>if jC d && cE (bN d).length r && decide (0≤n) && decide (n < (bN d).length) then .ok (.int (dF (bN d) (bK r) n t)) else .no
  | _=>.no
theorem lu {es:List Er} {rs:List Int} {n t:Int} (h1:es.length≤100) (h:∀ e∈es,e.Sh) (hr:bz es.length rs) (n0:0≤n) (n1:n < es.length):cj [av es,ao rs,.int n,.int t]=.ok (.int (dF es rs n t)):=by
  unfold cj; simp [fL h1 h,cx,cN hr,cq,n0,n1]
theorem r8 {es:List Er} {rs:List Int} (hsh:∀ e∈es,e.Sh) (hr:bz es.length rs) (n:PyData) (t:Int):∀ (ms:List Int) (acc:Int) (x5 x6 x7 x8 x9 x10:Option PyData),(∀ m∈ms,m∈rs) →
    ∃ y5 y6 y7 y8 y9 y10,forL (b7 5) (bo (qY [] (dA [6,7,8,9]) (g2 dIx (ag 0) (ag 5)))
    (bo (bj [] 10 (g2 br (g2 sy (g2 br (ag 3) (ag 8)) (ag 6)) (gF vo (af (g2 dGt (g2 o8 (g2 br (ag 3) (ag 8)) (ag 6)) (gC (.int 0))) ar))))
    (bj [] 4 (g2 br (ag 4) (g2 nB (ag 10) (aE bq (af (g2 dIx (ag 0) (ag 5)) ar))))))) (ms.map PyData.int)
      [some (av es),some (ao rs),some n,some (.int t),some (.int acc),x5,x6,x7,x8,x9,x10]
     =.nx [some (av es),some (ao rs),some n,some (.int t),some (.int (acc + (ms.map fun m=>(aF es m).times t * (aF es m).work).sum)),y5,y6,y7,y8,y9,y10]
  | [],acc,x5,x6,x7,x8,x9,x10,_=>⟨x5,x6,x7,x8,x9,x10,by simp [forL]⟩
  | m::r,acc,x5,x6,x7,x8,x9,x10,h=>by
    have hm:=h m List.mem_cons_self
    have hrg:=hr.rng m hm
    have hsm:=hsh _ (cc hrg.1 (by omega))
    have a2:atI (es.map Er.d) m=some (aF es m).d:=dP hrg.1 (by omega)
    obtain ⟨y5,y6,y7,y8,y9,y10,e2⟩:=r8 hsh hr n t r (acc + (aF es m).times t * (aF es m).work) (some (.int m)) (some (.int (aF es m).every)) (some (.int (aF es m).due)) (some (.int (aF es m).late)) (some (.tuple ((aF es m).parts.map aU))) (some (.int ((aF es m).times t))) fun x hx=>h x (List.mem_cons_of_mem _ hx)
    refine ⟨y5,y6,y7,y8,y9,y10,?_⟩
    have hw:=hsm.work_b
    have hgw:=eE hsm
    rw [List.map_cons,List.map_cons,List.sum_cons,← Int.add_assoc]
    unfold forL
    generalize hE:aF es m=e at *
    have he:e.d=.tuple [.int e.every,.int e.due,.int e.late,.tuple (e.parts.map aU)]:=rfl
    have st1:qY [] (dA [6,7,8,9]) (g2 dIx (ag 0) (ag 5)) [some (av es),some (ao rs),some n,some (.int t),some (.int acc),some (.int m),x6,x7,x8,x9,x10]=.nx [some (av es),some (ao rs),some n,some (.int t),some (.int acc),some (.int m),some (.int e.every),some (.int e.due),some (.int e.late),some (.tuple (e.parts.map aU)),x10]:=by
      unfold qY
      rw [dE]
      simp only [cu,aw,ax,Rs.aj,av,lU,a2,Rs.aq,aA,he]
      rfl
    have ht:b7 5 (.int m) [some (av es),some (ao rs),some n,some (.int t),some (.int acc),x5,x6,x7,x8,x9,x10]=some [some (av es),some (ao rs),some n,some (.int t),some (.int acc),some (.int m),x6,x7,x8,x9,x10]:=rfl
    have ev1:=hsm.e1
    have ev2:=hsm.e2
    have etm:(t + e.late) / e.every + (if decide (0 < (t + e.late) % e.every) then 1 else 0)=e.times t:=by unfold Er.times; simp
    rw [ht]
    simp only [aZ,st1]
    simp only [cW,List.length_cons,List.length_nil,Nat.reduceAdd,Nat.reduceLT,if_true,cu,jH,aI,aP,aw,ax,dz,Rs.aj,c9,Rs.aq,Ay,CP,FQ,A5,if_pos (show 0 < e.every∧e.every < 1073741824 from ⟨by omega,ev2⟩),if_pos (show 0 < e.every by omega),aA,List.set_cons_succ,List.set_cons_zero,etm,a5,av,lU,a2,hgw]
    simp only [Dn (a:=e.times t) (show -(2 ^ 64) < e.work by omega) (show e.work < 2 ^ 64 by omega),Rs.aq,Rs.aj,c9,aA]
    exact e2
theorem k4 {f:PyData→PyData→Int→Int→Rs PyData} {ds:List PyData} (h:(match ds with | [x0,x1,.int x2,.int x3]=>f x0 x1 x2 x3 | _=>.no)≠.no):∃ x0 x1 x2 x3,ds=[x0,x1,.int x2,.int x3]∧f x0 x1 x2 x3≠.no:=by
  rcases ds with _ | ⟨x0,_ | ⟨x1,_ | ⟨x2,_ | ⟨x3,_ | ⟨y,ys⟩⟩⟩⟩⟩
  · exact absurd rfl h
  · exact absurd rfl h
  · exact absurd rfl h
  · first | exact absurd rfl h | (cases x2 <;> exact absurd rfl h)
  · skip
    cases x2 with
    | int x2 =>
      cases x3 with
      | int x3 =>
        exact ⟨_,_,_,_,rfl,h⟩
      | _=>exact absurd rfl h
    | _=>first | exact absurd rfl h | (cases x3 <;> exact absurd rfl h)
  · first | exact absurd rfl h | (cases x2 <;> first | exact absurd rfl h | (cases x3 <;> exact absurd rfl h))
theorem xw (cs:Cs):∀ ds,ds.length=4→cj ds≠.no→aV (ie cs bq b3 (ds.map some++List.replicate 7 none))=cj ds:=by
  intro ds hl hne
  obtain ⟨d,r,n,t,ez,hz⟩:=k4 hne
  clear hne; subst ez; have hne:=hz; clear hz
  · skip
    split at hne
    · rename_i hc
      simp only [Bool.and_eq_true,decide_eq_true_eq] at hc
      obtain ⟨⟨⟨c1,c2⟩,n0⟩,n1⟩:=hc
      obtain ⟨e1,hlen,hsh⟩:=jV c1
      obtain ⟨e2,hr⟩:=eu c2
      rw [← e1,← e2]
      generalize bN d=es at *
      generalize bK r=rs at *
      rw [lu hlen hsh hr n0 n1]
      have hmem:=hr.mem n0 (by omega)
      have hix:=iZ hmem
      have hh:=kB hlen hsh hr n0 n1
      have hsn:=hsh _ (cc n0 n1)
      have a2:atI (es.map Er.d) n=some (aF es n).d:=dP n0 n1
      have hgw:=eE hsn
      obtain ⟨y5,y6,y7,y8,y9,y10,e⟩:=r8 hsh hr (.int n) t (rs.take (placeOf rs n)) (cP es rs n + (aF es n).work) none none none none none none (fun m hm=>List.mem_of_mem_take hm)
      have src:dS (da (ag 1) cB (eU (rk (ag 1) (ag 2)))) [some (av es),some (ao rs),some (.int n),some (.int t),some (.int (cP es rs n + (aF es n).work)),none,none,none,none,none,none]=.ok ((rs.take (placeOf rs n)).map PyData.int):=by
        simp only [mS,iw,ki,gz,sL,aw,ax,Rs.aj,ao,hix,Rs.aq,jX,mD,n5]
        rw [tQ,List.map_take]
      have st0:bj [] 4 (g2 br (aE b3 (af (ag 0) (af (ag 1) (af (ag 2) ar)))) (aE bq (af (g2 dIx (ag 0) (ag 2)) ar))) [some (av es),some (ao rs),some (.int n),some (.int t),none,none,none,none,none,none,none]
         =.nx [some (av es),some (ao rs),some (.int n),some (.int t),some (.int (cP es rs n + (aF es n).work)),none,none,none,none,none,none]:=by
        simp only [cW,List.length_cons,List.length_nil,Nat.reduceAdd,Nat.reduceLT,if_true,cu,a5,aI,aP,aw,ax,Rs.aj,hh]
        simp only [av,lU,a2,Rs.aq,Rs.aj,hgw,c9,aA]
        rfl
      show aV (ie cs bq b3 [some (av es),some (ao rs),some (.int n),some (.int t),none,none,none,none,none,none,none])=_
      simp only [ie]
      rw [aZ,st0]
      simp only
      rw [aZ,fm,dE,src,aA,e]
      rfl
    · exact absurd rfl hne
noncomputable def bS:Gf
  | [d,r,.int n]=>if jC d && cE (bN d).length r && decide (0≤n) && decide (n < (bN d).length) then .ok (bg (bW (bN d) (bK r) n)) else .no
  | _=>.no
theorem i5 {es:List Er} {rs:List Int} {n:Int} (h1:es.length≤100) (h:∀ e∈es,e.Sh) (hr:bz es.length rs) (n0:0≤n) (n1:n < es.length):bS [av es,ao rs,.int n]=.ok (bg (bW es rs n)):=by
  unfold bS; simp [fL h1 h,cx,cN hr,cq,n0,n1]
theorem ng (p:Int→Bool):∀ l:List Int,(l.map PyData.int).findSome? (fun d=>match d with | .int t=>if p t then some (.int t) else none | _=>none)=(l.find? p).map PyData.int
  | []=>rfl
  | x::r=>by
    rw [List.map_cons,List.findSome?_cons,List.find?_cons]
    cases h:p x with
    | true=>simp [h]
    | false=>simpa [h] using ng p r
theorem g6 {f:PyData→PyData→Int→Rs PyData} {ds:List PyData} (h:(match ds with | [x0,x1,.int x2]=>f x0 x1 x2 | _=>.no)≠.no):∃ x0 x1 x2,ds=[x0,x1,.int x2]∧f x0 x1 x2≠.no:=by
  rcases ds with _ | ⟨x0,_ | ⟨x1,_ | ⟨x2,_ | ⟨y,ys⟩⟩⟩⟩
  · exact absurd rfl h
  · exact absurd rfl h
  · exact absurd rfl h
  · skip
    cases x2 with
    | int x2 =>
      exact ⟨_,_,_,rfl,h⟩
    | _=>exact absurd rfl h
  · first | exact absurd rfl h | (cases x2 <;> exact absurd rfl h)
theorem rq (cs:Cs):∀ ds,ds.length=3→bS ds≠.no→aV (e9 cs cj (ds.map some++List.replicate 1 none))=bS ds:=by
  intro ds hl hne
  obtain ⟨d,r,n,ez,hz⟩:=g6 hne
  clear hne; subst ez; have hne:=hz; clear hz
  · skip
    split at hne
    · rename_i hc
      simp only [Bool.and_eq_true,decide_eq_true_eq] at hc
      obtain ⟨⟨⟨c1,c2⟩,n0⟩,n1⟩:=hc
      obtain ⟨e1,hlen,hsh⟩:=jV c1
      obtain ⟨e2,hr⟩:=eu c2
      rw [← e1,← e2]
      generalize bN d=es at *
      generalize bK r=rs at *
      rw [i5 hlen hsh hr n0 n1]
      have hsn:=hsh _ (cc n0 n1)
      have a2:atI (es.map Er.d) n=some (aF es n).d:=dP n0 n1
      have ev1:=hsn.e1; have ev2:=hsn.e2; have l1:=hsn.l1; have l2:=hsn.l2
      have src:yq (af (gC (.int 1)) (af (g2 br (g2 eW (g2 dIx (g2 dIx (ag 0) (ag 2)) (gC (.int 0))) (g2 dIx (g2 dIx (ag 0) (ag 2)) (gC (.int 2)))) (gC (.int 1))) ar)) [some (av es),some (ao rs),some (.int n),none]
         =.ok (((List.range ((aF es n).every - (aF es n).late).toNat).map fun (i:Nat)=>(1 + (i:Int))).map PyData.int):=by
        have he:∀ e:Er,e.d=.tuple [.int e.every,.int e.due,.int e.late,.tuple (e.parts.map aU)]:=fun _=>rfl
        simp only [Ce,aI,aP,cu,aw,ax,dz,Rs.aj,av,lU,a2,Rs.aq,he,FN,Fw,List.getElem?_cons_zero,List.getElem?_cons_succ,g0,c9]
        show (if _ then _ else _)=_
        rw [if_pos (by omega)]
        congr 1
        unfold cn
        rw [List.map_map,show ((aF es n).every - (aF es n).late + 1 - 1)=(aF es n).every - (aF es n).late by omega]
        rfl
      have loop:=sg (tgt:=b7 3) (body:=sIf (gT (g2 dLe (aE cj (af (ag 0) (af (ag 1) (af (ag 2) (af (ag 3) ar))))) (ag 3))) (b6 (ag 3)) b5)
        (fun δ=>∃ x,δ=[some (av es),some (ao rs),some (.int n),x]) (fun d=>match d with | .int t=>if decide (dF es rs n t≤t) then some (.int t) else none | _=>none)
        (((List.range ((aF es n).every - (aF es n).late).toNat).map fun (i:Nat)=>(1 + (i:Int))).map PyData.int) (fun d hd δ pz3=>by
          obtain ⟨x,hx⟩:=pz3
          subst hx
          obtain ⟨t,_,rfl⟩:=List.mem_map.mp hd
          refine ⟨[some (av es),some (ao rs),some (.int n),some (.int t)],rfl,?_⟩
          have hn:=lu (t:=t) hlen hsh hr n0 n1
          by_cases z:dF es rs n t≤t
          · exact .inl ⟨.int t,by simp [z],by simp [hn,z]⟩
          · exact .inr ⟨by simp [z],_,by simp [hn,z],some (.int t),rfl⟩) [some (av es),some (ao rs),some (.int n),none] ⟨none,rfl⟩
      rw [ng] at loop
      show aV (e9 cs cj [some (av es),some (ao rs),some (.int n),none])=_
      simp only [e9]
      rw [aZ,fm,dE,src,aA]
      unfold bW
      rcases loop with ⟨v,q1,q2⟩ | ⟨q1,δ',q2,x,rfl⟩
      · rw [q2]
        cases hf:(List.find? (fun t=>decide (dF es rs n t≤t)) ((List.range ((aF es n).every - (aF es n).late).toNat).map fun (i:Nat)=>(1 + (i:Int)))) with
        | none=>rw [hf] at q1; cases q1
        | some t=>rw [hf] at q1; cases q1; rfl
      · rw [q2]
        cases hf:(List.find? (fun t=>decide (dF es rs n t≤t)) ((List.range ((aF es n).every - (aF es n).late).toNat).map fun (i:Nat)=>(1 + (i:Int)))) with
        | none=>rfl
        | some t=>rw [hf] at q1; cases q1
    · exact absurd rfl hne
noncomputable def bA:Gf
  | [d,r,.int n]=>if jC d && cE (bN d).length r && decide (0≤n) && decide (n < (bN d).length) then .ok (.bool (ec (bN d) (bK r) n)) else .no
  | _=>.no
theorem i3 {es:List Er} {rs:List Int} {n:Int} (h1:es.length≤100) (h:∀ e∈es,e.Sh) (hr:bz es.length rs) (n0:0≤n) (n1:n < es.length):bA [av es,ao rs,.int n]=.ok (.bool (ec es rs n)):=by
  unfold bA; simp [fL h1 h,cx,cN hr,cq,n0,n1]
theorem rg (cs:Cs):∀ ds,ds.length=3→bA ds≠.no→aV (d7 cs bS (ds.map some++List.replicate 1 none))=bA ds:=by
  intro ds hl hne
  obtain ⟨d,r,n,ez,hz⟩:=g6 hne
  clear hne; subst ez; have hne:=hz; clear hz
  · skip
    split at hne
    · rename_i hc
      simp only [Bool.and_eq_true,decide_eq_true_eq] at hc
      obtain ⟨⟨⟨c1,c2⟩,n0⟩,n1⟩:=hc
      obtain ⟨e1,hlen,hsh⟩:=jV c1
      obtain ⟨e2,hr⟩:=eu c2
      rw [← e1,← e2]
      generalize bN d=es at *
      generalize bK r=rs at *
      rw [i3 hlen hsh hr n0 n1]
      have a2:atI (es.map Er.d) n=some (aF es n).d:=dP n0 n1
      have a3:dIx (av es) (.int n)=some (aF es n).d:=a2
      have hg:=i5 hlen hsh hr n0 n1
      have he:∀ e:Er,dIx e.d (.int 1)=some (.int e.due):=fun _=>rfl
      unfold ec
      show aV (d7 cs bS [some (av es),some (ao rs),some (.int n),none])=_
      cases hf:bW es rs n with
      | none=>rw [hf] at hg; simp [d7,hg,bg]
      | some t=>rw [hf] at hg; simp [d7,hg,bg,a3,he]
    · exact absurd rfl hne
end RS
set_option maxRecDepth 100000
set_option maxHeartbeats 1000000
namespace RS
open PySem L2
noncomputable def eP (B:Nat) (p:Int→Bool):Option Int:=((List.range B).map fun (i:Nat)=>(1 + (i:Int))).find? p
theorem tq (B:Nat) (p:Int→Bool):eP (B + 1) p=(eP B p).or (if p (1 + (B:Int)) then some (1 + (B:Int)) else none):=by
  unfold eP
  rw [List.range_succ,List.map_append,List.find?_append]
  congr 1
  simp only [List.map_cons,List.map_nil,List.find?_cons,List.find?_nil]
  cases p (1 + (B:Int)) <;> rfl
theorem g8 {p:Int→Bool}:∀ {B:Nat} {t:Int},eP B p=some t→1≤t∧t≤B∧p t=true∧∀ s,1≤s→s < t→p s=false
  | 0,t,h=>by cases h
  | B + 1,t,h=>by
    rw [tq] at h
    cases q:eP B p with
    | some u =>
      rw [q] at h
      cases h
      obtain ⟨h1,h2,h3,h4⟩:=g8 q
      exact ⟨h1,by omega,h3,h4⟩
    | none =>
      rw [q,Option.none_or] at h
      split at h
      · rename_i hp
        cases h
        refine ⟨by omega,by omega,hp,fun s h1 h2=>?_⟩
        unfold eP at q
        have:=List.find?_eq_none.mp q s (List.mem_map.mpr ⟨(s - 1).toNat,List.mem_range.mpr (by omega),by omega⟩)
        simpa using this
      · cases h
theorem m9 {B:Nat} {p:Int→Bool} (h:eP B p=none):∀ s:Int,1≤s→s≤(B:Int)→p s=false:=fun s h1 h2=>by
  unfold eP at h
  have:=List.find?_eq_none.mp h s (List.mem_map.mpr ⟨(s - 1).toNat,List.mem_range.mpr (by omega),by omega⟩)
  simpa using this
theorem xi {B B':Nat} {p p':Int→Bool} {t:Int} (h:eP B p=some t) (hB:B≤B') (hp:∀ s,1≤s→p s=true→p' s=true):∃ t',eP B' p'=some t'∧t'≤t:=by
  obtain ⟨h1,h2,h3,h4⟩:=g8 h
  have hp':=hp t h1 h3
  cases q:eP B' p' with
  | none=>rw [m9 q t h1 (by omega)] at hp'; cases hp'
  | some u =>
    obtain ⟨u1,u2,u3,u4⟩:=g8 q
    refine ⟨u,rfl,?_⟩
    by_cases z:t < u
    · rw [u4 t h1 z] at hp'; cases hp'
    · omega
theorem jI (es:List Er) (rs:List Int) (n:Int):bW es rs n=eP ((aF es n).every - (aF es n).late).toNat fun t=>decide (dF es rs n t≤t):=rfl
theorem Er.times_mono {e:Er} (h:1≤e.every) {t u:Int} (ht:t≤u):e.times t≤e.times u:=by
  unfold Er.times
  have q:=Int.ediv_le_ediv (c:=e.every) (by omega) (show t + e.late≤u + e.late by omega)
  have r1:=Int.emod_nonneg (t + e.late) (b:=e.every) (by omega)
  have r2:=Int.emod_nonneg (u + e.late) (b:=e.every) (by omega)
  have d1:=Int.mul_ediv_add_emod (t + e.late) e.every
  have d2:=Int.mul_ediv_add_emod (u + e.late) e.every
  by_cases z:(t + e.late) / e.every=(u + e.late) / e.every
  · rw [← z] at d2 ⊢
    split <;> split <;> omega
  · split <;> split <;> omega
theorem vB {α:Type} (f g:α→Int):∀ l:List α,(∀ x∈l,f x≤g x)→(l.map f).sum≤(l.map g).sum
  | [],_=>Int.le_refl _
  | x::r,h=>by
    have h1:=h x List.mem_cons_self
    have h2:=vB f g r fun y hy=>h y (List.mem_cons_of_mem _ hy)
    simp only [List.map_cons,List.sum_cons]
    omega
theorem ig {α:Type} (f:α→Int):∀ l:List α,(∀ x∈l,0≤f x)→0≤(l.map f).sum
  | [],_=>Int.le_refl _
  | x::r,h=>by
    have h1:=h x List.mem_cons_self
    have h2:=ig f r fun y hy=>h y (List.mem_cons_of_mem _ hy)
    simp only [List.map_cons,List.sum_cons]
    omega
theorem vH {es:List Er} {rs:List Int} {n t u:Int} (hsh:∀ e∈es,e.Sh) (hr:bz es.length rs) (ht:t≤u):dF es rs n t≤dF es rs n u:=by
  unfold dF
  have:=vB (fun m=>(aF es m).times t * (aF es m).work) (fun m=>(aF es m).times u * (aF es m).work) (rs.take (placeOf rs n)) fun m hm=>by
    have hm':=hr.rng m (List.mem_of_mem_take hm)
    have hs:=hsh _ (cc hm'.1 hm'.2)
    exact Int.mul_le_mul_of_nonneg_right (Er.times_mono hs.e1 ht) hs.work_b.1
  omega
structure ou (f:Int→Int):Prop where
  mono:∀ t u,1≤t→t≤u→f t≤f u
  one:∀ t,1≤t→1≤f t
theorem ou.fix {f:Int→Int} (R:ou f) {t:Int} (h1:1≤t) (h:f t≤t) (h4:∀ s,1≤s→s < t→¬ f s≤s):f t=t:=by
  by_cases z:f t < t
  · exact absurd (R.mono _ _ (R.one t h1) h) (fun q=>h4 (f t) (R.one t h1) z q)
  · omega
end RS
set_option maxRecDepth 100000
set_option maxHeartbeats 1000000
namespace RS
open PySem L2
theorem Er.times_le_iff {e:Er} (h:1≤e.every) {t c:Int}:e.times t≤c↔t + e.late≤e.every * c:=by
  unfold Er.times
  have r1:=Int.emod_nonneg (t + e.late) (b:=e.every) (by omega)
  have r2:=Int.emod_lt_of_pos (t + e.late) (b:=e.every) (by omega)
  have d1:=Int.mul_ediv_add_emod (t + e.late) e.every
  generalize (t + e.late) / e.every=q at *
  generalize (t + e.late) % e.every=r at *
  generalize t + e.late=x at *
  generalize e.every=v at *
  constructor
  · intro hc
    split at hc
    · have:v * (q + 1)≤v * c:=Int.mul_le_mul_of_nonneg_left hc (by omega)
      rw [Int.mul_add] at this
      omega
    · have:v * q≤v * c:=Int.mul_le_mul_of_nonneg_left (by omega) (by omega)
      omega
  · intro hx
    split
    · have:v * q < v * c:=by omega
      have:=Int.lt_of_mul_lt_mul_left this (by omega)
      omega
    · have:v * q≤v * c:=by omega
      have:=Int.le_of_mul_le_mul_left this (by omega)
      omega
theorem Er.times_pos {e:Er} (h:1≤e.every) {t:Int} (ht:0≤t + e.late):0≤e.times t:=by
  unfold Er.times
  have:=Int.ediv_nonneg ht (show 0≤e.every by omega)
  split <;> omega
inductive Fa2 {α β:Type} (R:α→β→Prop):List α→List β→Prop where
  | nil:Fa2 R [] []
  | cons {a:α} {b:β} {l:List α} {m:List β} (h:R a b) (t:Fa2 R l m):Fa2 R (a::l) (b::m)
noncomputable def uW (a b:Option Int):Prop:=∀ t,b=some t→∃ u,a=some u∧u≤t
end RS
set_option maxRecDepth 100000
set_option maxHeartbeats 1000000
namespace RS
open PySem L2
noncomputable def cnd (es:List Er) (rs:List Int) (pl:Int) (t:Int):Bool:=match bh es rs t with
  | some h=>decide (h≤pl)
  | none=>false
noncomputable def uA (c:Int→Bool) (acc:Int) (p:Int × Option Int):Int:=match p.2 with
  | some t=>if c t then max acc (p.1 - 1) else acc
  | none=>acc
theorem uC (es:List Er) (rs:List Int) (pl:Int):c0 es rs pl=uA (cnd es rs pl):=by
  funext acc p
  unfold c0 uA cnd
  cases p.2 with
  | none=>rfl
  | some t =>
    simp only
    cases bh es rs t with
    | none=>rfl
    | some h=>simp
theorem A6 {c:Int→Bool} {acc M:Int} {p:Int × Option Int}:uA c acc p≤M↔acc≤M∧∀ t,p.2=some t→c t=true→p.1 - 1≤M:=by
  unfold uA
  rcases hp:p.2 with _ | t
  · simp
  · simp only
    cases hc:c t with
    | false=>simp [hc]
    | true =>
      simp only [if_true]
      constructor
      · intro h
        refine ⟨by omega,fun u hu _=>by cases hu; omega⟩
      · rintro ⟨h1,h2⟩
        have:=h2 t rfl hc
        omega
theorem uP {c:Int→Bool} {M:Int}:∀ (l:List (Int × Option Int)) (acc:Int),l.foldl (uA c) acc≤M↔acc≤M∧∀ p∈l,∀ t,p.2=some t→c t=true→p.1 - 1≤M
  | [],acc=>by simp
  | p::l,acc=>by
    rw [List.foldl_cons,uP l,A6]
    constructor
    · rintro ⟨⟨h1,h2⟩,h3⟩
      exact ⟨h1,fun q hq=>(List.mem_cons.mp hq).elim (fun z=>by rw [z]; exact h2) (h3 q)⟩
    · rintro ⟨h1,h2⟩
      exact ⟨⟨h1,h2 p List.mem_cons_self⟩,fun q hq=>h2 q (List.mem_cons_of_mem _ hq)⟩
theorem Ag (es:List Er) (t:Int):∀ (rs:List Int) (k:Int) (j:Nat),(∃ h,hts es rs k t=some h∧h≤k + j)↔∃ m∈rs.take (j + 1),(aF es m).has t=true
  | [],k,j=>by simp [hts]
  | r::rs,k,j=>by
    unfold hts
    rw [List.take_succ_cons]
    by_cases hr:(aF es r).has t=true
    · rw [if_pos hr]
      exact ⟨fun _=>⟨r,List.mem_cons_self,hr⟩,fun _=>⟨k,rfl,by omega⟩⟩
    · rw [if_neg hr]
      cases j with
      | zero =>
        have lo:∀ (rs:List Int) (k:Int) h,hts es rs k t=some h→k≤h:=by
          intro rs
          induction rs with
          | nil=>intro k h e; cases e
          | cons a l ih =>
            intro k h e
            unfold hts at e
            split at e
            · cases e; exact Int.le_refl _
            · have:=ih _ _ e; omega
        constructor
        · rintro ⟨h,e,hl⟩
          have:=lo rs (k + 1) h e
          omega
        · rintro ⟨m,hm,hh⟩
          simp at hm
          subst hm
          exact absurd hh hr
      | succ j =>
        have ih:=Ag es t rs (k + 1) j
        constructor
        · rintro ⟨h,e,hl⟩
          obtain ⟨m,hm,hh⟩:=ih.mp ⟨h,e,by omega⟩
          exact ⟨m,List.mem_cons_of_mem _ hm,hh⟩
        · rintro ⟨m,hm,hh⟩
          rcases List.mem_cons.mp hm with z | z
          · rw [z] at hh; exact absurd hh hr
          · obtain ⟨h,e,hl⟩:=ih.mpr ⟨m,z,hh⟩
            exact ⟨h,e,by omega⟩
theorem xA {es:List Er} {rs:List Int} {pl:Nat} {t:Int}:cnd es rs (pl:Int) t=true↔∃ m∈rs.take (pl + 1),(aF es m).has t=true:=by
  rw [← Ag es t rs 0 pl]
  unfold cnd bh
  cases hts es rs 0 t with
  | none=>simp
  | some h=>simp
noncomputable def vC (es:List Er) (ms:List Int):List (Int × Option Int):=(ms.map fun m=>(aF es m).parts).flatten
theorem yv {es:List Er} {ms:List Int} {p:Int × Option Int}:p∈vC es ms↔∃ m∈ms,p∈(aF es m).parts:=by
  unfold vC
  rw [List.mem_flatten]
  constructor
  · rintro ⟨l,hl,hp⟩
    obtain ⟨m,hm,rfl⟩:=List.mem_map.mp hl
    exact ⟨m,hm,hp⟩
  · rintro ⟨m,hm,hp⟩
    exact ⟨_,List.mem_map.mpr ⟨m,hm,rfl⟩,hp⟩
theorem gy {es:List Er} {rs:List Int} {n M:Int}:cP es rs n≤M↔0≤M∧∀ m∈rs.drop (placeOf rs n + 1),∀ p∈(aF es m).parts,∀ t,p.2=some t→(∃ u∈rs.take (placeOf rs n + 1),(aF es u).has t=true)→p.1 - 1≤M:=by
  unfold cP
  rw [uC,uP]
  constructor
  · rintro ⟨h1,h2⟩
    exact ⟨h1,fun m hm p hp t ht hu=>h2 p (yv.mpr ⟨m,hm,hp⟩) t ht (xA.mpr hu)⟩
  · rintro ⟨h1,h2⟩
    refine ⟨h1,fun p hp t ht hc=>?_⟩
    obtain ⟨m,hm,hp⟩:=yv.mp hp
    exact h2 m hm p hp t ht (xA.mp hc)
theorem vR {A r:List Int} {n:Int} (h:n ∉ A):placeOf (A++r) n=A.length + placeOf r n:=by
  unfold placeOf
  induction A with
  | nil=>simp
  | cons a l ih =>
    have hn:(a == n)=false:=by
      rw [beq_eq_false_iff_ne]; intro z; exact h (by rw [z]; exact List.mem_cons_self)
    rw [List.cons_append,List.findIdx_cons,hn,cond_false,ih fun q=>h (List.mem_cons_of_mem _ q),List.length_cons]
    omega
theorem ue (n:Int) (r:List Int):placeOf (n::r) n=0:=by unfold placeOf; simp [List.findIdx_cons]
end RS
set_option maxRecDepth 100000
set_option maxHeartbeats 1000000
namespace RS
open PySem L2
theorem wa (es:List Er) (rs:List Int) (n:Int):0≤cP es rs n:=(gy.mp (Int.le_refl _)).1
theorem yY {es:List Er} {rs ot:List Int} {n:Int} (h1:∀ u,u∈rs.take (placeOf rs n + 1)↔u∈ot.take (placeOf ot n + 1)) (h2:∀ u,u∈rs.drop (placeOf rs n + 1)↔u∈ot.drop (placeOf ot n + 1)):cP es rs n=cP es ot n:=by
  have a:=(gy (es:=es) (rs:=ot) (n:=n)).mp (Int.le_refl _)
  have b:=(gy (es:=es) (rs:=rs) (n:=n)).mp (Int.le_refl _)
  have c1:cP es rs n≤cP es ot n:=gy.mpr ⟨a.1,fun m hm p hp t ht qz6=>(by obtain ⟨u,hu,hh⟩:=qz6; exact a.2 m ((h2 m).mp hm) p hp t ht ⟨u,(h1 u).mp hu,hh⟩)⟩
  have c2:cP es ot n≤cP es rs n:=gy.mpr ⟨b.1,fun m hm p hp t ht qz6=>(by obtain ⟨u,hu,hh⟩:=qz6; exact b.2 m ((h2 m).mpr hm) p hp t ht ⟨u,(h1 u).mpr hu,hh⟩)⟩
  omega
theorem oR:∀ (ps:List (Int × Option Int)),(∀ p∈ps,0≤p.1)→∀ p∈ps,p.1≤(ps.map (·.1)).sum
  | [],_,p,hp=>by cases hp
  | q::r,h,p,hp=>by
    have h0:=h q List.mem_cons_self
    have h1:=ig (fun p:Int × Option Int=>p.1) r fun p hp=>h p (List.mem_cons_of_mem _ hp)
    simp only [List.map_cons,List.sum_cons]
    rcases List.mem_cons.mp hp with rfl | hp
    · omega
    · have:=oR r (fun p hp=>h p (List.mem_cons_of_mem _ hp)) p hp
      omega
theorem Er.Sh.part_le {e:Er} (h:e.Sh) {p:Int × Option Int} (hp:p∈e.parts):p.1≤e.work:=oR e.parts (fun p hp=>(h.pl p hp).1) p hp
theorem Er.times_one {e:Er} (h:1≤e.every) (hl:0≤e.late) {t:Int} (ht:1≤t):1≤e.times t:=by
  by_cases z:e.times t≤0
  · have:=(Er.times_le_iff h).mp z
    omega
  · omega
section
variable {es:List Er} {A B:List Int} {x y:Int}
end
end RS
set_option maxRecDepth 100000
set_option maxHeartbeats 1000000
namespace RS
open PySem L2
end RS
set_option maxRecDepth 100000
set_option maxHeartbeats 1000000
namespace RS
open PySem L2
theorem zr {rs:List Int} {n:Int} (h:n∈rs):rs[placeOf rs n]?=some n:=by
  have lt:=wN h
  rw [List.getElem?_eq_getElem lt]
  have hg:(rs[placeOf rs n] == n)=true:=List.findIdx_getElem (p:=(· == n)) (xs:=rs) (w:=lt)
  rw [beq_iff_eq.mp hg]
theorem iC {rs:List Int} {n:Int} (h:n∈rs):rs.take (placeOf rs n + 1)=rs.take (placeOf rs n)++[n]:=by
  rw [List.take_add_one,zr h]; rfl
theorem lq {rs:List Int} {n:Int} (h:n∈rs):rs=rs.take (placeOf rs n)++n::rs.drop (placeOf rs n + 1):=by
  have h1:=List.take_append_drop (placeOf rs n + 1) rs
  rw [iC h,List.append_assoc] at h1
  exact h1.symm
theorem nu {rs:List Int} {n:Int} (hn:n∈rs) (nd:rs.Nodup) {m:Int}:m∈rs.drop (placeOf rs n + 1)↔m∈rs∧m≠n∧m ∉ rs.take (placeOf rs n):=by
  have e:=lq hn
  have nd':=nd
  rw [e] at nd'
  obtain ⟨n1,n2,n3⟩:=List.nodup_append.mp nd'
  constructor
  · intro hm
    refine ⟨List.mem_of_mem_drop hm,fun z=>?_,fun z=>n3 m z m (List.mem_cons_of_mem _ hm) rfl⟩
    rw [z] at hm
    exact (List.nodup_cons.mp n2).1 hm
  · rintro ⟨h1,h2,h3⟩
    rw [e] at h1
    rcases List.mem_append.mp h1 with z | z
    · exact absurd z h3
    · exact (List.mem_cons.mp z).resolve_left h2
theorem uU {α:Type} (f:α→Int) {l m:List α} (h:l.Perm m):(l.map f).sum=(m.map f).sum:=by
  induction h with
  | nil=>rfl
  | cons x _ ih=>simp only [List.map_cons,List.sum_cons,ih]
  | swap x y l=>simp only [List.map_cons,List.sum_cons]; omega
  | trans _ _ h1 h2=>exact h1.trans h2
section
variable {es:List Er} {rs ot:List Int} {n:Int}
theorem gE {k:Nat} (hr:bz k rs) {m:Int}:m∈rs↔0≤m∧m < k:=⟨hr.rng m,fun h=>hr.mem h.1 h.2⟩
theorem xq (hr:bz es.length rs) (ho:bz es.length ot) (n0:0≤n) (n1:n < es.length) (h:(rs.take (placeOf rs n)).Perm (ot.take (placeOf ot n))):cP es rs n=cP es ot n∧(∀ t,dF es rs n t=dF es ot n t)∧bW es rs n=bW es ot n:=by
  have mr:=hr.mem n0 n1
  have mo:=ho.mem n0 n1
  have hh:cP es rs n=cP es ot n:=by
    apply yY
    · intro u
      rw [iC mr,iC mo,List.mem_append,List.mem_append,h.mem_iff]
    · intro u
      rw [nu mr hr.nd,nu mo ho.nd,gE hr,gE ho,h.mem_iff]
  have hn:∀ t,dF es rs n t=dF es ot n t:=fun t=>by
    unfold dF
    rw [hh,uU _ h]
  refine ⟨hh,hn,?_⟩
  rw [jI,jI]
  congr 1
  funext t
  rw [hn]
theorem wA {X:List Int} {t:Int} (hsh:∀ e∈es,e.Sh) (hl:∀ e∈es,0≤e.late) (hr:bz es.length rs) (ho:bz es.length ot) (n0:0≤n) (n1:n < es.length) (h:(rs.take (placeOf rs n)).Perm (ot.take (placeOf ot n)++X)) (ht:1≤t):dF es ot n t≤dF es rs n t:=by
  have mr:=hr.mem n0 n1
  have mo:=ho.mem n0 n1
  have hX:∀ m∈X,0≤m∧m < es.length:=fun m hm=>hr.rng m (List.mem_of_mem_take (h.mem_iff.mpr (List.mem_append_right _ hm)))
  have sX:∀ m∈X,(aF es m).work≤(aF es m).times t * (aF es m).work∧0≤(aF es m).work:=fun m hm=>by
    have mm:=cc (hX m hm).1 (hX m hm).2
    have sm:=hsh _ mm
    have t1:=Er.times_one (e:=aF es m) sm.e1 (hl _ mm) ht
    have:=Int.mul_le_mul_of_nonneg_right t1 sm.work_b.1
    exact ⟨by omega,sm.work_b.1⟩
  have W0:0≤(X.map fun m=>(aF es m).times t * (aF es m).work).sum:=ig _ X fun m hm=>by have:=sX m hm; omega
  have inX:∀ (X:List Int),(∀ m∈X,0≤(aF es m).times t * (aF es m).work)→∀ m∈X,(aF es m).times t * (aF es m).work≤(X.map fun m=>(aF es m).times t * (aF es m).work).sum:=by
    intro X
    induction X with
    | nil=>intro _ m hm; cases hm
    | cons a l ih =>
      intro hp m hm
      have h0:=hp a List.mem_cons_self
      have h1:=ig (fun m=>(aF es m).times t * (aF es m).work) l fun m hm=>hp m (List.mem_cons_of_mem _ hm)
      simp only [List.map_cons,List.sum_cons]
      rcases List.mem_cons.mp hm with rfl | hm
      · omega
      · have:=ih (fun m hm=>hp m (List.mem_cons_of_mem _ hm)) m hm
        omega
  have b:=(gy (es:=es) (rs:=rs) (n:=n)).mp (Int.le_refl _)
  have hh:cP es ot n≤cP es rs n + (X.map fun m=>(aF es m).times t * (aF es m).work).sum:=by
    refine gy.mpr ⟨by omega,fun m hm p hp u hu rz6=>?_⟩
    obtain ⟨v,hv,hv2⟩:=rz6
    obtain ⟨d1,d2,d3⟩:=(nu mo ho.nd).mp hm
    have hmr:m∈rs:=(gE hr).mpr ((gE ho).mp d1)
    by_cases z:m∈rs.take (placeOf rs n)
    · have hmX:m∈X:=(List.mem_append.mp (h.mem_iff.mp z)).resolve_left d3
      have mm:=cc (hX m hmX).1 (hX m hmX).2
      have a1:=(hsh _ mm).part_le hp
      have a2:=sX m hmX
      have a3:=inX X (fun m hm=>by have:=sX m hm; omega) m hmX
      omega
    · have hd:m∈rs.drop (placeOf rs n + 1):=(nu mr hr.nd).mpr ⟨hmr,d2,z⟩
      have hv':v∈rs.take (placeOf rs n + 1):=by
        rw [iC mo] at hv
        rw [iC mr]
        rcases List.mem_append.mp hv with q | q
        · exact List.mem_append_left _ (h.mem_iff.mpr (List.mem_append_left _ q))
        · exact List.mem_append_right _ q
      have:=b.2 m hd p hp u hu ⟨v,hv',hv2⟩
      omega
  have hs:=uU (fun m=>(aF es m).times t * (aF es m).work) h
  rw [List.map_append,List.sum_append] at hs
  unfold dF
  omega
theorem rp {X:List Int} (hsh:∀ e∈es,e.Sh) (hl:∀ e∈es,0≤e.late) (hr:bz es.length rs) (ho:bz es.length ot) (n0:0≤n) (n1:n < es.length) (h:(rs.take (placeOf rs n)).Perm (ot.take (placeOf ot n)++X)):uW (bW es ot n) (bW es rs n):=fun t e=>by
  rw [jI] at e ⊢
  refine xi e (Nat.le_refl _) fun s h1 h2=>?_
  have:=wA hsh hl hr ho n0 n1 h h1
  have h2:=of_decide_eq_true h2
  exact decide_eq_true (by omega)
end
end RS
set_option maxRecDepth 100000
set_option maxHeartbeats 1000000
namespace RS
open PySem L2
noncomputable def fE:PyData→Option (List Int)
  | .dict [(.none,.list l)]=>gM l
  | _=>none
theorem gu (ns:List Int):fE (aC ns)=some ns:=d5 ns
noncomputable def ak:Gf
  | [s,.int k,.int many]=>(match fE s with
    | some ns=>if 0≤k∧0 < many then .ok (.int (mixed ns k many)) else .no
    | none=>.no)
  | _=>.no
theorem de {ns:List Int} {k many:Int} (h1:0≤k) (h2:0 < many):ak [aC ns,.int k,.int many]=.ok (.int (mixed ns k many)):=by
  unfold ak; simp [gu,h1,h2]
theorem gR (O:List Nat) (i:Nat) (g:Ds→Rs PyData) (δ:Ds):bj O i g δ=if i < δ.length then ofR (g (mask O δ)) fun d=>.nx (δ.set i (some d)) else .no:=rfl
noncomputable def bU:Gf
  | [s,.int a,.int top,.bool tools]=>(match fE s with
    | some ns=>if 0≤a∧0 < top∧top≤58 then .ok (mkE ns a top tools).d else .no
    | none=>.no)
  | _=>.no
theorem jG {ns:List Int} {a top:Int} {tools:Bool} (h1:0≤a) (h2:0 < top) (h3:top≤58):bU [aC ns,.int a,.int top,.bool tools]=.ok (mkE ns a top tools).d:=by
  unfold bU; simp [gu,h1,h2,h3]
theorem zx (o:Option Int):gI (bg o)=true:=by cases o <;> (unfold bg gI; rfl)
theorem vX (p:Int × Option Int):gI (aU p)=true:=by
  unfold aU gI mJ
  rw [show gI (.int p.1)=true by unfold gI; rfl]
  unfold mJ
  rw [zx]
  unfold mJ
  rfl
theorem Ae {i:Int} (h0:0≤i) (h1:i < 5):atI [PyData.int 0,PyData.int 1,PyData.int 1,PyData.int 0,PyData.none] i=some (bg (l7 i)):=by
  have:i=0∨i=1∨i=2∨i=3∨i=4:=by omega
  rcases this with rfl | rfl | rfl | rfl | rfl <;> rfl
theorem uX (ns:List Int) (a top:Int) (tools:Bool) (ev la du:PyData) (ha:0≤a) (L:List PyData) (hL:L.length < 1000) (i:Nat) (x8 x9:Option PyData) :
    bo (bj [7] 9 (aE ak (af (ag 0) (af (g2 br (g2 br (ag 1) (gC (.int 4))) (ag 8)) (af (gC (.int 40)) ar)))))
    (bo (nF [7] 7 (gN (af (g2 br (gC (.int 1)) (g2 o8 (ag 9) (gC (.int 4)))) (af (g2 dIx (sU (af (gC (.int 0)) (af (gC (.int 1)) (af (gC (.int 1)) (af (gC (.int 0)) (af (gC .none) ar)))))) (g2 o8 (g2 sy (ag 9) (gC (.int 4))) (gC (.int 5)))) ar))))
    (sIf (iO (gT (ag 3))) (rf 7 (g1 nM (gC (.int 1))) (gN (af (g2 dIx (g2 dIx (ag 7) (g1 nM (gC (.int 1)))) (gC (.int 0))) (af (gC .none) ar)))) b5))
      [some (aC ns),some (.int a),some (.int top),some (.bool tools),some ev,some la,some du,some (.list L),some (.int (0 + (i:Int))),x9]
   =.nx [some (aC ns),some (.int a),some (.int top),some (.bool tools),some ev,some la,some du,some (.list (L++[aU (fo ns (a + 4 + (i:Int)) tools)])),some (.int (0 + (i:Int))),some (.int (mixed ns (a + 4 + (0 + (i:Int))) 40))]:=by
  have hm:=de (ns:=ns) (k:=a + 4 + (0 + (i:Int))) (many:=40) (by omega) (by decide)
  have m0:=dh ns (a + 4 + (0 + (i:Int))) (many:=40) (by decide)
  have m1:=dG ns (a + 4 + (0 + (i:Int))) (many:=40) (by decide)
  have ek:a + 4 + (0 + (i:Int))=a + 4 + (i:Int):=by omega
  generalize hc:mixed ns (a + 4 + (0 + (i:Int))) 40=c at *
  have q1:0≤c / 4 % 5:=Int.emod_nonneg _ (by decide)
  have q2:c / 4 % 5 < 5:=Int.emod_lt_of_pos _ (by decide)
  have t5:=Ae q1 q2
  have hp:fo ns (a + 4 + (i:Int)) tools=(1 + c % 4,if tools then l7 (c / 4 % 5) else none):=by unfold fo; rw [← ek,hc]
  have s1:bj [7] 9 (aE ak (af (ag 0) (af (g2 br (g2 br (ag 1) (gC (.int 4))) (ag 8)) (af (gC (.int 40)) ar)))) [some (aC ns),some (.int a),some (.int top),some (.bool tools),some ev,some la,some du,some (.list L),some (.int (0 + (i:Int))),x9]
     =.nx [some (aC ns),some (.int a),some (.int top),some (.bool tools),some ev,some la,some du,some (.list L),some (.int (0 + (i:Int))),some (.int c)]:=by
    rw [gR,if_pos (by simp)]
    simp only [a5,aI,aP,cu,aL (show 0 ∉ [7] by decide),aL (show 1 ∉ [7] by decide),aL (show 8 ∉ [7] by decide),aw,ax,dz,Rs.aj,c9,Rs.aq,hm,aA]
    rfl
  have s2:nF [7] 7 (gN (af (g2 br (gC (.int 1)) (g2 o8 (ag 9) (gC (.int 4)))) (af (g2 dIx (sU (af (gC (.int 0)) (af (gC (.int 1)) (af (gC (.int 1)) (af (gC (.int 0)) (af (gC .none) ar)))))) (g2 o8 (g2 sy (ag 9) (gC (.int 4))) (gC (.int 5)))) ar)))
      [some (aC ns),some (.int a),some (.int top),some (.bool tools),some ev,some la,some du,some (.list L),some (.int (0 + (i:Int))),some (.int c)]
     =.nx [some (aC ns),some (.int a),some (.int top),some (.bool tools),some ev,some la,some du,some (.list (L++[aU (1 + c % 4,l7 (c / 4 % 5))])),some (.int (0 + (i:Int))),some (.int c)]:=by
    unfold nF
    simp only [List.getElem?_cons_succ,List.getElem?_cons_zero]
    simp only [kX,sF,aI,aP,cu,aL (show 9 ∉ [7] by decide),aw,ax,dz,Rs.aj,c9,Rs.aq,CP,Ay,if_pos (show (0:Int) < 4 by decide),if_pos (show (0:Int) < 5 by decide),if_pos (show (0:Int) < 4∧(4:Int) < 1073741824 by decide),CN,t5,aA,if_pos (show L.length < 1000000 by omega)]
    rfl
  rw [aZ,s1]
  simp only
  rw [aZ,s2]
  simp only
  cases tools with
  | true =>
    rw [hp]
    simp
  | false =>
    rw [hp]
    have hl:atI (L++[aU (1 + c % 4,l7 (c / 4 % 5))]) (-1)=some (aU (1 + c % 4,l7 (c / 4 % 5))):=by rw [nX]; simp
    have hx:ixN (L++[aU (1 + c % 4,l7 (c / 4 % 5))]).length (-1)=some L.length:=by
      unfold ixN
      rw [if_neg (by decide),List.length_append,List.length_singleton,if_pos (by omega)]
      congr 1; omega
    have hs:(L++[aU (1 + c % 4,l7 (c / 4 % 5))]).set L.length (.tuple [.int (1 + c % 4),.none])=L++[aU (1 + c % 4,none)]:=by
      rw [List.set_append_right _ _ (Nat.le_refl _)]; simp; rfl
    have nl:gI (.tuple [.int (1 + c % 4),.none])=true:=vX (1 + c % 4,none)
    rw [gZ]
    simp only [tM,g5,aw,ax,Rs.aj,b9,aA,Bool.not_false,if_true]
    unfold rf
    simp only [List.getElem?_cons_succ,List.getElem?_cons_zero,kX,aI,aP,cu,sM,aw,ax,dz,Rs.aj,CG,Rs.aq,CN,hl,Aw,aA,hx,nl,if_true,hs]
    rfl
end RS
set_option maxRecDepth 100000
set_option maxHeartbeats 1000000
namespace RS
open PySem L2
theorem jT {j:Int} (h0:0≤j) (h1:j < 1000000):BR [.int j]=.ok (cn 0 j.toNat):=by
  show (if _ then _ else _)=_
  rw [if_pos (by omega)]
theorem ia {lo:Int} {n i:Nat} {d:PyData} (h:(cn lo n)[i]?=some d):i < n∧d=.int (lo + (i:Int)):=by
  have hi:=(List.getElem?_eq_some_iff.mp h).1
  rw [en] at hi
  unfold cn at h
  rw [List.getElem?_map,List.getElem?_range hi] at h
  exact ⟨hi,(Option.some.inj h).symm⟩
theorem pQ {α:Type} (n:Nat) (g:Nat→α):(List.range (n + 1)).map g=(List.range n).map g++[g n]:=by rw [List.range_succ,List.map_append]; rfl
theorem Aa {f:PyData→Int→Int→Bool→Rs PyData} {ds:List PyData} (h:(match ds with | [x0,.int x1,.int x2,.bool x3]=>f x0 x1 x2 x3 | _=>.no)≠.no):∃ x0 x1 x2 x3,ds=[x0,.int x1,.int x2,.bool x3]∧f x0 x1 x2 x3≠.no:=by
  rcases ds with _ | ⟨x0,_ | ⟨x1,_ | ⟨x2,_ | ⟨x3,_ | ⟨y,ys⟩⟩⟩⟩⟩
  · exact absurd rfl h
  · exact absurd rfl h
  · first | exact absurd rfl h | (cases x1 <;> exact absurd rfl h)
  · first | exact absurd rfl h | (cases x1 <;> first | exact absurd rfl h | (cases x2 <;> exact absurd rfl h))
  · skip
    cases x1 with
    | int x1 =>
      cases x2 with
      | int x2 =>
        cases x3 with
        | bool x3 =>
          exact ⟨_,_,_,_,rfl,h⟩
        | _=>exact absurd rfl h
      | _=>first | exact absurd rfl h | (cases x3 <;> exact absurd rfl h)
    | _=>first | exact absurd rfl h | (cases x2 <;> first | exact absurd rfl h | (cases x3 <;> exact absurd rfl h))
  · first | exact absurd rfl h | (cases x1 <;> first | exact absurd rfl h | (cases x2 <;> first | exact absurd rfl h | (cases x3 <;> exact absurd rfl h)))
theorem uu (cs:Cs):∀ ds,ds.length=4→bU ds≠.no→aV (fT cs ak (ds.map some++List.replicate 6 none))=bU ds:=by
  intro ds hl hne
  obtain ⟨s,a,top,tools,ez,hz⟩:=Aa hne
  clear hne; subst ez; have hne:=hz; clear hz
  · skip
    split at hne
    · rename_i ns hs
      have es:s=aC ns:=by
        unfold fE at hs
        split at hs
        · rename_i l
          rw [dR hs]; rfl
        · cases hs
      subst es
      split at hne
      · rename_i hc
        obtain ⟨ha,ht,ht2⟩:=hc
        rw [jG ha ht ht2]
        show aV (fT cs ak [some (aC ns),some (.int a),some (.int top),some (.bool tools),none,none,none,none,none,none])=_
        have hm:∀ k many:Int,0≤k→0 < many→ak [aC ns,.int k,.int many]=.ok (.int (mixed ns k many)):=fun k many h1 h2=>de h1 h2
        have a1:=dh ns a ht
        have lb:=vN ns a (3 + mixed ns a top) (by omega)
        have b1:=dh ns (a + 1) (many:=4) (by decide)
        have b2:=dG ns (a + 1) (many:=4) (by decide)
        have n1:=dh ns (a + 3) (many:=3) (by decide)
        have n2:=dG ns (a + 3) (many:=3) (by decide)
        have c1:=dh ns (a + 6) (many:=3) (by decide)
        have c2:=dG ns (a + 6) (many:=3) (by decide)
        -- every
        have s1:bj [7] 4 (g2 br (gC (.int 3)) (aE ak (af (ag 0) (af (ag 1) (af (ag 2) ar))))) [some (aC ns),some (.int a),some (.int top),some (.bool tools),none,none,none,none,none,none]
           =.nx [some (aC ns),some (.int a),some (.int top),some (.bool tools),some (.int (3 + mixed ns a top)),none,none,none,none,none]:=by
          rw [gR,if_pos (by simp)]
          simp only [a5,aI,aP,cu,aL (show 0 ∉ [7] by decide),aL (show 1 ∉ [7] by decide),aL (show 2 ∉ [7] by decide),aw,ax,dz,Rs.aj,hm a top ha ht,c9,Rs.aq,aA]
          rfl
        generalize hev:3 + mixed ns a top=ev at *
        have evp:3≤ev:=by omega
        have s2:bj [7] 5 (g2 nB (aE ak (af (ag 0) (af (g2 br (ag 1) (gC (.int 1))) (af (gC (.int 4)) ar)))) (gF vo (af (g2 dEq (aE ak (af (ag 0) (af (g2 br (ag 1) (gC (.int 2))) (af (gC (.int 3)) ar)))) (gC (.int 0))) ar))) [some (aC ns),some (.int a),some (.int top),some (.bool tools),some (.int ev),none,none,none,none,none]
           =.nx [some (aC ns),some (.int a),some (.int top),some (.bool tools),some (.int ev),some (.int (mixed ns (a + 1) 4 * (if mixed ns (a + 2) 3=0 then 1 else 0))),none,none,none,none]:=by
          rw [gR,if_pos (by simp)]
          simp only [a5,aI,aP,cu,jH,aL (show 0 ∉ [7] by decide),aL (show 1 ∉ [7] by decide),aw,ax,dz,Rs.aj,c9,Rs.aq,hm (a + 1) 4 (by omega) (by decide),hm (a + 2) 3 (by omega) (by decide),nO,A5]
          rw [xp (by omega) (by omega)]
          simp only [Rs.aq,aA,beq_iff_eq]
          rfl
        have s3:bj [7] 5 (gF qt (af (ag 5) (af (g2 eW (ag 4) (gC (.int 1))) ar))) [some (aC ns),some (.int a),some (.int top),some (.bool tools),some (.int ev),some (.int (mixed ns (a + 1) 4 * (if mixed ns (a + 2) 3=0 then 1 else 0))),none,none,none,none]
           =.nx [some (aC ns),some (.int a),some (.int top),some (.bool tools),some (.int ev),some (.int (jt ns a ev)),none,none,none,none]:=by
          rw [gR,if_pos (by simp)]
          simp only [jH,aI,aP,cu,aL (show 4 ∉ [7] by decide),aL (show 5 ∉ [7] by decide),aw,ax,dz,Rs.aj,g0,Rs.aq,C4,aA]
          rfl
        generalize hla:jt ns a ev=la at *
        have s4:bj [7] 6 (g2 eW (ag 4) (ag 5)) [some (aC ns),some (.int a),some (.int top),some (.bool tools),some (.int ev),some (.int la),none,none,none,none]
           =.nx [some (aC ns),some (.int a),some (.int top),some (.bool tools),some (.int ev),some (.int la),some (.int (ev - la)),none,none,none]:=by
          rw [gR,if_pos (by simp)]
          simp only [cu,aL (show 4 ∉ [7] by decide),aL (show 5 ∉ [7] by decide),aw,ax,Rs.aj,g0,Rs.aq,aA]
          rfl
        have s5:sIf (gT (g2 dEq (aE ak (af (ag 0) (af (g2 br (ag 1) (gC (.int 1))) (af (gC (.int 3)) ar)))) (gC (.int 0)))) (bj [7] 6 (g2 eW (ag 6) (aE ak (af (ag 0) (af (g2 br (ag 1) (gC (.int 2))) (af (ag 6) ar)))))) b5
              [some (aC ns),some (.int a),some (.int top),some (.bool tools),some (.int ev),some (.int la),some (.int (ev - la)),none,none,none]
           =.nx [some (aC ns),some (.int a),some (.int top),some (.bool tools),some (.int ev),some (.int la),some (.int (oP ns a (ev - la))),none,none,none]:=by
          rw [gZ]
          simp only [g5,cu,a5,aI,aP,aw,ax,dz,Rs.aj,c9,Rs.aq,hm (a + 1) 3 (by omega) (by decide),nO,b9,aA]
          by_cases z:mixed ns (a + 1) 3=0
          · rw [if_pos (by simp [z]),gR,if_pos (by simp)]
            simp only [a5,aI,aP,cu,aL (show 0 ∉ [7] by decide),aL (show 1 ∉ [7] by decide),aL (show 6 ∉ [7] by decide),aw,ax,dz,Rs.aj,c9,Rs.aq,hm (a + 2) (ev - la) (by omega) (by omega),g0,aA]
            unfold oP
            rw [if_pos z]
            rfl
          · rw [if_neg (by simp [z])]
            unfold oP
            rw [if_neg z]
            rfl
        generalize hdu:oP ns a (ev - la)=du at *
        have s6:lM [7] 7 ar [some (aC ns),some (.int a),some (.int top),some (.bool tools),some (.int ev),some (.int la),some (.int du),none,none,none]
           =.nx [some (aC ns),some (.int a),some (.int top),some (.bool tools),some (.int ev),some (.int la),some (.int du),some (.list []),none,none]:=rfl
        have src:e8 (af (aE ak (af (ag 0) (af (g2 br (ag 1) (gC (.int 3))) (af (gC (.int 3)) ar)))) ar) (mask [7] [some (aC ns),some (.int a),some (.int top),some (.bool tools),some (.int ev),some (.int la),some (.int du),some (.list []),none,none])=.ok (cn 0 (mixed ns (a + 3) 3).toNat):=by
          simp only [j8,a5,aI,aP,cu,aL (show 0 ∉ [7] by decide),aL (show 1 ∉ [7] by decide),aw,ax,dz,Rs.aj,c9,Rs.aq,hm (a + 3) 3 (by omega) (by decide)]
          exact jT n1 (by omega)
        obtain ⟨δ',e,x8,x9,hδ⟩:=iq (β:=Unit) (tgt:=b7 8) (body:=bo (bj [7] 9 (aE ak (af (ag 0) (af (g2 br (g2 br (ag 1) (gC (.int 4))) (ag 8)) (af (gC (.int 40)) ar)))))
    (bo (nF [7] 7 (gN (af (g2 br (gC (.int 1)) (g2 o8 (ag 9) (gC (.int 4)))) (af (g2 dIx (sU (af (gC (.int 0)) (af (gC (.int 1)) (af (gC (.int 1)) (af (gC (.int 0)) (af (gC .none) ar)))))) (g2 o8 (g2 sy (ag 9) (gC (.int 4))) (gC (.int 5)))) ar))))
    (sIf (iO (gT (ag 3))) (rf 7 (g1 nM (gC (.int 1))) (gN (af (g2 dIx (g2 dIx (ag 7) (g1 nM (gC (.int 1)))) (gC (.int 0))) (af (gC .none) ar)))) b5)))
          (fun i δ=>∃ x8 x9,δ=[some (aC ns),some (.int a),some (.int top),some (.bool tools),some (.int ev),some (.int la),some (.int du),some (.list ((List.range i).map fun (k:Nat)=>aU (fo ns (a + 4 + (k:Int)) tools))),x8,x9])
          (cn 0 (mixed ns (a + 3) 3).toNat) 0 (fun i d δ hi pz4=>by
            obtain ⟨x8,x9,hx⟩:=pz4
            subst hx
            rw [Nat.zero_add] at *
            obtain ⟨hil,rfl⟩:=ia hi
            refine ⟨[some (aC ns),some (.int a),some (.int top),some (.bool tools),some (.int ev),some (.int la),some (.int du),some (.list ((List.range i).map fun (k:Nat)=>aU (fo ns (a + 4 + (k:Int)) tools))),some (.int (0 + (i:Int))),x9],_,rfl,uX ns a top tools (.int ev) (.int la) (.int du) ha _ (by simp; omega) i none x9,some (.int (0 + (i:Int))),some (.int (mixed ns (a + 4 + (0 + (i:Int))) 40)),?_⟩
            rw [pQ]) [some (aC ns),some (.int a),some (.int top),some (.bool tools),some (.int ev),some (.int la),some (.int du),some (.list []),none,none] ⟨none,none,rfl⟩
        subst hδ
        rw [Nat.zero_add,en] at e
        have hd:(mkE ns a top tools).d=.tuple [.int ev,.int du,.int la,.tuple (((List.range (mixed ns (a + 3) 3).toNat).map fun (k:Nat)=>aU (fo ns (a + 4 + (k:Int)) tools))++[aU (1 + mixed ns (a + 6) 3,none)])]:=by
          simp only [mkE,Er.d,List.map_append,List.map_map,hev,hla,hdu]
          rfl
        rw [hd]
        simp only [fT]
        rw [aZ,s1]; simp only
        rw [aZ,s2]; simp only
        rw [aZ,s3]; simp only
        rw [aZ,s4]; simp only
        rw [aZ,s5]; simp only
        rw [aZ,s6]; simp only
        rw [aZ,fm,src,aA,e]; simp only
        simp only [cG,kX,sF,aI,aP,cu,jH,a5,aw,ax,dz,Rs.aj,c9,Rs.aq,hm (a + 6) 3 (by omega) (by decide)]
        have hcat:br (.list ((List.range (mixed ns (a + 3) 3).toNat).map fun (k:Nat)=>aU (fo ns (a + 4 + (k:Int)) tools))) (.list [.tuple [.int (1 + mixed ns (a + 6) 3),.none]])=some (.list (((List.range (mixed ns (a + 3) 3).toNat).map fun (k:Nat)=>aU (fo ns (a + 4 + (k:Int)) tools))++[aU (1 + mixed ns (a + 6) 3,none)])):=by
          show (if _ then _ else _)=_
          rw [if_pos (by simp; omega)]
          rfl
        rw [hcat]
        simp
      · exact absurd rfl hne
    · exact absurd rfl hne
noncomputable def a9:Gf
  | [s,.int a,.int most,.int top,.bool tools]=>(match fE s with
    | some ns=>if 0≤a∧0 < most∧most≤6∧0 < top∧top≤58 then .ok (av (o6 ns a most top tools)) else .no
    | none=>.no)
  | _=>.no
theorem i7 {ns:List Int} {a most top:Int} {tools:Bool} (h1:0≤a) (h2:0 < most) (h3:most≤6) (h4:0 < top) (h5:top≤58):a9 [aC ns,.int a,.int most,.int top,.bool tools]=.ok (av (o6 ns a most top tools)):=by
  unfold a9; simp [gu,h1,h2,h3,h4,h5]
theorem iX {s:PyData} {ns:List Int} (hs:fE s=some ns):s=aC ns:=by
  unfold fE at hs
  split at hs
  · rename_i l
    rw [dR hs]; rfl
  · cases hs
theorem zA {f:PyData→Int→Int→Int→Bool→Rs PyData} {ds:List PyData} (h:(match ds with | [x0,.int x1,.int x2,.int x3,.bool x4]=>f x0 x1 x2 x3 x4 | _=>.no)≠.no):∃ x0 x1 x2 x3 x4,ds=[x0,.int x1,.int x2,.int x3,.bool x4]∧f x0 x1 x2 x3 x4≠.no:=by
  rcases ds with _ | ⟨x0,_ | ⟨x1,_ | ⟨x2,_ | ⟨x3,_ | ⟨x4,_ | ⟨y,ys⟩⟩⟩⟩⟩⟩
  · exact absurd rfl h
  · exact absurd rfl h
  · first | exact absurd rfl h | (cases x1 <;> exact absurd rfl h)
  · first | exact absurd rfl h | (cases x1 <;> first | exact absurd rfl h | (cases x2 <;> exact absurd rfl h))
  · first | exact absurd rfl h | (cases x1 <;> first | exact absurd rfl h | (cases x2 <;> first | exact absurd rfl h | (cases x3 <;> exact absurd rfl h)))
  · skip
    cases x1 with
    | int x1 =>
      cases x2 with
      | int x2 =>
        cases x3 with
        | int x3 =>
          cases x4 with
          | bool x4 =>
            exact ⟨_,_,_,_,_,rfl,h⟩
          | _=>exact absurd rfl h
        | _=>first | exact absurd rfl h | (cases x4 <;> exact absurd rfl h)
      | _=>first | exact absurd rfl h | (cases x3 <;> first | exact absurd rfl h | (cases x4 <;> exact absurd rfl h))
    | _=>first | exact absurd rfl h | (cases x2 <;> first | exact absurd rfl h | (cases x3 <;> first | exact absurd rfl h | (cases x4 <;> exact absurd rfl h)))
  · first | exact absurd rfl h | (cases x1 <;> first | exact absurd rfl h | (cases x2 <;> first | exact absurd rfl h | (cases x3 <;> first | exact absurd rfl h | (cases x4 <;> exact absurd rfl h))))
theorem rC (cs:Cs):∀ ds,ds.length=5→a9 ds≠.no→aV (fe cs bU ak (ds.map some++List.replicate 1 none))=a9 ds:=by
  intro ds hl hne
  obtain ⟨s,a,most,top,tools,ez,hz⟩:=zA hne
  clear hne; subst ez; have hne:=hz; clear hz
  · skip
    split at hne
    · rename_i ns hs
      have es:=iX hs
      subst es
      split at hne
      · rename_i hc
        obtain ⟨ha,hm1,hm2,ht,ht2⟩:=hc
        rw [i7 ha hm1 hm2 ht ht2]
        have hm:=de (ns:=ns) ha hm1
        have m1:=dh ns a hm1
        have m2:=dG ns a hm1
        have hcm:cw 6 (e8 (af (ag 5) ar)) cY (aE bU (af (ag 0) (af (g2 br (g2 br (ag 1) (gC (.int 1))) (g2 nB (gC (.int 7)) (ag 6))) (af (ag 3) (af (ag 4) ar))))) bT
            [some (aC ns),some (.int a),some (.int most),some (.int top),some (.bool tools),some (.int (1 + mixed ns a most))]=.ok ((cn 0 (1 + mixed ns a most).toNat).map fun d=>(mkE ns (a + 1 + 7 * deI d) top tools).d) :=
          eL rfl (by simp only [j8,aI,aP,aw,ax,Rs.aj]; exact jT (by omega) (by omega)) (by rw [en]; omega) fun d hd=>by
            obtain ⟨i,hi⟩:=List.getElem?_of_mem hd
            obtain ⟨_,rfl⟩:=ia hi
            simp only [List.cons_append,List.nil_append,a5,aI,aP,cu,aw,ax,dz,Rs.aj,c9,Rs.aq]
            rw [xp (by decide) (by decide)]
            simp only [Rs.aq,Rs.aj,c9]
            exact jG (by omega) ht ht2
        have hds:av (o6 ns a most top tools)=.tuple ((cn 0 (1 + mixed ns a most).toNat).map fun d=>(mkE ns (a + 1 + 7 * deI d) top tools).d):=by
          unfold av o6 cn
          rw [List.map_map,List.map_map]
          congr 1
          refine List.map_congr_left fun k _=>?_
          simp [deI]
        rw [hds]
        show aV (fe cs bU ak [some (aC ns),some (.int a),some (.int most),some (.int top),some (.bool tools),none])=_
        simp only [fe,aZ,cW,List.length_cons,List.length_nil,Nat.reduceAdd,Nat.reduceLT,if_true,a5,aI,aP,cu,aw,ax,dz,Rs.aj,hm,c9,Rs.aq,aA,List.set_cons_succ,List.set_cons_zero,cG,jH,uj,hcm,wH,bQ]
      · exact absurd rfl hne
    · exact absurd rfl hne
end RS
set_option maxRecDepth 100000
set_option maxHeartbeats 1000000
namespace RS
open PySem L2
noncomputable def b8:Gf
  | [d,.int t]=>if v5 d then .ok (.bool ((deE d).has t)) else .no
  | _=>.no
theorem k8 {e:Er} {t:Int} (h:e.Sh):b8 [e.d,.int t]=.ok (.bool (e.has t)):=by unfold b8; simp [uk h,xZ]
theorem vD (t:Int):∀ ps:List (Int × Option Int),inD (.int t) ((ps.map aU).map fun d=>bg (cQ d).2)=ps.any fun p=>p.2 == some t
  | []=>rfl
  | p::r=>by
    have h1:eqV (toV (bg p.2)) (.int t)=(p.2 == some t):=by
      rcases hp:p.2 with _ | z
      · rfl
      · show (z == t)=(some z == some t)
        simp
    have:=vD t r
    unfold inD inV at this ⊢
    rw [List.map_cons,List.map_cons,List.map_cons,List.any_cons,List.any_cons,this,kO]
    show (eqV (toV (bg p.2)) (.int t) || _)=_
    rw [h1]
theorem zi (ps:List (Int × Option Int)):((ps.map aU).map fun d=>bg (cQ d).2).all f6=true:=by
  rw [List.all_eq_true]; intro d hd; obtain ⟨n,_,rfl⟩:=List.mem_map.mp hd; cases (cQ n).2 <;> rfl
theorem vV {f:PyData→Int→Rs PyData} {ds:List PyData} (h:(match ds with | [x0,.int x1]=>f x0 x1 | _=>.no)≠.no):∃ x0 x1,ds=[x0,.int x1]∧f x0 x1≠.no:=by
  rcases ds with _ | ⟨x0,_ | ⟨x1,_ | ⟨y,ys⟩⟩⟩
  · exact absurd rfl h
  · exact absurd rfl h
  · skip
    cases x1 with
    | int x1 =>
      exact ⟨_,_,rfl,h⟩
    | _=>exact absurd rfl h
  · first | exact absurd rfl h | (cases x1 <;> exact absurd rfl h)
theorem xf (cs:Cs):∀ ds,ds.length=2→b8 ds≠.no→aV (iG cs (ds.map some++List.replicate 0 none))=b8 ds:=by
  intro ds hl hne
  obtain ⟨d,t,ez,hz⟩:=vV hne
  clear hne; subst ez; have hne:=hz; clear hz
  · skip
    split at hne
    · rename_i hd
      obtain ⟨e1,sh⟩:=yx hd
      rw [← e1]
      generalize deE d=e at sh
      rw [k8 sh]
      have hc:cw 2 (dS (g2 dIx (ag 0) (gC (.int 3)))) cY (g2 dIx (ag 2) (gC (.int 1))) bT [some e.d,some (.int t)]=.ok ((e.parts.map aU).map fun d=>bg (cQ d).2) :=
        eL rfl (by simp [zQ]) (by have:=sh.pn; simp; omega) fun d hd'=>by
          obtain ⟨p,hp,rfl⟩:=List.mem_map.mp hd'
          simp [zX,kO]
      have hi:kS false (.int t) (.list ((e.parts.map aU).map fun d=>bg (cQ d).2))=some (.bool (e.has t)):=by
        show (if (f6 (.int t) && _)=true then some (PyData.bool (if false=true then _ else inD _ _)) else none)=_
        rw [zi,vD]; rfl
      show aV (iG cs [some e.d,some (.int t)])=_
      simp only [iG,cG,cu,aw,ax,uj,hc,Rs.aj,hi,Rs.aq,aA,bQ]
    · exact absurd rfl hne
noncomputable def cJ:Gf
  | [d,r,.int t]=>if jC d && cE (bN d).length r then .ok (bg (bh (bN d) (bK r) t)) else .no
  | _=>.no
theorem nL {es:List Er} {rs:List Int} {t:Int} (h1:es.length≤100) (h:∀ e∈es,e.Sh) (hr:bz es.length rs):cJ [av es,ao rs,.int t]=.ok (bg (bh es rs t)):=by
  unfold cJ; simp [fL h1 h,cx,cN hr,cq]
theorem oX (es:List Er) (hsh:∀ e∈es,e.Sh) (R:PyData) (t:Int):∀ (rs:List Int) (k:Nat) (x3 x4:Option PyData),(∀ m∈rs,0≤m∧m < es.length) →
    (∃ i,hts es rs k t=some i∧forL (dA [3,4]) (sIf (gT (aE b8 (af (g2 dIx (ag 0) (ag 4)) (af (ag 2) ar)))) (b6 (ag 3)) b5) ((rs.map PyData.int).mapIdx fun i d=>.tuple [.int ((k + i:Nat):Int),d]) [some (av es),some R,some (.int t),x3,x4]=.rt (.int i))
   ∨(hts es rs k t=none∧∃ δ,forL (dA [3,4]) (sIf (gT (aE b8 (af (g2 dIx (ag 0) (ag 4)) (af (ag 2) ar)))) (b6 (ag 3)) b5) ((rs.map PyData.int).mapIdx fun i d=>.tuple [.int ((k + i:Nat):Int),d]) [some (av es),some R,some (.int t),x3,x4]=.nx δ)
  | [],k,x3,x4,_=>.inr ⟨rfl,_,rfl⟩
  | m::r,k,x3,x4,hm=>by
    have h0:=hm m List.mem_cons_self
    have a2:atI (es.map Er.d) m=some (aF es m).d:=dP h0.1 h0.2
    have ht:=k8 (t:=t) (hsh _ (cc h0.1 h0.2))
    rw [List.map_cons,List.mapIdx_cons]
    unfold forL
    have e1:dA [3,4] (PyData.tuple [.int ((k + 0:Nat):Int),.int m]) [some (av es),some R,some (.int t),x3,x4]=some [some (av es),some R,some (.int t),some (.int (k:Int)),some (.int m)]:=rfl
    rw [e1]
    simp only [gZ,g5,a5,aI,aP,cu,aw,ax,Rs.aj,av,lU,a2,Rs.aq,ht,b9,aA,cG,hU]
    unfold hts
    cases hh:(aF es m).has t with
    | true=>exact .inl ⟨k,rfl,rfl⟩
    | false =>
      simp only [Bool.false_eq_true,if_false]
      have ih:=oX es hsh R t r (k + 1) (some (.int (k:Int))) (some (.int m)) (fun x hx=>hm x (List.mem_cons_of_mem _ hx))
      rw [show ((k + 1:Nat):Int)=(k:Int) + 1 by omega] at ih
      have ef:(fun (i:Nat) (d:PyData)=>PyData.tuple [.int ((k + (i + 1):Nat):Int),d])=fun i d=>.tuple [.int ((k + 1 + i:Nat):Int),d]:=by
        funext i d; rw [show k + (i + 1)=k + 1 + i by omega]
      rw [ef]
      exact ih
theorem AF (cs:Cs):∀ ds,ds.length=3→cJ ds≠.no→aV (kL cs b8 (ds.map some++List.replicate 2 none))=cJ ds:=by
  intro ds hl hne
  obtain ⟨d,r,t,ez,hz⟩:=g6 hne
  clear hne; subst ez; have hne:=hz; clear hz
  · skip
    split at hne
    · rename_i hc
      simp only [Bool.and_eq_true] at hc
      obtain ⟨c1,c2⟩:=hc
      obtain ⟨e1,hlen,hsh⟩:=jV c1
      obtain ⟨e2,hr⟩:=eu c2
      rw [← e1,← e2]
      generalize bN d=es at *
      generalize bK r=rs at *
      rw [nL hlen hsh hr]
      have loop:=oX es hsh (ao rs) t rs 0 none none hr.rng
      show aV (kL cs b8 [some (av es),some (ao rs),some (.int t),none,none])=_
      have src:qd (af (ag 1) ar) [some (av es),some (ao rs),some (.int t),none,none]=.ok ((rs.map PyData.int).mapIdx fun i d=>.tuple [.int ((0 + i:Nat):Int),d]):=by
        simp only [xR,aI,aP,aw,ax,Rs.aj,ao,xx,lZ,Nat.zero_add]
      simp only [kL]
      rw [aZ,fm,dE,src,aA]
      unfold bh
      rcases loop with ⟨i,q1,q2⟩ | ⟨q1,δ,q2⟩
      · rw [q2]
        have q1:hts es rs 0 t=some i:=q1
        rw [q1]; rfl
      · rw [q2]
        have q1:hts es rs 0 t=none:=q1
        rw [q1]; rfl
    · exact absurd rfl hne
noncomputable def cZ (es:List Er) (rs:List Int):PyData:=.list ((List.range 4).map fun (t:Nat)=>bg (bh es rs t))
noncomputable def bX:Gf
  | [d,r]=>if jC d && cE (bN d).length r then .ok (cZ (bN d) (bK r)) else .no
  | _=>.no
theorem jv {es:List Er} {rs:List Int} (h1:es.length≤100) (h:∀ e∈es,e.Sh) (hr:bz es.length rs):bX [av es,ao rs]=.ok (cZ es rs):=by
  unfold bX; simp [fL h1 h,cx,cN hr,cq]
theorem v7 {f:PyData→PyData→Rs PyData} {ds:List PyData} (h:(match ds with | [x0,x1]=>f x0 x1 | _=>.no)≠.no):∃ x0 x1,ds=[x0,x1]∧f x0 x1≠.no:=by
  rcases ds with _ | ⟨x0,_ | ⟨x1,_ | ⟨y,ys⟩⟩⟩
  · exact absurd rfl h
  · exact absurd rfl h
  · skip
    exact ⟨_,_,rfl,h⟩
  · exact absurd rfl h
theorem uq (cs:Cs):∀ ds,ds.length=2→bX ds≠.no→aV (fB cs cJ (ds.map some++List.replicate 0 none))=bX ds:=by
  intro ds hl hne
  obtain ⟨d,r,ez,hz⟩:=v7 hne
  clear hne; subst ez; have hne:=hz; clear hz
  · skip
    split at hne
    · rename_i hc
      simp only [Bool.and_eq_true] at hc
      obtain ⟨c1,c2⟩:=hc
      obtain ⟨e1,hlen,hsh⟩:=jV c1
      obtain ⟨e2,hr⟩:=eu c2
      rw [← e1,← e2]
      generalize bN d=es at *
      generalize bK r=rs at *
      rw [jv hlen hsh hr]
      have hh:∀ t:Int,cJ [av es,ao rs,.int t]=.ok (bg (bh es rs t)):=fun t=>nL hlen hsh hr
      have hcm:cw 2 (e8 (af (gC (.int 4)) ar)) cY (aE cJ (af (ag 0) (af (ag 1) (af (ag 2) ar)))) bT [some (av es),some (ao rs)]=.ok ((cn 0 (4:Int).toNat).map fun x=>bg (bh es rs (deI x))) :=
        eL rfl (by simp only [j8,aI,aP,dz,Rs.aj]; exact jT (by decide) (by decide)) (by rw [en]; decide) fun x hx=>by
          obtain ⟨i,hi⟩:=List.getElem?_of_mem hx
          obtain ⟨_,rfl⟩:=ia hi
          simp only [List.cons_append,List.nil_append,a5,aI,aP,aw,ax,Rs.aj,hh]
          rfl
      have hd:cZ es rs=.list ((cn 0 (4:Int).toNat).map fun x=>bg (bh es rs (deI x))):=by
        unfold cZ cn
        rw [List.map_map]
        congr 1
        try exact List.map_congr_left fun k _=>by simp [deI]
      rw [hd]
      show aV (fB cs cJ [some (av es),some (ao rs)])=_
      simp only [fB,cG,uj,hcm,Rs.aj,aA,bQ]
    · exact absurd rfl hne
end RS
set_option maxRecDepth 100000
set_option maxHeartbeats 1000000
namespace RS
open PySem L2
noncomputable def d8 (ns:List Int) (a:Int) (many:Nat):Nat→List Int × List Int
  | 0=>((List.range many).map fun (i:Nat)=>(i:Int),[])
  | i + 1=>((d8 ns a many i).1.eraseIdx (mixed ns (a + (i:Int)) ((d8 ns a many i).1.length:Int)).toNat,(d8 ns a many i).2++[(d8 ns a many i).1.getD (mixed ns (a + (i:Int)) ((d8 ns a many i).1.length:Int)).toNat 0])
noncomputable def pB (ns:List Int) (a:Int) (many:Nat):List Int:=(d8 ns a many many).2
theorem p6 {α:Type}:∀ (l:List α) (j:Nat) (h:j < l.length),(l[j]::l.eraseIdx j).Perm l
  | [],j,h=>by simp at h
  | x::r,0,h=>by simp
  | x::r,j + 1,h=>by
    simp only [List.getElem_cons_succ,List.eraseIdx_cons_succ]
    have h':j < r.length:=by simpa using h
    exact (List.Perm.swap _ _ _).trans ((p6 r j h').cons x)
theorem si {α β:Type} (f:α→β):∀ (l:List α) (j:Nat),(l.map f).eraseIdx j=(l.eraseIdx j).map f
  | [],j=>by simp
  | x::r,0=>by simp
  | x::r,j + 1=>by simp [si f r j]
theorem qJ (ns:List Int) (a:Int) (many:Nat):∀ i,i≤many→(d8 ns a many i).1.length=many - i∧(d8 ns a many i).2.length=i∧((d8 ns a many i).1++(d8 ns a many i).2).Perm ((List.range many).map fun (i:Nat)=>(i:Int))
  | 0,_=>⟨by simp [d8],rfl,by simp [d8]⟩
  | i + 1,h=>by
    obtain ⟨h1,h2,h3⟩:=qJ ns a many i (by omega)
    simp only [d8]
    generalize (d8 ns a many i).1=L at *
    generalize (d8 ns a many i).2=M at *
    have hL:0 < (L.length:Int):=by omega
    have m0:=dh ns (a + (i:Int)) hL
    have m1:=dG ns (a + (i:Int)) hL
    generalize mixed ns (a + (i:Int)) (L.length:Int)=z at *
    have hz:z.toNat < L.length:=by omega
    refine ⟨by rw [List.length_eraseIdx_of_lt hz]; omega,by simp [h2],?_⟩
    refine List.Perm.trans ?_ h3
    rw [List.getD_eq_getElem?_getD,List.getElem?_eq_getElem hz,Option.getD_some]
    have p1:(L[z.toNat]::L.eraseIdx z.toNat).Perm L:=p6 L z.toNat hz
    have p2:(L.eraseIdx z.toNat++(M++[L[z.toNat]])).Perm ((L[z.toNat]::L.eraseIdx z.toNat)++M):=by
      rw [← List.append_assoc]
      exact (List.perm_append_singleton _ _)
    exact p2.trans (p1.append_right M)
theorem wd (ns:List Int) (a:Int) (many:Nat):bz many (pB ns a many):=by
  obtain ⟨h1,h2,h3⟩:=qJ ns a many many (Nat.le_refl _)
  unfold pB
  have e:(d8 ns a many many).1=[]:=List.length_eq_zero_iff.mp (by omega)
  rw [e,List.nil_append] at h3
  refine ⟨h2,fun r hr=>?_,h3.nodup_iff.mpr ?_⟩
  · obtain ⟨k,hk,rfl⟩:=List.mem_map.mp (h3.mem_iff.mp hr)
    have:=List.mem_range.mp hk
    omega
  · exact (List.nodup_range).map (f:=fun (i:Nat)=>(i:Int)) fun x y h=>by
      intro q; have q:(x:Int)=(y:Int):=q; exact h (by omega)
noncomputable def bI:Gf
  | [s,.int a,.int many]=>(match fE s with
    | some ns=>if 0≤a∧0≤many∧many≤100 then .ok (ao (pB ns a many.toNat)) else .no
    | none=>.no)
  | _=>.no
theorem ky {ns:List Int} {a many:Int} (h1:0≤a) (h2:0≤many) (h3:many≤100):bI [aC ns,.int a,.int many]=.ok (ao (pB ns a many.toNat)):=by
  unfold bI; simp [gu,h1,h2,h3]
theorem yT (ns:List Int) (a:Int) (n i:Nat) (L M:List Int) (ha:0≤a) (hL:0 < (L.length:Int)) (hL2:L.length≤100) (hM:M.length≤100) :
    kf 4 3 (aE ak (af (ag 0) (af (g2 br (ag 1) (ag 5)) (af (gF eR (af (ag 3) ar)) ar)))) [some (aC ns),some (.int a),some (.int (n:Int)),some (.list (L.map .int)),some (.list (M.map .int)),some (.int (0 + (i:Int)))]
   =.nx [some (aC ns),some (.int a),some (.int (n:Int)),some (.list ((L.eraseIdx (mixed ns (a + (i:Int)) (L.length:Int)).toNat).map .int)),some (.list ((M++[L.getD (mixed ns (a + (i:Int)) (L.length:Int)).toNat 0]).map .int)),some (.int (0 + (i:Int)))]:=by
  have hm':=de (ns:=ns) (k:=a + (0 + (i:Int))) (many:=(L.length:Int)) (by omega) hL
  have m0:=dh ns (a + (i:Int)) hL
  have m1:=dG ns (a + (i:Int)) hL
  rw [show a + (0 + (i:Int))=a + (i:Int) by omega] at hm'
  generalize mixed ns (a + (i:Int)) (L.length:Int)=z at *
  have hz:z.toNat < L.length:=by omega
  have hg:aE ak (af (ag 0) (af (g2 br (ag 1) (ag 5)) (af (gF eR (af (ag 3) ar)) ar))) [some (aC ns),some (.int a),some (.int (n:Int)),some (.list (L.map .int)),some (.list (M.map .int)),some (.int (0 + (i:Int)))]=.ok (.int z):=by
    simp only [a5,aI,aP,cu,jH,aw,ax,Rs.aj,c9,Rs.aq,D2,List.length_map]
    rw [show a + (0 + (i:Int))=a + (i:Int) by omega]
    exact hm'
  have hix:ixN (L.map PyData.int).length z=some z.toNat:=by
    unfold ixN
    rw [if_pos m0,if_pos (by rw [List.length_map]; omega)]
  have hat:(L.map PyData.int)[z.toNat]?=some (.int (L.getD z.toNat 0)):=by
    rw [List.getElem?_map,List.getElem?_eq_getElem hz,List.getD_eq_getElem?_getD,List.getElem?_eq_getElem hz]; rfl
  unfold kf
  simp only [List.getElem?_cons_succ,List.getElem?_cons_zero,hg,aA]
  rw [if_pos (by refine ⟨by omega,by omega,?_⟩; rw [List.length_map]; omega)]
  simp only [hix,hat,List.set_cons_succ,List.set_cons_zero,List.map_append,List.map_cons,List.map_nil]
  rw [si]
theorem y0 (ns:List Int) (a:Int) (n i:Nat) (ha:0≤a) (hi:i < n) (hn:n≤100) :
    kf 4 3 (aE ak (af (ag 0) (af (g2 br (ag 1) (ag 5)) (af (gF eR (af (ag 3) ar)) ar)))) [some (aC ns),some (.int a),some (.int (n:Int)),some (.list ((d8 ns a n i).1.map .int)),some (.list ((d8 ns a n i).2.map .int)),some (.int (0 + (i:Int)))]
   =.nx [some (aC ns),some (.int a),some (.int (n:Int)),some (.list ((d8 ns a n (i + 1)).1.map .int)),some (.list ((d8 ns a n (i + 1)).2.map .int)),some (.int (0 + (i:Int)))]:=by
  obtain ⟨h1,h2,h3⟩:=qJ ns a n i (by omega)
  simp only [d8]
  exact yT ns a n i _ _ ha (by omega) (by omega) (by omega)
theorem rk1 (ns:List Int) (a:Int) (n:Nat) (hm2:(n:Int)≤100):lM [3,4] 3 (gLR (af (ag 2) ar)) [some (aC ns),some (.int a),some (.int (n:Int)),none,none,none]=.nx [some (aC ns),some (.int a),some (.int (n:Int)),some (.list ((d8 ns a n 0).1.map .int)),none,none]:=by
  have hg:gLR (af (ag 2) ar) (mask [3,4] [some (aC ns),some (.int a),some (.int (n:Int)),none,none,none])=.ok (cn 0 n):=by
    simp only [EK,aI,aP,aL (show 2 ∉ [3,4] by decide),aw,ax,Rs.aj]
    unfold tL
    simp only
    rw [if_pos (by omega),Int.toNat_natCast]
  have he:(d8 ns a n 0).1.map PyData.int=cn 0 n:=by
    simp only [d8,cn,List.map_map]
    refine List.map_congr_left fun k _=>?_
    simp
  rw [he]
  unfold lM
  rw [hg,if_pos (by simp)]; simp only [aA,List.set_cons_succ,List.set_cons_zero]
theorem rk2 (ns:List Int) (a:Int) (n:Nat):lM [3,4] 4 ar [some (aC ns),some (.int a),some (.int (n:Int)),some (.list ((d8 ns a n 0).1.map .int)),none,none]=.nx [some (aC ns),some (.int a),some (.int (n:Int)),some (.list ((d8 ns a n 0).1.map .int)),some (.list ((d8 ns a n 0).2.map .int)),none]:=by
  unfold lM
  rw [if_pos (by simp)]; simp only [aP,aA,List.set_cons_succ,List.set_cons_zero]
  rfl
theorem rk3 (ns:List Int) (a:Int) (n:Nat) (hm2:(n:Int)≤100):e8 (af (ag 2) ar) (mask [3,4] [some (aC ns),some (.int a),some (.int (n:Int)),some (.list ((d8 ns a n 0).1.map .int)),some (.list ((d8 ns a n 0).2.map .int)),none])=.ok (cn 0 n):=by
  have hv:af (ag 2) ar (mask [3,4] [some (aC ns),some (.int a),some (.int (n:Int)),some (.list ((d8 ns a n 0).1.map .int)),some (.list ((d8 ns a n 0).2.map .int)),none])=.ok [.int (n:Int)]:=rfl
  have hr:=jT (j:=(n:Int)) (Int.natCast_nonneg n) (by omega)
  rw [Int.toNat_natCast] at hr
  rw [j8,hv,Rs.aj,hr]
theorem uG (cs:Cs):∀ ds,ds.length=3→bI ds≠.no→aV (gO cs ak (ds.map some++List.replicate 3 none))=bI ds:=by
  intro ds hl hne
  obtain ⟨s,a,many,ez,hz⟩:=nH hne
  clear hne; subst ez; have hne:=hz; clear hz
  · skip
    split at hne
    · rename_i ns hs
      have es:=iX hs
      subst es
      split at hne
      · rename_i hc
        obtain ⟨ha,hm,hm2⟩:=hc
        rw [ky ha hm hm2]
        obtain ⟨n,rfl⟩:∃ n:Nat,many=(n:Int):=⟨many.toNat,by omega⟩
        rw [Int.toNat_natCast]
        show aV (gO cs ak [some (aC ns),some (.int a),some (.int (n:Int)),none,none,none])=_
        have s1:=rk1 ns a n hm2
        have s2:=rk2 ns a n
        have src:=rk3 ns a n hm2
        obtain ⟨δ',e,x5,hδ⟩:=iq (β:=Unit) (tgt:=b7 5) (body:=kf 4 3 (aE ak (af (ag 0) (af (g2 br (ag 1) (ag 5)) (af (gF eR (af (ag 3) ar)) ar)))))
          (fun i δ=>∃ x5,δ=[some (aC ns),some (.int a),some (.int (n:Int)),some (.list ((d8 ns a n i).1.map .int)),some (.list ((d8 ns a n i).2.map .int)),x5])
          (cn 0 n) 0 (fun i d δ hi pz4=>by
            obtain ⟨x5,hx⟩:=pz4
            subst hx
            rw [Nat.zero_add] at *
            obtain ⟨hil,rfl⟩:=ia hi
            refine ⟨[some (aC ns),some (.int a),some (.int (n:Int)),some (.list ((d8 ns a n i).1.map .int)),some (.list ((d8 ns a n i).2.map .int)),some (.int (0 + (i:Int)))],_,rfl,?_,some (.int (0 + (i:Int))),rfl⟩
            exact y0 ns a n i ha hil (by omega)) [some (aC ns),some (.int a),some (.int (n:Int)),some (.list ((d8 ns a n 0).1.map .int)),some (.list ((d8 ns a n 0).2.map .int)),none] ⟨none,rfl⟩
        subst hδ
        rw [Nat.zero_add,en] at e
        simp only [gO]
        rw [aZ,s1]; simp only
        rw [aZ,s2]; simp only
        rw [aZ,fm,src,aA,e]; simp only
        simp only [cG,jH,aI,aP,aw,ax,Rs.aj,wH,Rs.aq,aA,bQ]
        rfl
      · exact absurd rfl hne
    · exact absurd rfl hne
end RS
set_option maxRecDepth 100000
set_option maxHeartbeats 1000000
namespace RS
open PySem PySem.Spec PyProof.Rows L2
section
variable {P:Program} {w:World} {K:PySem.W.Frag} {mg:Str→Option Value} {base:Heap}
theorem BI {x qual:Str} {st:Stmt} {f:Addr} {fd:FuncData} {N ps:List Str} {k:Nat} {O:List Nat} {G:Ds→Sr} {gf:List PyData→Rs PyData} (F:Fun K x qual st f fd) (S:aT N ps (aB st)) (hO:∀ i∈O,ps.length≤i)
    (body:∀ (cdv:Value) (A:Around) (outer:List Env) (s:Shared) (H:Hp) (E:XK),fj k (A.deeper (envOfC qual (aB st) s.heap.objs.size f cdv))→PBD (jD (CXW P w) P w K mg base N qual (aB st) f cdv A outer s H E) E O (eM st) G)
    (hg:∀ ds,ds.length=ps.length→gf ds≠.no→aV (G (ds.map some++List.replicate (N.length - ps.length) none))=gf ds):jR P w K mg base (CXW P w) (k + 1) f fd ps (spD K ps.length gf):=by
  refine uw F S (fun vs H Q E h=>?_) (fun cdv A outer s H vs Q E hr h=>?_)
  · obtain ⟨A,ds,hA,hi,hl,o⟩:=h
    rw [hi.length,hl]
  · obtain ⟨A0,ds,hA,hi,hl,o⟩:=h
    refine ⟨_,body cdv A outer s H E hr,H,A0,[],_,dB.start hA hi hl hO,?_⟩
    have hg':=hg ds hl (fun z=>by rw [z] at o; exact o)
    cases q:G (ds.map some++List.replicate (N.length - ps.length) none) with
    | rt d=>rw [q] at hg'; rw [← hg'] at o; exact fun v H' s' hv=>o v H' s' hv
    | nx δ=>rw [q] at hg'; rw [← hg'] at o; exact fun A' σ H' R'=>o .non H' R'.same is_none
    | rz C=>rw [q] at hg'; rw [← hg'] at o; exact fun H' s'=>o H' s'
    | bk δ=>rw [q] at hg'; rw [← hg'] at o; exact o.elim
    | ct δ=>rw [q] at hg'; rw [← hg'] at o; exact o.elim
    | no=>rw [q] at hg'; rw [← hg'] at o; exact o.elim
theorem aR {h:Heap} {x:Str} {st:Stmt} {ps:List Str} {f:Addr} {oc:Value} {od an:Option Addr} {sl:Array (Option Value)} {kV dc pm cd ct:Value} (X:K.In h) (G:h.Ns mainGlobals mg)
    (hb:∀ (kV doc pm:Value) (an:Option Addr) (cdv ct:Value) (us:List Value),us.length=ps.length→bindArgs (PySem.W.fnOf x x (g7 st) (eM st) (aB st) .none kV doc pm an cdv ct) ⟨us,[]⟩=pure (ps.zip us))
    (a:PySem.W.nsIn K mainGlobals x=some (some (.ref f)))
    (l:K.lookup f=some ⟨oc,od,.func (PySem.W.fnOf x x (g7 st) (eM st) (aB st) .none kV dc pm an cd ct),sl⟩)
    (c:PySem.W.codeIn K cd x=true) (k:PySem.W.keepIn K (.ref f)=true):aQ K mg x st ps :=
  have F:=zK (st:=st) l c k
  ⟨f,_,F,F.binds hb,PySem.W.mg_of X G a⟩
theorem tI {h:Heap} {x:Str} {C:Addr} (X:K.In h) (G:h.Ns mainGlobals mg) (a:PySem.W.nsIn K mainGlobals x=some (some (.ref C)))
    (e:PySem.W.excIn K C [.type "ValueError",.type "Exception",.type "BaseException",.type "object"] "ValueError.__new__"=true):u6 K mg x C:=⟨PySem.W.mg_of X G a,e⟩
theorem jL {h:Heap} {x:Str} {n:Int} {t:_} (X:K.In h) (G:h.Ns mainGlobals mg) (a:PySem.W.nsIn K mainGlobals x=some (some (.int n t))):∃ t,mg x=some (.int n t):=⟨t,PySem.W.mg_of X G a⟩
end
noncomputable def fh (n:Nat):Gf
  | [s]=>(match fE s with
    | some ns=>if ns.length≤n then .ok (.bool true) else .no
    | none=>.no)
  | _=>.no
theorem _root_.L2.tabsIn_nil (e:L2.xS=[]) {K:PySem.W.Frag} {h:Heap}:L2.qO K h:=⟨(fun P q pz2=>by obtain ⟨x,m,_⟩:=pz2; rw [e] at m; cases m),(fun P q q' pz3 _=>by obtain ⟨x,m,_⟩:=pz3; rw [e] at m; cases m)⟩
theorem EB {l:PySem.W.OpenLaw} {n k:Nat} {q:Program} {loose:List Str} {XP:(Str→Option Value)→Heap→Prop} {YP:World→Heap→Prop} {d:DefRec} {K:Params→PySem.W.Frag} {x:Str} {st:Stmt}
    (hn:l.most=some n) (hn2:n≤sizeLine) (hdf:d.params.defaults=[]) (hr:fj k callerA)
    (hY:∀ (w:World) (h:Heap),YP w h→(K w.params).In h)
    (hb:∀ (kV doc pm:Value) (an:Option Addr) (cdv ct:Value) (us:List Value),us.length=1→bindArgs (PySem.W.fnOf d.name d.name (g7 st) (eM st) (aB st) .none kV doc pm an cdv ct) ⟨us,[]⟩=pure ([x].zip us))
    (F:∀ (w:World) (mg:Str→Option Value) (h:Heap),(K w.params).In h→h.Ns mainGlobals mg→
      aQ (K w.params) mg d.name st [x]∧∀ f fd,Fun (K w.params) d.name d.name st f fd→∀ base:Heap,(K w.params).In base→base.Ns mainGlobals mg→jR l.prog w (K w.params) mg base (CXW l.prog w) k f fd [x] (spD (K w.params) 1 (fh n)))
    (hTb:∀ (w:World) (h:Heap) (loose':List Str) (mean:ExcName→Option Value) (mg mb:Str→Option Value),PyProof.Rows.Top q loose' mean mg mb h→(K w.params).In h→L2.qO (K w.params) h:=by exact fun _ _ _ _ _ _ _ _=>L2.tabsIn_nil rfl) :
    PySem.W.WalkO q loose XP YP l.row.toRowW d [] (fun f vs=>PySem.call f vs) :=
  L2.xM (n:=n) (k:=k) (x:=x) (CX:=fun w=>CXW l.prog w) (sp:=fun w=>spD (K w.params) 1 (fh n)) hn hn2 hdf hr hY
    (fun w mg fa h X G hfa=>by
      obtain ⟨⟨f,fd,F1,b,m⟩,hF⟩:=F w mg h X G
      have e:=hfa.symm.trans m
      cases e
      refine ⟨fd,fun s u=>?_,hF fa fd F1⟩
      obtain ⟨oc,od,kV,doc,pm,an,cdv,ct,osl,rfl,lk,hcd⟩:=F1.ex
      exact .of_eq (hb kV doc pm an cdv ct [u] rfl))
    (fun w H a ns hl hO hS=>by
      refine ⟨[],[aC ns],?_,?_,rfl,?_⟩
      · exact Ls.nil
      · rw [yu]; exact ⟨_,[],rfl,yM hS,rfl⟩
      · have eg:fh n [aC ns]=.ok (.bool true):=by unfold fh; simp [gu,hl]
        rw [eg]
        intro v H' _ hv
        rw [yu] at hv
        unfold Is at hv
        exact hv)
    (fun w H s e s' qz5=>(by obtain ⟨_,_,_,_,_,_,z,_⟩:=qz5; exact z)) hTb
end RS
set_option maxRecDepth 100000
set_option maxHeartbeats 1000000
namespace RS
open PySem L2
theorem oy:∀ {ds:List PyData},(∀ d∈ds,bZ d=true)→jd ds=true
  | [],_=>by unfold jd; rfl
  | d::r,h=>by unfold jd; rw [h d List.mem_cons_self,oy fun e he=>h e (List.mem_cons_of_mem _ he)]; rfl
theorem iK {ds:List PyData} (h:∀ d∈ds,bZ d=true):bZ (.tuple ds)=true:=by unfold bZ; exact oy h
theorem qP {ds:List PyData} (h:∀ d∈ds,bZ d=true):bZ (.list ds)=true:=by unfold bZ; exact oy h
theorem hZ (i:Int):bZ (.int i)=true:=by unfold bZ; rfl
theorem zo (o:Option Int):bZ (bg o)=true:=by cases o <;> (unfold bg bZ; rfl)
theorem wL (p:Int × Option Int):bZ (aU p)=true:=iK fun d hd=>by
  rcases List.mem_cons.mp hd with rfl | hd
  · exact hZ _
  · cases List.mem_singleton.mp hd; exact zo _
theorem uN (e:Er):bZ e.d=true:=iK fun d hd=>by
  rcases List.mem_cons.mp hd with rfl | hd
  · exact hZ _
  · rcases List.mem_cons.mp hd with rfl | hd
    · exact hZ _
    · rcases List.mem_cons.mp hd with rfl | hd
      · exact hZ _
      · cases List.mem_singleton.mp hd
        exact iK fun d hd=>by obtain ⟨p,_,rfl⟩:=List.mem_map.mp hd; exact wL p
theorem su (es:List Er):bZ (av es)=true:=iK fun d hd=>by obtain ⟨p,_,rfl⟩:=List.mem_map.mp hd; exact uN p
theorem mG (rs:List Int):∀ d∈rs.map PyData.int,bZ d=true:=fun d hd=>by obtain ⟨p,_,rfl⟩:=List.mem_map.mp hd; exact hZ p
theorem w5 (rs:List Int):bZ (ao rs)=true:=iK (mG rs)
end RS
set_option maxRecDepth 100000
set_option maxHeartbeats 1000000
namespace RS
open PySem PySem.Spec PyProof.Rows L2
section
variable {P:Program} {w:World} {K:PySem.W.Frag} {mg:Str→Option Value} {base:Heap}
theorem xC {α:Type} {xs:List α} {k:Int} {v:α} (h0:0≤k) (h:xs[k.toNat]?=some v):atI xs k=some v:=by
  have:=Bo h
  rwa [Int.toNat_of_nonneg h0] at this
theorem depthAll_ints:∀ ns:List Int,PyData.depthAll (ns.map PyData.int)≤1
  | []=>by simp [PyData.depthAll]
  | n::r=>by
    have:=depthAll_ints r
    simp only [List.map_cons,PyData.depthAll,PyData.depth]
    omega
theorem oQ:∀ ns:List Int,PyData.canLayAll0 (ns.map PyData.int)=true
  | []=>by simp [PyData.canLayAll0]
  | n::r=>by simp [PyData.canLayAll0,PyData.canLay0,oQ r]
theorem shaped_ints (ns:List Int):SeqAt.shaped (.list (ns.map PyData.int))=true:=by
  have:=depthAll_ints ns
  have h2:(PyData.list (ns.map PyData.int)).depth≤64:=by
    simp only [PyData.depth]
    omega
  simp [SeqAt.shaped,PyData.canLay0,oQ,h2]
theorem vW:SeqAt.shaped (.list [])=true:=shaped_ints []
theorem Bb:∀ ns:List Int,PyData.eqv (.list (ns.map PyData.int)) (.list [])=decide (ns=[])
  | []=>by simp [PyData.eqv,PyData.eqvAll]
  | _::_=>by simp [PyData.eqv,PyData.eqvAll]
noncomputable def AG (K:PySem.W.Frag):Sp:=fun vs H Q _=>∃ (a:Addr) (ns:List Int) (k:Int),vs=[.ref a,.int k]∧SqL K H a (ns.map V.int)∧0≤k∧∀ H',aM H H'→Q (.int (cellAt ns k)) H'
noncomputable def CV (K:PySem.W.Frag):Sp:=fun vs H Q _=>∃ (a:Addr) (ns:List Int) (k many:Int),vs=[.ref a,.int k,.int many]∧SqL K H a (ns.map V.int)∧0≤k∧0 < many∧∀ H',aM H H'→Q (.int (mixed ns k many)) H'
theorem Co (ds:List PyData) (hl:ds.length=3) (hne:ak ds≠.no):∃ d,ak ds=.ok d∧f6 d=true∧∀ vs H Q,Iss K H ds vs→(∀ v H',aM H H'→IsD K H' d v→Q v H')→CV K vs H Q E0:=by
  obtain ⟨s,k,many,ez,hz⟩:=nH hne
  clear hne; subst ez; have hne:=hz; clear hz
  · skip
    split at hne
    · rename_i ns hs
      have es:=iX hs
      subst es
      split at hne
      · rename_i hc
        refine ⟨_,de hc.1 hc.2,rfl,fun vs H Q hi ho=>?_⟩
        obtain ⟨v0,r0,rfl,h0,v1,r1,rfl,h1,v2,r2,rfl,h2,rfl⟩:=hi
        obtain ⟨a,rfl,hS⟩:=h0.ofScript
        rw [h1.ofInt,h2.ofInt]
        exact ⟨a,ns,k,many,rfl,hS,hc.1,hc.2,fun H' s'=>ho _ _ s' sO⟩
      · exact absurd rfl hne
    · exact absurd rfl hne
end
end RS
set_option maxRecDepth 100000
set_option maxHeartbeats 1000000
namespace RS
open PySem L2
noncomputable def okIn (d r:PyData):Bool:=cI d && cE (bN d).length r
noncomputable def okN (d r:PyData) (n:Int):Bool:=okIn d r && decide (0≤n) && decide (n < (bN d).length)
section
variable {es:List Er} {rs:List Int} {n:Int}
theorem Bs (h1:1≤es.length) (h2:es.length≤6) (h:∀ e∈es,e.Ok) (hr:bz es.length rs):okIn (av es) (ao rs)=true:=by unfold okIn; rw [hV h1 h2 h,cx,cN hr]; rfl
theorem wC (h1:1≤es.length) (h2:es.length≤6) (h:∀ e∈es,e.Ok) (hr:bz es.length rs) (n0:0≤n) (n1:n < es.length):okN (av es) (ao rs) n=true:=by
  unfold okN; rw [Bs h1 h2 h hr,cx]; simp [n0,n1]
end
theorem DX (o:Option Int):dNe (bg o) (bg o)=some (.bool false):=by
  cases o with
  | none =>
    have h:PySem.SeqAt.shaped .none=true:=by simp [PySem.SeqAt.shaped,PyData.canLay0,PyData.depth]
    show dNe .none .none=_
    unfold dNe; rw [h]; simp [bZ,PyData.eqv]
  | some i=>show dNe (.int i) (.int i)=_; simp
theorem oT {cond:Ds→Rs Bool} {elt:Ds→Rs PyData} {δ:Ds} {p:PyData→Bool}:∀ (ds:List PyData),(∀ d∈ds,cond (δ++[some d])=.ok (p d)∧elt (δ++[some d])=.ok d)→iR cond elt bT δ ds=.ok (ds.filter p)
  | [],_=>rfl
  | d::r,h=>by
    obtain ⟨h1,h2⟩:=h d List.mem_cons_self
    have ih:=oT r fun e he=>h e (List.mem_cons_of_mem _ he)
    unfold iR
    cases hp:p d with
    | true=>simp only [bT,h1,hp,Rs.jP,Rs.aj,if_true,h2,ih,List.filter_cons]
    | false=>simp only [bT,h1,hp,Rs.jP,Rs.aj,if_false,Bool.false_eq_true,ih,List.filter_cons]
theorem kr {n0:Nat} {src:Ds→Rs (List PyData)} {cond:Ds→Rs Bool} {elt:Ds→Rs PyData} {δ:Ds} {p:PyData→Bool} {ds:List PyData} (hn:δ.length=n0) (hs:src δ=.ok ds) (hl:ds.length≤1000000) (h:∀ d∈ds,cond (δ++[some d])=.ok (p d)∧elt (δ++[some d])=.ok d) :
    cw n0 src cond elt bT δ=.ok (ds.filter p):=by
  unfold cw
  rw [if_pos hn,hs]
  simp only [Rs.aj,if_pos hl]
  exact oT ds h
theorem AZ (ns:List Int) (a top:Int) (ha:0≤a) (ht:0 < top) (ht2:top≤58):∃ es rs,o6 ns a 4 top true=es∧1≤es.length∧es.length≤4∧(∀ e∈es,e.Ok)∧bz es.length rs∧a9 [aC ns,.int a,.int 4,.int top,.bool true]=.ok (av es)∧bI [aC ns,.int 0,.int (es.length:Int)]=.ok (ao rs):=by
  have hl:=Ab ns a 4 top true (by decide)
  have hok:=Cz ns a 4 top true ht ht2
  have hes:a9 [aC ns,.int a,.int 4,.int top,.bool true]=.ok (av (o6 ns a 4 top true)):=i7 ha (by decide) (by decide) ht ht2
  generalize o6 ns a 4 top true=es at *
  have hrs:=ky (ns:=ns) (a:=0) (many:=(es.length:Int)) (by decide) (by omega) (by omega)
  rw [Int.toNat_natCast] at hrs
  exact ⟨es,_,rfl,hl.1,by omega,hok,wd ns 0 es.length,hes,hrs⟩
theorem BW (es:List Er):eR [av es]=some (.int (es.length:Int)):=by unfold av; rw [sY,List.length_map]
theorem lawT_of {n:Nat} {G:Ds→Sr} {k:Nat} (h:∀ ns:List Int,G (some (aC ns)::List.replicate k none)=.rt (.bool true)):∀ ds,ds.length=1→fh n ds≠.no→aV (G (ds.map some++List.replicate k none))=fh n ds:=by
  intro ds hl hne
  match ds,hl with
  | [s],_ =>
    unfold fh at hne ⊢
    simp only at hne ⊢
    split at hne
    · rename_i ns hs
      have es:=iX hs
      subst es
      split at hne
      · rename_i hc
        simp only [gu,if_pos hc]
        show aV (G (some (aC ns)::List.replicate k none))=_
        rw [h]; rfl
      · exact absurd rfl hne
    · exact absurd rfl hne
end RS
set_option maxRecDepth 100000
set_option maxHeartbeats 1000000
namespace RS
open PySem L2
theorem yL (cs:Cs):∀ ds,ds.length=1→bq ds≠.no→aV (n9 cs (ds.map some++List.replicate 0 none))=bq ds:=pN cs
noncomputable def bc (cs:Cs):Gf
  | [.tuple es,x]=>if bZ x then (if isWhole x 0 ((es.length:Int) - 1) then .ok x else .rz cs.NoErrand) else .no
  | _=>.no
theorem n8 (cs:Cs):∀ ds,ds.length=2→bc cs ds≠.no→aV (dH cs aJ (ds.map some++List.replicate 0 none))=bc cs ds:=by
  intro ds hl hne
  obtain ⟨es,x,ez,hz⟩:=AB hne
  clear hne; subst ez; have hne:=hz; clear hz
  unfold bc
  · skip
    split at hne
    · rename_i hd
      simp only [hd,if_true]
      cases e:isWhole x 0 ((es.length:Int) - 1) with
      | true=>simp [dH,hd,e]
      | false=>simp [dH,hd,e]
    · exact absurd rfl hne
theorem nZ {d r:PyData} {n:Int} (h:okN d r n=true):∃ es rs,d=av es∧r=ao rs∧bN d=es∧bK r=rs∧1≤es.length∧es.length≤6∧(∀ e∈es,e.Ok)∧bz es.length rs∧0≤n∧n < es.length:=by
  unfold okN okIn at h
  simp only [Bool.and_eq_true,decide_eq_true_eq] at h
  obtain ⟨⟨⟨c1,c2⟩,n0⟩,n1⟩:=h
  obtain ⟨e1,l1,l6,hok⟩:=mR c1
  obtain ⟨e2,hr⟩:=eu c2
  exact ⟨bN d,bK r,e1.symm,e2.symm,rfl,rfl,l1,l6,hok,hr,n0,n1⟩
theorem lV {es:List Er} (cs:Cs) (h1:1≤es.length) (h2:es.length≤6) (h:∀ e∈es,e.Ok):ba cs [av es]=.ok (av es):=by
  unfold ba; simp [su,hV h1 h2 h]
theorem lQ {es:List Er} {rs:List Int} (cs:Cs) (h2:es.length≤6) (hr:bz es.length rs):bw cs [av es,ao rs]=.ok (ao rs):=by
  unfold av bw
  simp only [List.length_map,w5,cN hr,Bool.true_and,if_true]
  rw [if_pos (by simp; omega)]
theorem k7 {es:List Er} {n:Int} (cs:Cs) (n0:0≤n) (n1:n < es.length):bc cs [av es,.int n]=.ok (.int n):=by
  unfold av bc
  simp only [hZ,if_true,List.length_map,isWhole]
  rw [if_pos (by simp; omega)]
noncomputable def bL:Gf
  | [d,r,.int n]=>if okN d r n then .ok .none else .no
  | _=>.no
theorem iU {es:List Er} {rs:List Int} {n:Int} (h1:1≤es.length) (h2:es.length≤6) (h:∀ e∈es,e.Ok) (hr:bz es.length rs) (n0:0≤n) (n1:n < es.length):bL [av es,ao rs,.int n]=.ok .none:=by
  unfold bL; simp only [wC h1 h2 h hr n0 n1,if_true]
theorem qT (cs:Cs):∀ ds,ds.length=3→bL ds≠.no→aV (e6 cs (bc cs) (bw cs) (ba cs) (ds.map some++List.replicate 0 none))=bL ds:=by
  intro ds hl hne
  obtain ⟨d,r,n,ez,hz⟩:=g6 hne
  clear hne; subst ez; have hne:=hz; clear hz
  · skip
    split at hne
    · rename_i hc
      obtain ⟨es,rs,rfl,rfl,_,_,l1,l6,hok,hr,n0,n1⟩:=nZ hc
      rw [iU l1 l6 hok hr n0 n1]
      show aV (e6 cs (bc cs) (bw cs) (ba cs) [some (av es),some (ao rs),some (.int n)])=_
      simp [e6,lV cs l1 l6 hok,lQ cs l6 hr,k7 cs n0 n1]
    · exact absurd rfl hne
end RS
set_option maxRecDepth 100000
set_option maxHeartbeats 1000000
namespace RS
open PySem L2
structure Er.Wk (e:Er):Prop where
  sh:e.Sh
  e2:e.every≤60
  l1:0≤e.late
  p2:e.parts.length≤4
  pl:∀ p∈e.parts,1≤p.1∧p.1≤1000000
  p1:e.parts≠[]
theorem Er.Ok.wk {e:Er} (h:e.Ok):e.Wk:=⟨h.sh,h.e2,h.l1,h.p2,fun p hp=>by have:=h.pl p hp; exact ⟨this.1,by omega⟩,h.p1⟩
theorem Er.Wk.work1 {e:Er} (h:e.Wk):1≤e.work:=by
  obtain ⟨p,hp⟩:=List.exists_mem_of_ne_nil _ h.p1
  have h1:=h.sh.part_le hp
  have h2:=(h.pl p hp).1
  omega
noncomputable def wkB (e:Er):Bool:=decide (e.every≤60) && decide (0≤e.late) && decide (e.parts.length≤4) && e.parts.all (fun p=>decide (1≤p.1)) && decide (e.parts≠[])
theorem Ed {e:Er} (h:e.Wk):wkB e=true:=by
  unfold wkB
  simp only [Bool.and_eq_true,decide_eq_true_eq,List.all_eq_true]
  exact ⟨⟨⟨⟨h.e2,h.l1⟩,h.p2⟩,fun p hp=>(h.pl p hp).1⟩,h.p1⟩
theorem Dq {e:Er} (h:wkB e=true) (hs:e.Sh):e.Wk:=by
  unfold wkB at h
  simp only [Bool.and_eq_true,decide_eq_true_eq,List.all_eq_true] at h
  obtain ⟨⟨⟨⟨a,b⟩,c⟩,d⟩,f⟩:=h
  exact ⟨hs,a,b,c,fun p hp=>⟨d p hp,(hs.pl p hp).2.1⟩,f⟩
noncomputable def nv (d:PyData):Bool:=jC d && decide (1≤(bN d).length) && decide ((bN d).length≤6) && (bN d).all wkB
theorem k9 {es:List Er} (h1:1≤es.length) (h2:es.length≤6) (h:∀ e∈es,e.Wk):nv (av es)=true:=by
  unfold nv
  rw [fL (by omega) fun e he=>(h e he).sh,cx]
  simp only [Bool.and_eq_true,decide_eq_true_eq,List.all_eq_true]
  exact ⟨⟨⟨trivial,h1⟩,h2⟩,fun e he=>Ed (h e he)⟩
theorem qg {d:PyData} (h:nv d=true):av (bN d)=d∧1≤(bN d).length∧(bN d).length≤6∧∀ e∈bN d,e.Wk:=by
  unfold nv at h
  simp only [Bool.and_eq_true,decide_eq_true_eq,List.all_eq_true] at h
  obtain ⟨⟨⟨a,b⟩,c⟩,f⟩:=h
  obtain ⟨e1,_,hs⟩:=jV a
  exact ⟨e1,b,c,fun e he=>Dq (f e he) (hs e he)⟩
noncomputable def okW (d r:PyData) (n:Int):Bool:=nv d && cE (bN d).length r && decide (0≤n) && decide (n < (bN d).length)
theorem kF {es:List Er} {rs:List Int} {n:Int} (h1:1≤es.length) (h2:es.length≤6) (h:∀ e∈es,e.Wk) (hr:bz es.length rs) (n0:0≤n) (n1:n < es.length):okW (av es) (ao rs) n=true:=by
  unfold okW
  rw [k9 h1 h2 h,cx,cN hr]
  simp only [Bool.and_eq_true,decide_eq_true_eq]
  exact ⟨⟨⟨trivial,trivial⟩,n0⟩,n1⟩
theorem ft {d r:PyData} {n:Int} (h:okW d r n=true):∃ es rs,d=av es∧r=ao rs∧bN d=es∧bK r=rs∧1≤es.length∧es.length≤6∧(∀ e∈es,e.Wk)∧bz es.length rs∧0≤n∧n < es.length:=by
  unfold okW at h
  simp only [Bool.and_eq_true,decide_eq_true_eq] at h
  obtain ⟨⟨⟨c1,c2⟩,n0⟩,n1⟩:=h
  obtain ⟨e1,l1,l6,hok⟩:=qg c1
  obtain ⟨e2,hr⟩:=eu c2
  exact ⟨bN d,bK r,e1.symm,e2.symm,rfl,rfl,l1,l6,hok,hr,n0,n1⟩
end RS
set_option maxRecDepth 100000
set_option maxHeartbeats 1000000
namespace RS
open PySem L2
noncomputable def hdD (C:Addr) (m k t l:Int):PyData:=zP C [("number",.int m),("part",.int k),("tool",.int t),("times",.int l)]
noncomputable def jw (C:Addr) (es:List Er) (rs:List Int) (pl m k:Int) (p:Int × Option Int):List PyData:=match p.2 with
  | some t=>(match bh es rs t with
    | some h=>if h≤pl then [hdD C m k t (p.1 - 1)] else []
    | none=>[])
  | none=>[]
noncomputable def hdM (C:Addr) (es:List Er) (rs:List Int) (pl m:Int):Nat→List (Int × Option Int)→List PyData
  | _,[]=>[]
  | k,p::r=>jw C es rs pl m k p++hdM C es rs pl m (k + 1) r
noncomputable def iH (C:Addr) (es:List Er) (rs:List Int) (pl:Int):List Int→List PyData
  | []=>[]
  | m::r=>hdM C es rs pl m 0 (aF es m).parts++iH C es rs pl r
theorem rO (C:Addr) (es:List Er) (rs:List Int) (pl m k:Int) (p:Int × Option Int):(jw C es rs pl m k p).length≤1:=by
  unfold jw
  split
  · split
    · split <;> simp
    · simp
  · simp
theorem sA (C:Addr) (es:List Er) (rs:List Int) (pl m:Int):∀ (ps:List (Int × Option Int)) (k:Nat),(hdM C es rs pl m k ps).length≤ps.length
  | [],_=>by simp [hdM]
  | p::r,k=>by
    have h1:=rO C es rs pl m k p
    have h2:=sA C es rs pl m r (k + 1)
    unfold hdM
    rw [List.length_append,List.length_cons]; omega
noncomputable abbrev Bg (cs:Cs):Ds→Sr:=nF [5] 5 (aE (vt cs.Holding ["number", "part", "tool", "times"]) (af (ag 6) (af (ag 7) (af (g2 dIx (ag 8) (gC (.int 1))) (af (g2 eW (g2 dIx (ag 8) (gC (.int 0))) (gC (.int 1))) ar)))))
noncomputable abbrev me (cs:Cs):Ds→Sr:=sIf (nW (gT (g1 fZ (g2 dIx (ag 8) (gC (.int 1))))) (gT (g2 dLe (g2 dIx (ag 4) (g2 dIx (ag 8) (gC (.int 1)))) (ag 3)))) (Bg cs) b5
theorem Cc (cs:Cs) (es:List Er) (rs:List Int) (E R n:PyData) (pl:Nat) (m:Int) (HL:List PyData) (hHL:∀ t:Int,0≤t→t≤3→atI HL t=some (bg (bh es rs t))) (p:Int × Option Int) (k:Nat) (acc:List PyData) (hl:acc.length < 1000000) (h:∀ t,p.2=some t→0≤t∧t≤3∧∃ h,bh es rs t=some h) :
    me cs [some E,some R,some n,some (.int pl),some (.list HL),some (.list acc),some (.int m),some (.int k),some (aU p)]
     =.nx [some E,some R,some n,some (.int pl),some (.list HL),some (.list (acc++jw cs.Holding es rs pl m k p)),some (.int m),some (.int k),some (aU p)]:=by
  obtain ⟨l,o⟩:=p
  cases o with
  | none=>simp [me,zX,bg,jw]
  | some t =>
    obtain ⟨h0,h3,hh,ht⟩:=h t rfl
    have ha:=hHL t h0 h3
    rw [ht] at ha
    have e1:dIx (aU (l,some t)) (.int 1)=some (.int t):=rfl
    have e0:dIx (aU (l,some t)) (.int 0)=some (.int l):=rfl
    have hix:dIx (.list HL) (.int t)=some (.int hh):=ha
    have add:Bg cs [some E,some R,some n,some (.int pl),some (.list HL),some (.list acc),some (.int m),some (.int k),some (aU (l,some t))]=.nx [some E,some R,some n,some (.int pl),some (.list HL),some (.list (acc++[hdD cs.Holding m k t (l - 1)])),some (.int m),some (.int k),some (aU (l,some t))]:=by
      unfold Bg nF
      simp only [List.getElem?_cons_succ,List.getElem?_cons_zero]
      simp only [a5,aI,aP,cu,aL (show 6 ∉ [5] by decide),aL (show 7 ∉ [5] by decide),aL (show 8 ∉ [5] by decide),aw,ax,dz,Rs.aj,e1,e0,g0,Rs.aq]
      have hm:vt cs.Holding ["number", "part", "tool", "times"] [.int m,.int (k:Int),.int t,.int (l - 1)]=.ok (hdD cs.Holding m k t (l - 1)):=rfl
      rw [hm,aA,if_pos hl]
      rfl
    have hst:jw cs.Holding es rs pl m k (l,some t)=if hh≤(pl:Int) then [hdD cs.Holding m k t (l - 1)] else []:=by
      unfold jw; simp only [ht]
    rw [hst]
    by_cases hle:hh≤(pl:Int)
    · rw [if_pos hle,← add]
      simp [me,e1,hix,hle]
    · rw [if_neg hle,List.append_nil]
      simp [me,e1,hix,hle]
theorem uO (cs:Cs) (es:List Er) (rs:List Int) (E R n:PyData) (pl:Nat) (m:Int) (HL:List PyData) (hHL:∀ t:Int,0≤t→t≤3→atI HL t=some (bg (bh es rs t))):∀ (ps:List (Int × Option Int)) (k:Nat) (acc:List PyData) (x7 x8:Option PyData),acc.length + ps.length < 1000000→(∀ p∈ps,∀ t,p.2=some t→0≤t∧t≤3∧∃ h,bh es rs t=some h) →
    ∃ y7 y8,forL (dA [7,8]) (me cs) ((ps.map aU).mapIdx fun i d=>.tuple [.int ((k + i:Nat):Int),d])
      [some E,some R,some n,some (.int pl),some (.list HL),some (.list acc),some (.int m),x7,x8]
     =.nx [some E,some R,some n,some (.int pl),some (.list HL),some (.list (acc++hdM cs.Holding es rs pl m k ps)),some (.int m),y7,y8]
  | [],k,acc,x7,x8,_,_=>⟨x7,x8,by simp [forL,hdM]⟩
  | p::r,k,acc,x7,x8,hz,h=>by
    have hz':acc.length + (r.length + 1) < 1000000:=hz
    have hl1:=rO cs.Holding es rs pl m k p
    obtain ⟨y7,y8,e⟩:=uO cs es rs E R n pl m HL hHL r (k + 1) (acc++jw cs.Holding es rs pl m k p) (some (.int (k:Int))) (some (aU p)) (by rw [List.length_append]; omega) (fun q hq=>h q (List.mem_cons_of_mem _ hq))
    refine ⟨y7,y8,?_⟩
    rw [List.map_cons,List.mapIdx_cons]
    unfold forL
    have e1:dA [7,8] (PyData.tuple [.int ((k + 0:Nat):Int),aU p]) [some E,some R,some n,some (.int pl),some (.list HL),some (.list acc),some (.int m),x7,x8]=some [some E,some R,some n,some (.int pl),some (.list HL),some (.list acc),some (.int m),some (.int (k:Int)),some (aU p)]:=rfl
    rw [e1]
    simp only [Cc cs es rs E R n pl m HL hHL p k acc (by omega) (h p List.mem_cons_self)]
    have ef:(fun (i:Nat) (d:PyData)=>PyData.tuple [.int ((k + (i + 1):Nat):Int),d])=fun i d=>.tuple [.int ((k + 1 + i:Nat):Int),d]:=by
      funext i d; rw [show k + (i + 1)=k + 1 + i by omega]
    rw [ef,e]
    rw [show hdM cs.Holding es rs pl m k (p::r)=jw cs.Holding es rs pl m k p++hdM cs.Holding es rs pl m (k + 1) r from rfl,List.append_assoc]
theorem vn {es:List Er} {rs:List Int} (cs:Cs) (hsh:∀ e∈es,e.Sh) (hr:bz es.length rs) (n:PyData) (pl:Nat):∀ (ms:List Int) (acc:List PyData) (x6 x7 x8:Option PyData),acc.length + 1000 * ms.length < 1000000→(∀ m∈ms,m∈rs) →
    ∃ y6 y7 y8,forL (b7 6) (iT [5] (qd (af (g2 dIx (g2 dIx (ag 0) (ag 6)) (gC (.int 3))) ar)) (dA [7,8]) (me cs)) (ms.map PyData.int)
      [some (av es),some (ao rs),some n,some (.int pl),some (cZ es rs),some (.list acc),x6,x7,x8]
     =.nx [some (av es),some (ao rs),some n,some (.int pl),some (cZ es rs),some (.list (acc++iH cs.Holding es rs pl ms)),y6,y7,y8]
  | [],acc,x6,x7,x8,_,_=>⟨x6,x7,x8,by simp [forL,iH]⟩
  | m::r,acc,x6,x7,x8,hz,h=>by
    have hz':acc.length + 1000 * (r.length + 1) < 1000000:=hz
    have hm:=h m List.mem_cons_self
    have hrg:=hr.rng m hm
    have hsm:=hsh _ (cc hrg.1 (by omega))
    have hpn:=hsm.pn
    have hml:=sA cs.Holding es rs pl m (aF es m).parts 0
    obtain ⟨z7,z8,e1⟩:=uO cs es rs (av es) (ao rs) n pl m ((List.range 4).map fun (t:Nat)=>bg (bh es rs t)) (fun t a b=>qj a b) (aF es m).parts 0 acc x7 x8 (by omega) fun p hp t ht=>by
      obtain ⟨_,_,c⟩:=hsm.pl p hp
      have:=c t ht
      exact ⟨this.1,this.2,qA es t rs 0 m hm (Al hp ht)⟩
    obtain ⟨y6,y7,y8,e2⟩:=vn cs hsh hr n pl r (acc++hdM cs.Holding es rs pl m 0 (aF es m).parts) (some (.int m)) z7 z8 (by rw [List.length_append]; omega) fun x hx=>h x (List.mem_cons_of_mem _ hx)
    refine ⟨y6,y7,y8,?_⟩
    rw [List.map_cons]
    unfold forL
    have a2:atI (es.map Er.d) m=some (aF es m).d:=dP hrg.1 (by omega)
    have src:qd (af (g2 dIx (g2 dIx (ag 0) (ag 6)) (gC (.int 3))) ar) (mask [5] [some (av es),some (ao rs),some n,some (.int pl),some (cZ es rs),some (.list acc),some (.int m),x7,x8])=.ok (((aF es m).parts.map aU).mapIdx fun i d=>.tuple [.int ((0 + i:Nat):Int),d]):=by
      simp only [xR,aI,aP,cu,aL (show 0 ∉ [5] by decide),aL (show 6 ∉ [5] by decide),aw,ax,dz,Rs.aj,av,lU,a2,Rs.aq,zQ,xx,lZ,Nat.zero_add]
    have ht:b7 6 (.int m) [some (av es),some (ao rs),some n,some (.int pl),some (cZ es rs),some (.list acc),x6,x7,x8]=some [some (av es),some (ao rs),some n,some (.int pl),some (cZ es rs),some (.list acc),some (.int m),x7,x8]:=rfl
    have e1':forL (dA [7,8]) (me cs) (((aF es m).parts.map aU).mapIdx fun i d=>.tuple [.int ((0 + i:Nat):Int),d]) [some (av es),some (ao rs),some n,some (.int pl),some (cZ es rs),some (.list acc),some (.int m),x7,x8]=.nx [some (av es),some (ao rs),some n,some (.int pl),some (cZ es rs),some (.list (acc++hdM cs.Holding es rs pl m 0 (aF es m).parts)),some (.int m),z7,z8]:=e1
    rw [ht]
    simp only [fm,src,aA,e1',e2]
    rw [show iH cs.Holding es rs pl (m::r)=hdM cs.Holding es rs pl m 0 (aF es m).parts++iH cs.Holding es rs pl r from rfl,List.append_assoc]
noncomputable def ck (cs:Cs):Gf
  | [d,r,.int n]=>if okW d r n then .ok (.list (iH cs.Holding (bN d) (bK r) (placeOf (bK r) n) ((bK r).drop (placeOf (bK r) n + 1)))) else .no
  | _=>.no
theorem kQ {es:List Er} {rs:List Int} {n:Int} (cs:Cs) (h1:1≤es.length) (h2:es.length≤6) (h:∀ e∈es,e.Wk) (hr:bz es.length rs) (n0:0≤n) (n1:n < es.length):ck cs [av es,ao rs,.int n]=.ok (.list (iH cs.Holding es rs (placeOf rs n) (rs.drop (placeOf rs n + 1)))):=by
  unfold ck; simp only [kF h1 h2 h hr n0 n1,if_true,cx,cq]
theorem w6 (cs:Cs):∀ ds,ds.length=3→ck cs ds≠.no→aV (iE cs bX (ds.map some++List.replicate 6 none))=ck cs ds:=by
  intro ds hl hne
  obtain ⟨d,r,n,ez,hz⟩:=g6 hne
  clear hne; subst ez; have hne:=hz; clear hz
  · skip
    split at hne
    · rename_i hc
      obtain ⟨es,rs,rfl,rfl,_,_,l1,l6,hok,hr,n0,n1⟩:=ft hc
      rw [kQ cs l1 l6 hok hr n0 n1]
      have hsh:∀ e∈es,e.Sh:=fun e he=>(hok e he).sh
      have hmem:=hr.mem n0 (by omega)
      have hix:=iZ hmem
      have hh:=jv (by omega) hsh hr
      have hrl:=hr.len
      obtain ⟨y6,y7,y8,e⟩:=vn cs hsh hr (.int n) (placeOf rs n) (rs.drop (placeOf rs n + 1)) [] none none none (by rw [List.length_drop]; simp; omega) (fun m hm=>List.mem_of_mem_drop hm)
      have src:dS (da (ag 1) (eU (g2 br (ag 3) (gC (.int 1)))) cB) (mask [5] [some (av es),some (ao rs),some (.int n),some (.int (placeOf rs n)),some (cZ es rs),some (.list []),none,none,none])=.ok ((rs.drop (placeOf rs n + 1)).map PyData.int):=by
        simp only [mS,iw,ki,gz,cu,aL (show 1 ∉ [5] by decide),aL (show 3 ∉ [5] by decide),aw,ax,dz,Rs.aj,c9,Rs.aq,jX,ao,mD,n5]
        rw [show (placeOf rs n:Int) + 1=((placeOf rs n + 1:Nat):Int) by omega,kG,List.map_drop]
      have s1:bj [5] 3 (rk (ag 1) (ag 2)) [some (av es),some (ao rs),some (.int n),none,none,none,none,none,none]=.nx [some (av es),some (ao rs),some (.int n),some (.int (placeOf rs n)),none,none,none,none,none]:=by
        rw [gR,if_pos (by simp)]
        simp only [sL,aL (show 1 ∉ [5] by decide),aL (show 2 ∉ [5] by decide),aw,ax,Rs.aj,ao,hix,Rs.aq,aA]
        rfl
      have s2:bj [5] 4 (aE bX (af (ag 0) (af (ag 1) ar))) [some (av es),some (ao rs),some (.int n),some (.int (placeOf rs n)),none,none,none,none,none]=.nx [some (av es),some (ao rs),some (.int n),some (.int (placeOf rs n)),some (cZ es rs),none,none,none,none]:=by
        rw [gR,if_pos (by simp)]
        simp only [a5,aI,aP,aL (show 0 ∉ [5] by decide),aL (show 1 ∉ [5] by decide),aw,ax,Rs.aj,hh,aA]
        rfl
      have s3:lM [5] 5 ar [some (av es),some (ao rs),some (.int n),some (.int (placeOf rs n)),some (cZ es rs),none,none,none,none]=.nx [some (av es),some (ao rs),some (.int n),some (.int (placeOf rs n)),some (cZ es rs),some (.list []),none,none,none]:=rfl
      show aV (iE cs bX [some (av es),some (ao rs),some (.int n),none,none,none,none,none,none])=_
      simp only [iE]
      rw [aZ,s1]; simp only
      rw [aZ,s2]; simp only
      rw [aZ,s3]; simp only
      rw [aZ,fm,src,aA,e]
      rfl
    · exact absurd rfl hne
end RS
set_option maxRecDepth 100000
set_option maxHeartbeats 1000000
namespace RS
open PySem L2
noncomputable def lT (es:List Er) (rs:List Int) (pl:Int) (p:Int × Option Int):List Int:=match p.2 with
  | some t=>(match bh es rs t with
    | some h=>if h≤pl then [p.1 - 1] else []
    | none=>[])
  | none=>[]
noncomputable def tms (es:List Er) (rs:List Int) (pl:Int):List (Int × Option Int)→List Int
  | []=>[]
  | p::r=>lT es rs pl p++tms es rs pl r
theorem xE (es:List Er) (rs:List Int) (pl:Int) (b:List (Int × Option Int)):∀ a,tms es rs pl (a++b)=tms es rs pl a++tms es rs pl b
  | []=>rfl
  | p::r=>by
    show lT es rs pl p++tms es rs pl (r++b)=(lT es rs pl p++tms es rs pl r)++_
    rw [xE es rs pl b r,List.append_assoc]
theorem vk (es:List Er) (rs:List Int) (pl:Int):∀ (ps:List (Int × Option Int)) (acc:Int),ps.foldl (c0 es rs pl) acc=(tms es rs pl ps).foldl max acc
  | [],_=>rfl
  | p::r,acc=>by
    rw [List.foldl_cons,vk es rs pl r]
    show _=(lT es rs pl p++tms es rs pl r).foldl max acc
    rw [List.foldl_append]
    have e:c0 es rs pl acc p=(lT es rs pl p).foldl max acc:=by
      unfold c0 lT
      cases p.2 with
      | none=>rfl
      | some t =>
        simp only
        cases bh es rs t with
        | none=>rfl
        | some h=>simp only; split <;> rfl
    rw [e]
theorem qu (es:List Er) (rs:List Int) (pl:Int):∀ (ps:List (Int × Option Int)),(∀ p∈ps,1≤p.1)→∀ a∈tms es rs pl ps,0≤a
  | [],_,a,h=>by cases h
  | p::r,hp,a,h=>by
    have h1:=hp p List.mem_cons_self
    unfold tms at h
    rcases List.mem_append.mp h with h | h
    · unfold lT at h
      split at h
      · split at h
        · split at h
          · cases List.mem_singleton.mp h; omega
          · cases h
        · cases h
      · cases h
    · exact qu es rs pl r (fun q hq=>hp q (List.mem_cons_of_mem _ hq)) a h
theorem zj {ns:List Int} (h:∀ a∈ns,0≤a):(va ns).getD 0=ns.foldl max 0:=by
  have hf:(fun a b:Int=>if b > a then b else a)=max:=by funext a b; split <;> omega
  cases ns with
  | nil=>rfl
  | cons x r =>
    have hx:=h x List.mem_cons_self
    show r.foldl (fun a b:Int=>if b > a then b else a) x=r.foldl max (max 0 x)
    rw [hf,show max 0 x=x by omega]
noncomputable def tmD (C:Addr) (d:PyData):PyData:=(pH C "times" d).getD .none
theorem vc (C:Addr) (m k t l:Int):pH C "times" (hdD C m k t l)=some (.int l):=by
  have n1:¬ (("number":Str)="times"):=by decide +kernel
  have n2:¬ (("part":Str)="times"):=by decide +kernel
  have n3:¬ (("tool":Str)="times"):=by decide +kernel
  simp only [hdD,zP,List.map_cons,List.map_nil,pH,and_self,if_true,lX,n1,n2,n3,if_false]
theorem yO (C:Addr) (es:List Er) (rs:List Int) (pl m k:Int) (p:Int × Option Int):(jw C es rs pl m k p).map (tmD C)=(lT es rs pl p).map PyData.int∧∀ d∈jw C es rs pl m k p,pH C "times" d=some (tmD C d):=by
  unfold jw lT
  cases p.2 with
  | none=>exact ⟨rfl,fun d hd=>by cases hd⟩
  | some t =>
    simp only
    cases bh es rs t with
    | none=>exact ⟨rfl,fun d hd=>by cases hd⟩
    | some h =>
      simp only
      split
      · rw [List.map_cons,List.map_nil]
        refine ⟨by unfold tmD; rw [vc]; rfl,fun d hd=>?_⟩
        cases List.mem_singleton.mp hd
        unfold tmD; rw [vc]; rfl
      · exact ⟨rfl,fun d hd=>by cases hd⟩
theorem yn (C:Addr) (es:List Er) (rs:List Int) (pl m:Int):∀ (ps:List (Int × Option Int)) (k:Nat),(hdM C es rs pl m k ps).map (tmD C)=(tms es rs pl ps).map PyData.int∧∀ d∈hdM C es rs pl m k ps,pH C "times" d=some (tmD C d)
  | [],_=>⟨rfl,fun d hd=>by cases hd⟩
  | p::r,k=>by
    obtain ⟨a1,a2⟩:=yO C es rs pl m k p
    obtain ⟨b1,b2⟩:=yn C es rs pl m r (k + 1)
    rw [show hdM C es rs pl m k (p::r)=jw C es rs pl m k p++hdM C es rs pl m (k + 1) r from rfl,show tms es rs pl (p::r)=lT es rs pl p++tms es rs pl r from rfl]
    refine ⟨by rw [List.map_append,List.map_append,a1,b1],fun d hd=>?_⟩
    rcases List.mem_append.mp hd with h | h
    · exact a2 d h
    · exact b2 d h
theorem sf (C:Addr) (es:List Er) (rs:List Int) (pl:Int):∀ (ms:List Int),(iH C es rs pl ms).map (tmD C)=(tms es rs pl ((ms.map fun m=>(aF es m).parts).flatten)).map PyData.int∧∀ d∈iH C es rs pl ms,pH C "times" d=some (tmD C d)
  | []=>⟨rfl,fun d hd=>by cases hd⟩
  | m::r=>by
    obtain ⟨a1,a2⟩:=yn C es rs pl m (aF es m).parts 0
    obtain ⟨b1,b2⟩:=sf C es rs pl r
    unfold iH
    refine ⟨by rw [List.map_append,List.map_cons,List.flatten_cons,xE,List.map_append,a1,b1],fun d hd=>?_⟩
    rcases List.mem_append.mp hd with h | h
    · exact a2 d h
    · exact b2 d h
theorem rW (C:Addr) (es:List Er) (rs:List Int) (pl:Int) (b:Nat):∀ (ms:List Int),(∀ m∈ms,(aF es m).parts.length≤b)→(iH C es rs pl ms).length≤b * ms.length
  | [],_=>by simp [iH]
  | m::r,h=>by
    have h1:=h m List.mem_cons_self
    have h2:=sA C es rs pl m (aF es m).parts 0
    have h3:=rW C es rs pl b r fun x hx=>h x (List.mem_cons_of_mem _ hx)
    unfold iH
    rw [List.length_append,List.length_cons,Nat.mul_succ]; omega
noncomputable def bJ:Gf
  | [d,r,.int n]=>if okW d r n then .ok (.int (cP (bN d) (bK r) n)) else .no
  | _=>.no
theorem ik {es:List Er} {rs:List Int} {n:Int} (h1:1≤es.length) (h2:es.length≤6) (h:∀ e∈es,e.Wk) (hr:bz es.length rs) (n0:0≤n) (n1:n < es.length):bJ [av es,ao rs,.int n]=.ok (.int (cP es rs n)):=by
  unfold bJ; simp only [kF h1 h2 h hr n0 n1,if_true,cx,cq]
theorem qr (cs:Cs):∀ ds,ds.length=3→bJ ds≠.no→aV (eI cs (ck cs) (ds.map some++List.replicate 0 none))=bJ ds:=by
  intro ds hl hne
  obtain ⟨d,r,n,ez,hz⟩:=g6 hne
  clear hne; subst ez; have hne:=hz; clear hz
  · skip
    split at hne
    · rename_i hc
      obtain ⟨es,rs,rfl,rfl,_,_,l1,l6,hok,hr,n0,n1⟩:=ft hc
      rw [ik l1 l6 hok hr n0 n1]
      have hg:=kQ cs l1 l6 hok hr n0 n1
      obtain ⟨m1,m2⟩:=sf cs.Holding es rs (placeOf rs n) (rs.drop (placeOf rs n + 1))
      have hrl:=hr.len
      have hol:∀ m∈rs.drop (placeOf rs n + 1),(aF es m).Wk:=fun m hm=>by
        have:=hr.rng m (List.mem_of_mem_drop hm)
        exact hok _ (cc this.1 (by omega))
      have hln:=rW cs.Holding es rs (placeOf rs n) 4 (rs.drop (placeOf rs n + 1)) fun m hm=>(hol m hm).p2
      have hdl:(rs.drop (placeOf rs n + 1)).length≤6:=by rw [List.length_drop]; omega
      have hcm:cw 3 (dS (aE (ck cs) (af (ag 0) (af (ag 1) (af (ag 2) ar))))) cY (g1 (pH cs.Holding "times") (ag 3)) bT [some (av es),some (ao rs),some (.int n)]=.ok ((iH cs.Holding es rs (placeOf rs n) (rs.drop (placeOf rs n + 1))).map (tmD cs.Holding)) :=
        eL rfl (by simp only [mS,a5,aI,aP,aw,ax,Rs.aj,hg]; rfl) (by omega) fun x hx=>by
          simp only [List.cons_append,List.nil_append,sM,aw,ax,Rs.aj,m2 x hx,Rs.aq]
      have hmx:uY (.list ((iH cs.Holding es rs (placeOf rs n) (rs.drop (placeOf rs n + 1))).map (tmD cs.Holding))) (.int 0)=some (.int (cP es rs n)):=by
        unfold uY
        simp only
        rw [m1,d5,Option.map_some,zj (qu _ _ _ _ fun p hp=>?_),← vk]
        · rfl
        · obtain ⟨l,hl,hpl⟩:=List.mem_flatten.mp hp
          obtain ⟨m,hm,rfl⟩:=List.mem_map.mp hl
          exact ((hol m hm).pl p hpl).1
      show aV (eI cs (ck cs) [some (av es),some (ao rs),some (.int n)])=_
      simp only [eI,cG,cu,uj,hcm,Rs.aj,dz,hmx,Rs.aq,aA,bQ]
    · exact absurd rfl hne
end RS
set_option maxRecDepth 100000
set_option maxHeartbeats 1000000
namespace RS
open PySem L2
noncomputable def o4 (f:Int→Int) (T:Int):Nat→Int→List Int
  | 0,l=>[l]
  | m + 1,l=>if l=T then [l] else l::o4 f T m (f l)
noncomputable def zF:Option (List Int)→PyData
  | some l=>.list (l.map .int)
  | none=>.none
structure Top (f:Int→Int) (T:Int):Prop where
  fix:f T=T
  one:1≤T
  low:∀ s,1≤s→s < T→¬ f s≤s
theorem pP {f:Int→Int} {T:Int} (R:ou f) (P:Top f T):∀ (m:Nat) (l:Int),1≤l→l≤T→T - l≤m→(o4 f T m l).getLast?=some T
  | 0,l,h1,h2,h3=>by
    have:l=T:=by omega
    rw [this]; rfl
  | m + 1,l,h1,h2,h3=>by
    unfold o4
    by_cases z:l=T
    · rw [if_pos z,z]; rfl
    · rw [if_neg z,List.getLast?_cons]
      have hf:=P.low l h1 (by omega)
      have hT:=R.mono l T h1 h2
      rw [P.fix] at hT
      rw [pP R P m (f l) (by omega) hT (by omega)]; rfl
end RS
set_option maxRecDepth 100000
set_option maxHeartbeats 1000000
namespace RS
open PySem L2
noncomputable def bE:Gf
  | [.int t,.int e]=>if 0 < e∧e < 1073741824 then .ok (.int ((t + e - 1) / e)) else .no
  | _=>.no
theorem DB {f:Int→Int→Rs PyData} {ds:List PyData} (h:(match ds with | [.int x0,.int x1]=>f x0 x1 | _=>.no)≠.no):∃ x0 x1,ds=[.int x0,.int x1]∧f x0 x1≠.no:=by
  rcases ds with _ | ⟨x0,_ | ⟨x1,_ | ⟨y,ys⟩⟩⟩
  · exact absurd rfl h
  · first | exact absurd rfl h | (cases x0 <;> exact absurd rfl h)
  · skip
    cases x0 with
    | int x0 =>
      cases x1 with
      | int x1 =>
        exact ⟨_,_,rfl,h⟩
      | _=>exact absurd rfl h
    | _=>first | exact absurd rfl h | (cases x1 <;> exact absurd rfl h)
  · first | exact absurd rfl h | (cases x0 <;> first | exact absurd rfl h | (cases x1 <;> exact absurd rfl h))
theorem sP (cs:Cs):∀ ds,ds.length=2→bE ds≠.no→aV (fQ cs (ds.map some++List.replicate 0 none))=bE ds:=by
  intro ds hl hne
  obtain ⟨t,e,ez,hz⟩:=DB hne
  clear hne; subst ez; have hne:=hz; clear hz
  unfold bE
  · skip
    split at hne
    · rename_i hc
      simp only [if_pos hc]
      show aV (fQ cs [some (.int t),some (.int e)])=_
      simp only [fQ,cG,cu,aw,ax,dz,Rs.aj,c9,g0,Rs.aq,Ay,if_pos hc,aA,bQ]
    · exact absurd rfl hne
theorem BG {x e:Int} (h:0 < e):(x + e - 1) / e=x / e + (if x % e > 0 then 1 else 0):=by
  have h1:=Int.mul_ediv_add_emod x e
  have h2:=Int.emod_nonneg x (show e≠0 by omega)
  have h3:=Int.emod_lt_of_pos x h
  generalize x / e=q at *
  generalize x % e=r at *
  have ex:x + e - 1=r + e - 1 + e * q:=by omega
  rw [ex,Int.add_mul_ediv_left _ _ (by omega)]
  by_cases z:r > 0
  · rw [if_pos z,show r + e - 1=(r - 1) + e * 1 by omega,Int.add_mul_ediv_left _ _ (by omega),Int.ediv_eq_zero_of_lt (by omega) (by omega)]; omega
  · rw [if_neg z,Int.ediv_eq_zero_of_lt (by omega) (by omega)]; omega
theorem qS {e:Er} {t:Int} (h:e.Sh):bE [.int (t + e.late),.int e.every]=.ok (.int (e.times t)):=by
  have h1:=h.e1; have h2:=h.e2
  unfold bE
  simp only [if_pos (show 0 < e.every∧e.every < 1073741824 from ⟨by omega,h2⟩)]
  rw [BG (by omega)]
  rfl
noncomputable def eG (es:List Er) (rs:List Int) (n h t:Int):Int:=h + (aF es n).work + ((rs.take (placeOf rs n)).map fun m=>(aF es m).times t * (aF es m).work).sum
theorem mW {es:List Er} {rs:List Int} {n h:Int} (hok:∀ e∈es,e.Wk) (hr:bz es.length rs) (n0:0≤n) (n1:n < es.length) (h0:0≤h):ou (eG es rs n h) where
  mono:=fun t u _ ht=>by
    have:=vH (n:=n) (fun e he=>(hok e he).sh) hr ht
    unfold dF at this
    unfold eG
    omega
  one:=fun t ht=>by
    unfold eG
    have h2:=(hok _ (cc n0 n1)).work1
    have h3:=ig (fun m=>(aF es m).times t * (aF es m).work) (rs.take (placeOf rs n)) fun m hm=>by
      have hm':=hr.rng m (List.mem_of_mem_take hm)
      have ho:=hok _ (cc hm'.1 hm'.2)
      have l0:=ho.l1
      exact Int.mul_nonneg (Er.times_pos ho.sh.e1 (by omega)) ho.sh.work_b.1
    omega
noncomputable def cK:Gf
  | [d,r,.int n,.int h,.int t]=>if okW d r n then .ok (.int (eG (bN d) (bK r) n h t)) else .no
  | _=>.no
theorem pO {es:List Er} {rs:List Int} {n h t:Int} (h1:1≤es.length) (h2:es.length≤6) (hk:∀ e∈es,e.Wk) (hr:bz es.length rs) (n0:0≤n) (n1:n < es.length):cK [av es,ao rs,.int n,.int h,.int t]=.ok (.int (eG es rs n h t)):=by
  unfold cK; simp only [kF h1 h2 hk hr n0 n1,if_true,cx,cq]
theorem yl {i:Nat} {g:Ds→Rs PyData} {δ:Ds} {a b:Int} (h:δ[i]?=some (some (.int a))) (hg:g δ=.ok (.int b)):tE [] i g δ=.nx (δ.set i (some (.int (a + b)))):=by
  unfold tE; rw [dE,h]; simp only [hg,aA]
noncomputable abbrev Ac:Ds→Sr:=bo (bj [] 7 (g2 dIx (ag 0) (ag 6)))
    (tE [] 5 (g2 nB (aE bq (af (ag 7) ar)) (aE bE (af (g2 br (ag 4) (g2 dIx (ag 7) (gC (.int 2)))) (af (g2 dIx (ag 7) (gC (.int 0))) ar)))))
theorem xV {es:List Er} {rs:List Int} (hsh:∀ e∈es,e.Sh) (hr:bz es.length rs) (n h:PyData) (t:Int):∀ (ms:List Int) (acc:Int) (x6 x7:Option PyData),(∀ m∈ms,m∈rs) →
    ∃ y6 y7,forL (b7 6) Ac (ms.map PyData.int) [some (av es),some (ao rs),some n,some h,some (.int t),some (.int acc),x6,x7]
     =.nx [some (av es),some (ao rs),some n,some h,some (.int t),some (.int (acc + (ms.map fun m=>(aF es m).times t * (aF es m).work).sum)),y6,y7]
  | [],acc,x6,x7,_=>⟨x6,x7,by simp [forL]⟩
  | m::r,acc,x6,x7,hm'=>by
    have hm:=hm' m List.mem_cons_self
    have hrg:=hr.rng m hm
    have hsm:=hsh _ (cc hrg.1 (by omega))
    have a2:atI (es.map Er.d) m=some (aF es m).d:=dP hrg.1 (by omega)
    obtain ⟨y6,y7,e2⟩:=xV hsh hr n h t r (acc + (aF es m).times t * (aF es m).work) (some (.int m)) (some (aF es m).d) fun x hx=>hm' x (List.mem_cons_of_mem _ hx)
    refine ⟨y6,y7,?_⟩
    have hw:=hsm.work_b
    have hgw:=eE hsm
    have hgr:=qS (t:=t) hsm
    rw [List.map_cons,List.map_cons,List.sum_cons,← Int.add_assoc]
    unfold forL
    generalize hE:aF es m=e at *
    have i2:dIx e.d (.int 2)=some (.int e.late):=rfl
    have i0:dIx e.d (.int 0)=some (.int e.every):=rfl
    have st1:bj [] 7 (g2 dIx (ag 0) (ag 6)) [some (av es),some (ao rs),some n,some h,some (.int t),some (.int acc),some (.int m),x7]=.nx [some (av es),some (ao rs),some n,some h,some (.int t),some (.int acc),some (.int m),some e.d]:=by
      rw [cW,if_pos (by simp)]
      simp only [cu,aw,ax,Rs.aj,av,lU,a2,Rs.aq,aA]
      rfl
    have st2:tE [] 5 (g2 nB (aE bq (af (ag 7) ar)) (aE bE (af (g2 br (ag 4) (g2 dIx (ag 7) (gC (.int 2)))) (af (g2 dIx (ag 7) (gC (.int 0))) ar)))) [some (av es),some (ao rs),some n,some h,some (.int t),some (.int acc),some (.int m),some e.d]=.nx [some (av es),some (ao rs),some n,some h,some (.int t),some (.int (acc + e.times t * e.work)),some (.int m),some e.d]:=by
      rw [yl (a:=acc) (b:=e.times t * e.work) rfl]
      · rfl
      · simp only [cu,a5,aI,aP,aw,ax,dz,Rs.aj,i2,i0,Rs.aq,c9,hgw,hgr,xp (b:=e.times t) (show -(2 ^ 64) < e.work by omega) (show e.work < 2 ^ 64 by omega)]
        rw [Int.mul_comm e.work]
    have ht:b7 6 (.int m) [some (av es),some (ao rs),some n,some h,some (.int t),some (.int acc),x6,x7]=some [some (av es),some (ao rs),some n,some h,some (.int t),some (.int acc),some (.int m),x7]:=rfl
    rw [ht]
    simp only [Ac,aZ,st1,st2]
    exact e2
theorem zp {f:PyData→PyData→Int→Int→Int→Rs PyData} {ds:List PyData} (h:(match ds with | [x0,x1,.int x2,.int x3,.int x4]=>f x0 x1 x2 x3 x4 | _=>.no)≠.no):∃ x0 x1 x2 x3 x4,ds=[x0,x1,.int x2,.int x3,.int x4]∧f x0 x1 x2 x3 x4≠.no:=by
  rcases ds with _ | ⟨x0,_ | ⟨x1,_ | ⟨x2,_ | ⟨x3,_ | ⟨x4,_ | ⟨y,ys⟩⟩⟩⟩⟩⟩
  · exact absurd rfl h
  · exact absurd rfl h
  · exact absurd rfl h
  · first | exact absurd rfl h | (cases x2 <;> exact absurd rfl h)
  · first | exact absurd rfl h | (cases x2 <;> first | exact absurd rfl h | (cases x3 <;> exact absurd rfl h))
  · skip
    cases x2 with
    | int x2 =>
      cases x3 with
      | int x3 =>
        cases x4 with
        | int x4 =>
          exact ⟨_,_,_,_,_,rfl,h⟩
        | _=>exact absurd rfl h
      | _=>first | exact absurd rfl h | (cases x4 <;> exact absurd rfl h)
    | _=>first | exact absurd rfl h | (cases x3 <;> first | exact absurd rfl h | (cases x4 <;> exact absurd rfl h))
  · first | exact absurd rfl h | (cases x2 <;> first | exact absurd rfl h | (cases x3 <;> first | exact absurd rfl h | (cases x4 <;> exact absurd rfl h)))
theorem DG (cs:Cs):∀ ds,ds.length=5→cK ds≠.no→aV (qe cs bq bE (ds.map some++List.replicate 3 none))=cK ds:=by
  intro ds hl hne
  obtain ⟨d,r,n,h,t,ez,hz⟩:=zp hne
  clear hne; subst ez; have hne:=hz; clear hz
  · skip
    split at hne
    · rename_i hc
      obtain ⟨es,rs,rfl,rfl,_,_,l1,l6,hok,hr,n0,n1⟩:=ft hc
      rw [pO l1 l6 hok hr n0 n1]
      have hsh:∀ e∈es,e.Sh:=fun e he=>(hok e he).sh
      have hmem:=hr.mem n0 (by omega)
      have hix:=iZ hmem
      have hsn:=hsh _ (cc n0 n1)
      have a2:atI (es.map Er.d) n=some (aF es n).d:=dP n0 n1
      have hgw:=eE hsn
      obtain ⟨y6,y7,e⟩:=xV hsh hr (.int n) (.int h) t (rs.take (placeOf rs n)) (h + (aF es n).work) none none (fun m hm=>List.mem_of_mem_take hm)
      have src:dS (da (ag 1) cB (eU (rk (ag 1) (ag 2)))) [some (av es),some (ao rs),some (.int n),some (.int h),some (.int t),some (.int (h + (aF es n).work)),none,none]=.ok ((rs.take (placeOf rs n)).map PyData.int):=by
        simp only [mS,iw,ki,gz,sL,aw,ax,Rs.aj,ao,hix,Rs.aq,jX,mD,n5]
        rw [tQ,List.map_take]
      have st0:bj [] 5 (g2 br (ag 3) (aE bq (af (g2 dIx (ag 0) (ag 2)) ar))) [some (av es),some (ao rs),some (.int n),some (.int h),some (.int t),none,none,none]=.nx [some (av es),some (ao rs),some (.int n),some (.int h),some (.int t),some (.int (h + (aF es n).work)),none,none]:=by
        rw [cW,if_pos (by simp)]
        simp only [cu,a5,aI,aP,aw,ax,Rs.aj,av,lU,a2,Rs.aq,hgw,c9,aA]
        rfl
      show aV (qe cs bq bE [some (av es),some (ao rs),some (.int n),some (.int h),some (.int t),none,none,none])=_
      simp only [qe]
      rw [aZ,st0]
      simp only
      rw [aZ,fm,dE,src,aA,e]
      rfl
    · exact absurd rfl hne
end RS
set_option maxRecDepth 100000
set_option maxHeartbeats 1000000
namespace RS
open PySem L2
noncomputable def pY (es:List Er) (rs:List Int) (n h:Int):Option Int:=eP ((aF es n).every - (aF es n).late).toNat fun t=>decide (eG es rs n h t≤t)
theorem wo (es:List Er) (rs:List Int) (n:Int):pY es rs n (cP es rs n)=bW es rs n:=rfl
noncomputable def iV (es:List Er) (rs:List Int) (n h:Int):Option (List Int):=(pY es rs n h).map fun T=>o4 (eG es rs n h) T T.toNat (eG es rs n h 1)
noncomputable abbrev tP:Ds→Rs Bool:=gT (g2 dLe (ag 6) (ag 4))
noncomputable abbrev tN:Ds→Sr:=bo (nF [5] 5 (ag 6))
    (bo (bj [5] 7 (aE cK (af (ag 0) (af (ag 1) (af (ag 2) (af (ag 3) (af (ag 6) ar)))))))
    (bo (sIf (gT (g2 dEq (ag 7) (ag 6))) (b6 (ag 5)) b5)
    (bj [5] 6 (ag 7))))
section
variable {E Rr N h:PyData} {f:Int→Int} {most:Int}
theorem tV (gfn:∀ t,cK [E,Rr,N,h,.int t]=.ok (.int (f t))) (l:Int) (acc:List PyData) (hl:acc.length < 1000000) (x7:Option PyData) :
    tN [some E,some Rr,some N,some h,some (.int most),some (.list acc),some (.int l),x7]
     =if f l=l then .rt (.list (acc++[.int l])) else .nx [some E,some Rr,some N,some h,some (.int most),some (.list (acc++[.int l])),some (.int (f l)),some (.int (f l))]:=by
  have s1:nF [5] 5 (ag 6) [some E,some Rr,some N,some h,some (.int most),some (.list acc),some (.int l),x7]=.nx [some E,some Rr,some N,some h,some (.int most),some (.list (acc++[.int l])),some (.int l),x7]:=by
    unfold nF
    simp only [List.getElem?_cons_succ,List.getElem?_cons_zero,aL (show 6 ∉ [5] by decide),aw,ax,aA,if_pos hl]
    rfl
  have s2:bj [5] 7 (aE cK (af (ag 0) (af (ag 1) (af (ag 2) (af (ag 3) (af (ag 6) ar)))))) [some E,some Rr,some N,some h,some (.int most),some (.list (acc++[.int l])),some (.int l),x7]=.nx [some E,some Rr,some N,some h,some (.int most),some (.list (acc++[.int l])),some (.int l),some (.int (f l))]:=by
    rw [gR,if_pos (by simp)]
    simp only [a5,aI,aP,aL (show 0 ∉ [5] by decide),aL (show 1 ∉ [5] by decide),aL (show 2 ∉ [5] by decide),aL (show 3 ∉ [5] by decide),aL (show 6 ∉ [5] by decide),aw,ax,Rs.aj,gfn,aA]
    rfl
  have s3:bj [5] 6 (ag 7) [some E,some Rr,some N,some h,some (.int most),some (.list (acc++[.int l])),some (.int l),some (.int (f l))]=.nx [some E,some Rr,some N,some h,some (.int most),some (.list (acc++[.int l])),some (.int (f l)),some (.int (f l))]:=by
    rw [gR,if_pos (by simp)]
    simp only [aL (show 7 ∉ [5] by decide),aw,ax,aA]
    rfl
  unfold tN
  rw [aZ,s1]; simp only
  rw [aZ,s2]; simp only
  rw [aZ]
  by_cases z:f l=l
  · rw [if_pos z]
    have q:(f l == l)=true:=by simpa using z
    simp only [gZ,g5,cu,aw,ax,Rs.aj,nO,q,Rs.aq,b9,if_true,aA,cG]
  · rw [if_neg z]
    have q:(f l == l)=false:=by simpa using z
    simp only [gZ,g5,cu,aw,ax,Rs.aj,nO,q,Rs.aq,b9,if_false,Bool.false_eq_true,aA,hU,s3]
theorem pF (l:Int) (a x7:Option PyData):tP [some E,some Rr,some N,some h,some (.int most),a,some (.int l),x7]=.ok (decide (l≤most)):=by
  simp only [tP,g5,cu,aw,ax,Rs.aj,FX,Rs.aq,b9]
theorem yr (gfn:∀ t,cK [E,Rr,N,h,.int t]=.ok (.int (f t))) (R:ou f) {T:Int} (P:Top f T) (hT:T≤most):∀ (j fuel:Nat) (l:Int) (acc:List PyData) (x7:Option PyData),1≤l→l≤T→T - l≤j→j < fuel→acc.length + j < 1000000 →
    c8 tP tN fuel [some E,some Rr,some N,some h,some (.int most),some (.list acc),some (.int l),x7]=.rt (.list (acc++(o4 f T j l).map PyData.int))
  | j,0,l,acc,x7,_,_,_,hf,_=>absurd hf (Nat.not_lt_zero _)
  | 0,fuel + 1,l,acc,x7,h1,h2,h3,hf,hc=>by
    have e:l=T:=by omega
    have ef:f l=l:=by rw [e]; exact P.fix
    unfold c8
    rw [pF,aA,decide_eq_true (show l≤most by omega),if_pos rfl,tV gfn l acc (by omega),if_pos ef]
    rfl
  | j + 1,fuel + 1,l,acc,x7,h1,h2,h3,hf,hc=>by
    unfold c8
    rw [pF,aA,decide_eq_true (show l≤most by omega),if_pos rfl,tV gfn l acc (by omega)]
    unfold o4
    by_cases e:l=T
    · have ef:f l=l:=by rw [e]; exact P.fix
      rw [if_pos ef,if_pos e]
      rfl
    · have hl:=P.low l h1 (by omega)
      have hm:=R.mono l T h1 h2
      rw [P.fix] at hm
      rw [if_neg (show ¬ f l=l by omega),if_neg e]
      simp only
      rw [yr gfn R P hT j fuel (f l) (acc++[PyData.int l]) _ (by omega) hm (by omega) (by omega) (by rw [List.length_append,List.length_singleton]; omega)]
      rw [List.map_cons,List.append_assoc]; rfl
theorem xI (gfn:∀ t,cK [E,Rr,N,h,.int t]=.ok (.int (f t))) (no:∀ s,1≤s→s≤most→¬ f s≤s):∀ (j fuel:Nat) (l:Int) (acc:List PyData) (x7:Option PyData),1≤l→most - l < j→j < fuel→acc.length + j < 1000000 →
    ∃ δ,c8 tP tN fuel [some E,some Rr,some N,some h,some (.int most),some (.list acc),some (.int l),x7]=.nx δ
  | j,0,l,acc,x7,_,_,hf,_=>absurd hf (Nat.not_lt_zero _)
  | 0,fuel + 1,l,acc,x7,h1,h3,hf,hc=>by
    unfold c8
    rw [pF,aA,decide_eq_false (show ¬ l≤most by omega),if_neg (by decide)]
    exact ⟨_,rfl⟩
  | j + 1,fuel + 1,l,acc,x7,h1,h3,hf,hc=>by
    unfold c8
    rw [pF,aA]
    by_cases e:l≤most
    · rw [decide_eq_true e,if_pos rfl,tV gfn l acc (by omega)]
      have hl:=no l h1 e
      rw [if_neg (show ¬ f l=l by omega)]
      simp only
      exact xI gfn no j fuel (f l) (acc++[PyData.int l]) _ (by omega) (by omega) (by omega) (by rw [List.length_append,List.length_singleton]; omega)
    · rw [decide_eq_false e,if_neg (by decide)]
      exact ⟨_,rfl⟩
end
noncomputable def cf:Gf
  | [d,r,.int n,.int h]=>if okW d r n && decide (0≤h) then .ok (zF (iV (bN d) (bK r) n h)) else .no
  | _=>.no
theorem kx {es:List Er} {rs:List Int} {n h:Int} (h1:1≤es.length) (h2:es.length≤6) (hk:∀ e∈es,e.Wk) (hr:bz es.length rs) (n0:0≤n) (n1:n < es.length) (h0:0≤h):cf [av es,ao rs,.int n,.int h]=.ok (zF (iV es rs n h)):=by
  unfold cf; simp only [kF h1 h2 hk hr n0 n1,decide_eq_true h0,Bool.and_self,if_true,cx,cq]
theorem xO {es:List Er} {rs:List Int} {n h T:Int} (R:ou (eG es rs n h)) (e:pY es rs n h=some T):Top (eG es rs n h) T∧T≤(aF es n).every - (aF es n).late:=by
  obtain ⟨h1,h2,h3,h4⟩:=g8 e
  have h4':∀ s,1≤s→s < T→¬ eG es rs n h s≤s:=fun s a b=>of_decide_eq_false (h4 s a b)
  exact ⟨⟨R.fix h1 (of_decide_eq_true h3) h4',h1,h4'⟩,by omega⟩
theorem vh (cs:Cs):∀ ds,ds.length=4→cf ds≠.no→aV (gG cs cK (ds.map some++List.replicate 4 none))=cf ds:=by
  intro ds hl hne
  obtain ⟨d,r,n,h,ez,hz⟩:=k4 hne
  clear hne; subst ez; have hne:=hz; clear hz
  · skip
    split at hne
    · rename_i hc
      simp only [Bool.and_eq_true,decide_eq_true_eq] at hc
      obtain ⟨hc,h0⟩:=hc
      obtain ⟨es,rs,rfl,rfl,_,_,l1,l6,hok,hr,n0,n1⟩:=ft hc
      rw [kx l1 l6 hok hr n0 n1 h0]
      have gfn:∀ t,cK [av es,ao rs,.int n,.int h,.int t]=.ok (.int (eG es rs n h t)):=fun t=>pO l1 l6 hok hr n0 n1
      have R:=mW (h:=h) hok hr n0 n1 h0
      have hon:=hok _ (cc n0 n1)
      have a2:atI (es.map Er.d) n=some (aF es n).d:=dP n0 n1
      have a3:dIx (av es) (.int n)=some (aF es n).d:=a2
      have i2:dIx (aF es n).d (.int 2)=some (.int (aF es n).late):=rfl
      have i0:dIx (aF es n).d (.int 0)=some (.int (aF es n).every):=rfl
      have e60:=hon.e2; have la0:=hon.l1
      have f1:=R.one 1 (by decide)
      generalize hM:(aF es n).every - (aF es n).late=M at *
      have s1:bj [5] 4 (g2 eW (g2 dIx (g2 dIx (ag 0) (ag 2)) (gC (.int 0))) (g2 dIx (g2 dIx (ag 0) (ag 2)) (gC (.int 2)))) [some (av es),some (ao rs),some (.int n),some (.int h),none,none,none,none]=.nx [some (av es),some (ao rs),some (.int n),some (.int h),some (.int M),none,none,none]:=by
        rw [gR,if_pos (by simp)]
        simp only [cu,aL (show 0 ∉ [5] by decide),aL (show 2 ∉ [5] by decide),aw,ax,dz,Rs.aj,a3,i2,i0,Rs.aq,g0,aA,hM]
        rfl
      have s2:lM [5] 5 ar [some (av es),some (ao rs),some (.int n),some (.int h),some (.int M),none,none,none]=.nx [some (av es),some (ao rs),some (.int n),some (.int h),some (.int M),some (.list []),none,none]:=rfl
      have s3:bj [5] 6 (aE cK (af (ag 0) (af (ag 1) (af (ag 2) (af (ag 3) (af (gC (.int 1)) ar)))))) [some (av es),some (ao rs),some (.int n),some (.int h),some (.int M),some (.list []),none,none]=.nx [some (av es),some (ao rs),some (.int n),some (.int h),some (.int M),some (.list []),some (.int (eG es rs n h 1)),none]:=by
        rw [gR,if_pos (by simp)]
        simp only [a5,aI,aP,aL (show 0 ∉ [5] by decide),aL (show 1 ∉ [5] by decide),aL (show 2 ∉ [5] by decide),aL (show 3 ∉ [5] by decide),aw,ax,dz,Rs.aj,gfn,aA]
        rfl
      show aV (gG cs cK [some (av es),some (ao rs),some (.int n),some (.int h),none,none,none,none])=_
      simp only [gG]
      rw [aZ,s1]; simp only
      rw [aZ,s2]; simp only
      rw [aZ,s3]; simp only
      rw [aZ]
      cases q:pY es rs n h with
      | some T =>
        obtain ⟨P,hT⟩:=xO R q
        rw [hM] at hT
        have hle:eG es rs n h 1≤T:=by have:=R.mono 1 T (by decide) P.one; rw [P.fix] at this; exact this
        have w:=yr gfn R P hT T.toNat 1000000 (eG es rs n h 1) [] none f1 hle (by omega) (by omega) (by simp; omega)
        rw [w]
        simp only [iV,q,Option.map_some,zF,List.nil_append,bQ]
      | none =>
        have no:∀ s,1≤s→s≤M→¬ eG es rs n h s≤s:=fun s a b=>by
          have:=m9 q s a (by omega)
          exact of_decide_eq_false this
        obtain ⟨δ,w⟩:=xI gfn no 100 1000000 (eG es rs n h 1) [] none f1 (by omega) (by decide) (by decide)
        rw [w]
        simp only [iV,q,Option.map_none,zF,cG,dz,aA,bQ]
    · exact absurd rfl hne
end RS
set_option maxRecDepth 100000
set_option maxHeartbeats 1000000
namespace RS
open PySem L2
noncomputable def b4:Gf
  | [d,r,.int n,.int h]=>if okW d r n && decide (0≤h) then .ok (bg (pY (bN d) (bK r) n h)) else .no
  | _=>.no
theorem jx {es:List Er} {rs:List Int} {n h:Int} (h1:1≤es.length) (h2:es.length≤6) (hk:∀ e∈es,e.Wk) (hr:bz es.length rs) (n0:0≤n) (n1:n < es.length) (h0:0≤h):b4 [av es,ao rs,.int n,.int h]=.ok (bg (pY es rs n h)):=by
  unfold b4; simp only [kF h1 h2 hk hr n0 n1,decide_eq_true h0,Bool.and_self,if_true,cx,cq]
theorem ub (cs:Cs):∀ ds,ds.length=4→b4 ds≠.no→aV (eJ cs cf (ds.map some++List.replicate 1 none))=b4 ds:=by
  intro ds hl hne
  obtain ⟨d,r,n,h,ez,hz⟩:=k4 hne
  clear hne; subst ez; have hne:=hz; clear hz
  · skip
    split at hne
    · rename_i hc
      simp only [Bool.and_eq_true,decide_eq_true_eq] at hc
      obtain ⟨hc,h0⟩:=hc
      obtain ⟨es,rs,rfl,rfl,_,_,l1,l6,hok,hr,n0,n1⟩:=ft hc
      rw [jx l1 l6 hok hr n0 n1 h0]
      have hg:=kx l1 l6 hok hr n0 n1 h0
      have R:=mW (h:=h) hok hr n0 n1 h0
      show aV (eJ cs cf [some (av es),some (ao rs),some (.int n),some (.int h),none])=_
      cases q:pY es rs n h with
      | none =>
        have e:iV es rs n h=none:=by unfold iV; rw [q]; rfl
        rw [e] at hg
        simp [eJ,hg,zF,bg,gIf]
      | some T =>
        obtain ⟨P,hT⟩:=xO R q
        have hle:eG es rs n h 1≤T:=by have:=R.mono 1 T (by decide) P.one; rw [P.fix] at this; exact this
        have f1:=R.one 1 (by decide)
        have e:iV es rs n h=some (o4 (eG es rs n h) T T.toNat (eG es rs n h 1)):=by unfold iV; rw [q]; rfl
        rw [e] at hg
        have hlast:=pP R P T.toNat (eG es rs n h 1) f1 hle (by omega)
        have hx:dIx (.list ((o4 (eG es rs n h) T T.toNat (eG es rs n h 1)).map PyData.int)) (.int (-1))=some (.int T):=by
          show atI _ (-1)=_
          rw [nX,List.getLast?_map,hlast]; rfl
        simp [eJ,hg,zF,bg,hx,gIf]
        rfl
    · exact absurd rfl hne
noncomputable def bp:Gf
  | [d,r,.int n]=>if okW d r n then .ok (bg (bW (bN d) (bK r) n)) else .no
  | _=>.no
theorem fY {es:List Er} {rs:List Int} {n:Int} (h1:1≤es.length) (h2:es.length≤6) (h:∀ e∈es,e.Wk) (hr:bz es.length rs) (n0:0≤n) (n1:n < es.length):bp [av es,ao rs,.int n]=.ok (bg (bW es rs n)):=by
  unfold bp; simp only [kF h1 h2 h hr n0 n1,if_true,cx,cq]
theorem ni (cs:Cs):∀ ds,ds.length=3→bp ds≠.no→aV (dj cs bJ b4 (ds.map some++List.replicate 0 none))=bp ds:=by
  intro ds hl hne
  obtain ⟨d,r,n,ez,hz⟩:=g6 hne
  clear hne; subst ez; have hne:=hz; clear hz
  · skip
    split at hne
    · rename_i hc
      obtain ⟨es,rs,rfl,rfl,_,_,l1,l6,hok,hr,n0,n1⟩:=ft hc
      rw [fY l1 l6 hok hr n0 n1]
      have h1:=ik l1 l6 hok hr n0 n1
      have h2:=jx l1 l6 hok hr n0 n1 (wa es rs n)
      rw [wo] at h2
      show aV (dj cs bJ b4 [some (av es),some (ao rs),some (.int n)])=_
      simp only [dj,cG,a5,aI,aP,aw,ax,Rs.aj,h1,h2,aA,bQ]
    · exact absurd rfl hne
noncomputable def cM (es:List Er) (rs:List Int) (n room:Int):Bool:=match bW es rs n with
  | some t=>decide (t + room≤(aF es n).due)
  | none=>false
theorem vq (es:List Er) (rs:List Int) (n:Int):cM es rs n 0=ec es rs n:=by
  unfold cM ec
  cases bW es rs n with
  | none=>rfl
  | some t=>simp
noncomputable def bu:Gf
  | [d,r,.int n,.int m]=>if okW d r n then .ok (.bool (cM (bN d) (bK r) n m)) else .no
  | _=>.no
theorem iQ {es:List Er} {rs:List Int} {n m:Int} (h1:1≤es.length) (h2:es.length≤6) (h:∀ e∈es,e.Wk) (hr:bz es.length rs) (n0:0≤n) (n1:n < es.length):bu [av es,ao rs,.int n,.int m]=.ok (.bool (cM es rs n m)):=by
  unfold bu; simp only [kF h1 h2 h hr n0 n1,if_true,cx,cq]
theorem wZ (cs:Cs):∀ ds,ds.length=4→bu ds≠.no→aV (gx cs bp (ds.map some++List.replicate 1 none))=bu ds:=by
  intro ds hl hne
  obtain ⟨d,r,n,m,ez,hz⟩:=k4 hne
  clear hne; subst ez; have hne:=hz; clear hz
  · skip
    split at hne
    · rename_i hc
      obtain ⟨es,rs,rfl,rfl,_,_,l1,l6,hok,hr,n0,n1⟩:=ft hc
      rw [iQ l1 l6 hok hr n0 n1]
      have a2:atI (es.map Er.d) n=some (aF es n).d:=dP n0 n1
      have a3:dIx (av es) (.int n)=some (aF es n).d:=a2
      have hg:=fY l1 l6 hok hr n0 n1
      have he:∀ e:Er,dIx e.d (.int 1)=some (.int e.due):=fun _=>rfl
      unfold cM
      show aV (gx cs bp [some (av es),some (ao rs),some (.int n),some (.int m),none])=_
      cases hf:bW es rs n with
      | none=>rw [hf] at hg; simp [gx,hg,bg]
      | some t=>rw [hf] at hg; simp [gx,hg,bg,a3,he]
    · exact absurd rfl hne
noncomputable def bY:Gf
  | [d,r,.int n]=>if okW d r n then .ok (.bool (ec (bN d) (bK r) n)) else .no
  | _=>.no
theorem jE {es:List Er} {rs:List Int} {n:Int} (h1:1≤es.length) (h2:es.length≤6) (h:∀ e∈es,e.Wk) (hr:bz es.length rs) (n0:0≤n) (n1:n < es.length):bY [av es,ao rs,.int n]=.ok (.bool (ec es rs n)):=by
  unfold bY; simp only [kF h1 h2 h hr n0 n1,if_true,cx,cq]
theorem tZ (cs:Cs):∀ ds,ds.length=3→bY ds≠.no→aV (fI cs bu (ds.map some++List.replicate 0 none))=bY ds:=by
  intro ds hl hne
  obtain ⟨d,r,n,ez,hz⟩:=g6 hne
  clear hne; subst ez; have hne:=hz; clear hz
  · skip
    split at hne
    · rename_i hc
      obtain ⟨es,rs,rfl,rfl,_,_,l1,l6,hok,hr,n0,n1⟩:=ft hc
      rw [jE l1 l6 hok hr n0 n1]
      have hg:=iQ (m:=0) l1 l6 hok hr n0 n1
      rw [vq] at hg
      show aV (fI cs bu [some (av es),some (ao rs),some (.int n)])=_
      simp only [fI,cG,a5,aI,aP,aw,ax,dz,Rs.aj,hg,aA,bQ]
    · exact absurd rfl hne
end RS
set_option maxRecDepth 100000
set_option maxHeartbeats 4000000
namespace L2
open PySem PySem.Spec PyProof.Rows
section
variable {X:Cx} {E:XK} {a b:Expr} {gs:Ds→Rs (List PyData)} {pos:Pos}
end
end L2
set_option maxRecDepth 100000
set_option maxHeartbeats 4000000
namespace L2
open PySem PySem.Spec PyProof.Rows
section
variable {X:Cx} {E:XK} {O:List Nat} {K:PySem.W.Frag} {H0 H:Hp} {A0 A:List Addr} {δ:Ds} {σ:St} {pos:Pos}
end
end L2
set_option maxRecDepth 100000
set_option maxHeartbeats 4000000
namespace L2
open PySem PySem.Spec PyProof.Rows
section
variable {X:Cx} {E:XK} {o e:Expr} {es:List Expr} {ga:Ds→Rs PyData} {gs:Ds→Rs (List PyData)} {pos apos:Pos}
end
end L2
namespace L2
open PySem PySem.Spec PyProof.Rows
section
variable {X:Cx} {E:XK} {O:List Nat}
end
end L2
namespace RS
open PySem L2
noncomputable def gK (cs:Cs):Ds→Sr :=
  (bo (bj [] 3 (gL (cw 5 (dS (ag 1)) (gT (g2 dNe (ag 5) (ag 2))) (ag 5) bT)))
    (bo (bj [] 4 (gL (cw 5 (e8 (af (gF eR (af (ag 0) ar)) ar)) (gT (g2 (kS true) (ag 5) (ag 1))) (ag 5) bT)))
    (b6 (gF ka (af (g2 br (g2 br (ag 3) (sU (af (ag 2) ar))) (ag 4)) ar)))))
noncomputable def fS (cs:Cs):Ds→Sr :=
  (b6 (gL (cw 2 (e8 (af (gF eR (af (ag 0) ar)) ar)) (gT (g2 (kS true) (ag 2) (ag 1))) (ag 2) bT)))
noncomputable def c7 (cs:Cs) (bR bu bD:Gf):Ds→Sr :=
  (bo (bj [] 3 (aE bD (af (ag 0) (af (ag 1) ar))))
    (bo (iT [] (dS (ag 3)) (b7 4) (sIf (gT (aE bu (af (ag 0) (af (aE bR (af (ag 0) (af (ag 3) (af (ag 4) ar)))) (af (ag 4) (af (ag 2) ar)))))) (b6 (ag 4)) b5))
    (b6 (gC .none))))
noncomputable def cV (cs:Cs) (aN:Gf):Ds→Sr :=
  (bo (bj [] 2 (gN ar))
    (bo (bj [] 3 (aE aN (af (ag 0) (af (ag 2) (af (ag 1) ar)))))
    (bo (fun δ=>c8 (gT (g1 fZ (ag 3))) (bo (bj [] 2 (g2 br (gN (af (ag 3) ar)) (ag 2)))
    (bj [] 3 (aE aN (af (ag 0) (af (ag 2) (af (ag 1) ar)))))) 1000000 δ)
    (b6 (ag 2)))))
noncomputable def dg (cs:Cs) (aX:Gf):Ds→Sr :=
  (bo (bj [] 2 (aE aX (af (ag 0) (af (ag 1) ar))))
    (b6 (gIf (gT (g2 dEq (gF eR (af (ag 2) ar)) (gF eR (af (ag 0) ar)))) (ag 2) (gC .none))))
noncomputable def gA (cs:Cs) (a7 ba:Gf):Ds→Sr :=
  (bo (nz (aE ba (af (ag 0) ar)))
    (b6 (aE a7 (af (ag 0) (af (gC (.int 0)) ar)))))
noncomputable def k6 (cs:Cs) (bY:Gf):Ds→Sr :=
  (b6 (gF sW (af (gL (cw 2 (dS (ag 1)) cY (aE bY (af (ag 0) (af (ag 1) (af (ag 2) ar)))) bT)) ar)))
noncomputable def fb (cs:Cs):Ds→Sr :=
  (b6 (g2 br (g2 br (da (ag 0) cB (eU (ag 1))) (gN (af (ag 2) ar))) (da (ag 0) (eU (g2 br (ag 1) (gC (.int 1)))) cB)))
noncomputable def dw (cs:Cs) (bB:Gf):Ds→Sr :=
  (bo (bj [] 3 (g2 dIx (ag 0) (ag 1)))
    (b6 (aE bB (af (ag 0) (af (ag 1) (af (g2 br (gN (af (g2 eW (g2 dIx (ag 3) (gC (.int 0))) (ag 2)) ar)) (da (ag 3) (eU (gC (.int 1))) cB)) ar))))))
noncomputable def iu (cs:Cs) (gf_is_errand bV a8:Gf):Ds→Sr :=
  (bo (bj [] 4 (aE a8 (af (ag 0) (af (ag 2) (af (ag 3) ar)))))
    (b6 (xk (aE gf_is_errand (af (g2 dIx (ag 4) (ag 2)) ar)) (aE bV (af (ag 4) (af (ag 1) ar))))))
noncomputable def qa (cs:Cs) (cg bV bL:Gf):Ds→Sr :=
  (bo (nz (aE bL (af (ag 0) (af (ag 1) (af (ag 2) ar)))))
    (bo (sIf (iO (gT (aE bV (af (ag 0) (af (ag 1) ar))))) (b6 (gC .none)) b5)
    (bo (bj [] 3 (gC (.int 0)))
    (bo (fun δ=>c8 (gT (aE cg (af (ag 0) (af (ag 1) (af (ag 2) (af (g2 br (ag 3) (gC (.int 1))) ar)))))) (tE [] 3 (gC (.int 1))) 1000000 δ)
    (b6 (ag 3))))))
end RS
set_option maxRecDepth 100000
set_option maxHeartbeats 1000000
namespace L2
open PySem PySem.Spec PyProof.Rows
end L2
namespace RS
open PySem L2
theorem vf:∀ a b:List Int,PyData.eqvAll (a.map PyData.int) (b.map PyData.int)=decide (a=b)
  | [],[]=>by simp [PyData.eqvAll]
  | [],_::_=>by simp [PyData.eqvAll]
  | _::_,[]=>by simp [PyData.eqvAll]
  | x::a,y::b=>by
    have h:(x == y)=decide (x=y):=by by_cases z:x=y <;> simp [z]
    simp [PyData.eqvAll,PyData.eqv,vf a b,h]
theorem Bw (a b:List Int):dEq (.list (a.map PyData.int)) (.list (b.map PyData.int))=some (.bool (decide (a=b))):=by
  unfold dEq
  rw [qP (mG a),qP (mG b),shaped_ints,shaped_ints]
  simp [PyData.eqv,vf]
theorem Ad (a:List Int):dEq (.list (a.map PyData.int)) (.list [])=some (.bool (decide (a=[]))):=Bw a []
noncomputable def cy (n:Nat):List Int:=(List.range n).map fun (i:Nat)=>(i:Int)
theorem lI (n:Nat):(cy n).Nodup:=by
  unfold cy
  exact List.Pairwise.map _ (fun a b h=>by omega) List.nodup_range
theorem gw {n:Nat} {x:Int}:x∈cy n↔0≤x∧x < n:=by
  unfold cy
  rw [List.mem_map]
  constructor
  · rintro ⟨i,hi,rfl⟩; have:=List.mem_range.mp hi; omega
  · intro h; exact ⟨x.toNat,List.mem_range.mpr (by omega),by omega⟩
theorem kv (n:Nat):(cy n).length=n:=by simp [cy]
theorem uZ (n:Nat):cn 0 n=(cy n).map PyData.int:=by
  unfold cn cy
  rw [List.map_map]
  exact List.map_congr_left fun i _=>by simp
theorem qm {n:Nat} {o:List Int}:o.Perm (cy n)↔bz n o:=by
  constructor
  · intro h
    exact ⟨by rw [h.length_eq,kv],fun r hr=>gw.mp (h.subset hr),h.symm.nodup (lI n)⟩
  · intro h
    exact (List.perm_ext_iff_of_nodup h.nd (lI n)).mpr fun a=>⟨fun ha=>gw.mpr (h.rng a ha),fun ha=>by have:=gw.mp ha; exact h.mem this.1 this.2⟩
end RS
namespace RS
open PySem L2
noncomputable def dm (cs:Cs) (bA:Gf):Ds→Sr :=
  (b6 (g2 dEq (gL (cw 2 (dS (ag 1)) (iO (gT (aE bA (af (ag 0) (af (ag 1) (af (ag 2) ar)))))) (ag 2) bT)) (sU ar)))
end RS
set_option maxRecDepth 100000
set_option maxHeartbeats 1000000
namespace RS
open PySem L2
theorem vg (x:Int) (xs:List Int):(xs.map PyData.int).filter (fun d=>!decide (deI d=x))=(xs.filter fun y=>decide (y≠x)).map PyData.int:=by
  rw [List.filter_map]
  congr 1
  refine List.filter_congr fun y _=>?_
  show (!decide (y=x))=decide (y≠x)
  by_cases z:y=x <;> simp [z]
theorem zk {a b:List PyData} (h:a.length + b.length≤1000000):br (.tuple a) (.tuple b)=some (.tuple (a++b)):=by
  show (if _ then _ else _)=_
  rw [if_pos h]
noncomputable def iF (es:List Er) (rs:List Int):Bool:=rs.all fun n=>ec es rs n
noncomputable def aW:Gf
  | [d,r]=>if jC d && cE (bN d).length r then .ok (.bool (iF (bN d) (bK r))) else .no
  | _=>.no
theorem gj {es:List Er} {rs:List Int} (h1:es.length≤100) (h:∀ e∈es,e.Sh) (hr:bz es.length rs):aW [av es,ao rs]=.ok (.bool (iF es rs)):=by
  unfold aW; simp [fL h1 h,cx,cN hr,cq]
theorem nr (cs:Cs):∀ ds,ds.length=2→aW ds≠.no→aV (dm cs bA (ds.map some++List.replicate 0 none))=aW ds:=by
  intro ds hl hne
  obtain ⟨d,r,ez,hz⟩:=v7 hne
  clear hne; subst ez; have hne:=hz; clear hz
  · skip
    split at hne
    · rename_i hc
      simp only [Bool.and_eq_true] at hc
      obtain ⟨c1,c2⟩:=hc
      obtain ⟨e1,hlen,hsh⟩:=jV c1
      obtain ⟨e2,hr⟩:=eu c2
      rw [← e1,← e2]
      generalize bN d=es at *
      generalize bK r=rs at *
      rw [gj hlen hsh hr]
      have hrl:=hr.len
      have hcm:cw 2 (dS (ag 1)) (iO (gT (aE bA (af (ag 0) (af (ag 1) (af (ag 2) ar)))))) (ag 2) bT [some (av es),some (ao rs)]=.ok ((rs.map PyData.int).filter fun d=>!ec es rs (deI d)) :=
        kr rfl rfl (by rw [List.length_map]; omega) fun x hx=>by
          obtain ⟨n,hn,rfl⟩:=List.mem_map.mp hx
          have hrg:=hr.rng n hn
          have hg:=i3 (n:=n) hlen hsh hr hrg.1 (by omega)
          refine ⟨?_,rfl⟩
          simp only [List.cons_append,List.nil_append,tM,g5,a5,aI,aP,aw,ax,Rs.aj,hg,b9]
          rfl
      have ef:((rs.map PyData.int).filter fun d=>!ec es rs (deI d))=(rs.filter fun n=>!ec es rs n).map PyData.int:=by
        rw [List.filter_map]; rfl
      rw [ef] at hcm
      have hb:decide ((rs.filter fun n=>!ec es rs n)=[])=iF es rs:=by
        unfold iF
        cases h:rs.all fun n=>ec es rs n with
        | true =>
          rw [List.all_eq_true] at h
          refine decide_eq_true (List.filter_eq_nil_iff.mpr fun n hn=>by simp [h n hn])
        | false =>
          refine decide_eq_false fun z=>?_
          rw [List.filter_eq_nil_iff] at z
          have:rs.all (fun n=>ec es rs n)=true:=List.all_eq_true.mpr fun n hn=>by simpa using z n hn
          rw [h] at this; cases this
      show aV (dm cs bA [some (av es),some (ao rs)])=_
      simp only [dm,cG,cu,uj,hcm,Rs.aj,sF,aP,Ad,hb,Rs.aq,aA,bQ]
    · exact absurd rfl hne
end RS
set_option maxRecDepth 100000
set_option maxHeartbeats 1000000
namespace RS
open PySem L2
structure BQ (gf:Gf):Prop where
  of:∀ es:List Er,1≤es.length→es.length≤6→(∀ e∈es,e.Ok)→(∃ rs,gf [av es]=.ok (ao rs)∧bz es.length rs∧iF es rs=true)∨(gf [av es]=.ok .none∧∀ rs,bz es.length rs→iF es rs=false)
theorem qD (x:Int):∀ ss:List Int,inV (toV (.int x)) ((ss.map PyData.int).map toV)=decide (x∈ss)
  | []=>by simp [inV]
  | s::r=>by
    have ih:=qD x r
    unfold inV at ih ⊢
    rw [List.map_cons,List.map_cons,List.any_cons,ih]
    show ((s == x) || _)=_
    by_cases z:x=s
    · subst z; simp
    · have h:(s == x)=false:=by simpa using fun q=>z q.symm
      simp [h,z]
end RS
set_option maxRecDepth 100000
set_option maxHeartbeats 1000000
namespace RS
open PySem L2
theorem mU {α:Type}:∀ (l:List α) (k:Nat) (e:α),k < l.length→l.set k e=l.take k++e::l.drop (k + 1)
  | [],k,e,h=>by simp at h
  | x::l,0,e,_=>by simp
  | x::l,k + 1,e,h=>by
    have:=mU l k e (by simpa using h)
    simp [this]
theorem DA {es:List Er} {e:Er} {n:Int} (n0:0≤n) (n1:n < es.length) (h6:es.length≤6) {δ:Ds} {gd gn ge:Ds→Rs PyData} (h1:gd δ=.ok (av es)) (h2:gn δ=.ok (.int n)) (h3:ge δ=.ok e.d) :
    (g2 br (g2 br (da gd cB (eU gn)) (gN (af ge ar))) (da gd (eU (g2 br gn (gC (.int 1)))) cB)) δ=.ok (av (es.set n.toNat e)):=by
  obtain ⟨k,rfl⟩:∃ k:Nat,n=(k:Int):=⟨n.toNat,by omega⟩
  have c1:cutD (es.map Er.d) none (some (k:Int))=(es.map Er.d).take k:=tQ
  have c2:cutD (es.map Er.d) (some ((k:Int) + 1)) none=(es.map Er.d).drop (k + 1):=by rw [show ((k:Int) + 1)=((k + 1:Nat):Int) by omega,kG]
  have a1:br (.tuple ((es.map Er.d).take k)) (.tuple [e.d])=some (.tuple ((es.map Er.d).take k++[e.d])):=zk (by simp; omega)
  have a2:br (.tuple ((es.map Er.d).take k++[e.d])) (.tuple ((es.map Er.d).drop (k + 1)))=some (.tuple ((es.map Er.d).take k++[e.d]++(es.map Er.d).drop (k + 1))):=zk (by simp; omega)
  have e5:av (es.set k e)=.tuple ((es.map Er.d).take k++[e.d]++(es.map Er.d).drop (k + 1)):=by
    unfold av
    rw [List.map_set,mU _ _ _ (by rw [List.length_map]; omega)]
    simp
  rw [Int.toNat_natCast,e5]
  simp only [cu,iw,gz,ki,kX,aI,aP,dz,h1,h2,h3,Rs.aj,jX,av,mD,c1,c2,c9,Rs.aq,a1,a2]
theorem zf {es:List Er} {e:Er} {n:Int} (n0:0≤n) (n1:n < es.length):aF (es.set n.toNat e) n=e:=by
  unfold aF
  rw [List.getD_eq_getElem?_getD,List.getElem?_set_self (by omega)]; rfl
theorem D6 {es:List Er} {k:Nat} {e:Er} (h:∀ e∈es,e.Sh) (he:e.Sh):∀ x∈es.set k e,x.Sh:=fun x hx=>by
  rcases List.mem_or_eq_of_mem_set hx with z | z
  · exact h x z
  · rw [z]; exact he
end RS
set_option maxRecDepth 100000
set_option maxHeartbeats 1000000
namespace RS
open PySem L2
theorem wb (x:Int) (ss:List Int):kS true (.int x) (.list (ss.map PyData.int))=some (.bool (!decide (x∈ss))):=by
  show (if (f6 (.int x) && _)=true then some (PyData.bool (if true=true then _ else inD _ _)) else none)=_
  rw [oE]
  unfold inD
  rw [qD]
  rfl
end RS
set_option maxRecDepth 100000
set_option maxHeartbeats 1000000
namespace RS
open PySem L2
theorem ET {a b:List PyData} (h:a.length + b.length≤1000000):br (.list a) (.list b)=some (.list (a++b)):=by
  show (if _ then _ else _)=_
  rw [if_pos h]
theorem wG (x:Int) (ss:List Int):kS true (.int x) (.tuple (ss.map PyData.int))=some (.bool (!decide (x∈ss))):=by
  show (if (f6 (.int x) && _)=true then some (PyData.bool (if true=true then _ else inD _ _)) else none)=_
  rw [oE]
  unfold inD
  rw [qD]
  rfl
theorem yb {δ:Ds} {l:List PyData} (h:ag 0 δ=.ok (.tuple l)) (hl:l.length≤100):e8 (af (gF eR (af (ag 0) ar)) ar) δ=.ok ((cy l.length).map PyData.int):=by
  have hv:(af (gF eR (af (ag 0) ar)) ar) δ=.ok [.int (l.length:Int)]:=by
    simp only [aI,aP,jH,h,Rs.aj,sY,Rs.aq]
  have hr:=jT (j:=(l.length:Int)) (Int.natCast_nonneg _) (by omega)
  rw [Int.toNat_natCast] at hr
  rw [j8,hv,Rs.aj,hr,uZ]
noncomputable def bH (n:Nat) (ss:List Int):List Int:=(cy n).filter fun y=>!decide (y∈ss)
theorem uc (n:Nat) (ss:List Int):((cy n).map PyData.int).filter (fun d=>!decide (deI d∈ss))=(bH n ss).map PyData.int:=by
  rw [List.filter_map]; rfl
theorem pX {δ:Ds} {ss:List Int} {n:Nat} {src:Ds→Rs (List PyData)} {k:Nat} {g:Ds→Rs PyData} {D:PyData} (hn:δ.length=k) (hs:src δ=.ok ((cy n).map PyData.int)) (hl:n≤100) (hg:∀ d,g (δ++[some d])=.ok D) (hD:∀ x:Int,kS true (.int x) D=some (.bool (!decide (x∈ss)))) :
    cw k src (gT (g2 (kS true) (ag k) g)) (ag k) bT δ=.ok ((bH n ss).map PyData.int):=by
  rw [← uc]
  refine kr hn hs (by rw [List.length_map,kv]; omega) fun d hd=>?_
  obtain ⟨x,_,rfl⟩:=List.mem_map.mp hd
  have hv:ag k (δ++[some (.int x)])=.ok (.int x):=by
    unfold ag
    rw [← hn,List.getElem?_append_right (Nat.le_refl _),Nat.sub_self]; rfl
  refine ⟨?_,hv⟩
  simp only [g5,cu,hv,Rs.aj,hg,hD,Rs.aq,b9]
  rfl
noncomputable def f7 (n:Nat) (ss:List Int) (k:Int):List Int:=(ss.filter fun y=>decide (y≠k))++[k]++bH n ss
noncomputable def bR:Gf
  | [.tuple l,.list xs,.int k]=>(match gM xs with
    | some ss=>if l.length≤100∧ss.length≤100 then .ok (ao (f7 l.length ss k)) else .no
    | none=>.no)
  | _=>.no
theorem ph {es:List Er} {ss:List Int} {k:Int} (h1:es.length≤100) (h2:ss.length≤100):bR [av es,.list (ss.map PyData.int),.int k]=.ok (ao (f7 es.length ss k)):=by
  unfold av bR
  simp only [d5,List.length_map]
  rw [if_pos ⟨h1,h2⟩]
theorem rQ (n:Nat) (ss:List Int):(bH n ss).length≤n:=by
  unfold bH
  have:=List.length_filter_le (fun y=>!decide (y∈ss)) (cy n)
  rw [kv] at this
  exact this
theorem BU {f:List PyData→List PyData→Int→Rs PyData} {ds:List PyData} (h:(match ds with | [.tuple x0,.list x1,.int x2]=>f x0 x1 x2 | _=>.no)≠.no):∃ x0 x1 x2,ds=[.tuple x0,.list x1,.int x2]∧f x0 x1 x2≠.no:=by
  rcases ds with _ | ⟨x0,_ | ⟨x1,_ | ⟨x2,_ | ⟨y,ys⟩⟩⟩⟩
  · exact absurd rfl h
  · first | exact absurd rfl h | (cases x0 <;> exact absurd rfl h)
  · first | exact absurd rfl h | (cases x0 <;> first | exact absurd rfl h | (cases x1 <;> exact absurd rfl h))
  · skip
    cases x0 with
    | tuple x0 =>
      cases x1 with
      | list x1 =>
        cases x2 with
        | int x2 =>
          exact ⟨_,_,_,rfl,h⟩
        | _=>exact absurd rfl h
      | _=>first | exact absurd rfl h | (cases x2 <;> exact absurd rfl h)
    | _=>first | exact absurd rfl h | (cases x1 <;> first | exact absurd rfl h | (cases x2 <;> exact absurd rfl h))
  · first | exact absurd rfl h | (cases x0 <;> first | exact absurd rfl h | (cases x1 <;> first | exact absurd rfl h | (cases x2 <;> exact absurd rfl h)))
theorem vT (cs:Cs):∀ ds,ds.length=3→bR ds≠.no→aV (gK cs (ds.map some++List.replicate 2 none))=bR ds:=by
  intro ds hl hne
  obtain ⟨l,xs,k,ez,hz⟩:=BU hne
  clear hne; subst ez; have hne:=hz; clear hz
  · skip
    split at hne
    · rename_i ss hx
      split at hne
      · rename_i hc
        have hx':=dR hx
        subst hx'
        have hgg:bR [.tuple l,.list (ss.map PyData.int),.int k]=.ok (ao (f7 l.length ss k)):=by
          unfold bR; simp only [d5]; rw [if_pos hc]
        rw [hgg]
        have c1:cw 5 (dS (ag 1)) (gT (g2 dNe (ag 5) (ag 2))) (ag 5) bT [some (.tuple l),some (.list (ss.map PyData.int)),some (.int k),none,none]=.ok ((ss.filter fun y=>decide (y≠k)).map PyData.int):=by
          rw [← vg]
          refine kr rfl (by rfl) (by rw [List.length_map]; omega) fun d hd=>?_
          obtain ⟨y,_,rfl⟩:=List.mem_map.mp hd
          have h:(y == k)=decide (y=k):=by by_cases z:y=k <;> simp [z]
          refine ⟨?_,rfl⟩
          simp only [List.cons_append,List.nil_append,g5,cu,aw,ax,Rs.aj,Es,Rs.aq,b9,h]
          rfl
        generalize hF:ss.filter (fun y=>decide (y≠k))=F at *
        have hFl:F.length≤100:=by rw [← hF]; exact Nat.le_trans (List.length_filter_le _ _) hc.2
        have c2:cw 5 (e8 (af (gF eR (af (ag 0) ar)) ar)) (gT (g2 (kS true) (ag 5) (ag 1))) (ag 5) bT [some (.tuple l),some (.list (ss.map PyData.int)),some (.int k),some (.list (F.map PyData.int)),none]=.ok ((bH l.length ss).map PyData.int) :=
          pX rfl (yb rfl hc.1) hc.1 (fun d=>rfl) (fun x=>wb x ss)
        have hnl:=rQ l.length ss
        have s1:bj [] 3 (gL (cw 5 (dS (ag 1)) (gT (g2 dNe (ag 5) (ag 2))) (ag 5) bT)) [some (.tuple l),some (.list (ss.map PyData.int)),some (.int k),none,none]=.nx [some (.tuple l),some (.list (ss.map PyData.int)),some (.int k),some (.list (F.map PyData.int)),none]:=by
          rw [cW,if_pos (by simp),uj,c1]; rfl
        have s2:bj [] 4 (gL (cw 5 (e8 (af (gF eR (af (ag 0) ar)) ar)) (gT (g2 (kS true) (ag 5) (ag 1))) (ag 5) bT)) [some (.tuple l),some (.list (ss.map PyData.int)),some (.int k),some (.list (F.map PyData.int)),none]=.nx [some (.tuple l),some (.list (ss.map PyData.int)),some (.int k),some (.list (F.map PyData.int)),some (.list ((bH l.length ss).map PyData.int))]:=by
          rw [cW,if_pos (by simp),uj,c2]; rfl
        have a1:br (.list (F.map PyData.int)) (.list [.int k])=some (.list (F.map PyData.int++[.int k])):=ET (by simp; omega)
        have a2:br (.list (F.map PyData.int++[.int k])) (.list ((bH l.length ss).map PyData.int))=some (.list (F.map PyData.int++[.int k]++(bH l.length ss).map PyData.int)):=ET (by simp; omega)
        show aV (gK cs [some (.tuple l),some (.list (ss.map PyData.int)),some (.int k),none,none])=_
        simp only [gK]
        rw [aZ,s1]; simp only
        rw [aZ,s2]; simp only
        simp only [cG,jH,aI,aP,cu,sF,aw,ax,Rs.aj,a1,a2,Rs.aq,wH,aA,bQ]
        unfold f7 ao
        rw [hF]
        simp
      · exact absurd rfl hne
    · exact absurd rfl hne
noncomputable def bD:Gf
  | [.tuple l,.tuple xs]=>(match gM xs with
    | some ss=>if l.length≤100 then .ok (.list ((bH l.length ss).map PyData.int)) else .no
    | none=>.no)
  | _=>.no
theorem oM {es:List Er} {ss:List Int} (h1:es.length≤100):bD [av es,ao ss]=.ok (.list ((bH es.length ss).map PyData.int)):=by
  unfold av ao bD
  simp only [d5,List.length_map]
  rw [if_pos h1]
theorem D0 {f:List PyData→List PyData→Rs PyData} {ds:List PyData} (h:(match ds with | [.tuple x0,.tuple x1]=>f x0 x1 | _=>.no)≠.no):∃ x0 x1,ds=[.tuple x0,.tuple x1]∧f x0 x1≠.no:=by
  rcases ds with _ | ⟨x0,_ | ⟨x1,_ | ⟨y,ys⟩⟩⟩
  · exact absurd rfl h
  · first | exact absurd rfl h | (cases x0 <;> exact absurd rfl h)
  · skip
    cases x0 with
    | tuple x0 =>
      cases x1 with
      | tuple x1 =>
        exact ⟨_,_,rfl,h⟩
      | _=>exact absurd rfl h
    | _=>first | exact absurd rfl h | (cases x1 <;> exact absurd rfl h)
  · first | exact absurd rfl h | (cases x0 <;> first | exact absurd rfl h | (cases x1 <;> exact absurd rfl h))
theorem tH (cs:Cs):∀ ds,ds.length=2→bD ds≠.no→aV (fS cs (ds.map some++List.replicate 0 none))=bD ds:=by
  intro ds hl hne
  obtain ⟨l,xs,ez,hz⟩:=D0 hne
  clear hne; subst ez; have hne:=hz; clear hz
  · skip
    split at hne
    · rename_i ss hx
      split at hne
      · rename_i hc
        have hx':=dR hx
        subst hx'
        have hgg:bD [.tuple l,.tuple (ss.map PyData.int)]=.ok (.list ((bH l.length ss).map PyData.int)):=by
          unfold bD; simp only [d5]; rw [if_pos hc]
        rw [hgg]
        have c2:cw 2 (e8 (af (gF eR (af (ag 0) ar)) ar)) (gT (g2 (kS true) (ag 2) (ag 1))) (ag 2) bT [some (.tuple l),some (.tuple (ss.map PyData.int))]=.ok ((bH l.length ss).map PyData.int) :=
          pX rfl (yb rfl hc) hc (fun d=>rfl) (fun x=>wG x ss)
        show aV (fS cs [some (.tuple l),some (.tuple (ss.map PyData.int))])=_
        simp only [fS,cG,uj,c2,Rs.aj,aA,bQ]
      · exact absurd rfl hne
    · exact absurd rfl hne
theorem d6 {n:Nat} {ss:List Int} {x:Int}:x∈bH n ss↔(0≤x∧x < n)∧x ∉ ss:=by
  unfold bH
  rw [List.mem_filter,gw]
  simp
theorem iL (n:Nat) (ss:List Int):(bH n ss).Nodup:=(lI n).filter _
theorem lg {n:Nat} {ss:List Int} {k:Int} (nd:ss.Nodup) (hs:∀ x∈ss,0≤x∧x < n) (hk:k∈ss):bz n (f7 n ss k):=by
  rw [← qm]
  have e2:(ss.filter fun y=>decide (y≠k))=ss.erase k:=by
    rw [nd.erase_eq_filter]
    refine List.filter_congr fun y _=>?_
    by_cases z:y=k <;> simp [z]
  have p1:(f7 n ss k).Perm (ss++bH n ss):=by
    unfold f7
    rw [e2]
    refine List.Perm.append_right _ ?_
    refine List.perm_append_comm.trans ?_
    exact (List.perm_cons_erase hk).symm
  refine p1.trans ?_
  refine (List.perm_ext_iff_of_nodup ?_ (lI n)).mpr fun a=>?_
  · refine List.nodup_append.mpr ⟨nd,iL n ss,fun a ha b hb e=>?_⟩
    subst e
    exact (d6.mp hb).2 ha
  · rw [List.mem_append,d6,gw]
    constructor
    · rintro (h | h)
      · exact hs a h
      · exact h.1
    · intro h
      by_cases z:a∈ss
      · exact .inl z
      · exact .inr ⟨h,z⟩
theorem qM {n:Nat} {ss:List Int} {k:Int}:(f7 n ss k).take (placeOf (f7 n ss k) k)=ss.filter fun y=>decide (y≠k):=by
  have h:placeOf (f7 n ss k) k=(ss.filter fun y=>decide (y≠k)).length:=by
    unfold f7
    rw [List.append_assoc,vR (fun z=>by simpa using (List.mem_filter.mp z).2)]
    rw [List.singleton_append,ue]; omega
  rw [h]
  unfold f7
  rw [List.append_assoc,List.take_left']
  rfl
noncomputable def ej (es:List Er) (ss:List Int) (m:Int):Option Int:=(bH es.length ss).find? fun k=>cM es (f7 es.length (bH es.length ss) k) k m
noncomputable def aN:Gf
  | [d,.tuple xs,.int m]=>(match gM xs with
    | some ss=>if nv d then .ok (bg (ej (bN d) ss m)) else .no
    | none=>.no)
  | _=>.no
theorem dY {es:List Er} {ss:List Int} {m:Int} (h1:1≤es.length) (h2:es.length≤6) (h:∀ e∈es,e.Wk):aN [av es,ao ss,.int m]=.ok (bg (ej es ss m)):=by
  unfold ao aN
  simp only [d5,k9 h1 h2 h,if_true,cx]
theorem xy {E P M L:PyData} {c:Ds→Rs Bool} {p:Int→Bool}:∀ (xs:List Int) (x4:Option PyData),(∀ k∈xs,c [some E,some P,some M,some L,some (.int k)]=.ok (p k)) →
    (∃ k,xs.find? p=some k∧forL (b7 4) (sIf c (b6 (ag 4)) b5) (xs.map PyData.int) [some E,some P,some M,some L,x4]=.rt (.int k))∨(xs.find? p=none∧∃ y4,forL (b7 4) (sIf c (b6 (ag 4)) b5) (xs.map PyData.int) [some E,some P,some M,some L,x4]=.nx [some E,some P,some M,some L,y4])
  | [],x4,_=>.inr ⟨rfl,x4,rfl⟩
  | k::r,x4,h=>by
    have hk:=h k List.mem_cons_self
    have ht:b7 4 (PyData.int k) [some E,some P,some M,some L,x4]=some [some E,some P,some M,some L,some (.int k)]:=rfl
    rw [List.map_cons]
    unfold forL
    rw [ht]
    cases q:p k with
    | true =>
      rw [q] at hk
      refine .inl ⟨k,by rw [List.find?_cons,q],?_⟩
      simp only [gZ,hk,aA,if_true,cG,aw,ax]
    | false =>
      rw [q] at hk
      have hb:sIf c (b6 (ag 4)) b5 [some E,some P,some M,some L,some (.int k)]=.nx [some E,some P,some M,some L,some (.int k)]:=by
        simp only [gZ,hk,aA,Bool.false_eq_true,if_false,hU]
      simp only [hb]
      rcases xy r (some (.int k)) (fun x hx=>h x (List.mem_cons_of_mem _ hx)) with ⟨j,e1,e2⟩ | ⟨e1,y4,e2⟩
      · exact .inl ⟨j,by rw [List.find?_cons,q]; exact e1,e2⟩
      · exact .inr ⟨by rw [List.find?_cons,q]; exact e1,y4,e2⟩
theorem BZ {f:PyData→List PyData→Int→Rs PyData} {ds:List PyData} (h:(match ds with | [x0,.tuple x1,.int x2]=>f x0 x1 x2 | _=>.no)≠.no):∃ x0 x1 x2,ds=[x0,.tuple x1,.int x2]∧f x0 x1 x2≠.no:=by
  rcases ds with _ | ⟨x0,_ | ⟨x1,_ | ⟨x2,_ | ⟨y,ys⟩⟩⟩⟩
  · exact absurd rfl h
  · exact absurd rfl h
  · first | exact absurd rfl h | (cases x1 <;> exact absurd rfl h)
  · skip
    cases x1 with
    | tuple x1 =>
      cases x2 with
      | int x2 =>
        exact ⟨_,_,_,rfl,h⟩
      | _=>exact absurd rfl h
    | _=>first | exact absurd rfl h | (cases x2 <;> exact absurd rfl h)
  · first | exact absurd rfl h | (cases x1 <;> first | exact absurd rfl h | (cases x2 <;> exact absurd rfl h))
theorem mI (cs:Cs):∀ ds,ds.length=3→aN ds≠.no→aV (c7 cs bR bu bD (ds.map some++List.replicate 2 none))=aN ds:=by
  intro ds hl hne
  obtain ⟨d,xs,m,ez,hz⟩:=BZ hne
  clear hne; subst ez; have hne:=hz; clear hz
  · skip
    split at hne
    · rename_i ss hx
      split at hne
      · rename_i hc
        have hx':=dR hx
        subst hx'
        obtain ⟨e1,l1,l6,hok⟩:=qg hc
        rw [← e1]
        generalize bN d=es at *
        have hgg:=dY (ss:=ss) (m:=m) l1 l6 hok
        unfold ao at hgg
        rw [hgg]
        have hnp:=oM (es:=es) (ss:=ss) (by omega)
        unfold ao at hnp
        have hnl:=rQ es.length ss
        have s1:bj [] 3 (aE bD (af (ag 0) (af (ag 1) ar))) [some (av es),some (.tuple (ss.map PyData.int)),some (.int m),none,none]=.nx [some (av es),some (.tuple (ss.map PyData.int)),some (.int m),some (.list ((bH es.length ss).map PyData.int)),none]:=by
          rw [cW,if_pos (by simp)]
          simp only [a5,aI,aP,aw,ax,Rs.aj,hnp,aA]
          rfl
        have hc':∀ k∈bH es.length ss,(gT (aE bu (af (ag 0) (af (aE bR (af (ag 0) (af (ag 3) (af (ag 4) ar)))) (af (ag 4) (af (ag 2) ar)))))) [some (av es),some (.tuple (ss.map PyData.int)),some (.int m),some (.list ((bH es.length ss).map PyData.int)),some (.int k)]=.ok (cM es (f7 es.length (bH es.length ss) k) k m):=fun k hk=>by
          have ha:=ph (es:=es) (ss:=bH es.length ss) (k:=k) (by omega) (by omega)
          have hkr:=(d6.mp hk).1
          have hb:=iQ (m:=m) l1 l6 hok (lg (iL es.length ss) (fun x hx=>(d6.mp hx).1) hk) hkr.1 hkr.2
          simp only [g5,a5,aI,aP,aw,ax,Rs.aj,ha,hb,b9]
        show aV (c7 cs bR bu bD [some (av es),some (.tuple (ss.map PyData.int)),some (.int m),none,none])=_
        simp only [c7]
        rw [aZ,s1]; simp only
        rw [aZ,fm,dE]
        rw [show dS (ag 3) [some (av es),some (.tuple (ss.map PyData.int)),some (.int m),some (.list ((bH es.length ss).map PyData.int)),none]=.ok ((bH es.length ss).map PyData.int) from rfl,aA]
        unfold ej
        rcases xy (bH es.length ss) none hc' with ⟨k,q,e⟩ | ⟨q,y4,e⟩
        · rw [e,q]; rfl
        · rw [e,q]; rfl
      · exact absurd rfl hne
    · exact absurd rfl hne
end RS
set_option maxRecDepth 100000
set_option maxHeartbeats 1000000
namespace RS
open PySem L2
noncomputable def wR (es:List Er) (m:Int):Nat→List Int→List Int
  | 0,ss=>ss
  | f + 1,ss=>match ej es ss m with
    | some k=>wR es m f (k::ss)
    | none=>ss
noncomputable def eN (es:List Er) (m:Int):List Int:=wR es m (es.length + 1) []
noncomputable def PP (n:Nat) (ss:List Int):Prop:=(bH n ss++ss).Perm (cy n)
theorem PP.nil (n:Nat):PP n []:=by
  unfold PP bH
  rw [List.append_nil,List.filter_eq_self.mpr fun a _=>by simp]
theorem PP.len {n:Nat} {ss:List Int} (h:PP n ss):(bH n ss).length + ss.length=n:=by
  have:=h.length_eq
  rwa [List.length_append,kv] at this
theorem PP.cons {n:Nat} {ss:List Int} (h:PP n ss) {k:Int} (hk:k∈bH n ss):PP n (k::ss):=by
  unfold PP at h ⊢
  have e1:bH n (k::ss)=(bH n ss).erase k:=by
    rw [(iL n ss).erase_eq_filter]
    unfold bH
    rw [List.filter_filter]
    refine List.filter_congr fun y _=>?_
    by_cases z:y=k
    · simp [z]
    · by_cases u:y∈ss <;> simp [z,u]
  rw [e1]
  refine List.Perm.trans ?_ h
  refine List.perm_middle.trans ?_
  exact List.Perm.append_right ss (List.perm_cons_erase hk).symm
theorem BX {es:List Er} {ss:List Int} {m k:Int} (h:ej es ss m=some k):k∈bH es.length ss:=List.mem_of_find?_eq_some h
theorem Au {es:List Er} {ss:List Int} {m k:Int} (h:ej es ss m=some k):cM es (f7 es.length (bH es.length ss) k) k m=true:=by
  have:=List.find?_some h
  exact this
theorem Bj {es:List Er} {ss:List Int} {m:Int} (h:ej es ss m=none):∀ k∈bH es.length ss,cM es (f7 es.length (bH es.length ss) k) k m=false:=fun k hk=>by
  have:=List.find?_eq_none.mp h k hk
  simpa using this
structure Pld (es:List Er) (m:Int) (ss:List Int):Prop where
  pp:PP es.length ss
  rm:∀ A k B,ss=A++k::B→cM es (f7 es.length (bH es.length B) k) k m=true
theorem Pld.nil (es:List Er) (m:Int):Pld es m []:=⟨PP.nil _,fun A k B h=>by simp at h⟩
theorem Pld.cons {es:List Er} {m k:Int} {ss:List Int} (h:Pld es m ss) (hk:ej es ss m=some k):Pld es m (k::ss):=⟨h.pp.cons (BX hk),fun A x B e=>by
  cases A with
  | nil=>cases e; exact Au hk
  | cons a A=>cases e; exact h.rm A x B rfl⟩
theorem As {es:List Er} {m:Int}:∀ (j:Nat) (ss:List Int),Pld es m ss→es.length + 1≤ss.length + j→Pld es m (wR es m j ss)∧ej es (wR es m j ss) m=none
  | 0,ss,h,hl=>by have:=h.pp.len; omega
  | j + 1,ss,h,hl=>by
    unfold wR
    cases q:ej es ss m with
    | none=>exact ⟨h,q⟩
    | some k=>exact As j (k::ss) (h.cons q) (by rw [List.length_cons]; omega)
theorem mi (es:List Er) (m:Int):Pld es m (eN es m)∧ej es (eN es m) m=none:=As _ _ (Pld.nil es m) (by simp)
theorem PP.lenle {n:Nat} {ss:List Int} (h:PP n ss):ss.length≤n:=by have:=h.len; omega
noncomputable abbrev uv:Ds→Rs Bool:=gT (g1 fZ (ag 3))
noncomputable abbrev wQ:Ds→Sr:=bo (bj [] 2 (g2 br (gN (af (ag 3) ar)) (ag 2)))
    (bj [] 3 (aE aN (af (ag 0) (af (ag 2) (af (ag 1) ar)))))
theorem yi {es:List Er} {m:Int} (l1:1≤es.length) (l6:es.length≤6) (hok:∀ e∈es,e.Wk):∀ (j fuel:Nat) (ss:List Int),Pld es m ss→es.length + 1≤ss.length + j→j < fuel →
    ∃ x3,c8 uv wQ fuel [some (av es),some (.int m),some (ao ss),some (bg (ej es ss m))]=.nx [some (av es),some (.int m),some (ao (wR es m j ss)),x3]
  | j,0,ss,_,_,hf=>absurd hf (Nat.not_lt_zero _)
  | 0,fuel + 1,ss,h,hl,hf=>by have:=h.pp.len; omega
  | j + 1,fuel + 1,ss,h,hl,hf=>by
    unfold c8 wR
    cases q:ej es ss m with
    | none =>
      refine ⟨some .none,?_⟩
      simp only [uv,bg,g5,sM,aw,ax,Rs.aj,AV,zO,Rs.aq,b9,aA,Bool.not_true,Bool.false_eq_true,if_false]
    | some k =>
      have hln:=h.pp.lenle
      obtain ⟨x3,e⟩:=yi l1 l6 hok j fuel (k::ss) (h.cons q) (by rw [List.length_cons]; omega) (by omega)
      refine ⟨x3,?_⟩
      have ha:br (.tuple [.int k]) (.tuple (ss.map PyData.int))=some (.tuple (.int k::ss.map PyData.int)):=zk (a:=[.int k]) (by rw [List.length_map]; show 1 + ss.length≤1000000; omega)
      have ei:PyData.tuple (.int k::ss.map PyData.int)=ao (k::ss):=rfl
      have hg:=dY (ss:=k::ss) (m:=m) l1 l6 hok
      have t1:bj [] 2 (g2 br (gN (af (ag 3) ar)) (ag 2)) [some (av es),some (.int m),some (ao ss),some (.int k)]=.nx [some (av es),some (.int m),some (ao (k::ss)),some (.int k)]:=by
        rw [cW,if_pos (by simp)]
        simp only [cu,kX,aI,aP,aw,ax,Rs.aj,ao,ha,Rs.aq,aA]
        rfl
      have t2:bj [] 3 (aE aN (af (ag 0) (af (ag 2) (af (ag 1) ar)))) [some (av es),some (.int m),some (ao (k::ss)),some (.int k)]=.nx [some (av es),some (.int m),some (ao (k::ss)),some (bg (ej es (k::ss) m))]:=by
        rw [cW,if_pos (by simp)]
        simp only [a5,aI,aP,aw,ax,Rs.aj,hg,aA]
        rfl
      have hb:wQ [some (av es),some (.int m),some (ao ss),some (.int k)]=.nx [some (av es),some (.int m),some (ao (k::ss)),some (bg (ej es (k::ss) m))]:=by
        unfold wQ
        rw [aZ,t1]; simp only
        rw [t2]
      have ht:uv [some (av es),some (.int m),some (ao ss),some (bg (some k))]=.ok true:=by
        simp only [uv,bg,g5,sM,aw,ax,Rs.aj,AV,zD,Rs.aq,b9,Bool.not_false]
      rw [ht,aA,if_pos rfl,show bg (some k)=PyData.int k from rfl,hb]
      exact e
noncomputable def aX:Gf
  | [d,.int m]=>if nv d then .ok (ao (eN (bN d) m)) else .no
  | _=>.no
theorem fq {es:List Er} {m:Int} (h1:1≤es.length) (h2:es.length≤6) (h:∀ e∈es,e.Wk):aX [av es,.int m]=.ok (ao (eN es m)):=by
  unfold aX
  simp only [k9 h1 h2 h,if_true,cx]
theorem lN (cs:Cs):∀ ds,ds.length=2→aX ds≠.no→aV (cV cs aN (ds.map some++List.replicate 2 none))=aX ds:=by
  intro ds hl hne
  obtain ⟨d,m,ez,hz⟩:=vV hne
  clear hne; subst ez; have hne:=hz; clear hz
  · skip
    split at hne
    · rename_i hc
      obtain ⟨e1,l1,l6,hok⟩:=qg hc
      rw [← e1]
      generalize bN d=es at *
      rw [fq l1 l6 hok]
      obtain ⟨x3,e⟩:=yi (m:=m) l1 l6 hok (es.length + 1) 1000000 [] (Pld.nil es m) (by simp) (by omega)
      have hg:=dY (ss:=[]) (m:=m) l1 l6 hok
      have s1:bj [] 2 (gN ar) [some (av es),some (.int m),none,none]=.nx [some (av es),some (.int m),some (ao []),none]:=rfl
      have s2:bj [] 3 (aE aN (af (ag 0) (af (ag 2) (af (ag 1) ar)))) [some (av es),some (.int m),some (ao []),none]=.nx [some (av es),some (.int m),some (ao []),some (bg (ej es [] m))]:=by
        rw [cW,if_pos (by simp)]
        simp only [a5,aI,aP,aw,ax,Rs.aj,hg,aA]
        rfl
      show aV (cV cs aN [some (av es),some (.int m),none,none])=_
      simp only [cV]
      rw [aZ,s1]; simp only
      rw [aZ,s2]; simp only
      rw [aZ]
      have e':c8 (gT (g1 fZ (ag 3))) (bo (bj [] 2 (g2 br (gN (af (ag 3) ar)) (ag 2))) (bj [] 3 (aE aN (af (ag 0) (af (ag 2) (af (ag 1) ar)))))) 1000000 [some (av es),some (.int m),some (ao []),some (bg (ej es [] m))]=_:=e
      rw [e']
      rfl
    · exact absurd rfl hne
noncomputable def rwR (es:List Er) (m:Int):Option (List Int):=if (eN es m).length=es.length then some (eN es m) else none
noncomputable def sI:Option (List Int)→PyData
  | none=>.none
  | some rs=>ao rs
noncomputable def a7:Gf
  | [d,.int m]=>if nv d then .ok (sI (rwR (bN d) m)) else .no
  | _=>.no
theorem gm {es:List Er} {m:Int} (h1:1≤es.length) (h2:es.length≤6) (h:∀ e∈es,e.Wk):a7 [av es,.int m]=.ok (sI (rwR es m)):=by
  unfold a7
  simp only [k9 h1 h2 h,if_true,cx]
theorem mZ (cs:Cs):∀ ds,ds.length=2→a7 ds≠.no→aV (dg cs aX (ds.map some++List.replicate 1 none))=a7 ds:=by
  intro ds hl hne
  obtain ⟨d,m,ez,hz⟩:=vV hne
  clear hne; subst ez; have hne:=hz; clear hz
  · skip
    split at hne
    · rename_i hc
      obtain ⟨e1,l1,l6,hok⟩:=qg hc
      rw [← e1]
      generalize bN d=es at *
      rw [gm l1 l6 hok]
      have hg:=fq (m:=m) l1 l6 hok
      have ll:∀ rs:List Int,eR [ao rs]=some (.int (rs.length:Int)):=fun rs=>by unfold ao; rw [sY,List.length_map]
      have s1:bj [] 2 (aE aX (af (ag 0) (af (ag 1) ar))) [some (av es),some (.int m),none]=.nx [some (av es),some (.int m),some (ao (eN es m))]:=by
        rw [cW,if_pos (by simp)]
        simp only [a5,aI,aP,aw,ax,Rs.aj,hg,aA]
        rfl
      show aV (dg cs aX [some (av es),some (.int m),none])=_
      simp only [dg]
      rw [aZ,s1]; simp only
      unfold rwR
      by_cases z:(eN es m).length=es.length
      · rw [if_pos z]
        have q:(((eN es m).length:Int) == (es.length:Int))=true:=by simp [z]
        simp only [cG,gIf,g5,cu,jH,aI,aP,aw,ax,Rs.aj,ll,BW,Rs.aq,nO,q,b9,if_true,aA,bQ]
        rfl
      · rw [if_neg z]
        have q:(((eN es m).length:Int) == (es.length:Int))=false:=by
          have:¬ (((eN es m).length:Int)=(es.length:Int)):=by omega
          simpa using this
        simp only [cG,gIf,g5,cu,jH,aI,aP,aw,ax,dz,Rs.aj,ll,BW,Rs.aq,nO,q,b9,Bool.false_eq_true,if_false,aA,bQ]
        rfl
    · exact absurd rfl hne
noncomputable def lL (es:List Er) (rs:List Int) (m:Int):Bool:=rs.all fun n=>cM es rs n m
theorem ve (es:List Er) (rs:List Int):lL es rs 0=iF es rs:=by
  unfold lL iF
  simp only [vq]
theorem xr {es:List Er} {rs ot:List Int} {n m:Int} (h:bW es rs n=bW es ot n):cM es rs n m=cM es ot n m:=by
  unfold cM; rw [h]
theorem rA {es:List Er} {rs ot:List Int} {n m:Int} (h:uW (bW es ot n) (bW es rs n)) (hr:cM es rs n m=true):cM es ot n m=true:=by
  unfold cM at hr ⊢
  cases q:bW es rs n with
  | none=>rw [q] at hr; cases hr
  | some t =>
    rw [q] at hr
    obtain ⟨u,hu,hle⟩:=h t q
    rw [hu]
    have:=of_decide_eq_true hr
    exact decide_eq_true (by omega)
theorem vz {es:List Er} {m:Int} {rs:List Int} (h:Pld es m rs) (hl:rs.length=es.length):bz es.length rs∧lL es rs m=true:=by
  have hp:=h.pp
  have h0:bH es.length rs=[]:=List.eq_nil_of_length_eq_zero (by have:=hp.len; omega)
  have hr:bz es.length rs:=by
    rw [← qm]
    unfold PP at hp
    rw [h0] at hp
    exact hp
  refine ⟨hr,?_⟩
  unfold lL
  rw [List.all_eq_true]
  intro k hk
  have hkr:=hr.rng k hk
  have hs:=lq hk
  have hm:=h.rm _ _ _ hs
  generalize hB:rs.drop (placeOf rs k + 1)=B at *
  generalize hA:rs.take (placeOf rs k)=A at *
  have nd:=hr.nd
  rw [hs] at nd
  have ndA:=(List.nodup_append.mp nd)
  have hkB:k ∉ B:=(List.nodup_cons.mp ndA.2.1).1
  have hkA:k ∉ A:=fun z=>ndA.2.2 k z k List.mem_cons_self rfl
  have hkn:k∈bH es.length B:=d6.mpr ⟨hkr,hkB⟩
  have ho:=lg (n:=es.length) (iL es.length B) (fun x hx=>(d6.mp hx).1) hkn
  have hsa:=xq hr ho hkr.1 hkr.2 (by
    rw [qM,hA]
    refine (List.perm_ext_iff_of_nodup ndA.1 ((iL es.length B).filter _)).mpr fun a=>?_
    rw [List.mem_filter,d6]
    constructor
    · intro ha
      have har:a∈rs:=by rw [hs]; exact List.mem_append_left _ ha
      refine ⟨⟨hr.rng a har,fun z=>ndA.2.2 a ha a (List.mem_cons_of_mem _ z) rfl⟩,?_⟩
      refine decide_eq_true fun e=>hkA (e ▸ ha)
    · rintro ⟨⟨har,hb⟩,hne⟩
      have hne':=of_decide_eq_true hne
      have ham:a∈rs:=hr.mem har.1 har.2
      rw [hs] at ham
      rcases List.mem_append.mp ham with z | z
      · exact z
      · rcases List.mem_cons.mp z with z | z
        · exact absurd z hne'
        · exact absurd z hb)
  rw [xr hsa.2.2]
  exact hm
theorem yC {es:List Er} {m:Int} {ss rs:List Int} (hsh:∀ e∈es,e.Sh) (hl:∀ e∈es,0≤e.late) (h:∀ k∈bH es.length ss,cM es (f7 es.length (bH es.length ss) k) k m=false) (hr:bz es.length rs) {k:Int} (hk:(rs.filter fun n=>decide (n∈bH es.length ss)).getLast?=some k):cM es rs k m=false:=by
  have hkm:=List.mem_filter.mp (List.mem_of_getLast? hk)
  have hkn:k∈bH es.length ss:=of_decide_eq_true hkm.2
  have hkr:=hr.rng k hkm.1
  cases q:cM es rs k m with
  | false=>rfl
  | true =>
    exfalso
    have ho:=lg (n:=es.length) (iL es.length ss) (fun x hx=>(d6.mp hx).1) hkn
    have hs:=lq hkm.1
    generalize hB:rs.drop (placeOf rs k + 1)=B at *
    generalize hA:rs.take (placeOf rs k)=A at *
    have nd:=hr.nd
    rw [hs] at nd
    have ndA:=(List.nodup_append.mp nd)
    have hkA:k ∉ A:=fun z=>ndA.2.2 k z k List.mem_cons_self rfl
    have hkB:k ∉ B:=(List.nodup_cons.mp ndA.2.1).1
    have hnB:∀ x∈B,x ∉ bH es.length ss:=by
      rw [hs,List.filter_append,List.filter_cons_of_pos (by simpa using hkn)] at hk
      intro x hx hxn
      have hxf:x∈B.filter fun n=>decide (n∈bH es.length ss):=List.mem_filter.mpr ⟨hx,decide_eq_true hxn⟩
      have hsub:∀ y∈B.filter (fun n=>decide (n∈bH es.length ss)),y∈B:=fun y hy=>(List.mem_filter.mp hy).1
      generalize (B.filter fun n=>decide (n∈bH es.length ss))=C at *
      cases C with
      | nil=>cases hxf
      | cons c C =>
        rw [List.getLast?_append] at hk
        have hne:(k::c::C).getLast?=(c::C).getLast?:=by simp
        rw [hne] at hk
        obtain ⟨z,hz⟩:∃ z,(c::C).getLast?=some z:=by
          cases w:(c::C).getLast? with
          | none=>simp at w
          | some z=>exact ⟨z,rfl⟩
        rw [hz] at hk
        simp at hk
        subst hk
        exact hkB (hsub _ (List.mem_of_getLast? hz))
    have hf:=rp (X:=A.filter fun x=>!decide (x∈bH es.length ss)) hsh hl hr ho hkr.1 hkr.2 (by
      rw [qM,hA]
      have p1:A.Perm ((A.filter fun x=>decide (x∈bH es.length ss))++A.filter fun x=>!decide (x∈bH es.length ss)):=(List.filter_append_perm _ A).symm
      refine p1.trans (List.Perm.append_right _ ?_)
      refine (List.perm_ext_iff_of_nodup (ndA.1.filter _) ((iL es.length ss).filter _)).mpr fun a=>?_
      rw [List.mem_filter,List.mem_filter]
      constructor
      · rintro ⟨ha,hn⟩
        exact ⟨of_decide_eq_true hn,decide_eq_true fun e=>hkA (e ▸ ha)⟩
      · rintro ⟨hn,hne⟩
        have hne':=of_decide_eq_true hne
        have har:=(d6.mp hn).1
        have ham:a∈rs:=hr.mem har.1 har.2
        rw [hs] at ham
        rcases List.mem_append.mp ham with z | z
        · exact ⟨z,decide_eq_true hn⟩
        · rcases List.mem_cons.mp z with z | z
          · exact absurd z hne'
          · exact absurd hn (hnB a z))
    have:=rA hf q
    rw [h k hkn] at this
    cases this
end RS
set_option maxRecDepth 100000
set_option maxHeartbeats 1000000
namespace RS
open PySem L2
theorem C5 {cs:Cs} {d:PyData} (hd:bZ d=true) (hc:¬ cI d=true):ba cs [d]=.rz cs.NoErrands:=by unfold ba; simp [hd,hc]
noncomputable def bb (cs:Cs):Gf
  | [d]=>if bZ d then (if cI d then .ok (sI (rwR (bN d) 0)) else .rz cs.NoErrands) else .no
  | _=>.no
theorem l8 {es:List Er} (cs:Cs) (h1:1≤es.length) (h2:es.length≤6) (h:∀ e∈es,e.Ok):bb cs [av es]=.ok (sI (rwR es 0)):=by
  unfold bb; simp only [su,hV h1 h2 h,if_true,cx]
theorem yA (cs:Cs):∀ ds,ds.length=1→bb cs ds≠.no→aV (gA cs a7 (ba cs) (ds.map some++List.replicate 0 none))=bb cs ds:=by
  intro ds hl hne
  obtain ⟨d,ez,hz⟩:=CJ hne
  clear hne; subst ez; have hne:=hz; clear hz
  · skip
    split at hne
    · rename_i hd
      split at hne
      · rename_i hc
        obtain ⟨e1,l1,l6,hok⟩:=mR hc
        rw [← e1]
        generalize bN d=es at *
        rw [l8 cs l1 l6 hok]
        have h1:=lV cs l1 l6 hok
        have h2:=gm (m:=0) l1 l6 (fun e he=>(hok e he).wk)
        show aV (gA cs a7 (ba cs) [some (av es)])=_
        simp only [gA,aZ,yj,a5,aI,aP,aw,dz,Rs.aj,h1,aA,cG,h2,bQ]
      · rename_i hc
        have h1:=C5 (cs:=cs) hd hc
        have h2:bb cs [d]=.rz cs.NoErrands:=by unfold bb; simp [hd,hc]
        rw [h2]
        show aV (gA cs a7 (ba cs) [some d])=_
        simp [gA,h1]
    · exact absurd rfl hne
theorem zw {n:Nat} {ss rs:List Int} (hr:bz n rs) (hne:bH n ss≠[]):∃ k,(rs.filter fun x=>decide (x∈bH n ss)).getLast?=some k:=by
  cases q:(rs.filter fun x=>decide (x∈bH n ss)).getLast? with
  | some k=>exact ⟨k,rfl⟩
  | none =>
    exfalso
    have e:=List.getLast?_eq_none_iff.mp q
    obtain ⟨s,hs⟩:=List.exists_mem_of_ne_nil _ hne
    have h2:=(d6.mp hs).1
    exact List.filter_eq_nil_iff.mp e s (hr.mem h2.1 h2.2) (decide_eq_true hs)
theorem Dc {α:Type} {p:α→Bool} {l:List α} {a:α} (ha:a∈l) (h:p a=false):l.all p=false:=by
  cases q:l.all p with
  | false=>rfl
  | true=>rw [List.all_eq_true] at q; rw [q a ha] at h; cases h
theorem zV {es:List Er} {m:Int} {rs:List Int} (h:rwR es m=some rs):bz es.length rs∧lL es rs m=true:=by
  unfold rwR at h
  split at h
  · rename_i z
    cases h
    exact vz (mi es m).1 z
  · cases h
theorem B0 {es:List Er} {m:Int} (z:¬ (eN es m).length=es.length):bH es.length (eN es m)≠[]:=fun e=>z (by
  have:=(mi es m).1.pp.len
  rw [e] at this
  simpa using this)
theorem AS {es:List Er} {m:Int} (hsh:∀ e∈es,e.Sh) (hl:∀ e∈es,0≤e.late) (h:rwR es m=none) {rs:List Int} (hr:bz es.length rs):lL es rs m=false:=by
  unfold rwR at h
  split at h
  · cases h
  · rename_i z
    obtain ⟨k,hk⟩:=zw hr (B0 z)
    have hkm:=(List.mem_filter.mp (List.mem_of_getLast? hk)).1
    exact Dc hkm (yC hsh hl (Bj (mi es m).2) hr hk)
theorem C3 (cs:Cs):BQ (bb cs):=⟨fun es l1 l6 hok=>by
  rw [l8 cs l1 l6 hok]
  cases q:rwR es 0 with
  | some rs =>
    obtain ⟨hr,ha⟩:=zV q
    exact .inl ⟨rs,rfl,hr,by rw [← ve]; exact ha⟩
  | none=>exact .inr ⟨rfl,fun rs hr=>by rw [← ve]; exact AS (fun e he=>(hok e he).sh) (fun e he=>(hok e he).l1) q hr⟩⟩
end RS
set_option maxRecDepth 100000
set_option maxHeartbeats 1000000
namespace RS
open PySem L2
noncomputable def bV:Gf
  | [d,r]=>if nv d && cE (bN d).length r then .ok (.bool (iF (bN d) (bK r))) else .no
  | _=>.no
theorem kh {es:List Er} {rs:List Int} (h1:1≤es.length) (h2:es.length≤6) (h:∀ e∈es,e.Wk) (hr:bz es.length rs):bV [av es,ao rs]=.ok (.bool (iF es rs)):=by
  unfold bV
  simp only [k9 h1 h2 h,cx,cN hr,Bool.and_self,if_true,cq]
theorem Be (cs:Cs):∀ ds,ds.length=2→bV ds≠.no→aV (k6 cs bY (ds.map some++List.replicate 0 none))=bV ds:=by
  intro ds hl hne
  obtain ⟨d,r,ez,hz⟩:=v7 hne
  clear hne; subst ez; have hne:=hz; clear hz
  · skip
    split at hne
    · rename_i hc
      simp only [Bool.and_eq_true] at hc
      obtain ⟨c1,c2⟩:=hc
      obtain ⟨e1,l1,l6,hok⟩:=qg c1
      obtain ⟨e2,hr⟩:=eu c2
      rw [← e1,← e2]
      generalize bN d=es at *
      generalize bK r=rs at *
      rw [kh l1 l6 hok hr]
      have hrl:=hr.len
      have hcm:cw 2 (dS (ag 1)) cY (aE bY (af (ag 0) (af (ag 1) (af (ag 2) ar)))) bT [some (av es),some (ao rs)]=.ok ((rs.map PyData.int).map fun d=>.bool (ec es rs (deI d))) :=
        eL rfl rfl (by rw [List.length_map]; omega) fun x hx=>by
          obtain ⟨n,hn,rfl⟩:=List.mem_map.mp hx
          have hrg:=hr.rng n hn
          have hg:=jE (n:=n) l1 l6 hok hr hrg.1 hrg.2
          simp only [List.cons_append,List.nil_append,a5,aI,aP,aw,ax,Rs.aj,hg]
          rfl
      have em:((rs.map PyData.int).map fun d=>PyData.bool (ec es rs (deI d)))=(rs.map fun n=>ec es rs n).map PyData.bool:=by
        rw [List.map_map,List.map_map]; exact List.map_congr_left fun n _=>rfl
      rw [em] at hcm
      have hf:sW [.list ((rs.map fun n=>ec es rs n).map PyData.bool)]=some (.bool (iF es rs)):=by
        show (ib _).map _=_
        rw [mM]
        simp only [Option.map_some,List.all_map]
        rfl
      show aV (k6 cs bY [some (av es),some (ao rs)])=_
      simp only [k6,cG,jH,aI,aP,uj,hcm,Rs.aj,hf,Rs.aq,aA,bQ]
    · exact absurd rfl hne
noncomputable def bB:Gf
  | [.tuple xs,.int a,e]=>if 0≤a∧a < xs.length∧xs.length≤1000 then .ok (.tuple (xs.take a.toNat++e::xs.drop (a.toNat + 1))) else .no
  | _=>.no
theorem iW {xs:List PyData} {k:Nat} {e:PyData} (h:k < xs.length) (h2:xs.length≤1000):bB [.tuple xs,.int (k:Int),e]=.ok (.tuple (xs.take k++e::xs.drop (k + 1))):=by
  unfold bB
  simp only
  rw [if_pos (by omega),Int.toNat_natCast]
theorem Cq {f:List PyData→Int→PyData→Rs PyData} {ds:List PyData} (h:(match ds with | [.tuple x0,.int x1,x2]=>f x0 x1 x2 | _=>.no)≠.no):∃ x0 x1 x2,ds=[.tuple x0,.int x1,x2]∧f x0 x1 x2≠.no:=by
  rcases ds with _ | ⟨x0,_ | ⟨x1,_ | ⟨x2,_ | ⟨y,ys⟩⟩⟩⟩
  · exact absurd rfl h
  · first | exact absurd rfl h | (cases x0 <;> exact absurd rfl h)
  · first | exact absurd rfl h | (cases x0 <;> first | exact absurd rfl h | (cases x1 <;> exact absurd rfl h))
  · skip
    cases x0 with
    | tuple x0 =>
      cases x1 with
      | int x1 =>
        exact ⟨_,_,_,rfl,h⟩
      | _=>exact absurd rfl h
    | _=>first | exact absurd rfl h | (cases x1 <;> exact absurd rfl h)
  · first | exact absurd rfl h | (cases x0 <;> first | exact absurd rfl h | (cases x1 <;> exact absurd rfl h))
theorem qX (cs:Cs):∀ ds,ds.length=3→bB ds≠.no→aV (fb cs (ds.map some++List.replicate 0 none))=bB ds:=by
  intro ds hl hne
  obtain ⟨xs,a,e,ez,hz⟩:=Cq hne
  clear hne; subst ez; have hne:=hz; clear hz
  · skip
    split at hne
    · rename_i hc
      obtain ⟨k,rfl⟩:∃ k:Nat,a=(k:Int):=⟨a.toNat,by omega⟩
      rw [iW (by omega) hc.2.2]
      have c1:cutD xs none (some (k:Int))=xs.take k:=tQ
      have c2:cutD xs (some ((k:Int) + 1)) none=xs.drop (k + 1):=by rw [show ((k:Int) + 1)=((k + 1:Nat):Int) by omega,kG]
      have a1:br (.tuple (xs.take k)) (.tuple [e])=some (.tuple (xs.take k++[e])):=zk (by simp; omega)
      have a2:br (.tuple (xs.take k++[e])) (.tuple (xs.drop (k + 1)))=some (.tuple (xs.take k++[e]++xs.drop (k + 1))):=zk (by simp; omega)
      show aV (fb cs [some (.tuple xs),some (.int (k:Int)),some e])=_
      simp only [fb,cG,cu,iw,gz,ki,kX,aI,aP,dz,aw,ax,Rs.aj,jX,mD,c1,c2,c9,Rs.aq,a1,a2,aA,bQ,List.append_assoc,List.cons_append,List.nil_append]
    · exact absurd rfl hne
theorem pS {es:List Er} {n:Int} {e:Er} (n0:0≤n) (n1:n < es.length) (h2:es.length≤6):bB [av es,.int n,e.d]=.ok (av (es.set n.toNat e)):=by
  obtain ⟨k,rfl⟩:∃ k:Nat,n=(k:Int):=⟨n.toNat,by omega⟩
  rw [Int.toNat_natCast]
  unfold av
  rw [iW (by rw [List.length_map]; omega) (by rw [List.length_map]; omega),mU es k e (by omega),List.map_append,List.map_cons,List.map_take,List.map_drop]
theorem xW {E R N:PyData} {test:Ds→Rs Bool} {f:Int→Bool} {B:Int} (ht:∀ t,0≤t→t≤B→test [some E,some R,some N,some (.int t)]=.ok (f (t + 1))) (hB:f (B + 1)=false):∀ (j fuel:Nat) (t:Int),0≤t→t≤B→B - t≤j→j < fuel →
    ∃ a,t≤a∧a≤B∧c8 test (tE [] 3 (gC (.int 1))) fuel [some E,some R,some N,some (.int t)]=.nx [some E,some R,some N,some (.int a)]∧f (a + 1)=false∧∀ s,t < s→s≤a→f s=true
  | j,0,t,_,_,_,hf=>absurd hf (Nat.not_lt_zero _)
  | 0,fuel + 1,t,t0,t1,hj,hf=>by
    have e:t=B:=by omega
    refine ⟨t,by omega,t1,?_,by rw [e]; exact hB,fun s a b=>by omega⟩
    unfold c8
    rw [ht t t0 t1,e,hB,aA,if_neg (by decide)]
  | j + 1,fuel + 1,t,t0,t1,hj,hf=>by
    unfold c8
    rw [ht t t0 t1]
    cases q:f (t + 1) with
    | false =>
      refine ⟨t,by omega,t1,?_,q,fun s a b=>by omega⟩
      rw [aA,if_neg (by decide)]
    | true =>
      have hlt:t < B:=by
        rcases Int.lt_or_eq_of_le t1 with z | z
        · exact z
        · rw [z,hB] at q; cases q
      obtain ⟨a,h1,h2,h3,h4,h5⟩:=xW ht hB j fuel (t + 1) (by omega) (by omega) (by omega) (by omega)
      refine ⟨a,by omega,h2,?_,h4,fun s z u=>?_⟩
      · rw [aA,if_pos rfl,yl (a:=t) (b:=1) rfl rfl]
        exact h3
      · by_cases w:s=t + 1
        · rw [w]; exact q
        · exact h5 s (by omega) u
end RS
namespace RS
open PySem L2
noncomputable def qi (cs:Cs) (cL aW ak bb bI a9:Gf):Ds→Sr :=
  (bo (bj [] 1 (aE a9 (af (ag 0) (af (gC (.int 8)) (af (gC (.int 4)) (af (gC (.int 18)) (af (gC (.bool true)) ar)))))))
    (bo (bj [] 2 (aE bI (af (ag 0) (af (gC (.int 0)) (af (gF eR (af (ag 1) ar)) ar)))))
    (bo (sIf (nW (gT (g2 dGt (aE ak (af (ag 0) (af (gC (.int 6)) (af (gC (.int 4)) ar)))) (gC (.int 0)))) (gT (g1 fZ (aE bb (af (ag 1) ar))))) (bj [] 2 (aE bb (af (ag 1) ar))) b5)
    (bo (iT [] (e8 (af (gF eR (af (ag 1) ar)) ar)) (b7 3) (bo (qY [] (dA [4,5,6,7]) (g2 dIx (ag 1) (ag 3)))
    (bo (bj [] 8 (gC .none))
    (bo (iT [] (e8 (af (ag 4) ar)) (b7 9) (bo (bj [] 10 (gN (af (g2 eW (ag 4) (ag 9)) (af (ag 5) (af (ag 6) (af (ag 7) ar))))))
    (bo (bj [] 11 (g2 br (g2 br (da (ag 1) cB (eU (ag 3))) (gN (af (ag 10) ar))) (da (ag 1) (eU (g2 br (ag 3) (gC (.int 1)))) cB)))
    (sIf (nW (gT (g2 dGe (g2 eW (ag 4) (ag 9)) (gF lY (af (gC (.int 2)) (af (g2 br (ag 5) (ag 6)) ar))))) (gT (aE aW (af (ag 11) (af (ag 2) ar))))) (sIf (cOr (nW (gT (g1 vA (ag 8))) (gT (g2 dEq (ag 9) (gC (.int 0))))) (gT (g2 dEq (ag 8) (g2 eW (ag 9) (gC (.int 1)))))) (bj [] 8 (ag 9)) b5) b5))))
    (sIf (gT (g2 dNe (aE cL (af (ag 1) (af (ag 2) (af (ag 3) ar)))) (ag 8))) (b6 (gC (.bool false))) b5)))))
    (b6 (gC (.bool true)))))))
end RS
set_option maxRecDepth 100000
set_option maxHeartbeats 1000000
namespace RS
open PySem L2
noncomputable def c5 (e:Er) (m:Int):Er:={ e with every:=e.every - m }
noncomputable def eX (es:List Er) (rs:List Int) (n m:Int):Bool:=decide ((aF es n).every - m ≥ max 2 ((aF es n).due + (aF es n).late)) && iF (es.set n.toNat (c5 (aF es n) m)) rs
noncomputable def d4 (es:List Er) (rs:List Int) (n:Int) (most:Option Int) (m:Int):Option Int:=if eX es rs n m && ((decide (most=none) && decide (m=0)) || decide (most=some (m - 1))) then some m else most
noncomputable def mE (es:List Er) (rs:List Int) (n:Int):Option Int:=(cy (aF es n).every.toNat).foldl (d4 es rs n) none
structure Bc (gf:Gf):Prop where
  of:∀ (es:List Er) (rs:List Int) (n:Int),1≤es.length→es.length≤6→(∀ e∈es,e.Ok)→bz es.length rs→0≤n→n < es.length→gf [av es,ao rs,.int n]=.ok (bg (mE es rs n))
theorem mh (o:Option Int) (x:Int):dEq (bg o) (.int x)=some (.bool (decide (o=some x))):=by
  cases o with
  | none =>
    have h:PySem.SeqAt.shaped .none=true:=by simp [PySem.SeqAt.shaped,PyData.canLay0,PyData.depth]
    have h2:PySem.SeqAt.shaped (.int x)=true:=by simp [PySem.SeqAt.shaped,PyData.canLay0,PyData.depth]
    show dEq .none (.int x)=_
    unfold dEq
    rw [h,h2]
    simp [bZ,PyData.eqv]
  | some y =>
    show dEq (.int y) (.int x)=_
    rw [nO]
    by_cases z:y=x <;> simp [z]
theorem ke (o:Option Int):fD (bg o)=decide (o=none):=by cases o <;> rfl
theorem zJ {bb:Gf} (F:BQ bb) {ns:List Int} {es:List Er} {rs:List Int} (l1:1≤es.length) (l4:es.length≤4) (hok:∀ e∈es,e.Ok) (hr:bz es.length rs) (more:Nat) :
    ∃ rs',bz es.length rs'∧sIf (nW (gT (g2 dGt (aE ak (af (ag 0) (af (gC (.int 6)) (af (gC (.int 4)) ar)))) (gC (.int 0)))) (gT (g1 fZ (aE bb (af (ag 1) ar))))) (bj [] 2 (aE bb (af (ag 1) ar))) b5 (some (aC ns)::some (av es)::some (ao rs)::List.replicate more none)
     =.nx (some (aC ns)::some (av es)::some (ao rs')::List.replicate more none):=by
  have hm:=de (ns:=ns) (k:=6) (many:=4) (by decide) (by decide)
  have hin:∀ r:List Int,fD (ao r)=false:=fun _=>rfl
  rcases F.of es l1 (by omega) hok with ⟨r1,hf,hr1,_⟩ | ⟨hf,_⟩
  · by_cases z:0 < mixed ns 6 4
    · refine ⟨r1,hr1,?_⟩
      simp [hm,z,hf,hin]
    · refine ⟨rs,hr,?_⟩
      simp [hm,z]
  · refine ⟨rs,hr,?_⟩
    by_cases z:0 < mixed ns 6 4
    · simp [hm,z,hf]
    · simp [hm,z]
noncomputable abbrev tR:Ds→Sr:=bo (bj [] 10 (gN (af (g2 eW (ag 4) (ag 9)) (af (ag 5) (af (ag 6) (af (ag 7) ar))))))
    (bo (bj [] 11 (g2 br (g2 br (da (ag 1) cB (eU (ag 3))) (gN (af (ag 10) ar))) (da (ag 1) (eU (g2 br (ag 3) (gC (.int 1)))) cB)))
    (sIf (nW (gT (g2 dGe (g2 eW (ag 4) (ag 9)) (gF lY (af (gC (.int 2)) (af (g2 br (ag 5) (ag 6)) ar))))) (gT (aE aW (af (ag 11) (af (ag 2) ar))))) (sIf (cOr (nW (gT (g1 vA (ag 8))) (gT (g2 dEq (ag 9) (gC (.int 0))))) (gT (g2 dEq (ag 8) (g2 eW (ag 9) (gC (.int 1)))))) (bj [] 8 (ag 9)) b5) b5))
theorem BL {es:List Er} {rs:List Int} {n:Int} (S:PyData) (l1:1≤es.length) (l4:es.length≤4) (hok:∀ e∈es,e.Ok) (hr:bz es.length rs) (n0:0≤n) (n1:n < es.length) (most:Option Int) (m:Int) (m0:0≤m) (x10 x11:Option PyData) :
    ∃ y10 y11,tR [some S,some (av es),some (ao rs),some (.int n),some (.int (aF es n).every),some (.int (aF es n).due),some (.int (aF es n).late),some (.tuple ((aF es n).parts.map aU)),some (bg most),some (.int m),x10,x11]
     =.nx [some S,some (av es),some (ao rs),some (.int n),some (.int (aF es n).every),some (.int (aF es n).due),some (.int (aF es n).late),some (.tuple ((aF es n).parts.map aU)),some (bg (d4 es rs n most m)),some (.int m),y10,y11]:=by
  have hsh:∀ e∈es,e.Sh:=fun e he=>(hok e he).sh
  have hoe:=hok _ (cc n0 n1)
  have hos:=hoe.sh
  unfold d4 eX
  generalize hE:aF es n=e at *
  have t1:bj [] 10 (gN (af (g2 eW (ag 4) (ag 9)) (af (ag 5) (af (ag 6) (af (ag 7) ar))))) [some S,some (av es),some (ao rs),some (.int n),some (.int e.every),some (.int e.due),some (.int e.late),some (.tuple (e.parts.map aU)),some (bg most),some (.int m),x10,x11]
     =.nx [some S,some (av es),some (ao rs),some (.int n),some (.int e.every),some (.int e.due),some (.int e.late),some (.tuple (e.parts.map aU)),some (bg most),some (.int m),some (c5 e m).d,x11]:=by
    rw [cW,if_pos (by simp)]
    simp only [kX,aI,aP,cu,aw,ax,Rs.aj,g0,Rs.aq,aA]
    rfl
  have hput:=DA (e:=c5 e m) n0 n1 (by omega) (δ:=[some S,some (av es),some (ao rs),some (.int n),some (.int e.every),some (.int e.due),some (.int e.late),some (.tuple (e.parts.map aU)),some (bg most),some (.int m),some (c5 e m).d,x11]) (gd:=ag 1) (gn:=ag 3) (ge:=ag 10) rfl rfl rfl
  have t2:bj [] 11 (g2 br (g2 br (da (ag 1) cB (eU (ag 3))) (gN (af (ag 10) ar))) (da (ag 1) (eU (g2 br (ag 3) (gC (.int 1)))) cB)) [some S,some (av es),some (ao rs),some (.int n),some (.int e.every),some (.int e.due),some (.int e.late),some (.tuple (e.parts.map aU)),some (bg most),some (.int m),some (c5 e m).d,x11]
     =.nx [some S,some (av es),some (ao rs),some (.int n),some (.int e.every),some (.int e.due),some (.int e.late),some (.tuple (e.parts.map aU)),some (bg most),some (.int m),some (c5 e m).d,some (av (es.set n.toNat (c5 e m)))]:=by
    rw [cW,if_pos (by simp),hput,aA]
    rfl
  have hmx:lY [.int 2,.int (e.due + e.late)]=some (.int (if e.due + e.late > 2 then e.due + e.late else 2)):=rfl
  have hmx2:(if e.due + e.late > 2 then e.due + e.late else 2)=max 2 (e.due + e.late):=by split <;> omega
  rw [hmx2] at hmx
  refine ⟨some (c5 e m).d,some (av (es.set n.toNat (c5 e m))),?_⟩
  unfold tR
  rw [aZ,t1]; simp only
  rw [aZ,t2]; simp only
  by_cases z:e.every - m ≥ max 2 (e.due + e.late)
  · have hfs:(c5 e m).Sh:=by
      refine ⟨by show 1≤e.every - m; omega,by show e.every - m < 1073741824; have:=hos.e2; omega,hos.l1,hos.l2,hos.pn,hos.pl⟩
    have hal:=gj (es:=es.set n.toNat (c5 e m)) (rs:=rs) (by rw [List.length_set]; omega) (D6 hsh hfs) (by rw [List.length_set]; exact hr)
    have hz:decide (max 2 (e.due + e.late)≤e.every - m)=true:=decide_eq_true z
    have hz':decide (e.every - m ≥ max 2 (e.due + e.late))=true:=decide_eq_true z
    rw [hz',Bool.true_and]
    generalize iF (es.set n.toNat (c5 e m)) rs=A at *
    cases A with
    | false=>simp only [gZ,oO,g5,cu,jH,a5,dz,aI,aP,aw,ax,Rs.aj,g0,c9,hmx,yK,hz,hal,Rs.aq,b9,aA,Bool.false_eq_true,if_false,if_true,hU,Bool.false_and]
    | true =>
      rw [Bool.true_and]
      have hm0:(m == 0)=decide (m=0):=by by_cases q:m=0 <;> simp [q]
      by_cases q1:most=none
      · by_cases q2:m=0
        · simp only [gZ,oO,xF,g5,sM,cu,jH,a5,dz,aI,aP,aw,ax,Rs.aj,g0,c9,hmx,yK,hz,hal,yk,ke,decide_eq_true q1,nO,hm0,decide_eq_true q2,Rs.aq,b9,aA,Bool.and_self,Bool.true_or,if_true,cW]
          rfl
        · have q3:¬ most=some (m - 1):=by rw [q1]; intro q; cases q
          simp only [gZ,oO,xF,g5,sM,cu,jH,a5,dz,aI,aP,aw,ax,Rs.aj,g0,c9,hmx,yK,hz,hal,yk,ke,decide_eq_true q1,nO,hm0,decide_eq_false q2,mh,decide_eq_false q3,Rs.aq,b9,aA,Bool.and_false,Bool.or_self,Bool.false_eq_true,if_false,if_true,hU]
      · by_cases q3:most=some (m - 1)
        · simp only [gZ,oO,xF,g5,sM,cu,jH,a5,dz,aI,aP,aw,ax,Rs.aj,g0,c9,hmx,yK,hz,hal,yk,ke,decide_eq_false q1,mh,decide_eq_true q3,Rs.aq,b9,aA,Bool.false_and,Bool.or_true,Bool.false_eq_true,if_false,if_true,cW]
          rfl
        · simp only [gZ,oO,xF,g5,sM,cu,jH,a5,dz,aI,aP,aw,ax,Rs.aj,g0,c9,hmx,yK,hz,hal,yk,ke,decide_eq_false q1,mh,decide_eq_false q3,Rs.aq,b9,aA,Bool.false_and,Bool.or_self,Bool.false_eq_true,if_false,if_true,hU]
  · have hz:decide (max 2 (e.due + e.late)≤e.every - m)=false:=decide_eq_false z
    have hz':decide (e.every - m ≥ max 2 (e.due + e.late))=false:=decide_eq_false z
    rw [hz',Bool.false_and,Bool.false_and]
    simp only [gZ,oO,g5,cu,jH,dz,aI,aP,aw,ax,Rs.aj,g0,c9,hmx,yK,hz,Rs.aq,b9,aA,Bool.false_eq_true,if_false,hU]
theorem xQ {es:List Er} {rs:List Int} {n:Int} (S:PyData) (l1:1≤es.length) (l4:es.length≤4) (hok:∀ e∈es,e.Ok) (hr:bz es.length rs) (n0:0≤n) (n1:n < es.length):∀ (ms:List Int) (most:Option Int) (x9 x10 x11:Option PyData),(∀ m∈ms,0≤m) →
    ∃ y9 y10 y11,forL (b7 9) tR (ms.map PyData.int) [some S,some (av es),some (ao rs),some (.int n),some (.int (aF es n).every),some (.int (aF es n).due),some (.int (aF es n).late),some (.tuple ((aF es n).parts.map aU)),some (bg most),x9,x10,x11]
     =.nx [some S,some (av es),some (ao rs),some (.int n),some (.int (aF es n).every),some (.int (aF es n).due),some (.int (aF es n).late),some (.tuple ((aF es n).parts.map aU)),some (bg (ms.foldl (d4 es rs n) most)),y9,y10,y11]
  | [],most,x9,x10,x11,_=>⟨x9,x10,x11,rfl⟩
  | m::r,most,x9,x10,x11,h=>by
    obtain ⟨z10,z11,e1⟩:=BL S l1 l4 hok hr n0 n1 most m (h m List.mem_cons_self) x10 x11
    obtain ⟨y9,y10,y11,e2⟩:=xQ S l1 l4 hok hr n0 n1 r (d4 es rs n most m) (some (.int m)) z10 z11 fun x hx=>h x (List.mem_cons_of_mem _ hx)
    refine ⟨y9,y10,y11,?_⟩
    rw [List.map_cons,List.foldl_cons]
    unfold forL
    rw [show b7 9 (PyData.int m) [some S,some (av es),some (ao rs),some (.int n),some (.int (aF es n).every),some (.int (aF es n).due),some (.int (aF es n).late),some (.tuple ((aF es n).parts.map aU)),some (bg most),x9,x10,x11]=some [some S,some (av es),some (ao rs),some (.int n),some (.int (aF es n).every),some (.int (aF es n).due),some (.int (aF es n).late),some (.tuple ((aF es n).parts.map aU)),some (bg most),some (.int m),x10,x11] from rfl]
    simp only [e1,e2]
theorem law_holds {bb cL:Gf} (F:BQ bb) (S:Bc cL) (cs:Cs) (ns:List Int):qi cs cL aW ak bb bI a9 (some (aC ns)::List.replicate 11 none)=.rt (.bool true):=by
  obtain ⟨es,rs0,_,l1,l4,hok,hr0,hes,hrs⟩:=AZ ns 8 18 (by decide) (by decide) (by decide)
  have hsh:∀ e∈es,e.Sh:=fun e he=>(hok e he).sh
  obtain ⟨rs,hr,s3⟩:=zJ F (ns:=ns) l1 l4 hok hr0 9
  have s1:bj [] 1 (aE a9 (af (ag 0) (af (gC (.int 8)) (af (gC (.int 4)) (af (gC (.int 18)) (af (gC (.bool true)) ar)))))) [some (aC ns),none,none,none,none,none,none,none,none,none,none,none]=.nx [some (aC ns),some (av es),none,none,none,none,none,none,none,none,none,none]:=by simp [hes]
  have s2:bj [] 2 (aE bI (af (ag 0) (af (gC (.int 0)) (af (gF eR (af (ag 1) ar)) ar)))) [some (aC ns),some (av es),none,none,none,none,none,none,none,none,none,none]=.nx [some (aC ns),some (av es),some (ao rs0),none,none,none,none,none,none,none,none,none]:=by simp [BW,hrs]
  have hv:(af (gF eR (af (ag 1) ar)) ar) [some (aC ns),some (av es),some (ao rs),none,none,none,none,none,none,none,none,none]=.ok [.int (es.length:Int)]:=by
    simp only [aI,aP,jH,aw,ax,Rs.aj,BW,Rs.aq]
  have hrg:=jT (j:=(es.length:Int)) (Int.natCast_nonneg _) (by omega)
  rw [Int.toNat_natCast] at hrg
  have src:e8 (af (gF eR (af (ag 1) ar)) ar) [some (aC ns),some (av es),some (ao rs),none,none,none,none,none,none,none,none,none]=.ok (cn 0 es.length):=by rw [j8,hv,Rs.aj,hrg]
  obtain ⟨δ',e,x3,x4,x5,x6,x7,x8,x9,x10,x11,hδ⟩:=iq (β:=Unit) (tgt:=b7 3) (body:=bo (qY [] (dA [4,5,6,7]) (g2 dIx (ag 1) (ag 3)))
    (bo (bj [] 8 (gC .none))
    (bo (iT [] (e8 (af (ag 4) ar)) (b7 9) tR)
    (sIf (gT (g2 dNe (aE cL (af (ag 1) (af (ag 2) (af (ag 3) ar)))) (ag 8))) (b6 (gC (.bool false))) b5))))
    (fun _ δ=>∃ x3 x4 x5 x6 x7 x8 x9 x10 x11,δ=[some (aC ns),some (av es),some (ao rs),x3,x4,x5,x6,x7,x8,x9,x10,x11]) (cn 0 es.length) 0 (fun i d δ hi pz4=>by
      obtain ⟨x3,x4,x5,x6,x7,x8,x9,x10,x11,hx⟩:=pz4
      subst hx
      obtain ⟨hil,hd⟩:=ia hi
      rw [Int.zero_add] at hd
      subst hd
      have n0:(0:Int)≤(i:Int):=by omega
      have n1:(i:Int) < es.length:=by omega
      have hg:=S.of es rs (i:Int) l1 (by omega) hok hr n0 n1
      have hoe:=hok _ (cc n0 n1)
      have he1:=hoe.e1; have he2:=hoe.e2
      have a3:dIx (av es) (.int (i:Int))=some (aF es (i:Int)).d:=dP n0 n1
      obtain ⟨y9,y10,y11,el⟩:=xQ (aC ns) l1 l4 hok hr n0 n1 (cy (aF es (i:Int)).every.toNat) none x9 x10 x11 fun m hm=>(gw.mp hm).1
      generalize hE:aF es (i:Int)=E at *
      have he:E.d=.tuple [.int E.every,.int E.due,.int E.late,.tuple (E.parts.map aU)]:=rfl
      have t1:qY [] (dA [4,5,6,7]) (g2 dIx (ag 1) (ag 3)) [some (aC ns),some (av es),some (ao rs),some (.int (i:Int)),x4,x5,x6,x7,x8,x9,x10,x11]=.nx [some (aC ns),some (av es),some (ao rs),some (.int (i:Int)),some (.int E.every),some (.int E.due),some (.int E.late),some (.tuple (E.parts.map aU)),x8,x9,x10,x11]:=by
        unfold qY
        rw [dE]
        simp only [cu,aw,ax,Rs.aj,a3,Rs.aq,aA,he]
        rfl
      have t2:bj [] 8 (gC .none) [some (aC ns),some (av es),some (ao rs),some (.int (i:Int)),some (.int E.every),some (.int E.due),some (.int E.late),some (.tuple (E.parts.map aU)),x8,x9,x10,x11]=.nx [some (aC ns),some (av es),some (ao rs),some (.int (i:Int)),some (.int E.every),some (.int E.due),some (.int E.late),some (.tuple (E.parts.map aU)),some (bg none),x9,x10,x11]:=rfl
      have hre:=jT (j:=E.every) (by omega) (by omega)
      have src2:e8 (af (ag 4) ar) [some (aC ns),some (av es),some (ao rs),some (.int (i:Int)),some (.int E.every),some (.int E.due),some (.int E.late),some (.tuple (E.parts.map aU)),some (bg none),x9,x10,x11]=.ok ((cy E.every.toNat).map PyData.int):=by
        have hv4:(af (ag 4) ar) [some (aC ns),some (av es),some (ao rs),some (.int (i:Int)),some (.int E.every),some (.int E.due),some (.int E.late),some (.tuple (E.parts.map aU)),some (bg none),x9,x10,x11]=.ok [.int E.every]:=by
          simp only [aI,aP,aw,ax,Rs.aj]
        rw [j8,hv4,Rs.aj,hre,uZ]
      refine ⟨[some (aC ns),some (av es),some (ao rs),some (.int (i:Int)),x4,x5,x6,x7,x8,x9,x10,x11],[some (aC ns),some (av es),some (ao rs),some (.int (i:Int)),some (.int E.every),some (.int E.due),some (.int E.late),some (.tuple (E.parts.map aU)),some (bg (mE es rs (i:Int))),y9,y10,y11],rfl,?_,_,_,_,_,_,_,_,_,_,rfl⟩
      have hro:(cy E.every.toNat).foldl (d4 es rs (i:Int)) none=mE es rs (i:Int):=by unfold mE; rw [hE]
      rw [hro] at el
      rw [aZ,t1]; simp only
      rw [aZ,t2]; simp only
      rw [aZ,fm,dE,src2,aA,el]
      simp only [gZ,g5,cu,a5,aI,aP,aw,ax,Rs.aj,hg,DX,Rs.aq,b9,aA,Bool.false_eq_true,if_false,hU]) [some (aC ns),some (av es),some (ao rs),none,none,none,none,none,none,none,none,none] ⟨none,none,none,none,none,none,none,none,none,rfl⟩
  show qi cs cL aW ak bb bI a9 [some (aC ns),none,none,none,none,none,none,none,none,none,none,none]=_
  have s3':=s3
  simp only [List.replicate] at s3'
  simp only [qi]
  rw [aZ,s1]; simp only
  rw [aZ,s2]; simp only
  rw [aZ,s3']; simp only
  rw [aZ,fm,dE,src,aA,e]
  simp only [cG,dz,aA]
theorem Eu {bb cL:Gf} (F:BQ bb) (S:Bc cL) (cs:Cs):∀ ds,ds.length=1→fh 63 ds≠.no→aV (qi cs cL aW ak bb bI a9 (ds.map some++List.replicate 11 none))=fh 63 ds:=lawT_of (law_holds F S cs)
end RS
set_option maxRecDepth 100000
set_option maxHeartbeats 1000000
namespace RS
open PySem L2
theorem xX {e:Er} (h:e.Ok) {m:Int} (m0:0≤m) (hm:e.every - m ≥ max 2 (e.due + e.late)):(c5 e m).Ok:=by
  have h1:=h.e2; have h2:=h.l1; have h3:=h.d1
  refine ⟨?_,?_,h.l1,h.l2,?_,h.d1,?_,h.p1,h.p2,h.pl,h.la⟩
  · show 2≤e.every - m; omega
  · show e.every - m≤60; omega
  · show e.late < e.every - m; omega
  · show e.due≤e.every - m - e.late; omega
theorem Cg {e:Er} (h:e.Ok) {m:Int} (m0:0≤m):bP (c5 e m).d=decide (e.every - m ≥ max 2 (e.due + e.late)):=by
  by_cases z:e.every - m ≥ max 2 (e.due + e.late)
  · rw [decide_eq_true z,oY (xX h m0 z)]
  · rw [decide_eq_false z]
    cases q:bP (c5 e m).d with
    | false=>rfl
    | true =>
      exfalso
      have ho:=(oz q).2
      rw [xZ] at ho
      have a1:2≤e.every - m:=ho.e1
      have a2:e.due≤e.every - m - e.late:=ho.d2
      omega
noncomputable def a8:Gf
  | [d,.int n,.int m]=>if cI d && decide (0≤n) && decide (n < (bN d).length) then .ok (av ((bN d).set n.toNat (c5 (aF (bN d) n) m))) else .no
  | _=>.no
theorem gp {es:List Er} {n m:Int} (h1:1≤es.length) (h2:es.length≤6) (h:∀ e∈es,e.Ok) (n0:0≤n) (n1:n < es.length):a8 [av es,.int n,.int m]=.ok (av (es.set n.toNat (c5 (aF es n) m))):=by
  unfold a8; simp [hV h1 h2 h,cx,n0,n1]
theorem nG (cs:Cs):∀ ds,ds.length=3→a8 ds≠.no→aV (dw cs bB (ds.map some++List.replicate 1 none))=a8 ds:=by
  intro ds hl hne
  obtain ⟨d,n,m,ez,hz⟩:=nH hne
  clear hne; subst ez; have hne:=hz; clear hz
  · skip
    split at hne
    · rename_i hc
      simp only [Bool.and_eq_true,decide_eq_true_eq] at hc
      obtain ⟨⟨c1,n0⟩,n1⟩:=hc
      obtain ⟨e1,l1,l6,hok⟩:=mR c1
      rw [← e1]
      generalize bN d=es at *
      rw [gp l1 l6 hok n0 n1]
      have a3:dIx (av es) (.int n)=some (aF es n).d:=dP n0 n1
      have hwe:∀ e:Er,bB [av es,.int n,e.d]=.ok (av (es.set n.toNat e)):=fun e=>pS n0 n1 l6
      generalize hE:aF es n=e at *
      have i0:dIx e.d (.int 0)=some (.int e.every):=rfl
      have c3:zg e.d (some 1) none=some (.tuple [.int e.due,.int e.late,.tuple (e.parts.map aU)]):=by
        show zg (.tuple [.int e.every,.int e.due,.int e.late,.tuple (e.parts.map aU)]) (some 1) none=_
        rw [mD,show (1:Int)=((1:Nat):Int) from rfl,kG]
        rfl
      have s1:bj [] 3 (g2 dIx (ag 0) (ag 1)) [some (av es),some (.int n),some (.int m),none]=.nx [some (av es),some (.int n),some (.int m),some e.d]:=by
        rw [cW,if_pos (by simp)]
        simp only [cu,aw,ax,Rs.aj,a3,Rs.aq,aA]
        rfl
      have a4:br (.tuple [.int (e.every - m)]) (.tuple [.int e.due,.int e.late,.tuple (e.parts.map aU)])=some (c5 e m).d:=zk (a:=[.int (e.every - m)]) (by simp)
      show aV (dw cs bB [some (av es),some (.int n),some (.int m),none])=_
      simp only [dw]
      rw [aZ,s1]; simp only
      simp only [cG,a5,cu,iw,gz,ki,kX,aI,aP,dz,aw,ax,Rs.aj,i0,g0,jX,c3,Rs.aq,a4,hwe,aA,bQ]
    · exact absurd rfl hne
noncomputable def cg:Gf
  | [d,r,.int n,.int m]=>if okN d r n && decide (0≤m) then .ok (.bool (eX (bN d) (bK r) n m)) else .no
  | _=>.no
theorem lp {es:List Er} {rs:List Int} {n m:Int} (h1:1≤es.length) (h2:es.length≤6) (h:∀ e∈es,e.Ok) (hr:bz es.length rs) (n0:0≤n) (n1:n < es.length) (m0:0≤m):cg [av es,ao rs,.int n,.int m]=.ok (.bool (eX es rs n m)):=by
  unfold cg; simp only [wC h1 h2 h hr n0 n1,decide_eq_true m0,Bool.and_self,if_true,cx,cq]
theorem wU (cs:Cs):∀ ds,ds.length=4→cg ds≠.no→aV (iu cs (fu bP) bV a8 (ds.map some++List.replicate 1 none))=cg ds:=by
  intro ds hl hne
  obtain ⟨d,r,n,m,ez,hz⟩:=k4 hne
  clear hne; subst ez; have hne:=hz; clear hz
  · skip
    split at hne
    · rename_i hc
      simp only [Bool.and_eq_true,decide_eq_true_eq] at hc
      obtain ⟨hc,m0⟩:=hc
      obtain ⟨es,rs,rfl,rfl,_,_,l1,l6,hok,hr,n0,n1⟩:=nZ hc
      rw [lp l1 l6 hok hr n0 n1 m0]
      have hoe:=hok _ (cc n0 n1)
      have h1:=gp (m:=m) l1 l6 hok n0 n1
      have hat:aF (es.set n.toNat (c5 (aF es n) m)) n=c5 (aF es n) m:=zf n0 n1
      have hls:(es.set n.toNat (c5 (aF es n) m)).length=es.length:=List.length_set
      have a3:dIx (av (es.set n.toNat (c5 (aF es n) m))) (.int n)=some (c5 (aF es n) m).d:=by
        have:atI ((es.set n.toNat (c5 (aF es n) m)).map Er.d) n=some (aF (es.set n.toNat (c5 (aF es n) m)) n).d:=dP n0 (by rw [hls]; exact n1)
        rw [hat] at this
        exact this
      have hi:fu bP [(c5 (aF es n) m).d]=.ok (.bool (decide ((aF es n).every - m ≥ max 2 ((aF es n).due + (aF es n).late)))):=by
        unfold fu
        simp only [uN,if_true]
        rw [Cg hoe m0]
      have s1:bj [] 4 (aE a8 (af (ag 0) (af (ag 2) (af (ag 3) ar)))) [some (av es),some (ao rs),some (.int n),some (.int m),none]=.nx [some (av es),some (ao rs),some (.int n),some (.int m),some (av (es.set n.toNat (c5 (aF es n) m)))]:=by
        rw [cW,if_pos (by simp)]
        simp only [a5,aI,aP,aw,ax,Rs.aj,h1,aA]
        rfl
      show aV (iu cs (fu bP) bV a8 [some (av es),some (ao rs),some (.int n),some (.int m),none])=_
      simp only [iu]
      rw [aZ,s1]; simp only
      unfold eX
      by_cases z:(aF es n).every - m ≥ max 2 ((aF es n).due + (aF es n).late)
      · rw [decide_eq_true z] at hi ⊢
        have hwk:∀ e∈es.set n.toNat (c5 (aF es n) m),e.Wk:=fun e he=>by
          rcases List.mem_or_eq_of_mem_set he with w | w
          · exact (hok e w).wk
          · rw [w]; exact (xX hoe m0 z).wk
        have h2:=kh (es:=es.set n.toNat (c5 (aF es n) m)) (rs:=rs) (by rw [hls]; exact l1) (by rw [hls]; exact l6) hwk (by rw [hls]; exact hr)
        simp only [cG,AM,a5,aI,aP,cu,aw,ax,Rs.aj,a3,Rs.aq,hi,b9,if_true,h2,aA,bQ,Bool.true_and]
      · rw [decide_eq_false z] at hi ⊢
        simp only [cG,AM,a5,aI,aP,cu,aw,ax,Rs.aj,a3,Rs.aq,hi,b9,Bool.false_eq_true,if_false,aA,bQ,Bool.false_and]
    · exact absurd rfl hne
theorem rX {es:List Er} {rs:List Int} {n a:Int} (a0:0≤a) (h0:eX es rs n 0=true) (h1:∀ s,0 < s→s≤a→eX es rs n s=true) (h2:eX es rs n (a + 1)=false):∀ N:Nat,(cy N).foldl (d4 es rs n) none=if N=0 then none else some (min ((N:Int) - 1) a)
  | 0=>rfl
  | N + 1=>by
    have ih:=rX a0 h0 h1 h2 N
    have e:cy (N + 1)=cy N++[(N:Int)]:=by unfold cy; rw [List.range_succ,List.map_append]; rfl
    rw [e,List.foldl_append,ih,if_neg (Nat.succ_ne_zero N)]
    show d4 es rs n _ (N:Int)=_
    unfold d4
    by_cases z:N=0
    · subst z
      rw [if_pos rfl]
      have:eX es rs n ((0:Nat):Int)=true:=h0
      rw [this]
      simp
      omega
    · rw [if_neg z]
      by_cases w:(N:Int)≤a
      · rw [h1 (N:Int) (by omega) w]
        have e1:min ((N:Int) - 1) a=(N:Int) - 1:=by omega
        have e2:min (((N + 1:Nat):Int) - 1) a=(N:Int):=by omega
        rw [e1,e2]
        simp
      · have e1:min ((N:Int) - 1) a=a:=by omega
        have e2:min (((N + 1:Nat):Int) - 1) a=a:=by omega
        rw [e1,e2]
        by_cases u:(N:Int)=a + 1
        · rw [u,h2]; simp
        · have e3:¬ (a=(N:Int) - 1):=by omega
          simp [e3]
theorem rH {es:List Er} {rs:List Int} {n:Int} (h0:eX es rs n 0=false):∀ N:Nat,(cy N).foldl (d4 es rs n) none=none
  | 0=>rfl
  | N + 1=>by
    have ih:=rH h0 N
    have e:cy (N + 1)=cy N++[(N:Int)]:=by unfold cy; rw [List.range_succ,List.map_append]; rfl
    rw [e,List.foldl_append,ih]
    show d4 es rs n _ (N:Int)=_
    unfold d4
    by_cases z:N=0
    · subst z
      have:eX es rs n ((0:Nat):Int)=false:=h0
      rw [this]
      simp
    · have e3:¬ ((N:Int)=0):=by omega
      simp [e3,z]
theorem E9 {es:List Er} {rs:List Int} {n:Int} (hok:∀ e∈es,e.Ok) (n0:0≤n) (n1:n < es.length):eX es rs n 0=iF es rs:=by
  have hoe:=hok _ (cc n0 n1)
  have hf:c5 (aF es n) 0=aF es n:=by
    unfold c5
    rw [Int.sub_zero]
  have hs:es.set n.toNat (aF es n)=es:=by
    unfold aF
    rw [List.getD_eq_getElem?_getD,List.getElem?_eq_getElem (by omega)]
    exact List.set_getElem_self _
  have:=hoe.e1; have:=hoe.d2
  unfold eX
  rw [hf,hs,decide_eq_true (by omega),Bool.true_and]
noncomputable def cL:Gf
  | [d,r,.int n]=>if okN d r n then .ok (bg (mE (bN d) (bK r) n)) else .no
  | _=>.no
theorem p8 {es:List Er} {rs:List Int} {n:Int} (h1:1≤es.length) (h2:es.length≤6) (h:∀ e∈es,e.Ok) (hr:bz es.length rs) (n0:0≤n) (n1:n < es.length):cL [av es,ao rs,.int n]=.ok (bg (mE es rs n)):=by
  unfold cL; simp only [wC h1 h2 h hr n0 n1,if_true,cx,cq]
theorem DP (cs:Cs):∀ ds,ds.length=3→cL ds≠.no→aV (qa cs cg bV bL (ds.map some++List.replicate 1 none))=cL ds:=by
  intro ds hl hne
  obtain ⟨d,r,n,ez,hz⟩:=g6 hne
  clear hne; subst ez; have hne:=hz; clear hz
  · skip
    split at hne
    · rename_i hc
      obtain ⟨es,rs,rfl,rfl,_,_,l1,l6,hok,hr,n0,n1⟩:=nZ hc
      rw [p8 l1 l6 hok hr n0 n1]
      have hoe:=hok _ (cc n0 n1)
      have h1:=iU l1 l6 hok hr n0 n1
      have h2:=kh l1 l6 (fun e he=>(hok e he).wk) hr
      have s0:nz (aE bL (af (ag 0) (af (ag 1) (af (ag 2) ar)))) [some (av es),some (ao rs),some (.int n),none]=.nx [some (av es),some (ao rs),some (.int n),none]:=by
        simp only [yj,a5,aI,aP,aw,ax,Rs.aj,h1,aA]
      show aV (qa cs cg bV bL [some (av es),some (ao rs),some (.int n),none])=_
      simp only [qa]
      rw [aZ,s0]; simp only
      rw [aZ]
      have hf0:=E9 (rs:=rs) hok n0 n1
      unfold mE
      cases q:iF es rs with
      | false =>
        rw [q] at h2 hf0
        rw [rH hf0]
        simp only [gZ,tM,g5,a5,aI,aP,aw,ax,dz,Rs.aj,h2,b9,Bool.not_false,aA,if_true,cG,bQ]
        rfl
      | true =>
        rw [q] at h2 hf0
        have s1:sIf (iO (gT (aE bV (af (ag 0) (af (ag 1) ar))))) (b6 (gC .none)) b5 [some (av es),some (ao rs),some (.int n),none]=.nx [some (av es),some (ao rs),some (.int n),none]:=by
          simp only [gZ,tM,g5,a5,aI,aP,aw,ax,Rs.aj,h2,b9,Bool.not_true,Bool.false_eq_true,aA,if_false,hU]
        have s2:bj [] 3 (gC (.int 0)) [some (av es),some (ao rs),some (.int n),none]=.nx [some (av es),some (ao rs),some (.int n),some (.int 0)]:=rfl
        have he2:=hoe.e2; have he1:=hoe.e1
        have hout:∀ m,(aF es n).every - 1≤m→eX es rs n m=false:=fun m hm=>by
          unfold eX
          rw [decide_eq_false (by omega),Bool.false_and]
        obtain ⟨a,a0,a1,e,h4,h5⟩:=xW (E:=av es) (R:=ao rs) (N:=.int n) (f:=fun m=>eX es rs n m) (B:=(aF es n).every - 2) (test:=gT (aE cg (af (ag 0) (af (ag 1) (af (ag 2) (af (g2 br (ag 3) (gC (.int 1))) ar)))))) (fun t t0 t1=>by
            have g1:=lp (m:=t + 1) l1 l6 hok hr n0 n1 (by omega)
            simp only [g5,a5,aI,aP,cu,dz,aw,ax,Rs.aj,c9,Rs.aq,g1,b9]) (hout _ (by omega)) 100 1000000 0 (by decide) (by omega) (by omega) (by decide)
        have hfold:=rX a0 hf0 (fun s x y=>h5 s x y) h4 (aF es n).every.toNat
        rw [if_neg (by omega)] at hfold
        have em:min (((aF es n).every.toNat:Int) - 1) a=a:=by omega
        rw [em] at hfold
        rw [hfold]
        rw [s1]; simp only
        rw [aZ,s2]; simp only
        rw [aZ,e]
        rfl
    · exact absurd rfl hne
theorem Cn:Bc cL:=⟨fun es rs n l1 l6 hok hr n0 n1=>p8 l1 l6 hok hr n0 n1⟩
end RS
namespace RS
open PySem L2
theorem Dm (cs:Cs):∀ ds,ds.length=1→fh 63 ds≠.no→aV (qi cs cL aW ak (bb cs) bI a9 (ds.map some++List.replicate 11 none))=fh 63 ds:=Eu (C3 cs) Cn cs
end RS
set_option maxRecDepth 100000
set_option maxHeartbeats 4000000
namespace RS
open PySem PySem.Spec PyProof.Rows L2
noncomputable def top (i:Nat):Stmt:=PySem.Challenge.pw_ranksure_k31_rush.main.body.getD i (.Pass ⟨0,0,0,0⟩)
noncomputable abbrev md:Stmt:=top 13
noncomputable abbrev mB:Stmt:=top 14
noncomputable abbrev oH:Stmt:=top 15
noncomputable abbrev lr:Stmt:=top 16
noncomputable abbrev lh:Stmt:=top 17
noncomputable abbrev nT:Stmt:=top 18
noncomputable abbrev gW:Stmt:=top 19
noncomputable abbrev gD:Stmt:=top 20
noncomputable abbrev ji:Stmt:=top 21
noncomputable abbrev oF:Stmt:=top 22
noncomputable abbrev mw:Stmt:=top 23
noncomputable abbrev pL:Stmt:=top 24
noncomputable abbrev kq:Stmt:=top 25
noncomputable abbrev mK:Stmt:=top 28
noncomputable abbrev iN:Stmt:=top 29
noncomputable abbrev j6:Stmt:=top 30
noncomputable abbrev wV:Stmt:=top 31
noncomputable abbrev kD:Stmt:=top 32
noncomputable abbrev jO:Stmt:=top 33
noncomputable abbrev fP:Stmt:=top 34
noncomputable abbrev mL:Stmt:=top 35
noncomputable abbrev kj:Stmt:=top 36
noncomputable abbrev kP:Stmt:=top 38
noncomputable abbrev ko:Stmt:=top 39
noncomputable abbrev fi:Stmt:=top 40
noncomputable abbrev eV:Stmt:=top 41
noncomputable abbrev fW:Stmt:=top 42
noncomputable abbrev oC:Stmt:=top 43
noncomputable abbrev pR:Stmt:=top 44
noncomputable abbrev jf:Stmt:=top 45
noncomputable abbrev fF:Stmt:=top 46
noncomputable abbrev ma:Stmt:=top 47
noncomputable abbrev xb:Stmt:=top 48
noncomputable abbrev e7:Stmt:=top 50
noncomputable abbrev iY:Stmt:=top 51
noncomputable abbrev jN:Stmt:=top 52
noncomputable abbrev i9:Stmt:=top 53
noncomputable abbrev kK:Stmt:=top 54
noncomputable abbrev jk:Stmt:=top 55
noncomputable abbrev mO:Stmt:=top 56
noncomputable abbrev mV:Stmt:=top 57
noncomputable abbrev mP:Stmt:=top 58
noncomputable abbrev jm:Stmt:=top 59
noncomputable abbrev jq:Stmt:=top 60
noncomputable abbrev fM:Stmt:=top 61
noncomputable abbrev rS:Stmt:=top 62
noncomputable abbrev mH:Stmt:=inClass (top 27) 0
structure Tx (K:PySem.W.Frag) (mg:Str→Option Value) (cs:Cs):Prop where
  f_is_whole:aQ K mg "is_whole" md ["thing", "least", "most"]
  f_is_tuple:aQ K mg "is_tuple" mB ["thing", "fewest", "most"]
  f_is_part:aQ K mg "is_part" oH ["thing"]
  f_are_parts:aQ K mg "are_parts" lr ["thing"]
  f_is_errand:aQ K mg "is_errand" lh ["thing"]
  f_checked:aQ K mg "checked" nT ["errands"]
  f_checked_ranks:aQ K mg "checked_ranks" gW ["errands", "ranks"]
  f_checked_number:aQ K mg "checked_number" gD ["errands", "number"]
  f_check_place:aQ K mg "check_place" ji ["errands", "ranks", "number"]
  f_work_of:aQ K mg "work_of" oF ["errand"]
  f_has_tool:aQ K mg "has_tool" mw ["errand", "tool"]
  f_height:aQ K mg "height" pL ["errands", "ranks", "tool"]
  f_heights_of:aQ K mg "heights_of" kq ["errands", "ranks"]
  f_holdings:aQ K mg "holdings" mK ["errands", "ranks", "number"]
  f_hold_by_high:aQ K mg "hold_by_high" iN ["errands", "ranks", "number"]
  f_rounded_up:aQ K mg "rounded_up" j6 ["times", "every"]
  f_need:aQ K mg "need" wV ["errands", "ranks", "number", "held_up", "times"]
  f_levels_by:aQ K mg "levels_by" kD ["errands", "ranks", "number", "held_up"]
  f_longest_by:aQ K mg "longest_by" jO ["errands", "ranks", "number", "held_up"]
  f_longest_by_high:aQ K mg "longest_by_high" fP ["errands", "ranks", "number"]
  f_has_room:aQ K mg "has_room" mL ["errands", "ranks", "number", "room"]
  f_is_in_time:aQ K mg "is_in_time" kj ["errands", "ranks", "number"]
  f_as_lowest:aQ K mg "as_lowest" kP ["errands", "some", "number"]
  f_not_placed:aQ K mg "not_placed" ko ["errands", "placed"]
  f_following_lowest:aQ K mg "following_lowest" fi ["errands", "placed", "room"]
  f_placed_from_below:aQ K mg "placed_from_below" eV ["errands", "room"]
  f_ranks_with_room:aQ K mg "ranks_with_room" fW ["errands", "room"]
  f_fitting:aQ K mg "fitting" oC ["errands"]
  f_do_fit:aQ K mg "do_fit" pR ["errands", "ranks"]
  f_with_errand:aQ K mg "with_errand" jf ["errands", "number", "errand"]
  f_with_less_every:aQ K mg "with_less_every" fF ["errands", "number", "times"]
  f_can_rush:aQ K mg "can_rush" ma ["errands", "ranks", "number", "times"]
  f_rush:aQ K mg "rush" xb ["errands", "ranks", "number"]
  f_law_cell_at:aQ K mg "_law_cell_at" e7 ["_law_script", "_law_k"]
  f_law_mixed:aQ K mg "_law_mixed" iY ["_law_script", "_law_k", "_law_many"]
  f_law_errand:aQ K mg "_law_errand" jN ["_law_script", "_law_at", "_law_top", "_law_tools"]
  f_law_errands:aQ K mg "_law_errands" i9 ["_law_script", "_law_at", "_law_most", "_law_top", "_law_tools"]
  f_law_ranks:aQ K mg "_law_ranks" kK ["_law_script", "_law_at", "_law_many"]
  f_law_heights:aQ K mg "_law_heights" jk ["_law_errands_here", "_law_ranks_here"]
  f_law_hold:aQ K mg "_law_hold" mO ["_law_errands_here", "_law_ranks_here", "_law_number"]
  f_law_work:aQ K mg "_law_work" mV ["_law_errand_here"]
  f_law_need:aQ K mg "_law_need" mP ["_law_errands_here", "_law_ranks_here", "_law_number", "_law_time"]
  f_law_longest:aQ K mg "_law_longest" jm ["_law_errands_here", "_law_ranks_here", "_law_number"]
  f_law_in_time:aQ K mg "_law_in_time" jq ["_law_errands_here", "_law_ranks_here", "_law_number"]
  f_law_all_in_time:aQ K mg "_law_all_in_time" fM ["_law_errands_here", "_law_ranks_here"]
  f_law:aQ K mg "law" rS ["_law_script"]
  b_all:mg "all"=none
  b_bool:mg "bool"=none
  b_enumerate:mg "enumerate"=none
  b_int:mg "int"=none
  b_isinstance:mg "isinstance"=none
  b_len:mg "len"=none
  b_list:mg "list"=none
  b_max:mg "max"=none
  b_min:mg "min"=none
  b_range:mg "range"=none
  b_set:mg "set"=none
  b_sum:mg "sum"=none
  b_tuple:mg "tuple"=none
  c_LEAST_EVERY:∃ t,mg "LEAST_EVERY"=some (.int 2 t)
  c_MOST_ERRANDS:∃ t,mg "MOST_ERRANDS"=some (.int 6 t)
  c_MOST_EVERY:∃ t,mg "MOST_EVERY"=some (.int 60 t)
  c_MOST_LATE:∃ t,mg "MOST_LATE"=some (.int 20 t)
  c_MOST_LENGTH:∃ t,mg "MOST_LENGTH"=some (.int 20 t)
  c_MOST_PARTS:∃ t,mg "MOST_PARTS"=some (.int 4 t)
  c_TOOLS:∃ t,mg "TOOLS"=some (.int 4 t)
  e_NoErrand:u6 K mg "NoErrand" cs.NoErrand
  e_NoErrands:u6 K mg "NoErrands" cs.NoErrands
  e_NoRanks:u6 K mg "NoRanks" cs.NoRanks
  cl_Holding:Cls K cs.Holding
  na_Holding_number:gY K cs.Holding "number"
  na_Holding_part:gY K cs.Holding "part"
  na_Holding_tool:gY K cs.Holding "tool"
  na_Holding_times:gY K cs.Holding "times"
  mk_Holding:∃ f fd,Mk K cs.Holding f∧Fun K "__init__" "Holding.__init__" mH f fd∧Binds K fd ["self", "number", "part", "tool", "times"] []
  m_Holding:mg "Holding"=some (.ref cs.Holding)
section
variable {P:Program} {w:World} {K:PySem.W.Frag} {mg:Str→Option Value} {base:Heap} {cs:Cs}
theorem vS:aT ["self", "number", "part", "tool", "times"] ["self", "number", "part", "tool", "times"] (aB mH):=⟨rfl,rfl,rfl,by decide +kernel,rfl,by decide +kernel,by decide +kernel⟩
theorem nP (T:Tx K mg cs):AL P w K mg base 1 "Holding" cs.Holding ["number", "part", "tool", "times"]:=by
  obtain ⟨f,fd,M,F,b⟩:=T.mk_Holding
  refine ⟨f,fd,_,M,uw (k:=0) F vS (fun vs H Q E h=>?_) (fun cdv A outer s H vs Q E hr h=>?_),b,T.m_Holding⟩
  · obtain ⟨x,dx,args,rfl,hl,_⟩:=h
    rw [List.length_cons,hl]; rfl
  · obtain ⟨x,dx,args,rfl,hl,hx,k⟩:=h
    obtain ⟨a0,a1,a2,a3,rfl⟩:∃ a0 a1 a2 a3,args=[a0,a1,a2,a3]:=by
      cases args with
      | nil=>cases hl
      | cons a0 r0 =>
        cases r0 with
        | nil=>cases hl
        | cons a1 r1 =>
          cases r1 with
          | nil=>cases hl
          | cons a2 r2 =>
            cases r2 with
            | nil=>cases hl
            | cons a3 r3 =>
              cases r3 with
              | nil=>exact ⟨a0,a1,a2,a3,rfl⟩
              | cons _ _=>exact absurd hl (by simp)
    refine ⟨_,(ij (ui (pv 0) (pv 1) rfl) (ij (ui (pv 0) (pv 2) rfl) (ij (ui (pv 0) (pv 3) rfl) (lH (ui (pv 0) (pv 4) rfl))))),?_⟩
    refine ⟨_,rfl,_,rfl,x,cs.Holding,dx,_,rfl,hx,T.cl_Holding,T.na_Holding_number,(by show 0 < 1000; decide),_,rfl,_,rfl,x,cs.Holding,dx,_,rfl,cp,T.cl_Holding,T.na_Holding_part,(by show 1 < 1000; decide),_,rfl,_,rfl,x,cs.Holding,dx,_,rfl,cp,T.cl_Holding,T.na_Holding_tool,(by show 2 < 1000; decide),_,rfl,_,rfl,x,cs.Holding,dx,_,rfl,cp,T.cl_Holding,T.na_Holding_times,(by show 3 < 1000; decide),?_⟩
    exact k _ (fun b hb=>by rw [bx hb,bx hb,bx hb,bx hb]) (by rw [cp]; rfl)
theorem wq:aT ["_law_script", "_law_k"] ["_law_script", "_law_k"] (aB e7):=⟨rfl,rfl,rfl,by decide +kernel,rfl,by decide +kernel,by decide +kernel⟩
theorem xh {f:Addr} {fd:FuncData} (F:Fun K "_law_cell_at" "_law_cell_at" e7 f fd) (bl:mg "len"=none):jR P w K mg base CX0 1 f fd ["_law_script", "_law_k"] (AG K):=by
  refine F.ok wq (fun vs H Q E h=>?_) (fun cdv A outer s H vs Q E hr h=>?_)
  · obtain ⟨a,ns,k,rfl,_⟩:=h
    rfl
  · obtain ⟨a,ns,k,rfl,hS,hk,kk⟩:=h
    refine ⟨_,ij (Ba (wy (EX (pv 1) (gP kl rfl bl PySem.boot_len (fg (pv 0) iI)))) (lH (pT (An tG (pv 0) (pv 1) (fun _ _=>rfl)))) t8)
      (ij (Ba (i4 (vU hr.units) (pv 0) (wJ iI) (jh _)) (lH (pT jS)) t8)
      (lH (pT (fV nU (fV nY (An tG (pv 0) (fV qz (pv 1) (gP kl rfl bl PySem.boot_len (fg (pv 0) iI))) (fun _ _=>rfl)) jS) (pv 1))))),?_⟩
    refine ⟨_,rfl,_,rfl,a,_,rfl,.inl hS,k,_,rfl,rfl,_,rfl,?_⟩
    have hlen:(ns.map V.int).length=ns.length:=List.length_map ..
    rw [hlen]
    refine Et (fun hc=>?_) (fun hc=>?_)
    · have hc:k < (ns.length:Int):=of_decide_eq_true hc
      have hi:k.toNat < ns.length:=by omega
      refine ⟨_,rfl,_,rfl,a,_,k,.int (ns.getD k.toNat 0),rfl,rfl,hS,xC hk ?_,?_⟩
      · rw [List.getElem?_map,List.getElem?_eq_getElem hi,List.getD_eq_getElem?_getD,List.getElem?_eq_getElem hi]; rfl
      · have:=kk H (aM.refl H)
        rw [show cellAt ns k=ns.getD k.toNat 0 by unfold cellAt; rw [if_pos hc]] at this
        exact this
    · have hc:¬ k < (ns.length:Int):=fun z=>hc (decide_eq_true z)
      refine ⟨_,rfl,Nat.zero_le _,fun p hp=>⟨.list (ns.map .int),.list [],(sT hS (rG ns)).same (nh hp),sT (SqL.of cp) pW,shaped_ints ns,vW,_,rfl,?_⟩⟩
      rw [Bb]
      refine Et (fun hz=>?_) (fun hz=>?_)
      · have hz:ns=[]:=of_decide_eq_true hz
        have:=kk _ (nh (o:=.lst []) hp)
        rw [show cellAt ns k=0 by unfold cellAt; rw [if_neg hc,if_pos hz]] at this
        exact this
      · have hz:¬ ns=[]:=fun z=>hz (decide_eq_true z)
        have hpos:0 < (ns.length:Int):=by
          cases ns with
          | nil=>exact absurd rfl hz
          | cons _ _=>simp
        have h1:0≤k % (ns.length:Int):=Int.emod_nonneg _ (by omega)
        have h2:k % (ns.length:Int) < (ns.length:Int):=Int.emod_lt_of_pos _ hpos
        have hi:(k % (ns.length:Int)).toNat < ns.length:=by omega
        have s1:aM H (upd H p (.lst [])):=nh hp
        refine ⟨_,rfl,_,rfl,_,rfl,a,_,rfl,.inl (s1.seq hS),_,_,rfl,rfl,by rw [hlen]; exact hpos,a,_,_,.int (ns.getD (k % (ns.length:Int)).toNat 0),rfl,rfl,s1.seq hS,?_,_,_,rfl,rfl,.inr ⟨by decide,by decide⟩,_,rfl,_,_,rfl,rfl,?_⟩
        · rw [hlen]
          refine xC h1 ?_
          rw [List.getElem?_map,List.getElem?_eq_getElem hi,List.getD_eq_getElem?_getD,List.getElem?_eq_getElem hi]; rfl
        · have:=kk _ s1
          rw [show cellAt ns k=ns.getD (k % (ns.length:Int)).toNat 0 * 31 + k by unfold cellAt; rw [if_neg hc,if_neg hz]] at this
          exact this
theorem u9:aT ["_law_script", "_law_k", "_law_many", "_law_drawn"] ["_law_script", "_law_k", "_law_many"] (aB iY):=⟨rfl,rfl,rfl,by decide +kernel,rfl,by decide +kernel,by decide +kernel⟩
theorem Bf {f fC:Addr} {fd fdC:FuncData} (F:Fun K "_law_mixed" "_law_mixed" iY f fd) (FC:Fun K "_law_cell_at" "_law_cell_at" e7 fC fdC) (bC:Binds K fdC ["_law_script", "_law_k"] []) (mC:mg "_law_cell_at"=some (.ref fC)) (bl:mg "len"=none):jR P w K mg base CX0 2 f fd ["_law_script", "_law_k", "_law_many"] (CV K):=by
  have GC:jR P w K mg base CX0 1 fC fdC _ (AG K):=xh FC bl
  refine F.ok u9 (fun vs H Q E h=>?_) (fun cdv A outer s H vs Q E hr h=>?_)
  · obtain ⟨a,ns,k,many,rfl,_⟩:=h
    rfl
  · obtain ⟨a,ns,k,many,rfl,hS,hk,hm,kk⟩:=h
    refine ⟨_,ij (wc (i:=3) u9.nd rfl (Or.inl rfl) (fV qz (fV nY (fV nU (fV nU (yz GC hr rfl mC FC.kp bC .nil E3 (fg (pv 0) (fg (pv 1) iI))) (fV nY jS (pv 1))) jS) jS) jS))
      (lH (pT (fV qz (fV qz (fV nU (fV nU (fV nY (pv 3) (pv 3)) (fV nY jS (pv 3))) (pv 1)) jS) (pv 2)))),?_⟩
    refine ⟨_,rfl,_,rfl,a,ns,k,rfl,hS,hk,fun H1 s1=>?_⟩
    refine ⟨_,rfl,_,_,rfl,rfl,.inl ⟨by decide,by decide⟩,_,_,rfl,rfl,_,_,rfl,rfl,_,_,rfl,rfl,.inr ⟨by decide,by decide⟩,_,_,rfl,rfl,(by show (0:Int) < 2147483647; decide),?_⟩
    have b1:=Cu ns k
    have b2:=Cw ns k
    have eD:(cellAt ns k + 7919 * k + 1) * 48271 % 2147483647=yR ns k:=rfl
    refine ⟨_,rfl,_,rfl,_,_,rfl,rfl,.inl ⟨?_,?_⟩,_,rfl,_,_,rfl,rfl,.inl ⟨by decide,by decide⟩,_,_,rfl,rfl,_,rfl,_,_,rfl,rfl,_,_,rfl,rfl,(by show (0:Int) < 2147483629; decide),_,rfl,_,_,rfl,rfl,hm,kk H1 s1⟩
    · show -(2 ^ 64) < (cellAt ns k + 7919 * k + 1) * 48271 % 2147483647
      rw [eD]; omega
    · show (cellAt ns k + 7919 * k + 1) * 48271 % 2147483647 < 2 ^ 64
      rw [eD]; omega
theorem b0 (T:Tx K mg cs):aO P w K mg base 2 "_law_mixed" 3 ak:=by
  obtain ⟨f,fd,F,b,m⟩:=T.f_law_mixed
  obtain ⟨fC,fdC,FC,bC,mC⟩:=T.f_law_cell_at
  exact aO.old (Bf F FC bC mC T.b_len) m F.kp b Co
theorem vd:aT ["thing", "least", "most"] ["thing", "least", "most"] (aB md):=⟨rfl,rfl,rfl,by decide +kernel,rfl,by decide +kernel,by decide +kernel⟩
theorem cR (T:Tx K mg cs) { gf:Gf} (hL:∀ ds,ds.length=3→gf ds≠.no→aV (ip cs (ds.map some++List.replicate 0 none))=gf ds):aO P w K mg base 1 "is_whole" 3 gf:=by
  obtain ⟨f,fd,F,b,m⟩:=T.f_is_whole
  exact aO.of (O:=[]) (G:=ip cs) F vd b m (by decide) (fun cdv A outer s H E hr=>(au (cX (kR (oa (dC (cz (om T.b_isinstance T.b_int zL (by simp) (ah 0)))) (lK (cz (om T.b_isinstance T.b_bool Bx (by simp) (ah 0)))))) (az (aS mX)) cm)
      (az (aS (xN (ah 1) (ah 0) (ah 2)))))) hL
theorem vm:aT ["thing", "fewest", "most"] ["thing", "fewest", "most"] (aB mB):=⟨rfl,rfl,rfl,by decide +kernel,rfl,by decide +kernel,by decide +kernel⟩
theorem c4 (T:Tx K mg cs) { gf:Gf} (hL:∀ ds,ds.length=3→gf ds≠.no→aV (ir cs (ds.map some++List.replicate 0 none))=gf ds):aO P w K mg base 1 "is_tuple" 3 gf:=by
  obtain ⟨f,fd,F,b,m⟩:=T.f_is_tuple
  exact aO.of (O:=[]) (G:=ir cs) F vm b m (by decide) (fun cdv A outer s H E hr=>(az (aS (qk (om T.b_isinstance T.b_tuple u0 (by simp) (ah 0)) (oI (xN (ah 1) (fA T.b_len (ae (ah 0) ai)) (ah 2))))))) hL
theorem wB:aT ["thing"] ["thing"] (aB oH):=⟨rfl,rfl,rfl,by decide +kernel,rfl,by decide +kernel,by decide +kernel⟩
theorem nV (T:Tx K mg cs) { aJ aH gf:Gf} (cR:aO P w K mg base 1 "is_whole" 3 aJ) (c4:aO P w K mg base 1 "is_tuple" 3 aH) (hL:∀ ds,ds.length=1→gf ds≠.no→aV (gv cs aJ aH (ds.map some++List.replicate 0 none))=gf ds):aO P w K mg base 2 "is_part" 1 gf:=by
  obtain ⟨f,fd,F,b,m⟩:=T.f_is_part
  exact aO.of (O:=[]) (G:=gv cs aJ aH) F wB b m (by decide) (fun cdv A outer s H E hr=>(au (cX (kR (oa (dC (cz (aG c4 hr aK (ae (ah 0) (ae ay (ae ay ai)))))) (lK (dC (cz (aG cR hr aK (ae (bG (ah 0) ay) (ae ay (ae (i6 T.c_MOST_LENGTH) ai))))))))) (az (aS mX)) cm)
      (az (aS (Ew (AN (bG (ah 0) ay)) (oI (aG cR hr aK (ae (bG (ah 0) ay) (ae ay (ae (ee (i6 T.c_TOOLS) ay) ai)))))))))) hL
theorem t7:aT ["thing"] ["thing"] (aB lr):=⟨rfl,rfl,rfl,by decide +kernel,rfl,by decide +kernel,by decide +kernel⟩
theorem qQ:(["thing", "part"]:List Str).Nodup:=by decide +kernel
theorem lj (T:Tx K mg cs) { aH gf_is_part gf:Gf} (c4:aO P w K mg base 1 "is_tuple" 3 aH) (nV:aO P w K mg base 2 "is_part" 1 gf_is_part) (hL:∀ ds,ds.length=1→gf ds≠.no→aV (fv cs aH gf_is_part (ds.map some++List.replicate 0 none))=gf ds):aO P w K mg base 3 "are_parts" 1 gf:=by
  obtain ⟨f,fd,F,b,m⟩:=T.f_are_parts
  exact aO.of (O:=[]) (G:=fv cs aH gf_is_part) F t7 b m (by decide) (fun cdv A outer s H E hr=>(au (cX (kR (oa (dC (cz (aG c4 hr aK (ae (ah 0) (ae ay (ae (i6 T.c_MOST_PARTS) ai)))))) (lK (dC (cz (tO rfl T.b_all (ae (gQ (dZ (M:=["thing"]) (own:=["part"]) (n0:=1) (cond:=cY) rfl (dq (ah 0)) dr (fun _ _ _ _=>(bf (i:=1) qQ rfl (Or.inl rfl) (.inr rfl))) (fun _ _ _ _=>.nil) (fun σ H Q qz3=>(by obtain ⟨A,δ,R,o⟩:=qz3; exact o H (aM.refl _))) (fun _ _ _ _=>(aG nV hr iM (ae (ah 1) ai))))) ai))))))) (az (aS mX)) cm)
      (az (aS (AN (bG (bG (ah 0) (oj ay)) ay)))))) hL
theorem hW:aT ["thing", "every", "due", "late"] ["thing"] (aB lh):=⟨rfl,rfl,rfl,by decide +kernel,rfl,by decide +kernel,by decide +kernel⟩
theorem gH (T:Tx K mg cs) { aJ gf_are_parts aH gf:Gf} (cR:aO P w K mg base 1 "is_whole" 3 aJ) (lj:aO P w K mg base 3 "are_parts" 1 gf_are_parts) (c4:aO P w K mg base 1 "is_tuple" 3 aH) (hL:∀ ds,ds.length=1→gf ds≠.no→aV (dN cs aJ gf_are_parts aH (ds.map some++List.replicate 3 none))=gf ds):aO P w K mg base 4 "is_errand" 1 gf:=by
  obtain ⟨f,fd,F,b,m⟩:=T.f_is_errand
  exact aO.of (O:=[]) (G:=dN cs aJ gf_are_parts aH) F hW b m (by decide) (fun cdv A outer s H E hr=>(au (cX (dC (cz (aG c4 hr aK (ae (ah 0) (ae ay (ae ay ai)))))) (az (aS mX)) cm)
      (au (a6 (i:=1) (bG (ah 0) ay) hW.nd)
      (au (a6 (i:=2) (bG (ah 0) ay) hW.nd)
      (au (a6 (i:=3) (bG (ah 0) ay) hW.nd)
      (au (cX (dC (cz (aG cR hr aK (ae (ah 1) (ae (i6 T.c_LEAST_EVERY) (ae (i6 T.c_MOST_EVERY) ai)))))) (az (aS mX)) cm)
      (au (cX (dC (cz (aG cR hr aK (ae (ah 3) (ae ay (ae (xT rfl T.b_min (ae (i6 T.c_MOST_LATE) (ae (ee (ah 1) ay) ai))) ai)))))) (az (aS mX)) cm)
      (az (aS (qk (aG cR hr aK (ae (ah 2) (ae ay (ae (ee (ah 1) (ah 3)) ai)))) (oI (aG lj hr aK (ae (bG (ah 0) ay) ai))))))))))))) hL
theorem xm:aT ["errands"] ["errands"] (aB nT):=⟨rfl,rfl,rfl,by decide +kernel,rfl,by decide +kernel,by decide +kernel⟩
theorem tK:(["errands", "errand"]:List Str).Nodup:=by decide +kernel
theorem jA (T:Tx K mg cs) { aH gf_is_errand gf:Gf} (c4:aO P w K mg base 1 "is_tuple" 3 aH) (gH:aO P w K mg base 4 "is_errand" 1 gf_is_errand) (hL:∀ ds,ds.length=1→gf ds≠.no→aV (h9 cs aH gf_is_errand (ds.map some++List.replicate 0 none))=gf ds):aO P w K mg base 5 "checked" 1 gf:=by
  obtain ⟨f,fd,F,b,m⟩:=T.f_checked
  exact aO.of (O:=[]) (G:=h9 cs aH gf_is_errand) F xm b m (by decide) (fun cdv A outer s H E hr=>(au (cX (kR (oa (dC (cz (aG c4 hr aK (ae (ah 0) (ae ay (ae (i6 T.c_MOST_ERRANDS) ai)))))) (lK (dC (cz (tO rfl T.b_all (ae (gQ (dZ (M:=["errands"]) (own:=["errand"]) (n0:=1) (cond:=cY) rfl (dq (ah 0)) dr (fun _ _ _ _=>(bf (i:=1) tK rfl (Or.inl rfl) (.inr rfl))) (fun _ _ _ _=>.nil) (fun σ H Q qz3=>(by obtain ⟨A,δ,R,o⟩:=qz3; exact o H (aM.refl _))) (fun _ _ _ _=>(aG gH hr iM (ae (ah 1) ai))))) ai))))))) (az (lF rfl tT T.e_NoErrands (ae tW ai))) cm)
      (az (aS (ah 0))))) hL
theorem jB:aT ["errands", "ranks", "last"] ["errands", "ranks"] (aB gW):=⟨rfl,rfl,rfl,by decide +kernel,rfl,by decide +kernel,by decide +kernel⟩
theorem mT:(["errands", "ranks", "last", "number"]:List Str).Nodup:=by decide +kernel
theorem gX (T:Tx K mg cs) { aH aJ gf:Gf} (c4:aO P w K mg base 1 "is_tuple" 3 aH) (cR:aO P w K mg base 1 "is_whole" 3 aJ) (hL:∀ ds,ds.length=2→gf ds≠.no→aV (cO cs aH aJ (ds.map some++List.replicate 1 none))=gf ds):aO P w K mg base 2 "checked_ranks" 2 gf:=by
  obtain ⟨f,fd,F,b,m⟩:=T.f_checked_ranks
  exact aO.of (O:=[]) (G:=cO cs aH aJ) F jB b m (by decide) (fun cdv A outer s H E hr=>(au (a6 (i:=2) (ee (fA T.b_len (ae (ah 0) ai)) ay) jB.nd)
      (au (cX (kR (oa (dC (cz (aG c4 hr aK (ae (ah 1) (ae (fA T.b_len (ae (ah 0) ai)) (ae (fA T.b_len (ae (ah 0) ai)) ai)))))) (lK (dC (cz (tO rfl T.b_all (ae (gQ (dZ (M:=["errands", "ranks", "last"]) (own:=["number"]) (n0:=3) (cond:=cY) rfl (dq (ah 1)) dr (fun _ _ _ _=>(bf (i:=3) mT rfl (Or.inl rfl) (.inr rfl))) (fun _ _ _ _=>.nil) (fun σ H Q qz3=>(by obtain ⟨A,δ,R,o⟩:=qz3; exact o H (aM.refl _))) (fun _ _ _ _=>(aG cR hr iM (ae (ah 3) (ae ay (ae (ah 2) ai))))))) ai))))))) (az (lF rfl tT T.e_NoRanks (ae tW ai))) cm)
      (au (cX (Dg (yX rfl T.b_set T.b_len (ae (ah 1) ai)) (fA T.b_len (ae (ah 1) ai))) (az (lF rfl tT T.e_NoRanks (ae tW ai))) cm)
      (az (aS (ah 1))))))) hL
theorem nq:aT ["errands", "number"] ["errands", "number"] (aB gD):=⟨rfl,rfl,rfl,by decide +kernel,rfl,by decide +kernel,by decide +kernel⟩
theorem gB (T:Tx K mg cs) { aJ gf:Gf} (cR:aO P w K mg base 1 "is_whole" 3 aJ) (hL:∀ ds,ds.length=2→gf ds≠.no→aV (dH cs aJ (ds.map some++List.replicate 0 none))=gf ds):aO P w K mg base 2 "checked_number" 2 gf:=by
  obtain ⟨f,fd,F,b,m⟩:=T.f_checked_number
  exact aO.of (O:=[]) (G:=dH cs aJ) F nq b m (by decide) (fun cdv A outer s H E hr=>(au (cX (dC (cz (aG cR hr aK (ae (ah 1) (ae ay (ae (ee (fA T.b_len (ae (ah 0) ai)) ay) ai)))))) (az (lF rfl tT T.e_NoErrand (ae tW ai))) cm)
      (az (aS (ah 1))))) hL
theorem qR:aT ["errands", "ranks", "number"] ["errands", "ranks", "number"] (aB ji):=⟨rfl,rfl,rfl,by decide +kernel,rfl,by decide +kernel,by decide +kernel⟩
theorem jo (T:Tx K mg cs) { bc bw ba gf:Gf} (gB:aO P w K mg base 2 "checked_number" 2 bc) (gX:aO P w K mg base 2 "checked_ranks" 2 bw) (jA:aO P w K mg base 5 "checked" 1 ba) (hL:∀ ds,ds.length=3→gf ds≠.no→aV (e6 cs bc bw ba (ds.map some++List.replicate 0 none))=gf ds):aO P w K mg base 6 "check_place" 3 gf:=by
  obtain ⟨f,fd,F,b,m⟩:=T.f_check_place
  exact aO.of (O:=[]) (G:=e6 cs bc bw ba) F qR b m (by decide) (fun cdv A outer s H E hr=>(au (kN (aG jA hr aK (ae (ah 0) ai)))
      (au (kN (aG gX hr aK (ae (ah 0) (ae (ah 1) ai))))
      (az (kN (aG gB hr aK (ae (ah 0) (ae (ah 2) ai)))))))) hL
theorem xo:aT ["errand"] ["errand"] (aB oF):=⟨rfl,rfl,rfl,by decide +kernel,rfl,by decide +kernel,by decide +kernel⟩
theorem tf:(["errand", "part"]:List Str).Nodup:=by decide +kernel
theorem lA (T:Tx K mg cs) { gf:Gf} (hL:∀ ds,ds.length=1→gf ds≠.no→aV (n9 cs (ds.map some++List.replicate 0 none))=gf ds):aO P w K mg base 1 "work_of" 1 gf:=by
  obtain ⟨f,fd,F,b,m⟩:=T.f_work_of
  exact aO.of (O:=[]) (G:=n9 cs) F xo b m (by decide) (fun cdv A outer s H E hr=>(az (aS (zM rfl T.b_sum (ae (gQ (dZ (M:=["errand"]) (own:=["part"]) (n0:=1) (cond:=cY) rfl (dq (bG (ah 0) ay)) dr (fun _ _ _ _=>(bf (i:=1) tf rfl (Or.inl rfl) (.inr rfl))) (fun _ _ _ _=>.nil) (fun σ H Q qz3=>(by obtain ⟨A,δ,R,o⟩:=qz3; exact o H (aM.refl _))) (fun _ _ _ _=>(bG (ah 1) ay)))) ai))))) hL
theorem vL:aT ["errand", "tool"] ["errand", "tool"] (aB mw):=⟨rfl,rfl,rfl,by decide +kernel,rfl,by decide +kernel,by decide +kernel⟩
theorem qZ:(["errand", "tool", "part"]:List Str).Nodup:=by decide +kernel
theorem mj (T:Tx K mg cs) { gf:Gf} (hL:∀ ds,ds.length=2→gf ds≠.no→aV (iG cs (ds.map some++List.replicate 0 none))=gf ds):aO P w K mg base 1 "has_tool" 2 gf:=by
  obtain ⟨f,fd,F,b,m⟩:=T.f_has_tool
  exact aO.of (O:=[]) (G:=iG cs) F vL b m (by decide) (fun cdv A outer s H E hr=>(az (aS (EC (ah 1) (gQ (dZ (M:=["errand", "tool"]) (own:=["part"]) (n0:=2) (cond:=cY) rfl (dq (bG (ah 0) ay)) dr (fun _ _ _ _=>(bf (i:=2) qZ rfl (Or.inl rfl) (.inr rfl))) (fun _ _ _ _=>.nil) (fun σ H Q qz3=>(by obtain ⟨A,δ,R,o⟩:=qz3; exact o H (aM.refl _))) (fun _ _ _ _=>(bG (ah 2) ay)))))))) hL
theorem oq:aT ["errands", "ranks", "tool", "place", "number"] ["errands", "ranks", "tool"] (aB pL):=⟨rfl,rfl,rfl,by decide +kernel,rfl,by decide +kernel,by decide +kernel⟩
theorem pZ (T:Tx K mg cs) { b8 gf:Gf} (mj:aO P w K mg base 1 "has_tool" 2 b8) (hL:∀ ds,ds.length=3→gf ds≠.no→aV (kL cs b8 (ds.map some++List.replicate 2 none))=gf ds):aO P w K mg base 2 "height" 3 gf:=by
  obtain ⟨f,fd,F,b,m⟩:=T.f_height
  exact aO.of (O:=[]) (G:=kL cs b8) F oq b m (by decide) (fun cdv A outer s H E hr=>(au (dQ PassesOwn.leaving rfl (uE T.b_enumerate (ae (ah 1) ai)) (lJ (is:=[3,4]) (by decide)) (oJ rfl (cU (bf (i:=3) oq.nd rfl (by first | exact Or.inl rfl | exact Or.inr rfl)) (cU (bf (i:=4) oq.nd rfl (by first | exact Or.inl rfl | exact Or.inr rfl)) lG))) (az (cX (cz (aG mj hr aK (ae (bG (ah 0) (ah 4)) (ae (ah 2) ai)))) (az (aS (ah 3))) cm)))
      (az (aS fk)))) hL
theorem qV:aT ["errands", "ranks"] ["errands", "ranks"] (aB kq):=⟨rfl,rfl,rfl,by decide +kernel,rfl,by decide +kernel,by decide +kernel⟩
theorem pe:(["errands", "ranks", "tool"]:List Str).Nodup:=by decide +kernel
theorem jQ (T:Tx K mg cs) { cJ gf:Gf} (pZ:aO P w K mg base 2 "height" 3 cJ) (hL:∀ ds,ds.length=2→gf ds≠.no→aV (fB cs cJ (ds.map some++List.replicate 0 none))=gf ds):aO P w K mg base 3 "heights_of" 2 gf:=by
  obtain ⟨f,fd,F,b,m⟩:=T.f_heights_of
  exact aO.of (O:=[]) (G:=fB cs cJ) F qV b m (by decide) (fun cdv A outer s H E hr=>(az (aS (gQ (dZ (M:=["errands", "ranks"]) (own:=["tool"]) (n0:=2) (cond:=cY) rfl (eC T.b_range (ae (i6 T.c_TOOLS) ai)) dr (fun _ _ _ _=>(bf (i:=2) pe rfl (Or.inl rfl) (.inr rfl))) (fun _ _ _ _=>.nil) (fun σ H Q qz3=>(by obtain ⟨A,δ,R,o⟩:=qz3; exact o H (aM.refl _))) (fun _ _ _ _=>(aG pZ hr iM (ae (ah 0) (ae (ah 1) (ae (ah 2) ai)))))))))) hL
theorem eF:aT ["errands", "ranks", "number", "place", "tops", "found", "lower", "part", "pair"] ["errands", "ranks", "number"] (aB mK):=⟨rfl,rfl,rfl,by decide +kernel,rfl,by decide +kernel,by decide +kernel⟩
theorem mQ (T:Tx K mg cs) { bX gf:Gf} (jQ:aO P w K mg base 3 "heights_of" 2 bX) (nP:AL P w K mg base 1 "Holding" cs.Holding ["number", "part", "tool", "times"]) (hL:∀ ds,ds.length=3→gf ds≠.no→aV (iE cs bX (ds.map some++List.replicate 6 none))=gf ds):aO P w K mg base 4 "holdings" 3 gf:=by
  obtain ⟨f,fd,F,b,m⟩:=T.f_holdings
  exact aO.of (O:=[5]) (G:=iE cs bX) F eF b m (by decide) (fun cdv A outer s H E hr=>(au (a6 (i:=3) (m8 (ah 1) (ah 2)) eF.nd)
      (au (a6 (i:=4) (aG jQ hr aK (ae (ah 0) (ae (ah 1) ai))) eF.nd)
      (au (lE (i:=5) (nJ ai) eF.nd)
      (au (dQ PassesOwn.leaving rfl (dq (fO (ah 1) (fN (bO (ah 3) ay)) fX)) (eH (i:=6) (by decide)) (bf (i:=6) eF.nd rfl (by first | exact Or.inl rfl | exact Or.inr rfl)) (az (dQ PassesOwn.leaving rfl (uE T.b_enumerate (ae (bG (bG (ah 0) (ah 6)) ay) ai)) (lJ (is:=[7,8]) (by decide)) (oJ rfl (cU (bf (i:=7) eF.nd rfl (by first | exact Or.inl rfl | exact Or.inr rfl)) (cU (bf (i:=8) eF.nd rfl (by first | exact Or.inl rfl | exact Or.inr rfl)) lG))) (az (cX (kR (nk (ly (bG (ah 8) ay)) (kT (tU (bG (ah 4) (bG (ah 8) ay)) (ah 3))))) (az (tx (i:=5) (Cm nP hr aK (ae (ah 6) (ae (ah 7) (ae (bG (ah 8) ay) (ae (ee (bG (ah 8) ay) ay) ai))))))) cm)))))
      (az (aS (ah 5)))))))) hL
theorem pk:aT ["errands", "ranks", "number"] ["errands", "ranks", "number"] (aB iN):=⟨rfl,rfl,rfl,by decide +kernel,rfl,by decide +kernel,by decide +kernel⟩
theorem mY:(["errands", "ranks", "number", "holding"]:List Str).Nodup:=by decide +kernel
theorem ix (T:Tx K mg cs) { ck gf:Gf} (mQ:aO P w K mg base 4 "holdings" 3 ck) (hL:∀ ds,ds.length=3→gf ds≠.no→aV (eI cs ck (ds.map some++List.replicate 0 none))=gf ds):aO P w K mg base 5 "hold_by_high" 3 gf:=by
  obtain ⟨f,fd,F,b,m⟩:=T.f_hold_by_high
  exact aO.of (O:=[]) (G:=eI cs ck) F pk b m (by decide) (fun cdv A outer s H E hr=>(az (aS (BJ rfl T.b_max (gQ (dZ (M:=["errands", "ranks", "number"]) (own:=["holding"]) (n0:=3) (cond:=cY) rfl (dq (aG mQ hr aK (ae (ah 0) (ae (ah 1) (ae (ah 2) ai))))) dr (fun _ _ _ _=>(bf (i:=3) mY rfl (Or.inl rfl) (.inr rfl))) (fun _ _ _ _=>.nil) (fun σ H Q qz3=>(by obtain ⟨A,δ,R,o⟩:=qz3; exact o H (aM.refl _))) (fun _ _ _ _=>(Ei T.cl_Holding T.na_Holding_times (ah 3))))) ay)))) hL
theorem rj:aT ["times", "every"] ["times", "every"] (aB j6):=⟨rfl,rfl,rfl,by decide +kernel,rfl,by decide +kernel,by decide +kernel⟩
theorem jM (T:Tx K mg cs) { gf:Gf} (hL:∀ ds,ds.length=2→gf ds≠.no→aV (fQ cs (ds.map some++List.replicate 0 none))=gf ds):aO P w K mg base 1 "rounded_up" 2 gf:=by
  obtain ⟨f,fd,F,b,m⟩:=T.f_rounded_up
  exact aO.of (O:=[]) (G:=fQ cs) F rj b m (by decide) (fun cdv A outer s H E hr=>(az (aS (xa (ee (bO (ah 0) (ah 1)) ay) (ah 1))))) hL
theorem nC:aT ["errands", "ranks", "number", "held_up", "times", "total", "higher", "errand"] ["errands", "ranks", "number", "held_up", "times"] (aB wV):=⟨rfl,rfl,rfl,by decide +kernel,rfl,by decide +kernel,by decide +kernel⟩
theorem t6 (T:Tx K mg cs) { gf_work_of bE gf:Gf} (lA:aO P w K mg base 1 "work_of" 1 gf_work_of) (jM:aO P w K mg base 1 "rounded_up" 2 bE) (hL:∀ ds,ds.length=5→gf ds≠.no→aV (qe cs gf_work_of bE (ds.map some++List.replicate 3 none))=gf ds):aO P w K mg base 2 "need" 5 gf:=by
  obtain ⟨f,fd,F,b,m⟩:=T.f_need
  exact aO.of (O:=[]) (G:=qe cs gf_work_of bE) F nC b m (by decide) (fun cdv A outer s H E hr=>(au (a6 (i:=5) (bO (ah 3) (aG lA hr aK (ae (bG (ah 0) (ah 2)) ai))) nC.nd)
      (au (dQ PassesOwn.leaving rfl (dq (fO (ah 1) fX (fN (m8 (ah 1) (ah 2))))) (eH (i:=6) (by decide)) (bf (i:=6) nC.nd rfl (by first | exact Or.inl rfl | exact Or.inr rfl)) (au (a6 (i:=7) (bG (ah 0) (ah 6)) nC.nd)
      (az (yg (i:=5) (sH (aG lA hr aK (ae (ah 7) ai)) (aG jM hr aK (ae (bO (ah 4) (bG (ah 7) ay)) (ae (bG (ah 7) ay) ai)))) nC.nd))))
      (az (aS (ah 5)))))) hL
theorem eQ:aT ["errands", "ranks", "number", "held_up", "most", "found", "level", "following"] ["errands", "ranks", "number", "held_up"] (aB kD):=⟨rfl,rfl,rfl,by decide +kernel,rfl,by decide +kernel,by decide +kernel⟩
theorem kC (T:Tx K mg cs) { cK gf:Gf} (t6:aO P w K mg base 2 "need" 5 cK) (hL:∀ ds,ds.length=4→gf ds≠.no→aV (gG cs cK (ds.map some++List.replicate 4 none))=gf ds):aO P w K mg base 3 "levels_by" 4 gf:=by
  obtain ⟨f,fd,F,b,m⟩:=T.f_levels_by
  exact aO.of (O:=[5]) (G:=gG cs cK) F eQ b m (by decide) (fun cdv A outer s H E hr=>(au (a6 (i:=4) (ee (bG (bG (ah 0) (ah 2)) ay) (bG (bG (ah 0) (ah 2)) ay)) eQ.nd)
      (au (lE (i:=5) (nJ ai) eQ.nd)
      (au (a6 (i:=6) (aG t6 hr aK (ae (ah 0) (ae (ah 1) (ae (ah 2) (ae (ah 3) (ae ay ai)))))) eQ.nd)
      (au (oK 1000000 PassesOwn.leaving (tU (ah 6) (ah 4)) (au (tx (i:=5) (ah 6))
      (au (a6 (i:=7) (aG t6 hr aK (ae (ah 0) (ae (ah 1) (ae (ah 2) (ae (ah 3) (ae (ah 6) ai)))))) eQ.nd)
      (au (cX (qL hr (ah 7) (ah 6)) (az (aS (ah 5))) cm)
      (az (a6 (i:=6) (ah 7) eQ.nd))))))
      (az (aS fk))))))) hL
theorem lS:aT ["errands", "ranks", "number", "held_up", "found"] ["errands", "ranks", "number", "held_up"] (aB jO):=⟨rfl,rfl,rfl,by decide +kernel,rfl,by decide +kernel,by decide +kernel⟩
theorem ku (T:Tx K mg cs) { cf gf:Gf} (kC:aO P w K mg base 3 "levels_by" 4 cf) (hL:∀ ds,ds.length=4→gf ds≠.no→aV (eJ cs cf (ds.map some++List.replicate 1 none))=gf ds):aO P w K mg base 4 "longest_by" 4 gf:=by
  obtain ⟨f,fd,F,b,m⟩:=T.f_longest_by
  exact aO.of (O:=[]) (G:=eJ cs cf) F lS b m (by decide) (fun cdv A outer s H E hr=>(au (a6 (i:=4) (aG kC hr aK (ae (ah 0) (ae (ah 1) (ae (ah 2) (ae (ah 3) ai))))) lS.nd)
      (az (aS (CU (ym (ah 4)) fk (bG (ah 4) (oj ay))))))) hL
theorem mF:aT ["errands", "ranks", "number"] ["errands", "ranks", "number"] (aB fP):=⟨rfl,rfl,rfl,by decide +kernel,rfl,by decide +kernel,by decide +kernel⟩
theorem fR (T:Tx K mg cs) { bJ b4 gf:Gf} (ix:aO P w K mg base 5 "hold_by_high" 3 bJ) (ku:aO P w K mg base 4 "longest_by" 4 b4) (hL:∀ ds,ds.length=3→gf ds≠.no→aV (dj cs bJ b4 (ds.map some++List.replicate 0 none))=gf ds):aO P w K mg base 6 "longest_by_high" 3 gf:=by
  obtain ⟨f,fd,F,b,m⟩:=T.f_longest_by_high
  exact aO.of (O:=[]) (G:=dj cs bJ b4) F mF b m (by decide) (fun cdv A outer s H E hr=>(az (aS (aG ku hr aK (ae (ah 0) (ae (ah 1) (ae (ah 2) (ae (aG ix hr aK (ae (ah 0) (ae (ah 1) (ae (ah 2) ai)))) ai)))))))) hL
theorem oZ:aT ["errands", "ranks", "number", "room", "answer"] ["errands", "ranks", "number", "room"] (aB mL):=⟨rfl,rfl,rfl,by decide +kernel,rfl,by decide +kernel,by decide +kernel⟩
theorem ic (T:Tx K mg cs) { bp gf:Gf} (fR:aO P w K mg base 6 "longest_by_high" 3 bp) (hL:∀ ds,ds.length=4→gf ds≠.no→aV (gx cs bp (ds.map some++List.replicate 1 none))=gf ds):aO P w K mg base 7 "has_room" 4 gf:=by
  obtain ⟨f,fd,F,b,m⟩:=T.f_has_room
  exact aO.of (O:=[]) (G:=gx cs bp) F oZ b m (by decide) (fun cdv A outer s H E hr=>(au (a6 (i:=4) (aG fR hr aK (ae (ah 0) (ae (ah 1) (ae (ah 2) ai)))) oZ.nd)
      (az (aS (qk (yd (ah 4)) (oI (CI (bO (ah 4) (ah 3)) (bG (bG (ah 0) (ah 2)) ay)))))))) hL
theorem rd:aT ["errands", "ranks", "number"] ["errands", "ranks", "number"] (aB kj):=⟨rfl,rfl,rfl,by decide +kernel,rfl,by decide +kernel,by decide +kernel⟩
theorem km (T:Tx K mg cs) { bu gf:Gf} (ic:aO P w K mg base 7 "has_room" 4 bu) (hL:∀ ds,ds.length=3→gf ds≠.no→aV (fI cs bu (ds.map some++List.replicate 0 none))=gf ds):aO P w K mg base 8 "is_in_time" 3 gf:=by
  obtain ⟨f,fd,F,b,m⟩:=T.f_is_in_time
  exact aO.of (O:=[]) (G:=fI cs bu) F rd b m (by decide) (fun cdv A outer s H E hr=>(az (aS (aG ic hr aK (ae (ah 0) (ae (ah 1) (ae (ah 2) (ae ay ai)))))))) hL
theorem kn:aT ["errands", "some", "number", "higher", "lower"] ["errands", "some", "number"] (aB kP):=⟨rfl,rfl,rfl,by decide +kernel,rfl,by decide +kernel,by decide +kernel⟩
theorem kH:(["errands", "some", "number", "higher", "lower", "other"]:List Str).Nodup:=by decide +kernel
theorem kY (T:Tx K mg cs) { gf:Gf} (hL:∀ ds,ds.length=3→gf ds≠.no→aV (gK cs (ds.map some++List.replicate 2 none))=gf ds):aO P w K mg base 1 "as_lowest" 3 gf:=by
  obtain ⟨f,fd,F,b,m⟩:=T.f_as_lowest
  exact aO.of (O:=[]) (G:=gK cs) F kn b m (by decide) (fun cdv A outer s H E hr=>(au (vp (i:=3) (ux (i:=3) (M:=["errands", "some", "number", "higher", "lower"]) (own:=["other"]) (n0:=5) (cond:=(gT (g2 dNe (ag 5) (ag 2)))) rfl kn.nd (dq (ah 1)) dr (fun _ _ _ _=>(bf (i:=5) kH rfl (Or.inl rfl) (.inr rfl))) (fun _ _ _ _=>(pD (A7 hr (ah 5) (ah 2)))) (fun _ _ _ h=>h) (fun _ _ _ _=>(ah 5))))
      (au (vp (i:=4) (ux (i:=4) (M:=["errands", "some", "number", "higher", "lower"]) (own:=["other"]) (n0:=5) (cond:=(gT (g2 (kS true) (ag 5) (ag 1)))) rfl kn.nd (eC T.b_range (ae (fA T.b_len (ae (ah 0) ai)) ai)) dr (fun _ _ _ _=>(bf (i:=5) kH rfl (Or.inl rfl) (.inr rfl))) (fun _ _ _ _=>(pD (sr (ah 5) (ah 1)))) (fun _ _ _ h=>h) (fun _ _ _ _=>(ah 5))))
      (az (aS (jW T.b_tuple (ae (bO (bO (ah 3) (ur (ae (ah 2) ai))) (ah 4)) ai))))))) hL
theorem q9:aT ["errands", "placed"] ["errands", "placed"] (aB ko):=⟨rfl,rfl,rfl,by decide +kernel,rfl,by decide +kernel,by decide +kernel⟩
theorem pj:(["errands", "placed", "number"]:List Str).Nodup:=by decide +kernel
theorem jJ (T:Tx K mg cs) { gf:Gf} (hL:∀ ds,ds.length=2→gf ds≠.no→aV (fS cs (ds.map some++List.replicate 0 none))=gf ds):aO P w K mg base 1 "not_placed" 2 gf:=by
  obtain ⟨f,fd,F,b,m⟩:=T.f_not_placed
  exact aO.of (O:=[]) (G:=fS cs) F q9 b m (by decide) (fun cdv A outer s H E hr=>(az (aS (gQ (dZ (M:=["errands", "placed"]) (own:=["number"]) (n0:=2) (cond:=(gT (g2 (kS true) (ag 2) (ag 1)))) rfl (eC T.b_range (ae (fA T.b_len (ae (ah 0) ai)) ai)) dr (fun _ _ _ _=>(bf (i:=2) pj rfl (Or.inl rfl) (.inr rfl))) (fun _ _ _ _=>(pD (sr (ah 2) (ah 1)))) (fun _ _ _ h=>h) (fun _ _ _ _=>(ah 2))))))) hL
theorem eZ:aT ["errands", "placed", "room", "left", "number"] ["errands", "placed", "room"] (aB fi):=⟨rfl,rfl,rfl,by decide +kernel,rfl,by decide +kernel,by decide +kernel⟩
theorem dW (T:Tx K mg cs) { bR bu bD gf:Gf} (kY:aO P w K mg base 1 "as_lowest" 3 bR) (ic:aO P w K mg base 7 "has_room" 4 bu) (jJ:aO P w K mg base 1 "not_placed" 2 bD) (hL:∀ ds,ds.length=3→gf ds≠.no→aV (c7 cs bR bu bD (ds.map some++List.replicate 2 none))=gf ds):aO P w K mg base 8 "following_lowest" 3 gf:=by
  obtain ⟨f,fd,F,b,m⟩:=T.f_following_lowest
  exact aO.of (O:=[]) (G:=c7 cs bR bu bD) F eZ b m (by decide) (fun cdv A outer s H E hr=>(au (a6 (i:=3) (aG jJ hr aK (ae (ah 0) (ae (ah 1) ai))) eZ.nd)
      (au (dQ PassesOwn.leaving rfl (dq (ah 3)) (eH (i:=4) (by decide)) (bf (i:=4) eZ.nd rfl (by first | exact Or.inl rfl | exact Or.inr rfl)) (az (cX (cz (aG ic hr aK (ae (ah 0) (ae (aG kY hr aK (ae (ah 0) (ae (ah 3) (ae (ah 4) ai)))) (ae (ah 4) (ae (ah 2) ai)))))) (az (aS (ah 4))) cm)))
      (az (aS fk))))) hL
theorem cH:aT ["errands", "room", "placed", "number"] ["errands", "room"] (aB eV):=⟨rfl,rfl,rfl,by decide +kernel,rfl,by decide +kernel,by decide +kernel⟩
theorem eY (T:Tx K mg cs) { aN gf:Gf} (dW:aO P w K mg base 8 "following_lowest" 3 aN) (hL:∀ ds,ds.length=2→gf ds≠.no→aV (cV cs aN (ds.map some++List.replicate 2 none))=gf ds):aO P w K mg base 9 "placed_from_below" 2 gf:=by
  obtain ⟨f,fd,F,b,m⟩:=T.f_placed_from_below
  exact aO.of (O:=[]) (G:=cV cs aN) F cH b m (by decide) (fun cdv A outer s H E hr=>(au (a6 (i:=2) (je ai) cH.nd)
      (au (a6 (i:=3) (aG dW hr aK (ae (ah 0) (ae (ah 2) (ae (ah 1) ai)))) cH.nd)
      (au (oK 1000000 PassesOwn.leaving (ly (ah 3)) (au (a6 (i:=2) (bO (je (ae (ah 3) ai)) (ah 2)) cH.nd)
      (az (a6 (i:=3) (aG dW hr aK (ae (ah 0) (ae (ah 2) (ae (ah 1) ai)))) cH.nd))))
      (az (aS (ah 2))))))) hL
theorem iy:aT ["errands", "room", "placed"] ["errands", "room"] (aB fW):=⟨rfl,rfl,rfl,by decide +kernel,rfl,by decide +kernel,by decide +kernel⟩
theorem fG (T:Tx K mg cs) { aX gf:Gf} (eY:aO P w K mg base 9 "placed_from_below" 2 aX) (hL:∀ ds,ds.length=2→gf ds≠.no→aV (dg cs aX (ds.map some++List.replicate 1 none))=gf ds):aO P w K mg base 10 "ranks_with_room" 2 gf:=by
  obtain ⟨f,fd,F,b,m⟩:=T.f_ranks_with_room
  exact aO.of (O:=[]) (G:=dg cs aX) F iy b m (by decide) (fun cdv A outer s H E hr=>(au (a6 (i:=2) (aG eY hr aK (ae (ah 0) (ae (ah 1) ai))) iy.nd)
      (az (aS (CU (qL hr (fA T.b_len (ae (ah 2) ai)) (fA T.b_len (ae (ah 0) ai))) (ah 2) fk))))) hL
theorem xc:aT ["errands"] ["errands"] (aB oC):=⟨rfl,rfl,rfl,by decide +kernel,rfl,by decide +kernel,by decide +kernel⟩
theorem lC (T:Tx K mg cs) { a7 ba gf:Gf} (fG:aO P w K mg base 10 "ranks_with_room" 2 a7) (jA:aO P w K mg base 5 "checked" 1 ba) (hL:∀ ds,ds.length=1→gf ds≠.no→aV (gA cs a7 ba (ds.map some++List.replicate 0 none))=gf ds):aO P w K mg base 11 "fitting" 1 gf:=by
  obtain ⟨f,fd,F,b,m⟩:=T.f_fitting
  exact aO.of (O:=[]) (G:=gA cs a7 ba) F xc b m (by decide) (fun cdv A outer s H E hr=>(au (kN (aG jA hr aK (ae (ah 0) ai)))
      (az (aS (aG fG hr aK (ae (ah 0) (ae ay ai))))))) hL
theorem yH:aT ["errands", "ranks"] ["errands", "ranks"] (aB pR):=⟨rfl,rfl,rfl,by decide +kernel,rfl,by decide +kernel,by decide +kernel⟩
theorem uQ:(["errands", "ranks", "number"]:List Str).Nodup:=by decide +kernel
theorem kZ (T:Tx K mg cs) { bY gf:Gf} (km:aO P w K mg base 8 "is_in_time" 3 bY) (hL:∀ ds,ds.length=2→gf ds≠.no→aV (k6 cs bY (ds.map some++List.replicate 0 none))=gf ds):aO P w K mg base 9 "do_fit" 2 gf:=by
  obtain ⟨f,fd,F,b,m⟩:=T.f_do_fit
  exact aO.of (O:=[]) (G:=k6 cs bY) F yH b m (by decide) (fun cdv A outer s H E hr=>(az (aS (tO rfl T.b_all (ae (gQ (dZ (M:=["errands", "ranks"]) (own:=["number"]) (n0:=2) (cond:=cY) rfl (dq (ah 1)) dr (fun _ _ _ _=>(bf (i:=2) uQ rfl (Or.inl rfl) (.inr rfl))) (fun _ _ _ _=>.nil) (fun σ H Q qz3=>(by obtain ⟨A,δ,R,o⟩:=qz3; exact o H (aM.refl _))) (fun _ _ _ _=>(aG km hr iM (ae (ah 0) (ae (ah 1) (ae (ah 2) ai))))))) ai))))) hL
theorem qh:aT ["errands", "number", "errand"] ["errands", "number", "errand"] (aB jf):=⟨rfl,rfl,rfl,by decide +kernel,rfl,by decide +kernel,by decide +kernel⟩
theorem jr (T:Tx K mg cs) { gf:Gf} (hL:∀ ds,ds.length=3→gf ds≠.no→aV (fb cs (ds.map some++List.replicate 0 none))=gf ds):aO P w K mg base 1 "with_errand" 3 gf:=by
  obtain ⟨f,fd,F,b,m⟩:=T.f_with_errand
  exact aO.of (O:=[]) (G:=fb cs) F qh b m (by decide) (fun cdv A outer s H E hr=>(az (aS (bO (bO (fO (ah 0) fX (fN (ah 1))) (je (ae (ah 2) ai))) (fO (ah 0) (fN (bO (ah 1) ay)) fX))))) hL
theorem iB:aT ["errands", "number", "times", "errand"] ["errands", "number", "times"] (aB fF):=⟨rfl,rfl,rfl,by decide +kernel,rfl,by decide +kernel,by decide +kernel⟩
theorem fH (T:Tx K mg cs) { bB gf:Gf} (jr:aO P w K mg base 1 "with_errand" 3 bB) (hL:∀ ds,ds.length=3→gf ds≠.no→aV (dw cs bB (ds.map some++List.replicate 1 none))=gf ds):aO P w K mg base 2 "with_less_every" 3 gf:=by
  obtain ⟨f,fd,F,b,m⟩:=T.f_with_less_every
  exact aO.of (O:=[]) (G:=dw cs bB) F iB b m (by decide) (fun cdv A outer s H E hr=>(au (a6 (i:=3) (bG (ah 0) (ah 1)) iB.nd)
      (az (aS (aG jr hr aK (ae (ah 0) (ae (ah 1) (ae (bO (je (ae (ee (bG (ah 3) ay) (ah 2)) ai)) (fO (ah 3) (fN ay) fX)) ai)))))))) hL
theorem o3:aT ["errands", "ranks", "number", "times", "changed"] ["errands", "ranks", "number", "times"] (aB ma):=⟨rfl,rfl,rfl,by decide +kernel,rfl,by decide +kernel,by decide +kernel⟩
theorem mn (T:Tx K mg cs) { gf_is_errand bV a8 gf:Gf} (gH:aO P w K mg base 4 "is_errand" 1 gf_is_errand) (kZ:aO P w K mg base 9 "do_fit" 2 bV) (fH:aO P w K mg base 2 "with_less_every" 3 a8) (hL:∀ ds,ds.length=4→gf ds≠.no→aV (iu cs gf_is_errand bV a8 (ds.map some++List.replicate 1 none))=gf ds):aO P w K mg base 10 "can_rush" 4 gf:=by
  obtain ⟨f,fd,F,b,m⟩:=T.f_can_rush
  exact aO.of (O:=[]) (G:=iu cs gf_is_errand bV a8) F o3 b m (by decide) (fun cdv A outer s H E hr=>(au (a6 (i:=4) (aG fH hr aK (ae (ah 0) (ae (ah 2) (ae (ah 3) ai)))) o3.nd)
      (az (aS (qk (aG gH hr aK (ae (bG (ah 4) (ah 2)) ai)) (oI (aG kZ hr aK (ae (ah 4) (ae (ah 1) ai))))))))) hL
theorem uh:aT ["errands", "ranks", "number", "times"] ["errands", "ranks", "number"] (aB xb):=⟨rfl,rfl,rfl,by decide +kernel,rfl,by decide +kernel,by decide +kernel⟩
theorem wX (T:Tx K mg cs) { cg bV bL gf:Gf} (mn:aO P w K mg base 10 "can_rush" 4 cg) (kZ:aO P w K mg base 9 "do_fit" 2 bV) (jo:aO P w K mg base 6 "check_place" 3 bL) (hL:∀ ds,ds.length=3→gf ds≠.no→aV (qa cs cg bV bL (ds.map some++List.replicate 1 none))=gf ds):aO P w K mg base 11 "rush" 3 gf:=by
  obtain ⟨f,fd,F,b,m⟩:=T.f_rush
  exact aO.of (O:=[]) (G:=qa cs cg bV bL) F uh b m (by decide) (fun cdv A outer s H E hr=>(au (kN (aG jo hr aK (ae (ah 0) (ae (ah 1) (ae (ah 2) ai)))))
      (au (cX (dC (cz (aG kZ hr aK (ae (ah 0) (ae (ah 1) ai))))) (az (aS fk)) cm)
      (au (a6 (i:=3) ay uh.nd)
      (au (oK 1000000 PassesOwn.leaving (cz (aG mn hr aK (ae (ah 0) (ae (ah 1) (ae (ah 2) (ae (bO (ah 3) ay) ai)))))) (az (yg (i:=3) ay uh.nd)))
      (az (aS (ah 3)))))))) hL
theorem cF:aT ["_law_script", "_law_at", "_law_top", "_law_tools", "_law_every", "_law_late", "_law_due", "_law_parts", "_law_k", "_law_cell"] ["_law_script", "_law_at", "_law_top", "_law_tools"] (aB jN):=⟨rfl,rfl,rfl,by decide +kernel,rfl,by decide +kernel,by decide +kernel⟩
theorem j9 (T:Tx K mg cs) { ak gf:Gf} (b0:aO P w K mg base 2 "_law_mixed" 3 ak) (hL:∀ ds,ds.length=4→gf ds≠.no→aV (fT cs ak (ds.map some++List.replicate 6 none))=gf ds):aO P w K mg base 3 "_law_errand" 4 gf:=by
  obtain ⟨f,fd,F,b,m⟩:=T.f_law_errand
  exact aO.of (O:=[7]) (G:=fT cs ak) F cF b m (by decide) (fun cdv A outer s H E hr=>(au (a6 (i:=4) (bO ay (aG b0 hr aK (ae (ah 0) (ae (ah 1) (ae (ah 2) ai))))) cF.nd)
      (au (a6 (i:=5) (sH (aG b0 hr aK (ae (ah 0) (ae (bO (ah 1) ay) (ae ay ai)))) (uS T.b_int (ae (CH hr (aG b0 hr aK (ae (ah 0) (ae (bO (ah 1) ay) (ae ay ai)))) ay) ai))) cF.nd)
      (au (a6 (i:=5) (xT rfl T.b_min (ae (ah 5) (ae (ee (ah 4) ay) ai))) cF.nd)
      (au (a6 (i:=6) (ee (ah 4) (ah 5)) cF.nd)
      (au (cX (qL hr (aG b0 hr aK (ae (ah 0) (ae (bO (ah 1) ay) (ae ay ai)))) ay) (az (a6 (i:=6) (ee (ah 6) (aG b0 hr aK (ae (ah 0) (ae (bO (ah 1) ay) (ae (ah 6) ai))))) cF.nd)) cm)
      (au (lE (i:=7) (nJ ai) cF.nd)
      (au (dQ PassesOwn.leaving rfl (eC T.b_range (ae (aG b0 hr aK (ae (ah 0) (ae (bO (ah 1) ay) (ae ay ai)))) ai)) (eH (i:=8) (by decide)) (bf (i:=8) cF.nd rfl (by first | exact Or.inl rfl | exact Or.inr rfl)) (au (a6 (i:=9) (aG b0 hr aK (ae (ah 0) (ae (bO (bO (ah 1) ay) (ah 8)) (ae ay ai)))) cF.nd)
      (au (tx (i:=7) (je (ae (bO ay (xv (ah 9) ay)) (ae (bG (ur (ae ay (ae ay (ae ay (ae ay (ae fk ai)))))) (xv (xa (ah 9) ay) ay)) ai))))
      (az (cX (dC (cz (ah 3))) (az (ye (i:=7) (je (ae (bG (bG (ah 7) (oj ay)) ay) (ae fk ai))) (oj ay))) cm)))))
      (az (aS (je (ae (ah 4) (ae (ah 6) (ae (ah 5) (ae (jW T.b_tuple (ae (bO (ah 7) (ur (ae (je (ae (bO ay (aG b0 hr aK (ae (ah 0) (ae (bO (ah 1) ay) (ae ay ai))))) (ae fk ai))) ai))) ai)) ai))))))))))))))) hL
theorem kE:aT ["_law_script", "_law_at", "_law_most", "_law_top", "_law_tools", "_law_many"] ["_law_script", "_law_at", "_law_most", "_law_top", "_law_tools"] (aB i9):=⟨rfl,rfl,rfl,by decide +kernel,rfl,by decide +kernel,by decide +kernel⟩
theorem nR:(["_law_script", "_law_at", "_law_most", "_law_top", "_law_tools", "_law_many", "_law_k"]:List Str).Nodup:=by decide +kernel
theorem ja (T:Tx K mg cs) { bU ak gf:Gf} (j9:aO P w K mg base 3 "_law_errand" 4 bU) (b0:aO P w K mg base 2 "_law_mixed" 3 ak) (hL:∀ ds,ds.length=5→gf ds≠.no→aV (fe cs bU ak (ds.map some++List.replicate 1 none))=gf ds):aO P w K mg base 4 "_law_errands" 5 gf:=by
  obtain ⟨f,fd,F,b,m⟩:=T.f_law_errands
  exact aO.of (O:=[]) (G:=fe cs bU ak) F kE b m (by decide) (fun cdv A outer s H E hr=>(au (a6 (i:=5) (bO ay (aG b0 hr aK (ae (ah 0) (ae (ah 1) (ae (ah 2) ai))))) kE.nd)
      (az (aS (jW T.b_tuple (ae (gQ (dZ (M:=["_law_script", "_law_at", "_law_most", "_law_top", "_law_tools", "_law_many"]) (own:=["_law_k"]) (n0:=6) (cond:=cY) rfl (eC T.b_range (ae (ah 5) ai)) dr (fun _ _ _ _=>(bf (i:=6) nR rfl (Or.inl rfl) (.inr rfl))) (fun _ _ _ _=>.nil) (fun σ H Q qz3=>(by obtain ⟨A,δ,R,o⟩:=qz3; exact o H (aM.refl _))) (fun _ _ _ _=>(aG j9 hr iM (ae (ah 0) (ae (bO (bO (ah 1) ay) (sH ay (ah 6))) (ae (ah 3) (ae (ah 4) ai)))))))) ai)))))) hL
theorem g9:aT ["_law_script", "_law_at", "_law_many", "_law_left", "_law_made", "_law_k"] ["_law_script", "_law_at", "_law_many"] (aB kK):=⟨rfl,rfl,rfl,by decide +kernel,rfl,by decide +kernel,by decide +kernel⟩
theorem kW (T:Tx K mg cs) { ak gf:Gf} (b0:aO P w K mg base 2 "_law_mixed" 3 ak) (hL:∀ ds,ds.length=3→gf ds≠.no→aV (gO cs ak (ds.map some++List.replicate 3 none))=gf ds):aO P w K mg base 3 "_law_ranks" 3 gf:=by
  obtain ⟨f,fd,F,b,m⟩:=T.f_law_ranks
  exact aO.of (O:=[3,4]) (G:=gO cs ak) F g9 b m (by decide) (fun cdv A outer s H E hr=>(au (lE (i:=3) (yD rfl T.b_range T.b_list (ae (ah 2) ai)) g9.nd)
      (au (lE (i:=4) (nJ ai) g9.nd)
      (au (dQ PassesOwn.leaving rfl (eC T.b_range (ae (ah 2) ai)) (eH (i:=5) (by decide)) (bf (i:=5) g9.nd rfl (by first | exact Or.inl rfl | exact Or.inr rfl)) (az (wM (y:=4) (x:=3) (aG b0 hr aK (ae (ah 0) (ae (bO (ah 1) (ah 5)) (ae (fA T.b_len (ae (ah 3) ai)) ai)))))))
      (az (aS (jW T.b_tuple (ae (ah 4) ai)))))))) hL
theorem eo:aT ["_law_errands_here", "_law_ranks_here", "_law_found", "_law_place", "_law_length", "_law_tool"] ["_law_errands_here", "_law_ranks_here"] (aB jk):=⟨rfl,rfl,rfl,by decide +kernel,rfl,by decide +kernel,by decide +kernel⟩
theorem jn (T:Tx K mg cs) { gf:Gf} (hL:∀ ds,ds.length=2→gf ds≠.no→aV (ff cs (ds.map some++List.replicate 4 none))=gf ds):aO P w K mg base 1 "_law_heights" 2 gf:=by
  obtain ⟨f,fd,F,b,m⟩:=T.f_law_heights
  exact aO.of (O:=[2]) (G:=ff cs) F eo b m (by decide) (fun cdv A outer s H E hr=>(au (lE (i:=2) (nJ (ae fk (ae fk (ae fk (ae fk ai))))) eo.nd)
      (au (dQ PassesOwn.leaving rfl (wW T.b_range (ae (ee (fA T.b_len (ae (ah 1) ai)) ay) (ae (oj ay) (ae (oj ay) ai)))) (eH (i:=3) (by decide)) (bf (i:=3) eo.nd rfl (by first | exact Or.inl rfl | exact Or.inr rfl)) (az (dQ PassesOwn.leaving rfl (dq (bG (bG (ah 0) (bG (ah 1) (ah 3))) ay)) (lJ (is:=[4,5]) (by decide)) (oJ rfl (cU (bf (i:=4) eo.nd rfl (by first | exact Or.inl rfl | exact Or.inr rfl)) (cU (bf (i:=5) eo.nd rfl (by first | exact Or.inl rfl | exact Or.inr rfl)) lG))) (az (cX (ly (ah 5)) (az (ye (i:=2) (ah 3) (ah 5))) cm)))))
      (az (aS (ah 2)))))) hL
theorem dM:aT ["_law_errands_here", "_law_ranks_here", "_law_number", "_law_place", "_law_tools", "_law_found", "_law_lower", "_law_length", "_law_tool"] ["_law_errands_here", "_law_ranks_here", "_law_number"] (aB mO):=⟨rfl,rfl,rfl,by decide +kernel,rfl,by decide +kernel,by decide +kernel⟩
theorem mq (T:Tx K mg cs) { bM gf:Gf} (jn:aO P w K mg base 1 "_law_heights" 2 bM) (hL:∀ ds,ds.length=3→gf ds≠.no→aV (iz cs bM (ds.map some++List.replicate 6 none))=gf ds):aO P w K mg base 2 "_law_hold" 3 gf:=by
  obtain ⟨f,fd,F,b,m⟩:=T.f_law_hold
  exact aO.of (O:=[]) (G:=iz cs bM) F dM b m (by decide) (fun cdv A outer s H E hr=>(au (a6 (i:=3) (m8 (ah 1) (ah 2)) dM.nd)
      (au (a6 (i:=4) (aG jn hr aK (ae (ah 0) (ae (ah 1) ai))) dM.nd)
      (au (a6 (i:=5) ay dM.nd)
      (au (dQ PassesOwn.leaving rfl (dq (fO (ah 1) (fN (bO (ah 3) ay)) fX)) (eH (i:=6) (by decide)) (bf (i:=6) dM.nd rfl (by first | exact Or.inl rfl | exact Or.inr rfl)) (az (dQ PassesOwn.leaving rfl (dq (bG (bG (ah 0) (ah 6)) ay)) (lJ (is:=[7,8]) (by decide)) (oJ rfl (cU (bf (i:=7) dM.nd rfl (by first | exact Or.inl rfl | exact Or.inr rfl)) (cU (bf (i:=8) dM.nd rfl (by first | exact Or.inl rfl | exact Or.inr rfl)) lG))) (az (cX (kR (nk (ly (ah 8)) (kT (tU (bG (ah 4) (ah 8)) (ah 3))))) (az (a6 (i:=5) (yh rfl T.b_max (ae (ah 5) (ae (ee (ah 7) ay) ai))) dM.nd)) cm)))))
      (az (aS (ah 5)))))))) hL
theorem vI:aT ["_law_errand_here"] ["_law_errand_here"] (aB mV):=⟨rfl,rfl,rfl,by decide +kernel,rfl,by decide +kernel,by decide +kernel⟩
theorem rB:(["_law_errand_here", "_law_part"]:List Str).Nodup:=by decide +kernel
theorem j7 (T:Tx K mg cs) { gf:Gf} (hL:∀ ds,ds.length=1→gf ds≠.no→aV (jZ cs (ds.map some++List.replicate 0 none))=gf ds):aO P w K mg base 1 "_law_work" 1 gf:=by
  obtain ⟨f,fd,F,b,m⟩:=T.f_law_work
  exact aO.of (O:=[]) (G:=jZ cs) F vI b m (by decide) (fun cdv A outer s H E hr=>(az (aS (zM rfl T.b_sum (ae (gQ (dZ (M:=["_law_errand_here"]) (own:=["_law_part"]) (n0:=1) (cond:=cY) rfl (dq (bG (ah 0) ay)) dr (fun _ _ _ _=>(bf (i:=1) rB rfl (Or.inl rfl) (.inr rfl))) (fun _ _ _ _=>.nil) (fun σ H Q qz3=>(by obtain ⟨A,δ,R,o⟩:=qz3; exact o H (aM.refl _))) (fun _ _ _ _=>(bG (ah 1) ay)))) ai))))) hL
theorem dk:aT ["_law_errands_here", "_law_ranks_here", "_law_number", "_law_time", "_law_found", "_law_other", "_law_every", "_law_due", "_law_late", "_law_parts", "_law_times"] ["_law_errands_here", "_law_ranks_here", "_law_number", "_law_time"] (aB mP):=⟨rfl,rfl,rfl,by decide +kernel,rfl,by decide +kernel,by decide +kernel⟩
theorem ml (T:Tx K mg cs) { bq b3 gf:Gf} (j7:aO P w K mg base 1 "_law_work" 1 bq) (mq:aO P w K mg base 2 "_law_hold" 3 b3) (hL:∀ ds,ds.length=4→gf ds≠.no→aV (ie cs bq b3 (ds.map some++List.replicate 7 none))=gf ds):aO P w K mg base 3 "_law_need" 4 gf:=by
  obtain ⟨f,fd,F,b,m⟩:=T.f_law_need
  exact aO.of (O:=[]) (G:=ie cs bq b3) F dk b m (by decide) (fun cdv A outer s H E hr=>(au (a6 (i:=4) (bO (aG mq hr aK (ae (ah 0) (ae (ah 1) (ae (ah 2) ai)))) (aG j7 hr aK (ae (bG (ah 0) (ah 2)) ai))) dk.nd)
      (au (dQ PassesOwn.leaving rfl (dq (fO (ah 1) fX (fN (m8 (ah 1) (ah 2))))) (eH (i:=5) (by decide)) (bf (i:=5) dk.nd rfl (by first | exact Or.inl rfl | exact Or.inr rfl)) (au (yy (bG (ah 0) (ah 5)) (lJ (is:=[6,7,8,9]) (by decide)) (oJ rfl (cU (bf (i:=6) dk.nd rfl (by first | exact Or.inl rfl | exact Or.inr rfl)) (cU (bf (i:=7) dk.nd rfl (by first | exact Or.inl rfl | exact Or.inr rfl)) (cU (bf (i:=8) dk.nd rfl (by first | exact Or.inl rfl | exact Or.inr rfl)) (cU (bf (i:=9) dk.nd rfl (by first | exact Or.inl rfl | exact Or.inr rfl)) lG))))))
      (au (a6 (i:=10) (bO (xa (bO (ah 3) (ah 8)) (ah 6)) (uS T.b_int (ae (Fg (xv (bO (ah 3) (ah 8)) (ah 6)) ay) ai))) dk.nd)
      (az (a6 (i:=4) (bO (ah 4) (sH (ah 10) (aG j7 hr aK (ae (bG (ah 0) (ah 5)) ai)))) dk.nd)))))
      (az (aS (ah 4)))))) hL
theorem kJ:aT ["_law_errands_here", "_law_ranks_here", "_law_number", "_law_time"] ["_law_errands_here", "_law_ranks_here", "_law_number"] (aB jm):=⟨rfl,rfl,rfl,by decide +kernel,rfl,by decide +kernel,by decide +kernel⟩
theorem jc (T:Tx K mg cs) { cj gf:Gf} (ml:aO P w K mg base 3 "_law_need" 4 cj) (hL:∀ ds,ds.length=3→gf ds≠.no→aV (e9 cs cj (ds.map some++List.replicate 1 none))=gf ds):aO P w K mg base 4 "_law_longest" 3 gf:=by
  obtain ⟨f,fd,F,b,m⟩:=T.f_law_longest
  exact aO.of (O:=[]) (G:=e9 cs cj) F kJ b m (by decide) (fun cdv A outer s H E hr=>(au (dQ PassesOwn.leaving rfl (wg T.b_range (ae ay (ae (bO (ee (bG (bG (ah 0) (ah 2)) ay) (bG (bG (ah 0) (ah 2)) ay)) ay) ai))) (eH (i:=3) (by decide)) (bf (i:=3) kJ.nd rfl (by first | exact Or.inl rfl | exact Or.inr rfl)) (az (cX (tU (aG ml hr aK (ae (ah 0) (ae (ah 1) (ae (ah 2) (ae (ah 3) ai))))) (ah 3)) (az (aS (ah 3))) cm)))
      (az (aS fk)))) hL
theorem kM:aT ["_law_errands_here", "_law_ranks_here", "_law_number", "_law_found"] ["_law_errands_here", "_law_ranks_here", "_law_number"] (aB jq):=⟨rfl,rfl,rfl,by decide +kernel,rfl,by decide +kernel,by decide +kernel⟩
theorem jb (T:Tx K mg cs) { bS gf:Gf} (jc:aO P w K mg base 4 "_law_longest" 3 bS) (hL:∀ ds,ds.length=3→gf ds≠.no→aV (d7 cs bS (ds.map some++List.replicate 1 none))=gf ds):aO P w K mg base 5 "_law_in_time" 3 gf:=by
  obtain ⟨f,fd,F,b,m⟩:=T.f_law_in_time
  exact aO.of (O:=[]) (G:=d7 cs bS) F kM b m (by decide) (fun cdv A outer s H E hr=>(au (a6 (i:=3) (aG jc hr aK (ae (ah 0) (ae (ah 1) (ae (ah 2) ai)))) kM.nd)
      (az (aS (qk (yd (ah 3)) (oI (CI (ah 3) (bG (bG (ah 0) (ah 2)) ay)))))))) hL
theorem mz:aT ["_law_errands_here", "_law_ranks_here"] ["_law_errands_here", "_law_ranks_here"] (aB fM):=⟨rfl,rfl,rfl,by decide +kernel,rfl,by decide +kernel,by decide +kernel⟩
theorem kI:(["_law_errands_here", "_law_ranks_here", "_law_number"]:List Str).Nodup:=by decide +kernel
theorem fJ (T:Tx K mg cs) { bA gf:Gf} (jb:aO P w K mg base 5 "_law_in_time" 3 bA) (hL:∀ ds,ds.length=2→gf ds≠.no→aV (dm cs bA (ds.map some++List.replicate 0 none))=gf ds):aO P w K mg base 6 "_law_all_in_time" 2 gf:=by
  obtain ⟨f,fd,F,b,m⟩:=T.f_law_all_in_time
  exact aO.of (O:=[]) (G:=dm cs bA) F mz b m (by decide) (fun cdv A outer s H E hr=>(az (aS (CH hr (gQ (dZ (M:=["_law_errands_here", "_law_ranks_here"]) (own:=["_law_number"]) (n0:=2) (cond:=(iO (gT (aE bA (af (ag 0) (af (ag 1) (af (ag 2) ar))))))) rfl (dq (ah 1)) dr (fun _ _ _ _=>(bf (i:=2) kI rfl (Or.inl rfl) (.inr rfl))) (fun _ _ _ _=>(pD (dC (cz (aG jb hr iM (ae (ah 0) (ae (ah 1) (ae (ah 2) ai)))))))) (fun _ _ _ h=>h) (fun _ _ _ _=>(ah 2)))) (ur ai))))) hL
theorem fK:aT ["_law_script", "_law_errands_here", "_law_ranks_here", "_law_number", "_law_every", "_law_due", "_law_late", "_law_parts", "_law_most", "_law_more", "_law_fast", "_law_other"] ["_law_script"] (aB rS):=⟨rfl,rfl,rfl,by decide +kernel,rfl,by decide +kernel,by decide +kernel⟩
theorem law_fn (T:Tx K mg cs) {f:Addr} {fd:FuncData} (F:Fun K "law" "law" rS f fd) { cL aW ak bb bI a9 gf:Gf} (wX:aO P w K mg base 11 "rush" 3 cL) (fJ:aO P w K mg base 6 "_law_all_in_time" 2 aW) (b0:aO P w K mg base 2 "_law_mixed" 3 ak) (lC:aO P w K mg base 11 "fitting" 1 bb) (kW:aO P w K mg base 3 "_law_ranks" 3 bI) (ja:aO P w K mg base 4 "_law_errands" 5 a9) (hL:∀ ds,ds.length=1→gf ds≠.no→aV (qi cs cL aW ak bb bI a9 (ds.map some++List.replicate 11 none))=gf ds):jR P w K mg base (CXW P w) 12 f fd ["_law_script"] (spD K 1 gf) :=
  BI (O:=[]) (G:=qi cs cL aW ak bb bI a9) F fK (by decide) (fun cdv A outer s H E hr=>(au (a6 (i:=1) (aG ja hr aK (ae (ah 0) (ae ay (ae ay (ae ay (ae mX ai)))))) fK.nd)
      (au (a6 (i:=2) (aG kW hr aK (ae (ah 0) (ae ay (ae (fA T.b_len (ae (ah 1) ai)) ai)))) fK.nd)
      (au (cX (kR (nk (Du (aG b0 hr aK (ae (ah 0) (ae ay (ae ay ai)))) ay) (kT (ly (aG lC hr aK (ae (ah 1) ai)))))) (az (a6 (i:=2) (aG lC hr aK (ae (ah 1) ai)) fK.nd)) cm)
      (au (dQ PassesOwn.leaving rfl (eC T.b_range (ae (fA T.b_len (ae (ah 1) ai)) ai)) (eH (i:=3) (by decide)) (bf (i:=3) fK.nd rfl (by first | exact Or.inl rfl | exact Or.inr rfl)) (au (yy (bG (ah 1) (ah 3)) (lJ (is:=[4,5,6,7]) (by decide)) (oJ rfl (cU (bf (i:=4) fK.nd rfl (by first | exact Or.inl rfl | exact Or.inr rfl)) (cU (bf (i:=5) fK.nd rfl (by first | exact Or.inl rfl | exact Or.inr rfl)) (cU (bf (i:=6) fK.nd rfl (by first | exact Or.inl rfl | exact Or.inr rfl)) (cU (bf (i:=7) fK.nd rfl (by first | exact Or.inl rfl | exact Or.inr rfl)) lG))))))
      (au (a6 (i:=8) fk fK.nd)
      (au (dQ PassesOwn.leaving rfl (eC T.b_range (ae (ah 4) ai)) (eH (i:=9) (by decide)) (bf (i:=9) fK.nd rfl (by first | exact Or.inl rfl | exact Or.inr rfl)) (au (a6 (i:=10) (je (ae (ee (ah 4) (ah 9)) (ae (ah 5) (ae (ah 6) (ae (ah 7) ai))))) fK.nd)
      (au (a6 (i:=11) (bO (bO (fO (ah 1) fX (fN (ah 3))) (je (ae (ah 10) ai))) (fO (ah 1) (fN (bO (ah 3) ay)) fX)) fK.nd)
      (az (cX (kR (nk (CY (ee (ah 4) (ah 9)) (yh rfl T.b_max (ae ay (ae (bO (ah 5) (ah 6)) ai)))) (kT (cz (aG fJ hr aK (ae (ah 11) (ae (ah 2) ai))))))) (az (cX (kR (oa (kR (nk (ym (ah 8)) (kT (qL hr (ah 9) ay)))) (lK (qL hr (ah 8) (ee (ah 9) ay))))) (az (a6 (i:=8) (ah 9) fK.nd)) cm)) cm)))))
      (az (cX (A7 hr (aG wX hr aK (ae (ah 1) (ae (ah 2) (ae (ah 3) ai)))) (ah 8)) (az (aS mX)) cm))))))
      (az (aS mX))))))) hL
theorem law_ok (T:Tx K mg cs) {f:Addr} {fd:FuncData} (F:Fun K "law" "law" rS f fd):jR P w K mg base (CXW P w) 12 f fd ["_law_script"] (spD K 1 (fh 63)):=by
  have d_is_whole:=cR (P:=P) (w:=w) (base:=base) T (wD cs)
  have d_is_tuple:=c4 (P:=P) (w:=w) (base:=base) T (wI cs)
  have d_is_part:=nV (P:=P) (w:=w) (base:=base) T d_is_whole d_is_tuple (zh cs)
  have d_are_parts:=lj (P:=P) (w:=w) (base:=base) T d_is_tuple d_is_part (uL cs)
  have d_is_errand:=gH (P:=P) (w:=w) (base:=base) T d_is_whole d_are_parts d_is_tuple (uD cs)
  have d_has_tool:=mj (P:=P) (w:=w) (base:=base) T (xf cs)
  have d_height:=pZ (P:=P) (w:=w) (base:=base) T d_has_tool (AF cs)
  have d_heights_of:=jQ (P:=P) (w:=w) (base:=base) T d_height (uq cs)
  have d_holdings:=mQ (P:=P) (w:=w) (base:=base) T d_heights_of (nP T) (w6 cs)
  have d_hold_by_high:=ix (P:=P) (w:=w) (base:=base) T d_holdings (qr cs)
  have d_work_of:=lA (P:=P) (w:=w) (base:=base) T (yL cs)
  have d_rounded_up:=jM (P:=P) (w:=w) (base:=base) T (sP cs)
  have d_need:=t6 (P:=P) (w:=w) (base:=base) T d_work_of d_rounded_up (DG cs)
  have d_levels_by:=kC (P:=P) (w:=w) (base:=base) T d_need (vh cs)
  have d_longest_by:=ku (P:=P) (w:=w) (base:=base) T d_levels_by (ub cs)
  have d_longest_by_high:=fR (P:=P) (w:=w) (base:=base) T d_hold_by_high d_longest_by (ni cs)
  have d_has_room:=ic (P:=P) (w:=w) (base:=base) T d_longest_by_high (wZ cs)
  have d_is_in_time:=km (P:=P) (w:=w) (base:=base) T d_has_room (tZ cs)
  have d_do_fit:=kZ (P:=P) (w:=w) (base:=base) T d_is_in_time (Be cs)
  have d_with_errand:=jr (P:=P) (w:=w) (base:=base) T (qX cs)
  have d_with_less_every:=fH (P:=P) (w:=w) (base:=base) T d_with_errand (nG cs)
  have d_can_rush:=mn (P:=P) (w:=w) (base:=base) T d_is_errand d_do_fit d_with_less_every (wU cs)
  have d_checked_number:=gB (P:=P) (w:=w) (base:=base) T d_is_whole (n8 cs)
  have d_checked_ranks:=gX (P:=P) (w:=w) (base:=base) T d_is_tuple d_is_whole (pq cs)
  have d_checked:=jA (P:=P) (w:=w) (base:=base) T d_is_tuple d_is_errand (yP cs)
  have d_check_place:=jo (P:=P) (w:=w) (base:=base) T d_checked_number d_checked_ranks d_checked (qT cs)
  have d_rush:=wX (P:=P) (w:=w) (base:=base) T d_can_rush d_do_fit d_check_place (DP cs)
  have d_law_work:=j7 (P:=P) (w:=w) (base:=base) T (pN cs)
  have d_law_heights:=jn (P:=P) (w:=w) (base:=base) T (rD cs)
  have d_law_hold:=mq (P:=P) (w:=w) (base:=base) T d_law_heights (wF cs)
  have d_law_need:=ml (P:=P) (w:=w) (base:=base) T d_law_work d_law_hold (xw cs)
  have d_law_longest:=jc (P:=P) (w:=w) (base:=base) T d_law_need (rq cs)
  have d_law_in_time:=jb (P:=P) (w:=w) (base:=base) T d_law_longest (rg cs)
  have d_law_all_in_time:=fJ (P:=P) (w:=w) (base:=base) T d_law_in_time (nr cs)
  have d_law_mixed:=b0 (P:=P) (w:=w) (base:=base) T
  have d_as_lowest:=kY (P:=P) (w:=w) (base:=base) T (vT cs)
  have d_not_placed:=jJ (P:=P) (w:=w) (base:=base) T (tH cs)
  have d_following_lowest:=dW (P:=P) (w:=w) (base:=base) T d_as_lowest d_has_room d_not_placed (mI cs)
  have d_placed_from_below:=eY (P:=P) (w:=w) (base:=base) T d_following_lowest (lN cs)
  have d_ranks_with_room:=fG (P:=P) (w:=w) (base:=base) T d_placed_from_below (mZ cs)
  have d_fitting:=lC (P:=P) (w:=w) (base:=base) T d_ranks_with_room d_checked (yA cs)
  have d_law_ranks:=kW (P:=P) (w:=w) (base:=base) T d_law_mixed (uG cs)
  have d_law_errand:=j9 (P:=P) (w:=w) (base:=base) T d_law_mixed (uu cs)
  have d_law_errands:=ja (P:=P) (w:=w) (base:=base) T d_law_errand d_law_mixed (rC cs)
  exact law_fn T F d_rush d_law_all_in_time d_law_mixed d_fitting d_law_ranks d_law_errands (Dm cs)
end
end RS
namespace RS
theorem mf {n:Nat} {us:List PySem.Value} (h:us.length=n + 1):∃ a t,us=a::t∧t.length=n:=by
  cases us with
  | nil=>cases h
  | cons a t=>exact ⟨a,t,rfl,Nat.succ.inj h⟩
theorem uo {us:List PySem.Value} (h:us.length=1):∃ a0,us=[a0]:=by
  obtain ⟨a0,t0,e0,h0⟩:=mf h
  have e:=List.eq_nil_of_length_eq_zero h0
  exact ⟨_,by rw [e0,e]⟩
theorem pw {us:List PySem.Value} (h:us.length=2):∃ a0 a1,us=[a0,a1]:=by
  obtain ⟨a0,t0,e0,h0⟩:=mf h
  obtain ⟨a1,t1,e1,h1⟩:=mf h0
  have e:=List.eq_nil_of_length_eq_zero h1
  exact ⟨_,_,by rw [e0,e1,e]⟩
theorem kA {us:List PySem.Value} (h:us.length=3):∃ a0 a1 a2,us=[a0,a1,a2]:=by
  obtain ⟨a0,t0,e0,h0⟩:=mf h
  obtain ⟨a1,t1,e1,h1⟩:=mf h0
  obtain ⟨a2,t2,e2,h2⟩:=mf h1
  have e:=List.eq_nil_of_length_eq_zero h2
  exact ⟨_,_,_,by rw [e0,e1,e2,e]⟩
theorem yE {us:List PySem.Value} (h:us.length=4):∃ a0 a1 a2 a3,us=[a0,a1,a2,a3]:=by
  obtain ⟨a0,t0,e0,h0⟩:=mf h
  obtain ⟨a1,t1,e1,h1⟩:=mf h0
  obtain ⟨a2,t2,e2,h2⟩:=mf h1
  obtain ⟨a3,t3,e3,h3⟩:=mf h2
  have e:=List.eq_nil_of_length_eq_zero h3
  exact ⟨_,_,_,_,by rw [e0,e1,e2,e3,e]⟩
theorem CZ {us:List PySem.Value} (h:us.length=5):∃ a0 a1 a2 a3 a4,us=[a0,a1,a2,a3,a4]:=by
  obtain ⟨a0,t0,e0,h0⟩:=mf h
  obtain ⟨a1,t1,e1,h1⟩:=mf h0
  obtain ⟨a2,t2,e2,h2⟩:=mf h1
  obtain ⟨a3,t3,e3,h3⟩:=mf h2
  obtain ⟨a4,t4,e4,h4⟩:=mf h3
  have e:=List.eq_nil_of_length_eq_zero h4
  exact ⟨_,_,_,_,_,by rw [e0,e1,e2,e3,e4,e]⟩
end RS
open PySem PySem.W PyProof.Rows
set_option maxRecDepth 100000 in
set_option maxHeartbeats 0 in
theorem PySem.Challenge.cw_ranksure_k31_rush_holds : PySem.Challenge.rw_ranksure_k31_rush.Holds := by
  refine RS.hdTop ?_
  k_fill
  refine RS.EB (l:=PySem.Challenge.rw_ranksure_k31_rush) (n:=63) (k:=12) (x:="_law_script") (st:=RS.rS) rfl (by decide) rfl ⟨rfl,by decide,by decide⟩ (fun w h Y=>PySem.W.kIn_of Y) (fun _ _ _ _ _ _ us hl=>by obtain ⟨_,rfl⟩:=RS.uo hl; rfl) ?F
  case F =>
    intro w mg h KX G
    have f_is_whole:RS.aQ (L2.KOf KX) mg "is_whole" RS.md ["thing", "least", "most"]:=by
      delta L2.KOf
      refine' RS.aR KX G (fun _ _ _ _ _ _ us hl=>by obtain ⟨_,_,_,rfl⟩:=RS.kA hl; rfl) ?a_is_whole ?l_is_whole ?c_is_whole ?k_is_whole
      (case a_is_whole=>k_is); (case l_is_whole=>k_is); (case c_is_whole=>k_is); (case k_is_whole=>k_is)
    have f_is_tuple:RS.aQ (L2.KOf KX) mg "is_tuple" RS.mB ["thing", "fewest", "most"]:=by
      delta L2.KOf
      refine' RS.aR KX G (fun _ _ _ _ _ _ us hl=>by obtain ⟨_,_,_,rfl⟩:=RS.kA hl; rfl) ?a_is_tuple ?l_is_tuple ?c_is_tuple ?k_is_tuple
      (case a_is_tuple=>k_is); (case l_is_tuple=>k_is); (case c_is_tuple=>k_is); (case k_is_tuple=>k_is)
    have f_is_part:RS.aQ (L2.KOf KX) mg "is_part" RS.oH ["thing"]:=by
      delta L2.KOf
      refine' RS.aR KX G (fun _ _ _ _ _ _ us hl=>by obtain ⟨_,rfl⟩:=RS.uo hl; rfl) ?a_is_part ?l_is_part ?c_is_part ?k_is_part
      (case a_is_part=>k_is); (case l_is_part=>k_is); (case c_is_part=>k_is); (case k_is_part=>k_is)
    have f_are_parts:RS.aQ (L2.KOf KX) mg "are_parts" RS.lr ["thing"]:=by
      delta L2.KOf
      refine' RS.aR KX G (fun _ _ _ _ _ _ us hl=>by obtain ⟨_,rfl⟩:=RS.uo hl; rfl) ?a_are_parts ?l_are_parts ?c_are_parts ?k_are_parts
      (case a_are_parts=>k_is); (case l_are_parts=>k_is); (case c_are_parts=>k_is); (case k_are_parts=>k_is)
    have f_is_errand:RS.aQ (L2.KOf KX) mg "is_errand" RS.lh ["thing"]:=by
      delta L2.KOf
      refine' RS.aR KX G (fun _ _ _ _ _ _ us hl=>by obtain ⟨_,rfl⟩:=RS.uo hl; rfl) ?a_is_errand ?l_is_errand ?c_is_errand ?k_is_errand
      (case a_is_errand=>k_is); (case l_is_errand=>k_is); (case c_is_errand=>k_is); (case k_is_errand=>k_is)
    have f_checked:RS.aQ (L2.KOf KX) mg "checked" RS.nT ["errands"]:=by
      delta L2.KOf
      refine' RS.aR KX G (fun _ _ _ _ _ _ us hl=>by obtain ⟨_,rfl⟩:=RS.uo hl; rfl) ?a_checked ?l_checked ?c_checked ?k_checked
      (case a_checked=>k_is); (case l_checked=>k_is); (case c_checked=>k_is); (case k_checked=>k_is)
    have f_checked_ranks:RS.aQ (L2.KOf KX) mg "checked_ranks" RS.gW ["errands", "ranks"]:=by
      delta L2.KOf
      refine' RS.aR KX G (fun _ _ _ _ _ _ us hl=>by obtain ⟨_,_,rfl⟩:=RS.pw hl; rfl) ?a_checked_ranks ?l_checked_ranks ?c_checked_ranks ?k_checked_ranks
      (case a_checked_ranks=>k_is); (case l_checked_ranks=>k_is); (case c_checked_ranks=>k_is); (case k_checked_ranks=>k_is)
    have f_checked_number:RS.aQ (L2.KOf KX) mg "checked_number" RS.gD ["errands", "number"]:=by
      delta L2.KOf
      refine' RS.aR KX G (fun _ _ _ _ _ _ us hl=>by obtain ⟨_,_,rfl⟩:=RS.pw hl; rfl) ?a_checked_number ?l_checked_number ?c_checked_number ?k_checked_number
      (case a_checked_number=>k_is); (case l_checked_number=>k_is); (case c_checked_number=>k_is); (case k_checked_number=>k_is)
    have f_check_place:RS.aQ (L2.KOf KX) mg "check_place" RS.ji ["errands", "ranks", "number"]:=by
      delta L2.KOf
      refine' RS.aR KX G (fun _ _ _ _ _ _ us hl=>by obtain ⟨_,_,_,rfl⟩:=RS.kA hl; rfl) ?a_check_place ?l_check_place ?c_check_place ?k_check_place
      (case a_check_place=>k_is); (case l_check_place=>k_is); (case c_check_place=>k_is); (case k_check_place=>k_is)
    have f_work_of:RS.aQ (L2.KOf KX) mg "work_of" RS.oF ["errand"]:=by
      delta L2.KOf
      refine' RS.aR KX G (fun _ _ _ _ _ _ us hl=>by obtain ⟨_,rfl⟩:=RS.uo hl; rfl) ?a_work_of ?l_work_of ?c_work_of ?k_work_of
      (case a_work_of=>k_is); (case l_work_of=>k_is); (case c_work_of=>k_is); (case k_work_of=>k_is)
    have f_has_tool:RS.aQ (L2.KOf KX) mg "has_tool" RS.mw ["errand", "tool"]:=by
      delta L2.KOf
      refine' RS.aR KX G (fun _ _ _ _ _ _ us hl=>by obtain ⟨_,_,rfl⟩:=RS.pw hl; rfl) ?a_has_tool ?l_has_tool ?c_has_tool ?k_has_tool
      (case a_has_tool=>k_is); (case l_has_tool=>k_is); (case c_has_tool=>k_is); (case k_has_tool=>k_is)
    have f_height:RS.aQ (L2.KOf KX) mg "height" RS.pL ["errands", "ranks", "tool"]:=by
      delta L2.KOf
      refine' RS.aR KX G (fun _ _ _ _ _ _ us hl=>by obtain ⟨_,_,_,rfl⟩:=RS.kA hl; rfl) ?a_height ?l_height ?c_height ?k_height
      (case a_height=>k_is); (case l_height=>k_is); (case c_height=>k_is); (case k_height=>k_is)
    have f_heights_of:RS.aQ (L2.KOf KX) mg "heights_of" RS.kq ["errands", "ranks"]:=by
      delta L2.KOf
      refine' RS.aR KX G (fun _ _ _ _ _ _ us hl=>by obtain ⟨_,_,rfl⟩:=RS.pw hl; rfl) ?a_heights_of ?l_heights_of ?c_heights_of ?k_heights_of
      (case a_heights_of=>k_is); (case l_heights_of=>k_is); (case c_heights_of=>k_is); (case k_heights_of=>k_is)
    have f_holdings:RS.aQ (L2.KOf KX) mg "holdings" RS.mK ["errands", "ranks", "number"]:=by
      delta L2.KOf
      refine' RS.aR KX G (fun _ _ _ _ _ _ us hl=>by obtain ⟨_,_,_,rfl⟩:=RS.kA hl; rfl) ?a_holdings ?l_holdings ?c_holdings ?k_holdings
      (case a_holdings=>k_is); (case l_holdings=>k_is); (case c_holdings=>k_is); (case k_holdings=>k_is)
    have f_hold_by_high:RS.aQ (L2.KOf KX) mg "hold_by_high" RS.iN ["errands", "ranks", "number"]:=by
      delta L2.KOf
      refine' RS.aR KX G (fun _ _ _ _ _ _ us hl=>by obtain ⟨_,_,_,rfl⟩:=RS.kA hl; rfl) ?a_hold_by_high ?l_hold_by_high ?c_hold_by_high ?k_hold_by_high
      (case a_hold_by_high=>k_is); (case l_hold_by_high=>k_is); (case c_hold_by_high=>k_is); (case k_hold_by_high=>k_is)
    have f_rounded_up:RS.aQ (L2.KOf KX) mg "rounded_up" RS.j6 ["times", "every"]:=by
      delta L2.KOf
      refine' RS.aR KX G (fun _ _ _ _ _ _ us hl=>by obtain ⟨_,_,rfl⟩:=RS.pw hl; rfl) ?a_rounded_up ?l_rounded_up ?c_rounded_up ?k_rounded_up
      (case a_rounded_up=>k_is); (case l_rounded_up=>k_is); (case c_rounded_up=>k_is); (case k_rounded_up=>k_is)
    have f_need:RS.aQ (L2.KOf KX) mg "need" RS.wV ["errands", "ranks", "number", "held_up", "times"]:=by
      delta L2.KOf
      refine' RS.aR KX G (fun _ _ _ _ _ _ us hl=>by obtain ⟨_,_,_,_,_,rfl⟩:=RS.CZ hl; rfl) ?a_need ?l_need ?c_need ?k_need
      (case a_need=>k_is); (case l_need=>k_is); (case c_need=>k_is); (case k_need=>k_is)
    have f_levels_by:RS.aQ (L2.KOf KX) mg "levels_by" RS.kD ["errands", "ranks", "number", "held_up"]:=by
      delta L2.KOf
      refine' RS.aR KX G (fun _ _ _ _ _ _ us hl=>by obtain ⟨_,_,_,_,rfl⟩:=RS.yE hl; rfl) ?a_levels_by ?l_levels_by ?c_levels_by ?k_levels_by
      (case a_levels_by=>k_is); (case l_levels_by=>k_is); (case c_levels_by=>k_is); (case k_levels_by=>k_is)
    have f_longest_by:RS.aQ (L2.KOf KX) mg "longest_by" RS.jO ["errands", "ranks", "number", "held_up"]:=by
      delta L2.KOf
      refine' RS.aR KX G (fun _ _ _ _ _ _ us hl=>by obtain ⟨_,_,_,_,rfl⟩:=RS.yE hl; rfl) ?a_longest_by ?l_longest_by ?c_longest_by ?k_longest_by
      (case a_longest_by=>k_is); (case l_longest_by=>k_is); (case c_longest_by=>k_is); (case k_longest_by=>k_is)
    have f_longest_by_high:RS.aQ (L2.KOf KX) mg "longest_by_high" RS.fP ["errands", "ranks", "number"]:=by
      delta L2.KOf
      refine' RS.aR KX G (fun _ _ _ _ _ _ us hl=>by obtain ⟨_,_,_,rfl⟩:=RS.kA hl; rfl) ?a_longest_by_high ?l_longest_by_high ?c_longest_by_high ?k_longest_by_high
      (case a_longest_by_high=>k_is); (case l_longest_by_high=>k_is); (case c_longest_by_high=>k_is); (case k_longest_by_high=>k_is)
    have f_has_room:RS.aQ (L2.KOf KX) mg "has_room" RS.mL ["errands", "ranks", "number", "room"]:=by
      delta L2.KOf
      refine' RS.aR KX G (fun _ _ _ _ _ _ us hl=>by obtain ⟨_,_,_,_,rfl⟩:=RS.yE hl; rfl) ?a_has_room ?l_has_room ?c_has_room ?k_has_room
      (case a_has_room=>k_is); (case l_has_room=>k_is); (case c_has_room=>k_is); (case k_has_room=>k_is)
    have f_is_in_time:RS.aQ (L2.KOf KX) mg "is_in_time" RS.kj ["errands", "ranks", "number"]:=by
      delta L2.KOf
      refine' RS.aR KX G (fun _ _ _ _ _ _ us hl=>by obtain ⟨_,_,_,rfl⟩:=RS.kA hl; rfl) ?a_is_in_time ?l_is_in_time ?c_is_in_time ?k_is_in_time
      (case a_is_in_time=>k_is); (case l_is_in_time=>k_is); (case c_is_in_time=>k_is); (case k_is_in_time=>k_is)
    have f_as_lowest:RS.aQ (L2.KOf KX) mg "as_lowest" RS.kP ["errands", "some", "number"]:=by
      delta L2.KOf
      refine' RS.aR KX G (fun _ _ _ _ _ _ us hl=>by obtain ⟨_,_,_,rfl⟩:=RS.kA hl; rfl) ?a_as_lowest ?l_as_lowest ?c_as_lowest ?k_as_lowest
      (case a_as_lowest=>k_is); (case l_as_lowest=>k_is); (case c_as_lowest=>k_is); (case k_as_lowest=>k_is)
    have f_not_placed:RS.aQ (L2.KOf KX) mg "not_placed" RS.ko ["errands", "placed"]:=by
      delta L2.KOf
      refine' RS.aR KX G (fun _ _ _ _ _ _ us hl=>by obtain ⟨_,_,rfl⟩:=RS.pw hl; rfl) ?a_not_placed ?l_not_placed ?c_not_placed ?k_not_placed
      (case a_not_placed=>k_is); (case l_not_placed=>k_is); (case c_not_placed=>k_is); (case k_not_placed=>k_is)
    have f_following_lowest:RS.aQ (L2.KOf KX) mg "following_lowest" RS.fi ["errands", "placed", "room"]:=by
      delta L2.KOf
      refine' RS.aR KX G (fun _ _ _ _ _ _ us hl=>by obtain ⟨_,_,_,rfl⟩:=RS.kA hl; rfl) ?a_following_lowest ?l_following_lowest ?c_following_lowest ?k_following_lowest
      (case a_following_lowest=>k_is); (case l_following_lowest=>k_is); (case c_following_lowest=>k_is); (case k_following_lowest=>k_is)
    have f_placed_from_below:RS.aQ (L2.KOf KX) mg "placed_from_below" RS.eV ["errands", "room"]:=by
      delta L2.KOf
      refine' RS.aR KX G (fun _ _ _ _ _ _ us hl=>by obtain ⟨_,_,rfl⟩:=RS.pw hl; rfl) ?a_placed_from_below ?l_placed_from_below ?c_placed_from_below ?k_placed_from_below
      (case a_placed_from_below=>k_is); (case l_placed_from_below=>k_is); (case c_placed_from_below=>k_is); (case k_placed_from_below=>k_is)
    have f_ranks_with_room:RS.aQ (L2.KOf KX) mg "ranks_with_room" RS.fW ["errands", "room"]:=by
      delta L2.KOf
      refine' RS.aR KX G (fun _ _ _ _ _ _ us hl=>by obtain ⟨_,_,rfl⟩:=RS.pw hl; rfl) ?a_ranks_with_room ?l_ranks_with_room ?c_ranks_with_room ?k_ranks_with_room
      (case a_ranks_with_room=>k_is); (case l_ranks_with_room=>k_is); (case c_ranks_with_room=>k_is); (case k_ranks_with_room=>k_is)
    have f_fitting:RS.aQ (L2.KOf KX) mg "fitting" RS.oC ["errands"]:=by
      delta L2.KOf
      refine' RS.aR KX G (fun _ _ _ _ _ _ us hl=>by obtain ⟨_,rfl⟩:=RS.uo hl; rfl) ?a_fitting ?l_fitting ?c_fitting ?k_fitting
      (case a_fitting=>k_is); (case l_fitting=>k_is); (case c_fitting=>k_is); (case k_fitting=>k_is)
    have f_do_fit:RS.aQ (L2.KOf KX) mg "do_fit" RS.pR ["errands", "ranks"]:=by
      delta L2.KOf
      refine' RS.aR KX G (fun _ _ _ _ _ _ us hl=>by obtain ⟨_,_,rfl⟩:=RS.pw hl; rfl) ?a_do_fit ?l_do_fit ?c_do_fit ?k_do_fit
      (case a_do_fit=>k_is); (case l_do_fit=>k_is); (case c_do_fit=>k_is); (case k_do_fit=>k_is)
    have f_with_errand:RS.aQ (L2.KOf KX) mg "with_errand" RS.jf ["errands", "number", "errand"]:=by
      delta L2.KOf
      refine' RS.aR KX G (fun _ _ _ _ _ _ us hl=>by obtain ⟨_,_,_,rfl⟩:=RS.kA hl; rfl) ?a_with_errand ?l_with_errand ?c_with_errand ?k_with_errand
      (case a_with_errand=>k_is); (case l_with_errand=>k_is); (case c_with_errand=>k_is); (case k_with_errand=>k_is)
    have f_with_less_every:RS.aQ (L2.KOf KX) mg "with_less_every" RS.fF ["errands", "number", "times"]:=by
      delta L2.KOf
      refine' RS.aR KX G (fun _ _ _ _ _ _ us hl=>by obtain ⟨_,_,_,rfl⟩:=RS.kA hl; rfl) ?a_with_less_every ?l_with_less_every ?c_with_less_every ?k_with_less_every
      (case a_with_less_every=>k_is); (case l_with_less_every=>k_is); (case c_with_less_every=>k_is); (case k_with_less_every=>k_is)
    have f_can_rush:RS.aQ (L2.KOf KX) mg "can_rush" RS.ma ["errands", "ranks", "number", "times"]:=by
      delta L2.KOf
      refine' RS.aR KX G (fun _ _ _ _ _ _ us hl=>by obtain ⟨_,_,_,_,rfl⟩:=RS.yE hl; rfl) ?a_can_rush ?l_can_rush ?c_can_rush ?k_can_rush
      (case a_can_rush=>k_is); (case l_can_rush=>k_is); (case c_can_rush=>k_is); (case k_can_rush=>k_is)
    have f_rush:RS.aQ (L2.KOf KX) mg "rush" RS.xb ["errands", "ranks", "number"]:=by
      delta L2.KOf
      refine' RS.aR KX G (fun _ _ _ _ _ _ us hl=>by obtain ⟨_,_,_,rfl⟩:=RS.kA hl; rfl) ?a_rush ?l_rush ?c_rush ?k_rush
      (case a_rush=>k_is); (case l_rush=>k_is); (case c_rush=>k_is); (case k_rush=>k_is)
    have f_law_cell_at:RS.aQ (L2.KOf KX) mg "_law_cell_at" RS.e7 ["_law_script", "_law_k"]:=by
      delta L2.KOf
      refine' RS.aR KX G (fun _ _ _ _ _ _ us hl=>by obtain ⟨_,_,rfl⟩:=RS.pw hl; rfl) ?a_law_cell_at ?l_law_cell_at ?c_law_cell_at ?k_law_cell_at
      (case a_law_cell_at=>k_is); (case l_law_cell_at=>k_is); (case c_law_cell_at=>k_is); (case k_law_cell_at=>k_is)
    have f_law_mixed:RS.aQ (L2.KOf KX) mg "_law_mixed" RS.iY ["_law_script", "_law_k", "_law_many"]:=by
      delta L2.KOf
      refine' RS.aR KX G (fun _ _ _ _ _ _ us hl=>by obtain ⟨_,_,_,rfl⟩:=RS.kA hl; rfl) ?a_law_mixed ?l_law_mixed ?c_law_mixed ?k_law_mixed
      (case a_law_mixed=>k_is); (case l_law_mixed=>k_is); (case c_law_mixed=>k_is); (case k_law_mixed=>k_is)
    have f_law_errand:RS.aQ (L2.KOf KX) mg "_law_errand" RS.jN ["_law_script", "_law_at", "_law_top", "_law_tools"]:=by
      delta L2.KOf
      refine' RS.aR KX G (fun _ _ _ _ _ _ us hl=>by obtain ⟨_,_,_,_,rfl⟩:=RS.yE hl; rfl) ?a_law_errand ?l_law_errand ?c_law_errand ?k_law_errand
      (case a_law_errand=>k_is); (case l_law_errand=>k_is); (case c_law_errand=>k_is); (case k_law_errand=>k_is)
    have f_law_errands:RS.aQ (L2.KOf KX) mg "_law_errands" RS.i9 ["_law_script", "_law_at", "_law_most", "_law_top", "_law_tools"]:=by
      delta L2.KOf
      refine' RS.aR KX G (fun _ _ _ _ _ _ us hl=>by obtain ⟨_,_,_,_,_,rfl⟩:=RS.CZ hl; rfl) ?a_law_errands ?l_law_errands ?c_law_errands ?k_law_errands
      (case a_law_errands=>k_is); (case l_law_errands=>k_is); (case c_law_errands=>k_is); (case k_law_errands=>k_is)
    have f_law_ranks:RS.aQ (L2.KOf KX) mg "_law_ranks" RS.kK ["_law_script", "_law_at", "_law_many"]:=by
      delta L2.KOf
      refine' RS.aR KX G (fun _ _ _ _ _ _ us hl=>by obtain ⟨_,_,_,rfl⟩:=RS.kA hl; rfl) ?a_law_ranks ?l_law_ranks ?c_law_ranks ?k_law_ranks
      (case a_law_ranks=>k_is); (case l_law_ranks=>k_is); (case c_law_ranks=>k_is); (case k_law_ranks=>k_is)
    have f_law_heights:RS.aQ (L2.KOf KX) mg "_law_heights" RS.jk ["_law_errands_here", "_law_ranks_here"]:=by
      delta L2.KOf
      refine' RS.aR KX G (fun _ _ _ _ _ _ us hl=>by obtain ⟨_,_,rfl⟩:=RS.pw hl; rfl) ?a_law_heights ?l_law_heights ?c_law_heights ?k_law_heights
      (case a_law_heights=>k_is); (case l_law_heights=>k_is); (case c_law_heights=>k_is); (case k_law_heights=>k_is)
    have f_law_hold:RS.aQ (L2.KOf KX) mg "_law_hold" RS.mO ["_law_errands_here", "_law_ranks_here", "_law_number"]:=by
      delta L2.KOf
      refine' RS.aR KX G (fun _ _ _ _ _ _ us hl=>by obtain ⟨_,_,_,rfl⟩:=RS.kA hl; rfl) ?a_law_hold ?l_law_hold ?c_law_hold ?k_law_hold
      (case a_law_hold=>k_is); (case l_law_hold=>k_is); (case c_law_hold=>k_is); (case k_law_hold=>k_is)
    have f_law_work:RS.aQ (L2.KOf KX) mg "_law_work" RS.mV ["_law_errand_here"]:=by
      delta L2.KOf
      refine' RS.aR KX G (fun _ _ _ _ _ _ us hl=>by obtain ⟨_,rfl⟩:=RS.uo hl; rfl) ?a_law_work ?l_law_work ?c_law_work ?k_law_work
      (case a_law_work=>k_is); (case l_law_work=>k_is); (case c_law_work=>k_is); (case k_law_work=>k_is)
    have f_law_need:RS.aQ (L2.KOf KX) mg "_law_need" RS.mP ["_law_errands_here", "_law_ranks_here", "_law_number", "_law_time"]:=by
      delta L2.KOf
      refine' RS.aR KX G (fun _ _ _ _ _ _ us hl=>by obtain ⟨_,_,_,_,rfl⟩:=RS.yE hl; rfl) ?a_law_need ?l_law_need ?c_law_need ?k_law_need
      (case a_law_need=>k_is); (case l_law_need=>k_is); (case c_law_need=>k_is); (case k_law_need=>k_is)
    have f_law_longest:RS.aQ (L2.KOf KX) mg "_law_longest" RS.jm ["_law_errands_here", "_law_ranks_here", "_law_number"]:=by
      delta L2.KOf
      refine' RS.aR KX G (fun _ _ _ _ _ _ us hl=>by obtain ⟨_,_,_,rfl⟩:=RS.kA hl; rfl) ?a_law_longest ?l_law_longest ?c_law_longest ?k_law_longest
      (case a_law_longest=>k_is); (case l_law_longest=>k_is); (case c_law_longest=>k_is); (case k_law_longest=>k_is)
    have f_law_in_time:RS.aQ (L2.KOf KX) mg "_law_in_time" RS.jq ["_law_errands_here", "_law_ranks_here", "_law_number"]:=by
      delta L2.KOf
      refine' RS.aR KX G (fun _ _ _ _ _ _ us hl=>by obtain ⟨_,_,_,rfl⟩:=RS.kA hl; rfl) ?a_law_in_time ?l_law_in_time ?c_law_in_time ?k_law_in_time
      (case a_law_in_time=>k_is); (case l_law_in_time=>k_is); (case c_law_in_time=>k_is); (case k_law_in_time=>k_is)
    have f_law_all_in_time:RS.aQ (L2.KOf KX) mg "_law_all_in_time" RS.fM ["_law_errands_here", "_law_ranks_here"]:=by
      delta L2.KOf
      refine' RS.aR KX G (fun _ _ _ _ _ _ us hl=>by obtain ⟨_,_,rfl⟩:=RS.pw hl; rfl) ?a_law_all_in_time ?l_law_all_in_time ?c_law_all_in_time ?k_law_all_in_time
      (case a_law_all_in_time=>k_is); (case l_law_all_in_time=>k_is); (case c_law_all_in_time=>k_is); (case k_law_all_in_time=>k_is)
    have f_law:RS.aQ (L2.KOf KX) mg "law" RS.rS ["_law_script"]:=by
      delta L2.KOf
      refine' RS.aR KX G (fun _ _ _ _ _ _ us hl=>by obtain ⟨_,rfl⟩:=RS.uo hl; rfl) ?a_law ?l_law ?c_law ?k_law
      (case a_law=>k_is); (case l_law=>k_is); (case c_law=>k_is); (case k_law=>k_is)
    have b_all:mg "all"=none:=by
      refine' PySem.W.mg_none_of KX G ?z_all
      (case z_all=>k_is)
    have b_bool:mg "bool"=none:=by
      refine' PySem.W.mg_none_of KX G ?z_bool
      (case z_bool=>k_is)
    have b_enumerate:mg "enumerate"=none:=by
      refine' PySem.W.mg_none_of KX G ?z_enumerate
      (case z_enumerate=>k_is)
    have b_int:mg "int"=none:=by
      refine' PySem.W.mg_none_of KX G ?z_int
      (case z_int=>k_is)
    have b_isinstance:mg "isinstance"=none:=by
      refine' PySem.W.mg_none_of KX G ?z_isinstance
      (case z_isinstance=>k_is)
    have b_len:mg "len"=none:=by
      refine' PySem.W.mg_none_of KX G ?z_len
      (case z_len=>k_is)
    have b_list:mg "list"=none:=by
      refine' PySem.W.mg_none_of KX G ?z_list
      (case z_list=>k_is)
    have b_max:mg "max"=none:=by
      refine' PySem.W.mg_none_of KX G ?z_max
      (case z_max=>k_is)
    have b_min:mg "min"=none:=by
      refine' PySem.W.mg_none_of KX G ?z_min
      (case z_min=>k_is)
    have b_range:mg "range"=none:=by
      refine' PySem.W.mg_none_of KX G ?z_range
      (case z_range=>k_is)
    have b_set:mg "set"=none:=by
      refine' PySem.W.mg_none_of KX G ?z_set
      (case z_set=>k_is)
    have b_sum:mg "sum"=none:=by
      refine' PySem.W.mg_none_of KX G ?z_sum
      (case z_sum=>k_is)
    have b_tuple:mg "tuple"=none:=by
      refine' PySem.W.mg_none_of KX G ?z_tuple
      (case z_tuple=>k_is)
    have c_LEAST_EVERY:∃ t,mg "LEAST_EVERY"=some (.int 2 t):=by
      refine' RS.jL KX G ?z_LEAST_EVERY
      (case z_LEAST_EVERY=>k_is)
    have c_MOST_ERRANDS:∃ t,mg "MOST_ERRANDS"=some (.int 6 t):=by
      refine' RS.jL KX G ?z_MOST_ERRANDS
      (case z_MOST_ERRANDS=>k_is)
    have c_MOST_EVERY:∃ t,mg "MOST_EVERY"=some (.int 60 t):=by
      refine' RS.jL KX G ?z_MOST_EVERY
      (case z_MOST_EVERY=>k_is)
    have c_MOST_LATE:∃ t,mg "MOST_LATE"=some (.int 20 t):=by
      refine' RS.jL KX G ?z_MOST_LATE
      (case z_MOST_LATE=>k_is)
    have c_MOST_LENGTH:∃ t,mg "MOST_LENGTH"=some (.int 20 t):=by
      refine' RS.jL KX G ?z_MOST_LENGTH
      (case z_MOST_LENGTH=>k_is)
    have c_MOST_PARTS:∃ t,mg "MOST_PARTS"=some (.int 4 t):=by
      refine' RS.jL KX G ?z_MOST_PARTS
      (case z_MOST_PARTS=>k_is)
    have c_TOOLS:∃ t,mg "TOOLS"=some (.int 4 t):=by
      refine' RS.jL KX G ?z_TOOLS
      (case z_TOOLS=>k_is)
    obtain ⟨C_NoErrand,C_NoErrands,C_NoRanks,e_NoErrand,e_NoErrands,e_NoRanks⟩:∃ C_NoErrand C_NoErrands C_NoRanks:Addr,L2.u6 (L2.KOf KX) mg "NoErrand" C_NoErrand∧L2.u6 (L2.KOf KX) mg "NoErrands" C_NoErrands∧L2.u6 (L2.KOf KX) mg "NoRanks" C_NoRanks:=by
      delta L2.KOf
      refine' ⟨_,_,_,RS.tI KX G ?a_NoErrand ?e_NoErrand,RS.tI KX G ?a_NoErrands ?e_NoErrands,RS.tI KX G ?a_NoRanks ?e_NoRanks⟩
      (case a_NoErrand=>k_is); (case e_NoErrand=>k_exc)
      (case a_NoErrands=>k_is); (case e_NoErrands=>k_exc)
      (case a_NoRanks=>k_is); (case e_NoRanks=>k_exc)
    obtain ⟨C_Holding,m_Holding,cl_Holding,na_Holding_number,na_Holding_part,na_Holding_tool,na_Holding_times,mk_Holding⟩:∃ C:Addr,mg "Holding"=some (.ref C)∧L2.Cls (L2.KOf KX) C∧PySem.W.findIn (L2.KOf KX) (.ref C) "number"=some none∧PySem.W.findIn (L2.KOf KX) (.ref C) "part"=some none∧PySem.W.findIn (L2.KOf KX) (.ref C) "tool"=some none∧PySem.W.findIn (L2.KOf KX) (.ref C) "times"=some none∧∃ f fd,L2.Mk (L2.KOf KX) C f∧L2.Fun (L2.KOf KX) "__init__" "Holding.__init__" RS.mH f fd∧L2.Binds (L2.KOf KX) fd ["self", "number", "part", "tool", "times"] []:=by
      delta L2.KOf
      refine' ⟨_,PySem.W.mg_of KX G ?ac_Holding,⟨?pg_Holding,?hd_Holding,?po_Holding,?sa_Holding⟩,?n0_Holding,?n1_Holding,?n2_Holding,?n3_Holding,L2.B2 (fun _ _ _ _ _ _ us hl=>by obtain ⟨_,_,_,_,_,rfl⟩:=RS.CZ hl; rfl) ?ai_Holding ?ii_Holding ?li_Holding ?ci_Holding ?ki_Holding ?mk_Holding ?kc_Holding⟩
      (case ac_Holding=>k_is); (case pg_Holding=>k_is); (case hd_Holding=>k_is); (case po_Holding=>k_is); (case sa_Holding=>k_is); (case n0_Holding=>k_is); (case n1_Holding=>k_is); (case n2_Holding=>k_is); (case n3_Holding=>k_is); (case ai_Holding=>k_is); (case ii_Holding=>k_is); (case li_Holding=>k_is); (case ci_Holding=>k_is); (case ki_Holding=>k_is); (case mk_Holding=>k_is); (case kc_Holding=>k_is)
    have T:RS.Tx (L2.KOf KX) mg ⟨0,C_NoErrands,C_NoRanks,0,C_NoErrand,0,0,0,C_Holding,0⟩:=⟨f_is_whole,f_is_tuple,f_is_part,f_are_parts,f_is_errand,f_checked,f_checked_ranks,f_checked_number,f_check_place,f_work_of,f_has_tool,f_height,f_heights_of,f_holdings,f_hold_by_high,f_rounded_up,f_need,f_levels_by,f_longest_by,f_longest_by_high,f_has_room,f_is_in_time,f_as_lowest,f_not_placed,f_following_lowest,f_placed_from_below,f_ranks_with_room,f_fitting,f_do_fit,f_with_errand,f_with_less_every,f_can_rush,f_rush,f_law_cell_at,f_law_mixed,f_law_errand,f_law_errands,f_law_ranks,f_law_heights,f_law_hold,f_law_work,f_law_need,f_law_longest,f_law_in_time,f_law_all_in_time,f_law,b_all,b_bool,b_enumerate,b_int,b_isinstance,b_len,b_list,b_max,b_min,b_range,b_set,b_sum,b_tuple,c_LEAST_EVERY,c_MOST_ERRANDS,c_MOST_EVERY,c_MOST_LATE,c_MOST_LENGTH,c_MOST_PARTS,c_TOOLS,e_NoErrand,e_NoErrands,e_NoRanks,cl_Holding,na_Holding_number,na_Holding_part,na_Holding_tool,na_Holding_times,mk_Holding,m_Holding⟩
    exact ⟨f_law,fun f fd F base hb hn=>RS.law_ok T F⟩
