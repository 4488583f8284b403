import PyProof.Rows.All
import OpenK.AllK
import PySem.Challenge.RW_ranksure_k17_whole_spare
import KE.RegKIsAll
import Wide.All
import OpenK.KWalk
import OpenK.KMake
import OpenK.KDescr
import OpenK.KCall
import OpenK.KOwn
import KE.KIsAll
import KE.KItem
import KE.KxBytes
import Wide.FinOn
import Lean
import PyProof.EqAt
import PyProof.EqKinds
import PyProof.TupleCall
import KE.LcSums
import PyProof.Rows.EqDataRows
import PyProof.RulesAs
import PyProof.ZipIter
import PyProof.Draws
import PyProof.Rows.TupAdd
import PyProof.ListMulRoad
import PyProof.AutoListH
import PyProof.Rows.Range3
import PyProof.ListRange
import PyProof.EnumMake
import PyProof.EnumFor
import PyProof.Rows.SetFrom
import PyProof.WalksMore
import PyProof.StrOps2
import PyProof.Rows.MinMaxN
import PyProof.ConsumeWalk
import PyProof.Rows.SortWalk
import PyProof.ExcArgsOwn
import PyProof.StrBlock2
import KE.KMinKey
import PyProof.Rows.CallKwBuiltin
import PySem.PyData
set_option genSizeOf false
set_option genSizeOfSpec false
set_option genInjectivity false
set_option compiler.extract_closed false
set_option bootstrap.genMatcherCode false
set_option Elab.async false
set_option linter.all false
namespace RS
open PySem PySem.W PyProof.Rows
noncomputable def xT (p:Program) (w:World) (m:Nat) (ann:Option Value):Nat→SharedT→Thread→Option SharedT
  | 0,_,_=>none
  | n + 1,s,t=>match through t with
    | true=>some s
    | false=>match Fast.tw6613529449190102663 m ann t with
      | false=>none
      | true=>match Fast.tw10156331382660048174 (Fast.tw11892475500146522536 Fast.tw14364793385576792824) p w s t with
        | some x=>xT p w m ann n x.1 x.2
        | none=>none
theorem uW {p:Program} {w:World} {m:Nat} {ann:Option Value}:∀ {n:Nat} {s s':SharedT} {t:Thread},xT p w m ann n s t=some s'→topRun treeTable p w m ann n s.abs t=some s'.abs
  | 0,_,_,_,h=>by cases h
  | n + 1,s,s',t,h=>by
    unfold xT at h
    rw [← Fast.te6613529449190102663,← Fast.te10156331382660048174,← Fast.te11892475500146522536,← Fast.te14364793385576792824] at h
    unfold topRun
    cases ht:through t with
    | true=>rw [ht] at h; cases h; rfl
    | false =>
      rw [ht] at h
      cases hk:stepOk m ann t with
      | false=>rw [hk] at h; cases h
      | true =>
        rw [hk] at h
        cases hs:stepT (denote treeTable) p w s t with
        | none=>rw [hs] at h; cases h
        | some x =>
          rw [hs] at h
          rw [stepT_spec (s':=x.1) (t':=x.2) hs]
          exact uW h
noncomputable def Dt (l:List Obj):BT:=(l.foldl (fun x o=>(x.1.ins x.2 o,x.2 + 1)) (BT.nil,0)).1
noncomputable def hdS (w:World) (os:OsState):SharedT:=⟨Dt (boot_heap w.params).objs.toList,11,(boot_heap w.params).life,Array.mk [],boot_drawn,boot_toks,os⟩
theorem B9 (w:World):(fun os=>(hdS w os).abs)=fun os=>⟨boot_heap w.params,Array.mk [],boot_drawn,boot_toks,os⟩:=by kernel_rfl
theorem CV (w:World):((boot_heap w.params).isNs mainGlobals && (Array.mk []:Array GenState).size == 0,(boot_heap w.params).objs.size,(boot_heap w.params).nsMap mainGlobals "__annotations__")=(true,11,some (.ref 6)):=by kernel_rfl
noncomputable def Af (p q:Program) (loose:List Str) (Xt:Shared→Bool) {α:Type} (Yf:Shared→α) (h:Heap) (s:Shared) :=
  (staticsOk (importedModules p.main.body) h s.heap && namesBound p s.heap && gensDone s && laidKept h s.heap,Fast.tw4187177175401517315 q loose (importedModules p.main.body) Xt true s,Yf s)
theorem DG {p q:Program} {loose:List Str} {Xt:Shared→Bool} {α:Type} {Yf:Shared→α} {Ya:World→α} {N M:Nat}
    (e:opening p=plainProg p.main.scope.names) (hN:Nat.ble 600 N=true) (f:∀ s,fenceModules? p s=some s) (le:Nat.ble M N=true)
    (h:∀ w,(fun os=>(xT p w 11 (some (.ref 6)) M (hdS w os) (topStub p)).map fun s=>Af p q loose Xt Yf (boot_heap w.params) s.abs)=fun _=>some (true,openGood q loose,Ya w)):LeftO p q loose Xt Yf Ya N:=fun w=>by
  obtain ⟨⟨hp,gs,d,k,os⟩,e1,e'⟩:=Option.map_eq_some_iff.mp (boot_open e hN f w)
  obtain ⟨rfl,rfl,rfl,rfl⟩:hp=boot_heap w.params∧gs=Array.mk []∧d=boot_drawn∧k=boot_toks:=by simpa using e'
  obtain ⟨z1,z2,z3⟩:_∧_∧_:=by simpa only [Prod.mk.injEq] using CV w
  obtain ⟨s,hs,hv⟩:=Option.map_eq_some_iff.mp (congrFun (h w) os)
  obtain ⟨l1,l2,l3⟩:_∧_∧_:=by simpa only [Af,← Fast.te4187177175401517315,Prod.mk.injEq] using hv
  have r:=uW hs
  rw [congrFun (B9 w) os] at r
  have r:=topRun_mono (N - M) _ _ _ _ r
  rw [show M + (N - M)=N by have:=Nat.le_of_ble_eq_true le; omega] at r
  unfold openEnds
  rw [e1]
  show (topFrom treeTable p w N _).map _=_
  have t:topFrom treeTable p w N ⟨boot_heap w.params,Array.mk [],boot_drawn,boot_toks,os⟩=some s.abs:=by
    unfold topFrom
    dsimp only
    rw [z1,z2,z3,r]
    show (match staticsOk (importedModules p.main.body) (boot_heap w.params) s.abs.heap && namesBound p s.abs.heap && gensDone s.abs && laidKept (boot_heap w.params) s.abs.heap with | true=>_ | false=>_)=_
    rw [l1]
  rw [t]
  exact congrArg some (Prod.ext l2 l3)
end RS
section
open PySem PySem.W PyProof.Rows
noncomputable def RS.vw:Program:=view PySem.Challenge.pw_ranksure_k17_whole_spare [1,2,3,4,6,7,8,9,10,11,12,13,14,15,16,17,18,19,20,21,22,23,24,25,27,28,29,30,31,32,33,34,35,36,38,39,40,41,42,43,44,45,46,47,49,50,51,52,53,54,55,56,57,58,59,60,61,62]
local macro_rules | `(tactic| o_head $H)=>`(tactic| (refine holds_open (N:=5290) (Xt:=fun s=>xlAt RS.vw [] s && recOk (RowW.records (OpenRow.toRowW (OpenLaw.row PySem.Challenge.rw_ranksure_k17_whole_spare))) s) (XP:=XL RS.vw []) (q:=RS.vw) (loose:=[]) (Yf:=Hook.obs $H) (Ya:=Hook.val $H) (YP:=Hook.says $H) ?hl (Hook.of $H) (Hook.keeps $H) (fun s e=>xl_of s (Bool.and_eq_true_iff.mp e).1) XL.keeps (by rfl) (by rfl) (by rfl) (fun s e=>recFacts_of (Bool.and_eq_true_iff.mp e).2) (by rfl) (by assumption) (by decide +kernel) ⟨rfl,rfl,rfl,rfl,rfl,by decide +kernel⟩ ?hw ?hc; (case hl=>refine RS.DG (M:=2695) (by kernel_rfl) (by rfl) (by intro s; kernel_rfl) (by rfl) fun w=>?_; kernel_rfl)))
set_option maxRecDepth 100000 in
set_option maxHeartbeats 0 in
open_top RS.hdTop for PySem.Challenge.rw_ranksure_k17_whole_spare
end
-- CHANGE: your row's module here,as the last of these rows
set_option maxRecDepth 100000
namespace L2
open PySem PySem.Spec PyProof.Rows
noncomputable abbrev Key:=Sum Int Str
noncomputable def CD:Key→Value→Bool
  | .inl k,v=>Value.isInt k v
  | .inr x,v=>Value.isStrOf x v
noncomputable def FL (w:World):Key→Int
  | .inl k=>hashInt k
  | .inr x=>hashStr w x
theorem dw:∀ {k:Key} {v:Value},CD k v=true→(∃ i t,k=Sum.inl i∧v=Value.int i t)∨(∃ x t,k=Sum.inr x∧v=Value.str x t)
  | .inl i,v,h=>by
    obtain ⟨t,e⟩:=Value.isInt_shape (k:=i) (v:=v) h
    exact .inl ⟨i,t,rfl,e⟩
  | .inr x,v,h=>by
    obtain ⟨t,e⟩:=Value.isStrOf_shape (x:=x) (v:=v) h
    exact .inr ⟨x,t,rfl,e⟩
theorem DJ (a b:Int):decide ((Sum.inl a:Key)=Sum.inl b)=(a == b):=by
  by_cases e:a=b
  · subst e; simp
  · have h:¬ (Sum.inl a:Key)=Sum.inl b:=fun q=>e (Sum.inl.inj q)
    rw [decide_eq_false h]
    exact (beq_eq_false_iff_ne.mpr e).symm
theorem DZ (a b:Str):decide ((Sum.inr a:Key)=Sum.inr b)=decide (a=b):=by
  by_cases e:a=b
  · subst e; simp
  · have h:¬ (Sum.inr a:Key)=Sum.inr b:=fun q=>e (Sum.inr.inj q)
    rw [decide_eq_false h,decide_eq_false e]
theorem D4 (a:Int) (b:Str):decide ((Sum.inl a:Key)=Sum.inr b)=false:=decide_eq_false (fun q=>nomatch q)
theorem Ee (a:Str) (b:Int):decide ((Sum.inr a:Key)=Sum.inl b)=false:=decide_eq_false (fun q=>nomatch q)
noncomputable def yr (prog:Program) (w:World):PySem.KeyKind prog w Key where
  is:=CD
  hash:=FL w
  inj:=fun v a b ha hb=>by
    rcases dw ha with ⟨i,t,rfl,rfl⟩ | ⟨x,t,rfl,rfl⟩
    · rcases dw hb with ⟨j,u,rfl,e⟩ | ⟨y,u,rfl,e⟩
      · injection e with e1 _; rw [e1]
      · exact nomatch e
    · rcases dw hb with ⟨j,u,rfl,e⟩ | ⟨y,u,rfl,e⟩
      · exact nomatch e
      · injection e with e1 _; rw [e1]
  byValue:=fun k v h=>by
    rcases dw h with ⟨i,t,rfl,rfl⟩ | ⟨x,t,rfl,rfl⟩ <;> rfl
  pyHash:=fun hv h=>by
    rcases dw hv with ⟨i,t,rfl,rfl⟩ | ⟨x,t,rfl,rfl⟩
    · exact wpAny_pyHash_int h
    · exact wpAny_pyHash_str h
  eqBool:=fun hu hv h=>by
    rcases dw hu with ⟨i,t,rfl,rfl⟩ | ⟨x,t,rfl,rfl⟩
    · rcases dw hv with ⟨j,u,rfl,rfl⟩ | ⟨y,u,rfl,rfl⟩
      · rw [DJ] at h; exact wpAny_eqBool_int h
      · rw [D4] at h; exact SeqAt.EqAt.int_str i t y u _ _ _ _ h
    · rcases dw hv with ⟨j,u,rfl,rfl⟩ | ⟨y,u,rfl,rfl⟩
      · rw [Ee] at h; exact SeqAt.EqAt.str_int x t j u _ _ _ _ h
      · rw [DZ] at h; exact wpAny_eqBool_str h
  «strs»:=fun k x t v h=>by
    rcases dw h with ⟨i,u,rfl,e⟩ | ⟨y,u,rfl,e⟩
    · exact nomatch e
    · injection e with e1 _
      subst e1
      cases v <;> rfl
end L2
namespace L2
open PySem PySem.Spec PyProof.Rows
inductive V where
  | non | bl (b:Bool) | int (i:Int) | str (x:Str) | byt (b:Array UInt8) | flt (b:UInt64) | ref (a:Addr) | ty (n:String)
  deriving DecidableEq
noncomputable def RelV:V→Value→Prop
  | .non,u=>u=Value.none
  | .bl b,u=>u=Value.bool b
  | .int i,u=>∃ t,u=Value.int i t
  | .str x,u=>∃ t,u=Value.str x t
  | .byt b,u=>∃ t,u=Value.bytes b t
  | .flt b,u=>∃ t,u=Value.float b t
  | .ref a,u=>u=Value.ref a
  | .ty n,u=>u=Value.type n
noncomputable abbrev Vals:List V→List Value→Prop:=Paired RelV
theorem Vals.length {xs:List V} {us:List Value} (r:Vals xs us):xs.length=us.length:=Paired.length r
theorem Vals.get:∀ {xs:List V} {us:List Value} {i:Nat} {x:V},Vals xs us→xs[i]?=some x→∃ u,us[i]?=some u∧RelV x u
  | _,_,_,_,.nil,e=>by simp at e
  | _,_,0,_,.cons r _,e=>by simp at e; subst e; exact ⟨_,rfl,r⟩
  | _,_,i + 1,x,.cons _ t,e=>by
    obtain ⟨u,h1,h2⟩:=Vals.get (i:=i) (x:=x) t (by simpa using e)
    exact ⟨u,by simpa using h1,h2⟩
theorem Vals.set {x:V} {u:Value} (r:RelV x u):∀ {xs:List V} {us:List Value} (i:Nat),Vals xs us→Vals (xs.set i x) (us.set i u)
  | _,_,_,.nil=>.nil
  | _,_,0,.cons _ t=>.cons r t
  | _,_,i + 1,.cons q t=>.cons q (Vals.set r i t)
theorem Vals.append {xs ys:List V} {us ws:List Value} (h:Vals xs us) (s:Vals ys ws):Vals (xs++ys) (us++ws):=by
  induction h with
  | nil=>exact s
  | cons r t ih=>exact .cons r ih
theorem Vals.take:∀ {xs:List V} {us:List Value} (n:Nat),Vals xs us→Vals (xs.take n) (us.take n)
  | _,_,0,_=>.nil
  | _,_,_ + 1,.nil=>.nil
  | _,_,n + 1,.cons r t=>.cons r (Vals.take n t)
theorem Vals.drop:∀ {xs:List V} {us:List Value} (n:Nat),Vals xs us→Vals (xs.drop n) (us.drop n)
  | _,_,0,r=>r
  | _,_,_ + 1,.nil=>.nil
  | _,_,n + 1,.cons _ t=>Vals.drop n t
noncomputable def v9:Option V→Option Value→Prop
  | some v,some u=>RelV v u
  | none,none=>True
  | _,_=>False
noncomputable def KV {κ:Type}:List (κ × V)→List (κ × Value)→Prop:=Paired fun (p:κ × V) (q:κ × Value)=>p.1=q.1∧RelV p.2 q.2
noncomputable def kV:Key→V
  | .inl i=>.int i
  | .inr x=>.str x
inductive HO where
  | lst (xs:List V)
  | tup (xs:List V)
  | dK (kvs:List (Key × V)) | dT (kvs:List (List Key × V))
  | set (S:Int→Bool) (n:Nat)
  | ins (C dx:Addr) (fs:List (Str × V))
  | own (x:Addr)
  | xd (fs:List (Str × V))
  | met (f x:Addr)
  | rng (lo hi:Int)
  | frz (o:Obj) (u:HO)
  | tbl (q:Str)
  | ext (φ:Heap→Prop)
noncomputable abbrev Hp:=Addr→Option HO
noncomputable def upd (H:Hp) (a:Addr) (o:HO):Hp:=fun b=>if b=a then some o else H b
theorem cp {H:Hp} {a:Addr} {o:HO}:upd H a o a=some o:=by unfold upd; rw [if_pos rfl]
theorem bw {H:Hp} {a b:Addr} {o:HO} (h:b≠a):upd H a o b=H b:=by unfold upd; rw [if_neg h]
theorem bH {H:Hp} {a b:Addr} {o:HO} (h:H a=some o) (h':H b=none):a≠b:=by
  intro e; subst e; rw [h] at h'; cases h'
noncomputable def sF (h:Heap) (a:Addr) (items:Array Value):Prop:=∃ o,h.get? a=some o∧o.cls=.type "tuple"∧o.dict=none∧∃ n,o.data=.seq items n
theorem sF.tup {h:Heap} {a:Addr} {items:Array Value} (x:sF h a items):IsTup h a items:=by
  obtain ⟨o,e,c,_,n,d⟩:=x
  exact ⟨o,e,c,n,d⟩
theorem sF.new (h:Heap) (items:Array Value):sF (h.push { cls:=.type "tuple",data:=.seq items }) h.objs.size items:=⟨_,Heap.get?_push_size _ rfl,rfl,rfl,_,rfl⟩
section
variable (P:Program) (w:World)
noncomputable def gr (H:Hp) (h:Heap) (a:Addr):HO→Prop
  | .lst xs=>xs.length≤sizeLine∧∃ (its:List Value) (n:Nat),Vals xs its∧h.get? a=some { cls:=.type "list",data:=.seq its.toArray n }
  | .tup xs=>xs.length≤sizeLine∧∃ its:List Value,Vals xs its∧sF h a its.toArray
  | .dK kvs=>kvs.length≤sizeLine∧(a == sysModules)=false∧∃ vs,KV kvs vs∧h.DictOf (yr P w) a vs
  | .dT kvs=>kvs.length≤sizeLine∧(a == sysModules)=false∧∃ xs:List (List Key × Addr × Value),
      Paired (fun (p:List Key × V) (q:List Key × Addr × Value)=>p.1=q.1∧H q.2.1=some (.tup (p.1.map kV))∧RelV p.2 q.2.2) kvs xs ∧
      ∃ o es ep,h.get? a=some o∧o.ExactDict∧o.data=.dict es ep∧es.toList=xs.map (entryOfKey (tupleKind (yr P w)))∧(xs.map (·.1)).Nodup
  | .set S n=>h.SetOf (intKind P w) a S n
  | .ins C dx fs=>H dx=some (.own a)∧fs.length≤1000∧dx≠a∧h.get? a=some (PySem.W.instObj C dx) ∧
      ∃ mA,h.Ns1 dx mA∧(∀ f,v9 (fs.lookup f) (mA f))∧PySem.Within mA (fs.map (·.1))
  | .own _=>∃ o,h.get? a=some o
  | .xd fs=>∃ mA,h.Ns1 a mA∧∀ f,v9 (fs.lookup f) (mA f)
  | .rng lo hi=>∃ t u v,h.get? a=some { cls:=.type "range",data:=.fields #[.int lo t,.int hi u,.int 1 v] }
  | .frz o u=>h.get? a=some o∧gr H h a u
  | .tbl q=>∃ ps:Array Value,h.get? a=some { cls:=.none,data:=.fields ps }∧TriplesOk ps.toList∧∀ pos cv,codeAmong pos ps.toList=some cv→∃ c' o vs t,cv=.ref c'∧H c'=some (.frz o (.own c'))∧o.data=.fields vs∧vs[1]?=some (.str q t)
  | .met f x=>h.get? a=some (PySem.W.methodObj (.ref f) (.ref x))
  | .ext φ=>φ h∧(∃ o,h.get? a=some o)∧∀ h1 h2:Heap,φ h1→(∀ o,h1.get? a=some o→h2.get? a=some o)→φ h2
noncomputable def HOk (H:Hp) (h:Heap):Prop:=∀ a o,H a=some o→gr P w H h a o
end
section
variable {P:Program} {w:World} {H H':Hp} {h h':Heap} {a:Addr} {o:HO}
theorem gr.lt (x:gr P w H h a o):a < h.objs.size:=by
  cases o with
  | lst xs=>obtain ⟨_,_,_,_,e⟩:=x; exact Heap.lt_size e
  | tup xs=>obtain ⟨_,_,_,p⟩:=x; exact p.tup.lt
  | dK kvs=>obtain ⟨_,_,_,_,o,_,_,e,_⟩:=x; exact Heap.lt_size e
  | dT kvs=>obtain ⟨_,_,_,_,o,_,_,e,_⟩:=x; exact Heap.lt_size e
  | set S n=>obtain ⟨o,_,_,_,e,_⟩:=x; exact Heap.lt_size e
  | ins C dx fs=>obtain ⟨_,_,_,e,_⟩:=x; exact Heap.lt_size e
  | own y=>obtain ⟨_,e⟩:=x; exact Heap.lt_size e
  | xd fs=>obtain ⟨_,⟨_,_,_,e,_⟩,_⟩:=x; exact Heap.lt_size e
  | rng lo hi=>obtain ⟨_,_,_,e⟩:=x; exact Heap.lt_size e
  | frz ob u=>obtain ⟨e,_⟩:=x; exact Heap.lt_size e
  | tbl q=>obtain ⟨_,e,_⟩:=x; exact Heap.lt_size e
  | met f y=>exact Heap.lt_size (show h.get? a=some _ from x)
  | ext φ=>obtain ⟨_,⟨_,e⟩,_⟩:=x; exact Heap.lt_size e
theorem Paired.mapP {α β:Type} {F G:α→β→Prop} {l₁:List α} {l₂:List β} (h:Paired F l₁ l₂) (f:∀ a b,F a b→G a b):Paired G l₁ l₂:=by
  induction h with
  | nil=>exact .nil
  | cons r t ih=>exact .cons (f _ _ r) ih
theorem gr.stay (x:gr P w H h a o) (k:∀ b u,(b=a∨H b=some (.own a))→h.get? b=some u→h'.get? b=some u)
    (ho:∀ b,H b=some (.own a)→H' b=some (.own a)) (ht:∀ b xs,H b=some (.tup xs)→H' b=some (.tup xs)) (hf:∀ b o u,H b=some (.frz o u)→H' b=some (.frz o u):=by exact fun _ _ _ q=>q):gr P w H' h' a o:=by
  induction o with
  | lst xs=>obtain ⟨z,its,n,r,e⟩:=x; exact ⟨z,its,n,r,k _ _ (.inl rfl) e⟩
  | tup xs=>obtain ⟨z,its,r,ob,e,c⟩:=x; exact ⟨z,its,r,ob,k _ _ (.inl rfl) e,c⟩
  | dK kvs=>obtain ⟨z,y,vs,r,ob,es,ep,e,c⟩:=x; exact ⟨z,y,vs,r,ob,es,ep,k _ _ (.inl rfl) e,c⟩
  | dT kvs =>
    obtain ⟨z,y,xs,r,ob,es,ep,e,c⟩:=x
    exact ⟨z,y,xs,Paired.mapP r fun p q z=>⟨z.1,ht _ _ z.2.1,z.2.2⟩,ob,es,ep,k _ _ (.inl rfl) e,c⟩
  | set S n=>obtain ⟨ob,es,ep,t,e,c⟩:=x; exact ⟨ob,es,ep,t,k _ _ (.inl rfl) e,c⟩
  | ins C dx fs =>
    obtain ⟨d,z,ne,e,mA,⟨od,es,ep,e2,c⟩,r⟩:=x
    exact ⟨ho _ d,z,ne,k _ _ (.inl rfl) e,mA,⟨od,es,ep,k _ _ (.inr d) e2,c⟩,r⟩
  | own y=>obtain ⟨ob,e⟩:=x; exact ⟨ob,k _ _ (.inl rfl) e⟩
  | xd fs=>obtain ⟨mA,⟨od,es,ep,e,c⟩,r⟩:=x; exact ⟨mA,⟨od,es,ep,k _ _ (.inl rfl) e,c⟩,r⟩
  | rng lo hi=>obtain ⟨t,u,v,e⟩:=x; exact ⟨t,u,v,k _ _ (.inl rfl) e⟩
  | frz ob u ih=>obtain ⟨e,q⟩:=x; exact ⟨k _ _ (.inl rfl) e,ih q⟩
  | tbl q =>
    obtain ⟨ps,e,t,c⟩:=x
    exact ⟨ps,k a _ (.inl rfl) e,t,fun pos cv z=>by obtain ⟨c',o,vs,t',e1,e2,e3⟩:=c pos cv z; exact ⟨c',o,vs,t',e1,hf _ _ _ e2,e3⟩⟩
  | met f y =>
    have e:h.get? a=some (PySem.W.methodObj (.ref f) (.ref y)):=x
    show h'.get? a=some (PySem.W.methodObj (.ref f) (.ref y))
    exact k a _ (.inl rfl) e
  | ext φ=>obtain ⟨p,⟨o,e⟩,st⟩:=x; exact ⟨st _ _ p fun o q=>k _ _ (.inl rfl) q,⟨o,k _ _ (.inl rfl) e⟩,st⟩
theorem HOk.lt (x:HOk P w H h) (e:H a=some o):a < h.objs.size:=(x a o e).lt
theorem HOk.fresh (x:HOk P w H h) (e:h.objs.size≤a):H a=none:=by
  cases q:H a with
  | none=>rfl
  | some u=>exact absurd (Nat.lt_of_lt_of_le (x.lt q) e) (Nat.lt_irrefl _)
theorem HOk.kept (x:HOk P w H h) (k:∀ b u,h.get? b=some u→h'.get? b=some u):HOk P w H h':=fun a o e =>
  (x a o e).stay (fun b u _ q=>k b u q) (fun _ q=>q) fun _ _ q=>q
theorem HOk.laid (x:HOk P w H h) (k:∀ b u,h.get? b=some u→h'.get? b=some u) (hp:h.objs.size≤a) (new:gr P w (upd H a o) h' a o):HOk P w (upd H a o) h':=fun b u e=>by
  have hn:=x.fresh hp
  by_cases hb:b=a
  · subst hb; rw [cp] at e; cases e; exact new
  · rw [bw hb] at e
    exact (x b u e).stay (fun c v _ q=>k c v q) (fun c q=>by rw [bw (bH q hn)]; exact q) (fun c xs q=>by rw [bw (bH q hn)]; exact q) fun c ob w' q=>by rw [bw (bH q hn)]; exact q
end
noncomputable def Rd (H:Hp) (a:Addr) (u:HO):Prop:=H a=some u∨∃ o,H a=some (.frz o u)
theorem Rd.ok {P:Program} {w:World} {H:Hp} {h:Heap} {a:Addr} {u:HO} (r:Rd H a u) (x:HOk P w H h):gr P w H h a u:=by
  rcases r with r | ⟨o,r⟩
  · exact x a u r
  · obtain ⟨_,q⟩:=x a _ r
    exact q
noncomputable def Mut:Option HO→Prop
  | some (.lst _)=>True
  | some (.dK _)=>True
  | some (.dT _)=>True
  | some (.set _ _)=>True
  | some (.ins _ _ _)=>True
  | some (.ext _)=>True
  | _=>False
section
variable {P:Program} {w:World} {H:Hp} {h h':Heap} {x e:Addr} {o':HO}
theorem HOk.write (ok:HOk P w H h) (mu:Mut (H x)) (he:e=x∨H e=some (.own x)) (k:∀ b u,b≠e→h.get? b=some u→h'.get? b=some u) (heo:∃ u,h'.get? e=some u)
    (new:gr P w (upd H x o') h' x o'):HOk P w (upd H x o') h':=fun b u q=>by
  have nown:∀ c y,H c=some (.own y)→c≠x:=fun c y r z=>by subst z; rw [r] at mu; exact mu
  have ntup:∀ c xs,H c=some (.tup xs)→c≠x:=fun c xs r z=>by subst z; rw [r] at mu; exact mu
  have nfrz:∀ c o u,H c=some (.frz o u)→c≠x:=fun c o u r z=>by subst z; rw [r] at mu; exact mu
  by_cases hb:b=x
  · subst hb; rw [cp] at q; cases q; exact new
  · rw [bw hb] at q
    by_cases hbe:b=e
    · have q':H b=some (.own x):=by
        rcases he with z | z
        · exact absurd (hbe.trans z) hb
        · rw [hbe]; exact z
      rw [q] at q'; cases q'
      obtain ⟨v,hv⟩:=heo
      exact ⟨v,by rw [hbe]; exact hv⟩
    · refine (ok b u q).stay (fun c v hc r=>k c v ?_ r) (fun c r=>by rw [bw (nown c b r)]; exact r) (fun c xs r=>by rw [bw (ntup c xs r)]; exact r) fun c o w' r=>by rw [bw (nfrz c o w' r)]; exact r
      rcases hc with rfl | hc
      · exact hbe
      · rintro rfl
        rcases he with z | z
        · exact nown c b hc z
        · rw [hc] at z; cases z; exact hb rfl
end
structure Un (fs ex:List Addr) (H H':Hp) (h h':Heap):Prop where
  keep:∀ b o,h.get? b=some o→H b=none→b ∉ fs→b ∉ ex→h'.get? b=some o
  slot:∀ b o,h.get? b=some o→H b=none→b∈fs→b ∉ ex→∃ sl,h'.get? b=some { o with slots:=sl }
  free:∀ b o,h.get? b=some o→H b=none→b ∉ ex→H' b=none
  there:∀ b o,h.get? b=some o→b ∉ ex→∃ o',h'.get? b=some o'
  tups:∀ b xs,H b=some (.tup xs)→H' b=some (.tup xs)
  frzs:∀ b o u,H b=some (.frz o u)→H' b=some (.frz o u)
  tbls:∀ b q,H b=some (.tbl q)→H' b=some (.tbl q)
section
variable {fs fs' ex ex':List Addr} {H H1 H2:Hp} {h h1 h2 h':Heap} {a x e:Addr} {o:HO}
theorem Un.any (u:Un fs ex H H1 h h1) {b:Addr} {ob:Obj} (q:h.get? b=some ob) (n:H b=none) (hx:b ∉ ex):∃ sl,h1.get? b=some { ob with slots:=sl }:=by
  by_cases hb:b∈fs
  · exact u.slot b ob q n hb hx
  · exact ⟨ob.slots,u.keep b ob q n hb hx⟩
theorem Un.kept (k:∀ b u,h.get? b=some u→h'.get? b=some u):Un fs ex H H h h' :=
  ⟨fun b ob q _ _ _=>k b ob q,fun b ob q _ _ _=>⟨ob.slots,k b ob q⟩,fun _ _ _ n _=>n,fun b ob q _=>⟨ob,k b ob q⟩,fun _ _ q=>q,fun _ _ _ q=>q,fun _ _ q=>q⟩
theorem Un.refl:Un fs ex H H h h:=Un.kept fun _ _ q=>q
theorem Un.laid (k:∀ b u,h.get? b=some u→h'.get? b=some u) (hp:h.objs.size≤a) (hn:H a=none):Un fs ex H (upd H a o) h h' where
  keep:=fun b u q _ _ _=>k b u q
  slot:=fun b u q _ _ _=>⟨u.slots,k b u q⟩
  free:=fun b u q n _=>by rw [bw (Nat.ne_of_lt (Nat.lt_of_lt_of_le (Heap.lt_size q) hp))]; exact n
  there:=fun b u q _=>⟨u,k b u q⟩
  tups:=fun b xs q=>by rw [bw (bH q hn)]; exact q
  frzs:=fun b u xs q=>by rw [bw (bH q hn)]; exact q
  tbls:=fun b ps q=>by rw [bw (bH q hn)]; exact q
theorem Un.write (mu:Mut (H x)) (he:e=x∨H e=some (.own x)) (k:∀ b u,b≠e→h.get? b=some u→h'.get? b=some u) (heo:∃ u,h'.get? e=some u):Un fs ex H (upd H x o) h h':=by
  have hx:∀ b,H b=none→b≠x:=fun b n z=>by subst z; rw [n] at mu; exact mu
  have hb:∀ b,H b=none→b≠e:=fun b n z=>by
    subst z
    rcases he with r | r
    · exact hx b n r
    · rw [n] at r; cases r
  have hm:∀ b u,H b=some u→¬ Mut (some u)→b≠x:=fun b u q nm z=>by subst z; rw [q] at mu; exact nm mu
  refine ⟨fun b u q n _ _=>k b u (hb b n) q,fun b u q n _ _=>⟨u.slots,k b u (hb b n) q⟩,fun b u q n _=>by rw [bw (hx b n)]; exact n,fun b u q _=>?_,
    fun b xs q=>by rw [bw (hm b _ q fun z=>z)]; exact q,fun b u xs q=>by rw [bw (hm b _ q fun z=>z)]; exact q,fun b ps q=>by rw [bw (hm b _ q fun z=>z)]; exact q⟩
  by_cases hbe:b=e
  · subst hbe; exact heo
  · exact ⟨u,k b u hbe q⟩
end
noncomputable def trk (h:Heap) (H:Hp):List Addr:=(List.range h.objs.size).filter fun a=>(H a).isSome
noncomputable def sH (h:Heap) (H:Hp):Heap:=PySem.W.hideAll h (trk h H)
theorem yA (h:Heap) (H:Hp):(sH h H).objs.size=h.objs.size:=PySem.W.hideAll_size _ _
theorem A1 {h:Heap} {H:Hp} {b:Addr} {o:Obj} (e:h.get? b=some o) (n:H b=none):(sH h H).get? b=some o :=
  PySem.W.hideAll_get _ e fun hm=>by
    have q:(H b).isSome=true:=(List.mem_filter.mp hm).2
    rw [n] at q; simp at q
theorem B4 {h:Heap} {H:Hp} {b:Addr} {o:Obj} (e:(sH h H).get? b=some o):h.get? b=some o∧H b=none:=by
  have e':h.get? b=some o:=PySem.W.of_hideAll (trk h H) e
  refine ⟨e',?_⟩
  cases q:H b with
  | none=>rfl
  | some x =>
    have hm:b∈trk h H:=List.mem_filter.mpr ⟨List.mem_range.mpr (Heap.lt_size e'),by simp [q]⟩
    have z:(sH h H).get? b=none:=PySem.W.hideAll_none (trk h H) hm
    rw [z] at e; cases e
end L2
namespace L2
open PySem PySem.Spec PyProof.Rows
structure Mod (K:PySem.W.Frag) (mg:Str→Option Value) (base:Heap):Prop where
  kin:K.In base
  glob:base.Ns mainGlobals mg
  blt:∃ mb,base.Ns builtinsNs mb∧∀ x:Str,x≠"__name__"→mb x=bootBuiltins x
  nolimit:base.NoLimit
noncomputable def ye:List Str:=[]
noncomputable def TabOf (K:PySem.W.Frag) (P:Addr) (q:Str):Prop:=∃ x∈ye,∃ f oc od fd sl c,PySem.W.nsIn K mainGlobals x=some (some (.ref f))∧K.lookup f=some ⟨oc,od,.func fd,sl⟩∧fd.code=.ref c∧(∃ o vs,K.lookup c=some o∧o.data=.fields vs∧vs[11]?=some (.ref P))∧q=x++".<locals>.<lambda>"
structure Cx where
  prog:Program
  w:World
  K:PySem.W.Frag
  mg:Str→Option Value
  base:Heap
  A:Around
  N:List Str
  s₀:Shared
  H₀:Hp
  env:Env
  outer:List Env
  stack:List Env
  ex:List Addr
  fn:Str→Bool
  calm:Bool
  pn:List (Addr × Obj)
  xe:Value→Shared→Prop
noncomputable def frs (l:List Env):List Addr:=l.filterMap (·.frame)
noncomputable abbrev Cx.fs (X:Cx):List Addr:=frs X.outer
noncomputable def Vis (sc:Scope) (x:Str):Prop:=sc.names.lookup x=some .local∨sc.names.lookup x=some .cell∨sc.names.lookup x=some .free
noncomputable def Loc (sc:Scope) (x:Str):Prop:=sc.names.lookup x=some .local∨sc.names.lookup x=some .cell
noncomputable def Look (env:Env) (h:Heap) (m:Str→Option Value) (x:Str) (u:Value):Prop :=
  (env.kindOf x=some .local∧m x=some u)∨((env.kindOf x=some .cell∨env.kindOf x=some .free)∧∃ c,env.cells.lookup x=some c∧h.IsCell c (some u))
structure Cx.Ok (X:Cx):Prop where
  mod:Mod X.K X.mg X.base
  kind:X.env.scope.kind=.function
  glob:X.env.globals=mainGlobals
  blt:X.env.builtins=builtinsNs
  above:X.s₀.heap.objs.size≤X.env.locals
  inj:∀ x y c,X.env.cells.lookup x=some c→X.env.cells.lookup y=some c→x=y
  has:∀ x,(X.env.kindOf x=some .cell∨X.env.kindOf x=some .free)→∃ c,X.env.cells.lookup x=some c
  cab:∀ x c,X.fn x=true→X.env.cells.lookup x=some c→X.s₀.heap.objs.size≤c
  hd:X.calm=true→X.A.handled=none
  frames:X.A.frames=some X.stack
  stk:X.stack=X.outer∨(X.stack=X.env::X.outer∧X.env.frame=some X.env.locals)
  exf:∀ b∈X.ex,b≠X.env.locals∧∀ x c,X.env.cells.lookup x=some c→c≠b
  bs:∀ b o,X.base.get? b=some o→X.s₀.heap.get? b=some o∧X.H₀ b=none
  bsz:X.base.objs.size≤X.s₀.heap.objs.size
  noex:∀ b o,X.base.get? b=some o→b ∉ X.ex
  exfs:∀ b∈X.ex,b ∉ X.fs
  funs:X.s₀.heap.FunFrames X.base X.outer
  frf:∀ b∈X.fs,X.H₀ b=none
structure Inv (X:Cx) (pins:List (Addr × Obj)) (σ:List (Option V)) (H:Hp) (s:Shared):Prop where
  ok:X.Ok
  os:s.os=X.s₀.os
  bare:AllBare s.gens
  base:Un X.fs X.ex X.H₀ H X.s₀.heap s.heap
  loc:∃ m,s.heap.Ns X.env.locals m∧∀ (i:Nat) (x:Str) (v:V),X.N[i]?=some x→σ[i]?=some (some v)→Vis X.env.scope x→∃ u,RelV v u∧Look X.env s.heap m x u
  cell:∀ x c,X.env.cells.lookup x=some c→∃ v,s.heap.IsCell c v
  free:H X.env.locals=none
  freeC:∀ x c,X.env.cells.lookup x=some c→H c=none
  pin:∀ p∈X.pn++pins,s.heap.get? p.1=some p.2∧H p.1=none∧p.1≠X.env.locals∧p.1 ∉ X.fs∧∀ v,p.2.data≠.cell v
  hok:HOk X.prog X.w H s.heap
  len:σ.length=X.N.length
  tab:∀ P q,TabOf X.K P q→H P=some (.tbl q)
section
variable {X:Cx} {pins:List (Addr × Obj)} {σ:List (Option V)} {H H':Hp} {s:Shared} {h':Heap}
theorem Cx.Ok.nofr (ok:X.Ok) {b:Addr} {o:Obj} (e:X.base.get? b=some o):b ∉ X.fs:=fun hb=>by
  have:=(ok.funs.mem hb).1
  rw [e] at this; cases this
theorem Inv.bs (I:Inv X pins σ H s):∀ b o,X.base.get? b=some o→s.heap.get? b=some o∧H b=none:=fun b o e =>
  ⟨I.base.keep b o (I.ok.bs b o e).1 (I.ok.bs b o e).2 (I.ok.nofr e) (I.ok.noex b o e),I.base.free b o (I.ok.bs b o e).1 (I.ok.bs b o e).2 (I.ok.noex b o e)⟩
theorem Inv.bk (I:Inv X pins σ H s):∀ b o,X.base.get? b=some o→s.heap.get? b=some o:=fun b o e=>(I.bs b o e).1
theorem Inv.mod (I:Inv X pins σ H s):Mod X.K X.mg X.base:=I.ok.mod
theorem Inv.kIn (I:Inv X pins σ H s):X.K.In s.heap:=I.ok.mod.kin.keeps I.bk
theorem Inv.lt (I:Inv X pins σ H s):X.env.locals < s.heap.objs.size:=let ⟨_,hn,_⟩:=I.loc; hn.lt
theorem Inv.sz (I:Inv X pins σ H s):X.s₀.heap.objs.size≤s.heap.objs.size:=Nat.le_trans I.ok.above (Nat.le_of_lt I.lt)
theorem Inv.nofs (I:Inv X pins σ H s) {a:Addr} (h:s.heap.objs.size≤a):a ∉ X.fs:=fun hb=>by
  obtain ⟨_,o,ho,_⟩:=I.ok.funs.mem hb
  exact absurd (Nat.lt_of_lt_of_le (Heap.lt_size ho) (Nat.le_trans I.sz h)) (Nat.lt_irrefl _)
theorem Inv.cne (I:Inv X pins σ H s):∀ x c,X.env.cells.lookup x=some c→c≠X.env.locals:=fun x c e z=>by
  obtain ⟨v,o,ho,hd⟩:=I.cell x c e
  obtain ⟨m,⟨o',es,ep,ho',hd',_⟩,_⟩:=I.loc
  rw [z,ho'] at ho; cases ho; rw [hd'] at hd; cases hd
theorem Inv.funs (I:Inv X pins σ H s):s.heap.FunFrames X.base X.outer:=by
  have all:∀ (l:List Env),(∀ b∈frs l,b∈X.fs)→X.s₀.heap.FunFrames X.base l→s.heap.FunFrames X.base l:=by
    intro l
    induction l with
    | nil=>intro _ _; trivial
    | cons env r ih =>
      intro hs hl
      obtain ⟨hk,⟨L,o,hf,hn,ho,hd⟩,hr⟩:=hl
      have hL:L∈X.fs:=hs L (by unfold frs; rw [List.filterMap_cons,hf]; exact List.mem_cons_self)
      obtain ⟨sl,e⟩:=I.base.slot L o ho (I.ok.frf L hL) hL fun z=>I.ok.exfs L z hL
      exact ⟨hk,⟨L,_,hf,hn,e,hd⟩,ih (fun b hb=>hs b (by unfold frs; rw [List.filterMap_cons,hf]; exact List.mem_cons_of_mem _ hb)) hr⟩
  exact all X.outer (fun _ hb=>hb) I.ok.funs
theorem Inv.stack (I:Inv X pins σ H s):s.heap.FunFrames X.base X.stack:=by
  rcases I.ok.stk with e | ⟨e,hf⟩
  · rw [e]; exact I.funs
  · rw [e]
    obtain ⟨m,hn,_⟩:=I.loc
    refine .cons (by rw [I.ok.kind]; decide) hf hn ?_ I.funs
    exact Heap.get?_none_of_le (Nat.le_trans I.ok.bsz I.ok.above)
theorem Inv.stkSub (I:Inv X pins σ H s):∀ b∈frs X.stack,b∈X.env.locals::X.fs:=fun b hb=>by
  rcases I.ok.stk with e | ⟨e,hf⟩
  · rw [e] at hb; exact List.mem_cons_of_mem _ hb
  · rw [e] at hb
    unfold frs at hb
    rw [List.filterMap_cons,hf] at hb
    exact hb
theorem Inv.stkFree (I:Inv X pins σ H s):∀ b∈frs X.stack,H b=none:=fun b hb=>by
  rcases List.mem_cons.mp (I.stkSub b hb) with e | hb
  · rw [e]; exact I.free
  · obtain ⟨_,o,ho,_⟩:=I.ok.funs.mem hb
    exact I.base.free b o ho (I.ok.frf b hb) fun z=>I.ok.exfs b z hb
theorem Inv.step {g':Array GenState} {t':Nat} {d':Drawn} {ch:List Addr} (I:Inv X pins σ H s)
    (hch:∀ b∈ch,(b∈X.ex∨X.s₀.heap.objs.size≤b)∧b≠X.env.locals∧(∀ x c,X.env.cells.lookup x=some c→c≠b)∧∀ p∈X.pn++pins,p.1≠b)
    (keep:∀ b o,b≠X.env.locals→b ∉ X.fs→b ∉ ch→s.heap.get? b=some o→H b=none→h'.get? b=some o)
    (slot:∀ b o,b≠X.env.locals→b∈X.fs→b ∉ ch→s.heap.get? b=some o→H b=none→∃ sl,h'.get? b=some { o with slots:=sl }) (free:∀ b o,b ∉ ch→s.heap.get? b=some o→H b=none→H' b=none)
    (there:∀ b o,b ∉ ch→s.heap.get? b=some o→∃ o',h'.get? b=some o')
    (tups:∀ b xs,H b=some (.tup xs)→H' b=some (.tup xs)) (frzs:∀ b o u,H b=some (.frz o u)→H' b=some (.frz o u)) (tbls:∀ b q,H b=some (.tbl q)→H' b=some (.tbl q))
    (ns:∀ m,s.heap.Ns X.env.locals m→h'.Ns X.env.locals m) (hok:HOk X.prog X.w H' h') (hg:AllBare g') :
    Inv X pins σ H' { s with heap:=h',gens:=g',drawn:=d',toks:=t' }:=by
  have neL:∀ b o,X.s₀.heap.get? b=some o→b≠X.env.locals:=fun b o e=>Nat.ne_of_lt (Nat.lt_of_lt_of_le (Heap.lt_size e) I.ok.above)
  have neC:∀ b o,X.s₀.heap.get? b=some o→b ∉ X.ex→b ∉ ch:=fun b o e hx hb=>by
    rcases (hch b hb).1 with z | z
    · exact hx z
    · exact absurd (Nat.lt_of_lt_of_le (Heap.lt_size e) z) (Nat.lt_irrefl _)
  have cellK:∀ x c,X.env.cells.lookup x=some c→∀ v,s.heap.IsCell c v→h'.IsCell c v:=fun x c e v pz4=>by
    obtain ⟨o,ho,hd⟩:=pz4
    have nch:c ∉ ch:=fun z=>(hch c z).2.2.1 x c e rfl
    by_cases hc:c∈X.fs
    · obtain ⟨sl,q⟩:=slot c o (I.cne x c e) hc nch ho (I.freeC x c e)
      exact ⟨_,q,hd⟩
    · exact ⟨o,keep c o (I.cne x c e) hc nch ho (I.freeC x c e),hd⟩
  refine ⟨I.ok,I.os,hg,⟨fun b o e n hb hx=>?_,fun b o e n hb hx=>?_,fun b o e n hx=>?_,fun b o e hx=>?_,fun b xs e=>tups b xs (I.base.tups b xs e),fun b o xs e=>frzs b o xs (I.base.frzs b o xs e),fun b ps e=>?_⟩,?_,fun x c e=>?_,?_,fun x c e=>?_,fun p hp=>?_,hok,I.len,fun P q t=>tbls P q (I.tab P q t)⟩
  · exact keep b o (neL b o e) hb (neC b o e hx) (I.base.keep b o e n hb hx) (I.base.free b o e n hx)
  · obtain ⟨sl,e1⟩:=I.base.slot b o e n hb hx
    obtain ⟨sl',e2⟩:=slot b _ (neL b o e) hb (neC b o e hx) e1 (I.base.free b o e n hx)
    exact ⟨sl',e2⟩
  · obtain ⟨o',e1⟩:=I.base.there b o e hx
    exact free b o' (neC b o e hx) e1 (I.base.free b o e n hx)
  · obtain ⟨o',e1⟩:=I.base.there b o e hx
    exact there b o' (neC b o e hx) e1
  · exact tbls b _ (I.base.tbls b ps e)
  · obtain ⟨m,hn,hl⟩:=I.loc
    refine ⟨m,ns m hn,fun i x v e1 e2 e3=>?_⟩
    obtain ⟨u,r,l⟩:=hl i x v e1 e2 e3
    refine ⟨u,r,?_⟩
    rcases l with l | ⟨k,c,e,z⟩
    · exact .inl l
    · exact .inr ⟨k,c,e,cellK x c e _ z⟩
  · obtain ⟨v,z⟩:=I.cell x c e
    exact ⟨v,cellK x c e v z⟩
  · obtain ⟨m,⟨o,_,_,ho,_⟩,_⟩:=I.loc
    exact free _ o (fun z=>(hch _ z).2.1 rfl) ho I.free
  · obtain ⟨v,o,ho,hd⟩:=I.cell x c e
    exact free c o (fun z=>(hch c z).2.2.1 x c e rfl) ho (I.freeC x c e)
  · obtain ⟨e,n,ne,nf,d⟩:=I.pin p hp
    have nch:p.1 ∉ ch:=fun z=>(hch p.1 z).2.2.2 p hp rfl
    exact ⟨keep p.1 p.2 ne nf nch e n,free p.1 p.2 nch e n,ne,nf,d⟩
theorem Inv.un {t':Nat} (I:Inv X pins σ H s) (u:Un X.fs [] H H' s.heap h') (hok:HOk X.prog X.w H' h'):Inv X pins σ H' { s with heap:=h',toks:=t' }:=by
  obtain ⟨m,⟨o,es,ep,ho,r⟩,_⟩:=id I.loc
  obtain ⟨sl,hL⟩:=u.any ho I.free (by simp)
  exact I.step (g':=s.gens) (d':=s.drawn) (ch:=[]) (fun _ z=>nomatch z) (fun b o _ hb _ e n=>u.keep b o e n hb (by simp)) (fun b o _ hb _ e n=>u.slot b o e n hb (by simp)) (fun b o _ e n=>u.free b o e n (by simp)) (fun b o _ e=>u.there b o e (by simp)) u.tups u.frzs u.tbls (fun m' hm=>by
    obtain ⟨o',es',ep',ho',r'⟩:=hm
    rw [ho] at ho'; cases ho'
    exact ⟨_,es',ep',hL,r'⟩) hok I.bare
theorem Inv.call {g':Array GenState} {t':Nat} {d':Drawn} {ch:List Addr} (I:Inv X pins σ H s) (u:Un (frs X.stack) ch H H' s.heap h') (hok:HOk X.prog X.w H' h') (hg:AllBare g')
    (hch:∀ b∈ch,(b∈X.ex∨X.s₀.heap.objs.size≤b)∧b≠X.env.locals∧(∀ x c,X.env.cells.lookup x=some c→c≠b)∧∀ p∈X.pn++pins,p.1≠b) :
    Inv X pins σ H' { s with heap:=h',gens:=g',drawn:=d',toks:=t' }:=by
  obtain ⟨m,⟨o,es,ep,ho,r⟩,_⟩:=id I.loc
  obtain ⟨sl,hL⟩:=u.any ho I.free fun z=>(hch _ z).2.1 rfl
  exact I.step (ch:=ch) hch (fun b o hL hb hc e n=>u.keep b o e n (fun z=>(List.mem_cons.mp (I.stkSub b z)).elim hL hb) hc) (fun b o _ _ hc e n=>u.any e n hc) (fun b o hc e n=>u.free b o e n hc) (fun b o hc e=>u.there b o e hc) u.tups u.frzs u.tbls (fun m' hm=>by
    obtain ⟨o',es',ep',ho',r'⟩:=hm
    rw [ho] at ho'; cases ho'
    exact ⟨_,es',ep',hL,r'⟩) hok hg
theorem Inv.turned {t':Nat} {it:Addr} (I:Inv X pins σ H s) (k:∀ b o,b≠it→s.heap.get? b=some o→h'.get? b=some o) (hn:H it=none) (hL:it≠X.env.locals)
    (h1:it∈X.ex∨X.s₀.heap.objs.size≤it) (h2:∀ x c,X.env.cells.lookup x=some c→c≠it) (h3:∀ p∈X.pn++pins,p.1≠it):Inv X pins σ H { s with heap:=h',toks:=t' }:=by
  have nit:∀ b u,H b=some u→b≠it:=fun b u e z=>by rw [z,hn] at e; cases e
  refine I.step (g':=s.gens) (d':=s.drawn) (ch:=[it]) (fun b hb=>?_) (fun b o _ _ hc e _=>k b o (fun z=>hc (by simp [z])) e) (fun b o _ _ hc e _=>⟨o.slots,k b o (fun z=>hc (by simp [z])) e⟩) (fun _ _ _ _ n=>n)
    (fun b o hc e=>⟨o,k b o (fun z=>hc (by simp [z])) e⟩) (fun _ _ e=>e) (fun _ _ _ e=>e) (fun b ps e=>e) (fun m hm=>?_) (fun b u e=>?_) I.bare
  · have e:b=it:=by simpa using hb
    subst e
    exact ⟨h1,hL,h2,h3⟩
  · obtain ⟨o,es,ep,ho,r⟩:=hm
    exact ⟨o,es,ep,k _ o (Ne.symm hL) ho,r⟩
  · refine (I.hok b u e).stay (fun c v hc q=>k c v ?_ q) (fun _ q=>q) fun _ _ q=>q
    rcases hc with z | z
    · rw [z]; exact nit b u e
    · exact nit c _ z
theorem Inv.tok (I:Inv X pins σ H s) (t:Nat):Inv X pins σ H { s with toks:=t }:=I.un (h':=s.heap) (t':=t) Un.refl I.hok
theorem Inv.kept {t':Nat} (I:Inv X pins σ H s) (k:∀ b u,s.heap.get? b=some u→h'.get? b=some u):Inv X pins σ H { s with heap:=h',toks:=t' }:=I.un (Un.kept k) (I.hok.kept k)
theorem Inv.laid {a:Addr} {o:HO} {t':Nat} (I:Inv X pins σ H s) (k:∀ b u,s.heap.get? b=some u→h'.get? b=some u) (hp:s.heap.objs.size≤a) (new:gr X.prog X.w (upd H a o) h' a o) :
    Inv X pins σ (upd H a o) { s with heap:=h',toks:=t' }:=I.un (Un.laid k hp (I.hok.fresh hp)) (I.hok.laid k hp new)
theorem Inv.write {x e:Addr} {o:HO} {t':Nat} (I:Inv X pins σ H s) (mu:Mut (H x)) (he:e=x∨H e=some (.own x)) (k:∀ b u,b≠e→s.heap.get? b=some u→h'.get? b=some u) (heo:∃ u,h'.get? e=some u)
    (new:gr X.prog X.w (upd H x o) h' x o):Inv X pins σ (upd H x o) { s with heap:=h',toks:=t' }:=I.un (Un.write mu he k heo) (I.hok.write mu he k heo new)
theorem Inv.pins_of {pins':List (Addr × Obj)} (I:Inv X pins σ H s) (h:∀ p∈pins',s.heap.get? p.1=some p.2∧H p.1=none∧p.1≠X.env.locals∧p.1 ∉ X.fs∧∀ v,p.2.data≠.cell v):Inv X pins' σ H s :=
  ⟨I.ok,I.os,I.bare,I.base,I.loc,I.cell,I.free,I.freeC,fun p hp=>(List.mem_append.mp hp).elim (fun z=>I.pin p (List.mem_append_left _ z)) (h p),I.hok,I.len,I.tab⟩
theorem vM {N:List Str} (hN:N.Nodup) {i j:Nat} {x:Str} (a:N[i]?=some x) (b:N[j]?=some x):i=j:=by
  obtain ⟨h1,e1⟩:=List.getElem?_eq_some_iff.mp a
  obtain ⟨h2,e2⟩:=List.getElem?_eq_some_iff.mp b
  exact (List.getElem_inj hN).mp (e1.trans e2.symm)
theorem rD {M:Model} {A:Around} {E:Value→Shared→Prop} {i:Nat} {x:Str} {v:V} {u:Value} {Q:Unit→Shared→Prop} (I:Inv X pins σ H s) (hN:X.N.Nodup) (hi:X.N[i]?=some x) (hx:Loc X.env.scope x) (r:RelV v u)
    (h:∀ s',Inv X pins (σ.set i (some v)) H s'→(∃ a,Heap.SameBut a s.heap s'.heap∧(a=X.env.locals∨X.env.cells.lookup x=some a))→Q () s') (hf:X.fn x=true∨X.env.scope.names.lookup x=some .local:=by first | exact .inl rfl | exact .inr rfl | assumption):wpAny M A (storeName X.env x u) Q E s:=by
  obtain ⟨m,hn,hl⟩:=id I.loc
  have hcls:(X.env.scope.kind == .class || (X.env.scope.kind == .module && X.env.locals != X.env.globals))=false:=by rw [I.ok.kind]; rfl
  have hiσ:i < σ.length:=by rw [I.len]; exact (List.getElem?_eq_some_iff.mp hi).1
  have cne:=I.cne
  have tracked:∀ {a:Addr} {h':Heap},(∃ o,s.heap.get? a=some o∧H a=none)→Heap.SameBut a s.heap h'→HOk X.prog X.w H h':=fun {a h'} ha hs b ob e=>by
    obtain ⟨_,_,hfree⟩:=ha
    refine (I.hok b ob e).stay (fun c w' hc q=>(hs.2 c ?_).trans q) (fun _ q=>q) fun _ _ q=>q
    rintro rfl
    rcases hc with rfl | hc
    · rw [hfree] at e; cases e
    · rw [hfree] at hc; cases hc
  rcases hx with hk | hk
  · refine wpAny_storeName_local hk hn (fun h' hn' hs=>?_) hcls
    obtain ⟨oL,_,_,hoL,_⟩:=id hn
    refine h _ ⟨I.ok,I.os,I.bare,⟨fun b o e n hb hx=>?_,fun b o e n hb hx=>?_,I.base.free,fun b o e hx=>?_,I.base.tups,I.base.frzs,I.base.tbls⟩,⟨_,hn',fun j y v' e1 e2 e3=>?_⟩,fun y c e=>?_,I.free,I.freeC,fun p hp=>?_,tracked ⟨oL,hoL,I.free⟩ hs,by simpa using I.len,I.tab⟩ ⟨_,hs,.inl rfl⟩
    · exact (hs.2 b (Nat.ne_of_lt (Nat.lt_of_lt_of_le (Heap.lt_size e) I.ok.above))).trans (I.base.keep b o e n hb hx)
    · obtain ⟨sl,e1⟩:=I.base.slot b o e n hb hx
      exact ⟨sl,(hs.2 b (Nat.ne_of_lt (Nat.lt_of_lt_of_le (Heap.lt_size e) I.ok.above))).trans e1⟩
    · obtain ⟨o',e1⟩:=I.base.there b o e hx
      exact ⟨o',(hs.2 b (Nat.ne_of_lt (Nat.lt_of_lt_of_le (Heap.lt_size e) I.ok.above))).trans e1⟩
    · by_cases hj:j=i
      · subst hj
        rw [hi] at e1; cases e1
        rw [List.getElem?_set_self hiσ] at e2
        cases e2
        exact ⟨u,r,.inl ⟨hk,by simp⟩⟩
      · rw [List.getElem?_set_ne (Ne.symm hj)] at e2
        obtain ⟨u',r',q⟩:=hl j y v' e1 e2 e3
        refine ⟨u',r',?_⟩
        rcases q with ⟨k,e⟩ | ⟨k,c,e,z⟩
        · refine .inl ⟨k,?_⟩
          have:y≠x:=fun e=>hj (vM hN e1 (e ▸ hi))
          simp [this,e]
        · exact .inr ⟨k,c,e,z.sameBut hs (cne y c e)⟩
    · obtain ⟨w',z⟩:=I.cell y c e
      exact ⟨w',z.sameBut hs (cne y c e)⟩
    · obtain ⟨e,n,ne,nf,d⟩:=I.pin p hp
      exact ⟨(hs.2 p.1 ne).trans e,n,ne,nf,d⟩
  · have hfn:X.fn x=true:=by
      rcases hf with z | z
      · exact z
      · rw [z] at hk; cases hk
    obtain ⟨c,hc⟩:=I.ok.has x (.inl hk)
    obtain ⟨w',z⟩:=I.cell x c hc
    refine wpAny_storeName_cell I.ok.kind hk hc z (fun h' hc' hs=>?_)
    obtain ⟨oc,hoc,hocd⟩:=id z
    refine h { s with heap:=h' } ⟨I.ok,I.os,I.bare,⟨fun b o e n hb hx=>?_,fun b o e n hb hx=>?_,I.base.free,fun b o e hx=>?_,I.base.tups,I.base.frzs,I.base.tbls⟩,⟨m,hn.sameBut hs (Ne.symm (cne x c hc)),fun j y v' e1 e2 e3=>?_⟩,fun y c' e=>?_,I.free,I.freeC,fun p hp=>?_,tracked ⟨oc,hoc,I.freeC x c hc⟩ hs,by simpa using I.len,I.tab⟩ ⟨c,hs,.inr hc⟩
    · exact (hs.2 b (Nat.ne_of_lt (Nat.lt_of_lt_of_le (Heap.lt_size e) (I.ok.cab x c hfn hc)))).trans (I.base.keep b o e n hb hx)
    · obtain ⟨sl,e1⟩:=I.base.slot b o e n hb hx
      exact ⟨sl,(hs.2 b (Nat.ne_of_lt (Nat.lt_of_lt_of_le (Heap.lt_size e) (I.ok.cab x c hfn hc)))).trans e1⟩
    · obtain ⟨o',e1⟩:=I.base.there b o e hx
      exact ⟨o',(hs.2 b (Nat.ne_of_lt (Nat.lt_of_lt_of_le (Heap.lt_size e) (I.ok.cab x c hfn hc)))).trans e1⟩
    · by_cases hj:j=i
      · subst hj
        rw [hi] at e1; cases e1
        rw [List.getElem?_set_self hiσ] at e2
        cases e2
        exact ⟨u,r,.inr ⟨.inl hk,c,hc,hc'⟩⟩
      · rw [List.getElem?_set_ne (Ne.symm hj)] at e2
        obtain ⟨u',r',q⟩:=hl j y v' e1 e2 e3
        refine ⟨u',r',?_⟩
        rcases q with q | ⟨k,c',e,z'⟩
        · exact .inl q
        · refine .inr ⟨k,c',e,z'.sameBut hs ?_⟩
          rintro rfl
          exact hj (vM hN e1 (I.ok.inj _ _ _ e hc ▸ hi))
    · by_cases hcc:c'=c
      · subst hcc; exact ⟨_,hc'⟩
      · obtain ⟨w2,z2⟩:=I.cell y c' e
        exact ⟨w2,z2.sameBut hs hcc⟩
    · obtain ⟨e,n,ne,nf,d⟩:=I.pin p hp
      refine ⟨(hs.2 p.1 ?_).trans e,n,ne,nf,d⟩
      intro q
      rw [q,hoc] at e
      have q':oc=p.2:=Option.some.inj e
      exact d w' (by rw [← q']; exact hocd)
theorem qM {M:Model} {A:Around} {E:Value→Shared→Prop} {i:Nat} {x:Str} {v:V} {u:Value} {Q:Unit→Shared→Prop} (I:Inv X pins σ H s) (hN:X.N.Nodup) (hi:X.N[i]?=some x) (hx:Loc X.env.scope x) (r:RelV v u)
    (h:∀ s',Inv X pins (σ.set i (some v)) H s'→Q () s') (hf:X.fn x=true∨X.env.scope.names.lookup x=some .local:=by first | exact .inl rfl | exact .inr rfl | assumption):wpAny M A (storeName X.env x u) Q E s :=
  rD I hN hi hx r (fun s' I' _=>h s' I') hf
theorem Inv.call' {s':Shared} {ch:List Addr} (I:Inv X pins σ H s) (ho:s'.os=s.os) (u:Un (frs X.stack) ch H H' s.heap s'.heap) (hok:HOk X.prog X.w H' s'.heap) (hg:AllBare s'.gens)
    (hch:∀ b∈ch,(b∈X.ex∨X.s₀.heap.objs.size≤b)∧b≠X.env.locals∧(∀ x c,X.env.cells.lookup x=some c→c≠b)∧∀ p∈X.pn++pins,p.1≠b):Inv X pins σ H' s':=by
  obtain ⟨h',g',d',t',o'⟩:=s'
  have e:o'=s.os:=ho
  subst e
  exact I.call (g':=g') (t':=t') (d':=d') u hok hg hch
end
noncomputable abbrev XK:=Value→Option Addr→Hp→Prop
noncomputable abbrev St:=List (Option V)
noncomputable abbrev VK:=V→Hp→Prop
noncomputable abbrev TE:=St→Hp→VK→Prop
noncomputable abbrev TT:=St→Hp→(Bool→Hp→Prop)→Prop
noncomputable abbrev TA:=St→Hp→(List V→Hp→Prop)→Prop
structure Ends where
  nx:St→Hp→Prop
  rt:VK
  bk:St→Hp→Prop:=fun _ _=>False
  ct:St→Hp→Prop:=fun _ _=>False
noncomputable abbrev TS:=Ends→St→Hp→Prop
noncomputable def EP (X:Cx) (pins:List (Addr × Obj)) (σ:St) (Q:VK) (u:Value) (s':Shared):Prop:=∃ v H',Inv X pins σ H' s'∧RelV v u∧Q v H'
noncomputable def TP (X:Cx) (pins:List (Addr × Obj)) (σ:St) (Q:Bool→Hp→Prop) (b:Bool) (s':Shared):Prop:=∃ H',Inv X pins σ H' s'∧Q b H'
noncomputable def AP (X:Cx) (pins:List (Addr × Obj)) (σ:St) (Q:List V→Hp→Prop) (us:List Value) (s':Shared):Prop:=∃ vs H',Inv X pins σ H' s'∧Vals vs us∧Q vs H'
noncomputable def SP (X:Cx) (pins:List (Addr × Obj)) (D:Ends) (f:Flow) (s':Shared):Prop :=
  match f with
  | .next=>∃ σ' H',Inv X pins σ' H' s'∧D.nx σ' H'
  | .brk=>∃ σ' H',Inv X pins σ' H' s'∧D.bk σ' H'
  | .cont=>∃ σ' H',Inv X pins σ' H' s'∧D.ct σ' H'
  | .ret u=>∃ v σ' H',Inv X pins σ' H' s'∧RelV v u∧D.rt v H'
noncomputable def PE (X:Cx) (e:Expr) (t:TE):Prop :=
  ∀ (pins:List (Addr × Obj)) (s:Shared) (σ:St) (H:Hp) (Q:VK),Inv X pins σ H s→t σ H Q→wpAny (model X.prog X.w) X.A (eval e X.env) (EP X pins σ Q) X.xe s
noncomputable def PT (X:Cx) (e:Expr) (t:TT):Prop :=
  ∀ (pins:List (Addr × Obj)) (s:Shared) (σ:St) (H:Hp) (Q:Bool→Hp→Prop),Inv X pins σ H s→t σ H Q→wpAny (model X.prog X.w) X.A (isTrue e X.env (eval e X.env)) (TP X pins σ Q) X.xe s
noncomputable def PW (X:Cx) (e:Expr) (t:TT):Prop :=
  ∀ (whole:Sem Value) (pins:List (Addr × Obj)) (s:Shared) (σ:St) (H:Hp) (Q:Bool→Hp→Prop),Inv X pins σ H s→t σ H Q→wpAny (model X.prog X.w) X.A (isTrue e X.env whole) (TP X pins σ Q) X.xe s
theorem PW.pt {X:Cx} {e:Expr} {t:TT} (h:PW X e t):PT X e t:=h _
noncomputable def PA (X:Cx) (es:List Expr) (t:TA):Prop :=
  ∀ (pos:Pos) (pins:List (Addr × Obj)) (s:Shared) (σ:St) (H:Hp) (Q:List V→Hp→Prop),Inv X pins σ H s→t σ H Q→wpAny (model X.prog X.w) X.A (spliced (backTo pos (starEach es X.env))) (AP X pins σ Q) X.xe s
noncomputable def PS (X:Cx) (st:Stmt) (t:TS):Prop :=
  ∀ (pins:List (Addr × Obj)) (s:Shared) (σ:St) (H:Hp) (D:Ends),Inv X pins σ H s→t D σ H→wpAny (model X.prog X.w) X.A (exec st X.env) (SP X pins D) X.xe s
noncomputable def PSs (X:Cx) (st:List Stmt) (t:TS):Prop :=
  ∀ (pins:List (Addr × Obj)) (s:Shared) (σ:St) (H:Hp) (D:Ends),Inv X pins σ H s→t D σ H→wpAny (model X.prog X.w) X.A (execs st X.env) (SP X pins D) X.xe s
theorem thn {α:Type} {t:Sem α} {Q Q':α→Shared→Prop} {M:Model} {A:Around} {E:Value→Shared→Prop} {s:Shared} (h:wpAny M A t Q E s) (hQ:∀ a s,Q a s→Q' a s):wpAny M A t Q' E s:=wpAny_mono h hQ fun _ _ x=>x
end L2
namespace L2
open PySem PySem.Spec PyProof.Rows
section
variable {X:Cx}
theorem bin {a b:Expr} {ta tb:TE} (ha:PE X a ta) (hb:PE X b tb) {pins:List (Addr × Obj)} {s:Shared} {σ:St} {H:Hp} {R:V→V→Hp→Prop} (I:Inv X pins σ H s) (h:ta σ H fun x H1=>tb σ H1 fun y H2=>R x y H2)
    {α:Type} {Q:α→Shared→Prop} {f:Value→Value→Sem α}
    (hf:∀ v u s2 x y H2,Inv X pins σ H2 s2→RelV x v→RelV y u→R x y H2→wpAny (model X.prog X.w) X.A (f v u) Q X.xe s2) :
    wpAny (model X.prog X.w) X.A (eval a X.env) (fun v s₁=>wpAny (model X.prog X.w) X.A (eval b X.env) (fun u s₂=>wpAny (model X.prog X.w) X.A (f v u) Q X.xe s₂) X.xe s₁) X.xe s:=by
  refine thn (ha pins s σ H _ I h) fun v s1 rz2=>?_
  obtain ⟨x,H1,I1,r1,q1⟩:=rz2
  refine thn (hb pins s1 σ H1 _ I1 q1) fun u s2 rz2=>?_
  obtain ⟨y,H2,I2,r2,q2⟩:=rz2
  exact hf v u s2 x y H2 I2 r1 r2 q2
noncomputable def EV (i:Nat):TE:=fun σ H Q=>∃ v,σ[i]?=some (some v)∧Q v H
noncomputable def tC (v:V):TE:=fun _ H Q=>Q v H
theorem oh {i:Nat} {x:Str} {pos:Pos} (hN:X.N[i]?=some x) (hv:Vis X.env.scope x) (hd:(x == ("__debug__":Str))=false:=by decide) (hcd:(x == ("__classdict__":Str))=false:=by decide):PE X (.Name x pos) (EV i):=by
  intro pins s σ H Q I h
  obtain ⟨v,e,h⟩:=h
  obtain ⟨m,hn,hl⟩:=I.loc
  obtain ⟨u,r,l⟩:=hl i x v hN e hv
  have fin:EP X pins σ Q u s:=⟨v,H,I,r,h⟩
  rcases l with ⟨hk,hm⟩ | ⟨hk,c,hc,hcell⟩
  · exact wpAny_Name (wpAny_loadName_local I.ok.kind hk hn hm fin) hd
  · rcases hk with hk | hk
    · exact wpAny_Name (wpAny_loadName_cell I.ok.kind hk hc hcell fin) hd
    · exact wpAny_Name (wpAny_loadName_free I.ok.kind hk hc hcell fin hcd) hd
theorem jT {i j pos}:PE X (.Constant (.int i) j pos) (tC (.int i)):=fun _ _ _ H _ I h=>wpAny_Constant_int ⟨.int i,H,I.tok _,⟨_,rfl⟩,h⟩
theorem EL {b j pos}:PE X (.Constant (.bool b) j pos) (tC (.bl b)):=fun _ _ _ H _ I h=>Constant_bool ⟨.bl b,H,I,rfl,h⟩
theorem C8 {j pos}:PE X (.Constant .none j pos) (tC .non):=fun _ _ _ H _ I h=>Constant_none ⟨.non,H,I,rfl,h⟩
theorem DT {x j pos}:PE X (.Constant (.str x) j pos) (tC (.str x)):=fun _ _ _ H _ I h=>Calls.Constant_str ⟨.str x,H,I.tok _,⟨_,rfl⟩,h⟩
noncomputable def Gl (X:Cx) (x:Str):Prop:=X.env.kindOf x=some .globalImplicit
theorem o8 {E:Value→Shared→Prop} {pins:List (Addr × Obj)} {s:Shared} {σ:St} {H:Hp} {x:Str} {u:Value} {pos:Pos} {Q:Value→Shared→Prop} (I:Inv X pins σ H s) (hg:Gl X x) (hm:X.mg x=some u) (h:Q u s)
    (hd:(x == ("__debug__":Str))=false:=by decide):wpAny (model X.prog X.w) X.A (eval (.Name x pos) X.env) Q E s :=
  Calls.Name_function_global I.ok.kind hg (Calls.loadGlobal_global (by rw [I.ok.glob]; exact I.mod.glob.keeps I.bk) hm h) hd
theorem gU {E:Value→Shared→Prop} {pins:List (Addr × Obj)} {s:Shared} {σ:St} {H:Hp} {x:Str} {u:Value} {pos:Pos} {Q:Value→Shared→Prop} (I:Inv X pins σ H s) (hg:Gl X x) (hm:X.mg x=none) (hv:bootBuiltins x=some u) (h:Q u s)
    (hn:x≠"__name__":=by decide) (hd:(x == ("__debug__":Str))=false:=by decide):wpAny (model X.prog X.w) X.A (eval (.Name x pos) X.env) Q E s:=by
  obtain ⟨mb,h1,h2⟩:=I.mod.blt
  exact Calls.Name_function_global I.ok.kind hg (Calls.loadGlobal_builtin (by rw [I.ok.glob]; exact I.mod.glob.keeps I.bk) hm (by rw [I.ok.blt]; exact h1.keeps I.bk) ((h2 x hn).trans hv) h) hd
theorem Bs {x:Str} {v:V} {u:Value} {pos:Pos} (hg:Gl X x) (hm:X.mg x=some u) (r:RelV v u) (hd:(x == ("__debug__":Str))=false:=by decide):PE X (.Name x pos) (tC v) :=
  fun _ _ _ H _ I h=>o8 I hg hm ⟨v,H,I,r,h⟩ hd
theorem Bn {x:Str} {v:V} {u:Value} {pos:Pos} (hg:Gl X x) (hm:X.mg x=none) (hv:bootBuiltins x=some u) (r:RelV v u) (hn:x≠"__name__":=by decide) (hd:(x == ("__debug__":Str))=false:=by decide):PE X (.Name x pos) (tC v) :=
  fun _ _ _ H _ I h=>gU I hg hm hv ⟨v,H,I,r,h⟩ hn hd
noncomputable def t2I (ta tb:TE) (k:Int→Int→Hp→Prop):St→Hp→Prop:=fun σ H=>ta σ H fun x H1=>tb σ H1 fun y H2=>∃ i j,x=.int i∧y=.int j∧k i j H2
variable {a b:Expr} {ta tb:TE} {pos:Pos}
noncomputable def PC (X:Cx) (op:CmpOp) (a b:Expr) (t:TE):Prop :=
  ∀ (pins:List (Addr × Obj)) (s:Shared) (σ:St) (H:Hp) (Q:VK),Inv X pins σ H s→t σ H Q →
    wpAny (model X.prog X.w) X.A (eval a X.env) (fun v s₁=>wpAny (model X.prog X.w) X.A (eval b X.env) (fun u s₂=>wpAny (model X.prog X.w) X.A (compareOp op v u) (EP X pins σ Q) X.xe s₂) X.xe s₁) X.xe s
theorem uH (b:Expr) {op:CmpOp} (h:op≠.In) (h2:op≠.NotIn):behindInMarks op b=false:=by
  have e1:(op == CmpOp.In)=false:=by cases op <;> first | rfl | exact absurd rfl h
  have e2:(op == CmpOp.NotIn)=false:=by cases op <;> first | rfl | exact absurd rfl h2
  cases b <;> simp [behindInMarks,e1,e2]
noncomputable def EG (p:Int→Int→Bool) (ta tb:TE):TE:=fun σ H Q=>t2I ta tb (fun i j H2=>Q (.bl (p i j)) H2) σ H
noncomputable abbrev tLt:TE→TE→TE:=EG fun i j=>decide (i < j)
theorem De {op:CmpOp} {p:Int→Int→Bool} (ha:PE X a ta) (hb:PE X b tb)
    (rule:∀ (i j:Int) (t u:Tok) (Q:Value→Shared→Prop) (s:Shared),Q (.bool (p i j)) s→wpAny (model X.prog X.w) X.A (compareOp op (.int i t) (.int j u)) Q X.xe s):PC X op a b (EG p ta tb):=by
  intro pins s σ H Q I h
  refine bin ha hb I h fun v u s2 x y H2 I2 rx ry q=>?_
  obtain ⟨i,j,rfl,rfl,q⟩:=q
  obtain ⟨t,rfl⟩:=rx
  obtain ⟨t',rfl⟩:=ry
  exact rule i j t t' _ s2 ⟨.bl _,H2,I2,rfl,q⟩
theorem ER (ha:PE X a ta) (hb:PE X b tb):PC X .Lt a b (tLt ta tb):=De ha hb fun _ _ _ _ _ _ h=>lt_int h
noncomputable def Fm (ta:TE):TE:=fun σ H Q=>ta σ H fun x H1=>Q (.bl (decide (x=.non))) H1
noncomputable def EM (ta:TE):TE:=fun σ H Q=>ta σ H fun x H1=>Q (.bl (!decide (x=.non))) H1
theorem RelV.none_iff {x:V} {v:Value} (r:RelV x v):(v == Value.none)=decide (x=.non):=by
  cases x with
  | non=>cases r; rfl
  | bl _=>cases r; rfl
  | int _=>obtain ⟨t,rfl⟩:=r; rfl
  | str _=>obtain ⟨t,rfl⟩:=r; rfl
  | byt _=>obtain ⟨t,rfl⟩:=r; rfl
  | flt _=>obtain ⟨t,rfl⟩:=r; rfl
  | ref _=>cases r; rfl
  | ty _=>cases r; rfl
theorem zX {j pos'} (ha:PE X a ta):PC X .Is a (.Constant .none j pos') (Fm ta):=by
  intro pins s σ H Q I h
  refine thn (ha pins s σ H _ I h) fun v s1 rz2=>?_
  obtain ⟨x,H1,I1,r1,q1⟩:=rz2
  exact Constant_none (is_none_gen ⟨.bl _,H1,I1,by rw [r1.none_iff]; rfl,q1⟩)
theorem yg {j pos'} (ha:PE X a ta):PC X .IsNot a (.Constant .none j pos') (EM ta):=by
  intro pins s σ H Q I h
  refine thn (ha pins s σ H _ I h) fun v s1 rz2=>?_
  obtain ⟨x,H1,I1,r1,q1⟩:=rz2
  exact Constant_none (isnot_none_gen ⟨.bl _,H1,I1,by rw [r1.none_iff]; rfl,q1⟩)
noncomputable def tB (t:TE):TT:=fun σ H Q=>t σ H fun x H1=>∃ c,x=.bl c∧Q c H1
theorem Ap {op:CmpOp} {t:TE} (h:PC X op a b t) (h1:behindInMarks op b=false:=by first | exact uH _ (by decide) (by decide) | rfl):PE X (.Compare a [op] [b] pos) t:=fun pins s σ H Q I hw=>wpAny_Compare1 (h pins s σ H Q I hw) h1
theorem wt {op:CmpOp} {t:TE} (h:PC X op a b t) (h1:behindInMarks op b=false:=by first | exact uH _ (by decide) (by decide) | rfl):PT X (.Compare a [op] [b] pos) (tB t):=by
  intro pins s σ H Q I hw
  refine wpAny_isTrue_Compare1 (thn (h pins s σ H _ I hw) fun v s1 h1=>thn h1 fun u s2 h2=>thn h2 fun c s3 rz2=>?_) h1
  obtain ⟨x,H1,I1,r1,q1⟩:=rz2
  obtain ⟨d,rfl,q⟩:=q1
  cases r1
  exact wpAny_truthy_bool ⟨H1,I1,q⟩
theorem DO {e:Expr} {t:TE} (h:PE X e t) (he:∀ whole,isTrue e X.env whole=(do let v ← whole; standAt e.pos; holding [v] (truthy v)):=by intro _; rfl):PT X e (tB t):=by
  intro pins s σ H Q I hw
  refine isTrue_plain (thn (h pins s σ H _ I hw) fun v s1 rz2=>?_) (he _)
  obtain ⟨x,H1,I1,r1,q1⟩:=rz2
  obtain ⟨d,rfl,q⟩:=q1
  cases r1
  exact wpAny_truthy_bool ⟨H1,I1,q⟩
variable {tA tB':TT} {rest:List Expr}
noncomputable def FO (t u:TT):TT:=fun σ H Q=>t σ H fun c H1=>if c=true then u σ H1 Q else Q false H1
noncomputable def tOr (t u:TT):TT:=fun σ H Q=>t σ H fun c H1=>if c=true then Q true H1 else u σ H1 Q
noncomputable def FJ (t:TT):TT:=fun σ H Q=>t σ H fun c H1=>Q (!c) H1
theorem Cj (ha:PT X a tA):PW X (.BoolOp .And [a] pos) tA:=by
  intro wh pins s σ H Q I h
  refine isTrue_and (thn (ha pins s σ H Q I h) fun c s1 e=>?_)
  cases c with
  | true=>exact isTrue_and_nil e
  | false=>exact e
theorem Di (ha:PT X a tA):PW X (.BoolOp .Or [a] pos) tA:=by
  intro wh pins s σ H Q I h
  refine isTrue_or (thn (ha pins s σ H Q I h) fun c s1 e=>?_)
  cases c with
  | false=>exact isTrue_or_nil e
  | true=>exact e
theorem DU (ha:PT X a tA) (hb:PW X (.BoolOp .And (b::rest) pos) tB'):PW X (.BoolOp .And (a::b::rest) pos) (FO tA tB'):=by
  intro wh pins s σ H Q I h
  refine isTrue_and (thn (ha pins s σ H _ I h) fun c s1 rz2=>?_)
  obtain ⟨H1,I1,q1⟩:=rz2
  cases c with
  | true=>exact hb wh pins s1 σ H1 Q I1 q1
  | false=>exact ⟨H1,I1,q1⟩
theorem El (ha:PT X a tA) (hb:PW X (.BoolOp .Or (b::rest) pos) tB'):PW X (.BoolOp .Or (a::b::rest) pos) (tOr tA tB'):=by
  intro wh pins s σ H Q I h
  refine isTrue_or (thn (ha pins s σ H _ I h) fun c s1 rz2=>?_)
  obtain ⟨H1,I1,q1⟩:=rz2
  cases c with
  | true=>exact ⟨H1,I1,q1⟩
  | false=>exact hb wh pins s1 σ H1 Q I1 q1
theorem C6 (ha:PT X a tA):PT X (.UnaryOp .Not a pos) (FJ tA):=by
  intro pins s σ H Q I h
  exact isTrue_not (ha pins s σ H (fun c H1=>Q (!c) H1) I h)
noncomputable def EU (ta tb:TE):TE:=fun σ H Q=>ta σ H fun x H1=>∃ c,x=.bl c∧if c=true then tb σ H1 Q else Q (.bl false) H1
noncomputable def FE (ta tb:TE):TE:=fun σ H Q=>ta σ H fun x H1=>∃ c,x=.bl c∧if c=true then Q (.bl true) H1 else tb σ H1 Q
theorem DV {op} {t:TE} (h:PE X a t):PE X (.BoolOp op [a] pos) t:=fun pins s σ H Q I hw=>BoolOp_one (h pins s σ H Q I hw)
theorem Ea (ha:PE X a ta) (hb:PE X (.BoolOp .And (b::rest) pos) tb):PE X (.BoolOp .And (a::b::rest) pos) (EU ta tb):=by
  intro pins s σ H Q I h
  refine BoolOp_and (thn (ha pins s σ H _ I h) fun v s1 rz2=>?_)
  obtain ⟨x,H1,I1,r1,q1⟩:=rz2
  obtain ⟨c,rfl,q1⟩:=q1
  cases r1
  refine wpAny_truthy_bool ?_
  cases c with
  | true=>exact hb pins s1 σ H1 Q I1 q1
  | false=>exact ⟨.bl false,H1,I1,rfl,q1⟩
theorem E1 (ha:PE X a ta) (hb:PE X (.BoolOp .Or (b::rest) pos) tb):PE X (.BoolOp .Or (a::b::rest) pos) (FE ta tb):=by
  intro pins s σ H Q I h
  refine BoolOp_or (thn (ha pins s σ H _ I h) fun v s1 rz2=>?_)
  obtain ⟨x,H1,I1,r1,q1⟩:=rz2
  obtain ⟨c,rfl,q1⟩:=q1
  cases r1
  refine wpAny_truthy_bool ?_
  cases c with
  | false=>exact hb pins s1 σ H1 Q I1 q1
  | true=>exact ⟨.bl true,H1,I1,rfl,q1⟩
noncomputable def tIf (t:TT) (ta tb:TE):TE:=fun σ H Q=>t σ H fun c H1=>if c=true then ta σ H1 Q else tb σ H1 Q
theorem Ar {c:Expr} (hc:PT X c tA) (ha:PE X a ta) (hb:PE X b tb):PE X (.IfExp c a b pos) (tIf tA ta tb):=by
  intro pins s σ H Q I h
  refine wpAny_IfExp (thn (hc pins s σ H _ I h) fun d s1 rz2=>?_)
  obtain ⟨H1,I1,q1⟩:=rz2
  cases d with
  | true=>exact ha pins s1 σ H1 Q I1 q1
  | false=>exact hb pins s1 σ H1 Q I1 q1
end
end L2
namespace L2
open PySem PySem.Spec PyProof.Rows
noncomputable def SqL (K:PySem.W.Frag) (H:Hp) (a:Addr) (xs:List V):Prop :=
  Rd H a (.lst xs) ∨
    ∃ (o:Obj) (its:Array Value) (n:Nat),K.lookup a=some o∧o.cls=.type "list"∧o.dict=none∧o.data=.seq its n∧its.size≤sizeLine∧Vals xs its.toList
noncomputable def SqT (K:PySem.W.Frag) (H:Hp) (a:Addr) (xs:List V):Prop :=
  Rd H a (.tup xs) ∨
    ∃ (o:Obj) (its:Array Value) (n:Nat),K.lookup a=some o∧o.cls=.type "tuple"∧o.data=.seq its n∧its.size≤sizeLine∧Vals xs its.toList
noncomputable def FQ:Value→Option V
  | .none=>some .non
  | .bool b=>some (.bl b)
  | .int i _=>some (.int i)
  | .str x _=>some (.str x)
  | .bytes b _=>some (.byt b)
  | .float b _=>some (.flt b)
  | .ref a=>some (.ref a)
  | .type n=>some (.ty n)
  | _=>none
theorem RelV.abs {x:V} {u:Value} (r:RelV x u):FQ u=some x:=by
  cases x with
  | non=>cases r; rfl
  | bl _=>cases r; rfl
  | int _=>obtain ⟨t,rfl⟩:=r; rfl
  | str _=>obtain ⟨t,rfl⟩:=r; rfl
  | byt _=>obtain ⟨t,rfl⟩:=r; rfl
  | flt _=>obtain ⟨t,rfl⟩:=r; rfl
  | ref _=>cases r; rfl
  | ty _=>cases r; rfl
theorem RelV.inj {x y:V} {u:Value} (r:RelV x u) (q:RelV y u):x=y:=Option.some.inj (r.abs.symm.trans q.abs)
theorem Vals.inj {xs ys:List V} {us:List Value} (h:Vals xs us) (h':Vals ys us):xs=ys:=by
  induction h generalizing ys with
  | nil=>cases h'; rfl
  | cons r t ih =>
    cases h' with
    | cons r' t'=>rw [r.inj r',ih t']
section
variable {X:Cx} {pins:List (Addr × Obj)} {σ:St} {H:Hp} {s:Shared} {a:Addr} {xs ys:List V}
theorem SqL.of {K:PySem.W.Frag} (h:H a=some (.lst xs)):SqL K H a xs:=.inl (.inl h)
theorem SqT.of {K:PySem.W.Frag} (h:H a=some (.tup xs)):SqT K H a xs:=.inl (.inl h)
theorem Inv.list (I:Inv X pins σ H s) (h:SqL X.K H a xs):∃ its:List Value,Vals xs its∧PlainL s.heap a its.toArray∧xs.length≤sizeLine:=by
  rcases h with h | ⟨o,its,n,hk,hc,hd,hs,hz,r⟩
  · obtain ⟨z,its,n,r,e⟩:=h.ok I.hok
    exact ⟨its,r,⟨_,n,e,rfl,rfl,rfl⟩,z⟩
  · refine ⟨its.toList,r,⟨o,n,I.kIn a o hk,hc,hd,by simpa using hs⟩,?_⟩
    have e:=r.length
    simp only [Array.length_toList] at e
    omega
theorem Inv.tuple (I:Inv X pins σ H s) (h:SqT X.K H a xs):∃ its:List Value,Vals xs its∧IsTup s.heap a its.toArray∧xs.length≤sizeLine:=by
  rcases h with h | ⟨o,its,n,hk,hc,hs,hz,r⟩
  · obtain ⟨z,its,r,p⟩:=h.ok I.hok
    exact ⟨its,r,p.tup,z⟩
  · refine ⟨its.toList,r,⟨o,I.kIn a o hk,hc,n,by simpa using hs⟩,?_⟩
    have e:=r.length
    simp only [Array.length_toList] at e
    omega
theorem Inv.list_inj (I:Inv X pins σ H s) (h:SqL X.K H a xs) (h':SqL X.K H a ys):xs=ys:=by
  obtain ⟨its,r,⟨o,n,e,_,_,d⟩,_⟩:=I.list h
  obtain ⟨its',r',⟨o',n',e',_,_,d'⟩,_⟩:=I.list h'
  rw [e] at e'; cases e'
  rw [d] at d'
  injection d' with d1 _
  have:its=its':=by simpa using congrArg Array.toList d1
  subst this
  exact r.inj r'
theorem Inv.tuple_inj (I:Inv X pins σ H s) (h:SqT X.K H a xs) (h':SqT X.K H a ys):xs=ys:=by
  obtain ⟨its,r,⟨o,e,_,n,d⟩,_⟩:=I.tuple h
  obtain ⟨its',r',⟨o',e',_,n',d'⟩,_⟩:=I.tuple h'
  rw [e] at e'; cases e'
  rw [d] at d'
  injection d' with d1 _
  have:its=its':=by simpa using congrArg Array.toList d1
  subst this
  exact r.inj r'
end
noncomputable abbrev Cx.wish (X:Cx) (E:Value→Shared→Prop):Cx:={ X with xe:=E }
noncomputable abbrev Cx.nox (X:Cx):Cx:=X.wish fun _ _=>False
theorem Cx.Ok.wish {X:Cx} (ok:X.Ok) (E:Value→Shared→Prop):(X.wish E).Ok :=
  ⟨ok.mod,ok.kind,ok.glob,ok.blt,ok.above,ok.inj,ok.has,ok.cab,ok.hd,ok.frames,ok.stk,ok.exf,ok.bs,ok.bsz,ok.noex,ok.exfs,ok.funs,ok.frf⟩
theorem Cx.Ok.unwish {X:Cx} {E:Value→Shared→Prop} (ok:(X.wish E).Ok):X.Ok :=
  ⟨ok.mod,ok.kind,ok.glob,ok.blt,ok.above,ok.inj,ok.has,ok.cab,ok.hd,ok.frames,ok.stk,ok.exf,ok.bs,ok.bsz,ok.noex,ok.exfs,ok.funs,ok.frf⟩
section
variable {X:Cx} {pins:List (Addr × Obj)} {σ:St} {H:Hp} {s:Shared} {E:Value→Shared→Prop}
theorem Inv.wish (I:Inv X pins σ H s) (E:Value→Shared→Prop):Inv (X.wish E) pins σ H s:=⟨I.ok.wish E,I.os,I.bare,I.base,I.loc,I.cell,I.free,I.freeC,I.pin,I.hok,I.len,I.tab⟩
theorem Inv.unwish (I:Inv (X.wish E) pins σ H s):Inv X pins σ H s:=⟨I.ok.unwish,I.os,I.bare,I.base,I.loc,I.cell,I.free,I.freeC,I.pin,I.hok,I.len,I.tab⟩
theorem SP.unwish {D:Ends} {f:Flow} {s':Shared} (h:SP (X.wish E) pins D f s'):SP X pins D f s':=by
  cases f with
  | next=>obtain ⟨σ',H',I,q⟩:=h; exact ⟨σ',H',I.unwish,q⟩
  | brk=>obtain ⟨σ',H',I,q⟩:=h; exact ⟨σ',H',I.unwish,q⟩
  | cont=>obtain ⟨σ',H',I,q⟩:=h; exact ⟨σ',H',I.unwish,q⟩
  | ret u=>obtain ⟨v,σ',H',I,r,q⟩:=h; exact ⟨v,σ',H',I.unwish,r,q⟩
theorem PSs.nox {st:List Stmt} {t:TS} (h:PSs X.nox st t):PSs X st t:=fun pins s σ H D I hw =>
  wpAny_mono (h pins s σ H D (I.wish _) hw) (fun _ _ q=>q.unwish) fun _ _ z=>False.elim z
end
section
variable {X:Cx} {st:Stmt} {rest:List Stmt} {t u:TS} {e:Expr} {te:TE} {pos:Pos}
noncomputable def EN:TS:=fun D σ H=>D.nx σ H
noncomputable def Ft (t u:TS):TS:=fun D σ H=>t { D with nx:=u D } σ H
theorem tX:PSs X [] EN:=fun _ _ σ H _ I h=>wpAny_execs_nil ⟨σ,H,I,h⟩
theorem iz (h1:PS X st t) (h2:PSs X rest u):PSs X (st::rest) (Ft t u):=by
  intro pins s σ H D I h
  refine wpAny_execs_cons (thn (h1 pins s σ H { D with nx:=u D } I h) fun f s1 q=>?_)
  cases f with
  | next =>
    obtain ⟨σ',H',I',q⟩:=q
    exact h2 pins s1 σ' H' D I' q
  | ret v=>exact q
  | brk=>exact q
  | cont=>exact q
theorem lC (h1:PS X st t):PSs X [st] t:=by
  intro pins s σ H D I h
  refine wpAny_execs_cons (thn (h1 pins s σ H D I h) fun f s1 q=>?_)
  cases f with
  | next=>exact wpAny_execs_nil q
  | ret v=>exact q
  | brk=>exact q
  | cont=>exact q
theorem Inv.quiet {pins:List (Addr × Obj)} {σ:St} {H:Hp} {s:Shared} (I:Inv X pins σ H s):interactive X.env=false:=by simp [interactive,I.ok.kind]
noncomputable def Ew (te:TE):TS:=fun D σ H=>te σ H fun _ H1=>D.nx σ H1
theorem tq (he:PE X e te) (hs:swapsWith e none pos.line X.env=pure false:=by rfl):PS X (.Expr e pos) (Ew te):=by
  intro pins s σ H D I h
  exact wpAny_Expr_any (thn (he pins s σ H _ I h) fun v s1 qz2=>(by obtain ⟨x,H1,I1,r1,q1⟩:=qz2; exact ⟨σ,H1,I1,q1⟩)) I.quiet hs
noncomputable def FK (te:TE):TS:=fun D σ H=>te σ H D.rt
theorem qH (he:PE X e te):PS X (.Return (some e) pos) (FK te):=by
  intro pins s σ H D I h
  exact wpAny_Return_some (thn (he pins s σ H _ I h) fun v s1 qz2=>(by obtain ⟨x,H1,I1,r1,q1⟩:=qz2; exact ⟨x,σ,H1,I1,r1,q1⟩))
noncomputable def Fu (c:TT) (t u:TS):TS:=fun D σ H=>c σ H fun b H1=>if b=true then t D σ H1 else u D σ H1
theorem Ax {c:Expr} {a b:List Stmt} {tc:TT} (hc:PT X c tc) (ha:PSs X a t) (hb:PSs X b u):PS X (.If c a b pos) (Fu tc t u):=by
  intro pins s σ H D I h
  refine wpAny_If (thn (hc pins s σ H _ I h) fun d s1 rz2=>?_)
  obtain ⟨H1,I1,q1⟩:=rz2
  cases d with
  | true=>exact ha pins s1 σ H1 D I1 q1
  | false=>exact hb pins s1 σ H1 D I1 q1
end
noncomputable abbrev TG:=V→St→Hp→(St→Hp→Prop)→Prop
noncomputable abbrev TGs:=List V→St→Hp→(St→Hp→Prop)→Prop
noncomputable def PG (X:Cx) (target:Expr) (t:TG):Prop :=
  ∀ (pins:List (Addr × Obj)) (s:Shared) (σ:St) (H:Hp) (v:V) (u:Value) (Q:St→Hp→Prop),Inv X pins σ H s→RelV v u→t v σ H Q →
    wpAny (model X.prog X.w) X.A (assign target X.env u) (fun _ s'=>∃ σ' H',Inv X pins σ' H' s'∧Q σ' H') X.xe s
noncomputable def PGs (X:Cx) (ts:List Expr) (t:TGs):Prop :=
  ∀ (pins:List (Addr × Obj)) (s:Shared) (σ:St) (H:Hp) (vs:List V) (us:List Value) (Q:St→Hp→Prop),Inv X pins σ H s→Vals vs us→t vs σ H Q →
    wpAny (model X.prog X.w) X.A (assignInOrder ((assignEach ts X.env).map (·.2)) us) (fun _ s'=>∃ σ' H',Inv X pins σ' H' s'∧Q σ' H') X.xe s
noncomputable abbrev Dn:=V→V→V→Hp→(Hp→Prop)→Prop
noncomputable def ET (X:Cx) (t:Dn):Prop :=
  ∀ (pins:List (Addr × Obj)) (s:Shared) (σ:St) (H:Hp) (o i v:V) (ov iv u:Value) (Q:Hp→Prop),Inv X pins σ H s→RelV o ov→RelV i iv→RelV v u→t o i v H Q →
    wpAny (model X.prog X.w) X.A (setItem ov iv u) (fun _ s'=>∃ H',Inv X pins σ H' s'∧Q H') X.xe s
noncomputable abbrev TIp:=V→V→Hp→VK→Prop
noncomputable def PIp (X:Cx) (op:Operator) (t:TIp):Prop :=
  ∀ (pins:List (Addr × Obj)) (s:Shared) (σ:St) (H:Hp) (x y:V) (v u:Value) (Q:VK),Inv X pins σ H s→RelV x v→RelV y u→t x y H Q →
    wpAny (model X.prog X.w) X.A (inplaceOp op v u) (EP X pins σ Q) X.xe s
section
variable {X:Cx} {pos:Pos}
noncomputable def oP (i:Nat):TG:=fun v σ H Q=>Q (σ.set i (some v)) H
theorem bo {i:Nat} {x:Str} (hN:X.N.Nodup) (hi:X.N[i]?=some x) (hx:Loc X.env.scope x) (hf:X.fn x=true∨X.env.scope.names.lookup x=some .local:=by first | exact .inl rfl | exact .inr rfl | assumption):PG X (.Name x pos) (oP i):=by
  intro pins s σ H v u Q I r h
  exact wpAny_assign_Name (qM I hN hi hx r (fun s' I'=>⟨_,H,I',h⟩) hf)
noncomputable def E2:TGs:=fun vs σ H Q=>vs=[]∧Q σ H
noncomputable def CO (t:TG) (u:TGs):TGs:=fun vs σ H Q=>∃ v r,vs=v::r∧t v σ H fun σ' H'=>u r σ' H' Q
theorem lM:PGs X [] E2:=by
  intro pins s σ H vs us Q I r h
  obtain ⟨e,h⟩:=h
  subst e
  cases r
  exact assignInOrder_nil ⟨σ,H,I,h⟩
theorem cU {e:Expr} {es:List Expr} {t:TG} {u:TGs} (h1:PG X e t) (h2:PGs X es u)
    (hs:(assignEach (e::es) X.env).map (·.2)=assign e X.env::(assignEach es X.env).map (·.2):=by rfl):PGs X (e::es) (CO t u):=by
  intro pins s σ H vs us Q I r h
  obtain ⟨v,vr,e1,h⟩:=h
  subst e1
  cases r with
  | cons r rr =>
    rw [hs]
    refine assignInOrder_cons (thn (h1 pins s σ H _ _ _ I r h) fun _ s1 rz2=>?_)
    obtain ⟨σ1,H1,I1,q1⟩:=rz2
    exact h2 pins s1 σ1 H1 _ _ Q I1 rr q1
noncomputable def E5 (K:PySem.W.Frag) (n:Nat) (t:TGs):TG:=fun v σ H Q=>∃ a xs,v=.ref a∧SqT K H a xs∧xs.length=n∧t xs σ H Q
theorem nR {es:List Expr} {k:Nat} {t:TGs} {n:Nat} (hc:X.calm=true) (h:PGs X es t)
    (hn:(assignEach es X.env).length=n:=by rfl) (hst:(assignEach es X.env).findIdx? (·.1)=none:=by rfl):PG X (.Tuple es k pos) (E5 X.K n t):=by
  intro pins s σ H v u Q I r hw
  obtain ⟨a,xs,e1,hq,hl,hw⟩:=hw
  subst e1
  cases r
  obtain ⟨its,rv,ht,hz⟩:=I.tuple hq
  refine assign_Tuple_tuple (I.ok.hd hc) ht (by simp [hn,← hl,rv.length]) hst fun h' hx=>?_
  have I1:Inv X pins σ H { s with heap:=h' }:=I.kept (t':=s.toks) fun b o e=>hx b o (Nat.ne_of_lt (Heap.lt_size e)) e
  exact h pins _ σ H xs _ Q I1 (by simpa using rv) hw
noncomputable def FU (to ti:TE) (t:Dn):TG:=fun v σ H Q=>to σ H fun o H1=>ti σ H1 fun i H2=>t o i v H2 fun H3=>Q σ H3
theorem Dg {o i:Expr} {to ti:TE} {t:Dn} (ho:PE X o to) (hi:PE X i ti) (hs:ET X t)
    (ha:∀ v,assign (.Subscript o i pos) X.env v=(do
      let ov ← holding [v] (eval o X.env)
      let iv ← holding [v,ov] (eval i X.env)
      standAt pos
      holding [v,ov,iv] (setItem ov iv v)
      release [v,ov,iv] []):=by intro _; rfl):PG X (.Subscript o i pos) (FU to ti t):=by
  intro pins s σ H v u Q I r h
  rw [ha]
  refine wpAny_bind (wpAny_holding (thn (ho pins s σ H _ I h) fun ov s1 rz2=>?_))
  obtain ⟨x,H1,I1,r1,q1⟩:=rz2
  refine wpAny_bind (wpAny_holding (thn (hi pins s1 σ H1 _ I1 q1) fun iv s2 rz2=>?_))
  obtain ⟨y,H2,I2,r2,q2⟩:=rz2
  refine wpAny_bind (wpAny_standAt (wpAny_bind (wpAny_holding (thn (hs pins s2 σ H2 x y v ov iv u _ I2 r1 r2 r q2) fun _ s3 rz2=>?_))))
  obtain ⟨H3,I3,q3⟩:=rz2
  exact wpAny_release ⟨σ,H3,I3,q3⟩
noncomputable def Cb (te:TE) (g:TG):TS:=fun D σ H=>te σ H fun x H1=>g x σ H1 D.nx
theorem Az {tg e:Expr} {te:TE} {g:TG} (he:PE X e te) (hg:PG X tg g) (hs:swapsWithSole [tg] e pos.line X.env=pure false:=by rfl) (hw:swappedStores [tg] e X.env=pure none:=by rfl)
    (h1:(assignEach [tg] X.env).map (·.2)=[assign tg X.env]:=by rfl):PS X (.Assign [tg] e pos) (Cb te g):=by
  intro pins s σ H D I h
  refine wpAny_Assign_stores (thn (he pins s σ H _ I h) fun v s1 rz2=>?_) hs hw
  obtain ⟨x,H1,I1,r1,q1⟩:=rz2
  rw [h1]
  exact thn (hg pins s1 σ H1 x v _ I1 r1 q1) fun _ s2 q=>q
theorem xa {i:Nat} {x:Str} {e:Expr} {te:TE} {pos':Pos} (hN:X.N.Nodup) (hi:X.N[i]?=some x) (hx:Loc X.env.scope x) (he:PE X e te) (hs:swapsWith e (some (.Name x pos')) pos.line X.env=pure false:=by rfl) (hf:X.fn x=true∨X.env.scope.names.lookup x=some .local:=by first | exact .inl rfl | exact .inr rfl | assumption) :
    PS X (.Assign [.Name x pos'] e pos) (Cb te (oP i)):=by
  intro pins s σ H D I h
  refine wpAny_Assign_Name (thn (he pins s σ H _ I h) fun v s1 rz2=>?_) hs
  obtain ⟨y,H1,I1,r1,q1⟩:=rz2
  exact qM I1 hN hi hx r1 (fun s2 I2=>⟨_,H1,I2,q1⟩) hf
noncomputable def Fg (i:Nat) (te:TE) (ti:TIp):TS:=fun D σ H=>∃ x,σ[i]?=some (some x)∧te σ H fun y H1=>ti x y H1 fun z H2=>D.nx (σ.set i (some z)) H2
theorem D2 {i:Nat} {x:Str} {e:Expr} {te:TE} {op:Operator} {ti:TIp} {pos':Pos} (hN:X.N.Nodup) (hi:X.N[i]?=some x) (hx:Loc X.env.scope x) (he:PE X e te) (ho:PIp X op ti) (hf:X.fn x=true∨X.env.scope.names.lookup x=some .local:=by first | exact .inl rfl | exact .inr rfl | assumption) :
    PS X (.AugAssign (.Name x pos') op e pos) (Fg i te ti):=by
  intro pins s σ H D I h
  obtain ⟨v,e1,h⟩:=h
  obtain ⟨m,hn,hl⟩:=I.loc
  have vis:Vis X.env.scope x:=by rcases hx with k | k; exact .inl k; exact .inr (.inl k)
  obtain ⟨u,r,l⟩:=hl i x v hi e1 vis
  refine wpAny_AugAssign_Name ?_
  have go:wpAny (model X.prog X.w) X.A (eval e X.env) (fun w s₂=>wpAny (model X.prog X.w) X.A (inplaceOp op u w) (fun r s₃=>wpAny (model X.prog X.w) X.A (storeName X.env x r) (fun _=>SP X pins D .next) X.xe s₃) X.xe s₂) X.xe s:=by
    refine thn (he pins s σ H _ I h) fun w s1 rz2=>?_
    obtain ⟨y,H1,I1,r1,q1⟩:=rz2
    refine thn (ho pins s1 σ H1 v y u w _ I1 r r1 q1) fun z s2 rz2=>?_
    obtain ⟨zv,H2,I2,r2,q2⟩:=rz2
    exact qM I2 hN hi hx r2 (fun s3 I3=>⟨_,H2,I3,q2⟩) hf
  rcases l with ⟨hk,hm⟩ | ⟨hk,c,hc,hcell⟩
  · exact wpAny_loadName_local I.ok.kind hk hn hm go
  · rcases hk with hk | hk
    · exact wpAny_loadName_cell I.ok.kind hk hc hcell go
    · rcases hx with k | k
      · have:X.env.scope.names.lookup x=some .free:=hk
        rw [k] at this; cases this
      · have:X.env.scope.names.lookup x=some .free:=hk
        rw [k] at this; cases this
noncomputable def ipI (f:Int→Int→Int):TIp:=fun x y H Q=>∃ i j,x=.int i∧y=.int j∧Q (.int (f i j)) H
theorem CW:PIp X .Add (ipI fun i j=>i + j):=by
  intro pins s σ H x y v u Q I r1 r2 h
  obtain ⟨i,j,e1,e2,q⟩:=h
  subst e1; subst e2
  obtain ⟨t,rfl⟩:=r1
  obtain ⟨t',rfl⟩:=r2
  exact iadd_int ⟨.int _,H,I.tok _,⟨_,rfl⟩,q⟩
end
section
variable {X:Cx} {pos:Pos}
noncomputable def Dq (c:TT) (tb:TS):TS:=fun D σ H=>∃ W:Nat→St→Hp→Prop,(∃ m,W m σ H)∧∀ m σ H,W m σ H →
  c σ H fun b H1=>if b=true then ∃ N:St→Hp→Prop,(∀ σ' H',N σ' H'→∃ m',m' < m∧W m' σ' H')∧tb { D with nx:=N,ct:=N,bk:=D.nx } σ H1 else D.nx σ H1
theorem Bm {c:Expr} {body:List Stmt} {tc:TT} {tb:TS} (hp:PassesOwn (model X.prog X.w) X.A X.env X.xe) (hc:PT X c tc) (hb:PSs X body tb):PS X (.While c body [] pos) (Dq tc tb):=by
  intro pins s σ H D I h
  obtain ⟨W,⟨m0,w0⟩,turn⟩:=h
  refine wpAny_While (codeAny_whileLoop (fun n s'=>∃ σ' H',Inv X pins σ' H' s'∧W n σ' H') ?_ m0 ⟨σ,H,I,w0⟩)
  rintro n s1 ⟨σ1,H1,I1,w1⟩
  refine wpAny_passesOwn hp (thn (hc pins s1 σ1 H1 _ I1 (turn n σ1 H1 w1)) fun b s2 rz2=>?_)
  obtain ⟨H2,I2,q2⟩:=rz2
  cases b with
  | true =>
    obtain ⟨N,hN,q2⟩:=q2
    rw [if_pos rfl]
    refine wpAny_passesOwn hp (thn (hb pins s2 σ1 H2 _ I2 q2) fun f s3 q3=>?_)
    cases f with
    | next =>
      obtain ⟨σ3,H3,I3,n3⟩:=q3
      obtain ⟨m',hm,w3⟩:=hN σ3 H3 n3
      exact ⟨m',hm,σ3,H3,I3,w3⟩
    | cont =>
      obtain ⟨σ3,H3,I3,n3⟩:=q3
      obtain ⟨m',hm,w3⟩:=hN σ3 H3 n3
      exact ⟨m',hm,σ3,H3,I3,w3⟩
    | brk=>exact q3
    | ret v=>exact q3
  | false =>
    rw [if_neg Bool.false_ne_true]
    exact wpAny_execs_nil ⟨σ1,H2,I2,q2⟩
end
structure It where
  go:Nat→Hp→Prop
  yld:Nat→Hp→V→Hp→Prop
  stop:Nat→Hp→Prop
noncomputable def qe (X:Cx) (pins:List (Addr × Obj)) (H:Hp) (b:Addr):Prop :=
  H b=none∧b≠X.env.locals∧b ∉ X.fs∧(b∈X.ex∨X.s₀.heap.objs.size≤b)∧(∀ x c,X.env.cells.lookup x=some c→c≠b)∧∀ p∈X.pn++pins,p.1≠b
theorem Inv.fpOk {X:Cx} {pins:List (Addr × Obj)} {σ:St} {H H':Hp} {s:Shared} {b:Addr} (I:Inv X pins σ H s) (hb:s.heap.objs.size≤b) (hn:H' b=none):qe X pins H' b:=by
  refine ⟨hn,Nat.ne_of_gt (Nat.lt_of_lt_of_le I.lt hb),I.nofs hb,.inr (Nat.le_trans I.sz hb),fun x c e z=>?_,fun p hp z=>?_⟩
  · obtain ⟨v,q⟩:=I.cell x c e
    exact absurd (Nat.lt_of_lt_of_le q.lt (by rw [z]; exact hb)) (Nat.lt_irrefl _)
  · exact absurd (Nat.lt_of_lt_of_le (Heap.lt_size (I.pin p hp).1) (by rw [z]; exact hb)) (Nat.lt_irrefl _)
structure Turn (P:Program) (w:World) (K:PySem.W.Frag) (tg:Expr) (J:It) (fp:List Addr) (it:Addr) (tn:Nat→Heap→Prop):Prop where
  mem:it∈fp
  obj:∀ i h,tn i h→∀ b∈fp,∃ o,h.get? b=some o∧∀ v,o.data≠.cell v
  keep:∀ i h h',tn i h→(∀ b∈fp,∀ o,h.get? b=some o→h'.get? b=some o)→tn i h'
  item:∀ (X:Cx),X.prog=P→X.w=w→X.K=K→X.calm=true→∀ (i:Nat) (pins:List (Addr × Obj)) (s:Shared) (σ:St) (H:Hp) (E:Value→Shared→Prop),Inv X pins σ H s→(∀ b∈fp,qe X pins H b)→tn i s.heap→J.go i H →
    wpAny (model P w) X.A (pyNext (.ref it)) (fun r s1=>∃ u,r=some u ∧
      wpAny (model P w) X.A (letOwnedTupleGo tg (.ref it) u) (fun _ s2=>∃ x H',Inv X pins σ H' s2∧RelV x u∧J.yld i H x H'∧tn (i + 1) s2.heap∧∀ b∈fp,H' b=none) E s1) E s
  done:∀ (X:Cx),X.prog=P→X.w=w→X.K=K→X.calm=true→∀ (i:Nat) (pins:List (Addr × Obj)) (s:Shared) (σ:St) (H:Hp) (E:Value→Shared→Prop),Inv X pins σ H s→(∀ b∈fp,qe X pins H b)→tn i s.heap→J.stop i H →
    wpAny (model P w) X.A (pyNext (.ref it)) (fun r s1=>r=none∧Inv X pins σ H s1) E s
  self:∀ (A:Around) (i:Nat) (s:Shared) (Q:Value→Shared→Prop) (E:Value→Shared→Prop),tn i s.heap→Q (.ref it) s→wpAny (model P w) A (pyIter (.ref it)) Q E s
noncomputable abbrev TI:=St→Hp→(It→Hp→Prop)→Prop
noncomputable def PIE (X:Cx) (pins:List (Addr × Obj)) (σ:St) (tg:Expr) (R:It→Hp→Prop) (itv:Value) (s2:Shared):Prop :=
  ∃ (it:Addr) (fp:List Addr) (tn:Nat→Heap→Prop) (J:It) (H':Hp),itv=.ref it∧Inv X pins σ H' s2∧Turn X.prog X.w X.K tg J fp it tn∧tn 0 s2.heap∧(∀ b∈fp,qe X pins H' b)∧R J H'
noncomputable def PI (X:Cx) (tg iter:Expr) (wi:TI):Prop :=
  ∀ (pins:List (Addr × Obj)) (s:Shared) (σ:St) (H:Hp) (R:It→Hp→Prop),Inv X pins σ H s→wi σ H R →
    wpAny (model X.prog X.w) X.A (eval iter X.env) (fun v s1=>wpAny (model X.prog X.w) X.A (pyIter v) (PIE X pins σ tg R) X.xe s1) X.xe s
theorem xZ {M:Model} {A:Around} {E:Value→Shared→Prop} {s:Shared} {tg:Expr} {it:Addr} {u:Value} {o:Obj} {n:String} {vs:Array Value} {Q:Unit→Shared→Prop} (ho:s.heap.get? it=some o) (hc:o.cls=.type n) (hd:o.data=.fields vs)
    (hn:["enumerate", "zip", "dict_itemiterator", "dict_reverseitemiterator", "odict_iterator", "itertools.zip_longest", "itertools.pairwise"].contains n=false) (hQ:Q () s):wpAny M A (letOwnedTupleGo tg (.ref it) u) Q E s:=by
  unfold letOwnedTupleGo
  cases tg <;> first
    | exact wpAny_pure hQ
    | (cases u <;> first
        | exact wpAny_pure hQ
        | (refine wpAny_bind (wpAny_load ho ?_)
           rw [hc,hd]
           show wpAny M A (if (["enumerate", "zip", "dict_itemiterator", "dict_reverseitemiterator", "odict_iterator", "itertools.zip_longest", "itertools.pairwise"].contains n && vs[0]? == some (rawInt _))=true then _ else _) Q E s
           rw [if_neg (by intro h; rw [hn,Bool.false_and] at h; cases h)]
           exact wpAny_pure hQ))
noncomputable def Itl (K:PySem.W.Frag) (a:Addr):It :=
  ⟨fun i H=>∃ xs x,SqL K H a xs∧xs[i]?=some x,fun i H x H'=>H'=H∧∀ xs,SqL K H a xs→xs[i]?=some x,fun i H=>∃ xs,SqL K H a xs∧xs.length≤i⟩
noncomputable def Itt (K:PySem.W.Frag) (a:Addr):It :=
  ⟨fun i H=>∃ xs x,SqT K H a xs∧xs[i]?=some x,fun i H x H'=>H'=H∧∀ xs,SqT K H a xs→xs[i]?=some x,fun i H=>∃ xs,SqT K H a xs∧xs.length≤i⟩
noncomputable def Itr (lo:Int) (n:Nat):It:=⟨fun i _=>i < n,fun i H x H'=>H'=H∧x=.int (lo + i),fun i _=>n≤i⟩
theorem zx {P:Program} {w:World} {K:PySem.W.Frag} {tg:Expr} (a it:Addr):Turn P w K tg (Itl K a) [it] it (fun i h=>h.IsListIter it a i) where
  mem:=by simp
  obj:=fun i h st b hb=>by
    have e:b=it:=by simpa using hb
    subst e
    obtain ⟨o,e,c,d⟩:=st
    exact ⟨o,e,fun v z=>by rw [d] at z; cases z⟩
  keep:=fun i h h' st k=>st.at fun o e=>k it (by simp) o e
  item:=by
    intro X hP hw hK hc i pins s σ H E I hf st hg
    subst hP hw hK
    obtain ⟨xs,x,hq,hx⟩:=hg
    obtain ⟨its,rv,p,hz⟩:=I.list hq
    obtain ⟨u,hu,ru⟩:=rv.get hx
    obtain ⟨f0,f1,f2,f3,f4,f5⟩:=hf it (by simp)
    refine wpAny_pyNext_list_item st p.isList (x:=u) (by simpa using hu) fun h' st' sb=>?_
    have I1:Inv X pins σ H { s with heap:=h' }:=I.turned (t':=s.toks) (fun b o hb e=>(sb.2 b hb).trans e) f0 f1 f3 f4 f5
    obtain ⟨o,e,c,d⟩:=id st'
    exact ⟨u,rfl,xZ (s:={ s with heap:=h' }) e c d (by decide) ⟨x,H,I1,ru,⟨rfl,fun ys hy=>by rw [I.list_inj hy hq]; exact hx⟩,st',fun b hb=>(hf b hb).1⟩⟩
  done:=by
    intro X hP hw hK hc i pins s σ H E I hf st hg
    subst hP hw hK
    obtain ⟨xs,hq,hx⟩:=hg
    obtain ⟨its,rv,p,hz⟩:=I.list hq
    obtain ⟨f0,f1,f2,f3,f4,f5⟩:=hf it (by simp)
    have hl:=rv.length
    exact wpAny_pyNext_list_end (I.ok.hd hc) st p.isList (by simp; omega) fun h' eb=>⟨rfl,I.turned (t':=s.toks) (fun b o hb e=>eb b o hb e) f0 f1 f3 f4 f5⟩
  self:=fun _ _ _ _ _ st h=>wpAny_pyIter_listiter st h
theorem xq {P:Program} {w:World} {K:PySem.W.Frag} {tg:Expr} (a it:Addr):Turn P w K tg (Itt K a) [it] it (fun i h=>h.IsTupleIter it a i) where
  mem:=by simp
  obj:=fun i h st b hb=>by
    have e:b=it:=by simpa using hb
    subst e
    obtain ⟨o,e,c,d⟩:=st
    exact ⟨o,e,fun v z=>by rw [d] at z; cases z⟩
  keep:=fun i h h' st k=>st.at fun o e=>k it (by simp) o e
  item:=by
    intro X hP hw hK hc i pins s σ H E I hf st hg
    subst hP hw hK
    obtain ⟨xs,x,hq,hx⟩:=hg
    obtain ⟨its,rv,p,hz⟩:=I.tuple hq
    obtain ⟨u,hu,ru⟩:=rv.get hx
    obtain ⟨f0,f1,f2,f3,f4,f5⟩:=hf it (by simp)
    refine wpAny_pyNext_tuple_item st (show s.heap.IsTuple a its.toArray from p) (x:=u) (by simpa using hu) fun h' st' sb=>?_
    have I1:Inv X pins σ H { s with heap:=h' }:=I.turned (t':=s.toks) (fun b o hb e=>(sb.2 b hb).trans e) f0 f1 f3 f4 f5
    obtain ⟨o,e,c,d⟩:=id st'
    exact ⟨u,rfl,xZ (s:={ s with heap:=h' }) e c d (by decide) ⟨x,H,I1,ru,⟨rfl,fun ys hy=>by rw [I.tuple_inj hy hq]; exact hx⟩,st',fun b hb=>(hf b hb).1⟩⟩
  done:=by
    intro X hP hw hK hc i pins s σ H E I hf st hg
    subst hP hw hK
    obtain ⟨xs,hq,hx⟩:=hg
    obtain ⟨its,rv,p,hz⟩:=I.tuple hq
    obtain ⟨f0,f1,f2,f3,f4,f5⟩:=hf it (by simp)
    have hl:=rv.length
    exact wpAny_pyNext_tuple_end (I.ok.hd hc) st (show s.heap.IsTuple a its.toArray from p) (by simp; omega) fun h' eb=>⟨rfl,I.turned (t':=s.toks) (fun b o hb e=>eb b o hb e) f0 f1 f3 f4 f5⟩
  self:=fun _ _ _ _ _ st h=>wpAny_pyIter_tupleiter st h
theorem wJ {P:Program} {w:World} {K:PySem.W.Frag} {tg:Expr} (it:Addr) (lo:Int) (n:Nat):Turn P w K tg (Itr lo n) [it] it (fun i h=>IsRangeIter h it (lo + (i:Nat) * 1) ((n:Int) - (i:Nat)) 1) where
  mem:=by simp
  obj:=fun i h st b hb=>by
    have e:b=it:=by simpa using hb
    subst e
    exact ⟨_,st,fun v z=>by
      have z':Data.fields _=Data.cell v:=z
      cases z'⟩
  keep:=fun i h h' st k=>k it (by simp) _ st
  item:=by
    intro X hP hw hK hc i pins s σ H E I hf st hg
    subst hP hw hK
    obtain ⟨f0,f1,f2,f3,f4,f5⟩:=hf it (by simp)
    have W:=Walks.range (prog:=X.prog) (w:=X.w) (I.ok.hd hc) it lo 1 n
    refine W.item i s _ _ hg st fun v h' tk hv st' kk=>?_
    obtain ⟨t,rfl⟩:=hv
    have I1:Inv X pins σ H { s with heap:=h',toks:=tk }:=I.turned (fun b o hb e=>kk b o (by simpa using hb) e) f0 f1 f3 f4 f5
    refine ⟨_,rfl,xZ (s:={ s with heap:=h',toks:=tk }) (n:="range_iterator") st' rfl rfl (by decide) ⟨.int (lo + i),H,I1,⟨t,?_⟩,⟨rfl,rfl⟩,st',fun b hb=>(hf b hb).1⟩⟩
    rw [Int.mul_one]
  done:=by
    intro X hP hw hK hc i pins s σ H E I hf st hg
    subst hP hw hK
    obtain ⟨f0,f1,f2,f3,f4,f5⟩:=hf it (by simp)
    exact wpAny_pyNext_range_end (I.ok.hd hc) st (by have:n≤i:=hg; omega) fun h' eb=>⟨rfl,I.turned (t':=s.toks) (fun b o hb e=>eb b o hb e) f0 f1 f3 f4 f5⟩
  self:=fun _ _ _ _ _ st h=>wpAny_pyIter_rangeiter st h
end L2
namespace L2
open PySem PySem.Spec PyProof.Rows
section
variable {X:Cx} {tg:Expr}
noncomputable def EX (K:PySem.W.Frag) (tl:TE):TI:=fun σ H R=>tl σ H fun x H1=>∃ a,x=.ref a∧(∃ xs,SqL K H1 a xs)∧R (Itl K a) H1
noncomputable def Fj (K:PySem.W.Frag) (tl:TE):TI:=fun σ H R=>tl σ H fun x H1=>∃ a,x=.ref a∧(∃ xs,SqT K H1 a xs)∧R (Itt K a) H1
theorem BQ {l:Expr} {tl:TE} (hl:PE X l tl):PI X tg l (EX X.K tl):=by
  intro pins s σ H R I h
  refine thn (hl pins s σ H _ I h) fun v s1 rz2=>?_
  obtain ⟨x,H1,I1,r1,q1⟩:=rz2
  obtain ⟨a,e,⟨xs,hq⟩,q⟩:=q1
  subst e
  cases r1
  obtain ⟨its,rv,p,hz⟩:=I1.list hq
  refine wpAny_pyIter_list p.isList ?_
  refine ⟨s1.heap.objs.size,[s1.heap.objs.size],_,_,H1,rfl,I1.kept (t':=s1.toks) fun b o e=>Heap.get?_push_of_some _ e,zx a _,⟨_,Heap.get?_push_size _ rfl,rfl,rfl⟩,fun b hb=>?_,q⟩
  have e:b=s1.heap.objs.size:=by simpa using hb
  subst e
  exact I1.fpOk (Nat.le_refl _) (I1.hok.fresh (Nat.le_refl _))
theorem DE {l:Expr} {tl:TE} (hl:PE X l tl):PI X tg l (Fj X.K tl):=by
  intro pins s σ H R I h
  refine thn (hl pins s σ H _ I h) fun v s1 rz2=>?_
  obtain ⟨x,H1,I1,r1,q1⟩:=rz2
  obtain ⟨a,e,⟨xs,hq⟩,q⟩:=q1
  subst e
  cases r1
  obtain ⟨its,rv,p,hz⟩:=I1.tuple hq
  refine wpAny_pyIter_tuple (show s1.heap.IsTuple a its.toArray from p) ?_
  refine ⟨s1.heap.objs.size,[s1.heap.objs.size],_,_,H1,rfl,I1.kept (t':=s1.toks) fun b o e=>Heap.get?_push_of_some _ e,xq a _,⟨_,Heap.get?_push_size _ rfl,rfl,rfl⟩,fun b hb=>?_,q⟩
  have e:b=s1.heap.objs.size:=by simpa using hb
  subst e
  exact I1.fpOk (Nat.le_refl _) (I1.hok.fresh (Nat.le_refl _))
theorem vL {pins:List (Addr × Obj)} {σ:St} {H:Hp} {s:Shared} {R:It→Hp→Prop} {E:Value→Shared→Prop} {lo hi:Int} {t u v:Tok} {tk:Nat} (I:Inv X pins σ H s) (h1:-(2 ^ 62)≤lo) (h2:lo < 2 ^ 62) (h3:-(2 ^ 62)≤hi) (h4:hi < 2 ^ 62)
    (q:R (Itr lo (hi - lo).toNat) H):wpAny (model X.prog X.w) X.A (pyIter (.ref s.heap.objs.size)) (PIE X pins σ tg R) E { s with heap:=s.heap.push { cls:=.type "range",data:=.fields #[.int lo t,.int hi u,.int 1 v] },toks:=tk }:=by
  refine wpAny_pyIter_range (IsRange.new ..) (small_one h1 h2 h3 h4) ?_
  have I1:Inv X pins σ H { s with heap:=s.heap.push { cls:=.type "range",data:=.fields #[.int lo t,.int hi u,.int 1 v] },toks:=tk }:=I.kept fun b o e=>Heap.get?_push_of_some _ e
  refine ⟨(s.heap.push { cls:=.type "range",data:=.fields #[.int lo t,.int hi u,.int 1 v] }).objs.size,[(s.heap.push { cls:=.type "range",data:=.fields #[.int lo t,.int hi u,.int 1 v] }).objs.size],_,_,H,rfl,
    I1.kept (t':=tk) fun b o e=>Heap.get?_push_of_some _ e,wJ _ lo (hi - lo).toNat,?_,fun b hb=>?_,q⟩
  · have e1:lo + ((0:Nat):Int) * 1=lo:=by simp
    have e2:(((hi - lo).toNat:Nat):Int) - ((0:Nat):Int)=Builtin.Range.rangeSize lo hi 1:=by rw [rangeSize_one]; split <;> omega
    show IsRangeIter _ _ (lo + ((0:Nat):Int) * 1) ((((hi - lo).toNat:Nat):Int) - ((0:Nat):Int)) 1
    rw [e1,e2]
    exact Heap.get?_push_size _ rfl
  · have e:b=(s.heap.push { cls:=.type "range",data:=.fields #[.int lo t,.int hi u,.int 1 v] }).objs.size:=by simpa using hb
    subst e
    exact I1.fpOk (Nat.le_refl _) (I1.hok.fresh (Nat.le_refl _))
noncomputable def Ez (ta:TA):TI:=fun σ H R=>ta σ H fun vs H1=>∃ j:Int,vs=[.int j]∧-(2 ^ 62)≤j∧j < 2 ^ 62∧R (Itr 0 j.toNat) H1
noncomputable def Fb (ta:TA):TI:=fun σ H R=>ta σ H fun vs H1=>∃ i j:Int,vs=[.int i,.int j]∧(-(2 ^ 62)≤i∧i < 2 ^ 62∧-(2 ^ 62)≤j∧j < 2 ^ 62)∧R (Itr i (j - i).toNat) H1
theorem yI {a:Expr} {ta:TA} {p pos:Pos} (hg:Gl X "range") (hm:X.mg "range"=none) (ha:PA X [a] ta) (hs:starEach [a] X.env=[(false,eval a X.env)]:=by rfl):PI X tg (.Call (.Name "range" p) [a] [] pos) (Ez ta):=by
  intro pins s σ H R I h
  refine Call_ (gU I hg hm boot_range (PyProof.Rows.callWith_type1 (thn (ha pos pins s σ H _ I h) fun us s1 rz2=>?_) hs rfl))
  obtain ⟨vs,H1,I1,r1,q1⟩:=rz2
  obtain ⟨j,e,q1,q2,q⟩:=q1
  subst e
  cases r1 with
  | cons r rr =>
    cases rr
    obtain ⟨t,rfl⟩:=r
    exact call_range_1 (vL I1 (by omega) (by omega) q1 q2 (by simpa using q))
theorem yW {a b:Expr} {ta:TA} {p pos:Pos} (hg:Gl X "range") (hm:X.mg "range"=none) (ha:PA X [a,b] ta) (hs:starEach [a,b] X.env=[(false,eval a X.env),(false,eval b X.env)]:=by rfl) (hs2:starEach [b] X.env=[(false,eval b X.env)]:=by rfl) :
    PI X tg (.Call (.Name "range" p) [a,b] [] pos) (Fb ta):=by
  intro pins s σ H R I h
  refine Call_ (gU I hg hm boot_range (PyProof.Rows.callWith_type1 (thn (ha pos pins s σ H _ I h) fun us s1 rz2=>?_) (by rw [hs,hs2]) (by rw [hs2]; rfl)))
  obtain ⟨vs,H1,I1,r1,q1⟩:=rz2
  obtain ⟨i,j,e,⟨q1,q2,q3,q4⟩,q⟩:=q1
  subst e
  cases r1 with
  | cons r rr =>
    cases rr with
    | cons r' rr =>
      cases rr
      obtain ⟨t,rfl⟩:=r
      obtain ⟨t',rfl⟩:=r'
      exact call_range_2 (vL I1 q1 q2 q3 q4 q)
noncomputable def Fh (wi:TI) (g:TG) (tb:TS):TS:=fun D σ H=>wi σ H fun J H1=>∃ W:Nat→Nat→St→Hp→Prop,(∃ m,W 0 m σ H1)∧∀ i m σ H,W i m σ H →
  (J.stop i H∧D.nx σ H)∨(J.go i H∧∃ N:St→Hp→Prop,(∀ σ' H',N σ' H'→∃ m',m' < m∧W (i + 1) m' σ' H')∧∀ x H',J.yld i H x H'→g x σ H' fun σ2 H2=>tb { D with nx:=N,ct:=N,bk:=D.nx } σ2 H2)
noncomputable def qO (fp:List Addr) (h:Heap):List (Addr × Obj):=fp.filterMap fun b=>(h.get? b).map fun o=>(b,o)
theorem kr {fp:List Addr} {h:Heap} {b:Addr} {o:Obj} (hb:b∈fp) (e:h.get? b=some o):(b,o)∈qO fp h:=List.mem_filterMap.mpr ⟨b,hb,by rw [e]; rfl⟩
theorem zq {fp:List Addr} {h:Heap} {p:Addr × Obj} (hp:p∈qO fp h):p.1∈fp∧h.get? p.1=some p.2:=by
  obtain ⟨b,hb,e⟩:=List.mem_filterMap.mp hp
  cases q:h.get? b with
  | none=>rw [q] at e; cases e
  | some o =>
    rw [q] at e
    have e':(b,o)=p:=Option.some.inj e
    subst e'
    exact ⟨hb,q⟩
theorem Inv.pinned {pins:List (Addr × Obj)} {σ:St} {H:Hp} {s:Shared} {fp:List Addr} (I:Inv X pins σ H s) (hf:∀ b∈fp,qe X pins H b) (ho:∀ b∈fp,∃ o,s.heap.get? b=some o∧∀ v,o.data≠.cell v):Inv X (pins++qO fp s.heap) σ H s :=
  I.pins_of fun p hp=>(List.mem_append.mp hp).elim (fun z=>I.pin p (List.mem_append_right _ z)) fun z=>by
    obtain ⟨hb,e⟩:=zq z
    obtain ⟨f0,f1,f2,_⟩:=hf p.1 hb
    obtain ⟨o,e',d⟩:=ho p.1 hb
    rw [e] at e'; cases e'
    exact ⟨e,f0,f1,f2,d⟩
theorem Inv.unpinned {pins pl:List (Addr × Obj)} {σ:St} {H:Hp} {s:Shared} (I:Inv X (pins++pl) σ H s):Inv X pins σ H s:=I.pins_of fun p hp=>I.pin p (List.mem_append_right _ (List.mem_append_left _ hp))
theorem Dl {iter:Expr} {body:List Stmt} {wi:TI} {g:TG} {tb:TS} {pos:Pos} (hp:PassesOwn (model X.prog X.w) X.A X.env X.xe) (hc:X.calm=true) (hi:PI X tg iter wi) (hg:PG X tg g) (hb:PSs X body tb)
    (hs:∀ x,foldedSetIterable iter X.env x=pure x:=by intro _; rfl):PS X (.For tg iter body [] pos) (Fh wi g tb):=by
  intro pins s σ H D I h
  refine wpAny_For (thn (hi pins s σ H _ I h) fun v s1 h1=>thn h1 fun itv s2 h2=>?_) hs
  obtain ⟨it,fp,tn,J,H2,e,I2,T,st2,f2,W,⟨m0,w0⟩,turn⟩:=h2
  subst e
  -- what stays true of the iterator's objects through the loop
  have stat:∀ {H':Hp},(∀ b∈fp,H' b=none)→∀ b∈fp,qe X pins H' b:=fun hn b hb=>⟨hn b hb,(f2 b hb).2⟩
  refine codeAny_forLoop_any (fun n s'=>∃ i σ' H',Inv X pins σ' H' s'∧tn i s'.heap∧(∀ b∈fp,H' b=none)∧W i n σ' H') ?_ m0 ⟨0,σ,H2,I2,st2,fun b hb=>(f2 b hb).1,w0⟩
  rintro n s3 ⟨i,σ3,H3,I3,st3,fr3,w3⟩
  rcases turn i n σ3 H3 w3 with ⟨stop,qn⟩ | ⟨go,N,hN,step⟩
  · refine wpAny_passesOwn hp (thn (T.done X rfl rfl rfl hc i pins s3 σ3 H3 X.xe I3 (stat fr3) st3 stop) fun r s4 rz2=>?_)
    obtain ⟨hr,I4⟩:=rz2
    subst hr
    exact wpAny_execs_nil ⟨σ3,H3,I4,qn⟩
  · refine wpAny_passesOwn hp (thn (T.item X rfl rfl rfl hc i pins s3 σ3 H3 X.xe I3 (stat fr3) st3 go) fun r s4 rz2=>?_)
    obtain ⟨u,hr,h4⟩:=rz2
    subst hr
    refine wpAny_passesOwn hp (thn h4 fun _ s5 rz2=>?_)
    obtain ⟨x,H5,I5,r5,y5,st5,fr5⟩:=rz2
    have I5':=I5.pinned (stat fr5) (T.obj _ _ st5)
    refine wpAny_passesOwn hp (thn (hg _ s5 σ3 H5 x u _ I5' r5 (step x H5 y5)) fun _ s6 rz2=>?_)
    obtain ⟨σ6,H6,I6,q6⟩:=rz2
    refine wpAny_passesOwn hp (thn (hb _ s6 σ6 H6 _ I6 q6) fun f s7 q7=>?_)
    have again:∀ {σ7:St} {H7:Hp},Inv X (pins++qO fp s5.heap) σ7 H7 s7→N σ7 H7→∃ m,m < n∧∃ i σ' H',Inv X pins σ' H' s7∧tn i s7.heap∧(∀ b∈fp,H' b=none)∧W i m σ' H':=fun {σ7 H7} I7 n7=>by
      obtain ⟨m',hm,w7⟩:=hN σ7 H7 n7
      refine ⟨m',hm,i + 1,σ7,H7,I7.unpinned,T.keep _ _ _ st5 fun b hb o e=>(I7.pin (b,o) (List.mem_append_right _ (List.mem_append_right _ (kr hb e)))).1,fun b hb=>?_,w7⟩
      obtain ⟨o,e,d⟩:=T.obj _ _ st5 b hb
      exact (I7.pin (b,o) (List.mem_append_right _ (List.mem_append_right _ (kr hb e)))).2.1
    cases f with
    | next=>obtain ⟨σ7,H7,I7,n7⟩:=q7; exact again I7 n7
    | cont=>obtain ⟨σ7,H7,I7,n7⟩:=q7; exact again I7 n7
    | brk=>obtain ⟨σ7,H7,I7,q7⟩:=q7; exact ⟨σ7,H7,I7.unpinned,q7⟩
    | ret v=>obtain ⟨x7,σ7,H7,I7,r7,q7⟩:=q7; exact ⟨x7,σ7,H7,I7.unpinned,r7,q7⟩
end
end L2
namespace L2
open PySem PySem.Spec PyProof.Rows
noncomputable abbrev R2:=V→V→Hp→VK→Prop
noncomputable def OpR (X:Cx) (f:Value→Value→Sem Value) (r:R2):Prop :=
  ∀ (pins:List (Addr × Obj)) (s:Shared) (σ:St) (H:Hp) (x y:V) (v u:Value) (Q:VK),Inv X pins σ H s→RelV x v→RelV y u→r x y H Q →
    wpAny (model X.prog X.w) X.A (f v u) (EP X pins σ Q) X.xe s
noncomputable def UnR (X:Cx) (f:Value→Sem Value) (r:V→Hp→VK→Prop):Prop :=
  ∀ (pins:List (Addr × Obj)) (s:Shared) (σ:St) (H:Hp) (x:V) (v:Value) (Q:VK),Inv X pins σ H s→RelV x v→r x H Q →
    wpAny (model X.prog X.w) X.A (f v) (EP X pins σ Q) X.xe s
noncomputable def lT (X:Cx) (f:Value) (r:List V→Hp→VK→Prop):Prop :=
  ∀ (pins:List (Addr × Obj)) (s:Shared) (σ:St) (H:Hp) (xs:List V) (us:List Value) (Q:VK),Inv X pins σ H s→Vals xs us→r xs H Q →
    wpAny (model X.prog X.w) X.A (call f us) (EP X pins σ Q) X.xe s
noncomputable def tOp (r:R2) (ta tb:TE):TE:=fun σ H Q=>ta σ H fun x H1=>tb σ H1 fun y H2=>r x y H2 Q
noncomputable def tUn (r:V→Hp→VK→Prop) (ta:TE):TE:=fun σ H Q=>ta σ H fun x H1=>r x H1 Q
noncomputable def rI (C:Int→Int→Prop) (g:Int→Int→V):R2:=fun x y H Q=>∃ i j,x=.int i∧y=.int j∧C i j∧Q (g i j) H
noncomputable def rI0 (g:Int→Int→V):R2:=fun x y H Q=>∃ i j,x=.int i∧y=.int j∧Q (g i j) H
noncomputable def rU (g:Int→V):V→Hp→VK→Prop:=fun x H Q=>∃ i,x=.int i∧Q (g i) H
section
variable {X:Cx} {a b c:Expr} {ta tb tc:TE} {pos:Pos}
theorem DB (ha:PE X a ta) (hb:PE X b tb) {pins:List (Addr × Obj)} {s:Shared} {σ:St} {H:Hp} {R:V→V→Hp→Prop} (I:Inv X pins σ H s)
    (h:ta σ H fun x H1=>tb σ H1 fun y H2=>R x y H2) {Q:Value→Shared→Prop} {f:Value→Value→Sem Value}
    (hf:∀ v u s2 x y H2,Inv X pins σ H2 s2→RelV x v→RelV y u→R x y H2→wpAny (model X.prog X.w) X.A (f v u) Q X.xe s2) :
    wpAny (model X.prog X.w) X.A (eval a X.env) (fun v s₁=>wpAny (model X.prog X.w) X.A (eval b X.env) (fun u s₂=>wpAny (model X.prog X.w) X.A (f v u) Q X.xe s₂) X.xe s₁) X.xe s:=by
  refine thn (ha pins s σ H _ I h) fun v s1 rz2=>?_
  obtain ⟨x,H1,I1,r1,q1⟩:=rz2
  refine thn (hb pins s1 σ H1 _ I1 q1) fun u s2 rz2=>?_
  obtain ⟨y,H2,I2,r2,q2⟩:=rz2
  exact hf v u s2 x y H2 I2 r1 r2 q2
theorem fG {op:Operator} {r:R2} (ho:OpR X (binaryOp op) r) (ha:PE X a ta) (hb:PE X b tb):PE X (.BinOp a op b pos) (tOp r ta tb):=by
  intro pins s σ H Q I h
  exact wpAny_BinOp (DB ha hb I h fun v u s2 x y H2 I2 rx ry q=>ho pins s2 σ H2 x y v u Q I2 rx ry q)
theorem E3 {op:UnaryOp} {r:V→Hp→VK→Prop} (ho:UnR X (unaryOp op) r) (ha:PE X a ta):PE X (.UnaryOp op a pos) (tUn r ta):=by
  intro pins s σ H Q I h
  exact UnaryOp_ (thn (ha pins s σ H _ I h) fun v s1 qz2=>(by obtain ⟨x,H1,I1,r1,q1⟩:=qz2; exact ho pins s1 σ H1 x v Q I1 r1 q1))
theorem opI {f:Value→Value→Sem Value} {C:Int→Int→Prop} {g:Int→Int→Int}
    (rule:∀ (i j:Int) (t u:Tok) (s:Shared) (Q:Value→Shared→Prop) (E:Value→Shared→Prop),C i j→Q (.int (g i j) s.toks) { s with toks:=s.toks + 1 }→wpAny (model X.prog X.w) X.A (f (.int i t) (.int j u)) Q E s) :
    OpR X f (rI C fun i j=>.int (g i j)):=by
  intro pins s σ H x y v u Q I rx ry h
  obtain ⟨i,j,rfl,rfl,hc,q⟩:=h
  obtain ⟨t,rfl⟩:=rx
  obtain ⟨t',rfl⟩:=ry
  exact rule i j t t' s _ _ hc ⟨.int (g i j),H,I.tok _,⟨_,rfl⟩,q⟩
theorem EF {f:Value→Value→Sem Value} {g:Int→Int→Int}
    (rule:∀ (i j:Int) (t u:Tok) (s:Shared) (Q:Value→Shared→Prop) (E:Value→Shared→Prop),Q (.int (g i j) s.toks) { s with toks:=s.toks + 1 }→wpAny (model X.prog X.w) X.A (f (.int i t) (.int j u)) Q E s) :
    OpR X f (rI0 fun i j=>.int (g i j)):=by
  intro pins s σ H x y v u Q I rx ry h
  obtain ⟨i,j,rfl,rfl,q⟩:=h
  obtain ⟨t,rfl⟩:=rx
  obtain ⟨t',rfl⟩:=ry
  exact rule i j t t' s _ _ ⟨.int (g i j),H,I.tok _,⟨_,rfl⟩,q⟩
theorem D9 {f:Value→Value→Sem Value} {g:Int→Int→Bool}
    (rule:∀ (i j:Int) (t u:Tok) (s:Shared) (Q:Value→Shared→Prop) (E:Value→Shared→Prop),Q (.bool (g i j)) s→wpAny (model X.prog X.w) X.A (f (.int i t) (.int j u)) Q E s) :
    OpR X f (rI0 fun i j=>.bl (g i j)):=by
  intro pins s σ H x y v u Q I rx ry h
  obtain ⟨i,j,rfl,rfl,q⟩:=h
  obtain ⟨t,rfl⟩:=rx
  obtain ⟨t',rfl⟩:=ry
  exact rule i j t t' s _ _ ⟨.bl (g i j),H,I,rfl,q⟩
noncomputable def EC (i j:Int):Prop:=0 < j∧j < 1073741824
noncomputable def Bx (i j:Int):Prop:=(-(2 ^ 64) < i∧i < 2 ^ 64)∨(-(2 ^ 64) < j∧j < 2 ^ 64)
theorem Bx.ok {i j:Int} (h:Bx i j):IntMulOk i j:=by
  rcases h with ⟨h1,h2⟩ | ⟨h1,h2⟩
  · exact .of_left (intBits_le_64 h1 h2)
  · exact .of_right (intBits_le_64 h1 h2)
theorem og:OpR X (binaryOp .Add) (rI0 fun i j=>.int (i + j)):=EF fun _ _ _ _ _ _ _ q=>add_int q
theorem DI:OpR X (binaryOp .Sub) (rI0 fun i j=>.int (i - j)):=EF fun _ _ _ _ _ _ _ q=>sub_int q
theorem oa:OpR X (binaryOp .Mult) (rI Bx fun i j=>.int (i * j)):=opI fun _ _ _ _ _ _ _ hc q=>mul_int q hc.ok
theorem BW:OpR X (binaryOp .FloorDiv) (rI EC fun i j=>.int (i / j)):=opI fun i j _ _ _ _ _ hc q=>by
  have h1:(0:Int) < j:=hc.1
  have h2:j < 1073741824:=hc.2
  exact floordiv_int (by omega) (by rw [Int.fdiv_eq_ediv_of_nonneg i (by omega)]; exact q) (.inl (PyProof.noPylong_small (by omega)))
theorem pT:OpR X (binaryOp .Mod) (rI (fun _ j=>0 < j) fun i j=>.int (i % j)):=opI fun i j _ _ _ _ _ hc q=>by
  have h1:(0:Int) < j:=hc
  exact mod_int' (by omega) (by rw [Int.fmod_eq_emod_of_nonneg i (by omega)]; exact q)
theorem unI {f:Value→Sem Value} {g:Int→Int}
    (rule:∀ (i:Int) (t:Tok) (s:Shared) (Q:Value→Shared→Prop) (E:Value→Shared→Prop),Q (.int (g i) s.toks) { s with toks:=s.toks + 1 }→wpAny (model X.prog X.w) X.A (f (.int i t)) Q E s) :
    UnR X f (rU fun i=>.int (g i)):=by
  intro pins s σ H x v Q I rx h
  obtain ⟨i,rfl,q⟩:=h
  obtain ⟨t,rfl⟩:=rx
  exact rule i t s _ _ ⟨.int (g i),H,I.tok _,⟨_,rfl⟩,q⟩
theorem C7:UnR X (unaryOp .USub) (rU fun i=>.int (-i)):=unI fun _ _ _ _ _ q=>neg_int q
end
section
variable {X:Cx} {a b c:Expr} {ta tb tc:TE} {pos:Pos}
theorem EO:OpR X (compareOp .Lt) (rI0 fun i j=>.bl (decide (i < j))):=D9 fun _ _ _ _ _ _ _ q=>lt_int q
theorem yk:OpR X (compareOp .LtE) (rI0 fun i j=>.bl (decide (i≤j))):=D9 fun _ _ _ _ _ _ _ q=>le_int q
theorem CP:OpR X (compareOp .Gt) (rI0 fun i j=>.bl (decide (j < i))):=D9 fun _ _ _ _ _ _ _ q=>gt_int q
theorem OpR.or {f:Value→Value→Sem Value} {r r':R2} (h:OpR X f r) (h':OpR X f r'):OpR X f (fun x y H Q=>r x y H Q∨r' x y H Q):=by
  intro pins s σ H x y v u Q I rx ry q
  rcases q with q | q
  · exact h pins s σ H x y v u Q I rx ry q
  · exact h' pins s σ H x y v u Q I rx ry q
theorem jV (b:Expr) {op:CmpOp} (h:op≠.In:=by decide) (h2:op≠.NotIn:=by decide):behindInMarks op b=false:=by
  have e1:(op == CmpOp.In)=false:=by cases op <;> first | rfl | exact absurd rfl h
  have e2:(op == CmpOp.NotIn)=false:=by cases op <;> first | rfl | exact absurd rfl h2
  cases b <;> simp [behindInMarks,e1,e2]
theorem o9 {op:CmpOp} {r:R2} (ho:OpR X (compareOp op) r) (ha:PE X a ta) (hb:PE X b tb) (hm:behindInMarks op b=false):PE X (.Compare a [op] [b] pos) (tOp r ta tb):=by
  intro pins s σ H Q I h
  exact wpAny_Compare1 (DB ha hb I h fun v u s2 x y H2 I2 rx ry q=>ho pins s2 σ H2 x y v u Q I2 rx ry q) hm
noncomputable def CK (t:TE):TT:=fun σ H Q=>t σ H fun x H'=>∃ k,x=.bl k∧Q k H'
theorem jU {op:CmpOp} {r:R2} (ho:OpR X (compareOp op) r) (ha:PE X a ta) (hb:PE X b tb) (hm:behindInMarks op b=false):PT X (.Compare a [op] [b] pos) (CK (tOp r ta tb)):=by
  intro pins s σ H Q I h
  refine wpAny_isTrue_Compare1 (thn (ha pins s σ H _ I h) fun v s1 rz2=>?_) hm
  obtain ⟨x,H1,I1,r1,q1⟩:=rz2
  refine thn (hb pins s1 σ H1 _ I1 q1) fun u s2 rz2=>?_
  obtain ⟨y,H2,I2,r2,q2⟩:=rz2
  refine thn (ho pins s2 σ H2 x y v u _ I2 r1 r2 q2) fun c s3 rz2=>?_
  obtain ⟨z,H3,I3,r3,k,e,q3⟩:=rz2
  subst e
  cases r3
  exact wpAny_truthy_bool ⟨H3,I3,q3⟩
noncomputable def D3 (r r':R2) (ta tb tc:TE):TE:=fun σ H Q=>ta σ H fun x H1=>tb σ H1 fun y H2=>r x y H2 fun z H3=>∃ k,z=.bl k ∧
  (if k=true then tc σ H3 fun w' H4=>r' y w' H4 Q else Q (.bl false) H3)
theorem zG {op op':CmpOp} {r r':R2} (ho:OpR X (compareOp op) r) (ho':OpR X (compareOp op') r') (ha:PE X a ta) (hb:PE X b tb) (hc:PE X c tc)
    (hm:lastMarks [op,op'] [b,c]=false:=by with_unfolding_all rfl):PE X (.Compare a [op,op'] [b,c] pos) (D3 r r' ta tb tc):=by
  intro pins s σ H Q I h
  refine Compare_chain (thn (ha pins s σ H _ I h) fun v s1 rz2=>?_) hm
  obtain ⟨x,H1,I1,r1,q1⟩:=rz2
  refine chain_link (thn (hb pins s1 σ H1 _ I1 q1) fun u s2 rz2=>?_)
  obtain ⟨y,H2,I2,r2,q2⟩:=rz2
  refine thn (ho pins s2 σ H2 x y v u _ I2 r1 r2 q2) fun d s3 rz2=>?_
  obtain ⟨z,H3,I3,r3,k,e,q3⟩:=rz2
  subst e
  cases r3
  refine wpAny_truthy_bool ?_
  cases k with
  | false=>exact ite_ff ⟨.bl false,H3,I3,rfl,q3⟩
  | true=>exact ite_tt (chain_last (thn (hc pins s3 σ H3 _ I3 q3) fun w' s4 qz2=>(by obtain ⟨z',H4,I4,r4,q4⟩:=qz2; exact ho' pins s4 σ H4 y z' u w' Q I4 r2 r4 q4)))
theorem t7:(sizeLine:Nat) < 2 ^ 63:=by rw [sizeLine_eq]; decide
theorem vals1 {x:V} {us:List Value} (r:Vals [x] us):∃ u,us=[u]∧RelV x u:=by
  cases r with
  | cons r1 r2=>cases r2; exact ⟨_,rfl,r1⟩
theorem vals2 {x y:V} {us:List Value} (r:Vals [x,y] us):∃ u w',us=[u,w']∧RelV x u∧RelV y w':=by
  cases r with
  | cons r1 r2 =>
    cases r2 with
    | cons r3 r4=>cases r4; exact ⟨_,_,rfl,r1,r3⟩
theorem zg (hc:X.calm=true):lT X (.builtin "max") (fun xs H Q=>∃ i j,xs=[.int i,.int j]∧Q (.int (if j > i then j else i)) H):=by
  intro pins s σ H xs us Q I r h
  obtain ⟨i,j,rfl,q⟩:=h
  obtain ⟨u,w',rfl,⟨t,rfl⟩,⟨t',rfl⟩⟩:=vals2 r
  refine max_two_ints (I.ok.hd hc) fun h' tk k=>⟨_,H,I.kept k,?_,q⟩
  by_cases hj:j > i
  · rw [if_pos hj,if_pos hj]; exact ⟨_,rfl⟩
  · rw [if_neg hj,if_neg hj]; exact ⟨_,rfl⟩
theorem yL (hc:X.calm=true):lT X (.builtin "min") (fun xs H Q=>∃ i j,xs=[.int i,.int j]∧Q (.int (if j < i then j else i)) H):=by
  intro pins s σ H xs us Q I r h
  obtain ⟨i,j,rfl,q⟩:=h
  obtain ⟨u,w',rfl,⟨t,rfl⟩,⟨t',rfl⟩⟩:=vals2 r
  refine min_two_ints (I.ok.hd hc) fun h' tk k=>⟨_,H,I.kept k,?_,q⟩
  by_cases hj:j < i
  · rw [if_pos hj,if_pos hj]; exact ⟨_,rfl⟩
  · rw [if_neg hj,if_neg hj]; exact ⟨_,rfl⟩
theorem yU:lT X (.type "int") (fun xs H Q=>(∃ i,xs=[.int i]∧Q (.int i) H)∨∃ k,xs=[.bl k]∧Q (.int (if k then 1 else 0)) H):=by
  intro pins s σ H xs us Q I r h
  rcases h with ⟨i,rfl,q⟩ | ⟨k,rfl,q⟩
  · obtain ⟨u,rfl,t,rfl⟩:=vals1 r
    exact call_int_int ⟨.int i,H,I,⟨_,rfl⟩,q⟩
  · obtain ⟨u,rfl,r1⟩:=vals1 r
    cases r1
    exact call_int_bool ⟨.int (if k then 1 else 0),H,I.tok _,⟨_,rfl⟩,q⟩
end
end L2
namespace L2
open PySem PySem.Spec PyProof.Rows
structure zo (h:Heap) (x dx C:Addr) (mA:Str→Option Value):Prop where
  obj:h.get? x=some (PySem.W.instObj C dx)
  ns:h.Ns1 dx mA
  ne:dx≠x
theorem zd {h:Heap} {dx:Addr} {mA:Str→Option Value} (n:h.Ns1 dx mA):∃ od,h.get? dx=some od∧∀ name,PySem.W.lookIn name od=some (mA name):=by
  obtain ⟨o,es,ep,ho,hd,hk,_,hm⟩:=n
  refine ⟨o,ho,fun name=>?_⟩
  have e:=hm name
  unfold nsFind findBy at e
  rw [← Array.find?_toList] at e
  unfold PySem.W.lookIn
  rw [hd]
  dsimp only
  split
  · rename_i y q
    rw [q] at e
    exact congrArg some e
  · rename_i q
    rw [q] at e
    have a:es.toList.any (·.refKey)=false:=by
      rw [List.any_eq_false]
      intro y hy
      obtain ⟨z,t,hkey⟩:=hk y (Array.mem_toList_iff.mp hy)
      simp [DictEntry.refKey,hkey]
    have a':¬ es.toList.any (·.refKey)=true:=by rw [a]; exact Bool.false_ne_true
    rw [if_neg a']
    exact congrArg some e
theorem zo.look {h:Heap} {x dx C:Addr} {mA:Str→Option Value} (I:zo h x dx C mA):∃ od,PySem.W.InstAt h x (PySem.W.instObj C dx) C (some od)∧∀ name,PySem.W.lookIn name od=some (mA name) :=
  let ⟨od,ho,hl⟩:=zd I.ns
  ⟨od,⟨I.obj,rfl,rfl,ho⟩,hl⟩
section
variable {prog:Program} {w:World} {A:Around} {E:Value→Shared→Prop} {s:Shared} {K:PySem.W.Frag} {x dx C f:Addr} {mA:Str→Option Value} {name:Str} {v:Value}
theorem get_map {expr:Bool} {Q:Value→Shared→Prop} (X:K.In s.heap) (I:zo s.heap x dx C mA) (hg:PySem.W.plainGet K C name=true) (hh:PySem.W.hasDictIn K C=true)
    (ha:PySem.W.findIn K (.ref C) name=some none) (hv:mA name=some v) (hv':PySem.W.handedIn v=true) (h:Q v { s with toks:=s.toks + 1 }) :
    wpAny (model prog w) A (getAttr (.ref x) name expr) Q E s:=by
  obtain ⟨od,J,hl⟩:=I.look
  exact PySem.W.get_value X J (PySem.W.plainGet_of hg).1 (PySem.W.findObj_own hh ha rfl (by rw [hl,hv])) hv' h
theorem BH {ns:List Str} {Q:Unit→Shared→Prop} (X:K.In s.heap) (I:zo s.heap x dx C mA)
    (hs:PySem.W.findIn K (.ref C) "__setattr__"=some (some (.builtin "object.__setattr__"))) (hp:PySem.W.plainOver K C=true) (ht:PySem.W.takerIn K C name=some none) (hh:PySem.W.hasDictIn K C=true)
    (hw:PySem.Within mA ns) (hsz:ns.length≤sizeLine)
    (h:∀ h',zo h' x dx C (fun y=>if y=name then some v else mA y)→Heap.SameBut dx s.heap h'→Q () { s with heap:=h',toks:=s.toks + 2 }) :
    wpAny (model prog w) A (setAttr (.ref x) name v) Q E s:=by
  obtain ⟨od,J,hl⟩:=I.look
  refine PySem.W.set_plain X J hs (PySem.W.osa_open (s:={ s with toks:=s.toks + 1 }) (r:=none) X J hp ht fun b=>?_)
  obtain ⟨cd,hc,hd'⟩:=PySem.W.any_some hh
  have hx:s.heap.get? x=some ⟨.ref C,some dx,.plain,#[]⟩:=I.obj
  refine wpAny_bind (wpAny_pure (wpAny_bind (wpAny_bind (wpAny_loadPart hx (wpAny_bind (PySem.W.Looks.here (s:={ s with toks:=s.toks + 1 }) (PySem.W.looks_clsIn X hc) ?_))))))
  rw [hd']
  refine wpAny_pure (a:=some dx) (wpAny_bind (wpAny_pure (wpAny_bind ?_)))
  refine wpAny_nsSet1 (s:={ s with toks:=s.toks + 1 }) I.ns fun h' hn2 hs2=>?_
  obtain ⟨oD,esD,epD,hoD,hdD,hcD⟩:=hn2.count (PySem.Within.cons name v hw)
  refine wpAny_bind (wpAny_lookBehind hoD (by rw [hdD]; exact pastItsLine_dict (Nat.le_trans hcD (by rw [List.length_cons]; omega))) ?_)
  exact wpAny_pure (h _ ⟨(hs2.2 _ (Ne.symm I.ne)).trans I.obj,hn2,I.ne⟩ hs2)
theorem An {R:Result→Shared→Prop} {vs:List Value} {kw:List (Str × Value)} (X:K.In s.heap) (hm:PySem.W.makesIn K C=true)
    (hi:PySem.W.findIn K (.ref C) "__init__"=some (some (.ref f))) (hf:PySem.W.typeIn K (.ref f)=some (.type "function"))
    (h:codeAny (model prog w) (A.under (.builtin "type.__call__" ⟨.ref C::vs,kw⟩)) (.call (.ref f) ⟨.ref (s.heap.objs.size + 1)::vs,kw⟩) (PySem.W.InitBack (s.heap.objs.size + 1) R)
      { s with heap:=(s.heap.push PySem.W.emptyDict).push (PySem.W.instObj C s.heap.objs.size) }) :
    codeAny (model prog w) A (.call (.ref C) ⟨vs,kw⟩) R s:=by
  obtain ⟨hh,g,d,t,os⟩:=s
  exact PySem.W.make_core (PySem.W.makes_of X hm) (PySem.W.looks_findIn X hi) (fun self=>PySem.W.bind_fn X self hf) (.inl rfl) h
end
noncomputable def lN (f:Str) (v:V):List (Str × V)→List (Str × V)
  | []=>[(f,v)]
  | (g,x)::r=>if g=f then (g,v)::r else (g,x)::lN f v r
theorem oJ (f g:Str) (v:V):∀ fs:List (Str × V),(lN f v fs).lookup g=if g=f then some v else fs.lookup g
  | []=>by
    show List.lookup g [(f,v)]=_
    by_cases h:g=f
    · have hb:(g == f)=true:=beq_iff_eq.mpr h
      simp only [List.lookup,hb,if_pos h]
    · have hb:(g == f)=false:=beq_eq_false_iff_ne.mpr h
      simp only [List.lookup,hb,if_neg h]
  | (k,x)::r=>by
    have ih:=oJ f g v r
    rw [show lN f v ((k,x)::r)=(if k=f then (k,v)::r else (k,x)::lN f v r) from rfl]
    by_cases hk:k=f
    · rw [if_pos hk]
      by_cases h:g=k
      · have hb:(g == k)=true:=beq_iff_eq.mpr h
        simp only [List.lookup,hb,if_pos (h.trans hk)]
      · have hb:(g == k)=false:=beq_eq_false_iff_ne.mpr h
        simp only [List.lookup,hb,if_neg (fun e:g=f=>h (e.trans hk.symm))]
    · rw [if_neg hk]
      by_cases h:g=k
      · have hb:(g == k)=true:=beq_iff_eq.mpr h
        simp only [List.lookup,hb,if_neg (fun e:g=f=>hk (h.symm.trans e))]
      · have hb:(g == k)=false:=beq_eq_false_iff_ne.mpr h
        simp only [List.lookup,hb]
        exact ih
theorem nX (f:Str) (v:V):∀ fs:List (Str × V),f∈(lN f v fs).map (·.1)∧∀ g,g∈fs.map (·.1)→g∈(lN f v fs).map (·.1)
  | []=>⟨by simp [lN],fun g h=>by simp at h⟩
  | (k,x)::r=>by
    obtain ⟨i1,i2⟩:=nX f v r
    rw [show lN f v ((k,x)::r)=(if k=f then (k,v)::r else (k,x)::lN f v r) from rfl]
    by_cases hk:k=f
    · rw [if_pos hk]
      subst hk
      exact ⟨by simp,fun g h=>by simpa using h⟩
    · rw [if_neg hk]
      refine ⟨?_,fun g h=>?_⟩
      · rw [List.map_cons]
        exact List.mem_cons_of_mem _ i1
      · rw [List.map_cons] at h ⊢
        rcases List.mem_cons.mp h with e | e
        · exact List.mem_cons.mpr (.inl e)
        · exact List.mem_cons_of_mem _ (i2 g e)
theorem oH (f:Str) (v:V):∀ fs:List (Str × V),(lN f v fs).length≤fs.length + 1
  | []=>by simp [lN]
  | (k,x)::r=>by
    have ih:=oH f v r
    rw [show lN f v ((k,x)::r)=(if k=f then (k,v)::r else (k,x)::lN f v r) from rfl]
    by_cases hk:k=f
    · rw [if_pos hk,List.length_cons,List.length_cons]; omega
    · rw [if_neg hk,List.length_cons,List.length_cons]; omega
theorem v9.some_of {v:V} {o:Option Value} (r:v9 (some v) o):∃ u,o=some u∧RelV v u:=by
  cases o with
  | none=>exact (show False from r).elim
  | some u=>exact ⟨u,rfl,r⟩
theorem yV {v:V} {u:Value} (r:RelV v u):PySem.W.handedIn u=true:=by
  cases v with
  | non=>cases (show u=Value.none from r); rfl
  | bl b=>cases (show u=Value.bool b from r); rfl
  | int i=>obtain ⟨t,e⟩:=(show ∃ t,u=Value.int i t from r); cases e; rfl
  | str x=>obtain ⟨t,e⟩:=(show ∃ t,u=Value.str x t from r); cases e; rfl
  | byt b=>obtain ⟨t,e⟩:=(show ∃ t,u=Value.bytes b t from r); cases e; rfl
  | flt b=>obtain ⟨t,e⟩:=(show ∃ t,u=Value.float b t from r); cases e; rfl
  | ref a=>cases (show u=Value.ref a from r); rfl
  | ty n=>cases (show u=Value.type n from r); rfl
section
variable {P:Program} {w:World} {H H':Hp} {h h':Heap} {a C dx:Addr} {fs fs':List (Str × V)}
theorem yq (hok:HOk P w H h) (e:H a=some (.ins C dx fs)):∃ mA,zo h a dx C mA∧(∀ f,v9 (fs.lookup f) (mA f))∧PySem.Within mA (fs.map (·.1))∧fs.length≤1000∧H dx=some (.own a):=by
  obtain ⟨d,z,ne,ob,mA,n,r,q⟩:=(show gr P w H h a (.ins C dx fs) from hok a _ e)
  exact ⟨mA,⟨ob,n,ne⟩,r,q,z,d⟩
end
structure Cls (K:PySem.W.Frag) (C:Addr):Prop where
  pg:PySem.W.plainGet K C Str.empty=true
  hd:PySem.W.hasDictIn K C=true
  po:PySem.W.plainOver K C=true
  sa:PySem.W.findIn K (.ref C) "__setattr__"=some (some (.builtin "object.__setattr__"))
theorem Cls.get {K:PySem.W.Frag} {C:Addr} (c:Cls K C) (f:Str):PySem.W.plainGet K C f=true:=c.pg
noncomputable def g6 (K:PySem.W.Frag) (C:Addr) (f:Str):Prop:=PySem.W.findIn K (.ref C) f=some none
theorem g6.taker {K:PySem.W.Frag} {C:Addr} {f:Str} (n:g6 K C f):PySem.W.takerIn K C f=some none:=by
  unfold PySem.W.takerIn
  rw [show PySem.W.findIn K (.ref C) f=some none from n]
  rfl
section
variable {X:Cx} {pins:List (Addr × Obj)} {σ:St} {H:Hp} {s:Shared} {a C dx:Addr} {fs:List (Str × V)} {f:Str} {v:V} {A:Around} {E:Value→Shared→Prop}
theorem wR {b:Bool} {Q:Value→Shared→Prop} (I:Inv X pins σ H s) (e:H a=some (.ins C dx fs)) (c:Cls X.K C) (n:g6 X.K C f) (l:fs.lookup f=some v)
    (h:∀ u s',Inv X pins σ H s'→RelV v u→Q u s'):wpAny (model X.prog X.w) A (getAttr (.ref a) f b) Q E s:=by
  obtain ⟨mA,O,r,_,_,_⟩:=yq I.hok e
  obtain ⟨u,hu,ru⟩:=v9.some_of (v:=v) (o:=mA f) (by rw [← l]; exact r f)
  exact get_map I.kIn O (c.get f) c.hd n hu (yV ru) (h u _ (I.tok _) ru)
theorem xu {y:V} {u:Value} {Q:Unit→Shared→Prop} (I:Inv X pins σ H s) (e:H a=some (.ins C dx fs)) (c:Cls X.K C) (n:g6 X.K C f) (hl:fs.length < 1000) (ry:RelV y u)
    (h:∀ s',Inv X pins σ (upd H a (.ins C dx (lN f y fs))) s'→Q () s'):wpAny (model X.prog X.w) A (setAttr (.ref a) f u) Q E s:=by
  obtain ⟨mA,O,r,wi,_,ho⟩:=yq I.hok e
  have hz:(fs.map (·.1)).length≤sizeLine:=by rw [List.length_map,sizeLine_eq]; omega
  refine BH I.kIn O c.sa c.po n.taker c.hd wi hz fun h' O' sb=>h _ ?_
  have hd:∃ o,h'.get? dx=some o:=let ⟨o,_,_,e',_⟩:=O'.ns; ⟨o,e'⟩
  refine I.write (x:=a) (e:=dx) (by rw [e]; exact True.intro) (.inr ho) (fun b q hb z=>(sb.2 b hb).trans z) hd ?_
  refine ⟨by rw [bw O.ne]; exact ho,?_,O.ne,O'.obj,_,O'.ns,fun g=>?_,fun g hg=>?_⟩
  · have:=oH f y fs; omega
  · show v9 ((lN f y fs).lookup g) (if g=f then some u else mA g)
    rw [oJ]
    by_cases q:g=f
    · rw [if_pos q,if_pos q]; exact ry
    · rw [if_neg q,if_neg q]; exact r g
  · by_cases q:g=f
    · rw [q]; exact (nX f y fs).1
    · refine (nX f y fs).2 g (wi g fun z=>hg ?_)
      show (if g=f then some u else mA g)=none
      rw [if_neg q]; exact z
theorem Inv.made (I:Inv X pins σ H s):Inv X pins σ (upd (upd H s.heap.objs.size (.own (s.heap.objs.size + 1))) (s.heap.objs.size + 1) (.ins C s.heap.objs.size []))
    { s with heap:=(s.heap.push PySem.W.emptyDict).push (PySem.W.instObj C s.heap.objs.size) }:=by
  have e1:(s.heap.push PySem.W.emptyDict).get? s.heap.objs.size=some PySem.W.emptyDict:=Heap.get?_push_size s.heap rfl
  have e2:((s.heap.push PySem.W.emptyDict).push (PySem.W.instObj C s.heap.objs.size)).get? (s.heap.objs.size + 1)=some (PySem.W.instObj C s.heap.objs.size):=by
    have:=Heap.get?_push_size (s.heap.push PySem.W.emptyDict) (o:=PySem.W.instObj C s.heap.objs.size) rfl
    rwa [Heap.size_push] at this
  have e3:(s.heap.push PySem.W.emptyDict).Ns s.heap.objs.size (fun _=>none):=⟨PySem.W.emptyDict,#[],_,e1,rfl,(fun e he=>absurd he (by simp)),fun _=>rfl⟩
  have I1:=I.laid (a:=s.heap.objs.size) (o:=.own (s.heap.objs.size + 1)) (h':=s.heap.push PySem.W.emptyDict) (t':=s.toks) (fun b u q=>Heap.get?_push_of_some _ q) (Nat.le_refl _) ⟨_,e1⟩
  refine I1.laid (a:=s.heap.objs.size + 1) (o:=.ins C s.heap.objs.size []) (t':=s.toks) (fun b u q=>Heap.get?_push_of_some _ q) (Nat.le_of_eq (Heap.size_push _ _)) ?_
  have ne:s.heap.objs.size≠s.heap.objs.size + 1:=Nat.ne_of_lt (Nat.lt_succ_self _)
  refine ⟨by rw [bw ne,cp],Nat.zero_le _,ne,e2,fun _=>none,(Heap.Ns1.of_empty e3).at fun o q=>Heap.get?_push_of_some _ q,fun _=>True.intro,fun y hy=>absurd rfl hy⟩
theorem Bw {prog:Program} {w:World} {env:Env} {e:Expr} {f:Str} {pos:Pos} {s:Shared} {Q:Value→Shared→Prop} (hb:attributeBase e f env (eval e env)=eval e env)
    (h:wpAny (model prog w) A (eval e env) (fun o s₁=>wpAny (model prog w) A (getAttr o f true) Q E s₁) E s):wpAny (model prog w) A (eval (.Attribute e f pos) env) Q E s :=
  Attribute_any_ h (by rw [arm_eval_Attribute,hb])
end
noncomputable def Fv (K:PySem.W.Frag) (ta:TE) (f:Str):TE:=fun σ H Q=>ta σ H fun x H1=>∃ a C dx fs v,x=.ref a∧H1 a=some (.ins C dx fs)∧Cls K C∧g6 K C f∧fs.lookup f=some v∧Q v H1
noncomputable def FG (K:PySem.W.Frag) (ta tv:TE) (f:Str):TS:=fun D σ H=>tv σ H fun y H1=>ta σ H1 fun x H2=>∃ a C dx fs,x=.ref a∧H2 a=some (.ins C dx fs)∧Cls K C∧g6 K C f∧fs.length < 1000 ∧
  D.nx σ (upd H2 a (.ins C dx (lN f y fs)))
section
variable {X:Cx} {o e value:Expr} {f:Str} {pos pos' tpos:Pos} {ta tv:TE}
theorem C4 (he:PE X e ta) (hb:attributeBase e f X.env (eval e X.env)=eval e X.env):PE X (.Attribute e f pos) (Fv X.K ta f):=by
  intro pins s σ H Q I h
  refine Bw hb (thn (he pins s σ H _ I h) fun u s1 rz2=>?_)
  obtain ⟨x,H1,I1,rx,a,C,dx,fs,v,ex,ea,c,n,l,q⟩:=rz2
  subst ex
  obtain rfl:u=Value.ref a:=rx
  exact wR I1 ea c n l fun u' s2 I2 ru=>⟨v,H1,I2,ru,q⟩
theorem t6 (ha:PE X o ta) (hv:PE X value tv) (hs:swapsWith value (some (.Attribute o f pos')) pos.line X.env=pure false):PS X (.Assign [.Attribute o f pos'] value pos) (FG X.K ta tv f):=by
  intro pins s σ H D I h
  refine plainObj_wpAny_Assign_Attribute (thn (hv pins s σ H _ I h) fun u s1 rz2=>?_) hs
  obtain ⟨y,H1,I1,ry,q⟩:=rz2
  refine thn (ha pins s1 σ H1 _ I1 q) fun ov s2 rz2=>?_
  obtain ⟨x,H2,I2,rx,a,C,dx,fs,ex,ea,c,n,l,q2⟩:=rz2
  subst ex
  obtain rfl:ov=Value.ref a:=rx
  exact xu I2 ea c n l ry fun s3 I3=>⟨σ,_,I3,q2⟩
end
section
variable {X:Cx} {pins:List (Addr × Obj)} {σ:St} {H:Hp} {s:Shared} {A:Around} {E:Value→Shared→Prop} {Q:Value→Shared→Prop} {c:Value} {b:Bool}
inductive pZ (K:PySem.W.Frag) (H:Hp):V→Value→Prop where
  | non:pZ K H .non (.type "NoneType")
  | bl (x:Bool):pZ K H (.bl x) (.type "bool")
  | int (i:Int):pZ K H (.int i) (.type "int")
  | str (x:Str):pZ K H (.str x) (.type "str")
  | flt (x:UInt64):pZ K H (.flt x) (.type "float")
  | lst {a:Addr} {xs:List V} (e:H a=some (.lst xs)):pZ K H (.ref a) (.type "list")
  | frz {a:Addr} {o:Obj} {xs:List V} (e:H a=some (.frz o (.lst xs))):pZ K H (.ref a) (.type "list")
  | tup {a:Addr} {xs:List V} (e:H a=some (.tup xs)):pZ K H (.ref a) (.type "tuple")
  | dK {a:Addr} {kvs:List (Key × V)} (e:H a=some (.dK kvs)):pZ K H (.ref a) (.type "dict")
  | dT {a:Addr} {kvs:List (List Key × V)} (e:H a=some (.dT kvs)):pZ K H (.ref a) (.type "dict")
  | ins {a C dx:Addr} {fs:List (Str × V)} (e:H a=some (.ins C dx fs)) (cl:Cls K C) (ha:PySem.W.findIn K (.ref C) "__class__"=some (some (.builtin "object.__class__")))
      (hn:PySem.W.specialIn K (.builtin "object.__class__") "__get__"=some (some (.builtin "getset_descriptor.__get__"))) (htk:PySem.W.takesIn K (.builtin "object.__class__")=some true)
      (hm:PySem.W.mroIn K C (.type "object")=some true):pZ K H (.ref a) (.ref C)
end
end L2
namespace L2
open PySem PySem.Spec PyProof.Rows
structure fk (k:Nat) (A:Around):Prop where
  hd:A.handled=none
  dp:A.depth + 3 * k + 5 < recursionLimit
  un:A.units + 16 * k + 200 < cLine
theorem fk.mono {j k:Nat} {A:Around} (r:fk k A) (h:j≤k):fk j A:=⟨r.hd,by have:=r.dp; omega,by have:=r.un; omega⟩
theorem fk.deeper {k:Nat} {A:Around} (r:fk (k + 1) A) (env:Env):fk k (A.deeper env) :=
  ⟨r.hd,by have:=r.dp; show A.depth + 1 + 3 * k + 5 < _; omega,by have:=r.un; show A.units + 3 + 16 * k + 200 < _; omega⟩
theorem wK {A:Around} {C:Addr} {us:List Value} {kw:List (Str × Value)}:(A.under (.builtin "type.__call__" ⟨.ref C::us,kw⟩)).depth=A.depth + 1:=by
  first | rfl | simp [Around.under,Code.weight,Code.isCreation,Code.isGuard,Code.isCaller,Code.frames,Code.isFrame,guardIds]
theorem wO {A:Around} {C:Addr} {us:List Value} {kw:List (Str × Value)}:(A.under (.builtin "type.__call__" ⟨.ref C::us,kw⟩)).units=A.units + 1:=by
  first | rfl | simp [Around.under,Code.cUnits,Code.frames,Code.isFrame]
theorem fk.make {k:Nat} {A:Around} (r:fk (k + 1) A) (C:Addr) (us:List Value) (kw:List (Str × Value)):fk k (A.under (.builtin "type.__call__" ⟨.ref C::us,kw⟩)) :=
  ⟨r.hd,by have:=r.dp; rw [wK]; omega,by have:=r.un; rw [wO]; omega⟩
theorem fk.depth {k:Nat} {A:Around} (r:fk k A):A.depth < recursionLimit:=by have:=r.dp; omega
theorem fk.units {k:Nat} {A:Around} (r:fk k A):A.units + 64 < cLine:=by have:=r.un; omega
noncomputable def E7:TA:=fun _ H Q=>Q [] H
noncomputable def CU (ta:TE) (tr:TA):TA:=fun σ H Q=>ta σ H fun x H1=>tr σ H1 fun xs H2=>Q (x::xs) H2
section
variable {X:Cx} {e:Expr} {es:List Expr} {te:TE} {t:TA} {pos:Pos}
theorem iH:PA X [] E7:=fun _ _ _ _ H Q I h=>Calls.spliced_nil ⟨[],H,I,.nil,h⟩
theorem fi (ha:PE X e te) (hr:PA X es t) (hs:starEach (e::es) X.env=(false,eval e X.env)::starEach es X.env:=by rfl):PA X (e::es) (CU te t):=by
  intro pos pins s σ H Q I h
  rw [hs]
  show wpAny _ _ (spliced ((false,eval e X.env)::backTo pos (starEach es X.env))) _ _ s
  refine Calls.spliced_cons (thn (ha pins s σ H _ I h) fun u s1 rz2=>?_)
  obtain ⟨x,H1,I1,r1,q1⟩:=rz2
  exact thn (hr pos pins s1 σ H1 _ I1 q1) fun us s2 qz2=>(by obtain ⟨xs,H2,I2,r2,q2⟩:=qz2; exact ⟨x::xs,H2,I2,.cons r1 r2,q2⟩)
noncomputable def Fo (t:TA):TE:=fun σ H Q=>t σ H fun xs H1=>xs.length≤sizeLine∧∀ p,H1 p=none→Q (.ref p) (upd H1 p (.tup xs))
noncomputable def FH (t:TA):TE:=fun σ H Q=>t σ H fun xs H1=>xs.length≤sizeLine∧∀ p,H1 p=none→Q (.ref p) (upd H1 p (.lst xs))
theorem Ed {x1} (h:PA X es t):PE X (.Tuple es x1 pos) (Fo t):=by
  intro pins s σ H Q I hq
  refine wpAny_Tuple_spliced (thn (h pos pins s σ H _ I hq) fun us s1 rz2=>?_)
  obtain ⟨xs,H1,I1,r,z,q⟩:=rz2
  refine ⟨by rw [← r.length]; exact z,?_⟩
  have hf:H1 s1.heap.objs.size=none:=I1.hok.fresh (Nat.le_refl _)
  refine ⟨.ref s1.heap.objs.size,upd H1 s1.heap.objs.size (.tup xs),I1.laid (t':=s1.toks) (fun b u e=>Heap.get?_push_of_some _ e) (Nat.le_refl _) ?_,rfl,q _ hf⟩
  exact ⟨z,us,r,⟨_,Heap.get?_push_size _ rfl,rfl,rfl,_,rfl⟩⟩
theorem wQ (h:PA X es t):PE X (.List es pos) (FH t):=by
  intro pins s σ H Q I hq
  refine wpAny_List_spliced (thn (h pos pins s σ H _ I hq) fun us s1 rz2=>?_)
  obtain ⟨xs,H1,I1,r,z,q⟩:=rz2
  refine ⟨by rw [← r.length]; exact z,?_⟩
  have hf:H1 s1.heap.objs.size=none:=I1.hok.fresh (Nat.le_refl _)
  refine ⟨.ref s1.heap.objs.size,upd H1 s1.heap.objs.size (.lst xs),I1.laid (t':=s1.toks) (fun b u e=>Heap.get?_push_of_some _ e) (Nat.le_refl _) ?_,rfl,q _ hf⟩
  exact ⟨z,us,0,r,Heap.get?_push_size _ rfl⟩
end
noncomputable abbrev Sp:=List V→Hp→VK→XK→Prop
noncomputable abbrev CXT:=List Env→Hp→Shared→XK→Value→Shared→Prop
structure wc (P:Program) (w:World) (K:PySem.W.Frag) (mg:Str→Option Value) (base:Heap) (A:Around) (outer:List Env) (s:Shared) (H:Hp):Prop where
  frames:A.frames=some outer
  mod:Mod K mg base
  bs:∀ b o,base.get? b=some o→s.heap.get? b=some o∧H b=none
  bsz:base.objs.size≤s.heap.objs.size
  funs:s.heap.FunFrames base outer
  frf:∀ b∈frs outer,H b=none
  hok:HOk P w H s.heap
  bare:AllBare s.gens
  tab:∀ P q,TabOf K P q→H P=some (.tbl q)
noncomputable def CE (outer:List Env) (P:Program) (w:World) (H:Hp) (s:Shared) (Q:VK) (u:Value) (s':Shared):Prop :=
  ∃ v H',s'.os=s.os∧AllBare s'.gens∧Un (frs outer) [] H H' s.heap s'.heap∧HOk P w H' s'.heap∧RelV v u∧Q v H'
noncomputable def CR (CX:CXT) (outer:List Env) (P:Program) (w:World) (H:Hp) (s:Shared) (Q:VK) (E:XK) (r:Result) (s':Shared):Prop :=
  match r with
  | .ok (.ret u)=>CE outer P w H s Q u s'
  | .ok _=>False
  | .error e=>CX outer H s E e s'
structure kq (P:Program) (w:World) (K:PySem.W.Frag) (mg:Str→Option Value) (base:Heap) (CX:CXT) (k:Nat) (f:Addr) (fd:FuncData) (ps:List Str) (sp:Sp):Prop where
  len:∀ vs H Q E,sp vs H Q E→vs.length=ps.length
  run:∀ (A:Around) (outer:List Env) (s:Shared) (H:Hp) (args:Args) (us:List Value) (vs:List V) (Q:VK) (E:XK),fk k A→wc P w K mg base A outer s H→BindsTo s fd args (ps.zip us)→Vals vs us→sp vs H Q E →
    codeAny (model P w) A (.call (.ref f) args) (CR CX outer P w H s Q E) s
theorem wc.make {P:Program} {w:World} {K:PySem.W.Frag} {mg:Str→Option Value} {base:Heap} {A:Around} {outer:List Env} {s:Shared} {H:Hp} (e:wc P w K mg base A outer s H) (C:Addr) (us:List Value) (kw:List (Str × Value)) :
    wc P w K mg base (A.under (.builtin "type.__call__" ⟨.ref C::us,kw⟩)) outer s H:=⟨by first | exact e.frames | (simpa [Around.under,Code.envs,Code.isFrame,pushEnvs] using e.frames),e.mod,e.bs,e.bsz,e.funs,e.frf,e.hok,e.bare,e.tab⟩
section
variable {X:Cx} {pins:List (Addr × Obj)} {σ:St} {H:Hp} {s s':Shared}
theorem Inv.env0 (I:Inv X pins σ H s):wc X.prog X.w X.K X.mg X.base X.A X.stack s H :=
  ⟨I.ok.frames,I.ok.mod,I.bs,Nat.le_trans I.ok.bsz I.sz,I.stack,I.stkFree,I.hok,I.bare,I.tab⟩
theorem Inv.after {Q:VK} {u:Value} (I:Inv X pins σ H s) (h:CE X.stack X.prog X.w H s Q u s'):EP X pins σ Q u s':=by
  obtain ⟨v,H',os,bare,un,hok,r,q⟩:=h
  obtain ⟨hh,g,d,t,os'⟩:=s'
  obtain rfl:os'=s.os:=os
  exact ⟨v,H',I.call (h':=hh) (g':=g) (d':=d) (t':=t) (ch:=[]) un hok bare (fun b z=>absurd z (by simp)),r,q⟩
end
noncomputable def En (sp:Sp) (dvs:List V) (E:XK) (t:TA):TE:=fun σ H Q=>t σ H fun vs H1=>sp (vs++dvs) H1 Q E
noncomputable def Ey (C:Addr) (sp:Sp) (dvs:List V) (E:XK) (t:TA):TE:=fun σ H Q=>t σ H fun vs H1=>∀ x dx,H1 x=none→H1 dx=none→dx≠x →
  sp (.ref x::(vs++dvs)) (upd (upd H1 dx (.own x)) x (.ins C dx [])) (fun v H2=>v=.non∧Q (.ref x) H2) E
noncomputable def Binds (K:PySem.W.Frag) (fd:FuncData) (ps:List Str) (ds:List Value):Prop :=
  ∀ (s:Shared) (us:List Value),K.In s.heap→(us++ds).length=ps.length→BindsTo s fd ⟨us,[]⟩ (ps.zip (us++ds))
theorem Binds.all {K:PySem.W.Frag} {fd:FuncData} {ps:List Str} (h:∀ us:List Value,us.length=ps.length→bindArgs fd ⟨us,[]⟩=pure (ps.zip us)):Binds K fd ps []:=fun s us _ hl=>by
  rw [List.append_nil] at hl ⊢
  exact .of_eq (h us hl)
noncomputable def Passes (CX:CXT) (X:Cx) (E:XK):Prop:=∀ (pins:List (Addr × Obj)) (σ:St) (H:Hp) (s:Shared) (e:Value) (s':Shared),Inv X pins σ H s→CX X.stack H s E e s'→X.xe e s'
section
variable {X:Cx} {CX:CXT} {k:Nat} {f C:Addr} {fd:FuncData} {ps:List Str} {sp:Sp} {dvs:List V} {ds:List Value} {E:XK} {x m:Str} {p pos apos:Pos} {e o:Expr} {es:List Expr} {ta:TE} {t:TA}
theorem DH {pins:List (Addr × Obj)} {σ:St} {H:Hp} {s:Shared} {Q:VK} {us:List Value} {vs:List V} (F:kq X.prog X.w X.K X.mg X.base CX k f fd ps sp) (hr:fk k X.A) (hb:Binds X.K fd ps ds) (hd:Vals dvs ds) (hx:Passes CX X E)
    (I:Inv X pins σ H s) (r:Vals vs us) (h:sp (vs++dvs) H Q E):wpAny (model X.prog X.w) X.A (call (.ref f) us) (EP X pins σ Q) X.xe s:=by
  have r2:Vals (vs++dvs) (us++ds):=r.append hd
  have hl:(us++ds).length=ps.length:=by rw [← r2.length]; exact F.len _ _ _ _ h
  refine wpAny_call (codeAny_mono (F.run X.A X.stack s H ⟨us,[]⟩ (us++ds) (vs++dvs) Q E hr I.env0 (hb s us I.kIn hl) r2 h) fun r s' hq=>?_)
  cases r with
  | error e=>exact hx pins σ H s e s' I hq
  | ok fl =>
    cases fl with
    | ret u=>exact I.after hq
    | next=>exact False.elim hq
    | brk=>exact False.elim hq
    | cont=>exact False.elim hq
theorem xF (F:kq X.prog X.w X.K X.mg X.base CX k f fd ps sp) (hr:fk k X.A) (hg:Gl X x) (hm:X.mg x=some (.ref f)) (hk:PySem.W.keepIn X.K (.ref f)=true) (hb:Binds X.K fd ps ds) (hd:Vals dvs ds) (hx:Passes CX X E)
    (ha:PA X (e::es) t) (hdb:(x == ("__debug__":Str))=false:=by decide) (he:starEach (e::es) X.env=(false,eval e X.env)::starEach es X.env:=by rfl) (hpl:(backTo pos (starEach es X.env)).any (·.1)=false:=by rfl) :
    PE X (.Call (.Name x p) (e::es) [] pos) (En sp dvs E t):=by
  intro pins s σ H Q I h
  refine wpAny_Call_Name_kw (o8 I hg hm ?_ hdb)
  refine PySem.W.callWith_K (h₀:=X.base) I.ok.mod.kin hk (thn (ha pos pins s σ H _ I h) fun us s1 rz2=>?_) he hpl
  obtain ⟨vs,H1,I1,r,q⟩:=rz2
  refine ⟨I1.kIn,?_⟩
  exact DH F hr hb hd hx I1 r q
structure Mk (K:PySem.W.Frag) (C f:Addr):Prop where
  makes:PySem.W.makesIn K C=true
  init:PySem.W.findIn K (.ref C) "__init__"=some (some (.ref f))
  fn:PySem.W.isFn K (.ref f)=true
  kp:PySem.W.keepIn K (.ref C)=true
theorem AD {pins:List (Addr × Obj)} {σ:St} {H:Hp} {s:Shared} {Q:VK} {us:List Value} {vs:List V} (M:Mk X.K C f) (F:kq X.prog X.w X.K X.mg X.base CX k f fd ps sp) (hr:fk (k + 1) X.A) (hb:Binds X.K fd ps ds) (hd:Vals dvs ds)
    (hx:Passes CX X E) (I:Inv X pins σ H s) (r:Vals vs us)
    (h:∀ x dx,H x=none→H dx=none→dx≠x→sp (.ref x::(vs++dvs)) (upd (upd H dx (.own x)) x (.ins C dx [])) (fun v H2=>v=.non∧Q (.ref x) H2) E) :
    wpAny (model X.prog X.w) X.A (call (.ref C) us) (EP X pins σ Q) X.xe s:=by
  have hq:=h (s.heap.objs.size + 1) s.heap.objs.size (I.hok.fresh (Nat.le_succ _)) (I.hok.fresh (Nat.le_refl _)) (Nat.ne_of_lt (Nat.lt_succ_self _))
  have I2:=Inv.made (C:=C) I
  have r2:Vals (V.ref (s.heap.objs.size + 1)::(vs++dvs)) (Value.ref (s.heap.objs.size + 1)::(us++ds)):=.cons rfl (r.append hd)
  have hl:(Value.ref (s.heap.objs.size + 1)::us++ds).length=ps.length:=by
    have e:=r2.length
    rw [F.len _ _ _ _ hq] at e
    exact e.symm
  refine wpAny_call (An (f:=f) I.kIn M.makes M.init (beq_iff_eq.mp M.fn) (codeAny_mono (F.run _ X.stack _ _ ⟨Value.ref (s.heap.objs.size + 1)::us,[]⟩ (Value.ref (s.heap.objs.size + 1)::(us++ds)) _ _ E (hr.make C us [])
    (I2.env0.make C us []) (hb _ (Value.ref (s.heap.objs.size + 1)::us) I2.kIn hl) r2 hq) fun r s' hq'=>?_))
  cases r with
  | error e=>exact hx pins σ _ _ e s' I2 hq'
  | ok fl =>
    cases fl with
    | ret u =>
      obtain ⟨v,H',I3,rv,ev,q3⟩:=I2.after hq'
      subst ev
      exact ⟨rv,⟨V.ref (s.heap.objs.size + 1),H',I3,rfl,q3⟩⟩
    | next=>exact False.elim hq'
    | brk=>exact False.elim hq'
    | cont=>exact False.elim hq'
theorem Ce (M:Mk X.K C f) (F:kq X.prog X.w X.K X.mg X.base CX k f fd ps sp) (hr:fk (k + 1) X.A) (hg:Gl X x) (hm:X.mg x=some (.ref C)) (hb:Binds X.K fd ps ds) (hd:Vals dvs ds) (hx:Passes CX X E)
    (ha:PA X (e::es) t) (hdb:(x == ("__debug__":Str))=false:=by decide) (he:starEach (e::es) X.env=(false,eval e X.env)::starEach es X.env:=by rfl) (hpl:(backTo pos (starEach es X.env)).any (·.1)=false:=by rfl) :
    PE X (.Call (.Name x p) (e::es) [] pos) (Ey C sp dvs E t):=by
  intro pins s σ H Q I h
  refine wpAny_Call_Name_kw (o8 I hg hm ?_ hdb)
  refine PySem.W.callWith_K (h₀:=X.base) I.ok.mod.kin M.kp (thn (ha pos pins s σ H _ I h) fun us s1 rz2=>?_) he hpl
  obtain ⟨vs,H1,I1,r,q⟩:=rz2
  refine ⟨I1.kIn,?_⟩
  exact AD M F hr hb hd hx I1 r q
end
noncomputable def PK (X:Cx) (kws:List Keyword) (t:TA):Prop :=
  ∀ (pos:Pos) (pins:List (Addr × Obj)) (s:Shared) (σ:St) (H:Hp) (Q:List V→Hp→Prop),Inv X pins σ H s→t σ H Q→wpAny (model X.prog X.w) X.A (evalAll ((backToKw pos (keywordEach kws X.env)).map (·.2))) (AP X pins σ Q) X.xe s
section
variable {X:Cx} {CX:CXT} {k:Nat} {f C:Addr} {fd:FuncData} {ps ks:List Str} {sp:Sp} {E:XK} {x m:Str} {p pos apos kpos:Pos} {e o:Expr} {es:List Expr} {kws:List Keyword} {te ta:TE} {t tk:TA} {nm:Option Str}
theorem Dj:PK X [] E7:=fun _ _ _ _ H Q I h=>wpAny_evalAll_nil ⟨[],H,I,.nil,h⟩
theorem BD (ha:PE X e te) (hr:PK X kws t):PK X (⟨nm,e,kpos⟩::kws) (CU te t):=by
  intro pos pins s σ H Q I h
  show wpAny _ _ (evalAll ((do let v ← eval e X.env; standAt pos; pure v)::(backToKw pos (keywordEach kws X.env)).map (·.2))) _ _ s
  refine wpAny_evalAll_cons (wpAny_bind (thn (ha pins s σ H _ I h) fun u s1 rz2=>?_))
  obtain ⟨x,H1,I1,r1,q1⟩:=rz2
  refine wpAny_bind (wpAny_standAt (wpAny_pure ?_))
  exact thn (hr pos pins s1 σ H1 _ I1 q1) fun us s2 qz2=>(by obtain ⟨xs,H2,I2,r2,q2⟩:=qz2; exact ⟨x::xs,H2,I2,.cons r1 r2,q2⟩)
variable {g:List Value→List Value→List Value} {gV:List V→List V→List V}
end
structure aU (N P:List Str) (sc:Scope):Prop where
  kind:sc.kind=.function
  co:sc.isCoroutine=false
  gen:sc.isGenerator=false
  nd:N.Nodup
  pre:N.take P.length=P
  par:∀ x∈P,sc.names.lookup x=some .local∨sc.names.lookup x=some .cell
  nofree:∀ y∈sc.names,y.2≠.free
theorem rG {kindOf:Str→Option NameKind} {x:Str}:∀ {binds:List (Str × Value)} {m:Str→Option Value},(∀ v,(x,v) ∉ binds)→bindL kindOf binds m x=m x
  | [],_,_=>rfl
  | (n,v)::r,m,h=>by
    unfold bindL
    rw [rG fun w hw=>h w (List.mem_cons_of_mem _ hw)]
    split
    · have:x≠n:=by rintro rfl; exact h v List.mem_cons_self
      simp [this]
    · rfl
theorem so {kindOf:Str→Option NameKind} {x:Str}:∀ {binds:List (Str × Value)} {m:Str→Option Value},(∀ v,(x,v) ∉ binds)→bindC kindOf binds m x=m x
  | [],_,_=>rfl
  | (n,v)::r,m,h=>by
    unfold bindC
    rw [so fun w hw=>h w (List.mem_cons_of_mem _ hw)]
    split
    · rfl
    · have:x≠n:=by rintro rfl; exact h v List.mem_cons_self
      simp [this]
theorem rK {kindOf:Str→Option NameKind} {x:Str} {v:Value}:∀ {P:List Str} {vs:List Value} {i:Nat} {m:Str→Option Value},P.Nodup→P[i]?=some x→vs[i]?=some v→kindOf x=some .local →
    bindL kindOf (P.zip vs) m x=some v
  | [],_,_,_,_,h,_,_=>by simp at h
  | _::_,[],_,_,_,_,h,_=>by simp at h
  | p::P,w::vs,0,m,nd,h1,h2,hk=>by
    simp at h1 h2; subst h1; subst h2
    show bindL kindOf ((p,w)::P.zip vs) m p=_
    unfold bindL
    rw [rG fun v hv=>(List.nodup_cons.mp nd).1 (List.of_mem_zip hv).1,if_pos hk]
    simp
  | p::P,w::vs,i + 1,m,nd,h1,h2,hk=>by
    show bindL kindOf ((p,w)::P.zip vs) m x=_
    unfold bindL
    exact rK (i:=i) (List.nodup_cons.mp nd).2 (by simpa using h1) (by simpa using h2) hk
theorem rS {kindOf:Str→Option NameKind} {x:Str} {v:Value}:∀ {P:List Str} {vs:List Value} {i:Nat} {m:Str→Option Value},P.Nodup→P[i]?=some x→vs[i]?=some v→kindOf x≠some .local →
    bindC kindOf (P.zip vs) m x=some v
  | [],_,_,_,_,h,_,_=>by simp at h
  | _::_,[],_,_,_,_,h,_=>by simp at h
  | p::P,w::vs,0,m,nd,h1,h2,hk=>by
    simp at h1 h2; subst h1; subst h2
    show bindC kindOf ((p,w)::P.zip vs) m p=_
    unfold bindC
    rw [so fun v hv=>(List.nodup_cons.mp nd).1 (List.of_mem_zip hv).1,if_neg hk]
    simp
  | p::P,w::vs,i + 1,m,nd,h1,h2,hk=>by
    show bindC kindOf ((p,w)::P.zip vs) m x=_
    unfold bindC
    exact rS (i:=i) (List.nodup_cons.mp nd).2 (by simpa using h1) (by simpa using h2) hk
noncomputable def start (N:List Str) (vs:List V):St:=vs.map some++List.replicate (N.length - vs.length) none
noncomputable def jE (CX:CXT) (P:Program) (w:World) (K:PySem.W.Frag) (mg:Str→Option Value) (base:Heap) (N:List Str) (qual:Str) (scope:Scope) (f:Addr) (cd:Value) (A:Around) (outer:List Env) (s:Shared) (H:Hp) (E:XK):Cx where
  prog:=P
  w:=w
  K:=K
  mg:=mg
  base:=base
  A:=A.deeper (envOfC qual scope s.heap.objs.size f cd)
  N:=N
  s₀:=s
  H₀:=H
  env:=envOfC qual scope s.heap.objs.size f cd
  outer:=outer
  stack:=envOfC qual scope s.heap.objs.size f cd::outer
  ex:=[]
  calm:=true
  fn:=fun _=>true
  pn:=[]
  xe:=fun e s'=>wpAny (model P w) (A.deeper (envOfC qual scope s.heap.objs.size f cd)) (leaving (envOfC qual scope s.heap.objs.size f cd) e) (fun _ s''=>CX outer H s E e s'') (fun e' s''=>CX outer H s E e' s'') s'
theorem vU {sc:Scope} {n:Nat} {x:Str} (h:sc.names.lookup x=some .cell):∃ c,(cellsFrom n sc.names []).lookup x=some c:=by
  have q:=PySem.W.cellsFrom_some sc.names n [] (.inl h)
  exact Option.isSome_iff_exists.mp q
theorem yJ {CX:CXT} {P:Program} {w:World} {K:PySem.W.Frag} {mg:Str→Option Value} {base:Heap} {N ps:List Str} {qual:Str} {scope:Scope} {f:Addr} {cd:Value} {A:Around} {outer:List Env} {s s1:Shared} {H:Hp} {E:XK} {us:List Value} {vs:List V}
    (S:aU N ps scope) (hd:A.handled=none) (e0:wc P w K mg base A outer s H) (hl:vs.length=ps.length) (r:Vals vs us)
    (x:InCallC s s.heap.objs.size (bindL (envOfC qual scope s.heap.objs.size f cd).kindOf (ps.zip us) fun _=>none) (cellsFrom (s.heap.objs.size + 1) scope.names []) (bindC (envOfC qual scope s.heap.objs.size f cd).kindOf (ps.zip us) fun _=>none) s1) :
    Inv (jE CX P w K mg base N qual scope f cd A outer s H E) [] (start N vs) H s1:=by
  have hpl:ps.length≤N.length:=by have:=congrArg List.length S.pre; rw [List.length_take] at this; omega
  obtain ⟨h1,tk,rfl,hk⟩:=x.done
  have noA:∀ b:Addr,b ∉ (jE CX P w K mg base N qual scope f cd A outer s H E).ex:=fun b z=>absurd (show b∈([]:List Addr) from z) (by simp)
  refine ⟨⟨e0.mod,S.kind,rfl,rfl,Nat.le_refl _,fun y z c h1 h2=>?_,fun y hy=>?_,fun y c _ h=>?_,fun _=>hd,Around.frames_deeper e0.frames,.inr ⟨rfl,rfl⟩,fun b z=>absurd z (noA b),e0.bs,e0.bsz,fun b _ _=>noA b,fun b z=>absurd z (noA b),e0.funs,e0.frf⟩,
    rfl,e0.bare,Un.kept hk,⟨_,x.toInCall.ns,fun i y v h1 h2 h3=>?_⟩,fun y c h=>⟨_,x.cell y c h⟩,e0.hok.fresh (Nat.le_refl _),fun y c h=>?_,fun p hp=>absurd (show p∈([]:List (Addr × Obj)) from hp) (by simp),e0.hok.kept hk,?_,e0.tab⟩
  · exact name_of_addr x.apart (PySem.mem_of_lookup h1) (PySem.mem_of_lookup h2)
  · have hy:scope.names.lookup y=some .cell∨scope.names.lookup y=some .free:=hy
    rcases hy with hy | hy
    · exact vU hy
    · exact absurd rfl (S.nofree _ (PySem.mem_of_lookup hy))
  · exact Nat.le_of_lt (x.above y c (PySem.mem_of_lookup h))
  · have hi:i < vs.length:=by
      unfold start at h2
      by_cases hi:i < vs.length
      · exact hi
      · rw [List.getElem?_append_right (by simpa using hi)] at h2
        rw [List.getElem?_replicate] at h2
        split at h2 <;> cases h2
    have ha:vs[i]?=some v:=by
      unfold start at h2
      rw [List.getElem?_append_left (by simpa using hi),List.getElem?_map] at h2
      cases e:vs[i]? with
      | none=>rw [e] at h2; cases h2
      | some a=>rw [e] at h2; cases h2; rfl
    obtain ⟨u,hu,rv⟩:=r.get ha
    have hp:ps[i]?=some y:=by
      rw [← S.pre,List.getElem?_take_of_lt (by omega)]; exact h1
    have ndP:ps.Nodup:=by rw [← S.pre]; exact S.nd.sublist (List.take_sublist _ _)
    refine ⟨u,rv,?_⟩
    rcases S.par y (List.mem_of_getElem? hp) with k | k
    · exact .inl ⟨k,rK ndP hp hu k⟩
    · obtain ⟨c,e⟩:=vU (n:=s.heap.objs.size + 1) k
      refine .inr ⟨.inl k,c,e,?_⟩
      have q:=x.cell y c e
      rw [rS ndP hp hu (by show scope.names.lookup y≠_; rw [k]; decide)] at q
      exact q
  · exact e0.hok.fresh (Nat.le_of_lt (x.above y c (PySem.mem_of_lookup h)))
  · unfold start
    show _=N.length
    rw [List.length_append,List.length_map,List.length_replicate]
    omega
theorem CN {CX:CXT} {P:Program} {w:World} {K:PySem.W.Frag} {mg:Str→Option Value} {base:Heap} {k:Nat} {f:Addr} {name qual:Str} {params:Arguments} {body:List Stmt} {scope:Scope} {dV kV doc pm cdv ct oc:Value} {an od:Option Addr}
    {osl:Array (Option Value)} {N ps:List Str} {sp:Sp} (lk:K.lookup f=some ⟨oc,od,.func (PySem.W.fnOf name qual params body scope dV kV doc pm an cdv ct),osl⟩) (hcd:PySem.W.codeIn K cdv qual=true) (S:aU N ps scope)
    (len:∀ vs H Q E,sp vs H Q E→vs.length=ps.length)
    (hbody:∀ (A:Around) (outer:List Env) (s:Shared) (H:Hp) (vs:List V) (Q:VK) (E:XK),fk k (A.deeper (envOfC qual scope s.heap.objs.size f cdv))→sp vs H Q E →
      ∃ t,PSs (jE CX P w K mg base N qual scope f cdv A outer s H E) body t∧t { nx:=fun _ H'=>Q .non H',rt:=Q } (start N vs) H) :
    kq P w K mg base CX (k + 1) f (PySem.W.fnOf name qual params body scope dV kV doc pm an cdv ct) ps sp:=by
  refine ⟨len,fun A outer s H args us vs Q E hr e0 hb r hsp=>?_⟩
  have hl:=len _ _ _ _ hsp
  have KX:K.In s.heap:=e0.mod.kin.keeps fun b o e=>(e0.bs b o e).1
  have lim:s.heap.NoLimit:=e0.mod.nolimit.keeps fun b o e=>(e0.bs b o e).1
  have hkind:∀ y∈ps.zip us,scope.names.lookup y.1=some .local∨(scope.names.lookup y.1=some .cell∧((cellsFrom (s.heap.objs.size + 1) scope.names []).lookup y.1).isSome=true):=fun pz0 hy=>by
    obtain ⟨n,v⟩:=pz0
    rcases S.par n (List.of_mem_zip hy).1 with q | q
    · exact .inl q
    · exact .inr ⟨q,PySem.W.cellsFrom_some _ _ _ (.inl q)⟩
  refine codeAny_call_function hr.depth (KX _ _ lk) rfl S.co S.gen rfl (PySem.W.codeRec_of KX hcd) (hb _ _ _ _ ?_)
  refine wpAny_newFunctionEnv_cells S.kind hkind fun env he s1 x=>?_
  subst he
  refine ⟨lim.keeps x.toInCall.keep,codeAny_func ?_⟩
  obtain ⟨t,ht,hq⟩:=hbody A outer s H vs Q E (hr.deeper _) hsp
  have I:Inv (jE CX P w K mg base N qual scope f cdv A outer s H E) [] (start N vs) H s1:=yJ S hr.hd e0 hl r x
  refine wpAny_mono (ht [] s1 (start N vs) H _ I hq) (fun fl s' hs=>?_) fun e s' hs=>hs
  have fin:∀ {σ':St} {H':Hp} {v:V} {u:Value},Inv (jE CX P w K mg base N qual scope f cdv A outer s H E) [] σ' H' s'→RelV v u→Q v H'→CE outer P w H s Q u s' :=
    fun {σ' H' v u} J rv q=>⟨v,H',J.os,J.bare,J.base,J.hok,rv,q⟩
  cases fl with
  | ret u =>
    obtain ⟨v,σ',H',J,rv,q⟩:=hs
    exact fin J rv q
  | next =>
    obtain ⟨σ',H',J,q⟩:=hs
    exact fin (v:=V.non) (u:=Value.none) J rfl q
  | brk =>
    obtain ⟨_,_,_,q⟩:=hs
    exact False.elim q
  | cont =>
    obtain ⟨_,_,_,q⟩:=hs
    exact False.elim q
end L2
namespace L2
open PySem PySem.Spec PyProof.Rows
section
variable {X:Cx} {x:Str} {p pos:Pos} {e:Expr} {es:List Expr} {t:TA} {id T:String} {r:List V→Hp→VK→Prop}
noncomputable def tCB (r:List V→Hp→VK→Prop) (t:TA):TE:=fun σ H Q=>t σ H fun vs H1=>r vs H1 Q
theorem gN (hc:lT X (.builtin id) r) (hg:Gl X x) (hm:X.mg x=none) (hv:bootBuiltins x=some (.builtin id)) (ha:PA X (e::es) t) (hn:x≠"__name__":=by decide) (hdb:(x == ("__debug__":Str))=false:=by decide)
    (he:starEach (e::es) X.env=(false,eval e X.env)::starEach es X.env:=by rfl) (hpl:(backTo pos (starEach es X.env)).any (·.1)=false:=by rfl):PE X (.Call (.Name x p) (e::es) [] pos) (tCB r t):=by
  intro pins s σ H Q I h
  refine wpAny_Call_Name_kw (gU I hg hm hv ?_ hn hdb)
  exact PyProof.Rows.callWith_builtin1 (thn (ha pos pins s σ H _ I h) fun us s1 qz2=>(by obtain ⟨vs,H1,I1,r1,q1⟩:=qz2; exact hc pins s1 σ H1 vs us Q I1 r1 q1)) he hpl
theorem rY (hc:lT X (.type T) r) (hg:Gl X x) (hm:X.mg x=none) (hv:bootBuiltins x=some (.type T)) (ha:PA X (e::es) t) (hn:x≠"__name__":=by decide) (hdb:(x == ("__debug__":Str))=false:=by decide)
    (he:starEach (e::es) X.env=(false,eval e X.env)::starEach es X.env:=by rfl) (hpl:(backTo pos (starEach es X.env)).any (·.1)=false:=by rfl):PE X (.Call (.Name x p) (e::es) [] pos) (tCB r t):=by
  intro pins s σ H Q I h
  refine wpAny_Call_Name_kw (gU I hg hm hv ?_ hn hdb)
  exact PyProof.Rows.callWith_type1 (thn (ha pos pins s σ H _ I h) fun us s1 qz2=>(by obtain ⟨vs,H1,I1,r1,q1⟩:=qz2; exact hc pins s1 σ H1 vs us Q I1 r1 q1)) he hpl
end
end L2
namespace HT
open PySem PyProof.Rows
section
open PySem.SeqAt
open PySem.AutoSeq1 (wpAny_loadPart')
open PySem.MeetsSeq PySem.MeetsSeq2 PySem.MeetsSeq3
end
section
variable {prog:Program} {w:World} {A:Around} {E:Value→Shared→Prop} {s:Shared}
theorem BG {t b:Addr} {vs ws:List Value} {Q:Value→Shared→Prop} (ht:IsTup s.heap t vs.toArray) (hb:IsTup s.heap b ws.toArray) (hv:vs≠[])
    (h1:ws=[]→Q (.ref t) s) (h2:ws≠[]→Q (.ref s.heap.objs.size) { s with heap:=s.heap.push { cls:=.type "tuple",data:=.seq (vs++ws).toArray } })
    (hsz:vs.length + ws.length≤sizeLine):wpAny (model prog w) A (binaryOp .Add (.ref t) (.ref b)) Q E s:=by
  obtain ⟨⟨cls,dd,data,sl⟩,ho,hc,n,hd⟩:=id ht
  obtain ⟨⟨cls2,dd2,data2,sl2⟩,ho2,hc2,n2,hd2⟩:=id hb
  simp only at hc hd hc2 hd2
  subst hc hd hc2 hd2
  have e:vs.toArray++ws.toArray=(vs++ws).toArray:=by simp
  by_cases hw:ws=[]
  · exact concat_meets ⟨_,ho,rfl⟩ ⟨_,ho2,rfl⟩ noFill_tuple_add seq_tuple_add PySem.F.slot_tuple_add PySem.F.entry_tuple_add (PySem.F.args_tuple_add_2 _ _)
      (tuple_addW1 t b vs.toArray ws.toArray n n2 dd dd2 sl sl2 (by simpa using hv) (by simp [hw])) ⟨ho,ho2,h1 hw⟩
  · refine concat_meets ⟨_,ho,rfl⟩ ⟨_,ho2,rfl⟩ noFill_tuple_add seq_tuple_add PySem.F.slot_tuple_add PySem.F.entry_tuple_add (PySem.F.args_tuple_add_2 _ _)
      (tuple_addW2 t b vs.toArray ws.toArray n n2 dd dd2 sl sl2 (by simpa using hv) (by simpa using hw) (by rw [List.size_toArray,List.size_toArray]; exact hsz)) ⟨ho,ho2,?_⟩
    rw [e]
    exact h2 hw
noncomputable def sIx (n d:Nat):Option Int→Nat
  | none=>d
  | some v=>if v < 0 then (v + (n:Int)).toNat else min v.toNat n
theorem xJ (n d k:Nat):sIx n d (some (k:Int))=min k n:=by
  show (if (k:Int) < 0 then ((k:Int) + (n:Int)).toNat else min (k:Int).toNat n)=min k n
  rw [if_neg (by omega),Int.toNat_natCast]
theorem Dp (n d:Nat) (hd:d≤n) (o:Option Int):sIx n d o≤n:=by
  cases o with
  | none=>exact hd
  | some v =>
    show (if v < 0 then (v + (n:Int)).toNat else min v.toNat n)≤n
    by_cases hv:v < 0
    · rw [if_pos hv]; omega
    · rw [if_neg hv]; exact Nat.min_le_right _ _
theorem xR (v:Int) (n d:Nat):(if v < 0 then max (v + (n:Int)) 0 else min v (n:Int))=((sIx n d (some v):Nat):Int):=by
  show (if v < 0 then max (v + (n:Int)) 0 else min v (n:Int))=(((if v < 0 then (v + (n:Int)).toNat else min v.toNat n):Nat):Int)
  by_cases hv:v < 0
  · simp only [if_pos hv]; omega
  · simp only [if_neg hv]; omega
theorem xf (lo hi:Option Int) (n:Nat):Builtin.Slice.sliceAdjust lo hi 1 (n:Int)=(((sIx n 0 lo:Nat):Int),((sIx n n hi:Nat):Int)):=by
  have h1:¬ ((1:Int) < 0):=by omega
  unfold Builtin.Slice.sliceAdjust
  simp only [h1,if_false]
  refine Prod.ext ?_ ?_
  · cases lo with
    | none=>rfl
    | some v=>exact xR v n 0
  · cases hi with
    | none=>rfl
    | some v=>exact xR v n n
theorem xi (i j:Nat):Builtin.Slice.slicePlaces (i:Int) (j:Int) 1=j - i:=by
  unfold Builtin.Slice.slicePlaces
  have h1:(1:Int) > 0:=by omega
  simp only [h1,if_true,Int.ediv_one]
  split <;> omega
theorem p7 {v:Value} {o:Option Int} {Q:Option Int→Shared→Prop} (p:IsPart v o) (h:Q o s):wpAny (model prog w) A (Builtin.Slice.slicePartIndex v) Q E s:=by
  cases p with
  | none=>exact slicePart_none h
  | int i t=>exact slicePart_int h
theorem jz {sl:Addr} {vl vu:Value} {lo hi:Option Int} {n:Nat} {Q:Int × Int × Nat→Shared→Prop} (hs:s.heap.IsSliceOf sl vl vu .none) (pl:IsPart vl lo) (pu:IsPart vu hi)
    (h:Q (((sIx n 0 lo:Nat):Int),1,sIx n n hi - sIx n 0 lo) s):wpAny (model prog w) A (Builtin.Slice.sliceApplied (.ref sl) (pure (n:Int))) Q E s:=by
  obtain ⟨os,hos,hcs,hds⟩:=id hs
  unfold Builtin.Slice.sliceApplied Builtin.Slice.sliceFields
  refine wpAny_bind (wpAny_bind (wpAny_field hos hds (x:=vl) rfl (wpAny_bind (wpAny_field hos hds (x:=vu) rfl (wpAny_bind (wpAny_field hos hds (x:=.none) rfl (wpAny_pure ?_)))))))
  refine wpAny_bind (slicePart_none ?_)
  show wpAny _ _ (if ((1:Int) == 0)=true then _ else _) _ _ s
  rw [if_neg (by decide)]
  refine wpAny_bind (p7 pl (wpAny_bind (p7 pu (wpAny_bind (wpAny_pure ?_)))))
  show wpAny _ _ (match Builtin.Slice.sliceAdjust lo hi 1 (n:Int) with | (lo,hi)=>pure (lo,(1:Int),Builtin.Slice.slicePlaces lo hi 1)) _ _ s
  rw [xf lo hi n]
  show wpAny _ _ (pure (((sIx n 0 lo:Nat):Int),(1:Int),Builtin.Slice.slicePlaces ((sIx n 0 lo:Nat):Int) ((sIx n n hi:Nat):Int) 1)) _ _ s
  rw [xi]
  exact wpAny_pure h
theorem Bc (xs:Array Value) (i k:Nat):((List.range k).filterMap fun (m:Nat)=>xs[((i:Int) + (m:Int) * 1).toNat]?).toArray=((xs.toList.drop i).take k).toArray:=by
  have e:(fun (m:Nat)=>xs[((i:Int) + (m:Int) * 1).toNat]?)=fun m=>xs[i + m]?:=by
    funext m
    have:((i:Int) + (m:Int) * 1).toNat=i + m:=by omega
    rw [this]
  rw [e]
  have:=pick_run xs i k
  rw [List.filterMap_map] at this
  have e2:((fun x=>xs[x]?) ∘ fun x=>i + x)=fun m=>xs[i + m]?:=rfl
  rw [e2] at this
  rw [this]
theorem mX {t sl:Addr} {items:Array Value} {vl vu:Value} {lo hi:Option Int} {Q:Value→Shared→Prop} (ht:IsTup s.heap t items) (hs:s.heap.IsSliceOf sl vl vu .none) (pl:IsPart vl lo) (pu:IsPart vu hi)
    (hw:¬ (sIx items.size 0 lo=0∧sIx items.size items.size hi=items.size))
    (h:Q (.ref s.heap.objs.size) { s with heap:=s.heap.push { cls:=.type "tuple",data:=.seq ((items.toList.drop (sIx items.size 0 lo)).take (sIx items.size items.size hi - sIx items.size 0 lo)).toArray } })
    (hsz:items.size≤sizeLine):wpAny (model prog w) A (getItem (.ref t) (.ref sl)) Q E s:=by
  have htake:sizeOk (.seq ((items.toList.drop (sIx items.size 0 lo)).take (sIx items.size items.size hi - sIx items.size 0 lo)).toArray):=by
    show ((items.toList.drop (sIx items.size 0 lo)).take (sIx items.size items.size hi - sIx items.size 0 lo)).toArray.size≤sizeLine
    rw [List.size_toArray,List.length_take,List.length_drop,Array.length_toList]
    omega
  have hj:sIx items.size items.size hi≤items.size:=Dp _ _ (Nat.le_refl _) hi
  obtain ⟨os,hos,hcs,hds⟩:=id hs
  have hTs:s.TypeIs (.ref sl) "slice":=⟨os,hos,hcs⟩
  unfold getItem
  try with_reducible refine wpAny_holding ?_
  first | refine wpAny_bind (wpAny_pure ?_) | skip
  refine wpAny_bind (wpAny_sequenceKey ht.typeIs (by decide) ?_)
  refine wpAny_bind (wpAny_callSpecial?_slot (name:=Str.ofString "__getitem__") ht.typeIs PyProof.Rows.slot_tuple_getitem
    (wpAny_call_entry PyProof.Rows.slot_tuple_getitem ht.typeIs entry_tuple_getitem ?_ (args_tuple_getitem _ _)))
  show wpAny _ _ (Builtin.Tuple.tupleItemsOf (.ref t) >>= _) _ _ s
  refine wpAny_bind (tupleItemsOf_ ht ?_)
  refine wpAny_bind (wpAny_typeOf hTs ?_)
  rw [if_pos (by decide)]
  refine wpAny_bind (jz hs pl pu ?_)
  have hno:¬ ((((sIx items.size 0 lo:Nat):Int) == 0 && (1:Int) == 1 && (sIx items.size items.size hi - sIx items.size 0 lo) == items.size)=true):=by
    intro q
    rw [Bool.and_eq_true,Bool.and_eq_true] at q
    have q1:((sIx items.size 0 lo:Nat):Int)=0:=eq_of_beq q.1.1
    have q2:sIx items.size items.size hi - sIx items.size 0 lo=items.size:=eq_of_beq q.2
    exact hw ⟨by omega,by omega⟩
  show wpAny _ _ (if (((sIx items.size 0 lo:Nat):Int) == 0 && (1:Int) == 1 && (sIx items.size items.size hi - sIx items.size 0 lo) == items.size)=true then _ else _) _ _ s
  rw [if_neg hno,Bc]
  first
    | exact wpAny_bind (m:=Builtin.Tuple.tupleExact _) (wpAny_newObj_type (wpAny_pure ⟨_,rfl,wpAny_pure h⟩) htake)
    | exact wpAny_bind (m:=Builtin.Tuple.tupleExact _) (wpAny_newObj_type (wpAny_bind (wpAny_pure (wpAny_pure ⟨_,rfl,wpAny_pure h⟩))) htake)
    | exact wpAny_bind (wpAny_bind (m:=Builtin.Tuple.tupleExact _) (wpAny_newObj_type (wpAny_pure (wpAny_pure ⟨_,rfl,wpAny_pure h⟩)) htake))
    | exact wpAny_bind (wpAny_bind (m:=Builtin.Tuple.tupleExact _) (wpAny_newObj_type (wpAny_pure ⟨_,rfl,wpAny_pure h⟩) htake))
end
end HT
namespace L2
open PySem PySem.Spec PyProof.Rows
noncomputable abbrev TO:=St→Hp→(Option Int→Hp→Prop)→Prop
noncomputable def PO (X:Cx) (e:Option Expr) (t:TO):Prop :=
  ∀ (pins:List (Addr × Obj)) (s:Shared) (σ:St) (H:Hp) (Q:Option Int→Hp→Prop),Inv X pins σ H s→t σ H Q →
    wpAny (model X.prog X.w) X.A (evalPart e X.env) (fun u s'=>∃ o H',Inv X pins σ H' s'∧IsPart u o∧Q o H') X.xe s
noncomputable def Cf:TO:=fun _ H Q=>Q none H
noncomputable def EJ (t:TE):TO:=fun σ H Q=>t σ H fun x H1=>∃ i,x=.int i∧Q (some i) H1
theorem intsAre_of {ns:List Int}:∀ {us:List Value},Vals (ns.map V.int) us→IntsAre us ns:=by
  induction ns with
  | nil=>intro us r; rw [List.map_nil] at r; cases r; exact .nil
  | cons n ns ih =>
    intro us r
    rw [List.map_cons] at r
    cases r with
    | cons r1 r2 =>
      obtain ⟨t,e⟩:=r1
      subst e
      exact .cons n t (ih r2)
section
variable {X:Cx} {e:Expr} {te:TE} {lo hi:Option Expr} {tl th:TO} {pos p2:Pos}
theorem B1:PO X none Cf:=by
  intro pins s σ H Q I h
  rw [evalPart_none]
  exact wpAny_pure ⟨none,H,I,.none,h⟩
theorem B5 (h:PE X e te):PO X (some e) (EJ te):=by
  intro pins s σ H Q I hw
  rw [evalPart_some]
  refine thn (h pins s σ H _ I hw) fun u s1 rz2=>?_
  obtain ⟨x,H1,I1,r1,q1⟩:=rz2
  obtain ⟨i,rfl,q⟩:=q1
  obtain ⟨t,rfl⟩:=r1
  exact ⟨some i,H1,I1,.int i t,q⟩
noncomputable def SlR (X:Cx) (r:V→Option Int→Option Int→Hp→VK→Prop):Prop :=
  ∀ (pins:List (Addr × Obj)) (s:Shared) (σ:St) (H:Hp) (x:V) (v vl vu:Value) (lo hi:Option Int) (sl:Addr) (Q:VK),Inv X pins σ H s→RelV x v→s.heap.IsSliceOf sl vl vu .none→IsPart vl lo→IsPart vu hi→r x lo hi H Q →
    ∃ T id,typeLookup (.type T) "__getitem__"=pure (some (.builtin id))∧s.TypeIs v T∧wpAny (model X.prog X.w) X.A (getItem v (.ref sl)) (EP X pins σ Q) X.xe s
theorem SlR.or {r r':V→Option Int→Option Int→Hp→VK→Prop} (h:SlR X r) (h':SlR X r'):SlR X (fun x lo hi H Q=>r x lo hi H Q∨r' x lo hi H Q):=by
  intro pins s σ H x v vl vu lo hi sl Q I rx hs pl pu q
  rcases q with q | q
  · exact h pins s σ H x v vl vu lo hi sl Q I rx hs pl pu q
  · exact h' pins s σ H x v vl vu lo hi sl Q I rx hs pl pu q
noncomputable def tSl (r:V→Option Int→Option Int→Hp→VK→Prop) (te:TE) (tl th:TO):TE:=fun σ H Q=>te σ H fun x H1=>tl σ H1 fun l H2=>th σ H2 fun u H3=>r x l u H3 Q
theorem AY {r:V→Option Int→Option Int→Hp→VK→Prop} (hr:SlR X r) (he:PE X e te) (hl:PO X lo tl) (hu:PO X hi th):PE X (.Subscript e (.Slice lo hi none p2) pos) (tSl r te tl th):=by
  intro pins s σ H Q I h
  refine Subscript_ (thn (he pins s σ H _ I h) fun v s1 rz2=>?_)
  obtain ⟨x,H1,I1,r1,q1⟩:=rz2
  refine wpAny_Slice (thn (hl pins s1 σ H1 _ I1 q1) fun vl s2 rz2=>?_)
  obtain ⟨l,H2,I2,pl,q2⟩:=rz2
  refine thn (hu pins s2 σ H2 _ I2 q2) fun vu s3 rz2=>?_
  obtain ⟨u,H3,I3,pu,q3⟩:=rz2
  rw [evalPart_none]
  refine wpAny_pure ?_
  have I4:Inv X pins σ H3 { s3 with heap:=s3.heap.push { cls:=.type "slice",data:=.fields #[vl,vu,.none] } }:=I3.kept (t':=s3.toks) fun b ob q=>Heap.get?_push_of_some _ q
  obtain ⟨T,id,hT,ht,hg⟩:=hr pins { s3 with heap:=s3.heap.push { cls:=.type "slice",data:=.fields #[vl,vu,.none] } } σ H3 x v vl vu l u s3.heap.objs.size Q I4 r1 (Heap.IsSliceOf.new ..) pl pu q3
  show wpAny (model X.prog X.w) X.A (subscriptTail e (.Slice lo hi none p2) v (.ref s3.heap.objs.size)) (EP X pins σ Q) X.xe { s3 with heap:=s3.heap.push { cls:=.type "slice",data:=.fields #[vl,vu,.none] } }
  exact tail_any (ops:=[.ref s3.heap.objs.size,v]) ht hT hg (by with_unfolding_all rfl)
noncomputable def vJ (xs:List V) (lo hi:Option Int):List V:=(xs.drop (HT.sIx xs.length 0 lo)).take (HT.sIx xs.length xs.length hi - HT.sIx xs.length 0 lo)
theorem oM (xs:List V) (lo hi:Option Int):(vJ xs lo hi).length≤xs.length:=by
  unfold vJ
  rw [List.length_take,List.length_drop]
  omega
noncomputable def FP (K:PySem.W.Frag):V→Option Int→Option Int→Hp→VK→Prop:=fun x lo hi H Q=>∃ a xs,x=.ref a∧SqT K H a xs ∧
  ¬ (HT.sIx xs.length 0 lo=0∧HT.sIx xs.length xs.length hi=xs.length)∧∀ p,H p=none→Q (.ref p) (upd H p (.tup (vJ xs lo hi)))
theorem C5:SlR X (FP X.K):=by
  intro pins s σ H x v vl vu lo hi sl Q I rx hs pl pu h
  obtain ⟨a,xs,rfl,hx,hw,q⟩:=h
  cases rx
  obtain ⟨its,r,ht,hz⟩:=I.tuple hx
  have hlen:its.toArray.size=xs.length:=by rw [List.size_toArray]; exact r.length.symm
  refine ⟨"tuple",_,PyProof.Rows.slot_tuple_getitem.lookup,ht.typeIs,?_⟩
  refine HT.mX ht hs pl pu (by rw [hlen]; exact hw) ?_ (by rw [hlen]; exact hz)
  rw [hlen]
  refine ⟨.ref s.heap.objs.size,_,I.laid (t':=s.toks) (o:=.tup (vJ xs lo hi)) (fun b ob q=>Heap.get?_push_of_some _ q) (Nat.le_refl _) ?_,rfl,q _ (I.hok.fresh (Nat.le_refl _))⟩
  exact ⟨Nat.le_trans (oM xs lo hi) hz,_,(r.drop (HT.sIx xs.length 0 lo)).take (HT.sIx xs.length xs.length hi - HT.sIx xs.length 0 lo),sF.new _ _⟩
noncomputable def E6 (K:PySem.W.Frag):R2:=fun x y H Q=>∃ a b xs ys,x=.ref a∧y=.ref b∧SqT K H a xs∧SqT K H b ys∧xs≠[]∧xs.length + ys.length≤sizeLine ∧
  (ys=[]→Q (.ref a) H)∧(ys≠[]→∀ p,H p=none→Q (.ref p) (upd H p (.tup (xs++ys))))
theorem Vals.nil_iff {xs:List V} {us:List Value} (r:Vals xs us):us=[]↔xs=[]:=by
  cases r with
  | nil=>simp
  | cons _ _=>simp
theorem Cw:OpR X (binaryOp .Add) (E6 X.K):=by
  intro pins s σ H x y v u Q I rx ry h
  obtain ⟨a,b,xs,ys,rfl,rfl,ha,hb,hx,hz,q1,q2⟩:=h
  cases rx
  cases ry
  obtain ⟨its,r1,p1,_⟩:=I.tuple ha
  obtain ⟨its2,r2,p2,_⟩:=I.tuple hb
  refine HT.BG p1 p2 (fun z=>hx (r1.nil_iff.mp z)) (fun z=>⟨.ref a,H,I,rfl,q1 (r2.nil_iff.mp z)⟩) (fun z=>?_) (by rw [← r1.length,← r2.length]; exact hz)
  refine ⟨.ref s.heap.objs.size,_,I.laid (t':=s.toks) (o:=.tup (xs++ys)) (fun b ob q=>Heap.get?_push_of_some _ q) (Nat.le_refl _) ?_,rfl,q2 (fun w=>z (r2.nil_iff.mpr w)) _ (I.hok.fresh (Nat.le_refl _))⟩
  exact ⟨by rw [List.length_append]; exact hz,_,r1.append r2,sF.new _ _⟩
end
end L2
namespace L2
open PySem PySem.Spec PyProof.Rows
noncomputable def ixN (n:Nat) (i:Int):Option Nat:=if 0≤i then (if i < n then some i.toNat else none) else if -(n:Int)≤i then some (i + n).toNat else none
noncomputable def atI {α:Type} (xs:List α) (i:Int):Option α:=(ixN xs.length i).bind fun j=>xs[j]?
theorem t9 {n:Nat} {i:Int} {j:Nat} (h:ixN n i=some j):seqIndex? i n=some j∧j < n∧-(n:Int)≤i∧i < n:=by
  unfold ixN at h
  by_cases h0:0≤i
  · rw [if_pos h0] at h
    by_cases h1:i < n
    · rw [if_pos h1] at h
      have e:i.toNat=j:=Option.some.inj h
      exact ⟨by rw [seqIndex_of h0 h1,e],by omega,by omega,h1⟩
    · rw [if_neg h1] at h; cases h
  · rw [if_neg h0] at h
    by_cases h1:-(n:Int)≤i
    · rw [if_pos h1] at h
      have e:(i + n).toNat=j:=Option.some.inj h
      exact ⟨by rw [seqIndex_neg (by omega) h1,e],by omega,h1,by omega⟩
    · rw [if_neg h1] at h; cases h
theorem xQ {α:Type} {xs:List α} {i:Int} {v:α} (h:atI xs i=some v):∃ j,seqIndex? i xs.length=some j∧xs[j]?=some v∧j < xs.length∧-(xs.length:Int)≤i∧i < xs.length:=by
  unfold atI at h
  cases e:ixN xs.length i with
  | none=>rw [e] at h; cases h
  | some j =>
    rw [e] at h
    obtain ⟨h1,h2,h3,h4⟩:=t9 e
    exact ⟨j,h1,h,h2,h3,h4⟩
theorem Bz {α:Type} {xs:List α} {j:Nat} {v:α} (h:xs[j]?=some v):atI xs (j:Int)=some v:=by
  have hj:j < xs.length:=(List.getElem?_eq_some_iff.mp h).1
  have e:ixN xs.length (j:Int)=some j:=by
    unfold ixN
    rw [if_pos (by omega),if_pos (by omega)]; simp
  unfold atI; rw [e]; exact h
noncomputable def ya (b:Expr):Prop:=∀ o i,subscripted b false o i=operate [o,i] (getItem o i)
noncomputable def IxR (X:Cx) (r:R2):Prop :=
  ∀ (value slice:Expr) (pins:List (Addr × Obj)) (s:Shared) (σ:St) (H:Hp) (x y:V) (v u:Value) (Q:VK),Inv X pins σ H s→RelV x v→RelV y u→r x y H Q →
    subscripted slice false v u=operate [v,u] (getItem v u)→wpAny (model X.prog X.w) X.A (subscriptTail value slice v u) (EP X pins σ Q) X.xe s
noncomputable def MtR (X:Cx) (id:String) (r:V→List V→Hp→VK→Prop):Prop :=
  ∀ (pins:List (Addr × Obj)) (s:Shared) (σ:St) (H:Hp) (x:V) (xs:List V) (v:Value) (us:List Value) (Q:VK),Inv X pins σ H s→RelV x v→Vals xs us→r x xs H Q →
    wpAny (model X.prog X.w) X.A (call (.builtin id) (v::us)) (EP X pins σ Q) X.xe s
section
variable {X:Cx} {a b:Expr} {ta tb:TE} {pos:Pos}
theorem IxR.or {r r':R2} (h:IxR X r) (h':IxR X r'):IxR X (fun x y H Q=>r x y H Q∨r' x y H Q):=by
  intro value slice pins s σ H x y v u Q I rx ry q hs
  rcases q with q | q
  · exact h value slice pins s σ H x y v u Q I rx ry q hs
  · exact h' value slice pins s σ H x y v u Q I rx ry q hs
theorem Ac {r:R2} (hr:IxR X r) (ha:PE X a ta) (hb:PE X b tb) (hs:ya b):PE X (.Subscript a b pos) (tOp r ta tb):=by
  intro pins s σ H Q I h
  exact Subscript_ (DB ha hb I h fun v u s2 x y H2 I2 rx ry q=>hr a b pins s2 σ H2 x y v u Q I2 rx ry q (hs _ _))
noncomputable def Et (K:PySem.W.Frag):R2:=fun x y H Q=>∃ p xs i v,x=.ref p∧y=.int i∧SqL K H p xs∧atI xs i=some v∧Q v H
noncomputable def Es (K:PySem.W.Frag):R2:=fun x y H Q=>∃ p xs i v,x=.ref p∧y=.int i∧SqT K H p xs∧atI xs i=some v∧Q v H
theorem sI:IxR X (Et X.K):=by
  intro value slice pins s σ H x y v u Q I rx ry h hs
  obtain ⟨p,xs,i,z,rfl,rfl,hq,he,q⟩:=h
  cases rx
  obtain ⟨t,rfl⟩:=ry
  obtain ⟨its,r,pl,hz⟩:=I.list hq
  obtain ⟨j,h1,h2,h3,h4,h5⟩:=xQ he
  obtain ⟨w,ew,rw'⟩:=r.get h2
  have hl:=r.length
  have hn:=t7
  have fin:EP X pins σ Q w s:=⟨z,H,I,rw',q⟩
  by_cases h0:0≤i
  · have hj:i.toNat=j:=by
      rw [seqIndex_of h0 h5] at h1
      exact Option.some.inj h1
    exact item_listR pl.isList h0 (by omega) (by rw [hj]; simpa using ew) fin hs
  · have hj:(i + (its.toArray.size:Int)).toNat=j:=by
      rw [seqIndex_neg (by omega) h4] at h1
      rw [List.size_toArray,← hl]
      exact Option.some.inj h1
    exact subscriptTail_builtinR (x:=w) pl.isList.typeIs slot_list_getitem.lookup
      (wpAny_getItem_list_neg (Q:=fun r s'=>r=w∧EP X pins σ Q r s') pl.isList (by omega) (by rw [List.size_toArray] <;> omega) (by omega) (by rw [hj]; simpa using ew) ⟨rfl,fin⟩) hs
theorem DY:IxR X (Es X.K):=by
  intro value slice pins s σ H x y v u Q I rx ry h hs
  obtain ⟨p,xs,i,z,rfl,rfl,hq,he,q⟩:=h
  cases rx
  obtain ⟨t,rfl⟩:=ry
  obtain ⟨its,r,pl,hz⟩:=I.tuple hq
  obtain ⟨j,h1,h2,h3,h4,h5⟩:=xQ he
  obtain ⟨w,ew,rw'⟩:=r.get h2
  have hl:=r.length
  have hn:=t7
  have fin:EP X pins σ Q w s:=⟨z,H,I,rw',q⟩
  exact subscriptTail_builtinR (x:=w) pl.typeIs slot_tuple_getitem.lookup
    (getItem_tuple (j:=j) (Q:=fun r s'=>r=w∧EP X pins σ Q r s') pl (by omega) (by omega) (by rw [List.size_toArray,← hl]; exact h1) (by simpa using ew) ⟨rfl,fin⟩) hs
theorem wI (its:List Value) (n j:Nat) (u:Value):Obj.mapSeq (·.setIfInBounds j u) { cls:=.type "list",data:=.seq its.toArray n }={ cls:=.type "list",data:=.seq (its.set j u).toArray n }:=by
  simp [Obj.mapSeq]
theorem Inv.lst {pins:List (Addr × Obj)} {σ:St} {H:Hp} {s:Shared} {p:Addr} {xs:List V} (I:Inv X pins σ H s) (h:H p=some (.lst xs)) :
    ∃ (its:List Value) (n:Nat),Vals xs its∧s.heap.get? p=some { cls:=.type "list",data:=.seq its.toArray n }∧xs.length≤sizeLine:=by
  obtain ⟨z,its,n,r,e⟩:=I.hok p _ h
  exact ⟨its,n,r,e,z⟩
theorem Inv.lstUpd {pins:List (Addr × Obj)} {σ:St} {H:Hp} {s:Shared} {p:Addr} {xs ys:List V} {its its':List Value} {n n':Nat} {f:Obj→Obj} (I:Inv X pins σ H s) (h:H p=some (.lst xs))
    (ho:s.heap.get? p=some { cls:=.type "list",data:=.seq its.toArray n }) (hf:f { cls:=.type "list",data:=.seq its.toArray n }={ cls:=.type "list",data:=.seq its'.toArray n' }) (r:Vals ys its') (hz:ys.length≤sizeLine) (t:Nat) :
    Inv X pins σ (upd H p (.lst ys)) { s with heap:=s.heap.update p f,toks:=t }:=by
  have e:(s.heap.update p f).get? p=some { cls:=.type "list",data:=.seq its'.toArray n' }:=by
    rw [Heap.get?_update_self f ho (by rw [hf] <;> rfl),hf]
  refine I.write (x:=p) (e:=p) (by rw [h]; trivial) (.inl rfl) (fun b u hb q=>(Heap.get?_update_other _ _ (Ne.symm hb)).trans q) ⟨_,e⟩ ?_
  exact ⟨hz,its',n',r,e⟩
noncomputable def EH:V→V→V→Hp→(Hp→Prop)→Prop:=fun o i v H Q=>∃ p xs k j,o=.ref p∧i=.int k∧H p=some (.lst xs)∧ixN xs.length k=some j∧Q (upd H p (.lst (xs.set j v)))
theorem set_list:ET X EH:=by
  intro pins s σ H o i v ov iv u Q I ro ri rv h
  obtain ⟨p,xs,k,j,rfl,rfl,hp,hj,q⟩:=h
  cases ro
  obtain ⟨t,rfl⟩:=ri
  obtain ⟨its,n,r,ho,hz⟩:=I.lst hp
  obtain ⟨h1,h2,h3,h4⟩:=t9 hj
  have hl:=r.length
  have hn:=t7
  have I':Inv X pins σ (upd H p (.lst (xs.set j v))) { s with heap:=s.heap.update p (Obj.mapSeq (·.setIfInBounds j u)) } :=
    I.lstUpd hp ho (wI its n j u) (r.set rv j) (by rw [List.length_set]; exact hz) s.toks
  by_cases h0:0≤k
  · have hk:k.toNat=j:=by
      rw [seqIndex_of h0 h4] at h1
      exact Option.some.inj h1
    exact PySem.W.ki_setAt ho h0 (by omega) (by rw [List.size_toArray,← hl]; exact h4) (by rw [hk]; exact ⟨_,I',q⟩)
  · have hk:(k + (its.toArray.size:Int)).toNat=j:=by
      rw [seqIndex_neg (by omega) h3] at h1
      rw [List.size_toArray,← hl]
      exact Option.some.inj h1
    exact PySem.W.ki_setBack ho (by omega) (by rw [List.size_toArray,← hl]; exact h3) (by omega) (by rw [hk]; exact ⟨_,I',q⟩)
theorem uj (lo hi:Option Int) (n:Nat):(sliceBounds lo hi none n).1=((HT.sIx n 0 lo:Nat):Int)∧(sliceBounds lo hi none n).2.1=((HT.sIx n n hi:Nat):Int)∧(sliceBounds lo hi none n).2.2=1:=by
  refine ⟨?_,?_,rfl⟩
  · cases lo with
    | none=>simp [sliceBounds,HT.sIx]
    | some i =>
      simp only [sliceBounds,HT.sIx,Option.getD_none,show (1:Int) > 0 by decide,if_true]
      by_cases h:i < 0
      · simp only [h,if_true] <;> omega
      · simp only [h,if_false] <;> omega
  · cases hi with
    | none=>simp [sliceBounds,HT.sIx]
    | some i =>
      simp only [sliceBounds,HT.sIx,Option.getD_none,show (1:Int) > 0 by decide,if_true]
      by_cases h:i < 0
      · simp only [h,if_true] <;> omega
      · simp only [h,if_false] <;> omega
theorem q9 (its:List Value) (lo hi:Option Int):slicePick its.toArray lo hi none=((its.drop (HT.sIx its.length 0 lo)).take (HT.sIx its.length its.length hi - HT.sIx its.length 0 lo)).toArray:=by
  obtain ⟨h1,h2,h3⟩:=uj lo hi its.toArray.size
  unfold slicePick
  rw [h1,h2,h3]
  simp only [sliceRange_one,pick_run,List.size_toArray] <;> rfl
noncomputable def Fx (K:PySem.W.Frag):V→Option Int→Option Int→Hp→VK→Prop:=fun x lo hi H Q=>∃ a xs,x=.ref a∧SqL K H a xs∧∀ p,H p=none→Q (.ref p) (upd H p (.lst (vJ xs lo hi)))
theorem Cc:SlR X (Fx X.K):=by
  intro pins s σ H x v vl vu lo hi sl Q I rx hs pl pu h
  obtain ⟨a,xs,rfl,hx,q⟩:=h
  cases rx
  obtain ⟨its,r,ht,hz⟩:=I.list hx
  have hlen:=r.length
  refine ⟨"list",_,slot_list_getitem.lookup,ht.isList.typeIs,?_⟩
  refine wpAny_getItem_list_slice ht.isList hs pl pu .none (by simp) ?_ (by rw [List.size_toArray] <;> omega)
  rw [q9,← hlen]
  refine ⟨.ref s.heap.objs.size,_,I.laid (t':=s.toks) (o:=.lst (vJ xs lo hi)) (fun b ob q=>Heap.get?_push_of_some _ q) (Nat.le_refl _) ?_,rfl,q _ (I.hok.fresh (Nat.le_refl _))⟩
  exact ⟨Nat.le_trans (oM xs lo hi) hz,_,0,(r.drop (HT.sIx xs.length 0 lo)).take (HT.sIx xs.length xs.length hi - HT.sIx xs.length 0 lo),Heap.get?_push_size _ rfl⟩
noncomputable def kz:V→Bool
  | .non=>true
  | .bl _=>true
  | .int _=>true
  | .str _=>true
  | _=>false
noncomputable def eqV:V→V→Bool
  | .non,.non=>true
  | .bl a,.bl b=>a == b
  | .bl a,.int b=>(if a then 1 else 0) == b
  | .int a,.bl b=>a == (if b then 1 else 0)
  | .int a,.int b=>a == b
  | .str a,.str b=>a == b
  | _,_=>false
theorem DL {A:Around} {s:Shared} {y x:V} {u v:Value} (ry:RelV y u) (rx:RelV x v) (fy:kz y=true) (fx:kz x=true):SeqAt.EqAt A s u v (eqV y x):=by
  cases y with
  | non =>
    cases ry
    cases x with
    | non=>cases rx; exact SeqAt.EqAt.same _
    | bl b=>cases rx; exact SeqAt.EqAt.none_bool b
    | int b=>obtain ⟨t,rfl⟩:=rx; exact SeqAt.EqAt.none_int b t
    | str b=>obtain ⟨t,rfl⟩:=rx; exact SeqAt.EqAt.none_str b t
    | _=>exact absurd (show false=true from fx) Bool.false_ne_true
  | bl a =>
    cases ry
    cases x with
    | non=>cases rx; exact SeqAt.EqAt.bool_none a
    | bl b=>cases rx; exact SeqAt.EqAt.bool_bool a b
    | int b=>obtain ⟨t,rfl⟩:=rx; exact SeqAt.EqAt.bool_int a b t
    | str b=>obtain ⟨t,rfl⟩:=rx; exact SeqAt.EqAt.bool_str a b t
    | _=>exact absurd (show false=true from fx) Bool.false_ne_true
  | int a =>
    obtain ⟨t',rfl⟩:=ry
    cases x with
    | non=>cases rx; exact SeqAt.EqAt.int_none a t'
    | bl b=>cases rx; exact SeqAt.EqAt.int_bool a t' b
    | int b=>obtain ⟨t,rfl⟩:=rx; exact SeqAt.EqAt.int_int a t' b t
    | str b=>obtain ⟨t,rfl⟩:=rx; exact SeqAt.EqAt.int_str a t' b t
    | _=>exact absurd (show false=true from fx) Bool.false_ne_true
  | str a =>
    obtain ⟨t',rfl⟩:=ry
    cases x with
    | non=>cases rx; exact SeqAt.EqAt.str_none a t'
    | bl b=>cases rx; exact SeqAt.EqAt.str_bool a t' b
    | int b=>obtain ⟨t,rfl⟩:=rx; exact SeqAt.EqAt.str_int a t' b t
    | str b=>obtain ⟨t,rfl⟩:=rx; exact SeqAt.EqAt.str_str a t' b t
    | _=>exact absurd (show false=true from fx) Bool.false_ne_true
  | _=>exact absurd (show false=true from fy) Bool.false_ne_true
noncomputable def eqU (x:V) (u:Value):Bool:=match u with
  | .none=>eqV .non x
  | .bool b=>eqV (.bl b) x
  | .int i _=>eqV (.int i) x
  | .str z _=>eqV (.str z) x
  | _=>false
theorem wF {x y:V} {u:Value} (r:RelV y u) (f:kz y=true):eqU x u=eqV y x:=by
  cases y with
  | non=>cases r; rfl
  | bl b=>cases r; rfl
  | int i=>obtain ⟨t,rfl⟩:=r; rfl
  | str z=>obtain ⟨t,rfl⟩:=r; rfl
  | _=>exact absurd (show false=true from f) Bool.false_ne_true
theorem nE {x:V}:∀ {xs:List V} {us:List Value},Vals xs us→xs.all kz=true→us.any (eqU x)=xs.any fun y=>eqV y x
  | _,_,.nil,_=>rfl
  | y::xs,u::us,.cons r t,f=>by
    rw [List.all_cons,Bool.and_eq_true] at f
    rw [List.any_cons,List.any_cons,wF r f.1,nE t f.2]
theorem jD {A:Around} {s:Shared} {x:V} {v:Value} (rx:RelV x v) (fx:kz x=true):∀ {xs:List V} {us:List Value},Vals xs us→xs.all kz=true→∀ u∈us,SeqAt.EqAt A s u v (eqU x u)
  | _,_,.nil,_=>fun u hu=>by cases hu
  | y::xs,u::us,.cons r t,f=>fun u' hu=>by
    rw [List.all_cons,Bool.and_eq_true] at f
    rcases List.mem_cons.mp hu with rfl | hu
    · rw [wF r f.1]; exact DL r rx f.1 fx
    · exact jD rx fx t f.2 u' hu
noncomputable def inV (x:V) (xs:List V):Bool:=xs.any fun y=>eqV y x
noncomputable def rIn (K:PySem.W.Frag) (neg:Bool):R2:=fun x y H Q=>∃ p xs,y=.ref p∧(SqL K H p xs∨SqT K H p xs)∧kz x=true∧xs.all kz=true∧Q (.bl (if neg then !inV x xs else inV x xs)) H
theorem zy:OpR X (compareOp .In) (rIn X.K false):=by
  intro pins s σ H x y v u Q I rx ry h
  obtain ⟨p,xs,rfl,hq,fx,fs,q⟩:=h
  cases ry
  rcases hq with hq | hq
  · obtain ⟨its,r,pl,hz⟩:=I.list hq
    refine SeqAt.in_listAt (eqU x) pl.isList (fun w hw=>jD rx fx r fs w (by simpa using hw)) ⟨.bl _,H,I,rfl,?_⟩
    rw [show its.toArray.any (eqU x)=its.any (eqU x) by simp,nE r fs]
    exact q
  · obtain ⟨its,r,pl,hz⟩:=I.tuple hq
    refine SeqAt.in_tupleAt (eqU x) pl (fun w hw=>jD rx fx r fs w (by simpa using hw)) ⟨.bl _,H,I,rfl,?_⟩
    rw [show its.toArray.any (eqU x)=its.any (eqU x) by simp,nE r fs]
    exact q
theorem tI:OpR X (compareOp .NotIn) (rIn X.K true):=by
  intro pins s σ H x y v u Q I rx ry h
  obtain ⟨p,xs,rfl,hq,fx,fs,q⟩:=h
  cases ry
  rcases hq with hq | hq
  · obtain ⟨its,r,pl,hz⟩:=I.list hq
    refine SeqAt.notIn_listAt (eqU x) pl.isList (fun w hw=>jD rx fx r fs w (by simpa using hw)) ⟨.bl _,H,I,rfl,?_⟩
    rw [show its.toArray.any (eqU x)=its.any (eqU x) by simp,nE r fs]
    exact q
  · obtain ⟨its,r,pl,hz⟩:=I.tuple hq
    refine SeqAt.notIn_tupleAt (eqU x) pl (fun w hw=>jD rx fx r fs w (by simpa using hw)) ⟨.bl _,H,I,rfl,?_⟩
    rw [show its.toArray.any (eqU x)=its.any (eqU x) by simp,nE r fs]
    exact q
theorem jP:lT X (.builtin "len") (fun xs H Q=>∃ p ys,xs=[.ref p]∧(SqL X.K H p ys∨SqT X.K H p ys)∧Q (.int ys.length) H):=by
  intro pins s σ H xs us Q I r h
  obtain ⟨p,ys,rfl,hq,q⟩:=h
  obtain ⟨u,rfl,rx⟩:=vals1 r
  cases rx
  have hn:=t7
  rcases hq with hq | hq
  · obtain ⟨its,r',pl,hz⟩:=I.list hq
    have hlen:=r'.length
    exact Calls.call_len_list pl.isList (by simp only [List.size_toArray] <;> omega) ⟨.int ys.length,H,I.tok _,⟨s.toks + 1,by rw [List.size_toArray,hlen]⟩,q⟩
  · obtain ⟨its,r',pl,hz⟩:=I.tuple hq
    have hlen:=r'.length
    exact len_tuple pl (by simp only [List.size_toArray] <;> omega) ⟨.int ys.length,H,I.tok _,⟨s.toks + 1,by rw [List.size_toArray,hlen]⟩,q⟩
theorem qV:lT X (.type "tuple") (fun xs H Q=>∃ p ys,xs=[.ref p]∧((SqL X.K H p ys∧∀ l,H l=none→Q (.ref l) (upd H l (.tup ys)))∨(SqT X.K H p ys∧Q (.ref p) H))):=by
  intro pins s σ H xs us Q I r h
  obtain ⟨p,ys,rfl,h⟩:=h
  obtain ⟨u,rfl,rx⟩:=vals1 r
  cases rx
  rcases h with ⟨hq,q⟩ | ⟨hq,q⟩
  · obtain ⟨its,r',pl,hz⟩:=I.list hq
    have hlen:=r'.length
    refine call_tuple_list pl.isList (fun h' kp=>?_) (by simp only [List.size_toArray] <;> omega)
    have I1:Inv X pins σ H { s with heap:=h' }:=I.kept (t':=s.toks) kp
    have I2:Inv X pins σ (upd H h'.objs.size (.tup ys)) { s with heap:=h'.push { cls:=.type "tuple",data:=.seq its.toArray } } :=
      I1.laid (t':=s.toks) (fun b o e=>Heap.get?_push_of_some _ e) (Nat.le_refl _) (show gr X.prog X.w _ _ _ (.tup ys) from ⟨hz,its,r',sF.new _ _⟩)
    exact ⟨.ref h'.objs.size,_,I2,rfl,q _ (I1.hok.fresh (Nat.le_refl _))⟩
  · obtain ⟨its,r',pl,hz⟩:=I.tuple hq
    exact call_tuple_same pl ⟨.ref p,H,I,rfl,q⟩
noncomputable def tyV (K:PySem.W.Frag) (T:String) (x:V) (H:Hp):Prop:=match x with
  | .str _=>T="str"
  | .int _=>T="int"
  | .ref p=>(T="list"∧∃ xs,SqL K H p xs)∨(T="tuple"∧∃ o,K.lookup p=some o∧o.cls=.type "tuple"∧o.dict=none) ∨
      (T="dict"∧((∃ kvs,H p=some (.dK kvs))∨∃ kvs,H p=some (.dT kvs)))∨(T="set"∧∃ S n,H p=some (.set S n))
  | _=>False
theorem D8 {pins:List (Addr × Obj)} {σ:St} {H:Hp} {s:Shared} {T:String} {x:V} {v:Value} (I:Inv X pins σ H s) (r:RelV x v) (ty:tyV X.K T x H) :
    s.TypeIs v T∧∀ a,v=.ref a→∃ ob,s.heap.get? a=some ob∧ob.dict=none:=by
  cases x with
  | str z =>
    obtain ⟨t,rfl⟩:=r
    cases (show T="str" from ty)
    exact ⟨typeIs_str s z t,fun _ e=>nomatch e⟩
  | int i =>
    obtain ⟨t,rfl⟩:=r
    cases (show T="int" from ty)
    exact ⟨typeIs_int s i t,fun _ e=>nomatch e⟩
  | ref p =>
    cases r
    rcases ty with ⟨rfl,xs,hq⟩ | ⟨rfl,o,hk,hc,hd⟩ | ⟨rfl,hk⟩ | ⟨rfl,S,n,hk⟩
    · obtain ⟨its,_,pl,_⟩:=I.list hq
      refine ⟨pl.isList.typeIs,fun a e=>?_⟩
      cases e
      obtain ⟨o,n,e,c,hd,_⟩:=pl
      exact ⟨o,e,hd⟩
    · refine ⟨⟨o,I.kIn p o hk,hc⟩,fun a e=>?_⟩
      cases e
      exact ⟨o,I.kIn _ o hk,hd⟩
    · have z:∃ o,s.heap.get? p=some o∧o.ExactDict:=by
        rcases hk with ⟨kvs,hk⟩ | ⟨kvs,hk⟩
        · obtain ⟨_,_,_,_,o,_,_,e,ex,_⟩:=I.hok p _ hk
          exact ⟨o,e,ex⟩
        · obtain ⟨_,_,_,_,o,_,_,e,ex,_⟩:=I.hok p _ hk
          exact ⟨o,e,ex⟩
      obtain ⟨o,e,ex⟩:=z
      refine ⟨⟨o,e,ex.1⟩,fun a e2=>?_⟩
      cases e2
      exact ⟨o,e,ex.2.1⟩
    · obtain ⟨o,_,_,_,e,ex,_⟩:=I.hok p _ hk
      refine ⟨⟨o,e,ex.1⟩,fun a e2=>?_⟩
      cases e2
      exact ⟨o,e,ex.2.1⟩
  | _=>exact False.elim ty
noncomputable def tBM (K:PySem.W.Frag) (T:String) (r:V→List V→Hp→VK→Prop) (to:TE) (t:TA):TE:=fun σ H Q=>to σ H fun x H1=>tyV K T x H1∧t σ H1 fun xs H2=>r x xs H2 Q
variable {o e:Expr} {es:List Expr} {to:TE} {t:TA} {name:Str} {apos cpos:Pos} {T id:String} {r:V→List V→Hp→VK→Prop}
theorem Ag (pa:PlainAttrs T) (slot:Slot T name id) (hty:typeOf (.builtin id)=pure (.type "method_descriptor")) (hm:MtR X id r) (ho:PE X o to) (ha:PA X (e::es) t)
    (hbase:attributeBase o name X.env (eval o X.env)=eval o X.env:=by rfl)
    (hfew:((backTo cpos (starEach (e::es) X.env)).all (fun x=>!x.1) && (backToKw cpos (keywordEach [] X.env)).all (fun x=>x.1.isSome)
      && decide ((e::es).length + ([]:List Keyword).length + (if ([]:List Keyword).isEmpty then 0 else 1) < 30))=true:=by rfl)
    (hline:(apos.endLine == cpos.line)=true:=by rfl) (hs:starEach (e::es) X.env=(false,eval e X.env)::starEach es X.env:=by rfl) (hplain:(backTo cpos (starEach es X.env)).any (·.1)=false:=by rfl) :
    PE X (.Call (.Attribute o name apos) (e::es) [] cpos) (tBM X.K T r to t):=by
  intro pins s σ H Q I h
  refine wpAny_Call_method_late hbase hfew hline rfl (thn (ho pins s σ H _ I h) fun v s1 rz2=>?_)
  obtain ⟨x,H1,I1,r1,ty,q1⟩:=rz2
  obtain ⟨h1,h2⟩:=D8 I1 r1 ty
  refine ⟨T,id,pa,slot,hty,h1,h2,?_⟩
  have hA:=ha cpos pins s1 σ H1 _ I1 q1
  rw [hs] at hA ⊢
  refine Calls.callWith_builtin (by show (false || (backTo cpos (starEach es X.env)).any (·.1))=false; rw [hplain] <;> rfl) (Calls.evalArgs_plain ?_)
  exact thn hA fun us s2 qz2=>(by obtain ⟨vs,H2,I2,r2,q2⟩:=qz2; exact hm pins s2 σ H2 x vs v us Q I2 r1 r2 q2)
end
end L2
namespace L2
open PySem PySem.Spec PyProof.Rows
noncomputable def MtM (X:Cx) (id:String) (r:V→List V→Hp→VK→Prop):Prop :=
  ∀ (pins:List (Addr × Obj)) (s:Shared) (σ:St) (H:Hp) (x:V) (xs:List V) (v:Value) (us:List Value) (Q:VK),Inv X pins σ H s→RelV x v→Vals xs us→r x xs H Q →
    wpAny (model X.prog X.w) X.A (call (.builtin id) (v::us)) (EP X pins σ Q) X.xe s
theorem Vals.one {x:V} {us:List Value} (h:Vals [x] us):∃ u,us=[u]∧RelV x u:=by
  cases h with
  | cons r t=>cases t; exact ⟨_,rfl,r⟩
theorem Vals.eraseIdx:∀ {xs:List V} {us:List Value} (i:Nat),Vals xs us→Vals (xs.eraseIdx i) (us.eraseIdx i)
  | _,_,_,.nil=>.nil
  | _,_,0,.cons _ t=>t
  | _,_,i + 1,.cons r t=>.cons r (Vals.eraseIdx i t)
theorem Vals.rep {xs:List V} {us:List Value} (h:Vals xs us):∀ k:Nat,Vals (List.replicate k xs).flatten (List.replicate k us).flatten
  | 0=>.nil
  | k + 1=>by
    rw [List.replicate_succ,List.replicate_succ,List.flatten_cons,List.flatten_cons]
    exact Vals.append h (Vals.rep h k)
theorem su {α:Type}:∀ (l:List α) (i:Nat),(l.eraseIdx i).length≤l.length
  | [],_=>Nat.le_refl _
  | _::_,0=>Nat.le_succ _
  | _::r,i + 1=>Nat.succ_le_succ (su r i)
theorem foldl_rep (its:List Value):∀ (k:Nat) (acc:List Value),
    List.foldl (fun x1 x2=>x1++x2) acc.toArray (List.replicate k its.toArray)=(acc++(List.replicate k its).flatten).toArray
  | 0,acc=>by simp
  | k + 1,acc=>by
    have e:acc.toArray++its.toArray=(acc++its).toArray:=by simp
    have e2:(acc++its)++(List.replicate k its).flatten=acc++(List.replicate (k + 1) its).flatten:=by
      rw [List.replicate_succ,List.flatten_cons,List.append_assoc]
    rw [← e2,← foldl_rep its k (acc++its),← e,List.replicate_succ,List.foldl_cons]
section
variable {X:Cx} {pins:List (Addr × Obj)} {σ:St} {H:Hp} {s:Shared} {l b:Addr} {xs ys zs:List V}
theorem Inv.lset {its its':List Value} {n:Nat} {f:Array Value→Array Value} {t':Nat} (I:Inv X pins σ H s) (hH:H l=some (.lst xs))
    (e:s.heap.get? l=some { cls:=.type "list",data:=.seq its.toArray n }) (hf:f its.toArray=its'.toArray) (hv:Vals ys its') (hz:ys.length≤sizeLine) :
    Inv X pins σ (upd H l (.lst ys)) { s with heap:=s.heap.update l (Obj.mapSeq f),toks:=t' }:=by
  have q:=PySem.IsL.update e f
  rw [hf] at q
  refine I.write (x:=l) (e:=l) (by rw [hH]; exact trivial) (.inl rfl) (fun b' u hb hu=>(Heap.get?_update_other s.heap (Obj.mapSeq f) (Ne.symm hb)).trans hu) ⟨_,q⟩ ?_
  exact ⟨hz,its',_,hv,q⟩
theorem Inv.lnew {its:List Value} {t':Nat} (I:Inv X pins σ H s) (hv:Vals ys its) (hz:ys.length≤sizeLine) :
    Inv X pins σ (upd H s.heap.objs.size (.lst ys)) { s with heap:=s.heap.push { cls:=.type "list",data:=.seq its.toArray },toks:=t' } :=
  I.laid (fun _ _ q=>Heap.get?_push_of_some _ q) (Nat.le_refl _) ⟨hz,its,0,hv,Heap.get?_push_size _ rfl⟩
theorem Inv.fresh (I:Inv X pins σ H s):H s.heap.objs.size=none:=I.hok.fresh (Nat.le_refl _)
theorem Inv.lstM (I:Inv X pins σ H s) (hH:H l=some (.lst xs)):xs.length≤sizeLine∧∃ (its:List Value) (n:Nat),Vals xs its∧xs.length=its.length∧s.heap.get? l=some { cls:=.type "list",data:=.seq its.toArray n }:=by
  obtain ⟨z,its,n,r,e⟩:=I.hok l _ hH
  exact ⟨z,its,n,r,r.length,e⟩
theorem Au {n:Nat} (h:n≤sizeLine):Builtin.List.listTooLong n=false:=by
  unfold Builtin.List.listTooLong
  exact decide_eq_false (by omega)
end
section
variable {X:Cx}
noncomputable def BP:V→List V→Hp→VK→Prop:=fun x vs H Q=>∃ l xs y,x=.ref l∧vs=[y]∧H l=some (.lst xs)∧xs.length < sizeLine∧Q .non (upd H l (.lst (xs++[y])))
theorem nW:MtM X "list.append" BP:=by
  intro pins s σ H x vs v us Q I rx rv h
  obtain ⟨l,xs,y,rfl,rfl,hH,hz,q⟩:=h
  cases rx
  obtain ⟨u,rfl,ru⟩:=rv.one
  obtain ⟨z,its,n,r,hl,e⟩:=I.lstM hH
  refine call_meets F.slot_list_append ⟨_,e,rfl⟩ F.entry_list_append (F.args_list_append_2 _ _) (PySem.list_append l its.toArray n u (by rw [List.size_toArray]; omega)) ⟨e,?_⟩
  refine ⟨.non,_,I.lset (its':=its++[u]) hH e (by simp) (r.append (.cons ru .nil)) ?_,rfl,q⟩
  rw [List.length_append,List.length_singleton]
  omega
noncomputable def D1:V→List V→Hp→VK→Prop:=fun x vs H Q=>∃ l xs i k y,x=.ref l∧vs=[.int i]∧H l=some (.lst xs)∧-(2 ^ 63)≤i∧i < 2 ^ 63∧seqIndex? i xs.length=some k∧xs[k]?=some y∧Q y (upd H l (.lst (xs.eraseIdx k)))
theorem Aa:MtM X "list.pop" D1:=by
  intro pins s σ H x vs v us Q I rx rv h
  obtain ⟨l,xs,i,k,y,rfl,rfl,hH,h1,h2,hk,hy,q⟩:=h
  cases rx
  obtain ⟨u,rfl,ru⟩:=rv.one
  obtain ⟨t,rfl⟩:=ru
  obtain ⟨z,its,n,r,hl,e⟩:=I.lstM hH
  obtain ⟨w,hw,rw'⟩:=r.get hy
  refine call_meets F.slot_list_pop ⟨_,e,rfl⟩ F.entry_list_pop (F.args_list_pop_2 _ _)
    (MeetsSeq.list_pop_at l its.toArray n i t k w (fitsIndex_both h1 h2) (by rw [List.size_toArray,← hl]; exact hk) (by rw [← Array.getElem?_toList]; exact hw) (by rw [List.size_toArray]; omega)) ⟨e,?_⟩
  refine ⟨y,_,I.lset (its':=its.eraseIdx k) hH e ?_ (r.eraseIdx k) ?_,rw',q⟩
  · show its.toArray.eraseIdxIfInBounds k=(its.eraseIdx k).toArray
    rw [List.eraseIdxIfInBounds_toArray]
  · have:=su xs k
    omega
noncomputable def EI:R2:=fun x y H Q=>∃ l b xs zs,x=.ref l∧y=.ref b∧H l=some (.lst xs)∧H b=some (.lst zs)∧xs.length + zs.length≤sizeLine∧∀ p,H p=none→Q (.ref p) (upd H p (.lst (xs++zs)))
theorem DA:OpR X (binaryOp .Add) EI:=by
  intro pins s σ H x y v u Q I rx ry h
  obtain ⟨l,b,xs,zs,rfl,rfl,hH,hB,hz,q⟩:=h
  cases rx
  cases ry
  obtain ⟨z,its,n,r,hl,e⟩:=I.lstM hH
  obtain ⟨z2,its2,n2,r2,hl2,e2⟩:=I.lstM hB
  refine PySem.P.add_list e e2 ?_ (by rw [List.size_toArray,List.size_toArray]; omega)
  have ea:its.toArray++its2.toArray=(its++its2).toArray:=by simp
  rw [ea]
  exact ⟨.ref _,_,I.lnew (t':=s.toks) (r.append r2) (by rw [List.length_append]; omega),rfl,q _ I.fresh⟩
noncomputable def EA:R2:=fun x y H Q=>∃ l k xs,x=.ref l∧y=.int k∧H l=some (.lst xs)∧-(2 ^ 63)≤k∧k < 2 ^ 63∧xs.length * k.toNat≤sizeLine ∧
  ∀ p,H p=none→Q (.ref p) (upd H p (.lst (List.replicate k.toNat xs).flatten))
theorem len_rep {α:Type} (xs:List α) (k:Nat):(List.replicate k xs).flatten.length=k * xs.length:=by
  induction k with
  | zero=>simp
  | succ k ih=>rw [List.replicate_succ,List.flatten_cons,List.length_append,ih,Nat.succ_mul,Nat.add_comm]
theorem DK:OpR X (binaryOp .Mult) EA:=by
  intro pins s σ H x y v u Q I rx ry h
  obtain ⟨l,k,xs,rfl,rfl,hH,h1,h2,hz,q⟩:=h
  cases rx
  obtain ⟨t,rfl⟩:=ry
  obtain ⟨z,its,n,r,hl,e⟩:=I.lstM hH
  have hlen:its.toArray.size * k.toNat≤sizeLine:=by rw [List.size_toArray,← hl]; exact hz
  have hcap:¬ its.toArray.size * k.toNat > (2 ^ 63 - 1) / 8:=by
    have:(sizeLine:Nat)≤(2 ^ 63 - 1) / 8:=by decide
    omega
  have hfit:¬ (!Builtin.List.listFitsIndex k)=true:=by
    rw [fitsIndex_both h1 h2]
    exact Bool.false_ne_true
  have hlong:¬ Builtin.List.listTooLong (its.toArray.size * k.toNat)=true:=by
    rw [Au hlen]
    exact Bool.false_ne_true
  have hnew:List.foldl (fun x1 x2=>x1++x2) #[] (List.replicate (if its.toArray.isEmpty=true then 0 else k.toNat) its.toArray)=(List.replicate k.toNat its).flatten.toArray:=by
    have f0:∀ m:Nat,List.foldl (fun x1 x2=>x1++x2) #[] (List.replicate m its.toArray)=(List.replicate m its).flatten.toArray:=fun m=>by
      have:=foldl_rep its m []
      rw [List.nil_append] at this
      exact this
    rw [f0]
    cases its with
    | nil=>simp
    | cons a r'=>rw [if_neg (by simp)]
  refine wpAny_binaryOp_repeat_ref (T:="list") (U:="int") (by decide) ⟨_,e,rfl⟩ (fun s'=>typeIs_int s' k t) noFill_list_mul F.fills_int_mul F.slot_int_rmul repeat_list F.slot_int_index.lookup
    (call_meets F.slot_int_rmul (typeIs_int s k t) F.entry_int_rmul (F.args_int_rmul_2 _ _) (int___rmul___int_list k t l its.toArray n)
      ⟨e,rfl,⟨_,e,rfl⟩,call_meets F.slot_list_mul ⟨_,e,rfl⟩ F.entry_list_mul (F.args_list_mul_2 _ _) (AutoListH.list___mul___list_int_3 l its.toArray n k t hfit hcap hlong) ⟨e,?_⟩⟩)
  rw [hnew]
  exact ⟨.ref _,_,I.lnew (t':=s.toks) (r.rep k.toNat) (by rw [len_rep,Nat.mul_comm]; exact hz),rfl,q _ I.fresh⟩
end
section
variable {prog:Program} {w:World} {A:Around} {E:Value→Shared→Prop} {s:Shared}
end
section
variable {X:Cx}
end
end L2
namespace Att
open PySem PySem.W PySem.Calls PyProof.Rows
theorem oX {P:Params} {h:Heap}:∀ (ns:List Int) (vs:List Value),WellAll P h vs (ns.map WData.int)→IntsAre vs ns:=by
  intro ns
  induction ns with
  | nil =>
    intro vs w
    rw [List.map_nil] at w
    cases w
    exact .nil
  | cons n ns ih =>
    intro vs w
    rw [List.map_cons] at w
    cases w with
    | cons a b =>
      cases a
      exact .cons _ _ (ih _ b)
theorem yO {l:OpenLaw} {n:Nat} (hn:l.most=some n) {P:Params} {h:Heap} {args:List WData} {vals:List Value}
    (hpre:l.row.toRowW.claim.pre args=true) (hwl:WellAll P h vals args) :
    ∃ a vs ns,vals=[Value.ref a]∧args=[WData.list (ns.map WData.int)]∧h.get? a=some { cls:=.type "list",data:=.seq vs.toArray }∧IntsAre vs ns∧ns.length≤n:=by
  have hsh:WShape.hasAll [] args [.list .int]=true:=(pre_splitW hpre).1
  have hc:l.pre.holds [] { args:=args }=true:=(pre_splitW hpre).2
  obtain ⟨d,r,rfl,h1,h2⟩:=hasAllW_cons hsh
  obtain rfl:=hasAllW_nil h2
  obtain ⟨xs,rfl,h3⟩:=hasW_list h1
  obtain ⟨ns,rfl⟩:=items_int h3
  have hlen:ns.length≤n:=by
    unfold OpenLaw.pre at hc
    have h4:(WTm.not (.lt (.lit (.int (n:Int))) (.len (.arg 0)))).holds [] { args:=[.list (ns.map .int)] }=true:=by
      have h4:=(holds_andW hc).1
      rw [hn] at h4
      exact h4
    have h5:=condW_of h4 (w_not (w_lt w_lit (w_len_list (w_arg rfl))))
    rw [List.length_map] at h5
    refine Nat.le_of_not_lt fun q=>?_
    have q':(n:Int) < ((ns.length:Nat):Int):=by omega
    first
      | (rw [decide_eq_true q'] at h5; exact absurd h5 (by decide))
      | (simp at h5; omega)
  cases hwl with
  | cons w1 w2 =>
    cases w2
    cases w1 with
    | list ho hall=>exact ⟨_,_,ns,rfl,rfl,ho,oX ns _ hall,hlen⟩
theorem yX (l:OpenLaw) (args:List WData):l.row.toRowW.claim.post args (.bool true) args=true :=
  postW_of (r:=l.row.toRowW) (X:=(true == true))
    (show WShape.has [] (.bool true) .bool=true by first | rfl | decide | simp [WShape.has,WShape.arms,WShape.armsAll])
    (show (WTm.eq .res (.lit (.bool true))).value [] { args:=args,res:=some (.bool true),after:=args }=some (.bool (true == true)) from w_eq_bool (w_res rfl) w_lit) rfl
theorem uY {l:OpenLaw} {n:Nat} {q:Program} {loose:List Str} {XP:(Str→Option Value)→Heap→Prop} {YP:World→Heap→Prop} {d:DefRec}
    (hn:l.most=some n) (hdf:d.params.defaults=[])
    (call:∀ (w:World) (s₀ s₁:Shared) (mg mb:Str→Option Value) (fa:Addr) (o:Obj) (pm cd doc:Value) (a:Addr) (vs:List Value) (ns:List Int),
      Ground q loose [] XP w s₀ mg mb s₁.heap→YP w s₁.heap →
      s₁.heap.get? fa=some o→o.data=.func (docDef d.name d.params d.body d.scope pm cd doc)→s₁.heap.CodeRec cd d.name→mg d.name=some (.ref fa) →
      s₁.heap.get? a=some { cls:=.type "list",data:=.seq vs.toArray }→IntsAre vs ns→ns.length≤n→s₁.gens=#[] →
      codeAny (model l.prog w) callerA (.call (.ref fa) ⟨[.ref a],[]⟩) (fun r s'=>r=.ok (.ret (.bool true))∧OldK s₁.heap s'.heap∧s'.os=s₁.os∧AllBare s'.gens) s₁) :
    WalkO q loose XP YP l.row.toRowW d [] (fun f vs=>PySem.call f vs):=by
  intro w s₀ s₁ mg mb G Y fa o pm cd doc dV kV ho hd hcd hD hmg hg args vals as hpre hlay hrd hwl hlo
  obtain rfl:dV=.none:=Dflts.none hD hdf
  obtain rfl:kV=.none:=Dflts.noKw hD
  obtain ⟨a,vs,ns,rfl,rfl,hobj,hints,hlen⟩:=yO hn hpre hwl
  refine enter_call (codeAny_mono (call w s₀ s₁ mg mb fa o pm cd doc a vs ns G Y ho (fd_plain hd) hcd hmg hobj hints hlen hg) fun r s' hq=>?_)
  obtain ⟨rfl,h2,h3,h4⟩:=hq
  exact ⟨.inl ⟨.bool true,.bool true,[],rfl,fun _=>rfl,.bool true,yX l _,fun _=>⟨List.Pairwise.nil,fun _ hm=>(nomatch hm)⟩⟩,h2,h3,h4⟩
section
variable {prog:Program} {w:World} {A:Around} {E:Value→Shared→Prop} {s:Shared} {K:Frag}
end
end Att
namespace L2
open PySem PySem.Spec PyProof.Rows
theorem sf:∀ {vs:List Value} {ns:List Int},IntsAre vs ns→Vals (ns.map V.int) vs
  | _,_,.nil=>.nil
  | _,_,.cons n t h=>.cons ⟨t,rfl⟩ (sf h)
noncomputable def DM (H:Hp):Prop:=∀ b,H b=none∨(∃ o xs,H b=some (.frz o (.lst xs)))∨∃ q,H b=some (.tbl q)
noncomputable def qk (K:PySem.W.Frag) (h:Heap):Prop:=(∀ P q,TabOf K P q→h.get? P=some { cls:=.none,data:=.fields #[] }∧K.lookup P=none∧isCodeTable h P)∧∀ P q q',TabOf K P q→TabOf K P q'→q=q'
section
open Classical
noncomputable def l5 (K:PySem.W.Frag):Hp:=fun b=>if h:∃ q,TabOf K b q then some (.tbl h.choose) else none
theorem dJ (K:PySem.W.Frag) (b:Addr):l5 K b=none∨∃ q,TabOf K b q∧l5 K b=some (.tbl q):=by
  unfold l5
  split
  · rename_i h; exact .inr ⟨_,h.choose_spec,rfl⟩
  · exact .inl rfl
theorem rZ {K:PySem.W.Frag} {h:Heap} (hT:qk K h) {P:Addr} {q:Str} (t:TabOf K P q):l5 K P=some (.tbl q):=by
  rcases dJ K P with e | ⟨q',t',e⟩
  · unfold l5 at e
    rw [dif_pos ⟨q,t⟩] at e; cases e
  · rw [e,hT.2 P q q' t t']
end
theorem law_call {P:Program} {w:World} {K:PySem.W.Frag} {mg mb:Str→Option Value} {CX:CXT} {k:Nat} {fa a:Addr} {fd:FuncData} {x:Str} {sp:Sp} {s₁:Shared} {vs:List Value} {ns:List Int}
    (KX:K.In s₁.heap) (hns:s₁.heap.Ns mainGlobals mg) (hb:s₁.heap.Ns builtinsNs mb) (hbb:∀ x:Str,x≠"__name__"→mb x=bootBuiltins x) (hlim:s₁.heap.NoLimit) (hg:s₁.gens=#[])
    (ha:s₁.heap.get? a=some { cls:=.type "list",data:=.seq vs.toArray }) (hi:IntsAre vs ns) (hl:ns.length≤sizeLine) (hr:fk k callerA)
    (F:∀ base:Heap,K.In base→base.Ns mainGlobals mg→kq P w K mg base CX k fa fd [x] sp) (hbind:∀ (s:Shared) (u:Value),BindsTo s fd ⟨[u],[]⟩ [(x,u)])
    (hsp:∀ H:Hp,DM H→SqL K H a (ns.map V.int)→sp [.ref a] H (fun v _=>v=.bl true) fun _ _ _=>False)
    (hCX:∀ H e s',CX [] H s₁ (fun _ _ _=>False) e s'→False) (hT:qk K s₁.heap) :
    codeAny (model P w) callerA (.call (.ref fa) ⟨[.ref a],[]⟩) (fun r s'=>r=.ok (.ret (.bool true))∧OldK s₁.heap s'.heap∧s'.os=s₁.os∧AllBare s'.gens) s₁:=by
  have rv:=sf hi
  have lenV:=hi.length
  -- from an abstract heap in which nothing but the script may be tracked
  have core:∀ H:Hp,DM H→SqL K H a (ns.map V.int)→HOk P w H s₁.heap→(∀ b,H b≠none→b=a∨∃ q,TabOf K b q)→(H a≠none→K.lookup a=none)→(∀ P q,TabOf K P q→H P=some (.tbl q)) →
      codeAny (model P w) callerA (.call (.ref fa) ⟨[.ref a],[]⟩) (fun r s'=>r=.ok (.ret (.bool true))∧OldK s₁.heap s'.heap∧s'.os=s₁.os∧AllBare s'.gens) s₁:=by
    intro H hO hS hok hA hK hTb
    have base_of:∀ {b:Addr} {o:Obj},s₁.heap.get? b=some o→H b=none→(sH s₁.heap H).get? b=some o:=fun e n=>A1 e n
    have noA:∀ {b:Addr} {o:Obj} {es:Array DictEntry} {ep:Nat},s₁.heap.get? b=some o→o.data=.dict es ep→H b=none:=fun {b o es ep} e d=>by
      cases q:H b with
      | none=>rfl
      | some u =>
        rcases hA b (by rw [q]; simp) with e' | ⟨qq,e'⟩
        case inr=>rw [(hT.1 b qq e').1] at e; cases e; cases d
        subst e'
        rw [ha] at e; cases e
        have d':Data.seq vs.toArray _=Data.dict es ep:=d
        cases d'
    have nsK:∀ {b:Addr} {m:Str→Option Value},s₁.heap.Ns b m→(sH s₁.heap H).Ns b m:=fun {b m} qz2=>(by obtain ⟨o,es,ep,e,d,r⟩:=qz2; exact ⟨o,es,ep,base_of e (noA e d),d,r⟩)
    have hKb:K.In (sH s₁.heap H):=fun b o e=>base_of (KX b o e) (by
      cases q:H b with
      | none=>rfl
      | some u =>
        rcases hA b (by rw [q]; simp) with e' | ⟨qq,e'⟩
        case inr=>rw [(hT.1 b qq e').2.1] at e; cases e
        subst e'
        rw [hK (by rw [q]; simp)] at e; cases e)
    have hM:Mod K mg (sH s₁.heap H):=⟨hKb,nsK hns,⟨mb,nsK hb,hbb⟩,let ⟨mc,h1,h2⟩:=hlim; ⟨mc,nsK h1,h2⟩⟩
    have e0:wc P w K mg (sH s₁.heap H) callerA [] s₁ H:=⟨rfl,hM,fun b o e=>B4 e,Nat.le_of_eq (yA _ _),trivial,fun b hb=>absurd (show b∈([]:List Addr) from hb) (by simp),hok,.of_eq hg,hTb⟩
    refine codeAny_mono ((F _ hKb (nsK hns)).run callerA [] s₁ H ⟨[.ref a],[]⟩ [.ref a] [.ref a] _ _ hr e0 (hbind s₁ (.ref a)) (.cons rfl .nil) (hsp H hO hS)) fun r s' h=>?_
    cases r with
    | error e=>exact (hCX H e s' h).elim
    | ok fl =>
      cases fl with
      | next=>exact False.elim h
      | brk=>exact False.elim h
      | cont=>exact False.elim h
      | ret u =>
        obtain ⟨v,H',os,bare,un,hok',r',q⟩:=h
        have q':v=.bl true:=q
        subst q'
        obtain rfl:u=Value.bool true:=r'
        have old:∀ b o,s₁.heap.get? b=some o→s'.heap.get? b=some o∨(isCodeTable s₁.heap b∧o.cls=.none∧∃ vs more,o.data=.fields vs∧s'.heap.get? b=some { o with data:=.fields (vs++more) }):=fun b o e=>?old
        case old =>
         cases q:H b with
         | none=>exact .inl <| un.keep b o e q (by intro z; exact absurd (show b∈([]:List Addr) from z) (by simp)) (by simp)
         | some u =>
          rcases hO b with z | ⟨ob,xs,z⟩ | ⟨qq,z⟩
          · rw [q] at z; cases z
          · have z2:=un.frzs b ob _ z
            obtain ⟨e1,_⟩:=hok b _ z
            obtain ⟨e2,_⟩:=hok' b _ z2
            rw [e] at e1; cases e1
            exact .inl e2
          · have z2:=un.tbls b qq z
            obtain ⟨ps,e2,_⟩:=hok' b _ z2
            rcases hA b (by rw [z]; simp) with e' | ⟨q2,e'⟩
            · obtain ⟨ps0,e3,_⟩:=hok b _ z
              rw [e'] at e3; rw [ha] at e3; cases e3
            · obtain ⟨e3,_,e4⟩:=hT.1 b q2 e'
              rw [e] at e3; cases e3
              exact .inr ⟨e4,rfl,#[],ps,rfl,by simpa using e2⟩
        exact ⟨rfl,⟨fun b o e=>(old b o e).imp id fun z=>.inl z,fun b o e=>by rcases old b o e with z | ⟨_,_,_,_,_,z⟩ <;> exact ⟨_,z⟩⟩,os,bare⟩
  have tok:∀ b q,TabOf K b q→gr P w (fun _=>none) s₁.heap b (.tbl q):=fun b q t=>⟨#[],(hT.1 b q t).1,trivial,fun pos cv z=>nomatch z⟩
  have tokH:∀ (H:Hp) b q,TabOf K b q→gr P w H s₁.heap b (.tbl q):=fun H b q t=>⟨#[],(hT.1 b q t).1,trivial,fun pos cv z=>nomatch z⟩
  have na:∀ q,¬ TabOf K a q:=fun q t=>by have:=(hT.1 a q t).1; rw [ha] at this; cases this
  cases hk:K.lookup a with
  | some o =>
    have e:=KX a o hk
    rw [ha] at e
    cases e
    refine core (l5 K) (fun b=>(dJ K b).imp id fun qz0=>(by obtain ⟨q,_,e⟩:=qz0; exact .inr ⟨q,e⟩)) (.inr ⟨_,vs.toArray,_,hk,rfl,rfl,rfl,by rw [List.size_toArray,lenV]; exact hl,by simpa using rv⟩) (fun b u z=>?_) (fun b z=>?_) (fun z=>?_) fun P q t=>rZ hT t
    · rcases dJ K b with e | ⟨q,t,e⟩
      · rw [z] at e; cases e
      · rw [z] at e; cases e; exact tokH _ b q t
    · rcases dJ K b with e | ⟨q,t,e⟩
      · exact absurd e z
      · exact .inr ⟨q,t⟩
    · rcases dJ K a with e | ⟨q,t,e⟩
      · exact absurd e z
      · exact absurd t (na q)
  | none =>
    have eT:∀ b,b≠a→(fun b=>if b=a then some (HO.frz { cls:=.type "list",data:=.seq vs.toArray } (.lst (ns.map V.int))) else l5 K b) b=l5 K b:=fun b h=>if_neg h
    have eA:(fun b=>if b=a then some (HO.frz { cls:=.type "list",data:=.seq vs.toArray } (.lst (ns.map V.int))) else l5 K b) a=some (HO.frz { cls:=.type "list",data:=.seq vs.toArray } (.lst (ns.map V.int))):=if_pos rfl
    refine core (fun b=>if b=a then some (.frz { cls:=.type "list",data:=.seq vs.toArray } (.lst (ns.map V.int))) else l5 K b) (fun b=>?_) (.inl (.inr ⟨{ cls:=.type "list",data:=.seq vs.toArray },if_pos rfl⟩)) (fun b u z=>?_) (fun b z=>?_) (fun _=>hk) fun P q t=>?_
    · by_cases hb:b=a
      · exact .inr (.inl ⟨_,_,if_pos hb⟩)
      · rw [eT b hb]; exact (dJ K b).imp id fun qz0=>(by obtain ⟨q,_,e⟩:=qz0; exact .inr ⟨q,e⟩)
    · by_cases hb:b=a
      · subst hb
        rw [eA] at z; cases z
        exact ⟨ha,by rw [List.length_map]; exact hl,vs,_,rv,ha⟩
      · rw [eT b hb] at z
        rcases dJ K b with e | ⟨q,t,e⟩
        · rw [z] at e; cases e
        · rw [z] at e; cases e; exact tokH _ b q t
    · by_cases hb:b=a
      · exact .inl hb
      · rcases dJ K b with e | ⟨q,t,e⟩
        · exact absurd ((if_neg hb).trans e) z
        · exact .inr ⟨q,t⟩
    · exact (if_neg (fun z=>na q (by rw [← z]; exact t))).trans (rZ hT t)
end L2
namespace L2
open PySem PySem.Spec PyProof.Rows
noncomputable abbrev KOf {K:PySem.W.Frag} {h:Heap} (_:K.In h):PySem.W.Frag:=K
theorem yf {l:PySem.W.OpenLaw} {n k:Nat} {q:Program} {loose:List Str} {XP:(Str→Option Value)→Heap→Prop} {YP:World→Heap→Prop} {d:DefRec} {K:Params→PySem.W.Frag} {CX:World→CXT} {sp:World→Sp} {x:Str}
    (hn:l.most=some n) (hn2:n≤sizeLine) (hdf:d.params.defaults=[]) (hr:fk k callerA)
    (hY:∀ (w:World) (h:Heap),YP w h→(K w.params).In h)
    (F:∀ (w:World) (mg:Str→Option Value) (fa:Addr) (h:Heap),(K w.params).In h→h.Ns mainGlobals mg→mg d.name=some (.ref fa) →
      ∃ fd:FuncData,(∀ (s:Shared) (u:Value),BindsTo s fd ⟨[u],[]⟩ [(x,u)]) ∧
        ∀ base:Heap,(K w.params).In base→base.Ns mainGlobals mg→kq l.prog w (K w.params) mg base (CX w) k fa fd [x] (sp w))
    (hsp:∀ (w:World) (H:Hp) (a:Addr) (ns:List Int),ns.length≤n→DM H→SqL (K w.params) H a (ns.map V.int)→sp w [.ref a] H (fun v _=>v=.bl true) fun _ _ _=>False)
    (hCX:∀ (w:World) (H:Hp) (s:Shared) (e:Value) (s':Shared),CX w [] H s (fun _ _ _=>False) e s'→False) (hTb:∀ (w:World) (h:Heap) (loose':List Str) (mean:ExcName→Option Value) (mg mb:Str→Option Value),PyProof.Rows.Top q loose' mean mg mb h→(K w.params).In h→qk (K w.params) h) :
    PySem.W.WalkO q loose XP YP l.row.toRowW d [] (fun f vs=>PySem.call f vs):=by
  refine Att.uY hn hdf fun w s₀ s₁ mg mb fa o pm cd doc a vs ns G Y ho hd hcd hmg hobj hints hlen hg=>?_
  have KX:=hY w _ Y
  obtain ⟨fd,hb,hF⟩:=F w mg fa _ KX G.T.g hmg
  exact law_call KX G.T.g G.T.b G.T.builtins G.T.nolimit hg hobj hints (Nat.le_trans hlen hn2) hr hF hb (fun H hO hS=>hsp w H a ns hlen hO hS) (fun H e s'=>hCX w H s₁ e s') (hTb w _ _ _ _ _ G.T KX)
end L2
namespace L2
open PySem PySem.Spec PyProof.Rows
noncomputable def inClass (s:Stmt) (j:Nat):Stmt:=match s with
  | .ClassDef _ _ _ body _ _ _ _ _ _ _=>body.getD j (.Pass ⟨0,0,0,0⟩)
  | _=>.Pass ⟨0,0,0,0⟩
noncomputable def hZ (s:Stmt):Arguments:=match s with
  | .FunctionDef _ a _ _ _ _ _ _ _ _=>a
  | _=>{ posonlyargs:=[],args:=[],vararg:=none,kwonlyargs:=[],kw_defaults:=[],kwarg:=none,defaults:=[] }
noncomputable def eV (s:Stmt):List Stmt:=match s with
  | .FunctionDef _ _ b _ _ _ _ _ _ _=>b
  | _=>[]
noncomputable def aB (s:Stmt):Scope:=match s with
  | .FunctionDef _ _ _ _ _ _ sc _ _ _=>sc
  | _=>{ kind:=.function,names:=[],isGenerator:=false,isCoroutine:=false }
noncomputable abbrev CX0:CXT:=fun _ _ _ _ _ _=>False
noncomputable abbrev E0:XK:=fun _ _ _=>False
theorem E4 {X:Cx}:Passes CX0 X E0:=fun _ _ _ _ _ _ _ h=>h.elim
structure Fun (K:PySem.W.Frag) (x qual:Str) (st:Stmt) (f:Addr) (fd:FuncData):Prop where
  ex:∃ (oc:Value) (od:Option Addr) (kV doc pm:Value) (an:Option Addr) (cdv ct:Value) (osl:Array (Option Value)),
    fd=PySem.W.fnOf x qual (hZ st) (eV st) (aB st) .none kV doc pm an cdv ct∧K.lookup f=some ⟨oc,od,.func fd,osl⟩∧PySem.W.codeIn K cdv qual=true
  kp:PySem.W.keepIn K (.ref f)=true
section
variable {P:Program} {w:World} {K:PySem.W.Frag} {mg:Str→Option Value} {base:Heap}
theorem Fun.ok {x qual:Str} {st:Stmt} {f:Addr} {fd:FuncData} {N ps:List Str} {k:Nat} {sp:Sp} (F:Fun K x qual st f fd) (S:aU N ps (aB st)) (len:∀ vs H Q E,sp vs H Q E→vs.length=ps.length)
    (hbody:∀ (cdv:Value) (A:Around) (outer:List Env) (s:Shared) (H:Hp) (vs:List V) (Q:VK) (E:XK),fk k (A.deeper (envOfC qual (aB st) s.heap.objs.size f cdv))→sp vs H Q E →
      ∃ t,PSs (jE CX0 P w K mg base N qual (aB st) f cdv A outer s H E).nox (eV st) t∧t { nx:=fun _ H'=>Q .non H',rt:=Q } (start N vs) H):kq P w K mg base CX0 (k + 1) f fd ps sp:=by
  obtain ⟨oc,od,kV,doc,pm,an,cdv,ct,osl,rfl,lk,hcd⟩:=F.ex
  refine CN lk hcd S len fun A outer s H vs Q E hr hsp=>?_
  obtain ⟨t,h,q⟩:=hbody cdv A outer s H vs Q E hr hsp
  exact ⟨t,h.nox,q⟩
theorem Fun.binds {x qual:Str} {st:Stmt} {f:Addr} {fd:FuncData} {ps:List Str} (F:Fun K x qual st f fd)
    (h:∀ (kV doc pm:Value) (an:Option Addr) (cdv ct:Value) (us:List Value),us.length=ps.length→bindArgs (PySem.W.fnOf x qual (hZ st) (eV st) (aB st) .none kV doc pm an cdv ct) ⟨us,[]⟩=pure (ps.zip us)):Binds K fd ps []:=by
  obtain ⟨oc,od,kV,doc,pm,an,cdv,ct,osl,rfl,lk,hcd⟩:=F.ex
  exact .all (h kV doc pm an cdv ct)
theorem Ao {x qual:Str} {st:Stmt} {f:Addr} {oc:Value} {od an:Option Addr} {osl:Array (Option Value)} {kV doc pm cdv ct:Value} (l:K.lookup f=some ⟨oc,od,.func (PySem.W.fnOf x qual (hZ st) (eV st) (aB st) .none kV doc pm an cdv ct),osl⟩)
    (c:PySem.W.codeIn K cdv qual=true) (k:PySem.W.keepIn K (.ref f)=true):Fun K x qual st f (PySem.W.fnOf x qual (hZ st) (eV st) (aB st) .none kV doc pm an cdv ct):=⟨⟨oc,od,kV,doc,pm,an,cdv,ct,osl,rfl,l,c⟩,k⟩
end
section
variable {X:Cx}
theorem pv (i:Nat) {x:Str} {pos:Pos} (hN:X.N[i]?=some x:=by rfl) (hv:Vis X.env.scope x:=by first | exact Or.inl rfl | exact Or.inr (Or.inl rfl) | exact Or.inr (Or.inr rfl)) (hd:(x == ("__debug__":Str))=false:=by decide)
    (hcd:(x == ("__classdict__":Str))=false:=by decide):PE X (.Name x pos) (EV i):=oh hN hv hd hcd
end
theorem E8 {c A B:Prop} [Decidable c] (h1:c→A) (h2:¬ c→B):if c then A else B:=by
  by_cases h:c
  · rw [if_pos h]
    exact h1 h
  · rw [if_neg h]
    exact h2 h
noncomputable def aM (H H':Hp):Prop:=∀ b o,H b=some o→H' b=some o
theorem aM.refl (H:Hp):aM H H:=fun _ _ h=>h
theorem aM.trans {H H1 H2:Hp} (a:aM H H1) (b:aM H1 H2):aM H H2:=fun c o h=>b c o (a c o h)
theorem aM.free {H H':Hp} (e:aM H H') {l:Addr} (h:H' l=Option.none):H l=Option.none:=by
  cases q:H l with
  | none=>rfl
  | some o =>
    rw [e l o q] at h
    cases h
theorem aM.seq {K:PySem.W.Frag} {H H':Hp} {a:Addr} {xs:List V} (e:aM H H') (h:SqL K H a xs):SqL K H' a xs:=by
  rcases h with (h | ⟨o,h⟩) | h
  · exact .inl (.inl (e _ _ h))
  · exact .inl (.inr ⟨o,e _ _ h⟩)
  · exact .inr h
end L2
set_option maxRecDepth 100000
set_option maxHeartbeats 4000000
namespace L2
open PySem PySem.Spec PyProof.Rows
noncomputable def o6:List (Str × NameKind)→List (Str × Addr)→List (Str × Addr)→List (Str × Addr)
  | [],_,acc=>acc
  | (n,k)::r,cells,acc=>o6 r cells (if k == .free then (match cells.lookup n with | some c=>(n,c)::acc | none=>acc) else acc)
theorem ko (env:Env):∀ (names:List (Str × NameKind)) (acc:List (Str × Addr)),(∀ y∈names,y.2=.free→∃ c,env.cells.lookup y.1=some c) →
    (forIn names acc (fun (x:Str × NameKind) (cs:List (Str × Addr))=>match x with
      | (name,kind)=>if (kind == NameKind.free)=true then do let c ← cellOf env name; pure (ForInStep.yield ((name,c)::cs)) else pure (ForInStep.yield cs)):Sem (List (Str × Addr)))=pure (o6 names env.cells acc)
  | [],acc,_=>rfl
  | (n,k)::r,acc,h=>by
    rw [List.forIn_cons]
    have hr:∀ y∈r,y.2=.free→∃ c,env.cells.lookup y.1=some c:=fun y hy=>h y (List.mem_cons_of_mem _ hy)
    dsimp only [o6]
    by_cases hk:k=.free
    · subst hk
      obtain ⟨c,hc⟩:=h (n,.free) List.mem_cons_self rfl
      have hc':env.cells.lookup n=some c:=hc
      have e:cellOf env n=pure c:=by unfold cellOf; rw [hc']
      rw [if_pos (show (NameKind.free == NameKind.free)=true by decide),if_pos (show (NameKind.free == NameKind.free)=true by decide),e,hc']
      exact ko env r ((n,c)::acc) hr
    · have hb:¬ (k == NameKind.free)=true:=by simpa using hk
      rw [if_neg hb,if_neg hb]
      exact ko env r acc hr
theorem oV {scope:Scope} {env:Env} (h:∀ y∈scope.names,y.2=.free→∃ c,env.cells.lookup y.1=some c):closureFor scope env=pure (o6 scope.names env.cells []):=by
  have e:=ko env scope.names [] h
  unfold closureFor
  rw [← bind_pure (forIn scope.names [] _)] at e
  exact e
theorem vj:∀ (names:List (Str × NameKind)) (cells acc:List (Str × Addr)) (x:Str) (c:Addr),(∀ x c,acc.lookup x=some c→cells.lookup x=some c)→(o6 names cells acc).lookup x=some c→cells.lookup x=some c
  | [],_,_,x,c,h,e=>h x c e
  | (n,k)::r,cells,acc,x,c,h,e=>by
    refine vj r cells _ x c (fun y d hy=>?_) e
    split at hy
    · split at hy
      · rename_i c' hc'
        rw [List.lookup_cons] at hy
        by_cases hyn:(y == n)=true
        · rw [hyn] at hy
          have hy':y=n:=eq_of_beq hyn
          subst hy'
          cases hy
          exact hc'
        · have:(y == n)=false:=by simpa using hyn
          rw [this] at hy
          exact h y d hy
      · exact h y d hy
    · exact h y d hy
theorem rJ:∀ (names:List (Str × NameKind)) (cells acc:List (Str × Addr)) (x:Str),(∃ c,acc.lookup x=some c)→∃ c,(o6 names cells acc).lookup x=some c
  | [],_,_,_,h=>h
  | (n,k)::r,cells,acc,x,h=>by
    refine rJ r cells _ x ?_
    split
    · split
      · rw [List.lookup_cons]
        cases (x == n)
        · exact h
        · exact ⟨_,rfl⟩
      · exact h
    · exact h
theorem pG:∀ (names:List (Str × NameKind)) (cells acc:List (Str × Addr)) (x:Str) (c:Addr),(x,NameKind.free)∈names→cells.lookup x=some c→∃ c,(o6 names cells acc).lookup x=some c
  | [],_,_,_,_,h,_=>by simp at h
  | (n,k)::r,cells,acc,x,c,h,e=>by
    rcases List.mem_cons.mp h with h | h
    · injection h with h1 h2
      subst h1; subst h2
      refine rJ r cells _ x ?_
      rw [if_pos (by decide),e]
      exact ⟨c,by simp [List.lookup_cons]⟩
    · exact pG r cells _ x c h e
noncomputable def blk (X:Cx) (M:List Str) (scope:Scope) (own:List Str) (C:Addr) (s2:Shared) (H2:Hp) (fp:List Addr):Cx where
  prog:=X.prog
  w:=X.w
  K:=X.K
  mg:=X.mg
  base:=X.base
  A:=X.A
  N:=M++own
  s₀:=s2
  H₀:=H2
  env:=compEnvC scope (o6 scope.names X.env.cells []) C X.env
  outer:=X.stack
  stack:=X.stack
  ex:=fp
  fn:=fun _=>false
  calm:=X.calm
  pn:=[]
  xe:=fun _ _=>False
structure k7 (X:Cx) (M:List Str) (scope:Scope) (own:List Str):Prop where
  kind:scope.kind=.function
  nocell:∀ y∈scope.names,y.2≠.cell
  names:∀ y∈scope.names,y.2=.local→scope.names.lookup y.1=some .local
  free:∀ y∈scope.names,y.2=.free→Vis X.env.scope y.1∧X.env.scope.names.lookup y.1≠some .local
  own:∀ x∈own,scope.names.lookup x=some .local
  outer:∀ p∈X.N.zip M,(p.1=p.2∧scope.names.lookup p.2≠some .local)∨scope.names.lookup p.2=none
  len:M.length=X.N.length
noncomputable def qz (N M:List Str) (osc scope:Scope) (own:List Str):Bool :=
  (scope.kind == .function) && scope.names.all (fun y=>y.2 != .cell) && scope.names.all (fun y=>y.2 != .local || scope.names.lookup y.1 == some .local) &&
  scope.names.all (fun y=>y.2 != .free || (osc.names.lookup y.1 == some .cell || osc.names.lookup y.1 == some .free)) &&
  own.all (fun x=>scope.names.lookup x == some .local) && (N.zip M).all (fun p=>(p.1 == p.2 && scope.names.lookup p.2 != some .local) || scope.names.lookup p.2 == none) && (M.length == N.length)
theorem k7.of {X:Cx} {M:List Str} {scope:Scope} {own:List Str} (h:qz X.N M X.env.scope scope own=true):k7 X M scope own:=by
  unfold qz at h
  simp only [Bool.and_eq_true,List.all_eq_true,Bool.or_eq_true,bne_iff_ne,beq_iff_eq,ne_eq] at h
  obtain ⟨⟨⟨⟨⟨⟨h1,h2⟩,h3⟩,h4⟩,h5⟩,h6⟩,h7⟩:=h
  refine ⟨h1,h2,fun y hy e=>(h3 y hy).resolve_left fun z=>z e,fun y hy e=>?_,h5,h6,h7⟩
  rcases (h4 y hy).resolve_left fun z=>z e with q | q
  · exact ⟨.inr (.inl q),by rw [q]; intro z; cases z⟩
  · exact ⟨.inr (.inr q),by rw [q]; intro z; cases z⟩
theorem eW {env:Env}:∀ {names:List (Str × NameKind)} {x:Str} {k:NameKind},
    (names.map fun (n,k)=>if (k == NameKind.free && env.scope.kind == .function && env.kindOf n == some .cell) then (n,NameKind.cell) else (n,k)).lookup x=some k→(k=.cell∨k=.free)→(∀ y∈names,y.2≠.cell)→(x,NameKind.free)∈names
  | [],_,_,h,_,_=>by simp at h
  | (n,k')::r,x,k,h,hk,hn=>by
    have hr:∀ y∈r,y.2≠NameKind.cell:=fun y hy=>hn y (List.mem_cons_of_mem _ hy)
    rw [List.map_cons,List.lookup_cons] at h
    by_cases hc:(k' == NameKind.free && env.scope.kind == .function && env.kindOf n == some .cell)=true
    · have hf:k'=.free:=by
        have:=hc
        simp only [Bool.and_eq_true] at this
        exact eq_of_beq this.1.1
      simp only [if_pos hc] at h
      cases hx:x == n with
      | true =>
        have:x=n:=eq_of_beq hx
        subst this; subst hf
        exact List.mem_cons_self
      | false =>
        rw [hx] at h
        exact List.mem_cons_of_mem _ (eW h hk hr)
    · simp only [if_neg hc] at h
      cases hx:x == n with
      | true =>
        rw [hx] at h
        have e:k'=k:=Option.some.inj h
        have:x=n:=eq_of_beq hx
        subst this; subst e
        rcases hk with hk | hk
        · exact absurd hk (hn _ List.mem_cons_self)
        · subst hk; exact List.mem_cons_self
      | false =>
        rw [hx] at h
        exact List.mem_cons_of_mem _ (eW h hk hr)
theorem eR {env:Env}:∀ {names:List (Str × NameKind)} {x:Str} {k:NameKind},
    (names.map fun (n,k)=>if (k == NameKind.free && env.scope.kind == .function && env.kindOf n == some .cell) then (n,NameKind.cell) else (n,k)).lookup x=some k→(∃ k0,names.lookup x=some k0∧(k=k0∨(k=.cell∧k0=.free)))
  | [],_,_,h=>by simp at h
  | (n,k')::r,x,k,h=>by
    rw [List.map_cons,List.lookup_cons] at h
    rw [List.lookup_cons]
    by_cases hc:(k' == NameKind.free && env.scope.kind == .function && env.kindOf n == some .cell)=true
    · have hf:k'=.free:=by
        have:=hc
        simp only [Bool.and_eq_true] at this
        exact eq_of_beq this.1.1
      simp only [if_pos hc] at h
      cases hx:x == n with
      | true =>
        rw [hx] at h
        exact ⟨k',rfl,.inr ⟨(Option.some.inj h).symm,hf⟩⟩
      | false =>
        rw [hx] at h
        exact eR h
    · simp only [if_neg hc] at h
      cases hx:x == n with
      | true =>
        rw [hx] at h
        exact ⟨k',rfl,.inl (Option.some.inj h).symm⟩
      | false =>
        rw [hx] at h
        exact eR h
section
variable {X:Cx} {M:List Str} {pins:List (Addr × Obj)} {σ:St} {H2:Hp} {s2:Shared} {scope:Scope} {own:List Str} {fp:List Addr}
theorem Inv.blk {h1:Heap} {t':Nat} {C D:Addr} (I:Inv X pins σ H2 s2) (B:k7 X M scope own) (hf:∀ b∈fp,qe X pins H2 b) (hfs:∀ b∈fp,b < s2.heap.objs.size)
    (hD:D=s2.heap.objs.size) (hC:C=s2.heap.objs.size + 1) (hl:h1.get? D=some { cls:=.type "list",data:=.seq ([]:List Value).toArray 0 })
    (hn:h1.Ns C (fun _=>none)) (hk:∀ b o,s2.heap.get? b=some o→h1.get? b=some o) :
    Inv (L2.blk X M scope own C s2 H2 fp) [] (σ++List.replicate own.length none) (upd H2 D (.lst [])) { s2 with heap:=h1,toks:=t' }:=by
  have hcl:∀ x c,(o6 scope.names X.env.cells []).lookup x=some c→X.env.cells.lookup x=some c:=fun x c e=>vj _ _ _ _ _ (fun _ _ z=>by simp at z) e
  have hlt:∀ x c,(o6 scope.names X.env.cells []).lookup x=some c→c < s2.heap.objs.size:=fun x c e=>by
    obtain ⟨v,q⟩:=I.cell x c (hcl x c e)
    exact q.lt
  have freeD:H2 D=none:=I.hok.fresh (by rw [hD]; exact Nat.le_refl _)
  have freeC:H2 C=none:=I.hok.fresh (by rw [hC]; exact Nat.le_succ _)
  have hCD:C≠D:=by rw [hC,hD]; exact Nat.succ_ne_self _
  have hu:Un (frs X.stack) fp H2 (upd H2 D (.lst [])) s2.heap h1:=Un.laid hk (by rw [hD]; exact Nat.le_refl _) freeD
  refine ⟨⟨I.ok.mod,?_,I.ok.glob,I.ok.blt,?_,?_,?_,?_,I.ok.hd,I.ok.frames,.inl rfl,?_,I.bs,Nat.le_trans I.ok.bsz I.sz,?_,?_,I.stack,I.stkFree⟩,rfl,I.bare,hu,?_,?_,?_,?_,?_,?_,?_,fun P q t=>hu.tbls P q (I.tab P q t)⟩
  · exact B.kind
  · show s2.heap.objs.size≤C
    rw [hC]; exact Nat.le_succ _
  · intro x y c e1 e2
    exact I.ok.inj x y c (hcl x c e1) (hcl y c e2)
  · intro x hx
    have hm:(x,NameKind.free)∈scope.names:=by
      rcases hx with hx | hx
      · exact eW hx (.inl rfl) B.nocell
      · exact eW hx (.inr rfl) B.nocell
    obtain ⟨hv,hnl⟩:=B.free _ hm rfl
    have hh:X.env.kindOf x=some .cell∨X.env.kindOf x=some .free:=by
      rcases hv with z | z | z
      · exact absurd z hnl
      · exact .inl z
      · exact .inr z
    obtain ⟨c,e⟩:=I.ok.has x hh
    exact pG _ _ _ x c hm e
  · intro x c hfn _
    exact absurd (show false=true from hfn) (by decide)
  · intro b hb
    refine ⟨?_,fun x c e z=>?_⟩
    · show b≠C
      rw [hC]
      exact Nat.ne_of_lt (Nat.lt_succ_of_lt (hfs b hb))
    · exact (hf b hb).2.2.2.2.1 x c (hcl x c e) z
  · intro b o e hb
    obtain ⟨_,_,_,f3,_⟩:=hf b hb
    rcases f3 with z | z
    · exact I.ok.noex b o e z
    · exact absurd (Nat.lt_of_lt_of_le (Heap.lt_size (I.ok.bs b o e).1) z) (Nat.lt_irrefl _)
  · intro b hb hs
    obtain ⟨_,f1,f2,_⟩:=hf b hb
    rcases List.mem_cons.mp (I.stkSub b hs) with z | z
    · exact f1 z
    · exact f2 z
  · refine ⟨_,hn,fun i x v e1 e2 e3=>?_⟩
    have hi:i < σ.length:=by
      by_cases hi:i < σ.length
      · exact hi
      · rw [List.getElem?_append_right (by omega),List.getElem?_replicate] at e2
        split at e2 <;> cases e2
    rw [List.getElem?_append_left hi] at e2
    have hiN:i < X.N.length:=by rw [← I.len]; exact hi
    have hiM:i < M.length:=by rw [B.len]; exact hiN
    have e1M:M[i]?=some x:=by
      have:(M++own)[i]?=some x:=e1
      rwa [List.getElem?_append_left hiM] at this
    obtain ⟨y,ey⟩:∃ y,X.N[i]?=some y:=⟨_,List.getElem?_eq_getElem hiN⟩
    have hz:(y,x)∈X.N.zip M:=List.mem_of_getElem? (i:=i) (by rw [List.getElem?_zip_eq_some]; exact ⟨ey,e1M⟩)
    have hin:∃ k,scope.names.lookup x=some k:=by
      rcases e3 with z | z | z
      · obtain ⟨k0,hk0,_⟩:=eR (show _=some NameKind.local from z); exact ⟨k0,hk0⟩
      · obtain ⟨k0,hk0,_⟩:=eR (show _=some NameKind.cell from z); exact ⟨k0,hk0⟩
      · obtain ⟨k0,hk0,_⟩:=eR (show _=some NameKind.free from z); exact ⟨k0,hk0⟩
    have hout:y=x∧scope.names.lookup x≠some .local:=by
      rcases B.outer _ hz with q | q
      · exact q
      · obtain ⟨k,hk⟩:=hin; rw [q] at hk; cases hk
    have e1':X.N[i]?=some x:=by rw [← hout.1]; exact ey
    have hx:(relabel scope X.env).names.lookup x=some .cell∨(relabel scope X.env).names.lookup x=some .free:=by
      rcases e3 with z | z
      · obtain ⟨k0,hk0,hk⟩:=eR (show _=some NameKind.local from z)
        rcases hk with hk | ⟨hk,_⟩
        · subst hk
          exact absurd hk0 hout.2
        · cases hk
      · exact z
    have hm:(x,NameKind.free)∈scope.names:=by
      rcases hx with hx | hx
      · exact eW hx (.inl rfl) B.nocell
      · exact eW hx (.inr rfl) B.nocell
    obtain ⟨hv,hnl⟩:=B.free _ hm rfl
    obtain ⟨m,_,hl'⟩:=I.loc
    obtain ⟨u,r,l⟩:=hl' i x v e1' e2 hv
    refine ⟨u,r,.inr ⟨hx,?_⟩⟩
    rcases l with ⟨z,_⟩ | ⟨_,c,hc,z⟩
    · exact absurd z hnl
    · obtain ⟨c',hc'⟩:=pG scope.names X.env.cells [] x c hm hc
      have:=hcl x c' hc'
      rw [hc] at this
      cases this
      exact ⟨c,hc',z.keeps hk⟩
  · intro x c e
    obtain ⟨v,q⟩:=I.cell x c (hcl x c e)
    exact ⟨v,q.keeps hk⟩
  · show upd H2 D (.lst []) C=none
    rw [bw hCD]; exact freeC
  · intro x c e
    have h1:=hlt x c e
    rw [bw (by rw [hD]; exact Nat.ne_of_lt h1)]
    exact I.freeC x c (hcl x c e)
  · intro p hp
    exact absurd (show p∈([]:List (Addr × Obj))++[] from hp) (by simp)
  · exact I.hok.laid hk (by rw [hD]; exact Nat.le_refl _) ⟨Nat.zero_le _,[],0,.nil,hl⟩
  · show (σ++List.replicate own.length none).length=(M++own).length
    rw [List.length_append,List.length_append,List.length_replicate,I.len,B.len]
theorem Inv.unblk {C:Addr} {σ':St} {H':Hp} {s':Shared} {h':Heap} (I:Inv X pins σ H2 s2) (hf:∀ b∈fp,qe X pins H2 b) (hCs:s2.heap.objs.size≤C)
    (J:Inv (L2.blk X M scope own C s2 H2 fp) [] σ' H' s') (hs:Heap.SameBut C s'.heap h'):Inv X pins σ H' { s' with heap:=h' }:=by
  have hC:H' C=none:=J.free
  have k:∀ b o,b≠C→s'.heap.get? b=some o→h'.get? b=some o:=fun b o hb e=>(hs.2 b hb).trans e
  have old:∀ b o,s2.heap.get? b=some o→b≠C:=fun b o e=>Nat.ne_of_lt (Nat.lt_of_lt_of_le (Heap.lt_size e) hCs)
  have u:Un (frs X.stack) fp H2 H' s2.heap s'.heap:=J.base
  refine I.call' (s':={ s' with heap:=h' }) (ch:=fp) J.os ?_ ?_ J.bare fun b hb=>?_
  · refine ⟨fun b o e n h1 h2=>k b o (old b o e) (u.keep b o e n h1 h2),fun b o e n h1 h2=>?_,u.free,fun b o e h1=>?_,u.tups,u.frzs,u.tbls⟩
    · obtain ⟨sl,q⟩:=u.slot b o e n h1 h2
      exact ⟨sl,k b _ (old b o e) q⟩
    · obtain ⟨o',q⟩:=u.there b o e h1
      exact ⟨o',k b o' (old b o e) q⟩
  · intro b o e
    refine (J.hok b o e).stay (fun c v hc q=>k c v ?_ q) (fun _ q=>q) fun _ _ q=>q
    rintro rfl
    rcases hc with z | z
    · subst z; rw [hC] at e; cases e
    · rw [hC] at z; cases z
  · obtain ⟨f0,f1,f2,f3,f4,f5⟩:=hf b hb
    exact ⟨f3,f1,f4,f5⟩
end
section
variable {prog:Program} {w:World} {A:Around} {R:Result→Shared→Prop} {s:Shared}
theorem uw {elt target iter:Expr} {ifs:List Expr} {scope:Scope} {pos:Pos} {it acc:Value} {env:Env} (I:Nat→Shared→Prop)
    (turn:∀ n s,I n s→wpAny (model prog w) A (pyNext it) (fun r s₁=>match r with
      | none=>R (.ok .next) s₁
      | some v=>wpAny (model prog w) A (letOwnedTupleGo target it v) (fun _ s1'=>wpAny (model prog w) A (assign target env v) (fun _ s₂ =>
          wpAny (model prog w) A (forIn ifs true fun c r=>if r=true then do let ok ← isTrue c env (eval c env); pure (ForInStep.yield ok) else pure (ForInStep.yield r)) (fun ok s₃ =>
            if ok=true then wpAny (model prog w) A (eval elt env) (fun x s₄ =>
              wpAny (model prog w) A (call (.builtin "list.append") [acc,x]) (fun _ s₅=>∃ m,m < n∧I m s₅) (fun _ _=>False) s₄) (fun _ _=>False) s₃
            else ∃ m,m < n∧I m s₃) (fun _ _=>False) s₂) (fun _ _=>False) s1') (fun _ _=>False) s₁) (fun _ _=>False) s)
    (n:Nat) (h:I n s) :
    codeAny (model prog w) A (.compLoop (.ListComp elt [⟨target,iter,ifs,0⟩] scope pos) 0 it acc env) R s:=by
  refine codeAny_loop rfl I (fun n s hI=>?_) n h
  show wpAny _ A ((compTurn (.ListComp elt [⟨target,iter,ifs,0⟩] scope pos) 0 it acc env).onRaise (fun x=>do noteFrame x env; theTreesLotGoes x)) _ _ s
  refine wpAny_noted ?_
  rw [compTurn_list]
  refine wpAny_bind (wpAny_standAt (wpAny_bind (wpAny_mono (turn n s hI) (fun r s₁ h₁=>?_) fun _ _ h'=>h'.elim)))
  cases r with
  | none=>exact wpAny_pure h₁
  | some v =>
    refine wpAny_bind (wpAny_mono h₁ (fun _ s1' h1'=>?_) fun _ _ h'=>h'.elim)
    refine wpAny_bind (wpAny_mono h1' (fun _ s₂ h₂=>wpAny_bind (wpAny_mono h₂ (fun ok s₃ h₃=>?_) fun _ _ h'=>h'.elim)) fun _ _ h'=>h'.elim)
    cases ok with
    | false=>exact wpAny_pure ⟨rfl,h₃⟩
    | true =>
      exact wpAny_bind (wpAny_bind (wpAny_mono h₃ (fun x s₄ h₄=>wpAny_bind (wpAny_mono h₄ (fun _ s₅ h₅=>wpAny_pure (wpAny_pure ⟨rfl,h₅⟩)) fun _ _ h'=>h'.elim)) fun _ _ h'=>h'.elim))
end
noncomputable def Fc:TT:=fun _ H Q=>Q true H
inductive PTs (X:Cx):List Expr→TT→Prop
  | nil:PTs X [] Fc
  | one {c:Expr} {t:TT} (h:PT X c t):PTs X [c] t
theorem PTs.run {X:Cx} {ifs:List Expr} {t:TT} (h:PTs X ifs t) {pins:List (Addr × Obj)} {s:Shared} {σ:St} {H:Hp} {Q:Bool→Hp→Prop} (I:Inv X pins σ H s) (q:t σ H Q) :
    wpAny (model X.prog X.w) X.A (forIn ifs true fun c r=>if r=true then do let ok ← isTrue c X.env (eval c X.env); pure (ForInStep.yield ok) else pure (ForInStep.yield r)) (TP X pins σ Q) X.xe s:=by
  cases h with
  | nil=>exact wpAny_tests_nil ⟨H,I,q⟩
  | one h=>exact wpAny_tests_one (h pins s σ H Q I q)
noncomputable def LCR (J:It) (n:Nat) (g:TG) (tt:TT) (te:TE) (σ:St) (H1:Hp) (Q:VK):Prop:=∀ D,H1 D=none→∃ W:Nat→Nat→List V→Hp→Prop,(∃ m,W 0 m [] (upd H1 D (.lst []))) ∧
  ∀ i m ys H,W i m ys H→H D=some (.lst ys)∧((J.stop i H∧Q (.ref D) H)∨(J.go i H∧∀ x H' σ',σ'.length=n→J.yld i H x H'→g x (σ++σ') H' fun σ2 H2=>tt σ2 H2 fun b H3 =>
    if b=true then te σ2 H3 fun v H4=>H4 D=some (.lst ys)∧ys.length < sizeLine∧(∃ σ'',σ2=σ++σ''∧σ''.length=n)∧∃ m',m' < m∧W (i + 1) m' (ys++[v]) (upd H4 D (.lst (ys++[v])))
    else (∃ σ'',σ2=σ++σ''∧σ''.length=n)∧∃ m',m' < m∧W (i + 1) m' ys H3))
noncomputable def tLC (n:Nat) (wi:TI) (g:TG) (tt:TT) (te:TE):TE:=fun σ H Q=>wi σ H fun J H1=>LCR J n g tt te σ H1 Q
theorem qf {X:Cx} {M:List Str} {elt tg iter:Expr} {ifs:List Expr} {scope:Scope} {pos cpos:Pos} {own:List Str} {wi:TI} {g:TG} {tt:TT} {te:TE} {use:Option (Value→Sem Unit)} {Qf:Value→Shared→Prop} (hc:X.calm=true) (hi:PI X tg iter wi)
    (hg:∀ C s2 H2 fp,PG (blk X M scope own C s2 H2 fp) tg g) (ht:∀ C s2 H2 fp,PTs (blk X M scope own C s2 H2 fp) ifs tt) (he:∀ C s2 H2 fp,PE (blk X M scope own C s2 H2 fp) elt te)
    (hB:qz X.N M X.env.scope scope own=true) (hs:∀ x,foldedSetIterable iter X.env x=pure x) {pins:List (Addr × Obj)} {s:Shared} {σ:St} {H:Hp} {Q:VK} (I:Inv X pins σ H s) (h:tLC own.length wi g tt te σ H Q)
    (fin:∀ (C D:Addr) (s5:Shared) (H4:Hp),(∀ h',Heap.SameBut C s5.heap h'→Inv X pins σ H4 { s5 with heap:=h' })→(∃ m,s5.heap.Ns C m)→H4 C=none→C≠X.env.locals→(∀ x c,X.env.cells.lookup x=some c→c≠C)→(∀ p∈X.pn++pins,p.1≠C)→X.s₀.heap.objs.size≤C→Q (.ref D) H4 →
      compPost (model X.prog X.w) X.A X.xe use Qf (.ref D) C (.ok .next) s5) :
    wpAny (model X.prog X.w) X.A (comprehension (.ListComp elt [⟨tg,iter,ifs,0⟩] scope pos) scope X.env cpos (newList []) false (eval iter X.env) use) Qf X.xe s:=by
  have B:k7 X M scope own:=k7.of hB
  have hclos:closureFor scope X.env=pure (o6 scope.names X.env.cells []):=oV fun y hy hf=>by
    obtain ⟨hv,hnl⟩:=B.free y hy hf
    have hh:X.env.kindOf y.1=some .cell∨X.env.kindOf y.1=some .free:=by
      rcases hv with z | z | z
      · exact absurd z hnl
      · exact .inl z
      · exact .inr z
    exact I.ok.has y.1 hh
  refine wpAny_comprehension_free (use:=use) rfl hs hclos B.kind B.names (thn (hi pins s σ H _ I h) fun v s1 h1=>thn h1 fun itv s2 h2=>?_)
  obtain ⟨it,fp,tn,J,H2,e,I2,T,st2,f2,hD⟩:=h2
  subst e
  have ffs:∀ b∈fp,b < s2.heap.objs.size:=fun b hb=>by
    obtain ⟨o,q,_⟩:=T.obj _ _ st2 b hb
    exact Heap.lt_size q
  obtain ⟨W,⟨m0,w0⟩,turn⟩:=hD s2.heap.objs.size (I2.hok.fresh (Nat.le_refl _))
  refine wpAny_newObj_type (wpAny_newFunctionEnv B.nocell (by intro y hy; simp at hy) (fun h₁ hns₁ hsb₁=>?_) B.kind)
  dsimp only at hns₁ hsb₁ ⊢
  generalize hG:s2.heap.push { cls:=.type "list",dict:=none,data:=.seq ([]:List Value).toArray }=G at hns₁ hsb₁ ⊢
  have hC:G.objs.size=s2.heap.objs.size + 1:=by rw [← hG,Heap.size_push]
  have hk:∀ b o,s2.heap.get? b=some o→h₁.get? b=some o:=fun b o e=>hsb₁.extBut b o (by
    rw [hC]; exact Nat.ne_of_lt (Nat.lt_succ_of_lt (Heap.lt_size e))) (Heap.get?_push_of_some _ (hG ▸ Heap.get?_push_of_some _ e))
  have hDC:s2.heap.objs.size≠G.objs.size:=by rw [hC]; exact Nat.ne_of_lt (Nat.lt_succ_self _)
  have hl:h₁.get? s2.heap.objs.size=some { cls:=.type "list",data:=.seq ([]:List Value).toArray 0 }:=hsb₁.extBut _ _ hDC (Heap.get?_push_of_some _ (hG ▸ Heap.get?_push_size _ rfl))
  have hns:h₁.Ns G.objs.size (fun _=>none):=by
    have e:(fun x=>([]:List (Str × Value)).reverse.lookup x)=fun _=>none:=by funext x; rfl
    rw [← e]; exact hns₁
  have I3:=fun t'=>I2.blk (t':=t') (C:=G.objs.size) (D:=s2.heap.objs.size) B f2 ffs rfl hC hl hns hk
  have stat:∀ {H':Hp},(∀ b∈fp,H' b=none)→∀ b∈fp,qe (blk X M scope own G.objs.size s2 H2 fp) [] H' b:=fun hn b hb=>by
    refine ⟨hn b hb,?_,?_,.inl hb,fun x c e z=>?_,fun p hp=>absurd (show p∈([]:List (Addr × Obj))++[] from hp) (by simp)⟩
    · show b≠G.objs.size
      rw [hC]; exact Nat.ne_of_lt (Nat.lt_succ_of_lt (ffs b hb))
    · exact (I3 0).ok.exfs b hb
    · exact ((I3 0).ok.exf b hb).2 x c e z
  have loop:∀ s3:Shared,(∃ t',s3={ s2 with heap:=h₁,toks:=t' })→codeAny (model X.prog X.w) X.A (.compLoop (.ListComp elt [⟨tg,iter,ifs,0⟩] scope pos) 0 (.ref it) (.ref s2.heap.objs.size) (compEnvC scope (o6 scope.names X.env.cells []) G.objs.size X.env))
      (compPost (model X.prog X.w) X.A X.xe use Qf (.ref s2.heap.objs.size) G.objs.size) s3:=by
    rintro s3 ⟨t',rfl⟩
    refine uw (fun n s'=>∃ i ys σ' H',σ'.length=own.length∧Inv (blk X M scope own G.objs.size s2 H2 fp) [] (σ++σ') H' s'∧tn i s'.heap∧(∀ b∈fp,H' b=none)∧W i n ys H') ?_ m0
      ⟨0,[],_,_,by simp,I3 t',T.keep _ _ _ st2 fun b hb o e=>hk b o e,fun b hb=>by rw [bw (Nat.ne_of_lt (ffs b hb))]; exact (f2 b hb).1,w0⟩
    rintro n s4 ⟨i,ys,σ',H4,hl',I4,st4,fr4,w4⟩
    obtain ⟨hDl,alt⟩:=turn i n ys H4 w4
    rcases alt with ⟨stop,qn⟩ | ⟨go,step⟩
    · refine thn (T.done (blk X M scope own G.objs.size s2 H2 fp) rfl rfl rfl hc i [] s4 _ H4 _ I4 (stat fr4) st4 stop) fun r s5 rz2=>?_
      obtain ⟨hr,I5⟩:=rz2
      subst hr
      obtain ⟨m,hn,_⟩:=I5.loc
      have cS:s2.heap.objs.size≤G.objs.size:=by rw [hC]; exact Nat.le_succ _
      refine fin G.objs.size s2.heap.objs.size s5 H4 (fun h' hs'=>I2.unblk (C:=G.objs.size) f2 cS I5 hs') ⟨m,hn⟩ I5.free ?_ (fun x c e=>?_) (fun p hp=>?_) (Nat.le_trans I2.sz cS) qn
      · obtain ⟨_,hl0,_⟩:=I2.loc
        exact Nat.ne_of_gt (Nat.lt_of_lt_of_le hl0.lt cS)
      · obtain ⟨_,q⟩:=I2.cell x c e
        exact Nat.ne_of_lt (Nat.lt_of_lt_of_le q.lt cS)
      · exact Nat.ne_of_lt (Nat.lt_of_lt_of_le (Heap.lt_size (I2.pin p hp).1) cS)
    · refine thn (T.item (blk X M scope own G.objs.size s2 H2 fp) rfl rfl rfl hc i [] s4 _ H4 _ I4 (stat fr4) st4 go) fun r s5 rz2=>?_
      obtain ⟨u,hr,h5⟩:=rz2
      subst hr
      refine thn h5 fun _ s6 rz2=>?_
      obtain ⟨x,H6,I6,r6,y6,st6,fr6⟩:=rz2
      have I6':=I6.pinned (stat fr6) (T.obj _ _ st6)
      have kp:∀ {σ7:St} {H7:Hp} {s7:Shared},Inv (blk X M scope own G.objs.size s2 H2 fp) ([]++qO fp s6.heap) σ7 H7 s7→tn (i + 1) s7.heap∧∀ b∈fp,H7 b=none:=fun {σ7 H7 s7} I7=>by
        refine ⟨T.keep _ _ _ st6 fun b hb o e=>(I7.pin (b,o) (List.mem_append_right _ (List.mem_append_right _ (kr hb e)))).1,fun b hb=>?_⟩
        obtain ⟨o,e,d⟩:=T.obj _ _ st6 b hb
        exact (I7.pin (b,o) (List.mem_append_right _ (List.mem_append_right _ (kr hb e)))).2.1
      refine thn (hg _ _ _ _ _ s6 _ H6 x u _ I6' r6 (step x H6 σ' hl' y6)) fun _ s7 rz2=>?_
      obtain ⟨σ7,H7,I7,q7⟩:=rz2
      refine thn ((ht _ _ _ _).run I7 q7) fun ok s8 rz2=>?_
      obtain ⟨H8,I8,q8⟩:=rz2
      cases ok with
      | false =>
        obtain ⟨⟨σ'',e,l''⟩,m',hm,w8⟩:=(show if false=true then _ else _ from q8)
        subst e
        obtain ⟨k1,k2⟩:=kp I8
        exact ⟨m',hm,i + 1,ys,σ'',H8,l'',I8.unpinned,k1,k2,w8⟩
      | true =>
        have q8:te σ7 H8 _:=q8
        refine thn (he _ _ _ _ _ s8 σ7 H8 _ I8 q8) fun y s9 rz2=>?_
        obtain ⟨v,H9,I9,r9,d9,z9,⟨σ'',e,l''⟩,m',hm,w9⟩:=rz2
        subst e
        refine thn (nW (X:=blk X M scope own G.objs.size s2 H2 fp) _ s9 _ H9 (.ref s2.heap.objs.size) [v] (.ref s2.heap.objs.size) [y] (fun _ H'=>H'=upd H9 s2.heap.objs.size (.lst (ys++[v]))) I9 rfl (.cons r9 .nil) ⟨_,ys,v,rfl,rfl,d9,z9,rfl⟩) fun _ s10 rz2=>?_
        obtain ⟨_,H10,I10,_,e10⟩:=rz2
        subst e10
        obtain ⟨k1,k2⟩:=kp I10
        exact ⟨m',hm,i + 1,ys++[v],σ'',_,l'',I10.unpinned,k1,k2,w9⟩
  exact codeAny_compStart_list (loop _ ⟨_,rfl⟩) (T.self _ 0 _ _ _ (T.keep _ _ _ st2 fun b hb o e=>hk b o e) (loop _ ⟨_,rfl⟩))
theorem Ae {X:Cx} {M:List Str} {elt tg iter:Expr} {ifs:List Expr} {scope:Scope} {pos:Pos} {own:List Str} {wi:TI} {g:TG} {tt:TT} {te:TE} (hc:X.calm=true) (hi:PI X tg iter wi)
    (hg:∀ C s2 H2 fp,PG (blk X M scope own C s2 H2 fp) tg g) (ht:∀ C s2 H2 fp,PTs (blk X M scope own C s2 H2 fp) ifs tt) (he:∀ C s2 H2 fp,PE (blk X M scope own C s2 H2 fp) elt te)
    (hB:qz X.N M X.env.scope scope own=true:=by rfl) (hs:∀ x,foldedSetIterable iter X.env x=pure x:=by intro _; rfl):PE X (.ListComp elt [⟨tg,iter,ifs,0⟩] scope pos) (tLC own.length wi g tt te):=by
  intro pins s σ H Q I h
  rw [eval_ListComp]
  refine qf hc hi hg ht he hB hs I h fun C D s5 H4 k rz5 _ _ _ _ _ q=>?_
  obtain ⟨m,hn⟩:=rz5
  exact ⟨m,hn,fun h' hs'=>⟨.ref D,H4,k h' hs',rfl,q⟩⟩
theorem AG {X:Cx} {M:List Str} {elt tg iter:Expr} {ifs:List Expr} {scope:Scope} {pos pos' spos:Pos} {own:List Str} {wi:TI} {g:TG} {tt:TT} {te:TE} {i:Nat} {x:Str} (hc:X.calm=true) (hN:X.N.Nodup) (hxi:X.N[i]?=some x) (hx:Loc X.env.scope x)
    (hsw:swapsWith (.ListComp elt [⟨tg,iter,ifs,0⟩] scope pos) (some (.Name x pos')) spos.line X.env=pure true) (hi:PI X tg iter wi)
    (hg:∀ C s2 H2 fp,PG (blk X M scope own C s2 H2 fp) tg g) (ht:∀ C s2 H2 fp,PTs (blk X M scope own C s2 H2 fp) ifs tt) (he:∀ C s2 H2 fp,PE (blk X M scope own C s2 H2 fp) elt te)
    (hB:qz X.N M X.env.scope scope own=true:=by rfl) (hs:∀ x,foldedSetIterable iter X.env x=pure x:=by intro _; rfl) (hf:X.fn x=true∨X.env.scope.names.lookup x=some .local:=by first | exact .inl rfl | exact .inr rfl | assumption) :
    PS X (.Assign [.Name x pos'] (.ListComp elt [⟨tg,iter,ifs,0⟩] scope pos) spos) (Cb (tLC own.length wi g tt te) (oP i)):=by
  intro pins s σ H D I h
  show wpAny _ _ (exec _ X.env) _ _ s
  rw [exec_Assign_Name_used _ _ _ _ hsw]
  refine wpAny_bind (wpAny_standAt (wpAny_bind ?_))
  rw [arm_evalThenUse_ListComp]
  refine wpAny_bind (thn (qf (use:=some (assign (.Name x pos') X.env)) (Qf:=fun _ s'=>SP X pins D .next s') hc hi hg ht he hB hs I h fun C Dd s5 H4 k rz5 hC nl nc np ns q=>?_) fun _ s' hq=>wpAny_pure (wpAny_pure hq))
  obtain ⟨m,hn⟩:=rz5
  have I5:=k s5.heap (Heap.SameBut.refl _ _)
  show wpAny _ _ (assign (.Name x pos') X.env (.ref Dd)) _ _ s5
  refine wpAny_assign_Name (rD (v:=.ref Dd) I5 hN hxi hx rfl (fun s3 I3 rz2=>?_) hf)
  obtain ⟨a,sb,ha⟩:=rz2
  have nCa:C≠a:=by
    rcases ha with rfl | ha
    · exact nl
    · exact fun z=>nc x a ha z.symm
  refine ⟨m,hn.sameBut sb nCa,fun h' hs'=>⟨_,H4,?_,q⟩⟩
  have kk:∀ b o,b≠C→s3.heap.get? b=some o→h'.get? b=some o:=fun b o hb e=>(hs'.2 b hb).trans e
  refine I3.call' (s':={ s3 with heap:=h' }) (ch:=[C]) rfl ?_ ?_ I3.bare fun b hb=>?_
  · refine ⟨fun b o e _ _ z=>kk b o (fun q=>z (by rw [q]; exact List.mem_singleton.mpr rfl)) e,fun b o e _ _ z=>⟨o.slots,kk b o (fun q=>z (by rw [q]; exact List.mem_singleton.mpr rfl)) e⟩,fun _ _ _ n _=>n,fun b o e z=>⟨o,kk b o (fun q=>z (by rw [q]; exact List.mem_singleton.mpr rfl)) e⟩,fun _ _ q=>q,fun _ _ _ q=>q,fun _ _ q=>q⟩
  · intro b o e
    refine (I3.hok b o e).stay (fun c v hc q=>kk c v ?_ q) (fun _ q=>q) fun _ _ q=>q
    rintro rfl
    rcases hc with z | z
    · subst z; rw [hC] at e; cases e
    · rw [hC] at z; cases z
  · rw [List.mem_singleton.mp hb]
    exact ⟨.inr ns,fun z=>nl z,nc,np⟩
end L2
set_option maxRecDepth 100000
set_option maxHeartbeats 4000000
namespace L2
open PySem PySem.Spec PyProof.Rows
mutual
noncomputable def IsD (K:PySem.W.Frag) (H:Hp):PyData→V→Prop
  | .none,v=>v=.non
  | .bool b,v=>v=.bl b
  | .int i,v=>v=.int i
  | .str x,v=>v=.str x
  | .list ds,v=>∃ a xs,v=.ref a∧SqL K H a xs∧fB K H ds xs
  | .tuple ds,v=>∃ a xs,v=.ref a∧SqT K H a xs∧fB K H ds xs
  | .dict _,_=>False
noncomputable def fB (K:PySem.W.Frag) (H:Hp):List PyData→List V→Prop
  | [],vs=>vs=[]
  | d::ds,vs=>∃ v r,vs=v::r∧IsD K H d v∧fB K H ds r
end
theorem aM.tupS {K:PySem.W.Frag} {H H':Hp} {a:Addr} {xs:List V} (e:aM H H') (h:SqT K H a xs):SqT K H' a xs:=by
  rcases h with (h | ⟨o,h⟩) | h
  · exact .inl (.inl (e _ _ h))
  · exact .inl (.inr ⟨o,e _ _ h⟩)
  · exact .inr h
mutual
theorem IsD.same {K:PySem.W.Frag} {H H':Hp} (e:aM H H'):∀ {d:PyData} {v:V},IsD K H d v→IsD K H' d v
  | .none,_,h=>by unfold IsD at h ⊢; exact h
  | .bool _,_,h=>by unfold IsD at h ⊢; exact h
  | .int _,_,h=>by unfold IsD at h ⊢; exact h
  | .str _,_,h=>by unfold IsD at h ⊢; exact h
  | .list ds,_,h=>by
    unfold IsD at h ⊢
    obtain ⟨a,xs,e1,h1,h2⟩:=h
    exact ⟨a,xs,e1,e.seq h1,fB.same e h2⟩
  | .tuple ds,_,h=>by
    unfold IsD at h ⊢
    obtain ⟨a,xs,e1,h1,h2⟩:=h
    exact ⟨a,xs,e1,e.tupS h1,fB.same e h2⟩
  | .dict _,_,h=>by unfold IsD at h; exact h.elim
theorem fB.same {K:PySem.W.Frag} {H H':Hp} (e:aM H H'):∀ {ds:List PyData} {vs:List V},fB K H ds vs→fB K H' ds vs
  | [],_,h=>by unfold fB at h ⊢; exact h
  | d::ds,_,h=>by
    unfold fB at h ⊢
    obtain ⟨v,r,e1,h1,h2⟩:=h
    exact ⟨v,r,e1,IsD.same e h1,fB.same e h2⟩
end
section
variable {K:PySem.W.Frag} {H:Hp}
theorem uo {i:Int}:IsD K H (.int i) (.int i):=by unfold IsD; rfl
theorem z0 {b:Bool}:IsD K H (.bool b) (.bl b):=by unfold IsD; rfl
theorem AB:IsD K H .none .non:=by unfold IsD; rfl
theorem BU {x:Str}:IsD K H (.str x) (.str x):=by unfold IsD; rfl
theorem BN {ds:List PyData} {a:Addr} {xs:List V} (h:SqT K H a xs) (h2:fB K H ds xs):IsD K H (.tuple ds) (.ref a):=by unfold IsD; exact ⟨a,xs,rfl,h,h2⟩
theorem tf {ds:List PyData} {a:Addr} {xs:List V} (h:SqL K H a xs) (h2:fB K H ds xs):IsD K H (.list ds) (.ref a):=by unfold IsD; exact ⟨a,xs,rfl,h,h2⟩
theorem pL:fB K H [] []:=by unfold fB; rfl
theorem sj {d:PyData} {ds:List PyData} {v:V} {vs:List V} (h:IsD K H d v) (h2:fB K H ds vs):fB K H (d::ds) (v::vs):=by unfold fB; exact ⟨v,vs,rfl,h,h2⟩
theorem IsD.ofInt {i:Int} {v:V} (h:IsD K H (.int i) v):v=.int i:=by unfold IsD at h; exact h
theorem IsD.ofBool {i:Bool} {v:V} (h:IsD K H (.bool i) v):v=.bl i:=by unfold IsD at h; exact h
theorem IsD.ofNone {v:V} (h:IsD K H .none v):v=.non:=by unfold IsD at h; exact h
theorem IsD.ofStr {x:Str} {v:V} (h:IsD K H (.str x) v):v=.str x:=by unfold IsD at h; exact h
theorem IsD.ofTup {ds:List PyData} {v:V} (h:IsD K H (.tuple ds) v):∃ a xs,v=.ref a∧SqT K H a xs∧fB K H ds xs:=by unfold IsD at h; exact h
theorem IsD.ofLst {ds:List PyData} {v:V} (h:IsD K H (.list ds) v):∃ a xs,v=.ref a∧SqL K H a xs∧fB K H ds xs:=by unfold IsD at h; exact h
theorem fB.nil_of {vs:List V} (h:fB K H [] vs):vs=[]:=by unfold fB at h; exact h
theorem fB.cons_of {d:PyData} {ds:List PyData} {vs:List V} (h:fB K H (d::ds) vs):∃ v r,vs=v::r∧IsD K H d v∧fB K H ds r:=by unfold fB at h; exact h
theorem sk:∀ (ns:List Int),fB K H (ns.map PyData.int) (ns.map V.int)
  | []=>pL
  | _::r=>sj uo (sk r)
end
section
variable {X:Cx} {pins:List (Addr × Obj)} {σ:St} {H:Hp} {s:Shared}
mutual
theorem Inv.reads (I:Inv X pins σ H s):∀ {d:PyData} {v:V} {u:Value},IsD X.K H d v→RelV v u→∃ as,Reads s.heap u d as
  | .none,_,_,h,r=>by rw [h.ofNone] at r; cases r; exact ⟨_,.none⟩
  | .bool _,_,_,h,r=>by rw [h.ofBool] at r; cases r; exact ⟨_,.bool _⟩
  | .int _,_,_,h,r=>by rw [h.ofInt] at r; obtain ⟨t,rfl⟩:=r; exact ⟨_,.int _ _⟩
  | .str _,_,_,h,r=>by rw [h.ofStr] at r; obtain ⟨t,rfl⟩:=r; exact ⟨_,.str _ _⟩
  | .list ds,_,_,h,r=>by
    obtain ⟨a,xs,e,h1,h2⟩:=h.ofLst
    subst e; cases r
    obtain ⟨its,rv,⟨o,n,g,c,_,d⟩,_⟩:=I.list h1
    obtain ⟨as,ra⟩:=Inv.readsAll I h2 rv
    exact ⟨_,.list g c d (by simpa using ra)⟩
  | .tuple ds,_,_,h,r=>by
    obtain ⟨a,xs,e,h1,h2⟩:=h.ofTup
    subst e; cases r
    obtain ⟨its,rv,⟨o,g,c,n,d⟩,_⟩:=I.tuple h1
    obtain ⟨as,ra⟩:=Inv.readsAll I h2 rv
    exact ⟨_,.tuple g c d (by simpa using ra)⟩
  | .dict _,_,_,h,_=>by unfold IsD at h; exact h.elim
theorem Inv.readsAll (I:Inv X pins σ H s):∀ {ds:List PyData} {vs:List V} {us:List Value},fB X.K H ds vs→Vals vs us→∃ as,ReadsAll s.heap us ds as
  | [],_,_,h,r=>by
    rw [h.nil_of] at r
    cases r
    exact ⟨_,.nil⟩
  | d::ds,_,_,h,r=>by
    obtain ⟨v,t,e,h1,h2⟩:=h.cons_of
    subst e
    cases r with
    | cons r1 r2 =>
      obtain ⟨as,q1⟩:=Inv.reads I h1 r1
      obtain ⟨bs,q2⟩:=Inv.readsAll I h2 r2
      exact ⟨_,.cons q1 q2⟩
end
open PySem.SeqAt in
theorem wb (hu:X.A.units + 64 < cLine):OpR X (compareOp .Eq) (fun x y H Q=>∃ d e,IsD X.K H d x∧IsD X.K H e y∧shaped d=true∧shaped e=true∧Q (.bl (PyData.eqv d e)) H):=by
  intro pins s σ H x y v u Q I rx ry h
  obtain ⟨d,e,hd,he,sd,se,q⟩:=h
  obtain ⟨as,ra⟩:=I.reads hd rx
  obtain ⟨bs,rb⟩:=I.reads he ry
  exact eq_dataH ra rb sd se hu ⟨.bl _,H,I,rfl,q⟩
open PySem.SeqAt in
theorem Eb (hu:X.A.units + 64 < cLine):OpR X (compareOp .NotEq) (fun x y H Q=>∃ d e,IsD X.K H d x∧IsD X.K H e y∧shaped d=true∧shaped e=true∧Q (.bl (!PyData.eqv d e)) H):=by
  intro pins s σ H x y v u Q I rx ry h
  obtain ⟨d,e,hd,he,sd,se,q⟩:=h
  obtain ⟨as,ra⟩:=I.reads hd rx
  obtain ⟨bs,rb⟩:=I.reads he ry
  exact ne_dataH ra rb sd se hu ⟨.bl _,H,I,rfl,q⟩
noncomputable def tyD:PyData→String
  | .none=>"NoneType"
  | .bool _=>"bool"
  | .int _=>"int"
  | .str _=>"str"
  | .list _=>"list"
  | .tuple _=>"tuple"
  | .dict _=>"dict"
noncomputable def tK (d:PyData) (T:String):Bool:=tyD d == T || (T == "int" && tyD d == "bool")
theorem BB (K:PySem.W.Frag) {a T:String} (ha:a∈["NoneType", "bool", "int", "str", "list", "tuple"]) (hT:T∈["bool", "int", "list", "tuple"]) :
    PySem.W.kitOne K (.type a) (.type T)=some (a == T || (T == "int" && a == "bool")):=by
  simp only [List.mem_cons,List.not_mem_nil,or_false] at ha hT
  rcases ha with rfl | rfl | rfl | rfl | rfl | rfl <;> rcases hT with rfl | rfl | rfl | rfl <;> rfl
theorem Cv {H:Hp} {K:PySem.W.Frag} {d:PyData} {v:V} (h:IsD K H d v):tyD d∈["NoneType", "bool", "int", "str", "list", "tuple"]:=by
  cases d with
  | dict _=>unfold IsD at h; exact h.elim
  | _=>simp [tyD]
theorem vC:lT X (.builtin "isinstance") (fun xs H Q=>∃ d v T,xs=[v,.ty T]∧IsD X.K H d v∧T∈["bool", "int", "list", "tuple"]∧Q (.bl (tK d T)) H):=by
  intro pins s σ H xs us Q I r h
  obtain ⟨d,v,T,rfl,hd,hT,q⟩:=h
  obtain ⟨u,c,rfl,r1,r2⟩:=vals2 r
  cases r2
  have e:PySem.W.kitOne X.K (.type (tyD d)) (.type T)=some (tK d T):=BB X.K (Cv hd) hT
  have fin:∀ tk,EP X pins σ Q (.bool (tK d T)) { s with toks:=tk }:=fun tk=>⟨.bl _,H,I.tok tk,rfl,q⟩
  cases d with
  | none=>rw [hd.ofNone] at r1; cases r1; exact PySem.W.kia_one PySem.W.kitx_none I.kIn True.intro e (fun z=>nomatch z) fin
  | bool b=>rw [hd.ofBool] at r1; cases r1; exact PySem.W.kia_one PySem.W.kitx_bool I.kIn True.intro e (fun z=>nomatch z) fin
  | int i=>rw [hd.ofInt] at r1; obtain ⟨t,rfl⟩:=r1; exact PySem.W.kia_one PySem.W.kitx_int I.kIn True.intro e (fun z=>nomatch z) fin
  | str x=>rw [hd.ofStr] at r1; obtain ⟨t,rfl⟩:=r1; exact PySem.W.kia_one PySem.W.kitx_str I.kIn True.intro e (fun z=>nomatch z) fin
  | list ds =>
    obtain ⟨a,xs,e1,h1,h2⟩:=hd.ofLst
    subst e1; cases r1
    obtain ⟨its,rv,⟨o,n,g,c,_,_⟩,_⟩:=I.list h1
    exact PySem.W.kia_one PySem.W.kitx_list I.kIn ⟨o,g,c⟩ e (fun z=>nomatch z) fin
  | tuple ds =>
    obtain ⟨a,xs,e1,h1,h2⟩:=hd.ofTup
    subst e1; cases r1
    obtain ⟨its,rv,⟨o,g,c,n,_⟩,_⟩:=I.tuple h1
    exact PySem.W.kia_one PySem.W.kitx_tuple I.kIn ⟨o,g,c⟩ e (fun z=>nomatch z) fin
  | dict _=>unfold IsD at hd; exact hd.elim
theorem pP:∀ {bs:List Bool} {us:List Value},Vals (bs.map V.bl) us→LSm.BoolsAre us bs
  | [],_,.nil=>.nil
  | b::r,_,.cons h t=>by
    cases (show _=Value.bool b from h)
    exact .cons b (pP t)
theorem Av (hc:X.calm=true):lT X (.builtin "all") (fun xs H Q=>∃ (a:Addr) (bs:List Bool),xs=[.ref a]∧SqL X.K H a (bs.map V.bl)∧Q (.bl (bs.all id)) H):=by
  intro pins s σ H xs us Q I r h
  obtain ⟨a,bs,rfl,hS,q⟩:=h
  obtain ⟨u,rfl,r1⟩:=vals1 r
  cases r1
  obtain ⟨its,rv,p,_⟩:=I.list hS
  have hl:=p.isList
  have hb:=pP rv
  have hlt:a < s.heap.objs.size:=by obtain ⟨_,e,_⟩:=hl; exact Heap.lt_size e
  refine call_all_walk (wpAny_pyIter_list hl ?_)
  refine ⟨s.heap.objs.size,[s.heap.objs.size,a],[s.heap.objs.size],its.toArray.size,_,_,fun i=>(bs[i]?).getD true,rfl,Walks.list (A:=X.A.in1) (I.ok.hd hc) _ a (Nat.ne_of_lt hlt) its.toArray,
    ⟨⟨_,Heap.get?_push_size _ rfl,rfl,rfl⟩,hl.push _⟩,fun i v s' Q' E' hP hQ=>?_,fun h' tk hk=>?_⟩
  · obtain ⟨b,e,rfl⟩:=hb.get i v (by simpa using hP)
    simp only [e,Option.getD_some] at hQ
    exact wpAny_truthy_bool hQ
  · have e:((List.range its.toArray.size).all fun i=>(bs[i]?).getD true)=bs.all id:=by
      rw [List.size_toArray,hb.length]; exact LSm.range_all bs
    rw [e]
    exact ⟨.bl _,H,I.kept (LSm.kept_iter hk),rfl,q⟩
theorem zF (hc:X.calm=true):lT X (.builtin "sum") (fun xs H Q=>∃ (a:Addr) (ns:List Int),xs=[.ref a]∧SqL X.K H a (ns.map V.int)∧Q (.int ns.sum) H):=by
  intro pins s σ H xs us Q I r h
  obtain ⟨a,ns,rfl,hS,q⟩:=h
  obtain ⟨u,rfl,r1⟩:=vals1 r
  cases r1
  obtain ⟨its,rv,p,_⟩:=I.list hS
  have hi:IntsAre its ns:=intsAre_of rv
  obtain ⟨xs,hx⟩:=hi.allInts.items
  have hl':s.heap.IsList a (intItems xs):=hx ▸ p.isList
  refine sum_intListG (I.ok.hd hc) hl' fun h' tk t' hk=>?_
  have e1:ns=xs.toList.map (·.1):=by
    rw [← nums_intItems,← hx]
    exact (show numsOf its.toArray.toList=ns from hi.numsOf).symm
  have e2:preSum (numAt xs) xs.size=ns.sum:=by
    rw [preSum_eq,List.take_of_length_le (by simp),e1]
  rw [e2]
  exact ⟨.int _,H,I.kept hk,⟨_,rfl⟩,q⟩
end
end L2
set_option maxRecDepth 100000
set_option maxHeartbeats 4000000
namespace L2
open PySem PySem.Spec PyProof.Rows
structure FR (P:Program) (w:World) (outer:List Env) (H:Hp) (s:Shared) (H':Hp) (B:Heap) (ea:Addr) (cls a0:Value) (s':Shared):Prop where
  os:s'.os=s.os
  bare:AllBare s'.gens
  hok:HOk P w H' B
  keep:∀ b o,s.heap.get? b=some o→H b=none→b ∉ frs outer→B.get? b=some o
  there:∀ b o,s.heap.get? b=some o→b ∉ frs outer→∃ o',B.get? b=some o'
  slot:∀ b o,s.heap.get? b=some o→b∈frs outer→∃ sl,s'.heap.get? b=some { o with slots:=sl }
  free:∀ b o,s.heap.get? b=some o→H b=none→H' b=none
  tups:∀ b xs,H b=some (.tup xs)→H' b=some (.tup xs)
  frzs:∀ b o u,H b=some (.frz o u)→H' b=some (.frz o u)
  tbls:∀ b q,H b=some (.tbl q)→H' b=some (.tbl q)
  fly:Heap.FlyingW B outer ea cls a0 s'.heap
noncomputable def CXW (P:Program) (w:World):CXT:=fun outer H s E e s'=>∃ ea cls a0 H' B,e=.ref ea∧E cls none H'∧FR P w outer H s H' B ea cls a0 s'
section
variable {P:Program} {w:World} {K:PySem.W.Frag} {mg:Str→Option Value} {base:Heap} {N:List Str} {qual:Str} {scope:Scope} {f:Addr} {cd:Value} {A:Around} {outer:List Env} {s:Shared} {H:Hp} {E:XK}
theorem vE {env:Env} {L:Addr} (hf:env.frame=some L):frs (env::outer)=L::frs outer:=by
  unfold frs
  rw [List.filterMap_cons,hf]
theorem vW {CX:CXT} {pins:List (Addr × Obj)} {σ:St} {H1:Hp} {s1:Shared} {h':Heap} {ea:Addr} {cls:Value} {vs:List Value}
    (I:Inv (jE (CXW P w) P w K mg base N qual scope f cd A outer s H E) pins σ H1 s1) (hx:Heap.MadeExcOf s1.heap h' ea cls vs) (hE:E cls none H1) :
    (jE (CXW P w) P w K mg base N qual scope f cd A outer s H E).xe (.ref ea) { s1 with heap:=h' }:=by
  have hst:=I.stack
  have hfs:frs (jE (CXW P w) P w K mg base N qual scope f cd A outer s H E).stack=s.heap.objs.size::frs outer:=vE rfl
  have hin:∀ env∈(jE (CXW P w) P w K mg base N qual scope f cd A outer s H E).stack,∀ b,env.frame=some b→b∈frs (jE (CXW P w) P w K mg base N qual scope f cd A outer s H E).stack:=fun env he b hb=>List.mem_filterMap.mpr ⟨env,he,hb⟩
  have out:∀ b o,s.heap.get? b=some o→b ∉ frs outer→b ∉ frs (jE (CXW P w) P w K mg base N qual scope f cd A outer s H E).stack:=fun b o e n z=>by
    rw [hfs] at z
    rcases List.mem_cons.mp z with z | z
    · rw [z] at e; exact absurd (Heap.lt_size e) (Nat.lt_irrefl _)
    · exact n z
  refine wpAny_leaves_madeW (base:=PySem.W.hideAll s1.heap (frs (jE (CXW P w) P w K mg base N qual scope f cd A outer s H E).stack)) I.ok.frames rfl (fun b o q=>PySem.W.of_hideAll _ q) (PySem.W.funFrames_hide hst hin) hx fun h2 t x1 x2 x3 x4=>?_
  refine ⟨ea,cls,.ref t,H1,_,rfl,hE,⟨I.os,I.bare,?_,?_,?_,?_,?_,I.base.tups,I.base.frzs,I.base.tbls,x1⟩⟩
  · intro a o e
    refine (I.hok a o e).stay (fun b u hb q=>PySem.W.hideAll_get _ q fun z=>?_) (fun _ q=>q) fun _ _ q=>q
    have:=I.stkFree b z
    rcases hb with hb | hb
    · rw [hb,e] at this; cases this
    · rw [hb] at this; cases this
  · intro b o e n hb
    exact PySem.W.hideAll_get _ (I.base.keep b o e n hb (List.not_mem_nil)) (out b o e hb)
  · intro b o e hb
    obtain ⟨o',q⟩:=I.base.there b o e (List.not_mem_nil)
    exact ⟨o',PySem.W.hideAll_get _ q (out b o e hb)⟩
  · intro b o e hb
    obtain ⟨sl,q⟩:=I.base.slot b o e (I.ok.frf b hb) hb (List.not_mem_nil)
    obtain ⟨_,o2,q2,d2⟩:=I.ok.funs.mem hb
    have q2:s.heap.get? b=some o2:=q2
    rw [e] at q2
    cases q2
    obtain ⟨sl2,q3⟩:=x4 b _ (hx.keeps b _ q) d2
    exact ⟨sl2,q3⟩
  · intro b o e n
    exact I.base.free b o e n (List.not_mem_nil)
theorem aH:Passes (CXW P w) (jE (CXW P w) P w K mg base N qual scope f cd A outer s H E) E:=by
  intro pins σ H1 s1 e s2 I hc
  obtain ⟨ea,cls,a0,H2,B,rfl,hE,F⟩:=hc
  have hfs:frs (jE (CXW P w) P w K mg base N qual scope f cd A outer s H E).stack=s.heap.objs.size::frs outer:=vE rfl
  have out:∀ b o,s.heap.get? b=some o→b ∉ frs outer→b ∉ frs (jE (CXW P w) P w K mg base N qual scope f cd A outer s H E).stack:=fun b o e n z=>by
    rw [hfs] at z
    rcases List.mem_cons.mp z with z | z
    · rw [z] at e; exact absurd (Heap.lt_size e) (Nat.lt_irrefl _)
    · exact n z
  refine wpAny_leaves_onW I.ok.frames rfl F.fly fun h2 x1 x2=>⟨ea,cls,a0,H2,B,rfl,hE,⟨F.os.trans I.os,F.bare,F.hok,?_,?_,?_,?_,?_,?_,?_,x1⟩⟩
  · intro b o e n hb
    exact F.keep b o (I.base.keep b o e n hb (List.not_mem_nil)) (I.base.free b o e n (List.not_mem_nil)) (out b o e hb)
  · intro b o e hb
    obtain ⟨o',q⟩:=I.base.there b o e (List.not_mem_nil)
    exact F.there b o' q (out b o e hb)
  · intro b o e hb
    obtain ⟨sl,q⟩:=I.base.slot b o e (I.ok.frf b hb) hb (List.not_mem_nil)
    obtain ⟨_,o2,q2,d2⟩:=I.ok.funs.mem hb
    have q2:s.heap.get? b=some o2:=q2
    rw [e] at q2
    cases q2
    obtain ⟨sl1,q1⟩:=F.slot b _ q (by rw [hfs]; exact List.mem_cons_of_mem _ hb)
    obtain ⟨sl2,q3⟩:=x2 b _ q1 d2
    exact ⟨sl2,q3⟩
  · intro b o e n
    obtain ⟨o',q⟩:=I.base.there b o e (List.not_mem_nil)
    exact F.free b o' q (I.base.free b o e n (List.not_mem_nil))
  · intro b xs e
    exact F.tups b xs (I.base.tups b xs e)
  · intro b o u e
    exact F.frzs b o u (I.base.frzs b o u e)
  · intro b ps e
    exact F.tbls b ps (I.base.tbls b ps e)
end
theorem BK {K:PySem.W.Frag} {h:Heap} {C:Addr} {bmB:List Value} {newId:String} (X:K.In h) (q:PySem.W.excIn K C bmB newId=true) :
    ∃ bm N nm qn bs hdct sn sub ab col dd k0 k1 k2 k3 k5 mN,h.get? C=some (excClassObj nm qn C N bs bm hdct sn sub ab col dd k0 k1 k2 k3 k5 newId)∧h.Ns N mN∧mN "__init__"=none∧OwnTail h bmB bm:=by
  unfold PySem.W.excIn at q
  split at q
  · rename_i d1 c1 l1 g1
    split at q
    · rename_i C2 bm2 j0 j1 j2 j3 n2 j5 hm hs
      simp only [Bool.and_eq_true,beq_iff_eq,Bool.not_eq_true'] at q
      obtain ⟨⟨⟨⟨⟨q1,q2⟩,q3⟩,q4⟩,q5⟩,q6⟩:=q
      subst q1; subst q2
      obtain ⟨z1,z2,z3,z4,z5,z6,z7,z8,z9,z10,z11⟩:=c1
      dsimp only at hm q3 q5 q6
      subst hm; subst q3
      have hl:l1=#[j0,j1,j2,j3,some (.builtin n2),j5]:=by
        obtain ⟨l⟩:=l1
        have hs':l=_:=hs
        rw [hs']
      subst hl
      exact ⟨bm2,z4,z1,z5,z2,z6,z7,z8,z9,z10,d1,j0,j1,j2,j3,j5,_,X _ _ g1,.of_isNs (PySem.W.isNs_of_in X q5),PySem.W.nsMap_none_of_in X q5 q6,PySem.W.tail_of_in X q4⟩
    · cases q
  · cases q
noncomputable def wz (X:Cx) (E:XK):Prop:=∀ (pins:List (Addr × Obj)) (σ:St) (H:Hp) (s:Shared) (h':Heap) (ea:Addr) (cls:Value) (vs:List Value),Inv X pins σ H s→Heap.MadeExcOf s.heap h' ea cls vs→E cls none H→X.xe (.ref ea) { s with heap:=h' }
noncomputable def Ef (C:Addr) (E:XK) (t:TA):TS:=fun _ σ H=>t σ H fun vs H1=>vs.length≤sizeLine∧E (.ref C) none H1
theorem zQ {X:Cx} {E:XK} {x:Str} {C:Addr} {B newId initId:String} {bm:List Value} {np cpos pos:Pos} {e:Expr} {es:List Expr} {t:TA} (hc:X.calm=true) (M:wz X E) (FB:ExcBaseFacts B newId initId bm) (hg:Gl X x) (hm:X.mg x=some (.ref C)) (hC:PySem.W.excIn X.K C bm newId=true)
    (ha:PA X (e::es) t) (hdb:(x == ("__debug__":Str))=false:=by decide) (he:starEach (e::es) X.env=(false,eval e X.env)::starEach es X.env:=by rfl) (hpl:(backTo cpos (starEach es X.env)).any (·.1)=false:=by rfl) :
    PS X (.Raise (some (.Call (.Name x np) (e::es) [] cpos)) none pos) (Ef C E t):=by
  intro pins s σ H D I h
  obtain ⟨tl,N,nm,q,bs,hdct,sn,sub,ab,col,dd,k0,k1,k2,k3,k5,mN,hC0,hN,hni,T⟩:=BK I.mod.kin hC
  refine wpAny_Raise_call_subT (C:=C) (nm:=nm) (q:=q) (N:=N) (bs:=bs) (bm:=tl) (hdct:=hdct) (sn:=sn) (sub:=sub) (ab:=ab) (col:=col) (dd:=dd) (k0:=k0) (k1:=k1) (k2:=k2) (k3:=k3) (k5:=k5)
    FB (mN:=mN) (T.hasType FB.hasBase) (I.ok.hd hc) (by rw [he]; show (false || (backTo cpos (starEach es X.env)).any (·.1))=false; rw [hpl]; rfl) hni (o8 I hg hm ⟨rfl,?_⟩ hdb)
  have q0:=ha cpos pins s σ H _ I h
  rw [he] at q0 ⊢
  refine Calls.evalArgs_plain (wpAny_mono q0 (fun us s2 h2=>?_) fun _ _ y=>y)
  obtain ⟨vs,H2,I2,rv,z,hE⟩:=h2
  exact ⟨rfl,by rw [← rv.length]; exact z,I2.bk _ _ hC0,hN.keeps I2.bk,T.keeps I2.bk,fun h' ea hx=>M pins σ H2 s2 h' ea _ _ I2 hx hE⟩
end L2
set_option maxRecDepth 100000
set_option maxHeartbeats 4000000
namespace L2
open PySem PySem.Spec PyProof.Rows
end L2
set_option maxRecDepth 100000
set_option maxHeartbeats 4000000
namespace L2
open PySem PySem.Spec PyProof.Rows
theorem nJ {H:Hp} {D:Addr} {o:HO} (h:H D=none):aM H (upd H D o):=fun b u e=>by rw [bw (bH e h)]; exact e
theorem aM.put {H H':Hp} {D:Addr} {o:HO} (s:aM H H') (h:H D=none):aM H (upd H' D o):=fun b u e=>by rw [bw (bH e h)]; exact s b u e
mutual
noncomputable def gQ:PyData→Bool
  | .list _=>false
  | .tuple ds=>mF ds
  | .dict _=>false
  | _=>true
noncomputable def mF:List PyData→Bool
  | []=>true
  | d::ds=>gQ d && mF ds
end
theorem set_own (σ:St) (x:Option V) (v:V) (σ':St) (h:σ'.length=1):(σ++σ').set σ.length (some v)=σ++[some v]:=by
  obtain ⟨y,rfl⟩:=List.length_eq_one_iff.mp h
  simp
end L2
set_option maxRecDepth 100000
set_option maxHeartbeats 4000000
namespace L2
open PySem PySem.Spec PyProof.Rows
structure Rows (H H':Hp) (D:Addr) (qs:List Addr) (rs:List (List Int)):Prop where
  d:H' D=some (.lst (qs.map V.ref))
  len:qs.length=rs.length
  at':∀ (i:Nat) q r,qs[i]?=some q→rs[i]?=some r→H' q=some (.lst (r.map V.int))
  new:∀ q∈qs,H q=none
  nd:qs.Nodup
  nD:D ∉ qs
end L2
set_option maxRecDepth 100000
set_option maxHeartbeats 4000000
namespace L2
open PySem PySem.Spec PyProof.Rows
section
variable {prog:Program} {w:World} {A:Around} {E:Value→Shared→Prop} {s:Shared}
theorem wB {it t:Addr} {i:Nat} {its:Array Value} {x:Value} {Q:Value→Shared→Prop} (hi:s.heap.IsTupleIter it t i) (ht:s.heap.IsTuple t its) (hx:its[i]?=some x)
    (hQ:∀ h',h'.IsTupleIter it t (i + 1)→Heap.SameBut it s.heap h'→Q x { s with heap:=h' }):wpAny (model prog w) A (Builtin.SmallTypes.nextOf (.ref it)) Q E s:=by
  obtain ⟨oi,gi,ci,di⟩:=id hi
  obtain ⟨ot,gt,_,nt,dt⟩:=ht
  unfold Builtin.SmallTypes.nextOf
  refine wpAny_bind (wpAny_callSpecial?_slot (name:=Str.ofString "__next__") hi.typeIs F.slot_tuple_iterator_next (wpAny_call_entry F.slot_tuple_iterator_next hi.typeIs F.entry_tuple_iterator_next ?_ (F.args_tuple_iterator_next_1 _)))
  refine wpAny_bind (m:=field (.ref it) 0) (wpAny_field gi di (x:=.ref t) rfl ?_)
  show wpAny (model prog w) _ (if (Value.ref t == Value.none)=true then _ else _) _ _ s
  have nn:¬ (Value.ref t == Value.none)=true:=fun q=>Bool.false_ne_true q
  rw [if_neg nn]
  refine wpAny_bind (m:=field (.ref it) 1) (wpAny_field gi di (x:=.int i 0) rfl ?_)
  refine wpAny_bind (m:=seqItems? (.ref t)) (wpAny_seqItems gt dt ?_)
  simp only [Int.toNat_natCast,hx]
  refine wpAny_bind (wpAny_setField gi di (by simp) (wpAny_pure ⟨x,rfl,wpAny_pure (hQ _ ⟨_,Heap.get?_update_self _ gi (Obj.isFreed_of_fields (Obj.data_mapFields di _)),(Obj.cls_mapFields ..).trans ci,?_⟩ (Heap.SameBut.update ..))⟩))
  rw [Obj.data_mapFields di]
  simp [rawInt]
theorem pV {it t:Addr} {i:Nat} {its:Array Value} {Q:Value→Shared→Prop} (hh:A.handled=none) (hi:s.heap.IsTupleIter it t i) (ht:s.heap.IsTuple t its) (hx:its[i]?=none)
    (hE:∀ h' e,Heap.ExtBut it s.heap h'→(∃ o,h'.get? e=some o∧o.cls=.type "StopIteration")→E (.ref e) { s with heap:=h' }):wpAny (model prog w) A (Builtin.SmallTypes.nextOf (.ref it)) Q E s:=by
  obtain ⟨oi,gi,ci,di⟩:=id hi
  obtain ⟨ot,gt,_,nt,dt⟩:=ht
  unfold Builtin.SmallTypes.nextOf
  refine wpAny_bind (wpAny_callSpecial?_slot (name:=Str.ofString "__next__") hi.typeIs F.slot_tuple_iterator_next (wpAny_call_entry F.slot_tuple_iterator_next hi.typeIs F.entry_tuple_iterator_next ?_ (F.args_tuple_iterator_next_1 _)))
  refine wpAny_bind (m:=field (.ref it) 0) (wpAny_field gi di (x:=.ref t) rfl ?_)
  show wpAny (model prog w) _ (if (Value.ref t == Value.none)=true then _ else _) _ _ s
  have nn:¬ (Value.ref t == Value.none)=true:=fun q=>Bool.false_ne_true q
  rw [if_neg nn]
  refine wpAny_bind (m:=field (.ref it) 1) (wpAny_field gi di (x:=.int i 0) rfl ?_)
  refine wpAny_bind (m:=seqItems? (.ref t)) (wpAny_seqItems gt dt ?_)
  simp only [Int.toNat_natCast,hx]
  refine wpAny_bind (wpAny_rule (wpAny_bind (wpAny_setField gi di (by simp) ?_)))
  refine wpAny_bind (m:=newExc (.type "StopIteration") []) ?_
  unfold newExc newTuple
  refine wpAny_bind (wpAny_newObj_type ?_ (by size_fits ))
  refine wpAny_bind (m:=firstArgMember _ _) (wpAny_of_eq (a:=Value.none) (by first | rfl | (unfold firstArgMember; rfl)) ?_)
  refine wpAny_newObj_type ?_ (by size_fits )
  unfold raiseNew
  refine wpAny_bind (wpAny_handled ?_)
  first | rw [show A.in1.handled=none from hh] | rw [hh]
  refine wpAny_bind (wpAny_pure (wpAny_throw ?_))
  refine hE _ _ (fun b o hb e=>?_) ⟨_,Heap.get?_push_size _ rfl,rfl⟩
  exact Heap.get?_push_of_some _ (Heap.get?_push_of_some _ ((Heap.get?_update_other _ _ (Ne.symm hb)).trans e))
theorem zj (hh:A.handled=none) (it t:Addr) (hne:t≠it) (its:Array Value):Draws prog w A it [it,t] its.size (fun i v=>its[i]?=some v) (fun i h=>h.IsTupleIter it t i∧h.IsTuple t its) where
  live:=fun _ _ st=>by
    obtain ⟨⟨o,g,_⟩,_⟩:=st
    exact ⟨o,g⟩
  frame:=fun _ _ _ st k=>by
    obtain ⟨⟨o,g,r⟩,⟨o2,g2,r2⟩⟩:=st
    exact ⟨⟨o,k it (by simp) o g,r⟩,⟨o2,k t (by simp) o2 g2,r2⟩⟩
  item:=fun i s Q E hi st hQ=>wB st.1 st.2 (x:=its[i]) (by simp [hi]) fun h' i' sb=>by
    refine hQ _ h' s.toks (by simp [hi]) ⟨i',?_⟩ sb
    obtain ⟨o2,g2,r2⟩:=st.2
    exact ⟨o2,(sb.2 t hne).trans g2,r2⟩
  done:=fun s Q E st hE=>pV hh st.1 st.2 (by simp) hE
end
section
variable {prog:Program} {w:World} {A:Around} {E:Value→Shared→Prop} {s:Shared} {z TI TO i1 i2:Addr} {f1 f2:List Addr} {n1 n2 k:Nat} {P1 P2:Nat→Value→Prop} {S1 S2:Nat→Heap→Prop} {a b:Value}
end
end L2
set_option maxRecDepth 100000
set_option maxHeartbeats 4000000
namespace L2
open PySem PySem.Spec PyProof.Rows
section
variable {X:Cx} {pins:List (Addr × Obj)} {σ:L2.St} {H:Hp} {s:Shared}
theorem Inv.turnLay {ch:List Addr} {h':Heap} {t':Nat} {T:Addr} {o:HO} (I:Inv X pins σ H s) (hf:∀ b∈ch,qe X pins H b) (hT:s.heap.objs.size≤T) (k:∀ b u,b ∉ ch→s.heap.get? b=some u→h'.get? b=some u)
    (new:gr X.prog X.w (upd H T o) h' T o):Inv X pins σ (upd H T o) { s with heap:=h',toks:=t' }:=by
  have hn:H T=none:=I.hok.fresh hT
  have nch:∀ b u,H b=some u→b ∉ ch:=fun b u e z=>by rw [(hf b z).1] at e; cases e
  have neT:∀ b u,s.heap.get? b=some u→b≠T:=fun b u e=>Nat.ne_of_lt (Nat.lt_of_lt_of_le (Heap.lt_size e) hT)
  refine I.step (g':=s.gens) (d':=s.drawn) (ch:=ch) (fun b hb=>?_) (fun b u _ _ hc e _=>k b u hc e) (fun b u _ _ hc e _=>⟨u.slots,k b u hc e⟩) (fun b u _ e n=>by rw [bw (neT b u e)]; exact n)
    (fun b u hc e=>⟨u,k b u hc e⟩) (fun b xs e=>by rw [bw (bH e hn)]; exact e) (fun b u v e=>by rw [bw (bH e hn)]; exact e) (fun b ps e=>by rw [bw (bH e hn)]; exact e) (fun m hm=>?_) (fun b u e=>?_) I.bare
  · obtain ⟨f0,f1,f2,f3,f4,f5⟩:=hf b hb
    exact ⟨f3,f1,f4,f5⟩
  · obtain ⟨o2,es,ep,ho,r⟩:=hm
    exact ⟨o2,es,ep,k _ o2 (fun z=>(hf _ z).2.1 rfl) ho,r⟩
  · by_cases hb:b=T
    · subst hb; rw [cp] at e; cases e; exact new
    · rw [bw hb] at e
      refine (I.hok b u e).stay (fun c v hc q=>k c v ?_ q) (fun c q=>by rw [bw (bH q hn)]; exact q) (fun c xs q=>by rw [bw (bH q hn)]; exact q) fun c o' w' q=>by rw [bw (bH q hn)]; exact q
      rcases hc with z | z
      · rw [z]; exact nch b u e
      · exact nch c _ z
theorem Inv.turneds {ch:List Addr} {h':Heap} {t':Nat} (I:Inv X pins σ H s) (hf:∀ b∈ch,qe X pins H b) (k:∀ b u,b ∉ ch→s.heap.get? b=some u→h'.get? b=some u):Inv X pins σ H { s with heap:=h',toks:=t' }:=by
  have nch:∀ b u,H b=some u→b ∉ ch:=fun b u e z=>by rw [(hf b z).1] at e; cases e
  refine I.step (g':=s.gens) (d':=s.drawn) (ch:=ch) (fun b hb=>?_) (fun b u _ _ hc e _=>k b u hc e) (fun b u _ _ hc e _=>⟨u.slots,k b u hc e⟩) (fun b u _ e n=>n)
    (fun b u hc e=>⟨u,k b u hc e⟩) (fun b xs e=>e) (fun b u v e=>e) (fun b ps e=>e) (fun m hm=>?_) (fun b u e=>?_) I.bare
  · obtain ⟨f0,f1,f2,f3,f4,f5⟩:=hf b hb
    exact ⟨f3,f1,f4,f5⟩
  · obtain ⟨o2,es,ep,ho,r⟩:=hm
    exact ⟨o2,es,ep,k _ o2 (fun z=>(hf _ z).2.1 rfl) ho,r⟩
  · refine (I.hok b u e).stay (fun c v hc q=>k c v ?_ q) (fun _ q=>q) fun _ _ q=>q
    rcases hc with z | z
    · rw [z]; exact nch b u e
    · exact nch c _ z
end
end L2
set_option maxRecDepth 100000
set_option maxHeartbeats 4000000
namespace L2
open PySem PySem.Spec PyProof.Rows
inductive Rs (α:Type) where
  | ok (a:α)
  | rz (C:Addr)
  | no
namespace Rs
noncomputable def bind {α β:Type}:Rs α→(α→Rs β)→Rs β
  | ok a,f=>f a
  | rz C,_=>rz C
  | no,_=>no
noncomputable def gu {α:Type}:Option α→Rs α
  | some a=>ok a
  | none=>no
noncomputable def calm {α:Type}:Rs α→Rs α
  | ok a=>ok a
  | _=>no
@[simp] theorem aj {α β:Type} (a:α) (f:α→Rs β):(ok a).bind f=f a:=rfl
@[simp] theorem jM {α β:Type} (C:Addr) (f:α→Rs β):(rz C).bind f=rz C:=rfl
@[simp] theorem dW {α β:Type} (f:α→Rs β):(no:Rs α).bind f=no:=rfl
@[simp] theorem aq {α:Type} (a:α):gu (some a)=ok a:=rfl
@[simp] theorem C0 {α:Type}:gu (none:Option α)=no:=rfl
@[simp] theorem kv {α:Type} (a:α):(ok a).calm=ok a:=rfl
end Rs
noncomputable def del (H:Hp) (A:List Addr):Hp:=fun b=>if b∈A then none else H b
theorem xV {H:Hp}:del H []=H:=by funext b; simp [del]
theorem oA {H:Hp} {A:List Addr} {b:Addr} (h:b∈A):del H A b=none:=by simp [del,h]
theorem cA {H:Hp} {A:List Addr} {b:Addr} (h:b ∉ A):del H A b=H b:=by simp [del,h]
theorem gK {H:Hp} {A:List Addr} {b:Addr} {o:HO} (h:del H A b=some o):b ∉ A∧H b=some o:=by
  by_cases z:b∈A
  · rw [oA z] at h; cases h
  · rw [cA z] at h; exact ⟨z,h⟩
theorem aY {H:Hp} {A:List Addr}:aM (del H A) H:=fun _ _ e=>(gK e).2
theorem aM.del {H H':Hp} {A:List Addr} (s:aM H H'):aM (del H A) (L2.del H' A):=fun b o e=>by
  obtain ⟨z,e⟩:=gK e
  rw [cA z]; exact s b o e
noncomputable def Ls (H:Hp) (A:List Addr):Prop:=∀ a∈A,∃ xs,H a=some (.lst xs)
theorem Ls.same {H H':Hp} {A:List Addr} (h:Ls H A) (s:aM H H'):Ls H' A:=fun a ha=>by
  obtain ⟨xs,e⟩:=h a ha
  exact ⟨xs,s _ _ e⟩
theorem Ls.nil {H:Hp}:Ls H []:=fun _ h=>by cases h
theorem Ls.new {H:Hp} {A:List Addr} {p:Addr} (h:Ls H A) (hp:H p=none):p ∉ A:=fun z=>by
  obtain ⟨xs,e⟩:=h p z
  rw [hp] at e; cases e
noncomputable def aC (ns:List Int):PyData:=.dict [(.none,.list (ns.map .int))]
mutual
noncomputable def Is (K:PySem.W.Frag) (H:Hp):PyData→V→Prop
  | .none,v=>v=.non
  | .bool b,v=>v=.bl b
  | .int i,v=>v=.int i
  | .str x,v=>v=.str x
  | .list ds,v=>∃ a xs,v=.ref a∧H a=some (.lst xs)∧Iss K H ds xs
  | .tuple ds,v=>∃ a xs,v=.ref a∧H a=some (.tup xs)∧Iss K H ds xs
  | .dict kvs,v=>(∃ a ns,v=.ref a∧kvs=[(PyData.none,PyData.list (List.map PyData.int ns))]∧SqL K H a (List.map V.int ns)) ∨
      ∃ (a C dx:Addr) (fs:List (Str × V)),v=.ref a∧H a=some (.ins C dx fs)∧fs.lookup ("@":Str)=none∧(Isk K H kvs (("",.int (C:Int))::fs)∨Isk K H kvs (("",.int (C:Int))::("@",.int (a:Int))::fs))
noncomputable def Iss (K:PySem.W.Frag) (H:Hp):List PyData→List V→Prop
  | [],vs=>vs=[]
  | d::ds,vs=>∃ v r,vs=v::r∧Is K H d v∧Iss K H ds r
noncomputable def Isk (K:PySem.W.Frag) (H:Hp):List (PyData × PyData)→List (Str × V)→Prop
  | [],fs=>fs=[]
  | (k,d)::r,fs=>∃ f v fs',fs=(f,v)::fs'∧k=.str f∧Is K H d v∧Isk K H r fs'
end
noncomputable def zK (C:Addr) (fds:List (Str × PyData)):PyData:=.dict ((.str "",.int (C:Int))::fds.map fun p=>(.str p.1,p.2))
section
variable {K:PySem.W.Frag} {H H':Hp}
theorem cL {i:Int}:Is K H (.int i) (.int i):=by unfold Is; rfl
theorem is_bool {b:Bool}:Is K H (.bool b) (.bl b):=by unfold Is; rfl
theorem is_none:Is K H .none .non:=by unfold Is; rfl
theorem As {x:Str}:Is K H (.str x) (.str x):=by unfold Is; rfl
theorem mP {ds:List PyData} {a:Addr} {xs:List V} (h:H a=some (.tup xs)) (h2:Iss K H ds xs):Is K H (.tuple ds) (.ref a):=by unfold Is; exact ⟨a,xs,rfl,h,h2⟩
theorem tF {ds:List PyData} {a:Addr} {xs:List V} (h:H a=some (.lst xs)) (h2:Iss K H ds xs):Is K H (.list ds) (.ref a):=by unfold Is; exact ⟨a,xs,rfl,h,h2⟩
theorem yz {a:Addr} {ns:List Int} (h:SqL K H a (ns.map V.int)):Is K H (aC ns) (.ref a):=by unfold aC Is; exact .inl ⟨a,ns,rfl,rfl,h⟩
theorem fI:Iss K H [] []:=by unfold Iss; rfl
theorem e7 {d:PyData} {ds:List PyData} {v:V} {vs:List V} (h:Is K H d v) (h2:Iss K H ds vs):Iss K H (d::ds) (v::vs):=by unfold Iss; exact ⟨v,vs,rfl,h,h2⟩
theorem pw {d:PyData} {v:V} (h:Is K H d v):Iss K H [d] [v]:=e7 h fI
theorem Is.ofInt {i:Int} {v:V} (h:Is K H (.int i) v):v=.int i:=by unfold Is at h; exact h
theorem Is.ofBool {i:Bool} {v:V} (h:Is K H (.bool i) v):v=.bl i:=by unfold Is at h; exact h
theorem Is.ofNone {v:V} (h:Is K H .none v):v=.non:=by unfold Is at h; exact h
theorem Is.ofStr {x:Str} {v:V} (h:Is K H (.str x) v):v=.str x:=by unfold Is at h; exact h
theorem Is.ofTup {ds:List PyData} {v:V} (h:Is K H (.tuple ds) v):∃ a xs,v=.ref a∧H a=some (.tup xs)∧Iss K H ds xs:=by unfold Is at h; exact h
theorem Is.ofLst {ds:List PyData} {v:V} (h:Is K H (.list ds) v):∃ a xs,v=.ref a∧H a=some (.lst xs)∧Iss K H ds xs:=by unfold Is at h; exact h
theorem Is.ofScript {ns:List Int} {v:V} (h:Is K H (aC ns) v):∃ a,v=.ref a∧SqL K H a (ns.map V.int):=by
  unfold aC Is at h
  rcases h with h | ⟨a,C,dx,fs,_,_,_,h | h⟩
  case inr.inl=>unfold Isk at h; obtain ⟨f,_,_,_,h,_⟩:=h; cases h
  case inr.inr=>unfold Isk at h; obtain ⟨f,_,_,_,h,_⟩:=h; cases h
  obtain ⟨a,ms,e,e2,h⟩:=h
  have e3:ns.map PyData.int=ms.map PyData.int:=by injection e2 with e2 _; injection e2 with _ e2; injection e2
  have e4:ns=ms:=by
    have inj:∀ (a b:List Int),a.map PyData.int=b.map PyData.int→a=b:=by
      intro a
      induction a with
      | nil=>intro b hb; cases b with | nil=>rfl | cons _ _=>simp at hb
      | cons x r ih =>
        intro b hb
        cases b with
        | nil=>simp at hb
        | cons y s =>
          simp only [List.map_cons,List.cons.injEq,PyData.int.injEq] at hb
          rw [hb.1,ih s hb.2]
    exact inj _ _ e3
  subst e4
  exact ⟨a,e,h⟩
theorem Iss.nil_of {vs:List V} (h:Iss K H [] vs):vs=[]:=by unfold Iss at h; exact h
theorem Iss.cons_of {d:PyData} {ds:List PyData} {vs:List V} (h:Iss K H (d::ds) vs):∃ v r,vs=v::r∧Is K H d v∧Iss K H ds r:=by unfold Iss at h; exact h
theorem Iss.length:∀ {ds:List PyData} {vs:List V},Iss K H ds vs→vs.length=ds.length
  | [],_,h=>by rw [h.nil_of]; rfl
  | _::_,_,h=>by
    obtain ⟨v,r,e,_,h2⟩:=h.cons_of
    rw [e,List.length_cons,List.length_cons,Iss.length h2]
mutual
theorem Is.same (e:aM H H'):∀ {d:PyData} {v:V},Is K H d v→Is K H' d v
  | .none,_,h=>by unfold Is at h ⊢; exact h
  | .bool _,_,h=>by unfold Is at h ⊢; exact h
  | .int _,_,h=>by unfold Is at h ⊢; exact h
  | .str _,_,h=>by unfold Is at h ⊢; exact h
  | .list ds,_,h=>by
    unfold Is at h ⊢
    obtain ⟨a,xs,e1,h1,h2⟩:=h
    exact ⟨a,xs,e1,e _ _ h1,Iss.same e h2⟩
  | .tuple ds,_,h=>by
    unfold Is at h ⊢
    obtain ⟨a,xs,e1,h1,h2⟩:=h
    exact ⟨a,xs,e1,e _ _ h1,Iss.same e h2⟩
  | .dict _,_,h=>by
    unfold Is at h ⊢
    rcases h with ⟨a,ns,e1,e2,h2⟩ | ⟨a,C,dx,fs,e1,h1,hn,h2 | h2⟩
    · exact .inl ⟨a,ns,e1,e2,e.seq h2⟩
    · exact .inr ⟨a,C,dx,fs,e1,e _ _ h1,hn,.inl (Isk.same e h2)⟩
    · exact .inr ⟨a,C,dx,fs,e1,e _ _ h1,hn,.inr (Isk.same e h2)⟩
theorem Iss.same (e:aM H H'):∀ {ds:List PyData} {vs:List V},Iss K H ds vs→Iss K H' ds vs
  | [],_,h=>by unfold Iss at h ⊢; exact h
  | d::ds,_,h=>by
    unfold Iss at h ⊢
    obtain ⟨v,r,e1,h1,h2⟩:=h
    exact ⟨v,r,e1,Is.same e h1,Iss.same e h2⟩
theorem Isk.same (e:aM H H'):∀ {ds:List (PyData × PyData)} {fs:List (Str × V)},Isk K H ds fs→Isk K H' ds fs
  | [],_,h=>by unfold Isk at h ⊢; exact h
  | (k,d)::ds,_,h=>by
    unfold Isk at h ⊢
    obtain ⟨f,v,r,e1,e2,h1,h2⟩:=h
    exact ⟨f,v,r,e1,e2,Is.same e h1,Isk.same e h2⟩
end
theorem xU:Isk K H [] []:=by unfold Isk; rfl
theorem u9 {f:Str} {d:PyData} {r:List (PyData × PyData)} {v:V} {fs:List (Str × V)} (h:Is K H d v) (h2:Isk K H r fs):Isk K H ((.str f,d)::r) ((f,v)::fs):=by unfold Isk; exact ⟨f,v,fs,rfl,rfl,h,h2⟩
theorem Dw {C a dx:Addr} {fds:List (Str × PyData)} {fs:List (Str × V)} (h:H a=some (.ins C dx fs)) (hn:fs.lookup ("@":Str)=none) (h2:Isk K H (fds.map fun p=>(.str p.1,p.2)) fs):Is K H (zK C fds) (.ref a):=by
  unfold zK Is
  exact .inr ⟨a,C,dx,fs,rfl,h,hn,.inl (u9 cL h2)⟩
theorem D0 {A:List Addr} (hA:Ls H A) {a:Addr} {xs:List V} (h:H a=some (.tup xs)):del H A a=some (.tup xs):=by
  rw [cA (fun q=>by obtain ⟨ys,e2⟩:=hA a q; rw [h] at e2; cases e2)]; exact h
mutual
theorem Is.dl {A:List Addr} (hA:Ls H A):∀ {d:PyData} {v:V},gQ d=true→Is K H d v→Is K (del H A) d v
  | .none,_,_,h=>by unfold Is at h ⊢; exact h
  | .bool _,_,_,h=>by unfold Is at h ⊢; exact h
  | .int _,_,_,h=>by unfold Is at h ⊢; exact h
  | .str _,_,_,h=>by unfold Is at h ⊢; exact h
  | .list _,_,n,_=>by unfold gQ at n; cases n
  | .dict _,_,n,_=>by unfold gQ at n; cases n
  | .tuple ds,_,n,h=>by
    unfold gQ at n
    obtain ⟨a,xs,e,h1,h2⟩:=h.ofTup
    subst e
    exact mP (D0 hA h1) (Iss.dl hA n h2)
theorem Iss.dl {A:List Addr} (hA:Ls H A):∀ {ds:List PyData} {vs:List V},mF ds=true→Iss K H ds vs→Iss K (del H A) ds vs
  | [],_,_,h=>by rw [h.nil_of]; exact fI
  | d::ds,_,n,h=>by
    unfold mF at n
    obtain ⟨n1,n2⟩:=Bool.and_eq_true_iff.mp n
    obtain ⟨v,r,e,h1,h2⟩:=h.cons_of
    subst e
    exact e7 (Is.dl hA n1 h1) (Iss.dl hA n2 h2)
end
mutual
noncomputable def bS:PyData→Bool
  | .list ds=>jf ds
  | .tuple ds=>jf ds
  | .dict _=>false
  | _=>true
noncomputable def jf:List PyData→Bool
  | []=>true
  | d::ds=>bS d && jf ds
end
mutual
theorem Is.isd:∀ {d:PyData} {v:V},bS d=true→Is K H d v→IsD K H d v
  | .none,_,_,h=>by rw [h.ofNone]; exact AB
  | .bool _,_,_,h=>by rw [h.ofBool]; exact z0
  | .int _,_,_,h=>by rw [h.ofInt]; exact uo
  | .str _,_,_,h=>by rw [h.ofStr]; exact BU
  | .list ds,_,n,h=>by
    unfold bS at n
    obtain ⟨a,xs,e,h1,h2⟩:=h.ofLst
    subst e
    exact tf (SqL.of h1) (Iss.isd n h2)
  | .tuple ds,_,n,h=>by
    unfold bS at n
    obtain ⟨a,xs,e,h1,h2⟩:=h.ofTup
    subst e
    exact BN (SqT.of h1) (Iss.isd n h2)
  | .dict _,_,n,_=>by unfold bS at n; cases n
theorem Iss.isd:∀ {ds:List PyData} {vs:List V},jf ds=true→Iss K H ds vs→fB K H ds vs
  | [],_,_,h=>by rw [h.nil_of]; exact pL
  | d::ds,_,n,h=>by
    unfold jf at n
    obtain ⟨n1,n2⟩:=Bool.and_eq_true_iff.mp n
    obtain ⟨v,r,e,h1,h2⟩:=h.cons_of
    subst e
    exact sj (Is.isd n1 h1) (Iss.isd n2 h2)
end
noncomputable def f9:PyData→Bool
  | .none=>true
  | .bool _=>true
  | .int _=>true
  | .str _=>true
  | _=>false
theorem IsD.is {d:PyData} {v:V} (n:f9 d=true) (h:IsD K H d v):Is K H d v:=by
  cases d with
  | none=>rw [h.ofNone]; exact is_none
  | bool _=>rw [h.ofBool]; exact is_bool
  | int _=>rw [h.ofInt]; exact cL
  | str _=>rw [h.ofStr]; exact As
  | _=>cases n
theorem vZ {d:PyData} (n:f9 d=true):gQ d=true:=by
  cases d with
  | list _=>cases n
  | tuple _=>cases n
  | dict _=>cases n
  | _=>unfold gQ; rfl
theorem Iss.get:∀ {ds:List PyData} {vs:List V} {i:Nat} {v:V},Iss K H ds vs→vs[i]?=some v→∃ d,ds[i]?=some d∧Is K H d v
  | [],_,i,v,h,e=>by rw [h.nil_of] at e; simp at e
  | d::ds,_,i,v,h,e=>by
    obtain ⟨w,r,e1,h1,h2⟩:=h.cons_of
    subst e1
    cases i with
    | zero=>simp at e; subst e; exact ⟨d,rfl,h1⟩
    | succ i=>simpa using Iss.get (i:=i) h2 (by simpa using e)
theorem Iss.getD:∀ {ds:List PyData} {vs:List V} {i:Nat} {d:PyData},Iss K H ds vs→ds[i]?=some d→∃ v,vs[i]?=some v∧Is K H d v
  | [],_,i,v,h,e=>by simp at e
  | d::ds,_,i,v,h,e=>by
    obtain ⟨w,r,e1,h1,h2⟩:=h.cons_of
    subst e1
    cases i with
    | zero=>simp at e; subst e; exact ⟨w,rfl,h1⟩
    | succ i=>simpa using Iss.getD (i:=i) h2 (by simpa using e)
theorem Iss.append:∀ {ds es:List PyData} {vs us:List V},Iss K H ds vs→Iss K H es us→Iss K H (ds++es) (vs++us)
  | [],_,_,_,h,h'=>by rw [h.nil_of]; exact h'
  | d::ds,es,_,us,h,h'=>by
    obtain ⟨v,r,e,h1,h2⟩:=h.cons_of
    subst e
    exact e7 h1 (Iss.append h2 h')
theorem Iss.take:∀ {ds:List PyData} {vs:List V} (n:Nat),Iss K H ds vs→Iss K H (ds.take n) (vs.take n)
  | [],_,n,h=>by rw [h.nil_of]; simpa using fI
  | d::ds,_,0,h=>by simpa using fI
  | d::ds,_,n + 1,h=>by
    obtain ⟨v,r,e,h1,h2⟩:=h.cons_of
    subst e
    exact e7 h1 (Iss.take n h2)
theorem Iss.drop:∀ {ds:List PyData} {vs:List V} (n:Nat),Iss K H ds vs→Iss K H (ds.drop n) (vs.drop n)
  | [],_,n,h=>by rw [h.nil_of]; simpa using fI
  | d::ds,_,0,h=>h
  | d::ds,_,n + 1,h=>by
    obtain ⟨v,r,e,h1,h2⟩:=h.cons_of
    subst e
    exact Iss.drop n h2
theorem Iss.set {d:PyData} {v:V} (hv:Is K H d v):∀ {ds:List PyData} {vs:List V} (i:Nat),Iss K H ds vs→Iss K H (ds.set i d) (vs.set i v)
  | [],_,n,h=>by rw [h.nil_of]; simpa using fI
  | e::ds,_,0,h=>by
    obtain ⟨u,r,z,h1,h2⟩:=h.cons_of
    subst z
    exact e7 hv h2
  | e::ds,_,n + 1,h=>by
    obtain ⟨u,r,z,h1,h2⟩:=h.cons_of
    subst z
    exact e7 h1 (Iss.set hv n h2)
theorem Iss.eraseIdx:∀ {ds:List PyData} {vs:List V} (i:Nat),Iss K H ds vs→Iss K H (ds.eraseIdx i) (vs.eraseIdx i)
  | [],_,n,h=>by rw [h.nil_of]; simpa using fI
  | e::ds,_,0,h=>by
    obtain ⟨u,r,z,h1,h2⟩:=h.cons_of
    subst z
    exact h2
  | e::ds,_,n + 1,h=>by
    obtain ⟨u,r,z,h1,h2⟩:=h.cons_of
    subst z
    exact e7 h1 (Iss.eraseIdx n h2)
theorem Iss.rep {ds:List PyData} {vs:List V} (h:Iss K H ds vs):∀ k:Nat,Iss K H (List.replicate k ds).flatten (List.replicate k vs).flatten
  | 0=>fI
  | k + 1=>by
    rw [List.replicate_succ,List.replicate_succ,List.flatten_cons,List.flatten_cons]
    exact h.append (Iss.rep h k)
theorem vT:∀ (ns:List Int),Iss K H (ns.map PyData.int) (ns.map V.int)
  | []=>fI
  | _::r=>e7 cL (vT r)
theorem Iss.ofInts:∀ {ns:List Int} {vs:List V},Iss K H (ns.map PyData.int) vs→vs=ns.map V.int
  | [],_,h=>h.nil_of
  | n::r,_,h=>by
    obtain ⟨v,t,e,h1,h2⟩:=h.cons_of
    rw [e,h1.ofInt,Iss.ofInts h2]; rfl
theorem Iss.ofBools:∀ {ns:List Bool} {vs:List V},Iss K H (ns.map PyData.bool) vs→vs=ns.map V.bl
  | [],_,h=>h.nil_of
  | n::r,_,h=>by
    obtain ⟨v,t,e,h1,h2⟩:=h.cons_of
    rw [e,h1.ofBool,Iss.ofBools h2]; rfl
theorem Is.isNone {d:PyData} {v:V} (h:Is K H d v):(v=.non)↔d=.none:=by
  cases d with
  | none=>simp [h.ofNone]
  | bool b=>simp [h.ofBool]
  | int i=>simp [h.ofInt]
  | str x=>simp [h.ofStr]
  | list ds=>obtain ⟨a,xs,e,_⟩:=h.ofLst; simp [e]
  | tuple ds=>obtain ⟨a,xs,e,_⟩:=h.ofTup; simp [e]
  | dict _=>unfold Is at h; rcases h with ⟨a,ns,e,_⟩ | ⟨a,C,dx,fs,e,_⟩ <;> simp [e]
theorem c0 {p:Addr} {o:HO} (h:H p=none):aM H (upd H p o):=nJ h
theorem tZ {A:List Addr} {p:Addr} {o:HO} (h:p∈A):del (upd H p o) A=del H A:=by
  funext b
  by_cases z:b∈A
  · rw [oA z,oA z]
  · rw [cA z,cA z,bw (by rintro rfl; exact z h)]
theorem nH {A:List Addr} {ds:List PyData} {xs:List V} {p:Addr} (hA:Ls H A) (hp:H p=none) (h:Iss K (del H A) ds xs):Is K (del (upd H p (.tup xs)) A) (.tuple ds) (.ref p) :=
  mP (by rw [cA (hA.new hp)]; exact cp) (h.same (aM.del (c0 hp)))
theorem ph {A:List Addr} {ds:List PyData} {xs:List V} {p:Addr} (hA:Ls H A) (hp:H p=none) (h:Iss K (del H A) ds xs):Is K (del (upd H p (.lst xs)) A) (.list ds) (.ref p) :=
  tF (by rw [cA (hA.new hp)]; exact cp) (h.same (aM.del (c0 hp)))
end
noncomputable abbrev Ds:=List (Option PyData)
structure fD (K:PySem.W.Frag) (H:Hp) (A:List Addr) (δ:Ds) (σ:St):Prop where
  ls:Ls H A
  len:δ.length=σ.length
  get:∀ (i:Nat) (d:PyData),δ[i]?=some (some d)→∃ v,σ[i]?=some (some v)∧Is K (del H A) d v
theorem fD.same {K:PySem.W.Frag} {H H':Hp} {A:List Addr} {δ:Ds} {σ:St} (R:fD K H A δ σ) (s:aM H H'):fD K H' A δ σ :=
  ⟨R.ls.same s,R.len,fun i d e=>by
    obtain ⟨v,e1,h⟩:=R.get i d e
    exact ⟨v,e1,h.same s.del⟩⟩
noncomputable def jb (K:PySem.W.Frag) (E:XK) (A:List Addr) (H:Hp) (r:Rs PyData) (Q:VK):Prop:=match r with
  | .ok d=>∀ v H',aM H H'→Is K (del H' A) d v→Q v H'
  | .rz C=>∀ H',aM H H'→E (.ref C) none H'
  | .no=>False
noncomputable def FI (K:PySem.W.Frag) (E:XK) (A:List Addr) (H:Hp) (r:Rs (List PyData)) (Q:List V→Hp→Prop):Prop:=match r with
  | .ok d=>∀ v H',aM H H'→Iss K (del H' A) d v→Q v H'
  | .rz C=>∀ H',aM H H'→E (.ref C) none H'
  | .no=>False
noncomputable def vm (E:XK) (H:Hp) (r:Rs Bool) (Q:Bool→Hp→Prop):Prop:=match r with
  | .ok d=>∀ H',aM H H'→Q d H'
  | .rz C=>∀ H',aM H H'→E (.ref C) none H'
  | .no=>False
noncomputable def eD (K:PySem.W.Frag) (E:XK) (g:Ds→Rs PyData):TE:=fun σ H Q=>∃ A δ,fD K H A δ σ∧jb K E A H (g δ) Q
noncomputable def aD (K:PySem.W.Frag) (E:XK) (g:Ds→Rs (List PyData)):TA:=fun σ H Q=>∃ A δ,fD K H A δ σ∧FI K E A H (g δ) Q
noncomputable def cD (K:PySem.W.Frag) (E:XK) (g:Ds→Rs Bool):TT:=fun σ H Q=>∃ A δ,fD K H A δ σ∧vm E H (g δ) Q
noncomputable def PD (X:Cx) (E:XK) (e:Expr) (g:Ds→Rs PyData):Prop:=PE X e (eD X.K E g)
noncomputable def PAD (X:Cx) (E:XK) (es:List Expr) (g:Ds→Rs (List PyData)):Prop:=PA X es (aD X.K E g)∧∀ δ ds,g δ=.ok ds→ds.length=es.length
noncomputable def PCD (X:Cx) (E:XK) (e:Expr) (g:Ds→Rs Bool):Prop:=PT X e (cD X.K E g)
noncomputable def PWD (X:Cx) (E:XK) (e:Expr) (g:Ds→Rs Bool):Prop:=PW X e (cD X.K E g)
theorem PE.imp {X:Cx} {e:Expr} {t t':TE} (h:PE X e t) (k:∀ σ H Q,t' σ H Q→t σ H Q):PE X e t':=fun pins s σ H Q I q=>h pins s σ H Q I (k σ H Q q)
theorem PT.imp {X:Cx} {e:Expr} {t t':TT} (h:PT X e t) (k:∀ σ H Q,t' σ H Q→t σ H Q):PT X e t':=fun pins s σ H Q I q=>h pins s σ H Q I (k σ H Q q)
theorem PW.imp {X:Cx} {e:Expr} {t t':TT} (h:PW X e t) (k:∀ σ H Q,t' σ H Q→t σ H Q):PW X e t':=fun w pins s σ H Q I q=>h w pins s σ H Q I (k σ H Q q)
theorem PA.imp {X:Cx} {e:List Expr} {t t':TA} (h:PA X e t) (k:∀ σ H Q,t' σ H Q→t σ H Q):PA X e t':=fun p pins s σ H Q I q=>h p pins s σ H Q I (k σ H Q q)
theorem PS.imp {X:Cx} {e:Stmt} {t t':TS} (h:PS X e t) (k:∀ D σ H,t' D σ H→t D σ H):PS X e t':=fun pins s σ H D I q=>h pins s σ H D I (k D σ H q)
theorem PSs.imp {X:Cx} {e:List Stmt} {t t':TS} (h:PSs X e t) (k:∀ D σ H,t' D σ H→t D σ H):PSs X e t':=fun pins s σ H D I q=>h pins s σ H D I (k D σ H q)
theorem jb.mono {K:PySem.W.Frag} {E:XK} {A:List Addr} {H H1:Hp} {r:Rs PyData} {Q:VK} (h:jb K E A H r Q) (s:aM H H1):jb K E A H1 r Q:=by
  cases r with
  | ok d=>exact fun v H' s' q=>h v H' (s.trans s') q
  | rz C=>exact fun H' s'=>h H' (s.trans s')
  | no=>exact h
theorem vm.mono {E:XK} {H H1:Hp} {r:Rs Bool} {Q:Bool→Hp→Prop} (h:vm E H r Q) (s:aM H H1):vm E H1 r Q:=by
  cases r with
  | ok d=>exact fun H' s'=>h H' (s.trans s')
  | rz C=>exact fun H' s'=>h H' (s.trans s')
  | no=>exact h
theorem eD.run {K:PySem.W.Frag} {E:XK} {g:Ds→Rs PyData} {σ:St} {H:Hp} {A:List Addr} {δ:Ds} {Q:VK} (R:fD K H A δ σ)
    (ok:∀ d,g δ=.ok d→∀ v H',aM H H'→fD K H' A δ σ→Is K (del H' A) d v→Q v H') (rz:∀ C,g δ=.rz C→∀ H',aM H H'→E (.ref C) none H') (no:g δ=.no→False):eD K E g σ H Q:=by
  refine ⟨A,δ,R,?_⟩
  cases e:g δ with
  | ok d=>exact fun v H' s q=>ok d e v H' s (R.same s) q
  | rz C=>exact fun H' s=>rz C e H' s
  | no=>exact no e
theorem aD.run {K:PySem.W.Frag} {E:XK} {g:Ds→Rs (List PyData)} {σ:St} {H:Hp} {A:List Addr} {δ:Ds} {Q:List V→Hp→Prop} (R:fD K H A δ σ)
    (ok:∀ d,g δ=.ok d→∀ v H',aM H H'→fD K H' A δ σ→Iss K (del H' A) d v→Q v H') (rz:∀ C,g δ=.rz C→∀ H',aM H H'→E (.ref C) none H') (no:g δ=.no→False):aD K E g σ H Q:=by
  refine ⟨A,δ,R,?_⟩
  cases e:g δ with
  | ok d=>exact fun v H' s q=>ok d e v H' s (R.same s) q
  | rz C=>exact fun H' s=>rz C e H' s
  | no=>exact no e
theorem cD.run {K:PySem.W.Frag} {E:XK} {g:Ds→Rs Bool} {σ:St} {H:Hp} {A:List Addr} {δ:Ds} {Q:Bool→Hp→Prop} (R:fD K H A δ σ)
    (ok:∀ d,g δ=.ok d→∀ H',aM H H'→fD K H' A δ σ→Q d H') (rz:∀ C,g δ=.rz C→∀ H',aM H H'→E (.ref C) none H') (no:g δ=.no→False):cD K E g σ H Q:=by
  refine ⟨A,δ,R,?_⟩
  cases e:g δ with
  | ok d=>exact fun H' s=>ok d e H' s (R.same s)
  | rz C=>exact fun H' s=>rz C e H' s
  | no=>exact no e
end L2
set_option maxRecDepth 100000
set_option maxHeartbeats 4000000
namespace L2
open PySem PySem.Spec PyProof.Rows
noncomputable def ah (i:Nat):Ds→Rs PyData:=fun δ=>match δ[i]? with
  | some (some d)=>.ok d
  | _=>.no
noncomputable def gC (d:PyData):Ds→Rs PyData:=fun _=>.ok d
noncomputable def g1 (f:PyData→Option PyData) (a:Ds→Rs PyData):Ds→Rs PyData:=fun δ=>(a δ).bind fun x=>Rs.gu (f x)
noncomputable def g2 (f:PyData→PyData→Option PyData) (a b:Ds→Rs PyData):Ds→Rs PyData:=fun δ=>(a δ).bind fun x=>(b δ).bind fun y=>Rs.gu (f x y)
noncomputable def gF (f:List PyData→Option PyData) (as:Ds→Rs (List PyData)):Ds→Rs PyData:=fun δ=>(as δ).bind fun ds=>Rs.gu (f ds)
noncomputable def ar:Ds→Rs (List PyData):=fun _=>.ok []
noncomputable def af (a:Ds→Rs PyData) (r:Ds→Rs (List PyData)):Ds→Rs (List PyData):=fun δ=>(a δ).bind fun x=>(r δ).bind fun xs=>.ok (x::xs)
noncomputable def fj (as:Ds→Rs (List PyData)):Ds→Rs PyData:=fun δ=>(as δ).bind fun ds=>.ok (.tuple ds)
noncomputable def tw (as:Ds→Rs (List PyData)):Ds→Rs PyData:=fun δ=>(as δ).bind fun ds=>.ok (.list ds)
noncomputable def ay (gf:List PyData→Rs PyData) (as:Ds→Rs (List PyData)):Ds→Rs PyData:=fun δ=>(as δ).bind gf
noncomputable def truth:PyData→Rs Bool
  | .bool b=>.ok b
  | _=>.no
noncomputable def gT (a:Ds→Rs PyData):Ds→Rs Bool:=fun δ=>(a δ).bind truth
noncomputable def fF (a:Ds→Rs Bool):Ds→Rs Bool:=fun δ=>(a δ).bind fun b=>.ok (!b)
noncomputable def uc (a b:Ds→Rs Bool):Ds→Rs Bool:=fun δ=>(a δ).bind fun x=>if x=true then b δ else .ok false
noncomputable def cOr (a b:Ds→Rs Bool):Ds→Rs Bool:=fun δ=>(a δ).bind fun x=>if x=true then .ok true else b δ
noncomputable def zC (a b:Ds→Rs PyData):Ds→Rs PyData:=fun δ=>(a δ).bind fun x=>(truth x).bind fun t=>if t=true then b δ else .ok (.bool false)
noncomputable def gOr (a b:Ds→Rs PyData):Ds→Rs PyData:=fun δ=>(a δ).bind fun x=>(truth x).bind fun t=>if t=true then .ok (.bool true) else b δ
noncomputable def FT (a:Ds→Rs PyData):Ds→Rs PyData:=fun δ=>(a δ).bind fun x=>(truth x).bind fun t=>.ok (.bool (!t))
noncomputable def gIf (c:Ds→Rs Bool) (a b:Ds→Rs PyData):Ds→Rs PyData:=fun δ=>(c δ).bind fun x=>if x=true then a δ else b δ
section
variable {X:Cx} {E:XK} {a b c e:Expr} {ga gb gc:Ds→Rs PyData} {pos:Pos}
theorem ag (i:Nat) {x:Str} {pos:Pos} (hN:X.N[i]?=some x:=by rfl) (hv:Vis X.env.scope x:=by first | exact Or.inl rfl | exact Or.inr (Or.inl rfl) | exact Or.inr (Or.inr rfl)) (hd:(x == ("__debug__":Str))=false:=by decide)
    (hcd:(x == ("__classdict__":Str))=false:=by decide):PD X E (.Name x pos) (ah i) :=
  (oh hN hv hd hcd).imp fun σ H Q pz3=>by
    obtain ⟨A,δ,R,o⟩:=pz3
    unfold ah at o
    split at o
    · rename_i d e
      obtain ⟨v,e1,h⟩:=R.get i d e
      exact ⟨v,e1,o v H (aM.refl H) h⟩
    · exact o.elim
theorem A5 {v:V} {d:PyData} (h:PE X e (tC v)) (hi:∀ K H,Is K H d v):PD X E e (gC d):=h.imp fun σ H Q qz3=>(by obtain ⟨A,δ,R,o⟩:=qz3; exact o v H (aM.refl H) (hi _ _))
theorem aw {i j pos}:PD X E (.Constant (.int i) j pos) (gC (.int i)):=A5 jT fun _ _=>cL
theorem kA {i j pos}:PD X E (.Constant (.bool i) j pos) (gC (.bool i)):=A5 EL fun _ _=>is_bool
theorem fm {j pos}:PD X E (.Constant .none j pos) (gC .none):=A5 C8 fun _ _=>is_none
theorem tO {i j pos}:PD X E (.Constant (.str i) j pos) (gC (.str i)):=A5 DT fun _ _=>As
theorem iS {i:Int} {x:Str} {pos:Pos} (hm:∃ t,X.mg x=some (.int i t)) (hg:Gl X x:=by rfl) (hd:(x == ("__debug__":Str))=false:=by decide):PD X E (.Name x pos) (gC (.int i)):=by
  obtain ⟨t,hm⟩:=hm
  exact A5 (Bs (v:=.int i) hg hm ⟨_,rfl⟩ hd) fun _ _=>cL
noncomputable def OpD (K:PySem.W.Frag) (f:PyData→PyData→Option PyData) (r:R2):Prop :=
  ∀ (d1 d2 d:PyData) (x y:V) (H:Hp) (A:List Addr) (Q:VK),f d1 d2=some d→Ls H A→Is K (del H A) d1 x→Is K (del H A) d2 y→(∀ v H',aM H H'→Is K (del H' A) d v→Q v H')→r x y H Q
theorem g2.read {r:R2} {f:PyData→PyData→Option PyData} {σ:St} {H:Hp} {A:List Addr} {δ:Ds} {Q:VK} {K:PySem.W.Frag} (hr:OpD K f r) (R:fD K H A δ σ) (o:jb K E A H (g2 f ga gb δ) Q) :
    tOp r (eD K E ga) (eD K E gb) σ H Q:=by
  unfold g2 at o
  refine eD.run R (fun d1 e1 v H1 s1 R1 h1=>?_) (fun C e1 H' s'=>?_) (fun e1=>?_)
  · rw [e1] at o
    refine eD.run R1 (fun d2 e2 u H2 s2 R2 h2=>?_) (fun C e2 H' s'=>?_) (fun e2=>?_)
    · simp only [Rs.aj,e2] at o
      cases e3:f d1 d2 with
      | none=>rw [e3] at o; exact o.elim
      | some d =>
        rw [e3] at o
        exact hr d1 d2 d v u H2 A Q e3 R2.ls (h1.same s2.del) h2 fun w H' s q=>o w H' (s1.trans (s2.trans s)) q
    · simp only [Rs.aj,e2,Rs.jM] at o
      exact o H' (s1.trans s')
    · simp only [Rs.aj,e2,Rs.dW] at o
      exact o
  · rw [e1] at o; exact o H' s'
  · rw [e1] at o; exact o
theorem jo {r:R2} {f:PyData→PyData→Option PyData} (hr:OpD X.K f r) (ha:PD X E a ga) (hb:PD X E b gb) (mk:∀ {ta tb:TE},PE X a ta→PE X b tb→PE X e (tOp r ta tb)):PD X E e (g2 f ga gb) :=
  (mk ha hb).imp fun σ H Q qz3=>(by obtain ⟨A,δ,R,o⟩:=qz3; exact g2.read hr R o)
theorem lA {r:R2} {f:PyData→PyData→Option PyData} (hr:OpD X.K f r) (ha:PD X E a ga) (hb:PD X E b gb) (mk:∀ {ta tb:TE},PE X a ta→PE X b tb→PT X e (CK (tOp r ta tb))):PCD X E e (gT (g2 f ga gb)) :=
  (mk ha hb).imp fun σ H Q pz3=>by
    obtain ⟨A,δ,R,o⟩:=pz3
    refine g2.read (Q:=fun x H'=>∃ k,x=.bl k∧Q k H') hr R ?_
    unfold gT at o
    cases q:g2 f ga gb δ with
    | no=>rw [q] at o; exact o
    | rz C=>rw [q] at o; exact o
    | ok d =>
      rw [q] at o
      cases d with
      | bool k=>exact fun v H' s h=>⟨k,h.ofBool,o H' s⟩
      | _=>exact o.elim
noncomputable def dI (f:Int→Int→Option PyData):PyData→PyData→Option PyData
  | .int i,.int j=>f i j
  | _,_=>none
theorem yb {f:Int→Int→Option PyData} {d1 d2 d:PyData} (h:dI f d1 d2=some d):∃ i j,d1=.int i∧d2=.int j∧f i j=some d:=by
  unfold dI at h
  split at h
  · exact ⟨_,_,rfl,rfl,h⟩
  · cases h
noncomputable def g5:=dI fun i j=>some (.int (i - j))
noncomputable def o5:=dI fun i j=>if 0 < j then some (.int (i % j)) else none
noncomputable def tL:=dI fun i j=>if 0 < j∧j < 1073741824 then some (.int (i / j)) else none
noncomputable def dLt:=dI fun i j=>some (.bool (decide (i < j)))
noncomputable def dLe:=dI fun i j=>some (.bool (decide (i≤j)))
noncomputable def dGt:=dI fun i j=>some (.bool (decide (j < i)))
noncomputable def dGe:=dI fun i j=>some (.bool (decide (j≤i)))
theorem kO {K:PySem.W.Frag} {f:Int→Int→PyData} {v:Int→Int→V} (hv:∀ i j K H,Is K H (f i j) (v i j)):OpD K (dI fun i j=>some (f i j)) (rI0 v):=fun d1 d2 d x y H A Q e hA h1 h2 k=>by
  obtain ⟨i,j,rfl,rfl,e⟩:=yb e
  cases e
  exact ⟨i,j,h1.ofInt,h2.ofInt,k _ H (aM.refl H) (hv _ _ _ _)⟩
theorem CT {K:PySem.W.Frag} {C C':Int→Int→Prop} [∀ i j,Decidable (C' i j)] {f:Int→Int→PyData} {v:Int→Int→V} (hc:∀ i j,C' i j→C i j) (hv:∀ i j K H,Is K H (f i j) (v i j)):OpD K (dI fun i j=>if C' i j then some (f i j) else none) (rI C v):=fun d1 d2 d x y H A Q e hA h1 h2 k=>by
  obtain ⟨i,j,rfl,rfl,e2⟩:=yb e
  by_cases z:C' i j
  · simp only [if_pos z] at e2
    cases e2
    exact ⟨i,j,h1.ofInt,h2.ofInt,hc i j z,k _ H (aM.refl H) (hv _ _ _ _)⟩
  · simp only [if_neg z] at e2; cases e2
theorem fK (ha:PD X E a ga) (hb:PD X E b gb):PD X E (.BinOp a .Sub b pos) (g2 g5 ga gb):=jo (kO fun _ _ _ _=>cL) ha hb (fG DI)
theorem xg (ha:PD X E a ga) (hb:PD X E b gb):PD X E (.BinOp a .Mod b pos) (g2 o5 ga gb):=jo (CT (fun _ _ h=>h) fun _ _ _ _=>cL) ha hb (fG pT)
theorem wy (ha:PD X E a ga) (hb:PD X E b gb):PD X E (.BinOp a .FloorDiv b pos) (g2 tL ga gb):=jo (CT (C:=EC) (fun _ _ h=>h) fun _ _ _ _=>cL) ha hb (fG BW)
theorem CQ (ha:PD X E a ga) (hb:PD X E b gb):PD X E (.Compare a [.LtE] [b] pos) (g2 dLe ga gb):=jo (kO fun _ _ _ _=>is_bool) ha hb fun h1 h2=>o9 yk h1 h2 (jV _)
theorem Eo (ha:PD X E a ga) (hb:PD X E b gb):PD X E (.Compare a [.Gt] [b] pos) (g2 dGt ga gb):=jo (kO fun _ _ _ _=>is_bool) ha hb fun h1 h2=>o9 CP h1 h2 (jV _)
theorem Ba (ha:PD X E a ga) (hb:PD X E b gb):PCD X E (.Compare a [.Lt] [b] pos) (gT (g2 dLt ga gb)):=lA (kO fun _ _ _ _=>is_bool) ha hb fun h1 h2=>jU EO h1 h2 (jV _)
theorem ue (ha:PD X E a ga) (hb:PD X E b gb):PCD X E (.Compare a [.LtE] [b] pos) (gT (g2 dLe ga gb)):=lA (kO fun _ _ _ _=>is_bool) ha hb fun h1 h2=>jU yk h1 h2 (jV _)
theorem Dv (ha:PD X E a ga) (hb:PD X E b gb):PCD X E (.Compare a [.Gt] [b] pos) (gT (g2 dGt ga gb)):=lA (kO fun _ _ _ _=>is_bool) ha hb fun h1 h2=>jU CP h1 h2 (jV _)
open PySem.SeqAt in
noncomputable def dEq (x y:PyData):Option PyData:=if bS x && bS y && shaped x && shaped y then some (.bool (PyData.eqv x y)) else none
open PySem.SeqAt in
noncomputable def dNe (x y:PyData):Option PyData:=if bS x && bS y && shaped x && shaped y then some (.bool (!PyData.eqv x y)) else none
open PySem.SeqAt in
theorem zH {K:PySem.W.Frag}:OpD K dEq (fun x y H Q=>∃ d e,IsD K H d x∧IsD K H e y∧shaped d=true∧shaped e=true∧Q (.bl (PyData.eqv d e)) H):=fun d1 d2 d x y H A Q e hA h1 h2 k=>by
  unfold dEq at e
  split at e
  · rename_i z
    simp only [Bool.and_eq_true] at z
    cases e
    exact ⟨d1,d2,(h1.same aY).isd z.1.1.1,(h2.same aY).isd z.1.1.2,z.1.2,z.2,k _ H (aM.refl H) is_bool⟩
  · cases e
open PySem.SeqAt in
theorem Dz {K:PySem.W.Frag}:OpD K dNe (fun x y H Q=>∃ d e,IsD K H d x∧IsD K H e y∧shaped d=true∧shaped e=true∧Q (.bl (!PyData.eqv d e)) H):=fun d1 d2 d x y H A Q e hA h1 h2 k=>by
  unfold dNe at e
  split at e
  · rename_i z
    simp only [Bool.and_eq_true] at z
    cases e
    exact ⟨d1,d2,(h1.same aY).isd z.1.1.1,(h2.same aY).isd z.1.1.2,z.1.2,z.2,k _ H (aM.refl H) is_bool⟩
  · cases e
theorem CC {k:Nat} (hr:fk k X.A) (ha:PD X E a ga) (hb:PD X E b gb):PD X E (.Compare a [.Eq] [b] pos) (g2 dEq ga gb):=jo zH ha hb fun h1 h2=>o9 (wb hr.units) h1 h2 (jV _)
theorem v7 {k:Nat} (hr:fk k X.A) (ha:PD X E a ga) (hb:PD X E b gb):PCD X E (.Compare a [.Eq] [b] pos) (gT (g2 dEq ga gb)):=lA zH ha hb fun h1 h2=>jU (wb hr.units) h1 h2 (jV _)
theorem DD {k:Nat} (hr:fk k X.A) (ha:PD X E a ga) (hb:PD X E b gb):PCD X E (.Compare a [.NotEq] [b] pos) (gT (g2 dNe ga gb)):=lA Dz ha hb fun h1 h2=>jU (Eb hr.units) h1 h2 (jV _)
noncomputable def gI:PyData→Bool
  | .none=>true
  | _=>false
noncomputable def zl (x:PyData):Option PyData:=some (.bool (gI x))
noncomputable def fv (x:PyData):Option PyData:=some (.bool (!gI x))
theorem g1.read {tt:(VK)→VK} {f:PyData→Option PyData} {σ:St} {H:Hp} {A:List Addr} {δ:Ds} {Q:VK} {K:PySem.W.Frag} (R:fD K H A δ σ) (o:jb K E A H (g1 f ga δ) Q)
    (hr:∀ d1 d x H',f d1=some d→Ls H' A→aM H H'→Is K (del H' A) d1 x→(∀ v H2,aM H' H2→Is K (del H2 A) d v→Q v H2)→tt Q x H'):eD K E ga σ H (tt Q):=by
  unfold g1 at o
  refine eD.run R (fun d1 e1 v H1 s1 R1 h1=>?_) (fun C e1 H' s'=>?_) (fun e1=>?_)
  · simp only [e1,Rs.aj] at o
    cases e3:f d1 with
    | none=>rw [e3] at o; exact o.elim
    | some d=>rw [e3] at o; exact hr d1 d v H1 e3 R1.ls s1 h1 fun w H' s q=>o w H' (s1.trans s) q
  · rw [e1] at o; exact o H' s'
  · rw [e1] at o; exact o
theorem uq {K:PySem.W.Frag} {H:Hp} {d:PyData} {v:V} (h:Is K H d v):decide (v=.non)=gI d:=by
  by_cases z:v=.non
  · rw [decide_eq_true z,h.isNone.mp z]; rfl
  · rw [decide_eq_false z]
    have:d≠.none:=fun q=>z (h.isNone.mpr q)
    cases d <;> first | (exact absurd rfl this) | rfl
theorem Bk {j pos'} (ha:PD X E a ga):PD X E (.Compare a [.Is] [.Constant .none j pos'] pos) (g1 zl ga) :=
  (Ap (zX ha)).imp fun σ H Q ⟨A,δ,R,o⟩=>g1.read (tt:=fun Q x H1=>Q (.bl (decide (x=.non))) H1) R o fun d1 d x H' e _ _ h k=>by
    cases e; rw [uq h]; exact k _ H' (aM.refl _) is_bool
theorem xY {j pos'} (ha:PD X E a ga):PD X E (.Compare a [.IsNot] [.Constant .none j pos'] pos) (g1 fv ga) :=
  (Ap (yg ha)).imp fun σ H Q ⟨A,δ,R,o⟩=>g1.read (tt:=fun Q x H1=>Q (.bl (!decide (x=.non))) H1) R o fun d1 d x H' e _ _ h k=>by
    cases e; rw [uq h]; exact k _ H' (aM.refl _) is_bool
theorem vY {t:TE} (h:PT X e (tB t)) (k:∀ σ H Q,eD X.K E ga σ H Q→t σ H Q):PCD X E e (gT ga):=h.imp fun σ H Q ⟨A,δ,R,o⟩=>k σ H _ ⟨A,δ,R,by
  unfold gT at o
  cases q:ga δ with
  | no=>rw [q] at o; exact o
  | rz C=>rw [q] at o; exact o
  | ok d =>
    rw [q] at o
    cases d with
    | bool c=>exact fun v H' s h=>⟨c,h.ofBool,o H' s⟩
    | _=>exact o.elim⟩
theorem cf (h:PD X E e ga) (he:∀ whole,isTrue e X.env whole=(do let v ← whole; standAt e.pos; holding [v] (truthy v)):=by intro _; rfl):PCD X E e (gT ga):=vY (DO h he) fun _ _ _ h=>h
theorem B2 {j pos'} (ha:PD X E a ga):PCD X E (.Compare a [.Is] [.Constant .none j pos'] pos) (gT (g1 zl ga)) :=
  vY (wt (zX ha)) fun σ H Q ⟨A,δ,R,o⟩=>g1.read (tt:=fun Q x H1=>Q (.bl (decide (x=.non))) H1) R o fun d1 d x H' e _ _ h k=>by
    cases e; rw [uq h]; exact k _ H' (aM.refl _) is_bool
theorem jB {j pos'} (ha:PD X E a ga):PCD X E (.Compare a [.IsNot] [.Constant .none j pos'] pos) (gT (g1 fv ga)) :=
  vY (wt (yg ha)) fun σ H Q ⟨A,δ,R,o⟩=>g1.read (tt:=fun Q x H1=>Q (.bl (!decide (x=.non))) H1) R o fun d1 d x H' e _ _ h k=>by
    cases e; rw [uq h]; exact k _ H' (aM.refl _) is_bool
theorem AE {ca:Ds→Rs Bool} {f:Bool→Rs Bool} {σ:St} {H:Hp} {A:List Addr} {δ:Ds} {Q:Bool→Hp→Prop} {K:PySem.W.Frag} {t:Bool→Hp→Prop} (R:fD K H A δ σ) (o:vm E H ((ca δ).bind f) Q)
    (k:∀ b H1,aM H H1→fD K H1 A δ σ→vm E H1 (f b) Q→t b H1):cD K E ca σ H t:=by
  refine cD.run R (fun b e H1 s1 R1=>?_) (fun C e H' s'=>?_) (fun e=>?_)
  · rw [e] at o; exact k b H1 s1 R1 (vm.mono (show vm E H (f b) Q from o) s1)
  · rw [e] at o; exact o H' s'
  · rw [e] at o; exact o
variable {ca cb:Ds→Rs Bool} {rest:List Expr}
theorem cV (ha:PCD X E a ca):PCD X E (.UnaryOp .Not a pos) (fF ca):=(C6 ha).imp fun σ H Q qz3=>(by obtain ⟨A,δ,R,o⟩:=qz3; exact AE R o fun b H1 s1 R1 o=>o H1 (aM.refl _))
theorem qB (ha:PCD X E a ca):PWD X E (.BoolOp .And [a] pos) ca:=Cj ha
theorem lJ (ha:PCD X E a ca):PWD X E (.BoolOp .Or [a] pos) ca:=Di ha
theorem uf (ha:PCD X E a ca) (hb:PWD X E (.BoolOp .And (b::rest) pos) cb):PWD X E (.BoolOp .And (a::b::rest) pos) (uc ca cb):=PW.imp (DU ha hb) fun σ H Q ⟨A,δ,R,o⟩=>AE R o fun b H1 s1 R1 o=>by
  cases b with
  | true=>exact ⟨A,δ,R1,o⟩
  | false=>exact o H1 (aM.refl _)
theorem ml (ha:PCD X E a ca) (hb:PWD X E (.BoolOp .Or (b::rest) pos) cb):PWD X E (.BoolOp .Or (a::b::rest) pos) (cOr ca cb):=PW.imp (El ha hb) fun σ H Q ⟨A,δ,R,o⟩=>AE R o fun b H1 s1 R1 o=>by
  cases b with
  | false=>exact ⟨A,δ,R1,o⟩
  | true=>exact o H1 (aM.refl _)
theorem nj (h:PWD X E e ca):PCD X E e ca:=PW.pt h
theorem CA {f:PyData→Rs PyData} {σ:St} {H:Hp} {A:List Addr} {δ:Ds} {Q:VK} {K:PySem.W.Frag} {t:VK} (R:fD K H A δ σ) (o:jb K E A H ((ga δ).bind f) Q)
    (k:∀ d v H1,aM H H1→fD K H1 A δ σ→Is K (del H1 A) d v→jb K E A H1 (f d) Q→t v H1):eD K E ga σ H t:=by
  refine eD.run R (fun d e v H1 s1 R1 h1=>?_) (fun C e H' s'=>?_) (fun e=>?_)
  · rw [e] at o; exact k d v H1 s1 R1 h1 (jb.mono (show jb K E A H (f d) Q from o) s1)
  · rw [e] at o; exact o H' s'
  · rw [e] at o; exact o
theorem qN {K:PySem.W.Frag} {E:XK} {A:List Addr} {H:Hp} {d:PyData} {f:Bool→Rs PyData} {Q:VK} (o:jb K E A H ((truth d).bind f) Q):∃ t,d=.bool t∧jb K E A H (f t) Q:=by
  cases d with
  | bool t=>exact ⟨t,rfl,o⟩
  | _=>exact o.elim
theorem qD {op} (ha:PD X E a ga):PD X E (.BoolOp op [a] pos) ga:=DV ha
theorem tV (ha:PD X E a ga) (hb:PD X E (.BoolOp .And (b::rest) pos) gb):PD X E (.BoolOp .And (a::b::rest) pos) (zC ga gb):=(Ea ha hb).imp fun σ H Q ⟨A,δ,R,o⟩=>CA R o fun d v H1 s1 R1 h1 o=>by
  obtain ⟨t,rfl,o⟩:=qN o
  refine ⟨t,h1.ofBool,?_⟩
  cases t with
  | true=>exact ⟨A,δ,R1,o⟩
  | false=>exact o _ H1 (aM.refl _) is_bool
theorem Ex (ha:PD X E a ga) (hb:PD X E (.BoolOp .Or (b::rest) pos) gb):PD X E (.BoolOp .Or (a::b::rest) pos) (gOr ga gb):=(E1 ha hb).imp fun σ H Q ⟨A,δ,R,o⟩=>CA R o fun d v H1 s1 R1 h1 o=>by
  obtain ⟨t,rfl,o⟩:=qN o
  refine ⟨t,h1.ofBool,?_⟩
  cases t with
  | false=>exact ⟨A,δ,R1,o⟩
  | true=>exact o _ H1 (aM.refl _) is_bool
theorem CH (hc:PCD X E c ca) (ha:PD X E a ga) (hb:PD X E b gb):PD X E (.IfExp c a b pos) (gIf ca ga gb):=(Ar hc ha hb).imp fun σ H Q pz3=>by
  obtain ⟨A,δ,R,o⟩:=pz3
  unfold gIf at o
  refine cD.run R (fun t e H1 s1 R1=>?_) (fun C e H' s'=>?_) (fun e=>?_)
  · rw [e] at o
    have o:=jb.mono (show jb X.K E A H (if t=true then ga δ else gb δ) Q from o) s1
    cases t with
    | true=>exact ⟨A,δ,R1,o⟩
    | false=>exact ⟨A,δ,R1,o⟩
  · rw [e] at o; exact o H' s'
  · rw [e] at o; exact o
noncomputable def iR:PyData→Option PyData
  | .int i=>some (.int (-i))
  | _=>none
theorem jq (ha:PD X E a ga):PD X E (.UnaryOp .USub a pos) (g1 iR ga):=(E3 C7 ha).imp fun σ H Q ⟨A,δ,R,o⟩=>g1.read (tt:=fun Q x H1=>∃ i,x=.int i∧Q (.int (-i)) H1) R o fun d1 d x H' e _ _ h k=>by
  cases d1 with
  | int i=>cases e; exact ⟨i,h.ofInt,k _ H' (aM.refl _) cL⟩
  | _=>cases e
variable {es:List Expr} {gs:Ds→Rs (List PyData)}
theorem ai:PAD X E [] ar:=⟨iH.imp fun σ H Q qz3=>(by obtain ⟨A,δ,R,o⟩:=qz3; exact o [] H (aM.refl _) fI),fun δ ds e=>by cases e; rfl⟩
theorem ae (ha:PD X E a ga) (hr:PAD X E es gs) (hs:starEach (a::es) X.env=(false,eval a X.env)::starEach es X.env:=by rfl):PAD X E (a::es) (af ga gs):=by
  refine ⟨(fi ha hr.1 hs).imp fun σ H Q ⟨A,δ,R,o⟩=>?_,fun δ ds e=>?_⟩
  · unfold af at o
    refine eD.run R (fun d e v H1 s1 R1 h1=>?_) (fun C e H' s'=>?_) (fun e=>?_)
    · simp only [e,Rs.aj] at o
      refine aD.run R1 (fun ds e2 vs H2 s2 R2 h2=>?_) (fun C e2 H' s'=>?_) (fun e2=>?_)
      · simp only [e2,Rs.aj] at o
        exact o _ H2 (s1.trans s2) (e7 (h1.same s2.del) h2)
      · simp only [e2,Rs.jM] at o; exact o H' (s1.trans s')
      · simp only [e2,Rs.dW] at o; exact o
    · simp only [e,Rs.jM] at o; exact o H' s'
    · simp only [e,Rs.dW] at o; exact o
  · unfold af at e
    cases q:ga δ with
    | ok d =>
      cases q2:gs δ with
      | ok l =>
        simp only [q,q2,Rs.aj] at e
        cases e
        simp [hr.2 δ l q2]
      | rz C=>simp only [q,q2,Rs.aj,Rs.jM] at e; cases e
      | no=>simp only [q,q2,Rs.aj,Rs.dW] at e; cases e
    | rz C=>simp only [q,Rs.jM] at e; cases e
    | no=>simp only [q,Rs.dW] at e; cases e
theorem sg {f:List PyData→Rs PyData} {σ:St} {H:Hp} {A:List Addr} {δ:Ds} {Q:VK} {K:PySem.W.Frag} {t:List V→Hp→Prop} (R:fD K H A δ σ) (o:jb K E A H ((gs δ).bind f) Q)
    (k:∀ ds vs H1,gs δ=.ok ds→aM H H1→fD K H1 A δ σ→Iss K (del H1 A) ds vs→jb K E A H1 (f ds) Q→t vs H1):aD K E gs σ H t:=by
  refine aD.run R (fun d e v H1 s1 R1 h1=>?_) (fun C e H' s'=>?_) (fun e=>?_)
  · rw [e] at o; exact k d v H1 e s1 R1 h1 (jb.mono (show jb K E A H (f d) Q from o) s1)
  · rw [e] at o; exact o H' s'
  · rw [e] at o; exact o
theorem f6 {x1} (h:PAD X E es gs) (hl:es.length≤1000:=by decide):PD X E (.Tuple es x1 pos) (fj gs):=(Ed h.1).imp fun σ H Q ⟨A,δ,R,o⟩=>sg R o fun ds vs H1 e s1 R1 h1 o=>by
  have n:=h.2 δ ds e
  have m:=h1.length
  exact ⟨by rw [sizeLine_eq]; omega,fun p hp=>o _ _ (c0 hp) (nH R1.ls hp h1)⟩
theorem sT (h:PAD X E es gs) (hl:es.length≤1000:=by decide):PD X E (.List es pos) (tw gs):=(wQ h.1).imp fun σ H Q ⟨A,δ,R,o⟩=>sg R o fun ds vs H1 e s1 R1 h1 o=>by
  have n:=h.2 δ ds e
  have m:=h1.length
  exact ⟨by rw [sizeLine_eq]; omega,fun p hp=>o _ _ (c0 hp) (ph R1.ls hp h1)⟩
noncomputable def spD (K:PySem.W.Frag) (n:Nat) (gf:List PyData→Rs PyData):Sp:=fun vs H Q E=>∃ A ds,Ls H A∧Iss K (del H A) ds vs∧ds.length=n∧jb K E A H (gf ds) Q
structure aP (P:Program) (w:World) (K:PySem.W.Frag) (mg:Str→Option Value) (base:Heap) (k:Nat) (x:Str) (n:Nat) (gf:List PyData→Rs PyData):Prop where
  ex:∃ f fd ps,kq P w K mg base (CXW P w) k f fd ps (spD K n gf)∧mg x=some (.ref f)∧PySem.W.keepIn K (.ref f)=true∧Binds K fd ps []
theorem iG {X:Cx}:Passes (CXW X.prog X.w) X E0:=fun _ _ _ _ _ _ _ qz7=>(by obtain ⟨_,_,_,_,_,_,h,_⟩:=qz7; exact h.elim)
theorem aF {k j:Nat} {x:Str} {p:Pos} {gf:List PyData→Rs PyData} (D:aP X.prog X.w X.K X.mg X.base k x (e::es).length gf) (hr:fk j X.A) (hx:Passes (CXW X.prog X.w) X E) (ha:PAD X E (e::es) gs) (hk:k≤j:=by decide) (hg:Gl X x:=by rfl)
    (hdb:(x == ("__debug__":Str))=false:=by decide) (he:starEach (e::es) X.env=(false,eval e X.env)::starEach es X.env:=by rfl) (hpl:(backTo pos (starEach es X.env)).any (·.1)=false:=by rfl) :
    PD X E (.Call (.Name x p) (e::es) [] pos) (ay gf gs):=by
  obtain ⟨f,fd,ps,F,hm,hkp,hb⟩:=D.ex
  refine (xF F (hr.mono hk) hg hm hkp hb .nil hx ha.1 hdb he hpl).imp fun σ H Q rz3=>?_
  obtain ⟨A,δ,R,o⟩:=rz3
  refine sg R o fun ds vs H1 e s1 R1 h1 o=>?_
  refine ⟨A,ds,R1.ls,by simpa using h1,ha.2 δ ds e,o⟩
noncomputable def FnD (K:PySem.W.Frag) (f:List PyData→Option PyData) (r:List V→Hp→VK→Prop):Prop :=
  ∀ (ds:List PyData) (d:PyData) (vs:List V) (H:Hp) (A:List Addr) (Q:VK),f ds=some d→Ls H A→Iss K (del H A) ds vs→(∀ v H',aM H H'→Is K (del H' A) d v→Q v H')→r vs H Q
theorem iQ {r:List V→Hp→VK→Prop} {f:List PyData→Option PyData} (hf:FnD X.K f r) (ha:PAD X E es gs) (mk:∀ {t:TA},PA X es t→PE X e (tCB r t)):PD X E e (gF f gs) :=
  (mk ha.1).imp fun σ H Q ⟨A,δ,R,o⟩=>sg R o fun ds vs H1 e s1 R1 h1 o=>by
    cases q:f ds with
    | none=>rw [q] at o; exact o.elim
    | some d=>rw [q] at o; exact hf ds d vs H1 A Q q R1.ls h1 o
end
end L2
set_option maxRecDepth 100000
set_option maxHeartbeats 4000000
namespace L2
open PySem PySem.Spec PyProof.Rows
section
variable {X:Cx} {E:XK} {a b c e:Expr} {ga gb gc:Ds→Rs PyData} {pos:Pos} {es:List Expr} {gs:Ds→Rs (List PyData)}
noncomputable def CS (K:PySem.W.Frag):R2:=fun x y H Q=>∃ a b xs ys,x=.ref a∧y=.ref b∧SqT K H a xs∧SqT K H b ys∧xs.length + ys.length≤sizeLine ∧
  (xs=[]→Q (.ref b) H)∧(xs≠[]→ys=[]→Q (.ref a) H)∧(xs≠[]→ys≠[]→∀ p,H p=none→Q (.ref p) (upd H p (.tup (xs++ys))))
theorem Cq:OpR X (binaryOp .Add) (CS X.K):=by
  intro pins s σ H x y v u Q I rx ry h
  obtain ⟨a,b,xs,ys,rfl,rfl,ha,hb,hz,q0,q1,q2⟩:=h
  by_cases hx:xs=[]
  · cases rx
    cases ry
    obtain ⟨vs,r1,p1,_⟩:=I.tuple ha
    obtain ⟨ws,r2,p2,_⟩:=I.tuple hb
    obtain ⟨⟨cls,dd,data,sl⟩,ho,hc,n,hd⟩:=id p1
    obtain ⟨⟨cls2,dd2,data2,sl2⟩,ho2,hc2,n2,hd2⟩:=id p2
    simp only at hc hd hc2 hd2
    subst hc hd hc2 hd2
    have hv:vs=[]:=r1.nil_iff.mpr hx
    exact concat_meets ⟨_,ho,rfl⟩ ⟨_,ho2,rfl⟩ noFill_tuple_add seq_tuple_add PySem.F.slot_tuple_add PySem.F.entry_tuple_add (PySem.F.args_tuple_add_2 _ _)
      (tuple_addW0 a b vs.toArray ws.toArray n n2 dd dd2 sl sl2 (by simp [hv])) ⟨ho,ho2,⟨.ref b,H,I,rfl,q0 hx⟩⟩
  · exact Cw pins s σ H _ _ v u Q I rx ry ⟨a,b,xs,ys,rfl,rfl,ha,hb,hx,hz,q1 hx,q2 hx⟩
noncomputable def bb:PyData→PyData→Option PyData
  | .int i,.int j=>some (.int (i + j))
  | .list x,.list y=>if x.length + y.length≤1000000 then some (.list (x++y)) else none
  | .tuple x,.tuple y=>if x.length + y.length≤1000000 then some (.tuple (x++y)) else none
  | _,_=>none
theorem BY {K:PySem.W.Frag}:OpD K bb (fun x y H Q=>rI0 (fun i j=>.int (i + j)) x y H Q∨EI x y H Q∨CS K x y H Q):=fun d1 d2 d x y H A Q e hA h1 h2 k=>by
  unfold bb at e
  split at e
  · cases e
    exact .inl ⟨_,_,h1.ofInt,h2.ofInt,k _ H (aM.refl _) cL⟩
  · rename_i l1 l2
    split at e
    · rename_i hz
      cases e
      obtain ⟨p,xs,rfl,hp,hx⟩:=h1.ofLst
      obtain ⟨q,ys,rfl,hq,hy⟩:=h2.ofLst
      refine .inr (.inl ⟨p,q,xs,ys,rfl,rfl,aY _ _ hp,aY _ _ hq,by rw [hx.length,hy.length,sizeLine_eq]; omega,fun r hr=>k _ _ (c0 hr) (ph hA hr (hx.append hy))⟩)
    · cases e
  · rename_i l1 l2
    split at e
    · rename_i hz
      cases e
      obtain ⟨p,xs,rfl,hp,hx⟩:=h1.ofTup
      obtain ⟨q,ys,rfl,hq,hy⟩:=h2.ofTup
      refine .inr (.inr ⟨p,q,xs,ys,rfl,rfl,SqT.of (aY _ _ hp),SqT.of (aY _ _ hq),by rw [hx.length,hy.length,sizeLine_eq]; omega,fun z=>?_,fun _ z=>?_,fun _ _ r hr=>k _ _ (c0 hr) (nH hA hr (hx.append hy))⟩)
      · subst z
        have:l1=[]:=List.length_eq_zero_iff.mp (by rw [← hx.length]; rfl)
        subst this
        exact k _ H (aM.refl _) (mP hq hy)
      · subst z
        have:l2=[]:=List.length_eq_zero_iff.mp (by rw [← hy.length]; rfl)
        subst this
        rw [List.append_nil] at k
        exact k _ H (aM.refl _) (mP hp hx)
    · cases e
  · cases e
theorem bA (ha:PD X E a ga) (hb:PD X E b gb):PD X E (.BinOp a .Add b pos) (g2 bb ga gb):=jo BY ha hb (fG (og.or (DA.or Cq)))
noncomputable def dIx:PyData→PyData→Option PyData
  | .list x,.int i=>atI x i
  | .tuple x,.int i=>atI x i
  | _,_=>none
theorem yl {K:PySem.W.Frag} {H:Hp} {ds:List PyData} {vs:List V} {i:Int} {d:PyData} (h:Iss K H ds vs) (e:atI ds i=some d):∃ v,atI vs i=some v∧Is K H d v:=by
  unfold atI at e ⊢
  rw [h.length]
  cases q:ixN ds.length i with
  | none=>rw [q] at e; cases e
  | some j=>rw [q] at e; exact h.getD e
theorem D6 {K:PySem.W.Frag}:OpD K dIx (fun x y H Q=>Et K x y H Q∨Es K x y H Q):=fun d1 d2 d x y H A Q e hA h1 h2 k=>by
  unfold dIx at e
  split at e
  · obtain ⟨p,xs,rfl,hp,hx⟩:=h1.ofLst
    obtain ⟨v,ev,hv⟩:=yl hx e
    exact .inl ⟨p,xs,_,v,rfl,h2.ofInt,SqL.of (aY _ _ hp),ev,k _ H (aM.refl _) hv⟩
  · obtain ⟨p,xs,rfl,hp,hx⟩:=h1.ofTup
    obtain ⟨v,ev,hv⟩:=yl hx e
    exact .inr ⟨p,xs,_,v,rfl,h2.ofInt,SqT.of (aY _ _ hp),ev,k _ H (aM.refl _) hv⟩
  · cases e
theorem bz (ha:PD X E a ga) (hb:PD X E b gb) (hs:ya b:=by intro _ _; rfl):PD X E (.Subscript a b pos) (g2 dIx ga gb):=jo D6 ha hb fun h1 h2=>Ac (sI.or DY) h1 h2 hs
noncomputable def eN:List PyData→Option PyData
  | [.list x]=>some (.int x.length)
  | [.tuple x]=>some (.int x.length)
  | _=>none
theorem nk {K:PySem.W.Frag} {H:Hp} {d:PyData} {vs:List V} (h:Iss K H [d] vs):∃ v,vs=[v]∧Is K H d v:=by
  obtain ⟨v,r,rfl,h1,h2⟩:=h.cons_of
  rw [h2.nil_of]
  exact ⟨v,rfl,h1⟩
theorem BZ {K:PySem.W.Frag} {H:Hp} {d e:PyData} {vs:List V} (h:Iss K H [d,e] vs):∃ v u,vs=[v,u]∧Is K H d v∧Is K H e u:=by
  obtain ⟨v,r,rfl,h1,h2⟩:=h.cons_of
  obtain ⟨u,rfl,h3⟩:=nk h2
  exact ⟨v,u,rfl,h1,h3⟩
theorem BL {K:PySem.W.Frag}:FnD K eN (fun xs H Q=>∃ p ys,xs=[.ref p]∧(SqL K H p ys∨SqT K H p ys)∧Q (.int ys.length) H):=fun ds d vs H A Q e hA h k=>by
  unfold eN at e
  split at e
  · cases e
    obtain ⟨v,rfl,hh⟩:=nk h
    obtain ⟨p,xs,rfl,hp,hx⟩:=hh.ofLst
    exact ⟨p,xs,rfl,.inl (SqL.of (aY _ _ hp)),k _ H (aM.refl _) (by rw [hx.length]; exact cL)⟩
  · cases e
    obtain ⟨v,rfl,hh⟩:=nk h
    obtain ⟨p,xs,rfl,hp,hx⟩:=hh.ofTup
    exact ⟨p,xs,rfl,.inr (SqT.of (aY _ _ hp)),k _ H (aM.refl _) (by rw [hx.length]; exact cL)⟩
  · cases e
theorem fQ {p:Pos} (hm:X.mg "len"=none) (ha:PAD X E (a::es) gs) (hg:Gl X "len":=by rfl) (he:starEach (a::es) X.env=(false,eval a X.env)::starEach es X.env:=by rfl) (hpl:(backTo pos (starEach es X.env)).any (·.1)=false:=by rfl) :
    PD X E (.Call (.Name "len" p) (a::es) [] pos) (gF eN gs):=iQ BL ha fun h=>gN jP hg hm PySem.boot_len h (by decide) (by decide) he hpl
theorem xt:bootBuiltins "int"=some (.type "int"):=by decide +kernel
theorem xI:bootBuiltins "bool"=some (.type "bool"):=by decide +kernel
theorem vg:bootBuiltins "tuple"=some (.type "tuple"):=by decide +kernel
theorem Cm:bootBuiltins "list"=some (.type "list"):=by decide +kernel
theorem y2:bootBuiltins "isinstance"=some (.builtin "isinstance"):=by decide +kernel
theorem Du:bootBuiltins "all"=some (.builtin "all"):=by decide +kernel
theorem DS:bootBuiltins "sum"=some (.builtin "sum"):=by decide +kernel
theorem DQ:bootBuiltins "min"=some (.builtin "min"):=by decide +kernel
theorem C9:bootBuiltins "max"=some (.builtin "max"):=by decide +kernel
noncomputable def gO:List PyData→Option (List Int)
  | []=>some []
  | .int i::r=>(gO r).map (i::·)
  | _::_=>none
theorem dY:∀ {ds:List PyData} {ns:List Int},gO ds=some ns→ds=ns.map PyData.int
  | [],_,h=>by cases h; rfl
  | .int i::r,ns,h=>by
    unfold gO at h
    cases q:gO r with
    | none=>rw [q] at h; cases h
    | some l=>rw [q] at h; cases h; rw [dY q]; rfl
  | .none::_,_,h=>by cases h
  | .bool _::_,_,h=>by cases h
  | .str _::_,_,h=>by cases h
  | .list _::_,_,h=>by cases h
  | .tuple _::_,_,h=>by cases h
  | .dict _::_,_,h=>by cases h
theorem d5:∀ (ns:List Int),gO (ns.map PyData.int)=some ns
  | []=>rfl
  | n::r=>by rw [List.map_cons]; unfold gO; rw [d5 r]; rfl
noncomputable def iC:List PyData→Option (List Bool)
  | []=>some []
  | .bool i::r=>(iC r).map (i::·)
  | _::_=>none
theorem oS:∀ {ds:List PyData} {ns:List Bool},iC ds=some ns→ds=ns.map PyData.bool
  | [],_,h=>by cases h; rfl
  | .bool i::r,ns,h=>by
    unfold iC at h
    cases q:iC r with
    | none=>rw [q] at h; cases h
    | some l=>rw [q] at h; cases h; rw [oS q]; rfl
  | .none::_,_,h=>by cases h
  | .int _::_,_,h=>by cases h
  | .str _::_,_,h=>by cases h
  | .list _::_,_,h=>by cases h
  | .tuple _::_,_,h=>by cases h
  | .dict _::_,_,h=>by cases h
theorem mq:∀ (ns:List Bool),iC (ns.map PyData.bool)=some ns
  | []=>rfl
  | n::r=>by rw [List.map_cons]; unfold iC; rw [mq r]; rfl
noncomputable def ze:List PyData→Option PyData
  | [.list x]=>(gO x).map fun ns=>.int ns.sum
  | _=>none
noncomputable def tD:List PyData→Option PyData
  | [.list x]=>(iC x).map fun ns=>.bool (ns.all id)
  | _=>none
theorem BF {K:PySem.W.Frag}:FnD K ze (fun xs H Q=>∃ (a:Addr) (ns:List Int),xs=[.ref a]∧SqL K H a (ns.map V.int)∧Q (.int ns.sum) H):=fun ds d vs H A Q e hA h k=>by
  unfold ze at e
  split at e
  · rename_i x
    cases q:gO x with
    | none=>rw [q] at e; cases e
    | some ns =>
      rw [q] at e; cases e
      obtain ⟨v,rfl,hh⟩:=nk h
      obtain ⟨p,xs,rfl,hp,hx⟩:=hh.ofLst
      rw [dY q] at hx
      rw [hx.ofInts] at hp
      exact ⟨p,ns,rfl,SqL.of (aY _ _ hp),k _ H (aM.refl _) cL⟩
  · cases e
theorem Br {K:PySem.W.Frag}:FnD K tD (fun xs H Q=>∃ (a:Addr) (ns:List Bool),xs=[.ref a]∧SqL K H a (ns.map V.bl)∧Q (.bl (ns.all id)) H):=fun ds d vs H A Q e hA h k=>by
  unfold tD at e
  split at e
  · rename_i x
    cases q:iC x with
    | none=>rw [q] at e; cases e
    | some ns =>
      rw [q] at e; cases e
      obtain ⟨v,rfl,hh⟩:=nk h
      obtain ⟨p,xs,rfl,hp,hx⟩:=hh.ofLst
      rw [oS q] at hx
      rw [hx.ofBools] at hp
      exact ⟨p,ns,rfl,SqL.of (aY _ _ hp),k _ H (aM.refl _) is_bool⟩
  · cases e
theorem Bj {p:Pos} (hc:X.calm=true) (hm:X.mg "sum"=none) (ha:PAD X E (a::es) gs) (hg:Gl X "sum":=by rfl) (he:starEach (a::es) X.env=(false,eval a X.env)::starEach es X.env:=by rfl) (hpl:(backTo pos (starEach es X.env)).any (·.1)=false:=by rfl) :
    PD X E (.Call (.Name "sum" p) (a::es) [] pos) (gF ze gs):=iQ BF ha fun h=>gN (zF hc) hg hm DS h (by decide) (by decide) he hpl
theorem tQ {p:Pos} (hc:X.calm=true) (hm:X.mg "all"=none) (ha:PAD X E (a::es) gs) (hg:Gl X "all":=by rfl) (he:starEach (a::es) X.env=(false,eval a X.env)::starEach es X.env:=by rfl) (hpl:(backTo pos (starEach es X.env)).any (·.1)=false:=by rfl) :
    PD X E (.Call (.Name "all" p) (a::es) [] pos) (gF tD gs):=iQ Br ha fun h=>gN (Av hc) hg hm Du h (by decide) (by decide) he hpl
noncomputable def pH:List PyData→Option PyData
  | [.int i,.int j]=>some (.int (if j < i then j else i))
  | _=>none
noncomputable def qu:List PyData→Option PyData
  | [.int i,.int j]=>some (.int (if j > i then j else i))
  | _=>none
theorem Al {K:PySem.W.Frag}:FnD K pH (fun xs H Q=>∃ i j,xs=[.int i,.int j]∧Q (.int (if j < i then j else i)) H):=fun ds d vs H A Q e hA h k=>by
  unfold pH at e
  split at e
  · cases e
    obtain ⟨v,u,rfl,h1,h2⟩:=BZ h
    rw [h1.ofInt,h2.ofInt]
    exact ⟨_,_,rfl,k _ H (aM.refl _) cL⟩
  · cases e
theorem AH {K:PySem.W.Frag}:FnD K qu (fun xs H Q=>∃ i j,xs=[.int i,.int j]∧Q (.int (if j > i then j else i)) H):=fun ds d vs H A Q e hA h k=>by
  unfold qu at e
  split at e
  · cases e
    obtain ⟨v,u,rfl,h1,h2⟩:=BZ h
    rw [h1.ofInt,h2.ofInt]
    exact ⟨_,_,rfl,k _ H (aM.refl _) cL⟩
  · cases e
theorem xG {p:Pos} (hc:X.calm=true) (hm:X.mg "min"=none) (ha:PAD X E (a::es) gs) (hg:Gl X "min":=by rfl) (he:starEach (a::es) X.env=(false,eval a X.env)::starEach es X.env:=by rfl) (hpl:(backTo pos (starEach es X.env)).any (·.1)=false:=by rfl) :
    PD X E (.Call (.Name "min" p) (a::es) [] pos) (gF pH gs):=iQ Al ha fun h=>gN (yL hc) hg hm DQ h (by decide) (by decide) he hpl
theorem Co {p:Pos} (hc:X.calm=true) (hm:X.mg "max"=none) (ha:PAD X E (a::es) gs) (hg:Gl X "max":=by rfl) (he:starEach (a::es) X.env=(false,eval a X.env)::starEach es X.env:=by rfl) (hpl:(backTo pos (starEach es X.env)).any (·.1)=false:=by rfl) :
    PD X E (.Call (.Name "max" p) (a::es) [] pos) (gF qu gs):=iQ AH ha fun h=>gN (zg hc) hg hm C9 h (by decide) (by decide) he hpl
noncomputable def uD:List PyData→Option PyData
  | [.int i]=>some (.int i)
  | [.bool k]=>some (.int (if k then 1 else 0))
  | _=>none
theorem BE {K:PySem.W.Frag}:FnD K uD (fun xs H Q=>(∃ i,xs=[.int i]∧Q (.int i) H)∨∃ k,xs=[.bl k]∧Q (.int (if k then 1 else 0)) H):=fun ds d vs H A Q e hA h k=>by
  unfold uD at e
  split at e
  · cases e
    obtain ⟨v,rfl,h1⟩:=nk h
    rw [h1.ofInt]
    exact .inl ⟨_,rfl,k _ H (aM.refl _) cL⟩
  · cases e
    obtain ⟨v,rfl,h1⟩:=nk h
    rw [h1.ofBool]
    exact .inr ⟨_,rfl,k _ H (aM.refl _) cL⟩
  · cases e
theorem uL {p:Pos} (hm:X.mg "int"=none) (ha:PAD X E (a::es) gs) (hg:Gl X "int":=by rfl) (he:starEach (a::es) X.env=(false,eval a X.env)::starEach es X.env:=by rfl) (hpl:(backTo pos (starEach es X.env)).any (·.1)=false:=by rfl) :
    PD X E (.Call (.Name "int" p) (a::es) [] pos) (gF uD gs):=iQ BE ha fun h=>rY yU hg hm xt h (by decide) (by decide) he hpl
noncomputable def jY:List PyData→Option PyData
  | [.list x]=>some (.tuple x)
  | [.tuple x]=>some (.tuple x)
  | _=>none
theorem zb {K:PySem.W.Frag}:FnD K jY (fun xs H Q=>∃ p ys,xs=[.ref p]∧((SqL K H p ys∧∀ l,H l=none→Q (.ref l) (upd H l (.tup ys)))∨(SqT K H p ys∧Q (.ref p) H))):=fun ds d vs H A Q e hA h k=>by
  unfold jY at e
  split at e
  · cases e
    obtain ⟨v,rfl,hh⟩:=nk h
    obtain ⟨p,xs,rfl,hp,hx⟩:=hh.ofLst
    exact ⟨p,xs,rfl,.inl ⟨SqL.of (aY _ _ hp),fun l hl=>k _ _ (c0 hl) (nH hA hl hx)⟩⟩
  · cases e
    obtain ⟨v,rfl,hh⟩:=nk h
    obtain ⟨p,xs,rfl,hp,hx⟩:=hh.ofTup
    exact ⟨p,xs,rfl,.inr ⟨SqT.of (aY _ _ hp),k _ H (aM.refl _) (mP hp hx)⟩⟩
  · cases e
theorem kf {p:Pos} (hm:X.mg "tuple"=none) (ha:PAD X E (a::es) gs) (hg:Gl X "tuple":=by rfl) (he:starEach (a::es) X.env=(false,eval a X.env)::starEach es X.env:=by rfl) (hpl:(backTo pos (starEach es X.env)).any (·.1)=false:=by rfl) :
    PD X E (.Call (.Name "tuple" p) (a::es) [] pos) (gF jY gs):=iQ zb ha fun h=>rY qV hg hm vg h (by decide) (by decide) he hpl
noncomputable def lg (T:String) (d:PyData):Option PyData:=if bS d then some (.bool (tK d T)) else none
theorem jF {T:Str} {T':String} {p p':Pos} (hm:X.mg "isinstance"=none) (hmT:X.mg T=none) (hb:bootBuiltins T=some (.type T')) (hT:T'∈["bool", "int", "list", "tuple"]) (ha:PD X E a ga)
    (hg:Gl X "isinstance":=by rfl) (hgT:Gl X T:=by rfl) (hn:T≠"__name__":=by decide) (hdT:(T == ("__debug__":Str))=false:=by decide) (hs:starEach [a,.Name T p'] X.env=(false,eval a X.env)::starEach [.Name T p'] X.env:=by rfl)
    (hs2:starEach [.Name T p'] X.env=(false,eval (.Name T p') X.env)::starEach [] X.env:=by rfl) (hpl:(backTo pos (starEach [.Name T p'] X.env)).any (·.1)=false:=by rfl) :
    PD X E (.Call (.Name "isinstance" p) [a,.Name T p'] [] pos) (g1 (lg T') ga):=by
  refine (gN vC hg hm y2 (fi ha (fi (Bn (v:=.ty T') hgT hmT hb rfl hn hdT) iH hs2) hs) (by decide) (by decide) hs hpl).imp fun σ H Q rz3=>?_
  obtain ⟨A,δ,R,o⟩:=rz3
  refine g1.read (tt:=fun Q x H1=>∃ d v T,[x,V.ty T']=[v,.ty T]∧IsD X.K H1 d v∧T∈["bool", "int", "list", "tuple"]∧Q (.bl (tK d T)) H1) R o fun d1 d x H' e _ _ h k=>?_
  unfold lg at e
  split at e
  · rename_i z
    cases e
    exact ⟨d1,x,T',rfl,(h.same aY).isd z,hT,k _ H' (aM.refl _) is_bool⟩
  · cases e
end
end L2
set_option maxRecDepth 100000
set_option maxHeartbeats 4000000
namespace L2
open PySem PySem.Spec PyProof.Rows
noncomputable def zp (K:PySem.W.Frag) (J:It) (ds:List PyData) (G:Hp):Prop:=∀ (H1:Hp) (B:List Addr),aM G H1→Ls H1 B→(∀ b∈B,G b=none) →
  (∀ i,i < ds.length→J.go i H1)∧J.stop ds.length H1∧∀ i x H2,i < ds.length→J.yld i H1 x H2→aM H1 H2∧∃ d,ds[i]?=some d∧Is K (del H2 B) d x
noncomputable def outI (K:PySem.W.Frag) (E:XK) (A:List Addr) (H:Hp) (r:Rs (List PyData)) (R:It→Hp→Prop):Prop:=match r with
  | .ok ds=>∀ J H',aM H H'→zp K J ds (del H' A)→R J H'
  | .rz C=>∀ H',aM H H'→E (.ref C) none H'
  | .no=>False
noncomputable def iD (K:PySem.W.Frag) (E:XK) (g:Ds→Rs (List PyData)):TI:=fun σ H R=>∃ A δ,fD K H A δ σ∧outI K E A H (g δ) R
noncomputable def PID (X:Cx) (E:XK) (tg iter:Expr) (g:Ds→Rs (List PyData)):Prop:=PI X tg iter (iD X.K E g)
theorem PI.imp {X:Cx} {tg it:Expr} {t t':TI} (h:PI X tg it t) (k:∀ σ H R,t' σ H R→t σ H R):PI X tg it t':=fun pins s σ H R I q=>h pins s σ H R I (k σ H R q)
theorem PI.or {X:Cx} {tg it:Expr} {t t':TI} (h:PI X tg it t) (h':PI X tg it t'):PI X tg it (fun σ H R=>t σ H R∨t' σ H R):=fun pins s σ H R I q=>q.elim (h pins s σ H R I) (h' pins s σ H R I)
section
variable {X:Cx} {E:XK} {tg a:Expr} {ga:Ds→Rs PyData} {pos:Pos}
noncomputable def yj:PyData→Rs (List PyData)
  | .list ds=>.ok ds
  | .tuple ds=>.ok ds
  | _=>.no
theorem sL {G H1:Hp} {B:List Addr} (s:aM G H1) (hB:∀ b∈B,G b=none):aM G (del H1 B):=fun b o e=>by
  rw [cA (fun z=>by rw [hB b z] at e; cases e)]
  exact s b o e
theorem yS {K:PySem.W.Frag} {G:Hp} {p:Addr} {xs:List V} {ds:List PyData} (hp:G p=some (.lst xs)) (h:Iss K G ds xs):zp K (Itl K p) ds G:=fun H1 B s _ hB=>by
  have hl:=h.length
  have hS:SqL K H1 p xs:=SqL.of (s _ _ hp)
  refine ⟨fun i hi=>⟨xs,xs[i]'(by omega),hS,List.getElem?_eq_getElem _⟩,⟨xs,hS,by omega⟩,fun i x H2 hi y=>?_⟩
  obtain ⟨rfl,y⟩:=y
  obtain ⟨d,e,hd⟩:=h.get (y xs hS)
  exact ⟨aM.refl _,d,e,hd.same (sL s hB)⟩
theorem zD {K:PySem.W.Frag} {G:Hp} {p:Addr} {xs:List V} {ds:List PyData} (hp:G p=some (.tup xs)) (h:Iss K G ds xs):zp K (Itt K p) ds G:=fun H1 B s _ hB=>by
  have hl:=h.length
  have hS:SqT K H1 p xs:=SqT.of (s _ _ hp)
  refine ⟨fun i hi=>⟨xs,xs[i]'(by omega),hS,List.getElem?_eq_getElem _⟩,⟨xs,hS,by omega⟩,fun i x H2 hi y=>?_⟩
  obtain ⟨rfl,y⟩:=y
  obtain ⟨d,e,hd⟩:=h.get (y xs hS)
  exact ⟨aM.refl _,d,e,hd.same (sL s hB)⟩
noncomputable def dR (g:Ds→Rs PyData):Ds→Rs (List PyData):=fun δ=>(g δ).bind yj
theorem df (h:PD X E a ga):PID X E tg a (dR ga):=(PI.or (BQ h) (DE h)).imp fun σ H R pz3=>by
  obtain ⟨A,δ,Rp,o⟩:=pz3
  unfold dR at o
  cases q:ga δ with
  | no=>rw [q] at o; exact o.elim
  | rz C=>rw [q] at o; exact .inl (eD.run Rp (fun d e=>by rw [q] at e; cases e) (fun C' e H' s=>by rw [q] at e; cases e; exact o H' s) (fun e=>by rw [q] at e; cases e))
  | ok d =>
    rw [q] at o
    cases d with
    | list ds =>
      refine .inl (eD.run Rp (fun d e v H1 s1 R1 h1=>?_) (fun C' e=>by rw [q] at e; cases e) (fun e=>by rw [q] at e; cases e))
      rw [q] at e; cases e
      obtain ⟨p,xs,rfl,hp,hx⟩:=h1.ofLst
      exact ⟨p,rfl,⟨xs,SqL.of (aY _ _ hp)⟩,o _ H1 s1 (yS hp hx)⟩
    | tuple ds =>
      refine .inr (eD.run Rp (fun d e v H1 s1 R1 h1=>?_) (fun C' e=>by rw [q] at e; cases e) (fun e=>by rw [q] at e; cases e))
      rw [q] at e; cases e
      obtain ⟨p,xs,rfl,hp,hx⟩:=h1.ofTup
      exact ⟨p,rfl,⟨xs,SqT.of (aY _ _ hp)⟩,o _ H1 s1 (zD hp hx)⟩
    | _=>exact o.elim
noncomputable def cm (lo:Int) (n:Nat):List PyData:=(List.range n).map fun (i:Nat)=>PyData.int (lo + (i:Int))
theorem eH (lo:Int) (n:Nat):(cm lo n).length=n:=by simp [cm]
theorem qh {K:PySem.W.Frag} {G:Hp} {lo:Int} {n:Nat}:zp K (Itr lo n) (cm lo n) G:=fun H1 B s _ hB=>by
  refine ⟨fun i hi=>by rw [eH] at hi; exact hi,by rw [eH]; exact Nat.le_refl _,fun i x H2 hi y=>?_⟩
  obtain ⟨rfl,rfl⟩:=y
  rw [eH] at hi
  exact ⟨aM.refl _,_,by simp [cm,hi],cL⟩
noncomputable def B6:List PyData→Rs (List PyData)
  | [.int j]=>if -(2 ^ 62)≤j∧j < 2 ^ 62 then .ok (cm 0 j.toNat) else .no
  | _=>.no
noncomputable def Dk:List PyData→Rs (List PyData)
  | [.int i,.int j]=>if -(2 ^ 62)≤i∧i < 2 ^ 62∧-(2 ^ 62)≤j∧j < 2 ^ 62 then .ok (cm i (j - i).toNat) else .no
  | _=>.no
noncomputable def gv (g:Ds→Rs (List PyData)):Ds→Rs (List PyData):=fun δ=>(g δ).bind B6
noncomputable def yc (g:Ds→Rs (List PyData)):Ds→Rs (List PyData):=fun δ=>(g δ).bind Dk
theorem tm {gs:Ds→Rs (List PyData)} {f:List PyData→Rs (List PyData)} {σ:St} {H:Hp} {A:List Addr} {δ:Ds} {R:It→Hp→Prop} {K:PySem.W.Frag} {t:List V→Hp→Prop} (Rp:fD K H A δ σ) (o:outI K E A H ((gs δ).bind f) R)
    (k:∀ ds vs H1,gs δ=.ok ds→aM H H1→fD K H1 A δ σ→Iss K (del H1 A) ds vs→outI K E A H1 (f ds) R→t vs H1):aD K E gs σ H t:=by
  refine aD.run Rp (fun d e v H1 s1 R1 h1=>?_) (fun C e H' s'=>?_) (fun e=>?_)
  · rw [e] at o
    refine k d v H1 e s1 R1 h1 ?_
    have o:outI K E A H (f d) R:=o
    cases q:f d with
    | ok ds=>rw [q] at o; exact fun J H' s j=>o J H' (s1.trans s) j
    | rz C=>rw [q] at o; exact fun H' s=>o H' (s1.trans s)
    | no=>rw [q] at o; exact o
  · rw [e] at o; exact o H' s'
  · rw [e] at o; exact o
theorem ft {gs:Ds→Rs (List PyData)} {p:Pos} (hm:X.mg "range"=none) (ha:PAD X E [a] gs) (hg:Gl X "range":=by rfl) (hs:starEach [a] X.env=[(false,eval a X.env)]:=by rfl) :
    PID X E tg (.Call (.Name "range" p) [a] [] pos) (gv gs):=(yI hg hm ha.1 hs).imp fun σ H R ⟨A,δ,Rp,o⟩=>tm Rp o fun ds vs H1 e s1 R1 h1 o=>by
  unfold B6 at o
  split at o
  · split at o
    · rename_i z
      obtain ⟨v,rfl,h⟩:=nk h1
      rw [h.ofInt]
      exact ⟨_,rfl,z.1,z.2,o _ H1 (aM.refl _) qh⟩
    · exact o.elim
  · exact o.elim
theorem xv {b:Expr} {gs:Ds→Rs (List PyData)} {p:Pos} (hm:X.mg "range"=none) (ha:PAD X E [a,b] gs) (hg:Gl X "range":=by rfl) (hs:starEach [a,b] X.env=[(false,eval a X.env),(false,eval b X.env)]:=by rfl) (hs2:starEach [b] X.env=[(false,eval b X.env)]:=by rfl) :
    PID X E tg (.Call (.Name "range" p) [a,b] [] pos) (yc gs):=(yW hg hm ha.1 hs hs2).imp fun σ H R ⟨A,δ,Rp,o⟩=>tm Rp o fun ds vs H1 e s1 R1 h1 o=>by
  unfold Dk at o
  split at o
  · split at o
    · rename_i z
      obtain ⟨v,u,rfl,h,h'⟩:=BZ h1
      rw [h.ofInt,h'.ofInt]
      exact ⟨_,_,rfl,z,o _ H1 (aM.refl _) qh⟩
    · exact o.elim
  · exact o.elim
noncomputable def TgD (K:PySem.W.Frag) (n0 n:Nat) (tgt:PyData→Option Ds) (g:TG):Prop:=∀ (d:PyData) (v:V) (σ σ':St) (H:Hp) (A:List Addr) (Q:St→Hp→Prop) (own:Ds),σ.length=n0→σ'.length=n→Ls H A→Is K (del H A) d v→tgt d=some own →
  own.length=n∧((∀ vs:St,vs.length=n→(∀ (i:Nat) e,own[i]?=some (some e)→∃ u,vs[i]?=some (some u)∧Is K (del H A) e u)→Q (σ++vs) H)→g v (σ++σ') H Q)
noncomputable def bU:PyData→Option Ds:=fun d=>some [some d]
theorem dq {K:PySem.W.Frag} {n0:Nat}:TgD K n0 1 bU (oP n0):=fun d v σ σ' H A Q own h1 h2 hA hd e=>by
  cases e
  refine ⟨rfl,fun k=>?_⟩
  unfold oP
  subst h1
  rw [set_own σ none v σ' h2]
  refine k _ rfl fun i e z=>?_
  match i,z with
  | 0,z=>cases z; exact ⟨v,rfl,hd⟩
noncomputable def iF (cond:Ds→Rs Bool) (elt:Ds→Rs PyData) (tgt:PyData→Option Ds) (δ:Ds):List PyData→Rs (List PyData)
  | []=>.ok []
  | d::r=>match tgt d with
    | none=>.no
    | some own=>(cond (δ++own)).calm.bind fun b=>if b=true then (elt (δ++own)).calm.bind fun x=>(iF cond elt tgt δ r).bind fun xs=>.ok (x::xs) else iF cond elt tgt δ r
noncomputable def cq (n0:Nat) (src:Ds→Rs (List PyData)) (cond:Ds→Rs Bool) (elt:Ds→Rs PyData) (tgt:PyData→Option Ds):Ds→Rs (List PyData):=fun δ=>if δ.length=n0 then (src δ).bind fun ds=>if ds.length≤1000000 then iF cond elt tgt δ ds else .no else .no
noncomputable def cW:Ds→Rs Bool:=fun _=>.ok true
noncomputable def EK (K:PySem.W.Frag) (E:XK) (A:List Addr) (H:Hp) (r:Rs (List PyData)) (Q:VK):Prop:=match r with
  | .ok ds=>∀ a xs H',H a=none→aM H H'→H' a=some (.lst xs)→Iss K (del H' (a::A)) ds xs→Q (.ref a) H'
  | .rz C=>∀ H',aM H H'→E (.ref C) none H'
  | .no=>False
noncomputable def lD (K:PySem.W.Frag) (E:XK) (g:Ds→Rs (List PyData)):TE:=fun σ H Q=>∃ A δ,fD K H A δ σ∧EK K E A H (g δ) Q
noncomputable def PLD (X:Cx) (E:XK) (e:Expr) (g:Ds→Rs (List PyData)):Prop:=PE X e (lD X.K E g)
noncomputable def gL (g:Ds→Rs (List PyData)):Ds→Rs PyData:=fun δ=>(g δ).bind fun ds=>.ok (.list ds)
theorem rN {H:Hp} {a:Addr} {A:List Addr}:aM (del H (a::A)) (del H A):=fun b o e=>by
  obtain ⟨z,e⟩:=gK e
  rw [cA (fun q=>z (List.mem_cons_of_mem _ q))]; exact e
theorem gW {e:Expr} {g:Ds→Rs (List PyData)} (h:PLD X E e g):PD X E e (gL g):=PE.imp h fun σ H Q ⟨A,δ,R,o⟩=>⟨A,δ,R,by
  unfold gL at o
  cases q:g δ with
  | no=>rw [q] at o; exact o
  | rz C=>rw [q] at o; exact o
  | ok ds =>
    rw [q] at o
    intro a xs H' hn s hl hi
    exact o _ H' s (tF (by rw [cA (R.ls.new hn)]; exact hl) (hi.same rN))⟩
theorem nv {es:List Expr} {gs:Ds→Rs (List PyData)} (h:PAD X E es gs) (hl:es.length≤1000:=by decide):PLD X E (.List es pos) gs:=(wQ h.1).imp fun σ H Q pz3=>by
  obtain ⟨A,δ,R,o⟩:=pz3
  refine aD.run R (fun ds e vs H1 s1 R1 h1=>?_) (fun C e H' s'=>by rw [e] at o; exact o H' s') (fun e=>by rw [e] at o; exact o)
  rw [e] at o
  have n:=h.2 δ ds e
  have m:=h1.length
  refine ⟨by rw [sizeLine_eq]; omega,fun p hp=>o p vs _ (s1.free hp) (s1.trans (c0 hp)) cp (h1.same ?_)⟩
  refine fun b o e=>?_
  obtain ⟨z,e⟩:=gK e
  have:b≠p:=bH e hp
  rw [cA (by simp [this,z]),bw this]; exact e
theorem AQ {K:PySem.W.Frag} {own:List Str} {gi:Ds→Rs (List PyData)} {g:TG} {tt:TT} {cond:Ds→Rs Bool} {ge:Ds→Rs PyData} {tgt:PyData→Option Ds} {n0:Nat} (hT:TgD K n0 own.length tgt g) (htt:∀ σ H Q,cD K E0 cond σ H Q→tt σ H Q) :
    ∀ σ H Q,lD K E (cq n0 gi cond ge tgt) σ H Q→tLC own.length (iD K E gi) g tt (eD K E0 ge) σ H Q:=by
  intro σ H Q ⟨A,δ,R,o⟩
  unfold cq at o
  by_cases hn0:δ.length=n0
  case neg=>rw [if_neg hn0] at o; exact o.elim
  rw [if_pos hn0] at o
  have hσ:σ.length=n0:=by rw [← R.len]; exact hn0
  refine ⟨A,δ,R,?_⟩
  cases q:gi δ with
  | no=>rw [q] at o; exact o
  | rz C=>rw [q] at o; exact o
  | ok ds =>
    rw [q] at o
    have o:EK K E A H (if ds.length≤1000000 then iF cond ge tgt δ ds else .no) Q:=o
    by_cases hz:ds.length≤1000000
    case neg=>rw [if_neg hz] at o; exact o.elim
    rw [if_pos hz] at o
    intro J H1 s1 hJ D hD
    have R1:=R.same s1
    have nD:D ∉ A:=R1.ls.new hD
    cases qo:iF cond ge tgt δ ds with
    | rz C =>
      exfalso
      have:∀ l,iF cond ge tgt δ l≠.rz C:=by
        intro l
        induction l with
        | nil=>intro z; cases z
        | cons d r ih =>
          intro z
          unfold iF at z
          split at z
          · cases z
          · rename_i own' _
            cases c1:cond (δ++own') with
            | ok b =>
              simp only [c1,Rs.kv,Rs.aj] at z
              split at z
              · cases c2:ge (δ++own') with
                | ok x =>
                  simp only [c2,Rs.kv,Rs.aj] at z
                  cases c3:iF cond ge tgt δ r with
                  | ok l=>simp only [c3,Rs.aj] at z; cases z
                  | rz C'=>simp only [c3,Rs.jM] at z; cases z; exact ih c3
                  | no=>simp only [c3,Rs.dW] at z; cases z
                | rz C'=>simp only [c2,Rs.calm,Rs.dW] at z; cases z
                | no=>simp only [c2,Rs.calm,Rs.dW] at z; cases z
              · exact ih z
            | rz C'=>simp only [c1,Rs.calm,Rs.dW] at z; cases z
            | no=>simp only [c1,Rs.calm,Rs.dW] at z; cases z
      exact this ds qo
    | no=>rw [qo] at o; exact o.elim
    | ok out =>
      rw [qo] at o
      have base:aM (del H1 A) (del (upd H1 D (.lst [])) (D::A)):=fun b o e=>by
        obtain ⟨z,e⟩:=gK e
        have nb:b≠D:=bH e hD
        rw [cA (by simp [nb,z]),bw nb]; exact e
      refine ⟨fun i m ys H'=>m=ds.length - i∧i≤ds.length∧aM H1 H'∧H' D=some (.lst ys)∧ys.length≤i∧∃ dn rest,iF cond ge tgt δ (ds.drop i)=.ok rest∧out=dn++rest∧Iss K (del H' (D::A)) dn ys,
        ⟨ds.length,by simp,Nat.zero_le _,c0 hD,cp,Nat.le_refl _,[],out,qo,rfl,fI⟩,?_⟩
      rintro i m ys H' ⟨rfl,hi,sm,hl,hy,dn,rest,c1,c2,c3⟩
      refine ⟨hl,?_⟩
      have sG:aM (del H1 A) H':=aY.trans sm
      have hBn:∀ b∈D::A,(del H1 A) b=none:=fun b hb=>by
        rcases List.mem_cons.mp hb with z | z
        · rw [z,cA nD]; exact hD
        · exact oA z
      obtain ⟨jg,js,jy⟩:=hJ H' (D::A) sG (fun b hb=>by
        rcases List.mem_cons.mp hb with z | z
        · exact ⟨ys,by rw [z]; exact hl⟩
        · exact (R1.ls.same sm) b z) hBn
      by_cases hlt:i < ds.length
      · refine .inr ⟨jg i hlt,fun x H2 σ' hσ' y=>?_⟩
        obtain ⟨s2,d,ed,hd⟩:=jy i x H2 hlt y
        have edr:ds.drop i=d::ds.drop (i + 1):=by
          rw [List.drop_eq_getElem_cons hlt]
          have:ds[i]=d:=by
            have:=List.getElem?_eq_getElem hlt
            rw [this] at ed; exact Option.some.inj ed
          rw [this]
        rw [edr] at c1
        unfold iF at c1
        cases et:tgt d with
        | none=>rw [et] at c1; cases c1
        | some ow =>
          rw [et] at c1
          have l2:H2 D=some (.lst ys):=s2 _ _ hl
          have LsD:Ls H2 (D::A):=fun b hb=>by
            rcases List.mem_cons.mp hb with z | z
            · exact ⟨ys,by rw [z]; exact l2⟩
            · exact (R1.ls.same (sm.trans s2)) b z
          obtain ⟨hol,hgo⟩:=hT d x σ σ' H2 (D::A) (fun σ2 H2=>tt σ2 H2 fun b H3 =>
            if b=true then eD K E0 ge σ2 H3 fun v H4=>H4 D=some (.lst ys)∧ys.length < sizeLine∧(∃ σ'',σ2=σ++σ''∧σ''.length=own.length)∧∃ m',m' < ds.length - i∧_
            else (∃ σ'',σ2=σ++σ''∧σ''.length=own.length)∧∃ m',m' < ds.length - i∧_) ow hσ hσ' LsD hd et
          refine hgo fun vs hvs hown=>?_
          have sAll:aM (del H1 A) (del H2 (D::A)):=sL (sG.trans s2) hBn
          have RE:fD K H2 (D::A) (δ++ow) (σ++vs):=by
            refine ⟨LsD,by rw [List.length_append,List.length_append,R.len,hvs,hol],fun k e ek=>?_⟩
            by_cases hk:k < δ.length
            · rw [List.getElem?_append_left hk] at ek
              obtain ⟨u,e1,hu⟩:=R1.get k e ek
              exact ⟨u,by rw [List.getElem?_append_left (by rw [← R.len]; exact hk)]; exact e1,hu.same sAll⟩
            · rw [List.getElem?_append_right (by omega)] at ek
              obtain ⟨u,e1,hu⟩:=hown _ e ek
              exact ⟨u,by rw [List.getElem?_append_right (by rw [← R.len]; omega),← R.len]; exact e1,hu⟩
          have bad:∀ r:Rs Bool,r=.rz 0→r.calm=.no:=fun r e=>by rw [e]; rfl
          refine htt _ _ _ (cD.run RE (fun b eb H3 s3 R3=>?_) (fun C eb=>?_) (fun eb=>?_))
          · simp only [eb,Rs.kv,Rs.aj] at c1
            cases b with
            | true =>
              simp only [if_true] at c1
              refine eD.run R3 (fun xd ex v H4 s4 R4 hv=>?_) (fun C ex=>?_) (fun ex=>?_)
              · simp only [ex,Rs.kv,Rs.aj] at c1
                cases cr:iF cond ge tgt δ (ds.drop (i + 1)) with
                | ok rs =>
                  simp only [cr,Rs.aj] at c1
                  cases c1
                  have l4:H4 D=some (.lst ys):=s4 _ _ (s3 _ _ l2)
                  have dU:del (upd H4 D (.lst (ys++[v]))) (D::A)=del H4 (D::A):=tZ (List.mem_cons_self)
                  refine ⟨l4,by rw [sizeLine_eq]; omega,⟨vs,rfl,hvs⟩,ds.length - (i + 1),by omega,rfl,hlt,?_,cp,by simp; omega,dn++[xd],rs,cr,by rw [c2]; simp,?_⟩
                  · exact aM.put (((sm.trans s2).trans s3).trans s4) hD
                  · rw [dU]
                    exact (c3.same (aM.del (s2.trans (s3.trans s4)))).append (pw hv)
                | rz C=>simp only [cr,Rs.jM] at c1; cases c1
                | no=>simp only [cr,Rs.dW] at c1; cases c1
              · simp only [ex,Rs.calm,Rs.dW] at c1; cases c1
              · simp only [ex,Rs.calm,Rs.dW] at c1; cases c1
            | false =>
              simp only [Bool.false_eq_true,if_false] at c1
              exact ⟨⟨vs,rfl,hvs⟩,ds.length - (i + 1),by omega,rfl,hlt,(sm.trans s2).trans s3,s3 _ _ l2,by omega,dn,rest,c1,c2,c3.same (aM.del (s2.trans s3))⟩
          · simp only [eb,Rs.calm,Rs.dW] at c1; cases c1
          · simp only [eb,Rs.calm,Rs.dW] at c1; cases c1
      · have e:i=ds.length:=by omega
        subst e
        rw [List.drop_length] at c1
        cases c1
        rw [List.append_nil] at c2
        subst c2
        exact .inl ⟨js,o D ys H' (s1.free hD) (s1.trans sm) hl c3⟩
theorem d4 {M:List Str} {elt iter:Expr} {ifs:List Expr} {scope:Scope} {own:List Str} {gi:Ds→Rs (List PyData)} {g:TG} {tt:TT} {cond:Ds→Rs Bool} {ge:Ds→Rs PyData} {tgt:PyData→Option Ds} {n0:Nat} (hc:X.calm=true) (hi:PID X E tg iter gi)
    (hT:TgD X.K n0 own.length tgt g) (hg:∀ C s2 H2 fp,PG (blk X M scope own C s2 H2 fp) tg g) (ht:∀ C s2 H2 fp,PTs (blk X M scope own C s2 H2 fp) ifs tt) (htt:∀ σ H Q,cD X.K E0 cond σ H Q→tt σ H Q) (he:∀ C s2 H2 fp,PD (blk X M scope own C s2 H2 fp) E0 elt ge)
    (hB:qz X.N M X.env.scope scope own=true:=by rfl) (hs:∀ x,foldedSetIterable iter X.env x=pure x:=by intro _; rfl):PLD X E (.ListComp elt [⟨tg,iter,ifs,0⟩] scope pos) (cq n0 gi cond ge tgt) :=
  (Ae (own:=own) (te:=eD X.K E0 ge) hc hi hg ht (fun C s2 H2 fp=>he C s2 H2 fp) hB hs).imp (AQ hT htt)
noncomputable def PLS (X:Cx) (E:XK) (i:Nat) (st:Stmt) (gl:Ds→Rs (List PyData)):Prop:=PS X st (Cb (lD X.K E gl) (oP i))
theorem vq {M:List Str} {elt iter:Expr} {ifs:List Expr} {scope:Scope} {own:List Str} {gi:Ds→Rs (List PyData)} {g:TG} {tt:TT} {cond:Ds→Rs Bool} {ge:Ds→Rs PyData} {tgt:PyData→Option Ds} {n0:Nat} {i:Nat} {x:Str} {pos' spos:Pos} (hc:X.calm=true) (hN:X.N.Nodup) (hi:PID X E tg iter gi)
    (hT:TgD X.K n0 own.length tgt g) (hg:∀ C s2 H2 fp,PG (blk X M scope own C s2 H2 fp) tg g) (ht:∀ C s2 H2 fp,PTs (blk X M scope own C s2 H2 fp) ifs tt) (htt:∀ σ H Q,cD X.K E0 cond σ H Q→tt σ H Q) (he:∀ C s2 H2 fp,PD (blk X M scope own C s2 H2 fp) E0 elt ge)
    (hxi:X.N[i]?=some x:=by rfl) (hx:Loc X.env.scope x:=by first | exact Or.inl rfl | exact Or.inr rfl) (hsw:swapsWith (.ListComp elt [⟨tg,iter,ifs,0⟩] scope pos) (some (.Name x pos')) spos.line X.env=pure true:=by rfl)
    (hB:qz X.N M X.env.scope scope own=true:=by rfl) (hs:∀ x,foldedSetIterable iter X.env x=pure x:=by intro _; rfl) (hf:X.fn x=true∨X.env.scope.names.lookup x=some .local:=by first | exact .inl rfl | exact .inr rfl | assumption) :
    PLS X E i (.Assign [.Name x pos'] (.ListComp elt [⟨tg,iter,ifs,0⟩] scope pos) spos) (cq n0 gi cond ge tgt) :=
  PS.imp (AG (own:=own) (te:=eD X.K E0 ge) hc hN hxi hx hsw hi hg ht (fun C s2 H2 fp=>he C s2 H2 fp) hB hs hf) fun D σ H h=>AQ hT htt σ H _ h
end
end L2
set_option maxRecDepth 100000
set_option maxHeartbeats 4000000
namespace L2
open PySem PySem.Spec PyProof.Rows
inductive Sr where
  | nx (δ:Ds)
  | rt (d:PyData)
  | rz (C:Addr)
  | bk (δ:Ds)
  | ct (δ:Ds)
  | no
structure dA (K:PySem.W.Frag) (H0:Hp) (A0:List Addr) (H:Hp) (A:List Addr) (O:List Nat) (δ:Ds) (σ:St):Prop where
  same:aM H0 H
  ls0:Ls H0 A0
  new:∀ a∈A,H0 a=none
  ls:Ls H A
  len:δ.length=σ.length
  pl:∀ (i:Nat) d,i ∉ O→δ[i]?=some (some d)→∃ v,σ[i]?=some (some v)∧Is K (del H (A++A0)) d v
  own:∀ (i:Nat) d,i∈O→δ[i]?=some (some d)→∃ a xs ds,σ[i]?=some (some (.ref a))∧a∈A∧H a=some (.lst xs)∧d=.list ds∧Iss K (del H (A++A0)) ds xs
  inj:∀ (i j:Nat) d e a,i∈O→j∈O→δ[i]?=some (some d)→δ[j]?=some (some e)→σ[i]?=some (some (.ref a))→σ[j]?=some (some (.ref a))→i=j
noncomputable def mask (O:List Nat) (δ:Ds):Ds:=if O=[] then δ else δ.mapIdx fun i d=>if i∈O then none else d
theorem dZ (δ:Ds):mask [] δ=δ:=by simp [mask]
theorem AM {O:List Nat} {δ:Ds} {i:Nat} {d:PyData} (h:(mask O δ)[i]?=some (some d)):i ∉ O∧δ[i]?=some (some d):=by
  unfold mask at h
  split at h
  · rename_i z; subst z; exact ⟨by simp,h⟩
  · rw [List.getElem?_mapIdx] at h
    cases q:δ[i]? with
    | none=>rw [q] at h; cases h
    | some x =>
      rw [q] at h
      simp only [Option.map_some,Option.some.injEq] at h
      by_cases z:i∈O
      · rw [if_pos z] at h; cases h
      · rw [if_neg z] at h; exact ⟨z,by rw [h]⟩
theorem Be {O:List Nat} {δ:Ds}:(mask O δ).length=δ.length:=by unfold mask; split <;> simp
theorem vX {H:Hp} {A B:List Addr}:aM (del H (A++B)) (del H B):=fun b o e=>by
  obtain ⟨z,e⟩:=gK e
  rw [cA (fun q=>z (List.mem_append_right _ q))]; exact e
section
variable {K:PySem.W.Frag} {E:XK} {H0 H H1:Hp} {A0 A:List Addr} {O:List Nat} {δ:Ds} {σ:St}
theorem dA.lsA (R:dA K H0 A0 H A O δ σ):Ls H (A++A0):=fun a h=>(List.mem_append.mp h).elim (R.ls a) fun z=>(R.ls0.same R.same) a z
theorem dA.step (R:dA K H0 A0 H A O δ σ) (s:aM H H1):dA K H0 A0 H1 A O δ σ where
  same:=R.same.trans s
  ls0:=R.ls0
  new:=R.new
  ls:=R.ls.same s
  len:=R.len
  pl:=fun i d h e=>by
    obtain ⟨v,e1,h1⟩:=R.pl i d h e
    exact ⟨v,e1,h1.same s.del⟩
  own:=fun i d h e=>by
    obtain ⟨a,xs,ds,e1,h1,h2,h3,h4⟩:=R.own i d h e
    exact ⟨a,xs,ds,e1,h1,s _ _ h2,h3,h4.same s.del⟩
  inj:=R.inj
theorem dA.apart (R:dA K H0 A0 H A O δ σ) {a:Addr} (h:a∈A):a ∉ A0:=fun z=>by
  obtain ⟨xs,e⟩:=R.ls0 a z
  rw [R.new a h] at e; cases e
theorem dA.full (R:dA K H0 A0 H A O δ σ):fD K H A0 δ σ where
  ls:=R.ls0.same R.same
  len:=R.len
  get:=fun i d e=>by
    by_cases h:i∈O
    · obtain ⟨a,xs,ds,e1,h1,h2,h3,h4⟩:=R.own i d h e
      subst h3
      exact ⟨_,e1,tF (xs:=xs) (by rw [cA (R.apart h1)]; exact h2) (h4.same vX)⟩
    · obtain ⟨v,e1,h1⟩:=R.pl i d h e
      exact ⟨v,e1,h1.same vX⟩
theorem dA.part (R:dA K H0 A0 H A O δ σ):fD K H (A++A0) (mask O δ) σ where
  ls:=R.lsA
  len:=by rw [Be]; exact R.len
  get:=fun i d e=>by
    obtain ⟨h,e⟩:=AM e
    exact R.pl i d h e
theorem get_set {α:Type} {l:List α} {i j:Nat} {x y:α} (h:(l.set i x)[j]?=some y):(i=j∧y=x)∨(i≠j∧l[j]?=some y):=by
  by_cases z:i=j
  · subst z
    rw [List.getElem?_set_self'] at h
    cases q:l[i]? with
    | none=>rw [q] at h; cases h
    | some w=>rw [q] at h; simp at h; exact .inl ⟨rfl,h.symm⟩
  · rw [List.getElem?_set_ne z] at h; exact .inr ⟨z,h⟩
theorem pe {α:Type} {l:List α} {i j:Nat} {x y:α} (hn:i≠j) (h:l[j]?=some y):(l.set i x)[j]?=some y:=by rw [List.getElem?_set_ne hn]; exact h
theorem dA.set {i:Nat} {d:PyData} {v:V} (R:dA K H0 A0 H A O δ σ) (hi:i ∉ O) (hl:i < δ.length) (h:Is K (del H (A++A0)) d v):dA K H0 A0 H A O (δ.set i (some d)) (σ.set i (some v)) where
  same:=R.same
  ls0:=R.ls0
  new:=R.new
  ls:=R.ls
  len:=by simp [R.len]
  pl:=fun j e hj q=>by
    rcases get_set q with ⟨z,q⟩ | ⟨z,q⟩
    · cases q; subst z
      exact ⟨v,by rw [List.getElem?_set_self (by rw [← R.len]; exact hl)],h⟩
    · obtain ⟨u,e1,h1⟩:=R.pl j e hj q
      exact ⟨u,pe z e1,h1⟩
  own:=fun j e hj q=>by
    rcases get_set q with ⟨z,q⟩ | ⟨z,q⟩
    · subst z; exact absurd hj hi
    · obtain ⟨a,xs,ds,e1,h1⟩:=R.own j e hj q
      exact ⟨a,xs,ds,pe z e1,h1⟩
  inj:=fun j k d' e a hj hk q1 q2 p1 p2=>by
    have n1:i≠j:=fun z=>hi (z ▸ hj)
    have n2:i≠k:=fun z=>hi (z ▸ hk)
    rw [List.getElem?_set_ne n1] at q1 p1
    rw [List.getElem?_set_ne n2] at q2 p2
    exact R.inj j k d' e a hj hk q1 q2 p1 p2
theorem dA.setOwn {i:Nat} {ds:List PyData} {a:Addr} {xs:List V} (R:dA K H0 A0 H A O δ σ) (hi:i∈O) (hl:i < δ.length) (hn:H a=none) (s:aM H H1) (ha:H1 a=some (.lst xs)) (h:Iss K (del H1 (a::(A++A0))) ds xs) :
    dA K H0 A0 H1 (a::A) O (δ.set i (some (.list ds))) (σ.set i (some (.ref a))) where
  same:=R.same.trans s
  ls0:=R.ls0
  new:=fun b hb=>by
    rcases List.mem_cons.mp hb with z | z
    · rw [z]; exact R.same.free hn
    · exact R.new b z
  ls:=fun b hb=>by
    rcases List.mem_cons.mp hb with z | z
    · exact ⟨xs,by rw [z]; exact ha⟩
    · exact (R.ls.same s) b z
  len:=by simp [R.len]
  pl:=fun j e hj q=>by
    rcases get_set q with ⟨z,q⟩ | ⟨z,q⟩
    · subst z; exact absurd hi hj
    · obtain ⟨u,e1,h1⟩:=R.pl j e hj q
      refine ⟨u,pe z e1,h1.same fun b o e=>?_⟩
      obtain ⟨y,e⟩:=gK e
      have nb:b≠a:=bH e hn
      rw [cA (by simpa [nb] using y)]; exact s _ _ e
  own:=fun j e hj q=>by
    have kk:∀ b o,del H (A++A0) b=some o→del H1 (a::A++A0) b=some o:=fun b o e=>by
      obtain ⟨y,e⟩:=gK e
      have nb:b≠a:=bH e hn
      rw [cA (by simpa [nb] using y)]; exact s _ _ e
    rcases get_set q with ⟨z,q⟩ | ⟨z,q⟩
    · cases q; subst z
      exact ⟨a,xs,ds,by rw [List.getElem?_set_self (by rw [← R.len]; exact hl)],List.mem_cons_self,ha,rfl,h⟩
    · obtain ⟨b,ys,es,e1,h1,h2,h3,h4⟩:=R.own j e hj q
      exact ⟨b,ys,es,pe z e1,List.mem_cons_of_mem _ h1,s _ _ h2,h3,h4.same kk⟩
  inj:=fun j k d' e b hj hk q1 q2 p1 p2=>by
    have old:∀ k,k∈O→i≠k→∀ e,δ[k]?=some (some e)→σ[k]?=some (some (.ref a))→False:=fun k hk _ e q p=>by
      obtain ⟨b,ys,es,e1,h1,h2,_⟩:=R.own k e hk q
      rw [p] at e1; cases e1
      rw [hn] at h2; cases h2
    by_cases z1:i=j
    · by_cases z2:i=k
      · rw [← z1,z2]
      · subst z1
        rw [List.getElem?_set_self (by rw [← R.len]; exact hl)] at p1
        cases p1
        rw [List.getElem?_set_ne z2] at q2 p2
        exact (old k hk z2 e q2 p2).elim
    · by_cases z2:i=k
      · subst z2
        rw [List.getElem?_set_self (by rw [← R.len]; exact hl)] at p2
        cases p2
        rw [List.getElem?_set_ne z1] at q1 p1
        exact (old j hj z1 d' q1 p1).elim
      · rw [List.getElem?_set_ne z1] at q1 p1
        rw [List.getElem?_set_ne z2] at q2 p2
        exact R.inj j k d' e b hj hk q1 q2 p1 p2
theorem dA.put {i:Nat} {ds:List PyData} {a:Addr} {ys:List V} {d0:PyData} (R:dA K H0 A0 H A O δ σ) (hi:i∈O) (hd:δ[i]?=some (some d0)) (hs:σ[i]?=some (some (.ref a))) (ha:a∈A) (h:Iss K (del H (A++A0)) ds ys) :
    dA K H0 A0 (upd H a (.lst ys)) A O (δ.set i (some (.list ds))) σ:=by
  have dU:del (upd H a (.lst ys)) (A++A0)=del H (A++A0):=tZ (List.mem_append_left _ ha)
  have hl:i < δ.length:=(List.getElem?_eq_some_iff.mp hd).1
  refine ⟨fun b o e=>?_,R.ls0,R.new,fun b hb=>?_,by simp [R.len],fun j e hj q=>?_,fun j e hj q=>?_,fun j k d' e b hj hk q1 q2 p1 p2=>?_⟩
  · have nb:b≠a:=fun z=>by rw [z,R.new a ha] at e; cases e
    rw [bw nb]; exact R.same b o e
  · by_cases z:b=a
    · exact ⟨ys,by rw [z,cp]⟩
    · rw [bw z]; exact R.ls b hb
  · rcases get_set q with ⟨z,q⟩ | ⟨z,q⟩
    · subst z; exact absurd hi hj
    · rw [dU]; exact R.pl j e hj q
  · rcases get_set q with ⟨z,q⟩ | ⟨z,q⟩
    · cases q; subst z
      exact ⟨a,ys,ds,hs,ha,cp,rfl,by rw [dU]; exact h⟩
    · obtain ⟨b,zs,es,e1,h1,h2,h3,h4⟩:=R.own j e hj q
      have nb:b≠a:=fun w=>z (R.inj i j _ _ a hi hj hd q hs (by rw [← w]; exact e1))
      exact ⟨b,zs,es,e1,h1,by rw [bw nb]; exact h2,h3,by rw [dU]; exact h4⟩
  · rcases get_set q1 with ⟨z1,q1⟩ | ⟨z1,q1⟩ <;> rcases get_set q2 with ⟨z2,q2⟩ | ⟨z2,q2⟩
    · rw [← z1,z2]
    · subst z1; exact R.inj i k d0 e b hi hk hd q2 p1 p2
    · subst z2; exact R.inj j i d' d0 b hj hi q1 hd p1 p2
    · exact R.inj j k d' e b hj hk q1 q2 p1 p2
noncomputable def un (H0 G:Hp):Hp:=fun b=>match H0 b with | some o=>some o | none=>G b
theorem AK {H0 G:Hp}:aM H0 (un H0 G):=fun b o e=>by unfold un; rw [e]
theorem Fl {H0 G:Hp} (h0:aM H0 H) (hG:aM G H):aM G (un H0 G):=fun b o e=>by
  unfold un
  cases q:H0 b with
  | none=>exact e
  | some o2=>have h2:=h0 b o2 q; rw [hG b o e] at h2; exact h2.symm
theorem ED {H0 G:Hp} (h0:aM H0 H) (hG:aM G H):aM (un H0 G) H:=fun b o e=>by
  unfold un at e
  cases q:H0 b with
  | none=>rw [q] at e; exact hG b o e
  | some o2=>rw [q] at e; rw [← Option.some.inj e]; exact h0 b o2 q
theorem dA.more (R:dA K H0 A0 H A O δ σ):dA K (un H0 (del H (A++A0))) A0 H A O δ σ :=
  ⟨ED R.same aY,R.ls0.same AK,fun a h=>by unfold un; rw [R.new a h]; exact oA (List.mem_append_left _ h),R.ls,R.len,R.pl,R.own,R.inj⟩
theorem dA.less {H0':Hp} (R:dA K H0' A0 H A O δ σ) (s:aM H0 H0') (l:Ls H0 A0):dA K H0 A0 H A O δ σ:=⟨s.trans R.same,l,fun a h=>s.free (R.new a h),R.ls,R.len,R.pl,R.own,R.inj⟩
end
noncomputable def uQ (K:PySem.W.Frag) (E:XK) (H0:Hp) (A0:List Addr) (O:List Nat) (r:Sr) (D:Ends):Prop:=match r with
  | .nx δ=>∀ A σ H,dA K H0 A0 H A O δ σ→D.nx σ H
  | .rt d=>∀ v H,aM H0 H→Is K (del H A0) d v→D.rt v H
  | .rz C=>∀ H,aM H0 H→E (.ref C) none H
  | .bk δ=>∀ A σ H,dA K H0 A0 H A O δ σ→D.bk σ H
  | .ct δ=>∀ A σ H,dA K H0 A0 H A O δ σ→D.ct σ H
  | .no=>False
noncomputable def sD (K:PySem.W.Frag) (E:XK) (O:List Nat) (G:Ds→Sr):TS:=fun D σ H=>∃ H0 A0 A δ,dA K H0 A0 H A O δ σ∧uQ K E H0 A0 O (G δ) D
noncomputable def PSD (X:Cx) (E:XK) (O:List Nat) (s:Stmt) (G:Ds→Sr):Prop:=PS X s (sD X.K E O G)
noncomputable def PBD (X:Cx) (E:XK) (O:List Nat) (ss:List Stmt) (G:Ds→Sr):Prop:=PSs X ss (sD X.K E O G)
noncomputable def b3:Ds→Sr:=fun δ=>.nx δ
noncomputable def bj (a b:Ds→Sr):Ds→Sr:=fun δ=>match a δ with
  | .nx δ'=>b δ'
  | r=>r
noncomputable def ofR {α:Type} (r:Rs α) (k:α→Sr):Sr:=match r with
  | .ok a=>k a
  | .rz C=>.rz C
  | .no=>.no
@[simp] theorem aE {α:Type} (a:α) (k:α→Sr):ofR (.ok a) k=k a:=rfl
@[simp] theorem sx {α:Type} (C:Addr) (k:α→Sr):ofR (.rz C) k=.rz C:=rfl
@[simp] theorem sE {α:Type} (k:α→Sr):ofR (.no:Rs α) k=.no:=rfl
noncomputable def sIf (c:Ds→Rs Bool) (a b:Ds→Sr):Ds→Sr:=fun δ=>ofR (c δ) fun t=>if t=true then a δ else b δ
noncomputable def b0 (g:Ds→Rs PyData):Ds→Sr:=fun δ=>ofR (g δ) .rt
noncomputable def nB (g:Ds→Rs PyData):Ds→Sr:=fun δ=>ofR (g δ) fun _=>.nx δ
noncomputable def bp (O:List Nat) (i:Nat) (g:Ds→Rs PyData):Ds→Sr:=fun δ=>if i < δ.length then ofR (g (mask O δ)) fun d=>.nx (δ.set i (some d)) else .no
noncomputable def lR (O:List Nat) (i:Nat) (g:Ds→Rs (List PyData)):Ds→Sr:=fun δ=>if i < δ.length then ofR (g (mask O δ)) fun ds=>.nx (δ.set i (some (.list ds))) else .no
noncomputable def nK (O:List Nat) (i:Nat) (g:Ds→Rs PyData):Ds→Sr:=fun δ=>match δ[i]? with
  | some (some (.list ds))=>ofR (g (mask O δ)) fun d=>if ds.length < 1000000 then .nx (δ.set i (some (.list (ds++[d])))) else .no
  | _=>.no
section
variable {X:Cx} {E:XK} {O:List Nat} {st:Stmt} {ss:List Stmt} {G G':Ds→Sr} {e a b c:Expr} {ga gb:Ds→Rs PyData} {ca:Ds→Rs Bool} {pos:Pos}
theorem cc:PBD X E O [] b3:=tX.imp fun D σ H qz3=>(by obtain ⟨H0,A0,A,δ,R,o⟩:=qz3; exact o A σ H R)
theorem au (h1:PSD X E O st G) (h2:PBD X E O ss G'):PBD X E O (st::ss) (bj G G'):=(iz h1 h2).imp fun D σ H ⟨H0,A0,A,δ,R,o⟩=>⟨H0,A0,A,δ,R,by
  unfold bj at o
  cases q:G δ with
  | nx δ'=>rw [q] at o; exact fun A' σ' H' R'=>⟨H0,A0,A',δ',R',o⟩
  | rt d=>rw [q] at o; exact o
  | rz C=>rw [q] at o; exact o
  | bk d=>rw [q] at o; exact o
  | ct d=>rw [q] at o; exact o
  | no=>rw [q] at o; exact o⟩
theorem ax (h1:PSD X E O st G):PBD X E O [st] G:=(lC h1).imp fun D σ H h=>h
theorem cH {ss':List Stmt} (hc:PCD X E c ca) (h1:PBD X E O ss G) (h2:PBD X E O ss' G'):PSD X E O (.If c ss ss' pos) (sIf ca G G'):=(Ax hc h1 h2).imp fun D σ H pz3=>by
  obtain ⟨H0,A0,A,δ,R,o⟩:=pz3
  unfold sIf at o
  refine cD.run R.full (fun t et H1 s1 R1=>?_) (fun C et H' s'=>?_) (fun et=>?_)
  · rw [et] at o
    cases t with
    | true=>exact ⟨H0,A0,A,δ,R.step s1,o⟩
    | false=>exact ⟨H0,A0,A,δ,R.step s1,o⟩
  · rw [et] at o; exact o H' (R.same.trans s')
  · rw [et] at o; exact o
theorem aQ (h:PD X E e ga):PSD X E O (.Return (some e) pos) (b0 ga):=(qH h).imp fun D σ H pz3=>by
  obtain ⟨H0,A0,A,δ,R,o⟩:=pz3
  unfold b0 at o
  refine eD.run R.full (fun d ed v H1 s1 R1 hv=>?_) (fun C et H' s'=>?_) (fun et=>?_)
  · rw [ed] at o; exact o v H1 (R.same.trans s1) hv
  · rw [et] at o; exact o H' (R.same.trans s')
  · rw [et] at o; exact o
theorem kT (h:PD X E e ga) (hs:swapsWith e none pos.line X.env=pure false:=by rfl):PSD X E O (.Expr e pos) (nB ga):=(tq h hs).imp fun D σ H pz3=>by
  obtain ⟨H0,A0,A,δ,R,o⟩:=pz3
  unfold nB at o
  refine eD.run R.full (fun d ed v H1 s1 R1 hv=>?_) (fun C et H' s'=>?_) (fun et=>?_)
  · rw [ed] at o; exact o A σ H1 (R.step s1)
  · rw [et] at o; exact o H' (R.same.trans s')
  · rw [et] at o; exact o
theorem a5 {i:Nat} {x:Str} {pos':Pos} (h:PD X E e ga) (hN:X.N.Nodup) (hO:i ∉ O:=by decide) (hi:X.N[i]?=some x:=by rfl) (hx:Loc X.env.scope x:=by first | exact Or.inl rfl | exact Or.inr rfl) (hs:swapsWith e (some (.Name x pos')) pos.line X.env=pure false:=by rfl)
    (hf:X.fn x=true∨X.env.scope.names.lookup x=some .local:=by first | exact .inl rfl | exact .inr rfl | assumption):PSD X E O (.Assign [.Name x pos'] e pos) (bp O i ga):=(xa hN hi hx h hs hf).imp fun D σ H pz3=>by
  obtain ⟨H0,A0,A,δ,R,o⟩:=pz3
  unfold bp at o
  split at o
  · rename_i hl
    refine eD.run R.part (fun d ed v H1 s1 R1 hv=>?_) (fun C et H' s'=>?_) (fun et=>?_)
    · rw [ed] at o; exact o A _ H1 ((R.step s1).set hO hl hv)
    · rw [et] at o; exact o H' (R.same.trans s')
    · rw [et] at o; exact o
  · exact o.elim
theorem ly {i:Nat} {x:Str} {pos':Pos} {gl:Ds→Rs (List PyData)} (h:PLD X E e gl) (hN:X.N.Nodup) (hO:i∈O:=by decide) (hi:X.N[i]?=some x:=by rfl) (hx:Loc X.env.scope x:=by first | exact Or.inl rfl | exact Or.inr rfl) (hs:swapsWith e (some (.Name x pos')) pos.line X.env=pure false:=by rfl)
    (hf:X.fn x=true∨X.env.scope.names.lookup x=some .local:=by first | exact .inl rfl | exact .inr rfl | assumption):PSD X E O (.Assign [.Name x pos'] e pos) (lR O i gl):=(xa hN hi hx h hs hf).imp fun D σ H pz3=>by
  obtain ⟨H0,A0,A,δ,R,o⟩:=pz3
  unfold lR at o
  split at o
  · rename_i hl
    refine ⟨A++A0,mask O δ,R.part,?_⟩
    cases q:gl (mask O δ) with
    | ok ds =>
      rw [q] at o
      exact fun p xs H' hn s hp hi'=>o (p::A) _ H' (R.setOwn hO hl hn s hp hi')
    | rz C=>rw [q] at o; exact fun H' s'=>o H' (R.same.trans s')
    | no=>rw [q] at o; exact o
  · exact o.elim
theorem u5 {i:Nat} {gl:Ds→Rs (List PyData)} (h:PLS X E i st gl) (hO:i ∉ O:=by decide):PSD X E O st (bp O i (gL gl)):=PS.imp h fun D σ H pz3=>by
  obtain ⟨H0,A0,A,δ,R,o⟩:=pz3
  unfold bp gL at o
  split at o
  · rename_i hl
    have R1:=R.part
    refine ⟨A++A0,mask O δ,R1,?_⟩
    cases q:gl (mask O δ) with
    | ok ds =>
      rw [q] at o
      intro p xs H' hn s hp hi'
      exact o A _ H' ((R.step s).set hO hl (tF (by rw [cA (R1.ls.new hn)]; exact hp) (hi'.same rN)))
    | rz C=>rw [q] at o; exact fun H' s'=>o H' (R.same.trans s')
    | no=>rw [q] at o; exact o
  · exact o.elim
theorem tyL {K:PySem.W.Frag} {H:Hp} {p:Addr} {xs:List V} (h:H p=some (.lst xs)):tyV K "list" (.ref p) H:=.inl ⟨rfl,xs,SqL.of h⟩
theorem uu {i:Nat} {x:Str} {pn pa pc:Pos} (h:PD X E e ga) (hO:i∈O:=by decide) (hi:X.N[i]?=some x:=by rfl) (hv:Vis X.env.scope x:=by first | exact Or.inl rfl | exact Or.inr (Or.inl rfl) | exact Or.inr (Or.inr rfl))
    (hd:(x == ("__debug__":Str))=false:=by decide) (hcd:(x == ("__classdict__":Str))=false:=by decide) (hst:starEach [e] X.env=(false,eval e X.env)::starEach [] X.env:=by rfl)
    (hbase:attributeBase (.Name x pn) "append" X.env (eval (.Name x pn) X.env)=eval (.Name x pn) X.env:=by rfl)
    (hfew:((backTo pc (starEach [e] X.env)).all (fun x=>!x.1) && (backToKw pc (keywordEach [] X.env)).all (fun x=>x.1.isSome) && decide (([e]:List Expr).length + ([]:List Keyword).length + (if ([]:List Keyword).isEmpty then 0 else 1) < 30))=true:=by rfl)
    (hline:(pa.endLine == pc.line)=true:=by rfl) (hs:swapsWith (.Call (.Attribute (.Name x pn) "append" pa) [e] [] pc) none pos.line X.env=pure false:=by rfl) :
    PSD X E O (.Expr (.Call (.Attribute (.Name x pn) "append" pa) [e] [] pc) pos) (nK O i ga) :=
  (tq (Ag PySem.F.plainAttrs_list PySem.F.slot_list_append PySem.F.type_list_append nW (oh hi hv hd hcd) (fi h iH hst) hbase hfew hline hst rfl) hs).imp fun D σ H pz3=>by
    obtain ⟨H0,A0,A,δ,R,o⟩:=pz3
    unfold nK at o
    split at o
    · rename_i ds q
      obtain ⟨p,xs,ds',e1,hp,hl,e2,hx⟩:=R.own i _ hO q
      cases e2
      refine ⟨_,e1,tyL hl,?_⟩
      refine eD.run R.part (fun d ed v H1 s1 R1 hv=>?_) (fun C et H' s'=>?_) (fun et=>?_)
      · rw [ed] at o
        have o:uQ X.K E H0 A0 O (if ds.length < 1000000 then .nx (δ.set i (some (.list (ds++[d])))) else .no) D:=o
        split at o
        · rename_i hz
          refine ⟨p,xs,v,rfl,rfl,s1 _ _ hl,by rw [hx.length,sizeLine_eq]; omega,?_⟩
          exact o A _ _ ((R.step s1).put hO q e1 hp ((hx.same s1.del).append (pw hv)))
        · exact o.elim
      · rw [et] at o; exact o H' (R.same.trans s')
      · rw [et] at o; exact o
    · exact o.elim
noncomputable def TgS (K:PySem.W.Frag) (O:List Nat) (tgt:PyData→Ds→Option Ds) (g:TG):Prop:=∀ (d:PyData) (v:V) (H0:Hp) (A0:List Addr) (H:Hp) (A:List Addr) (δ δ':Ds) (σ:St) (Q:St→Hp→Prop),dA K H0 A0 H A O δ σ→Is K (del H (A++A0)) d v→tgt d δ=some δ' →
  (∀ σ',dA K H0 A0 H A O δ' σ'→Q σ' H)→g v σ H Q
noncomputable def cn (i:Nat):PyData→Ds→Option Ds:=fun d δ=>if i < δ.length then some (δ.set i (some d)) else none
theorem fg {K:PySem.W.Frag} {i:Nat} (hi:i ∉ O):TgS K O (cn i) (oP i):=fun d v H0 A0 H A δ δ' σ Q R h e k=>by
  unfold cn at e
  split at e
  · rename_i hl
    cases e
    exact k _ (R.set hi hl h)
  · cases e
noncomputable def iu:List Nat→List PyData→Ds→Option Ds
  | [],[],δ=>some δ
  | i::is,d::ds,δ=>if i < δ.length then iu is ds (δ.set i (some d)) else none
  | _,_,_=>none
noncomputable def dG (is:List Nat):PyData→Ds→Option Ds
  | .tuple ds,δ=>iu is ds δ
  | _,_=>none
noncomputable def wm:List Nat→TGs
  | []=>L2.E2
  | i::is=>L2.CO (oP i) (wm is)
theorem oO {K:PySem.W.Frag}:∀ (is:List Nat) (ds:List PyData) (vs:List V) (H0:Hp) (A0:List Addr) (H:Hp) (A:List Addr) (δ δ':Ds) (σ:St) (Q:St→Hp→Prop),(∀ i∈is,i ∉ O)→dA K H0 A0 H A O δ σ→Iss K (del H (A++A0)) ds vs→iu is ds δ=some δ' →
    (∀ σ',dA K H0 A0 H A O δ' σ'→Q σ' H)→wm is vs σ H Q
  | [],[],vs,H0,A0,H,A,δ,δ',σ,Q,_,R,h,e,k=>by
    cases e
    exact ⟨h.nil_of,k σ R⟩
  | i::is,d::ds,vs,H0,A0,H,A,δ,δ',σ,Q,hO,R,h,e,k=>by
    obtain ⟨v,r,rfl,h1,h2⟩:=h.cons_of
    unfold iu at e
    split at e
    · rename_i hl
      exact ⟨v,r,rfl,oO is ds r H0 A0 H A _ δ' _ Q (fun j hj=>hO j (List.mem_cons_of_mem _ hj)) (R.set (hO i List.mem_cons_self) hl h1) h2 e k⟩
    · cases e
  | [],_::_,_,_,_,_,_,_,_,_,_,_,_,_,e,_=>by cases e
  | _::_,[],_,_,_,_,_,_,_,_,_,_,_,_,e,_=>by cases e
theorem qb:∀ {is:List Nat} {ds:List PyData} {δ δ':Ds},iu is ds δ=some δ'→ds.length=is.length
  | [],[],_,_,_=>rfl
  | _::is,_::ds,δ,δ',e=>by
    unfold iu at e
    split at e
    · simp [qb e]
    · cases e
  | [],_::_,_,_,e=>by cases e
  | _::_,[],_,_,e=>by cases e
theorem lI {K:PySem.W.Frag} {is:List Nat} (hi:∀ i∈is,i ∉ O):TgS K O (dG is) (L2.E5 K is.length (wm is)):=fun d v H0 A0 H A δ δ' σ Q R h e k=>by
  unfold dG at e
  split at e
  · obtain ⟨p,xs,rfl,hp,hx⟩:=h.ofTup
    exact ⟨p,xs,rfl,SqT.of (aY _ _ hp),by rw [hx.length,qb e],oO is _ xs H0 A0 H A δ δ' σ Q hi R hx e k⟩
  · cases e
noncomputable def forL (tgt:PyData→Ds→Option Ds) (body:Ds→Sr):List PyData→Ds→Sr
  | [],δ=>.nx δ
  | d::r,δ=>match tgt d δ with
    | none=>.no
    | some δ1=>match body δ1 with
      | .nx δ2=>forL tgt body r δ2
      | .ct δ2=>forL tgt body r δ2
      | .bk δ2=>.nx δ2
      | .rt v=>.rt v
      | .rz C=>.rz C
      | .no=>.no
noncomputable def jC (O:List Nat) (src:Ds→Rs (List PyData)) (tgt:PyData→Ds→Option Ds) (body:Ds→Sr):Ds→Sr:=fun δ=>ofR (src (mask O δ)) fun ds=>forL tgt body ds δ
theorem ec {iter tg:Expr} {gi:Ds→Rs (List PyData)} {tgt:PyData→Ds→Option Ds} {g:TG} (hp:PassesOwn (model X.prog X.w) X.A X.env X.xe) (hc:X.calm=true) (hi:PID X E tg iter gi) (hT:TgS X.K O tgt g) (hg:PG X tg g) (hb:PBD X E O ss G)
    (hs:∀ x,foldedSetIterable iter X.env x=pure x:=by intro _; rfl):PSD X E O (.For tg iter ss [] pos) (jC O gi tgt G):=(Dl hp hc hi hg hb hs).imp fun D σ H pz3=>by
  obtain ⟨H0,A0,A,δ,R,o⟩:=pz3
  unfold jC at o
  refine ⟨A++A0,mask O δ,R.part,?_⟩
  cases q:gi (mask O δ) with
  | no=>rw [q] at o; exact o
  | rz C=>rw [q] at o; exact fun H' s'=>o H' (R.same.trans s')
  | ok ds =>
    rw [q] at o
    intro J H1 s1 hJ
    have R1:=(R.step s1).more
    have o:uQ X.K E H0 A0 O (forL tgt G ds δ) D:=o
    refine ⟨fun i m σ' H'=>m=ds.length - i∧i≤ds.length∧∃ A' δ',dA X.K (un H0 (del H1 (A++A0))) A0 H' A' O δ' σ'∧uQ X.K E H0 A0 O (forL tgt G (ds.drop i) δ') D,⟨ds.length,by simp,Nat.zero_le _,A,δ,R1,o⟩,?_⟩
    rintro i m σ' H' ⟨rfl,hi',A',δ',R',o'⟩
    have sG:aM (del H1 (A++A0)) (un H0 (del H1 (A++A0))):=Fl (R.same.trans s1) aY
    have hB:∀ b∈A'++A0,(del H1 (A++A0)) b=none:=fun b hb=>by
      rcases List.mem_append.mp hb with z | z
      · exact sG.free (R'.new b z)
      · exact oA (List.mem_append_right _ z)
    obtain ⟨jg,js,jy⟩:=hJ H' (A'++A0) (sG.trans R'.same) R'.lsA hB
    by_cases hlt:i < ds.length
    · refine .inr ⟨jg i hlt,?_⟩
      have edr:ds.drop i=ds[i]::ds.drop (i + 1):=List.drop_eq_getElem_cons hlt
      rw [edr] at o'
      unfold forL at o'
      refine ⟨fun σ2 H2=>∃ A2 δ2,dA X.K (un H0 (del H1 (A++A0))) A0 H2 A2 O δ2 σ2∧uQ X.K E H0 A0 O (forL tgt G (ds.drop (i + 1)) δ2) D,fun σ2 H2 ⟨A2,δ2,R2,o2⟩=>⟨ds.length - (i + 1),by omega,rfl,hlt,A2,δ2,R2,o2⟩,fun x H2 y=>?_⟩
      obtain ⟨s2,d,ed,hd⟩:=jy i x H2 hlt y
      have:ds[i]=d:=by
        have:=List.getElem?_eq_getElem hlt
        rw [this] at ed; exact Option.some.inj ed
      rw [this] at o'
      cases et:tgt d δ' with
      | none=>rw [et] at o'; exact o'.elim
      | some δ1 =>
        simp only [et] at o'
        refine hT d x _ _ _ _ _ _ _ _ (R'.step s2) hd et fun σ3 R3=>⟨_,_,_,_,R3,?_⟩
        cases eb:G δ1 with
        | nx δ2=>rw [eb] at o'; exact fun A4 σ4 H4 R4=>⟨A4,δ2,R4,o'⟩
        | ct δ2=>rw [eb] at o'; exact fun A4 σ4 H4 R4=>⟨A4,δ2,R4,o'⟩
        | bk δ2=>rw [eb] at o'; exact fun A4 σ4 H4 R4=>o' A4 σ4 H4 (R4.less AK R.ls0)
        | rt v=>rw [eb] at o'; exact fun v4 H4 s4 h4=>o' v4 H4 (AK.trans s4) h4
        | rz C=>rw [eb] at o'; exact fun H4 s4=>o' H4 (AK.trans s4)
        | no=>rw [eb] at o'; exact o'
    · have e:i=ds.length:=by omega
      subst e
      rw [List.drop_length] at o'
      exact .inl ⟨js,o' A' σ' H' (R'.less AK R.ls0)⟩
end
end L2
set_option maxRecDepth 100000
set_option maxHeartbeats 4000000
namespace L2
open PySem PySem.Spec PyProof.Rows
section
variable {X:Cx} {E:XK} {O:List Nat} {st:Stmt} {ss:List Stmt} {G G':Ds→Sr} {e a b c:Expr} {ga gb gk:Ds→Rs PyData} {ca:Ds→Rs Bool} {pos:Pos}
noncomputable def cX (c:Ds→Rs Bool) (b:Ds→Sr):Nat→Ds→Sr
  | 0,_=>.no
  | n + 1,δ=>ofR (c δ) fun t=>if t=true then (match b δ with
    | .nx δ2=>cX c b n δ2
    | .ct δ2=>cX c b n δ2
    | .bk δ2=>.nx δ2
    | .rt v=>.rt v
    | .rz C=>.rz C
    | .no=>.no) else .nx δ
theorem ou (fuel:Nat) (hp:PassesOwn (model X.prog X.w) X.A X.env X.xe) (hc:PCD X E c ca) (hb:PBD X E O ss G):PSD X E O (.While c ss [] pos) (fun δ=>cX ca G fuel δ):=(Bm hp hc hb).imp fun D σ H pz3=>by
  obtain ⟨H0,A0,A,δ,R,o⟩:=pz3
  refine ⟨fun m σ H=>∃ A δ,dA X.K H0 A0 H A O δ σ∧uQ X.K E H0 A0 O (cX ca G m δ) D,⟨fuel,A,δ,R,o⟩,?_⟩
  rintro m σ H ⟨A,δ,R,o⟩
  cases m with
  | zero=>exact o.elim
  | succ m =>
    unfold cX at o
    refine cD.run R.full (fun t et H1 s1 R1=>?_) (fun C et H' s'=>?_) (fun et=>?_)
    · rw [et] at o
      cases t with
      | false=>exact o A σ H1 (R.step s1)
      | true =>
        refine ⟨fun σ' H'=>∃ A δ,dA X.K H0 A0 H' A O δ σ'∧uQ X.K E H0 A0 O (cX ca G m δ) D,fun σ' H' q=>⟨m,Nat.lt_succ_self m,q⟩,H0,A0,A,δ,R.step s1,?_⟩
        have o:uQ X.K E H0 A0 O (match G δ with
          | .nx δ2=>cX ca G m δ2
          | .ct δ2=>cX ca G m δ2
          | .bk δ2=>.nx δ2
          | .rt v=>.rt v
          | .rz C=>.rz C
          | .no=>.no) D:=o
        cases eb:G δ with
        | nx δ2=>rw [eb] at o; exact fun A4 σ4 H4 R4=>⟨A4,δ2,R4,o⟩
        | ct δ2=>rw [eb] at o; exact fun A4 σ4 H4 R4=>⟨A4,δ2,R4,o⟩
        | bk δ2=>rw [eb] at o; exact o
        | rt v=>rw [eb] at o; exact o
        | rz C=>rw [eb] at o; exact o
        | no=>rw [eb] at o; exact o
    · rw [et] at o; exact o H' (R.same.trans s')
    · rw [et] at o; exact o
noncomputable def sS (O:List Nat) (tgt:PyData→Ds→Option Ds) (g:Ds→Rs PyData):Ds→Sr:=fun δ=>ofR (g (mask O δ)) fun d=>match tgt d δ with
  | some δ'=>.nx δ'
  | none=>.no
theorem xS {tg:Expr} {tgt:PyData→Ds→Option Ds} {g:TG} (h:PD X E e ga) (hT:TgS X.K O tgt g) (hg:PG X tg g) (hs:swapsWithSole [tg] e pos.line X.env=pure false:=by rfl) (hw:swappedStores [tg] e X.env=pure none:=by rfl)
    (h1:(assignEach [tg] X.env).map (·.2)=[assign tg X.env]:=by rfl):PSD X E O (.Assign [tg] e pos) (sS O tgt ga):=(Az h hg hs hw h1).imp fun D σ H pz3=>by
  obtain ⟨H0,A0,A,δ,R,o⟩:=pz3
  unfold sS at o
  refine eD.run R.part (fun d ed v H1 s1 R1 hv=>?_) (fun C et H' s'=>?_) (fun et=>?_)
  · simp only [ed,aE] at o
    cases q:tgt d δ with
    | none=>rw [q] at o; exact o.elim
    | some δ'=>rw [q] at o; exact hT d v H0 A0 H1 A δ δ' σ _ (R.step s1) hv q fun σ' R'=>o A σ' H1 R'
  · rw [et] at o; exact o H' (R.same.trans s')
  · rw [et] at o; exact o
noncomputable def qR (i:Nat) (gk ge:Ds→Rs PyData):Ds→Sr:=fun δ=>match δ[i]? with
  | some (some (.list ds))=>ofR (ge δ) fun d=>ofR (gk δ) fun k=>match k with
    | .int k=>match ixN ds.length k with
      | some j=>if gQ d then .nx (δ.set i (some (.list (ds.set j d)))) else .no
      | none=>.no
    | _=>.no
  | _=>.no
theorem yn {k:Expr} {i:Nat} {x:Str} {pn ps:Pos} (h:PD X E e ga) (hk:PD X E k gk) (hO:i∈O:=by decide) (hi:X.N[i]?=some x:=by rfl) (hv:Vis X.env.scope x:=by first | exact Or.inl rfl | exact Or.inr (Or.inl rfl) | exact Or.inr (Or.inr rfl))
    (hd:(x == ("__debug__":Str))=false:=by decide) (hcd:(x == ("__classdict__":Str))=false:=by decide)
    (ha:∀ v,assign (.Subscript (.Name x pn) k ps) X.env v=(do
      let ov ← holding [v] (eval (.Name x pn) X.env)
      let iv ← holding [v,ov] (eval k X.env)
      standAt ps
      holding [v,ov,iv] (setItem ov iv v)
      release [v,ov,iv] []):=by intro _; rfl)
    (hs:swapsWithSole [.Subscript (.Name x pn) k ps] e pos.line X.env=pure false:=by rfl) (hw:swappedStores [.Subscript (.Name x pn) k ps] e X.env=pure none:=by rfl)
    (h1:(assignEach [.Subscript (.Name x pn) k ps] X.env).map (·.2)=[assign (.Subscript (.Name x pn) k ps) X.env]:=by rfl):PSD X E O (.Assign [.Subscript (.Name x pn) k ps] e pos) (qR i gk ga) :=
  (Az h (Dg (oh hi hv hd hcd) hk set_list ha) hs hw h1).imp fun D σ H pz3=>by
    obtain ⟨H0,A0,A,δ,R,o⟩:=pz3
    unfold qR at o
    split at o
    · rename_i ds q
      obtain ⟨p,xs,ds',e1,hp,hl,e2,hx⟩:=R.own i _ hO q
      cases e2
      refine eD.run R.full (fun d ed v H1 s1 R1 hv=>?_) (fun C et H' s'=>?_) (fun et=>?_)
      · simp only [ed,aE] at o
        refine ⟨_,e1,?_⟩
        refine eD.run R1 (fun kd ek u H2 s2 R2 hu=>?_) (fun C et H' s'=>?_) (fun et=>?_)
        · simp only [ek,aE] at o
          split at o
          · rename_i kk
            split at o
            · rename_i j hj
              split at o
              · rename_i hn
                have s12:=s1.trans s2
                refine ⟨p,xs,kk,j,rfl,hu.ofInt,s12 _ _ hl,by rw [hx.length]; exact hj,?_⟩
                exact o A _ _ ((R.step s12).put hO q e1 hp (Iss.set (((hv.same s2.del).same aY).dl (R.step s12).lsA hn) j (hx.same s12.del)))
              · exact o.elim
            · exact o.elim
          · exact o.elim
        · simp only [et,sx] at o; exact o H' (R.same.trans (s1.trans s'))
        · simp only [et,sE] at o; exact o
      · simp only [et,sx] at o; exact o H' (R.same.trans s')
      · simp only [et,sE] at o; exact o
    · exact o.elim
structure uy (K:PySem.W.Frag) (mg:Str→Option Value) (x:Str) (C:Addr):Prop where
  m:mg x=some (.ref C)
  e:PySem.W.excIn K C [.type "ValueError",.type "Exception",.type "BaseException",.type "object"] "ValueError.__new__"=true
noncomputable def mz (C:Addr) (gs:Ds→Rs (List PyData)):Ds→Sr:=fun δ=>ofR (gs δ) fun _=>.rz C
theorem lG {x:Str} {C:Addr} {np cpos:Pos} {es:List Expr} {gs:Ds→Rs (List PyData)} (hc:X.calm=true) (M:wz X E) (EE:uy X.K X.mg x C) (ha:PAD X E (e::es) gs) (hl:(e::es).length≤1000:=by decide) (hg:Gl X x:=by rfl)
    (hdb:(x == ("__debug__":Str))=false:=by decide) (he:starEach (e::es) X.env=(false,eval e X.env)::starEach es X.env:=by rfl) (hpl:(backTo cpos (starEach es X.env)).any (·.1)=false:=by rfl) :
    PSD X E O (.Raise (some (.Call (.Name x np) (e::es) [] cpos)) none pos) (mz C gs) :=
  (zQ hc M PySem.F.excBase_ValueError hg EE.m EE.e ha.1 hdb he hpl).imp fun D σ H pz3=>by
    obtain ⟨H0,A0,A,δ,R,o⟩:=pz3
    unfold mz at o
    refine aD.run R.full (fun ds ed vs H1 s1 R1 hv=>?_) (fun C et H' s'=>?_) (fun et=>?_)
    · simp only [ed,aE] at o
      exact ⟨by rw [hv.length,ha.2 δ ds ed,sizeLine_eq]; omega,o H1 (R.same.trans s1)⟩
    · simp only [et,sx] at o; exact o H' (R.same.trans s')
    · simp only [et,sE] at o; exact o
end
section
variable {P:Program} {w:World} {K:PySem.W.Frag} {mg:Str→Option Value} {base:Heap}
theorem tH {x qual:Str} {st:Stmt} {f:Addr} {fd:FuncData} {N ps:List Str} {k:Nat} {sp:Sp} {CX:CXT} (F:Fun K x qual st f fd) (S:aU N ps (aB st)) (len:∀ vs H Q E,sp vs H Q E→vs.length=ps.length)
    (hbody:∀ (cdv:Value) (A:Around) (outer:List Env) (s:Shared) (H:Hp) (vs:List V) (Q:VK) (E:XK),fk k (A.deeper (envOfC qual (aB st) s.heap.objs.size f cdv))→sp vs H Q E →
      ∃ t,PSs (jE CX P w K mg base N qual (aB st) f cdv A outer s H E) (eV st) t∧t { nx:=fun _ H'=>Q .non H',rt:=Q } (start N vs) H):kq P w K mg base CX (k + 1) f fd ps sp:=by
  obtain ⟨oc,od,kV,doc,pm,an,cdv,ct,osl,rfl,lk,hcd⟩:=F.ex
  exact CN lk hcd S len fun A outer s H vs Q E hr hsp=>hbody cdv A outer s H vs Q E hr hsp
noncomputable def aV:Sr→Rs PyData
  | .rt d=>.ok d
  | .nx _=>.ok .none
  | .rz C=>.rz C
  | _=>.no
theorem tW {N:List Str} {qual:Str} {scope:Scope} {f:Addr} {cd:Value} {A:Around} {outer:List Env} {s:Shared} {H:Hp} {E:XK}:wz (jE (CXW P w) P w K mg base N qual scope f cd A outer s H E) E :=
  fun _ _ _ _ _ _ _ _ I hx hE=>vW (CX:=CX0) I hx hE
theorem dA.start {N ps:List Str} {A0:List Addr} {H:Hp} {O:List Nat} {ds:List PyData} {vs:List V} (hA:Ls H A0) (hi:Iss K (del H A0) ds vs) (hl:ds.length=ps.length) (hO:∀ i∈O,ps.length≤i) :
    dA K H A0 H [] O (ds.map some++List.replicate (N.length - ps.length) none) (L2.start N vs):=by
  have hv:=hi.length
  have at':∀ (i:Nat) d,(ds.map some++List.replicate (N.length - ps.length) none)[i]?=some (some d)→i < ds.length∧ds[i]?=some d:=fun i d e=>by
    by_cases h:i < ds.length
    · rw [List.getElem?_append_left (by simpa using h),List.getElem?_map] at e
      refine ⟨h,?_⟩
      cases q:ds[i]? with
      | none=>rw [q] at e; cases e
      | some z=>rw [q] at e; simp at e; rw [e]
    · rw [List.getElem?_append_right (by simpa using h),List.getElem?_replicate] at e
      split at e <;> cases e
  refine ⟨aM.refl _,hA,(fun a h=>by cases h),(fun a h=>by cases h),?_,fun i d _ e=>?_,fun i d h e=>?_,fun i j d e a h _ q _ _ _=>?_⟩
  · unfold L2.start; simp [hv,hl]
  · obtain ⟨hlt,e⟩:=at' i d e
    obtain ⟨v,ev,hd⟩:=hi.getD e
    refine ⟨v,?_,hd⟩
    unfold L2.start
    rw [List.getElem?_append_left (by simp; omega),List.getElem?_map,ev]
    rfl
  · obtain ⟨hlt,_⟩:=at' i d e
    exact absurd (hO i h) (by omega)
  · obtain ⟨hlt,_⟩:=at' i d q
    exact absurd (hO i h) (by omega)
theorem aP.of {x qual:Str} {st:Stmt} {f:Addr} {fd:FuncData} {N ps:List Str} {k:Nat} {O:List Nat} {G:Ds→Sr} {gf:List PyData→Rs PyData} (F:Fun K x qual st f fd) (S:aU N ps (aB st)) (b:Binds K fd ps []) (m:mg x=some (.ref f)) (hO:∀ i∈O,ps.length≤i)
    (body:∀ (cdv:Value) (A:Around) (outer:List Env) (s:Shared) (H:Hp) (E:XK),fk k (A.deeper (envOfC qual (aB st) s.heap.objs.size f cdv))→PBD (jE (CXW P w) P w K mg base N qual (aB st) f cdv A outer s H E) E O (eV st) G)
    (hg:∀ ds,ds.length=ps.length→gf ds≠.no→aV (G (ds.map some++List.replicate (N.length - ps.length) none))=gf ds):aP P w K mg base (k + 1) x ps.length gf:=by
  refine ⟨f,fd,ps,tH F S (fun vs H Q E h=>?_) (fun cdv A outer s H vs Q E hr h=>?_),m,F.kp,b⟩
  · obtain ⟨A,ds,hA,hi,hl,o⟩:=h
    rw [hi.length,hl]
  · obtain ⟨A0,ds,hA,hi,hl,o⟩:=h
    refine ⟨_,body cdv A outer s H E hr,H,A0,[],_,dA.start hA hi hl hO,?_⟩
    have hg':=hg ds hl (fun z=>by rw [z] at o; exact o)
    cases q:G (ds.map some++List.replicate (N.length - ps.length) none) with
    | rt d=>rw [q] at hg'; rw [← hg'] at o; exact fun v H' s' hv=>o v H' s' hv
    | nx δ=>rw [q] at hg'; rw [← hg'] at o; exact fun A' σ H' R'=>o .non H' R'.same is_none
    | rz C=>rw [q] at hg'; rw [← hg'] at o; exact fun H' s'=>o H' s'
    | bk δ=>rw [q] at hg'; rw [← hg'] at o; exact o.elim
    | ct δ=>rw [q] at hg'; rw [← hg'] at o; exact o.elim
    | no=>rw [q] at hg'; rw [← hg'] at o; exact o.elim
theorem aP.old {x:Str} {f:Addr} {fd:FuncData} {ps:List Str} {k:Nat} {sp:Sp} {gf:List PyData→Rs PyData} (F:kq P w K mg base CX0 k f fd ps sp) (m:mg x=some (.ref f)) (kp:PySem.W.keepIn K (.ref f)=true) (b:Binds K fd ps [])
    (h:∀ ds,ds.length=ps.length→gf ds≠.no→∃ d,gf ds=.ok d∧f9 d=true∧∀ vs H Q,Iss K H ds vs→(∀ v H',aM H H'→IsD K H' d v→Q v H')→sp vs H Q E0):aP P w K mg base k x ps.length gf:=by
  refine ⟨f,fd,ps,⟨fun vs H Q E h'=>?_,fun A outer s H args us vs Q E hr he hb hv h'=>?_⟩,m,kp,b⟩
  · obtain ⟨A,ds,hA,hi,hl,o⟩:=h'
    rw [hi.length,hl]
  · obtain ⟨A0,ds,hA,hi,hl,o⟩:=h'
    obtain ⟨d,e,nl,hsp⟩:=h ds hl (fun z=>by rw [z] at o; exact o)
    rw [e] at o
    refine codeAny_mono (F.run A outer s H args us vs Q E0 hr he hb hv (hsp vs H Q (hi.same aY) fun v H' s' hd=>o v H' s' ((hd.is nl).dl (hA.same s') (vZ nl)))) fun r s' hq=>?_
    cases r with
    | error ev=>exact False.elim hq
    | ok fl =>
      cases fl with
      | ret u=>exact hq
      | next=>exact False.elim hq
      | brk=>exact False.elim hq
      | cont=>exact False.elim hq
end
end L2
set_option maxRecDepth 100000
set_option maxHeartbeats 4000000
namespace L2
open PySem PySem.Spec PyProof.Rows
open AutoSeq1 (wpAny_loadPart')
theorem oj:fillsNumberSlot (.type "tuple") "mul"=pure false :=
  PySem.fillsNumberSlot_seq (id:="tuple.__mul__") (r:=some (.builtin "tuple.__rmul__")) PySem.F.slot_tuple_mul.lookup (by decide +kernel) PySem.F.slot_tuple_rmul.lookup (by decide +kernel)
theorem tx:seqRepeat? (.type "tuple")=pure (some (.builtin "tuple.__mul__")):=by
  unfold seqRepeat?
  rw [PySem.seqSlot_of (T:="tuple") (name:="__mul__") (id:="tuple.__mul__") PySem.F.slot_tuple_mul.lookup (by decide +kernel),PySem.seqSlot_of (T:="tuple") (name:="__rmul__") (id:="tuple.__rmul__") PySem.F.slot_tuple_rmul.lookup (by decide +kernel)]
  rfl
theorem sO (a:Int) (t:Tok) (l:Addr) (items:Array Value) (n:Nat) (dd:Option Addr) (sl:Array (Option Value)) :
    Meets (Builtin.«int.__rmul__» ⟨[.int a t,.ref l],[]⟩) (fun _ R s=>s.heap.get? l=some { cls:=.type "tuple",dict:=dd,data:=.seq items n,slots:=sl }∧R (.ok (.ret Value.notImplemented)) s) :=
  .of_wp fun prog w A R s h=>by obtain ⟨hp,g,d,tk,os⟩:=s; obtain ⟨hl,h⟩:=h; wp_walk; exact ⟨_,rfl,h⟩
theorem Aq (l:Addr) (items:Array Value) (n:Nat) (x:Int) (u:Tok) (dd:Option Addr) (sl:Array (Option Value)) (h1:(decide (x < -(2 ^ 63)) || decide (x ≥ 2 ^ 63))=false) (h2:(items.isEmpty || x == 1)=false) (h3:(decide (x≤0) || items.isEmpty)=false)
    (h4:decide ((items.size:Int) * x > (2 ^ 63 - 1) / 8)=false) (h5:Builtin.Tuple.tupleTooMany ((items.size:Int) * x)=false) (hsz:(List.foldl (fun x1 x2=>x1++x2) #[] (List.replicate x.toNat items)).size≤sizeLine) :
    Meets (Builtin.«tuple.__mul__» ⟨[.ref l,.int x u],[]⟩) (fun _ R s=>s.heap.get? l=some { cls:=.type "tuple",dict:=dd,data:=.seq items n,slots:=sl }∧R (.ok (.ret (Value.ref s.heap.objs.size))) { s with heap:=s.heap.push { cls:=Value.type "tuple",data:=Data.seq (List.foldl (fun x1 x2=>x1++x2) #[] (List.replicate x.toNat items)) } }) :=
  .of_wp fun prog w A R s h=>by
    obtain ⟨hp,g,d,tk,os⟩:=s; obtain ⟨hl,h⟩:=h
    have f1:=AutoSeq1.idx_int; have f2:=AutoSeq1.sub_tuple_tuple
    wp_walk using wpAny_loadPart' hl
    refine wpAny_ite_false (by rw [h1]; rfl) ?_
    wp_walk using wpAny_loadPart' hl
    refine wpAny_ite_false h4 ?_
    wp_walk using wpAny_loadPart' hl
    exact ⟨_,rfl,h⟩
section
variable {X:Cx} {E:XK} {a b c e:Expr} {ga gb gc:Ds→Rs PyData} {pos:Pos} {es:List Expr} {gs:Ds→Rs (List PyData)}
noncomputable def CJ (K:PySem.W.Frag):R2:=fun x y H Q=>∃ l k xs,x=.ref l∧y=.int k∧SqT K H l xs∧xs≠[]∧2≤k∧k < 1000000∧xs.length * k.toNat≤1000000∧∀ p,H p=none→Q (.ref p) (upd H p (.tup (List.replicate k.toNat xs).flatten))
theorem BM:OpR X (binaryOp .Mult) (CJ X.K):=by
  intro pins s σ H x y v u Q I rx ry h
  obtain ⟨l,k,xs,rfl,rfl,hl,hne,hk1,hk2,hz,q⟩:=h
  cases rx
  obtain ⟨t,rfl⟩:=ry
  obtain ⟨its,r,p1,_⟩:=I.tuple hl
  obtain ⟨⟨cls,dd,data,sl⟩,ho,hc,n,hd⟩:=id p1
  simp only at hc hd
  subst hc hd
  have hlen:=r.length
  have hne':its≠[]:=fun z=>hne (r.nil_iff.mp z)
  have hpos:0 < its.length:=List.length_pos_iff.mpr hne'
  have hfold:List.foldl (fun x1 x2=>x1++x2) #[] (List.replicate k.toNat its.toArray)=(List.replicate k.toNat its).flatten.toArray:=by
    have:=foldl_rep its k.toNat []
    rw [List.nil_append] at this
    exact this
  have hemp:its.toArray.isEmpty=false:=by simp [hne']
  have hmul:(its.length:Int) * k≤1000000:=by
    have e1:((its.length * k.toNat:Nat):Int)=(its.length:Int) * k:=by
      rw [Int.natCast_mul,Int.toNat_of_nonneg (by omega)]
    rw [← e1,← hlen]; omega
  have hsz2:(List.replicate k.toNat its).flatten.length≤1000000:=by rw [len_rep,Nat.mul_comm,← hlen]; exact hz
  refine wpAny_binaryOp_repeat_ref (T:="tuple") (U:="int") (by decide) ⟨_,ho,rfl⟩ (fun s'=>typeIs_int s' k t) oj PySem.F.fills_int_mul PySem.F.slot_int_rmul tx PySem.F.slot_int_index.lookup
    (call_meets PySem.F.slot_int_rmul (typeIs_int s k t) PySem.F.entry_int_rmul (PySem.F.args_int_rmul_2 _ _) (sO k t l its.toArray n dd sl)
      ⟨ho,rfl,⟨_,ho,rfl⟩,call_meets PySem.F.slot_tuple_mul ⟨_,ho,rfl⟩ PySem.F.entry_tuple_mul (PySem.F.args_tuple_mul_2 _ _) (Aq l its.toArray n k t dd sl ?_ ?_ ?_ ?_ ?_ ?_) ⟨ho,?_⟩⟩)
  · rw [decide_eq_false (by omega),decide_eq_false (by omega)]; rfl
  · rw [hemp,Bool.false_or]; simp; omega
  · rw [hemp,Bool.or_false]; exact decide_eq_false (by omega)
  · rw [List.size_toArray]; exact decide_eq_false (by omega)
  · rw [List.size_toArray]
    unfold Builtin.Tuple.tupleTooMany
    rw [sizeLine_eq]
    exact decide_eq_false (by omega)
  · rw [hfold,List.size_toArray,sizeLine_eq]; omega
  · rw [hfold]
    refine ⟨.ref s.heap.objs.size,_,I.laid (t':=s.toks) (o:=.tup (List.replicate k.toNat xs).flatten) (fun b ob q=>Heap.get?_push_of_some _ q) (Nat.le_refl _) ?_,rfl,q _ (I.hok.fresh (Nat.le_refl _))⟩
    exact ⟨by rw [len_rep,Nat.mul_comm,sizeLine_eq]; omega,_,r.rep k.toNat,sF.new _ _⟩
noncomputable def mY:PyData→PyData→Option PyData
  | .int i,.int j=>if (-(2 ^ 64) < i∧i < 2 ^ 64)∨(-(2 ^ 64) < j∧j < 2 ^ 64) then some (.int (i * j)) else none
  | .list x,.int k=>if 0≤k∧k < 1000000∧x.length * k.toNat≤1000000 then some (.list (List.replicate k.toNat x).flatten) else none
  | .tuple x,.int k=>if x≠[]∧2≤k∧k < 1000000∧x.length * k.toNat≤1000000 then some (.tuple (List.replicate k.toNat x).flatten) else none
  | _,_=>none
theorem BC {K:PySem.W.Frag}:OpD K mY (fun x y H Q=>rI Bx (fun i j=>.int (i * j)) x y H Q∨EA x y H Q∨CJ K x y H Q):=fun d1 d2 d x y H A Q e hA h1 h2 k=>by
  unfold mY at e
  split at e
  · split at e
    · rename_i z
      cases e
      exact .inl ⟨_,_,h1.ofInt,h2.ofInt,z,k _ H (aM.refl _) cL⟩
    · cases e
  · split at e
    · rename_i z
      cases e
      obtain ⟨p,xs,rfl,hp,hx⟩:=h1.ofLst
      exact .inr (.inl ⟨p,_,xs,rfl,h2.ofInt,aY _ _ hp,by omega,by omega,by rw [hx.length,sizeLine_eq]; omega,fun r hr=>k _ _ (c0 hr) (ph hA hr (hx.rep _))⟩)
    · cases e
  · split at e
    · rename_i z
      cases e
      obtain ⟨p,xs,rfl,hp,hx⟩:=h1.ofTup
      refine .inr (.inr ⟨p,_,xs,rfl,h2.ofInt,SqT.of (aY _ _ hp),fun q=>z.1 ?_,z.2.1,z.2.2.1,by rw [hx.length]; exact z.2.2.2,fun r hr=>k _ _ (c0 hr) (nH hA hr (hx.rep _))⟩)
      exact List.length_eq_zero_iff.mp (by rw [← hx.length,q]; rfl)
    · cases e
  · cases e
theorem sA (ha:PD X E a ga) (hb:PD X E b gb):PD X E (.BinOp a .Mult b pos) (g2 mY ga gb):=jo BC ha hb (fG (oa.or (DK.or BM)))
end
section
variable {prog:Program} {w:World} {A:Around} {E:Value→Shared→Prop} {s:Shared}
theorem lQ {t sl:Addr} {items:Array Value} {vl vu:Value} {lo hi:Option Int} {Q:Value→Shared→Prop} (ht:IsTup s.heap t items) (hs:s.heap.IsSliceOf sl vl vu .none) (pl:IsPart vl lo) (pu:IsPart vu hi)
    (hw:HT.sIx items.size 0 lo=0∧HT.sIx items.size items.size hi=items.size) (h:Q (.ref t) s):wpAny (model prog w) A (getItem (.ref t) (.ref sl)) Q E s:=by
  obtain ⟨os,hos,hcs,hds⟩:=id hs
  have hTs:s.TypeIs (.ref sl) "slice":=⟨os,hos,hcs⟩
  unfold getItem
  try with_reducible refine wpAny_holding ?_
  first | refine wpAny_bind (wpAny_pure ?_) | skip
  refine wpAny_bind (wpAny_sequenceKey ht.typeIs (by decide) ?_)
  refine wpAny_bind (wpAny_callSpecial?_slot (name:=Str.ofString "__getitem__") ht.typeIs PyProof.Rows.slot_tuple_getitem
    (wpAny_call_entry PyProof.Rows.slot_tuple_getitem ht.typeIs entry_tuple_getitem ?_ (args_tuple_getitem _ _)))
  show wpAny _ _ (Builtin.Tuple.tupleItemsOf (.ref t) >>= _) _ _ s
  refine wpAny_bind (tupleItemsOf_ ht ?_)
  refine wpAny_bind (wpAny_typeOf hTs ?_)
  rw [if_pos (by decide)]
  refine wpAny_bind (HT.jz hs pl pu ?_)
  have hyes:(((HT.sIx items.size 0 lo:Nat):Int) == 0 && (1:Int) == 1 && (HT.sIx items.size items.size hi - HT.sIx items.size 0 lo) == items.size)=true:=by
    rw [hw.1,hw.2]; simp
  show wpAny _ _ (if (((HT.sIx items.size 0 lo:Nat):Int) == 0 && (1:Int) == 1 && (HT.sIx items.size items.size hi - HT.sIx items.size 0 lo) == items.size)=true then _ else _) _ _ s
  rw [if_pos hyes]
  refine wpAny_bind (m:=Builtin.Tuple.tupleIsExact (.ref t)) (wpAny_bind (wpAny_typeOf ht.typeIs (wpAny_pure ?_)))
  rw [if_pos (by decide)]
  first
    | exact wpAny_bind (wpAny_rule (wpAny_pure ⟨_,rfl,wpAny_pure h⟩))
    | (refine wpAny_bind (wpAny_rule ?_); trace_state; exact wpAny_pure ⟨_,rfl,wpAny_pure h⟩)
end
end L2
set_option maxRecDepth 100000
set_option maxHeartbeats 4000000
namespace L2
open PySem PySem.Spec PyProof.Rows
section
variable {X:Cx} {E:XK} {a b c e:Expr} {ga gb gc:Ds→Rs PyData} {pos:Pos} {es:List Expr} {gs:Ds→Rs (List PyData)}
noncomputable def Fd (K:PySem.W.Frag):V→Option Int→Option Int→Hp→VK→Prop:=fun x lo hi H Q=>∃ a xs,x=.ref a∧SqT K H a xs∧(HT.sIx xs.length 0 lo=0∧HT.sIx xs.length xs.length hi=xs.length)∧Q (.ref a) H
theorem BR:SlR X (Fd X.K):=by
  intro pins s σ H x v vl vu lo hi sl Q I rx hs pl pu h
  obtain ⟨a,xs,rfl,hx,hw,q⟩:=h
  cases rx
  obtain ⟨its,r,ht,hz⟩:=I.tuple hx
  have hlen:its.toArray.size=xs.length:=by rw [List.size_toArray,r.length]
  refine ⟨"tuple",_,PyProof.Rows.slot_tuple_getitem.lookup,ht.typeIs,?_⟩
  exact lQ ht hs pl pu (by rw [hlen]; exact hw) ⟨.ref a,H,I,rfl,q⟩
noncomputable def cutD (xs:List PyData) (lo hi:Option Int):List PyData:=(xs.drop (HT.sIx xs.length 0 lo)).take (HT.sIx xs.length xs.length hi - HT.sIx xs.length 0 lo)
noncomputable def yZ:PyData→Option Int→Option Int→Option PyData
  | .list x,lo,hi=>some (.list (cutD x lo hi))
  | .tuple x,lo,hi=>some (.tuple (cutD x lo hi))
  | _,_,_=>none
noncomputable def Aj:PyData→Rs (Option Int)
  | .int i=>.ok (some i)
  | _=>.no
noncomputable def cB:Ds→Rs (Option Int):=fun _=>.ok none
noncomputable def eX (g:Ds→Rs PyData):Ds→Rs (Option Int):=fun δ=>(g δ).bind Aj
noncomputable def Fp (E:XK) (H:Hp) (r:Rs (Option Int)) (Q:Option Int→Hp→Prop):Prop:=match r with
  | .ok o=>∀ H',aM H H'→Q o H'
  | .rz C=>∀ H',aM H H'→E (.ref C) none H'
  | .no=>False
noncomputable def oD (K:PySem.W.Frag) (E:XK) (g:Ds→Rs (Option Int)):TO:=fun σ H Q=>∃ A δ,fD K H A δ σ∧Fp E H (g δ) Q
noncomputable def POD (X:Cx) (E:XK) (e:Option Expr) (g:Ds→Rs (Option Int)):Prop:=PO X e (oD X.K E g)
theorem PO.imp {e:Option Expr} {t t':TO} (h:PO X e t) (k:∀ σ H Q,t' σ H Q→t σ H Q):PO X e t':=fun pins s σ H Q I q=>h pins s σ H Q I (k σ H Q q)
theorem eE:POD X E none cB:=B1.imp fun σ H Q qz3=>(by obtain ⟨A,δ,R,o⟩:=qz3; exact o H (aM.refl _))
theorem eI (h:PD X E e ga):POD X E (some e) (eX ga):=(B5 h).imp fun σ H Q ⟨A,δ,R,o⟩=>⟨A,δ,R,by
  unfold eX at o
  cases q:ga δ with
  | no=>rw [q] at o; exact o
  | rz C=>rw [q] at o; exact o
  | ok d =>
    rw [q] at o
    cases d with
    | int i=>exact fun v H' s h=>⟨i,h.ofInt,o H' s⟩
    | _=>exact o.elim⟩
theorem oD.run {K:PySem.W.Frag} {g:Ds→Rs (Option Int)} {σ:St} {H:Hp} {A:List Addr} {δ:Ds} {Q:Option Int→Hp→Prop} (R:fD K H A δ σ)
    (ok:∀ d,g δ=.ok d→∀ H',aM H H'→fD K H' A δ σ→Q d H') (rz:∀ C,g δ=.rz C→∀ H',aM H H'→E (.ref C) none H') (no:g δ=.no→False):oD K E g σ H Q:=by
  refine ⟨A,δ,R,?_⟩
  cases e:g δ with
  | ok d=>exact fun H' s=>ok d e H' s (R.same s)
  | rz C=>exact fun H' s=>rz C e H' s
  | no=>exact no e
noncomputable def c8 (g:Ds→Rs PyData) (lo hi:Ds→Rs (Option Int)):Ds→Rs PyData:=fun δ=>(g δ).bind fun d=>(lo δ).bind fun l=>(hi δ).bind fun h=>Rs.gu (yZ d l h)
theorem Iss.cut {K:PySem.W.Frag} {H:Hp} {ds:List PyData} {vs:List V} (h:Iss K H ds vs) (lo hi:Option Int):Iss K H (cutD ds lo hi) (vJ vs lo hi):=by
  unfold cutD vJ
  rw [h.length]
  exact (h.drop _).take _
theorem eu {lo hi:Option Expr} {gl gh:Ds→Rs (Option Int)} {p2:Pos} (he:PD X E e ga) (hl:POD X E lo gl) (hh:POD X E hi gh):PD X E (.Subscript e (.Slice lo hi none p2) pos) (c8 ga gl gh) :=
  (AY (Cc.or (C5.or BR)) he hl hh).imp fun σ H Q pz3=>by
    obtain ⟨A,δ,R,o⟩:=pz3
    unfold c8 at o
    refine eD.run R (fun d ed v H1 s1 R1 hv=>?_) (fun C et H' s'=>by rw [et] at o; exact o H' s') (fun et=>by rw [et] at o; exact o)
    simp only [ed,Rs.aj] at o
    refine oD.run R1 (fun l el H2 s2 R2=>?_) (fun C et H' s'=>by rw [et] at o; exact o H' (s1.trans s')) (fun et=>by rw [et] at o; exact o)
    simp only [el,Rs.aj] at o
    refine oD.run R2 (fun h eh H3 s3 R3=>?_) (fun C et H' s'=>by rw [et] at o; exact o H' (s1.trans (s2.trans s'))) (fun et=>by rw [et] at o; exact o)
    simp only [eh,Rs.aj] at o
    have hv3:=hv.same (s2.trans s3).del
    have s13:=s1.trans (s2.trans s3)
    cases d with
    | list ds =>
      obtain ⟨p,xs,rfl,hp,hx⟩:=hv3.ofLst
      exact .inl ⟨p,xs,rfl,SqL.of (aY _ _ hp),fun q hq=>o _ _ (s13.trans (c0 hq)) (ph R3.ls hq (hx.cut l h))⟩
    | tuple ds =>
      obtain ⟨p,xs,rfl,hp,hx⟩:=hv3.ofTup
      by_cases hw:HT.sIx xs.length 0 l=0∧HT.sIx xs.length xs.length h=xs.length
      · refine .inr (.inr ⟨p,xs,rfl,SqT.of (aY _ _ hp),hw,o _ _ s13 ?_⟩)
        have e:cutD ds l h=ds:=by
          unfold cutD
          rw [← hx.length,hw.1,hw.2]
          simp [hx.length]
        show Is X.K _ (.tuple (cutD ds l h)) _
        rw [e]
        exact mP hp hx
      · exact .inr (.inl ⟨p,xs,rfl,SqT.of (aY _ _ hp),hw,fun q hq=>o _ _ (s13.trans (c0 hq)) (nH R3.ls hq (hx.cut l h))⟩)
    | _=>exact o.elim
noncomputable def toV:PyData→V
  | .none=>.non
  | .bool b=>.bl b
  | .int i=>.int i
  | .str x=>.str x
  | _=>.non
noncomputable def inD (x:PyData) (xs:List PyData):Bool:=inV (toV x) (xs.map toV)
noncomputable def kP (neg:Bool):PyData→PyData→Option PyData
  | x,.list xs=>if f9 x && xs.all f9 then some (.bool (if neg then !inD x xs else inD x xs)) else none
  | x,.tuple xs=>if f9 x && xs.all f9 then some (.bool (if neg then !inD x xs else inD x xs)) else none
  | _,_=>none
theorem Is.flat {K:PySem.W.Frag} {H:Hp} {d:PyData} {v:V} (h:Is K H d v) (f:f9 d=true):v=toV d∧kz v=true:=by
  cases d with
  | none=>rw [h.ofNone]; exact ⟨rfl,rfl⟩
  | bool b=>rw [h.ofBool]; exact ⟨rfl,rfl⟩
  | int i=>rw [h.ofInt]; exact ⟨rfl,rfl⟩
  | str x=>rw [h.ofStr]; exact ⟨rfl,rfl⟩
  | _=>cases f
theorem Iss.flat {K:PySem.W.Frag} {H:Hp}:∀ {ds:List PyData} {vs:List V},Iss K H ds vs→ds.all f9=true→vs=ds.map toV∧vs.all kz=true
  | [],_,h,_=>by rw [h.nil_of]; exact ⟨rfl,rfl⟩
  | d::ds,_,h,f=>by
    rw [List.all_cons,Bool.and_eq_true] at f
    obtain ⟨v,r,rfl,h1,h2⟩:=h.cons_of
    obtain ⟨e1,f1⟩:=h1.flat f.1
    obtain ⟨e2,f2⟩:=Iss.flat h2 f.2
    exact ⟨by rw [e1,e2]; rfl,by rw [List.all_cons,f1,f2]; rfl⟩
theorem Ai {K:PySem.W.Frag} {neg:Bool}:OpD K (kP neg) (rIn K neg):=fun d1 d2 d x y H A Q e hA h1 h2 k=>by
  unfold kP at e
  split at e
  · split at e
    · rename_i z
      rw [Bool.and_eq_true] at z
      cases e
      obtain ⟨p,xs,rfl,hp,hx⟩:=h2.ofLst
      obtain ⟨e1,f1⟩:=h1.flat z.1
      obtain ⟨e2,f2⟩:=hx.flat z.2
      refine ⟨p,xs,rfl,.inl (SqL.of (aY _ _ hp)),f1,f2,?_⟩
      rw [e1,e2]
      exact k _ H (aM.refl _) is_bool
    · cases e
  · split at e
    · rename_i z
      rw [Bool.and_eq_true] at z
      cases e
      obtain ⟨p,xs,rfl,hp,hx⟩:=h2.ofTup
      obtain ⟨e1,f1⟩:=h1.flat z.1
      obtain ⟨e2,f2⟩:=hx.flat z.2
      refine ⟨p,xs,rfl,.inr (SqT.of (aY _ _ hp)),f1,f2,?_⟩
      rw [e1,e2]
      exact k _ H (aM.refl _) is_bool
    · cases e
  · cases e
theorem Fe (ha:PD X E a ga) (hb:PD X E b gb) (hm:behindInMarks .In b=false:=by with_unfolding_all rfl):PD X E (.Compare a [.In] [b] pos) (g2 (kP false) ga gb):=jo Ai ha hb fun h1 h2=>o9 zy h1 h2 hm
theorem si (ha:PD X E a ga) (hb:PD X E b gb) (hm:behindInMarks .NotIn b=false:=by with_unfolding_all rfl):PCD X E (.Compare a [.NotIn] [b] pos) (gT (g2 (kP true) ga gb)):=lA Ai ha hb fun h1 h2=>jU tI h1 h2 hm
noncomputable def nY (f f':PyData→PyData→Option PyData) (a b c:Ds→Rs PyData):Ds→Rs PyData:=fun δ=>(a δ).bind fun x=>(b δ).bind fun y=>(Rs.gu (f x y)).bind fun z=>(truth z).bind fun t=>if t=true then (c δ).bind fun w=>Rs.gu (f' y w) else .ok (.bool false)
theorem AI {op op':CmpOp} {r r':R2} {f f':PyData→PyData→Option PyData} (ho:OpR X (compareOp op) r) (ho':OpR X (compareOp op') r') (hf:OpD X.K f r) (hf':OpD X.K f' r') (ha:PD X E a ga) (hb:PD X E b gb) (hc:PD X E c gc)
    (hm:lastMarks [op,op'] [b,c]=false:=by with_unfolding_all rfl):PD X E (.Compare a [op,op'] [b,c] pos) (nY f f' ga gb gc):=(zG ho ho' ha hb hc hm).imp fun σ H Q pz3=>by
  obtain ⟨A,δ,R,o⟩:=pz3
  unfold nY at o
  refine eD.run R (fun d1 e1 v H1 s1 R1 h1=>?_) (fun C et H' s'=>by rw [et] at o; exact o H' s') (fun et=>by rw [et] at o; exact o)
  simp only [e1,Rs.aj] at o
  refine eD.run R1 (fun d2 e2 u H2 s2 R2 h2=>?_) (fun C et H' s'=>by rw [et] at o; exact o H' (s1.trans s')) (fun et=>by rw [et] at o; exact o)
  simp only [e2,Rs.aj] at o
  cases e3:f d1 d2 with
  | none=>rw [e3] at o; exact o.elim
  | some z =>
    simp only [e3,Rs.aq,Rs.aj] at o
    refine hf d1 d2 z v u H2 A _ e3 R2.ls (h1.same s2.del) h2 fun w H3 s3 h3=>?_
    obtain ⟨t,rfl,o⟩:=qN o
    refine ⟨t,h3.ofBool,?_⟩
    cases t with
    | false=>exact o _ H3 (s1.trans (s2.trans s3)) is_bool
    | true =>
      have o:jb X.K E A H ((gc δ).bind fun w=>Rs.gu (f' d2 w)) Q:=o
      refine eD.run (R2.same s3) (fun d3 e4 w' H4 s4 R4 h4=>?_) (fun C et H' s'=>by rw [et] at o; exact o H' (s1.trans (s2.trans (s3.trans s')))) (fun et=>by rw [et] at o; exact o)
      simp only [e4,Rs.aj] at o
      cases e5:f' d2 d3 with
      | none=>rw [e5] at o; exact o.elim
      | some d=>rw [e5] at o; exact hf' d2 d3 d u w' H4 A Q e5 R4.ls (h2.same (s3.trans s4).del) h4 fun x H5 s5 h5=>o x H5 (s1.trans (s2.trans (s3.trans (s4.trans s5)))) h5
theorem xO (ha:PD X E a ga) (hb:PD X E b gb) (hc:PD X E c gc) (hm:lastMarks [.LtE,.LtE] [b,c]=false:=by with_unfolding_all rfl):PD X E (.Compare a [.LtE,.LtE] [b,c] pos) (nY dLe dLe ga gb gc):=AI yk yk (kO fun _ _ _ _=>is_bool) (kO fun _ _ _ _=>is_bool) ha hb hc hm
end
noncomputable def Itc (lo c:Int) (n:Nat):It:=⟨fun i _=>i < n,fun i H x H'=>H'=H∧x=.int (lo + i * c),fun i _=>n≤i⟩
theorem uG {P:Program} {w:World} {K:PySem.W.Frag} {tg:Expr} (it:Addr) (lo c:Int) (n:Nat):Turn P w K tg (Itc lo c n) [it] it (fun i h=>IsRangeIter h it (lo + (i:Nat) * c) ((n:Int) - (i:Nat)) c) where
  mem:=by simp
  obj:=fun i h st b hb=>by
    have e:b=it:=by simpa using hb
    subst e
    exact ⟨_,st,fun v z=>by
      have z':Data.fields _=Data.cell v:=z
      cases z'⟩
  keep:=fun i h h' st k=>k it (by simp) _ st
  item:=by
    intro X hP hw hK hc i pins s σ H E I hf st hg
    subst hP hw hK
    obtain ⟨f0,f1,f2,f3,f4,f5⟩:=hf it (by simp)
    have W:=Walks.range (prog:=X.prog) (w:=X.w) (I.ok.hd hc) it lo c n
    refine W.item i s _ _ hg st fun v h' tk hv st' kk=>?_
    obtain ⟨t,rfl⟩:=hv
    have I1:Inv X pins σ H { s with heap:=h',toks:=tk }:=I.turned (fun b o hb e=>kk b o (by simpa using hb) e) f0 f1 f3 f4 f5
    exact ⟨_,rfl,xZ (s:={ s with heap:=h',toks:=tk }) (n:="range_iterator") st' rfl rfl (by decide) ⟨.int (lo + i * c),H,I1,⟨t,rfl⟩,⟨rfl,rfl⟩,st',fun b hb=>(hf b hb).1⟩⟩
  done:=by
    intro X hP hw hK hc i pins s σ H E I hf st hg
    subst hP hw hK
    obtain ⟨f0,f1,f2,f3,f4,f5⟩:=hf it (by simp)
    exact wpAny_pyNext_range_end (I.ok.hd hc) st (by have:n≤i:=hg; omega) fun h' eb=>⟨rfl,I.turned (t':=s.toks) (fun b o hb e=>eb b o hb e) f0 f1 f3 f4 f5⟩
  self:=fun _ _ _ _ _ st h=>wpAny_pyIter_rangeiter st h
section
variable {X:Cx} {E:XK} {tg a b c:Expr} {pos:Pos} {gs:Ds→Rs (List PyData)}
noncomputable def xj (i j c:Int):Nat:=(Builtin.Range.rangeSize i j c).toNat
theorem sY (a b c:Int):0≤Builtin.Range.rangeSize a b c:=by
  unfold Builtin.Range.rangeSize
  split
  · split
    · rename_i h1 h2
      have:0≤(b - a - 1) / c:=Int.ediv_nonneg (by omega) (by omega)
      omega
    · omega
  · split
    · rename_i h1 h2
      by_cases hc:c=0
      · subst hc; simp
      · have:0≤(a - b - 1) / (-c):=Int.ediv_nonneg (by omega) (by omega)
        omega
    · omega
noncomputable def pU (i j c:Int):Bool:=decide (-(1000000)≤i∧i≤1000000∧-(1000000)≤j∧j≤1000000∧-(1000000)≤c∧c≤1000000∧c≠0) && Builtin.Range.small i j c
noncomputable def Ep (ta:TA):TI:=fun σ H R=>ta σ H fun vs H1=>∃ i j c:Int,vs=[.int i,.int j,.int c]∧pU i j c=true∧R (Itc i c (xj i j c)) H1
theorem y1 {ta:TA} {p:Pos} (hg:Gl X "range") (hm:X.mg "range"=none) (ha:PA X [a,b,c] ta) (hs:starEach [a,b,c] X.env=[(false,eval a X.env),(false,eval b X.env),(false,eval c X.env)]:=by rfl) (hs2:starEach [b,c] X.env=[(false,eval b X.env),(false,eval c X.env)]:=by rfl) :
    PI X tg (.Call (.Name "range" p) [a,b,c] [] pos) (Ep ta):=by
  intro pins s σ H R I h
  refine Call_ (gU I hg hm boot_range (PyProof.Rows.callWith_type1 (thn (ha pos pins s σ H _ I h) fun us s1 rz2=>?_) (by rw [hs,hs2]) (by rw [hs2]; rfl)))
  obtain ⟨vs,H1,I1,r1,q1⟩:=rz2
  obtain ⟨i,j,c,e,q1,q⟩:=q1
  subst e
  unfold pU at q1
  rw [Bool.and_eq_true] at q1
  have q2:=of_decide_eq_true q1.1
  cases r1 with
  | cons r rr =>
    cases rr with
    | cons r' rr =>
      cases rr with
      | cons r'' rr =>
        cases rr
        obtain ⟨t,rfl⟩:=r
        obtain ⟨t',rfl⟩:=r'
        obtain ⟨t'',rfl⟩:=r''
        refine PySem.call_range_3 q2.2.2.2.2.2.2 ?_ (.inl (PyProof.noPylong_small (by omega)))
        refine wpAny_pyIter_range (IsRange.new ..) q1.2 ?_
        have I2:Inv X pins σ H1 { s1 with heap:=s1.heap.push { cls:=.type "range",data:=.fields #[.int i t,.int j t',.int c t''] },toks:=s1.toks }:=I1.kept fun b o e=>Heap.get?_push_of_some _ e
        refine ⟨(s1.heap.push { cls:=.type "range",data:=.fields #[.int i t,.int j t',.int c t''] }).objs.size,[(s1.heap.push { cls:=.type "range",data:=.fields #[.int i t,.int j t',.int c t''] }).objs.size],_,_,H1,rfl,
          I2.kept (t':=s1.toks) fun b o e=>Heap.get?_push_of_some _ e,uG _ i c (xj i j c),?_,fun b hb=>?_,q⟩
        · have e1:i + ((0:Nat):Int) * c=i:=by simp
          have e2:((xj i j c:Nat):Int) - ((0:Nat):Int)=Builtin.Range.rangeSize i j c:=by
            have:=sY i j c
            unfold xj; omega
          show IsRangeIter _ _ (i + ((0:Nat):Int) * c) (((xj i j c:Nat):Int) - ((0:Nat):Int)) c
          rw [e1,e2]
          exact Heap.get?_push_size _ rfl
        · have e:b=(s1.heap.push { cls:=.type "range",data:=.fields #[.int i t,.int j t',.int c t''] }).objs.size:=by simpa using hb
          subst e
          exact I2.fpOk (Nat.le_refl _) (I2.hok.fresh (Nat.le_refl _))
noncomputable def iy (lo c:Int) (n:Nat):List PyData:=(List.range n).map fun (i:Nat)=>PyData.int (lo + (i:Int) * c)
theorem iA (lo c:Int) (n:Nat):(iy lo c n).length=n:=by simp [iy]
theorem uT {K:PySem.W.Frag} {G:Hp} {lo c:Int} {n:Nat}:zp K (Itc lo c n) (iy lo c n) G:=fun H1 B s _ hB=>by
  refine ⟨fun i hi=>by rw [iA] at hi; exact hi,by rw [iA]; exact Nat.le_refl _,fun i x H2 hi y=>?_⟩
  obtain ⟨rfl,rfl⟩:=y
  rw [iA] at hi
  exact ⟨aM.refl _,_,by simp [iy,hi],cL⟩
noncomputable def zE:List PyData→Rs (List PyData)
  | [.int i,.int j,.int c]=>if pU i j c then .ok (iy i c (xj i j c)) else .no
  | _=>.no
noncomputable def xC (g:Ds→Rs (List PyData)):Ds→Rs (List PyData):=fun δ=>(g δ).bind zE
theorem Fs {K:PySem.W.Frag} {H:Hp} {d e f:PyData} {vs:List V} (h:Iss K H [d,e,f] vs):∃ v u w,vs=[v,u,w]∧Is K H d v∧Is K H e u∧Is K H f w:=by
  obtain ⟨v,r,rfl,h1,h2⟩:=h.cons_of
  obtain ⟨u,w,rfl,h3,h4⟩:=BZ h2
  exact ⟨v,u,w,rfl,h1,h3,h4⟩
theorem wM {p:Pos} (hm:X.mg "range"=none) (ha:PAD X E [a,b,c] gs) (hg:Gl X "range":=by rfl) (hs:starEach [a,b,c] X.env=[(false,eval a X.env),(false,eval b X.env),(false,eval c X.env)]:=by rfl) (hs2:starEach [b,c] X.env=[(false,eval b X.env),(false,eval c X.env)]:=by rfl) :
    PID X E tg (.Call (.Name "range" p) [a,b,c] [] pos) (xC gs):=(y1 hg hm ha.1 hs hs2).imp fun σ H R ⟨A,δ,Rp,o⟩=>tm Rp o fun ds vs H1 e s1 R1 h1 o=>by
  unfold zE at o
  split at o
  · split at o
    · rename_i z
      obtain ⟨v,u,w,rfl,h,h',h''⟩:=Fs h1
      rw [h.ofInt,h'.ofInt,h''.ofInt]
      exact ⟨_,_,_,rfl,z,o _ H1 (aM.refl _) uT⟩
    · exact o.elim
  · exact o.elim
noncomputable def tLR (ta:TA):TE:=fun σ H Q=>ta σ H fun vs H1=>∃ j:Int,vs=[.int j]∧0≤j∧j≤1000000∧∀ p,H1 p=none→Q (.ref p) (upd H1 p (.lst ((List.range j.toNat).map fun (i:Nat)=>V.int (i:Int))))
theorem D5 {pins:List (Addr × Obj)} {σ:St} {H1:Hp} {s2:Shared} {Q:VK} {j:Int} {h':Heap} {tk:Nat} {acc':Array Value} {c':Nat} (I2:Inv X pins σ H1 s2) (kk:∀ b o,s2.heap.get? b=some o→h'.get? b=some o)
    (hl:h'.get? s2.heap.objs.size=some { cls:=.type "list",dict:=none,data:=.seq acc' c',slots:=#[] }) (hi:ItemsOf (fun i v=>∃ t,v=.int ((0:Int) + (i:Int) * 1) t) acc' j.toNat) (q1:0≤j) (q2:j≤1000000)
    (q:∀ p,H1 p=none→Q (.ref p) (upd H1 p (.lst ((List.range j.toNat).map fun (i:Nat)=>V.int (i:Int))))):EP X pins σ Q (.ref s2.heap.objs.size) { s2 with heap:=h',toks:=tk }:=by
    have hv:Vals ((List.range j.toNat).map fun (i:Nat)=>V.int (i:Int)) acc'.toList:=by
      have aux:∀ (l:List Value) (k:Nat),(∀ (m:Nat) v,l[m]?=some v→∃ t,v=.int ((0:Int) + ((k + m:Nat):Int) * 1) t)→Vals ((List.range' k l.length).map fun (i:Nat)=>V.int (i:Int)) l:=by
        intro l
        induction l with
        | nil=>intro k _; exact .nil
        | cons x r ih =>
          intro k hk
          rw [List.length_cons,List.range'_succ,List.map_cons]
          refine .cons ?_ (ih (k + 1) fun m v hm=>?_)
          · obtain ⟨t,e⟩:=hk 0 x rfl
            exact ⟨t,by rw [e]; simp⟩
          · obtain ⟨t,e⟩:=hk (m + 1) v (by simpa using hm)
            exact ⟨t,by rw [e,show k + (m + 1)=k + 1 + m by omega]⟩
      have h1:=aux acc'.toList 0 (fun m v hm=>by
        obtain ⟨t,e⟩:=hi.2 m v (by rw [← Array.getElem?_toList]; exact hm)
        exact ⟨t,by rw [e]; simp⟩)
      rw [Array.length_toList,hi.1] at h1
      rw [List.range_eq_range']
      exact h1
    exact ⟨.ref s2.heap.objs.size,_,I2.laid (t':=tk) kk (Nat.le_refl _) (show gr X.prog X.w _ h' _ (.lst ((List.range j.toNat).map fun (i:Nat)=>V.int (i:Int))) from ⟨by rw [List.length_map,List.length_range,sizeLine_eq]; omega,acc'.toList,c',hv,by simpa using hl⟩),rfl,q _ (I2.hok.fresh (Nat.le_refl _))⟩
theorem sJ {ta:TA} {p p2 pos2:Pos} (hc:X.calm=true) (hg:Gl X "range") (hm:X.mg "range"=none) (hgl:Gl X "list") (hml:X.mg "list"=none) (ha:PA X [a] ta) (hs:starEach [a] X.env=[(false,eval a X.env)]:=by rfl)
    (hs2:starEach [.Call (.Name "range" p) [a] [] pos] X.env=[(false,eval (.Call (.Name "range" p) [a] [] pos) X.env)]:=by rfl) :
    PE X (.Call (.Name "list" p2) [.Call (.Name "range" p) [a] [] pos] [] pos2) (tLR ta):=by
  intro pins s σ H Q I h
  refine Call_ (gU I hgl hml Cm (PyProof.Rows.callWith_type1 ?_ hs2 rfl))
  rw [hs2]
  show wpAny _ _ (spliced ((false,eval (.Call (.Name "range" p) [a] [] pos) X.env)::backTo pos2 [])) _ _ s
  refine Calls.spliced_cons (Call_ (gU I hg hm boot_range (PyProof.Rows.callWith_type1 (thn (ha pos pins s σ H _ I h) fun us s1 rz2=>?_) hs rfl)))
  obtain ⟨vs,H1,I1,r1,q1⟩:=rz2
  obtain ⟨j,e,q1,q2,q⟩:=q1
  subst e
  cases r1 with
  | cons r rr =>
    cases rr
    obtain ⟨t,rfl⟩:=r
    refine call_range_1 (Calls.spliced_nil ?_)
    have e2:Builtin.Range.rangeSize 0 j 1=((j.toNat:Nat):Int):=by rw [rangeSize_one]; split <;> omega
    refine call_list_range (n:=j.toNat) (I1.ok.hd hc) (IsRange.new ..) (small_one (by omega) (by omega) (by omega) (by omega)) e2 (by omega) fun h' tk acc' c' kk hl hi=>?_
    exact D5 (I1.kept fun b o e=>Heap.get?_push_of_some _ e) kk hl hi q1 q2 q
noncomputable def um:List PyData→Rs (List PyData)
  | [.int j]=>if 0≤j∧j≤1000000 then .ok (cm 0 j.toNat) else .no
  | _=>.no
noncomputable def gLR (g:Ds→Rs (List PyData)):Ds→Rs (List PyData):=fun δ=>(g δ).bind um
theorem zA {p p2 pos2:Pos} (hc:X.calm=true) (hm:X.mg "range"=none) (hml:X.mg "list"=none) (ha:PAD X E [a] gs) (hg:Gl X "range":=by rfl) (hgl:Gl X "list":=by rfl) (hs:starEach [a] X.env=[(false,eval a X.env)]:=by rfl)
    (hs2:starEach [.Call (.Name "range" p) [a] [] pos] X.env=[(false,eval (.Call (.Name "range" p) [a] [] pos) X.env)]:=by rfl):PLD X E (.Call (.Name "list" p2) [.Call (.Name "range" p) [a] [] pos] [] pos2) (gLR gs) :=
  (sJ hc hg hm hgl hml ha.1 hs hs2).imp fun σ H Q pz3=>by
    obtain ⟨A,δ,R,o⟩:=pz3
    unfold gLR at o
    refine aD.run R (fun ds e vs H1 s1 R1 h1=>?_) (fun C e H' s'=>by rw [e] at o; exact o H' s') (fun e=>by rw [e] at o; exact o)
    simp only [e,Rs.aj] at o
    unfold um at o
    split at o
    · split at o
      · rename_i j z
        obtain ⟨v,rfl,h⟩:=nk h1
        rw [h.ofInt]
        refine ⟨j,rfl,z.1,z.2,fun q hq=>o q _ _ (s1.free hq) (s1.trans (c0 hq)) cp ?_⟩
        have:cm 0 j.toNat=((List.range j.toNat).map fun (i:Nat)=>(i:Int)).map PyData.int:=by
          unfold cm; rw [List.map_map]; congr 1; funext i; simp
        rw [this,show ((List.range j.toNat).map fun (i:Nat)=>V.int (i:Int))=((List.range j.toNat).map fun (i:Nat)=>(i:Int)).map V.int by rw [List.map_map]; rfl]
        exact vT _
      · exact o.elim
    · exact o.elim
end
end L2
set_option maxRecDepth 100000
set_option maxHeartbeats 4000000
namespace L2
open PySem PySem.Spec PyProof.Rows
theorem vc (t:Addr) (xs:Array Value):Meets (Builtin.«enumerate.__new__» ⟨[.type "enumerate",.ref t],[]⟩) (fun _ R s=>s.heap.IsTuple t xs ∧
      R (.ok (.ret (.ref (s.heap.push { cls:=.type "tuple_iterator",data:=.fields #[.ref t,.int 0 0] }).objs.size)))
        { s with heap:=(s.heap.push { cls:=.type "tuple_iterator",data:=.fields #[.ref t,.int 0 0] }).push { cls:=.type "enumerate",data:=.fields #[.none,.bool false,.ref s.heap.objs.size,rawInt 0,.none,.none] } }) :=
  .of_wp fun prog w A R s h=>by
    obtain ⟨hp,g,d,tk,os⟩:=s; obtain ⟨hl,h⟩:=h
    have hsub:=sub_enumerate
    have hL:Heap.IsTuple (Shared.heap ⟨hp,g,d,tk,os⟩) t xs:=hl
    wp_walk
    refine wpAny_stack_any fun st=>wpAny_pure ?_
    split
    · rename_i c _ _ _ _ _
      cases (c == Value.type "enumerate")
      · wp_walk using wpAny_pyIter_tuple hL
        exact ⟨_,rfl,h⟩
      · wp_walk using wpAny_pyIter_tuple hL
        exact ⟨_,rfl,h⟩
    · wp_walk using wpAny_pyIter_tuple hL
      exact ⟨_,rfl,h⟩
theorem wG {prog:Program} {w:World} {A:Around} {E:Value→Shared→Prop} {s:Shared} {l:Addr} {items:Array Value} {Q:Value→Shared→Prop} (hL:s.heap.IsTuple l items)
    (h:∀ h',IsEnum h' (s.heap.objs.size + 1) s.heap.objs.size 0 .none→h'.IsTupleIter s.heap.objs.size l 0→(∀ b o,s.heap.get? b=some o→h'.get? b=some o)→Q (.ref (s.heap.objs.size + 1)) { s with heap:=h' }) :
    wpAny (model prog w) A (call (.type "enumerate") [.ref l]) Q E s:=by
  refine callType_new PySem.F.called_enumerate (by decide) (PySem.F.typeCall_enumerate_1 _) (PySem.F.newCall_enumerate_1 _) (fun obj=>PySem.F.args_object_init_2 obj _) PySem.F.entry_enumerate_new (vc l items) ⟨hL,?_⟩
  have hz:(s.heap.push { cls:=.type "tuple_iterator",data:=.fields #[.ref l,.int 0 0] }).objs.size=s.heap.objs.size + 1:=Heap.size_push ..
  show _∧_
  rw [hz]
  have he:IsEnum ((s.heap.push { cls:=.type "tuple_iterator",data:=.fields #[.ref l,.int 0 0] }).push
      { cls:=.type "enumerate",data:=.fields #[.none,.bool false,.ref s.heap.objs.size,rawInt 0,.none,.none] }) (s.heap.objs.size + 1) s.heap.objs.size 0 .none:=by
    have:=Heap.get?_push_size (s.heap.push { cls:=.type "tuple_iterator",data:=.fields #[.ref l,.int 0 0] })
      (o:={ cls:=.type "enumerate",data:=.fields #[.none,.bool false,.ref s.heap.objs.size,rawInt 0,.none,.none] }) rfl
    rw [hz] at this
    exact this
  refine ⟨⟨_,he,rfl⟩,h _ he ⟨_,Heap.get?_push_of_some _ (Heap.get?_push_size _ rfl),rfl,rfl⟩ fun b o e=>Heap.get?_push_of_some _ (Heap.get?_push_of_some _ e)⟩
noncomputable def Ite (P:Hp→List V→Prop) (n:Nat):It :=
  ⟨fun i H=>i < n∧∃ xs,P H xs∧xs.length=n,
   fun i H v H'=>∃ t x,v=.ref t∧H t=none∧H'=upd H t (.tup [.int i,x])∧∀ xs,P H xs→xs[i]?=some x,
   fun i H=>i=n∧∃ xs,P H xs∧xs.length=n⟩
theorem rF {P:Program} {w:World} {K:PySem.W.Frag} {elts:List Expr} {x1:Nat} {tp:Pos} {a e it:Addr} {n:Nat} {Pv:Hp→List V→Prop} {S:Nat→Heap→Prop} {B:Heap→Array Value→Prop} (hne:e≠it) (hea:e≠a)
    (hD:∀ (A:Around),A.handled=none→∀ its:Array Value,Draws P w A it [it,a] its.size (fun i v=>its[i]?=some v) (fun i h=>S i h∧B h its))
    (hB:∀ (X:Cx),X.prog=P→X.w=w→X.K=K→∀ {pins:List (Addr × Obj)} {s:Shared} {σ:St} {H:Hp} {xs:List V},Inv X pins σ H s→Pv H xs→∃ its:List Value,Vals xs its∧B s.heap its.toArray)
    (hI:∀ (X:Cx),X.prog=P→X.w=w→X.K=K→∀ {pins:List (Addr × Obj)} {s:Shared} {σ:St} {H:Hp} {xs ys:List V},Inv X pins σ H s→Pv H xs→Pv H ys→xs=ys)
    (hO:∀ i h,S i h→∃ o,h.get? it=some o∧∀ v,o.data≠.cell v) (hK:∀ i h h',S i h→(∀ o,h.get? it=some o→h'.get? it=some o)→S i h') :
    Turn P w K (.Tuple elts x1 tp) (Ite Pv n) [e,it] e (fun i h=>(∃ old,IsEnum h e it i old)∧S i h) where
  mem:=by simp
  obj:=fun i h st c hc=>by
    obtain ⟨⟨old,h1⟩,h2⟩:=st
    simp only [List.mem_cons,List.not_mem_nil,or_false] at hc
    rcases hc with rfl | rfl
    · exact ⟨_,h1,fun v q=>by cases q⟩
    · exact hO i h h2
  keep:=fun i h h' st k=>by
    obtain ⟨⟨old,h1⟩,h2⟩:=st
    exact ⟨⟨old,k e (by simp) _ h1⟩,hK i h h' h2 fun o q=>k it (by simp) o q⟩
  item:=by
    intro X hP hw hKK hc i pins s σ H E I hf st hg
    subst hP hw hKK
    obtain ⟨hi,xs,hx,lx⟩:=hg
    obtain ⟨⟨old,h1⟩,h2⟩:=st
    obtain ⟨its,rv,hb⟩:=hB X rfl rfl rfl I hx
    have la:=rv.length
    refine wpAny_pyNext_enum_itemD (hD X.A.in1 (I.ok.hd hc) its.toArray) h1 ⟨h2,hb⟩ (by simp; omega) hne (by simp [hne,hea]) fun x h' tk px ho hs hT hsz hk=>⟨_,rfl,?_⟩
    refine wpAny_letOwnedTupleGo_enum (s:={ s with heap:=h',toks:=tk + 1 }) ho fun h2' d1 d2=>?_
    have el:e < s.heap.objs.size:=Heap.lt_size h1
    have il:it < s.heap.objs.size:=by obtain ⟨o,q,_⟩:=hO i _ h2; exact Heap.lt_size q
    have up:∀ c o,c≠e→h'.get? c=some o→h2'.get? c=some o:=fun c o hc q=>(d2.2 c hc).trans q
    obtain ⟨x0,ex,rx⟩:∃ x0,xs[i]?=some x0∧RelV x0 x:=by
      have hil:i < xs.length:=by omega
      obtain ⟨u',e1,e2⟩:=rv.get (List.getElem?_eq_getElem hil)
      refine ⟨xs[i],List.getElem?_eq_getElem hil,?_⟩
      have px':its[i]?=some x:=by simpa using px
      rw [e1] at px'; cases px'; exact e2
    have fr:H s.heap.objs.size=none:=I.hok.fresh (Nat.le_refl _)
    refine ⟨.ref s.heap.objs.size,upd H s.heap.objs.size (.tup [.int i,x0]),?_,rfl,⟨_,x0,rfl,fr,rfl,fun ys h=>by rw [hI X rfl rfl rfl I h hx]; exact ex⟩,?_,fun c hc'=>?_⟩
    · refine I.turnLay (t':=tk + 1) (ch:=[e,it]) hf (Nat.le_refl _) (fun c o hn q=>?_) ⟨by show 2≤sizeLine; decide,[.int i tk,x],.cons ⟨tk,rfl⟩ (.cons rx .nil),⟨_,up _ _ (Nat.ne_of_gt el) hT,rfl,rfl,_,rfl⟩⟩
      simp only [List.mem_cons,List.not_mem_nil,or_false,not_or] at hn
      exact up c o hn.1 (hk c o hn.1 hn.2 q)
    · exact ⟨⟨x,by simpa using d1⟩,hK _ _ _ hs.1 fun o q=>up it o hne.symm q⟩
    · have h0:=(hf c hc').1
      simp only [List.mem_cons,List.not_mem_nil,or_false] at hc'
      rcases hc' with rfl | rfl
      · rw [bw (Nat.ne_of_lt el)]; exact h0
      · rw [bw (Nat.ne_of_lt il)]; exact h0
  done:=by
    intro X hP hw hKK hc i pins s σ H E I hf st hg
    subst hP hw hKK
    obtain ⟨hi,xs,hx,lx⟩:=hg
    obtain ⟨⟨old,h1⟩,h2⟩:=st
    obtain ⟨its,rv,hb⟩:=hB X rfl rfl rfl I hx
    have la:=rv.length
    have e':its.toArray.size=i:=by simp; omega
    refine wpAny_pyNext_enum_endD (hD X.A.in1 (I.ok.hd hc) its.toArray) h1 ⟨by rw [e']; exact h2,hb⟩ fun h' k=>⟨rfl,?_⟩
    refine I.turneds (t':=s.toks) (ch:=[e,it]) hf fun c o hn q=>?_
    simp only [List.mem_cons,List.not_mem_nil,or_false,not_or] at hn
    exact k c o hn.2 q
  self:=fun _ _ _ _ _ st h=>by
    obtain ⟨⟨old,h1⟩,_⟩:=st
    exact wpAny_pyIter_enum h1 h
theorem Cd:bootBuiltins "enumerate"=some (.type "enumerate"):=by decide +kernel
noncomputable def EW (K:PySem.W.Frag) (ta:TA):TI:=fun σ H R=>ta σ H fun vs H1=>∃ a xs,vs=[.ref a]∧((SqT K H1 a xs∧R (Ite (fun H ys=>SqT K H a ys) xs.length) H1)∨(SqL K H1 a xs∧R (Ite (fun H ys=>SqL K H a ys) xs.length) H1))
theorem BO {X:Cx} {elts:List Expr} {x1:Nat} {tp:Pos} {a:Expr} {ta:TA} {p pos:Pos} (hg:Gl X "enumerate") (hm:X.mg "enumerate"=none) (ha:PA X [a] ta) (hs:starEach [a] X.env=[(false,eval a X.env)]:=by rfl) :
    PI X (.Tuple elts x1 tp) (.Call (.Name "enumerate" p) [a] [] pos) (EW X.K ta):=by
  intro pins s σ H R I h
  refine Call_ (gU I hg hm Cd (PyProof.Rows.callWith_type1 (thn (ha pos pins s σ H _ I h) fun us s1 rz2=>?_) hs rfl))
  obtain ⟨vs,H1,I1,r1,q1⟩:=rz2
  obtain ⟨aa,xs,e,q⟩:=q1
  subst e
  obtain ⟨u1,e1,r2⟩:=vals1 r1
  subst e1
  cases r2
  have big:∀ c∈[s1.heap.objs.size + 1,s1.heap.objs.size],s1.heap.objs.size≤c:=fun c hc=>by
    simp only [List.mem_cons,List.not_mem_nil,or_false] at hc
    rcases hc with rfl | rfl
    · exact Nat.le_succ _
    · exact Nat.le_refl _
  have nes:s1.heap.objs.size + 1≠s1.heap.objs.size:=Nat.succ_ne_self _
  rcases q with ⟨hx,q⟩ | ⟨hx,q⟩
  · obtain ⟨its,rv,pt,_⟩:=I1.tuple hx
    have pt':s1.heap.IsTuple aa its.toArray:=pt
    have al:aa < s1.heap.objs.size:=by obtain ⟨_,g,_⟩:=pt'; exact Heap.lt_size g
    refine wG pt' fun h' he hit kk=>wpAny_pyIter_enum he ?_
    have I2:Inv X pins σ H1 { s1 with heap:=h' }:=I1.kept (t':=s1.toks) kk
    refine ⟨_,_,_,_,H1,rfl,I2,rF (a:=aa) (S:=fun i h=>h.IsTupleIter s1.heap.objs.size aa i) (B:=fun h its=>h.IsTuple aa its) nes (Nat.ne_of_gt (Nat.lt_succ_of_lt al)) (fun A hh its=>zj hh s1.heap.objs.size aa (Nat.ne_of_lt al) its)
      (fun X' _ _ hK {_ _ _ _ _} I h=>?_) (fun X' _ _ hK {_ _ _ _ _ _} I h1 h2=>?_) (fun i h st=>?_) (fun i h h'' st k=>?_),⟨⟨_,he⟩,hit⟩,fun c hc=>I1.fpOk (big c hc) (I1.hok.fresh (big c hc)),q⟩
    · rw [← hK] at h
      obtain ⟨its,rv,p,_⟩:=I.tuple h
      exact ⟨its,rv,p⟩
    · rw [← hK] at h1 h2
      exact I.tuple_inj h1 h2
    · obtain ⟨o,g,_,d⟩:=st
      exact ⟨o,g,fun v q=>by rw [d] at q; cases q⟩
    · obtain ⟨o,g,r⟩:=st
      exact ⟨o,k o g,r⟩
  · obtain ⟨its,rv,pl,_⟩:=I1.list hx
    have al:aa < s1.heap.objs.size:=by obtain ⟨_,_,g,_⟩:=pl; exact Heap.lt_size g
    refine call_enumerate_list pl.isList fun h' he hit hz kk=>wpAny_pyIter_enum he ?_
    have I2:Inv X pins σ H1 { s1 with heap:=h' }:=I1.kept (t':=s1.toks) kk
    refine ⟨_,_,_,_,H1,rfl,I2,rF (a:=aa) (S:=fun i h=>h.IsListIter s1.heap.objs.size aa i) (B:=fun h its=>h.IsList aa its) nes (Nat.ne_of_gt (Nat.lt_succ_of_lt al)) (fun A hh its=>Draws.list hh s1.heap.objs.size aa (Nat.ne_of_lt al) its)
      (fun X' _ _ hK {_ _ _ _ _} I h=>?_) (fun X' _ _ hK {_ _ _ _ _ _} I h1 h2=>?_) (fun i h st=>?_) (fun i h h'' st k=>?_),⟨⟨_,he⟩,hit⟩,fun c hc=>I1.fpOk (big c hc) (I1.hok.fresh (big c hc)),q⟩
    · rw [← hK] at h
      obtain ⟨its,rv,p,_⟩:=I.list h
      exact ⟨its,rv,p.isList⟩
    · rw [← hK] at h1 h2
      exact I.list_inj h1 h2
    · obtain ⟨o,g,_,d⟩:=st
      exact ⟨o,g,fun v q=>by rw [d] at q; cases q⟩
    · obtain ⟨o,g,r⟩:=st
      exact ⟨o,k o g,r⟩
noncomputable def lS (ds:List PyData):List PyData:=ds.mapIdx fun i d=>.tuple [.int i,d]
theorem yB (ds:List PyData):(lS ds).length=ds.length:=by simp [lS]
theorem rB {K:PySem.W.Frag} {G:Hp} {Pv:Hp→List V→Prop} {xs:List V} {ds:List PyData} (h:Iss K G ds xs) (hp:∀ H1,aM G H1→Pv H1 xs):zp K (Ite Pv xs.length) (lS ds) G:=fun H1 B s lB hB=>by
  have hl:=h.length
  rw [yB]
  refine ⟨fun i hi=>⟨by omega,xs,hp H1 s,rfl⟩,⟨hl.symm,xs,hp H1 s,rfl⟩,fun i x H2 hi y=>?_⟩
  obtain ⟨t,x0,rfl,ht,rfl,hx⟩:=y
  obtain ⟨d,e,hd⟩:=h.get (hx xs (hp H1 s))
  refine ⟨c0 ht,.tuple [.int i,d],by unfold lS; rw [List.getElem?_mapIdx,e]; rfl,?_⟩
  have nb:t ∉ B:=lB.new ht
  exact mP (by rw [cA nb]; exact cp) (e7 cL (pw (hd.same (fun b o q=>by
      have q1:=s b o q
      have nt:b≠t:=bH q1 ht
      rw [cA (fun z=>by rw [hB b z] at q; cases q),bw nt]; exact q1))))
section
variable {X:Cx} {E:XK} {a b c e k:Expr} {ga gb gk:Ds→Rs PyData} {pos:Pos} {es:List Expr} {gs:Ds→Rs (List PyData)} {O:List Nat}
noncomputable def qE:List PyData→Rs (List PyData)
  | [.list ds]=>.ok (lS ds)
  | [.tuple ds]=>.ok (lS ds)
  | _=>.no
noncomputable def pO (g:Ds→Rs (List PyData)):Ds→Rs (List PyData):=fun δ=>(g δ).bind qE
theorem ux {elts:List Expr} {x1:Nat} {tp p:Pos} (hm:X.mg "enumerate"=none) (ha:PAD X E [a] gs) (hg:Gl X "enumerate":=by rfl) (hs:starEach [a] X.env=[(false,eval a X.env)]:=by rfl) :
    PID X E (.Tuple elts x1 tp) (.Call (.Name "enumerate" p) [a] [] pos) (pO gs):=(BO hg hm ha.1 hs).imp fun σ H R ⟨A,δ,Rp,o⟩=>tm Rp o fun ds vs H1 e s1 R1 h1 o=>by
  unfold qE at o
  split at o
  · obtain ⟨v,rfl,h⟩:=nk h1
    obtain ⟨p,xs,rfl,hp,hx⟩:=h.ofLst
    exact ⟨p,xs,rfl,.inr ⟨SqL.of (aY _ _ hp),o _ H1 (aM.refl _) (rB hx fun H2 s2=>SqL.of (s2 _ _ hp))⟩⟩
  · obtain ⟨v,rfl,h⟩:=nk h1
    obtain ⟨p,xs,rfl,hp,hx⟩:=h.ofTup
    exact ⟨p,xs,rfl,.inl ⟨SqT.of (aY _ _ hp),o _ H1 (aM.refl _) (rB hx fun H2 s2=>SqT.of (s2 _ _ hp))⟩⟩
  · exact o.elim
noncomputable def jO (y x:Nat) (gk:Ds→Rs PyData):Ds→Sr:=fun δ=>match δ[y]?,δ[x]? with
  | some (some (.list ys)),some (some (.list xs))=>ofR (gk δ) fun k=>match k with
    | .int k=>if -(1000000)≤k∧k≤1000000∧ys.length < 1000000 then (match ixN xs.length k with
      | some j=>match xs[j]? with
        | some d=>.nx ((δ.set x (some (.list (xs.eraseIdx j)))).set y (some (.list (ys++[d]))))
        | none=>.no
      | none=>.no) else .no
    | _=>.no
  | _,_=>.no
theorem xr {y x:Nat} {ny nx:Str} {py pa pc px pb pd:Pos} (hk:PD X E k gk) (hyx:x≠y:=by decide) (hOy:y∈O:=by decide) (hOx:x∈O:=by decide) (hiy:X.N[y]?=some ny:=by rfl) (hix:X.N[x]?=some nx:=by rfl)
    (hvy:Vis X.env.scope ny:=by first | exact Or.inl rfl | exact Or.inr (Or.inl rfl) | exact Or.inr (Or.inr rfl)) (hvx:Vis X.env.scope nx:=by first | exact Or.inl rfl | exact Or.inr (Or.inl rfl) | exact Or.inr (Or.inr rfl))
    (hdy:(ny == ("__debug__":Str))=false:=by decide) (hcdy:(ny == ("__classdict__":Str))=false:=by decide) (hdx:(nx == ("__debug__":Str))=false:=by decide) (hcdx:(nx == ("__classdict__":Str))=false:=by decide)
    (hst:starEach [k] X.env=(false,eval k X.env)::starEach [] X.env:=by rfl) (hst2:starEach [.Call (.Attribute (.Name nx px) "pop" pb) [k] [] pd] X.env=(false,eval (.Call (.Attribute (.Name nx px) "pop" pb) [k] [] pd) X.env)::starEach [] X.env:=by rfl)
    (hbase:attributeBase (.Name nx px) "pop" X.env (eval (.Name nx px) X.env)=eval (.Name nx px) X.env:=by rfl) (hbase2:attributeBase (.Name ny py) "append" X.env (eval (.Name ny py) X.env)=eval (.Name ny py) X.env:=by rfl)
    (hfew:((backTo pd (starEach [k] X.env)).all (fun x=>!x.1) && (backToKw pd (keywordEach [] X.env)).all (fun x=>x.1.isSome) && decide (([k]:List Expr).length + ([]:List Keyword).length + (if ([]:List Keyword).isEmpty then 0 else 1) < 30))=true:=by rfl)
    (hfew2:((backTo pc (starEach [.Call (.Attribute (.Name nx px) "pop" pb) [k] [] pd] X.env)).all (fun x=>!x.1) && (backToKw pc (keywordEach [] X.env)).all (fun x=>x.1.isSome) && decide (([.Call (.Attribute (.Name nx px) "pop" pb) [k] [] pd]:List Expr).length + ([]:List Keyword).length + (if ([]:List Keyword).isEmpty then 0 else 1) < 30))=true:=by rfl)
    (hline:(pb.endLine == pd.line)=true:=by rfl) (hline2:(pa.endLine == pc.line)=true:=by rfl)
    (hs:swapsWith (.Call (.Attribute (.Name ny py) "append" pa) [.Call (.Attribute (.Name nx px) "pop" pb) [k] [] pd] [] pc) none pos.line X.env=pure false:=by rfl) :
    PSD X E O (.Expr (.Call (.Attribute (.Name ny py) "append" pa) [.Call (.Attribute (.Name nx px) "pop" pb) [k] [] pd] [] pc) pos) (jO y x gk) :=
  (tq (Ag PySem.F.plainAttrs_list PySem.F.slot_list_append PySem.F.type_list_append nW (oh hiy hvy hdy hcdy) (fi (Ag PySem.F.plainAttrs_list PySem.F.slot_list_pop PySem.F.type_list_pop Aa (oh hix hvx hdx hcdx) (fi hk iH hst) hbase hfew hline hst rfl) iH hst2) hbase2 hfew2 hline2 hst2 rfl) hs).imp fun D σ H pz3=>by
    obtain ⟨H0,A0,A,δ,R,o⟩:=pz3
    unfold jO at o
    split at o
    · rename_i ys xs qy qx
      obtain ⟨p,vy,dy,e1,hp,hl,e2,hx⟩:=R.own y _ hOy qy
      cases e2
      obtain ⟨r,vx,dx,f1,hr,hm,f2,hz⟩:=R.own x _ hOx qx
      cases f2
      have npr:p≠r:=fun z=>hyx (R.inj x y _ _ p hOx hOy qx qy (by rw [z]; exact f1) e1)
      refine ⟨_,e1,tyL hl,_,f1,tyL hm,?_⟩
      refine eD.run R.full (fun kd ek u H1 s1 R1 hu=>?_) (fun C et H' s'=>by rw [et] at o; exact o H' (R.same.trans s')) (fun et=>by rw [et] at o; exact o)
      simp only [ek,aE] at o
      split at o
      · rename_i kk
        split at o
        · rename_i hb
          split at o
          · rename_i j hj
            split at o
            · rename_i d hd
              obtain ⟨w,hw,hwd⟩:=hz.getD hd
              have hj':=hj
              obtain ⟨g1,g2,g3,g4⟩:=t9 hj
              have RS:=R.step s1
              have RS2:=RS.put (ds:=xs.eraseIdx j) (ys:=vx.eraseIdx j) hOx qx f1 hr ((hz.same s1.del).eraseIdx j)
              refine ⟨r,vx,kk,j,w,rfl,by rw [hu.ofInt],s1 _ _ hm,by omega,by omega,by rw [hz.length]; exact g1,hw,?_⟩
              have dU:del (upd H1 r (.lst (vx.eraseIdx j))) (A++A0)=del H1 (A++A0):=tZ (List.mem_append_left _ hr)
              refine ⟨p,vy,w,rfl,rfl,by rw [bw npr]; exact s1 _ _ hl,by rw [hx.length,sizeLine_eq]; omega,?_⟩
              refine o A _ _ (RS2.put (ds:=ys++[d]) hOy (by rw [List.getElem?_set_ne hyx]; exact qy) e1 hp ?_)
              rw [dU]
              exact (hx.same s1.del).append (pw (hwd.same s1.del))
            · exact o.elim
          · exact o.elim
        · exact o.elim
      · exact o.elim
    · exact o.elim
end
end L2
set_option maxRecDepth 100000
set_option maxHeartbeats 4000000
namespace L2
open PySem PySem.Spec PyProof.Rows
theorem uP:isSubtype (.type "tuple") (.type "set")=pure false:=by rw [isSubtype_type]; kernel_rfl
theorem uX:isSubtype (.type "tuple") (.type "frozenset")=pure false:=by rw [isSubtype_type]; kernel_rfl
section
variable {prog:Program} {w:World} {A:Around} {E:Value→Shared→Prop} {s:Shared}
noncomputable def seen (ns:List Int) (n:Nat):List Int:=firstMet (fun i=>ns.getD i 0) n
theorem yD {tu:Addr} {its:Array Value} {ns:List Int} {Q:Value→Shared→Prop} (hh:A.handled=none) (ht:s.heap.IsTuple tu its) (hi:IntsAre its.toList ns) (hb:its.size + 1 < scanBound)
    (hQ:∀ (h':Heap) (tk:Nat),h'.SetOf (intKind prog w) s.heap.objs.size (fun k=>(seen ns its.size).any (· == k)) (seen ns its.size).length→(∀ b o,b < s.heap.objs.size→s.heap.get? b=some o→h'.get? b=some o)→Q (.ref s.heap.objs.size) { s with heap:=h',toks:=tk }) :
    wpAny (model prog w) A (call (.type "set") [.ref tu]) Q E s:=by
  obtain ⟨c,tl,mro⟩:=PySem.F.called_set.mro
  have m1:=PySem.F.called_set.made; have m2:=PySem.F.called_set.sub
  refine wpAny_call (codeAny_of_tree ?_); show wpAny _ _ (callAny (.type "set") _) _ _ _
  refine wpAny_pure ⟨Code.quiet_builtin _ (by decide +kernel),codeAny_builtin PySem.F.entry_type_call ?_⟩; rw [Around.under_plain (weight_type_call_type "set" [.ref tu] []) rfl]
  have m3:=PySem.F.called_set.notType; have m4:=PySem.F.called_set.canCreate; have m5:=PySem.F.typeCall_set_1 (.ref tu)
  repeat (any_goals (first | assumption | wp_step))
  refine codeAny_mono (PySem.code_set_new_1 (.ref tu) (E:=E) (Q₁:=fun ob s1=>∃ led:Bool,ob=.ref s.heap.objs.size∧s1={ s with heap:=s.heap.push { cls:=.type "set",dict:=none,data:=.set #[] 0 (.fresh 0 0 led) } }) fun led=>⟨led,rfl,rfl⟩) fun r s1 hr=>?_
  cases r with
  | error ev=>exact hr
  | ok fl =>
    cases fl with
    | ret ob =>
      obtain ⟨led,rfl,rfl⟩:=hr
      have gS:(s.heap.push { cls:=.type "set",dict:=none,data:=.set #[] 0 (.fresh 0 0 led) }).get? s.heap.objs.size=some { cls:=.type "set",dict:=none,data:=.set #[] 0 (.fresh 0 0 led) }:=Heap.get?_push_size _ rfl
      have tS:Shared.TypeIs { s with heap:=s.heap.push { cls:=.type "set",dict:=none,data:=.set #[] 0 (.fresh 0 0 led) } } (.ref s.heap.objs.size) "set":=⟨_,gS,rfl⟩
      have m6:=PySem.F.called_set.init.lookup; have m7:=PySem.F.called_set.init.bind (.ref s.heap.objs.size)
      repeat (any_goals (first | assumption | wp_step))
      refine codeAny_mono (codeAny_call_builtin (R:=wants (fun rv s2=>rv=.none∧∃ h' tk,s2={ s with heap:=h',toks:=tk }∧h'.SetOf (intKind prog w) s.heap.objs.size (fun k=>(seen ns its.size).any (· == k)) (seen ns its.size).length ∧
          (∀ b o,b < s.heap.objs.size→s.heap.get? b=some o→h'.get? b=some o)) E) PySem.F.called_set.init.plain PySem.F.entry_set_init (PySem.check_set_init_1 tS ?_)) fun r2 s2 hr2=>?_
      · obtain ⟨⟨oc,od,oda,osl⟩,go,gc,gn,gd⟩:=ht
        simp only at gc gd; subst gc; subst gd
        have go':(s.heap.push { cls:=.type "set",dict:=none,data:=.set #[] 0 (.fresh 0 0 led) }).get? tu=some { cls:=.type "tuple",dict:=od,data:=.seq its gn,slots:=osl }:=Heap.get?_push_of_some _ go
        have n1:=uP; have n2:=uX
        have n3:(Value.type "tuple" == Value.type "dict")=false:=by decide
        have t1:(s.heap.push { cls:=.type "set",dict:=none,data:=.set #[] 0 (.fresh 0 0 led) }).IsTuple tu its:=⟨_,go',rfl,gn,rfl⟩
        unfold Builtin.«set.__init__» noKeywords Builtin.Frozenset.updateFrom; generalize zz:pyIter=PI
        wp_walk
        subst zz; refine wpAny_pyIter_tuple t1 (wpAny_bind (wpAny_runValue ?_))
        have tl':tu < s.heap.objs.size:=Heap.lt_size go
        have h3:A.in1.in1.in1.handled=none:=by simp [hh]
        have ne1:tu≠(s.heap.push { cls:=.type "set",dict:=none,data:=.set #[] 0 (.fresh 0 0 led) }).objs.size:=by rw [Heap.size_push]; exact Nat.ne_of_lt (Nat.lt_succ_of_lt tl')
        have nSf:s.heap.objs.size ∉ [(s.heap.push { cls:=.type "set",dict:=none,data:=.set #[] 0 (.fresh 0 0 led) }).objs.size,tu]:=by
          rw [Heap.size_push]; simp only [List.mem_cons,List.mem_singleton,List.not_mem_nil,or_false,not_or]; exact ⟨Nat.ne_of_lt (Nat.lt_succ_self _),Nat.ne_of_gt tl'⟩
        have vv:∀ (i:Nat) (v:Value),its[i]?=some v→∃ t,v=.int ((fun i=>ns.getD i 0) i) t:=fun i v hv=>IntsAre.int_at hi i v (by rw [Array.getElem?_toList]; exact hv)
        refine codeAny_set_update_loopS ((Walks.tuple h3 _ tu ne1 its).toS) s.heap.objs.size nSf (fun i=>ns.getD i 0) vv hb (its.size - 0) 0 _ (by omega) (Nat.zero_le _) ⟨⟨_,Heap.get?_push_size _ rfl,rfl,rfl⟩,⟨_,Heap.get?_push_of_some _ go',rfl,gn,rfl⟩⟩ ?_ ?_
        · have gg:((s.heap.push { cls:=.type "set",dict:=none,data:=.set #[] 0 (.fresh 0 0 led) }).push { cls:=.type "tuple_iterator",data:=.fields #[.ref tu,.int 0 0] }).get? s.heap.objs.size=some { cls:=.type "set",dict:=none,data:=.set #[] 0 (.fresh 0 0 led) }:=Heap.get?_push_of_some _ gS
          exact SetOf_congr ((setObjOf_fresh (knd:=intKind prog w) led).setOf gg (by unfold scanBound; omega)) (fun _=>rfl) rfl
        · intro s' mv hS'
          obtain ⟨h',g',d',tk',os'⟩:=s'
          have e1:g'=s.gens:=mv.gens; have e2:d'=s.drawn:=mv.drawn; have e3:os'=s.os:=mv.os
          subst e1; subst e2; subst e3
          show wpAny _ _ _ _ _ _; refine wpAny_pure ?_
          show wpAny _ _ (ret Value.none) _ _ _; refine wpAny_pure ⟨rfl,h',tk',rfl,hS',fun b o hb e=>?_⟩
          have b2:b≠(s.heap.push { cls:=.type "set",dict:=none,data:=.set #[] 0 (.fresh 0 0 led) }).objs.size:=by rw [Heap.size_push]; exact Nat.ne_of_lt (Nat.lt_succ_of_lt hb)
          exact mv.heap b o (by simp only [List.mem_cons,List.mem_singleton,List.not_mem_nil,or_false,not_or]; exact ⟨Nat.ne_of_lt hb,b2⟩) (Heap.get?_push_of_some _ (Heap.get?_push_of_some _ e))
      · cases r2 with
        | error ev=>exact hr2
        | ok fl2 =>
          cases fl2 with
          | ret rv =>
            obtain ⟨rfl,h',tk,rfl,hS',kk⟩:=hr2
            repeat (any_goals (first | assumption | wp_step))
            exact hQ _ _ hS' kk
          | _=>exact hr2.elim
    | _=>exact hr.elim
end
section
variable {X:Cx} {E:XK} {a b c e:Expr} {ga gb gc:Ds→Rs PyData} {pos:Pos} {es:List Expr} {gs:Ds→Rs (List PyData)}
theorem Df:bootBuiltins "set"=some (.type "set"):=by decide +kernel
noncomputable def tLS (K:PySem.W.Frag) (ta:TA):TE:=fun σ H Q=>ta σ H fun vs H1=>∃ (p:Addr) (ns:List Int),vs=[.ref p]∧SqT K H1 p (ns.map V.int)∧ns.length≤1000∧Q (.int (seen ns ns.length).length) H1
theorem yP {ta:TA} {p p2 pos2:Pos} (hc:X.calm=true) (hg:Gl X "set") (hm:X.mg "set"=none) (hgl:Gl X "len") (hml:X.mg "len"=none) (ha:PA X [a] ta) (hs:starEach [a] X.env=[(false,eval a X.env)]:=by rfl)
    (hs2:starEach [.Call (.Name "set" p) [a] [] pos] X.env=(false,eval (.Call (.Name "set" p) [a] [] pos) X.env)::starEach [] X.env:=by rfl) (hpl:(backTo pos2 (starEach [] X.env)).any (·.1)=false:=by rfl) :
    PE X (.Call (.Name "len" p2) [.Call (.Name "set" p) [a] [] pos] [] pos2) (tLS X.K ta):=by
  intro pins s σ H Q I h
  refine wpAny_Call_Name_kw (gU I hgl hml PySem.boot_len ?_)
  refine PyProof.Rows.callWith_builtin1 ?_ hs2 hpl
  rw [hs2]
  show wpAny _ _ (spliced ((false,eval (.Call (.Name "set" p) [a] [] pos) X.env)::backTo pos2 [])) _ _ s
  refine Calls.spliced_cons (Call_ (gU I hg hm Df (PyProof.Rows.callWith_type1 (thn (ha pos pins s σ H _ I h) fun us s1 rz2=>?_) hs rfl)))
  obtain ⟨vs,H1,I1,r1,q1⟩:=rz2
  obtain ⟨q,ns,e,hq,hz,fin⟩:=q1
  subst e
  obtain ⟨u,rfl,ru⟩:=vals1 r1
  cases ru
  obtain ⟨its,rv,pt,_⟩:=I1.tuple hq
  have hl:=rv.length
  rw [List.length_map] at hl
  refine yD (I1.ok.hd hc) (show s1.heap.IsTuple q its.toArray from pt) (intsAre_of rv) (by rw [List.size_toArray]; unfold scanBound; omega) fun h' tk hS kk=>Calls.spliced_nil ?_
  have I2:Inv X pins σ H1 { s1 with heap:=h',toks:=tk }:=I1.kept fun b o e=>kk b o (Heap.lt_size e) e
  have esz:its.toArray.size=ns.length:=by rw [List.size_toArray]; exact hl.symm
  rw [esz] at hS
  obtain ⟨o,es',ep,t,ho,ex,hd,_,_,hb,hf,hsz⟩:=hS
  refine PySem.call_len_set ho ex hd hf (by unfold scanBound at hb; omega) ⟨.int (seen ns ns.length).length,H1,I2.tok _,⟨_,by rw [hsz]⟩,fin⟩
noncomputable def m9:List PyData→Option PyData
  | [.tuple x]=>(gO x).bind fun ns=>if ns.length≤1000 then some (.int (seen ns ns.length).length) else none
  | _=>none
theorem yC {p p2 pos2:Pos} (hc:X.calm=true) (hm:X.mg "set"=none) (hml:X.mg "len"=none) (ha:PAD X E [a] gs) (hg:Gl X "set":=by rfl) (hgl:Gl X "len":=by rfl) (hs:starEach [a] X.env=[(false,eval a X.env)]:=by rfl)
    (hs2:starEach [.Call (.Name "set" p) [a] [] pos] X.env=(false,eval (.Call (.Name "set" p) [a] [] pos) X.env)::starEach [] X.env:=by rfl) (hpl:(backTo pos2 (starEach [] X.env)).any (·.1)=false:=by rfl) :
    PD X E (.Call (.Name "len" p2) [.Call (.Name "set" p) [a] [] pos] [] pos2) (gF m9 gs):=(yP hc hg hm hgl hml ha.1 hs hs2 hpl).imp fun σ H Q ⟨A,δ,R,o⟩=>sg R o fun ds vs H1 e s1 R1 h1 o=>by
  unfold m9 at o
  split at o
  · rename_i x
    cases q:gO x with
    | none=>rw [q] at o; exact o.elim
    | some ns =>
      rw [q] at o
      obtain ⟨v,rfl,hh⟩:=nk h1
      obtain ⟨p,xs,rfl,hp,hx⟩:=hh.ofTup
      rw [dY q] at hx
      rw [hx.ofInts] at hp
      by_cases z:ns.length≤1000
      · simp only [Option.bind_some,if_pos z] at o
        exact ⟨p,ns,rfl,SqT.of (aY _ _ hp),z,o _ H1 (aM.refl _) cL⟩
      · simp only [Option.bind_some,if_neg z] at o
        exact o.elim
  · exact o.elim
end
end L2
set_option maxRecDepth 100000
set_option maxHeartbeats 4000000
namespace L2
open PySem PySem.Spec PyProof.Rows
open AutoSeq1 (wpAny_loadPart')
open SeqAt (EqAt)
theorem vi {prog:Program} {w:World} {A:Around} {E:Value→Shared→Prop} {s:Shared} {its:Array Value} {x:Value} {e:Value→Bool} {j:Nat} {Q:Option PySem.Fin × Unit→Shared→Prop} (hj:j < its.size) (hit:e its[j]=true) (hno:∀ m (hm:m < its.size),m < j→e its[m]=false)
    (he:∀ y,y∈its→EqAt A s y x (e y)) (hQ:Q (some (.done (.ret (.int j s.toks))),()) { s with toks:=s.toks + 1 }):∀ (k i m:Nat),i + k=j→j < i + m →
    wpAny (model prog w) A (forIn (List.range' i m) ((none:Option PySem.Fin),()) fun (i:Nat) _=>match its[i]? with
      | some y=>do
        let b ← eqBool y x
        if b=true then do
            let r ← retInt (i:Int)
            pure (ForInStep.done (some r,()))
          else pure (ForInStep.yield (none,()))
      | _=>pure (ForInStep.yield (none,()))) Q E s
  | 0,i,0,h1,h2=>by omega
  | 0,i,m + 1,h1,h2=>by
    have:i=j:=by omega
    subst this
    rw [List.range'_succ,List.forIn_cons]
    have q:its[i]?=some its[i]:=by simp [hj]
    simp only [q]
    refine wpAny_bind (wpAny_bind (he _ (Array.getElem_mem hj) prog w _ _ ?_))
    rw [hit,if_pos rfl]
    unfold retInt
    exact wpAny_bind (wpAny_bind (wpAny_mkInt (wpAny_pure (wpAny_pure (wpAny_pure hQ)))))
  | k + 1,i,0,h1,h2=>by omega
  | k + 1,i,m + 1,h1,h2=>by
    have hi:i < its.size:=by omega
    rw [List.range'_succ,List.forIn_cons]
    have q:its[i]?=some its[i]:=by simp [hi]
    simp only [q]
    refine wpAny_bind (wpAny_bind (he _ (Array.getElem_mem hi) prog w _ _ ?_))
    rw [hno i hi (by omega),if_neg Bool.false_ne_true]
    exact wpAny_pure (vi hj hit hno he hQ k (i + 1) m (by omega) (by omega))
theorem zk (tu:Addr) (its:Array Value) (n:Nat) (dd:Option Addr) (sl:Array (Option Value)) (x:Value) (e:Value→Bool) (j:Nat) (hj:j < its.size) (hit:e its[j]=true) (hno:∀ m (hm:m < its.size),m < j→e its[m]=false) :
    Meets (Builtin.«tuple.index» ⟨[.ref tu,x],[]⟩)
      (fun A R s=>s.heap.get? tu=some { cls:=.type "tuple",dict:=dd,data:=.seq its n,slots:=sl }∧(∀ y,y∈its→EqAt A.in1 s y x (e y))∧R (.ok (.ret (.int j s.toks))) { s with toks:=s.toks + 1 }):=by
  intro prog w A R s hs
  obtain ⟨hp,g,d,tk,os⟩:=s
  obtain ⟨hl,he,hR⟩:=hs
  unfold Builtin.«tuple.index»
  simp only [Std.Legacy.Range.forIn_eq_forIn_range',Std.Legacy.Range.size]
  generalize hF:(@forIn Sem (List Nat))=F
  wp_walk using wpAny_loadPart' hl
  subst hF
  refine vi hj hit hno he ?_ j 0 _ (by omega) (by simp; omega)
  exact wpAny_pure hR
section
variable {X:Cx} {E:XK} {a o e:Expr} {ga go:Ds→Rs PyData} {pos:Pos} {es:List Expr} {gs:Ds→Rs (List PyData)}
noncomputable def Dh:V→List V→Hp→VK→Prop:=fun x vs H Q=>∃ l xs y j,x=.ref l∧vs=[y]∧H l=some (.tup xs)∧kz y=true∧xs.all kz=true∧(xs.findIdx? fun z=>eqV z y)=some j∧Q (.int j) H
noncomputable def tIx (to:TE) (t:TA):TE:=fun σ H Q=>to σ H fun x H1=>(∃ l xs,x=.ref l∧H1 l=some (.tup xs))∧t σ H1 fun vs H2=>Dh x vs H2 Q
theorem AS {to:TE} {t:TA} {apos cpos:Pos} (ho:PE X o to) (ha:PA X [e] t) (hbase:attributeBase o "index" X.env (eval o X.env)=eval o X.env:=by rfl)
    (hfew:((backTo cpos (starEach [e] X.env)).all (fun x=>!x.1) && (backToKw cpos (keywordEach [] X.env)).all (fun x=>x.1.isSome) && decide (([e]:List Expr).length + ([]:List Keyword).length + (if ([]:List Keyword).isEmpty then 0 else 1) < 30))=true:=by rfl)
    (hline:(apos.endLine == cpos.line)=true:=by rfl) (hs:starEach [e] X.env=(false,eval e X.env)::starEach [] X.env:=by rfl) (hplain:(backTo cpos (starEach [] X.env)).any (·.1)=false:=by rfl) :
    PE X (.Call (.Attribute o "index" apos) [e] [] cpos) (tIx to t):=by
  intro pins s σ H Q I h
  refine wpAny_Call_method_late hbase hfew hline rfl (thn (ho pins s σ H _ I h) fun v s1 rz2=>?_)
  obtain ⟨x,H1,I1,r1,⟨l,xs,hx,hl⟩,q1⟩:=rz2
  subst hx
  cases r1
  obtain ⟨hz,its,rv,ob,ge,gc,gd,n,gq⟩:=I1.hok l _ hl
  refine ⟨"tuple", "tuple.index",PySem.F.plainAttrs_tuple,PySem.F.slot_tuple_index,PySem.F.type_tuple_index,⟨ob,ge,gc⟩,fun a ea=>by cases ea; exact ⟨ob,ge,gd⟩,?_⟩
  have hA:=ha cpos pins s1 σ H1 _ I1 q1
  rw [hs] at hA ⊢
  refine Calls.callWith_builtin (by show (false || (backTo cpos (starEach [] X.env)).any (·.1))=false; rw [hplain]; rfl) (Calls.evalArgs_plain ?_)
  refine thn hA fun us s2 rz2=>?_
  obtain ⟨vs,H2,I2,r2,q2⟩:=rz2
  obtain ⟨l',xs',y,j,e1,e2,hl',fy,fs,hj,q⟩:=q2
  cases e1
  subst e2
  obtain ⟨hz',its',rv',ob',ge',gc',gd',n',gq'⟩:=I2.hok l _ hl'
  obtain ⟨u,rfl,ru⟩:=vals1 r2
  obtain ⟨oc,od,oda,osl⟩:=ob'
  simp only at gc' gd' gq'
  subst gc' gd' gq'
  have hlen:=rv'.length
  obtain ⟨hjl,hjt,hjn⟩:=List.findIdx?_eq_some_iff_getElem.mp hj
  have at':∀ (m:Nat) (hm:m < xs'.length),eqU y (its'[m]'(by omega))=eqV xs'[m] y:=fun m hm=>by
    obtain ⟨w',hw,rw'⟩:=rv'.get (List.getElem?_eq_getElem hm)
    have:its'[m]'(by omega)=w':=by
      have h2:=List.getElem?_eq_getElem (show m < its'.length by omega)
      rw [h2] at hw; exact Option.some.inj hw
    rw [this]
    exact wF rw' (List.all_eq_true.mp fs _ (List.getElem_mem hm))
  refine call_meets PySem.F.slot_tuple_index ⟨_,ge',rfl⟩ PySem.F.entry_tuple_index (PySem.F.args_tuple_index_2 _ _) (zk l its'.toArray n' none osl u (eqU y) j (by simp; omega) (by simpa [at' j hjl] using hjt) (fun m hm hmj=>?_)) ⟨ge',fun z hz=>jD ru fy rv' fs z (by simpa using hz),⟨.int j,H2,I2.tok _,⟨_,rfl⟩,q⟩⟩
  have hm':m < xs'.length:=by simp at hm; omega
  have:=hjn m hmj
  simpa [at' m hm'] using this
noncomputable def oq (xs:List PyData) (y:PyData):Option PyData:=if f9 y && xs.all f9 then ((xs.map toV).findIdx? fun z=>eqV z (toV y)).map fun j=>.int j else none
noncomputable def rg (go ga:Ds→Rs PyData):Ds→Rs PyData:=fun δ=>(go δ).bind fun d=>match d with
  | .tuple xs=>(ga δ).bind fun y=>Rs.gu (oq xs y)
  | _=>.no
theorem nh {apos cpos:Pos} (ho:PD X E o go) (ha:PD X E e ga) (hbase:attributeBase o "index" X.env (eval o X.env)=eval o X.env:=by rfl)
    (hfew:((backTo cpos (starEach [e] X.env)).all (fun x=>!x.1) && (backToKw cpos (keywordEach [] X.env)).all (fun x=>x.1.isSome) && decide (([e]:List Expr).length + ([]:List Keyword).length + (if ([]:List Keyword).isEmpty then 0 else 1) < 30))=true:=by rfl)
    (hline:(apos.endLine == cpos.line)=true:=by rfl) (hs:starEach [e] X.env=(false,eval e X.env)::starEach [] X.env:=by rfl) (hplain:(backTo cpos (starEach [] X.env)).any (·.1)=false:=by rfl) :
    PD X E (.Call (.Attribute o "index" apos) [e] [] cpos) (rg go ga):=(AS ho (fi ha iH hs) hbase hfew hline hs hplain).imp fun σ H Q pz3=>by
  obtain ⟨A,δ,R,oo⟩:=pz3
  unfold rg at oo
  refine eD.run R (fun d1 e1 v H1 s1 R1 h1=>?_) (fun C et H' s'=>by rw [et] at oo; exact oo H' s') (fun et=>by rw [et] at oo; exact oo)
  simp only [e1,Rs.aj] at oo
  cases d1 with
  | tuple xs =>
    obtain ⟨p,vs,rfl,hp,hx⟩:=h1.ofTup
    refine ⟨⟨p,vs,rfl,aY _ _ hp⟩,?_⟩
    have oo:jb X.K E A H ((ga δ).bind fun y=>Rs.gu (oq xs y)) Q:=oo
    refine eD.run R1 (fun d2 e2 u H2 s2 R2 h2=>?_) (fun C et H' s'=>by rw [et] at oo; exact oo H' (s1.trans s')) (fun et=>by rw [et] at oo; exact oo)
    simp only [e2,Rs.aj] at oo
    unfold oq at oo
    split at oo
    · rename_i z
      rw [Bool.and_eq_true] at z
      obtain ⟨f1,f2⟩:=h2.flat z.1
      obtain ⟨f3,f4⟩:=hx.flat z.2
      cases q:((xs.map toV).findIdx? fun z=>eqV z (toV d2)) with
      | none=>rw [q] at oo; exact oo.elim
      | some j =>
        rw [q] at oo
        exact ⟨p,vs,u,j,rfl,rfl,s2 _ _ (aY _ _ hp),f2,f4,by rw [f1,f3]; exact q,oo _ H2 (s1.trans s2) cL⟩
    · exact oo.elim
  | _=>exact oo.elim
end
end L2
set_option maxRecDepth 100000
set_option maxHeartbeats 4000000
namespace L2
open PySem PySem.Spec PyProof.Rows
noncomputable def uF:List Int→Option Int
  | []=>none
  | x::r=>some (r.foldl (fun a b=>if b > a then b else a) x)
theorem fold_max:∀ (r:List Int) (x:Int),(r.foldl (fun a b=>if b > a then b else a) x)∈x::r∧∀ a∈x::r,a≤r.foldl (fun a b=>if b > a then b else a) x
  | [],x=>⟨List.mem_cons_self,fun a ha=>by cases List.mem_singleton.mp ha; exact Int.le_refl _⟩
  | y::r,x=>by
    obtain ⟨h1,h2⟩:=fold_max r (if y > x then y else x)
    rw [List.foldl_cons]
    have h0:=h2 _ List.mem_cons_self
    refine ⟨?_,fun a ha=>?_⟩
    · rcases List.mem_cons.mp h1 with z | z
      · rw [z]; split <;> simp
      · exact List.mem_cons_of_mem _ (List.mem_cons_of_mem _ z)
    · have hx:x≤(if y > x then y else x):=by split <;> omega
      have hy:y≤(if y > x then y else x):=by split <;> omega
      rcases List.mem_cons.mp ha with rfl | ha
      · exact Int.le_trans hx h0
      · rcases List.mem_cons.mp ha with rfl | ha
        · exact Int.le_trans hy h0
        · exact h2 a (List.mem_cons_of_mem _ ha)
theorem Bv {ns:List Int} {M m:Int} (h1:M∈ns) (h2:∀ a∈ns,a≤M) (e:uF ns=some m):M=m:=by
  cases ns with
  | nil=>cases e
  | cons x r =>
    cases e
    obtain ⟨g1,g2⟩:=fold_max r x
    have a1:=h2 _ g1
    have a2:=g2 _ h1
    omega
section
variable {X:Cx} {E:XK} {a:Expr} {es:List Expr} {gs:Ds→Rs (List PyData)} {pos:Pos}
theorem Ci:bootBuiltins "max"=some (.builtin "max"):=by decide +kernel
end
end L2
set_option maxRecDepth 100000
set_option maxHeartbeats 4000000
namespace L2
open PySem PySem.Spec PyProof.Rows
section
variable {X:Cx} {E:XK} {O:List Nat} {K:PySem.W.Frag} {H0 H:Hp} {A0 A:List Addr} {δ:Ds} {σ:St}
end
end L2
set_option maxRecDepth 100000
set_option maxHeartbeats 4000000
namespace L2
open PySem PySem.Spec PyProof.Rows
section
variable {X:Cx} {E:XK} {a b c:Expr} {ga gb gc:Ds→Rs PyData} {pos:Pos}
end
end L2
set_option maxRecDepth 100000
set_option maxHeartbeats 4000000
namespace L2
open PySem PySem.Spec PyProof.Rows
section
variable {X:Cx} {E:XK} {a:Expr} {es:List Expr} {gs:Ds→Rs (List PyData)} {pos:Pos}
end
end L2
set_option maxRecDepth 100000
set_option maxHeartbeats 4000000
namespace L2
open PySem PySem.Spec PyProof.Rows
section
variable {X:Cx} {E:XK} {a:Expr} {gs:Ds→Rs (List PyData)} {pos:Pos}
end
end L2
set_option maxRecDepth 100000
set_option maxHeartbeats 4000000
namespace PyProof.Rows
open PySem
section
variable {prog:Program} {w:World} {A:Around} {E:Value→Shared→Prop} {s:Shared}
end
end PyProof.Rows
namespace L2
open PySem PySem.Spec PyProof.Rows
section
variable {X:Cx} {E:XK} {a:Expr} {es:List Expr} {gs:Ds→Rs (List PyData)} {pos:Pos}
end
end L2
set_option maxRecDepth 100000
set_option maxHeartbeats 4000000
namespace L2
open PySem PySem.Spec PySem.Calls PyProof.Rows PySem.W PySem.Builtin PySem.Builtin.ObjectAttr PySem.Builtin.Getset_descriptor
section
variable {prog:Program} {w:World} {A:Around} {E:Value→Shared→Prop} {s:Shared} {K:Frag} {x D:Addr} {ox:Obj}
structure CF (h:Heap) (x:Addr) (D:Addr):Prop where
  ex:∃ o,h.get? x=some o∧o.cls=.ref D
theorem CF.type {M:Model} {h:Heap} (I:CF h x D):Looks M h (typeOf (.ref x)) (.ref D):=by
  obtain ⟨o,h1,h2⟩:=I.ex
  exact h2 ▸ (Looks.ld h1).andThen .now
end
end L2
set_option maxRecDepth 100000
set_option maxHeartbeats 4000000
namespace L2
open PySem PySem.Spec PyProof.Rows
section
variable {X:Cx} {E:XK} {ea:Addr} {oe:Obj} {C:Addr} {pos:Pos} {i:Nat}
end
end L2
set_option maxRecDepth 100000
set_option maxHeartbeats 4000000
namespace L2
open PySem PySem.Spec PyProof.Rows
section
variable {X:Cx} {E:XK} {ea:Addr} {oe:Obj} {C:Addr} {pos:Pos} {i:Nat}
end
end L2
set_option maxRecDepth 100000
set_option maxHeartbeats 4000000
namespace L2
open PySem PySem.Spec PyProof.Rows
noncomputable def tT (O:List Nat) (i:Nat) (g:Ds→Rs PyData):Ds→Sr:=fun δ=>match δ[i]? with
  | some (some (.int a))=>ofR (g (mask O δ)) fun d=>match d with
    | .int b=>.nx (δ.set i (some (.int (a + b))))
    | _=>.no
  | _=>.no
section
variable {X:Cx} {E:XK} {O:List Nat} {e a b:Expr} {ga gb:Ds→Rs PyData} {es:List Expr} {gs:Ds→Rs (List PyData)} {pos:Pos}
theorem xX {i:Nat} {x:Str} {pos':Pos} (h:PD X E e ga) (hN:X.N.Nodup) (hO:i ∉ O:=by decide) (hi:X.N[i]?=some x:=by rfl) (hx:Loc X.env.scope x:=by first | exact Or.inl rfl | exact Or.inr rfl)
    (hf:X.fn x=true∨X.env.scope.names.lookup x=some .local:=by first | exact .inl rfl | exact .inr rfl | assumption):PSD X E O (.AugAssign (.Name x pos') .Add e pos) (tT O i ga):=(D2 hN hi hx h CW hf).imp fun D σ H pz3=>by
  obtain ⟨H0,A0,A,δ,R,o⟩:=pz3
  unfold tT at o
  split at o
  · rename_i z hz
    obtain ⟨v,ev,hv⟩:=R.pl i _ hO hz
    have hl:i < δ.length:=(List.getElem?_eq_some_iff.mp hz).1
    refine ⟨v,ev,?_⟩
    refine eD.run R.part (fun d ed u H1 s1 R1 hu=>?_) (fun C et H' s'=>?_) (fun et=>?_)
    · rw [ed,aE] at o
      split at o
      · refine ⟨_,_,hv.ofInt,hu.ofInt,o A _ H1 ((R.step s1).set hO hl cL)⟩
      · exact o.elim
    · rw [et,sx] at o; exact o H' (R.same.trans s')
    · rw [et,sE] at o; exact o
  · exact o.elim
noncomputable def lU (f:Str):List (PyData × PyData)→Option PyData
  | []=>none
  | (k,d)::r=>match k with
    | .str g=>if g=f then some d else lU f r
    | _=>none
noncomputable def pI (C:Addr) (f:Str):PyData→Option PyData
  | .dict (k::r)=>match k with
    | (.str z,.int c)=>if z=""∧c=(C:Int) then lU f r else none
    | _=>none
  | _=>none
theorem Isk.lU {K:PySem.W.Frag} {H:Hp}:∀ {r:List (PyData × PyData)} {fs:List (Str × V)} {f:Str} {d:PyData},Isk K H r fs→L2.lU f r=some d→∃ v,fs.lookup f=some v∧Is K H d v
  | [],_,f,d,_,l=>by simp [L2.lU] at l
  | (k,x)::r,fs,f,d,h,l=>by
    unfold Isk at h
    obtain ⟨g,v,fs',rfl,rfl,h1,h2⟩:=h
    simp only [L2.lU] at l
    rw [List.lookup_cons]
    by_cases z:g=f
    · subst z
      rw [if_pos rfl] at l
      cases l
      exact ⟨v,by simp,h1⟩
    · rw [if_neg z] at l
      have:(f == g)=false:=by simpa using fun q=>z q.symm
      rw [this]
      exact Isk.lU h2 l
theorem Ct {K:PySem.W.Frag} {H:Hp} {C:Addr} {f:Str} {d x:PyData} {v:V} (hf:f≠"@") (e:pI C f d=some x) (h:Is K H d v):∃ a dx fs u,v=.ref a∧H a=some (.ins C dx fs)∧fs.lookup f=some u∧Is K H x u:=by
  unfold pI at e
  split at e
  · rename_i k r
    split at e
    · rename_i z c
      split at e
      · rename_i q
        obtain ⟨rfl,rfl⟩:=q
        unfold Is at h
        rcases h with ⟨a,ns,_,ek,_⟩ | ⟨a,C',dx,fs,ev,h1,hn,h2 | h2⟩
        · injection ek with ek _; cases ek
        · unfold Isk at h2
          obtain ⟨g,u,fs',e1,e2,h3,h4⟩:=h2
          cases e1
          have e5:=h3.ofInt
          injection e5 with e5
          obtain rfl:C'=C:=Int.ofNat.inj e5
          obtain ⟨u,l,hu⟩:=h4.lU e
          exact ⟨a,dx,fs,u,ev,h1,l,hu⟩
        · unfold Isk at h2
          obtain ⟨g,u,fs',e1,e2,h3,h4⟩:=h2
          cases e1
          have e5:=h3.ofInt
          injection e5 with e5
          obtain rfl:C'=C:=Int.ofNat.inj e5
          obtain ⟨u,l,hu⟩:=h4.lU e
          rw [List.lookup_cons,show (f == ("@":Str))=false by simpa using hf] at l
          exact ⟨a,dx,fs,u,ev,h1,l,hu⟩
      · cases e
    · cases e
  · cases e
theorem Dy {C:Addr} {f:Str} (cl:Cls X.K C) (n:g6 X.K C f) (ha:PD X E a ga) (hb:attributeBase a f X.env (eval a X.env)=eval a X.env:=by rfl) (hf:f≠"@":=by decide):PD X E (.Attribute a f pos) (g1 (pI C f) ga) :=
  (C4 ha hb).imp fun σ H Q ⟨A,δ,R,o⟩=>g1.read (tt:=fun Q x H1=>∃ a C dx fs v,x=.ref a∧H1 a=some (.ins C dx fs)∧Cls X.K C∧g6 X.K C f∧fs.lookup f=some v∧Q v H1) R o fun d1 d x H' e _ _ h k=>by
    obtain ⟨p,dx,fs,u,rfl,hp,l,hu⟩:=Ct hf e h
    exact ⟨p,C,dx,fs,u,rfl,aY _ _ hp,cl,n,l,k _ H' (aM.refl _) hu⟩
noncomputable def Dm (C:Addr) (names:List Str):Sp:=fun vs H Q _=>∃ (x dx:Addr) (args:List V),vs=.ref x::args∧args.length=names.length∧H x=some (.ins C dx []) ∧
  ∀ H':Hp,(∀ b,b≠x→H' b=H b)→H' x=some (.ins C dx (names.zip args))→Q .non H'
structure AZ (P:Program) (w:World) (K:PySem.W.Frag) (mg:Str→Option Value) (base:Heap) (k:Nat) (x:Str) (C:Addr) (names:List Str):Prop where
  ex:∃ f fd ps,Mk K C f∧kq P w K mg base (CXW P w) k f fd ps (Dm C names)∧Binds K fd ps []∧mg x=some (.ref C)
noncomputable def u7 (C:Addr) (names:List Str):List PyData→Rs PyData:=fun ds=>if ds.length=names.length then .ok (zK C (names.zip ds)) else .no
theorem xP {K:PySem.W.Frag} {H:Hp}:∀ {names:List Str} {ds:List PyData} {vs:List V},Iss K H ds vs→Isk K H ((names.zip ds).map fun p=>(.str p.1,p.2)) (names.zip vs)
  | [],_,_,_=>by simpa using xU
  | _::_,[],_,h=>by rw [h.nil_of]; simpa using xU
  | n::ns,d::ds,_,h=>by
    obtain ⟨v,r,rfl,h1,h2⟩:=h.cons_of
    simp only [List.zip_cons_cons,List.map_cons]
    exact u9 h1 (xP h2)
theorem Ak {f:Str}:∀ {names:List Str} {vs:List V},f ∉ names→(names.zip vs).lookup f=none
  | [],_,_=>rfl
  | _::_,[],_=>rfl
  | n::ns,v::vs,h=>by
    rw [List.zip_cons_cons,List.lookup_cons,show (f == n)=false by simpa using fun q=>h (by rw [q]; exact List.mem_cons_self)]
    exact Ak fun q=>h (List.mem_cons_of_mem _ q)
theorem BX {k j:Nat} {x:Str} {C:Addr} {names:List Str} {p:Pos} (D:AZ X.prog X.w X.K X.mg X.base k x C names) (hr:fk j X.A) (hx:Passes (CXW X.prog X.w) X E) (ha:PAD X E (e::es) gs) (hk:k + 1≤j:=by decide) (hg:Gl X x:=by rfl)
    (hdb:(x == ("__debug__":Str))=false:=by decide) (he:starEach (e::es) X.env=(false,eval e X.env)::starEach es X.env:=by rfl) (hpl:(backTo pos (starEach es X.env)).any (·.1)=false:=by rfl) (hn:("@":Str) ∉ names:=by decide) :
    PD X E (.Call (.Name x p) (e::es) [] pos) (ay (u7 C names) gs):=by
  obtain ⟨f,fd,ps,M,F,hb,hm⟩:=D.ex
  refine (Ce M F (hr.mono hk) hg hm hb .nil hx ha.1 hdb he hpl).imp fun σ H Q rz3=>?_
  obtain ⟨A,δ,R,o⟩:=rz3
  refine sg R o fun ds vs H1 e s1 R1 h1 o=>?_
  unfold u7 at o
  split at o
  · rename_i hl
    intro x dx nx ndx ne
    refine ⟨x,dx,vs++[],rfl,by rw [List.append_nil,h1.length,hl],cp,fun H' k1 k2=>⟨rfl,?_⟩⟩
    rw [List.append_nil] at k2
    have sm:aM H1 H':=fun b q eb=>by
      have n1:b≠x:=bH eb nx
      rw [k1 b n1,bw n1,bw (bH eb ndx)]
      exact eb
    refine o (.ref x) H' sm (Dw (dx:=dx) (fs:=names.zip vs) ?_ (Ak hn) (xP (h1.same sm.del)))
    rw [cA (R1.ls.new nx)]
    exact k2
  · exact o.elim
noncomputable def vN:PyData→PyData→Option PyData
  | .list x,.int d=>(gO x).map fun ns=>.int ((uF ns).getD d)
  | _,_=>none
end
section
variable {prog:Program} {w:World} {A:Around} {R:Result→Shared→Prop} {I:Addr} {fp wr:List Addr} {n:Nat} {T:Nat→Value→Prop} {St:Nat→Heap→Prop} {dv:Value}
theorem AF (a v:Value):argsOk "max" ⟨[a],[(Str.ofString "default",v)]⟩:=by unfold argsOk; kernel_rfl
theorem tY:(toString "max"++toString ".loop":String)="max.loop":=by decide
theorem pX (W:Walks prog w A.in1 I fp wr n T St) (bt:Nat→Nat→Bool) (hc:CmpOf prog w A.in1 .Gt T bt) (S:Addr) (hf:S ∉ fp):∀ (k j:Nat) (s:Shared) (vb:Value) (c:Nat),n=j + 1 + k→St (j + 1) s.heap→T (argBest bt j) vb →
    s.heap.get? S=some { cls:=.type "list",dict:=none,data:=.seq #[vb,vb] c,slots:=#[] }→(∀ v h' tk,T (argBest bt (n - 1)) v→(∀ b o,b ∉ wr→b≠S→s.heap.get? b=some o→h'.get? b=some o)→R (.ok (.ret v)) { s with heap:=h',toks:=tk }) →
    codeAny (model prog w) A (.builtin "max.loop" ⟨[.ref I,.none,.ref S],[(Str.ofString "default",dv)]⟩) R s
  | 0,j,s,vb,c,hn,hst,hb,hS,hR=>by
    have nw:S ∉ wr:=fun h=>hf (W.sub _ h)
    refine codeAny_builtin F.entry_max_loop ?_
    rw [Around.under_plainId F.plain_max_loop _]; show wpAny _ A.in1 (seqItems? (.ref S) >>= _) _ _ s
    refine wpAny_bind (wpAny_seqItems hS rfl ?_); show wpAny _ A.in1 (tryCatch (pyNext (.ref I)) _ >>= _) _ _ s
    refine wpAny_bind (wpAny_tryCatch (W.done s _ _ (by rw [show n=j + 1 from hn]; exact hst) fun h1 t1 k1=>?_))
    have hS1:=k1 S _ nw hS
    show wpAny _ A.in1 (updateSeq S (fun _=>#[]) >>= _) _ _ _
    refine wpAny_bind (wpAny_updateSeq hS1 rfl (wpAny_bind (wpAny_letGo (wpAny_pure ?_))))
    exact hR vb _ t1 (by rw [show n - 1=j by omega]; exact hb) fun b o q1 q2 z=>(Heap.get?_update_other _ _ (Ne.symm q2)).trans (k1 b o q1 z)
  | k + 1,j,s,vb,c,hn,hst,hb,hS,hR=>by
    have nw:S ∉ wr:=fun h=>hf (W.sub _ h)
    refine codeAny_builtin F.entry_max_loop ?_
    rw [Around.under_plainId F.plain_max_loop _]; show wpAny _ A.in1 (seqItems? (.ref S) >>= _) _ _ s
    refine wpAny_bind (wpAny_seqItems hS rfl ?_); show wpAny _ A.in1 (tryCatch (pyNext (.ref I)) _ >>= _) _ _ s
    refine wpAny_bind (wpAny_tryCatch (W.item (j + 1) s _ _ (by omega) hst fun v h1 t1 hv st1 k1=>?_))
    have hS1:=k1 S _ nw hS
    show wpAny _ A.in1 (tryCatch (holding [v,v] (richCompare .Gt v vb >>= _)) _ >>= _) _ _ _
    refine wpAny_bind (wpAny_tryCatch (wpAny_holding (wpAny_bind (hc (j + 1) (argBest bt j) v vb _ _ _ hv hb (wpAny_bind (wpAny_holding (wpAny_truthy_bool (wpAny_bind (wpAny_letGo (wpAny_pure ?_))))))))))
    cases q:bt (j + 1) (argBest bt j) with
    | true =>
      rw [if_pos rfl]
      refine wpAny_bind (wpAny_updateSeq hS1 rfl (wpAny_bind (wpAny_letGo ?_)))
      rw [tY]
      refine wpAny_pure ⟨plainId_quiet F.plain_max_loop _,pX W bt hc S hf k (j + 1) _ v _ (by omega) (W.frame _ _ _ st1 fun b hbf o e=>?_) (by unfold argBest; rw [q]; exact hv) (Heap.get?_update_self _ hS1 rfl) fun v2 h2 t2 p2 k2=>?_⟩
      · exact (Heap.get?_update_other _ _ (fun z:S=b=>hf (z ▸ hbf))).trans e
      · exact hR v2 h2 t2 p2 fun b o q1 q2 z=>k2 b o q1 q2 ((Heap.get?_update_other _ _ (Ne.symm q2)).trans (k1 b o q1 z))
    | false =>
      rw [if_neg (by decide)]
      refine wpAny_bind (wpAny_letGo ?_)
      rw [tY]
      refine wpAny_pure ⟨plainId_quiet F.plain_max_loop _,pX W bt hc S hf k (j + 1) _ vb c (by omega) st1 (by unfold argBest; rw [q]; exact hb) hS1 fun v2 h2 t2 p2 k2=>?_⟩
      exact hR v2 h2 t2 p2 fun b o q1 q2 z=>k2 b o q1 q2 (k1 b o q1 z)
variable {E:Value→Shared→Prop} {s:Shared} {l:Addr} {xs:Array (Int × Tok)}
theorem zU {Q:Value→Shared→Prop} (hh:A.handled=none) (hl:s.heap.IsList l (intItems xs))
    (h0:xs.size=0→∀ h' tk,(∀ b o,s.heap.get? b=some o→h'.get? b=some o)→Q dv { s with heap:=h',toks:=tk })
    (h:0 < xs.size→∀ v h' tk,(intItems xs)[argBest (fun i j=>decide (numAt xs i > numAt xs j)) (xs.size - 1)]?=some v→(∀ b o,s.heap.get? b=some o→h'.get? b=some o)→Q v { s with heap:=h',toks:=tk }) :
    wpAny (model prog w) A (call (.builtin "max") [.ref l] [(Str.ofString "default",dv)]) Q E s:=by
  refine kmk_tree F.kind_max F.plain_max F.entry_max (AF _ _) ?_
  show wpAny _ A.in1 (Builtin.Builtins.bindParams "max" ["key", "default"] 0 ⟨[],[(Str.ofString "default",dv)]⟩ >>= _) _ _ s
  refine wpAny_bind (wpAny_of_eq (show Builtin.Builtins.bindParams "max" ["key", "default"] 0 ⟨[],[(Str.ofString "default",dv)]⟩=pure [none,some dv] from rfl) (wpAny_bind (wpAny_pure ?_)))
  refine wpAny_bind (iter_intList hl fun s2 e st hfp hlI=>wpAny_bind (wpAny_newObj_type ?_))
  subst e
  have W:=Walks.list (prog:=prog) (w:=w) (A:=A.in1) hh s.heap.objs.size l hlI (intItems xs)
  have hsz:(intItems xs).size=xs.size:=by simp [intItems]
  have hSf:(s.heap.push { cls:=.type "list_iterator",data:=.fields #[.ref l,.int 0 0] }).objs.size ∉ [s.heap.objs.size,l]:=fun hm=>Nat.lt_irrefl _ (hfp _ hm)
  rw [tY]
  refine wpAny_pure ⟨plainId_quiet F.plain_max_loop _,codeAny_builtin F.entry_max_loop ?_⟩
  rw [Around.under_plainId F.plain_max_loop _]
  show wpAny _ A.in1 (seqItems? (.ref _) >>= _) _ _ _
  refine wpAny_bind (wpAny_seqItems (Heap.get?_push_size _ rfl) rfl ?_)
  show wpAny _ A.in1 (tryCatch (pyNext (.ref _)) _ >>= _) _ _ _
  have st1:=W.frame _ _ _ st fun b _ o e=>Heap.get?_push_of_some { cls:=.type "list",data:=.seq #[] } e
  have nS:(s.heap.push { cls:=.type "list_iterator",data:=.fields #[.ref l,.int 0 0] }).objs.size ∉ [s.heap.objs.size]:=fun z=>hSf (List.mem_cons.mpr (.inl (List.mem_singleton.mp z)))
  have kp:∀ b o,s.heap.get? b=some o→b ∉ [s.heap.objs.size]∧((s.heap.push { cls:=.type "list_iterator",data:=.fields #[.ref l,.int 0 0] }).push { cls:=.type "list",data:=.seq #[] }).get? b=some o∧b≠(s.heap.push { cls:=.type "list_iterator",data:=.fields #[.ref l,.int 0 0] }).objs.size:=fun b o e=>by
    have hb:b < s.heap.objs.size:=Heap.lt_size e
    refine ⟨fun z=>?_,Heap.get?_push_of_some _ (Heap.get?_push_of_some _ e),?_⟩
    · rw [List.mem_singleton.mp z] at hb; exact Nat.lt_irrefl _ hb
    · rw [Heap.size_push]; exact Nat.ne_of_lt (Nat.lt_succ_of_lt hb)
  by_cases hz:xs.size=0
  · refine wpAny_bind (wpAny_tryCatch (W.done _ _ _ (by rw [hsz,hz]; exact st1) fun h1 t1 k1=>?_))
    show wpAny _ A.in1 (rule _ >>= _) _ _ _
    refine wpAny_bind (wpAny_rule (wpAny_pure ?_))
    exact h0 hz h1 t1 fun b o e=>k1 b o (kp b o e).1 (kp b o e).2.1
  · refine wpAny_bind (wpAny_tryCatch (W.item 0 _ _ _ (by rw [hsz]; omega) st1 fun v h1 t1 hv st2 k1=>?_))
    have hS1:=k1 _ _ nS (Heap.get?_push_size _ rfl)
    show wpAny _ A.in1 (updateSeq _ (fun _=>#[v,v]) >>= _) _ _ _
    refine wpAny_bind (wpAny_updateSeq hS1 rfl ?_)
    rw [tY]
    refine wpAny_pure ⟨plainId_quiet F.plain_max_loop _,pX W _ (CmpOf.ints_gt (numAt xs) fun _ _=>intItems_at) _ hSf (xs.size - 1) 0 _ v _ (by rw [hsz]; omega) (W.frame _ _ _ st2 fun b hbf o e=>?_) hv (Heap.get?_update_self _ hS1 rfl) fun v2 h2 t2 p2 k2=>?_⟩
    · exact (Heap.get?_update_other _ _ (fun z:(s.heap.push { cls:=.type "list_iterator",data:=.fields #[.ref l,.int 0 0] }).objs.size=b=>hSf (by rw [z]; exact hbf))).trans e
    · refine h (by omega) v2 h2 t2 (by rw [hsz] at p2; exact p2) fun b o e=>k2 b o (kp b o e).1 (kp b o e).2.2 ?_
      exact (Heap.get?_update_other _ _ (Ne.symm (kp b o e).2.2)).trans (k1 b o (kp b o e).1 (kp b o e).2.1)
end
section
variable {X:Cx} {E:XK} {O:List Nat} {e a b:Expr} {ga gb:Ds→Rs PyData} {es:List Expr} {gs:Ds→Rs (List PyData)} {pos:Pos}
theorem yx {ns:List Int} (h:ns.length=0) (d:Int):(uF ns).getD d=d:=by cases ns with | nil=>rfl | cons _ _=>simp at h
theorem eD.weak {K:PySem.W.Frag} {g:Ds→Rs PyData} {σ:St} {H:Hp} {Q Q':VK} (h:eD K E g σ H Q) (k:∀ v H',Q v H'→Q' v H'):eD K E g σ H Q':=by
  obtain ⟨A,δ,R,o⟩:=h
  refine ⟨A,δ,R,?_⟩
  cases q:g δ with
  | ok d=>rw [q] at o; exact fun v H' s1 h1=>k v H' (o v H' s1 h1)
  | rz C=>rw [q] at o; exact o
  | no=>rw [q] at o; exact o
theorem Ck {p kp:Pos} (hc:X.calm=true) (hm:X.mg "max"=none) (ha:PD X E a ga) (hb:PD X E b gb) (hg:Gl X "max":=by rfl) (he:starEach [a] X.env=[(false,eval a X.env)]:=by rfl) :
    PD X E (.Call (.Name "max" p) [a] [⟨some "default",b,kp⟩] pos) (g2 vN ga gb):=by
  have key:PE X (.Call (.Name "max" p) [a] [⟨some "default",b,kp⟩] pos) (tOp (fun x y H Q=>∃ (p:Addr) (ns:List Int) (d:Int),x=.ref p∧y=.int d∧SqL X.K H p (ns.map V.int)∧Q (.int ((uF ns).getD d)) H) (eD X.K E ga) (eD X.K E gb)):=by
    intro pins s σ H Q I h
    refine wpAny_Call_Name_kw (gU I hg hm Ci ?_ (by decide) (by decide))
    refine callWith_kw ?_ (by rw [he]; rfl) (by rw [he]; rfl) rfl rfl
    refine thn ((fi ha iH he) pos pins s σ H (fun vs H1=>∃ x,vs=[x]∧eD X.K E gb σ H1 fun y H2=>∃ (p:Addr) (ns:List Int) (d:Int),x=.ref p∧y=.int d∧SqL X.K H2 p (ns.map V.int)∧Q (.int ((uF ns).getD d)) H2) I
      (eD.weak h fun x H1 q=>⟨x,rfl,q⟩)) fun us s1 ⟨vs,H1,I1,r1,x,q0,q1⟩=>?_
    subst q0
    obtain ⟨u,rfl,ru⟩:=vals1 r1
    refine thn ((BD hb Dj) pos pins s1 σ H1 (fun vs H2=>∃ y,vs=[y]∧∃ (p:Addr) (ns:List Int) (d:Int),x=.ref p∧y=.int d∧SqL X.K H2 p (ns.map V.int)∧Q (.int ((uF ns).getD d)) H2) I1
      (eD.weak q1 fun y H2 q=>⟨y,rfl,q⟩)) fun ws s2 ⟨zs,H2,I2,r2,y,q2,p,ns,d,ex,ey,hS,q3⟩=>?_
    subst q2
    obtain ⟨v,rfl,rv⟩:=vals1 r2
    subst ex ey
    obtain rfl:u=Value.ref p:=ru
    obtain ⟨td,rfl⟩:=(show ∃ t,v=Value.int d t from rv)
    obtain ⟨its,rl,pl,_⟩:=I2.list hS
    have hi:IntsAre its ns:=intsAre_of rl
    obtain ⟨xs,hx⟩:=hi.allInts.items
    have hns:ns=xs.toList.map (·.1):=by rw [← hi.numsOf,← nums_intItems,← hx]
    have hl':s2.heap.IsList p (intItems xs):=hx ▸ pl.isList
    have hnl:ns.length=xs.size:=by rw [hns,List.length_map,Array.length_toList]
    refine zU (I2.ok.hd hc) hl' (fun hz h' tk hk=>?_) fun hz v h' tk hv hk=>?_
    · rw [yx (by omega) d] at q3
      exact ⟨.int d,H2,I2.kept hk,⟨_,rfl⟩,q3⟩
    · obtain ⟨t,rfl⟩:=intItems_at hv
      obtain ⟨h1,h2⟩:=argBest_gt (numAt xs) (xs.size - 1)
      obtain ⟨m,em⟩:∃ m,uF ns=some m:=by
        cases ns with
        | nil=>simp at hnl; omega
        | cons _ _=>exact ⟨_,rfl⟩
      have e:numAt xs (argBest (fun i j=>decide (numAt xs i > numAt xs j)) (xs.size - 1))=m:=by
        refine Bv ?_ (fun b hb=>?_) em
        · rw [hns,numAt_eq]; exact getD_mem (by rw [List.length_map,Array.length_toList]; omega)
        · rw [hns] at hb
          obtain ⟨j,hj,rfl⟩:=mem_getD hb
          rw [List.length_map,Array.length_toList] at hj
          rw [← numAt_eq]; exact h2 j (by omega)
      rw [em] at q3
      exact ⟨.int m,H2,I2.kept hk,⟨_,by rw [← e]⟩,q3⟩
  exact key.imp fun σ H Q ⟨A,δ,R,o⟩=>g2.read (fun d1 d2 d x y H' A' Q' e' hA h1 h2 k=>by
    unfold vN at e'
    split at e'
    · rename_i l dd
      obtain ⟨ns,q,rfl⟩:=Option.map_eq_some_iff.mp e'
      obtain ⟨p,xs,rfl,hp,hx⟩:=h1.ofLst
      rw [dY q] at hx
      rw [hx.ofInts] at hp
      exact ⟨p,ns,dd,rfl,h2.ofInt,SqL.of (aY _ _ hp),k _ H' (aM.refl _) cL⟩
    · cases e') R o
end
end L2
namespace L2
open PySem PySem.Spec PyProof.Rows
theorem BA {K:PySem.W.Frag} {qual:Str} {st:Stmt} {ps:List Str} {f C:Addr} {oc:Value} {od an:Option Addr} {sl:Array (Option Value)} {kV dc pm cd ct:Value}
    (hb:∀ (kV doc pm:Value) (an:Option Addr) (cdv ct:Value) (us:List Value),us.length=ps.length→bindArgs (PySem.W.fnOf "__init__" qual (hZ st) (eV st) (aB st) .none kV doc pm an cdv ct) ⟨us,[]⟩=pure (ps.zip us))
    (a:PySem.W.findIn K (.ref C) "__init__"=some (some (.ref f))) (i:PySem.W.isFn K (.ref f)=true)
    (l:K.lookup f=some ⟨oc,od,.func (PySem.W.fnOf "__init__" qual (hZ st) (eV st) (aB st) .none kV dc pm an cd ct),sl⟩)
    (c:PySem.W.codeIn K cd qual=true) (k:PySem.W.keepIn K (.ref f)=true) (mk:PySem.W.makesIn K C=true) (kc:PySem.W.keepIn K (.ref C)=true):∃ f fd,Mk K C f∧Fun K "__init__" qual st f fd∧Binds K fd ps [] :=
  have F:=Ao (st:=st) l c k
  ⟨f,_,⟨mk,a,i,kc⟩,F,F.binds hb⟩
end L2
namespace L2
open PySem PySem.Spec PyProof.Rows
theorem pk {X:Cx} {e:Expr} {g:Ds→Rs Bool} (h:PCD X E0 e g):PTs X [e] (cD X.K E0 g):=.one h
end L2
namespace RS
open PySem
set_option genInjectivity true in
structure Er where
  every:Int
  due:Int
  late:Int
  parts:List (Int × Option Int)
noncomputable def bO:Option Int→PyData
  | none=>.none
  | some i=>.int i
noncomputable def aT (p:Int × Option Int):PyData:=.tuple [.int p.1,bO p.2]
noncomputable def Er.d (e:Er):PyData:=.tuple [.int e.every,.int e.due,.int e.late,.tuple (e.parts.map aT)]
noncomputable def av (es:List Er):PyData:=.tuple (es.map Er.d)
noncomputable def isWhole (d:PyData) (lo hi:Int):Bool:=match d with
  | .int i=>decide (lo≤i) && decide (i≤hi)
  | _=>false
noncomputable def cz (d:PyData) (lo hi:Int):Bool:=match d with
  | .tuple ds=>decide (lo≤(ds.length:Int)) && decide ((ds.length:Int)≤hi)
  | _=>false
noncomputable def dE (d:PyData):Bool:=match d with
  | .tuple [a,b]=>isWhole a 1 20 && (match b with | .none=>true | b=>isWhole b 0 3)
  | _=>false
noncomputable def jG (ds:List PyData):Bool:=match ds.getLast? with
  | some (.tuple [_,.none])=>true
  | _=>false
noncomputable def ej (d:PyData):Bool:=match d with
  | .tuple ds=>decide (1≤ds.length) && decide (ds.length≤4) && ds.all dE && jG ds
  | _=>false
noncomputable def b9 (d:PyData):Bool:=match d with
  | .tuple [.int e,du,.int l,ps]=>decide (2≤e) && decide (e≤60) && (decide (0≤l) && decide (l≤(if e - 1 < 20 then e - 1 else 20))) && isWhole du 1 (e - l) && ej ps
  | _=>false
noncomputable def cy (d:PyData):Bool:=match d with
  | .tuple ds=>decide (1≤ds.length) && decide (ds.length≤6) && ds.all b9
  | _=>false
structure Er.Ok (e:Er):Prop where
  e1:2≤e.every
  e2:e.every≤60
  l1:0≤e.late
  l2:e.late≤20
  l3:e.late < e.every
  d1:1≤e.due
  d2:e.due≤e.every - e.late
  p1:e.parts≠[]
  p2:e.parts.length≤4
  pl:∀ p∈e.parts,1≤p.1∧p.1≤20∧∀ t,p.2=some t→0≤t∧t≤3
  la:∀ p,e.parts.getLast?=some p→p.2=none
theorem zi {p:Int × Option Int} (h1:1≤p.1) (h2:p.1≤20) (h3:∀ t,p.2=some t→0≤t∧t≤3):dE (aT p)=true:=by
  obtain ⟨l,t⟩:=p
  cases t with
  | none=>simp [dE,aT,bO,isWhole,h1,h2]
  | some t =>
    obtain ⟨a,b⟩:=h3 t rfl
    simp [dE,aT,bO,isWhole,h1,h2,a,b]
theorem vd {e:Er} (h:e.Ok):b9 e.d=true:=by
  have hp:(e.parts.map aT).all dE=true:=by
    rw [List.all_eq_true]
    intro d hd
    obtain ⟨p,hp,rfl⟩:=List.mem_map.mp hd
    obtain ⟨a,b,c⟩:=h.pl p hp
    exact zi a b c
  have hl:jG (e.parts.map aT)=true:=by
    unfold jG
    rw [List.getLast?_map]
    cases q:e.parts.getLast? with
    | none=>exact absurd (List.getLast?_eq_none_iff.mp q) h.p1
    | some p =>
      obtain ⟨l,t⟩:=p
      have:t=none:=h.la _ q
      subst this
      rfl
  have hn:1≤e.parts.length:=by
    cases q:e.parts with
    | nil=>exact absurd q h.p1
    | cons _ _=>simp
  have h1:=h.e1; have h2:=h.e2; have h3:=h.l1; have h4:=h.l2; have h5:=h.l3; have h6:=h.d1; have h7:=h.d2; have h8:=h.p2
  have hl2:e.late≤if e.every - 1 < 20 then e.every - 1 else 20:=by split <;> omega
  simp [b9,Er.d,ej,isWhole,hp,hl,hn,h1,h2,h3,h6,h7,h8,hl2]
theorem fX {es:List Er} (h1:1≤es.length) (h2:es.length≤6) (h:∀ e∈es,e.Ok):cy (av es)=true:=by
  have hp:(es.map Er.d).all b9=true:=by
    rw [List.all_eq_true]
    intro d hd
    obtain ⟨e,he,rfl⟩:=List.mem_map.mp hd
    exact vd (h e he)
  simp [cy,av,h1,h2,hp]
noncomputable def cellAt (ns:List Int) (k:Int):Int :=
  if k < (ns.length:Int) then ns.getD k.toNat 0 else if ns=[] then 0 else ns.getD (k % (ns.length:Int)).toNat 0 * 31 + k
noncomputable def y3 (ns:List Int) (k:Int):Int:=(cellAt ns k + 7919 * k + 1) * 48271 % 2147483647
noncomputable def mixed (ns:List Int) (k many:Int):Int:=(y3 ns k * y3 ns k + 7 * y3 ns k + k) % 2147483629 % many
theorem B3 (ns:List Int) (k:Int):0≤y3 ns k:=Int.emod_nonneg _ (by decide)
theorem B0 (ns:List Int) (k:Int):y3 ns k < 2147483647:=Int.emod_lt_of_pos _ (by decide)
theorem de (ns:List Int) (k:Int) {many:Int} (h:0 < many):0≤mixed ns k many:=Int.emod_nonneg _ (by omega)
theorem dF (ns:List Int) (k:Int) {many:Int} (h:0 < many):mixed ns k many < many:=Int.emod_lt_of_pos _ h
noncomputable def l9 (i:Int):Option Int:=if i=0 then some 0 else if i=1 then some 1 else if i=2 then some 1 else if i=3 then some 0 else none
noncomputable def fu (ns:List Int) (j:Int) (tools:Bool):Int × Option Int:=(1 + mixed ns j 40 % 4,if tools then l9 (mixed ns j 40 / 4 % 5) else none)
noncomputable def jc (ns:List Int) (at' every:Int):Int :=
  if every - 1 < mixed ns (at' + 1) 4 * (if mixed ns (at' + 2) 3=0 then 1 else 0) then every - 1 else mixed ns (at' + 1) 4 * (if mixed ns (at' + 2) 3=0 then 1 else 0)
noncomputable def oN (ns:List Int) (at' due:Int):Int:=if mixed ns (at' + 1) 3=0 then due - mixed ns (at' + 2) due else due
noncomputable def mkE (ns:List Int) (at' top:Int) (tools:Bool):Er where
  every:=3 + mixed ns at' top
  late:=jc ns at' (3 + mixed ns at' top)
  due:=oN ns at' (3 + mixed ns at' top - jc ns at' (3 + mixed ns at' top))
  parts:=((List.range (mixed ns (at' + 3) 3).toNat).map fun (k:Nat)=>fu ns (at' + 4 + (k:Int)) tools)++[(1 + mixed ns (at' + 6) 3,none)]
noncomputable def o3 (ns:List Int) (at' most top:Int) (tools:Bool):List Er:=(List.range (1 + mixed ns at' most).toNat).map fun (k:Nat)=>mkE ns (at' + 1 + 7 * (k:Int)) top tools
theorem vn (ns:List Int) (at' every:Int) (h:3≤every):0≤jc ns at' every∧jc ns at' every≤3∧jc ns at' every < every:=by
  have h1:=de ns (at' + 1) (many:=4) (by decide)
  have h2:=dF ns (at' + 1) (many:=4) (by decide)
  unfold jc
  generalize mixed ns (at' + 1) 4=x at *
  by_cases hc:mixed ns (at' + 2) 3=0
  · simp only [hc,if_true,Int.mul_one]; split <;> omega
  · simp only [hc,if_false,Int.mul_zero]; split <;> omega
theorem Cp (ns:List Int) (at' due:Int) (h:1≤due):1≤oN ns at' due∧oN ns at' due≤due:=by
  have h1:=de ns (at' + 2) (many:=due) (by omega)
  have h2:=dF ns (at' + 2) (many:=due) (by omega)
  unfold oN
  split <;> omega
theorem B8 (i t:Int) (h:l9 i=some t):0≤t∧t≤1:=by
  unfold l9 at h
  repeat' split at h
  all_goals (first | (cases h; decide) | cases h)
theorem AV (ns:List Int) (j:Int) (tools:Bool):1≤(fu ns j tools).1∧(fu ns j tools).1≤4∧∀ t,(fu ns j tools).2=some t→0≤t∧t≤1:=by
  have h1:0≤mixed ns j 40 % 4:=Int.emod_nonneg _ (by decide)
  have h2:mixed ns j 40 % 4 < 4:=Int.emod_lt_of_pos _ (by decide)
  refine ⟨by unfold fu; simp only; omega,by unfold fu; simp only; omega,fun t h=>?_⟩
  unfold fu at h
  simp only at h
  cases tools with
  | false=>simp at h
  | true=>simp at h; exact B8 _ _ h
theorem Dr (ns:List Int) (at' top:Int) (tools:Bool) (h1:0 < top) (h2:top≤58):(mkE ns at' top tools).Ok:=by
  have a1:=de ns at' h1
  have a2:=dF ns at' h1
  have l:=vn ns at' (3 + mixed ns at' top) (by omega)
  have d:=Cp ns at' (3 + mixed ns at' top - jc ns at' (3 + mixed ns at' top)) (by omega)
  have n1:=de ns (at' + 3) (many:=3) (by decide)
  have n2:=dF ns (at' + 3) (many:=3) (by decide)
  have n3:=de ns (at' + 6) (many:=3) (by decide)
  have n4:=dF ns (at' + 6) (many:=3) (by decide)
  refine ⟨?_,?_,l.1,?_,l.2.2,d.1,d.2,?_,?_,?_,?_⟩
  · show 2≤3 + mixed ns at' top; omega
  · show 3 + mixed ns at' top≤60; omega
  · have:=l.2.1; show jc ns at' (3 + mixed ns at' top)≤20; omega
  · simp [mkE]
  · simp only [mkE,List.length_append,List.length_map,List.length_range,List.length_singleton]; omega
  · intro p hp
    simp only [mkE,List.mem_append,List.mem_map,List.mem_singleton] at hp
    rcases hp with ⟨k,_,rfl⟩ | rfl
    · have:=AV ns (at' + 4 + (k:Int)) tools
      refine ⟨this.1,by omega,fun t ht=>?_⟩
      have:=this.2.2 t ht
      omega
    · exact ⟨by simp only; omega,by simp only; omega,fun t ht=>by cases ht⟩
  · intro p hp
    simp only [mkE,List.getLast?_append,List.getLast?_singleton,Option.some_or] at hp
    cases hp; rfl
theorem zM (ns:List Int) (at' most top:Int) (tools:Bool) (h:0 < most):1≤(o3 ns at' most top tools).length∧((o3 ns at' most top tools).length:Int)≤most:=by
  have h1:=de ns at' h
  have h2:=dF ns at' h
  simp only [o3,List.length_map,List.length_range]
  omega
theorem Bq (ns:List Int) (at' most top:Int) (tools:Bool) (h1:0 < top) (h2:top≤58):∀ e∈o3 ns at' most top tools,e.Ok:=by
  intro e he
  simp only [o3,List.mem_map] at he
  obtain ⟨k,_,rfl⟩:=he
  exact Dr _ _ _ _ h1 h2
end RS
namespace RS
open PySem L2
structure Cs where
  RankError:Addr
  NoErrands:Addr
  NoRanks:Addr
  NoComings:Addr
  NoErrand:Addr
  NoNumber:Addr
  TooLong:Addr
  NoText:Addr
  Holding:Addr
  Jobs:Addr
noncomputable abbrev Gf:=List PyData→Rs PyData
noncomputable def aR (K:PySem.W.Frag) (mg:Str→Option Value) (x:Str) (st:Stmt) (ps:List Str):Prop:=∃ f fd,Fun K x x st f fd∧Binds K fd ps []∧mg x=some (.ref f)
noncomputable def iI (cs:Cs):Ds→Sr :=
  (bj (sIf (cOr (fF (gT (g1 (lg "int") (ah 0)))) (gT (g1 (lg "bool") (ah 0)))) (b0 (gC (.bool false))) b3)
    (b0 (nY dLe dLe (ah 1) (ah 0) (ah 2))))
noncomputable def iO (cs:Cs):Ds→Sr :=
  (b0 (zC (g1 (lg "tuple") (ah 0)) (nY dLe dLe (ah 1) (gF eN (af (ah 0) ar)) (ah 2))))
noncomputable def gx (cs:Cs) (aI aG:Gf):Ds→Sr :=
  (bj (sIf (cOr (fF (gT (ay aG (af (ah 0) (af (gC (.int 2)) (af (gC (.int 2)) ar)))))) (fF (gT (ay aI (af (g2 dIx (ah 0) (gC (.int 0))) (af (gC (.int 1)) (af (gC (.int 20)) ar))))))) (b0 (gC (.bool false))) b3)
    (b0 (gOr (g1 zl (g2 dIx (ah 0) (gC (.int 1)))) (ay aI (af (g2 dIx (ah 0) (gC (.int 1))) (af (gC (.int 0)) (af (g2 g5 (gC (.int 4)) (gC (.int 1))) ar)))))))
noncomputable def fw (cs:Cs) (aG gf_is_part:Gf):Ds→Sr :=
  (bj (sIf (cOr (fF (gT (ay aG (af (ah 0) (af (gC (.int 1)) (af (gC (.int 4)) ar)))))) (fF (gT (gF tD (af (gL (cq 1 (dR (ah 0)) cW (ay gf_is_part (af (ah 1) ar)) bU)) ar))))) (b0 (gC (.bool false))) b3)
    (b0 (g1 zl (g2 dIx (g2 dIx (ah 0) (g1 iR (gC (.int 1)))) (gC (.int 1))))))
noncomputable def dM (cs:Cs) (aI gf_are_parts aG:Gf):Ds→Sr :=
  (bj (sIf (fF (gT (ay aG (af (ah 0) (af (gC (.int 4)) (af (gC (.int 4)) ar)))))) (b0 (gC (.bool false))) b3)
    (bj (bp [] 1 (g2 dIx (ah 0) (gC (.int 0))))
    (bj (bp [] 2 (g2 dIx (ah 0) (gC (.int 1))))
    (bj (bp [] 3 (g2 dIx (ah 0) (gC (.int 2))))
    (bj (sIf (fF (gT (ay aI (af (ah 1) (af (gC (.int 2)) (af (gC (.int 60)) ar)))))) (b0 (gC (.bool false))) b3)
    (bj (sIf (fF (gT (ay aI (af (ah 3) (af (gC (.int 0)) (af (gF pH (af (gC (.int 20)) (af (g2 g5 (ah 1) (gC (.int 1))) ar))) ar)))))) (b0 (gC (.bool false))) b3)
    (b0 (zC (ay aI (af (ah 2) (af (gC (.int 1)) (af (g2 g5 (ah 1) (ah 3)) ar)))) (ay gf_are_parts (af (g2 dIx (ah 0) (gC (.int 3))) ar))))))))))
noncomputable def ib (cs:Cs) (aG gf_is_errand:Gf):Ds→Sr :=
  (bj (sIf (cOr (fF (gT (ay aG (af (ah 0) (af (gC (.int 1)) (af (gC (.int 6)) ar)))))) (fF (gT (gF tD (af (gL (cq 1 (dR (ah 0)) cW (ay gf_is_errand (af (ah 1) ar)) bU)) ar))))) (mz cs.NoErrands (af (gC (.str "errands are a tuple of 1 to 6 errands (every, due, late, parts)")) ar)) b3)
    (b0 (ah 0)))
noncomputable def cR (cs:Cs) (aG aI:Gf):Ds→Sr :=
  (bj (bp [] 2 (g2 g5 (gF eN (af (ah 0) ar)) (gC (.int 1))))
    (bj (sIf (cOr (fF (gT (ay aG (af (ah 1) (af (gF eN (af (ah 0) ar)) (af (gF eN (af (ah 0) ar)) ar)))))) (fF (gT (gF tD (af (gL (cq 3 (dR (ah 1)) cW (ay aI (af (ah 3) (af (gC (.int 0)) (af (ah 2) ar)))) bU)) ar))))) (mz cs.NoRanks (af (gC (.str "ranks are a tuple of the numbers of all errands")) ar)) b3)
    (bj (sIf (gT (g2 dLt (gF m9 (af (ah 1) ar)) (gF eN (af (ah 1) ar)))) (mz cs.NoRanks (af (gC (.str "ranks have each errand's number once")) ar)) b3)
    (b0 (ah 1)))))
noncomputable def dC (cs:Cs) (aI:Gf):Ds→Sr :=
  (bj (sIf (fF (gT (ay aI (af (ah 1) (af (gC (.int 0)) (af (g2 g5 (gF eN (af (ah 0) ar)) (gC (.int 1))) ar)))))) (mz cs.NoErrand (af (gC (.str "no errand has this number")) ar)) b3)
    (b0 (ah 1)))
noncomputable def fe (cs:Cs) (bf br ba:Gf):Ds→Sr :=
  (bj (nB (ay ba (af (ah 0) ar)))
    (bj (nB (ay br (af (ah 0) (af (ah 1) ar))))
    (nB (ay bf (af (ah 0) (af (ah 2) ar))))))
noncomputable def nU (cs:Cs):Ds→Sr :=
  (b0 (gF ze (af (gL (cq 1 (dR (g2 dIx (ah 0) (gC (.int 3)))) cW (g2 dIx (ah 1) (gC (.int 0))) bU)) ar)))
noncomputable def ij (cs:Cs):Ds→Sr :=
  (b0 (g2 (kP false) (ah 1) (gL (cq 2 (dR (g2 dIx (ah 0) (gC (.int 3)))) cW (g2 dIx (ah 2) (gC (.int 1))) bU))))
noncomputable def k4 (cs:Cs) (b7:Gf):Ds→Sr :=
  (bj (jC [] (pO (af (ah 1) ar)) (dG [3,4]) (sIf (gT (ay b7 (af (g2 dIx (ah 0) (ah 4)) (af (ah 2) ar)))) (b0 (ah 3)) b3))
    (b0 (gC .none)))
noncomputable def fR (cs:Cs) (cI:Gf):Ds→Sr :=
  (b0 (gL (cq 2 (gv (af (gC (.int 4)) ar)) cW (ay cI (af (ah 0) (af (ah 1) (af (ah 2) ar)))) bU)))
noncomputable def iP (cs:Cs) (bX:Gf):Ds→Sr :=
  (bj (bp [5] 3 (rg (ah 1) (ah 2)))
    (bj (bp [5] 4 (ay bX (af (ah 0) (af (ah 1) ar))))
    (bj (lR [5] 5 ar)
    (bj (jC [5] (dR (c8 (ah 1) (eX (g2 bb (ah 3) (gC (.int 1)))) cB)) (cn 6) (jC [5] (pO (af (g2 dIx (g2 dIx (ah 0) (ah 6)) (gC (.int 3))) ar)) (dG [7,8]) (sIf (uc (gT (g1 fv (g2 dIx (ah 8) (gC (.int 1))))) (gT (g2 dLe (g2 dIx (ah 4) (g2 dIx (ah 8) (gC (.int 1)))) (ah 3)))) (nK [5] 5 (ay (u7 cs.Holding ["number", "part", "tool", "times"]) (af (ah 6) (af (ah 7) (af (g2 dIx (ah 8) (gC (.int 1))) (af (g2 g5 (g2 dIx (ah 8) (gC (.int 0))) (gC (.int 1))) ar)))))) b3)))
    (b0 (ah 5))))))
noncomputable def eo (cs:Cs) (ck:Gf):Ds→Sr :=
  (b0 (g2 vN (gL (cq 3 (dR (ay ck (af (ah 0) (af (ah 1) (af (ah 2) ar))))) cW (g1 (pI cs.Holding "times") (ah 3)) bU)) (gC (.int 0))))
noncomputable def fW (cs:Cs):Ds→Sr :=
  (b0 (g2 tL (g2 g5 (g2 bb (ah 0) (ah 1)) (gC (.int 1))) (ah 1)))
noncomputable def pY (cs:Cs) (gf_work_of bG:Gf):Ds→Sr :=
  (bj (bp [] 5 (g2 bb (ah 3) (ay gf_work_of (af (g2 dIx (ah 0) (ah 2)) ar))))
    (bj (jC [] (dR (c8 (ah 1) cB (eX (rg (ah 1) (ah 2))))) (cn 6) (bj (bp [] 7 (g2 dIx (ah 0) (ah 6)))
    (tT [] 5 (g2 mY (ay gf_work_of (af (ah 7) ar)) (ay bG (af (g2 bb (ah 4) (g2 dIx (ah 7) (gC (.int 2)))) (af (g2 dIx (ah 7) (gC (.int 0))) ar)))))))
    (b0 (ah 5))))
noncomputable def gP (cs:Cs) (cK:Gf):Ds→Sr :=
  (bj (bp [5] 4 (g2 g5 (g2 dIx (g2 dIx (ah 0) (ah 2)) (gC (.int 0))) (g2 dIx (g2 dIx (ah 0) (ah 2)) (gC (.int 2)))))
    (bj (lR [5] 5 ar)
    (bj (bp [5] 6 (ay cK (af (ah 0) (af (ah 1) (af (ah 2) (af (ah 3) (af (gC (.int 1)) ar)))))))
    (bj (fun δ=>cX (gT (g2 dLe (ah 6) (ah 4))) (bj (nK [5] 5 (ah 6))
    (bj (bp [5] 7 (ay cK (af (ah 0) (af (ah 1) (af (ah 2) (af (ah 3) (af (ah 6) ar)))))))
    (bj (sIf (gT (g2 dEq (ah 7) (ah 6))) (b0 (ah 5)) b3)
    (bp [5] 6 (ah 7))))) 1000000 δ)
    (b0 (gC .none))))))
noncomputable def eO (cs:Cs) (cg:Gf):Ds→Sr :=
  (bj (bp [] 4 (ay cg (af (ah 0) (af (ah 1) (af (ah 2) (af (ah 3) ar))))))
    (b0 (gIf (gT (g1 zl (ah 4))) (gC .none) (g2 dIx (ah 4) (g1 iR (gC (.int 1)))))))
noncomputable def dj (cs:Cs) (bK b6:Gf):Ds→Sr :=
  (b0 (ay b6 (af (ah 0) (af (ah 1) (af (ah 2) (af (ay bK (af (ah 0) (af (ah 1) (af (ah 2) ar)))) ar))))))
noncomputable def gG (cs:Cs) (bg:Gf):Ds→Sr :=
  (bj (bp [] 4 (ay bg (af (ah 0) (af (ah 1) (af (ah 2) ar)))))
    (b0 (zC (g1 fv (ah 4)) (g2 dLe (g2 bb (ah 4) (ah 3)) (g2 dIx (g2 dIx (ah 0) (ah 2)) (gC (.int 1)))))))
noncomputable def fE (cs:Cs) (bq:Gf):Ds→Sr :=
  (b0 (ay bq (af (ah 0) (af (ah 1) (af (ah 2) (af (gC (.int 0)) ar))))))
noncomputable def fO (cs:Cs) (ak:Gf):Ds→Sr :=
  (bj (bp [7] 4 (g2 bb (gC (.int 3)) (ay ak (af (ah 0) (af (ah 1) (af (ah 2) ar))))))
    (bj (bp [7] 5 (g2 mY (ay ak (af (ah 0) (af (g2 bb (ah 1) (gC (.int 1))) (af (gC (.int 4)) ar)))) (gF uD (af (g2 dEq (ay ak (af (ah 0) (af (g2 bb (ah 1) (gC (.int 2))) (af (gC (.int 3)) ar)))) (gC (.int 0))) ar))))
    (bj (bp [7] 5 (gF pH (af (ah 5) (af (g2 g5 (ah 4) (gC (.int 1))) ar))))
    (bj (bp [7] 6 (g2 g5 (ah 4) (ah 5)))
    (bj (sIf (gT (g2 dEq (ay ak (af (ah 0) (af (g2 bb (ah 1) (gC (.int 1))) (af (gC (.int 3)) ar)))) (gC (.int 0)))) (bp [7] 6 (g2 g5 (ah 6) (ay ak (af (ah 0) (af (g2 bb (ah 1) (gC (.int 2))) (af (ah 6) ar)))))) b3)
    (bj (lR [7] 7 ar)
    (bj (jC [7] (gv (af (ay ak (af (ah 0) (af (g2 bb (ah 1) (gC (.int 3))) (af (gC (.int 3)) ar)))) ar)) (cn 8) (bj (bp [7] 9 (ay ak (af (ah 0) (af (g2 bb (g2 bb (ah 1) (gC (.int 4))) (ah 8)) (af (gC (.int 40)) ar)))))
    (bj (nK [7] 7 (fj (af (g2 bb (gC (.int 1)) (g2 o5 (ah 9) (gC (.int 4)))) (af (g2 dIx (tw (af (gC (.int 0)) (af (gC (.int 1)) (af (gC (.int 1)) (af (gC (.int 0)) (af (gC .none) ar)))))) (g2 o5 (g2 tL (ah 9) (gC (.int 4))) (gC (.int 5)))) ar))))
    (sIf (fF (gT (ah 3))) (qR 7 (g1 iR (gC (.int 1))) (fj (af (g2 dIx (g2 dIx (ah 7) (g1 iR (gC (.int 1)))) (gC (.int 0))) (af (gC .none) ar)))) b3))))
    (b0 (fj (af (ah 4) (af (ah 6) (af (ah 5) (af (gF jY (af (g2 bb (ah 7) (tw (af (fj (af (g2 bb (gC (.int 1)) (ay ak (af (ah 0) (af (g2 bb (ah 1) (gC (.int 6))) (af (gC (.int 3)) ar))))) (af (gC .none) ar))) ar))) ar)) ar)))))))))))))
noncomputable def ff (cs:Cs) (bY ak:Gf):Ds→Sr :=
  (bj (bp [] 5 (g2 bb (gC (.int 1)) (ay ak (af (ah 0) (af (ah 1) (af (ah 2) ar))))))
    (b0 (gF jY (af (gL (cq 6 (gv (af (ah 5) ar)) cW (ay bY (af (ah 0) (af (g2 bb (g2 bb (ah 1) (gC (.int 1))) (g2 mY (gC (.int 7)) (ah 6))) (af (ah 3) (af (ah 4) ar))))) bU)) ar))))
noncomputable def gJ (cs:Cs) (ak:Gf):Ds→Sr :=
  (bj (lR [3,4] 3 (gLR (af (ah 2) ar)))
    (bj (lR [3,4] 4 ar)
    (bj (jC [3,4] (gv (af (ah 2) ar)) (cn 5) (jO 4 3 (ay ak (af (ah 0) (af (g2 bb (ah 1) (ah 5)) (af (gF eN (af (ah 3) ar)) ar))))))
    (b0 (gF jY (af (ah 4) ar))))))
noncomputable def e9 (cs:Cs):Ds→Sr :=
  (bj (lR [2] 2 (af (gC .none) (af (gC .none) (af (gC .none) (af (gC .none) ar)))))
    (bj (jC [2] (xC (af (g2 g5 (gF eN (af (ah 1) ar)) (gC (.int 1))) (af (g1 iR (gC (.int 1))) (af (g1 iR (gC (.int 1))) ar)))) (cn 3) (jC [2] (dR (g2 dIx (g2 dIx (ah 0) (g2 dIx (ah 1) (ah 3))) (gC (.int 3)))) (dG [4,5]) (sIf (gT (g1 fv (ah 5))) (qR 2 (ah 5) (ah 3)) b3)))
    (b0 (ah 2))))
noncomputable def iE (cs:Cs) (bP:Gf):Ds→Sr :=
  (bj (bp [] 3 (rg (ah 1) (ah 2)))
    (bj (bp [] 4 (ay bP (af (ah 0) (af (ah 1) ar))))
    (bj (bp [] 5 (gC (.int 0)))
    (bj (jC [] (dR (c8 (ah 1) (eX (g2 bb (ah 3) (gC (.int 1)))) cB)) (cn 6) (jC [] (dR (g2 dIx (g2 dIx (ah 0) (ah 6)) (gC (.int 3)))) (dG [7,8]) (sIf (uc (gT (g1 fv (ah 8))) (gT (g2 dLe (g2 dIx (ah 4) (ah 8)) (ah 3)))) (bp [] 5 (gF qu (af (ah 5) (af (g2 g5 (ah 7) (gC (.int 1))) ar)))) b3)))
    (b0 (ah 5))))))
noncomputable def ka (cs:Cs):Ds→Sr :=
  (b0 (gF ze (af (gL (cq 1 (dR (g2 dIx (ah 0) (gC (.int 3)))) cW (g2 dIx (ah 1) (gC (.int 0))) bU)) ar)))
noncomputable def ir (cs:Cs) (bh b5:Gf):Ds→Sr :=
  (bj (bp [] 4 (g2 bb (ay b5 (af (ah 0) (af (ah 1) (af (ah 2) ar)))) (ay bh (af (g2 dIx (ah 0) (ah 2)) ar))))
    (bj (jC [] (dR (c8 (ah 1) cB (eX (rg (ah 1) (ah 2))))) (cn 5) (bj (sS [] (dG [6,7,8,9]) (g2 dIx (ah 0) (ah 5)))
    (bj (bp [] 10 (g2 bb (g2 tL (g2 bb (ah 3) (ah 8)) (ah 6)) (gF uD (af (g2 dGt (g2 o5 (g2 bb (ah 3) (ah 8)) (ah 6)) (gC (.int 0))) ar))))
    (bp [] 4 (g2 bb (ah 4) (g2 mY (ah 10) (ay bh (af (g2 dIx (ah 0) (ah 5)) ar))))))))
    (b0 (ah 4))))
noncomputable def e8 (cs:Cs) (cj:Gf):Ds→Sr :=
  (bj (jC [] (yc (af (gC (.int 1)) (af (g2 bb (g2 g5 (g2 dIx (g2 dIx (ah 0) (ah 2)) (gC (.int 0))) (g2 dIx (g2 dIx (ah 0) (ah 2)) (gC (.int 2)))) (gC (.int 1))) ar))) (cn 3) (sIf (gT (g2 dLe (ay cj (af (ah 0) (af (ah 1) (af (ah 2) (af (ah 3) ar))))) (ah 3))) (b0 (ah 3)) b3))
    (b0 (gC .none)))
noncomputable def d6 (cs:Cs) (bT:Gf):Ds→Sr :=
  (bj (bp [] 3 (ay bT (af (ah 0) (af (ah 1) (af (ah 2) ar)))))
    (b0 (zC (g1 fv (ah 3)) (g2 dLe (ah 3) (g2 dIx (g2 dIx (ah 0) (ah 2)) (gC (.int 1)))))))
end RS
set_option maxRecDepth 100000
set_option maxHeartbeats 1000000
namespace RS
open PySem L2
theorem Ca {O:List Nat} {δ:Ds} {i:Nat} (h:i ∉ O):(mask O δ)[i]?=δ[i]?:=by
  unfold mask
  by_cases z:O=[]
  · rw [if_pos z]
  · rw [if_neg z,List.getElem?_mapIdx]
    cases δ[i]? with
    | none=>rfl
    | some d=>simp [h]
theorem aJ {O:List Nat} {δ:Ds} {i:Nat} (h:i ∉ O):ah i (mask O δ)=ah i δ:=by unfold ah; rw [Ca h]
@[simp] theorem az (d:PyData) (δ:Ds):ah 0 (some d::δ)=.ok d:=rfl
@[simp] theorem aA (i:Nat) (x:Option PyData) (δ:Ds):ah (i + 1) (x::δ)=ah i δ:=rfl
@[simp] theorem dB (d:PyData) (δ:Ds):gC d δ=.ok d:=rfl
@[simp] theorem sM (f:PyData→Option PyData) (a:Ds→Rs PyData) (δ:Ds):g1 f a δ=(a δ).bind fun x=>Rs.gu (f x):=rfl
@[simp] theorem cF (f:PyData→PyData→Option PyData) (a b:Ds→Rs PyData) (δ:Ds):g2 f a b δ=(a δ).bind fun x=>(b δ).bind fun y=>Rs.gu (f x y):=rfl
@[simp] theorem nG (f:List PyData→Option PyData) (a:Ds→Rs (List PyData)) (δ:Ds):gF f a δ=(a δ).bind fun x=>Rs.gu (f x):=rfl
@[simp] theorem aX (δ:Ds):ar δ=.ok []:=rfl
@[simp] theorem aO (a:Ds→Rs PyData) (r:Ds→Rs (List PyData)) (δ:Ds):af a r δ=(a δ).bind fun x=>(r δ).bind fun xs=>.ok (x::xs):=rfl
@[simp] theorem j9 (a:Ds→Rs (List PyData)) (δ:Ds):fj a δ=(a δ).bind fun ds=>.ok (.tuple ds):=rfl
@[simp] theorem sZ (a:Ds→Rs (List PyData)) (δ:Ds):tw a δ=(a δ).bind fun ds=>.ok (.list ds):=rfl
@[simp] theorem bu (f:Gf) (a:Ds→Rs (List PyData)) (δ:Ds):ay f a δ=(a δ).bind f:=rfl
@[simp] theorem kB (a:Ds→Rs PyData) (δ:Ds):gT a δ=(a δ).bind truth:=rfl
@[simp] theorem c7 (b:Bool):truth (.bool b)=.ok b:=rfl
@[simp] theorem pJ (a:Ds→Rs Bool) (δ:Ds):fF a δ=(a δ).bind fun b=>.ok (!b):=rfl
@[simp] theorem FD (a b:Ds→Rs Bool) (δ:Ds):uc a b δ=(a δ).bind fun x=>if x=true then b δ else .ok false:=rfl
@[simp] theorem Em (a b:Ds→Rs Bool) (δ:Ds):cOr a b δ=(a δ).bind fun x=>if x=true then .ok true else b δ:=rfl
@[simp] theorem Fi (a b:Ds→Rs PyData) (δ:Ds):zC a b δ=(a δ).bind fun x=>(truth x).bind fun t=>if t=true then b δ else .ok (.bool false):=rfl
@[simp] theorem FY (a b:Ds→Rs PyData) (δ:Ds):gOr a b δ=(a δ).bind fun x=>(truth x).bind fun t=>if t=true then .ok (.bool true) else b δ:=rfl
@[simp] theorem FV (a:Ds→Rs PyData) (δ:Ds):FT a δ=(a δ).bind fun x=>(truth x).bind fun t=>.ok (.bool (!t)):=rfl
@[simp] theorem tG (a:Ds→Rs (List PyData)) (δ:Ds):gL a δ=(a δ).bind fun ds=>.ok (.list ds):=rfl
@[simp] theorem mn (a:Ds→Rs PyData) (δ:Ds):dR a δ=(a δ).bind yj:=rfl
@[simp] theorem FW (ds:List PyData):yj (.list ds)=.ok ds:=rfl
@[simp] theorem oC (ds:List PyData):yj (.tuple ds)=.ok ds:=rfl
@[simp] theorem lF (a:Ds→Rs (List PyData)) (δ:Ds):gv a δ=(a δ).bind B6:=rfl
@[simp] theorem Cn (a:Ds→Rs (List PyData)) (δ:Ds):yc a δ=(a δ).bind Dk:=rfl
@[simp] theorem BV (a:Ds→Rs (List PyData)) (δ:Ds):xC a δ=(a δ).bind zE:=rfl
@[simp] theorem E9 (a:Ds→Rs (List PyData)) (δ:Ds):gLR a δ=(a δ).bind um:=rfl
@[simp] theorem yu (a:Ds→Rs (List PyData)) (δ:Ds):pO a δ=(a δ).bind qE:=rfl
@[simp] theorem Ff (ds:List PyData):qE [.list ds]=.ok (lS ds):=rfl
@[simp] theorem xB (ds:List PyData):qE [.tuple ds]=.ok (lS ds):=rfl
@[simp] theorem Eu (f f':PyData→PyData→Option PyData) (a b c:Ds→Rs PyData) (δ:Ds):nY f f' a b c δ=(a δ).bind fun x=>(b δ).bind fun y=>(Rs.gu (f x y)).bind fun z=>(truth z).bind fun t=>if t=true then (c δ).bind fun w=>Rs.gu (f' y w) else .ok (.bool false):=rfl
@[simp] theorem eU (δ:Ds):cB δ=.ok none:=rfl
@[simp] theorem h9 (g:Ds→Rs PyData) (δ:Ds):eX g δ=(g δ).bind Aj:=rfl
@[simp] theorem hW (i:Int):Aj (.int i)=.ok (some i):=rfl
@[simp] theorem fT (g:Ds→Rs PyData) (lo hi:Ds→Rs (Option Int)) (δ:Ds):c8 g lo hi δ=(g δ).bind fun d=>(lo δ).bind fun l=>(hi δ).bind fun h=>Rs.gu (yZ d l h):=rfl
@[simp] theorem Fz (x:List PyData) (lo hi:Option Int):yZ (.list x) lo hi=some (.list (cutD x lo hi)):=rfl
@[simp] theorem jW (x:List PyData) (lo hi:Option Int):yZ (.tuple x) lo hi=some (.tuple (cutD x lo hi)):=rfl
@[simp] theorem aZ (a b:Ds→Sr) (δ:Ds):bj a b δ=match a δ with | .nx δ'=>b δ' | r=>r:=rfl
@[simp] theorem mW (δ:Ds):b3 δ=.nx δ:=rfl
@[simp] theorem lY (c:Ds→Rs Bool) (a b:Ds→Sr) (δ:Ds):sIf c a b δ=ofR (c δ) fun t=>if t=true then a δ else b δ:=rfl
@[simp] theorem cN (g:Ds→Rs PyData) (δ:Ds):b0 g δ=ofR (g δ) .rt:=rfl
@[simp] theorem xK (g:Ds→Rs PyData) (δ:Ds):nB g δ=ofR (g δ) fun _=>.nx δ:=rfl
@[simp] theorem dk (i:Nat) (g:Ds→Rs PyData) (δ:Ds):bp [] i g δ=if i < δ.length then ofR (g δ) fun d=>.nx (δ.set i (some d)) else .no:=by unfold bp; rw [dZ]
@[simp] theorem Ek (C:Addr) (gs:Ds→Rs (List PyData)) (δ:Ds):mz C gs δ=ofR (gs δ) fun _=>.rz C:=rfl
theorem fS (O:List Nat) (src:Ds→Rs (List PyData)) (tgt:PyData→Ds→Option Ds) (body:Ds→Sr) (δ:Ds):jC O src tgt body δ=ofR (src (mask O δ)) fun ds=>forL tgt body ds δ:=rfl
@[simp] theorem bV (d:PyData):aV (.rt d)=.ok d:=rfl
@[simp] theorem Eh (δ:Ds):aV (.nx δ)=.ok .none:=rfl
@[simp] theorem Ei (C:Addr):aV (.rz C)=.rz C:=rfl
@[simp] theorem Ej:aV .no=.no:=rfl
@[simp] theorem dD (a b:Int):bb (.int a) (.int b)=some (.int (a + b)):=rfl
@[simp] theorem oE (a b:Int):g5 (.int a) (.int b)=some (.int (a - b)):=rfl
@[simp] theorem CB (a b:Int):o5 (.int a) (.int b)=if 0 < b then some (.int (a % b)) else none:=rfl
@[simp] theorem zI (a b:Int):tL (.int a) (.int b)=if 0 < b∧b < 1073741824 then some (.int (a / b)) else none:=rfl
@[simp] theorem FF (a b:Int):dLt (.int a) (.int b)=some (.bool (decide (a < b))):=rfl
@[simp] theorem FA (a b:Int):dLe (.int a) (.int b)=some (.bool (decide (a≤b))):=rfl
@[simp] theorem Fy (a b:Int):dGt (.int a) (.int b)=some (.bool (decide (b < a))):=rfl
@[simp] theorem F0 (a b:Int):dGe (.int a) (.int b)=some (.bool (decide (b≤a))):=rfl
@[simp] theorem vV (a:Int):iR (.int a)=some (.int (-a)):=rfl
@[simp] theorem FX (d:PyData):zl d=some (.bool (gI d)):=rfl
@[simp] theorem A9 (d:PyData):fv d=some (.bool (!gI d)):=rfl
@[simp] theorem zZ:gI .none=true:=rfl
@[simp] theorem y0 (i:Int):gI (.int i)=false:=rfl
@[simp] theorem lV (x:List PyData) (i:Int):dIx (.tuple x) (.int i)=atI x i:=rfl
@[simp] theorem CM (x:List PyData) (i:Int):dIx (.list x) (.int i)=atI x i:=rfl
@[simp] theorem tE (x:List PyData):eN [.tuple x]=some (.int x.length):=rfl
@[simp] theorem DN (x:List PyData):eN [.list x]=some (.int x.length):=rfl
@[simp] theorem C1 (a b:Int):pH [.int a,.int b]=some (.int (if b < a then b else a)):=rfl
@[simp] theorem Fw (a b:Int):qu [.int a,.int b]=some (.int (if b > a then b else a)):=rfl
@[simp] theorem Ah (b:Bool):uD [.bool b]=some (.int (if b then 1 else 0)):=rfl
@[simp] theorem wN (x:List PyData):jY [.list x]=some (.tuple x):=rfl
@[simp] theorem Fn (x:List PyData):jY [.tuple x]=some (.tuple x):=rfl
@[simp] theorem rO (a b:Int):dEq (.int a) (.int b)=some (.bool (a == b)):=by
  have h:∀ i:Int,PySem.SeqAt.shaped (.int i)=true:=fun i=>by simp [PySem.SeqAt.shaped,PyData.canLay0,PyData.depth]
  unfold dEq; rw [h,h]; simp [bS,PyData.eqv]
@[simp] theorem ES (a b:Int):dNe (.int a) (.int b)=some (.bool (!(a == b))):=by
  have h:∀ i:Int,PySem.SeqAt.shaped (.int i)=true:=fun i=>by simp [PySem.SeqAt.shaped,PyData.canLay0,PyData.depth]
  unfold dNe; rw [h,h]; simp [bS,PyData.eqv]
theorem mx {α:Type} {xs:List α} {i:Int} {j:Nat} (h:i=j):atI xs i=xs[j]?:=by
  subst h
  unfold atI ixN
  by_cases z:(j:Int) < xs.length
  · rw [if_pos (by omega),if_pos z]; simp
  · rw [if_pos (by omega),if_neg z]
    simp; omega
@[simp] theorem Fq {α:Type} (xs:List α):atI xs 0=xs[0]?:=mx (j:=0) rfl
@[simp] theorem FZ {α:Type} (xs:List α):atI xs 1=xs[1]?:=mx (j:=1) rfl
@[simp] theorem FN {α:Type} (xs:List α):atI xs 2=xs[2]?:=mx (j:=2) rfl
@[simp] theorem F2 {α:Type} (xs:List α):atI xs 3=xs[3]?:=mx (j:=3) rfl
theorem ju {α:Type} (xs:List α):atI xs (-1)=xs.getLast?:=by
  unfold atI ixN
  rw [if_neg (by decide)]
  by_cases z:xs=[]
  · subst z; rfl
  · have:0 < xs.length:=List.length_pos_iff.mpr z
    rw [if_pos (by omega),List.getLast?_eq_getElem?]
    simp only [Option.bind_some]
    congr 1
    omega
theorem qA {α:Type} (g:α→Bool) (xs:List α):tD [.list (xs.map fun d=>.bool (g d))]=some (.bool (xs.all g)):=by
  have hb:iC (xs.map fun d=>PyData.bool (g d))=some (xs.map g):=by
    rw [show (xs.map fun d=>PyData.bool (g d))=(xs.map g).map PyData.bool by rw [List.map_map]; rfl]
    exact mq _
  show (iC (xs.map fun d=>PyData.bool (g d))).map (fun ns=>PyData.bool (ns.all id))=_
  rw [hb,Option.map_some,List.all_map]; rfl
theorem Ad {α:Type} (g:α→Int) (xs:List α):ze [.list (xs.map fun d=>.int (g d))]=some (.int (xs.map g).sum):=by
  have hb:gO (xs.map fun d=>PyData.int (g d))=some (xs.map g):=by
    rw [show (xs.map fun d=>PyData.int (g d))=(xs.map g).map PyData.int by rw [List.map_map]; rfl]
    exact d5 _
  show (gO (xs.map fun d=>PyData.int (g d))).map (fun ns=>PyData.int ns.sum)=_
  rw [hb,Option.map_some]
theorem comp_map {elt:Ds→Rs PyData} {δ:Ds} {f:PyData→PyData}:∀ (ds:List PyData),(∀ d∈ds,elt (δ++[some d])=.ok (f d))→iF cW elt bU δ ds=.ok (ds.map f)
  | [],_=>rfl
  | d::r,h=>by
    unfold iF
    simp only [bU,cW,Rs.kv,Rs.aj,if_true,h d List.mem_cons_self,comp_map r fun e he=>h e (List.mem_cons_of_mem _ he),List.map_cons]
theorem eK {n0:Nat} {src:Ds→Rs (List PyData)} {elt:Ds→Rs PyData} {δ:Ds} {f:PyData→PyData} {ds:List PyData} (hn:δ.length=n0) (hs:src δ=.ok ds) (hl:ds.length≤1000000) (h:∀ d∈ds,elt (δ++[some d])=.ok (f d)) :
    cq n0 src cW elt bU δ=.ok (ds.map f):=by
  unfold cq
  rw [if_pos hn,hs]
  simp only [Rs.aj,if_pos hl]
  exact comp_map ds h
theorem qd:∀ {ds:List PyData},jf ds=true→∀ d∈ds,bS d=true
  | [],_,d,hd=>by cases hd
  | e::r,h,d,hd=>by
    unfold jf at h
    obtain ⟨h1,h2⟩:=Bool.and_eq_true_iff.mp h
    rcases List.mem_cons.mp hd with z | z
    · rw [z]; exact h1
    · exact qd h2 d z
theorem eP {ds:List PyData} (h:bS (.tuple ds)=true):∀ d∈ds,bS d=true:=by
  unfold bS at h; exact qd h
end RS
set_option maxRecDepth 100000
set_option maxHeartbeats 1000000
namespace RS
open PySem L2
noncomputable def aI:Gf
  | [d,.int a,.int b]=>if bS d then .ok (.bool (isWhole d a b)) else .no
  | _=>.no
theorem lu {f:PyData→Int→Int→Rs PyData} {ds:List PyData} (h:(match ds with | [x0,.int x1,.int x2]=>f x0 x1 x2 | _=>.no)≠.no):∃ x0 x1 x2,ds=[x0,.int x1,.int x2]∧f x0 x1 x2≠.no:=by
  rcases ds with _ | ⟨x0,_ | ⟨x1,_ | ⟨x2,_ | ⟨y,ys⟩⟩⟩⟩
  · exact absurd rfl h
  · exact absurd rfl h
  · first | exact absurd rfl h | (cases x1 <;> exact absurd rfl h)
  · skip
    cases x1 with
    | int x1 =>
      cases x2 with
      | int x2 =>
        exact ⟨_,_,_,rfl,h⟩
      | _=>exact absurd rfl h
    | _=>first | exact absurd rfl h | (cases x2 <;> exact absurd rfl h)
  · first | exact absurd rfl h | (cases x1 <;> first | exact absurd rfl h | (cases x2 <;> exact absurd rfl h))
theorem xm (cs:Cs):∀ ds,ds.length=3→aI ds≠.no→aV (iI cs (ds.map some++List.replicate 0 none))=aI ds:=by
  intro ds hl hne
  obtain ⟨d,a,b,ez,hz⟩:=lu hne
  clear hne; subst ez; have hne:=hz; clear hz
  unfold aI
  · skip
    split at hne
    · rename_i hd
      simp only [hd,if_true]
      cases d with
      | int i=>by_cases h:a≤i <;> simp [iI,lg,hd,tK,tyD,isWhole,h]
      | dict _=>simp [bS] at hd
      | _=>simp [iI,lg,hd,tK,tyD,isWhole]
    · exact absurd rfl hne
noncomputable def aG:Gf
  | [d,.int a,.int b]=>if bS d then .ok (.bool (cz d a b)) else .no
  | _=>.no
theorem wq (cs:Cs):∀ ds,ds.length=3→aG ds≠.no→aV (iO cs (ds.map some++List.replicate 0 none))=aG ds:=by
  intro ds hl hne
  obtain ⟨d,a,b,ez,hz⟩:=lu hne
  clear hne; subst ez; have hne:=hz; clear hz
  unfold aG
  · skip
    split at hne
    · rename_i hd
      simp only [hd,if_true]
      cases d with
      | tuple x=>by_cases h:a≤(x.length:Int) <;> simp [iO,lg,hd,tK,tyD,cz,h]
      | dict _=>simp [bS] at hd
      | _=>simp [iO,lg,hd,tK,tyD,cz]
    · exact absurd rfl hne
noncomputable def g7 (g:PyData→Bool):Gf
  | [d]=>if bS d then .ok (.bool (g d)) else .no
  | _=>.no
theorem qC {g:PyData→Bool} {ds:List PyData} (h:g7 g ds≠.no):∃ d,ds=[d]∧bS d=true∧g7 g ds=.ok (.bool (g d)):=by
  unfold g7 at h ⊢
  split at h
  · rename_i d
    split at h
    · rename_i hd; exact ⟨d,rfl,hd,by simp [hd]⟩
    · exact absurd rfl h
  · exact absurd rfl h
theorem p5 {g:PyData→Bool} {d:PyData} (h:bS d=true):g7 g [d]=.ok (.bool (g d)):=by unfold g7; simp [h]
@[simp] theorem Eg {d:PyData} {a b:Int} (h:bS d=true):aG [d,.int a,.int b]=.ok (.bool (cz d a b)):=by unfold aG; simp [h]
@[simp] theorem CI {d:PyData} {a b:Int} (h:bS d=true):aI [d,.int a,.int b]=.ok (.bool (isWhole d a b)):=by unfold aI; simp [h]
theorem uK {d:PyData} (h:cz d 2 2=true):∃ a b,d=.tuple [a,b]:=by
  cases d with
  | tuple ds =>
    simp [cz] at h
    match ds,h with
    | [a,b],_=>exact ⟨a,b,rfl⟩
    | [],h=>simp at h
    | [_],h=>simp at h
    | _::_::_::_,h=>simp at h; omega
  | _=>cases h
theorem yM (cs:Cs):∀ ds,ds.length=1→g7 dE ds≠.no→aV (gx cs aI aG (ds.map some++List.replicate 0 none))=g7 dE ds:=by
  intro ds hl hne
  obtain ⟨d,rfl,hd,e⟩:=qC hne
  rw [e]
  cases e1:cz d 2 2 with
  | false =>
    have:dE d=false:=by
      unfold dE
      split
      · simp [cz] at e1
      · rfl
    simp [gx,hd,e1,this]
  | true =>
    obtain ⟨a,b,rfl⟩:=uK e1
    have ha:=eP hd a (by simp)
    have hb:=eP hd b (by simp)
    cases e2:isWhole a 1 20 with
    | false=>simp [gx,hd,ha,e1,e2,dE]
    | true =>
      cases b with
      | none=>simp [gx,hd,ha,e1,e2,dE]
      | _=>simp [gx,hd,ha,hb,e1,e2,dE,gI]
theorem uI (cs:Cs):∀ ds,ds.length=1→g7 ej ds≠.no→aV (fw cs aG (g7 dE) (ds.map some++List.replicate 0 none))=g7 ej ds:=by
  intro ds hl hne
  obtain ⟨d,rfl,hd,e⟩:=qC hne
  rw [e]
  cases e1:cz d 1 4 with
  | false =>
    have:ej d=false:=by
      cases d with
      | tuple ds =>
        simp only [cz,Bool.and_eq_false_iff,decide_eq_false_iff_not] at e1
        simp only [ej,Bool.and_eq_false_iff,decide_eq_false_iff_not]
        refine .inl (.inl ?_)
        omega
      | _=>rfl
    simp [fw,hd,e1,this]
  | true =>
    obtain ⟨xs,rfl⟩:∃ ds,d=.tuple ds:=by cases d <;> first | exact ⟨_,rfl⟩ | cases e1
    have hn:1≤xs.length∧xs.length≤4:=by
      simp only [cz,Bool.and_eq_true,decide_eq_true_eq] at e1
      omega
    have hc:cq 1 (dR (ah 0)) cW (ay (g7 dE) (af (ah 1) ar)) bU [some (.tuple xs)]=.ok (xs.map fun d=>.bool (dE d)) :=
      eK rfl rfl (by omega) fun d hd'=>by simp [p5 (eP hd d hd')]
    have hf:=qA dE xs
    cases e2:xs.all dE with
    | false=>simp [fw,hd,e1,hc,hf,e2,ej]
    | true =>
      have hne:xs≠[]:=by intro z; subst z; simp at hn
      have hl2:xs.getLast?=some (xs.getLast hne):=List.getLast?_eq_some_getLast hne
      have hp:=List.all_eq_true.mp e2 _ (List.getLast_mem hne)
      obtain ⟨a,b,eab⟩:∃ a b,xs.getLast hne=.tuple [a,b]:=by
        revert hp
        generalize xs.getLast hne=z
        intro hp
        unfold dE at hp
        split at hp
        · exact ⟨_,_,rfl⟩
        · cases hp
      rw [eab] at hl2
      have hln:jG xs=gI b:=by
        unfold jG; rw [hl2]; cases b <;> rfl
      simp [fw,hd,e1,hc,hf,e2,ej,ju,hl2,hln,hn.1,hn.2]
theorem sC {d:PyData} (h:cz d 4 4=true):∃ a b c e,d=.tuple [a,b,c,e]:=by
  cases d with
  | tuple ds =>
    simp [cz] at h
    match ds,h with
    | [a,b,c,e],_=>exact ⟨a,b,c,e,rfl⟩
    | [],h=>simp at h
    | [_],h=>simp at h
    | [_,_],h=>simp at h
    | [_,_,_],h=>simp at h
    | _::_::_::_::_::_,h=>simp at h; omega
  | _=>cases h
theorem dH {d:PyData} {a b:Int} (h:isWhole d a b=true):∃ i,d=.int i∧a≤i∧i≤b:=by
  cases d with
  | int i=>simp [isWhole] at h; exact ⟨i,rfl,h⟩
  | _=>cases h
theorem qG {a b c e:PyData} (h:isWhole a 2 60=false):b9 (.tuple [a,b,c,e])=false:=by
  cases a with
  | int i =>
    cases c with
    | int l =>
      simp only [isWhole,Bool.and_eq_false_iff,decide_eq_false_iff_not] at h
      simp only [b9,Bool.and_eq_false_iff,decide_eq_false_iff_not]
      omega
    | _=>rfl
  | _=>rfl
theorem rd {b c e:PyData} {i:Int} (h:isWhole c 0 (if i - 1 < 20 then i - 1 else 20)=false):b9 (.tuple [.int i,b,c,e])=false:=by
  cases c with
  | int l =>
    simp only [isWhole,Bool.and_eq_false_iff,decide_eq_false_iff_not] at h
    simp only [b9,Bool.and_eq_false_iff,decide_eq_false_iff_not]
    exact .inl (.inl (.inr h))
  | _=>rfl
theorem rj {b e:PyData} {i l:Int} (h1:2≤i∧i≤60) (h2:0≤l∧l≤if i - 1 < 20 then i - 1 else 20):b9 (.tuple [.int i,b,.int l,e])=(isWhole b 1 (i - l) && ej e):=by
  simp [b9,h1.1,h1.2,h2.1,h2.2]
theorem u6 (cs:Cs):∀ ds,ds.length=1→g7 b9 ds≠.no→aV (dM cs aI (g7 ej) aG (ds.map some++List.replicate 3 none))=g7 b9 ds:=by
  intro ds hl hne
  obtain ⟨d,rfl,hd,e⟩:=qC hne
  rw [e]
  cases e1:cz d 4 4 with
  | false =>
    have:b9 d=false:=by
      unfold b9
      split
      · simp [cz] at e1
      · rfl
    simp [dM,hd,e1,this]
  | true =>
    obtain ⟨a,b,c,q,rfl⟩:=sC e1
    have ha:=eP hd a (by simp)
    have hb:=eP hd b (by simp)
    have hc:=eP hd c (by simp)
    have he:=eP hd q (by simp)
    cases e2:isWhole a 2 60 with
    | false=>simp [dM,hd,ha,hb,hc,he,e1,e2,qG e2]
    | true =>
      obtain ⟨i,rfl,i1,i2⟩:=dH e2
      cases e3:isWhole c 0 (if i - 1 < 20 then i - 1 else 20) with
      | false=>simp [dM,hd,ha,hb,hc,he,e1,e2,e3,rd e3]
      | true =>
        obtain ⟨l,rfl,l1,l2⟩:=dH e3
        have er:=rj (b:=b) (e:=q) ⟨i1,i2⟩ ⟨l1,l2⟩
        cases e4:isWhole b 1 (i - l) with
        | false=>simp [dM,hd,ha,hb,hc,he,e1,e2,e3,e4,er]
        | true=>simp [dM,hd,ha,hb,hc,he,e1,e2,e3,e4,er,p5 he]
noncomputable def ba (cs:Cs):Gf
  | [d]=>if bS d then (if cy d then .ok d else .rz cs.NoErrands) else .no
  | _=>.no
theorem zB (cs:Cs):∀ ds,ds.length=1→ba cs ds≠.no→aV (ib cs aG (g7 b9) (ds.map some++List.replicate 0 none))=ba cs ds:=by
  intro ds hl hne
  obtain ⟨d,rfl⟩:∃ d,ds=[d]:=by
    match ds,hl with
    | [d],_=>exact ⟨d,rfl⟩
  have hd:bS d=true:=by
    unfold ba at hne
    by_cases z:bS d=true
    · exact z
    · simp [z] at hne
  have eg:ba cs [d]=if cy d then .ok d else .rz cs.NoErrands:=by unfold ba; simp [hd]
  rw [eg]
  cases e1:cz d 1 6 with
  | false =>
    have:cy d=false:=by
      cases d with
      | tuple ds =>
        simp only [cz,Bool.and_eq_false_iff,decide_eq_false_iff_not] at e1
        simp only [cy,Bool.and_eq_false_iff,decide_eq_false_iff_not]
        refine .inl ?_
        omega
      | _=>rfl
    simp [ib,hd,e1,this]
  | true =>
    obtain ⟨xs,rfl⟩:∃ ds,d=.tuple ds:=by cases d <;> first | exact ⟨_,rfl⟩ | cases e1
    have hn:1≤xs.length∧xs.length≤6:=by
      simp only [cz,Bool.and_eq_true,decide_eq_true_eq] at e1
      omega
    have hc:cq 1 (dR (ah 0)) cW (ay (g7 b9) (af (ah 1) ar)) bU [some (.tuple xs)]=.ok (xs.map fun d=>.bool (b9 d)) :=
      eK rfl rfl (by omega) fun d hd'=>by simp [p5 (eP hd d hd')]
    have hf:=qA b9 xs
    cases e2:xs.all b9 with
    | false=>simp [ib,hd,e1,hc,hf,e2,cy]
    | true=>simp [ib,hd,e1,hc,hf,e2,cy,hn.1,hn.2]
end RS
set_option maxRecDepth 100000
set_option maxHeartbeats 1000000
namespace RS
open PySem L2
theorem iL {β:Type} {tgt:PyData→Ds→Option Ds} {body:Ds→Sr} (inv:Nat→Ds→Prop):∀ (ds:List PyData) (k:Nat),(∀ (i:Nat) d δ,ds[i]?=some d→inv (k + i) δ→∃ δ1 δ2,tgt d δ=some δ1∧body δ1=.nx δ2∧inv (k + i + 1) δ2) →
    ∀ δ,inv k δ→∃ δ',forL tgt body ds δ=.nx δ'∧inv (k + ds.length) δ'
  | [],k,_,δ,h=>⟨δ,rfl,h⟩
  | d::r,k,hs,δ,h=>by
    obtain ⟨δ1,δ2,e1,e2,h2⟩:=hs 0 d δ rfl h
    obtain ⟨δ',e3,h3⟩:=iL (β:=β) inv r (k + 1) (fun i x δ hx hi=>by
      have:=hs (i + 1) x δ (by simpa using hx) (by rw [show k + (i + 1)=k + 1 + i by omega]; exact hi)
      rw [show k + 1 + i + 1=k + (i + 1) + 1 by omega]; exact this) δ2 h2
    exact ⟨δ',by unfold forL; rw [e1]; simp only [e2]; exact e3,by rw [List.length_cons,show k + (r.length + 1)=k + 1 + r.length by omega]; exact h3⟩
theorem r8 {tgt:PyData→Ds→Option Ds} {body:Ds→Sr} (inv:Ds→Prop) (P:PyData→Option PyData):∀ (ds:List PyData),(∀ d∈ds,∀ δ,inv δ→∃ δ1,tgt d δ=some δ1∧((∃ v,P d=some v∧body δ1=.rt v)∨(P d=none∧∃ δ2,body δ1=.nx δ2∧inv δ2))) →
    ∀ δ,inv δ→(∃ v,ds.findSome? P=some v∧forL tgt body ds δ=.rt v)∨(ds.findSome? P=none∧∃ δ',forL tgt body ds δ=.nx δ'∧inv δ')
  | [],_,δ,h=>.inr ⟨rfl,δ,rfl,h⟩
  | d::r,hs,δ,h=>by
    obtain ⟨δ1,e1,alt⟩:=hs d List.mem_cons_self δ h
    rcases alt with ⟨v,pv,ev⟩ | ⟨pn,δ2,e2,h2⟩
    · exact .inl ⟨v,by simp [pv],by unfold forL; rw [e1]; simp only [ev]⟩
    · rcases r8 inv P r (fun x hx=>hs x (List.mem_cons_of_mem _ hx)) δ2 h2 with ⟨v,q1,q2⟩ | ⟨q1,δ',q2,q3⟩
      · exact .inl ⟨v,by simp [pn,q1],by unfold forL; rw [e1]; simp only [e2]; exact q2⟩
      · exact .inr ⟨by simp [pn,q1],δ',by unfold forL; rw [e1]; simp only [e2]; exact q2,q3⟩
noncomputable def AW:PyData→Option Int
  | .int i=>some i
  | _=>none
noncomputable def cO:PyData→Int × Option Int
  | .tuple [.int l,t]=>(l,AW t)
  | _=>(0,none)
noncomputable def deE:PyData→Er
  | .tuple [.int e,.int d,.int l,.tuple ps]=>⟨e,d,l,ps.map cO⟩
  | _=>⟨0,0,0,[]⟩
theorem rT (e:Int) (d:Int) (l:Int) (ps:List PyData):deE (.tuple [.int e,.int d,.int l,.tuple ps])=⟨e,d,l,ps.map cO⟩:=rfl
noncomputable def bN:PyData→List Er
  | .tuple ds=>ds.map deE
  | _=>[]
theorem wa (o:Option Int):AW (bO o)=o:=by cases o <;> rfl
theorem kQ (p:Int × Option Int):cO (aT p)=p:=by
  obtain ⟨l,t⟩:=p
  simp [aT,cO,wa]
theorem A7 (e:Er):deE e.d=e:=by
  obtain ⟨a,b,c,ps⟩:=e
  simp [Er.d,rT,List.map_map]
  conv=>rhs; rw [← List.map_id ps]
  exact List.map_congr_left fun p _=>kQ p
theorem cu (es:List Er):bN (av es)=es:=by
  simp [av,bN,List.map_map]
  conv=>rhs; rw [← List.map_id es]
  exact List.map_congr_left fun e _=>A7 e
theorem part_of {d:PyData} (h:dE d=true):aT (cO d)=d∧1≤(cO d).1∧(cO d).1≤20∧∀ t,(cO d).2=some t→0≤t∧t≤3:=by
  unfold dE at h
  split at h
  · rename_i a b
    rw [Bool.and_eq_true] at h
    obtain ⟨i,rfl,h1,h2⟩:=dH h.1
    have hb:=h.2
    cases b with
    | none=>exact ⟨rfl,h1,h2,fun t q=>by cases q⟩
    | int t =>
      obtain ⟨t',q,h3,h4⟩:=dH hb
      cases q
      exact ⟨rfl,h1,h2,fun t q=>by cases q; exact ⟨h3,h4⟩⟩
    | _=>cases hb
  · cases h
theorem rC {d:PyData} (h:b9 d=true):(deE d).d=d∧(deE d).Ok:=by
  unfold b9 at h
  split at h
  · rename_i e du l ps
    simp only [Bool.and_eq_true,decide_eq_true_eq] at h
    obtain ⟨⟨⟨⟨h1,h2⟩,h3,h4⟩,h5⟩,h6⟩:=h
    obtain ⟨du,rfl,d1,d2⟩:=dH h5
    unfold ej at h6
    split at h6
    · rename_i ps
      simp only [Bool.and_eq_true,decide_eq_true_eq] at h6
      obtain ⟨⟨⟨p1,p2⟩,p3⟩,p4⟩:=h6
      have pa:=List.all_eq_true.mp p3
      have l4:l≤20∧l < e:=by split at h4 <;> omega
      refine ⟨?_,?_⟩
      · have em:ps.map (aT ∘ cO)=ps:=by
          conv=>rhs; rw [← List.map_id ps]
          exact List.map_congr_left fun p hp=>(part_of (pa p hp)).1
        simp only [rT,Er.d,List.map_map,em]
      · refine ⟨h1,h2,h3,l4.1,l4.2,d1,d2,fun z=>?_,by simpa [rT] using p2,fun p hp=>?_,fun p hp=>?_⟩
        · have:ps=[]:=by simpa [rT] using z
          subst this; simp at p1
        · obtain ⟨q,hq,rfl⟩:=List.mem_map.mp (show p∈ps.map cO from hp)
          exact (part_of (pa q hq)).2
        · have hp:(ps.map cO).getLast?=some p:=hp
          rw [List.getLast?_map] at hp
          unfold jG at p4
          cases q:ps.getLast? with
          | none=>rw [q] at hp; cases hp
          | some z =>
            rw [q] at hp p4
            simp at hp
            split at p4
            · rename_i a heq
              cases heq
              subst hp
              unfold cO; split
              · rename_i l t e1
                injection e1 with e1; injection e1 with _ e1; injection e1 with e1 _
                rw [← e1]; rfl
              · rfl
            · cases p4
    · cases h6
  · cases h
theorem jN {d:PyData} (h:cy d=true):av (bN d)=d∧1≤(bN d).length∧(bN d).length≤6∧∀ e∈bN d,e.Ok:=by
  unfold cy at h
  split at h
  · rename_i ds
    simp only [Bool.and_eq_true,decide_eq_true_eq] at h
    obtain ⟨⟨h1,h2⟩,h3⟩:=h
    have pa:=List.all_eq_true.mp h3
    refine ⟨?_,by simpa [bN] using h1,by simpa [bN] using h2,fun e he=>?_⟩
    · simp only [bN,av,List.map_map]
      congr 1
      conv=>rhs; rw [← List.map_id ds]
      exact List.map_congr_left fun p hp=>(rC (pa p hp)).1
    · obtain ⟨q,hq,rfl⟩:=List.mem_map.mp (show e∈ds.map deE from he)
      exact (rC (pa q hq)).2
  · cases h
noncomputable def deI:PyData→Int
  | .int i=>i
  | _=>0
noncomputable def bQ:PyData→List Int
  | .tuple ds=>ds.map deI
  | _=>[]
noncomputable def ao (ns:List Int):PyData:=.tuple (ns.map .int)
theorem cw (ns:List Int):bQ (ao ns)=ns:=by
  simp [ao,bQ,List.map_map]
  conv=>rhs; rw [← List.map_id ns]
  exact List.map_congr_left fun _ _=>rfl
noncomputable def cE (n:Nat):PyData→Bool
  | .tuple ds=>decide (ds.length=n) && ds.all (fun d=>isWhole d 0 ((n:Int) - 1)) && decide (ds.map deI).Nodup
  | _=>false
structure bx (n:Nat) (rs:List Int):Prop where
  len:rs.length=n
  rng:∀ r∈rs,0≤r∧r < n
  nd:rs.Nodup
theorem en {n:Nat} {d:PyData} (h:cE n d=true):ao (bQ d)=d∧bx n (bQ d):=by
  unfold cE at h
  split at h
  · rename_i ds
    simp only [Bool.and_eq_true,decide_eq_true_eq] at h
    obtain ⟨⟨h1,h2⟩,h3⟩:=h
    have pa:=List.all_eq_true.mp h2
    refine ⟨?_,by simpa [bQ] using h1,fun r hr=>?_,h3⟩
    · simp only [bQ,ao,List.map_map]
      congr 1
      conv=>rhs; rw [← List.map_id ds]
      refine List.map_congr_left fun p hp=>?_
      obtain ⟨i,rfl,_⟩:=dH (pa p hp)
      rfl
    · obtain ⟨q,hq,rfl⟩:=List.mem_map.mp (show r∈ds.map deI from hr)
      obtain ⟨i,rfl,a,b⟩:=dH (pa q hq)
      exact ⟨a,by show i < n; omega⟩
  · cases h
theorem cP {n:Nat} {rs:List Int} (h:bx n rs):cE n (ao rs)=true:=by
  have e:(rs.map PyData.int).map deI=rs:=by
    rw [List.map_map]; conv=>rhs; rw [← List.map_id rs]
    exact List.map_congr_left fun _ _=>rfl
  unfold cE ao
  simp only [List.length_map,h.len,decide_true,Bool.true_and,e,h.nd,Bool.and_true]
  rw [List.all_eq_true]
  intro d hd
  obtain ⟨r,hr,rfl⟩:=List.mem_map.mp hd
  have:=h.rng r hr
  simp [isWhole,this.1]; omega
theorem n9:∀ (l acc:List Int),acc.Nodup→((l.foldl PyProof.Rows.step_dedup acc).length≤acc.length + l.length)∧((l.foldl PyProof.Rows.step_dedup acc).length=acc.length + l.length↔(acc++l).Nodup)
  | [],acc,h=>by simpa using h
  | x::r,acc,h=>by
    rw [List.foldl_cons]
    by_cases z:acc.any (· == x)=true
    · have e:PyProof.Rows.step_dedup acc x=acc:=by unfold PyProof.Rows.step_dedup; rw [if_pos z]
      rw [e]
      have:=n9 r acc h
      refine ⟨by rw [List.length_cons]; omega,fun q=>?_,fun q=>?_⟩
      · rw [List.length_cons] at q; omega
      · exfalso
        obtain ⟨y,hy,ey⟩:=List.any_eq_true.mp z
        have:y=x:=by simpa using ey
        subst this
        rw [List.nodup_append] at q
        exact q.2.2 y hy y List.mem_cons_self rfl
    · have e:PyProof.Rows.step_dedup acc x=acc++[x]:=by unfold PyProof.Rows.step_dedup; rw [if_neg z]
      have hx:x ∉ acc:=fun q=>z (List.any_eq_true.mpr ⟨x,q,by simp⟩)
      have hn:(acc++[x]).Nodup:=by
        rw [List.nodup_append]
        exact ⟨h,by simp,fun a ha b hb=>by rw [List.mem_singleton.mp hb]; rintro rfl; exact hx ha⟩
      rw [e]
      have:=n9 r (acc++[x]) hn
      rw [List.length_append,List.length_singleton,List.append_assoc] at this
      refine ⟨by rw [List.length_cons]; omega,?_⟩
      rw [List.length_cons,show acc.length + (r.length + 1)=acc.length + 1 + r.length by omega]
      exact this.2
theorem xw (ns:List Int):((seen ns ns.length).length:Int) < ns.length↔¬ ns.Nodup:=by
  have e:(List.range ns.length).map (fun i=>ns.getD i 0)=ns:=by
    apply List.ext_getElem?
    intro i
    rw [List.getElem?_map]
    by_cases h:i < ns.length
    · rw [List.getElem?_range h,List.getElem?_eq_getElem h]
      simp [List.getD_eq_getElem?_getD,List.getElem?_eq_getElem h]
    · rw [List.getElem?_eq_none (by simpa using h),List.getElem?_eq_none (by simpa using h)]; rfl
  have:=n9 ns [] List.nodup_nil
  unfold seen PyProof.Rows.firstMet
  rw [e]
  simp only [List.length_nil,Nat.zero_add,List.nil_append] at this
  constructor
  · intro h q
    have:=this.2.mpr q
    omega
  · intro h
    have h1:=this.1
    have h2:¬ (List.foldl PyProof.Rows.step_dedup [] ns).length=ns.length:=fun q=>h (this.2.mp q)
    omega
noncomputable def br (cs:Cs):Gf
  | [.tuple es,r]=>if bS r && decide (es.length≤100) then (if cE es.length r then .ok r else .rz cs.NoRanks) else .no
  | _=>.no
theorem zS {f:List PyData→PyData→Rs PyData} {ds:List PyData} (h:(match ds with | [.tuple x0,x1]=>f x0 x1 | _=>.no)≠.no):∃ x0 x1,ds=[.tuple x0,x1]∧f x0 x1≠.no:=by
  rcases ds with _ | ⟨x0,_ | ⟨x1,_ | ⟨y,ys⟩⟩⟩
  · exact absurd rfl h
  · first | exact absurd rfl h | (cases x0 <;> exact absurd rfl h)
  · skip
    cases x0 with
    | tuple x0 =>
      exact ⟨_,_,rfl,h⟩
    | _=>exact absurd rfl h
  · first | exact absurd rfl h | (cases x0 <;> exact absurd rfl h)
theorem oU (cs:Cs):∀ ds,ds.length=2→br cs ds≠.no→aV (cR cs aG aI (ds.map some++List.replicate 1 none))=br cs ds:=by
  intro ds hl hne
  obtain ⟨es,r,ez,hz⟩:=zS hne
  clear hne; subst ez; have hne:=hz; clear hz
  unfold br
  · skip
    split at hne
    · rename_i hh
      simp only [hh,if_true]
      rw [Bool.and_eq_true,decide_eq_true_eq] at hh
      obtain ⟨hd,h100⟩:=hh
      cases e1:cz r es.length es.length with
      | false =>
        have:cE es.length r=false:=by
          cases r with
          | tuple xs =>
            have:xs.length≠es.length:=fun q=>by simp [cz,q] at e1
            simp [cE,this]
          | _=>rfl
        simp [cR,hd,e1,this]
      | true =>
        obtain ⟨xs,rfl⟩:∃ ds,r=.tuple ds:=by cases r <;> first | exact ⟨_,rfl⟩ | cases e1
        have hn:xs.length=es.length:=by
          simp only [cz,Bool.and_eq_true,decide_eq_true_eq] at e1
          omega
        have hc:cq 3 (dR (ah 1)) cW (ay aI (af (ah 3) (af (gC (.int 0)) (af (ah 2) ar)))) bU [some (.tuple es),some (.tuple xs),some (.int ((es.length:Int) - 1))]=.ok (xs.map fun d=>.bool (isWhole d 0 ((es.length:Int) - 1))) :=
          eK rfl rfl (by omega) fun d hd'=>by simp [eP hd d hd']
        have hf:=qA (fun d=>isWhole d 0 ((es.length:Int) - 1)) xs
        cases e2:xs.all (fun d=>isWhole d 0 ((es.length:Int) - 1)) with
        | false=>simp [cR,hd,e1,hc,hf,e2,cE]
        | true =>
          have pa:=List.all_eq_true.mp e2
          have ei:xs=(xs.map deI).map PyData.int:=by
            rw [List.map_map]
            conv=>lhs; rw [← List.map_id xs]
            refine List.map_congr_left fun p hp=>?_
            obtain ⟨i,rfl,_⟩:=dH (pa p hp)
            rfl
          have hs:m9 [.tuple xs]=some (.int (seen (xs.map deI) (xs.map deI).length).length):=by
            unfold m9
            conv=>lhs; rw [ei]
            simp only [d5,Option.bind_some]
            rw [if_pos (by simp; omega)]
          have hsn:=xw (xs.map deI)
          have hml:(xs.map deI).length=es.length:=by rw [List.length_map]; exact hn
          rw [hml] at hs hsn
          by_cases hnd:(xs.map deI).Nodup
          · have h2:¬ (seen (xs.map deI) es.length).length < es.length:=fun q=>hsn.mp (by omega) hnd
            simp [cR,hd,e1,hc,hf,e2,hs,hn,h2,cE,hnd]
          · have h2:(seen (xs.map deI) es.length).length < es.length:=by have:=hsn.mpr hnd; omega
            simp [cR,hd,e1,hc,hf,e2,hs,hn,h2,cE,hnd]
    · exact absurd rfl hne
end RS
set_option maxRecDepth 100000
set_option maxHeartbeats 1000000
namespace RS
open PySem L2
noncomputable def kE:PyData→Bool
  | .tuple [.int l,b]=>decide (0≤l) && decide (l≤1000000) && (match b with | .none=>true | .int t=>decide (0≤t) && decide (t≤3) | _=>false)
  | _=>false
noncomputable def wA:PyData→Bool
  | .tuple [.int e,.int _,.int l,.tuple ps]=>decide (1≤e) && decide (e < 1073741824) && decide (-1000000000≤l) && decide (l≤1000000000) && decide (ps.length≤1000) && ps.all kE
  | _=>false
noncomputable def jv:PyData→Bool
  | .tuple ds=>decide (ds.length≤100) && ds.all wA
  | _=>false
structure Er.Sh (e:Er):Prop where
  e1:1≤e.every
  e2:e.every < 1073741824
  l1:-1000000000≤e.late
  l2:e.late≤1000000000
  pn:e.parts.length≤1000
  pl:∀ p∈e.parts,0≤p.1∧p.1≤1000000∧∀ t,p.2=some t→0≤t∧t≤3
theorem sq {d:PyData} (h:kE d=true):aT (cO d)=d∧0≤(cO d).1∧(cO d).1≤1000000∧∀ t,(cO d).2=some t→0≤t∧t≤3:=by
  unfold kE at h
  split at h
  · rename_i l b
    simp only [Bool.and_eq_true,decide_eq_true_eq] at h
    obtain ⟨⟨h1,h2⟩,h3⟩:=h
    cases b with
    | none=>exact ⟨rfl,h1,h2,fun t q=>by cases q⟩
    | int t =>
      simp only [Bool.and_eq_true,decide_eq_true_eq] at h3
      exact ⟨rfl,h1,h2,fun t q=>by cases q; exact h3⟩
    | _=>cases h3
  · cases h
theorem xM {d:PyData} (h:wA d=true):(deE d).d=d∧(deE d).Sh:=by
  unfold wA at h
  split at h
  · rename_i e du l ps
    simp only [Bool.and_eq_true,decide_eq_true_eq] at h
    obtain ⟨⟨⟨⟨⟨h1,h2⟩,hl1⟩,hl2⟩,h3⟩,h4⟩:=h
    have pa:=List.all_eq_true.mp h4
    have em:ps.map (aT ∘ cO)=ps:=by
      conv=>rhs; rw [← List.map_id ps]
      exact List.map_congr_left fun p hp=>(sq (pa p hp)).1
    refine ⟨by simp only [rT,Er.d,List.map_map,em],h1,h2,hl1,hl2,by simpa [rT] using h3,fun p hp=>?_⟩
    obtain ⟨q,hq,rfl⟩:=List.mem_map.mp (show p∈ps.map cO from hp)
    exact (sq (pa q hq)).2
  · cases h
theorem uv {e:Er} (h:e.Sh):wA e.d=true:=by
  unfold wA Er.d
  simp only [h.e1,h.e2,h.l1,h.l2,decide_true,Bool.true_and,List.length_map,h.pn]
  rw [List.all_eq_true]
  intro d hd
  obtain ⟨p,hp,rfl⟩:=List.mem_map.mp hd
  obtain ⟨a,b,c⟩:=h.pl p hp
  obtain ⟨l,t⟩:=p
  cases t with
  | none=>simp at a b; simp [kE,aT,bO,a,b]
  | some t=>have:=c t rfl; simp at a b; simp [kE,aT,bO,a,b,this.1,this.2]
theorem Er.Ok.sh {e:Er} (h:e.Ok):e.Sh:=⟨by have:=h.e1; omega,by have:=h.e2; omega,by have:=h.l1; omega,by have:=h.l2; omega,by have:=h.p2; omega,fun p hp=>by
  obtain ⟨a,b,c⟩:=h.pl p hp
  exact ⟨by omega,by omega,c⟩⟩
theorem kh {d:PyData} (h:jv d=true):av (bN d)=d∧(bN d).length≤100∧∀ e∈bN d,e.Sh:=by
  unfold jv at h
  split at h
  · rename_i ds
    simp only [Bool.and_eq_true,decide_eq_true_eq] at h
    have pa:=List.all_eq_true.mp h.2
    refine ⟨?_,by simpa [bN] using h.1,fun e he=>?_⟩
    · simp only [bN,av,List.map_map]
      congr 1
      conv=>rhs; rw [← List.map_id ds]
      exact List.map_congr_left fun p hp=>(xM (pa p hp)).1
    · obtain ⟨q,hq,rfl⟩:=List.mem_map.mp (show e∈ds.map deE from he)
      exact (xM (pa q hq)).2
  · cases h
theorem fU {es:List Er} (h1:es.length≤100) (h:∀ e∈es,e.Sh):jv (av es)=true:=by
  unfold jv av
  simp only [List.length_map,h1,decide_true,Bool.true_and]
  rw [List.all_eq_true]
  intro d hd
  obtain ⟨e,he,rfl⟩:=List.mem_map.mp hd
  exact uv (h e he)
noncomputable def Er.work (e:Er):Int:=(e.parts.map (·.1)).sum
noncomputable def Er.has (e:Er) (t:Int):Bool:=e.parts.any fun p=>p.2 == some t
noncomputable def er0:Er:=⟨1,1,0,[]⟩
noncomputable def aK (es:List Er) (n:Int):Er:=es.getD n.toNat er0
noncomputable def hts (es:List Er):List Int→Int→Int→Option Int
  | [],_,_=>none
  | r::rs,k,t=>if (aK es r).has t then some k else hts es rs (k + 1) t
noncomputable def bc (es:List Er) (rs:List Int) (t:Int):Option Int:=hts es rs 0 t
noncomputable def placeOf (rs:List Int) (n:Int):Nat:=rs.findIdx (· == n)
noncomputable def c5 (es:List Er) (rs:List Int) (pl:Int) (acc:Int) (p:Int × Option Int):Int:=match p.2 with
  | some t=>(match bc es rs t with
    | some h=>if h≤pl then max acc (p.1 - 1) else acc
    | none=>acc)
  | none=>acc
noncomputable def cM (es:List Er) (rs:List Int) (n:Int):Int:=(((rs.drop (placeOf rs n + 1)).map fun m=>(aK es m).parts).flatten).foldl (c5 es rs (placeOf rs n)) 0
noncomputable def Er.times (e:Er) (t:Int):Int:=(t + e.late) / e.every + (if (t + e.late) % e.every > 0 then 1 else 0)
noncomputable def dz (es:List Er) (rs:List Int) (n t:Int):Int:=cM es rs n + (aK es n).work + ((rs.take (placeOf rs n)).map fun m=>(aK es m).times t * (aK es m).work).sum
noncomputable def bL (es:List Er) (rs:List Int) (n:Int):Option Int:=((List.range ((aK es n).every - (aK es n).late).toNat).map fun (i:Nat)=>(1 + (i:Int))).find? fun t=>decide (dz es rs n t≤t)
noncomputable def dQ (es:List Er) (rs:List Int) (n:Int):Bool:=match bL es rs n with
  | some t=>decide (t≤(aK es n).due)
  | none=>false
theorem uE {es:List Er} {n:Int} (h0:0≤n) (h1:n < es.length):es[n.toNat]?=some (aK es n):=by
  unfold aK
  rw [List.getD_eq_getElem?_getD,List.getElem?_eq_getElem (by omega)]; rfl
theorem b4 {es:List Er} {n:Int} (h0:0≤n) (h1:n < es.length):aK es n∈es:=List.mem_of_getElem? (uE h0 h1)
theorem ee {es:List Er} {n:Int} (h0:0≤n) (h1:n < es.length):atI (es.map Er.d) n=some (aK es n).d:=by
  rw [mx (j:=n.toNat) (by omega),List.getElem?_map,uE h0 h1]; rfl
theorem zP {ns:List Int} {n:Int} (h0:0≤n) (h1:n < ns.length):atI (ns.map PyData.int) n=some (.int (ns.getD n.toNat 0)):=by
  rw [mx (j:=n.toNat) (by omega),List.getElem?_map,List.getD_eq_getElem?_getD,List.getElem?_eq_getElem (by omega)]; rfl
noncomputable def bh:Gf
  | [d]=>if wA d then .ok (.int (deE d).work) else .no
  | _=>.no
theorem eF {e:Er} (h:e.Sh):bh [e.d]=.ok (.int e.work):=by unfold bh; simp [uv h,A7]
theorem wD (p:Int × Option Int):dIx (aT p) (.int 0)=some (.int p.1):=rfl
theorem A6 (p:Int × Option Int):dIx (aT p) (.int 1)=some (bO p.2):=rfl
theorem zO (e:Er):dIx e.d (.int 3)=some (.tuple (e.parts.map aT)):=rfl
theorem CL {f:PyData→Rs PyData} {ds:List PyData} (h:(match ds with | [x0]=>f x0 | _=>.no)≠.no):∃ x0,ds=[x0]∧f x0≠.no:=by
  rcases ds with _ | ⟨x0,_ | ⟨y,ys⟩⟩
  · exact absurd rfl h
  · skip
    exact ⟨_,rfl,h⟩
  · exact absurd rfl h
theorem pD (cs:Cs):∀ ds,ds.length=1→bh ds≠.no→aV (ka cs (ds.map some++List.replicate 0 none))=bh ds:=by
  intro ds hl hne
  obtain ⟨d,ez,hz⟩:=CL hne
  clear hne; subst ez; have hne:=hz; clear hz
  · skip
    split at hne
    · rename_i hd
      obtain ⟨e1,sh⟩:=xM hd
      rw [← e1]
      generalize deE d=e at sh
      rw [eF sh]
      have hc:cq 1 (dR (g2 dIx (ah 0) (gC (.int 3)))) cW (g2 dIx (ah 1) (gC (.int 0))) bU [some e.d]=.ok ((e.parts.map aT).map fun d=>.int (cO d).1) :=
        eK rfl (by simp [zO]) (by have:=sh.pn; simp; omega) fun d hd'=>by
          obtain ⟨p,hp,rfl⟩:=List.mem_map.mp hd'
          simp [wD,kQ]
      have hm:((e.parts.map aT).map fun d=>PyData.int (cO d).1)=e.parts.map fun p=>.int p.1:=by
        rw [List.map_map]; exact List.map_congr_left fun p _=>by simp [kQ]
      rw [hm] at hc
      simp [ka,hc,Ad,Er.work]
    · exact absurd rfl hne
end RS
set_option maxRecDepth 100000
set_option maxHeartbeats 1000000
namespace RS
open PySem L2
theorem rangeSize_down (n:Nat):Builtin.Range.rangeSize ((n:Int) - 1) (-1) (-1)=n:=by
  unfold Builtin.Range.rangeSize
  rw [if_neg (by decide)]
  split
  · simp
  · omega
theorem zm (n:Nat) (h:n≤1000):zE [.int ((n:Int) - 1),.int (-1),.int (-1)]=.ok (iy ((n:Int) - 1) (-1) n):=by
  have hs:Builtin.Range.small ((n:Int) - 1) (-1) (-1)=true:=by
    unfold Builtin.Range.small
    rw [rangeSize_down]
    simp [Builtin.Range.rangeFitsLong]
    omega
  have ho:pU ((n:Int) - 1) (-1) (-1)=true:=by
    unfold pU
    rw [hs,Bool.and_true]
    exact decide_eq_true (by omega)
  unfold zE
  simp only [ho,if_true]
  unfold xj
  rw [rangeSize_down]
  rfl
noncomputable def bP:Gf
  | [d,r]=>if jv d && cE (bN d).length r then .ok (.list ((List.range 4).map fun (t:Nat)=>bO (bc (bN d) (bQ r) t))) else .no
  | _=>.no
theorem iU {es:List Er} {rs:List Int} (h1:es.length≤100) (h:∀ e∈es,e.Sh) (hr:bx es.length rs):bP [av es,ao rs]=.ok (.list ((List.range 4).map fun (t:Nat)=>bO (bc es rs t))):=by
  unfold bP; simp [fU h1 h,cu,cP hr,cw]
noncomputable def p6 (k:Int) (L:List PyData) (p:Int × Option Int):List PyData:=match p.2 with
  | some t=>L.set t.toNat (.int k)
  | none=>L
theorem qi (k:Int) (L:List PyData) (p:Int × Option Int):(p6 k L p).length=L.length:=by unfold p6; split <;> simp
theorem rM (k:Int):∀ (ps:List (Int × Option Int)) (L:List PyData),(ps.foldl (p6 k) L).length=L.length
  | [],L=>rfl
  | p::r,L=>by rw [List.foldl_cons,rM k r,qi]
theorem rE (k:Int):∀ (ps:List (Int × Option Int)) (L:List PyData) (t:Nat),(∀ p∈ps,∀ t,p.2=some t→0≤t∧t≤3)→t < L.length→(ps.foldl (p6 k) L)[t]?=if ps.any (fun p=>p.2 == some (t:Int)) then some (.int k) else L[t]?
  | [],L,t,_,_=>rfl
  | p::r,L,t,h,hl=>by
    rw [List.foldl_cons,rE k r _ t (fun q hq=>h q (List.mem_cons_of_mem _ hq)) (by rw [qi]; exact hl)]
    rw [List.any_cons]
    cases hr:r.any (fun p=>p.2 == some (t:Int)) with
    | true=>simp
    | false =>
      obtain ⟨l,o⟩:=p
      cases o with
      | none=>simp [p6]
      | some u =>
        have hu:=h (l,some u) List.mem_cons_self u rfl
        simp only [Bool.false_eq_true,if_false,Bool.or_false,p6]
        by_cases z:u=(t:Int)
        · subst z
          simp [hl]
        · rw [List.getElem?_set_ne (by omega)]
          have:(some u == some (t:Int))=false:=by simpa using z
          rw [this]; rfl
theorem lZ (E R:PyData) (k:Int):∀ (ps:List (Int × Option Int)) (L:List PyData) (x4 x5:Option PyData),L.length=4→(∀ p∈ps,∀ t,p.2=some t→0≤t∧t≤3) →
    ∃ y4 y5,forL (dG [4,5]) (sIf (gT (g1 fv (ah 5))) (qR 2 (ah 5) (ah 3)) b3) (ps.map aT) [some E,some R,some (.list L),some (.int k),x4,x5]=.nx [some E,some R,some (.list (ps.foldl (p6 k) L)),some (.int k),y4,y5]
  | [],L,x4,x5,_,_=>⟨x4,x5,rfl⟩
  | p::r,L,x4,x5,hL,h=>by
    obtain ⟨y4,y5,e⟩:=lZ E R k r (p6 k L p) (some (.int p.1)) (some (bO p.2)) (by rw [qi]; exact hL) (fun q hq=>h q (List.mem_cons_of_mem _ hq))
    refine ⟨y4,y5,?_⟩
    rw [List.map_cons,List.foldl_cons]
    unfold forL
    obtain ⟨l,o⟩:=p
    cases o with
    | none =>
      simp [aT,dG,iu,bO]
      simpa [p6,bO] using e
    | some u =>
      have hu:=h (l,some u) List.mem_cons_self u rfl
      have hx:ixN L.length u=some u.toNat:=by unfold ixN; rw [if_pos hu.1,if_pos (by omega)]
      have nl:gQ (.int k)=true:=by unfold gQ; rfl
      simp [aT,dG,iu,bO,qR,hx,nl]
      simpa [p6,bO] using e
theorem AO (es:List Er) (rs:List Int) (k:Nat) (t:Int) (h:k < rs.length):hts es (rs.drop k) k t=if (aK es (rs.getD k 0)).has t then some (k:Int) else hts es (rs.drop (k + 1)) ((k + 1:Nat):Int) t:=by
  rw [List.drop_eq_getElem_cons h]
  show (if _ then _ else _)=_
  rw [List.getD_eq_getElem?_getD,List.getElem?_eq_getElem h]
  simp
theorem qP (cs:Cs):∀ ds,ds.length=2→bP ds≠.no→aV (e9 cs (ds.map some++List.replicate 4 none))=bP ds:=by
  intro ds hl hne
  obtain ⟨d,r,rfl⟩:∃ d r,ds=[d,r]:=by
    match ds,hl with
    | [d,r],_=>exact ⟨d,r,rfl⟩
  unfold bP at hne
  simp only at hne
  split at hne
  · rename_i hc
    rw [Bool.and_eq_true] at hc
    obtain ⟨e1,hlen,hsh⟩:=kh hc.1
    obtain ⟨e2,hr⟩:=en hc.2
    rw [← e1,← e2]
    generalize bN d=es at *
    generalize bQ r=rs at *
    rw [iU hlen hsh hr]
    have hn:=hr.len
    -- the outer loop
    have outer:∃ δ',forL (cn 3) (jC [2] (dR (g2 dIx (g2 dIx (ah 0) (g2 dIx (ah 1) (ah 3))) (gC (.int 3)))) (dG [4,5]) (sIf (gT (g1 fv (ah 5))) (qR 2 (ah 5) (ah 3)) b3))
        (iy ((rs.length:Int) - 1) (-1) rs.length) [some (av es),some (ao rs),some (.list [.none,.none,.none,.none]),none,none,none]=.nx δ' ∧
        (∃ x3 x4 x5,δ'=[some (av es),some (ao rs),some (.list ((List.range 4).map fun (t:Nat)=>bO (hts es (rs.drop (rs.length - (0 + (iy ((rs.length:Int) - 1) (-1) rs.length).length))) (((rs.length - (0 + (iy ((rs.length:Int) - 1) (-1) rs.length).length):Nat):Int)) t))),x3,x4,x5]):=by
      refine iL (β:=Unit) (fun i δ=>∃ x3 x4 x5,δ=[some (av es),some (ao rs),some (.list ((List.range 4).map fun (t:Nat)=>bO (hts es (rs.drop (rs.length - i)) ((rs.length - i:Nat):Int) t))),x3,x4,x5]) _ 0 ?_ _ ⟨none,none,none,?_⟩
      · rintro i dd δ hi ⟨x3,x4,x5,rfl⟩
        rw [Nat.zero_add] at *
        have hil:i < rs.length:=by
          have:=(List.getElem?_eq_some_iff.mp hi).1
          rwa [iA] at this
        have hdd:dd=.int (((rs.length - (i + 1):Nat):Int)):=by
          unfold iy at hi
          rw [List.getElem?_map,List.getElem?_range hil] at hi
          simp at hi
          rw [← hi]; congr 1; omega
        subst hdd
        generalize hk:rs.length - (i + 1)=k at *
        have hki:rs.length - i=k + 1:=by omega
        rw [hki]
        have hkl:k < rs.length:=by omega
        have hrk:=hr.rng (rs.getD k 0) (by rw [List.getD_eq_getElem?_getD,List.getElem?_eq_getElem hkl]; exact List.getElem_mem hkl)
        have hsk:=hsh _ (b4 hrk.1 (by omega))
        obtain ⟨y4,y5,e⟩:=lZ (av es) (ao rs) k (aK es (rs.getD k 0)).parts ((List.range 4).map fun (t:Nat)=>bO (hts es (rs.drop (k + 1)) ((k + 1:Nat):Int) t)) x4 x5 (by simp) (fun p hp=>(hsk.pl p hp).2.2)
        have a1:atI (rs.map PyData.int) (k:Int)=some (.int (rs.getD k 0)):=by rw [zP (by omega) (by omega)]; simp
        have a2:atI (es.map Er.d) (rs.getD k 0)=some (aK es (rs.getD k 0)).d:=ee hrk.1 (by omega)
        refine ⟨[some (av es),some (ao rs),some (.list ((List.range 4).map fun (t:Nat)=>bO (hts es (rs.drop (k + 1)) ((k + 1:Nat):Int) t))),some (.int k),x4,x5],_,by simp [cn],?_,some (.int k),y4,y5,rfl⟩
        rw [fS]
        have src:dR (g2 dIx (g2 dIx (ah 0) (g2 dIx (ah 1) (ah 3))) (gC (.int 3))) (mask [2] [some (av es),some (ao rs),some (.list ((List.range 4).map fun (t:Nat)=>bO (hts es (rs.drop (k + 1)) ((k + 1:Nat):Int) t))),some (.int (k:Int)),x4,x5])=.ok ((aK es (rs.getD k 0)).parts.map aT):=by
          simp only [mn,cF,aJ (show 0 ∉ [2] by decide),aJ (show 1 ∉ [2] by decide),aJ (show 3 ∉ [2] by decide),az,aA,dB,Rs.aj]
          simp only [av,ao,lV,a1,a2,zO,Rs.aq,Rs.aj,oC]
        rw [src,aE,e]
        have hL:(aK es (rs.getD k 0)).parts.foldl (p6 k) ((List.range 4).map fun (t:Nat)=>bO (hts es (rs.drop (k + 1)) ((k + 1:Nat):Int) t))=(List.range 4).map fun (t:Nat)=>bO (hts es (rs.drop k) k t):=?hL
        rw [hL]
        case hL =>
        apply List.ext_getElem?
        intro t
        by_cases ht:t < 4
        · rw [rE _ _ _ _ (fun p hp=>(hsk.pl p hp).2.2) (by simpa using ht),List.getElem?_map,List.getElem?_map,List.getElem?_range ht]
          rw [Option.map_some,Option.map_some,AO es rs k t hkl]
          unfold Er.has
          split <;> rfl
        · rw [List.getElem?_eq_none (by rw [rM]; simp; omega),List.getElem?_eq_none (by simp; omega)]
      · simp [hts]; rfl
    rw [iA,Nat.zero_add,Nat.sub_self] at outer
    obtain ⟨δ',e,x3,x4,x5,rfl⟩:=outer
    have r3:=zm rs.length (by omega)
    have hown:lR [2] 2 (af (gC .none) (af (gC .none) (af (gC .none) (af (gC .none) ar)))) [some (av es),some (ao rs),none,none,none,none]=.nx [some (av es),some (ao rs),some (.list [.none,.none,.none,.none]),none,none,none]:=rfl
    have src:xC (af (g2 g5 (gF eN (af (ah 1) ar)) (gC (.int 1))) (af (g1 iR (gC (.int 1))) (af (g1 iR (gC (.int 1))) ar))) (mask [2] [some (av es),some (ao rs),some (.list [.none,.none,.none,.none]),none,none,none])=.ok (iy ((rs.length:Int) - 1) (-1) rs.length):=by
      simp only [BV,aO,aX,cF,sM,nG,aJ (show 1 ∉ [2] by decide),az,aA,dB,Rs.aj,ao,tE,Rs.aq,oE,vV,List.length_map]
      exact r3
    show aV (e9 cs [some (av es),some (ao rs),none,none,none,none])=_
    simp only [e9,aZ,hown,fS,src,aE]
    rw [e]
    simp [bc]
  · exact absurd rfl hne
end RS
set_option maxRecDepth 100000
set_option maxHeartbeats 1000000
namespace RS
open PySem L2
theorem xc {rs:List Int} {n:Int} (h:n∈rs):placeOf rs n < rs.length:=List.findIdx_lt_length_of_exists ⟨n,h,by simp⟩
theorem uM:∀ {l m:List Int},l.Nodup→(∀ x∈l,x∈m)→l.length≤m.length
  | [],m,_,_=>Nat.zero_le _
  | x::r,m,hn,hs=>by
    rw [List.nodup_cons] at hn
    have hx:=hs x List.mem_cons_self
    have:=uM (l:=r) (m:=m.erase x) hn.2 fun y hy=>by
      rw [List.mem_erase_of_ne (by rintro rfl; exact hn.1 hy)]
      exact hs y (List.mem_cons_of_mem _ hy)
    rw [List.length_erase_of_mem hx] at this
    have hp:=List.length_pos_of_mem hx
    rw [List.length_cons]; omega
theorem bx.mem {k:Nat} {rs:List Int} (h:bx k rs) {n:Int} (h0:0≤n) (h1:n < k):n∈rs:=by
  have base:∀ x:Int,0≤x→x < k→x∈(List.range k).map fun (i:Nat)=>(i:Int):=fun x a b=>List.mem_map.mpr ⟨x.toNat,List.mem_range.mpr (by omega),by omega⟩
  by_cases z:n∈rs
  · exact z
  · exfalso
    have:=uM (l:=n::rs) (m:=(List.range k).map fun (i:Nat)=>(i:Int)) (List.nodup_cons.mpr ⟨z,h.nd⟩) fun x hx=>by
      rcases List.mem_cons.mp hx with q | q
      · rw [q]; exact base n h0 h1
      · have:=h.rng x q
        exact base x this.1 this.2
    have hl:=h.len
    simp at this
    omega
theorem oB (ns:List Int):(ns.map PyData.int).all f9=true:=by
  rw [List.all_eq_true]; intro d hd; obtain ⟨n,_,rfl⟩:=List.mem_map.mp hd; rfl
theorem nA (n:Int):∀ rs:List Int,n∈rs→(((rs.map PyData.int).map toV).findIdx? fun z=>eqV z (.int n))=some (placeOf rs n)
  | [],h=>by cases h
  | r::rs,h=>by
    have ev:eqV (.int r) (.int n)=(r == n):=rfl
    rw [List.map_cons,List.map_cons,List.findIdx?_cons]
    unfold placeOf
    rw [List.findIdx_cons]
    show (if eqV (.int r) (.int n)=true then some 0 else _)=_
    rw [ev]
    cases hr:r == n with
    | true=>rfl
    | false =>
      have hne:r≠n:=by simpa using hr
      have:=nA n rs ((List.mem_cons.mp h).resolve_left fun q=>hne q.symm)
      rw [if_neg Bool.false_ne_true,this]
      rfl
theorem iT {rs:List Int} {n:Int} (h:n∈rs):oq (rs.map .int) (.int n)=some (.int (placeOf rs n)):=by
  unfold oq
  rw [oB,show f9 (.int n)=true from rfl]
  simp only [Bool.and_self,if_true]
  rw [show toV (.int n)=.int n from rfl,nA n rs h]; rfl
@[simp] theorem ur (go ga:Ds→Rs PyData) (δ:Ds):rg go ga δ=(go δ).bind fun d=>match d with | .tuple xs=>(ga δ).bind fun y=>Rs.gu (oq xs y) | _=>.no:=rfl
theorem ng {xs:List PyData} {k:Nat}:cutD xs (some (k:Int)) none=xs.drop k:=by
  unfold cutD
  have e1:HT.sIx xs.length 0 (some (k:Int))=min k xs.length:=HT.xJ _ _ _
  have e2:HT.sIx xs.length xs.length none=xs.length:=rfl
  rw [e1,e2]
  by_cases h:k≤xs.length
  · rw [Nat.min_eq_left h]; exact List.take_of_length_le (by simp)
  · rw [Nat.min_eq_right (by omega),List.drop_of_length_le (Nat.le_refl _),List.drop_of_length_le (by omega)]; simp
theorem p8 {xs:List PyData} {k:Nat}:cutD xs none (some (k:Int))=xs.take k:=by
  unfold cutD
  have e1:HT.sIx xs.length 0 none=0:=rfl
  have e2:HT.sIx xs.length xs.length (some (k:Int))=min k xs.length:=HT.xJ _ _ _
  rw [e1,e2]
  simp
theorem p0 (es:List Er) (t:Int):∀ (rs:List Int) (k:Int) (m:Int),m∈rs→(aK es m).has t=true→∃ h,hts es rs k t=some h
  | [],_,_,h,_=>by cases h
  | r::rs,k,m,h,ht=>by
    unfold hts
    by_cases z:(aK es r).has t=true
    · exact ⟨k,by rw [if_pos z]⟩
    · rw [if_neg z]
      rcases List.mem_cons.mp h with q | q
      · subst q; exact absurd ht z
      · exact p0 es t rs (k + 1) m q ht
theorem qj {es:List Er} {rs:List Int} {t:Int} (h0:0≤t) (h3:t≤3):atI ((List.range 4).map fun (t:Nat)=>bO (bc es rs t)) t=some (bO (bc es rs t)):=by
  rw [mx (j:=t.toNat) (by omega),List.getElem?_map,List.getElem?_range (by omega)]
  simp only [Option.map_some]
  rw [Int.toNat_of_nonneg h0]
noncomputable def b5:Gf
  | [d,r,.int n]=>if jv d && cE (bN d).length r && decide (0≤n) && decide (n < (bN d).length) then .ok (.int (cM (bN d) (bQ r) n)) else .no
  | _=>.no
theorem kF {es:List Er} {rs:List Int} {n:Int} (h1:es.length≤100) (h:∀ e∈es,e.Sh) (hr:bx es.length rs) (n0:0≤n) (n1:n < es.length):b5 [av es,ao rs,.int n]=.ok (.int (cM es rs n)):=by
  unfold b5; simp [fU h1 h,cu,cP hr,cw,n0,n1]
theorem DR {d r x:PyData} {f:PyData→PyData→Int→Bool} {g:PyData→PyData→Int→PyData} {gf:Gf} (hgf:∀ d r n,gf [d,r,.int n]=if f d r n then .ok (g d r n) else .no) (hno:∀ d r x,(∀ n,x≠.int n)→gf [d,r,x]=.no) (h:gf [d,r,x]≠.no):∃ n,x=.int n∧f d r n=true:=by
  cases x with
  | int n =>
    refine ⟨n,rfl,?_⟩
    rw [hgf] at h
    by_cases z:f d r n=true
    · exact z
    · rw [if_neg z] at h; exact absurd rfl h
  | _=>exact absurd (hno d r _ (by intro n q; cases q)) h
theorem pK (es:List Er) (rs:List Int) (E R n:PyData) (pl:Nat) (lo:PyData) (HL:List PyData) (hHL:∀ t:Int,0≤t→t≤3→atI HL t=some (bO (bc es rs t))):∀ (ps:List (Int × Option Int)) (acc:Int) (x7 x8:Option PyData),(∀ p∈ps,∀ t,p.2=some t→0≤t∧t≤3∧∃ h,bc es rs t=some h) →
    ∃ y7 y8,forL (dG [7,8]) (sIf (uc (gT (g1 fv (ah 8))) (gT (g2 dLe (g2 dIx (ah 4) (ah 8)) (ah 3)))) (bp [] 5 (gF qu (af (ah 5) (af (g2 g5 (ah 7) (gC (.int 1))) ar)))) b3) (ps.map aT)
      [some E,some R,some n,some (.int pl),some (.list HL),some (.int acc),some lo,x7,x8]
     =.nx [some E,some R,some n,some (.int pl),some (.list HL),some (.int (ps.foldl (c5 es rs pl) acc)),some lo,y7,y8]
  | [],acc,x7,x8,_=>⟨x7,x8,rfl⟩
  | p::r,acc,x7,x8,h=>by
    obtain ⟨y7,y8,e⟩:=pK es rs E R n pl lo HL hHL r (c5 es rs pl acc p) (some (.int p.1)) (some (bO p.2)) (fun q hq=>h q (List.mem_cons_of_mem _ hq))
    refine ⟨y7,y8,?_⟩
    rw [List.map_cons,List.foldl_cons]
    unfold forL
    obtain ⟨l,o⟩:=p
    cases o with
    | none =>
      simp [aT,dG,iu,bO]
      simpa [c5,bO] using e
    | some t =>
      obtain ⟨h0,h3,hh,ht⟩:=h (l,some t) List.mem_cons_self t rfl
      have ha:=hHL t h0 h3
      rw [ht] at ha
      by_cases hle:hh≤(pl:Int)
      · have em:c5 es rs pl acc (l,some t)=if l - 1 > acc then l - 1 else acc:=by
          unfold c5; simp only [ht,if_pos hle]; split <;> omega
        rw [em] at e ⊢
        simp only [aT,bO] at e
        simp [aT,dG,iu,bO,ha,hle]
        exact e
      · have em:c5 es rs pl acc (l,some t)=acc:=by unfold c5; simp only [ht,if_neg hle]
        rw [em] at e ⊢
        simp only [aT,bO] at e
        simp [aT,dG,iu,bO,ha,hle]
        exact e
theorem Aw {e:Er} {p:Int × Option Int} {t:Int} (hp:p∈e.parts) (h:p.2=some t):e.has t=true:=List.any_eq_true.mpr ⟨p,hp,by simp [h]⟩
theorem qr {es:List Er} {rs:List Int} (hsh:∀ e∈es,e.Sh) (hr:bx es.length rs) (n:PyData) (pl:Nat):∀ (ms:List Int) (acc:Int) (x6 x7 x8:Option PyData),(∀ m∈ms,m∈rs) →
    ∃ y6 y7 y8,forL (cn 6) (jC [] (dR (g2 dIx (g2 dIx (ah 0) (ah 6)) (gC (.int 3)))) (dG [7,8]) (sIf (uc (gT (g1 fv (ah 8))) (gT (g2 dLe (g2 dIx (ah 4) (ah 8)) (ah 3)))) (bp [] 5 (gF qu (af (ah 5) (af (g2 g5 (ah 7) (gC (.int 1))) ar)))) b3)) (ms.map PyData.int)
      [some (av es),some (ao rs),some n,some (.int pl),some (.list ((List.range 4).map fun (t:Nat)=>bO (bc es rs t))),some (.int acc),x6,x7,x8]
     =.nx [some (av es),some (ao rs),some n,some (.int pl),some (.list ((List.range 4).map fun (t:Nat)=>bO (bc es rs t))),some (.int (((ms.map fun m=>(aK es m).parts).flatten).foldl (c5 es rs pl) acc)),y6,y7,y8]
  | [],acc,x6,x7,x8,_=>⟨x6,x7,x8,rfl⟩
  | m::r,acc,x6,x7,x8,h=>by
    have hm:=h m List.mem_cons_self
    have hrg:=hr.rng m hm
    have hsm:=hsh _ (b4 hrg.1 (by omega))
    obtain ⟨z7,z8,e1⟩:=pK es rs (av es) (ao rs) n pl (.int m) ((List.range 4).map fun (t:Nat)=>bO (bc es rs t)) (fun t a b=>qj a b) (aK es m).parts acc x7 x8 fun p hp t ht=>by
      obtain ⟨_,_,c⟩:=hsm.pl p hp
      have:=c t ht
      exact ⟨this.1,this.2,p0 es t rs 0 m hm (Aw hp ht)⟩
    obtain ⟨y6,y7,y8,e2⟩:=qr hsh hr n pl r ((aK es m).parts.foldl (c5 es rs pl) acc) (some (.int m)) z7 z8 fun x hx=>h x (List.mem_cons_of_mem _ hx)
    refine ⟨y6,y7,y8,?_⟩
    rw [List.map_cons,List.map_cons,List.flatten_cons,List.foldl_append]
    unfold forL
    have a2:atI (es.map Er.d) m=some (aK es m).d:=ee hrg.1 (by omega)
    have src:dR (g2 dIx (g2 dIx (ah 0) (ah 6)) (gC (.int 3))) [some (av es),some (ao rs),some n,some (.int pl),some (.list ((List.range 4).map fun (t:Nat)=>bO (bc es rs t))),some (.int acc),some (.int m),x7,x8]=.ok ((aK es m).parts.map aT):=by
      simp only [mn,cF,az,aA,dB,Rs.aj,av,lV,a2,Rs.aq,zO,oC]
    have ht:cn 6 (.int m) [some (av es),some (ao rs),some n,some (.int pl),some (.list ((List.range 4).map fun (t:Nat)=>bO (bc es rs t))),some (.int acc),x6,x7,x8]=some [some (av es),some (ao rs),some n,some (.int pl),some (.list ((List.range 4).map fun (t:Nat)=>bO (bc es rs t))),some (.int acc),some (.int m),x7,x8]:=rfl
    rw [ht]
    simp only [fS,dZ,src,aE,e1]
    exact e2
theorem wU (cs:Cs):∀ ds,ds.length=3→b5 ds≠.no→aV (iE cs bP (ds.map some++List.replicate 6 none))=b5 ds:=by
  intro ds hl hne
  obtain ⟨d,r,x,rfl⟩:∃ d r x,ds=[d,r,x]:=by
    match ds,hl with
    | [d,r,x],_=>exact ⟨d,r,x,rfl⟩
  obtain ⟨n,rfl,hc⟩:=DR (gf:=b5) (fun _ _ _=>rfl) (fun d r x hx=>by unfold b5; split <;> first | (rename_i q; injection q with _ q; injection q with _ q; injection q with q _; exact absurd q (hx _)) | rfl) hne
  simp only [Bool.and_eq_true,decide_eq_true_eq] at hc
  obtain ⟨⟨⟨c1,c2⟩,n0⟩,n1⟩:=hc
  obtain ⟨e1,hlen,hsh⟩:=kh c1
  obtain ⟨e2,hr⟩:=en c2
  rw [← e1,← e2]
  generalize bN d=es at *
  generalize bQ r=rs at *
  rw [kF hlen hsh hr n0 n1]
  have hmem:=hr.mem n0 (by omega)
  have hix:=iT hmem
  have hh:=iU hlen hsh hr
  obtain ⟨y6,y7,y8,e⟩:=qr hsh hr (.int n) (placeOf rs n) (rs.drop (placeOf rs n + 1)) 0 none none none (fun m hm=>List.mem_of_mem_drop hm)
  have src:dR (c8 (ah 1) (eX (g2 bb (ah 3) (gC (.int 1)))) cB) [some (av es),some (ao rs),some (.int n),some (.int (placeOf rs n)),some (.list ((List.range 4).map fun (t:Nat)=>bO (bc es rs t))),some (.int 0),none,none,none]=.ok ((rs.drop (placeOf rs n + 1)).map PyData.int):=by
    simp only [mn,fT,h9,eU,cF,az,aA,dB,Rs.aj,dD,Rs.aq,hW,ao,jW,oC]
    rw [show (placeOf rs n:Int) + 1=((placeOf rs n + 1:Nat):Int) by omega,ng,List.map_drop]
  show aV (iE cs bP [some (av es),some (ao rs),some (.int n),none,none,none,none,none,none])=_
  simp only [iE,aZ,dk,List.length_cons,List.length_nil,ur,az,aA,Rs.aj,ao,hix,Rs.aq]
  simp only [Nat.reduceAdd,Nat.reduceLT,if_true,aE,List.set_cons_succ,List.set_cons_zero,bu,aO,aX,az,aA,Rs.aj]
  rw [show (PyData.tuple (rs.map PyData.int))=ao rs from rfl,hh]
  simp only [aE,List.length_cons,List.length_nil,Nat.reduceAdd,Nat.reduceLT,if_true,List.set_cons_succ,List.set_cons_zero,dB,fS,dZ,src]
  rw [e]
  rfl
end RS
set_option maxRecDepth 100000
set_option maxHeartbeats 1000000
namespace RS
open PySem L2
theorem qv:∀ (ps:List (Int × Option Int)),(∀ p∈ps,0≤p.1∧p.1≤1000000)→0≤(ps.map (·.1)).sum∧(ps.map (·.1)).sum≤1000000 * ps.length
  | [],_=>by simp
  | p::r,h=>by
    have h1:=h p List.mem_cons_self
    have h2:=qv r fun q hq=>h q (List.mem_cons_of_mem _ hq)
    simp only [List.map_cons,List.sum_cons,List.length_cons]
    omega
theorem Er.Sh.work_b {e:Er} (h:e.Sh):0≤e.work∧e.work≤1000000000:=by
  have:=qv e.parts fun p hp=>⟨(h.pl p hp).1,(h.pl p hp).2.1⟩
  have h2:=h.pn
  unfold Er.work
  omega
theorem CZ {a b:Int} (h1:-(2 ^ 64) < b) (h2:b < 2 ^ 64):mY (.int a) (.int b)=some (.int (a * b)):=by
  show (if _ then _ else _)=_
  rw [if_pos (.inr ⟨h1,h2⟩)]
theorem w6 {a b:Int} (h1:-(2 ^ 64) < a) (h2:a < 2 ^ 64):mY (.int a) (.int b)=some (.int (a * b)):=by
  show (if _ then _ else _)=_
  rw [if_pos (.inl ⟨h1,h2⟩)]
noncomputable def cj:Gf
  | [d,r,.int n,.int t]=>if jv d && cE (bN d).length r && decide (0≤n) && decide (n < (bN d).length) then .ok (.int (dz (bN d) (bQ r) n t)) else .no
  | _=>.no
theorem k8 {es:List Er} {rs:List Int} {n t:Int} (h1:es.length≤100) (h:∀ e∈es,e.Sh) (hr:bx es.length rs) (n0:0≤n) (n1:n < es.length):cj [av es,ao rs,.int n,.int t]=.ok (.int (dz es rs n t)):=by
  unfold cj; simp [fU h1 h,cu,cP hr,cw,n0,n1]
theorem sr {es:List Er} {rs:List Int} (hsh:∀ e∈es,e.Sh) (hr:bx es.length rs) (n:PyData) (t:Int):∀ (ms:List Int) (acc:Int) (x5 x6 x7 x8 x9 x10:Option PyData),(∀ m∈ms,m∈rs) →
    ∃ y5 y6 y7 y8 y9 y10,forL (cn 5) (bj (sS [] (dG [6,7,8,9]) (g2 dIx (ah 0) (ah 5)))
    (bj (bp [] 10 (g2 bb (g2 tL (g2 bb (ah 3) (ah 8)) (ah 6)) (gF uD (af (g2 dGt (g2 o5 (g2 bb (ah 3) (ah 8)) (ah 6)) (gC (.int 0))) ar))))
    (bp [] 4 (g2 bb (ah 4) (g2 mY (ah 10) (ay bh (af (g2 dIx (ah 0) (ah 5)) ar))))))) (ms.map PyData.int)
      [some (av es),some (ao rs),some n,some (.int t),some (.int acc),x5,x6,x7,x8,x9,x10]
     =.nx [some (av es),some (ao rs),some n,some (.int t),some (.int (acc + (ms.map fun m=>(aK es m).times t * (aK es m).work).sum)),y5,y6,y7,y8,y9,y10]
  | [],acc,x5,x6,x7,x8,x9,x10,_=>⟨x5,x6,x7,x8,x9,x10,by simp [forL]⟩
  | m::r,acc,x5,x6,x7,x8,x9,x10,h=>by
    have hm:=h m List.mem_cons_self
    have hrg:=hr.rng m hm
    have hsm:=hsh _ (b4 hrg.1 (by omega))
    have a2:atI (es.map Er.d) m=some (aK es m).d:=ee hrg.1 (by omega)
    obtain ⟨y5,y6,y7,y8,y9,y10,e2⟩:=sr hsh hr n t r (acc + (aK es m).times t * (aK es m).work) (some (.int m)) (some (.int (aK es m).every)) (some (.int (aK es m).due)) (some (.int (aK es m).late)) (some (.tuple ((aK es m).parts.map aT))) (some (.int ((aK es m).times t))) fun x hx=>h x (List.mem_cons_of_mem _ hx)
    refine ⟨y5,y6,y7,y8,y9,y10,?_⟩
    have hw:=hsm.work_b
    have hgw:=eF hsm
    rw [List.map_cons,List.map_cons,List.sum_cons,← Int.add_assoc]
    unfold forL
    generalize hE:aK es m=e at *
    have he:e.d=.tuple [.int e.every,.int e.due,.int e.late,.tuple (e.parts.map aT)]:=rfl
    have st1:sS [] (dG [6,7,8,9]) (g2 dIx (ah 0) (ah 5)) [some (av es),some (ao rs),some n,some (.int t),some (.int acc),some (.int m),x6,x7,x8,x9,x10]=.nx [some (av es),some (ao rs),some n,some (.int t),some (.int acc),some (.int m),some (.int e.every),some (.int e.due),some (.int e.late),some (.tuple (e.parts.map aT)),x10]:=by
      unfold sS
      rw [dZ]
      simp only [cF,az,aA,Rs.aj,av,lV,a2,Rs.aq,aE,he]
      rfl
    have ht:cn 5 (.int m) [some (av es),some (ao rs),some n,some (.int t),some (.int acc),x5,x6,x7,x8,x9,x10]=some [some (av es),some (ao rs),some n,some (.int t),some (.int acc),some (.int m),x6,x7,x8,x9,x10]:=rfl
    have ev1:=hsm.e1
    have ev2:=hsm.e2
    have etm:(t + e.late) / e.every + (if decide (0 < (t + e.late) % e.every) then 1 else 0)=e.times t:=by unfold Er.times; simp
    rw [ht]
    simp only [aZ,st1]
    simp only [dk,List.length_cons,List.length_nil,Nat.reduceAdd,Nat.reduceLT,if_true,cF,nG,aO,aX,az,aA,dB,Rs.aj,dD,Rs.aq,zI,CB,Fy,Ah,if_pos (show 0 < e.every∧e.every < 1073741824 from ⟨by omega,ev2⟩),if_pos (show 0 < e.every by omega),aE,List.set_cons_succ,List.set_cons_zero,etm,bu,av,lV,a2,hgw]
    simp only [CZ (a:=e.times t) (show -(2 ^ 64) < e.work by omega) (show e.work < 2 ^ 64 by omega),Rs.aq,Rs.aj,dD,aE]
    exact e2
theorem nr {f:PyData→PyData→Int→Int→Rs PyData} {ds:List PyData} (h:(match ds with | [x0,x1,.int x2,.int x3]=>f x0 x1 x2 x3 | _=>.no)≠.no):∃ x0 x1 x2 x3,ds=[x0,x1,.int x2,.int x3]∧f x0 x1 x2 x3≠.no:=by
  rcases ds with _ | ⟨x0,_ | ⟨x1,_ | ⟨x2,_ | ⟨x3,_ | ⟨y,ys⟩⟩⟩⟩⟩
  · exact absurd rfl h
  · exact absurd rfl h
  · exact absurd rfl h
  · first | exact absurd rfl h | (cases x2 <;> exact absurd rfl h)
  · skip
    cases x2 with
    | int x2 =>
      cases x3 with
      | int x3 =>
        exact ⟨_,_,_,_,rfl,h⟩
      | _=>exact absurd rfl h
    | _=>first | exact absurd rfl h | (cases x3 <;> exact absurd rfl h)
  · first | exact absurd rfl h | (cases x2 <;> first | exact absurd rfl h | (cases x3 <;> exact absurd rfl h))
theorem xx (cs:Cs):∀ ds,ds.length=4→cj ds≠.no→aV (ir cs bh b5 (ds.map some++List.replicate 7 none))=cj ds:=by
  intro ds hl hne
  obtain ⟨d,r,n,t,ez,hz⟩:=nr hne
  clear hne; subst ez; have hne:=hz; clear hz
  · skip
    split at hne
    · rename_i hc
      simp only [Bool.and_eq_true,decide_eq_true_eq] at hc
      obtain ⟨⟨⟨c1,c2⟩,n0⟩,n1⟩:=hc
      obtain ⟨e1,hlen,hsh⟩:=kh c1
      obtain ⟨e2,hr⟩:=en c2
      rw [← e1,← e2]
      generalize bN d=es at *
      generalize bQ r=rs at *
      rw [k8 hlen hsh hr n0 n1]
      have hmem:=hr.mem n0 (by omega)
      have hix:=iT hmem
      have hh:=kF hlen hsh hr n0 n1
      have hsn:=hsh _ (b4 n0 n1)
      have a2:atI (es.map Er.d) n=some (aK es n).d:=ee n0 n1
      have hgw:=eF hsn
      obtain ⟨y5,y6,y7,y8,y9,y10,e⟩:=sr hsh hr (.int n) t (rs.take (placeOf rs n)) (cM es rs n + (aK es n).work) none none none none none none (fun m hm=>List.mem_of_mem_take hm)
      have src:dR (c8 (ah 1) cB (eX (rg (ah 1) (ah 2)))) [some (av es),some (ao rs),some (.int n),some (.int t),some (.int (cM es rs n + (aK es n).work)),none,none,none,none,none,none]=.ok ((rs.take (placeOf rs n)).map PyData.int):=by
        simp only [mn,fT,h9,eU,ur,az,aA,Rs.aj,ao,hix,Rs.aq,hW,jW,oC]
        rw [p8,List.map_take]
      have st0:bp [] 4 (g2 bb (ay b5 (af (ah 0) (af (ah 1) (af (ah 2) ar)))) (ay bh (af (g2 dIx (ah 0) (ah 2)) ar))) [some (av es),some (ao rs),some (.int n),some (.int t),none,none,none,none,none,none,none]
         =.nx [some (av es),some (ao rs),some (.int n),some (.int t),some (.int (cM es rs n + (aK es n).work)),none,none,none,none,none,none]:=by
        simp only [dk,List.length_cons,List.length_nil,Nat.reduceAdd,Nat.reduceLT,if_true,cF,bu,aO,aX,az,aA,Rs.aj,hh]
        simp only [av,lV,a2,Rs.aq,Rs.aj,hgw,dD,aE]
        rfl
      show aV (ir cs bh b5 [some (av es),some (ao rs),some (.int n),some (.int t),none,none,none,none,none,none,none])=_
      simp only [ir]
      rw [aZ,st0]
      simp only
      rw [aZ,fS,dZ,src,aE,e]
      rfl
    · exact absurd rfl hne
noncomputable def bT:Gf
  | [d,r,.int n]=>if jv d && cE (bN d).length r && decide (0≤n) && decide (n < (bN d).length) then .ok (bO (bL (bN d) (bQ r) n)) else .no
  | _=>.no
theorem i6 {es:List Er} {rs:List Int} {n:Int} (h1:es.length≤100) (h:∀ e∈es,e.Sh) (hr:bx es.length rs) (n0:0≤n) (n1:n < es.length):bT [av es,ao rs,.int n]=.ok (bO (bL es rs n)):=by
  unfold bT; simp [fU h1 h,cu,cP hr,cw,n0,n1]
theorem mV (p:Int→Bool):∀ l:List Int,(l.map PyData.int).findSome? (fun d=>match d with | .int t=>if p t then some (.int t) else none | _=>none)=(l.find? p).map PyData.int
  | []=>rfl
  | x::r=>by
    rw [List.map_cons,List.findSome?_cons,List.find?_cons]
    cases h:p x with
    | true=>simp [h]
    | false=>simpa [h] using mV p r
theorem g8 {f:PyData→PyData→Int→Rs PyData} {ds:List PyData} (h:(match ds with | [x0,x1,.int x2]=>f x0 x1 x2 | _=>.no)≠.no):∃ x0 x1 x2,ds=[x0,x1,.int x2]∧f x0 x1 x2≠.no:=by
  rcases ds with _ | ⟨x0,_ | ⟨x1,_ | ⟨x2,_ | ⟨y,ys⟩⟩⟩⟩
  · exact absurd rfl h
  · exact absurd rfl h
  · exact absurd rfl h
  · skip
    cases x2 with
    | int x2 =>
      exact ⟨_,_,_,rfl,h⟩
    | _=>exact absurd rfl h
  · first | exact absurd rfl h | (cases x2 <;> exact absurd rfl h)
theorem rq (cs:Cs):∀ ds,ds.length=3→bT ds≠.no→aV (e8 cs cj (ds.map some++List.replicate 1 none))=bT ds:=by
  intro ds hl hne
  obtain ⟨d,r,n,ez,hz⟩:=g8 hne
  clear hne; subst ez; have hne:=hz; clear hz
  · skip
    split at hne
    · rename_i hc
      simp only [Bool.and_eq_true,decide_eq_true_eq] at hc
      obtain ⟨⟨⟨c1,c2⟩,n0⟩,n1⟩:=hc
      obtain ⟨e1,hlen,hsh⟩:=kh c1
      obtain ⟨e2,hr⟩:=en c2
      rw [← e1,← e2]
      generalize bN d=es at *
      generalize bQ r=rs at *
      rw [i6 hlen hsh hr n0 n1]
      have hsn:=hsh _ (b4 n0 n1)
      have a2:atI (es.map Er.d) n=some (aK es n).d:=ee n0 n1
      have ev1:=hsn.e1; have ev2:=hsn.e2; have l1:=hsn.l1; have l2:=hsn.l2
      have src:yc (af (gC (.int 1)) (af (g2 bb (g2 g5 (g2 dIx (g2 dIx (ah 0) (ah 2)) (gC (.int 0))) (g2 dIx (g2 dIx (ah 0) (ah 2)) (gC (.int 2)))) (gC (.int 1))) ar)) [some (av es),some (ao rs),some (.int n),none]
         =.ok (((List.range ((aK es n).every - (aK es n).late).toNat).map fun (i:Nat)=>(1 + (i:Int))).map PyData.int):=by
        have he:∀ e:Er,e.d=.tuple [.int e.every,.int e.due,.int e.late,.tuple (e.parts.map aT)]:=fun _=>rfl
        simp only [Cn,aO,aX,cF,az,aA,dB,Rs.aj,av,lV,a2,Rs.aq,he,Fq,FN,List.getElem?_cons_zero,List.getElem?_cons_succ,oE,dD]
        show (if _ then _ else _)=_
        rw [if_pos (by omega)]
        congr 1
        unfold cm
        rw [List.map_map,show ((aK es n).every - (aK es n).late + 1 - 1)=(aK es n).every - (aK es n).late by omega]
        rfl
      have loop:=r8 (tgt:=cn 3) (body:=sIf (gT (g2 dLe (ay cj (af (ah 0) (af (ah 1) (af (ah 2) (af (ah 3) ar))))) (ah 3))) (b0 (ah 3)) b3)
        (fun δ=>∃ x,δ=[some (av es),some (ao rs),some (.int n),x]) (fun d=>match d with | .int t=>if decide (dz es rs n t≤t) then some (.int t) else none | _=>none)
        (((List.range ((aK es n).every - (aK es n).late).toNat).map fun (i:Nat)=>(1 + (i:Int))).map PyData.int) (fun d hd δ pz3=>by
          obtain ⟨x,hx⟩:=pz3
          subst hx
          obtain ⟨t,_,rfl⟩:=List.mem_map.mp hd
          refine ⟨[some (av es),some (ao rs),some (.int n),some (.int t)],rfl,?_⟩
          have hn:=k8 (t:=t) hlen hsh hr n0 n1
          by_cases z:dz es rs n t≤t
          · exact .inl ⟨.int t,by simp [z],by simp [hn,z]⟩
          · exact .inr ⟨by simp [z],_,by simp [hn,z],some (.int t),rfl⟩) [some (av es),some (ao rs),some (.int n),none] ⟨none,rfl⟩
      rw [mV] at loop
      show aV (e8 cs cj [some (av es),some (ao rs),some (.int n),none])=_
      simp only [e8]
      rw [aZ,fS,dZ,src,aE]
      unfold bL
      rcases loop with ⟨v,q1,q2⟩ | ⟨q1,δ',q2,x,rfl⟩
      · rw [q2]
        cases hf:(List.find? (fun t=>decide (dz es rs n t≤t)) ((List.range ((aK es n).every - (aK es n).late).toNat).map fun (i:Nat)=>(1 + (i:Int)))) with
        | none=>rw [hf] at q1; cases q1
        | some t=>rw [hf] at q1; cases q1; rfl
      · rw [q2]
        cases hf:(List.find? (fun t=>decide (dz es rs n t≤t)) ((List.range ((aK es n).every - (aK es n).late).toNat).map fun (i:Nat)=>(1 + (i:Int)))) with
        | none=>rfl
        | some t=>rw [hf] at q1; cases q1
    · exact absurd rfl hne
noncomputable def bD:Gf
  | [d,r,.int n]=>if jv d && cE (bN d).length r && decide (0≤n) && decide (n < (bN d).length) then .ok (.bool (dQ (bN d) (bQ r) n)) else .no
  | _=>.no
theorem iZ {es:List Er} {rs:List Int} {n:Int} (h1:es.length≤100) (h:∀ e∈es,e.Sh) (hr:bx es.length rs) (n0:0≤n) (n1:n < es.length):bD [av es,ao rs,.int n]=.ok (.bool (dQ es rs n)):=by
  unfold bD; simp [fU h1 h,cu,cP hr,cw,n0,n1]
theorem qU (cs:Cs):∀ ds,ds.length=3→bD ds≠.no→aV (d6 cs bT (ds.map some++List.replicate 1 none))=bD ds:=by
  intro ds hl hne
  obtain ⟨d,r,n,ez,hz⟩:=g8 hne
  clear hne; subst ez; have hne:=hz; clear hz
  · skip
    split at hne
    · rename_i hc
      simp only [Bool.and_eq_true,decide_eq_true_eq] at hc
      obtain ⟨⟨⟨c1,c2⟩,n0⟩,n1⟩:=hc
      obtain ⟨e1,hlen,hsh⟩:=kh c1
      obtain ⟨e2,hr⟩:=en c2
      rw [← e1,← e2]
      generalize bN d=es at *
      generalize bQ r=rs at *
      rw [iZ hlen hsh hr n0 n1]
      have a2:atI (es.map Er.d) n=some (aK es n).d:=ee n0 n1
      have a3:dIx (av es) (.int n)=some (aK es n).d:=a2
      have hg:=i6 hlen hsh hr n0 n1
      have he:∀ e:Er,dIx e.d (.int 1)=some (.int e.due):=fun _=>rfl
      unfold dQ
      show aV (d6 cs bT [some (av es),some (ao rs),some (.int n),none])=_
      cases hf:bL es rs n with
      | none=>rw [hf] at hg; simp [d6,hg,bO]
      | some t=>rw [hf] at hg; simp [d6,hg,bO,a3,he]
    · exact absurd rfl hne
end RS
set_option maxRecDepth 100000
set_option maxHeartbeats 1000000
namespace RS
open PySem L2
noncomputable def eS (B:Nat) (p:Int→Bool):Option Int:=((List.range B).map fun (i:Nat)=>(1 + (i:Int))).find? p
theorem uh (B:Nat) (p:Int→Bool):eS (B + 1) p=(eS B p).or (if p (1 + (B:Int)) then some (1 + (B:Int)) else none):=by
  unfold eS
  rw [List.range_succ,List.map_append,List.find?_append]
  congr 1
  simp only [List.map_cons,List.map_nil,List.find?_cons,List.find?_nil]
  cases p (1 + (B:Int)) <;> rfl
theorem fY {p:Int→Bool}:∀ {B:Nat} {t:Int},eS B p=some t→1≤t∧t≤B∧p t=true∧∀ s,1≤s→s < t→p s=false
  | 0,t,h=>by cases h
  | B + 1,t,h=>by
    rw [uh] at h
    cases q:eS B p with
    | some u =>
      rw [q] at h
      cases h
      obtain ⟨h1,h2,h3,h4⟩:=fY q
      exact ⟨h1,by omega,h3,h4⟩
    | none =>
      rw [q,Option.none_or] at h
      split at h
      · rename_i hp
        cases h
        refine ⟨by omega,by omega,hp,fun s h1 h2=>?_⟩
        unfold eS at q
        have:=List.find?_eq_none.mp q s (List.mem_map.mpr ⟨(s - 1).toNat,List.mem_range.mpr (by omega),by omega⟩)
        simpa using this
      · cases h
theorem nu {B:Nat} {p:Int→Bool} (h:eS B p=none):∀ s:Int,1≤s→s≤(B:Int)→p s=false:=fun s h1 h2=>by
  unfold eS at h
  have:=List.find?_eq_none.mp h s (List.mem_map.mpr ⟨(s - 1).toNat,List.mem_range.mpr (by omega),by omega⟩)
  simpa using this
theorem xb {B B':Nat} {p p':Int→Bool} {t:Int} (h:eS B p=some t) (hB:B≤B') (hp:∀ s,1≤s→p s=true→p' s=true):∃ t',eS B' p'=some t'∧t'≤t:=by
  obtain ⟨h1,h2,h3,h4⟩:=fY h
  have hp':=hp t h1 h3
  cases q:eS B' p' with
  | none=>rw [nu q t h1 (by omega)] at hp'; cases hp'
  | some u =>
    obtain ⟨u1,u2,u3,u4⟩:=fY q
    refine ⟨u,rfl,?_⟩
    by_cases z:t < u
    · rw [u4 t h1 z] at hp'; cases hp'
    · omega
theorem hV (es:List Er) (rs:List Int) (n:Int):bL es rs n=eS ((aK es n).every - (aK es n).late).toNat fun t=>decide (dz es rs n t≤t):=rfl
theorem Er.times_mono {e:Er} (h:1≤e.every) {t u:Int} (ht:t≤u):e.times t≤e.times u:=by
  unfold Er.times
  have q:=Int.ediv_le_ediv (c:=e.every) (by omega) (show t + e.late≤u + e.late by omega)
  have r1:=Int.emod_nonneg (t + e.late) (b:=e.every) (by omega)
  have r2:=Int.emod_nonneg (u + e.late) (b:=e.every) (by omega)
  have d1:=Int.mul_ediv_add_emod (t + e.late) e.every
  have d2:=Int.mul_ediv_add_emod (u + e.late) e.every
  by_cases z:(t + e.late) / e.every=(u + e.late) / e.every
  · rw [← z] at d2 ⊢
    split <;> split <;> omega
  · split <;> split <;> omega
theorem va {α:Type} (f g:α→Int):∀ l:List α,(∀ x∈l,f x≤g x)→(l.map f).sum≤(l.map g).sum
  | [],_=>Int.le_refl _
  | x::r,h=>by
    have h1:=h x List.mem_cons_self
    have h2:=va f g r fun y hy=>h y (List.mem_cons_of_mem _ hy)
    simp only [List.map_cons,List.sum_cons]
    omega
theorem gy {α:Type} (f:α→Int):∀ l:List α,(∀ x∈l,0≤f x)→0≤(l.map f).sum
  | [],_=>Int.le_refl _
  | x::r,h=>by
    have h1:=h x List.mem_cons_self
    have h2:=gy f r fun y hy=>h y (List.mem_cons_of_mem _ hy)
    simp only [List.map_cons,List.sum_cons]
    omega
theorem vI {es:List Er} {rs:List Int} {n t u:Int} (hsh:∀ e∈es,e.Sh) (hr:bx es.length rs) (ht:t≤u):dz es rs n t≤dz es rs n u:=by
  unfold dz
  have:=va (fun m=>(aK es m).times t * (aK es m).work) (fun m=>(aK es m).times u * (aK es m).work) (rs.take (placeOf rs n)) fun m hm=>by
    have hm':=hr.rng m (List.mem_of_mem_take hm)
    have hs:=hsh _ (b4 hm'.1 hm'.2)
    exact Int.mul_le_mul_of_nonneg_right (Er.times_mono hs.e1 ht) hs.work_b.1
  omega
structure nO (f:Int→Int):Prop where
  mono:∀ t u,1≤t→t≤u→f t≤f u
  one:∀ t,1≤t→1≤f t
theorem nO.fix {f:Int→Int} (R:nO f) {t:Int} (h1:1≤t) (h:f t≤t) (h4:∀ s,1≤s→s < t→¬ f s≤s):f t=t:=by
  by_cases z:f t < t
  · exact absurd (R.mono _ _ (R.one t h1) h) (fun q=>h4 (f t) (R.one t h1) z q)
  · omega
end RS
set_option maxRecDepth 100000
set_option maxHeartbeats 1000000
namespace RS
open PySem L2
theorem Er.times_le_iff {e:Er} (h:1≤e.every) {t c:Int}:e.times t≤c↔t + e.late≤e.every * c:=by
  unfold Er.times
  have r1:=Int.emod_nonneg (t + e.late) (b:=e.every) (by omega)
  have r2:=Int.emod_lt_of_pos (t + e.late) (b:=e.every) (by omega)
  have d1:=Int.mul_ediv_add_emod (t + e.late) e.every
  generalize (t + e.late) / e.every=q at *
  generalize (t + e.late) % e.every=r at *
  generalize t + e.late=x at *
  generalize e.every=v at *
  constructor
  · intro hc
    split at hc
    · have:v * (q + 1)≤v * c:=Int.mul_le_mul_of_nonneg_left hc (by omega)
      rw [Int.mul_add] at this
      omega
    · have:v * q≤v * c:=Int.mul_le_mul_of_nonneg_left (by omega) (by omega)
      omega
  · intro hx
    split
    · have:v * q < v * c:=by omega
      have:=Int.lt_of_mul_lt_mul_left this (by omega)
      omega
    · have:v * q≤v * c:=by omega
      have:=Int.le_of_mul_le_mul_left this (by omega)
      omega
theorem Er.times_pos {e:Er} (h:1≤e.every) {t:Int} (ht:0≤t + e.late):0≤e.times t:=by
  unfold Er.times
  have:=Int.ediv_nonneg ht (show 0≤e.every by omega)
  split <;> omega
inductive Fa2 {α β:Type} (R:α→β→Prop):List α→List β→Prop where
  | nil:Fa2 R [] []
  | cons {a:α} {b:β} {l:List α} {m:List β} (h:R a b) (t:Fa2 R l m):Fa2 R (a::l) (b::m)
noncomputable def vz (a b:Option Int):Prop:=∀ t,b=some t→∃ u,a=some u∧u≤t
end RS
set_option maxRecDepth 100000
set_option maxHeartbeats 1000000
namespace RS
open PySem L2
noncomputable def cnd (es:List Er) (rs:List Int) (pl:Int) (t:Int):Bool:=match bc es rs t with
  | some h=>decide (h≤pl)
  | none=>false
noncomputable def uA (c:Int→Bool) (acc:Int) (p:Int × Option Int):Int:=match p.2 with
  | some t=>if c t then max acc (p.1 - 1) else acc
  | none=>acc
theorem vB (es:List Er) (rs:List Int) (pl:Int):c5 es rs pl=uA (cnd es rs pl):=by
  funext acc p
  unfold c5 uA cnd
  cases p.2 with
  | none=>rfl
  | some t =>
    simp only
    cases bc es rs t with
    | none=>rfl
    | some h=>simp
theorem Bf {c:Int→Bool} {acc M:Int} {p:Int × Option Int}:uA c acc p≤M↔acc≤M∧∀ t,p.2=some t→c t=true→p.1 - 1≤M:=by
  unfold uA
  rcases hp:p.2 with _ | t
  · simp
  · simp only
    cases hc:c t with
    | false=>simp [hc]
    | true =>
      simp only [if_true]
      constructor
      · intro h
        refine ⟨by omega,fun u hu _=>by cases hu; omega⟩
      · rintro ⟨h1,h2⟩
        have:=h2 t rfl hc
        omega
theorem uJ {c:Int→Bool} {M:Int}:∀ (l:List (Int × Option Int)) (acc:Int),l.foldl (uA c) acc≤M↔acc≤M∧∀ p∈l,∀ t,p.2=some t→c t=true→p.1 - 1≤M
  | [],acc=>by simp
  | p::l,acc=>by
    rw [List.foldl_cons,uJ l,Bf]
    constructor
    · rintro ⟨⟨h1,h2⟩,h3⟩
      exact ⟨h1,fun q hq=>(List.mem_cons.mp hq).elim (fun z=>by rw [z]; exact h2) (h3 q)⟩
    · rintro ⟨h1,h2⟩
      exact ⟨⟨h1,h2 p List.mem_cons_self⟩,fun q hq=>h2 q (List.mem_cons_of_mem _ hq)⟩
theorem zJ (es:List Er) (t:Int):∀ (rs:List Int) (k:Int) (j:Nat),(∃ h,hts es rs k t=some h∧h≤k + j)↔∃ m∈rs.take (j + 1),(aK es m).has t=true
  | [],k,j=>by simp [hts]
  | r::rs,k,j=>by
    unfold hts
    rw [List.take_succ_cons]
    by_cases hr:(aK es r).has t=true
    · rw [if_pos hr]
      exact ⟨fun _=>⟨r,List.mem_cons_self,hr⟩,fun _=>⟨k,rfl,by omega⟩⟩
    · rw [if_neg hr]
      cases j with
      | zero =>
        have lo:∀ (rs:List Int) (k:Int) h,hts es rs k t=some h→k≤h:=by
          intro rs
          induction rs with
          | nil=>intro k h e; cases e
          | cons a l ih =>
            intro k h e
            unfold hts at e
            split at e
            · cases e; exact Int.le_refl _
            · have:=ih _ _ e; omega
        constructor
        · rintro ⟨h,e,hl⟩
          have:=lo rs (k + 1) h e
          omega
        · rintro ⟨m,hm,hh⟩
          simp at hm
          subst hm
          exact absurd hh hr
      | succ j =>
        have ih:=zJ es t rs (k + 1) j
        constructor
        · rintro ⟨h,e,hl⟩
          obtain ⟨m,hm,hh⟩:=ih.mp ⟨h,e,by omega⟩
          exact ⟨m,List.mem_cons_of_mem _ hm,hh⟩
        · rintro ⟨m,hm,hh⟩
          rcases List.mem_cons.mp hm with z | z
          · rw [z] at hh; exact absurd hh hr
          · obtain ⟨h,e,hl⟩:=ih.mpr ⟨m,z,hh⟩
            exact ⟨h,e,by omega⟩
theorem xW {es:List Er} {rs:List Int} {pl:Nat} {t:Int}:cnd es rs (pl:Int) t=true↔∃ m∈rs.take (pl + 1),(aK es m).has t=true:=by
  rw [← zJ es t rs 0 pl]
  unfold cnd bc
  cases hts es rs 0 t with
  | none=>simp
  | some h=>simp
noncomputable def uR (es:List Er) (ms:List Int):List (Int × Option Int):=(ms.map fun m=>(aK es m).parts).flatten
theorem yd {es:List Er} {ms:List Int} {p:Int × Option Int}:p∈uR es ms↔∃ m∈ms,p∈(aK es m).parts:=by
  unfold uR
  rw [List.mem_flatten]
  constructor
  · rintro ⟨l,hl,hp⟩
    obtain ⟨m,hm,rfl⟩:=List.mem_map.mp hl
    exact ⟨m,hm,hp⟩
  · rintro ⟨m,hm,hp⟩
    exact ⟨_,List.mem_map.mpr ⟨m,hm,rfl⟩,hp⟩
theorem gB {es:List Er} {rs:List Int} {n M:Int}:cM es rs n≤M↔0≤M∧∀ m∈rs.drop (placeOf rs n + 1),∀ p∈(aK es m).parts,∀ t,p.2=some t→(∃ u∈rs.take (placeOf rs n + 1),(aK es u).has t=true)→p.1 - 1≤M:=by
  unfold cM
  rw [vB,uJ]
  constructor
  · rintro ⟨h1,h2⟩
    exact ⟨h1,fun m hm p hp t ht hu=>h2 p (yd.mpr ⟨m,hm,hp⟩) t ht (xW.mpr hu)⟩
  · rintro ⟨h1,h2⟩
    refine ⟨h1,fun p hp t ht hc=>?_⟩
    obtain ⟨m,hm,hp⟩:=yd.mp hp
    exact h2 m hm p hp t ht (xW.mp hc)
theorem vR {A r:List Int} {n:Int} (h:n ∉ A):placeOf (A++r) n=A.length + placeOf r n:=by
  unfold placeOf
  induction A with
  | nil=>simp
  | cons a l ih =>
    have hn:(a == n)=false:=by
      rw [beq_eq_false_iff_ne]; intro z; exact h (by rw [z]; exact List.mem_cons_self)
    rw [List.cons_append,List.findIdx_cons,hn,cond_false,ih fun q=>h (List.mem_cons_of_mem _ q),List.length_cons]
    omega
theorem tN (n:Int) (r:List Int):placeOf (n::r) n=0:=by unfold placeOf; simp [List.findIdx_cons]
end RS
set_option maxRecDepth 100000
set_option maxHeartbeats 1000000
namespace RS
open PySem L2
theorem pS (es:List Er) (rs:List Int) (n:Int):0≤cM es rs n:=(gB.mp (Int.le_refl _)).1
theorem yT {es:List Er} {rs ot:List Int} {n:Int} (h1:∀ u,u∈rs.take (placeOf rs n + 1)↔u∈ot.take (placeOf ot n + 1)) (h2:∀ u,u∈rs.drop (placeOf rs n + 1)↔u∈ot.drop (placeOf ot n + 1)):cM es rs n=cM es ot n:=by
  have a:=(gB (es:=es) (rs:=ot) (n:=n)).mp (Int.le_refl _)
  have b:=(gB (es:=es) (rs:=rs) (n:=n)).mp (Int.le_refl _)
  have c1:cM es rs n≤cM es ot n:=gB.mpr ⟨a.1,fun m hm p hp t ht qz6=>(by obtain ⟨u,hu,hh⟩:=qz6; exact a.2 m ((h2 m).mp hm) p hp t ht ⟨u,(h1 u).mp hu,hh⟩)⟩
  have c2:cM es ot n≤cM es rs n:=gB.mpr ⟨b.1,fun m hm p hp t ht qz6=>(by obtain ⟨u,hu,hh⟩:=qz6; exact b.2 m ((h2 m).mpr hm) p hp t ht ⟨u,(h1 u).mpr hu,hh⟩)⟩
  omega
theorem oT:∀ (ps:List (Int × Option Int)),(∀ p∈ps,0≤p.1)→∀ p∈ps,p.1≤(ps.map (·.1)).sum
  | [],_,p,hp=>by cases hp
  | q::r,h,p,hp=>by
    have h0:=h q List.mem_cons_self
    have h1:=gy (fun p:Int × Option Int=>p.1) r fun p hp=>h p (List.mem_cons_of_mem _ hp)
    simp only [List.map_cons,List.sum_cons]
    rcases List.mem_cons.mp hp with rfl | hp
    · omega
    · have:=oT r (fun p hp=>h p (List.mem_cons_of_mem _ hp)) p hp
      omega
theorem Er.Sh.part_le {e:Er} (h:e.Sh) {p:Int × Option Int} (hp:p∈e.parts):p.1≤e.work:=oT e.parts (fun p hp=>(h.pl p hp).1) p hp
theorem Er.times_one {e:Er} (h:1≤e.every) (hl:0≤e.late) {t:Int} (ht:1≤t):1≤e.times t:=by
  by_cases z:e.times t≤0
  · have:=(Er.times_le_iff h).mp z
    omega
  · omega
section
variable {es:List Er} {A B:List Int} {x y:Int}
end
end RS
set_option maxRecDepth 100000
set_option maxHeartbeats 1000000
namespace RS
open PySem L2
end RS
set_option maxRecDepth 100000
set_option maxHeartbeats 1000000
namespace RS
open PySem L2
theorem yR {rs:List Int} {n:Int} (h:n∈rs):rs[placeOf rs n]?=some n:=by
  have lt:=xc h
  rw [List.getElem?_eq_getElem lt]
  have hg:(rs[placeOf rs n] == n)=true:=List.findIdx_getElem (p:=(· == n)) (xs:=rs) (w:=lt)
  rw [beq_iff_eq.mp hg]
theorem iJ {rs:List Int} {n:Int} (h:n∈rs):rs.take (placeOf rs n + 1)=rs.take (placeOf rs n)++[n]:=by
  rw [List.take_add_one,yR h]; rfl
theorem kZ {rs:List Int} {n:Int} (h:n∈rs):rs=rs.take (placeOf rs n)++n::rs.drop (placeOf rs n + 1):=by
  have h1:=List.take_append_drop (placeOf rs n + 1) rs
  rw [iJ h,List.append_assoc] at h1
  exact h1.symm
theorem ni {rs:List Int} {n:Int} (hn:n∈rs) (nd:rs.Nodup) {m:Int}:m∈rs.drop (placeOf rs n + 1)↔m∈rs∧m≠n∧m ∉ rs.take (placeOf rs n):=by
  have e:=kZ hn
  have nd':=nd
  rw [e] at nd'
  obtain ⟨n1,n2,n3⟩:=List.nodup_append.mp nd'
  constructor
  · intro hm
    refine ⟨List.mem_of_mem_drop hm,fun z=>?_,fun z=>n3 m z m (List.mem_cons_of_mem _ hm) rfl⟩
    rw [z] at hm
    exact (List.nodup_cons.mp n2).1 hm
  · rintro ⟨h1,h2,h3⟩
    rw [e] at h1
    rcases List.mem_append.mp h1 with z | z
    · exact absurd z h3
    · exact (List.mem_cons.mp z).resolve_left h2
theorem vD {α:Type} (f:α→Int) {l m:List α} (h:l.Perm m):(l.map f).sum=(m.map f).sum:=by
  induction h with
  | nil=>rfl
  | cons x _ ih=>simp only [List.map_cons,List.sum_cons,ih]
  | swap x y l=>simp only [List.map_cons,List.sum_cons]; omega
  | trans _ _ h1 h2=>exact h1.trans h2
section
variable {es:List Er} {rs ot:List Int} {n:Int}
theorem gH {k:Nat} (hr:bx k rs) {m:Int}:m∈rs↔0≤m∧m < k:=⟨hr.rng m,fun h=>hr.mem h.1 h.2⟩
theorem wC (hr:bx es.length rs) (ho:bx es.length ot) (n0:0≤n) (n1:n < es.length) (h:(rs.take (placeOf rs n)).Perm (ot.take (placeOf ot n))):cM es rs n=cM es ot n∧(∀ t,dz es rs n t=dz es ot n t)∧bL es rs n=bL es ot n:=by
  have mr:=hr.mem n0 n1
  have mo:=ho.mem n0 n1
  have hh:cM es rs n=cM es ot n:=by
    apply yT
    · intro u
      rw [iJ mr,iJ mo,List.mem_append,List.mem_append,h.mem_iff]
    · intro u
      rw [ni mr hr.nd,ni mo ho.nd,gH hr,gH ho,h.mem_iff]
  have hn:∀ t,dz es rs n t=dz es ot n t:=fun t=>by
    unfold dz
    rw [hh,vD _ h]
  refine ⟨hh,hn,?_⟩
  rw [hV,hV]
  congr 1
  funext t
  rw [hn]
theorem wY {X:List Int} {t:Int} (hsh:∀ e∈es,e.Sh) (hl:∀ e∈es,0≤e.late) (hr:bx es.length rs) (ho:bx es.length ot) (n0:0≤n) (n1:n < es.length) (h:(rs.take (placeOf rs n)).Perm (ot.take (placeOf ot n)++X)) (ht:1≤t):dz es ot n t≤dz es rs n t:=by
  have mr:=hr.mem n0 n1
  have mo:=ho.mem n0 n1
  have hX:∀ m∈X,0≤m∧m < es.length:=fun m hm=>hr.rng m (List.mem_of_mem_take (h.mem_iff.mpr (List.mem_append_right _ hm)))
  have sX:∀ m∈X,(aK es m).work≤(aK es m).times t * (aK es m).work∧0≤(aK es m).work:=fun m hm=>by
    have mm:=b4 (hX m hm).1 (hX m hm).2
    have sm:=hsh _ mm
    have t1:=Er.times_one (e:=aK es m) sm.e1 (hl _ mm) ht
    have:=Int.mul_le_mul_of_nonneg_right t1 sm.work_b.1
    exact ⟨by omega,sm.work_b.1⟩
  have W0:0≤(X.map fun m=>(aK es m).times t * (aK es m).work).sum:=gy _ X fun m hm=>by have:=sX m hm; omega
  have inX:∀ (X:List Int),(∀ m∈X,0≤(aK es m).times t * (aK es m).work)→∀ m∈X,(aK es m).times t * (aK es m).work≤(X.map fun m=>(aK es m).times t * (aK es m).work).sum:=by
    intro X
    induction X with
    | nil=>intro _ m hm; cases hm
    | cons a l ih =>
      intro hp m hm
      have h0:=hp a List.mem_cons_self
      have h1:=gy (fun m=>(aK es m).times t * (aK es m).work) l fun m hm=>hp m (List.mem_cons_of_mem _ hm)
      simp only [List.map_cons,List.sum_cons]
      rcases List.mem_cons.mp hm with rfl | hm
      · omega
      · have:=ih (fun m hm=>hp m (List.mem_cons_of_mem _ hm)) m hm
        omega
  have b:=(gB (es:=es) (rs:=rs) (n:=n)).mp (Int.le_refl _)
  have hh:cM es ot n≤cM es rs n + (X.map fun m=>(aK es m).times t * (aK es m).work).sum:=by
    refine gB.mpr ⟨by omega,fun m hm p hp u hu rz6=>?_⟩
    obtain ⟨v,hv,hv2⟩:=rz6
    obtain ⟨d1,d2,d3⟩:=(ni mo ho.nd).mp hm
    have hmr:m∈rs:=(gH hr).mpr ((gH ho).mp d1)
    by_cases z:m∈rs.take (placeOf rs n)
    · have hmX:m∈X:=(List.mem_append.mp (h.mem_iff.mp z)).resolve_left d3
      have mm:=b4 (hX m hmX).1 (hX m hmX).2
      have a1:=(hsh _ mm).part_le hp
      have a2:=sX m hmX
      have a3:=inX X (fun m hm=>by have:=sX m hm; omega) m hmX
      omega
    · have hd:m∈rs.drop (placeOf rs n + 1):=(ni mr hr.nd).mpr ⟨hmr,d2,z⟩
      have hv':v∈rs.take (placeOf rs n + 1):=by
        rw [iJ mo] at hv
        rw [iJ mr]
        rcases List.mem_append.mp hv with q | q
        · exact List.mem_append_left _ (h.mem_iff.mpr (List.mem_append_left _ q))
        · exact List.mem_append_right _ q
      have:=b.2 m hd p hp u hu ⟨v,hv',hv2⟩
      omega
  have hs:=vD (fun m=>(aK es m).times t * (aK es m).work) h
  rw [List.map_append,List.sum_append] at hs
  unfold dz
  omega
theorem qX {X:List Int} (hsh:∀ e∈es,e.Sh) (hl:∀ e∈es,0≤e.late) (hr:bx es.length rs) (ho:bx es.length ot) (n0:0≤n) (n1:n < es.length) (h:(rs.take (placeOf rs n)).Perm (ot.take (placeOf ot n)++X)):vz (bL es ot n) (bL es rs n):=fun t e=>by
  rw [hV] at e ⊢
  refine xb e (Nat.le_refl _) fun s h1 h2=>?_
  have:=wY hsh hl hr ho n0 n1 h h1
  have h2:=of_decide_eq_true h2
  exact decide_eq_true (by omega)
end
end RS
set_option maxRecDepth 100000
set_option maxHeartbeats 1000000
namespace RS
open PySem L2
noncomputable def fJ:PyData→Option (List Int)
  | .dict [(.none,.list l)]=>gO l
  | _=>none
theorem gA (ns:List Int):fJ (aC ns)=some ns:=d5 ns
noncomputable def ak:Gf
  | [s,.int k,.int many]=>(match fJ s with
    | some ns=>if 0≤k∧0 < many then .ok (.int (mixed ns k many)) else .no
    | none=>.no)
  | _=>.no
theorem c9 {ns:List Int} {k many:Int} (h1:0≤k) (h2:0 < many):ak [aC ns,.int k,.int many]=.ok (.int (mixed ns k many)):=by
  unfold ak; simp [gA,h1,h2]
theorem g0 (O:List Nat) (i:Nat) (g:Ds→Rs PyData) (δ:Ds):bp O i g δ=if i < δ.length then ofR (g (mask O δ)) fun d=>.nx (δ.set i (some d)) else .no:=rfl
noncomputable def bY:Gf
  | [s,.int a,.int top,.bool tools]=>(match fJ s with
    | some ns=>if 0≤a∧0 < top∧top≤58 then .ok (mkE ns a top tools).d else .no
    | none=>.no)
  | _=>.no
theorem jt {ns:List Int} {a top:Int} {tools:Bool} (h1:0≤a) (h2:0 < top) (h3:top≤58):bY [aC ns,.int a,.int top,.bool tools]=.ok (mkE ns a top tools).d:=by
  unfold bY; simp [gA,h1,h2,h3]
theorem za (o:Option Int):gQ (bO o)=true:=by cases o <;> (unfold bO gQ; rfl)
theorem wg (p:Int × Option Int):gQ (aT p)=true:=by
  unfold aT gQ mF
  rw [show gQ (.int p.1)=true by unfold gQ; rfl]
  unfold mF
  rw [za]
  unfold mF
  rfl
theorem Bg {i:Int} (h0:0≤i) (h1:i < 5):atI [PyData.int 0,PyData.int 1,PyData.int 1,PyData.int 0,PyData.none] i=some (bO (l9 i)):=by
  have:i=0∨i=1∨i=2∨i=3∨i=4:=by omega
  rcases this with rfl | rfl | rfl | rfl | rfl <;> rfl
theorem vp (ns:List Int) (a top:Int) (tools:Bool) (ev la du:PyData) (ha:0≤a) (L:List PyData) (hL:L.length < 1000) (i:Nat) (x8 x9:Option PyData) :
    bj (bp [7] 9 (ay ak (af (ah 0) (af (g2 bb (g2 bb (ah 1) (gC (.int 4))) (ah 8)) (af (gC (.int 40)) ar)))))
    (bj (nK [7] 7 (fj (af (g2 bb (gC (.int 1)) (g2 o5 (ah 9) (gC (.int 4)))) (af (g2 dIx (tw (af (gC (.int 0)) (af (gC (.int 1)) (af (gC (.int 1)) (af (gC (.int 0)) (af (gC .none) ar)))))) (g2 o5 (g2 tL (ah 9) (gC (.int 4))) (gC (.int 5)))) ar))))
    (sIf (fF (gT (ah 3))) (qR 7 (g1 iR (gC (.int 1))) (fj (af (g2 dIx (g2 dIx (ah 7) (g1 iR (gC (.int 1)))) (gC (.int 0))) (af (gC .none) ar)))) b3))
      [some (aC ns),some (.int a),some (.int top),some (.bool tools),some ev,some la,some du,some (.list L),some (.int (0 + (i:Int))),x9]
   =.nx [some (aC ns),some (.int a),some (.int top),some (.bool tools),some ev,some la,some du,some (.list (L++[aT (fu ns (a + 4 + (i:Int)) tools)])),some (.int (0 + (i:Int))),some (.int (mixed ns (a + 4 + (0 + (i:Int))) 40))]:=by
  have hm:=c9 (ns:=ns) (k:=a + 4 + (0 + (i:Int))) (many:=40) (by omega) (by decide)
  have m0:=de ns (a + 4 + (0 + (i:Int))) (many:=40) (by decide)
  have m1:=dF ns (a + 4 + (0 + (i:Int))) (many:=40) (by decide)
  have ek:a + 4 + (0 + (i:Int))=a + 4 + (i:Int):=by omega
  generalize hc:mixed ns (a + 4 + (0 + (i:Int))) 40=c at *
  have q1:0≤c / 4 % 5:=Int.emod_nonneg _ (by decide)
  have q2:c / 4 % 5 < 5:=Int.emod_lt_of_pos _ (by decide)
  have t5:=Bg q1 q2
  have hp:fu ns (a + 4 + (i:Int)) tools=(1 + c % 4,if tools then l9 (c / 4 % 5) else none):=by unfold fu; rw [← ek,hc]
  have s1:bp [7] 9 (ay ak (af (ah 0) (af (g2 bb (g2 bb (ah 1) (gC (.int 4))) (ah 8)) (af (gC (.int 40)) ar)))) [some (aC ns),some (.int a),some (.int top),some (.bool tools),some ev,some la,some du,some (.list L),some (.int (0 + (i:Int))),x9]
     =.nx [some (aC ns),some (.int a),some (.int top),some (.bool tools),some ev,some la,some du,some (.list L),some (.int (0 + (i:Int))),some (.int c)]:=by
    rw [g0,if_pos (by simp)]
    simp only [bu,aO,aX,cF,aJ (show 0 ∉ [7] by decide),aJ (show 1 ∉ [7] by decide),aJ (show 8 ∉ [7] by decide),az,aA,dB,Rs.aj,dD,Rs.aq,hm,aE]
    rfl
  have s2:nK [7] 7 (fj (af (g2 bb (gC (.int 1)) (g2 o5 (ah 9) (gC (.int 4)))) (af (g2 dIx (tw (af (gC (.int 0)) (af (gC (.int 1)) (af (gC (.int 1)) (af (gC (.int 0)) (af (gC .none) ar)))))) (g2 o5 (g2 tL (ah 9) (gC (.int 4))) (gC (.int 5)))) ar)))
      [some (aC ns),some (.int a),some (.int top),some (.bool tools),some ev,some la,some du,some (.list L),some (.int (0 + (i:Int))),some (.int c)]
     =.nx [some (aC ns),some (.int a),some (.int top),some (.bool tools),some ev,some la,some du,some (.list (L++[aT (1 + c % 4,l9 (c / 4 % 5))])),some (.int (0 + (i:Int))),some (.int c)]:=by
    unfold nK
    simp only [List.getElem?_cons_succ,List.getElem?_cons_zero]
    simp only [j9,sZ,aO,aX,cF,aJ (show 9 ∉ [7] by decide),az,aA,dB,Rs.aj,dD,Rs.aq,CB,zI,if_pos (show (0:Int) < 4 by decide),if_pos (show (0:Int) < 5 by decide),if_pos (show (0:Int) < 4∧(4:Int) < 1073741824 by decide),CM,t5,aE,if_pos (show L.length < 1000000 by omega)]
    rfl
  rw [aZ,s1]
  simp only
  rw [aZ,s2]
  simp only
  cases tools with
  | true =>
    rw [hp]
    simp
  | false =>
    rw [hp]
    have hl:atI (L++[aT (1 + c % 4,l9 (c / 4 % 5))]) (-1)=some (aT (1 + c % 4,l9 (c / 4 % 5))):=by rw [ju]; simp
    have hx:ixN (L++[aT (1 + c % 4,l9 (c / 4 % 5))]).length (-1)=some L.length:=by
      unfold ixN
      rw [if_neg (by decide),List.length_append,List.length_singleton,if_pos (by omega)]
      congr 1; omega
    have hs:(L++[aT (1 + c % 4,l9 (c / 4 % 5))]).set L.length (.tuple [.int (1 + c % 4),.none])=L++[aT (1 + c % 4,none)]:=by
      rw [List.set_append_right _ _ (Nat.le_refl _)]; simp; rfl
    have nl:gQ (.tuple [.int (1 + c % 4),.none])=true:=wg (1 + c % 4,none)
    rw [lY]
    simp only [pJ,kB,az,aA,Rs.aj,c7,aE,Bool.not_false,if_true]
    unfold qR
    simp only [List.getElem?_cons_succ,List.getElem?_cons_zero,j9,aO,aX,cF,sM,az,aA,dB,Rs.aj,vV,Rs.aq,CM,hl,wD,aE,hx,nl,if_true,hs]
    rfl
end RS
set_option maxRecDepth 100000
set_option maxHeartbeats 1000000
namespace RS
open PySem L2
theorem lK {j:Int} (h0:0≤j) (h1:j < 1000000):B6 [.int j]=.ok (cm 0 j.toNat):=by
  show (if _ then _ else _)=_
  rw [if_pos (by omega)]
theorem ix {lo:Int} {n i:Nat} {d:PyData} (h:(cm lo n)[i]?=some d):i < n∧d=.int (lo + (i:Int)):=by
  have hi:=(List.getElem?_eq_some_iff.mp h).1
  rw [eH] at hi
  unfold cm at h
  rw [List.getElem?_map,List.getElem?_range hi] at h
  exact ⟨hi,(Option.some.inj h).symm⟩
theorem pC {α:Type} (n:Nat) (g:Nat→α):(List.range (n + 1)).map g=(List.range n).map g++[g n]:=by rw [List.range_succ,List.map_append]; rfl
theorem zN {f:PyData→Int→Int→Bool→Rs PyData} {ds:List PyData} (h:(match ds with | [x0,.int x1,.int x2,.bool x3]=>f x0 x1 x2 x3 | _=>.no)≠.no):∃ x0 x1 x2 x3,ds=[x0,.int x1,.int x2,.bool x3]∧f x0 x1 x2 x3≠.no:=by
  rcases ds with _ | ⟨x0,_ | ⟨x1,_ | ⟨x2,_ | ⟨x3,_ | ⟨y,ys⟩⟩⟩⟩⟩
  · exact absurd rfl h
  · exact absurd rfl h
  · first | exact absurd rfl h | (cases x1 <;> exact absurd rfl h)
  · first | exact absurd rfl h | (cases x1 <;> first | exact absurd rfl h | (cases x2 <;> exact absurd rfl h))
  · skip
    cases x1 with
    | int x1 =>
      cases x2 with
      | int x2 =>
        cases x3 with
        | bool x3 =>
          exact ⟨_,_,_,_,rfl,h⟩
        | _=>exact absurd rfl h
      | _=>first | exact absurd rfl h | (cases x3 <;> exact absurd rfl h)
    | _=>first | exact absurd rfl h | (cases x2 <;> first | exact absurd rfl h | (cases x3 <;> exact absurd rfl h))
  · first | exact absurd rfl h | (cases x1 <;> first | exact absurd rfl h | (cases x2 <;> first | exact absurd rfl h | (cases x3 <;> exact absurd rfl h)))
theorem uk (cs:Cs):∀ ds,ds.length=4→bY ds≠.no→aV (fO cs ak (ds.map some++List.replicate 6 none))=bY ds:=by
  intro ds hl hne
  obtain ⟨s,a,top,tools,ez,hz⟩:=zN hne
  clear hne; subst ez; have hne:=hz; clear hz
  · skip
    split at hne
    · rename_i ns hs
      have es:s=aC ns:=by
        unfold fJ at hs
        split at hs
        · rename_i l
          rw [dY hs]; rfl
        · cases hs
      subst es
      split at hne
      · rename_i hc
        obtain ⟨ha,ht,ht2⟩:=hc
        rw [jt ha ht ht2]
        show aV (fO cs ak [some (aC ns),some (.int a),some (.int top),some (.bool tools),none,none,none,none,none,none])=_
        have hm:∀ k many:Int,0≤k→0 < many→ak [aC ns,.int k,.int many]=.ok (.int (mixed ns k many)):=fun k many h1 h2=>c9 h1 h2
        have a1:=de ns a ht
        have lb:=vn ns a (3 + mixed ns a top) (by omega)
        have b1:=de ns (a + 1) (many:=4) (by decide)
        have b2:=dF ns (a + 1) (many:=4) (by decide)
        have n1:=de ns (a + 3) (many:=3) (by decide)
        have n2:=dF ns (a + 3) (many:=3) (by decide)
        have c1:=de ns (a + 6) (many:=3) (by decide)
        have c2:=dF ns (a + 6) (many:=3) (by decide)
        -- every
        have s1:bp [7] 4 (g2 bb (gC (.int 3)) (ay ak (af (ah 0) (af (ah 1) (af (ah 2) ar))))) [some (aC ns),some (.int a),some (.int top),some (.bool tools),none,none,none,none,none,none]
           =.nx [some (aC ns),some (.int a),some (.int top),some (.bool tools),some (.int (3 + mixed ns a top)),none,none,none,none,none]:=by
          rw [g0,if_pos (by simp)]
          simp only [bu,aO,aX,cF,aJ (show 0 ∉ [7] by decide),aJ (show 1 ∉ [7] by decide),aJ (show 2 ∉ [7] by decide),az,aA,dB,Rs.aj,hm a top ha ht,dD,Rs.aq,aE]
          rfl
        generalize hev:3 + mixed ns a top=ev at *
        have evp:3≤ev:=by omega
        have s2:bp [7] 5 (g2 mY (ay ak (af (ah 0) (af (g2 bb (ah 1) (gC (.int 1))) (af (gC (.int 4)) ar)))) (gF uD (af (g2 dEq (ay ak (af (ah 0) (af (g2 bb (ah 1) (gC (.int 2))) (af (gC (.int 3)) ar)))) (gC (.int 0))) ar))) [some (aC ns),some (.int a),some (.int top),some (.bool tools),some (.int ev),none,none,none,none,none]
           =.nx [some (aC ns),some (.int a),some (.int top),some (.bool tools),some (.int ev),some (.int (mixed ns (a + 1) 4 * (if mixed ns (a + 2) 3=0 then 1 else 0))),none,none,none,none]:=by
          rw [g0,if_pos (by simp)]
          simp only [bu,aO,aX,cF,nG,aJ (show 0 ∉ [7] by decide),aJ (show 1 ∉ [7] by decide),az,aA,dB,Rs.aj,dD,Rs.aq,hm (a + 1) 4 (by omega) (by decide),hm (a + 2) 3 (by omega) (by decide),rO,Ah]
          rw [w6 (by omega) (by omega)]
          simp only [Rs.aq,aE,beq_iff_eq]
          rfl
        have s3:bp [7] 5 (gF pH (af (ah 5) (af (g2 g5 (ah 4) (gC (.int 1))) ar))) [some (aC ns),some (.int a),some (.int top),some (.bool tools),some (.int ev),some (.int (mixed ns (a + 1) 4 * (if mixed ns (a + 2) 3=0 then 1 else 0))),none,none,none,none]
           =.nx [some (aC ns),some (.int a),some (.int top),some (.bool tools),some (.int ev),some (.int (jc ns a ev)),none,none,none,none]:=by
          rw [g0,if_pos (by simp)]
          simp only [nG,aO,aX,cF,aJ (show 4 ∉ [7] by decide),aJ (show 5 ∉ [7] by decide),az,aA,dB,Rs.aj,oE,Rs.aq,C1,aE]
          rfl
        generalize hla:jc ns a ev=la at *
        have s4:bp [7] 6 (g2 g5 (ah 4) (ah 5)) [some (aC ns),some (.int a),some (.int top),some (.bool tools),some (.int ev),some (.int la),none,none,none,none]
           =.nx [some (aC ns),some (.int a),some (.int top),some (.bool tools),some (.int ev),some (.int la),some (.int (ev - la)),none,none,none]:=by
          rw [g0,if_pos (by simp)]
          simp only [cF,aJ (show 4 ∉ [7] by decide),aJ (show 5 ∉ [7] by decide),az,aA,Rs.aj,oE,Rs.aq,aE]
          rfl
        have s5:sIf (gT (g2 dEq (ay ak (af (ah 0) (af (g2 bb (ah 1) (gC (.int 1))) (af (gC (.int 3)) ar)))) (gC (.int 0)))) (bp [7] 6 (g2 g5 (ah 6) (ay ak (af (ah 0) (af (g2 bb (ah 1) (gC (.int 2))) (af (ah 6) ar)))))) b3
              [some (aC ns),some (.int a),some (.int top),some (.bool tools),some (.int ev),some (.int la),some (.int (ev - la)),none,none,none]
           =.nx [some (aC ns),some (.int a),some (.int top),some (.bool tools),some (.int ev),some (.int la),some (.int (oN ns a (ev - la))),none,none,none]:=by
          rw [lY]
          simp only [kB,cF,bu,aO,aX,az,aA,dB,Rs.aj,dD,Rs.aq,hm (a + 1) 3 (by omega) (by decide),rO,c7,aE]
          by_cases z:mixed ns (a + 1) 3=0
          · rw [if_pos (by simp [z]),g0,if_pos (by simp)]
            simp only [bu,aO,aX,cF,aJ (show 0 ∉ [7] by decide),aJ (show 1 ∉ [7] by decide),aJ (show 6 ∉ [7] by decide),az,aA,dB,Rs.aj,dD,Rs.aq,hm (a + 2) (ev - la) (by omega) (by omega),oE,aE]
            unfold oN
            rw [if_pos z]
            rfl
          · rw [if_neg (by simp [z])]
            unfold oN
            rw [if_neg z]
            rfl
        generalize hdu:oN ns a (ev - la)=du at *
        have s6:lR [7] 7 ar [some (aC ns),some (.int a),some (.int top),some (.bool tools),some (.int ev),some (.int la),some (.int du),none,none,none]
           =.nx [some (aC ns),some (.int a),some (.int top),some (.bool tools),some (.int ev),some (.int la),some (.int du),some (.list []),none,none]:=rfl
        have src:gv (af (ay ak (af (ah 0) (af (g2 bb (ah 1) (gC (.int 3))) (af (gC (.int 3)) ar)))) ar) (mask [7] [some (aC ns),some (.int a),some (.int top),some (.bool tools),some (.int ev),some (.int la),some (.int du),some (.list []),none,none])=.ok (cm 0 (mixed ns (a + 3) 3).toNat):=by
          simp only [lF,bu,aO,aX,cF,aJ (show 0 ∉ [7] by decide),aJ (show 1 ∉ [7] by decide),az,aA,dB,Rs.aj,dD,Rs.aq,hm (a + 3) 3 (by omega) (by decide)]
          exact lK n1 (by omega)
        obtain ⟨δ',e,x8,x9,hδ⟩:=iL (β:=Unit) (tgt:=cn 8) (body:=bj (bp [7] 9 (ay ak (af (ah 0) (af (g2 bb (g2 bb (ah 1) (gC (.int 4))) (ah 8)) (af (gC (.int 40)) ar)))))
    (bj (nK [7] 7 (fj (af (g2 bb (gC (.int 1)) (g2 o5 (ah 9) (gC (.int 4)))) (af (g2 dIx (tw (af (gC (.int 0)) (af (gC (.int 1)) (af (gC (.int 1)) (af (gC (.int 0)) (af (gC .none) ar)))))) (g2 o5 (g2 tL (ah 9) (gC (.int 4))) (gC (.int 5)))) ar))))
    (sIf (fF (gT (ah 3))) (qR 7 (g1 iR (gC (.int 1))) (fj (af (g2 dIx (g2 dIx (ah 7) (g1 iR (gC (.int 1)))) (gC (.int 0))) (af (gC .none) ar)))) b3)))
          (fun i δ=>∃ x8 x9,δ=[some (aC ns),some (.int a),some (.int top),some (.bool tools),some (.int ev),some (.int la),some (.int du),some (.list ((List.range i).map fun (k:Nat)=>aT (fu ns (a + 4 + (k:Int)) tools))),x8,x9])
          (cm 0 (mixed ns (a + 3) 3).toNat) 0 (fun i d δ hi pz4=>by
            obtain ⟨x8,x9,hx⟩:=pz4
            subst hx
            rw [Nat.zero_add] at *
            obtain ⟨hil,rfl⟩:=ix hi
            refine ⟨[some (aC ns),some (.int a),some (.int top),some (.bool tools),some (.int ev),some (.int la),some (.int du),some (.list ((List.range i).map fun (k:Nat)=>aT (fu ns (a + 4 + (k:Int)) tools))),some (.int (0 + (i:Int))),x9],_,rfl,vp ns a top tools (.int ev) (.int la) (.int du) ha _ (by simp; omega) i none x9,some (.int (0 + (i:Int))),some (.int (mixed ns (a + 4 + (0 + (i:Int))) 40)),?_⟩
            rw [pC]) [some (aC ns),some (.int a),some (.int top),some (.bool tools),some (.int ev),some (.int la),some (.int du),some (.list []),none,none] ⟨none,none,rfl⟩
        subst hδ
        rw [Nat.zero_add,eH] at e
        have hd:(mkE ns a top tools).d=.tuple [.int ev,.int du,.int la,.tuple (((List.range (mixed ns (a + 3) 3).toNat).map fun (k:Nat)=>aT (fu ns (a + 4 + (k:Int)) tools))++[aT (1 + mixed ns (a + 6) 3,none)])]:=by
          simp only [mkE,Er.d,List.map_append,List.map_map,hev,hla,hdu]
          rfl
        rw [hd]
        simp only [fO]
        rw [aZ,s1]; simp only
        rw [aZ,s2]; simp only
        rw [aZ,s3]; simp only
        rw [aZ,s4]; simp only
        rw [aZ,s5]; simp only
        rw [aZ,s6]; simp only
        rw [aZ,fS,src,aE,e]; simp only
        simp only [cN,j9,sZ,aO,aX,cF,nG,bu,az,aA,dB,Rs.aj,dD,Rs.aq,hm (a + 6) 3 (by omega) (by decide)]
        have hcat:bb (.list ((List.range (mixed ns (a + 3) 3).toNat).map fun (k:Nat)=>aT (fu ns (a + 4 + (k:Int)) tools))) (.list [.tuple [.int (1 + mixed ns (a + 6) 3),.none]])=some (.list (((List.range (mixed ns (a + 3) 3).toNat).map fun (k:Nat)=>aT (fu ns (a + 4 + (k:Int)) tools))++[aT (1 + mixed ns (a + 6) 3,none)])):=by
          show (if _ then _ else _)=_
          rw [if_pos (by simp; omega)]
          rfl
        rw [hcat]
        simp
      · exact absurd rfl hne
    · exact absurd rfl hne
noncomputable def a8:Gf
  | [s,.int a,.int most,.int top,.bool tools]=>(match fJ s with
    | some ns=>if 0≤a∧0 < most∧most≤6∧0 < top∧top≤58 then .ok (av (o3 ns a most top tools)) else .no
    | none=>.no)
  | _=>.no
theorem i5 {ns:List Int} {a most top:Int} {tools:Bool} (h1:0≤a) (h2:0 < most) (h3:most≤6) (h4:0 < top) (h5:top≤58):a8 [aC ns,.int a,.int most,.int top,.bool tools]=.ok (av (o3 ns a most top tools)):=by
  unfold a8; simp [gA,h1,h2,h3,h4,h5]
theorem i4 {s:PyData} {ns:List Int} (hs:fJ s=some ns):s=aC ns:=by
  unfold fJ at hs
  split at hs
  · rename_i l
    rw [dY hs]; rfl
  · cases hs
theorem zr {f:PyData→Int→Int→Int→Bool→Rs PyData} {ds:List PyData} (h:(match ds with | [x0,.int x1,.int x2,.int x3,.bool x4]=>f x0 x1 x2 x3 x4 | _=>.no)≠.no):∃ x0 x1 x2 x3 x4,ds=[x0,.int x1,.int x2,.int x3,.bool x4]∧f x0 x1 x2 x3 x4≠.no:=by
  rcases ds with _ | ⟨x0,_ | ⟨x1,_ | ⟨x2,_ | ⟨x3,_ | ⟨x4,_ | ⟨y,ys⟩⟩⟩⟩⟩⟩
  · exact absurd rfl h
  · exact absurd rfl h
  · first | exact absurd rfl h | (cases x1 <;> exact absurd rfl h)
  · first | exact absurd rfl h | (cases x1 <;> first | exact absurd rfl h | (cases x2 <;> exact absurd rfl h))
  · first | exact absurd rfl h | (cases x1 <;> first | exact absurd rfl h | (cases x2 <;> first | exact absurd rfl h | (cases x3 <;> exact absurd rfl h)))
  · skip
    cases x1 with
    | int x1 =>
      cases x2 with
      | int x2 =>
        cases x3 with
        | int x3 =>
          cases x4 with
          | bool x4 =>
            exact ⟨_,_,_,_,_,rfl,h⟩
          | _=>exact absurd rfl h
        | _=>first | exact absurd rfl h | (cases x4 <;> exact absurd rfl h)
      | _=>first | exact absurd rfl h | (cases x3 <;> first | exact absurd rfl h | (cases x4 <;> exact absurd rfl h))
    | _=>first | exact absurd rfl h | (cases x2 <;> first | exact absurd rfl h | (cases x3 <;> first | exact absurd rfl h | (cases x4 <;> exact absurd rfl h)))
  · first | exact absurd rfl h | (cases x1 <;> first | exact absurd rfl h | (cases x2 <;> first | exact absurd rfl h | (cases x3 <;> first | exact absurd rfl h | (cases x4 <;> exact absurd rfl h))))
theorem rh (cs:Cs):∀ ds,ds.length=5→a8 ds≠.no→aV (ff cs bY ak (ds.map some++List.replicate 1 none))=a8 ds:=by
  intro ds hl hne
  obtain ⟨s,a,most,top,tools,ez,hz⟩:=zr hne
  clear hne; subst ez; have hne:=hz; clear hz
  · skip
    split at hne
    · rename_i ns hs
      have es:=i4 hs
      subst es
      split at hne
      · rename_i hc
        obtain ⟨ha,hm1,hm2,ht,ht2⟩:=hc
        rw [i5 ha hm1 hm2 ht ht2]
        have hm:=c9 (ns:=ns) ha hm1
        have m1:=de ns a hm1
        have m2:=dF ns a hm1
        have hcm:cq 6 (gv (af (ah 5) ar)) cW (ay bY (af (ah 0) (af (g2 bb (g2 bb (ah 1) (gC (.int 1))) (g2 mY (gC (.int 7)) (ah 6))) (af (ah 3) (af (ah 4) ar))))) bU
            [some (aC ns),some (.int a),some (.int most),some (.int top),some (.bool tools),some (.int (1 + mixed ns a most))]=.ok ((cm 0 (1 + mixed ns a most).toNat).map fun d=>(mkE ns (a + 1 + 7 * deI d) top tools).d) :=
          eK rfl (by simp only [lF,aO,aX,az,aA,Rs.aj]; exact lK (by omega) (by omega)) (by rw [eH]; omega) fun d hd=>by
            obtain ⟨i,hi⟩:=List.getElem?_of_mem hd
            obtain ⟨_,rfl⟩:=ix hi
            simp only [List.cons_append,List.nil_append,bu,aO,aX,cF,az,aA,dB,Rs.aj,dD,Rs.aq]
            rw [w6 (by decide) (by decide)]
            simp only [Rs.aq,Rs.aj,dD]
            exact jt (by omega) ht ht2
        have hds:av (o3 ns a most top tools)=.tuple ((cm 0 (1 + mixed ns a most).toNat).map fun d=>(mkE ns (a + 1 + 7 * deI d) top tools).d):=by
          unfold av o3 cm
          rw [List.map_map,List.map_map]
          congr 1
          refine List.map_congr_left fun k _=>?_
          simp [deI]
        rw [hds]
        show aV (ff cs bY ak [some (aC ns),some (.int a),some (.int most),some (.int top),some (.bool tools),none])=_
        simp only [ff,aZ,dk,List.length_cons,List.length_nil,Nat.reduceAdd,Nat.reduceLT,if_true,bu,aO,aX,cF,az,aA,dB,Rs.aj,hm,dD,Rs.aq,aE,List.set_cons_succ,List.set_cons_zero,cN,nG,tG,hcm,wN,bV]
      · exact absurd rfl hne
    · exact absurd rfl hne
end RS
set_option maxRecDepth 100000
set_option maxHeartbeats 1000000
namespace RS
open PySem L2
noncomputable def b7:Gf
  | [d,.int t]=>if wA d then .ok (.bool ((deE d).has t)) else .no
  | _=>.no
theorem kK {e:Er} {t:Int} (h:e.Sh):b7 [e.d,.int t]=.ok (.bool (e.has t)):=by unfold b7; simp [uv h,A7]
theorem vH (t:Int):∀ ps:List (Int × Option Int),inD (.int t) ((ps.map aT).map fun d=>bO (cO d).2)=ps.any fun p=>p.2 == some t
  | []=>rfl
  | p::r=>by
    have h1:eqV (toV (bO p.2)) (.int t)=(p.2 == some t):=by
      rcases hp:p.2 with _ | z
      · rfl
      · show (z == t)=(some z == some t)
        simp
    have:=vH t r
    unfold inD inV at this ⊢
    rw [List.map_cons,List.map_cons,List.map_cons,List.any_cons,List.any_cons,this,kQ]
    show (eqV (toV (bO p.2)) (.int t) || _)=_
    rw [h1]
theorem yN (ps:List (Int × Option Int)):((ps.map aT).map fun d=>bO (cO d).2).all f9=true:=by
  rw [List.all_eq_true]; intro d hd; obtain ⟨n,_,rfl⟩:=List.mem_map.mp hd; cases (cO n).2 <;> rfl
theorem wZ {f:PyData→Int→Rs PyData} {ds:List PyData} (h:(match ds with | [x0,.int x1]=>f x0 x1 | _=>.no)≠.no):∃ x0 x1,ds=[x0,.int x1]∧f x0 x1≠.no:=by
  rcases ds with _ | ⟨x0,_ | ⟨x1,_ | ⟨y,ys⟩⟩⟩
  · exact absurd rfl h
  · exact absurd rfl h
  · skip
    cases x1 with
    | int x1 =>
      exact ⟨_,_,rfl,h⟩
    | _=>exact absurd rfl h
  · first | exact absurd rfl h | (cases x1 <;> exact absurd rfl h)
theorem wV (cs:Cs):∀ ds,ds.length=2→b7 ds≠.no→aV (ij cs (ds.map some++List.replicate 0 none))=b7 ds:=by
  intro ds hl hne
  obtain ⟨d,t,ez,hz⟩:=wZ hne
  clear hne; subst ez; have hne:=hz; clear hz
  · skip
    split at hne
    · rename_i hd
      obtain ⟨e1,sh⟩:=xM hd
      rw [← e1]
      generalize deE d=e at sh
      rw [kK sh]
      have hc:cq 2 (dR (g2 dIx (ah 0) (gC (.int 3)))) cW (g2 dIx (ah 2) (gC (.int 1))) bU [some e.d,some (.int t)]=.ok ((e.parts.map aT).map fun d=>bO (cO d).2) :=
        eK rfl (by simp [zO]) (by have:=sh.pn; simp; omega) fun d hd'=>by
          obtain ⟨p,hp,rfl⟩:=List.mem_map.mp hd'
          simp [A6,kQ]
      have hi:kP false (.int t) (.list ((e.parts.map aT).map fun d=>bO (cO d).2))=some (.bool (e.has t)):=by
        show (if (f9 (.int t) && _)=true then some (PyData.bool (if false=true then _ else inD _ _)) else none)=_
        rw [yN,vH]; rfl
      show aV (ij cs [some e.d,some (.int t)])=_
      simp only [ij,cN,cF,az,aA,tG,hc,Rs.aj,hi,Rs.aq,aE,bV]
    · exact absurd rfl hne
noncomputable def cI:Gf
  | [d,r,.int t]=>if jv d && cE (bN d).length r then .ok (bO (bc (bN d) (bQ r) t)) else .no
  | _=>.no
theorem nq {es:List Er} {rs:List Int} {t:Int} (h1:es.length≤100) (h:∀ e∈es,e.Sh) (hr:bx es.length rs):cI [av es,ao rs,.int t]=.ok (bO (bc es rs t)):=by
  unfold cI; simp [fU h1 h,cu,cP hr,cw]
theorem oI (es:List Er) (hsh:∀ e∈es,e.Sh) (R:PyData) (t:Int):∀ (rs:List Int) (k:Nat) (x3 x4:Option PyData),(∀ m∈rs,0≤m∧m < es.length) →
    (∃ i,hts es rs k t=some i∧forL (dG [3,4]) (sIf (gT (ay b7 (af (g2 dIx (ah 0) (ah 4)) (af (ah 2) ar)))) (b0 (ah 3)) b3) ((rs.map PyData.int).mapIdx fun i d=>.tuple [.int ((k + i:Nat):Int),d]) [some (av es),some R,some (.int t),x3,x4]=.rt (.int i))
   ∨(hts es rs k t=none∧∃ δ,forL (dG [3,4]) (sIf (gT (ay b7 (af (g2 dIx (ah 0) (ah 4)) (af (ah 2) ar)))) (b0 (ah 3)) b3) ((rs.map PyData.int).mapIdx fun i d=>.tuple [.int ((k + i:Nat):Int),d]) [some (av es),some R,some (.int t),x3,x4]=.nx δ)
  | [],k,x3,x4,_=>.inr ⟨rfl,_,rfl⟩
  | m::r,k,x3,x4,hm=>by
    have h0:=hm m List.mem_cons_self
    have a2:atI (es.map Er.d) m=some (aK es m).d:=ee h0.1 h0.2
    have ht:=kK (t:=t) (hsh _ (b4 h0.1 h0.2))
    rw [List.map_cons,List.mapIdx_cons]
    unfold forL
    have e1:dG [3,4] (PyData.tuple [.int ((k + 0:Nat):Int),.int m]) [some (av es),some R,some (.int t),x3,x4]=some [some (av es),some R,some (.int t),some (.int (k:Int)),some (.int m)]:=rfl
    rw [e1]
    simp only [lY,kB,bu,aO,aX,cF,az,aA,Rs.aj,av,lV,a2,Rs.aq,ht,c7,aE,cN,mW]
    unfold hts
    cases hh:(aK es m).has t with
    | true=>exact .inl ⟨k,rfl,rfl⟩
    | false =>
      simp only [Bool.false_eq_true,if_false]
      have ih:=oI es hsh R t r (k + 1) (some (.int (k:Int))) (some (.int m)) (fun x hx=>hm x (List.mem_cons_of_mem _ hx))
      rw [show ((k + 1:Nat):Int)=(k:Int) + 1 by omega] at ih
      have ef:(fun (i:Nat) (d:PyData)=>PyData.tuple [.int ((k + (i + 1):Nat):Int),d])=fun i d=>.tuple [.int ((k + 1 + i:Nat):Int),d]:=by
        funext i d; rw [show k + (i + 1)=k + 1 + i by omega]
      rw [ef]
      exact ih
theorem zR (cs:Cs):∀ ds,ds.length=3→cI ds≠.no→aV (k4 cs b7 (ds.map some++List.replicate 2 none))=cI ds:=by
  intro ds hl hne
  obtain ⟨d,r,t,ez,hz⟩:=g8 hne
  clear hne; subst ez; have hne:=hz; clear hz
  · skip
    split at hne
    · rename_i hc
      simp only [Bool.and_eq_true] at hc
      obtain ⟨c1,c2⟩:=hc
      obtain ⟨e1,hlen,hsh⟩:=kh c1
      obtain ⟨e2,hr⟩:=en c2
      rw [← e1,← e2]
      generalize bN d=es at *
      generalize bQ r=rs at *
      rw [nq hlen hsh hr]
      have loop:=oI es hsh (ao rs) t rs 0 none none hr.rng
      show aV (k4 cs b7 [some (av es),some (ao rs),some (.int t),none,none])=_
      have src:pO (af (ah 1) ar) [some (av es),some (ao rs),some (.int t),none,none]=.ok ((rs.map PyData.int).mapIdx fun i d=>.tuple [.int ((0 + i:Nat):Int),d]):=by
        simp only [yu,aO,aX,az,aA,Rs.aj,ao,xB,lS,Nat.zero_add]
      simp only [k4]
      rw [aZ,fS,dZ,src,aE]
      unfold bc
      rcases loop with ⟨i,q1,q2⟩ | ⟨q1,δ,q2⟩
      · rw [q2]
        have q1:hts es rs 0 t=some i:=q1
        rw [q1]; rfl
      · rw [q2]
        have q1:hts es rs 0 t=none:=q1
        rw [q1]; rfl
    · exact absurd rfl hne
noncomputable def cZ (es:List Er) (rs:List Int):PyData:=.list ((List.range 4).map fun (t:Nat)=>bO (bc es rs t))
noncomputable def bX:Gf
  | [d,r]=>if jv d && cE (bN d).length r then .ok (cZ (bN d) (bQ r)) else .no
  | _=>.no
theorem jr {es:List Er} {rs:List Int} (h1:es.length≤100) (h:∀ e∈es,e.Sh) (hr:bx es.length rs):bX [av es,ao rs]=.ok (cZ es rs):=by
  unfold bX; simp [fU h1 h,cu,cP hr,cw]
theorem wX {f:PyData→PyData→Rs PyData} {ds:List PyData} (h:(match ds with | [x0,x1]=>f x0 x1 | _=>.no)≠.no):∃ x0 x1,ds=[x0,x1]∧f x0 x1≠.no:=by
  rcases ds with _ | ⟨x0,_ | ⟨x1,_ | ⟨y,ys⟩⟩⟩
  · exact absurd rfl h
  · exact absurd rfl h
  · skip
    exact ⟨_,_,rfl,h⟩
  · exact absurd rfl h
theorem ub (cs:Cs):∀ ds,ds.length=2→bX ds≠.no→aV (fR cs cI (ds.map some++List.replicate 0 none))=bX ds:=by
  intro ds hl hne
  obtain ⟨d,r,ez,hz⟩:=wX hne
  clear hne; subst ez; have hne:=hz; clear hz
  · skip
    split at hne
    · rename_i hc
      simp only [Bool.and_eq_true] at hc
      obtain ⟨c1,c2⟩:=hc
      obtain ⟨e1,hlen,hsh⟩:=kh c1
      obtain ⟨e2,hr⟩:=en c2
      rw [← e1,← e2]
      generalize bN d=es at *
      generalize bQ r=rs at *
      rw [jr hlen hsh hr]
      have hh:∀ t:Int,cI [av es,ao rs,.int t]=.ok (bO (bc es rs t)):=fun t=>nq hlen hsh hr
      have hcm:cq 2 (gv (af (gC (.int 4)) ar)) cW (ay cI (af (ah 0) (af (ah 1) (af (ah 2) ar)))) bU [some (av es),some (ao rs)]=.ok ((cm 0 (4:Int).toNat).map fun x=>bO (bc es rs (deI x))) :=
        eK rfl (by simp only [lF,aO,aX,dB,Rs.aj]; exact lK (by decide) (by decide)) (by rw [eH]; decide) fun x hx=>by
          obtain ⟨i,hi⟩:=List.getElem?_of_mem hx
          obtain ⟨_,rfl⟩:=ix hi
          simp only [List.cons_append,List.nil_append,bu,aO,aX,az,aA,Rs.aj,hh]
          rfl
      have hd:cZ es rs=.list ((cm 0 (4:Int).toNat).map fun x=>bO (bc es rs (deI x))):=by
        unfold cZ cm
        rw [List.map_map]
        congr 1
        try exact List.map_congr_left fun k _=>by simp [deI]
      rw [hd]
      show aV (fR cs cI [some (av es),some (ao rs)])=_
      simp only [fR,cN,tG,hcm,Rs.aj,aE,bV]
    · exact absurd rfl hne
end RS
set_option maxRecDepth 100000
set_option maxHeartbeats 1000000
namespace RS
open PySem L2
noncomputable def d8 (ns:List Int) (a:Int) (many:Nat):Nat→List Int × List Int
  | 0=>((List.range many).map fun (i:Nat)=>(i:Int),[])
  | i + 1=>((d8 ns a many i).1.eraseIdx (mixed ns (a + (i:Int)) ((d8 ns a many i).1.length:Int)).toNat,(d8 ns a many i).2++[(d8 ns a many i).1.getD (mixed ns (a + (i:Int)) ((d8 ns a many i).1.length:Int)).toNat 0])
noncomputable def pq (ns:List Int) (a:Int) (many:Nat):List Int:=(d8 ns a many many).2
theorem qJ {α:Type}:∀ (l:List α) (j:Nat) (h:j < l.length),(l[j]::l.eraseIdx j).Perm l
  | [],j,h=>by simp at h
  | x::r,0,h=>by simp
  | x::r,j + 1,h=>by
    simp only [List.getElem_cons_succ,List.eraseIdx_cons_succ]
    have h':j < r.length:=by simpa using h
    exact (List.Perm.swap _ _ _).trans ((qJ r j h').cons x)
theorem rR {α β:Type} (f:α→β):∀ (l:List α) (j:Nat),(l.map f).eraseIdx j=(l.eraseIdx j).map f
  | [],j=>by simp
  | x::r,0=>by simp
  | x::r,j + 1=>by simp [rR f r j]
theorem pR (ns:List Int) (a:Int) (many:Nat):∀ i,i≤many→(d8 ns a many i).1.length=many - i∧(d8 ns a many i).2.length=i∧((d8 ns a many i).1++(d8 ns a many i).2).Perm ((List.range many).map fun (i:Nat)=>(i:Int))
  | 0,_=>⟨by simp [d8],rfl,by simp [d8]⟩
  | i + 1,h=>by
    obtain ⟨h1,h2,h3⟩:=pR ns a many i (by omega)
    simp only [d8]
    generalize (d8 ns a many i).1=L at *
    generalize (d8 ns a many i).2=M at *
    have hL:0 < (L.length:Int):=by omega
    have m0:=de ns (a + (i:Int)) hL
    have m1:=dF ns (a + (i:Int)) hL
    generalize mixed ns (a + (i:Int)) (L.length:Int)=z at *
    have hz:z.toNat < L.length:=by omega
    refine ⟨by rw [List.length_eraseIdx_of_lt hz]; omega,by simp [h2],?_⟩
    refine List.Perm.trans ?_ h3
    rw [List.getD_eq_getElem?_getD,List.getElem?_eq_getElem hz,Option.getD_some]
    have p1:(L[z.toNat]::L.eraseIdx z.toNat).Perm L:=qJ L z.toNat hz
    have p2:(L.eraseIdx z.toNat++(M++[L[z.toNat]])).Perm ((L[z.toNat]::L.eraseIdx z.toNat)++M):=by
      rw [← List.append_assoc]
      exact (List.perm_append_singleton _ _)
    exact p2.trans (p1.append_right M)
theorem xo (ns:List Int) (a:Int) (many:Nat):bx many (pq ns a many):=by
  obtain ⟨h1,h2,h3⟩:=pR ns a many many (Nat.le_refl _)
  unfold pq
  have e:(d8 ns a many many).1=[]:=List.length_eq_zero_iff.mp (by omega)
  rw [e,List.nil_append] at h3
  refine ⟨h2,fun r hr=>?_,h3.nodup_iff.mpr ?_⟩
  · obtain ⟨k,hk,rfl⟩:=List.mem_map.mp (h3.mem_iff.mp hr)
    have:=List.mem_range.mp hk
    omega
  · exact (List.nodup_range).map (f:=fun (i:Nat)=>(i:Int)) fun x y h=>by
      intro q; have q:(x:Int)=(y:Int):=q; exact h (by omega)
noncomputable def bJ:Gf
  | [s,.int a,.int many]=>(match fJ s with
    | some ns=>if 0≤a∧0≤many∧many≤100 then .ok (ao (pq ns a many.toNat)) else .no
    | none=>.no)
  | _=>.no
theorem kx {ns:List Int} {a many:Int} (h1:0≤a) (h2:0≤many) (h3:many≤100):bJ [aC ns,.int a,.int many]=.ok (ao (pq ns a many.toNat)):=by
  unfold bJ; simp [gA,h1,h2,h3]
theorem zh (ns:List Int) (a:Int) (n i:Nat) (L M:List Int) (ha:0≤a) (hL:0 < (L.length:Int)) (hL2:L.length≤100) (hM:M.length≤100) :
    jO 4 3 (ay ak (af (ah 0) (af (g2 bb (ah 1) (ah 5)) (af (gF eN (af (ah 3) ar)) ar)))) [some (aC ns),some (.int a),some (.int (n:Int)),some (.list (L.map .int)),some (.list (M.map .int)),some (.int (0 + (i:Int)))]
   =.nx [some (aC ns),some (.int a),some (.int (n:Int)),some (.list ((L.eraseIdx (mixed ns (a + (i:Int)) (L.length:Int)).toNat).map .int)),some (.list ((M++[L.getD (mixed ns (a + (i:Int)) (L.length:Int)).toNat 0]).map .int)),some (.int (0 + (i:Int)))]:=by
  have hm':=c9 (ns:=ns) (k:=a + (0 + (i:Int))) (many:=(L.length:Int)) (by omega) hL
  have m0:=de ns (a + (i:Int)) hL
  have m1:=dF ns (a + (i:Int)) hL
  rw [show a + (0 + (i:Int))=a + (i:Int) by omega] at hm'
  generalize mixed ns (a + (i:Int)) (L.length:Int)=z at *
  have hz:z.toNat < L.length:=by omega
  have hg:ay ak (af (ah 0) (af (g2 bb (ah 1) (ah 5)) (af (gF eN (af (ah 3) ar)) ar))) [some (aC ns),some (.int a),some (.int (n:Int)),some (.list (L.map .int)),some (.list (M.map .int)),some (.int (0 + (i:Int)))]=.ok (.int z):=by
    simp only [bu,aO,aX,cF,nG,az,aA,Rs.aj,dD,Rs.aq,DN,List.length_map]
    rw [show a + (0 + (i:Int))=a + (i:Int) by omega]
    exact hm'
  have hix:ixN (L.map PyData.int).length z=some z.toNat:=by
    unfold ixN
    rw [if_pos m0,if_pos (by rw [List.length_map]; omega)]
  have hat:(L.map PyData.int)[z.toNat]?=some (.int (L.getD z.toNat 0)):=by
    rw [List.getElem?_map,List.getElem?_eq_getElem hz,List.getD_eq_getElem?_getD,List.getElem?_eq_getElem hz]; rfl
  unfold jO
  simp only [List.getElem?_cons_succ,List.getElem?_cons_zero,hg,aE]
  rw [if_pos (by refine ⟨by omega,by omega,?_⟩; rw [List.length_map]; omega)]
  simp only [hix,hat,List.set_cons_succ,List.set_cons_zero,List.map_append,List.map_cons,List.map_nil]
  rw [rR]
theorem yy (ns:List Int) (a:Int) (n i:Nat) (ha:0≤a) (hi:i < n) (hn:n≤100) :
    jO 4 3 (ay ak (af (ah 0) (af (g2 bb (ah 1) (ah 5)) (af (gF eN (af (ah 3) ar)) ar)))) [some (aC ns),some (.int a),some (.int (n:Int)),some (.list ((d8 ns a n i).1.map .int)),some (.list ((d8 ns a n i).2.map .int)),some (.int (0 + (i:Int)))]
   =.nx [some (aC ns),some (.int a),some (.int (n:Int)),some (.list ((d8 ns a n (i + 1)).1.map .int)),some (.list ((d8 ns a n (i + 1)).2.map .int)),some (.int (0 + (i:Int)))]:=by
  obtain ⟨h1,h2,h3⟩:=pR ns a n i (by omega)
  simp only [d8]
  exact zh ns a n i _ _ ha (by omega) (by omega) (by omega)
theorem rk1 (ns:List Int) (a:Int) (n:Nat) (hm2:(n:Int)≤100):lR [3,4] 3 (gLR (af (ah 2) ar)) [some (aC ns),some (.int a),some (.int (n:Int)),none,none,none]=.nx [some (aC ns),some (.int a),some (.int (n:Int)),some (.list ((d8 ns a n 0).1.map .int)),none,none]:=by
  have hg:gLR (af (ah 2) ar) (mask [3,4] [some (aC ns),some (.int a),some (.int (n:Int)),none,none,none])=.ok (cm 0 n):=by
    simp only [E9,aO,aX,aJ (show 2 ∉ [3,4] by decide),az,aA,Rs.aj]
    unfold um
    simp only
    rw [if_pos (by omega),Int.toNat_natCast]
  have he:(d8 ns a n 0).1.map PyData.int=cm 0 n:=by
    simp only [d8,cm,List.map_map]
    refine List.map_congr_left fun k _=>?_
    simp
  rw [he]
  unfold lR
  rw [hg,if_pos (by simp)]; simp only [aE,List.set_cons_succ,List.set_cons_zero]
theorem rk2 (ns:List Int) (a:Int) (n:Nat):lR [3,4] 4 ar [some (aC ns),some (.int a),some (.int (n:Int)),some (.list ((d8 ns a n 0).1.map .int)),none,none]=.nx [some (aC ns),some (.int a),some (.int (n:Int)),some (.list ((d8 ns a n 0).1.map .int)),some (.list ((d8 ns a n 0).2.map .int)),none]:=by
  unfold lR
  rw [if_pos (by simp)]; simp only [aX,aE,List.set_cons_succ,List.set_cons_zero]
  rfl
theorem rk3 (ns:List Int) (a:Int) (n:Nat) (hm2:(n:Int)≤100):gv (af (ah 2) ar) (mask [3,4] [some (aC ns),some (.int a),some (.int (n:Int)),some (.list ((d8 ns a n 0).1.map .int)),some (.list ((d8 ns a n 0).2.map .int)),none])=.ok (cm 0 n):=by
  have hv:af (ah 2) ar (mask [3,4] [some (aC ns),some (.int a),some (.int (n:Int)),some (.list ((d8 ns a n 0).1.map .int)),some (.list ((d8 ns a n 0).2.map .int)),none])=.ok [.int (n:Int)]:=rfl
  have hr:=lK (j:=(n:Int)) (Int.natCast_nonneg n) (by omega)
  rw [Int.toNat_natCast] at hr
  rw [lF,hv,Rs.aj,hr]
theorem ve (cs:Cs):∀ ds,ds.length=3→bJ ds≠.no→aV (gJ cs ak (ds.map some++List.replicate 3 none))=bJ ds:=by
  intro ds hl hne
  obtain ⟨s,a,many,ez,hz⟩:=lu hne
  clear hne; subst ez; have hne:=hz; clear hz
  · skip
    split at hne
    · rename_i ns hs
      have es:=i4 hs
      subst es
      split at hne
      · rename_i hc
        obtain ⟨ha,hm,hm2⟩:=hc
        rw [kx ha hm hm2]
        obtain ⟨n,rfl⟩:∃ n:Nat,many=(n:Int):=⟨many.toNat,by omega⟩
        rw [Int.toNat_natCast]
        show aV (gJ cs ak [some (aC ns),some (.int a),some (.int (n:Int)),none,none,none])=_
        have s1:=rk1 ns a n hm2
        have s2:=rk2 ns a n
        have src:=rk3 ns a n hm2
        obtain ⟨δ',e,x5,hδ⟩:=iL (β:=Unit) (tgt:=cn 5) (body:=jO 4 3 (ay ak (af (ah 0) (af (g2 bb (ah 1) (ah 5)) (af (gF eN (af (ah 3) ar)) ar)))))
          (fun i δ=>∃ x5,δ=[some (aC ns),some (.int a),some (.int (n:Int)),some (.list ((d8 ns a n i).1.map .int)),some (.list ((d8 ns a n i).2.map .int)),x5])
          (cm 0 n) 0 (fun i d δ hi pz4=>by
            obtain ⟨x5,hx⟩:=pz4
            subst hx
            rw [Nat.zero_add] at *
            obtain ⟨hil,rfl⟩:=ix hi
            refine ⟨[some (aC ns),some (.int a),some (.int (n:Int)),some (.list ((d8 ns a n i).1.map .int)),some (.list ((d8 ns a n i).2.map .int)),some (.int (0 + (i:Int)))],_,rfl,?_,some (.int (0 + (i:Int))),rfl⟩
            exact yy ns a n i ha hil (by omega)) [some (aC ns),some (.int a),some (.int (n:Int)),some (.list ((d8 ns a n 0).1.map .int)),some (.list ((d8 ns a n 0).2.map .int)),none] ⟨none,rfl⟩
        subst hδ
        rw [Nat.zero_add,eH] at e
        simp only [gJ]
        rw [aZ,s1]; simp only
        rw [aZ,s2]; simp only
        rw [aZ,fS,src,aE,e]; simp only
        simp only [cN,nG,aO,aX,az,aA,Rs.aj,wN,Rs.aq,aE,bV]
        rfl
      · exact absurd rfl hne
    · exact absurd rfl hne
end RS
set_option maxRecDepth 100000
set_option maxHeartbeats 1000000
namespace RS
open PySem PySem.Spec PyProof.Rows L2
section
variable {P:Program} {w:World} {K:PySem.W.Frag} {mg:Str→Option Value} {base:Heap}
theorem Cy {x qual:Str} {st:Stmt} {f:Addr} {fd:FuncData} {N ps:List Str} {k:Nat} {O:List Nat} {G:Ds→Sr} {gf:List PyData→Rs PyData} (F:Fun K x qual st f fd) (S:aU N ps (aB st)) (hO:∀ i∈O,ps.length≤i)
    (body:∀ (cdv:Value) (A:Around) (outer:List Env) (s:Shared) (H:Hp) (E:XK),fk k (A.deeper (envOfC qual (aB st) s.heap.objs.size f cdv))→PBD (jE (CXW P w) P w K mg base N qual (aB st) f cdv A outer s H E) E O (eV st) G)
    (hg:∀ ds,ds.length=ps.length→gf ds≠.no→aV (G (ds.map some++List.replicate (N.length - ps.length) none))=gf ds):kq P w K mg base (CXW P w) (k + 1) f fd ps (spD K ps.length gf):=by
  refine tH F S (fun vs H Q E h=>?_) (fun cdv A outer s H vs Q E hr h=>?_)
  · obtain ⟨A,ds,hA,hi,hl,o⟩:=h
    rw [hi.length,hl]
  · obtain ⟨A0,ds,hA,hi,hl,o⟩:=h
    refine ⟨_,body cdv A outer s H E hr,H,A0,[],_,dA.start hA hi hl hO,?_⟩
    have hg':=hg ds hl (fun z=>by rw [z] at o; exact o)
    cases q:G (ds.map some++List.replicate (N.length - ps.length) none) with
    | rt d=>rw [q] at hg'; rw [← hg'] at o; exact fun v H' s' hv=>o v H' s' hv
    | nx δ=>rw [q] at hg'; rw [← hg'] at o; exact fun A' σ H' R'=>o .non H' R'.same is_none
    | rz C=>rw [q] at hg'; rw [← hg'] at o; exact fun H' s'=>o H' s'
    | bk δ=>rw [q] at hg'; rw [← hg'] at o; exact o.elim
    | ct δ=>rw [q] at hg'; rw [← hg'] at o; exact o.elim
    | no=>rw [q] at hg'; rw [← hg'] at o; exact o.elim
theorem aS {h:Heap} {x:Str} {st:Stmt} {ps:List Str} {f:Addr} {oc:Value} {od an:Option Addr} {sl:Array (Option Value)} {kV dc pm cd ct:Value} (X:K.In h) (G:h.Ns mainGlobals mg)
    (hb:∀ (kV doc pm:Value) (an:Option Addr) (cdv ct:Value) (us:List Value),us.length=ps.length→bindArgs (PySem.W.fnOf x x (hZ st) (eV st) (aB st) .none kV doc pm an cdv ct) ⟨us,[]⟩=pure (ps.zip us))
    (a:PySem.W.nsIn K mainGlobals x=some (some (.ref f)))
    (l:K.lookup f=some ⟨oc,od,.func (PySem.W.fnOf x x (hZ st) (eV st) (aB st) .none kV dc pm an cd ct),sl⟩)
    (c:PySem.W.codeIn K cd x=true) (k:PySem.W.keepIn K (.ref f)=true):aR K mg x st ps :=
  have F:=Ao (st:=st) l c k
  ⟨f,_,F,F.binds hb,PySem.W.mg_of X G a⟩
theorem tJ {h:Heap} {x:Str} {C:Addr} (X:K.In h) (G:h.Ns mainGlobals mg) (a:PySem.W.nsIn K mainGlobals x=some (some (.ref C)))
    (e:PySem.W.excIn K C [.type "ValueError",.type "Exception",.type "BaseException",.type "object"] "ValueError.__new__"=true):uy K mg x C:=⟨PySem.W.mg_of X G a,e⟩
theorem jL {h:Heap} {x:Str} {n:Int} {t:_} (X:K.In h) (G:h.Ns mainGlobals mg) (a:PySem.W.nsIn K mainGlobals x=some (some (.int n t))):∃ t,mg x=some (.int n t):=⟨t,PySem.W.mg_of X G a⟩
end
noncomputable def fh (n:Nat):Gf
  | [s]=>(match fJ s with
    | some ns=>if ns.length≤n then .ok (.bool true) else .no
    | none=>.no)
  | _=>.no
theorem _root_.L2.tabsIn_nil (e:L2.ye=[]) {K:PySem.W.Frag} {h:Heap}:L2.qk K h:=⟨(fun P q pz2=>by obtain ⟨x,m,_⟩:=pz2; rw [e] at m; cases m),(fun P q q' pz3 _=>by obtain ⟨x,m,_⟩:=pz3; rw [e] at m; cases m)⟩
theorem EB {l:PySem.W.OpenLaw} {n k:Nat} {q:Program} {loose:List Str} {XP:(Str→Option Value)→Heap→Prop} {YP:World→Heap→Prop} {d:DefRec} {K:Params→PySem.W.Frag} {x:Str} {st:Stmt}
    (hn:l.most=some n) (hn2:n≤sizeLine) (hdf:d.params.defaults=[]) (hr:fk k callerA)
    (hY:∀ (w:World) (h:Heap),YP w h→(K w.params).In h)
    (hb:∀ (kV doc pm:Value) (an:Option Addr) (cdv ct:Value) (us:List Value),us.length=1→bindArgs (PySem.W.fnOf d.name d.name (hZ st) (eV st) (aB st) .none kV doc pm an cdv ct) ⟨us,[]⟩=pure ([x].zip us))
    (F:∀ (w:World) (mg:Str→Option Value) (h:Heap),(K w.params).In h→h.Ns mainGlobals mg→
      aR (K w.params) mg d.name st [x]∧∀ f fd,Fun (K w.params) d.name d.name st f fd→∀ base:Heap,(K w.params).In base→base.Ns mainGlobals mg→kq l.prog w (K w.params) mg base (CXW l.prog w) k f fd [x] (spD (K w.params) 1 (fh n)))
    (hTb:∀ (w:World) (h:Heap) (loose':List Str) (mean:ExcName→Option Value) (mg mb:Str→Option Value),PyProof.Rows.Top q loose' mean mg mb h→(K w.params).In h→L2.qk (K w.params) h:=by exact fun _ _ _ _ _ _ _ _=>L2.tabsIn_nil rfl) :
    PySem.W.WalkO q loose XP YP l.row.toRowW d [] (fun f vs=>PySem.call f vs) :=
  L2.yf (n:=n) (k:=k) (x:=x) (CX:=fun w=>CXW l.prog w) (sp:=fun w=>spD (K w.params) 1 (fh n)) hn hn2 hdf hr hY
    (fun w mg fa h X G hfa=>by
      obtain ⟨⟨f,fd,F1,b,m⟩,hF⟩:=F w mg h X G
      have e:=hfa.symm.trans m
      cases e
      refine ⟨fd,fun s u=>?_,hF fa fd F1⟩
      obtain ⟨oc,od,kV,doc,pm,an,cdv,ct,osl,rfl,lk,hcd⟩:=F1.ex
      exact .of_eq (hb kV doc pm an cdv ct [u] rfl))
    (fun w H a ns hl hO hS=>by
      refine ⟨[],[aC ns],?_,?_,rfl,?_⟩
      · exact Ls.nil
      · rw [xV]; exact ⟨_,[],rfl,yz hS,rfl⟩
      · have eg:fh n [aC ns]=.ok (.bool true):=by unfold fh; simp [gA,hl]
        rw [eg]
        intro v H' _ hv
        rw [xV] at hv
        unfold Is at hv
        exact hv)
    (fun w H s e s' qz5=>(by obtain ⟨_,_,_,_,_,_,z,_⟩:=qz5; exact z)) hTb
end RS
set_option maxRecDepth 100000
set_option maxHeartbeats 1000000
namespace RS
open PySem L2
theorem nQ:∀ {ds:List PyData},(∀ d∈ds,bS d=true)→jf ds=true
  | [],_=>by unfold jf; rfl
  | d::r,h=>by unfold jf; rw [h d List.mem_cons_self,nQ fun e he=>h e (List.mem_cons_of_mem _ he)]; rfl
theorem iq {ds:List PyData} (h:∀ d∈ds,bS d=true):bS (.tuple ds)=true:=by unfold bS; exact nQ h
theorem pA {ds:List PyData} (h:∀ d∈ds,bS d=true):bS (.list ds)=true:=by unfold bS; exact nQ h
theorem ia (i:Int):bS (.int i)=true:=by unfold bS; rfl
theorem yH (o:Option Int):bS (bO o)=true:=by cases o <;> (unfold bO bS; rfl)
theorem v3 (p:Int × Option Int):bS (aT p)=true:=iq fun d hd=>by
  rcases List.mem_cons.mp hd with rfl | hd
  · exact ia _
  · cases List.mem_singleton.mp hd; exact yH _
theorem Bh (e:Er):bS e.d=true:=iq fun d hd=>by
  rcases List.mem_cons.mp hd with rfl | hd
  · exact ia _
  · rcases List.mem_cons.mp hd with rfl | hd
    · exact ia _
    · rcases List.mem_cons.mp hd with rfl | hd
      · exact ia _
      · cases List.mem_singleton.mp hd
        exact iq fun d hd=>by obtain ⟨p,_,rfl⟩:=List.mem_map.mp hd; exact v3 p
theorem rA (es:List Er):bS (av es)=true:=iq fun d hd=>by obtain ⟨p,_,rfl⟩:=List.mem_map.mp hd; exact Bh p
theorem mw (rs:List Int):∀ d∈rs.map PyData.int,bS d=true:=fun d hd=>by obtain ⟨p,_,rfl⟩:=List.mem_map.mp hd; exact ia p
theorem wW (rs:List Int):bS (ao rs)=true:=iq (mw rs)
end RS
set_option maxRecDepth 100000
set_option maxHeartbeats 1000000
namespace RS
open PySem PySem.Spec PyProof.Rows L2
section
variable {P:Program} {w:World} {K:PySem.W.Frag} {mg:Str→Option Value} {base:Heap}
theorem xD {α:Type} {xs:List α} {k:Int} {v:α} (h0:0≤k) (h:xs[k.toNat]?=some v):atI xs k=some v:=by
  have:=Bz h
  rwa [Int.toNat_of_nonneg h0] at this
theorem depthAll_ints:∀ ns:List Int,PyData.depthAll (ns.map PyData.int)≤1
  | []=>by simp [PyData.depthAll]
  | n::r=>by
    have:=depthAll_ints r
    simp only [List.map_cons,PyData.depthAll,PyData.depth]
    omega
theorem oG:∀ ns:List Int,PyData.canLayAll0 (ns.map PyData.int)=true
  | []=>by simp [PyData.canLayAll0]
  | n::r=>by simp [PyData.canLayAll0,PyData.canLay0,oG r]
theorem shaped_ints (ns:List Int):SeqAt.shaped (.list (ns.map PyData.int))=true:=by
  have:=depthAll_ints ns
  have h2:(PyData.list (ns.map PyData.int)).depth≤64:=by
    simp only [PyData.depth]
    omega
  simp [SeqAt.shaped,PyData.canLay0,oG,h2]
theorem wL:SeqAt.shaped (.list [])=true:=shaped_ints []
theorem Bd:∀ ns:List Int,PyData.eqv (.list (ns.map PyData.int)) (.list [])=decide (ns=[])
  | []=>by simp [PyData.eqv,PyData.eqvAll]
  | _::_=>by simp [PyData.eqv,PyData.eqvAll]
noncomputable def AU (K:PySem.W.Frag):Sp:=fun vs H Q _=>∃ (a:Addr) (ns:List Int) (k:Int),vs=[.ref a,.int k]∧SqL K H a (ns.map V.int)∧0≤k∧∀ H',aM H H'→Q (.int (cellAt ns k)) H'
noncomputable def CG (K:PySem.W.Frag):Sp:=fun vs H Q _=>∃ (a:Addr) (ns:List Int) (k many:Int),vs=[.ref a,.int k,.int many]∧SqL K H a (ns.map V.int)∧0≤k∧0 < many∧∀ H',aM H H'→Q (.int (mixed ns k many)) H'
theorem B7 (ds:List PyData) (hl:ds.length=3) (hne:ak ds≠.no):∃ d,ak ds=.ok d∧f9 d=true∧∀ vs H Q,Iss K H ds vs→(∀ v H',aM H H'→IsD K H' d v→Q v H')→CG K vs H Q E0:=by
  obtain ⟨s,k,many,ez,hz⟩:=lu hne
  clear hne; subst ez; have hne:=hz; clear hz
  · skip
    split at hne
    · rename_i ns hs
      have es:=i4 hs
      subst es
      split at hne
      · rename_i hc
        refine ⟨_,c9 hc.1 hc.2,rfl,fun vs H Q hi ho=>?_⟩
        obtain ⟨v0,r0,rfl,h0,v1,r1,rfl,h1,v2,r2,rfl,h2,rfl⟩:=hi
        obtain ⟨a,rfl,hS⟩:=h0.ofScript
        rw [h1.ofInt,h2.ofInt]
        exact ⟨a,ns,k,many,rfl,hS,hc.1,hc.2,fun H' s'=>ho _ _ s' uo⟩
      · exact absurd rfl hne
    · exact absurd rfl hne
end
end RS
set_option maxRecDepth 100000
set_option maxHeartbeats 1000000
namespace RS
open PySem L2
noncomputable def okIn (d r:PyData):Bool:=cy d && cE (bN d).length r
noncomputable def okN (d r:PyData) (n:Int):Bool:=okIn d r && decide (0≤n) && decide (n < (bN d).length)
section
variable {es:List Er} {rs:List Int} {n:Int}
theorem Bo (h1:1≤es.length) (h2:es.length≤6) (h:∀ e∈es,e.Ok) (hr:bx es.length rs):okIn (av es) (ao rs)=true:=by unfold okIn; rw [fX h1 h2 h,cu,cP hr]; rfl
theorem AJ (h1:1≤es.length) (h2:es.length≤6) (h:∀ e∈es,e.Ok) (hr:bx es.length rs) (n0:0≤n) (n1:n < es.length):okN (av es) (ao rs) n=true:=by
  unfold okN; rw [Bo h1 h2 h hr,cu]; simp [n0,n1]
end
theorem sP (i:Int):lg "bool" (.int i)=some (.bool false):=by
  unfold lg; rw [show bS (.int i)=true by unfold bS; rfl]; rfl
theorem oK {cond:Ds→Rs Bool} {elt:Ds→Rs PyData} {δ:Ds} {p:PyData→Bool}:∀ (ds:List PyData),(∀ d∈ds,cond (δ++[some d])=.ok (p d)∧elt (δ++[some d])=.ok d)→iF cond elt bU δ ds=.ok (ds.filter p)
  | [],_=>rfl
  | d::r,h=>by
    obtain ⟨h1,h2⟩:=h d List.mem_cons_self
    have ih:=oK r fun e he=>h e (List.mem_cons_of_mem _ he)
    unfold iF
    cases hp:p d with
    | true=>simp only [bU,h1,hp,Rs.kv,Rs.aj,if_true,h2,ih,List.filter_cons]
    | false=>simp only [bU,h1,hp,Rs.kv,Rs.aj,if_false,Bool.false_eq_true,ih,List.filter_cons]
theorem j8 {n0:Nat} {src:Ds→Rs (List PyData)} {cond:Ds→Rs Bool} {elt:Ds→Rs PyData} {δ:Ds} {p:PyData→Bool} {ds:List PyData} (hn:δ.length=n0) (hs:src δ=.ok ds) (hl:ds.length≤1000000) (h:∀ d∈ds,cond (δ++[some d])=.ok (p d)∧elt (δ++[some d])=.ok d) :
    cq n0 src cond elt bU δ=.ok (ds.filter p):=by
  unfold cq
  rw [if_pos hn,hs]
  simp only [Rs.aj,if_pos hl]
  exact oK ds h
theorem zT (ns:List Int) (a top:Int) (ha:0≤a) (ht:0 < top) (ht2:top≤58):∃ es rs,o3 ns a 4 top true=es∧1≤es.length∧es.length≤4∧(∀ e∈es,e.Ok)∧bx es.length rs∧a8 [aC ns,.int a,.int 4,.int top,.bool true]=.ok (av es)∧bJ [aC ns,.int 0,.int (es.length:Int)]=.ok (ao rs):=by
  have hl:=zM ns a 4 top true (by decide)
  have hok:=Bq ns a 4 top true ht ht2
  have hes:a8 [aC ns,.int a,.int 4,.int top,.bool true]=.ok (av (o3 ns a 4 top true)):=i5 ha (by decide) (by decide) ht ht2
  generalize o3 ns a 4 top true=es at *
  have hrs:=kx (ns:=ns) (a:=0) (many:=(es.length:Int)) (by decide) (by omega) (by omega)
  rw [Int.toNat_natCast] at hrs
  exact ⟨es,_,rfl,hl.1,by omega,hok,xo ns 0 es.length,hes,hrs⟩
theorem By (es:List Er):eN [av es]=some (.int (es.length:Int)):=by unfold av; rw [tE,List.length_map]
theorem lawT_of {n:Nat} {G:Ds→Sr} {k:Nat} (h:∀ ns:List Int,G (some (aC ns)::List.replicate k none)=.rt (.bool true)):∀ ds,ds.length=1→fh n ds≠.no→aV (G (ds.map some++List.replicate k none))=fh n ds:=by
  intro ds hl hne
  match ds,hl with
  | [s],_ =>
    unfold fh at hne ⊢
    simp only at hne ⊢
    split at hne
    · rename_i ns hs
      have es:=i4 hs
      subst es
      split at hne
      · rename_i hc
        simp only [gA,if_pos hc]
        show aV (G (some (aC ns)::List.replicate k none))=_
        rw [h]; rfl
      · exact absurd rfl hne
    · exact absurd rfl hne
end RS
set_option maxRecDepth 100000
set_option maxHeartbeats 1000000
namespace RS
open PySem L2
theorem yG (cs:Cs):∀ ds,ds.length=1→bh ds≠.no→aV (nU cs (ds.map some++List.replicate 0 none))=bh ds:=pD cs
noncomputable def bf (cs:Cs):Gf
  | [.tuple es,x]=>if bS x then (if isWhole x 0 ((es.length:Int) - 1) then .ok x else .rz cs.NoErrand) else .no
  | _=>.no
theorem nZ (cs:Cs):∀ ds,ds.length=2→bf cs ds≠.no→aV (dC cs aI (ds.map some++List.replicate 0 none))=bf cs ds:=by
  intro ds hl hne
  obtain ⟨es,x,ez,hz⟩:=zS hne
  clear hne; subst ez; have hne:=hz; clear hz
  unfold bf
  · skip
    split at hne
    · rename_i hd
      simp only [hd,if_true]
      cases e:isWhole x 0 ((es.length:Int) - 1) with
      | true=>simp [dC,hd,e]
      | false=>simp [dC,hd,e]
    · exact absurd rfl hne
theorem rQ {d r:PyData} {n:Int} (h:okN d r n=true):∃ es rs,d=av es∧r=ao rs∧bN d=es∧bQ r=rs∧1≤es.length∧es.length≤6∧(∀ e∈es,e.Ok)∧bx es.length rs∧0≤n∧n < es.length:=by
  unfold okN okIn at h
  simp only [Bool.and_eq_true,decide_eq_true_eq] at h
  obtain ⟨⟨⟨c1,c2⟩,n0⟩,n1⟩:=h
  obtain ⟨e1,l1,l6,hok⟩:=jN c1
  obtain ⟨e2,hr⟩:=en c2
  exact ⟨bN d,bQ r,e1.symm,e2.symm,rfl,rfl,l1,l6,hok,hr,n0,n1⟩
theorem l7 {es:List Er} (cs:Cs) (h1:1≤es.length) (h2:es.length≤6) (h:∀ e∈es,e.Ok):ba cs [av es]=.ok (av es):=by
  unfold ba; simp [rA,fX h1 h2 h]
theorem lP {es:List Er} {rs:List Int} (cs:Cs) (h2:es.length≤6) (hr:bx es.length rs):br cs [av es,ao rs]=.ok (ao rs):=by
  unfold av br
  simp only [List.length_map,wW,cP hr,Bool.true_and,if_true]
  rw [if_pos (by simp; omega)]
theorem kH {es:List Er} {n:Int} (cs:Cs) (n0:0≤n) (n1:n < es.length):bf cs [av es,.int n]=.ok (.int n):=by
  unfold av bf
  simp only [ia,if_true,List.length_map,isWhole]
  rw [if_pos (by simp; omega)]
noncomputable def bM:Gf
  | [d,r,.int n]=>if okN d r n then .ok .none else .no
  | _=>.no
theorem iV {es:List Er} {rs:List Int} {n:Int} (h1:1≤es.length) (h2:es.length≤6) (h:∀ e∈es,e.Ok) (hr:bx es.length rs) (n0:0≤n) (n1:n < es.length):bM [av es,ao rs,.int n]=.ok .none:=by
  unfold bM; simp only [AJ h1 h2 h hr n0 n1,if_true]
theorem qW (cs:Cs):∀ ds,ds.length=3→bM ds≠.no→aV (fe cs (bf cs) (br cs) (ba cs) (ds.map some++List.replicate 0 none))=bM ds:=by
  intro ds hl hne
  obtain ⟨d,r,n,ez,hz⟩:=g8 hne
  clear hne; subst ez; have hne:=hz; clear hz
  · skip
    split at hne
    · rename_i hc
      obtain ⟨es,rs,rfl,rfl,_,_,l1,l6,hok,hr,n0,n1⟩:=rQ hc
      rw [iV l1 l6 hok hr n0 n1]
      show aV (fe cs (bf cs) (br cs) (ba cs) [some (av es),some (ao rs),some (.int n)])=_
      simp [fe,l7 cs l1 l6 hok,lP cs l6 hr,kH cs n0 n1]
    · exact absurd rfl hne
end RS
set_option maxRecDepth 100000
set_option maxHeartbeats 1000000
namespace RS
open PySem L2
structure Er.Wk (e:Er):Prop where
  sh:e.Sh
  e2:e.every≤60
  l1:0≤e.late
  p2:e.parts.length≤4
  pl:∀ p∈e.parts,1≤p.1∧p.1≤1000000
  p1:e.parts≠[]
theorem Er.Ok.wk {e:Er} (h:e.Ok):e.Wk:=⟨h.sh,h.e2,h.l1,h.p2,fun p hp=>by have:=h.pl p hp; exact ⟨this.1,by omega⟩,h.p1⟩
theorem Er.Wk.work1 {e:Er} (h:e.Wk):1≤e.work:=by
  obtain ⟨p,hp⟩:=List.exists_mem_of_ne_nil _ h.p1
  have h1:=h.sh.part_le hp
  have h2:=(h.pl p hp).1
  omega
noncomputable def wkB (e:Er):Bool:=decide (e.every≤60) && decide (0≤e.late) && decide (e.parts.length≤4) && e.parts.all (fun p=>decide (1≤p.1)) && decide (e.parts≠[])
theorem CY {e:Er} (h:e.Wk):wkB e=true:=by
  unfold wkB
  simp only [Bool.and_eq_true,decide_eq_true_eq,List.all_eq_true]
  exact ⟨⟨⟨⟨h.e2,h.l1⟩,h.p2⟩,fun p hp=>(h.pl p hp).1⟩,h.p1⟩
theorem DX {e:Er} (h:wkB e=true) (hs:e.Sh):e.Wk:=by
  unfold wkB at h
  simp only [Bool.and_eq_true,decide_eq_true_eq,List.all_eq_true] at h
  obtain ⟨⟨⟨⟨a,b⟩,c⟩,d⟩,f⟩:=h
  exact ⟨hs,a,b,c,fun p hp=>⟨d p hp,(hs.pl p hp).2.1⟩,f⟩
noncomputable def nM (d:PyData):Bool:=jv d && decide (1≤(bN d).length) && decide ((bN d).length≤6) && (bN d).all wkB
theorem k9 {es:List Er} (h1:1≤es.length) (h2:es.length≤6) (h:∀ e∈es,e.Wk):nM (av es)=true:=by
  unfold nM
  rw [fU (by omega) fun e he=>(h e he).sh,cu]
  simp only [Bool.and_eq_true,decide_eq_true_eq,List.all_eq_true]
  exact ⟨⟨⟨trivial,h1⟩,h2⟩,fun e he=>CY (h e he)⟩
theorem qc {d:PyData} (h:nM d=true):av (bN d)=d∧1≤(bN d).length∧(bN d).length≤6∧∀ e∈bN d,e.Wk:=by
  unfold nM at h
  simp only [Bool.and_eq_true,decide_eq_true_eq,List.all_eq_true] at h
  obtain ⟨⟨⟨a,b⟩,c⟩,f⟩:=h
  obtain ⟨e1,_,hs⟩:=kh a
  exact ⟨e1,b,c,fun e he=>DX (f e he) (hs e he)⟩
noncomputable def okW (d r:PyData) (n:Int):Bool:=nM d && cE (bN d).length r && decide (0≤n) && decide (n < (bN d).length)
theorem kX {es:List Er} {rs:List Int} {n:Int} (h1:1≤es.length) (h2:es.length≤6) (h:∀ e∈es,e.Wk) (hr:bx es.length rs) (n0:0≤n) (n1:n < es.length):okW (av es) (ao rs) n=true:=by
  unfold okW
  rw [k9 h1 h2 h,cu,cP hr]
  simp only [Bool.and_eq_true,decide_eq_true_eq]
  exact ⟨⟨⟨trivial,trivial⟩,n0⟩,n1⟩
theorem fA {d r:PyData} {n:Int} (h:okW d r n=true):∃ es rs,d=av es∧r=ao rs∧bN d=es∧bQ r=rs∧1≤es.length∧es.length≤6∧(∀ e∈es,e.Wk)∧bx es.length rs∧0≤n∧n < es.length:=by
  unfold okW at h
  simp only [Bool.and_eq_true,decide_eq_true_eq] at h
  obtain ⟨⟨⟨c1,c2⟩,n0⟩,n1⟩:=h
  obtain ⟨e1,l1,l6,hok⟩:=qc c1
  obtain ⟨e2,hr⟩:=en c2
  exact ⟨bN d,bQ r,e1.symm,e2.symm,rfl,rfl,l1,l6,hok,hr,n0,n1⟩
end RS
set_option maxRecDepth 100000
set_option maxHeartbeats 1000000
namespace RS
open PySem L2
noncomputable def hdD (C:Addr) (m k t l:Int):PyData:=zK C [("number",.int m),("part",.int k),("tool",.int t),("times",.int l)]
noncomputable def jH (C:Addr) (es:List Er) (rs:List Int) (pl m k:Int) (p:Int × Option Int):List PyData:=match p.2 with
  | some t=>(match bc es rs t with
    | some h=>if h≤pl then [hdD C m k t (p.1 - 1)] else []
    | none=>[])
  | none=>[]
noncomputable def hdM (C:Addr) (es:List Er) (rs:List Int) (pl m:Int):Nat→List (Int × Option Int)→List PyData
  | _,[]=>[]
  | k,p::r=>jH C es rs pl m k p++hdM C es rs pl m (k + 1) r
noncomputable def iw (C:Addr) (es:List Er) (rs:List Int) (pl:Int):List Int→List PyData
  | []=>[]
  | m::r=>hdM C es rs pl m 0 (aK es m).parts++iw C es rs pl r
theorem rH (C:Addr) (es:List Er) (rs:List Int) (pl m k:Int) (p:Int × Option Int):(jH C es rs pl m k p).length≤1:=by
  unfold jH
  split
  · split
    · split <;> simp
    · simp
  · simp
theorem sR (C:Addr) (es:List Er) (rs:List Int) (pl m:Int):∀ (ps:List (Int × Option Int)) (k:Nat),(hdM C es rs pl m k ps).length≤ps.length
  | [],_=>by simp [hdM]
  | p::r,k=>by
    have h1:=rH C es rs pl m k p
    have h2:=sR C es rs pl m r (k + 1)
    unfold hdM
    rw [List.length_append,List.length_cons]; omega
noncomputable abbrev Am (cs:Cs):Ds→Sr:=nK [5] 5 (ay (u7 cs.Holding ["number", "part", "tool", "times"]) (af (ah 6) (af (ah 7) (af (g2 dIx (ah 8) (gC (.int 1))) (af (g2 g5 (g2 dIx (ah 8) (gC (.int 0))) (gC (.int 1))) ar)))))
noncomputable abbrev mO (cs:Cs):Ds→Sr:=sIf (uc (gT (g1 fv (g2 dIx (ah 8) (gC (.int 1))))) (gT (g2 dLe (g2 dIx (ah 4) (g2 dIx (ah 8) (gC (.int 1)))) (ah 3)))) (Am cs) b3
theorem Bp (cs:Cs) (es:List Er) (rs:List Int) (E R n:PyData) (pl:Nat) (m:Int) (HL:List PyData) (hHL:∀ t:Int,0≤t→t≤3→atI HL t=some (bO (bc es rs t))) (p:Int × Option Int) (k:Nat) (acc:List PyData) (hl:acc.length < 1000000) (h:∀ t,p.2=some t→0≤t∧t≤3∧∃ h,bc es rs t=some h) :
    mO cs [some E,some R,some n,some (.int pl),some (.list HL),some (.list acc),some (.int m),some (.int k),some (aT p)]
     =.nx [some E,some R,some n,some (.int pl),some (.list HL),some (.list (acc++jH cs.Holding es rs pl m k p)),some (.int m),some (.int k),some (aT p)]:=by
  obtain ⟨l,o⟩:=p
  cases o with
  | none=>simp [mO,A6,bO,jH]
  | some t =>
    obtain ⟨h0,h3,hh,ht⟩:=h t rfl
    have ha:=hHL t h0 h3
    rw [ht] at ha
    have e1:dIx (aT (l,some t)) (.int 1)=some (.int t):=rfl
    have e0:dIx (aT (l,some t)) (.int 0)=some (.int l):=rfl
    have hix:dIx (.list HL) (.int t)=some (.int hh):=ha
    have add:Am cs [some E,some R,some n,some (.int pl),some (.list HL),some (.list acc),some (.int m),some (.int k),some (aT (l,some t))]=.nx [some E,some R,some n,some (.int pl),some (.list HL),some (.list (acc++[hdD cs.Holding m k t (l - 1)])),some (.int m),some (.int k),some (aT (l,some t))]:=by
      unfold Am nK
      simp only [List.getElem?_cons_succ,List.getElem?_cons_zero]
      simp only [bu,aO,aX,cF,aJ (show 6 ∉ [5] by decide),aJ (show 7 ∉ [5] by decide),aJ (show 8 ∉ [5] by decide),az,aA,dB,Rs.aj,e1,e0,oE,Rs.aq]
      have hm:u7 cs.Holding ["number", "part", "tool", "times"] [.int m,.int (k:Int),.int t,.int (l - 1)]=.ok (hdD cs.Holding m k t (l - 1)):=rfl
      rw [hm,aE,if_pos hl]
      rfl
    have hst:jH cs.Holding es rs pl m k (l,some t)=if hh≤(pl:Int) then [hdD cs.Holding m k t (l - 1)] else []:=by
      unfold jH; simp only [ht]
    rw [hst]
    by_cases hle:hh≤(pl:Int)
    · rw [if_pos hle,← add]
      simp [mO,e1,hix,hle]
    · rw [if_neg hle,List.append_nil]
      simp [mO,e1,hix,hle]
theorem uB (cs:Cs) (es:List Er) (rs:List Int) (E R n:PyData) (pl:Nat) (m:Int) (HL:List PyData) (hHL:∀ t:Int,0≤t→t≤3→atI HL t=some (bO (bc es rs t))):∀ (ps:List (Int × Option Int)) (k:Nat) (acc:List PyData) (x7 x8:Option PyData),acc.length + ps.length < 1000000→(∀ p∈ps,∀ t,p.2=some t→0≤t∧t≤3∧∃ h,bc es rs t=some h) →
    ∃ y7 y8,forL (dG [7,8]) (mO cs) ((ps.map aT).mapIdx fun i d=>.tuple [.int ((k + i:Nat):Int),d])
      [some E,some R,some n,some (.int pl),some (.list HL),some (.list acc),some (.int m),x7,x8]
     =.nx [some E,some R,some n,some (.int pl),some (.list HL),some (.list (acc++hdM cs.Holding es rs pl m k ps)),some (.int m),y7,y8]
  | [],k,acc,x7,x8,_,_=>⟨x7,x8,by simp [forL,hdM]⟩
  | p::r,k,acc,x7,x8,hz,h=>by
    have hz':acc.length + (r.length + 1) < 1000000:=hz
    have hl1:=rH cs.Holding es rs pl m k p
    obtain ⟨y7,y8,e⟩:=uB cs es rs E R n pl m HL hHL r (k + 1) (acc++jH cs.Holding es rs pl m k p) (some (.int (k:Int))) (some (aT p)) (by rw [List.length_append]; omega) (fun q hq=>h q (List.mem_cons_of_mem _ hq))
    refine ⟨y7,y8,?_⟩
    rw [List.map_cons,List.mapIdx_cons]
    unfold forL
    have e1:dG [7,8] (PyData.tuple [.int ((k + 0:Nat):Int),aT p]) [some E,some R,some n,some (.int pl),some (.list HL),some (.list acc),some (.int m),x7,x8]=some [some E,some R,some n,some (.int pl),some (.list HL),some (.list acc),some (.int m),some (.int (k:Int)),some (aT p)]:=rfl
    rw [e1]
    simp only [Bp cs es rs E R n pl m HL hHL p k acc (by omega) (h p List.mem_cons_self)]
    have ef:(fun (i:Nat) (d:PyData)=>PyData.tuple [.int ((k + (i + 1):Nat):Int),d])=fun i d=>.tuple [.int ((k + 1 + i:Nat):Int),d]:=by
      funext i d; rw [show k + (i + 1)=k + 1 + i by omega]
    rw [ef,e]
    rw [show hdM cs.Holding es rs pl m k (p::r)=jH cs.Holding es rs pl m k p++hdM cs.Holding es rs pl m (k + 1) r from rfl,List.append_assoc]
theorem uO {es:List Er} {rs:List Int} (cs:Cs) (hsh:∀ e∈es,e.Sh) (hr:bx es.length rs) (n:PyData) (pl:Nat):∀ (ms:List Int) (acc:List PyData) (x6 x7 x8:Option PyData),acc.length + 1000 * ms.length < 1000000→(∀ m∈ms,m∈rs) →
    ∃ y6 y7 y8,forL (cn 6) (jC [5] (pO (af (g2 dIx (g2 dIx (ah 0) (ah 6)) (gC (.int 3))) ar)) (dG [7,8]) (mO cs)) (ms.map PyData.int)
      [some (av es),some (ao rs),some n,some (.int pl),some (cZ es rs),some (.list acc),x6,x7,x8]
     =.nx [some (av es),some (ao rs),some n,some (.int pl),some (cZ es rs),some (.list (acc++iw cs.Holding es rs pl ms)),y6,y7,y8]
  | [],acc,x6,x7,x8,_,_=>⟨x6,x7,x8,by simp [forL,iw]⟩
  | m::r,acc,x6,x7,x8,hz,h=>by
    have hz':acc.length + 1000 * (r.length + 1) < 1000000:=hz
    have hm:=h m List.mem_cons_self
    have hrg:=hr.rng m hm
    have hsm:=hsh _ (b4 hrg.1 (by omega))
    have hpn:=hsm.pn
    have hml:=sR cs.Holding es rs pl m (aK es m).parts 0
    obtain ⟨z7,z8,e1⟩:=uB cs es rs (av es) (ao rs) n pl m ((List.range 4).map fun (t:Nat)=>bO (bc es rs t)) (fun t a b=>qj a b) (aK es m).parts 0 acc x7 x8 (by omega) fun p hp t ht=>by
      obtain ⟨_,_,c⟩:=hsm.pl p hp
      have:=c t ht
      exact ⟨this.1,this.2,p0 es t rs 0 m hm (Aw hp ht)⟩
    obtain ⟨y6,y7,y8,e2⟩:=uO cs hsh hr n pl r (acc++hdM cs.Holding es rs pl m 0 (aK es m).parts) (some (.int m)) z7 z8 (by rw [List.length_append]; omega) fun x hx=>h x (List.mem_cons_of_mem _ hx)
    refine ⟨y6,y7,y8,?_⟩
    rw [List.map_cons]
    unfold forL
    have a2:atI (es.map Er.d) m=some (aK es m).d:=ee hrg.1 (by omega)
    have src:pO (af (g2 dIx (g2 dIx (ah 0) (ah 6)) (gC (.int 3))) ar) (mask [5] [some (av es),some (ao rs),some n,some (.int pl),some (cZ es rs),some (.list acc),some (.int m),x7,x8])=.ok (((aK es m).parts.map aT).mapIdx fun i d=>.tuple [.int ((0 + i:Nat):Int),d]):=by
      simp only [yu,aO,aX,cF,aJ (show 0 ∉ [5] by decide),aJ (show 6 ∉ [5] by decide),az,aA,dB,Rs.aj,av,lV,a2,Rs.aq,zO,xB,lS,Nat.zero_add]
    have ht:cn 6 (.int m) [some (av es),some (ao rs),some n,some (.int pl),some (cZ es rs),some (.list acc),x6,x7,x8]=some [some (av es),some (ao rs),some n,some (.int pl),some (cZ es rs),some (.list acc),some (.int m),x7,x8]:=rfl
    have e1':forL (dG [7,8]) (mO cs) (((aK es m).parts.map aT).mapIdx fun i d=>.tuple [.int ((0 + i:Nat):Int),d]) [some (av es),some (ao rs),some n,some (.int pl),some (cZ es rs),some (.list acc),some (.int m),x7,x8]=.nx [some (av es),some (ao rs),some n,some (.int pl),some (cZ es rs),some (.list (acc++hdM cs.Holding es rs pl m 0 (aK es m).parts)),some (.int m),z7,z8]:=e1
    rw [ht]
    simp only [fS,src,aE,e1',e2]
    rw [show iw cs.Holding es rs pl (m::r)=hdM cs.Holding es rs pl m 0 (aK es m).parts++iw cs.Holding es rs pl r from rfl,List.append_assoc]
noncomputable def ck (cs:Cs):Gf
  | [d,r,.int n]=>if okW d r n then .ok (.list (iw cs.Holding (bN d) (bQ r) (placeOf (bQ r) n) ((bQ r).drop (placeOf (bQ r) n + 1)))) else .no
  | _=>.no
theorem kJ {es:List Er} {rs:List Int} {n:Int} (cs:Cs) (h1:1≤es.length) (h2:es.length≤6) (h:∀ e∈es,e.Wk) (hr:bx es.length rs) (n0:0≤n) (n1:n < es.length):ck cs [av es,ao rs,.int n]=.ok (.list (iw cs.Holding es rs (placeOf rs n) (rs.drop (placeOf rs n + 1)))):=by
  unfold ck; simp only [kX h1 h2 h hr n0 n1,if_true,cu,cw]
theorem v5 (cs:Cs):∀ ds,ds.length=3→ck cs ds≠.no→aV (iP cs bX (ds.map some++List.replicate 6 none))=ck cs ds:=by
  intro ds hl hne
  obtain ⟨d,r,n,ez,hz⟩:=g8 hne
  clear hne; subst ez; have hne:=hz; clear hz
  · skip
    split at hne
    · rename_i hc
      obtain ⟨es,rs,rfl,rfl,_,_,l1,l6,hok,hr,n0,n1⟩:=fA hc
      rw [kJ cs l1 l6 hok hr n0 n1]
      have hsh:∀ e∈es,e.Sh:=fun e he=>(hok e he).sh
      have hmem:=hr.mem n0 (by omega)
      have hix:=iT hmem
      have hh:=jr (by omega) hsh hr
      have hrl:=hr.len
      obtain ⟨y6,y7,y8,e⟩:=uO cs hsh hr (.int n) (placeOf rs n) (rs.drop (placeOf rs n + 1)) [] none none none (by rw [List.length_drop]; simp; omega) (fun m hm=>List.mem_of_mem_drop hm)
      have src:dR (c8 (ah 1) (eX (g2 bb (ah 3) (gC (.int 1)))) cB) (mask [5] [some (av es),some (ao rs),some (.int n),some (.int (placeOf rs n)),some (cZ es rs),some (.list []),none,none,none])=.ok ((rs.drop (placeOf rs n + 1)).map PyData.int):=by
        simp only [mn,fT,h9,eU,cF,aJ (show 1 ∉ [5] by decide),aJ (show 3 ∉ [5] by decide),az,aA,dB,Rs.aj,dD,Rs.aq,hW,ao,jW,oC]
        rw [show (placeOf rs n:Int) + 1=((placeOf rs n + 1:Nat):Int) by omega,ng,List.map_drop]
      have s1:bp [5] 3 (rg (ah 1) (ah 2)) [some (av es),some (ao rs),some (.int n),none,none,none,none,none,none]=.nx [some (av es),some (ao rs),some (.int n),some (.int (placeOf rs n)),none,none,none,none,none]:=by
        rw [g0,if_pos (by simp)]
        simp only [ur,aJ (show 1 ∉ [5] by decide),aJ (show 2 ∉ [5] by decide),az,aA,Rs.aj,ao,hix,Rs.aq,aE]
        rfl
      have s2:bp [5] 4 (ay bX (af (ah 0) (af (ah 1) ar))) [some (av es),some (ao rs),some (.int n),some (.int (placeOf rs n)),none,none,none,none,none]=.nx [some (av es),some (ao rs),some (.int n),some (.int (placeOf rs n)),some (cZ es rs),none,none,none,none]:=by
        rw [g0,if_pos (by simp)]
        simp only [bu,aO,aX,aJ (show 0 ∉ [5] by decide),aJ (show 1 ∉ [5] by decide),az,aA,Rs.aj,hh,aE]
        rfl
      have s3:lR [5] 5 ar [some (av es),some (ao rs),some (.int n),some (.int (placeOf rs n)),some (cZ es rs),none,none,none,none]=.nx [some (av es),some (ao rs),some (.int n),some (.int (placeOf rs n)),some (cZ es rs),some (.list []),none,none,none]:=rfl
      show aV (iP cs bX [some (av es),some (ao rs),some (.int n),none,none,none,none,none,none])=_
      simp only [iP]
      rw [aZ,s1]; simp only
      rw [aZ,s2]; simp only
      rw [aZ,s3]; simp only
      rw [aZ,fS,src,aE,e]
      rfl
    · exact absurd rfl hne
end RS
set_option maxRecDepth 100000
set_option maxHeartbeats 1000000
namespace RS
open PySem L2
noncomputable def lW (es:List Er) (rs:List Int) (pl:Int) (p:Int × Option Int):List Int:=match p.2 with
  | some t=>(match bc es rs t with
    | some h=>if h≤pl then [p.1 - 1] else []
    | none=>[])
  | none=>[]
noncomputable def tms (es:List Er) (rs:List Int) (pl:Int):List (Int × Option Int)→List Int
  | []=>[]
  | p::r=>lW es rs pl p++tms es rs pl r
theorem yp (es:List Er) (rs:List Int) (pl:Int) (b:List (Int × Option Int)):∀ a,tms es rs pl (a++b)=tms es rs pl a++tms es rs pl b
  | []=>rfl
  | p::r=>by
    show lW es rs pl p++tms es rs pl (r++b)=(lW es rs pl p++tms es rs pl r)++_
    rw [yp es rs pl b r,List.append_assoc]
theorem vK (es:List Er) (rs:List Int) (pl:Int):∀ (ps:List (Int × Option Int)) (acc:Int),ps.foldl (c5 es rs pl) acc=(tms es rs pl ps).foldl max acc
  | [],_=>rfl
  | p::r,acc=>by
    rw [List.foldl_cons,vK es rs pl r]
    show _=(lW es rs pl p++tms es rs pl r).foldl max acc
    rw [List.foldl_append]
    have e:c5 es rs pl acc p=(lW es rs pl p).foldl max acc:=by
      unfold c5 lW
      cases p.2 with
      | none=>rfl
      | some t =>
        simp only
        cases bc es rs t with
        | none=>rfl
        | some h=>simp only; split <;> rfl
    rw [e]
theorem qa (es:List Er) (rs:List Int) (pl:Int):∀ (ps:List (Int × Option Int)),(∀ p∈ps,1≤p.1)→∀ a∈tms es rs pl ps,0≤a
  | [],_,a,h=>by cases h
  | p::r,hp,a,h=>by
    have h1:=hp p List.mem_cons_self
    unfold tms at h
    rcases List.mem_append.mp h with h | h
    · unfold lW at h
      split at h
      · split at h
        · split at h
          · cases List.mem_singleton.mp h; omega
          · cases h
        · cases h
      · cases h
    · exact qa es rs pl r (fun q hq=>hp q (List.mem_cons_of_mem _ hq)) a h
theorem yF {ns:List Int} (h:∀ a∈ns,0≤a):(uF ns).getD 0=ns.foldl max 0:=by
  have hf:(fun a b:Int=>if b > a then b else a)=max:=by funext a b; split <;> omega
  cases ns with
  | nil=>rfl
  | cons x r =>
    have hx:=h x List.mem_cons_self
    show r.foldl (fun a b:Int=>if b > a then b else a) x=r.foldl max (max 0 x)
    rw [hf,show max 0 x=x by omega]
noncomputable def tmD (C:Addr) (d:PyData):PyData:=(pI C "times" d).getD .none
theorem uZ (C:Addr) (m k t l:Int):pI C "times" (hdD C m k t l)=some (.int l):=by
  have n1:¬ (("number":Str)="times"):=by decide +kernel
  have n2:¬ (("part":Str)="times"):=by decide +kernel
  have n3:¬ (("tool":Str)="times"):=by decide +kernel
  simp only [hdD,zK,List.map_cons,List.map_nil,pI,and_self,if_true,lU,n1,n2,n3,if_false]
theorem yQ (C:Addr) (es:List Er) (rs:List Int) (pl m k:Int) (p:Int × Option Int):(jH C es rs pl m k p).map (tmD C)=(lW es rs pl p).map PyData.int∧∀ d∈jH C es rs pl m k p,pI C "times" d=some (tmD C d):=by
  unfold jH lW
  cases p.2 with
  | none=>exact ⟨rfl,fun d hd=>by cases hd⟩
  | some t =>
    simp only
    cases bc es rs t with
    | none=>exact ⟨rfl,fun d hd=>by cases hd⟩
    | some h =>
      simp only
      split
      · rw [List.map_cons,List.map_nil]
        refine ⟨by unfold tmD; rw [uZ]; rfl,fun d hd=>?_⟩
        cases List.mem_singleton.mp hd
        unfold tmD; rw [uZ]; rfl
      · exact ⟨rfl,fun d hd=>by cases hd⟩
theorem yv (C:Addr) (es:List Er) (rs:List Int) (pl m:Int):∀ (ps:List (Int × Option Int)) (k:Nat),(hdM C es rs pl m k ps).map (tmD C)=(tms es rs pl ps).map PyData.int∧∀ d∈hdM C es rs pl m k ps,pI C "times" d=some (tmD C d)
  | [],_=>⟨rfl,fun d hd=>by cases hd⟩
  | p::r,k=>by
    obtain ⟨a1,a2⟩:=yQ C es rs pl m k p
    obtain ⟨b1,b2⟩:=yv C es rs pl m r (k + 1)
    rw [show hdM C es rs pl m k (p::r)=jH C es rs pl m k p++hdM C es rs pl m (k + 1) r from rfl,show tms es rs pl (p::r)=lW es rs pl p++tms es rs pl r from rfl]
    refine ⟨by rw [List.map_append,List.map_append,a1,b1],fun d hd=>?_⟩
    rcases List.mem_append.mp hd with h | h
    · exact a2 d h
    · exact b2 d h
theorem rX (C:Addr) (es:List Er) (rs:List Int) (pl:Int):∀ (ms:List Int),(iw C es rs pl ms).map (tmD C)=(tms es rs pl ((ms.map fun m=>(aK es m).parts).flatten)).map PyData.int∧∀ d∈iw C es rs pl ms,pI C "times" d=some (tmD C d)
  | []=>⟨rfl,fun d hd=>by cases hd⟩
  | m::r=>by
    obtain ⟨a1,a2⟩:=yv C es rs pl m (aK es m).parts 0
    obtain ⟨b1,b2⟩:=rX C es rs pl r
    unfold iw
    refine ⟨by rw [List.map_append,List.map_cons,List.flatten_cons,yp,List.map_append,a1,b1],fun d hd=>?_⟩
    rcases List.mem_append.mp hd with h | h
    · exact a2 d h
    · exact b2 d h
theorem rW (C:Addr) (es:List Er) (rs:List Int) (pl:Int) (b:Nat):∀ (ms:List Int),(∀ m∈ms,(aK es m).parts.length≤b)→(iw C es rs pl ms).length≤b * ms.length
  | [],_=>by simp [iw]
  | m::r,h=>by
    have h1:=h m List.mem_cons_self
    have h2:=sR C es rs pl m (aK es m).parts 0
    have h3:=rW C es rs pl b r fun x hx=>h x (List.mem_cons_of_mem _ hx)
    unfold iw
    rw [List.length_append,List.length_cons,Nat.mul_succ]; omega
noncomputable def bK:Gf
  | [d,r,.int n]=>if okW d r n then .ok (.int (cM (bN d) (bQ r) n)) else .no
  | _=>.no
theorem iK {es:List Er} {rs:List Int} {n:Int} (h1:1≤es.length) (h2:es.length≤6) (h:∀ e∈es,e.Wk) (hr:bx es.length rs) (n0:0≤n) (n1:n < es.length):bK [av es,ao rs,.int n]=.ok (.int (cM es rs n)):=by
  unfold bK; simp only [kX h1 h2 h hr n0 n1,if_true,cu,cw]
theorem pM (cs:Cs):∀ ds,ds.length=3→bK ds≠.no→aV (eo cs (ck cs) (ds.map some++List.replicate 0 none))=bK ds:=by
  intro ds hl hne
  obtain ⟨d,r,n,ez,hz⟩:=g8 hne
  clear hne; subst ez; have hne:=hz; clear hz
  · skip
    split at hne
    · rename_i hc
      obtain ⟨es,rs,rfl,rfl,_,_,l1,l6,hok,hr,n0,n1⟩:=fA hc
      rw [iK l1 l6 hok hr n0 n1]
      have hg:=kJ cs l1 l6 hok hr n0 n1
      obtain ⟨m1,m2⟩:=rX cs.Holding es rs (placeOf rs n) (rs.drop (placeOf rs n + 1))
      have hrl:=hr.len
      have hol:∀ m∈rs.drop (placeOf rs n + 1),(aK es m).Wk:=fun m hm=>by
        have:=hr.rng m (List.mem_of_mem_drop hm)
        exact hok _ (b4 this.1 (by omega))
      have hln:=rW cs.Holding es rs (placeOf rs n) 4 (rs.drop (placeOf rs n + 1)) fun m hm=>(hol m hm).p2
      have hdl:(rs.drop (placeOf rs n + 1)).length≤6:=by rw [List.length_drop]; omega
      have hcm:cq 3 (dR (ay (ck cs) (af (ah 0) (af (ah 1) (af (ah 2) ar))))) cW (g1 (pI cs.Holding "times") (ah 3)) bU [some (av es),some (ao rs),some (.int n)]=.ok ((iw cs.Holding es rs (placeOf rs n) (rs.drop (placeOf rs n + 1))).map (tmD cs.Holding)) :=
        eK rfl (by simp only [mn,bu,aO,aX,az,aA,Rs.aj,hg]; rfl) (by omega) fun x hx=>by
          simp only [List.cons_append,List.nil_append,sM,az,aA,Rs.aj,m2 x hx,Rs.aq]
      have hmx:vN (.list ((iw cs.Holding es rs (placeOf rs n) (rs.drop (placeOf rs n + 1))).map (tmD cs.Holding))) (.int 0)=some (.int (cM es rs n)):=by
        unfold vN
        simp only
        rw [m1,d5,Option.map_some,yF (qa _ _ _ _ fun p hp=>?_),← vK]
        · rfl
        · obtain ⟨l,hl,hpl⟩:=List.mem_flatten.mp hp
          obtain ⟨m,hm,rfl⟩:=List.mem_map.mp hl
          exact ((hol m hm).pl p hpl).1
      show aV (eo cs (ck cs) [some (av es),some (ao rs),some (.int n)])=_
      simp only [eo,cN,cF,tG,hcm,Rs.aj,dB,hmx,Rs.aq,aE,bV]
    · exact absurd rfl hne
end RS
set_option maxRecDepth 100000
set_option maxHeartbeats 1000000
namespace RS
open PySem L2
noncomputable def oF (f:Int→Int) (T:Int):Nat→Int→List Int
  | 0,l=>[l]
  | m + 1,l=>if l=T then [l] else l::oF f T m (f l)
noncomputable def yE:Option (List Int)→PyData
  | some l=>.list (l.map .int)
  | none=>.none
structure Top (f:Int→Int) (T:Int):Prop where
  fix:f T=T
  one:1≤T
  low:∀ s,1≤s→s < T→¬ f s≤s
theorem qw {f:Int→Int} {T:Int} (R:nO f) (P:Top f T):∀ (m:Nat) (l:Int),1≤l→l≤T→T - l≤m→(oF f T m l).getLast?=some T
  | 0,l,h1,h2,h3=>by
    have:l=T:=by omega
    rw [this]; rfl
  | m + 1,l,h1,h2,h3=>by
    unfold oF
    by_cases z:l=T
    · rw [if_pos z,z]; rfl
    · rw [if_neg z,List.getLast?_cons]
      have hf:=P.low l h1 (by omega)
      have hT:=R.mono l T h1 h2
      rw [P.fix] at hT
      rw [qw R P m (f l) (by omega) hT (by omega)]; rfl
end RS
set_option maxRecDepth 100000
set_option maxHeartbeats 1000000
namespace RS
open PySem L2
noncomputable def bG:Gf
  | [.int t,.int e]=>if 0 < e∧e < 1073741824 then .ok (.int ((t + e - 1) / e)) else .no
  | _=>.no
theorem DF {f:Int→Int→Rs PyData} {ds:List PyData} (h:(match ds with | [.int x0,.int x1]=>f x0 x1 | _=>.no)≠.no):∃ x0 x1,ds=[.int x0,.int x1]∧f x0 x1≠.no:=by
  rcases ds with _ | ⟨x0,_ | ⟨x1,_ | ⟨y,ys⟩⟩⟩
  · exact absurd rfl h
  · first | exact absurd rfl h | (cases x0 <;> exact absurd rfl h)
  · skip
    cases x0 with
    | int x0 =>
      cases x1 with
      | int x1 =>
        exact ⟨_,_,rfl,h⟩
      | _=>exact absurd rfl h
    | _=>first | exact absurd rfl h | (cases x1 <;> exact absurd rfl h)
  · first | exact absurd rfl h | (cases x0 <;> first | exact absurd rfl h | (cases x1 <;> exact absurd rfl h))
theorem t8 (cs:Cs):∀ ds,ds.length=2→bG ds≠.no→aV (fW cs (ds.map some++List.replicate 0 none))=bG ds:=by
  intro ds hl hne
  obtain ⟨t,e,ez,hz⟩:=DF hne
  clear hne; subst ez; have hne:=hz; clear hz
  unfold bG
  · skip
    split at hne
    · rename_i hc
      simp only [if_pos hc]
      show aV (fW cs [some (.int t),some (.int e)])=_
      simp only [fW,cN,cF,az,aA,dB,Rs.aj,dD,oE,Rs.aq,zI,if_pos hc,aE,bV]
    · exact absurd rfl hne
theorem Cr {x e:Int} (h:0 < e):(x + e - 1) / e=x / e + (if x % e > 0 then 1 else 0):=by
  have h1:=Int.mul_ediv_add_emod x e
  have h2:=Int.emod_nonneg x (show e≠0 by omega)
  have h3:=Int.emod_lt_of_pos x h
  generalize x / e=q at *
  generalize x % e=r at *
  have ex:x + e - 1=r + e - 1 + e * q:=by omega
  rw [ex,Int.add_mul_ediv_left _ _ (by omega)]
  by_cases z:r > 0
  · rw [if_pos z,show r + e - 1=(r - 1) + e * 1 by omega,Int.add_mul_ediv_left _ _ (by omega),Int.ediv_eq_zero_of_lt (by omega) (by omega)]; omega
  · rw [if_neg z,Int.ediv_eq_zero_of_lt (by omega) (by omega)]; omega
theorem rp {e:Er} {t:Int} (h:e.Sh):bG [.int (t + e.late),.int e.every]=.ok (.int (e.times t)):=by
  have h1:=h.e1; have h2:=h.e2
  unfold bG
  simp only [if_pos (show 0 < e.every∧e.every < 1073741824 from ⟨by omega,h2⟩)]
  rw [Cr (by omega)]
  rfl
noncomputable def eC (es:List Er) (rs:List Int) (n h t:Int):Int:=h + (aK es n).work + ((rs.take (placeOf rs n)).map fun m=>(aK es m).times t * (aK es m).work).sum
theorem mU {es:List Er} {rs:List Int} {n h:Int} (hok:∀ e∈es,e.Wk) (hr:bx es.length rs) (n0:0≤n) (n1:n < es.length) (h0:0≤h):nO (eC es rs n h) where
  mono:=fun t u _ ht=>by
    have:=vI (n:=n) (fun e he=>(hok e he).sh) hr ht
    unfold dz at this
    unfold eC
    omega
  one:=fun t ht=>by
    unfold eC
    have h2:=(hok _ (b4 n0 n1)).work1
    have h3:=gy (fun m=>(aK es m).times t * (aK es m).work) (rs.take (placeOf rs n)) fun m hm=>by
      have hm':=hr.rng m (List.mem_of_mem_take hm)
      have ho:=hok _ (b4 hm'.1 hm'.2)
      have l0:=ho.l1
      exact Int.mul_nonneg (Er.times_pos ho.sh.e1 (by omega)) ho.sh.work_b.1
    omega
noncomputable def cK:Gf
  | [d,r,.int n,.int h,.int t]=>if okW d r n then .ok (.int (eC (bN d) (bQ r) n h t)) else .no
  | _=>.no
theorem qp {es:List Er} {rs:List Int} {n h t:Int} (h1:1≤es.length) (h2:es.length≤6) (hk:∀ e∈es,e.Wk) (hr:bx es.length rs) (n0:0≤n) (n1:n < es.length):cK [av es,ao rs,.int n,.int h,.int t]=.ok (.int (eC es rs n h t)):=by
  unfold cK; simp only [kX h1 h2 hk hr n0 n1,if_true,cu,cw]
theorem yi {i:Nat} {g:Ds→Rs PyData} {δ:Ds} {a b:Int} (h:δ[i]?=some (some (.int a))) (hg:g δ=.ok (.int b)):tT [] i g δ=.nx (δ.set i (some (.int (a + b)))):=by
  unfold tT; rw [dZ,h]; simp only [hg,aE]
noncomputable abbrev zL:Ds→Sr:=bj (bp [] 7 (g2 dIx (ah 0) (ah 6)))
    (tT [] 5 (g2 mY (ay bh (af (ah 7) ar)) (ay bG (af (g2 bb (ah 4) (g2 dIx (ah 7) (gC (.int 2)))) (af (g2 dIx (ah 7) (gC (.int 0))) ar)))))
theorem xH {es:List Er} {rs:List Int} (hsh:∀ e∈es,e.Sh) (hr:bx es.length rs) (n h:PyData) (t:Int):∀ (ms:List Int) (acc:Int) (x6 x7:Option PyData),(∀ m∈ms,m∈rs) →
    ∃ y6 y7,forL (cn 6) zL (ms.map PyData.int) [some (av es),some (ao rs),some n,some h,some (.int t),some (.int acc),x6,x7]
     =.nx [some (av es),some (ao rs),some n,some h,some (.int t),some (.int (acc + (ms.map fun m=>(aK es m).times t * (aK es m).work).sum)),y6,y7]
  | [],acc,x6,x7,_=>⟨x6,x7,by simp [forL]⟩
  | m::r,acc,x6,x7,hm'=>by
    have hm:=hm' m List.mem_cons_self
    have hrg:=hr.rng m hm
    have hsm:=hsh _ (b4 hrg.1 (by omega))
    have a2:atI (es.map Er.d) m=some (aK es m).d:=ee hrg.1 (by omega)
    obtain ⟨y6,y7,e2⟩:=xH hsh hr n h t r (acc + (aK es m).times t * (aK es m).work) (some (.int m)) (some (aK es m).d) fun x hx=>hm' x (List.mem_cons_of_mem _ hx)
    refine ⟨y6,y7,?_⟩
    have hw:=hsm.work_b
    have hgw:=eF hsm
    have hgr:=rp (t:=t) hsm
    rw [List.map_cons,List.map_cons,List.sum_cons,← Int.add_assoc]
    unfold forL
    generalize hE:aK es m=e at *
    have i2:dIx e.d (.int 2)=some (.int e.late):=rfl
    have i0:dIx e.d (.int 0)=some (.int e.every):=rfl
    have st1:bp [] 7 (g2 dIx (ah 0) (ah 6)) [some (av es),some (ao rs),some n,some h,some (.int t),some (.int acc),some (.int m),x7]=.nx [some (av es),some (ao rs),some n,some h,some (.int t),some (.int acc),some (.int m),some e.d]:=by
      rw [dk,if_pos (by simp)]
      simp only [cF,az,aA,Rs.aj,av,lV,a2,Rs.aq,aE]
      rfl
    have st2:tT [] 5 (g2 mY (ay bh (af (ah 7) ar)) (ay bG (af (g2 bb (ah 4) (g2 dIx (ah 7) (gC (.int 2)))) (af (g2 dIx (ah 7) (gC (.int 0))) ar)))) [some (av es),some (ao rs),some n,some h,some (.int t),some (.int acc),some (.int m),some e.d]=.nx [some (av es),some (ao rs),some n,some h,some (.int t),some (.int (acc + e.times t * e.work)),some (.int m),some e.d]:=by
      rw [yi (a:=acc) (b:=e.times t * e.work) rfl]
      · rfl
      · simp only [cF,bu,aO,aX,az,aA,dB,Rs.aj,i2,i0,Rs.aq,dD,hgw,hgr,w6 (b:=e.times t) (show -(2 ^ 64) < e.work by omega) (show e.work < 2 ^ 64 by omega)]
        rw [Int.mul_comm e.work]
    have ht:cn 6 (.int m) [some (av es),some (ao rs),some n,some h,some (.int t),some (.int acc),x6,x7]=some [some (av es),some (ao rs),some n,some h,some (.int t),some (.int acc),some (.int m),x7]:=rfl
    rw [ht]
    simp only [zL,aZ,st1,st2]
    exact e2
theorem zt {f:PyData→PyData→Int→Int→Int→Rs PyData} {ds:List PyData} (h:(match ds with | [x0,x1,.int x2,.int x3,.int x4]=>f x0 x1 x2 x3 x4 | _=>.no)≠.no):∃ x0 x1 x2 x3 x4,ds=[x0,x1,.int x2,.int x3,.int x4]∧f x0 x1 x2 x3 x4≠.no:=by
  rcases ds with _ | ⟨x0,_ | ⟨x1,_ | ⟨x2,_ | ⟨x3,_ | ⟨x4,_ | ⟨y,ys⟩⟩⟩⟩⟩⟩
  · exact absurd rfl h
  · exact absurd rfl h
  · exact absurd rfl h
  · first | exact absurd rfl h | (cases x2 <;> exact absurd rfl h)
  · first | exact absurd rfl h | (cases x2 <;> first | exact absurd rfl h | (cases x3 <;> exact absurd rfl h))
  · skip
    cases x2 with
    | int x2 =>
      cases x3 with
      | int x3 =>
        cases x4 with
        | int x4 =>
          exact ⟨_,_,_,_,_,rfl,h⟩
        | _=>exact absurd rfl h
      | _=>first | exact absurd rfl h | (cases x4 <;> exact absurd rfl h)
    | _=>first | exact absurd rfl h | (cases x3 <;> first | exact absurd rfl h | (cases x4 <;> exact absurd rfl h))
  · first | exact absurd rfl h | (cases x2 <;> first | exact absurd rfl h | (cases x3 <;> first | exact absurd rfl h | (cases x4 <;> exact absurd rfl h)))
theorem DW (cs:Cs):∀ ds,ds.length=5→cK ds≠.no→aV (pY cs bh bG (ds.map some++List.replicate 3 none))=cK ds:=by
  intro ds hl hne
  obtain ⟨d,r,n,h,t,ez,hz⟩:=zt hne
  clear hne; subst ez; have hne:=hz; clear hz
  · skip
    split at hne
    · rename_i hc
      obtain ⟨es,rs,rfl,rfl,_,_,l1,l6,hok,hr,n0,n1⟩:=fA hc
      rw [qp l1 l6 hok hr n0 n1]
      have hsh:∀ e∈es,e.Sh:=fun e he=>(hok e he).sh
      have hmem:=hr.mem n0 (by omega)
      have hix:=iT hmem
      have hsn:=hsh _ (b4 n0 n1)
      have a2:atI (es.map Er.d) n=some (aK es n).d:=ee n0 n1
      have hgw:=eF hsn
      obtain ⟨y6,y7,e⟩:=xH hsh hr (.int n) (.int h) t (rs.take (placeOf rs n)) (h + (aK es n).work) none none (fun m hm=>List.mem_of_mem_take hm)
      have src:dR (c8 (ah 1) cB (eX (rg (ah 1) (ah 2)))) [some (av es),some (ao rs),some (.int n),some (.int h),some (.int t),some (.int (h + (aK es n).work)),none,none]=.ok ((rs.take (placeOf rs n)).map PyData.int):=by
        simp only [mn,fT,h9,eU,ur,az,aA,Rs.aj,ao,hix,Rs.aq,hW,jW,oC]
        rw [p8,List.map_take]
      have st0:bp [] 5 (g2 bb (ah 3) (ay bh (af (g2 dIx (ah 0) (ah 2)) ar))) [some (av es),some (ao rs),some (.int n),some (.int h),some (.int t),none,none,none]=.nx [some (av es),some (ao rs),some (.int n),some (.int h),some (.int t),some (.int (h + (aK es n).work)),none,none]:=by
        rw [dk,if_pos (by simp)]
        simp only [cF,bu,aO,aX,az,aA,Rs.aj,av,lV,a2,Rs.aq,hgw,dD,aE]
        rfl
      show aV (pY cs bh bG [some (av es),some (ao rs),some (.int n),some (.int h),some (.int t),none,none,none])=_
      simp only [pY]
      rw [aZ,st0]
      simp only
      rw [aZ,fS,dZ,src,aE,e]
      rfl
    · exact absurd rfl hne
end RS
set_option maxRecDepth 100000
set_option maxHeartbeats 1000000
namespace RS
open PySem L2
noncomputable def ql (es:List Er) (rs:List Int) (n h:Int):Option Int:=eS ((aK es n).every - (aK es n).late).toNat fun t=>decide (eC es rs n h t≤t)
theorem wd (es:List Er) (rs:List Int) (n:Int):ql es rs n (cM es rs n)=bL es rs n:=rfl
noncomputable def iY (es:List Er) (rs:List Int) (n h:Int):Option (List Int):=(ql es rs n h).map fun T=>oF (eC es rs n h) T T.toNat (eC es rs n h 1)
noncomputable abbrev ua:Ds→Rs Bool:=gT (g2 dLe (ah 6) (ah 4))
noncomputable abbrev sU:Ds→Sr:=bj (nK [5] 5 (ah 6))
    (bj (bp [5] 7 (ay cK (af (ah 0) (af (ah 1) (af (ah 2) (af (ah 3) (af (ah 6) ar)))))))
    (bj (sIf (gT (g2 dEq (ah 7) (ah 6))) (b0 (ah 5)) b3)
    (bp [5] 6 (ah 7))))
section
variable {E Rr N h:PyData} {f:Int→Int} {most:Int}
theorem tj (gfn:∀ t,cK [E,Rr,N,h,.int t]=.ok (.int (f t))) (l:Int) (acc:List PyData) (hl:acc.length < 1000000) (x7:Option PyData) :
    sU [some E,some Rr,some N,some h,some (.int most),some (.list acc),some (.int l),x7]
     =if f l=l then .rt (.list (acc++[.int l])) else .nx [some E,some Rr,some N,some h,some (.int most),some (.list (acc++[.int l])),some (.int (f l)),some (.int (f l))]:=by
  have s1:nK [5] 5 (ah 6) [some E,some Rr,some N,some h,some (.int most),some (.list acc),some (.int l),x7]=.nx [some E,some Rr,some N,some h,some (.int most),some (.list (acc++[.int l])),some (.int l),x7]:=by
    unfold nK
    simp only [List.getElem?_cons_succ,List.getElem?_cons_zero,aJ (show 6 ∉ [5] by decide),az,aA,aE,if_pos hl]
    rfl
  have s2:bp [5] 7 (ay cK (af (ah 0) (af (ah 1) (af (ah 2) (af (ah 3) (af (ah 6) ar)))))) [some E,some Rr,some N,some h,some (.int most),some (.list (acc++[.int l])),some (.int l),x7]=.nx [some E,some Rr,some N,some h,some (.int most),some (.list (acc++[.int l])),some (.int l),some (.int (f l))]:=by
    rw [g0,if_pos (by simp)]
    simp only [bu,aO,aX,aJ (show 0 ∉ [5] by decide),aJ (show 1 ∉ [5] by decide),aJ (show 2 ∉ [5] by decide),aJ (show 3 ∉ [5] by decide),aJ (show 6 ∉ [5] by decide),az,aA,Rs.aj,gfn,aE]
    rfl
  have s3:bp [5] 6 (ah 7) [some E,some Rr,some N,some h,some (.int most),some (.list (acc++[.int l])),some (.int l),some (.int (f l))]=.nx [some E,some Rr,some N,some h,some (.int most),some (.list (acc++[.int l])),some (.int (f l)),some (.int (f l))]:=by
    rw [g0,if_pos (by simp)]
    simp only [aJ (show 7 ∉ [5] by decide),az,aA,aE]
    rfl
  unfold sU
  rw [aZ,s1]; simp only
  rw [aZ,s2]; simp only
  rw [aZ]
  by_cases z:f l=l
  · rw [if_pos z]
    have q:(f l == l)=true:=by simpa using z
    simp only [lY,kB,cF,az,aA,Rs.aj,rO,q,Rs.aq,c7,if_true,aE,cN]
  · rw [if_neg z]
    have q:(f l == l)=false:=by simpa using z
    simp only [lY,kB,cF,az,aA,Rs.aj,rO,q,Rs.aq,c7,if_false,Bool.false_eq_true,aE,mW,s3]
theorem pj (l:Int) (a x7:Option PyData):ua [some E,some Rr,some N,some h,some (.int most),a,some (.int l),x7]=.ok (decide (l≤most)):=by
  simp only [ua,kB,cF,az,aA,Rs.aj,FA,Rs.aq,c7]
theorem ym (gfn:∀ t,cK [E,Rr,N,h,.int t]=.ok (.int (f t))) (R:nO f) {T:Int} (P:Top f T) (hT:T≤most):∀ (j fuel:Nat) (l:Int) (acc:List PyData) (x7:Option PyData),1≤l→l≤T→T - l≤j→j < fuel→acc.length + j < 1000000 →
    cX ua sU fuel [some E,some Rr,some N,some h,some (.int most),some (.list acc),some (.int l),x7]=.rt (.list (acc++(oF f T j l).map PyData.int))
  | j,0,l,acc,x7,_,_,_,hf,_=>absurd hf (Nat.not_lt_zero _)
  | 0,fuel + 1,l,acc,x7,h1,h2,h3,hf,hc=>by
    have e:l=T:=by omega
    have ef:f l=l:=by rw [e]; exact P.fix
    unfold cX
    rw [pj,aE,decide_eq_true (show l≤most by omega),if_pos rfl,tj gfn l acc (by omega),if_pos ef]
    rfl
  | j + 1,fuel + 1,l,acc,x7,h1,h2,h3,hf,hc=>by
    unfold cX
    rw [pj,aE,decide_eq_true (show l≤most by omega),if_pos rfl,tj gfn l acc (by omega)]
    unfold oF
    by_cases e:l=T
    · have ef:f l=l:=by rw [e]; exact P.fix
      rw [if_pos ef,if_pos e]
      rfl
    · have hl:=P.low l h1 (by omega)
      have hm:=R.mono l T h1 h2
      rw [P.fix] at hm
      rw [if_neg (show ¬ f l=l by omega),if_neg e]
      simp only
      rw [ym gfn R P hT j fuel (f l) (acc++[PyData.int l]) _ (by omega) hm (by omega) (by omega) (by rw [List.length_append,List.length_singleton]; omega)]
      rw [List.map_cons,List.append_assoc]; rfl
theorem yh (gfn:∀ t,cK [E,Rr,N,h,.int t]=.ok (.int (f t))) (no:∀ s,1≤s→s≤most→¬ f s≤s):∀ (j fuel:Nat) (l:Int) (acc:List PyData) (x7:Option PyData),1≤l→most - l < j→j < fuel→acc.length + j < 1000000 →
    ∃ δ,cX ua sU fuel [some E,some Rr,some N,some h,some (.int most),some (.list acc),some (.int l),x7]=.nx δ
  | j,0,l,acc,x7,_,_,hf,_=>absurd hf (Nat.not_lt_zero _)
  | 0,fuel + 1,l,acc,x7,h1,h3,hf,hc=>by
    unfold cX
    rw [pj,aE,decide_eq_false (show ¬ l≤most by omega),if_neg (by decide)]
    exact ⟨_,rfl⟩
  | j + 1,fuel + 1,l,acc,x7,h1,h3,hf,hc=>by
    unfold cX
    rw [pj,aE]
    by_cases e:l≤most
    · rw [decide_eq_true e,if_pos rfl,tj gfn l acc (by omega)]
      have hl:=no l h1 e
      rw [if_neg (show ¬ f l=l by omega)]
      simp only
      exact yh gfn no j fuel (f l) (acc++[PyData.int l]) _ (by omega) (by omega) (by omega) (by rw [List.length_append,List.length_singleton]; omega)
    · rw [decide_eq_false e,if_neg (by decide)]
      exact ⟨_,rfl⟩
end
noncomputable def cg:Gf
  | [d,r,.int n,.int h]=>if okW d r n && decide (0≤h) then .ok (yE (iY (bN d) (bQ r) n h)) else .no
  | _=>.no
theorem ky {es:List Er} {rs:List Int} {n h:Int} (h1:1≤es.length) (h2:es.length≤6) (hk:∀ e∈es,e.Wk) (hr:bx es.length rs) (n0:0≤n) (n1:n < es.length) (h0:0≤h):cg [av es,ao rs,.int n,.int h]=.ok (yE (iY es rs n h)):=by
  unfold cg; simp only [kX h1 h2 hk hr n0 n1,decide_eq_true h0,Bool.and_self,if_true,cu,cw]
theorem yt {es:List Er} {rs:List Int} {n h T:Int} (R:nO (eC es rs n h)) (e:ql es rs n h=some T):Top (eC es rs n h) T∧T≤(aK es n).every - (aK es n).late:=by
  obtain ⟨h1,h2,h3,h4⟩:=fY e
  have h4':∀ s,1≤s→s < T→¬ eC es rs n h s≤s:=fun s a b=>of_decide_eq_false (h4 s a b)
  exact ⟨⟨R.fix h1 (of_decide_eq_true h3) h4',h1,h4'⟩,by omega⟩
theorem vO (cs:Cs):∀ ds,ds.length=4→cg ds≠.no→aV (gP cs cK (ds.map some++List.replicate 4 none))=cg ds:=by
  intro ds hl hne
  obtain ⟨d,r,n,h,ez,hz⟩:=nr hne
  clear hne; subst ez; have hne:=hz; clear hz
  · skip
    split at hne
    · rename_i hc
      simp only [Bool.and_eq_true,decide_eq_true_eq] at hc
      obtain ⟨hc,h0⟩:=hc
      obtain ⟨es,rs,rfl,rfl,_,_,l1,l6,hok,hr,n0,n1⟩:=fA hc
      rw [ky l1 l6 hok hr n0 n1 h0]
      have gfn:∀ t,cK [av es,ao rs,.int n,.int h,.int t]=.ok (.int (eC es rs n h t)):=fun t=>qp l1 l6 hok hr n0 n1
      have R:=mU (h:=h) hok hr n0 n1 h0
      have hon:=hok _ (b4 n0 n1)
      have a2:atI (es.map Er.d) n=some (aK es n).d:=ee n0 n1
      have a3:dIx (av es) (.int n)=some (aK es n).d:=a2
      have i2:dIx (aK es n).d (.int 2)=some (.int (aK es n).late):=rfl
      have i0:dIx (aK es n).d (.int 0)=some (.int (aK es n).every):=rfl
      have e60:=hon.e2; have la0:=hon.l1
      have f1:=R.one 1 (by decide)
      generalize hM:(aK es n).every - (aK es n).late=M at *
      have s1:bp [5] 4 (g2 g5 (g2 dIx (g2 dIx (ah 0) (ah 2)) (gC (.int 0))) (g2 dIx (g2 dIx (ah 0) (ah 2)) (gC (.int 2)))) [some (av es),some (ao rs),some (.int n),some (.int h),none,none,none,none]=.nx [some (av es),some (ao rs),some (.int n),some (.int h),some (.int M),none,none,none]:=by
        rw [g0,if_pos (by simp)]
        simp only [cF,aJ (show 0 ∉ [5] by decide),aJ (show 2 ∉ [5] by decide),az,aA,dB,Rs.aj,a3,i2,i0,Rs.aq,oE,aE,hM]
        rfl
      have s2:lR [5] 5 ar [some (av es),some (ao rs),some (.int n),some (.int h),some (.int M),none,none,none]=.nx [some (av es),some (ao rs),some (.int n),some (.int h),some (.int M),some (.list []),none,none]:=rfl
      have s3:bp [5] 6 (ay cK (af (ah 0) (af (ah 1) (af (ah 2) (af (ah 3) (af (gC (.int 1)) ar)))))) [some (av es),some (ao rs),some (.int n),some (.int h),some (.int M),some (.list []),none,none]=.nx [some (av es),some (ao rs),some (.int n),some (.int h),some (.int M),some (.list []),some (.int (eC es rs n h 1)),none]:=by
        rw [g0,if_pos (by simp)]
        simp only [bu,aO,aX,aJ (show 0 ∉ [5] by decide),aJ (show 1 ∉ [5] by decide),aJ (show 2 ∉ [5] by decide),aJ (show 3 ∉ [5] by decide),az,aA,dB,Rs.aj,gfn,aE]
        rfl
      show aV (gP cs cK [some (av es),some (ao rs),some (.int n),some (.int h),none,none,none,none])=_
      simp only [gP]
      rw [aZ,s1]; simp only
      rw [aZ,s2]; simp only
      rw [aZ,s3]; simp only
      rw [aZ]
      cases q:ql es rs n h with
      | some T =>
        obtain ⟨P,hT⟩:=yt R q
        rw [hM] at hT
        have hle:eC es rs n h 1≤T:=by have:=R.mono 1 T (by decide) P.one; rw [P.fix] at this; exact this
        have w:=ym gfn R P hT T.toNat 1000000 (eC es rs n h 1) [] none f1 hle (by omega) (by omega) (by simp; omega)
        rw [w]
        simp only [iY,q,Option.map_some,yE,List.nil_append,bV]
      | none =>
        have no:∀ s,1≤s→s≤M→¬ eC es rs n h s≤s:=fun s a b=>by
          have:=nu q s a (by omega)
          exact of_decide_eq_false this
        obtain ⟨δ,w⟩:=yh gfn no 100 1000000 (eC es rs n h 1) [] none f1 (by omega) (by decide) (by decide)
        rw [w]
        simp only [iY,q,Option.map_none,yE,cN,dB,aE,bV]
    · exact absurd rfl hne
end RS
set_option maxRecDepth 100000
set_option maxHeartbeats 1000000
namespace RS
open PySem L2
noncomputable def b6:Gf
  | [d,r,.int n,.int h]=>if okW d r n && decide (0≤h) then .ok (bO (ql (bN d) (bQ r) n h)) else .no
  | _=>.no
theorem jJ {es:List Er} {rs:List Int} {n h:Int} (h1:1≤es.length) (h2:es.length≤6) (hk:∀ e∈es,e.Wk) (hr:bx es.length rs) (n0:0≤n) (n1:n < es.length) (h0:0≤h):b6 [av es,ao rs,.int n,.int h]=.ok (bO (ql es rs n h)):=by
  unfold b6; simp only [kX h1 h2 hk hr n0 n1,decide_eq_true h0,Bool.and_self,if_true,cu,cw]
theorem ui (cs:Cs):∀ ds,ds.length=4→b6 ds≠.no→aV (eO cs cg (ds.map some++List.replicate 1 none))=b6 ds:=by
  intro ds hl hne
  obtain ⟨d,r,n,h,ez,hz⟩:=nr hne
  clear hne; subst ez; have hne:=hz; clear hz
  · skip
    split at hne
    · rename_i hc
      simp only [Bool.and_eq_true,decide_eq_true_eq] at hc
      obtain ⟨hc,h0⟩:=hc
      obtain ⟨es,rs,rfl,rfl,_,_,l1,l6,hok,hr,n0,n1⟩:=fA hc
      rw [jJ l1 l6 hok hr n0 n1 h0]
      have hg:=ky l1 l6 hok hr n0 n1 h0
      have R:=mU (h:=h) hok hr n0 n1 h0
      show aV (eO cs cg [some (av es),some (ao rs),some (.int n),some (.int h),none])=_
      cases q:ql es rs n h with
      | none =>
        have e:iY es rs n h=none:=by unfold iY; rw [q]; rfl
        rw [e] at hg
        simp [eO,hg,yE,bO,gIf]
      | some T =>
        obtain ⟨P,hT⟩:=yt R q
        have hle:eC es rs n h 1≤T:=by have:=R.mono 1 T (by decide) P.one; rw [P.fix] at this; exact this
        have f1:=R.one 1 (by decide)
        have e:iY es rs n h=some (oF (eC es rs n h) T T.toNat (eC es rs n h 1)):=by unfold iY; rw [q]; rfl
        rw [e] at hg
        have hlast:=qw R P T.toNat (eC es rs n h 1) f1 hle (by omega)
        have hx:dIx (.list ((oF (eC es rs n h) T T.toNat (eC es rs n h 1)).map PyData.int)) (.int (-1))=some (.int T):=by
          show atI _ (-1)=_
          rw [ju,List.getLast?_map,hlast]; rfl
        simp [eO,hg,yE,bO,hx,gIf]
        rfl
    · exact absurd rfl hne
noncomputable def bg:Gf
  | [d,r,.int n]=>if okW d r n then .ok (bO (bL (bN d) (bQ r) n)) else .no
  | _=>.no
theorem gj {es:List Er} {rs:List Int} {n:Int} (h1:1≤es.length) (h2:es.length≤6) (h:∀ e∈es,e.Wk) (hr:bx es.length rs) (n0:0≤n) (n1:n < es.length):bg [av es,ao rs,.int n]=.ok (bO (bL es rs n)):=by
  unfold bg; simp only [kX h1 h2 h hr n0 n1,if_true,cu,cw]
theorem nL (cs:Cs):∀ ds,ds.length=3→bg ds≠.no→aV (dj cs bK b6 (ds.map some++List.replicate 0 none))=bg ds:=by
  intro ds hl hne
  obtain ⟨d,r,n,ez,hz⟩:=g8 hne
  clear hne; subst ez; have hne:=hz; clear hz
  · skip
    split at hne
    · rename_i hc
      obtain ⟨es,rs,rfl,rfl,_,_,l1,l6,hok,hr,n0,n1⟩:=fA hc
      rw [gj l1 l6 hok hr n0 n1]
      have h1:=iK l1 l6 hok hr n0 n1
      have h2:=jJ l1 l6 hok hr n0 n1 (pS es rs n)
      rw [wd] at h2
      show aV (dj cs bK b6 [some (av es),some (ao rs),some (.int n)])=_
      simp only [dj,cN,bu,aO,aX,az,aA,Rs.aj,h1,h2,aE,bV]
    · exact absurd rfl hne
noncomputable def cJ (es:List Er) (rs:List Int) (n room:Int):Bool:=match bL es rs n with
  | some t=>decide (t + room≤(aK es n).due)
  | none=>false
theorem vh (es:List Er) (rs:List Int) (n:Int):cJ es rs n 0=dQ es rs n:=by
  unfold cJ dQ
  cases bL es rs n with
  | none=>rfl
  | some t=>simp
noncomputable def bq:Gf
  | [d,r,.int n,.int m]=>if okW d r n then .ok (.bool (cJ (bN d) (bQ r) n m)) else .no
  | _=>.no
theorem iB {es:List Er} {rs:List Int} {n m:Int} (h1:1≤es.length) (h2:es.length≤6) (h:∀ e∈es,e.Wk) (hr:bx es.length rs) (n0:0≤n) (n1:n < es.length):bq [av es,ao rs,.int n,.int m]=.ok (.bool (cJ es rs n m)):=by
  unfold bq; simp only [kX h1 h2 h hr n0 n1,if_true,cu,cw]
theorem xn (cs:Cs):∀ ds,ds.length=4→bq ds≠.no→aV (gG cs bg (ds.map some++List.replicate 1 none))=bq ds:=by
  intro ds hl hne
  obtain ⟨d,r,n,m,ez,hz⟩:=nr hne
  clear hne; subst ez; have hne:=hz; clear hz
  · skip
    split at hne
    · rename_i hc
      obtain ⟨es,rs,rfl,rfl,_,_,l1,l6,hok,hr,n0,n1⟩:=fA hc
      rw [iB l1 l6 hok hr n0 n1]
      have a2:atI (es.map Er.d) n=some (aK es n).d:=ee n0 n1
      have a3:dIx (av es) (.int n)=some (aK es n).d:=a2
      have hg:=gj l1 l6 hok hr n0 n1
      have he:∀ e:Er,dIx e.d (.int 1)=some (.int e.due):=fun _=>rfl
      unfold cJ
      show aV (gG cs bg [some (av es),some (ao rs),some (.int n),some (.int m),none])=_
      cases hf:bL es rs n with
      | none=>rw [hf] at hg; simp [gG,hg,bO]
      | some t=>rw [hf] at hg; simp [gG,hg,bO,a3,he]
    · exact absurd rfl hne
noncomputable def bW:Gf
  | [d,r,.int n]=>if okW d r n then .ok (.bool (dQ (bN d) (bQ r) n)) else .no
  | _=>.no
theorem jA {es:List Er} {rs:List Int} {n:Int} (h1:1≤es.length) (h2:es.length≤6) (h:∀ e∈es,e.Wk) (hr:bx es.length rs) (n0:0≤n) (n1:n < es.length):bW [av es,ao rs,.int n]=.ok (.bool (dQ es rs n)):=by
  unfold bW; simp only [kX h1 h2 h hr n0 n1,if_true,cu,cw]
theorem sv (cs:Cs):∀ ds,ds.length=3→bW ds≠.no→aV (fE cs bq (ds.map some++List.replicate 0 none))=bW ds:=by
  intro ds hl hne
  obtain ⟨d,r,n,ez,hz⟩:=g8 hne
  clear hne; subst ez; have hne:=hz; clear hz
  · skip
    split at hne
    · rename_i hc
      obtain ⟨es,rs,rfl,rfl,_,_,l1,l6,hok,hr,n0,n1⟩:=fA hc
      rw [jA l1 l6 hok hr n0 n1]
      have hg:=iB (m:=0) l1 l6 hok hr n0 n1
      rw [vh] at hg
      show aV (fE cs bq [some (av es),some (ao rs),some (.int n)])=_
      simp only [fE,cN,bu,aO,aX,az,aA,dB,Rs.aj,hg,aE,bV]
    · exact absurd rfl hne
end RS
set_option maxRecDepth 100000
set_option maxHeartbeats 4000000
namespace L2
open PySem PySem.Spec PyProof.Rows
section
variable {X:Cx} {E:XK} {a b:Expr} {gs:Ds→Rs (List PyData)} {pos:Pos}
end
end L2
set_option maxRecDepth 100000
set_option maxHeartbeats 4000000
namespace L2
open PySem PySem.Spec PyProof.Rows
section
variable {X:Cx} {E:XK} {O:List Nat} {K:PySem.W.Frag} {H0 H:Hp} {A0 A:List Addr} {δ:Ds} {σ:St} {pos:Pos}
end
end L2
set_option maxRecDepth 100000
set_option maxHeartbeats 4000000
namespace L2
open PySem PySem.Spec PyProof.Rows
section
variable {X:Cx} {E:XK} {o e:Expr} {es:List Expr} {ga:Ds→Rs PyData} {gs:Ds→Rs (List PyData)} {pos apos:Pos}
end
end L2
namespace L2
open PySem PySem.Spec PyProof.Rows
section
variable {X:Cx} {E:XK} {O:List Nat}
end
end L2
namespace RS
open PySem L2
noncomputable def gM (cs:Cs):Ds→Sr :=
  (bj (bp [] 3 (gL (cq 5 (dR (ah 1)) (gT (g2 dNe (ah 5) (ah 2))) (ah 5) bU)))
    (bj (bp [] 4 (gL (cq 5 (gv (af (gF eN (af (ah 0) ar)) ar)) (gT (g2 (kP true) (ah 5) (ah 1))) (ah 5) bU)))
    (b0 (gF jY (af (g2 bb (g2 bb (ah 3) (tw (af (ah 2) ar))) (ah 4)) ar)))))
noncomputable def f7 (cs:Cs):Ds→Sr :=
  (b0 (gL (cq 2 (gv (af (gF eN (af (ah 0) ar)) ar)) (gT (g2 (kP true) (ah 2) (ah 1))) (ah 2) bU)))
noncomputable def c4 (cs:Cs) (bR bq bF:Gf):Ds→Sr :=
  (bj (bp [] 3 (ay bF (af (ah 0) (af (ah 1) ar))))
    (bj (jC [] (dR (ah 3)) (cn 4) (sIf (gT (ay bq (af (ah 0) (af (ay bR (af (ah 0) (af (ah 3) (af (ah 4) ar)))) (af (ah 4) (af (ah 2) ar)))))) (b0 (ah 4)) b3))
    (b0 (gC .none))))
noncomputable def cT (cs:Cs) (aN:Gf):Ds→Sr :=
  (bj (bp [] 2 (fj ar))
    (bj (bp [] 3 (ay aN (af (ah 0) (af (ah 2) (af (ah 1) ar)))))
    (bj (fun δ=>cX (gT (g1 fv (ah 3))) (bj (bp [] 2 (g2 bb (fj (af (ah 3) ar)) (ah 2)))
    (bp [] 3 (ay aN (af (ah 0) (af (ah 2) (af (ah 1) ar)))))) 1000000 δ)
    (b0 (ah 2)))))
noncomputable def dm (cs:Cs) (aW:Gf):Ds→Sr :=
  (bj (bp [] 2 (ay aW (af (ah 0) (af (ah 1) ar))))
    (b0 (gIf (gT (g2 dEq (gF eN (af (ah 2) ar)) (gF eN (af (ah 0) ar)))) (ah 2) (gC .none))))
noncomputable def gz (cs:Cs) (a6 ba:Gf):Ds→Sr :=
  (bj (nB (ay ba (af (ah 0) ar)))
    (b0 (ay a6 (af (ah 0) (af (gC (.int 0)) ar)))))
noncomputable def lp (cs:Cs) (bW:Gf):Ds→Sr :=
  (b0 (gF tD (af (gL (cq 2 (dR (ah 1)) cW (ay bW (af (ah 0) (af (ah 1) (af (ah 2) ar)))) bU)) ar)))
noncomputable def fb (cs:Cs):Ds→Sr :=
  (b0 (g2 bb (g2 bb (c8 (ah 0) cB (eX (ah 1))) (fj (af (ah 2) ar))) (c8 (ah 0) (eX (g2 bb (ah 1) (gC (.int 1)))) cB)))
noncomputable def dh (cs:Cs) (bB:Gf):Ds→Sr :=
  (bj (bp [] 3 (g2 dIx (ah 0) (ah 1)))
    (bj (bp [] 4 (g2 dIx (g2 dIx (ah 3) (gC (.int 3))) (g1 iR (gC (.int 1)))))
    (bj (bp [] 5 (g2 bb (c8 (g2 dIx (ah 3) (gC (.int 3))) cB (eX (g1 iR (gC (.int 1))))) (fj (af (fj (af (g2 bb (g2 dIx (ah 4) (gC (.int 0))) (ah 2)) (af (g2 dIx (ah 4) (gC (.int 1))) ar))) ar))))
    (b0 (ay bB (af (ah 0) (af (ah 1) (af (g2 bb (c8 (ah 3) cB (eX (gC (.int 3)))) (fj (af (ah 5) ar))) ar))))))))
noncomputable def mZ (cs:Cs) (a7 cx bM:Gf):Ds→Sr :=
  (bj (nB (ay bM (af (ah 0) (af (ah 1) (af (ah 2) ar)))))
    (bj (sIf (fF (gT (ay cx (af (ah 0) (af (ah 1) ar))))) (b0 (gC .none)) b3)
    (bj (bp [] 3 (gC (.int 0)))
    (bj (fun δ=>cX (gT (ay cx (af (ay a7 (af (ah 0) (af (ah 2) (af (g2 bb (ah 3) (gC (.int 1))) ar)))) (af (ah 1) ar)))) (tT [] 3 (gC (.int 1))) 1000000 δ)
    (b0 (ah 3))))))
end RS
set_option maxRecDepth 100000
set_option maxHeartbeats 1000000
namespace L2
open PySem PySem.Spec PyProof.Rows
end L2
namespace RS
open PySem L2
theorem vP:∀ a b:List Int,PyData.eqvAll (a.map PyData.int) (b.map PyData.int)=decide (a=b)
  | [],[]=>by simp [PyData.eqvAll]
  | [],_::_=>by simp [PyData.eqvAll]
  | _::_,[]=>by simp [PyData.eqvAll]
  | x::a,y::b=>by
    have h:(x == y)=decide (x=y):=by by_cases z:x=y <;> simp [z]
    simp [PyData.eqvAll,PyData.eqv,vP a b,h]
theorem Bu (a b:List Int):dEq (.list (a.map PyData.int)) (.list (b.map PyData.int))=some (.bool (decide (a=b))):=by
  unfold dEq
  rw [pA (mw a),pA (mw b),shaped_ints,shaped_ints]
  simp [PyData.eqv,vP]
theorem zY (a:List Int):dEq (.list (a.map PyData.int)) (.list [])=some (.bool (decide (a=[]))):=Bu a []
noncomputable def fq (n:Nat):List Int:=(List.range n).map fun (i:Nat)=>(i:Int)
theorem lL (n:Nat):(fq n).Nodup:=by
  unfold fq
  exact List.Pairwise.map _ (fun a b h=>by omega) List.nodup_range
theorem iM {n:Nat} {x:Int}:x∈fq n↔0≤x∧x < n:=by
  unfold fq
  rw [List.mem_map]
  constructor
  · rintro ⟨i,hi,rfl⟩; have:=List.mem_range.mp hi; omega
  · intro h; exact ⟨x.toNat,List.mem_range.mpr (by omega),by omega⟩
theorem kn (n:Nat):(fq n).length=n:=by simp [fq]
theorem AN (n:Nat):cm 0 n=(fq n).map PyData.int:=by
  unfold cm fq
  rw [List.map_map]
  exact List.map_congr_left fun i _=>by simp
theorem qK {n:Nat} {o:List Int}:o.Perm (fq n)↔bx n o:=by
  constructor
  · intro h
    exact ⟨by rw [h.length_eq,kn],fun r hr=>iM.mp (h.subset hr),h.symm.nodup (lL n)⟩
  · intro h
    exact (List.perm_ext_iff_of_nodup h.nd (lL n)).mpr fun a=>⟨fun ha=>iM.mpr (h.rng a ha),fun ha=>by have:=iM.mp ha; exact h.mem this.1 this.2⟩
end RS
namespace RS
open PySem L2
noncomputable def dg (cs:Cs) (bD:Gf):Ds→Sr :=
  (b0 (g2 dEq (gL (cq 2 (dR (ah 1)) (fF (gT (ay bD (af (ah 0) (af (ah 1) (af (ah 2) ar)))))) (ah 2) bU)) (tw ar)))
noncomputable def gR (cs:Cs):Ds→Sr :=
  (bj (sS [] (dG [3,4,5,6]) (g2 dIx (ah 0) (ah 1)))
    (bj (bp [] 7 (fj (af (ah 3) (af (ah 4) (af (ah 5) (af (g2 bb (c8 (ah 6) cB (eX (g1 iR (gC (.int 1))))) (fj (af (fj (af (g2 bb (g2 dIx (g2 dIx (ah 6) (g1 iR (gC (.int 1)))) (gC (.int 0))) (ah 2)) (af (gC .none) ar))) ar))) ar))))))
    (b0 (g2 bb (g2 bb (c8 (ah 0) cB (eX (ah 1))) (fj (af (ah 7) ar))) (c8 (ah 0) (eX (g2 bb (ah 1) (gC (.int 1)))) cB)))))
end RS
set_option maxRecDepth 100000
set_option maxHeartbeats 1000000
namespace RS
open PySem L2
theorem u0 (x:Int) (xs:List Int):(xs.map PyData.int).filter (fun d=>!decide (deI d=x))=(xs.filter fun y=>decide (y≠x)).map PyData.int:=by
  rw [List.filter_map]
  congr 1
  refine List.filter_congr fun y _=>?_
  show (!decide (y=x))=decide (y≠x)
  by_cases z:y=x <;> simp [z]
theorem uC {a b:List PyData} (h:a.length + b.length≤1000000):bb (.tuple a) (.tuple b)=some (.tuple (a++b)):=by
  show (if _ then _ else _)=_
  rw [if_pos h]
noncomputable def dO (es:List Er) (rs:List Int):Bool:=rs.all fun n=>dQ es rs n
noncomputable def aL:Gf
  | [d,r]=>if jv d && cE (bN d).length r then .ok (.bool (dO (bN d) (bQ r))) else .no
  | _=>.no
theorem c6 {es:List Er} {rs:List Int} (h1:es.length≤100) (h:∀ e∈es,e.Sh) (hr:bx es.length rs):aL [av es,ao rs]=.ok (.bool (dO es rs)):=by
  unfold aL; simp [fU h1 h,cu,cP hr,cw]
theorem mT (cs:Cs):∀ ds,ds.length=2→aL ds≠.no→aV (dg cs bD (ds.map some++List.replicate 0 none))=aL ds:=by
  intro ds hl hne
  obtain ⟨d,r,ez,hz⟩:=wX hne
  clear hne; subst ez; have hne:=hz; clear hz
  · skip
    split at hne
    · rename_i hc
      simp only [Bool.and_eq_true] at hc
      obtain ⟨c1,c2⟩:=hc
      obtain ⟨e1,hlen,hsh⟩:=kh c1
      obtain ⟨e2,hr⟩:=en c2
      rw [← e1,← e2]
      generalize bN d=es at *
      generalize bQ r=rs at *
      rw [c6 hlen hsh hr]
      have hrl:=hr.len
      have hcm:cq 2 (dR (ah 1)) (fF (gT (ay bD (af (ah 0) (af (ah 1) (af (ah 2) ar)))))) (ah 2) bU [some (av es),some (ao rs)]=.ok ((rs.map PyData.int).filter fun d=>!dQ es rs (deI d)) :=
        j8 rfl rfl (by rw [List.length_map]; omega) fun x hx=>by
          obtain ⟨n,hn,rfl⟩:=List.mem_map.mp hx
          have hrg:=hr.rng n hn
          have hg:=iZ (n:=n) hlen hsh hr hrg.1 (by omega)
          refine ⟨?_,rfl⟩
          simp only [List.cons_append,List.nil_append,pJ,kB,bu,aO,aX,az,aA,Rs.aj,hg,c7]
          rfl
      have ef:((rs.map PyData.int).filter fun d=>!dQ es rs (deI d))=(rs.filter fun n=>!dQ es rs n).map PyData.int:=by
        rw [List.filter_map]; rfl
      rw [ef] at hcm
      have hb:decide ((rs.filter fun n=>!dQ es rs n)=[])=dO es rs:=by
        unfold dO
        cases h:rs.all fun n=>dQ es rs n with
        | true =>
          rw [List.all_eq_true] at h
          refine decide_eq_true (List.filter_eq_nil_iff.mpr fun n hn=>by simp [h n hn])
        | false =>
          refine decide_eq_false fun z=>?_
          rw [List.filter_eq_nil_iff] at z
          have:rs.all (fun n=>dQ es rs n)=true:=List.all_eq_true.mpr fun n hn=>by simpa using z n hn
          rw [h] at this; cases this
      show aV (dg cs bD [some (av es),some (ao rs)])=_
      simp only [dg,cN,cF,tG,hcm,Rs.aj,sZ,aX,zY,hb,Rs.aq,aE,bV]
    · exact absurd rfl hne
end RS
set_option maxRecDepth 100000
set_option maxHeartbeats 1000000
namespace RS
open PySem L2
structure BJ (gf:Gf):Prop where
  of:∀ es:List Er,1≤es.length→es.length≤6→(∀ e∈es,e.Ok)→(∃ rs,gf [av es]=.ok (ao rs)∧bx es.length rs∧dO es rs=true)∨(gf [av es]=.ok .none∧∀ rs,bx es.length rs→dO es rs=false)
theorem pN (x:Int):∀ ss:List Int,inV (toV (.int x)) ((ss.map PyData.int).map toV)=decide (x∈ss)
  | []=>by simp [inV]
  | s::r=>by
    have ih:=pN x r
    unfold inV at ih ⊢
    rw [List.map_cons,List.map_cons,List.any_cons,ih]
    show ((s == x) || _)=_
    by_cases z:x=s
    · subst z; simp
    · have h:(s == x)=false:=by simpa using fun q=>z q.symm
      simp [h,z]
end RS
set_option maxRecDepth 100000
set_option maxHeartbeats 1000000
namespace RS
open PySem L2
theorem vA {xs:List PyData}:cutD xs none (some (-1))=xs.dropLast:=by
  unfold cutD
  have e1:HT.sIx xs.length 0 none=0:=rfl
  have e2:HT.sIx xs.length xs.length (some (-1))=xs.length - 1:=by
    unfold HT.sIx
    simp
    omega
  rw [e1,e2,List.dropLast_eq_take]
  simp
theorem mR {α:Type}:∀ (l:List α) (k:Nat) (e:α),k < l.length→l.set k e=l.take k++e::l.drop (k + 1)
  | [],k,e,h=>by simp at h
  | x::l,0,e,_=>by simp
  | x::l,k + 1,e,h=>by
    have:=mR l k e (by simpa using h)
    simp [this]
theorem DP {es:List Er} {e:Er} {n:Int} (n0:0≤n) (n1:n < es.length) (h6:es.length≤6) {δ:Ds} {gd gn ge:Ds→Rs PyData} (h1:gd δ=.ok (av es)) (h2:gn δ=.ok (.int n)) (h3:ge δ=.ok e.d) :
    (g2 bb (g2 bb (c8 gd cB (eX gn)) (fj (af ge ar))) (c8 gd (eX (g2 bb gn (gC (.int 1)))) cB)) δ=.ok (av (es.set n.toNat e)):=by
  obtain ⟨k,rfl⟩:∃ k:Nat,n=(k:Int):=⟨n.toNat,by omega⟩
  have c1:cutD (es.map Er.d) none (some (k:Int))=(es.map Er.d).take k:=p8
  have c2:cutD (es.map Er.d) (some ((k:Int) + 1)) none=(es.map Er.d).drop (k + 1):=by rw [show ((k:Int) + 1)=((k + 1:Nat):Int) by omega,ng]
  have a1:bb (.tuple ((es.map Er.d).take k)) (.tuple [e.d])=some (.tuple ((es.map Er.d).take k++[e.d])):=uC (by simp; omega)
  have a2:bb (.tuple ((es.map Er.d).take k++[e.d])) (.tuple ((es.map Er.d).drop (k + 1)))=some (.tuple ((es.map Er.d).take k++[e.d]++(es.map Er.d).drop (k + 1))):=uC (by simp; omega)
  have e5:av (es.set k e)=.tuple ((es.map Er.d).take k++[e.d]++(es.map Er.d).drop (k + 1)):=by
    unfold av
    rw [List.map_set,mR _ _ _ (by rw [List.length_map]; omega)]
    simp
  rw [Int.toNat_natCast,e5]
  simp only [cF,fT,eU,h9,j9,aO,aX,dB,h1,h2,h3,Rs.aj,hW,av,jW,c1,c2,dD,Rs.aq,a1,a2]
theorem zc {es:List Er} {e:Er} {n:Int} (n0:0≤n) (n1:n < es.length):aK (es.set n.toNat e) n=e:=by
  unfold aK
  rw [List.getD_eq_getElem?_getD,List.getElem?_set_self (by omega)]; rfl
theorem A3 {es:List Er} {k:Nat} {e:Er} (h:∀ e∈es,e.Sh) (he:e.Sh):∀ x∈es.set k e,x.Sh:=fun x hx=>by
  rcases List.mem_or_eq_of_mem_set hx with z | z
  · exact h x z
  · rw [z]; exact he
noncomputable def ip (e:Er) (m:Int):Er:={ e with parts:=e.parts.dropLast++[((e.parts.getLast?.getD (0,none)).1 + m,none)] }
noncomputable def grown (es:List Er) (n m:Int):List Er:=es.set n.toNat (ip (aK es n) m)
theorem pz {e:Er} (h:e.Ok) {m:Int} (m0:0≤m) (m1:m≤100000):(ip e m).Sh:=by
  have hs:=h.sh
  have hp:=h.p2
  obtain ⟨p,hp1⟩:∃ p,e.parts.getLast?=some p:=by
    cases q:e.parts.getLast? with
    | none=>exact absurd (List.getLast?_eq_none_iff.mp q) h.p1
    | some p=>exact ⟨p,rfl⟩
  have hpm:=List.mem_of_getLast? hp1
  have hpl:=h.pl p hpm
  refine ⟨hs.e1,hs.e2,hs.l1,hs.l2,?_,fun q hq=>?_⟩
  · show (e.parts.dropLast++[_]).length≤1000
    rw [List.length_append,List.length_dropLast]; simp; omega
  · rcases List.mem_append.mp (show q∈e.parts.dropLast++[((e.parts.getLast?.getD (0,none)).1 + m,none)] from hq) with z | z
    · exact hs.pl q (List.dropLast_subset _ z)
    · cases List.mem_singleton.mp z
      rw [hp1]
      exact ⟨by show 0≤p.1 + m; omega,by show p.1 + m≤1000000; omega,fun t ht=>by cases ht⟩
noncomputable def bE:Gf
  | [d,.int n,.int m]=>if cy d && decide (0≤n) && decide (n < (bN d).length) then .ok (av (grown (bN d) n m)) else .no
  | _=>.no
theorem gZ {es:List Er} {n m:Int} (h1:1≤es.length) (h2:es.length≤6) (h:∀ e∈es,e.Ok) (n0:0≤n) (n1:n < es.length):bE [av es,.int n,.int m]=.ok (av (grown es n m)):=by
  unfold bE; simp [fX h1 h2 h,cu,n0,n1]
theorem vG (cs:Cs):∀ ds,ds.length=3→bE ds≠.no→aV (gR cs (ds.map some++List.replicate 5 none))=bE ds:=by
  intro ds hl hne
  obtain ⟨d,n,m,ez,hz⟩:=lu hne
  clear hne; subst ez; have hne:=hz; clear hz
  · skip
    split at hne
    · rename_i hc
      simp only [Bool.and_eq_true,decide_eq_true_eq] at hc
      obtain ⟨⟨c1,n0⟩,n1⟩:=hc
      obtain ⟨e1,l1,l6,hok⟩:=jN c1
      rw [← e1]
      generalize bN d=es at *
      rw [gZ l1 l6 hok n0 n1]
      have hoe:=hok _ (b4 n0 n1)
      have a3:dIx (av es) (.int n)=some (aK es n).d:=ee n0 n1
      generalize hE:aK es n=e at *
      obtain ⟨p,hp1⟩:∃ p,e.parts.getLast?=some p:=by
        cases q:e.parts.getLast? with
        | none=>exact absurd (List.getLast?_eq_none_iff.mp q) hoe.p1
        | some p=>exact ⟨p,rfl⟩
      have he:e.d=.tuple [.int e.every,.int e.due,.int e.late,.tuple (e.parts.map aT)]:=rfl
      have st1:sS [] (dG [3,4,5,6]) (g2 dIx (ah 0) (ah 1)) [some (av es),some (.int n),some (.int m),none,none,none,none,none]=.nx [some (av es),some (.int n),some (.int m),some (.int e.every),some (.int e.due),some (.int e.late),some (.tuple (e.parts.map aT)),none]:=by
        unfold sS
        rw [dZ]
        simp only [cF,az,aA,Rs.aj,a3,Rs.aq,aE,he]
        rfl
      have hl1:dIx (.tuple (e.parts.map aT)) (.int (-1))=some (aT p):=by
        show atI _ (-1)=_
        rw [ju,List.getLast?_map,hp1]; rfl
      have hpn:=hoe.p2
      have ha:bb (.tuple ((e.parts.map aT).dropLast)) (.tuple [.tuple [.int (p.1 + m),.none]])=some (.tuple ((e.parts.map aT).dropLast++[.tuple [.int (p.1 + m),.none]])):=uC (by rw [List.length_dropLast,List.length_map]; simp; omega)
      have hd:(ip e m).d=.tuple [.int e.every,.int e.due,.int e.late,.tuple ((e.parts.map aT).dropLast++[.tuple [.int (p.1 + m),.none]])]:=by
        unfold ip Er.d
        simp only [hp1,Option.getD_some,List.map_append,List.map_cons,List.map_nil,List.map_dropLast]
        rfl
      have st2:bp [] 7 (fj (af (ah 3) (af (ah 4) (af (ah 5) (af (g2 bb (c8 (ah 6) cB (eX (g1 iR (gC (.int 1))))) (fj (af (fj (af (g2 bb (g2 dIx (g2 dIx (ah 6) (g1 iR (gC (.int 1)))) (gC (.int 0))) (ah 2)) (af (gC .none) ar))) ar))) ar))))) [some (av es),some (.int n),some (.int m),some (.int e.every),some (.int e.due),some (.int e.late),some (.tuple (e.parts.map aT)),none]
         =.nx [some (av es),some (.int n),some (.int m),some (.int e.every),some (.int e.due),some (.int e.late),some (.tuple (e.parts.map aT)),some (ip e m).d]:=by
        rw [dk,if_pos (by simp),hd]
        simp only [j9,aO,aX,cF,sM,fT,eU,h9,dB,az,aA,Rs.aj,vV,Rs.aq,hW,jW,vA,hl1,wD,dD,ha,aE]
        rfl
      have hput:=DP (e:=ip e m) n0 n1 l6 (δ:=[some (av es),some (.int n),some (.int m),some (.int e.every),some (.int e.due),some (.int e.late),some (.tuple (e.parts.map aT)),some (ip e m).d]) (gd:=ah 0) (gn:=ah 1) (ge:=ah 7) rfl rfl rfl
      show aV (gR cs [some (av es),some (.int n),some (.int m),none,none,none,none,none])=_
      simp only [gR]
      rw [aZ,st1]; simp only
      rw [aZ,st2]; simp only
      rw [cN,hput,aE,bV]
      unfold grown
      rw [hE]
    · exact absurd rfl hne
structure wH (gf:Gf):Prop where
  of:∀ (es:List Er) (rs:List Int) (n:Int),1≤es.length→es.length≤6→(∀ e∈es,e.Ok)→bx es.length rs→0≤n→n < es.length →
    (dO es rs=false∧gf [av es,ao rs,.int n]=.ok .none)∨(dO es rs=true∧∃ a:Int,0≤a∧a≤1000∧gf [av es,ao rs,.int n]=.ok (.int a)∧dO (grown es n a) rs=true∧dO (grown es n (a + 1)) rs=false)
end RS
set_option maxRecDepth 100000
set_option maxHeartbeats 1000000
namespace RS
open PySem L2
theorem xk (x:Int) (ss:List Int):kP true (.int x) (.list (ss.map PyData.int))=some (.bool (!decide (x∈ss))):=by
  show (if (f9 (.int x) && _)=true then some (PyData.bool (if true=true then _ else inD _ _)) else none)=_
  rw [oB]
  unfold inD
  rw [pN]
  rfl
end RS
set_option maxRecDepth 100000
set_option maxHeartbeats 1000000
namespace RS
open PySem L2
theorem EZ {a b:List PyData} (h:a.length + b.length≤1000000):bb (.list a) (.list b)=some (.list (a++b)):=by
  show (if _ then _ else _)=_
  rw [if_pos h]
theorem xh (x:Int) (ss:List Int):kP true (.int x) (.tuple (ss.map PyData.int))=some (.bool (!decide (x∈ss))):=by
  show (if (f9 (.int x) && _)=true then some (PyData.bool (if true=true then _ else inD _ _)) else none)=_
  rw [oB]
  unfold inD
  rw [pN]
  rfl
theorem xA {δ:Ds} {l:List PyData} (h:ah 0 δ=.ok (.tuple l)) (hl:l.length≤100):gv (af (gF eN (af (ah 0) ar)) ar) δ=.ok ((fq l.length).map PyData.int):=by
  have hv:(af (gF eN (af (ah 0) ar)) ar) δ=.ok [.int (l.length:Int)]:=by
    simp only [aO,aX,nG,h,Rs.aj,tE,Rs.aq]
  have hr:=lK (j:=(l.length:Int)) (Int.natCast_nonneg _) (by omega)
  rw [Int.toNat_natCast] at hr
  rw [lF,hv,Rs.aj,hr,AN]
noncomputable def bI (n:Nat) (ss:List Int):List Int:=(fq n).filter fun y=>!decide (y∈ss)
theorem tP (n:Nat) (ss:List Int):((fq n).map PyData.int).filter (fun d=>!decide (deI d∈ss))=(bI n ss).map PyData.int:=by
  rw [List.filter_map]; rfl
theorem qF {δ:Ds} {ss:List Int} {n:Nat} {src:Ds→Rs (List PyData)} {k:Nat} {g:Ds→Rs PyData} {D:PyData} (hn:δ.length=k) (hs:src δ=.ok ((fq n).map PyData.int)) (hl:n≤100) (hg:∀ d,g (δ++[some d])=.ok D) (hD:∀ x:Int,kP true (.int x) D=some (.bool (!decide (x∈ss)))) :
    cq k src (gT (g2 (kP true) (ah k) g)) (ah k) bU δ=.ok ((bI n ss).map PyData.int):=by
  rw [← tP]
  refine j8 hn hs (by rw [List.length_map,kn]; omega) fun d hd=>?_
  obtain ⟨x,_,rfl⟩:=List.mem_map.mp hd
  have hv:ah k (δ++[some (.int x)])=.ok (.int x):=by
    unfold ah
    rw [← hn,List.getElem?_append_right (Nat.le_refl _),Nat.sub_self]; rfl
  refine ⟨?_,hv⟩
  simp only [kB,cF,hv,Rs.aj,hg,hD,Rs.aq,c7]
  rfl
noncomputable def gw (n:Nat) (ss:List Int) (k:Int):List Int:=(ss.filter fun y=>decide (y≠k))++[k]++bI n ss
noncomputable def bR:Gf
  | [.tuple l,.list xs,.int k]=>(match gO xs with
    | some ss=>if l.length≤100∧ss.length≤100 then .ok (ao (gw l.length ss k)) else .no
    | none=>.no)
  | _=>.no
theorem oW {es:List Er} {ss:List Int} {k:Int} (h1:es.length≤100) (h2:ss.length≤100):bR [av es,.list (ss.map PyData.int),.int k]=.ok (ao (gw es.length ss k)):=by
  unfold av bR
  simp only [d5,List.length_map]
  rw [if_pos ⟨h1,h2⟩]
theorem rP (n:Nat) (ss:List Int):(bI n ss).length≤n:=by
  unfold bI
  have:=List.length_filter_le (fun y=>!decide (y∈ss)) (fq n)
  rw [kn] at this
  exact this
theorem Cg {f:List PyData→List PyData→Int→Rs PyData} {ds:List PyData} (h:(match ds with | [.tuple x0,.list x1,.int x2]=>f x0 x1 x2 | _=>.no)≠.no):∃ x0 x1 x2,ds=[.tuple x0,.list x1,.int x2]∧f x0 x1 x2≠.no:=by
  rcases ds with _ | ⟨x0,_ | ⟨x1,_ | ⟨x2,_ | ⟨y,ys⟩⟩⟩⟩
  · exact absurd rfl h
  · first | exact absurd rfl h | (cases x0 <;> exact absurd rfl h)
  · first | exact absurd rfl h | (cases x0 <;> first | exact absurd rfl h | (cases x1 <;> exact absurd rfl h))
  · skip
    cases x0 with
    | tuple x0 =>
      cases x1 with
      | list x1 =>
        cases x2 with
        | int x2 =>
          exact ⟨_,_,_,rfl,h⟩
        | _=>exact absurd rfl h
      | _=>first | exact absurd rfl h | (cases x2 <;> exact absurd rfl h)
    | _=>first | exact absurd rfl h | (cases x1 <;> first | exact absurd rfl h | (cases x2 <;> exact absurd rfl h))
  · first | exact absurd rfl h | (cases x0 <;> first | exact absurd rfl h | (cases x1 <;> first | exact absurd rfl h | (cases x2 <;> exact absurd rfl h)))
theorem uz (cs:Cs):∀ ds,ds.length=3→bR ds≠.no→aV (gM cs (ds.map some++List.replicate 2 none))=bR ds:=by
  intro ds hl hne
  obtain ⟨l,xs,k,ez,hz⟩:=Cg hne
  clear hne; subst ez; have hne:=hz; clear hz
  · skip
    split at hne
    · rename_i ss hx
      split at hne
      · rename_i hc
        have hx':=dY hx
        subst hx'
        have hgg:bR [.tuple l,.list (ss.map PyData.int),.int k]=.ok (ao (gw l.length ss k)):=by
          unfold bR; simp only [d5]; rw [if_pos hc]
        rw [hgg]
        have c1:cq 5 (dR (ah 1)) (gT (g2 dNe (ah 5) (ah 2))) (ah 5) bU [some (.tuple l),some (.list (ss.map PyData.int)),some (.int k),none,none]=.ok ((ss.filter fun y=>decide (y≠k)).map PyData.int):=by
          rw [← u0]
          refine j8 rfl (by rfl) (by rw [List.length_map]; omega) fun d hd=>?_
          obtain ⟨y,_,rfl⟩:=List.mem_map.mp hd
          have h:(y == k)=decide (y=k):=by by_cases z:y=k <;> simp [z]
          refine ⟨?_,rfl⟩
          simp only [List.cons_append,List.nil_append,kB,cF,az,aA,Rs.aj,ES,Rs.aq,c7,h]
          rfl
        generalize hF:ss.filter (fun y=>decide (y≠k))=F at *
        have hFl:F.length≤100:=by rw [← hF]; exact Nat.le_trans (List.length_filter_le _ _) hc.2
        have c2:cq 5 (gv (af (gF eN (af (ah 0) ar)) ar)) (gT (g2 (kP true) (ah 5) (ah 1))) (ah 5) bU [some (.tuple l),some (.list (ss.map PyData.int)),some (.int k),some (.list (F.map PyData.int)),none]=.ok ((bI l.length ss).map PyData.int) :=
          qF rfl (xA rfl hc.1) hc.1 (fun d=>rfl) (fun x=>xk x ss)
        have hnl:=rP l.length ss
        have s1:bp [] 3 (gL (cq 5 (dR (ah 1)) (gT (g2 dNe (ah 5) (ah 2))) (ah 5) bU)) [some (.tuple l),some (.list (ss.map PyData.int)),some (.int k),none,none]=.nx [some (.tuple l),some (.list (ss.map PyData.int)),some (.int k),some (.list (F.map PyData.int)),none]:=by
          rw [dk,if_pos (by simp),tG,c1]; rfl
        have s2:bp [] 4 (gL (cq 5 (gv (af (gF eN (af (ah 0) ar)) ar)) (gT (g2 (kP true) (ah 5) (ah 1))) (ah 5) bU)) [some (.tuple l),some (.list (ss.map PyData.int)),some (.int k),some (.list (F.map PyData.int)),none]=.nx [some (.tuple l),some (.list (ss.map PyData.int)),some (.int k),some (.list (F.map PyData.int)),some (.list ((bI l.length ss).map PyData.int))]:=by
          rw [dk,if_pos (by simp),tG,c2]; rfl
        have a1:bb (.list (F.map PyData.int)) (.list [.int k])=some (.list (F.map PyData.int++[.int k])):=EZ (by simp; omega)
        have a2:bb (.list (F.map PyData.int++[.int k])) (.list ((bI l.length ss).map PyData.int))=some (.list (F.map PyData.int++[.int k]++(bI l.length ss).map PyData.int)):=EZ (by simp; omega)
        show aV (gM cs [some (.tuple l),some (.list (ss.map PyData.int)),some (.int k),none,none])=_
        simp only [gM]
        rw [aZ,s1]; simp only
        rw [aZ,s2]; simp only
        simp only [cN,nG,aO,aX,cF,sZ,az,aA,Rs.aj,a1,a2,Rs.aq,wN,aE,bV]
        unfold gw ao
        rw [hF]
        simp
      · exact absurd rfl hne
    · exact absurd rfl hne
noncomputable def bF:Gf
  | [.tuple l,.tuple xs]=>(match gO xs with
    | some ss=>if l.length≤100 then .ok (.list ((bI l.length ss).map PyData.int)) else .no
    | none=>.no)
  | _=>.no
theorem n5 {es:List Er} {ss:List Int} (h1:es.length≤100):bF [av es,ao ss]=.ok (.list ((bI es.length ss).map PyData.int)):=by
  unfold av ao bF
  simp only [d5,List.length_map]
  rw [if_pos h1]
theorem D7 {f:List PyData→List PyData→Rs PyData} {ds:List PyData} (h:(match ds with | [.tuple x0,.tuple x1]=>f x0 x1 | _=>.no)≠.no):∃ x0 x1,ds=[.tuple x0,.tuple x1]∧f x0 x1≠.no:=by
  rcases ds with _ | ⟨x0,_ | ⟨x1,_ | ⟨y,ys⟩⟩⟩
  · exact absurd rfl h
  · first | exact absurd rfl h | (cases x0 <;> exact absurd rfl h)
  · skip
    cases x0 with
    | tuple x0 =>
      cases x1 with
      | tuple x1 =>
        exact ⟨_,_,rfl,h⟩
      | _=>exact absurd rfl h
    | _=>first | exact absurd rfl h | (cases x1 <;> exact absurd rfl h)
  · first | exact absurd rfl h | (cases x0 <;> first | exact absurd rfl h | (cases x1 <;> exact absurd rfl h))
theorem ug (cs:Cs):∀ ds,ds.length=2→bF ds≠.no→aV (f7 cs (ds.map some++List.replicate 0 none))=bF ds:=by
  intro ds hl hne
  obtain ⟨l,xs,ez,hz⟩:=D7 hne
  clear hne; subst ez; have hne:=hz; clear hz
  · skip
    split at hne
    · rename_i ss hx
      split at hne
      · rename_i hc
        have hx':=dY hx
        subst hx'
        have hgg:bF [.tuple l,.tuple (ss.map PyData.int)]=.ok (.list ((bI l.length ss).map PyData.int)):=by
          unfold bF; simp only [d5]; rw [if_pos hc]
        rw [hgg]
        have c2:cq 2 (gv (af (gF eN (af (ah 0) ar)) ar)) (gT (g2 (kP true) (ah 2) (ah 1))) (ah 2) bU [some (.tuple l),some (.tuple (ss.map PyData.int))]=.ok ((bI l.length ss).map PyData.int) :=
          qF rfl (xA rfl hc) hc (fun d=>rfl) (fun x=>xh x ss)
        show aV (f7 cs [some (.tuple l),some (.tuple (ss.map PyData.int))])=_
        simp only [f7,cN,tG,c2,Rs.aj,aE,bV]
      · exact absurd rfl hne
    · exact absurd rfl hne
theorem d7 {n:Nat} {ss:List Int} {x:Int}:x∈bI n ss↔(0≤x∧x < n)∧x ∉ ss:=by
  unfold bI
  rw [List.mem_filter,iM]
  simp
theorem ic (n:Nat) (ss:List Int):(bI n ss).Nodup:=(lL n).filter _
theorem kS {n:Nat} {ss:List Int} {k:Int} (nd:ss.Nodup) (hs:∀ x∈ss,0≤x∧x < n) (hk:k∈ss):bx n (gw n ss k):=by
  rw [← qK]
  have e2:(ss.filter fun y=>decide (y≠k))=ss.erase k:=by
    rw [nd.erase_eq_filter]
    refine List.filter_congr fun y _=>?_
    by_cases z:y=k <;> simp [z]
  have p1:(gw n ss k).Perm (ss++bI n ss):=by
    unfold gw
    rw [e2]
    refine List.Perm.append_right _ ?_
    refine List.perm_append_comm.trans ?_
    exact (List.perm_cons_erase hk).symm
  refine p1.trans ?_
  refine (List.perm_ext_iff_of_nodup ?_ (lL n)).mpr fun a=>?_
  · refine List.nodup_append.mpr ⟨nd,ic n ss,fun a ha b hb e=>?_⟩
    subst e
    exact (d7.mp hb).2 ha
  · rw [List.mem_append,d7,iM]
    constructor
    · rintro (h | h)
      · exact hs a h
      · exact h.1
    · intro h
      by_cases z:a∈ss
      · exact .inl z
      · exact .inr ⟨h,z⟩
theorem qm {n:Nat} {ss:List Int} {k:Int}:(gw n ss k).take (placeOf (gw n ss k) k)=ss.filter fun y=>decide (y≠k):=by
  have h:placeOf (gw n ss k) k=(ss.filter fun y=>decide (y≠k)).length:=by
    unfold gw
    rw [List.append_assoc,vR (fun z=>by simpa using (List.mem_filter.mp z).2)]
    rw [List.singleton_append,tN]; omega
  rw [h]
  unfold gw
  rw [List.append_assoc,List.take_left']
  rfl
noncomputable def eB (es:List Er) (ss:List Int) (m:Int):Option Int:=(bI es.length ss).find? fun k=>cJ es (gw es.length (bI es.length ss) k) k m
noncomputable def aN:Gf
  | [d,.tuple xs,.int m]=>(match gO xs with
    | some ss=>if nM d then .ok (bO (eB (bN d) ss m)) else .no
    | none=>.no)
  | _=>.no
theorem dS {es:List Er} {ss:List Int} {m:Int} (h1:1≤es.length) (h2:es.length≤6) (h:∀ e∈es,e.Wk):aN [av es,ao ss,.int m]=.ok (bO (eB es ss m)):=by
  unfold ao aN
  simp only [d5,k9 h1 h2 h,if_true,cu]
theorem yo {E P M L:PyData} {c:Ds→Rs Bool} {p:Int→Bool}:∀ (xs:List Int) (x4:Option PyData),(∀ k∈xs,c [some E,some P,some M,some L,some (.int k)]=.ok (p k)) →
    (∃ k,xs.find? p=some k∧forL (cn 4) (sIf c (b0 (ah 4)) b3) (xs.map PyData.int) [some E,some P,some M,some L,x4]=.rt (.int k))∨(xs.find? p=none∧∃ y4,forL (cn 4) (sIf c (b0 (ah 4)) b3) (xs.map PyData.int) [some E,some P,some M,some L,x4]=.nx [some E,some P,some M,some L,y4])
  | [],x4,_=>.inr ⟨rfl,x4,rfl⟩
  | k::r,x4,h=>by
    have hk:=h k List.mem_cons_self
    have ht:cn 4 (PyData.int k) [some E,some P,some M,some L,x4]=some [some E,some P,some M,some L,some (.int k)]:=rfl
    rw [List.map_cons]
    unfold forL
    rw [ht]
    cases q:p k with
    | true =>
      rw [q] at hk
      refine .inl ⟨k,by rw [List.find?_cons,q],?_⟩
      simp only [lY,hk,aE,if_true,cN,az,aA]
    | false =>
      rw [q] at hk
      have hb:sIf c (b0 (ah 4)) b3 [some E,some P,some M,some L,some (.int k)]=.nx [some E,some P,some M,some L,some (.int k)]:=by
        simp only [lY,hk,aE,Bool.false_eq_true,if_false,mW]
      simp only [hb]
      rcases yo r (some (.int k)) (fun x hx=>h x (List.mem_cons_of_mem _ hx)) with ⟨j,e1,e2⟩ | ⟨e1,y4,e2⟩
      · exact .inl ⟨j,by rw [List.find?_cons,q]; exact e1,e2⟩
      · exact .inr ⟨by rw [List.find?_cons,q]; exact e1,y4,e2⟩
theorem BS {f:PyData→List PyData→Int→Rs PyData} {ds:List PyData} (h:(match ds with | [x0,.tuple x1,.int x2]=>f x0 x1 x2 | _=>.no)≠.no):∃ x0 x1 x2,ds=[x0,.tuple x1,.int x2]∧f x0 x1 x2≠.no:=by
  rcases ds with _ | ⟨x0,_ | ⟨x1,_ | ⟨x2,_ | ⟨y,ys⟩⟩⟩⟩
  · exact absurd rfl h
  · exact absurd rfl h
  · first | exact absurd rfl h | (cases x1 <;> exact absurd rfl h)
  · skip
    cases x1 with
    | tuple x1 =>
      cases x2 with
      | int x2 =>
        exact ⟨_,_,_,rfl,h⟩
      | _=>exact absurd rfl h
    | _=>first | exact absurd rfl h | (cases x2 <;> exact absurd rfl h)
  · first | exact absurd rfl h | (cases x1 <;> first | exact absurd rfl h | (cases x2 <;> exact absurd rfl h))
theorem md (cs:Cs):∀ ds,ds.length=3→aN ds≠.no→aV (c4 cs bR bq bF (ds.map some++List.replicate 2 none))=aN ds:=by
  intro ds hl hne
  obtain ⟨d,xs,m,ez,hz⟩:=BS hne
  clear hne; subst ez; have hne:=hz; clear hz
  · skip
    split at hne
    · rename_i ss hx
      split at hne
      · rename_i hc
        have hx':=dY hx
        subst hx'
        obtain ⟨e1,l1,l6,hok⟩:=qc hc
        rw [← e1]
        generalize bN d=es at *
        have hgg:=dS (ss:=ss) (m:=m) l1 l6 hok
        unfold ao at hgg
        rw [hgg]
        have hnp:=n5 (es:=es) (ss:=ss) (by omega)
        unfold ao at hnp
        have hnl:=rP es.length ss
        have s1:bp [] 3 (ay bF (af (ah 0) (af (ah 1) ar))) [some (av es),some (.tuple (ss.map PyData.int)),some (.int m),none,none]=.nx [some (av es),some (.tuple (ss.map PyData.int)),some (.int m),some (.list ((bI es.length ss).map PyData.int)),none]:=by
          rw [dk,if_pos (by simp)]
          simp only [bu,aO,aX,az,aA,Rs.aj,hnp,aE]
          rfl
        have hc':∀ k∈bI es.length ss,(gT (ay bq (af (ah 0) (af (ay bR (af (ah 0) (af (ah 3) (af (ah 4) ar)))) (af (ah 4) (af (ah 2) ar)))))) [some (av es),some (.tuple (ss.map PyData.int)),some (.int m),some (.list ((bI es.length ss).map PyData.int)),some (.int k)]=.ok (cJ es (gw es.length (bI es.length ss) k) k m):=fun k hk=>by
          have ha:=oW (es:=es) (ss:=bI es.length ss) (k:=k) (by omega) (by omega)
          have hkr:=(d7.mp hk).1
          have hb:=iB (m:=m) l1 l6 hok (kS (ic es.length ss) (fun x hx=>(d7.mp hx).1) hk) hkr.1 hkr.2
          simp only [kB,bu,aO,aX,az,aA,Rs.aj,ha,hb,c7]
        show aV (c4 cs bR bq bF [some (av es),some (.tuple (ss.map PyData.int)),some (.int m),none,none])=_
        simp only [c4]
        rw [aZ,s1]; simp only
        rw [aZ,fS,dZ]
        rw [show dR (ah 3) [some (av es),some (.tuple (ss.map PyData.int)),some (.int m),some (.list ((bI es.length ss).map PyData.int)),none]=.ok ((bI es.length ss).map PyData.int) from rfl,aE]
        unfold eB
        rcases yo (bI es.length ss) none hc' with ⟨k,q,e⟩ | ⟨q,y4,e⟩
        · rw [e,q]; rfl
        · rw [e,q]; rfl
      · exact absurd rfl hne
    · exact absurd rfl hne
end RS
set_option maxRecDepth 100000
set_option maxHeartbeats 1000000
namespace RS
open PySem L2
noncomputable def w5 (es:List Er) (m:Int):Nat→List Int→List Int
  | 0,ss=>ss
  | f + 1,ss=>match eB es ss m with
    | some k=>w5 es m f (k::ss)
    | none=>ss
noncomputable def eL (es:List Er) (m:Int):List Int:=w5 es m (es.length + 1) []
noncomputable def PP (n:Nat) (ss:List Int):Prop:=(bI n ss++ss).Perm (fq n)
theorem PP.nil (n:Nat):PP n []:=by
  unfold PP bI
  rw [List.append_nil,List.filter_eq_self.mpr fun a _=>by simp]
theorem PP.len {n:Nat} {ss:List Int} (h:PP n ss):(bI n ss).length + ss.length=n:=by
  have:=h.length_eq
  rwa [List.length_append,kn] at this
theorem PP.cons {n:Nat} {ss:List Int} (h:PP n ss) {k:Int} (hk:k∈bI n ss):PP n (k::ss):=by
  unfold PP at h ⊢
  have e1:bI n (k::ss)=(bI n ss).erase k:=by
    rw [(ic n ss).erase_eq_filter]
    unfold bI
    rw [List.filter_filter]
    refine List.filter_congr fun y _=>?_
    by_cases z:y=k
    · simp [z]
    · by_cases u:y∈ss <;> simp [z,u]
  rw [e1]
  refine List.Perm.trans ?_ h
  refine List.perm_middle.trans ?_
  exact List.Perm.append_right ss (List.perm_cons_erase hk).symm
theorem Cu {es:List Er} {ss:List Int} {m k:Int} (h:eB es ss m=some k):k∈bI es.length ss:=List.mem_of_find?_eq_some h
theorem Bl {es:List Er} {ss:List Int} {m k:Int} (h:eB es ss m=some k):cJ es (gw es.length (bI es.length ss) k) k m=true:=by
  have:=List.find?_some h
  exact this
theorem zW {es:List Er} {ss:List Int} {m:Int} (h:eB es ss m=none):∀ k∈bI es.length ss,cJ es (gw es.length (bI es.length ss) k) k m=false:=fun k hk=>by
  have:=List.find?_eq_none.mp h k hk
  simpa using this
structure Pld (es:List Er) (m:Int) (ss:List Int):Prop where
  pp:PP es.length ss
  rm:∀ A k B,ss=A++k::B→cJ es (gw es.length (bI es.length B) k) k m=true
theorem Pld.nil (es:List Er) (m:Int):Pld es m []:=⟨PP.nil _,fun A k B h=>by simp at h⟩
theorem Pld.cons {es:List Er} {m k:Int} {ss:List Int} (h:Pld es m ss) (hk:eB es ss m=some k):Pld es m (k::ss):=⟨h.pp.cons (Cu hk),fun A x B e=>by
  cases A with
  | nil=>cases e; exact Bl hk
  | cons a A=>cases e; exact h.rm A x B rfl⟩
theorem zV {es:List Er} {m:Int}:∀ (j:Nat) (ss:List Int),Pld es m ss→es.length + 1≤ss.length + j→Pld es m (w5 es m j ss)∧eB es (w5 es m j ss) m=none
  | 0,ss,h,hl=>by have:=h.pp.len; omega
  | j + 1,ss,h,hl=>by
    unfold w5
    cases q:eB es ss m with
    | none=>exact ⟨h,q⟩
    | some k=>exact zV j (k::ss) (h.cons q) (by rw [List.length_cons]; omega)
theorem mi (es:List Er) (m:Int):Pld es m (eL es m)∧eB es (eL es m) m=none:=zV _ _ (Pld.nil es m) (by simp)
theorem PP.lenle {n:Nat} {ss:List Int} (h:PP n ss):ss.length≤n:=by have:=h.len; omega
noncomputable abbrev tR:Ds→Rs Bool:=gT (g1 fv (ah 3))
noncomputable abbrev we:Ds→Sr:=bj (bp [] 2 (g2 bb (fj (af (ah 3) ar)) (ah 2)))
    (bp [] 3 (ay aN (af (ah 0) (af (ah 2) (af (ah 1) ar)))))
theorem xE {es:List Er} {m:Int} (l1:1≤es.length) (l6:es.length≤6) (hok:∀ e∈es,e.Wk):∀ (j fuel:Nat) (ss:List Int),Pld es m ss→es.length + 1≤ss.length + j→j < fuel →
    ∃ x3,cX tR we fuel [some (av es),some (.int m),some (ao ss),some (bO (eB es ss m))]=.nx [some (av es),some (.int m),some (ao (w5 es m j ss)),x3]
  | j,0,ss,_,_,hf=>absurd hf (Nat.not_lt_zero _)
  | 0,fuel + 1,ss,h,hl,hf=>by have:=h.pp.len; omega
  | j + 1,fuel + 1,ss,h,hl,hf=>by
    unfold cX w5
    cases q:eB es ss m with
    | none =>
      refine ⟨some .none,?_⟩
      simp only [tR,bO,kB,sM,az,aA,Rs.aj,A9,zZ,Rs.aq,c7,aE,Bool.not_true,Bool.false_eq_true,if_false]
    | some k =>
      have hln:=h.pp.lenle
      obtain ⟨x3,e⟩:=xE l1 l6 hok j fuel (k::ss) (h.cons q) (by rw [List.length_cons]; omega) (by omega)
      refine ⟨x3,?_⟩
      have ha:bb (.tuple [.int k]) (.tuple (ss.map PyData.int))=some (.tuple (.int k::ss.map PyData.int)):=uC (a:=[.int k]) (by rw [List.length_map]; show 1 + ss.length≤1000000; omega)
      have ei:PyData.tuple (.int k::ss.map PyData.int)=ao (k::ss):=rfl
      have hg:=dS (ss:=k::ss) (m:=m) l1 l6 hok
      have t1:bp [] 2 (g2 bb (fj (af (ah 3) ar)) (ah 2)) [some (av es),some (.int m),some (ao ss),some (.int k)]=.nx [some (av es),some (.int m),some (ao (k::ss)),some (.int k)]:=by
        rw [dk,if_pos (by simp)]
        simp only [cF,j9,aO,aX,az,aA,Rs.aj,ao,ha,Rs.aq,aE]
        rfl
      have t2:bp [] 3 (ay aN (af (ah 0) (af (ah 2) (af (ah 1) ar)))) [some (av es),some (.int m),some (ao (k::ss)),some (.int k)]=.nx [some (av es),some (.int m),some (ao (k::ss)),some (bO (eB es (k::ss) m))]:=by
        rw [dk,if_pos (by simp)]
        simp only [bu,aO,aX,az,aA,Rs.aj,hg,aE]
        rfl
      have hb:we [some (av es),some (.int m),some (ao ss),some (.int k)]=.nx [some (av es),some (.int m),some (ao (k::ss)),some (bO (eB es (k::ss) m))]:=by
        unfold we
        rw [aZ,t1]; simp only
        rw [t2]
      have ht:tR [some (av es),some (.int m),some (ao ss),some (bO (some k))]=.ok true:=by
        simp only [tR,bO,kB,sM,az,aA,Rs.aj,A9,y0,Rs.aq,c7,Bool.not_false]
      rw [ht,aE,if_pos rfl,show bO (some k)=PyData.int k from rfl,hb]
      exact e
noncomputable def aW:Gf
  | [d,.int m]=>if nM d then .ok (ao (eL (bN d) m)) else .no
  | _=>.no
theorem fz {es:List Er} {m:Int} (h1:1≤es.length) (h2:es.length≤6) (h:∀ e∈es,e.Wk):aW [av es,.int m]=.ok (ao (eL es m)):=by
  unfold aW
  simp only [k9 h1 h2 h,if_true,cu]
theorem lO (cs:Cs):∀ ds,ds.length=2→aW ds≠.no→aV (cT cs aN (ds.map some++List.replicate 2 none))=aW ds:=by
  intro ds hl hne
  obtain ⟨d,m,ez,hz⟩:=wZ hne
  clear hne; subst ez; have hne:=hz; clear hz
  · skip
    split at hne
    · rename_i hc
      obtain ⟨e1,l1,l6,hok⟩:=qc hc
      rw [← e1]
      generalize bN d=es at *
      rw [fz l1 l6 hok]
      obtain ⟨x3,e⟩:=xE (m:=m) l1 l6 hok (es.length + 1) 1000000 [] (Pld.nil es m) (by simp) (by omega)
      have hg:=dS (ss:=[]) (m:=m) l1 l6 hok
      have s1:bp [] 2 (fj ar) [some (av es),some (.int m),none,none]=.nx [some (av es),some (.int m),some (ao []),none]:=rfl
      have s2:bp [] 3 (ay aN (af (ah 0) (af (ah 2) (af (ah 1) ar)))) [some (av es),some (.int m),some (ao []),none]=.nx [some (av es),some (.int m),some (ao []),some (bO (eB es [] m))]:=by
        rw [dk,if_pos (by simp)]
        simp only [bu,aO,aX,az,aA,Rs.aj,hg,aE]
        rfl
      show aV (cT cs aN [some (av es),some (.int m),none,none])=_
      simp only [cT]
      rw [aZ,s1]; simp only
      rw [aZ,s2]; simp only
      rw [aZ]
      have e':cX (gT (g1 fv (ah 3))) (bj (bp [] 2 (g2 bb (fj (af (ah 3) ar)) (ah 2))) (bp [] 3 (ay aN (af (ah 0) (af (ah 2) (af (ah 1) ar)))))) 1000000 [some (av es),some (.int m),some (ao []),some (bO (eB es [] m))]=_:=e
      rw [e']
      rfl
    · exact absurd rfl hne
noncomputable def rwR (es:List Er) (m:Int):Option (List Int):=if (eL es m).length=es.length then some (eL es m) else none
noncomputable def sV:Option (List Int)→PyData
  | none=>.none
  | some rs=>ao rs
noncomputable def a6:Gf
  | [d,.int m]=>if nM d then .ok (sV (rwR (bN d) m)) else .no
  | _=>.no
theorem gp {es:List Er} {m:Int} (h1:1≤es.length) (h2:es.length≤6) (h:∀ e∈es,e.Wk):a6 [av es,.int m]=.ok (sV (rwR es m)):=by
  unfold a6
  simp only [k9 h1 h2 h,if_true,cu]
theorem mS (cs:Cs):∀ ds,ds.length=2→a6 ds≠.no→aV (dm cs aW (ds.map some++List.replicate 1 none))=a6 ds:=by
  intro ds hl hne
  obtain ⟨d,m,ez,hz⟩:=wZ hne
  clear hne; subst ez; have hne:=hz; clear hz
  · skip
    split at hne
    · rename_i hc
      obtain ⟨e1,l1,l6,hok⟩:=qc hc
      rw [← e1]
      generalize bN d=es at *
      rw [gp l1 l6 hok]
      have hg:=fz (m:=m) l1 l6 hok
      have ll:∀ rs:List Int,eN [ao rs]=some (.int (rs.length:Int)):=fun rs=>by unfold ao; rw [tE,List.length_map]
      have s1:bp [] 2 (ay aW (af (ah 0) (af (ah 1) ar))) [some (av es),some (.int m),none]=.nx [some (av es),some (.int m),some (ao (eL es m))]:=by
        rw [dk,if_pos (by simp)]
        simp only [bu,aO,aX,az,aA,Rs.aj,hg,aE]
        rfl
      show aV (dm cs aW [some (av es),some (.int m),none])=_
      simp only [dm]
      rw [aZ,s1]; simp only
      unfold rwR
      by_cases z:(eL es m).length=es.length
      · rw [if_pos z]
        have q:(((eL es m).length:Int) == (es.length:Int))=true:=by simp [z]
        simp only [cN,gIf,kB,cF,nG,aO,aX,az,aA,Rs.aj,ll,By,Rs.aq,rO,q,c7,if_true,aE,bV]
        rfl
      · rw [if_neg z]
        have q:(((eL es m).length:Int) == (es.length:Int))=false:=by
          have:¬ (((eL es m).length:Int)=(es.length:Int)):=by omega
          simpa using this
        simp only [cN,gIf,kB,cF,nG,aO,aX,az,aA,dB,Rs.aj,ll,By,Rs.aq,rO,q,c7,Bool.false_eq_true,if_false,aE,bV]
        rfl
    · exact absurd rfl hne
noncomputable def lE (es:List Er) (rs:List Int) (m:Int):Bool:=rs.all fun n=>cJ es rs n m
theorem vS (es:List Er) (rs:List Int):lE es rs 0=dO es rs:=by
  unfold lE dO
  simp only [vh]
theorem wu {es:List Er} {rs ot:List Int} {n m:Int} (h:bL es rs n=bL es ot n):cJ es rs n m=cJ es ot n m:=by
  unfold cJ; rw [h]
theorem qZ {es:List Er} {rs ot:List Int} {n m:Int} (h:vz (bL es ot n) (bL es rs n)) (hr:cJ es rs n m=true):cJ es ot n m=true:=by
  unfold cJ at hr ⊢
  cases q:bL es rs n with
  | none=>rw [q] at hr; cases hr
  | some t =>
    rw [q] at hr
    obtain ⟨u,hu,hle⟩:=h t q
    rw [hu]
    have:=of_decide_eq_true hr
    exact decide_eq_true (by omega)
theorem vk {es:List Er} {m:Int} {rs:List Int} (h:Pld es m rs) (hl:rs.length=es.length):bx es.length rs∧lE es rs m=true:=by
  have hp:=h.pp
  have h0:bI es.length rs=[]:=List.eq_nil_of_length_eq_zero (by have:=hp.len; omega)
  have hr:bx es.length rs:=by
    rw [← qK]
    unfold PP at hp
    rw [h0] at hp
    exact hp
  refine ⟨hr,?_⟩
  unfold lE
  rw [List.all_eq_true]
  intro k hk
  have hkr:=hr.rng k hk
  have hs:=kZ hk
  have hm:=h.rm _ _ _ hs
  generalize hB:rs.drop (placeOf rs k + 1)=B at *
  generalize hA:rs.take (placeOf rs k)=A at *
  have nd:=hr.nd
  rw [hs] at nd
  have ndA:=(List.nodup_append.mp nd)
  have hkB:k ∉ B:=(List.nodup_cons.mp ndA.2.1).1
  have hkA:k ∉ A:=fun z=>ndA.2.2 k z k List.mem_cons_self rfl
  have hkn:k∈bI es.length B:=d7.mpr ⟨hkr,hkB⟩
  have ho:=kS (n:=es.length) (ic es.length B) (fun x hx=>(d7.mp hx).1) hkn
  have hsa:=wC hr ho hkr.1 hkr.2 (by
    rw [qm,hA]
    refine (List.perm_ext_iff_of_nodup ndA.1 ((ic es.length B).filter _)).mpr fun a=>?_
    rw [List.mem_filter,d7]
    constructor
    · intro ha
      have har:a∈rs:=by rw [hs]; exact List.mem_append_left _ ha
      refine ⟨⟨hr.rng a har,fun z=>ndA.2.2 a ha a (List.mem_cons_of_mem _ z) rfl⟩,?_⟩
      refine decide_eq_true fun e=>hkA (e ▸ ha)
    · rintro ⟨⟨har,hb⟩,hne⟩
      have hne':=of_decide_eq_true hne
      have ham:a∈rs:=hr.mem har.1 har.2
      rw [hs] at ham
      rcases List.mem_append.mp ham with z | z
      · exact z
      · rcases List.mem_cons.mp z with z | z
        · exact absurd z hne'
        · exact absurd z hb)
  rw [wu hsa.2.2]
  exact hm
theorem yY {es:List Er} {m:Int} {ss rs:List Int} (hsh:∀ e∈es,e.Sh) (hl:∀ e∈es,0≤e.late) (h:∀ k∈bI es.length ss,cJ es (gw es.length (bI es.length ss) k) k m=false) (hr:bx es.length rs) {k:Int} (hk:(rs.filter fun n=>decide (n∈bI es.length ss)).getLast?=some k):cJ es rs k m=false:=by
  have hkm:=List.mem_filter.mp (List.mem_of_getLast? hk)
  have hkn:k∈bI es.length ss:=of_decide_eq_true hkm.2
  have hkr:=hr.rng k hkm.1
  cases q:cJ es rs k m with
  | false=>rfl
  | true =>
    exfalso
    have ho:=kS (n:=es.length) (ic es.length ss) (fun x hx=>(d7.mp hx).1) hkn
    have hs:=kZ hkm.1
    generalize hB:rs.drop (placeOf rs k + 1)=B at *
    generalize hA:rs.take (placeOf rs k)=A at *
    have nd:=hr.nd
    rw [hs] at nd
    have ndA:=(List.nodup_append.mp nd)
    have hkA:k ∉ A:=fun z=>ndA.2.2 k z k List.mem_cons_self rfl
    have hkB:k ∉ B:=(List.nodup_cons.mp ndA.2.1).1
    have hnB:∀ x∈B,x ∉ bI es.length ss:=by
      rw [hs,List.filter_append,List.filter_cons_of_pos (by simpa using hkn)] at hk
      intro x hx hxn
      have hxf:x∈B.filter fun n=>decide (n∈bI es.length ss):=List.mem_filter.mpr ⟨hx,decide_eq_true hxn⟩
      have hsub:∀ y∈B.filter (fun n=>decide (n∈bI es.length ss)),y∈B:=fun y hy=>(List.mem_filter.mp hy).1
      generalize (B.filter fun n=>decide (n∈bI es.length ss))=C at *
      cases C with
      | nil=>cases hxf
      | cons c C =>
        rw [List.getLast?_append] at hk
        have hne:(k::c::C).getLast?=(c::C).getLast?:=by simp
        rw [hne] at hk
        obtain ⟨z,hz⟩:∃ z,(c::C).getLast?=some z:=by
          cases w:(c::C).getLast? with
          | none=>simp at w
          | some z=>exact ⟨z,rfl⟩
        rw [hz] at hk
        simp at hk
        subst hk
        exact hkB (hsub _ (List.mem_of_getLast? hz))
    have hf:=qX (X:=A.filter fun x=>!decide (x∈bI es.length ss)) hsh hl hr ho hkr.1 hkr.2 (by
      rw [qm,hA]
      have p1:A.Perm ((A.filter fun x=>decide (x∈bI es.length ss))++A.filter fun x=>!decide (x∈bI es.length ss)):=(List.filter_append_perm _ A).symm
      refine p1.trans (List.Perm.append_right _ ?_)
      refine (List.perm_ext_iff_of_nodup (ndA.1.filter _) ((ic es.length ss).filter _)).mpr fun a=>?_
      rw [List.mem_filter,List.mem_filter]
      constructor
      · rintro ⟨ha,hn⟩
        exact ⟨of_decide_eq_true hn,decide_eq_true fun e=>hkA (e ▸ ha)⟩
      · rintro ⟨hn,hne⟩
        have hne':=of_decide_eq_true hne
        have har:=(d7.mp hn).1
        have ham:a∈rs:=hr.mem har.1 har.2
        rw [hs] at ham
        rcases List.mem_append.mp ham with z | z
        · exact ⟨z,decide_eq_true hn⟩
        · rcases List.mem_cons.mp z with z | z
          · exact absurd z hne'
          · exact absurd hn (hnB a z))
    have:=qZ hf q
    rw [h k hkn] at this
    cases this
end RS
set_option maxRecDepth 100000
set_option maxHeartbeats 1000000
namespace RS
open PySem L2
theorem Dc {cs:Cs} {d:PyData} (hd:bS d=true) (hc:¬ cy d=true):ba cs [d]=.rz cs.NoErrands:=by unfold ba; simp [hd,hc]
noncomputable def a9 (cs:Cs):Gf
  | [d]=>if bS d then (if cy d then .ok (sV (rwR (bN d) 0)) else .rz cs.NoErrands) else .no
  | _=>.no
theorem lX {es:List Er} (cs:Cs) (h1:1≤es.length) (h2:es.length≤6) (h:∀ e∈es,e.Ok):a9 cs [av es]=.ok (sV (rwR es 0)):=by
  unfold a9; simp only [rA,fX h1 h2 h,if_true,cu]
theorem zf (cs:Cs):∀ ds,ds.length=1→a9 cs ds≠.no→aV (gz cs a6 (ba cs) (ds.map some++List.replicate 0 none))=a9 cs ds:=by
  intro ds hl hne
  obtain ⟨d,ez,hz⟩:=CL hne
  clear hne; subst ez; have hne:=hz; clear hz
  · skip
    split at hne
    · rename_i hd
      split at hne
      · rename_i hc
        obtain ⟨e1,l1,l6,hok⟩:=jN hc
        rw [← e1]
        generalize bN d=es at *
        rw [lX cs l1 l6 hok]
        have h1:=l7 cs l1 l6 hok
        have h2:=gp (m:=0) l1 l6 (fun e he=>(hok e he).wk)
        show aV (gz cs a6 (ba cs) [some (av es)])=_
        simp only [gz,aZ,xK,bu,aO,aX,az,dB,Rs.aj,h1,aE,cN,h2,bV]
      · rename_i hc
        have h1:=Dc (cs:=cs) hd hc
        have h2:a9 cs [d]=.rz cs.NoErrands:=by unfold a9; simp [hd,hc]
        rw [h2]
        show aV (gz cs a6 (ba cs) [some d])=_
        simp [gz,h1]
    · exact absurd rfl hne
theorem yw {n:Nat} {ss rs:List Int} (hr:bx n rs) (hne:bI n ss≠[]):∃ k,(rs.filter fun x=>decide (x∈bI n ss)).getLast?=some k:=by
  cases q:(rs.filter fun x=>decide (x∈bI n ss)).getLast? with
  | some k=>exact ⟨k,rfl⟩
  | none =>
    exfalso
    have e:=List.getLast?_eq_none_iff.mp q
    obtain ⟨s,hs⟩:=List.exists_mem_of_ne_nil _ hne
    have h2:=(d7.mp hs).1
    exact List.filter_eq_nil_iff.mp e s (hr.mem h2.1 h2.2) (decide_eq_true hs)
theorem AX {α:Type} {p:α→Bool} {l:List α} {a:α} (ha:a∈l) (h:p a=false):l.all p=false:=by
  cases q:l.all p with
  | false=>rfl
  | true=>rw [List.all_eq_true] at q; rw [q a ha] at h; cases h
theorem Bb {es:List Er} {m:Int} {rs:List Int} (h:rwR es m=some rs):bx es.length rs∧lE es rs m=true:=by
  unfold rwR at h
  split at h
  · rename_i z
    cases h
    exact vk (mi es m).1 z
  · cases h
theorem Bt {es:List Er} {m:Int} (z:¬ (eL es m).length=es.length):bI es.length (eL es m)≠[]:=fun e=>z (by
  have:=(mi es m).1.pp.len
  rw [e] at this
  simpa using this)
theorem Bi {es:List Er} {m:Int} (hsh:∀ e∈es,e.Sh) (hl:∀ e∈es,0≤e.late) (h:rwR es m=none) {rs:List Int} (hr:bx es.length rs):lE es rs m=false:=by
  unfold rwR at h
  split at h
  · cases h
  · rename_i z
    obtain ⟨k,hk⟩:=yw hr (Bt z)
    have hkm:=(List.mem_filter.mp (List.mem_of_getLast? hk)).1
    exact AX hkm (yY hsh hl (zW (mi es m).2) hr hk)
theorem Dx (cs:Cs):BJ (a9 cs):=⟨fun es l1 l6 hok=>by
  rw [lX cs l1 l6 hok]
  cases q:rwR es 0 with
  | some rs =>
    obtain ⟨hr,ha⟩:=Bb q
    exact .inl ⟨rs,rfl,hr,by rw [← vS]; exact ha⟩
  | none=>exact .inr ⟨rfl,fun rs hr=>by rw [← vS]; exact Bi (fun e he=>(hok e he).sh) (fun e he=>(hok e he).l1) q hr⟩⟩
end RS
set_option maxRecDepth 100000
set_option maxHeartbeats 1000000
namespace RS
open PySem L2
noncomputable def cx:Gf
  | [d,r]=>if nM d && cE (bN d).length r then .ok (.bool (dO (bN d) (bQ r))) else .no
  | _=>.no
theorem jX {es:List Er} {rs:List Int} (h1:1≤es.length) (h2:es.length≤6) (h:∀ e∈es,e.Wk) (hr:bx es.length rs):cx [av es,ao rs]=.ok (.bool (dO es rs)):=by
  unfold cx
  simp only [k9 h1 h2 h,cu,cP hr,Bool.and_self,if_true,cw]
theorem AL (cs:Cs):∀ ds,ds.length=2→cx ds≠.no→aV (lp cs bW (ds.map some++List.replicate 0 none))=cx ds:=by
  intro ds hl hne
  obtain ⟨d,r,ez,hz⟩:=wX hne
  clear hne; subst ez; have hne:=hz; clear hz
  · skip
    split at hne
    · rename_i hc
      simp only [Bool.and_eq_true] at hc
      obtain ⟨c1,c2⟩:=hc
      obtain ⟨e1,l1,l6,hok⟩:=qc c1
      obtain ⟨e2,hr⟩:=en c2
      rw [← e1,← e2]
      generalize bN d=es at *
      generalize bQ r=rs at *
      rw [jX l1 l6 hok hr]
      have hrl:=hr.len
      have hcm:cq 2 (dR (ah 1)) cW (ay bW (af (ah 0) (af (ah 1) (af (ah 2) ar)))) bU [some (av es),some (ao rs)]=.ok ((rs.map PyData.int).map fun d=>.bool (dQ es rs (deI d))) :=
        eK rfl rfl (by rw [List.length_map]; omega) fun x hx=>by
          obtain ⟨n,hn,rfl⟩:=List.mem_map.mp hx
          have hrg:=hr.rng n hn
          have hg:=jA (n:=n) l1 l6 hok hr hrg.1 hrg.2
          simp only [List.cons_append,List.nil_append,bu,aO,aX,az,aA,Rs.aj,hg]
          rfl
      have em:((rs.map PyData.int).map fun d=>PyData.bool (dQ es rs (deI d)))=(rs.map fun n=>dQ es rs n).map PyData.bool:=by
        rw [List.map_map,List.map_map]; exact List.map_congr_left fun n _=>rfl
      rw [em] at hcm
      have hf:tD [.list ((rs.map fun n=>dQ es rs n).map PyData.bool)]=some (.bool (dO es rs)):=by
        show (iC _).map _=_
        rw [mq]
        simp only [Option.map_some,List.all_map]
        rfl
      show aV (lp cs bW [some (av es),some (ao rs)])=_
      simp only [lp,cN,nG,aO,aX,tG,hcm,Rs.aj,hf,Rs.aq,aE,bV]
    · exact absurd rfl hne
noncomputable def bB:Gf
  | [.tuple xs,.int a,e]=>if 0≤a∧a < xs.length∧xs.length≤1000 then .ok (.tuple (xs.take a.toNat++e::xs.drop (a.toNat + 1))) else .no
  | _=>.no
theorem i7 {xs:List PyData} {k:Nat} {e:PyData} (h:k < xs.length) (h2:xs.length≤1000):bB [.tuple xs,.int (k:Int),e]=.ok (.tuple (xs.take k++e::xs.drop (k + 1))):=by
  unfold bB
  simp only
  rw [if_pos (by omega),Int.toNat_natCast]
theorem BI {f:List PyData→Int→PyData→Rs PyData} {ds:List PyData} (h:(match ds with | [.tuple x0,.int x1,x2]=>f x0 x1 x2 | _=>.no)≠.no):∃ x0 x1 x2,ds=[.tuple x0,.int x1,x2]∧f x0 x1 x2≠.no:=by
  rcases ds with _ | ⟨x0,_ | ⟨x1,_ | ⟨x2,_ | ⟨y,ys⟩⟩⟩⟩
  · exact absurd rfl h
  · first | exact absurd rfl h | (cases x0 <;> exact absurd rfl h)
  · first | exact absurd rfl h | (cases x0 <;> first | exact absurd rfl h | (cases x1 <;> exact absurd rfl h))
  · skip
    cases x0 with
    | tuple x0 =>
      cases x1 with
      | int x1 =>
        exact ⟨_,_,_,rfl,h⟩
      | _=>exact absurd rfl h
    | _=>first | exact absurd rfl h | (cases x1 <;> exact absurd rfl h)
  · first | exact absurd rfl h | (cases x0 <;> first | exact absurd rfl h | (cases x1 <;> exact absurd rfl h))
theorem qY (cs:Cs):∀ ds,ds.length=3→bB ds≠.no→aV (fb cs (ds.map some++List.replicate 0 none))=bB ds:=by
  intro ds hl hne
  obtain ⟨xs,a,e,ez,hz⟩:=BI hne
  clear hne; subst ez; have hne:=hz; clear hz
  · skip
    split at hne
    · rename_i hc
      obtain ⟨k,rfl⟩:∃ k:Nat,a=(k:Int):=⟨a.toNat,by omega⟩
      rw [i7 (by omega) hc.2.2]
      have c1:cutD xs none (some (k:Int))=xs.take k:=p8
      have c2:cutD xs (some ((k:Int) + 1)) none=xs.drop (k + 1):=by rw [show ((k:Int) + 1)=((k + 1:Nat):Int) by omega,ng]
      have a1:bb (.tuple (xs.take k)) (.tuple [e])=some (.tuple (xs.take k++[e])):=uC (by simp; omega)
      have a2:bb (.tuple (xs.take k++[e])) (.tuple (xs.drop (k + 1)))=some (.tuple (xs.take k++[e]++xs.drop (k + 1))):=uC (by simp; omega)
      show aV (fb cs [some (.tuple xs),some (.int (k:Int)),some e])=_
      simp only [fb,cN,cF,fT,eU,h9,j9,aO,aX,dB,az,aA,Rs.aj,hW,jW,c1,c2,dD,Rs.aq,a1,a2,aE,bV,List.append_assoc,List.cons_append,List.nil_append]
    · exact absurd rfl hne
theorem qI {es:List Er} {n:Int} {e:Er} (n0:0≤n) (n1:n < es.length) (h2:es.length≤6):bB [av es,.int n,e.d]=.ok (av (es.set n.toNat e)):=by
  obtain ⟨k,rfl⟩:∃ k:Nat,n=(k:Int):=⟨n.toNat,by omega⟩
  rw [Int.toNat_natCast]
  unfold av
  rw [i7 (by rw [List.length_map]; omega) (by rw [List.length_map]; omega),mR es k e (by omega),List.map_append,List.map_cons,List.map_take,List.map_drop]
noncomputable def a7:Gf
  | [d,.int n,.int m]=>if cy d && decide (0≤n) && decide (n < (bN d).length) then .ok (av (grown (bN d) n m)) else .no
  | _=>.no
theorem gm {es:List Er} {n m:Int} (h1:1≤es.length) (h2:es.length≤6) (h:∀ e∈es,e.Ok) (n0:0≤n) (n1:n < es.length):a7 [av es,.int n,.int m]=.ok (av (grown es n m)):=by
  unfold a7; simp [fX h1 h2 h,cu,n0,n1]
theorem nz (cs:Cs):∀ ds,ds.length=3→a7 ds≠.no→aV (dh cs bB (ds.map some++List.replicate 3 none))=a7 ds:=by
  intro ds hl hne
  obtain ⟨d,n,m,ez,hz⟩:=lu hne
  clear hne; subst ez; have hne:=hz; clear hz
  · skip
    split at hne
    · rename_i hc
      simp only [Bool.and_eq_true,decide_eq_true_eq] at hc
      obtain ⟨⟨c1,n0⟩,n1⟩:=hc
      obtain ⟨e1,l1,l6,hok⟩:=jN c1
      rw [← e1]
      generalize bN d=es at *
      rw [gm l1 l6 hok n0 n1]
      have hoe:=hok _ (b4 n0 n1)
      have a3:dIx (av es) (.int n)=some (aK es n).d:=ee n0 n1
      have hwe:∀ e:Er,bB [av es,.int n,e.d]=.ok (av (es.set n.toNat e)):=fun e=>qI n0 n1 l6
      unfold grown
      generalize hE:aK es n=e at *
      obtain ⟨p,hp1⟩:∃ p,e.parts.getLast?=some p:=by
        cases q:e.parts.getLast? with
        | none=>exact absurd (List.getLast?_eq_none_iff.mp q) hoe.p1
        | some p=>exact ⟨p,rfl⟩
      have hpn:=hoe.p2
      have hp2:p.2=none:=hoe.la p hp1
      have i3:dIx e.d (.int 3)=some (.tuple (e.parts.map aT)):=rfl
      have hl1:dIx (.tuple (e.parts.map aT)) (.int (-1))=some (aT p):=by
        show atI _ (-1)=_
        rw [ju,List.getLast?_map,hp1]; rfl
      have q0:dIx (aT p) (.int 0)=some (.int p.1):=rfl
      have q1:dIx (aT p) (.int 1)=some .none:=by
        show some (bO p.2)=_
        rw [hp2]; rfl
      have ha:bb (.tuple ((e.parts.map aT).dropLast)) (.tuple [.tuple [.int (p.1 + m),.none]])=some (.tuple ((e.parts.map aT).dropLast++[.tuple [.int (p.1 + m),.none]])):=uC (by rw [List.length_dropLast,List.length_map]; simp; omega)
      have hd:(ip e m).d=.tuple [.int e.every,.int e.due,.int e.late,.tuple ((e.parts.map aT).dropLast++[.tuple [.int (p.1 + m),.none]])]:=by
        unfold ip Er.d
        simp only [hp1,Option.getD_some,List.map_append,List.map_cons,List.map_nil,List.map_dropLast]
        rfl
      have c3:yZ e.d none (some 3)=some (.tuple [.int e.every,.int e.due,.int e.late]):=by
        show yZ (.tuple [.int e.every,.int e.due,.int e.late,.tuple (e.parts.map aT)]) none (some 3)=_
        rw [jW,show (3:Int)=((3:Nat):Int) from rfl,p8]
        rfl
      have s1:bp [] 3 (g2 dIx (ah 0) (ah 1)) [some (av es),some (.int n),some (.int m),none,none,none]=.nx [some (av es),some (.int n),some (.int m),some e.d,none,none]:=by
        rw [dk,if_pos (by simp)]
        simp only [cF,az,aA,Rs.aj,a3,Rs.aq,aE]
        rfl
      have s2:bp [] 4 (g2 dIx (g2 dIx (ah 3) (gC (.int 3))) (g1 iR (gC (.int 1)))) [some (av es),some (.int n),some (.int m),some e.d,none,none]=.nx [some (av es),some (.int n),some (.int m),some e.d,some (aT p),none]:=by
        rw [dk,if_pos (by simp)]
        simp only [cF,sM,dB,az,aA,Rs.aj,i3,vV,Rs.aq,hl1,aE]
        rfl
      have s3:bp [] 5 (g2 bb (c8 (g2 dIx (ah 3) (gC (.int 3))) cB (eX (g1 iR (gC (.int 1))))) (fj (af (fj (af (g2 bb (g2 dIx (ah 4) (gC (.int 0))) (ah 2)) (af (g2 dIx (ah 4) (gC (.int 1))) ar))) ar))) [some (av es),some (.int n),some (.int m),some e.d,some (aT p),none]=.nx [some (av es),some (.int n),some (.int m),some e.d,some (aT p),some (.tuple ((e.parts.map aT).dropLast++[.tuple [.int (p.1 + m),.none]]))]:=by
        rw [dk,if_pos (by simp)]
        simp only [cF,sM,dB,fT,eU,h9,j9,aO,aX,az,aA,Rs.aj,i3,vV,Rs.aq,hW,jW,vA,q0,q1,dD,ha,aE]
        rfl
      have a4:bb (.tuple [.int e.every,.int e.due,.int e.late]) (.tuple [.tuple ((e.parts.map aT).dropLast++[.tuple [.int (p.1 + m),.none]])])=some (ip e m).d:=by
        rw [hd]; exact uC (by simp)
      show aV (dh cs bB [some (av es),some (.int n),some (.int m),none,none,none])=_
      simp only [dh]
      rw [aZ,s1]; simp only
      rw [aZ,s2]; simp only
      rw [aZ,s3]; simp only
      simp only [cN,bu,cF,fT,eU,h9,j9,aO,aX,dB,az,aA,Rs.aj,hW,c3,Rs.aq,a4,hwe,aE,bV]
    · exact absurd rfl hne
theorem xN {E R N:PyData} {test:Ds→Rs Bool} {f:Int→Bool} {B:Int} (ht:∀ t,0≤t→t≤B→test [some E,some R,some N,some (.int t)]=.ok (f (t + 1))) (hB:f (B + 1)=false):∀ (j fuel:Nat) (t:Int),0≤t→t≤B→B - t≤j→j < fuel →
    ∃ a,t≤a∧a≤B∧cX test (tT [] 3 (gC (.int 1))) fuel [some E,some R,some N,some (.int t)]=.nx [some E,some R,some N,some (.int a)]∧f (a + 1)=false∧∀ s,t < s→s≤a→f s=true
  | j,0,t,_,_,_,hf=>absurd hf (Nat.not_lt_zero _)
  | 0,fuel + 1,t,t0,t1,hj,hf=>by
    have e:t=B:=by omega
    refine ⟨t,by omega,t1,?_,by rw [e]; exact hB,fun s a b=>by omega⟩
    unfold cX
    rw [ht t t0 t1,e,hB,aE,if_neg (by decide)]
  | j + 1,fuel + 1,t,t0,t1,hj,hf=>by
    unfold cX
    rw [ht t t0 t1]
    cases q:f (t + 1) with
    | false =>
      refine ⟨t,by omega,t1,?_,q,fun s a b=>by omega⟩
      rw [aE,if_neg (by decide)]
    | true =>
      have hlt:t < B:=by
        rcases Int.lt_or_eq_of_le t1 with z | z
        · exact z
        · rw [z,hB] at q; cases q
      obtain ⟨a,h1,h2,h3,h4,h5⟩:=xN ht hB j fuel (t + 1) (by omega) (by omega) (by omega) (by omega)
      refine ⟨a,by omega,h2,?_,h4,fun s z u=>?_⟩
      · rw [aE,if_pos rfl,yi (a:=t) (b:=1) rfl rfl]
        exact h3
      · by_cases w:s=t + 1
        · rw [w]; exact q
        · exact h5 s (by omega) u
theorem uU {es:List Er} {n m:Int} (hok:∀ e∈es,e.Ok) (n0:0≤n) (n1:n < es.length) (m0:0≤m) (m1:m≤100000):∀ e∈grown es n m,e.Wk:=fun e he=>by
  have hoe:=hok _ (b4 n0 n1)
  rcases List.mem_or_eq_of_mem_set he with z | z
  · exact (hok e z).wk
  · rw [z]
    have hs:=pz hoe m0 m1
    have hpn:=hoe.p2
    refine ⟨hs,hoe.e2,hoe.l1,?_,fun p hp=>?_,?_⟩
    · have:1≤(aK es n).parts.length:=List.length_pos_iff.mpr hoe.p1
      show (_++[_]).length≤4
      rw [List.length_append,List.length_dropLast]; simp; omega
    · refine ⟨?_,(hs.pl p hp).2.1⟩
      rcases List.mem_append.mp (show p∈(aK es n).parts.dropLast++[_] from hp) with w | w
      · exact (hoe.pl p (List.dropLast_subset _ w)).1
      · cases List.mem_singleton.mp w
        obtain ⟨q,hq⟩:∃ q,(aK es n).parts.getLast?=some q:=by
          cases u:(aK es n).parts.getLast? with
          | none=>exact absurd (List.getLast?_eq_none_iff.mp u) hoe.p1
          | some q=>exact ⟨q,rfl⟩
        have:=(hoe.pl q (List.mem_of_getLast? hq)).1
        show 1≤((aK es n).parts.getLast?.getD (0,none)).1 + m
        rw [hq]
        show 1≤q.1 + m
        omega
    · show _++[_]≠[]
      simp
theorem jx (es:List Er) (n m:Int):(grown es n m).length=es.length:=by unfold grown; rw [List.length_set]
theorem o4 {es:List Er} {rs:List Int} {n t:Int} (hwk:∀ e∈es,e.Wk) (hr:bx es.length rs) (n0:0≤n) (n1:n < es.length) (h:bL es rs n=some t):(aK es n).work≤t:=by
  rw [hV] at h
  obtain ⟨h1,_,h3,_⟩:=fY h
  have h3':=of_decide_eq_true h3
  unfold dz at h3'
  have hp:=pS es rs n
  have hs:=gy (fun m=>(aK es m).times t * (aK es m).work) (rs.take (placeOf rs n)) fun m hm=>by
    have hm':=hr.rng m (List.mem_of_mem_take hm)
    have ho:=hwk _ (b4 hm'.1 hm'.2)
    have l0:=ho.l1
    exact Int.mul_nonneg (Er.times_pos ho.sh.e1 (by omega)) ho.sh.work_b.1
  omega
theorem zw {es:List Er} {rs:List Int} {n m:Int} (hok:∀ e∈es,e.Ok) (hr:bx es.length rs) (n0:0≤n) (n1:n < es.length) (m0:60≤m) (m1:m≤100000):dO (grown es n m) rs=false:=by
  have hoe:=hok _ (b4 n0 n1)
  have hwk:=uU (m:=m) hok n0 n1 (by omega) m1
  have hr':bx (grown es n m).length rs:=by rw [jx]; exact hr
  refine AX (hr.mem n0 n1) ?_
  unfold dQ
  cases q:bL (grown es n m) rs n with
  | none=>rfl
  | some t =>
    have hw:=o4 hwk hr' n0 (by rw [jx]; exact n1) q
    have he:aK (grown es n m) n=ip (aK es n) m:=zc n0 n1
    rw [he] at hw ⊢
    have hsh:=pz (m:=m) hoe (by omega) m1
    have hpl:=hsh.part_le (p:=(((aK es n).parts.getLast?.getD (0,none)).1 + m,none)) (List.mem_append_right _ (List.mem_singleton.mpr rfl))
    obtain ⟨p,hp⟩:∃ p,(aK es n).parts.getLast?=some p:=by
      cases u:(aK es n).parts.getLast? with
      | none=>exact absurd (List.getLast?_eq_none_iff.mp u) hoe.p1
      | some p=>exact ⟨p,rfl⟩
    have hp1:=(hoe.pl p (List.mem_of_getLast? hp)).1
    rw [hp] at hpl
    have hpl':p.1 + m≤(ip (aK es n) m).work:=hpl
    have hd:(ip (aK es n) m).due=(aK es n).due:=rfl
    have:=hoe.d2; have:=hoe.e2; have:=hoe.l1
    exact decide_eq_false (by rw [hd]; omega)
theorem DC {es:List Er} {n:Int} (hok:∀ e∈es,e.Ok) (n0:0≤n) (n1:n < es.length):grown es n 0=es:=by
  have hoe:=hok _ (b4 n0 n1)
  obtain ⟨p,hp⟩:∃ p,(aK es n).parts.getLast?=some p:=by
    cases u:(aK es n).parts.getLast? with
    | none=>exact absurd (List.getLast?_eq_none_iff.mp u) hoe.p1
    | some p=>exact ⟨p,rfl⟩
  have hp2:=hoe.la p hp
  have hg:ip (aK es n) 0=aK es n:=by
    unfold ip
    rw [hp]
    have:(((some p).getD (0,none)).1 + 0,(none:Option Int))=p:=by
      obtain ⟨a,b⟩:=p
      simp at hp2 ⊢
      exact hp2.symm
    rw [this]
    have hd:(aK es n).parts.dropLast++[p]=(aK es n).parts:=by
      have hne:=hoe.p1
      have h1:=List.dropLast_concat_getLast hne
      rw [List.getLast?_eq_some_getLast hne] at hp
      rw [← Option.some.inj hp]; exact h1
    rw [hd]
  unfold grown
  rw [hg]
  unfold aK
  rw [List.getD_eq_getElem?_getD,List.getElem?_eq_getElem (by omega)]
  exact List.set_getElem_self _
noncomputable def yK (b:Bool) (f:Int→Bool) (d:PyData):Prop:=(b=false∧d=.none)∨(b=true∧∃ a:Int,0≤a∧a≤1000∧d=.int a∧f (a + 1)=false∧∀ s,0 < s→s≤a→f s=true)
theorem rL (cs:Cs) {es:List Er} {rs:List Int} {n:Int} (l1:1≤es.length) (l6:es.length≤6) (hok:∀ e∈es,e.Ok) (hr:bx es.length rs) (n0:0≤n) (n1:n < es.length) :
    ∃ d,aV (mZ cs a7 cx bM [some (av es),some (ao rs),some (.int n),none])=.ok d∧yK (dO es rs) (fun m=>dO (grown es n m) rs) d:=by
  have h1:=iV l1 l6 hok hr n0 n1
  have h2:=jX l1 l6 (fun e he=>(hok e he).wk) hr
  have s0:nB (ay bM (af (ah 0) (af (ah 1) (af (ah 2) ar)))) [some (av es),some (ao rs),some (.int n),none]=.nx [some (av es),some (ao rs),some (.int n),none]:=by
    simp only [xK,bu,aO,aX,az,aA,Rs.aj,h1,aE]
  simp only [mZ]
  rw [aZ,s0]; simp only
  rw [aZ]
  cases q:dO es rs with
  | false =>
    rw [q] at h2
    refine ⟨.none,?_,.inl ⟨rfl,rfl⟩⟩
    simp only [lY,pJ,kB,bu,aO,aX,az,aA,dB,Rs.aj,h2,c7,Bool.not_false,aE,if_true,cN,bV]
  | true =>
    rw [q] at h2
    have s1:sIf (fF (gT (ay cx (af (ah 0) (af (ah 1) ar))))) (b0 (gC .none)) b3 [some (av es),some (ao rs),some (.int n),none]=.nx [some (av es),some (ao rs),some (.int n),none]:=by
      simp only [lY,pJ,kB,bu,aO,aX,az,aA,Rs.aj,h2,c7,Bool.not_true,Bool.false_eq_true,aE,if_false,mW]
    have s2:bp [] 3 (gC (.int 0)) [some (av es),some (ao rs),some (.int n),none]=.nx [some (av es),some (ao rs),some (.int n),some (.int 0)]:=rfl
    obtain ⟨a,a0,a1,e,h4,h5⟩:=xN (E:=av es) (R:=ao rs) (N:=.int n) (f:=fun m=>dO (grown es n m) rs) (B:=100) (test:=gT (ay cx (af (ay a7 (af (ah 0) (af (ah 2) (af (g2 bb (ah 3) (gC (.int 1))) ar)))) (af (ah 1) ar)))) (fun t t0 t1=>by
        have g1:=gm (m:=t + 1) l1 l6 hok n0 n1
        have g2:=jX (es:=grown es n (t + 1)) (rs:=rs) (by rw [jx]; exact l1) (by rw [jx]; exact l6) (uU hok n0 n1 (by omega) (by omega)) (by rw [jx]; exact hr)
        simp only [kB,bu,aO,aX,cF,dB,az,aA,Rs.aj,dD,Rs.aq,g1,g2,c7]) (zw hok hr n0 n1 (by decide) (by decide)) 100 1000000 0 (by decide) (by decide) (by decide) (by decide)
    refine ⟨.int a,?_,.inr ⟨rfl,a,a0,by omega,rfl,h4,h5⟩⟩
    rw [s1]; simp only
    rw [aZ,s2]; simp only
    rw [aZ,e]
    rfl
open Classical in
noncomputable def pf (es:List Er) (rs:List Int) (n:Int):PyData:=if h:∃ d,yK (dO es rs) (fun m=>dO (grown es n m) rs) d then h.choose else .none
theorem Ab {b:Bool} {f:Int→Bool} {d d':PyData} (h:yK b f d) (h':yK b f d'):d=d':=by
  rcases h with ⟨hb,rfl⟩ | ⟨hb,a,a0,_,rfl,h1,h2⟩ <;> rcases h' with ⟨hb',rfl⟩ | ⟨hb',a',a0',_,rfl,h1',h2'⟩
  · rfl
  · rw [hb] at hb'; cases hb'
  · rw [hb] at hb'; cases hb'
  · have:a=a':=by
      rcases Int.lt_trichotomy a a' with z | z | z
      · rw [h2' (a + 1) (by omega) (by omega)] at h1; cases h1
      · exact z
      · rw [h2 (a' + 1) (by omega) (by omega)] at h1'; cases h1'
    rw [this]
theorem pF {es:List Er} {rs:List Int} {n:Int} {d:PyData} (h:yK (dO es rs) (fun m=>dO (grown es n m) rs) d):pf es rs n=d:=by
  have hx:∃ d,yK (dO es rs) (fun m=>dO (grown es n m) rs) d:=⟨d,h⟩
  unfold pf
  rw [dif_pos hx]
  exact Ab hx.choose_spec h
open Classical in
noncomputable def b8:Gf
  | [d,r,.int n]=>if okN d r n then .ok (pf (bN d) (bQ r) n) else .no
  | _=>.no
theorem oR {es:List Er} {rs:List Int} {n:Int} (h1:1≤es.length) (h2:es.length≤6) (h:∀ e∈es,e.Ok) (hr:bx es.length rs) (n0:0≤n) (n1:n < es.length):b8 [av es,ao rs,.int n]=.ok (pf es rs n):=by
  unfold b8; simp only [AJ h1 h2 h hr n0 n1,if_true,cu,cw]
theorem Cz (cs:Cs):∀ ds,ds.length=3→b8 ds≠.no→aV (mZ cs a7 cx bM (ds.map some++List.replicate 1 none))=b8 ds:=by
  intro ds hl hne
  obtain ⟨d,r,n,ez,hz⟩:=g8 hne
  clear hne; subst ez; have hne:=hz; clear hz
  · skip
    split at hne
    · rename_i hc
      obtain ⟨es,rs,rfl,rfl,_,_,l1,l6,hok,hr,n0,n1⟩:=rQ hc
      rw [oR l1 l6 hok hr n0 n1]
      obtain ⟨d,e,hd⟩:=rL cs l1 l6 hok hr n0 n1
      rw [pF hd]
      exact e
    · exact absurd rfl hne
theorem AR:wH b8:=⟨fun es rs n l1 l6 hok hr n0 n1=>by
  rw [oR l1 l6 hok hr n0 n1]
  obtain ⟨d,_,hd⟩:=rL ⟨0,0,0,0,0,0,0,0,0,0⟩ l1 l6 hok hr n0 n1
  rw [pF hd]
  rcases hd with ⟨hb,rfl⟩ | ⟨hb,a,a0,a1,rfl,h1,h2⟩
  · exact .inl ⟨hb,rfl⟩
  · refine .inr ⟨hb,a,a0,a1,rfl,?_,h1⟩
    by_cases z:a=0
    · rw [z,DC hok n0 n1]; exact hb
    · exact h2 a (by omega) (Int.le_refl _)⟩
end RS
namespace RS
open PySem L2
noncomputable def pQ (cs:Cs) (aL bE b8 ak a9 bJ a8:Gf):Ds→Sr :=
  (bj (bp [] 1 (ay a8 (af (ah 0) (af (gC (.int 8)) (af (gC (.int 4)) (af (gC (.int 18)) (af (gC (.bool true)) ar)))))))
    (bj (bp [] 2 (ay bJ (af (ah 0) (af (gC (.int 0)) (af (gF eN (af (ah 1) ar)) ar)))))
    (bj (sIf (uc (gT (g2 dGt (ay ak (af (ah 0) (af (gC (.int 6)) (af (gC (.int 4)) ar)))) (gC (.int 0)))) (gT (g1 fv (ay a9 (af (ah 1) ar))))) (bp [] 2 (ay a9 (af (ah 1) ar))) b3)
    (bj (jC [] (gv (af (gF eN (af (ah 1) ar)) ar)) (cn 3) (bj (bp [] 4 (ay b8 (af (ah 1) (af (ah 2) (af (ah 3) ar)))))
    (sIf (fF (gT (ay aL (af (ah 1) (af (ah 2) ar))))) (sIf (gT (g1 fv (ah 4))) (b0 (gC (.bool false))) b3) (bj (sIf (cOr (gT (g1 (lg "bool") (ah 4))) (cOr (fF (gT (g1 (lg "int") (ah 4)))) (gT (g2 dLt (ah 4) (gC (.int 0)))))) (b0 (gC (.bool false))) b3)
    (bj (sIf (fF (gT (ay aL (af (ay bE (af (ah 1) (af (ah 3) (af (ah 4) ar)))) (af (ah 2) ar))))) (b0 (gC (.bool false))) b3)
    (sIf (gT (ay aL (af (ay bE (af (ah 1) (af (ah 3) (af (g2 bb (ah 4) (gC (.int 1))) ar)))) (af (ah 2) ar)))) (b0 (gC (.bool false))) b3))))))
    (b0 (gC (.bool true)))))))
end RS
set_option maxRecDepth 100000
set_option maxHeartbeats 1000000
namespace RS
open PySem L2
theorem vQ (i:Int):lg "int" (.int i)=some (.bool true):=by
  unfold lg; rw [show bS (.int i)=true by unfold bS; rfl]; rfl
theorem A8 {a9:Gf} (F:BJ a9) {ns:List Int} {es:List Er} {rs:List Int} (l1:1≤es.length) (l4:es.length≤4) (hok:∀ e∈es,e.Ok) (hr:bx es.length rs) (more:Nat) :
    ∃ rs',bx es.length rs'∧sIf (uc (gT (g2 dGt (ay ak (af (ah 0) (af (gC (.int 6)) (af (gC (.int 4)) ar)))) (gC (.int 0)))) (gT (g1 fv (ay a9 (af (ah 1) ar))))) (bp [] 2 (ay a9 (af (ah 1) ar))) b3 (some (aC ns)::some (av es)::some (ao rs)::List.replicate more none)
     =.nx (some (aC ns)::some (av es)::some (ao rs')::List.replicate more none):=by
  have hm:=c9 (ns:=ns) (k:=6) (many:=4) (by decide) (by decide)
  have hin:∀ r:List Int,gI (ao r)=false:=fun _=>rfl
  rcases F.of es l1 (by omega) hok with ⟨r1,hf,hr1,_⟩ | ⟨hf,_⟩
  · by_cases z:0 < mixed ns 6 4
    · refine ⟨r1,hr1,?_⟩
      simp [hm,z,hf,hin]
    · refine ⟨rs,hr,?_⟩
      simp [hm,z]
  · refine ⟨rs,hr,?_⟩
    by_cases z:0 < mixed ns 6 4
    · simp [hm,z,hf]
    · simp [hm,z]
theorem law_holds {a9 b8:Gf} (F:BJ a9) (S:wH b8) (cs:Cs) (ns:List Int):pQ cs aL bE b8 ak a9 bJ a8 (some (aC ns)::List.replicate 4 none)=.rt (.bool true):=by
  obtain ⟨es,rs0,_,l1,l4,hok,hr0,hes,hrs⟩:=zT ns 8 18 (by decide) (by decide) (by decide)
  have hsh:∀ e∈es,e.Sh:=fun e he=>(hok e he).sh
  obtain ⟨rs,hr,s3⟩:=A8 F (ns:=ns) l1 l4 hok hr0 2
  have s1:bp [] 1 (ay a8 (af (ah 0) (af (gC (.int 8)) (af (gC (.int 4)) (af (gC (.int 18)) (af (gC (.bool true)) ar)))))) [some (aC ns),none,none,none,none]=.nx [some (aC ns),some (av es),none,none,none]:=by simp [hes]
  have s2:bp [] 2 (ay bJ (af (ah 0) (af (gC (.int 0)) (af (gF eN (af (ah 1) ar)) ar)))) [some (aC ns),some (av es),none,none,none]=.nx [some (aC ns),some (av es),some (ao rs0),none,none]:=by simp [By,hrs]
  have hv:(af (gF eN (af (ah 1) ar)) ar) [some (aC ns),some (av es),some (ao rs),none,none]=.ok [.int (es.length:Int)]:=by
    simp only [aO,aX,nG,az,aA,Rs.aj,By,Rs.aq]
  have hrg:=lK (j:=(es.length:Int)) (Int.natCast_nonneg _) (by omega)
  rw [Int.toNat_natCast] at hrg
  have src:gv (af (gF eN (af (ah 1) ar)) ar) [some (aC ns),some (av es),some (ao rs),none,none]=.ok (cm 0 es.length):=by rw [lF,hv,Rs.aj,hrg]
  have hal:=c6 (by omega) hsh hr
  obtain ⟨δ',e,x3,x4,hδ⟩:=iL (β:=Unit) (tgt:=cn 3) (body:=bj (bp [] 4 (ay b8 (af (ah 1) (af (ah 2) (af (ah 3) ar)))))
    (sIf (fF (gT (ay aL (af (ah 1) (af (ah 2) ar))))) (sIf (gT (g1 fv (ah 4))) (b0 (gC (.bool false))) b3) (bj (sIf (cOr (gT (g1 (lg "bool") (ah 4))) (cOr (fF (gT (g1 (lg "int") (ah 4)))) (gT (g2 dLt (ah 4) (gC (.int 0)))))) (b0 (gC (.bool false))) b3)
    (bj (sIf (fF (gT (ay aL (af (ay bE (af (ah 1) (af (ah 3) (af (ah 4) ar)))) (af (ah 2) ar))))) (b0 (gC (.bool false))) b3)
    (sIf (gT (ay aL (af (ay bE (af (ah 1) (af (ah 3) (af (g2 bb (ah 4) (gC (.int 1))) ar)))) (af (ah 2) ar)))) (b0 (gC (.bool false))) b3)))))
    (fun _ δ=>∃ x3 x4,δ=[some (aC ns),some (av es),some (ao rs),x3,x4]) (cm 0 es.length) 0 (fun i d δ hi pz4=>by
      obtain ⟨x3,x4,hx⟩:=pz4
      subst hx
      obtain ⟨hil,hd⟩:=ix hi
      rw [Int.zero_add] at hd
      subst hd
      have n0:(0:Int)≤(i:Int):=by omega
      have n1:(i:Int) < es.length:=by omega
      rcases S.of es rs (i:Int) l1 (by omega) hok hr n0 n1 with ⟨ha,hg⟩ | ⟨ha,a,a0,a1,hg,g1,g2⟩
      · rw [ha] at hal
        refine ⟨[some (aC ns),some (av es),some (ao rs),some (.int (i:Int)),x4],[some (aC ns),some (av es),some (ao rs),some (.int (i:Int)),some .none],rfl,?_,_,_,rfl⟩
        simp [hg,hal]
      · rw [ha] at hal
        have hoe:=hok _ (b4 n0 n1)
        have hg1:=gZ (m:=a) l1 (by omega) hok n0 n1
        have hg2:=gZ (m:=a + 1) l1 (by omega) hok n0 n1
        have hlen:∀ m,(grown es (i:Int) m).length=es.length:=fun m=>by unfold grown; rw [List.length_set]
        have q1:=c6 (es:=grown es (i:Int) a) (rs:=rs) (by rw [hlen]; omega) (A3 hsh (pz hoe a0 (by omega))) (by rw [hlen]; exact hr)
        have q2:=c6 (es:=grown es (i:Int) (a + 1)) (rs:=rs) (by rw [hlen]; omega) (A3 hsh (pz hoe (by omega) (by omega))) (by rw [hlen]; exact hr)
        rw [g1] at q1
        rw [g2] at q2
        have hlt:decide (a < 0)=false:=decide_eq_false (by omega)
        refine ⟨[some (aC ns),some (av es),some (ao rs),some (.int (i:Int)),x4],[some (aC ns),some (av es),some (ao rs),some (.int (i:Int)),some (.int a)],rfl,?_,_,_,rfl⟩
        have t1:bp [] 4 (ay b8 (af (ah 1) (af (ah 2) (af (ah 3) ar)))) [some (aC ns),some (av es),some (ao rs),some (.int (i:Int)),x4]=.nx [some (aC ns),some (av es),some (ao rs),some (.int (i:Int)),some (.int a)]:=by simp [hg]
        rw [aZ,t1]
        simp only [lY,aZ,pJ,Em,kB,bu,sM,cF,dB,aO,aX,az,aA,Rs.aj,hal,sP,vQ,FF,hlt,hg1,hg2,dD,q1,q2,Rs.aq,c7,aE,Bool.not_true,Bool.false_eq_true,if_false,if_true,mW]) [some (aC ns),some (av es),some (ao rs),none,none] ⟨none,none,rfl⟩
  show pQ cs aL bE b8 ak a9 bJ a8 [some (aC ns),none,none,none,none]=_
  have s3':=s3
  simp only [List.replicate] at s3'
  simp only [pQ]
  rw [aZ,s1]; simp only
  rw [aZ,s2]; simp only
  rw [aZ,s3']; simp only
  rw [aZ,fS,dZ,src,aE,e]
  simp only [cN,dB,aE]
theorem EY {a9 b8:Gf} (F:BJ a9) (S:wH b8) (cs:Cs):∀ ds,ds.length=1→fh 63 ds≠.no→aV (pQ cs aL bE b8 ak a9 bJ a8 (ds.map some++List.replicate 4 none))=fh 63 ds:=lawT_of (law_holds F S cs)
end RS
namespace RS
open PySem L2
theorem Ec (cs:Cs):∀ ds,ds.length=1→fh 63 ds≠.no→aV (pQ cs aL bE b8 ak (a9 cs) bJ a8 (ds.map some++List.replicate 4 none))=fh 63 ds:=EY (Dx cs) AR cs
end RS
set_option maxRecDepth 100000
set_option maxHeartbeats 4000000
namespace RS
open PySem PySem.Spec PyProof.Rows L2
noncomputable def top (i:Nat):Stmt:=PySem.Challenge.pw_ranksure_k17_whole_spare.main.body.getD i (.Pass ⟨0,0,0,0⟩)
noncomputable abbrev me:Stmt:=top 13
noncomputable abbrev mQ:Stmt:=top 14
noncomputable abbrev n6:Stmt:=top 15
noncomputable abbrev kM:Stmt:=top 16
noncomputable abbrev kW:Stmt:=top 17
noncomputable abbrev nV:Stmt:=top 18
noncomputable abbrev gX:Stmt:=top 19
noncomputable abbrev gE:Stmt:=top 20
noncomputable abbrev ji:Stmt:=top 21
noncomputable abbrev om:Stmt:=top 22
noncomputable abbrev mK:Stmt:=top 23
noncomputable abbrev qg:Stmt:=top 24
noncomputable abbrev ku:Stmt:=top 25
noncomputable abbrev my:Stmt:=top 28
noncomputable abbrev iN:Stmt:=top 29
noncomputable abbrev jQ:Stmt:=top 30
noncomputable abbrev wj:Stmt:=top 31
noncomputable abbrev lr:Stmt:=top 32
noncomputable abbrev j7:Stmt:=top 33
noncomputable abbrev fH:Stmt:=top 34
noncomputable abbrev mh:Stmt:=top 35
noncomputable abbrev j4:Stmt:=top 36
noncomputable abbrev kN:Stmt:=top 38
noncomputable abbrev km:Stmt:=top 39
noncomputable abbrev fo:Stmt:=top 40
noncomputable abbrev eZ:Stmt:=top 41
noncomputable abbrev fM:Stmt:=top 42
noncomputable abbrev oy:Stmt:=top 43
noncomputable abbrev qt:Stmt:=top 44
noncomputable abbrev je:Stmt:=top 45
noncomputable abbrev fN:Stmt:=top 46
noncomputable abbrev sN:Stmt:=top 47
noncomputable abbrev fc:Stmt:=top 49
noncomputable abbrev iW:Stmt:=top 50
noncomputable abbrev kj:Stmt:=top 51
noncomputable abbrev jd:Stmt:=top 52
noncomputable abbrev kC:Stmt:=top 53
noncomputable abbrev i8:Stmt:=top 54
noncomputable abbrev mJ:Stmt:=top 55
noncomputable abbrev mG:Stmt:=top 56
noncomputable abbrev mI:Stmt:=top 57
noncomputable abbrev ja:Stmt:=top 58
noncomputable abbrev jl:Stmt:=top 59
noncomputable abbrev lq:Stmt:=top 60
noncomputable abbrev fV:Stmt:=top 61
noncomputable abbrev rV:Stmt:=top 62
noncomputable abbrev mB:Stmt:=inClass (top 27) 0
structure Tx (K:PySem.W.Frag) (mg:Str→Option Value) (cs:Cs):Prop where
  f_is_whole:aR K mg "is_whole" me ["thing", "least", "most"]
  f_is_tuple:aR K mg "is_tuple" mQ ["thing", "fewest", "most"]
  f_is_part:aR K mg "is_part" n6 ["thing"]
  f_are_parts:aR K mg "are_parts" kM ["thing"]
  f_is_errand:aR K mg "is_errand" kW ["thing"]
  f_checked:aR K mg "checked" nV ["errands"]
  f_checked_ranks:aR K mg "checked_ranks" gX ["errands", "ranks"]
  f_checked_number:aR K mg "checked_number" gE ["errands", "number"]
  f_check_place:aR K mg "check_place" ji ["errands", "ranks", "number"]
  f_work_of:aR K mg "work_of" om ["errand"]
  f_has_tool:aR K mg "has_tool" mK ["errand", "tool"]
  f_height:aR K mg "height" qg ["errands", "ranks", "tool"]
  f_heights_of:aR K mg "heights_of" ku ["errands", "ranks"]
  f_holdings:aR K mg "holdings" my ["errands", "ranks", "number"]
  f_hold_by_high:aR K mg "hold_by_high" iN ["errands", "ranks", "number"]
  f_rounded_up:aR K mg "rounded_up" jQ ["times", "every"]
  f_need:aR K mg "need" wj ["errands", "ranks", "number", "held_up", "times"]
  f_levels_by:aR K mg "levels_by" lr ["errands", "ranks", "number", "held_up"]
  f_longest_by:aR K mg "longest_by" j7 ["errands", "ranks", "number", "held_up"]
  f_longest_by_high:aR K mg "longest_by_high" fH ["errands", "ranks", "number"]
  f_has_room:aR K mg "has_room" mh ["errands", "ranks", "number", "room"]
  f_is_in_time:aR K mg "is_in_time" j4 ["errands", "ranks", "number"]
  f_as_lowest:aR K mg "as_lowest" kN ["errands", "some", "number"]
  f_not_placed:aR K mg "not_placed" km ["errands", "placed"]
  f_following_lowest:aR K mg "following_lowest" fo ["errands", "placed", "room"]
  f_placed_from_below:aR K mg "placed_from_below" eZ ["errands", "room"]
  f_ranks_with_room:aR K mg "ranks_with_room" fM ["errands", "room"]
  f_fitting:aR K mg "fitting" oy ["errands"]
  f_do_fit:aR K mg "do_fit" qt ["errands", "ranks"]
  f_with_errand:aR K mg "with_errand" je ["errands", "number", "errand"]
  f_with_longer_end:aR K mg "with_longer_end" fN ["errands", "number", "times"]
  f_spare:aR K mg "spare" sN ["errands", "ranks", "number"]
  f_law_cell_at:aR K mg "_law_cell_at" fc ["_law_script", "_law_k"]
  f_law_mixed:aR K mg "_law_mixed" iW ["_law_script", "_law_k", "_law_many"]
  f_law_errand:aR K mg "_law_errand" kj ["_law_script", "_law_at", "_law_top", "_law_tools"]
  f_law_errands:aR K mg "_law_errands" jd ["_law_script", "_law_at", "_law_most", "_law_top", "_law_tools"]
  f_law_ranks:aR K mg "_law_ranks" kC ["_law_script", "_law_at", "_law_many"]
  f_law_heights:aR K mg "_law_heights" i8 ["_law_errands_here", "_law_ranks_here"]
  f_law_hold:aR K mg "_law_hold" mJ ["_law_errands_here", "_law_ranks_here", "_law_number"]
  f_law_work:aR K mg "_law_work" mG ["_law_errand_here"]
  f_law_need:aR K mg "_law_need" mI ["_law_errands_here", "_law_ranks_here", "_law_number", "_law_time"]
  f_law_longest:aR K mg "_law_longest" ja ["_law_errands_here", "_law_ranks_here", "_law_number"]
  f_law_in_time:aR K mg "_law_in_time" jl ["_law_errands_here", "_law_ranks_here", "_law_number"]
  f_law_grown:aR K mg "_law_grown" lq ["_law_errands_here", "_law_number", "_law_more"]
  f_law_all_in_time:aR K mg "_law_all_in_time" fV ["_law_errands_here", "_law_ranks_here"]
  f_law:aR K mg "law" rV ["_law_script"]
  b_all:mg "all"=none
  b_bool:mg "bool"=none
  b_enumerate:mg "enumerate"=none
  b_int:mg "int"=none
  b_isinstance:mg "isinstance"=none
  b_len:mg "len"=none
  b_list:mg "list"=none
  b_max:mg "max"=none
  b_min:mg "min"=none
  b_range:mg "range"=none
  b_set:mg "set"=none
  b_sum:mg "sum"=none
  b_tuple:mg "tuple"=none
  c_LEAST_EVERY:∃ t,mg "LEAST_EVERY"=some (.int 2 t)
  c_MOST_ERRANDS:∃ t,mg "MOST_ERRANDS"=some (.int 6 t)
  c_MOST_EVERY:∃ t,mg "MOST_EVERY"=some (.int 60 t)
  c_MOST_LATE:∃ t,mg "MOST_LATE"=some (.int 20 t)
  c_MOST_LENGTH:∃ t,mg "MOST_LENGTH"=some (.int 20 t)
  c_MOST_PARTS:∃ t,mg "MOST_PARTS"=some (.int 4 t)
  c_TOOLS:∃ t,mg "TOOLS"=some (.int 4 t)
  e_NoErrand:uy K mg "NoErrand" cs.NoErrand
  e_NoErrands:uy K mg "NoErrands" cs.NoErrands
  e_NoRanks:uy K mg "NoRanks" cs.NoRanks
  cl_Holding:Cls K cs.Holding
  na_Holding_number:g6 K cs.Holding "number"
  na_Holding_part:g6 K cs.Holding "part"
  na_Holding_tool:g6 K cs.Holding "tool"
  na_Holding_times:g6 K cs.Holding "times"
  mk_Holding:∃ f fd,Mk K cs.Holding f∧Fun K "__init__" "Holding.__init__" mB f fd∧Binds K fd ["self", "number", "part", "tool", "times"] []
  m_Holding:mg "Holding"=some (.ref cs.Holding)
section
variable {P:Program} {w:World} {K:PySem.W.Frag} {mg:Str→Option Value} {base:Heap} {cs:Cs}
theorem uN:aU ["self", "number", "part", "tool", "times"] ["self", "number", "part", "tool", "times"] (aB mB):=⟨rfl,rfl,rfl,by decide +kernel,rfl,by decide +kernel,by decide +kernel⟩
theorem n8 (T:Tx K mg cs):AZ P w K mg base 1 "Holding" cs.Holding ["number", "part", "tool", "times"]:=by
  obtain ⟨f,fd,M,F,b⟩:=T.mk_Holding
  refine ⟨f,fd,_,M,tH (k:=0) F uN (fun vs H Q E h=>?_) (fun cdv A outer s H vs Q E hr h=>?_),b,T.m_Holding⟩
  · obtain ⟨x,dx,args,rfl,hl,_⟩:=h
    rw [List.length_cons,hl]; rfl
  · obtain ⟨x,dx,args,rfl,hl,hx,k⟩:=h
    obtain ⟨a0,a1,a2,a3,rfl⟩:∃ a0 a1 a2 a3,args=[a0,a1,a2,a3]:=by
      cases args with
      | nil=>cases hl
      | cons a0 r0 =>
        cases r0 with
        | nil=>cases hl
        | cons a1 r1 =>
          cases r1 with
          | nil=>cases hl
          | cons a2 r2 =>
            cases r2 with
            | nil=>cases hl
            | cons a3 r3 =>
              cases r3 with
              | nil=>exact ⟨a0,a1,a2,a3,rfl⟩
              | cons _ _=>exact absurd hl (by simp)
    refine ⟨_,(iz (t6 (pv 0) (pv 1) rfl) (iz (t6 (pv 0) (pv 2) rfl) (iz (t6 (pv 0) (pv 3) rfl) (lC (t6 (pv 0) (pv 4) rfl))))),?_⟩
    refine ⟨_,rfl,_,rfl,x,cs.Holding,dx,_,rfl,hx,T.cl_Holding,T.na_Holding_number,(by show 0 < 1000; decide),_,rfl,_,rfl,x,cs.Holding,dx,_,rfl,cp,T.cl_Holding,T.na_Holding_part,(by show 1 < 1000; decide),_,rfl,_,rfl,x,cs.Holding,dx,_,rfl,cp,T.cl_Holding,T.na_Holding_tool,(by show 2 < 1000; decide),_,rfl,_,rfl,x,cs.Holding,dx,_,rfl,cp,T.cl_Holding,T.na_Holding_times,(by show 3 < 1000; decide),?_⟩
    exact k _ (fun b hb=>by rw [bw hb,bw hb,bw hb,bw hb]) (by rw [cp]; rfl)
theorem xp:aU ["_law_script", "_law_k"] ["_law_script", "_law_k"] (aB fc):=⟨rfl,rfl,rfl,by decide +kernel,rfl,by decide +kernel,by decide +kernel⟩
theorem xl {f:Addr} {fd:FuncData} (F:Fun K "_law_cell_at" "_law_cell_at" fc f fd) (bl:mg "len"=none):kq P w K mg base CX0 1 f fd ["_law_script", "_law_k"] (AU K):=by
  refine F.ok xp (fun vs H Q E h=>?_) (fun cdv A outer s H vs Q E hr h=>?_)
  · obtain ⟨a,ns,k,rfl,_⟩:=h
    rfl
  · obtain ⟨a,ns,k,rfl,hS,hk,kk⟩:=h
    refine ⟨_,iz (Ax (wt (ER (pv 1) (gN jP rfl bl PySem.boot_len (fi (pv 0) iH)))) (lC (qH (Ac sI (pv 0) (pv 1) (fun _ _=>rfl)))) tX)
      (iz (Ax (jU (wb hr.units) (pv 0) (wQ iH) (jV _)) (lC (qH jT)) tX)
      (lC (qH (fG og (fG oa (Ac sI (pv 0) (fG pT (pv 1) (gN jP rfl bl PySem.boot_len (fi (pv 0) iH))) (fun _ _=>rfl)) jT) (pv 1))))),?_⟩
    refine ⟨_,rfl,_,rfl,a,_,rfl,.inl hS,k,_,rfl,rfl,_,rfl,?_⟩
    have hlen:(ns.map V.int).length=ns.length:=List.length_map ..
    rw [hlen]
    refine E8 (fun hc=>?_) (fun hc=>?_)
    · have hc:k < (ns.length:Int):=of_decide_eq_true hc
      have hi:k.toNat < ns.length:=by omega
      refine ⟨_,rfl,_,rfl,a,_,k,.int (ns.getD k.toNat 0),rfl,rfl,hS,xD hk ?_,?_⟩
      · rw [List.getElem?_map,List.getElem?_eq_getElem hi,List.getD_eq_getElem?_getD,List.getElem?_eq_getElem hi]; rfl
      · have:=kk H (aM.refl H)
        rw [show cellAt ns k=ns.getD k.toNat 0 by unfold cellAt; rw [if_pos hc]] at this
        exact this
    · have hc:¬ k < (ns.length:Int):=fun z=>hc (decide_eq_true z)
      refine ⟨_,rfl,Nat.zero_le _,fun p hp=>⟨.list (ns.map .int),.list [],(tf hS (sk ns)).same (nJ hp),tf (SqL.of cp) pL,shaped_ints ns,wL,_,rfl,?_⟩⟩
      rw [Bd]
      refine E8 (fun hz=>?_) (fun hz=>?_)
      · have hz:ns=[]:=of_decide_eq_true hz
        have:=kk _ (nJ (o:=.lst []) hp)
        rw [show cellAt ns k=0 by unfold cellAt; rw [if_neg hc,if_pos hz]] at this
        exact this
      · have hz:¬ ns=[]:=fun z=>hz (decide_eq_true z)
        have hpos:0 < (ns.length:Int):=by
          cases ns with
          | nil=>exact absurd rfl hz
          | cons _ _=>simp
        have h1:0≤k % (ns.length:Int):=Int.emod_nonneg _ (by omega)
        have h2:k % (ns.length:Int) < (ns.length:Int):=Int.emod_lt_of_pos _ hpos
        have hi:(k % (ns.length:Int)).toNat < ns.length:=by omega
        have s1:aM H (upd H p (.lst [])):=nJ hp
        refine ⟨_,rfl,_,rfl,_,rfl,a,_,rfl,.inl (s1.seq hS),_,_,rfl,rfl,by rw [hlen]; exact hpos,a,_,_,.int (ns.getD (k % (ns.length:Int)).toNat 0),rfl,rfl,s1.seq hS,?_,_,_,rfl,rfl,.inr ⟨by decide,by decide⟩,_,rfl,_,_,rfl,rfl,?_⟩
        · rw [hlen]
          refine xD h1 ?_
          rw [List.getElem?_map,List.getElem?_eq_getElem hi,List.getD_eq_getElem?_getD,List.getElem?_eq_getElem hi]; rfl
        · have:=kk _ s1
          rw [show cellAt ns k=ns.getD (k % (ns.length:Int)).toNat 0 * 31 + k by unfold cellAt; rw [if_neg hc,if_neg hz]] at this
          exact this
theorem uV:aU ["_law_script", "_law_k", "_law_many", "_law_drawn"] ["_law_script", "_law_k", "_law_many"] (aB iW):=⟨rfl,rfl,rfl,by decide +kernel,rfl,by decide +kernel,by decide +kernel⟩
theorem Ay {f fC:Addr} {fd fdC:FuncData} (F:Fun K "_law_mixed" "_law_mixed" iW f fd) (FC:Fun K "_law_cell_at" "_law_cell_at" fc fC fdC) (bC:Binds K fdC ["_law_script", "_law_k"] []) (mC:mg "_law_cell_at"=some (.ref fC)) (bl:mg "len"=none):kq P w K mg base CX0 2 f fd ["_law_script", "_law_k", "_law_many"] (CG K):=by
  have GC:kq P w K mg base CX0 1 fC fdC _ (AU K):=xl FC bl
  refine F.ok uV (fun vs H Q E h=>?_) (fun cdv A outer s H vs Q E hr h=>?_)
  · obtain ⟨a,ns,k,many,rfl,_⟩:=h
    rfl
  · obtain ⟨a,ns,k,many,rfl,hS,hk,hm,kk⟩:=h
    refine ⟨_,iz (xa (i:=3) uV.nd rfl (Or.inl rfl) (fG pT (fG oa (fG og (fG og (xF GC hr rfl mC FC.kp bC .nil E4 (fi (pv 0) (fi (pv 1) iH))) (fG oa jT (pv 1))) jT) jT) jT))
      (lC (qH (fG pT (fG pT (fG og (fG og (fG oa (pv 3) (pv 3)) (fG oa jT (pv 3))) (pv 1)) jT) (pv 2)))),?_⟩
    refine ⟨_,rfl,_,rfl,a,ns,k,rfl,hS,hk,fun H1 s1=>?_⟩
    refine ⟨_,rfl,_,_,rfl,rfl,.inl ⟨by decide,by decide⟩,_,_,rfl,rfl,_,_,rfl,rfl,_,_,rfl,rfl,.inr ⟨by decide,by decide⟩,_,_,rfl,rfl,(by show (0:Int) < 2147483647; decide),?_⟩
    have b1:=B3 ns k
    have b2:=B0 ns k
    have eD:(cellAt ns k + 7919 * k + 1) * 48271 % 2147483647=y3 ns k:=rfl
    refine ⟨_,rfl,_,rfl,_,_,rfl,rfl,.inl ⟨?_,?_⟩,_,rfl,_,_,rfl,rfl,.inl ⟨by decide,by decide⟩,_,_,rfl,rfl,_,rfl,_,_,rfl,rfl,_,_,rfl,rfl,(by show (0:Int) < 2147483629; decide),_,rfl,_,_,rfl,rfl,hm,kk H1 s1⟩
    · show -(2 ^ 64) < (cellAt ns k + 7919 * k + 1) * 48271 % 2147483647
      rw [eD]; omega
    · show (cellAt ns k + 7919 * k + 1) * 48271 % 2147483647 < 2 ^ 64
      rw [eD]; omega
theorem bZ (T:Tx K mg cs):aP P w K mg base 2 "_law_mixed" 3 ak:=by
  obtain ⟨f,fd,F,b,m⟩:=T.f_law_mixed
  obtain ⟨fC,fdC,FC,bC,mC⟩:=T.f_law_cell_at
  exact aP.old (Ay F FC bC mC T.b_len) m F.kp b B7
theorem vf:aU ["thing", "least", "most"] ["thing", "least", "most"] (aB me):=⟨rfl,rfl,rfl,by decide +kernel,rfl,by decide +kernel,by decide +kernel⟩
theorem cQ (T:Tx K mg cs) { gf:Gf} (hL:∀ ds,ds.length=3→gf ds≠.no→aV (iI cs (ds.map some++List.replicate 0 none))=gf ds):aP P w K mg base 1 "is_whole" 3 gf:=by
  obtain ⟨f,fd,F,b,m⟩:=T.f_is_whole
  exact aP.of (O:=[]) (G:=iI cs) F vf b m (by decide) (fun cdv A outer s H E hr=>(au (cH (nj (ml (cV (cf (jF T.b_isinstance T.b_int xt (by simp) (ag 0)))) (lJ (cf (jF T.b_isinstance T.b_bool xI (by simp) (ag 0)))))) (ax (aQ kA)) cc)
      (ax (aQ (xO (ag 1) (ag 0) (ag 2)))))) hL
theorem vo:aU ["thing", "fewest", "most"] ["thing", "fewest", "most"] (aB mQ):=⟨rfl,rfl,rfl,by decide +kernel,rfl,by decide +kernel,by decide +kernel⟩
theorem cY (T:Tx K mg cs) { gf:Gf} (hL:∀ ds,ds.length=3→gf ds≠.no→aV (iO cs (ds.map some++List.replicate 0 none))=gf ds):aP P w K mg base 1 "is_tuple" 3 gf:=by
  obtain ⟨f,fd,F,b,m⟩:=T.f_is_tuple
  exact aP.of (O:=[]) (G:=iO cs) F vo b m (by decide) (fun cdv A outer s H E hr=>(ax (aQ (tV (jF T.b_isinstance T.b_tuple vg (by simp) (ag 0)) (qD (xO (ag 1) (fQ T.b_len (ae (ag 0) ai)) (ag 2))))))) hL
theorem wo:aU ["thing"] ["thing"] (aB n6):=⟨rfl,rfl,rfl,by decide +kernel,rfl,by decide +kernel,by decide +kernel⟩
theorem oz (T:Tx K mg cs) { aI aG gf:Gf} (cQ:aP P w K mg base 1 "is_whole" 3 aI) (cY:aP P w K mg base 1 "is_tuple" 3 aG) (hL:∀ ds,ds.length=1→gf ds≠.no→aV (gx cs aI aG (ds.map some++List.replicate 0 none))=gf ds):aP P w K mg base 2 "is_part" 1 gf:=by
  obtain ⟨f,fd,F,b,m⟩:=T.f_is_part
  exact aP.of (O:=[]) (G:=gx cs aI aG) F wo b m (by decide) (fun cdv A outer s H E hr=>(au (cH (nj (ml (cV (cf (aF cY hr aH (ae (ag 0) (ae aw (ae aw ai)))))) (lJ (cV (cf (aF cQ hr aH (ae (bz (ag 0) aw) (ae aw (ae (iS T.c_MOST_LENGTH) ai))))))))) (ax (aQ kA)) cc)
      (ax (aQ (Ex (Bk (bz (ag 0) aw)) (qD (aF cQ hr aH (ae (bz (ag 0) aw) (ae aw (ae (fK (iS T.c_TOOLS) aw) ai)))))))))) hL
theorem tM:aU ["thing"] ["thing"] (aB kM):=⟨rfl,rfl,rfl,by decide +kernel,rfl,by decide +kernel,by decide +kernel⟩
theorem pE:(["thing", "part"]:List Str).Nodup:=by decide +kernel
theorem kD (T:Tx K mg cs) { aG gf_is_part gf:Gf} (cY:aP P w K mg base 1 "is_tuple" 3 aG) (oz:aP P w K mg base 2 "is_part" 1 gf_is_part) (hL:∀ ds,ds.length=1→gf ds≠.no→aV (fw cs aG gf_is_part (ds.map some++List.replicate 0 none))=gf ds):aP P w K mg base 3 "are_parts" 1 gf:=by
  obtain ⟨f,fd,F,b,m⟩:=T.f_are_parts
  exact aP.of (O:=[]) (G:=fw cs aG gf_is_part) F tM b m (by decide) (fun cdv A outer s H E hr=>(au (cH (nj (ml (cV (cf (aF cY hr aH (ae (ag 0) (ae aw (ae (iS T.c_MOST_PARTS) ai)))))) (lJ (cV (cf (tQ rfl T.b_all (ae (gW (d4 (M:=["thing"]) (own:=["part"]) (n0:=1) (cond:=cW) rfl (df (ag 0)) dq (fun _ _ _ _=>(bo (i:=1) pE rfl (Or.inl rfl) (.inr rfl))) (fun _ _ _ _=>.nil) (fun σ H Q qz3=>(by obtain ⟨A,δ,R,o⟩:=qz3; exact o H (aM.refl _))) (fun _ _ _ _=>(aF oz hr iG (ae (ag 1) ai))))) ai))))))) (ax (aQ kA)) cc)
      (ax (aQ (Bk (bz (bz (ag 0) (jq aw)) aw)))))) hL
theorem hU:aU ["thing", "every", "due", "late"] ["thing"] (aB kW):=⟨rfl,rfl,rfl,by decide +kernel,rfl,by decide +kernel,by decide +kernel⟩
theorem lj (T:Tx K mg cs) { aI gf_are_parts aG gf:Gf} (cQ:aP P w K mg base 1 "is_whole" 3 aI) (kD:aP P w K mg base 3 "are_parts" 1 gf_are_parts) (cY:aP P w K mg base 1 "is_tuple" 3 aG) (hL:∀ ds,ds.length=1→gf ds≠.no→aV (dM cs aI gf_are_parts aG (ds.map some++List.replicate 3 none))=gf ds):aP P w K mg base 4 "is_errand" 1 gf:=by
  obtain ⟨f,fd,F,b,m⟩:=T.f_is_errand
  exact aP.of (O:=[]) (G:=dM cs aI gf_are_parts aG) F hU b m (by decide) (fun cdv A outer s H E hr=>(au (cH (cV (cf (aF cY hr aH (ae (ag 0) (ae aw (ae aw ai)))))) (ax (aQ kA)) cc)
      (au (a5 (i:=1) (bz (ag 0) aw) hU.nd)
      (au (a5 (i:=2) (bz (ag 0) aw) hU.nd)
      (au (a5 (i:=3) (bz (ag 0) aw) hU.nd)
      (au (cH (cV (cf (aF cQ hr aH (ae (ag 1) (ae (iS T.c_LEAST_EVERY) (ae (iS T.c_MOST_EVERY) ai)))))) (ax (aQ kA)) cc)
      (au (cH (cV (cf (aF cQ hr aH (ae (ag 3) (ae aw (ae (xG rfl T.b_min (ae (iS T.c_MOST_LATE) (ae (fK (ag 1) aw) ai))) ai)))))) (ax (aQ kA)) cc)
      (ax (aQ (tV (aF cQ hr aH (ae (ag 2) (ae aw (ae (fK (ag 1) (ag 3)) ai)))) (qD (aF kD hr aH (ae (bz (ag 0) aw) ai))))))))))))) hL
theorem wx:aU ["errands"] ["errands"] (aB nV):=⟨rfl,rfl,rfl,by decide +kernel,rfl,by decide +kernel,by decide +kernel⟩
theorem sy:(["errands", "errand"]:List Str).Nodup:=by decide +kernel
theorem jI (T:Tx K mg cs) { aG gf_is_errand gf:Gf} (cY:aP P w K mg base 1 "is_tuple" 3 aG) (lj:aP P w K mg base 4 "is_errand" 1 gf_is_errand) (hL:∀ ds,ds.length=1→gf ds≠.no→aV (ib cs aG gf_is_errand (ds.map some++List.replicate 0 none))=gf ds):aP P w K mg base 5 "checked" 1 gf:=by
  obtain ⟨f,fd,F,b,m⟩:=T.f_checked
  exact aP.of (O:=[]) (G:=ib cs aG gf_is_errand) F wx b m (by decide) (fun cdv A outer s H E hr=>(au (cH (nj (ml (cV (cf (aF cY hr aH (ae (ag 0) (ae aw (ae (iS T.c_MOST_ERRANDS) ai)))))) (lJ (cV (cf (tQ rfl T.b_all (ae (gW (d4 (M:=["errands"]) (own:=["errand"]) (n0:=1) (cond:=cW) rfl (df (ag 0)) dq (fun _ _ _ _=>(bo (i:=1) sy rfl (Or.inl rfl) (.inr rfl))) (fun _ _ _ _=>.nil) (fun σ H Q qz3=>(by obtain ⟨A,δ,R,o⟩:=qz3; exact o H (aM.refl _))) (fun _ _ _ _=>(aF lj hr iG (ae (ag 1) ai))))) ai))))))) (ax (lG rfl tW T.e_NoErrands (ae tO ai))) cc)
      (ax (aQ (ag 0))))) hL
theorem jw:aU ["errands", "ranks", "last"] ["errands", "ranks"] (aB gX):=⟨rfl,rfl,rfl,by decide +kernel,rfl,by decide +kernel,by decide +kernel⟩
theorem ma:(["errands", "ranks", "last", "number"]:List Str).Nodup:=by decide +kernel
theorem gY (T:Tx K mg cs) { aG aI gf:Gf} (cY:aP P w K mg base 1 "is_tuple" 3 aG) (cQ:aP P w K mg base 1 "is_whole" 3 aI) (hL:∀ ds,ds.length=2→gf ds≠.no→aV (cR cs aG aI (ds.map some++List.replicate 1 none))=gf ds):aP P w K mg base 2 "checked_ranks" 2 gf:=by
  obtain ⟨f,fd,F,b,m⟩:=T.f_checked_ranks
  exact aP.of (O:=[]) (G:=cR cs aG aI) F jw b m (by decide) (fun cdv A outer s H E hr=>(au (a5 (i:=2) (fK (fQ T.b_len (ae (ag 0) ai)) aw) jw.nd)
      (au (cH (nj (ml (cV (cf (aF cY hr aH (ae (ag 1) (ae (fQ T.b_len (ae (ag 0) ai)) (ae (fQ T.b_len (ae (ag 0) ai)) ai)))))) (lJ (cV (cf (tQ rfl T.b_all (ae (gW (d4 (M:=["errands", "ranks", "last"]) (own:=["number"]) (n0:=3) (cond:=cW) rfl (df (ag 1)) dq (fun _ _ _ _=>(bo (i:=3) ma rfl (Or.inl rfl) (.inr rfl))) (fun _ _ _ _=>.nil) (fun σ H Q qz3=>(by obtain ⟨A,δ,R,o⟩:=qz3; exact o H (aM.refl _))) (fun _ _ _ _=>(aF cQ hr iG (ae (ag 3) (ae aw (ae (ag 2) ai))))))) ai))))))) (ax (lG rfl tW T.e_NoRanks (ae tO ai))) cc)
      (au (cH (Ba (yC rfl T.b_set T.b_len (ae (ag 1) ai)) (fQ T.b_len (ae (ag 1) ai))) (ax (lG rfl tW T.e_NoRanks (ae tO ai))) cc)
      (ax (aQ (ag 1))))))) hL
theorem nF:aU ["errands", "number"] ["errands", "number"] (aB gE):=⟨rfl,rfl,rfl,by decide +kernel,rfl,by decide +kernel,by decide +kernel⟩
theorem gD (T:Tx K mg cs) { aI gf:Gf} (cQ:aP P w K mg base 1 "is_whole" 3 aI) (hL:∀ ds,ds.length=2→gf ds≠.no→aV (dC cs aI (ds.map some++List.replicate 0 none))=gf ds):aP P w K mg base 2 "checked_number" 2 gf:=by
  obtain ⟨f,fd,F,b,m⟩:=T.f_checked_number
  exact aP.of (O:=[]) (G:=dC cs aI) F nF b m (by decide) (fun cdv A outer s H E hr=>(au (cH (cV (cf (aF cQ hr aH (ae (ag 1) (ae aw (ae (fK (fQ T.b_len (ae (ag 0) ai)) aw) ai)))))) (ax (lG rfl tW T.e_NoErrand (ae tO ai))) cc)
      (ax (aQ (ag 1))))) hL
theorem pW:aU ["errands", "ranks", "number"] ["errands", "ranks", "number"] (aB ji):=⟨rfl,rfl,rfl,by decide +kernel,rfl,by decide +kernel,by decide +kernel⟩
theorem jk (T:Tx K mg cs) { bf br ba gf:Gf} (gD:aP P w K mg base 2 "checked_number" 2 bf) (gY:aP P w K mg base 2 "checked_ranks" 2 br) (jI:aP P w K mg base 5 "checked" 1 ba) (hL:∀ ds,ds.length=3→gf ds≠.no→aV (fe cs bf br ba (ds.map some++List.replicate 0 none))=gf ds):aP P w K mg base 6 "check_place" 3 gf:=by
  obtain ⟨f,fd,F,b,m⟩:=T.f_check_place
  exact aP.of (O:=[]) (G:=fe cs bf br ba) F pW b m (by decide) (fun cdv A outer s H E hr=>(au (kT (aF jI hr aH (ae (ag 0) ai)))
      (au (kT (aF gY hr aH (ae (ag 0) (ae (ag 1) ai))))
      (ax (kT (aF gD hr aH (ae (ag 0) (ae (ag 2) ai)))))))) hL
theorem xy:aU ["errand"] ["errand"] (aB om):=⟨rfl,rfl,rfl,by decide +kernel,rfl,by decide +kernel,by decide +kernel⟩
theorem sQ:(["errand", "part"]:List Str).Nodup:=by decide +kernel
theorem lH (T:Tx K mg cs) { gf:Gf} (hL:∀ ds,ds.length=1→gf ds≠.no→aV (nU cs (ds.map some++List.replicate 0 none))=gf ds):aP P w K mg base 1 "work_of" 1 gf:=by
  obtain ⟨f,fd,F,b,m⟩:=T.f_work_of
  exact aP.of (O:=[]) (G:=nU cs) F xy b m (by decide) (fun cdv A outer s H E hr=>(ax (aQ (Bj rfl T.b_sum (ae (gW (d4 (M:=["errand"]) (own:=["part"]) (n0:=1) (cond:=cW) rfl (df (bz (ag 0) aw)) dq (fun _ _ _ _=>(bo (i:=1) sQ rfl (Or.inl rfl) (.inr rfl))) (fun _ _ _ _=>.nil) (fun σ H Q qz3=>(by obtain ⟨A,δ,R,o⟩:=qz3; exact o H (aM.refl _))) (fun _ _ _ _=>(bz (ag 1) aw)))) ai))))) hL
theorem uS:aU ["errand", "tool"] ["errand", "tool"] (aB mK):=⟨rfl,rfl,rfl,by decide +kernel,rfl,by decide +kernel,by decide +kernel⟩
theorem rf:(["errand", "tool", "part"]:List Str).Nodup:=by decide +kernel
theorem mj (T:Tx K mg cs) { gf:Gf} (hL:∀ ds,ds.length=2→gf ds≠.no→aV (ij cs (ds.map some++List.replicate 0 none))=gf ds):aP P w K mg base 1 "has_tool" 2 gf:=by
  obtain ⟨f,fd,F,b,m⟩:=T.f_has_tool
  exact aP.of (O:=[]) (G:=ij cs) F uS b m (by decide) (fun cdv A outer s H E hr=>(ax (aQ (Fe (ag 1) (gW (d4 (M:=["errand", "tool"]) (own:=["part"]) (n0:=2) (cond:=cW) rfl (df (bz (ag 0) aw)) dq (fun _ _ _ _=>(bo (i:=2) rf rfl (Or.inl rfl) (.inr rfl))) (fun _ _ _ _=>.nil) (fun σ H Q qz3=>(by obtain ⟨A,δ,R,o⟩:=qz3; exact o H (aM.refl _))) (fun _ _ _ _=>(bz (ag 2) aw)))))))) hL
theorem nN:aU ["errands", "ranks", "tool", "place", "number"] ["errands", "ranks", "tool"] (aB qg):=⟨rfl,rfl,rfl,by decide +kernel,rfl,by decide +kernel,by decide +kernel⟩
theorem qL (T:Tx K mg cs) { b7 gf:Gf} (mj:aP P w K mg base 1 "has_tool" 2 b7) (hL:∀ ds,ds.length=3→gf ds≠.no→aV (k4 cs b7 (ds.map some++List.replicate 2 none))=gf ds):aP P w K mg base 2 "height" 3 gf:=by
  obtain ⟨f,fd,F,b,m⟩:=T.f_height
  exact aP.of (O:=[]) (G:=k4 cs b7) F nN b m (by decide) (fun cdv A outer s H E hr=>(au (ec PassesOwn.leaving rfl (ux T.b_enumerate (ae (ag 1) ai)) (lI (is:=[3,4]) (by decide)) (nR rfl (cU (bo (i:=3) nN.nd rfl (by first | exact Or.inl rfl | exact Or.inr rfl)) (cU (bo (i:=4) nN.nd rfl (by first | exact Or.inl rfl | exact Or.inr rfl)) lM))) (ax (cH (cf (aF mj hr aH (ae (bz (ag 0) (ag 4)) (ae (ag 2) ai)))) (ax (aQ (ag 3))) cc)))
      (ax (aQ fm)))) hL
theorem rn:aU ["errands", "ranks"] ["errands", "ranks"] (aB ku):=⟨rfl,rfl,rfl,by decide +kernel,rfl,by decide +kernel,by decide +kernel⟩
theorem o7:(["errands", "ranks", "tool"]:List Str).Nodup:=by decide +kernel
theorem jS (T:Tx K mg cs) { cI gf:Gf} (qL:aP P w K mg base 2 "height" 3 cI) (hL:∀ ds,ds.length=2→gf ds≠.no→aV (fR cs cI (ds.map some++List.replicate 0 none))=gf ds):aP P w K mg base 3 "heights_of" 2 gf:=by
  obtain ⟨f,fd,F,b,m⟩:=T.f_heights_of
  exact aP.of (O:=[]) (G:=fR cs cI) F rn b m (by decide) (fun cdv A outer s H E hr=>(ax (aQ (gW (d4 (M:=["errands", "ranks"]) (own:=["tool"]) (n0:=2) (cond:=cW) rfl (ft T.b_range (ae (iS T.c_TOOLS) ai)) dq (fun _ _ _ _=>(bo (i:=2) o7 rfl (Or.inl rfl) (.inr rfl))) (fun _ _ _ _=>.nil) (fun σ H Q qz3=>(by obtain ⟨A,δ,R,o⟩:=qz3; exact o H (aM.refl _))) (fun _ _ _ _=>(aF qL hr iG (ae (ag 0) (ae (ag 1) (ae (ag 2) ai)))))))))) hL
theorem eJ:aU ["errands", "ranks", "number", "place", "tops", "found", "lower", "part", "pair"] ["errands", "ranks", "number"] (aB my):=⟨rfl,rfl,rfl,by decide +kernel,rfl,by decide +kernel,by decide +kernel⟩
theorem mM (T:Tx K mg cs) { bX gf:Gf} (jS:aP P w K mg base 3 "heights_of" 2 bX) (n8:AZ P w K mg base 1 "Holding" cs.Holding ["number", "part", "tool", "times"]) (hL:∀ ds,ds.length=3→gf ds≠.no→aV (iP cs bX (ds.map some++List.replicate 6 none))=gf ds):aP P w K mg base 4 "holdings" 3 gf:=by
  obtain ⟨f,fd,F,b,m⟩:=T.f_holdings
  exact aP.of (O:=[5]) (G:=iP cs bX) F eJ b m (by decide) (fun cdv A outer s H E hr=>(au (a5 (i:=3) (nh (ag 1) (ag 2)) eJ.nd)
      (au (a5 (i:=4) (aF jS hr aH (ae (ag 0) (ae (ag 1) ai))) eJ.nd)
      (au (ly (i:=5) (nv ai) eJ.nd)
      (au (ec PassesOwn.leaving rfl (df (eu (ag 1) (eI (bA (ag 3) aw)) eE)) (fg (i:=6) (by decide)) (bo (i:=6) eJ.nd rfl (by first | exact Or.inl rfl | exact Or.inr rfl)) (ax (ec PassesOwn.leaving rfl (ux T.b_enumerate (ae (bz (bz (ag 0) (ag 6)) aw) ai)) (lI (is:=[7,8]) (by decide)) (nR rfl (cU (bo (i:=7) eJ.nd rfl (by first | exact Or.inl rfl | exact Or.inr rfl)) (cU (bo (i:=8) eJ.nd rfl (by first | exact Or.inl rfl | exact Or.inr rfl)) lM))) (ax (cH (nj (uf (jB (bz (ag 8) aw)) (qB (ue (bz (ag 4) (bz (ag 8) aw)) (ag 3))))) (ax (uu (i:=5) (BX n8 hr aH (ae (ag 6) (ae (ag 7) (ae (bz (ag 8) aw) (ae (fK (bz (ag 8) aw) aw) ai))))))) cc)))))
      (ax (aQ (ag 5)))))))) hL
theorem oZ:aU ["errands", "ranks", "number"] ["errands", "ranks", "number"] (aB iN):=⟨rfl,rfl,rfl,by decide +kernel,rfl,by decide +kernel,by decide +kernel⟩
theorem nC:(["errands", "ranks", "number", "holding"]:List Str).Nodup:=by decide +kernel
theorem ig (T:Tx K mg cs) { ck gf:Gf} (mM:aP P w K mg base 4 "holdings" 3 ck) (hL:∀ ds,ds.length=3→gf ds≠.no→aV (eo cs ck (ds.map some++List.replicate 0 none))=gf ds):aP P w K mg base 5 "hold_by_high" 3 gf:=by
  obtain ⟨f,fd,F,b,m⟩:=T.f_hold_by_high
  exact aP.of (O:=[]) (G:=eo cs ck) F oZ b m (by decide) (fun cdv A outer s H E hr=>(ax (aQ (Ck rfl T.b_max (gW (d4 (M:=["errands", "ranks", "number"]) (own:=["holding"]) (n0:=3) (cond:=cW) rfl (df (aF mM hr aH (ae (ag 0) (ae (ag 1) (ae (ag 2) ai))))) dq (fun _ _ _ _=>(bo (i:=3) nC rfl (Or.inl rfl) (.inr rfl))) (fun _ _ _ _=>.nil) (fun σ H Q qz3=>(by obtain ⟨A,δ,R,o⟩:=qz3; exact o H (aM.refl _))) (fun _ _ _ _=>(Dy T.cl_Holding T.na_Holding_times (ag 3))))) aw)))) hL
theorem qS:aU ["times", "every"] ["times", "every"] (aB jQ):=⟨rfl,rfl,rfl,by decide +kernel,rfl,by decide +kernel,by decide +kernel⟩
theorem ke (T:Tx K mg cs) { gf:Gf} (hL:∀ ds,ds.length=2→gf ds≠.no→aV (fW cs (ds.map some++List.replicate 0 none))=gf ds):aP P w K mg base 1 "rounded_up" 2 gf:=by
  obtain ⟨f,fd,F,b,m⟩:=T.f_rounded_up
  exact aP.of (O:=[]) (G:=fW cs) F qS b m (by decide) (fun cdv A outer s H E hr=>(ax (aQ (wy (fK (bA (ag 0) (ag 1)) aw) (ag 1))))) hL
theorem m8:aU ["errands", "ranks", "number", "held_up", "times", "total", "higher", "errand"] ["errands", "ranks", "number", "held_up", "times"] (aB wj):=⟨rfl,rfl,rfl,by decide +kernel,rfl,by decide +kernel,by decide +kernel⟩
theorem sW (T:Tx K mg cs) { gf_work_of bG gf:Gf} (lH:aP P w K mg base 1 "work_of" 1 gf_work_of) (ke:aP P w K mg base 1 "rounded_up" 2 bG) (hL:∀ ds,ds.length=5→gf ds≠.no→aV (pY cs gf_work_of bG (ds.map some++List.replicate 3 none))=gf ds):aP P w K mg base 2 "need" 5 gf:=by
  obtain ⟨f,fd,F,b,m⟩:=T.f_need
  exact aP.of (O:=[]) (G:=pY cs gf_work_of bG) F m8 b m (by decide) (fun cdv A outer s H E hr=>(au (a5 (i:=5) (bA (ag 3) (aF lH hr aH (ae (bz (ag 0) (ag 2)) ai))) m8.nd)
      (au (ec PassesOwn.leaving rfl (df (eu (ag 1) eE (eI (nh (ag 1) (ag 2))))) (fg (i:=6) (by decide)) (bo (i:=6) m8.nd rfl (by first | exact Or.inl rfl | exact Or.inr rfl)) (au (a5 (i:=7) (bz (ag 0) (ag 6)) m8.nd)
      (ax (xX (i:=5) (sA (aF lH hr aH (ae (ag 7) ai)) (aF ke hr aH (ae (bA (ag 4) (bz (ag 7) aw)) (ae (bz (ag 7) aw) ai)))) m8.nd))))
      (ax (aQ (ag 5)))))) hL
theorem eM:aU ["errands", "ranks", "number", "held_up", "most", "found", "level", "following"] ["errands", "ranks", "number", "held_up"] (aB lr):=⟨rfl,rfl,rfl,by decide +kernel,rfl,by decide +kernel,by decide +kernel⟩
theorem kG (T:Tx K mg cs) { cK gf:Gf} (sW:aP P w K mg base 2 "need" 5 cK) (hL:∀ ds,ds.length=4→gf ds≠.no→aV (gP cs cK (ds.map some++List.replicate 4 none))=gf ds):aP P w K mg base 3 "levels_by" 4 gf:=by
  obtain ⟨f,fd,F,b,m⟩:=T.f_levels_by
  exact aP.of (O:=[5]) (G:=gP cs cK) F eM b m (by decide) (fun cdv A outer s H E hr=>(au (a5 (i:=4) (fK (bz (bz (ag 0) (ag 2)) aw) (bz (bz (ag 0) (ag 2)) aw)) eM.nd)
      (au (ly (i:=5) (nv ai) eM.nd)
      (au (a5 (i:=6) (aF sW hr aH (ae (ag 0) (ae (ag 1) (ae (ag 2) (ae (ag 3) (ae aw ai)))))) eM.nd)
      (au (ou 1000000 PassesOwn.leaving (ue (ag 6) (ag 4)) (au (uu (i:=5) (ag 6))
      (au (a5 (i:=7) (aF sW hr aH (ae (ag 0) (ae (ag 1) (ae (ag 2) (ae (ag 3) (ae (ag 6) ai)))))) eM.nd)
      (au (cH (v7 hr (ag 7) (ag 6)) (ax (aQ (ag 5))) cc)
      (ax (a5 (i:=6) (ag 7) eM.nd))))))
      (ax (aQ fm))))))) hL
theorem l8:aU ["errands", "ranks", "number", "held_up", "found"] ["errands", "ranks", "number", "held_up"] (aB j7):=⟨rfl,rfl,rfl,by decide +kernel,rfl,by decide +kernel,by decide +kernel⟩
theorem j6 (T:Tx K mg cs) { cg gf:Gf} (kG:aP P w K mg base 3 "levels_by" 4 cg) (hL:∀ ds,ds.length=4→gf ds≠.no→aV (eO cs cg (ds.map some++List.replicate 1 none))=gf ds):aP P w K mg base 4 "longest_by" 4 gf:=by
  obtain ⟨f,fd,F,b,m⟩:=T.f_longest_by
  exact aP.of (O:=[]) (G:=eO cs cg) F l8 b m (by decide) (fun cdv A outer s H E hr=>(au (a5 (i:=4) (aF kG hr aH (ae (ag 0) (ae (ag 1) (ae (ag 2) (ae (ag 3) ai))))) l8.nd)
      (ax (aQ (CH (B2 (ag 4)) fm (bz (ag 4) (jq aw))))))) hL
theorem mf:aU ["errands", "ranks", "number"] ["errands", "ranks", "number"] (aB fH):=⟨rfl,rfl,rfl,by decide +kernel,rfl,by decide +kernel,by decide +kernel⟩
theorem fP (T:Tx K mg cs) { bK b6 gf:Gf} (ig:aP P w K mg base 5 "hold_by_high" 3 bK) (j6:aP P w K mg base 4 "longest_by" 4 b6) (hL:∀ ds,ds.length=3→gf ds≠.no→aV (dj cs bK b6 (ds.map some++List.replicate 0 none))=gf ds):aP P w K mg base 6 "longest_by_high" 3 gf:=by
  obtain ⟨f,fd,F,b,m⟩:=T.f_longest_by_high
  exact aP.of (O:=[]) (G:=dj cs bK b6) F mf b m (by decide) (fun cdv A outer s H E hr=>(ax (aQ (aF j6 hr aH (ae (ag 0) (ae (ag 1) (ae (ag 2) (ae (aF ig hr aH (ae (ag 0) (ae (ag 1) (ae (ag 2) ai)))) ai)))))))) hL
theorem oQ:aU ["errands", "ranks", "number", "room", "answer"] ["errands", "ranks", "number", "room"] (aB mh):=⟨rfl,rfl,rfl,by decide +kernel,rfl,by decide +kernel,by decide +kernel⟩
theorem ik (T:Tx K mg cs) { bg gf:Gf} (fP:aP P w K mg base 6 "longest_by_high" 3 bg) (hL:∀ ds,ds.length=4→gf ds≠.no→aV (gG cs bg (ds.map some++List.replicate 1 none))=gf ds):aP P w K mg base 7 "has_room" 4 gf:=by
  obtain ⟨f,fd,F,b,m⟩:=T.f_has_room
  exact aP.of (O:=[]) (G:=gG cs bg) F oQ b m (by decide) (fun cdv A outer s H E hr=>(au (a5 (i:=4) (aF fP hr aH (ae (ag 0) (ae (ag 1) (ae (ag 2) ai)))) oQ.nd)
      (ax (aQ (tV (xY (ag 4)) (qD (CQ (bA (ag 4) (ag 3)) (bz (bz (ag 0) (ag 2)) aw)))))))) hL
theorem qT:aU ["errands", "ranks", "number"] ["errands", "ranks", "number"] (aB j4):=⟨rfl,rfl,rfl,by decide +kernel,rfl,by decide +kernel,by decide +kernel⟩
theorem kl (T:Tx K mg cs) { bq gf:Gf} (ik:aP P w K mg base 7 "has_room" 4 bq) (hL:∀ ds,ds.length=3→gf ds≠.no→aV (fE cs bq (ds.map some++List.replicate 0 none))=gf ds):aP P w K mg base 8 "is_in_time" 3 gf:=by
  obtain ⟨f,fd,F,b,m⟩:=T.f_is_in_time
  exact aP.of (O:=[]) (G:=fE cs bq) F qT b m (by decide) (fun cdv A outer s H E hr=>(ax (aQ (aF ik hr aH (ae (ag 0) (ae (ag 1) (ae (ag 2) (ae aw ai)))))))) hL
theorem jK:aU ["errands", "some", "number", "higher", "lower"] ["errands", "some", "number"] (aB kN):=⟨rfl,rfl,rfl,by decide +kernel,rfl,by decide +kernel,by decide +kernel⟩
theorem kI:(["errands", "some", "number", "higher", "lower", "other"]:List Str).Nodup:=by decide +kernel
theorem lh (T:Tx K mg cs) { gf:Gf} (hL:∀ ds,ds.length=3→gf ds≠.no→aV (gM cs (ds.map some++List.replicate 2 none))=gf ds):aP P w K mg base 1 "as_lowest" 3 gf:=by
  obtain ⟨f,fd,F,b,m⟩:=T.f_as_lowest
  exact aP.of (O:=[]) (G:=gM cs) F jK b m (by decide) (fun cdv A outer s H E hr=>(au (u5 (i:=3) (vq (i:=3) (M:=["errands", "some", "number", "higher", "lower"]) (own:=["other"]) (n0:=5) (cond:=(gT (g2 dNe (ah 5) (ah 2)))) rfl jK.nd (df (ag 1)) dq (fun _ _ _ _=>(bo (i:=5) kI rfl (Or.inl rfl) (.inr rfl))) (fun _ _ _ _=>(pk (DD hr (ag 5) (ag 2)))) (fun _ _ _ h=>h) (fun _ _ _ _=>(ag 5))))
      (au (u5 (i:=4) (vq (i:=4) (M:=["errands", "some", "number", "higher", "lower"]) (own:=["other"]) (n0:=5) (cond:=(gT (g2 (kP true) (ah 5) (ah 1)))) rfl jK.nd (ft T.b_range (ae (fQ T.b_len (ae (ag 0) ai)) ai)) dq (fun _ _ _ _=>(bo (i:=5) kI rfl (Or.inl rfl) (.inr rfl))) (fun _ _ _ _=>(pk (si (ag 5) (ag 1)))) (fun _ _ _ h=>h) (fun _ _ _ _=>(ag 5))))
      (ax (aQ (kf T.b_tuple (ae (bA (bA (ag 3) (sT (ae (ag 2) ai))) (ag 4)) ai))))))) hL
theorem rk:aU ["errands", "placed"] ["errands", "placed"] (aB km):=⟨rfl,rfl,rfl,by decide +kernel,rfl,by decide +kernel,by decide +kernel⟩
theorem o1:(["errands", "placed", "number"]:List Str).Nodup:=by decide +kernel
theorem kg (T:Tx K mg cs) { gf:Gf} (hL:∀ ds,ds.length=2→gf ds≠.no→aV (f7 cs (ds.map some++List.replicate 0 none))=gf ds):aP P w K mg base 1 "not_placed" 2 gf:=by
  obtain ⟨f,fd,F,b,m⟩:=T.f_not_placed
  exact aP.of (O:=[]) (G:=f7 cs) F rk b m (by decide) (fun cdv A outer s H E hr=>(ax (aQ (gW (d4 (M:=["errands", "placed"]) (own:=["number"]) (n0:=2) (cond:=(gT (g2 (kP true) (ah 2) (ah 1)))) rfl (ft T.b_range (ae (fQ T.b_len (ae (ag 0) ai)) ai)) dq (fun _ _ _ _=>(bo (i:=2) o1 rfl (Or.inl rfl) (.inr rfl))) (fun _ _ _ _=>(pk (si (ag 2) (ag 1)))) (fun _ _ _ h=>h) (fun _ _ _ _=>(ag 2))))))) hL
theorem eY:aU ["errands", "placed", "room", "left", "number"] ["errands", "placed", "room"] (aB fo):=⟨rfl,rfl,rfl,by decide +kernel,rfl,by decide +kernel,by decide +kernel⟩
theorem dP (T:Tx K mg cs) { bR bq bF gf:Gf} (lh:aP P w K mg base 1 "as_lowest" 3 bR) (ik:aP P w K mg base 7 "has_room" 4 bq) (kg:aP P w K mg base 1 "not_placed" 2 bF) (hL:∀ ds,ds.length=3→gf ds≠.no→aV (c4 cs bR bq bF (ds.map some++List.replicate 2 none))=gf ds):aP P w K mg base 8 "following_lowest" 3 gf:=by
  obtain ⟨f,fd,F,b,m⟩:=T.f_following_lowest
  exact aP.of (O:=[]) (G:=c4 cs bR bq bF) F eY b m (by decide) (fun cdv A outer s H E hr=>(au (a5 (i:=3) (aF kg hr aH (ae (ag 0) (ae (ag 1) ai))) eY.nd)
      (au (ec PassesOwn.leaving rfl (df (ag 3)) (fg (i:=4) (by decide)) (bo (i:=4) eY.nd rfl (by first | exact Or.inl rfl | exact Or.inr rfl)) (ax (cH (cf (aF ik hr aH (ae (ag 0) (ae (aF lh hr aH (ae (ag 0) (ae (ag 3) (ae (ag 4) ai)))) (ae (ag 4) (ae (ag 2) ai)))))) (ax (aQ (ag 4))) cc)))
      (ax (aQ fm))))) hL
theorem cG:aU ["errands", "room", "placed", "number"] ["errands", "room"] (aB eZ):=⟨rfl,rfl,rfl,by decide +kernel,rfl,by decide +kernel,by decide +kernel⟩
theorem e6 (T:Tx K mg cs) { aN gf:Gf} (dP:aP P w K mg base 8 "following_lowest" 3 aN) (hL:∀ ds,ds.length=2→gf ds≠.no→aV (cT cs aN (ds.map some++List.replicate 2 none))=gf ds):aP P w K mg base 9 "placed_from_below" 2 gf:=by
  obtain ⟨f,fd,F,b,m⟩:=T.f_placed_from_below
  exact aP.of (O:=[]) (G:=cT cs aN) F cG b m (by decide) (fun cdv A outer s H E hr=>(au (a5 (i:=2) (f6 ai) cG.nd)
      (au (a5 (i:=3) (aF dP hr aH (ae (ag 0) (ae (ag 2) (ae (ag 1) ai)))) cG.nd)
      (au (ou 1000000 PassesOwn.leaving (jB (ag 3)) (au (a5 (i:=2) (bA (f6 (ae (ag 3) ai)) (ag 2)) cG.nd)
      (ax (a5 (i:=3) (aF dP hr aH (ae (ag 0) (ae (ag 2) (ae (ag 1) ai)))) cG.nd))))
      (ax (aQ (ag 2))))))) hL
theorem ie:aU ["errands", "room", "placed"] ["errands", "room"] (aB fM):=⟨rfl,rfl,rfl,by decide +kernel,rfl,by decide +kernel,by decide +kernel⟩
theorem fZ (T:Tx K mg cs) { aW gf:Gf} (e6:aP P w K mg base 9 "placed_from_below" 2 aW) (hL:∀ ds,ds.length=2→gf ds≠.no→aV (dm cs aW (ds.map some++List.replicate 1 none))=gf ds):aP P w K mg base 10 "ranks_with_room" 2 gf:=by
  obtain ⟨f,fd,F,b,m⟩:=T.f_ranks_with_room
  exact aP.of (O:=[]) (G:=dm cs aW) F ie b m (by decide) (fun cdv A outer s H E hr=>(au (a5 (i:=2) (aF e6 hr aH (ae (ag 0) (ae (ag 1) ai))) ie.nd)
      (ax (aQ (CH (v7 hr (fQ T.b_len (ae (ag 2) ai)) (fQ T.b_len (ae (ag 0) ai))) (ag 2) fm))))) hL
theorem v8:aU ["errands"] ["errands"] (aB oy):=⟨rfl,rfl,rfl,by decide +kernel,rfl,by decide +kernel,by decide +kernel⟩
theorem lz (T:Tx K mg cs) { a6 ba gf:Gf} (fZ:aP P w K mg base 10 "ranks_with_room" 2 a6) (jI:aP P w K mg base 5 "checked" 1 ba) (hL:∀ ds,ds.length=1→gf ds≠.no→aV (gz cs a6 ba (ds.map some++List.replicate 0 none))=gf ds):aP P w K mg base 11 "fitting" 1 gf:=by
  obtain ⟨f,fd,F,b,m⟩:=T.f_fitting
  exact aP.of (O:=[]) (G:=gz cs a6 ba) F v8 b m (by decide) (fun cdv A outer s H E hr=>(au (kT (aF jI hr aH (ae (ag 0) ai)))
      (ax (aQ (aF fZ hr aH (ae (ag 0) (ae aw ai))))))) hL
theorem zu:aU ["errands", "ranks"] ["errands", "ranks"] (aB qt):=⟨rfl,rfl,rfl,by decide +kernel,rfl,by decide +kernel,by decide +kernel⟩
theorem vF:(["errands", "ranks", "number"]:List Str).Nodup:=by decide +kernel
theorem nI (T:Tx K mg cs) { bW gf:Gf} (kl:aP P w K mg base 8 "is_in_time" 3 bW) (hL:∀ ds,ds.length=2→gf ds≠.no→aV (lp cs bW (ds.map some++List.replicate 0 none))=gf ds):aP P w K mg base 9 "do_fit" 2 gf:=by
  obtain ⟨f,fd,F,b,m⟩:=T.f_do_fit
  exact aP.of (O:=[]) (G:=lp cs bW) F zu b m (by decide) (fun cdv A outer s H E hr=>(ax (aQ (tQ rfl T.b_all (ae (gW (d4 (M:=["errands", "ranks"]) (own:=["number"]) (n0:=2) (cond:=cW) rfl (df (ag 1)) dq (fun _ _ _ _=>(bo (i:=2) vF rfl (Or.inl rfl) (.inr rfl))) (fun _ _ _ _=>.nil) (fun σ H Q qz3=>(by obtain ⟨A,δ,R,o⟩:=qz3; exact o H (aM.refl _))) (fun _ _ _ _=>(aF kl hr iG (ae (ag 0) (ae (ag 1) (ae (ag 2) ai))))))) ai))))) hL
theorem p9:aU ["errands", "number", "errand"] ["errands", "number", "errand"] (aB je):=⟨rfl,rfl,rfl,by decide +kernel,rfl,by decide +kernel,by decide +kernel⟩
theorem i9 (T:Tx K mg cs) { gf:Gf} (hL:∀ ds,ds.length=3→gf ds≠.no→aV (fb cs (ds.map some++List.replicate 0 none))=gf ds):aP P w K mg base 1 "with_errand" 3 gf:=by
  obtain ⟨f,fd,F,b,m⟩:=T.f_with_errand
  exact aP.of (O:=[]) (G:=fb cs) F p9 b m (by decide) (fun cdv A outer s H E hr=>(ax (aQ (bA (bA (eu (ag 0) eE (eI (ag 1))) (f6 (ae (ag 2) ai))) (eu (ag 0) (eI (bA (ag 1) aw)) eE))))) hL
theorem dX:aU ["errands", "number", "times", "errand", "last", "parts"] ["errands", "number", "times"] (aB fN):=⟨rfl,rfl,rfl,by decide +kernel,rfl,by decide +kernel,by decide +kernel⟩
theorem fL (T:Tx K mg cs) { bB gf:Gf} (i9:aP P w K mg base 1 "with_errand" 3 bB) (hL:∀ ds,ds.length=3→gf ds≠.no→aV (dh cs bB (ds.map some++List.replicate 3 none))=gf ds):aP P w K mg base 2 "with_longer_end" 3 gf:=by
  obtain ⟨f,fd,F,b,m⟩:=T.f_with_longer_end
  exact aP.of (O:=[]) (G:=dh cs bB) F dX b m (by decide) (fun cdv A outer s H E hr=>(au (a5 (i:=3) (bz (ag 0) (ag 1)) dX.nd)
      (au (a5 (i:=4) (bz (bz (ag 3) aw) (jq aw)) dX.nd)
      (au (a5 (i:=5) (bA (eu (bz (ag 3) aw) eE (eI (jq aw))) (f6 (ae (f6 (ae (bA (bz (ag 4) aw) (ag 2)) (ae (bz (ag 4) aw) ai))) ai))) dX.nd)
      (ax (aQ (aF i9 hr aH (ae (ag 0) (ae (ag 1) (ae (bA (eu (ag 3) eE (eI aw)) (f6 (ae (ag 5) ai))) ai)))))))))) hL
theorem pB:aU ["errands", "ranks", "number", "times"] ["errands", "ranks", "number"] (aB sN):=⟨rfl,rfl,rfl,by decide +kernel,rfl,by decide +kernel,by decide +kernel⟩
theorem ud (T:Tx K mg cs) { a7 cx bM gf:Gf} (fL:aP P w K mg base 2 "with_longer_end" 3 a7) (nI:aP P w K mg base 9 "do_fit" 2 cx) (jk:aP P w K mg base 6 "check_place" 3 bM) (hL:∀ ds,ds.length=3→gf ds≠.no→aV (mZ cs a7 cx bM (ds.map some++List.replicate 1 none))=gf ds):aP P w K mg base 10 "spare" 3 gf:=by
  obtain ⟨f,fd,F,b,m⟩:=T.f_spare
  exact aP.of (O:=[]) (G:=mZ cs a7 cx bM) F pB b m (by decide) (fun cdv A outer s H E hr=>(au (kT (aF jk hr aH (ae (ag 0) (ae (ag 1) (ae (ag 2) ai)))))
      (au (cH (cV (cf (aF nI hr aH (ae (ag 0) (ae (ag 1) ai))))) (ax (aQ fm)) cc)
      (au (a5 (i:=3) aw pB.nd)
      (au (ou 1000000 PassesOwn.leaving (cf (aF nI hr aH (ae (aF fL hr aH (ae (ag 0) (ae (ag 2) (ae (bA (ag 3) aw) ai)))) (ae (ag 1) ai)))) (ax (xX (i:=3) aw pB.nd)))
      (ax (aQ (ag 3)))))))) hL
theorem cC:aU ["_law_script", "_law_at", "_law_top", "_law_tools", "_law_every", "_law_late", "_law_due", "_law_parts", "_law_k", "_law_cell"] ["_law_script", "_law_at", "_law_top", "_law_tools"] (aB kj):=⟨rfl,rfl,rfl,by decide +kernel,rfl,by decide +kernel,by decide +kernel⟩
theorem ki (T:Tx K mg cs) { ak gf:Gf} (bZ:aP P w K mg base 2 "_law_mixed" 3 ak) (hL:∀ ds,ds.length=4→gf ds≠.no→aV (fO cs ak (ds.map some++List.replicate 6 none))=gf ds):aP P w K mg base 3 "_law_errand" 4 gf:=by
  obtain ⟨f,fd,F,b,m⟩:=T.f_law_errand
  exact aP.of (O:=[7]) (G:=fO cs ak) F cC b m (by decide) (fun cdv A outer s H E hr=>(au (a5 (i:=4) (bA aw (aF bZ hr aH (ae (ag 0) (ae (ag 1) (ae (ag 2) ai))))) cC.nd)
      (au (a5 (i:=5) (sA (aF bZ hr aH (ae (ag 0) (ae (bA (ag 1) aw) (ae aw ai)))) (uL T.b_int (ae (CC hr (aF bZ hr aH (ae (ag 0) (ae (bA (ag 1) aw) (ae aw ai)))) aw) ai))) cC.nd)
      (au (a5 (i:=5) (xG rfl T.b_min (ae (ag 5) (ae (fK (ag 4) aw) ai))) cC.nd)
      (au (a5 (i:=6) (fK (ag 4) (ag 5)) cC.nd)
      (au (cH (v7 hr (aF bZ hr aH (ae (ag 0) (ae (bA (ag 1) aw) (ae aw ai)))) aw) (ax (a5 (i:=6) (fK (ag 6) (aF bZ hr aH (ae (ag 0) (ae (bA (ag 1) aw) (ae (ag 6) ai))))) cC.nd)) cc)
      (au (ly (i:=7) (nv ai) cC.nd)
      (au (ec PassesOwn.leaving rfl (ft T.b_range (ae (aF bZ hr aH (ae (ag 0) (ae (bA (ag 1) aw) (ae aw ai)))) ai)) (fg (i:=8) (by decide)) (bo (i:=8) cC.nd rfl (by first | exact Or.inl rfl | exact Or.inr rfl)) (au (a5 (i:=9) (aF bZ hr aH (ae (ag 0) (ae (bA (bA (ag 1) aw) (ag 8)) (ae aw ai)))) cC.nd)
      (au (uu (i:=7) (f6 (ae (bA aw (xg (ag 9) aw)) (ae (bz (sT (ae aw (ae aw (ae aw (ae aw (ae fm ai)))))) (xg (wy (ag 9) aw) aw)) ai))))
      (ax (cH (cV (cf (ag 3))) (ax (yn (i:=7) (f6 (ae (bz (bz (ag 7) (jq aw)) aw) (ae fm ai))) (jq aw))) cc)))))
      (ax (aQ (f6 (ae (ag 4) (ae (ag 6) (ae (ag 5) (ae (kf T.b_tuple (ae (bA (ag 7) (sT (ae (f6 (ae (bA aw (aF bZ hr aH (ae (ag 0) (ae (bA (ag 1) aw) (ae aw ai))))) (ae fm ai))) ai))) ai)) ai))))))))))))))) hL
theorem kR:aU ["_law_script", "_law_at", "_law_most", "_law_top", "_law_tools", "_law_many"] ["_law_script", "_law_at", "_law_most", "_law_top", "_law_tools"] (aB jd):=⟨rfl,rfl,rfl,by decide +kernel,rfl,by decide +kernel,by decide +kernel⟩
theorem nT:(["_law_script", "_law_at", "_law_most", "_law_top", "_law_tools", "_law_many", "_law_k"]:List Str).Nodup:=by decide +kernel
theorem jj (T:Tx K mg cs) { bY ak gf:Gf} (ki:aP P w K mg base 3 "_law_errand" 4 bY) (bZ:aP P w K mg base 2 "_law_mixed" 3 ak) (hL:∀ ds,ds.length=5→gf ds≠.no→aV (ff cs bY ak (ds.map some++List.replicate 1 none))=gf ds):aP P w K mg base 4 "_law_errands" 5 gf:=by
  obtain ⟨f,fd,F,b,m⟩:=T.f_law_errands
  exact aP.of (O:=[]) (G:=ff cs bY ak) F kR b m (by decide) (fun cdv A outer s H E hr=>(au (a5 (i:=5) (bA aw (aF bZ hr aH (ae (ag 0) (ae (ag 1) (ae (ag 2) ai))))) kR.nd)
      (ax (aQ (kf T.b_tuple (ae (gW (d4 (M:=["_law_script", "_law_at", "_law_most", "_law_top", "_law_tools", "_law_many"]) (own:=["_law_k"]) (n0:=6) (cond:=cW) rfl (ft T.b_range (ae (ag 5) ai)) dq (fun _ _ _ _=>(bo (i:=6) nT rfl (Or.inl rfl) (.inr rfl))) (fun _ _ _ _=>.nil) (fun σ H Q qz3=>(by obtain ⟨A,δ,R,o⟩:=qz3; exact o H (aM.refl _))) (fun _ _ _ _=>(aF ki hr iG (ae (ag 0) (ae (bA (bA (ag 1) aw) (sA aw (ag 6))) (ae (ag 3) (ae (ag 4) ai)))))))) ai)))))) hL
theorem g9:aU ["_law_script", "_law_at", "_law_many", "_law_left", "_law_made", "_law_k"] ["_law_script", "_law_at", "_law_many"] (aB kC):=⟨rfl,rfl,rfl,by decide +kernel,rfl,by decide +kernel,by decide +kernel⟩
theorem kY (T:Tx K mg cs) { ak gf:Gf} (bZ:aP P w K mg base 2 "_law_mixed" 3 ak) (hL:∀ ds,ds.length=3→gf ds≠.no→aV (gJ cs ak (ds.map some++List.replicate 3 none))=gf ds):aP P w K mg base 3 "_law_ranks" 3 gf:=by
  obtain ⟨f,fd,F,b,m⟩:=T.f_law_ranks
  exact aP.of (O:=[3,4]) (G:=gJ cs ak) F g9 b m (by decide) (fun cdv A outer s H E hr=>(au (ly (i:=3) (zA rfl T.b_range T.b_list (ae (ag 2) ai)) g9.nd)
      (au (ly (i:=4) (nv ai) g9.nd)
      (au (ec PassesOwn.leaving rfl (ft T.b_range (ae (ag 2) ai)) (fg (i:=5) (by decide)) (bo (i:=5) g9.nd rfl (by first | exact Or.inl rfl | exact Or.inr rfl)) (ax (xr (y:=4) (x:=3) (aF bZ hr aH (ae (ag 0) (ae (bA (ag 1) (ag 5)) (ae (fQ T.b_len (ae (ag 3) ai)) ai)))))))
      (ax (aQ (kf T.b_tuple (ae (ag 4) ai)))))))) hL
theorem eG:aU ["_law_errands_here", "_law_ranks_here", "_law_found", "_law_place", "_law_length", "_law_tool"] ["_law_errands_here", "_law_ranks_here"] (aB i8):=⟨rfl,rfl,rfl,by decide +kernel,rfl,by decide +kernel,by decide +kernel⟩
theorem jh (T:Tx K mg cs) { gf:Gf} (hL:∀ ds,ds.length=2→gf ds≠.no→aV (e9 cs (ds.map some++List.replicate 4 none))=gf ds):aP P w K mg base 1 "_law_heights" 2 gf:=by
  obtain ⟨f,fd,F,b,m⟩:=T.f_law_heights
  exact aP.of (O:=[2]) (G:=e9 cs) F eG b m (by decide) (fun cdv A outer s H E hr=>(au (ly (i:=2) (nv (ae fm (ae fm (ae fm (ae fm ai))))) eG.nd)
      (au (ec PassesOwn.leaving rfl (wM T.b_range (ae (fK (fQ T.b_len (ae (ag 1) ai)) aw) (ae (jq aw) (ae (jq aw) ai)))) (fg (i:=3) (by decide)) (bo (i:=3) eG.nd rfl (by first | exact Or.inl rfl | exact Or.inr rfl)) (ax (ec PassesOwn.leaving rfl (df (bz (bz (ag 0) (bz (ag 1) (ag 3))) aw)) (lI (is:=[4,5]) (by decide)) (nR rfl (cU (bo (i:=4) eG.nd rfl (by first | exact Or.inl rfl | exact Or.inr rfl)) (cU (bo (i:=5) eG.nd rfl (by first | exact Or.inl rfl | exact Or.inr rfl)) lM))) (ax (cH (jB (ag 5)) (ax (yn (i:=2) (ag 3) (ag 5))) cc)))))
      (ax (aQ (ag 2)))))) hL
theorem dN:aU ["_law_errands_here", "_law_ranks_here", "_law_number", "_law_place", "_law_tools", "_law_found", "_law_lower", "_law_length", "_law_tool"] ["_law_errands_here", "_law_ranks_here", "_law_number"] (aB mJ):=⟨rfl,rfl,rfl,by decide +kernel,rfl,by decide +kernel,by decide +kernel⟩
theorem mE (T:Tx K mg cs) { bP gf:Gf} (jh:aP P w K mg base 1 "_law_heights" 2 bP) (hL:∀ ds,ds.length=3→gf ds≠.no→aV (iE cs bP (ds.map some++List.replicate 6 none))=gf ds):aP P w K mg base 2 "_law_hold" 3 gf:=by
  obtain ⟨f,fd,F,b,m⟩:=T.f_law_hold
  exact aP.of (O:=[]) (G:=iE cs bP) F dN b m (by decide) (fun cdv A outer s H E hr=>(au (a5 (i:=3) (nh (ag 1) (ag 2)) dN.nd)
      (au (a5 (i:=4) (aF jh hr aH (ae (ag 0) (ae (ag 1) ai))) dN.nd)
      (au (a5 (i:=5) aw dN.nd)
      (au (ec PassesOwn.leaving rfl (df (eu (ag 1) (eI (bA (ag 3) aw)) eE)) (fg (i:=6) (by decide)) (bo (i:=6) dN.nd rfl (by first | exact Or.inl rfl | exact Or.inr rfl)) (ax (ec PassesOwn.leaving rfl (df (bz (bz (ag 0) (ag 6)) aw)) (lI (is:=[7,8]) (by decide)) (nR rfl (cU (bo (i:=7) dN.nd rfl (by first | exact Or.inl rfl | exact Or.inr rfl)) (cU (bo (i:=8) dN.nd rfl (by first | exact Or.inl rfl | exact Or.inr rfl)) lM))) (ax (cH (nj (uf (jB (ag 8)) (qB (ue (bz (ag 4) (ag 8)) (ag 3))))) (ax (a5 (i:=5) (Co rfl T.b_max (ae (ag 5) (ae (fK (ag 7) aw) ai))) dN.nd)) cc)))))
      (ax (aQ (ag 5)))))))) hL
theorem vt:aU ["_law_errand_here"] ["_law_errand_here"] (aB mG):=⟨rfl,rfl,rfl,by decide +kernel,rfl,by decide +kernel,by decide +kernel⟩
theorem qQ:(["_law_errand_here", "_law_part"]:List Str).Nodup:=by decide +kernel
theorem jZ (T:Tx K mg cs) { gf:Gf} (hL:∀ ds,ds.length=1→gf ds≠.no→aV (ka cs (ds.map some++List.replicate 0 none))=gf ds):aP P w K mg base 1 "_law_work" 1 gf:=by
  obtain ⟨f,fd,F,b,m⟩:=T.f_law_work
  exact aP.of (O:=[]) (G:=ka cs) F vt b m (by decide) (fun cdv A outer s H E hr=>(ax (aQ (Bj rfl T.b_sum (ae (gW (d4 (M:=["_law_errand_here"]) (own:=["_law_part"]) (n0:=1) (cond:=cW) rfl (df (bz (ag 0) aw)) dq (fun _ _ _ _=>(bo (i:=1) qQ rfl (Or.inl rfl) (.inr rfl))) (fun _ _ _ _=>.nil) (fun σ H Q qz3=>(by obtain ⟨A,δ,R,o⟩:=qz3; exact o H (aM.refl _))) (fun _ _ _ _=>(bz (ag 1) aw)))) ai))))) hL
theorem da:aU ["_law_errands_here", "_law_ranks_here", "_law_number", "_law_time", "_law_found", "_law_other", "_law_every", "_law_due", "_law_late", "_law_parts", "_law_times"] ["_law_errands_here", "_law_ranks_here", "_law_number", "_law_time"] (aB mI):=⟨rfl,rfl,rfl,by decide +kernel,rfl,by decide +kernel,by decide +kernel⟩
theorem mH (T:Tx K mg cs) { bh b5 gf:Gf} (jZ:aP P w K mg base 1 "_law_work" 1 bh) (mE:aP P w K mg base 2 "_law_hold" 3 b5) (hL:∀ ds,ds.length=4→gf ds≠.no→aV (ir cs bh b5 (ds.map some++List.replicate 7 none))=gf ds):aP P w K mg base 3 "_law_need" 4 gf:=by
  obtain ⟨f,fd,F,b,m⟩:=T.f_law_need
  exact aP.of (O:=[]) (G:=ir cs bh b5) F da b m (by decide) (fun cdv A outer s H E hr=>(au (a5 (i:=4) (bA (aF mE hr aH (ae (ag 0) (ae (ag 1) (ae (ag 2) ai)))) (aF jZ hr aH (ae (bz (ag 0) (ag 2)) ai))) da.nd)
      (au (ec PassesOwn.leaving rfl (df (eu (ag 1) eE (eI (nh (ag 1) (ag 2))))) (fg (i:=5) (by decide)) (bo (i:=5) da.nd rfl (by first | exact Or.inl rfl | exact Or.inr rfl)) (au (xS (bz (ag 0) (ag 5)) (lI (is:=[6,7,8,9]) (by decide)) (nR rfl (cU (bo (i:=6) da.nd rfl (by first | exact Or.inl rfl | exact Or.inr rfl)) (cU (bo (i:=7) da.nd rfl (by first | exact Or.inl rfl | exact Or.inr rfl)) (cU (bo (i:=8) da.nd rfl (by first | exact Or.inl rfl | exact Or.inr rfl)) (cU (bo (i:=9) da.nd rfl (by first | exact Or.inl rfl | exact Or.inr rfl)) lM))))))
      (au (a5 (i:=10) (bA (wy (bA (ag 3) (ag 8)) (ag 6)) (uL T.b_int (ae (Eo (xg (bA (ag 3) (ag 8)) (ag 6)) aw) ai))) da.nd)
      (ax (a5 (i:=4) (bA (ag 4) (sA (ag 10) (aF jZ hr aH (ae (bz (ag 0) (ag 5)) ai)))) da.nd)))))
      (ax (aQ (ag 4)))))) hL
theorem kU:aU ["_law_errands_here", "_law_ranks_here", "_law_number", "_law_time"] ["_law_errands_here", "_law_ranks_here", "_law_number"] (aB ja):=⟨rfl,rfl,rfl,by decide +kernel,rfl,by decide +kernel,by decide +kernel⟩
theorem jn (T:Tx K mg cs) { cj gf:Gf} (mH:aP P w K mg base 3 "_law_need" 4 cj) (hL:∀ ds,ds.length=3→gf ds≠.no→aV (e8 cs cj (ds.map some++List.replicate 1 none))=gf ds):aP P w K mg base 4 "_law_longest" 3 gf:=by
  obtain ⟨f,fd,F,b,m⟩:=T.f_law_longest
  exact aP.of (O:=[]) (G:=e8 cs cj) F kU b m (by decide) (fun cdv A outer s H E hr=>(au (ec PassesOwn.leaving rfl (xv T.b_range (ae aw (ae (bA (fK (bz (bz (ag 0) (ag 2)) aw) (bz (bz (ag 0) (ag 2)) aw)) aw) ai))) (fg (i:=3) (by decide)) (bo (i:=3) kU.nd rfl (by first | exact Or.inl rfl | exact Or.inr rfl)) (ax (cH (ue (aF mH hr aH (ae (ag 0) (ae (ag 1) (ae (ag 2) (ae (ag 3) ai))))) (ag 3)) (ax (aQ (ag 3))) cc)))
      (ax (aQ fm)))) hL
theorem k6:aU ["_law_errands_here", "_law_ranks_here", "_law_number", "_law_found"] ["_law_errands_here", "_law_ranks_here", "_law_number"] (aB jl):=⟨rfl,rfl,rfl,by decide +kernel,rfl,by decide +kernel,by decide +kernel⟩
theorem jm (T:Tx K mg cs) { bT gf:Gf} (jn:aP P w K mg base 4 "_law_longest" 3 bT) (hL:∀ ds,ds.length=3→gf ds≠.no→aV (d6 cs bT (ds.map some++List.replicate 1 none))=gf ds):aP P w K mg base 5 "_law_in_time" 3 gf:=by
  obtain ⟨f,fd,F,b,m⟩:=T.f_law_in_time
  exact aP.of (O:=[]) (G:=d6 cs bT) F k6 b m (by decide) (fun cdv A outer s H E hr=>(au (a5 (i:=3) (aF jn hr aH (ae (ag 0) (ae (ag 1) (ae (ag 2) ai)))) k6.nd)
      (ax (aQ (tV (xY (ag 3)) (qD (CQ (ag 3) (bz (bz (ag 0) (ag 2)) aw)))))))) hL
theorem eQ:aU ["_law_errands_here", "_law_number", "_law_more", "_law_every", "_law_due", "_law_late", "_law_parts", "_law_longer"] ["_law_errands_here", "_law_number", "_law_more"] (aB lq):=⟨rfl,rfl,rfl,by decide +kernel,rfl,by decide +kernel,by decide +kernel⟩
theorem iX (T:Tx K mg cs) { gf:Gf} (hL:∀ ds,ds.length=3→gf ds≠.no→aV (gR cs (ds.map some++List.replicate 5 none))=gf ds):aP P w K mg base 1 "_law_grown" 3 gf:=by
  obtain ⟨f,fd,F,b,m⟩:=T.f_law_grown
  exact aP.of (O:=[]) (G:=gR cs) F eQ b m (by decide) (fun cdv A outer s H E hr=>(au (xS (bz (ag 0) (ag 1)) (lI (is:=[3,4,5,6]) (by decide)) (nR rfl (cU (bo (i:=3) eQ.nd rfl (by first | exact Or.inl rfl | exact Or.inr rfl)) (cU (bo (i:=4) eQ.nd rfl (by first | exact Or.inl rfl | exact Or.inr rfl)) (cU (bo (i:=5) eQ.nd rfl (by first | exact Or.inl rfl | exact Or.inr rfl)) (cU (bo (i:=6) eQ.nd rfl (by first | exact Or.inl rfl | exact Or.inr rfl)) lM))))))
      (au (a5 (i:=7) (f6 (ae (ag 3) (ae (ag 4) (ae (ag 5) (ae (bA (eu (ag 6) eE (eI (jq aw))) (f6 (ae (f6 (ae (bA (bz (bz (ag 6) (jq aw)) aw) (ag 2)) (ae fm ai))) ai))) ai))))) eQ.nd)
      (ax (aQ (bA (bA (eu (ag 0) eE (eI (ag 1))) (f6 (ae (ag 7) ai))) (eu (ag 0) (eI (bA (ag 1) aw)) eE))))))) hL
theorem mD:aU ["_law_errands_here", "_law_ranks_here"] ["_law_errands_here", "_law_ranks_here"] (aB fV):=⟨rfl,rfl,rfl,by decide +kernel,rfl,by decide +kernel,by decide +kernel⟩
theorem kL:(["_law_errands_here", "_law_ranks_here", "_law_number"]:List Str).Nodup:=by decide +kernel
theorem dr (T:Tx K mg cs) { bD gf:Gf} (jm:aP P w K mg base 5 "_law_in_time" 3 bD) (hL:∀ ds,ds.length=2→gf ds≠.no→aV (dg cs bD (ds.map some++List.replicate 0 none))=gf ds):aP P w K mg base 6 "_law_all_in_time" 2 gf:=by
  obtain ⟨f,fd,F,b,m⟩:=T.f_law_all_in_time
  exact aP.of (O:=[]) (G:=dg cs bD) F mD b m (by decide) (fun cdv A outer s H E hr=>(ax (aQ (CC hr (gW (d4 (M:=["_law_errands_here", "_law_ranks_here"]) (own:=["_law_number"]) (n0:=2) (cond:=(fF (gT (ay bD (af (ah 0) (af (ah 1) (af (ah 2) ar))))))) rfl (df (ag 1)) dq (fun _ _ _ _=>(bo (i:=2) kL rfl (Or.inl rfl) (.inr rfl))) (fun _ _ _ _=>(pk (cV (cf (aF jm hr iG (ae (ag 0) (ae (ag 1) (ae (ag 2) ai)))))))) (fun _ _ _ h=>h) (fun _ _ _ _=>(ag 2)))) (sT ai))))) hL
theorem nP:aU ["_law_script", "_law_errands_here", "_law_ranks_here", "_law_number", "_law_answer"] ["_law_script"] (aB rV):=⟨rfl,rfl,rfl,by decide +kernel,rfl,by decide +kernel,by decide +kernel⟩
theorem law_fn (T:Tx K mg cs) {f:Addr} {fd:FuncData} (F:Fun K "law" "law" rV f fd) { aL bE b8 ak a9 bJ a8 gf:Gf} (dr:aP P w K mg base 6 "_law_all_in_time" 2 aL) (iX:aP P w K mg base 1 "_law_grown" 3 bE) (ud:aP P w K mg base 10 "spare" 3 b8) (bZ:aP P w K mg base 2 "_law_mixed" 3 ak) (lz:aP P w K mg base 11 "fitting" 1 a9) (kY:aP P w K mg base 3 "_law_ranks" 3 bJ) (jj:aP P w K mg base 4 "_law_errands" 5 a8) (hL:∀ ds,ds.length=1→gf ds≠.no→aV (pQ cs aL bE b8 ak a9 bJ a8 (ds.map some++List.replicate 4 none))=gf ds):kq P w K mg base (CXW P w) 12 f fd ["_law_script"] (spD K 1 gf) :=
  Cy (O:=[]) (G:=pQ cs aL bE b8 ak a9 bJ a8) F nP (by decide) (fun cdv A outer s H E hr=>(au (a5 (i:=1) (aF jj hr aH (ae (ag 0) (ae aw (ae aw (ae aw (ae kA ai)))))) nP.nd)
      (au (a5 (i:=2) (aF kY hr aH (ae (ag 0) (ae aw (ae (fQ T.b_len (ae (ag 1) ai)) ai)))) nP.nd)
      (au (cH (nj (uf (Dv (aF bZ hr aH (ae (ag 0) (ae aw (ae aw ai)))) aw) (qB (jB (aF lz hr aH (ae (ag 1) ai)))))) (ax (a5 (i:=2) (aF lz hr aH (ae (ag 1) ai)) nP.nd)) cc)
      (au (ec PassesOwn.leaving rfl (ft T.b_range (ae (fQ T.b_len (ae (ag 1) ai)) ai)) (fg (i:=3) (by decide)) (bo (i:=3) nP.nd rfl (by first | exact Or.inl rfl | exact Or.inr rfl)) (au (a5 (i:=4) (aF ud hr aH (ae (ag 1) (ae (ag 2) (ae (ag 3) ai)))) nP.nd)
      (ax (cH (cV (cf (aF dr hr aH (ae (ag 1) (ae (ag 2) ai))))) (ax (cH (jB (ag 4)) (ax (aQ kA)) cc)) (au (cH (nj (ml (cf (jF T.b_isinstance T.b_bool xI (by simp) (ag 4))) (ml (cV (cf (jF T.b_isinstance T.b_int xt (by simp) (ag 4)))) (lJ (Ba (ag 4) aw))))) (ax (aQ kA)) cc)
      (au (cH (cV (cf (aF dr hr aH (ae (aF iX hr aH (ae (ag 1) (ae (ag 3) (ae (ag 4) ai)))) (ae (ag 2) ai))))) (ax (aQ kA)) cc)
      (ax (cH (cf (aF dr hr aH (ae (aF iX hr aH (ae (ag 1) (ae (ag 3) (ae (bA (ag 4) aw) ai)))) (ae (ag 2) ai)))) (ax (aQ kA)) cc))))))))
      (ax (aQ kA))))))) hL
theorem law_ok (T:Tx K mg cs) {f:Addr} {fd:FuncData} (F:Fun K "law" "law" rV f fd):kq P w K mg base (CXW P w) 12 f fd ["_law_script"] (spD K 1 (fh 63)):=by
  have d_law_work:=jZ (P:=P) (w:=w) (base:=base) T (pD cs)
  have d_law_heights:=jh (P:=P) (w:=w) (base:=base) T (qP cs)
  have d_law_hold:=mE (P:=P) (w:=w) (base:=base) T d_law_heights (wU cs)
  have d_law_need:=mH (P:=P) (w:=w) (base:=base) T d_law_work d_law_hold (xx cs)
  have d_law_longest:=jn (P:=P) (w:=w) (base:=base) T d_law_need (rq cs)
  have d_law_in_time:=jm (P:=P) (w:=w) (base:=base) T d_law_longest (qU cs)
  have d_law_all_in_time:=dr (P:=P) (w:=w) (base:=base) T d_law_in_time (mT cs)
  have d_law_grown:=iX (P:=P) (w:=w) (base:=base) T (vG cs)
  have d_with_errand:=i9 (P:=P) (w:=w) (base:=base) T (qY cs)
  have d_with_longer_end:=fL (P:=P) (w:=w) (base:=base) T d_with_errand (nz cs)
  have d_has_tool:=mj (P:=P) (w:=w) (base:=base) T (wV cs)
  have d_height:=qL (P:=P) (w:=w) (base:=base) T d_has_tool (zR cs)
  have d_heights_of:=jS (P:=P) (w:=w) (base:=base) T d_height (ub cs)
  have d_holdings:=mM (P:=P) (w:=w) (base:=base) T d_heights_of (n8 T) (v5 cs)
  have d_hold_by_high:=ig (P:=P) (w:=w) (base:=base) T d_holdings (pM cs)
  have d_work_of:=lH (P:=P) (w:=w) (base:=base) T (yG cs)
  have d_rounded_up:=ke (P:=P) (w:=w) (base:=base) T (t8 cs)
  have d_need:=sW (P:=P) (w:=w) (base:=base) T d_work_of d_rounded_up (DW cs)
  have d_levels_by:=kG (P:=P) (w:=w) (base:=base) T d_need (vO cs)
  have d_longest_by:=j6 (P:=P) (w:=w) (base:=base) T d_levels_by (ui cs)
  have d_longest_by_high:=fP (P:=P) (w:=w) (base:=base) T d_hold_by_high d_longest_by (nL cs)
  have d_has_room:=ik (P:=P) (w:=w) (base:=base) T d_longest_by_high (xn cs)
  have d_is_in_time:=kl (P:=P) (w:=w) (base:=base) T d_has_room (sv cs)
  have d_do_fit:=nI (P:=P) (w:=w) (base:=base) T d_is_in_time (AL cs)
  have d_is_whole:=cQ (P:=P) (w:=w) (base:=base) T (xm cs)
  have d_checked_number:=gD (P:=P) (w:=w) (base:=base) T d_is_whole (nZ cs)
  have d_is_tuple:=cY (P:=P) (w:=w) (base:=base) T (wq cs)
  have d_checked_ranks:=gY (P:=P) (w:=w) (base:=base) T d_is_tuple d_is_whole (oU cs)
  have d_is_part:=oz (P:=P) (w:=w) (base:=base) T d_is_whole d_is_tuple (yM cs)
  have d_are_parts:=kD (P:=P) (w:=w) (base:=base) T d_is_tuple d_is_part (uI cs)
  have d_is_errand:=lj (P:=P) (w:=w) (base:=base) T d_is_whole d_are_parts d_is_tuple (u6 cs)
  have d_checked:=jI (P:=P) (w:=w) (base:=base) T d_is_tuple d_is_errand (zB cs)
  have d_check_place:=jk (P:=P) (w:=w) (base:=base) T d_checked_number d_checked_ranks d_checked (qW cs)
  have d_spare:=ud (P:=P) (w:=w) (base:=base) T d_with_longer_end d_do_fit d_check_place (Cz cs)
  have d_law_mixed:=bZ (P:=P) (w:=w) (base:=base) T
  have d_as_lowest:=lh (P:=P) (w:=w) (base:=base) T (uz cs)
  have d_not_placed:=kg (P:=P) (w:=w) (base:=base) T (ug cs)
  have d_following_lowest:=dP (P:=P) (w:=w) (base:=base) T d_as_lowest d_has_room d_not_placed (md cs)
  have d_placed_from_below:=e6 (P:=P) (w:=w) (base:=base) T d_following_lowest (lO cs)
  have d_ranks_with_room:=fZ (P:=P) (w:=w) (base:=base) T d_placed_from_below (mS cs)
  have d_fitting:=lz (P:=P) (w:=w) (base:=base) T d_ranks_with_room d_checked (zf cs)
  have d_law_ranks:=kY (P:=P) (w:=w) (base:=base) T d_law_mixed (ve cs)
  have d_law_errand:=ki (P:=P) (w:=w) (base:=base) T d_law_mixed (uk cs)
  have d_law_errands:=jj (P:=P) (w:=w) (base:=base) T d_law_errand d_law_mixed (rh cs)
  exact law_fn T F d_law_all_in_time d_law_grown d_spare d_law_mixed d_fitting d_law_ranks d_law_errands (Ec cs)
end
end RS
namespace RS
theorem mL {n:Nat} {us:List PySem.Value} (h:us.length=n + 1):∃ a t,us=a::t∧t.length=n:=by
  cases us with
  | nil=>cases h
  | cons a t=>exact ⟨a,t,rfl,Nat.succ.inj h⟩
theorem tU {us:List PySem.Value} (h:us.length=1):∃ a0,us=[a0]:=by
  obtain ⟨a0,t0,e0,h0⟩:=mL h
  have e:=List.eq_nil_of_length_eq_zero h0
  exact ⟨_,by rw [e0,e]⟩
theorem oY {us:List PySem.Value} (h:us.length=2):∃ a0 a1,us=[a0,a1]:=by
  obtain ⟨a0,t0,e0,h0⟩:=mL h
  obtain ⟨a1,t1,e1,h1⟩:=mL h0
  have e:=List.eq_nil_of_length_eq_zero h1
  exact ⟨_,_,by rw [e0,e1,e]⟩
theorem jR {us:List PySem.Value} (h:us.length=3):∃ a0 a1 a2,us=[a0,a1,a2]:=by
  obtain ⟨a0,t0,e0,h0⟩:=mL h
  obtain ⟨a1,t1,e1,h1⟩:=mL h0
  obtain ⟨a2,t2,e2,h2⟩:=mL h1
  have e:=List.eq_nil_of_length_eq_zero h2
  exact ⟨_,_,_,by rw [e0,e1,e2,e]⟩
theorem AA {us:List PySem.Value} (h:us.length=4):∃ a0 a1 a2 a3,us=[a0,a1,a2,a3]:=by
  obtain ⟨a0,t0,e0,h0⟩:=mL h
  obtain ⟨a1,t1,e1,h1⟩:=mL h0
  obtain ⟨a2,t2,e2,h2⟩:=mL h1
  obtain ⟨a3,t3,e3,h3⟩:=mL h2
  have e:=List.eq_nil_of_length_eq_zero h3
  exact ⟨_,_,_,_,by rw [e0,e1,e2,e3,e]⟩
theorem C3 {us:List PySem.Value} (h:us.length=5):∃ a0 a1 a2 a3 a4,us=[a0,a1,a2,a3,a4]:=by
  obtain ⟨a0,t0,e0,h0⟩:=mL h
  obtain ⟨a1,t1,e1,h1⟩:=mL h0
  obtain ⟨a2,t2,e2,h2⟩:=mL h1
  obtain ⟨a3,t3,e3,h3⟩:=mL h2
  obtain ⟨a4,t4,e4,h4⟩:=mL h3
  have e:=List.eq_nil_of_length_eq_zero h4
  exact ⟨_,_,_,_,_,by rw [e0,e1,e2,e3,e4,e]⟩
end RS
open PySem PySem.W PyProof.Rows
set_option maxRecDepth 100000 in
set_option maxHeartbeats 0 in
theorem PySem.Challenge.cw_ranksure_k17_whole_spare_holds : PySem.Challenge.rw_ranksure_k17_whole_spare.Holds := by
  refine RS.hdTop ?_
  k_fill
  refine RS.EB (l:=PySem.Challenge.rw_ranksure_k17_whole_spare) (n:=63) (k:=12) (x:="_law_script") (st:=RS.rV) rfl (by decide) rfl ⟨rfl,by decide,by decide⟩ (fun w h Y=>PySem.W.kIn_of Y) (fun _ _ _ _ _ _ us hl=>by obtain ⟨_,rfl⟩:=RS.tU hl; rfl) ?F
  case F =>
    intro w mg h KX G
    have f_is_whole:RS.aR (L2.KOf KX) mg "is_whole" RS.me ["thing", "least", "most"]:=by
      delta L2.KOf
      refine' RS.aS KX G (fun _ _ _ _ _ _ us hl=>by obtain ⟨_,_,_,rfl⟩:=RS.jR hl; rfl) ?a_is_whole ?l_is_whole ?c_is_whole ?k_is_whole
      (case a_is_whole=>k_is); (case l_is_whole=>k_is); (case c_is_whole=>k_is); (case k_is_whole=>k_is)
    have f_is_tuple:RS.aR (L2.KOf KX) mg "is_tuple" RS.mQ ["thing", "fewest", "most"]:=by
      delta L2.KOf
      refine' RS.aS KX G (fun _ _ _ _ _ _ us hl=>by obtain ⟨_,_,_,rfl⟩:=RS.jR hl; rfl) ?a_is_tuple ?l_is_tuple ?c_is_tuple ?k_is_tuple
      (case a_is_tuple=>k_is); (case l_is_tuple=>k_is); (case c_is_tuple=>k_is); (case k_is_tuple=>k_is)
    have f_is_part:RS.aR (L2.KOf KX) mg "is_part" RS.n6 ["thing"]:=by
      delta L2.KOf
      refine' RS.aS KX G (fun _ _ _ _ _ _ us hl=>by obtain ⟨_,rfl⟩:=RS.tU hl; rfl) ?a_is_part ?l_is_part ?c_is_part ?k_is_part
      (case a_is_part=>k_is); (case l_is_part=>k_is); (case c_is_part=>k_is); (case k_is_part=>k_is)
    have f_are_parts:RS.aR (L2.KOf KX) mg "are_parts" RS.kM ["thing"]:=by
      delta L2.KOf
      refine' RS.aS KX G (fun _ _ _ _ _ _ us hl=>by obtain ⟨_,rfl⟩:=RS.tU hl; rfl) ?a_are_parts ?l_are_parts ?c_are_parts ?k_are_parts
      (case a_are_parts=>k_is); (case l_are_parts=>k_is); (case c_are_parts=>k_is); (case k_are_parts=>k_is)
    have f_is_errand:RS.aR (L2.KOf KX) mg "is_errand" RS.kW ["thing"]:=by
      delta L2.KOf
      refine' RS.aS KX G (fun _ _ _ _ _ _ us hl=>by obtain ⟨_,rfl⟩:=RS.tU hl; rfl) ?a_is_errand ?l_is_errand ?c_is_errand ?k_is_errand
      (case a_is_errand=>k_is); (case l_is_errand=>k_is); (case c_is_errand=>k_is); (case k_is_errand=>k_is)
    have f_checked:RS.aR (L2.KOf KX) mg "checked" RS.nV ["errands"]:=by
      delta L2.KOf
      refine' RS.aS KX G (fun _ _ _ _ _ _ us hl=>by obtain ⟨_,rfl⟩:=RS.tU hl; rfl) ?a_checked ?l_checked ?c_checked ?k_checked
      (case a_checked=>k_is); (case l_checked=>k_is); (case c_checked=>k_is); (case k_checked=>k_is)
    have f_checked_ranks:RS.aR (L2.KOf KX) mg "checked_ranks" RS.gX ["errands", "ranks"]:=by
      delta L2.KOf
      refine' RS.aS KX G (fun _ _ _ _ _ _ us hl=>by obtain ⟨_,_,rfl⟩:=RS.oY hl; rfl) ?a_checked_ranks ?l_checked_ranks ?c_checked_ranks ?k_checked_ranks
      (case a_checked_ranks=>k_is); (case l_checked_ranks=>k_is); (case c_checked_ranks=>k_is); (case k_checked_ranks=>k_is)
    have f_checked_number:RS.aR (L2.KOf KX) mg "checked_number" RS.gE ["errands", "number"]:=by
      delta L2.KOf
      refine' RS.aS KX G (fun _ _ _ _ _ _ us hl=>by obtain ⟨_,_,rfl⟩:=RS.oY hl; rfl) ?a_checked_number ?l_checked_number ?c_checked_number ?k_checked_number
      (case a_checked_number=>k_is); (case l_checked_number=>k_is); (case c_checked_number=>k_is); (case k_checked_number=>k_is)
    have f_check_place:RS.aR (L2.KOf KX) mg "check_place" RS.ji ["errands", "ranks", "number"]:=by
      delta L2.KOf
      refine' RS.aS KX G (fun _ _ _ _ _ _ us hl=>by obtain ⟨_,_,_,rfl⟩:=RS.jR hl; rfl) ?a_check_place ?l_check_place ?c_check_place ?k_check_place
      (case a_check_place=>k_is); (case l_check_place=>k_is); (case c_check_place=>k_is); (case k_check_place=>k_is)
    have f_work_of:RS.aR (L2.KOf KX) mg "work_of" RS.om ["errand"]:=by
      delta L2.KOf
      refine' RS.aS KX G (fun _ _ _ _ _ _ us hl=>by obtain ⟨_,rfl⟩:=RS.tU hl; rfl) ?a_work_of ?l_work_of ?c_work_of ?k_work_of
      (case a_work_of=>k_is); (case l_work_of=>k_is); (case c_work_of=>k_is); (case k_work_of=>k_is)
    have f_has_tool:RS.aR (L2.KOf KX) mg "has_tool" RS.mK ["errand", "tool"]:=by
      delta L2.KOf
      refine' RS.aS KX G (fun _ _ _ _ _ _ us hl=>by obtain ⟨_,_,rfl⟩:=RS.oY hl; rfl) ?a_has_tool ?l_has_tool ?c_has_tool ?k_has_tool
      (case a_has_tool=>k_is); (case l_has_tool=>k_is); (case c_has_tool=>k_is); (case k_has_tool=>k_is)
    have f_height:RS.aR (L2.KOf KX) mg "height" RS.qg ["errands", "ranks", "tool"]:=by
      delta L2.KOf
      refine' RS.aS KX G (fun _ _ _ _ _ _ us hl=>by obtain ⟨_,_,_,rfl⟩:=RS.jR hl; rfl) ?a_height ?l_height ?c_height ?k_height
      (case a_height=>k_is); (case l_height=>k_is); (case c_height=>k_is); (case k_height=>k_is)
    have f_heights_of:RS.aR (L2.KOf KX) mg "heights_of" RS.ku ["errands", "ranks"]:=by
      delta L2.KOf
      refine' RS.aS KX G (fun _ _ _ _ _ _ us hl=>by obtain ⟨_,_,rfl⟩:=RS.oY hl; rfl) ?a_heights_of ?l_heights_of ?c_heights_of ?k_heights_of
      (case a_heights_of=>k_is); (case l_heights_of=>k_is); (case c_heights_of=>k_is); (case k_heights_of=>k_is)
    have f_holdings:RS.aR (L2.KOf KX) mg "holdings" RS.my ["errands", "ranks", "number"]:=by
      delta L2.KOf
      refine' RS.aS KX G (fun _ _ _ _ _ _ us hl=>by obtain ⟨_,_,_,rfl⟩:=RS.jR hl; rfl) ?a_holdings ?l_holdings ?c_holdings ?k_holdings
      (case a_holdings=>k_is); (case l_holdings=>k_is); (case c_holdings=>k_is); (case k_holdings=>k_is)
    have f_hold_by_high:RS.aR (L2.KOf KX) mg "hold_by_high" RS.iN ["errands", "ranks", "number"]:=by
      delta L2.KOf
      refine' RS.aS KX G (fun _ _ _ _ _ _ us hl=>by obtain ⟨_,_,_,rfl⟩:=RS.jR hl; rfl) ?a_hold_by_high ?l_hold_by_high ?c_hold_by_high ?k_hold_by_high
      (case a_hold_by_high=>k_is); (case l_hold_by_high=>k_is); (case c_hold_by_high=>k_is); (case k_hold_by_high=>k_is)
    have f_rounded_up:RS.aR (L2.KOf KX) mg "rounded_up" RS.jQ ["times", "every"]:=by
      delta L2.KOf
      refine' RS.aS KX G (fun _ _ _ _ _ _ us hl=>by obtain ⟨_,_,rfl⟩:=RS.oY hl; rfl) ?a_rounded_up ?l_rounded_up ?c_rounded_up ?k_rounded_up
      (case a_rounded_up=>k_is); (case l_rounded_up=>k_is); (case c_rounded_up=>k_is); (case k_rounded_up=>k_is)
    have f_need:RS.aR (L2.KOf KX) mg "need" RS.wj ["errands", "ranks", "number", "held_up", "times"]:=by
      delta L2.KOf
      refine' RS.aS KX G (fun _ _ _ _ _ _ us hl=>by obtain ⟨_,_,_,_,_,rfl⟩:=RS.C3 hl; rfl) ?a_need ?l_need ?c_need ?k_need
      (case a_need=>k_is); (case l_need=>k_is); (case c_need=>k_is); (case k_need=>k_is)
    have f_levels_by:RS.aR (L2.KOf KX) mg "levels_by" RS.lr ["errands", "ranks", "number", "held_up"]:=by
      delta L2.KOf
      refine' RS.aS KX G (fun _ _ _ _ _ _ us hl=>by obtain ⟨_,_,_,_,rfl⟩:=RS.AA hl; rfl) ?a_levels_by ?l_levels_by ?c_levels_by ?k_levels_by
      (case a_levels_by=>k_is); (case l_levels_by=>k_is); (case c_levels_by=>k_is); (case k_levels_by=>k_is)
    have f_longest_by:RS.aR (L2.KOf KX) mg "longest_by" RS.j7 ["errands", "ranks", "number", "held_up"]:=by
      delta L2.KOf
      refine' RS.aS KX G (fun _ _ _ _ _ _ us hl=>by obtain ⟨_,_,_,_,rfl⟩:=RS.AA hl; rfl) ?a_longest_by ?l_longest_by ?c_longest_by ?k_longest_by
      (case a_longest_by=>k_is); (case l_longest_by=>k_is); (case c_longest_by=>k_is); (case k_longest_by=>k_is)
    have f_longest_by_high:RS.aR (L2.KOf KX) mg "longest_by_high" RS.fH ["errands", "ranks", "number"]:=by
      delta L2.KOf
      refine' RS.aS KX G (fun _ _ _ _ _ _ us hl=>by obtain ⟨_,_,_,rfl⟩:=RS.jR hl; rfl) ?a_longest_by_high ?l_longest_by_high ?c_longest_by_high ?k_longest_by_high
      (case a_longest_by_high=>k_is); (case l_longest_by_high=>k_is); (case c_longest_by_high=>k_is); (case k_longest_by_high=>k_is)
    have f_has_room:RS.aR (L2.KOf KX) mg "has_room" RS.mh ["errands", "ranks", "number", "room"]:=by
      delta L2.KOf
      refine' RS.aS KX G (fun _ _ _ _ _ _ us hl=>by obtain ⟨_,_,_,_,rfl⟩:=RS.AA hl; rfl) ?a_has_room ?l_has_room ?c_has_room ?k_has_room
      (case a_has_room=>k_is); (case l_has_room=>k_is); (case c_has_room=>k_is); (case k_has_room=>k_is)
    have f_is_in_time:RS.aR (L2.KOf KX) mg "is_in_time" RS.j4 ["errands", "ranks", "number"]:=by
      delta L2.KOf
      refine' RS.aS KX G (fun _ _ _ _ _ _ us hl=>by obtain ⟨_,_,_,rfl⟩:=RS.jR hl; rfl) ?a_is_in_time ?l_is_in_time ?c_is_in_time ?k_is_in_time
      (case a_is_in_time=>k_is); (case l_is_in_time=>k_is); (case c_is_in_time=>k_is); (case k_is_in_time=>k_is)
    have f_as_lowest:RS.aR (L2.KOf KX) mg "as_lowest" RS.kN ["errands", "some", "number"]:=by
      delta L2.KOf
      refine' RS.aS KX G (fun _ _ _ _ _ _ us hl=>by obtain ⟨_,_,_,rfl⟩:=RS.jR hl; rfl) ?a_as_lowest ?l_as_lowest ?c_as_lowest ?k_as_lowest
      (case a_as_lowest=>k_is); (case l_as_lowest=>k_is); (case c_as_lowest=>k_is); (case k_as_lowest=>k_is)
    have f_not_placed:RS.aR (L2.KOf KX) mg "not_placed" RS.km ["errands", "placed"]:=by
      delta L2.KOf
      refine' RS.aS KX G (fun _ _ _ _ _ _ us hl=>by obtain ⟨_,_,rfl⟩:=RS.oY hl; rfl) ?a_not_placed ?l_not_placed ?c_not_placed ?k_not_placed
      (case a_not_placed=>k_is); (case l_not_placed=>k_is); (case c_not_placed=>k_is); (case k_not_placed=>k_is)
    have f_following_lowest:RS.aR (L2.KOf KX) mg "following_lowest" RS.fo ["errands", "placed", "room"]:=by
      delta L2.KOf
      refine' RS.aS KX G (fun _ _ _ _ _ _ us hl=>by obtain ⟨_,_,_,rfl⟩:=RS.jR hl; rfl) ?a_following_lowest ?l_following_lowest ?c_following_lowest ?k_following_lowest
      (case a_following_lowest=>k_is); (case l_following_lowest=>k_is); (case c_following_lowest=>k_is); (case k_following_lowest=>k_is)
    have f_placed_from_below:RS.aR (L2.KOf KX) mg "placed_from_below" RS.eZ ["errands", "room"]:=by
      delta L2.KOf
      refine' RS.aS KX G (fun _ _ _ _ _ _ us hl=>by obtain ⟨_,_,rfl⟩:=RS.oY hl; rfl) ?a_placed_from_below ?l_placed_from_below ?c_placed_from_below ?k_placed_from_below
      (case a_placed_from_below=>k_is); (case l_placed_from_below=>k_is); (case c_placed_from_below=>k_is); (case k_placed_from_below=>k_is)
    have f_ranks_with_room:RS.aR (L2.KOf KX) mg "ranks_with_room" RS.fM ["errands", "room"]:=by
      delta L2.KOf
      refine' RS.aS KX G (fun _ _ _ _ _ _ us hl=>by obtain ⟨_,_,rfl⟩:=RS.oY hl; rfl) ?a_ranks_with_room ?l_ranks_with_room ?c_ranks_with_room ?k_ranks_with_room
      (case a_ranks_with_room=>k_is); (case l_ranks_with_room=>k_is); (case c_ranks_with_room=>k_is); (case k_ranks_with_room=>k_is)
    have f_fitting:RS.aR (L2.KOf KX) mg "fitting" RS.oy ["errands"]:=by
      delta L2.KOf
      refine' RS.aS KX G (fun _ _ _ _ _ _ us hl=>by obtain ⟨_,rfl⟩:=RS.tU hl; rfl) ?a_fitting ?l_fitting ?c_fitting ?k_fitting
      (case a_fitting=>k_is); (case l_fitting=>k_is); (case c_fitting=>k_is); (case k_fitting=>k_is)
    have f_do_fit:RS.aR (L2.KOf KX) mg "do_fit" RS.qt ["errands", "ranks"]:=by
      delta L2.KOf
      refine' RS.aS KX G (fun _ _ _ _ _ _ us hl=>by obtain ⟨_,_,rfl⟩:=RS.oY hl; rfl) ?a_do_fit ?l_do_fit ?c_do_fit ?k_do_fit
      (case a_do_fit=>k_is); (case l_do_fit=>k_is); (case c_do_fit=>k_is); (case k_do_fit=>k_is)
    have f_with_errand:RS.aR (L2.KOf KX) mg "with_errand" RS.je ["errands", "number", "errand"]:=by
      delta L2.KOf
      refine' RS.aS KX G (fun _ _ _ _ _ _ us hl=>by obtain ⟨_,_,_,rfl⟩:=RS.jR hl; rfl) ?a_with_errand ?l_with_errand ?c_with_errand ?k_with_errand
      (case a_with_errand=>k_is); (case l_with_errand=>k_is); (case c_with_errand=>k_is); (case k_with_errand=>k_is)
    have f_with_longer_end:RS.aR (L2.KOf KX) mg "with_longer_end" RS.fN ["errands", "number", "times"]:=by
      delta L2.KOf
      refine' RS.aS KX G (fun _ _ _ _ _ _ us hl=>by obtain ⟨_,_,_,rfl⟩:=RS.jR hl; rfl) ?a_with_longer_end ?l_with_longer_end ?c_with_longer_end ?k_with_longer_end
      (case a_with_longer_end=>k_is); (case l_with_longer_end=>k_is); (case c_with_longer_end=>k_is); (case k_with_longer_end=>k_is)
    have f_spare:RS.aR (L2.KOf KX) mg "spare" RS.sN ["errands", "ranks", "number"]:=by
      delta L2.KOf
      refine' RS.aS KX G (fun _ _ _ _ _ _ us hl=>by obtain ⟨_,_,_,rfl⟩:=RS.jR hl; rfl) ?a_spare ?l_spare ?c_spare ?k_spare
      (case a_spare=>k_is); (case l_spare=>k_is); (case c_spare=>k_is); (case k_spare=>k_is)
    have f_law_cell_at:RS.aR (L2.KOf KX) mg "_law_cell_at" RS.fc ["_law_script", "_law_k"]:=by
      delta L2.KOf
      refine' RS.aS KX G (fun _ _ _ _ _ _ us hl=>by obtain ⟨_,_,rfl⟩:=RS.oY hl; rfl) ?a_law_cell_at ?l_law_cell_at ?c_law_cell_at ?k_law_cell_at
      (case a_law_cell_at=>k_is); (case l_law_cell_at=>k_is); (case c_law_cell_at=>k_is); (case k_law_cell_at=>k_is)
    have f_law_mixed:RS.aR (L2.KOf KX) mg "_law_mixed" RS.iW ["_law_script", "_law_k", "_law_many"]:=by
      delta L2.KOf
      refine' RS.aS KX G (fun _ _ _ _ _ _ us hl=>by obtain ⟨_,_,_,rfl⟩:=RS.jR hl; rfl) ?a_law_mixed ?l_law_mixed ?c_law_mixed ?k_law_mixed
      (case a_law_mixed=>k_is); (case l_law_mixed=>k_is); (case c_law_mixed=>k_is); (case k_law_mixed=>k_is)
    have f_law_errand:RS.aR (L2.KOf KX) mg "_law_errand" RS.kj ["_law_script", "_law_at", "_law_top", "_law_tools"]:=by
      delta L2.KOf
      refine' RS.aS KX G (fun _ _ _ _ _ _ us hl=>by obtain ⟨_,_,_,_,rfl⟩:=RS.AA hl; rfl) ?a_law_errand ?l_law_errand ?c_law_errand ?k_law_errand
      (case a_law_errand=>k_is); (case l_law_errand=>k_is); (case c_law_errand=>k_is); (case k_law_errand=>k_is)
    have f_law_errands:RS.aR (L2.KOf KX) mg "_law_errands" RS.jd ["_law_script", "_law_at", "_law_most", "_law_top", "_law_tools"]:=by
      delta L2.KOf
      refine' RS.aS KX G (fun _ _ _ _ _ _ us hl=>by obtain ⟨_,_,_,_,_,rfl⟩:=RS.C3 hl; rfl) ?a_law_errands ?l_law_errands ?c_law_errands ?k_law_errands
      (case a_law_errands=>k_is); (case l_law_errands=>k_is); (case c_law_errands=>k_is); (case k_law_errands=>k_is)
    have f_law_ranks:RS.aR (L2.KOf KX) mg "_law_ranks" RS.kC ["_law_script", "_law_at", "_law_many"]:=by
      delta L2.KOf
      refine' RS.aS KX G (fun _ _ _ _ _ _ us hl=>by obtain ⟨_,_,_,rfl⟩:=RS.jR hl; rfl) ?a_law_ranks ?l_law_ranks ?c_law_ranks ?k_law_ranks
      (case a_law_ranks=>k_is); (case l_law_ranks=>k_is); (case c_law_ranks=>k_is); (case k_law_ranks=>k_is)
    have f_law_heights:RS.aR (L2.KOf KX) mg "_law_heights" RS.i8 ["_law_errands_here", "_law_ranks_here"]:=by
      delta L2.KOf
      refine' RS.aS KX G (fun _ _ _ _ _ _ us hl=>by obtain ⟨_,_,rfl⟩:=RS.oY hl; rfl) ?a_law_heights ?l_law_heights ?c_law_heights ?k_law_heights
      (case a_law_heights=>k_is); (case l_law_heights=>k_is); (case c_law_heights=>k_is); (case k_law_heights=>k_is)
    have f_law_hold:RS.aR (L2.KOf KX) mg "_law_hold" RS.mJ ["_law_errands_here", "_law_ranks_here", "_law_number"]:=by
      delta L2.KOf
      refine' RS.aS KX G (fun _ _ _ _ _ _ us hl=>by obtain ⟨_,_,_,rfl⟩:=RS.jR hl; rfl) ?a_law_hold ?l_law_hold ?c_law_hold ?k_law_hold
      (case a_law_hold=>k_is); (case l_law_hold=>k_is); (case c_law_hold=>k_is); (case k_law_hold=>k_is)
    have f_law_work:RS.aR (L2.KOf KX) mg "_law_work" RS.mG ["_law_errand_here"]:=by
      delta L2.KOf
      refine' RS.aS KX G (fun _ _ _ _ _ _ us hl=>by obtain ⟨_,rfl⟩:=RS.tU hl; rfl) ?a_law_work ?l_law_work ?c_law_work ?k_law_work
      (case a_law_work=>k_is); (case l_law_work=>k_is); (case c_law_work=>k_is); (case k_law_work=>k_is)
    have f_law_need:RS.aR (L2.KOf KX) mg "_law_need" RS.mI ["_law_errands_here", "_law_ranks_here", "_law_number", "_law_time"]:=by
      delta L2.KOf
      refine' RS.aS KX G (fun _ _ _ _ _ _ us hl=>by obtain ⟨_,_,_,_,rfl⟩:=RS.AA hl; rfl) ?a_law_need ?l_law_need ?c_law_need ?k_law_need
      (case a_law_need=>k_is); (case l_law_need=>k_is); (case c_law_need=>k_is); (case k_law_need=>k_is)
    have f_law_longest:RS.aR (L2.KOf KX) mg "_law_longest" RS.ja ["_law_errands_here", "_law_ranks_here", "_law_number"]:=by
      delta L2.KOf
      refine' RS.aS KX G (fun _ _ _ _ _ _ us hl=>by obtain ⟨_,_,_,rfl⟩:=RS.jR hl; rfl) ?a_law_longest ?l_law_longest ?c_law_longest ?k_law_longest
      (case a_law_longest=>k_is); (case l_law_longest=>k_is); (case c_law_longest=>k_is); (case k_law_longest=>k_is)
    have f_law_in_time:RS.aR (L2.KOf KX) mg "_law_in_time" RS.jl ["_law_errands_here", "_law_ranks_here", "_law_number"]:=by
      delta L2.KOf
      refine' RS.aS KX G (fun _ _ _ _ _ _ us hl=>by obtain ⟨_,_,_,rfl⟩:=RS.jR hl; rfl) ?a_law_in_time ?l_law_in_time ?c_law_in_time ?k_law_in_time
      (case a_law_in_time=>k_is); (case l_law_in_time=>k_is); (case c_law_in_time=>k_is); (case k_law_in_time=>k_is)
    have f_law_grown:RS.aR (L2.KOf KX) mg "_law_grown" RS.lq ["_law_errands_here", "_law_number", "_law_more"]:=by
      delta L2.KOf
      refine' RS.aS KX G (fun _ _ _ _ _ _ us hl=>by obtain ⟨_,_,_,rfl⟩:=RS.jR hl; rfl) ?a_law_grown ?l_law_grown ?c_law_grown ?k_law_grown
      (case a_law_grown=>k_is); (case l_law_grown=>k_is); (case c_law_grown=>k_is); (case k_law_grown=>k_is)
    have f_law_all_in_time:RS.aR (L2.KOf KX) mg "_law_all_in_time" RS.fV ["_law_errands_here", "_law_ranks_here"]:=by
      delta L2.KOf
      refine' RS.aS KX G (fun _ _ _ _ _ _ us hl=>by obtain ⟨_,_,rfl⟩:=RS.oY hl; rfl) ?a_law_all_in_time ?l_law_all_in_time ?c_law_all_in_time ?k_law_all_in_time
      (case a_law_all_in_time=>k_is); (case l_law_all_in_time=>k_is); (case c_law_all_in_time=>k_is); (case k_law_all_in_time=>k_is)
    have f_law:RS.aR (L2.KOf KX) mg "law" RS.rV ["_law_script"]:=by
      delta L2.KOf
      refine' RS.aS KX G (fun _ _ _ _ _ _ us hl=>by obtain ⟨_,rfl⟩:=RS.tU hl; rfl) ?a_law ?l_law ?c_law ?k_law
      (case a_law=>k_is); (case l_law=>k_is); (case c_law=>k_is); (case k_law=>k_is)
    have b_all:mg "all"=none:=by
      refine' PySem.W.mg_none_of KX G ?z_all
      (case z_all=>k_is)
    have b_bool:mg "bool"=none:=by
      refine' PySem.W.mg_none_of KX G ?z_bool
      (case z_bool=>k_is)
    have b_enumerate:mg "enumerate"=none:=by
      refine' PySem.W.mg_none_of KX G ?z_enumerate
      (case z_enumerate=>k_is)
    have b_int:mg "int"=none:=by
      refine' PySem.W.mg_none_of KX G ?z_int
      (case z_int=>k_is)
    have b_isinstance:mg "isinstance"=none:=by
      refine' PySem.W.mg_none_of KX G ?z_isinstance
      (case z_isinstance=>k_is)
    have b_len:mg "len"=none:=by
      refine' PySem.W.mg_none_of KX G ?z_len
      (case z_len=>k_is)
    have b_list:mg "list"=none:=by
      refine' PySem.W.mg_none_of KX G ?z_list
      (case z_list=>k_is)
    have b_max:mg "max"=none:=by
      refine' PySem.W.mg_none_of KX G ?z_max
      (case z_max=>k_is)
    have b_min:mg "min"=none:=by
      refine' PySem.W.mg_none_of KX G ?z_min
      (case z_min=>k_is)
    have b_range:mg "range"=none:=by
      refine' PySem.W.mg_none_of KX G ?z_range
      (case z_range=>k_is)
    have b_set:mg "set"=none:=by
      refine' PySem.W.mg_none_of KX G ?z_set
      (case z_set=>k_is)
    have b_sum:mg "sum"=none:=by
      refine' PySem.W.mg_none_of KX G ?z_sum
      (case z_sum=>k_is)
    have b_tuple:mg "tuple"=none:=by
      refine' PySem.W.mg_none_of KX G ?z_tuple
      (case z_tuple=>k_is)
    have c_LEAST_EVERY:∃ t,mg "LEAST_EVERY"=some (.int 2 t):=by
      refine' RS.jL KX G ?z_LEAST_EVERY
      (case z_LEAST_EVERY=>k_is)
    have c_MOST_ERRANDS:∃ t,mg "MOST_ERRANDS"=some (.int 6 t):=by
      refine' RS.jL KX G ?z_MOST_ERRANDS
      (case z_MOST_ERRANDS=>k_is)
    have c_MOST_EVERY:∃ t,mg "MOST_EVERY"=some (.int 60 t):=by
      refine' RS.jL KX G ?z_MOST_EVERY
      (case z_MOST_EVERY=>k_is)
    have c_MOST_LATE:∃ t,mg "MOST_LATE"=some (.int 20 t):=by
      refine' RS.jL KX G ?z_MOST_LATE
      (case z_MOST_LATE=>k_is)
    have c_MOST_LENGTH:∃ t,mg "MOST_LENGTH"=some (.int 20 t):=by
      refine' RS.jL KX G ?z_MOST_LENGTH
      (case z_MOST_LENGTH=>k_is)
    have c_MOST_PARTS:∃ t,mg "MOST_PARTS"=some (.int 4 t):=by
      refine' RS.jL KX G ?z_MOST_PARTS
      (case z_MOST_PARTS=>k_is)
    have c_TOOLS:∃ t,mg "TOOLS"=some (.int 4 t):=by
      refine' RS.jL KX G ?z_TOOLS
      (case z_TOOLS=>k_is)
    obtain ⟨C_NoErrand,C_NoErrands,C_NoRanks,e_NoErrand,e_NoErrands,e_NoRanks⟩:∃ C_NoErrand C_NoErrands C_NoRanks:Addr,L2.uy (L2.KOf KX) mg "NoErrand" C_NoErrand∧L2.uy (L2.KOf KX) mg "NoErrands" C_NoErrands∧L2.uy (L2.KOf KX) mg "NoRanks" C_NoRanks:=by
      delta L2.KOf
      refine' ⟨_,_,_,RS.tJ KX G ?a_NoErrand ?e_NoErrand,RS.tJ KX G ?a_NoErrands ?e_NoErrands,RS.tJ KX G ?a_NoRanks ?e_NoRanks⟩
      (case a_NoErrand=>k_is); (case e_NoErrand=>k_exc)
      (case a_NoErrands=>k_is); (case e_NoErrands=>k_exc)
      (case a_NoRanks=>k_is); (case e_NoRanks=>k_exc)
    obtain ⟨C_Holding,m_Holding,cl_Holding,na_Holding_number,na_Holding_part,na_Holding_tool,na_Holding_times,mk_Holding⟩:∃ C:Addr,mg "Holding"=some (.ref C)∧L2.Cls (L2.KOf KX) C∧PySem.W.findIn (L2.KOf KX) (.ref C) "number"=some none∧PySem.W.findIn (L2.KOf KX) (.ref C) "part"=some none∧PySem.W.findIn (L2.KOf KX) (.ref C) "tool"=some none∧PySem.W.findIn (L2.KOf KX) (.ref C) "times"=some none∧∃ f fd,L2.Mk (L2.KOf KX) C f∧L2.Fun (L2.KOf KX) "__init__" "Holding.__init__" RS.mB f fd∧L2.Binds (L2.KOf KX) fd ["self", "number", "part", "tool", "times"] []:=by
      delta L2.KOf
      refine' ⟨_,PySem.W.mg_of KX G ?ac_Holding,⟨?pg_Holding,?hd_Holding,?po_Holding,?sa_Holding⟩,?n0_Holding,?n1_Holding,?n2_Holding,?n3_Holding,L2.BA (fun _ _ _ _ _ _ us hl=>by obtain ⟨_,_,_,_,_,rfl⟩:=RS.C3 hl; rfl) ?ai_Holding ?ii_Holding ?li_Holding ?ci_Holding ?ki_Holding ?mk_Holding ?kc_Holding⟩
      (case ac_Holding=>k_is); (case pg_Holding=>k_is); (case hd_Holding=>k_is); (case po_Holding=>k_is); (case sa_Holding=>k_is); (case n0_Holding=>k_is); (case n1_Holding=>k_is); (case n2_Holding=>k_is); (case n3_Holding=>k_is); (case ai_Holding=>k_is); (case ii_Holding=>k_is); (case li_Holding=>k_is); (case ci_Holding=>k_is); (case ki_Holding=>k_is); (case mk_Holding=>k_is); (case kc_Holding=>k_is)
    have T:RS.Tx (L2.KOf KX) mg ⟨0,C_NoErrands,C_NoRanks,0,C_NoErrand,0,0,0,C_Holding,0⟩:=⟨f_is_whole,f_is_tuple,f_is_part,f_are_parts,f_is_errand,f_checked,f_checked_ranks,f_checked_number,f_check_place,f_work_of,f_has_tool,f_height,f_heights_of,f_holdings,f_hold_by_high,f_rounded_up,f_need,f_levels_by,f_longest_by,f_longest_by_high,f_has_room,f_is_in_time,f_as_lowest,f_not_placed,f_following_lowest,f_placed_from_below,f_ranks_with_room,f_fitting,f_do_fit,f_with_errand,f_with_longer_end,f_spare,f_law_cell_at,f_law_mixed,f_law_errand,f_law_errands,f_law_ranks,f_law_heights,f_law_hold,f_law_work,f_law_need,f_law_longest,f_law_in_time,f_law_grown,f_law_all_in_time,f_law,b_all,b_bool,b_enumerate,b_int,b_isinstance,b_len,b_list,b_max,b_min,b_range,b_set,b_sum,b_tuple,c_LEAST_EVERY,c_MOST_ERRANDS,c_MOST_EVERY,c_MOST_LATE,c_MOST_LENGTH,c_MOST_PARTS,c_TOOLS,e_NoErrand,e_NoErrands,e_NoRanks,cl_Holding,na_Holding_number,na_Holding_part,na_Holding_tool,na_Holding_times,mk_Holding,m_Holding⟩
    exact ⟨f_law,fun f fd F base hb hn=>RS.law_ok T F⟩
