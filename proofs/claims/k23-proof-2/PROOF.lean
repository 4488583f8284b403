import PyProof.Rows.All
import OpenK.AllK
import PySem.Challenge.RW_ranksure_k23_whole_numbers
import KE.RegKIsAll
import Wide.All
import OpenK.KWalk
import OpenK.KMake
import OpenK.KDescr
import OpenK.KCall
import OpenK.KOwn
import KE.KIsAll
import KE.KItem
import KE.KxBytes
import Wide.FinOn
import Lean
import PyProof.EqAt
import PyProof.EqKinds
import PyProof.TupleCall
import KE.LcSums
import PyProof.Rows.EqDataRows
import PyProof.RulesAs
import PyProof.ZipIter
import PyProof.Draws
import PyProof.Rows.TupAdd
import PyProof.ListMulRoad
import PyProof.AutoListH
import PyProof.Rows.Range3
import PyProof.ListRange
import PyProof.EnumMake
import PyProof.EnumFor
import PyProof.Rows.SetFrom
import PyProof.WalksMore
import PyProof.StrOps2
import PyProof.Rows.MinMaxN
import PyProof.ConsumeWalk
import PyProof.Rows.SortWalk
import PyProof.ExcArgsOwn
import PyProof.StrBlock2
import KE.KMinKey
import PyProof.Rows.CallKwBuiltin
import PySem.PyData
set_option genSizeOf false
set_option genSizeOfSpec false
set_option genInjectivity false
set_option compiler.extract_closed false
set_option bootstrap.genMatcherCode false
set_option Elab.async false
set_option linter.all false
namespace RS
open PySem PySem.W PyProof.Rows
noncomputable def zZ (p:Program) (w:World) (m:Nat) (ann:Option Value):Nat→SharedT→Thread→Option SharedT
  | 0,_,_=>none
  | n + 1,s,t=>match through t with
    | true=>some s
    | false=>match Fast.tw6613529449190102663 m ann t with
      | false=>none
      | true=>match Fast.tw10156331382660048174 (Fast.tw11892475500146522536 Fast.tw14364793385576792824) p w s t with
        | some x=>zZ p w m ann n x.1 x.2
        | none=>none
theorem v5 {p:Program} {w:World} {m:Nat} {ann:Option Value}:∀ {n:Nat} {s s':SharedT} {t:Thread},zZ p w m ann n s t=some s'→topRun treeTable p w m ann n s.abs t=some s'.abs
  | 0,_,_,_,h=>by cases h
  | n + 1,s,s',t,h=>by
    unfold zZ at h
    rw [← Fast.te6613529449190102663,← Fast.te10156331382660048174,← Fast.te11892475500146522536,← Fast.te14364793385576792824] at h
    unfold topRun
    cases ht:through t with
    | true=>rw [ht] at h; cases h; rfl
    | false =>
      rw [ht] at h
      cases hk:stepOk m ann t with
      | false=>rw [hk] at h; cases h
      | true =>
        rw [hk] at h
        cases hs:stepT (denote treeTable) p w s t with
        | none=>rw [hs] at h; cases h
        | some x =>
          rw [hs] at h
          rw [stepT_spec (s':=x.1) (t':=x.2) hs]
          exact v5 h
noncomputable def Gu (l:List Obj):BT:=(l.foldl (fun x o=>(x.1.ins x.2 o,x.2 + 1)) (BT.nil,0)).1
noncomputable def hdS (w:World) (os:OsState):SharedT:=⟨Gu (boot_heap w.params).objs.toList,11,(boot_heap w.params).life,Array.mk [],boot_drawn,boot_toks,os⟩
theorem Ez (w:World):(fun os=>(hdS w os).abs)=fun os=>⟨boot_heap w.params,Array.mk [],boot_drawn,boot_toks,os⟩:=by kernel_rfl
theorem FX (w:World):((boot_heap w.params).isNs mainGlobals && (Array.mk []:Array GenState).size == 0,(boot_heap w.params).objs.size,(boot_heap w.params).nsMap mainGlobals "__annotations__")=(true,11,some (.ref 6)):=by kernel_rfl
noncomputable def BJ (p q:Program) (loose:List Str) (Xt:Shared→Bool) {α:Type} (Yf:Shared→α) (h:Heap) (s:Shared) :=
  (staticsOk (importedModules p.main.body) h s.heap && namesBound p s.heap && gensDone s && laidKept h s.heap,Fast.tw4187177175401517315 q loose (importedModules p.main.body) Xt true s,Yf s)
theorem F5 {p q:Program} {loose:List Str} {Xt:Shared→Bool} {α:Type} {Yf:Shared→α} {Ya:World→α} {N M:Nat}
    (e:opening p=plainProg p.main.scope.names) (hN:Nat.ble 600 N=true) (f:∀ s,fenceModules? p s=some s) (le:Nat.ble M N=true)
    (h:∀ w,(fun os=>(zZ p w 11 (some (.ref 6)) M (hdS w os) (topStub p)).map fun s=>BJ p q loose Xt Yf (boot_heap w.params) s.abs)=fun _=>some (true,openGood q loose,Ya w)):LeftO p q loose Xt Yf Ya N:=fun w=>by
  obtain ⟨⟨hp,gs,d,k,os⟩,e1,e'⟩:=Option.map_eq_some_iff.mp (boot_open e hN f w)
  obtain ⟨rfl,rfl,rfl,rfl⟩:hp=boot_heap w.params∧gs=Array.mk []∧d=boot_drawn∧k=boot_toks:=by simpa using e'
  obtain ⟨z1,z2,z3⟩:_∧_∧_:=by simpa only [Prod.mk.injEq] using FX w
  obtain ⟨s,hs,hv⟩:=Option.map_eq_some_iff.mp (congrFun (h w) os)
  obtain ⟨l1,l2,l3⟩:_∧_∧_:=by simpa only [BJ,← Fast.te4187177175401517315,Prod.mk.injEq] using hv
  have r:=v5 hs
  rw [congrFun (Ez w) os] at r
  have r:=topRun_mono (N - M) _ _ _ _ r
  rw [show M + (N - M)=N by have:=Nat.le_of_ble_eq_true le; omega] at r
  unfold openEnds
  rw [e1]
  show (topFrom treeTable p w N _).map _=_
  have t:topFrom treeTable p w N ⟨boot_heap w.params,Array.mk [],boot_drawn,boot_toks,os⟩=some s.abs:=by
    unfold topFrom
    dsimp only
    rw [z1,z2,z3,r]
    show (match staticsOk (importedModules p.main.body) (boot_heap w.params) s.abs.heap && namesBound p s.abs.heap && gensDone s.abs && laidKept (boot_heap w.params) s.abs.heap with | true=>_ | false=>_)=_
    rw [l1]
  rw [t]
  exact congrArg some (Prod.ext l2 l3)
end RS
section
open PySem PySem.W PyProof.Rows
noncomputable def RS.vw:Program:=view PySem.Challenge.pw_ranksure_k23_whole_numbers [1,2,3,4,6,7,8,9,10,11,12,13,14,15,16,17,18,19,20,21,22,23,24,25,27,28,29,30,31,32,33,34,35,36,37,38,40,41,42,43,44,45,46,47,48,49,51,52,53,54,55,56,57,59,60,61,62,63,64]
local macro_rules | `(tactic| o_head $H)=>`(tactic| (refine holds_open (N:=5250) (Xt:=fun s=>xlAt RS.vw [] s && recOk (RowW.records (OpenRow.toRowW (OpenLaw.row PySem.Challenge.rw_ranksure_k23_whole_numbers))) s) (XP:=XL RS.vw []) (q:=RS.vw) (loose:=[]) (Yf:=Hook.obs $H) (Ya:=Hook.val $H) (YP:=Hook.says $H) ?hl (Hook.of $H) (Hook.keeps $H) (fun s e=>xl_of s (Bool.and_eq_true_iff.mp e).1) XL.keeps (by rfl) (by rfl) (by rfl) (fun s e=>recFacts_of (Bool.and_eq_true_iff.mp e).2) (by rfl) (by assumption) (by decide +kernel) ⟨rfl,rfl,rfl,rfl,rfl,by decide +kernel⟩ ?hw ?hc; (case hl=>refine RS.F5 (M:=2675) (by kernel_rfl) (by rfl) (by intro s; kernel_rfl) (by rfl) fun w=>?_; kernel_rfl)))
set_option maxRecDepth 100000 in
set_option maxHeartbeats 0 in
open_top RS.hdTop for PySem.Challenge.rw_ranksure_k23_whole_numbers
end
-- CHANGE: your row's module here,as the last of these rows
set_option maxRecDepth 100000
namespace L2
open PySem PySem.Spec PyProof.Rows
noncomputable abbrev Key:=Sum Int Str
noncomputable def E4:Key→Value→Bool
  | .inl k,v=>Value.isInt k v
  | .inr x,v=>Value.isStrOf x v
noncomputable def Ib (w:World):Key→Int
  | .inl k=>hashInt k
  | .inr x=>hashStr w x
theorem dG:∀ {k:Key} {v:Value},E4 k v=true→(∃ i t,k=Sum.inl i∧v=Value.int i t)∨(∃ x t,k=Sum.inr x∧v=Value.str x t)
  | .inl i,v,h=>by
    obtain ⟨t,e⟩:=Value.isInt_shape (k:=i) (v:=v) h
    exact .inl ⟨i,t,rfl,e⟩
  | .inr x,v,h=>by
    obtain ⟨t,e⟩:=Value.isStrOf_shape (x:=x) (v:=v) h
    exact .inr ⟨x,t,rfl,e⟩
theorem F3 (a b:Int):decide ((Sum.inl a:Key)=Sum.inl b)=(a == b):=by
  by_cases e:a=b
  · subst e; simp
  · have h:¬ (Sum.inl a:Key)=Sum.inl b:=fun q=>e (Sum.inl.inj q)
    rw [decide_eq_false h]
    exact (beq_eq_false_iff_ne.mpr e).symm
theorem Ff (a b:Str):decide ((Sum.inr a:Key)=Sum.inr b)=decide (a=b):=by
  by_cases e:a=b
  · subst e; simp
  · have h:¬ (Sum.inr a:Key)=Sum.inr b:=fun q=>e (Sum.inr.inj q)
    rw [decide_eq_false h,decide_eq_false e]
theorem Gi (a:Int) (b:Str):decide ((Sum.inl a:Key)=Sum.inr b)=false:=decide_eq_false (fun q=>nomatch q)
theorem FT (a:Str) (b:Int):decide ((Sum.inr a:Key)=Sum.inl b)=false:=decide_eq_false (fun q=>nomatch q)
noncomputable def zH (prog:Program) (w:World):PySem.KeyKind prog w Key where
  is:=E4
  hash:=Ib w
  inj:=fun v a b ha hb=>by
    rcases dG ha with ⟨i,t,rfl,rfl⟩ | ⟨x,t,rfl,rfl⟩
    · rcases dG hb with ⟨j,u,rfl,e⟩ | ⟨y,u,rfl,e⟩
      · injection e with e1 _; rw [e1]
      · exact nomatch e
    · rcases dG hb with ⟨j,u,rfl,e⟩ | ⟨y,u,rfl,e⟩
      · exact nomatch e
      · injection e with e1 _; rw [e1]
  byValue:=fun k v h=>by
    rcases dG h with ⟨i,t,rfl,rfl⟩ | ⟨x,t,rfl,rfl⟩ <;> rfl
  pyHash:=fun hv h=>by
    rcases dG hv with ⟨i,t,rfl,rfl⟩ | ⟨x,t,rfl,rfl⟩
    · exact wpAny_pyHash_int h
    · exact wpAny_pyHash_str h
  eqBool:=fun hu hv h=>by
    rcases dG hu with ⟨i,t,rfl,rfl⟩ | ⟨x,t,rfl,rfl⟩
    · rcases dG hv with ⟨j,u,rfl,rfl⟩ | ⟨y,u,rfl,rfl⟩
      · rw [F3] at h; exact wpAny_eqBool_int h
      · rw [Gi] at h; exact SeqAt.EqAt.int_str i t y u _ _ _ _ h
    · rcases dG hv with ⟨j,u,rfl,rfl⟩ | ⟨y,u,rfl,rfl⟩
      · rw [FT] at h; exact SeqAt.EqAt.str_int x t j u _ _ _ _ h
      · rw [Ff] at h; exact wpAny_eqBool_str h
  «strs»:=fun k x t v h=>by
    rcases dG h with ⟨i,u,rfl,e⟩ | ⟨y,u,rfl,e⟩
    · exact nomatch e
    · injection e with e1 _
      subst e1
      cases v <;> rfl
end L2
namespace L2
open PySem PySem.Spec PyProof.Rows
inductive V where
  | non | bl (b:Bool) | int (i:Int) | str (x:Str) | byt (b:Array UInt8) | flt (b:UInt64) | ref (a:Addr) | ty (n:String)
  deriving DecidableEq
noncomputable def RelV:V→Value→Prop
  | .non,u=>u=Value.none
  | .bl b,u=>u=Value.bool b
  | .int i,u=>∃ t,u=Value.int i t
  | .str x,u=>∃ t,u=Value.str x t
  | .byt b,u=>∃ t,u=Value.bytes b t
  | .flt b,u=>∃ t,u=Value.float b t
  | .ref a,u=>u=Value.ref a
  | .ty n,u=>u=Value.type n
noncomputable abbrev Vals:List V→List Value→Prop:=Paired RelV
theorem Vals.length {xs:List V} {us:List Value} (r:Vals xs us):xs.length=us.length:=Paired.length r
theorem Vals.get:∀ {xs:List V} {us:List Value} {i:Nat} {x:V},Vals xs us→xs[i]?=some x→∃ u,us[i]?=some u∧RelV x u
  | _,_,_,_,.nil,e=>by simp at e
  | _,_,0,_,.cons r _,e=>by simp at e; subst e; exact ⟨_,rfl,r⟩
  | _,_,i + 1,x,.cons _ t,e=>by
    obtain ⟨u,h1,h2⟩:=Vals.get (i:=i) (x:=x) t (by simpa using e)
    exact ⟨u,by simpa using h1,h2⟩
theorem Vals.set {x:V} {u:Value} (r:RelV x u):∀ {xs:List V} {us:List Value} (i:Nat),Vals xs us→Vals (xs.set i x) (us.set i u)
  | _,_,_,.nil=>.nil
  | _,_,0,.cons _ t=>.cons r t
  | _,_,i + 1,.cons q t=>.cons q (Vals.set r i t)
theorem Vals.append {xs ys:List V} {us ws:List Value} (h:Vals xs us) (s:Vals ys ws):Vals (xs++ys) (us++ws):=by
  induction h with
  | nil=>exact s
  | cons r t ih=>exact .cons r ih
theorem Vals.take:∀ {xs:List V} {us:List Value} (n:Nat),Vals xs us→Vals (xs.take n) (us.take n)
  | _,_,0,_=>.nil
  | _,_,_ + 1,.nil=>.nil
  | _,_,n + 1,.cons r t=>.cons r (Vals.take n t)
theorem Vals.drop:∀ {xs:List V} {us:List Value} (n:Nat),Vals xs us→Vals (xs.drop n) (us.drop n)
  | _,_,0,r=>r
  | _,_,_ + 1,.nil=>.nil
  | _,_,n + 1,.cons _ t=>Vals.drop n t
noncomputable def yt:Option V→Option Value→Prop
  | some v,some u=>RelV v u
  | none,none=>True
  | _,_=>False
noncomputable def KV {κ:Type}:List (κ × V)→List (κ × Value)→Prop:=Paired fun (p:κ × V) (q:κ × Value)=>p.1=q.1∧RelV p.2 q.2
noncomputable def kV:Key→V
  | .inl i=>.int i
  | .inr x=>.str x
inductive HO where
  | lst (xs:List V)
  | tup (xs:List V)
  | dK (kvs:List (Key × V)) | dT (kvs:List (List Key × V))
  | set (S:Int→Bool) (n:Nat)
  | ins (C dx:Addr) (fs:List (Str × V))
  | own (x:Addr)
  | xd (fs:List (Str × V))
  | met (f x:Addr)
  | rng (lo hi:Int)
  | frz (o:Obj) (u:HO)
  | tbl (q:Str)
  | ext (φ:Heap→Prop)
noncomputable abbrev Hp:=Addr→Option HO
noncomputable def upd (H:Hp) (a:Addr) (o:HO):Hp:=fun b=>if b=a then some o else H b
theorem cA {H:Hp} {a:Addr} {o:HO}:upd H a o a=some o:=by unfold upd; rw [if_pos rfl]
theorem bG {H:Hp} {a b:Addr} {o:HO} (h:b≠a):upd H a o b=H b:=by unfold upd; rw [if_neg h]
theorem bP {H:Hp} {a b:Addr} {o:HO} (h:H a=some o) (h':H b=none):a≠b:=by
  intro e; subst e; rw [h] at h'; cases h'
noncomputable def uS (h:Heap) (a:Addr) (items:Array Value):Prop:=∃ o,h.get? a=some o∧o.cls=.type "tuple"∧o.dict=none∧∃ n,o.data=.seq items n
theorem uS.tup {h:Heap} {a:Addr} {items:Array Value} (x:uS h a items):IsTup h a items:=by
  obtain ⟨o,e,c,_,n,d⟩:=x
  exact ⟨o,e,c,n,d⟩
theorem uS.new (h:Heap) (items:Array Value):uS (h.push { cls:=.type "tuple",data:=.seq items }) h.objs.size items:=⟨_,Heap.get?_push_size _ rfl,rfl,rfl,_,rfl⟩
section
variable (P:Program) (w:World)
noncomputable def fP (H:Hp) (h:Heap) (a:Addr):HO→Prop
  | .lst xs=>xs.length≤sizeLine∧∃ (its:List Value) (n:Nat),Vals xs its∧h.get? a=some { cls:=.type "list",data:=.seq its.toArray n }
  | .tup xs=>xs.length≤sizeLine∧∃ its:List Value,Vals xs its∧uS h a its.toArray
  | .dK kvs=>kvs.length≤sizeLine∧(a == sysModules)=false∧∃ vs,KV kvs vs∧h.DictOf (zH P w) a vs
  | .dT kvs=>kvs.length≤sizeLine∧(a == sysModules)=false∧∃ xs:List (List Key × Addr × Value),
      Paired (fun (p:List Key × V) (q:List Key × Addr × Value)=>p.1=q.1∧H q.2.1=some (.tup (p.1.map kV))∧RelV p.2 q.2.2) kvs xs ∧
      ∃ o es ep,h.get? a=some o∧o.ExactDict∧o.data=.dict es ep∧es.toList=xs.map (entryOfKey (tupleKind (zH P w)))∧(xs.map (·.1)).Nodup
  | .set S n=>h.SetOf (intKind P w) a S n
  | .ins C dx fs=>H dx=some (.own a)∧fs.length≤1000∧dx≠a∧h.get? a=some (PySem.W.instObj C dx) ∧
      ∃ mA,h.Ns1 dx mA∧(∀ f,yt (fs.lookup f) (mA f))∧PySem.Within mA (fs.map (·.1))
  | .own _=>∃ o,h.get? a=some o
  | .xd fs=>∃ mA,h.Ns1 a mA∧∀ f,yt (fs.lookup f) (mA f)
  | .rng lo hi=>∃ t u v,h.get? a=some { cls:=.type "range",data:=.fields #[.int lo t,.int hi u,.int 1 v] }
  | .frz o u=>h.get? a=some o∧fP H h a u
  | .tbl q=>∃ ps:Array Value,h.get? a=some { cls:=.none,data:=.fields ps }∧TriplesOk ps.toList∧∀ pos cv,codeAmong pos ps.toList=some cv→∃ c' o vs t,cv=.ref c'∧H c'=some (.frz o (.own c'))∧o.data=.fields vs∧vs[1]?=some (.str q t)
  | .met f x=>h.get? a=some (PySem.W.methodObj (.ref f) (.ref x))
  | .ext φ=>φ h∧(∃ o,h.get? a=some o)∧∀ h1 h2:Heap,φ h1→(∀ o,h1.get? a=some o→h2.get? a=some o)→φ h2
noncomputable def HOk (H:Hp) (h:Heap):Prop:=∀ a o,H a=some o→fP P w H h a o
end
section
variable {P:Program} {w:World} {H H':Hp} {h h':Heap} {a:Addr} {o:HO}
theorem fP.lt (x:fP P w H h a o):a < h.objs.size:=by
  cases o with
  | lst xs=>obtain ⟨_,_,_,_,e⟩:=x; exact Heap.lt_size e
  | tup xs=>obtain ⟨_,_,_,p⟩:=x; exact p.tup.lt
  | dK kvs=>obtain ⟨_,_,_,_,o,_,_,e,_⟩:=x; exact Heap.lt_size e
  | dT kvs=>obtain ⟨_,_,_,_,o,_,_,e,_⟩:=x; exact Heap.lt_size e
  | set S n=>obtain ⟨o,_,_,_,e,_⟩:=x; exact Heap.lt_size e
  | ins C dx fs=>obtain ⟨_,_,_,e,_⟩:=x; exact Heap.lt_size e
  | own y=>obtain ⟨_,e⟩:=x; exact Heap.lt_size e
  | xd fs=>obtain ⟨_,⟨_,_,_,e,_⟩,_⟩:=x; exact Heap.lt_size e
  | rng lo hi=>obtain ⟨_,_,_,e⟩:=x; exact Heap.lt_size e
  | frz ob u=>obtain ⟨e,_⟩:=x; exact Heap.lt_size e
  | tbl q=>obtain ⟨_,e,_⟩:=x; exact Heap.lt_size e
  | met f y=>exact Heap.lt_size (show h.get? a=some _ from x)
  | ext φ=>obtain ⟨_,⟨_,e⟩,_⟩:=x; exact Heap.lt_size e
theorem Paired.mapP {α β:Type} {F G:α→β→Prop} {l₁:List α} {l₂:List β} (h:Paired F l₁ l₂) (f:∀ a b,F a b→G a b):Paired G l₁ l₂:=by
  induction h with
  | nil=>exact .nil
  | cons r t ih=>exact .cons (f _ _ r) ih
theorem fP.stay (x:fP P w H h a o) (k:∀ b u,(b=a∨H b=some (.own a))→h.get? b=some u→h'.get? b=some u)
    (ho:∀ b,H b=some (.own a)→H' b=some (.own a)) (ht:∀ b xs,H b=some (.tup xs)→H' b=some (.tup xs)) (hf:∀ b o u,H b=some (.frz o u)→H' b=some (.frz o u):=by exact fun _ _ _ q=>q):fP P w H' h' a o:=by
  induction o with
  | lst xs=>obtain ⟨z,its,n,r,e⟩:=x; exact ⟨z,its,n,r,k _ _ (.inl rfl) e⟩
  | tup xs=>obtain ⟨z,its,r,ob,e,c⟩:=x; exact ⟨z,its,r,ob,k _ _ (.inl rfl) e,c⟩
  | dK kvs=>obtain ⟨z,y,vs,r,ob,es,ep,e,c⟩:=x; exact ⟨z,y,vs,r,ob,es,ep,k _ _ (.inl rfl) e,c⟩
  | dT kvs =>
    obtain ⟨z,y,xs,r,ob,es,ep,e,c⟩:=x
    exact ⟨z,y,xs,Paired.mapP r fun p q z=>⟨z.1,ht _ _ z.2.1,z.2.2⟩,ob,es,ep,k _ _ (.inl rfl) e,c⟩
  | set S n=>obtain ⟨ob,es,ep,t,e,c⟩:=x; exact ⟨ob,es,ep,t,k _ _ (.inl rfl) e,c⟩
  | ins C dx fs =>
    obtain ⟨d,z,ne,e,mA,⟨od,es,ep,e2,c⟩,r⟩:=x
    exact ⟨ho _ d,z,ne,k _ _ (.inl rfl) e,mA,⟨od,es,ep,k _ _ (.inr d) e2,c⟩,r⟩
  | own y=>obtain ⟨ob,e⟩:=x; exact ⟨ob,k _ _ (.inl rfl) e⟩
  | xd fs=>obtain ⟨mA,⟨od,es,ep,e,c⟩,r⟩:=x; exact ⟨mA,⟨od,es,ep,k _ _ (.inl rfl) e,c⟩,r⟩
  | rng lo hi=>obtain ⟨t,u,v,e⟩:=x; exact ⟨t,u,v,k _ _ (.inl rfl) e⟩
  | frz ob u ih=>obtain ⟨e,q⟩:=x; exact ⟨k _ _ (.inl rfl) e,ih q⟩
  | tbl q =>
    obtain ⟨ps,e,t,c⟩:=x
    exact ⟨ps,k a _ (.inl rfl) e,t,fun pos cv z=>by obtain ⟨c',o,vs,t',e1,e2,e3⟩:=c pos cv z; exact ⟨c',o,vs,t',e1,hf _ _ _ e2,e3⟩⟩
  | met f y =>
    have e:h.get? a=some (PySem.W.methodObj (.ref f) (.ref y)):=x
    show h'.get? a=some (PySem.W.methodObj (.ref f) (.ref y))
    exact k a _ (.inl rfl) e
  | ext φ=>obtain ⟨p,⟨o,e⟩,st⟩:=x; exact ⟨st _ _ p fun o q=>k _ _ (.inl rfl) q,⟨o,k _ _ (.inl rfl) e⟩,st⟩
theorem HOk.lt (x:HOk P w H h) (e:H a=some o):a < h.objs.size:=(x a o e).lt
theorem HOk.fresh (x:HOk P w H h) (e:h.objs.size≤a):H a=none:=by
  cases q:H a with
  | none=>rfl
  | some u=>exact absurd (Nat.lt_of_lt_of_le (x.lt q) e) (Nat.lt_irrefl _)
theorem HOk.kept (x:HOk P w H h) (k:∀ b u,h.get? b=some u→h'.get? b=some u):HOk P w H h':=fun a o e =>
  (x a o e).stay (fun b u _ q=>k b u q) (fun _ q=>q) fun _ _ q=>q
theorem HOk.laid (x:HOk P w H h) (k:∀ b u,h.get? b=some u→h'.get? b=some u) (hp:h.objs.size≤a) (new:fP P w (upd H a o) h' a o):HOk P w (upd H a o) h':=fun b u e=>by
  have hn:=x.fresh hp
  by_cases hb:b=a
  · subst hb; rw [cA] at e; cases e; exact new
  · rw [bG hb] at e
    exact (x b u e).stay (fun c v _ q=>k c v q) (fun c q=>by rw [bG (bP q hn)]; exact q) (fun c xs q=>by rw [bG (bP q hn)]; exact q) fun c ob w' q=>by rw [bG (bP q hn)]; exact q
end
noncomputable def Rd (H:Hp) (a:Addr) (u:HO):Prop:=H a=some u∨∃ o,H a=some (.frz o u)
theorem Rd.ok {P:Program} {w:World} {H:Hp} {h:Heap} {a:Addr} {u:HO} (r:Rd H a u) (x:HOk P w H h):fP P w H h a u:=by
  rcases r with r | ⟨o,r⟩
  · exact x a u r
  · obtain ⟨_,q⟩:=x a _ r
    exact q
noncomputable def Mut:Option HO→Prop
  | some (.lst _)=>True
  | some (.dK _)=>True
  | some (.dT _)=>True
  | some (.set _ _)=>True
  | some (.ins _ _ _)=>True
  | some (.ext _)=>True
  | _=>False
section
variable {P:Program} {w:World} {H:Hp} {h h':Heap} {x e:Addr} {o':HO}
theorem HOk.write (ok:HOk P w H h) (mu:Mut (H x)) (he:e=x∨H e=some (.own x)) (k:∀ b u,b≠e→h.get? b=some u→h'.get? b=some u) (heo:∃ u,h'.get? e=some u)
    (new:fP P w (upd H x o') h' x o'):HOk P w (upd H x o') h':=fun b u q=>by
  have nown:∀ c y,H c=some (.own y)→c≠x:=fun c y r z=>by subst z; rw [r] at mu; exact mu
  have ntup:∀ c xs,H c=some (.tup xs)→c≠x:=fun c xs r z=>by subst z; rw [r] at mu; exact mu
  have nfrz:∀ c o u,H c=some (.frz o u)→c≠x:=fun c o u r z=>by subst z; rw [r] at mu; exact mu
  by_cases hb:b=x
  · subst hb; rw [cA] at q; cases q; exact new
  · rw [bG hb] at q
    by_cases hbe:b=e
    · have q':H b=some (.own x):=by
        rcases he with z | z
        · exact absurd (hbe.trans z) hb
        · rw [hbe]; exact z
      rw [q] at q'; cases q'
      obtain ⟨v,hv⟩:=heo
      exact ⟨v,by rw [hbe]; exact hv⟩
    · refine (ok b u q).stay (fun c v hc r=>k c v ?_ r) (fun c r=>by rw [bG (nown c b r)]; exact r) (fun c xs r=>by rw [bG (ntup c xs r)]; exact r) fun c o w' r=>by rw [bG (nfrz c o w' r)]; exact r
      rcases hc with rfl | hc
      · exact hbe
      · rintro rfl
        rcases he with z | z
        · exact nown c b hc z
        · rw [hc] at z; cases z; exact hb rfl
end
structure Un (fs ex:List Addr) (H H':Hp) (h h':Heap):Prop where
  keep:∀ b o,h.get? b=some o→H b=none→b ∉ fs→b ∉ ex→h'.get? b=some o
  slot:∀ b o,h.get? b=some o→H b=none→b∈fs→b ∉ ex→∃ sl,h'.get? b=some { o with slots:=sl }
  free:∀ b o,h.get? b=some o→H b=none→b ∉ ex→H' b=none
  there:∀ b o,h.get? b=some o→b ∉ ex→∃ o',h'.get? b=some o'
  tups:∀ b xs,H b=some (.tup xs)→H' b=some (.tup xs)
  frzs:∀ b o u,H b=some (.frz o u)→H' b=some (.frz o u)
  tbls:∀ b q,H b=some (.tbl q)→H' b=some (.tbl q)
section
variable {fs fs' ex ex':List Addr} {H H1 H2:Hp} {h h1 h2 h':Heap} {a x e:Addr} {o:HO}
theorem Un.any (u:Un fs ex H H1 h h1) {b:Addr} {ob:Obj} (q:h.get? b=some ob) (n:H b=none) (hx:b ∉ ex):∃ sl,h1.get? b=some { ob with slots:=sl }:=by
  by_cases hb:b∈fs
  · exact u.slot b ob q n hb hx
  · exact ⟨ob.slots,u.keep b ob q n hb hx⟩
theorem Un.kept (k:∀ b u,h.get? b=some u→h'.get? b=some u):Un fs ex H H h h' :=
  ⟨fun b ob q _ _ _=>k b ob q,fun b ob q _ _ _=>⟨ob.slots,k b ob q⟩,fun _ _ _ n _=>n,fun b ob q _=>⟨ob,k b ob q⟩,fun _ _ q=>q,fun _ _ _ q=>q,fun _ _ q=>q⟩
theorem Un.refl:Un fs ex H H h h:=Un.kept fun _ _ q=>q
theorem Un.laid (k:∀ b u,h.get? b=some u→h'.get? b=some u) (hp:h.objs.size≤a) (hn:H a=none):Un fs ex H (upd H a o) h h' where
  keep:=fun b u q _ _ _=>k b u q
  slot:=fun b u q _ _ _=>⟨u.slots,k b u q⟩
  free:=fun b u q n _=>by rw [bG (Nat.ne_of_lt (Nat.lt_of_lt_of_le (Heap.lt_size q) hp))]; exact n
  there:=fun b u q _=>⟨u,k b u q⟩
  tups:=fun b xs q=>by rw [bG (bP q hn)]; exact q
  frzs:=fun b u xs q=>by rw [bG (bP q hn)]; exact q
  tbls:=fun b ps q=>by rw [bG (bP q hn)]; exact q
theorem Un.write (mu:Mut (H x)) (he:e=x∨H e=some (.own x)) (k:∀ b u,b≠e→h.get? b=some u→h'.get? b=some u) (heo:∃ u,h'.get? e=some u):Un fs ex H (upd H x o) h h':=by
  have hx:∀ b,H b=none→b≠x:=fun b n z=>by subst z; rw [n] at mu; exact mu
  have hb:∀ b,H b=none→b≠e:=fun b n z=>by
    subst z
    rcases he with r | r
    · exact hx b n r
    · rw [n] at r; cases r
  have hm:∀ b u,H b=some u→¬ Mut (some u)→b≠x:=fun b u q nm z=>by subst z; rw [q] at mu; exact nm mu
  refine ⟨fun b u q n _ _=>k b u (hb b n) q,fun b u q n _ _=>⟨u.slots,k b u (hb b n) q⟩,fun b u q n _=>by rw [bG (hx b n)]; exact n,fun b u q _=>?_,
    fun b xs q=>by rw [bG (hm b _ q fun z=>z)]; exact q,fun b u xs q=>by rw [bG (hm b _ q fun z=>z)]; exact q,fun b ps q=>by rw [bG (hm b _ q fun z=>z)]; exact q⟩
  by_cases hbe:b=e
  · subst hbe; exact heo
  · exact ⟨u,k b u hbe q⟩
end
noncomputable def trk (h:Heap) (H:Hp):List Addr:=(List.range h.objs.size).filter fun a=>(H a).isSome
noncomputable def vt (h:Heap) (H:Hp):Heap:=PySem.W.hideAll h (trk h H)
theorem AE (h:Heap) (H:Hp):(vt h H).objs.size=h.objs.size:=PySem.W.hideAll_size _ _
theorem CM {h:Heap} {H:Hp} {b:Addr} {o:Obj} (e:h.get? b=some o) (n:H b=none):(vt h H).get? b=some o :=
  PySem.W.hideAll_get _ e fun hm=>by
    have q:(H b).isSome=true:=(List.mem_filter.mp hm).2
    rw [n] at q; simp at q
theorem D1 {h:Heap} {H:Hp} {b:Addr} {o:Obj} (e:(vt h H).get? b=some o):h.get? b=some o∧H b=none:=by
  have e':h.get? b=some o:=PySem.W.of_hideAll (trk h H) e
  refine ⟨e',?_⟩
  cases q:H b with
  | none=>rfl
  | some x =>
    have hm:b∈trk h H:=List.mem_filter.mpr ⟨List.mem_range.mpr (Heap.lt_size e'),by simp [q]⟩
    have z:(vt h H).get? b=none:=PySem.W.hideAll_none (trk h H) hm
    rw [z] at e; cases e
end L2
namespace L2
open PySem PySem.Spec PyProof.Rows
structure Mod (K:PySem.W.Frag) (mg:Str→Option Value) (base:Heap):Prop where
  kin:K.In base
  glob:base.Ns mainGlobals mg
  blt:∃ mb,base.Ns builtinsNs mb∧∀ x:Str,x≠"__name__"→mb x=bootBuiltins x
  nolimit:base.NoLimit
noncomputable def zG:List Str:=[]
noncomputable def TabOf (K:PySem.W.Frag) (P:Addr) (q:Str):Prop:=∃ x∈zG,∃ f oc od fd sl c,PySem.W.nsIn K mainGlobals x=some (some (.ref f))∧K.lookup f=some ⟨oc,od,.func fd,sl⟩∧fd.code=.ref c∧(∃ o vs,K.lookup c=some o∧o.data=.fields vs∧vs[11]?=some (.ref P))∧q=x++".<locals>.<lambda>"
structure Cx where
  prog:Program
  w:World
  K:PySem.W.Frag
  mg:Str→Option Value
  base:Heap
  A:Around
  N:List Str
  s₀:Shared
  H₀:Hp
  env:Env
  outer:List Env
  stack:List Env
  ex:List Addr
  fn:Str→Bool
  calm:Bool
  pn:List (Addr × Obj)
  xe:Value→Shared→Prop
noncomputable def frs (l:List Env):List Addr:=l.filterMap (·.frame)
noncomputable abbrev Cx.fs (X:Cx):List Addr:=frs X.outer
noncomputable def Vis (sc:Scope) (x:Str):Prop:=sc.names.lookup x=some .local∨sc.names.lookup x=some .cell∨sc.names.lookup x=some .free
noncomputable def Loc (sc:Scope) (x:Str):Prop:=sc.names.lookup x=some .local∨sc.names.lookup x=some .cell
noncomputable def Look (env:Env) (h:Heap) (m:Str→Option Value) (x:Str) (u:Value):Prop :=
  (env.kindOf x=some .local∧m x=some u)∨((env.kindOf x=some .cell∨env.kindOf x=some .free)∧∃ c,env.cells.lookup x=some c∧h.IsCell c (some u))
structure Cx.Ok (X:Cx):Prop where
  mod:Mod X.K X.mg X.base
  kind:X.env.scope.kind=.function
  glob:X.env.globals=mainGlobals
  blt:X.env.builtins=builtinsNs
  above:X.s₀.heap.objs.size≤X.env.locals
  inj:∀ x y c,X.env.cells.lookup x=some c→X.env.cells.lookup y=some c→x=y
  has:∀ x,(X.env.kindOf x=some .cell∨X.env.kindOf x=some .free)→∃ c,X.env.cells.lookup x=some c
  cab:∀ x c,X.fn x=true→X.env.cells.lookup x=some c→X.s₀.heap.objs.size≤c
  hd:X.calm=true→X.A.handled=none
  frames:X.A.frames=some X.stack
  stk:X.stack=X.outer∨(X.stack=X.env::X.outer∧X.env.frame=some X.env.locals)
  exf:∀ b∈X.ex,b≠X.env.locals∧∀ x c,X.env.cells.lookup x=some c→c≠b
  bs:∀ b o,X.base.get? b=some o→X.s₀.heap.get? b=some o∧X.H₀ b=none
  bsz:X.base.objs.size≤X.s₀.heap.objs.size
  noex:∀ b o,X.base.get? b=some o→b ∉ X.ex
  exfs:∀ b∈X.ex,b ∉ X.fs
  funs:X.s₀.heap.FunFrames X.base X.outer
  frf:∀ b∈X.fs,X.H₀ b=none
structure Inv (X:Cx) (pins:List (Addr × Obj)) (σ:List (Option V)) (H:Hp) (s:Shared):Prop where
  ok:X.Ok
  os:s.os=X.s₀.os
  bare:AllBare s.gens
  base:Un X.fs X.ex X.H₀ H X.s₀.heap s.heap
  loc:∃ m,s.heap.Ns X.env.locals m∧∀ (i:Nat) (x:Str) (v:V),X.N[i]?=some x→σ[i]?=some (some v)→Vis X.env.scope x→∃ u,RelV v u∧Look X.env s.heap m x u
  cell:∀ x c,X.env.cells.lookup x=some c→∃ v,s.heap.IsCell c v
  free:H X.env.locals=none
  freeC:∀ x c,X.env.cells.lookup x=some c→H c=none
  pin:∀ p∈X.pn++pins,s.heap.get? p.1=some p.2∧H p.1=none∧p.1≠X.env.locals∧p.1 ∉ X.fs∧∀ v,p.2.data≠.cell v
  hok:HOk X.prog X.w H s.heap
  len:σ.length=X.N.length
  tab:∀ P q,TabOf X.K P q→H P=some (.tbl q)
section
variable {X:Cx} {pins:List (Addr × Obj)} {σ:List (Option V)} {H H':Hp} {s:Shared} {h':Heap}
theorem Cx.Ok.nofr (ok:X.Ok) {b:Addr} {o:Obj} (e:X.base.get? b=some o):b ∉ X.fs:=fun hb=>by
  have:=(ok.funs.mem hb).1
  rw [e] at this; cases this
theorem Inv.bs (I:Inv X pins σ H s):∀ b o,X.base.get? b=some o→s.heap.get? b=some o∧H b=none:=fun b o e =>
  ⟨I.base.keep b o (I.ok.bs b o e).1 (I.ok.bs b o e).2 (I.ok.nofr e) (I.ok.noex b o e),I.base.free b o (I.ok.bs b o e).1 (I.ok.bs b o e).2 (I.ok.noex b o e)⟩
theorem Inv.bk (I:Inv X pins σ H s):∀ b o,X.base.get? b=some o→s.heap.get? b=some o:=fun b o e=>(I.bs b o e).1
theorem Inv.mod (I:Inv X pins σ H s):Mod X.K X.mg X.base:=I.ok.mod
theorem Inv.kIn (I:Inv X pins σ H s):X.K.In s.heap:=I.ok.mod.kin.keeps I.bk
theorem Inv.lt (I:Inv X pins σ H s):X.env.locals < s.heap.objs.size:=let ⟨_,hn,_⟩:=I.loc; hn.lt
theorem Inv.sz (I:Inv X pins σ H s):X.s₀.heap.objs.size≤s.heap.objs.size:=Nat.le_trans I.ok.above (Nat.le_of_lt I.lt)
theorem Inv.nofs (I:Inv X pins σ H s) {a:Addr} (h:s.heap.objs.size≤a):a ∉ X.fs:=fun hb=>by
  obtain ⟨_,o,ho,_⟩:=I.ok.funs.mem hb
  exact absurd (Nat.lt_of_lt_of_le (Heap.lt_size ho) (Nat.le_trans I.sz h)) (Nat.lt_irrefl _)
theorem Inv.cne (I:Inv X pins σ H s):∀ x c,X.env.cells.lookup x=some c→c≠X.env.locals:=fun x c e z=>by
  obtain ⟨v,o,ho,hd⟩:=I.cell x c e
  obtain ⟨m,⟨o',es,ep,ho',hd',_⟩,_⟩:=I.loc
  rw [z,ho'] at ho; cases ho; rw [hd'] at hd; cases hd
theorem Inv.funs (I:Inv X pins σ H s):s.heap.FunFrames X.base X.outer:=by
  have all:∀ (l:List Env),(∀ b∈frs l,b∈X.fs)→X.s₀.heap.FunFrames X.base l→s.heap.FunFrames X.base l:=by
    intro l
    induction l with
    | nil=>intro _ _; trivial
    | cons env r ih =>
      intro hs hl
      obtain ⟨hk,⟨L,o,hf,hn,ho,hd⟩,hr⟩:=hl
      have hL:L∈X.fs:=hs L (by unfold frs; rw [List.filterMap_cons,hf]; exact List.mem_cons_self)
      obtain ⟨sl,e⟩:=I.base.slot L o ho (I.ok.frf L hL) hL fun z=>I.ok.exfs L z hL
      exact ⟨hk,⟨L,_,hf,hn,e,hd⟩,ih (fun b hb=>hs b (by unfold frs; rw [List.filterMap_cons,hf]; exact List.mem_cons_of_mem _ hb)) hr⟩
  exact all X.outer (fun _ hb=>hb) I.ok.funs
theorem Inv.stack (I:Inv X pins σ H s):s.heap.FunFrames X.base X.stack:=by
  rcases I.ok.stk with e | ⟨e,hf⟩
  · rw [e]; exact I.funs
  · rw [e]
    obtain ⟨m,hn,_⟩:=I.loc
    refine .cons (by rw [I.ok.kind]; decide) hf hn ?_ I.funs
    exact Heap.get?_none_of_le (Nat.le_trans I.ok.bsz I.ok.above)
theorem Inv.stkSub (I:Inv X pins σ H s):∀ b∈frs X.stack,b∈X.env.locals::X.fs:=fun b hb=>by
  rcases I.ok.stk with e | ⟨e,hf⟩
  · rw [e] at hb; exact List.mem_cons_of_mem _ hb
  · rw [e] at hb
    unfold frs at hb
    rw [List.filterMap_cons,hf] at hb
    exact hb
theorem Inv.stkFree (I:Inv X pins σ H s):∀ b∈frs X.stack,H b=none:=fun b hb=>by
  rcases List.mem_cons.mp (I.stkSub b hb) with e | hb
  · rw [e]; exact I.free
  · obtain ⟨_,o,ho,_⟩:=I.ok.funs.mem hb
    exact I.base.free b o ho (I.ok.frf b hb) fun z=>I.ok.exfs b z hb
theorem Inv.step {g':Array GenState} {t':Nat} {d':Drawn} {ch:List Addr} (I:Inv X pins σ H s)
    (hch:∀ b∈ch,(b∈X.ex∨X.s₀.heap.objs.size≤b)∧b≠X.env.locals∧(∀ x c,X.env.cells.lookup x=some c→c≠b)∧∀ p∈X.pn++pins,p.1≠b)
    (keep:∀ b o,b≠X.env.locals→b ∉ X.fs→b ∉ ch→s.heap.get? b=some o→H b=none→h'.get? b=some o)
    (slot:∀ b o,b≠X.env.locals→b∈X.fs→b ∉ ch→s.heap.get? b=some o→H b=none→∃ sl,h'.get? b=some { o with slots:=sl }) (free:∀ b o,b ∉ ch→s.heap.get? b=some o→H b=none→H' b=none)
    (there:∀ b o,b ∉ ch→s.heap.get? b=some o→∃ o',h'.get? b=some o')
    (tups:∀ b xs,H b=some (.tup xs)→H' b=some (.tup xs)) (frzs:∀ b o u,H b=some (.frz o u)→H' b=some (.frz o u)) (tbls:∀ b q,H b=some (.tbl q)→H' b=some (.tbl q))
    (ns:∀ m,s.heap.Ns X.env.locals m→h'.Ns X.env.locals m) (hok:HOk X.prog X.w H' h') (hg:AllBare g') :
    Inv X pins σ H' { s with heap:=h',gens:=g',drawn:=d',toks:=t' }:=by
  have neL:∀ b o,X.s₀.heap.get? b=some o→b≠X.env.locals:=fun b o e=>Nat.ne_of_lt (Nat.lt_of_lt_of_le (Heap.lt_size e) I.ok.above)
  have neC:∀ b o,X.s₀.heap.get? b=some o→b ∉ X.ex→b ∉ ch:=fun b o e hx hb=>by
    rcases (hch b hb).1 with z | z
    · exact hx z
    · exact absurd (Nat.lt_of_lt_of_le (Heap.lt_size e) z) (Nat.lt_irrefl _)
  have cellK:∀ x c,X.env.cells.lookup x=some c→∀ v,s.heap.IsCell c v→h'.IsCell c v:=fun x c e v pz4=>by
    obtain ⟨o,ho,hd⟩:=pz4
    have nch:c ∉ ch:=fun z=>(hch c z).2.2.1 x c e rfl
    by_cases hc:c∈X.fs
    · obtain ⟨sl,q⟩:=slot c o (I.cne x c e) hc nch ho (I.freeC x c e)
      exact ⟨_,q,hd⟩
    · exact ⟨o,keep c o (I.cne x c e) hc nch ho (I.freeC x c e),hd⟩
  refine ⟨I.ok,I.os,hg,⟨fun b o e n hb hx=>?_,fun b o e n hb hx=>?_,fun b o e n hx=>?_,fun b o e hx=>?_,fun b xs e=>tups b xs (I.base.tups b xs e),fun b o xs e=>frzs b o xs (I.base.frzs b o xs e),fun b ps e=>?_⟩,?_,fun x c e=>?_,?_,fun x c e=>?_,fun p hp=>?_,hok,I.len,fun P q t=>tbls P q (I.tab P q t)⟩
  · exact keep b o (neL b o e) hb (neC b o e hx) (I.base.keep b o e n hb hx) (I.base.free b o e n hx)
  · obtain ⟨sl,e1⟩:=I.base.slot b o e n hb hx
    obtain ⟨sl',e2⟩:=slot b _ (neL b o e) hb (neC b o e hx) e1 (I.base.free b o e n hx)
    exact ⟨sl',e2⟩
  · obtain ⟨o',e1⟩:=I.base.there b o e hx
    exact free b o' (neC b o e hx) e1 (I.base.free b o e n hx)
  · obtain ⟨o',e1⟩:=I.base.there b o e hx
    exact there b o' (neC b o e hx) e1
  · exact tbls b _ (I.base.tbls b ps e)
  · obtain ⟨m,hn,hl⟩:=I.loc
    refine ⟨m,ns m hn,fun i x v e1 e2 e3=>?_⟩
    obtain ⟨u,r,l⟩:=hl i x v e1 e2 e3
    refine ⟨u,r,?_⟩
    rcases l with l | ⟨k,c,e,z⟩
    · exact .inl l
    · exact .inr ⟨k,c,e,cellK x c e _ z⟩
  · obtain ⟨v,z⟩:=I.cell x c e
    exact ⟨v,cellK x c e v z⟩
  · obtain ⟨m,⟨o,_,_,ho,_⟩,_⟩:=I.loc
    exact free _ o (fun z=>(hch _ z).2.1 rfl) ho I.free
  · obtain ⟨v,o,ho,hd⟩:=I.cell x c e
    exact free c o (fun z=>(hch c z).2.2.1 x c e rfl) ho (I.freeC x c e)
  · obtain ⟨e,n,ne,nf,d⟩:=I.pin p hp
    have nch:p.1 ∉ ch:=fun z=>(hch p.1 z).2.2.2 p hp rfl
    exact ⟨keep p.1 p.2 ne nf nch e n,free p.1 p.2 nch e n,ne,nf,d⟩
theorem Inv.un {t':Nat} (I:Inv X pins σ H s) (u:Un X.fs [] H H' s.heap h') (hok:HOk X.prog X.w H' h'):Inv X pins σ H' { s with heap:=h',toks:=t' }:=by
  obtain ⟨m,⟨o,es,ep,ho,r⟩,_⟩:=id I.loc
  obtain ⟨sl,hL⟩:=u.any ho I.free (by simp)
  exact I.step (g':=s.gens) (d':=s.drawn) (ch:=[]) (fun _ z=>nomatch z) (fun b o _ hb _ e n=>u.keep b o e n hb (by simp)) (fun b o _ hb _ e n=>u.slot b o e n hb (by simp)) (fun b o _ e n=>u.free b o e n (by simp)) (fun b o _ e=>u.there b o e (by simp)) u.tups u.frzs u.tbls (fun m' hm=>by
    obtain ⟨o',es',ep',ho',r'⟩:=hm
    rw [ho] at ho'; cases ho'
    exact ⟨_,es',ep',hL,r'⟩) hok I.bare
theorem Inv.call {g':Array GenState} {t':Nat} {d':Drawn} {ch:List Addr} (I:Inv X pins σ H s) (u:Un (frs X.stack) ch H H' s.heap h') (hok:HOk X.prog X.w H' h') (hg:AllBare g')
    (hch:∀ b∈ch,(b∈X.ex∨X.s₀.heap.objs.size≤b)∧b≠X.env.locals∧(∀ x c,X.env.cells.lookup x=some c→c≠b)∧∀ p∈X.pn++pins,p.1≠b) :
    Inv X pins σ H' { s with heap:=h',gens:=g',drawn:=d',toks:=t' }:=by
  obtain ⟨m,⟨o,es,ep,ho,r⟩,_⟩:=id I.loc
  obtain ⟨sl,hL⟩:=u.any ho I.free fun z=>(hch _ z).2.1 rfl
  exact I.step (ch:=ch) hch (fun b o hL hb hc e n=>u.keep b o e n (fun z=>(List.mem_cons.mp (I.stkSub b z)).elim hL hb) hc) (fun b o _ _ hc e n=>u.any e n hc) (fun b o hc e n=>u.free b o e n hc) (fun b o hc e=>u.there b o e hc) u.tups u.frzs u.tbls (fun m' hm=>by
    obtain ⟨o',es',ep',ho',r'⟩:=hm
    rw [ho] at ho'; cases ho'
    exact ⟨_,es',ep',hL,r'⟩) hok hg
theorem Inv.turned {t':Nat} {it:Addr} (I:Inv X pins σ H s) (k:∀ b o,b≠it→s.heap.get? b=some o→h'.get? b=some o) (hn:H it=none) (hL:it≠X.env.locals)
    (h1:it∈X.ex∨X.s₀.heap.objs.size≤it) (h2:∀ x c,X.env.cells.lookup x=some c→c≠it) (h3:∀ p∈X.pn++pins,p.1≠it):Inv X pins σ H { s with heap:=h',toks:=t' }:=by
  have nit:∀ b u,H b=some u→b≠it:=fun b u e z=>by rw [z,hn] at e; cases e
  refine I.step (g':=s.gens) (d':=s.drawn) (ch:=[it]) (fun b hb=>?_) (fun b o _ _ hc e _=>k b o (fun z=>hc (by simp [z])) e) (fun b o _ _ hc e _=>⟨o.slots,k b o (fun z=>hc (by simp [z])) e⟩) (fun _ _ _ _ n=>n)
    (fun b o hc e=>⟨o,k b o (fun z=>hc (by simp [z])) e⟩) (fun _ _ e=>e) (fun _ _ _ e=>e) (fun b ps e=>e) (fun m hm=>?_) (fun b u e=>?_) I.bare
  · have e:b=it:=by simpa using hb
    subst e
    exact ⟨h1,hL,h2,h3⟩
  · obtain ⟨o,es,ep,ho,r⟩:=hm
    exact ⟨o,es,ep,k _ o (Ne.symm hL) ho,r⟩
  · refine (I.hok b u e).stay (fun c v hc q=>k c v ?_ q) (fun _ q=>q) fun _ _ q=>q
    rcases hc with z | z
    · rw [z]; exact nit b u e
    · exact nit c _ z
theorem Inv.tok (I:Inv X pins σ H s) (t:Nat):Inv X pins σ H { s with toks:=t }:=I.un (h':=s.heap) (t':=t) Un.refl I.hok
theorem Inv.kept {t':Nat} (I:Inv X pins σ H s) (k:∀ b u,s.heap.get? b=some u→h'.get? b=some u):Inv X pins σ H { s with heap:=h',toks:=t' }:=I.un (Un.kept k) (I.hok.kept k)
theorem Inv.laid {a:Addr} {o:HO} {t':Nat} (I:Inv X pins σ H s) (k:∀ b u,s.heap.get? b=some u→h'.get? b=some u) (hp:s.heap.objs.size≤a) (new:fP X.prog X.w (upd H a o) h' a o) :
    Inv X pins σ (upd H a o) { s with heap:=h',toks:=t' }:=I.un (Un.laid k hp (I.hok.fresh hp)) (I.hok.laid k hp new)
theorem Inv.write {x e:Addr} {o:HO} {t':Nat} (I:Inv X pins σ H s) (mu:Mut (H x)) (he:e=x∨H e=some (.own x)) (k:∀ b u,b≠e→s.heap.get? b=some u→h'.get? b=some u) (heo:∃ u,h'.get? e=some u)
    (new:fP X.prog X.w (upd H x o) h' x o):Inv X pins σ (upd H x o) { s with heap:=h',toks:=t' }:=I.un (Un.write mu he k heo) (I.hok.write mu he k heo new)
theorem Inv.pins_of {pins':List (Addr × Obj)} (I:Inv X pins σ H s) (h:∀ p∈pins',s.heap.get? p.1=some p.2∧H p.1=none∧p.1≠X.env.locals∧p.1 ∉ X.fs∧∀ v,p.2.data≠.cell v):Inv X pins' σ H s :=
  ⟨I.ok,I.os,I.bare,I.base,I.loc,I.cell,I.free,I.freeC,fun p hp=>(List.mem_append.mp hp).elim (fun z=>I.pin p (List.mem_append_left _ z)) (h p),I.hok,I.len,I.tab⟩
theorem xr {N:List Str} (hN:N.Nodup) {i j:Nat} {x:Str} (a:N[i]?=some x) (b:N[j]?=some x):i=j:=by
  obtain ⟨h1,e1⟩:=List.getElem?_eq_some_iff.mp a
  obtain ⟨h2,e2⟩:=List.getElem?_eq_some_iff.mp b
  exact (List.getElem_inj hN).mp (e1.trans e2.symm)
theorem uo {M:Model} {A:Around} {E:Value→Shared→Prop} {i:Nat} {x:Str} {v:V} {u:Value} {Q:Unit→Shared→Prop} (I:Inv X pins σ H s) (hN:X.N.Nodup) (hi:X.N[i]?=some x) (hx:Loc X.env.scope x) (r:RelV v u)
    (h:∀ s',Inv X pins (σ.set i (some v)) H s'→(∃ a,Heap.SameBut a s.heap s'.heap∧(a=X.env.locals∨X.env.cells.lookup x=some a))→Q () s') (hf:X.fn x=true∨X.env.scope.names.lookup x=some .local:=by first | exact .inl rfl | exact .inr rfl | assumption):wpAny M A (storeName X.env x u) Q E s:=by
  obtain ⟨m,hn,hl⟩:=id I.loc
  have hcls:(X.env.scope.kind == .class || (X.env.scope.kind == .module && X.env.locals != X.env.globals))=false:=by rw [I.ok.kind]; rfl
  have hiσ:i < σ.length:=by rw [I.len]; exact (List.getElem?_eq_some_iff.mp hi).1
  have cne:=I.cne
  have tracked:∀ {a:Addr} {h':Heap},(∃ o,s.heap.get? a=some o∧H a=none)→Heap.SameBut a s.heap h'→HOk X.prog X.w H h':=fun {a h'} ha hs b ob e=>by
    obtain ⟨_,_,hfree⟩:=ha
    refine (I.hok b ob e).stay (fun c w' hc q=>(hs.2 c ?_).trans q) (fun _ q=>q) fun _ _ q=>q
    rintro rfl
    rcases hc with rfl | hc
    · rw [hfree] at e; cases e
    · rw [hfree] at hc; cases hc
  rcases hx with hk | hk
  · refine wpAny_storeName_local hk hn (fun h' hn' hs=>?_) hcls
    obtain ⟨oL,_,_,hoL,_⟩:=id hn
    refine h _ ⟨I.ok,I.os,I.bare,⟨fun b o e n hb hx=>?_,fun b o e n hb hx=>?_,I.base.free,fun b o e hx=>?_,I.base.tups,I.base.frzs,I.base.tbls⟩,⟨_,hn',fun j y v' e1 e2 e3=>?_⟩,fun y c e=>?_,I.free,I.freeC,fun p hp=>?_,tracked ⟨oL,hoL,I.free⟩ hs,by simpa using I.len,I.tab⟩ ⟨_,hs,.inl rfl⟩
    · exact (hs.2 b (Nat.ne_of_lt (Nat.lt_of_lt_of_le (Heap.lt_size e) I.ok.above))).trans (I.base.keep b o e n hb hx)
    · obtain ⟨sl,e1⟩:=I.base.slot b o e n hb hx
      exact ⟨sl,(hs.2 b (Nat.ne_of_lt (Nat.lt_of_lt_of_le (Heap.lt_size e) I.ok.above))).trans e1⟩
    · obtain ⟨o',e1⟩:=I.base.there b o e hx
      exact ⟨o',(hs.2 b (Nat.ne_of_lt (Nat.lt_of_lt_of_le (Heap.lt_size e) I.ok.above))).trans e1⟩
    · by_cases hj:j=i
      · subst hj
        rw [hi] at e1; cases e1
        rw [List.getElem?_set_self hiσ] at e2
        cases e2
        exact ⟨u,r,.inl ⟨hk,by simp⟩⟩
      · rw [List.getElem?_set_ne (Ne.symm hj)] at e2
        obtain ⟨u',r',q⟩:=hl j y v' e1 e2 e3
        refine ⟨u',r',?_⟩
        rcases q with ⟨k,e⟩ | ⟨k,c,e,z⟩
        · refine .inl ⟨k,?_⟩
          have:y≠x:=fun e=>hj (xr hN e1 (e ▸ hi))
          simp [this,e]
        · exact .inr ⟨k,c,e,z.sameBut hs (cne y c e)⟩
    · obtain ⟨w',z⟩:=I.cell y c e
      exact ⟨w',z.sameBut hs (cne y c e)⟩
    · obtain ⟨e,n,ne,nf,d⟩:=I.pin p hp
      exact ⟨(hs.2 p.1 ne).trans e,n,ne,nf,d⟩
  · have hfn:X.fn x=true:=by
      rcases hf with z | z
      · exact z
      · rw [z] at hk; cases hk
    obtain ⟨c,hc⟩:=I.ok.has x (.inl hk)
    obtain ⟨w',z⟩:=I.cell x c hc
    refine wpAny_storeName_cell I.ok.kind hk hc z (fun h' hc' hs=>?_)
    obtain ⟨oc,hoc,hocd⟩:=id z
    refine h { s with heap:=h' } ⟨I.ok,I.os,I.bare,⟨fun b o e n hb hx=>?_,fun b o e n hb hx=>?_,I.base.free,fun b o e hx=>?_,I.base.tups,I.base.frzs,I.base.tbls⟩,⟨m,hn.sameBut hs (Ne.symm (cne x c hc)),fun j y v' e1 e2 e3=>?_⟩,fun y c' e=>?_,I.free,I.freeC,fun p hp=>?_,tracked ⟨oc,hoc,I.freeC x c hc⟩ hs,by simpa using I.len,I.tab⟩ ⟨c,hs,.inr hc⟩
    · exact (hs.2 b (Nat.ne_of_lt (Nat.lt_of_lt_of_le (Heap.lt_size e) (I.ok.cab x c hfn hc)))).trans (I.base.keep b o e n hb hx)
    · obtain ⟨sl,e1⟩:=I.base.slot b o e n hb hx
      exact ⟨sl,(hs.2 b (Nat.ne_of_lt (Nat.lt_of_lt_of_le (Heap.lt_size e) (I.ok.cab x c hfn hc)))).trans e1⟩
    · obtain ⟨o',e1⟩:=I.base.there b o e hx
      exact ⟨o',(hs.2 b (Nat.ne_of_lt (Nat.lt_of_lt_of_le (Heap.lt_size e) (I.ok.cab x c hfn hc)))).trans e1⟩
    · by_cases hj:j=i
      · subst hj
        rw [hi] at e1; cases e1
        rw [List.getElem?_set_self hiσ] at e2
        cases e2
        exact ⟨u,r,.inr ⟨.inl hk,c,hc,hc'⟩⟩
      · rw [List.getElem?_set_ne (Ne.symm hj)] at e2
        obtain ⟨u',r',q⟩:=hl j y v' e1 e2 e3
        refine ⟨u',r',?_⟩
        rcases q with q | ⟨k,c',e,z'⟩
        · exact .inl q
        · refine .inr ⟨k,c',e,z'.sameBut hs ?_⟩
          rintro rfl
          exact hj (xr hN e1 (I.ok.inj _ _ _ e hc ▸ hi))
    · by_cases hcc:c'=c
      · subst hcc; exact ⟨_,hc'⟩
      · obtain ⟨w2,z2⟩:=I.cell y c' e
        exact ⟨w2,z2.sameBut hs hcc⟩
    · obtain ⟨e,n,ne,nf,d⟩:=I.pin p hp
      refine ⟨(hs.2 p.1 ?_).trans e,n,ne,nf,d⟩
      intro q
      rw [q,hoc] at e
      have q':oc=p.2:=Option.some.inj e
      exact d w' (by rw [← q']; exact hocd)
theorem rY {M:Model} {A:Around} {E:Value→Shared→Prop} {i:Nat} {x:Str} {v:V} {u:Value} {Q:Unit→Shared→Prop} (I:Inv X pins σ H s) (hN:X.N.Nodup) (hi:X.N[i]?=some x) (hx:Loc X.env.scope x) (r:RelV v u)
    (h:∀ s',Inv X pins (σ.set i (some v)) H s'→Q () s') (hf:X.fn x=true∨X.env.scope.names.lookup x=some .local:=by first | exact .inl rfl | exact .inr rfl | assumption):wpAny M A (storeName X.env x u) Q E s :=
  uo I hN hi hx r (fun s' I' _=>h s' I') hf
theorem Inv.call' {s':Shared} {ch:List Addr} (I:Inv X pins σ H s) (ho:s'.os=s.os) (u:Un (frs X.stack) ch H H' s.heap s'.heap) (hok:HOk X.prog X.w H' s'.heap) (hg:AllBare s'.gens)
    (hch:∀ b∈ch,(b∈X.ex∨X.s₀.heap.objs.size≤b)∧b≠X.env.locals∧(∀ x c,X.env.cells.lookup x=some c→c≠b)∧∀ p∈X.pn++pins,p.1≠b):Inv X pins σ H' s':=by
  obtain ⟨h',g',d',t',o'⟩:=s'
  have e:o'=s.os:=ho
  subst e
  exact I.call (g':=g') (t':=t') (d':=d') u hok hg hch
end
noncomputable abbrev XK:=Value→Option Addr→Hp→Prop
noncomputable abbrev St:=List (Option V)
noncomputable abbrev VK:=V→Hp→Prop
noncomputable abbrev TE:=St→Hp→VK→Prop
noncomputable abbrev TT:=St→Hp→(Bool→Hp→Prop)→Prop
noncomputable abbrev TA:=St→Hp→(List V→Hp→Prop)→Prop
structure Ends where
  nx:St→Hp→Prop
  rt:VK
  bk:St→Hp→Prop:=fun _ _=>False
  ct:St→Hp→Prop:=fun _ _=>False
noncomputable abbrev TS:=Ends→St→Hp→Prop
noncomputable def EP (X:Cx) (pins:List (Addr × Obj)) (σ:St) (Q:VK) (u:Value) (s':Shared):Prop:=∃ v H',Inv X pins σ H' s'∧RelV v u∧Q v H'
noncomputable def TP (X:Cx) (pins:List (Addr × Obj)) (σ:St) (Q:Bool→Hp→Prop) (b:Bool) (s':Shared):Prop:=∃ H',Inv X pins σ H' s'∧Q b H'
noncomputable def AP (X:Cx) (pins:List (Addr × Obj)) (σ:St) (Q:List V→Hp→Prop) (us:List Value) (s':Shared):Prop:=∃ vs H',Inv X pins σ H' s'∧Vals vs us∧Q vs H'
noncomputable def SP (X:Cx) (pins:List (Addr × Obj)) (D:Ends) (f:Flow) (s':Shared):Prop :=
  match f with
  | .next=>∃ σ' H',Inv X pins σ' H' s'∧D.nx σ' H'
  | .brk=>∃ σ' H',Inv X pins σ' H' s'∧D.bk σ' H'
  | .cont=>∃ σ' H',Inv X pins σ' H' s'∧D.ct σ' H'
  | .ret u=>∃ v σ' H',Inv X pins σ' H' s'∧RelV v u∧D.rt v H'
noncomputable def PE (X:Cx) (e:Expr) (t:TE):Prop :=
  ∀ (pins:List (Addr × Obj)) (s:Shared) (σ:St) (H:Hp) (Q:VK),Inv X pins σ H s→t σ H Q→wpAny (model X.prog X.w) X.A (eval e X.env) (EP X pins σ Q) X.xe s
noncomputable def PT (X:Cx) (e:Expr) (t:TT):Prop :=
  ∀ (pins:List (Addr × Obj)) (s:Shared) (σ:St) (H:Hp) (Q:Bool→Hp→Prop),Inv X pins σ H s→t σ H Q→wpAny (model X.prog X.w) X.A (isTrue e X.env (eval e X.env)) (TP X pins σ Q) X.xe s
noncomputable def PW (X:Cx) (e:Expr) (t:TT):Prop :=
  ∀ (whole:Sem Value) (pins:List (Addr × Obj)) (s:Shared) (σ:St) (H:Hp) (Q:Bool→Hp→Prop),Inv X pins σ H s→t σ H Q→wpAny (model X.prog X.w) X.A (isTrue e X.env whole) (TP X pins σ Q) X.xe s
theorem PW.pt {X:Cx} {e:Expr} {t:TT} (h:PW X e t):PT X e t:=h _
noncomputable def PA (X:Cx) (es:List Expr) (t:TA):Prop :=
  ∀ (pos:Pos) (pins:List (Addr × Obj)) (s:Shared) (σ:St) (H:Hp) (Q:List V→Hp→Prop),Inv X pins σ H s→t σ H Q→wpAny (model X.prog X.w) X.A (spliced (backTo pos (starEach es X.env))) (AP X pins σ Q) X.xe s
noncomputable def PS (X:Cx) (st:Stmt) (t:TS):Prop :=
  ∀ (pins:List (Addr × Obj)) (s:Shared) (σ:St) (H:Hp) (D:Ends),Inv X pins σ H s→t D σ H→wpAny (model X.prog X.w) X.A (exec st X.env) (SP X pins D) X.xe s
noncomputable def PSs (X:Cx) (st:List Stmt) (t:TS):Prop :=
  ∀ (pins:List (Addr × Obj)) (s:Shared) (σ:St) (H:Hp) (D:Ends),Inv X pins σ H s→t D σ H→wpAny (model X.prog X.w) X.A (execs st X.env) (SP X pins D) X.xe s
theorem thn {α:Type} {t:Sem α} {Q Q':α→Shared→Prop} {M:Model} {A:Around} {E:Value→Shared→Prop} {s:Shared} (h:wpAny M A t Q E s) (hQ:∀ a s,Q a s→Q' a s):wpAny M A t Q' E s:=wpAny_mono h hQ fun _ _ x=>x
end L2
namespace L2
open PySem PySem.Spec PyProof.Rows
section
variable {X:Cx}
theorem bin {a b:Expr} {ta tb:TE} (ha:PE X a ta) (hb:PE X b tb) {pins:List (Addr × Obj)} {s:Shared} {σ:St} {H:Hp} {R:V→V→Hp→Prop} (I:Inv X pins σ H s) (h:ta σ H fun x H1=>tb σ H1 fun y H2=>R x y H2)
    {α:Type} {Q:α→Shared→Prop} {f:Value→Value→Sem α}
    (hf:∀ v u s2 x y H2,Inv X pins σ H2 s2→RelV x v→RelV y u→R x y H2→wpAny (model X.prog X.w) X.A (f v u) Q X.xe s2) :
    wpAny (model X.prog X.w) X.A (eval a X.env) (fun v s₁=>wpAny (model X.prog X.w) X.A (eval b X.env) (fun u s₂=>wpAny (model X.prog X.w) X.A (f v u) Q X.xe s₂) X.xe s₁) X.xe s:=by
  refine thn (ha pins s σ H _ I h) fun v s1 rz2=>?_
  obtain ⟨x,H1,I1,r1,q1⟩:=rz2
  refine thn (hb pins s1 σ H1 _ I1 q1) fun u s2 rz2=>?_
  obtain ⟨y,H2,I2,r2,q2⟩:=rz2
  exact hf v u s2 x y H2 I2 r1 r2 q2
noncomputable def Hx (i:Nat):TE:=fun σ H Q=>∃ v,σ[i]?=some (some v)∧Q v H
noncomputable def tC (v:V):TE:=fun _ H Q=>Q v H
theorem oP {i:Nat} {x:Str} {pos:Pos} (hN:X.N[i]?=some x) (hv:Vis X.env.scope x) (hd:(x == ("__debug__":Str))=false:=by decide) (hcd:(x == ("__classdict__":Str))=false:=by decide):PE X (.Name x pos) (Hx i):=by
  intro pins s σ H Q I h
  obtain ⟨v,e,h⟩:=h
  obtain ⟨m,hn,hl⟩:=I.loc
  obtain ⟨u,r,l⟩:=hl i x v hN e hv
  have fin:EP X pins σ Q u s:=⟨v,H,I,r,h⟩
  rcases l with ⟨hk,hm⟩ | ⟨hk,c,hc,hcell⟩
  · exact wpAny_Name (wpAny_loadName_local I.ok.kind hk hn hm fin) hd
  · rcases hk with hk | hk
    · exact wpAny_Name (wpAny_loadName_cell I.ok.kind hk hc hcell fin) hd
    · exact wpAny_Name (wpAny_loadName_free I.ok.kind hk hc hcell fin hcd) hd
theorem kv {i j pos}:PE X (.Constant (.int i) j pos) (tC (.int i)):=fun _ _ _ H _ I h=>wpAny_Constant_int ⟨.int i,H,I.tok _,⟨_,rfl⟩,h⟩
theorem Hq {b j pos}:PE X (.Constant (.bool b) j pos) (tC (.bl b)):=fun _ _ _ H _ I h=>Constant_bool ⟨.bl b,H,I,rfl,h⟩
theorem FE {j pos}:PE X (.Constant .none j pos) (tC .non):=fun _ _ _ H _ I h=>Constant_none ⟨.non,H,I,rfl,h⟩
theorem Gr {x j pos}:PE X (.Constant (.str x) j pos) (tC (.str x)):=fun _ _ _ H _ I h=>Calls.Constant_str ⟨.str x,H,I.tok _,⟨_,rfl⟩,h⟩
noncomputable def Gl (X:Cx) (x:Str):Prop:=X.env.kindOf x=some .globalImplicit
theorem qv {E:Value→Shared→Prop} {pins:List (Addr × Obj)} {s:Shared} {σ:St} {H:Hp} {x:Str} {u:Value} {pos:Pos} {Q:Value→Shared→Prop} (I:Inv X pins σ H s) (hg:Gl X x) (hm:X.mg x=some u) (h:Q u s)
    (hd:(x == ("__debug__":Str))=false:=by decide):wpAny (model X.prog X.w) X.A (eval (.Name x pos) X.env) Q E s :=
  Calls.Name_function_global I.ok.kind hg (Calls.loadGlobal_global (by rw [I.ok.glob]; exact I.mod.glob.keeps I.bk) hm h) hd
theorem ja {E:Value→Shared→Prop} {pins:List (Addr × Obj)} {s:Shared} {σ:St} {H:Hp} {x:Str} {u:Value} {pos:Pos} {Q:Value→Shared→Prop} (I:Inv X pins σ H s) (hg:Gl X x) (hm:X.mg x=none) (hv:bootBuiltins x=some u) (h:Q u s)
    (hn:x≠"__name__":=by decide) (hd:(x == ("__debug__":Str))=false:=by decide):wpAny (model X.prog X.w) X.A (eval (.Name x pos) X.env) Q E s:=by
  obtain ⟨mb,h1,h2⟩:=I.mod.blt
  exact Calls.Name_function_global I.ok.kind hg (Calls.loadGlobal_builtin (by rw [I.ok.glob]; exact I.mod.glob.keeps I.bk) hm (by rw [I.ok.blt]; exact h1.keeps I.bk) ((h2 x hn).trans hv) h) hd
theorem Ed {x:Str} {v:V} {u:Value} {pos:Pos} (hg:Gl X x) (hm:X.mg x=some u) (r:RelV v u) (hd:(x == ("__debug__":Str))=false:=by decide):PE X (.Name x pos) (tC v) :=
  fun _ _ _ H _ I h=>qv I hg hm ⟨v,H,I,r,h⟩ hd
theorem EI {x:Str} {v:V} {u:Value} {pos:Pos} (hg:Gl X x) (hm:X.mg x=none) (hv:bootBuiltins x=some u) (r:RelV v u) (hn:x≠"__name__":=by decide) (hd:(x == ("__debug__":Str))=false:=by decide):PE X (.Name x pos) (tC v) :=
  fun _ _ _ H _ I h=>ja I hg hm hv ⟨v,H,I,r,h⟩ hn hd
noncomputable def t2I (ta tb:TE) (k:Int→Int→Hp→Prop):St→Hp→Prop:=fun σ H=>ta σ H fun x H1=>tb σ H1 fun y H2=>∃ i j,x=.int i∧y=.int j∧k i j H2
variable {a b:Expr} {ta tb:TE} {pos:Pos}
noncomputable def PC (X:Cx) (op:CmpOp) (a b:Expr) (t:TE):Prop :=
  ∀ (pins:List (Addr × Obj)) (s:Shared) (σ:St) (H:Hp) (Q:VK),Inv X pins σ H s→t σ H Q →
    wpAny (model X.prog X.w) X.A (eval a X.env) (fun v s₁=>wpAny (model X.prog X.w) X.A (eval b X.env) (fun u s₂=>wpAny (model X.prog X.w) X.A (compareOp op v u) (EP X pins σ Q) X.xe s₂) X.xe s₁) X.xe s
theorem v8 (b:Expr) {op:CmpOp} (h:op≠.In) (h2:op≠.NotIn):behindInMarks op b=false:=by
  have e1:(op == CmpOp.In)=false:=by cases op <;> first | rfl | exact absurd rfl h
  have e2:(op == CmpOp.NotIn)=false:=by cases op <;> first | rfl | exact absurd rfl h2
  cases b <;> simp [behindInMarks,e1,e2]
noncomputable def GX (p:Int→Int→Bool) (ta tb:TE):TE:=fun σ H Q=>t2I ta tb (fun i j H2=>Q (.bl (p i j)) H2) σ H
noncomputable abbrev tLt:TE→TE→TE:=GX fun i j=>decide (i < j)
theorem FR {op:CmpOp} {p:Int→Int→Bool} (ha:PE X a ta) (hb:PE X b tb)
    (rule:∀ (i j:Int) (t u:Tok) (Q:Value→Shared→Prop) (s:Shared),Q (.bool (p i j)) s→wpAny (model X.prog X.w) X.A (compareOp op (.int i t) (.int j u)) Q X.xe s):PC X op a b (GX p ta tb):=by
  intro pins s σ H Q I h
  refine bin ha hb I h fun v u s2 x y H2 I2 rx ry q=>?_
  obtain ⟨i,j,rfl,rfl,q⟩:=q
  obtain ⟨t,rfl⟩:=rx
  obtain ⟨t',rfl⟩:=ry
  exact rule i j t t' _ s2 ⟨.bl _,H2,I2,rfl,q⟩
theorem Hm (ha:PE X a ta) (hb:PE X b tb):PC X .Lt a b (tLt ta tb):=FR ha hb fun _ _ _ _ _ _ h=>lt_int h
noncomputable def HG (ta:TE):TE:=fun σ H Q=>ta σ H fun x H1=>Q (.bl (decide (x=.non))) H1
noncomputable def G2 (ta:TE):TE:=fun σ H Q=>ta σ H fun x H1=>Q (.bl (!decide (x=.non))) H1
theorem RelV.none_iff {x:V} {v:Value} (r:RelV x v):(v == Value.none)=decide (x=.non):=by
  cases x with
  | non=>cases r; rfl
  | bl _=>cases r; rfl
  | int _=>obtain ⟨t,rfl⟩:=r; rfl
  | str _=>obtain ⟨t,rfl⟩:=r; rfl
  | byt _=>obtain ⟨t,rfl⟩:=r; rfl
  | flt _=>obtain ⟨t,rfl⟩:=r; rfl
  | ref _=>cases r; rfl
  | ty _=>cases r; rfl
theorem By {j pos'} (ha:PE X a ta):PC X .Is a (.Constant .none j pos') (HG ta):=by
  intro pins s σ H Q I h
  refine thn (ha pins s σ H _ I h) fun v s1 rz2=>?_
  obtain ⟨x,H1,I1,r1,q1⟩:=rz2
  exact Constant_none (is_none_gen ⟨.bl _,H1,I1,by rw [r1.none_iff]; rfl,q1⟩)
theorem Af {j pos'} (ha:PE X a ta):PC X .IsNot a (.Constant .none j pos') (G2 ta):=by
  intro pins s σ H Q I h
  refine thn (ha pins s σ H _ I h) fun v s1 rz2=>?_
  obtain ⟨x,H1,I1,r1,q1⟩:=rz2
  exact Constant_none (isnot_none_gen ⟨.bl _,H1,I1,by rw [r1.none_iff]; rfl,q1⟩)
noncomputable def tB (t:TE):TT:=fun σ H Q=>t σ H fun x H1=>∃ c,x=.bl c∧Q c H1
theorem CF {op:CmpOp} {t:TE} (h:PC X op a b t) (h1:behindInMarks op b=false:=by first | exact v8 _ (by decide) (by decide) | rfl):PE X (.Compare a [op] [b] pos) t:=fun pins s σ H Q I hw=>wpAny_Compare1 (h pins s σ H Q I hw) h1
theorem yo {op:CmpOp} {t:TE} (h:PC X op a b t) (h1:behindInMarks op b=false:=by first | exact v8 _ (by decide) (by decide) | rfl):PT X (.Compare a [op] [b] pos) (tB t):=by
  intro pins s σ H Q I hw
  refine wpAny_isTrue_Compare1 (thn (h pins s σ H _ I hw) fun v s1 h1=>thn h1 fun u s2 h2=>thn h2 fun c s3 rz2=>?_) h1
  obtain ⟨x,H1,I1,r1,q1⟩:=rz2
  obtain ⟨d,rfl,q⟩:=q1
  cases r1
  exact wpAny_truthy_bool ⟨H1,I1,q⟩
theorem Gk {e:Expr} {t:TE} (h:PE X e t) (he:∀ whole,isTrue e X.env whole=(do let v ← whole; standAt e.pos; holding [v] (truthy v)):=by intro _; rfl):PT X e (tB t):=by
  intro pins s σ H Q I hw
  refine isTrue_plain (thn (h pins s σ H _ I hw) fun v s1 rz2=>?_) (he _)
  obtain ⟨x,H1,I1,r1,q1⟩:=rz2
  obtain ⟨d,rfl,q⟩:=q1
  cases r1
  exact wpAny_truthy_bool ⟨H1,I1,q⟩
variable {tA tB':TT} {rest:List Expr}
noncomputable def HW (t u:TT):TT:=fun σ H Q=>t σ H fun c H1=>if c=true then u σ H1 Q else Q false H1
noncomputable def tOr (t u:TT):TT:=fun σ H Q=>t σ H fun c H1=>if c=true then Q true H1 else u σ H1 Q
noncomputable def Ih (t:TT):TT:=fun σ H Q=>t σ H fun c H1=>Q (!c) H1
theorem Eg (ha:PT X a tA):PW X (.BoolOp .And [a] pos) tA:=by
  intro wh pins s σ H Q I h
  refine isTrue_and (thn (ha pins s σ H Q I h) fun c s1 e=>?_)
  cases c with
  | true=>exact isTrue_and_nil e
  | false=>exact e
theorem Fu (ha:PT X a tA):PW X (.BoolOp .Or [a] pos) tA:=by
  intro wh pins s σ H Q I h
  refine isTrue_or (thn (ha pins s σ H Q I h) fun c s1 e=>?_)
  cases c with
  | false=>exact isTrue_or_nil e
  | true=>exact e
theorem Fv (ha:PT X a tA) (hb:PW X (.BoolOp .And (b::rest) pos) tB'):PW X (.BoolOp .And (a::b::rest) pos) (HW tA tB'):=by
  intro wh pins s σ H Q I h
  refine isTrue_and (thn (ha pins s σ H _ I h) fun c s1 rz2=>?_)
  obtain ⟨H1,I1,q1⟩:=rz2
  cases c with
  | true=>exact hb wh pins s1 σ H1 Q I1 q1
  | false=>exact ⟨H1,I1,q1⟩
theorem G7 (ha:PT X a tA) (hb:PW X (.BoolOp .Or (b::rest) pos) tB'):PW X (.BoolOp .Or (a::b::rest) pos) (tOr tA tB'):=by
  intro wh pins s σ H Q I h
  refine isTrue_or (thn (ha pins s σ H _ I h) fun c s1 rz2=>?_)
  obtain ⟨H1,I1,q1⟩:=rz2
  cases c with
  | true=>exact ⟨H1,I1,q1⟩
  | false=>exact hb wh pins s1 σ H1 Q I1 q1
theorem FH (ha:PT X a tA):PT X (.UnaryOp .Not a pos) (Ih tA):=by
  intro pins s σ H Q I h
  exact isTrue_not (ha pins s σ H (fun c H1=>Q (!c) H1) I h)
noncomputable def Hf (ta tb:TE):TE:=fun σ H Q=>ta σ H fun x H1=>∃ c,x=.bl c∧if c=true then tb σ H1 Q else Q (.bl false) H1
noncomputable def Ik (ta tb:TE):TE:=fun σ H Q=>ta σ H fun x H1=>∃ c,x=.bl c∧if c=true then Q (.bl true) H1 else tb σ H1 Q
theorem E5 {op} {t:TE} (h:PE X a t):PE X (.BoolOp op [a] pos) t:=fun pins s σ H Q I hw=>BoolOp_one (h pins s σ H Q I hw)
theorem Gs (ha:PE X a ta) (hb:PE X (.BoolOp .And (b::rest) pos) tb):PE X (.BoolOp .And (a::b::rest) pos) (Hf ta tb):=by
  intro pins s σ H Q I h
  refine BoolOp_and (thn (ha pins s σ H _ I h) fun v s1 rz2=>?_)
  obtain ⟨x,H1,I1,r1,q1⟩:=rz2
  obtain ⟨c,rfl,q1⟩:=q1
  cases r1
  refine wpAny_truthy_bool ?_
  cases c with
  | true=>exact hb pins s1 σ H1 Q I1 q1
  | false=>exact ⟨.bl false,H1,I1,rfl,q1⟩
theorem Hl (ha:PE X a ta) (hb:PE X (.BoolOp .Or (b::rest) pos) tb):PE X (.BoolOp .Or (a::b::rest) pos) (Ik ta tb):=by
  intro pins s σ H Q I h
  refine BoolOp_or (thn (ha pins s σ H _ I h) fun v s1 rz2=>?_)
  obtain ⟨x,H1,I1,r1,q1⟩:=rz2
  obtain ⟨c,rfl,q1⟩:=q1
  cases r1
  refine wpAny_truthy_bool ?_
  cases c with
  | false=>exact hb pins s1 σ H1 Q I1 q1
  | true=>exact ⟨.bl true,H1,I1,rfl,q1⟩
noncomputable def tIf (t:TT) (ta tb:TE):TE:=fun σ H Q=>t σ H fun c H1=>if c=true then ta σ H1 Q else tb σ H1 Q
theorem CC {c:Expr} (hc:PT X c tA) (ha:PE X a ta) (hb:PE X b tb):PE X (.IfExp c a b pos) (tIf tA ta tb):=by
  intro pins s σ H Q I h
  refine wpAny_IfExp (thn (hc pins s σ H _ I h) fun d s1 rz2=>?_)
  obtain ⟨H1,I1,q1⟩:=rz2
  cases d with
  | true=>exact ha pins s1 σ H1 Q I1 q1
  | false=>exact hb pins s1 σ H1 Q I1 q1
end
end L2
namespace L2
open PySem PySem.Spec PyProof.Rows
noncomputable def SqL (K:PySem.W.Frag) (H:Hp) (a:Addr) (xs:List V):Prop :=
  Rd H a (.lst xs) ∨
    ∃ (o:Obj) (its:Array Value) (n:Nat),K.lookup a=some o∧o.cls=.type "list"∧o.dict=none∧o.data=.seq its n∧its.size≤sizeLine∧Vals xs its.toList
noncomputable def SqT (K:PySem.W.Frag) (H:Hp) (a:Addr) (xs:List V):Prop :=
  Rd H a (.tup xs) ∨
    ∃ (o:Obj) (its:Array Value) (n:Nat),K.lookup a=some o∧o.cls=.type "tuple"∧o.data=.seq its n∧its.size≤sizeLine∧Vals xs its.toList
noncomputable def Ig:Value→Option V
  | .none=>some .non
  | .bool b=>some (.bl b)
  | .int i _=>some (.int i)
  | .str x _=>some (.str x)
  | .bytes b _=>some (.byt b)
  | .float b _=>some (.flt b)
  | .ref a=>some (.ref a)
  | .type n=>some (.ty n)
  | _=>none
theorem RelV.abs {x:V} {u:Value} (r:RelV x u):Ig u=some x:=by
  cases x with
  | non=>cases r; rfl
  | bl _=>cases r; rfl
  | int _=>obtain ⟨t,rfl⟩:=r; rfl
  | str _=>obtain ⟨t,rfl⟩:=r; rfl
  | byt _=>obtain ⟨t,rfl⟩:=r; rfl
  | flt _=>obtain ⟨t,rfl⟩:=r; rfl
  | ref _=>cases r; rfl
  | ty _=>cases r; rfl
theorem RelV.inj {x y:V} {u:Value} (r:RelV x u) (q:RelV y u):x=y:=Option.some.inj (r.abs.symm.trans q.abs)
theorem Vals.inj {xs ys:List V} {us:List Value} (h:Vals xs us) (h':Vals ys us):xs=ys:=by
  induction h generalizing ys with
  | nil=>cases h'; rfl
  | cons r t ih =>
    cases h' with
    | cons r' t'=>rw [r.inj r',ih t']
section
variable {X:Cx} {pins:List (Addr × Obj)} {σ:St} {H:Hp} {s:Shared} {a:Addr} {xs ys:List V}
theorem SqL.of {K:PySem.W.Frag} (h:H a=some (.lst xs)):SqL K H a xs:=.inl (.inl h)
theorem SqT.of {K:PySem.W.Frag} (h:H a=some (.tup xs)):SqT K H a xs:=.inl (.inl h)
theorem Inv.list (I:Inv X pins σ H s) (h:SqL X.K H a xs):∃ its:List Value,Vals xs its∧PlainL s.heap a its.toArray∧xs.length≤sizeLine:=by
  rcases h with h | ⟨o,its,n,hk,hc,hd,hs,hz,r⟩
  · obtain ⟨z,its,n,r,e⟩:=h.ok I.hok
    exact ⟨its,r,⟨_,n,e,rfl,rfl,rfl⟩,z⟩
  · refine ⟨its.toList,r,⟨o,n,I.kIn a o hk,hc,hd,by simpa using hs⟩,?_⟩
    have e:=r.length
    simp only [Array.length_toList] at e
    omega
theorem Inv.tuple (I:Inv X pins σ H s) (h:SqT X.K H a xs):∃ its:List Value,Vals xs its∧IsTup s.heap a its.toArray∧xs.length≤sizeLine:=by
  rcases h with h | ⟨o,its,n,hk,hc,hs,hz,r⟩
  · obtain ⟨z,its,r,p⟩:=h.ok I.hok
    exact ⟨its,r,p.tup,z⟩
  · refine ⟨its.toList,r,⟨o,I.kIn a o hk,hc,n,by simpa using hs⟩,?_⟩
    have e:=r.length
    simp only [Array.length_toList] at e
    omega
theorem Inv.list_inj (I:Inv X pins σ H s) (h:SqL X.K H a xs) (h':SqL X.K H a ys):xs=ys:=by
  obtain ⟨its,r,⟨o,n,e,_,_,d⟩,_⟩:=I.list h
  obtain ⟨its',r',⟨o',n',e',_,_,d'⟩,_⟩:=I.list h'
  rw [e] at e'; cases e'
  rw [d] at d'
  injection d' with d1 _
  have:its=its':=by simpa using congrArg Array.toList d1
  subst this
  exact r.inj r'
theorem Inv.tuple_inj (I:Inv X pins σ H s) (h:SqT X.K H a xs) (h':SqT X.K H a ys):xs=ys:=by
  obtain ⟨its,r,⟨o,e,_,n,d⟩,_⟩:=I.tuple h
  obtain ⟨its',r',⟨o',e',_,n',d'⟩,_⟩:=I.tuple h'
  rw [e] at e'; cases e'
  rw [d] at d'
  injection d' with d1 _
  have:its=its':=by simpa using congrArg Array.toList d1
  subst this
  exact r.inj r'
end
noncomputable abbrev Cx.wish (X:Cx) (E:Value→Shared→Prop):Cx:={ X with xe:=E }
noncomputable abbrev Cx.nox (X:Cx):Cx:=X.wish fun _ _=>False
theorem Cx.Ok.wish {X:Cx} (ok:X.Ok) (E:Value→Shared→Prop):(X.wish E).Ok :=
  ⟨ok.mod,ok.kind,ok.glob,ok.blt,ok.above,ok.inj,ok.has,ok.cab,ok.hd,ok.frames,ok.stk,ok.exf,ok.bs,ok.bsz,ok.noex,ok.exfs,ok.funs,ok.frf⟩
theorem Cx.Ok.unwish {X:Cx} {E:Value→Shared→Prop} (ok:(X.wish E).Ok):X.Ok :=
  ⟨ok.mod,ok.kind,ok.glob,ok.blt,ok.above,ok.inj,ok.has,ok.cab,ok.hd,ok.frames,ok.stk,ok.exf,ok.bs,ok.bsz,ok.noex,ok.exfs,ok.funs,ok.frf⟩
section
variable {X:Cx} {pins:List (Addr × Obj)} {σ:St} {H:Hp} {s:Shared} {E:Value→Shared→Prop}
theorem Inv.wish (I:Inv X pins σ H s) (E:Value→Shared→Prop):Inv (X.wish E) pins σ H s:=⟨I.ok.wish E,I.os,I.bare,I.base,I.loc,I.cell,I.free,I.freeC,I.pin,I.hok,I.len,I.tab⟩
theorem Inv.unwish (I:Inv (X.wish E) pins σ H s):Inv X pins σ H s:=⟨I.ok.unwish,I.os,I.bare,I.base,I.loc,I.cell,I.free,I.freeC,I.pin,I.hok,I.len,I.tab⟩
theorem SP.unwish {D:Ends} {f:Flow} {s':Shared} (h:SP (X.wish E) pins D f s'):SP X pins D f s':=by
  cases f with
  | next=>obtain ⟨σ',H',I,q⟩:=h; exact ⟨σ',H',I.unwish,q⟩
  | brk=>obtain ⟨σ',H',I,q⟩:=h; exact ⟨σ',H',I.unwish,q⟩
  | cont=>obtain ⟨σ',H',I,q⟩:=h; exact ⟨σ',H',I.unwish,q⟩
  | ret u=>obtain ⟨v,σ',H',I,r,q⟩:=h; exact ⟨v,σ',H',I.unwish,r,q⟩
theorem PSs.nox {st:List Stmt} {t:TS} (h:PSs X.nox st t):PSs X st t:=fun pins s σ H D I hw =>
  wpAny_mono (h pins s σ H D (I.wish _) hw) (fun _ _ q=>q.unwish) fun _ _ z=>False.elim z
end
section
variable {X:Cx} {st:Stmt} {rest:List Stmt} {t u:TS} {e:Expr} {te:TE} {pos:Pos}
noncomputable def G9:TS:=fun D σ H=>D.nx σ H
noncomputable def HQ (t u:TS):TS:=fun D σ H=>t { D with nx:=u D } σ H
theorem v3:PSs X [] G9:=fun _ _ σ H _ I h=>wpAny_execs_nil ⟨σ,H,I,h⟩
theorem je (h1:PS X st t) (h2:PSs X rest u):PSs X (st::rest) (HQ t u):=by
  intro pins s σ H D I h
  refine wpAny_execs_cons (thn (h1 pins s σ H { D with nx:=u D } I h) fun f s1 q=>?_)
  cases f with
  | next =>
    obtain ⟨σ',H',I',q⟩:=q
    exact h2 pins s1 σ' H' D I' q
  | ret v=>exact q
  | brk=>exact q
  | cont=>exact q
theorem ml (h1:PS X st t):PSs X [st] t:=by
  intro pins s σ H D I h
  refine wpAny_execs_cons (thn (h1 pins s σ H D I h) fun f s1 q=>?_)
  cases f with
  | next=>exact wpAny_execs_nil q
  | ret v=>exact q
  | brk=>exact q
  | cont=>exact q
theorem Inv.quiet {pins:List (Addr × Obj)} {σ:St} {H:Hp} {s:Shared} (I:Inv X pins σ H s):interactive X.env=false:=by simp [interactive,I.ok.kind]
noncomputable def Hk (te:TE):TS:=fun D σ H=>te σ H fun _ H1=>D.nx σ H1
theorem vQ (he:PE X e te) (hs:swapsWith e none pos.line X.env=pure false:=by rfl):PS X (.Expr e pos) (Hk te):=by
  intro pins s σ H D I h
  exact wpAny_Expr_any (thn (he pins s σ H _ I h) fun v s1 qz2=>(by obtain ⟨x,H1,I1,r1,q1⟩:=qz2; exact ⟨σ,H1,I1,q1⟩)) I.quiet hs
noncomputable def Ia (te:TE):TS:=fun D σ H=>te σ H D.rt
theorem qP (he:PE X e te):PS X (.Return (some e) pos) (Ia te):=by
  intro pins s σ H D I h
  exact wpAny_Return_some (thn (he pins s σ H _ I h) fun v s1 qz2=>(by obtain ⟨x,H1,I1,r1,q1⟩:=qz2; exact ⟨x,σ,H1,I1,r1,q1⟩))
noncomputable def Im (c:TT) (t u:TS):TS:=fun D σ H=>c σ H fun b H1=>if b=true then t D σ H1 else u D σ H1
theorem BY {c:Expr} {a b:List Stmt} {tc:TT} (hc:PT X c tc) (ha:PSs X a t) (hb:PSs X b u):PS X (.If c a b pos) (Im tc t u):=by
  intro pins s σ H D I h
  refine wpAny_If (thn (hc pins s σ H _ I h) fun d s1 rz2=>?_)
  obtain ⟨H1,I1,q1⟩:=rz2
  cases d with
  | true=>exact ha pins s1 σ H1 D I1 q1
  | false=>exact hb pins s1 σ H1 D I1 q1
end
noncomputable abbrev TG:=V→St→Hp→(St→Hp→Prop)→Prop
noncomputable abbrev TGs:=List V→St→Hp→(St→Hp→Prop)→Prop
noncomputable def PG (X:Cx) (target:Expr) (t:TG):Prop :=
  ∀ (pins:List (Addr × Obj)) (s:Shared) (σ:St) (H:Hp) (v:V) (u:Value) (Q:St→Hp→Prop),Inv X pins σ H s→RelV v u→t v σ H Q →
    wpAny (model X.prog X.w) X.A (assign target X.env u) (fun _ s'=>∃ σ' H',Inv X pins σ' H' s'∧Q σ' H') X.xe s
noncomputable def PGs (X:Cx) (ts:List Expr) (t:TGs):Prop :=
  ∀ (pins:List (Addr × Obj)) (s:Shared) (σ:St) (H:Hp) (vs:List V) (us:List Value) (Q:St→Hp→Prop),Inv X pins σ H s→Vals vs us→t vs σ H Q →
    wpAny (model X.prog X.w) X.A (assignInOrder ((assignEach ts X.env).map (·.2)) us) (fun _ s'=>∃ σ' H',Inv X pins σ' H' s'∧Q σ' H') X.xe s
noncomputable abbrev Gv:=V→V→V→Hp→(Hp→Prop)→Prop
noncomputable def Hj (X:Cx) (t:Gv):Prop :=
  ∀ (pins:List (Addr × Obj)) (s:Shared) (σ:St) (H:Hp) (o i v:V) (ov iv u:Value) (Q:Hp→Prop),Inv X pins σ H s→RelV o ov→RelV i iv→RelV v u→t o i v H Q →
    wpAny (model X.prog X.w) X.A (setItem ov iv u) (fun _ s'=>∃ H',Inv X pins σ H' s'∧Q H') X.xe s
noncomputable abbrev TIp:=V→V→Hp→VK→Prop
noncomputable def PIp (X:Cx) (op:Operator) (t:TIp):Prop :=
  ∀ (pins:List (Addr × Obj)) (s:Shared) (σ:St) (H:Hp) (x y:V) (v u:Value) (Q:VK),Inv X pins σ H s→RelV x v→RelV y u→t x y H Q →
    wpAny (model X.prog X.w) X.A (inplaceOp op v u) (EP X pins σ Q) X.xe s
section
variable {X:Cx} {pos:Pos}
noncomputable def pJ (i:Nat):TG:=fun v σ H Q=>Q (σ.set i (some v)) H
theorem bQ {i:Nat} {x:Str} (hN:X.N.Nodup) (hi:X.N[i]?=some x) (hx:Loc X.env.scope x) (hf:X.fn x=true∨X.env.scope.names.lookup x=some .local:=by first | exact .inl rfl | exact .inr rfl | assumption):PG X (.Name x pos) (pJ i):=by
  intro pins s σ H v u Q I r h
  exact wpAny_assign_Name (rY I hN hi hx r (fun s' I'=>⟨_,H,I',h⟩) hf)
noncomputable def Hd:TGs:=fun vs σ H Q=>vs=[]∧Q σ H
noncomputable def ER (t:TG) (u:TGs):TGs:=fun vs σ H Q=>∃ v r,vs=v::r∧t v σ H fun σ' H'=>u r σ' H' Q
theorem qg:PGs X [] Hd:=by
  intro pins s σ H vs us Q I r h
  obtain ⟨e,h⟩:=h
  subst e
  cases r
  exact assignInOrder_nil ⟨σ,H,I,h⟩
theorem ip {e:Expr} {es:List Expr} {t:TG} {u:TGs} (h1:PG X e t) (h2:PGs X es u)
    (hs:(assignEach (e::es) X.env).map (·.2)=assign e X.env::(assignEach es X.env).map (·.2):=by rfl):PGs X (e::es) (ER t u):=by
  intro pins s σ H vs us Q I r h
  obtain ⟨v,vr,e1,h⟩:=h
  subst e1
  cases r with
  | cons r rr =>
    rw [hs]
    refine assignInOrder_cons (thn (h1 pins s σ H _ _ _ I r h) fun _ s1 rz2=>?_)
    obtain ⟨σ1,H1,I1,q1⟩:=rz2
    exact h2 pins s1 σ1 H1 _ _ Q I1 rr q1
noncomputable def Hg (K:PySem.W.Frag) (n:Nat) (t:TGs):TG:=fun v σ H Q=>∃ a xs,v=.ref a∧SqT K H a xs∧xs.length=n∧t xs σ H Q
theorem vj {es:List Expr} {k:Nat} {t:TGs} {n:Nat} (hc:X.calm=true) (h:PGs X es t)
    (hn:(assignEach es X.env).length=n:=by rfl) (hst:(assignEach es X.env).findIdx? (·.1)=none:=by rfl):PG X (.Tuple es k pos) (Hg X.K n t):=by
  intro pins s σ H v u Q I r hw
  obtain ⟨a,xs,e1,hq,hl,hw⟩:=hw
  subst e1
  cases r
  obtain ⟨its,rv,ht,hz⟩:=I.tuple hq
  refine assign_Tuple_tuple (I.ok.hd hc) ht (by simp [hn,← hl,rv.length]) hst fun h' hx=>?_
  have I1:Inv X pins σ H { s with heap:=h' }:=I.kept (t':=s.toks) fun b o e=>hx b o (Nat.ne_of_lt (Heap.lt_size e)) e
  exact h pins _ σ H xs _ Q I1 (by simpa using rv) hw
noncomputable def Ie (to ti:TE) (t:Gv):TG:=fun v σ H Q=>to σ H fun o H1=>ti σ H1 fun i H2=>t o i v H2 fun H3=>Q σ H3
theorem E9 {o i:Expr} {to ti:TE} {t:Gv} (ho:PE X o to) (hi:PE X i ti) (hs:Hj X t)
    (ha:∀ v,assign (.Subscript o i pos) X.env v=(do
      let ov ← holding [v] (eval o X.env)
      let iv ← holding [v,ov] (eval i X.env)
      standAt pos
      holding [v,ov,iv] (setItem ov iv v)
      release [v,ov,iv] []):=by intro _; rfl):PG X (.Subscript o i pos) (Ie to ti t):=by
  intro pins s σ H v u Q I r h
  rw [ha]
  refine wpAny_bind (wpAny_holding (thn (ho pins s σ H _ I h) fun ov s1 rz2=>?_))
  obtain ⟨x,H1,I1,r1,q1⟩:=rz2
  refine wpAny_bind (wpAny_holding (thn (hi pins s1 σ H1 _ I1 q1) fun iv s2 rz2=>?_))
  obtain ⟨y,H2,I2,r2,q2⟩:=rz2
  refine wpAny_bind (wpAny_standAt (wpAny_bind (wpAny_holding (thn (hs pins s2 σ H2 x y v ov iv u _ I2 r1 r2 r q2) fun _ s3 rz2=>?_))))
  obtain ⟨H3,I3,q3⟩:=rz2
  exact wpAny_release ⟨σ,H3,I3,q3⟩
noncomputable def DR (te:TE) (g:TG):TS:=fun D σ H=>te σ H fun x H1=>g x σ H1 D.nx
theorem FZ {tg e:Expr} {te:TE} {g:TG} (he:PE X e te) (hg:PG X tg g) (hs:swapsWithSole [tg] e pos.line X.env=pure false:=by rfl) (hw:swappedStores [tg] e X.env=pure none:=by rfl)
    (h1:(assignEach [tg] X.env).map (·.2)=[assign tg X.env]:=by rfl):PS X (.Assign [tg] e pos) (DR te g):=by
  intro pins s σ H D I h
  refine wpAny_Assign_stores (thn (he pins s σ H _ I h) fun v s1 rz2=>?_) hs hw
  obtain ⟨x,H1,I1,r1,q1⟩:=rz2
  rw [h1]
  exact thn (hg pins s1 σ H1 x v _ I1 r1 q1) fun _ s2 q=>q
theorem zk {i:Nat} {x:Str} {e:Expr} {te:TE} {pos':Pos} (hN:X.N.Nodup) (hi:X.N[i]?=some x) (hx:Loc X.env.scope x) (he:PE X e te) (hs:swapsWith e (some (.Name x pos')) pos.line X.env=pure false:=by rfl) (hf:X.fn x=true∨X.env.scope.names.lookup x=some .local:=by first | exact .inl rfl | exact .inr rfl | assumption) :
    PS X (.Assign [.Name x pos'] e pos) (DR te (pJ i)):=by
  intro pins s σ H D I h
  refine wpAny_Assign_Name (thn (he pins s σ H _ I h) fun v s1 rz2=>?_) hs
  obtain ⟨y,H1,I1,r1,q1⟩:=rz2
  exact rY I1 hN hi hx r1 (fun s2 I2=>⟨_,H1,I2,q1⟩) hf
noncomputable def Ii (i:Nat) (te:TE) (ti:TIp):TS:=fun D σ H=>∃ x,σ[i]?=some (some x)∧te σ H fun y H1=>ti x y H1 fun z H2=>D.nx (σ.set i (some z)) H2
theorem Fn {i:Nat} {x:Str} {e:Expr} {te:TE} {op:Operator} {ti:TIp} {pos':Pos} (hN:X.N.Nodup) (hi:X.N[i]?=some x) (hx:Loc X.env.scope x) (he:PE X e te) (ho:PIp X op ti) (hf:X.fn x=true∨X.env.scope.names.lookup x=some .local:=by first | exact .inl rfl | exact .inr rfl | assumption) :
    PS X (.AugAssign (.Name x pos') op e pos) (Ii i te ti):=by
  intro pins s σ H D I h
  obtain ⟨v,e1,h⟩:=h
  obtain ⟨m,hn,hl⟩:=I.loc
  have vis:Vis X.env.scope x:=by rcases hx with k | k; exact .inl k; exact .inr (.inl k)
  obtain ⟨u,r,l⟩:=hl i x v hi e1 vis
  refine wpAny_AugAssign_Name ?_
  have go:wpAny (model X.prog X.w) X.A (eval e X.env) (fun w s₂=>wpAny (model X.prog X.w) X.A (inplaceOp op u w) (fun r s₃=>wpAny (model X.prog X.w) X.A (storeName X.env x r) (fun _=>SP X pins D .next) X.xe s₃) X.xe s₂) X.xe s:=by
    refine thn (he pins s σ H _ I h) fun w s1 rz2=>?_
    obtain ⟨y,H1,I1,r1,q1⟩:=rz2
    refine thn (ho pins s1 σ H1 v y u w _ I1 r r1 q1) fun z s2 rz2=>?_
    obtain ⟨zv,H2,I2,r2,q2⟩:=rz2
    exact rY I2 hN hi hx r2 (fun s3 I3=>⟨_,H2,I3,q2⟩) hf
  rcases l with ⟨hk,hm⟩ | ⟨hk,c,hc,hcell⟩
  · exact wpAny_loadName_local I.ok.kind hk hn hm go
  · rcases hk with hk | hk
    · exact wpAny_loadName_cell I.ok.kind hk hc hcell go
    · rcases hx with k | k
      · have:X.env.scope.names.lookup x=some .free:=hk
        rw [k] at this; cases this
      · have:X.env.scope.names.lookup x=some .free:=hk
        rw [k] at this; cases this
noncomputable def ipI (f:Int→Int→Int):TIp:=fun x y H Q=>∃ i j,x=.int i∧y=.int j∧Q (.int (f i j)) H
theorem Fz:PIp X .Add (ipI fun i j=>i + j):=by
  intro pins s σ H x y v u Q I r1 r2 h
  obtain ⟨i,j,e1,e2,q⟩:=h
  subst e1; subst e2
  obtain ⟨t,rfl⟩:=r1
  obtain ⟨t',rfl⟩:=r2
  exact iadd_int ⟨.int _,H,I.tok _,⟨_,rfl⟩,q⟩
end
section
variable {X:Cx} {pos:Pos}
noncomputable def Fm (c:TT) (tb:TS):TS:=fun D σ H=>∃ W:Nat→St→Hp→Prop,(∃ m,W m σ H)∧∀ m σ H,W m σ H →
  c σ H fun b H1=>if b=true then ∃ N:St→Hp→Prop,(∀ σ' H',N σ' H'→∃ m',m' < m∧W m' σ' H')∧tb { D with nx:=N,ct:=N,bk:=D.nx } σ H1 else D.nx σ H1
theorem BG {c:Expr} {body:List Stmt} {tc:TT} {tb:TS} (hp:PassesOwn (model X.prog X.w) X.A X.env X.xe) (hc:PT X c tc) (hb:PSs X body tb):PS X (.While c body [] pos) (Fm tc tb):=by
  intro pins s σ H D I h
  obtain ⟨W,⟨m0,w0⟩,turn⟩:=h
  refine wpAny_While (codeAny_whileLoop (fun n s'=>∃ σ' H',Inv X pins σ' H' s'∧W n σ' H') ?_ m0 ⟨σ,H,I,w0⟩)
  rintro n s1 ⟨σ1,H1,I1,w1⟩
  refine wpAny_passesOwn hp (thn (hc pins s1 σ1 H1 _ I1 (turn n σ1 H1 w1)) fun b s2 rz2=>?_)
  obtain ⟨H2,I2,q2⟩:=rz2
  cases b with
  | true =>
    obtain ⟨N,hN,q2⟩:=q2
    rw [if_pos rfl]
    refine wpAny_passesOwn hp (thn (hb pins s2 σ1 H2 _ I2 q2) fun f s3 q3=>?_)
    cases f with
    | next =>
      obtain ⟨σ3,H3,I3,n3⟩:=q3
      obtain ⟨m',hm,w3⟩:=hN σ3 H3 n3
      exact ⟨m',hm,σ3,H3,I3,w3⟩
    | cont =>
      obtain ⟨σ3,H3,I3,n3⟩:=q3
      obtain ⟨m',hm,w3⟩:=hN σ3 H3 n3
      exact ⟨m',hm,σ3,H3,I3,w3⟩
    | brk=>exact q3
    | ret v=>exact q3
  | false =>
    rw [if_neg Bool.false_ne_true]
    exact wpAny_execs_nil ⟨σ1,H2,I2,q2⟩
end
structure It where
  go:Nat→Hp→Prop
  yld:Nat→Hp→V→Hp→Prop
  stop:Nat→Hp→Prop
noncomputable def si (X:Cx) (pins:List (Addr × Obj)) (H:Hp) (b:Addr):Prop :=
  H b=none∧b≠X.env.locals∧b ∉ X.fs∧(b∈X.ex∨X.s₀.heap.objs.size≤b)∧(∀ x c,X.env.cells.lookup x=some c→c≠b)∧∀ p∈X.pn++pins,p.1≠b
theorem Inv.fpOk {X:Cx} {pins:List (Addr × Obj)} {σ:St} {H H':Hp} {s:Shared} {b:Addr} (I:Inv X pins σ H s) (hb:s.heap.objs.size≤b) (hn:H' b=none):si X pins H' b:=by
  refine ⟨hn,Nat.ne_of_gt (Nat.lt_of_lt_of_le I.lt hb),I.nofs hb,.inr (Nat.le_trans I.sz hb),fun x c e z=>?_,fun p hp z=>?_⟩
  · obtain ⟨v,q⟩:=I.cell x c e
    exact absurd (Nat.lt_of_lt_of_le q.lt (by rw [z]; exact hb)) (Nat.lt_irrefl _)
  · exact absurd (Nat.lt_of_lt_of_le (Heap.lt_size (I.pin p hp).1) (by rw [z]; exact hb)) (Nat.lt_irrefl _)
structure Turn (P:Program) (w:World) (K:PySem.W.Frag) (tg:Expr) (J:It) (fp:List Addr) (it:Addr) (tn:Nat→Heap→Prop):Prop where
  mem:it∈fp
  obj:∀ i h,tn i h→∀ b∈fp,∃ o,h.get? b=some o∧∀ v,o.data≠.cell v
  keep:∀ i h h',tn i h→(∀ b∈fp,∀ o,h.get? b=some o→h'.get? b=some o)→tn i h'
  item:∀ (X:Cx),X.prog=P→X.w=w→X.K=K→X.calm=true→∀ (i:Nat) (pins:List (Addr × Obj)) (s:Shared) (σ:St) (H:Hp) (E:Value→Shared→Prop),Inv X pins σ H s→(∀ b∈fp,si X pins H b)→tn i s.heap→J.go i H →
    wpAny (model P w) X.A (pyNext (.ref it)) (fun r s1=>∃ u,r=some u ∧
      wpAny (model P w) X.A (letOwnedTupleGo tg (.ref it) u) (fun _ s2=>∃ x H',Inv X pins σ H' s2∧RelV x u∧J.yld i H x H'∧tn (i + 1) s2.heap∧∀ b∈fp,H' b=none) E s1) E s
  done:∀ (X:Cx),X.prog=P→X.w=w→X.K=K→X.calm=true→∀ (i:Nat) (pins:List (Addr × Obj)) (s:Shared) (σ:St) (H:Hp) (E:Value→Shared→Prop),Inv X pins σ H s→(∀ b∈fp,si X pins H b)→tn i s.heap→J.stop i H →
    wpAny (model P w) X.A (pyNext (.ref it)) (fun r s1=>r=none∧Inv X pins σ H s1) E s
  self:∀ (A:Around) (i:Nat) (s:Shared) (Q:Value→Shared→Prop) (E:Value→Shared→Prop),tn i s.heap→Q (.ref it) s→wpAny (model P w) A (pyIter (.ref it)) Q E s
noncomputable abbrev TI:=St→Hp→(It→Hp→Prop)→Prop
noncomputable def PIE (X:Cx) (pins:List (Addr × Obj)) (σ:St) (tg:Expr) (R:It→Hp→Prop) (itv:Value) (s2:Shared):Prop :=
  ∃ (it:Addr) (fp:List Addr) (tn:Nat→Heap→Prop) (J:It) (H':Hp),itv=.ref it∧Inv X pins σ H' s2∧Turn X.prog X.w X.K tg J fp it tn∧tn 0 s2.heap∧(∀ b∈fp,si X pins H' b)∧R J H'
noncomputable def PI (X:Cx) (tg iter:Expr) (wi:TI):Prop :=
  ∀ (pins:List (Addr × Obj)) (s:Shared) (σ:St) (H:Hp) (R:It→Hp→Prop),Inv X pins σ H s→wi σ H R →
    wpAny (model X.prog X.w) X.A (eval iter X.env) (fun v s1=>wpAny (model X.prog X.w) X.A (pyIter v) (PIE X pins σ tg R) X.xe s1) X.xe s
theorem CD {M:Model} {A:Around} {E:Value→Shared→Prop} {s:Shared} {tg:Expr} {it:Addr} {u:Value} {o:Obj} {n:String} {vs:Array Value} {Q:Unit→Shared→Prop} (ho:s.heap.get? it=some o) (hc:o.cls=.type n) (hd:o.data=.fields vs)
    (hn:["enumerate", "zip", "dict_itemiterator", "dict_reverseitemiterator", "odict_iterator", "itertools.zip_longest", "itertools.pairwise"].contains n=false) (hQ:Q () s):wpAny M A (letOwnedTupleGo tg (.ref it) u) Q E s:=by
  unfold letOwnedTupleGo
  cases tg <;> first
    | exact wpAny_pure hQ
    | (cases u <;> first
        | exact wpAny_pure hQ
        | (refine wpAny_bind (wpAny_load ho ?_)
           rw [hc,hd]
           show wpAny M A (if (["enumerate", "zip", "dict_itemiterator", "dict_reverseitemiterator", "odict_iterator", "itertools.zip_longest", "itertools.pairwise"].contains n && vs[0]? == some (rawInt _))=true then _ else _) Q E s
           rw [if_neg (by intro h; rw [hn,Bool.false_and] at h; cases h)]
           exact wpAny_pure hQ))
noncomputable def Itl (K:PySem.W.Frag) (a:Addr):It :=
  ⟨fun i H=>∃ xs x,SqL K H a xs∧xs[i]?=some x,fun i H x H'=>H'=H∧∀ xs,SqL K H a xs→xs[i]?=some x,fun i H=>∃ xs,SqL K H a xs∧xs.length≤i⟩
noncomputable def Itt (K:PySem.W.Frag) (a:Addr):It :=
  ⟨fun i H=>∃ xs x,SqT K H a xs∧xs[i]?=some x,fun i H x H'=>H'=H∧∀ xs,SqT K H a xs→xs[i]?=some x,fun i H=>∃ xs,SqT K H a xs∧xs.length≤i⟩
noncomputable def Itr (lo:Int) (n:Nat):It:=⟨fun i _=>i < n,fun i H x H'=>H'=H∧x=.int (lo + i),fun i _=>n≤i⟩
theorem Ap {P:Program} {w:World} {K:PySem.W.Frag} {tg:Expr} (a it:Addr):Turn P w K tg (Itl K a) [it] it (fun i h=>h.IsListIter it a i) where
  mem:=by simp
  obj:=fun i h st b hb=>by
    have e:b=it:=by simpa using hb
    subst e
    obtain ⟨o,e,c,d⟩:=st
    exact ⟨o,e,fun v z=>by rw [d] at z; cases z⟩
  keep:=fun i h h' st k=>st.at fun o e=>k it (by simp) o e
  item:=by
    intro X hP hw hK hc i pins s σ H E I hf st hg
    subst hP hw hK
    obtain ⟨xs,x,hq,hx⟩:=hg
    obtain ⟨its,rv,p,hz⟩:=I.list hq
    obtain ⟨u,hu,ru⟩:=rv.get hx
    obtain ⟨f0,f1,f2,f3,f4,f5⟩:=hf it (by simp)
    refine wpAny_pyNext_list_item st p.isList (x:=u) (by simpa using hu) fun h' st' sb=>?_
    have I1:Inv X pins σ H { s with heap:=h' }:=I.turned (t':=s.toks) (fun b o hb e=>(sb.2 b hb).trans e) f0 f1 f3 f4 f5
    obtain ⟨o,e,c,d⟩:=id st'
    exact ⟨u,rfl,CD (s:={ s with heap:=h' }) e c d (by decide) ⟨x,H,I1,ru,⟨rfl,fun ys hy=>by rw [I.list_inj hy hq]; exact hx⟩,st',fun b hb=>(hf b hb).1⟩⟩
  done:=by
    intro X hP hw hK hc i pins s σ H E I hf st hg
    subst hP hw hK
    obtain ⟨xs,hq,hx⟩:=hg
    obtain ⟨its,rv,p,hz⟩:=I.list hq
    obtain ⟨f0,f1,f2,f3,f4,f5⟩:=hf it (by simp)
    have hl:=rv.length
    exact wpAny_pyNext_list_end (I.ok.hd hc) st p.isList (by simp; omega) fun h' eb=>⟨rfl,I.turned (t':=s.toks) (fun b o hb e=>eb b o hb e) f0 f1 f3 f4 f5⟩
  self:=fun _ _ _ _ _ st h=>wpAny_pyIter_listiter st h
theorem zf {P:Program} {w:World} {K:PySem.W.Frag} {tg:Expr} (a it:Addr):Turn P w K tg (Itt K a) [it] it (fun i h=>h.IsTupleIter it a i) where
  mem:=by simp
  obj:=fun i h st b hb=>by
    have e:b=it:=by simpa using hb
    subst e
    obtain ⟨o,e,c,d⟩:=st
    exact ⟨o,e,fun v z=>by rw [d] at z; cases z⟩
  keep:=fun i h h' st k=>st.at fun o e=>k it (by simp) o e
  item:=by
    intro X hP hw hK hc i pins s σ H E I hf st hg
    subst hP hw hK
    obtain ⟨xs,x,hq,hx⟩:=hg
    obtain ⟨its,rv,p,hz⟩:=I.tuple hq
    obtain ⟨u,hu,ru⟩:=rv.get hx
    obtain ⟨f0,f1,f2,f3,f4,f5⟩:=hf it (by simp)
    refine wpAny_pyNext_tuple_item st (show s.heap.IsTuple a its.toArray from p) (x:=u) (by simpa using hu) fun h' st' sb=>?_
    have I1:Inv X pins σ H { s with heap:=h' }:=I.turned (t':=s.toks) (fun b o hb e=>(sb.2 b hb).trans e) f0 f1 f3 f4 f5
    obtain ⟨o,e,c,d⟩:=id st'
    exact ⟨u,rfl,CD (s:={ s with heap:=h' }) e c d (by decide) ⟨x,H,I1,ru,⟨rfl,fun ys hy=>by rw [I.tuple_inj hy hq]; exact hx⟩,st',fun b hb=>(hf b hb).1⟩⟩
  done:=by
    intro X hP hw hK hc i pins s σ H E I hf st hg
    subst hP hw hK
    obtain ⟨xs,hq,hx⟩:=hg
    obtain ⟨its,rv,p,hz⟩:=I.tuple hq
    obtain ⟨f0,f1,f2,f3,f4,f5⟩:=hf it (by simp)
    have hl:=rv.length
    exact wpAny_pyNext_tuple_end (I.ok.hd hc) st (show s.heap.IsTuple a its.toArray from p) (by simp; omega) fun h' eb=>⟨rfl,I.turned (t':=s.toks) (fun b o hb e=>eb b o hb e) f0 f1 f3 f4 f5⟩
  self:=fun _ _ _ _ _ st h=>wpAny_pyIter_tupleiter st h
theorem yu {P:Program} {w:World} {K:PySem.W.Frag} {tg:Expr} (it:Addr) (lo:Int) (n:Nat):Turn P w K tg (Itr lo n) [it] it (fun i h=>IsRangeIter h it (lo + (i:Nat) * 1) ((n:Int) - (i:Nat)) 1) where
  mem:=by simp
  obj:=fun i h st b hb=>by
    have e:b=it:=by simpa using hb
    subst e
    exact ⟨_,st,fun v z=>by
      have z':Data.fields _=Data.cell v:=z
      cases z'⟩
  keep:=fun i h h' st k=>k it (by simp) _ st
  item:=by
    intro X hP hw hK hc i pins s σ H E I hf st hg
    subst hP hw hK
    obtain ⟨f0,f1,f2,f3,f4,f5⟩:=hf it (by simp)
    have W:=Walks.range (prog:=X.prog) (w:=X.w) (I.ok.hd hc) it lo 1 n
    refine W.item i s _ _ hg st fun v h' tk hv st' kk=>?_
    obtain ⟨t,rfl⟩:=hv
    have I1:Inv X pins σ H { s with heap:=h',toks:=tk }:=I.turned (fun b o hb e=>kk b o (by simpa using hb) e) f0 f1 f3 f4 f5
    refine ⟨_,rfl,CD (s:={ s with heap:=h',toks:=tk }) (n:="range_iterator") st' rfl rfl (by decide) ⟨.int (lo + i),H,I1,⟨t,?_⟩,⟨rfl,rfl⟩,st',fun b hb=>(hf b hb).1⟩⟩
    rw [Int.mul_one]
  done:=by
    intro X hP hw hK hc i pins s σ H E I hf st hg
    subst hP hw hK
    obtain ⟨f0,f1,f2,f3,f4,f5⟩:=hf it (by simp)
    exact wpAny_pyNext_range_end (I.ok.hd hc) st (by have:n≤i:=hg; omega) fun h' eb=>⟨rfl,I.turned (t':=s.toks) (fun b o hb e=>eb b o hb e) f0 f1 f3 f4 f5⟩
  self:=fun _ _ _ _ _ st h=>wpAny_pyIter_rangeiter st h
end L2
namespace L2
open PySem PySem.Spec PyProof.Rows
section
variable {X:Cx} {tg:Expr}
noncomputable def Hy (K:PySem.W.Frag) (tl:TE):TI:=fun σ H R=>tl σ H fun x H1=>∃ a,x=.ref a∧(∃ xs,SqL K H1 a xs)∧R (Itl K a) H1
noncomputable def Il (K:PySem.W.Frag) (tl:TE):TI:=fun σ H R=>tl σ H fun x H1=>∃ a,x=.ref a∧(∃ xs,SqT K H1 a xs)∧R (Itt K a) H1
theorem D5 {l:Expr} {tl:TE} (hl:PE X l tl):PI X tg l (Hy X.K tl):=by
  intro pins s σ H R I h
  refine thn (hl pins s σ H _ I h) fun v s1 rz2=>?_
  obtain ⟨x,H1,I1,r1,q1⟩:=rz2
  obtain ⟨a,e,⟨xs,hq⟩,q⟩:=q1
  subst e
  cases r1
  obtain ⟨its,rv,p,hz⟩:=I1.list hq
  refine wpAny_pyIter_list p.isList ?_
  refine ⟨s1.heap.objs.size,[s1.heap.objs.size],_,_,H1,rfl,I1.kept (t':=s1.toks) fun b o e=>Heap.get?_push_of_some _ e,Ap a _,⟨_,Heap.get?_push_size _ rfl,rfl,rfl⟩,fun b hb=>?_,q⟩
  have e:b=s1.heap.objs.size:=by simpa using hb
  subst e
  exact I1.fpOk (Nat.le_refl _) (I1.hok.fresh (Nat.le_refl _))
theorem FU {l:Expr} {tl:TE} (hl:PE X l tl):PI X tg l (Il X.K tl):=by
  intro pins s σ H R I h
  refine thn (hl pins s σ H _ I h) fun v s1 rz2=>?_
  obtain ⟨x,H1,I1,r1,q1⟩:=rz2
  obtain ⟨a,e,⟨xs,hq⟩,q⟩:=q1
  subst e
  cases r1
  obtain ⟨its,rv,p,hz⟩:=I1.tuple hq
  refine wpAny_pyIter_tuple (show s1.heap.IsTuple a its.toArray from p) ?_
  refine ⟨s1.heap.objs.size,[s1.heap.objs.size],_,_,H1,rfl,I1.kept (t':=s1.toks) fun b o e=>Heap.get?_push_of_some _ e,zf a _,⟨_,Heap.get?_push_size _ rfl,rfl,rfl⟩,fun b hb=>?_,q⟩
  have e:b=s1.heap.objs.size:=by simpa using hb
  subst e
  exact I1.fpOk (Nat.le_refl _) (I1.hok.fresh (Nat.le_refl _))
theorem xB {pins:List (Addr × Obj)} {σ:St} {H:Hp} {s:Shared} {R:It→Hp→Prop} {E:Value→Shared→Prop} {lo hi:Int} {t u v:Tok} {tk:Nat} (I:Inv X pins σ H s) (h1:-(2 ^ 62)≤lo) (h2:lo < 2 ^ 62) (h3:-(2 ^ 62)≤hi) (h4:hi < 2 ^ 62)
    (q:R (Itr lo (hi - lo).toNat) H):wpAny (model X.prog X.w) X.A (pyIter (.ref s.heap.objs.size)) (PIE X pins σ tg R) E { s with heap:=s.heap.push { cls:=.type "range",data:=.fields #[.int lo t,.int hi u,.int 1 v] },toks:=tk }:=by
  refine wpAny_pyIter_range (IsRange.new ..) (small_one h1 h2 h3 h4) ?_
  have I1:Inv X pins σ H { s with heap:=s.heap.push { cls:=.type "range",data:=.fields #[.int lo t,.int hi u,.int 1 v] },toks:=tk }:=I.kept fun b o e=>Heap.get?_push_of_some _ e
  refine ⟨(s.heap.push { cls:=.type "range",data:=.fields #[.int lo t,.int hi u,.int 1 v] }).objs.size,[(s.heap.push { cls:=.type "range",data:=.fields #[.int lo t,.int hi u,.int 1 v] }).objs.size],_,_,H,rfl,
    I1.kept (t':=tk) fun b o e=>Heap.get?_push_of_some _ e,yu _ lo (hi - lo).toNat,?_,fun b hb=>?_,q⟩
  · have e1:lo + ((0:Nat):Int) * 1=lo:=by simp
    have e2:(((hi - lo).toNat:Nat):Int) - ((0:Nat):Int)=Builtin.Range.rangeSize lo hi 1:=by rw [rangeSize_one]; split <;> omega
    show IsRangeIter _ _ (lo + ((0:Nat):Int) * 1) ((((hi - lo).toNat:Nat):Int) - ((0:Nat):Int)) 1
    rw [e1,e2]
    exact Heap.get?_push_size _ rfl
  · have e:b=(s.heap.push { cls:=.type "range",data:=.fields #[.int lo t,.int hi u,.int 1 v] }).objs.size:=by simpa using hb
    subst e
    exact I1.fpOk (Nat.le_refl _) (I1.hok.fresh (Nat.le_refl _))
noncomputable def GN (ta:TA):TI:=fun σ H R=>ta σ H fun vs H1=>∃ j:Int,vs=[.int j]∧-(2 ^ 62)≤j∧j < 2 ^ 62∧R (Itr 0 j.toNat) H1
noncomputable def HB (ta:TA):TI:=fun σ H R=>ta σ H fun vs H1=>∃ i j:Int,vs=[.int i,.int j]∧(-(2 ^ 62)≤i∧i < 2 ^ 62∧-(2 ^ 62)≤j∧j < 2 ^ 62)∧R (Itr i (j - i).toNat) H1
theorem Ba {a:Expr} {ta:TA} {p pos:Pos} (hg:Gl X "range") (hm:X.mg "range"=none) (ha:PA X [a] ta) (hs:starEach [a] X.env=[(false,eval a X.env)]:=by rfl):PI X tg (.Call (.Name "range" p) [a] [] pos) (GN ta):=by
  intro pins s σ H R I h
  refine Call_ (ja I hg hm boot_range (PyProof.Rows.callWith_type1 (thn (ha pos pins s σ H _ I h) fun us s1 rz2=>?_) hs rfl))
  obtain ⟨vs,H1,I1,r1,q1⟩:=rz2
  obtain ⟨j,e,q1,q2,q⟩:=q1
  subst e
  cases r1 with
  | cons r rr =>
    cases rr
    obtain ⟨t,rfl⟩:=r
    exact call_range_1 (xB I1 (by omega) (by omega) q1 q2 (by simpa using q))
theorem AJ {a b:Expr} {ta:TA} {p pos:Pos} (hg:Gl X "range") (hm:X.mg "range"=none) (ha:PA X [a,b] ta) (hs:starEach [a,b] X.env=[(false,eval a X.env),(false,eval b X.env)]:=by rfl) (hs2:starEach [b] X.env=[(false,eval b X.env)]:=by rfl) :
    PI X tg (.Call (.Name "range" p) [a,b] [] pos) (HB ta):=by
  intro pins s σ H R I h
  refine Call_ (ja I hg hm boot_range (PyProof.Rows.callWith_type1 (thn (ha pos pins s σ H _ I h) fun us s1 rz2=>?_) (by rw [hs,hs2]) (by rw [hs2]; rfl)))
  obtain ⟨vs,H1,I1,r1,q1⟩:=rz2
  obtain ⟨i,j,e,⟨q1,q2,q3,q4⟩,q⟩:=q1
  subst e
  cases r1 with
  | cons r rr =>
    cases rr with
    | cons r' rr =>
      cases rr
      obtain ⟨t,rfl⟩:=r
      obtain ⟨t',rfl⟩:=r'
      exact call_range_2 (xB I1 q1 q2 q3 q4 q)
noncomputable def HZ (wi:TI) (g:TG) (tb:TS):TS:=fun D σ H=>wi σ H fun J H1=>∃ W:Nat→Nat→St→Hp→Prop,(∃ m,W 0 m σ H1)∧∀ i m σ H,W i m σ H →
  (J.stop i H∧D.nx σ H)∨(J.go i H∧∃ N:St→Hp→Prop,(∀ σ' H',N σ' H'→∃ m',m' < m∧W (i + 1) m' σ' H')∧∀ x H',J.yld i H x H'→g x σ H' fun σ2 H2=>tb { D with nx:=N,ct:=N,bk:=D.nx } σ2 H2)
noncomputable def qO (fp:List Addr) (h:Heap):List (Addr × Obj):=fp.filterMap fun b=>(h.get? b).map fun o=>(b,o)
theorem kW {fp:List Addr} {h:Heap} {b:Addr} {o:Obj} (hb:b∈fp) (e:h.get? b=some o):(b,o)∈qO fp h:=List.mem_filterMap.mpr ⟨b,hb,by rw [e]; rfl⟩
theorem Bk {fp:List Addr} {h:Heap} {p:Addr × Obj} (hp:p∈qO fp h):p.1∈fp∧h.get? p.1=some p.2:=by
  obtain ⟨b,hb,e⟩:=List.mem_filterMap.mp hp
  cases q:h.get? b with
  | none=>rw [q] at e; cases e
  | some o =>
    rw [q] at e
    have e':(b,o)=p:=Option.some.inj e
    subst e'
    exact ⟨hb,q⟩
theorem Inv.pinned {pins:List (Addr × Obj)} {σ:St} {H:Hp} {s:Shared} {fp:List Addr} (I:Inv X pins σ H s) (hf:∀ b∈fp,si X pins H b) (ho:∀ b∈fp,∃ o,s.heap.get? b=some o∧∀ v,o.data≠.cell v):Inv X (pins++qO fp s.heap) σ H s :=
  I.pins_of fun p hp=>(List.mem_append.mp hp).elim (fun z=>I.pin p (List.mem_append_right _ z)) fun z=>by
    obtain ⟨hb,e⟩:=Bk z
    obtain ⟨f0,f1,f2,_⟩:=hf p.1 hb
    obtain ⟨o,e',d⟩:=ho p.1 hb
    rw [e] at e'; cases e'
    exact ⟨e,f0,f1,f2,d⟩
theorem Inv.unpinned {pins pl:List (Addr × Obj)} {σ:St} {H:Hp} {s:Shared} (I:Inv X (pins++pl) σ H s):Inv X pins σ H s:=I.pins_of fun p hp=>I.pin p (List.mem_append_right _ (List.mem_append_left _ hp))
theorem Fc {iter:Expr} {body:List Stmt} {wi:TI} {g:TG} {tb:TS} {pos:Pos} (hp:PassesOwn (model X.prog X.w) X.A X.env X.xe) (hc:X.calm=true) (hi:PI X tg iter wi) (hg:PG X tg g) (hb:PSs X body tb)
    (hs:∀ x,foldedSetIterable iter X.env x=pure x:=by intro _; rfl):PS X (.For tg iter body [] pos) (HZ wi g tb):=by
  intro pins s σ H D I h
  refine wpAny_For (thn (hi pins s σ H _ I h) fun v s1 h1=>thn h1 fun itv s2 h2=>?_) hs
  obtain ⟨it,fp,tn,J,H2,e,I2,T,st2,f2,W,⟨m0,w0⟩,turn⟩:=h2
  subst e
  -- what stays true of the iterator's objects through the loop
  have stat:∀ {H':Hp},(∀ b∈fp,H' b=none)→∀ b∈fp,si X pins H' b:=fun hn b hb=>⟨hn b hb,(f2 b hb).2⟩
  refine codeAny_forLoop_any (fun n s'=>∃ i σ' H',Inv X pins σ' H' s'∧tn i s'.heap∧(∀ b∈fp,H' b=none)∧W i n σ' H') ?_ m0 ⟨0,σ,H2,I2,st2,fun b hb=>(f2 b hb).1,w0⟩
  rintro n s3 ⟨i,σ3,H3,I3,st3,fr3,w3⟩
  rcases turn i n σ3 H3 w3 with ⟨stop,qn⟩ | ⟨go,N,hN,step⟩
  · refine wpAny_passesOwn hp (thn (T.done X rfl rfl rfl hc i pins s3 σ3 H3 X.xe I3 (stat fr3) st3 stop) fun r s4 rz2=>?_)
    obtain ⟨hr,I4⟩:=rz2
    subst hr
    exact wpAny_execs_nil ⟨σ3,H3,I4,qn⟩
  · refine wpAny_passesOwn hp (thn (T.item X rfl rfl rfl hc i pins s3 σ3 H3 X.xe I3 (stat fr3) st3 go) fun r s4 rz2=>?_)
    obtain ⟨u,hr,h4⟩:=rz2
    subst hr
    refine wpAny_passesOwn hp (thn h4 fun _ s5 rz2=>?_)
    obtain ⟨x,H5,I5,r5,y5,st5,fr5⟩:=rz2
    have I5':=I5.pinned (stat fr5) (T.obj _ _ st5)
    refine wpAny_passesOwn hp (thn (hg _ s5 σ3 H5 x u _ I5' r5 (step x H5 y5)) fun _ s6 rz2=>?_)
    obtain ⟨σ6,H6,I6,q6⟩:=rz2
    refine wpAny_passesOwn hp (thn (hb _ s6 σ6 H6 _ I6 q6) fun f s7 q7=>?_)
    have again:∀ {σ7:St} {H7:Hp},Inv X (pins++qO fp s5.heap) σ7 H7 s7→N σ7 H7→∃ m,m < n∧∃ i σ' H',Inv X pins σ' H' s7∧tn i s7.heap∧(∀ b∈fp,H' b=none)∧W i m σ' H':=fun {σ7 H7} I7 n7=>by
      obtain ⟨m',hm,w7⟩:=hN σ7 H7 n7
      refine ⟨m',hm,i + 1,σ7,H7,I7.unpinned,T.keep _ _ _ st5 fun b hb o e=>(I7.pin (b,o) (List.mem_append_right _ (List.mem_append_right _ (kW hb e)))).1,fun b hb=>?_,w7⟩
      obtain ⟨o,e,d⟩:=T.obj _ _ st5 b hb
      exact (I7.pin (b,o) (List.mem_append_right _ (List.mem_append_right _ (kW hb e)))).2.1
    cases f with
    | next=>obtain ⟨σ7,H7,I7,n7⟩:=q7; exact again I7 n7
    | cont=>obtain ⟨σ7,H7,I7,n7⟩:=q7; exact again I7 n7
    | brk=>obtain ⟨σ7,H7,I7,q7⟩:=q7; exact ⟨σ7,H7,I7.unpinned,q7⟩
    | ret v=>obtain ⟨x7,σ7,H7,I7,r7,q7⟩:=q7; exact ⟨x7,σ7,H7,I7.unpinned,r7,q7⟩
end
end L2
namespace L2
open PySem PySem.Spec PyProof.Rows
noncomputable abbrev R2:=V→V→Hp→VK→Prop
noncomputable def OpR (X:Cx) (f:Value→Value→Sem Value) (r:R2):Prop :=
  ∀ (pins:List (Addr × Obj)) (s:Shared) (σ:St) (H:Hp) (x y:V) (v u:Value) (Q:VK),Inv X pins σ H s→RelV x v→RelV y u→r x y H Q →
    wpAny (model X.prog X.w) X.A (f v u) (EP X pins σ Q) X.xe s
noncomputable def UnR (X:Cx) (f:Value→Sem Value) (r:V→Hp→VK→Prop):Prop :=
  ∀ (pins:List (Addr × Obj)) (s:Shared) (σ:St) (H:Hp) (x:V) (v:Value) (Q:VK),Inv X pins σ H s→RelV x v→r x H Q →
    wpAny (model X.prog X.w) X.A (f v) (EP X pins σ Q) X.xe s
noncomputable def jU (X:Cx) (f:Value) (r:List V→Hp→VK→Prop):Prop :=
  ∀ (pins:List (Addr × Obj)) (s:Shared) (σ:St) (H:Hp) (xs:List V) (us:List Value) (Q:VK),Inv X pins σ H s→Vals xs us→r xs H Q →
    wpAny (model X.prog X.w) X.A (call f us) (EP X pins σ Q) X.xe s
noncomputable def tOp (r:R2) (ta tb:TE):TE:=fun σ H Q=>ta σ H fun x H1=>tb σ H1 fun y H2=>r x y H2 Q
noncomputable def tUn (r:V→Hp→VK→Prop) (ta:TE):TE:=fun σ H Q=>ta σ H fun x H1=>r x H1 Q
noncomputable def rI (C:Int→Int→Prop) (g:Int→Int→V):R2:=fun x y H Q=>∃ i j,x=.int i∧y=.int j∧C i j∧Q (g i j) H
noncomputable def rI0 (g:Int→Int→V):R2:=fun x y H Q=>∃ i j,x=.int i∧y=.int j∧Q (g i j) H
noncomputable def rU (g:Int→V):V→Hp→VK→Prop:=fun x H Q=>∃ i,x=.int i∧Q (g i) H
section
variable {X:Cx} {a b c:Expr} {ta tb tc:TE} {pos:Pos}
theorem F0 (ha:PE X a ta) (hb:PE X b tb) {pins:List (Addr × Obj)} {s:Shared} {σ:St} {H:Hp} {R:V→V→Hp→Prop} (I:Inv X pins σ H s)
    (h:ta σ H fun x H1=>tb σ H1 fun y H2=>R x y H2) {Q:Value→Shared→Prop} {f:Value→Value→Sem Value}
    (hf:∀ v u s2 x y H2,Inv X pins σ H2 s2→RelV x v→RelV y u→R x y H2→wpAny (model X.prog X.w) X.A (f v u) Q X.xe s2) :
    wpAny (model X.prog X.w) X.A (eval a X.env) (fun v s₁=>wpAny (model X.prog X.w) X.A (eval b X.env) (fun u s₂=>wpAny (model X.prog X.w) X.A (f v u) Q X.xe s₂) X.xe s₁) X.xe s:=by
  refine thn (ha pins s σ H _ I h) fun v s1 rz2=>?_
  obtain ⟨x,H1,I1,r1,q1⟩:=rz2
  refine thn (hb pins s1 σ H1 _ I1 q1) fun u s2 rz2=>?_
  obtain ⟨y,H2,I2,r2,q2⟩:=rz2
  exact hf v u s2 x y H2 I2 r1 r2 q2
theorem gK {op:Operator} {r:R2} (ho:OpR X (binaryOp op) r) (ha:PE X a ta) (hb:PE X b tb):PE X (.BinOp a op b pos) (tOp r ta tb):=by
  intro pins s σ H Q I h
  exact wpAny_BinOp (F0 ha hb I h fun v u s2 x y H2 I2 rx ry q=>ho pins s2 σ H2 x y v u Q I2 rx ry q)
theorem G4 {op:UnaryOp} {r:V→Hp→VK→Prop} (ho:UnR X (unaryOp op) r) (ha:PE X a ta):PE X (.UnaryOp op a pos) (tUn r ta):=by
  intro pins s σ H Q I h
  exact UnaryOp_ (thn (ha pins s σ H _ I h) fun v s1 qz2=>(by obtain ⟨x,H1,I1,r1,q1⟩:=qz2; exact ho pins s1 σ H1 x v Q I1 r1 q1))
theorem opI {f:Value→Value→Sem Value} {C:Int→Int→Prop} {g:Int→Int→Int}
    (rule:∀ (i j:Int) (t u:Tok) (s:Shared) (Q:Value→Shared→Prop) (E:Value→Shared→Prop),C i j→Q (.int (g i j) s.toks) { s with toks:=s.toks + 1 }→wpAny (model X.prog X.w) X.A (f (.int i t) (.int j u)) Q E s) :
    OpR X f (rI C fun i j=>.int (g i j)):=by
  intro pins s σ H x y v u Q I rx ry h
  obtain ⟨i,j,rfl,rfl,hc,q⟩:=h
  obtain ⟨t,rfl⟩:=rx
  obtain ⟨t',rfl⟩:=ry
  exact rule i j t t' s _ _ hc ⟨.int (g i j),H,I.tok _,⟨_,rfl⟩,q⟩
theorem Hb {f:Value→Value→Sem Value} {g:Int→Int→Int}
    (rule:∀ (i j:Int) (t u:Tok) (s:Shared) (Q:Value→Shared→Prop) (E:Value→Shared→Prop),Q (.int (g i j) s.toks) { s with toks:=s.toks + 1 }→wpAny (model X.prog X.w) X.A (f (.int i t) (.int j u)) Q E s) :
    OpR X f (rI0 fun i j=>.int (g i j)):=by
  intro pins s σ H x y v u Q I rx ry h
  obtain ⟨i,j,rfl,rfl,q⟩:=h
  obtain ⟨t,rfl⟩:=rx
  obtain ⟨t',rfl⟩:=ry
  exact rule i j t t' s _ _ ⟨.int (g i j),H,I.tok _,⟨_,rfl⟩,q⟩
theorem GU {f:Value→Value→Sem Value} {g:Int→Int→Bool}
    (rule:∀ (i j:Int) (t u:Tok) (s:Shared) (Q:Value→Shared→Prop) (E:Value→Shared→Prop),Q (.bool (g i j)) s→wpAny (model X.prog X.w) X.A (f (.int i t) (.int j u)) Q E s) :
    OpR X f (rI0 fun i j=>.bl (g i j)):=by
  intro pins s σ H x y v u Q I rx ry h
  obtain ⟨i,j,rfl,rfl,q⟩:=h
  obtain ⟨t,rfl⟩:=rx
  obtain ⟨t',rfl⟩:=ry
  exact rule i j t t' s _ _ ⟨.bl (g i j),H,I,rfl,q⟩
noncomputable def HA (i j:Int):Prop:=0 < j∧j < 1073741824
noncomputable def D7 (i j:Int):Prop:=(-(2 ^ 64) < i∧i < 2 ^ 64)∨(-(2 ^ 64) < j∧j < 2 ^ 64)
theorem D7.ok {i j:Int} (h:D7 i j):IntMulOk i j:=by
  rcases h with ⟨h1,h2⟩ | ⟨h1,h2⟩
  · exact .of_left (intBits_le_64 h1 h2)
  · exact .of_right (intBits_le_64 h1 h2)
theorem oT:OpR X (binaryOp .Add) (rI0 fun i j=>.int (i + j)):=Hb fun _ _ _ _ _ _ _ q=>add_int q
theorem Fd:OpR X (binaryOp .Sub) (rI0 fun i j=>.int (i - j)):=Hb fun _ _ _ _ _ _ _ q=>sub_int q
theorem pC:OpR X (binaryOp .Mult) (rI D7 fun i j=>.int (i * j)):=opI fun _ _ _ _ _ _ _ hc q=>mul_int q hc.ok
theorem El:OpR X (binaryOp .FloorDiv) (rI HA fun i j=>.int (i / j)):=opI fun i j _ _ _ _ _ hc q=>by
  have h1:(0:Int) < j:=hc.1
  have h2:j < 1073741824:=hc.2
  exact floordiv_int (by omega) (by rw [Int.fdiv_eq_ediv_of_nonneg i (by omega)]; exact q) (.inl (PyProof.noPylong_small (by omega)))
theorem rD:OpR X (binaryOp .Mod) (rI (fun _ j=>0 < j) fun i j=>.int (i % j)):=opI fun i j _ _ _ _ _ hc q=>by
  have h1:(0:Int) < j:=hc
  exact mod_int' (by omega) (by rw [Int.fmod_eq_emod_of_nonneg i (by omega)]; exact q)
theorem unI {f:Value→Sem Value} {g:Int→Int}
    (rule:∀ (i:Int) (t:Tok) (s:Shared) (Q:Value→Shared→Prop) (E:Value→Shared→Prop),Q (.int (g i) s.toks) { s with toks:=s.toks + 1 }→wpAny (model X.prog X.w) X.A (f (.int i t)) Q E s) :
    UnR X f (rU fun i=>.int (g i)):=by
  intro pins s σ H x v Q I rx h
  obtain ⟨i,rfl,q⟩:=h
  obtain ⟨t,rfl⟩:=rx
  exact rule i t s _ _ ⟨.int (g i),H,I.tok _,⟨_,rfl⟩,q⟩
theorem F4:UnR X (unaryOp .USub) (rU fun i=>.int (-i)):=unI fun _ _ _ _ _ q=>neg_int q
end
section
variable {X:Cx} {a b c:Expr} {ta tb tc:TE} {pos:Pos}
theorem HE:OpR X (compareOp .Lt) (rI0 fun i j=>.bl (decide (i < j))):=GU fun _ _ _ _ _ _ _ q=>lt_int q
theorem zt:OpR X (compareOp .LtE) (rI0 fun i j=>.bl (decide (i≤j))):=GU fun _ _ _ _ _ _ _ q=>le_int q
theorem OpR.or {f:Value→Value→Sem Value} {r r':R2} (h:OpR X f r) (h':OpR X f r'):OpR X f (fun x y H Q=>r x y H Q∨r' x y H Q):=by
  intro pins s σ H x y v u Q I rx ry q
  rcases q with q | q
  · exact h pins s σ H x y v u Q I rx ry q
  · exact h' pins s σ H x y v u Q I rx ry q
theorem mV (b:Expr) {op:CmpOp} (h:op≠.In:=by decide) (h2:op≠.NotIn:=by decide):behindInMarks op b=false:=by
  have e1:(op == CmpOp.In)=false:=by cases op <;> first | rfl | exact absurd rfl h
  have e2:(op == CmpOp.NotIn)=false:=by cases op <;> first | rfl | exact absurd rfl h2
  cases b <;> simp [behindInMarks,e1,e2]
theorem uD {op:CmpOp} {r:R2} (ho:OpR X (compareOp op) r) (ha:PE X a ta) (hb:PE X b tb) (hm:behindInMarks op b=false):PE X (.Compare a [op] [b] pos) (tOp r ta tb):=by
  intro pins s σ H Q I h
  exact wpAny_Compare1 (F0 ha hb I h fun v u s2 x y H2 I2 rx ry q=>ho pins s2 σ H2 x y v u Q I2 rx ry q) hm
noncomputable def EX (t:TE):TT:=fun σ H Q=>t σ H fun x H'=>∃ k,x=.bl k∧Q k H'
theorem mB {op:CmpOp} {r:R2} (ho:OpR X (compareOp op) r) (ha:PE X a ta) (hb:PE X b tb) (hm:behindInMarks op b=false):PT X (.Compare a [op] [b] pos) (EX (tOp r ta tb)):=by
  intro pins s σ H Q I h
  refine wpAny_isTrue_Compare1 (thn (ha pins s σ H _ I h) fun v s1 rz2=>?_) hm
  obtain ⟨x,H1,I1,r1,q1⟩:=rz2
  refine thn (hb pins s1 σ H1 _ I1 q1) fun u s2 rz2=>?_
  obtain ⟨y,H2,I2,r2,q2⟩:=rz2
  refine thn (ho pins s2 σ H2 x y v u _ I2 r1 r2 q2) fun c s3 rz2=>?_
  obtain ⟨z,H3,I3,r3,k,e,q3⟩:=rz2
  subst e
  cases r3
  exact wpAny_truthy_bool ⟨H3,I3,q3⟩
noncomputable def FA (r r':R2) (ta tb tc:TE):TE:=fun σ H Q=>ta σ H fun x H1=>tb σ H1 fun y H2=>r x y H2 fun z H3=>∃ k,z=.bl k ∧
  (if k=true then tc σ H3 fun w' H4=>r' y w' H4 Q else Q (.bl false) H3)
theorem CJ {op op':CmpOp} {r r':R2} (ho:OpR X (compareOp op) r) (ho':OpR X (compareOp op') r') (ha:PE X a ta) (hb:PE X b tb) (hc:PE X c tc)
    (hm:lastMarks [op,op'] [b,c]=false:=by with_unfolding_all rfl):PE X (.Compare a [op,op'] [b,c] pos) (FA r r' ta tb tc):=by
  intro pins s σ H Q I h
  refine Compare_chain (thn (ha pins s σ H _ I h) fun v s1 rz2=>?_) hm
  obtain ⟨x,H1,I1,r1,q1⟩:=rz2
  refine chain_link (thn (hb pins s1 σ H1 _ I1 q1) fun u s2 rz2=>?_)
  obtain ⟨y,H2,I2,r2,q2⟩:=rz2
  refine thn (ho pins s2 σ H2 x y v u _ I2 r1 r2 q2) fun d s3 rz2=>?_
  obtain ⟨z,H3,I3,r3,k,e,q3⟩:=rz2
  subst e
  cases r3
  refine wpAny_truthy_bool ?_
  cases k with
  | false=>exact ite_ff ⟨.bl false,H3,I3,rfl,q3⟩
  | true=>exact ite_tt (chain_last (thn (hc pins s3 σ H3 _ I3 q3) fun w' s4 qz2=>(by obtain ⟨z',H4,I4,r4,q4⟩:=qz2; exact ho' pins s4 σ H4 y z' u w' Q I4 r2 r4 q4)))
theorem uz:(sizeLine:Nat) < 2 ^ 63:=by rw [sizeLine_eq]; decide
theorem vals1 {x:V} {us:List Value} (r:Vals [x] us):∃ u,us=[u]∧RelV x u:=by
  cases r with
  | cons r1 r2=>cases r2; exact ⟨_,rfl,r1⟩
theorem vals2 {x y:V} {us:List Value} (r:Vals [x,y] us):∃ u w',us=[u,w']∧RelV x u∧RelV y w':=by
  cases r with
  | cons r1 r2 =>
    cases r2 with
    | cons r3 r4=>cases r4; exact ⟨_,_,rfl,r1,r3⟩
theorem Bb (hc:X.calm=true):jU X (.builtin "min") (fun xs H Q=>∃ i j,xs=[.int i,.int j]∧Q (.int (if j < i then j else i)) H):=by
  intro pins s σ H xs us Q I r h
  obtain ⟨i,j,rfl,q⟩:=h
  obtain ⟨u,w',rfl,⟨t,rfl⟩,⟨t',rfl⟩⟩:=vals2 r
  refine min_two_ints (I.ok.hd hc) fun h' tk k=>⟨_,H,I.kept k,?_,q⟩
  by_cases hj:j < i
  · rw [if_pos hj,if_pos hj]; exact ⟨_,rfl⟩
  · rw [if_neg hj,if_neg hj]; exact ⟨_,rfl⟩
theorem Bh:jU X (.type "int") (fun xs H Q=>(∃ i,xs=[.int i]∧Q (.int i) H)∨∃ k,xs=[.bl k]∧Q (.int (if k then 1 else 0)) H):=by
  intro pins s σ H xs us Q I r h
  rcases h with ⟨i,rfl,q⟩ | ⟨k,rfl,q⟩
  · obtain ⟨u,rfl,t,rfl⟩:=vals1 r
    exact call_int_int ⟨.int i,H,I,⟨_,rfl⟩,q⟩
  · obtain ⟨u,rfl,r1⟩:=vals1 r
    cases r1
    exact call_int_bool ⟨.int (if k then 1 else 0),H,I.tok _,⟨_,rfl⟩,q⟩
end
end L2
namespace L2
open PySem PySem.Spec PyProof.Rows
structure Bo (h:Heap) (x dx C:Addr) (mA:Str→Option Value):Prop where
  obj:h.get? x=some (PySem.W.instObj C dx)
  ns:h.Ns1 dx mA
  ne:dx≠x
theorem Bn {h:Heap} {dx:Addr} {mA:Str→Option Value} (n:h.Ns1 dx mA):∃ od,h.get? dx=some od∧∀ name,PySem.W.lookIn name od=some (mA name):=by
  obtain ⟨o,es,ep,ho,hd,hk,_,hm⟩:=n
  refine ⟨o,ho,fun name=>?_⟩
  have e:=hm name
  unfold nsFind findBy at e
  rw [← Array.find?_toList] at e
  unfold PySem.W.lookIn
  rw [hd]
  dsimp only
  split
  · rename_i y q
    rw [q] at e
    exact congrArg some e
  · rename_i q
    rw [q] at e
    have a:es.toList.any (·.refKey)=false:=by
      rw [List.any_eq_false]
      intro y hy
      obtain ⟨z,t,hkey⟩:=hk y (Array.mem_toList_iff.mp hy)
      simp [DictEntry.refKey,hkey]
    have a':¬ es.toList.any (·.refKey)=true:=by rw [a]; exact Bool.false_ne_true
    rw [if_neg a']
    exact congrArg some e
theorem Bo.look {h:Heap} {x dx C:Addr} {mA:Str→Option Value} (I:Bo h x dx C mA):∃ od,PySem.W.InstAt h x (PySem.W.instObj C dx) C (some od)∧∀ name,PySem.W.lookIn name od=some (mA name) :=
  let ⟨od,ho,hl⟩:=Bn I.ns
  ⟨od,⟨I.obj,rfl,rfl,ho⟩,hl⟩
section
variable {prog:Program} {w:World} {A:Around} {E:Value→Shared→Prop} {s:Shared} {K:PySem.W.Frag} {x dx C f:Addr} {mA:Str→Option Value} {name:Str} {v:Value}
theorem get_map {expr:Bool} {Q:Value→Shared→Prop} (X:K.In s.heap) (I:Bo s.heap x dx C mA) (hg:PySem.W.plainGet K C name=true) (hh:PySem.W.hasDictIn K C=true)
    (ha:PySem.W.findIn K (.ref C) name=some none) (hv:mA name=some v) (hv':PySem.W.handedIn v=true) (h:Q v { s with toks:=s.toks + 1 }) :
    wpAny (model prog w) A (getAttr (.ref x) name expr) Q E s:=by
  obtain ⟨od,J,hl⟩:=I.look
  exact PySem.W.get_value X J (PySem.W.plainGet_of hg).1 (PySem.W.findObj_own hh ha rfl (by rw [hl,hv])) hv' h
theorem Dk {ns:List Str} {Q:Unit→Shared→Prop} (X:K.In s.heap) (I:Bo s.heap x dx C mA)
    (hs:PySem.W.findIn K (.ref C) "__setattr__"=some (some (.builtin "object.__setattr__"))) (hp:PySem.W.plainOver K C=true) (ht:PySem.W.takerIn K C name=some none) (hh:PySem.W.hasDictIn K C=true)
    (hw:PySem.Within mA ns) (hsz:ns.length≤sizeLine)
    (h:∀ h',Bo h' x dx C (fun y=>if y=name then some v else mA y)→Heap.SameBut dx s.heap h'→Q () { s with heap:=h',toks:=s.toks + 2 }) :
    wpAny (model prog w) A (setAttr (.ref x) name v) Q E s:=by
  obtain ⟨od,J,hl⟩:=I.look
  refine PySem.W.set_plain X J hs (PySem.W.osa_open (s:={ s with toks:=s.toks + 1 }) (r:=none) X J hp ht fun b=>?_)
  obtain ⟨cd,hc,hd'⟩:=PySem.W.any_some hh
  have hx:s.heap.get? x=some ⟨.ref C,some dx,.plain,#[]⟩:=I.obj
  refine wpAny_bind (wpAny_pure (wpAny_bind (wpAny_bind (wpAny_loadPart hx (wpAny_bind (PySem.W.Looks.here (s:={ s with toks:=s.toks + 1 }) (PySem.W.looks_clsIn X hc) ?_))))))
  rw [hd']
  refine wpAny_pure (a:=some dx) (wpAny_bind (wpAny_pure (wpAny_bind ?_)))
  refine wpAny_nsSet1 (s:={ s with toks:=s.toks + 1 }) I.ns fun h' hn2 hs2=>?_
  obtain ⟨oD,esD,epD,hoD,hdD,hcD⟩:=hn2.count (PySem.Within.cons name v hw)
  refine wpAny_bind (wpAny_lookBehind hoD (by rw [hdD]; exact pastItsLine_dict (Nat.le_trans hcD (by rw [List.length_cons]; omega))) ?_)
  exact wpAny_pure (h _ ⟨(hs2.2 _ (Ne.symm I.ne)).trans I.obj,hn2,I.ne⟩ hs2)
theorem Cb {R:Result→Shared→Prop} {vs:List Value} {kw:List (Str × Value)} (X:K.In s.heap) (hm:PySem.W.makesIn K C=true)
    (hi:PySem.W.findIn K (.ref C) "__init__"=some (some (.ref f))) (hf:PySem.W.typeIn K (.ref f)=some (.type "function"))
    (h:codeAny (model prog w) (A.under (.builtin "type.__call__" ⟨.ref C::vs,kw⟩)) (.call (.ref f) ⟨.ref (s.heap.objs.size + 1)::vs,kw⟩) (PySem.W.InitBack (s.heap.objs.size + 1) R)
      { s with heap:=(s.heap.push PySem.W.emptyDict).push (PySem.W.instObj C s.heap.objs.size) }) :
    codeAny (model prog w) A (.call (.ref C) ⟨vs,kw⟩) R s:=by
  obtain ⟨hh,g,d,t,os⟩:=s
  exact PySem.W.make_core (PySem.W.makes_of X hm) (PySem.W.looks_findIn X hi) (fun self=>PySem.W.bind_fn X self hf) (.inl rfl) h
end
noncomputable def mE (f:Str) (v:V):List (Str × V)→List (Str × V)
  | []=>[(f,v)]
  | (g,x)::r=>if g=f then (g,v)::r else (g,x)::mE f v r
theorem pL (f g:Str) (v:V):∀ fs:List (Str × V),(mE f v fs).lookup g=if g=f then some v else fs.lookup g
  | []=>by
    show List.lookup g [(f,v)]=_
    by_cases h:g=f
    · have hb:(g == f)=true:=beq_iff_eq.mpr h
      simp only [List.lookup,hb,if_pos h]
    · have hb:(g == f)=false:=beq_eq_false_iff_ne.mpr h
      simp only [List.lookup,hb,if_neg h]
  | (k,x)::r=>by
    have ih:=pL f g v r
    rw [show mE f v ((k,x)::r)=(if k=f then (k,v)::r else (k,x)::mE f v r) from rfl]
    by_cases hk:k=f
    · rw [if_pos hk]
      by_cases h:g=k
      · have hb:(g == k)=true:=beq_iff_eq.mpr h
        simp only [List.lookup,hb,if_pos (h.trans hk)]
      · have hb:(g == k)=false:=beq_eq_false_iff_ne.mpr h
        simp only [List.lookup,hb,if_neg (fun e:g=f=>h (e.trans hk.symm))]
    · rw [if_neg hk]
      by_cases h:g=k
      · have hb:(g == k)=true:=beq_iff_eq.mpr h
        simp only [List.lookup,hb,if_neg (fun e:g=f=>hk (h.symm.trans e))]
      · have hb:(g == k)=false:=beq_eq_false_iff_ne.mpr h
        simp only [List.lookup,hb]
        exact ih
theorem o3 (f:Str) (v:V):∀ fs:List (Str × V),f∈(mE f v fs).map (·.1)∧∀ g,g∈fs.map (·.1)→g∈(mE f v fs).map (·.1)
  | []=>⟨by simp [mE],fun g h=>by simp at h⟩
  | (k,x)::r=>by
    obtain ⟨i1,i2⟩:=o3 f v r
    rw [show mE f v ((k,x)::r)=(if k=f then (k,v)::r else (k,x)::mE f v r) from rfl]
    by_cases hk:k=f
    · rw [if_pos hk]
      subst hk
      exact ⟨by simp,fun g h=>by simpa using h⟩
    · rw [if_neg hk]
      refine ⟨?_,fun g h=>?_⟩
      · rw [List.map_cons]
        exact List.mem_cons_of_mem _ i1
      · rw [List.map_cons] at h ⊢
        rcases List.mem_cons.mp h with e | e
        · exact List.mem_cons.mpr (.inl e)
        · exact List.mem_cons_of_mem _ (i2 g e)
theorem pH (f:Str) (v:V):∀ fs:List (Str × V),(mE f v fs).length≤fs.length + 1
  | []=>by simp [mE]
  | (k,x)::r=>by
    have ih:=pH f v r
    rw [show mE f v ((k,x)::r)=(if k=f then (k,v)::r else (k,x)::mE f v r) from rfl]
    by_cases hk:k=f
    · rw [if_pos hk,List.length_cons,List.length_cons]; omega
    · rw [if_neg hk,List.length_cons,List.length_cons]; omega
theorem yt.some_of {v:V} {o:Option Value} (r:yt (some v) o):∃ u,o=some u∧RelV v u:=by
  cases o with
  | none=>exact (show False from r).elim
  | some u=>exact ⟨u,rfl,r⟩
theorem AO {v:V} {u:Value} (r:RelV v u):PySem.W.handedIn u=true:=by
  cases v with
  | non=>cases (show u=Value.none from r); rfl
  | bl b=>cases (show u=Value.bool b from r); rfl
  | int i=>obtain ⟨t,e⟩:=(show ∃ t,u=Value.int i t from r); cases e; rfl
  | str x=>obtain ⟨t,e⟩:=(show ∃ t,u=Value.str x t from r); cases e; rfl
  | byt b=>obtain ⟨t,e⟩:=(show ∃ t,u=Value.bytes b t from r); cases e; rfl
  | flt b=>obtain ⟨t,e⟩:=(show ∃ t,u=Value.float b t from r); cases e; rfl
  | ref a=>cases (show u=Value.ref a from r); rfl
  | ty n=>cases (show u=Value.type n from r); rfl
section
variable {P:Program} {w:World} {H H':Hp} {h h':Heap} {a C dx:Addr} {fs fs':List (Str × V)}
theorem zo (hok:HOk P w H h) (e:H a=some (.ins C dx fs)):∃ mA,Bo h a dx C mA∧(∀ f,yt (fs.lookup f) (mA f))∧PySem.Within mA (fs.map (·.1))∧fs.length≤1000∧H dx=some (.own a):=by
  obtain ⟨d,z,ne,ob,mA,n,r,q⟩:=(show fP P w H h a (.ins C dx fs) from hok a _ e)
  exact ⟨mA,⟨ob,n,ne⟩,r,q,z,d⟩
end
structure Cls (K:PySem.W.Frag) (C:Addr):Prop where
  pg:PySem.W.plainGet K C Str.empty=true
  hd:PySem.W.hasDictIn K C=true
  po:PySem.W.plainOver K C=true
  sa:PySem.W.findIn K (.ref C) "__setattr__"=some (some (.builtin "object.__setattr__"))
theorem Cls.get {K:PySem.W.Frag} {C:Addr} (c:Cls K C) (f:Str):PySem.W.plainGet K C f=true:=c.pg
noncomputable def iB (K:PySem.W.Frag) (C:Addr) (f:Str):Prop:=PySem.W.findIn K (.ref C) f=some none
theorem iB.taker {K:PySem.W.Frag} {C:Addr} {f:Str} (n:iB K C f):PySem.W.takerIn K C f=some none:=by
  unfold PySem.W.takerIn
  rw [show PySem.W.findIn K (.ref C) f=some none from n]
  rfl
section
variable {X:Cx} {pins:List (Addr × Obj)} {σ:St} {H:Hp} {s:Shared} {a C dx:Addr} {fs:List (Str × V)} {f:Str} {v:V} {A:Around} {E:Value→Shared→Prop}
theorem y9 {b:Bool} {Q:Value→Shared→Prop} (I:Inv X pins σ H s) (e:H a=some (.ins C dx fs)) (c:Cls X.K C) (n:iB X.K C f) (l:fs.lookup f=some v)
    (h:∀ u s',Inv X pins σ H s'→RelV v u→Q u s'):wpAny (model X.prog X.w) A (getAttr (.ref a) f b) Q E s:=by
  obtain ⟨mA,O,r,_,_,_⟩:=zo I.hok e
  obtain ⟨u,hu,ru⟩:=yt.some_of (v:=v) (o:=mA f) (by rw [← l]; exact r f)
  exact get_map I.kIn O (c.get f) c.hd n hu (AO ru) (h u _ (I.tok _) ru)
theorem yD {y:V} {u:Value} {Q:Unit→Shared→Prop} (I:Inv X pins σ H s) (e:H a=some (.ins C dx fs)) (c:Cls X.K C) (n:iB X.K C f) (hl:fs.length < 1000) (ry:RelV y u)
    (h:∀ s',Inv X pins σ (upd H a (.ins C dx (mE f y fs))) s'→Q () s'):wpAny (model X.prog X.w) A (setAttr (.ref a) f u) Q E s:=by
  obtain ⟨mA,O,r,wi,_,ho⟩:=zo I.hok e
  have hz:(fs.map (·.1)).length≤sizeLine:=by rw [List.length_map,sizeLine_eq]; omega
  refine Dk I.kIn O c.sa c.po n.taker c.hd wi hz fun h' O' sb=>h _ ?_
  have hd:∃ o,h'.get? dx=some o:=let ⟨o,_,_,e',_⟩:=O'.ns; ⟨o,e'⟩
  refine I.write (x:=a) (e:=dx) (by rw [e]; exact True.intro) (.inr ho) (fun b q hb z=>(sb.2 b hb).trans z) hd ?_
  refine ⟨by rw [bG O.ne]; exact ho,?_,O.ne,O'.obj,_,O'.ns,fun g=>?_,fun g hg=>?_⟩
  · have:=pH f y fs; omega
  · show yt ((mE f y fs).lookup g) (if g=f then some u else mA g)
    rw [pL]
    by_cases q:g=f
    · rw [if_pos q,if_pos q]; exact ry
    · rw [if_neg q,if_neg q]; exact r g
  · by_cases q:g=f
    · rw [q]; exact (o3 f y fs).1
    · refine (o3 f y fs).2 g (wi g fun z=>hg ?_)
      show (if g=f then some u else mA g)=none
      rw [if_neg q]; exact z
theorem Inv.made (I:Inv X pins σ H s):Inv X pins σ (upd (upd H s.heap.objs.size (.own (s.heap.objs.size + 1))) (s.heap.objs.size + 1) (.ins C s.heap.objs.size []))
    { s with heap:=(s.heap.push PySem.W.emptyDict).push (PySem.W.instObj C s.heap.objs.size) }:=by
  have e1:(s.heap.push PySem.W.emptyDict).get? s.heap.objs.size=some PySem.W.emptyDict:=Heap.get?_push_size s.heap rfl
  have e2:((s.heap.push PySem.W.emptyDict).push (PySem.W.instObj C s.heap.objs.size)).get? (s.heap.objs.size + 1)=some (PySem.W.instObj C s.heap.objs.size):=by
    have:=Heap.get?_push_size (s.heap.push PySem.W.emptyDict) (o:=PySem.W.instObj C s.heap.objs.size) rfl
    rwa [Heap.size_push] at this
  have e3:(s.heap.push PySem.W.emptyDict).Ns s.heap.objs.size (fun _=>none):=⟨PySem.W.emptyDict,#[],_,e1,rfl,(fun e he=>absurd he (by simp)),fun _=>rfl⟩
  have I1:=I.laid (a:=s.heap.objs.size) (o:=.own (s.heap.objs.size + 1)) (h':=s.heap.push PySem.W.emptyDict) (t':=s.toks) (fun b u q=>Heap.get?_push_of_some _ q) (Nat.le_refl _) ⟨_,e1⟩
  refine I1.laid (a:=s.heap.objs.size + 1) (o:=.ins C s.heap.objs.size []) (t':=s.toks) (fun b u q=>Heap.get?_push_of_some _ q) (Nat.le_of_eq (Heap.size_push _ _)) ?_
  have ne:s.heap.objs.size≠s.heap.objs.size + 1:=Nat.ne_of_lt (Nat.lt_succ_self _)
  refine ⟨by rw [bG ne,cA],Nat.zero_le _,ne,e2,fun _=>none,(Heap.Ns1.of_empty e3).at fun o q=>Heap.get?_push_of_some _ q,fun _=>True.intro,fun y hy=>absurd rfl hy⟩
theorem EK {prog:Program} {w:World} {env:Env} {e:Expr} {f:Str} {pos:Pos} {s:Shared} {Q:Value→Shared→Prop} (hb:attributeBase e f env (eval e env)=eval e env)
    (h:wpAny (model prog w) A (eval e env) (fun o s₁=>wpAny (model prog w) A (getAttr o f true) Q E s₁) E s):wpAny (model prog w) A (eval (.Attribute e f pos) env) Q E s :=
  Attribute_any_ h (by rw [arm_eval_Attribute,hb])
end
noncomputable def HV (K:PySem.W.Frag) (ta:TE) (f:Str):TE:=fun σ H Q=>ta σ H fun x H1=>∃ a C dx fs v,x=.ref a∧H1 a=some (.ins C dx fs)∧Cls K C∧iB K C f∧fs.lookup f=some v∧Q v H1
noncomputable def HY (K:PySem.W.Frag) (ta tv:TE) (f:Str):TS:=fun D σ H=>tv σ H fun y H1=>ta σ H1 fun x H2=>∃ a C dx fs,x=.ref a∧H2 a=some (.ins C dx fs)∧Cls K C∧iB K C f∧fs.length < 1000 ∧
  D.nx σ (upd H2 a (.ins C dx (mE f y fs)))
section
variable {X:Cx} {o e value:Expr} {f:Str} {pos pos' tpos:Pos} {ta tv:TE}
theorem Fw (he:PE X e ta) (hb:attributeBase e f X.env (eval e X.env)=eval e X.env):PE X (.Attribute e f pos) (HV X.K ta f):=by
  intro pins s σ H Q I h
  refine EK hb (thn (he pins s σ H _ I h) fun u s1 rz2=>?_)
  obtain ⟨x,H1,I1,rx,a,C,dx,fs,v,ex,ea,c,n,l,q⟩:=rz2
  subst ex
  obtain rfl:u=Value.ref a:=rx
  exact y9 I1 ea c n l fun u' s2 I2 ru=>⟨v,H1,I2,ru,q⟩
theorem uY (ha:PE X o ta) (hv:PE X value tv) (hs:swapsWith value (some (.Attribute o f pos')) pos.line X.env=pure false):PS X (.Assign [.Attribute o f pos'] value pos) (HY X.K ta tv f):=by
  intro pins s σ H D I h
  refine plainObj_wpAny_Assign_Attribute (thn (hv pins s σ H _ I h) fun u s1 rz2=>?_) hs
  obtain ⟨y,H1,I1,ry,q⟩:=rz2
  refine thn (ha pins s1 σ H1 _ I1 q) fun ov s2 rz2=>?_
  obtain ⟨x,H2,I2,rx,a,C,dx,fs,ex,ea,c,n,l,q2⟩:=rz2
  subst ex
  obtain rfl:ov=Value.ref a:=rx
  exact yD I2 ea c n l ry fun s3 I3=>⟨σ,_,I3,q2⟩
end
section
variable {X:Cx} {pins:List (Addr × Obj)} {σ:St} {H:Hp} {s:Shared} {A:Around} {E:Value→Shared→Prop} {Q:Value→Shared→Prop} {c:Value} {b:Bool}
inductive sN (K:PySem.W.Frag) (H:Hp):V→Value→Prop where
  | non:sN K H .non (.type "NoneType")
  | bl (x:Bool):sN K H (.bl x) (.type "bool")
  | int (i:Int):sN K H (.int i) (.type "int")
  | str (x:Str):sN K H (.str x) (.type "str")
  | flt (x:UInt64):sN K H (.flt x) (.type "float")
  | lst {a:Addr} {xs:List V} (e:H a=some (.lst xs)):sN K H (.ref a) (.type "list")
  | frz {a:Addr} {o:Obj} {xs:List V} (e:H a=some (.frz o (.lst xs))):sN K H (.ref a) (.type "list")
  | tup {a:Addr} {xs:List V} (e:H a=some (.tup xs)):sN K H (.ref a) (.type "tuple")
  | dK {a:Addr} {kvs:List (Key × V)} (e:H a=some (.dK kvs)):sN K H (.ref a) (.type "dict")
  | dT {a:Addr} {kvs:List (List Key × V)} (e:H a=some (.dT kvs)):sN K H (.ref a) (.type "dict")
  | ins {a C dx:Addr} {fs:List (Str × V)} (e:H a=some (.ins C dx fs)) (cl:Cls K C) (ha:PySem.W.findIn K (.ref C) "__class__"=some (some (.builtin "object.__class__")))
      (hn:PySem.W.specialIn K (.builtin "object.__class__") "__get__"=some (some (.builtin "getset_descriptor.__get__"))) (htk:PySem.W.takesIn K (.builtin "object.__class__")=some true)
      (hm:PySem.W.mroIn K C (.type "object")=some true):sN K H (.ref a) (.ref C)
end
end L2
namespace L2
open PySem PySem.Spec PyProof.Rows
structure fJ (k:Nat) (A:Around):Prop where
  hd:A.handled=none
  dp:A.depth + 3 * k + 5 < recursionLimit
  un:A.units + 16 * k + 200 < cLine
theorem fJ.mono {j k:Nat} {A:Around} (r:fJ k A) (h:j≤k):fJ j A:=⟨r.hd,by have:=r.dp; omega,by have:=r.un; omega⟩
theorem fJ.deeper {k:Nat} {A:Around} (r:fJ (k + 1) A) (env:Env):fJ k (A.deeper env) :=
  ⟨r.hd,by have:=r.dp; show A.depth + 1 + 3 * k + 5 < _; omega,by have:=r.un; show A.units + 3 + 16 * k + 200 < _; omega⟩
theorem yU {A:Around} {C:Addr} {us:List Value} {kw:List (Str × Value)}:(A.under (.builtin "type.__call__" ⟨.ref C::us,kw⟩)).depth=A.depth + 1:=by
  first | rfl | simp [Around.under,Code.weight,Code.isCreation,Code.isGuard,Code.isCaller,Code.frames,Code.isFrame,guardIds]
theorem za {A:Around} {C:Addr} {us:List Value} {kw:List (Str × Value)}:(A.under (.builtin "type.__call__" ⟨.ref C::us,kw⟩)).units=A.units + 1:=by
  first | rfl | simp [Around.under,Code.cUnits,Code.frames,Code.isFrame]
theorem fJ.make {k:Nat} {A:Around} (r:fJ (k + 1) A) (C:Addr) (us:List Value) (kw:List (Str × Value)):fJ k (A.under (.builtin "type.__call__" ⟨.ref C::us,kw⟩)) :=
  ⟨r.hd,by have:=r.dp; rw [yU]; omega,by have:=r.un; rw [za]; omega⟩
theorem fJ.depth {k:Nat} {A:Around} (r:fJ k A):A.depth < recursionLimit:=by have:=r.dp; omega
theorem fJ.units {k:Nat} {A:Around} (r:fJ k A):A.units + 64 < cLine:=by have:=r.un; omega
noncomputable def Hc:TA:=fun _ H Q=>Q [] H
noncomputable def EM (ta:TE) (tr:TA):TA:=fun σ H Q=>ta σ H fun x H1=>tr σ H1 fun xs H2=>Q (x::xs) H2
section
variable {X:Cx} {e:Expr} {es:List Expr} {te:TE} {t:TA} {pos:Pos}
theorem i7:PA X [] Hc:=fun _ _ _ _ H Q I h=>Calls.spliced_nil ⟨[],H,I,.nil,h⟩
theorem fH (ha:PE X e te) (hr:PA X es t) (hs:starEach (e::es) X.env=(false,eval e X.env)::starEach es X.env:=by rfl):PA X (e::es) (EM te t):=by
  intro pos pins s σ H Q I h
  rw [hs]
  show wpAny _ _ (spliced ((false,eval e X.env)::backTo pos (starEach es X.env))) _ _ s
  refine Calls.spliced_cons (thn (ha pins s σ H _ I h) fun u s1 rz2=>?_)
  obtain ⟨x,H1,I1,r1,q1⟩:=rz2
  exact thn (hr pos pins s1 σ H1 _ I1 q1) fun us s2 qz2=>(by obtain ⟨xs,H2,I2,r2,q2⟩:=qz2; exact ⟨x::xs,H2,I2,.cons r1 r2,q2⟩)
noncomputable def Io (t:TA):TE:=fun σ H Q=>t σ H fun xs H1=>xs.length≤sizeLine∧∀ p,H1 p=none→Q (.ref p) (upd H1 p (.tup xs))
noncomputable def HJ (t:TA):TE:=fun σ H Q=>t σ H fun xs H1=>xs.length≤sizeLine∧∀ p,H1 p=none→Q (.ref p) (upd H1 p (.lst xs))
theorem FD {x1} (h:PA X es t):PE X (.Tuple es x1 pos) (Io t):=by
  intro pins s σ H Q I hq
  refine wpAny_Tuple_spliced (thn (h pos pins s σ H _ I hq) fun us s1 rz2=>?_)
  obtain ⟨xs,H1,I1,r,z,q⟩:=rz2
  refine ⟨by rw [← r.length]; exact z,?_⟩
  have hf:H1 s1.heap.objs.size=none:=I1.hok.fresh (Nat.le_refl _)
  refine ⟨.ref s1.heap.objs.size,upd H1 s1.heap.objs.size (.tup xs),I1.laid (t':=s1.toks) (fun b u e=>Heap.get?_push_of_some _ e) (Nat.le_refl _) ?_,rfl,q _ hf⟩
  exact ⟨z,us,r,⟨_,Heap.get?_push_size _ rfl,rfl,rfl,_,rfl⟩⟩
theorem yw (h:PA X es t):PE X (.List es pos) (HJ t):=by
  intro pins s σ H Q I hq
  refine wpAny_List_spliced (thn (h pos pins s σ H _ I hq) fun us s1 rz2=>?_)
  obtain ⟨xs,H1,I1,r,z,q⟩:=rz2
  refine ⟨by rw [← r.length]; exact z,?_⟩
  have hf:H1 s1.heap.objs.size=none:=I1.hok.fresh (Nat.le_refl _)
  refine ⟨.ref s1.heap.objs.size,upd H1 s1.heap.objs.size (.lst xs),I1.laid (t':=s1.toks) (fun b u e=>Heap.get?_push_of_some _ e) (Nat.le_refl _) ?_,rfl,q _ hf⟩
  exact ⟨z,us,0,r,Heap.get?_push_size _ rfl⟩
end
noncomputable abbrev Sp:=List V→Hp→VK→XK→Prop
noncomputable abbrev CXT:=List Env→Hp→Shared→XK→Value→Shared→Prop
structure ym (P:Program) (w:World) (K:PySem.W.Frag) (mg:Str→Option Value) (base:Heap) (A:Around) (outer:List Env) (s:Shared) (H:Hp):Prop where
  frames:A.frames=some outer
  mod:Mod K mg base
  bs:∀ b o,base.get? b=some o→s.heap.get? b=some o∧H b=none
  bsz:base.objs.size≤s.heap.objs.size
  funs:s.heap.FunFrames base outer
  frf:∀ b∈frs outer,H b=none
  hok:HOk P w H s.heap
  bare:AllBare s.gens
  tab:∀ P q,TabOf K P q→H P=some (.tbl q)
noncomputable def CE (outer:List Env) (P:Program) (w:World) (H:Hp) (s:Shared) (Q:VK) (u:Value) (s':Shared):Prop :=
  ∃ v H',s'.os=s.os∧AllBare s'.gens∧Un (frs outer) [] H H' s.heap s'.heap∧HOk P w H' s'.heap∧RelV v u∧Q v H'
noncomputable def CR (CX:CXT) (outer:List Env) (P:Program) (w:World) (H:Hp) (s:Shared) (Q:VK) (E:XK) (r:Result) (s':Shared):Prop :=
  match r with
  | .ok (.ret u)=>CE outer P w H s Q u s'
  | .ok _=>False
  | .error e=>CX outer H s E e s'
structure kr (P:Program) (w:World) (K:PySem.W.Frag) (mg:Str→Option Value) (base:Heap) (CX:CXT) (k:Nat) (f:Addr) (fd:FuncData) (ps:List Str) (sp:Sp):Prop where
  len:∀ vs H Q E,sp vs H Q E→vs.length=ps.length
  run:∀ (A:Around) (outer:List Env) (s:Shared) (H:Hp) (args:Args) (us:List Value) (vs:List V) (Q:VK) (E:XK),fJ k A→ym P w K mg base A outer s H→BindsTo s fd args (ps.zip us)→Vals vs us→sp vs H Q E →
    codeAny (model P w) A (.call (.ref f) args) (CR CX outer P w H s Q E) s
theorem ym.make {P:Program} {w:World} {K:PySem.W.Frag} {mg:Str→Option Value} {base:Heap} {A:Around} {outer:List Env} {s:Shared} {H:Hp} (e:ym P w K mg base A outer s H) (C:Addr) (us:List Value) (kw:List (Str × Value)) :
    ym P w K mg base (A.under (.builtin "type.__call__" ⟨.ref C::us,kw⟩)) outer s H:=⟨by first | exact e.frames | (simpa [Around.under,Code.envs,Code.isFrame,pushEnvs] using e.frames),e.mod,e.bs,e.bsz,e.funs,e.frf,e.hok,e.bare,e.tab⟩
section
variable {X:Cx} {pins:List (Addr × Obj)} {σ:St} {H:Hp} {s s':Shared}
theorem Inv.env0 (I:Inv X pins σ H s):ym X.prog X.w X.K X.mg X.base X.A X.stack s H :=
  ⟨I.ok.frames,I.ok.mod,I.bs,Nat.le_trans I.ok.bsz I.sz,I.stack,I.stkFree,I.hok,I.bare,I.tab⟩
theorem Inv.after {Q:VK} {u:Value} (I:Inv X pins σ H s) (h:CE X.stack X.prog X.w H s Q u s'):EP X pins σ Q u s':=by
  obtain ⟨v,H',os,bare,un,hok,r,q⟩:=h
  obtain ⟨hh,g,d,t,os'⟩:=s'
  obtain rfl:os'=s.os:=os
  exact ⟨v,H',I.call (h':=hh) (g':=g) (d':=d) (t':=t) (ch:=[]) un hok bare (fun b z=>absurd z (by simp)),r,q⟩
end
noncomputable def G1 (sp:Sp) (dvs:List V) (E:XK) (t:TA):TE:=fun σ H Q=>t σ H fun vs H1=>sp (vs++dvs) H1 Q E
noncomputable def GW (C:Addr) (sp:Sp) (dvs:List V) (E:XK) (t:TA):TE:=fun σ H Q=>t σ H fun vs H1=>∀ x dx,H1 x=none→H1 dx=none→dx≠x →
  sp (.ref x::(vs++dvs)) (upd (upd H1 dx (.own x)) x (.ins C dx [])) (fun v H2=>v=.non∧Q (.ref x) H2) E
noncomputable def Binds (K:PySem.W.Frag) (fd:FuncData) (ps:List Str) (ds:List Value):Prop :=
  ∀ (s:Shared) (us:List Value),K.In s.heap→(us++ds).length=ps.length→BindsTo s fd ⟨us,[]⟩ (ps.zip (us++ds))
theorem Binds.all {K:PySem.W.Frag} {fd:FuncData} {ps:List Str} (h:∀ us:List Value,us.length=ps.length→bindArgs fd ⟨us,[]⟩=pure (ps.zip us)):Binds K fd ps []:=fun s us _ hl=>by
  rw [List.append_nil] at hl ⊢
  exact .of_eq (h us hl)
noncomputable def Passes (CX:CXT) (X:Cx) (E:XK):Prop:=∀ (pins:List (Addr × Obj)) (σ:St) (H:Hp) (s:Shared) (e:Value) (s':Shared),Inv X pins σ H s→CX X.stack H s E e s'→X.xe e s'
section
variable {X:Cx} {CX:CXT} {k:Nat} {f C:Addr} {fd:FuncData} {ps:List Str} {sp:Sp} {dvs:List V} {ds:List Value} {E:XK} {x m:Str} {p pos apos:Pos} {e o:Expr} {es:List Expr} {ta:TE} {t:TA}
theorem Gp {pins:List (Addr × Obj)} {σ:St} {H:Hp} {s:Shared} {Q:VK} {us:List Value} {vs:List V} (F:kr X.prog X.w X.K X.mg X.base CX k f fd ps sp) (hr:fJ k X.A) (hb:Binds X.K fd ps ds) (hd:Vals dvs ds) (hx:Passes CX X E)
    (I:Inv X pins σ H s) (r:Vals vs us) (h:sp (vs++dvs) H Q E):wpAny (model X.prog X.w) X.A (call (.ref f) us) (EP X pins σ Q) X.xe s:=by
  have r2:Vals (vs++dvs) (us++ds):=r.append hd
  have hl:(us++ds).length=ps.length:=by rw [← r2.length]; exact F.len _ _ _ _ h
  refine wpAny_call (codeAny_mono (F.run X.A X.stack s H ⟨us,[]⟩ (us++ds) (vs++dvs) Q E hr I.env0 (hb s us I.kIn hl) r2 h) fun r s' hq=>?_)
  cases r with
  | error e=>exact hx pins σ H s e s' I hq
  | ok fl =>
    cases fl with
    | ret u=>exact I.after hq
    | next=>exact False.elim hq
    | brk=>exact False.elim hq
    | cont=>exact False.elim hq
theorem zB (F:kr X.prog X.w X.K X.mg X.base CX k f fd ps sp) (hr:fJ k X.A) (hg:Gl X x) (hm:X.mg x=some (.ref f)) (hk:PySem.W.keepIn X.K (.ref f)=true) (hb:Binds X.K fd ps ds) (hd:Vals dvs ds) (hx:Passes CX X E)
    (ha:PA X (e::es) t) (hdb:(x == ("__debug__":Str))=false:=by decide) (he:starEach (e::es) X.env=(false,eval e X.env)::starEach es X.env:=by rfl) (hpl:(backTo pos (starEach es X.env)).any (·.1)=false:=by rfl) :
    PE X (.Call (.Name x p) (e::es) [] pos) (G1 sp dvs E t):=by
  intro pins s σ H Q I h
  refine wpAny_Call_Name_kw (qv I hg hm ?_ hdb)
  refine PySem.W.callWith_K (h₀:=X.base) I.ok.mod.kin hk (thn (ha pos pins s σ H _ I h) fun us s1 rz2=>?_) he hpl
  obtain ⟨vs,H1,I1,r,q⟩:=rz2
  refine ⟨I1.kIn,?_⟩
  exact Gp F hr hb hd hx I1 r q
structure Mk (K:PySem.W.Frag) (C f:Addr):Prop where
  makes:PySem.W.makesIn K C=true
  init:PySem.W.findIn K (.ref C) "__init__"=some (some (.ref f))
  fn:PySem.W.isFn K (.ref f)=true
  kp:PySem.W.keepIn K (.ref C)=true
theorem Dh {pins:List (Addr × Obj)} {σ:St} {H:Hp} {s:Shared} {Q:VK} {us:List Value} {vs:List V} (M:Mk X.K C f) (F:kr X.prog X.w X.K X.mg X.base CX k f fd ps sp) (hr:fJ (k + 1) X.A) (hb:Binds X.K fd ps ds) (hd:Vals dvs ds)
    (hx:Passes CX X E) (I:Inv X pins σ H s) (r:Vals vs us)
    (h:∀ x dx,H x=none→H dx=none→dx≠x→sp (.ref x::(vs++dvs)) (upd (upd H dx (.own x)) x (.ins C dx [])) (fun v H2=>v=.non∧Q (.ref x) H2) E) :
    wpAny (model X.prog X.w) X.A (call (.ref C) us) (EP X pins σ Q) X.xe s:=by
  have hq:=h (s.heap.objs.size + 1) s.heap.objs.size (I.hok.fresh (Nat.le_succ _)) (I.hok.fresh (Nat.le_refl _)) (Nat.ne_of_lt (Nat.lt_succ_self _))
  have I2:=Inv.made (C:=C) I
  have r2:Vals (V.ref (s.heap.objs.size + 1)::(vs++dvs)) (Value.ref (s.heap.objs.size + 1)::(us++ds)):=.cons rfl (r.append hd)
  have hl:(Value.ref (s.heap.objs.size + 1)::us++ds).length=ps.length:=by
    have e:=r2.length
    rw [F.len _ _ _ _ hq] at e
    exact e.symm
  refine wpAny_call (Cb (f:=f) I.kIn M.makes M.init (beq_iff_eq.mp M.fn) (codeAny_mono (F.run _ X.stack _ _ ⟨Value.ref (s.heap.objs.size + 1)::us,[]⟩ (Value.ref (s.heap.objs.size + 1)::(us++ds)) _ _ E (hr.make C us [])
    (I2.env0.make C us []) (hb _ (Value.ref (s.heap.objs.size + 1)::us) I2.kIn hl) r2 hq) fun r s' hq'=>?_))
  cases r with
  | error e=>exact hx pins σ _ _ e s' I2 hq'
  | ok fl =>
    cases fl with
    | ret u =>
      obtain ⟨v,H',I3,rv,ev,q3⟩:=I2.after hq'
      subst ev
      exact ⟨rv,⟨V.ref (s.heap.objs.size + 1),H',I3,rfl,q3⟩⟩
    | next=>exact False.elim hq'
    | brk=>exact False.elim hq'
    | cont=>exact False.elim hq'
theorem DI (M:Mk X.K C f) (F:kr X.prog X.w X.K X.mg X.base CX k f fd ps sp) (hr:fJ (k + 1) X.A) (hg:Gl X x) (hm:X.mg x=some (.ref C)) (hb:Binds X.K fd ps ds) (hd:Vals dvs ds) (hx:Passes CX X E)
    (ha:PA X (e::es) t) (hdb:(x == ("__debug__":Str))=false:=by decide) (he:starEach (e::es) X.env=(false,eval e X.env)::starEach es X.env:=by rfl) (hpl:(backTo pos (starEach es X.env)).any (·.1)=false:=by rfl) :
    PE X (.Call (.Name x p) (e::es) [] pos) (GW C sp dvs E t):=by
  intro pins s σ H Q I h
  refine wpAny_Call_Name_kw (qv I hg hm ?_ hdb)
  refine PySem.W.callWith_K (h₀:=X.base) I.ok.mod.kin M.kp (thn (ha pos pins s σ H _ I h) fun us s1 rz2=>?_) he hpl
  obtain ⟨vs,H1,I1,r,q⟩:=rz2
  refine ⟨I1.kIn,?_⟩
  exact Dh M F hr hb hd hx I1 r q
end
noncomputable def PK (X:Cx) (kws:List Keyword) (t:TA):Prop :=
  ∀ (pos:Pos) (pins:List (Addr × Obj)) (s:Shared) (σ:St) (H:Hp) (Q:List V→Hp→Prop),Inv X pins σ H s→t σ H Q→wpAny (model X.prog X.w) X.A (evalAll ((backToKw pos (keywordEach kws X.env)).map (·.2))) (AP X pins σ Q) X.xe s
section
variable {X:Cx} {CX:CXT} {k:Nat} {f C:Addr} {fd:FuncData} {ps ks:List Str} {sp:Sp} {E:XK} {x m:Str} {p pos apos kpos:Pos} {e o:Expr} {es:List Expr} {kws:List Keyword} {te ta:TE} {t tk:TA} {nm:Option Str}
theorem Fs:PK X [] Hc:=fun _ _ _ _ H Q I h=>wpAny_evalAll_nil ⟨[],H,I,.nil,h⟩
theorem DH (ha:PE X e te) (hr:PK X kws t):PK X (⟨nm,e,kpos⟩::kws) (EM te t):=by
  intro pos pins s σ H Q I h
  show wpAny _ _ (evalAll ((do let v ← eval e X.env; standAt pos; pure v)::(backToKw pos (keywordEach kws X.env)).map (·.2))) _ _ s
  refine wpAny_evalAll_cons (wpAny_bind (thn (ha pins s σ H _ I h) fun u s1 rz2=>?_))
  obtain ⟨x,H1,I1,r1,q1⟩:=rz2
  refine wpAny_bind (wpAny_standAt (wpAny_pure ?_))
  exact thn (hr pos pins s1 σ H1 _ I1 q1) fun us s2 qz2=>(by obtain ⟨xs,H2,I2,r2,q2⟩:=qz2; exact ⟨x::xs,H2,I2,.cons r1 r2,q2⟩)
variable {g:List Value→List Value→List Value} {gV:List V→List V→List V}
end
structure a8 (N P:List Str) (sc:Scope):Prop where
  kind:sc.kind=.function
  co:sc.isCoroutine=false
  gen:sc.isGenerator=false
  nd:N.Nodup
  pre:N.take P.length=P
  par:∀ x∈P,sc.names.lookup x=some .local∨sc.names.lookup x=some .cell
  nofree:∀ y∈sc.names,y.2≠.free
theorem tW {kindOf:Str→Option NameKind} {x:Str}:∀ {binds:List (Str × Value)} {m:Str→Option Value},(∀ v,(x,v) ∉ binds)→bindL kindOf binds m x=m x
  | [],_,_=>rfl
  | (n,v)::r,m,h=>by
    unfold bindL
    rw [tW fun w hw=>h w (List.mem_cons_of_mem _ hw)]
    split
    · have:x≠n:=by rintro rfl; exact h v List.mem_cons_self
      simp [this]
    · rfl
theorem uq {kindOf:Str→Option NameKind} {x:Str}:∀ {binds:List (Str × Value)} {m:Str→Option Value},(∀ v,(x,v) ∉ binds)→bindC kindOf binds m x=m x
  | [],_,_=>rfl
  | (n,v)::r,m,h=>by
    unfold bindC
    rw [uq fun w hw=>h w (List.mem_cons_of_mem _ hw)]
    split
    · rfl
    · have:x≠n:=by rintro rfl; exact h v List.mem_cons_self
      simp [this]
theorem uc {kindOf:Str→Option NameKind} {x:Str} {v:Value}:∀ {P:List Str} {vs:List Value} {i:Nat} {m:Str→Option Value},P.Nodup→P[i]?=some x→vs[i]?=some v→kindOf x=some .local →
    bindL kindOf (P.zip vs) m x=some v
  | [],_,_,_,_,h,_,_=>by simp at h
  | _::_,[],_,_,_,_,h,_=>by simp at h
  | p::P,w::vs,0,m,nd,h1,h2,hk=>by
    simp at h1 h2; subst h1; subst h2
    show bindL kindOf ((p,w)::P.zip vs) m p=_
    unfold bindL
    rw [tW fun v hv=>(List.nodup_cons.mp nd).1 (List.of_mem_zip hv).1,if_pos hk]
    simp
  | p::P,w::vs,i + 1,m,nd,h1,h2,hk=>by
    show bindL kindOf ((p,w)::P.zip vs) m x=_
    unfold bindL
    exact uc (i:=i) (List.nodup_cons.mp nd).2 (by simpa using h1) (by simpa using h2) hk
theorem uw {kindOf:Str→Option NameKind} {x:Str} {v:Value}:∀ {P:List Str} {vs:List Value} {i:Nat} {m:Str→Option Value},P.Nodup→P[i]?=some x→vs[i]?=some v→kindOf x≠some .local →
    bindC kindOf (P.zip vs) m x=some v
  | [],_,_,_,_,h,_,_=>by simp at h
  | _::_,[],_,_,_,_,h,_=>by simp at h
  | p::P,w::vs,0,m,nd,h1,h2,hk=>by
    simp at h1 h2; subst h1; subst h2
    show bindC kindOf ((p,w)::P.zip vs) m p=_
    unfold bindC
    rw [uq fun v hv=>(List.nodup_cons.mp nd).1 (List.of_mem_zip hv).1,if_neg hk]
    simp
  | p::P,w::vs,i + 1,m,nd,h1,h2,hk=>by
    show bindC kindOf ((p,w)::P.zip vs) m x=_
    unfold bindC
    exact uw (i:=i) (List.nodup_cons.mp nd).2 (by simpa using h1) (by simpa using h2) hk
noncomputable def start (N:List Str) (vs:List V):St:=vs.map some++List.replicate (N.length - vs.length) none
noncomputable def jY (CX:CXT) (P:Program) (w:World) (K:PySem.W.Frag) (mg:Str→Option Value) (base:Heap) (N:List Str) (qual:Str) (scope:Scope) (f:Addr) (cd:Value) (A:Around) (outer:List Env) (s:Shared) (H:Hp) (E:XK):Cx where
  prog:=P
  w:=w
  K:=K
  mg:=mg
  base:=base
  A:=A.deeper (envOfC qual scope s.heap.objs.size f cd)
  N:=N
  s₀:=s
  H₀:=H
  env:=envOfC qual scope s.heap.objs.size f cd
  outer:=outer
  stack:=envOfC qual scope s.heap.objs.size f cd::outer
  ex:=[]
  calm:=true
  fn:=fun _=>true
  pn:=[]
  xe:=fun e s'=>wpAny (model P w) (A.deeper (envOfC qual scope s.heap.objs.size f cd)) (leaving (envOfC qual scope s.heap.objs.size f cd) e) (fun _ s''=>CX outer H s E e s'') (fun e' s''=>CX outer H s E e' s'') s'
theorem wJ {sc:Scope} {n:Nat} {x:Str} (h:sc.names.lookup x=some .cell):∃ c,(cellsFrom n sc.names []).lookup x=some c:=by
  have q:=PySem.W.cellsFrom_some sc.names n [] (.inl h)
  exact Option.isSome_iff_exists.mp q
theorem Bc {CX:CXT} {P:Program} {w:World} {K:PySem.W.Frag} {mg:Str→Option Value} {base:Heap} {N ps:List Str} {qual:Str} {scope:Scope} {f:Addr} {cd:Value} {A:Around} {outer:List Env} {s s1:Shared} {H:Hp} {E:XK} {us:List Value} {vs:List V}
    (S:a8 N ps scope) (hd:A.handled=none) (e0:ym P w K mg base A outer s H) (hl:vs.length=ps.length) (r:Vals vs us)
    (x:InCallC s s.heap.objs.size (bindL (envOfC qual scope s.heap.objs.size f cd).kindOf (ps.zip us) fun _=>none) (cellsFrom (s.heap.objs.size + 1) scope.names []) (bindC (envOfC qual scope s.heap.objs.size f cd).kindOf (ps.zip us) fun _=>none) s1) :
    Inv (jY CX P w K mg base N qual scope f cd A outer s H E) [] (start N vs) H s1:=by
  have hpl:ps.length≤N.length:=by have:=congrArg List.length S.pre; rw [List.length_take] at this; omega
  obtain ⟨h1,tk,rfl,hk⟩:=x.done
  have noA:∀ b:Addr,b ∉ (jY CX P w K mg base N qual scope f cd A outer s H E).ex:=fun b z=>absurd (show b∈([]:List Addr) from z) (by simp)
  refine ⟨⟨e0.mod,S.kind,rfl,rfl,Nat.le_refl _,fun y z c h1 h2=>?_,fun y hy=>?_,fun y c _ h=>?_,fun _=>hd,Around.frames_deeper e0.frames,.inr ⟨rfl,rfl⟩,fun b z=>absurd z (noA b),e0.bs,e0.bsz,fun b _ _=>noA b,fun b z=>absurd z (noA b),e0.funs,e0.frf⟩,
    rfl,e0.bare,Un.kept hk,⟨_,x.toInCall.ns,fun i y v h1 h2 h3=>?_⟩,fun y c h=>⟨_,x.cell y c h⟩,e0.hok.fresh (Nat.le_refl _),fun y c h=>?_,fun p hp=>absurd (show p∈([]:List (Addr × Obj)) from hp) (by simp),e0.hok.kept hk,?_,e0.tab⟩
  · exact name_of_addr x.apart (PySem.mem_of_lookup h1) (PySem.mem_of_lookup h2)
  · have hy:scope.names.lookup y=some .cell∨scope.names.lookup y=some .free:=hy
    rcases hy with hy | hy
    · exact wJ hy
    · exact absurd rfl (S.nofree _ (PySem.mem_of_lookup hy))
  · exact Nat.le_of_lt (x.above y c (PySem.mem_of_lookup h))
  · have hi:i < vs.length:=by
      unfold start at h2
      by_cases hi:i < vs.length
      · exact hi
      · rw [List.getElem?_append_right (by simpa using hi)] at h2
        rw [List.getElem?_replicate] at h2
        split at h2 <;> cases h2
    have ha:vs[i]?=some v:=by
      unfold start at h2
      rw [List.getElem?_append_left (by simpa using hi),List.getElem?_map] at h2
      cases e:vs[i]? with
      | none=>rw [e] at h2; cases h2
      | some a=>rw [e] at h2; cases h2; rfl
    obtain ⟨u,hu,rv⟩:=r.get ha
    have hp:ps[i]?=some y:=by
      rw [← S.pre,List.getElem?_take_of_lt (by omega)]; exact h1
    have ndP:ps.Nodup:=by rw [← S.pre]; exact S.nd.sublist (List.take_sublist _ _)
    refine ⟨u,rv,?_⟩
    rcases S.par y (List.mem_of_getElem? hp) with k | k
    · exact .inl ⟨k,uc ndP hp hu k⟩
    · obtain ⟨c,e⟩:=wJ (n:=s.heap.objs.size + 1) k
      refine .inr ⟨.inl k,c,e,?_⟩
      have q:=x.cell y c e
      rw [uw ndP hp hu (by show scope.names.lookup y≠_; rw [k]; decide)] at q
      exact q
  · exact e0.hok.fresh (Nat.le_of_lt (x.above y c (PySem.mem_of_lookup h)))
  · unfold start
    show _=N.length
    rw [List.length_append,List.length_map,List.length_replicate]
    omega
theorem EV {CX:CXT} {P:Program} {w:World} {K:PySem.W.Frag} {mg:Str→Option Value} {base:Heap} {k:Nat} {f:Addr} {name qual:Str} {params:Arguments} {body:List Stmt} {scope:Scope} {dV kV doc pm cdv ct oc:Value} {an od:Option Addr}
    {osl:Array (Option Value)} {N ps:List Str} {sp:Sp} (lk:K.lookup f=some ⟨oc,od,.func (PySem.W.fnOf name qual params body scope dV kV doc pm an cdv ct),osl⟩) (hcd:PySem.W.codeIn K cdv qual=true) (S:a8 N ps scope)
    (len:∀ vs H Q E,sp vs H Q E→vs.length=ps.length)
    (hbody:∀ (A:Around) (outer:List Env) (s:Shared) (H:Hp) (vs:List V) (Q:VK) (E:XK),fJ k (A.deeper (envOfC qual scope s.heap.objs.size f cdv))→sp vs H Q E →
      ∃ t,PSs (jY CX P w K mg base N qual scope f cdv A outer s H E) body t∧t { nx:=fun _ H'=>Q .non H',rt:=Q } (start N vs) H) :
    kr P w K mg base CX (k + 1) f (PySem.W.fnOf name qual params body scope dV kV doc pm an cdv ct) ps sp:=by
  refine ⟨len,fun A outer s H args us vs Q E hr e0 hb r hsp=>?_⟩
  have hl:=len _ _ _ _ hsp
  have KX:K.In s.heap:=e0.mod.kin.keeps fun b o e=>(e0.bs b o e).1
  have lim:s.heap.NoLimit:=e0.mod.nolimit.keeps fun b o e=>(e0.bs b o e).1
  have hkind:∀ y∈ps.zip us,scope.names.lookup y.1=some .local∨(scope.names.lookup y.1=some .cell∧((cellsFrom (s.heap.objs.size + 1) scope.names []).lookup y.1).isSome=true):=fun pz0 hy=>by
    obtain ⟨n,v⟩:=pz0
    rcases S.par n (List.of_mem_zip hy).1 with q | q
    · exact .inl q
    · exact .inr ⟨q,PySem.W.cellsFrom_some _ _ _ (.inl q)⟩
  refine codeAny_call_function hr.depth (KX _ _ lk) rfl S.co S.gen rfl (PySem.W.codeRec_of KX hcd) (hb _ _ _ _ ?_)
  refine wpAny_newFunctionEnv_cells S.kind hkind fun env he s1 x=>?_
  subst he
  refine ⟨lim.keeps x.toInCall.keep,codeAny_func ?_⟩
  obtain ⟨t,ht,hq⟩:=hbody A outer s H vs Q E (hr.deeper _) hsp
  have I:Inv (jY CX P w K mg base N qual scope f cdv A outer s H E) [] (start N vs) H s1:=Bc S hr.hd e0 hl r x
  refine wpAny_mono (ht [] s1 (start N vs) H _ I hq) (fun fl s' hs=>?_) fun e s' hs=>hs
  have fin:∀ {σ':St} {H':Hp} {v:V} {u:Value},Inv (jY CX P w K mg base N qual scope f cdv A outer s H E) [] σ' H' s'→RelV v u→Q v H'→CE outer P w H s Q u s' :=
    fun {σ' H' v u} J rv q=>⟨v,H',J.os,J.bare,J.base,J.hok,rv,q⟩
  cases fl with
  | ret u =>
    obtain ⟨v,σ',H',J,rv,q⟩:=hs
    exact fin J rv q
  | next =>
    obtain ⟨σ',H',J,q⟩:=hs
    exact fin (v:=V.non) (u:=Value.none) J rfl q
  | brk =>
    obtain ⟨_,_,_,q⟩:=hs
    exact False.elim q
  | cont =>
    obtain ⟨_,_,_,q⟩:=hs
    exact False.elim q
end L2
namespace L2
open PySem PySem.Spec PyProof.Rows
section
variable {X:Cx} {x:Str} {p pos:Pos} {e:Expr} {es:List Expr} {t:TA} {id T:String} {r:List V→Hp→VK→Prop}
noncomputable def tCB (r:List V→Hp→VK→Prop) (t:TA):TE:=fun σ H Q=>t σ H fun vs H1=>r vs H1 Q
theorem gA (hc:jU X (.builtin id) r) (hg:Gl X x) (hm:X.mg x=none) (hv:bootBuiltins x=some (.builtin id)) (ha:PA X (e::es) t) (hn:x≠"__name__":=by decide) (hdb:(x == ("__debug__":Str))=false:=by decide)
    (he:starEach (e::es) X.env=(false,eval e X.env)::starEach es X.env:=by rfl) (hpl:(backTo pos (starEach es X.env)).any (·.1)=false:=by rfl):PE X (.Call (.Name x p) (e::es) [] pos) (tCB r t):=by
  intro pins s σ H Q I h
  refine wpAny_Call_Name_kw (ja I hg hm hv ?_ hn hdb)
  exact PyProof.Rows.callWith_builtin1 (thn (ha pos pins s σ H _ I h) fun us s1 qz2=>(by obtain ⟨vs,H1,I1,r1,q1⟩:=qz2; exact hc pins s1 σ H1 vs us Q I1 r1 q1)) he hpl
theorem t6 (hc:jU X (.type T) r) (hg:Gl X x) (hm:X.mg x=none) (hv:bootBuiltins x=some (.type T)) (ha:PA X (e::es) t) (hn:x≠"__name__":=by decide) (hdb:(x == ("__debug__":Str))=false:=by decide)
    (he:starEach (e::es) X.env=(false,eval e X.env)::starEach es X.env:=by rfl) (hpl:(backTo pos (starEach es X.env)).any (·.1)=false:=by rfl):PE X (.Call (.Name x p) (e::es) [] pos) (tCB r t):=by
  intro pins s σ H Q I h
  refine wpAny_Call_Name_kw (ja I hg hm hv ?_ hn hdb)
  exact PyProof.Rows.callWith_type1 (thn (ha pos pins s σ H _ I h) fun us s1 qz2=>(by obtain ⟨vs,H1,I1,r1,q1⟩:=qz2; exact hc pins s1 σ H1 vs us Q I1 r1 q1)) he hpl
end
end L2
namespace HT
open PySem PyProof.Rows
section
open PySem.SeqAt
open PySem.AutoSeq1 (wpAny_loadPart')
open PySem.MeetsSeq PySem.MeetsSeq2 PySem.MeetsSeq3
end
section
variable {prog:Program} {w:World} {A:Around} {E:Value→Shared→Prop} {s:Shared}
theorem ED {t b:Addr} {vs ws:List Value} {Q:Value→Shared→Prop} (ht:IsTup s.heap t vs.toArray) (hb:IsTup s.heap b ws.toArray) (hv:vs≠[])
    (h1:ws=[]→Q (.ref t) s) (h2:ws≠[]→Q (.ref s.heap.objs.size) { s with heap:=s.heap.push { cls:=.type "tuple",data:=.seq (vs++ws).toArray } })
    (hsz:vs.length + ws.length≤sizeLine):wpAny (model prog w) A (binaryOp .Add (.ref t) (.ref b)) Q E s:=by
  obtain ⟨⟨cls,dd,data,sl⟩,ho,hc,n,hd⟩:=id ht
  obtain ⟨⟨cls2,dd2,data2,sl2⟩,ho2,hc2,n2,hd2⟩:=id hb
  simp only at hc hd hc2 hd2
  subst hc hd hc2 hd2
  have e:vs.toArray++ws.toArray=(vs++ws).toArray:=by simp
  by_cases hw:ws=[]
  · exact concat_meets ⟨_,ho,rfl⟩ ⟨_,ho2,rfl⟩ noFill_tuple_add seq_tuple_add PySem.F.slot_tuple_add PySem.F.entry_tuple_add (PySem.F.args_tuple_add_2 _ _)
      (tuple_addW1 t b vs.toArray ws.toArray n n2 dd dd2 sl sl2 (by simpa using hv) (by simp [hw])) ⟨ho,ho2,h1 hw⟩
  · refine concat_meets ⟨_,ho,rfl⟩ ⟨_,ho2,rfl⟩ noFill_tuple_add seq_tuple_add PySem.F.slot_tuple_add PySem.F.entry_tuple_add (PySem.F.args_tuple_add_2 _ _)
      (tuple_addW2 t b vs.toArray ws.toArray n n2 dd dd2 sl sl2 (by simpa using hv) (by simpa using hw) (by rw [List.size_toArray,List.size_toArray]; exact hsz)) ⟨ho,ho2,?_⟩
    rw [e]
    exact h2 hw
noncomputable def sIx (n d:Nat):Option Int→Nat
  | none=>d
  | some v=>if v < 0 then (v + (n:Int)).toNat else min v.toNat n
theorem zW (n d k:Nat):sIx n d (some (k:Int))=min k n:=by
  show (if (k:Int) < 0 then ((k:Int) + (n:Int)).toNat else min (k:Int).toNat n)=min k n
  rw [if_neg (by omega),Int.toNat_natCast]
theorem Fl (n d:Nat) (hd:d≤n) (o:Option Int):sIx n d o≤n:=by
  cases o with
  | none=>exact hd
  | some v =>
    show (if v < 0 then (v + (n:Int)).toNat else min v.toNat n)≤n
    by_cases hv:v < 0
    · rw [if_pos hv]; omega
    · rw [if_neg hv]; exact Nat.min_le_right _ _
theorem Ag (v:Int) (n d:Nat):(if v < 0 then max (v + (n:Int)) 0 else min v (n:Int))=((sIx n d (some v):Nat):Int):=by
  show (if v < 0 then max (v + (n:Int)) 0 else min v (n:Int))=(((if v < 0 then (v + (n:Int)).toNat else min v.toNat n):Nat):Int)
  by_cases hv:v < 0
  · simp only [if_pos hv]; omega
  · simp only [if_neg hv]; omega
theorem yP (lo hi:Option Int) (n:Nat):Builtin.Slice.sliceAdjust lo hi 1 (n:Int)=(((sIx n 0 lo:Nat):Int),((sIx n n hi:Nat):Int)):=by
  have h1:¬ ((1:Int) < 0):=by omega
  unfold Builtin.Slice.sliceAdjust
  simp only [h1,if_false]
  refine Prod.ext ?_ ?_
  · cases lo with
    | none=>rfl
    | some v=>exact Ag v n 0
  · cases hi with
    | none=>rfl
    | some v=>exact Ag v n n
theorem yN (i j:Nat):Builtin.Slice.slicePlaces (i:Int) (j:Int) 1=j - i:=by
  unfold Builtin.Slice.slicePlaces
  have h1:(1:Int) > 0:=by omega
  simp only [h1,if_true,Int.ediv_one]
  split <;> omega
theorem qJ {v:Value} {o:Option Int} {Q:Option Int→Shared→Prop} (p:IsPart v o) (h:Q o s):wpAny (model prog w) A (Builtin.Slice.slicePartIndex v) Q E s:=by
  cases p with
  | none=>exact slicePart_none h
  | int i t=>exact slicePart_int h
theorem jW {sl:Addr} {vl vu:Value} {lo hi:Option Int} {n:Nat} {Q:Int × Int × Nat→Shared→Prop} (hs:s.heap.IsSliceOf sl vl vu .none) (pl:IsPart vl lo) (pu:IsPart vu hi)
    (h:Q (((sIx n 0 lo:Nat):Int),1,sIx n n hi - sIx n 0 lo) s):wpAny (model prog w) A (Builtin.Slice.sliceApplied (.ref sl) (pure (n:Int))) Q E s:=by
  obtain ⟨os,hos,hcs,hds⟩:=id hs
  unfold Builtin.Slice.sliceApplied Builtin.Slice.sliceFields
  refine wpAny_bind (wpAny_bind (wpAny_field hos hds (x:=vl) rfl (wpAny_bind (wpAny_field hos hds (x:=vu) rfl (wpAny_bind (wpAny_field hos hds (x:=.none) rfl (wpAny_pure ?_)))))))
  refine wpAny_bind (slicePart_none ?_)
  show wpAny _ _ (if ((1:Int) == 0)=true then _ else _) _ _ s
  rw [if_neg (by decide)]
  refine wpAny_bind (qJ pl (wpAny_bind (qJ pu (wpAny_bind (wpAny_pure ?_)))))
  show wpAny _ _ (match Builtin.Slice.sliceAdjust lo hi 1 (n:Int) with | (lo,hi)=>pure (lo,(1:Int),Builtin.Slice.slicePlaces lo hi 1)) _ _ s
  rw [yP lo hi n]
  show wpAny _ _ (pure (((sIx n 0 lo:Nat):Int),(1:Int),Builtin.Slice.slicePlaces ((sIx n 0 lo:Nat):Int) ((sIx n n hi:Nat):Int) 1)) _ _ s
  rw [yN]
  exact wpAny_pure h
theorem CP (xs:Array Value) (i k:Nat):((List.range k).filterMap fun (m:Nat)=>xs[((i:Int) + (m:Int) * 1).toNat]?).toArray=((xs.toList.drop i).take k).toArray:=by
  have e:(fun (m:Nat)=>xs[((i:Int) + (m:Int) * 1).toNat]?)=fun m=>xs[i + m]?:=by
    funext m
    have:((i:Int) + (m:Int) * 1).toNat=i + m:=by omega
    rw [this]
  rw [e]
  have:=pick_run xs i k
  rw [List.filterMap_map] at this
  have e2:((fun x=>xs[x]?) ∘ fun x=>i + x)=fun m=>xs[i + m]?:=rfl
  rw [e2] at this
  rw [this]
theorem nB {t sl:Addr} {items:Array Value} {vl vu:Value} {lo hi:Option Int} {Q:Value→Shared→Prop} (ht:IsTup s.heap t items) (hs:s.heap.IsSliceOf sl vl vu .none) (pl:IsPart vl lo) (pu:IsPart vu hi)
    (hw:¬ (sIx items.size 0 lo=0∧sIx items.size items.size hi=items.size))
    (h:Q (.ref s.heap.objs.size) { s with heap:=s.heap.push { cls:=.type "tuple",data:=.seq ((items.toList.drop (sIx items.size 0 lo)).take (sIx items.size items.size hi - sIx items.size 0 lo)).toArray } })
    (hsz:items.size≤sizeLine):wpAny (model prog w) A (getItem (.ref t) (.ref sl)) Q E s:=by
  have htake:sizeOk (.seq ((items.toList.drop (sIx items.size 0 lo)).take (sIx items.size items.size hi - sIx items.size 0 lo)).toArray):=by
    show ((items.toList.drop (sIx items.size 0 lo)).take (sIx items.size items.size hi - sIx items.size 0 lo)).toArray.size≤sizeLine
    rw [List.size_toArray,List.length_take,List.length_drop,Array.length_toList]
    omega
  have hj:sIx items.size items.size hi≤items.size:=Fl _ _ (Nat.le_refl _) hi
  obtain ⟨os,hos,hcs,hds⟩:=id hs
  have hTs:s.TypeIs (.ref sl) "slice":=⟨os,hos,hcs⟩
  unfold getItem
  try with_reducible refine wpAny_holding ?_
  first | refine wpAny_bind (wpAny_pure ?_) | skip
  refine wpAny_bind (wpAny_sequenceKey ht.typeIs (by decide) ?_)
  refine wpAny_bind (wpAny_callSpecial?_slot (name:=Str.ofString "__getitem__") ht.typeIs PyProof.Rows.slot_tuple_getitem
    (wpAny_call_entry PyProof.Rows.slot_tuple_getitem ht.typeIs entry_tuple_getitem ?_ (args_tuple_getitem _ _)))
  show wpAny _ _ (Builtin.Tuple.tupleItemsOf (.ref t) >>= _) _ _ s
  refine wpAny_bind (tupleItemsOf_ ht ?_)
  refine wpAny_bind (wpAny_typeOf hTs ?_)
  rw [if_pos (by decide)]
  refine wpAny_bind (jW hs pl pu ?_)
  have hno:¬ ((((sIx items.size 0 lo:Nat):Int) == 0 && (1:Int) == 1 && (sIx items.size items.size hi - sIx items.size 0 lo) == items.size)=true):=by
    intro q
    rw [Bool.and_eq_true,Bool.and_eq_true] at q
    have q1:((sIx items.size 0 lo:Nat):Int)=0:=eq_of_beq q.1.1
    have q2:sIx items.size items.size hi - sIx items.size 0 lo=items.size:=eq_of_beq q.2
    exact hw ⟨by omega,by omega⟩
  show wpAny _ _ (if (((sIx items.size 0 lo:Nat):Int) == 0 && (1:Int) == 1 && (sIx items.size items.size hi - sIx items.size 0 lo) == items.size)=true then _ else _) _ _ s
  rw [if_neg hno,CP]
  first
    | exact wpAny_bind (m:=Builtin.Tuple.tupleExact _) (wpAny_newObj_type (wpAny_pure ⟨_,rfl,wpAny_pure h⟩) htake)
    | exact wpAny_bind (m:=Builtin.Tuple.tupleExact _) (wpAny_newObj_type (wpAny_bind (wpAny_pure (wpAny_pure ⟨_,rfl,wpAny_pure h⟩))) htake)
    | exact wpAny_bind (wpAny_bind (m:=Builtin.Tuple.tupleExact _) (wpAny_newObj_type (wpAny_pure (wpAny_pure ⟨_,rfl,wpAny_pure h⟩)) htake))
    | exact wpAny_bind (wpAny_bind (m:=Builtin.Tuple.tupleExact _) (wpAny_newObj_type (wpAny_pure ⟨_,rfl,wpAny_pure h⟩) htake))
end
end HT
namespace L2
open PySem PySem.Spec PyProof.Rows
noncomputable abbrev TO:=St→Hp→(Option Int→Hp→Prop)→Prop
noncomputable def PO (X:Cx) (e:Option Expr) (t:TO):Prop :=
  ∀ (pins:List (Addr × Obj)) (s:Shared) (σ:St) (H:Hp) (Q:Option Int→Hp→Prop),Inv X pins σ H s→t σ H Q →
    wpAny (model X.prog X.w) X.A (evalPart e X.env) (fun u s'=>∃ o H',Inv X pins σ H' s'∧IsPart u o∧Q o H') X.xe s
noncomputable def EA:TO:=fun _ H Q=>Q none H
noncomputable def Hn (t:TE):TO:=fun σ H Q=>t σ H fun x H1=>∃ i,x=.int i∧Q (some i) H1
theorem intsAre_of {ns:List Int}:∀ {us:List Value},Vals (ns.map V.int) us→IntsAre us ns:=by
  induction ns with
  | nil=>intro us r; rw [List.map_nil] at r; cases r; exact .nil
  | cons n ns ih =>
    intro us r
    rw [List.map_cons] at r
    cases r with
    | cons r1 r2 =>
      obtain ⟨t,e⟩:=r1
      subst e
      exact .cons n t (ih r2)
section
variable {X:Cx} {e:Expr} {te:TE} {lo hi:Option Expr} {tl th:TO} {pos p2:Pos}
theorem DO:PO X none EA:=by
  intro pins s σ H Q I h
  rw [evalPart_none]
  exact wpAny_pure ⟨none,H,I,.none,h⟩
theorem Ei (h:PE X e te):PO X (some e) (Hn te):=by
  intro pins s σ H Q I hw
  rw [evalPart_some]
  refine thn (h pins s σ H _ I hw) fun u s1 rz2=>?_
  obtain ⟨x,H1,I1,r1,q1⟩:=rz2
  obtain ⟨i,rfl,q⟩:=q1
  obtain ⟨t,rfl⟩:=r1
  exact ⟨some i,H1,I1,.int i t,q⟩
noncomputable def SlR (X:Cx) (r:V→Option Int→Option Int→Hp→VK→Prop):Prop :=
  ∀ (pins:List (Addr × Obj)) (s:Shared) (σ:St) (H:Hp) (x:V) (v vl vu:Value) (lo hi:Option Int) (sl:Addr) (Q:VK),Inv X pins σ H s→RelV x v→s.heap.IsSliceOf sl vl vu .none→IsPart vl lo→IsPart vu hi→r x lo hi H Q →
    ∃ T id,typeLookup (.type T) "__getitem__"=pure (some (.builtin id))∧s.TypeIs v T∧wpAny (model X.prog X.w) X.A (getItem v (.ref sl)) (EP X pins σ Q) X.xe s
theorem SlR.or {r r':V→Option Int→Option Int→Hp→VK→Prop} (h:SlR X r) (h':SlR X r'):SlR X (fun x lo hi H Q=>r x lo hi H Q∨r' x lo hi H Q):=by
  intro pins s σ H x v vl vu lo hi sl Q I rx hs pl pu q
  rcases q with q | q
  · exact h pins s σ H x v vl vu lo hi sl Q I rx hs pl pu q
  · exact h' pins s σ H x v vl vu lo hi sl Q I rx hs pl pu q
noncomputable def tSl (r:V→Option Int→Option Int→Hp→VK→Prop) (te:TE) (tl th:TO):TE:=fun σ H Q=>te σ H fun x H1=>tl σ H1 fun l H2=>th σ H2 fun u H3=>r x l u H3 Q
theorem CN {r:V→Option Int→Option Int→Hp→VK→Prop} (hr:SlR X r) (he:PE X e te) (hl:PO X lo tl) (hu:PO X hi th):PE X (.Subscript e (.Slice lo hi none p2) pos) (tSl r te tl th):=by
  intro pins s σ H Q I h
  refine Subscript_ (thn (he pins s σ H _ I h) fun v s1 rz2=>?_)
  obtain ⟨x,H1,I1,r1,q1⟩:=rz2
  refine wpAny_Slice (thn (hl pins s1 σ H1 _ I1 q1) fun vl s2 rz2=>?_)
  obtain ⟨l,H2,I2,pl,q2⟩:=rz2
  refine thn (hu pins s2 σ H2 _ I2 q2) fun vu s3 rz2=>?_
  obtain ⟨u,H3,I3,pu,q3⟩:=rz2
  rw [evalPart_none]
  refine wpAny_pure ?_
  have I4:Inv X pins σ H3 { s3 with heap:=s3.heap.push { cls:=.type "slice",data:=.fields #[vl,vu,.none] } }:=I3.kept (t':=s3.toks) fun b ob q=>Heap.get?_push_of_some _ q
  obtain ⟨T,id,hT,ht,hg⟩:=hr pins { s3 with heap:=s3.heap.push { cls:=.type "slice",data:=.fields #[vl,vu,.none] } } σ H3 x v vl vu l u s3.heap.objs.size Q I4 r1 (Heap.IsSliceOf.new ..) pl pu q3
  show wpAny (model X.prog X.w) X.A (subscriptTail e (.Slice lo hi none p2) v (.ref s3.heap.objs.size)) (EP X pins σ Q) X.xe { s3 with heap:=s3.heap.push { cls:=.type "slice",data:=.fields #[vl,vu,.none] } }
  exact tail_any (ops:=[.ref s3.heap.objs.size,v]) ht hT hg (by with_unfolding_all rfl)
noncomputable def wG (xs:List V) (lo hi:Option Int):List V:=(xs.drop (HT.sIx xs.length 0 lo)).take (HT.sIx xs.length xs.length hi - HT.sIx xs.length 0 lo)
theorem pM (xs:List V) (lo hi:Option Int):(wG xs lo hi).length≤xs.length:=by
  unfold wG
  rw [List.length_take,List.length_drop]
  omega
noncomputable def HN (K:PySem.W.Frag):V→Option Int→Option Int→Hp→VK→Prop:=fun x lo hi H Q=>∃ a xs,x=.ref a∧SqT K H a xs ∧
  ¬ (HT.sIx xs.length 0 lo=0∧HT.sIx xs.length xs.length hi=xs.length)∧∀ p,H p=none→Q (.ref p) (upd H p (.tup (wG xs lo hi)))
theorem Gh:SlR X (HN X.K):=by
  intro pins s σ H x v vl vu lo hi sl Q I rx hs pl pu h
  obtain ⟨a,xs,rfl,hx,hw,q⟩:=h
  cases rx
  obtain ⟨its,r,ht,hz⟩:=I.tuple hx
  have hlen:its.toArray.size=xs.length:=by rw [List.size_toArray]; exact r.length.symm
  refine ⟨"tuple",_,PyProof.Rows.slot_tuple_getitem.lookup,ht.typeIs,?_⟩
  refine HT.nB ht hs pl pu (by rw [hlen]; exact hw) ?_ (by rw [hlen]; exact hz)
  rw [hlen]
  refine ⟨.ref s.heap.objs.size,_,I.laid (t':=s.toks) (o:=.tup (wG xs lo hi)) (fun b ob q=>Heap.get?_push_of_some _ q) (Nat.le_refl _) ?_,rfl,q _ (I.hok.fresh (Nat.le_refl _))⟩
  exact ⟨Nat.le_trans (pM xs lo hi) hz,_,(r.drop (HT.sIx xs.length 0 lo)).take (HT.sIx xs.length xs.length hi - HT.sIx xs.length 0 lo),uS.new _ _⟩
noncomputable def GY (K:PySem.W.Frag):R2:=fun x y H Q=>∃ a b xs ys,x=.ref a∧y=.ref b∧SqT K H a xs∧SqT K H b ys∧xs≠[]∧xs.length + ys.length≤sizeLine ∧
  (ys=[]→Q (.ref a) H)∧(ys≠[]→∀ p,H p=none→Q (.ref p) (upd H p (.tup (xs++ys))))
theorem Vals.nil_iff {xs:List V} {us:List Value} (r:Vals xs us):us=[]↔xs=[]:=by
  cases r with
  | nil=>simp
  | cons _ _=>simp
theorem EL:OpR X (binaryOp .Add) (GY X.K):=by
  intro pins s σ H x y v u Q I rx ry h
  obtain ⟨a,b,xs,ys,rfl,rfl,ha,hb,hx,hz,q1,q2⟩:=h
  cases rx
  cases ry
  obtain ⟨its,r1,p1,_⟩:=I.tuple ha
  obtain ⟨its2,r2,p2,_⟩:=I.tuple hb
  refine HT.ED p1 p2 (fun z=>hx (r1.nil_iff.mp z)) (fun z=>⟨.ref a,H,I,rfl,q1 (r2.nil_iff.mp z)⟩) (fun z=>?_) (by rw [← r1.length,← r2.length]; exact hz)
  refine ⟨.ref s.heap.objs.size,_,I.laid (t':=s.toks) (o:=.tup (xs++ys)) (fun b ob q=>Heap.get?_push_of_some _ q) (Nat.le_refl _) ?_,rfl,q2 (fun w=>z (r2.nil_iff.mpr w)) _ (I.hok.fresh (Nat.le_refl _))⟩
  exact ⟨by rw [List.length_append]; exact hz,_,r1.append r2,uS.new _ _⟩
end
end L2
namespace L2
open PySem PySem.Spec PyProof.Rows
noncomputable def ixN (n:Nat) (i:Int):Option Nat:=if 0≤i then (if i < n then some i.toNat else none) else if -(n:Int)≤i then some (i + n).toNat else none
noncomputable def atI {α:Type} (xs:List α) (i:Int):Option α:=(ixN xs.length i).bind fun j=>xs[j]?
theorem vC {n:Nat} {i:Int} {j:Nat} (h:ixN n i=some j):seqIndex? i n=some j∧j < n∧-(n:Int)≤i∧i < n:=by
  unfold ixN at h
  by_cases h0:0≤i
  · rw [if_pos h0] at h
    by_cases h1:i < n
    · rw [if_pos h1] at h
      have e:i.toNat=j:=Option.some.inj h
      exact ⟨by rw [seqIndex_of h0 h1,e],by omega,by omega,h1⟩
    · rw [if_neg h1] at h; cases h
  · rw [if_neg h0] at h
    by_cases h1:-(n:Int)≤i
    · rw [if_pos h1] at h
      have e:(i + n).toNat=j:=Option.some.inj h
      exact ⟨by rw [seqIndex_neg (by omega) h1,e],by omega,h1,by omega⟩
    · rw [if_neg h1] at h; cases h
theorem zS {α:Type} {xs:List α} {i:Int} {v:α} (h:atI xs i=some v):∃ j,seqIndex? i xs.length=some j∧xs[j]?=some v∧j < xs.length∧-(xs.length:Int)≤i∧i < xs.length:=by
  unfold atI at h
  cases e:ixN xs.length i with
  | none=>rw [e] at h; cases h
  | some j =>
    rw [e] at h
    obtain ⟨h1,h2,h3,h4⟩:=vC e
    exact ⟨j,h1,h,h2,h3,h4⟩
theorem Et {α:Type} {xs:List α} {j:Nat} {v:α} (h:xs[j]?=some v):atI xs (j:Int)=some v:=by
  have hj:j < xs.length:=(List.getElem?_eq_some_iff.mp h).1
  have e:ixN xs.length (j:Int)=some j:=by
    unfold ixN
    rw [if_pos (by omega),if_pos (by omega)]; simp
  unfold atI; rw [e]; exact h
noncomputable def zR (b:Expr):Prop:=∀ o i,subscripted b false o i=operate [o,i] (getItem o i)
noncomputable def IxR (X:Cx) (r:R2):Prop :=
  ∀ (value slice:Expr) (pins:List (Addr × Obj)) (s:Shared) (σ:St) (H:Hp) (x y:V) (v u:Value) (Q:VK),Inv X pins σ H s→RelV x v→RelV y u→r x y H Q →
    subscripted slice false v u=operate [v,u] (getItem v u)→wpAny (model X.prog X.w) X.A (subscriptTail value slice v u) (EP X pins σ Q) X.xe s
noncomputable def MtR (X:Cx) (id:String) (r:V→List V→Hp→VK→Prop):Prop :=
  ∀ (pins:List (Addr × Obj)) (s:Shared) (σ:St) (H:Hp) (x:V) (xs:List V) (v:Value) (us:List Value) (Q:VK),Inv X pins σ H s→RelV x v→Vals xs us→r x xs H Q →
    wpAny (model X.prog X.w) X.A (call (.builtin id) (v::us)) (EP X pins σ Q) X.xe s
section
variable {X:Cx} {a b:Expr} {ta tb:TE} {pos:Pos}
theorem IxR.or {r r':R2} (h:IxR X r) (h':IxR X r'):IxR X (fun x y H Q=>r x y H Q∨r' x y H Q):=by
  intro value slice pins s σ H x y v u Q I rx ry q hs
  rcases q with q | q
  · exact h value slice pins s σ H x y v u Q I rx ry q hs
  · exact h' value slice pins s σ H x y v u Q I rx ry q hs
theorem B8 {r:R2} (hr:IxR X r) (ha:PE X a ta) (hb:PE X b tb) (hs:zR b):PE X (.Subscript a b pos) (tOp r ta tb):=by
  intro pins s σ H Q I h
  exact Subscript_ (F0 ha hb I h fun v u s2 x y H2 I2 rx ry q=>hr a b pins s2 σ H2 x y v u Q I2 rx ry q (hs _ _))
noncomputable def Hv (K:PySem.W.Frag):R2:=fun x y H Q=>∃ p xs i v,x=.ref p∧y=.int i∧SqL K H p xs∧atI xs i=some v∧Q v H
noncomputable def Hw (K:PySem.W.Frag):R2:=fun x y H Q=>∃ p xs i v,x=.ref p∧y=.int i∧SqT K H p xs∧atI xs i=some v∧Q v H
theorem vT:IxR X (Hv X.K):=by
  intro value slice pins s σ H x y v u Q I rx ry h hs
  obtain ⟨p,xs,i,z,rfl,rfl,hq,he,q⟩:=h
  cases rx
  obtain ⟨t,rfl⟩:=ry
  obtain ⟨its,r,pl,hz⟩:=I.list hq
  obtain ⟨j,h1,h2,h3,h4,h5⟩:=zS he
  obtain ⟨w,ew,rw'⟩:=r.get h2
  have hl:=r.length
  have hn:=uz
  have fin:EP X pins σ Q w s:=⟨z,H,I,rw',q⟩
  by_cases h0:0≤i
  · have hj:i.toNat=j:=by
      rw [seqIndex_of h0 h5] at h1
      exact Option.some.inj h1
    exact item_listR pl.isList h0 (by omega) (by rw [hj]; simpa using ew) fin hs
  · have hj:(i + (its.toArray.size:Int)).toNat=j:=by
      rw [seqIndex_neg (by omega) h4] at h1
      rw [List.size_toArray,← hl]
      exact Option.some.inj h1
    exact subscriptTail_builtinR (x:=w) pl.isList.typeIs slot_list_getitem.lookup
      (wpAny_getItem_list_neg (Q:=fun r s'=>r=w∧EP X pins σ Q r s') pl.isList (by omega) (by rw [List.size_toArray] <;> omega) (by omega) (by rw [hj]; simpa using ew) ⟨rfl,fin⟩) hs
theorem Fj:IxR X (Hw X.K):=by
  intro value slice pins s σ H x y v u Q I rx ry h hs
  obtain ⟨p,xs,i,z,rfl,rfl,hq,he,q⟩:=h
  cases rx
  obtain ⟨t,rfl⟩:=ry
  obtain ⟨its,r,pl,hz⟩:=I.tuple hq
  obtain ⟨j,h1,h2,h3,h4,h5⟩:=zS he
  obtain ⟨w,ew,rw'⟩:=r.get h2
  have hl:=r.length
  have hn:=uz
  have fin:EP X pins σ Q w s:=⟨z,H,I,rw',q⟩
  exact subscriptTail_builtinR (x:=w) pl.typeIs slot_tuple_getitem.lookup
    (getItem_tuple (j:=j) (Q:=fun r s'=>r=w∧EP X pins σ Q r s') pl (by omega) (by omega) (by rw [List.size_toArray,← hl]; exact h1) (by simpa using ew) ⟨rfl,fin⟩) hs
theorem yC (its:List Value) (n j:Nat) (u:Value):Obj.mapSeq (·.setIfInBounds j u) { cls:=.type "list",data:=.seq its.toArray n }={ cls:=.type "list",data:=.seq (its.set j u).toArray n }:=by
  simp [Obj.mapSeq]
theorem Inv.lst {pins:List (Addr × Obj)} {σ:St} {H:Hp} {s:Shared} {p:Addr} {xs:List V} (I:Inv X pins σ H s) (h:H p=some (.lst xs)) :
    ∃ (its:List Value) (n:Nat),Vals xs its∧s.heap.get? p=some { cls:=.type "list",data:=.seq its.toArray n }∧xs.length≤sizeLine:=by
  obtain ⟨z,its,n,r,e⟩:=I.hok p _ h
  exact ⟨its,n,r,e,z⟩
theorem Inv.lstUpd {pins:List (Addr × Obj)} {σ:St} {H:Hp} {s:Shared} {p:Addr} {xs ys:List V} {its its':List Value} {n n':Nat} {f:Obj→Obj} (I:Inv X pins σ H s) (h:H p=some (.lst xs))
    (ho:s.heap.get? p=some { cls:=.type "list",data:=.seq its.toArray n }) (hf:f { cls:=.type "list",data:=.seq its.toArray n }={ cls:=.type "list",data:=.seq its'.toArray n' }) (r:Vals ys its') (hz:ys.length≤sizeLine) (t:Nat) :
    Inv X pins σ (upd H p (.lst ys)) { s with heap:=s.heap.update p f,toks:=t }:=by
  have e:(s.heap.update p f).get? p=some { cls:=.type "list",data:=.seq its'.toArray n' }:=by
    rw [Heap.get?_update_self f ho (by rw [hf] <;> rfl),hf]
  refine I.write (x:=p) (e:=p) (by rw [h]; trivial) (.inl rfl) (fun b u hb q=>(Heap.get?_update_other _ _ (Ne.symm hb)).trans q) ⟨_,e⟩ ?_
  exact ⟨hz,its',n',r,e⟩
noncomputable def GZ:V→V→V→Hp→(Hp→Prop)→Prop:=fun o i v H Q=>∃ p xs k j,o=.ref p∧i=.int k∧H p=some (.lst xs)∧ixN xs.length k=some j∧Q (upd H p (.lst (xs.set j v)))
theorem set_list:Hj X GZ:=by
  intro pins s σ H o i v ov iv u Q I ro ri rv h
  obtain ⟨p,xs,k,j,rfl,rfl,hp,hj,q⟩:=h
  cases ro
  obtain ⟨t,rfl⟩:=ri
  obtain ⟨its,n,r,ho,hz⟩:=I.lst hp
  obtain ⟨h1,h2,h3,h4⟩:=vC hj
  have hl:=r.length
  have hn:=uz
  have I':Inv X pins σ (upd H p (.lst (xs.set j v))) { s with heap:=s.heap.update p (Obj.mapSeq (·.setIfInBounds j u)) } :=
    I.lstUpd hp ho (yC its n j u) (r.set rv j) (by rw [List.length_set]; exact hz) s.toks
  by_cases h0:0≤k
  · have hk:k.toNat=j:=by
      rw [seqIndex_of h0 h4] at h1
      exact Option.some.inj h1
    exact PySem.W.ki_setAt ho h0 (by omega) (by rw [List.size_toArray,← hl]; exact h4) (by rw [hk]; exact ⟨_,I',q⟩)
  · have hk:(k + (its.toArray.size:Int)).toNat=j:=by
      rw [seqIndex_neg (by omega) h3] at h1
      rw [List.size_toArray,← hl]
      exact Option.some.inj h1
    exact PySem.W.ki_setBack ho (by omega) (by rw [List.size_toArray,← hl]; exact h3) (by omega) (by rw [hk]; exact ⟨_,I',q⟩)
theorem vp (lo hi:Option Int) (n:Nat):(sliceBounds lo hi none n).1=((HT.sIx n 0 lo:Nat):Int)∧(sliceBounds lo hi none n).2.1=((HT.sIx n n hi:Nat):Int)∧(sliceBounds lo hi none n).2.2=1:=by
  refine ⟨?_,?_,rfl⟩
  · cases lo with
    | none=>simp [sliceBounds,HT.sIx]
    | some i =>
      simp only [sliceBounds,HT.sIx,Option.getD_none,show (1:Int) > 0 by decide,if_true]
      by_cases h:i < 0
      · simp only [h,if_true] <;> omega
      · simp only [h,if_false] <;> omega
  · cases hi with
    | none=>simp [sliceBounds,HT.sIx]
    | some i =>
      simp only [sliceBounds,HT.sIx,Option.getD_none,show (1:Int) > 0 by decide,if_true]
      by_cases h:i < 0
      · simp only [h,if_true] <;> omega
      · simp only [h,if_false] <;> omega
theorem tG (its:List Value) (lo hi:Option Int):slicePick its.toArray lo hi none=((its.drop (HT.sIx its.length 0 lo)).take (HT.sIx its.length its.length hi - HT.sIx its.length 0 lo)).toArray:=by
  obtain ⟨h1,h2,h3⟩:=vp lo hi its.toArray.size
  unfold slicePick
  rw [h1,h2,h3]
  simp only [sliceRange_one,pick_run,List.size_toArray] <;> rfl
noncomputable def HH (K:PySem.W.Frag):V→Option Int→Option Int→Hp→VK→Prop:=fun x lo hi H Q=>∃ a xs,x=.ref a∧SqL K H a xs∧∀ p,H p=none→Q (.ref p) (upd H p (.lst (wG xs lo hi)))
theorem DW:SlR X (HH X.K):=by
  intro pins s σ H x v vl vu lo hi sl Q I rx hs pl pu h
  obtain ⟨a,xs,rfl,hx,q⟩:=h
  cases rx
  obtain ⟨its,r,ht,hz⟩:=I.list hx
  have hlen:=r.length
  refine ⟨"list",_,slot_list_getitem.lookup,ht.isList.typeIs,?_⟩
  refine wpAny_getItem_list_slice ht.isList hs pl pu .none (by simp) ?_ (by rw [List.size_toArray] <;> omega)
  rw [tG,← hlen]
  refine ⟨.ref s.heap.objs.size,_,I.laid (t':=s.toks) (o:=.lst (wG xs lo hi)) (fun b ob q=>Heap.get?_push_of_some _ q) (Nat.le_refl _) ?_,rfl,q _ (I.hok.fresh (Nat.le_refl _))⟩
  exact ⟨Nat.le_trans (pM xs lo hi) hz,_,0,(r.drop (HT.sIx xs.length 0 lo)).take (HT.sIx xs.length xs.length hi - HT.sIx xs.length 0 lo),Heap.get?_push_size _ rfl⟩
noncomputable def kZ:V→Bool
  | .non=>true
  | .bl _=>true
  | .int _=>true
  | .str _=>true
  | _=>false
noncomputable def eqV:V→V→Bool
  | .non,.non=>true
  | .bl a,.bl b=>a == b
  | .bl a,.int b=>(if a then 1 else 0) == b
  | .int a,.bl b=>a == (if b then 1 else 0)
  | .int a,.int b=>a == b
  | .str a,.str b=>a == b
  | _,_=>false
theorem Ge {A:Around} {s:Shared} {y x:V} {u v:Value} (ry:RelV y u) (rx:RelV x v) (fy:kZ y=true) (fx:kZ x=true):SeqAt.EqAt A s u v (eqV y x):=by
  cases y with
  | non =>
    cases ry
    cases x with
    | non=>cases rx; exact SeqAt.EqAt.same _
    | bl b=>cases rx; exact SeqAt.EqAt.none_bool b
    | int b=>obtain ⟨t,rfl⟩:=rx; exact SeqAt.EqAt.none_int b t
    | str b=>obtain ⟨t,rfl⟩:=rx; exact SeqAt.EqAt.none_str b t
    | _=>exact absurd (show false=true from fx) Bool.false_ne_true
  | bl a =>
    cases ry
    cases x with
    | non=>cases rx; exact SeqAt.EqAt.bool_none a
    | bl b=>cases rx; exact SeqAt.EqAt.bool_bool a b
    | int b=>obtain ⟨t,rfl⟩:=rx; exact SeqAt.EqAt.bool_int a b t
    | str b=>obtain ⟨t,rfl⟩:=rx; exact SeqAt.EqAt.bool_str a b t
    | _=>exact absurd (show false=true from fx) Bool.false_ne_true
  | int a =>
    obtain ⟨t',rfl⟩:=ry
    cases x with
    | non=>cases rx; exact SeqAt.EqAt.int_none a t'
    | bl b=>cases rx; exact SeqAt.EqAt.int_bool a t' b
    | int b=>obtain ⟨t,rfl⟩:=rx; exact SeqAt.EqAt.int_int a t' b t
    | str b=>obtain ⟨t,rfl⟩:=rx; exact SeqAt.EqAt.int_str a t' b t
    | _=>exact absurd (show false=true from fx) Bool.false_ne_true
  | str a =>
    obtain ⟨t',rfl⟩:=ry
    cases x with
    | non=>cases rx; exact SeqAt.EqAt.str_none a t'
    | bl b=>cases rx; exact SeqAt.EqAt.str_bool a t' b
    | int b=>obtain ⟨t,rfl⟩:=rx; exact SeqAt.EqAt.str_int a t' b t
    | str b=>obtain ⟨t,rfl⟩:=rx; exact SeqAt.EqAt.str_str a t' b t
    | _=>exact absurd (show false=true from fx) Bool.false_ne_true
  | _=>exact absurd (show false=true from fy) Bool.false_ne_true
noncomputable def eqU (x:V) (u:Value):Bool:=match u with
  | .none=>eqV .non x
  | .bool b=>eqV (.bl b) x
  | .int i _=>eqV (.int i) x
  | .str z _=>eqV (.str z) x
  | _=>false
theorem yO {x y:V} {u:Value} (r:RelV y u) (f:kZ y=true):eqU x u=eqV y x:=by
  cases y with
  | non=>cases r; rfl
  | bl b=>cases r; rfl
  | int i=>obtain ⟨t,rfl⟩:=r; rfl
  | str z=>obtain ⟨t,rfl⟩:=r; rfl
  | _=>exact absurd (show false=true from f) Bool.false_ne_true
theorem ou {x:V}:∀ {xs:List V} {us:List Value},Vals xs us→xs.all kZ=true→us.any (eqU x)=xs.any fun y=>eqV y x
  | _,_,.nil,_=>rfl
  | y::xs,u::us,.cons r t,f=>by
    rw [List.all_cons,Bool.and_eq_true] at f
    rw [List.any_cons,List.any_cons,yO r f.1,ou t f.2]
theorem jP {A:Around} {s:Shared} {x:V} {v:Value} (rx:RelV x v) (fx:kZ x=true):∀ {xs:List V} {us:List Value},Vals xs us→xs.all kZ=true→∀ u∈us,SeqAt.EqAt A s u v (eqU x u)
  | _,_,.nil,_=>fun u hu=>by cases hu
  | y::xs,u::us,.cons r t,f=>fun u' hu=>by
    rw [List.all_cons,Bool.and_eq_true] at f
    rcases List.mem_cons.mp hu with rfl | hu
    · rw [yO r f.1]; exact Ge r rx f.1 fx
    · exact jP rx fx t f.2 u' hu
noncomputable def inV (x:V) (xs:List V):Bool:=xs.any fun y=>eqV y x
noncomputable def rIn (K:PySem.W.Frag) (neg:Bool):R2:=fun x y H Q=>∃ p xs,y=.ref p∧(SqL K H p xs∨SqT K H p xs)∧kZ x=true∧xs.all kZ=true∧Q (.bl (if neg then !inV x xs else inV x xs)) H
theorem Ax:OpR X (compareOp .In) (rIn X.K false):=by
  intro pins s σ H x y v u Q I rx ry h
  obtain ⟨p,xs,rfl,hq,fx,fs,q⟩:=h
  cases ry
  rcases hq with hq | hq
  · obtain ⟨its,r,pl,hz⟩:=I.list hq
    refine SeqAt.in_listAt (eqU x) pl.isList (fun w hw=>jP rx fx r fs w (by simpa using hw)) ⟨.bl _,H,I,rfl,?_⟩
    rw [show its.toArray.any (eqU x)=its.any (eqU x) by simp,ou r fs]
    exact q
  · obtain ⟨its,r,pl,hz⟩:=I.tuple hq
    refine SeqAt.in_tupleAt (eqU x) pl (fun w hw=>jP rx fx r fs w (by simpa using hw)) ⟨.bl _,H,I,rfl,?_⟩
    rw [show its.toArray.any (eqU x)=its.any (eqU x) by simp,ou r fs]
    exact q
theorem u6:OpR X (compareOp .NotIn) (rIn X.K true):=by
  intro pins s σ H x y v u Q I rx ry h
  obtain ⟨p,xs,rfl,hq,fx,fs,q⟩:=h
  cases ry
  rcases hq with hq | hq
  · obtain ⟨its,r,pl,hz⟩:=I.list hq
    refine SeqAt.notIn_listAt (eqU x) pl.isList (fun w hw=>jP rx fx r fs w (by simpa using hw)) ⟨.bl _,H,I,rfl,?_⟩
    rw [show its.toArray.any (eqU x)=its.any (eqU x) by simp,ou r fs]
    exact q
  · obtain ⟨its,r,pl,hz⟩:=I.tuple hq
    refine SeqAt.notIn_tupleAt (eqU x) pl (fun w hw=>jP rx fx r fs w (by simpa using hw)) ⟨.bl _,H,I,rfl,?_⟩
    rw [show its.toArray.any (eqU x)=its.any (eqU x) by simp,ou r fs]
    exact q
theorem kA:jU X (.builtin "len") (fun xs H Q=>∃ p ys,xs=[.ref p]∧(SqL X.K H p ys∨SqT X.K H p ys)∧Q (.int ys.length) H):=by
  intro pins s σ H xs us Q I r h
  obtain ⟨p,ys,rfl,hq,q⟩:=h
  obtain ⟨u,rfl,rx⟩:=vals1 r
  cases rx
  have hn:=uz
  rcases hq with hq | hq
  · obtain ⟨its,r',pl,hz⟩:=I.list hq
    have hlen:=r'.length
    exact Calls.call_len_list pl.isList (by simp only [List.size_toArray] <;> omega) ⟨.int ys.length,H,I.tok _,⟨s.toks + 1,by rw [List.size_toArray,hlen]⟩,q⟩
  · obtain ⟨its,r',pl,hz⟩:=I.tuple hq
    have hlen:=r'.length
    exact len_tuple pl (by simp only [List.size_toArray] <;> omega) ⟨.int ys.length,H,I.tok _,⟨s.toks + 1,by rw [List.size_toArray,hlen]⟩,q⟩
theorem tE:jU X (.type "tuple") (fun xs H Q=>∃ p ys,xs=[.ref p]∧((SqL X.K H p ys∧∀ l,H l=none→Q (.ref l) (upd H l (.tup ys)))∨(SqT X.K H p ys∧Q (.ref p) H))):=by
  intro pins s σ H xs us Q I r h
  obtain ⟨p,ys,rfl,h⟩:=h
  obtain ⟨u,rfl,rx⟩:=vals1 r
  cases rx
  rcases h with ⟨hq,q⟩ | ⟨hq,q⟩
  · obtain ⟨its,r',pl,hz⟩:=I.list hq
    have hlen:=r'.length
    refine call_tuple_list pl.isList (fun h' kp=>?_) (by simp only [List.size_toArray] <;> omega)
    have I1:Inv X pins σ H { s with heap:=h' }:=I.kept (t':=s.toks) kp
    have I2:Inv X pins σ (upd H h'.objs.size (.tup ys)) { s with heap:=h'.push { cls:=.type "tuple",data:=.seq its.toArray } } :=
      I1.laid (t':=s.toks) (fun b o e=>Heap.get?_push_of_some _ e) (Nat.le_refl _) (show fP X.prog X.w _ _ _ (.tup ys) from ⟨hz,its,r',uS.new _ _⟩)
    exact ⟨.ref h'.objs.size,_,I2,rfl,q _ (I1.hok.fresh (Nat.le_refl _))⟩
  · obtain ⟨its,r',pl,hz⟩:=I.tuple hq
    exact call_tuple_same pl ⟨.ref p,H,I,rfl,q⟩
noncomputable def tyV (K:PySem.W.Frag) (T:String) (x:V) (H:Hp):Prop:=match x with
  | .str _=>T="str"
  | .int _=>T="int"
  | .ref p=>(T="list"∧∃ xs,SqL K H p xs)∨(T="tuple"∧∃ o,K.lookup p=some o∧o.cls=.type "tuple"∧o.dict=none) ∨
      (T="dict"∧((∃ kvs,H p=some (.dK kvs))∨∃ kvs,H p=some (.dT kvs)))∨(T="set"∧∃ S n,H p=some (.set S n))
  | _=>False
theorem Gx {pins:List (Addr × Obj)} {σ:St} {H:Hp} {s:Shared} {T:String} {x:V} {v:Value} (I:Inv X pins σ H s) (r:RelV x v) (ty:tyV X.K T x H) :
    s.TypeIs v T∧∀ a,v=.ref a→∃ ob,s.heap.get? a=some ob∧ob.dict=none:=by
  cases x with
  | str z =>
    obtain ⟨t,rfl⟩:=r
    cases (show T="str" from ty)
    exact ⟨typeIs_str s z t,fun _ e=>nomatch e⟩
  | int i =>
    obtain ⟨t,rfl⟩:=r
    cases (show T="int" from ty)
    exact ⟨typeIs_int s i t,fun _ e=>nomatch e⟩
  | ref p =>
    cases r
    rcases ty with ⟨rfl,xs,hq⟩ | ⟨rfl,o,hk,hc,hd⟩ | ⟨rfl,hk⟩ | ⟨rfl,S,n,hk⟩
    · obtain ⟨its,_,pl,_⟩:=I.list hq
      refine ⟨pl.isList.typeIs,fun a e=>?_⟩
      cases e
      obtain ⟨o,n,e,c,hd,_⟩:=pl
      exact ⟨o,e,hd⟩
    · refine ⟨⟨o,I.kIn p o hk,hc⟩,fun a e=>?_⟩
      cases e
      exact ⟨o,I.kIn _ o hk,hd⟩
    · have z:∃ o,s.heap.get? p=some o∧o.ExactDict:=by
        rcases hk with ⟨kvs,hk⟩ | ⟨kvs,hk⟩
        · obtain ⟨_,_,_,_,o,_,_,e,ex,_⟩:=I.hok p _ hk
          exact ⟨o,e,ex⟩
        · obtain ⟨_,_,_,_,o,_,_,e,ex,_⟩:=I.hok p _ hk
          exact ⟨o,e,ex⟩
      obtain ⟨o,e,ex⟩:=z
      refine ⟨⟨o,e,ex.1⟩,fun a e2=>?_⟩
      cases e2
      exact ⟨o,e,ex.2.1⟩
    · obtain ⟨o,_,_,_,e,ex,_⟩:=I.hok p _ hk
      refine ⟨⟨o,e,ex.1⟩,fun a e2=>?_⟩
      cases e2
      exact ⟨o,e,ex.2.1⟩
  | _=>exact False.elim ty
noncomputable def tBM (K:PySem.W.Frag) (T:String) (r:V→List V→Hp→VK→Prop) (to:TE) (t:TA):TE:=fun σ H Q=>to σ H fun x H1=>tyV K T x H1∧t σ H1 fun xs H2=>r x xs H2 Q
variable {o e:Expr} {es:List Expr} {to:TE} {t:TA} {name:Str} {apos cpos:Pos} {T id:String} {r:V→List V→Hp→VK→Prop}
theorem C5 (pa:PlainAttrs T) (slot:Slot T name id) (hty:typeOf (.builtin id)=pure (.type "method_descriptor")) (hm:MtR X id r) (ho:PE X o to) (ha:PA X (e::es) t)
    (hbase:attributeBase o name X.env (eval o X.env)=eval o X.env:=by rfl)
    (hfew:((backTo cpos (starEach (e::es) X.env)).all (fun x=>!x.1) && (backToKw cpos (keywordEach [] X.env)).all (fun x=>x.1.isSome)
      && decide ((e::es).length + ([]:List Keyword).length + (if ([]:List Keyword).isEmpty then 0 else 1) < 30))=true:=by rfl)
    (hline:(apos.endLine == cpos.line)=true:=by rfl) (hs:starEach (e::es) X.env=(false,eval e X.env)::starEach es X.env:=by rfl) (hplain:(backTo cpos (starEach es X.env)).any (·.1)=false:=by rfl) :
    PE X (.Call (.Attribute o name apos) (e::es) [] cpos) (tBM X.K T r to t):=by
  intro pins s σ H Q I h
  refine wpAny_Call_method_late hbase hfew hline rfl (thn (ho pins s σ H _ I h) fun v s1 rz2=>?_)
  obtain ⟨x,H1,I1,r1,ty,q1⟩:=rz2
  obtain ⟨h1,h2⟩:=Gx I1 r1 ty
  refine ⟨T,id,pa,slot,hty,h1,h2,?_⟩
  have hA:=ha cpos pins s1 σ H1 _ I1 q1
  rw [hs] at hA ⊢
  refine Calls.callWith_builtin (by show (false || (backTo cpos (starEach es X.env)).any (·.1))=false; rw [hplain] <;> rfl) (Calls.evalArgs_plain ?_)
  exact thn hA fun us s2 qz2=>(by obtain ⟨vs,H2,I2,r2,q2⟩:=qz2; exact hm pins s2 σ H2 x vs v us Q I2 r1 r2 q2)
end
end L2
namespace L2
open PySem PySem.Spec PyProof.Rows
noncomputable def MtM (X:Cx) (id:String) (r:V→List V→Hp→VK→Prop):Prop :=
  ∀ (pins:List (Addr × Obj)) (s:Shared) (σ:St) (H:Hp) (x:V) (xs:List V) (v:Value) (us:List Value) (Q:VK),Inv X pins σ H s→RelV x v→Vals xs us→r x xs H Q →
    wpAny (model X.prog X.w) X.A (call (.builtin id) (v::us)) (EP X pins σ Q) X.xe s
theorem Vals.one {x:V} {us:List Value} (h:Vals [x] us):∃ u,us=[u]∧RelV x u:=by
  cases h with
  | cons r t=>cases t; exact ⟨_,rfl,r⟩
theorem Vals.eraseIdx:∀ {xs:List V} {us:List Value} (i:Nat),Vals xs us→Vals (xs.eraseIdx i) (us.eraseIdx i)
  | _,_,_,.nil=>.nil
  | _,_,0,.cons _ t=>t
  | _,_,i + 1,.cons r t=>.cons r (Vals.eraseIdx i t)
theorem Vals.rep {xs:List V} {us:List Value} (h:Vals xs us):∀ k:Nat,Vals (List.replicate k xs).flatten (List.replicate k us).flatten
  | 0=>.nil
  | k + 1=>by
    rw [List.replicate_succ,List.replicate_succ,List.flatten_cons,List.flatten_cons]
    exact Vals.append h (Vals.rep h k)
theorem uv {α:Type}:∀ (l:List α) (i:Nat),(l.eraseIdx i).length≤l.length
  | [],_=>Nat.le_refl _
  | _::_,0=>Nat.le_succ _
  | _::r,i + 1=>Nat.succ_le_succ (uv r i)
theorem foldl_rep (its:List Value):∀ (k:Nat) (acc:List Value),
    List.foldl (fun x1 x2=>x1++x2) acc.toArray (List.replicate k its.toArray)=(acc++(List.replicate k its).flatten).toArray
  | 0,acc=>by simp
  | k + 1,acc=>by
    have e:acc.toArray++its.toArray=(acc++its).toArray:=by simp
    have e2:(acc++its)++(List.replicate k its).flatten=acc++(List.replicate (k + 1) its).flatten:=by
      rw [List.replicate_succ,List.flatten_cons,List.append_assoc]
    rw [← e2,← foldl_rep its k (acc++its),← e,List.replicate_succ,List.foldl_cons]
section
variable {X:Cx} {pins:List (Addr × Obj)} {σ:St} {H:Hp} {s:Shared} {l b:Addr} {xs ys zs:List V}
theorem Inv.lset {its its':List Value} {n:Nat} {f:Array Value→Array Value} {t':Nat} (I:Inv X pins σ H s) (hH:H l=some (.lst xs))
    (e:s.heap.get? l=some { cls:=.type "list",data:=.seq its.toArray n }) (hf:f its.toArray=its'.toArray) (hv:Vals ys its') (hz:ys.length≤sizeLine) :
    Inv X pins σ (upd H l (.lst ys)) { s with heap:=s.heap.update l (Obj.mapSeq f),toks:=t' }:=by
  have q:=PySem.IsL.update e f
  rw [hf] at q
  refine I.write (x:=l) (e:=l) (by rw [hH]; exact trivial) (.inl rfl) (fun b' u hb hu=>(Heap.get?_update_other s.heap (Obj.mapSeq f) (Ne.symm hb)).trans hu) ⟨_,q⟩ ?_
  exact ⟨hz,its',_,hv,q⟩
theorem Inv.lnew {its:List Value} {t':Nat} (I:Inv X pins σ H s) (hv:Vals ys its) (hz:ys.length≤sizeLine) :
    Inv X pins σ (upd H s.heap.objs.size (.lst ys)) { s with heap:=s.heap.push { cls:=.type "list",data:=.seq its.toArray },toks:=t' } :=
  I.laid (fun _ _ q=>Heap.get?_push_of_some _ q) (Nat.le_refl _) ⟨hz,its,0,hv,Heap.get?_push_size _ rfl⟩
theorem Inv.fresh (I:Inv X pins σ H s):H s.heap.objs.size=none:=I.hok.fresh (Nat.le_refl _)
theorem Inv.lstM (I:Inv X pins σ H s) (hH:H l=some (.lst xs)):xs.length≤sizeLine∧∃ (its:List Value) (n:Nat),Vals xs its∧xs.length=its.length∧s.heap.get? l=some { cls:=.type "list",data:=.seq its.toArray n }:=by
  obtain ⟨z,its,n,r,e⟩:=I.hok l _ hH
  exact ⟨z,its,n,r,r.length,e⟩
theorem CV {n:Nat} (h:n≤sizeLine):Builtin.List.listTooLong n=false:=by
  unfold Builtin.List.listTooLong
  exact decide_eq_false (by omega)
end
section
variable {X:Cx}
noncomputable def Es:V→List V→Hp→VK→Prop:=fun x vs H Q=>∃ l xs y,x=.ref l∧vs=[y]∧H l=some (.lst xs)∧xs.length < sizeLine∧Q .non (upd H l (.lst (xs++[y])))
theorem oF:MtM X "list.append" Es:=by
  intro pins s σ H x vs v us Q I rx rv h
  obtain ⟨l,xs,y,rfl,rfl,hH,hz,q⟩:=h
  cases rx
  obtain ⟨u,rfl,ru⟩:=rv.one
  obtain ⟨z,its,n,r,hl,e⟩:=I.lstM hH
  refine call_meets F.slot_list_append ⟨_,e,rfl⟩ F.entry_list_append (F.args_list_append_2 _ _) (PySem.list_append l its.toArray n u (by rw [List.size_toArray]; omega)) ⟨e,?_⟩
  refine ⟨.non,_,I.lset (its':=its++[u]) hH e (by simp) (r.append (.cons ru .nil)) ?_,rfl,q⟩
  rw [List.length_append,List.length_singleton]
  omega
noncomputable def FV:V→List V→Hp→VK→Prop:=fun x vs H Q=>∃ l xs i k y,x=.ref l∧vs=[.int i]∧H l=some (.lst xs)∧-(2 ^ 63)≤i∧i < 2 ^ 63∧seqIndex? i xs.length=some k∧xs[k]?=some y∧Q y (upd H l (.lst (xs.eraseIdx k)))
theorem Ct:MtM X "list.pop" FV:=by
  intro pins s σ H x vs v us Q I rx rv h
  obtain ⟨l,xs,i,k,y,rfl,rfl,hH,h1,h2,hk,hy,q⟩:=h
  cases rx
  obtain ⟨u,rfl,ru⟩:=rv.one
  obtain ⟨t,rfl⟩:=ru
  obtain ⟨z,its,n,r,hl,e⟩:=I.lstM hH
  obtain ⟨w,hw,rw'⟩:=r.get hy
  refine call_meets F.slot_list_pop ⟨_,e,rfl⟩ F.entry_list_pop (F.args_list_pop_2 _ _)
    (MeetsSeq.list_pop_at l its.toArray n i t k w (fitsIndex_both h1 h2) (by rw [List.size_toArray,← hl]; exact hk) (by rw [← Array.getElem?_toList]; exact hw) (by rw [List.size_toArray]; omega)) ⟨e,?_⟩
  refine ⟨y,_,I.lset (its':=its.eraseIdx k) hH e ?_ (r.eraseIdx k) ?_,rw',q⟩
  · show its.toArray.eraseIdxIfInBounds k=(its.eraseIdx k).toArray
    rw [List.eraseIdxIfInBounds_toArray]
  · have:=uv xs k
    omega
noncomputable def Hh:R2:=fun x y H Q=>∃ l b xs zs,x=.ref l∧y=.ref b∧H l=some (.lst xs)∧H b=some (.lst zs)∧xs.length + zs.length≤sizeLine∧∀ p,H p=none→Q (.ref p) (upd H p (.lst (xs++zs)))
theorem GG:OpR X (binaryOp .Add) Hh:=by
  intro pins s σ H x y v u Q I rx ry h
  obtain ⟨l,b,xs,zs,rfl,rfl,hH,hB,hz,q⟩:=h
  cases rx
  cases ry
  obtain ⟨z,its,n,r,hl,e⟩:=I.lstM hH
  obtain ⟨z2,its2,n2,r2,hl2,e2⟩:=I.lstM hB
  refine PySem.P.add_list e e2 ?_ (by rw [List.size_toArray,List.size_toArray]; omega)
  have ea:its.toArray++its2.toArray=(its++its2).toArray:=by simp
  rw [ea]
  exact ⟨.ref _,_,I.lnew (t':=s.toks) (r.append r2) (by rw [List.length_append]; omega),rfl,q _ I.fresh⟩
noncomputable def Ho:R2:=fun x y H Q=>∃ l k xs,x=.ref l∧y=.int k∧H l=some (.lst xs)∧-(2 ^ 63)≤k∧k < 2 ^ 63∧xs.length * k.toNat≤sizeLine ∧
  ∀ p,H p=none→Q (.ref p) (upd H p (.lst (List.replicate k.toNat xs).flatten))
theorem len_rep {α:Type} (xs:List α) (k:Nat):(List.replicate k xs).flatten.length=k * xs.length:=by
  induction k with
  | zero=>simp
  | succ k ih=>rw [List.replicate_succ,List.flatten_cons,List.length_append,ih,Nat.succ_mul,Nat.add_comm]
theorem F9:OpR X (binaryOp .Mult) Ho:=by
  intro pins s σ H x y v u Q I rx ry h
  obtain ⟨l,k,xs,rfl,rfl,hH,h1,h2,hz,q⟩:=h
  cases rx
  obtain ⟨t,rfl⟩:=ry
  obtain ⟨z,its,n,r,hl,e⟩:=I.lstM hH
  have hlen:its.toArray.size * k.toNat≤sizeLine:=by rw [List.size_toArray,← hl]; exact hz
  have hcap:¬ its.toArray.size * k.toNat > (2 ^ 63 - 1) / 8:=by
    have:(sizeLine:Nat)≤(2 ^ 63 - 1) / 8:=by decide
    omega
  have hfit:¬ (!Builtin.List.listFitsIndex k)=true:=by
    rw [fitsIndex_both h1 h2]
    exact Bool.false_ne_true
  have hlong:¬ Builtin.List.listTooLong (its.toArray.size * k.toNat)=true:=by
    rw [CV hlen]
    exact Bool.false_ne_true
  have hnew:List.foldl (fun x1 x2=>x1++x2) #[] (List.replicate (if its.toArray.isEmpty=true then 0 else k.toNat) its.toArray)=(List.replicate k.toNat its).flatten.toArray:=by
    have f0:∀ m:Nat,List.foldl (fun x1 x2=>x1++x2) #[] (List.replicate m its.toArray)=(List.replicate m its).flatten.toArray:=fun m=>by
      have:=foldl_rep its m []
      rw [List.nil_append] at this
      exact this
    rw [f0]
    cases its with
    | nil=>simp
    | cons a r'=>rw [if_neg (by simp)]
  refine wpAny_binaryOp_repeat_ref (T:="list") (U:="int") (by decide) ⟨_,e,rfl⟩ (fun s'=>typeIs_int s' k t) noFill_list_mul F.fills_int_mul F.slot_int_rmul repeat_list F.slot_int_index.lookup
    (call_meets F.slot_int_rmul (typeIs_int s k t) F.entry_int_rmul (F.args_int_rmul_2 _ _) (int___rmul___int_list k t l its.toArray n)
      ⟨e,rfl,⟨_,e,rfl⟩,call_meets F.slot_list_mul ⟨_,e,rfl⟩ F.entry_list_mul (F.args_list_mul_2 _ _) (AutoListH.list___mul___list_int_3 l its.toArray n k t hfit hcap hlong) ⟨e,?_⟩⟩)
  rw [hnew]
  exact ⟨.ref _,_,I.lnew (t':=s.toks) (r.rep k.toNat) (by rw [len_rep,Nat.mul_comm]; exact hz),rfl,q _ I.fresh⟩
end
section
variable {prog:Program} {w:World} {A:Around} {E:Value→Shared→Prop} {s:Shared}
end
section
variable {X:Cx}
end
end L2
namespace Att
open PySem PySem.W PySem.Calls PyProof.Rows
theorem p7 {P:Params} {h:Heap}:∀ (ns:List Int) (vs:List Value),WellAll P h vs (ns.map WData.int)→IntsAre vs ns:=by
  intro ns
  induction ns with
  | nil =>
    intro vs w
    rw [List.map_nil] at w
    cases w
    exact .nil
  | cons n ns ih =>
    intro vs w
    rw [List.map_cons] at w
    cases w with
    | cons a b =>
      cases a
      exact .cons _ _ (ih _ b)
theorem Ao {l:OpenLaw} {n:Nat} (hn:l.most=some n) {P:Params} {h:Heap} {args:List WData} {vals:List Value}
    (hpre:l.row.toRowW.claim.pre args=true) (hwl:WellAll P h vals args) :
    ∃ a vs ns,vals=[Value.ref a]∧args=[WData.list (ns.map WData.int)]∧h.get? a=some { cls:=.type "list",data:=.seq vs.toArray }∧IntsAre vs ns∧ns.length≤n:=by
  have hsh:WShape.hasAll [] args [.list .int]=true:=(pre_splitW hpre).1
  have hc:l.pre.holds [] { args:=args }=true:=(pre_splitW hpre).2
  obtain ⟨d,r,rfl,h1,h2⟩:=hasAllW_cons hsh
  obtain rfl:=hasAllW_nil h2
  obtain ⟨xs,rfl,h3⟩:=hasW_list h1
  obtain ⟨ns,rfl⟩:=items_int h3
  have hlen:ns.length≤n:=by
    unfold OpenLaw.pre at hc
    have h4:(WTm.not (.lt (.lit (.int (n:Int))) (.len (.arg 0)))).holds [] { args:=[.list (ns.map .int)] }=true:=by
      have h4:=(holds_andW hc).1
      rw [hn] at h4
      exact h4
    have h5:=condW_of h4 (w_not (w_lt w_lit (w_len_list (w_arg rfl))))
    rw [List.length_map] at h5
    refine Nat.le_of_not_lt fun q=>?_
    have q':(n:Int) < ((ns.length:Nat):Int):=by omega
    first
      | (rw [decide_eq_true q'] at h5; exact absurd h5 (by decide))
      | (simp at h5; omega)
  cases hwl with
  | cons w1 w2 =>
    cases w2
    cases w1 with
    | list ho hall=>exact ⟨_,_,ns,rfl,rfl,ho,p7 ns _ hall,hlen⟩
theorem A3 (l:OpenLaw) (args:List WData):l.row.toRowW.claim.post args (.bool true) args=true :=
  postW_of (r:=l.row.toRowW) (X:=(true == true))
    (show WShape.has [] (.bool true) .bool=true by first | rfl | decide | simp [WShape.has,WShape.arms,WShape.armsAll])
    (show (WTm.eq .res (.lit (.bool true))).value [] { args:=args,res:=some (.bool true),after:=args }=some (.bool (true == true)) from w_eq_bool (w_res rfl) w_lit) rfl
theorem v9 {l:OpenLaw} {n:Nat} {q:Program} {loose:List Str} {XP:(Str→Option Value)→Heap→Prop} {YP:World→Heap→Prop} {d:DefRec}
    (hn:l.most=some n) (hdf:d.params.defaults=[])
    (call:∀ (w:World) (s₀ s₁:Shared) (mg mb:Str→Option Value) (fa:Addr) (o:Obj) (pm cd doc:Value) (a:Addr) (vs:List Value) (ns:List Int),
      Ground q loose [] XP w s₀ mg mb s₁.heap→YP w s₁.heap →
      s₁.heap.get? fa=some o→o.data=.func (docDef d.name d.params d.body d.scope pm cd doc)→s₁.heap.CodeRec cd d.name→mg d.name=some (.ref fa) →
      s₁.heap.get? a=some { cls:=.type "list",data:=.seq vs.toArray }→IntsAre vs ns→ns.length≤n→s₁.gens=#[] →
      codeAny (model l.prog w) callerA (.call (.ref fa) ⟨[.ref a],[]⟩) (fun r s'=>r=.ok (.ret (.bool true))∧OldK s₁.heap s'.heap∧s'.os=s₁.os∧AllBare s'.gens) s₁) :
    WalkO q loose XP YP l.row.toRowW d [] (fun f vs=>PySem.call f vs):=by
  intro w s₀ s₁ mg mb G Y fa o pm cd doc dV kV ho hd hcd hD hmg hg args vals as hpre hlay hrd hwl hlo
  obtain rfl:dV=.none:=Dflts.none hD hdf
  obtain rfl:kV=.none:=Dflts.noKw hD
  obtain ⟨a,vs,ns,rfl,rfl,hobj,hints,hlen⟩:=Ao hn hpre hwl
  refine enter_call (codeAny_mono (call w s₀ s₁ mg mb fa o pm cd doc a vs ns G Y ho (fd_plain hd) hcd hmg hobj hints hlen hg) fun r s' hq=>?_)
  obtain ⟨rfl,h2,h3,h4⟩:=hq
  exact ⟨.inl ⟨.bool true,.bool true,[],rfl,fun _=>rfl,.bool true,A3 l _,fun _=>⟨List.Pairwise.nil,fun _ hm=>(nomatch hm)⟩⟩,h2,h3,h4⟩
section
variable {prog:Program} {w:World} {A:Around} {E:Value→Shared→Prop} {s:Shared} {K:Frag}
end
end Att
namespace L2
open PySem PySem.Spec PyProof.Rows
theorem tZ:∀ {vs:List Value} {ns:List Int},IntsAre vs ns→Vals (ns.map V.int) vs
  | _,_,.nil=>.nil
  | _,_,.cons n t h=>.cons ⟨t,rfl⟩ (tZ h)
noncomputable def E7 (H:Hp):Prop:=∀ b,H b=none∨(∃ o xs,H b=some (.frz o (.lst xs)))∨∃ q,H b=some (.tbl q)
noncomputable def qw (K:PySem.W.Frag) (h:Heap):Prop:=(∀ P q,TabOf K P q→h.get? P=some { cls:=.none,data:=.fields #[] }∧K.lookup P=none∧isCodeTable h P)∧∀ P q q',TabOf K P q→TabOf K P q'→q=q'
section
open Classical
noncomputable def mI (K:PySem.W.Frag):Hp:=fun b=>if h:∃ q,TabOf K b q then some (.tbl h.choose) else none
theorem d7 (K:PySem.W.Frag) (b:Addr):mI K b=none∨∃ q,TabOf K b q∧mI K b=some (.tbl q):=by
  unfold mI
  split
  · rename_i h; exact .inr ⟨_,h.choose_spec,rfl⟩
  · exact .inl rfl
theorem tU {K:PySem.W.Frag} {h:Heap} (hT:qw K h) {P:Addr} {q:Str} (t:TabOf K P q):mI K P=some (.tbl q):=by
  rcases d7 K P with e | ⟨q',t',e⟩
  · unfold mI at e
    rw [dif_pos ⟨q,t⟩] at e; cases e
  · rw [e,hT.2 P q q' t t']
end
theorem law_call {P:Program} {w:World} {K:PySem.W.Frag} {mg mb:Str→Option Value} {CX:CXT} {k:Nat} {fa a:Addr} {fd:FuncData} {x:Str} {sp:Sp} {s₁:Shared} {vs:List Value} {ns:List Int}
    (KX:K.In s₁.heap) (hns:s₁.heap.Ns mainGlobals mg) (hb:s₁.heap.Ns builtinsNs mb) (hbb:∀ x:Str,x≠"__name__"→mb x=bootBuiltins x) (hlim:s₁.heap.NoLimit) (hg:s₁.gens=#[])
    (ha:s₁.heap.get? a=some { cls:=.type "list",data:=.seq vs.toArray }) (hi:IntsAre vs ns) (hl:ns.length≤sizeLine) (hr:fJ k callerA)
    (F:∀ base:Heap,K.In base→base.Ns mainGlobals mg→kr P w K mg base CX k fa fd [x] sp) (hbind:∀ (s:Shared) (u:Value),BindsTo s fd ⟨[u],[]⟩ [(x,u)])
    (hsp:∀ H:Hp,E7 H→SqL K H a (ns.map V.int)→sp [.ref a] H (fun v _=>v=.bl true) fun _ _ _=>False)
    (hCX:∀ H e s',CX [] H s₁ (fun _ _ _=>False) e s'→False) (hT:qw K s₁.heap) :
    codeAny (model P w) callerA (.call (.ref fa) ⟨[.ref a],[]⟩) (fun r s'=>r=.ok (.ret (.bool true))∧OldK s₁.heap s'.heap∧s'.os=s₁.os∧AllBare s'.gens) s₁:=by
  have rv:=tZ hi
  have lenV:=hi.length
  -- from an abstract heap in which nothing but the script may be tracked
  have core:∀ H:Hp,E7 H→SqL K H a (ns.map V.int)→HOk P w H s₁.heap→(∀ b,H b≠none→b=a∨∃ q,TabOf K b q)→(H a≠none→K.lookup a=none)→(∀ P q,TabOf K P q→H P=some (.tbl q)) →
      codeAny (model P w) callerA (.call (.ref fa) ⟨[.ref a],[]⟩) (fun r s'=>r=.ok (.ret (.bool true))∧OldK s₁.heap s'.heap∧s'.os=s₁.os∧AllBare s'.gens) s₁:=by
    intro H hO hS hok hA hK hTb
    have base_of:∀ {b:Addr} {o:Obj},s₁.heap.get? b=some o→H b=none→(vt s₁.heap H).get? b=some o:=fun e n=>CM e n
    have noA:∀ {b:Addr} {o:Obj} {es:Array DictEntry} {ep:Nat},s₁.heap.get? b=some o→o.data=.dict es ep→H b=none:=fun {b o es ep} e d=>by
      cases q:H b with
      | none=>rfl
      | some u =>
        rcases hA b (by rw [q]; simp) with e' | ⟨qq,e'⟩
        case inr=>rw [(hT.1 b qq e').1] at e; cases e; cases d
        subst e'
        rw [ha] at e; cases e
        have d':Data.seq vs.toArray _=Data.dict es ep:=d
        cases d'
    have nsK:∀ {b:Addr} {m:Str→Option Value},s₁.heap.Ns b m→(vt s₁.heap H).Ns b m:=fun {b m} qz2=>(by obtain ⟨o,es,ep,e,d,r⟩:=qz2; exact ⟨o,es,ep,base_of e (noA e d),d,r⟩)
    have hKb:K.In (vt s₁.heap H):=fun b o e=>base_of (KX b o e) (by
      cases q:H b with
      | none=>rfl
      | some u =>
        rcases hA b (by rw [q]; simp) with e' | ⟨qq,e'⟩
        case inr=>rw [(hT.1 b qq e').2.1] at e; cases e
        subst e'
        rw [hK (by rw [q]; simp)] at e; cases e)
    have hM:Mod K mg (vt s₁.heap H):=⟨hKb,nsK hns,⟨mb,nsK hb,hbb⟩,let ⟨mc,h1,h2⟩:=hlim; ⟨mc,nsK h1,h2⟩⟩
    have e0:ym P w K mg (vt s₁.heap H) callerA [] s₁ H:=⟨rfl,hM,fun b o e=>D1 e,Nat.le_of_eq (AE _ _),trivial,fun b hb=>absurd (show b∈([]:List Addr) from hb) (by simp),hok,.of_eq hg,hTb⟩
    refine codeAny_mono ((F _ hKb (nsK hns)).run callerA [] s₁ H ⟨[.ref a],[]⟩ [.ref a] [.ref a] _ _ hr e0 (hbind s₁ (.ref a)) (.cons rfl .nil) (hsp H hO hS)) fun r s' h=>?_
    cases r with
    | error e=>exact (hCX H e s' h).elim
    | ok fl =>
      cases fl with
      | next=>exact False.elim h
      | brk=>exact False.elim h
      | cont=>exact False.elim h
      | ret u =>
        obtain ⟨v,H',os,bare,un,hok',r',q⟩:=h
        have q':v=.bl true:=q
        subst q'
        obtain rfl:u=Value.bool true:=r'
        have old:∀ b o,s₁.heap.get? b=some o→s'.heap.get? b=some o∨(isCodeTable s₁.heap b∧o.cls=.none∧∃ vs more,o.data=.fields vs∧s'.heap.get? b=some { o with data:=.fields (vs++more) }):=fun b o e=>?old
        case old =>
         cases q:H b with
         | none=>exact .inl <| un.keep b o e q (by intro z; exact absurd (show b∈([]:List Addr) from z) (by simp)) (by simp)
         | some u =>
          rcases hO b with z | ⟨ob,xs,z⟩ | ⟨qq,z⟩
          · rw [q] at z; cases z
          · have z2:=un.frzs b ob _ z
            obtain ⟨e1,_⟩:=hok b _ z
            obtain ⟨e2,_⟩:=hok' b _ z2
            rw [e] at e1; cases e1
            exact .inl e2
          · have z2:=un.tbls b qq z
            obtain ⟨ps,e2,_⟩:=hok' b _ z2
            rcases hA b (by rw [z]; simp) with e' | ⟨q2,e'⟩
            · obtain ⟨ps0,e3,_⟩:=hok b _ z
              rw [e'] at e3; rw [ha] at e3; cases e3
            · obtain ⟨e3,_,e4⟩:=hT.1 b q2 e'
              rw [e] at e3; cases e3
              exact .inr ⟨e4,rfl,#[],ps,rfl,by simpa using e2⟩
        exact ⟨rfl,⟨fun b o e=>(old b o e).imp id fun z=>.inl z,fun b o e=>by rcases old b o e with z | ⟨_,_,_,_,_,z⟩ <;> exact ⟨_,z⟩⟩,os,bare⟩
  have tok:∀ b q,TabOf K b q→fP P w (fun _=>none) s₁.heap b (.tbl q):=fun b q t=>⟨#[],(hT.1 b q t).1,trivial,fun pos cv z=>nomatch z⟩
  have tokH:∀ (H:Hp) b q,TabOf K b q→fP P w H s₁.heap b (.tbl q):=fun H b q t=>⟨#[],(hT.1 b q t).1,trivial,fun pos cv z=>nomatch z⟩
  have na:∀ q,¬ TabOf K a q:=fun q t=>by have:=(hT.1 a q t).1; rw [ha] at this; cases this
  cases hk:K.lookup a with
  | some o =>
    have e:=KX a o hk
    rw [ha] at e
    cases e
    refine core (mI K) (fun b=>(d7 K b).imp id fun qz0=>(by obtain ⟨q,_,e⟩:=qz0; exact .inr ⟨q,e⟩)) (.inr ⟨_,vs.toArray,_,hk,rfl,rfl,rfl,by rw [List.size_toArray,lenV]; exact hl,by simpa using rv⟩) (fun b u z=>?_) (fun b z=>?_) (fun z=>?_) fun P q t=>tU hT t
    · rcases d7 K b with e | ⟨q,t,e⟩
      · rw [z] at e; cases e
      · rw [z] at e; cases e; exact tokH _ b q t
    · rcases d7 K b with e | ⟨q,t,e⟩
      · exact absurd e z
      · exact .inr ⟨q,t⟩
    · rcases d7 K a with e | ⟨q,t,e⟩
      · exact absurd e z
      · exact absurd t (na q)
  | none =>
    have eT:∀ b,b≠a→(fun b=>if b=a then some (HO.frz { cls:=.type "list",data:=.seq vs.toArray } (.lst (ns.map V.int))) else mI K b) b=mI K b:=fun b h=>if_neg h
    have eA:(fun b=>if b=a then some (HO.frz { cls:=.type "list",data:=.seq vs.toArray } (.lst (ns.map V.int))) else mI K b) a=some (HO.frz { cls:=.type "list",data:=.seq vs.toArray } (.lst (ns.map V.int))):=if_pos rfl
    refine core (fun b=>if b=a then some (.frz { cls:=.type "list",data:=.seq vs.toArray } (.lst (ns.map V.int))) else mI K b) (fun b=>?_) (.inl (.inr ⟨{ cls:=.type "list",data:=.seq vs.toArray },if_pos rfl⟩)) (fun b u z=>?_) (fun b z=>?_) (fun _=>hk) fun P q t=>?_
    · by_cases hb:b=a
      · exact .inr (.inl ⟨_,_,if_pos hb⟩)
      · rw [eT b hb]; exact (d7 K b).imp id fun qz0=>(by obtain ⟨q,_,e⟩:=qz0; exact .inr ⟨q,e⟩)
    · by_cases hb:b=a
      · subst hb
        rw [eA] at z; cases z
        exact ⟨ha,by rw [List.length_map]; exact hl,vs,_,rv,ha⟩
      · rw [eT b hb] at z
        rcases d7 K b with e | ⟨q,t,e⟩
        · rw [z] at e; cases e
        · rw [z] at e; cases e; exact tokH _ b q t
    · by_cases hb:b=a
      · exact .inl hb
      · rcases d7 K b with e | ⟨q,t,e⟩
        · exact absurd ((if_neg hb).trans e) z
        · exact .inr ⟨q,t⟩
    · exact (if_neg (fun z=>na q (by rw [← z]; exact t))).trans (tU hT t)
end L2
namespace L2
open PySem PySem.Spec PyProof.Rows
noncomputable abbrev KOf {K:PySem.W.Frag} {h:Heap} (_:K.In h):PySem.W.Frag:=K
theorem zA {l:PySem.W.OpenLaw} {n k:Nat} {q:Program} {loose:List Str} {XP:(Str→Option Value)→Heap→Prop} {YP:World→Heap→Prop} {d:DefRec} {K:Params→PySem.W.Frag} {CX:World→CXT} {sp:World→Sp} {x:Str}
    (hn:l.most=some n) (hn2:n≤sizeLine) (hdf:d.params.defaults=[]) (hr:fJ k callerA)
    (hY:∀ (w:World) (h:Heap),YP w h→(K w.params).In h)
    (F:∀ (w:World) (mg:Str→Option Value) (fa:Addr) (h:Heap),(K w.params).In h→h.Ns mainGlobals mg→mg d.name=some (.ref fa) →
      ∃ fd:FuncData,(∀ (s:Shared) (u:Value),BindsTo s fd ⟨[u],[]⟩ [(x,u)]) ∧
        ∀ base:Heap,(K w.params).In base→base.Ns mainGlobals mg→kr l.prog w (K w.params) mg base (CX w) k fa fd [x] (sp w))
    (hsp:∀ (w:World) (H:Hp) (a:Addr) (ns:List Int),ns.length≤n→E7 H→SqL (K w.params) H a (ns.map V.int)→sp w [.ref a] H (fun v _=>v=.bl true) fun _ _ _=>False)
    (hCX:∀ (w:World) (H:Hp) (s:Shared) (e:Value) (s':Shared),CX w [] H s (fun _ _ _=>False) e s'→False) (hTb:∀ (w:World) (h:Heap) (loose':List Str) (mean:ExcName→Option Value) (mg mb:Str→Option Value),PyProof.Rows.Top q loose' mean mg mb h→(K w.params).In h→qw (K w.params) h) :
    PySem.W.WalkO q loose XP YP l.row.toRowW d [] (fun f vs=>PySem.call f vs):=by
  refine Att.v9 hn hdf fun w s₀ s₁ mg mb fa o pm cd doc a vs ns G Y ho hd hcd hmg hobj hints hlen hg=>?_
  have KX:=hY w _ Y
  obtain ⟨fd,hb,hF⟩:=F w mg fa _ KX G.T.g hmg
  exact law_call KX G.T.g G.T.b G.T.builtins G.T.nolimit hg hobj hints (Nat.le_trans hlen hn2) hr hF hb (fun H hO hS=>hsp w H a ns hlen hO hS) (fun H e s'=>hCX w H s₁ e s') (hTb w _ _ _ _ _ G.T KX)
end L2
namespace L2
open PySem PySem.Spec PyProof.Rows
noncomputable def inClass (s:Stmt) (j:Nat):Stmt:=match s with
  | .ClassDef _ _ _ body _ _ _ _ _ _ _=>body.getD j (.Pass ⟨0,0,0,0⟩)
  | _=>.Pass ⟨0,0,0,0⟩
noncomputable def iL (s:Stmt):Arguments:=match s with
  | .FunctionDef _ a _ _ _ _ _ _ _ _=>a
  | _=>{ posonlyargs:=[],args:=[],vararg:=none,kwonlyargs:=[],kw_defaults:=[],kwarg:=none,defaults:=[] }
noncomputable def fi (s:Stmt):List Stmt:=match s with
  | .FunctionDef _ _ b _ _ _ _ _ _ _=>b
  | _=>[]
noncomputable def aG (s:Stmt):Scope:=match s with
  | .FunctionDef _ _ _ _ _ _ sc _ _ _=>sc
  | _=>{ kind:=.function,names:=[],isGenerator:=false,isCoroutine:=false }
noncomputable abbrev CX0:CXT:=fun _ _ _ _ _ _=>False
noncomputable abbrev E0:XK:=fun _ _ _=>False
theorem G6 {X:Cx}:Passes CX0 X E0:=fun _ _ _ _ _ _ _ h=>h.elim
structure Fun (K:PySem.W.Frag) (x qual:Str) (st:Stmt) (f:Addr) (fd:FuncData):Prop where
  ex:∃ (oc:Value) (od:Option Addr) (kV doc pm:Value) (an:Option Addr) (cdv ct:Value) (osl:Array (Option Value)),
    fd=PySem.W.fnOf x qual (iL st) (fi st) (aG st) .none kV doc pm an cdv ct∧K.lookup f=some ⟨oc,od,.func fd,osl⟩∧PySem.W.codeIn K cdv qual=true
  kp:PySem.W.keepIn K (.ref f)=true
section
variable {P:Program} {w:World} {K:PySem.W.Frag} {mg:Str→Option Value} {base:Heap}
theorem Fun.ok {x qual:Str} {st:Stmt} {f:Addr} {fd:FuncData} {N ps:List Str} {k:Nat} {sp:Sp} (F:Fun K x qual st f fd) (S:a8 N ps (aG st)) (len:∀ vs H Q E,sp vs H Q E→vs.length=ps.length)
    (hbody:∀ (cdv:Value) (A:Around) (outer:List Env) (s:Shared) (H:Hp) (vs:List V) (Q:VK) (E:XK),fJ k (A.deeper (envOfC qual (aG st) s.heap.objs.size f cdv))→sp vs H Q E →
      ∃ t,PSs (jY CX0 P w K mg base N qual (aG st) f cdv A outer s H E).nox (fi st) t∧t { nx:=fun _ H'=>Q .non H',rt:=Q } (start N vs) H):kr P w K mg base CX0 (k + 1) f fd ps sp:=by
  obtain ⟨oc,od,kV,doc,pm,an,cdv,ct,osl,rfl,lk,hcd⟩:=F.ex
  refine EV lk hcd S len fun A outer s H vs Q E hr hsp=>?_
  obtain ⟨t,h,q⟩:=hbody cdv A outer s H vs Q E hr hsp
  exact ⟨t,h.nox,q⟩
theorem Fun.binds {x qual:Str} {st:Stmt} {f:Addr} {fd:FuncData} {ps:List Str} (F:Fun K x qual st f fd)
    (h:∀ (kV doc pm:Value) (an:Option Addr) (cdv ct:Value) (us:List Value),us.length=ps.length→bindArgs (PySem.W.fnOf x qual (iL st) (fi st) (aG st) .none kV doc pm an cdv ct) ⟨us,[]⟩=pure (ps.zip us)):Binds K fd ps []:=by
  obtain ⟨oc,od,kV,doc,pm,an,cdv,ct,osl,rfl,lk,hcd⟩:=F.ex
  exact .all (h kV doc pm an cdv ct)
theorem CI {x qual:Str} {st:Stmt} {f:Addr} {oc:Value} {od an:Option Addr} {osl:Array (Option Value)} {kV doc pm cdv ct:Value} (l:K.lookup f=some ⟨oc,od,.func (PySem.W.fnOf x qual (iL st) (fi st) (aG st) .none kV doc pm an cdv ct),osl⟩)
    (c:PySem.W.codeIn K cdv qual=true) (k:PySem.W.keepIn K (.ref f)=true):Fun K x qual st f (PySem.W.fnOf x qual (iL st) (fi st) (aG st) .none kV doc pm an cdv ct):=⟨⟨oc,od,kV,doc,pm,an,cdv,ct,osl,rfl,l,c⟩,k⟩
end
section
variable {X:Cx}
theorem pv (i:Nat) {x:Str} {pos:Pos} (hN:X.N[i]?=some x:=by rfl) (hv:Vis X.env.scope x:=by first | exact Or.inl rfl | exact Or.inr (Or.inl rfl) | exact Or.inr (Or.inr rfl)) (hd:(x == ("__debug__":Str))=false:=by decide)
    (hcd:(x == ("__classdict__":Str))=false:=by decide):PE X (.Name x pos) (Hx i):=oP hN hv hd hcd
end
theorem Hr {c A B:Prop} [Decidable c] (h1:c→A) (h2:¬ c→B):if c then A else B:=by
  by_cases h:c
  · rw [if_pos h]
    exact h1 h
  · rw [if_neg h]
    exact h2 h
noncomputable def aT (H H':Hp):Prop:=∀ b o,H b=some o→H' b=some o
theorem aT.refl (H:Hp):aT H H:=fun _ _ h=>h
theorem aT.trans {H H1 H2:Hp} (a:aT H H1) (b:aT H1 H2):aT H H2:=fun c o h=>b c o (a c o h)
theorem aT.free {H H':Hp} (e:aT H H') {l:Addr} (h:H' l=Option.none):H l=Option.none:=by
  cases q:H l with
  | none=>rfl
  | some o =>
    rw [e l o q] at h
    cases h
theorem aT.seq {K:PySem.W.Frag} {H H':Hp} {a:Addr} {xs:List V} (e:aT H H') (h:SqL K H a xs):SqL K H' a xs:=by
  rcases h with (h | ⟨o,h⟩) | h
  · exact .inl (.inl (e _ _ h))
  · exact .inl (.inr ⟨o,e _ _ h⟩)
  · exact .inr h
end L2
set_option maxRecDepth 100000
set_option maxHeartbeats 4000000
namespace L2
open PySem PySem.Spec PyProof.Rows
noncomputable def pY:List (Str × NameKind)→List (Str × Addr)→List (Str × Addr)→List (Str × Addr)
  | [],_,acc=>acc
  | (n,k)::r,cells,acc=>pY r cells (if k == .free then (match cells.lookup n with | some c=>(n,c)::acc | none=>acc) else acc)
theorem kD (env:Env):∀ (names:List (Str × NameKind)) (acc:List (Str × Addr)),(∀ y∈names,y.2=.free→∃ c,env.cells.lookup y.1=some c) →
    (forIn names acc (fun (x:Str × NameKind) (cs:List (Str × Addr))=>match x with
      | (name,kind)=>if (kind == NameKind.free)=true then do let c ← cellOf env name; pure (ForInStep.yield ((name,c)::cs)) else pure (ForInStep.yield cs)):Sem (List (Str × Addr)))=pure (pY names env.cells acc)
  | [],acc,_=>rfl
  | (n,k)::r,acc,h=>by
    rw [List.forIn_cons]
    have hr:∀ y∈r,y.2=.free→∃ c,env.cells.lookup y.1=some c:=fun y hy=>h y (List.mem_cons_of_mem _ hy)
    dsimp only [pY]
    by_cases hk:k=.free
    · subst hk
      obtain ⟨c,hc⟩:=h (n,.free) List.mem_cons_self rfl
      have hc':env.cells.lookup n=some c:=hc
      have e:cellOf env n=pure c:=by unfold cellOf; rw [hc']
      rw [if_pos (show (NameKind.free == NameKind.free)=true by decide),if_pos (show (NameKind.free == NameKind.free)=true by decide),e,hc']
      exact kD env r ((n,c)::acc) hr
    · have hb:¬ (k == NameKind.free)=true:=by simpa using hk
      rw [if_neg hb,if_neg hb]
      exact kD env r acc hr
theorem qe {scope:Scope} {env:Env} (h:∀ y∈scope.names,y.2=.free→∃ c,env.cells.lookup y.1=some c):closureFor scope env=pure (pY scope.names env.cells []):=by
  have e:=kD env scope.names [] h
  unfold closureFor
  rw [← bind_pure (forIn scope.names [] _)] at e
  exact e
theorem w5:∀ (names:List (Str × NameKind)) (cells acc:List (Str × Addr)) (x:Str) (c:Addr),(∀ x c,acc.lookup x=some c→cells.lookup x=some c)→(pY names cells acc).lookup x=some c→cells.lookup x=some c
  | [],_,_,x,c,h,e=>h x c e
  | (n,k)::r,cells,acc,x,c,h,e=>by
    refine w5 r cells _ x c (fun y d hy=>?_) e
    split at hy
    · split at hy
      · rename_i c' hc'
        rw [List.lookup_cons] at hy
        by_cases hyn:(y == n)=true
        · rw [hyn] at hy
          have hy':y=n:=eq_of_beq hyn
          subst hy'
          cases hy
          exact hc'
        · have:(y == n)=false:=by simpa using hyn
          rw [this] at hy
          exact h y d hy
      · exact h y d hy
    · exact h y d hy
theorem tO:∀ (names:List (Str × NameKind)) (cells acc:List (Str × Addr)) (x:Str),(∃ c,acc.lookup x=some c)→∃ c,(pY names cells acc).lookup x=some c
  | [],_,_,_,h=>h
  | (n,k)::r,cells,acc,x,h=>by
    refine tO r cells _ x ?_
    split
    · split
      · rw [List.lookup_cons]
        cases (x == n)
        · exact h
        · exact ⟨_,rfl⟩
      · exact h
    · exact h
theorem r8:∀ (names:List (Str × NameKind)) (cells acc:List (Str × Addr)) (x:Str) (c:Addr),(x,NameKind.free)∈names→cells.lookup x=some c→∃ c,(pY names cells acc).lookup x=some c
  | [],_,_,_,_,h,_=>by simp at h
  | (n,k)::r,cells,acc,x,c,h,e=>by
    rcases List.mem_cons.mp h with h | h
    · injection h with h1 h2
      subst h1; subst h2
      refine tO r cells _ x ?_
      rw [if_pos (by decide),e]
      exact ⟨c,by simp [List.lookup_cons]⟩
    · exact r8 r cells _ x c h e
noncomputable def blk (X:Cx) (M:List Str) (scope:Scope) (own:List Str) (C:Addr) (s2:Shared) (H2:Hp) (fp:List Addr):Cx where
  prog:=X.prog
  w:=X.w
  K:=X.K
  mg:=X.mg
  base:=X.base
  A:=X.A
  N:=M++own
  s₀:=s2
  H₀:=H2
  env:=compEnvC scope (pY scope.names X.env.cells []) C X.env
  outer:=X.stack
  stack:=X.stack
  ex:=fp
  fn:=fun _=>false
  calm:=X.calm
  pn:=[]
  xe:=fun _ _=>False
structure lu (X:Cx) (M:List Str) (scope:Scope) (own:List Str):Prop where
  kind:scope.kind=.function
  nocell:∀ y∈scope.names,y.2≠.cell
  names:∀ y∈scope.names,y.2=.local→scope.names.lookup y.1=some .local
  free:∀ y∈scope.names,y.2=.free→Vis X.env.scope y.1∧X.env.scope.names.lookup y.1≠some .local
  own:∀ x∈own,scope.names.lookup x=some .local
  outer:∀ p∈X.N.zip M,(p.1=p.2∧scope.names.lookup p.2≠some .local)∨scope.names.lookup p.2=none
  len:M.length=X.N.length
noncomputable def rA (N M:List Str) (osc scope:Scope) (own:List Str):Bool :=
  (scope.kind == .function) && scope.names.all (fun y=>y.2 != .cell) && scope.names.all (fun y=>y.2 != .local || scope.names.lookup y.1 == some .local) &&
  scope.names.all (fun y=>y.2 != .free || (osc.names.lookup y.1 == some .cell || osc.names.lookup y.1 == some .free)) &&
  own.all (fun x=>scope.names.lookup x == some .local) && (N.zip M).all (fun p=>(p.1 == p.2 && scope.names.lookup p.2 != some .local) || scope.names.lookup p.2 == none) && (M.length == N.length)
theorem lu.of {X:Cx} {M:List Str} {scope:Scope} {own:List Str} (h:rA X.N M X.env.scope scope own=true):lu X M scope own:=by
  unfold rA at h
  simp only [Bool.and_eq_true,List.all_eq_true,Bool.or_eq_true,bne_iff_ne,beq_iff_eq,ne_eq] at h
  obtain ⟨⟨⟨⟨⟨⟨h1,h2⟩,h3⟩,h4⟩,h5⟩,h6⟩,h7⟩:=h
  refine ⟨h1,h2,fun y hy e=>(h3 y hy).resolve_left fun z=>z e,fun y hy e=>?_,h5,h6,h7⟩
  rcases (h4 y hy).resolve_left fun z=>z e with q | q
  · exact ⟨.inr (.inl q),by rw [q]; intro z; cases z⟩
  · exact ⟨.inr (.inr q),by rw [q]; intro z; cases z⟩
theorem fc {env:Env}:∀ {names:List (Str × NameKind)} {x:Str} {k:NameKind},
    (names.map fun (n,k)=>if (k == NameKind.free && env.scope.kind == .function && env.kindOf n == some .cell) then (n,NameKind.cell) else (n,k)).lookup x=some k→(k=.cell∨k=.free)→(∀ y∈names,y.2≠.cell)→(x,NameKind.free)∈names
  | [],_,_,h,_,_=>by simp at h
  | (n,k')::r,x,k,h,hk,hn=>by
    have hr:∀ y∈r,y.2≠NameKind.cell:=fun y hy=>hn y (List.mem_cons_of_mem _ hy)
    rw [List.map_cons,List.lookup_cons] at h
    by_cases hc:(k' == NameKind.free && env.scope.kind == .function && env.kindOf n == some .cell)=true
    · have hf:k'=.free:=by
        have:=hc
        simp only [Bool.and_eq_true] at this
        exact eq_of_beq this.1.1
      simp only [if_pos hc] at h
      cases hx:x == n with
      | true =>
        have:x=n:=eq_of_beq hx
        subst this; subst hf
        exact List.mem_cons_self
      | false =>
        rw [hx] at h
        exact List.mem_cons_of_mem _ (fc h hk hr)
    · simp only [if_neg hc] at h
      cases hx:x == n with
      | true =>
        rw [hx] at h
        have e:k'=k:=Option.some.inj h
        have:x=n:=eq_of_beq hx
        subst this; subst e
        rcases hk with hk | hk
        · exact absurd hk (hn _ List.mem_cons_self)
        · subst hk; exact List.mem_cons_self
      | false =>
        rw [hx] at h
        exact List.mem_cons_of_mem _ (fc h hk hr)
theorem fg {env:Env}:∀ {names:List (Str × NameKind)} {x:Str} {k:NameKind},
    (names.map fun (n,k)=>if (k == NameKind.free && env.scope.kind == .function && env.kindOf n == some .cell) then (n,NameKind.cell) else (n,k)).lookup x=some k→(∃ k0,names.lookup x=some k0∧(k=k0∨(k=.cell∧k0=.free)))
  | [],_,_,h=>by simp at h
  | (n,k')::r,x,k,h=>by
    rw [List.map_cons,List.lookup_cons] at h
    rw [List.lookup_cons]
    by_cases hc:(k' == NameKind.free && env.scope.kind == .function && env.kindOf n == some .cell)=true
    · have hf:k'=.free:=by
        have:=hc
        simp only [Bool.and_eq_true] at this
        exact eq_of_beq this.1.1
      simp only [if_pos hc] at h
      cases hx:x == n with
      | true =>
        rw [hx] at h
        exact ⟨k',rfl,.inr ⟨(Option.some.inj h).symm,hf⟩⟩
      | false =>
        rw [hx] at h
        exact fg h
    · simp only [if_neg hc] at h
      cases hx:x == n with
      | true =>
        rw [hx] at h
        exact ⟨k',rfl,.inl (Option.some.inj h).symm⟩
      | false =>
        rw [hx] at h
        exact fg h
section
variable {X:Cx} {M:List Str} {pins:List (Addr × Obj)} {σ:St} {H2:Hp} {s2:Shared} {scope:Scope} {own:List Str} {fp:List Addr}
theorem Inv.blk {h1:Heap} {t':Nat} {C D:Addr} (I:Inv X pins σ H2 s2) (B:lu X M scope own) (hf:∀ b∈fp,si X pins H2 b) (hfs:∀ b∈fp,b < s2.heap.objs.size)
    (hD:D=s2.heap.objs.size) (hC:C=s2.heap.objs.size + 1) (hl:h1.get? D=some { cls:=.type "list",data:=.seq ([]:List Value).toArray 0 })
    (hn:h1.Ns C (fun _=>none)) (hk:∀ b o,s2.heap.get? b=some o→h1.get? b=some o) :
    Inv (L2.blk X M scope own C s2 H2 fp) [] (σ++List.replicate own.length none) (upd H2 D (.lst [])) { s2 with heap:=h1,toks:=t' }:=by
  have hcl:∀ x c,(pY scope.names X.env.cells []).lookup x=some c→X.env.cells.lookup x=some c:=fun x c e=>w5 _ _ _ _ _ (fun _ _ z=>by simp at z) e
  have hlt:∀ x c,(pY scope.names X.env.cells []).lookup x=some c→c < s2.heap.objs.size:=fun x c e=>by
    obtain ⟨v,q⟩:=I.cell x c (hcl x c e)
    exact q.lt
  have freeD:H2 D=none:=I.hok.fresh (by rw [hD]; exact Nat.le_refl _)
  have freeC:H2 C=none:=I.hok.fresh (by rw [hC]; exact Nat.le_succ _)
  have hCD:C≠D:=by rw [hC,hD]; exact Nat.succ_ne_self _
  have hu:Un (frs X.stack) fp H2 (upd H2 D (.lst [])) s2.heap h1:=Un.laid hk (by rw [hD]; exact Nat.le_refl _) freeD
  refine ⟨⟨I.ok.mod,?_,I.ok.glob,I.ok.blt,?_,?_,?_,?_,I.ok.hd,I.ok.frames,.inl rfl,?_,I.bs,Nat.le_trans I.ok.bsz I.sz,?_,?_,I.stack,I.stkFree⟩,rfl,I.bare,hu,?_,?_,?_,?_,?_,?_,?_,fun P q t=>hu.tbls P q (I.tab P q t)⟩
  · exact B.kind
  · show s2.heap.objs.size≤C
    rw [hC]; exact Nat.le_succ _
  · intro x y c e1 e2
    exact I.ok.inj x y c (hcl x c e1) (hcl y c e2)
  · intro x hx
    have hm:(x,NameKind.free)∈scope.names:=by
      rcases hx with hx | hx
      · exact fc hx (.inl rfl) B.nocell
      · exact fc hx (.inr rfl) B.nocell
    obtain ⟨hv,hnl⟩:=B.free _ hm rfl
    have hh:X.env.kindOf x=some .cell∨X.env.kindOf x=some .free:=by
      rcases hv with z | z | z
      · exact absurd z hnl
      · exact .inl z
      · exact .inr z
    obtain ⟨c,e⟩:=I.ok.has x hh
    exact r8 _ _ _ x c hm e
  · intro x c hfn _
    exact absurd (show false=true from hfn) (by decide)
  · intro b hb
    refine ⟨?_,fun x c e z=>?_⟩
    · show b≠C
      rw [hC]
      exact Nat.ne_of_lt (Nat.lt_succ_of_lt (hfs b hb))
    · exact (hf b hb).2.2.2.2.1 x c (hcl x c e) z
  · intro b o e hb
    obtain ⟨_,_,_,f3,_⟩:=hf b hb
    rcases f3 with z | z
    · exact I.ok.noex b o e z
    · exact absurd (Nat.lt_of_lt_of_le (Heap.lt_size (I.ok.bs b o e).1) z) (Nat.lt_irrefl _)
  · intro b hb hs
    obtain ⟨_,f1,f2,_⟩:=hf b hb
    rcases List.mem_cons.mp (I.stkSub b hs) with z | z
    · exact f1 z
    · exact f2 z
  · refine ⟨_,hn,fun i x v e1 e2 e3=>?_⟩
    have hi:i < σ.length:=by
      by_cases hi:i < σ.length
      · exact hi
      · rw [List.getElem?_append_right (by omega),List.getElem?_replicate] at e2
        split at e2 <;> cases e2
    rw [List.getElem?_append_left hi] at e2
    have hiN:i < X.N.length:=by rw [← I.len]; exact hi
    have hiM:i < M.length:=by rw [B.len]; exact hiN
    have e1M:M[i]?=some x:=by
      have:(M++own)[i]?=some x:=e1
      rwa [List.getElem?_append_left hiM] at this
    obtain ⟨y,ey⟩:∃ y,X.N[i]?=some y:=⟨_,List.getElem?_eq_getElem hiN⟩
    have hz:(y,x)∈X.N.zip M:=List.mem_of_getElem? (i:=i) (by rw [List.getElem?_zip_eq_some]; exact ⟨ey,e1M⟩)
    have hin:∃ k,scope.names.lookup x=some k:=by
      rcases e3 with z | z | z
      · obtain ⟨k0,hk0,_⟩:=fg (show _=some NameKind.local from z); exact ⟨k0,hk0⟩
      · obtain ⟨k0,hk0,_⟩:=fg (show _=some NameKind.cell from z); exact ⟨k0,hk0⟩
      · obtain ⟨k0,hk0,_⟩:=fg (show _=some NameKind.free from z); exact ⟨k0,hk0⟩
    have hout:y=x∧scope.names.lookup x≠some .local:=by
      rcases B.outer _ hz with q | q
      · exact q
      · obtain ⟨k,hk⟩:=hin; rw [q] at hk; cases hk
    have e1':X.N[i]?=some x:=by rw [← hout.1]; exact ey
    have hx:(relabel scope X.env).names.lookup x=some .cell∨(relabel scope X.env).names.lookup x=some .free:=by
      rcases e3 with z | z
      · obtain ⟨k0,hk0,hk⟩:=fg (show _=some NameKind.local from z)
        rcases hk with hk | ⟨hk,_⟩
        · subst hk
          exact absurd hk0 hout.2
        · cases hk
      · exact z
    have hm:(x,NameKind.free)∈scope.names:=by
      rcases hx with hx | hx
      · exact fc hx (.inl rfl) B.nocell
      · exact fc hx (.inr rfl) B.nocell
    obtain ⟨hv,hnl⟩:=B.free _ hm rfl
    obtain ⟨m,_,hl'⟩:=I.loc
    obtain ⟨u,r,l⟩:=hl' i x v e1' e2 hv
    refine ⟨u,r,.inr ⟨hx,?_⟩⟩
    rcases l with ⟨z,_⟩ | ⟨_,c,hc,z⟩
    · exact absurd z hnl
    · obtain ⟨c',hc'⟩:=r8 scope.names X.env.cells [] x c hm hc
      have:=hcl x c' hc'
      rw [hc] at this
      cases this
      exact ⟨c,hc',z.keeps hk⟩
  · intro x c e
    obtain ⟨v,q⟩:=I.cell x c (hcl x c e)
    exact ⟨v,q.keeps hk⟩
  · show upd H2 D (.lst []) C=none
    rw [bG hCD]; exact freeC
  · intro x c e
    have h1:=hlt x c e
    rw [bG (by rw [hD]; exact Nat.ne_of_lt h1)]
    exact I.freeC x c (hcl x c e)
  · intro p hp
    exact absurd (show p∈([]:List (Addr × Obj))++[] from hp) (by simp)
  · exact I.hok.laid hk (by rw [hD]; exact Nat.le_refl _) ⟨Nat.zero_le _,[],0,.nil,hl⟩
  · show (σ++List.replicate own.length none).length=(M++own).length
    rw [List.length_append,List.length_append,List.length_replicate,I.len,B.len]
theorem Inv.unblk {C:Addr} {σ':St} {H':Hp} {s':Shared} {h':Heap} (I:Inv X pins σ H2 s2) (hf:∀ b∈fp,si X pins H2 b) (hCs:s2.heap.objs.size≤C)
    (J:Inv (L2.blk X M scope own C s2 H2 fp) [] σ' H' s') (hs:Heap.SameBut C s'.heap h'):Inv X pins σ H' { s' with heap:=h' }:=by
  have hC:H' C=none:=J.free
  have k:∀ b o,b≠C→s'.heap.get? b=some o→h'.get? b=some o:=fun b o hb e=>(hs.2 b hb).trans e
  have old:∀ b o,s2.heap.get? b=some o→b≠C:=fun b o e=>Nat.ne_of_lt (Nat.lt_of_lt_of_le (Heap.lt_size e) hCs)
  have u:Un (frs X.stack) fp H2 H' s2.heap s'.heap:=J.base
  refine I.call' (s':={ s' with heap:=h' }) (ch:=fp) J.os ?_ ?_ J.bare fun b hb=>?_
  · refine ⟨fun b o e n h1 h2=>k b o (old b o e) (u.keep b o e n h1 h2),fun b o e n h1 h2=>?_,u.free,fun b o e h1=>?_,u.tups,u.frzs,u.tbls⟩
    · obtain ⟨sl,q⟩:=u.slot b o e n h1 h2
      exact ⟨sl,k b _ (old b o e) q⟩
    · obtain ⟨o',q⟩:=u.there b o e h1
      exact ⟨o',k b o' (old b o e) q⟩
  · intro b o e
    refine (J.hok b o e).stay (fun c v hc q=>k c v ?_ q) (fun _ q=>q) fun _ _ q=>q
    rintro rfl
    rcases hc with z | z
    · subst z; rw [hC] at e; cases e
    · rw [hC] at z; cases z
  · obtain ⟨f0,f1,f2,f3,f4,f5⟩:=hf b hb
    exact ⟨f3,f1,f4,f5⟩
end
section
variable {prog:Program} {w:World} {A:Around} {R:Result→Shared→Prop} {s:Shared}
theorem vc {elt target iter:Expr} {ifs:List Expr} {scope:Scope} {pos:Pos} {it acc:Value} {env:Env} (I:Nat→Shared→Prop)
    (turn:∀ n s,I n s→wpAny (model prog w) A (pyNext it) (fun r s₁=>match r with
      | none=>R (.ok .next) s₁
      | some v=>wpAny (model prog w) A (letOwnedTupleGo target it v) (fun _ s1'=>wpAny (model prog w) A (assign target env v) (fun _ s₂ =>
          wpAny (model prog w) A (forIn ifs true fun c r=>if r=true then do let ok ← isTrue c env (eval c env); pure (ForInStep.yield ok) else pure (ForInStep.yield r)) (fun ok s₃ =>
            if ok=true then wpAny (model prog w) A (eval elt env) (fun x s₄ =>
              wpAny (model prog w) A (call (.builtin "list.append") [acc,x]) (fun _ s₅=>∃ m,m < n∧I m s₅) (fun _ _=>False) s₄) (fun _ _=>False) s₃
            else ∃ m,m < n∧I m s₃) (fun _ _=>False) s₂) (fun _ _=>False) s1') (fun _ _=>False) s₁) (fun _ _=>False) s)
    (n:Nat) (h:I n s) :
    codeAny (model prog w) A (.compLoop (.ListComp elt [⟨target,iter,ifs,0⟩] scope pos) 0 it acc env) R s:=by
  refine codeAny_loop rfl I (fun n s hI=>?_) n h
  show wpAny _ A ((compTurn (.ListComp elt [⟨target,iter,ifs,0⟩] scope pos) 0 it acc env).onRaise (fun x=>do noteFrame x env; theTreesLotGoes x)) _ _ s
  refine wpAny_noted ?_
  rw [compTurn_list]
  refine wpAny_bind (wpAny_standAt (wpAny_bind (wpAny_mono (turn n s hI) (fun r s₁ h₁=>?_) fun _ _ h'=>h'.elim)))
  cases r with
  | none=>exact wpAny_pure h₁
  | some v =>
    refine wpAny_bind (wpAny_mono h₁ (fun _ s1' h1'=>?_) fun _ _ h'=>h'.elim)
    refine wpAny_bind (wpAny_mono h1' (fun _ s₂ h₂=>wpAny_bind (wpAny_mono h₂ (fun ok s₃ h₃=>?_) fun _ _ h'=>h'.elim)) fun _ _ h'=>h'.elim)
    cases ok with
    | false=>exact wpAny_pure ⟨rfl,h₃⟩
    | true =>
      exact wpAny_bind (wpAny_bind (wpAny_mono h₃ (fun x s₄ h₄=>wpAny_bind (wpAny_mono h₄ (fun _ s₅ h₅=>wpAny_pure (wpAny_pure ⟨rfl,h₅⟩)) fun _ _ h'=>h'.elim)) fun _ _ h'=>h'.elim))
end
noncomputable def GL:TT:=fun _ H Q=>Q true H
inductive PTs (X:Cx):List Expr→TT→Prop
  | nil:PTs X [] GL
  | one {c:Expr} {t:TT} (h:PT X c t):PTs X [c] t
theorem PTs.run {X:Cx} {ifs:List Expr} {t:TT} (h:PTs X ifs t) {pins:List (Addr × Obj)} {s:Shared} {σ:St} {H:Hp} {Q:Bool→Hp→Prop} (I:Inv X pins σ H s) (q:t σ H Q) :
    wpAny (model X.prog X.w) X.A (forIn ifs true fun c r=>if r=true then do let ok ← isTrue c X.env (eval c X.env); pure (ForInStep.yield ok) else pure (ForInStep.yield r)) (TP X pins σ Q) X.xe s:=by
  cases h with
  | nil=>exact wpAny_tests_nil ⟨H,I,q⟩
  | one h=>exact wpAny_tests_one (h pins s σ H Q I q)
noncomputable def LCR (J:It) (n:Nat) (g:TG) (tt:TT) (te:TE) (σ:St) (H1:Hp) (Q:VK):Prop:=∀ D,H1 D=none→∃ W:Nat→Nat→List V→Hp→Prop,(∃ m,W 0 m [] (upd H1 D (.lst []))) ∧
  ∀ i m ys H,W i m ys H→H D=some (.lst ys)∧((J.stop i H∧Q (.ref D) H)∨(J.go i H∧∀ x H' σ',σ'.length=n→J.yld i H x H'→g x (σ++σ') H' fun σ2 H2=>tt σ2 H2 fun b H3 =>
    if b=true then te σ2 H3 fun v H4=>H4 D=some (.lst ys)∧ys.length < sizeLine∧(∃ σ'',σ2=σ++σ''∧σ''.length=n)∧∃ m',m' < m∧W (i + 1) m' (ys++[v]) (upd H4 D (.lst (ys++[v])))
    else (∃ σ'',σ2=σ++σ''∧σ''.length=n)∧∃ m',m' < m∧W (i + 1) m' ys H3))
noncomputable def tLC (n:Nat) (wi:TI) (g:TG) (tt:TT) (te:TE):TE:=fun σ H Q=>wi σ H fun J H1=>LCR J n g tt te σ H1 Q
theorem rf {X:Cx} {M:List Str} {elt tg iter:Expr} {ifs:List Expr} {scope:Scope} {pos cpos:Pos} {own:List Str} {wi:TI} {g:TG} {tt:TT} {te:TE} {use:Option (Value→Sem Unit)} {Qf:Value→Shared→Prop} (hc:X.calm=true) (hi:PI X tg iter wi)
    (hg:∀ C s2 H2 fp,PG (blk X M scope own C s2 H2 fp) tg g) (ht:∀ C s2 H2 fp,PTs (blk X M scope own C s2 H2 fp) ifs tt) (he:∀ C s2 H2 fp,PE (blk X M scope own C s2 H2 fp) elt te)
    (hB:rA X.N M X.env.scope scope own=true) (hs:∀ x,foldedSetIterable iter X.env x=pure x) {pins:List (Addr × Obj)} {s:Shared} {σ:St} {H:Hp} {Q:VK} (I:Inv X pins σ H s) (h:tLC own.length wi g tt te σ H Q)
    (fin:∀ (C D:Addr) (s5:Shared) (H4:Hp),(∀ h',Heap.SameBut C s5.heap h'→Inv X pins σ H4 { s5 with heap:=h' })→(∃ m,s5.heap.Ns C m)→H4 C=none→C≠X.env.locals→(∀ x c,X.env.cells.lookup x=some c→c≠C)→(∀ p∈X.pn++pins,p.1≠C)→X.s₀.heap.objs.size≤C→Q (.ref D) H4 →
      compPost (model X.prog X.w) X.A X.xe use Qf (.ref D) C (.ok .next) s5) :
    wpAny (model X.prog X.w) X.A (comprehension (.ListComp elt [⟨tg,iter,ifs,0⟩] scope pos) scope X.env cpos (newList []) false (eval iter X.env) use) Qf X.xe s:=by
  have B:lu X M scope own:=lu.of hB
  have hclos:closureFor scope X.env=pure (pY scope.names X.env.cells []):=qe fun y hy hf=>by
    obtain ⟨hv,hnl⟩:=B.free y hy hf
    have hh:X.env.kindOf y.1=some .cell∨X.env.kindOf y.1=some .free:=by
      rcases hv with z | z | z
      · exact absurd z hnl
      · exact .inl z
      · exact .inr z
    exact I.ok.has y.1 hh
  refine wpAny_comprehension_free (use:=use) rfl hs hclos B.kind B.names (thn (hi pins s σ H _ I h) fun v s1 h1=>thn h1 fun itv s2 h2=>?_)
  obtain ⟨it,fp,tn,J,H2,e,I2,T,st2,f2,hD⟩:=h2
  subst e
  have ffs:∀ b∈fp,b < s2.heap.objs.size:=fun b hb=>by
    obtain ⟨o,q,_⟩:=T.obj _ _ st2 b hb
    exact Heap.lt_size q
  obtain ⟨W,⟨m0,w0⟩,turn⟩:=hD s2.heap.objs.size (I2.hok.fresh (Nat.le_refl _))
  refine wpAny_newObj_type (wpAny_newFunctionEnv B.nocell (by intro y hy; simp at hy) (fun h₁ hns₁ hsb₁=>?_) B.kind)
  dsimp only at hns₁ hsb₁ ⊢
  generalize hG:s2.heap.push { cls:=.type "list",dict:=none,data:=.seq ([]:List Value).toArray }=G at hns₁ hsb₁ ⊢
  have hC:G.objs.size=s2.heap.objs.size + 1:=by rw [← hG,Heap.size_push]
  have hk:∀ b o,s2.heap.get? b=some o→h₁.get? b=some o:=fun b o e=>hsb₁.extBut b o (by
    rw [hC]; exact Nat.ne_of_lt (Nat.lt_succ_of_lt (Heap.lt_size e))) (Heap.get?_push_of_some _ (hG ▸ Heap.get?_push_of_some _ e))
  have hDC:s2.heap.objs.size≠G.objs.size:=by rw [hC]; exact Nat.ne_of_lt (Nat.lt_succ_self _)
  have hl:h₁.get? s2.heap.objs.size=some { cls:=.type "list",data:=.seq ([]:List Value).toArray 0 }:=hsb₁.extBut _ _ hDC (Heap.get?_push_of_some _ (hG ▸ Heap.get?_push_size _ rfl))
  have hns:h₁.Ns G.objs.size (fun _=>none):=by
    have e:(fun x=>([]:List (Str × Value)).reverse.lookup x)=fun _=>none:=by funext x; rfl
    rw [← e]; exact hns₁
  have I3:=fun t'=>I2.blk (t':=t') (C:=G.objs.size) (D:=s2.heap.objs.size) B f2 ffs rfl hC hl hns hk
  have stat:∀ {H':Hp},(∀ b∈fp,H' b=none)→∀ b∈fp,si (blk X M scope own G.objs.size s2 H2 fp) [] H' b:=fun hn b hb=>by
    refine ⟨hn b hb,?_,?_,.inl hb,fun x c e z=>?_,fun p hp=>absurd (show p∈([]:List (Addr × Obj))++[] from hp) (by simp)⟩
    · show b≠G.objs.size
      rw [hC]; exact Nat.ne_of_lt (Nat.lt_succ_of_lt (ffs b hb))
    · exact (I3 0).ok.exfs b hb
    · exact ((I3 0).ok.exf b hb).2 x c e z
  have loop:∀ s3:Shared,(∃ t',s3={ s2 with heap:=h₁,toks:=t' })→codeAny (model X.prog X.w) X.A (.compLoop (.ListComp elt [⟨tg,iter,ifs,0⟩] scope pos) 0 (.ref it) (.ref s2.heap.objs.size) (compEnvC scope (pY scope.names X.env.cells []) G.objs.size X.env))
      (compPost (model X.prog X.w) X.A X.xe use Qf (.ref s2.heap.objs.size) G.objs.size) s3:=by
    rintro s3 ⟨t',rfl⟩
    refine vc (fun n s'=>∃ i ys σ' H',σ'.length=own.length∧Inv (blk X M scope own G.objs.size s2 H2 fp) [] (σ++σ') H' s'∧tn i s'.heap∧(∀ b∈fp,H' b=none)∧W i n ys H') ?_ m0
      ⟨0,[],_,_,by simp,I3 t',T.keep _ _ _ st2 fun b hb o e=>hk b o e,fun b hb=>by rw [bG (Nat.ne_of_lt (ffs b hb))]; exact (f2 b hb).1,w0⟩
    rintro n s4 ⟨i,ys,σ',H4,hl',I4,st4,fr4,w4⟩
    obtain ⟨hDl,alt⟩:=turn i n ys H4 w4
    rcases alt with ⟨stop,qn⟩ | ⟨go,step⟩
    · refine thn (T.done (blk X M scope own G.objs.size s2 H2 fp) rfl rfl rfl hc i [] s4 _ H4 _ I4 (stat fr4) st4 stop) fun r s5 rz2=>?_
      obtain ⟨hr,I5⟩:=rz2
      subst hr
      obtain ⟨m,hn,_⟩:=I5.loc
      have cS:s2.heap.objs.size≤G.objs.size:=by rw [hC]; exact Nat.le_succ _
      refine fin G.objs.size s2.heap.objs.size s5 H4 (fun h' hs'=>I2.unblk (C:=G.objs.size) f2 cS I5 hs') ⟨m,hn⟩ I5.free ?_ (fun x c e=>?_) (fun p hp=>?_) (Nat.le_trans I2.sz cS) qn
      · obtain ⟨_,hl0,_⟩:=I2.loc
        exact Nat.ne_of_gt (Nat.lt_of_lt_of_le hl0.lt cS)
      · obtain ⟨_,q⟩:=I2.cell x c e
        exact Nat.ne_of_lt (Nat.lt_of_lt_of_le q.lt cS)
      · exact Nat.ne_of_lt (Nat.lt_of_lt_of_le (Heap.lt_size (I2.pin p hp).1) cS)
    · refine thn (T.item (blk X M scope own G.objs.size s2 H2 fp) rfl rfl rfl hc i [] s4 _ H4 _ I4 (stat fr4) st4 go) fun r s5 rz2=>?_
      obtain ⟨u,hr,h5⟩:=rz2
      subst hr
      refine thn h5 fun _ s6 rz2=>?_
      obtain ⟨x,H6,I6,r6,y6,st6,fr6⟩:=rz2
      have I6':=I6.pinned (stat fr6) (T.obj _ _ st6)
      have kp:∀ {σ7:St} {H7:Hp} {s7:Shared},Inv (blk X M scope own G.objs.size s2 H2 fp) ([]++qO fp s6.heap) σ7 H7 s7→tn (i + 1) s7.heap∧∀ b∈fp,H7 b=none:=fun {σ7 H7 s7} I7=>by
        refine ⟨T.keep _ _ _ st6 fun b hb o e=>(I7.pin (b,o) (List.mem_append_right _ (List.mem_append_right _ (kW hb e)))).1,fun b hb=>?_⟩
        obtain ⟨o,e,d⟩:=T.obj _ _ st6 b hb
        exact (I7.pin (b,o) (List.mem_append_right _ (List.mem_append_right _ (kW hb e)))).2.1
      refine thn (hg _ _ _ _ _ s6 _ H6 x u _ I6' r6 (step x H6 σ' hl' y6)) fun _ s7 rz2=>?_
      obtain ⟨σ7,H7,I7,q7⟩:=rz2
      refine thn ((ht _ _ _ _).run I7 q7) fun ok s8 rz2=>?_
      obtain ⟨H8,I8,q8⟩:=rz2
      cases ok with
      | false =>
        obtain ⟨⟨σ'',e,l''⟩,m',hm,w8⟩:=(show if false=true then _ else _ from q8)
        subst e
        obtain ⟨k1,k2⟩:=kp I8
        exact ⟨m',hm,i + 1,ys,σ'',H8,l'',I8.unpinned,k1,k2,w8⟩
      | true =>
        have q8:te σ7 H8 _:=q8
        refine thn (he _ _ _ _ _ s8 σ7 H8 _ I8 q8) fun y s9 rz2=>?_
        obtain ⟨v,H9,I9,r9,d9,z9,⟨σ'',e,l''⟩,m',hm,w9⟩:=rz2
        subst e
        refine thn (oF (X:=blk X M scope own G.objs.size s2 H2 fp) _ s9 _ H9 (.ref s2.heap.objs.size) [v] (.ref s2.heap.objs.size) [y] (fun _ H'=>H'=upd H9 s2.heap.objs.size (.lst (ys++[v]))) I9 rfl (.cons r9 .nil) ⟨_,ys,v,rfl,rfl,d9,z9,rfl⟩) fun _ s10 rz2=>?_
        obtain ⟨_,H10,I10,_,e10⟩:=rz2
        subst e10
        obtain ⟨k1,k2⟩:=kp I10
        exact ⟨m',hm,i + 1,ys++[v],σ'',_,l'',I10.unpinned,k1,k2,w9⟩
  exact codeAny_compStart_list (loop _ ⟨_,rfl⟩) (T.self _ 0 _ _ _ (T.keep _ _ _ st2 fun b hb o e=>hk b o e) (loop _ ⟨_,rfl⟩))
theorem Bt {X:Cx} {M:List Str} {elt tg iter:Expr} {ifs:List Expr} {scope:Scope} {pos:Pos} {own:List Str} {wi:TI} {g:TG} {tt:TT} {te:TE} (hc:X.calm=true) (hi:PI X tg iter wi)
    (hg:∀ C s2 H2 fp,PG (blk X M scope own C s2 H2 fp) tg g) (ht:∀ C s2 H2 fp,PTs (blk X M scope own C s2 H2 fp) ifs tt) (he:∀ C s2 H2 fp,PE (blk X M scope own C s2 H2 fp) elt te)
    (hB:rA X.N M X.env.scope scope own=true:=by rfl) (hs:∀ x,foldedSetIterable iter X.env x=pure x:=by intro _; rfl):PE X (.ListComp elt [⟨tg,iter,ifs,0⟩] scope pos) (tLC own.length wi g tt te):=by
  intro pins s σ H Q I h
  rw [eval_ListComp]
  refine rf hc hi hg ht he hB hs I h fun C D s5 H4 k rz5 _ _ _ _ _ q=>?_
  obtain ⟨m,hn⟩:=rz5
  exact ⟨m,hn,fun h' hs'=>⟨.ref D,H4,k h' hs',rfl,q⟩⟩
theorem Ca {X:Cx} {M:List Str} {elt tg iter:Expr} {ifs:List Expr} {scope:Scope} {pos pos' spos:Pos} {own:List Str} {wi:TI} {g:TG} {tt:TT} {te:TE} {i:Nat} {x:Str} (hc:X.calm=true) (hN:X.N.Nodup) (hxi:X.N[i]?=some x) (hx:Loc X.env.scope x)
    (hsw:swapsWith (.ListComp elt [⟨tg,iter,ifs,0⟩] scope pos) (some (.Name x pos')) spos.line X.env=pure true) (hi:PI X tg iter wi)
    (hg:∀ C s2 H2 fp,PG (blk X M scope own C s2 H2 fp) tg g) (ht:∀ C s2 H2 fp,PTs (blk X M scope own C s2 H2 fp) ifs tt) (he:∀ C s2 H2 fp,PE (blk X M scope own C s2 H2 fp) elt te)
    (hB:rA X.N M X.env.scope scope own=true:=by rfl) (hs:∀ x,foldedSetIterable iter X.env x=pure x:=by intro _; rfl) (hf:X.fn x=true∨X.env.scope.names.lookup x=some .local:=by first | exact .inl rfl | exact .inr rfl | assumption) :
    PS X (.Assign [.Name x pos'] (.ListComp elt [⟨tg,iter,ifs,0⟩] scope pos) spos) (DR (tLC own.length wi g tt te) (pJ i)):=by
  intro pins s σ H D I h
  show wpAny _ _ (exec _ X.env) _ _ s
  rw [exec_Assign_Name_used _ _ _ _ hsw]
  refine wpAny_bind (wpAny_standAt (wpAny_bind ?_))
  rw [arm_evalThenUse_ListComp]
  refine wpAny_bind (thn (rf (use:=some (assign (.Name x pos') X.env)) (Qf:=fun _ s'=>SP X pins D .next s') hc hi hg ht he hB hs I h fun C Dd s5 H4 k rz5 hC nl nc np ns q=>?_) fun _ s' hq=>wpAny_pure (wpAny_pure hq))
  obtain ⟨m,hn⟩:=rz5
  have I5:=k s5.heap (Heap.SameBut.refl _ _)
  show wpAny _ _ (assign (.Name x pos') X.env (.ref Dd)) _ _ s5
  refine wpAny_assign_Name (uo (v:=.ref Dd) I5 hN hxi hx rfl (fun s3 I3 rz2=>?_) hf)
  obtain ⟨a,sb,ha⟩:=rz2
  have nCa:C≠a:=by
    rcases ha with rfl | ha
    · exact nl
    · exact fun z=>nc x a ha z.symm
  refine ⟨m,hn.sameBut sb nCa,fun h' hs'=>⟨_,H4,?_,q⟩⟩
  have kk:∀ b o,b≠C→s3.heap.get? b=some o→h'.get? b=some o:=fun b o hb e=>(hs'.2 b hb).trans e
  refine I3.call' (s':={ s3 with heap:=h' }) (ch:=[C]) rfl ?_ ?_ I3.bare fun b hb=>?_
  · refine ⟨fun b o e _ _ z=>kk b o (fun q=>z (by rw [q]; exact List.mem_singleton.mpr rfl)) e,fun b o e _ _ z=>⟨o.slots,kk b o (fun q=>z (by rw [q]; exact List.mem_singleton.mpr rfl)) e⟩,fun _ _ _ n _=>n,fun b o e z=>⟨o,kk b o (fun q=>z (by rw [q]; exact List.mem_singleton.mpr rfl)) e⟩,fun _ _ q=>q,fun _ _ _ q=>q,fun _ _ q=>q⟩
  · intro b o e
    refine (I3.hok b o e).stay (fun c v hc q=>kk c v ?_ q) (fun _ q=>q) fun _ _ q=>q
    rintro rfl
    rcases hc with z | z
    · subst z; rw [hC] at e; cases e
    · rw [hC] at z; cases z
  · rw [List.mem_singleton.mp hb]
    exact ⟨.inr ns,fun z=>nl z,nc,np⟩
end L2
set_option maxRecDepth 100000
set_option maxHeartbeats 4000000
namespace L2
open PySem PySem.Spec PyProof.Rows
mutual
noncomputable def IsD (K:PySem.W.Frag) (H:Hp):PyData→V→Prop
  | .none,v=>v=.non
  | .bool b,v=>v=.bl b
  | .int i,v=>v=.int i
  | .str x,v=>v=.str x
  | .list ds,v=>∃ a xs,v=.ref a∧SqL K H a xs∧fT K H ds xs
  | .tuple ds,v=>∃ a xs,v=.ref a∧SqT K H a xs∧fT K H ds xs
  | .dict _,_=>False
noncomputable def fT (K:PySem.W.Frag) (H:Hp):List PyData→List V→Prop
  | [],vs=>vs=[]
  | d::ds,vs=>∃ v r,vs=v::r∧IsD K H d v∧fT K H ds r
end
theorem aT.tupS {K:PySem.W.Frag} {H H':Hp} {a:Addr} {xs:List V} (e:aT H H') (h:SqT K H a xs):SqT K H' a xs:=by
  rcases h with (h | ⟨o,h⟩) | h
  · exact .inl (.inl (e _ _ h))
  · exact .inl (.inr ⟨o,e _ _ h⟩)
  · exact .inr h
mutual
theorem IsD.same {K:PySem.W.Frag} {H H':Hp} (e:aT H H'):∀ {d:PyData} {v:V},IsD K H d v→IsD K H' d v
  | .none,_,h=>by unfold IsD at h ⊢; exact h
  | .bool _,_,h=>by unfold IsD at h ⊢; exact h
  | .int _,_,h=>by unfold IsD at h ⊢; exact h
  | .str _,_,h=>by unfold IsD at h ⊢; exact h
  | .list ds,_,h=>by
    unfold IsD at h ⊢
    obtain ⟨a,xs,e1,h1,h2⟩:=h
    exact ⟨a,xs,e1,e.seq h1,fT.same e h2⟩
  | .tuple ds,_,h=>by
    unfold IsD at h ⊢
    obtain ⟨a,xs,e1,h1,h2⟩:=h
    exact ⟨a,xs,e1,e.tupS h1,fT.same e h2⟩
  | .dict _,_,h=>by unfold IsD at h; exact h.elim
theorem fT.same {K:PySem.W.Frag} {H H':Hp} (e:aT H H'):∀ {ds:List PyData} {vs:List V},fT K H ds vs→fT K H' ds vs
  | [],_,h=>by unfold fT at h ⊢; exact h
  | d::ds,_,h=>by
    unfold fT at h ⊢
    obtain ⟨v,r,e1,h1,h2⟩:=h
    exact ⟨v,r,e1,IsD.same e h1,fT.same e h2⟩
end
section
variable {K:PySem.W.Frag} {H:Hp}
theorem u9 {i:Int}:IsD K H (.int i) (.int i):=by unfold IsD; rfl
theorem Df {b:Bool}:IsD K H (.bool b) (.bl b):=by unfold IsD; rfl
theorem Cn:IsD K H .none .non:=by unfold IsD; rfl
theorem D4 {x:Str}:IsD K H (.str x) (.str x):=by unfold IsD; rfl
theorem Dm {ds:List PyData} {a:Addr} {xs:List V} (h:SqT K H a xs) (h2:fT K H ds xs):IsD K H (.tuple ds) (.ref a):=by unfold IsD; exact ⟨a,xs,rfl,h,h2⟩
theorem vS {ds:List PyData} {a:Addr} {xs:List V} (h:SqL K H a xs) (h2:fT K H ds xs):IsD K H (.list ds) (.ref a):=by unfold IsD; exact ⟨a,xs,rfl,h,h2⟩
theorem rF:fT K H [] []:=by unfold fT; rfl
theorem ux {d:PyData} {ds:List PyData} {v:V} {vs:List V} (h:IsD K H d v) (h2:fT K H ds vs):fT K H (d::ds) (v::vs):=by unfold fT; exact ⟨v,vs,rfl,h,h2⟩
theorem IsD.ofInt {i:Int} {v:V} (h:IsD K H (.int i) v):v=.int i:=by unfold IsD at h; exact h
theorem IsD.ofBool {i:Bool} {v:V} (h:IsD K H (.bool i) v):v=.bl i:=by unfold IsD at h; exact h
theorem IsD.ofNone {v:V} (h:IsD K H .none v):v=.non:=by unfold IsD at h; exact h
theorem IsD.ofStr {x:Str} {v:V} (h:IsD K H (.str x) v):v=.str x:=by unfold IsD at h; exact h
theorem IsD.ofTup {ds:List PyData} {v:V} (h:IsD K H (.tuple ds) v):∃ a xs,v=.ref a∧SqT K H a xs∧fT K H ds xs:=by unfold IsD at h; exact h
theorem IsD.ofLst {ds:List PyData} {v:V} (h:IsD K H (.list ds) v):∃ a xs,v=.ref a∧SqL K H a xs∧fT K H ds xs:=by unfold IsD at h; exact h
theorem fT.nil_of {vs:List V} (h:fT K H [] vs):vs=[]:=by unfold fT at h; exact h
theorem fT.cons_of {d:PyData} {ds:List PyData} {vs:List V} (h:fT K H (d::ds) vs):∃ v r,vs=v::r∧IsD K H d v∧fT K H ds r:=by unfold fT at h; exact h
theorem ud:∀ (ns:List Int),fT K H (ns.map PyData.int) (ns.map V.int)
  | []=>rF
  | _::r=>ux u9 (ud r)
end
section
variable {X:Cx} {pins:List (Addr × Obj)} {σ:St} {H:Hp} {s:Shared}
mutual
theorem Inv.reads (I:Inv X pins σ H s):∀ {d:PyData} {v:V} {u:Value},IsD X.K H d v→RelV v u→∃ as,Reads s.heap u d as
  | .none,_,_,h,r=>by rw [h.ofNone] at r; cases r; exact ⟨_,.none⟩
  | .bool _,_,_,h,r=>by rw [h.ofBool] at r; cases r; exact ⟨_,.bool _⟩
  | .int _,_,_,h,r=>by rw [h.ofInt] at r; obtain ⟨t,rfl⟩:=r; exact ⟨_,.int _ _⟩
  | .str _,_,_,h,r=>by rw [h.ofStr] at r; obtain ⟨t,rfl⟩:=r; exact ⟨_,.str _ _⟩
  | .list ds,_,_,h,r=>by
    obtain ⟨a,xs,e,h1,h2⟩:=h.ofLst
    subst e; cases r
    obtain ⟨its,rv,⟨o,n,g,c,_,d⟩,_⟩:=I.list h1
    obtain ⟨as,ra⟩:=Inv.readsAll I h2 rv
    exact ⟨_,.list g c d (by simpa using ra)⟩
  | .tuple ds,_,_,h,r=>by
    obtain ⟨a,xs,e,h1,h2⟩:=h.ofTup
    subst e; cases r
    obtain ⟨its,rv,⟨o,g,c,n,d⟩,_⟩:=I.tuple h1
    obtain ⟨as,ra⟩:=Inv.readsAll I h2 rv
    exact ⟨_,.tuple g c d (by simpa using ra)⟩
  | .dict _,_,_,h,_=>by unfold IsD at h; exact h.elim
theorem Inv.readsAll (I:Inv X pins σ H s):∀ {ds:List PyData} {vs:List V} {us:List Value},fT X.K H ds vs→Vals vs us→∃ as,ReadsAll s.heap us ds as
  | [],_,_,h,r=>by
    rw [h.nil_of] at r
    cases r
    exact ⟨_,.nil⟩
  | d::ds,_,_,h,r=>by
    obtain ⟨v,t,e,h1,h2⟩:=h.cons_of
    subst e
    cases r with
    | cons r1 r2 =>
      obtain ⟨as,q1⟩:=Inv.reads I h1 r1
      obtain ⟨bs,q2⟩:=Inv.readsAll I h2 r2
      exact ⟨_,.cons q1 q2⟩
end
open PySem.SeqAt in
theorem zi (hu:X.A.units + 64 < cLine):OpR X (compareOp .Eq) (fun x y H Q=>∃ d e,IsD X.K H d x∧IsD X.K H e y∧shaped d=true∧shaped e=true∧Q (.bl (PyData.eqv d e)) H):=by
  intro pins s σ H x y v u Q I rx ry h
  obtain ⟨d,e,hd,he,sd,se,q⟩:=h
  obtain ⟨as,ra⟩:=I.reads hd rx
  obtain ⟨bs,rb⟩:=I.reads he ry
  exact eq_dataH ra rb sd se hu ⟨.bl _,H,I,rfl,q⟩
open PySem.SeqAt in
theorem Gm (hu:X.A.units + 64 < cLine):OpR X (compareOp .NotEq) (fun x y H Q=>∃ d e,IsD X.K H d x∧IsD X.K H e y∧shaped d=true∧shaped e=true∧Q (.bl (!PyData.eqv d e)) H):=by
  intro pins s σ H x y v u Q I rx ry h
  obtain ⟨d,e,hd,he,sd,se,q⟩:=h
  obtain ⟨as,ra⟩:=I.reads hd rx
  obtain ⟨bs,rb⟩:=I.reads he ry
  exact ne_dataH ra rb sd se hu ⟨.bl _,H,I,rfl,q⟩
noncomputable def tyD:PyData→String
  | .none=>"NoneType"
  | .bool _=>"bool"
  | .int _=>"int"
  | .str _=>"str"
  | .list _=>"list"
  | .tuple _=>"tuple"
  | .dict _=>"dict"
noncomputable def vX (d:PyData) (T:String):Bool:=tyD d == T || (T == "int" && tyD d == "bool")
theorem D3 (K:PySem.W.Frag) {a T:String} (ha:a∈["NoneType", "bool", "int", "str", "list", "tuple"]) (hT:T∈["bool", "int", "list", "tuple"]) :
    PySem.W.kitOne K (.type a) (.type T)=some (a == T || (T == "int" && a == "bool")):=by
  simp only [List.mem_cons,List.not_mem_nil,or_false] at ha hT
  rcases ha with rfl | rfl | rfl | rfl | rfl | rfl <;> rcases hT with rfl | rfl | rfl | rfl <;> rfl
theorem DD {H:Hp} {K:PySem.W.Frag} {d:PyData} {v:V} (h:IsD K H d v):tyD d∈["NoneType", "bool", "int", "str", "list", "tuple"]:=by
  cases d with
  | dict _=>unfold IsD at h; exact h.elim
  | _=>simp [tyD]
theorem wQ:jU X (.builtin "isinstance") (fun xs H Q=>∃ d v T,xs=[v,.ty T]∧IsD X.K H d v∧T∈["bool", "int", "list", "tuple"]∧Q (.bl (vX d T)) H):=by
  intro pins s σ H xs us Q I r h
  obtain ⟨d,v,T,rfl,hd,hT,q⟩:=h
  obtain ⟨u,c,rfl,r1,r2⟩:=vals2 r
  cases r2
  have e:PySem.W.kitOne X.K (.type (tyD d)) (.type T)=some (vX d T):=D3 X.K (DD hd) hT
  have fin:∀ tk,EP X pins σ Q (.bool (vX d T)) { s with toks:=tk }:=fun tk=>⟨.bl _,H,I.tok tk,rfl,q⟩
  cases d with
  | none=>rw [hd.ofNone] at r1; cases r1; exact PySem.W.kia_one PySem.W.kitx_none I.kIn True.intro e (fun z=>nomatch z) fin
  | bool b=>rw [hd.ofBool] at r1; cases r1; exact PySem.W.kia_one PySem.W.kitx_bool I.kIn True.intro e (fun z=>nomatch z) fin
  | int i=>rw [hd.ofInt] at r1; obtain ⟨t,rfl⟩:=r1; exact PySem.W.kia_one PySem.W.kitx_int I.kIn True.intro e (fun z=>nomatch z) fin
  | str x=>rw [hd.ofStr] at r1; obtain ⟨t,rfl⟩:=r1; exact PySem.W.kia_one PySem.W.kitx_str I.kIn True.intro e (fun z=>nomatch z) fin
  | list ds =>
    obtain ⟨a,xs,e1,h1,h2⟩:=hd.ofLst
    subst e1; cases r1
    obtain ⟨its,rv,⟨o,n,g,c,_,_⟩,_⟩:=I.list h1
    exact PySem.W.kia_one PySem.W.kitx_list I.kIn ⟨o,g,c⟩ e (fun z=>nomatch z) fin
  | tuple ds =>
    obtain ⟨a,xs,e1,h1,h2⟩:=hd.ofTup
    subst e1; cases r1
    obtain ⟨its,rv,⟨o,g,c,n,_⟩,_⟩:=I.tuple h1
    exact PySem.W.kia_one PySem.W.kitx_tuple I.kIn ⟨o,g,c⟩ e (fun z=>nomatch z) fin
  | dict _=>unfold IsD at hd; exact hd.elim
theorem ni:∀ {bs:List Bool} {us:List Value},Vals (bs.map V.bl) us→LSm.BoolsAre us bs
  | [],_,.nil=>.nil
  | b::r,_,.cons h t=>by
    cases (show _=Value.bool b from h)
    exact .cons b (ni t)
theorem BL (hc:X.calm=true):jU X (.builtin "all") (fun xs H Q=>∃ (a:Addr) (bs:List Bool),xs=[.ref a]∧SqL X.K H a (bs.map V.bl)∧Q (.bl (bs.all id)) H):=by
  intro pins s σ H xs us Q I r h
  obtain ⟨a,bs,rfl,hS,q⟩:=h
  obtain ⟨u,rfl,r1⟩:=vals1 r
  cases r1
  obtain ⟨its,rv,p,_⟩:=I.list hS
  have hl:=p.isList
  have hb:=ni rv
  have hlt:a < s.heap.objs.size:=by obtain ⟨_,e,_⟩:=hl; exact Heap.lt_size e
  refine call_all_walk (wpAny_pyIter_list hl ?_)
  refine ⟨s.heap.objs.size,[s.heap.objs.size,a],[s.heap.objs.size],its.toArray.size,_,_,fun i=>(bs[i]?).getD true,rfl,Walks.list (A:=X.A.in1) (I.ok.hd hc) _ a (Nat.ne_of_lt hlt) its.toArray,
    ⟨⟨_,Heap.get?_push_size _ rfl,rfl,rfl⟩,hl.push _⟩,fun i v s' Q' E' hP hQ=>?_,fun h' tk hk=>?_⟩
  · obtain ⟨b,e,rfl⟩:=hb.get i v (by simpa using hP)
    simp only [e,Option.getD_some] at hQ
    exact wpAny_truthy_bool hQ
  · have e:((List.range its.toArray.size).all fun i=>(bs[i]?).getD true)=bs.all id:=by
      rw [List.size_toArray,hb.length]; exact LSm.range_all bs
    rw [e]
    exact ⟨.bl _,H,I.kept (LSm.kept_iter hk),rfl,q⟩
theorem C6 (hc:X.calm=true):jU X (.builtin "sum") (fun xs H Q=>∃ (a:Addr) (ns:List Int),xs=[.ref a]∧SqL X.K H a (ns.map V.int)∧Q (.int ns.sum) H):=by
  intro pins s σ H xs us Q I r h
  obtain ⟨a,ns,rfl,hS,q⟩:=h
  obtain ⟨u,rfl,r1⟩:=vals1 r
  cases r1
  obtain ⟨its,rv,p,_⟩:=I.list hS
  have hi:IntsAre its ns:=intsAre_of rv
  obtain ⟨xs,hx⟩:=hi.allInts.items
  have hl':s.heap.IsList a (intItems xs):=hx ▸ p.isList
  refine sum_intListG (I.ok.hd hc) hl' fun h' tk t' hk=>?_
  have e1:ns=xs.toList.map (·.1):=by
    rw [← nums_intItems,← hx]
    exact (show numsOf its.toArray.toList=ns from hi.numsOf).symm
  have e2:preSum (numAt xs) xs.size=ns.sum:=by
    rw [preSum_eq,List.take_of_length_le (by simp),e1]
  rw [e2]
  exact ⟨.int _,H,I.kept hk,⟨_,rfl⟩,q⟩
end
end L2
set_option maxRecDepth 100000
set_option maxHeartbeats 4000000
namespace L2
open PySem PySem.Spec PyProof.Rows
structure HS (P:Program) (w:World) (outer:List Env) (H:Hp) (s:Shared) (H':Hp) (B:Heap) (ea:Addr) (cls a0:Value) (s':Shared):Prop where
  os:s'.os=s.os
  bare:AllBare s'.gens
  hok:HOk P w H' B
  keep:∀ b o,s.heap.get? b=some o→H b=none→b ∉ frs outer→B.get? b=some o
  there:∀ b o,s.heap.get? b=some o→b ∉ frs outer→∃ o',B.get? b=some o'
  slot:∀ b o,s.heap.get? b=some o→b∈frs outer→∃ sl,s'.heap.get? b=some { o with slots:=sl }
  free:∀ b o,s.heap.get? b=some o→H b=none→H' b=none
  tups:∀ b xs,H b=some (.tup xs)→H' b=some (.tup xs)
  frzs:∀ b o u,H b=some (.frz o u)→H' b=some (.frz o u)
  tbls:∀ b q,H b=some (.tbl q)→H' b=some (.tbl q)
  fly:Heap.FlyingW B outer ea cls a0 s'.heap
noncomputable def CXW (P:Program) (w:World):CXT:=fun outer H s E e s'=>∃ ea cls a0 H' B,e=.ref ea∧E cls none H'∧HS P w outer H s H' B ea cls a0 s'
section
variable {P:Program} {w:World} {K:PySem.W.Frag} {mg:Str→Option Value} {base:Heap} {N:List Str} {qual:Str} {scope:Scope} {f:Addr} {cd:Value} {A:Around} {outer:List Env} {s:Shared} {H:Hp} {E:XK}
theorem xg {env:Env} {L:Addr} (hf:env.frame=some L):frs (env::outer)=L::frs outer:=by
  unfold frs
  rw [List.filterMap_cons,hf]
theorem wM {CX:CXT} {pins:List (Addr × Obj)} {σ:St} {H1:Hp} {s1:Shared} {h':Heap} {ea:Addr} {cls:Value} {vs:List Value}
    (I:Inv (jY (CXW P w) P w K mg base N qual scope f cd A outer s H E) pins σ H1 s1) (hx:Heap.MadeExcOf s1.heap h' ea cls vs) (hE:E cls none H1) :
    (jY (CXW P w) P w K mg base N qual scope f cd A outer s H E).xe (.ref ea) { s1 with heap:=h' }:=by
  have hst:=I.stack
  have hfs:frs (jY (CXW P w) P w K mg base N qual scope f cd A outer s H E).stack=s.heap.objs.size::frs outer:=xg rfl
  have hin:∀ env∈(jY (CXW P w) P w K mg base N qual scope f cd A outer s H E).stack,∀ b,env.frame=some b→b∈frs (jY (CXW P w) P w K mg base N qual scope f cd A outer s H E).stack:=fun env he b hb=>List.mem_filterMap.mpr ⟨env,he,hb⟩
  have out:∀ b o,s.heap.get? b=some o→b ∉ frs outer→b ∉ frs (jY (CXW P w) P w K mg base N qual scope f cd A outer s H E).stack:=fun b o e n z=>by
    rw [hfs] at z
    rcases List.mem_cons.mp z with z | z
    · rw [z] at e; exact absurd (Heap.lt_size e) (Nat.lt_irrefl _)
    · exact n z
  refine wpAny_leaves_madeW (base:=PySem.W.hideAll s1.heap (frs (jY (CXW P w) P w K mg base N qual scope f cd A outer s H E).stack)) I.ok.frames rfl (fun b o q=>PySem.W.of_hideAll _ q) (PySem.W.funFrames_hide hst hin) hx fun h2 t x1 x2 x3 x4=>?_
  refine ⟨ea,cls,.ref t,H1,_,rfl,hE,⟨I.os,I.bare,?_,?_,?_,?_,?_,I.base.tups,I.base.frzs,I.base.tbls,x1⟩⟩
  · intro a o e
    refine (I.hok a o e).stay (fun b u hb q=>PySem.W.hideAll_get _ q fun z=>?_) (fun _ q=>q) fun _ _ q=>q
    have:=I.stkFree b z
    rcases hb with hb | hb
    · rw [hb,e] at this; cases this
    · rw [hb] at this; cases this
  · intro b o e n hb
    exact PySem.W.hideAll_get _ (I.base.keep b o e n hb (List.not_mem_nil)) (out b o e hb)
  · intro b o e hb
    obtain ⟨o',q⟩:=I.base.there b o e (List.not_mem_nil)
    exact ⟨o',PySem.W.hideAll_get _ q (out b o e hb)⟩
  · intro b o e hb
    obtain ⟨sl,q⟩:=I.base.slot b o e (I.ok.frf b hb) hb (List.not_mem_nil)
    obtain ⟨_,o2,q2,d2⟩:=I.ok.funs.mem hb
    have q2:s.heap.get? b=some o2:=q2
    rw [e] at q2
    cases q2
    obtain ⟨sl2,q3⟩:=x4 b _ (hx.keeps b _ q) d2
    exact ⟨sl2,q3⟩
  · intro b o e n
    exact I.base.free b o e n (List.not_mem_nil)
theorem aI:Passes (CXW P w) (jY (CXW P w) P w K mg base N qual scope f cd A outer s H E) E:=by
  intro pins σ H1 s1 e s2 I hc
  obtain ⟨ea,cls,a0,H2,B,rfl,hE,F⟩:=hc
  have hfs:frs (jY (CXW P w) P w K mg base N qual scope f cd A outer s H E).stack=s.heap.objs.size::frs outer:=xg rfl
  have out:∀ b o,s.heap.get? b=some o→b ∉ frs outer→b ∉ frs (jY (CXW P w) P w K mg base N qual scope f cd A outer s H E).stack:=fun b o e n z=>by
    rw [hfs] at z
    rcases List.mem_cons.mp z with z | z
    · rw [z] at e; exact absurd (Heap.lt_size e) (Nat.lt_irrefl _)
    · exact n z
  refine wpAny_leaves_onW I.ok.frames rfl F.fly fun h2 x1 x2=>⟨ea,cls,a0,H2,B,rfl,hE,⟨F.os.trans I.os,F.bare,F.hok,?_,?_,?_,?_,?_,?_,?_,x1⟩⟩
  · intro b o e n hb
    exact F.keep b o (I.base.keep b o e n hb (List.not_mem_nil)) (I.base.free b o e n (List.not_mem_nil)) (out b o e hb)
  · intro b o e hb
    obtain ⟨o',q⟩:=I.base.there b o e (List.not_mem_nil)
    exact F.there b o' q (out b o e hb)
  · intro b o e hb
    obtain ⟨sl,q⟩:=I.base.slot b o e (I.ok.frf b hb) hb (List.not_mem_nil)
    obtain ⟨_,o2,q2,d2⟩:=I.ok.funs.mem hb
    have q2:s.heap.get? b=some o2:=q2
    rw [e] at q2
    cases q2
    obtain ⟨sl1,q1⟩:=F.slot b _ q (by rw [hfs]; exact List.mem_cons_of_mem _ hb)
    obtain ⟨sl2,q3⟩:=x2 b _ q1 d2
    exact ⟨sl2,q3⟩
  · intro b o e n
    obtain ⟨o',q⟩:=I.base.there b o e (List.not_mem_nil)
    exact F.free b o' q (I.base.free b o e n (List.not_mem_nil))
  · intro b xs e
    exact F.tups b xs (I.base.tups b xs e)
  · intro b o u e
    exact F.frzs b o u (I.base.frzs b o u e)
  · intro b ps e
    exact F.tbls b ps (I.base.tbls b ps e)
end
theorem DG {K:PySem.W.Frag} {h:Heap} {C:Addr} {bmB:List Value} {newId:String} (X:K.In h) (q:PySem.W.excIn K C bmB newId=true) :
    ∃ bm N nm qn bs hdct sn sub ab col dd k0 k1 k2 k3 k5 mN,h.get? C=some (excClassObj nm qn C N bs bm hdct sn sub ab col dd k0 k1 k2 k3 k5 newId)∧h.Ns N mN∧mN "__init__"=none∧OwnTail h bmB bm:=by
  unfold PySem.W.excIn at q
  split at q
  · rename_i d1 c1 l1 g1
    split at q
    · rename_i C2 bm2 j0 j1 j2 j3 n2 j5 hm hs
      simp only [Bool.and_eq_true,beq_iff_eq,Bool.not_eq_true'] at q
      obtain ⟨⟨⟨⟨⟨q1,q2⟩,q3⟩,q4⟩,q5⟩,q6⟩:=q
      subst q1; subst q2
      obtain ⟨z1,z2,z3,z4,z5,z6,z7,z8,z9,z10,z11⟩:=c1
      dsimp only at hm q3 q5 q6
      subst hm; subst q3
      have hl:l1=#[j0,j1,j2,j3,some (.builtin n2),j5]:=by
        obtain ⟨l⟩:=l1
        have hs':l=_:=hs
        rw [hs']
      subst hl
      exact ⟨bm2,z4,z1,z5,z2,z6,z7,z8,z9,z10,d1,j0,j1,j2,j3,j5,_,X _ _ g1,.of_isNs (PySem.W.isNs_of_in X q5),PySem.W.nsMap_none_of_in X q5 q6,PySem.W.tail_of_in X q4⟩
    · cases q
  · cases q
noncomputable def xT (X:Cx) (E:XK):Prop:=∀ (pins:List (Addr × Obj)) (σ:St) (H:Hp) (s:Shared) (h':Heap) (ea:Addr) (cls:Value) (vs:List Value),Inv X pins σ H s→Heap.MadeExcOf s.heap h' ea cls vs→E cls none H→X.xe (.ref ea) { s with heap:=h' }
noncomputable def Gy (C:Addr) (E:XK) (t:TA):TS:=fun _ σ H=>t σ H fun vs H1=>vs.length≤sizeLine∧E (.ref C) none H1
theorem BN {X:Cx} {E:XK} {x:Str} {C:Addr} {B newId initId:String} {bm:List Value} {np cpos pos:Pos} {e:Expr} {es:List Expr} {t:TA} (hc:X.calm=true) (M:xT X E) (FB:ExcBaseFacts B newId initId bm) (hg:Gl X x) (hm:X.mg x=some (.ref C)) (hC:PySem.W.excIn X.K C bm newId=true)
    (ha:PA X (e::es) t) (hdb:(x == ("__debug__":Str))=false:=by decide) (he:starEach (e::es) X.env=(false,eval e X.env)::starEach es X.env:=by rfl) (hpl:(backTo cpos (starEach es X.env)).any (·.1)=false:=by rfl) :
    PS X (.Raise (some (.Call (.Name x np) (e::es) [] cpos)) none pos) (Gy C E t):=by
  intro pins s σ H D I h
  obtain ⟨tl,N,nm,q,bs,hdct,sn,sub,ab,col,dd,k0,k1,k2,k3,k5,mN,hC0,hN,hni,T⟩:=DG I.mod.kin hC
  refine wpAny_Raise_call_subT (C:=C) (nm:=nm) (q:=q) (N:=N) (bs:=bs) (bm:=tl) (hdct:=hdct) (sn:=sn) (sub:=sub) (ab:=ab) (col:=col) (dd:=dd) (k0:=k0) (k1:=k1) (k2:=k2) (k3:=k3) (k5:=k5)
    FB (mN:=mN) (T.hasType FB.hasBase) (I.ok.hd hc) (by rw [he]; show (false || (backTo cpos (starEach es X.env)).any (·.1))=false; rw [hpl]; rfl) hni (qv I hg hm ⟨rfl,?_⟩ hdb)
  have q0:=ha cpos pins s σ H _ I h
  rw [he] at q0 ⊢
  refine Calls.evalArgs_plain (wpAny_mono q0 (fun us s2 h2=>?_) fun _ _ y=>y)
  obtain ⟨vs,H2,I2,rv,z,hE⟩:=h2
  exact ⟨rfl,by rw [← rv.length]; exact z,I2.bk _ _ hC0,hN.keeps I2.bk,T.keeps I2.bk,fun h' ea hx=>M pins σ H2 s2 h' ea _ _ I2 hx hE⟩
end L2
set_option maxRecDepth 100000
set_option maxHeartbeats 4000000
namespace L2
open PySem PySem.Spec PyProof.Rows
end L2
set_option maxRecDepth 100000
set_option maxHeartbeats 4000000
namespace L2
open PySem PySem.Spec PyProof.Rows
theorem nH {H:Hp} {D:Addr} {o:HO} (h:H D=none):aT H (upd H D o):=fun b u e=>by rw [bG (bP e h)]; exact e
theorem aT.put {H H':Hp} {D:Addr} {o:HO} (s:aT H H') (h:H D=none):aT H (upd H' D o):=fun b u e=>by rw [bG (bP e h)]; exact s b u e
mutual
noncomputable def i5:PyData→Bool
  | .list _=>false
  | .tuple ds=>m8 ds
  | .dict _=>false
  | _=>true
noncomputable def m8:List PyData→Bool
  | []=>true
  | d::ds=>i5 d && m8 ds
end
theorem set_own (σ:St) (x:Option V) (v:V) (σ':St) (h:σ'.length=1):(σ++σ').set σ.length (some v)=σ++[some v]:=by
  obtain ⟨y,rfl⟩:=List.length_eq_one_iff.mp h
  simp
end L2
set_option maxRecDepth 100000
set_option maxHeartbeats 4000000
namespace L2
open PySem PySem.Spec PyProof.Rows
structure Rows (H H':Hp) (D:Addr) (qs:List Addr) (rs:List (List Int)):Prop where
  d:H' D=some (.lst (qs.map V.ref))
  len:qs.length=rs.length
  at':∀ (i:Nat) q r,qs[i]?=some q→rs[i]?=some r→H' q=some (.lst (r.map V.int))
  new:∀ q∈qs,H q=none
  nd:qs.Nodup
  nD:D ∉ qs
end L2
set_option maxRecDepth 100000
set_option maxHeartbeats 4000000
namespace L2
open PySem PySem.Spec PyProof.Rows
section
variable {prog:Program} {w:World} {A:Around} {E:Value→Shared→Prop} {s:Shared}
theorem y2 {it t:Addr} {i:Nat} {its:Array Value} {x:Value} {Q:Value→Shared→Prop} (hi:s.heap.IsTupleIter it t i) (ht:s.heap.IsTuple t its) (hx:its[i]?=some x)
    (hQ:∀ h',h'.IsTupleIter it t (i + 1)→Heap.SameBut it s.heap h'→Q x { s with heap:=h' }):wpAny (model prog w) A (Builtin.SmallTypes.nextOf (.ref it)) Q E s:=by
  obtain ⟨oi,gi,ci,di⟩:=id hi
  obtain ⟨ot,gt,_,nt,dt⟩:=ht
  unfold Builtin.SmallTypes.nextOf
  refine wpAny_bind (wpAny_callSpecial?_slot (name:=Str.ofString "__next__") hi.typeIs F.slot_tuple_iterator_next (wpAny_call_entry F.slot_tuple_iterator_next hi.typeIs F.entry_tuple_iterator_next ?_ (F.args_tuple_iterator_next_1 _)))
  refine wpAny_bind (m:=field (.ref it) 0) (wpAny_field gi di (x:=.ref t) rfl ?_)
  show wpAny (model prog w) _ (if (Value.ref t == Value.none)=true then _ else _) _ _ s
  have nn:¬ (Value.ref t == Value.none)=true:=fun q=>Bool.false_ne_true q
  rw [if_neg nn]
  refine wpAny_bind (m:=field (.ref it) 1) (wpAny_field gi di (x:=.int i 0) rfl ?_)
  refine wpAny_bind (m:=seqItems? (.ref t)) (wpAny_seqItems gt dt ?_)
  simp only [Int.toNat_natCast,hx]
  refine wpAny_bind (wpAny_setField gi di (by simp) (wpAny_pure ⟨x,rfl,wpAny_pure (hQ _ ⟨_,Heap.get?_update_self _ gi (Obj.isFreed_of_fields (Obj.data_mapFields di _)),(Obj.cls_mapFields ..).trans ci,?_⟩ (Heap.SameBut.update ..))⟩))
  rw [Obj.data_mapFields di]
  simp [rawInt]
theorem rC {it t:Addr} {i:Nat} {its:Array Value} {Q:Value→Shared→Prop} (hh:A.handled=none) (hi:s.heap.IsTupleIter it t i) (ht:s.heap.IsTuple t its) (hx:its[i]?=none)
    (hE:∀ h' e,Heap.ExtBut it s.heap h'→(∃ o,h'.get? e=some o∧o.cls=.type "StopIteration")→E (.ref e) { s with heap:=h' }):wpAny (model prog w) A (Builtin.SmallTypes.nextOf (.ref it)) Q E s:=by
  obtain ⟨oi,gi,ci,di⟩:=id hi
  obtain ⟨ot,gt,_,nt,dt⟩:=ht
  unfold Builtin.SmallTypes.nextOf
  refine wpAny_bind (wpAny_callSpecial?_slot (name:=Str.ofString "__next__") hi.typeIs F.slot_tuple_iterator_next (wpAny_call_entry F.slot_tuple_iterator_next hi.typeIs F.entry_tuple_iterator_next ?_ (F.args_tuple_iterator_next_1 _)))
  refine wpAny_bind (m:=field (.ref it) 0) (wpAny_field gi di (x:=.ref t) rfl ?_)
  show wpAny (model prog w) _ (if (Value.ref t == Value.none)=true then _ else _) _ _ s
  have nn:¬ (Value.ref t == Value.none)=true:=fun q=>Bool.false_ne_true q
  rw [if_neg nn]
  refine wpAny_bind (m:=field (.ref it) 1) (wpAny_field gi di (x:=.int i 0) rfl ?_)
  refine wpAny_bind (m:=seqItems? (.ref t)) (wpAny_seqItems gt dt ?_)
  simp only [Int.toNat_natCast,hx]
  refine wpAny_bind (wpAny_rule (wpAny_bind (wpAny_setField gi di (by simp) ?_)))
  refine wpAny_bind (m:=newExc (.type "StopIteration") []) ?_
  unfold newExc newTuple
  refine wpAny_bind (wpAny_newObj_type ?_ (by size_fits ))
  refine wpAny_bind (m:=firstArgMember _ _) (wpAny_of_eq (a:=Value.none) (by first | rfl | (unfold firstArgMember; rfl)) ?_)
  refine wpAny_newObj_type ?_ (by size_fits )
  unfold raiseNew
  refine wpAny_bind (wpAny_handled ?_)
  first | rw [show A.in1.handled=none from hh] | rw [hh]
  refine wpAny_bind (wpAny_pure (wpAny_throw ?_))
  refine hE _ _ (fun b o hb e=>?_) ⟨_,Heap.get?_push_size _ rfl,rfl⟩
  exact Heap.get?_push_of_some _ (Heap.get?_push_of_some _ ((Heap.get?_update_other _ _ (Ne.symm hb)).trans e))
theorem AH (hh:A.handled=none) (it t:Addr) (hne:t≠it) (its:Array Value):Draws prog w A it [it,t] its.size (fun i v=>its[i]?=some v) (fun i h=>h.IsTupleIter it t i∧h.IsTuple t its) where
  live:=fun _ _ st=>by
    obtain ⟨⟨o,g,_⟩,_⟩:=st
    exact ⟨o,g⟩
  frame:=fun _ _ _ st k=>by
    obtain ⟨⟨o,g,r⟩,⟨o2,g2,r2⟩⟩:=st
    exact ⟨⟨o,k it (by simp) o g,r⟩,⟨o2,k t (by simp) o2 g2,r2⟩⟩
  item:=fun i s Q E hi st hQ=>y2 st.1 st.2 (x:=its[i]) (by simp [hi]) fun h' i' sb=>by
    refine hQ _ h' s.toks (by simp [hi]) ⟨i',?_⟩ sb
    obtain ⟨o2,g2,r2⟩:=st.2
    exact ⟨o2,(sb.2 t hne).trans g2,r2⟩
  done:=fun s Q E st hE=>rC hh st.1 st.2 (by simp) hE
end
section
variable {prog:Program} {w:World} {A:Around} {E:Value→Shared→Prop} {s:Shared} {z TI TO i1 i2:Addr} {f1 f2:List Addr} {n1 n2 k:Nat} {P1 P2:Nat→Value→Prop} {S1 S2:Nat→Heap→Prop} {a b:Value}
end
end L2
set_option maxRecDepth 100000
set_option maxHeartbeats 4000000
namespace L2
open PySem PySem.Spec PyProof.Rows
section
variable {X:Cx} {pins:List (Addr × Obj)} {σ:L2.St} {H:Hp} {s:Shared}
theorem Inv.turnLay {ch:List Addr} {h':Heap} {t':Nat} {T:Addr} {o:HO} (I:Inv X pins σ H s) (hf:∀ b∈ch,si X pins H b) (hT:s.heap.objs.size≤T) (k:∀ b u,b ∉ ch→s.heap.get? b=some u→h'.get? b=some u)
    (new:fP X.prog X.w (upd H T o) h' T o):Inv X pins σ (upd H T o) { s with heap:=h',toks:=t' }:=by
  have hn:H T=none:=I.hok.fresh hT
  have nch:∀ b u,H b=some u→b ∉ ch:=fun b u e z=>by rw [(hf b z).1] at e; cases e
  have neT:∀ b u,s.heap.get? b=some u→b≠T:=fun b u e=>Nat.ne_of_lt (Nat.lt_of_lt_of_le (Heap.lt_size e) hT)
  refine I.step (g':=s.gens) (d':=s.drawn) (ch:=ch) (fun b hb=>?_) (fun b u _ _ hc e _=>k b u hc e) (fun b u _ _ hc e _=>⟨u.slots,k b u hc e⟩) (fun b u _ e n=>by rw [bG (neT b u e)]; exact n)
    (fun b u hc e=>⟨u,k b u hc e⟩) (fun b xs e=>by rw [bG (bP e hn)]; exact e) (fun b u v e=>by rw [bG (bP e hn)]; exact e) (fun b ps e=>by rw [bG (bP e hn)]; exact e) (fun m hm=>?_) (fun b u e=>?_) I.bare
  · obtain ⟨f0,f1,f2,f3,f4,f5⟩:=hf b hb
    exact ⟨f3,f1,f4,f5⟩
  · obtain ⟨o2,es,ep,ho,r⟩:=hm
    exact ⟨o2,es,ep,k _ o2 (fun z=>(hf _ z).2.1 rfl) ho,r⟩
  · by_cases hb:b=T
    · subst hb; rw [cA] at e; cases e; exact new
    · rw [bG hb] at e
      refine (I.hok b u e).stay (fun c v hc q=>k c v ?_ q) (fun c q=>by rw [bG (bP q hn)]; exact q) (fun c xs q=>by rw [bG (bP q hn)]; exact q) fun c o' w' q=>by rw [bG (bP q hn)]; exact q
      rcases hc with z | z
      · rw [z]; exact nch b u e
      · exact nch c _ z
theorem Inv.turneds {ch:List Addr} {h':Heap} {t':Nat} (I:Inv X pins σ H s) (hf:∀ b∈ch,si X pins H b) (k:∀ b u,b ∉ ch→s.heap.get? b=some u→h'.get? b=some u):Inv X pins σ H { s with heap:=h',toks:=t' }:=by
  have nch:∀ b u,H b=some u→b ∉ ch:=fun b u e z=>by rw [(hf b z).1] at e; cases e
  refine I.step (g':=s.gens) (d':=s.drawn) (ch:=ch) (fun b hb=>?_) (fun b u _ _ hc e _=>k b u hc e) (fun b u _ _ hc e _=>⟨u.slots,k b u hc e⟩) (fun b u _ e n=>n)
    (fun b u hc e=>⟨u,k b u hc e⟩) (fun b xs e=>e) (fun b u v e=>e) (fun b ps e=>e) (fun m hm=>?_) (fun b u e=>?_) I.bare
  · obtain ⟨f0,f1,f2,f3,f4,f5⟩:=hf b hb
    exact ⟨f3,f1,f4,f5⟩
  · obtain ⟨o2,es,ep,ho,r⟩:=hm
    exact ⟨o2,es,ep,k _ o2 (fun z=>(hf _ z).2.1 rfl) ho,r⟩
  · refine (I.hok b u e).stay (fun c v hc q=>k c v ?_ q) (fun _ q=>q) fun _ _ q=>q
    rcases hc with z | z
    · rw [z]; exact nch b u e
    · exact nch c _ z
end
end L2
set_option maxRecDepth 100000
set_option maxHeartbeats 4000000
namespace L2
open PySem PySem.Spec PyProof.Rows
inductive Rs (α:Type) where
  | ok (a:α)
  | rz (C:Addr)
  | no
namespace Rs
noncomputable def bind {α β:Type}:Rs α→(α→Rs β)→Rs β
  | ok a,f=>f a
  | rz C,_=>rz C
  | no,_=>no
noncomputable def fX {α:Type}:Option α→Rs α
  | some a=>ok a
  | none=>no
noncomputable def calm {α:Type}:Rs α→Rs α
  | ok a=>ok a
  | _=>no
@[simp] theorem aj {α β:Type} (a:α) (f:α→Rs β):(ok a).bind f=f a:=rfl
@[simp] theorem kJ {α β:Type} (C:Addr) (f:α→Rs β):(rz C).bind f=rz C:=rfl
@[simp] theorem ej {α β:Type} (f:α→Rs β):(no:Rs α).bind f=no:=rfl
@[simp] theorem ao {α:Type} (a:α):fX (some a)=ok a:=rfl
@[simp] theorem FQ {α:Type}:fX (none:Option α)=no:=rfl
@[simp] theorem kU {α:Type} (a:α):(ok a).calm=ok a:=rfl
end Rs
noncomputable def del (H:Hp) (A:List Addr):Hp:=fun b=>if b∈A then none else H b
theorem zQ {H:Hp}:del H []=H:=by funext b; simp [del]
theorem o7 {H:Hp} {A:List Addr} {b:Addr} (h:b∈A):del H A b=none:=by simp [del,h]
theorem cz {H:Hp} {A:List Addr} {b:Addr} (h:b ∉ A):del H A b=H b:=by simp [del,h]
theorem gv {H:Hp} {A:List Addr} {b:Addr} {o:HO} (h:del H A b=some o):b ∉ A∧H b=some o:=by
  by_cases z:b∈A
  · rw [o7 z] at h; cases h
  · rw [cz z] at h; exact ⟨z,h⟩
theorem a9 {H:Hp} {A:List Addr}:aT (del H A) H:=fun _ _ e=>(gv e).2
theorem aT.del {H H':Hp} {A:List Addr} (s:aT H H'):aT (del H A) (L2.del H' A):=fun b o e=>by
  obtain ⟨z,e⟩:=gv e
  rw [cz z]; exact s b o e
noncomputable def Ls (H:Hp) (A:List Addr):Prop:=∀ a∈A,∃ xs,H a=some (.lst xs)
theorem Ls.same {H H':Hp} {A:List Addr} (h:Ls H A) (s:aT H H'):Ls H' A:=fun a ha=>by
  obtain ⟨xs,e⟩:=h a ha
  exact ⟨xs,s _ _ e⟩
theorem Ls.nil {H:Hp}:Ls H []:=fun _ h=>by cases h
theorem Ls.new {H:Hp} {A:List Addr} {p:Addr} (h:Ls H A) (hp:H p=none):p ∉ A:=fun z=>by
  obtain ⟨xs,e⟩:=h p z
  rw [hp] at e; cases e
noncomputable def aE (ns:List Int):PyData:=.dict [(.none,.list (ns.map .int))]
mutual
noncomputable def Is (K:PySem.W.Frag) (H:Hp):PyData→V→Prop
  | .none,v=>v=.non
  | .bool b,v=>v=.bl b
  | .int i,v=>v=.int i
  | .str x,v=>v=.str x
  | .list ds,v=>∃ a xs,v=.ref a∧H a=some (.lst xs)∧Iss K H ds xs
  | .tuple ds,v=>∃ a xs,v=.ref a∧H a=some (.tup xs)∧Iss K H ds xs
  | .dict kvs,v=>(∃ a ns,v=.ref a∧kvs=[(PyData.none,PyData.list (List.map PyData.int ns))]∧SqL K H a (List.map V.int ns)) ∨
      ∃ (a C dx:Addr) (fs:List (Str × V)),v=.ref a∧H a=some (.ins C dx fs)∧fs.lookup ("@":Str)=none∧(Isk K H kvs (("",.int (C:Int))::fs)∨Isk K H kvs (("",.int (C:Int))::("@",.int (a:Int))::fs))
noncomputable def Iss (K:PySem.W.Frag) (H:Hp):List PyData→List V→Prop
  | [],vs=>vs=[]
  | d::ds,vs=>∃ v r,vs=v::r∧Is K H d v∧Iss K H ds r
noncomputable def Isk (K:PySem.W.Frag) (H:Hp):List (PyData × PyData)→List (Str × V)→Prop
  | [],fs=>fs=[]
  | (k,d)::r,fs=>∃ f v fs',fs=(f,v)::fs'∧k=.str f∧Is K H d v∧Isk K H r fs'
end
noncomputable def BX (C:Addr) (fds:List (Str × PyData)):PyData:=.dict ((.str "",.int (C:Int))::fds.map fun p=>(.str p.1,p.2))
section
variable {K:PySem.W.Frag} {H H':Hp}
theorem dz {i:Int}:Is K H (.int i) (.int i):=by unfold Is; rfl
theorem is_bool {b:Bool}:Is K H (.bool b) (.bl b):=by unfold Is; rfl
theorem is_none:Is K H .none .non:=by unfold Is; rfl
theorem CB {x:Str}:Is K H (.str x) (.str x):=by unfold Is; rfl
theorem nz {ds:List PyData} {a:Addr} {xs:List V} (h:H a=some (.tup xs)) (h2:Iss K H ds xs):Is K H (.tuple ds) (.ref a):=by unfold Is; exact ⟨a,xs,rfl,h,h2⟩
theorem rK {ds:List PyData} {a:Addr} {xs:List V} (h:H a=some (.lst xs)) (h2:Iss K H ds xs):Is K H (.list ds) (.ref a):=by unfold Is; exact ⟨a,xs,rfl,h,h2⟩
theorem Bi {a:Addr} {ns:List Int} (h:SqL K H a (ns.map V.int)):Is K H (aE ns) (.ref a):=by unfold aE Is; exact .inl ⟨a,ns,rfl,rfl,h⟩
theorem gm:Iss K H [] []:=by unfold Iss; rfl
theorem fB {d:PyData} {ds:List PyData} {v:V} {vs:List V} (h:Is K H d v) (h2:Iss K H ds vs):Iss K H (d::ds) (v::vs):=by unfold Iss; exact ⟨v,vs,rfl,h,h2⟩
theorem qu {d:PyData} {v:V} (h:Is K H d v):Iss K H [d] [v]:=fB h gm
theorem Is.ofInt {i:Int} {v:V} (h:Is K H (.int i) v):v=.int i:=by unfold Is at h; exact h
theorem Is.ofBool {i:Bool} {v:V} (h:Is K H (.bool i) v):v=.bl i:=by unfold Is at h; exact h
theorem Is.ofNone {v:V} (h:Is K H .none v):v=.non:=by unfold Is at h; exact h
theorem Is.ofStr {x:Str} {v:V} (h:Is K H (.str x) v):v=.str x:=by unfold Is at h; exact h
theorem Is.ofTup {ds:List PyData} {v:V} (h:Is K H (.tuple ds) v):∃ a xs,v=.ref a∧H a=some (.tup xs)∧Iss K H ds xs:=by unfold Is at h; exact h
theorem Is.ofLst {ds:List PyData} {v:V} (h:Is K H (.list ds) v):∃ a xs,v=.ref a∧H a=some (.lst xs)∧Iss K H ds xs:=by unfold Is at h; exact h
theorem Is.ofScript {ns:List Int} {v:V} (h:Is K H (aE ns) v):∃ a,v=.ref a∧SqL K H a (ns.map V.int):=by
  unfold aE Is at h
  rcases h with h | ⟨a,C,dx,fs,_,_,_,h | h⟩
  case inr.inl=>unfold Isk at h; obtain ⟨f,_,_,_,h,_⟩:=h; cases h
  case inr.inr=>unfold Isk at h; obtain ⟨f,_,_,_,h,_⟩:=h; cases h
  obtain ⟨a,ms,e,e2,h⟩:=h
  have e3:ns.map PyData.int=ms.map PyData.int:=by injection e2 with e2 _; injection e2 with _ e2; injection e2
  have e4:ns=ms:=by
    have inj:∀ (a b:List Int),a.map PyData.int=b.map PyData.int→a=b:=by
      intro a
      induction a with
      | nil=>intro b hb; cases b with | nil=>rfl | cons _ _=>simp at hb
      | cons x r ih =>
        intro b hb
        cases b with
        | nil=>simp at hb
        | cons y s =>
          simp only [List.map_cons,List.cons.injEq,PyData.int.injEq] at hb
          rw [hb.1,ih s hb.2]
    exact inj _ _ e3
  subst e4
  exact ⟨a,e,h⟩
theorem Iss.nil_of {vs:List V} (h:Iss K H [] vs):vs=[]:=by unfold Iss at h; exact h
theorem Iss.cons_of {d:PyData} {ds:List PyData} {vs:List V} (h:Iss K H (d::ds) vs):∃ v r,vs=v::r∧Is K H d v∧Iss K H ds r:=by unfold Iss at h; exact h
theorem Iss.length:∀ {ds:List PyData} {vs:List V},Iss K H ds vs→vs.length=ds.length
  | [],_,h=>by rw [h.nil_of]; rfl
  | _::_,_,h=>by
    obtain ⟨v,r,e,_,h2⟩:=h.cons_of
    rw [e,List.length_cons,List.length_cons,Iss.length h2]
mutual
theorem Is.same (e:aT H H'):∀ {d:PyData} {v:V},Is K H d v→Is K H' d v
  | .none,_,h=>by unfold Is at h ⊢; exact h
  | .bool _,_,h=>by unfold Is at h ⊢; exact h
  | .int _,_,h=>by unfold Is at h ⊢; exact h
  | .str _,_,h=>by unfold Is at h ⊢; exact h
  | .list ds,_,h=>by
    unfold Is at h ⊢
    obtain ⟨a,xs,e1,h1,h2⟩:=h
    exact ⟨a,xs,e1,e _ _ h1,Iss.same e h2⟩
  | .tuple ds,_,h=>by
    unfold Is at h ⊢
    obtain ⟨a,xs,e1,h1,h2⟩:=h
    exact ⟨a,xs,e1,e _ _ h1,Iss.same e h2⟩
  | .dict _,_,h=>by
    unfold Is at h ⊢
    rcases h with ⟨a,ns,e1,e2,h2⟩ | ⟨a,C,dx,fs,e1,h1,hn,h2 | h2⟩
    · exact .inl ⟨a,ns,e1,e2,e.seq h2⟩
    · exact .inr ⟨a,C,dx,fs,e1,e _ _ h1,hn,.inl (Isk.same e h2)⟩
    · exact .inr ⟨a,C,dx,fs,e1,e _ _ h1,hn,.inr (Isk.same e h2)⟩
theorem Iss.same (e:aT H H'):∀ {ds:List PyData} {vs:List V},Iss K H ds vs→Iss K H' ds vs
  | [],_,h=>by unfold Iss at h ⊢; exact h
  | d::ds,_,h=>by
    unfold Iss at h ⊢
    obtain ⟨v,r,e1,h1,h2⟩:=h
    exact ⟨v,r,e1,Is.same e h1,Iss.same e h2⟩
theorem Isk.same (e:aT H H'):∀ {ds:List (PyData × PyData)} {fs:List (Str × V)},Isk K H ds fs→Isk K H' ds fs
  | [],_,h=>by unfold Isk at h ⊢; exact h
  | (k,d)::ds,_,h=>by
    unfold Isk at h ⊢
    obtain ⟨f,v,r,e1,e2,h1,h2⟩:=h
    exact ⟨f,v,r,e1,e2,Is.same e h1,Isk.same e h2⟩
end
theorem zN:Isk K H [] []:=by unfold Isk; rfl
theorem xM {f:Str} {d:PyData} {r:List (PyData × PyData)} {v:V} {fs:List (Str × V)} (h:Is K H d v) (h2:Isk K H r fs):Isk K H ((.str f,d)::r) ((f,v)::fs):=by unfold Isk; exact ⟨f,v,fs,rfl,rfl,h,h2⟩
theorem FL {C a dx:Addr} {fds:List (Str × PyData)} {fs:List (Str × V)} (h:H a=some (.ins C dx fs)) (hn:fs.lookup ("@":Str)=none) (h2:Isk K H (fds.map fun p=>(.str p.1,p.2)) fs):Is K H (BX C fds) (.ref a):=by
  unfold BX Is
  exact .inr ⟨a,C,dx,fs,rfl,h,hn,.inl (xM dz h2)⟩
theorem Ft {A:List Addr} (hA:Ls H A) {a:Addr} {xs:List V} (h:H a=some (.tup xs)):del H A a=some (.tup xs):=by
  rw [cz (fun q=>by obtain ⟨ys,e2⟩:=hA a q; rw [h] at e2; cases e2)]; exact h
mutual
theorem Is.dl {A:List Addr} (hA:Ls H A):∀ {d:PyData} {v:V},i5 d=true→Is K H d v→Is K (del H A) d v
  | .none,_,_,h=>by unfold Is at h ⊢; exact h
  | .bool _,_,_,h=>by unfold Is at h ⊢; exact h
  | .int _,_,_,h=>by unfold Is at h ⊢; exact h
  | .str _,_,_,h=>by unfold Is at h ⊢; exact h
  | .list _,_,n,_=>by unfold i5 at n; cases n
  | .dict _,_,n,_=>by unfold i5 at n; cases n
  | .tuple ds,_,n,h=>by
    unfold i5 at n
    obtain ⟨a,xs,e,h1,h2⟩:=h.ofTup
    subst e
    exact nz (Ft hA h1) (Iss.dl hA n h2)
theorem Iss.dl {A:List Addr} (hA:Ls H A):∀ {ds:List PyData} {vs:List V},m8 ds=true→Iss K H ds vs→Iss K (del H A) ds vs
  | [],_,_,h=>by rw [h.nil_of]; exact gm
  | d::ds,_,n,h=>by
    unfold m8 at n
    obtain ⟨n1,n2⟩:=Bool.and_eq_true_iff.mp n
    obtain ⟨v,r,e,h1,h2⟩:=h.cons_of
    subst e
    exact fB (Is.dl hA n1 h1) (Iss.dl hA n2 h2)
end
mutual
noncomputable def b7:PyData→Bool
  | .list ds=>jL ds
  | .tuple ds=>jL ds
  | .dict _=>false
  | _=>true
noncomputable def jL:List PyData→Bool
  | []=>true
  | d::ds=>b7 d && jL ds
end
mutual
theorem Is.isd:∀ {d:PyData} {v:V},b7 d=true→Is K H d v→IsD K H d v
  | .none,_,_,h=>by rw [h.ofNone]; exact Cn
  | .bool _,_,_,h=>by rw [h.ofBool]; exact Df
  | .int _,_,_,h=>by rw [h.ofInt]; exact u9
  | .str _,_,_,h=>by rw [h.ofStr]; exact D4
  | .list ds,_,n,h=>by
    unfold b7 at n
    obtain ⟨a,xs,e,h1,h2⟩:=h.ofLst
    subst e
    exact vS (SqL.of h1) (Iss.isd n h2)
  | .tuple ds,_,n,h=>by
    unfold b7 at n
    obtain ⟨a,xs,e,h1,h2⟩:=h.ofTup
    subst e
    exact Dm (SqT.of h1) (Iss.isd n h2)
  | .dict _,_,n,_=>by unfold b7 at n; cases n
theorem Iss.isd:∀ {ds:List PyData} {vs:List V},jL ds=true→Iss K H ds vs→fT K H ds vs
  | [],_,_,h=>by rw [h.nil_of]; exact rF
  | d::ds,_,n,h=>by
    unfold jL at n
    obtain ⟨n1,n2⟩:=Bool.and_eq_true_iff.mp n
    obtain ⟨v,r,e,h1,h2⟩:=h.cons_of
    subst e
    exact ux (Is.isd n1 h1) (Iss.isd n2 h2)
end
noncomputable def gP:PyData→Bool
  | .none=>true
  | .bool _=>true
  | .int _=>true
  | .str _=>true
  | _=>false
theorem IsD.is {d:PyData} {v:V} (n:gP d=true) (h:IsD K H d v):Is K H d v:=by
  cases d with
  | none=>rw [h.ofNone]; exact is_none
  | bool _=>rw [h.ofBool]; exact is_bool
  | int _=>rw [h.ofInt]; exact dz
  | str _=>rw [h.ofStr]; exact CB
  | _=>cases n
theorem yJ {d:PyData} (n:gP d=true):i5 d=true:=by
  cases d with
  | list _=>cases n
  | tuple _=>cases n
  | dict _=>cases n
  | _=>unfold i5; rfl
theorem Iss.get:∀ {ds:List PyData} {vs:List V} {i:Nat} {v:V},Iss K H ds vs→vs[i]?=some v→∃ d,ds[i]?=some d∧Is K H d v
  | [],_,i,v,h,e=>by rw [h.nil_of] at e; simp at e
  | d::ds,_,i,v,h,e=>by
    obtain ⟨w,r,e1,h1,h2⟩:=h.cons_of
    subst e1
    cases i with
    | zero=>simp at e; subst e; exact ⟨d,rfl,h1⟩
    | succ i=>simpa using Iss.get (i:=i) h2 (by simpa using e)
theorem Iss.getD:∀ {ds:List PyData} {vs:List V} {i:Nat} {d:PyData},Iss K H ds vs→ds[i]?=some d→∃ v,vs[i]?=some v∧Is K H d v
  | [],_,i,v,h,e=>by simp at e
  | d::ds,_,i,v,h,e=>by
    obtain ⟨w,r,e1,h1,h2⟩:=h.cons_of
    subst e1
    cases i with
    | zero=>simp at e; subst e; exact ⟨w,rfl,h1⟩
    | succ i=>simpa using Iss.getD (i:=i) h2 (by simpa using e)
theorem Iss.append:∀ {ds es:List PyData} {vs us:List V},Iss K H ds vs→Iss K H es us→Iss K H (ds++es) (vs++us)
  | [],_,_,_,h,h'=>by rw [h.nil_of]; exact h'
  | d::ds,es,_,us,h,h'=>by
    obtain ⟨v,r,e,h1,h2⟩:=h.cons_of
    subst e
    exact fB h1 (Iss.append h2 h')
theorem Iss.take:∀ {ds:List PyData} {vs:List V} (n:Nat),Iss K H ds vs→Iss K H (ds.take n) (vs.take n)
  | [],_,n,h=>by rw [h.nil_of]; simpa using gm
  | d::ds,_,0,h=>by simpa using gm
  | d::ds,_,n + 1,h=>by
    obtain ⟨v,r,e,h1,h2⟩:=h.cons_of
    subst e
    exact fB h1 (Iss.take n h2)
theorem Iss.drop:∀ {ds:List PyData} {vs:List V} (n:Nat),Iss K H ds vs→Iss K H (ds.drop n) (vs.drop n)
  | [],_,n,h=>by rw [h.nil_of]; simpa using gm
  | d::ds,_,0,h=>h
  | d::ds,_,n + 1,h=>by
    obtain ⟨v,r,e,h1,h2⟩:=h.cons_of
    subst e
    exact Iss.drop n h2
theorem Iss.set {d:PyData} {v:V} (hv:Is K H d v):∀ {ds:List PyData} {vs:List V} (i:Nat),Iss K H ds vs→Iss K H (ds.set i d) (vs.set i v)
  | [],_,n,h=>by rw [h.nil_of]; simpa using gm
  | e::ds,_,0,h=>by
    obtain ⟨u,r,z,h1,h2⟩:=h.cons_of
    subst z
    exact fB hv h2
  | e::ds,_,n + 1,h=>by
    obtain ⟨u,r,z,h1,h2⟩:=h.cons_of
    subst z
    exact fB h1 (Iss.set hv n h2)
theorem Iss.eraseIdx:∀ {ds:List PyData} {vs:List V} (i:Nat),Iss K H ds vs→Iss K H (ds.eraseIdx i) (vs.eraseIdx i)
  | [],_,n,h=>by rw [h.nil_of]; simpa using gm
  | e::ds,_,0,h=>by
    obtain ⟨u,r,z,h1,h2⟩:=h.cons_of
    subst z
    exact h2
  | e::ds,_,n + 1,h=>by
    obtain ⟨u,r,z,h1,h2⟩:=h.cons_of
    subst z
    exact fB h1 (Iss.eraseIdx n h2)
theorem Iss.rep {ds:List PyData} {vs:List V} (h:Iss K H ds vs):∀ k:Nat,Iss K H (List.replicate k ds).flatten (List.replicate k vs).flatten
  | 0=>gm
  | k + 1=>by
    rw [List.replicate_succ,List.replicate_succ,List.flatten_cons,List.flatten_cons]
    exact h.append (Iss.rep h k)
theorem om:∀ (ns:List Int),Iss K H (ns.map PyData.int) (ns.map V.int)
  | []=>gm
  | _::r=>fB dz (om r)
theorem Iss.ofInts:∀ {ns:List Int} {vs:List V},Iss K H (ns.map PyData.int) vs→vs=ns.map V.int
  | [],_,h=>h.nil_of
  | n::r,_,h=>by
    obtain ⟨v,t,e,h1,h2⟩:=h.cons_of
    rw [e,h1.ofInt,Iss.ofInts h2]; rfl
theorem Iss.ofBools:∀ {ns:List Bool} {vs:List V},Iss K H (ns.map PyData.bool) vs→vs=ns.map V.bl
  | [],_,h=>h.nil_of
  | n::r,_,h=>by
    obtain ⟨v,t,e,h1,h2⟩:=h.cons_of
    rw [e,h1.ofBool,Iss.ofBools h2]; rfl
theorem Is.isNone {d:PyData} {v:V} (h:Is K H d v):(v=.non)↔d=.none:=by
  cases d with
  | none=>simp [h.ofNone]
  | bool b=>simp [h.ofBool]
  | int i=>simp [h.ofInt]
  | str x=>simp [h.ofStr]
  | list ds=>obtain ⟨a,xs,e,_⟩:=h.ofLst; simp [e]
  | tuple ds=>obtain ⟨a,xs,e,_⟩:=h.ofTup; simp [e]
  | dict _=>unfold Is at h; rcases h with ⟨a,ns,e,_⟩ | ⟨a,C,dx,fs,e,_⟩ <;> simp [e]
theorem cT {p:Addr} {o:HO} (h:H p=none):aT H (upd H p o):=nH h
theorem vM {A:List Addr} {p:Addr} {o:HO} (h:p∈A):del (upd H p o) A=del H A:=by
  funext b
  by_cases z:b∈A
  · rw [o7 z,o7 z]
  · rw [cz z,cz z,bG (by rintro rfl; exact z h)]
theorem oq {A:List Addr} {ds:List PyData} {xs:List V} {p:Addr} (hA:Ls H A) (hp:H p=none) (h:Iss K (del H A) ds xs):Is K (del (upd H p (.tup xs)) A) (.tuple ds) (.ref p) :=
  nz (by rw [cz (hA.new hp)]; exact cA) (h.same (aT.del (cT hp)))
theorem l8 {A:List Addr} {ds:List PyData} {xs:List V} {p:Addr} (hA:Ls H A) (hp:H p=none) (h:Iss K (del H A) ds xs):Is K (del (upd H p (.lst xs)) A) (.list ds) (.ref p) :=
  rK (by rw [cz (hA.new hp)]; exact cA) (h.same (aT.del (cT hp)))
end
noncomputable abbrev Ds:=List (Option PyData)
structure fU (K:PySem.W.Frag) (H:Hp) (A:List Addr) (δ:Ds) (σ:St):Prop where
  ls:Ls H A
  len:δ.length=σ.length
  get:∀ (i:Nat) (d:PyData),δ[i]?=some (some d)→∃ v,σ[i]?=some (some v)∧Is K (del H A) d v
theorem fU.same {K:PySem.W.Frag} {H H':Hp} {A:List Addr} {δ:Ds} {σ:St} (R:fU K H A δ σ) (s:aT H H'):fU K H' A δ σ :=
  ⟨R.ls.same s,R.len,fun i d e=>by
    obtain ⟨v,e1,h⟩:=R.get i d e
    exact ⟨v,e1,h.same s.del⟩⟩
noncomputable def jN (K:PySem.W.Frag) (E:XK) (A:List Addr) (H:Hp) (r:Rs PyData) (Q:VK):Prop:=match r with
  | .ok d=>∀ v H',aT H H'→Is K (del H' A) d v→Q v H'
  | .rz C=>∀ H',aT H H'→E (.ref C) none H'
  | .no=>False
noncomputable def HP (K:PySem.W.Frag) (E:XK) (A:List Addr) (H:Hp) (r:Rs (List PyData)) (Q:List V→Hp→Prop):Prop:=match r with
  | .ok d=>∀ v H',aT H H'→Iss K (del H' A) d v→Q v H'
  | .rz C=>∀ H',aT H H'→E (.ref C) none H'
  | .no=>False
noncomputable def xm (E:XK) (H:Hp) (r:Rs Bool) (Q:Bool→Hp→Prop):Prop:=match r with
  | .ok d=>∀ H',aT H H'→Q d H'
  | .rz C=>∀ H',aT H H'→E (.ref C) none H'
  | .no=>False
noncomputable def eD (K:PySem.W.Frag) (E:XK) (g:Ds→Rs PyData):TE:=fun σ H Q=>∃ A δ,fU K H A δ σ∧jN K E A H (g δ) Q
noncomputable def aD (K:PySem.W.Frag) (E:XK) (g:Ds→Rs (List PyData)):TA:=fun σ H Q=>∃ A δ,fU K H A δ σ∧HP K E A H (g δ) Q
noncomputable def cD (K:PySem.W.Frag) (E:XK) (g:Ds→Rs Bool):TT:=fun σ H Q=>∃ A δ,fU K H A δ σ∧xm E H (g δ) Q
noncomputable def PD (X:Cx) (E:XK) (e:Expr) (g:Ds→Rs PyData):Prop:=PE X e (eD X.K E g)
noncomputable def PAD (X:Cx) (E:XK) (es:List Expr) (g:Ds→Rs (List PyData)):Prop:=PA X es (aD X.K E g)∧∀ δ ds,g δ=.ok ds→ds.length=es.length
noncomputable def PCD (X:Cx) (E:XK) (e:Expr) (g:Ds→Rs Bool):Prop:=PT X e (cD X.K E g)
noncomputable def PWD (X:Cx) (E:XK) (e:Expr) (g:Ds→Rs Bool):Prop:=PW X e (cD X.K E g)
theorem PE.imp {X:Cx} {e:Expr} {t t':TE} (h:PE X e t) (k:∀ σ H Q,t' σ H Q→t σ H Q):PE X e t':=fun pins s σ H Q I q=>h pins s σ H Q I (k σ H Q q)
theorem PT.imp {X:Cx} {e:Expr} {t t':TT} (h:PT X e t) (k:∀ σ H Q,t' σ H Q→t σ H Q):PT X e t':=fun pins s σ H Q I q=>h pins s σ H Q I (k σ H Q q)
theorem PW.imp {X:Cx} {e:Expr} {t t':TT} (h:PW X e t) (k:∀ σ H Q,t' σ H Q→t σ H Q):PW X e t':=fun w pins s σ H Q I q=>h w pins s σ H Q I (k σ H Q q)
theorem PA.imp {X:Cx} {e:List Expr} {t t':TA} (h:PA X e t) (k:∀ σ H Q,t' σ H Q→t σ H Q):PA X e t':=fun p pins s σ H Q I q=>h p pins s σ H Q I (k σ H Q q)
theorem PS.imp {X:Cx} {e:Stmt} {t t':TS} (h:PS X e t) (k:∀ D σ H,t' D σ H→t D σ H):PS X e t':=fun pins s σ H D I q=>h pins s σ H D I (k D σ H q)
theorem PSs.imp {X:Cx} {e:List Stmt} {t t':TS} (h:PSs X e t) (k:∀ D σ H,t' D σ H→t D σ H):PSs X e t':=fun pins s σ H D I q=>h pins s σ H D I (k D σ H q)
theorem jN.mono {K:PySem.W.Frag} {E:XK} {A:List Addr} {H H1:Hp} {r:Rs PyData} {Q:VK} (h:jN K E A H r Q) (s:aT H H1):jN K E A H1 r Q:=by
  cases r with
  | ok d=>exact fun v H' s' q=>h v H' (s.trans s') q
  | rz C=>exact fun H' s'=>h H' (s.trans s')
  | no=>exact h
theorem xm.mono {E:XK} {H H1:Hp} {r:Rs Bool} {Q:Bool→Hp→Prop} (h:xm E H r Q) (s:aT H H1):xm E H1 r Q:=by
  cases r with
  | ok d=>exact fun H' s'=>h H' (s.trans s')
  | rz C=>exact fun H' s'=>h H' (s.trans s')
  | no=>exact h
theorem eD.run {K:PySem.W.Frag} {E:XK} {g:Ds→Rs PyData} {σ:St} {H:Hp} {A:List Addr} {δ:Ds} {Q:VK} (R:fU K H A δ σ)
    (ok:∀ d,g δ=.ok d→∀ v H',aT H H'→fU K H' A δ σ→Is K (del H' A) d v→Q v H') (rz:∀ C,g δ=.rz C→∀ H',aT H H'→E (.ref C) none H') (no:g δ=.no→False):eD K E g σ H Q:=by
  refine ⟨A,δ,R,?_⟩
  cases e:g δ with
  | ok d=>exact fun v H' s q=>ok d e v H' s (R.same s) q
  | rz C=>exact fun H' s=>rz C e H' s
  | no=>exact no e
theorem aD.run {K:PySem.W.Frag} {E:XK} {g:Ds→Rs (List PyData)} {σ:St} {H:Hp} {A:List Addr} {δ:Ds} {Q:List V→Hp→Prop} (R:fU K H A δ σ)
    (ok:∀ d,g δ=.ok d→∀ v H',aT H H'→fU K H' A δ σ→Iss K (del H' A) d v→Q v H') (rz:∀ C,g δ=.rz C→∀ H',aT H H'→E (.ref C) none H') (no:g δ=.no→False):aD K E g σ H Q:=by
  refine ⟨A,δ,R,?_⟩
  cases e:g δ with
  | ok d=>exact fun v H' s q=>ok d e v H' s (R.same s) q
  | rz C=>exact fun H' s=>rz C e H' s
  | no=>exact no e
theorem cD.run {K:PySem.W.Frag} {E:XK} {g:Ds→Rs Bool} {σ:St} {H:Hp} {A:List Addr} {δ:Ds} {Q:Bool→Hp→Prop} (R:fU K H A δ σ)
    (ok:∀ d,g δ=.ok d→∀ H',aT H H'→fU K H' A δ σ→Q d H') (rz:∀ C,g δ=.rz C→∀ H',aT H H'→E (.ref C) none H') (no:g δ=.no→False):cD K E g σ H Q:=by
  refine ⟨A,δ,R,?_⟩
  cases e:g δ with
  | ok d=>exact fun H' s=>ok d e H' s (R.same s)
  | rz C=>exact fun H' s=>rz C e H' s
  | no=>exact no e
end L2
set_option maxRecDepth 100000
set_option maxHeartbeats 4000000
namespace L2
open PySem PySem.Spec PyProof.Rows
noncomputable def ag (i:Nat):Ds→Rs PyData:=fun δ=>match δ[i]? with
  | some (some d)=>.ok d
  | _=>.no
noncomputable def gC (d:PyData):Ds→Rs PyData:=fun _=>.ok d
noncomputable def g1 (f:PyData→Option PyData) (a:Ds→Rs PyData):Ds→Rs PyData:=fun δ=>(a δ).bind fun x=>Rs.fX (f x)
noncomputable def g2 (f:PyData→PyData→Option PyData) (a b:Ds→Rs PyData):Ds→Rs PyData:=fun δ=>(a δ).bind fun x=>(b δ).bind fun y=>Rs.fX (f x y)
noncomputable def gF (f:List PyData→Option PyData) (as:Ds→Rs (List PyData)):Ds→Rs PyData:=fun δ=>(as δ).bind fun ds=>Rs.fX (f ds)
noncomputable def ak:Ds→Rs (List PyData):=fun _=>.ok []
noncomputable def af (a:Ds→Rs PyData) (r:Ds→Rs (List PyData)):Ds→Rs (List PyData):=fun δ=>(a δ).bind fun x=>(r δ).bind fun xs=>.ok (x::xs)
noncomputable def iY (as:Ds→Rs (List PyData)):Ds→Rs PyData:=fun δ=>(as δ).bind fun ds=>.ok (.tuple ds)
noncomputable def ic (as:Ds→Rs (List PyData)):Ds→Rs PyData:=fun δ=>(as δ).bind fun ds=>.ok (.list ds)
noncomputable def ax (gf:List PyData→Rs PyData) (as:Ds→Rs (List PyData)):Ds→Rs PyData:=fun δ=>(as δ).bind gf
noncomputable def truth:PyData→Rs Bool
  | .bool b=>.ok b
  | _=>.no
noncomputable def gT (a:Ds→Rs PyData):Ds→Rs Bool:=fun δ=>(a δ).bind truth
noncomputable def j4 (a:Ds→Rs Bool):Ds→Rs Bool:=fun δ=>(a δ).bind fun b=>.ok (!b)
noncomputable def EF (a b:Ds→Rs Bool):Ds→Rs Bool:=fun δ=>(a δ).bind fun x=>if x=true then b δ else .ok false
noncomputable def cOr (a b:Ds→Rs Bool):Ds→Rs Bool:=fun δ=>(a δ).bind fun x=>if x=true then .ok true else b δ
noncomputable def yV (a b:Ds→Rs PyData):Ds→Rs PyData:=fun δ=>(a δ).bind fun x=>(truth x).bind fun t=>if t=true then b δ else .ok (.bool false)
noncomputable def gOr (a b:Ds→Rs PyData):Ds→Rs PyData:=fun δ=>(a δ).bind fun x=>(truth x).bind fun t=>if t=true then .ok (.bool true) else b δ
noncomputable def HR (a:Ds→Rs PyData):Ds→Rs PyData:=fun δ=>(a δ).bind fun x=>(truth x).bind fun t=>.ok (.bool (!t))
noncomputable def gIf (c:Ds→Rs Bool) (a b:Ds→Rs PyData):Ds→Rs PyData:=fun δ=>(c δ).bind fun x=>if x=true then a δ else b δ
section
variable {X:Cx} {E:XK} {a b c e:Expr} {ga gb gc:Ds→Rs PyData} {pos:Pos}
theorem ah (i:Nat) {x:Str} {pos:Pos} (hN:X.N[i]?=some x:=by rfl) (hv:Vis X.env.scope x:=by first | exact Or.inl rfl | exact Or.inr (Or.inl rfl) | exact Or.inr (Or.inr rfl)) (hd:(x == ("__debug__":Str))=false:=by decide)
    (hcd:(x == ("__classdict__":Str))=false:=by decide):PD X E (.Name x pos) (ag i) :=
  (oP hN hv hd hcd).imp fun σ H Q pz3=>by
    obtain ⟨A,δ,R,o⟩:=pz3
    unfold ag at o
    split at o
    · rename_i d e
      obtain ⟨v,e1,h⟩:=R.get i d e
      exact ⟨v,e1,o v H (aT.refl H) h⟩
    · exact o.elim
theorem CK {v:V} {d:PyData} (h:PE X e (tC v)) (hi:∀ K H,Is K H d v):PD X E e (gC d):=h.imp fun σ H Q qz3=>(by obtain ⟨A,δ,R,o⟩:=qz3; exact o v H (aT.refl H) (hi _ _))
theorem aF {i j pos}:PD X E (.Constant (.int i) j pos) (gC (.int i)):=CK kv fun _ _=>dz
theorem lj {i j pos}:PD X E (.Constant (.bool i) j pos) (gC (.bool i)):=CK Hq fun _ _=>is_bool
theorem iA {j pos}:PD X E (.Constant .none j pos) (gC .none):=CK FE fun _ _=>is_none
theorem uX {i j pos}:PD X E (.Constant (.str i) j pos) (gC (.str i)):=CK Gr fun _ _=>CB
theorem h9 {i:Int} {x:Str} {pos:Pos} (hm:∃ t,X.mg x=some (.int i t)) (hg:Gl X x:=by rfl) (hd:(x == ("__debug__":Str))=false:=by decide):PD X E (.Name x pos) (gC (.int i)):=by
  obtain ⟨t,hm⟩:=hm
  exact CK (Ed (v:=.int i) hg hm ⟨_,rfl⟩ hd) fun _ _=>dz
noncomputable def OpD (K:PySem.W.Frag) (f:PyData→PyData→Option PyData) (r:R2):Prop :=
  ∀ (d1 d2 d:PyData) (x y:V) (H:Hp) (A:List Addr) (Q:VK),f d1 d2=some d→Ls H A→Is K (del H A) d1 x→Is K (del H A) d2 y→(∀ v H',aT H H'→Is K (del H' A) d v→Q v H')→r x y H Q
theorem g2.read {r:R2} {f:PyData→PyData→Option PyData} {σ:St} {H:Hp} {A:List Addr} {δ:Ds} {Q:VK} {K:PySem.W.Frag} (hr:OpD K f r) (R:fU K H A δ σ) (o:jN K E A H (g2 f ga gb δ) Q) :
    tOp r (eD K E ga) (eD K E gb) σ H Q:=by
  unfold g2 at o
  refine eD.run R (fun d1 e1 v H1 s1 R1 h1=>?_) (fun C e1 H' s'=>?_) (fun e1=>?_)
  · rw [e1] at o
    refine eD.run R1 (fun d2 e2 u H2 s2 R2 h2=>?_) (fun C e2 H' s'=>?_) (fun e2=>?_)
    · simp only [Rs.aj,e2] at o
      cases e3:f d1 d2 with
      | none=>rw [e3] at o; exact o.elim
      | some d =>
        rw [e3] at o
        exact hr d1 d2 d v u H2 A Q e3 R2.ls (h1.same s2.del) h2 fun w H' s q=>o w H' (s1.trans (s2.trans s)) q
    · simp only [Rs.aj,e2,Rs.kJ] at o
      exact o H' (s1.trans s')
    · simp only [Rs.aj,e2,Rs.ej] at o
      exact o
  · rw [e1] at o; exact o H' s'
  · rw [e1] at o; exact o
theorem kl {r:R2} {f:PyData→PyData→Option PyData} (hr:OpD X.K f r) (ha:PD X E a ga) (hb:PD X E b gb) (mk:∀ {ta tb:TE},PE X a ta→PE X b tb→PE X e (tOp r ta tb)):PD X E e (g2 f ga gb) :=
  (mk ha hb).imp fun σ H Q qz3=>(by obtain ⟨A,δ,R,o⟩:=qz3; exact g2.read hr R o)
theorem oB {r:R2} {f:PyData→PyData→Option PyData} (hr:OpD X.K f r) (ha:PD X E a ga) (hb:PD X E b gb) (mk:∀ {ta tb:TE},PE X a ta→PE X b tb→PT X e (EX (tOp r ta tb))):PCD X E e (gT (g2 f ga gb)) :=
  (mk ha hb).imp fun σ H Q pz3=>by
    obtain ⟨A,δ,R,o⟩:=pz3
    refine g2.read (Q:=fun x H'=>∃ k,x=.bl k∧Q k H') hr R ?_
    unfold gT at o
    cases q:g2 f ga gb δ with
    | no=>rw [q] at o; exact o
    | rz C=>rw [q] at o; exact o
    | ok d =>
      rw [q] at o
      cases d with
      | bool k=>exact fun v H' s h=>⟨k,h.ofBool,o H' s⟩
      | _=>exact o.elim
noncomputable def dI (f:Int→Int→Option PyData):PyData→PyData→Option PyData
  | .int i,.int j=>f i j
  | _,_=>none
theorem zL {f:Int→Int→Option PyData} {d1 d2 d:PyData} (h:dI f d1 d2=some d):∃ i j,d1=.int i∧d2=.int j∧f i j=some d:=by
  unfold dI at h
  split at h
  · exact ⟨_,_,rfl,rfl,h⟩
  · cases h
noncomputable def k6:=dI fun i j=>some (.int (i - j))
noncomputable def tF:=dI fun i j=>if 0 < j then some (.int (i % j)) else none
noncomputable def yi:=dI fun i j=>if 0 < j∧j < 1073741824 then some (.int (i / j)) else none
noncomputable def dLt:=dI fun i j=>some (.bool (decide (i < j)))
noncomputable def dLe:=dI fun i j=>some (.bool (decide (i≤j)))
noncomputable def dGt:=dI fun i j=>some (.bool (decide (j < i)))
noncomputable def dGe:=dI fun i j=>some (.bool (decide (j≤i)))
theorem ph {K:PySem.W.Frag} {f:Int→Int→PyData} {v:Int→Int→V} (hv:∀ i j K H,Is K H (f i j) (v i j)):OpD K (dI fun i j=>some (f i j)) (rI0 v):=fun d1 d2 d x y H A Q e hA h1 h2 k=>by
  obtain ⟨i,j,rfl,rfl,e⟩:=zL e
  cases e
  exact ⟨i,j,h1.ofInt,h2.ofInt,k _ H (aT.refl H) (hv _ _ _ _)⟩
theorem ET {K:PySem.W.Frag} {C C':Int→Int→Prop} [∀ i j,Decidable (C' i j)] {f:Int→Int→PyData} {v:Int→Int→V} (hc:∀ i j,C' i j→C i j) (hv:∀ i j K H,Is K H (f i j) (v i j)):OpD K (dI fun i j=>if C' i j then some (f i j) else none) (rI C v):=fun d1 d2 d x y H A Q e hA h1 h2 k=>by
  obtain ⟨i,j,rfl,rfl,e2⟩:=zL e
  by_cases z:C' i j
  · simp only [if_pos z] at e2
    cases e2
    exact ⟨i,j,h1.ofInt,h2.ofInt,hc i j z,k _ H (aT.refl H) (hv _ _ _ _)⟩
  · simp only [if_neg z] at e2; cases e2
theorem i4 (ha:PD X E a ga) (hb:PD X E b gb):PD X E (.BinOp a .Sub b pos) (g2 k6 ga gb):=kl (ph fun _ _ _ _=>dz) ha hb (gK Fd)
theorem Bv (ha:PD X E a ga) (hb:PD X E b gb):PD X E (.BinOp a .Mod b pos) (g2 tF ga gb):=kl (ET (fun _ _ h=>h) fun _ _ _ _=>dz) ha hb (gK rD)
theorem C8 (ha:PD X E a ga) (hb:PD X E b gb):PD X E (.BinOp a .FloorDiv b pos) (g2 yi ga gb):=kl (ET (C:=HA) (fun _ _ h=>h) fun _ _ _ _=>dz) ha hb (gK El)
theorem Hz (ha:PD X E a ga) (hb:PD X E b gb):PD X E (.Compare a [.LtE] [b] pos) (g2 dLe ga gb):=kl (ph fun _ _ _ _=>is_bool) ha hb fun h1 h2=>uD zt h1 h2 (mV _)
theorem Fe (ha:PD X E a ga) (hb:PD X E b gb):PCD X E (.Compare a [.Lt] [b] pos) (gT (g2 dLt ga gb)):=oB (ph fun _ _ _ _=>is_bool) ha hb fun h1 h2=>mB HE h1 h2 (mV _)
theorem BD (ha:PD X E a ga) (hb:PD X E b gb):PCD X E (.Compare a [.LtE] [b] pos) (gT (g2 dLe ga gb)):=oB (ph fun _ _ _ _=>is_bool) ha hb fun h1 h2=>mB zt h1 h2 (mV _)
open PySem.SeqAt in
noncomputable def dEq (x y:PyData):Option PyData:=if b7 x && b7 y && shaped x && shaped y then some (.bool (PyData.eqv x y)) else none
open PySem.SeqAt in
noncomputable def dNe (x y:PyData):Option PyData:=if b7 x && b7 y && shaped x && shaped y then some (.bool (!PyData.eqv x y)) else none
open PySem.SeqAt in
theorem BV {K:PySem.W.Frag}:OpD K dEq (fun x y H Q=>∃ d e,IsD K H d x∧IsD K H e y∧shaped d=true∧shaped e=true∧Q (.bl (PyData.eqv d e)) H):=fun d1 d2 d x y H A Q e hA h1 h2 k=>by
  unfold dEq at e
  split at e
  · rename_i z
    simp only [Bool.and_eq_true] at z
    cases e
    exact ⟨d1,d2,(h1.same a9).isd z.1.1.1,(h2.same a9).isd z.1.1.2,z.1.2,z.2,k _ H (aT.refl H) is_bool⟩
  · cases e
open PySem.SeqAt in
theorem Gd {K:PySem.W.Frag}:OpD K dNe (fun x y H Q=>∃ d e,IsD K H d x∧IsD K H e y∧shaped d=true∧shaped e=true∧Q (.bl (!PyData.eqv d e)) H):=fun d1 d2 d x y H A Q e hA h1 h2 k=>by
  unfold dNe at e
  split at e
  · rename_i z
    simp only [Bool.and_eq_true] at z
    cases e
    exact ⟨d1,d2,(h1.same a9).isd z.1.1.1,(h2.same a9).isd z.1.1.2,z.1.2,z.2,k _ H (aT.refl H) is_bool⟩
  · cases e
theorem EW {k:Nat} (hr:fJ k X.A) (ha:PD X E a ga) (hb:PD X E b gb):PD X E (.Compare a [.Eq] [b] pos) (g2 dEq ga gb):=kl BV ha hb fun h1 h2=>uD (zi hr.units) h1 h2 (mV _)
theorem rq {k:Nat} (hr:fJ k X.A) (ha:PD X E a ga) (hb:PD X E b gb):PCD X E (.Compare a [.Eq] [b] pos) (gT (g2 dEq ga gb)):=oB BV ha hb fun h1 h2=>mB (zi hr.units) h1 h2 (mV _)
theorem sA {k:Nat} (hr:fJ k X.A) (ha:PD X E a ga) (hb:PD X E b gb):PCD X E (.Compare a [.NotEq] [b] pos) (gT (g2 dNe ga gb)):=oB Gd ha hb fun h1 h2=>mB (Gm hr.units) h1 h2 (mV _)
noncomputable def eN:PyData→Bool
  | .none=>true
  | _=>false
noncomputable def vR (x:PyData):Option PyData:=some (.bool (eN x))
noncomputable def fN (x:PyData):Option PyData:=some (.bool (!eN x))
theorem g1.read {tt:(VK)→VK} {f:PyData→Option PyData} {σ:St} {H:Hp} {A:List Addr} {δ:Ds} {Q:VK} {K:PySem.W.Frag} (R:fU K H A δ σ) (o:jN K E A H (g1 f ga δ) Q)
    (hr:∀ d1 d x H',f d1=some d→Ls H' A→aT H H'→Is K (del H' A) d1 x→(∀ v H2,aT H' H2→Is K (del H2 A) d v→Q v H2)→tt Q x H'):eD K E ga σ H (tt Q):=by
  unfold g1 at o
  refine eD.run R (fun d1 e1 v H1 s1 R1 h1=>?_) (fun C e1 H' s'=>?_) (fun e1=>?_)
  · simp only [e1,Rs.aj] at o
    cases e3:f d1 with
    | none=>rw [e3] at o; exact o.elim
    | some d=>rw [e3] at o; exact hr d1 d v H1 e3 R1.ls s1 h1 fun w H' s q=>o w H' (s1.trans s) q
  · rw [e1] at o; exact o H' s'
  · rw [e1] at o; exact o
theorem uF {K:PySem.W.Frag} {H:Hp} {d:PyData} {v:V} (h:Is K H d v):decide (v=.non)=eN d:=by
  by_cases z:v=.non
  · rw [decide_eq_true z,h.isNone.mp z]; rfl
  · rw [decide_eq_false z]
    have:d≠.none:=fun q=>z (h.isNone.mpr q)
    cases d <;> first | (exact absurd rfl this) | rfl
theorem vB {j pos'} (ha:PD X E a ga):PD X E (.Compare a [.Is] [.Constant .none j pos'] pos) (g1 vR ga) :=
  (CF (By ha)).imp fun σ H Q ⟨A,δ,R,o⟩=>g1.read (tt:=fun Q x H1=>Q (.bl (decide (x=.non))) H1) R o fun d1 d x H' e _ _ h k=>by
    cases e; rw [uF h]; exact k _ H' (aT.refl _) is_bool
theorem zK {j pos'} (ha:PD X E a ga):PD X E (.Compare a [.IsNot] [.Constant .none j pos'] pos) (g1 fN ga) :=
  (CF (Af ha)).imp fun σ H Q ⟨A,δ,R,o⟩=>g1.read (tt:=fun Q x H1=>Q (.bl (!decide (x=.non))) H1) R o fun d1 d x H' e _ _ h k=>by
    cases e; rw [uF h]; exact k _ H' (aT.refl _) is_bool
theorem yX {t:TE} (h:PT X e (tB t)) (k:∀ σ H Q,eD X.K E ga σ H Q→t σ H Q):PCD X E e (gT ga):=h.imp fun σ H Q ⟨A,δ,R,o⟩=>k σ H _ ⟨A,δ,R,by
  unfold gT at o
  cases q:ga δ with
  | no=>rw [q] at o; exact o
  | rz C=>rw [q] at o; exact o
  | ok d =>
    rw [q] at o
    cases d with
    | bool c=>exact fun v H' s h=>⟨c,h.ofBool,o H' s⟩
    | _=>exact o.elim⟩
theorem cN (h:PD X E e ga) (he:∀ whole,isTrue e X.env whole=(do let v ← whole; standAt e.pos; holding [v] (truthy v)):=by intro _; rfl):PCD X E e (gT ga):=yX (Gk h he) fun _ _ _ h=>h
theorem Ey {j pos'} (ha:PD X E a ga):PCD X E (.Compare a [.Is] [.Constant .none j pos'] pos) (gT (g1 vR ga)) :=
  yX (yo (By ha)) fun σ H Q ⟨A,δ,R,o⟩=>g1.read (tt:=fun Q x H1=>Q (.bl (decide (x=.non))) H1) R o fun d1 d x H' e _ _ h k=>by
    cases e; rw [uF h]; exact k _ H' (aT.refl _) is_bool
theorem nI {j pos'} (ha:PD X E a ga):PCD X E (.Compare a [.IsNot] [.Constant .none j pos'] pos) (gT (g1 fN ga)) :=
  yX (yo (Af ha)) fun σ H Q ⟨A,δ,R,o⟩=>g1.read (tt:=fun Q x H1=>Q (.bl (!decide (x=.non))) H1) R o fun d1 d x H' e _ _ h k=>by
    cases e; rw [uF h]; exact k _ H' (aT.refl _) is_bool
theorem BR {ca:Ds→Rs Bool} {f:Bool→Rs Bool} {σ:St} {H:Hp} {A:List Addr} {δ:Ds} {Q:Bool→Hp→Prop} {K:PySem.W.Frag} {t:Bool→Hp→Prop} (R:fU K H A δ σ) (o:xm E H ((ca δ).bind f) Q)
    (k:∀ b H1,aT H H1→fU K H1 A δ σ→xm E H1 (f b) Q→t b H1):cD K E ca σ H t:=by
  refine cD.run R (fun b e H1 s1 R1=>?_) (fun C e H' s'=>?_) (fun e=>?_)
  · rw [e] at o; exact k b H1 s1 R1 (xm.mono (show xm E H (f b) Q from o) s1)
  · rw [e] at o; exact o H' s'
  · rw [e] at o; exact o
variable {ca cb:Ds→Rs Bool} {rest:List Expr}
theorem eu (ha:PCD X E a ca):PCD X E (.UnaryOp .Not a pos) (j4 ca):=(FH ha).imp fun σ H Q qz3=>(by obtain ⟨A,δ,R,o⟩:=qz3; exact BR R o fun b H1 s1 R1 o=>o H1 (aT.refl _))
theorem Cm (ha:PCD X E a ca):PWD X E (.BoolOp .And [a] pos) ca:=Eg ha
theorem oh (ha:PCD X E a ca):PWD X E (.BoolOp .Or [a] pos) ca:=Fu ha
theorem Dz (ha:PCD X E a ca) (hb:PWD X E (.BoolOp .And (b::rest) pos) cb):PWD X E (.BoolOp .And (a::b::rest) pos) (EF ca cb):=PW.imp (Fv ha hb) fun σ H Q ⟨A,δ,R,o⟩=>BR R o fun b H1 s1 R1 o=>by
  cases b with
  | true=>exact ⟨A,δ,R1,o⟩
  | false=>exact o H1 (aT.refl _)
theorem sv (ha:PCD X E a ca) (hb:PWD X E (.BoolOp .Or (b::rest) pos) cb):PWD X E (.BoolOp .Or (a::b::rest) pos) (cOr ca cb):=PW.imp (G7 ha hb) fun σ H Q ⟨A,δ,R,o⟩=>BR R o fun b H1 s1 R1 o=>by
  cases b with
  | false=>exact ⟨A,δ,R1,o⟩
  | true=>exact o H1 (aT.refl _)
theorem tY (h:PWD X E e ca):PCD X E e ca:=PW.pt h
theorem EU {f:PyData→Rs PyData} {σ:St} {H:Hp} {A:List Addr} {δ:Ds} {Q:VK} {K:PySem.W.Frag} {t:VK} (R:fU K H A δ σ) (o:jN K E A H ((ga δ).bind f) Q)
    (k:∀ d v H1,aT H H1→fU K H1 A δ σ→Is K (del H1 A) d v→jN K E A H1 (f d) Q→t v H1):eD K E ga σ H t:=by
  refine eD.run R (fun d e v H1 s1 R1 h1=>?_) (fun C e H' s'=>?_) (fun e=>?_)
  · rw [e] at o; exact k d v H1 s1 R1 h1 (jN.mono (show jN K E A H (f d) Q from o) s1)
  · rw [e] at o; exact o H' s'
  · rw [e] at o; exact o
theorem qK {K:PySem.W.Frag} {E:XK} {A:List Addr} {H:Hp} {d:PyData} {f:Bool→Rs PyData} {Q:VK} (o:jN K E A H ((truth d).bind f) Q):∃ t,d=.bool t∧jN K E A H (f t) Q:=by
  cases d with
  | bool t=>exact ⟨t,rfl,o⟩
  | _=>exact o.elim
theorem rh {op} (ha:PD X E a ga):PD X E (.BoolOp op [a] pos) ga:=E5 ha
theorem vI (ha:PD X E a ga) (hb:PD X E (.BoolOp .And (b::rest) pos) gb):PD X E (.BoolOp .And (a::b::rest) pos) (yV ga gb):=(Gs ha hb).imp fun σ H Q ⟨A,δ,R,o⟩=>EU R o fun d v H1 s1 R1 h1 o=>by
  obtain ⟨t,rfl,o⟩:=qK o
  refine ⟨t,h1.ofBool,?_⟩
  cases t with
  | true=>exact ⟨A,δ,R1,o⟩
  | false=>exact o _ H1 (aT.refl _) is_bool
theorem GP (ha:PD X E a ga) (hb:PD X E (.BoolOp .Or (b::rest) pos) gb):PD X E (.BoolOp .Or (a::b::rest) pos) (gOr ga gb):=(Hl ha hb).imp fun σ H Q ⟨A,δ,R,o⟩=>EU R o fun d v H1 s1 R1 h1 o=>by
  obtain ⟨t,rfl,o⟩:=qK o
  refine ⟨t,h1.ofBool,?_⟩
  cases t with
  | false=>exact ⟨A,δ,R1,o⟩
  | true=>exact o _ H1 (aT.refl _) is_bool
theorem EY (hc:PCD X E c ca) (ha:PD X E a ga) (hb:PD X E b gb):PD X E (.IfExp c a b pos) (gIf ca ga gb):=(CC hc ha hb).imp fun σ H Q pz3=>by
  obtain ⟨A,δ,R,o⟩:=pz3
  unfold gIf at o
  refine cD.run R (fun t e H1 s1 R1=>?_) (fun C e H' s'=>?_) (fun e=>?_)
  · rw [e] at o
    have o:=jN.mono (show jN X.K E A H (if t=true then ga δ else gb δ) Q from o) s1
    cases t with
    | true=>exact ⟨A,δ,R1,o⟩
    | false=>exact ⟨A,δ,R1,o⟩
  · rw [e] at o; exact o H' s'
  · rw [e] at o; exact o
noncomputable def nJ:PyData→Option PyData
  | .int i=>some (.int (-i))
  | _=>none
theorem oY (ha:PD X E a ga):PD X E (.UnaryOp .USub a pos) (g1 nJ ga):=(G4 F4 ha).imp fun σ H Q ⟨A,δ,R,o⟩=>g1.read (tt:=fun Q x H1=>∃ i,x=.int i∧Q (.int (-i)) H1) R o fun d1 d x H' e _ _ h k=>by
  cases d1 with
  | int i=>cases e; exact ⟨i,h.ofInt,k _ H' (aT.refl _) dz⟩
  | _=>cases e
variable {es:List Expr} {gs:Ds→Rs (List PyData)}
theorem ai:PAD X E [] ak:=⟨i7.imp fun σ H Q qz3=>(by obtain ⟨A,δ,R,o⟩:=qz3; exact o [] H (aT.refl _) gm),fun δ ds e=>by cases e; rfl⟩
theorem ae (ha:PD X E a ga) (hr:PAD X E es gs) (hs:starEach (a::es) X.env=(false,eval a X.env)::starEach es X.env:=by rfl):PAD X E (a::es) (af ga gs):=by
  refine ⟨(fH ha hr.1 hs).imp fun σ H Q ⟨A,δ,R,o⟩=>?_,fun δ ds e=>?_⟩
  · unfold af at o
    refine eD.run R (fun d e v H1 s1 R1 h1=>?_) (fun C e H' s'=>?_) (fun e=>?_)
    · simp only [e,Rs.aj] at o
      refine aD.run R1 (fun ds e2 vs H2 s2 R2 h2=>?_) (fun C e2 H' s'=>?_) (fun e2=>?_)
      · simp only [e2,Rs.aj] at o
        exact o _ H2 (s1.trans s2) (fB (h1.same s2.del) h2)
      · simp only [e2,Rs.kJ] at o; exact o H' (s1.trans s')
      · simp only [e2,Rs.ej] at o; exact o
    · simp only [e,Rs.kJ] at o; exact o H' s'
    · simp only [e,Rs.ej] at o; exact o
  · unfold af at e
    cases q:ga δ with
    | ok d =>
      cases q2:gs δ with
      | ok l =>
        simp only [q,q2,Rs.aj] at e
        cases e
        simp [hr.2 δ l q2]
      | rz C=>simp only [q,q2,Rs.aj,Rs.kJ] at e; cases e
      | no=>simp only [q,q2,Rs.aj,Rs.ej] at e; cases e
    | rz C=>simp only [q,Rs.kJ] at e; cases e
    | no=>simp only [q,Rs.ej] at e; cases e
theorem tR {f:List PyData→Rs PyData} {σ:St} {H:Hp} {A:List Addr} {δ:Ds} {Q:VK} {K:PySem.W.Frag} {t:List V→Hp→Prop} (R:fU K H A δ σ) (o:jN K E A H ((gs δ).bind f) Q)
    (k:∀ ds vs H1,gs δ=.ok ds→aT H H1→fU K H1 A δ σ→Iss K (del H1 A) ds vs→jN K E A H1 (f ds) Q→t vs H1):aD K E gs σ H t:=by
  refine aD.run R (fun d e v H1 s1 R1 h1=>?_) (fun C e H' s'=>?_) (fun e=>?_)
  · rw [e] at o; exact k d v H1 e s1 R1 h1 (jN.mono (show jN K E A H (f d) Q from o) s1)
  · rw [e] at o; exact o H' s'
  · rw [e] at o; exact o
theorem jM {x1} (h:PAD X E es gs) (hl:es.length≤1000:=by decide):PD X E (.Tuple es x1 pos) (iY gs):=(FD h.1).imp fun σ H Q ⟨A,δ,R,o⟩=>tR R o fun ds vs H1 e s1 R1 h1 o=>by
  have n:=h.2 δ ds e
  have m:=h1.length
  exact ⟨by rw [sizeLine_eq]; omega,fun p hp=>o _ _ (cT hp) (oq R1.ls hp h1)⟩
theorem lh (h:PAD X E es gs) (hl:es.length≤1000:=by decide):PD X E (.List es pos) (ic gs):=(yw h.1).imp fun σ H Q ⟨A,δ,R,o⟩=>tR R o fun ds vs H1 e s1 R1 h1 o=>by
  have n:=h.2 δ ds e
  have m:=h1.length
  exact ⟨by rw [sizeLine_eq]; omega,fun p hp=>o _ _ (cT hp) (l8 R1.ls hp h1)⟩
noncomputable def spD (K:PySem.W.Frag) (n:Nat) (gf:List PyData→Rs PyData):Sp:=fun vs H Q E=>∃ A ds,Ls H A∧Iss K (del H A) ds vs∧ds.length=n∧jN K E A H (gf ds) Q
structure aP (P:Program) (w:World) (K:PySem.W.Frag) (mg:Str→Option Value) (base:Heap) (k:Nat) (x:Str) (n:Nat) (gf:List PyData→Rs PyData):Prop where
  ex:∃ f fd ps,kr P w K mg base (CXW P w) k f fd ps (spD K n gf)∧mg x=some (.ref f)∧PySem.W.keepIn K (.ref f)=true∧Binds K fd ps []
theorem gM {X:Cx}:Passes (CXW X.prog X.w) X E0:=fun _ _ _ _ _ _ _ qz7=>(by obtain ⟨_,_,_,_,_,_,h,_⟩:=qz7; exact h.elim)
theorem aC {k j:Nat} {x:Str} {p:Pos} {gf:List PyData→Rs PyData} (D:aP X.prog X.w X.K X.mg X.base k x (e::es).length gf) (hr:fJ j X.A) (hx:Passes (CXW X.prog X.w) X E) (ha:PAD X E (e::es) gs) (hk:k≤j:=by decide) (hg:Gl X x:=by rfl)
    (hdb:(x == ("__debug__":Str))=false:=by decide) (he:starEach (e::es) X.env=(false,eval e X.env)::starEach es X.env:=by rfl) (hpl:(backTo pos (starEach es X.env)).any (·.1)=false:=by rfl) :
    PD X E (.Call (.Name x p) (e::es) [] pos) (ax gf gs):=by
  obtain ⟨f,fd,ps,F,hm,hkp,hb⟩:=D.ex
  refine (zB F (hr.mono hk) hg hm hkp hb .nil hx ha.1 hdb he hpl).imp fun σ H Q rz3=>?_
  obtain ⟨A,δ,R,o⟩:=rz3
  refine tR R o fun ds vs H1 e s1 R1 h1 o=>?_
  refine ⟨A,ds,R1.ls,by simpa using h1,ha.2 δ ds e,o⟩
noncomputable def FnD (K:PySem.W.Frag) (f:List PyData→Option PyData) (r:List V→Hp→VK→Prop):Prop :=
  ∀ (ds:List PyData) (d:PyData) (vs:List V) (H:Hp) (A:List Addr) (Q:VK),f ds=some d→Ls H A→Iss K (del H A) ds vs→(∀ v H',aT H H'→Is K (del H' A) d v→Q v H')→r vs H Q
theorem ir {r:List V→Hp→VK→Prop} {f:List PyData→Option PyData} (hf:FnD X.K f r) (ha:PAD X E es gs) (mk:∀ {t:TA},PA X es t→PE X e (tCB r t)):PD X E e (gF f gs) :=
  (mk ha.1).imp fun σ H Q ⟨A,δ,R,o⟩=>tR R o fun ds vs H1 e s1 R1 h1 o=>by
    cases q:f ds with
    | none=>rw [q] at o; exact o.elim
    | some d=>rw [q] at o; exact hf ds d vs H1 A Q q R1.ls h1 o
end
end L2
set_option maxRecDepth 100000
set_option maxHeartbeats 4000000
namespace L2
open PySem PySem.Spec PyProof.Rows
section
variable {X:Cx} {E:XK} {a b c e:Expr} {ga gb gc:Ds→Rs PyData} {pos:Pos} {es:List Expr} {gs:Ds→Rs (List PyData)}
noncomputable def EZ (K:PySem.W.Frag):R2:=fun x y H Q=>∃ a b xs ys,x=.ref a∧y=.ref b∧SqT K H a xs∧SqT K H b ys∧xs.length + ys.length≤sizeLine ∧
  (xs=[]→Q (.ref b) H)∧(xs≠[]→ys=[]→Q (.ref a) H)∧(xs≠[]→ys≠[]→∀ p,H p=none→Q (.ref p) (upd H p (.tup (xs++ys))))
theorem Ec:OpR X (binaryOp .Add) (EZ X.K):=by
  intro pins s σ H x y v u Q I rx ry h
  obtain ⟨a,b,xs,ys,rfl,rfl,ha,hb,hz,q0,q1,q2⟩:=h
  by_cases hx:xs=[]
  · cases rx
    cases ry
    obtain ⟨vs,r1,p1,_⟩:=I.tuple ha
    obtain ⟨ws,r2,p2,_⟩:=I.tuple hb
    obtain ⟨⟨cls,dd,data,sl⟩,ho,hc,n,hd⟩:=id p1
    obtain ⟨⟨cls2,dd2,data2,sl2⟩,ho2,hc2,n2,hd2⟩:=id p2
    simp only at hc hd hc2 hd2
    subst hc hd hc2 hd2
    have hv:vs=[]:=r1.nil_iff.mpr hx
    exact concat_meets ⟨_,ho,rfl⟩ ⟨_,ho2,rfl⟩ noFill_tuple_add seq_tuple_add PySem.F.slot_tuple_add PySem.F.entry_tuple_add (PySem.F.args_tuple_add_2 _ _)
      (tuple_addW0 a b vs.toArray ws.toArray n n2 dd dd2 sl sl2 (by simp [hv])) ⟨ho,ho2,⟨.ref b,H,I,rfl,q0 hx⟩⟩
  · exact EL pins s σ H _ _ v u Q I rx ry ⟨a,b,xs,ys,rfl,rfl,ha,hb,hx,hz,q1 hx,q2 hx⟩
noncomputable def br:PyData→PyData→Option PyData
  | .int i,.int j=>some (.int (i + j))
  | .list x,.list y=>if x.length + y.length≤1000000 then some (.list (x++y)) else none
  | .tuple x,.tuple y=>if x.length + y.length≤1000000 then some (.tuple (x++y)) else none
  | _,_=>none
theorem Dq {K:PySem.W.Frag}:OpD K br (fun x y H Q=>rI0 (fun i j=>.int (i + j)) x y H Q∨Hh x y H Q∨EZ K x y H Q):=fun d1 d2 d x y H A Q e hA h1 h2 k=>by
  unfold br at e
  split at e
  · cases e
    exact .inl ⟨_,_,h1.ofInt,h2.ofInt,k _ H (aT.refl _) dz⟩
  · rename_i l1 l2
    split at e
    · rename_i hz
      cases e
      obtain ⟨p,xs,rfl,hp,hx⟩:=h1.ofLst
      obtain ⟨q,ys,rfl,hq,hy⟩:=h2.ofLst
      refine .inr (.inl ⟨p,q,xs,ys,rfl,rfl,a9 _ _ hp,a9 _ _ hq,by rw [hx.length,hy.length,sizeLine_eq]; omega,fun r hr=>k _ _ (cT hr) (l8 hA hr (hx.append hy))⟩)
    · cases e
  · rename_i l1 l2
    split at e
    · rename_i hz
      cases e
      obtain ⟨p,xs,rfl,hp,hx⟩:=h1.ofTup
      obtain ⟨q,ys,rfl,hq,hy⟩:=h2.ofTup
      refine .inr (.inr ⟨p,q,xs,ys,rfl,rfl,SqT.of (a9 _ _ hp),SqT.of (a9 _ _ hq),by rw [hx.length,hy.length,sizeLine_eq]; omega,fun z=>?_,fun _ z=>?_,fun _ _ r hr=>k _ _ (cT hr) (oq hA hr (hx.append hy))⟩)
      · subst z
        have:l1=[]:=List.length_eq_zero_iff.mp (by rw [← hx.length]; rfl)
        subst this
        exact k _ H (aT.refl _) (nz hq hy)
      · subst z
        have:l2=[]:=List.length_eq_zero_iff.mp (by rw [← hy.length]; rfl)
        subst this
        rw [List.append_nil] at k
        exact k _ H (aT.refl _) (nz hp hx)
    · cases e
  · cases e
theorem bZ (ha:PD X E a ga) (hb:PD X E b gb):PD X E (.BinOp a .Add b pos) (g2 br ga gb):=kl Dq ha hb (gK (oT.or (GG.or Ec)))
noncomputable def dIx:PyData→PyData→Option PyData
  | .list x,.int i=>atI x i
  | .tuple x,.int i=>atI x i
  | _,_=>none
theorem zC {K:PySem.W.Frag} {H:Hp} {ds:List PyData} {vs:List V} {i:Int} {d:PyData} (h:Iss K H ds vs) (e:atI ds i=some d):∃ v,atI vs i=some v∧Is K H d v:=by
  unfold atI at e ⊢
  rw [h.length]
  cases q:ixN ds.length i with
  | none=>rw [q] at e; cases e
  | some j=>rw [q] at e; exact h.getD e
theorem E8 {K:PySem.W.Frag}:OpD K dIx (fun x y H Q=>Hv K x y H Q∨Hw K x y H Q):=fun d1 d2 d x y H A Q e hA h1 h2 k=>by
  unfold dIx at e
  split at e
  · obtain ⟨p,xs,rfl,hp,hx⟩:=h1.ofLst
    obtain ⟨v,ev,hv⟩:=zC hx e
    exact .inl ⟨p,xs,_,v,rfl,h2.ofInt,SqL.of (a9 _ _ hp),ev,k _ H (aT.refl _) hv⟩
  · obtain ⟨p,xs,rfl,hp,hx⟩:=h1.ofTup
    obtain ⟨v,ev,hv⟩:=zC hx e
    exact .inr ⟨p,xs,_,v,rfl,h2.ofInt,SqT.of (a9 _ _ hp),ev,k _ H (aT.refl _) hv⟩
  · cases e
theorem cj (ha:PD X E a ga) (hb:PD X E b gb) (hs:zR b:=by intro _ _; rfl):PD X E (.Subscript a b pos) (g2 dIx ga gb):=kl E8 ha hb fun h1 h2=>B8 (vT.or Fj) h1 h2 hs
noncomputable def e8:List PyData→Option PyData
  | [.list x]=>some (.int x.length)
  | [.tuple x]=>some (.int x.length)
  | _=>none
theorem lE {K:PySem.W.Frag} {H:Hp} {d:PyData} {vs:List V} (h:Iss K H [d] vs):∃ v,vs=[v]∧Is K H d v:=by
  obtain ⟨v,r,rfl,h1,h2⟩:=h.cons_of
  rw [h2.nil_of]
  exact ⟨v,rfl,h1⟩
theorem Hu {K:PySem.W.Frag} {H:Hp} {d e:PyData} {vs:List V} (h:Iss K H [d,e] vs):∃ v u,vs=[v,u]∧Is K H d v∧Is K H e u:=by
  obtain ⟨v,r,rfl,h1,h2⟩:=h.cons_of
  obtain ⟨u,rfl,h3⟩:=lE h2
  exact ⟨v,u,rfl,h1,h3⟩
theorem Dj {K:PySem.W.Frag}:FnD K e8 (fun xs H Q=>∃ p ys,xs=[.ref p]∧(SqL K H p ys∨SqT K H p ys)∧Q (.int ys.length) H):=fun ds d vs H A Q e hA h k=>by
  unfold e8 at e
  split at e
  · cases e
    obtain ⟨v,rfl,hh⟩:=lE h
    obtain ⟨p,xs,rfl,hp,hx⟩:=hh.ofLst
    exact ⟨p,xs,rfl,.inl (SqL.of (a9 _ _ hp)),k _ H (aT.refl _) (by rw [hx.length]; exact dz)⟩
  · cases e
    obtain ⟨v,rfl,hh⟩:=lE h
    obtain ⟨p,xs,rfl,hp,hx⟩:=hh.ofTup
    exact ⟨p,xs,rfl,.inr (SqT.of (a9 _ _ hp)),k _ H (aT.refl _) (by rw [hx.length]; exact dz)⟩
  · cases e
theorem gE {p:Pos} (hm:X.mg "len"=none) (ha:PAD X E (a::es) gs) (hg:Gl X "len":=by rfl) (he:starEach (a::es) X.env=(false,eval a X.env)::starEach es X.env:=by rfl) (hpl:(backTo pos (starEach es X.env)).any (·.1)=false:=by rfl) :
    PD X E (.Call (.Name "len" p) (a::es) [] pos) (gF e8 gs):=ir Dj ha fun h=>gA kA hg hm PySem.boot_len h (by decide) (by decide) he hpl
theorem Ci:bootBuiltins "int"=some (.type "int"):=by decide +kernel
theorem Ej:bootBuiltins "bool"=some (.type "bool"):=by decide +kernel
theorem wo:bootBuiltins "tuple"=some (.type "tuple"):=by decide +kernel
theorem DP:bootBuiltins "list"=some (.type "list"):=by decide +kernel
theorem A7:bootBuiltins "isinstance"=some (.builtin "isinstance"):=by decide +kernel
theorem FF:bootBuiltins "all"=some (.builtin "all"):=by decide +kernel
theorem Fy:bootBuiltins "sum"=some (.builtin "sum"):=by decide +kernel
theorem FN:bootBuiltins "min"=some (.builtin "min"):=by decide +kernel
noncomputable def eQ:List PyData→Option (List Int)
  | []=>some []
  | .int i::r=>(eQ r).map (i::·)
  | _::_=>none
theorem cI:∀ {ds:List PyData} {ns:List Int},eQ ds=some ns→ds=ns.map PyData.int
  | [],_,h=>by cases h; rfl
  | .int i::r,ns,h=>by
    unfold eQ at h
    cases q:eQ r with
    | none=>rw [q] at h; cases h
    | some l=>rw [q] at h; cases h; rw [cI q]; rfl
  | .none::_,_,h=>by cases h
  | .bool _::_,_,h=>by cases h
  | .str _::_,_,h=>by cases h
  | .list _::_,_,h=>by cases h
  | .tuple _::_,_,h=>by cases h
  | .dict _::_,_,h=>by cases h
theorem dh:∀ (ns:List Int),eQ (ns.map PyData.int)=some ns
  | []=>rfl
  | n::r=>by rw [List.map_cons]; unfold eQ; rw [dh r]; rfl
noncomputable def gp:List PyData→Option (List Bool)
  | []=>some []
  | .bool i::r=>(gp r).map (i::·)
  | _::_=>none
theorem lX:∀ {ds:List PyData} {ns:List Bool},gp ds=some ns→ds=ns.map PyData.bool
  | [],_,h=>by cases h; rfl
  | .bool i::r,ns,h=>by
    unfold gp at h
    cases q:gp r with
    | none=>rw [q] at h; cases h
    | some l=>rw [q] at h; cases h; rw [lX q]; rfl
  | .none::_,_,h=>by cases h
  | .int _::_,_,h=>by cases h
  | .str _::_,_,h=>by cases h
  | .list _::_,_,h=>by cases h
  | .tuple _::_,_,h=>by cases h
  | .dict _::_,_,h=>by cases h
theorem kq:∀ (ns:List Bool),gp (ns.map PyData.bool)=some ns
  | []=>rfl
  | n::r=>by rw [List.map_cons]; unfold gp; rw [kq r]; rfl
noncomputable def Bg:List PyData→Option PyData
  | [.list x]=>(eQ x).map fun ns=>.int ns.sum
  | _=>none
noncomputable def uR:List PyData→Option PyData
  | [.list x]=>(gp x).map fun ns=>.bool (ns.all id)
  | _=>none
theorem EB {K:PySem.W.Frag}:FnD K Bg (fun xs H Q=>∃ (a:Addr) (ns:List Int),xs=[.ref a]∧SqL K H a (ns.map V.int)∧Q (.int ns.sum) H):=fun ds d vs H A Q e hA h k=>by
  unfold Bg at e
  split at e
  · rename_i x
    cases q:eQ x with
    | none=>rw [q] at e; cases e
    | some ns =>
      rw [q] at e; cases e
      obtain ⟨v,rfl,hh⟩:=lE h
      obtain ⟨p,xs,rfl,hp,hx⟩:=hh.ofLst
      rw [cI q] at hx
      rw [hx.ofInts] at hp
      exact ⟨p,ns,rfl,SqL.of (a9 _ _ hp),k _ H (aT.refl _) dz⟩
  · cases e
theorem EC {K:PySem.W.Frag}:FnD K uR (fun xs H Q=>∃ (a:Addr) (ns:List Bool),xs=[.ref a]∧SqL K H a (ns.map V.bl)∧Q (.bl (ns.all id)) H):=fun ds d vs H A Q e hA h k=>by
  unfold uR at e
  split at e
  · rename_i x
    cases q:gp x with
    | none=>rw [q] at e; cases e
    | some ns =>
      rw [q] at e; cases e
      obtain ⟨v,rfl,hh⟩:=lE h
      obtain ⟨p,xs,rfl,hp,hx⟩:=hh.ofLst
      rw [lX q] at hx
      rw [hx.ofBools] at hp
      exact ⟨p,ns,rfl,SqL.of (a9 _ _ hp),k _ H (aT.refl _) is_bool⟩
  · cases e
theorem FI {p:Pos} (hc:X.calm=true) (hm:X.mg "sum"=none) (ha:PAD X E (a::es) gs) (hg:Gl X "sum":=by rfl) (he:starEach (a::es) X.env=(false,eval a X.env)::starEach es X.env:=by rfl) (hpl:(backTo pos (starEach es X.env)).any (·.1)=false:=by rfl) :
    PD X E (.Call (.Name "sum" p) (a::es) [] pos) (gF Bg gs):=ir EB ha fun h=>gA (C6 hc) hg hm Fy h (by decide) (by decide) he hpl
theorem uB {p:Pos} (hc:X.calm=true) (hm:X.mg "all"=none) (ha:PAD X E (a::es) gs) (hg:Gl X "all":=by rfl) (he:starEach (a::es) X.env=(false,eval a X.env)::starEach es X.env:=by rfl) (hpl:(backTo pos (starEach es X.env)).any (·.1)=false:=by rfl) :
    PD X E (.Call (.Name "all" p) (a::es) [] pos) (gF uR gs):=ir EC ha fun h=>gA (BL hc) hg hm FF h (by decide) (by decide) he hpl
noncomputable def rQ:List PyData→Option PyData
  | [.int i,.int j]=>some (.int (if j < i then j else i))
  | _=>none
noncomputable def Hi:List PyData→Option PyData
  | [.int i,.int j]=>some (.int (if j > i then j else i))
  | _=>none
theorem BZ {K:PySem.W.Frag}:FnD K rQ (fun xs H Q=>∃ i j,xs=[.int i,.int j]∧Q (.int (if j < i then j else i)) H):=fun ds d vs H A Q e hA h k=>by
  unfold rQ at e
  split at e
  · cases e
    obtain ⟨v,u,rfl,h1,h2⟩:=Hu h
    rw [h1.ofInt,h2.ofInt]
    exact ⟨_,_,rfl,k _ H (aT.refl _) dz⟩
  · cases e
theorem zP {p:Pos} (hc:X.calm=true) (hm:X.mg "min"=none) (ha:PAD X E (a::es) gs) (hg:Gl X "min":=by rfl) (he:starEach (a::es) X.env=(false,eval a X.env)::starEach es X.env:=by rfl) (hpl:(backTo pos (starEach es X.env)).any (·.1)=false:=by rfl) :
    PD X E (.Call (.Name "min" p) (a::es) [] pos) (gF rQ gs):=ir BZ ha fun h=>gA (Bb hc) hg hm FN h (by decide) (by decide) he hpl
noncomputable def AW:List PyData→Option PyData
  | [.int i]=>some (.int i)
  | [.bool k]=>some (.int (if k then 1 else 0))
  | _=>none
theorem Dl {K:PySem.W.Frag}:FnD K AW (fun xs H Q=>(∃ i,xs=[.int i]∧Q (.int i) H)∨∃ k,xs=[.bl k]∧Q (.int (if k then 1 else 0)) H):=fun ds d vs H A Q e hA h k=>by
  unfold AW at e
  split at e
  · cases e
    obtain ⟨v,rfl,h1⟩:=lE h
    rw [h1.ofInt]
    exact .inl ⟨_,rfl,k _ H (aT.refl _) dz⟩
  · cases e
    obtain ⟨v,rfl,h1⟩:=lE h
    rw [h1.ofBool]
    exact .inr ⟨_,rfl,k _ H (aT.refl _) dz⟩
  · cases e
theorem BH {p:Pos} (hm:X.mg "int"=none) (ha:PAD X E (a::es) gs) (hg:Gl X "int":=by rfl) (he:starEach (a::es) X.env=(false,eval a X.env)::starEach es X.env:=by rfl) (hpl:(backTo pos (starEach es X.env)).any (·.1)=false:=by rfl) :
    PD X E (.Call (.Name "int" p) (a::es) [] pos) (gF AW gs):=ir Dl ha fun h=>t6 Bh hg hm Ci h (by decide) (by decide) he hpl
noncomputable def ft:List PyData→Option PyData
  | [.list x]=>some (.tuple x)
  | [.tuple x]=>some (.tuple x)
  | _=>none
theorem AZ {K:PySem.W.Frag}:FnD K ft (fun xs H Q=>∃ p ys,xs=[.ref p]∧((SqL K H p ys∧∀ l,H l=none→Q (.ref l) (upd H l (.tup ys)))∨(SqT K H p ys∧Q (.ref p) H))):=fun ds d vs H A Q e hA h k=>by
  unfold ft at e
  split at e
  · cases e
    obtain ⟨v,rfl,hh⟩:=lE h
    obtain ⟨p,xs,rfl,hp,hx⟩:=hh.ofLst
    exact ⟨p,xs,rfl,.inl ⟨SqL.of (a9 _ _ hp),fun l hl=>k _ _ (cT hl) (oq hA hl hx)⟩⟩
  · cases e
    obtain ⟨v,rfl,hh⟩:=lE h
    obtain ⟨p,xs,rfl,hp,hx⟩:=hh.ofTup
    exact ⟨p,xs,rfl,.inr ⟨SqT.of (a9 _ _ hp),k _ H (aT.refl _) (nz hp hx)⟩⟩
  · cases e
theorem fM {p:Pos} (hm:X.mg "tuple"=none) (ha:PAD X E (a::es) gs) (hg:Gl X "tuple":=by rfl) (he:starEach (a::es) X.env=(false,eval a X.env)::starEach es X.env:=by rfl) (hpl:(backTo pos (starEach es X.env)).any (·.1)=false:=by rfl) :
    PD X E (.Call (.Name "tuple" p) (a::es) [] pos) (gF ft gs):=ir AZ ha fun h=>t6 tE hg hm wo h (by decide) (by decide) he hpl
noncomputable def vH (T:String) (d:PyData):Option PyData:=if b7 d then some (.bool (vX d T)) else none
theorem pz {T:Str} {T':String} {p p':Pos} (hm:X.mg "isinstance"=none) (hmT:X.mg T=none) (hb:bootBuiltins T=some (.type T')) (hT:T'∈["bool", "int", "list", "tuple"]) (ha:PD X E a ga)
    (hg:Gl X "isinstance":=by rfl) (hgT:Gl X T:=by rfl) (hn:T≠"__name__":=by decide) (hdT:(T == ("__debug__":Str))=false:=by decide) (hs:starEach [a,.Name T p'] X.env=(false,eval a X.env)::starEach [.Name T p'] X.env:=by rfl)
    (hs2:starEach [.Name T p'] X.env=(false,eval (.Name T p') X.env)::starEach [] X.env:=by rfl) (hpl:(backTo pos (starEach [.Name T p'] X.env)).any (·.1)=false:=by rfl) :
    PD X E (.Call (.Name "isinstance" p) [a,.Name T p'] [] pos) (g1 (vH T') ga):=by
  refine (gA wQ hg hm A7 (fH ha (fH (EI (v:=.ty T') hgT hmT hb rfl hn hdT) i7 hs2) hs) (by decide) (by decide) hs hpl).imp fun σ H Q rz3=>?_
  obtain ⟨A,δ,R,o⟩:=rz3
  refine g1.read (tt:=fun Q x H1=>∃ d v T,[x,V.ty T']=[v,.ty T]∧IsD X.K H1 d v∧T∈["bool", "int", "list", "tuple"]∧Q (.bl (vX d T)) H1) R o fun d1 d x H' e _ _ h k=>?_
  unfold vH at e
  split at e
  · rename_i z
    cases e
    exact ⟨d1,x,T',rfl,(h.same a9).isd z,hT,k _ H' (aT.refl _) is_bool⟩
  · cases e
end
end L2
set_option maxRecDepth 100000
set_option maxHeartbeats 4000000
namespace L2
open PySem PySem.Spec PyProof.Rows
noncomputable def C1 (K:PySem.W.Frag) (J:It) (ds:List PyData) (G:Hp):Prop:=∀ (H1:Hp) (B:List Addr),aT G H1→Ls H1 B→(∀ b∈B,G b=none) →
  (∀ i,i < ds.length→J.go i H1)∧J.stop ds.length H1∧∀ i x H2,i < ds.length→J.yld i H1 x H2→aT H1 H2∧∃ d,ds[i]?=some d∧Is K (del H2 B) d x
noncomputable def outI (K:PySem.W.Frag) (E:XK) (A:List Addr) (H:Hp) (r:Rs (List PyData)) (R:It→Hp→Prop):Prop:=match r with
  | .ok ds=>∀ J H',aT H H'→C1 K J ds (del H' A)→R J H'
  | .rz C=>∀ H',aT H H'→E (.ref C) none H'
  | .no=>False
noncomputable def iD (K:PySem.W.Frag) (E:XK) (g:Ds→Rs (List PyData)):TI:=fun σ H R=>∃ A δ,fU K H A δ σ∧outI K E A H (g δ) R
noncomputable def PID (X:Cx) (E:XK) (tg iter:Expr) (g:Ds→Rs (List PyData)):Prop:=PI X tg iter (iD X.K E g)
theorem PI.imp {X:Cx} {tg it:Expr} {t t':TI} (h:PI X tg it t) (k:∀ σ H R,t' σ H R→t σ H R):PI X tg it t':=fun pins s σ H R I q=>h pins s σ H R I (k σ H R q)
theorem PI.or {X:Cx} {tg it:Expr} {t t':TI} (h:PI X tg it t) (h':PI X tg it t'):PI X tg it (fun σ H R=>t σ H R∨t' σ H R):=fun pins s σ H R I q=>q.elim (h pins s σ H R I) (h' pins s σ H R I)
section
variable {X:Cx} {E:XK} {tg a:Expr} {ga:Ds→Rs PyData} {pos:Pos}
noncomputable def Ad:PyData→Rs (List PyData)
  | .list ds=>.ok ds
  | .tuple ds=>.ok ds
  | _=>.no
theorem uM {G H1:Hp} {B:List Addr} (s:aT G H1) (hB:∀ b∈B,G b=none):aT G (del H1 B):=fun b o e=>by
  rw [cz (fun z=>by rw [hB b z] at e; cases e)]
  exact s b o e
theorem Bf {K:PySem.W.Frag} {G:Hp} {p:Addr} {xs:List V} {ds:List PyData} (hp:G p=some (.lst xs)) (h:Iss K G ds xs):C1 K (Itl K p) ds G:=fun H1 B s _ hB=>by
  have hl:=h.length
  have hS:SqL K H1 p xs:=SqL.of (s _ _ hp)
  refine ⟨fun i hi=>⟨xs,xs[i]'(by omega),hS,List.getElem?_eq_getElem _⟩,⟨xs,hS,by omega⟩,fun i x H2 hi y=>?_⟩
  obtain ⟨rfl,y⟩:=y
  obtain ⟨d,e,hd⟩:=h.get (y xs hS)
  exact ⟨aT.refl _,d,e,hd.same (uM s hB)⟩
theorem BQ {K:PySem.W.Frag} {G:Hp} {p:Addr} {xs:List V} {ds:List PyData} (hp:G p=some (.tup xs)) (h:Iss K G ds xs):C1 K (Itt K p) ds G:=fun H1 B s _ hB=>by
  have hl:=h.length
  have hS:SqT K H1 p xs:=SqT.of (s _ _ hp)
  refine ⟨fun i hi=>⟨xs,xs[i]'(by omega),hS,List.getElem?_eq_getElem _⟩,⟨xs,hS,by omega⟩,fun i x H2 hi y=>?_⟩
  obtain ⟨rfl,y⟩:=y
  obtain ⟨d,e,hd⟩:=h.get (y xs hS)
  exact ⟨aT.refl _,d,e,hd.same (uM s hB)⟩
noncomputable def dR (g:Ds→Rs PyData):Ds→Rs (List PyData):=fun δ=>(g δ).bind Ad
theorem dS (h:PD X E a ga):PID X E tg a (dR ga):=(PI.or (D5 h) (FU h)).imp fun σ H R pz3=>by
  obtain ⟨A,δ,Rp,o⟩:=pz3
  unfold dR at o
  cases q:ga δ with
  | no=>rw [q] at o; exact o.elim
  | rz C=>rw [q] at o; exact .inl (eD.run Rp (fun d e=>by rw [q] at e; cases e) (fun C' e H' s=>by rw [q] at e; cases e; exact o H' s) (fun e=>by rw [q] at e; cases e))
  | ok d =>
    rw [q] at o
    cases d with
    | list ds =>
      refine .inl (eD.run Rp (fun d e v H1 s1 R1 h1=>?_) (fun C' e=>by rw [q] at e; cases e) (fun e=>by rw [q] at e; cases e))
      rw [q] at e; cases e
      obtain ⟨p,xs,rfl,hp,hx⟩:=h1.ofLst
      exact ⟨p,rfl,⟨xs,SqL.of (a9 _ _ hp)⟩,o _ H1 s1 (Bf hp hx)⟩
    | tuple ds =>
      refine .inr (eD.run Rp (fun d e v H1 s1 R1 h1=>?_) (fun C' e=>by rw [q] at e; cases e) (fun e=>by rw [q] at e; cases e))
      rw [q] at e; cases e
      obtain ⟨p,xs,rfl,hp,hx⟩:=h1.ofTup
      exact ⟨p,rfl,⟨xs,SqT.of (a9 _ _ hp)⟩,o _ H1 s1 (BQ hp hx)⟩
    | _=>exact o.elim
noncomputable def cx (lo:Int) (n:Nat):List PyData:=(List.range n).map fun (i:Nat)=>PyData.int (lo + (i:Int))
theorem eW (lo:Int) (n:Nat):(cx lo n).length=n:=by simp [cx]
theorem sQ {K:PySem.W.Frag} {G:Hp} {lo:Int} {n:Nat}:C1 K (Itr lo n) (cx lo n) G:=fun H1 B s _ hB=>by
  refine ⟨fun i hi=>by rw [eW] at hi; exact hi,by rw [eW]; exact Nat.le_refl _,fun i x H2 hi y=>?_⟩
  obtain ⟨rfl,rfl⟩:=y
  rw [eW] at hi
  exact ⟨aT.refl _,_,by simp [cx,hi],dz⟩
noncomputable def Dr:List PyData→Rs (List PyData)
  | [.int j]=>if -(2 ^ 62)≤j∧j < 2 ^ 62 then .ok (cx 0 j.toNat) else .no
  | _=>.no
noncomputable def DF:List PyData→Rs (List PyData)
  | [.int i,.int j]=>if -(2 ^ 62)≤i∧i < 2 ^ 62∧-(2 ^ 62)≤j∧j < 2 ^ 62 then .ok (cx i (j - i).toNat) else .no
  | _=>.no
noncomputable def eO (g:Ds→Rs (List PyData)):Ds→Rs (List PyData):=fun δ=>(g δ).bind Dr
noncomputable def zw (g:Ds→Rs (List PyData)):Ds→Rs (List PyData):=fun δ=>(g δ).bind DF
theorem xO {gs:Ds→Rs (List PyData)} {f:List PyData→Rs (List PyData)} {σ:St} {H:Hp} {A:List Addr} {δ:Ds} {R:It→Hp→Prop} {K:PySem.W.Frag} {t:List V→Hp→Prop} (Rp:fU K H A δ σ) (o:outI K E A H ((gs δ).bind f) R)
    (k:∀ ds vs H1,gs δ=.ok ds→aT H H1→fU K H1 A δ σ→Iss K (del H1 A) ds vs→outI K E A H1 (f ds) R→t vs H1):aD K E gs σ H t:=by
  refine aD.run Rp (fun d e v H1 s1 R1 h1=>?_) (fun C e H' s'=>?_) (fun e=>?_)
  · rw [e] at o
    refine k d v H1 e s1 R1 h1 ?_
    have o:outI K E A H (f d) R:=o
    cases q:f d with
    | ok ds=>rw [q] at o; exact fun J H' s j=>o J H' (s1.trans s) j
    | rz C=>rw [q] at o; exact fun H' s=>o H' (s1.trans s)
    | no=>rw [q] at o; exact o
  · rw [e] at o; exact o H' s'
  · rw [e] at o; exact o
theorem d8 {gs:Ds→Rs (List PyData)} {p:Pos} (hm:X.mg "range"=none) (ha:PAD X E [a] gs) (hg:Gl X "range":=by rfl) (hs:starEach [a] X.env=[(false,eval a X.env)]:=by rfl) :
    PID X E tg (.Call (.Name "range" p) [a] [] pos) (eO gs):=(Ba hg hm ha.1 hs).imp fun σ H R ⟨A,δ,Rp,o⟩=>xO Rp o fun ds vs H1 e s1 R1 h1 o=>by
  unfold Dr at o
  split at o
  · split at o
    · rename_i z
      obtain ⟨v,rfl,h⟩:=lE h1
      rw [h.ofInt]
      exact ⟨_,rfl,z.1,z.2,o _ H1 (aT.refl _) sQ⟩
    · exact o.elim
  · exact o.elim
theorem yW {b:Expr} {gs:Ds→Rs (List PyData)} {p:Pos} (hm:X.mg "range"=none) (ha:PAD X E [a,b] gs) (hg:Gl X "range":=by rfl) (hs:starEach [a,b] X.env=[(false,eval a X.env),(false,eval b X.env)]:=by rfl) (hs2:starEach [b] X.env=[(false,eval b X.env)]:=by rfl) :
    PID X E tg (.Call (.Name "range" p) [a,b] [] pos) (zw gs):=(AJ hg hm ha.1 hs hs2).imp fun σ H R ⟨A,δ,Rp,o⟩=>xO Rp o fun ds vs H1 e s1 R1 h1 o=>by
  unfold DF at o
  split at o
  · split at o
    · rename_i z
      obtain ⟨v,u,rfl,h,h'⟩:=Hu h1
      rw [h.ofInt,h'.ofInt]
      exact ⟨_,_,rfl,z,o _ H1 (aT.refl _) sQ⟩
    · exact o.elim
  · exact o.elim
noncomputable def TgD (K:PySem.W.Frag) (n0 n:Nat) (tgt:PyData→Option Ds) (g:TG):Prop:=∀ (d:PyData) (v:V) (σ σ':St) (H:Hp) (A:List Addr) (Q:St→Hp→Prop) (own:Ds),σ.length=n0→σ'.length=n→Ls H A→Is K (del H A) d v→tgt d=some own →
  own.length=n∧((∀ vs:St,vs.length=n→(∀ (i:Nat) e,own[i]?=some (some e)→∃ u,vs[i]?=some (some u)∧Is K (del H A) e u)→Q (σ++vs) H)→g v (σ++σ') H Q)
noncomputable def bx:PyData→Option Ds:=fun d=>some [some d]
theorem cE {K:PySem.W.Frag} {n0:Nat}:TgD K n0 1 bx (pJ n0):=fun d v σ σ' H A Q own h1 h2 hA hd e=>by
  cases e
  refine ⟨rfl,fun k=>?_⟩
  unfold pJ
  subst h1
  rw [set_own σ none v σ' h2]
  refine k _ rfl fun i e z=>?_
  match i,z with
  | 0,z=>cases z; exact ⟨v,rfl,hd⟩
noncomputable def i8 (cond:Ds→Rs Bool) (elt:Ds→Rs PyData) (tgt:PyData→Option Ds) (δ:Ds):List PyData→Rs (List PyData)
  | []=>.ok []
  | d::r=>match tgt d with
    | none=>.no
    | some own=>(cond (δ++own)).calm.bind fun b=>if b=true then (elt (δ++own)).calm.bind fun x=>(i8 cond elt tgt δ r).bind fun xs=>.ok (x::xs) else i8 cond elt tgt δ r
noncomputable def bX (n0:Nat) (src:Ds→Rs (List PyData)) (cond:Ds→Rs Bool) (elt:Ds→Rs PyData) (tgt:PyData→Option Ds):Ds→Rs (List PyData):=fun δ=>if δ.length=n0 then (src δ).bind fun ds=>if ds.length≤1000000 then i8 cond elt tgt δ ds else .no else .no
noncomputable def bV:Ds→Rs Bool:=fun _=>.ok true
noncomputable def GV (K:PySem.W.Frag) (E:XK) (A:List Addr) (H:Hp) (r:Rs (List PyData)) (Q:VK):Prop:=match r with
  | .ok ds=>∀ a xs H',H a=none→aT H H'→H' a=some (.lst xs)→Iss K (del H' (a::A)) ds xs→Q (.ref a) H'
  | .rz C=>∀ H',aT H H'→E (.ref C) none H'
  | .no=>False
noncomputable def lD (K:PySem.W.Frag) (E:XK) (g:Ds→Rs (List PyData)):TE:=fun σ H Q=>∃ A δ,fU K H A δ σ∧GV K E A H (g δ) Q
noncomputable def PLD (X:Cx) (E:XK) (e:Expr) (g:Ds→Rs (List PyData)):Prop:=PE X e (lD X.K E g)
noncomputable def gL (g:Ds→Rs (List PyData)):Ds→Rs PyData:=fun δ=>(g δ).bind fun ds=>.ok (.list ds)
theorem tP {H:Hp} {a:Addr} {A:List Addr}:aT (del H (a::A)) (del H A):=fun b o e=>by
  obtain ⟨z,e⟩:=gv e
  rw [cz (fun q=>z (List.mem_cons_of_mem _ q))]; exact e
theorem fq {e:Expr} {g:Ds→Rs (List PyData)} (h:PLD X E e g):PD X E e (gL g):=PE.imp h fun σ H Q ⟨A,δ,R,o⟩=>⟨A,δ,R,by
  unfold gL at o
  cases q:g δ with
  | no=>rw [q] at o; exact o
  | rz C=>rw [q] at o; exact o
  | ok ds =>
    rw [q] at o
    intro a xs H' hn s hl hi
    exact o _ H' s (rK (by rw [cz (R.ls.new hn)]; exact hl) (hi.same tP))⟩
theorem nT {es:List Expr} {gs:Ds→Rs (List PyData)} (h:PAD X E es gs) (hl:es.length≤1000:=by decide):PLD X E (.List es pos) gs:=(yw h.1).imp fun σ H Q pz3=>by
  obtain ⟨A,δ,R,o⟩:=pz3
  refine aD.run R (fun ds e vs H1 s1 R1 h1=>?_) (fun C e H' s'=>by rw [e] at o; exact o H' s') (fun e=>by rw [e] at o; exact o)
  rw [e] at o
  have n:=h.2 δ ds e
  have m:=h1.length
  refine ⟨by rw [sizeLine_eq]; omega,fun p hp=>o p vs _ (s1.free hp) (s1.trans (cT hp)) cA (h1.same ?_)⟩
  refine fun b o e=>?_
  obtain ⟨z,e⟩:=gv e
  have:b≠p:=bP e hp
  rw [cz (by simp [this,z]),bG this]; exact e
theorem BF {K:PySem.W.Frag} {own:List Str} {gi:Ds→Rs (List PyData)} {g:TG} {tt:TT} {cond:Ds→Rs Bool} {ge:Ds→Rs PyData} {tgt:PyData→Option Ds} {n0:Nat} (hT:TgD K n0 own.length tgt g) (htt:∀ σ H Q,cD K E0 cond σ H Q→tt σ H Q) :
    ∀ σ H Q,lD K E (bX n0 gi cond ge tgt) σ H Q→tLC own.length (iD K E gi) g tt (eD K E0 ge) σ H Q:=by
  intro σ H Q ⟨A,δ,R,o⟩
  unfold bX at o
  by_cases hn0:δ.length=n0
  case neg=>rw [if_neg hn0] at o; exact o.elim
  rw [if_pos hn0] at o
  have hσ:σ.length=n0:=by rw [← R.len]; exact hn0
  refine ⟨A,δ,R,?_⟩
  cases q:gi δ with
  | no=>rw [q] at o; exact o
  | rz C=>rw [q] at o; exact o
  | ok ds =>
    rw [q] at o
    have o:GV K E A H (if ds.length≤1000000 then i8 cond ge tgt δ ds else .no) Q:=o
    by_cases hz:ds.length≤1000000
    case neg=>rw [if_neg hz] at o; exact o.elim
    rw [if_pos hz] at o
    intro J H1 s1 hJ D hD
    have R1:=R.same s1
    have nD:D ∉ A:=R1.ls.new hD
    cases qo:i8 cond ge tgt δ ds with
    | rz C =>
      exfalso
      have:∀ l,i8 cond ge tgt δ l≠.rz C:=by
        intro l
        induction l with
        | nil=>intro z; cases z
        | cons d r ih =>
          intro z
          unfold i8 at z
          split at z
          · cases z
          · rename_i own' _
            cases c1:cond (δ++own') with
            | ok b =>
              simp only [c1,Rs.kU,Rs.aj] at z
              split at z
              · cases c2:ge (δ++own') with
                | ok x =>
                  simp only [c2,Rs.kU,Rs.aj] at z
                  cases c3:i8 cond ge tgt δ r with
                  | ok l=>simp only [c3,Rs.aj] at z; cases z
                  | rz C'=>simp only [c3,Rs.kJ] at z; cases z; exact ih c3
                  | no=>simp only [c3,Rs.ej] at z; cases z
                | rz C'=>simp only [c2,Rs.calm,Rs.ej] at z; cases z
                | no=>simp only [c2,Rs.calm,Rs.ej] at z; cases z
              · exact ih z
            | rz C'=>simp only [c1,Rs.calm,Rs.ej] at z; cases z
            | no=>simp only [c1,Rs.calm,Rs.ej] at z; cases z
      exact this ds qo
    | no=>rw [qo] at o; exact o.elim
    | ok out =>
      rw [qo] at o
      have base:aT (del H1 A) (del (upd H1 D (.lst [])) (D::A)):=fun b o e=>by
        obtain ⟨z,e⟩:=gv e
        have nb:b≠D:=bP e hD
        rw [cz (by simp [nb,z]),bG nb]; exact e
      refine ⟨fun i m ys H'=>m=ds.length - i∧i≤ds.length∧aT H1 H'∧H' D=some (.lst ys)∧ys.length≤i∧∃ dn rest,i8 cond ge tgt δ (ds.drop i)=.ok rest∧out=dn++rest∧Iss K (del H' (D::A)) dn ys,
        ⟨ds.length,by simp,Nat.zero_le _,cT hD,cA,Nat.le_refl _,[],out,qo,rfl,gm⟩,?_⟩
      rintro i m ys H' ⟨rfl,hi,sm,hl,hy,dn,rest,c1,c2,c3⟩
      refine ⟨hl,?_⟩
      have sG:aT (del H1 A) H':=a9.trans sm
      have hBn:∀ b∈D::A,(del H1 A) b=none:=fun b hb=>by
        rcases List.mem_cons.mp hb with z | z
        · rw [z,cz nD]; exact hD
        · exact o7 z
      obtain ⟨jg,js,jy⟩:=hJ H' (D::A) sG (fun b hb=>by
        rcases List.mem_cons.mp hb with z | z
        · exact ⟨ys,by rw [z]; exact hl⟩
        · exact (R1.ls.same sm) b z) hBn
      by_cases hlt:i < ds.length
      · refine .inr ⟨jg i hlt,fun x H2 σ' hσ' y=>?_⟩
        obtain ⟨s2,d,ed,hd⟩:=jy i x H2 hlt y
        have edr:ds.drop i=d::ds.drop (i + 1):=by
          rw [List.drop_eq_getElem_cons hlt]
          have:ds[i]=d:=by
            have:=List.getElem?_eq_getElem hlt
            rw [this] at ed; exact Option.some.inj ed
          rw [this]
        rw [edr] at c1
        unfold i8 at c1
        cases et:tgt d with
        | none=>rw [et] at c1; cases c1
        | some ow =>
          rw [et] at c1
          have l2:H2 D=some (.lst ys):=s2 _ _ hl
          have LsD:Ls H2 (D::A):=fun b hb=>by
            rcases List.mem_cons.mp hb with z | z
            · exact ⟨ys,by rw [z]; exact l2⟩
            · exact (R1.ls.same (sm.trans s2)) b z
          obtain ⟨hol,hgo⟩:=hT d x σ σ' H2 (D::A) (fun σ2 H2=>tt σ2 H2 fun b H3 =>
            if b=true then eD K E0 ge σ2 H3 fun v H4=>H4 D=some (.lst ys)∧ys.length < sizeLine∧(∃ σ'',σ2=σ++σ''∧σ''.length=own.length)∧∃ m',m' < ds.length - i∧_
            else (∃ σ'',σ2=σ++σ''∧σ''.length=own.length)∧∃ m',m' < ds.length - i∧_) ow hσ hσ' LsD hd et
          refine hgo fun vs hvs hown=>?_
          have sAll:aT (del H1 A) (del H2 (D::A)):=uM (sG.trans s2) hBn
          have RE:fU K H2 (D::A) (δ++ow) (σ++vs):=by
            refine ⟨LsD,by rw [List.length_append,List.length_append,R.len,hvs,hol],fun k e ek=>?_⟩
            by_cases hk:k < δ.length
            · rw [List.getElem?_append_left hk] at ek
              obtain ⟨u,e1,hu⟩:=R1.get k e ek
              exact ⟨u,by rw [List.getElem?_append_left (by rw [← R.len]; exact hk)]; exact e1,hu.same sAll⟩
            · rw [List.getElem?_append_right (by omega)] at ek
              obtain ⟨u,e1,hu⟩:=hown _ e ek
              exact ⟨u,by rw [List.getElem?_append_right (by rw [← R.len]; omega),← R.len]; exact e1,hu⟩
          have bad:∀ r:Rs Bool,r=.rz 0→r.calm=.no:=fun r e=>by rw [e]; rfl
          refine htt _ _ _ (cD.run RE (fun b eb H3 s3 R3=>?_) (fun C eb=>?_) (fun eb=>?_))
          · simp only [eb,Rs.kU,Rs.aj] at c1
            cases b with
            | true =>
              simp only [if_true] at c1
              refine eD.run R3 (fun xd ex v H4 s4 R4 hv=>?_) (fun C ex=>?_) (fun ex=>?_)
              · simp only [ex,Rs.kU,Rs.aj] at c1
                cases cr:i8 cond ge tgt δ (ds.drop (i + 1)) with
                | ok rs =>
                  simp only [cr,Rs.aj] at c1
                  cases c1
                  have l4:H4 D=some (.lst ys):=s4 _ _ (s3 _ _ l2)
                  have dU:del (upd H4 D (.lst (ys++[v]))) (D::A)=del H4 (D::A):=vM (List.mem_cons_self)
                  refine ⟨l4,by rw [sizeLine_eq]; omega,⟨vs,rfl,hvs⟩,ds.length - (i + 1),by omega,rfl,hlt,?_,cA,by simp; omega,dn++[xd],rs,cr,by rw [c2]; simp,?_⟩
                  · exact aT.put (((sm.trans s2).trans s3).trans s4) hD
                  · rw [dU]
                    exact (c3.same (aT.del (s2.trans (s3.trans s4)))).append (qu hv)
                | rz C=>simp only [cr,Rs.kJ] at c1; cases c1
                | no=>simp only [cr,Rs.ej] at c1; cases c1
              · simp only [ex,Rs.calm,Rs.ej] at c1; cases c1
              · simp only [ex,Rs.calm,Rs.ej] at c1; cases c1
            | false =>
              simp only [Bool.false_eq_true,if_false] at c1
              exact ⟨⟨vs,rfl,hvs⟩,ds.length - (i + 1),by omega,rfl,hlt,(sm.trans s2).trans s3,s3 _ _ l2,by omega,dn,rest,c1,c2,c3.same (aT.del (s2.trans s3))⟩
          · simp only [eb,Rs.calm,Rs.ej] at c1; cases c1
          · simp only [eb,Rs.calm,Rs.ej] at c1; cases c1
      · have e:i=ds.length:=by omega
        subst e
        rw [List.drop_length] at c1
        cases c1
        rw [List.append_nil] at c2
        subst c2
        exact .inl ⟨js,o D ys H' (s1.free hD) (s1.trans sm) hl c3⟩
theorem da {M:List Str} {elt iter:Expr} {ifs:List Expr} {scope:Scope} {own:List Str} {gi:Ds→Rs (List PyData)} {g:TG} {tt:TT} {cond:Ds→Rs Bool} {ge:Ds→Rs PyData} {tgt:PyData→Option Ds} {n0:Nat} (hc:X.calm=true) (hi:PID X E tg iter gi)
    (hT:TgD X.K n0 own.length tgt g) (hg:∀ C s2 H2 fp,PG (blk X M scope own C s2 H2 fp) tg g) (ht:∀ C s2 H2 fp,PTs (blk X M scope own C s2 H2 fp) ifs tt) (htt:∀ σ H Q,cD X.K E0 cond σ H Q→tt σ H Q) (he:∀ C s2 H2 fp,PD (blk X M scope own C s2 H2 fp) E0 elt ge)
    (hB:rA X.N M X.env.scope scope own=true:=by rfl) (hs:∀ x,foldedSetIterable iter X.env x=pure x:=by intro _; rfl):PLD X E (.ListComp elt [⟨tg,iter,ifs,0⟩] scope pos) (bX n0 gi cond ge tgt) :=
  (Bt (own:=own) (te:=eD X.K E0 ge) hc hi hg ht (fun C s2 H2 fp=>he C s2 H2 fp) hB hs).imp (BF hT htt)
noncomputable def PLS (X:Cx) (E:XK) (i:Nat) (st:Stmt) (gl:Ds→Rs (List PyData)):Prop:=PS X st (DR (lD X.K E gl) (pJ i))
theorem wZ {M:List Str} {elt iter:Expr} {ifs:List Expr} {scope:Scope} {own:List Str} {gi:Ds→Rs (List PyData)} {g:TG} {tt:TT} {cond:Ds→Rs Bool} {ge:Ds→Rs PyData} {tgt:PyData→Option Ds} {n0:Nat} {i:Nat} {x:Str} {pos' spos:Pos} (hc:X.calm=true) (hN:X.N.Nodup) (hi:PID X E tg iter gi)
    (hT:TgD X.K n0 own.length tgt g) (hg:∀ C s2 H2 fp,PG (blk X M scope own C s2 H2 fp) tg g) (ht:∀ C s2 H2 fp,PTs (blk X M scope own C s2 H2 fp) ifs tt) (htt:∀ σ H Q,cD X.K E0 cond σ H Q→tt σ H Q) (he:∀ C s2 H2 fp,PD (blk X M scope own C s2 H2 fp) E0 elt ge)
    (hxi:X.N[i]?=some x:=by rfl) (hx:Loc X.env.scope x:=by first | exact Or.inl rfl | exact Or.inr rfl) (hsw:swapsWith (.ListComp elt [⟨tg,iter,ifs,0⟩] scope pos) (some (.Name x pos')) spos.line X.env=pure true:=by rfl)
    (hB:rA X.N M X.env.scope scope own=true:=by rfl) (hs:∀ x,foldedSetIterable iter X.env x=pure x:=by intro _; rfl) (hf:X.fn x=true∨X.env.scope.names.lookup x=some .local:=by first | exact .inl rfl | exact .inr rfl | assumption) :
    PLS X E i (.Assign [.Name x pos'] (.ListComp elt [⟨tg,iter,ifs,0⟩] scope pos) spos) (bX n0 gi cond ge tgt) :=
  PS.imp (Ca (own:=own) (te:=eD X.K E0 ge) hc hN hxi hx hsw hi hg ht (fun C s2 H2 fp=>he C s2 H2 fp) hB hs hf) fun D σ H h=>BF hT htt σ H _ h
end
end L2
set_option maxRecDepth 100000
set_option maxHeartbeats 4000000
namespace L2
open PySem PySem.Spec PyProof.Rows
inductive Sr where
  | nx (δ:Ds)
  | rt (d:PyData)
  | rz (C:Addr)
  | bk (δ:Ds)
  | ct (δ:Ds)
  | no
structure dg (K:PySem.W.Frag) (H0:Hp) (A0:List Addr) (H:Hp) (A:List Addr) (O:List Nat) (δ:Ds) (σ:St):Prop where
  same:aT H0 H
  ls0:Ls H0 A0
  new:∀ a∈A,H0 a=none
  ls:Ls H A
  len:δ.length=σ.length
  pl:∀ (i:Nat) d,i ∉ O→δ[i]?=some (some d)→∃ v,σ[i]?=some (some v)∧Is K (del H (A++A0)) d v
  own:∀ (i:Nat) d,i∈O→δ[i]?=some (some d)→∃ a xs ds,σ[i]?=some (some (.ref a))∧a∈A∧H a=some (.lst xs)∧d=.list ds∧Iss K (del H (A++A0)) ds xs
  inj:∀ (i j:Nat) d e a,i∈O→j∈O→δ[i]?=some (some d)→δ[j]?=some (some e)→σ[i]?=some (some (.ref a))→σ[j]?=some (some (.ref a))→i=j
noncomputable def mask (O:List Nat) (δ:Ds):Ds:=if O=[] then δ else δ.mapIdx fun i d=>if i∈O then none else d
theorem ig (δ:Ds):mask [] δ=δ:=by simp [mask]
theorem Cv {O:List Nat} {δ:Ds} {i:Nat} {d:PyData} (h:(mask O δ)[i]?=some (some d)):i ∉ O∧δ[i]?=some (some d):=by
  unfold mask at h
  split at h
  · rename_i z; subst z; exact ⟨by simp,h⟩
  · rw [List.getElem?_mapIdx] at h
    cases q:δ[i]? with
    | none=>rw [q] at h; cases h
    | some x =>
      rw [q] at h
      simp only [Option.map_some,Option.some.injEq] at h
      by_cases z:i∈O
      · rw [if_pos z] at h; cases h
      · rw [if_neg z] at h; exact ⟨z,by rw [h]⟩
theorem Bw {O:List Nat} {δ:Ds}:(mask O δ).length=δ.length:=by unfold mask; split <;> simp
theorem wY {H:Hp} {A B:List Addr}:aT (del H (A++B)) (del H B):=fun b o e=>by
  obtain ⟨z,e⟩:=gv e
  rw [cz (fun q=>z (List.mem_append_right _ q))]; exact e
section
variable {K:PySem.W.Frag} {E:XK} {H0 H H1:Hp} {A0 A:List Addr} {O:List Nat} {δ:Ds} {σ:St}
theorem dg.lsA (R:dg K H0 A0 H A O δ σ):Ls H (A++A0):=fun a h=>(List.mem_append.mp h).elim (R.ls a) fun z=>(R.ls0.same R.same) a z
theorem dg.step (R:dg K H0 A0 H A O δ σ) (s:aT H H1):dg K H0 A0 H1 A O δ σ where
  same:=R.same.trans s
  ls0:=R.ls0
  new:=R.new
  ls:=R.ls.same s
  len:=R.len
  pl:=fun i d h e=>by
    obtain ⟨v,e1,h1⟩:=R.pl i d h e
    exact ⟨v,e1,h1.same s.del⟩
  own:=fun i d h e=>by
    obtain ⟨a,xs,ds,e1,h1,h2,h3,h4⟩:=R.own i d h e
    exact ⟨a,xs,ds,e1,h1,s _ _ h2,h3,h4.same s.del⟩
  inj:=R.inj
theorem dg.apart (R:dg K H0 A0 H A O δ σ) {a:Addr} (h:a∈A):a ∉ A0:=fun z=>by
  obtain ⟨xs,e⟩:=R.ls0 a z
  rw [R.new a h] at e; cases e
theorem dg.full (R:dg K H0 A0 H A O δ σ):fU K H A0 δ σ where
  ls:=R.ls0.same R.same
  len:=R.len
  get:=fun i d e=>by
    by_cases h:i∈O
    · obtain ⟨a,xs,ds,e1,h1,h2,h3,h4⟩:=R.own i d h e
      subst h3
      exact ⟨_,e1,rK (xs:=xs) (by rw [cz (R.apart h1)]; exact h2) (h4.same wY)⟩
    · obtain ⟨v,e1,h1⟩:=R.pl i d h e
      exact ⟨v,e1,h1.same wY⟩
theorem dg.part (R:dg K H0 A0 H A O δ σ):fU K H (A++A0) (mask O δ) σ where
  ls:=R.lsA
  len:=by rw [Bw]; exact R.len
  get:=fun i d e=>by
    obtain ⟨h,e⟩:=Cv e
    exact R.pl i d h e
theorem get_set {α:Type} {l:List α} {i j:Nat} {x y:α} (h:(l.set i x)[j]?=some y):(i=j∧y=x)∨(i≠j∧l[j]?=some y):=by
  by_cases z:i=j
  · subst z
    rw [List.getElem?_set_self'] at h
    cases q:l[i]? with
    | none=>rw [q] at h; cases h
    | some w=>rw [q] at h; simp at h; exact .inl ⟨rfl,h.symm⟩
  · rw [List.getElem?_set_ne z] at h; exact .inr ⟨z,h⟩
theorem qr {α:Type} {l:List α} {i j:Nat} {x y:α} (hn:i≠j) (h:l[j]?=some y):(l.set i x)[j]?=some y:=by rw [List.getElem?_set_ne hn]; exact h
theorem dg.set {i:Nat} {d:PyData} {v:V} (R:dg K H0 A0 H A O δ σ) (hi:i ∉ O) (hl:i < δ.length) (h:Is K (del H (A++A0)) d v):dg K H0 A0 H A O (δ.set i (some d)) (σ.set i (some v)) where
  same:=R.same
  ls0:=R.ls0
  new:=R.new
  ls:=R.ls
  len:=by simp [R.len]
  pl:=fun j e hj q=>by
    rcases get_set q with ⟨z,q⟩ | ⟨z,q⟩
    · cases q; subst z
      exact ⟨v,by rw [List.getElem?_set_self (by rw [← R.len]; exact hl)],h⟩
    · obtain ⟨u,e1,h1⟩:=R.pl j e hj q
      exact ⟨u,qr z e1,h1⟩
  own:=fun j e hj q=>by
    rcases get_set q with ⟨z,q⟩ | ⟨z,q⟩
    · subst z; exact absurd hj hi
    · obtain ⟨a,xs,ds,e1,h1⟩:=R.own j e hj q
      exact ⟨a,xs,ds,qr z e1,h1⟩
  inj:=fun j k d' e a hj hk q1 q2 p1 p2=>by
    have n1:i≠j:=fun z=>hi (z ▸ hj)
    have n2:i≠k:=fun z=>hi (z ▸ hk)
    rw [List.getElem?_set_ne n1] at q1 p1
    rw [List.getElem?_set_ne n2] at q2 p2
    exact R.inj j k d' e a hj hk q1 q2 p1 p2
theorem dg.setOwn {i:Nat} {ds:List PyData} {a:Addr} {xs:List V} (R:dg K H0 A0 H A O δ σ) (hi:i∈O) (hl:i < δ.length) (hn:H a=none) (s:aT H H1) (ha:H1 a=some (.lst xs)) (h:Iss K (del H1 (a::(A++A0))) ds xs) :
    dg K H0 A0 H1 (a::A) O (δ.set i (some (.list ds))) (σ.set i (some (.ref a))) where
  same:=R.same.trans s
  ls0:=R.ls0
  new:=fun b hb=>by
    rcases List.mem_cons.mp hb with z | z
    · rw [z]; exact R.same.free hn
    · exact R.new b z
  ls:=fun b hb=>by
    rcases List.mem_cons.mp hb with z | z
    · exact ⟨xs,by rw [z]; exact ha⟩
    · exact (R.ls.same s) b z
  len:=by simp [R.len]
  pl:=fun j e hj q=>by
    rcases get_set q with ⟨z,q⟩ | ⟨z,q⟩
    · subst z; exact absurd hi hj
    · obtain ⟨u,e1,h1⟩:=R.pl j e hj q
      refine ⟨u,qr z e1,h1.same fun b o e=>?_⟩
      obtain ⟨y,e⟩:=gv e
      have nb:b≠a:=bP e hn
      rw [cz (by simpa [nb] using y)]; exact s _ _ e
  own:=fun j e hj q=>by
    have kk:∀ b o,del H (A++A0) b=some o→del H1 (a::A++A0) b=some o:=fun b o e=>by
      obtain ⟨y,e⟩:=gv e
      have nb:b≠a:=bP e hn
      rw [cz (by simpa [nb] using y)]; exact s _ _ e
    rcases get_set q with ⟨z,q⟩ | ⟨z,q⟩
    · cases q; subst z
      exact ⟨a,xs,ds,by rw [List.getElem?_set_self (by rw [← R.len]; exact hl)],List.mem_cons_self,ha,rfl,h⟩
    · obtain ⟨b,ys,es,e1,h1,h2,h3,h4⟩:=R.own j e hj q
      exact ⟨b,ys,es,qr z e1,List.mem_cons_of_mem _ h1,s _ _ h2,h3,h4.same kk⟩
  inj:=fun j k d' e b hj hk q1 q2 p1 p2=>by
    have old:∀ k,k∈O→i≠k→∀ e,δ[k]?=some (some e)→σ[k]?=some (some (.ref a))→False:=fun k hk _ e q p=>by
      obtain ⟨b,ys,es,e1,h1,h2,_⟩:=R.own k e hk q
      rw [p] at e1; cases e1
      rw [hn] at h2; cases h2
    by_cases z1:i=j
    · by_cases z2:i=k
      · rw [← z1,z2]
      · subst z1
        rw [List.getElem?_set_self (by rw [← R.len]; exact hl)] at p1
        cases p1
        rw [List.getElem?_set_ne z2] at q2 p2
        exact (old k hk z2 e q2 p2).elim
    · by_cases z2:i=k
      · subst z2
        rw [List.getElem?_set_self (by rw [← R.len]; exact hl)] at p2
        cases p2
        rw [List.getElem?_set_ne z1] at q1 p1
        exact (old j hj z1 d' q1 p1).elim
      · rw [List.getElem?_set_ne z1] at q1 p1
        rw [List.getElem?_set_ne z2] at q2 p2
        exact R.inj j k d' e b hj hk q1 q2 p1 p2
theorem dg.put {i:Nat} {ds:List PyData} {a:Addr} {ys:List V} {d0:PyData} (R:dg K H0 A0 H A O δ σ) (hi:i∈O) (hd:δ[i]?=some (some d0)) (hs:σ[i]?=some (some (.ref a))) (ha:a∈A) (h:Iss K (del H (A++A0)) ds ys) :
    dg K H0 A0 (upd H a (.lst ys)) A O (δ.set i (some (.list ds))) σ:=by
  have dU:del (upd H a (.lst ys)) (A++A0)=del H (A++A0):=vM (List.mem_append_left _ ha)
  have hl:i < δ.length:=(List.getElem?_eq_some_iff.mp hd).1
  refine ⟨fun b o e=>?_,R.ls0,R.new,fun b hb=>?_,by simp [R.len],fun j e hj q=>?_,fun j e hj q=>?_,fun j k d' e b hj hk q1 q2 p1 p2=>?_⟩
  · have nb:b≠a:=fun z=>by rw [z,R.new a ha] at e; cases e
    rw [bG nb]; exact R.same b o e
  · by_cases z:b=a
    · exact ⟨ys,by rw [z,cA]⟩
    · rw [bG z]; exact R.ls b hb
  · rcases get_set q with ⟨z,q⟩ | ⟨z,q⟩
    · subst z; exact absurd hi hj
    · rw [dU]; exact R.pl j e hj q
  · rcases get_set q with ⟨z,q⟩ | ⟨z,q⟩
    · cases q; subst z
      exact ⟨a,ys,ds,hs,ha,cA,rfl,by rw [dU]; exact h⟩
    · obtain ⟨b,zs,es,e1,h1,h2,h3,h4⟩:=R.own j e hj q
      have nb:b≠a:=fun w=>z (R.inj i j _ _ a hi hj hd q hs (by rw [← w]; exact e1))
      exact ⟨b,zs,es,e1,h1,by rw [bG nb]; exact h2,h3,by rw [dU]; exact h4⟩
  · rcases get_set q1 with ⟨z1,q1⟩ | ⟨z1,q1⟩ <;> rcases get_set q2 with ⟨z2,q2⟩ | ⟨z2,q2⟩
    · rw [← z1,z2]
    · subst z1; exact R.inj i k d0 e b hi hk hd q2 p1 p2
    · subst z2; exact R.inj j i d' d0 b hj hi q1 hd p1 p2
    · exact R.inj j k d' e b hj hk q1 q2 p1 p2
noncomputable def un (H0 G:Hp):Hp:=fun b=>match H0 b with | some o=>some o | none=>G b
theorem Cr {H0 G:Hp}:aT H0 (un H0 G):=fun b o e=>by unfold un; rw [e]
theorem HI {H0 G:Hp} (h0:aT H0 H) (hG:aT G H):aT G (un H0 G):=fun b o e=>by
  unfold un
  cases q:H0 b with
  | none=>exact e
  | some o2=>have h2:=h0 b o2 q; rw [hG b o e] at h2; exact h2.symm
theorem HC {H0 G:Hp} (h0:aT H0 H) (hG:aT G H):aT (un H0 G) H:=fun b o e=>by
  unfold un at e
  cases q:H0 b with
  | none=>rw [q] at e; exact hG b o e
  | some o2=>rw [q] at e; rw [← Option.some.inj e]; exact h0 b o2 q
theorem dg.more (R:dg K H0 A0 H A O δ σ):dg K (un H0 (del H (A++A0))) A0 H A O δ σ :=
  ⟨HC R.same a9,R.ls0.same Cr,fun a h=>by unfold un; rw [R.new a h]; exact o7 (List.mem_append_left _ h),R.ls,R.len,R.pl,R.own,R.inj⟩
theorem dg.less {H0':Hp} (R:dg K H0' A0 H A O δ σ) (s:aT H0 H0') (l:Ls H0 A0):dg K H0 A0 H A O δ σ:=⟨s.trans R.same,l,fun a h=>s.free (R.new a h),R.ls,R.len,R.pl,R.own,R.inj⟩
end
noncomputable def wu (K:PySem.W.Frag) (E:XK) (H0:Hp) (A0:List Addr) (O:List Nat) (r:Sr) (D:Ends):Prop:=match r with
  | .nx δ=>∀ A σ H,dg K H0 A0 H A O δ σ→D.nx σ H
  | .rt d=>∀ v H,aT H0 H→Is K (del H A0) d v→D.rt v H
  | .rz C=>∀ H,aT H0 H→E (.ref C) none H
  | .bk δ=>∀ A σ H,dg K H0 A0 H A O δ σ→D.bk σ H
  | .ct δ=>∀ A σ H,dg K H0 A0 H A O δ σ→D.ct σ H
  | .no=>False
noncomputable def sD (K:PySem.W.Frag) (E:XK) (O:List Nat) (G:Ds→Sr):TS:=fun D σ H=>∃ H0 A0 A δ,dg K H0 A0 H A O δ σ∧wu K E H0 A0 O (G δ) D
noncomputable def PSD (X:Cx) (E:XK) (O:List Nat) (s:Stmt) (G:Ds→Sr):Prop:=PS X s (sD X.K E O G)
noncomputable def PBD (X:Cx) (E:XK) (O:List Nat) (ss:List Stmt) (G:Ds→Sr):Prop:=PSs X ss (sD X.K E O G)
noncomputable def bS:Ds→Sr:=fun δ=>.nx δ
noncomputable def bf (a b:Ds→Sr):Ds→Sr:=fun δ=>match a δ with
  | .nx δ'=>b δ'
  | r=>r
noncomputable def ofR {α:Type} (r:Rs α) (k:α→Sr):Sr:=match r with
  | .ok a=>k a
  | .rz C=>.rz C
  | .no=>.no
@[simp] theorem aA {α:Type} (a:α) (k:α→Sr):ofR (.ok a) k=k a:=rfl
@[simp] theorem vG {α:Type} (C:Addr) (k:α→Sr):ofR (.rz C) k=.rz C:=rfl
@[simp] theorem uC {α:Type} (k:α→Sr):ofR (.no:Rs α) k=.no:=rfl
noncomputable def sIf (c:Ds→Rs Bool) (a b:Ds→Sr):Ds→Sr:=fun δ=>ofR (c δ) fun t=>if t=true then a δ else b δ
noncomputable def bM (g:Ds→Rs PyData):Ds→Sr:=fun δ=>ofR (g δ) .rt
noncomputable def k4 (g:Ds→Rs PyData):Ds→Sr:=fun δ=>ofR (g δ) fun _=>.nx δ
noncomputable def bh (O:List Nat) (i:Nat) (g:Ds→Rs PyData):Ds→Sr:=fun δ=>if i < δ.length then ofR (g (mask O δ)) fun d=>.nx (δ.set i (some d)) else .no
noncomputable def k7 (O:List Nat) (i:Nat) (g:Ds→Rs (List PyData)):Ds→Sr:=fun δ=>if i < δ.length then ofR (g (mask O δ)) fun ds=>.nx (δ.set i (some (.list ds))) else .no
noncomputable def lg (O:List Nat) (i:Nat) (g:Ds→Rs PyData):Ds→Sr:=fun δ=>match δ[i]? with
  | some (some (.list ds))=>ofR (g (mask O δ)) fun d=>if ds.length < 1000000 then .nx (δ.set i (some (.list (ds++[d])))) else .no
  | _=>.no
section
variable {X:Cx} {E:XK} {O:List Nat} {st:Stmt} {ss:List Stmt} {G G':Ds→Sr} {e a b c:Expr} {ga gb:Ds→Rs PyData} {ca:Ds→Rs Bool} {pos:Pos}
theorem cm:PBD X E O [] bS:=v3.imp fun D σ H qz3=>(by obtain ⟨H0,A0,A,δ,R,o⟩:=qz3; exact o A σ H R)
theorem ar (h1:PSD X E O st G) (h2:PBD X E O ss G'):PBD X E O (st::ss) (bf G G'):=(je h1 h2).imp fun D σ H ⟨H0,A0,A,δ,R,o⟩=>⟨H0,A0,A,δ,R,by
  unfold bf at o
  cases q:G δ with
  | nx δ'=>rw [q] at o; exact fun A' σ' H' R'=>⟨H0,A0,A',δ',R',o⟩
  | rt d=>rw [q] at o; exact o
  | rz C=>rw [q] at o; exact o
  | bk d=>rw [q] at o; exact o
  | ct d=>rw [q] at o; exact o
  | no=>rw [q] at o; exact o⟩
theorem aB (h1:PSD X E O st G):PBD X E O [st] G:=(ml h1).imp fun D σ H h=>h
theorem cF {ss':List Stmt} (hc:PCD X E c ca) (h1:PBD X E O ss G) (h2:PBD X E O ss' G'):PSD X E O (.If c ss ss' pos) (sIf ca G G'):=(BY hc h1 h2).imp fun D σ H pz3=>by
  obtain ⟨H0,A0,A,δ,R,o⟩:=pz3
  unfold sIf at o
  refine cD.run R.full (fun t et H1 s1 R1=>?_) (fun C et H' s'=>?_) (fun et=>?_)
  · rw [et] at o
    cases t with
    | true=>exact ⟨H0,A0,A,δ,R.step s1,o⟩
    | false=>exact ⟨H0,A0,A,δ,R.step s1,o⟩
  · rw [et] at o; exact o H' (R.same.trans s')
  · rw [et] at o; exact o
theorem aU (h:PD X E e ga):PSD X E O (.Return (some e) pos) (bM ga):=(qP h).imp fun D σ H pz3=>by
  obtain ⟨H0,A0,A,δ,R,o⟩:=pz3
  unfold bM at o
  refine eD.run R.full (fun d ed v H1 s1 R1 hv=>?_) (fun C et H' s'=>?_) (fun et=>?_)
  · rw [ed] at o; exact o v H1 (R.same.trans s1) hv
  · rw [et] at o; exact o H' (R.same.trans s')
  · rw [et] at o; exact o
theorem ie (h:PD X E e ga) (hs:swapsWith e none pos.line X.env=pure false:=by rfl):PSD X E O (.Expr e pos) (k4 ga):=(vQ h hs).imp fun D σ H pz3=>by
  obtain ⟨H0,A0,A,δ,R,o⟩:=pz3
  unfold k4 at o
  refine eD.run R.full (fun d ed v H1 s1 R1 hv=>?_) (fun C et H' s'=>?_) (fun et=>?_)
  · rw [ed] at o; exact o A σ H1 (R.step s1)
  · rw [et] at o; exact o H' (R.same.trans s')
  · rw [et] at o; exact o
theorem bo {i:Nat} {x:Str} {pos':Pos} (h:PD X E e ga) (hN:X.N.Nodup) (hO:i ∉ O:=by decide) (hi:X.N[i]?=some x:=by rfl) (hx:Loc X.env.scope x:=by first | exact Or.inl rfl | exact Or.inr rfl) (hs:swapsWith e (some (.Name x pos')) pos.line X.env=pure false:=by rfl)
    (hf:X.fn x=true∨X.env.scope.names.lookup x=some .local:=by first | exact .inl rfl | exact .inr rfl | assumption):PSD X E O (.Assign [.Name x pos'] e pos) (bh O i ga):=(zk hN hi hx h hs hf).imp fun D σ H pz3=>by
  obtain ⟨H0,A0,A,δ,R,o⟩:=pz3
  unfold bh at o
  split at o
  · rename_i hl
    refine eD.run R.part (fun d ed v H1 s1 R1 hv=>?_) (fun C et H' s'=>?_) (fun et=>?_)
    · rw [ed] at o; exact o A _ H1 ((R.step s1).set hO hl hv)
    · rw [et] at o; exact o H' (R.same.trans s')
    · rw [et] at o; exact o
  · exact o.elim
theorem l7 {i:Nat} {x:Str} {pos':Pos} {gl:Ds→Rs (List PyData)} (h:PLD X E e gl) (hN:X.N.Nodup) (hO:i∈O:=by decide) (hi:X.N[i]?=some x:=by rfl) (hx:Loc X.env.scope x:=by first | exact Or.inl rfl | exact Or.inr rfl) (hs:swapsWith e (some (.Name x pos')) pos.line X.env=pure false:=by rfl)
    (hf:X.fn x=true∨X.env.scope.names.lookup x=some .local:=by first | exact .inl rfl | exact .inr rfl | assumption):PSD X E O (.Assign [.Name x pos'] e pos) (k7 O i gl):=(zk hN hi hx h hs hf).imp fun D σ H pz3=>by
  obtain ⟨H0,A0,A,δ,R,o⟩:=pz3
  unfold k7 at o
  split at o
  · rename_i hl
    refine ⟨A++A0,mask O δ,R.part,?_⟩
    cases q:gl (mask O δ) with
    | ok ds =>
      rw [q] at o
      exact fun p xs H' hn s hp hi'=>o (p::A) _ H' (R.setOwn hO hl hn s hp hi')
    | rz C=>rw [q] at o; exact fun H' s'=>o H' (R.same.trans s')
    | no=>rw [q] at o; exact o
  · exact o.elim
theorem xJ {i:Nat} {gl:Ds→Rs (List PyData)} (h:PLS X E i st gl) (hO:i ∉ O:=by decide):PSD X E O st (bh O i (gL gl)):=PS.imp h fun D σ H pz3=>by
  obtain ⟨H0,A0,A,δ,R,o⟩:=pz3
  unfold bh gL at o
  split at o
  · rename_i hl
    have R1:=R.part
    refine ⟨A++A0,mask O δ,R1,?_⟩
    cases q:gl (mask O δ) with
    | ok ds =>
      rw [q] at o
      intro p xs H' hn s hp hi'
      exact o A _ H' ((R.step s).set hO hl (rK (by rw [cz (R1.ls.new hn)]; exact hp) (hi'.same tP)))
    | rz C=>rw [q] at o; exact fun H' s'=>o H' (R.same.trans s')
    | no=>rw [q] at o; exact o
  · exact o.elim
theorem tyL {K:PySem.W.Frag} {H:Hp} {p:Addr} {xs:List V} (h:H p=some (.lst xs)):tyV K "list" (.ref p) H:=.inl ⟨rfl,xs,SqL.of h⟩
theorem qi {i:Nat} {x:Str} {pn pa pc:Pos} (h:PD X E e ga) (hO:i∈O:=by decide) (hi:X.N[i]?=some x:=by rfl) (hv:Vis X.env.scope x:=by first | exact Or.inl rfl | exact Or.inr (Or.inl rfl) | exact Or.inr (Or.inr rfl))
    (hd:(x == ("__debug__":Str))=false:=by decide) (hcd:(x == ("__classdict__":Str))=false:=by decide) (hst:starEach [e] X.env=(false,eval e X.env)::starEach [] X.env:=by rfl)
    (hbase:attributeBase (.Name x pn) "append" X.env (eval (.Name x pn) X.env)=eval (.Name x pn) X.env:=by rfl)
    (hfew:((backTo pc (starEach [e] X.env)).all (fun x=>!x.1) && (backToKw pc (keywordEach [] X.env)).all (fun x=>x.1.isSome) && decide (([e]:List Expr).length + ([]:List Keyword).length + (if ([]:List Keyword).isEmpty then 0 else 1) < 30))=true:=by rfl)
    (hline:(pa.endLine == pc.line)=true:=by rfl) (hs:swapsWith (.Call (.Attribute (.Name x pn) "append" pa) [e] [] pc) none pos.line X.env=pure false:=by rfl) :
    PSD X E O (.Expr (.Call (.Attribute (.Name x pn) "append" pa) [e] [] pc) pos) (lg O i ga) :=
  (vQ (C5 PySem.F.plainAttrs_list PySem.F.slot_list_append PySem.F.type_list_append oF (oP hi hv hd hcd) (fH h i7 hst) hbase hfew hline hst rfl) hs).imp fun D σ H pz3=>by
    obtain ⟨H0,A0,A,δ,R,o⟩:=pz3
    unfold lg at o
    split at o
    · rename_i ds q
      obtain ⟨p,xs,ds',e1,hp,hl,e2,hx⟩:=R.own i _ hO q
      cases e2
      refine ⟨_,e1,tyL hl,?_⟩
      refine eD.run R.part (fun d ed v H1 s1 R1 hv=>?_) (fun C et H' s'=>?_) (fun et=>?_)
      · rw [ed] at o
        have o:wu X.K E H0 A0 O (if ds.length < 1000000 then .nx (δ.set i (some (.list (ds++[d])))) else .no) D:=o
        split at o
        · rename_i hz
          refine ⟨p,xs,v,rfl,rfl,s1 _ _ hl,by rw [hx.length,sizeLine_eq]; omega,?_⟩
          exact o A _ _ ((R.step s1).put hO q e1 hp ((hx.same s1.del).append (qu hv)))
        · exact o.elim
      · rw [et] at o; exact o H' (R.same.trans s')
      · rw [et] at o; exact o
    · exact o.elim
noncomputable def TgS (K:PySem.W.Frag) (O:List Nat) (tgt:PyData→Ds→Option Ds) (g:TG):Prop:=∀ (d:PyData) (v:V) (H0:Hp) (A0:List Addr) (H:Hp) (A:List Addr) (δ δ':Ds) (σ:St) (Q:St→Hp→Prop),dg K H0 A0 H A O δ σ→Is K (del H (A++A0)) d v→tgt d δ=some δ' →
  (∀ σ',dg K H0 A0 H A O δ' σ'→Q σ' H)→g v σ H Q
noncomputable def cQ (i:Nat):PyData→Ds→Option Ds:=fun d δ=>if i < δ.length then some (δ.set i (some d)) else none
theorem ij {K:PySem.W.Frag} {i:Nat} (hi:i ∉ O):TgS K O (cQ i) (pJ i):=fun d v H0 A0 H A δ δ' σ Q R h e k=>by
  unfold cQ at e
  split at e
  · rename_i hl
    cases e
    exact k _ (R.set hi hl h)
  · cases e
noncomputable def pf:List Nat→List PyData→Ds→Option Ds
  | [],[],δ=>some δ
  | i::is,d::ds,δ=>if i < δ.length then pf is ds (δ.set i (some d)) else none
  | _,_,_=>none
noncomputable def fj (is:List Nat):PyData→Ds→Option Ds
  | .tuple ds,δ=>pf is ds δ
  | _,_=>none
noncomputable def ze:List Nat→TGs
  | []=>L2.Hd
  | i::is=>L2.ER (pJ i) (ze is)
theorem pG {K:PySem.W.Frag}:∀ (is:List Nat) (ds:List PyData) (vs:List V) (H0:Hp) (A0:List Addr) (H:Hp) (A:List Addr) (δ δ':Ds) (σ:St) (Q:St→Hp→Prop),(∀ i∈is,i ∉ O)→dg K H0 A0 H A O δ σ→Iss K (del H (A++A0)) ds vs→pf is ds δ=some δ' →
    (∀ σ',dg K H0 A0 H A O δ' σ'→Q σ' H)→ze is vs σ H Q
  | [],[],vs,H0,A0,H,A,δ,δ',σ,Q,_,R,h,e,k=>by
    cases e
    exact ⟨h.nil_of,k σ R⟩
  | i::is,d::ds,vs,H0,A0,H,A,δ,δ',σ,Q,hO,R,h,e,k=>by
    obtain ⟨v,r,rfl,h1,h2⟩:=h.cons_of
    unfold pf at e
    split at e
    · rename_i hl
      exact ⟨v,r,rfl,pG is ds r H0 A0 H A _ δ' _ Q (fun j hj=>hO j (List.mem_cons_of_mem _ hj)) (R.set (hO i List.mem_cons_self) hl h1) h2 e k⟩
    · cases e
  | [],_::_,_,_,_,_,_,_,_,_,_,_,_,_,e,_=>by cases e
  | _::_,[],_,_,_,_,_,_,_,_,_,_,_,_,e,_=>by cases e
theorem rS:∀ {is:List Nat} {ds:List PyData} {δ δ':Ds},pf is ds δ=some δ'→ds.length=is.length
  | [],[],_,_,_=>rfl
  | _::is,_::ds,δ,δ',e=>by
    unfold pf at e
    split at e
    · simp [rS e]
    · cases e
  | [],_::_,_,_,e=>by cases e
  | _::_,[],_,_,e=>by cases e
theorem qp {K:PySem.W.Frag} {is:List Nat} (hi:∀ i∈is,i ∉ O):TgS K O (fj is) (L2.Hg K is.length (ze is)):=fun d v H0 A0 H A δ δ' σ Q R h e k=>by
  unfold fj at e
  split at e
  · obtain ⟨p,xs,rfl,hp,hx⟩:=h.ofTup
    exact ⟨p,xs,rfl,SqT.of (a9 _ _ hp),by rw [hx.length,rS e],pG is _ xs H0 A0 H A δ δ' σ Q hi R hx e k⟩
  · cases e
noncomputable def forL (tgt:PyData→Ds→Option Ds) (body:Ds→Sr):List PyData→Ds→Sr
  | [],δ=>.nx δ
  | d::r,δ=>match tgt d δ with
    | none=>.no
    | some δ1=>match body δ1 with
      | .nx δ2=>forL tgt body r δ2
      | .ct δ2=>forL tgt body r δ2
      | .bk δ2=>.nx δ2
      | .rt v=>.rt v
      | .rz C=>.rz C
      | .no=>.no
noncomputable def k9 (O:List Nat) (src:Ds→Rs (List PyData)) (tgt:PyData→Ds→Option Ds) (body:Ds→Sr):Ds→Sr:=fun δ=>ofR (src (mask O δ)) fun ds=>forL tgt body ds δ
theorem fG {iter tg:Expr} {gi:Ds→Rs (List PyData)} {tgt:PyData→Ds→Option Ds} {g:TG} (hp:PassesOwn (model X.prog X.w) X.A X.env X.xe) (hc:X.calm=true) (hi:PID X E tg iter gi) (hT:TgS X.K O tgt g) (hg:PG X tg g) (hb:PBD X E O ss G)
    (hs:∀ x,foldedSetIterable iter X.env x=pure x:=by intro _; rfl):PSD X E O (.For tg iter ss [] pos) (k9 O gi tgt G):=(Fc hp hc hi hg hb hs).imp fun D σ H pz3=>by
  obtain ⟨H0,A0,A,δ,R,o⟩:=pz3
  unfold k9 at o
  refine ⟨A++A0,mask O δ,R.part,?_⟩
  cases q:gi (mask O δ) with
  | no=>rw [q] at o; exact o
  | rz C=>rw [q] at o; exact fun H' s'=>o H' (R.same.trans s')
  | ok ds =>
    rw [q] at o
    intro J H1 s1 hJ
    have R1:=(R.step s1).more
    have o:wu X.K E H0 A0 O (forL tgt G ds δ) D:=o
    refine ⟨fun i m σ' H'=>m=ds.length - i∧i≤ds.length∧∃ A' δ',dg X.K (un H0 (del H1 (A++A0))) A0 H' A' O δ' σ'∧wu X.K E H0 A0 O (forL tgt G (ds.drop i) δ') D,⟨ds.length,by simp,Nat.zero_le _,A,δ,R1,o⟩,?_⟩
    rintro i m σ' H' ⟨rfl,hi',A',δ',R',o'⟩
    have sG:aT (del H1 (A++A0)) (un H0 (del H1 (A++A0))):=HI (R.same.trans s1) a9
    have hB:∀ b∈A'++A0,(del H1 (A++A0)) b=none:=fun b hb=>by
      rcases List.mem_append.mp hb with z | z
      · exact sG.free (R'.new b z)
      · exact o7 (List.mem_append_right _ z)
    obtain ⟨jg,js,jy⟩:=hJ H' (A'++A0) (sG.trans R'.same) R'.lsA hB
    by_cases hlt:i < ds.length
    · refine .inr ⟨jg i hlt,?_⟩
      have edr:ds.drop i=ds[i]::ds.drop (i + 1):=List.drop_eq_getElem_cons hlt
      rw [edr] at o'
      unfold forL at o'
      refine ⟨fun σ2 H2=>∃ A2 δ2,dg X.K (un H0 (del H1 (A++A0))) A0 H2 A2 O δ2 σ2∧wu X.K E H0 A0 O (forL tgt G (ds.drop (i + 1)) δ2) D,fun σ2 H2 ⟨A2,δ2,R2,o2⟩=>⟨ds.length - (i + 1),by omega,rfl,hlt,A2,δ2,R2,o2⟩,fun x H2 y=>?_⟩
      obtain ⟨s2,d,ed,hd⟩:=jy i x H2 hlt y
      have:ds[i]=d:=by
        have:=List.getElem?_eq_getElem hlt
        rw [this] at ed; exact Option.some.inj ed
      rw [this] at o'
      cases et:tgt d δ' with
      | none=>rw [et] at o'; exact o'.elim
      | some δ1 =>
        simp only [et] at o'
        refine hT d x _ _ _ _ _ _ _ _ (R'.step s2) hd et fun σ3 R3=>⟨_,_,_,_,R3,?_⟩
        cases eb:G δ1 with
        | nx δ2=>rw [eb] at o'; exact fun A4 σ4 H4 R4=>⟨A4,δ2,R4,o'⟩
        | ct δ2=>rw [eb] at o'; exact fun A4 σ4 H4 R4=>⟨A4,δ2,R4,o'⟩
        | bk δ2=>rw [eb] at o'; exact fun A4 σ4 H4 R4=>o' A4 σ4 H4 (R4.less Cr R.ls0)
        | rt v=>rw [eb] at o'; exact fun v4 H4 s4 h4=>o' v4 H4 (Cr.trans s4) h4
        | rz C=>rw [eb] at o'; exact fun H4 s4=>o' H4 (Cr.trans s4)
        | no=>rw [eb] at o'; exact o'
    · have e:i=ds.length:=by omega
      subst e
      rw [List.drop_length] at o'
      exact .inl ⟨js,o' A' σ' H' (R'.less Cr R.ls0)⟩
end
end L2
set_option maxRecDepth 100000
set_option maxHeartbeats 4000000
namespace L2
open PySem PySem.Spec PyProof.Rows
section
variable {X:Cx} {E:XK} {O:List Nat} {st:Stmt} {ss:List Stmt} {G G':Ds→Sr} {e a b c:Expr} {ga gb gk:Ds→Rs PyData} {ca:Ds→Rs Bool} {pos:Pos}
noncomputable def dk (c:Ds→Rs Bool) (b:Ds→Sr):Nat→Ds→Sr
  | 0,_=>.no
  | n + 1,δ=>ofR (c δ) fun t=>if t=true then (match b δ with
    | .nx δ2=>dk c b n δ2
    | .ct δ2=>dk c b n δ2
    | .bk δ2=>.nx δ2
    | .rt v=>.rt v
    | .rz C=>.rz C
    | .no=>.no) else .nx δ
theorem oK (fuel:Nat) (hp:PassesOwn (model X.prog X.w) X.A X.env X.xe) (hc:PCD X E c ca) (hb:PBD X E O ss G):PSD X E O (.While c ss [] pos) (fun δ=>dk ca G fuel δ):=(BG hp hc hb).imp fun D σ H pz3=>by
  obtain ⟨H0,A0,A,δ,R,o⟩:=pz3
  refine ⟨fun m σ H=>∃ A δ,dg X.K H0 A0 H A O δ σ∧wu X.K E H0 A0 O (dk ca G m δ) D,⟨fuel,A,δ,R,o⟩,?_⟩
  rintro m σ H ⟨A,δ,R,o⟩
  cases m with
  | zero=>exact o.elim
  | succ m =>
    unfold dk at o
    refine cD.run R.full (fun t et H1 s1 R1=>?_) (fun C et H' s'=>?_) (fun et=>?_)
    · rw [et] at o
      cases t with
      | false=>exact o A σ H1 (R.step s1)
      | true =>
        refine ⟨fun σ' H'=>∃ A δ,dg X.K H0 A0 H' A O δ σ'∧wu X.K E H0 A0 O (dk ca G m δ) D,fun σ' H' q=>⟨m,Nat.lt_succ_self m,q⟩,H0,A0,A,δ,R.step s1,?_⟩
        have o:wu X.K E H0 A0 O (match G δ with
          | .nx δ2=>dk ca G m δ2
          | .ct δ2=>dk ca G m δ2
          | .bk δ2=>.nx δ2
          | .rt v=>.rt v
          | .rz C=>.rz C
          | .no=>.no) D:=o
        cases eb:G δ with
        | nx δ2=>rw [eb] at o; exact fun A4 σ4 H4 R4=>⟨A4,δ2,R4,o⟩
        | ct δ2=>rw [eb] at o; exact fun A4 σ4 H4 R4=>⟨A4,δ2,R4,o⟩
        | bk δ2=>rw [eb] at o; exact o
        | rt v=>rw [eb] at o; exact o
        | rz C=>rw [eb] at o; exact o
        | no=>rw [eb] at o; exact o
    · rw [et] at o; exact o H' (R.same.trans s')
    · rw [et] at o; exact o
noncomputable def Bl (i:Nat) (gk ge:Ds→Rs PyData):Ds→Sr:=fun δ=>match δ[i]? with
  | some (some (.list ds))=>ofR (ge δ) fun d=>ofR (gk δ) fun k=>match k with
    | .int k=>match ixN ds.length k with
      | some j=>if i5 d then .nx (δ.set i (some (.list (ds.set j d)))) else .no
      | none=>.no
    | _=>.no
  | _=>.no
theorem D0 {k:Expr} {i:Nat} {x:Str} {pn ps:Pos} (h:PD X E e ga) (hk:PD X E k gk) (hO:i∈O:=by decide) (hi:X.N[i]?=some x:=by rfl) (hv:Vis X.env.scope x:=by first | exact Or.inl rfl | exact Or.inr (Or.inl rfl) | exact Or.inr (Or.inr rfl))
    (hd:(x == ("__debug__":Str))=false:=by decide) (hcd:(x == ("__classdict__":Str))=false:=by decide)
    (ha:∀ v,assign (.Subscript (.Name x pn) k ps) X.env v=(do
      let ov ← holding [v] (eval (.Name x pn) X.env)
      let iv ← holding [v,ov] (eval k X.env)
      standAt ps
      holding [v,ov,iv] (setItem ov iv v)
      release [v,ov,iv] []):=by intro _; rfl)
    (hs:swapsWithSole [.Subscript (.Name x pn) k ps] e pos.line X.env=pure false:=by rfl) (hw:swappedStores [.Subscript (.Name x pn) k ps] e X.env=pure none:=by rfl)
    (h1:(assignEach [.Subscript (.Name x pn) k ps] X.env).map (·.2)=[assign (.Subscript (.Name x pn) k ps) X.env]:=by rfl):PSD X E O (.Assign [.Subscript (.Name x pn) k ps] e pos) (Bl i gk ga) :=
  (FZ h (E9 (oP hi hv hd hcd) hk set_list ha) hs hw h1).imp fun D σ H pz3=>by
    obtain ⟨H0,A0,A,δ,R,o⟩:=pz3
    unfold Bl at o
    split at o
    · rename_i ds q
      obtain ⟨p,xs,ds',e1,hp,hl,e2,hx⟩:=R.own i _ hO q
      cases e2
      refine eD.run R.full (fun d ed v H1 s1 R1 hv=>?_) (fun C et H' s'=>?_) (fun et=>?_)
      · simp only [ed,aA] at o
        refine ⟨_,e1,?_⟩
        refine eD.run R1 (fun kd ek u H2 s2 R2 hu=>?_) (fun C et H' s'=>?_) (fun et=>?_)
        · simp only [ek,aA] at o
          split at o
          · rename_i kk
            split at o
            · rename_i j hj
              split at o
              · rename_i hn
                have s12:=s1.trans s2
                refine ⟨p,xs,kk,j,rfl,hu.ofInt,s12 _ _ hl,by rw [hx.length]; exact hj,?_⟩
                exact o A _ _ ((R.step s12).put hO q e1 hp (Iss.set (((hv.same s2.del).same a9).dl (R.step s12).lsA hn) j (hx.same s12.del)))
              · exact o.elim
            · exact o.elim
          · exact o.elim
        · simp only [et,vG] at o; exact o H' (R.same.trans (s1.trans s'))
        · simp only [et,uC] at o; exact o
      · simp only [et,vG] at o; exact o H' (R.same.trans s')
      · simp only [et,uC] at o; exact o
    · exact o.elim
structure wB (K:PySem.W.Frag) (mg:Str→Option Value) (x:Str) (C:Addr):Prop where
  m:mg x=some (.ref C)
  e:PySem.W.excIn K C [.type "ValueError",.type "Exception",.type "BaseException",.type "object"] "ValueError.__new__"=true
noncomputable def ng (C:Addr) (gs:Ds→Rs (List PyData)):Ds→Sr:=fun δ=>ofR (gs δ) fun _=>.rz C
theorem l9 {x:Str} {C:Addr} {np cpos:Pos} {es:List Expr} {gs:Ds→Rs (List PyData)} (hc:X.calm=true) (M:xT X E) (EE:wB X.K X.mg x C) (ha:PAD X E (e::es) gs) (hl:(e::es).length≤1000:=by decide) (hg:Gl X x:=by rfl)
    (hdb:(x == ("__debug__":Str))=false:=by decide) (he:starEach (e::es) X.env=(false,eval e X.env)::starEach es X.env:=by rfl) (hpl:(backTo cpos (starEach es X.env)).any (·.1)=false:=by rfl) :
    PSD X E O (.Raise (some (.Call (.Name x np) (e::es) [] cpos)) none pos) (ng C gs) :=
  (BN hc M PySem.F.excBase_ValueError hg EE.m EE.e ha.1 hdb he hpl).imp fun D σ H pz3=>by
    obtain ⟨H0,A0,A,δ,R,o⟩:=pz3
    unfold ng at o
    refine aD.run R.full (fun ds ed vs H1 s1 R1 hv=>?_) (fun C et H' s'=>?_) (fun et=>?_)
    · simp only [ed,aA] at o
      exact ⟨by rw [hv.length,ha.2 δ ds ed,sizeLine_eq]; omega,o H1 (R.same.trans s1)⟩
    · simp only [et,vG] at o; exact o H' (R.same.trans s')
    · simp only [et,uC] at o; exact o
end
section
variable {P:Program} {w:World} {K:PySem.W.Frag} {mg:Str→Option Value} {base:Heap}
theorem vk {x qual:Str} {st:Stmt} {f:Addr} {fd:FuncData} {N ps:List Str} {k:Nat} {sp:Sp} {CX:CXT} (F:Fun K x qual st f fd) (S:a8 N ps (aG st)) (len:∀ vs H Q E,sp vs H Q E→vs.length=ps.length)
    (hbody:∀ (cdv:Value) (A:Around) (outer:List Env) (s:Shared) (H:Hp) (vs:List V) (Q:VK) (E:XK),fJ k (A.deeper (envOfC qual (aG st) s.heap.objs.size f cdv))→sp vs H Q E →
      ∃ t,PSs (jY CX P w K mg base N qual (aG st) f cdv A outer s H E) (fi st) t∧t { nx:=fun _ H'=>Q .non H',rt:=Q } (start N vs) H):kr P w K mg base CX (k + 1) f fd ps sp:=by
  obtain ⟨oc,od,kV,doc,pm,an,cdv,ct,osl,rfl,lk,hcd⟩:=F.ex
  exact EV lk hcd S len fun A outer s H vs Q E hr hsp=>hbody cdv A outer s H vs Q E hr hsp
noncomputable def a7:Sr→Rs PyData
  | .rt d=>.ok d
  | .nx _=>.ok .none
  | .rz C=>.rz C
  | _=>.no
theorem u5 {N:List Str} {qual:Str} {scope:Scope} {f:Addr} {cd:Value} {A:Around} {outer:List Env} {s:Shared} {H:Hp} {E:XK}:xT (jY (CXW P w) P w K mg base N qual scope f cd A outer s H E) E :=
  fun _ _ _ _ _ _ _ _ I hx hE=>wM (CX:=CX0) I hx hE
theorem dg.start {N ps:List Str} {A0:List Addr} {H:Hp} {O:List Nat} {ds:List PyData} {vs:List V} (hA:Ls H A0) (hi:Iss K (del H A0) ds vs) (hl:ds.length=ps.length) (hO:∀ i∈O,ps.length≤i) :
    dg K H A0 H [] O (ds.map some++List.replicate (N.length - ps.length) none) (L2.start N vs):=by
  have hv:=hi.length
  have at':∀ (i:Nat) d,(ds.map some++List.replicate (N.length - ps.length) none)[i]?=some (some d)→i < ds.length∧ds[i]?=some d:=fun i d e=>by
    by_cases h:i < ds.length
    · rw [List.getElem?_append_left (by simpa using h),List.getElem?_map] at e
      refine ⟨h,?_⟩
      cases q:ds[i]? with
      | none=>rw [q] at e; cases e
      | some z=>rw [q] at e; simp at e; rw [e]
    · rw [List.getElem?_append_right (by simpa using h),List.getElem?_replicate] at e
      split at e <;> cases e
  refine ⟨aT.refl _,hA,(fun a h=>by cases h),(fun a h=>by cases h),?_,fun i d _ e=>?_,fun i d h e=>?_,fun i j d e a h _ q _ _ _=>?_⟩
  · unfold L2.start; simp [hv,hl]
  · obtain ⟨hlt,e⟩:=at' i d e
    obtain ⟨v,ev,hd⟩:=hi.getD e
    refine ⟨v,?_,hd⟩
    unfold L2.start
    rw [List.getElem?_append_left (by simp; omega),List.getElem?_map,ev]
    rfl
  · obtain ⟨hlt,_⟩:=at' i d e
    exact absurd (hO i h) (by omega)
  · obtain ⟨hlt,_⟩:=at' i d q
    exact absurd (hO i h) (by omega)
theorem aP.of {x qual:Str} {st:Stmt} {f:Addr} {fd:FuncData} {N ps:List Str} {k:Nat} {O:List Nat} {G:Ds→Sr} {gf:List PyData→Rs PyData} (F:Fun K x qual st f fd) (S:a8 N ps (aG st)) (b:Binds K fd ps []) (m:mg x=some (.ref f)) (hO:∀ i∈O,ps.length≤i)
    (body:∀ (cdv:Value) (A:Around) (outer:List Env) (s:Shared) (H:Hp) (E:XK),fJ k (A.deeper (envOfC qual (aG st) s.heap.objs.size f cdv))→PBD (jY (CXW P w) P w K mg base N qual (aG st) f cdv A outer s H E) E O (fi st) G)
    (hg:∀ ds,ds.length=ps.length→gf ds≠.no→a7 (G (ds.map some++List.replicate (N.length - ps.length) none))=gf ds):aP P w K mg base (k + 1) x ps.length gf:=by
  refine ⟨f,fd,ps,vk F S (fun vs H Q E h=>?_) (fun cdv A outer s H vs Q E hr h=>?_),m,F.kp,b⟩
  · obtain ⟨A,ds,hA,hi,hl,o⟩:=h
    rw [hi.length,hl]
  · obtain ⟨A0,ds,hA,hi,hl,o⟩:=h
    refine ⟨_,body cdv A outer s H E hr,H,A0,[],_,dg.start hA hi hl hO,?_⟩
    have hg':=hg ds hl (fun z=>by rw [z] at o; exact o)
    cases q:G (ds.map some++List.replicate (N.length - ps.length) none) with
    | rt d=>rw [q] at hg'; rw [← hg'] at o; exact fun v H' s' hv=>o v H' s' hv
    | nx δ=>rw [q] at hg'; rw [← hg'] at o; exact fun A' σ H' R'=>o .non H' R'.same is_none
    | rz C=>rw [q] at hg'; rw [← hg'] at o; exact fun H' s'=>o H' s'
    | bk δ=>rw [q] at hg'; rw [← hg'] at o; exact o.elim
    | ct δ=>rw [q] at hg'; rw [← hg'] at o; exact o.elim
    | no=>rw [q] at hg'; rw [← hg'] at o; exact o.elim
theorem aP.old {x:Str} {f:Addr} {fd:FuncData} {ps:List Str} {k:Nat} {sp:Sp} {gf:List PyData→Rs PyData} (F:kr P w K mg base CX0 k f fd ps sp) (m:mg x=some (.ref f)) (kp:PySem.W.keepIn K (.ref f)=true) (b:Binds K fd ps [])
    (h:∀ ds,ds.length=ps.length→gf ds≠.no→∃ d,gf ds=.ok d∧gP d=true∧∀ vs H Q,Iss K H ds vs→(∀ v H',aT H H'→IsD K H' d v→Q v H')→sp vs H Q E0):aP P w K mg base k x ps.length gf:=by
  refine ⟨f,fd,ps,⟨fun vs H Q E h'=>?_,fun A outer s H args us vs Q E hr he hb hv h'=>?_⟩,m,kp,b⟩
  · obtain ⟨A,ds,hA,hi,hl,o⟩:=h'
    rw [hi.length,hl]
  · obtain ⟨A0,ds,hA,hi,hl,o⟩:=h'
    obtain ⟨d,e,nl,hsp⟩:=h ds hl (fun z=>by rw [z] at o; exact o)
    rw [e] at o
    refine codeAny_mono (F.run A outer s H args us vs Q E0 hr he hb hv (hsp vs H Q (hi.same a9) fun v H' s' hd=>o v H' s' ((hd.is nl).dl (hA.same s') (yJ nl)))) fun r s' hq=>?_
    cases r with
    | error ev=>exact False.elim hq
    | ok fl =>
      cases fl with
      | ret u=>exact hq
      | next=>exact False.elim hq
      | brk=>exact False.elim hq
      | cont=>exact False.elim hq
end
end L2
set_option maxRecDepth 100000
set_option maxHeartbeats 4000000
namespace L2
open PySem PySem.Spec PyProof.Rows
open AutoSeq1 (wpAny_loadPart')
theorem o9:fillsNumberSlot (.type "tuple") "mul"=pure false :=
  PySem.fillsNumberSlot_seq (id:="tuple.__mul__") (r:=some (.builtin "tuple.__rmul__")) PySem.F.slot_tuple_mul.lookup (by decide +kernel) PySem.F.slot_tuple_rmul.lookup (by decide +kernel)
theorem uU:seqRepeat? (.type "tuple")=pure (some (.builtin "tuple.__mul__")):=by
  unfold seqRepeat?
  rw [PySem.seqSlot_of (T:="tuple") (name:="__mul__") (id:="tuple.__mul__") PySem.F.slot_tuple_mul.lookup (by decide +kernel),PySem.seqSlot_of (T:="tuple") (name:="__rmul__") (id:="tuple.__rmul__") PySem.F.slot_tuple_rmul.lookup (by decide +kernel)]
  rfl
theorem uW (a:Int) (t:Tok) (l:Addr) (items:Array Value) (n:Nat) (dd:Option Addr) (sl:Array (Option Value)) :
    Meets (Builtin.«int.__rmul__» ⟨[.int a t,.ref l],[]⟩) (fun _ R s=>s.heap.get? l=some { cls:=.type "tuple",dict:=dd,data:=.seq items n,slots:=sl }∧R (.ok (.ret Value.notImplemented)) s) :=
  .of_wp fun prog w A R s h=>by obtain ⟨hp,g,d,tk,os⟩:=s; obtain ⟨hl,h⟩:=h; wp_walk; exact ⟨_,rfl,h⟩
theorem CT (l:Addr) (items:Array Value) (n:Nat) (x:Int) (u:Tok) (dd:Option Addr) (sl:Array (Option Value)) (h1:(decide (x < -(2 ^ 63)) || decide (x ≥ 2 ^ 63))=false) (h2:(items.isEmpty || x == 1)=false) (h3:(decide (x≤0) || items.isEmpty)=false)
    (h4:decide ((items.size:Int) * x > (2 ^ 63 - 1) / 8)=false) (h5:Builtin.Tuple.tupleTooMany ((items.size:Int) * x)=false) (hsz:(List.foldl (fun x1 x2=>x1++x2) #[] (List.replicate x.toNat items)).size≤sizeLine) :
    Meets (Builtin.«tuple.__mul__» ⟨[.ref l,.int x u],[]⟩) (fun _ R s=>s.heap.get? l=some { cls:=.type "tuple",dict:=dd,data:=.seq items n,slots:=sl }∧R (.ok (.ret (Value.ref s.heap.objs.size))) { s with heap:=s.heap.push { cls:=Value.type "tuple",data:=Data.seq (List.foldl (fun x1 x2=>x1++x2) #[] (List.replicate x.toNat items)) } }) :=
  .of_wp fun prog w A R s h=>by
    obtain ⟨hp,g,d,tk,os⟩:=s; obtain ⟨hl,h⟩:=h
    have f1:=AutoSeq1.idx_int; have f2:=AutoSeq1.sub_tuple_tuple
    wp_walk using wpAny_loadPart' hl
    refine wpAny_ite_false (by rw [h1]; rfl) ?_
    wp_walk using wpAny_loadPart' hl
    refine wpAny_ite_false h4 ?_
    wp_walk using wpAny_loadPart' hl
    exact ⟨_,rfl,h⟩
section
variable {X:Cx} {E:XK} {a b c e:Expr} {ga gb gc:Ds→Rs PyData} {pos:Pos} {es:List Expr} {gs:Ds→Rs (List PyData)}
noncomputable def EO (K:PySem.W.Frag):R2:=fun x y H Q=>∃ l k xs,x=.ref l∧y=.int k∧SqT K H l xs∧xs≠[]∧2≤k∧k < 1000000∧xs.length * k.toNat≤1000000∧∀ p,H p=none→Q (.ref p) (upd H p (.tup (List.replicate k.toNat xs).flatten))
theorem D2:OpR X (binaryOp .Mult) (EO X.K):=by
  intro pins s σ H x y v u Q I rx ry h
  obtain ⟨l,k,xs,rfl,rfl,hl,hne,hk1,hk2,hz,q⟩:=h
  cases rx
  obtain ⟨t,rfl⟩:=ry
  obtain ⟨its,r,p1,_⟩:=I.tuple hl
  obtain ⟨⟨cls,dd,data,sl⟩,ho,hc,n,hd⟩:=id p1
  simp only at hc hd
  subst hc hd
  have hlen:=r.length
  have hne':its≠[]:=fun z=>hne (r.nil_iff.mp z)
  have hpos:0 < its.length:=List.length_pos_iff.mpr hne'
  have hfold:List.foldl (fun x1 x2=>x1++x2) #[] (List.replicate k.toNat its.toArray)=(List.replicate k.toNat its).flatten.toArray:=by
    have:=foldl_rep its k.toNat []
    rw [List.nil_append] at this
    exact this
  have hemp:its.toArray.isEmpty=false:=by simp [hne']
  have hmul:(its.length:Int) * k≤1000000:=by
    have e1:((its.length * k.toNat:Nat):Int)=(its.length:Int) * k:=by
      rw [Int.natCast_mul,Int.toNat_of_nonneg (by omega)]
    rw [← e1,← hlen]; omega
  have hsz2:(List.replicate k.toNat its).flatten.length≤1000000:=by rw [len_rep,Nat.mul_comm,← hlen]; exact hz
  refine wpAny_binaryOp_repeat_ref (T:="tuple") (U:="int") (by decide) ⟨_,ho,rfl⟩ (fun s'=>typeIs_int s' k t) o9 PySem.F.fills_int_mul PySem.F.slot_int_rmul uU PySem.F.slot_int_index.lookup
    (call_meets PySem.F.slot_int_rmul (typeIs_int s k t) PySem.F.entry_int_rmul (PySem.F.args_int_rmul_2 _ _) (uW k t l its.toArray n dd sl)
      ⟨ho,rfl,⟨_,ho,rfl⟩,call_meets PySem.F.slot_tuple_mul ⟨_,ho,rfl⟩ PySem.F.entry_tuple_mul (PySem.F.args_tuple_mul_2 _ _) (CT l its.toArray n k t dd sl ?_ ?_ ?_ ?_ ?_ ?_) ⟨ho,?_⟩⟩)
  · rw [decide_eq_false (by omega),decide_eq_false (by omega)]; rfl
  · rw [hemp,Bool.false_or]; simp; omega
  · rw [hemp,Bool.or_false]; exact decide_eq_false (by omega)
  · rw [List.size_toArray]; exact decide_eq_false (by omega)
  · rw [List.size_toArray]
    unfold Builtin.Tuple.tupleTooMany
    rw [sizeLine_eq]
    exact decide_eq_false (by omega)
  · rw [hfold,List.size_toArray,sizeLine_eq]; omega
  · rw [hfold]
    refine ⟨.ref s.heap.objs.size,_,I.laid (t':=s.toks) (o:=.tup (List.replicate k.toNat xs).flatten) (fun b ob q=>Heap.get?_push_of_some _ q) (Nat.le_refl _) ?_,rfl,q _ (I.hok.fresh (Nat.le_refl _))⟩
    exact ⟨by rw [len_rep,Nat.mul_comm,sizeLine_eq]; omega,_,r.rep k.toNat,uS.new _ _⟩
noncomputable def qS:PyData→PyData→Option PyData
  | .int i,.int j=>if (-(2 ^ 64) < i∧i < 2 ^ 64)∨(-(2 ^ 64) < j∧j < 2 ^ 64) then some (.int (i * j)) else none
  | .list x,.int k=>if 0≤k∧k < 1000000∧x.length * k.toNat≤1000000 then some (.list (List.replicate k.toNat x).flatten) else none
  | .tuple x,.int k=>if x≠[]∧2≤k∧k < 1000000∧x.length * k.toNat≤1000000 then some (.tuple (List.replicate k.toNat x).flatten) else none
  | _,_=>none
theorem EJ {K:PySem.W.Frag}:OpD K qS (fun x y H Q=>rI D7 (fun i j=>.int (i * j)) x y H Q∨Ho x y H Q∨EO K x y H Q):=fun d1 d2 d x y H A Q e hA h1 h2 k=>by
  unfold qS at e
  split at e
  · split at e
    · rename_i z
      cases e
      exact .inl ⟨_,_,h1.ofInt,h2.ofInt,z,k _ H (aT.refl _) dz⟩
    · cases e
  · split at e
    · rename_i z
      cases e
      obtain ⟨p,xs,rfl,hp,hx⟩:=h1.ofLst
      exact .inr (.inl ⟨p,_,xs,rfl,h2.ofInt,a9 _ _ hp,by omega,by omega,by rw [hx.length,sizeLine_eq]; omega,fun r hr=>k _ _ (cT hr) (l8 hA hr (hx.rep _))⟩)
    · cases e
  · split at e
    · rename_i z
      cases e
      obtain ⟨p,xs,rfl,hp,hx⟩:=h1.ofTup
      refine .inr (.inr ⟨p,_,xs,rfl,h2.ofInt,SqT.of (a9 _ _ hp),fun q=>z.1 ?_,z.2.1,z.2.2.1,by rw [hx.length]; exact z.2.2.2,fun r hr=>k _ _ (cT hr) (oq hA hr (hx.rep _))⟩)
      exact List.length_eq_zero_iff.mp (by rw [← hx.length,q]; rfl)
    · cases e
  · cases e
theorem yT (ha:PD X E a ga) (hb:PD X E b gb):PD X E (.BinOp a .Mult b pos) (g2 qS ga gb):=kl EJ ha hb (gK (pC.or (F9.or D2)))
end
section
variable {prog:Program} {w:World} {A:Around} {E:Value→Shared→Prop} {s:Shared}
theorem mG {t sl:Addr} {items:Array Value} {vl vu:Value} {lo hi:Option Int} {Q:Value→Shared→Prop} (ht:IsTup s.heap t items) (hs:s.heap.IsSliceOf sl vl vu .none) (pl:IsPart vl lo) (pu:IsPart vu hi)
    (hw:HT.sIx items.size 0 lo=0∧HT.sIx items.size items.size hi=items.size) (h:Q (.ref t) s):wpAny (model prog w) A (getItem (.ref t) (.ref sl)) Q E s:=by
  obtain ⟨os,hos,hcs,hds⟩:=id hs
  have hTs:s.TypeIs (.ref sl) "slice":=⟨os,hos,hcs⟩
  unfold getItem
  try with_reducible refine wpAny_holding ?_
  first | refine wpAny_bind (wpAny_pure ?_) | skip
  refine wpAny_bind (wpAny_sequenceKey ht.typeIs (by decide) ?_)
  refine wpAny_bind (wpAny_callSpecial?_slot (name:=Str.ofString "__getitem__") ht.typeIs PyProof.Rows.slot_tuple_getitem
    (wpAny_call_entry PyProof.Rows.slot_tuple_getitem ht.typeIs entry_tuple_getitem ?_ (args_tuple_getitem _ _)))
  show wpAny _ _ (Builtin.Tuple.tupleItemsOf (.ref t) >>= _) _ _ s
  refine wpAny_bind (tupleItemsOf_ ht ?_)
  refine wpAny_bind (wpAny_typeOf hTs ?_)
  rw [if_pos (by decide)]
  refine wpAny_bind (HT.jW hs pl pu ?_)
  have hyes:(((HT.sIx items.size 0 lo:Nat):Int) == 0 && (1:Int) == 1 && (HT.sIx items.size items.size hi - HT.sIx items.size 0 lo) == items.size)=true:=by
    rw [hw.1,hw.2]; simp
  show wpAny _ _ (if (((HT.sIx items.size 0 lo:Nat):Int) == 0 && (1:Int) == 1 && (HT.sIx items.size items.size hi - HT.sIx items.size 0 lo) == items.size)=true then _ else _) _ _ s
  rw [if_pos hyes]
  refine wpAny_bind (m:=Builtin.Tuple.tupleIsExact (.ref t)) (wpAny_bind (wpAny_typeOf ht.typeIs (wpAny_pure ?_)))
  rw [if_pos (by decide)]
  first
    | exact wpAny_bind (wpAny_rule (wpAny_pure ⟨_,rfl,wpAny_pure h⟩))
    | (refine wpAny_bind (wpAny_rule ?_); trace_state; exact wpAny_pure ⟨_,rfl,wpAny_pure h⟩)
end
end L2
set_option maxRecDepth 100000
set_option maxHeartbeats 4000000
namespace L2
open PySem PySem.Spec PyProof.Rows
section
variable {X:Cx} {E:XK} {a b c e:Expr} {ga gb gc:Ds→Rs PyData} {pos:Pos} {es:List Expr} {gs:Ds→Rs (List PyData)}
noncomputable def GO (K:PySem.W.Frag):V→Option Int→Option Int→Hp→VK→Prop:=fun x lo hi H Q=>∃ a xs,x=.ref a∧SqT K H a xs∧(HT.sIx xs.length 0 lo=0∧HT.sIx xs.length xs.length hi=xs.length)∧Q (.ref a) H
theorem D6:SlR X (GO X.K):=by
  intro pins s σ H x v vl vu lo hi sl Q I rx hs pl pu h
  obtain ⟨a,xs,rfl,hx,hw,q⟩:=h
  cases rx
  obtain ⟨its,r,ht,hz⟩:=I.tuple hx
  have hlen:its.toArray.size=xs.length:=by rw [List.size_toArray,r.length]
  refine ⟨"tuple",_,PyProof.Rows.slot_tuple_getitem.lookup,ht.typeIs,?_⟩
  exact mG ht hs pl pu (by rw [hlen]; exact hw) ⟨.ref a,H,I,rfl,q⟩
noncomputable def cutD (xs:List PyData) (lo hi:Option Int):List PyData:=(xs.drop (HT.sIx xs.length 0 lo)).take (HT.sIx xs.length xs.length hi - HT.sIx xs.length 0 lo)
noncomputable def uI:PyData→Option Int→Option Int→Option PyData
  | .list x,lo,hi=>some (.list (cutD x lo hi))
  | .tuple x,lo,hi=>some (.tuple (cutD x lo hi))
  | _,_,_=>none
noncomputable def CU:PyData→Rs (Option Int)
  | .int i=>.ok (some i)
  | _=>.no
noncomputable def ck:Ds→Rs (Option Int):=fun _=>.ok none
noncomputable def d4 (g:Ds→Rs PyData):Ds→Rs (Option Int):=fun δ=>(g δ).bind CU
noncomputable def Ij (E:XK) (H:Hp) (r:Rs (Option Int)) (Q:Option Int→Hp→Prop):Prop:=match r with
  | .ok o=>∀ H',aT H H'→Q o H'
  | .rz C=>∀ H',aT H H'→E (.ref C) none H'
  | .no=>False
noncomputable def oD (K:PySem.W.Frag) (E:XK) (g:Ds→Rs (Option Int)):TO:=fun σ H Q=>∃ A δ,fU K H A δ σ∧Ij E H (g δ) Q
noncomputable def POD (X:Cx) (E:XK) (e:Option Expr) (g:Ds→Rs (Option Int)):Prop:=PO X e (oD X.K E g)
theorem PO.imp {e:Option Expr} {t t':TO} (h:PO X e t) (k:∀ σ H Q,t' σ H Q→t σ H Q):PO X e t':=fun pins s σ H Q I q=>h pins s σ H Q I (k σ H Q q)
theorem gz:POD X E none ck:=DO.imp fun σ H Q qz3=>(by obtain ⟨A,δ,R,o⟩:=qz3; exact o H (aT.refl _))
theorem fW (h:PD X E e ga):POD X E (some e) (d4 ga):=(Ei h).imp fun σ H Q ⟨A,δ,R,o⟩=>⟨A,δ,R,by
  unfold d4 at o
  cases q:ga δ with
  | no=>rw [q] at o; exact o
  | rz C=>rw [q] at o; exact o
  | ok d =>
    rw [q] at o
    cases d with
    | int i=>exact fun v H' s h=>⟨i,h.ofInt,o H' s⟩
    | _=>exact o.elim⟩
theorem oD.run {K:PySem.W.Frag} {g:Ds→Rs (Option Int)} {σ:St} {H:Hp} {A:List Addr} {δ:Ds} {Q:Option Int→Hp→Prop} (R:fU K H A δ σ)
    (ok:∀ d,g δ=.ok d→∀ H',aT H H'→fU K H' A δ σ→Q d H') (rz:∀ C,g δ=.rz C→∀ H',aT H H'→E (.ref C) none H') (no:g δ=.no→False):oD K E g σ H Q:=by
  refine ⟨A,δ,R,?_⟩
  cases e:g δ with
  | ok d=>exact fun H' s=>ok d e H' s (R.same s)
  | rz C=>exact fun H' s=>rz C e H' s
  | no=>exact no e
noncomputable def cG (g:Ds→Rs PyData) (lo hi:Ds→Rs (Option Int)):Ds→Rs PyData:=fun δ=>(g δ).bind fun d=>(lo δ).bind fun l=>(hi δ).bind fun h=>Rs.fX (uI d l h)
theorem Iss.cut {K:PySem.W.Frag} {H:Hp} {ds:List PyData} {vs:List V} (h:Iss K H ds vs) (lo hi:Option Int):Iss K H (cutD ds lo hi) (wG vs lo hi):=by
  unfold cutD wG
  rw [h.length]
  exact (h.drop _).take _
theorem gJ {lo hi:Option Expr} {gl gh:Ds→Rs (Option Int)} {p2:Pos} (he:PD X E e ga) (hl:POD X E lo gl) (hh:POD X E hi gh):PD X E (.Subscript e (.Slice lo hi none p2) pos) (cG ga gl gh) :=
  (CN (DW.or (Gh.or D6)) he hl hh).imp fun σ H Q pz3=>by
    obtain ⟨A,δ,R,o⟩:=pz3
    unfold cG at o
    refine eD.run R (fun d ed v H1 s1 R1 hv=>?_) (fun C et H' s'=>by rw [et] at o; exact o H' s') (fun et=>by rw [et] at o; exact o)
    simp only [ed,Rs.aj] at o
    refine oD.run R1 (fun l el H2 s2 R2=>?_) (fun C et H' s'=>by rw [et] at o; exact o H' (s1.trans s')) (fun et=>by rw [et] at o; exact o)
    simp only [el,Rs.aj] at o
    refine oD.run R2 (fun h eh H3 s3 R3=>?_) (fun C et H' s'=>by rw [et] at o; exact o H' (s1.trans (s2.trans s'))) (fun et=>by rw [et] at o; exact o)
    simp only [eh,Rs.aj] at o
    have hv3:=hv.same (s2.trans s3).del
    have s13:=s1.trans (s2.trans s3)
    cases d with
    | list ds =>
      obtain ⟨p,xs,rfl,hp,hx⟩:=hv3.ofLst
      exact .inl ⟨p,xs,rfl,SqL.of (a9 _ _ hp),fun q hq=>o _ _ (s13.trans (cT hq)) (l8 R3.ls hq (hx.cut l h))⟩
    | tuple ds =>
      obtain ⟨p,xs,rfl,hp,hx⟩:=hv3.ofTup
      by_cases hw:HT.sIx xs.length 0 l=0∧HT.sIx xs.length xs.length h=xs.length
      · refine .inr (.inr ⟨p,xs,rfl,SqT.of (a9 _ _ hp),hw,o _ _ s13 ?_⟩)
        have e:cutD ds l h=ds:=by
          unfold cutD
          rw [← hx.length,hw.1,hw.2]
          simp [hx.length]
        show Is X.K _ (.tuple (cutD ds l h)) _
        rw [e]
        exact nz hp hx
      · exact .inr (.inl ⟨p,xs,rfl,SqT.of (a9 _ _ hp),hw,fun q hq=>o _ _ (s13.trans (cT hq)) (oq R3.ls hq (hx.cut l h))⟩)
    | _=>exact o.elim
noncomputable def toV:PyData→V
  | .none=>.non
  | .bool b=>.bl b
  | .int i=>.int i
  | .str x=>.str x
  | _=>.non
noncomputable def inD (x:PyData) (xs:List PyData):Bool:=inV (toV x) (xs.map toV)
noncomputable def lP (neg:Bool):PyData→PyData→Option PyData
  | x,.list xs=>if gP x && xs.all gP then some (.bool (if neg then !inD x xs else inD x xs)) else none
  | x,.tuple xs=>if gP x && xs.all gP then some (.bool (if neg then !inD x xs else inD x xs)) else none
  | _,_=>none
theorem Is.flat {K:PySem.W.Frag} {H:Hp} {d:PyData} {v:V} (h:Is K H d v) (f:gP d=true):v=toV d∧kZ v=true:=by
  cases d with
  | none=>rw [h.ofNone]; exact ⟨rfl,rfl⟩
  | bool b=>rw [h.ofBool]; exact ⟨rfl,rfl⟩
  | int i=>rw [h.ofInt]; exact ⟨rfl,rfl⟩
  | str x=>rw [h.ofStr]; exact ⟨rfl,rfl⟩
  | _=>cases f
theorem Iss.flat {K:PySem.W.Frag} {H:Hp}:∀ {ds:List PyData} {vs:List V},Iss K H ds vs→ds.all gP=true→vs=ds.map toV∧vs.all kZ=true
  | [],_,h,_=>by rw [h.nil_of]; exact ⟨rfl,rfl⟩
  | d::ds,_,h,f=>by
    rw [List.all_cons,Bool.and_eq_true] at f
    obtain ⟨v,r,rfl,h1,h2⟩:=h.cons_of
    obtain ⟨e1,f1⟩:=h1.flat f.1
    obtain ⟨e2,f2⟩:=Iss.flat h2 f.2
    exact ⟨by rw [e1,e2]; rfl,by rw [List.all_cons,f1,f2]; rfl⟩
theorem Cc {K:PySem.W.Frag} {neg:Bool}:OpD K (lP neg) (rIn K neg):=fun d1 d2 d x y H A Q e hA h1 h2 k=>by
  unfold lP at e
  split at e
  · split at e
    · rename_i z
      rw [Bool.and_eq_true] at z
      cases e
      obtain ⟨p,xs,rfl,hp,hx⟩:=h2.ofLst
      obtain ⟨e1,f1⟩:=h1.flat z.1
      obtain ⟨e2,f2⟩:=hx.flat z.2
      refine ⟨p,xs,rfl,.inl (SqL.of (a9 _ _ hp)),f1,f2,?_⟩
      rw [e1,e2]
      exact k _ H (aT.refl _) is_bool
    · cases e
  · split at e
    · rename_i z
      rw [Bool.and_eq_true] at z
      cases e
      obtain ⟨p,xs,rfl,hp,hx⟩:=h2.ofTup
      obtain ⟨e1,f1⟩:=h1.flat z.1
      obtain ⟨e2,f2⟩:=hx.flat z.2
      refine ⟨p,xs,rfl,.inr (SqT.of (a9 _ _ hp)),f1,f2,?_⟩
      rw [e1,e2]
      exact k _ H (aT.refl _) is_bool
    · cases e
  · cases e
theorem G0 (ha:PD X E a ga) (hb:PD X E b gb) (hm:behindInMarks .In b=false:=by with_unfolding_all rfl):PD X E (.Compare a [.In] [b] pos) (g2 (lP false) ga gb):=kl Cc ha hb fun h1 h2=>uD Ax h1 h2 hm
theorem t7 (ha:PD X E a ga) (hb:PD X E b gb) (hm:behindInMarks .NotIn b=false:=by with_unfolding_all rfl):PCD X E (.Compare a [.NotIn] [b] pos) (gT (g2 (lP true) ga gb)):=oB Cc ha hb fun h1 h2=>mB u6 h1 h2 hm
noncomputable def oI (f f':PyData→PyData→Option PyData) (a b c:Ds→Rs PyData):Ds→Rs PyData:=fun δ=>(a δ).bind fun x=>(b δ).bind fun y=>(Rs.fX (f x y)).bind fun z=>(truth z).bind fun t=>if t=true then (c δ).bind fun w=>Rs.fX (f' y w) else .ok (.bool false)
theorem BE {op op':CmpOp} {r r':R2} {f f':PyData→PyData→Option PyData} (ho:OpR X (compareOp op) r) (ho':OpR X (compareOp op') r') (hf:OpD X.K f r) (hf':OpD X.K f' r') (ha:PD X E a ga) (hb:PD X E b gb) (hc:PD X E c gc)
    (hm:lastMarks [op,op'] [b,c]=false:=by with_unfolding_all rfl):PD X E (.Compare a [op,op'] [b,c] pos) (oI f f' ga gb gc):=(CJ ho ho' ha hb hc hm).imp fun σ H Q pz3=>by
  obtain ⟨A,δ,R,o⟩:=pz3
  unfold oI at o
  refine eD.run R (fun d1 e1 v H1 s1 R1 h1=>?_) (fun C et H' s'=>by rw [et] at o; exact o H' s') (fun et=>by rw [et] at o; exact o)
  simp only [e1,Rs.aj] at o
  refine eD.run R1 (fun d2 e2 u H2 s2 R2 h2=>?_) (fun C et H' s'=>by rw [et] at o; exact o H' (s1.trans s')) (fun et=>by rw [et] at o; exact o)
  simp only [e2,Rs.aj] at o
  cases e3:f d1 d2 with
  | none=>rw [e3] at o; exact o.elim
  | some z =>
    simp only [e3,Rs.ao,Rs.aj] at o
    refine hf d1 d2 z v u H2 A _ e3 R2.ls (h1.same s2.del) h2 fun w H3 s3 h3=>?_
    obtain ⟨t,rfl,o⟩:=qK o
    refine ⟨t,h3.ofBool,?_⟩
    cases t with
    | false=>exact o _ H3 (s1.trans (s2.trans s3)) is_bool
    | true =>
      have o:jN X.K E A H ((gc δ).bind fun w=>Rs.fX (f' d2 w)) Q:=o
      refine eD.run (R2.same s3) (fun d3 e4 w' H4 s4 R4 h4=>?_) (fun C et H' s'=>by rw [et] at o; exact o H' (s1.trans (s2.trans (s3.trans s')))) (fun et=>by rw [et] at o; exact o)
      simp only [e4,Rs.aj] at o
      cases e5:f' d2 d3 with
      | none=>rw [e5] at o; exact o.elim
      | some d=>rw [e5] at o; exact hf' d2 d3 d u w' H4 A Q e5 R4.ls (h2.same (s3.trans s4).del) h4 fun x H5 s5 h5=>o x H5 (s1.trans (s2.trans (s3.trans (s4.trans s5)))) h5
theorem zu (ha:PD X E a ga) (hb:PD X E b gb) (hc:PD X E c gc) (hm:lastMarks [.LtE,.LtE] [b,c]=false:=by with_unfolding_all rfl):PD X E (.Compare a [.LtE,.LtE] [b,c] pos) (oI dLe dLe ga gb gc):=BE zt zt (ph fun _ _ _ _=>is_bool) (ph fun _ _ _ _=>is_bool) ha hb hc hm
end
section
variable {X:Cx} {E:XK} {tg a b c:Expr} {pos:Pos} {gs:Ds→Rs (List PyData)}
noncomputable def Iq (i j c:Int):Nat:=(Builtin.Range.rangeSize i j c).toNat
noncomputable def F8 (i j c:Int):Bool:=decide (-(1000000)≤i∧i≤1000000∧-(1000000)≤j∧j≤1000000∧-(1000000)≤c∧c≤1000000∧c≠0) && Builtin.Range.small i j c
noncomputable def FK (lo c:Int) (n:Nat):List PyData:=(List.range n).map fun (i:Nat)=>PyData.int (lo + (i:Int) * c)
noncomputable def GQ:List PyData→Rs (List PyData)
  | [.int i,.int j,.int c]=>if F8 i j c then .ok (FK i c (Iq i j c)) else .no
  | _=>.no
noncomputable def GS (g:Ds→Rs (List PyData)):Ds→Rs (List PyData):=fun δ=>(g δ).bind GQ
noncomputable def tLR (ta:TA):TE:=fun σ H Q=>ta σ H fun vs H1=>∃ j:Int,vs=[.int j]∧0≤j∧j≤1000000∧∀ p,H1 p=none→Q (.ref p) (upd H1 p (.lst ((List.range j.toNat).map fun (i:Nat)=>V.int (i:Int))))
theorem Fb {pins:List (Addr × Obj)} {σ:St} {H1:Hp} {s2:Shared} {Q:VK} {j:Int} {h':Heap} {tk:Nat} {acc':Array Value} {c':Nat} (I2:Inv X pins σ H1 s2) (kk:∀ b o,s2.heap.get? b=some o→h'.get? b=some o)
    (hl:h'.get? s2.heap.objs.size=some { cls:=.type "list",dict:=none,data:=.seq acc' c',slots:=#[] }) (hi:ItemsOf (fun i v=>∃ t,v=.int ((0:Int) + (i:Int) * 1) t) acc' j.toNat) (q1:0≤j) (q2:j≤1000000)
    (q:∀ p,H1 p=none→Q (.ref p) (upd H1 p (.lst ((List.range j.toNat).map fun (i:Nat)=>V.int (i:Int))))):EP X pins σ Q (.ref s2.heap.objs.size) { s2 with heap:=h',toks:=tk }:=by
    have hv:Vals ((List.range j.toNat).map fun (i:Nat)=>V.int (i:Int)) acc'.toList:=by
      have aux:∀ (l:List Value) (k:Nat),(∀ (m:Nat) v,l[m]?=some v→∃ t,v=.int ((0:Int) + ((k + m:Nat):Int) * 1) t)→Vals ((List.range' k l.length).map fun (i:Nat)=>V.int (i:Int)) l:=by
        intro l
        induction l with
        | nil=>intro k _; exact .nil
        | cons x r ih =>
          intro k hk
          rw [List.length_cons,List.range'_succ,List.map_cons]
          refine .cons ?_ (ih (k + 1) fun m v hm=>?_)
          · obtain ⟨t,e⟩:=hk 0 x rfl
            exact ⟨t,by rw [e]; simp⟩
          · obtain ⟨t,e⟩:=hk (m + 1) v (by simpa using hm)
            exact ⟨t,by rw [e,show k + (m + 1)=k + 1 + m by omega]⟩
      have h1:=aux acc'.toList 0 (fun m v hm=>by
        obtain ⟨t,e⟩:=hi.2 m v (by rw [← Array.getElem?_toList]; exact hm)
        exact ⟨t,by rw [e]; simp⟩)
      rw [Array.length_toList,hi.1] at h1
      rw [List.range_eq_range']
      exact h1
    exact ⟨.ref s2.heap.objs.size,_,I2.laid (t':=tk) kk (Nat.le_refl _) (show fP X.prog X.w _ h' _ (.lst ((List.range j.toNat).map fun (i:Nat)=>V.int (i:Int))) from ⟨by rw [List.length_map,List.length_range,sizeLine_eq]; omega,acc'.toList,c',hv,by simpa using hl⟩),rfl,q _ (I2.hok.fresh (Nat.le_refl _))⟩
theorem vV {ta:TA} {p p2 pos2:Pos} (hc:X.calm=true) (hg:Gl X "range") (hm:X.mg "range"=none) (hgl:Gl X "list") (hml:X.mg "list"=none) (ha:PA X [a] ta) (hs:starEach [a] X.env=[(false,eval a X.env)]:=by rfl)
    (hs2:starEach [.Call (.Name "range" p) [a] [] pos] X.env=[(false,eval (.Call (.Name "range" p) [a] [] pos) X.env)]:=by rfl) :
    PE X (.Call (.Name "list" p2) [.Call (.Name "range" p) [a] [] pos] [] pos2) (tLR ta):=by
  intro pins s σ H Q I h
  refine Call_ (ja I hgl hml DP (PyProof.Rows.callWith_type1 ?_ hs2 rfl))
  rw [hs2]
  show wpAny _ _ (spliced ((false,eval (.Call (.Name "range" p) [a] [] pos) X.env)::backTo pos2 [])) _ _ s
  refine Calls.spliced_cons (Call_ (ja I hg hm boot_range (PyProof.Rows.callWith_type1 (thn (ha pos pins s σ H _ I h) fun us s1 rz2=>?_) hs rfl)))
  obtain ⟨vs,H1,I1,r1,q1⟩:=rz2
  obtain ⟨j,e,q1,q2,q⟩:=q1
  subst e
  cases r1 with
  | cons r rr =>
    cases rr
    obtain ⟨t,rfl⟩:=r
    refine call_range_1 (Calls.spliced_nil ?_)
    have e2:Builtin.Range.rangeSize 0 j 1=((j.toNat:Nat):Int):=by rw [rangeSize_one]; split <;> omega
    refine call_list_range (n:=j.toNat) (I1.ok.hd hc) (IsRange.new ..) (small_one (by omega) (by omega) (by omega) (by omega)) e2 (by omega) fun h' tk acc' c' kk hl hi=>?_
    exact Fb (I1.kept fun b o e=>Heap.get?_push_of_some _ e) kk hl hi q1 q2 q
noncomputable def u7:List PyData→Rs (List PyData)
  | [.int j]=>if 0≤j∧j≤1000000 then .ok (cx 0 j.toNat) else .no
  | _=>.no
noncomputable def gLR (g:Ds→Rs (List PyData)):Ds→Rs (List PyData):=fun δ=>(g δ).bind u7
theorem AM {p p2 pos2:Pos} (hc:X.calm=true) (hm:X.mg "range"=none) (hml:X.mg "list"=none) (ha:PAD X E [a] gs) (hg:Gl X "range":=by rfl) (hgl:Gl X "list":=by rfl) (hs:starEach [a] X.env=[(false,eval a X.env)]:=by rfl)
    (hs2:starEach [.Call (.Name "range" p) [a] [] pos] X.env=[(false,eval (.Call (.Name "range" p) [a] [] pos) X.env)]:=by rfl):PLD X E (.Call (.Name "list" p2) [.Call (.Name "range" p) [a] [] pos] [] pos2) (gLR gs) :=
  (vV hc hg hm hgl hml ha.1 hs hs2).imp fun σ H Q pz3=>by
    obtain ⟨A,δ,R,o⟩:=pz3
    unfold gLR at o
    refine aD.run R (fun ds e vs H1 s1 R1 h1=>?_) (fun C e H' s'=>by rw [e] at o; exact o H' s') (fun e=>by rw [e] at o; exact o)
    simp only [e,Rs.aj] at o
    unfold u7 at o
    split at o
    · split at o
      · rename_i j z
        obtain ⟨v,rfl,h⟩:=lE h1
        rw [h.ofInt]
        refine ⟨j,rfl,z.1,z.2,fun q hq=>o q _ _ (s1.free hq) (s1.trans (cT hq)) cA ?_⟩
        have:cx 0 j.toNat=((List.range j.toNat).map fun (i:Nat)=>(i:Int)).map PyData.int:=by
          unfold cx; rw [List.map_map]; congr 1; funext i; simp
        rw [this,show ((List.range j.toNat).map fun (i:Nat)=>V.int (i:Int))=((List.range j.toNat).map fun (i:Nat)=>(i:Int)).map V.int by rw [List.map_map]; rfl]
        exact om _
      · exact o.elim
    · exact o.elim
end
end L2
set_option maxRecDepth 100000
set_option maxHeartbeats 4000000
namespace L2
open PySem PySem.Spec PyProof.Rows
theorem wg (t:Addr) (xs:Array Value):Meets (Builtin.«enumerate.__new__» ⟨[.type "enumerate",.ref t],[]⟩) (fun _ R s=>s.heap.IsTuple t xs ∧
      R (.ok (.ret (.ref (s.heap.push { cls:=.type "tuple_iterator",data:=.fields #[.ref t,.int 0 0] }).objs.size)))
        { s with heap:=(s.heap.push { cls:=.type "tuple_iterator",data:=.fields #[.ref t,.int 0 0] }).push { cls:=.type "enumerate",data:=.fields #[.none,.bool false,.ref s.heap.objs.size,rawInt 0,.none,.none] } }) :=
  .of_wp fun prog w A R s h=>by
    obtain ⟨hp,g,d,tk,os⟩:=s; obtain ⟨hl,h⟩:=h
    have hsub:=sub_enumerate
    have hL:Heap.IsTuple (Shared.heap ⟨hp,g,d,tk,os⟩) t xs:=hl
    wp_walk
    refine wpAny_stack_any fun st=>wpAny_pure ?_
    split
    · rename_i c _ _ _ _ _
      cases (c == Value.type "enumerate")
      · wp_walk using wpAny_pyIter_tuple hL
        exact ⟨_,rfl,h⟩
      · wp_walk using wpAny_pyIter_tuple hL
        exact ⟨_,rfl,h⟩
    · wp_walk using wpAny_pyIter_tuple hL
      exact ⟨_,rfl,h⟩
theorem zc {prog:Program} {w:World} {A:Around} {E:Value→Shared→Prop} {s:Shared} {l:Addr} {items:Array Value} {Q:Value→Shared→Prop} (hL:s.heap.IsTuple l items)
    (h:∀ h',IsEnum h' (s.heap.objs.size + 1) s.heap.objs.size 0 .none→h'.IsTupleIter s.heap.objs.size l 0→(∀ b o,s.heap.get? b=some o→h'.get? b=some o)→Q (.ref (s.heap.objs.size + 1)) { s with heap:=h' }) :
    wpAny (model prog w) A (call (.type "enumerate") [.ref l]) Q E s:=by
  refine callType_new PySem.F.called_enumerate (by decide) (PySem.F.typeCall_enumerate_1 _) (PySem.F.newCall_enumerate_1 _) (fun obj=>PySem.F.args_object_init_2 obj _) PySem.F.entry_enumerate_new (wg l items) ⟨hL,?_⟩
  have hz:(s.heap.push { cls:=.type "tuple_iterator",data:=.fields #[.ref l,.int 0 0] }).objs.size=s.heap.objs.size + 1:=Heap.size_push ..
  show _∧_
  rw [hz]
  have he:IsEnum ((s.heap.push { cls:=.type "tuple_iterator",data:=.fields #[.ref l,.int 0 0] }).push
      { cls:=.type "enumerate",data:=.fields #[.none,.bool false,.ref s.heap.objs.size,rawInt 0,.none,.none] }) (s.heap.objs.size + 1) s.heap.objs.size 0 .none:=by
    have:=Heap.get?_push_size (s.heap.push { cls:=.type "tuple_iterator",data:=.fields #[.ref l,.int 0 0] })
      (o:={ cls:=.type "enumerate",data:=.fields #[.none,.bool false,.ref s.heap.objs.size,rawInt 0,.none,.none] }) rfl
    rw [hz] at this
    exact this
  refine ⟨⟨_,he,rfl⟩,h _ he ⟨_,Heap.get?_push_of_some _ (Heap.get?_push_size _ rfl),rfl,rfl⟩ fun b o e=>Heap.get?_push_of_some _ (Heap.get?_push_of_some _ e)⟩
noncomputable def Ite (P:Hp→List V→Prop) (n:Nat):It :=
  ⟨fun i H=>i < n∧∃ xs,P H xs∧xs.length=n,
   fun i H v H'=>∃ t x,v=.ref t∧H t=none∧H'=upd H t (.tup [.int i,x])∧∀ xs,P H xs→xs[i]?=some x,
   fun i H=>i=n∧∃ xs,P H xs∧xs.length=n⟩
theorem uf {P:Program} {w:World} {K:PySem.W.Frag} {elts:List Expr} {x1:Nat} {tp:Pos} {a e it:Addr} {n:Nat} {Pv:Hp→List V→Prop} {S:Nat→Heap→Prop} {B:Heap→Array Value→Prop} (hne:e≠it) (hea:e≠a)
    (hD:∀ (A:Around),A.handled=none→∀ its:Array Value,Draws P w A it [it,a] its.size (fun i v=>its[i]?=some v) (fun i h=>S i h∧B h its))
    (hB:∀ (X:Cx),X.prog=P→X.w=w→X.K=K→∀ {pins:List (Addr × Obj)} {s:Shared} {σ:St} {H:Hp} {xs:List V},Inv X pins σ H s→Pv H xs→∃ its:List Value,Vals xs its∧B s.heap its.toArray)
    (hI:∀ (X:Cx),X.prog=P→X.w=w→X.K=K→∀ {pins:List (Addr × Obj)} {s:Shared} {σ:St} {H:Hp} {xs ys:List V},Inv X pins σ H s→Pv H xs→Pv H ys→xs=ys)
    (hO:∀ i h,S i h→∃ o,h.get? it=some o∧∀ v,o.data≠.cell v) (hK:∀ i h h',S i h→(∀ o,h.get? it=some o→h'.get? it=some o)→S i h') :
    Turn P w K (.Tuple elts x1 tp) (Ite Pv n) [e,it] e (fun i h=>(∃ old,IsEnum h e it i old)∧S i h) where
  mem:=by simp
  obj:=fun i h st c hc=>by
    obtain ⟨⟨old,h1⟩,h2⟩:=st
    simp only [List.mem_cons,List.not_mem_nil,or_false] at hc
    rcases hc with rfl | rfl
    · exact ⟨_,h1,fun v q=>by cases q⟩
    · exact hO i h h2
  keep:=fun i h h' st k=>by
    obtain ⟨⟨old,h1⟩,h2⟩:=st
    exact ⟨⟨old,k e (by simp) _ h1⟩,hK i h h' h2 fun o q=>k it (by simp) o q⟩
  item:=by
    intro X hP hw hKK hc i pins s σ H E I hf st hg
    subst hP hw hKK
    obtain ⟨hi,xs,hx,lx⟩:=hg
    obtain ⟨⟨old,h1⟩,h2⟩:=st
    obtain ⟨its,rv,hb⟩:=hB X rfl rfl rfl I hx
    have la:=rv.length
    refine wpAny_pyNext_enum_itemD (hD X.A.in1 (I.ok.hd hc) its.toArray) h1 ⟨h2,hb⟩ (by simp; omega) hne (by simp [hne,hea]) fun x h' tk px ho hs hT hsz hk=>⟨_,rfl,?_⟩
    refine wpAny_letOwnedTupleGo_enum (s:={ s with heap:=h',toks:=tk + 1 }) ho fun h2' d1 d2=>?_
    have el:e < s.heap.objs.size:=Heap.lt_size h1
    have il:it < s.heap.objs.size:=by obtain ⟨o,q,_⟩:=hO i _ h2; exact Heap.lt_size q
    have up:∀ c o,c≠e→h'.get? c=some o→h2'.get? c=some o:=fun c o hc q=>(d2.2 c hc).trans q
    obtain ⟨x0,ex,rx⟩:∃ x0,xs[i]?=some x0∧RelV x0 x:=by
      have hil:i < xs.length:=by omega
      obtain ⟨u',e1,e2⟩:=rv.get (List.getElem?_eq_getElem hil)
      refine ⟨xs[i],List.getElem?_eq_getElem hil,?_⟩
      have px':its[i]?=some x:=by simpa using px
      rw [e1] at px'; cases px'; exact e2
    have fr:H s.heap.objs.size=none:=I.hok.fresh (Nat.le_refl _)
    refine ⟨.ref s.heap.objs.size,upd H s.heap.objs.size (.tup [.int i,x0]),?_,rfl,⟨_,x0,rfl,fr,rfl,fun ys h=>by rw [hI X rfl rfl rfl I h hx]; exact ex⟩,?_,fun c hc'=>?_⟩
    · refine I.turnLay (t':=tk + 1) (ch:=[e,it]) hf (Nat.le_refl _) (fun c o hn q=>?_) ⟨by show 2≤sizeLine; decide,[.int i tk,x],.cons ⟨tk,rfl⟩ (.cons rx .nil),⟨_,up _ _ (Nat.ne_of_gt el) hT,rfl,rfl,_,rfl⟩⟩
      simp only [List.mem_cons,List.not_mem_nil,or_false,not_or] at hn
      exact up c o hn.1 (hk c o hn.1 hn.2 q)
    · exact ⟨⟨x,by simpa using d1⟩,hK _ _ _ hs.1 fun o q=>up it o hne.symm q⟩
    · have h0:=(hf c hc').1
      simp only [List.mem_cons,List.not_mem_nil,or_false] at hc'
      rcases hc' with rfl | rfl
      · rw [bG (Nat.ne_of_lt el)]; exact h0
      · rw [bG (Nat.ne_of_lt il)]; exact h0
  done:=by
    intro X hP hw hKK hc i pins s σ H E I hf st hg
    subst hP hw hKK
    obtain ⟨hi,xs,hx,lx⟩:=hg
    obtain ⟨⟨old,h1⟩,h2⟩:=st
    obtain ⟨its,rv,hb⟩:=hB X rfl rfl rfl I hx
    have la:=rv.length
    have e':its.toArray.size=i:=by simp; omega
    refine wpAny_pyNext_enum_endD (hD X.A.in1 (I.ok.hd hc) its.toArray) h1 ⟨by rw [e']; exact h2,hb⟩ fun h' k=>⟨rfl,?_⟩
    refine I.turneds (t':=s.toks) (ch:=[e,it]) hf fun c o hn q=>?_
    simp only [List.mem_cons,List.not_mem_nil,or_false,not_or] at hn
    exact k c o hn.2 q
  self:=fun _ _ _ _ _ st h=>by
    obtain ⟨⟨old,h1⟩,_⟩:=st
    exact wpAny_pyIter_enum h1 h
theorem DK:bootBuiltins "enumerate"=some (.type "enumerate"):=by decide +kernel
noncomputable def G5 (K:PySem.W.Frag) (ta:TA):TI:=fun σ H R=>ta σ H fun vs H1=>∃ a xs,vs=[.ref a]∧((SqT K H1 a xs∧R (Ite (fun H ys=>SqT K H a ys) xs.length) H1)∨(SqL K H1 a xs∧R (Ite (fun H ys=>SqL K H a ys) xs.length) H1))
theorem DT {X:Cx} {elts:List Expr} {x1:Nat} {tp:Pos} {a:Expr} {ta:TA} {p pos:Pos} (hg:Gl X "enumerate") (hm:X.mg "enumerate"=none) (ha:PA X [a] ta) (hs:starEach [a] X.env=[(false,eval a X.env)]:=by rfl) :
    PI X (.Tuple elts x1 tp) (.Call (.Name "enumerate" p) [a] [] pos) (G5 X.K ta):=by
  intro pins s σ H R I h
  refine Call_ (ja I hg hm DK (PyProof.Rows.callWith_type1 (thn (ha pos pins s σ H _ I h) fun us s1 rz2=>?_) hs rfl))
  obtain ⟨vs,H1,I1,r1,q1⟩:=rz2
  obtain ⟨aa,xs,e,q⟩:=q1
  subst e
  obtain ⟨u1,e1,r2⟩:=vals1 r1
  subst e1
  cases r2
  have big:∀ c∈[s1.heap.objs.size + 1,s1.heap.objs.size],s1.heap.objs.size≤c:=fun c hc=>by
    simp only [List.mem_cons,List.not_mem_nil,or_false] at hc
    rcases hc with rfl | rfl
    · exact Nat.le_succ _
    · exact Nat.le_refl _
  have nes:s1.heap.objs.size + 1≠s1.heap.objs.size:=Nat.succ_ne_self _
  rcases q with ⟨hx,q⟩ | ⟨hx,q⟩
  · obtain ⟨its,rv,pt,_⟩:=I1.tuple hx
    have pt':s1.heap.IsTuple aa its.toArray:=pt
    have al:aa < s1.heap.objs.size:=by obtain ⟨_,g,_⟩:=pt'; exact Heap.lt_size g
    refine zc pt' fun h' he hit kk=>wpAny_pyIter_enum he ?_
    have I2:Inv X pins σ H1 { s1 with heap:=h' }:=I1.kept (t':=s1.toks) kk
    refine ⟨_,_,_,_,H1,rfl,I2,uf (a:=aa) (S:=fun i h=>h.IsTupleIter s1.heap.objs.size aa i) (B:=fun h its=>h.IsTuple aa its) nes (Nat.ne_of_gt (Nat.lt_succ_of_lt al)) (fun A hh its=>AH hh s1.heap.objs.size aa (Nat.ne_of_lt al) its)
      (fun X' _ _ hK {_ _ _ _ _} I h=>?_) (fun X' _ _ hK {_ _ _ _ _ _} I h1 h2=>?_) (fun i h st=>?_) (fun i h h'' st k=>?_),⟨⟨_,he⟩,hit⟩,fun c hc=>I1.fpOk (big c hc) (I1.hok.fresh (big c hc)),q⟩
    · rw [← hK] at h
      obtain ⟨its,rv,p,_⟩:=I.tuple h
      exact ⟨its,rv,p⟩
    · rw [← hK] at h1 h2
      exact I.tuple_inj h1 h2
    · obtain ⟨o,g,_,d⟩:=st
      exact ⟨o,g,fun v q=>by rw [d] at q; cases q⟩
    · obtain ⟨o,g,r⟩:=st
      exact ⟨o,k o g,r⟩
  · obtain ⟨its,rv,pl,_⟩:=I1.list hx
    have al:aa < s1.heap.objs.size:=by obtain ⟨_,_,g,_⟩:=pl; exact Heap.lt_size g
    refine call_enumerate_list pl.isList fun h' he hit hz kk=>wpAny_pyIter_enum he ?_
    have I2:Inv X pins σ H1 { s1 with heap:=h' }:=I1.kept (t':=s1.toks) kk
    refine ⟨_,_,_,_,H1,rfl,I2,uf (a:=aa) (S:=fun i h=>h.IsListIter s1.heap.objs.size aa i) (B:=fun h its=>h.IsList aa its) nes (Nat.ne_of_gt (Nat.lt_succ_of_lt al)) (fun A hh its=>Draws.list hh s1.heap.objs.size aa (Nat.ne_of_lt al) its)
      (fun X' _ _ hK {_ _ _ _ _} I h=>?_) (fun X' _ _ hK {_ _ _ _ _ _} I h1 h2=>?_) (fun i h st=>?_) (fun i h h'' st k=>?_),⟨⟨_,he⟩,hit⟩,fun c hc=>I1.fpOk (big c hc) (I1.hok.fresh (big c hc)),q⟩
    · rw [← hK] at h
      obtain ⟨its,rv,p,_⟩:=I.list h
      exact ⟨its,rv,p.isList⟩
    · rw [← hK] at h1 h2
      exact I.list_inj h1 h2
    · obtain ⟨o,g,_,d⟩:=st
      exact ⟨o,g,fun v q=>by rw [d] at q; cases q⟩
    · obtain ⟨o,g,r⟩:=st
      exact ⟨o,k o g,r⟩
noncomputable def iw (ds:List PyData):List PyData:=ds.mapIdx fun i d=>.tuple [.int i,d]
theorem An (ds:List PyData):(iw ds).length=ds.length:=by simp [iw]
theorem uh {K:PySem.W.Frag} {G:Hp} {Pv:Hp→List V→Prop} {xs:List V} {ds:List PyData} (h:Iss K G ds xs) (hp:∀ H1,aT G H1→Pv H1 xs):C1 K (Ite Pv xs.length) (iw ds) G:=fun H1 B s lB hB=>by
  have hl:=h.length
  rw [An]
  refine ⟨fun i hi=>⟨by omega,xs,hp H1 s,rfl⟩,⟨hl.symm,xs,hp H1 s,rfl⟩,fun i x H2 hi y=>?_⟩
  obtain ⟨t,x0,rfl,ht,rfl,hx⟩:=y
  obtain ⟨d,e,hd⟩:=h.get (hx xs (hp H1 s))
  refine ⟨cT ht,.tuple [.int i,d],by unfold iw; rw [List.getElem?_mapIdx,e]; rfl,?_⟩
  have nb:t ∉ B:=lB.new ht
  exact nz (by rw [cz nb]; exact cA) (fB dz (qu (hd.same (fun b o q=>by
      have q1:=s b o q
      have nt:b≠t:=bP q1 ht
      rw [cz (fun z=>by rw [hB b z] at q; cases q),bG nt]; exact q1))))
section
variable {X:Cx} {E:XK} {a b c e k:Expr} {ga gb gk:Ds→Rs PyData} {pos:Pos} {es:List Expr} {gs:Ds→Rs (List PyData)} {O:List Nat}
noncomputable def su:List PyData→Rs (List PyData)
  | [.list ds]=>.ok (iw ds)
  | [.tuple ds]=>.ok (iw ds)
  | _=>.no
noncomputable def lM (g:Ds→Rs (List PyData)):Ds→Rs (List PyData):=fun δ=>(g δ).bind su
theorem nV {elts:List Expr} {x1:Nat} {tp p:Pos} (hm:X.mg "enumerate"=none) (ha:PAD X E [a] gs) (hg:Gl X "enumerate":=by rfl) (hs:starEach [a] X.env=[(false,eval a X.env)]:=by rfl) :
    PID X E (.Tuple elts x1 tp) (.Call (.Name "enumerate" p) [a] [] pos) (lM gs):=(DT hg hm ha.1 hs).imp fun σ H R ⟨A,δ,Rp,o⟩=>xO Rp o fun ds vs H1 e s1 R1 h1 o=>by
  unfold su at o
  split at o
  · obtain ⟨v,rfl,h⟩:=lE h1
    obtain ⟨p,xs,rfl,hp,hx⟩:=h.ofLst
    exact ⟨p,xs,rfl,.inr ⟨SqL.of (a9 _ _ hp),o _ H1 (aT.refl _) (uh hx fun H2 s2=>SqL.of (s2 _ _ hp))⟩⟩
  · obtain ⟨v,rfl,h⟩:=lE h1
    obtain ⟨p,xs,rfl,hp,hx⟩:=h.ofTup
    exact ⟨p,xs,rfl,.inl ⟨SqT.of (a9 _ _ hp),o _ H1 (aT.refl _) (uh hx fun H2 s2=>SqT.of (s2 _ _ hp))⟩⟩
  · exact o.elim
noncomputable def kK (y x:Nat) (gk:Ds→Rs PyData):Ds→Sr:=fun δ=>match δ[y]?,δ[x]? with
  | some (some (.list ys)),some (some (.list xs))=>ofR (gk δ) fun k=>match k with
    | .int k=>if -(1000000)≤k∧k≤1000000∧ys.length < 1000000 then (match ixN xs.length k with
      | some j=>match xs[j]? with
        | some d=>.nx ((δ.set x (some (.list (xs.eraseIdx j)))).set y (some (.list (ys++[d]))))
        | none=>.no
      | none=>.no) else .no
    | _=>.no
  | _,_=>.no
theorem yl {y x:Nat} {ny nx:Str} {py pa pc px pb pd:Pos} (hk:PD X E k gk) (hyx:x≠y:=by decide) (hOy:y∈O:=by decide) (hOx:x∈O:=by decide) (hiy:X.N[y]?=some ny:=by rfl) (hix:X.N[x]?=some nx:=by rfl)
    (hvy:Vis X.env.scope ny:=by first | exact Or.inl rfl | exact Or.inr (Or.inl rfl) | exact Or.inr (Or.inr rfl)) (hvx:Vis X.env.scope nx:=by first | exact Or.inl rfl | exact Or.inr (Or.inl rfl) | exact Or.inr (Or.inr rfl))
    (hdy:(ny == ("__debug__":Str))=false:=by decide) (hcdy:(ny == ("__classdict__":Str))=false:=by decide) (hdx:(nx == ("__debug__":Str))=false:=by decide) (hcdx:(nx == ("__classdict__":Str))=false:=by decide)
    (hst:starEach [k] X.env=(false,eval k X.env)::starEach [] X.env:=by rfl) (hst2:starEach [.Call (.Attribute (.Name nx px) "pop" pb) [k] [] pd] X.env=(false,eval (.Call (.Attribute (.Name nx px) "pop" pb) [k] [] pd) X.env)::starEach [] X.env:=by rfl)
    (hbase:attributeBase (.Name nx px) "pop" X.env (eval (.Name nx px) X.env)=eval (.Name nx px) X.env:=by rfl) (hbase2:attributeBase (.Name ny py) "append" X.env (eval (.Name ny py) X.env)=eval (.Name ny py) X.env:=by rfl)
    (hfew:((backTo pd (starEach [k] X.env)).all (fun x=>!x.1) && (backToKw pd (keywordEach [] X.env)).all (fun x=>x.1.isSome) && decide (([k]:List Expr).length + ([]:List Keyword).length + (if ([]:List Keyword).isEmpty then 0 else 1) < 30))=true:=by rfl)
    (hfew2:((backTo pc (starEach [.Call (.Attribute (.Name nx px) "pop" pb) [k] [] pd] X.env)).all (fun x=>!x.1) && (backToKw pc (keywordEach [] X.env)).all (fun x=>x.1.isSome) && decide (([.Call (.Attribute (.Name nx px) "pop" pb) [k] [] pd]:List Expr).length + ([]:List Keyword).length + (if ([]:List Keyword).isEmpty then 0 else 1) < 30))=true:=by rfl)
    (hline:(pb.endLine == pd.line)=true:=by rfl) (hline2:(pa.endLine == pc.line)=true:=by rfl)
    (hs:swapsWith (.Call (.Attribute (.Name ny py) "append" pa) [.Call (.Attribute (.Name nx px) "pop" pb) [k] [] pd] [] pc) none pos.line X.env=pure false:=by rfl) :
    PSD X E O (.Expr (.Call (.Attribute (.Name ny py) "append" pa) [.Call (.Attribute (.Name nx px) "pop" pb) [k] [] pd] [] pc) pos) (kK y x gk) :=
  (vQ (C5 PySem.F.plainAttrs_list PySem.F.slot_list_append PySem.F.type_list_append oF (oP hiy hvy hdy hcdy) (fH (C5 PySem.F.plainAttrs_list PySem.F.slot_list_pop PySem.F.type_list_pop Ct (oP hix hvx hdx hcdx) (fH hk i7 hst) hbase hfew hline hst rfl) i7 hst2) hbase2 hfew2 hline2 hst2 rfl) hs).imp fun D σ H pz3=>by
    obtain ⟨H0,A0,A,δ,R,o⟩:=pz3
    unfold kK at o
    split at o
    · rename_i ys xs qy qx
      obtain ⟨p,vy,dy,e1,hp,hl,e2,hx⟩:=R.own y _ hOy qy
      cases e2
      obtain ⟨r,vx,dx,f1,hr,hm,f2,hz⟩:=R.own x _ hOx qx
      cases f2
      have npr:p≠r:=fun z=>hyx (R.inj x y _ _ p hOx hOy qx qy (by rw [z]; exact f1) e1)
      refine ⟨_,e1,tyL hl,_,f1,tyL hm,?_⟩
      refine eD.run R.full (fun kd ek u H1 s1 R1 hu=>?_) (fun C et H' s'=>by rw [et] at o; exact o H' (R.same.trans s')) (fun et=>by rw [et] at o; exact o)
      simp only [ek,aA] at o
      split at o
      · rename_i kk
        split at o
        · rename_i hb
          split at o
          · rename_i j hj
            split at o
            · rename_i d hd
              obtain ⟨w,hw,hwd⟩:=hz.getD hd
              have hj':=hj
              obtain ⟨g1,g2,g3,g4⟩:=vC hj
              have RS:=R.step s1
              have RS2:=RS.put (ds:=xs.eraseIdx j) (ys:=vx.eraseIdx j) hOx qx f1 hr ((hz.same s1.del).eraseIdx j)
              refine ⟨r,vx,kk,j,w,rfl,by rw [hu.ofInt],s1 _ _ hm,by omega,by omega,by rw [hz.length]; exact g1,hw,?_⟩
              have dU:del (upd H1 r (.lst (vx.eraseIdx j))) (A++A0)=del H1 (A++A0):=vM (List.mem_append_left _ hr)
              refine ⟨p,vy,w,rfl,rfl,by rw [bG npr]; exact s1 _ _ hl,by rw [hx.length,sizeLine_eq]; omega,?_⟩
              refine o A _ _ (RS2.put (ds:=ys++[d]) hOy (by rw [List.getElem?_set_ne hyx]; exact qy) e1 hp ?_)
              rw [dU]
              exact (hx.same s1.del).append (qu (hwd.same s1.del))
            · exact o.elim
          · exact o.elim
        · exact o.elim
      · exact o.elim
    · exact o.elim
end
end L2
set_option maxRecDepth 100000
set_option maxHeartbeats 4000000
namespace L2
open PySem PySem.Spec PyProof.Rows
theorem xF:isSubtype (.type "tuple") (.type "set")=pure false:=by rw [isSubtype_type]; kernel_rfl
theorem wx:isSubtype (.type "tuple") (.type "frozenset")=pure false:=by rw [isSubtype_type]; kernel_rfl
section
variable {prog:Program} {w:World} {A:Around} {E:Value→Shared→Prop} {s:Shared}
noncomputable def seen (ns:List Int) (n:Nat):List Int:=firstMet (fun i=>ns.getD i 0) n
theorem Av {tu:Addr} {its:Array Value} {ns:List Int} {Q:Value→Shared→Prop} (hh:A.handled=none) (ht:s.heap.IsTuple tu its) (hi:IntsAre its.toList ns) (hb:its.size + 1 < scanBound)
    (hQ:∀ (h':Heap) (tk:Nat),h'.SetOf (intKind prog w) s.heap.objs.size (fun k=>(seen ns its.size).any (· == k)) (seen ns its.size).length→(∀ b o,b < s.heap.objs.size→s.heap.get? b=some o→h'.get? b=some o)→Q (.ref s.heap.objs.size) { s with heap:=h',toks:=tk }) :
    wpAny (model prog w) A (call (.type "set") [.ref tu]) Q E s:=by
  obtain ⟨c,tl,mro⟩:=PySem.F.called_set.mro
  have m1:=PySem.F.called_set.made; have m2:=PySem.F.called_set.sub
  refine wpAny_call (codeAny_of_tree ?_); show wpAny _ _ (callAny (.type "set") _) _ _ _
  refine wpAny_pure ⟨Code.quiet_builtin _ (by decide +kernel),codeAny_builtin PySem.F.entry_type_call ?_⟩; rw [Around.under_plain (weight_type_call_type "set" [.ref tu] []) rfl]
  have m3:=PySem.F.called_set.notType; have m4:=PySem.F.called_set.canCreate; have m5:=PySem.F.typeCall_set_1 (.ref tu)
  repeat (any_goals (first | assumption | wp_step))
  refine codeAny_mono (PySem.code_set_new_1 (.ref tu) (E:=E) (Q₁:=fun ob s1=>∃ led:Bool,ob=.ref s.heap.objs.size∧s1={ s with heap:=s.heap.push { cls:=.type "set",dict:=none,data:=.set #[] 0 (.fresh 0 0 led) } }) fun led=>⟨led,rfl,rfl⟩) fun r s1 hr=>?_
  cases r with
  | error ev=>exact hr
  | ok fl =>
    cases fl with
    | ret ob =>
      obtain ⟨led,rfl,rfl⟩:=hr
      have gS:(s.heap.push { cls:=.type "set",dict:=none,data:=.set #[] 0 (.fresh 0 0 led) }).get? s.heap.objs.size=some { cls:=.type "set",dict:=none,data:=.set #[] 0 (.fresh 0 0 led) }:=Heap.get?_push_size _ rfl
      have tS:Shared.TypeIs { s with heap:=s.heap.push { cls:=.type "set",dict:=none,data:=.set #[] 0 (.fresh 0 0 led) } } (.ref s.heap.objs.size) "set":=⟨_,gS,rfl⟩
      have m6:=PySem.F.called_set.init.lookup; have m7:=PySem.F.called_set.init.bind (.ref s.heap.objs.size)
      repeat (any_goals (first | assumption | wp_step))
      refine codeAny_mono (codeAny_call_builtin (R:=wants (fun rv s2=>rv=.none∧∃ h' tk,s2={ s with heap:=h',toks:=tk }∧h'.SetOf (intKind prog w) s.heap.objs.size (fun k=>(seen ns its.size).any (· == k)) (seen ns its.size).length ∧
          (∀ b o,b < s.heap.objs.size→s.heap.get? b=some o→h'.get? b=some o)) E) PySem.F.called_set.init.plain PySem.F.entry_set_init (PySem.check_set_init_1 tS ?_)) fun r2 s2 hr2=>?_
      · obtain ⟨⟨oc,od,oda,osl⟩,go,gc,gn,gd⟩:=ht
        simp only at gc gd; subst gc; subst gd
        have go':(s.heap.push { cls:=.type "set",dict:=none,data:=.set #[] 0 (.fresh 0 0 led) }).get? tu=some { cls:=.type "tuple",dict:=od,data:=.seq its gn,slots:=osl }:=Heap.get?_push_of_some _ go
        have n1:=xF; have n2:=wx
        have n3:(Value.type "tuple" == Value.type "dict")=false:=by decide
        have t1:(s.heap.push { cls:=.type "set",dict:=none,data:=.set #[] 0 (.fresh 0 0 led) }).IsTuple tu its:=⟨_,go',rfl,gn,rfl⟩
        unfold Builtin.«set.__init__» noKeywords Builtin.Frozenset.updateFrom; generalize zz:pyIter=PI
        wp_walk
        subst zz; refine wpAny_pyIter_tuple t1 (wpAny_bind (wpAny_runValue ?_))
        have tl':tu < s.heap.objs.size:=Heap.lt_size go
        have h3:A.in1.in1.in1.handled=none:=by simp [hh]
        have ne1:tu≠(s.heap.push { cls:=.type "set",dict:=none,data:=.set #[] 0 (.fresh 0 0 led) }).objs.size:=by rw [Heap.size_push]; exact Nat.ne_of_lt (Nat.lt_succ_of_lt tl')
        have nSf:s.heap.objs.size ∉ [(s.heap.push { cls:=.type "set",dict:=none,data:=.set #[] 0 (.fresh 0 0 led) }).objs.size,tu]:=by
          rw [Heap.size_push]; simp only [List.mem_cons,List.mem_singleton,List.not_mem_nil,or_false,not_or]; exact ⟨Nat.ne_of_lt (Nat.lt_succ_self _),Nat.ne_of_gt tl'⟩
        have vv:∀ (i:Nat) (v:Value),its[i]?=some v→∃ t,v=.int ((fun i=>ns.getD i 0) i) t:=fun i v hv=>IntsAre.int_at hi i v (by rw [Array.getElem?_toList]; exact hv)
        refine codeAny_set_update_loopS ((Walks.tuple h3 _ tu ne1 its).toS) s.heap.objs.size nSf (fun i=>ns.getD i 0) vv hb (its.size - 0) 0 _ (by omega) (Nat.zero_le _) ⟨⟨_,Heap.get?_push_size _ rfl,rfl,rfl⟩,⟨_,Heap.get?_push_of_some _ go',rfl,gn,rfl⟩⟩ ?_ ?_
        · have gg:((s.heap.push { cls:=.type "set",dict:=none,data:=.set #[] 0 (.fresh 0 0 led) }).push { cls:=.type "tuple_iterator",data:=.fields #[.ref tu,.int 0 0] }).get? s.heap.objs.size=some { cls:=.type "set",dict:=none,data:=.set #[] 0 (.fresh 0 0 led) }:=Heap.get?_push_of_some _ gS
          exact SetOf_congr ((setObjOf_fresh (knd:=intKind prog w) led).setOf gg (by unfold scanBound; omega)) (fun _=>rfl) rfl
        · intro s' mv hS'
          obtain ⟨h',g',d',tk',os'⟩:=s'
          have e1:g'=s.gens:=mv.gens; have e2:d'=s.drawn:=mv.drawn; have e3:os'=s.os:=mv.os
          subst e1; subst e2; subst e3
          show wpAny _ _ _ _ _ _; refine wpAny_pure ?_
          show wpAny _ _ (ret Value.none) _ _ _; refine wpAny_pure ⟨rfl,h',tk',rfl,hS',fun b o hb e=>?_⟩
          have b2:b≠(s.heap.push { cls:=.type "set",dict:=none,data:=.set #[] 0 (.fresh 0 0 led) }).objs.size:=by rw [Heap.size_push]; exact Nat.ne_of_lt (Nat.lt_succ_of_lt hb)
          exact mv.heap b o (by simp only [List.mem_cons,List.mem_singleton,List.not_mem_nil,or_false,not_or]; exact ⟨Nat.ne_of_lt hb,b2⟩) (Heap.get?_push_of_some _ (Heap.get?_push_of_some _ e))
      · cases r2 with
        | error ev=>exact hr2
        | ok fl2 =>
          cases fl2 with
          | ret rv =>
            obtain ⟨rfl,h',tk,rfl,hS',kk⟩:=hr2
            repeat (any_goals (first | assumption | wp_step))
            exact hQ _ _ hS' kk
          | _=>exact hr2.elim
    | _=>exact hr.elim
end
section
variable {X:Cx} {E:XK} {a b c e:Expr} {ga gb gc:Ds→Rs PyData} {pos:Pos} {es:List Expr} {gs:Ds→Rs (List PyData)}
theorem Fx:bootBuiltins "set"=some (.type "set"):=by decide +kernel
noncomputable def tLS (K:PySem.W.Frag) (ta:TA):TE:=fun σ H Q=>ta σ H fun vs H1=>∃ (p:Addr) (ns:List Int),vs=[.ref p]∧SqT K H1 p (ns.map V.int)∧ns.length≤1000∧Q (.int (seen ns ns.length).length) H1
theorem Ar {ta:TA} {p p2 pos2:Pos} (hc:X.calm=true) (hg:Gl X "set") (hm:X.mg "set"=none) (hgl:Gl X "len") (hml:X.mg "len"=none) (ha:PA X [a] ta) (hs:starEach [a] X.env=[(false,eval a X.env)]:=by rfl)
    (hs2:starEach [.Call (.Name "set" p) [a] [] pos] X.env=(false,eval (.Call (.Name "set" p) [a] [] pos) X.env)::starEach [] X.env:=by rfl) (hpl:(backTo pos2 (starEach [] X.env)).any (·.1)=false:=by rfl) :
    PE X (.Call (.Name "len" p2) [.Call (.Name "set" p) [a] [] pos] [] pos2) (tLS X.K ta):=by
  intro pins s σ H Q I h
  refine wpAny_Call_Name_kw (ja I hgl hml PySem.boot_len ?_)
  refine PyProof.Rows.callWith_builtin1 ?_ hs2 hpl
  rw [hs2]
  show wpAny _ _ (spliced ((false,eval (.Call (.Name "set" p) [a] [] pos) X.env)::backTo pos2 [])) _ _ s
  refine Calls.spliced_cons (Call_ (ja I hg hm Fx (PyProof.Rows.callWith_type1 (thn (ha pos pins s σ H _ I h) fun us s1 rz2=>?_) hs rfl)))
  obtain ⟨vs,H1,I1,r1,q1⟩:=rz2
  obtain ⟨q,ns,e,hq,hz,fin⟩:=q1
  subst e
  obtain ⟨u,rfl,ru⟩:=vals1 r1
  cases ru
  obtain ⟨its,rv,pt,_⟩:=I1.tuple hq
  have hl:=rv.length
  rw [List.length_map] at hl
  refine Av (I1.ok.hd hc) (show s1.heap.IsTuple q its.toArray from pt) (intsAre_of rv) (by rw [List.size_toArray]; unfold scanBound; omega) fun h' tk hS kk=>Calls.spliced_nil ?_
  have I2:Inv X pins σ H1 { s1 with heap:=h',toks:=tk }:=I1.kept fun b o e=>kk b o (Heap.lt_size e) e
  have esz:its.toArray.size=ns.length:=by rw [List.size_toArray]; exact hl.symm
  rw [esz] at hS
  obtain ⟨o,es',ep,t,ho,ex,hd,_,_,hb,hf,hsz⟩:=hS
  refine PySem.call_len_set ho ex hd hf (by unfold scanBound at hb; omega) ⟨.int (seen ns ns.length).length,H1,I2.tok _,⟨_,by rw [hsz]⟩,fin⟩
noncomputable def oz:List PyData→Option PyData
  | [.tuple x]=>(eQ x).bind fun ns=>if ns.length≤1000 then some (.int (seen ns ns.length).length) else none
  | _=>none
theorem Ak {p p2 pos2:Pos} (hc:X.calm=true) (hm:X.mg "set"=none) (hml:X.mg "len"=none) (ha:PAD X E [a] gs) (hg:Gl X "set":=by rfl) (hgl:Gl X "len":=by rfl) (hs:starEach [a] X.env=[(false,eval a X.env)]:=by rfl)
    (hs2:starEach [.Call (.Name "set" p) [a] [] pos] X.env=(false,eval (.Call (.Name "set" p) [a] [] pos) X.env)::starEach [] X.env:=by rfl) (hpl:(backTo pos2 (starEach [] X.env)).any (·.1)=false:=by rfl) :
    PD X E (.Call (.Name "len" p2) [.Call (.Name "set" p) [a] [] pos] [] pos2) (gF oz gs):=(Ar hc hg hm hgl hml ha.1 hs hs2 hpl).imp fun σ H Q ⟨A,δ,R,o⟩=>tR R o fun ds vs H1 e s1 R1 h1 o=>by
  unfold oz at o
  split at o
  · rename_i x
    cases q:eQ x with
    | none=>rw [q] at o; exact o.elim
    | some ns =>
      rw [q] at o
      obtain ⟨v,rfl,hh⟩:=lE h1
      obtain ⟨p,xs,rfl,hp,hx⟩:=hh.ofTup
      rw [cI q] at hx
      rw [hx.ofInts] at hp
      by_cases z:ns.length≤1000
      · simp only [Option.bind_some,if_pos z] at o
        exact ⟨p,ns,rfl,SqT.of (a9 _ _ hp),z,o _ H1 (aT.refl _) dz⟩
      · simp only [Option.bind_some,if_neg z] at o
        exact o.elim
  · exact o.elim
end
end L2
set_option maxRecDepth 100000
set_option maxHeartbeats 4000000
namespace L2
open PySem PySem.Spec PyProof.Rows
open AutoSeq1 (wpAny_loadPart')
open SeqAt (EqAt)
theorem wc {prog:Program} {w:World} {A:Around} {E:Value→Shared→Prop} {s:Shared} {its:Array Value} {x:Value} {e:Value→Bool} {j:Nat} {Q:Option PySem.Fin × Unit→Shared→Prop} (hj:j < its.size) (hit:e its[j]=true) (hno:∀ m (hm:m < its.size),m < j→e its[m]=false)
    (he:∀ y,y∈its→EqAt A s y x (e y)) (hQ:Q (some (.done (.ret (.int j s.toks))),()) { s with toks:=s.toks + 1 }):∀ (k i m:Nat),i + k=j→j < i + m →
    wpAny (model prog w) A (forIn (List.range' i m) ((none:Option PySem.Fin),()) fun (i:Nat) _=>match its[i]? with
      | some y=>do
        let b ← eqBool y x
        if b=true then do
            let r ← retInt (i:Int)
            pure (ForInStep.done (some r,()))
          else pure (ForInStep.yield (none,()))
      | _=>pure (ForInStep.yield (none,()))) Q E s
  | 0,i,0,h1,h2=>by omega
  | 0,i,m + 1,h1,h2=>by
    have:i=j:=by omega
    subst this
    rw [List.range'_succ,List.forIn_cons]
    have q:its[i]?=some its[i]:=by simp [hj]
    simp only [q]
    refine wpAny_bind (wpAny_bind (he _ (Array.getElem_mem hj) prog w _ _ ?_))
    rw [hit,if_pos rfl]
    unfold retInt
    exact wpAny_bind (wpAny_bind (wpAny_mkInt (wpAny_pure (wpAny_pure (wpAny_pure hQ)))))
  | k + 1,i,0,h1,h2=>by omega
  | k + 1,i,m + 1,h1,h2=>by
    have hi:i < its.size:=by omega
    rw [List.range'_succ,List.forIn_cons]
    have q:its[i]?=some its[i]:=by simp [hi]
    simp only [q]
    refine wpAny_bind (wpAny_bind (he _ (Array.getElem_mem hi) prog w _ _ ?_))
    rw [hno i hi (by omega),if_neg Bool.false_ne_true]
    exact wpAny_pure (wc hj hit hno he hQ k (i + 1) m (by omega) (by omega))
theorem Au (tu:Addr) (its:Array Value) (n:Nat) (dd:Option Addr) (sl:Array (Option Value)) (x:Value) (e:Value→Bool) (j:Nat) (hj:j < its.size) (hit:e its[j]=true) (hno:∀ m (hm:m < its.size),m < j→e its[m]=false) :
    Meets (Builtin.«tuple.index» ⟨[.ref tu,x],[]⟩)
      (fun A R s=>s.heap.get? tu=some { cls:=.type "tuple",dict:=dd,data:=.seq its n,slots:=sl }∧(∀ y,y∈its→EqAt A.in1 s y x (e y))∧R (.ok (.ret (.int j s.toks))) { s with toks:=s.toks + 1 }):=by
  intro prog w A R s hs
  obtain ⟨hp,g,d,tk,os⟩:=s
  obtain ⟨hl,he,hR⟩:=hs
  unfold Builtin.«tuple.index»
  simp only [Std.Legacy.Range.forIn_eq_forIn_range',Std.Legacy.Range.size]
  generalize hF:(@forIn Sem (List Nat))=F
  wp_walk using wpAny_loadPart' hl
  subst hF
  refine wc hj hit hno he ?_ j 0 _ (by omega) (by simp; omega)
  exact wpAny_pure hR
section
variable {X:Cx} {E:XK} {a o e:Expr} {ga go:Ds→Rs PyData} {pos:Pos} {es:List Expr} {gs:Ds→Rs (List PyData)}
noncomputable def Gg:V→List V→Hp→VK→Prop:=fun x vs H Q=>∃ l xs y j,x=.ref l∧vs=[y]∧H l=some (.tup xs)∧kZ y=true∧xs.all kZ=true∧(xs.findIdx? fun z=>eqV z y)=some j∧Q (.int j) H
noncomputable def tIx (to:TE) (t:TA):TE:=fun σ H Q=>to σ H fun x H1=>(∃ l xs,x=.ref l∧H1 l=some (.tup xs))∧t σ H1 fun vs H2=>Gg x vs H2 Q
theorem C9 {to:TE} {t:TA} {apos cpos:Pos} (ho:PE X o to) (ha:PA X [e] t) (hbase:attributeBase o "index" X.env (eval o X.env)=eval o X.env:=by rfl)
    (hfew:((backTo cpos (starEach [e] X.env)).all (fun x=>!x.1) && (backToKw cpos (keywordEach [] X.env)).all (fun x=>x.1.isSome) && decide (([e]:List Expr).length + ([]:List Keyword).length + (if ([]:List Keyword).isEmpty then 0 else 1) < 30))=true:=by rfl)
    (hline:(apos.endLine == cpos.line)=true:=by rfl) (hs:starEach [e] X.env=(false,eval e X.env)::starEach [] X.env:=by rfl) (hplain:(backTo cpos (starEach [] X.env)).any (·.1)=false:=by rfl) :
    PE X (.Call (.Attribute o "index" apos) [e] [] cpos) (tIx to t):=by
  intro pins s σ H Q I h
  refine wpAny_Call_method_late hbase hfew hline rfl (thn (ho pins s σ H _ I h) fun v s1 rz2=>?_)
  obtain ⟨x,H1,I1,r1,⟨l,xs,hx,hl⟩,q1⟩:=rz2
  subst hx
  cases r1
  obtain ⟨hz,its,rv,ob,ge,gc,gd,n,gq⟩:=I1.hok l _ hl
  refine ⟨"tuple", "tuple.index",PySem.F.plainAttrs_tuple,PySem.F.slot_tuple_index,PySem.F.type_tuple_index,⟨ob,ge,gc⟩,fun a ea=>by cases ea; exact ⟨ob,ge,gd⟩,?_⟩
  have hA:=ha cpos pins s1 σ H1 _ I1 q1
  rw [hs] at hA ⊢
  refine Calls.callWith_builtin (by show (false || (backTo cpos (starEach [] X.env)).any (·.1))=false; rw [hplain]; rfl) (Calls.evalArgs_plain ?_)
  refine thn hA fun us s2 rz2=>?_
  obtain ⟨vs,H2,I2,r2,q2⟩:=rz2
  obtain ⟨l',xs',y,j,e1,e2,hl',fy,fs,hj,q⟩:=q2
  cases e1
  subst e2
  obtain ⟨hz',its',rv',ob',ge',gc',gd',n',gq'⟩:=I2.hok l _ hl'
  obtain ⟨u,rfl,ru⟩:=vals1 r2
  obtain ⟨oc,od,oda,osl⟩:=ob'
  simp only at gc' gd' gq'
  subst gc' gd' gq'
  have hlen:=rv'.length
  obtain ⟨hjl,hjt,hjn⟩:=List.findIdx?_eq_some_iff_getElem.mp hj
  have at':∀ (m:Nat) (hm:m < xs'.length),eqU y (its'[m]'(by omega))=eqV xs'[m] y:=fun m hm=>by
    obtain ⟨w',hw,rw'⟩:=rv'.get (List.getElem?_eq_getElem hm)
    have:its'[m]'(by omega)=w':=by
      have h2:=List.getElem?_eq_getElem (show m < its'.length by omega)
      rw [h2] at hw; exact Option.some.inj hw
    rw [this]
    exact yO rw' (List.all_eq_true.mp fs _ (List.getElem_mem hm))
  refine call_meets PySem.F.slot_tuple_index ⟨_,ge',rfl⟩ PySem.F.entry_tuple_index (PySem.F.args_tuple_index_2 _ _) (Au l its'.toArray n' none osl u (eqU y) j (by simp; omega) (by simpa [at' j hjl] using hjt) (fun m hm hmj=>?_)) ⟨ge',fun z hz=>jP ru fy rv' fs z (by simpa using hz),⟨.int j,H2,I2.tok _,⟨_,rfl⟩,q⟩⟩
  have hm':m < xs'.length:=by simp at hm; omega
  have:=hjn m hmj
  simpa [at' m hm'] using this
noncomputable def lA (xs:List PyData) (y:PyData):Option PyData:=if gP y && xs.all gP then ((xs.map toV).findIdx? fun z=>eqV z (toV y)).map fun j=>.int j else none
noncomputable def oQ (go ga:Ds→Rs PyData):Ds→Rs PyData:=fun δ=>(go δ).bind fun d=>match d with
  | .tuple xs=>(ga δ).bind fun y=>Rs.fX (lA xs y)
  | _=>.no
theorem nY {apos cpos:Pos} (ho:PD X E o go) (ha:PD X E e ga) (hbase:attributeBase o "index" X.env (eval o X.env)=eval o X.env:=by rfl)
    (hfew:((backTo cpos (starEach [e] X.env)).all (fun x=>!x.1) && (backToKw cpos (keywordEach [] X.env)).all (fun x=>x.1.isSome) && decide (([e]:List Expr).length + ([]:List Keyword).length + (if ([]:List Keyword).isEmpty then 0 else 1) < 30))=true:=by rfl)
    (hline:(apos.endLine == cpos.line)=true:=by rfl) (hs:starEach [e] X.env=(false,eval e X.env)::starEach [] X.env:=by rfl) (hplain:(backTo cpos (starEach [] X.env)).any (·.1)=false:=by rfl) :
    PD X E (.Call (.Attribute o "index" apos) [e] [] cpos) (oQ go ga):=(C9 ho (fH ha i7 hs) hbase hfew hline hs hplain).imp fun σ H Q pz3=>by
  obtain ⟨A,δ,R,oo⟩:=pz3
  unfold oQ at oo
  refine eD.run R (fun d1 e1 v H1 s1 R1 h1=>?_) (fun C et H' s'=>by rw [et] at oo; exact oo H' s') (fun et=>by rw [et] at oo; exact oo)
  simp only [e1,Rs.aj] at oo
  cases d1 with
  | tuple xs =>
    obtain ⟨p,vs,rfl,hp,hx⟩:=h1.ofTup
    refine ⟨⟨p,vs,rfl,a9 _ _ hp⟩,?_⟩
    have oo:jN X.K E A H ((ga δ).bind fun y=>Rs.fX (lA xs y)) Q:=oo
    refine eD.run R1 (fun d2 e2 u H2 s2 R2 h2=>?_) (fun C et H' s'=>by rw [et] at oo; exact oo H' (s1.trans s')) (fun et=>by rw [et] at oo; exact oo)
    simp only [e2,Rs.aj] at oo
    unfold lA at oo
    split at oo
    · rename_i z
      rw [Bool.and_eq_true] at z
      obtain ⟨f1,f2⟩:=h2.flat z.1
      obtain ⟨f3,f4⟩:=hx.flat z.2
      cases q:((xs.map toV).findIdx? fun z=>eqV z (toV d2)) with
      | none=>rw [q] at oo; exact oo.elim
      | some j =>
        rw [q] at oo
        exact ⟨p,vs,u,j,rfl,rfl,s2 _ _ (a9 _ _ hp),f2,f4,by rw [f1,f3]; exact q,oo _ H2 (s1.trans s2) dz⟩
    · exact oo.elim
  | _=>exact oo.elim
end
end L2
set_option maxRecDepth 100000
set_option maxHeartbeats 4000000
namespace L2
open PySem PySem.Spec PyProof.Rows
noncomputable def wC:List Int→Option Int
  | []=>none
  | x::r=>some (r.foldl (fun a b=>if b > a then b else a) x)
theorem fold_max:∀ (r:List Int) (x:Int),(r.foldl (fun a b=>if b > a then b else a) x)∈x::r∧∀ a∈x::r,a≤r.foldl (fun a b=>if b > a then b else a) x
  | [],x=>⟨List.mem_cons_self,fun a ha=>by cases List.mem_singleton.mp ha; exact Int.le_refl _⟩
  | y::r,x=>by
    obtain ⟨h1,h2⟩:=fold_max r (if y > x then y else x)
    rw [List.foldl_cons]
    have h0:=h2 _ List.mem_cons_self
    refine ⟨?_,fun a ha=>?_⟩
    · rcases List.mem_cons.mp h1 with z | z
      · rw [z]; split <;> simp
      · exact List.mem_cons_of_mem _ (List.mem_cons_of_mem _ z)
    · have hx:x≤(if y > x then y else x):=by split <;> omega
      have hy:y≤(if y > x then y else x):=by split <;> omega
      rcases List.mem_cons.mp ha with rfl | ha
      · exact Int.le_trans hx h0
      · rcases List.mem_cons.mp ha with rfl | ha
        · exact Int.le_trans hy h0
        · exact h2 a (List.mem_cons_of_mem _ ha)
theorem Ee {ns:List Int} {M m:Int} (h1:M∈ns) (h2:∀ a∈ns,a≤M) (e:wC ns=some m):M=m:=by
  cases ns with
  | nil=>cases e
  | cons x r =>
    cases e
    obtain ⟨g1,g2⟩:=fold_max r x
    have a1:=h2 _ g1
    have a2:=g2 _ h1
    omega
section
variable {X:Cx} {E:XK} {a:Expr} {es:List Expr} {gs:Ds→Rs (List PyData)} {pos:Pos}
theorem Eu:bootBuiltins "max"=some (.builtin "max"):=by decide +kernel
end
end L2
set_option maxRecDepth 100000
set_option maxHeartbeats 4000000
namespace L2
open PySem PySem.Spec PyProof.Rows
section
variable {X:Cx} {E:XK} {O:List Nat} {K:PySem.W.Frag} {H0 H:Hp} {A0 A:List Addr} {δ:Ds} {σ:St}
theorem oM {B C:List Addr} (h:∀ a∈C,a∈B):aT (del H B) (del H C):=fun b o e=>by
  obtain ⟨h1,h2⟩:=gv e
  rw [cz fun z=>h1 (h b z)]; exact h2
theorem dg.release {i:Nat} {ds:List PyData} (R:dg K H0 A0 H A O δ σ) (hi:i∈O) (e:δ[i]?=some (some (.list ds))):∃ A',dg K H0 A0 H A' (O.filter (·≠i)) δ σ:=by
  obtain ⟨a,xs,ds',e1,h1,h2,h3,h4⟩:=R.own i _ hi e
  cases h3
  have sub:∀ b∈A.filter (·≠a)++A0,b∈A++A0:=fun b hb=>by
    rcases List.mem_append.mp hb with z | z
    · exact List.mem_append_left _ (List.mem_filter.mp z).1
    · exact List.mem_append_right _ z
  have na:a ∉ A.filter (·≠a)++A0:=fun z=>by
    rcases List.mem_append.mp z with z | z
    · have:=(List.mem_filter.mp z).2
      simp at this
    · exact R.apart h1 z
  refine ⟨A.filter (·≠a),?_⟩
  exact {
    same:=R.same
    ls0:=R.ls0
    new:=fun b hb=>R.new b (List.mem_filter.mp hb).1
    ls:=fun b hb=>R.ls b (List.mem_filter.mp hb).1
    len:=R.len
    pl:=fun j d hj q=>by
      by_cases z:j=i
      · subst z
        rw [e] at q
        cases q
        exact ⟨.ref a,e1,rK (xs:=xs) (by rw [cz na]; exact h2) (h4.same (oM sub))⟩
      · have hj':j ∉ O:=fun w=>hj (List.mem_filter.mpr ⟨w,by simpa using z⟩)
        obtain ⟨v,q1,q2⟩:=R.pl j d hj' q
        exact ⟨v,q1,q2.same (oM sub)⟩
    own:=fun j d hj q=>by
      obtain ⟨jO,jn⟩:=List.mem_filter.mp hj
      have jn:j≠i:=by simpa using jn
      obtain ⟨b,ys,es,q1,q2,q3,q4,q5⟩:=R.own j d jO q
      refine ⟨b,ys,es,q1,List.mem_filter.mpr ⟨q2,?_⟩,q3,q4,q5.same (oM sub)⟩
      have:b≠a:=fun w=>by
        subst w
        exact jn (R.inj j i d _ b jO hi q e q1 e1)
      simpa using this
    inj:=fun j k d e a hj hk=>R.inj j k d e a (List.mem_filter.mp hj).1 (List.mem_filter.mp hk).1 }
end
end L2
set_option maxRecDepth 100000
set_option maxHeartbeats 4000000
namespace L2
open PySem PySem.Spec PyProof.Rows
section
variable {X:Cx} {E:XK} {a b c:Expr} {ga gb gc:Ds→Rs PyData} {pos:Pos}
end
end L2
set_option maxRecDepth 100000
set_option maxHeartbeats 4000000
namespace L2
open PySem PySem.Spec PyProof.Rows
section
variable {X:Cx} {E:XK} {a:Expr} {es:List Expr} {gs:Ds→Rs (List PyData)} {pos:Pos}
theorem Bs (hc:X.calm=true):jU X (.builtin "any") (fun xs H Q=>∃ (a:Addr) (bs:List Bool),xs=[.ref a]∧SqL X.K H a (bs.map V.bl)∧Q (.bl (bs.any id)) H):=by
  intro pins s σ H xs us Q I r h
  obtain ⟨a,bs,rfl,hS,q⟩:=h
  obtain ⟨u,rfl,r1⟩:=vals1 r
  cases r1
  obtain ⟨its,rv,p,_⟩:=I.list hS
  have hl:=p.isList
  have hb:=ni rv
  have hlt:a < s.heap.objs.size:=by obtain ⟨_,e,_⟩:=hl; exact Heap.lt_size e
  refine call_any_walk (wpAny_pyIter_list hl ?_)
  refine ⟨s.heap.objs.size,[s.heap.objs.size,a],[s.heap.objs.size],its.toArray.size,_,_,fun i=>(bs[i]?).getD false,rfl,Walks.list (A:=X.A.in1) (I.ok.hd hc) _ a (Nat.ne_of_lt hlt) its.toArray,
    ⟨⟨_,Heap.get?_push_size _ rfl,rfl,rfl⟩,hl.push _⟩,fun i v s' Q' E' hP hQ=>?_,fun h' tk hk=>?_⟩
  · obtain ⟨b,e,rfl⟩:=hb.get i v (by simpa using hP)
    simp only [e,Option.getD_some] at hQ
    exact wpAny_truthy_bool hQ
  · have e:((List.range its.toArray.size).any fun i=>(bs[i]?).getD false)=bs.any id:=by
      rw [List.size_toArray,hb.length]; exact LSm.range_any bs
    rw [e]
    exact ⟨.bl _,H,I.kept (LSm.kept_iter hk),rfl,q⟩
noncomputable def xv:List PyData→Option PyData
  | [.list x]=>(gp x).map fun ns=>.bool (ns.any id)
  | _=>none
theorem Eh {K:PySem.W.Frag}:FnD K xv (fun xs H Q=>∃ (a:Addr) (ns:List Bool),xs=[.ref a]∧SqL K H a (ns.map V.bl)∧Q (.bl (ns.any id)) H):=fun ds d vs H A Q e hA h k=>by
  unfold xv at e
  split at e
  · rename_i x
    cases q:gp x with
    | none=>rw [q] at e; cases e
    | some ns =>
      rw [q] at e; cases e
      obtain ⟨v,rfl,hh⟩:=lE h
      obtain ⟨p,xs,rfl,hp,hx⟩:=hh.ofLst
      rw [lX q] at hx
      rw [hx.ofBools] at hp
      exact ⟨p,ns,rfl,SqL.of (a9 _ _ hp),k _ H (aT.refl _) is_bool⟩
  · cases e
theorem Gn:bootBuiltins "any"=some (.builtin "any"):=by decide +kernel
theorem B7 {p:Pos} (hc:X.calm=true) (hm:X.mg "any"=none) (ha:PAD X E (a::es) gs) (hg:Gl X "any":=by rfl) (he:starEach (a::es) X.env=(false,eval a X.env)::starEach es X.env:=by rfl) (hpl:(backTo pos (starEach es X.env)).any (·.1)=false:=by rfl) :
    PD X E (.Call (.Name "any" p) (a::es) [] pos) (gF xv gs):=ir Eh ha fun h=>gA (Bs hc) hg hm Gn h (by decide) (by decide) he hpl
end
end L2
set_option maxRecDepth 100000
set_option maxHeartbeats 4000000
namespace L2
open PySem PySem.Spec PyProof.Rows
section
variable {X:Cx} {E:XK} {a:Expr} {gs:Ds→Rs (List PyData)} {pos:Pos}
end
end L2
set_option maxRecDepth 100000
set_option maxHeartbeats 4000000
namespace PyProof.Rows
open PySem
section
variable {prog:Program} {w:World} {A:Around} {E:Value→Shared→Prop} {s:Shared}
theorem xW {l:Addr} {o:Obj} {n:Nat} {vs:List Value} {Q:List Value→Shared→Prop} (ho:s.heap.get? l=some o) (hc:o.cls=.type "tuple") (hd:o.data=.seq vs.toArray n) (hz:vs.length≤sizeLine)
    (h:Q vs { s with heap:=(s.heap.push (seqObj "list" #[] 0)).update s.heap.objs.size (Obj.mapSeq (·++vs.toArray)) }):wpAny (model prog w) A (collect (.ref l)) Q E s:=by
  unfold collect; refine wpAny_bind (wpAny_runValue (codeAny_builtin entry_proto_collect' ?_))
  show wpAny _ _ (do again (.builtin "list.__iadd__" ⟨[← newList [],Value.ref l],[]⟩)) _ _ s
  refine wpAny_bind (wpAny_newList (wpAny_pure ⟨Code.quiet_builtin _ (by decide +kernel),codeAny_builtin entry_list_iadd' ?g⟩)); case g =>
  show wpAny _ _ (Builtin.List.listExtendWith (Value.ref s.heap.objs.size) (Value.ref l) (Value.ref s.heap.objs.size)) _ _ { s with heap:=s.heap.push (seqObj "list" #[] 0) }
  unfold Builtin.List.listExtendWith; have ho':(s.heap.push (seqObj "list" #[] 0)).get? l=some o:=Heap.get?_push_of_some _ ho
  refine wpAny_bind (wpAny_typeOf (T:="tuple") ⟨o,ho',hc⟩ ?_)
  have ht:(Value.type "tuple" == Value.type "tuple")=true:=by rfl
  rw [if_pos (by rw [ht]; simp)]; refine wpAny_bind (listItems_at ho' hd ?_)
  refine wpAny_bind (listItems_at (xs:=#[]) (n:=0) (Heap.get?_push_size _ rfl) rfl ?_); rw [if_neg (by simp)]
  refine wpAny_bind (listUpdate_at (xs:=#[]) (n:=0) (Heap.get?_push_size _ rfl) rfl ?_ (Nat.zero_le _) (by show (#[]++vs.toArray).size≤sizeLine + 1; simp; omega)); refine wpAny_pure ?_
  show wpAny (model prog w) A (do let o ← load s.heap.objs.size; match o.data with | .seq xs _=>pure xs.toList | _=>unsupported "internal:collect") Q E { s with heap:=(s.heap.push (seqObj "list" #[] 0)).update s.heap.objs.size (Obj.mapSeq (·++vs.toArray)) }
  refine wpAny_bind (wpAny_load (get?_update_seq (Heap.get?_push_size _ rfl) _) ?_); show wpAny _ _ (pure ((#[]:Array Value)++vs.toArray).toList) Q E _
  rw [show ((#[]:Array Value)++vs.toArray).toList=vs by simp]; exact wpAny_pure h
theorem ya {l:Addr} {o:Obj} {n:Nat} {vs:List Value} {ns:List Int} {Q:Value→Shared→Prop} (ho:s.heap.get? l=some o) (hc:o.cls=.type "tuple") (hd:o.data=.seq vs.toArray n) (hI:IntsAre vs ns) (h64:vs.length < 64)
    (h:∀ (out:Array Value) (ns':List Int),IntsAre out.toList ns'→ns'.Perm ns→ns'.Pairwise (·≤·)→Q (.ref (s.heap.objs.size + 1)) { s with heap:=sortedAll s.heap vs out }):wpAny (model prog w) A (call (.builtin "sorted") [.ref l]) Q E s:=by
  refine Calls.call_function_entry kind_sorted plain_sorted entry_sorted (args_sorted1 _) ?_; unfold Builtin.«sorted»
  refine wpAny_bind (m:=checkCount "sorted" 1 1 _) (wpAny_pure ?_); refine wpAny_bind (xW ho hc hd (by rw [sizeLine_eq]; omega) ?_)
  refine wpAny_bind (wpAny_newList ?_); have hsz:((s.heap.push (seqObj "list" #[] 0)).update s.heap.objs.size (Obj.mapSeq (·++vs.toArray))).objs.size=s.heap.objs.size + 1:=by rw [Heap.size_update,size_push']
  have hoL:(((s.heap.push (seqObj "list" #[] 0)).update s.heap.objs.size (Obj.mapSeq (·++vs.toArray))).push (seqObj "list" vs.toArray 0)).get? (s.heap.objs.size + 1)=some (seqObj "list" vs.toArray 0):=by rw [← hsz]; exact Heap.get?_push_size _ rfl
  show wpAny _ _ _ _ _ { s with heap:=((s.heap.push (seqObj "list" #[] 0)).update s.heap.objs.size (Obj.mapSeq (·++vs.toArray))).push (seqObj "list" vs.toArray 0) }; rw [hsz]
  refine wpAny_bind (wpAny_holding (wpAny_call_entry slot_list_sort ⟨_,hoL,rfl⟩ entry_list_sort (list_sort_tree hoL hI h64 fun out ns' a1 a2 a3=>⟨_,rfl,?_⟩) (args_list_sort _))); exact wpAny_pure ⟨_,rfl,h out ns' a1 a2 a3⟩
end
end PyProof.Rows
namespace L2
open PySem PySem.Spec PyProof.Rows
noncomputable def insI (x:Int):List Int→List Int
  | []=>[x]
  | y::r=>if x≤y then x::y::r else y::insI x r
noncomputable def sortI:List Int→List Int
  | []=>[]
  | x::r=>insI x (sortI r)
theorem insI_perm (x:Int):∀ l:List Int,(insI x l).Perm (x::l)
  | []=>.refl _
  | y::r=>by
    unfold insI
    split
    · exact .refl _
    · exact ((insI_perm x r).cons y).trans (.swap _ _ _)
theorem sortI_perm:∀ l:List Int,(sortI l).Perm l
  | []=>.refl _
  | x::r=>(insI_perm x _).trans ((sortI_perm r).cons x)
theorem pK (x:Int):∀ l:List Int,l.Pairwise (·≤·)→(insI x l).Pairwise (·≤·)
  | [],_=>by simp [insI]
  | y::r,h=>by
    obtain ⟨h1,h2⟩:=List.pairwise_cons.mp h
    unfold insI
    split
    · rename_i z
      refine List.pairwise_cons.mpr ⟨fun a ha=>?_,h⟩
      rcases List.mem_cons.mp ha with rfl | ha
      · exact z
      · exact Int.le_trans z (h1 a ha)
    · rename_i z
      refine List.pairwise_cons.mpr ⟨fun a ha=>?_,pK x r h2⟩
      rcases List.mem_cons.mp ((insI_perm x r).mem_iff.mp ha) with rfl | ha
      · omega
      · exact h1 a ha
theorem iH:∀ l:List Int,(sortI l).Pairwise (·≤·)
  | []=>.nil
  | x::r=>pK x _ (iH r)
theorem kH:∀ {l m:List Int},l.Perm m→l.Pairwise (·≤·)→m.Pairwise (·≤·)→l=m
  | [],m,h,_,_=>by rw [List.nil_perm.mp h]
  | x::r,[],h,_,_=>by have:=h.length_eq; simp at this
  | x::r,y::m,h,h1,h2=>by
    obtain ⟨a1,a2⟩:=List.pairwise_cons.mp h1
    obtain ⟨b1,b2⟩:=List.pairwise_cons.mp h2
    have e:x=y:=by
      have c1:x≤y:=by
        rcases List.mem_cons.mp (h.mem_iff.mpr (List.mem_cons_self (a:=y) (l:=m))) with z | z
        · omega
        · exact a1 y z
      have c2:y≤x:=by
        rcases List.mem_cons.mp (h.mem_iff.mp (List.mem_cons_self (a:=x) (l:=r))) with z | z
        · omega
        · exact b1 x z
      omega
    subst e
    rw [kH (List.Perm.cons_inv h) a2 b2]
section
variable {X:Cx} {E:XK} {a:Expr} {es:List Expr} {gs:Ds→Rs (List PyData)} {pos:Pos}
theorem lG:∀ {its:List Value} {ns:List Int},IntsAre its ns→Vals (ns.map V.int) its
  | _,_,.nil=>.nil
  | _,_,.cons n t r=>.cons ⟨t,rfl⟩ (lG r)
theorem vK:jU X (.builtin "sorted") (fun xs H Q=>∃ (a:Addr) (ns:List Int),xs=[.ref a]∧SqL X.K H a (ns.map V.int)∧ns.length < 64∧∀ p,H p=none→Q (.ref p) (upd H p (.lst ((sortI ns).map V.int)))):=by
  intro pins s σ H xs us Q I r h
  obtain ⟨a,ns,rfl,hS,h64,q⟩:=h
  obtain ⟨u,rfl,r1⟩:=vals1 r
  cases r1
  obtain ⟨its,rv,p,_⟩:=I.list hS
  have hi:IntsAre its ns:=intsAre_of rv
  refine sorted_ints p.isList hi (by rw [hi.length]; exact h64) fun out ns' a1 a2 a3=>?_
  obtain ⟨e,he⟩:=sortedAll_at s.heap its out
  have en:ns'=sortI ns:=kH (a2.trans (sortI_perm ns).symm) a3 (iH ns)
  subst en
  have hz:((sortI ns).map V.int).length≤sizeLine:=by rw [List.length_map,(sortI_perm ns).length_eq,sizeLine_eq]; omega
  have ho:fP X.prog X.w (upd H (s.heap.objs.size + 1) (.lst ((sortI ns).map V.int))) (sortedAll s.heap its out) (s.heap.objs.size + 1) (.lst ((sortI ns).map V.int)):=⟨hz,out.toList,e,lG a1,he⟩
  exact ⟨.ref (s.heap.objs.size + 1),_,I.laid (t':=s.toks) (fun _ _=>sortedAll_old) (Nat.le_succ _) ho,rfl,q _ (I.hok.fresh (Nat.le_succ _))⟩
theorem vJ:jU X (.builtin "sorted") (fun xs H Q=>∃ (a:Addr) (ns:List Int),xs=[.ref a]∧SqT X.K H a (ns.map V.int)∧ns.length < 64∧∀ p,H p=none→Q (.ref p) (upd H p (.lst ((sortI ns).map V.int)))):=by
  intro pins s σ H xs us Q I r h
  obtain ⟨a,ns,rfl,hS,h64,q⟩:=h
  obtain ⟨u,rfl,r1⟩:=vals1 r
  cases r1
  obtain ⟨its,rv,⟨o,ho,hc,n,hd⟩,_⟩:=I.tuple hS
  have hi:IntsAre its ns:=intsAre_of rv
  refine ya ho hc hd hi (by rw [hi.length]; exact h64) fun out ns' a1 a2 a3=>?_
  obtain ⟨e,he⟩:=sortedAll_at s.heap its out
  have en:ns'=sortI ns:=kH (a2.trans (sortI_perm ns).symm) a3 (iH ns)
  subst en
  have hz:((sortI ns).map V.int).length≤sizeLine:=by rw [List.length_map,(sortI_perm ns).length_eq,sizeLine_eq]; omega
  have ho:fP X.prog X.w (upd H (s.heap.objs.size + 1) (.lst ((sortI ns).map V.int))) (sortedAll s.heap its out) (s.heap.objs.size + 1) (.lst ((sortI ns).map V.int)):=⟨hz,out.toList,e,lG a1,he⟩
  exact ⟨.ref (s.heap.objs.size + 1),_,I.laid (t':=s.toks) (fun _ _=>sortedAll_old) (Nat.le_succ _) ho,rfl,q _ (I.hok.fresh (Nat.le_succ _))⟩
theorem wd:jU X (.builtin "sorted") (fun xs H Q=>∃ (a:Addr) (ns:List Int),xs=[.ref a]∧(SqL X.K H a (ns.map V.int)∨SqT X.K H a (ns.map V.int))∧ns.length < 64∧∀ p,H p=none→Q (.ref p) (upd H p (.lst ((sortI ns).map V.int)))):=by
  intro pins s σ H xs us Q I r h
  obtain ⟨a,ns,e,hS | hS,h64,q⟩:=h
  · exact vK pins s σ H xs us Q I r ⟨a,ns,e,hS,h64,q⟩
  · exact vJ pins s σ H xs us Q I r ⟨a,ns,e,hS,h64,q⟩
noncomputable def jw:List PyData→Option PyData
  | [.list x]=>(eQ x).bind fun ns=>if ns.length < 64 then some (.list ((sortI ns).map PyData.int)) else none
  | [.tuple x]=>(eQ x).bind fun ns=>if ns.length < 64 then some (.list ((sortI ns).map PyData.int)) else none
  | _=>none
theorem ye {K:PySem.W.Frag}:FnD K jw (fun xs H Q=>∃ (a:Addr) (ns:List Int),xs=[.ref a]∧(SqL K H a (ns.map V.int)∨SqT K H a (ns.map V.int))∧ns.length < 64∧∀ p,H p=none→Q (.ref p) (upd H p (.lst ((sortI ns).map V.int)))):=fun ds d vs H A Q e hA h k=>by
  unfold jw at e
  split at e
  · obtain ⟨ns,q,e⟩:=Option.bind_eq_some_iff.mp e
    split at e
    · rename_i h64
      cases e
      obtain ⟨v,rfl,hh⟩:=lE h
      obtain ⟨p,xs,rfl,hp,hx⟩:=hh.ofLst
      rw [cI q] at hx
      rw [hx.ofInts] at hp
      exact ⟨p,ns,rfl,.inl (SqL.of (a9 _ _ hp)),h64,fun l hl=>k _ _ (cT hl) (l8 hA hl (om _))⟩
    · cases e
  · obtain ⟨ns,q,e⟩:=Option.bind_eq_some_iff.mp e
    split at e
    · rename_i h64
      cases e
      obtain ⟨v,rfl,hh⟩:=lE h
      obtain ⟨p,xs,rfl,hp,hx⟩:=hh.ofTup
      rw [cI q] at hx
      rw [hx.ofInts] at hp
      exact ⟨p,ns,rfl,.inr (SqT.of (a9 _ _ hp)),h64,fun l hl=>k _ _ (cT hl) (l8 hA hl (om _))⟩
    · cases e
  · cases e
theorem Bm:bootBuiltins "sorted"=some (.builtin "sorted"):=by decide +kernel
theorem Ay {p:Pos} (hm:X.mg "sorted"=none) (ha:PAD X E (a::es) gs) (hg:Gl X "sorted":=by rfl) (he:starEach (a::es) X.env=(false,eval a X.env)::starEach es X.env:=by rfl) (hpl:(backTo pos (starEach es X.env)).any (·.1)=false:=by rfl) :
    PD X E (.Call (.Name "sorted" p) (a::es) [] pos) (gF jw gs):=ir ye ha fun h=>gA wd hg hm Bm h (by decide) (by decide) he hpl
end
end L2
set_option maxRecDepth 100000
set_option maxHeartbeats 4000000
namespace L2
open PySem PySem.Spec PySem.Calls PyProof.Rows PySem.W PySem.Builtin PySem.Builtin.ObjectAttr PySem.Builtin.Getset_descriptor
section
variable {prog:Program} {w:World} {A:Around} {E:Value→Shared→Prop} {s:Shared} {K:Frag} {x D:Addr} {ox:Obj}
structure E2 (h:Heap) (x:Addr) (D:Addr):Prop where
  ex:∃ o,h.get? x=some o∧o.cls=.ref D
theorem E2.type {M:Model} {h:Heap} (I:E2 h x D):Looks M h (typeOf (.ref x)) (.ref D):=by
  obtain ⟨o,h1,h2⟩:=I.ex
  exact h2 ▸ (Looks.ld h1).andThen .now
end
end L2
set_option maxRecDepth 100000
set_option maxHeartbeats 4000000
namespace L2
open PySem PySem.Spec PyProof.Rows
section
variable {X:Cx} {E:XK} {ea:Addr} {oe:Obj} {C:Addr} {pos:Pos} {i:Nat}
end
end L2
set_option maxRecDepth 100000
set_option maxHeartbeats 4000000
namespace L2
open PySem PySem.Spec PyProof.Rows
section
variable {X:Cx} {E:XK} {ea:Addr} {oe:Obj} {C:Addr} {pos:Pos} {i:Nat}
end
end L2
set_option maxRecDepth 100000
set_option maxHeartbeats 4000000
namespace L2
open PySem PySem.Spec PyProof.Rows
noncomputable def vi (O:List Nat) (i:Nat) (g:Ds→Rs PyData):Ds→Sr:=fun δ=>match δ[i]? with
  | some (some (.int a))=>ofR (g (mask O δ)) fun d=>match d with
    | .int b=>.nx (δ.set i (some (.int (a + b))))
    | _=>.no
  | _=>.no
section
variable {X:Cx} {E:XK} {O:List Nat} {e a b:Expr} {ga gb:Ds→Rs PyData} {es:List Expr} {gs:Ds→Rs (List PyData)} {pos:Pos}
theorem zx {i:Nat} {x:Str} {pos':Pos} (h:PD X E e ga) (hN:X.N.Nodup) (hO:i ∉ O:=by decide) (hi:X.N[i]?=some x:=by rfl) (hx:Loc X.env.scope x:=by first | exact Or.inl rfl | exact Or.inr rfl)
    (hf:X.fn x=true∨X.env.scope.names.lookup x=some .local:=by first | exact .inl rfl | exact .inr rfl | assumption):PSD X E O (.AugAssign (.Name x pos') .Add e pos) (vi O i ga):=(Fn hN hi hx h Fz hf).imp fun D σ H pz3=>by
  obtain ⟨H0,A0,A,δ,R,o⟩:=pz3
  unfold vi at o
  split at o
  · rename_i z hz
    obtain ⟨v,ev,hv⟩:=R.pl i _ hO hz
    have hl:i < δ.length:=(List.getElem?_eq_some_iff.mp hz).1
    refine ⟨v,ev,?_⟩
    refine eD.run R.part (fun d ed u H1 s1 R1 hu=>?_) (fun C et H' s'=>?_) (fun et=>?_)
    · rw [ed,aA] at o
      split at o
      · refine ⟨_,_,hv.ofInt,hu.ofInt,o A _ H1 ((R.step s1).set hO hl dz)⟩
      · exact o.elim
    · rw [et,vG] at o; exact o H' (R.same.trans s')
    · rw [et,uC] at o; exact o
  · exact o.elim
noncomputable def mK (f:Str):List (PyData × PyData)→Option PyData
  | []=>none
  | (k,d)::r=>match k with
    | .str g=>if g=f then some d else mK f r
    | _=>none
noncomputable def sM (C:Addr) (f:Str):PyData→Option PyData
  | .dict (k::r)=>match k with
    | (.str z,.int c)=>if z=""∧c=(C:Int) then mK f r else none
    | _=>none
  | _=>none
theorem Isk.mK {K:PySem.W.Frag} {H:Hp}:∀ {r:List (PyData × PyData)} {fs:List (Str × V)} {f:Str} {d:PyData},Isk K H r fs→L2.mK f r=some d→∃ v,fs.lookup f=some v∧Is K H d v
  | [],_,f,d,_,l=>by simp [L2.mK] at l
  | (k,x)::r,fs,f,d,h,l=>by
    unfold Isk at h
    obtain ⟨g,v,fs',rfl,rfl,h1,h2⟩:=h
    simp only [L2.mK] at l
    rw [List.lookup_cons]
    by_cases z:g=f
    · subst z
      rw [if_pos rfl] at l
      cases l
      exact ⟨v,by simp,h1⟩
    · rw [if_neg z] at l
      have:(f == g)=false:=by simpa using fun q=>z q.symm
      rw [this]
      exact Isk.mK h2 l
theorem DC {K:PySem.W.Frag} {H:Hp} {C:Addr} {f:Str} {d x:PyData} {v:V} (hf:f≠"@") (e:sM C f d=some x) (h:Is K H d v):∃ a dx fs u,v=.ref a∧H a=some (.ins C dx fs)∧fs.lookup f=some u∧Is K H x u:=by
  unfold sM at e
  split at e
  · rename_i k r
    split at e
    · rename_i z c
      split at e
      · rename_i q
        obtain ⟨rfl,rfl⟩:=q
        unfold Is at h
        rcases h with ⟨a,ns,_,ek,_⟩ | ⟨a,C',dx,fs,ev,h1,hn,h2 | h2⟩
        · injection ek with ek _; cases ek
        · unfold Isk at h2
          obtain ⟨g,u,fs',e1,e2,h3,h4⟩:=h2
          cases e1
          have e5:=h3.ofInt
          injection e5 with e5
          obtain rfl:C'=C:=Int.ofNat.inj e5
          obtain ⟨u,l,hu⟩:=h4.mK e
          exact ⟨a,dx,fs,u,ev,h1,l,hu⟩
        · unfold Isk at h2
          obtain ⟨g,u,fs',e1,e2,h3,h4⟩:=h2
          cases e1
          have e5:=h3.ofInt
          injection e5 with e5
          obtain rfl:C'=C:=Int.ofNat.inj e5
          obtain ⟨u,l,hu⟩:=h4.mK e
          rw [List.lookup_cons,show (f == ("@":Str))=false by simpa using hf] at l
          exact ⟨a,dx,fs,u,ev,h1,l,hu⟩
      · cases e
    · cases e
  · cases e
theorem Gz {C:Addr} {f:Str} (cl:Cls X.K C) (n:iB X.K C f) (ha:PD X E a ga) (hb:attributeBase a f X.env (eval a X.env)=eval a X.env:=by rfl) (hf:f≠"@":=by decide):PD X E (.Attribute a f pos) (g1 (sM C f) ga) :=
  (Fw ha hb).imp fun σ H Q ⟨A,δ,R,o⟩=>g1.read (tt:=fun Q x H1=>∃ a C dx fs v,x=.ref a∧H1 a=some (.ins C dx fs)∧Cls X.K C∧iB X.K C f∧fs.lookup f=some v∧Q v H1) R o fun d1 d x H' e _ _ h k=>by
    obtain ⟨p,dx,fs,u,rfl,hp,l,hu⟩:=DC hf e h
    exact ⟨p,C,dx,fs,u,rfl,a9 _ _ hp,cl,n,l,k _ H' (aT.refl _) hu⟩
noncomputable def FO (C:Addr) (names:List Str):Sp:=fun vs H Q _=>∃ (x dx:Addr) (args:List V),vs=.ref x::args∧args.length=names.length∧H x=some (.ins C dx []) ∧
  ∀ H':Hp,(∀ b,b≠x→H' b=H b)→H' x=some (.ins C dx (names.zip args))→Q .non H'
structure C4 (P:Program) (w:World) (K:PySem.W.Frag) (mg:Str→Option Value) (base:Heap) (k:Nat) (x:Str) (C:Addr) (names:List Str):Prop where
  ex:∃ f fd ps,Mk K C f∧kr P w K mg base (CXW P w) k f fd ps (FO C names)∧Binds K fd ps []∧mg x=some (.ref C)
noncomputable def wO (C:Addr) (names:List Str):List PyData→Rs PyData:=fun ds=>if ds.length=names.length then .ok (BX C (names.zip ds)) else .no
theorem zX {K:PySem.W.Frag} {H:Hp}:∀ {names:List Str} {ds:List PyData} {vs:List V},Iss K H ds vs→Isk K H ((names.zip ds).map fun p=>(.str p.1,p.2)) (names.zip vs)
  | [],_,_,_=>by simpa using zN
  | _::_,[],_,h=>by rw [h.nil_of]; simpa using zN
  | n::ns,d::ds,_,h=>by
    obtain ⟨v,r,rfl,h1,h2⟩:=h.cons_of
    simp only [List.zip_cons_cons,List.map_cons]
    exact xM h1 (zX h2)
theorem BU {f:Str}:∀ {names:List Str} {vs:List V},f ∉ names→(names.zip vs).lookup f=none
  | [],_,_=>rfl
  | _::_,[],_=>rfl
  | n::ns,v::vs,h=>by
    rw [List.zip_cons_cons,List.lookup_cons,show (f == n)=false by simpa using fun q=>h (by rw [q]; exact List.mem_cons_self)]
    exact BU fun q=>h (List.mem_cons_of_mem _ q)
theorem DS {k j:Nat} {x:Str} {C:Addr} {names:List Str} {p:Pos} (D:C4 X.prog X.w X.K X.mg X.base k x C names) (hr:fJ j X.A) (hx:Passes (CXW X.prog X.w) X E) (ha:PAD X E (e::es) gs) (hk:k + 1≤j:=by decide) (hg:Gl X x:=by rfl)
    (hdb:(x == ("__debug__":Str))=false:=by decide) (he:starEach (e::es) X.env=(false,eval e X.env)::starEach es X.env:=by rfl) (hpl:(backTo pos (starEach es X.env)).any (·.1)=false:=by rfl) (hn:("@":Str) ∉ names:=by decide) :
    PD X E (.Call (.Name x p) (e::es) [] pos) (ax (wO C names) gs):=by
  obtain ⟨f,fd,ps,M,F,hb,hm⟩:=D.ex
  refine (DI M F (hr.mono hk) hg hm hb .nil hx ha.1 hdb he hpl).imp fun σ H Q rz3=>?_
  obtain ⟨A,δ,R,o⟩:=rz3
  refine tR R o fun ds vs H1 e s1 R1 h1 o=>?_
  unfold wO at o
  split at o
  · rename_i hl
    intro x dx nx ndx ne
    refine ⟨x,dx,vs++[],rfl,by rw [List.append_nil,h1.length,hl],cA,fun H' k1 k2=>⟨rfl,?_⟩⟩
    rw [List.append_nil] at k2
    have sm:aT H1 H':=fun b q eb=>by
      have n1:b≠x:=bP eb nx
      rw [k1 b n1,bG n1,bG (bP eb ndx)]
      exact eb
    refine o (.ref x) H' sm (FL (dx:=dx) (fs:=names.zip vs) ?_ (BU hn) (zX (h1.same sm.del)))
    rw [cz (R1.ls.new nx)]
    exact k2
  · exact o.elim
noncomputable def wV:PyData→PyData→Option PyData
  | .list x,.int d=>(eQ x).map fun ns=>.int ((wC ns).getD d)
  | _,_=>none
end
section
variable {prog:Program} {w:World} {A:Around} {R:Result→Shared→Prop} {I:Addr} {fp wr:List Addr} {n:Nat} {T:Nat→Value→Prop} {St:Nat→Heap→Prop} {dv:Value}
theorem CO (a v:Value):argsOk "max" ⟨[a],[(Str.ofString "default",v)]⟩:=by unfold argsOk; kernel_rfl
theorem vA:(toString "max"++toString ".loop":String)="max.loop":=by decide
theorem qC (W:Walks prog w A.in1 I fp wr n T St) (bt:Nat→Nat→Bool) (hc:CmpOf prog w A.in1 .Gt T bt) (S:Addr) (hf:S ∉ fp):∀ (k j:Nat) (s:Shared) (vb:Value) (c:Nat),n=j + 1 + k→St (j + 1) s.heap→T (argBest bt j) vb →
    s.heap.get? S=some { cls:=.type "list",dict:=none,data:=.seq #[vb,vb] c,slots:=#[] }→(∀ v h' tk,T (argBest bt (n - 1)) v→(∀ b o,b ∉ wr→b≠S→s.heap.get? b=some o→h'.get? b=some o)→R (.ok (.ret v)) { s with heap:=h',toks:=tk }) →
    codeAny (model prog w) A (.builtin "max.loop" ⟨[.ref I,.none,.ref S],[(Str.ofString "default",dv)]⟩) R s
  | 0,j,s,vb,c,hn,hst,hb,hS,hR=>by
    have nw:S ∉ wr:=fun h=>hf (W.sub _ h)
    refine codeAny_builtin F.entry_max_loop ?_
    rw [Around.under_plainId F.plain_max_loop _]; show wpAny _ A.in1 (seqItems? (.ref S) >>= _) _ _ s
    refine wpAny_bind (wpAny_seqItems hS rfl ?_); show wpAny _ A.in1 (tryCatch (pyNext (.ref I)) _ >>= _) _ _ s
    refine wpAny_bind (wpAny_tryCatch (W.done s _ _ (by rw [show n=j + 1 from hn]; exact hst) fun h1 t1 k1=>?_))
    have hS1:=k1 S _ nw hS
    show wpAny _ A.in1 (updateSeq S (fun _=>#[]) >>= _) _ _ _
    refine wpAny_bind (wpAny_updateSeq hS1 rfl (wpAny_bind (wpAny_letGo (wpAny_pure ?_))))
    exact hR vb _ t1 (by rw [show n - 1=j by omega]; exact hb) fun b o q1 q2 z=>(Heap.get?_update_other _ _ (Ne.symm q2)).trans (k1 b o q1 z)
  | k + 1,j,s,vb,c,hn,hst,hb,hS,hR=>by
    have nw:S ∉ wr:=fun h=>hf (W.sub _ h)
    refine codeAny_builtin F.entry_max_loop ?_
    rw [Around.under_plainId F.plain_max_loop _]; show wpAny _ A.in1 (seqItems? (.ref S) >>= _) _ _ s
    refine wpAny_bind (wpAny_seqItems hS rfl ?_); show wpAny _ A.in1 (tryCatch (pyNext (.ref I)) _ >>= _) _ _ s
    refine wpAny_bind (wpAny_tryCatch (W.item (j + 1) s _ _ (by omega) hst fun v h1 t1 hv st1 k1=>?_))
    have hS1:=k1 S _ nw hS
    show wpAny _ A.in1 (tryCatch (holding [v,v] (richCompare .Gt v vb >>= _)) _ >>= _) _ _ _
    refine wpAny_bind (wpAny_tryCatch (wpAny_holding (wpAny_bind (hc (j + 1) (argBest bt j) v vb _ _ _ hv hb (wpAny_bind (wpAny_holding (wpAny_truthy_bool (wpAny_bind (wpAny_letGo (wpAny_pure ?_))))))))))
    cases q:bt (j + 1) (argBest bt j) with
    | true =>
      rw [if_pos rfl]
      refine wpAny_bind (wpAny_updateSeq hS1 rfl (wpAny_bind (wpAny_letGo ?_)))
      rw [vA]
      refine wpAny_pure ⟨plainId_quiet F.plain_max_loop _,qC W bt hc S hf k (j + 1) _ v _ (by omega) (W.frame _ _ _ st1 fun b hbf o e=>?_) (by unfold argBest; rw [q]; exact hv) (Heap.get?_update_self _ hS1 rfl) fun v2 h2 t2 p2 k2=>?_⟩
      · exact (Heap.get?_update_other _ _ (fun z:S=b=>hf (z ▸ hbf))).trans e
      · exact hR v2 h2 t2 p2 fun b o q1 q2 z=>k2 b o q1 q2 ((Heap.get?_update_other _ _ (Ne.symm q2)).trans (k1 b o q1 z))
    | false =>
      rw [if_neg (by decide)]
      refine wpAny_bind (wpAny_letGo ?_)
      rw [vA]
      refine wpAny_pure ⟨plainId_quiet F.plain_max_loop _,qC W bt hc S hf k (j + 1) _ vb c (by omega) st1 (by unfold argBest; rw [q]; exact hb) hS1 fun v2 h2 t2 p2 k2=>?_⟩
      exact hR v2 h2 t2 p2 fun b o q1 q2 z=>k2 b o q1 q2 (k1 b o q1 z)
variable {E:Value→Shared→Prop} {s:Shared} {l:Addr} {xs:Array (Int × Tok)}
theorem C7 {Q:Value→Shared→Prop} (hh:A.handled=none) (hl:s.heap.IsList l (intItems xs))
    (h0:xs.size=0→∀ h' tk,(∀ b o,s.heap.get? b=some o→h'.get? b=some o)→Q dv { s with heap:=h',toks:=tk })
    (h:0 < xs.size→∀ v h' tk,(intItems xs)[argBest (fun i j=>decide (numAt xs i > numAt xs j)) (xs.size - 1)]?=some v→(∀ b o,s.heap.get? b=some o→h'.get? b=some o)→Q v { s with heap:=h',toks:=tk }) :
    wpAny (model prog w) A (call (.builtin "max") [.ref l] [(Str.ofString "default",dv)]) Q E s:=by
  refine kmk_tree F.kind_max F.plain_max F.entry_max (CO _ _) ?_
  show wpAny _ A.in1 (Builtin.Builtins.bindParams "max" ["key", "default"] 0 ⟨[],[(Str.ofString "default",dv)]⟩ >>= _) _ _ s
  refine wpAny_bind (wpAny_of_eq (show Builtin.Builtins.bindParams "max" ["key", "default"] 0 ⟨[],[(Str.ofString "default",dv)]⟩=pure [none,some dv] from rfl) (wpAny_bind (wpAny_pure ?_)))
  refine wpAny_bind (iter_intList hl fun s2 e st hfp hlI=>wpAny_bind (wpAny_newObj_type ?_))
  subst e
  have W:=Walks.list (prog:=prog) (w:=w) (A:=A.in1) hh s.heap.objs.size l hlI (intItems xs)
  have hsz:(intItems xs).size=xs.size:=by simp [intItems]
  have hSf:(s.heap.push { cls:=.type "list_iterator",data:=.fields #[.ref l,.int 0 0] }).objs.size ∉ [s.heap.objs.size,l]:=fun hm=>Nat.lt_irrefl _ (hfp _ hm)
  rw [vA]
  refine wpAny_pure ⟨plainId_quiet F.plain_max_loop _,codeAny_builtin F.entry_max_loop ?_⟩
  rw [Around.under_plainId F.plain_max_loop _]
  show wpAny _ A.in1 (seqItems? (.ref _) >>= _) _ _ _
  refine wpAny_bind (wpAny_seqItems (Heap.get?_push_size _ rfl) rfl ?_)
  show wpAny _ A.in1 (tryCatch (pyNext (.ref _)) _ >>= _) _ _ _
  have st1:=W.frame _ _ _ st fun b _ o e=>Heap.get?_push_of_some { cls:=.type "list",data:=.seq #[] } e
  have nS:(s.heap.push { cls:=.type "list_iterator",data:=.fields #[.ref l,.int 0 0] }).objs.size ∉ [s.heap.objs.size]:=fun z=>hSf (List.mem_cons.mpr (.inl (List.mem_singleton.mp z)))
  have kp:∀ b o,s.heap.get? b=some o→b ∉ [s.heap.objs.size]∧((s.heap.push { cls:=.type "list_iterator",data:=.fields #[.ref l,.int 0 0] }).push { cls:=.type "list",data:=.seq #[] }).get? b=some o∧b≠(s.heap.push { cls:=.type "list_iterator",data:=.fields #[.ref l,.int 0 0] }).objs.size:=fun b o e=>by
    have hb:b < s.heap.objs.size:=Heap.lt_size e
    refine ⟨fun z=>?_,Heap.get?_push_of_some _ (Heap.get?_push_of_some _ e),?_⟩
    · rw [List.mem_singleton.mp z] at hb; exact Nat.lt_irrefl _ hb
    · rw [Heap.size_push]; exact Nat.ne_of_lt (Nat.lt_succ_of_lt hb)
  by_cases hz:xs.size=0
  · refine wpAny_bind (wpAny_tryCatch (W.done _ _ _ (by rw [hsz,hz]; exact st1) fun h1 t1 k1=>?_))
    show wpAny _ A.in1 (rule _ >>= _) _ _ _
    refine wpAny_bind (wpAny_rule (wpAny_pure ?_))
    exact h0 hz h1 t1 fun b o e=>k1 b o (kp b o e).1 (kp b o e).2.1
  · refine wpAny_bind (wpAny_tryCatch (W.item 0 _ _ _ (by rw [hsz]; omega) st1 fun v h1 t1 hv st2 k1=>?_))
    have hS1:=k1 _ _ nS (Heap.get?_push_size _ rfl)
    show wpAny _ A.in1 (updateSeq _ (fun _=>#[v,v]) >>= _) _ _ _
    refine wpAny_bind (wpAny_updateSeq hS1 rfl ?_)
    rw [vA]
    refine wpAny_pure ⟨plainId_quiet F.plain_max_loop _,qC W _ (CmpOf.ints_gt (numAt xs) fun _ _=>intItems_at) _ hSf (xs.size - 1) 0 _ v _ (by rw [hsz]; omega) (W.frame _ _ _ st2 fun b hbf o e=>?_) hv (Heap.get?_update_self _ hS1 rfl) fun v2 h2 t2 p2 k2=>?_⟩
    · exact (Heap.get?_update_other _ _ (fun z:(s.heap.push { cls:=.type "list_iterator",data:=.fields #[.ref l,.int 0 0] }).objs.size=b=>hSf (by rw [z]; exact hbf))).trans e
    · refine h (by omega) v2 h2 t2 (by rw [hsz] at p2; exact p2) fun b o e=>k2 b o (kp b o e).1 (kp b o e).2.2 ?_
      exact (Heap.get?_update_other _ _ (Ne.symm (kp b o e).2.2)).trans (k1 b o (kp b o e).1 (kp b o e).2.1)
end
section
variable {X:Cx} {E:XK} {O:List Nat} {e a b:Expr} {ga gb:Ds→Rs PyData} {es:List Expr} {gs:Ds→Rs (List PyData)} {pos:Pos}
theorem Aq {ns:List Int} (h:ns.length=0) (d:Int):(wC ns).getD d=d:=by cases ns with | nil=>rfl | cons _ _=>simp at h
theorem eD.weak {K:PySem.W.Frag} {g:Ds→Rs PyData} {σ:St} {H:Hp} {Q Q':VK} (h:eD K E g σ H Q) (k:∀ v H',Q v H'→Q' v H'):eD K E g σ H Q':=by
  obtain ⟨A,δ,R,o⟩:=h
  refine ⟨A,δ,R,?_⟩
  cases q:g δ with
  | ok d=>rw [q] at o; exact fun v H' s1 h1=>k v H' (o v H' s1 h1)
  | rz C=>rw [q] at o; exact o
  | no=>rw [q] at o; exact o
theorem Dt {p kp:Pos} (hc:X.calm=true) (hm:X.mg "max"=none) (ha:PD X E a ga) (hb:PD X E b gb) (hg:Gl X "max":=by rfl) (he:starEach [a] X.env=[(false,eval a X.env)]:=by rfl) :
    PD X E (.Call (.Name "max" p) [a] [⟨some "default",b,kp⟩] pos) (g2 wV ga gb):=by
  have key:PE X (.Call (.Name "max" p) [a] [⟨some "default",b,kp⟩] pos) (tOp (fun x y H Q=>∃ (p:Addr) (ns:List Int) (d:Int),x=.ref p∧y=.int d∧SqL X.K H p (ns.map V.int)∧Q (.int ((wC ns).getD d)) H) (eD X.K E ga) (eD X.K E gb)):=by
    intro pins s σ H Q I h
    refine wpAny_Call_Name_kw (ja I hg hm Eu ?_ (by decide) (by decide))
    refine callWith_kw ?_ (by rw [he]; rfl) (by rw [he]; rfl) rfl rfl
    refine thn ((fH ha i7 he) pos pins s σ H (fun vs H1=>∃ x,vs=[x]∧eD X.K E gb σ H1 fun y H2=>∃ (p:Addr) (ns:List Int) (d:Int),x=.ref p∧y=.int d∧SqL X.K H2 p (ns.map V.int)∧Q (.int ((wC ns).getD d)) H2) I
      (eD.weak h fun x H1 q=>⟨x,rfl,q⟩)) fun us s1 ⟨vs,H1,I1,r1,x,q0,q1⟩=>?_
    subst q0
    obtain ⟨u,rfl,ru⟩:=vals1 r1
    refine thn ((DH hb Fs) pos pins s1 σ H1 (fun vs H2=>∃ y,vs=[y]∧∃ (p:Addr) (ns:List Int) (d:Int),x=.ref p∧y=.int d∧SqL X.K H2 p (ns.map V.int)∧Q (.int ((wC ns).getD d)) H2) I1
      (eD.weak q1 fun y H2 q=>⟨y,rfl,q⟩)) fun ws s2 ⟨zs,H2,I2,r2,y,q2,p,ns,d,ex,ey,hS,q3⟩=>?_
    subst q2
    obtain ⟨v,rfl,rv⟩:=vals1 r2
    subst ex ey
    obtain rfl:u=Value.ref p:=ru
    obtain ⟨td,rfl⟩:=(show ∃ t,v=Value.int d t from rv)
    obtain ⟨its,rl,pl,_⟩:=I2.list hS
    have hi:IntsAre its ns:=intsAre_of rl
    obtain ⟨xs,hx⟩:=hi.allInts.items
    have hns:ns=xs.toList.map (·.1):=by rw [← hi.numsOf,← nums_intItems,← hx]
    have hl':s2.heap.IsList p (intItems xs):=hx ▸ pl.isList
    have hnl:ns.length=xs.size:=by rw [hns,List.length_map,Array.length_toList]
    refine C7 (I2.ok.hd hc) hl' (fun hz h' tk hk=>?_) fun hz v h' tk hv hk=>?_
    · rw [Aq (by omega) d] at q3
      exact ⟨.int d,H2,I2.kept hk,⟨_,rfl⟩,q3⟩
    · obtain ⟨t,rfl⟩:=intItems_at hv
      obtain ⟨h1,h2⟩:=argBest_gt (numAt xs) (xs.size - 1)
      obtain ⟨m,em⟩:∃ m,wC ns=some m:=by
        cases ns with
        | nil=>simp at hnl; omega
        | cons _ _=>exact ⟨_,rfl⟩
      have e:numAt xs (argBest (fun i j=>decide (numAt xs i > numAt xs j)) (xs.size - 1))=m:=by
        refine Ee ?_ (fun b hb=>?_) em
        · rw [hns,numAt_eq]; exact getD_mem (by rw [List.length_map,Array.length_toList]; omega)
        · rw [hns] at hb
          obtain ⟨j,hj,rfl⟩:=mem_getD hb
          rw [List.length_map,Array.length_toList] at hj
          rw [← numAt_eq]; exact h2 j (by omega)
      rw [em] at q3
      exact ⟨.int m,H2,I2.kept hk,⟨_,by rw [← e]⟩,q3⟩
  exact key.imp fun σ H Q ⟨A,δ,R,o⟩=>g2.read (fun d1 d2 d x y H' A' Q' e' hA h1 h2 k=>by
    unfold wV at e'
    split at e'
    · rename_i l dd
      obtain ⟨ns,q,rfl⟩:=Option.map_eq_some_iff.mp e'
      obtain ⟨p,xs,rfl,hp,hx⟩:=h1.ofLst
      rw [cI q] at hx
      rw [hx.ofInts] at hp
      exact ⟨p,ns,dd,rfl,h2.ofInt,SqL.of (a9 _ _ hp),k _ H' (aT.refl _) dz⟩
    · cases e') R o
end
end L2
namespace L2
open PySem PySem.Spec PyProof.Rows
theorem Ef {K:PySem.W.Frag} {qual:Str} {st:Stmt} {ps:List Str} {f C:Addr} {oc:Value} {od an:Option Addr} {sl:Array (Option Value)} {kV dc pm cd ct:Value}
    (hb:∀ (kV doc pm:Value) (an:Option Addr) (cdv ct:Value) (us:List Value),us.length=ps.length→bindArgs (PySem.W.fnOf "__init__" qual (iL st) (fi st) (aG st) .none kV doc pm an cdv ct) ⟨us,[]⟩=pure (ps.zip us))
    (a:PySem.W.findIn K (.ref C) "__init__"=some (some (.ref f))) (i:PySem.W.isFn K (.ref f)=true)
    (l:K.lookup f=some ⟨oc,od,.func (PySem.W.fnOf "__init__" qual (iL st) (fi st) (aG st) .none kV dc pm an cd ct),sl⟩)
    (c:PySem.W.codeIn K cd qual=true) (k:PySem.W.keepIn K (.ref f)=true) (mk:PySem.W.makesIn K C=true) (kc:PySem.W.keepIn K (.ref C)=true):∃ f fd,Mk K C f∧Fun K "__init__" qual st f fd∧Binds K fd ps [] :=
  have F:=CI (st:=st) l c k
  ⟨f,_,⟨mk,a,i,kc⟩,F,F.binds hb⟩
end L2
namespace L2
open PySem PySem.Spec PyProof.Rows
theorem vz {X:Cx} {e:Expr} {g:Ds→Rs Bool} (h:PCD X E0 e g):PTs X [e] (cD X.K E0 g):=.one h
end L2
namespace RS
open PySem
set_option genInjectivity true in
structure Er where
  every:Int
  due:Int
  late:Int
  parts:List (Int × Option Int)
noncomputable def cB:Option Int→PyData
  | none=>.none
  | some i=>.int i
noncomputable def bD (p:Int × Option Int):PyData:=.tuple [.int p.1,cB p.2]
noncomputable def Er.d (e:Er):PyData:=.tuple [.int e.every,.int e.due,.int e.late,.tuple (e.parts.map bD)]
noncomputable def aq (es:List Er):PyData:=.tuple (es.map Er.d)
noncomputable def isWhole (d:PyData) (lo hi:Int):Bool:=match d with
  | .int i=>decide (lo≤i) && decide (i≤hi)
  | _=>false
noncomputable def cO (d:PyData) (lo hi:Int):Bool:=match d with
  | .tuple ds=>decide (lo≤(ds.length:Int)) && decide ((ds.length:Int)≤hi)
  | _=>false
noncomputable def dY (d:PyData):Bool:=match d with
  | .tuple [a,b]=>isWhole a 1 20 && (match b with | .none=>true | b=>isWhole b 0 3)
  | _=>false
noncomputable def kh (ds:List PyData):Bool:=match ds.getLast? with
  | some (.tuple [_,.none])=>true
  | _=>false
noncomputable def eV (d:PyData):Bool:=match d with
  | .tuple ds=>decide (1≤ds.length) && decide (ds.length≤4) && ds.all dY && kh ds
  | _=>false
noncomputable def cq (d:PyData):Bool:=match d with
  | .tuple [.int e,du,.int l,ps]=>decide (2≤e) && decide (e≤60) && (decide (0≤l) && decide (l≤(if e - 1 < 20 then e - 1 else 20))) && isWhole du 1 (e - l) && eV ps
  | _=>false
noncomputable def cJ (d:PyData):Bool:=match d with
  | .tuple ds=>decide (1≤ds.length) && decide (ds.length≤6) && ds.all cq
  | _=>false
structure Er.Ok (e:Er):Prop where
  e1:2≤e.every
  e2:e.every≤60
  l1:0≤e.late
  l2:e.late≤20
  l3:e.late < e.every
  d1:1≤e.due
  d2:e.due≤e.every - e.late
  p1:e.parts≠[]
  p2:e.parts.length≤4
  pl:∀ p∈e.parts,1≤p.1∧p.1≤20∧∀ t,p.2=some t→0≤t∧t≤3
  la:∀ p,e.parts.getLast?=some p→p.2=none
theorem AU {p:Int × Option Int} (h1:1≤p.1) (h2:p.1≤20) (h3:∀ t,p.2=some t→0≤t∧t≤3):dY (bD p)=true:=by
  obtain ⟨l,t⟩:=p
  cases t with
  | none=>simp [dY,bD,cB,isWhole,h1,h2]
  | some t =>
    obtain ⟨a,b⟩:=h3 t rfl
    simp [dY,bD,cB,isWhole,h1,h2,a,b]
theorem xA {e:Er} (h:e.Ok):cq e.d=true:=by
  have hp:(e.parts.map bD).all dY=true:=by
    rw [List.all_eq_true]
    intro d hd
    obtain ⟨p,hp,rfl⟩:=List.mem_map.mp hd
    obtain ⟨a,b,c⟩:=h.pl p hp
    exact AU a b c
  have hl:kh (e.parts.map bD)=true:=by
    unfold kh
    rw [List.getLast?_map]
    cases q:e.parts.getLast? with
    | none=>exact absurd (List.getLast?_eq_none_iff.mp q) h.p1
    | some p =>
      obtain ⟨l,t⟩:=p
      have:t=none:=h.la _ q
      subst this
      rfl
  have hn:1≤e.parts.length:=by
    cases q:e.parts with
    | nil=>exact absurd q h.p1
    | cons _ _=>simp
  have h1:=h.e1; have h2:=h.e2; have h3:=h.l1; have h4:=h.l2; have h5:=h.l3; have h6:=h.d1; have h7:=h.d2; have h8:=h.p2
  have hl2:e.late≤if e.every - 1 < 20 then e.every - 1 else 20:=by split <;> omega
  simp [cq,Er.d,eV,isWhole,hp,hl,hn,h1,h2,h3,h6,h7,h8,hl2]
theorem f6 {es:List Er} (h1:1≤es.length) (h2:es.length≤6) (h:∀ e∈es,e.Ok):cJ (aq es)=true:=by
  have hp:(es.map Er.d).all cq=true:=by
    rw [List.all_eq_true]
    intro d hd
    obtain ⟨e,he,rfl⟩:=List.mem_map.mp hd
    exact xA (h e he)
  simp [cJ,aq,h1,h2,hp]
noncomputable def cellAt (ns:List Int) (k:Int):Int :=
  if k < (ns.length:Int) then ns.getD k.toNat 0 else if ns=[] then 0 else ns.getD (k % (ns.length:Int)).toNat 0 * 31 + k
noncomputable def Ai (ns:List Int) (k:Int):Int:=(cellAt ns k + 7919 * k + 1) * 48271 % 2147483647
noncomputable def mixed (ns:List Int) (k many:Int):Int:=(Ai ns k * Ai ns k + 7 * Ai ns k + k) % 2147483629 % many
theorem DM (ns:List Int) (k:Int):0≤Ai ns k:=Int.emod_nonneg _ (by decide)
theorem DJ (ns:List Int) (k:Int):Ai ns k < 2147483647:=Int.emod_lt_of_pos _ (by decide)
theorem dN (ns:List Int) (k:Int) {many:Int} (h:0 < many):0≤mixed ns k many:=Int.emod_nonneg _ (by omega)
theorem dW (ns:List Int) (k:Int) {many:Int} (h:0 < many):mixed ns k many < many:=Int.emod_lt_of_pos _ h
noncomputable def mM (i:Int):Option Int:=if i=0 then some 0 else if i=1 then some 1 else if i=2 then some 1 else if i=3 then some 0 else none
noncomputable def fK (ns:List Int) (j:Int) (tools:Bool):Int × Option Int:=(1 + mixed ns j 40 % 4,if tools then mM (mixed ns j 40 / 4 % 5) else none)
noncomputable def jF (ns:List Int) (at' every:Int):Int :=
  if every - 1 < mixed ns (at' + 1) 4 * (if mixed ns (at' + 2) 3=0 then 1 else 0) then every - 1 else mixed ns (at' + 1) 4 * (if mixed ns (at' + 2) 3=0 then 1 else 0)
noncomputable def pS (ns:List Int) (at' due:Int):Int:=if mixed ns (at' + 1) 3=0 then due - mixed ns (at' + 2) due else due
noncomputable def mkE (ns:List Int) (at' top:Int) (tools:Bool):Er where
  every:=3 + mixed ns at' top
  late:=jF ns at' (3 + mixed ns at' top)
  due:=pS ns at' (3 + mixed ns at' top - jF ns at' (3 + mixed ns at' top))
  parts:=((List.range (mixed ns (at' + 3) 3).toNat).map fun (k:Nat)=>fK ns (at' + 4 + (k:Int)) tools)++[(1 + mixed ns (at' + 6) 3,none)]
noncomputable def qf (ns:List Int) (at' most top:Int) (tools:Bool):List Er:=(List.range (1 + mixed ns at' most).toNat).map fun (k:Nat)=>mkE ns (at' + 1 + 7 * (k:Int)) top tools
theorem wN (ns:List Int) (at' every:Int) (h:3≤every):0≤jF ns at' every∧jF ns at' every≤3∧jF ns at' every < every:=by
  have h1:=dN ns (at' + 1) (many:=4) (by decide)
  have h2:=dW ns (at' + 1) (many:=4) (by decide)
  unfold jF
  generalize mixed ns (at' + 1) 4=x at *
  by_cases hc:mixed ns (at' + 2) 3=0
  · simp only [hc,if_true,Int.mul_one]; split <;> omega
  · simp only [hc,if_false,Int.mul_zero]; split <;> omega
theorem DN (ns:List Int) (at' due:Int) (h:1≤due):1≤pS ns at' due∧pS ns at' due≤due:=by
  have h1:=dN ns (at' + 2) (many:=due) (by omega)
  have h2:=dW ns (at' + 2) (many:=due) (by omega)
  unfold pS
  split <;> omega
theorem Ex (i t:Int) (h:mM i=some t):0≤t∧t≤1:=by
  unfold mM at h
  repeat' split at h
  all_goals (first | (cases h; decide) | cases h)
theorem BW (ns:List Int) (j:Int) (tools:Bool):1≤(fK ns j tools).1∧(fK ns j tools).1≤4∧∀ t,(fK ns j tools).2=some t→0≤t∧t≤1:=by
  have h1:0≤mixed ns j 40 % 4:=Int.emod_nonneg _ (by decide)
  have h2:mixed ns j 40 % 4 < 4:=Int.emod_lt_of_pos _ (by decide)
  refine ⟨by unfold fK; simp only; omega,by unfold fK; simp only; omega,fun t h=>?_⟩
  unfold fK at h
  simp only at h
  cases tools with
  | false=>simp at h
  | true=>simp at h; exact Ex _ _ h
theorem Fi (ns:List Int) (at' top:Int) (tools:Bool) (h1:0 < top) (h2:top≤58):(mkE ns at' top tools).Ok:=by
  have a1:=dN ns at' h1
  have a2:=dW ns at' h1
  have l:=wN ns at' (3 + mixed ns at' top) (by omega)
  have d:=DN ns at' (3 + mixed ns at' top - jF ns at' (3 + mixed ns at' top)) (by omega)
  have n1:=dN ns (at' + 3) (many:=3) (by decide)
  have n2:=dW ns (at' + 3) (many:=3) (by decide)
  have n3:=dN ns (at' + 6) (many:=3) (by decide)
  have n4:=dW ns (at' + 6) (many:=3) (by decide)
  refine ⟨?_,?_,l.1,?_,l.2.2,d.1,d.2,?_,?_,?_,?_⟩
  · show 2≤3 + mixed ns at' top; omega
  · show 3 + mixed ns at' top≤60; omega
  · have:=l.2.1; show jF ns at' (3 + mixed ns at' top)≤20; omega
  · simp [mkE]
  · simp only [mkE,List.length_append,List.length_map,List.length_range,List.length_singleton]; omega
  · intro p hp
    simp only [mkE,List.mem_append,List.mem_map,List.mem_singleton] at hp
    rcases hp with ⟨k,_,rfl⟩ | rfl
    · have:=BW ns (at' + 4 + (k:Int)) tools
      refine ⟨this.1,by omega,fun t ht=>?_⟩
      have:=this.2.2 t ht
      omega
    · exact ⟨by simp only; omega,by simp only; omega,fun t ht=>by cases ht⟩
  · intro p hp
    simp only [mkE,List.getLast?_append,List.getLast?_singleton,Option.some_or] at hp
    cases hp; rfl
theorem BA (ns:List Int) (at' most top:Int) (tools:Bool) (h:0 < most):1≤(qf ns at' most top tools).length∧((qf ns at' most top tools).length:Int)≤most:=by
  have h1:=dN ns at' h
  have h2:=dW ns at' h
  simp only [qf,List.length_map,List.length_range]
  omega
theorem Dy (ns:List Int) (at' most top:Int) (tools:Bool) (h1:0 < top) (h2:top≤58):∀ e∈qf ns at' most top tools,e.Ok:=by
  intro e he
  simp only [qf,List.mem_map] at he
  obtain ⟨k,_,rfl⟩:=he
  exact Fi _ _ _ _ h1 h2
end RS
namespace RS
open PySem L2
structure Cs where
  RankError:Addr
  NoErrands:Addr
  NoRanks:Addr
  NoComings:Addr
  NoErrand:Addr
  NoNumber:Addr
  TooLong:Addr
  NoText:Addr
  Holding:Addr
  Jobs:Addr
noncomputable abbrev Gf:=List PyData→Rs PyData
noncomputable def aY (K:PySem.W.Frag) (mg:Str→Option Value) (x:Str) (st:Stmt) (ps:List Str):Prop:=∃ f fd,Fun K x x st f fd∧Binds K fd ps []∧mg x=some (.ref f)
noncomputable def jb (cs:Cs):Ds→Sr :=
  (bf (sIf (cOr (j4 (gT (g1 (vH "int") (ag 0)))) (gT (g1 (vH "bool") (ag 0)))) (bM (gC (.bool false))) bS)
    (bM (oI dLe dLe (ag 1) (ag 0) (ag 2))))
noncomputable def iR (cs:Cs):Ds→Sr :=
  (bM (yV (g1 (vH "tuple") (ag 0)) (oI dLe dLe (ag 1) (gF e8 (af (ag 0) ak)) (ag 2))))
noncomputable def g7 (cs:Cs) (aM aJ:Gf):Ds→Sr :=
  (bf (sIf (cOr (j4 (gT (ax aJ (af (ag 0) (af (gC (.int 2)) (af (gC (.int 2)) ak)))))) (j4 (gT (ax aM (af (g2 dIx (ag 0) (gC (.int 0))) (af (gC (.int 1)) (af (gC (.int 20)) ak))))))) (bM (gC (.bool false))) bS)
    (bM (gOr (g1 vR (g2 dIx (ag 0) (gC (.int 1)))) (ax aM (af (g2 dIx (ag 0) (gC (.int 1))) (af (gC (.int 0)) (af (g2 k6 (gC (.int 4)) (gC (.int 1))) ak)))))))
noncomputable def fQ (cs:Cs) (aJ gf_is_part:Gf):Ds→Sr :=
  (bf (sIf (cOr (j4 (gT (ax aJ (af (ag 0) (af (gC (.int 1)) (af (gC (.int 4)) ak)))))) (j4 (gT (gF uR (af (gL (bX 1 (dR (ag 0)) bV (ax gf_is_part (af (ag 1) ak)) bx)) ak))))) (bM (gC (.bool false))) bS)
    (bM (g1 vR (g2 dIx (g2 dIx (ag 0) (g1 nJ (gC (.int 1)))) (gC (.int 1))))))
noncomputable def d5 (cs:Cs) (aM gf_are_parts aJ:Gf):Ds→Sr :=
  (bf (sIf (j4 (gT (ax aJ (af (ag 0) (af (gC (.int 4)) (af (gC (.int 4)) ak)))))) (bM (gC (.bool false))) bS)
    (bf (bh [] 1 (g2 dIx (ag 0) (gC (.int 0))))
    (bf (bh [] 2 (g2 dIx (ag 0) (gC (.int 1))))
    (bf (bh [] 3 (g2 dIx (ag 0) (gC (.int 2))))
    (bf (sIf (j4 (gT (ax aM (af (ag 1) (af (gC (.int 2)) (af (gC (.int 60)) ak)))))) (bM (gC (.bool false))) bS)
    (bf (sIf (j4 (gT (ax aM (af (ag 3) (af (gC (.int 0)) (af (gF rQ (af (gC (.int 20)) (af (g2 k6 (ag 1) (gC (.int 1))) ak))) ak)))))) (bM (gC (.bool false))) bS)
    (bM (yV (ax aM (af (ag 2) (af (gC (.int 1)) (af (g2 k6 (ag 1) (ag 3)) ak)))) (ax gf_are_parts (af (g2 dIx (ag 0) (gC (.int 3))) ak))))))))))
noncomputable def iN (cs:Cs) (aJ gf_is_errand:Gf):Ds→Sr :=
  (bf (sIf (cOr (j4 (gT (ax aJ (af (ag 0) (af (gC (.int 1)) (af (gC (.int 6)) ak)))))) (j4 (gT (gF uR (af (gL (bX 1 (dR (ag 0)) bV (ax gf_is_errand (af (ag 1) ak)) bx)) ak))))) (ng cs.NoErrands (af (gC (.str "errands are a tuple of 1 to 6 errands (every, due, late, parts)")) ak)) bS)
    (bM (ag 0)))
noncomputable def c7 (cs:Cs) (aJ aM:Gf):Ds→Sr :=
  (bf (bh [] 2 (g2 k6 (gF e8 (af (ag 0) ak)) (gC (.int 1))))
    (bf (sIf (cOr (j4 (gT (ax aJ (af (ag 1) (af (gF e8 (af (ag 0) ak)) (af (gF e8 (af (ag 0) ak)) ak)))))) (j4 (gT (gF uR (af (gL (bX 3 (dR (ag 1)) bV (ax aM (af (ag 3) (af (gC (.int 0)) (af (ag 2) ak)))) bx)) ak))))) (ng cs.NoRanks (af (gC (.str "ranks are a tuple of the numbers of all errands")) ak)) bS)
    (bf (sIf (gT (g2 dLt (gF oz (af (ag 1) ak)) (gF e8 (af (ag 1) ak)))) (ng cs.NoRanks (af (gC (.str "ranks have each errand's number once")) ak)) bS)
    (bM (ag 1)))))
noncomputable def dZ (cs:Cs) (aM:Gf):Ds→Sr :=
  (bf (sIf (j4 (gT (ax aM (af (ag 1) (af (gC (.int 0)) (af (g2 k6 (gF e8 (af (ag 0) ak)) (gC (.int 1))) ak)))))) (ng cs.NoErrand (af (gC (.str "no errand has this number")) ak)) bS)
    (bM (ag 1)))
noncomputable def fw (cs:Cs) (bz bF aX:Gf):Ds→Sr :=
  (bf (k4 (ax aX (af (ag 0) ak)))
    (bf (k4 (ax bF (af (ag 0) (af (ag 1) ak))))
    (k4 (ax bz (af (ag 0) (af (ag 2) ak))))))
noncomputable def pD (cs:Cs):Ds→Sr :=
  (bM (gF Bg (af (gL (bX 1 (dR (g2 dIx (ag 0) (gC (.int 3)))) bV (g2 dIx (ag 1) (gC (.int 0))) bx)) ak)))
noncomputable def jj (cs:Cs):Ds→Sr :=
  (bM (g2 (lP false) (ag 1) (gL (bX 2 (dR (g2 dIx (ag 0) (gC (.int 3)))) bV (g2 dIx (ag 2) (gC (.int 1))) bx))))
noncomputable def lR (cs:Cs) (bc:Gf):Ds→Sr :=
  (bf (k9 [] (lM (af (ag 1) ak)) (fj [3,4]) (sIf (gT (ax bc (af (g2 dIx (ag 0) (ag 4)) (af (ag 2) ak)))) (bM (ag 3)) bS))
    (bM (gC .none)))
noncomputable def fY (cs:Cs) (cV:Gf):Ds→Sr :=
  (bM (gL (bX 2 (eO (af (gC (.int 4)) ak)) bV (ax cV (af (ag 0) (af (ag 1) (af (ag 2) ak)))) bx)))
noncomputable def i6 (cs:Cs) (b4:Gf):Ds→Sr :=
  (bf (bh [5] 3 (oQ (ag 1) (ag 2)))
    (bf (bh [5] 4 (ax b4 (af (ag 0) (af (ag 1) ak))))
    (bf (k7 [5] 5 ak)
    (bf (k9 [5] (dR (cG (ag 1) (d4 (g2 br (ag 3) (gC (.int 1)))) ck)) (cQ 6) (k9 [5] (lM (af (g2 dIx (g2 dIx (ag 0) (ag 6)) (gC (.int 3))) ak)) (fj [7,8]) (sIf (EF (gT (g1 fN (g2 dIx (ag 8) (gC (.int 1))))) (gT (g2 dLe (g2 dIx (ag 4) (g2 dIx (ag 8) (gC (.int 1)))) (ag 3)))) (lg [5] 5 (ax (wO cs.Holding ["number", "part", "tool", "times"]) (af (ag 6) (af (ag 7) (af (g2 dIx (ag 8) (gC (.int 1))) (af (g2 k6 (g2 dIx (ag 8) (gC (.int 0))) (gC (.int 1))) ak)))))) bS)))
    (bM (ag 5))))))
noncomputable def eP (cs:Cs) (cw:Gf):Ds→Sr :=
  (bM (g2 wV (gL (bX 3 (dR (ax cw (af (ag 0) (af (ag 1) (af (ag 2) ak))))) bV (g1 (sM cs.Holding "times") (ag 3)) bx)) (gC (.int 0))))
noncomputable def fZ (cs:Cs):Ds→Sr :=
  (bM (g2 yi (g2 k6 (g2 br (ag 0) (ag 1)) (gC (.int 1))) (ag 1)))
noncomputable def qU (cs:Cs) (gf_work_of bN:Gf):Ds→Sr :=
  (bf (bh [] 5 (g2 br (ag 3) (ax gf_work_of (af (g2 dIx (ag 0) (ag 2)) ak))))
    (bf (k9 [] (dR (cG (ag 1) ck (d4 (oQ (ag 1) (ag 2))))) (cQ 6) (bf (bh [] 7 (g2 dIx (ag 0) (ag 6)))
    (vi [] 5 (g2 qS (ax gf_work_of (af (ag 7) ak)) (ax bN (af (g2 br (ag 4) (g2 dIx (ag 7) (gC (.int 2)))) (af (g2 dIx (ag 7) (gC (.int 0))) ak)))))))
    (bM (ag 5))))
noncomputable def iq (cs:Cs) (cW:Gf):Ds→Sr :=
  (bf (bh [5] 4 (g2 k6 (g2 dIx (g2 dIx (ag 0) (ag 2)) (gC (.int 0))) (g2 dIx (g2 dIx (ag 0) (ag 2)) (gC (.int 2)))))
    (bf (k7 [5] 5 ak)
    (bf (bh [5] 6 (ax cW (af (ag 0) (af (ag 1) (af (ag 2) (af (ag 3) (af (gC (.int 1)) ak)))))))
    (bf (fun δ=>dk (gT (g2 dLe (ag 6) (ag 4))) (bf (lg [5] 5 (ag 6))
    (bf (bh [5] 7 (ax cW (af (ag 0) (af (ag 1) (af (ag 2) (af (ag 3) (af (ag 6) ak)))))))
    (bf (sIf (gT (g2 dEq (ag 7) (ag 6))) (bM (ag 5)) bS)
    (bh [5] 6 (ag 7))))) 1000000 δ)
    (bM (gC .none))))))
noncomputable def fe (cs:Cs) (cu:Gf):Ds→Sr :=
  (bf (bh [] 4 (ax cu (af (ag 0) (af (ag 1) (af (ag 2) (af (ag 3) ak))))))
    (bM (gIf (gT (g1 vR (ag 4))) (gC .none) (g2 dIx (ag 4) (g1 nJ (gC (.int 1)))))))
noncomputable def dJ (cs:Cs) (a6 cf:Gf):Ds→Sr :=
  (bM (ax cf (af (ag 0) (af (ag 1) (af (ag 2) (af (ax a6 (af (ag 0) (af (ag 1) (af (ag 2) ak)))) ak))))))
noncomputable def gU (cs:Cs) (aO:Gf):Ds→Sr :=
  (bf (bh [] 4 (ax aO (af (ag 0) (af (ag 1) (af (ag 2) ak)))))
    (bM (yV (g1 fN (ag 4)) (g2 dLe (g2 br (ag 4) (ag 3)) (g2 dIx (g2 dIx (ag 0) (ag 2)) (gC (.int 1)))))))
noncomputable def f9 (cs:Cs) (bE:Gf):Ds→Sr :=
  (bM (ax bE (af (ag 0) (af (ag 1) (af (ag 2) (af (gC (.int 0)) ak))))))
noncomputable def jV (cs:Cs) (aO aL:Gf):Ds→Sr :=
  (bf (k4 (ax aL (af (ag 0) (af (ag 1) (af (ag 2) ak)))))
    (bM (ax aO (af (ag 0) (af (ag 1) (af (ag 2) ak))))))
noncomputable def gG (cs:Cs) (av:Gf):Ds→Sr :=
  (bf (bh [7] 4 (g2 br (gC (.int 3)) (ax av (af (ag 0) (af (ag 1) (af (ag 2) ak))))))
    (bf (bh [7] 5 (g2 qS (ax av (af (ag 0) (af (g2 br (ag 1) (gC (.int 1))) (af (gC (.int 4)) ak)))) (gF AW (af (g2 dEq (ax av (af (ag 0) (af (g2 br (ag 1) (gC (.int 2))) (af (gC (.int 3)) ak)))) (gC (.int 0))) ak))))
    (bf (bh [7] 5 (gF rQ (af (ag 5) (af (g2 k6 (ag 4) (gC (.int 1))) ak))))
    (bf (bh [7] 6 (g2 k6 (ag 4) (ag 5)))
    (bf (sIf (gT (g2 dEq (ax av (af (ag 0) (af (g2 br (ag 1) (gC (.int 1))) (af (gC (.int 3)) ak)))) (gC (.int 0)))) (bh [7] 6 (g2 k6 (ag 6) (ax av (af (ag 0) (af (g2 br (ag 1) (gC (.int 2))) (af (ag 6) ak)))))) bS)
    (bf (k7 [7] 7 ak)
    (bf (k9 [7] (eO (af (ax av (af (ag 0) (af (g2 br (ag 1) (gC (.int 3))) (af (gC (.int 3)) ak)))) ak)) (cQ 8) (bf (bh [7] 9 (ax av (af (ag 0) (af (g2 br (g2 br (ag 1) (gC (.int 4))) (ag 8)) (af (gC (.int 40)) ak)))))
    (bf (lg [7] 7 (iY (af (g2 br (gC (.int 1)) (g2 tF (ag 9) (gC (.int 4)))) (af (g2 dIx (ic (af (gC (.int 0)) (af (gC (.int 1)) (af (gC (.int 1)) (af (gC (.int 0)) (af (gC .none) ak)))))) (g2 tF (g2 yi (ag 9) (gC (.int 4))) (gC (.int 5)))) ak))))
    (sIf (j4 (gT (ag 3))) (Bl 7 (g1 nJ (gC (.int 1))) (iY (af (g2 dIx (g2 dIx (ag 7) (g1 nJ (gC (.int 1)))) (gC (.int 0))) (af (gC .none) ak)))) bS))))
    (bM (iY (af (ag 4) (af (ag 6) (af (ag 5) (af (gF ft (af (g2 br (ag 7) (ic (af (iY (af (g2 br (gC (.int 1)) (ax av (af (ag 0) (af (g2 br (ag 1) (gC (.int 6))) (af (gC (.int 3)) ak))))) (af (gC .none) ak))) ak))) ak)) ak)))))))))))))
noncomputable def fD (cs:Cs) (b3 av:Gf):Ds→Sr :=
  (bf (bh [] 5 (g2 br (gC (.int 1)) (ax av (af (ag 0) (af (ag 1) (af (ag 2) ak))))))
    (bM (gF ft (af (gL (bX 6 (eO (af (ag 5) ak)) bV (ax b3 (af (ag 0) (af (g2 br (g2 br (ag 1) (gC (.int 1))) (g2 qS (gC (.int 7)) (ag 6))) (af (ag 3) (af (ag 4) ak))))) bx)) ak))))
noncomputable def iu (cs:Cs) (av:Gf):Ds→Sr :=
  (bf (k7 [3,4] 3 (gLR (af (ag 2) ak)))
    (bf (k7 [3,4] 4 ak)
    (bf (k9 [3,4] (eO (af (ag 2) ak)) (cQ 5) (kK 4 3 (ax av (af (ag 0) (af (g2 br (ag 1) (ag 5)) (af (gF e8 (af (ag 3) ak)) ak))))))
    (bM (gF ft (af (ag 4) ak))))))
noncomputable def qF (cs:Cs):Ds→Sr :=
  (bM (gF Bg (af (gL (bX 1 (dR (g2 dIx (ag 0) (gC (.int 3)))) bV (g2 dIx (ag 1) (gC (.int 0))) bx)) ak)))
noncomputable def rL (cs:Cs) (a6 aL:Gf):Ds→Sr :=
  (bf (k4 (ax aL (af (ag 0) (af (ag 1) (af (ag 2) ak)))))
    (bM (ax a6 (af (ag 0) (af (ag 1) (af (ag 2) ak))))))
end RS
set_option maxRecDepth 100000
set_option maxHeartbeats 1000000
namespace RS
open PySem L2
theorem Dv {O:List Nat} {δ:Ds} {i:Nat} (h:i ∉ O):(mask O δ)[i]?=δ[i]?:=by
  unfold mask
  by_cases z:O=[]
  · rw [if_pos z]
  · rw [if_neg z,List.getElem?_mapIdx]
    cases δ[i]? with
    | none=>rfl
    | some d=>simp [h]
theorem aQ {O:List Nat} {δ:Ds} {i:Nat} (h:i ∉ O):ag i (mask O δ)=ag i δ:=by unfold ag; rw [Dv h]
@[simp] theorem aw (d:PyData) (δ:Ds):ag 0 (some d::δ)=.ok d:=rfl
@[simp] theorem ay (i:Nat) (x:Option PyData) (δ:Ds):ag (i + 1) (x::δ)=ag i δ:=rfl
@[simp] theorem eo (d:PyData) (δ:Ds):gC d δ=.ok d:=rfl
@[simp] theorem rT (f:PyData→Option PyData) (a:Ds→Rs PyData) (δ:Ds):g1 f a δ=(a δ).bind fun x=>Rs.fX (f x):=rfl
@[simp] theorem cL (f:PyData→PyData→Option PyData) (a b:Ds→Rs PyData) (δ:Ds):g2 f a b δ=(a δ).bind fun x=>(b δ).bind fun y=>Rs.fX (f x y):=rfl
@[simp] theorem j6 (f:List PyData→Option PyData) (a:Ds→Rs (List PyData)) (δ:Ds):gF f a δ=(a δ).bind fun x=>Rs.fX (f x):=rfl
@[simp] theorem aS (δ:Ds):ak δ=.ok []:=rfl
@[simp] theorem aH (a:Ds→Rs PyData) (r:Ds→Rs (List PyData)) (δ:Ds):af a r δ=(a δ).bind fun x=>(r δ).bind fun xs=>.ok (x::xs):=rfl
@[simp] theorem mX (a:Ds→Rs (List PyData)) (δ:Ds):iY a δ=(a δ).bind fun ds=>.ok (.tuple ds):=rfl
@[simp] theorem qV (a:Ds→Rs (List PyData)) (δ:Ds):ic a δ=(a δ).bind fun ds=>.ok (.list ds):=rfl
@[simp] theorem bb (f:Gf) (a:Ds→Rs (List PyData)) (δ:Ds):ax f a δ=(a δ).bind f:=rfl
@[simp] theorem gZ (a:Ds→Rs PyData) (δ:Ds):gT a δ=(a δ).bind truth:=rfl
@[simp] theorem b9 (b:Bool):truth (.bool b)=.ok b:=rfl
@[simp] theorem zh (a:Ds→Rs Bool) (δ:Ds):j4 a δ=(a δ).bind fun b=>.ok (!b):=rfl
@[simp] theorem HU (a b:Ds→Rs Bool) (δ:Ds):EF a b δ=(a δ).bind fun x=>if x=true then b δ else .ok false:=rfl
@[simp] theorem Iv (a b:Ds→Rs Bool) (δ:Ds):cOr a b δ=(a δ).bind fun x=>if x=true then .ok true else b δ:=rfl
@[simp] theorem Gq (a b:Ds→Rs PyData) (δ:Ds):yV a b δ=(a δ).bind fun x=>(truth x).bind fun t=>if t=true then b δ else .ok (.bool false):=rfl
@[simp] theorem Ir (a b:Ds→Rs PyData) (δ:Ds):gOr a b δ=(a δ).bind fun x=>(truth x).bind fun t=>if t=true then .ok (.bool true) else b δ:=rfl
@[simp] theorem Ic (a:Ds→Rs PyData) (δ:Ds):HR a δ=(a δ).bind fun x=>(truth x).bind fun t=>.ok (.bool (!t)):=rfl
@[simp] theorem nU (a:Ds→Rs (List PyData)) (δ:Ds):gL a δ=(a δ).bind fun ds=>.ok (.list ds):=rfl
@[simp] theorem yq (a:Ds→Rs PyData) (δ:Ds):dR a δ=(a δ).bind Ad:=rfl
@[simp] theorem HX (ds:List PyData):Ad (.list ds)=.ok ds:=rfl
@[simp] theorem Cu (ds:List PyData):Ad (.tuple ds)=.ok ds:=rfl
@[simp] theorem jm (a:Ds→Rs (List PyData)) (δ:Ds):eO a δ=(a δ).bind Dr:=rfl
@[simp] theorem Em (a:Ds→Rs (List PyData)) (δ:Ds):zw a δ=(a δ).bind DF:=rfl
@[simp] theorem HF (a:Ds→Rs (List PyData)) (δ:Ds):GS a δ=(a δ).bind GQ:=rfl
@[simp] theorem Hs (a:Ds→Rs (List PyData)) (δ:Ds):gLR a δ=(a δ).bind u7:=rfl
@[simp] theorem uZ (a:Ds→Rs (List PyData)) (δ:Ds):lM a δ=(a δ).bind su:=rfl
@[simp] theorem Dn (ds:List PyData):su [.list ds]=.ok (iw ds):=rfl
@[simp] theorem zV (ds:List PyData):su [.tuple ds]=.ok (iw ds):=rfl
@[simp] theorem G3 (f f':PyData→PyData→Option PyData) (a b c:Ds→Rs PyData) (δ:Ds):oI f f' a b c δ=(a δ).bind fun x=>(b δ).bind fun y=>(Rs.fX (f x y)).bind fun z=>(truth z).bind fun t=>if t=true then (c δ).bind fun w=>Rs.fX (f' y w) else .ok (.bool false):=rfl
@[simp] theorem iO (δ:Ds):ck δ=.ok none:=rfl
@[simp] theorem mD (g:Ds→Rs PyData) (δ:Ds):d4 g δ=(g δ).bind CU:=rfl
@[simp] theorem mw (i:Int):CU (.int i)=.ok (some i):=rfl
@[simp] theorem j8 (g:Ds→Rs PyData) (lo hi:Ds→Rs (Option Int)) (δ:Ds):cG g lo hi δ=(g δ).bind fun d=>(lo δ).bind fun l=>(hi δ).bind fun h=>Rs.fX (uI d l h):=rfl
@[simp] theorem yc (x:List PyData) (lo hi:Option Int):uI (.list x) lo hi=some (.list (cutD x lo hi)):=rfl
@[simp] theorem rX (x:List PyData) (lo hi:Option Int):uI (.tuple x) lo hi=some (.tuple (cutD x lo hi)):=rfl
@[simp] theorem aZ (a b:Ds→Sr) (δ:Ds):bf a b δ=match a δ with | .nx δ'=>b δ' | r=>r:=rfl
@[simp] theorem ib (δ:Ds):bS δ=.nx δ:=rfl
@[simp] theorem fu (c:Ds→Rs Bool) (a b:Ds→Sr) (δ:Ds):sIf c a b δ=ofR (c δ) fun t=>if t=true then a δ else b δ:=rfl
@[simp] theorem cp (g:Ds→Rs PyData) (δ:Ds):bM g δ=ofR (g δ) .rt:=rfl
@[simp] theorem nG (g:Ds→Rs PyData) (δ:Ds):k4 g δ=ofR (g δ) fun _=>.nx δ:=rfl
@[simp] theorem df (i:Nat) (g:Ds→Rs PyData) (δ:Ds):bh [] i g δ=if i < δ.length then ofR (g δ) fun d=>.nx (δ.set i (some d)) else .no:=by unfold bh; rw [ig]
@[simp] theorem HD (C:Addr) (gs:Ds→Rs (List PyData)) (δ:Ds):ng C gs δ=ofR (gs δ) fun _=>.rz C:=rfl
theorem iC (O:List Nat) (src:Ds→Rs (List PyData)) (tgt:PyData→Ds→Option Ds) (body:Ds→Sr) (δ:Ds):k9 O src tgt body δ=ofR (src (mask O δ)) fun ds=>forL tgt body ds δ:=rfl
@[simp] theorem bR (d:PyData):a7 (.rt d)=.ok d:=rfl
@[simp] theorem GJ (δ:Ds):a7 (.nx δ)=.ok .none:=rfl
@[simp] theorem GH (C:Addr):a7 (.rz C)=.rz C:=rfl
@[simp] theorem GI:a7 .no=.no:=rfl
@[simp] theorem fz (a b:Int):br (.int a) (.int b)=some (.int (a + b)):=rfl
@[simp] theorem ug (a b:Int):k6 (.int a) (.int b)=some (.int (a - b)):=rfl
@[simp] theorem Ht (a b:Int):tF (.int a) (.int b)=if 0 < b then some (.int (a % b)) else none:=rfl
@[simp] theorem EN (a b:Int):yi (.int a) (.int b)=if 0 < b∧b < 1073741824 then some (.int (a / b)) else none:=rfl
@[simp] theorem IB (a b:Int):dLt (.int a) (.int b)=some (.bool (decide (a < b))):=rfl
@[simp] theorem HM (a b:Int):dLe (.int a) (.int b)=some (.bool (decide (a≤b))):=rfl
@[simp] theorem Iz (a b:Int):dGt (.int a) (.int b)=some (.bool (decide (b < a))):=rfl
@[simp] theorem IA (a b:Int):dGe (.int a) (.int b)=some (.bool (decide (b≤a))):=rfl
@[simp] theorem Cy (a:Int):nJ (.int a)=some (.int (-a)):=rfl
@[simp] theorem Iu (d:PyData):vR d=some (.bool (eN d)):=rfl
@[simp] theorem oJ (d:PyData):fN d=some (.bool (!eN d)):=rfl
@[simp] theorem BM:eN .none=true:=rfl
@[simp] theorem AS (i:Int):eN (.int i)=false:=rfl
@[simp] theorem zT (x:List PyData) (i:Int):dIx (.tuple x) (.int i)=atI x i:=rfl
@[simp] theorem CZ (x:List PyData) (i:Int):dIx (.list x) (.int i)=atI x i:=rfl
@[simp] theorem xR (x:List PyData):e8 [.tuple x]=some (.int x.length):=rfl
@[simp] theorem vg (x:List PyData):e8 [.list x]=some (.int x.length):=rfl
@[simp] theorem F7 (a b:Int):rQ [.int a,.int b]=some (.int (if b < a then b else a)):=rfl
@[simp] theorem HK (a b:Int):Hi [.int a,.int b]=some (.int (if b > a then b else a)):=rfl
@[simp] theorem GA (b:Bool):AW [.bool b]=some (.int (if b then 1 else 0)):=rfl
@[simp] theorem vN (x:List PyData):ft [.list x]=some (.tuple x):=rfl
@[simp] theorem Ip (x:List PyData):ft [.tuple x]=some (.tuple x):=rfl
@[simp] theorem nO (a b:Int):dEq (.int a) (.int b)=some (.bool (a == b)):=by
  have h:∀ i:Int,PySem.SeqAt.shaped (.int i)=true:=fun i=>by simp [PySem.SeqAt.shaped,PyData.canLay0,PyData.depth]
  unfold dEq; rw [h,h]; simp [b7,PyData.eqv]
@[simp] theorem G8 (a b:Int):dNe (.int a) (.int b)=some (.bool (!(a == b))):=by
  have h:∀ i:Int,PySem.SeqAt.shaped (.int i)=true:=fun i=>by simp [PySem.SeqAt.shaped,PyData.canLay0,PyData.depth]
  unfold dNe; rw [h,h]; simp [b7,PyData.eqv]
theorem oS {α:Type} {xs:List α} {i:Int} {j:Nat} (h:i=j):atI xs i=xs[j]?:=by
  subst h
  unfold atI ixN
  by_cases z:(j:Int) < xs.length
  · rw [if_pos (by omega),if_pos z]; simp
  · rw [if_pos (by omega),if_neg z]
    simp; omega
@[simp] theorem IC {α:Type} (xs:List α):atI xs 0=xs[0]?:=oS (j:=0) rfl
@[simp] theorem Iy {α:Type} (xs:List α):atI xs 1=xs[1]?:=oS (j:=1) rfl
@[simp] theorem ID {α:Type} (xs:List α):atI xs 2=xs[2]?:=oS (j:=2) rfl
@[simp] theorem Iw {α:Type} (xs:List α):atI xs 3=xs[3]?:=oS (j:=3) rfl
theorem mi {α:Type} (xs:List α):atI xs (-1)=xs.getLast?:=by
  unfold atI ixN
  rw [if_neg (by decide)]
  by_cases z:xs=[]
  · subst z; rfl
  · have:0 < xs.length:=List.length_pos_iff.mpr z
    rw [if_pos (by omega),List.getLast?_eq_getElem?]
    simp only [Option.bind_some]
    congr 1
    omega
theorem rW {α:Type} (g:α→Bool) (xs:List α):uR [.list (xs.map fun d=>.bool (g d))]=some (.bool (xs.all g)):=by
  have hb:gp (xs.map fun d=>PyData.bool (g d))=some (xs.map g):=by
    rw [show (xs.map fun d=>PyData.bool (g d))=(xs.map g).map PyData.bool by rw [List.map_map]; rfl]
    exact kq _
  show (gp (xs.map fun d=>PyData.bool (g d))).map (fun ns=>PyData.bool (ns.all id))=_
  rw [hb,Option.map_some,List.all_map]; rfl
theorem Dg {α:Type} (g:α→Int) (xs:List α):Bg [.list (xs.map fun d=>.int (g d))]=some (.int (xs.map g).sum):=by
  have hb:eQ (xs.map fun d=>PyData.int (g d))=some (xs.map g):=by
    rw [show (xs.map fun d=>PyData.int (g d))=(xs.map g).map PyData.int by rw [List.map_map]; rfl]
    exact dh _
  show (eQ (xs.map fun d=>PyData.int (g d))).map (fun ns=>PyData.int ns.sum)=_
  rw [hb,Option.map_some]
theorem comp_map {elt:Ds→Rs PyData} {δ:Ds} {f:PyData→PyData}:∀ (ds:List PyData),(∀ d∈ds,elt (δ++[some d])=.ok (f d))→i8 bV elt bx δ ds=.ok (ds.map f)
  | [],_=>rfl
  | d::r,h=>by
    unfold i8
    simp only [bx,bV,Rs.kU,Rs.aj,if_true,h d List.mem_cons_self,comp_map r fun e he=>h e (List.mem_cons_of_mem _ he),List.map_cons]
theorem cK {n0:Nat} {src:Ds→Rs (List PyData)} {elt:Ds→Rs PyData} {δ:Ds} {f:PyData→PyData} {ds:List PyData} (hn:δ.length=n0) (hs:src δ=.ok ds) (hl:ds.length≤1000000) (h:∀ d∈ds,elt (δ++[some d])=.ok (f d)) :
    bX n0 src bV elt bx δ=.ok (ds.map f):=by
  unfold bX
  rw [if_pos hn,hs]
  simp only [Rs.aj,if_pos hl]
  exact comp_map ds h
theorem rn:∀ {ds:List PyData},jL ds=true→∀ d∈ds,b7 d=true
  | [],_,d,hd=>by cases hd
  | e::r,h,d,hd=>by
    unfold jL at h
    obtain ⟨h1,h2⟩:=Bool.and_eq_true_iff.mp h
    rcases List.mem_cons.mp hd with z | z
    · rw [z]; exact h1
    · exact rn h2 d z
theorem fh {ds:List PyData} (h:b7 (.tuple ds)=true):∀ d∈ds,b7 d=true:=by
  unfold b7 at h; exact rn h
end RS
set_option maxRecDepth 100000
set_option maxHeartbeats 1000000
namespace RS
open PySem L2
noncomputable def aM:Gf
  | [d,.int a,.int b]=>if b7 d then .ok (.bool (isWhole d a b)) else .no
  | _=>.no
theorem n9 {f:PyData→Int→Int→Rs PyData} {ds:List PyData} (h:(match ds with | [x0,.int x1,.int x2]=>f x0 x1 x2 | _=>.no)≠.no):∃ x0 x1 x2,ds=[x0,.int x1,.int x2]∧f x0 x1 x2≠.no:=by
  rcases ds with _ | ⟨x0,_ | ⟨x1,_ | ⟨x2,_ | ⟨y,ys⟩⟩⟩⟩
  · exact absurd rfl h
  · exact absurd rfl h
  · first | exact absurd rfl h | (cases x1 <;> exact absurd rfl h)
  · skip
    cases x1 with
    | int x1 =>
      cases x2 with
      | int x2 =>
        exact ⟨_,_,_,rfl,h⟩
      | _=>exact absurd rfl h
    | _=>first | exact absurd rfl h | (cases x2 <;> exact absurd rfl h)
  · first | exact absurd rfl h | (cases x1 <;> first | exact absurd rfl h | (cases x2 <;> exact absurd rfl h))
theorem xU (cs:Cs):∀ ds,ds.length=3→aM ds≠.no→a7 (jb cs (ds.map some++List.replicate 0 none))=aM ds:=by
  intro ds hl hne
  obtain ⟨d,a,b,ez,hz⟩:=n9 hne
  clear hne; subst ez; have hne:=hz; clear hz
  unfold aM
  · skip
    split at hne
    · rename_i hd
      simp only [hd,if_true]
      cases d with
      | int i=>by_cases h:a≤i <;> simp [jb,vH,hd,vX,tyD,isWhole,h]
      | dict _=>simp [b7] at hd
      | _=>simp [jb,vH,hd,vX,tyD,isWhole]
    · exact absurd rfl hne
noncomputable def aJ:Gf
  | [d,.int a,.int b]=>if b7 d then .ok (.bool (cO d a b)) else .no
  | _=>.no
theorem xZ (cs:Cs):∀ ds,ds.length=3→aJ ds≠.no→a7 (iR cs (ds.map some++List.replicate 0 none))=aJ ds:=by
  intro ds hl hne
  obtain ⟨d,a,b,ez,hz⟩:=n9 hne
  clear hne; subst ez; have hne:=hz; clear hz
  unfold aJ
  · skip
    split at hne
    · rename_i hd
      simp only [hd,if_true]
      cases d with
      | tuple x=>by_cases h:a≤(x.length:Int) <;> simp [iR,vH,hd,vX,tyD,cO,h]
      | dict _=>simp [b7] at hd
      | _=>simp [iR,vH,hd,vX,tyD,cO]
    · exact absurd rfl hne
noncomputable def iG (g:PyData→Bool):Gf
  | [d]=>if b7 d then .ok (.bool (g d)) else .no
  | _=>.no
theorem rH {g:PyData→Bool} {ds:List PyData} (h:iG g ds≠.no):∃ d,ds=[d]∧b7 d=true∧iG g ds=.ok (.bool (g d)):=by
  unfold iG at h ⊢
  split at h
  · rename_i d
    split at h
    · rename_i hd; exact ⟨d,rfl,hd,by simp [hd]⟩
    · exact absurd rfl h
  · exact absurd rfl h
theorem qQ {g:PyData→Bool} {d:PyData} (h:b7 d=true):iG g [d]=.ok (.bool (g d)):=by unfold iG; simp [h]
@[simp] theorem GK {d:PyData} {a b:Int} (h:b7 d=true):aJ [d,.int a,.int b]=.ok (.bool (cO d a b)):=by unfold aJ; simp [h]
@[simp] theorem E1 {d:PyData} {a b:Int} (h:b7 d=true):aM [d,.int a,.int b]=.ok (.bool (isWhole d a b)):=by unfold aM; simp [h]
theorem w6 {d:PyData} (h:cO d 2 2=true):∃ a b,d=.tuple [a,b]:=by
  cases d with
  | tuple ds =>
    simp [cO] at h
    match ds,h with
    | [a,b],_=>exact ⟨a,b,rfl⟩
    | [],h=>simp at h
    | [_],h=>simp at h
    | _::_::_::_,h=>simp at h; omega
  | _=>cases h
theorem Aj (cs:Cs):∀ ds,ds.length=1→iG dY ds≠.no→a7 (g7 cs aM aJ (ds.map some++List.replicate 0 none))=iG dY ds:=by
  intro ds hl hne
  obtain ⟨d,rfl,hd,e⟩:=rH hne
  rw [e]
  cases e1:cO d 2 2 with
  | false =>
    have:dY d=false:=by
      unfold dY
      split
      · simp [cO] at e1
      · rfl
    simp [g7,hd,e1,this]
  | true =>
    obtain ⟨a,b,rfl⟩:=w6 e1
    have ha:=fh hd a (by simp)
    have hb:=fh hd b (by simp)
    cases e2:isWhole a 1 20 with
    | false=>simp [g7,hd,ha,e1,e2,dY]
    | true =>
      cases b with
      | none=>simp [g7,hd,ha,e1,e2,dY]
      | _=>simp [g7,hd,ha,hb,e1,e2,dY,eN]
theorem wA (cs:Cs):∀ ds,ds.length=1→iG eV ds≠.no→a7 (fQ cs aJ (iG dY) (ds.map some++List.replicate 0 none))=iG eV ds:=by
  intro ds hl hne
  obtain ⟨d,rfl,hd,e⟩:=rH hne
  rw [e]
  cases e1:cO d 1 4 with
  | false =>
    have:eV d=false:=by
      cases d with
      | tuple ds =>
        simp only [cO,Bool.and_eq_false_iff,decide_eq_false_iff_not] at e1
        simp only [eV,Bool.and_eq_false_iff,decide_eq_false_iff_not]
        refine .inl (.inl ?_)
        omega
      | _=>rfl
    simp [fQ,hd,e1,this]
  | true =>
    obtain ⟨xs,rfl⟩:∃ ds,d=.tuple ds:=by cases d <;> first | exact ⟨_,rfl⟩ | cases e1
    have hn:1≤xs.length∧xs.length≤4:=by
      simp only [cO,Bool.and_eq_true,decide_eq_true_eq] at e1
      omega
    have hc:bX 1 (dR (ag 0)) bV (ax (iG dY) (af (ag 1) ak)) bx [some (.tuple xs)]=.ok (xs.map fun d=>.bool (dY d)) :=
      cK rfl rfl (by omega) fun d hd'=>by simp [qQ (fh hd d hd')]
    have hf:=rW dY xs
    cases e2:xs.all dY with
    | false=>simp [fQ,hd,e1,hc,hf,e2,eV]
    | true =>
      have hne:xs≠[]:=by intro z; subst z; simp at hn
      have hl2:xs.getLast?=some (xs.getLast hne):=List.getLast?_eq_some_getLast hne
      have hp:=List.all_eq_true.mp e2 _ (List.getLast_mem hne)
      obtain ⟨a,b,eab⟩:∃ a b,xs.getLast hne=.tuple [a,b]:=by
        revert hp
        generalize xs.getLast hne=z
        intro hp
        unfold dY at hp
        split at hp
        · exact ⟨_,_,rfl⟩
        · cases hp
      rw [eab] at hl2
      have hln:kh xs=eN b:=by
        unfold kh; rw [hl2]; cases b <;> rfl
      simp [fQ,hd,e1,hc,hf,e2,eV,mi,hl2,hln,hn.1,hn.2]
theorem vq {d:PyData} (h:cO d 4 4=true):∃ a b c e,d=.tuple [a,b,c,e]:=by
  cases d with
  | tuple ds =>
    simp [cO] at h
    match ds,h with
    | [a,b,c,e],_=>exact ⟨a,b,c,e,rfl⟩
    | [],h=>simp at h
    | [_],h=>simp at h
    | [_,_],h=>simp at h
    | [_,_,_],h=>simp at h
    | _::_::_::_::_::_,h=>simp at h; omega
  | _=>cases h
theorem d6 {d:PyData} {a b:Int} (h:isWhole d a b=true):∃ i,d=.int i∧a≤i∧i≤b:=by
  cases d with
  | int i=>simp [isWhole] at h; exact ⟨i,rfl,h⟩
  | _=>cases h
theorem rR {a b c e:PyData} (h:isWhole a 2 60=false):cq (.tuple [a,b,c,e])=false:=by
  cases a with
  | int i =>
    cases c with
    | int l =>
      simp only [isWhole,Bool.and_eq_false_iff,decide_eq_false_iff_not] at h
      simp only [cq,Bool.and_eq_false_iff,decide_eq_false_iff_not]
      omega
    | _=>rfl
  | _=>rfl
theorem tj {b c e:PyData} {i:Int} (h:isWhole c 0 (if i - 1 < 20 then i - 1 else 20)=false):cq (.tuple [.int i,b,c,e])=false:=by
  cases c with
  | int l =>
    simp only [isWhole,Bool.and_eq_false_iff,decide_eq_false_iff_not] at h
    simp only [cq,Bool.and_eq_false_iff,decide_eq_false_iff_not]
    exact .inl (.inl (.inr h))
  | _=>rfl
theorem sT {b e:PyData} {i l:Int} (h1:2≤i∧i≤60) (h2:0≤l∧l≤if i - 1 < 20 then i - 1 else 20):cq (.tuple [.int i,b,.int l,e])=(isWhole b 1 (i - l) && eV e):=by
  simp [cq,h1.1,h1.2,h2.1,h2.2]
theorem xG (cs:Cs):∀ ds,ds.length=1→iG cq ds≠.no→a7 (d5 cs aM (iG eV) aJ (ds.map some++List.replicate 3 none))=iG cq ds:=by
  intro ds hl hne
  obtain ⟨d,rfl,hd,e⟩:=rH hne
  rw [e]
  cases e1:cO d 4 4 with
  | false =>
    have:cq d=false:=by
      unfold cq
      split
      · simp [cO] at e1
      · rfl
    simp [d5,hd,e1,this]
  | true =>
    obtain ⟨a,b,c,q,rfl⟩:=vq e1
    have ha:=fh hd a (by simp)
    have hb:=fh hd b (by simp)
    have hc:=fh hd c (by simp)
    have he:=fh hd q (by simp)
    cases e2:isWhole a 2 60 with
    | false=>simp [d5,hd,ha,hb,hc,he,e1,e2,rR e2]
    | true =>
      obtain ⟨i,rfl,i1,i2⟩:=d6 e2
      cases e3:isWhole c 0 (if i - 1 < 20 then i - 1 else 20) with
      | false=>simp [d5,hd,ha,hb,hc,he,e1,e2,e3,tj e3]
      | true =>
        obtain ⟨l,rfl,l1,l2⟩:=d6 e3
        have er:=sT (b:=b) (e:=q) ⟨i1,i2⟩ ⟨l1,l2⟩
        cases e4:isWhole b 1 (i - l) with
        | false=>simp [d5,hd,ha,hb,hc,he,e1,e2,e3,e4,er]
        | true=>simp [d5,hd,ha,hb,hc,he,e1,e2,e3,e4,er,qQ he]
noncomputable def aX (cs:Cs):Gf
  | [d]=>if b7 d then (if cJ d then .ok d else .rz cs.NoErrands) else .no
  | _=>.no
theorem AD (cs:Cs):∀ ds,ds.length=1→aX cs ds≠.no→a7 (iN cs aJ (iG cq) (ds.map some++List.replicate 0 none))=aX cs ds:=by
  intro ds hl hne
  obtain ⟨d,rfl⟩:∃ d,ds=[d]:=by
    match ds,hl with
    | [d],_=>exact ⟨d,rfl⟩
  have hd:b7 d=true:=by
    unfold aX at hne
    by_cases z:b7 d=true
    · exact z
    · simp [z] at hne
  have eg:aX cs [d]=if cJ d then .ok d else .rz cs.NoErrands:=by unfold aX; simp [hd]
  rw [eg]
  cases e1:cO d 1 6 with
  | false =>
    have:cJ d=false:=by
      cases d with
      | tuple ds =>
        simp only [cO,Bool.and_eq_false_iff,decide_eq_false_iff_not] at e1
        simp only [cJ,Bool.and_eq_false_iff,decide_eq_false_iff_not]
        refine .inl ?_
        omega
      | _=>rfl
    simp [iN,hd,e1,this]
  | true =>
    obtain ⟨xs,rfl⟩:∃ ds,d=.tuple ds:=by cases d <;> first | exact ⟨_,rfl⟩ | cases e1
    have hn:1≤xs.length∧xs.length≤6:=by
      simp only [cO,Bool.and_eq_true,decide_eq_true_eq] at e1
      omega
    have hc:bX 1 (dR (ag 0)) bV (ax (iG cq) (af (ag 1) ak)) bx [some (.tuple xs)]=.ok (xs.map fun d=>.bool (cq d)) :=
      cK rfl rfl (by omega) fun d hd'=>by simp [qQ (fh hd d hd')]
    have hf:=rW cq xs
    cases e2:xs.all cq with
    | false=>simp [iN,hd,e1,hc,hf,e2,cJ]
    | true=>simp [iN,hd,e1,hc,hf,e2,cJ,hn.1,hn.2]
end RS
set_option maxRecDepth 100000
set_option maxHeartbeats 1000000
namespace RS
open PySem L2
theorem iU {β:Type} {tgt:PyData→Ds→Option Ds} {body:Ds→Sr} (inv:Nat→Ds→Prop):∀ (ds:List PyData) (k:Nat),(∀ (i:Nat) d δ,ds[i]?=some d→inv (k + i) δ→∃ δ1 δ2,tgt d δ=some δ1∧body δ1=.nx δ2∧inv (k + i + 1) δ2) →
    ∀ δ,inv k δ→∃ δ',forL tgt body ds δ=.nx δ'∧inv (k + ds.length) δ'
  | [],k,_,δ,h=>⟨δ,rfl,h⟩
  | d::r,k,hs,δ,h=>by
    obtain ⟨δ1,δ2,e1,e2,h2⟩:=hs 0 d δ rfl h
    obtain ⟨δ',e3,h3⟩:=iU (β:=β) inv r (k + 1) (fun i x δ hx hi=>by
      have:=hs (i + 1) x δ (by simpa using hx) (by rw [show k + (i + 1)=k + 1 + i by omega]; exact hi)
      rw [show k + 1 + i + 1=k + (i + 1) + 1 by omega]; exact this) δ2 h2
    exact ⟨δ',by unfold forL; rw [e1]; simp only [e2]; exact e3,by rw [List.length_cons,show k + (r.length + 1)=k + 1 + r.length by omega]; exact h3⟩
noncomputable def Ck:PyData→Option Int
  | .int i=>some i
  | _=>none
noncomputable def c8:PyData→Int × Option Int
  | .tuple [.int l,t]=>(l,Ck t)
  | _=>(0,none)
noncomputable def deE:PyData→Er
  | .tuple [.int e,.int d,.int l,.tuple ps]=>⟨e,d,l,ps.map c8⟩
  | _=>⟨0,0,0,[]⟩
theorem ub (e:Int) (d:Int) (l:Int) (ps:List PyData):deE (.tuple [.int e,.int d,.int l,.tuple ps])=⟨e,d,l,ps.map c8⟩:=rfl
noncomputable def b8:PyData→List Er
  | .tuple ds=>ds.map deE
  | _=>[]
theorem yA (o:Option Int):Ck (cB o)=o:=by cases o <;> rfl
theorem lz (p:Int × Option Int):c8 (bD p)=p:=by
  obtain ⟨l,t⟩:=p
  simp [bD,c8,yA]
theorem zr (e:Er):deE e.d=e:=by
  obtain ⟨a,b,c,ps⟩:=e
  simp [Er.d,ub,List.map_map]
  conv=>rhs; rw [← List.map_id ps]
  exact List.map_congr_left fun p _=>lz p
theorem cC (es:List Er):b8 (aq es)=es:=by
  simp [aq,b8,List.map_map]
  conv=>rhs; rw [← List.map_id es]
  exact List.map_congr_left fun e _=>zr e
theorem part_of {d:PyData} (h:dY d=true):bD (c8 d)=d∧1≤(c8 d).1∧(c8 d).1≤20∧∀ t,(c8 d).2=some t→0≤t∧t≤3:=by
  unfold dY at h
  split at h
  · rename_i a b
    rw [Bool.and_eq_true] at h
    obtain ⟨i,rfl,h1,h2⟩:=d6 h.1
    have hb:=h.2
    cases b with
    | none=>exact ⟨rfl,h1,h2,fun t q=>by cases q⟩
    | int t =>
      obtain ⟨t',q,h3,h4⟩:=d6 hb
      cases q
      exact ⟨rfl,h1,h2,fun t q=>by cases q; exact ⟨h3,h4⟩⟩
    | _=>cases hb
  · cases h
theorem tN {d:PyData} (h:cq d=true):(deE d).d=d∧(deE d).Ok:=by
  unfold cq at h
  split at h
  · rename_i e du l ps
    simp only [Bool.and_eq_true,decide_eq_true_eq] at h
    obtain ⟨⟨⟨⟨h1,h2⟩,h3,h4⟩,h5⟩,h6⟩:=h
    obtain ⟨du,rfl,d1,d2⟩:=d6 h5
    unfold eV at h6
    split at h6
    · rename_i ps
      simp only [Bool.and_eq_true,decide_eq_true_eq] at h6
      obtain ⟨⟨⟨p1,p2⟩,p3⟩,p4⟩:=h6
      have pa:=List.all_eq_true.mp p3
      have l4:l≤20∧l < e:=by split at h4 <;> omega
      refine ⟨?_,?_⟩
      · have em:ps.map (bD ∘ c8)=ps:=by
          conv=>rhs; rw [← List.map_id ps]
          exact List.map_congr_left fun p hp=>(part_of (pa p hp)).1
        simp only [ub,Er.d,List.map_map,em]
      · refine ⟨h1,h2,h3,l4.1,l4.2,d1,d2,fun z=>?_,by simpa [ub] using p2,fun p hp=>?_,fun p hp=>?_⟩
        · have:ps=[]:=by simpa [ub] using z
          subst this; simp at p1
        · obtain ⟨q,hq,rfl⟩:=List.mem_map.mp (show p∈ps.map c8 from hp)
          exact (part_of (pa q hq)).2
        · have hp:(ps.map c8).getLast?=some p:=hp
          rw [List.getLast?_map] at hp
          unfold kh at p4
          cases q:ps.getLast? with
          | none=>rw [q] at hp; cases hp
          | some z =>
            rw [q] at hp p4
            simp at hp
            split at p4
            · rename_i a heq
              cases heq
              subst hp
              unfold c8; split
              · rename_i l t e1
                injection e1 with e1; injection e1 with _ e1; injection e1 with e1 _
                rw [← e1]; rfl
              · rfl
            · cases p4
    · cases h6
  · cases h
theorem kM {d:PyData} (h:cJ d=true):aq (b8 d)=d∧1≤(b8 d).length∧(b8 d).length≤6∧∀ e∈b8 d,e.Ok:=by
  unfold cJ at h
  split at h
  · rename_i ds
    simp only [Bool.and_eq_true,decide_eq_true_eq] at h
    obtain ⟨⟨h1,h2⟩,h3⟩:=h
    have pa:=List.all_eq_true.mp h3
    refine ⟨?_,by simpa [b8] using h1,by simpa [b8] using h2,fun e he=>?_⟩
    · simp only [b8,aq,List.map_map]
      congr 1
      conv=>rhs; rw [← List.map_id ds]
      exact List.map_congr_left fun p hp=>(tN (pa p hp)).1
    · obtain ⟨q,hq,rfl⟩:=List.mem_map.mp (show e∈ds.map deE from he)
      exact (tN (pa q hq)).2
  · cases h
noncomputable def deI:PyData→Int
  | .int i=>i
  | _=>0
noncomputable def cy:PyData→List Int
  | .tuple ds=>ds.map deI
  | _=>[]
noncomputable def au (ns:List Int):PyData:=.tuple (ns.map .int)
theorem dP (ns:List Int):cy (au ns)=ns:=by
  simp [au,cy,List.map_map]
  conv=>rhs; rw [← List.map_id ns]
  exact List.map_congr_left fun _ _=>rfl
noncomputable def eE (n:Nat):PyData→Bool
  | .tuple ds=>decide (ds.length=n) && ds.all (fun d=>isWhole d 0 ((n:Int) - 1)) && decide (ds.map deI).Nodup
  | _=>false
structure bj (n:Nat) (rs:List Int):Prop where
  len:rs.length=n
  rng:∀ r∈rs,0≤r∧r < n
  nd:rs.Nodup
theorem lr {n:Nat} {d:PyData} (h:eE n d=true):au (cy d)=d∧bj n (cy d):=by
  unfold eE at h
  split at h
  · rename_i ds
    simp only [Bool.and_eq_true,decide_eq_true_eq] at h
    obtain ⟨⟨h1,h2⟩,h3⟩:=h
    have pa:=List.all_eq_true.mp h2
    refine ⟨?_,by simpa [cy] using h1,fun r hr=>?_,h3⟩
    · simp only [cy,au,List.map_map]
      congr 1
      conv=>rhs; rw [← List.map_id ds]
      refine List.map_congr_left fun p hp=>?_
      obtain ⟨i,rfl,_⟩:=d6 (pa p hp)
      rfl
    · obtain ⟨q,hq,rfl⟩:=List.mem_map.mp (show r∈ds.map deI from hr)
      obtain ⟨i,rfl,a,b⟩:=d6 (pa q hq)
      exact ⟨a,by show i < n; omega⟩
  · cases h
theorem hU {n:Nat} {rs:List Int} (h:bj n rs):eE n (au rs)=true:=by
  have e:(rs.map PyData.int).map deI=rs:=by
    rw [List.map_map]; conv=>rhs; rw [← List.map_id rs]
    exact List.map_congr_left fun _ _=>rfl
  unfold eE au
  simp only [List.length_map,h.len,decide_true,Bool.true_and,e,h.nd,Bool.and_true]
  rw [List.all_eq_true]
  intro d hd
  obtain ⟨r,hr,rfl⟩:=List.mem_map.mp hd
  have:=h.rng r hr
  simp [isWhole,this.1]; omega
theorem oR:∀ (l acc:List Int),acc.Nodup→((l.foldl PyProof.Rows.step_dedup acc).length≤acc.length + l.length)∧((l.foldl PyProof.Rows.step_dedup acc).length=acc.length + l.length↔(acc++l).Nodup)
  | [],acc,h=>by simpa using h
  | x::r,acc,h=>by
    rw [List.foldl_cons]
    by_cases z:acc.any (· == x)=true
    · have e:PyProof.Rows.step_dedup acc x=acc:=by unfold PyProof.Rows.step_dedup; rw [if_pos z]
      rw [e]
      have:=oR r acc h
      refine ⟨by rw [List.length_cons]; omega,fun q=>?_,fun q=>?_⟩
      · rw [List.length_cons] at q; omega
      · exfalso
        obtain ⟨y,hy,ey⟩:=List.any_eq_true.mp z
        have:y=x:=by simpa using ey
        subst this
        rw [List.nodup_append] at q
        exact q.2.2 y hy y List.mem_cons_self rfl
    · have e:PyProof.Rows.step_dedup acc x=acc++[x]:=by unfold PyProof.Rows.step_dedup; rw [if_neg z]
      have hx:x ∉ acc:=fun q=>z (List.any_eq_true.mpr ⟨x,q,by simp⟩)
      have hn:(acc++[x]).Nodup:=by
        rw [List.nodup_append]
        exact ⟨h,by simp,fun a ha b hb=>by rw [List.mem_singleton.mp hb]; rintro rfl; exact hx ha⟩
      rw [e]
      have:=oR r (acc++[x]) hn
      rw [List.length_append,List.length_singleton,List.append_assoc] at this
      refine ⟨by rw [List.length_cons]; omega,?_⟩
      rw [List.length_cons,show acc.length + (r.length + 1)=acc.length + 1 + r.length by omega]
      exact this.2
theorem yY (ns:List Int):((seen ns ns.length).length:Int) < ns.length↔¬ ns.Nodup:=by
  have e:(List.range ns.length).map (fun i=>ns.getD i 0)=ns:=by
    apply List.ext_getElem?
    intro i
    rw [List.getElem?_map]
    by_cases h:i < ns.length
    · rw [List.getElem?_range h,List.getElem?_eq_getElem h]
      simp [List.getD_eq_getElem?_getD,List.getElem?_eq_getElem h]
    · rw [List.getElem?_eq_none (by simpa using h),List.getElem?_eq_none (by simpa using h)]; rfl
  have:=oR ns [] List.nodup_nil
  unfold seen PyProof.Rows.firstMet
  rw [e]
  simp only [List.length_nil,Nat.zero_add,List.nil_append] at this
  constructor
  · intro h q
    have:=this.2.mpr q
    omega
  · intro h
    have h1:=this.1
    have h2:¬ (List.foldl PyProof.Rows.step_dedup [] ns).length=ns.length:=fun q=>h (this.2.mp q)
    omega
noncomputable def bF (cs:Cs):Gf
  | [.tuple es,r]=>if b7 r && decide (es.length≤100) then (if eE es.length r then .ok r else .rz cs.NoRanks) else .no
  | _=>.no
theorem CW {f:List PyData→PyData→Rs PyData} {ds:List PyData} (h:(match ds with | [.tuple x0,x1]=>f x0 x1 | _=>.no)≠.no):∃ x0 x1,ds=[.tuple x0,x1]∧f x0 x1≠.no:=by
  rcases ds with _ | ⟨x0,_ | ⟨x1,_ | ⟨y,ys⟩⟩⟩
  · exact absurd rfl h
  · first | exact absurd rfl h | (cases x0 <;> exact absurd rfl h)
  · skip
    cases x0 with
    | tuple x0 =>
      exact ⟨_,_,rfl,h⟩
    | _=>exact absurd rfl h
  · first | exact absurd rfl h | (cases x0 <;> exact absurd rfl h)
theorem qd (cs:Cs):∀ ds,ds.length=2→bF cs ds≠.no→a7 (c7 cs aJ aM (ds.map some++List.replicate 1 none))=bF cs ds:=by
  intro ds hl hne
  obtain ⟨es,r,ez,hz⟩:=CW hne
  clear hne; subst ez; have hne:=hz; clear hz
  unfold bF
  · skip
    split at hne
    · rename_i hh
      simp only [hh,if_true]
      rw [Bool.and_eq_true,decide_eq_true_eq] at hh
      obtain ⟨hd,h100⟩:=hh
      cases e1:cO r es.length es.length with
      | false =>
        have:eE es.length r=false:=by
          cases r with
          | tuple xs =>
            have:xs.length≠es.length:=fun q=>by simp [cO,q] at e1
            simp [eE,this]
          | _=>rfl
        simp [c7,hd,e1,this]
      | true =>
        obtain ⟨xs,rfl⟩:∃ ds,r=.tuple ds:=by cases r <;> first | exact ⟨_,rfl⟩ | cases e1
        have hn:xs.length=es.length:=by
          simp only [cO,Bool.and_eq_true,decide_eq_true_eq] at e1
          omega
        have hc:bX 3 (dR (ag 1)) bV (ax aM (af (ag 3) (af (gC (.int 0)) (af (ag 2) ak)))) bx [some (.tuple es),some (.tuple xs),some (.int ((es.length:Int) - 1))]=.ok (xs.map fun d=>.bool (isWhole d 0 ((es.length:Int) - 1))) :=
          cK rfl rfl (by omega) fun d hd'=>by simp [fh hd d hd']
        have hf:=rW (fun d=>isWhole d 0 ((es.length:Int) - 1)) xs
        cases e2:xs.all (fun d=>isWhole d 0 ((es.length:Int) - 1)) with
        | false=>simp [c7,hd,e1,hc,hf,e2,eE]
        | true =>
          have pa:=List.all_eq_true.mp e2
          have ei:xs=(xs.map deI).map PyData.int:=by
            rw [List.map_map]
            conv=>lhs; rw [← List.map_id xs]
            refine List.map_congr_left fun p hp=>?_
            obtain ⟨i,rfl,_⟩:=d6 (pa p hp)
            rfl
          have hs:oz [.tuple xs]=some (.int (seen (xs.map deI) (xs.map deI).length).length):=by
            unfold oz
            conv=>lhs; rw [ei]
            simp only [dh,Option.bind_some]
            rw [if_pos (by simp; omega)]
          have hsn:=yY (xs.map deI)
          have hml:(xs.map deI).length=es.length:=by rw [List.length_map]; exact hn
          rw [hml] at hs hsn
          by_cases hnd:(xs.map deI).Nodup
          · have h2:¬ (seen (xs.map deI) es.length).length < es.length:=fun q=>hsn.mp (by omega) hnd
            simp [c7,hd,e1,hc,hf,e2,hs,hn,h2,eE,hnd]
          · have h2:(seen (xs.map deI) es.length).length < es.length:=by have:=hsn.mpr hnd; omega
            simp [c7,hd,e1,hc,hf,e2,hs,hn,h2,eE,hnd]
    · exact absurd rfl hne
end RS
set_option maxRecDepth 100000
set_option maxHeartbeats 1000000
namespace RS
open PySem L2
noncomputable def lV:PyData→Bool
  | .tuple [.int l,b]=>decide (0≤l) && decide (l≤1000000) && (match b with | .none=>true | .int t=>decide (0≤t) && decide (t≤3) | _=>false)
  | _=>false
noncomputable def vh:PyData→Bool
  | .tuple [.int e,.int _,.int l,.tuple ps]=>decide (1≤e) && decide (e < 1073741824) && decide (-1000000000≤l) && decide (l≤1000000000) && decide (ps.length≤1000) && ps.all lV
  | _=>false
noncomputable def qZ:PyData→Bool
  | .tuple ds=>decide (ds.length≤100) && ds.all vh
  | _=>false
structure Er.Sh (e:Er):Prop where
  e1:1≤e.every
  e2:e.every < 1073741824
  l1:-1000000000≤e.late
  l2:e.late≤1000000000
  pn:e.parts.length≤1000
  pl:∀ p∈e.parts,0≤p.1∧p.1≤1000000∧∀ t,p.2=some t→0≤t∧t≤3
theorem um {d:PyData} (h:lV d=true):bD (c8 d)=d∧0≤(c8 d).1∧(c8 d).1≤1000000∧∀ t,(c8 d).2=some t→0≤t∧t≤3:=by
  unfold lV at h
  split at h
  · rename_i l b
    simp only [Bool.and_eq_true,decide_eq_true_eq] at h
    obtain ⟨⟨h1,h2⟩,h3⟩:=h
    cases b with
    | none=>exact ⟨rfl,h1,h2,fun t q=>by cases q⟩
    | int t =>
      simp only [Bool.and_eq_true,decide_eq_true_eq] at h3
      exact ⟨rfl,h1,h2,fun t q=>by cases q; exact h3⟩
    | _=>cases h3
  · cases h
theorem tL {d:PyData} (h:vh d=true):(deE d).d=d∧(deE d).Sh:=by
  unfold vh at h
  split at h
  · rename_i e du l ps
    simp only [Bool.and_eq_true,decide_eq_true_eq] at h
    obtain ⟨⟨⟨⟨⟨h1,h2⟩,hl1⟩,hl2⟩,h3⟩,h4⟩:=h
    have pa:=List.all_eq_true.mp h4
    have em:ps.map (bD ∘ c8)=ps:=by
      conv=>rhs; rw [← List.map_id ps]
      exact List.map_congr_left fun p hp=>(um (pa p hp)).1
    refine ⟨by simp only [ub,Er.d,List.map_map,em],h1,h2,hl1,hl2,by simpa [ub] using h3,fun p hp=>?_⟩
    obtain ⟨q,hq,rfl⟩:=List.mem_map.mp (show p∈ps.map c8 from hp)
    exact (um (pa q hq)).2
  · cases h
theorem oa {e:Er} (h:e.Sh):vh e.d=true:=by
  unfold vh Er.d
  simp only [h.e1,h.e2,h.l1,h.l2,decide_true,Bool.true_and,List.length_map,h.pn]
  rw [List.all_eq_true]
  intro d hd
  obtain ⟨p,hp,rfl⟩:=List.mem_map.mp hd
  obtain ⟨a,b,c⟩:=h.pl p hp
  obtain ⟨l,t⟩:=p
  cases t with
  | none=>simp at a b; simp [lV,bD,cB,a,b]
  | some t=>have:=c t rfl; simp at a b; simp [lV,bD,cB,a,b,this.1,this.2]
theorem Er.Ok.sh {e:Er} (h:e.Ok):e.Sh:=⟨by have:=h.e1; omega,by have:=h.e2; omega,by have:=h.l1; omega,by have:=h.l2; omega,by have:=h.p2; omega,fun p hp=>by
  obtain ⟨a,b,c⟩:=h.pl p hp
  exact ⟨by omega,by omega,c⟩⟩
theorem zg {d:PyData} (h:qZ d=true):aq (b8 d)=d∧(b8 d).length≤100∧∀ e∈b8 d,e.Sh:=by
  unfold qZ at h
  split at h
  · rename_i ds
    simp only [Bool.and_eq_true,decide_eq_true_eq] at h
    have pa:=List.all_eq_true.mp h.2
    refine ⟨?_,by simpa [b8] using h.1,fun e he=>?_⟩
    · simp only [b8,aq,List.map_map]
      congr 1
      conv=>rhs; rw [← List.map_id ds]
      exact List.map_congr_left fun p hp=>(tL (pa p hp)).1
    · obtain ⟨q,hq,rfl⟩:=List.mem_map.mp (show e∈ds.map deE from he)
      exact (tL (pa q hq)).2
  · cases h
theorem rM {es:List Er} (h1:es.length≤100) (h:∀ e∈es,e.Sh):qZ (aq es)=true:=by
  unfold qZ aq
  simp only [List.length_map,h1,decide_true,Bool.true_and]
  rw [List.all_eq_true]
  intro d hd
  obtain ⟨e,he,rfl⟩:=List.mem_map.mp hd
  exact oa (h e he)
noncomputable def Er.work (e:Er):Int:=(e.parts.map (·.1)).sum
noncomputable def Er.has (e:Er) (t:Int):Bool:=e.parts.any fun p=>p.2 == some t
noncomputable def er0:Er:=⟨1,1,0,[]⟩
noncomputable def az (es:List Er) (n:Int):Er:=es.getD n.toNat er0
noncomputable def hts (es:List Er):List Int→Int→Int→Option Int
  | [],_,_=>none
  | r::rs,k,t=>if (az es r).has t then some k else hts es rs (k + 1) t
noncomputable def b6 (es:List Er) (rs:List Int) (t:Int):Option Int:=hts es rs 0 t
noncomputable def placeOf (rs:List Int) (n:Int):Nat:=rs.findIdx (· == n)
noncomputable def e7 (es:List Er) (rs:List Int) (pl:Int) (acc:Int) (p:Int × Option Int):Int:=match p.2 with
  | some t=>(match b6 es rs t with
    | some h=>if h≤pl then max acc (p.1 - 1) else acc
    | none=>acc)
  | none=>acc
noncomputable def bY (es:List Er) (rs:List Int) (n:Int):Int:=(((rs.drop (placeOf rs n + 1)).map fun m=>(az es m).parts).flatten).foldl (e7 es rs (placeOf rs n)) 0
noncomputable def Er.times (e:Er) (t:Int):Int:=(t + e.late) / e.every + (if (t + e.late) % e.every > 0 then 1 else 0)
noncomputable def dr (es:List Er) (rs:List Int) (n t:Int):Int:=bY es rs n + (az es n).work + ((rs.take (placeOf rs n)).map fun m=>(az es m).times t * (az es m).work).sum
noncomputable def bu (es:List Er) (rs:List Int) (n:Int):Option Int:=((List.range ((az es n).every - (az es n).late).toNat).map fun (i:Nat)=>(1 + (i:Int))).find? fun t=>decide (dr es rs n t≤t)
noncomputable def dA (es:List Er) (rs:List Int) (n:Int):Bool:=match bu es rs n with
  | some t=>decide (t≤(az es n).due)
  | none=>false
theorem we {es:List Er} {n:Int} (h0:0≤n) (h1:n < es.length):es[n.toNat]?=some (az es n):=by
  unfold az
  rw [List.getD_eq_getElem?_getD,List.getElem?_eq_getElem (by omega)]; rfl
theorem bJ {es:List Er} {n:Int} (h0:0≤n) (h1:n < es.length):az es n∈es:=List.mem_of_getElem? (we h0 h1)
theorem ia {es:List Er} {n:Int} (h0:0≤n) (h1:n < es.length):atI (es.map Er.d) n=some (az es n).d:=by
  rw [oS (j:=n.toNat) (by omega),List.getElem?_map,we h0 h1]; rfl
noncomputable def cU:Gf
  | [d]=>if vh d then .ok (.int (deE d).work) else .no
  | _=>.no
theorem jl {e:Er} (h:e.Sh):cU [e.d]=.ok (.int e.work):=by unfold cU; simp [oa h,zr]
theorem B9 (p:Int × Option Int):dIx (bD p) (.int 0)=some (.int p.1):=rfl
theorem CQ (p:Int × Option Int):dIx (bD p) (.int 1)=some (cB p.2):=rfl
theorem FW (e:Er):dIx e.d (.int 3)=some (.tuple (e.parts.map bD)):=rfl
theorem Ah {f:PyData→Rs PyData} {ds:List PyData} (h:(match ds with | [x0]=>f x0 | _=>.no)≠.no):∃ x0,ds=[x0]∧f x0≠.no:=by
  rcases ds with _ | ⟨x0,_ | ⟨y,ys⟩⟩
  · exact absurd rfl h
  · skip
    exact ⟨_,rfl,h⟩
  · exact absurd rfl h
theorem xY (cs:Cs):∀ ds,ds.length=1→cU ds≠.no→a7 (qF cs (ds.map some++List.replicate 0 none))=cU ds:=by
  intro ds hl hne
  obtain ⟨d,ez,hz⟩:=Ah hne
  clear hne; subst ez; have hne:=hz; clear hz
  · skip
    split at hne
    · rename_i hd
      obtain ⟨e1,sh⟩:=tL hd
      rw [← e1]
      generalize deE d=e at sh
      rw [jl sh]
      have hc:bX 1 (dR (g2 dIx (ag 0) (gC (.int 3)))) bV (g2 dIx (ag 1) (gC (.int 0))) bx [some e.d]=.ok ((e.parts.map bD).map fun d=>.int (c8 d).1) :=
        cK rfl (by simp [FW]) (by have:=sh.pn; simp; omega) fun d hd'=>by
          obtain ⟨p,hp,rfl⟩:=List.mem_map.mp hd'
          simp [B9,lz]
      have hm:((e.parts.map bD).map fun d=>PyData.int (c8 d).1)=e.parts.map fun p=>.int p.1:=by
        rw [List.map_map]; exact List.map_congr_left fun p _=>by simp [lz]
      rw [hm] at hc
      simp [qF,hc,Dg,Er.work]
    · exact absurd rfl hne
end RS
set_option maxRecDepth 100000
set_option maxHeartbeats 1000000
namespace RS
open PySem L2
end RS
set_option maxRecDepth 100000
set_option maxHeartbeats 1000000
namespace RS
open PySem L2
theorem mS {rs:List Int} {n:Int} (h:n∈rs):placeOf rs n < rs.length:=List.findIdx_lt_length_of_exists ⟨n,h,by simp⟩
theorem xK:∀ {l m:List Int},l.Nodup→(∀ x∈l,x∈m)→l.length≤m.length
  | [],m,_,_=>Nat.zero_le _
  | x::r,m,hn,hs=>by
    rw [List.nodup_cons] at hn
    have hx:=hs x List.mem_cons_self
    have:=xK (l:=r) (m:=m.erase x) hn.2 fun y hy=>by
      rw [List.mem_erase_of_ne (by rintro rfl; exact hn.1 hy)]
      exact hs y (List.mem_cons_of_mem _ hy)
    rw [List.length_erase_of_mem hx] at this
    have hp:=List.length_pos_of_mem hx
    rw [List.length_cons]; omega
theorem bj.mem {k:Nat} {rs:List Int} (h:bj k rs) {n:Int} (h0:0≤n) (h1:n < k):n∈rs:=by
  have base:∀ x:Int,0≤x→x < k→x∈(List.range k).map fun (i:Nat)=>(i:Int):=fun x a b=>List.mem_map.mpr ⟨x.toNat,List.mem_range.mpr (by omega),by omega⟩
  by_cases z:n∈rs
  · exact z
  · exfalso
    have:=xK (l:=n::rs) (m:=(List.range k).map fun (i:Nat)=>(i:Int)) (List.nodup_cons.mpr ⟨z,h.nd⟩) fun x hx=>by
      rcases List.mem_cons.mp hx with q | q
      · rw [q]; exact base n h0 h1
      · have:=h.rng x q
        exact base x this.1 this.2
    have hl:=h.len
    simp at this
    omega
theorem oN (ns:List Int):(ns.map PyData.int).all gP=true:=by
  rw [List.all_eq_true]; intro d hd; obtain ⟨n,_,rfl⟩:=List.mem_map.mp hd; rfl
theorem nN (n:Int):∀ rs:List Int,n∈rs→(((rs.map PyData.int).map toV).findIdx? fun z=>eqV z (.int n))=some (placeOf rs n)
  | [],h=>by cases h
  | r::rs,h=>by
    have ev:eqV (.int r) (.int n)=(r == n):=rfl
    rw [List.map_cons,List.map_cons,List.findIdx?_cons]
    unfold placeOf
    rw [List.findIdx_cons]
    show (if eqV (.int r) (.int n)=true then some 0 else _)=_
    rw [ev]
    cases hr:r == n with
    | true=>rfl
    | false =>
      have hne:r≠n:=by simpa using hr
      have:=nN n rs ((List.mem_cons.mp h).resolve_left fun q=>hne q.symm)
      rw [if_neg Bool.false_ne_true,this]
      rfl
theorem jz {rs:List Int} {n:Int} (h:n∈rs):lA (rs.map .int) (.int n)=some (.int (placeOf rs n)):=by
  unfold lA
  rw [oN,show gP (.int n)=true from rfl]
  simp only [Bool.and_self,if_true]
  rw [show toV (.int n)=.int n from rfl,nN n rs h]; rfl
@[simp] theorem uL (go ga:Ds→Rs PyData) (δ:Ds):oQ go ga δ=(go δ).bind fun d=>match d with | .tuple xs=>(ga δ).bind fun y=>Rs.fX (lA xs y) | _=>.no:=rfl
theorem nR {xs:List PyData} {k:Nat}:cutD xs (some (k:Int)) none=xs.drop k:=by
  unfold cutD
  have e1:HT.sIx xs.length 0 (some (k:Int))=min k xs.length:=HT.zW _ _ _
  have e2:HT.sIx xs.length xs.length none=xs.length:=rfl
  rw [e1,e2]
  by_cases h:k≤xs.length
  · rw [Nat.min_eq_left h]; exact List.take_of_length_le (by simp)
  · rw [Nat.min_eq_right (by omega),List.drop_of_length_le (Nat.le_refl _),List.drop_of_length_le (by omega)]; simp
theorem ve {xs:List PyData} {k:Nat}:cutD xs none (some (k:Int))=xs.take k:=by
  unfold cutD
  have e1:HT.sIx xs.length 0 none=0:=rfl
  have e2:HT.sIx xs.length xs.length (some (k:Int))=min k xs.length:=HT.zW _ _ _
  rw [e1,e2]
  simp
theorem xq (es:List Er) (t:Int):∀ (rs:List Int) (k:Int) (m:Int),m∈rs→(az es m).has t=true→∃ h,hts es rs k t=some h
  | [],_,_,h,_=>by cases h
  | r::rs,k,m,h,ht=>by
    unfold hts
    by_cases z:(az es r).has t=true
    · exact ⟨k,by rw [if_pos z]⟩
    · rw [if_neg z]
      rcases List.mem_cons.mp h with q | q
      · subst q; exact absurd ht z
      · exact xq es t rs (k + 1) m q ht
theorem xS {es:List Er} {rs:List Int} {t:Int} (h0:0≤t) (h3:t≤3):atI ((List.range 4).map fun (t:Nat)=>cB (b6 es rs t)) t=some (cB (b6 es rs t)):=by
  rw [oS (j:=t.toNat) (by omega),List.getElem?_map,List.getElem?_range (by omega)]
  simp only [Option.map_some]
  rw [Int.toNat_of_nonneg h0]
theorem GF {e:Er} {p:Int × Option Int} {t:Int} (hp:p∈e.parts) (h:p.2=some t):e.has t=true:=List.any_eq_true.mpr ⟨p,hp,by simp [h]⟩
end RS
set_option maxRecDepth 100000
set_option maxHeartbeats 1000000
namespace RS
open PySem L2
theorem qN:∀ (ps:List (Int × Option Int)),(∀ p∈ps,0≤p.1∧p.1≤1000000)→0≤(ps.map (·.1)).sum∧(ps.map (·.1)).sum≤1000000 * ps.length
  | [],_=>by simp
  | p::r,h=>by
    have h1:=h p List.mem_cons_self
    have h2:=qN r fun q hq=>h q (List.mem_cons_of_mem _ hq)
    simp only [List.map_cons,List.sum_cons,List.length_cons]
    omega
theorem Er.Sh.work_b {e:Er} (h:e.Sh):0≤e.work∧e.work≤1000000000:=by
  have:=qN e.parts fun p hp=>⟨(h.pl p hp).1,(h.pl p hp).2.1⟩
  have h2:=h.pn
  unfold Er.work
  omega
theorem xX {a b:Int} (h1:-(2 ^ 64) < a) (h2:a < 2 ^ 64):qS (.int a) (.int b)=some (.int (a * b)):=by
  show (if _ then _ else _)=_
  rw [if_pos (.inl ⟨h1,h2⟩)]
end RS
set_option maxRecDepth 100000
set_option maxHeartbeats 1000000
namespace RS
open PySem L2
noncomputable def fb (B:Nat) (p:Int→Bool):Option Int:=((List.range B).map fun (i:Nat)=>(1 + (i:Int))).find? p
theorem u0 (B:Nat) (p:Int→Bool):fb (B + 1) p=(fb B p).or (if p (1 + (B:Int)) then some (1 + (B:Int)) else none):=by
  unfold fb
  rw [List.range_succ,List.map_append,List.find?_append]
  congr 1
  simp only [List.map_cons,List.map_nil,List.find?_cons,List.find?_nil]
  cases p (1 + (B:Int)) <;> rfl
theorem ec {p:Int→Bool}:∀ {B:Nat} {t:Int},fb B p=some t→1≤t∧t≤B∧p t=true∧∀ s,1≤s→s < t→p s=false
  | 0,t,h=>by cases h
  | B + 1,t,h=>by
    rw [u0] at h
    cases q:fb B p with
    | some u =>
      rw [q] at h
      cases h
      obtain ⟨h1,h2,h3,h4⟩:=ec q
      exact ⟨h1,by omega,h3,h4⟩
    | none =>
      rw [q,Option.none_or] at h
      split at h
      · rename_i hp
        cases h
        refine ⟨by omega,by omega,hp,fun s h1 h2=>?_⟩
        unfold fb at q
        have:=List.find?_eq_none.mp q s (List.mem_map.mpr ⟨(s - 1).toNat,List.mem_range.mpr (by omega),by omega⟩)
        simpa using this
      · cases h
theorem kL {B:Nat} {p:Int→Bool} (h:fb B p=none):∀ s:Int,1≤s→s≤(B:Int)→p s=false:=fun s h1 h2=>by
  unfold fb at h
  have:=List.find?_eq_none.mp h s (List.mem_map.mpr ⟨(s - 1).toNat,List.mem_range.mpr (by omega),by omega⟩)
  simpa using this
theorem qR {B B':Nat} {p p':Int→Bool} {t:Int} (h:fb B p=some t) (hB:B≤B') (hp:∀ s,1≤s→p s=true→p' s=true):∃ t',fb B' p'=some t'∧t'≤t:=by
  obtain ⟨h1,h2,h3,h4⟩:=ec h
  have hp':=hp t h1 h3
  cases q:fb B' p' with
  | none=>rw [kL q t h1 (by omega)] at hp'; cases hp'
  | some u =>
    obtain ⟨u1,u2,u3,u4⟩:=ec q
    refine ⟨u,rfl,?_⟩
    by_cases z:t < u
    · rw [u4 t h1 z] at hp'; cases hp'
    · omega
theorem cP (es:List Er) (rs:List Int) (n:Int):bu es rs n=fb ((az es n).every - (az es n).late).toNat fun t=>decide (dr es rs n t≤t):=rfl
theorem Er.times_mono {e:Er} (h:1≤e.every) {t u:Int} (ht:t≤u):e.times t≤e.times u:=by
  unfold Er.times
  have q:=Int.ediv_le_ediv (c:=e.every) (by omega) (show t + e.late≤u + e.late by omega)
  have r1:=Int.emod_nonneg (t + e.late) (b:=e.every) (by omega)
  have r2:=Int.emod_nonneg (u + e.late) (b:=e.every) (by omega)
  have d1:=Int.mul_ediv_add_emod (t + e.late) e.every
  have d2:=Int.mul_ediv_add_emod (u + e.late) e.every
  by_cases z:(t + e.late) / e.every=(u + e.late) / e.every
  · rw [← z] at d2 ⊢
    split <;> split <;> omega
  · split <;> split <;> omega
theorem sL {α:Type} (f g:α→Int):∀ l:List α,(∀ x∈l,f x≤g x)→(l.map f).sum≤(l.map g).sum
  | [],_=>Int.le_refl _
  | x::r,h=>by
    have h1:=h x List.mem_cons_self
    have h2:=sL f g r fun y hy=>h y (List.mem_cons_of_mem _ hy)
    simp only [List.map_cons,List.sum_cons]
    omega
theorem g0 {α:Type} (f:α→Int):∀ l:List α,(∀ x∈l,0≤f x)→0≤(l.map f).sum
  | [],_=>Int.le_refl _
  | x::r,h=>by
    have h1:=h x List.mem_cons_self
    have h2:=g0 f r fun y hy=>h y (List.mem_cons_of_mem _ hy)
    simp only [List.map_cons,List.sum_cons]
    omega
theorem xn {es:List Er} {rs:List Int} {n t u:Int} (hsh:∀ e∈es,e.Sh) (hr:bj es.length rs) (ht:t≤u):dr es rs n t≤dr es rs n u:=by
  unfold dr
  have:=sL (fun m=>(az es m).times t * (az es m).work) (fun m=>(az es m).times u * (az es m).work) (rs.take (placeOf rs n)) fun m hm=>by
    have hm':=hr.rng m (List.mem_of_mem_take hm)
    have hs:=hsh _ (bJ hm'.1 hm'.2)
    exact Int.mul_le_mul_of_nonneg_right (Er.times_mono hs.e1 ht) hs.work_b.1
  omega
structure o6 (f:Int→Int):Prop where
  mono:∀ t u,1≤t→t≤u→f t≤f u
  one:∀ t,1≤t→1≤f t
theorem o6.fix {f:Int→Int} (R:o6 f) {t:Int} (h1:1≤t) (h:f t≤t) (h4:∀ s,1≤s→s < t→¬ f s≤s):f t=t:=by
  by_cases z:f t < t
  · exact absurd (R.mono _ _ (R.one t h1) h) (fun q=>h4 (f t) (R.one t h1) z q)
  · omega
end RS
set_option maxRecDepth 100000
set_option maxHeartbeats 1000000
namespace RS
open PySem L2
theorem Er.times_le_iff {e:Er} (h:1≤e.every) {t c:Int}:e.times t≤c↔t + e.late≤e.every * c:=by
  unfold Er.times
  have r1:=Int.emod_nonneg (t + e.late) (b:=e.every) (by omega)
  have r2:=Int.emod_lt_of_pos (t + e.late) (b:=e.every) (by omega)
  have d1:=Int.mul_ediv_add_emod (t + e.late) e.every
  generalize (t + e.late) / e.every=q at *
  generalize (t + e.late) % e.every=r at *
  generalize t + e.late=x at *
  generalize e.every=v at *
  constructor
  · intro hc
    split at hc
    · have:v * (q + 1)≤v * c:=Int.mul_le_mul_of_nonneg_left hc (by omega)
      rw [Int.mul_add] at this
      omega
    · have:v * q≤v * c:=Int.mul_le_mul_of_nonneg_left (by omega) (by omega)
      omega
  · intro hx
    split
    · have:v * q < v * c:=by omega
      have:=Int.lt_of_mul_lt_mul_left this (by omega)
      omega
    · have:v * q≤v * c:=by omega
      have:=Int.le_of_mul_le_mul_left this (by omega)
      omega
theorem Er.times_pos {e:Er} (h:1≤e.every) {t:Int} (ht:0≤t + e.late):0≤e.times t:=by
  unfold Er.times
  have:=Int.ediv_nonneg ht (show 0≤e.every by omega)
  split <;> omega
inductive Fa2 {α β:Type} (R:α→β→Prop):List α→List β→Prop where
  | nil:Fa2 R [] []
  | cons {a:α} {b:β} {l:List α} {m:List β} (h:R a b) (t:Fa2 R l m):Fa2 R (a::l) (b::m)
structure Er.Le (a b:Er):Prop where
  ev:b.every≤a.every
  la:a.late=b.late
  ps:Fa2 (fun p q:Int × Option Int=>p.1≤q.1∧p.2=q.2) a.parts b.parts
theorem Er.Le.refl (a:Er):Er.Le a a:=⟨Int.le_refl _,rfl,by
  induction a.parts with
  | nil=>exact .nil
  | cons p r ih=>exact .cons ⟨Int.le_refl _,rfl⟩ ih⟩
theorem CS {l m:List (Int × Option Int)} (h:Fa2 (fun p q:Int × Option Int=>p.1≤q.1∧p.2=q.2) l m):(l.map (·.1)).sum≤(m.map (·.1)).sum:=by
  induction h with
  | nil=>exact Int.le_refl _
  | cons a _ ih =>
    simp only [List.map_cons,List.sum_cons]
    have:=a.1
    omega
theorem Er.Le.work {a b:Er} (h:Er.Le a b):a.work≤b.work:=CS h.ps
theorem Dp {l m:List (Int × Option Int)} (h:Fa2 (fun p q:Int × Option Int=>p.1≤q.1∧p.2=q.2) l m) (t:Int):(l.any fun p=>p.2 == some t)=m.any fun p=>p.2 == some t:=by
  induction h with
  | nil=>rfl
  | cons p _ ih=>rw [List.any_cons,List.any_cons,ih,p.2]
theorem Er.Le.has {a b:Er} (h:Er.Le a b) (t:Int):a.has t=b.has t:=Dp h.ps t
theorem Er.Le.times {a b:Er} (h:Er.Le a b) (hb:1≤b.every) {t:Int} (ht:0≤t + b.late):a.times t≤b.times t:=by
  have ha:1≤a.every:=Int.le_trans hb h.ev
  rw [Er.times_le_iff ha,h.la]
  have h1:=(Er.times_le_iff (e:=b) hb (t:=t) (c:=b.times t)).mp (Int.le_refl _)
  have h2:=Int.mul_le_mul_of_nonneg_right h.ev (Er.times_pos hb ht)
  omega
structure LeS (es fs:List Er):Prop where
  len:es.length=fs.length
  le:∀ n:Int,Er.Le (az es n) (az fs n)
theorem LeS.hts {es fs:List Er} (h:LeS es fs) (t:Int):∀ (rs:List Int) (k:Int),hts es rs k t=hts fs rs k t
  | [],k=>rfl
  | r::rs,k=>by
    unfold RS.hts
    rw [(h.le r).has,h.hts t rs (k + 1)]
theorem LeS.height {es fs:List Er} (h:LeS es fs) (rs:List Int) (t:Int):b6 es rs t=b6 fs rs t:=h.hts t rs 0
theorem LeS.step {es fs:List Er} (h:LeS es fs) (rs:List Int) (pl:Int) {x y:Int} (hx:x≤y) {p q:Int × Option Int} (hp:p.1≤q.1∧p.2=q.2):e7 es rs pl x p≤e7 fs rs pl y q:=by
  unfold e7
  rw [hp.2]
  have:=hp.1
  split
  · rename_i t ht
    rw [h.height]
    repeat' split
    all_goals omega
  · exact hx
theorem LeS.fold {es fs:List Er} (h:LeS es fs) (rs:List Int) (pl:Int) {l m:List (Int × Option Int)} (hl:Fa2 (fun p q:Int × Option Int=>p.1≤q.1∧p.2=q.2) l m):∀ {x y:Int},x≤y→l.foldl (e7 es rs pl) x≤m.foldl (e7 fs rs pl) y:=by
  induction hl with
  | nil=>exact fun hx=>hx
  | cons a _ ih=>exact fun hx=>ih (h.step rs pl hx a)
theorem t8 {α β:Type} {R:α→β→Prop} {a:List α} {b:List β} (h:Fa2 R a b) {c:List α} {d:List β} (h2:Fa2 R c d):Fa2 R (a++c) (b++d):=by
  induction h with
  | nil=>exact h2
  | cons x _ ih=>exact .cons x ih
theorem LeS.parts {es fs:List Er} (h:LeS es fs):∀ ms:List Int,Fa2 (fun p q:Int × Option Int=>p.1≤q.1∧p.2=q.2) ((ms.map fun m=>(az es m).parts).flatten) ((ms.map fun m=>(az fs m).parts).flatten)
  | []=>.nil
  | m::ms=>by
    simp only [List.map_cons,List.flatten_cons]
    exact t8 (h.le m).ps (h.parts ms)
theorem LeS.hold {es fs:List Er} (h:LeS es fs) (rs:List Int) (n:Int):bY es rs n≤bY fs rs n:=h.fold rs _ (h.parts _) (Int.le_refl _)
theorem LeS.need {es fs:List Er} (h:LeS es fs) {rs:List Int} {n t:Int} (hs:∀ e∈es,e.Sh) (hf:∀ e∈fs,e.Sh) (hl:∀ e∈fs,0≤e.late) (hr:bj fs.length rs) (ht:1≤t):dr es rs n t≤dr fs rs n t:=by
  unfold dr
  have h1:=h.hold rs n
  have h2:=(h.le n).work
  have h3:=sL (fun m=>(az es m).times t * (az es m).work) (fun m=>(az fs m).times t * (az fs m).work) (rs.take (placeOf rs n)) fun m hm=>by
    have hm':=hr.rng m (List.mem_of_mem_take hm)
    have mf:=bJ hm'.1 hm'.2
    have me:az es m∈es:=bJ hm'.1 (by rw [h.len]; exact hm'.2)
    have sf:=hf _ mf
    have l0:=hl _ mf
    have a1:=(h.le m).times sf.e1 (t:=t) (by omega)
    have a2:=(h.le m).work
    have a3:=Er.times_pos (e:=az fs m) sf.e1 (t:=t) (by omega)
    have a4:=(hs _ me).work_b.1
    exact Int.le_trans (Int.mul_le_mul_of_nonneg_right a1 a4) (Int.mul_le_mul_of_nonneg_left a2 a3)
  omega
noncomputable def sC (a b:Option Int):Prop:=∀ t,b=some t→∃ u,a=some u∧u≤t
theorem LeS.longest {es fs:List Er} (h:LeS es fs) {rs:List Int} {n:Int} (hs:∀ e∈es,e.Sh) (hf:∀ e∈fs,e.Sh) (hl:∀ e∈fs,0≤e.late) (hr:bj fs.length rs):sC (bu es rs n) (bu fs rs n):=fun t e=>by
  rw [cP] at e ⊢
  refine qR e ?_ fun s h1 h2=>?_
  · have:=(h.le n).ev; have:=(h.le n).la; omega
  · have:=h.need (n:=n) hs hf hl hr h1
    have h2:=of_decide_eq_true h2
    exact decide_eq_true (by omega)
end RS
set_option maxRecDepth 100000
set_option maxHeartbeats 1000000
namespace RS
open PySem L2
noncomputable def cnd (es:List Er) (rs:List Int) (pl:Int) (t:Int):Bool:=match b6 es rs t with
  | some h=>decide (h≤pl)
  | none=>false
noncomputable def xx (c:Int→Bool) (acc:Int) (p:Int × Option Int):Int:=match p.2 with
  | some t=>if c t then max acc (p.1 - 1) else acc
  | none=>acc
theorem xh (es:List Er) (rs:List Int) (pl:Int):e7 es rs pl=xx (cnd es rs pl):=by
  funext acc p
  unfold e7 xx cnd
  cases p.2 with
  | none=>rfl
  | some t =>
    simp only
    cases b6 es rs t with
    | none=>rfl
    | some h=>simp
theorem CY {c:Int→Bool} {acc M:Int} {p:Int × Option Int}:xx c acc p≤M↔acc≤M∧∀ t,p.2=some t→c t=true→p.1 - 1≤M:=by
  unfold xx
  rcases hp:p.2 with _ | t
  · simp
  · simp only
    cases hc:c t with
    | false=>simp [hc]
    | true =>
      simp only [if_true]
      constructor
      · intro h
        refine ⟨by omega,fun u hu _=>by cases hu; omega⟩
      · rintro ⟨h1,h2⟩
        have:=h2 t rfl hc
        omega
theorem xE {c:Int→Bool} {M:Int}:∀ (l:List (Int × Option Int)) (acc:Int),l.foldl (xx c) acc≤M↔acc≤M∧∀ p∈l,∀ t,p.2=some t→c t=true→p.1 - 1≤M
  | [],acc=>by simp
  | p::l,acc=>by
    rw [List.foldl_cons,xE l,CY]
    constructor
    · rintro ⟨⟨h1,h2⟩,h3⟩
      exact ⟨h1,fun q hq=>(List.mem_cons.mp hq).elim (fun z=>by rw [z]; exact h2) (h3 q)⟩
    · rintro ⟨h1,h2⟩
      exact ⟨⟨h1,h2 p List.mem_cons_self⟩,fun q hq=>h2 q (List.mem_cons_of_mem _ hq)⟩
theorem B5 (es:List Er) (t:Int):∀ (rs:List Int) (k:Int) (j:Nat),(∃ h,hts es rs k t=some h∧h≤k + j)↔∃ m∈rs.take (j + 1),(az es m).has t=true
  | [],k,j=>by simp [hts]
  | r::rs,k,j=>by
    unfold hts
    rw [List.take_succ_cons]
    by_cases hr:(az es r).has t=true
    · rw [if_pos hr]
      exact ⟨fun _=>⟨r,List.mem_cons_self,hr⟩,fun _=>⟨k,rfl,by omega⟩⟩
    · rw [if_neg hr]
      cases j with
      | zero =>
        have lo:∀ (rs:List Int) (k:Int) h,hts es rs k t=some h→k≤h:=by
          intro rs
          induction rs with
          | nil=>intro k h e; cases e
          | cons a l ih =>
            intro k h e
            unfold hts at e
            split at e
            · cases e; exact Int.le_refl _
            · have:=ih _ _ e; omega
        constructor
        · rintro ⟨h,e,hl⟩
          have:=lo rs (k + 1) h e
          omega
        · rintro ⟨m,hm,hh⟩
          simp at hm
          subst hm
          exact absurd hh hr
      | succ j =>
        have ih:=B5 es t rs (k + 1) j
        constructor
        · rintro ⟨h,e,hl⟩
          obtain ⟨m,hm,hh⟩:=ih.mp ⟨h,e,by omega⟩
          exact ⟨m,List.mem_cons_of_mem _ hm,hh⟩
        · rintro ⟨m,hm,hh⟩
          rcases List.mem_cons.mp hm with z | z
          · rw [z] at hh; exact absurd hh hr
          · obtain ⟨h,e,hl⟩:=ih.mpr ⟨m,z,hh⟩
            exact ⟨h,e,by omega⟩
theorem zm {es:List Er} {rs:List Int} {pl:Nat} {t:Int}:cnd es rs (pl:Int) t=true↔∃ m∈rs.take (pl + 1),(az es m).has t=true:=by
  rw [← B5 es t rs 0 pl]
  unfold cnd b6
  cases hts es rs 0 t with
  | none=>simp
  | some h=>simp
noncomputable def wa (es:List Er) (ms:List Int):List (Int × Option Int):=(ms.map fun m=>(az es m).parts).flatten
theorem zE {es:List Er} {ms:List Int} {p:Int × Option Int}:p∈wa es ms↔∃ m∈ms,p∈(az es m).parts:=by
  unfold wa
  rw [List.mem_flatten]
  constructor
  · rintro ⟨l,hl,hp⟩
    obtain ⟨m,hm,rfl⟩:=List.mem_map.mp hl
    exact ⟨m,hm,hp⟩
  · rintro ⟨m,hm,hp⟩
    exact ⟨_,List.mem_map.mpr ⟨m,hm,rfl⟩,hp⟩
theorem dC {es:List Er} {rs:List Int} {n M:Int}:bY es rs n≤M↔0≤M∧∀ m∈rs.drop (placeOf rs n + 1),∀ p∈(az es m).parts,∀ t,p.2=some t→(∃ u∈rs.take (placeOf rs n + 1),(az es u).has t=true)→p.1 - 1≤M:=by
  unfold bY
  rw [xh,xE]
  constructor
  · rintro ⟨h1,h2⟩
    exact ⟨h1,fun m hm p hp t ht hu=>h2 p (zE.mpr ⟨m,hm,hp⟩) t ht (zm.mpr hu)⟩
  · rintro ⟨h1,h2⟩
    refine ⟨h1,fun p hp t ht hc=>?_⟩
    obtain ⟨m,hm,hp⟩:=zE.mp hp
    exact h2 m hm p hp t ht (zm.mp hc)
theorem pP {A r:List Int} {n:Int} (h:n ∉ A):placeOf (A++r) n=A.length + placeOf r n:=by
  unfold placeOf
  induction A with
  | nil=>simp
  | cons a l ih =>
    have hn:(a == n)=false:=by
      rw [beq_eq_false_iff_ne]; intro z; exact h (by rw [z]; exact List.mem_cons_self)
    rw [List.cons_append,List.findIdx_cons,hn,cond_false,ih fun q=>h (List.mem_cons_of_mem _ q),List.length_cons]
    omega
theorem nF (n:Int) (r:List Int):placeOf (n::r) n=0:=by unfold placeOf; simp [List.findIdx_cons]
end RS
set_option maxRecDepth 100000
set_option maxHeartbeats 1000000
namespace RS
open PySem L2
theorem rO (es:List Er) (rs:List Int) (n:Int):0≤bY es rs n:=(dC.mp (Int.le_refl _)).1
theorem A6 {es:List Er} {rs ot:List Int} {n:Int} (h1:∀ u,u∈rs.take (placeOf rs n + 1)↔u∈ot.take (placeOf ot n + 1)) (h2:∀ u,u∈rs.drop (placeOf rs n + 1)↔u∈ot.drop (placeOf ot n + 1)):bY es rs n=bY es ot n:=by
  have a:=(dC (es:=es) (rs:=ot) (n:=n)).mp (Int.le_refl _)
  have b:=(dC (es:=es) (rs:=rs) (n:=n)).mp (Int.le_refl _)
  have c1:bY es rs n≤bY es ot n:=dC.mpr ⟨a.1,fun m hm p hp t ht qz6=>(by obtain ⟨u,hu,hh⟩:=qz6; exact a.2 m ((h2 m).mp hm) p hp t ht ⟨u,(h1 u).mp hu,hh⟩)⟩
  have c2:bY es ot n≤bY es rs n:=dC.mpr ⟨b.1,fun m hm p hp t ht qz6=>(by obtain ⟨u,hu,hh⟩:=qz6; exact b.2 m ((h2 m).mpr hm) p hp t ht ⟨u,(h1 u).mpr hu,hh⟩)⟩
  omega
theorem pN:∀ (ps:List (Int × Option Int)),(∀ p∈ps,0≤p.1)→∀ p∈ps,p.1≤(ps.map (·.1)).sum
  | [],_,p,hp=>by cases hp
  | q::r,h,p,hp=>by
    have h0:=h q List.mem_cons_self
    have h1:=g0 (fun p:Int × Option Int=>p.1) r fun p hp=>h p (List.mem_cons_of_mem _ hp)
    simp only [List.map_cons,List.sum_cons]
    rcases List.mem_cons.mp hp with rfl | hp
    · omega
    · have:=pN r (fun p hp=>h p (List.mem_cons_of_mem _ hp)) p hp
      omega
theorem Er.Sh.part_le {e:Er} (h:e.Sh) {p:Int × Option Int} (hp:p∈e.parts):p.1≤e.work:=pN e.parts (fun p hp=>(h.pl p hp).1) p hp
theorem Er.times_one {e:Er} (h:1≤e.every) (hl:0≤e.late) {t:Int} (ht:1≤t):1≤e.times t:=by
  by_cases z:e.times t≤0
  · have:=(Er.times_le_iff h).mp z
    omega
  · omega
section
variable {es:List Er} {A B:List Int} {x y:Int}
theorem As (A r:List Int) (k:Nat):(A++r).drop (A.length + k)=r.drop k:=by rw [List.drop_append]; simp
end
end RS
set_option maxRecDepth 100000
set_option maxHeartbeats 1000000
namespace RS
open PySem L2
structure nK (es fs:List Er) (rs:List Int) (φ:Int→Int):Prop where
  at':∀ m∈rs,az fs (φ m)=az es m
  inj:∀ m∈rs,∀ k∈rs,φ m=φ k→m=k
theorem tT {φ:Int→Int}:∀ {rs:List Int} {n:Int},n∈rs→(∀ m∈rs,φ m=φ n→m=n)→placeOf (rs.map φ) (φ n)=placeOf rs n
  | [],n,h,_=>by cases h
  | r::rs,n,h,hi=>by
    unfold placeOf
    rw [List.map_cons,List.findIdx_cons,List.findIdx_cons]
    by_cases z:r=n
    · subst z; simp
    · have e1:(r == n)=false:=by simpa using z
      have e2:(φ r == φ n)=false:=by
        rw [beq_eq_false_iff_ne]; intro q; exact z (hi r List.mem_cons_self q)
      have ih:=tT (φ:=φ) ((List.mem_cons.mp h).resolve_left fun q=>z q.symm) fun m hm=>hi m (List.mem_cons_of_mem _ hm)
      unfold placeOf at ih
      rw [e1,e2,cond_false,cond_false,ih]
theorem nK.place {es fs:List Er} {rs:List Int} {φ:Int→Int} (h:nK es fs rs φ) {n:Int} (hn:n∈rs):placeOf (rs.map φ) (φ n)=placeOf rs n:=tT hn fun m hm=>h.inj m hm n hn
theorem nK.hold {es fs:List Er} {rs:List Int} {φ:Int→Int} (h:nK es fs rs φ) {n:Int} (hn:n∈rs):bY fs (rs.map φ) (φ n)=bY es rs n:=by
  have a:=(dC (es:=es) (rs:=rs) (n:=n)).mp (Int.le_refl _)
  have b:=(dC (es:=fs) (rs:=rs.map φ) (n:=φ n)).mp (Int.le_refl _)
  rw [h.place hn,← List.map_drop,← List.map_take] at b
  have c1:bY fs (rs.map φ) (φ n)≤bY es rs n:=by
    refine dC.mpr ⟨a.1,?_⟩
    rw [h.place hn,← List.map_drop,← List.map_take]
    intro m hm p hp t ht ⟨u,hu,hh⟩
    obtain ⟨m',hm',rfl⟩:=List.mem_map.mp hm
    obtain ⟨u',hu',rfl⟩:=List.mem_map.mp hu
    rw [h.at' m' (List.mem_of_mem_drop hm')] at hp
    rw [h.at' u' (List.mem_of_mem_take hu')] at hh
    exact a.2 m' hm' p hp t ht ⟨u',hu',hh⟩
  have c2:bY es rs n≤bY fs (rs.map φ) (φ n):=by
    refine dC.mpr ⟨b.1,fun m hm p hp t ht rz6=>?_⟩
    obtain ⟨u,hu,hh⟩:=rz6
    refine b.2 (φ m) (List.mem_map.mpr ⟨m,hm,rfl⟩) p (by rw [h.at' m (List.mem_of_mem_drop hm)]; exact hp) t ht ⟨φ u,List.mem_map.mpr ⟨u,hu,rfl⟩,by rw [h.at' u (List.mem_of_mem_take hu)]; exact hh⟩
  omega
theorem nK.need {es fs:List Er} {rs:List Int} {φ:Int→Int} (h:nK es fs rs φ) {n:Int} (hn:n∈rs) (t:Int):dr fs (rs.map φ) (φ n) t=dr es rs n t:=by
  unfold dr
  rw [h.hold hn,h.at' n hn,h.place hn,← List.map_take,List.map_map]
  congr 2
  refine List.map_congr_left fun m hm=>?_
  simp only [Function.comp,h.at' m (List.mem_of_mem_take hm)]
theorem nK.longest {es fs:List Er} {rs:List Int} {φ:Int→Int} (h:nK es fs rs φ) {n:Int} (hn:n∈rs):bu fs (rs.map φ) (φ n)=bu es rs n:=by
  rw [cP,cP,h.at' n hn]
  congr 1
  funext t
  rw [h.need hn]
end RS
set_option maxRecDepth 100000
set_option maxHeartbeats 1000000
namespace RS
open PySem L2
theorem mn {rs:List Int} {n:Int} (h:n∈rs):rs[placeOf rs n]?=some n:=by
  have lt:=mS h
  rw [List.getElem?_eq_getElem lt]
  have hg:(rs[placeOf rs n] == n)=true:=List.findIdx_getElem (p:=(· == n)) (xs:=rs) (w:=lt)
  rw [beq_iff_eq.mp hg]
theorem gR {rs:List Int} {n:Int} (h:n∈rs):rs.take (placeOf rs n + 1)=rs.take (placeOf rs n)++[n]:=by
  rw [List.take_add_one,mn h]; rfl
theorem jv {rs:List Int} {n:Int} (h:n∈rs):rs=rs.take (placeOf rs n)++n::rs.drop (placeOf rs n + 1):=by
  have h1:=List.take_append_drop (placeOf rs n + 1) rs
  rw [gR h,List.append_assoc] at h1
  exact h1.symm
theorem n8 {rs:List Int} {n:Int} (hn:n∈rs) (nd:rs.Nodup) {m:Int}:m∈rs.drop (placeOf rs n + 1)↔m∈rs∧m≠n∧m ∉ rs.take (placeOf rs n):=by
  have e:=jv hn
  have nd':=nd
  rw [e] at nd'
  obtain ⟨n1,n2,n3⟩:=List.nodup_append.mp nd'
  constructor
  · intro hm
    refine ⟨List.mem_of_mem_drop hm,fun z=>?_,fun z=>n3 m z m (List.mem_cons_of_mem _ hm) rfl⟩
    rw [z] at hm
    exact (List.nodup_cons.mp n2).1 hm
  · rintro ⟨h1,h2,h3⟩
    rw [e] at h1
    rcases List.mem_append.mp h1 with z | z
    · exact absurd z h3
    · exact (List.mem_cons.mp z).resolve_left h2
theorem xl {α:Type} (f:α→Int) {l m:List α} (h:l.Perm m):(l.map f).sum=(m.map f).sum:=by
  induction h with
  | nil=>rfl
  | cons x _ ih=>simp only [List.map_cons,List.sum_cons,ih]
  | swap x y l=>simp only [List.map_cons,List.sum_cons]; omega
  | trans _ _ h1 h2=>exact h1.trans h2
section
variable {es:List Er} {rs ot:List Int} {n:Int}
theorem hZ {k:Nat} (hr:bj k rs) {m:Int}:m∈rs↔0≤m∧m < k:=⟨hr.rng m,fun h=>hr.mem h.1 h.2⟩
theorem zb (hr:bj es.length rs) (ho:bj es.length ot) (n0:0≤n) (n1:n < es.length) (h:(rs.take (placeOf rs n)).Perm (ot.take (placeOf ot n))):bY es rs n=bY es ot n∧(∀ t,dr es rs n t=dr es ot n t)∧bu es rs n=bu es ot n:=by
  have mr:=hr.mem n0 n1
  have mo:=ho.mem n0 n1
  have hh:bY es rs n=bY es ot n:=by
    apply A6
    · intro u
      rw [gR mr,gR mo,List.mem_append,List.mem_append,h.mem_iff]
    · intro u
      rw [n8 mr hr.nd,n8 mo ho.nd,hZ hr,hZ ho,h.mem_iff]
  have hn:∀ t,dr es rs n t=dr es ot n t:=fun t=>by
    unfold dr
    rw [hh,xl _ h]
  refine ⟨hh,hn,?_⟩
  rw [cP,cP]
  congr 1
  funext t
  rw [hn]
theorem yR {X:List Int} {t:Int} (hsh:∀ e∈es,e.Sh) (hl:∀ e∈es,0≤e.late) (hr:bj es.length rs) (ho:bj es.length ot) (n0:0≤n) (n1:n < es.length) (h:(rs.take (placeOf rs n)).Perm (ot.take (placeOf ot n)++X)) (ht:1≤t):dr es ot n t≤dr es rs n t:=by
  have mr:=hr.mem n0 n1
  have mo:=ho.mem n0 n1
  have hX:∀ m∈X,0≤m∧m < es.length:=fun m hm=>hr.rng m (List.mem_of_mem_take (h.mem_iff.mpr (List.mem_append_right _ hm)))
  have sX:∀ m∈X,(az es m).work≤(az es m).times t * (az es m).work∧0≤(az es m).work:=fun m hm=>by
    have mm:=bJ (hX m hm).1 (hX m hm).2
    have sm:=hsh _ mm
    have t1:=Er.times_one (e:=az es m) sm.e1 (hl _ mm) ht
    have:=Int.mul_le_mul_of_nonneg_right t1 sm.work_b.1
    exact ⟨by omega,sm.work_b.1⟩
  have W0:0≤(X.map fun m=>(az es m).times t * (az es m).work).sum:=g0 _ X fun m hm=>by have:=sX m hm; omega
  have inX:∀ (X:List Int),(∀ m∈X,0≤(az es m).times t * (az es m).work)→∀ m∈X,(az es m).times t * (az es m).work≤(X.map fun m=>(az es m).times t * (az es m).work).sum:=by
    intro X
    induction X with
    | nil=>intro _ m hm; cases hm
    | cons a l ih =>
      intro hp m hm
      have h0:=hp a List.mem_cons_self
      have h1:=g0 (fun m=>(az es m).times t * (az es m).work) l fun m hm=>hp m (List.mem_cons_of_mem _ hm)
      simp only [List.map_cons,List.sum_cons]
      rcases List.mem_cons.mp hm with rfl | hm
      · omega
      · have:=ih (fun m hm=>hp m (List.mem_cons_of_mem _ hm)) m hm
        omega
  have b:=(dC (es:=es) (rs:=rs) (n:=n)).mp (Int.le_refl _)
  have hh:bY es ot n≤bY es rs n + (X.map fun m=>(az es m).times t * (az es m).work).sum:=by
    refine dC.mpr ⟨by omega,fun m hm p hp u hu rz6=>?_⟩
    obtain ⟨v,hv,hv2⟩:=rz6
    obtain ⟨d1,d2,d3⟩:=(n8 mo ho.nd).mp hm
    have hmr:m∈rs:=(hZ hr).mpr ((hZ ho).mp d1)
    by_cases z:m∈rs.take (placeOf rs n)
    · have hmX:m∈X:=(List.mem_append.mp (h.mem_iff.mp z)).resolve_left d3
      have mm:=bJ (hX m hmX).1 (hX m hmX).2
      have a1:=(hsh _ mm).part_le hp
      have a2:=sX m hmX
      have a3:=inX X (fun m hm=>by have:=sX m hm; omega) m hmX
      omega
    · have hd:m∈rs.drop (placeOf rs n + 1):=(n8 mr hr.nd).mpr ⟨hmr,d2,z⟩
      have hv':v∈rs.take (placeOf rs n + 1):=by
        rw [gR mo] at hv
        rw [gR mr]
        rcases List.mem_append.mp hv with q | q
        · exact List.mem_append_left _ (h.mem_iff.mpr (List.mem_append_left _ q))
        · exact List.mem_append_right _ q
      have:=b.2 m hd p hp u hu ⟨v,hv',hv2⟩
      omega
  have hs:=xl (fun m=>(az es m).times t * (az es m).work) h
  rw [List.map_append,List.sum_append] at hs
  unfold dr
  omega
theorem tw {X:List Int} (hsh:∀ e∈es,e.Sh) (hl:∀ e∈es,0≤e.late) (hr:bj es.length rs) (ho:bj es.length ot) (n0:0≤n) (n1:n < es.length) (h:(rs.take (placeOf rs n)).Perm (ot.take (placeOf ot n)++X)):sC (bu es ot n) (bu es rs n):=fun t e=>by
  rw [cP] at e ⊢
  refine qR e (Nat.le_refl _) fun s h1 h2=>?_
  have:=yR hsh hl hr ho n0 n1 h h1
  have h2:=of_decide_eq_true h2
  exact decide_eq_true (by omega)
end
end RS
set_option maxRecDepth 100000
set_option maxHeartbeats 1000000
namespace RS
open PySem L2
noncomputable def gw:PyData→Option (List Int)
  | .dict [(.none,.list l)]=>eQ l
  | _=>none
theorem gQ (ns:List Int):gw (aE ns)=some ns:=dh ns
noncomputable def av:Gf
  | [s,.int k,.int many]=>(match gw s with
    | some ns=>if 0≤k∧0 < many then .ok (.int (mixed ns k many)) else .no
    | none=>.no)
  | _=>.no
theorem eG {ns:List Int} {k many:Int} (h1:0≤k) (h2:0 < many):av [aE ns,.int k,.int many]=.ok (.int (mixed ns k many)):=by
  unfold av; simp [gQ,h1,h2]
theorem gW (O:List Nat) (i:Nat) (g:Ds→Rs PyData) (δ:Ds):bh O i g δ=if i < δ.length then ofR (g (mask O δ)) fun d=>.nx (δ.set i (some d)) else .no:=rfl
noncomputable def b3:Gf
  | [s,.int a,.int top,.bool tools]=>(match gw s with
    | some ns=>if 0≤a∧0 < top∧top≤58 then .ok (mkE ns a top tools).d else .no
    | none=>.no)
  | _=>.no
theorem ka {ns:List Int} {a top:Int} {tools:Bool} (h1:0≤a) (h2:0 < top) (h3:top≤58):b3 [aE ns,.int a,.int top,.bool tools]=.ok (mkE ns a top tools).d:=by
  unfold b3; simp [gQ,h1,h2,h3]
theorem AN (o:Option Int):i5 (cB o)=true:=by cases o <;> (unfold cB i5; rfl)
theorem yf (p:Int × Option Int):i5 (bD p)=true:=by
  unfold bD i5 m8
  rw [show i5 (.int p.1)=true by unfold i5; rfl]
  unfold m8
  rw [AN]
  unfold m8
  rfl
theorem BS {i:Int} (h0:0≤i) (h1:i < 5):atI [PyData.int 0,PyData.int 1,PyData.int 1,PyData.int 0,PyData.none] i=some (cB (mM i)):=by
  have:i=0∨i=1∨i=2∨i=3∨i=4:=by omega
  rcases this with rfl | rfl | rfl | rfl | rfl <;> rfl
theorem xD (ns:List Int) (a top:Int) (tools:Bool) (ev la du:PyData) (ha:0≤a) (L:List PyData) (hL:L.length < 1000) (i:Nat) (x8 x9:Option PyData) :
    bf (bh [7] 9 (ax av (af (ag 0) (af (g2 br (g2 br (ag 1) (gC (.int 4))) (ag 8)) (af (gC (.int 40)) ak)))))
    (bf (lg [7] 7 (iY (af (g2 br (gC (.int 1)) (g2 tF (ag 9) (gC (.int 4)))) (af (g2 dIx (ic (af (gC (.int 0)) (af (gC (.int 1)) (af (gC (.int 1)) (af (gC (.int 0)) (af (gC .none) ak)))))) (g2 tF (g2 yi (ag 9) (gC (.int 4))) (gC (.int 5)))) ak))))
    (sIf (j4 (gT (ag 3))) (Bl 7 (g1 nJ (gC (.int 1))) (iY (af (g2 dIx (g2 dIx (ag 7) (g1 nJ (gC (.int 1)))) (gC (.int 0))) (af (gC .none) ak)))) bS))
      [some (aE ns),some (.int a),some (.int top),some (.bool tools),some ev,some la,some du,some (.list L),some (.int (0 + (i:Int))),x9]
   =.nx [some (aE ns),some (.int a),some (.int top),some (.bool tools),some ev,some la,some du,some (.list (L++[bD (fK ns (a + 4 + (i:Int)) tools)])),some (.int (0 + (i:Int))),some (.int (mixed ns (a + 4 + (0 + (i:Int))) 40))]:=by
  have hm:=eG (ns:=ns) (k:=a + 4 + (0 + (i:Int))) (many:=40) (by omega) (by decide)
  have m0:=dN ns (a + 4 + (0 + (i:Int))) (many:=40) (by decide)
  have m1:=dW ns (a + 4 + (0 + (i:Int))) (many:=40) (by decide)
  have ek:a + 4 + (0 + (i:Int))=a + 4 + (i:Int):=by omega
  generalize hc:mixed ns (a + 4 + (0 + (i:Int))) 40=c at *
  have q1:0≤c / 4 % 5:=Int.emod_nonneg _ (by decide)
  have q2:c / 4 % 5 < 5:=Int.emod_lt_of_pos _ (by decide)
  have t5:=BS q1 q2
  have hp:fK ns (a + 4 + (i:Int)) tools=(1 + c % 4,if tools then mM (c / 4 % 5) else none):=by unfold fK; rw [← ek,hc]
  have s1:bh [7] 9 (ax av (af (ag 0) (af (g2 br (g2 br (ag 1) (gC (.int 4))) (ag 8)) (af (gC (.int 40)) ak)))) [some (aE ns),some (.int a),some (.int top),some (.bool tools),some ev,some la,some du,some (.list L),some (.int (0 + (i:Int))),x9]
     =.nx [some (aE ns),some (.int a),some (.int top),some (.bool tools),some ev,some la,some du,some (.list L),some (.int (0 + (i:Int))),some (.int c)]:=by
    rw [gW,if_pos (by simp)]
    simp only [bb,aH,aS,cL,aQ (show 0 ∉ [7] by decide),aQ (show 1 ∉ [7] by decide),aQ (show 8 ∉ [7] by decide),aw,ay,eo,Rs.aj,fz,Rs.ao,hm,aA]
    rfl
  have s2:lg [7] 7 (iY (af (g2 br (gC (.int 1)) (g2 tF (ag 9) (gC (.int 4)))) (af (g2 dIx (ic (af (gC (.int 0)) (af (gC (.int 1)) (af (gC (.int 1)) (af (gC (.int 0)) (af (gC .none) ak)))))) (g2 tF (g2 yi (ag 9) (gC (.int 4))) (gC (.int 5)))) ak)))
      [some (aE ns),some (.int a),some (.int top),some (.bool tools),some ev,some la,some du,some (.list L),some (.int (0 + (i:Int))),some (.int c)]
     =.nx [some (aE ns),some (.int a),some (.int top),some (.bool tools),some ev,some la,some du,some (.list (L++[bD (1 + c % 4,mM (c / 4 % 5))])),some (.int (0 + (i:Int))),some (.int c)]:=by
    unfold lg
    simp only [List.getElem?_cons_succ,List.getElem?_cons_zero]
    simp only [mX,qV,aH,aS,cL,aQ (show 9 ∉ [7] by decide),aw,ay,eo,Rs.aj,fz,Rs.ao,Ht,EN,if_pos (show (0:Int) < 4 by decide),if_pos (show (0:Int) < 5 by decide),if_pos (show (0:Int) < 4∧(4:Int) < 1073741824 by decide),CZ,t5,aA,if_pos (show L.length < 1000000 by omega)]
    rfl
  rw [aZ,s1]
  simp only
  rw [aZ,s2]
  simp only
  cases tools with
  | true =>
    rw [hp]
    simp
  | false =>
    rw [hp]
    have hl:atI (L++[bD (1 + c % 4,mM (c / 4 % 5))]) (-1)=some (bD (1 + c % 4,mM (c / 4 % 5))):=by rw [mi]; simp
    have hx:ixN (L++[bD (1 + c % 4,mM (c / 4 % 5))]).length (-1)=some L.length:=by
      unfold ixN
      rw [if_neg (by decide),List.length_append,List.length_singleton,if_pos (by omega)]
      congr 1; omega
    have hs:(L++[bD (1 + c % 4,mM (c / 4 % 5))]).set L.length (.tuple [.int (1 + c % 4),.none])=L++[bD (1 + c % 4,none)]:=by
      rw [List.set_append_right _ _ (Nat.le_refl _)]; simp; rfl
    have nl:i5 (.tuple [.int (1 + c % 4),.none])=true:=yf (1 + c % 4,none)
    rw [fu]
    simp only [zh,gZ,aw,ay,Rs.aj,b9,aA,Bool.not_false,if_true]
    unfold Bl
    simp only [List.getElem?_cons_succ,List.getElem?_cons_zero,mX,aH,aS,cL,rT,aw,ay,eo,Rs.aj,Cy,Rs.ao,CZ,hl,B9,aA,hx,nl,if_true,hs]
    rfl
end RS
set_option maxRecDepth 100000
set_option maxHeartbeats 1000000
namespace RS
open PySem L2
theorem ju {j:Int} (h0:0≤j) (h1:j < 1000000):Dr [.int j]=.ok (cx 0 j.toNat):=by
  show (if _ then _ else _)=_
  rw [if_pos (by omega)]
theorem i9 {lo:Int} {n i:Nat} {d:PyData} (h:(cx lo n)[i]?=some d):i < n∧d=.int (lo + (i:Int)):=by
  have hi:=(List.getElem?_eq_some_iff.mp h).1
  rw [eW] at hi
  unfold cx at h
  rw [List.getElem?_map,List.getElem?_range hi] at h
  exact ⟨hi,(Option.some.inj h).symm⟩
theorem sO {α:Type} (n:Nat) (g:Nat→α):(List.range (n + 1)).map g=(List.range n).map g++[g n]:=by rw [List.range_succ,List.map_append]; rfl
theorem B2 {f:PyData→Int→Int→Bool→Rs PyData} {ds:List PyData} (h:(match ds with | [x0,.int x1,.int x2,.bool x3]=>f x0 x1 x2 x3 | _=>.no)≠.no):∃ x0 x1 x2 x3,ds=[x0,.int x1,.int x2,.bool x3]∧f x0 x1 x2 x3≠.no:=by
  rcases ds with _ | ⟨x0,_ | ⟨x1,_ | ⟨x2,_ | ⟨x3,_ | ⟨y,ys⟩⟩⟩⟩⟩
  · exact absurd rfl h
  · exact absurd rfl h
  · first | exact absurd rfl h | (cases x1 <;> exact absurd rfl h)
  · first | exact absurd rfl h | (cases x1 <;> first | exact absurd rfl h | (cases x2 <;> exact absurd rfl h))
  · skip
    cases x1 with
    | int x1 =>
      cases x2 with
      | int x2 =>
        cases x3 with
        | bool x3 =>
          exact ⟨_,_,_,_,rfl,h⟩
        | _=>exact absurd rfl h
      | _=>first | exact absurd rfl h | (cases x3 <;> exact absurd rfl h)
    | _=>first | exact absurd rfl h | (cases x2 <;> first | exact absurd rfl h | (cases x3 <;> exact absurd rfl h))
  · first | exact absurd rfl h | (cases x1 <;> first | exact absurd rfl h | (cases x2 <;> first | exact absurd rfl h | (cases x3 <;> exact absurd rfl h)))
theorem vU (cs:Cs):∀ ds,ds.length=4→b3 ds≠.no→a7 (gG cs av (ds.map some++List.replicate 6 none))=b3 ds:=by
  intro ds hl hne
  obtain ⟨s,a,top,tools,ez,hz⟩:=B2 hne
  clear hne; subst ez; have hne:=hz; clear hz
  · skip
    split at hne
    · rename_i ns hs
      have es:s=aE ns:=by
        unfold gw at hs
        split at hs
        · rename_i l
          rw [cI hs]; rfl
        · cases hs
      subst es
      split at hne
      · rename_i hc
        obtain ⟨ha,ht,ht2⟩:=hc
        rw [ka ha ht ht2]
        show a7 (gG cs av [some (aE ns),some (.int a),some (.int top),some (.bool tools),none,none,none,none,none,none])=_
        have hm:∀ k many:Int,0≤k→0 < many→av [aE ns,.int k,.int many]=.ok (.int (mixed ns k many)):=fun k many h1 h2=>eG h1 h2
        have a1:=dN ns a ht
        have lb:=wN ns a (3 + mixed ns a top) (by omega)
        have b1:=dN ns (a + 1) (many:=4) (by decide)
        have b2:=dW ns (a + 1) (many:=4) (by decide)
        have n1:=dN ns (a + 3) (many:=3) (by decide)
        have n2:=dW ns (a + 3) (many:=3) (by decide)
        have c1:=dN ns (a + 6) (many:=3) (by decide)
        have c2:=dW ns (a + 6) (many:=3) (by decide)
        -- every
        have s1:bh [7] 4 (g2 br (gC (.int 3)) (ax av (af (ag 0) (af (ag 1) (af (ag 2) ak))))) [some (aE ns),some (.int a),some (.int top),some (.bool tools),none,none,none,none,none,none]
           =.nx [some (aE ns),some (.int a),some (.int top),some (.bool tools),some (.int (3 + mixed ns a top)),none,none,none,none,none]:=by
          rw [gW,if_pos (by simp)]
          simp only [bb,aH,aS,cL,aQ (show 0 ∉ [7] by decide),aQ (show 1 ∉ [7] by decide),aQ (show 2 ∉ [7] by decide),aw,ay,eo,Rs.aj,hm a top ha ht,fz,Rs.ao,aA]
          rfl
        generalize hev:3 + mixed ns a top=ev at *
        have evp:3≤ev:=by omega
        have s2:bh [7] 5 (g2 qS (ax av (af (ag 0) (af (g2 br (ag 1) (gC (.int 1))) (af (gC (.int 4)) ak)))) (gF AW (af (g2 dEq (ax av (af (ag 0) (af (g2 br (ag 1) (gC (.int 2))) (af (gC (.int 3)) ak)))) (gC (.int 0))) ak))) [some (aE ns),some (.int a),some (.int top),some (.bool tools),some (.int ev),none,none,none,none,none]
           =.nx [some (aE ns),some (.int a),some (.int top),some (.bool tools),some (.int ev),some (.int (mixed ns (a + 1) 4 * (if mixed ns (a + 2) 3=0 then 1 else 0))),none,none,none,none]:=by
          rw [gW,if_pos (by simp)]
          simp only [bb,aH,aS,cL,j6,aQ (show 0 ∉ [7] by decide),aQ (show 1 ∉ [7] by decide),aw,ay,eo,Rs.aj,fz,Rs.ao,hm (a + 1) 4 (by omega) (by decide),hm (a + 2) 3 (by omega) (by decide),nO,GA]
          rw [xX (by omega) (by omega)]
          simp only [Rs.ao,aA,beq_iff_eq]
          rfl
        have s3:bh [7] 5 (gF rQ (af (ag 5) (af (g2 k6 (ag 4) (gC (.int 1))) ak))) [some (aE ns),some (.int a),some (.int top),some (.bool tools),some (.int ev),some (.int (mixed ns (a + 1) 4 * (if mixed ns (a + 2) 3=0 then 1 else 0))),none,none,none,none]
           =.nx [some (aE ns),some (.int a),some (.int top),some (.bool tools),some (.int ev),some (.int (jF ns a ev)),none,none,none,none]:=by
          rw [gW,if_pos (by simp)]
          simp only [j6,aH,aS,cL,aQ (show 4 ∉ [7] by decide),aQ (show 5 ∉ [7] by decide),aw,ay,eo,Rs.aj,ug,Rs.ao,F7,aA]
          rfl
        generalize hla:jF ns a ev=la at *
        have s4:bh [7] 6 (g2 k6 (ag 4) (ag 5)) [some (aE ns),some (.int a),some (.int top),some (.bool tools),some (.int ev),some (.int la),none,none,none,none]
           =.nx [some (aE ns),some (.int a),some (.int top),some (.bool tools),some (.int ev),some (.int la),some (.int (ev - la)),none,none,none]:=by
          rw [gW,if_pos (by simp)]
          simp only [cL,aQ (show 4 ∉ [7] by decide),aQ (show 5 ∉ [7] by decide),aw,ay,Rs.aj,ug,Rs.ao,aA]
          rfl
        have s5:sIf (gT (g2 dEq (ax av (af (ag 0) (af (g2 br (ag 1) (gC (.int 1))) (af (gC (.int 3)) ak)))) (gC (.int 0)))) (bh [7] 6 (g2 k6 (ag 6) (ax av (af (ag 0) (af (g2 br (ag 1) (gC (.int 2))) (af (ag 6) ak)))))) bS
              [some (aE ns),some (.int a),some (.int top),some (.bool tools),some (.int ev),some (.int la),some (.int (ev - la)),none,none,none]
           =.nx [some (aE ns),some (.int a),some (.int top),some (.bool tools),some (.int ev),some (.int la),some (.int (pS ns a (ev - la))),none,none,none]:=by
          rw [fu]
          simp only [gZ,cL,bb,aH,aS,aw,ay,eo,Rs.aj,fz,Rs.ao,hm (a + 1) 3 (by omega) (by decide),nO,b9,aA]
          by_cases z:mixed ns (a + 1) 3=0
          · rw [if_pos (by simp [z]),gW,if_pos (by simp)]
            simp only [bb,aH,aS,cL,aQ (show 0 ∉ [7] by decide),aQ (show 1 ∉ [7] by decide),aQ (show 6 ∉ [7] by decide),aw,ay,eo,Rs.aj,fz,Rs.ao,hm (a + 2) (ev - la) (by omega) (by omega),ug,aA]
            unfold pS
            rw [if_pos z]
            rfl
          · rw [if_neg (by simp [z])]
            unfold pS
            rw [if_neg z]
            rfl
        generalize hdu:pS ns a (ev - la)=du at *
        have s6:k7 [7] 7 ak [some (aE ns),some (.int a),some (.int top),some (.bool tools),some (.int ev),some (.int la),some (.int du),none,none,none]
           =.nx [some (aE ns),some (.int a),some (.int top),some (.bool tools),some (.int ev),some (.int la),some (.int du),some (.list []),none,none]:=rfl
        have src:eO (af (ax av (af (ag 0) (af (g2 br (ag 1) (gC (.int 3))) (af (gC (.int 3)) ak)))) ak) (mask [7] [some (aE ns),some (.int a),some (.int top),some (.bool tools),some (.int ev),some (.int la),some (.int du),some (.list []),none,none])=.ok (cx 0 (mixed ns (a + 3) 3).toNat):=by
          simp only [jm,bb,aH,aS,cL,aQ (show 0 ∉ [7] by decide),aQ (show 1 ∉ [7] by decide),aw,ay,eo,Rs.aj,fz,Rs.ao,hm (a + 3) 3 (by omega) (by decide)]
          exact ju n1 (by omega)
        obtain ⟨δ',e,x8,x9,hδ⟩:=iU (β:=Unit) (tgt:=cQ 8) (body:=bf (bh [7] 9 (ax av (af (ag 0) (af (g2 br (g2 br (ag 1) (gC (.int 4))) (ag 8)) (af (gC (.int 40)) ak)))))
    (bf (lg [7] 7 (iY (af (g2 br (gC (.int 1)) (g2 tF (ag 9) (gC (.int 4)))) (af (g2 dIx (ic (af (gC (.int 0)) (af (gC (.int 1)) (af (gC (.int 1)) (af (gC (.int 0)) (af (gC .none) ak)))))) (g2 tF (g2 yi (ag 9) (gC (.int 4))) (gC (.int 5)))) ak))))
    (sIf (j4 (gT (ag 3))) (Bl 7 (g1 nJ (gC (.int 1))) (iY (af (g2 dIx (g2 dIx (ag 7) (g1 nJ (gC (.int 1)))) (gC (.int 0))) (af (gC .none) ak)))) bS)))
          (fun i δ=>∃ x8 x9,δ=[some (aE ns),some (.int a),some (.int top),some (.bool tools),some (.int ev),some (.int la),some (.int du),some (.list ((List.range i).map fun (k:Nat)=>bD (fK ns (a + 4 + (k:Int)) tools))),x8,x9])
          (cx 0 (mixed ns (a + 3) 3).toNat) 0 (fun i d δ hi pz4=>by
            obtain ⟨x8,x9,hx⟩:=pz4
            subst hx
            rw [Nat.zero_add] at *
            obtain ⟨hil,rfl⟩:=i9 hi
            refine ⟨[some (aE ns),some (.int a),some (.int top),some (.bool tools),some (.int ev),some (.int la),some (.int du),some (.list ((List.range i).map fun (k:Nat)=>bD (fK ns (a + 4 + (k:Int)) tools))),some (.int (0 + (i:Int))),x9],_,rfl,xD ns a top tools (.int ev) (.int la) (.int du) ha _ (by simp; omega) i none x9,some (.int (0 + (i:Int))),some (.int (mixed ns (a + 4 + (0 + (i:Int))) 40)),?_⟩
            rw [sO]) [some (aE ns),some (.int a),some (.int top),some (.bool tools),some (.int ev),some (.int la),some (.int du),some (.list []),none,none] ⟨none,none,rfl⟩
        subst hδ
        rw [Nat.zero_add,eW] at e
        have hd:(mkE ns a top tools).d=.tuple [.int ev,.int du,.int la,.tuple (((List.range (mixed ns (a + 3) 3).toNat).map fun (k:Nat)=>bD (fK ns (a + 4 + (k:Int)) tools))++[bD (1 + mixed ns (a + 6) 3,none)])]:=by
          simp only [mkE,Er.d,List.map_append,List.map_map,hev,hla,hdu]
          rfl
        rw [hd]
        simp only [gG]
        rw [aZ,s1]; simp only
        rw [aZ,s2]; simp only
        rw [aZ,s3]; simp only
        rw [aZ,s4]; simp only
        rw [aZ,s5]; simp only
        rw [aZ,s6]; simp only
        rw [aZ,iC,src,aA,e]; simp only
        simp only [cp,mX,qV,aH,aS,cL,j6,bb,aw,ay,eo,Rs.aj,fz,Rs.ao,hm (a + 6) 3 (by omega) (by decide)]
        have hcat:br (.list ((List.range (mixed ns (a + 3) 3).toNat).map fun (k:Nat)=>bD (fK ns (a + 4 + (k:Int)) tools))) (.list [.tuple [.int (1 + mixed ns (a + 6) 3),.none]])=some (.list (((List.range (mixed ns (a + 3) 3).toNat).map fun (k:Nat)=>bD (fK ns (a + 4 + (k:Int)) tools))++[bD (1 + mixed ns (a + 6) 3,none)])):=by
          show (if _ then _ else _)=_
          rw [if_pos (by simp; omega)]
          rfl
        rw [hcat]
        simp
      · exact absurd rfl hne
    · exact absurd rfl hne
noncomputable def bw:Gf
  | [s,.int a,.int most,.int top,.bool tools]=>(match gw s with
    | some ns=>if 0≤a∧0 < most∧most≤6∧0 < top∧top≤58 then .ok (aq (qf ns a most top tools)) else .no
    | none=>.no)
  | _=>.no
theorem jx {ns:List Int} {a most top:Int} {tools:Bool} (h1:0≤a) (h2:0 < most) (h3:most≤6) (h4:0 < top) (h5:top≤58):bw [aE ns,.int a,.int most,.int top,.bool tools]=.ok (aq (qf ns a most top tools)):=by
  unfold bw; simp [gQ,h1,h2,h3,h4,h5]
theorem jB {s:PyData} {ns:List Int} (hs:gw s=some ns):s=aE ns:=by
  unfold gw at hs
  split at hs
  · rename_i l
    rw [cI hs]; rfl
  · cases hs
theorem AK {f:PyData→Int→Int→Int→Bool→Rs PyData} {ds:List PyData} (h:(match ds with | [x0,.int x1,.int x2,.int x3,.bool x4]=>f x0 x1 x2 x3 x4 | _=>.no)≠.no):∃ x0 x1 x2 x3 x4,ds=[x0,.int x1,.int x2,.int x3,.bool x4]∧f x0 x1 x2 x3 x4≠.no:=by
  rcases ds with _ | ⟨x0,_ | ⟨x1,_ | ⟨x2,_ | ⟨x3,_ | ⟨x4,_ | ⟨y,ys⟩⟩⟩⟩⟩⟩
  · exact absurd rfl h
  · exact absurd rfl h
  · first | exact absurd rfl h | (cases x1 <;> exact absurd rfl h)
  · first | exact absurd rfl h | (cases x1 <;> first | exact absurd rfl h | (cases x2 <;> exact absurd rfl h))
  · first | exact absurd rfl h | (cases x1 <;> first | exact absurd rfl h | (cases x2 <;> first | exact absurd rfl h | (cases x3 <;> exact absurd rfl h)))
  · skip
    cases x1 with
    | int x1 =>
      cases x2 with
      | int x2 =>
        cases x3 with
        | int x3 =>
          cases x4 with
          | bool x4 =>
            exact ⟨_,_,_,_,_,rfl,h⟩
          | _=>exact absurd rfl h
        | _=>first | exact absurd rfl h | (cases x4 <;> exact absurd rfl h)
      | _=>first | exact absurd rfl h | (cases x3 <;> first | exact absurd rfl h | (cases x4 <;> exact absurd rfl h))
    | _=>first | exact absurd rfl h | (cases x2 <;> first | exact absurd rfl h | (cases x3 <;> first | exact absurd rfl h | (cases x4 <;> exact absurd rfl h)))
  · first | exact absurd rfl h | (cases x1 <;> first | exact absurd rfl h | (cases x2 <;> first | exact absurd rfl h | (cases x3 <;> first | exact absurd rfl h | (cases x4 <;> exact absurd rfl h))))
theorem sW (cs:Cs):∀ ds,ds.length=5→bw ds≠.no→a7 (fD cs b3 av (ds.map some++List.replicate 1 none))=bw ds:=by
  intro ds hl hne
  obtain ⟨s,a,most,top,tools,ez,hz⟩:=AK hne
  clear hne; subst ez; have hne:=hz; clear hz
  · skip
    split at hne
    · rename_i ns hs
      have es:=jB hs
      subst es
      split at hne
      · rename_i hc
        obtain ⟨ha,hm1,hm2,ht,ht2⟩:=hc
        rw [jx ha hm1 hm2 ht ht2]
        have hm:=eG (ns:=ns) ha hm1
        have m1:=dN ns a hm1
        have m2:=dW ns a hm1
        have hcm:bX 6 (eO (af (ag 5) ak)) bV (ax b3 (af (ag 0) (af (g2 br (g2 br (ag 1) (gC (.int 1))) (g2 qS (gC (.int 7)) (ag 6))) (af (ag 3) (af (ag 4) ak))))) bx
            [some (aE ns),some (.int a),some (.int most),some (.int top),some (.bool tools),some (.int (1 + mixed ns a most))]=.ok ((cx 0 (1 + mixed ns a most).toNat).map fun d=>(mkE ns (a + 1 + 7 * deI d) top tools).d) :=
          cK rfl (by simp only [jm,aH,aS,aw,ay,Rs.aj]; exact ju (by omega) (by omega)) (by rw [eW]; omega) fun d hd=>by
            obtain ⟨i,hi⟩:=List.getElem?_of_mem hd
            obtain ⟨_,rfl⟩:=i9 hi
            simp only [List.cons_append,List.nil_append,bb,aH,aS,cL,aw,ay,eo,Rs.aj,fz,Rs.ao]
            rw [xX (by decide) (by decide)]
            simp only [Rs.ao,Rs.aj,fz]
            exact ka (by omega) ht ht2
        have hds:aq (qf ns a most top tools)=.tuple ((cx 0 (1 + mixed ns a most).toNat).map fun d=>(mkE ns (a + 1 + 7 * deI d) top tools).d):=by
          unfold aq qf cx
          rw [List.map_map,List.map_map]
          congr 1
          refine List.map_congr_left fun k _=>?_
          simp [deI]
        rw [hds]
        show a7 (fD cs b3 av [some (aE ns),some (.int a),some (.int most),some (.int top),some (.bool tools),none])=_
        simp only [fD,aZ,df,List.length_cons,List.length_nil,Nat.reduceAdd,Nat.reduceLT,if_true,bb,aH,aS,cL,aw,ay,eo,Rs.aj,hm,fz,Rs.ao,aA,List.set_cons_succ,List.set_cons_zero,cp,j6,nU,hcm,vN,bR]
      · exact absurd rfl hne
    · exact absurd rfl hne
end RS
set_option maxRecDepth 100000
set_option maxHeartbeats 1000000
namespace RS
open PySem L2
noncomputable def bc:Gf
  | [d,.int t]=>if vh d then .ok (.bool ((deE d).has t)) else .no
  | _=>.no
theorem fV {e:Er} {t:Int} (h:e.Sh):bc [e.d,.int t]=.ok (.bool (e.has t)):=by unfold bc; simp [oa h,zr]
theorem wU (t:Int):∀ ps:List (Int × Option Int),inD (.int t) ((ps.map bD).map fun d=>cB (c8 d).2)=ps.any fun p=>p.2 == some t
  | []=>rfl
  | p::r=>by
    have h1:eqV (toV (cB p.2)) (.int t)=(p.2 == some t):=by
      rcases hp:p.2 with _ | z
      · rfl
      · show (z == t)=(some z == some t)
        simp
    have:=wU t r
    unfold inD inV at this ⊢
    rw [List.map_cons,List.map_cons,List.map_cons,List.any_cons,List.any_cons,this,lz]
    show (eqV (toV (cB p.2)) (.int t) || _)=_
    rw [h1]
theorem AV (ps:List (Int × Option Int)):((ps.map bD).map fun d=>cB (c8 d).2).all gP=true:=by
  rw [List.all_eq_true]; intro d hd; obtain ⟨n,_,rfl⟩:=List.mem_map.mp hd; cases (c8 n).2 <;> rfl
theorem vo {f:PyData→Int→Rs PyData} {ds:List PyData} (h:(match ds with | [x0,.int x1]=>f x0 x1 | _=>.no)≠.no):∃ x0 x1,ds=[x0,.int x1]∧f x0 x1≠.no:=by
  rcases ds with _ | ⟨x0,_ | ⟨x1,_ | ⟨y,ys⟩⟩⟩
  · exact absurd rfl h
  · exact absurd rfl h
  · skip
    cases x1 with
    | int x1 =>
      exact ⟨_,_,rfl,h⟩
    | _=>exact absurd rfl h
  · first | exact absurd rfl h | (cases x1 <;> exact absurd rfl h)
theorem xV (cs:Cs):∀ ds,ds.length=2→bc ds≠.no→a7 (jj cs (ds.map some++List.replicate 0 none))=bc ds:=by
  intro ds hl hne
  obtain ⟨d,t,ez,hz⟩:=vo hne
  clear hne; subst ez; have hne:=hz; clear hz
  · skip
    split at hne
    · rename_i hd
      obtain ⟨e1,sh⟩:=tL hd
      rw [← e1]
      generalize deE d=e at sh
      rw [fV sh]
      have hc:bX 2 (dR (g2 dIx (ag 0) (gC (.int 3)))) bV (g2 dIx (ag 2) (gC (.int 1))) bx [some e.d,some (.int t)]=.ok ((e.parts.map bD).map fun d=>cB (c8 d).2) :=
        cK rfl (by simp [FW]) (by have:=sh.pn; simp; omega) fun d hd'=>by
          obtain ⟨p,hp,rfl⟩:=List.mem_map.mp hd'
          simp [CQ,lz]
      have hi:lP false (.int t) (.list ((e.parts.map bD).map fun d=>cB (c8 d).2))=some (.bool (e.has t)):=by
        show (if (gP (.int t) && _)=true then some (PyData.bool (if false=true then _ else inD _ _)) else none)=_
        rw [AV,wU]; rfl
      show a7 (jj cs [some e.d,some (.int t)])=_
      simp only [jj,cp,cL,aw,ay,nU,hc,Rs.aj,hi,Rs.ao,aA,bR]
    · exact absurd rfl hne
noncomputable def cV:Gf
  | [d,r,.int t]=>if qZ d && eE (b8 d).length r then .ok (cB (b6 (b8 d) (cy r) t)) else .no
  | _=>.no
theorem nA {es:List Er} {rs:List Int} {t:Int} (h1:es.length≤100) (h:∀ e∈es,e.Sh) (hr:bj es.length rs):cV [aq es,au rs,.int t]=.ok (cB (b6 es rs t)):=by
  unfold cV; simp [rM h1 h,cC,hU hr,dP]
theorem pV (es:List Er) (hsh:∀ e∈es,e.Sh) (R:PyData) (t:Int):∀ (rs:List Int) (k:Nat) (x3 x4:Option PyData),(∀ m∈rs,0≤m∧m < es.length) →
    (∃ i,hts es rs k t=some i∧forL (fj [3,4]) (sIf (gT (ax bc (af (g2 dIx (ag 0) (ag 4)) (af (ag 2) ak)))) (bM (ag 3)) bS) ((rs.map PyData.int).mapIdx fun i d=>.tuple [.int ((k + i:Nat):Int),d]) [some (aq es),some R,some (.int t),x3,x4]=.rt (.int i))
   ∨(hts es rs k t=none∧∃ δ,forL (fj [3,4]) (sIf (gT (ax bc (af (g2 dIx (ag 0) (ag 4)) (af (ag 2) ak)))) (bM (ag 3)) bS) ((rs.map PyData.int).mapIdx fun i d=>.tuple [.int ((k + i:Nat):Int),d]) [some (aq es),some R,some (.int t),x3,x4]=.nx δ)
  | [],k,x3,x4,_=>.inr ⟨rfl,_,rfl⟩
  | m::r,k,x3,x4,hm=>by
    have h0:=hm m List.mem_cons_self
    have a2:atI (es.map Er.d) m=some (az es m).d:=ia h0.1 h0.2
    have ht:=fV (t:=t) (hsh _ (bJ h0.1 h0.2))
    rw [List.map_cons,List.mapIdx_cons]
    unfold forL
    have e1:fj [3,4] (PyData.tuple [.int ((k + 0:Nat):Int),.int m]) [some (aq es),some R,some (.int t),x3,x4]=some [some (aq es),some R,some (.int t),some (.int (k:Int)),some (.int m)]:=rfl
    rw [e1]
    simp only [fu,gZ,bb,aH,aS,cL,aw,ay,Rs.aj,aq,zT,a2,Rs.ao,ht,b9,aA,cp,ib]
    unfold hts
    cases hh:(az es m).has t with
    | true=>exact .inl ⟨k,rfl,rfl⟩
    | false =>
      simp only [Bool.false_eq_true,if_false]
      have ih:=pV es hsh R t r (k + 1) (some (.int (k:Int))) (some (.int m)) (fun x hx=>hm x (List.mem_cons_of_mem _ hx))
      rw [show ((k + 1:Nat):Int)=(k:Int) + 1 by omega] at ih
      have ef:(fun (i:Nat) (d:PyData)=>PyData.tuple [.int ((k + (i + 1):Nat):Int),d])=fun i d=>.tuple [.int ((k + 1 + i:Nat):Int),d]:=by
        funext i d; rw [show k + (i + 1)=k + 1 + i by omega]
      rw [ef]
      exact ih
theorem iJ {f:PyData→PyData→Int→Rs PyData} {ds:List PyData} (h:(match ds with | [x0,x1,.int x2]=>f x0 x1 x2 | _=>.no)≠.no):∃ x0 x1 x2,ds=[x0,x1,.int x2]∧f x0 x1 x2≠.no:=by
  rcases ds with _ | ⟨x0,_ | ⟨x1,_ | ⟨x2,_ | ⟨y,ys⟩⟩⟩⟩
  · exact absurd rfl h
  · exact absurd rfl h
  · exact absurd rfl h
  · skip
    cases x2 with
    | int x2 =>
      exact ⟨_,_,_,rfl,h⟩
    | _=>exact absurd rfl h
  · first | exact absurd rfl h | (cases x2 <;> exact absurd rfl h)
theorem Dc (cs:Cs):∀ ds,ds.length=3→cV ds≠.no→a7 (lR cs bc (ds.map some++List.replicate 2 none))=cV ds:=by
  intro ds hl hne
  obtain ⟨d,r,t,ez,hz⟩:=iJ hne
  clear hne; subst ez; have hne:=hz; clear hz
  · skip
    split at hne
    · rename_i hc
      simp only [Bool.and_eq_true] at hc
      obtain ⟨c1,c2⟩:=hc
      obtain ⟨e1,hlen,hsh⟩:=zg c1
      obtain ⟨e2,hr⟩:=lr c2
      rw [← e1,← e2]
      generalize b8 d=es at *
      generalize cy r=rs at *
      rw [nA hlen hsh hr]
      have loop:=pV es hsh (au rs) t rs 0 none none hr.rng
      show a7 (lR cs bc [some (aq es),some (au rs),some (.int t),none,none])=_
      have src:lM (af (ag 1) ak) [some (aq es),some (au rs),some (.int t),none,none]=.ok ((rs.map PyData.int).mapIdx fun i d=>.tuple [.int ((0 + i:Nat):Int),d]):=by
        simp only [uZ,aH,aS,aw,ay,Rs.aj,au,zV,iw,Nat.zero_add]
      simp only [lR]
      rw [aZ,iC,ig,src,aA]
      unfold b6
      rcases loop with ⟨i,q1,q2⟩ | ⟨q1,δ,q2⟩
      · rw [q2]
        have q1:hts es rs 0 t=some i:=q1
        rw [q1]; rfl
      · rw [q2]
        have q1:hts es rs 0 t=none:=q1
        rw [q1]; rfl
    · exact absurd rfl hne
noncomputable def dB (es:List Er) (rs:List Int):PyData:=.list ((List.range 4).map fun (t:Nat)=>cB (b6 es rs t))
noncomputable def b4:Gf
  | [d,r]=>if qZ d && eE (b8 d).length r then .ok (dB (b8 d) (cy r)) else .no
  | _=>.no
theorem jS {es:List Er} {rs:List Int} (h1:es.length≤100) (h:∀ e∈es,e.Sh) (hr:bj es.length rs):b4 [aq es,au rs]=.ok (dB es rs):=by
  unfold b4; simp [rM h1 h,cC,hU hr,dP]
theorem yg {f:PyData→PyData→Rs PyData} {ds:List PyData} (h:(match ds with | [x0,x1]=>f x0 x1 | _=>.no)≠.no):∃ x0 x1,ds=[x0,x1]∧f x0 x1≠.no:=by
  rcases ds with _ | ⟨x0,_ | ⟨x1,_ | ⟨y,ys⟩⟩⟩
  · exact absurd rfl h
  · exact absurd rfl h
  · skip
    exact ⟨_,_,rfl,h⟩
  · exact absurd rfl h
theorem vO (cs:Cs):∀ ds,ds.length=2→b4 ds≠.no→a7 (fY cs cV (ds.map some++List.replicate 0 none))=b4 ds:=by
  intro ds hl hne
  obtain ⟨d,r,ez,hz⟩:=yg hne
  clear hne; subst ez; have hne:=hz; clear hz
  · skip
    split at hne
    · rename_i hc
      simp only [Bool.and_eq_true] at hc
      obtain ⟨c1,c2⟩:=hc
      obtain ⟨e1,hlen,hsh⟩:=zg c1
      obtain ⟨e2,hr⟩:=lr c2
      rw [← e1,← e2]
      generalize b8 d=es at *
      generalize cy r=rs at *
      rw [jS hlen hsh hr]
      have hh:∀ t:Int,cV [aq es,au rs,.int t]=.ok (cB (b6 es rs t)):=fun t=>nA hlen hsh hr
      have hcm:bX 2 (eO (af (gC (.int 4)) ak)) bV (ax cV (af (ag 0) (af (ag 1) (af (ag 2) ak)))) bx [some (aq es),some (au rs)]=.ok ((cx 0 (4:Int).toNat).map fun x=>cB (b6 es rs (deI x))) :=
        cK rfl (by simp only [jm,aH,aS,eo,Rs.aj]; exact ju (by decide) (by decide)) (by rw [eW]; decide) fun x hx=>by
          obtain ⟨i,hi⟩:=List.getElem?_of_mem hx
          obtain ⟨_,rfl⟩:=i9 hi
          simp only [List.cons_append,List.nil_append,bb,aH,aS,aw,ay,Rs.aj,hh]
          rfl
      have hd:dB es rs=.list ((cx 0 (4:Int).toNat).map fun x=>cB (b6 es rs (deI x))):=by
        unfold dB cx
        rw [List.map_map]
        congr 1
        try exact List.map_congr_left fun k _=>by simp [deI]
      rw [hd]
      show a7 (fY cs cV [some (aq es),some (au rs)])=_
      simp only [fY,cp,nU,hcm,Rs.aj,aA,bR]
    · exact absurd rfl hne
end RS
set_option maxRecDepth 100000
set_option maxHeartbeats 1000000
namespace RS
open PySem L2
noncomputable def eL (ns:List Int) (a:Int) (many:Nat):Nat→List Int × List Int
  | 0=>((List.range many).map fun (i:Nat)=>(i:Int),[])
  | i + 1=>((eL ns a many i).1.eraseIdx (mixed ns (a + (i:Int)) ((eL ns a many i).1.length:Int)).toNat,(eL ns a many i).2++[(eL ns a many i).1.getD (mixed ns (a + (i:Int)) ((eL ns a many i).1.length:Int)).toNat 0])
noncomputable def ma (ns:List Int) (a:Int) (many:Nat):List Int:=(eL ns a many many).2
theorem sS {α:Type}:∀ (l:List α) (j:Nat) (h:j < l.length),(l[j]::l.eraseIdx j).Perm l
  | [],j,h=>by simp at h
  | x::r,0,h=>by simp
  | x::r,j + 1,h=>by
    simp only [List.getElem_cons_succ,List.eraseIdx_cons_succ]
    have h':j < r.length:=by simpa using h
    exact (List.Perm.swap _ _ _).trans ((sS r j h').cons x)
theorem ue {α β:Type} (f:α→β):∀ (l:List α) (j:Nat),(l.map f).eraseIdx j=(l.eraseIdx j).map f
  | [],j=>by simp
  | x::r,0=>by simp
  | x::r,j + 1=>by simp [ue f r j]
theorem sP (ns:List Int) (a:Int) (many:Nat):∀ i,i≤many→(eL ns a many i).1.length=many - i∧(eL ns a many i).2.length=i∧((eL ns a many i).1++(eL ns a many i).2).Perm ((List.range many).map fun (i:Nat)=>(i:Int))
  | 0,_=>⟨by simp [eL],rfl,by simp [eL]⟩
  | i + 1,h=>by
    obtain ⟨h1,h2,h3⟩:=sP ns a many i (by omega)
    simp only [eL]
    generalize (eL ns a many i).1=L at *
    generalize (eL ns a many i).2=M at *
    have hL:0 < (L.length:Int):=by omega
    have m0:=dN ns (a + (i:Int)) hL
    have m1:=dW ns (a + (i:Int)) hL
    generalize mixed ns (a + (i:Int)) (L.length:Int)=z at *
    have hz:z.toNat < L.length:=by omega
    refine ⟨by rw [List.length_eraseIdx_of_lt hz]; omega,by simp [h2],?_⟩
    refine List.Perm.trans ?_ h3
    rw [List.getD_eq_getElem?_getD,List.getElem?_eq_getElem hz,Option.getD_some]
    have p1:(L[z.toNat]::L.eraseIdx z.toNat).Perm L:=sS L z.toNat hz
    have p2:(L.eraseIdx z.toNat++(M++[L[z.toNat]])).Perm ((L[z.toNat]::L.eraseIdx z.toNat)++M):=by
      rw [← List.append_assoc]
      exact (List.perm_append_singleton _ _)
    exact p2.trans (p1.append_right M)
theorem rP (ns:List Int) (a:Int) (many:Nat):bj many (ma ns a many):=by
  obtain ⟨h1,h2,h3⟩:=sP ns a many many (Nat.le_refl _)
  unfold ma
  have e:(eL ns a many many).1=[]:=List.length_eq_zero_iff.mp (by omega)
  rw [e,List.nil_append] at h3
  refine ⟨h2,fun r hr=>?_,h3.nodup_iff.mpr ?_⟩
  · obtain ⟨k,hk,rfl⟩:=List.mem_map.mp (h3.mem_iff.mp hr)
    have:=List.mem_range.mp hk
    omega
  · exact (List.nodup_range).map (f:=fun (i:Nat)=>(i:Int)) fun x y h=>by
      intro q; have q:(x:Int)=(y:Int):=q; exact h (by omega)
noncomputable def bH:Gf
  | [s,.int a,.int many]=>(match gw s with
    | some ns=>if 0≤a∧0≤many∧many≤100 then .ok (au (ma ns a many.toNat)) else .no
    | none=>.no)
  | _=>.no
theorem iz {ns:List Int} {a many:Int} (h1:0≤a) (h2:0≤many) (h3:many≤100):bH [aE ns,.int a,.int many]=.ok (au (ma ns a many.toNat)):=by
  unfold bH; simp [gQ,h1,h2,h3]
theorem AR (ns:List Int) (a:Int) (n i:Nat) (L M:List Int) (ha:0≤a) (hL:0 < (L.length:Int)) (hL2:L.length≤100) (hM:M.length≤100) :
    kK 4 3 (ax av (af (ag 0) (af (g2 br (ag 1) (ag 5)) (af (gF e8 (af (ag 3) ak)) ak)))) [some (aE ns),some (.int a),some (.int (n:Int)),some (.list (L.map .int)),some (.list (M.map .int)),some (.int (0 + (i:Int)))]
   =.nx [some (aE ns),some (.int a),some (.int (n:Int)),some (.list ((L.eraseIdx (mixed ns (a + (i:Int)) (L.length:Int)).toNat).map .int)),some (.list ((M++[L.getD (mixed ns (a + (i:Int)) (L.length:Int)).toNat 0]).map .int)),some (.int (0 + (i:Int)))]:=by
  have hm':=eG (ns:=ns) (k:=a + (0 + (i:Int))) (many:=(L.length:Int)) (by omega) hL
  have m0:=dN ns (a + (i:Int)) hL
  have m1:=dW ns (a + (i:Int)) hL
  rw [show a + (0 + (i:Int))=a + (i:Int) by omega] at hm'
  generalize mixed ns (a + (i:Int)) (L.length:Int)=z at *
  have hz:z.toNat < L.length:=by omega
  have hg:ax av (af (ag 0) (af (g2 br (ag 1) (ag 5)) (af (gF e8 (af (ag 3) ak)) ak))) [some (aE ns),some (.int a),some (.int (n:Int)),some (.list (L.map .int)),some (.list (M.map .int)),some (.int (0 + (i:Int)))]=.ok (.int z):=by
    simp only [bb,aH,aS,cL,j6,aw,ay,Rs.aj,fz,Rs.ao,vg,List.length_map]
    rw [show a + (0 + (i:Int))=a + (i:Int) by omega]
    exact hm'
  have hix:ixN (L.map PyData.int).length z=some z.toNat:=by
    unfold ixN
    rw [if_pos m0,if_pos (by rw [List.length_map]; omega)]
  have hat:(L.map PyData.int)[z.toNat]?=some (.int (L.getD z.toNat 0)):=by
    rw [List.getElem?_map,List.getElem?_eq_getElem hz,List.getD_eq_getElem?_getD,List.getElem?_eq_getElem hz]; rfl
  unfold kK
  simp only [List.getElem?_cons_succ,List.getElem?_cons_zero,hg,aA]
  rw [if_pos (by refine ⟨by omega,by omega,?_⟩; rw [List.length_map]; omega)]
  simp only [hix,hat,List.set_cons_succ,List.set_cons_zero,List.map_append,List.map_cons,List.map_nil]
  rw [ue]
theorem Bp (ns:List Int) (a:Int) (n i:Nat) (ha:0≤a) (hi:i < n) (hn:n≤100) :
    kK 4 3 (ax av (af (ag 0) (af (g2 br (ag 1) (ag 5)) (af (gF e8 (af (ag 3) ak)) ak)))) [some (aE ns),some (.int a),some (.int (n:Int)),some (.list ((eL ns a n i).1.map .int)),some (.list ((eL ns a n i).2.map .int)),some (.int (0 + (i:Int)))]
   =.nx [some (aE ns),some (.int a),some (.int (n:Int)),some (.list ((eL ns a n (i + 1)).1.map .int)),some (.list ((eL ns a n (i + 1)).2.map .int)),some (.int (0 + (i:Int)))]:=by
  obtain ⟨h1,h2,h3⟩:=sP ns a n i (by omega)
  simp only [eL]
  exact AR ns a n i _ _ ha (by omega) (by omega) (by omega)
theorem rk1 (ns:List Int) (a:Int) (n:Nat) (hm2:(n:Int)≤100):k7 [3,4] 3 (gLR (af (ag 2) ak)) [some (aE ns),some (.int a),some (.int (n:Int)),none,none,none]=.nx [some (aE ns),some (.int a),some (.int (n:Int)),some (.list ((eL ns a n 0).1.map .int)),none,none]:=by
  have hg:gLR (af (ag 2) ak) (mask [3,4] [some (aE ns),some (.int a),some (.int (n:Int)),none,none,none])=.ok (cx 0 n):=by
    simp only [Hs,aH,aS,aQ (show 2 ∉ [3,4] by decide),aw,ay,Rs.aj]
    unfold u7
    simp only
    rw [if_pos (by omega),Int.toNat_natCast]
  have he:(eL ns a n 0).1.map PyData.int=cx 0 n:=by
    simp only [eL,cx,List.map_map]
    refine List.map_congr_left fun k _=>?_
    simp
  rw [he]
  unfold k7
  rw [hg,if_pos (by simp)]; simp only [aA,List.set_cons_succ,List.set_cons_zero]
theorem rk2 (ns:List Int) (a:Int) (n:Nat):k7 [3,4] 4 ak [some (aE ns),some (.int a),some (.int (n:Int)),some (.list ((eL ns a n 0).1.map .int)),none,none]=.nx [some (aE ns),some (.int a),some (.int (n:Int)),some (.list ((eL ns a n 0).1.map .int)),some (.list ((eL ns a n 0).2.map .int)),none]:=by
  unfold k7
  rw [if_pos (by simp)]; simp only [aS,aA,List.set_cons_succ,List.set_cons_zero]
  rfl
theorem rk3 (ns:List Int) (a:Int) (n:Nat) (hm2:(n:Int)≤100):eO (af (ag 2) ak) (mask [3,4] [some (aE ns),some (.int a),some (.int (n:Int)),some (.list ((eL ns a n 0).1.map .int)),some (.list ((eL ns a n 0).2.map .int)),none])=.ok (cx 0 n):=by
  have hv:af (ag 2) ak (mask [3,4] [some (aE ns),some (.int a),some (.int (n:Int)),some (.list ((eL ns a n 0).1.map .int)),some (.list ((eL ns a n 0).2.map .int)),none])=.ok [.int (n:Int)]:=rfl
  have hr:=ju (j:=(n:Int)) (Int.natCast_nonneg n) (by omega)
  rw [Int.toNat_natCast] at hr
  rw [jm,hv,Rs.aj,hr]
theorem wI (cs:Cs):∀ ds,ds.length=3→bH ds≠.no→a7 (iu cs av (ds.map some++List.replicate 3 none))=bH ds:=by
  intro ds hl hne
  obtain ⟨s,a,many,ez,hz⟩:=n9 hne
  clear hne; subst ez; have hne:=hz; clear hz
  · skip
    split at hne
    · rename_i ns hs
      have es:=jB hs
      subst es
      split at hne
      · rename_i hc
        obtain ⟨ha,hm,hm2⟩:=hc
        rw [iz ha hm hm2]
        obtain ⟨n,rfl⟩:∃ n:Nat,many=(n:Int):=⟨many.toNat,by omega⟩
        rw [Int.toNat_natCast]
        show a7 (iu cs av [some (aE ns),some (.int a),some (.int (n:Int)),none,none,none])=_
        have s1:=rk1 ns a n hm2
        have s2:=rk2 ns a n
        have src:=rk3 ns a n hm2
        obtain ⟨δ',e,x5,hδ⟩:=iU (β:=Unit) (tgt:=cQ 5) (body:=kK 4 3 (ax av (af (ag 0) (af (g2 br (ag 1) (ag 5)) (af (gF e8 (af (ag 3) ak)) ak)))))
          (fun i δ=>∃ x5,δ=[some (aE ns),some (.int a),some (.int (n:Int)),some (.list ((eL ns a n i).1.map .int)),some (.list ((eL ns a n i).2.map .int)),x5])
          (cx 0 n) 0 (fun i d δ hi pz4=>by
            obtain ⟨x5,hx⟩:=pz4
            subst hx
            rw [Nat.zero_add] at *
            obtain ⟨hil,rfl⟩:=i9 hi
            refine ⟨[some (aE ns),some (.int a),some (.int (n:Int)),some (.list ((eL ns a n i).1.map .int)),some (.list ((eL ns a n i).2.map .int)),some (.int (0 + (i:Int)))],_,rfl,?_,some (.int (0 + (i:Int))),rfl⟩
            exact Bp ns a n i ha hil (by omega)) [some (aE ns),some (.int a),some (.int (n:Int)),some (.list ((eL ns a n 0).1.map .int)),some (.list ((eL ns a n 0).2.map .int)),none] ⟨none,rfl⟩
        subst hδ
        rw [Nat.zero_add,eW] at e
        simp only [iu]
        rw [aZ,s1]; simp only
        rw [aZ,s2]; simp only
        rw [aZ,iC,src,aA,e]; simp only
        simp only [cp,j6,aH,aS,aw,ay,Rs.aj,vN,Rs.ao,aA,bR]
        rfl
      · exact absurd rfl hne
    · exact absurd rfl hne
end RS
set_option maxRecDepth 100000
set_option maxHeartbeats 1000000
namespace RS
open PySem PySem.Spec PyProof.Rows L2
section
variable {P:Program} {w:World} {K:PySem.W.Frag} {mg:Str→Option Value} {base:Heap}
theorem DV {x qual:Str} {st:Stmt} {f:Addr} {fd:FuncData} {N ps:List Str} {k:Nat} {O:List Nat} {G:Ds→Sr} {gf:List PyData→Rs PyData} (F:Fun K x qual st f fd) (S:a8 N ps (aG st)) (hO:∀ i∈O,ps.length≤i)
    (body:∀ (cdv:Value) (A:Around) (outer:List Env) (s:Shared) (H:Hp) (E:XK),fJ k (A.deeper (envOfC qual (aG st) s.heap.objs.size f cdv))→PBD (jY (CXW P w) P w K mg base N qual (aG st) f cdv A outer s H E) E O (fi st) G)
    (hg:∀ ds,ds.length=ps.length→gf ds≠.no→a7 (G (ds.map some++List.replicate (N.length - ps.length) none))=gf ds):kr P w K mg base (CXW P w) (k + 1) f fd ps (spD K ps.length gf):=by
  refine vk F S (fun vs H Q E h=>?_) (fun cdv A outer s H vs Q E hr h=>?_)
  · obtain ⟨A,ds,hA,hi,hl,o⟩:=h
    rw [hi.length,hl]
  · obtain ⟨A0,ds,hA,hi,hl,o⟩:=h
    refine ⟨_,body cdv A outer s H E hr,H,A0,[],_,dg.start hA hi hl hO,?_⟩
    have hg':=hg ds hl (fun z=>by rw [z] at o; exact o)
    cases q:G (ds.map some++List.replicate (N.length - ps.length) none) with
    | rt d=>rw [q] at hg'; rw [← hg'] at o; exact fun v H' s' hv=>o v H' s' hv
    | nx δ=>rw [q] at hg'; rw [← hg'] at o; exact fun A' σ H' R'=>o .non H' R'.same is_none
    | rz C=>rw [q] at hg'; rw [← hg'] at o; exact fun H' s'=>o H' s'
    | bk δ=>rw [q] at hg'; rw [← hg'] at o; exact o.elim
    | ct δ=>rw [q] at hg'; rw [← hg'] at o; exact o.elim
    | no=>rw [q] at hg'; rw [← hg'] at o; exact o.elim
theorem a5 {h:Heap} {x:Str} {st:Stmt} {ps:List Str} {f:Addr} {oc:Value} {od an:Option Addr} {sl:Array (Option Value)} {kV dc pm cd ct:Value} (X:K.In h) (G:h.Ns mainGlobals mg)
    (hb:∀ (kV doc pm:Value) (an:Option Addr) (cdv ct:Value) (us:List Value),us.length=ps.length→bindArgs (PySem.W.fnOf x x (iL st) (fi st) (aG st) .none kV doc pm an cdv ct) ⟨us,[]⟩=pure (ps.zip us))
    (a:PySem.W.nsIn K mainGlobals x=some (some (.ref f)))
    (l:K.lookup f=some ⟨oc,od,.func (PySem.W.fnOf x x (iL st) (fi st) (aG st) .none kV dc pm an cd ct),sl⟩)
    (c:PySem.W.codeIn K cd x=true) (k:PySem.W.keepIn K (.ref f)=true):aY K mg x st ps :=
  have F:=CI (st:=st) l c k
  ⟨f,_,F,F.binds hb,PySem.W.mg_of X G a⟩
theorem uP {h:Heap} {x:Str} {C:Addr} (X:K.In h) (G:h.Ns mainGlobals mg) (a:PySem.W.nsIn K mainGlobals x=some (some (.ref C)))
    (e:PySem.W.excIn K C [.type "ValueError",.type "Exception",.type "BaseException",.type "object"] "ValueError.__new__"=true):wB K mg x C:=⟨PySem.W.mg_of X G a,e⟩
theorem jr {h:Heap} {x:Str} {n:Int} {t:_} (X:K.In h) (G:h.Ns mainGlobals mg) (a:PySem.W.nsIn K mainGlobals x=some (some (.int n t))):∃ t,mg x=some (.int n t):=⟨t,PySem.W.mg_of X G a⟩
end
noncomputable def fF (n:Nat):Gf
  | [s]=>(match gw s with
    | some ns=>if ns.length≤n then .ok (.bool true) else .no
    | none=>.no)
  | _=>.no
theorem _root_.L2.tabsIn_nil (e:L2.zG=[]) {K:PySem.W.Frag} {h:Heap}:L2.qw K h:=⟨(fun P q pz2=>by obtain ⟨x,m,_⟩:=pz2; rw [e] at m; cases m),(fun P q q' pz3 _=>by obtain ⟨x,m,_⟩:=pz3; rw [e] at m; cases m)⟩
theorem He {l:PySem.W.OpenLaw} {n k:Nat} {q:Program} {loose:List Str} {XP:(Str→Option Value)→Heap→Prop} {YP:World→Heap→Prop} {d:DefRec} {K:Params→PySem.W.Frag} {x:Str} {st:Stmt}
    (hn:l.most=some n) (hn2:n≤sizeLine) (hdf:d.params.defaults=[]) (hr:fJ k callerA)
    (hY:∀ (w:World) (h:Heap),YP w h→(K w.params).In h)
    (hb:∀ (kV doc pm:Value) (an:Option Addr) (cdv ct:Value) (us:List Value),us.length=1→bindArgs (PySem.W.fnOf d.name d.name (iL st) (fi st) (aG st) .none kV doc pm an cdv ct) ⟨us,[]⟩=pure ([x].zip us))
    (F:∀ (w:World) (mg:Str→Option Value) (h:Heap),(K w.params).In h→h.Ns mainGlobals mg→
      aY (K w.params) mg d.name st [x]∧∀ f fd,Fun (K w.params) d.name d.name st f fd→∀ base:Heap,(K w.params).In base→base.Ns mainGlobals mg→kr l.prog w (K w.params) mg base (CXW l.prog w) k f fd [x] (spD (K w.params) 1 (fF n)))
    (hTb:∀ (w:World) (h:Heap) (loose':List Str) (mean:ExcName→Option Value) (mg mb:Str→Option Value),PyProof.Rows.Top q loose' mean mg mb h→(K w.params).In h→L2.qw (K w.params) h:=by exact fun _ _ _ _ _ _ _ _=>L2.tabsIn_nil rfl) :
    PySem.W.WalkO q loose XP YP l.row.toRowW d [] (fun f vs=>PySem.call f vs) :=
  L2.zA (n:=n) (k:=k) (x:=x) (CX:=fun w=>CXW l.prog w) (sp:=fun w=>spD (K w.params) 1 (fF n)) hn hn2 hdf hr hY
    (fun w mg fa h X G hfa=>by
      obtain ⟨⟨f,fd,F1,b,m⟩,hF⟩:=F w mg h X G
      have e:=hfa.symm.trans m
      cases e
      refine ⟨fd,fun s u=>?_,hF fa fd F1⟩
      obtain ⟨oc,od,kV,doc,pm,an,cdv,ct,osl,rfl,lk,hcd⟩:=F1.ex
      exact .of_eq (hb kV doc pm an cdv ct [u] rfl))
    (fun w H a ns hl hO hS=>by
      refine ⟨[],[aE ns],?_,?_,rfl,?_⟩
      · exact Ls.nil
      · rw [zQ]; exact ⟨_,[],rfl,Bi hS,rfl⟩
      · have eg:fF n [aE ns]=.ok (.bool true):=by unfold fF; simp [gQ,hl]
        rw [eg]
        intro v H' _ hv
        rw [zQ] at hv
        unfold Is at hv
        exact hv)
    (fun w H s e s' qz5=>(by obtain ⟨_,_,_,_,_,_,z,_⟩:=qz5; exact z)) hTb
end RS
set_option maxRecDepth 100000
set_option maxHeartbeats 1000000
namespace RS
open PySem L2
theorem tM:∀ {ds:List PyData},(∀ d∈ds,b7 d=true)→jL ds=true
  | [],_=>by unfold jL; rfl
  | d::r,h=>by unfold jL; rw [h d List.mem_cons_self,tM fun e he=>h e (List.mem_cons_of_mem _ he)]; rfl
theorem iX {ds:List PyData} (h:∀ d∈ds,b7 d=true):b7 (.tuple ds)=true:=by unfold b7; exact tM h
theorem iP (i:Int):b7 (.int i)=true:=by unfold b7; rfl
theorem Aw (o:Option Int):b7 (cB o)=true:=by cases o <;> (unfold cB b7; rfl)
theorem xQ (p:Int × Option Int):b7 (bD p)=true:=iX fun d hd=>by
  rcases List.mem_cons.mp hd with rfl | hd
  · exact iP _
  · cases List.mem_singleton.mp hd; exact Aw _
theorem BI (e:Er):b7 e.d=true:=iX fun d hd=>by
  rcases List.mem_cons.mp hd with rfl | hd
  · exact iP _
  · rcases List.mem_cons.mp hd with rfl | hd
    · exact iP _
    · rcases List.mem_cons.mp hd with rfl | hd
      · exact iP _
      · cases List.mem_singleton.mp hd
        exact iX fun d hd=>by obtain ⟨p,_,rfl⟩:=List.mem_map.mp hd; exact xQ p
theorem oW (es:List Er):b7 (aq es)=true:=iX fun d hd=>by obtain ⟨p,_,rfl⟩:=List.mem_map.mp hd; exact BI p
theorem yF (rs:List Int):∀ d∈rs.map PyData.int,b7 d=true:=fun d hd=>by obtain ⟨p,_,rfl⟩:=List.mem_map.mp hd; exact iP p
theorem yv (rs:List Int):b7 (au rs)=true:=iX (yF rs)
end RS
set_option maxRecDepth 100000
set_option maxHeartbeats 1000000
namespace RS
open PySem PySem.Spec PyProof.Rows L2
section
variable {P:Program} {w:World} {K:PySem.W.Frag} {mg:Str→Option Value} {base:Heap}
theorem zp {α:Type} {xs:List α} {k:Int} {v:α} (h0:0≤k) (h:xs[k.toNat]?=some v):atI xs k=some v:=by
  have:=Et h
  rwa [Int.toNat_of_nonneg h0] at this
theorem depthAll_ints:∀ ns:List Int,PyData.depthAll (ns.map PyData.int)≤1
  | []=>by simp [PyData.depthAll]
  | n::r=>by
    have:=depthAll_ints r
    simp only [List.map_cons,PyData.depthAll,PyData.depth]
    omega
theorem pW:∀ ns:List Int,PyData.canLayAll0 (ns.map PyData.int)=true
  | []=>by simp [PyData.canLayAll0]
  | n::r=>by simp [PyData.canLayAll0,PyData.canLay0,pW r]
theorem shaped_ints (ns:List Int):SeqAt.shaped (.list (ns.map PyData.int))=true:=by
  have:=depthAll_ints ns
  have h2:(PyData.list (ns.map PyData.int)).depth≤64:=by
    simp only [PyData.depth]
    omega
  simp [SeqAt.shaped,PyData.canLay0,pW,h2]
theorem yG:SeqAt.shaped (.list [])=true:=shaped_ints []
theorem Cw:∀ ns:List Int,PyData.eqv (.list (ns.map PyData.int)) (.list [])=decide (ns=[])
  | []=>by simp [PyData.eqv,PyData.eqvAll]
  | _::_=>by simp [PyData.eqv,PyData.eqvAll]
noncomputable def CH (K:PySem.W.Frag):Sp:=fun vs H Q _=>∃ (a:Addr) (ns:List Int) (k:Int),vs=[.ref a,.int k]∧SqL K H a (ns.map V.int)∧0≤k∧∀ H',aT H H'→Q (.int (cellAt ns k)) H'
noncomputable def E3 (K:PySem.W.Frag):Sp:=fun vs H Q _=>∃ (a:Addr) (ns:List Int) (k many:Int),vs=[.ref a,.int k,.int many]∧SqL K H a (ns.map V.int)∧0≤k∧0 < many∧∀ H',aT H H'→Q (.int (mixed ns k many)) H'
theorem En (ds:List PyData) (hl:ds.length=3) (hne:av ds≠.no):∃ d,av ds=.ok d∧gP d=true∧∀ vs H Q,Iss K H ds vs→(∀ v H',aT H H'→IsD K H' d v→Q v H')→E3 K vs H Q E0:=by
  obtain ⟨s,k,many,ez,hz⟩:=n9 hne
  clear hne; subst ez; have hne:=hz; clear hz
  · skip
    split at hne
    · rename_i ns hs
      have es:=jB hs
      subst es
      split at hne
      · rename_i hc
        refine ⟨_,eG hc.1 hc.2,rfl,fun vs H Q hi ho=>?_⟩
        obtain ⟨v0,r0,rfl,h0,v1,r1,rfl,h1,v2,r2,rfl,h2,rfl⟩:=hi
        obtain ⟨a,rfl,hS⟩:=h0.ofScript
        rw [h1.ofInt,h2.ofInt]
        exact ⟨a,ns,k,many,rfl,hS,hc.1,hc.2,fun H' s'=>ho _ _ s' u9⟩
      · exact absurd rfl hne
    · exact absurd rfl hne
end
end RS
set_option maxRecDepth 100000
set_option maxHeartbeats 1000000
namespace RS
open PySem L2
noncomputable def okIn (d r:PyData):Bool:=cJ d && eE (b8 d).length r
noncomputable def okN (d r:PyData) (n:Int):Bool:=okIn d r && decide (0≤n) && decide (n < (b8 d).length)
noncomputable def dH:Gf
  | [d,r,.int n]=>if okN d r n then .ok (.int (bY (b8 d) (cy r) n)) else .no
  | _=>.no
noncomputable def cc:Gf
  | [d,r,.int n]=>if okN d r n then .ok (cB (bu (b8 d) (cy r) n)) else .no
  | _=>.no
section
variable {es:List Er} {rs:List Int} {n:Int}
theorem Dw (h1:1≤es.length) (h2:es.length≤6) (h:∀ e∈es,e.Ok) (hr:bj es.length rs):okIn (aq es) (au rs)=true:=by unfold okIn; rw [f6 h1 h2 h,cC,hU hr]; rfl
theorem vW (h1:1≤es.length) (h2:es.length≤6) (h:∀ e∈es,e.Ok) (hr:bj es.length rs) (n0:0≤n) (n1:n < es.length):okN (aq es) (au rs) n=true:=by
  unfold okN; rw [Dw h1 h2 h hr,cC]; simp [n0,n1]
theorem nq (h1:1≤es.length) (h2:es.length≤6) (h:∀ e∈es,e.Ok) (hr:bj es.length rs) (n0:0≤n) (n1:n < es.length):dH [aq es,au rs,.int n]=.ok (.int (bY es rs n)):=by
  unfold dH; simp only [vW h1 h2 h hr n0 n1,if_true,cC,dP]
theorem jC (h1:1≤es.length) (h2:es.length≤6) (h:∀ e∈es,e.Ok) (hr:bj es.length rs) (n0:0≤n) (n1:n < es.length):cc [aq es,au rs,.int n]=.ok (cB (bu es rs n)):=by
  unfold cc; simp only [vW h1 h2 h hr n0 n1,if_true,cC,dP]
end
theorem Co (o:Option Int):dNe (cB o) (cB o)=some (.bool false):=by
  cases o with
  | none =>
    have h:PySem.SeqAt.shaped .none=true:=by simp [PySem.SeqAt.shaped,PyData.canLay0,PyData.depth]
    show dNe .none .none=_
    unfold dNe; rw [h]; simp [b7,PyData.eqv]
  | some i=>show dNe (.int i) (.int i)=_; simp
theorem pF {cond:Ds→Rs Bool} {elt:Ds→Rs PyData} {δ:Ds} {p:PyData→Bool}:∀ (ds:List PyData),(∀ d∈ds,cond (δ++[some d])=.ok (p d)∧elt (δ++[some d])=.ok d)→i8 cond elt bx δ ds=.ok (ds.filter p)
  | [],_=>rfl
  | d::r,h=>by
    obtain ⟨h1,h2⟩:=h d List.mem_cons_self
    have ih:=pF r fun e he=>h e (List.mem_cons_of_mem _ he)
    unfold i8
    cases hp:p d with
    | true=>simp only [bx,h1,hp,Rs.kU,Rs.aj,if_true,h2,ih,List.filter_cons]
    | false=>simp only [bx,h1,hp,Rs.kU,Rs.aj,if_false,Bool.false_eq_true,ih,List.filter_cons]
theorem nM {n0:Nat} {src:Ds→Rs (List PyData)} {cond:Ds→Rs Bool} {elt:Ds→Rs PyData} {δ:Ds} {p:PyData→Bool} {ds:List PyData} (hn:δ.length=n0) (hs:src δ=.ok ds) (hl:ds.length≤1000000) (h:∀ d∈ds,cond (δ++[some d])=.ok (p d)∧elt (δ++[some d])=.ok d) :
    bX n0 src cond elt bx δ=.ok (ds.filter p):=by
  unfold bX
  rw [if_pos hn,hs]
  simp only [Rs.aj,if_pos hl]
  exact pF ds h
theorem BK (ns:List Int) (a top:Int) (ha:0≤a) (ht:0 < top) (ht2:top≤58):∃ es rs,qf ns a 4 top true=es∧1≤es.length∧es.length≤4∧(∀ e∈es,e.Ok)∧bj es.length rs∧bw [aE ns,.int a,.int 4,.int top,.bool true]=.ok (aq es)∧bH [aE ns,.int 0,.int (es.length:Int)]=.ok (au rs):=by
  have hl:=BA ns a 4 top true (by decide)
  have hok:=Dy ns a 4 top true ht ht2
  have hes:bw [aE ns,.int a,.int 4,.int top,.bool true]=.ok (aq (qf ns a 4 top true)):=jx ha (by decide) (by decide) ht ht2
  generalize qf ns a 4 top true=es at *
  have hrs:=iz (ns:=ns) (a:=0) (many:=(es.length:Int)) (by decide) (by omega) (by omega)
  rw [Int.toNat_natCast] at hrs
  exact ⟨es,_,rfl,hl.1,by omega,hok,rP ns 0 es.length,hes,hrs⟩
theorem GD (es:List Er):e8 [aq es]=some (.int (es.length:Int)):=by unfold aq; rw [xR,List.length_map]
theorem lawT_of {n:Nat} {G:Ds→Sr} {k:Nat} (h:∀ ns:List Int,G (some (aE ns)::List.replicate k none)=.rt (.bool true)):∀ ds,ds.length=1→fF n ds≠.no→a7 (G (ds.map some++List.replicate k none))=fF n ds:=by
  intro ds hl hne
  match ds,hl with
  | [s],_ =>
    unfold fF at hne ⊢
    simp only at hne ⊢
    split at hne
    · rename_i ns hs
      have es:=jB hs
      subst es
      split at hne
      · rename_i hc
        simp only [gQ,if_pos hc]
        show a7 (G (some (aE ns)::List.replicate k none))=_
        rw [h]; rfl
      · exact absurd rfl hne
    · exact absurd rfl hne
end RS
set_option maxRecDepth 100000
set_option maxHeartbeats 4000000
namespace L2
open PySem PySem.Spec PyProof.Rows
section
variable {X:Cx} {E:XK} {a b:Expr} {gs:Ds→Rs (List PyData)} {pos:Pos}
end
end L2
set_option maxRecDepth 100000
set_option maxHeartbeats 4000000
namespace L2
open PySem PySem.Spec PyProof.Rows
section
variable {X:Cx} {E:XK} {O:List Nat} {K:PySem.W.Frag} {H0 H:Hp} {A0 A:List Addr} {δ:Ds} {σ:St} {pos:Pos}
end
end L2
set_option maxRecDepth 100000
set_option maxHeartbeats 1000000
namespace L2
open PySem PySem.Spec PyProof.Rows
theorem aP.nil {P:Program} {w:World} {K:PySem.W.Frag} {mg:Str→Option Value} {base:Heap} {x qual:Str} {st:Stmt} {f:Addr} {fd:FuncData} {ps:List Str} {k n:Nat} (F:Fun K x qual st f fd) (m:mg x=some (.ref f)) (b:Binds K fd ps []):aP P w K mg base k x n (fun _=>.no):=by
  refine ⟨f,fd,ps,⟨fun vs H Q E h=>?_,fun A outer s H args us vs Q E hr he hb hv h=>?_⟩,m,F.kp,b⟩
  · obtain ⟨A,ds,hA,hi,hl,o⟩:=h
    exact o.elim
  · obtain ⟨A0,ds,hA,hi,hl,o⟩:=h
    exact o.elim
end L2
namespace RS
open PySem L2
noncomputable def bg (n:Nat):List Int:=(List.range n).map fun (i:Nat)=>(i:Int)
theorem eH (n:Nat):(bg n).Nodup:=by
  unfold bg
  exact List.Pairwise.map _ (fun a b h=>by omega) List.nodup_range
theorem bB {n:Nat} {x:Int}:x∈bg n↔0≤x∧x < n:=by
  unfold bg
  rw [List.mem_map]
  constructor
  · rintro ⟨i,hi,rfl⟩; have:=List.mem_range.mp hi; omega
  · intro h; exact ⟨x.toNat,List.mem_range.mpr (by omega),by omega⟩
theorem cZ (n:Nat):(bg n).length=n:=by simp [bg]
theorem rk (n:Nat):cx 0 n=(bg n).map PyData.int:=by
  unfold cx bg
  rw [List.map_map]
  exact List.map_congr_left fun i _=>by simp
theorem kj {n:Nat} {o:List Int}:o.Perm (bg n)↔bj n o:=by
  constructor
  · intro h
    exact ⟨by rw [h.length_eq,cZ],fun r hr=>bB.mp (h.subset hr),h.symm.nodup (eH n)⟩
  · intro h
    exact (List.perm_ext_iff_of_nodup h.nd (eH n)).mpr fun a=>⟨fun ha=>bB.mpr (h.rng a ha),fun ha=>by have:=bB.mp ha; exact h.mem this.1 this.2⟩
end RS
namespace RS
open PySem L2
end RS
set_option maxRecDepth 100000
set_option maxHeartbeats 1000000
namespace RS
open PySem L2
theorem v7 (x:Int) (xs:List Int):(xs.map PyData.int).filter (fun d=>!decide (deI d=x))=(xs.filter fun y=>decide (y≠x)).map PyData.int:=by
  rw [List.filter_map]
  congr 1
  refine List.filter_congr fun y _=>?_
  show (!decide (y=x))=decide (y≠x)
  by_cases z:y=x <;> simp [z]
theorem B4 {a b:List PyData} (h:a.length + b.length≤1000000):br (.tuple a) (.tuple b)=some (.tuple (a++b)):=by
  show (if _ then _ else _)=_
  rw [if_pos h]
noncomputable def c9 (es:List Er) (rs:List Int):Bool:=rs.all fun n=>dA es rs n
end RS
set_option maxRecDepth 100000
set_option maxHeartbeats 1000000
namespace RS
open PySem L2
structure DU (gf:Gf):Prop where
  of:∀ es:List Er,1≤es.length→es.length≤6→(∀ e∈es,e.Ok)→(∃ rs,gf [aq es]=.ok (au rs)∧bj es.length rs∧c9 es rs=true)∨(gf [aq es]=.ok .none∧∀ rs,bj es.length rs→c9 es rs=false)
theorem sE (x:Int):∀ ss:List Int,inV (toV (.int x)) ((ss.map PyData.int).map toV)=decide (x∈ss)
  | []=>by simp [inV]
  | s::r=>by
    have ih:=sE x r
    unfold inV at ih ⊢
    rw [List.map_cons,List.map_cons,List.any_cons,ih]
    show ((s == x) || _)=_
    by_cases z:x=s
    · subst z; simp
    · have h:(s == x)=false:=by simpa using fun q=>z q.symm
      simp [h,z]
end RS
set_option maxRecDepth 100000
set_option maxHeartbeats 1000000
namespace RS
open PySem L2
theorem Bz {xs:List PyData}:cutD xs none (some (-1))=xs.dropLast:=by
  unfold cutD
  have e1:HT.sIx xs.length 0 none=0:=rfl
  have e2:HT.sIx xs.length xs.length (some (-1))=xs.length - 1:=by
    unfold HT.sIx
    simp
    omega
  rw [e1,e2,List.dropLast_eq_take]
  simp
theorem qA {α:Type}:∀ (l:List α) (k:Nat) (e:α),k < l.length→l.set k e=l.take k++e::l.drop (k + 1)
  | [],k,e,h=>by simp at h
  | x::l,0,e,_=>by simp
  | x::l,k + 1,e,h=>by
    have:=qA l k e (by simpa using h)
    simp [this]
theorem Bq {es:List Er} {e:Er} {n:Int} (n0:0≤n) (n1:n < es.length):az (es.set n.toNat e) n=e:=by
  unfold az
  rw [List.getD_eq_getElem?_getD,List.getElem?_set_self (by omega)]; rfl
theorem Fh {es:List Er} {k:Nat} {e:Er} (h:∀ e∈es,e.Sh) (he:e.Sh):∀ x∈es.set k e,x.Sh:=fun x hx=>by
  rcases List.mem_or_eq_of_mem_set hx with z | z
  · exact h x z
  · rw [z]; exact he
noncomputable def j7 (e:Er) (m:Int):Er:={ e with parts:=e.parts.dropLast++[((e.parts.getLast?.getD (0,none)).1 + m,none)] }
noncomputable def grown (es:List Er) (n m:Int):List Er:=es.set n.toNat (j7 (az es n) m)
theorem vm {e:Er} (h:e.Ok) {m:Int} (m0:0≤m) (m1:m≤100000):(j7 e m).Sh:=by
  have hs:=h.sh
  have hp:=h.p2
  obtain ⟨p,hp1⟩:∃ p,e.parts.getLast?=some p:=by
    cases q:e.parts.getLast? with
    | none=>exact absurd (List.getLast?_eq_none_iff.mp q) h.p1
    | some p=>exact ⟨p,rfl⟩
  have hpm:=List.mem_of_getLast? hp1
  have hpl:=h.pl p hpm
  refine ⟨hs.e1,hs.e2,hs.l1,hs.l2,?_,fun q hq=>?_⟩
  · show (e.parts.dropLast++[_]).length≤1000
    rw [List.length_append,List.length_dropLast]; simp; omega
  · rcases List.mem_append.mp (show q∈e.parts.dropLast++[((e.parts.getLast?.getD (0,none)).1 + m,none)] from hq) with z | z
    · exact hs.pl q (List.dropLast_subset _ z)
    · cases List.mem_singleton.mp z
      rw [hp1]
      exact ⟨by show 0≤p.1 + m; omega,by show p.1 + m≤1000000; omega,fun t ht=>by cases ht⟩
structure uT (gf:Gf):Prop where
  of:∀ (es:List Er) (rs:List Int) (n:Int),1≤es.length→es.length≤6→(∀ e∈es,e.Ok)→bj es.length rs→0≤n→n < es.length →
    (c9 es rs=false∧gf [aq es,au rs,.int n]=.ok .none)∨(c9 es rs=true∧∃ a:Int,0≤a∧a≤1000∧gf [aq es,au rs,.int n]=.ok (.int a)∧c9 (grown es n a) rs=true∧c9 (grown es n (a + 1)) rs=false)
end RS
set_option maxRecDepth 100000
set_option maxHeartbeats 1000000
namespace RS
open PySem L2
noncomputable def Fits (es:List Er):Prop:=∃ rs,bj es.length rs∧c9 es rs=true
noncomputable def uV (a b:Er):Prop:=∀ t,a.has t=true→b.has t=false
noncomputable def sub (es:List Er) (row:List Int):List Er:=row.map fun n=>az es n
noncomputable def GR (es:List Er) (row:List Int):Prop:=(row≠[]→Fits (sub es row))∧∀ m:Int,0≤m→m < es.length→m ∉ row→∀ n∈row,uV (az es n) (az es m)
noncomputable def uQ (es:List Er) (rows:List (List Int)):Prop:=∀ row∈rows,GR es row
noncomputable def bT (r:List Int):PyData:=.list (r.map PyData.int)
noncomputable def aN (rows:List (List Int)):PyData:=.list (rows.map bT)
theorem yk (x:Int) (ss:List Int):lP true (.int x) (.list (ss.map PyData.int))=some (.bool (!decide (x∈ss))):=by
  show (if (gP (.int x) && _)=true then some (PyData.bool (if true=true then _ else inD _ _)) else none)=_
  rw [oN]
  unfold inD
  rw [sE]
  rfl
end RS
set_option maxRecDepth 100000
set_option maxHeartbeats 1000000
namespace RS
open PySem L2
noncomputable def p9 (p:Prop):Bool:=@decide p (Classical.propDecidable p)
theorem tQ {p:Prop} (h:p):p9 p=true:=@decide_eq_true p (Classical.propDecidable p) h
theorem qL {p:Prop} (h:¬ p):p9 p=false:=@decide_eq_false p (Classical.propDecidable p) h
noncomputable def wt:List PyData→Option (List (List Int))
  | []=>some []
  | .list r::t=>(eQ r).bind fun x=>(wt t).map fun l=>x::l
  | _::_=>none
theorem t9:∀ rows:List (List Int),wt (rows.map bT)=some rows
  | []=>rfl
  | r::t=>by
    rw [List.map_cons]
    show (eQ (r.map PyData.int)).bind _=_
    rw [dh,t9 t]; rfl
theorem m9:∀ {l:List PyData} {rows:List (List Int)},wt l=some rows→l=rows.map bT
  | [],rows,h=>by cases h; rfl
  | .list r::t,rows,h=>by
    obtain ⟨x,hx,h⟩:=Option.bind_eq_some_iff.mp (show (eQ r).bind _=some rows from h)
    obtain ⟨l,hl,rfl⟩:=Option.map_eq_some_iff.mp h
    rw [List.map_cons,cI hx,m9 hl]; rfl
  | .none::_,_,h=>by cases h
  | .bool _::_,_,h=>by cases h
  | .int _::_,_,h=>by cases h
  | .str _::_,_,h=>by cases h
  | .tuple _::_,_,h=>by cases h
  | .dict _::_,_,h=>by cases h
theorem Cf {es:List Er} (hok:∀ e∈es,e.Ok) {row:List Int} (hrow:∀ n∈row,0≤n∧n < es.length):∀ e∈sub es row,e.Ok:=fun e he=>by
  obtain ⟨n,hn,rfl⟩:=List.mem_map.mp he
  have:=hrow n hn
  exact hok _ (bJ this.1 this.2)
end RS
set_option maxRecDepth 100000
set_option maxHeartbeats 1000000
namespace RS
open PySem L2
noncomputable def putAt (x:Int) (hand:Nat) (k:Nat) (row:List Int):List Int:=row++(if k=hand then [x] else [])
noncomputable def Fo (h:Nat) (x:Int) (rows:List (List Int)):List (List (List Int)):=(List.range h).map fun hand=>rows.mapIdx (putAt x hand)
noncomputable def dl (h:Nat):Nat→List (List (List Int))
  | 0=>[List.replicate h []]
  | n + 1=>((dl h n).map (Fo h n)).flatten
end RS
set_option maxRecDepth 100000
set_option maxHeartbeats 1000000
namespace RS
open PySem L2
noncomputable def lJ (n h:Nat) (f:Nat→Nat):List (List Int):=(List.range h).map fun hand=>(bg n).filter fun x=>decide (f x.toNat=hand)
end RS
set_option maxRecDepth 100000
set_option maxHeartbeats 1000000
namespace RS
open PySem L2
end RS
set_option maxRecDepth 100000
set_option maxHeartbeats 1000000
namespace RS
open PySem L2
theorem Bu {es:List Er} {k:Nat} {e:Er} (h:k < es.length) (n:Int):az (es.set k e) n=if n.toNat=k then e else az es n:=by
  unfold az
  rw [List.getD_eq_getElem?_getD,List.getD_eq_getElem?_getD,List.getElem?_set]
  by_cases z:k=n.toNat
  · rw [if_pos z,if_pos (z ▸ h),if_pos z.symm]; rfl
  · rw [if_neg z,if_neg fun q=>z q.symm]
theorem DZ {l:List (Int × Option Int)}:Fa2 (fun p q:Int × Option Int=>p.1≤q.1∧p.2=q.2) l l:=by
  induction l with
  | nil=>exact .nil
  | cons p r ih=>exact .cons ⟨Int.le_refl _,rfl⟩ ih
end RS
set_option maxRecDepth 100000
set_option maxHeartbeats 1000000
namespace RS
open PySem L2
theorem nK.dA {es fs:List Er} {rs:List Int} {φ:Int→Int} (h:nK es fs rs φ) {n:Int} (hn:n∈rs):RS.dA fs (rs.map φ) (φ n)=RS.dA es rs n:=by
  unfold RS.dA
  rw [h.longest hn,h.at' n hn]
theorem nK.all {es fs:List Er} {rs:List Int} {φ:Int→Int} (h:nK es fs rs φ):c9 fs (rs.map φ)=c9 es rs:=by
  unfold c9
  rw [List.all_map]
  cases q:rs.all fun n=>RS.dA es rs n with
  | true =>
    rw [List.all_eq_true] at q ⊢
    intro n hn
    show RS.dA fs (rs.map φ) (φ n)=true
    rw [h.dA hn]; exact q n hn
  | false =>
    obtain ⟨n,hn,hx⟩:=List.all_eq_false.mp q
    refine List.all_eq_false.mpr ⟨n,hn,?_⟩
    show ¬ RS.dA fs (rs.map φ) (φ n)=true
    rw [h.dA hn]; exact hx
theorem rd {es:List Er} {od:List Int} {k:Nat} (h:k < od.length):az (sub es od) (k:Int)=az es (od.getD k 0):=by
  unfold az sub
  rw [Int.toNat_natCast,List.getD_eq_getElem?_getD,List.getElem?_map,List.getElem?_eq_getElem h]
  simp only [Option.map_some,Option.getD_some]
  rw [List.getD_eq_getElem?_getD,List.getD_eq_getElem?_getD,List.getElem?_eq_getElem h]
  rfl
section
variable {es:List Er} {od:List Int} (ho:bj es.length od)
include ho
theorem sub_len:(sub es od).length=es.length:=by unfold sub; rw [List.length_map]; exact ho.len
theorem place_lt {m:Int} (m0:0≤m) (m1:m < es.length):placeOf od m < es.length:=by
  have:=mS (ho.mem m0 (by omega))
  rw [ho.len] at this; exact this
theorem mh {m:Int} (m0:0≤m) (m1:m < es.length):az (sub es od) (placeOf od m:Int)=az es m:=by
  have hm:=ho.mem m0 (by omega)
  rw [rd (mS hm),List.getD_eq_getElem?_getD,mn hm]; rfl
theorem pB {m k:Int} (hm:m∈od) (hk:k∈od) (h:placeOf od m=placeOf od k):m=k:=by
  have h1:=mn hm
  have h2:=mn hk
  rw [h,h2] at h1
  exact (Option.some.inj h1).symm
theorem jZ {rs:List Int} (hr:bj es.length rs):bj es.length (rs.map fun m=>(placeOf od m:Int)) where
  len:=by rw [List.length_map]; exact hr.len
  rng:=fun r h=>by
    obtain ⟨m,hm,rfl⟩:=List.mem_map.mp h
    have:=hr.rng m hm
    have:=place_lt ho this.1 this.2
    omega
  nd:=by
    refine List.pairwise_map.mpr (List.Pairwise.imp_of_mem (fun {a b} ha hb hne e=>hne ?_) hr.nd)
    have h1:=hr.rng a ha; have h2:=hr.rng b hb
    exact pB ho (ho.mem h1.1 h1.2) (ho.mem h2.1 h2.2) (by omega)
theorem ql {rs:List Int} (hr:bj es.length rs):nK es (sub es od) rs fun m=>(placeOf od m:Int) where
  at':=fun m hm=>by have:=hr.rng m hm; exact mh ho this.1 this.2
  inj:=fun m hm k hk e=>by
    have h1:=hr.rng m hm; have h2:=hr.rng k hk
    exact pB ho (ho.mem h1.1 h1.2) (ho.mem h2.1 h2.2) (by omega)
theorem sH (h:Fits es):Fits (sub es od):=by
  obtain ⟨rs,hr,ha⟩:=h
  refine ⟨rs.map fun m=>(placeOf od m:Int),by rw [sub_len ho]; exact jZ ho hr,?_⟩
  rw [(ql ho hr).all]; exact ha
end
theorem o4 (es:List Er):sub es (bg es.length)=es:=by
  apply List.ext_getElem?
  intro i
  unfold sub bg
  rw [List.map_map,List.getElem?_map]
  by_cases h:i < es.length
  · rw [List.getElem?_range h,List.getElem?_eq_getElem h]
    simp only [Option.map_some,Function.comp]
    congr 1
    unfold az
    rw [Int.toNat_natCast,List.getD_eq_getElem?_getD,List.getElem?_eq_getElem h]; rfl
  · rw [List.getElem?_eq_none (by simpa using h),List.getElem?_eq_none (by omega)]; rfl
theorem iK (n:Nat):bj n (bg n):=⟨cZ n,fun r h=>bB.mp h,eH n⟩
theorem tK {es fs:List Er} (h:es.Perm fs) (hf:Fits es):Fits fs:=by
  suffices H:∃ od,bj es.length od∧fs=sub es od by
    obtain ⟨od,ho,rfl⟩:=H
    exact sH ho hf
  clear hf
  induction h with
  | nil=>exact ⟨[],⟨rfl,fun r h=>(List.not_mem_nil h).elim,List.nodup_nil⟩,rfl⟩
  | @cons x l m _ ih =>
    obtain ⟨od,ho,rfl⟩:=ih
    refine ⟨0::od.map (· + 1),⟨?_,?_,?_⟩,?_⟩
    · rw [List.length_cons,List.length_map,ho.len]; rfl
    · intro r hr
      rcases List.mem_cons.mp hr with rfl | hr
      · exact ⟨by decide,by rw [List.length_cons]; omega⟩
      · obtain ⟨k,hk,rfl⟩:=List.mem_map.mp hr
        have:=ho.rng k hk
        exact ⟨by omega,by rw [List.length_cons]; omega⟩
    · refine List.nodup_cons.mpr ⟨fun hz=>?_,?_⟩
      · obtain ⟨k,hk,e⟩:=List.mem_map.mp hz
        have:=ho.rng k hk
        omega
      · exact List.pairwise_map.mpr (ho.nd.imp fun hne e=>hne (by omega))
    · unfold sub
      rw [List.map_cons,List.map_map]
      congr 1
      refine List.map_congr_left fun k hk=>?_
      have:=ho.rng k hk
      unfold az
      show l.getD k.toNat er0=(x::l).getD (k + 1).toNat er0
      rw [show (k + 1).toNat=k.toNat + 1 by omega,List.getD_cons_succ]
  | @swap x y l =>
    refine ⟨1::0::(bg l.length).map (· + 2),⟨?_,?_,?_⟩,?_⟩
    · simp [cZ]
    · intro r hr
      rcases List.mem_cons.mp hr with rfl | hr
      · exact ⟨by decide,by rw [List.length_cons,List.length_cons]; omega⟩
      · rcases List.mem_cons.mp hr with rfl | hr
        · exact ⟨by decide,by rw [List.length_cons,List.length_cons]; omega⟩
        · obtain ⟨k,hk,rfl⟩:=List.mem_map.mp hr
          have:=bB.mp hk
          exact ⟨by omega,by rw [List.length_cons,List.length_cons]; omega⟩
    · refine List.nodup_cons.mpr ⟨fun hz=>?_,List.nodup_cons.mpr ⟨fun hz=>?_,List.pairwise_map.mpr ((eH _).imp fun hne e=>hne (by omega))⟩⟩
      · rcases List.mem_cons.mp hz with hz | hz
        · cases hz
        · obtain ⟨k,hk,e⟩:=List.mem_map.mp hz
          have:=bB.mp hk
          omega
      · obtain ⟨k,hk,e⟩:=List.mem_map.mp hz
        have:=bB.mp hk
        omega
    · have key:sub (y::x::l) ((bg l.length).map (· + 2))=l:=by
        conv=>rhs; rw [← o4 l]
        unfold sub
        rw [List.map_map]
        refine List.map_congr_left fun k hk=>?_
        have:=bB.mp hk
        unfold az
        show (y::x::l).getD (k + 2).toNat er0=l.getD k.toNat er0
        rw [show (k + 2).toNat=k.toNat + 2 by omega,List.getD_cons_succ,List.getD_cons_succ]
      show x::y::l=_
      conv=>lhs; rw [← key]
      rfl
  | @trans a b c h1 _ ih1 ih2 =>
    obtain ⟨o1,r1,rfl⟩:=ih1
    obtain ⟨o2,r2,rfl⟩:=ih2
    have hl:(sub a o1).length=a.length:=sub_len r1
    rw [hl] at r2
    refine ⟨o2.map fun k=>o1.getD k.toNat 0,⟨?_,?_,?_⟩,?_⟩
    · rw [List.length_map,r2.len]
    · intro r hr
      obtain ⟨k,hk,rfl⟩:=List.mem_map.mp hr
      have h2:=r2.rng k hk
      have:o1.getD k.toNat 0∈o1:=by
        rw [List.getD_eq_getElem?_getD,List.getElem?_eq_getElem (by rw [r1.len]; omega)]
        exact List.getElem_mem _
      exact r1.rng _ this
    · refine List.pairwise_map.mpr (List.Pairwise.imp_of_mem (fun {p q} hp hq hne e=>hne ?_) r2.nd)
      have h1:=r2.rng p hp; have h2:=r2.rng q hq
      have i1:p.toNat < o1.length:=by rw [r1.len]; omega
      have i2:q.toNat < o1.length:=by rw [r1.len]; omega
      rw [List.getD_eq_getElem?_getD,List.getD_eq_getElem?_getD,List.getElem?_eq_getElem i1,List.getElem?_eq_getElem i2] at e
      have e':o1[p.toNat]=o1[q.toNat]:=e
      have hw:=List.pairwise_iff_getElem.mp r1.nd
      by_cases z1:p.toNat < q.toNat
      · exact absurd e' (hw _ _ i1 i2 z1)
      · by_cases z2:q.toNat < p.toNat
        · exact absurd e'.symm (hw _ _ i2 i1 z2)
        · omega
    · unfold sub
      rw [List.map_map]
      refine List.map_congr_left fun k hk=>?_
      have h2:=r2.rng k hk
      obtain ⟨j,rfl⟩:∃ j:Nat,k=(j:Int):=⟨k.toNat,by omega⟩
      have:=rd (es:=a) (od:=o1) (k:=j) (by rw [r1.len]; omega)
      unfold sub at this
      rw [this]
      show _=az a (o1.getD (j:Int).toNat 0)
      rw [Int.toNat_natCast]
end RS
set_option maxRecDepth 100000
set_option maxHeartbeats 1000000
namespace RS
open PySem L2
theorem EG {e:Er} {m k:Int} (h:m≤k):Er.Le (j7 e m) (j7 e k):=⟨Int.le_refl _,rfl,t8 DZ (.cons ⟨by omega,rfl⟩ .nil)⟩
theorem ki {es:List Er} {n m:Int} (n0:0≤n) (n1:n < es.length) (k:Int):az (grown es n m) k=if k.toNat=n.toNat then j7 (az es n) m else az es k:=by
  unfold grown
  exact Bu (by omega) k
theorem AB {es:List Er} {n m k:Int} (n0:0≤n) (n1:n < es.length) (h:m≤k):LeS (grown es n m) (grown es n k) where
  len:=by unfold grown; rw [List.length_set,List.length_set]
  le:=fun j=>by
    rw [ki n0 n1,ki n0 n1]
    split
    · exact EG h
    · exact Er.Le.refl _
theorem wW {es:List Er} {n m:Int} (hok:∀ e∈es,e.Ok) (n0:0≤n) (n1:n < es.length) (m0:0≤m) (m1:m≤100000):∀ e∈grown es n m,e.Sh:=Fh (fun e he=>(hok e he).sh) (vm (hok _ (bJ n0 n1)) m0 m1)
theorem yr {es:List Er} {n m:Int} (hok:∀ e∈es,e.Ok) (n0:0≤n) (n1:n < es.length):∀ e∈grown es n m,0≤e.late:=fun e he=>by
  rcases List.mem_or_eq_of_mem_set he with z | z
  · exact (hok e z).l1
  · rw [z]; exact (hok _ (bJ n0 n1)).l1
theorem qX {es:List Er} {rs:List Int} {n m k:Int} (hok:∀ e∈es,e.Ok) (hr:bj es.length rs) (n0:0≤n) (n1:n < es.length) (m0:0≤m) (h:m≤k) (k1:k≤100000) (ha:c9 (grown es n k) rs=true):c9 (grown es n m) rs=true:=by
  have hlen:∀ m,(grown es n m).length=es.length:=fun m=>by unfold grown; rw [List.length_set]
  unfold c9 at ha ⊢
  rw [List.all_eq_true] at ha ⊢
  intro j hj
  have hj':=ha j hj
  unfold RS.dA at hj' ⊢
  cases q:bu (grown es n k) rs j with
  | none=>rw [q] at hj'; cases hj'
  | some t =>
    rw [q] at hj'
    obtain ⟨t',e',h'⟩:=(AB (m:=m) (k:=k) n0 n1 h).longest (rs:=rs) (n:=j) (wW hok n0 n1 m0 (by omega)) (wW hok n0 n1 (by omega) k1) (yr hok n0 n1) (by rw [hlen]; exact hr) t q
    rw [e']
    have hd:(az (grown es n m) j).due=(az (grown es n k) j).due:=by
      rw [ki n0 n1,ki n0 n1]; split <;> rfl
    have hj2:=of_decide_eq_true hj'
    exact decide_eq_true (by rw [hd]; omega)
theorem B6 {gf:Gf} (S:uT gf) {es:List Er} {rs od:List Int} {n:Int} (l1:1≤es.length) (l6:es.length≤6) (hok:∀ e∈es,e.Ok) (hr:bj es.length rs) (ho:bj es.length od) (n0:0≤n) (n1:n < es.length) :
    ∃ o:Option Int,gf [aq es,au rs,.int n]=.ok (cB o)∧gf [aq (sub es od),au (rs.map fun m=>(placeOf od m:Int)),.int (placeOf od n:Int)]=.ok (cB o):=by
  have hok2:∀ e∈sub es od,e.Ok:=Cf hok fun m hm=>by have:=ho.rng m hm; omega
  have hl2:=sub_len ho
  have hr2:=jZ ho hr
  have hp:=place_lt ho n0 n1
  have hA:=(ql ho hr).all
  have hG:∀ m,c9 (grown (sub es od) (placeOf od n:Int) m) (rs.map fun m=>(placeOf od m:Int))=c9 (grown es n m) rs:=fun m=>by
    refine nK.all (es:=grown es n m) ⟨fun k hk=>?_,(ql ho hr).inj⟩
    have hkr:=hr.rng k hk
    rw [ki (by omega) (by omega),ki n0 n1,mh ho n0 n1,mh ho hkr.1 hkr.2]
    by_cases z:k=n
    · subst z; simp
    · have z2:¬ (placeOf od k:Int).toNat=(placeOf od n:Int).toNat:=fun q=>z (pB ho (ho.mem hkr.1 hkr.2) (ho.mem n0 n1) (by omega))
      have z3:¬ k.toNat=n.toNat:=by omega
      rw [if_neg z2,if_neg z3]
  rcases S.of es rs n l1 l6 hok hr n0 n1 with ⟨ha,hg⟩ | ⟨ha,a,a0,a1,hg,g1,g2⟩
  · rcases S.of (sub es od) _ (placeOf od n:Int) (by omega) (by omega) hok2 (by rw [hl2]; exact hr2) (by omega) (by omega) with ⟨hb,hh⟩ | ⟨hb,_⟩
    · exact ⟨none,hg,hh⟩
    · rw [hA,ha] at hb; cases hb
  · rcases S.of (sub es od) _ (placeOf od n:Int) (by omega) (by omega) hok2 (by rw [hl2]; exact hr2) (by omega) (by omega) with ⟨hb,_⟩ | ⟨hb,b,b0,b1,hh,k1,k2⟩
    · rw [hA,ha] at hb; cases hb
    · rw [hG] at k1 k2
      have e:a=b:=by
        by_cases z:a < b
        · have:=qX (m:=a + 1) hok hr n0 n1 (by omega) (by omega) (by omega) k1
          rw [g2] at this; cases this
        · by_cases z2:b < a
          · have:=qX (m:=b + 1) hok hr n0 n1 (by omega) (by omega) (by omega) g1
            rw [k2] at this; cases this
          · omega
      subst e
      exact ⟨some a,hg,hh⟩
noncomputable def dO (es:List Er) (h:Nat):Prop:=∃ f:Nat→Nat,(∀ i < es.length,f i < h)∧uQ es (lJ es.length h f)
theorem D9 {n:Nat} {od:List Int} (ho:bj n od):(bg n).map (fun k=>od.getD k.toNat 0)=od:=by
  apply List.ext_getElem?
  intro i
  unfold bg
  rw [List.map_map,List.getElem?_map]
  by_cases h:i < n
  · rw [List.getElem?_range h]
    simp only [Option.map_some,Function.comp,Int.toNat_natCast]
    rw [List.getD_eq_getElem?_getD,List.getElem?_eq_getElem (by rw [ho.len]; exact h)]; rfl
  · rw [List.getElem?_eq_none (by simpa using h),List.getElem?_eq_none (by rw [ho.len]; omega)]; rfl
theorem wF {es:List Er} {od:List Int} {h:Nat} (ho:bj es.length od) (hd:dO es h):dO (sub es od) h:=by
  obtain ⟨f,hf,hd⟩:=hd
  have hl:=sub_len ho
  have hmem:∀ k:Nat,k < es.length→od.getD k 0∈od:=fun k hk=>by
    rw [List.getD_eq_getElem?_getD,List.getElem?_eq_getElem (by rw [ho.len]; exact hk)]
    exact List.getElem_mem _
  refine ⟨fun k=>f (od.getD k 0).toNat,fun i hi=>?_,?_⟩
  · rw [hl] at hi
    have:=ho.rng _ (hmem i hi)
    exact hf _ (by omega)
  · rw [hl]
    intro row' hr'
    obtain ⟨hand,hh,rfl⟩:=List.mem_map.mp hr'
    obtain ⟨d1,d2⟩:=hd _ (List.mem_map.mpr ⟨hand,hh,rfl⟩)
    have hat:∀ k∈(bg es.length).filter fun x=>decide (f (od.getD x.toNat 0).toNat=hand),az (sub es od) k=az es (od.getD k.toNat 0):=fun k hk=>by
      have:=bB.mp (List.mem_filter.mp hk).1
      obtain ⟨j,rfl⟩:∃ j:Nat,k=(j:Int):=⟨k.toNat,by omega⟩
      rw [rd (by rw [ho.len]; omega),Int.toNat_natCast]
    have hperm:(((bg es.length).filter fun x=>decide (f (od.getD x.toNat 0).toNat=hand)).map fun k=>od.getD k.toNat 0).Perm ((bg es.length).filter fun x=>decide (f x.toNat=hand)):=by
      have e1:(((bg es.length).filter fun x=>decide (f (od.getD x.toNat 0).toNat=hand)).map fun k=>od.getD k.toNat 0)=od.filter fun x=>decide (f x.toNat=hand):=by
        conv=>rhs; rw [← D9 ho,List.filter_map]
        rfl
      rw [e1]
      exact (kj.mpr ho).filter _
    have esub:sub (sub es od) ((bg es.length).filter fun x=>decide (f (od.getD x.toNat 0).toNat=hand))=sub es (((bg es.length).filter fun x=>decide (f (od.getD x.toNat 0).toNat=hand)).map fun k=>od.getD k.toNat 0):=by
      show List.map _ _=List.map _ (List.map _ _)
      rw [List.map_map]
      exact List.map_congr_left fun k hk=>hat k hk
    refine ⟨fun hne=>?_,fun m m0 m1 hm n' hn'=>?_⟩
    · rw [esub]
      have hne2:((bg es.length).filter fun x=>decide (f x.toNat=hand))≠[]:=fun z=>by
        rw [z] at hperm
        exact hne (List.map_eq_nil_iff.mp hperm.eq_nil)
      exact tK (hperm.symm.map fun n=>az es n) (d1 hne2)
    · rw [hl] at m1
      have hnr:=bB.mp (List.mem_filter.mp hn').1
      have hnf:f (od.getD n'.toNat 0).toNat=hand:=of_decide_eq_true (List.mem_filter.mp hn').2
      have hmf:¬ f (od.getD m.toNat 0).toNat=hand:=fun q=>hm (List.mem_filter.mpr ⟨bB.mpr ⟨m0,m1⟩,decide_eq_true q⟩)
      have em:az (sub es od) m=az es (od.getD m.toNat 0):=by
        obtain ⟨j,rfl⟩:∃ j:Nat,m=(j:Int):=⟨m.toNat,by omega⟩
        rw [rd (by rw [ho.len]; omega),Int.toNat_natCast]
      rw [hat n' hn',em]
      have r1:=ho.rng _ (hmem n'.toNat (by omega))
      have r2:=ho.rng _ (hmem m.toNat (by omega))
      refine d2 _ r2.1 r2.2 (fun q=>hmf (of_decide_eq_true (List.mem_filter.mp q).2)) _ (List.mem_filter.mpr ⟨bB.mpr r1,decide_eq_true hnf⟩)
theorem wL {es:List Er} {od:List Int} (ho:bj es.length od):sub (sub es od) ((bg es.length).map fun m=>(placeOf od m:Int))=es:=by
  conv=>rhs; rw [← o4 es]
  show List.map _ (List.map _ _)=List.map _ _
  rw [List.map_map]
  refine List.map_congr_left fun m hm=>?_
  have:=bB.mp hm
  exact mh ho this.1 this.2
theorem nX {es:List Er} {od:List Int} {h:Nat} (ho:bj es.length od):dO (sub es od) h↔dO es h:=by
  refine ⟨fun hd=>?_,wF ho⟩
  have h2:=jZ ho (iK es.length)
  have:=wF (es:=sub es od) (od:=(bg es.length).map fun m=>(placeOf od m:Int)) (by rw [sub_len ho]; exact h2) hd
  rw [wL ho] at this
  exact this
theorem C0 {es:List Er} {od:List Int} (ho:bj es.length od):Fits (sub es od)↔Fits es:=by
  refine ⟨fun hd=>?_,sH ho⟩
  have h2:=jZ ho (iK es.length)
  have:=sH (es:=sub es od) (od:=(bg es.length).map fun m=>(placeOf od m:Int)) (by rw [sub_len ho]; exact h2) hd
  rw [wL ho] at this
  exact this
noncomputable def Cz (es:List Er):Option Int:=if p9 (dO es 1) then some 1 else if p9 (dO es 2) then some 2 else if p9 (dO es 3) then some 3 else if p9 (dO es 4) then some 4 else none
theorem Fp {es:List Er} {od:List Int} (ho:bj es.length od):Cz (sub es od)=Cz es:=by
  unfold Cz
  rw [propext (nX (h:=1) ho),propext (nX (h:=2) ho),propext (nX (h:=3) ho),propext (nX (h:=4) ho)]
structure Gw (gf:Gf):Prop where
  of:∀ es:List Er,1≤es.length→es.length≤6→(∀ e∈es,e.Ok)→gf [aq es]=.ok (cB (Cz es))
end RS
set_option maxRecDepth 100000
set_option maxHeartbeats 1000000
namespace RS
open PySem L2
theorem Az (cs:Cs):∀ ds,ds.length=1→cU ds≠.no→a7 (pD cs (ds.map some++List.replicate 0 none))=cU ds:=xY cs
noncomputable def bz (cs:Cs):Gf
  | [.tuple es,x]=>if b7 x then (if isWhole x 0 ((es.length:Int) - 1) then .ok x else .rz cs.NoErrand) else .no
  | _=>.no
theorem pj (cs:Cs):∀ ds,ds.length=2→bz cs ds≠.no→a7 (dZ cs aM (ds.map some++List.replicate 0 none))=bz cs ds:=by
  intro ds hl hne
  obtain ⟨es,x,ez,hz⟩:=CW hne
  clear hne; subst ez; have hne:=hz; clear hz
  unfold bz
  · skip
    split at hne
    · rename_i hd
      simp only [hd,if_true]
      cases e:isWhole x 0 ((es.length:Int) - 1) with
      | true=>simp [dZ,hd,e]
      | false=>simp [dZ,hd,e]
    · exact absurd rfl hne
theorem md {d r:PyData} {n:Int} (h:okN d r n=true):∃ es rs,d=aq es∧r=au rs∧b8 d=es∧cy r=rs∧1≤es.length∧es.length≤6∧(∀ e∈es,e.Ok)∧bj es.length rs∧0≤n∧n < es.length:=by
  unfold okN okIn at h
  simp only [Bool.and_eq_true,decide_eq_true_eq] at h
  obtain ⟨⟨⟨c1,c2⟩,n0⟩,n1⟩:=h
  obtain ⟨e1,l1,l6,hok⟩:=kM c1
  obtain ⟨e2,hr⟩:=lr c2
  exact ⟨b8 d,cy r,e1.symm,e2.symm,rfl,rfl,l1,l6,hok,hr,n0,n1⟩
theorem jK {es:List Er} (cs:Cs) (h1:1≤es.length) (h2:es.length≤6) (h:∀ e∈es,e.Ok):aX cs [aq es]=.ok (aq es):=by
  unfold aX; simp [oW,f6 h1 h2 h]
theorem mH {es:List Er} {rs:List Int} (cs:Cs) (h2:es.length≤6) (hr:bj es.length rs):bF cs [aq es,au rs]=.ok (au rs):=by
  unfold aq bF
  simp only [List.length_map,yv,hU hr,Bool.true_and,if_true]
  rw [if_pos (by simp; omega)]
theorem lL {es:List Er} {n:Int} (cs:Cs) (n0:0≤n) (n1:n < es.length):bz cs [aq es,.int n]=.ok (.int n):=by
  unfold aq bz
  simp only [iP,if_true,List.length_map,isWhole]
  rw [if_pos (by simp; omega)]
noncomputable def aL:Gf
  | [d,r,.int n]=>if okN d r n then .ok .none else .no
  | _=>.no
theorem eM {es:List Er} {rs:List Int} {n:Int} (h1:1≤es.length) (h2:es.length≤6) (h:∀ e∈es,e.Ok) (hr:bj es.length rs) (n0:0≤n) (n1:n < es.length):aL [aq es,au rs,.int n]=.ok .none:=by
  unfold aL; simp only [vW h1 h2 h hr n0 n1,if_true]
theorem sY (cs:Cs):∀ ds,ds.length=3→aL ds≠.no→a7 (fw cs (bz cs) (bF cs) (aX cs) (ds.map some++List.replicate 0 none))=aL ds:=by
  intro ds hl hne
  obtain ⟨d,r,n,ez,hz⟩:=iJ hne
  clear hne; subst ez; have hne:=hz; clear hz
  · skip
    split at hne
    · rename_i hc
      obtain ⟨es,rs,rfl,rfl,_,_,l1,l6,hok,hr,n0,n1⟩:=md hc
      rw [eM l1 l6 hok hr n0 n1]
      show a7 (fw cs (bz cs) (bF cs) (aX cs) [some (aq es),some (au rs),some (.int n)])=_
      simp [fw,jK cs l1 l6 hok,mH cs l6 hr,lL cs n0 n1]
    · exact absurd rfl hne
end RS
set_option maxRecDepth 100000
set_option maxHeartbeats 1000000
namespace RS
open PySem L2
structure Er.Wk (e:Er):Prop where
  sh:e.Sh
  e2:e.every≤60
  l1:0≤e.late
  p2:e.parts.length≤4
  pl:∀ p∈e.parts,1≤p.1∧p.1≤1000000
  p1:e.parts≠[]
theorem Er.Ok.wk {e:Er} (h:e.Ok):e.Wk:=⟨h.sh,h.e2,h.l1,h.p2,fun p hp=>by have:=h.pl p hp; exact ⟨this.1,by omega⟩,h.p1⟩
theorem Er.Wk.work1 {e:Er} (h:e.Wk):1≤e.work:=by
  obtain ⟨p,hp⟩:=List.exists_mem_of_ne_nil _ h.p1
  have h1:=h.sh.part_le hp
  have h2:=(h.pl p hp).1
  omega
noncomputable def wkB (e:Er):Bool:=decide (e.every≤60) && decide (0≤e.late) && decide (e.parts.length≤4) && e.parts.all (fun p=>decide (1≤p.1)) && decide (e.parts≠[])
theorem Fq {e:Er} (h:e.Wk):wkB e=true:=by
  unfold wkB
  simp only [Bool.and_eq_true,decide_eq_true_eq,List.all_eq_true]
  exact ⟨⟨⟨⟨h.e2,h.l1⟩,h.p2⟩,fun p hp=>(h.pl p hp).1⟩,h.p1⟩
theorem FY {e:Er} (h:wkB e=true) (hs:e.Sh):e.Wk:=by
  unfold wkB at h
  simp only [Bool.and_eq_true,decide_eq_true_eq,List.all_eq_true] at h
  obtain ⟨⟨⟨⟨a,b⟩,c⟩,d⟩,f⟩:=h
  exact ⟨hs,a,b,c,fun p hp=>⟨d p hp,(hs.pl p hp).2.1⟩,f⟩
noncomputable def kf (d:PyData):Bool:=qZ d && decide (1≤(b8 d).length) && decide ((b8 d).length≤6) && (b8 d).all wkB
theorem gH {es:List Er} (h1:1≤es.length) (h2:es.length≤6) (h:∀ e∈es,e.Wk):kf (aq es)=true:=by
  unfold kf
  rw [rM (by omega) fun e he=>(h e he).sh,cC]
  simp only [Bool.and_eq_true,decide_eq_true_eq,List.all_eq_true]
  exact ⟨⟨⟨trivial,h1⟩,h2⟩,fun e he=>Fq (h e he)⟩
theorem ku {d:PyData} (h:kf d=true):aq (b8 d)=d∧1≤(b8 d).length∧(b8 d).length≤6∧∀ e∈b8 d,e.Wk:=by
  unfold kf at h
  simp only [Bool.and_eq_true,decide_eq_true_eq,List.all_eq_true] at h
  obtain ⟨⟨⟨a,b⟩,c⟩,f⟩:=h
  obtain ⟨e1,_,hs⟩:=zg a
  exact ⟨e1,b,c,fun e he=>FY (f e he) (hs e he)⟩
noncomputable def okW (d r:PyData) (n:Int):Bool:=kf d && eE (b8 d).length r && decide (0≤n) && decide (n < (b8 d).length)
theorem lU {es:List Er} {rs:List Int} {n:Int} (h1:1≤es.length) (h2:es.length≤6) (h:∀ e∈es,e.Wk) (hr:bj es.length rs) (n0:0≤n) (n1:n < es.length):okW (aq es) (au rs) n=true:=by
  unfold okW
  rw [gH h1 h2 h,cC,hU hr]
  simp only [Bool.and_eq_true,decide_eq_true_eq]
  exact ⟨⟨⟨trivial,trivial⟩,n0⟩,n1⟩
theorem fS {d r:PyData} {n:Int} (h:okW d r n=true):∃ es rs,d=aq es∧r=au rs∧b8 d=es∧cy r=rs∧1≤es.length∧es.length≤6∧(∀ e∈es,e.Wk)∧bj es.length rs∧0≤n∧n < es.length:=by
  unfold okW at h
  simp only [Bool.and_eq_true,decide_eq_true_eq] at h
  obtain ⟨⟨⟨c1,c2⟩,n0⟩,n1⟩:=h
  obtain ⟨e1,l1,l6,hok⟩:=ku c1
  obtain ⟨e2,hr⟩:=lr c2
  exact ⟨b8 d,cy r,e1.symm,e2.symm,rfl,rfl,l1,l6,hok,hr,n0,n1⟩
end RS
set_option maxRecDepth 100000
set_option maxHeartbeats 1000000
namespace RS
open PySem L2
noncomputable def hdD (C:Addr) (m k t l:Int):PyData:=BX C [("number",.int m),("part",.int k),("tool",.int t),("times",.int l)]
noncomputable def jX (C:Addr) (es:List Er) (rs:List Int) (pl m k:Int) (p:Int × Option Int):List PyData:=match p.2 with
  | some t=>(match b6 es rs t with
    | some h=>if h≤pl then [hdD C m k t (p.1 - 1)] else []
    | none=>[])
  | none=>[]
noncomputable def hdM (C:Addr) (es:List Er) (rs:List Int) (pl m:Int):Nat→List (Int × Option Int)→List PyData
  | _,[]=>[]
  | k,p::r=>jX C es rs pl m k p++hdM C es rs pl m (k + 1) r
noncomputable def ji (C:Addr) (es:List Er) (rs:List Int) (pl:Int):List Int→List PyData
  | []=>[]
  | m::r=>hdM C es rs pl m 0 (az es m).parts++ji C es rs pl r
theorem uj (C:Addr) (es:List Er) (rs:List Int) (pl m k:Int) (p:Int × Option Int):(jX C es rs pl m k p).length≤1:=by
  unfold jX
  split
  · split
    · split <;> simp
    · simp
  · simp
theorem uO (C:Addr) (es:List Er) (rs:List Int) (pl m:Int):∀ (ps:List (Int × Option Int)) (k:Nat),(hdM C es rs pl m k ps).length≤ps.length
  | [],_=>by simp [hdM]
  | p::r,k=>by
    have h1:=uj C es rs pl m k p
    have h2:=uO C es rs pl m r (k + 1)
    unfold hdM
    rw [List.length_append,List.length_cons]; omega
noncomputable abbrev Cj (cs:Cs):Ds→Sr:=lg [5] 5 (ax (wO cs.Holding ["number", "part", "tool", "times"]) (af (ag 6) (af (ag 7) (af (g2 dIx (ag 8) (gC (.int 1))) (af (g2 k6 (g2 dIx (ag 8) (gC (.int 0))) (gC (.int 1))) ak)))))
noncomputable abbrev mQ (cs:Cs):Ds→Sr:=sIf (EF (gT (g1 fN (g2 dIx (ag 8) (gC (.int 1))))) (gT (g2 dLe (g2 dIx (ag 4) (g2 dIx (ag 8) (gC (.int 1)))) (ag 3)))) (Cj cs) bS
theorem Ea (cs:Cs) (es:List Er) (rs:List Int) (E R n:PyData) (pl:Nat) (m:Int) (HL:List PyData) (hHL:∀ t:Int,0≤t→t≤3→atI HL t=some (cB (b6 es rs t))) (p:Int × Option Int) (k:Nat) (acc:List PyData) (hl:acc.length < 1000000) (h:∀ t,p.2=some t→0≤t∧t≤3∧∃ h,b6 es rs t=some h) :
    mQ cs [some E,some R,some n,some (.int pl),some (.list HL),some (.list acc),some (.int m),some (.int k),some (bD p)]
     =.nx [some E,some R,some n,some (.int pl),some (.list HL),some (.list (acc++jX cs.Holding es rs pl m k p)),some (.int m),some (.int k),some (bD p)]:=by
  obtain ⟨l,o⟩:=p
  cases o with
  | none=>simp [mQ,CQ,cB,jX]
  | some t =>
    obtain ⟨h0,h3,hh,ht⟩:=h t rfl
    have ha:=hHL t h0 h3
    rw [ht] at ha
    have e1:dIx (bD (l,some t)) (.int 1)=some (.int t):=rfl
    have e0:dIx (bD (l,some t)) (.int 0)=some (.int l):=rfl
    have hix:dIx (.list HL) (.int t)=some (.int hh):=ha
    have add:Cj cs [some E,some R,some n,some (.int pl),some (.list HL),some (.list acc),some (.int m),some (.int k),some (bD (l,some t))]=.nx [some E,some R,some n,some (.int pl),some (.list HL),some (.list (acc++[hdD cs.Holding m k t (l - 1)])),some (.int m),some (.int k),some (bD (l,some t))]:=by
      unfold Cj lg
      simp only [List.getElem?_cons_succ,List.getElem?_cons_zero]
      simp only [bb,aH,aS,cL,aQ (show 6 ∉ [5] by decide),aQ (show 7 ∉ [5] by decide),aQ (show 8 ∉ [5] by decide),aw,ay,eo,Rs.aj,e1,e0,ug,Rs.ao]
      have hm:wO cs.Holding ["number", "part", "tool", "times"] [.int m,.int (k:Int),.int t,.int (l - 1)]=.ok (hdD cs.Holding m k t (l - 1)):=rfl
      rw [hm,aA,if_pos hl]
      rfl
    have hst:jX cs.Holding es rs pl m k (l,some t)=if hh≤(pl:Int) then [hdD cs.Holding m k t (l - 1)] else []:=by
      unfold jX; simp only [ht]
    rw [hst]
    by_cases hle:hh≤(pl:Int)
    · rw [if_pos hle,← add]
      simp [mQ,e1,hix,hle]
    · rw [if_neg hle,List.append_nil]
      simp [mQ,e1,hix,hle]
theorem wz (cs:Cs) (es:List Er) (rs:List Int) (E R n:PyData) (pl:Nat) (m:Int) (HL:List PyData) (hHL:∀ t:Int,0≤t→t≤3→atI HL t=some (cB (b6 es rs t))):∀ (ps:List (Int × Option Int)) (k:Nat) (acc:List PyData) (x7 x8:Option PyData),acc.length + ps.length < 1000000→(∀ p∈ps,∀ t,p.2=some t→0≤t∧t≤3∧∃ h,b6 es rs t=some h) →
    ∃ y7 y8,forL (fj [7,8]) (mQ cs) ((ps.map bD).mapIdx fun i d=>.tuple [.int ((k + i:Nat):Int),d])
      [some E,some R,some n,some (.int pl),some (.list HL),some (.list acc),some (.int m),x7,x8]
     =.nx [some E,some R,some n,some (.int pl),some (.list HL),some (.list (acc++hdM cs.Holding es rs pl m k ps)),some (.int m),y7,y8]
  | [],k,acc,x7,x8,_,_=>⟨x7,x8,by simp [forL,hdM]⟩
  | p::r,k,acc,x7,x8,hz,h=>by
    have hz':acc.length + (r.length + 1) < 1000000:=hz
    have hl1:=uj cs.Holding es rs pl m k p
    obtain ⟨y7,y8,e⟩:=wz cs es rs E R n pl m HL hHL r (k + 1) (acc++jX cs.Holding es rs pl m k p) (some (.int (k:Int))) (some (bD p)) (by rw [List.length_append]; omega) (fun q hq=>h q (List.mem_cons_of_mem _ hq))
    refine ⟨y7,y8,?_⟩
    rw [List.map_cons,List.mapIdx_cons]
    unfold forL
    have e1:fj [7,8] (PyData.tuple [.int ((k + 0:Nat):Int),bD p]) [some E,some R,some n,some (.int pl),some (.list HL),some (.list acc),some (.int m),x7,x8]=some [some E,some R,some n,some (.int pl),some (.list HL),some (.list acc),some (.int m),some (.int (k:Int)),some (bD p)]:=rfl
    rw [e1]
    simp only [Ea cs es rs E R n pl m HL hHL p k acc (by omega) (h p List.mem_cons_self)]
    have ef:(fun (i:Nat) (d:PyData)=>PyData.tuple [.int ((k + (i + 1):Nat):Int),d])=fun i d=>.tuple [.int ((k + 1 + i:Nat):Int),d]:=by
      funext i d; rw [show k + (i + 1)=k + 1 + i by omega]
    rw [ef,e]
    rw [show hdM cs.Holding es rs pl m k (p::r)=jX cs.Holding es rs pl m k p++hdM cs.Holding es rs pl m (k + 1) r from rfl,List.append_assoc]
theorem wR {es:List Er} {rs:List Int} (cs:Cs) (hsh:∀ e∈es,e.Sh) (hr:bj es.length rs) (n:PyData) (pl:Nat):∀ (ms:List Int) (acc:List PyData) (x6 x7 x8:Option PyData),acc.length + 1000 * ms.length < 1000000→(∀ m∈ms,m∈rs) →
    ∃ y6 y7 y8,forL (cQ 6) (k9 [5] (lM (af (g2 dIx (g2 dIx (ag 0) (ag 6)) (gC (.int 3))) ak)) (fj [7,8]) (mQ cs)) (ms.map PyData.int)
      [some (aq es),some (au rs),some n,some (.int pl),some (dB es rs),some (.list acc),x6,x7,x8]
     =.nx [some (aq es),some (au rs),some n,some (.int pl),some (dB es rs),some (.list (acc++ji cs.Holding es rs pl ms)),y6,y7,y8]
  | [],acc,x6,x7,x8,_,_=>⟨x6,x7,x8,by simp [forL,ji]⟩
  | m::r,acc,x6,x7,x8,hz,h=>by
    have hz':acc.length + 1000 * (r.length + 1) < 1000000:=hz
    have hm:=h m List.mem_cons_self
    have hrg:=hr.rng m hm
    have hsm:=hsh _ (bJ hrg.1 (by omega))
    have hpn:=hsm.pn
    have hml:=uO cs.Holding es rs pl m (az es m).parts 0
    obtain ⟨z7,z8,e1⟩:=wz cs es rs (aq es) (au rs) n pl m ((List.range 4).map fun (t:Nat)=>cB (b6 es rs t)) (fun t a b=>xS a b) (az es m).parts 0 acc x7 x8 (by omega) fun p hp t ht=>by
      obtain ⟨_,_,c⟩:=hsm.pl p hp
      have:=c t ht
      exact ⟨this.1,this.2,xq es t rs 0 m hm (GF hp ht)⟩
    obtain ⟨y6,y7,y8,e2⟩:=wR cs hsh hr n pl r (acc++hdM cs.Holding es rs pl m 0 (az es m).parts) (some (.int m)) z7 z8 (by rw [List.length_append]; omega) fun x hx=>h x (List.mem_cons_of_mem _ hx)
    refine ⟨y6,y7,y8,?_⟩
    rw [List.map_cons]
    unfold forL
    have a2:atI (es.map Er.d) m=some (az es m).d:=ia hrg.1 (by omega)
    have src:lM (af (g2 dIx (g2 dIx (ag 0) (ag 6)) (gC (.int 3))) ak) (mask [5] [some (aq es),some (au rs),some n,some (.int pl),some (dB es rs),some (.list acc),some (.int m),x7,x8])=.ok (((az es m).parts.map bD).mapIdx fun i d=>.tuple [.int ((0 + i:Nat):Int),d]):=by
      simp only [uZ,aH,aS,cL,aQ (show 0 ∉ [5] by decide),aQ (show 6 ∉ [5] by decide),aw,ay,eo,Rs.aj,aq,zT,a2,Rs.ao,FW,zV,iw,Nat.zero_add]
    have ht:cQ 6 (.int m) [some (aq es),some (au rs),some n,some (.int pl),some (dB es rs),some (.list acc),x6,x7,x8]=some [some (aq es),some (au rs),some n,some (.int pl),some (dB es rs),some (.list acc),some (.int m),x7,x8]:=rfl
    have e1':forL (fj [7,8]) (mQ cs) (((az es m).parts.map bD).mapIdx fun i d=>.tuple [.int ((0 + i:Nat):Int),d]) [some (aq es),some (au rs),some n,some (.int pl),some (dB es rs),some (.list acc),some (.int m),x7,x8]=.nx [some (aq es),some (au rs),some n,some (.int pl),some (dB es rs),some (.list (acc++hdM cs.Holding es rs pl m 0 (az es m).parts)),some (.int m),z7,z8]:=e1
    rw [ht]
    simp only [iC,src,aA,e1',e2]
    rw [show ji cs.Holding es rs pl (m::r)=hdM cs.Holding es rs pl m 0 (az es m).parts++ji cs.Holding es rs pl r from rfl,List.append_assoc]
noncomputable def cw (cs:Cs):Gf
  | [d,r,.int n]=>if okW d r n then .ok (.list (ji cs.Holding (b8 d) (cy r) (placeOf (cy r) n) ((cy r).drop (placeOf (cy r) n + 1)))) else .no
  | _=>.no
theorem lT {es:List Er} {rs:List Int} {n:Int} (cs:Cs) (h1:1≤es.length) (h2:es.length≤6) (h:∀ e∈es,e.Wk) (hr:bj es.length rs) (n0:0≤n) (n1:n < es.length):cw cs [aq es,au rs,.int n]=.ok (.list (ji cs.Holding es rs (placeOf rs n) (rs.drop (placeOf rs n + 1)))):=by
  unfold cw; simp only [lU h1 h2 h hr n0 n1,if_true,cC,dP]
theorem yx (cs:Cs):∀ ds,ds.length=3→cw cs ds≠.no→a7 (i6 cs b4 (ds.map some++List.replicate 6 none))=cw cs ds:=by
  intro ds hl hne
  obtain ⟨d,r,n,ez,hz⟩:=iJ hne
  clear hne; subst ez; have hne:=hz; clear hz
  · skip
    split at hne
    · rename_i hc
      obtain ⟨es,rs,rfl,rfl,_,_,l1,l6,hok,hr,n0,n1⟩:=fS hc
      rw [lT cs l1 l6 hok hr n0 n1]
      have hsh:∀ e∈es,e.Sh:=fun e he=>(hok e he).sh
      have hmem:=hr.mem n0 (by omega)
      have hix:=jz hmem
      have hh:=jS (by omega) hsh hr
      have hrl:=hr.len
      obtain ⟨y6,y7,y8,e⟩:=wR cs hsh hr (.int n) (placeOf rs n) (rs.drop (placeOf rs n + 1)) [] none none none (by rw [List.length_drop]; simp; omega) (fun m hm=>List.mem_of_mem_drop hm)
      have src:dR (cG (ag 1) (d4 (g2 br (ag 3) (gC (.int 1)))) ck) (mask [5] [some (aq es),some (au rs),some (.int n),some (.int (placeOf rs n)),some (dB es rs),some (.list []),none,none,none])=.ok ((rs.drop (placeOf rs n + 1)).map PyData.int):=by
        simp only [yq,j8,mD,iO,cL,aQ (show 1 ∉ [5] by decide),aQ (show 3 ∉ [5] by decide),aw,ay,eo,Rs.aj,fz,Rs.ao,mw,au,rX,Cu]
        rw [show (placeOf rs n:Int) + 1=((placeOf rs n + 1:Nat):Int) by omega,nR,List.map_drop]
      have s1:bh [5] 3 (oQ (ag 1) (ag 2)) [some (aq es),some (au rs),some (.int n),none,none,none,none,none,none]=.nx [some (aq es),some (au rs),some (.int n),some (.int (placeOf rs n)),none,none,none,none,none]:=by
        rw [gW,if_pos (by simp)]
        simp only [uL,aQ (show 1 ∉ [5] by decide),aQ (show 2 ∉ [5] by decide),aw,ay,Rs.aj,au,hix,Rs.ao,aA]
        rfl
      have s2:bh [5] 4 (ax b4 (af (ag 0) (af (ag 1) ak))) [some (aq es),some (au rs),some (.int n),some (.int (placeOf rs n)),none,none,none,none,none]=.nx [some (aq es),some (au rs),some (.int n),some (.int (placeOf rs n)),some (dB es rs),none,none,none,none]:=by
        rw [gW,if_pos (by simp)]
        simp only [bb,aH,aS,aQ (show 0 ∉ [5] by decide),aQ (show 1 ∉ [5] by decide),aw,ay,Rs.aj,hh,aA]
        rfl
      have s3:k7 [5] 5 ak [some (aq es),some (au rs),some (.int n),some (.int (placeOf rs n)),some (dB es rs),none,none,none,none]=.nx [some (aq es),some (au rs),some (.int n),some (.int (placeOf rs n)),some (dB es rs),some (.list []),none,none,none]:=rfl
      show a7 (i6 cs b4 [some (aq es),some (au rs),some (.int n),none,none,none,none,none,none])=_
      simp only [i6]
      rw [aZ,s1]; simp only
      rw [aZ,s2]; simp only
      rw [aZ,s3]; simp only
      rw [aZ,iC,src,aA,e]
      rfl
    · exact absurd rfl hne
end RS
set_option maxRecDepth 100000
set_option maxHeartbeats 1000000
namespace RS
open PySem L2
noncomputable def mJ (es:List Er) (rs:List Int) (pl:Int) (p:Int × Option Int):List Int:=match p.2 with
  | some t=>(match b6 es rs t with
    | some h=>if h≤pl then [p.1 - 1] else []
    | none=>[])
  | none=>[]
noncomputable def tms (es:List Er) (rs:List Int) (pl:Int):List (Int × Option Int)→List Int
  | []=>[]
  | p::r=>mJ es rs pl p++tms es rs pl r
theorem Ab (es:List Er) (rs:List Int) (pl:Int) (b:List (Int × Option Int)):∀ a,tms es rs pl (a++b)=tms es rs pl a++tms es rs pl b
  | []=>rfl
  | p::r=>by
    show mJ es rs pl p++tms es rs pl (r++b)=(mJ es rs pl p++tms es rs pl r)++_
    rw [Ab es rs pl b r,List.append_assoc]
theorem wj (es:List Er) (rs:List Int) (pl:Int):∀ (ps:List (Int × Option Int)) (acc:Int),ps.foldl (e7 es rs pl) acc=(tms es rs pl ps).foldl max acc
  | [],_=>rfl
  | p::r,acc=>by
    rw [List.foldl_cons,wj es rs pl r]
    show _=(mJ es rs pl p++tms es rs pl r).foldl max acc
    rw [List.foldl_append]
    have e:e7 es rs pl acc p=(mJ es rs pl p).foldl max acc:=by
      unfold e7 mJ
      cases p.2 with
      | none=>rfl
      | some t =>
        simp only
        cases b6 es rs t with
        | none=>rfl
        | some h=>simp only; split <;> rfl
    rw [e]
theorem q9 (es:List Er) (rs:List Int) (pl:Int):∀ (ps:List (Int × Option Int)),(∀ p∈ps,1≤p.1)→∀ a∈tms es rs pl ps,0≤a
  | [],_,a,h=>by cases h
  | p::r,hp,a,h=>by
    have h1:=hp p List.mem_cons_self
    unfold tms at h
    rcases List.mem_append.mp h with h | h
    · unfold mJ at h
      split at h
      · split at h
        · split at h
          · cases List.mem_singleton.mp h; omega
          · cases h
        · cases h
      · cases h
    · exact q9 es rs pl r (fun q hq=>hp q (List.mem_cons_of_mem _ hq)) a h
theorem Al {ns:List Int} (h:∀ a∈ns,0≤a):(wC ns).getD 0=ns.foldl max 0:=by
  have hf:(fun a b:Int=>if b > a then b else a)=max:=by funext a b; split <;> omega
  cases ns with
  | nil=>rfl
  | cons x r =>
    have hx:=h x List.mem_cons_self
    show r.foldl (fun a b:Int=>if b > a then b else a) x=r.foldl max (max 0 x)
    rw [hf,show max 0 x=x by omega]
noncomputable def tmD (C:Addr) (d:PyData):PyData:=(sM C "times" d).getD .none
theorem wb (C:Addr) (m k t l:Int):sM C "times" (hdD C m k t l)=some (.int l):=by
  have n1:¬ (("number":Str)="times"):=by decide +kernel
  have n2:¬ (("part":Str)="times"):=by decide +kernel
  have n3:¬ (("tool":Str)="times"):=by decide +kernel
  simp only [hdD,BX,List.map_cons,List.map_nil,sM,and_self,if_true,mK,n1,n2,n3,if_false]
theorem A9 (C:Addr) (es:List Er) (rs:List Int) (pl m k:Int) (p:Int × Option Int):(jX C es rs pl m k p).map (tmD C)=(mJ es rs pl p).map PyData.int∧∀ d∈jX C es rs pl m k p,sM C "times" d=some (tmD C d):=by
  unfold jX mJ
  cases p.2 with
  | none=>exact ⟨rfl,fun d hd=>by cases hd⟩
  | some t =>
    simp only
    cases b6 es rs t with
    | none=>exact ⟨rfl,fun d hd=>by cases hd⟩
    | some h =>
      simp only
      split
      · rw [List.map_cons,List.map_nil]
        refine ⟨by unfold tmD; rw [wb]; rfl,fun d hd=>?_⟩
        cases List.mem_singleton.mp hd
        unfold tmD; rw [wb]; rfl
      · exact ⟨rfl,fun d hd=>by cases hd⟩
theorem zD (C:Addr) (es:List Er) (rs:List Int) (pl m:Int):∀ (ps:List (Int × Option Int)) (k:Nat),(hdM C es rs pl m k ps).map (tmD C)=(tms es rs pl ps).map PyData.int∧∀ d∈hdM C es rs pl m k ps,sM C "times" d=some (tmD C d)
  | [],_=>⟨rfl,fun d hd=>by cases hd⟩
  | p::r,k=>by
    obtain ⟨a1,a2⟩:=A9 C es rs pl m k p
    obtain ⟨b1,b2⟩:=zD C es rs pl m r (k + 1)
    rw [show hdM C es rs pl m k (p::r)=jX C es rs pl m k p++hdM C es rs pl m (k + 1) r from rfl,show tms es rs pl (p::r)=mJ es rs pl p++tms es rs pl r from rfl]
    refine ⟨by rw [List.map_append,List.map_append,a1,b1],fun d hd=>?_⟩
    rcases List.mem_append.mp hd with h | h
    · exact a2 d h
    · exact b2 d h
theorem ur (C:Addr) (es:List Er) (rs:List Int) (pl:Int):∀ (ms:List Int),(ji C es rs pl ms).map (tmD C)=(tms es rs pl ((ms.map fun m=>(az es m).parts).flatten)).map PyData.int∧∀ d∈ji C es rs pl ms,sM C "times" d=some (tmD C d)
  | []=>⟨rfl,fun d hd=>by cases hd⟩
  | m::r=>by
    obtain ⟨a1,a2⟩:=zD C es rs pl m (az es m).parts 0
    obtain ⟨b1,b2⟩:=ur C es rs pl r
    unfold ji
    refine ⟨by rw [List.map_append,List.map_cons,List.flatten_cons,Ab,List.map_append,a1,b1],fun d hd=>?_⟩
    rcases List.mem_append.mp hd with h | h
    · exact a2 d h
    · exact b2 d h
theorem ui (C:Addr) (es:List Er) (rs:List Int) (pl:Int) (b:Nat):∀ (ms:List Int),(∀ m∈ms,(az es m).parts.length≤b)→(ji C es rs pl ms).length≤b * ms.length
  | [],_=>by simp [ji]
  | m::r,h=>by
    have h1:=h m List.mem_cons_self
    have h2:=uO C es rs pl m (az es m).parts 0
    have h3:=ui C es rs pl b r fun x hx=>h x (List.mem_cons_of_mem _ hx)
    unfold ji
    rw [List.length_append,List.length_cons,Nat.mul_succ]; omega
noncomputable def a6:Gf
  | [d,r,.int n]=>if okW d r n then .ok (.int (bY (b8 d) (cy r) n)) else .no
  | _=>.no
theorem fI {es:List Er} {rs:List Int} {n:Int} (h1:1≤es.length) (h2:es.length≤6) (h:∀ e∈es,e.Wk) (hr:bj es.length rs) (n0:0≤n) (n1:n < es.length):a6 [aq es,au rs,.int n]=.ok (.int (bY es rs n)):=by
  unfold a6; simp only [lU h1 h2 h hr n0 n1,if_true,cC,dP]
theorem rJ (cs:Cs):∀ ds,ds.length=3→a6 ds≠.no→a7 (eP cs (cw cs) (ds.map some++List.replicate 0 none))=a6 ds:=by
  intro ds hl hne
  obtain ⟨d,r,n,ez,hz⟩:=iJ hne
  clear hne; subst ez; have hne:=hz; clear hz
  · skip
    split at hne
    · rename_i hc
      obtain ⟨es,rs,rfl,rfl,_,_,l1,l6,hok,hr,n0,n1⟩:=fS hc
      rw [fI l1 l6 hok hr n0 n1]
      have hg:=lT cs l1 l6 hok hr n0 n1
      obtain ⟨m1,m2⟩:=ur cs.Holding es rs (placeOf rs n) (rs.drop (placeOf rs n + 1))
      have hrl:=hr.len
      have hol:∀ m∈rs.drop (placeOf rs n + 1),(az es m).Wk:=fun m hm=>by
        have:=hr.rng m (List.mem_of_mem_drop hm)
        exact hok _ (bJ this.1 (by omega))
      have hln:=ui cs.Holding es rs (placeOf rs n) 4 (rs.drop (placeOf rs n + 1)) fun m hm=>(hol m hm).p2
      have hdl:(rs.drop (placeOf rs n + 1)).length≤6:=by rw [List.length_drop]; omega
      have hcm:bX 3 (dR (ax (cw cs) (af (ag 0) (af (ag 1) (af (ag 2) ak))))) bV (g1 (sM cs.Holding "times") (ag 3)) bx [some (aq es),some (au rs),some (.int n)]=.ok ((ji cs.Holding es rs (placeOf rs n) (rs.drop (placeOf rs n + 1))).map (tmD cs.Holding)) :=
        cK rfl (by simp only [yq,bb,aH,aS,aw,ay,Rs.aj,hg]; rfl) (by omega) fun x hx=>by
          simp only [List.cons_append,List.nil_append,rT,aw,ay,Rs.aj,m2 x hx,Rs.ao]
      have hmx:wV (.list ((ji cs.Holding es rs (placeOf rs n) (rs.drop (placeOf rs n + 1))).map (tmD cs.Holding))) (.int 0)=some (.int (bY es rs n)):=by
        unfold wV
        simp only
        rw [m1,dh,Option.map_some,Al (q9 _ _ _ _ fun p hp=>?_),← wj]
        · rfl
        · obtain ⟨l,hl,hpl⟩:=List.mem_flatten.mp hp
          obtain ⟨m,hm,rfl⟩:=List.mem_map.mp hl
          exact ((hol m hm).pl p hpl).1
      show a7 (eP cs (cw cs) [some (aq es),some (au rs),some (.int n)])=_
      simp only [eP,cp,cL,nU,hcm,Rs.aj,eo,hmx,Rs.ao,aA,bR]
    · exact absurd rfl hne
theorem Ga (cs:Cs):∀ ds,ds.length=3→dH ds≠.no→a7 (rL cs a6 aL (ds.map some++List.replicate 0 none))=dH ds:=by
  intro ds hl hne
  obtain ⟨d,r,n,ez,hz⟩:=iJ hne
  clear hne; subst ez; have hne:=hz; clear hz
  · skip
    split at hne
    · rename_i hc
      obtain ⟨es,rs,rfl,rfl,_,_,l1,l6,hok,hr,n0,n1⟩:=md hc
      have h1:=nq l1 l6 hok hr n0 n1
      have h3:=fI l1 l6 (fun e he=>(hok e he).wk) hr n0 n1
      have h2:=eM l1 l6 hok hr n0 n1
      show a7 (rL cs a6 aL [some (aq es),some (au rs),some (.int n)])=_
      simp only [rL,aZ,nG,bb,aH,aS,aw,ay,Rs.aj,h2,aA,cp,h3,bR,h1]
    · exact absurd rfl hne
end RS
set_option maxRecDepth 100000
set_option maxHeartbeats 1000000
namespace RS
open PySem L2
noncomputable def pX (f:Int→Int) (T:Int):Nat→Int→List Int
  | 0,l=>[l]
  | m + 1,l=>if l=T then [l] else l::pX f T m (f l)
noncomputable def AF:Option (List Int)→PyData
  | some l=>.list (l.map .int)
  | none=>.none
structure Top (f:Int→Int) (T:Int):Prop where
  fix:f T=T
  one:1≤T
  low:∀ s,1≤s→s < T→¬ f s≤s
theorem rZ {f:Int→Int} {T:Int} (R:o6 f) (P:Top f T):∀ (m:Nat) (l:Int),1≤l→l≤T→T - l≤m→(pX f T m l).getLast?=some T
  | 0,l,h1,h2,h3=>by
    have:l=T:=by omega
    rw [this]; rfl
  | m + 1,l,h1,h2,h3=>by
    unfold pX
    by_cases z:l=T
    · rw [if_pos z,z]; rfl
    · rw [if_neg z,List.getLast?_cons]
      have hf:=P.low l h1 (by omega)
      have hT:=R.mono l T h1 h2
      rw [P.fix] at hT
      rw [rZ R P m (f l) (by omega) hT (by omega)]; rfl
end RS
set_option maxRecDepth 100000
set_option maxHeartbeats 1000000
namespace RS
open PySem L2
noncomputable def bN:Gf
  | [.int t,.int e]=>if 0 < e∧e < 1073741824 then .ok (.int ((t + e - 1) / e)) else .no
  | _=>.no
theorem FG {f:Int→Int→Rs PyData} {ds:List PyData} (h:(match ds with | [.int x0,.int x1]=>f x0 x1 | _=>.no)≠.no):∃ x0 x1,ds=[.int x0,.int x1]∧f x0 x1≠.no:=by
  rcases ds with _ | ⟨x0,_ | ⟨x1,_ | ⟨y,ys⟩⟩⟩
  · exact absurd rfl h
  · first | exact absurd rfl h | (cases x0 <;> exact absurd rfl h)
  · skip
    cases x0 with
    | int x0 =>
      cases x1 with
      | int x1 =>
        exact ⟨_,_,rfl,h⟩
      | _=>exact absurd rfl h
    | _=>first | exact absurd rfl h | (cases x1 <;> exact absurd rfl h)
  · first | exact absurd rfl h | (cases x0 <;> first | exact absurd rfl h | (cases x1 <;> exact absurd rfl h))
theorem uE (cs:Cs):∀ ds,ds.length=2→bN ds≠.no→a7 (fZ cs (ds.map some++List.replicate 0 none))=bN ds:=by
  intro ds hl hne
  obtain ⟨t,e,ez,hz⟩:=FG hne
  clear hne; subst ez; have hne:=hz; clear hz
  unfold bN
  · skip
    split at hne
    · rename_i hc
      simp only [if_pos hc]
      show a7 (fZ cs [some (.int t),some (.int e)])=_
      simp only [fZ,cp,cL,aw,ay,eo,Rs.aj,fz,ug,Rs.ao,EN,if_pos hc,aA,bR]
    · exact absurd rfl hne
theorem DB {x e:Int} (h:0 < e):(x + e - 1) / e=x / e + (if x % e > 0 then 1 else 0):=by
  have h1:=Int.mul_ediv_add_emod x e
  have h2:=Int.emod_nonneg x (show e≠0 by omega)
  have h3:=Int.emod_lt_of_pos x h
  generalize x / e=q at *
  generalize x % e=r at *
  have ex:x + e - 1=r + e - 1 + e * q:=by omega
  rw [ex,Int.add_mul_ediv_left _ _ (by omega)]
  by_cases z:r > 0
  · rw [if_pos z,show r + e - 1=(r - 1) + e * 1 by omega,Int.add_mul_ediv_left _ _ (by omega),Int.ediv_eq_zero_of_lt (by omega) (by omega)]; omega
  · rw [if_neg z,Int.ediv_eq_zero_of_lt (by omega) (by omega)]; omega
theorem tx {e:Er} {t:Int} (h:e.Sh):bN [.int (t + e.late),.int e.every]=.ok (.int (e.times t)):=by
  have h1:=h.e1; have h2:=h.e2
  unfold bN
  simp only [if_pos (show 0 < e.every∧e.every < 1073741824 from ⟨by omega,h2⟩)]
  rw [DB (by omega)]
  rfl
noncomputable def eR (es:List Er) (rs:List Int) (n h t:Int):Int:=h + (az es n).work + ((rs.take (placeOf rs n)).map fun m=>(az es m).times t * (az es m).work).sum
theorem nQ {es:List Er} {rs:List Int} {n h:Int} (hok:∀ e∈es,e.Wk) (hr:bj es.length rs) (n0:0≤n) (n1:n < es.length) (h0:0≤h):o6 (eR es rs n h) where
  mono:=fun t u _ ht=>by
    have:=xn (n:=n) (fun e he=>(hok e he).sh) hr ht
    unfold dr at this
    unfold eR
    omega
  one:=fun t ht=>by
    unfold eR
    have h2:=(hok _ (bJ n0 n1)).work1
    have h3:=g0 (fun m=>(az es m).times t * (az es m).work) (rs.take (placeOf rs n)) fun m hm=>by
      have hm':=hr.rng m (List.mem_of_mem_take hm)
      have ho:=hok _ (bJ hm'.1 hm'.2)
      have l0:=ho.l1
      exact Int.mul_nonneg (Er.times_pos ho.sh.e1 (by omega)) ho.sh.work_b.1
    omega
noncomputable def cW:Gf
  | [d,r,.int n,.int h,.int t]=>if okW d r n then .ok (.int (eR (b8 d) (cy r) n h t)) else .no
  | _=>.no
theorem rp {es:List Er} {rs:List Int} {n h t:Int} (h1:1≤es.length) (h2:es.length≤6) (hk:∀ e∈es,e.Wk) (hr:bj es.length rs) (n0:0≤n) (n1:n < es.length):cW [aq es,au rs,.int n,.int h,.int t]=.ok (.int (eR es rs n h t)):=by
  unfold cW; simp only [lU h1 h2 hk hr n0 n1,if_true,cC,dP]
theorem zy {i:Nat} {g:Ds→Rs PyData} {δ:Ds} {a b:Int} (h:δ[i]?=some (some (.int a))) (hg:g δ=.ok (.int b)):vi [] i g δ=.nx (δ.set i (some (.int (a + b)))):=by
  unfold vi; rw [ig,h]; simp only [hg,aA]
noncomputable abbrev Cp:Ds→Sr:=bf (bh [] 7 (g2 dIx (ag 0) (ag 6)))
    (vi [] 5 (g2 qS (ax cU (af (ag 7) ak)) (ax bN (af (g2 br (ag 4) (g2 dIx (ag 7) (gC (.int 2)))) (af (g2 dIx (ag 7) (gC (.int 0))) ak)))))
theorem zJ {es:List Er} {rs:List Int} (hsh:∀ e∈es,e.Sh) (hr:bj es.length rs) (n h:PyData) (t:Int):∀ (ms:List Int) (acc:Int) (x6 x7:Option PyData),(∀ m∈ms,m∈rs) →
    ∃ y6 y7,forL (cQ 6) Cp (ms.map PyData.int) [some (aq es),some (au rs),some n,some h,some (.int t),some (.int acc),x6,x7]
     =.nx [some (aq es),some (au rs),some n,some h,some (.int t),some (.int (acc + (ms.map fun m=>(az es m).times t * (az es m).work).sum)),y6,y7]
  | [],acc,x6,x7,_=>⟨x6,x7,by simp [forL]⟩
  | m::r,acc,x6,x7,hm'=>by
    have hm:=hm' m List.mem_cons_self
    have hrg:=hr.rng m hm
    have hsm:=hsh _ (bJ hrg.1 (by omega))
    have a2:atI (es.map Er.d) m=some (az es m).d:=ia hrg.1 (by omega)
    obtain ⟨y6,y7,e2⟩:=zJ hsh hr n h t r (acc + (az es m).times t * (az es m).work) (some (.int m)) (some (az es m).d) fun x hx=>hm' x (List.mem_cons_of_mem _ hx)
    refine ⟨y6,y7,?_⟩
    have hw:=hsm.work_b
    have hgw:=jl hsm
    have hgr:=tx (t:=t) hsm
    rw [List.map_cons,List.map_cons,List.sum_cons,← Int.add_assoc]
    unfold forL
    generalize hE:az es m=e at *
    have i2:dIx e.d (.int 2)=some (.int e.late):=rfl
    have i0:dIx e.d (.int 0)=some (.int e.every):=rfl
    have st1:bh [] 7 (g2 dIx (ag 0) (ag 6)) [some (aq es),some (au rs),some n,some h,some (.int t),some (.int acc),some (.int m),x7]=.nx [some (aq es),some (au rs),some n,some h,some (.int t),some (.int acc),some (.int m),some e.d]:=by
      rw [df,if_pos (by simp)]
      simp only [cL,aw,ay,Rs.aj,aq,zT,a2,Rs.ao,aA]
      rfl
    have st2:vi [] 5 (g2 qS (ax cU (af (ag 7) ak)) (ax bN (af (g2 br (ag 4) (g2 dIx (ag 7) (gC (.int 2)))) (af (g2 dIx (ag 7) (gC (.int 0))) ak)))) [some (aq es),some (au rs),some n,some h,some (.int t),some (.int acc),some (.int m),some e.d]=.nx [some (aq es),some (au rs),some n,some h,some (.int t),some (.int (acc + e.times t * e.work)),some (.int m),some e.d]:=by
      rw [zy (a:=acc) (b:=e.times t * e.work) rfl]
      · rfl
      · simp only [cL,bb,aH,aS,aw,ay,eo,Rs.aj,i2,i0,Rs.ao,fz,hgw,hgr,xX (b:=e.times t) (show -(2 ^ 64) < e.work by omega) (show e.work < 2 ^ 64 by omega)]
        rw [Int.mul_comm e.work]
    have ht:cQ 6 (.int m) [some (aq es),some (au rs),some n,some h,some (.int t),some (.int acc),x6,x7]=some [some (aq es),some (au rs),some n,some h,some (.int t),some (.int acc),some (.int m),x7]:=rfl
    rw [ht]
    simp only [Cp,aZ,st1,st2]
    exact e2
theorem A5 {f:PyData→PyData→Int→Int→Int→Rs PyData} {ds:List PyData} (h:(match ds with | [x0,x1,.int x2,.int x3,.int x4]=>f x0 x1 x2 x3 x4 | _=>.no)≠.no):∃ x0 x1 x2 x3 x4,ds=[x0,x1,.int x2,.int x3,.int x4]∧f x0 x1 x2 x3 x4≠.no:=by
  rcases ds with _ | ⟨x0,_ | ⟨x1,_ | ⟨x2,_ | ⟨x3,_ | ⟨x4,_ | ⟨y,ys⟩⟩⟩⟩⟩⟩
  · exact absurd rfl h
  · exact absurd rfl h
  · exact absurd rfl h
  · first | exact absurd rfl h | (cases x2 <;> exact absurd rfl h)
  · first | exact absurd rfl h | (cases x2 <;> first | exact absurd rfl h | (cases x3 <;> exact absurd rfl h))
  · skip
    cases x2 with
    | int x2 =>
      cases x3 with
      | int x3 =>
        cases x4 with
        | int x4 =>
          exact ⟨_,_,_,_,_,rfl,h⟩
        | _=>exact absurd rfl h
      | _=>first | exact absurd rfl h | (cases x4 <;> exact absurd rfl h)
    | _=>first | exact absurd rfl h | (cases x3 <;> first | exact absurd rfl h | (cases x4 <;> exact absurd rfl h))
  · first | exact absurd rfl h | (cases x2 <;> first | exact absurd rfl h | (cases x3 <;> first | exact absurd rfl h | (cases x4 <;> exact absurd rfl h)))
theorem F6 (cs:Cs):∀ ds,ds.length=5→cW ds≠.no→a7 (qU cs cU bN (ds.map some++List.replicate 3 none))=cW ds:=by
  intro ds hl hne
  obtain ⟨d,r,n,h,t,ez,hz⟩:=A5 hne
  clear hne; subst ez; have hne:=hz; clear hz
  · skip
    split at hne
    · rename_i hc
      obtain ⟨es,rs,rfl,rfl,_,_,l1,l6,hok,hr,n0,n1⟩:=fS hc
      rw [rp l1 l6 hok hr n0 n1]
      have hsh:∀ e∈es,e.Sh:=fun e he=>(hok e he).sh
      have hmem:=hr.mem n0 (by omega)
      have hix:=jz hmem
      have hsn:=hsh _ (bJ n0 n1)
      have a2:atI (es.map Er.d) n=some (az es n).d:=ia n0 n1
      have hgw:=jl hsn
      obtain ⟨y6,y7,e⟩:=zJ hsh hr (.int n) (.int h) t (rs.take (placeOf rs n)) (h + (az es n).work) none none (fun m hm=>List.mem_of_mem_take hm)
      have src:dR (cG (ag 1) ck (d4 (oQ (ag 1) (ag 2)))) [some (aq es),some (au rs),some (.int n),some (.int h),some (.int t),some (.int (h + (az es n).work)),none,none]=.ok ((rs.take (placeOf rs n)).map PyData.int):=by
        simp only [yq,j8,mD,iO,uL,aw,ay,Rs.aj,au,hix,Rs.ao,mw,rX,Cu]
        rw [ve,List.map_take]
      have st0:bh [] 5 (g2 br (ag 3) (ax cU (af (g2 dIx (ag 0) (ag 2)) ak))) [some (aq es),some (au rs),some (.int n),some (.int h),some (.int t),none,none,none]=.nx [some (aq es),some (au rs),some (.int n),some (.int h),some (.int t),some (.int (h + (az es n).work)),none,none]:=by
        rw [df,if_pos (by simp)]
        simp only [cL,bb,aH,aS,aw,ay,Rs.aj,aq,zT,a2,Rs.ao,hgw,fz,aA]
        rfl
      show a7 (qU cs cU bN [some (aq es),some (au rs),some (.int n),some (.int h),some (.int t),none,none,none])=_
      simp only [qU]
      rw [aZ,st0]
      simp only
      rw [aZ,iC,ig,src,aA,e]
      rfl
    · exact absurd rfl hne
end RS
set_option maxRecDepth 100000
set_option maxHeartbeats 1000000
namespace RS
open PySem L2
noncomputable def qE (es:List Er) (rs:List Int) (n h:Int):Option Int:=fb ((az es n).every - (az es n).late).toNat fun t=>decide (eR es rs n h t≤t)
theorem y3 (es:List Er) (rs:List Int) (n:Int):qE es rs n (bY es rs n)=bu es rs n:=rfl
noncomputable def jA (es:List Er) (rs:List Int) (n h:Int):Option (List Int):=(qE es rs n h).map fun T=>pX (eR es rs n h) T T.toNat (eR es rs n h 1)
noncomputable abbrev uJ:Ds→Rs Bool:=gT (g2 dLe (ag 6) (ag 4))
noncomputable abbrev vL:Ds→Sr:=bf (lg [5] 5 (ag 6))
    (bf (bh [5] 7 (ax cW (af (ag 0) (af (ag 1) (af (ag 2) (af (ag 3) (af (ag 6) ak)))))))
    (bf (sIf (gT (g2 dEq (ag 7) (ag 6))) (bM (ag 5)) bS)
    (bh [5] 6 (ag 7))))
section
variable {E Rr N h:PyData} {f:Int→Int} {most:Int}
theorem va (gfn:∀ t,cW [E,Rr,N,h,.int t]=.ok (.int (f t))) (l:Int) (acc:List PyData) (hl:acc.length < 1000000) (x7:Option PyData) :
    vL [some E,some Rr,some N,some h,some (.int most),some (.list acc),some (.int l),x7]
     =if f l=l then .rt (.list (acc++[.int l])) else .nx [some E,some Rr,some N,some h,some (.int most),some (.list (acc++[.int l])),some (.int (f l)),some (.int (f l))]:=by
  have s1:lg [5] 5 (ag 6) [some E,some Rr,some N,some h,some (.int most),some (.list acc),some (.int l),x7]=.nx [some E,some Rr,some N,some h,some (.int most),some (.list (acc++[.int l])),some (.int l),x7]:=by
    unfold lg
    simp only [List.getElem?_cons_succ,List.getElem?_cons_zero,aQ (show 6 ∉ [5] by decide),aw,ay,aA,if_pos hl]
    rfl
  have s2:bh [5] 7 (ax cW (af (ag 0) (af (ag 1) (af (ag 2) (af (ag 3) (af (ag 6) ak)))))) [some E,some Rr,some N,some h,some (.int most),some (.list (acc++[.int l])),some (.int l),x7]=.nx [some E,some Rr,some N,some h,some (.int most),some (.list (acc++[.int l])),some (.int l),some (.int (f l))]:=by
    rw [gW,if_pos (by simp)]
    simp only [bb,aH,aS,aQ (show 0 ∉ [5] by decide),aQ (show 1 ∉ [5] by decide),aQ (show 2 ∉ [5] by decide),aQ (show 3 ∉ [5] by decide),aQ (show 6 ∉ [5] by decide),aw,ay,Rs.aj,gfn,aA]
    rfl
  have s3:bh [5] 6 (ag 7) [some E,some Rr,some N,some h,some (.int most),some (.list (acc++[.int l])),some (.int l),some (.int (f l))]=.nx [some E,some Rr,some N,some h,some (.int most),some (.list (acc++[.int l])),some (.int (f l)),some (.int (f l))]:=by
    rw [gW,if_pos (by simp)]
    simp only [aQ (show 7 ∉ [5] by decide),aw,ay,aA]
    rfl
  unfold vL
  rw [aZ,s1]; simp only
  rw [aZ,s2]; simp only
  rw [aZ]
  by_cases z:f l=l
  · rw [if_pos z]
    have q:(f l == l)=true:=by simpa using z
    simp only [fu,gZ,cL,aw,ay,Rs.aj,nO,q,Rs.ao,b9,if_true,aA,cp]
  · rw [if_neg z]
    have q:(f l == l)=false:=by simpa using z
    simp only [fu,gZ,cL,aw,ay,Rs.aj,nO,q,Rs.ao,b9,if_false,Bool.false_eq_true,aA,ib,s3]
theorem qm (l:Int) (a x7:Option PyData):uJ [some E,some Rr,some N,some h,some (.int most),a,some (.int l),x7]=.ok (decide (l≤most)):=by
  simp only [uJ,gZ,cL,aw,ay,Rs.aj,HM,Rs.ao,b9]
theorem zl (gfn:∀ t,cW [E,Rr,N,h,.int t]=.ok (.int (f t))) (R:o6 f) {T:Int} (P:Top f T) (hT:T≤most):∀ (j fuel:Nat) (l:Int) (acc:List PyData) (x7:Option PyData),1≤l→l≤T→T - l≤j→j < fuel→acc.length + j < 1000000 →
    dk uJ vL fuel [some E,some Rr,some N,some h,some (.int most),some (.list acc),some (.int l),x7]=.rt (.list (acc++(pX f T j l).map PyData.int))
  | j,0,l,acc,x7,_,_,_,hf,_=>absurd hf (Nat.not_lt_zero _)
  | 0,fuel + 1,l,acc,x7,h1,h2,h3,hf,hc=>by
    have e:l=T:=by omega
    have ef:f l=l:=by rw [e]; exact P.fix
    unfold dk
    rw [qm,aA,decide_eq_true (show l≤most by omega),if_pos rfl,va gfn l acc (by omega),if_pos ef]
    rfl
  | j + 1,fuel + 1,l,acc,x7,h1,h2,h3,hf,hc=>by
    unfold dk
    rw [qm,aA,decide_eq_true (show l≤most by omega),if_pos rfl,va gfn l acc (by omega)]
    unfold pX
    by_cases e:l=T
    · have ef:f l=l:=by rw [e]; exact P.fix
      rw [if_pos ef,if_pos e]
      rfl
    · have hl:=P.low l h1 (by omega)
      have hm:=R.mono l T h1 h2
      rw [P.fix] at hm
      rw [if_neg (show ¬ f l=l by omega),if_neg e]
      simp only
      rw [zl gfn R P hT j fuel (f l) (acc++[PyData.int l]) _ (by omega) hm (by omega) (by omega) (by rw [List.length_append,List.length_singleton]; omega)]
      rw [List.map_cons,List.append_assoc]; rfl
theorem zU (gfn:∀ t,cW [E,Rr,N,h,.int t]=.ok (.int (f t))) (no:∀ s,1≤s→s≤most→¬ f s≤s):∀ (j fuel:Nat) (l:Int) (acc:List PyData) (x7:Option PyData),1≤l→most - l < j→j < fuel→acc.length + j < 1000000 →
    ∃ δ,dk uJ vL fuel [some E,some Rr,some N,some h,some (.int most),some (.list acc),some (.int l),x7]=.nx δ
  | j,0,l,acc,x7,_,_,hf,_=>absurd hf (Nat.not_lt_zero _)
  | 0,fuel + 1,l,acc,x7,h1,h3,hf,hc=>by
    unfold dk
    rw [qm,aA,decide_eq_false (show ¬ l≤most by omega),if_neg (by decide)]
    exact ⟨_,rfl⟩
  | j + 1,fuel + 1,l,acc,x7,h1,h3,hf,hc=>by
    unfold dk
    rw [qm,aA]
    by_cases e:l≤most
    · rw [decide_eq_true e,if_pos rfl,va gfn l acc (by omega)]
      have hl:=no l h1 e
      rw [if_neg (show ¬ f l=l by omega)]
      simp only
      exact zU gfn no j fuel (f l) (acc++[PyData.int l]) _ (by omega) (by omega) (by omega) (by rw [List.length_append,List.length_singleton]; omega)
    · rw [decide_eq_false e,if_neg (by decide)]
      exact ⟨_,rfl⟩
end
noncomputable def cu:Gf
  | [d,r,.int n,.int h]=>if okW d r n && decide (0≤h) then .ok (AF (jA (b8 d) (cy r) n h)) else .no
  | _=>.no
theorem kY {es:List Er} {rs:List Int} {n h:Int} (h1:1≤es.length) (h2:es.length≤6) (hk:∀ e∈es,e.Wk) (hr:bj es.length rs) (n0:0≤n) (n1:n < es.length) (h0:0≤h):cu [aq es,au rs,.int n,.int h]=.ok (AF (jA es rs n h)):=by
  unfold cu; simp only [lU h1 h2 hk hr n0 n1,decide_eq_true h0,Bool.and_self,if_true,cC,dP]
theorem zI {es:List Er} {rs:List Int} {n h T:Int} (R:o6 (eR es rs n h)) (e:qE es rs n h=some T):Top (eR es rs n h) T∧T≤(az es n).every - (az es n).late:=by
  obtain ⟨h1,h2,h3,h4⟩:=ec e
  have h4':∀ s,1≤s→s < T→¬ eR es rs n h s≤s:=fun s a b=>of_decide_eq_false (h4 s a b)
  exact ⟨⟨R.fix h1 (of_decide_eq_true h3) h4',h1,h4'⟩,by omega⟩
theorem sk {f:PyData→PyData→Int→Int→Rs PyData} {ds:List PyData} (h:(match ds with | [x0,x1,.int x2,.int x3]=>f x0 x1 x2 x3 | _=>.no)≠.no):∃ x0 x1 x2 x3,ds=[x0,x1,.int x2,.int x3]∧f x0 x1 x2 x3≠.no:=by
  rcases ds with _ | ⟨x0,_ | ⟨x1,_ | ⟨x2,_ | ⟨x3,_ | ⟨y,ys⟩⟩⟩⟩⟩
  · exact absurd rfl h
  · exact absurd rfl h
  · exact absurd rfl h
  · first | exact absurd rfl h | (cases x2 <;> exact absurd rfl h)
  · skip
    cases x2 with
    | int x2 =>
      cases x3 with
      | int x3 =>
        exact ⟨_,_,_,_,rfl,h⟩
      | _=>exact absurd rfl h
    | _=>first | exact absurd rfl h | (cases x3 <;> exact absurd rfl h)
  · first | exact absurd rfl h | (cases x2 <;> first | exact absurd rfl h | (cases x3 <;> exact absurd rfl h))
theorem wD (cs:Cs):∀ ds,ds.length=4→cu ds≠.no→a7 (iq cs cW (ds.map some++List.replicate 4 none))=cu ds:=by
  intro ds hl hne
  obtain ⟨d,r,n,h,ez,hz⟩:=sk hne
  clear hne; subst ez; have hne:=hz; clear hz
  · skip
    split at hne
    · rename_i hc
      simp only [Bool.and_eq_true,decide_eq_true_eq] at hc
      obtain ⟨hc,h0⟩:=hc
      obtain ⟨es,rs,rfl,rfl,_,_,l1,l6,hok,hr,n0,n1⟩:=fS hc
      rw [kY l1 l6 hok hr n0 n1 h0]
      have gfn:∀ t,cW [aq es,au rs,.int n,.int h,.int t]=.ok (.int (eR es rs n h t)):=fun t=>rp l1 l6 hok hr n0 n1
      have R:=nQ (h:=h) hok hr n0 n1 h0
      have hon:=hok _ (bJ n0 n1)
      have a2:atI (es.map Er.d) n=some (az es n).d:=ia n0 n1
      have a3:dIx (aq es) (.int n)=some (az es n).d:=a2
      have i2:dIx (az es n).d (.int 2)=some (.int (az es n).late):=rfl
      have i0:dIx (az es n).d (.int 0)=some (.int (az es n).every):=rfl
      have e60:=hon.e2; have la0:=hon.l1
      have f1:=R.one 1 (by decide)
      generalize hM:(az es n).every - (az es n).late=M at *
      have s1:bh [5] 4 (g2 k6 (g2 dIx (g2 dIx (ag 0) (ag 2)) (gC (.int 0))) (g2 dIx (g2 dIx (ag 0) (ag 2)) (gC (.int 2)))) [some (aq es),some (au rs),some (.int n),some (.int h),none,none,none,none]=.nx [some (aq es),some (au rs),some (.int n),some (.int h),some (.int M),none,none,none]:=by
        rw [gW,if_pos (by simp)]
        simp only [cL,aQ (show 0 ∉ [5] by decide),aQ (show 2 ∉ [5] by decide),aw,ay,eo,Rs.aj,a3,i2,i0,Rs.ao,ug,aA,hM]
        rfl
      have s2:k7 [5] 5 ak [some (aq es),some (au rs),some (.int n),some (.int h),some (.int M),none,none,none]=.nx [some (aq es),some (au rs),some (.int n),some (.int h),some (.int M),some (.list []),none,none]:=rfl
      have s3:bh [5] 6 (ax cW (af (ag 0) (af (ag 1) (af (ag 2) (af (ag 3) (af (gC (.int 1)) ak)))))) [some (aq es),some (au rs),some (.int n),some (.int h),some (.int M),some (.list []),none,none]=.nx [some (aq es),some (au rs),some (.int n),some (.int h),some (.int M),some (.list []),some (.int (eR es rs n h 1)),none]:=by
        rw [gW,if_pos (by simp)]
        simp only [bb,aH,aS,aQ (show 0 ∉ [5] by decide),aQ (show 1 ∉ [5] by decide),aQ (show 2 ∉ [5] by decide),aQ (show 3 ∉ [5] by decide),aw,ay,eo,Rs.aj,gfn,aA]
        rfl
      show a7 (iq cs cW [some (aq es),some (au rs),some (.int n),some (.int h),none,none,none,none])=_
      simp only [iq]
      rw [aZ,s1]; simp only
      rw [aZ,s2]; simp only
      rw [aZ,s3]; simp only
      rw [aZ]
      cases q:qE es rs n h with
      | some T =>
        obtain ⟨P,hT⟩:=zI R q
        rw [hM] at hT
        have hle:eR es rs n h 1≤T:=by have:=R.mono 1 T (by decide) P.one; rw [P.fix] at this; exact this
        have w:=zl gfn R P hT T.toNat 1000000 (eR es rs n h 1) [] none f1 hle (by omega) (by omega) (by simp; omega)
        rw [w]
        simp only [jA,q,Option.map_some,AF,List.nil_append,bR]
      | none =>
        have no:∀ s,1≤s→s≤M→¬ eR es rs n h s≤s:=fun s a b=>by
          have:=kL q s a (by omega)
          exact of_decide_eq_false this
        obtain ⟨δ,w⟩:=zU gfn no 100 1000000 (eR es rs n h 1) [] none f1 (by omega) (by decide) (by decide)
        rw [w]
        simp only [jA,q,Option.map_none,AF,cp,eo,aA,bR]
    · exact absurd rfl hne
end RS
set_option maxRecDepth 100000
set_option maxHeartbeats 1000000
namespace RS
open PySem L2
noncomputable def cf:Gf
  | [d,r,.int n,.int h]=>if okW d r n && decide (0≤h) then .ok (cB (qE (b8 d) (cy r) n h)) else .no
  | _=>.no
theorem kg {es:List Er} {rs:List Int} {n h:Int} (h1:1≤es.length) (h2:es.length≤6) (hk:∀ e∈es,e.Wk) (hr:bj es.length rs) (n0:0≤n) (n1:n < es.length) (h0:0≤h):cf [aq es,au rs,.int n,.int h]=.ok (cB (qE es rs n h)):=by
  unfold cf; simp only [lU h1 h2 hk hr n0 n1,decide_eq_true h0,Bool.and_self,if_true,cC,dP]
theorem uH (cs:Cs):∀ ds,ds.length=4→cf ds≠.no→a7 (fe cs cu (ds.map some++List.replicate 1 none))=cf ds:=by
  intro ds hl hne
  obtain ⟨d,r,n,h,ez,hz⟩:=sk hne
  clear hne; subst ez; have hne:=hz; clear hz
  · skip
    split at hne
    · rename_i hc
      simp only [Bool.and_eq_true,decide_eq_true_eq] at hc
      obtain ⟨hc,h0⟩:=hc
      obtain ⟨es,rs,rfl,rfl,_,_,l1,l6,hok,hr,n0,n1⟩:=fS hc
      rw [kg l1 l6 hok hr n0 n1 h0]
      have hg:=kY l1 l6 hok hr n0 n1 h0
      have R:=nQ (h:=h) hok hr n0 n1 h0
      show a7 (fe cs cu [some (aq es),some (au rs),some (.int n),some (.int h),none])=_
      cases q:qE es rs n h with
      | none =>
        have e:jA es rs n h=none:=by unfold jA; rw [q]; rfl
        rw [e] at hg
        simp [fe,hg,AF,cB,gIf]
      | some T =>
        obtain ⟨P,hT⟩:=zI R q
        have hle:eR es rs n h 1≤T:=by have:=R.mono 1 T (by decide) P.one; rw [P.fix] at this; exact this
        have f1:=R.one 1 (by decide)
        have e:jA es rs n h=some (pX (eR es rs n h) T T.toNat (eR es rs n h 1)):=by unfold jA; rw [q]; rfl
        rw [e] at hg
        have hlast:=rZ R P T.toNat (eR es rs n h 1) f1 hle (by omega)
        have hx:dIx (.list ((pX (eR es rs n h) T T.toNat (eR es rs n h 1)).map PyData.int)) (.int (-1))=some (.int T):=by
          show atI _ (-1)=_
          rw [mi,List.getLast?_map,hlast]; rfl
        simp [fe,hg,AF,cB,hx,gIf]
        rfl
    · exact absurd rfl hne
noncomputable def aO:Gf
  | [d,r,.int n]=>if okW d r n then .ok (cB (bu (b8 d) (cy r) n)) else .no
  | _=>.no
theorem eJ {es:List Er} {rs:List Int} {n:Int} (h1:1≤es.length) (h2:es.length≤6) (h:∀ e∈es,e.Wk) (hr:bj es.length rs) (n0:0≤n) (n1:n < es.length):aO [aq es,au rs,.int n]=.ok (cB (bu es rs n)):=by
  unfold aO; simp only [lU h1 h2 h hr n0 n1,if_true,cC,dP]
theorem nE (cs:Cs):∀ ds,ds.length=3→aO ds≠.no→a7 (dJ cs a6 cf (ds.map some++List.replicate 0 none))=aO ds:=by
  intro ds hl hne
  obtain ⟨d,r,n,ez,hz⟩:=iJ hne
  clear hne; subst ez; have hne:=hz; clear hz
  · skip
    split at hne
    · rename_i hc
      obtain ⟨es,rs,rfl,rfl,_,_,l1,l6,hok,hr,n0,n1⟩:=fS hc
      rw [eJ l1 l6 hok hr n0 n1]
      have h1:=fI l1 l6 hok hr n0 n1
      have h2:=kg l1 l6 hok hr n0 n1 (rO es rs n)
      rw [y3] at h2
      show a7 (dJ cs a6 cf [some (aq es),some (au rs),some (.int n)])=_
      simp only [dJ,cp,bb,aH,aS,aw,ay,Rs.aj,h1,h2,aA,bR]
    · exact absurd rfl hne
theorem AG (cs:Cs):∀ ds,ds.length=3→cc ds≠.no→a7 (jV cs aO aL (ds.map some++List.replicate 0 none))=cc ds:=by
  intro ds hl hne
  obtain ⟨d,r,n,ez,hz⟩:=iJ hne
  clear hne; subst ez; have hne:=hz; clear hz
  · skip
    split at hne
    · rename_i hc
      obtain ⟨es,rs,rfl,rfl,_,_,l1,l6,hok,hr,n0,n1⟩:=md hc
      have h1:=jC l1 l6 hok hr n0 n1
      have h3:=eJ l1 l6 (fun e he=>(hok e he).wk) hr n0 n1
      have h2:=eM l1 l6 hok hr n0 n1
      show a7 (jV cs aO aL [some (aq es),some (au rs),some (.int n)])=_
      simp only [jV,aZ,nG,bb,aH,aS,aw,ay,Rs.aj,h2,aA,cp,h3,h1,bR]
    · exact absurd rfl hne
noncomputable def cX (es:List Er) (rs:List Int) (n room:Int):Bool:=match bu es rs n with
  | some t=>decide (t + room≤(az es n).due)
  | none=>false
theorem xk (es:List Er) (rs:List Int) (n:Int):cX es rs n 0=dA es rs n:=by
  unfold cX dA
  cases bu es rs n with
  | none=>rfl
  | some t=>simp
noncomputable def bE:Gf
  | [d,r,.int n,.int m]=>if okW d r n then .ok (.bool (cX (b8 d) (cy r) n m)) else .no
  | _=>.no
theorem iT {es:List Er} {rs:List Int} {n m:Int} (h1:1≤es.length) (h2:es.length≤6) (h:∀ e∈es,e.Wk) (hr:bj es.length rs) (n0:0≤n) (n1:n < es.length):bE [aq es,au rs,.int n,.int m]=.ok (.bool (cX es rs n m)):=by
  unfold bE; simp only [lU h1 h2 h hr n0 n1,if_true,cC,dP]
theorem yS (cs:Cs):∀ ds,ds.length=4→bE ds≠.no→a7 (gU cs aO (ds.map some++List.replicate 1 none))=bE ds:=by
  intro ds hl hne
  obtain ⟨d,r,n,m,ez,hz⟩:=sk hne
  clear hne; subst ez; have hne:=hz; clear hz
  · skip
    split at hne
    · rename_i hc
      obtain ⟨es,rs,rfl,rfl,_,_,l1,l6,hok,hr,n0,n1⟩:=fS hc
      rw [iT l1 l6 hok hr n0 n1]
      have a2:atI (es.map Er.d) n=some (az es n).d:=ia n0 n1
      have a3:dIx (aq es) (.int n)=some (az es n).d:=a2
      have hg:=eJ l1 l6 hok hr n0 n1
      have he:∀ e:Er,dIx e.d (.int 1)=some (.int e.due):=fun _=>rfl
      unfold cX
      show a7 (gU cs aO [some (aq es),some (au rs),some (.int n),some (.int m),none])=_
      cases hf:bu es rs n with
      | none=>rw [hf] at hg; simp [gU,hg,cB]
      | some t=>rw [hf] at hg; simp [gU,hg,cB,a3,he]
    · exact absurd rfl hne
noncomputable def b5:Gf
  | [d,r,.int n]=>if okW d r n then .ok (.bool (dA (b8 d) (cy r) n)) else .no
  | _=>.no
theorem jQ {es:List Er} {rs:List Int} {n:Int} (h1:1≤es.length) (h2:es.length≤6) (h:∀ e∈es,e.Wk) (hr:bj es.length rs) (n0:0≤n) (n1:n < es.length):b5 [aq es,au rs,.int n]=.ok (.bool (dA es rs n)):=by
  unfold b5; simp only [lU h1 h2 h hr n0 n1,if_true,cC,dP]
theorem vn (cs:Cs):∀ ds,ds.length=3→b5 ds≠.no→a7 (f9 cs bE (ds.map some++List.replicate 0 none))=b5 ds:=by
  intro ds hl hne
  obtain ⟨d,r,n,ez,hz⟩:=iJ hne
  clear hne; subst ez; have hne:=hz; clear hz
  · skip
    split at hne
    · rename_i hc
      obtain ⟨es,rs,rfl,rfl,_,_,l1,l6,hok,hr,n0,n1⟩:=fS hc
      rw [jQ l1 l6 hok hr n0 n1]
      have hg:=iT (m:=0) l1 l6 hok hr n0 n1
      rw [xk] at hg
      show a7 (f9 cs bE [some (aq es),some (au rs),some (.int n)])=_
      simp only [f9,cp,bb,aH,aS,aw,ay,eo,Rs.aj,hg,aA,bR]
    · exact absurd rfl hne
end RS
set_option maxRecDepth 100000
set_option maxHeartbeats 4000000
namespace L2
open PySem PySem.Spec PyProof.Rows
section
variable {X:Cx} {E:XK} {o e:Expr} {es:List Expr} {ga:Ds→Rs PyData} {gs:Ds→Rs (List PyData)} {pos apos:Pos}
end
end L2
namespace L2
open PySem PySem.Spec PyProof.Rows
noncomputable def qM (i:Nat) (G:Ds→Sr):Ds→Sr:=fun δ=>match δ[i]? with
  | some (some (.list _))=>(match G δ with
    | .nx δ'=>.nx (δ'.set i none)
    | .rt d=>.rt d
    | .rz C=>.rz C
    | _=>.no)
  | _=>.no
theorem dg.letgo {K:PySem.W.Frag} {H0:Hp} {A0:List Addr} {H:Hp} {A:List Addr} {O:List Nat} {i:Nat} {δ:Ds} {σ:St} (R:dg K H0 A0 H A (O.filter (·≠i)) δ σ):dg K H0 A0 H A O (δ.set i none) σ where
  same:=R.same
  ls0:=R.ls0
  new:=R.new
  ls:=R.ls
  len:=by rw [List.length_set]; exact R.len
  pl:=fun j d hj q=>by
    rw [List.getElem?_set] at q
    split at q
    · split at q <;> cases q
    · exact R.pl j d (fun z=>hj (List.mem_filter.mp z).1) q
  own:=fun j d hj q=>by
    rw [List.getElem?_set] at q
    split at q
    · split at q <;> cases q
    · rename_i z
      exact R.own j d (List.mem_filter.mpr ⟨hj,by simpa using fun w=>z w.symm⟩) q
  inj:=fun j k d e a hj hk qj qk=>by
    rw [List.getElem?_set] at qj qk
    split at qj
    · split at qj <;> cases qj
    · rename_i z1
      split at qk
      · split at qk <;> cases qk
      · rename_i z2
        exact R.inj j k d e a (List.mem_filter.mpr ⟨hj,by simpa using fun w=>z1 w.symm⟩) (List.mem_filter.mpr ⟨hk,by simpa using fun w=>z2 w.symm⟩) qj qk
theorem aP.mono {P:Program} {w:World} {K:PySem.W.Frag} {mg:Str→Option Value} {base:Heap} {k k' n:Nat} {x:Str} {gf:List PyData→Rs PyData} (D:aP P w K mg base k x n gf) (h:k≤k'):aP P w K mg base k' x n gf:=by
  obtain ⟨f,fd,ps,F,m,kp,b⟩:=D
  exact ⟨f,fd,ps,⟨F.1,fun A outer s H args us vs Q E hr=>F.2 A outer s H args us vs Q E (hr.mono h)⟩,m,kp,b⟩
section
variable {X:Cx} {E:XK} {O:List Nat}
theorem Ce {i:Nat} {O':List Nat} {st:Stmt} {G:Ds→Sr} (h:PSD X E O' st G) (hi:i∈O:=by decide) (hO:O.filter (·≠i)=O':=by decide):PSD X E O st (qM i G):=by
  subst hO
  exact h.imp fun D σ H pz3=>by
    obtain ⟨H0,A0,A,δ,R,o⟩:=pz3
    unfold qM at o
    split at o
    · rename_i ds q
      obtain ⟨A',R'⟩:=R.release hi q
      refine ⟨H0,A0,A',δ,R',?_⟩
      cases g:G δ with
      | rt d=>rw [g] at o; exact o
      | rz C=>rw [g] at o; exact o
      | nx δ'=>rw [g] at o; exact fun A σ H R=>o A σ H R.letgo
      | bk _=>rw [g] at o; exact o.elim
      | ct _=>rw [g] at o; exact o.elim
      | no=>rw [g] at o; exact o.elim
    · exact o.elim
end
end L2
namespace RS
open PySem L2
noncomputable def ik (cs:Cs):Ds→Sr :=
  (bf (bh [] 3 (gL (bX 5 (dR (ag 1)) (gT (g2 dNe (ag 5) (ag 2))) (ag 5) bx)))
    (bf (bh [] 4 (gL (bX 5 (eO (af (gF e8 (af (ag 0) ak)) ak)) (gT (g2 (lP true) (ag 5) (ag 1))) (ag 5) bx)))
    (bM (gF ft (af (g2 br (g2 br (ag 3) (ic (af (ag 2) ak))) (ag 4)) ak)))))
noncomputable def gB (cs:Cs):Ds→Sr :=
  (bM (gL (bX 2 (eO (af (gF e8 (af (ag 0) ak)) ak)) (gT (g2 (lP true) (ag 2) (ag 1))) (ag 2) bx)))
noncomputable def dj (cs:Cs) (bW bE bO:Gf):Ds→Sr :=
  (bf (bh [] 3 (ax bO (af (ag 0) (af (ag 1) ak))))
    (bf (k9 [] (dR (ag 3)) (cQ 4) (sIf (gT (ax bE (af (ag 0) (af (ax bW (af (ag 0) (af (ag 3) (af (ag 4) ak)))) (af (ag 4) (af (ag 2) ak)))))) (bM (ag 4)) bS))
    (bM (gC .none))))
noncomputable def de (cs:Cs) (aV:Gf):Ds→Sr :=
  (bf (bh [] 2 (iY ak))
    (bf (bh [] 3 (ax aV (af (ag 0) (af (ag 2) (af (ag 1) ak)))))
    (bf (fun δ=>dk (gT (g1 fN (ag 3))) (bf (bh [] 2 (g2 br (iY (af (ag 3) ak)) (ag 2)))
    (bh [] 3 (ax aV (af (ag 0) (af (ag 2) (af (ag 1) ak)))))) 1000000 δ)
    (bM (ag 2)))))
noncomputable def dE (cs:Cs) (ba:Gf):Ds→Sr :=
  (bf (bh [] 2 (ax ba (af (ag 0) (af (ag 1) ak))))
    (bM (gIf (gT (g2 dEq (gF e8 (af (ag 2) ak)) (gF e8 (af (ag 0) ak)))) (ag 2) (gC .none))))
noncomputable def gX (cs:Cs) (aK aX:Gf):Ds→Sr :=
  (bf (k4 (ax aX (af (ag 0) ak)))
    (bM (ax aK (af (ag 0) (af (gC (.int 0)) ak)))))
noncomputable def lF (cs:Cs) (b5:Gf):Ds→Sr :=
  (bM (gF uR (af (gL (bX 2 (dR (ag 1)) bV (ax b5 (af (ag 0) (af (ag 1) (af (ag 2) ak)))) bx)) ak)))
noncomputable def fA (cs:Cs):Ds→Sr :=
  (bM (g2 br (g2 br (cG (ag 0) ck (d4 (ag 1))) (iY (af (ag 2) ak))) (cG (ag 0) (d4 (g2 br (ag 1) (gC (.int 1)))) ck)))
noncomputable def dD (cs:Cs) (bL:Gf):Ds→Sr :=
  (bf (bh [] 3 (g2 dIx (ag 0) (ag 1)))
    (bf (bh [] 4 (g2 dIx (g2 dIx (ag 3) (gC (.int 3))) (g1 nJ (gC (.int 1)))))
    (bf (bh [] 5 (g2 br (cG (g2 dIx (ag 3) (gC (.int 3))) ck (d4 (g1 nJ (gC (.int 1))))) (iY (af (iY (af (g2 br (g2 dIx (ag 4) (gC (.int 0))) (ag 2)) (af (g2 dIx (ag 4) (gC (.int 1))) ak))) ak))))
    (bM (ax bL (af (ag 0) (af (ag 1) (af (g2 br (cG (ag 3) ck (d4 (gC (.int 3)))) (iY (af (ag 5) ak))) ak))))))))
noncomputable def nZ (cs:Cs) (bp cH aL:Gf):Ds→Sr :=
  (bf (k4 (ax aL (af (ag 0) (af (ag 1) (af (ag 2) ak)))))
    (bf (sIf (j4 (gT (ax cH (af (ag 0) (af (ag 1) ak))))) (bM (gC .none)) bS)
    (bf (bh [] 3 (gC (.int 0)))
    (bf (fun δ=>dk (gT (ax cH (af (ax bp (af (ag 0) (af (ag 2) (af (g2 br (ag 3) (gC (.int 1))) ak)))) (af (ag 1) ak)))) (vi [] 3 (gC (.int 1))) 1000000 δ)
    (bM (ag 3))))))
noncomputable def eZ (cs:Cs) (bc:Gf):Ds→Sr :=
  (bM (gF xv (af (gL (bX 2 (eO (af (gC (.int 4)) ak)) bV (yV (ax bc (af (ag 0) (af (ag 2) ak))) (ax bc (af (ag 1) (af (ag 2) ak)))) bx)) ak)))
noncomputable def ke (cs:Cs) (bA:Gf):Ds→Sr :=
  (bf (bh [5] 1 (ic ak))
    (bf (k9 [5] (lM (af (ag 0) ak)) (fj [2,3]) (bf (bh [5] 4 (ic (af (ag 2) ak)))
    (bf (k7 [5] 5 ak)
    (bf (k9 [5] (dR (ag 1)) (cQ 6) (sIf (gT (gF xv (af (gL (bX 7 (dR (ag 6)) bV (ax bA (af (ag 3) (af (g2 dIx (ag 0) (ag 7)) ak))) bx)) ak))) (bh [5] 4 (g2 br (ag 6) (ag 4))) (lg [5] 5 (ag 6))))
    (qM 5 (bh [] 1 (g2 br (ag 5) (ic (af (ag 4) ak)))))))))
    (bM (ag 1))))
noncomputable def eX (cs:Cs) (aK:Gf):Ds→Sr :=
  (bM (g1 fN (ax aK (af (gF ft (af (gL (bX 2 (dR (ag 1)) bV (g2 dIx (ag 0) (ag 2)) bx)) ak)) (af (gC (.int 0)) ak)))))
noncomputable def ix (cs:Cs) (bq aR:Gf):Ds→Sr :=
  (bf (sIf (gT (g2 dEq (gF e8 (af (ag 1) ak)) (gC (.int 0)))) (bM (ag 2)) bS)
    (bf (k9 [] (lM (af (ag 2) ak)) (fj [3,4]) (bf (bh [] 5 (gF jw (af (g2 br (ag 4) (g2 dIx (ag 1) (gC (.int 0)))) ak)))
    (bf (sIf (gT (ax bq (af (ag 0) (af (ag 5) ak)))) (bf (bh [] 6 (ax aR (af (ag 0) (af (cG (ag 1) (d4 (gC (.int 1))) ck) (af (g2 br (g2 br (cG (ag 2) ck (d4 (ag 3))) (ic (af (ag 5) ak))) (cG (ag 2) (d4 (g2 br (ag 3) (gC (.int 1)))) ck)) ak)))))
    (sIf (gT (g1 fN (ag 6))) (bM (ag 6)) bS)) bS)
    (sIf (gT (g2 dEq (gF e8 (af (ag 4) ak)) (gC (.int 0)))) (bM (gC .none)) bS))))
    (bM (gC .none))))
noncomputable def f7 (cs:Cs) (c4 aR:Gf):Ds→Sr :=
  (bM (ax aR (af (ag 0) (af (ax c4 (af (ag 0) ak)) (af (gL (bX 2 (eO (af (ag 1) ak)) bV (ic ak) bx)) ak)))))
noncomputable def dw (cs:Cs) (bI aX:Gf):Ds→Sr :=
  (bf (k4 (ax aX (af (ag 0) ak)))
    (bf (k9 [] (zw (af (gC (.int 1)) (af (g2 br (gC (.int 4)) (gC (.int 1))) ak))) (cQ 1) (sIf (gT (g1 fN (ax bI (af (ag 0) (af (ag 1) ak))))) (bM (ag 1)) bS))
    (bM (gC .none))))
end RS
set_option maxRecDepth 100000
set_option maxHeartbeats 1000000
namespace RS
open PySem L2
theorem yK {a b:List PyData} (h:a.length + b.length≤1000000):br (.list a) (.list b)=some (.list (a++b)):=by
  show (if _ then _ else _)=_
  rw [if_pos h]
theorem zd (x:Int) (ss:List Int):lP true (.int x) (.tuple (ss.map PyData.int))=some (.bool (!decide (x∈ss))):=by
  show (if (gP (.int x) && _)=true then some (PyData.bool (if true=true then _ else inD _ _)) else none)=_
  rw [oN]
  unfold inD
  rw [sE]
  rfl
theorem Ae {δ:Ds} {l:List PyData} (h:ag 0 δ=.ok (.tuple l)) (hl:l.length≤100):eO (af (gF e8 (af (ag 0) ak)) ak) δ=.ok ((bg l.length).map PyData.int):=by
  have hv:(af (gF e8 (af (ag 0) ak)) ak) δ=.ok [.int (l.length:Int)]:=by
    simp only [aH,aS,j6,h,Rs.aj,xR,Rs.ao]
  have hr:=ju (j:=(l.length:Int)) (Int.natCast_nonneg _) (by omega)
  rw [Int.toNat_natCast] at hr
  rw [jm,hv,Rs.aj,hr,rk]
noncomputable def bU (n:Nat) (ss:List Int):List Int:=(bg n).filter fun y=>!decide (y∈ss)
theorem vE (n:Nat) (ss:List Int):((bg n).map PyData.int).filter (fun d=>!decide (deI d∈ss))=(bU n ss).map PyData.int:=by
  rw [List.filter_map]; rfl
theorem rj {δ:Ds} {ss:List Int} {n:Nat} {src:Ds→Rs (List PyData)} {k:Nat} {g:Ds→Rs PyData} {D:PyData} (hn:δ.length=k) (hs:src δ=.ok ((bg n).map PyData.int)) (hl:n≤100) (hg:∀ d,g (δ++[some d])=.ok D) (hD:∀ x:Int,lP true (.int x) D=some (.bool (!decide (x∈ss)))) :
    bX k src (gT (g2 (lP true) (ag k) g)) (ag k) bx δ=.ok ((bU n ss).map PyData.int):=by
  rw [← vE]
  refine nM hn hs (by rw [List.length_map,cZ]; omega) fun d hd=>?_
  obtain ⟨x,_,rfl⟩:=List.mem_map.mp hd
  have hv:ag k (δ++[some (.int x)])=.ok (.int x):=by
    unfold ag
    rw [← hn,List.getElem?_append_right (Nat.le_refl _),Nat.sub_self]; rfl
  refine ⟨?_,hv⟩
  simp only [gZ,cL,hv,Rs.aj,hg,hD,Rs.ao,b9]
  rfl
noncomputable def gO (n:Nat) (ss:List Int) (k:Int):List Int:=(ss.filter fun y=>decide (y≠k))++[k]++bU n ss
noncomputable def bW:Gf
  | [.tuple l,.list xs,.int k]=>(match eQ xs with
    | some ss=>if l.length≤100∧ss.length≤100 then .ok (au (gO l.length ss k)) else .no
    | none=>.no)
  | _=>.no
theorem qa {es:List Er} {ss:List Int} {k:Int} (h1:es.length≤100) (h2:ss.length≤100):bW [aq es,.list (ss.map PyData.int),.int k]=.ok (au (gO es.length ss k)):=by
  unfold aq bW
  simp only [dh,List.length_map]
  rw [if_pos ⟨h1,h2⟩]
theorem uu (n:Nat) (ss:List Int):(bU n ss).length≤n:=by
  unfold bU
  have:=List.length_filter_le (fun y=>!decide (y∈ss)) (bg n)
  rw [cZ] at this
  exact this
theorem Eo {f:List PyData→List PyData→Int→Rs PyData} {ds:List PyData} (h:(match ds with | [.tuple x0,.list x1,.int x2]=>f x0 x1 x2 | _=>.no)≠.no):∃ x0 x1 x2,ds=[.tuple x0,.list x1,.int x2]∧f x0 x1 x2≠.no:=by
  rcases ds with _ | ⟨x0,_ | ⟨x1,_ | ⟨x2,_ | ⟨y,ys⟩⟩⟩⟩
  · exact absurd rfl h
  · first | exact absurd rfl h | (cases x0 <;> exact absurd rfl h)
  · first | exact absurd rfl h | (cases x0 <;> first | exact absurd rfl h | (cases x1 <;> exact absurd rfl h))
  · skip
    cases x0 with
    | tuple x0 =>
      cases x1 with
      | list x1 =>
        cases x2 with
        | int x2 =>
          exact ⟨_,_,_,rfl,h⟩
        | _=>exact absurd rfl h
      | _=>first | exact absurd rfl h | (cases x2 <;> exact absurd rfl h)
    | _=>first | exact absurd rfl h | (cases x1 <;> first | exact absurd rfl h | (cases x2 <;> exact absurd rfl h))
  · first | exact absurd rfl h | (cases x0 <;> first | exact absurd rfl h | (cases x1 <;> first | exact absurd rfl h | (cases x2 <;> exact absurd rfl h)))
theorem xc (cs:Cs):∀ ds,ds.length=3→bW ds≠.no→a7 (ik cs (ds.map some++List.replicate 2 none))=bW ds:=by
  intro ds hl hne
  obtain ⟨l,xs,k,ez,hz⟩:=Eo hne
  clear hne; subst ez; have hne:=hz; clear hz
  · skip
    split at hne
    · rename_i ss hx
      split at hne
      · rename_i hc
        have hx':=cI hx
        subst hx'
        have hgg:bW [.tuple l,.list (ss.map PyData.int),.int k]=.ok (au (gO l.length ss k)):=by
          unfold bW; simp only [dh]; rw [if_pos hc]
        rw [hgg]
        have c1:bX 5 (dR (ag 1)) (gT (g2 dNe (ag 5) (ag 2))) (ag 5) bx [some (.tuple l),some (.list (ss.map PyData.int)),some (.int k),none,none]=.ok ((ss.filter fun y=>decide (y≠k)).map PyData.int):=by
          rw [← v7]
          refine nM rfl (by rfl) (by rw [List.length_map]; omega) fun d hd=>?_
          obtain ⟨y,_,rfl⟩:=List.mem_map.mp hd
          have h:(y == k)=decide (y=k):=by by_cases z:y=k <;> simp [z]
          refine ⟨?_,rfl⟩
          simp only [List.cons_append,List.nil_append,gZ,cL,aw,ay,Rs.aj,G8,Rs.ao,b9,h]
          rfl
        generalize hF:ss.filter (fun y=>decide (y≠k))=F at *
        have hFl:F.length≤100:=by rw [← hF]; exact Nat.le_trans (List.length_filter_le _ _) hc.2
        have c2:bX 5 (eO (af (gF e8 (af (ag 0) ak)) ak)) (gT (g2 (lP true) (ag 5) (ag 1))) (ag 5) bx [some (.tuple l),some (.list (ss.map PyData.int)),some (.int k),some (.list (F.map PyData.int)),none]=.ok ((bU l.length ss).map PyData.int) :=
          rj rfl (Ae rfl hc.1) hc.1 (fun d=>rfl) (fun x=>yk x ss)
        have hnl:=uu l.length ss
        have s1:bh [] 3 (gL (bX 5 (dR (ag 1)) (gT (g2 dNe (ag 5) (ag 2))) (ag 5) bx)) [some (.tuple l),some (.list (ss.map PyData.int)),some (.int k),none,none]=.nx [some (.tuple l),some (.list (ss.map PyData.int)),some (.int k),some (.list (F.map PyData.int)),none]:=by
          rw [df,if_pos (by simp),nU,c1]; rfl
        have s2:bh [] 4 (gL (bX 5 (eO (af (gF e8 (af (ag 0) ak)) ak)) (gT (g2 (lP true) (ag 5) (ag 1))) (ag 5) bx)) [some (.tuple l),some (.list (ss.map PyData.int)),some (.int k),some (.list (F.map PyData.int)),none]=.nx [some (.tuple l),some (.list (ss.map PyData.int)),some (.int k),some (.list (F.map PyData.int)),some (.list ((bU l.length ss).map PyData.int))]:=by
          rw [df,if_pos (by simp),nU,c2]; rfl
        have a1:br (.list (F.map PyData.int)) (.list [.int k])=some (.list (F.map PyData.int++[.int k])):=yK (by simp; omega)
        have a2:br (.list (F.map PyData.int++[.int k])) (.list ((bU l.length ss).map PyData.int))=some (.list (F.map PyData.int++[.int k]++(bU l.length ss).map PyData.int)):=yK (by simp; omega)
        show a7 (ik cs [some (.tuple l),some (.list (ss.map PyData.int)),some (.int k),none,none])=_
        simp only [ik]
        rw [aZ,s1]; simp only
        rw [aZ,s2]; simp only
        simp only [cp,j6,aH,aS,cL,qV,aw,ay,Rs.aj,a1,a2,Rs.ao,vN,aA,bR]
        unfold gO au
        rw [hF]
        simp
      · exact absurd rfl hne
    · exact absurd rfl hne
noncomputable def bO:Gf
  | [.tuple l,.tuple xs]=>(match eQ xs with
    | some ss=>if l.length≤100 then .ok (.list ((bU l.length ss).map PyData.int)) else .no
    | none=>.no)
  | _=>.no
theorem o5 {es:List Er} {ss:List Int} (h1:es.length≤100):bO [aq es,au ss]=.ok (.list ((bU es.length ss).map PyData.int)):=by
  unfold aq au bO
  simp only [dh,List.length_map]
  rw [if_pos h1]
theorem FJ {f:List PyData→List PyData→Rs PyData} {ds:List PyData} (h:(match ds with | [.tuple x0,.tuple x1]=>f x0 x1 | _=>.no)≠.no):∃ x0 x1,ds=[.tuple x0,.tuple x1]∧f x0 x1≠.no:=by
  rcases ds with _ | ⟨x0,_ | ⟨x1,_ | ⟨y,ys⟩⟩⟩
  · exact absurd rfl h
  · first | exact absurd rfl h | (cases x0 <;> exact absurd rfl h)
  · skip
    cases x0 with
    | tuple x0 =>
      cases x1 with
      | tuple x1 =>
        exact ⟨_,_,rfl,h⟩
      | _=>exact absurd rfl h
    | _=>first | exact absurd rfl h | (cases x1 <;> exact absurd rfl h)
  · first | exact absurd rfl h | (cases x0 <;> first | exact absurd rfl h | (cases x1 <;> exact absurd rfl h))
theorem vd (cs:Cs):∀ ds,ds.length=2→bO ds≠.no→a7 (gB cs (ds.map some++List.replicate 0 none))=bO ds:=by
  intro ds hl hne
  obtain ⟨l,xs,ez,hz⟩:=FJ hne
  clear hne; subst ez; have hne:=hz; clear hz
  · skip
    split at hne
    · rename_i ss hx
      split at hne
      · rename_i hc
        have hx':=cI hx
        subst hx'
        have hgg:bO [.tuple l,.tuple (ss.map PyData.int)]=.ok (.list ((bU l.length ss).map PyData.int)):=by
          unfold bO; simp only [dh]; rw [if_pos hc]
        rw [hgg]
        have c2:bX 2 (eO (af (gF e8 (af (ag 0) ak)) ak)) (gT (g2 (lP true) (ag 2) (ag 1))) (ag 2) bx [some (.tuple l),some (.tuple (ss.map PyData.int))]=.ok ((bU l.length ss).map PyData.int) :=
          rj rfl (Ae rfl hc) hc (fun d=>rfl) (fun x=>zd x ss)
        show a7 (gB cs [some (.tuple l),some (.tuple (ss.map PyData.int))])=_
        simp only [gB,cp,nU,c2,Rs.aj,aA,bR]
      · exact absurd rfl hne
    · exact absurd rfl hne
theorem eI {n:Nat} {ss:List Int} {x:Int}:x∈bU n ss↔(0≤x∧x < n)∧x ∉ ss:=by
  unfold bU
  rw [List.mem_filter,bB]
  simp
theorem jf (n:Nat) (ss:List Int):(bU n ss).Nodup:=(eH n).filter _
theorem lq {n:Nat} {ss:List Int} {k:Int} (nd:ss.Nodup) (hs:∀ x∈ss,0≤x∧x < n) (hk:k∈ss):bj n (gO n ss k):=by
  rw [← kj]
  have e2:(ss.filter fun y=>decide (y≠k))=ss.erase k:=by
    rw [nd.erase_eq_filter]
    refine List.filter_congr fun y _=>?_
    by_cases z:y=k <;> simp [z]
  have p1:(gO n ss k).Perm (ss++bU n ss):=by
    unfold gO
    rw [e2]
    refine List.Perm.append_right _ ?_
    refine List.perm_append_comm.trans ?_
    exact (List.perm_cons_erase hk).symm
  refine p1.trans ?_
  refine (List.perm_ext_iff_of_nodup ?_ (eH n)).mpr fun a=>?_
  · refine List.nodup_append.mpr ⟨nd,jf n ss,fun a ha b hb e=>?_⟩
    subst e
    exact (eI.mp hb).2 ha
  · rw [List.mem_append,eI,bB]
    constructor
    · rintro (h | h)
      · exact hs a h
      · exact h.1
    · intro h
      by_cases z:a∈ss
      · exact .inl z
      · exact .inr ⟨h,z⟩
theorem qG {n:Nat} {ss:List Int} {k:Int}:(gO n ss k).take (placeOf (gO n ss k) k)=ss.filter fun y=>decide (y≠k):=by
  have h:placeOf (gO n ss k) k=(ss.filter fun y=>decide (y≠k)).length:=by
    unfold gO
    rw [List.append_assoc,pP (fun z=>by simpa using (List.mem_filter.mp z).2)]
    rw [List.singleton_append,nF]; omega
  rw [h]
  unfold gO
  rw [List.append_assoc,List.take_left']
  rfl
noncomputable def eY (es:List Er) (ss:List Int) (m:Int):Option Int:=(bU es.length ss).find? fun k=>cX es (gO es.length (bU es.length ss) k) k m
noncomputable def aV:Gf
  | [d,.tuple xs,.int m]=>(match eQ xs with
    | some ss=>if kf d then .ok (cB (eY (b8 d) ss m)) else .no
    | none=>.no)
  | _=>.no
theorem eC {es:List Er} {ss:List Int} {m:Int} (h1:1≤es.length) (h2:es.length≤6) (h:∀ e∈es,e.Wk):aV [aq es,au ss,.int m]=.ok (cB (eY es ss m)):=by
  unfold au aV
  simp only [dh,gH h1 h2 h,if_true,cC]
theorem zO {E P M L:PyData} {c:Ds→Rs Bool} {p:Int→Bool}:∀ (xs:List Int) (x4:Option PyData),(∀ k∈xs,c [some E,some P,some M,some L,some (.int k)]=.ok (p k)) →
    (∃ k,xs.find? p=some k∧forL (cQ 4) (sIf c (bM (ag 4)) bS) (xs.map PyData.int) [some E,some P,some M,some L,x4]=.rt (.int k))∨(xs.find? p=none∧∃ y4,forL (cQ 4) (sIf c (bM (ag 4)) bS) (xs.map PyData.int) [some E,some P,some M,some L,x4]=.nx [some E,some P,some M,some L,y4])
  | [],x4,_=>.inr ⟨rfl,x4,rfl⟩
  | k::r,x4,h=>by
    have hk:=h k List.mem_cons_self
    have ht:cQ 4 (PyData.int k) [some E,some P,some M,some L,x4]=some [some E,some P,some M,some L,some (.int k)]:=rfl
    rw [List.map_cons]
    unfold forL
    rw [ht]
    cases q:p k with
    | true =>
      rw [q] at hk
      refine .inl ⟨k,by rw [List.find?_cons,q],?_⟩
      simp only [fu,hk,aA,if_true,cp,aw,ay]
    | false =>
      rw [q] at hk
      have hb:sIf c (bM (ag 4)) bS [some E,some P,some M,some L,some (.int k)]=.nx [some E,some P,some M,some L,some (.int k)]:=by
        simp only [fu,hk,aA,Bool.false_eq_true,if_false,ib]
      simp only [hb]
      rcases zO r (some (.int k)) (fun x hx=>h x (List.mem_cons_of_mem _ hx)) with ⟨j,e1,e2⟩ | ⟨e1,y4,e2⟩
      · exact .inl ⟨j,by rw [List.find?_cons,q]; exact e1,e2⟩
      · exact .inr ⟨by rw [List.find?_cons,q]; exact e1,y4,e2⟩
theorem D8 {f:PyData→List PyData→Int→Rs PyData} {ds:List PyData} (h:(match ds with | [x0,.tuple x1,.int x2]=>f x0 x1 x2 | _=>.no)≠.no):∃ x0 x1 x2,ds=[x0,.tuple x1,.int x2]∧f x0 x1 x2≠.no:=by
  rcases ds with _ | ⟨x0,_ | ⟨x1,_ | ⟨x2,_ | ⟨y,ys⟩⟩⟩⟩
  · exact absurd rfl h
  · exact absurd rfl h
  · first | exact absurd rfl h | (cases x1 <;> exact absurd rfl h)
  · skip
    cases x1 with
    | tuple x1 =>
      cases x2 with
      | int x2 =>
        exact ⟨_,_,_,rfl,h⟩
      | _=>exact absurd rfl h
    | _=>first | exact absurd rfl h | (cases x2 <;> exact absurd rfl h)
  · first | exact absurd rfl h | (cases x1 <;> first | exact absurd rfl h | (cases x2 <;> exact absurd rfl h))
theorem nr (cs:Cs):∀ ds,ds.length=3→aV ds≠.no→a7 (dj cs bW bE bO (ds.map some++List.replicate 2 none))=aV ds:=by
  intro ds hl hne
  obtain ⟨d,xs,m,ez,hz⟩:=D8 hne
  clear hne; subst ez; have hne:=hz; clear hz
  · skip
    split at hne
    · rename_i ss hx
      split at hne
      · rename_i hc
        have hx':=cI hx
        subst hx'
        obtain ⟨e1,l1,l6,hok⟩:=ku hc
        rw [← e1]
        generalize b8 d=es at *
        have hgg:=eC (ss:=ss) (m:=m) l1 l6 hok
        unfold au at hgg
        rw [hgg]
        have hnp:=o5 (es:=es) (ss:=ss) (by omega)
        unfold au at hnp
        have hnl:=uu es.length ss
        have s1:bh [] 3 (ax bO (af (ag 0) (af (ag 1) ak))) [some (aq es),some (.tuple (ss.map PyData.int)),some (.int m),none,none]=.nx [some (aq es),some (.tuple (ss.map PyData.int)),some (.int m),some (.list ((bU es.length ss).map PyData.int)),none]:=by
          rw [df,if_pos (by simp)]
          simp only [bb,aH,aS,aw,ay,Rs.aj,hnp,aA]
          rfl
        have hc':∀ k∈bU es.length ss,(gT (ax bE (af (ag 0) (af (ax bW (af (ag 0) (af (ag 3) (af (ag 4) ak)))) (af (ag 4) (af (ag 2) ak)))))) [some (aq es),some (.tuple (ss.map PyData.int)),some (.int m),some (.list ((bU es.length ss).map PyData.int)),some (.int k)]=.ok (cX es (gO es.length (bU es.length ss) k) k m):=fun k hk=>by
          have ha:=qa (es:=es) (ss:=bU es.length ss) (k:=k) (by omega) (by omega)
          have hkr:=(eI.mp hk).1
          have hb:=iT (m:=m) l1 l6 hok (lq (jf es.length ss) (fun x hx=>(eI.mp hx).1) hk) hkr.1 hkr.2
          simp only [gZ,bb,aH,aS,aw,ay,Rs.aj,ha,hb,b9]
        show a7 (dj cs bW bE bO [some (aq es),some (.tuple (ss.map PyData.int)),some (.int m),none,none])=_
        simp only [dj]
        rw [aZ,s1]; simp only
        rw [aZ,iC,ig]
        rw [show dR (ag 3) [some (aq es),some (.tuple (ss.map PyData.int)),some (.int m),some (.list ((bU es.length ss).map PyData.int)),none]=.ok ((bU es.length ss).map PyData.int) from rfl,aA]
        unfold eY
        rcases zO (bU es.length ss) none hc' with ⟨k,q,e⟩ | ⟨q,y4,e⟩
        · rw [e,q]; rfl
        · rw [e,q]; rfl
      · exact absurd rfl hne
    · exact absurd rfl hne
end RS
set_option maxRecDepth 100000
set_option maxHeartbeats 1000000
namespace RS
open PySem L2
noncomputable def yH (es:List Er) (m:Int):Nat→List Int→List Int
  | 0,ss=>ss
  | f + 1,ss=>match eY es ss m with
    | some k=>yH es m f (k::ss)
    | none=>ss
noncomputable def ff (es:List Er) (m:Int):List Int:=yH es m (es.length + 1) []
noncomputable def PP (n:Nat) (ss:List Int):Prop:=(bU n ss++ss).Perm (bg n)
theorem PP.nil (n:Nat):PP n []:=by
  unfold PP bU
  rw [List.append_nil,List.filter_eq_self.mpr fun a _=>by simp]
theorem PP.len {n:Nat} {ss:List Int} (h:PP n ss):(bU n ss).length + ss.length=n:=by
  have:=h.length_eq
  rwa [List.length_append,cZ] at this
theorem PP.cons {n:Nat} {ss:List Int} (h:PP n ss) {k:Int} (hk:k∈bU n ss):PP n (k::ss):=by
  unfold PP at h ⊢
  have e1:bU n (k::ss)=(bU n ss).erase k:=by
    rw [(jf n ss).erase_eq_filter]
    unfold bU
    rw [List.filter_filter]
    refine List.filter_congr fun y _=>?_
    by_cases z:y=k
    · simp [z]
    · by_cases u:y∈ss <;> simp [z,u]
  rw [e1]
  refine List.Perm.trans ?_ h
  refine List.perm_middle.trans ?_
  exact List.Perm.append_right ss (List.perm_cons_erase hk).symm
theorem Du {es:List Er} {ss:List Int} {m k:Int} (h:eY es ss m=some k):k∈bU es.length ss:=List.mem_of_find?_eq_some h
theorem Cq {es:List Er} {ss:List Int} {m k:Int} (h:eY es ss m=some k):cX es (gO es.length (bU es.length ss) k) k m=true:=by
  have:=List.find?_some h
  exact this
theorem CG {es:List Er} {ss:List Int} {m:Int} (h:eY es ss m=none):∀ k∈bU es.length ss,cX es (gO es.length (bU es.length ss) k) k m=false:=fun k hk=>by
  have:=List.find?_eq_none.mp h k hk
  simpa using this
structure Pld (es:List Er) (m:Int) (ss:List Int):Prop where
  pp:PP es.length ss
  rm:∀ A k B,ss=A++k::B→cX es (gO es.length (bU es.length B) k) k m=true
theorem Pld.nil (es:List Er) (m:Int):Pld es m []:=⟨PP.nil _,fun A k B h=>by simp at h⟩
theorem Pld.cons {es:List Er} {m k:Int} {ss:List Int} (h:Pld es m ss) (hk:eY es ss m=some k):Pld es m (k::ss):=⟨h.pp.cons (Du hk),fun A x B e=>by
  cases A with
  | nil=>cases e; exact Cq hk
  | cons a A=>cases e; exact h.rm A x B rfl⟩
theorem De {es:List Er} {m:Int}:∀ (j:Nat) (ss:List Int),Pld es m ss→es.length + 1≤ss.length + j→Pld es m (yH es m j ss)∧eY es (yH es m j ss) m=none
  | 0,ss,h,hl=>by have:=h.pp.len; omega
  | j + 1,ss,h,hl=>by
    unfold yH
    cases q:eY es ss m with
    | none=>exact ⟨h,q⟩
    | some k=>exact De j (k::ss) (h.cons q) (by rw [List.length_cons]; omega)
theorem mT (es:List Er) (m:Int):Pld es m (ff es m)∧eY es (ff es m) m=none:=De _ _ (Pld.nil es m) (by simp)
theorem PP.lenle {n:Nat} {ss:List Int} (h:PP n ss):ss.length≤n:=by have:=h.len; omega
noncomputable abbrev vF:Ds→Rs Bool:=gT (g1 fN (ag 3))
noncomputable abbrev yL:Ds→Sr:=bf (bh [] 2 (g2 br (iY (af (ag 3) ak)) (ag 2)))
    (bh [] 3 (ax aV (af (ag 0) (af (ag 2) (af (ag 1) ak)))))
theorem zF {es:List Er} {m:Int} (l1:1≤es.length) (l6:es.length≤6) (hok:∀ e∈es,e.Wk):∀ (j fuel:Nat) (ss:List Int),Pld es m ss→es.length + 1≤ss.length + j→j < fuel →
    ∃ x3,dk vF yL fuel [some (aq es),some (.int m),some (au ss),some (cB (eY es ss m))]=.nx [some (aq es),some (.int m),some (au (yH es m j ss)),x3]
  | j,0,ss,_,_,hf=>absurd hf (Nat.not_lt_zero _)
  | 0,fuel + 1,ss,h,hl,hf=>by have:=h.pp.len; omega
  | j + 1,fuel + 1,ss,h,hl,hf=>by
    unfold dk yH
    cases q:eY es ss m with
    | none =>
      refine ⟨some .none,?_⟩
      simp only [vF,cB,gZ,rT,aw,ay,Rs.aj,oJ,BM,Rs.ao,b9,aA,Bool.not_true,Bool.false_eq_true,if_false]
    | some k =>
      have hln:=h.pp.lenle
      obtain ⟨x3,e⟩:=zF l1 l6 hok j fuel (k::ss) (h.cons q) (by rw [List.length_cons]; omega) (by omega)
      refine ⟨x3,?_⟩
      have ha:br (.tuple [.int k]) (.tuple (ss.map PyData.int))=some (.tuple (.int k::ss.map PyData.int)):=B4 (a:=[.int k]) (by rw [List.length_map]; show 1 + ss.length≤1000000; omega)
      have ei:PyData.tuple (.int k::ss.map PyData.int)=au (k::ss):=rfl
      have hg:=eC (ss:=k::ss) (m:=m) l1 l6 hok
      have t1:bh [] 2 (g2 br (iY (af (ag 3) ak)) (ag 2)) [some (aq es),some (.int m),some (au ss),some (.int k)]=.nx [some (aq es),some (.int m),some (au (k::ss)),some (.int k)]:=by
        rw [df,if_pos (by simp)]
        simp only [cL,mX,aH,aS,aw,ay,Rs.aj,au,ha,Rs.ao,aA]
        rfl
      have t2:bh [] 3 (ax aV (af (ag 0) (af (ag 2) (af (ag 1) ak)))) [some (aq es),some (.int m),some (au (k::ss)),some (.int k)]=.nx [some (aq es),some (.int m),some (au (k::ss)),some (cB (eY es (k::ss) m))]:=by
        rw [df,if_pos (by simp)]
        simp only [bb,aH,aS,aw,ay,Rs.aj,hg,aA]
        rfl
      have hb:yL [some (aq es),some (.int m),some (au ss),some (.int k)]=.nx [some (aq es),some (.int m),some (au (k::ss)),some (cB (eY es (k::ss) m))]:=by
        unfold yL
        rw [aZ,t1]; simp only
        rw [t2]
      have ht:vF [some (aq es),some (.int m),some (au ss),some (cB (some k))]=.ok true:=by
        simp only [vF,cB,gZ,rT,aw,ay,Rs.aj,oJ,AS,Rs.ao,b9,Bool.not_false]
      rw [ht,aA,if_pos rfl,show cB (some k)=PyData.int k from rfl,hb]
      exact e
noncomputable def ba:Gf
  | [d,.int m]=>if kf d then .ok (au (ff (b8 d) m)) else .no
  | _=>.no
theorem fO {es:List Er} {m:Int} (h1:1≤es.length) (h2:es.length≤6) (h:∀ e∈es,e.Wk):ba [aq es,.int m]=.ok (au (ff es m)):=by
  unfold ba
  simp only [gH h1 h2 h,if_true,cC]
theorem mF (cs:Cs):∀ ds,ds.length=2→ba ds≠.no→a7 (de cs aV (ds.map some++List.replicate 2 none))=ba ds:=by
  intro ds hl hne
  obtain ⟨d,m,ez,hz⟩:=vo hne
  clear hne; subst ez; have hne:=hz; clear hz
  · skip
    split at hne
    · rename_i hc
      obtain ⟨e1,l1,l6,hok⟩:=ku hc
      rw [← e1]
      generalize b8 d=es at *
      rw [fO l1 l6 hok]
      obtain ⟨x3,e⟩:=zF (m:=m) l1 l6 hok (es.length + 1) 1000000 [] (Pld.nil es m) (by simp) (by omega)
      have hg:=eC (ss:=[]) (m:=m) l1 l6 hok
      have s1:bh [] 2 (iY ak) [some (aq es),some (.int m),none,none]=.nx [some (aq es),some (.int m),some (au []),none]:=rfl
      have s2:bh [] 3 (ax aV (af (ag 0) (af (ag 2) (af (ag 1) ak)))) [some (aq es),some (.int m),some (au []),none]=.nx [some (aq es),some (.int m),some (au []),some (cB (eY es [] m))]:=by
        rw [df,if_pos (by simp)]
        simp only [bb,aH,aS,aw,ay,Rs.aj,hg,aA]
        rfl
      show a7 (de cs aV [some (aq es),some (.int m),none,none])=_
      simp only [de]
      rw [aZ,s1]; simp only
      rw [aZ,s2]; simp only
      rw [aZ]
      have e':dk (gT (g1 fN (ag 3))) (bf (bh [] 2 (g2 br (iY (af (ag 3) ak)) (ag 2))) (bh [] 3 (ax aV (af (ag 0) (af (ag 2) (af (ag 1) ak)))))) 1000000 [some (aq es),some (.int m),some (au []),some (cB (eY es [] m))]=_:=e
      rw [e']
      rfl
    · exact absurd rfl hne
noncomputable def rwR (es:List Er) (m:Int):Option (List Int):=if (ff es m).length=es.length then some (ff es m) else none
noncomputable def sy:Option (List Int)→PyData
  | none=>.none
  | some rs=>au rs
noncomputable def aK:Gf
  | [d,.int m]=>if kf d then .ok (sy (rwR (b8 d) m)) else .no
  | _=>.no
theorem eK {es:List Er} {m:Int} (h1:1≤es.length) (h2:es.length≤6) (h:∀ e∈es,e.Wk):aK [aq es,.int m]=.ok (sy (rwR es m)):=by
  unfold aK
  simp only [gH h1 h2 h,if_true,cC]
theorem nW (cs:Cs):∀ ds,ds.length=2→aK ds≠.no→a7 (dE cs ba (ds.map some++List.replicate 1 none))=aK ds:=by
  intro ds hl hne
  obtain ⟨d,m,ez,hz⟩:=vo hne
  clear hne; subst ez; have hne:=hz; clear hz
  · skip
    split at hne
    · rename_i hc
      obtain ⟨e1,l1,l6,hok⟩:=ku hc
      rw [← e1]
      generalize b8 d=es at *
      rw [eK l1 l6 hok]
      have hg:=fO (m:=m) l1 l6 hok
      have ll:∀ rs:List Int,e8 [au rs]=some (.int (rs.length:Int)):=fun rs=>by unfold au; rw [xR,List.length_map]
      have s1:bh [] 2 (ax ba (af (ag 0) (af (ag 1) ak))) [some (aq es),some (.int m),none]=.nx [some (aq es),some (.int m),some (au (ff es m))]:=by
        rw [df,if_pos (by simp)]
        simp only [bb,aH,aS,aw,ay,Rs.aj,hg,aA]
        rfl
      show a7 (dE cs ba [some (aq es),some (.int m),none])=_
      simp only [dE]
      rw [aZ,s1]; simp only
      unfold rwR
      by_cases z:(ff es m).length=es.length
      · rw [if_pos z]
        have q:(((ff es m).length:Int) == (es.length:Int))=true:=by simp [z]
        simp only [cp,gIf,gZ,cL,j6,aH,aS,aw,ay,Rs.aj,ll,GD,Rs.ao,nO,q,b9,if_true,aA,bR]
        rfl
      · rw [if_neg z]
        have q:(((ff es m).length:Int) == (es.length:Int))=false:=by
          have:¬ (((ff es m).length:Int)=(es.length:Int)):=by omega
          simpa using this
        simp only [cp,gIf,gZ,cL,j6,aH,aS,aw,ay,eo,Rs.aj,ll,GD,Rs.ao,nO,q,b9,Bool.false_eq_true,if_false,aA,bR]
        rfl
    · exact absurd rfl hne
noncomputable def my (es:List Er) (rs:List Int) (m:Int):Bool:=rs.all fun n=>cX es rs n m
theorem nP (es:List Er) (rs:List Int):my es rs 0=c9 es rs:=by
  unfold my c9
  simp only [xk]
theorem yh {es:List Er} {rs ot:List Int} {n m:Int} (h:bu es rs n=bu es ot n):cX es rs n m=cX es ot n m:=by
  unfold cX; rw [h]
theorem tD {es:List Er} {rs ot:List Int} {n m:Int} (h:sC (bu es ot n) (bu es rs n)) (hr:cX es rs n m=true):cX es ot n m=true:=by
  unfold cX at hr ⊢
  cases q:bu es rs n with
  | none=>rw [q] at hr; cases hr
  | some t =>
    rw [q] at hr
    obtain ⟨u,hu,hle⟩:=h t q
    rw [hu]
    have:=of_decide_eq_true hr
    exact decide_eq_true (by omega)
theorem wH {es:List Er} {m:Int} {rs:List Int} (h:Pld es m rs) (hl:rs.length=es.length):bj es.length rs∧my es rs m=true:=by
  have hp:=h.pp
  have h0:bU es.length rs=[]:=List.eq_nil_of_length_eq_zero (by have:=hp.len; omega)
  have hr:bj es.length rs:=by
    rw [← kj]
    unfold PP at hp
    rw [h0] at hp
    exact hp
  refine ⟨hr,?_⟩
  unfold my
  rw [List.all_eq_true]
  intro k hk
  have hkr:=hr.rng k hk
  have hs:=jv hk
  have hm:=h.rm _ _ _ hs
  generalize hB:rs.drop (placeOf rs k + 1)=B at *
  generalize hA:rs.take (placeOf rs k)=A at *
  have nd:=hr.nd
  rw [hs] at nd
  have ndA:=(List.nodup_append.mp nd)
  have hkB:k ∉ B:=(List.nodup_cons.mp ndA.2.1).1
  have hkA:k ∉ A:=fun z=>ndA.2.2 k z k List.mem_cons_self rfl
  have hkn:k∈bU es.length B:=eI.mpr ⟨hkr,hkB⟩
  have ho:=lq (n:=es.length) (jf es.length B) (fun x hx=>(eI.mp hx).1) hkn
  have hsa:=zb hr ho hkr.1 hkr.2 (by
    rw [qG,hA]
    refine (List.perm_ext_iff_of_nodup ndA.1 ((jf es.length B).filter _)).mpr fun a=>?_
    rw [List.mem_filter,eI]
    constructor
    · intro ha
      have har:a∈rs:=by rw [hs]; exact List.mem_append_left _ ha
      refine ⟨⟨hr.rng a har,fun z=>ndA.2.2 a ha a (List.mem_cons_of_mem _ z) rfl⟩,?_⟩
      refine decide_eq_true fun e=>hkA (e ▸ ha)
    · rintro ⟨⟨har,hb⟩,hne⟩
      have hne':=of_decide_eq_true hne
      have ham:a∈rs:=hr.mem har.1 har.2
      rw [hs] at ham
      rcases List.mem_append.mp ham with z | z
      · exact z
      · rcases List.mem_cons.mp z with z | z
        · exact absurd z hne'
        · exact absurd z hb)
  rw [yh hsa.2.2]
  exact hm
theorem Am {es:List Er} {m:Int} {ss rs:List Int} (hsh:∀ e∈es,e.Sh) (hl:∀ e∈es,0≤e.late) (h:∀ k∈bU es.length ss,cX es (gO es.length (bU es.length ss) k) k m=false) (hr:bj es.length rs) {k:Int} (hk:(rs.filter fun n=>decide (n∈bU es.length ss)).getLast?=some k):cX es rs k m=false:=by
  have hkm:=List.mem_filter.mp (List.mem_of_getLast? hk)
  have hkn:k∈bU es.length ss:=of_decide_eq_true hkm.2
  have hkr:=hr.rng k hkm.1
  cases q:cX es rs k m with
  | false=>rfl
  | true =>
    exfalso
    have ho:=lq (n:=es.length) (jf es.length ss) (fun x hx=>(eI.mp hx).1) hkn
    have hs:=jv hkm.1
    generalize hB:rs.drop (placeOf rs k + 1)=B at *
    generalize hA:rs.take (placeOf rs k)=A at *
    have nd:=hr.nd
    rw [hs] at nd
    have ndA:=(List.nodup_append.mp nd)
    have hkA:k ∉ A:=fun z=>ndA.2.2 k z k List.mem_cons_self rfl
    have hkB:k ∉ B:=(List.nodup_cons.mp ndA.2.1).1
    have hnB:∀ x∈B,x ∉ bU es.length ss:=by
      rw [hs,List.filter_append,List.filter_cons_of_pos (by simpa using hkn)] at hk
      intro x hx hxn
      have hxf:x∈B.filter fun n=>decide (n∈bU es.length ss):=List.mem_filter.mpr ⟨hx,decide_eq_true hxn⟩
      have hsub:∀ y∈B.filter (fun n=>decide (n∈bU es.length ss)),y∈B:=fun y hy=>(List.mem_filter.mp hy).1
      generalize (B.filter fun n=>decide (n∈bU es.length ss))=C at *
      cases C with
      | nil=>cases hxf
      | cons c C =>
        rw [List.getLast?_append] at hk
        have hne:(k::c::C).getLast?=(c::C).getLast?:=by simp
        rw [hne] at hk
        obtain ⟨z,hz⟩:∃ z,(c::C).getLast?=some z:=by
          cases w:(c::C).getLast? with
          | none=>simp at w
          | some z=>exact ⟨z,rfl⟩
        rw [hz] at hk
        simp at hk
        subst hk
        exact hkB (hsub _ (List.mem_of_getLast? hz))
    have hf:=tw (X:=A.filter fun x=>!decide (x∈bU es.length ss)) hsh hl hr ho hkr.1 hkr.2 (by
      rw [qG,hA]
      have p1:A.Perm ((A.filter fun x=>decide (x∈bU es.length ss))++A.filter fun x=>!decide (x∈bU es.length ss)):=(List.filter_append_perm _ A).symm
      refine p1.trans (List.Perm.append_right _ ?_)
      refine (List.perm_ext_iff_of_nodup (ndA.1.filter _) ((jf es.length ss).filter _)).mpr fun a=>?_
      rw [List.mem_filter,List.mem_filter]
      constructor
      · rintro ⟨ha,hn⟩
        exact ⟨of_decide_eq_true hn,decide_eq_true fun e=>hkA (e ▸ ha)⟩
      · rintro ⟨hn,hne⟩
        have hne':=of_decide_eq_true hne
        have har:=(eI.mp hn).1
        have ham:a∈rs:=hr.mem har.1 har.2
        rw [hs] at ham
        rcases List.mem_append.mp ham with z | z
        · exact ⟨z,decide_eq_true hn⟩
        · rcases List.mem_cons.mp z with z | z
          · exact absurd z hne'
          · exact absurd hn (hnB a z))
    have:=tD hf q
    rw [h k hkn] at this
    cases this
end RS
set_option maxRecDepth 100000
set_option maxHeartbeats 1000000
namespace RS
open PySem L2
theorem B3 {cs:Cs} {d:PyData} (hd:b7 d=true) (hc:¬ cJ d=true):aX cs [d]=.rz cs.NoErrands:=by unfold aX; simp [hd,hc]
noncomputable def bK (cs:Cs):Gf
  | [d]=>if b7 d then (if cJ d then .ok (sy (rwR (b8 d) 0)) else .rz cs.NoErrands) else .no
  | _=>.no
theorem mL {es:List Er} (cs:Cs) (h1:1≤es.length) (h2:es.length≤6) (h:∀ e∈es,e.Ok):bK cs [aq es]=.ok (sy (rwR es 0)):=by
  unfold bK; simp only [oW,f6 h1 h2 h,if_true,cC]
theorem AI (cs:Cs):∀ ds,ds.length=1→bK cs ds≠.no→a7 (gX cs aK (aX cs) (ds.map some++List.replicate 0 none))=bK cs ds:=by
  intro ds hl hne
  obtain ⟨d,ez,hz⟩:=Ah hne
  clear hne; subst ez; have hne:=hz; clear hz
  · skip
    split at hne
    · rename_i hd
      split at hne
      · rename_i hc
        obtain ⟨e1,l1,l6,hok⟩:=kM hc
        rw [← e1]
        generalize b8 d=es at *
        rw [mL cs l1 l6 hok]
        have h1:=jK cs l1 l6 hok
        have h2:=eK (m:=0) l1 l6 (fun e he=>(hok e he).wk)
        show a7 (gX cs aK (aX cs) [some (aq es)])=_
        simp only [gX,aZ,nG,bb,aH,aS,aw,eo,Rs.aj,h1,aA,cp,h2,bR]
      · rename_i hc
        have h1:=B3 (cs:=cs) hd hc
        have h2:bK cs [d]=.rz cs.NoErrands:=by unfold bK; simp [hd,hc]
        rw [h2]
        show a7 (gX cs aK (aX cs) [some d])=_
        simp [gX,h1]
    · exact absurd rfl hne
theorem AY {n:Nat} {ss rs:List Int} (hr:bj n rs) (hne:bU n ss≠[]):∃ k,(rs.filter fun x=>decide (x∈bU n ss)).getLast?=some k:=by
  cases q:(rs.filter fun x=>decide (x∈bU n ss)).getLast? with
  | some k=>exact ⟨k,rfl⟩
  | none =>
    exfalso
    have e:=List.getLast?_eq_none_iff.mp q
    obtain ⟨s,hs⟩:=List.exists_mem_of_ne_nil _ hne
    have h2:=(eI.mp hs).1
    exact List.filter_eq_nil_iff.mp e s (hr.mem h2.1 h2.2) (decide_eq_true hs)
theorem CL {α:Type} {p:α→Bool} {l:List α} {a:α} (ha:a∈l) (h:p a=false):l.all p=false:=by
  cases q:l.all p with
  | false=>rfl
  | true=>rw [List.all_eq_true] at q; rw [q a ha] at h; cases h
theorem xw {es:List Er} {m:Int} {rs:List Int} (h:rwR es m=some rs):bj es.length rs∧my es rs m=true:=by
  unfold rwR at h
  split at h
  · rename_i z
    cases h
    exact wH (mT es m).1 z
  · cases h
theorem Ew {es:List Er} {m:Int} (z:¬ (ff es m).length=es.length):bU es.length (ff es m)≠[]:=fun e=>z (by
  have:=(mT es m).1.pp.len
  rw [e] at this
  simpa using this)
theorem xC {es:List Er} {m:Int} (hsh:∀ e∈es,e.Sh) (hl:∀ e∈es,0≤e.late) (h:rwR es m=none) {rs:List Int} (hr:bj es.length rs):my es rs m=false:=by
  unfold rwR at h
  split at h
  · cases h
  · rename_i z
    obtain ⟨k,hk⟩:=AY hr (Ew z)
    have hkm:=(List.mem_filter.mp (List.mem_of_getLast? hk)).1
    exact CL hkm (Am hsh hl (CG (mT es m).2) hr hk)
theorem Gj (cs:Cs):DU (bK cs):=⟨fun es l1 l6 hok=>by
  rw [mL cs l1 l6 hok]
  cases q:rwR es 0 with
  | some rs =>
    obtain ⟨hr,ha⟩:=xw q
    exact .inl ⟨rs,rfl,hr,by rw [← nP]; exact ha⟩
  | none=>exact .inr ⟨rfl,fun rs hr=>by rw [← nP]; exact xC (fun e he=>(hok e he).sh) (fun e he=>(hok e he).l1) q hr⟩⟩
end RS
set_option maxRecDepth 100000
set_option maxHeartbeats 1000000
namespace RS
open PySem L2
noncomputable def CA (A:List Er) (e:Er) (B:List Er) (M:Int):Prop:=0≤M∧∀ b∈B,∀ p∈b.parts,∀ t,p.2=some t→(∃ u∈A++[e],u.has t=true)→p.1 - 1≤M
noncomputable def zM (A:List Er) (e:Er) (h t:Int):Int:=h + e.work + (A.map fun a=>a.times t * a.work).sum
noncomputable def inT (A:List Er) (e:Er) (B:List Er):Prop:=∃ h t,CA A e B h∧1≤t∧zM A e h t≤t∧t≤e.due
noncomputable def Dx (L:List Er):Prop:=∀ A e B,L=A++e::B→inT A e B
theorem zq {es:List Er} {rs:List Int} {n:Int} (hok:∀ e∈es,e.Ok) (hr:bj es.length rs) (n0:0≤n) (n1:n < es.length):dA es rs n=true↔inT ((rs.take (placeOf rs n)).map fun m=>az es m) (az es n) ((rs.drop (placeOf rs n + 1)).map fun m=>az es m):=by
  have hmem:=hr.mem n0 n1
  have hoe:=hok _ (bJ n0 n1)
  have hh:∀ M,CA ((rs.take (placeOf rs n)).map fun m=>az es m) (az es n) ((rs.drop (placeOf rs n + 1)).map fun m=>az es m) M↔bY es rs n≤M:=fun M=>by
    rw [dC]
    unfold CA
    have e1:(rs.take (placeOf rs n)).map (fun m=>az es m)++[az es n]=(rs.take (placeOf rs n + 1)).map fun m=>az es m:=by
      rw [gR hmem,List.map_append]; rfl
    rw [e1]
    constructor
    · rintro ⟨h1,h2⟩
      refine ⟨h1,fun m hm p hp t ht qz6=>(by obtain ⟨u,hu,hx⟩:=qz6; exact h2 _ (List.mem_map.mpr ⟨m,hm,rfl⟩) p hp t ht ⟨_,List.mem_map.mpr ⟨u,hu,rfl⟩,hx⟩)⟩
    · rintro ⟨h1,h2⟩
      refine ⟨h1,fun b hb p hp t ht rz6=>?_⟩
      obtain ⟨u,hu,hx⟩:=rz6
      obtain ⟨m,hm,rfl⟩:=List.mem_map.mp hb
      obtain ⟨k,hk,rfl⟩:=List.mem_map.mp hu
      exact h2 m hm p hp t ht ⟨k,hk,hx⟩
  have hn:∀ h t,zM ((rs.take (placeOf rs n)).map fun m=>az es m) (az es n) h t=h + (az es n).work + ((rs.take (placeOf rs n)).map fun m=>(az es m).times t * (az es m).work).sum:=fun h t=>by
    unfold zM; rw [List.map_map]; rfl
  have hN:∀ t,dr es rs n t=bY es rs n + (az es n).work + ((rs.take (placeOf rs n)).map fun m=>(az es m).times t * (az es m).work).sum:=fun t=>rfl
  constructor
  · intro h
    unfold dA at h
    cases q:bu es rs n with
    | none=>rw [q] at h; cases h
    | some t =>
      rw [q] at h
      have hd:=of_decide_eq_true h
      rw [cP] at q
      obtain ⟨h1,_,h3,_⟩:=ec q
      have h3':=of_decide_eq_true h3
      refine ⟨bY es rs n,t,(hh _).mpr (Int.le_refl _),h1,?_,hd⟩
      rw [hn,← hN]; exact h3'
  · rintro ⟨h,t,hx,h1,h2,h3⟩
    have hle:=(hh h).mp hx
    rw [hn] at h2
    have hp:dr es rs n t≤t:=by rw [hN]; omega
    have hd2:=hoe.d2
    unfold dA
    cases q:bu es rs n with
    | none =>
      rw [cP] at q
      have:=of_decide_eq_false (kL q t h1 (by omega))
      omega
    | some u =>
      rw [cP] at q
      obtain ⟨g1,_,_,g4⟩:=ec q
      refine decide_eq_true ?_
      rcases Int.lt_or_le t u with z | z
      · have:=of_decide_eq_false (g4 t h1 z)
        omega
      · omega
theorem DX {α:Type} (f:α→Int) {l m:List α} (h:l.Sublist m) (hf:∀ x∈m,0≤f x):(l.map f).sum≤(m.map f).sum:=by
  induction h with
  | slnil=>exact Int.le_refl _
  | @cons l m a _ ih =>
    have h1:=hf a List.mem_cons_self
    have h2:=ih fun x hx=>hf x (List.mem_cons_of_mem _ hx)
    rw [List.map_cons,List.sum_cons]; omega
  | @cons_cons l m a _ ih =>
    have h2:=ih fun x hx=>hf x (List.mem_cons_of_mem _ hx)
    rw [List.map_cons,List.map_cons,List.sum_cons,List.sum_cons]; omega
theorem Eb {A A' B B':List Er} {e:Er} (hA:∀ a∈A,a.Ok) (h1:A'.Sublist A) (h2:B'.Sublist B) (h:inT A e B):inT A' e B':=by
  obtain ⟨hd,t,hh,t1,hn,hdue⟩:=h
  refine ⟨hd,t,⟨hh.1,fun b hb p hp tl ht ⟨u,hu,hx⟩=>hh.2 b (h2.subset hb) p hp tl ht ⟨u,?_,hx⟩⟩,t1,?_,hdue⟩
  · rcases List.mem_append.mp hu with z | z
    · exact List.mem_append_left _ (h1.subset z)
    · exact List.mem_append_right _ z
  · unfold zM at hn ⊢
    have:=DX (fun a:Er=>a.times t * a.work) h1 fun a ha=>by
      have ho:=hA a ha
      have l0:=ho.l1
      exact Int.mul_nonneg (Er.times_pos ho.sh.e1 (by omega)) ho.sh.work_b.1
    omega
theorem Cg {L M:List Er} (hok:∀ a∈L,a.Ok) (h:M.Sublist L) (hf:Dx L):Dx M:=fun A' e B' eq=>by
  rw [eq] at h
  obtain ⟨R1,R2,rfl,s1,s2⟩:=List.append_sublist_iff.mp h
  obtain ⟨X,Y,rfl,hx,s3⟩:=List.cons_sublist_iff.mp s2
  obtain ⟨X1,X2,rfl⟩:=List.append_of_mem hx
  have hi:=hf (R1++X1) e (X2++Y) (by simp)
  refine Eb (fun a ha=>hok a (by simp at ha ⊢; rcases ha with z | z <;> simp [z])) ?_ ?_ hi
  · exact s1.trans (List.sublist_append_left _ _)
  · exact s3.trans (List.sublist_append_right _ _)
theorem fits_of {L:List Er} (hok:∀ a∈L,a.Ok) (h:Dx L):Fits L:=by
  refine ⟨bg L.length,iK _,?_⟩
  unfold c9
  rw [List.all_eq_true]
  intro n hn
  have hr:=iK L.length
  have hrg:=hr.rng n hn
  rw [zq hok hr hrg.1 hrg.2]
  refine h _ _ _ ?_
  have hs:=jv hn
  have:=o4 L
  unfold sub at this
  conv=>lhs; rw [← this,hs]
  rw [List.map_append,List.map_cons]
theorem DE {es:List Er} {rs:List Int} (hok:∀ a∈es,a.Ok) (hr:bj es.length rs) (ha:c9 es rs=true):Dx (rs.map fun m=>az es m):=fun A e B eq=>by
  obtain ⟨A0,R0,e1,e2,e3⟩:=List.map_eq_append_iff.mp eq
  obtain ⟨n,B0,e4,e5,e6⟩:=List.map_eq_cons_iff.mp e3
  subst e4
  have nd:=hr.nd
  rw [e1] at nd
  have hnA:n ∉ A0:=fun z=>(List.nodup_append.mp nd).2.2 n z n List.mem_cons_self rfl
  have hp:placeOf rs n=A0.length:=by
    rw [e1,pP hnA,nF]; omega
  have hn:n∈rs:=by rw [e1]; simp
  have hrg:=hr.rng n hn
  have hi:=List.all_eq_true.mp ha n hn
  have:=(zq hok hr hrg.1 hrg.2).mp hi
  rw [hp] at this
  have t1:rs.take A0.length=A0:=by rw [e1]; simp
  have t2:rs.drop (A0.length + 1)=B0:=by rw [e1,As]; rfl
  rw [t1,t2,e2,e5,e6] at this
  exact this
theorem pw {es:List Er} (hok:∀ e∈es,e.Ok) {row:List Int} (hr:∀ x∈row,0≤x∧x < es.length):∀ e∈sub es row,e.Ok:=fun e he=>by
  obtain ⟨m,hm,rfl⟩:=List.mem_map.mp he
  have:=hr m hm
  exact hok _ (bJ this.1 this.2)
theorem AA {es:List Er} (hok:∀ e∈es,e.Ok) {row less:List Int} (hr:∀ x∈row,0≤x∧x < es.length) (nd:row.Nodup) (nd':less.Nodup) (hs:∀ x∈less,x∈row) (hf:Fits (sub es row)):Fits (sub es less):=by
  have hok1:=pw hok hr
  have hok2:=pw hok (fun x hx=>hr x (hs x hx))
  obtain ⟨rs,hR,ha⟩:=hf
  have hL:=DE hok1 hR ha
  have hlen:(sub es row).length=row.length:=by unfold sub; rw [List.length_map]
  -- the order,in the numbers of all errands
  have hm:(rs.map fun m=>az (sub es row) m)=(rs.map fun m=>row.getD m.toNat 0).map fun m=>az es m:=by
    rw [List.map_map]
    refine List.map_congr_left fun m hm=>?_
    have:=hR.rng m hm
    rw [hlen] at this
    obtain ⟨j,rfl⟩:∃ j:Nat,m=(j:Int):=⟨m.toNat,by omega⟩
    rw [rd (by omega)]
    show _=az es (row.getD (j:Int).toNat 0)
    rw [Int.toNat_natCast]
  rw [hm] at hL
  have hp:(rs.map fun m=>row.getD m.toNat 0).Perm row:=by
    rw [hlen] at hR
    have h1:=(kj.mpr hR).map fun m:Int=>row.getD m.toNat 0
    refine h1.trans ?_
    have h2:(bg row.length).map (fun m:Int=>row.getD m.toNat 0)=row:=by
      apply List.ext_getElem?
      intro i
      unfold bg
      rw [List.map_map,List.getElem?_map]
      by_cases h:i < row.length
      · rw [List.getElem?_range h]
        simp only [Option.map_some,Function.comp,Int.toNat_natCast]
        rw [List.getD_eq_getElem?_getD,List.getElem?_eq_getElem h]; rfl
      · rw [List.getElem?_eq_none (by simpa using h),List.getElem?_eq_none (by omega)]; rfl
    rw [h2]
  generalize (rs.map fun m=>row.getD m.toNat 0)=l at *
  have hpf:(l.filter fun x=>decide (x∈less)).Perm less:=by
    refine (List.perm_ext_iff_of_nodup ((hp.nodup_iff.mpr nd).filter _) nd').mpr fun a=>?_
    rw [List.mem_filter]
    constructor
    · rintro ⟨_,h⟩; exact of_decide_eq_true h
    · intro h; exact ⟨hp.mem_iff.mpr (hs a h),decide_eq_true h⟩
  have hok3:∀ a∈l.map (fun m=>az es m),a.Ok:=fun a ha=>by
    obtain ⟨m,hm,rfl⟩:=List.mem_map.mp ha
    have:=hr m (hp.mem_iff.mp hm)
    exact hok _ (bJ this.1 this.2)
  have hF:=Cg hok3 ((List.filter_sublist (p:=fun x=>decide (x∈less))).map fun m=>az es m) hL
  have hfit:=fits_of (fun a ha=>by
    obtain ⟨m,hm,rfl⟩:=List.mem_map.mp ha
    have:=hr m (hp.mem_iff.mp (List.mem_filter.mp hm).1)
    exact hok _ (bJ this.1 this.2)) hF
  exact tK (hpf.map fun m=>az es m) hfit
end RS
set_option maxRecDepth 100000
set_option maxHeartbeats 1000000
namespace RS
open PySem L2
noncomputable def dX (a b:Er):Bool:=(bg 4).any fun t=>a.has t && b.has t
theorem DA {e:Er} (h:e.Sh) {t:Int} (ht:e.has t=true):0≤t∧t≤3:=by
  unfold Er.has at ht
  obtain ⟨p,hp,he⟩:=List.any_eq_true.mp ht
  exact (h.pl p hp).2.2 t (by simpa using he)
theorem qI {a b:Er} (ha:a.Sh):dX a b=true↔∃ t,a.has t=true∧b.has t=true:=by
  unfold dX
  rw [List.any_eq_true]
  constructor
  · rintro ⟨t,_,h⟩
    rw [Bool.and_eq_true] at h
    exact ⟨t,h⟩
  · rintro ⟨t,h1,h2⟩
    have:=DA ha h1
    exact ⟨t,bB.mpr ⟨this.1,by omega⟩,by rw [h1,h2]; rfl⟩
theorem xa {a b:Er}:dX a b=dX b a:=by
  unfold dX
  congr 1
  funext t
  exact Bool.and_comm _ _
theorem yp {a b:Er} (ha:a.Sh) (h:dX a b=false):uV a b:=fun t ht=>by
  cases q:b.has t with
  | false=>rfl
  | true=>rw [(qI ha).mpr ⟨t,ht,q⟩] at h; cases h
theorem yQ {a b:Er} (ha:a.Sh) (h:uV a b):dX a b=false:=by
  cases q:dX a b with
  | false=>rfl
  | true =>
    obtain ⟨t,h1,h2⟩:=(qI ha).mp q
    rw [h t h1] at h2; cases h2
noncomputable def bdT (es:List Er) (i:Int) (b:List Int):Bool:=b.any fun o=>dX (az es i) (az es o)
noncomputable def bdJ (es:List Er) (i:Int):List (List Int)→List Int→List Int
  | [],j=>j
  | b::r,j=>bdJ es i r (if bdT es i b then b++j else j)
noncomputable def bdA (es:List Er) (i:Int) (bs:List (List Int)):List (List Int):=bs.filter fun b=>!bdT es i b
noncomputable def oE (es:List Er) (bs:List (List Int)) (i:Int):List (List Int):=bdA es i bs++[bdJ es i bs [i]]
noncomputable def bdN (es:List Er) (k:Nat):List (List Int):=(bg k).foldl (oE es) []
theorem pU (k:Nat):bg (k + 1)=bg k++[(k:Int)]:=by unfold bg; rw [List.range_succ,List.map_append]; rfl
theorem xu (es:List Er) (k:Nat):bdN es (k + 1)=oE es (bdN es k) (k:Int):=by
  unfold bdN
  rw [pU,List.foldl_append]; rfl
theorem sR (es:List Er) (i:Int):∀ (bs:List (List Int)) (j:List Int),(bdJ es i bs j).Perm ((bs.filter fun b=>bdT es i b).flatten++j)
  | [],j=>.refl _
  | b::r,j=>by
    unfold bdJ
    refine (sR es i r _).trans ?_
    cases q:bdT es i b with
    | true =>
      rw [List.filter_cons_of_pos q,List.flatten_cons,if_pos rfl,← List.append_assoc]
      exact List.Perm.append_right _ List.perm_append_comm
    | false=>rw [List.filter_cons_of_neg (by rw [q]; decide)]; exact .refl _
theorem qD (p:List Int→Bool):∀ bs:List (List Int),((bs.filter fun b=>!p b).flatten++(bs.filter fun b=>p b).flatten).Perm bs.flatten
  | []=>.refl _
  | b::r=>by
    have ih:=qD p r
    rw [List.flatten_cons]
    cases q:p b with
    | true =>
      rw [List.filter_cons_of_neg (by rw [q]; decide),List.filter_cons_of_pos q,List.flatten_cons]
      refine List.Perm.trans ?_ (List.Perm.append_left b ih)
      rw [← List.append_assoc,← List.append_assoc]
      exact List.Perm.append_right _ List.perm_append_comm
    | false =>
      rw [List.filter_cons_of_pos (by rw [q]; rfl),List.filter_cons_of_neg (by rw [q]; decide),List.flatten_cons,List.append_assoc]
      exact List.Perm.append_left b ih
structure Bd (es:List Er) (k:Nat) (bs:List (List Int)):Prop where
  pm:bs.flatten.Perm (bg k)
  sep:∀ x y:Int,0≤x→x < k→0≤y→y < k→dX (az es x) (az es y)=true→∃ b∈bs,x∈b∧y∈b
  con:∀ f:Int→Nat,(∀ x y:Int,0≤x→x < k→0≤y→y < k→dX (az es x) (az es y)=true→f x=f y)→∀ b∈bs,∀ x∈b,∀ y∈b,f x=f y
  ne:∀ b∈bs,b≠[]
theorem mj {es:List Er} {i:Int} {bs:List (List Int)} {x:Int}:x∈bdJ es i bs [i]↔x=i∨∃ b∈bs,bdT es i b=true∧x∈b:=by
  rw [(sR es i bs [i]).mem_iff,List.mem_append,List.mem_flatten,List.mem_singleton]
  constructor
  · rintro (⟨b,hb,hx⟩ | h)
    · obtain ⟨h1,h2⟩:=List.mem_filter.mp hb
      exact .inr ⟨b,h1,h2,hx⟩
    · exact .inl h
  · rintro (h | ⟨b,h1,h2,hx⟩)
    · exact .inr h
    · exact .inl ⟨b,List.mem_filter.mpr ⟨h1,h2⟩,hx⟩
theorem Bd.in_ {es:List Er} {k:Nat} {bs:List (List Int)} (h:Bd es k bs) {b:List Int} (hb:b∈bs) {x:Int} (hx:x∈b):0≤x∧x < k:=bB.mp (h.pm.mem_iff.mp (List.mem_flatten.mpr ⟨b,hb,hx⟩))
theorem Bd.step {es:List Er} {k:Nat} {bs:List (List Int)} (h:Bd es k bs):Bd es (k + 1) (oE es bs (k:Int)) where
  pm:=by
    unfold oE
    rw [List.flatten_append,pU]
    have e:[bdJ es (k:Int) bs [(k:Int)]].flatten=bdJ es (k:Int) bs [(k:Int)]:=by simp
    rw [e]
    refine (List.Perm.append_left _ (sR es (k:Int) bs [(k:Int)])).trans ?_
    rw [← List.append_assoc]
    refine List.Perm.append_right _ ?_
    exact (qD (bdT es (k:Int)) bs).trans h.pm
  sep:=fun x y x0 x1 y0 y1 hs=>by
    have hw:∀ z:Int,0≤z→z < k→dX (az es (k:Int)) (az es z)=true→z∈bdJ es (k:Int) bs [(k:Int)]:=fun z z0 z1 hz=>by
      obtain ⟨b,hb,hzb⟩:=List.mem_flatten.mp (h.pm.mem_iff.mpr (bB.mpr ⟨z0,z1⟩))
      exact mj.mpr (.inr ⟨b,hb,List.any_eq_true.mpr ⟨z,hzb,hz⟩,hzb⟩)
    have hk:(k:Int)∈bdJ es (k:Int) bs [(k:Int)]:=mj.mpr (.inl rfl)
    have hj:bdJ es (k:Int) bs [(k:Int)]∈oE es bs (k:Int):=List.mem_append_right _ (List.mem_singleton.mpr rfl)
    by_cases ex:x=(k:Int)
    · subst ex
      by_cases ey:y=(k:Int)
      · subst ey; exact ⟨_,hj,hk,hk⟩
      · exact ⟨_,hj,hk,hw y y0 (by omega) hs⟩
    · by_cases ey:y=(k:Int)
      · subst ey
        rw [xa] at hs
        exact ⟨_,hj,hw x x0 (by omega) hs,hk⟩
      · obtain ⟨b,hb,hx,hy⟩:=h.sep x y x0 (by omega) y0 (by omega) hs
        cases q:bdT es (k:Int) b with
        | true=>exact ⟨_,hj,mj.mpr (.inr ⟨b,hb,q,hx⟩),mj.mpr (.inr ⟨b,hb,q,hy⟩)⟩
        | false=>exact ⟨b,List.mem_append_left _ (List.mem_filter.mpr ⟨hb,by rw [q]; rfl⟩),hx,hy⟩
  con:=fun f hf b hb x hx y hy=>by
    have hc:=h.con f fun x y a1 a2 a3 a4=>hf x y a1 (by omega) a3 (by omega)
    rcases List.mem_append.mp hb with z | z
    · exact hc b (List.mem_filter.mp z).1 x hx y hy
    · cases List.mem_singleton.mp z
      have key:∀ w∈bdJ es (k:Int) bs [(k:Int)],f w=f (k:Int):=fun w hw=>by
        rcases mj.mp hw with e | ⟨b,hb,ht,hwb⟩
        · rw [e]
        · obtain ⟨o,ho,hs⟩:=List.any_eq_true.mp ht
          have hor:=h.in_ hb ho
          rw [hc b hb w hwb o ho]
          exact (hf (k:Int) o (by omega) (by omega) hor.1 (by omega) hs).symm
      rw [key x hx,key y hy]
  ne:=fun b hb e=>by
    rcases List.mem_append.mp hb with z | z
    · exact h.ne b (List.mem_filter.mp z).1 e
    · cases List.mem_singleton.mp z
      have hk:(k:Int)∈bdJ es (k:Int) bs [(k:Int)]:=mj.mpr (.inl rfl)
      rw [e] at hk
      cases hk
theorem qY (es:List Er):∀ k,Bd es k (bdN es k)
  | 0=>⟨.refl _,fun x y a b=>by omega,fun f hf b hb=>(List.not_mem_nil hb).elim,fun b hb=>(List.not_mem_nil hb).elim⟩
  | k + 1=>by rw [xu]; exact (qY es k).step
noncomputable def ly (es:List Er) (row:List Int):Bool:=(rwR (sub es row) 0).isSome
theorem xH {es:List Er} (hok:∀ e∈es,e.Ok) {row:List Int} (hr:∀ x∈row,0≤x∧x < es.length):ly es row=true↔Fits (sub es row):=by
  have hok1:=pw hok hr
  unfold ly
  cases q:rwR (sub es row) 0 with
  | some rs =>
    obtain ⟨h1,h2⟩:=xw q
    rw [nP] at h2
    exact ⟨fun _=>⟨rs,h1,h2⟩,fun _=>rfl⟩
  | none =>
    refine ⟨fun h=>(by cases h),fun rz0=>?_⟩
    obtain ⟨rs,h1,h2⟩:=rz0
    have:=xC (fun e he=>(hok1 e he).sh) (fun e he=>(hok1 e he).l1) q h1
    rw [nP,h2] at this
    cases this
noncomputable def qB (es:List Er):List (List Int)→List (List Int)→List (List Int)→Prop
  | [],ps,r=>r=ps
  | b::bs,ps,r=>∃ A p B,ps=A++p::B∧ly es (sortI (p++b))=true∧qB es bs (A++sortI (p++b)::B) r
theorem qT (es:List Er):∀ (bs ps qs r:List (List Int)),ps.Perm qs→qB es bs ps r→∃ r',qB es bs qs r'
  | [],ps,qs,r,_,_=>⟨qs,rfl⟩
  | b::bs,ps,qs,r,hp,⟨A,p,B,e,hf,hd⟩=>by
    subst e
    have hm:p∈qs:=hp.mem_iff.mp (by simp)
    obtain ⟨A',B',rfl⟩:=List.append_of_mem hm
    have h1:(A++B).Perm (A'++B'):=((List.perm_middle.symm.trans hp).trans List.perm_middle).cons_inv
    have h2:(A++sortI (p++b)::B).Perm (A'++sortI (p++b)::B'):=(List.perm_middle.trans (h1.cons _)).trans List.perm_middle.symm
    obtain ⟨r',hr'⟩:=qT es bs _ _ r h2 hd
    exact ⟨r',A',p,B',rfl,hf,hr'⟩
theorem ES (x y z:List Int):(x++(y++z)).Perm (y++(x++z)):=by
  rw [← List.append_assoc,← List.append_assoc]; exact List.Perm.append_right _ List.perm_append_comm
theorem g8 {l:List Int} {x:Int}:x∈sortI l↔x∈l:=(sortI_perm l).mem_iff
theorem pT (es:List Er):∀ (bs ps r:List (List Int)),qB es bs ps r→r.length=ps.length∧r.flatten.Perm (bs.flatten++ps.flatten)∧(∀ row∈r,row∈ps∨(ly es row=true∧row.Pairwise (·≤·)))∧(∀ b∈bs,∃ row∈r,∀ x∈b,x∈row)∧(∀ p∈ps,∃ row∈r,∀ x∈p,x∈row)
  | [],ps,r,h=>by
    cases h
    exact ⟨rfl,.refl _,fun row hr=>.inl hr,fun b hb=>(List.not_mem_nil hb).elim,fun p hp=>⟨p,hp,fun x hx=>hx⟩⟩
  | b::bs,ps,r,⟨A,p,B,e,hf,hd⟩=>by
    subst e
    obtain ⟨h1,h2,h3,h4,h5⟩:=pT es bs _ r hd
    refine ⟨?_,?_,?_,?_,?_⟩
    · rw [h1]; simp
    · refine h2.trans ?_
      rw [List.flatten_append,List.flatten_cons,List.flatten_append,List.flatten_cons,List.flatten_cons]
      have hs:=sortI_perm (p++b)
      have g1:(sortI (p++b)++B.flatten).Perm ((p++b)++B.flatten):=List.Perm.append_right _ hs
      refine (List.Perm.append_left _ (List.Perm.append_left _ g1)).trans ?_
      -- bs++(A++((p++b)++B)) ~ (b++bs)++(A++(p++B))
      have g2:((p++b)++B.flatten).Perm (b++(p++B.flatten)):=by
        rw [← List.append_assoc]; exact List.Perm.append_right _ List.perm_append_comm
      refine (List.Perm.append_left _ (List.Perm.append_left _ g2)).trans ?_
      have g3:(A.flatten++(b++(p++B.flatten))).Perm (b++(A.flatten++(p++B.flatten))):=ES _ _ _
      refine (List.Perm.append_left _ g3).trans ?_
      rw [← List.append_assoc]
      exact List.Perm.append_right _ List.perm_append_comm
    · intro row hrow
      rcases h3 row hrow with z | z
      · rcases List.mem_append.mp z with w | w
        · exact .inl (List.mem_append_left _ w)
        · rcases List.mem_cons.mp w with w | w
          · rw [w]; exact .inr ⟨hf,iH _⟩
          · exact .inl (List.mem_append_right _ (List.mem_cons_of_mem _ w))
      · exact .inr z
    · intro c hc
      rcases List.mem_cons.mp hc with rfl | hc
      · obtain ⟨row,hr,hx⟩:=h5 (sortI (p++c)) (by simp)
        exact ⟨row,hr,fun x hxc=>hx x (g8.mpr (List.mem_append_right _ hxc))⟩
      · exact h4 c hc
    · intro q hq
      rcases List.mem_append.mp hq with w | w
      · exact h5 q (List.mem_append_left _ w)
      · rcases List.mem_cons.mp w with w | w
        · rw [w]
          obtain ⟨row,hr,hx⟩:=h5 (sortI (p++b)) (by simp)
          exact ⟨row,hr,fun x hxc=>hx x (g8.mpr (List.mem_append_left _ hxc))⟩
        · exact h5 q (List.mem_append_right _ (List.mem_cons_of_mem _ w))
noncomputable def tryD (es:List Er) (b:List Int) (rec:List (List Int)→Option (List (List Int))):List (List Int)→List (List Int)→Option (List (List Int))
  | _,[]=>none
  | A,p::B=>match (if ly es (sortI (p++b)) then rec (A++sortI (p++b)::B) else none) with
    | some r=>some r
    | none=>if p=[] then none else tryD es b rec (A++[p]) B
noncomputable def kP (es:List Er):Nat→List (List Int)→List (List Int)→Option (List (List Int))
  | _,[],ps=>some ps
  | 0,_::_,_=>none
  | n + 1,b::bs,ps=>tryD es b (kP es n bs) [] ps
theorem uk {es:List Er} {b:List Int} {rec:List (List Int)→Option (List (List Int))} {r:List (List Int)}:∀ (B A:List (List Int)),tryD es b rec A B=some r→∃ A' p B',A++B=A'++p::B'∧ly es (sortI (p++b))=true∧rec (A'++sortI (p++b)::B')=some r
  | [],A,h=>by cases h
  | p::B,A,h=>by
    unfold tryD at h
    split at h
    · rename_i r' hr
      cases h
      split at hr
      · rename_i hf
        exact ⟨A,p,B,rfl,hf,hr⟩
      · cases hr
    · split at h
      · cases h
      · obtain ⟨A',q,B',e,h2⟩:=uk B (A++[p]) h
        exact ⟨A',q,B',by rw [← e]; simp,h2⟩
theorem rV (es:List Er):∀ (n:Nat) (bs ps r:List (List Int)),kP es n bs ps=some r→qB es bs ps r
  | n,[],ps,r,h=>by
    cases n <;> (cases h; rfl)
  | 0,b::bs,ps,r,h=>by cases h
  | n + 1,b::bs,ps,r,h=>by
    obtain ⟨A,p,B,e,hf,hr⟩:=uk ps [] h
    exact ⟨A,p,B,by simpa using e,hf,rV es n bs _ r hr⟩
noncomputable def oy (ps:List (List Int)):Prop:=∀ A B,ps=A++[]::B→∀ q∈B,q=[]
theorem tJ {es:List Er} {b:List Int} {rec:List (List Int)→Option (List (List Int))}:∀ (B A:List (List Int)),(∀ a∈A,a≠[])→tryD es b rec A B=none→∀ A' p B',B=A'++p::B'→ly es (sortI (p++b))=true→(rec (A++A'++sortI (p++b)::B')=none∧∀ a∈A',a≠[])∨∃ A1 B1,B=A1++[]::B1∧p∈B1∧(∀ a∈A1,a≠[])∧(ly es (sortI ([]++b))=true→rec (A++A1++sortI ([]++b)::B1)=none)
  | [],A,hA,h,A',p,B',e,_=>by simp at e
  | q::B,A,hA,h,A',p,B',e,hf=>by
    unfold tryD at h
    split at h
    · cases h
    · rename_i hn
      have hq:ly es (sortI (q++b))=true→rec (A++sortI (q++b)::B)=none:=fun z=>by rw [if_pos z] at hn; exact hn
      cases A' with
      | nil =>
        cases e
        exact .inl ⟨by rw [List.append_nil]; exact hq hf,fun a ha=>(List.not_mem_nil ha).elim⟩
      | cons a A' =>
        cases e
        split at h
        · rename_i z
          subst z
          exact .inr ⟨[],_,rfl,by simp,fun a ha=>(List.not_mem_nil ha).elim,fun w=>by rw [List.append_nil]; exact hq w⟩
        · rename_i z
          rcases tJ (A'++p::B') (A++[q]) (fun a ha=>by
              rcases List.mem_append.mp ha with w | w
              · exact hA a w
              · cases List.mem_singleton.mp w; exact z) h A' p B' rfl hf with ⟨h1,h2⟩ | ⟨A1,B1,h1,hp1,h2,h3⟩
          · refine .inl ⟨by rw [← h1]; simp,fun a ha=>?_⟩
            rcases List.mem_cons.mp ha with rfl | ha
            · exact z
            · exact h2 a ha
          · refine .inr ⟨q::A1,B1,by show q::(A'++p::B')=_; rw [h1]; rfl,hp1,fun a ha=>?_,fun w=>by rw [← h3 w]; simp⟩
            rcases List.mem_cons.mp ha with rfl | ha
            · exact z
            · exact h2 a ha
theorem BC {l:List Int} (h:l≠[]):sortI l≠[]:=fun e=>by
  have:=(sortI_perm l).length_eq
  rw [e] at this
  exact h (List.eq_nil_of_length_eq_zero this.symm)
theorem oy.put {A B:List (List Int)} {p g:List Int} (h:oy (A++p::B)) (hA:∀ a∈A,a≠[]) (hg:g≠[]):oy (A++g::B):=fun X Y e=>by
  rcases List.append_eq_append_iff.mp e with ⟨Z,h1,h2⟩ | ⟨Z,h1,h2⟩
  · cases Z with
    | nil=>rw [List.nil_append] at h2; cases h2; exact absurd rfl hg
    | cons z Z =>
      cases h2
      exact h (A++p::Z) Y (by simp)
  · cases Z with
    | nil=>rw [List.nil_append] at h2; cases h2; exact absurd rfl hg
    | cons z Z =>
      cases h2
      exact absurd rfl (hA [] (by rw [h1]; simp))
theorem oX (es:List Er):∀ (n:Nat) (bs ps:List (List Int)),bs.length≤n→(∀ b∈bs,b≠[])→oy ps→kP es n bs ps=none→∀ r,¬ qB es bs ps r
  | n,[],ps,_,_,_,h,r=>by cases n <;> cases h
  | 0,b::bs,ps,hl,_,_,_,r=>by simp at hl
  | n + 1,b::bs,ps,hl,hb,hp,h,r=>by
    rintro ⟨A,p,B,e,hf,hd⟩
    have hbn:=hb b List.mem_cons_self
    have hl':bs.length≤n:=by simpa using hl
    have hb':∀ c∈bs,c≠[]:=fun c hc=>hb c (List.mem_cons_of_mem _ hc)
    have gne:∀ q:List Int,sortI (q++b)≠[]:=fun q=>BC fun z=>hbn (List.append_eq_nil_iff.mp z).2
    rcases tJ ps [] (fun a ha=>(List.not_mem_nil ha).elim) h A p B e hf with ⟨h1,h2⟩ | ⟨A1,B1,h1,hpm,h2,h3⟩
    · rw [List.nil_append] at h1
      exact oX es n bs _ hl' hb' ((e ▸ hp:oy (A++p::B)).put h2 (gne p)) h1 r hd
    · have hp1:oy (A1++[]::B1):=h1 ▸ hp
      have z:=hp1 A1 B1 rfl p hpm
      subst z
      have hperm:(A++B).Perm (A1++B1):=by
        have:(A++[]::B).Perm (A1++[]::B1):=by rw [← e,← h1]
        exact ((List.perm_middle.symm.trans this).trans List.perm_middle).cons_inv
      have h4:(A++sortI ([]++b)::B).Perm (A1++sortI ([]++b)::B1):=(List.perm_middle.trans (hperm.cons _)).trans List.perm_middle.symm
      obtain ⟨r',hr'⟩:=qT es bs _ _ r h4 hd
      have h5:=h3 hf
      rw [List.nil_append] at h5
      exact oX es n bs _ hl' hb' (hp1.put h2 (gne [])) h5 r' hr'
noncomputable def jJ (es:List Er) (h:Nat):Option (List (List Int)):=kP es 6 (bdN es es.length) (List.replicate h [])
theorem oy.empty (h:Nat):oy (List.replicate h []):=fun A B e q hq=>by
  have:q∈List.replicate h ([]:List Int):=by rw [e]; simp [hq]
  exact (List.mem_replicate.mp this).2
theorem ky (h:Nat):(List.replicate h ([]:List Int)).flatten=[]:=by
  induction h with
  | zero=>rfl
  | succ h ih=>rw [List.replicate_succ,List.flatten_cons,ih]; rfl
theorem zj {es:List Er} {k:Nat} {bs:List (List Int)} (h:Bd es k bs):bs.length≤k:=by
  have h1:=h.pm.length_eq
  rw [cZ] at h1
  have:∀ bs:List (List Int),(∀ b∈bs,b≠[])→bs.length≤bs.flatten.length:=fun bs=>by
    induction bs with
    | nil=>intro _; exact Nat.le_refl _
    | cons b r ih =>
      intro hb
      have:=ih fun c hc=>hb c (List.mem_cons_of_mem _ hc)
      have h2:0 < b.length:=List.length_pos_iff.mpr (hb b List.mem_cons_self)
      rw [List.length_cons,List.flatten_cons,List.length_append]; omega
  have:=this bs h.ne
  omega
theorem Br {es:List Er} {h:Nat} (hok:∀ e∈es,e.Ok) {r:List (List Int)} (e:jJ es h=some r):∃ f:Nat→Nat,(∀ i < es.length,f i < h)∧uQ es (lJ es.length h f)∧lJ es.length h f=r:=by
  have hB:=qY es es.length
  have hd:=rV es _ _ _ _ e
  obtain ⟨h1,h2,h3,h4,h5⟩:=pT es _ _ _ hd
  rw [ky,List.append_nil] at h2
  have hpm:=h2.trans hB.pm
  rw [List.length_replicate] at h1
  have nd:r.flatten.Nodup:=hpm.nodup_iff.mpr (eH _)
  obtain ⟨ndr,dis⟩:=List.pairwise_flatten.mp nd
  have hin:∀ row∈r,∀ x∈row,0≤x∧x < es.length:=fun row hr x hx=>bB.mp (hpm.mem_iff.mp (List.mem_flatten.mpr ⟨row,hr,hx⟩))
  have hsort:∀ row∈r,row.Pairwise (·≤·):=fun row hr=>by
    rcases h3 row hr with z | z
    · rw [(List.mem_replicate.mp z).2]; exact List.Pairwise.nil
    · exact z.2
  have one:∀ (i j:Nat) (x:Int) (hi:i < r.length) (hj:j < r.length),x∈r[i]→x∈r[j]→i=j:=fun i j x hi hj xi xj=>by
    rcases Nat.lt_trichotomy i j with z | z | z
    · exact absurd rfl (List.pairwise_iff_getElem.mp dis i j hi hj z x xi x xj)
    · exact z
    · exact absurd rfl (List.pairwise_iff_getElem.mp dis j i hj hi z x xj x xi)
  let f:Nat→Nat:=fun i=>r.findIdx fun row=>decide ((i:Int)∈row)
  have hfi:∀ i < es.length,∃ hl:f i < r.length,(i:Int)∈r[f i]:=fun i hi=>by
    have hm:(i:Int)∈r.flatten:=hpm.mem_iff.mpr (bB.mpr ⟨by omega,by omega⟩)
    obtain ⟨row,hr,hx⟩:=List.mem_flatten.mp hm
    have hl:f i < r.length:=List.findIdx_lt_length_of_exists ⟨row,hr,decide_eq_true hx⟩
    have:=List.findIdx_getElem (p:=fun row=>decide ((i:Int)∈row)) (xs:=r) (w:=hl)
    exact ⟨hl,of_decide_eq_true this⟩
  have hrows:lJ es.length h f=r:=by
    apply List.ext_getElem?
    intro i
    rcases Nat.lt_or_ge i h with hih | hih
    case inr =>
      rw [List.getElem?_eq_none (by unfold lJ; rw [List.length_map,List.length_range]; exact hih),List.getElem?_eq_none (by omega)]
    case inl =>
      have hi2:i < r.length:=by omega
      have e1:(lJ es.length h f)[i]?=some ((bg es.length).filter fun x=>decide (f x.toNat=i)):=by
        unfold lJ; rw [List.getElem?_map,List.getElem?_range hih]; rfl
      rw [e1,List.getElem?_eq_getElem hi2]
      congr 1
      refine kH ?_ ?_ (hsort _ (List.getElem_mem hi2))
      · refine (List.perm_ext_iff_of_nodup ((eH _).filter _) (ndr _ (List.getElem_mem hi2))).mpr fun x=>?_
        rw [List.mem_filter,bB]
        constructor
        · rintro ⟨hx,hf⟩
          have hf':=of_decide_eq_true hf
          obtain ⟨hl,hm⟩:=hfi x.toNat (by omega)
          have e1:((x.toNat:Nat):Int)=x:=by omega
          rw [e1] at hm
          simp only [hf'] at hm
          exact hm
        · intro hx
          have hxr:=hin _ (List.getElem_mem hi2) x hx
          refine ⟨hxr,decide_eq_true ?_⟩
          obtain ⟨hl,hm⟩:=hfi x.toNat (by omega)
          have e1:((x.toNat:Nat):Int)=x:=by omega
          rw [e1] at hm
          exact one _ _ x hl hi2 hm hx
      · refine List.Pairwise.filter _ ?_
        unfold bg
        exact List.Pairwise.map _ (fun a b h=>by omega) (List.pairwise_lt_range (n:=es.length))
  refine ⟨f,fun i hi=>by obtain ⟨hl,_⟩:=hfi i hi; omega,?_,hrows⟩
  rw [hrows]
  intro row hrow
  refine ⟨fun hne=>?_,fun m m0 m1 hm n hn=>?_⟩
  · rcases h3 row hrow with z | z
    · exact absurd (List.mem_replicate.mp z).2 hne
    · exact (xH hok (hin row hrow)).mp z.1
  · have hnr:=hin row hrow n hn
    refine yp (hok _ (bJ hnr.1 hnr.2)).sh ?_
    cases q:dX (az es n) (az es m) with
    | false=>rfl
    | true =>
      exfalso
      obtain ⟨b,hb,hnb,hmb⟩:=hB.sep n m hnr.1 hnr.2 m0 m1 q
      obtain ⟨row',hr',hx'⟩:=h4 b hb
      obtain ⟨i,hi,rfl⟩:=List.getElem_of_mem hrow
      obtain ⟨j,hj,rfl⟩:=List.getElem_of_mem hr'
      have:=one i j n hi hj hn (hx' n hnb)
      subst this
      exact hm (hx' m hmb)
theorem xt {es:List Er} {h:Nat} {f:Nat→Nat} (hok:∀ e∈es,e.Ok) (hd:uQ es (lJ es.length h f)):∀ (bs ps:List (List Int)),ps.length=h→(∀ b∈bs,b≠[]∧∃ hand < h,∀ x∈b,(0≤x∧x < es.length)∧f x.toNat=hand)→(∀ i (hi:i < ps.length),∀ x∈ps[i],(0≤x∧x < es.length)∧f x.toNat=i)→(bs.flatten++ps.flatten).Nodup→∃ r,qB es bs ps r
  | [],ps,_,_,_,_=>⟨ps,rfl⟩
  | b::bs,ps,hl,hb,hp,nd=>by
    obtain ⟨hbn,hand,hh,hx⟩:=hb b List.mem_cons_self
    have hi:hand < ps.length:=by omega
    have hsp:ps=ps.take hand++ps[hand]::ps.drop (hand + 1):=by rw [List.getElem_cons_drop,List.take_append_drop]
    have hpe:=hp hand hi
    generalize hP:ps[hand]=p at *
    generalize hA:ps.take hand=A at *
    generalize hB:ps.drop (hand + 1)=B at *
    have hAl:A.length=hand:=by rw [← hA,List.length_take]; omega
    have hflat:ps.flatten=A.flatten++(p++B.flatten):=by rw [hsp,List.flatten_append,List.flatten_cons]
    have hin:∀ x∈p++b,(0≤x∧x < es.length)∧f x.toNat=hand:=fun x hx'=>by
      rcases List.mem_append.mp hx' with z | z
      · exact hpe x z
      · exact hx x z
    have ndpb:(p++b).Nodup:=by
      rw [List.flatten_cons,hflat] at nd
      have h1:=List.nodup_append.mp nd
      have h2:=List.nodup_append.mp h1.1
      have h3:=List.nodup_append.mp h1.2.1
      have h4:=List.nodup_append.mp h3.2.1
      refine List.nodup_append.mpr ⟨h4.1,h2.1,fun x xp y yb e=>?_⟩
      subst e
      exact h1.2.2 x (List.mem_append_left _ yb) x (List.mem_append_right _ (List.mem_append_left _ xp)) rfl
    have hsin:∀ x∈sortI (p++b),0≤x∧x < es.length:=fun x hx'=>(hin x (g8.mp hx')).1
    have hrow:(bg es.length).filter (fun x=>decide (f x.toNat=hand))∈lJ es.length h f:=List.mem_map.mpr ⟨hand,List.mem_range.mpr hh,rfl⟩
    have hmem:∀ x∈sortI (p++b),x∈(bg es.length).filter (fun x=>decide (f x.toNat=hand)):=fun x hx'=>by
      have:=hin x (g8.mp hx')
      exact List.mem_filter.mpr ⟨bB.mpr this.1,decide_eq_true this.2⟩
    have hfit:ly es (sortI (p++b))=true:=by
      rw [xH hok hsin]
      have hne:(bg es.length).filter (fun x=>decide (f x.toNat=hand))≠[]:=fun e=>by
        obtain ⟨x,hxb⟩:=List.exists_mem_of_ne_nil _ hbn
        have:=hmem x (g8.mpr (List.mem_append_right _ hxb))
        rw [e] at this; cases this
      exact AA hok (fun x hx'=>bB.mp (List.mem_filter.mp hx').1) ((eH _).filter _) ((sortI_perm _).nodup_iff.mpr ndpb) hmem ((hd _ hrow).1 hne)
    have hperm:(bs.flatten++(A++sortI (p++b)::B).flatten).Perm ((b::bs).flatten++ps.flatten):=by
      rw [hflat,List.flatten_append,List.flatten_cons,List.flatten_cons]
      have g1:(sortI (p++b)++B.flatten).Perm ((p++b)++B.flatten):=List.Perm.append_right _ (sortI_perm _)
      refine (List.Perm.append_left _ (List.Perm.append_left _ g1)).trans ?_
      have g2:((p++b)++B.flatten).Perm (b++(p++B.flatten)):=by
        rw [← List.append_assoc]; exact List.Perm.append_right _ List.perm_append_comm
      refine (List.Perm.append_left _ (List.Perm.append_left _ g2)).trans ?_
      have g3:(A.flatten++(b++(p++B.flatten))).Perm (b++(A.flatten++(p++B.flatten))):=ES _ _ _
      refine (List.Perm.append_left _ g3).trans ?_
      rw [← List.append_assoc]
      exact List.Perm.append_right _ List.perm_append_comm
    obtain ⟨r,hr⟩:=xt hok hd bs (A++sortI (p++b)::B) (by rw [← hl,hsp]; simp) (fun c hc=>hb c (List.mem_cons_of_mem _ hc)) (fun i hi' x hx'=>by
      by_cases z:i=hand
      · subst z
        rw [List.getElem_append_right (by omega)] at hx'
        simp only [hAl,Nat.sub_self,List.getElem_cons_zero] at hx'
        exact hin x (g8.mp hx')
      · have hi2:i < ps.length:=by rw [hsp]; simpa using hi'
        have e:(A++sortI (p++b)::B)[i]=ps[i]:=by
          simp only [hsp]
          rcases Nat.lt_or_ge i A.length with w | w
          · rw [List.getElem_append_left w,List.getElem_append_left w]
          · rw [List.getElem_append_right w,List.getElem_append_right w]
            obtain ⟨j,hj⟩:∃ j,i - A.length=j + 1:=⟨i - A.length - 1,by omega⟩
            simp only [hj,List.getElem_cons_succ]
        rw [e] at hx'
        exact hp i hi2 x hx') (hperm.nodup_iff.mpr nd)
    exact ⟨r,A,p,B,hsp,hfit,hr⟩
theorem AX {es:List Er} {h:Nat} (l6:es.length≤6) (hok:∀ e∈es,e.Ok) (e:jJ es h=none):∀ f:Nat→Nat,(∀ i < es.length,f i < h)→¬ uQ es (lJ es.length h f):=fun f hf hd=>by
  have hB:=qY es es.length
  have hno:=oX es _ _ _ (Nat.le_trans (zj hB) l6) hB.ne (oy.empty h) e
  have hcon:=hB.con (fun x=>f x.toNat) fun x y x0 x1 y0 y1 hs=>by
    by_cases z:f x.toNat=f y.toNat
    · exact z
    · exfalso
      have hrow:(bg es.length).filter (fun w=>decide (f w.toNat=f x.toNat))∈lJ es.length h f:=List.mem_map.mpr ⟨f x.toNat,List.mem_range.mpr (hf _ (by omega)),rfl⟩
      have:=(hd _ hrow).2 y y0 y1 (fun w=>z (of_decide_eq_true (List.mem_filter.mp w).2).symm) x (List.mem_filter.mpr ⟨bB.mpr ⟨x0,x1⟩,decide_eq_true rfl⟩)
      rw [yQ (hok _ (bJ x0 x1)).sh this] at hs
      cases hs
  obtain ⟨r,hr⟩:=xt hok hd (bdN es es.length) (List.replicate h []) (List.length_replicate) (fun b hb=>by
      have hne:=hB.ne b hb
      obtain ⟨y,hy⟩:=List.exists_mem_of_ne_nil _ hne
      have hyr:=hB.in_ hb hy
      refine ⟨hne,f y.toNat,hf _ (by omega),fun x hx=>⟨hB.in_ hb hx,hcon b hb x hx y hy⟩⟩) (fun i hi x hx=>by
      rw [List.getElem_replicate] at hx; cases hx) (by rw [ky,List.append_nil]; exact hB.pm.nodup_iff.mpr (eH _))
  exact hno r hr
theorem ua {es:List Er} {h:Nat} (l6:es.length≤6) (hok:∀ e∈es,e.Ok):(jJ es h).isSome=true↔dO es h:=by
  cases e:jJ es h with
  | some r =>
    obtain ⟨f,h1,h2,_⟩:=Br hok e
    exact ⟨fun _=>⟨f,h1,h2⟩,fun _=>rfl⟩
  | none=>exact ⟨fun z=>(by cases z),fun qz0=>(by obtain ⟨f,h1,h2⟩:=qz0; exact absurd h2 (AX l6 hok e f h1))⟩
end RS
set_option maxRecDepth 100000
set_option maxHeartbeats 1000000
namespace RS
open PySem L2
theorem any_bools (l:List Bool):xv [.list (l.map PyData.bool)]=some (.bool (l.any id)):=by
  show (gp _).map _=_
  rw [kq]; rfl
noncomputable def bA:Gf
  | [a,b]=>if vh a && vh b then .ok (.bool (dX (deE a) (deE b))) else .no
  | _=>.no
theorem pQ {a b:Er} (ha:a.Sh) (hb:b.Sh):bA [a.d,b.d]=.ok (.bool (dX a b)):=by
  unfold bA; simp only [oa ha,oa hb,Bool.and_self,if_true,zr]
theorem sr (cs:Cs):∀ ds,ds.length=2→bA ds≠.no→a7 (eZ cs bc (ds.map some++List.replicate 0 none))=bA ds:=by
  intro ds hl hne
  obtain ⟨x,y,ez,hz⟩:=yg hne
  clear hne; subst ez; have hne:=hz; clear hz
  · skip
    split at hne
    · rename_i hc
      rw [Bool.and_eq_true] at hc
      obtain ⟨e1,ha⟩:=tL hc.1
      obtain ⟨e2,hb⟩:=tL hc.2
      rw [← e1,← e2]
      generalize deE x=a at *
      generalize deE y=b at *
      rw [pQ ha hb]
      have hrg:=ju (j:=4) (by decide) (by decide)
      have e4:cx 0 (4:Int).toNat=(bg 4).map PyData.int:=rk 4
      rw [e4] at hrg
      have src:eO (af (gC (.int 4)) ak) [some a.d,some b.d]=.ok ((bg 4).map PyData.int):=by
        rw [jm,aH,eo,Rs.aj,aS,Rs.aj,Rs.aj,hrg]
      have hcm:bX 2 (eO (af (gC (.int 4)) ak)) bV (yV (ax bc (af (ag 0) (af (ag 2) ak))) (ax bc (af (ag 1) (af (ag 2) ak)))) bx [some a.d,some b.d]=.ok (((bg 4).map PyData.int).map fun d=>.bool (a.has (deI d) && b.has (deI d))) :=
        cK rfl src (by rw [List.length_map,cZ]; decide) fun d hd=>by
          obtain ⟨t,_,rfl⟩:=List.mem_map.mp hd
          have h1:=fV (t:=t) ha
          have h2:=fV (t:=t) hb
          show _=Rs.ok (PyData.bool (a.has t && b.has t))
          simp only [List.cons_append,List.nil_append,Gq,bb,aH,aS,aw,ay,Rs.aj,h1,h2,b9]
          cases a.has t <;> rfl
      have em:(((bg 4).map PyData.int).map fun d=>PyData.bool (a.has (deI d) && b.has (deI d)))=((bg 4).map fun t=>a.has t && b.has t).map PyData.bool:=by
        rw [List.map_map,List.map_map]; exact List.map_congr_left fun t _=>rfl
      rw [em] at hcm
      have hf:=any_bools ((bg 4).map fun t=>a.has t && b.has t)
      rw [List.any_map] at hf
      show a7 (eZ cs bc [some a.d,some b.d])=_
      simp only [eZ,cp,j6,aH,aS,nU,hcm,Rs.aj,hf,Rs.ao,aA,bR]
      rfl
    · exact absurd rfl hne
noncomputable abbrev yj:Ds→Rs Bool:=gT (gF xv (af (gL (bX 7 (dR (ag 6)) bV (ax bA (af (ag 3) (af (g2 dIx (ag 0) (ag 7)) ak))) bx)) ak))
noncomputable abbrev A8:Ds→Sr:=sIf yj (bh [5] 4 (g2 br (ag 6) (ag 4))) (lg [5] 5 (ag 6))
theorem DQ {es:List Er} (hsh:∀ e∈es,e.Sh) {i:Int} (i0:0≤i) (i1:i < es.length) {b:List Int} (hb:∀ x∈b,0≤x∧x < es.length) (hl:b.length≤1000) (x1 x2 x4 x5:Option PyData):yj [some (aq es),x1,x2,some (az es i).d,x4,x5,some (bT b)]=.ok (bdT es i b):=by
  have hcm:bX 7 (dR (ag 6)) bV (ax bA (af (ag 3) (af (g2 dIx (ag 0) (ag 7)) ak))) bx [some (aq es),x1,x2,some (az es i).d,x4,x5,some (bT b)]=.ok ((b.map PyData.int).map fun d=>.bool (dX (az es i) (az es (deI d)))) :=
    cK rfl rfl (by rw [List.length_map]; omega) fun d hd=>by
      obtain ⟨o,ho,rfl⟩:=List.mem_map.mp hd
      have hor:=hb o ho
      have a3:dIx (aq es) (.int o)=some (az es o).d:=ia hor.1 hor.2
      have hg:=pQ (hsh _ (bJ i0 i1)) (hsh _ (bJ hor.1 hor.2))
      show _=Rs.ok (PyData.bool (dX (az es i) (az es o)))
      simp only [List.cons_append,List.nil_append,bb,aH,aS,cL,aw,ay,Rs.aj,a3,Rs.ao,hg]
  have em:((b.map PyData.int).map fun d=>PyData.bool (dX (az es i) (az es (deI d))))=(b.map fun o=>dX (az es i) (az es o)).map PyData.bool:=by
    rw [List.map_map,List.map_map]; exact List.map_congr_left fun t _=>rfl
  rw [em] at hcm
  have hf:=any_bools (b.map fun o=>dX (az es i) (az es o))
  rw [List.any_map] at hf
  simp only [yj,gZ,j6,aH,aS,nU,hcm,Rs.aj,hf,Rs.ao,b9]
  rfl
theorem qz {es:List Er} (hsh:∀ e∈es,e.Sh) {i:Int} (i0:0≤i) (i1:i < es.length) (x1 x2:Option PyData):∀ (bs:List (List Int)) (j:List Int) (ap:List (List Int)) (x6:Option PyData),(∀ b∈bs,∀ x∈b,0≤x∧x < es.length)→bs.flatten.length + j.length≤100→ap.length + bs.length≤100 →
    ∃ y6,forL (cQ 6) A8 (bs.map bT) [some (aq es),x1,x2,some (az es i).d,some (bT j),some (aN ap),x6]=.nx [some (aq es),x1,x2,some (az es i).d,some (bT (bdJ es i bs j)),some (aN (ap++bdA es i bs)),y6]
  | [],j,ap,x6,_,_,_=>⟨x6,by simp [forL,bdJ,bdA]⟩
  | b::r,j,ap,x6,hb,hl,ha=>by
    have hl':b.length + r.flatten.length + j.length≤100:=by rw [List.flatten_cons,List.length_append] at hl; exact hl
    have ha':ap.length + (r.length + 1)≤100:=ha
    have ht:=DQ hsh i0 i1 (hb b List.mem_cons_self) (by omega) x1 x2 (some (bT j)) (some (aN ap))
    have hts:cQ 6 (bT b) [some (aq es),x1,x2,some (az es i).d,some (bT j),some (aN ap),x6]=some [some (aq es),x1,x2,some (az es i).d,some (bT j),some (aN ap),some (bT b)]:=rfl
    have hb':∀ c∈r,∀ x∈c,0≤x∧x < es.length:=fun c hc=>hb c (List.mem_cons_of_mem _ hc)
    rw [List.map_cons]
    unfold forL
    rw [hts]
    cases q:bdT es i b with
    | true =>
      rw [q] at ht
      obtain ⟨y6,e⟩:=qz hsh i0 i1 x1 x2 r (b++j) ap (some (bT b)) hb' (by rw [List.length_append]; omega) (by omega)
      refine ⟨y6,?_⟩
      have a1:br (bT b) (bT j)=some (bT (b++j)):=by
        unfold bT
        rw [yK (by rw [List.length_map,List.length_map]; omega),List.map_append]
      have hbdy:A8 [some (aq es),x1,x2,some (az es i).d,some (bT j),some (aN ap),some (bT b)]=.nx [some (aq es),x1,x2,some (az es i).d,some (bT (b++j)),some (aN ap),some (bT b)]:=by
        unfold A8
        rw [fu,ht,aA,if_pos rfl,gW,if_pos (by simp)]
        simp only [cL,aQ (show 6 ∉ [5] by decide),aQ (show 4 ∉ [5] by decide),aw,ay,Rs.aj,a1,Rs.ao,aA]
        rfl
      simp only [hbdy,e]
      have e1:bdJ es i (b::r) j=bdJ es i r (b++j):=by show bdJ es i r (if bdT es i b then _ else _)=_; rw [q]; rfl
      have e2:bdA es i (b::r)=bdA es i r:=by unfold bdA; rw [List.filter_cons_of_neg (by rw [q]; decide)]
      rw [e1,e2]
    | false =>
      rw [q] at ht
      obtain ⟨y6,e⟩:=qz hsh i0 i1 x1 x2 r j (ap++[b]) (some (bT b)) hb' (by omega) (by rw [List.length_append,List.length_singleton]; omega)
      refine ⟨y6,?_⟩
      have hbdy:A8 [some (aq es),x1,x2,some (az es i).d,some (bT j),some (aN ap),some (bT b)]=.nx [some (aq es),x1,x2,some (az es i).d,some (bT j),some (aN (ap++[b])),some (bT b)]:=by
        unfold A8
        rw [fu,ht,aA,if_neg (by decide)]
        unfold lg aN
        simp only [List.getElem?_cons_succ,List.getElem?_cons_zero,aQ (show 6 ∉ [5] by decide),aw,ay,aA,List.length_map,List.map_append]
        rw [if_pos (by omega)]
        rfl
      simp only [hbdy,e]
      have e1:bdJ es i (b::r) j=bdJ es i r j:=by show bdJ es i r (if bdT es i b then _ else _)=_; rw [q]; rfl
      have e2:bdA es i (b::r)=b::bdA es i r:=by unfold bdA; rw [List.filter_cons_of_pos (by rw [q]; rfl)]
      rw [e1,e2,List.append_assoc]; rfl
noncomputable def c4:Gf
  | [d]=>if kf d then .ok (aN (bdN (b8 d) (b8 d).length)) else .no
  | _=>.no
theorem mP {es:List Er} (h1:1≤es.length) (h2:es.length≤6) (h:∀ e∈es,e.Wk):c4 [aq es]=.ok (aN (bdN es es.length)):=by
  unfold c4; simp only [gH h1 h2 h,if_true,cC]
theorem Bj (cs:Cs):∀ ds,ds.length=1→c4 ds≠.no→a7 (ke cs bA (ds.map some++List.replicate 6 none))=c4 ds:=by
  intro ds hl hne
  obtain ⟨d,ez,hz⟩:=Ah hne
  clear hne; subst ez; have hne:=hz; clear hz
  · skip
    split at hne
    · rename_i hc
      obtain ⟨e1,l1,l6,hok⟩:=ku hc
      rw [← e1]
      generalize b8 d=es at *
      rw [mP l1 l6 hok]
      have hsh:∀ e∈es,e.Sh:=fun e he=>(hok e he).sh
      have s1:bh [5] 1 (ic ak) [some (aq es),none,none,none,none,none,none]=.nx [some (aq es),some (aN []),none,none,none,none,none]:=rfl
      have src:lM (af (ag 0) ak) (mask [5] [some (aq es),some (aN []),none,none,none,none,none])=.ok (iw (es.map Er.d)):=rfl
      obtain ⟨δ',e,x2,x3,x4,x5,x6,hδ⟩:=iU (β:=Unit) (tgt:=fj [2,3]) (body:=bf (bh [5] 4 (ic (af (ag 2) ak))) (bf (k7 [5] 5 ak) (bf (k9 [5] (dR (ag 1)) (cQ 6) A8) (qM 5 (bh [] 1 (g2 br (ag 5) (ic (af (ag 4) ak))))))))
        (fun k δ=>∃ x2 x3 x4 x5 x6,δ=[some (aq es),some (aN (bdN es k)),x2,x3,x4,x5,x6]) (iw (es.map Er.d)) 0 (fun k d δ hk pz4=>by
          obtain ⟨x2,x3,x4,x5,x6,hx⟩:=pz4
          subst hx
          rw [Nat.zero_add] at *
          unfold iw at hk
          rw [List.getElem?_mapIdx,List.getElem?_map] at hk
          have hkl:k < es.length:=by
            rcases Nat.lt_or_ge k es.length with z | z
            · exact z
            · rw [List.getElem?_eq_none z] at hk; cases hk
          rw [List.getElem?_eq_getElem hkl] at hk
          have hd:d=.tuple [.int (k:Int),(az es (k:Int)).d]:=by
            have:az es (k:Int)=es[k]:=by
              unfold az
              rw [Int.toNat_natCast,List.getD_eq_getElem?_getD,List.getElem?_eq_getElem hkl]; rfl
            rw [this]
            exact (Option.some.inj hk).symm
          subst hd
          have hB:=qY es k
          have hfl:=hB.pm.length_eq
          rw [cZ] at hfl
          have hbl:=zj hB
          obtain ⟨y6,ein⟩:=qz hsh (i:=(k:Int)) (by omega) (by omega) (some (aN (bdN es k))) (some (.int (k:Int))) (bdN es k) [(k:Int)] [] x6 (fun b hb x hx=>by have:=hB.in_ hb hx; omega) (by rw [List.length_singleton]; omega) (by rw [List.length_nil]; omega)
          rw [List.nil_append] at ein
          refine ⟨[some (aq es),some (aN (bdN es k)),some (.int (k:Int)),some (az es (k:Int)).d,x4,x5,x6],[some (aq es),some (aN (bdN es (k + 1))),some (.int (k:Int)),some (az es (k:Int)).d,some (bT (bdJ es (k:Int) (bdN es k) [(k:Int)])),none,y6],rfl,?_,_,_,_,_,_,rfl⟩
          have t1:bh [5] 4 (ic (af (ag 2) ak)) [some (aq es),some (aN (bdN es k)),some (.int (k:Int)),some (az es (k:Int)).d,x4,x5,x6]=.nx [some (aq es),some (aN (bdN es k)),some (.int (k:Int)),some (az es (k:Int)).d,some (bT [(k:Int)]),x5,x6]:=rfl
          have t2:k7 [5] 5 ak [some (aq es),some (aN (bdN es k)),some (.int (k:Int)),some (az es (k:Int)).d,some (bT [(k:Int)]),x5,x6]=.nx [some (aq es),some (aN (bdN es k)),some (.int (k:Int)),some (az es (k:Int)).d,some (bT [(k:Int)]),some (aN []),x6]:=rfl
          have src2:dR (ag 1) (mask [5] [some (aq es),some (aN (bdN es k)),some (.int (k:Int)),some (az es (k:Int)).d,some (bT [(k:Int)]),some (aN []),x6])=.ok ((bdN es k).map bT):=rfl
          have hal:(bdA es (k:Int) (bdN es k)).length≤100:=by
            unfold bdA
            exact Nat.le_trans (List.length_filter_le _ _) (by omega)
          have a1:br (aN (bdA es (k:Int) (bdN es k))) (.list [bT (bdJ es (k:Int) (bdN es k) [(k:Int)])])=some (aN (bdN es (k + 1))):=by
            rw [xu]
            unfold aN oE
            rw [yK (by rw [List.length_map]; show _ + 1≤1000000; omega),List.map_append]
            rfl
          have t4:qM 5 (bh [] 1 (g2 br (ag 5) (ic (af (ag 4) ak)))) [some (aq es),some (aN (bdN es k)),some (.int (k:Int)),some (az es (k:Int)).d,some (bT (bdJ es (k:Int) (bdN es k) [(k:Int)])),some (aN (bdA es (k:Int) (bdN es k))),y6]=.nx [some (aq es),some (aN (bdN es (k + 1))),some (.int (k:Int)),some (az es (k:Int)).d,some (bT (bdJ es (k:Int) (bdN es k) [(k:Int)])),none,y6]:=by
            have hs:bh [] 1 (g2 br (ag 5) (ic (af (ag 4) ak))) [some (aq es),some (aN (bdN es k)),some (.int (k:Int)),some (az es (k:Int)).d,some (bT (bdJ es (k:Int) (bdN es k) [(k:Int)])),some (aN (bdA es (k:Int) (bdN es k))),y6]=.nx [some (aq es),some (aN (bdN es (k + 1))),some (.int (k:Int)),some (az es (k:Int)).d,some (bT (bdJ es (k:Int) (bdN es k) [(k:Int)])),some (aN (bdA es (k:Int) (bdN es k))),y6]:=by
              rw [df,if_pos (by simp)]
              simp only [cL,qV,aH,aS,aw,ay,Rs.aj,a1,Rs.ao,aA]
              rfl
            unfold qM
            simp only [List.getElem?_cons_succ,List.getElem?_cons_zero,hs]
            unfold aN
            rfl
          rw [aZ,t1]; simp only
          rw [aZ,t2]; simp only
          rw [aZ,iC,src2,aA,ein]; simp only
          rw [t4]) [some (aq es),some (aN []),none,none,none,none,none] ⟨none,none,none,none,none,rfl⟩
      have hln:0 + (iw (es.map Er.d)).length=es.length:=by unfold iw; rw [List.length_mapIdx,List.length_map]; omega
      rw [hln] at hδ
      show a7 (ke cs bA [some (aq es),none,none,none,none,none,none])=_
      simp only [ke]
      rw [aZ,s1]; simp only
      rw [aZ,iC,src,aA]
      have e':forL (fj [2,3]) (bf (bh [5] 4 (ic (af (ag 2) ak))) (bf (k7 [5] 5 ak) (bf (k9 [5] (dR (ag 1)) (cQ 6) (sIf (gT (gF xv (af (gL (bX 7 (dR (ag 6)) bV (ax bA (af (ag 3) (af (g2 dIx (ag 0) (ag 7)) ak))) bx)) ak))) (bh [5] 4 (g2 br (ag 6) (ag 4))) (lg [5] 5 (ag 6)))) (qM 5 (bh [] 1 (g2 br (ag 5) (ic (af (ag 4) ak)))))))) (iw (es.map Er.d)) [some (aq es),some (aN []),none,none,none,none,none]=_:=e
      rw [e',hδ]
      rfl
    · exact absurd rfl hne
end RS
set_option maxRecDepth 100000
set_option maxHeartbeats 1000000
namespace RS
open PySem L2
theorem yd {α:Type} (A:List α) (p:α) (R:List α):(A++p::R).drop (A.length + 1)=R:=by rw [List.drop_append]; simp
noncomputable def inR (n:Nat) (row:List Int):Bool:=row.all fun x=>decide (0≤x) && decide (x < (n:Int))
theorem vD {n:Nat} {row:List Int}:inR n row=true↔∀ x∈row,0≤x∧x < n:=by
  unfold inR
  simp only [List.all_eq_true,Bool.and_eq_true,decide_eq_true_eq]
theorem FP {es:List Er} (hok:∀ e∈es,e.Wk) {row:List Int} (hr:∀ x∈row,0≤x∧x < es.length):∀ e∈sub es row,e.Wk:=fun e he=>by
  obtain ⟨m,hm,rfl⟩:=List.mem_map.mp he
  have:=hr m hm
  exact hok _ (bJ this.1 this.2)
noncomputable def bq:Gf
  | [d,.list xs]=>(match eQ xs with
    | some row=>if kf d && inR (b8 d).length row && decide (1≤row.length) && decide (row.length≤6) then .ok (.bool (ly (b8 d) row)) else .no
    | none=>.no)
  | _=>.no
theorem jd {es:List Er} {row:List Int} (h1:1≤es.length) (h2:es.length≤6) (h:∀ e∈es,e.Wk) (hr:∀ x∈row,0≤x∧x < es.length) (r1:1≤row.length) (r2:row.length≤6):bq [aq es,bT row]=.ok (.bool (ly es row)):=by
  unfold bT bq
  simp only [dh,gH h1 h2 h,cC,vD.mpr hr,decide_eq_true r1,decide_eq_true r2,Bool.and_self,if_true]
theorem F2 {f:PyData→List PyData→Rs PyData} {ds:List PyData} (h:(match ds with | [x0,.list x1]=>f x0 x1 | _=>.no)≠.no):∃ x0 x1,ds=[x0,.list x1]∧f x0 x1≠.no:=by
  rcases ds with _ | ⟨x0,_ | ⟨x1,_ | ⟨y,ys⟩⟩⟩
  · exact absurd rfl h
  · exact absurd rfl h
  · skip
    cases x1 with
    | list x1 =>
      exact ⟨_,_,rfl,h⟩
    | _=>exact absurd rfl h
  · first | exact absurd rfl h | (cases x1 <;> exact absurd rfl h)
theorem sx (cs:Cs):∀ ds,ds.length=2→bq ds≠.no→a7 (eX cs aK (ds.map some++List.replicate 0 none))=bq ds:=by
  intro ds hl hne
  obtain ⟨d,xs,ez,hz⟩:=F2 hne
  clear hne; subst ez; have hne:=hz; clear hz
  · skip
    split at hne
    · rename_i row hx
      split at hne
      · rename_i hc
        simp only [Bool.and_eq_true,decide_eq_true_eq] at hc
        obtain ⟨⟨⟨c1,c2⟩,r1⟩,r2⟩:=hc
        have hx':=cI hx
        subst hx'
        obtain ⟨e1,l1,l6,hok⟩:=ku c1
        rw [← e1]
        generalize b8 d=es at *
        have hr:=vD.mp c2
        have hgg:=jd l1 l6 hok hr r1 r2
        unfold bT at hgg
        rw [hgg]
        have hcm:bX 2 (dR (ag 1)) bV (g2 dIx (ag 0) (ag 2)) bx [some (aq es),some (.list (row.map PyData.int))]=.ok ((row.map PyData.int).map fun d=>(az es (deI d)).d) :=
          cK rfl rfl (by rw [List.length_map]; omega) fun x hx=>by
            obtain ⟨n,hn,rfl⟩:=List.mem_map.mp hx
            have hrg:=hr n hn
            have a3:dIx (aq es) (.int n)=some (az es n).d:=ia hrg.1 hrg.2
            simp only [List.cons_append,List.nil_append,cL,aw,ay,Rs.aj,a3,Rs.ao]
            rfl
        have em:((row.map PyData.int).map fun d=>(az es (deI d)).d)=(sub es row).map Er.d:=by
          unfold sub
          rw [List.map_map,List.map_map]; exact List.map_congr_left fun n _=>rfl
        rw [em] at hcm
        have hsl:(sub es row).length=row.length:=by unfold sub; rw [List.length_map]
        have hg:=eK (es:=sub es row) (m:=0) (by omega) (by omega) (FP hok hr)
        have hg':aK [.tuple ((sub es row).map Er.d),.int 0]=.ok (sy (rwR (sub es row) 0)):=hg
        show a7 (eX cs aK [some (aq es),some (.list (row.map PyData.int))])=_
        simp only [eX,cp,rT,bb,aH,aS,j6,nU,eo,hcm,Rs.aj,vN,Rs.ao,hg',oJ,aA,bR]
        unfold ly
        cases rwR (sub es row) 0 <;> rfl
      · exact absurd rfl hne
    · exact absurd rfl hne
noncomputable def lp:Option (List (List Int))→PyData
  | none=>.none
  | some r=>aN r
structure C3 (n:Nat) (k:Nat) (bs ps:List (List Int)):Prop where
  bl:bs.length≤k
  bn:∀ b∈bs,b≠[]
  rg:∀ x∈bs.flatten++ps.flatten,0≤x∧x < n
  fl:bs.flatten.length + ps.flatten.length≤6
  pl:ps.length≤100
noncomputable def dzB (n k:Nat) (bs ps:List (List Int)):Bool:=decide (bs.length≤k) && bs.all (fun b=>decide (b≠[])) && inR n (bs.flatten++ps.flatten) && decide (bs.flatten.length + ps.flatten.length≤6) && decide (ps.length≤100)
theorem Aa {n k:Nat} {bs ps:List (List Int)}:dzB n k bs ps=true↔C3 n k bs ps:=by
  unfold dzB
  simp only [Bool.and_eq_true,decide_eq_true_eq,List.all_eq_true,vD]
  exact ⟨fun ⟨⟨⟨⟨a,b⟩,c⟩,d⟩,e⟩=>⟨a,b,c,d,e⟩,fun h=>⟨⟨⟨⟨h.bl,h.bn⟩,h.rg⟩,h.fl⟩,h.pl⟩⟩
noncomputable def aR (k:Nat):Gf
  | [d,.list xb,.list xp]=>(match wt xb,wt xp with
    | some bs,some ps=>if kf d && dzB (b8 d).length k bs ps then .ok (lp (kP (b8 d) k bs ps)) else .no
    | _,_=>.no)
  | _=>.no
theorem iF {es:List Er} {k:Nat} {bs ps:List (List Int)} (h1:1≤es.length) (h2:es.length≤6) (h:∀ e∈es,e.Wk) (hz:C3 es.length k bs ps):aR k [aq es,aN bs,aN ps]=.ok (lp (kP es k bs ps)):=by
  unfold aN aR
  simp only [t9,gH h1 h2 h,cC,Aa.mpr hz,Bool.and_self,if_true]
noncomputable def fE:Nat→Gf
  | 0=>fun _=>.no
  | k + 1=>aR k
noncomputable abbrev sJ (gr:Gf):Ds→Sr:=bf (bh [] 5 (gF jw (af (g2 br (ag 4) (g2 dIx (ag 1) (gC (.int 0)))) ak)))
    (bf (sIf (gT (ax bq (af (ag 0) (af (ag 5) ak)))) (bf (bh [] 6 (ax gr (af (ag 0) (af (cG (ag 1) (d4 (gC (.int 1))) ck) (af (g2 br (g2 br (cG (ag 2) ck (d4 (ag 3))) (ic (af (ag 5) ak))) (cG (ag 2) (d4 (g2 br (ag 3) (gC (.int 1)))) ck)) ak)))))
    (sIf (gT (g1 fN (ag 6))) (bM (ag 6)) bS)) bS)
    (sIf (gT (g2 dEq (gF e8 (af (ag 4) ak)) (gC (.int 0)))) (bM (gC .none)) bS))
theorem BP (E B P x3:PyData) (p:List Int) (x5 x6:Option PyData):sIf (gT (g2 dEq (gF e8 (af (ag 4) ak)) (gC (.int 0)))) (bM (gC .none)) bS [some E,some B,some P,some x3,some (bT p),x5,x6]=if p=[] then .rt .none else .nx [some E,some B,some P,some x3,some (bT p),x5,x6]:=by
  have h:((p.length:Int) == 0)=decide (p=[]):=by
    cases p with
    | nil=>rfl
    | cons a r=>simp; omega
  simp only [bT,fu,gZ,cL,j6,aH,aS,aw,ay,eo,Rs.aj,vg,List.length_map,Rs.ao,nO,h,b9,aA,cp,ib]
  by_cases z:p=[]
  · rw [if_pos z,decide_eq_true z,if_pos rfl]
  · rw [if_neg z,decide_eq_false z,if_neg (by decide)]
theorem zY {es:List Er} (l1:1≤es.length) (l6:es.length≤6) (hok:∀ e∈es,e.Wk) {k:Nat} {b:List Int} {bs ps:List (List Int)} (hz:C3 es.length (k + 1) (b::bs) ps):∀ (R A:List (List Int)) (x3 x4 x5 x6:Option PyData),ps=A++R →
    (∃ r,tryD es b (kP es k bs) A R=some r∧forL (fj [3,4]) (sJ (aR k)) ((R.map bT).mapIdx fun i d=>.tuple [.int ((A.length + i:Nat):Int),d]) [some (aq es),some (aN (b::bs)),some (aN ps),x3,x4,x5,x6]=.rt (aN r)) ∨
    (tryD es b (kP es k bs) A R=none∧(forL (fj [3,4]) (sJ (aR k)) ((R.map bT).mapIdx fun i d=>.tuple [.int ((A.length + i:Nat):Int),d]) [some (aq es),some (aN (b::bs)),some (aN ps),x3,x4,x5,x6]=.rt .none∨∃ δ,forL (fj [3,4]) (sJ (aR k)) ((R.map bT).mapIdx fun i d=>.tuple [.int ((A.length + i:Nat):Int),d]) [some (aq es),some (aN (b::bs)),some (aN ps),x3,x4,x5,x6]=.nx δ))
  | [],A,x3,x4,x5,x6,e=>.inr ⟨rfl,.inr ⟨_,rfl⟩⟩
  | p::R,A,x3,x4,x5,x6,e=>by
    have hbn:=hz.bn b List.mem_cons_self
    have hfl:=hz.fl
    have hpl:=hz.pl
    have hfe:ps.flatten=A.flatten++(p++R.flatten):=by rw [e,List.flatten_append,List.flatten_cons]
    have hle:ps.flatten.length=A.flatten.length + (p.length + R.flatten.length):=by rw [hfe,List.length_append,List.length_append]
    have hpe:ps.length=A.length + (R.length + 1):=by rw [e,List.length_append]; rfl
    rw [List.flatten_cons,List.length_append] at hfl
    have hb1:1≤b.length:=List.length_pos_iff.mpr hbn
    have hrg:∀ x∈sortI (p++b),0≤x∧x < es.length:=fun x hx=>by
      refine hz.rg x ?_
      rw [List.flatten_cons,hfe]
      rcases List.mem_append.mp (g8.mp hx) with z | z <;> simp [z]
    have hsl:(sortI (p++b)).length=p.length + b.length:=by rw [(sortI_perm (p++b)).length_eq,List.length_append]
    have hz':C3 es.length k bs (A++sortI (p++b)::R):=⟨by have:=hz.bl; simpa using this,fun c hc=>hz.bn c (List.mem_cons_of_mem _ hc),fun x hx=>by
        rcases List.mem_append.mp hx with z | z
        · exact hz.rg x (List.mem_append_left _ (by rw [List.flatten_cons]; exact List.mem_append_right _ z))
        · rw [List.flatten_append,List.flatten_cons] at z
          rcases List.mem_append.mp z with w | w
          · exact hz.rg x (List.mem_append_right _ (by rw [hfe]; exact List.mem_append_left _ w))
          · rcases List.mem_append.mp w with w | w
            · exact hrg x w
            · exact hz.rg x (List.mem_append_right _ (by rw [hfe]; simp [w])),by
        rw [List.flatten_append,List.flatten_cons,List.length_append,List.length_append,hsl]; omega,by rw [List.length_append,List.length_cons]; omega⟩
    have hgr:=iF l1 l6 hok hz'
    have hfo:=jd l1 l6 hok hrg (by omega) (by omega)
    have hts:fj [3,4] (PyData.tuple [.int ((A.length + 0:Nat):Int),bT p]) [some (aq es),some (aN (b::bs)),some (aN ps),x3,x4,x5,x6]=some [some (aq es),some (aN (b::bs)),some (aN ps),some (.int (A.length:Int)),some (bT p),x5,x6]:=rfl
    have i0:dIx (aN (b::bs)) (.int 0)=some (bT b):=by
      unfold aN
      rw [CZ,List.map_cons]
      unfold atI ixN
      simp
    have a1:br (bT p) (bT b)=some (bT (p++b)):=by
      unfold bT
      rw [yK (by rw [List.length_map,List.length_map]; omega),List.map_append]
    have so:jw [bT (p++b)]=some (bT (sortI (p++b))):=by
      unfold bT jw
      simp only [dh,Option.bind_some]
      rw [if_pos (by rw [List.length_append]; omega)]
    have t1:bh [] 5 (gF jw (af (g2 br (ag 4) (g2 dIx (ag 1) (gC (.int 0)))) ak)) [some (aq es),some (aN (b::bs)),some (aN ps),some (.int (A.length:Int)),some (bT p),x5,x6]=.nx [some (aq es),some (aN (b::bs)),some (aN ps),some (.int (A.length:Int)),some (bT p),some (bT (sortI (p++b))),x6]:=by
      rw [df,if_pos (by simp)]
      simp only [j6,aH,aS,cL,eo,aw,ay,Rs.aj,i0,Rs.ao,a1,so,aA]
      rfl
    have c0:uI (aN (b::bs)) (some 1) none=some (aN bs):=by
      unfold aN
      rw [yc,show (1:Int)=((1:Nat):Int) from rfl,nR]; rfl
    have c1:uI (aN ps) none (some (A.length:Int))=some (aN A):=by
      unfold aN
      rw [yc,ve,e,List.map_append,List.take_left' (by rw [List.length_map])]
    have c2:uI (aN ps) (some ((A.length:Int) + 1)) none=some (aN R):=by
      unfold aN
      rw [yc,show ((A.length:Int) + 1)=((A.length + 1:Nat):Int) by omega,nR,e,← List.map_drop,yd]
    have a2:br (aN A) (.list [bT (sortI (p++b))])=some (aN (A++[sortI (p++b)])):=by
      unfold aN
      rw [yK (by rw [List.length_map]; show _ + 1≤1000000; omega),List.map_append]; rfl
    have a3:br (aN (A++[sortI (p++b)])) (aN R)=some (aN (A++sortI (p++b)::R)):=by
      unfold aN
      rw [yK (by rw [List.length_map,List.length_map,List.length_append,List.length_singleton]; omega),← List.map_append,List.append_assoc]; rfl
    have t2:bh [] 6 (ax (aR k) (af (ag 0) (af (cG (ag 1) (d4 (gC (.int 1))) ck) (af (g2 br (g2 br (cG (ag 2) ck (d4 (ag 3))) (ic (af (ag 5) ak))) (cG (ag 2) (d4 (g2 br (ag 3) (gC (.int 1)))) ck)) ak)))) [some (aq es),some (aN (b::bs)),some (aN ps),some (.int (A.length:Int)),some (bT p),some (bT (sortI (p++b))),x6]=.nx [some (aq es),some (aN (b::bs)),some (aN ps),some (.int (A.length:Int)),some (bT p),some (bT (sortI (p++b))),some (lp (kP es k bs (A++sortI (p++b)::R)))]:=by
      rw [df,if_pos (by simp)]
      simp only [bb,aH,aS,cL,j8,iO,mD,qV,eo,aw,ay,Rs.aj,mw,c0,c1,c2,fz,Rs.ao,a2,a3,hgr,aA]
      rfl
    have em:(fun (i:Nat) (d:PyData)=>PyData.tuple [.int ((A.length + (i + 1):Nat):Int),d])=fun i d=>.tuple [.int (((A++[p]).length + i:Nat):Int),d]:=by
      funext i d; rw [List.length_append,List.length_singleton,show A.length + (i + 1)=A.length + 1 + i by omega]
    rw [List.map_cons,List.mapIdx_cons,em]
    -- what one turn does
    have turn:∃ x6',(sJ (aR k) [some (aq es),some (aN (b::bs)),some (aN ps),some (.int (A.length:Int)),some (bT p),x5,x6]=match (if ly es (sortI (p++b)) then kP es k bs (A++sortI (p++b)::R) else none) with
        | some r=>.rt (aN r)
        | none=>if p=[] then .rt .none else .nx [some (aq es),some (aN (b::bs)),some (aN ps),some (.int (A.length:Int)),some (bT p),some (bT (sortI (p++b))),x6']):=by
      unfold sJ
      rw [aZ,t1]; simp only
      rw [aZ]
      cases q:ly es (sortI (p++b)) with
      | false =>
        rw [q] at hfo
        refine ⟨x6,?_⟩
        have t3:sIf (gT (ax bq (af (ag 0) (af (ag 5) ak)))) (bf (bh [] 6 (ax (aR k) (af (ag 0) (af (cG (ag 1) (d4 (gC (.int 1))) ck) (af (g2 br (g2 br (cG (ag 2) ck (d4 (ag 3))) (ic (af (ag 5) ak))) (cG (ag 2) (d4 (g2 br (ag 3) (gC (.int 1)))) ck)) ak))))) (sIf (gT (g1 fN (ag 6))) (bM (ag 6)) bS)) bS [some (aq es),some (aN (b::bs)),some (aN ps),some (.int (A.length:Int)),some (bT p),some (bT (sortI (p++b))),x6]=.nx [some (aq es),some (aN (b::bs)),some (aN ps),some (.int (A.length:Int)),some (bT p),some (bT (sortI (p++b))),x6]:=by
          rw [fu]
          simp only [gZ,bb,aH,aS,aw,ay,Rs.aj,hfo,b9,aA,Bool.false_eq_true,if_false,ib]
        rw [t3]; simp only
        rw [BP]
        simp only [Bool.false_eq_true,if_false]
      | true =>
        rw [q] at hfo
        have t3:sIf (gT (ax bq (af (ag 0) (af (ag 5) ak)))) (bf (bh [] 6 (ax (aR k) (af (ag 0) (af (cG (ag 1) (d4 (gC (.int 1))) ck) (af (g2 br (g2 br (cG (ag 2) ck (d4 (ag 3))) (ic (af (ag 5) ak))) (cG (ag 2) (d4 (g2 br (ag 3) (gC (.int 1)))) ck)) ak))))) (sIf (gT (g1 fN (ag 6))) (bM (ag 6)) bS)) bS [some (aq es),some (aN (b::bs)),some (aN ps),some (.int (A.length:Int)),some (bT p),some (bT (sortI (p++b))),x6]=sIf (gT (g1 fN (ag 6))) (bM (ag 6)) bS [some (aq es),some (aN (b::bs)),some (aN ps),some (.int (A.length:Int)),some (bT p),some (bT (sortI (p++b))),some (lp (kP es k bs (A++sortI (p++b)::R)))]:=by
          rw [fu]
          simp only [gZ,bb,aH,aS,aw,ay,Rs.aj,hfo,b9,aA,if_true]
          rw [aZ,t2]
        rw [t3]
        simp only [if_true]
        cases w:kP es k bs (A++sortI (p++b)::R) with
        | some r =>
          refine ⟨x6,?_⟩
          have hn:eN (lp (some r))=false:=rfl
          simp only [fu,gZ,rT,aw,ay,Rs.aj,oJ,hn,Rs.ao,b9,Bool.not_false,aA,if_true,cp]
          rfl
        | none =>
          refine ⟨some .none,?_⟩
          have hs:sIf (gT (g1 fN (ag 6))) (bM (ag 6)) bS [some (aq es),some (aN (b::bs)),some (aN ps),some (.int (A.length:Int)),some (bT p),some (bT (sortI (p++b))),some (lp none)]=.nx [some (aq es),some (aN (b::bs)),some (aN ps),some (.int (A.length:Int)),some (bT p),some (bT (sortI (p++b))),some .none]:=rfl
          rw [hs]; simp only
          rw [BP]
    obtain ⟨x6',turn⟩:=turn
    have hT:tryD es b (kP es k bs) A (p::R)=match (if ly es (sortI (p++b)) then kP es k bs (A++sortI (p++b)::R) else none) with
        | some r=>some r
        | none=>if p=[] then none else tryD es b (kP es k bs) (A++[p]) R:=rfl
    rw [hT]
    unfold forL
    rw [hts]
    simp only
    rw [turn]
    generalize (if ly es (sortI (p++b)) then kP es k bs (A++sortI (p++b)::R) else none)=T at *
    cases T with
    | some r=>exact .inl ⟨r,rfl,rfl⟩
    | none =>
      simp only
      by_cases z:p=[]
      · rw [if_pos z,if_pos z]
        exact .inr ⟨rfl,.inl rfl⟩
      · rw [if_neg z,if_neg z]
        simp only
        exact zY l1 l6 hok hz R (A++[p]) _ _ _ _ (by rw [e]; simp)
theorem DL {f:PyData→List PyData→List PyData→Rs PyData} {ds:List PyData} (h:(match ds with | [x0,.list x1,.list x2]=>f x0 x1 x2 | _=>.no)≠.no):∃ x0 x1 x2,ds=[x0,.list x1,.list x2]∧f x0 x1 x2≠.no:=by
  rcases ds with _ | ⟨x0,_ | ⟨x1,_ | ⟨x2,_ | ⟨y,ys⟩⟩⟩⟩
  · exact absurd rfl h
  · exact absurd rfl h
  · first | exact absurd rfl h | (cases x1 <;> exact absurd rfl h)
  · skip
    cases x1 with
    | list x1 =>
      cases x2 with
      | list x2 =>
        exact ⟨_,_,_,rfl,h⟩
      | _=>exact absurd rfl h
    | _=>first | exact absurd rfl h | (cases x2 <;> exact absurd rfl h)
  · first | exact absurd rfl h | (cases x1 <;> first | exact absurd rfl h | (cases x2 <;> exact absurd rfl h))
theorem pI (cs:Cs) (k:Nat):∀ ds,ds.length=3→aR k ds≠.no→a7 (ix cs bq (fE k) (ds.map some++List.replicate 4 none))=aR k ds:=by
  intro ds hl hne
  obtain ⟨d,xb,xp,ez,hz⟩:=DL hne
  clear hne; subst ez; have hne:=hz; clear hz
  · skip
    split at hne
    · rename_i bs ps hb hp
      split at hne
      · rename_i hc
        rw [Bool.and_eq_true] at hc
        obtain ⟨c1,c2⟩:=hc
        have hz:=Aa.mp c2
        have eb:=m9 hb
        have ep:=m9 hp
        subst eb ep
        obtain ⟨e1,l1,l6,hok⟩:=ku c1
        rw [← e1]
        generalize b8 d=es at *
        have hgg:=iF l1 l6 hok hz
        unfold aN at hgg
        rw [hgg]
        show a7 (ix cs bq (fE k) [some (aq es),some (aN bs),some (aN ps),none,none,none,none])=_
        simp only [ix]
        rw [aZ]
        cases bs with
        | nil =>
          have s1:sIf (gT (g2 dEq (gF e8 (af (ag 1) ak)) (gC (.int 0)))) (bM (ag 2)) bS [some (aq es),some (aN []),some (aN ps),none,none,none,none]=.rt (aN ps):=by
            have:((0:Int) == 0)=true:=rfl
            simp only [aN,List.map_nil,fu,gZ,cL,j6,aH,aS,aw,ay,eo,Rs.aj,vg,List.length_nil,Rs.ao,nO,b9,aA,cp]
            rfl
          rw [s1]
          cases k <;> rfl
        | cons b bs =>
          obtain ⟨j,rfl⟩:∃ j,k=j + 1:=by
            cases k with
            | zero=>have:=hz.bl; simp at this
            | succ j=>exact ⟨j,rfl⟩
          have s1:sIf (gT (g2 dEq (gF e8 (af (ag 1) ak)) (gC (.int 0)))) (bM (ag 2)) bS [some (aq es),some (aN (b::bs)),some (aN ps),none,none,none,none]=.nx [some (aq es),some (aN (b::bs)),some (aN ps),none,none,none,none]:=by
            have h0:((((b::bs).length:Nat):Int) == 0)=false:=by
              have:¬ ((((b::bs).length:Nat):Int)=0):=by rw [List.length_cons]; omega
              simpa using this
            simp only [aN,fu,gZ,cL,j6,aH,aS,aw,ay,eo,Rs.aj,vg,List.length_map,Rs.ao,nO,h0,b9,aA,Bool.false_eq_true,if_false,ib]
          rw [s1]; simp only
          have src:lM (af (ag 2) ak) (mask [] [some (aq es),some (aN (b::bs)),some (aN ps),none,none,none,none])=.ok ((ps.map bT).mapIdx fun i d=>.tuple [.int ((([]:List (List Int)).length + i:Nat):Int),d]):=by
            rw [ig]
            simp only [aN,uZ,aH,aS,aw,ay,Rs.aj,Dn,iw,List.length_nil,Nat.zero_add]
          rw [aZ,iC,src,aA]
          have hA:kP es (j + 1) (b::bs) ps=tryD es b (kP es j bs) [] ps:=rfl
          rw [hA]
          rcases zY l1 l6 hok hz ps [] none none none none rfl with ⟨r,h1,h2⟩ | ⟨h1,h2 | ⟨δ,h2⟩⟩
          · rw [h1]
            have h2':forL (fj [3,4]) _ _ _=_:=h2
            rw [show fE (j + 1)=aR j from rfl]
            rw [h2']; rfl
          · rw [h1]
            have h2':forL (fj [3,4]) _ _ _=_:=h2
            rw [show fE (j + 1)=aR j from rfl]
            rw [h2']; rfl
          · rw [h1]
            have h2':forL (fj [3,4]) _ _ _=_:=h2
            rw [show fE (j + 1)=aR j from rfl]
            rw [h2']; rfl
      · exact absurd rfl hne
    · exact absurd rfl hne
end RS
set_option maxRecDepth 100000
set_option maxHeartbeats 1000000
namespace RS
open PySem L2
noncomputable def bI:Gf
  | [d,.int h]=>if kf d && decide (1≤h) && decide (h≤4) then .ok (lp (jJ (b8 d) h.toNat)) else .no
  | _=>.no
theorem jR {es:List Er} {h:Nat} (h1:1≤es.length) (h2:es.length≤6) (hk:∀ e∈es,e.Wk) (a:1≤h) (b:h≤4):bI [aq es,.int (h:Int)]=.ok (lp (jJ es h)):=by
  unfold bI
  simp only [gH h1 h2 hk,cC,decide_eq_true (show (1:Int)≤(h:Int) by omega),decide_eq_true (show (h:Int)≤4 by omega),Bool.and_self,if_true,Int.toNat_natCast]
theorem uN (cs:Cs):∀ ds,ds.length=2→bI ds≠.no→a7 (f7 cs c4 (aR 6) (ds.map some++List.replicate 0 none))=bI ds:=by
  intro ds hl hne
  obtain ⟨d,z,ez,hz⟩:=vo hne
  clear hne; subst ez; have hne:=hz; clear hz
  · skip
    split at hne
    · rename_i hc
      simp only [Bool.and_eq_true,decide_eq_true_eq] at hc
      obtain ⟨⟨c1,z1⟩,z4⟩:=hc
      obtain ⟨h,rfl⟩:∃ h:Nat,z=(h:Int):=⟨z.toNat,by omega⟩
      obtain ⟨e1,l1,l6,hok⟩:=ku c1
      rw [← e1]
      generalize b8 d=es at *
      rw [jR l1 l6 hok (by omega) (by omega)]
      have hB:=qY es es.length
      have hfl:=hB.pm.length_eq
      rw [cZ] at hfl
      have hb:=mP l1 l6 hok
      have hz:C3 es.length 6 (bdN es es.length) (List.replicate h []):=⟨Nat.le_trans (zj hB) l6,hB.ne,fun x hx=>by
          rw [ky,List.append_nil] at hx
          exact bB.mp (hB.pm.mem_iff.mp hx),by rw [ky,List.length_nil]; omega,by rw [List.length_replicate]; omega⟩
      have hg:=iF l1 l6 hok hz
      have hrg:=ju (j:=(h:Int)) (Int.natCast_nonneg _) (by omega)
      rw [Int.toNat_natCast,rk] at hrg
      have src:eO (af (ag 1) ak) [some (aq es),some (.int (h:Int))]=.ok ((bg h).map PyData.int):=by
        rw [jm,aH,ay,aw,Rs.aj,aS,Rs.aj,Rs.aj,hrg]
      have hcm:bX 2 (eO (af (ag 1) ak)) bV (ic ak) bx [some (aq es),some (.int (h:Int))]=.ok (((bg h).map PyData.int).map fun _=>bT []) :=
        cK rfl src (by rw [List.length_map,cZ]; omega) fun d hd=>rfl
      have em:(((bg h).map PyData.int).map fun _=>bT [])=(List.replicate h ([]:List Int)).map bT:=by
        rw [List.map_const',List.map_replicate,List.length_map,cZ]
      rw [em] at hcm
      have hg':aR 6 [aq es,aN (bdN es es.length),.list ((List.replicate h ([]:List Int)).map bT)]=.ok (lp (kP es 6 (bdN es es.length) (List.replicate h []))):=hg
      show a7 (f7 cs c4 (aR 6) [some (aq es),some (.int (h:Int))])=_
      simp only [f7,cp,bb,aH,aS,nU,aw,Rs.aj,hb,hcm,hg',aA,bR]
      rfl
    · exact absurd rfl hne
noncomputable def tX (es:List Er):List Nat→PyData
  | []=>.none
  | h::r=>if (jJ es h).isSome then .int (h:Int) else tX es r
noncomputable def aW (cs:Cs):Gf
  | [d]=>if b7 d then (if cJ d then .ok (tX (b8 d) [1,2,3,4]) else .rz cs.NoErrands) else .no
  | _=>.no
theorem jh {es:List Er} (cs:Cs) (h1:1≤es.length) (h2:es.length≤6) (h:∀ e∈es,e.Ok):aW cs [aq es]=.ok (tX es [1,2,3,4]):=by
  unfold aW; simp only [oW,f6 h1 h2 h,if_true,cC]
theorem wm {es:List Er} (l1:1≤es.length) (l6:es.length≤6) (hok:∀ e∈es,e.Ok):∀ (hs:List Nat) (x1:Option PyData),(∀ h∈hs,1≤h∧h≤4) →
    a7 (bf (fun δ=>forL (cQ 1) (sIf (gT (g1 fN (ax bI (af (ag 0) (af (ag 1) ak))))) (bM (ag 1)) bS) (hs.map fun (h:Nat)=>PyData.int (h:Int)) δ) (bM (gC .none)) [some (aq es),x1])=.ok (tX es hs)
  | [],x1,_=>rfl
  | h::r,x1,hh=>by
    have hb:=hh h List.mem_cons_self
    have hg:=jR l1 l6 (fun e he=>(hok e he).wk) hb.1 hb.2
    have ih:=wm l1 l6 hok r (some (.int (h:Int))) fun k hk=>hh k (List.mem_cons_of_mem _ hk)
    rw [aZ] at ih ⊢
    rw [List.map_cons]
    unfold forL
    have ht:cQ 1 (PyData.int (h:Int)) [some (aq es),x1]=some [some (aq es),some (.int (h:Int))]:=rfl
    rw [ht]
    unfold tX
    cases q:jJ es h with
    | some rr =>
      rw [q] at hg
      have hn:eN (lp (some rr))=false:=rfl
      have hb1:sIf (gT (g1 fN (ax bI (af (ag 0) (af (ag 1) ak))))) (bM (ag 1)) bS [some (aq es),some (.int (h:Int))]=.rt (.int (h:Int)):=by
        simp only [fu,gZ,rT,bb,aH,aS,aw,ay,Rs.aj,hg,oJ,hn,Rs.ao,b9,Bool.not_false,aA,if_true,cp]
      simp only [hb1]
      rfl
    | none =>
      rw [q] at hg
      have hn:eN (lp none)=true:=rfl
      have hb1:sIf (gT (g1 fN (ax bI (af (ag 0) (af (ag 1) ak))))) (bM (ag 1)) bS [some (aq es),some (.int (h:Int))]=.nx [some (aq es),some (.int (h:Int))]:=by
        simp only [fu,gZ,rT,bb,aH,aS,aw,ay,Rs.aj,hg,oJ,hn,Rs.ao,b9,Bool.not_true,aA,Bool.false_eq_true,if_false,ib]
      simp only [hb1]
      exact ih
theorem rN (cs:Cs):∀ ds,ds.length=1→aW cs ds≠.no→a7 (dw cs bI (aX cs) (ds.map some++List.replicate 1 none))=aW cs ds:=by
  intro ds hl hne
  obtain ⟨d,ez,hz⟩:=Ah hne
  clear hne; subst ez; have hne:=hz; clear hz
  · skip
    split at hne
    · rename_i hd
      split at hne
      · rename_i hc
        obtain ⟨e1,l1,l6,hok⟩:=kM hc
        rw [← e1]
        generalize b8 d=es at *
        rw [jh cs l1 l6 hok]
        have h1:=jK cs l1 l6 hok
        have hL:=wm l1 l6 hok [1,2,3,4] none (by intro h hh; simp at hh; omega)
        have hrg:DF [.int 1,.int 5]=.ok ([1,2,3,4].map fun (h:Nat)=>PyData.int (h:Int)):=rfl
        have src:zw (af (gC (.int 1)) (af (g2 br (gC (.int 4)) (gC (.int 1))) ak)) (mask [] [some (aq es),none])=.ok ([1,2,3,4].map fun (h:Nat)=>PyData.int (h:Int)):=by
          rw [ig,Em]
          simp only [aH,aS,cL,eo,Rs.aj,fz,Rs.ao]
          exact hrg
        show a7 (dw cs bI (aX cs) [some (aq es),none])=_
        simp only [dw]
        rw [aZ]
        simp only [nG,bb,aH,aS,aw,Rs.aj,h1,aA]
        rw [aZ] at hL ⊢
        rw [iC,src,aA]
        exact hL
      · rename_i hc
        have h1:=B3 (cs:=cs) hd hc
        have h2:aW cs [d]=.rz cs.NoErrands:=by unfold aW; simp [hd,hc]
        rw [h2]
        show a7 (dw cs bI (aX cs) [some d,none])=_
        simp [dw,h1]
    · exact absurd rfl hne
theorem Fg (cs:Cs):Gw (aW cs):=⟨fun es l1 l6 hok=>by
  rw [jh cs l1 l6 hok]
  have hd:∀ h,(jJ es h).isSome=p9 (dO es h):=fun h=>by
    cases q:(jJ es h).isSome with
    | true=>rw [tQ ((ua l6 hok).mp q)]
    | false=>rw [qL fun z=>by rw [(ua l6 hok).mpr z] at q; cases q]
  unfold Cz
  simp only [tX,hd]
  cases p9 (dO es 1) <;> cases p9 (dO es 2) <;> cases p9 (dO es 3) <;> cases p9 (dO es 4) <;> rfl⟩
end RS
set_option maxRecDepth 100000
set_option maxHeartbeats 1000000
namespace RS
open PySem L2
noncomputable def cH:Gf
  | [d,r]=>if kf d && eE (b8 d).length r then .ok (.bool (c9 (b8 d) (cy r))) else .no
  | _=>.no
theorem kI {es:List Er} {rs:List Int} (h1:1≤es.length) (h2:es.length≤6) (h:∀ e∈es,e.Wk) (hr:bj es.length rs):cH [aq es,au rs]=.ok (.bool (c9 es rs)):=by
  unfold cH
  simp only [gH h1 h2 h,cC,hU hr,Bool.and_self,if_true,dP]
theorem Cd (cs:Cs):∀ ds,ds.length=2→cH ds≠.no→a7 (lF cs b5 (ds.map some++List.replicate 0 none))=cH ds:=by
  intro ds hl hne
  obtain ⟨d,r,ez,hz⟩:=yg hne
  clear hne; subst ez; have hne:=hz; clear hz
  · skip
    split at hne
    · rename_i hc
      simp only [Bool.and_eq_true] at hc
      obtain ⟨c1,c2⟩:=hc
      obtain ⟨e1,l1,l6,hok⟩:=ku c1
      obtain ⟨e2,hr⟩:=lr c2
      rw [← e1,← e2]
      generalize b8 d=es at *
      generalize cy r=rs at *
      rw [kI l1 l6 hok hr]
      have hrl:=hr.len
      have hcm:bX 2 (dR (ag 1)) bV (ax b5 (af (ag 0) (af (ag 1) (af (ag 2) ak)))) bx [some (aq es),some (au rs)]=.ok ((rs.map PyData.int).map fun d=>.bool (dA es rs (deI d))) :=
        cK rfl rfl (by rw [List.length_map]; omega) fun x hx=>by
          obtain ⟨n,hn,rfl⟩:=List.mem_map.mp hx
          have hrg:=hr.rng n hn
          have hg:=jQ (n:=n) l1 l6 hok hr hrg.1 hrg.2
          simp only [List.cons_append,List.nil_append,bb,aH,aS,aw,ay,Rs.aj,hg]
          rfl
      have em:((rs.map PyData.int).map fun d=>PyData.bool (dA es rs (deI d)))=(rs.map fun n=>dA es rs n).map PyData.bool:=by
        rw [List.map_map,List.map_map]; exact List.map_congr_left fun n _=>rfl
      rw [em] at hcm
      have hf:uR [.list ((rs.map fun n=>dA es rs n).map PyData.bool)]=some (.bool (c9 es rs)):=by
        show (gp _).map _=_
        rw [kq]
        simp only [Option.map_some,List.all_map]
        rfl
      show a7 (lF cs b5 [some (aq es),some (au rs)])=_
      simp only [lF,cp,j6,aH,aS,nU,hcm,Rs.aj,hf,Rs.ao,aA,bR]
    · exact absurd rfl hne
noncomputable def bL:Gf
  | [.tuple xs,.int a,e]=>if 0≤a∧a < xs.length∧xs.length≤1000 then .ok (.tuple (xs.take a.toNat++e::xs.drop (a.toNat + 1))) else .no
  | _=>.no
theorem jq {xs:List PyData} {k:Nat} {e:PyData} (h:k < xs.length) (h2:xs.length≤1000):bL [.tuple xs,.int (k:Int),e]=.ok (.tuple (xs.take k++e::xs.drop (k + 1))):=by
  unfold bL
  simp only
  rw [if_pos (by omega),Int.toNat_natCast]
theorem EH {f:List PyData→Int→PyData→Rs PyData} {ds:List PyData} (h:(match ds with | [.tuple x0,.int x1,x2]=>f x0 x1 x2 | _=>.no)≠.no):∃ x0 x1 x2,ds=[.tuple x0,.int x1,x2]∧f x0 x1 x2≠.no:=by
  rcases ds with _ | ⟨x0,_ | ⟨x1,_ | ⟨x2,_ | ⟨y,ys⟩⟩⟩⟩
  · exact absurd rfl h
  · first | exact absurd rfl h | (cases x0 <;> exact absurd rfl h)
  · first | exact absurd rfl h | (cases x0 <;> first | exact absurd rfl h | (cases x1 <;> exact absurd rfl h))
  · skip
    cases x0 with
    | tuple x0 =>
      cases x1 with
      | int x1 =>
        exact ⟨_,_,_,rfl,h⟩
      | _=>exact absurd rfl h
    | _=>first | exact absurd rfl h | (cases x1 <;> exact absurd rfl h)
  · first | exact absurd rfl h | (cases x0 <;> first | exact absurd rfl h | (cases x1 <;> exact absurd rfl h))
theorem tm (cs:Cs):∀ ds,ds.length=3→bL ds≠.no→a7 (fA cs (ds.map some++List.replicate 0 none))=bL ds:=by
  intro ds hl hne
  obtain ⟨xs,a,e,ez,hz⟩:=EH hne
  clear hne; subst ez; have hne:=hz; clear hz
  · skip
    split at hne
    · rename_i hc
      obtain ⟨k,rfl⟩:∃ k:Nat,a=(k:Int):=⟨a.toNat,by omega⟩
      rw [jq (by omega) hc.2.2]
      have c1:cutD xs none (some (k:Int))=xs.take k:=ve
      have c2:cutD xs (some ((k:Int) + 1)) none=xs.drop (k + 1):=by rw [show ((k:Int) + 1)=((k + 1:Nat):Int) by omega,nR]
      have a1:br (.tuple (xs.take k)) (.tuple [e])=some (.tuple (xs.take k++[e])):=B4 (by simp; omega)
      have a2:br (.tuple (xs.take k++[e])) (.tuple (xs.drop (k + 1)))=some (.tuple (xs.take k++[e]++xs.drop (k + 1))):=B4 (by simp; omega)
      show a7 (fA cs [some (.tuple xs),some (.int (k:Int)),some e])=_
      simp only [fA,cp,cL,j8,iO,mD,mX,aH,aS,eo,aw,ay,Rs.aj,mw,rX,c1,c2,fz,Rs.ao,a1,a2,aA,bR,List.append_assoc,List.cons_append,List.nil_append]
    · exact absurd rfl hne
theorem sq {es:List Er} {n:Int} {e:Er} (n0:0≤n) (n1:n < es.length) (h2:es.length≤6):bL [aq es,.int n,e.d]=.ok (aq (es.set n.toNat e)):=by
  obtain ⟨k,rfl⟩:∃ k:Nat,n=(k:Int):=⟨n.toNat,by omega⟩
  rw [Int.toNat_natCast]
  unfold aq
  rw [jq (by rw [List.length_map]; omega) (by rw [List.length_map]; omega),qA es k e (by omega),List.map_append,List.map_cons,List.map_take,List.map_drop]
noncomputable def bp:Gf
  | [d,.int n,.int m]=>if cJ d && decide (0≤n) && decide (n < (b8 d).length) then .ok (aq (grown (b8 d) n m)) else .no
  | _=>.no
theorem gN {es:List Er} {n m:Int} (h1:1≤es.length) (h2:es.length≤6) (h:∀ e∈es,e.Ok) (n0:0≤n) (n1:n < es.length):bp [aq es,.int n,.int m]=.ok (aq (grown es n m)):=by
  unfold bp; simp [f6 h1 h2 h,cC,n0,n1]
theorem nL (cs:Cs):∀ ds,ds.length=3→bp ds≠.no→a7 (dD cs bL (ds.map some++List.replicate 3 none))=bp ds:=by
  intro ds hl hne
  obtain ⟨d,n,m,ez,hz⟩:=n9 hne
  clear hne; subst ez; have hne:=hz; clear hz
  · skip
    split at hne
    · rename_i hc
      simp only [Bool.and_eq_true,decide_eq_true_eq] at hc
      obtain ⟨⟨c1,n0⟩,n1⟩:=hc
      obtain ⟨e1,l1,l6,hok⟩:=kM c1
      rw [← e1]
      generalize b8 d=es at *
      rw [gN l1 l6 hok n0 n1]
      have hoe:=hok _ (bJ n0 n1)
      have a3:dIx (aq es) (.int n)=some (az es n).d:=ia n0 n1
      have hwe:∀ e:Er,bL [aq es,.int n,e.d]=.ok (aq (es.set n.toNat e)):=fun e=>sq n0 n1 l6
      unfold grown
      generalize hE:az es n=e at *
      obtain ⟨p,hp1⟩:∃ p,e.parts.getLast?=some p:=by
        cases q:e.parts.getLast? with
        | none=>exact absurd (List.getLast?_eq_none_iff.mp q) hoe.p1
        | some p=>exact ⟨p,rfl⟩
      have hpn:=hoe.p2
      have hp2:p.2=none:=hoe.la p hp1
      have i3:dIx e.d (.int 3)=some (.tuple (e.parts.map bD)):=rfl
      have hl1:dIx (.tuple (e.parts.map bD)) (.int (-1))=some (bD p):=by
        show atI _ (-1)=_
        rw [mi,List.getLast?_map,hp1]; rfl
      have q0:dIx (bD p) (.int 0)=some (.int p.1):=rfl
      have q1:dIx (bD p) (.int 1)=some .none:=by
        show some (cB p.2)=_
        rw [hp2]; rfl
      have ha:br (.tuple ((e.parts.map bD).dropLast)) (.tuple [.tuple [.int (p.1 + m),.none]])=some (.tuple ((e.parts.map bD).dropLast++[.tuple [.int (p.1 + m),.none]])):=B4 (by rw [List.length_dropLast,List.length_map]; simp; omega)
      have hd:(j7 e m).d=.tuple [.int e.every,.int e.due,.int e.late,.tuple ((e.parts.map bD).dropLast++[.tuple [.int (p.1 + m),.none]])]:=by
        unfold j7 Er.d
        simp only [hp1,Option.getD_some,List.map_append,List.map_cons,List.map_nil,List.map_dropLast]
        rfl
      have c3:uI e.d none (some 3)=some (.tuple [.int e.every,.int e.due,.int e.late]):=by
        show uI (.tuple [.int e.every,.int e.due,.int e.late,.tuple (e.parts.map bD)]) none (some 3)=_
        rw [rX,show (3:Int)=((3:Nat):Int) from rfl,ve]
        rfl
      have s1:bh [] 3 (g2 dIx (ag 0) (ag 1)) [some (aq es),some (.int n),some (.int m),none,none,none]=.nx [some (aq es),some (.int n),some (.int m),some e.d,none,none]:=by
        rw [df,if_pos (by simp)]
        simp only [cL,aw,ay,Rs.aj,a3,Rs.ao,aA]
        rfl
      have s2:bh [] 4 (g2 dIx (g2 dIx (ag 3) (gC (.int 3))) (g1 nJ (gC (.int 1)))) [some (aq es),some (.int n),some (.int m),some e.d,none,none]=.nx [some (aq es),some (.int n),some (.int m),some e.d,some (bD p),none]:=by
        rw [df,if_pos (by simp)]
        simp only [cL,rT,eo,aw,ay,Rs.aj,i3,Cy,Rs.ao,hl1,aA]
        rfl
      have s3:bh [] 5 (g2 br (cG (g2 dIx (ag 3) (gC (.int 3))) ck (d4 (g1 nJ (gC (.int 1))))) (iY (af (iY (af (g2 br (g2 dIx (ag 4) (gC (.int 0))) (ag 2)) (af (g2 dIx (ag 4) (gC (.int 1))) ak))) ak))) [some (aq es),some (.int n),some (.int m),some e.d,some (bD p),none]=.nx [some (aq es),some (.int n),some (.int m),some e.d,some (bD p),some (.tuple ((e.parts.map bD).dropLast++[.tuple [.int (p.1 + m),.none]]))]:=by
        rw [df,if_pos (by simp)]
        simp only [cL,rT,eo,j8,iO,mD,mX,aH,aS,aw,ay,Rs.aj,i3,Cy,Rs.ao,mw,rX,Bz,q0,q1,fz,ha,aA]
        rfl
      have a4:br (.tuple [.int e.every,.int e.due,.int e.late]) (.tuple [.tuple ((e.parts.map bD).dropLast++[.tuple [.int (p.1 + m),.none]])])=some (j7 e m).d:=by
        rw [hd]; exact B4 (by simp)
      show a7 (dD cs bL [some (aq es),some (.int n),some (.int m),none,none,none])=_
      simp only [dD]
      rw [aZ,s1]; simp only
      rw [aZ,s2]; simp only
      rw [aZ,s3]; simp only
      simp only [cp,bb,cL,j8,iO,mD,mX,aH,aS,eo,aw,ay,Rs.aj,mw,c3,Rs.ao,a4,hwe,aA,bR]
    · exact absurd rfl hne
theorem Ac {E R N:PyData} {test:Ds→Rs Bool} {f:Int→Bool} {B:Int} (ht:∀ t,0≤t→t≤B→test [some E,some R,some N,some (.int t)]=.ok (f (t + 1))) (hB:f (B + 1)=false):∀ (j fuel:Nat) (t:Int),0≤t→t≤B→B - t≤j→j < fuel →
    ∃ a,t≤a∧a≤B∧dk test (vi [] 3 (gC (.int 1))) fuel [some E,some R,some N,some (.int t)]=.nx [some E,some R,some N,some (.int a)]∧f (a + 1)=false∧∀ s,t < s→s≤a→f s=true
  | j,0,t,_,_,_,hf=>absurd hf (Nat.not_lt_zero _)
  | 0,fuel + 1,t,t0,t1,hj,hf=>by
    have e:t=B:=by omega
    refine ⟨t,by omega,t1,?_,by rw [e]; exact hB,fun s a b=>by omega⟩
    unfold dk
    rw [ht t t0 t1,e,hB,aA,if_neg (by decide)]
  | j + 1,fuel + 1,t,t0,t1,hj,hf=>by
    unfold dk
    rw [ht t t0 t1]
    cases q:f (t + 1) with
    | false =>
      refine ⟨t,by omega,t1,?_,q,fun s a b=>by omega⟩
      rw [aA,if_neg (by decide)]
    | true =>
      have hlt:t < B:=by
        rcases Int.lt_or_eq_of_le t1 with z | z
        · exact z
        · rw [z,hB] at q; cases q
      obtain ⟨a,h1,h2,h3,h4,h5⟩:=Ac ht hB j fuel (t + 1) (by omega) (by omega) (by omega) (by omega)
      refine ⟨a,by omega,h2,?_,h4,fun s z u=>?_⟩
      · rw [aA,if_pos rfl,zy (a:=t) (b:=1) rfl rfl]
        exact h3
      · by_cases w:s=t + 1
        · rw [w]; exact q
        · exact h5 s (by omega) u
theorem wy {es:List Er} {n m:Int} (hok:∀ e∈es,e.Ok) (n0:0≤n) (n1:n < es.length) (m0:0≤m) (m1:m≤100000):∀ e∈grown es n m,e.Wk:=fun e he=>by
  have hoe:=hok _ (bJ n0 n1)
  rcases List.mem_or_eq_of_mem_set he with z | z
  · exact (hok e z).wk
  · rw [z]
    have hs:=vm hoe m0 m1
    have hpn:=hoe.p2
    refine ⟨hs,hoe.e2,hoe.l1,?_,fun p hp=>?_,?_⟩
    · have:1≤(az es n).parts.length:=List.length_pos_iff.mpr hoe.p1
      show (_++[_]).length≤4
      rw [List.length_append,List.length_dropLast]; simp; omega
    · refine ⟨?_,(hs.pl p hp).2.1⟩
      rcases List.mem_append.mp (show p∈(az es n).parts.dropLast++[_] from hp) with w | w
      · exact (hoe.pl p (List.dropLast_subset _ w)).1
      · cases List.mem_singleton.mp w
        obtain ⟨q,hq⟩:∃ q,(az es n).parts.getLast?=some q:=by
          cases u:(az es n).parts.getLast? with
          | none=>exact absurd (List.getLast?_eq_none_iff.mp u) hoe.p1
          | some q=>exact ⟨q,rfl⟩
        have:=(hoe.pl q (List.mem_of_getLast? hq)).1
        show 1≤((az es n).parts.getLast?.getD (0,none)).1 + m
        rw [hq]
        show 1≤q.1 + m
        omega
    · show _++[_]≠[]
      simp
theorem j9 (es:List Er) (n m:Int):(grown es n m).length=es.length:=by unfold grown; rw [List.length_set]
theorem p5 {es:List Er} {rs:List Int} {n t:Int} (hwk:∀ e∈es,e.Wk) (hr:bj es.length rs) (n0:0≤n) (n1:n < es.length) (h:bu es rs n=some t):(az es n).work≤t:=by
  rw [cP] at h
  obtain ⟨h1,_,h3,_⟩:=ec h
  have h3':=of_decide_eq_true h3
  unfold dr at h3'
  have hp:=rO es rs n
  have hs:=g0 (fun m=>(az es m).times t * (az es m).work) (rs.take (placeOf rs n)) fun m hm=>by
    have hm':=hr.rng m (List.mem_of_mem_take hm)
    have ho:=hwk _ (bJ hm'.1 hm'.2)
    have l0:=ho.l1
    exact Int.mul_nonneg (Er.times_pos ho.sh.e1 (by omega)) ho.sh.work_b.1
  omega
theorem Be {es:List Er} {rs:List Int} {n m:Int} (hok:∀ e∈es,e.Ok) (hr:bj es.length rs) (n0:0≤n) (n1:n < es.length) (m0:60≤m) (m1:m≤100000):c9 (grown es n m) rs=false:=by
  have hoe:=hok _ (bJ n0 n1)
  have hwk:=wy (m:=m) hok n0 n1 (by omega) m1
  have hr':bj (grown es n m).length rs:=by rw [j9]; exact hr
  refine CL (hr.mem n0 n1) ?_
  unfold dA
  cases q:bu (grown es n m) rs n with
  | none=>rfl
  | some t =>
    have hw:=p5 hwk hr' n0 (by rw [j9]; exact n1) q
    have he:az (grown es n m) n=j7 (az es n) m:=Bq n0 n1
    rw [he] at hw ⊢
    have hsh:=vm (m:=m) hoe (by omega) m1
    have hpl:=hsh.part_le (p:=(((az es n).parts.getLast?.getD (0,none)).1 + m,none)) (List.mem_append_right _ (List.mem_singleton.mpr rfl))
    obtain ⟨p,hp⟩:∃ p,(az es n).parts.getLast?=some p:=by
      cases u:(az es n).parts.getLast? with
      | none=>exact absurd (List.getLast?_eq_none_iff.mp u) hoe.p1
      | some p=>exact ⟨p,rfl⟩
    have hp1:=(hoe.pl p (List.mem_of_getLast? hp)).1
    rw [hp] at hpl
    have hpl':p.1 + m≤(j7 (az es n) m).work:=hpl
    have hd:(j7 (az es n) m).due=(az es n).due:=rfl
    have:=hoe.d2; have:=hoe.e2; have:=hoe.l1
    exact decide_eq_false (by rw [hd]; omega)
theorem E6 {es:List Er} {n:Int} (hok:∀ e∈es,e.Ok) (n0:0≤n) (n1:n < es.length):grown es n 0=es:=by
  have hoe:=hok _ (bJ n0 n1)
  obtain ⟨p,hp⟩:∃ p,(az es n).parts.getLast?=some p:=by
    cases u:(az es n).parts.getLast? with
    | none=>exact absurd (List.getLast?_eq_none_iff.mp u) hoe.p1
    | some p=>exact ⟨p,rfl⟩
  have hp2:=hoe.la p hp
  have hg:j7 (az es n) 0=az es n:=by
    unfold j7
    rw [hp]
    have:(((some p).getD (0,none)).1 + 0,(none:Option Int))=p:=by
      obtain ⟨a,b⟩:=p
      simp at hp2 ⊢
      exact hp2.symm
    rw [this]
    have hd:(az es n).parts.dropLast++[p]=(az es n).parts:=by
      have hne:=hoe.p1
      have h1:=List.dropLast_concat_getLast hne
      rw [List.getLast?_eq_some_getLast hne] at hp
      rw [← Option.some.inj hp]; exact h1
    rw [hd]
  unfold grown
  rw [hg]
  unfold az
  rw [List.getD_eq_getElem?_getD,List.getElem?_eq_getElem (by omega)]
  exact List.set_getElem_self _
noncomputable def AQ (b:Bool) (f:Int→Bool) (d:PyData):Prop:=(b=false∧d=.none)∨(b=true∧∃ a:Int,0≤a∧a≤1000∧d=.int a∧f (a + 1)=false∧∀ s,0 < s→s≤a→f s=true)
theorem tV (cs:Cs) {es:List Er} {rs:List Int} {n:Int} (l1:1≤es.length) (l6:es.length≤6) (hok:∀ e∈es,e.Ok) (hr:bj es.length rs) (n0:0≤n) (n1:n < es.length) :
    ∃ d,a7 (nZ cs bp cH aL [some (aq es),some (au rs),some (.int n),none])=.ok d∧AQ (c9 es rs) (fun m=>c9 (grown es n m) rs) d:=by
  have h1:=eM l1 l6 hok hr n0 n1
  have h2:=kI l1 l6 (fun e he=>(hok e he).wk) hr
  have s0:k4 (ax aL (af (ag 0) (af (ag 1) (af (ag 2) ak)))) [some (aq es),some (au rs),some (.int n),none]=.nx [some (aq es),some (au rs),some (.int n),none]:=by
    simp only [nG,bb,aH,aS,aw,ay,Rs.aj,h1,aA]
  simp only [nZ]
  rw [aZ,s0]; simp only
  rw [aZ]
  cases q:c9 es rs with
  | false =>
    rw [q] at h2
    refine ⟨.none,?_,.inl ⟨rfl,rfl⟩⟩
    simp only [fu,zh,gZ,bb,aH,aS,aw,ay,eo,Rs.aj,h2,b9,Bool.not_false,aA,if_true,cp,bR]
  | true =>
    rw [q] at h2
    have s1:sIf (j4 (gT (ax cH (af (ag 0) (af (ag 1) ak))))) (bM (gC .none)) bS [some (aq es),some (au rs),some (.int n),none]=.nx [some (aq es),some (au rs),some (.int n),none]:=by
      simp only [fu,zh,gZ,bb,aH,aS,aw,ay,Rs.aj,h2,b9,Bool.not_true,Bool.false_eq_true,aA,if_false,ib]
    have s2:bh [] 3 (gC (.int 0)) [some (aq es),some (au rs),some (.int n),none]=.nx [some (aq es),some (au rs),some (.int n),some (.int 0)]:=rfl
    obtain ⟨a,a0,a1,e,h4,h5⟩:=Ac (E:=aq es) (R:=au rs) (N:=.int n) (f:=fun m=>c9 (grown es n m) rs) (B:=100) (test:=gT (ax cH (af (ax bp (af (ag 0) (af (ag 2) (af (g2 br (ag 3) (gC (.int 1))) ak)))) (af (ag 1) ak)))) (fun t t0 t1=>by
        have g1:=gN (m:=t + 1) l1 l6 hok n0 n1
        have g2:=kI (es:=grown es n (t + 1)) (rs:=rs) (by rw [j9]; exact l1) (by rw [j9]; exact l6) (wy hok n0 n1 (by omega) (by omega)) (by rw [j9]; exact hr)
        simp only [gZ,bb,aH,aS,cL,eo,aw,ay,Rs.aj,fz,Rs.ao,g1,g2,b9]) (Be hok hr n0 n1 (by decide) (by decide)) 100 1000000 0 (by decide) (by decide) (by decide) (by decide)
    refine ⟨.int a,?_,.inr ⟨rfl,a,a0,by omega,rfl,h4,h5⟩⟩
    rw [s1]; simp only
    rw [aZ,s2]; simp only
    rw [aZ,e]
    rfl
open Classical in
noncomputable def qt (es:List Er) (rs:List Int) (n:Int):PyData:=if h:∃ d,AQ (c9 es rs) (fun m=>c9 (grown es n m) rs) d then h.choose else .none
theorem BB {b:Bool} {f:Int→Bool} {d d':PyData} (h:AQ b f d) (h':AQ b f d'):d=d':=by
  rcases h with ⟨hb,rfl⟩ | ⟨hb,a,a0,_,rfl,h1,h2⟩ <;> rcases h' with ⟨hb',rfl⟩ | ⟨hb',a',a0',_,rfl,h1',h2'⟩
  · rfl
  · rw [hb] at hb'; cases hb'
  · rw [hb] at hb'; cases hb'
  · have:a=a':=by
      rcases Int.lt_trichotomy a a' with z | z | z
      · rw [h2' (a + 1) (by omega) (by omega)] at h1; cases h1
      · exact z
      · rw [h2 (a' + 1) (by omega) (by omega)] at h1'; cases h1'
    rw [this]
theorem rB {es:List Er} {rs:List Int} {n:Int} {d:PyData} (h:AQ (c9 es rs) (fun m=>c9 (grown es n m) rs) d):qt es rs n=d:=by
  have hx:∃ d,AQ (c9 es rs) (fun m=>c9 (grown es n m) rs) d:=⟨d,h⟩
  unfold qt
  rw [dif_pos hx]
  exact BB hx.choose_spec h
open Classical in
noncomputable def cg:Gf
  | [d,r,.int n]=>if okN d r n then .ok (qt (b8 d) (cy r) n) else .no
  | _=>.no
theorem pR {es:List Er} {rs:List Int} {n:Int} (h1:1≤es.length) (h2:es.length≤6) (h:∀ e∈es,e.Ok) (hr:bj es.length rs) (n0:0≤n) (n1:n < es.length):cg [aq es,au rs,.int n]=.ok (qt es rs n):=by
  unfold cg; simp only [vW h1 h2 h hr n0 n1,if_true,cC,dP]
theorem Ep (cs:Cs):∀ ds,ds.length=3→cg ds≠.no→a7 (nZ cs bp cH aL (ds.map some++List.replicate 1 none))=cg ds:=by
  intro ds hl hne
  obtain ⟨d,r,n,ez,hz⟩:=iJ hne
  clear hne; subst ez; have hne:=hz; clear hz
  · skip
    split at hne
    · rename_i hc
      obtain ⟨es,rs,rfl,rfl,_,_,l1,l6,hok,hr,n0,n1⟩:=md hc
      rw [pR l1 l6 hok hr n0 n1]
      obtain ⟨d,e,hd⟩:=tV cs l1 l6 hok hr n0 n1
      rw [rB hd]
      exact e
    · exact absurd rfl hne
theorem Bx:uT cg:=⟨fun es rs n l1 l6 hok hr n0 n1=>by
  rw [pR l1 l6 hok hr n0 n1]
  obtain ⟨d,_,hd⟩:=tV ⟨0,0,0,0,0,0,0,0,0,0⟩ l1 l6 hok hr n0 n1
  rw [rB hd]
  rcases hd with ⟨hb,rfl⟩ | ⟨hb,a,a0,a1,rfl,h1,h2⟩
  · exact .inl ⟨hb,rfl⟩
  · refine .inr ⟨hb,a,a0,a1,rfl,?_,h1⟩
    by_cases z:a=0
    · rw [z,E6 hok n0 n1]; exact hb
    · exact h2 a (by omega) (Int.le_refl _)⟩
end RS
namespace RS
open PySem L2
noncomputable def qH (cs:Cs) (aW bK cg dH cc bH bw:Gf):Ds→Sr :=
  (bf (bh [] 1 (ax bw (af (ag 0) (af (gC (.int 12)) (af (gC (.int 4)) (af (gC (.int 18)) (af (gC (.bool true)) ak)))))))
    (bf (bh [] 2 (gF e8 (af (ag 1) ak)))
    (bf (bh [] 3 (ax bH (af (ag 0) (af (gC (.int 0)) (af (ag 2) ak)))))
    (bf (bh [] 4 (ax bH (af (ag 0) (af (gC (.int 6)) (af (ag 2) ak)))))
    (bf (bh [] 5 (gF ft (af (gL (bX 9 (dR (ag 4)) bV (g2 dIx (ag 1) (ag 9)) bx)) ak)))
    (bf (bh [] 6 (gF ft (af (gL (bX 9 (dR (ag 3)) bV (oQ (ag 4) (ag 9)) bx)) ak)))
    (bf (k9 [] (eO (af (ag 2) ak)) (cQ 7) (bf (bh [] 8 (oQ (ag 4) (ag 7)))
    (bf (sIf (gT (g2 dNe (ax cc (af (ag 5) (af (ag 6) (af (ag 8) ak)))) (ax cc (af (ag 1) (af (ag 3) (af (ag 7) ak)))))) (bM (gC (.bool false))) bS)
    (bf (sIf (gT (g2 dNe (ax dH (af (ag 5) (af (ag 6) (af (ag 8) ak)))) (ax dH (af (ag 1) (af (ag 3) (af (ag 7) ak)))))) (bM (gC (.bool false))) bS)
    (sIf (gT (g2 dNe (ax cg (af (ag 5) (af (ag 6) (af (ag 8) ak)))) (ax cg (af (ag 1) (af (ag 3) (af (ag 7) ak)))))) (bM (gC (.bool false))) bS)))))
    (bf (sIf (gT (g2 dNe (g1 vR (ax bK (af (ag 5) ak))) (g1 vR (ax bK (af (ag 1) ak))))) (bM (gC (.bool false))) bS)
    (bM (g2 dEq (ax aW (af (ag 5) ak)) (ax aW (af (ag 1) ak))))))))))))
end RS
set_option maxRecDepth 100000
set_option maxHeartbeats 1000000
namespace RS
open PySem L2
theorem Ek (o:Option Int):dEq (cB o) (cB o)=some (.bool true):=by
  cases o with
  | none =>
    have h:PySem.SeqAt.shaped .none=true:=by simp [PySem.SeqAt.shaped,PyData.canLay0,PyData.depth]
    show dEq .none .none=_
    unfold dEq; rw [h]; simp [b7,PyData.eqv]
  | some i=>show dEq (.int i) (.int i)=_; simp
theorem ne_bool (b:Bool):dNe (.bool b) (.bool b)=some (.bool false):=by
  have h:PySem.SeqAt.shaped (.bool b)=true:=by simp [PySem.SeqAt.shaped,PyData.canLay0,PyData.depth]
  unfold dNe; rw [h]; simp [b7,PyData.eqv]
theorem xo {gf:Gf} (F:DU gf) {es:List Er} (l1:1≤es.length) (l6:es.length≤6) (hok:∀ e∈es,e.Ok):∃ d,gf [aq es]=.ok d∧eN d=p9 (¬ Fits es):=by
  rcases F.of es l1 l6 hok with ⟨rs,hf,hr,ha⟩ | ⟨hf,hno⟩
  · exact ⟨_,hf,by rw [qL (fun z=>z ⟨rs,hr,ha⟩)]; rfl⟩
  · exact ⟨_,hf,by rw [tQ (fun pz0=>by obtain ⟨rs,hr,ha⟩:=pz0; rw [hno rs hr] at ha; cases ha)]; rfl⟩
theorem law_holds {aW bK cg:Gf} (W:Gw aW) (F:DU bK) (S:uT cg) (cs:Cs) (ns:List Int):qH cs aW bK cg dH cc bH bw (some (aE ns)::List.replicate 8 none)=.rt (.bool true):=by
  obtain ⟨es,rs,_,l1,l4,hok,hr,hes,hrs⟩:=BK ns 12 18 (by decide) (by decide) (by decide)
  have hod:=iz (ns:=ns) (a:=6) (many:=(es.length:Int)) (by decide) (by omega) (by omega)
  rw [Int.toNat_natCast] at hod
  have ho:bj es.length (ma ns 6 es.length):=rP ns 6 es.length
  generalize ma ns 6 es.length=od at *
  have hok2:∀ e∈sub es od,e.Ok:=Cf hok fun m hm=>by have:=ho.rng m hm; omega
  have hl2:=sub_len ho
  have hr2:=jZ ho hr
  have hA:=ql ho hr
  have s1:bh [] 1 (ax bw (af (ag 0) (af (gC (.int 12)) (af (gC (.int 4)) (af (gC (.int 18)) (af (gC (.bool true)) ak)))))) [some (aE ns),none,none,none,none,none,none,none,none]=.nx [some (aE ns),some (aq es),none,none,none,none,none,none,none]:=by simp [hes]
  have s2:bh [] 2 (gF e8 (af (ag 1) ak)) [some (aE ns),some (aq es),none,none,none,none,none,none,none]=.nx [some (aE ns),some (aq es),some (.int (es.length:Int)),none,none,none,none,none,none]:=by simp [GD]
  have s3:bh [] 3 (ax bH (af (ag 0) (af (gC (.int 0)) (af (ag 2) ak)))) [some (aE ns),some (aq es),some (.int (es.length:Int)),none,none,none,none,none,none]=.nx [some (aE ns),some (aq es),some (.int (es.length:Int)),some (au rs),none,none,none,none,none]:=by simp [hrs]
  have s4:bh [] 4 (ax bH (af (ag 0) (af (gC (.int 6)) (af (ag 2) ak)))) [some (aE ns),some (aq es),some (.int (es.length:Int)),some (au rs),none,none,none,none,none]=.nx [some (aE ns),some (aq es),some (.int (es.length:Int)),some (au rs),some (au od),none,none,none,none]:=by simp [hod]
  have hol:=ho.len
  have hrl:=hr.len
  have c5:bX 9 (dR (ag 4)) bV (g2 dIx (ag 1) (ag 9)) bx [some (aE ns),some (aq es),some (.int (es.length:Int)),some (au rs),some (au od),none,none,none,none]=.ok ((od.map PyData.int).map fun d=>(az es (deI d)).d) :=
    cK rfl rfl (by rw [List.length_map]; omega) fun d hd=>by
      obtain ⟨m,hm,rfl⟩:=List.mem_map.mp hd
      have hmr:=ho.rng m hm
      have an:dIx (aq es) (.int m)=some (az es m).d:=ia hmr.1 (by omega)
      simp only [List.cons_append,List.nil_append,cL,aw,ay,Rs.aj,an,Rs.ao]
      rfl
  have e5:((od.map PyData.int).map fun d=>(az es (deI d)).d)=(sub es od).map Er.d:=by
    unfold sub
    rw [List.map_map,List.map_map]; exact List.map_congr_left fun n _=>rfl
  rw [e5] at c5
  have hft:ft [.list ((sub es od).map Er.d)]=some (aq (sub es od)):=rfl
  have s5:bh [] 5 (gF ft (af (gL (bX 9 (dR (ag 4)) bV (g2 dIx (ag 1) (ag 9)) bx)) ak)) [some (aE ns),some (aq es),some (.int (es.length:Int)),some (au rs),some (au od),none,none,none,none]=.nx [some (aE ns),some (aq es),some (.int (es.length:Int)),some (au rs),some (au od),some (aq (sub es od)),none,none,none]:=by
    rw [df,if_pos (by simp)]
    simp only [j6,aH,aS,nU,c5,Rs.aj,hft,Rs.ao,aA]
    rfl
  have c6:bX 9 (dR (ag 3)) bV (oQ (ag 4) (ag 9)) bx [some (aE ns),some (aq es),some (.int (es.length:Int)),some (au rs),some (au od),some (aq (sub es od)),none,none,none]=.ok ((rs.map PyData.int).map fun d=>.int (placeOf od (deI d):Int)) :=
    cK rfl rfl (by rw [List.length_map]; omega) fun d hd=>by
      obtain ⟨m,hm,rfl⟩:=List.mem_map.mp hd
      have hmr:=hr.rng m hm
      have hix:=jz (ho.mem hmr.1 (by omega))
      simp only [List.cons_append,List.nil_append,uL,aw,ay,Rs.aj,au,hix,Rs.ao]
      rfl
  have e6:((rs.map PyData.int).map fun d=>PyData.int (placeOf od (deI d):Int))=(rs.map fun m=>(placeOf od m:Int)).map PyData.int:=by
    rw [List.map_map,List.map_map]; exact List.map_congr_left fun n _=>rfl
  rw [e6] at c6
  have hft2:ft [.list ((rs.map fun m=>(placeOf od m:Int)).map PyData.int)]=some (au (rs.map fun m=>(placeOf od m:Int))):=rfl
  have s6:bh [] 6 (gF ft (af (gL (bX 9 (dR (ag 3)) bV (oQ (ag 4) (ag 9)) bx)) ak)) [some (aE ns),some (aq es),some (.int (es.length:Int)),some (au rs),some (au od),some (aq (sub es od)),none,none,none]=.nx [some (aE ns),some (aq es),some (.int (es.length:Int)),some (au rs),some (au od),some (aq (sub es od)),some (au (rs.map fun m=>(placeOf od m:Int))),none,none]:=by
    rw [df,if_pos (by simp)]
    simp only [j6,aH,aS,nU,c6,Rs.aj,hft2,Rs.ao,aA]
    rfl
  have hrg:=ju (j:=(es.length:Int)) (Int.natCast_nonneg _) (by omega)
  rw [Int.toNat_natCast] at hrg
  have src:eO (af (ag 2) ak) [some (aE ns),some (aq es),some (.int (es.length:Int)),some (au rs),some (au od),some (aq (sub es od)),some (au (rs.map fun m=>(placeOf od m:Int))),none,none]=.ok (cx 0 es.length):=by
    have hv:(af (ag 2) ak) [some (aE ns),some (aq es),some (.int (es.length:Int)),some (au rs),some (au od),some (aq (sub es od)),some (au (rs.map fun m=>(placeOf od m:Int))),none,none]=.ok [.int (es.length:Int)]:=rfl
    rw [jm,hv,Rs.aj,hrg]
  obtain ⟨δ',e,x7,x8,hδ⟩:=iU (β:=Unit) (tgt:=cQ 7) (body:=bf (bh [] 8 (oQ (ag 4) (ag 7)))
    (bf (sIf (gT (g2 dNe (ax cc (af (ag 5) (af (ag 6) (af (ag 8) ak)))) (ax cc (af (ag 1) (af (ag 3) (af (ag 7) ak)))))) (bM (gC (.bool false))) bS)
    (bf (sIf (gT (g2 dNe (ax dH (af (ag 5) (af (ag 6) (af (ag 8) ak)))) (ax dH (af (ag 1) (af (ag 3) (af (ag 7) ak)))))) (bM (gC (.bool false))) bS)
    (sIf (gT (g2 dNe (ax cg (af (ag 5) (af (ag 6) (af (ag 8) ak)))) (ax cg (af (ag 1) (af (ag 3) (af (ag 7) ak)))))) (bM (gC (.bool false))) bS))))
    (fun _ δ=>∃ x7 x8,δ=[some (aE ns),some (aq es),some (.int (es.length:Int)),some (au rs),some (au od),some (aq (sub es od)),some (au (rs.map fun m=>(placeOf od m:Int))),x7,x8]) (cx 0 es.length) 0 (fun i d δ hi pz4=>by
      obtain ⟨x7,x8,hx⟩:=pz4
      subst hx
      obtain ⟨hil,hd⟩:=i9 hi
      rw [Int.zero_add] at hd
      subst hd
      have n0:(0:Int)≤(i:Int):=by omega
      have n1:(i:Int) < es.length:=by omega
      have hix:=jz (ho.mem n0 (by omega))
      have hp:=place_lt ho n0 n1
      have hmr:=hr.mem n0 (by omega)
      have g1:=jC (n:=(i:Int)) l1 (by omega) hok hr n0 n1
      have g2:=jC (es:=sub es od) (rs:=rs.map fun m=>(placeOf od m:Int)) (n:=(placeOf od (i:Int):Int)) (by omega) (by omega) hok2 (by rw [hl2]; exact hr2) (by omega) (by omega)
      have hq1:bu (sub es od) (rs.map fun m=>(placeOf od m:Int)) (placeOf od (i:Int):Int)=bu es rs (i:Int):=hA.longest hmr
      rw [hq1] at g2
      have g3:=nq (n:=(i:Int)) l1 (by omega) hok hr n0 n1
      have g4:=nq (es:=sub es od) (rs:=rs.map fun m=>(placeOf od m:Int)) (n:=(placeOf od (i:Int):Int)) (by omega) (by omega) hok2 (by rw [hl2]; exact hr2) (by omega) (by omega)
      have hq2:bY (sub es od) (rs.map fun m=>(placeOf od m:Int)) (placeOf od (i:Int):Int)=bY es rs (i:Int):=hA.hold hmr
      rw [hq2] at g4
      obtain ⟨o,g5,g6⟩:=B6 S l1 (by omega) hok hr ho n0 n1
      have t1:bh [] 8 (oQ (ag 4) (ag 7)) [some (aE ns),some (aq es),some (.int (es.length:Int)),some (au rs),some (au od),some (aq (sub es od)),some (au (rs.map fun m=>(placeOf od m:Int))),some (.int (i:Int)),x8]=.nx [some (aE ns),some (aq es),some (.int (es.length:Int)),some (au rs),some (au od),some (aq (sub es od)),some (au (rs.map fun m=>(placeOf od m:Int))),some (.int (i:Int)),some (.int (placeOf od (i:Int):Int))]:=by
        rw [df,if_pos (by simp)]
        have hix':∀ l,au od=.tuple l→lA l (.int (i:Int))=some (.int (placeOf od (i:Int):Int)):=fun l hl=>by cases hl; exact hix
        simp only [uL,aw,ay,Rs.aj]
        show ofR (Rs.fX (lA (od.map PyData.int) (.int (i:Int)))) _=_
        rw [hix]
        rfl
      have hnh:dNe (.int (bY es rs (i:Int))) (.int (bY es rs (i:Int)))=some (.bool false):=Co (some (bY es rs (i:Int)))
      refine ⟨[some (aE ns),some (aq es),some (.int (es.length:Int)),some (au rs),some (au od),some (aq (sub es od)),some (au (rs.map fun m=>(placeOf od m:Int))),some (.int (i:Int)),x8],[some (aE ns),some (aq es),some (.int (es.length:Int)),some (au rs),some (au od),some (aq (sub es od)),some (au (rs.map fun m=>(placeOf od m:Int))),some (.int (i:Int)),some (.int (placeOf od (i:Int):Int))],rfl,?_,_,_,rfl⟩
      rw [aZ,t1]
      simp only [aZ,fu,gZ,cL,bb,aH,aS,aw,ay,Rs.aj,g1,g2,g3,g4,g5,g6,Co,hnh,Rs.ao,b9,aA,Bool.false_eq_true,if_false,ib]) [some (aE ns),some (aq es),some (.int (es.length:Int)),some (au rs),some (au od),some (aq (sub es od)),some (au (rs.map fun m=>(placeOf od m:Int))),none,none] ⟨none,none,rfl⟩
  subst hδ
  obtain ⟨d1,f1,q1⟩:=xo F l1 (by omega) hok
  obtain ⟨d2,f2,q2⟩:=xo F (es:=sub es od) (by omega) (by omega) hok2
  rw [propext (C0 ho)] at q2
  have w1:=W.of es l1 (by omega) hok
  have w2:=W.of (sub es od) (by omega) (by omega) hok2
  rw [Fp ho] at w2
  have hni:∀ d,vR d=some (.bool (eN d)):=fun _=>rfl
  show qH cs aW bK cg dH cc bH bw [some (aE ns),none,none,none,none,none,none,none,none]=_
  simp only [qH]
  rw [aZ,s1]; simp only
  rw [aZ,s2]; simp only
  rw [aZ,s3]; simp only
  rw [aZ,s4]; simp only
  rw [aZ,s5]; simp only
  rw [aZ,s6]; simp only
  rw [aZ,iC,ig,src,aA,e]; simp only
  rw [aZ]
  simp only [fu,gZ,rT,cL,bb,aH,aS,aw,ay,Rs.aj,f1,f2,hni,q1,q2,ne_bool,Rs.ao,b9,aA,Bool.false_eq_true,if_false,ib]
  simp only [cp,cL,bb,aH,aS,aw,ay,Rs.aj,w1,w2,Ek,Rs.ao,aA]
theorem Ha {aW bK cg:Gf} (W:Gw aW) (F:DU bK) (S:uT cg) (cs:Cs):∀ ds,ds.length=1→fF 63 ds≠.no→a7 (qH cs aW bK cg dH cc bH bw (ds.map some++List.replicate 8 none))=fF 63 ds:=lawT_of (law_holds W F S cs)
end RS
namespace RS
open PySem L2
theorem GB (cs:Cs):∀ ds,ds.length=1→fF 63 ds≠.no→a7 (qH cs (aW cs) (bK cs) cg dH cc bH bw (ds.map some++List.replicate 8 none))=fF 63 ds:=Ha (Fg cs) (Gj cs) Bx cs
end RS
set_option maxRecDepth 100000
set_option maxHeartbeats 4000000
namespace RS
open PySem PySem.Spec PyProof.Rows L2
noncomputable def top (i:Nat):Stmt:=PySem.Challenge.pw_ranksure_k23_whole_numbers.main.body.getD i (.Pass ⟨0,0,0,0⟩)
noncomputable abbrev nu:Stmt:=top 13
noncomputable abbrev mY:Stmt:=top 14
noncomputable abbrev pq:Stmt:=top 15
noncomputable abbrev lQ:Stmt:=top 16
noncomputable abbrev lS:Stmt:=top 17
noncomputable abbrev oZ:Stmt:=top 18
noncomputable abbrev iy:Stmt:=top 19
noncomputable abbrev gY:Stmt:=top 20
noncomputable abbrev jH:Stmt:=top 21
noncomputable abbrev pk:Stmt:=top 22
noncomputable abbrev nk:Stmt:=top 23
noncomputable abbrev sg:Stmt:=top 24
noncomputable abbrev kn:Stmt:=top 25
noncomputable abbrev nj:Stmt:=top 28
noncomputable abbrev iV:Stmt:=top 29
noncomputable abbrev kO:Stmt:=top 30
noncomputable abbrev xP:Stmt:=top 31
noncomputable abbrev lO:Stmt:=top 32
noncomputable abbrev kR:Stmt:=top 33
noncomputable abbrev gx:Stmt:=top 34
noncomputable abbrev mU:Stmt:=top 35
noncomputable abbrev kz:Stmt:=top 36
noncomputable abbrev yI:Stmt:=top 37
noncomputable abbrev oH:Stmt:=top 38
noncomputable abbrev lH:Stmt:=top 40
noncomputable abbrev kG:Stmt:=top 41
noncomputable abbrev fL:Stmt:=top 42
noncomputable abbrev fo:Stmt:=top 43
noncomputable abbrev gu:Stmt:=top 44
noncomputable abbrev oO:Stmt:=top 45
noncomputable abbrev qW:Stmt:=top 46
noncomputable abbrev jE:Stmt:=top 47
noncomputable abbrev gy:Stmt:=top 48
noncomputable abbrev vZ:Stmt:=top 49
noncomputable abbrev iZ:Stmt:=top 52
noncomputable abbrev pA:Stmt:=top 53
noncomputable abbrev iQ:Stmt:=top 54
noncomputable abbrev l5:Stmt:=top 55
noncomputable abbrev kB:Stmt:=top 56
noncomputable abbrev iS:Stmt:=top 57
noncomputable abbrev fv:Stmt:=top 59
noncomputable abbrev jt:Stmt:=top 60
noncomputable abbrev kC:Stmt:=top 61
noncomputable abbrev jI:Stmt:=top 62
noncomputable abbrev lK:Stmt:=top 63
noncomputable abbrev uy:Stmt:=top 64
noncomputable abbrev mW:Stmt:=inClass (top 27) 0
structure Tx (K:PySem.W.Frag) (mg:Str→Option Value) (cs:Cs):Prop where
  f_is_whole:aY K mg "is_whole" nu ["thing", "least", "most"]
  f_is_tuple:aY K mg "is_tuple" mY ["thing", "fewest", "most"]
  f_is_part:aY K mg "is_part" pq ["thing"]
  f_are_parts:aY K mg "are_parts" lQ ["thing"]
  f_is_errand:aY K mg "is_errand" lS ["thing"]
  f_checked:aY K mg "checked" oZ ["errands"]
  f_checked_ranks:aY K mg "checked_ranks" iy ["errands", "ranks"]
  f_checked_number:aY K mg "checked_number" gY ["errands", "number"]
  f_check_place:aY K mg "check_place" jH ["errands", "ranks", "number"]
  f_work_of:aY K mg "work_of" pk ["errand"]
  f_has_tool:aY K mg "has_tool" nk ["errand", "tool"]
  f_height:aY K mg "height" sg ["errands", "ranks", "tool"]
  f_heights_of:aY K mg "heights_of" kn ["errands", "ranks"]
  f_holdings:aY K mg "holdings" nj ["errands", "ranks", "number"]
  f_hold_by_high:aY K mg "hold_by_high" iV ["errands", "ranks", "number"]
  f_rounded_up:aY K mg "rounded_up" kO ["times", "every"]
  f_need:aY K mg "need" xP ["errands", "ranks", "number", "held_up", "times"]
  f_levels_by:aY K mg "levels_by" lO ["errands", "ranks", "number", "held_up"]
  f_longest_by:aY K mg "longest_by" kR ["errands", "ranks", "number", "held_up"]
  f_longest_by_high:aY K mg "longest_by_high" gx ["errands", "ranks", "number"]
  f_has_room:aY K mg "has_room" mU ["errands", "ranks", "number", "room"]
  f_is_in_time:aY K mg "is_in_time" kz ["errands", "ranks", "number"]
  f_hold:aY K mg "hold" yI ["errands", "ranks", "number"]
  f_longest:aY K mg "longest" oH ["errands", "ranks", "number"]
  f_as_lowest:aY K mg "as_lowest" lH ["errands", "some", "number"]
  f_not_placed:aY K mg "not_placed" kG ["errands", "placed"]
  f_following_lowest:aY K mg "following_lowest" fL ["errands", "placed", "room"]
  f_placed_from_below:aY K mg "placed_from_below" fo ["errands", "room"]
  f_ranks_with_room:aY K mg "ranks_with_room" gu ["errands", "room"]
  f_fitting:aY K mg "fitting" oO ["errands"]
  f_do_fit:aY K mg "do_fit" qW ["errands", "ranks"]
  f_with_errand:aY K mg "with_errand" jE ["errands", "number", "errand"]
  f_with_longer_end:aY K mg "with_longer_end" gy ["errands", "number", "times"]
  f_spare:aY K mg "spare" vZ ["errands", "ranks", "number"]
  f_share_a_tool:aY K mg "share_a_tool" iZ ["errand", "other"]
  f_bundled:aY K mg "bundled" pA ["errands"]
  f_fit_one_hand:aY K mg "fit_one_hand" iQ ["errands", "some"]
  f_all_dealt:aY K mg "all_dealt" l5 ["errands", "bundles", "piles"]
  f_dealing_to:aY K mg "dealing_to" kB ["errands", "hands"]
  f_fewest_hands:aY K mg "fewest_hands" iS ["errands"]
  f_law_cell_at:aY K mg "_law_cell_at" fv ["_law_script", "_law_k"]
  f_law_mixed:aY K mg "_law_mixed" jt ["_law_script", "_law_k", "_law_many"]
  f_law_errand:aY K mg "_law_errand" kC ["_law_script", "_law_at", "_law_top", "_law_tools"]
  f_law_errands:aY K mg "_law_errands" jI ["_law_script", "_law_at", "_law_most", "_law_top", "_law_tools"]
  f_law_ranks:aY K mg "_law_ranks" lK ["_law_script", "_law_at", "_law_many"]
  f_law:aY K mg "law" uy ["_law_script"]
  b_all:mg "all"=none
  b_any:mg "any"=none
  b_bool:mg "bool"=none
  b_enumerate:mg "enumerate"=none
  b_int:mg "int"=none
  b_isinstance:mg "isinstance"=none
  b_len:mg "len"=none
  b_list:mg "list"=none
  b_max:mg "max"=none
  b_min:mg "min"=none
  b_range:mg "range"=none
  b_set:mg "set"=none
  b_sorted:mg "sorted"=none
  b_sum:mg "sum"=none
  b_tuple:mg "tuple"=none
  c_LEAST_EVERY:∃ t,mg "LEAST_EVERY"=some (.int 2 t)
  c_MOST_ERRANDS:∃ t,mg "MOST_ERRANDS"=some (.int 6 t)
  c_MOST_EVERY:∃ t,mg "MOST_EVERY"=some (.int 60 t)
  c_MOST_HANDS:∃ t,mg "MOST_HANDS"=some (.int 4 t)
  c_MOST_LATE:∃ t,mg "MOST_LATE"=some (.int 20 t)
  c_MOST_LENGTH:∃ t,mg "MOST_LENGTH"=some (.int 20 t)
  c_MOST_PARTS:∃ t,mg "MOST_PARTS"=some (.int 4 t)
  c_TOOLS:∃ t,mg "TOOLS"=some (.int 4 t)
  e_NoErrand:wB K mg "NoErrand" cs.NoErrand
  e_NoErrands:wB K mg "NoErrands" cs.NoErrands
  e_NoRanks:wB K mg "NoRanks" cs.NoRanks
  cl_Holding:Cls K cs.Holding
  na_Holding_number:iB K cs.Holding "number"
  na_Holding_part:iB K cs.Holding "part"
  na_Holding_tool:iB K cs.Holding "tool"
  na_Holding_times:iB K cs.Holding "times"
  mk_Holding:∃ f fd,Mk K cs.Holding f∧Fun K "__init__" "Holding.__init__" mW f fd∧Binds K fd ["self", "number", "part", "tool", "times"] []
  m_Holding:mg "Holding"=some (.ref cs.Holding)
section
variable {P:Program} {w:World} {K:PySem.W.Frag} {mg:Str→Option Value} {base:Heap} {cs:Cs}
theorem wK:a8 ["self", "number", "part", "tool", "times"] ["self", "number", "part", "tool", "times"] (aG mW):=⟨rfl,rfl,rfl,by decide +kernel,rfl,by decide +kernel,by decide +kernel⟩
theorem oU (T:Tx K mg cs):C4 P w K mg base 1 "Holding" cs.Holding ["number", "part", "tool", "times"]:=by
  obtain ⟨f,fd,M,F,b⟩:=T.mk_Holding
  refine ⟨f,fd,_,M,vk (k:=0) F wK (fun vs H Q E h=>?_) (fun cdv A outer s H vs Q E hr h=>?_),b,T.m_Holding⟩
  · obtain ⟨x,dx,args,rfl,hl,_⟩:=h
    rw [List.length_cons,hl]; rfl
  · obtain ⟨x,dx,args,rfl,hl,hx,k⟩:=h
    obtain ⟨a0,a1,a2,a3,rfl⟩:∃ a0 a1 a2 a3,args=[a0,a1,a2,a3]:=by
      cases args with
      | nil=>cases hl
      | cons a0 r0 =>
        cases r0 with
        | nil=>cases hl
        | cons a1 r1 =>
          cases r1 with
          | nil=>cases hl
          | cons a2 r2 =>
            cases r2 with
            | nil=>cases hl
            | cons a3 r3 =>
              cases r3 with
              | nil=>exact ⟨a0,a1,a2,a3,rfl⟩
              | cons _ _=>exact absurd hl (by simp)
    refine ⟨_,(je (uY (pv 0) (pv 1) rfl) (je (uY (pv 0) (pv 2) rfl) (je (uY (pv 0) (pv 3) rfl) (ml (uY (pv 0) (pv 4) rfl))))),?_⟩
    refine ⟨_,rfl,_,rfl,x,cs.Holding,dx,_,rfl,hx,T.cl_Holding,T.na_Holding_number,(by show 0 < 1000; decide),_,rfl,_,rfl,x,cs.Holding,dx,_,rfl,cA,T.cl_Holding,T.na_Holding_part,(by show 1 < 1000; decide),_,rfl,_,rfl,x,cs.Holding,dx,_,rfl,cA,T.cl_Holding,T.na_Holding_tool,(by show 2 < 1000; decide),_,rfl,_,rfl,x,cs.Holding,dx,_,rfl,cA,T.cl_Holding,T.na_Holding_times,(by show 3 < 1000; decide),?_⟩
    exact k _ (fun b hb=>by rw [bG hb,bG hb,bG hb,bG hb]) (by rw [cA]; rfl)
theorem yn:a8 ["_law_script", "_law_k"] ["_law_script", "_law_k"] (aG fv):=⟨rfl,rfl,rfl,by decide +kernel,rfl,by decide +kernel,by decide +kernel⟩
theorem yy {f:Addr} {fd:FuncData} (F:Fun K "_law_cell_at" "_law_cell_at" fv f fd) (bl:mg "len"=none):kr P w K mg base CX0 1 f fd ["_law_script", "_law_k"] (CH K):=by
  refine F.ok yn (fun vs H Q E h=>?_) (fun cdv A outer s H vs Q E hr h=>?_)
  · obtain ⟨a,ns,k,rfl,_⟩:=h
    rfl
  · obtain ⟨a,ns,k,rfl,hS,hk,kk⟩:=h
    refine ⟨_,je (BY (yo (Hm (pv 1) (gA kA rfl bl PySem.boot_len (fH (pv 0) i7)))) (ml (qP (B8 vT (pv 0) (pv 1) (fun _ _=>rfl)))) v3)
      (je (BY (mB (zi hr.units) (pv 0) (yw i7) (mV _)) (ml (qP kv)) v3)
      (ml (qP (gK oT (gK pC (B8 vT (pv 0) (gK rD (pv 1) (gA kA rfl bl PySem.boot_len (fH (pv 0) i7))) (fun _ _=>rfl)) kv) (pv 1))))),?_⟩
    refine ⟨_,rfl,_,rfl,a,_,rfl,.inl hS,k,_,rfl,rfl,_,rfl,?_⟩
    have hlen:(ns.map V.int).length=ns.length:=List.length_map ..
    rw [hlen]
    refine Hr (fun hc=>?_) (fun hc=>?_)
    · have hc:k < (ns.length:Int):=of_decide_eq_true hc
      have hi:k.toNat < ns.length:=by omega
      refine ⟨_,rfl,_,rfl,a,_,k,.int (ns.getD k.toNat 0),rfl,rfl,hS,zp hk ?_,?_⟩
      · rw [List.getElem?_map,List.getElem?_eq_getElem hi,List.getD_eq_getElem?_getD,List.getElem?_eq_getElem hi]; rfl
      · have:=kk H (aT.refl H)
        rw [show cellAt ns k=ns.getD k.toNat 0 by unfold cellAt; rw [if_pos hc]] at this
        exact this
    · have hc:¬ k < (ns.length:Int):=fun z=>hc (decide_eq_true z)
      refine ⟨_,rfl,Nat.zero_le _,fun p hp=>⟨.list (ns.map .int),.list [],(vS hS (ud ns)).same (nH hp),vS (SqL.of cA) rF,shaped_ints ns,yG,_,rfl,?_⟩⟩
      rw [Cw]
      refine Hr (fun hz=>?_) (fun hz=>?_)
      · have hz:ns=[]:=of_decide_eq_true hz
        have:=kk _ (nH (o:=.lst []) hp)
        rw [show cellAt ns k=0 by unfold cellAt; rw [if_neg hc,if_pos hz]] at this
        exact this
      · have hz:¬ ns=[]:=fun z=>hz (decide_eq_true z)
        have hpos:0 < (ns.length:Int):=by
          cases ns with
          | nil=>exact absurd rfl hz
          | cons _ _=>simp
        have h1:0≤k % (ns.length:Int):=Int.emod_nonneg _ (by omega)
        have h2:k % (ns.length:Int) < (ns.length:Int):=Int.emod_lt_of_pos _ hpos
        have hi:(k % (ns.length:Int)).toNat < ns.length:=by omega
        have s1:aT H (upd H p (.lst [])):=nH hp
        refine ⟨_,rfl,_,rfl,_,rfl,a,_,rfl,.inl (s1.seq hS),_,_,rfl,rfl,by rw [hlen]; exact hpos,a,_,_,.int (ns.getD (k % (ns.length:Int)).toNat 0),rfl,rfl,s1.seq hS,?_,_,_,rfl,rfl,.inr ⟨by decide,by decide⟩,_,rfl,_,_,rfl,rfl,?_⟩
        · rw [hlen]
          refine zp h1 ?_
          rw [List.getElem?_map,List.getElem?_eq_getElem hi,List.getD_eq_getElem?_getD,List.getElem?_eq_getElem hi]; rfl
        · have:=kk _ s1
          rw [show cellAt ns k=ns.getD (k % (ns.length:Int)).toNat 0 * 31 + k by unfold cellAt; rw [if_neg hc,if_neg hz]] at this
          exact this
theorem wX:a8 ["_law_script", "_law_k", "_law_many", "_law_drawn"] ["_law_script", "_law_k", "_law_many"] (aG jt):=⟨rfl,rfl,rfl,by decide +kernel,rfl,by decide +kernel,by decide +kernel⟩
theorem BO {f fC:Addr} {fd fdC:FuncData} (F:Fun K "_law_mixed" "_law_mixed" jt f fd) (FC:Fun K "_law_cell_at" "_law_cell_at" fv fC fdC) (bC:Binds K fdC ["_law_script", "_law_k"] []) (mC:mg "_law_cell_at"=some (.ref fC)) (bl:mg "len"=none):kr P w K mg base CX0 2 f fd ["_law_script", "_law_k", "_law_many"] (E3 K):=by
  have GC:kr P w K mg base CX0 1 fC fdC _ (CH K):=yy FC bl
  refine F.ok wX (fun vs H Q E h=>?_) (fun cdv A outer s H vs Q E hr h=>?_)
  · obtain ⟨a,ns,k,many,rfl,_⟩:=h
    rfl
  · obtain ⟨a,ns,k,many,rfl,hS,hk,hm,kk⟩:=h
    refine ⟨_,je (zk (i:=3) wX.nd rfl (Or.inl rfl) (gK rD (gK pC (gK oT (gK oT (zB GC hr rfl mC FC.kp bC .nil G6 (fH (pv 0) (fH (pv 1) i7))) (gK pC kv (pv 1))) kv) kv) kv))
      (ml (qP (gK rD (gK rD (gK oT (gK oT (gK pC (pv 3) (pv 3)) (gK pC kv (pv 3))) (pv 1)) kv) (pv 2)))),?_⟩
    refine ⟨_,rfl,_,rfl,a,ns,k,rfl,hS,hk,fun H1 s1=>?_⟩
    refine ⟨_,rfl,_,_,rfl,rfl,.inl ⟨by decide,by decide⟩,_,_,rfl,rfl,_,_,rfl,rfl,_,_,rfl,rfl,.inr ⟨by decide,by decide⟩,_,_,rfl,rfl,(by show (0:Int) < 2147483647; decide),?_⟩
    have b1:=DM ns k
    have b2:=DJ ns k
    have eD:(cellAt ns k + 7919 * k + 1) * 48271 % 2147483647=Ai ns k:=rfl
    refine ⟨_,rfl,_,rfl,_,_,rfl,rfl,.inl ⟨?_,?_⟩,_,rfl,_,_,rfl,rfl,.inl ⟨by decide,by decide⟩,_,_,rfl,rfl,_,rfl,_,_,rfl,rfl,_,_,rfl,rfl,(by show (0:Int) < 2147483629; decide),_,rfl,_,_,rfl,rfl,hm,kk H1 s1⟩
    · show -(2 ^ 64) < (cellAt ns k + 7919 * k + 1) * 48271 % 2147483647
      rw [eD]; omega
    · show (cellAt ns k + 7919 * k + 1) * 48271 % 2147483647 < 2 ^ 64
      rw [eD]; omega
theorem cn (T:Tx K mg cs):aP P w K mg base 2 "_law_mixed" 3 av:=by
  obtain ⟨f,fd,F,b,m⟩:=T.f_law_mixed
  obtain ⟨fC,fdC,FC,bC,mC⟩:=T.f_law_cell_at
  exact aP.old (BO F FC bC mC T.b_len) m F.kp b En
theorem xI:a8 ["thing", "least", "most"] ["thing", "least", "most"] (aG nu):=⟨rfl,rfl,rfl,by decide +kernel,rfl,by decide +kernel,by decide +kernel⟩
theorem cY (T:Tx K mg cs) { gf:Gf} (hL:∀ ds,ds.length=3→gf ds≠.no→a7 (jb cs (ds.map some++List.replicate 0 none))=gf ds):aP P w K mg base 1 "is_whole" 3 gf:=by
  obtain ⟨f,fd,F,b,m⟩:=T.f_is_whole
  exact aP.of (O:=[]) (G:=jb cs) F xI b m (by decide) (fun cdv A outer s H E hr=>(ar (cF (tY (sv (eu (cN (pz T.b_isinstance T.b_int Ci (by simp) (ah 0)))) (oh (cN (pz T.b_isinstance T.b_bool Ej (by simp) (ah 0)))))) (aB (aU lj)) cm)
      (aB (aU (zu (ah 1) (ah 0) (ah 2)))))) hL
theorem xN:a8 ["thing", "fewest", "most"] ["thing", "fewest", "most"] (aG mY):=⟨rfl,rfl,rfl,by decide +kernel,rfl,by decide +kernel,by decide +kernel⟩
theorem dq (T:Tx K mg cs) { gf:Gf} (hL:∀ ds,ds.length=3→gf ds≠.no→a7 (iR cs (ds.map some++List.replicate 0 none))=gf ds):aP P w K mg base 1 "is_tuple" 3 gf:=by
  obtain ⟨f,fd,F,b,m⟩:=T.f_is_tuple
  exact aP.of (O:=[]) (G:=iR cs) F xN b m (by decide) (fun cdv A outer s H E hr=>(aB (aU (vI (pz T.b_isinstance T.b_tuple wo (by simp) (ah 0)) (rh (zu (ah 1) (gE T.b_len (ae (ah 0) ai)) (ah 2))))))) hL
theorem yz:a8 ["thing"] ["thing"] (aG pq):=⟨rfl,rfl,rfl,by decide +kernel,rfl,by decide +kernel,by decide +kernel⟩
theorem o8 (T:Tx K mg cs) { aM aJ gf:Gf} (cY:aP P w K mg base 1 "is_whole" 3 aM) (dq:aP P w K mg base 1 "is_tuple" 3 aJ) (hL:∀ ds,ds.length=1→gf ds≠.no→a7 (g7 cs aM aJ (ds.map some++List.replicate 0 none))=gf ds):aP P w K mg base 2 "is_part" 1 gf:=by
  obtain ⟨f,fd,F,b,m⟩:=T.f_is_part
  exact aP.of (O:=[]) (G:=g7 cs aM aJ) F yz b m (by decide) (fun cdv A outer s H E hr=>(ar (cF (tY (sv (eu (cN (aC dq hr aI (ae (ah 0) (ae aF (ae aF ai)))))) (oh (eu (cN (aC cY hr aI (ae (cj (ah 0) aF) (ae aF (ae (h9 T.c_MOST_LENGTH) ai))))))))) (aB (aU lj)) cm)
      (aB (aU (GP (vB (cj (ah 0) aF)) (rh (aC cY hr aI (ae (cj (ah 0) aF) (ae aF (ae (i4 (h9 T.c_TOOLS) aF) ai)))))))))) hL
theorem vf:a8 ["thing"] ["thing"] (aG lQ):=⟨rfl,rfl,rfl,by decide +kernel,rfl,by decide +kernel,by decide +kernel⟩
theorem rG:(["thing", "part"]:List Str).Nodup:=by decide +kernel
theorem lW (T:Tx K mg cs) { aJ gf_is_part gf:Gf} (dq:aP P w K mg base 1 "is_tuple" 3 aJ) (o8:aP P w K mg base 2 "is_part" 1 gf_is_part) (hL:∀ ds,ds.length=1→gf ds≠.no→a7 (fQ cs aJ gf_is_part (ds.map some++List.replicate 0 none))=gf ds):aP P w K mg base 3 "are_parts" 1 gf:=by
  obtain ⟨f,fd,F,b,m⟩:=T.f_are_parts
  exact aP.of (O:=[]) (G:=fQ cs aJ gf_is_part) F vf b m (by decide) (fun cdv A outer s H E hr=>(ar (cF (tY (sv (eu (cN (aC dq hr aI (ae (ah 0) (ae aF (ae (h9 T.c_MOST_PARTS) ai)))))) (oh (eu (cN (uB rfl T.b_all (ae (fq (da (M:=["thing"]) (own:=["part"]) (n0:=1) (cond:=bV) rfl (dS (ah 0)) cE (fun _ _ _ _=>(bQ (i:=1) rG rfl (Or.inl rfl) (.inr rfl))) (fun _ _ _ _=>.nil) (fun σ H Q qz3=>(by obtain ⟨A,δ,R,o⟩:=qz3; exact o H (aT.refl _))) (fun _ _ _ _=>(aC o8 hr gM (ae (ah 1) ai))))) ai))))))) (aB (aU lj)) cm)
      (aB (aU (vB (cj (cj (ah 0) (oY aF)) aF)))))) hL
theorem iM:a8 ["thing", "every", "due", "late"] ["thing"] (aG lS):=⟨rfl,rfl,rfl,by decide +kernel,rfl,by decide +kernel,by decide +kernel⟩
theorem lN (T:Tx K mg cs) { aM gf_are_parts aJ gf:Gf} (cY:aP P w K mg base 1 "is_whole" 3 aM) (lW:aP P w K mg base 3 "are_parts" 1 gf_are_parts) (dq:aP P w K mg base 1 "is_tuple" 3 aJ) (hL:∀ ds,ds.length=1→gf ds≠.no→a7 (d5 cs aM gf_are_parts aJ (ds.map some++List.replicate 3 none))=gf ds):aP P w K mg base 4 "is_errand" 1 gf:=by
  obtain ⟨f,fd,F,b,m⟩:=T.f_is_errand
  exact aP.of (O:=[]) (G:=d5 cs aM gf_are_parts aJ) F iM b m (by decide) (fun cdv A outer s H E hr=>(ar (cF (eu (cN (aC dq hr aI (ae (ah 0) (ae aF (ae aF ai)))))) (aB (aU lj)) cm)
      (ar (bo (i:=1) (cj (ah 0) aF) iM.nd)
      (ar (bo (i:=2) (cj (ah 0) aF) iM.nd)
      (ar (bo (i:=3) (cj (ah 0) aF) iM.nd)
      (ar (cF (eu (cN (aC cY hr aI (ae (ah 1) (ae (h9 T.c_LEAST_EVERY) (ae (h9 T.c_MOST_EVERY) ai)))))) (aB (aU lj)) cm)
      (ar (cF (eu (cN (aC cY hr aI (ae (ah 3) (ae aF (ae (zP rfl T.b_min (ae (h9 T.c_MOST_LATE) (ae (i4 (ah 1) aF) ai))) ai)))))) (aB (aU lj)) cm)
      (aB (aU (vI (aC cY hr aI (ae (ah 2) (ae aF (ae (i4 (ah 1) (ah 3)) ai)))) (rh (aC lW hr aI (ae (cj (ah 0) aF) ai))))))))))))) hL
theorem yM:a8 ["errands"] ["errands"] (aG oZ):=⟨rfl,rfl,rfl,by decide +kernel,rfl,by decide +kernel,by decide +kernel⟩
theorem uK:(["errands", "errand"]:List Str).Nodup:=by decide +kernel
theorem hW (T:Tx K mg cs) { aJ gf_is_errand gf:Gf} (dq:aP P w K mg base 1 "is_tuple" 3 aJ) (lN:aP P w K mg base 4 "is_errand" 1 gf_is_errand) (hL:∀ ds,ds.length=1→gf ds≠.no→a7 (iN cs aJ gf_is_errand (ds.map some++List.replicate 0 none))=gf ds):aP P w K mg base 5 "checked" 1 gf:=by
  obtain ⟨f,fd,F,b,m⟩:=T.f_checked
  exact aP.of (O:=[]) (G:=iN cs aJ gf_is_errand) F yM b m (by decide) (fun cdv A outer s H E hr=>(ar (cF (tY (sv (eu (cN (aC dq hr aI (ae (ah 0) (ae aF (ae (h9 T.c_MOST_ERRANDS) ai)))))) (oh (eu (cN (uB rfl T.b_all (ae (fq (da (M:=["errands"]) (own:=["errand"]) (n0:=1) (cond:=bV) rfl (dS (ah 0)) cE (fun _ _ _ _=>(bQ (i:=1) uK rfl (Or.inl rfl) (.inr rfl))) (fun _ _ _ _=>.nil) (fun σ H Q qz3=>(by obtain ⟨A,δ,R,o⟩:=qz3; exact o H (aT.refl _))) (fun _ _ _ _=>(aC lN hr gM (ae (ah 1) ai))))) ai))))))) (aB (l9 rfl u5 T.e_NoErrands (ae uX ai))) cm)
      (aB (aU (ah 0))))) hL
theorem jT:a8 ["errands", "ranks", "last"] ["errands", "ranks"] (aG iy):=⟨rfl,rfl,rfl,by decide +kernel,rfl,by decide +kernel,by decide +kernel⟩
theorem mZ:(["errands", "ranks", "last", "number"]:List Str).Nodup:=by decide +kernel
theorem iE (T:Tx K mg cs) { aJ aM gf:Gf} (dq:aP P w K mg base 1 "is_tuple" 3 aJ) (cY:aP P w K mg base 1 "is_whole" 3 aM) (hL:∀ ds,ds.length=2→gf ds≠.no→a7 (c7 cs aJ aM (ds.map some++List.replicate 1 none))=gf ds):aP P w K mg base 2 "checked_ranks" 2 gf:=by
  obtain ⟨f,fd,F,b,m⟩:=T.f_checked_ranks
  exact aP.of (O:=[]) (G:=c7 cs aJ aM) F jT b m (by decide) (fun cdv A outer s H E hr=>(ar (bo (i:=2) (i4 (gE T.b_len (ae (ah 0) ai)) aF) jT.nd)
      (ar (cF (tY (sv (eu (cN (aC dq hr aI (ae (ah 1) (ae (gE T.b_len (ae (ah 0) ai)) (ae (gE T.b_len (ae (ah 0) ai)) ai)))))) (oh (eu (cN (uB rfl T.b_all (ae (fq (da (M:=["errands", "ranks", "last"]) (own:=["number"]) (n0:=3) (cond:=bV) rfl (dS (ah 1)) cE (fun _ _ _ _=>(bQ (i:=3) mZ rfl (Or.inl rfl) (.inr rfl))) (fun _ _ _ _=>.nil) (fun σ H Q qz3=>(by obtain ⟨A,δ,R,o⟩:=qz3; exact o H (aT.refl _))) (fun _ _ _ _=>(aC cY hr gM (ae (ah 3) (ae aF (ae (ah 2) ai))))))) ai))))))) (aB (l9 rfl u5 T.e_NoRanks (ae uX ai))) cm)
      (ar (cF (Fe (Ak rfl T.b_set T.b_len (ae (ah 1) ai)) (gE T.b_len (ae (ah 1) ai))) (aB (l9 rfl u5 T.e_NoRanks (ae uX ai))) cm)
      (aB (aU (ah 1))))))) hL
theorem oC:a8 ["errands", "number"] ["errands", "number"] (aG gY):=⟨rfl,rfl,rfl,by decide +kernel,rfl,by decide +kernel,by decide +kernel⟩
theorem hV (T:Tx K mg cs) { aM gf:Gf} (cY:aP P w K mg base 1 "is_whole" 3 aM) (hL:∀ ds,ds.length=2→gf ds≠.no→a7 (dZ cs aM (ds.map some++List.replicate 0 none))=gf ds):aP P w K mg base 2 "checked_number" 2 gf:=by
  obtain ⟨f,fd,F,b,m⟩:=T.f_checked_number
  exact aP.of (O:=[]) (G:=dZ cs aM) F oC b m (by decide) (fun cdv A outer s H E hr=>(ar (cF (eu (cN (aC cY hr aI (ae (ah 1) (ae aF (ae (i4 (gE T.b_len (ae (ah 0) ai)) aF) ai)))))) (aB (l9 rfl u5 T.e_NoErrand (ae uX ai))) cm)
      (aB (aU (ah 1))))) hL
theorem sI:a8 ["errands", "ranks", "number"] ["errands", "ranks", "number"] (aG jH):=⟨rfl,rfl,rfl,by decide +kernel,rfl,by decide +kernel,by decide +kernel⟩
theorem dQ (T:Tx K mg cs) { bz bF aX gf:Gf} (hV:aP P w K mg base 2 "checked_number" 2 bz) (iE:aP P w K mg base 2 "checked_ranks" 2 bF) (hW:aP P w K mg base 5 "checked" 1 aX) (hL:∀ ds,ds.length=3→gf ds≠.no→a7 (fw cs bz bF aX (ds.map some++List.replicate 0 none))=gf ds):aP P w K mg base 6 "check_place" 3 gf:=by
  obtain ⟨f,fd,F,b,m⟩:=T.f_check_place
  exact aP.of (O:=[]) (G:=fw cs bz bF aX) F sI b m (by decide) (fun cdv A outer s H E hr=>(ar (ie (aC hW hr aI (ae (ah 0) ai)))
      (ar (ie (aC iE hr aI (ae (ah 0) (ae (ah 1) ai))))
      (aB (ie (aC hV hr aI (ae (ah 0) (ae (ah 2) ai)))))))) hL
theorem yE:a8 ["errand"] ["errand"] (aG pk):=⟨rfl,rfl,rfl,by decide +kernel,rfl,by decide +kernel,by decide +kernel⟩
theorem uA:(["errand", "part"]:List Str).Nodup:=by decide +kernel
theorem mq (T:Tx K mg cs) { gf:Gf} (hL:∀ ds,ds.length=1→gf ds≠.no→a7 (pD cs (ds.map some++List.replicate 0 none))=gf ds):aP P w K mg base 1 "work_of" 1 gf:=by
  obtain ⟨f,fd,F,b,m⟩:=T.f_work_of
  exact aP.of (O:=[]) (G:=pD cs) F yE b m (by decide) (fun cdv A outer s H E hr=>(aB (aU (FI rfl T.b_sum (ae (fq (da (M:=["errand"]) (own:=["part"]) (n0:=1) (cond:=bV) rfl (dS (cj (ah 0) aF)) cE (fun _ _ _ _=>(bQ (i:=1) uA rfl (Or.inl rfl) (.inr rfl))) (fun _ _ _ _=>.nil) (fun σ H Q qz3=>(by obtain ⟨A,δ,R,o⟩:=qz3; exact o H (aT.refl _))) (fun _ _ _ _=>(cj (ah 1) aF)))) ai))))) hL
theorem xy:a8 ["errand", "tool"] ["errand", "tool"] (aG nk):=⟨rfl,rfl,rfl,by decide +kernel,rfl,by decide +kernel,by decide +kernel⟩
theorem tH:(["errand", "tool", "part"]:List Str).Nodup:=by decide +kernel
theorem g9 (T:Tx K mg cs) { gf:Gf} (hL:∀ ds,ds.length=2→gf ds≠.no→a7 (jj cs (ds.map some++List.replicate 0 none))=gf ds):aP P w K mg base 1 "has_tool" 2 gf:=by
  obtain ⟨f,fd,F,b,m⟩:=T.f_has_tool
  exact aP.of (O:=[]) (G:=jj cs) F xy b m (by decide) (fun cdv A outer s H E hr=>(aB (aU (G0 (ah 1) (fq (da (M:=["errand", "tool"]) (own:=["part"]) (n0:=2) (cond:=bV) rfl (dS (cj (ah 0) aF)) cE (fun _ _ _ _=>(bQ (i:=2) tH rfl (Or.inl rfl) (.inr rfl))) (fun _ _ _ _=>.nil) (fun σ H Q qz3=>(by obtain ⟨A,δ,R,o⟩:=qz3; exact o H (aT.refl _))) (fun _ _ _ _=>(cj (ah 2) aF)))))))) hL
theorem oV:a8 ["errands", "ranks", "tool", "place", "number"] ["errands", "ranks", "tool"] (aG sg):=⟨rfl,rfl,rfl,by decide +kernel,rfl,by decide +kernel,by decide +kernel⟩
theorem sj (T:Tx K mg cs) { bc gf:Gf} (g9:aP P w K mg base 1 "has_tool" 2 bc) (hL:∀ ds,ds.length=3→gf ds≠.no→a7 (lR cs bc (ds.map some++List.replicate 2 none))=gf ds):aP P w K mg base 2 "height" 3 gf:=by
  obtain ⟨f,fd,F,b,m⟩:=T.f_height
  exact aP.of (O:=[]) (G:=lR cs bc) F oV b m (by decide) (fun cdv A outer s H E hr=>(ar (fG PassesOwn.leaving rfl (nV T.b_enumerate (ae (ah 1) ai)) (qp (is:=[3,4]) (by decide)) (vj rfl (ip (bQ (i:=3) oV.nd rfl (by first | exact Or.inl rfl | exact Or.inr rfl)) (ip (bQ (i:=4) oV.nd rfl (by first | exact Or.inl rfl | exact Or.inr rfl)) qg))) (aB (cF (cN (aC g9 hr aI (ae (cj (ah 0) (ah 4)) (ae (ah 2) ai)))) (aB (aU (ah 3))) cm)))
      (aB (aU iA)))) hL
theorem tq:a8 ["errands", "ranks"] ["errands", "ranks"] (aG kn):=⟨rfl,rfl,rfl,by decide +kernel,rfl,by decide +kernel,by decide +kernel⟩
theorem qc:(["errands", "ranks", "tool"]:List Str).Nodup:=by decide +kernel
theorem kx (T:Tx K mg cs) { cV gf:Gf} (sj:aP P w K mg base 2 "height" 3 cV) (hL:∀ ds,ds.length=2→gf ds≠.no→a7 (fY cs cV (ds.map some++List.replicate 0 none))=gf ds):aP P w K mg base 3 "heights_of" 2 gf:=by
  obtain ⟨f,fd,F,b,m⟩:=T.f_heights_of
  exact aP.of (O:=[]) (G:=fY cs cV) F tq b m (by decide) (fun cdv A outer s H E hr=>(aB (aU (fq (da (M:=["errands", "ranks"]) (own:=["tool"]) (n0:=2) (cond:=bV) rfl (d8 T.b_range (ae (h9 T.c_TOOLS) ai)) cE (fun _ _ _ _=>(bQ (i:=2) qc rfl (Or.inl rfl) (.inr rfl))) (fun _ _ _ _=>.nil) (fun σ H Q qz3=>(by obtain ⟨A,δ,R,o⟩:=qz3; exact o H (aT.refl _))) (fun _ _ _ _=>(aC sj hr gM (ae (ah 0) (ae (ah 1) (ae (ah 2) ai)))))))))) hL
theorem eU:a8 ["errands", "ranks", "number", "place", "tops", "found", "lower", "part", "pair"] ["errands", "ranks", "number"] (aG nj):=⟨rfl,rfl,rfl,by decide +kernel,rfl,by decide +kernel,by decide +kernel⟩
theorem mR (T:Tx K mg cs) { b4 gf:Gf} (kx:aP P w K mg base 3 "heights_of" 2 b4) (oU:C4 P w K mg base 1 "Holding" cs.Holding ["number", "part", "tool", "times"]) (hL:∀ ds,ds.length=3→gf ds≠.no→a7 (i6 cs b4 (ds.map some++List.replicate 6 none))=gf ds):aP P w K mg base 4 "holdings" 3 gf:=by
  obtain ⟨f,fd,F,b,m⟩:=T.f_holdings
  exact aP.of (O:=[5]) (G:=i6 cs b4) F eU b m (by decide) (fun cdv A outer s H E hr=>(ar (bo (i:=3) (nY (ah 1) (ah 2)) eU.nd)
      (ar (bo (i:=4) (aC kx hr aI (ae (ah 0) (ae (ah 1) ai))) eU.nd)
      (ar (l7 (i:=5) (nT ai) eU.nd)
      (ar (fG PassesOwn.leaving rfl (dS (gJ (ah 1) (fW (bZ (ah 3) aF)) gz)) (ij (i:=6) (by decide)) (bQ (i:=6) eU.nd rfl (by first | exact Or.inl rfl | exact Or.inr rfl)) (aB (fG PassesOwn.leaving rfl (nV T.b_enumerate (ae (cj (cj (ah 0) (ah 6)) aF) ai)) (qp (is:=[7,8]) (by decide)) (vj rfl (ip (bQ (i:=7) eU.nd rfl (by first | exact Or.inl rfl | exact Or.inr rfl)) (ip (bQ (i:=8) eU.nd rfl (by first | exact Or.inl rfl | exact Or.inr rfl)) qg))) (aB (cF (tY (Dz (nI (cj (ah 8) aF)) (Cm (BD (cj (ah 4) (cj (ah 8) aF)) (ah 3))))) (aB (qi (i:=5) (DS oU hr aI (ae (ah 6) (ae (ah 7) (ae (cj (ah 8) aF) (ae (i4 (cj (ah 8) aF) aF) ai))))))) cm)))))
      (aB (aU (ah 5)))))))) hL
theorem p6:a8 ["errands", "ranks", "number"] ["errands", "ranks", "number"] (aG iV):=⟨rfl,rfl,rfl,by decide +kernel,rfl,by decide +kernel,by decide +kernel⟩
theorem oA:(["errands", "ranks", "number", "holding"]:List Str).Nodup:=by decide +kernel
theorem eS (T:Tx K mg cs) { cw gf:Gf} (mR:aP P w K mg base 4 "holdings" 3 cw) (hL:∀ ds,ds.length=3→gf ds≠.no→a7 (eP cs cw (ds.map some++List.replicate 0 none))=gf ds):aP P w K mg base 5 "hold_by_high" 3 gf:=by
  obtain ⟨f,fd,F,b,m⟩:=T.f_hold_by_high
  exact aP.of (O:=[]) (G:=eP cs cw) F p6 b m (by decide) (fun cdv A outer s H E hr=>(aB (aU (Dt rfl T.b_max (fq (da (M:=["errands", "ranks", "number"]) (own:=["holding"]) (n0:=3) (cond:=bV) rfl (dS (aC mR hr aI (ae (ah 0) (ae (ah 1) (ae (ah 2) ai))))) cE (fun _ _ _ _=>(bQ (i:=3) oA rfl (Or.inl rfl) (.inr rfl))) (fun _ _ _ _=>.nil) (fun σ H Q qz3=>(by obtain ⟨A,δ,R,o⟩:=qz3; exact o H (aT.refl _))) (fun _ _ _ _=>(Gz T.cl_Holding T.na_Holding_times (ah 3))))) aF)))) hL
theorem sU:a8 ["times", "every"] ["times", "every"] (aG kO):=⟨rfl,rfl,rfl,by decide +kernel,rfl,by decide +kernel,by decide +kernel⟩
theorem km (T:Tx K mg cs) { gf:Gf} (hL:∀ ds,ds.length=2→gf ds≠.no→a7 (fZ cs (ds.map some++List.replicate 0 none))=gf ds):aP P w K mg base 1 "rounded_up" 2 gf:=by
  obtain ⟨f,fd,F,b,m⟩:=T.f_rounded_up
  exact aP.of (O:=[]) (G:=fZ cs) F sU b m (by decide) (fun cdv A outer s H E hr=>(aB (aU (C8 (i4 (bZ (ah 0) (ah 1)) aF) (ah 1))))) hL
theorem n5:a8 ["errands", "ranks", "number", "held_up", "times", "total", "higher", "errand"] ["errands", "ranks", "number", "held_up", "times"] (aG xP):=⟨rfl,rfl,rfl,by decide +kernel,rfl,by decide +kernel,by decide +kernel⟩
theorem vP (T:Tx K mg cs) { gf_work_of bN gf:Gf} (mq:aP P w K mg base 1 "work_of" 1 gf_work_of) (km:aP P w K mg base 1 "rounded_up" 2 bN) (hL:∀ ds,ds.length=5→gf ds≠.no→a7 (qU cs gf_work_of bN (ds.map some++List.replicate 3 none))=gf ds):aP P w K mg base 2 "need" 5 gf:=by
  obtain ⟨f,fd,F,b,m⟩:=T.f_need
  exact aP.of (O:=[]) (G:=qU cs gf_work_of bN) F n5 b m (by decide) (fun cdv A outer s H E hr=>(ar (bo (i:=5) (bZ (ah 3) (aC mq hr aI (ae (cj (ah 0) (ah 2)) ai))) n5.nd)
      (ar (fG PassesOwn.leaving rfl (dS (gJ (ah 1) gz (fW (nY (ah 1) (ah 2))))) (ij (i:=6) (by decide)) (bQ (i:=6) n5.nd rfl (by first | exact Or.inl rfl | exact Or.inr rfl)) (ar (bo (i:=7) (cj (ah 0) (ah 6)) n5.nd)
      (aB (zx (i:=5) (yT (aC mq hr aI (ae (ah 7) ai)) (aC km hr aI (ae (bZ (ah 4) (cj (ah 7) aF)) (ae (cj (ah 7) aF) ai)))) n5.nd))))
      (aB (aU (ah 5)))))) hL
theorem e9:a8 ["errands", "ranks", "number", "held_up", "most", "found", "level", "following"] ["errands", "ranks", "number", "held_up"] (aG lO):=⟨rfl,rfl,rfl,by decide +kernel,rfl,by decide +kernel,by decide +kernel⟩
theorem lC (T:Tx K mg cs) { cW gf:Gf} (vP:aP P w K mg base 2 "need" 5 cW) (hL:∀ ds,ds.length=4→gf ds≠.no→a7 (iq cs cW (ds.map some++List.replicate 4 none))=gf ds):aP P w K mg base 3 "levels_by" 4 gf:=by
  obtain ⟨f,fd,F,b,m⟩:=T.f_levels_by
  exact aP.of (O:=[5]) (G:=iq cs cW) F e9 b m (by decide) (fun cdv A outer s H E hr=>(ar (bo (i:=4) (i4 (cj (cj (ah 0) (ah 2)) aF) (cj (cj (ah 0) (ah 2)) aF)) e9.nd)
      (ar (l7 (i:=5) (nT ai) e9.nd)
      (ar (bo (i:=6) (aC vP hr aI (ae (ah 0) (ae (ah 1) (ae (ah 2) (ae (ah 3) (ae aF ai)))))) e9.nd)
      (ar (oK 1000000 PassesOwn.leaving (BD (ah 6) (ah 4)) (ar (qi (i:=5) (ah 6))
      (ar (bo (i:=7) (aC vP hr aI (ae (ah 0) (ae (ah 1) (ae (ah 2) (ae (ah 3) (ae (ah 6) ai)))))) e9.nd)
      (ar (cF (rq hr (ah 7) (ah 6)) (aB (aU (ah 5))) cm)
      (aB (bo (i:=6) (ah 7) e9.nd))))))
      (aB (aU iA))))))) hL
theorem mO:a8 ["errands", "ranks", "number", "held_up", "found"] ["errands", "ranks", "number", "held_up"] (aG kR):=⟨rfl,rfl,rfl,by decide +kernel,rfl,by decide +kernel,by decide +kernel⟩
theorem kF (T:Tx K mg cs) { cu gf:Gf} (lC:aP P w K mg base 3 "levels_by" 4 cu) (hL:∀ ds,ds.length=4→gf ds≠.no→a7 (fe cs cu (ds.map some++List.replicate 1 none))=gf ds):aP P w K mg base 4 "longest_by" 4 gf:=by
  obtain ⟨f,fd,F,b,m⟩:=T.f_longest_by
  exact aP.of (O:=[]) (G:=fe cs cu) F mO b m (by decide) (fun cdv A outer s H E hr=>(ar (bo (i:=4) (aC lC hr aI (ae (ah 0) (ae (ah 1) (ae (ah 2) (ae (ah 3) ai))))) mO.nd)
      (aB (aU (EY (Ey (ah 4)) iA (cj (ah 4) (oY aF))))))) hL
theorem nv:a8 ["errands", "ranks", "number"] ["errands", "ranks", "number"] (aG gx):=⟨rfl,rfl,rfl,by decide +kernel,rfl,by decide +kernel,by decide +kernel⟩
theorem dM (T:Tx K mg cs) { a6 cf gf:Gf} (eS:aP P w K mg base 5 "hold_by_high" 3 a6) (kF:aP P w K mg base 4 "longest_by" 4 cf) (hL:∀ ds,ds.length=3→gf ds≠.no→a7 (dJ cs a6 cf (ds.map some++List.replicate 0 none))=gf ds):aP P w K mg base 6 "longest_by_high" 3 gf:=by
  obtain ⟨f,fd,F,b,m⟩:=T.f_longest_by_high
  exact aP.of (O:=[]) (G:=dJ cs a6 cf) F nv b m (by decide) (fun cdv A outer s H E hr=>(aB (aU (aC kF hr aI (ae (ah 0) (ae (ah 1) (ae (ah 2) (ae (aC eS hr aI (ae (ah 0) (ae (ah 1) (ae (ah 2) ai)))) ai)))))))) hL
theorem pO:a8 ["errands", "ranks", "number", "room", "answer"] ["errands", "ranks", "number", "room"] (aG mU):=⟨rfl,rfl,rfl,by decide +kernel,rfl,by decide +kernel,by decide +kernel⟩
theorem jk (T:Tx K mg cs) { aO gf:Gf} (dM:aP P w K mg base 6 "longest_by_high" 3 aO) (hL:∀ ds,ds.length=4→gf ds≠.no→a7 (gU cs aO (ds.map some++List.replicate 1 none))=gf ds):aP P w K mg base 7 "has_room" 4 gf:=by
  obtain ⟨f,fd,F,b,m⟩:=T.f_has_room
  exact aP.of (O:=[]) (G:=gU cs aO) F pO b m (by decide) (fun cdv A outer s H E hr=>(ar (bo (i:=4) (aC dM hr aI (ae (ah 0) (ae (ah 1) (ae (ah 2) ai)))) pO.nd)
      (aB (aU (vI (zK (ah 4)) (rh (Hz (bZ (ah 4) (ah 3)) (cj (cj (ah 0) (ah 2)) aF)))))))) hL
theorem sZ:a8 ["errands", "ranks", "number"] ["errands", "ranks", "number"] (aG kz):=⟨rfl,rfl,rfl,by decide +kernel,rfl,by decide +kernel,by decide +kernel⟩
theorem kE (T:Tx K mg cs) { bE gf:Gf} (jk:aP P w K mg base 7 "has_room" 4 bE) (hL:∀ ds,ds.length=3→gf ds≠.no→a7 (f9 cs bE (ds.map some++List.replicate 0 none))=gf ds):aP P w K mg base 8 "is_in_time" 3 gf:=by
  obtain ⟨f,fd,F,b,m⟩:=T.f_is_in_time
  exact aP.of (O:=[]) (G:=f9 cs bE) F sZ b m (by decide) (fun cdv A outer s H E hr=>(aB (aU (aC jk hr aI (ae (ah 0) (ae (ah 1) (ae (ah 2) (ae aF ai)))))))) hL
theorem DY:a8 ["errands", "ranks", "number"] ["errands", "ranks", "number"] (aG yI):=⟨rfl,rfl,rfl,by decide +kernel,rfl,by decide +kernel,by decide +kernel⟩
theorem uG (T:Tx K mg cs) { a6 aL gf:Gf} (eS:aP P w K mg base 5 "hold_by_high" 3 a6) (dQ:aP P w K mg base 6 "check_place" 3 aL) (hL:∀ ds,ds.length=3→gf ds≠.no→a7 (rL cs a6 aL (ds.map some++List.replicate 0 none))=gf ds):aP P w K mg base 7 "hold" 3 gf:=by
  obtain ⟨f,fd,F,b,m⟩:=T.f_hold
  exact aP.of (O:=[]) (G:=rL cs a6 aL) F DY b m (by decide) (fun cdv A outer s H E hr=>(ar (ie (aC dQ hr aI (ae (ah 0) (ae (ah 1) (ae (ah 2) ai)))))
      (aB (aU (aC eS hr aI (ae (ah 0) (ae (ah 1) (ae (ah 2) ai)))))))) hL
theorem yZ:a8 ["errands", "ranks", "number"] ["errands", "ranks", "number"] (aG oH):=⟨rfl,rfl,rfl,by decide +kernel,rfl,by decide +kernel,by decide +kernel⟩
theorem mz (T:Tx K mg cs) { aO aL gf:Gf} (dM:aP P w K mg base 6 "longest_by_high" 3 aO) (dQ:aP P w K mg base 6 "check_place" 3 aL) (hL:∀ ds,ds.length=3→gf ds≠.no→a7 (jV cs aO aL (ds.map some++List.replicate 0 none))=gf ds):aP P w K mg base 7 "longest" 3 gf:=by
  obtain ⟨f,fd,F,b,m⟩:=T.f_longest
  exact aP.of (O:=[]) (G:=jV cs aO aL) F yZ b m (by decide) (fun cdv A outer s H E hr=>(ar (ie (aC dQ hr aI (ae (ah 0) (ae (ah 1) (ae (ah 2) ai)))))
      (aB (aU (aC dM hr aI (ae (ah 0) (ae (ah 1) (ae (ah 2) ai)))))))) hL
theorem kT:a8 ["errands", "some", "number", "higher", "lower"] ["errands", "some", "number"] (aG lH):=⟨rfl,rfl,rfl,by decide +kernel,rfl,by decide +kernel,by decide +kernel⟩
theorem lY:(["errands", "some", "number", "higher", "lower", "other"]:List Str).Nodup:=by decide +kernel
theorem lI (T:Tx K mg cs) { gf:Gf} (hL:∀ ds,ds.length=3→gf ds≠.no→a7 (ik cs (ds.map some++List.replicate 2 none))=gf ds):aP P w K mg base 1 "as_lowest" 3 gf:=by
  obtain ⟨f,fd,F,b,m⟩:=T.f_as_lowest
  exact aP.of (O:=[]) (G:=ik cs) F kT b m (by decide) (fun cdv A outer s H E hr=>(ar (xJ (i:=3) (wZ (i:=3) (M:=["errands", "some", "number", "higher", "lower"]) (own:=["other"]) (n0:=5) (cond:=(gT (g2 dNe (ag 5) (ag 2)))) rfl kT.nd (dS (ah 1)) cE (fun _ _ _ _=>(bQ (i:=5) lY rfl (Or.inl rfl) (.inr rfl))) (fun _ _ _ _=>(vz (sA hr (ah 5) (ah 2)))) (fun _ _ _ h=>h) (fun _ _ _ _=>(ah 5))))
      (ar (xJ (i:=4) (wZ (i:=4) (M:=["errands", "some", "number", "higher", "lower"]) (own:=["other"]) (n0:=5) (cond:=(gT (g2 (lP true) (ag 5) (ag 1)))) rfl kT.nd (d8 T.b_range (ae (gE T.b_len (ae (ah 0) ai)) ai)) cE (fun _ _ _ _=>(bQ (i:=5) lY rfl (Or.inl rfl) (.inr rfl))) (fun _ _ _ _=>(vz (t7 (ah 5) (ah 1)))) (fun _ _ _ h=>h) (fun _ _ _ _=>(ah 5))))
      (aB (aU (fM T.b_tuple (ae (bZ (bZ (ah 3) (lh (ae (ah 2) ai))) (ah 4)) ai))))))) hL
theorem tf:a8 ["errands", "placed"] ["errands", "placed"] (aG kG):=⟨rfl,rfl,rfl,by decide +kernel,rfl,by decide +kernel,by decide +kernel⟩
theorem p0:(["errands", "placed", "number"]:List Str).Nodup:=by decide +kernel
theorem kQ (T:Tx K mg cs) { gf:Gf} (hL:∀ ds,ds.length=2→gf ds≠.no→a7 (gB cs (ds.map some++List.replicate 0 none))=gf ds):aP P w K mg base 1 "not_placed" 2 gf:=by
  obtain ⟨f,fd,F,b,m⟩:=T.f_not_placed
  exact aP.of (O:=[]) (G:=gB cs) F tf b m (by decide) (fun cdv A outer s H E hr=>(aB (aU (fq (da (M:=["errands", "placed"]) (own:=["number"]) (n0:=2) (cond:=(gT (g2 (lP true) (ag 2) (ag 1)))) rfl (d8 T.b_range (ae (gE T.b_len (ae (ah 0) ai)) ai)) cE (fun _ _ _ _=>(bQ (i:=2) p0 rfl (Or.inl rfl) (.inr rfl))) (fun _ _ _ _=>(vz (t7 (ah 2) (ah 1)))) (fun _ _ _ h=>h) (fun _ _ _ _=>(ah 2))))))) hL
theorem fm:a8 ["errands", "placed", "room", "left", "number"] ["errands", "placed", "room"] (aG fL):=⟨rfl,rfl,rfl,by decide +kernel,rfl,by decide +kernel,by decide +kernel⟩
theorem ee (T:Tx K mg cs) { bW bE bO gf:Gf} (lI:aP P w K mg base 1 "as_lowest" 3 bW) (jk:aP P w K mg base 7 "has_room" 4 bE) (kQ:aP P w K mg base 1 "not_placed" 2 bO) (hL:∀ ds,ds.length=3→gf ds≠.no→a7 (dj cs bW bE bO (ds.map some++List.replicate 2 none))=gf ds):aP P w K mg base 8 "following_lowest" 3 gf:=by
  obtain ⟨f,fd,F,b,m⟩:=T.f_following_lowest
  exact aP.of (O:=[]) (G:=dj cs bW bE bO) F fm b m (by decide) (fun cdv A outer s H E hr=>(ar (bo (i:=3) (aC kQ hr aI (ae (ah 0) (ae (ah 1) ai))) fm.nd)
      (ar (fG PassesOwn.leaving rfl (dS (ah 3)) (ij (i:=4) (by decide)) (bQ (i:=4) fm.nd rfl (by first | exact Or.inl rfl | exact Or.inr rfl)) (aB (cF (cN (aC jk hr aI (ae (ah 0) (ae (aC lI hr aI (ae (ah 0) (ae (ah 3) (ae (ah 4) ai)))) (ae (ah 4) (ae (ah 2) ai)))))) (aB (aU (ah 4))) cm)))
      (aB (aU iA))))) hL
theorem cR:a8 ["errands", "room", "placed", "number"] ["errands", "room"] (aG fo):=⟨rfl,rfl,rfl,by decide +kernel,rfl,by decide +kernel,by decide +kernel⟩
theorem fk (T:Tx K mg cs) { aV gf:Gf} (ee:aP P w K mg base 8 "following_lowest" 3 aV) (hL:∀ ds,ds.length=2→gf ds≠.no→a7 (de cs aV (ds.map some++List.replicate 2 none))=gf ds):aP P w K mg base 9 "placed_from_below" 2 gf:=by
  obtain ⟨f,fd,F,b,m⟩:=T.f_placed_from_below
  exact aP.of (O:=[]) (G:=de cs aV) F cR b m (by decide) (fun cdv A outer s H E hr=>(ar (bo (i:=2) (jM ai) cR.nd)
      (ar (bo (i:=3) (aC ee hr aI (ae (ah 0) (ae (ah 2) (ae (ah 1) ai)))) cR.nd)
      (ar (oK 1000000 PassesOwn.leaving (nI (ah 3)) (ar (bo (i:=2) (bZ (jM (ae (ah 3) ai)) (ah 2)) cR.nd)
      (aB (bo (i:=3) (aC ee hr aI (ae (ah 0) (ae (ah 2) (ae (ah 1) ai)))) cR.nd))))
      (aB (aU (ah 2))))))) hL
theorem jc:a8 ["errands", "room", "placed"] ["errands", "room"] (aG gu):=⟨rfl,rfl,rfl,by decide +kernel,rfl,by decide +kernel,by decide +kernel⟩
theorem dF (T:Tx K mg cs) { ba gf:Gf} (fk:aP P w K mg base 9 "placed_from_below" 2 ba) (hL:∀ ds,ds.length=2→gf ds≠.no→a7 (dE cs ba (ds.map some++List.replicate 1 none))=gf ds):aP P w K mg base 10 "ranks_with_room" 2 gf:=by
  obtain ⟨f,fd,F,b,m⟩:=T.f_ranks_with_room
  exact aP.of (O:=[]) (G:=dE cs ba) F jc b m (by decide) (fun cdv A outer s H E hr=>(ar (bo (i:=2) (aC fk hr aI (ae (ah 0) (ae (ah 1) ai))) jc.nd)
      (aB (aU (EY (rq hr (gE T.b_len (ae (ah 2) ai)) (gE T.b_len (ae (ah 0) ai))) (ah 2) iA))))) hL
theorem yB:a8 ["errands"] ["errands"] (aG oO):=⟨rfl,rfl,rfl,by decide +kernel,rfl,by decide +kernel,by decide +kernel⟩
theorem mx (T:Tx K mg cs) { aK aX gf:Gf} (dF:aP P w K mg base 10 "ranks_with_room" 2 aK) (hW:aP P w K mg base 5 "checked" 1 aX) (hL:∀ ds,ds.length=1→gf ds≠.no→a7 (gX cs aK aX (ds.map some++List.replicate 0 none))=gf ds):aP P w K mg base 11 "fitting" 1 gf:=by
  obtain ⟨f,fd,F,b,m⟩:=T.f_fitting
  exact aP.of (O:=[]) (G:=gX cs aK aX) F yB b m (by decide) (fun cdv A outer s H E hr=>(ar (ie (aC hW hr aI (ae (ah 0) ai)))
      (aB (aU (aC dF hr aI (ae (ah 0) (ae aF ai))))))) hL
theorem AL:a8 ["errands", "ranks"] ["errands", "ranks"] (aG qW):=⟨rfl,rfl,rfl,by decide +kernel,rfl,by decide +kernel,by decide +kernel⟩
theorem xf:(["errands", "ranks", "number"]:List Str).Nodup:=by decide +kernel
theorem oj (T:Tx K mg cs) { b5 gf:Gf} (kE:aP P w K mg base 8 "is_in_time" 3 b5) (hL:∀ ds,ds.length=2→gf ds≠.no→a7 (lF cs b5 (ds.map some++List.replicate 0 none))=gf ds):aP P w K mg base 9 "do_fit" 2 gf:=by
  obtain ⟨f,fd,F,b,m⟩:=T.f_do_fit
  exact aP.of (O:=[]) (G:=lF cs b5) F AL b m (by decide) (fun cdv A outer s H E hr=>(aB (aU (uB rfl T.b_all (ae (fq (da (M:=["errands", "ranks"]) (own:=["number"]) (n0:=2) (cond:=bV) rfl (dS (ah 1)) cE (fun _ _ _ _=>(bQ (i:=2) xf rfl (Or.inl rfl) (.inr rfl))) (fun _ _ _ _=>.nil) (fun σ H Q qz3=>(by obtain ⟨A,δ,R,o⟩:=qz3; exact o H (aT.refl _))) (fun _ _ _ _=>(aC kE hr gM (ae (ah 0) (ae (ah 1) (ae (ah 2) ai))))))) ai))))) hL
theorem sF:a8 ["errands", "number", "errand"] ["errands", "number", "errand"] (aG jE):=⟨rfl,rfl,rfl,by decide +kernel,rfl,by decide +kernel,by decide +kernel⟩
theorem jG (T:Tx K mg cs) { gf:Gf} (hL:∀ ds,ds.length=3→gf ds≠.no→a7 (fA cs (ds.map some++List.replicate 0 none))=gf ds):aP P w K mg base 1 "with_errand" 3 gf:=by
  obtain ⟨f,fd,F,b,m⟩:=T.f_with_errand
  exact aP.of (O:=[]) (G:=fA cs) F sF b m (by decide) (fun cdv A outer s H E hr=>(aB (aU (bZ (bZ (gJ (ah 0) gz (fW (ah 1))) (jM (ae (ah 2) ai))) (gJ (ah 0) (fW (bZ (ah 1) aF)) gz))))) hL
theorem eB:a8 ["errands", "number", "times", "errand", "last", "parts"] ["errands", "number", "times"] (aG gy):=⟨rfl,rfl,rfl,by decide +kernel,rfl,by decide +kernel,by decide +kernel⟩
theorem gj (T:Tx K mg cs) { bL gf:Gf} (jG:aP P w K mg base 1 "with_errand" 3 bL) (hL:∀ ds,ds.length=3→gf ds≠.no→a7 (dD cs bL (ds.map some++List.replicate 3 none))=gf ds):aP P w K mg base 2 "with_longer_end" 3 gf:=by
  obtain ⟨f,fd,F,b,m⟩:=T.f_with_longer_end
  exact aP.of (O:=[]) (G:=dD cs bL) F eB b m (by decide) (fun cdv A outer s H E hr=>(ar (bo (i:=3) (cj (ah 0) (ah 1)) eB.nd)
      (ar (bo (i:=4) (cj (cj (ah 3) aF) (oY aF)) eB.nd)
      (ar (bo (i:=5) (bZ (gJ (cj (ah 3) aF) gz (fW (oY aF))) (jM (ae (jM (ae (bZ (cj (ah 4) aF) (ah 2)) (ae (cj (ah 4) aF) ai))) ai))) eB.nd)
      (aB (aU (aC jG hr aI (ae (ah 0) (ae (ah 1) (ae (bZ (gJ (ah 3) gz (fW aF)) (jM (ae (ah 5) ai))) ai)))))))))) hL
theorem rE:a8 ["errands", "ranks", "number", "times"] ["errands", "ranks", "number"] (aG vZ):=⟨rfl,rfl,rfl,by decide +kernel,rfl,by decide +kernel,by decide +kernel⟩
theorem qh (T:Tx K mg cs) { bp cH aL gf:Gf} (gj:aP P w K mg base 2 "with_longer_end" 3 bp) (oj:aP P w K mg base 9 "do_fit" 2 cH) (dQ:aP P w K mg base 6 "check_place" 3 aL) (hL:∀ ds,ds.length=3→gf ds≠.no→a7 (nZ cs bp cH aL (ds.map some++List.replicate 1 none))=gf ds):aP P w K mg base 10 "spare" 3 gf:=by
  obtain ⟨f,fd,F,b,m⟩:=T.f_spare
  exact aP.of (O:=[]) (G:=nZ cs bp cH aL) F rE b m (by decide) (fun cdv A outer s H E hr=>(ar (ie (aC dQ hr aI (ae (ah 0) (ae (ah 1) (ae (ah 2) ai)))))
      (ar (cF (eu (cN (aC oj hr aI (ae (ah 0) (ae (ah 1) ai))))) (aB (aU iA)) cm)
      (ar (bo (i:=3) aF rE.nd)
      (ar (oK 1000000 PassesOwn.leaving (cN (aC oj hr aI (ae (aC gj hr aI (ae (ah 0) (ae (ah 2) (ae (bZ (ah 3) aF) ai)))) (ae (ah 1) ai)))) (aB (zx (i:=3) aF rE.nd)))
      (aB (aU (ah 3)))))))) hL
theorem p8:a8 ["errand", "other"] ["errand", "other"] (aG iZ):=⟨rfl,rfl,rfl,by decide +kernel,rfl,by decide +kernel,by decide +kernel⟩
theorem nC:(["errand", "other", "tool"]:List Str).Nodup:=by decide +kernel
theorem iW (T:Tx K mg cs) { bc gf:Gf} (g9:aP P w K mg base 1 "has_tool" 2 bc) (hL:∀ ds,ds.length=2→gf ds≠.no→a7 (eZ cs bc (ds.map some++List.replicate 0 none))=gf ds):aP P w K mg base 2 "share_a_tool" 2 gf:=by
  obtain ⟨f,fd,F,b,m⟩:=T.f_share_a_tool
  exact aP.of (O:=[]) (G:=eZ cs bc) F p8 b m (by decide) (fun cdv A outer s H E hr=>(aB (aU (B7 rfl T.b_any (ae (fq (da (M:=["errand", "other"]) (own:=["tool"]) (n0:=2) (cond:=bV) rfl (d8 T.b_range (ae (h9 T.c_TOOLS) ai)) cE (fun _ _ _ _=>(bQ (i:=2) nC rfl (Or.inl rfl) (.inr rfl))) (fun _ _ _ _=>.nil) (fun σ H Q qz3=>(by obtain ⟨A,δ,R,o⟩:=qz3; exact o H (aT.refl _))) (fun _ _ _ _=>(vI (aC g9 hr gM (ae (ah 0) (ae (ah 2) ai))) (rh (aC g9 hr gM (ae (ah 1) (ae (ah 2) ai)))))))) ai))))) hL
theorem eF:a8 ["errands", "bundles", "number", "errand", "joined", "apart", "bundle"] ["errands"] (aG pA):=⟨rfl,rfl,rfl,by decide +kernel,rfl,by decide +kernel,by decide +kernel⟩
theorem vY:(["errands", "bundles", "number", "errand", "joined", "apart", "bundle", "other"]:List Str).Nodup:=by decide +kernel
theorem pe (T:Tx K mg cs) { bA gf:Gf} (iW:aP P w K mg base 2 "share_a_tool" 2 bA) (hL:∀ ds,ds.length=1→gf ds≠.no→a7 (ke cs bA (ds.map some++List.replicate 6 none))=gf ds):aP P w K mg base 3 "bundled" 1 gf:=by
  obtain ⟨f,fd,F,b,m⟩:=T.f_bundled
  exact aP.of (O:=[5]) (G:=ke cs bA) F eF b m (by decide) (fun cdv A outer s H E hr=>(ar (bo (i:=1) (lh ai) eF.nd)
      (ar (fG PassesOwn.leaving rfl (nV T.b_enumerate (ae (ah 0) ai)) (qp (is:=[2,3]) (by decide)) (vj rfl (ip (bQ (i:=2) eF.nd rfl (by first | exact Or.inl rfl | exact Or.inr rfl)) (ip (bQ (i:=3) eF.nd rfl (by first | exact Or.inl rfl | exact Or.inr rfl)) qg))) (ar (bo (i:=4) (lh (ae (ah 2) ai)) eF.nd)
      (ar (l7 (i:=5) (nT ai) eF.nd)
      (ar (fG PassesOwn.leaving rfl (dS (ah 1)) (ij (i:=6) (by decide)) (bQ (i:=6) eF.nd rfl (by first | exact Or.inl rfl | exact Or.inr rfl)) (aB (cF (cN (B7 rfl T.b_any (ae (fq (da (M:=["errands", "bundles", "number", "errand", "joined", "apart", "bundle"]) (own:=["other"]) (n0:=7) (cond:=bV) rfl (dS (ah 6)) cE (fun _ _ _ _=>(bQ (i:=7) vY rfl (Or.inl rfl) (.inr rfl))) (fun _ _ _ _=>.nil) (fun σ H Q qz3=>(by obtain ⟨A,δ,R,o⟩:=qz3; exact o H (aT.refl _))) (fun _ _ _ _=>(aC iW hr gM (ae (ah 3) (ae (cj (ah 0) (ah 7)) ai)))))) ai))) (aB (bo (i:=4) (bZ (ah 6) (ah 4)) eF.nd)) (aB (qi (i:=5) (ah 6))))))
      (aB (Ce (i:=5) (O':=[]) (bo (i:=1) (bZ (ah 5) (lh (ae (ah 4) ai))) eF.nd)))))))
      (aB (aU (ah 1)))))) hL
theorem pZ:a8 ["errands", "some"] ["errands", "some"] (aG iQ):=⟨rfl,rfl,rfl,by decide +kernel,rfl,by decide +kernel,by decide +kernel⟩
theorem n6:(["errands", "some", "number"]:List Str).Nodup:=by decide +kernel
theorem dm (T:Tx K mg cs) { aK gf:Gf} (dF:aP P w K mg base 10 "ranks_with_room" 2 aK) (hL:∀ ds,ds.length=2→gf ds≠.no→a7 (eX cs aK (ds.map some++List.replicate 0 none))=gf ds):aP P w K mg base 11 "fit_one_hand" 2 gf:=by
  obtain ⟨f,fd,F,b,m⟩:=T.f_fit_one_hand
  exact aP.of (O:=[]) (G:=eX cs aK) F pZ b m (by decide) (fun cdv A outer s H E hr=>(aB (aU (zK (aC dF hr aI (ae (fM T.b_tuple (ae (fq (da (M:=["errands", "some"]) (own:=["number"]) (n0:=2) (cond:=bV) rfl (dS (ah 1)) cE (fun _ _ _ _=>(bQ (i:=2) n6 rfl (Or.inl rfl) (.inr rfl))) (fun _ _ _ _=>.nil) (fun σ H Q qz3=>(by obtain ⟨A,δ,R,o⟩:=qz3; exact o H (aT.refl _))) (fun _ _ _ _=>(cj (ah 0) (ah 2))))) ai)) (ae aF ai))))))) hL
theorem gI:a8 ["errands", "bundles", "piles", "hand", "pile", "grown", "found"] ["errands", "bundles", "piles"] (aG l5):=⟨rfl,rfl,rfl,by decide +kernel,rfl,by decide +kernel,by decide +kernel⟩
theorem fR (T:Tx K mg cs) { bq aR gf:Gf} {k0:Nat} (dm:aP P w K mg base k0 "fit_one_hand" 2 bq) (fR:aP P w K mg base k0 "all_dealt" 3 aR) (hL:∀ ds,ds.length=3→gf ds≠.no→a7 (ix cs bq aR (ds.map some++List.replicate 4 none))=gf ds):aP P w K mg base (k0 + 1) "all_dealt" 3 gf:=by
  obtain ⟨f,fd,F,b,m⟩:=T.f_all_dealt
  exact aP.of (O:=[]) (G:=ix cs bq aR) F gI b m (by decide) (fun cdv A outer s H E hr=>(ar (cF (rq hr (gE T.b_len (ae (ah 1) ai)) aF) (aB (aU (ah 2))) cm)
      (ar (fG PassesOwn.leaving rfl (nV T.b_enumerate (ae (ah 2) ai)) (qp (is:=[3,4]) (by decide)) (vj rfl (ip (bQ (i:=3) gI.nd rfl (by first | exact Or.inl rfl | exact Or.inr rfl)) (ip (bQ (i:=4) gI.nd rfl (by first | exact Or.inl rfl | exact Or.inr rfl)) qg))) (ar (bo (i:=5) (Ay T.b_sorted (ae (bZ (ah 4) (cj (ah 1) aF)) ai)) gI.nd)
      (ar (cF (cN (aC dm hr aI (ae (ah 0) (ae (ah 5) ai)) (Nat.le_refl _))) (ar (bo (i:=6) (aC fR hr aI (ae (ah 0) (ae (gJ (ah 1) (fW aF) gz) (ae (bZ (bZ (gJ (ah 2) gz (fW (ah 3))) (lh (ae (ah 5) ai))) (gJ (ah 2) (fW (bZ (ah 3) aF)) gz)) ai))) (Nat.le_refl _)) gI.nd)
      (aB (cF (nI (ah 6)) (aB (aU (ah 6))) cm))) cm)
      (aB (cF (rq hr (gE T.b_len (ae (ah 4) ai)) aF) (aB (aU iA)) cm)))))
      (aB (aU iA))))) hL
theorem og (T:Tx K mg cs) (dm:aP P w K mg base 11 "fit_one_hand" 2 (bq)):∀ n:Nat,aP P w K mg base (11 + n + 1) "all_dealt" 3 (aR n)
  | 0=>fR (k0:=11) T (dm.mono (by omega)) (by obtain ⟨f,fd,F,b,m⟩:=T.f_all_dealt; exact aP.nil F m b) (pI cs 0)
  | n + 1=>fR (k0:=11 + n + 1) T (dm.mono (by omega)) (og T dm n) (pI cs (n + 1))
theorem tI:a8 ["errands", "hands"] ["errands", "hands"] (aG kB):=⟨rfl,rfl,rfl,by decide +kernel,rfl,by decide +kernel,by decide +kernel⟩
theorem qb:(["errands", "hands", "hand"]:List Str).Nodup:=by decide +kernel
theorem kN (T:Tx K mg cs) { c4 aR gf:Gf} (pe:aP P w K mg base 3 "bundled" 1 c4) (fR:aP P w K mg base 18 "all_dealt" 3 aR) (hL:∀ ds,ds.length=2→gf ds≠.no→a7 (f7 cs c4 aR (ds.map some++List.replicate 0 none))=gf ds):aP P w K mg base 19 "dealing_to" 2 gf:=by
  obtain ⟨f,fd,F,b,m⟩:=T.f_dealing_to
  exact aP.of (O:=[]) (G:=f7 cs c4 aR) F tI b m (by decide) (fun cdv A outer s H E hr=>(aB (aU (aC fR hr aI (ae (ah 0) (ae (aC pe hr aI (ae (ah 0) ai)) (ae (fq (da (M:=["errands", "hands"]) (own:=["hand"]) (n0:=2) (cond:=bV) rfl (d8 T.b_range (ae (ah 1) ai)) cE (fun _ _ _ _=>(bQ (i:=2) qb rfl (Or.inl rfl) (.inr rfl))) (fun _ _ _ _=>.nil) (fun σ H Q qz3=>(by obtain ⟨A,δ,R,o⟩:=qz3; exact o H (aT.refl _))) (fun _ _ _ _=>(lh ai)))) ai))))))) hL
theorem kX:a8 ["errands", "hands"] ["errands"] (aG iS):=⟨rfl,rfl,rfl,by decide +kernel,rfl,by decide +kernel,by decide +kernel⟩
theorem gD (T:Tx K mg cs) { bI aX gf:Gf} (kN:aP P w K mg base 19 "dealing_to" 2 bI) (hW:aP P w K mg base 5 "checked" 1 aX) (hL:∀ ds,ds.length=1→gf ds≠.no→a7 (dw cs bI aX (ds.map some++List.replicate 1 none))=gf ds):aP P w K mg base 20 "fewest_hands" 1 gf:=by
  obtain ⟨f,fd,F,b,m⟩:=T.f_fewest_hands
  exact aP.of (O:=[]) (G:=dw cs bI aX) F kX b m (by decide) (fun cdv A outer s H E hr=>(ar (ie (aC hW hr aI (ae (ah 0) ai)))
      (ar (fG PassesOwn.leaving rfl (yW T.b_range (ae aF (ae (bZ (h9 T.c_MOST_HANDS) aF) ai))) (ij (i:=1) (by decide)) (bQ (i:=1) kX.nd rfl (by first | exact Or.inl rfl | exact Or.inr rfl)) (aB (cF (nI (aC kN hr aI (ae (ah 0) (ae (ah 1) ai)))) (aB (aU (ah 1))) cm)))
      (aB (aU iA))))) hL
theorem cM:a8 ["_law_script", "_law_at", "_law_top", "_law_tools", "_law_every", "_law_late", "_law_due", "_law_parts", "_law_k", "_law_cell"] ["_law_script", "_law_at", "_law_top", "_law_tools"] (aG kC):=⟨rfl,rfl,rfl,by decide +kernel,rfl,by decide +kernel,by decide +kernel⟩
theorem kS (T:Tx K mg cs) { av gf:Gf} (cn:aP P w K mg base 2 "_law_mixed" 3 av) (hL:∀ ds,ds.length=4→gf ds≠.no→a7 (gG cs av (ds.map some++List.replicate 6 none))=gf ds):aP P w K mg base 3 "_law_errand" 4 gf:=by
  obtain ⟨f,fd,F,b,m⟩:=T.f_law_errand
  exact aP.of (O:=[7]) (G:=gG cs av) F cM b m (by decide) (fun cdv A outer s H E hr=>(ar (bo (i:=4) (bZ aF (aC cn hr aI (ae (ah 0) (ae (ah 1) (ae (ah 2) ai))))) cM.nd)
      (ar (bo (i:=5) (yT (aC cn hr aI (ae (ah 0) (ae (bZ (ah 1) aF) (ae aF ai)))) (BH T.b_int (ae (EW hr (aC cn hr aI (ae (ah 0) (ae (bZ (ah 1) aF) (ae aF ai)))) aF) ai))) cM.nd)
      (ar (bo (i:=5) (zP rfl T.b_min (ae (ah 5) (ae (i4 (ah 4) aF) ai))) cM.nd)
      (ar (bo (i:=6) (i4 (ah 4) (ah 5)) cM.nd)
      (ar (cF (rq hr (aC cn hr aI (ae (ah 0) (ae (bZ (ah 1) aF) (ae aF ai)))) aF) (aB (bo (i:=6) (i4 (ah 6) (aC cn hr aI (ae (ah 0) (ae (bZ (ah 1) aF) (ae (ah 6) ai))))) cM.nd)) cm)
      (ar (l7 (i:=7) (nT ai) cM.nd)
      (ar (fG PassesOwn.leaving rfl (d8 T.b_range (ae (aC cn hr aI (ae (ah 0) (ae (bZ (ah 1) aF) (ae aF ai)))) ai)) (ij (i:=8) (by decide)) (bQ (i:=8) cM.nd rfl (by first | exact Or.inl rfl | exact Or.inr rfl)) (ar (bo (i:=9) (aC cn hr aI (ae (ah 0) (ae (bZ (bZ (ah 1) aF) (ah 8)) (ae aF ai)))) cM.nd)
      (ar (qi (i:=7) (jM (ae (bZ aF (Bv (ah 9) aF)) (ae (cj (lh (ae aF (ae aF (ae aF (ae aF (ae iA ai)))))) (Bv (C8 (ah 9) aF) aF)) ai))))
      (aB (cF (eu (cN (ah 3))) (aB (D0 (i:=7) (jM (ae (cj (cj (ah 7) (oY aF)) aF) (ae iA ai))) (oY aF))) cm)))))
      (aB (aU (jM (ae (ah 4) (ae (ah 6) (ae (ah 5) (ae (fM T.b_tuple (ae (bZ (ah 7) (lh (ae (jM (ae (bZ aF (aC cn hr aI (ae (ah 0) (ae (bZ (ah 1) aF) (ae aF ai))))) (ae iA ai))) ai))) ai)) ai))))))))))))))) hL
theorem lZ:a8 ["_law_script", "_law_at", "_law_most", "_law_top", "_law_tools", "_law_many"] ["_law_script", "_law_at", "_law_most", "_law_top", "_law_tools"] (aG jI):=⟨rfl,rfl,rfl,by decide +kernel,rfl,by decide +kernel,by decide +kernel⟩
theorem pE:(["_law_script", "_law_at", "_law_most", "_law_top", "_law_tools", "_law_many", "_law_k"]:List Str).Nodup:=by decide +kernel
theorem jD (T:Tx K mg cs) { b3 av gf:Gf} (kS:aP P w K mg base 3 "_law_errand" 4 b3) (cn:aP P w K mg base 2 "_law_mixed" 3 av) (hL:∀ ds,ds.length=5→gf ds≠.no→a7 (fD cs b3 av (ds.map some++List.replicate 1 none))=gf ds):aP P w K mg base 4 "_law_errands" 5 gf:=by
  obtain ⟨f,fd,F,b,m⟩:=T.f_law_errands
  exact aP.of (O:=[]) (G:=fD cs b3 av) F lZ b m (by decide) (fun cdv A outer s H E hr=>(ar (bo (i:=5) (bZ aF (aC cn hr aI (ae (ah 0) (ae (ah 1) (ae (ah 2) ai))))) lZ.nd)
      (aB (aU (fM T.b_tuple (ae (fq (da (M:=["_law_script", "_law_at", "_law_most", "_law_top", "_law_tools", "_law_many"]) (own:=["_law_k"]) (n0:=6) (cond:=bV) rfl (d8 T.b_range (ae (ah 5) ai)) cE (fun _ _ _ _=>(bQ (i:=6) pE rfl (Or.inl rfl) (.inr rfl))) (fun _ _ _ _=>.nil) (fun σ H Q qz3=>(by obtain ⟨A,δ,R,o⟩:=qz3; exact o H (aT.refl _))) (fun _ _ _ _=>(aC kS hr gM (ae (ah 0) (ae (bZ (bZ (ah 1) aF) (yT aF (ah 6))) (ae (ah 3) (ae (ah 4) ai)))))))) ai)))))) hL
theorem iI:a8 ["_law_script", "_law_at", "_law_many", "_law_left", "_law_made", "_law_k"] ["_law_script", "_law_at", "_law_many"] (aG lK):=⟨rfl,rfl,rfl,by decide +kernel,rfl,by decide +kernel,by decide +kernel⟩
theorem jo (T:Tx K mg cs) { av gf:Gf} (cn:aP P w K mg base 2 "_law_mixed" 3 av) (hL:∀ ds,ds.length=3→gf ds≠.no→a7 (iu cs av (ds.map some++List.replicate 3 none))=gf ds):aP P w K mg base 3 "_law_ranks" 3 gf:=by
  obtain ⟨f,fd,F,b,m⟩:=T.f_law_ranks
  exact aP.of (O:=[3,4]) (G:=iu cs av) F iI b m (by decide) (fun cdv A outer s H E hr=>(ar (l7 (i:=3) (AM rfl T.b_range T.b_list (ae (ah 2) ai)) iI.nd)
      (ar (l7 (i:=4) (nT ai) iI.nd)
      (ar (fG PassesOwn.leaving rfl (d8 T.b_range (ae (ah 2) ai)) (ij (i:=5) (by decide)) (bQ (i:=5) iI.nd rfl (by first | exact Or.inl rfl | exact Or.inr rfl)) (aB (yl (y:=4) (x:=3) (aC cn hr aI (ae (ah 0) (ae (bZ (ah 1) (ah 5)) (ae (gE T.b_len (ae (ah 3) ai)) ai)))))))
      (aB (aU (fM T.b_tuple (ae (ah 4) ai)))))))) hL
theorem ko:a8 ["_law_script", "_law_errands_here", "_law_many", "_law_ranks_here", "_law_order", "_law_other", "_law_there", "_law_number", "_law_at"] ["_law_script"] (aG uy):=⟨rfl,rfl,rfl,by decide +kernel,rfl,by decide +kernel,by decide +kernel⟩
theorem wq:(["_law_script", "_law_errands_here", "_law_many", "_law_ranks_here", "_law_order", "_law_other", "_law_there", "_law_number__", "_law_at", "_law_number"]:List Str).Nodup:=by decide +kernel
theorem law_fn (T:Tx K mg cs) {f:Addr} {fd:FuncData} (F:Fun K "law" "law" uy f fd) { aW bK cg dH cc bH bw gf:Gf} (gD:aP P w K mg base 20 "fewest_hands" 1 aW) (mx:aP P w K mg base 11 "fitting" 1 bK) (qh:aP P w K mg base 10 "spare" 3 cg) (uG:aP P w K mg base 7 "hold" 3 dH) (mz:aP P w K mg base 7 "longest" 3 cc) (jo:aP P w K mg base 3 "_law_ranks" 3 bH) (jD:aP P w K mg base 4 "_law_errands" 5 bw) (hL:∀ ds,ds.length=1→gf ds≠.no→a7 (qH cs aW bK cg dH cc bH bw (ds.map some++List.replicate 8 none))=gf ds):kr P w K mg base (CXW P w) 21 f fd ["_law_script"] (spD K 1 gf) :=
  DV (O:=[]) (G:=qH cs aW bK cg dH cc bH bw) F ko (by decide) (fun cdv A outer s H E hr=>(ar (bo (i:=1) (aC jD hr aI (ae (ah 0) (ae aF (ae aF (ae aF (ae lj ai)))))) ko.nd)
      (ar (bo (i:=2) (gE T.b_len (ae (ah 1) ai)) ko.nd)
      (ar (bo (i:=3) (aC jo hr aI (ae (ah 0) (ae aF (ae (ah 2) ai)))) ko.nd)
      (ar (bo (i:=4) (aC jo hr aI (ae (ah 0) (ae aF (ae (ah 2) ai)))) ko.nd)
      (ar (bo (i:=5) (fM T.b_tuple (ae (fq (da (M:=["_law_script", "_law_errands_here", "_law_many", "_law_ranks_here", "_law_order", "_law_other", "_law_there", "_law_number__", "_law_at"]) (own:=["_law_number"]) (n0:=9) (cond:=bV) rfl (dS (ah 4)) cE (fun _ _ _ _=>(bQ (i:=9) wq rfl (Or.inl rfl) (.inr rfl))) (fun _ _ _ _=>.nil) (fun σ H Q qz3=>(by obtain ⟨A,δ,R,o⟩:=qz3; exact o H (aT.refl _))) (fun _ _ _ _=>(cj (ah 1) (ah 9))))) ai)) ko.nd)
      (ar (bo (i:=6) (fM T.b_tuple (ae (fq (da (M:=["_law_script", "_law_errands_here", "_law_many", "_law_ranks_here", "_law_order", "_law_other", "_law_there", "_law_number__", "_law_at"]) (own:=["_law_number"]) (n0:=9) (cond:=bV) rfl (dS (ah 3)) cE (fun _ _ _ _=>(bQ (i:=9) wq rfl (Or.inl rfl) (.inr rfl))) (fun _ _ _ _=>.nil) (fun σ H Q qz3=>(by obtain ⟨A,δ,R,o⟩:=qz3; exact o H (aT.refl _))) (fun _ _ _ _=>(nY (ah 4) (ah 9))))) ai)) ko.nd)
      (ar (fG PassesOwn.leaving rfl (d8 T.b_range (ae (ah 2) ai)) (ij (i:=7) (by decide)) (bQ (i:=7) ko.nd rfl (by first | exact Or.inl rfl | exact Or.inr rfl)) (ar (bo (i:=8) (nY (ah 4) (ah 7)) ko.nd)
      (ar (cF (sA hr (aC mz hr aI (ae (ah 5) (ae (ah 6) (ae (ah 8) ai)))) (aC mz hr aI (ae (ah 1) (ae (ah 3) (ae (ah 7) ai))))) (aB (aU lj)) cm)
      (ar (cF (sA hr (aC uG hr aI (ae (ah 5) (ae (ah 6) (ae (ah 8) ai)))) (aC uG hr aI (ae (ah 1) (ae (ah 3) (ae (ah 7) ai))))) (aB (aU lj)) cm)
      (aB (cF (sA hr (aC qh hr aI (ae (ah 5) (ae (ah 6) (ae (ah 8) ai)))) (aC qh hr aI (ae (ah 1) (ae (ah 3) (ae (ah 7) ai))))) (aB (aU lj)) cm))))))
      (ar (cF (sA hr (vB (aC mx hr aI (ae (ah 5) ai))) (vB (aC mx hr aI (ae (ah 1) ai)))) (aB (aU lj)) cm)
      (aB (aU (EW hr (aC gD hr aI (ae (ah 5) ai)) (aC gD hr aI (ae (ah 1) ai)))))))))))))) hL
theorem law_ok (T:Tx K mg cs) {f:Addr} {fd:FuncData} (F:Fun K "law" "law" uy f fd):kr P w K mg base (CXW P w) 21 f fd ["_law_script"] (spD K 1 (fF 63)):=by
  have d_has_tool:=g9 (P:=P) (w:=w) (base:=base) T (xV cs)
  have d_share_a_tool:=iW (P:=P) (w:=w) (base:=base) T d_has_tool (sr cs)
  have d_bundled:=pe (P:=P) (w:=w) (base:=base) T d_share_a_tool (Bj cs)
  have d_as_lowest:=lI (P:=P) (w:=w) (base:=base) T (xc cs)
  have d_height:=sj (P:=P) (w:=w) (base:=base) T d_has_tool (Dc cs)
  have d_heights_of:=kx (P:=P) (w:=w) (base:=base) T d_height (vO cs)
  have d_holdings:=mR (P:=P) (w:=w) (base:=base) T d_heights_of (oU T) (yx cs)
  have d_hold_by_high:=eS (P:=P) (w:=w) (base:=base) T d_holdings (rJ cs)
  have d_work_of:=mq (P:=P) (w:=w) (base:=base) T (Az cs)
  have d_rounded_up:=km (P:=P) (w:=w) (base:=base) T (uE cs)
  have d_need:=vP (P:=P) (w:=w) (base:=base) T d_work_of d_rounded_up (F6 cs)
  have d_levels_by:=lC (P:=P) (w:=w) (base:=base) T d_need (wD cs)
  have d_longest_by:=kF (P:=P) (w:=w) (base:=base) T d_levels_by (uH cs)
  have d_longest_by_high:=dM (P:=P) (w:=w) (base:=base) T d_hold_by_high d_longest_by (nE cs)
  have d_has_room:=jk (P:=P) (w:=w) (base:=base) T d_longest_by_high (yS cs)
  have d_not_placed:=kQ (P:=P) (w:=w) (base:=base) T (vd cs)
  have d_following_lowest:=ee (P:=P) (w:=w) (base:=base) T d_as_lowest d_has_room d_not_placed (nr cs)
  have d_placed_from_below:=fk (P:=P) (w:=w) (base:=base) T d_following_lowest (mF cs)
  have d_ranks_with_room:=dF (P:=P) (w:=w) (base:=base) T d_placed_from_below (nW cs)
  have d_fit_one_hand:=dm (P:=P) (w:=w) (base:=base) T d_ranks_with_room (sx cs)
  have d_all_dealt:=og (P:=P) (w:=w) (base:=base) T d_fit_one_hand 6
  have d_dealing_to:=kN (P:=P) (w:=w) (base:=base) T d_bundled d_all_dealt (uN cs)
  have d_is_tuple:=dq (P:=P) (w:=w) (base:=base) T (xZ cs)
  have d_is_whole:=cY (P:=P) (w:=w) (base:=base) T (xU cs)
  have d_is_part:=o8 (P:=P) (w:=w) (base:=base) T d_is_whole d_is_tuple (Aj cs)
  have d_are_parts:=lW (P:=P) (w:=w) (base:=base) T d_is_tuple d_is_part (wA cs)
  have d_is_errand:=lN (P:=P) (w:=w) (base:=base) T d_is_whole d_are_parts d_is_tuple (xG cs)
  have d_checked:=hW (P:=P) (w:=w) (base:=base) T d_is_tuple d_is_errand (AD cs)
  have d_fewest_hands:=gD (P:=P) (w:=w) (base:=base) T d_dealing_to d_checked (rN cs)
  have d_fitting:=mx (P:=P) (w:=w) (base:=base) T d_ranks_with_room d_checked (AI cs)
  have d_with_errand:=jG (P:=P) (w:=w) (base:=base) T (tm cs)
  have d_with_longer_end:=gj (P:=P) (w:=w) (base:=base) T d_with_errand (nL cs)
  have d_is_in_time:=kE (P:=P) (w:=w) (base:=base) T d_has_room (vn cs)
  have d_do_fit:=oj (P:=P) (w:=w) (base:=base) T d_is_in_time (Cd cs)
  have d_checked_number:=hV (P:=P) (w:=w) (base:=base) T d_is_whole (pj cs)
  have d_checked_ranks:=iE (P:=P) (w:=w) (base:=base) T d_is_tuple d_is_whole (qd cs)
  have d_check_place:=dQ (P:=P) (w:=w) (base:=base) T d_checked_number d_checked_ranks d_checked (sY cs)
  have d_spare:=qh (P:=P) (w:=w) (base:=base) T d_with_longer_end d_do_fit d_check_place (Ep cs)
  have d_hold:=uG (P:=P) (w:=w) (base:=base) T d_hold_by_high d_check_place (Ga cs)
  have d_longest:=mz (P:=P) (w:=w) (base:=base) T d_longest_by_high d_check_place (AG cs)
  have d_law_mixed:=cn (P:=P) (w:=w) (base:=base) T
  have d_law_ranks:=jo (P:=P) (w:=w) (base:=base) T d_law_mixed (wI cs)
  have d_law_errand:=kS (P:=P) (w:=w) (base:=base) T d_law_mixed (vU cs)
  have d_law_errands:=jD (P:=P) (w:=w) (base:=base) T d_law_errand d_law_mixed (sW cs)
  exact law_fn T F d_fewest_hands d_fitting d_spare d_hold d_longest d_law_ranks d_law_errands (GB cs)
end
end RS
namespace RS
theorem nh {n:Nat} {us:List PySem.Value} (h:us.length=n + 1):∃ a t,us=a::t∧t.length=n:=by
  cases us with
  | nil=>cases h
  | cons a t=>exact ⟨a,t,rfl,Nat.succ.inj h⟩
theorem sV {us:List PySem.Value} (h:us.length=1):∃ a0,us=[a0]:=by
  obtain ⟨a0,t0,e0,h0⟩:=nh h
  have e:=List.eq_nil_of_length_eq_zero h0
  exact ⟨_,by rw [e0,e]⟩
theorem oG {us:List PySem.Value} (h:us.length=2):∃ a0 a1,us=[a0,a1]:=by
  obtain ⟨a0,t0,e0,h0⟩:=nh h
  obtain ⟨a1,t1,e1,h1⟩:=nh h0
  have e:=List.eq_nil_of_length_eq_zero h1
  exact ⟨_,_,by rw [e0,e1,e]⟩
theorem k8 {us:List PySem.Value} (h:us.length=3):∃ a0 a1 a2,us=[a0,a1,a2]:=by
  obtain ⟨a0,t0,e0,h0⟩:=nh h
  obtain ⟨a1,t1,e1,h1⟩:=nh h0
  obtain ⟨a2,t2,e2,h2⟩:=nh h1
  have e:=List.eq_nil_of_length_eq_zero h2
  exact ⟨_,_,_,by rw [e0,e1,e2,e]⟩
theorem Di {us:List PySem.Value} (h:us.length=4):∃ a0 a1 a2 a3,us=[a0,a1,a2,a3]:=by
  obtain ⟨a0,t0,e0,h0⟩:=nh h
  obtain ⟨a1,t1,e1,h1⟩:=nh h0
  obtain ⟨a2,t2,e2,h2⟩:=nh h1
  obtain ⟨a3,t3,e3,h3⟩:=nh h2
  have e:=List.eq_nil_of_length_eq_zero h3
  exact ⟨_,_,_,_,by rw [e0,e1,e2,e3,e]⟩
theorem Gb {us:List PySem.Value} (h:us.length=5):∃ a0 a1 a2 a3 a4,us=[a0,a1,a2,a3,a4]:=by
  obtain ⟨a0,t0,e0,h0⟩:=nh h
  obtain ⟨a1,t1,e1,h1⟩:=nh h0
  obtain ⟨a2,t2,e2,h2⟩:=nh h1
  obtain ⟨a3,t3,e3,h3⟩:=nh h2
  obtain ⟨a4,t4,e4,h4⟩:=nh h3
  have e:=List.eq_nil_of_length_eq_zero h4
  exact ⟨_,_,_,_,_,by rw [e0,e1,e2,e3,e4,e]⟩
end RS
open PySem PySem.W PyProof.Rows
set_option maxRecDepth 100000 in
set_option maxHeartbeats 0 in
theorem PySem.Challenge.cw_ranksure_k23_whole_numbers_holds : PySem.Challenge.rw_ranksure_k23_whole_numbers.Holds := by
  refine RS.hdTop ?_
  k_fill
  refine RS.He (l:=PySem.Challenge.rw_ranksure_k23_whole_numbers) (n:=63) (k:=21) (x:="_law_script") (st:=RS.uy) rfl (by decide) rfl ⟨rfl,by decide,by decide⟩ (fun w h Y=>PySem.W.kIn_of Y) (fun _ _ _ _ _ _ us hl=>by obtain ⟨_,rfl⟩:=RS.sV hl; rfl) ?F
  case F =>
    intro w mg h KX G
    have f_is_whole:RS.aY (L2.KOf KX) mg "is_whole" RS.nu ["thing", "least", "most"]:=by
      delta L2.KOf
      refine' RS.a5 KX G (fun _ _ _ _ _ _ us hl=>by obtain ⟨_,_,_,rfl⟩:=RS.k8 hl; rfl) ?a_is_whole ?l_is_whole ?c_is_whole ?k_is_whole
      (case a_is_whole=>k_is); (case l_is_whole=>k_is); (case c_is_whole=>k_is); (case k_is_whole=>k_is)
    have f_is_tuple:RS.aY (L2.KOf KX) mg "is_tuple" RS.mY ["thing", "fewest", "most"]:=by
      delta L2.KOf
      refine' RS.a5 KX G (fun _ _ _ _ _ _ us hl=>by obtain ⟨_,_,_,rfl⟩:=RS.k8 hl; rfl) ?a_is_tuple ?l_is_tuple ?c_is_tuple ?k_is_tuple
      (case a_is_tuple=>k_is); (case l_is_tuple=>k_is); (case c_is_tuple=>k_is); (case k_is_tuple=>k_is)
    have f_is_part:RS.aY (L2.KOf KX) mg "is_part" RS.pq ["thing"]:=by
      delta L2.KOf
      refine' RS.a5 KX G (fun _ _ _ _ _ _ us hl=>by obtain ⟨_,rfl⟩:=RS.sV hl; rfl) ?a_is_part ?l_is_part ?c_is_part ?k_is_part
      (case a_is_part=>k_is); (case l_is_part=>k_is); (case c_is_part=>k_is); (case k_is_part=>k_is)
    have f_are_parts:RS.aY (L2.KOf KX) mg "are_parts" RS.lQ ["thing"]:=by
      delta L2.KOf
      refine' RS.a5 KX G (fun _ _ _ _ _ _ us hl=>by obtain ⟨_,rfl⟩:=RS.sV hl; rfl) ?a_are_parts ?l_are_parts ?c_are_parts ?k_are_parts
      (case a_are_parts=>k_is); (case l_are_parts=>k_is); (case c_are_parts=>k_is); (case k_are_parts=>k_is)
    have f_is_errand:RS.aY (L2.KOf KX) mg "is_errand" RS.lS ["thing"]:=by
      delta L2.KOf
      refine' RS.a5 KX G (fun _ _ _ _ _ _ us hl=>by obtain ⟨_,rfl⟩:=RS.sV hl; rfl) ?a_is_errand ?l_is_errand ?c_is_errand ?k_is_errand
      (case a_is_errand=>k_is); (case l_is_errand=>k_is); (case c_is_errand=>k_is); (case k_is_errand=>k_is)
    have f_checked:RS.aY (L2.KOf KX) mg "checked" RS.oZ ["errands"]:=by
      delta L2.KOf
      refine' RS.a5 KX G (fun _ _ _ _ _ _ us hl=>by obtain ⟨_,rfl⟩:=RS.sV hl; rfl) ?a_checked ?l_checked ?c_checked ?k_checked
      (case a_checked=>k_is); (case l_checked=>k_is); (case c_checked=>k_is); (case k_checked=>k_is)
    have f_checked_ranks:RS.aY (L2.KOf KX) mg "checked_ranks" RS.iy ["errands", "ranks"]:=by
      delta L2.KOf
      refine' RS.a5 KX G (fun _ _ _ _ _ _ us hl=>by obtain ⟨_,_,rfl⟩:=RS.oG hl; rfl) ?a_checked_ranks ?l_checked_ranks ?c_checked_ranks ?k_checked_ranks
      (case a_checked_ranks=>k_is); (case l_checked_ranks=>k_is); (case c_checked_ranks=>k_is); (case k_checked_ranks=>k_is)
    have f_checked_number:RS.aY (L2.KOf KX) mg "checked_number" RS.gY ["errands", "number"]:=by
      delta L2.KOf
      refine' RS.a5 KX G (fun _ _ _ _ _ _ us hl=>by obtain ⟨_,_,rfl⟩:=RS.oG hl; rfl) ?a_checked_number ?l_checked_number ?c_checked_number ?k_checked_number
      (case a_checked_number=>k_is); (case l_checked_number=>k_is); (case c_checked_number=>k_is); (case k_checked_number=>k_is)
    have f_check_place:RS.aY (L2.KOf KX) mg "check_place" RS.jH ["errands", "ranks", "number"]:=by
      delta L2.KOf
      refine' RS.a5 KX G (fun _ _ _ _ _ _ us hl=>by obtain ⟨_,_,_,rfl⟩:=RS.k8 hl; rfl) ?a_check_place ?l_check_place ?c_check_place ?k_check_place
      (case a_check_place=>k_is); (case l_check_place=>k_is); (case c_check_place=>k_is); (case k_check_place=>k_is)
    have f_work_of:RS.aY (L2.KOf KX) mg "work_of" RS.pk ["errand"]:=by
      delta L2.KOf
      refine' RS.a5 KX G (fun _ _ _ _ _ _ us hl=>by obtain ⟨_,rfl⟩:=RS.sV hl; rfl) ?a_work_of ?l_work_of ?c_work_of ?k_work_of
      (case a_work_of=>k_is); (case l_work_of=>k_is); (case c_work_of=>k_is); (case k_work_of=>k_is)
    have f_has_tool:RS.aY (L2.KOf KX) mg "has_tool" RS.nk ["errand", "tool"]:=by
      delta L2.KOf
      refine' RS.a5 KX G (fun _ _ _ _ _ _ us hl=>by obtain ⟨_,_,rfl⟩:=RS.oG hl; rfl) ?a_has_tool ?l_has_tool ?c_has_tool ?k_has_tool
      (case a_has_tool=>k_is); (case l_has_tool=>k_is); (case c_has_tool=>k_is); (case k_has_tool=>k_is)
    have f_height:RS.aY (L2.KOf KX) mg "height" RS.sg ["errands", "ranks", "tool"]:=by
      delta L2.KOf
      refine' RS.a5 KX G (fun _ _ _ _ _ _ us hl=>by obtain ⟨_,_,_,rfl⟩:=RS.k8 hl; rfl) ?a_height ?l_height ?c_height ?k_height
      (case a_height=>k_is); (case l_height=>k_is); (case c_height=>k_is); (case k_height=>k_is)
    have f_heights_of:RS.aY (L2.KOf KX) mg "heights_of" RS.kn ["errands", "ranks"]:=by
      delta L2.KOf
      refine' RS.a5 KX G (fun _ _ _ _ _ _ us hl=>by obtain ⟨_,_,rfl⟩:=RS.oG hl; rfl) ?a_heights_of ?l_heights_of ?c_heights_of ?k_heights_of
      (case a_heights_of=>k_is); (case l_heights_of=>k_is); (case c_heights_of=>k_is); (case k_heights_of=>k_is)
    have f_holdings:RS.aY (L2.KOf KX) mg "holdings" RS.nj ["errands", "ranks", "number"]:=by
      delta L2.KOf
      refine' RS.a5 KX G (fun _ _ _ _ _ _ us hl=>by obtain ⟨_,_,_,rfl⟩:=RS.k8 hl; rfl) ?a_holdings ?l_holdings ?c_holdings ?k_holdings
      (case a_holdings=>k_is); (case l_holdings=>k_is); (case c_holdings=>k_is); (case k_holdings=>k_is)
    have f_hold_by_high:RS.aY (L2.KOf KX) mg "hold_by_high" RS.iV ["errands", "ranks", "number"]:=by
      delta L2.KOf
      refine' RS.a5 KX G (fun _ _ _ _ _ _ us hl=>by obtain ⟨_,_,_,rfl⟩:=RS.k8 hl; rfl) ?a_hold_by_high ?l_hold_by_high ?c_hold_by_high ?k_hold_by_high
      (case a_hold_by_high=>k_is); (case l_hold_by_high=>k_is); (case c_hold_by_high=>k_is); (case k_hold_by_high=>k_is)
    have f_rounded_up:RS.aY (L2.KOf KX) mg "rounded_up" RS.kO ["times", "every"]:=by
      delta L2.KOf
      refine' RS.a5 KX G (fun _ _ _ _ _ _ us hl=>by obtain ⟨_,_,rfl⟩:=RS.oG hl; rfl) ?a_rounded_up ?l_rounded_up ?c_rounded_up ?k_rounded_up
      (case a_rounded_up=>k_is); (case l_rounded_up=>k_is); (case c_rounded_up=>k_is); (case k_rounded_up=>k_is)
    have f_need:RS.aY (L2.KOf KX) mg "need" RS.xP ["errands", "ranks", "number", "held_up", "times"]:=by
      delta L2.KOf
      refine' RS.a5 KX G (fun _ _ _ _ _ _ us hl=>by obtain ⟨_,_,_,_,_,rfl⟩:=RS.Gb hl; rfl) ?a_need ?l_need ?c_need ?k_need
      (case a_need=>k_is); (case l_need=>k_is); (case c_need=>k_is); (case k_need=>k_is)
    have f_levels_by:RS.aY (L2.KOf KX) mg "levels_by" RS.lO ["errands", "ranks", "number", "held_up"]:=by
      delta L2.KOf
      refine' RS.a5 KX G (fun _ _ _ _ _ _ us hl=>by obtain ⟨_,_,_,_,rfl⟩:=RS.Di hl; rfl) ?a_levels_by ?l_levels_by ?c_levels_by ?k_levels_by
      (case a_levels_by=>k_is); (case l_levels_by=>k_is); (case c_levels_by=>k_is); (case k_levels_by=>k_is)
    have f_longest_by:RS.aY (L2.KOf KX) mg "longest_by" RS.kR ["errands", "ranks", "number", "held_up"]:=by
      delta L2.KOf
      refine' RS.a5 KX G (fun _ _ _ _ _ _ us hl=>by obtain ⟨_,_,_,_,rfl⟩:=RS.Di hl; rfl) ?a_longest_by ?l_longest_by ?c_longest_by ?k_longest_by
      (case a_longest_by=>k_is); (case l_longest_by=>k_is); (case c_longest_by=>k_is); (case k_longest_by=>k_is)
    have f_longest_by_high:RS.aY (L2.KOf KX) mg "longest_by_high" RS.gx ["errands", "ranks", "number"]:=by
      delta L2.KOf
      refine' RS.a5 KX G (fun _ _ _ _ _ _ us hl=>by obtain ⟨_,_,_,rfl⟩:=RS.k8 hl; rfl) ?a_longest_by_high ?l_longest_by_high ?c_longest_by_high ?k_longest_by_high
      (case a_longest_by_high=>k_is); (case l_longest_by_high=>k_is); (case c_longest_by_high=>k_is); (case k_longest_by_high=>k_is)
    have f_has_room:RS.aY (L2.KOf KX) mg "has_room" RS.mU ["errands", "ranks", "number", "room"]:=by
      delta L2.KOf
      refine' RS.a5 KX G (fun _ _ _ _ _ _ us hl=>by obtain ⟨_,_,_,_,rfl⟩:=RS.Di hl; rfl) ?a_has_room ?l_has_room ?c_has_room ?k_has_room
      (case a_has_room=>k_is); (case l_has_room=>k_is); (case c_has_room=>k_is); (case k_has_room=>k_is)
    have f_is_in_time:RS.aY (L2.KOf KX) mg "is_in_time" RS.kz ["errands", "ranks", "number"]:=by
      delta L2.KOf
      refine' RS.a5 KX G (fun _ _ _ _ _ _ us hl=>by obtain ⟨_,_,_,rfl⟩:=RS.k8 hl; rfl) ?a_is_in_time ?l_is_in_time ?c_is_in_time ?k_is_in_time
      (case a_is_in_time=>k_is); (case l_is_in_time=>k_is); (case c_is_in_time=>k_is); (case k_is_in_time=>k_is)
    have f_hold:RS.aY (L2.KOf KX) mg "hold" RS.yI ["errands", "ranks", "number"]:=by
      delta L2.KOf
      refine' RS.a5 KX G (fun _ _ _ _ _ _ us hl=>by obtain ⟨_,_,_,rfl⟩:=RS.k8 hl; rfl) ?a_hold ?l_hold ?c_hold ?k_hold
      (case a_hold=>k_is); (case l_hold=>k_is); (case c_hold=>k_is); (case k_hold=>k_is)
    have f_longest:RS.aY (L2.KOf KX) mg "longest" RS.oH ["errands", "ranks", "number"]:=by
      delta L2.KOf
      refine' RS.a5 KX G (fun _ _ _ _ _ _ us hl=>by obtain ⟨_,_,_,rfl⟩:=RS.k8 hl; rfl) ?a_longest ?l_longest ?c_longest ?k_longest
      (case a_longest=>k_is); (case l_longest=>k_is); (case c_longest=>k_is); (case k_longest=>k_is)
    have f_as_lowest:RS.aY (L2.KOf KX) mg "as_lowest" RS.lH ["errands", "some", "number"]:=by
      delta L2.KOf
      refine' RS.a5 KX G (fun _ _ _ _ _ _ us hl=>by obtain ⟨_,_,_,rfl⟩:=RS.k8 hl; rfl) ?a_as_lowest ?l_as_lowest ?c_as_lowest ?k_as_lowest
      (case a_as_lowest=>k_is); (case l_as_lowest=>k_is); (case c_as_lowest=>k_is); (case k_as_lowest=>k_is)
    have f_not_placed:RS.aY (L2.KOf KX) mg "not_placed" RS.kG ["errands", "placed"]:=by
      delta L2.KOf
      refine' RS.a5 KX G (fun _ _ _ _ _ _ us hl=>by obtain ⟨_,_,rfl⟩:=RS.oG hl; rfl) ?a_not_placed ?l_not_placed ?c_not_placed ?k_not_placed
      (case a_not_placed=>k_is); (case l_not_placed=>k_is); (case c_not_placed=>k_is); (case k_not_placed=>k_is)
    have f_following_lowest:RS.aY (L2.KOf KX) mg "following_lowest" RS.fL ["errands", "placed", "room"]:=by
      delta L2.KOf
      refine' RS.a5 KX G (fun _ _ _ _ _ _ us hl=>by obtain ⟨_,_,_,rfl⟩:=RS.k8 hl; rfl) ?a_following_lowest ?l_following_lowest ?c_following_lowest ?k_following_lowest
      (case a_following_lowest=>k_is); (case l_following_lowest=>k_is); (case c_following_lowest=>k_is); (case k_following_lowest=>k_is)
    have f_placed_from_below:RS.aY (L2.KOf KX) mg "placed_from_below" RS.fo ["errands", "room"]:=by
      delta L2.KOf
      refine' RS.a5 KX G (fun _ _ _ _ _ _ us hl=>by obtain ⟨_,_,rfl⟩:=RS.oG hl; rfl) ?a_placed_from_below ?l_placed_from_below ?c_placed_from_below ?k_placed_from_below
      (case a_placed_from_below=>k_is); (case l_placed_from_below=>k_is); (case c_placed_from_below=>k_is); (case k_placed_from_below=>k_is)
    have f_ranks_with_room:RS.aY (L2.KOf KX) mg "ranks_with_room" RS.gu ["errands", "room"]:=by
      delta L2.KOf
      refine' RS.a5 KX G (fun _ _ _ _ _ _ us hl=>by obtain ⟨_,_,rfl⟩:=RS.oG hl; rfl) ?a_ranks_with_room ?l_ranks_with_room ?c_ranks_with_room ?k_ranks_with_room
      (case a_ranks_with_room=>k_is); (case l_ranks_with_room=>k_is); (case c_ranks_with_room=>k_is); (case k_ranks_with_room=>k_is)
    have f_fitting:RS.aY (L2.KOf KX) mg "fitting" RS.oO ["errands"]:=by
      delta L2.KOf
      refine' RS.a5 KX G (fun _ _ _ _ _ _ us hl=>by obtain ⟨_,rfl⟩:=RS.sV hl; rfl) ?a_fitting ?l_fitting ?c_fitting ?k_fitting
      (case a_fitting=>k_is); (case l_fitting=>k_is); (case c_fitting=>k_is); (case k_fitting=>k_is)
    have f_do_fit:RS.aY (L2.KOf KX) mg "do_fit" RS.qW ["errands", "ranks"]:=by
      delta L2.KOf
      refine' RS.a5 KX G (fun _ _ _ _ _ _ us hl=>by obtain ⟨_,_,rfl⟩:=RS.oG hl; rfl) ?a_do_fit ?l_do_fit ?c_do_fit ?k_do_fit
      (case a_do_fit=>k_is); (case l_do_fit=>k_is); (case c_do_fit=>k_is); (case k_do_fit=>k_is)
    have f_with_errand:RS.aY (L2.KOf KX) mg "with_errand" RS.jE ["errands", "number", "errand"]:=by
      delta L2.KOf
      refine' RS.a5 KX G (fun _ _ _ _ _ _ us hl=>by obtain ⟨_,_,_,rfl⟩:=RS.k8 hl; rfl) ?a_with_errand ?l_with_errand ?c_with_errand ?k_with_errand
      (case a_with_errand=>k_is); (case l_with_errand=>k_is); (case c_with_errand=>k_is); (case k_with_errand=>k_is)
    have f_with_longer_end:RS.aY (L2.KOf KX) mg "with_longer_end" RS.gy ["errands", "number", "times"]:=by
      delta L2.KOf
      refine' RS.a5 KX G (fun _ _ _ _ _ _ us hl=>by obtain ⟨_,_,_,rfl⟩:=RS.k8 hl; rfl) ?a_with_longer_end ?l_with_longer_end ?c_with_longer_end ?k_with_longer_end
      (case a_with_longer_end=>k_is); (case l_with_longer_end=>k_is); (case c_with_longer_end=>k_is); (case k_with_longer_end=>k_is)
    have f_spare:RS.aY (L2.KOf KX) mg "spare" RS.vZ ["errands", "ranks", "number"]:=by
      delta L2.KOf
      refine' RS.a5 KX G (fun _ _ _ _ _ _ us hl=>by obtain ⟨_,_,_,rfl⟩:=RS.k8 hl; rfl) ?a_spare ?l_spare ?c_spare ?k_spare
      (case a_spare=>k_is); (case l_spare=>k_is); (case c_spare=>k_is); (case k_spare=>k_is)
    have f_share_a_tool:RS.aY (L2.KOf KX) mg "share_a_tool" RS.iZ ["errand", "other"]:=by
      delta L2.KOf
      refine' RS.a5 KX G (fun _ _ _ _ _ _ us hl=>by obtain ⟨_,_,rfl⟩:=RS.oG hl; rfl) ?a_share_a_tool ?l_share_a_tool ?c_share_a_tool ?k_share_a_tool
      (case a_share_a_tool=>k_is); (case l_share_a_tool=>k_is); (case c_share_a_tool=>k_is); (case k_share_a_tool=>k_is)
    have f_bundled:RS.aY (L2.KOf KX) mg "bundled" RS.pA ["errands"]:=by
      delta L2.KOf
      refine' RS.a5 KX G (fun _ _ _ _ _ _ us hl=>by obtain ⟨_,rfl⟩:=RS.sV hl; rfl) ?a_bundled ?l_bundled ?c_bundled ?k_bundled
      (case a_bundled=>k_is); (case l_bundled=>k_is); (case c_bundled=>k_is); (case k_bundled=>k_is)
    have f_fit_one_hand:RS.aY (L2.KOf KX) mg "fit_one_hand" RS.iQ ["errands", "some"]:=by
      delta L2.KOf
      refine' RS.a5 KX G (fun _ _ _ _ _ _ us hl=>by obtain ⟨_,_,rfl⟩:=RS.oG hl; rfl) ?a_fit_one_hand ?l_fit_one_hand ?c_fit_one_hand ?k_fit_one_hand
      (case a_fit_one_hand=>k_is); (case l_fit_one_hand=>k_is); (case c_fit_one_hand=>k_is); (case k_fit_one_hand=>k_is)
    have f_all_dealt:RS.aY (L2.KOf KX) mg "all_dealt" RS.l5 ["errands", "bundles", "piles"]:=by
      delta L2.KOf
      refine' RS.a5 KX G (fun _ _ _ _ _ _ us hl=>by obtain ⟨_,_,_,rfl⟩:=RS.k8 hl; rfl) ?a_all_dealt ?l_all_dealt ?c_all_dealt ?k_all_dealt
      (case a_all_dealt=>k_is); (case l_all_dealt=>k_is); (case c_all_dealt=>k_is); (case k_all_dealt=>k_is)
    have f_dealing_to:RS.aY (L2.KOf KX) mg "dealing_to" RS.kB ["errands", "hands"]:=by
      delta L2.KOf
      refine' RS.a5 KX G (fun _ _ _ _ _ _ us hl=>by obtain ⟨_,_,rfl⟩:=RS.oG hl; rfl) ?a_dealing_to ?l_dealing_to ?c_dealing_to ?k_dealing_to
      (case a_dealing_to=>k_is); (case l_dealing_to=>k_is); (case c_dealing_to=>k_is); (case k_dealing_to=>k_is)
    have f_fewest_hands:RS.aY (L2.KOf KX) mg "fewest_hands" RS.iS ["errands"]:=by
      delta L2.KOf
      refine' RS.a5 KX G (fun _ _ _ _ _ _ us hl=>by obtain ⟨_,rfl⟩:=RS.sV hl; rfl) ?a_fewest_hands ?l_fewest_hands ?c_fewest_hands ?k_fewest_hands
      (case a_fewest_hands=>k_is); (case l_fewest_hands=>k_is); (case c_fewest_hands=>k_is); (case k_fewest_hands=>k_is)
    have f_law_cell_at:RS.aY (L2.KOf KX) mg "_law_cell_at" RS.fv ["_law_script", "_law_k"]:=by
      delta L2.KOf
      refine' RS.a5 KX G (fun _ _ _ _ _ _ us hl=>by obtain ⟨_,_,rfl⟩:=RS.oG hl; rfl) ?a_law_cell_at ?l_law_cell_at ?c_law_cell_at ?k_law_cell_at
      (case a_law_cell_at=>k_is); (case l_law_cell_at=>k_is); (case c_law_cell_at=>k_is); (case k_law_cell_at=>k_is)
    have f_law_mixed:RS.aY (L2.KOf KX) mg "_law_mixed" RS.jt ["_law_script", "_law_k", "_law_many"]:=by
      delta L2.KOf
      refine' RS.a5 KX G (fun _ _ _ _ _ _ us hl=>by obtain ⟨_,_,_,rfl⟩:=RS.k8 hl; rfl) ?a_law_mixed ?l_law_mixed ?c_law_mixed ?k_law_mixed
      (case a_law_mixed=>k_is); (case l_law_mixed=>k_is); (case c_law_mixed=>k_is); (case k_law_mixed=>k_is)
    have f_law_errand:RS.aY (L2.KOf KX) mg "_law_errand" RS.kC ["_law_script", "_law_at", "_law_top", "_law_tools"]:=by
      delta L2.KOf
      refine' RS.a5 KX G (fun _ _ _ _ _ _ us hl=>by obtain ⟨_,_,_,_,rfl⟩:=RS.Di hl; rfl) ?a_law_errand ?l_law_errand ?c_law_errand ?k_law_errand
      (case a_law_errand=>k_is); (case l_law_errand=>k_is); (case c_law_errand=>k_is); (case k_law_errand=>k_is)
    have f_law_errands:RS.aY (L2.KOf KX) mg "_law_errands" RS.jI ["_law_script", "_law_at", "_law_most", "_law_top", "_law_tools"]:=by
      delta L2.KOf
      refine' RS.a5 KX G (fun _ _ _ _ _ _ us hl=>by obtain ⟨_,_,_,_,_,rfl⟩:=RS.Gb hl; rfl) ?a_law_errands ?l_law_errands ?c_law_errands ?k_law_errands
      (case a_law_errands=>k_is); (case l_law_errands=>k_is); (case c_law_errands=>k_is); (case k_law_errands=>k_is)
    have f_law_ranks:RS.aY (L2.KOf KX) mg "_law_ranks" RS.lK ["_law_script", "_law_at", "_law_many"]:=by
      delta L2.KOf
      refine' RS.a5 KX G (fun _ _ _ _ _ _ us hl=>by obtain ⟨_,_,_,rfl⟩:=RS.k8 hl; rfl) ?a_law_ranks ?l_law_ranks ?c_law_ranks ?k_law_ranks
      (case a_law_ranks=>k_is); (case l_law_ranks=>k_is); (case c_law_ranks=>k_is); (case k_law_ranks=>k_is)
    have f_law:RS.aY (L2.KOf KX) mg "law" RS.uy ["_law_script"]:=by
      delta L2.KOf
      refine' RS.a5 KX G (fun _ _ _ _ _ _ us hl=>by obtain ⟨_,rfl⟩:=RS.sV hl; rfl) ?a_law ?l_law ?c_law ?k_law
      (case a_law=>k_is); (case l_law=>k_is); (case c_law=>k_is); (case k_law=>k_is)
    have b_all:mg "all"=none:=by
      refine' PySem.W.mg_none_of KX G ?z_all
      (case z_all=>k_is)
    have b_any:mg "any"=none:=by
      refine' PySem.W.mg_none_of KX G ?z_any
      (case z_any=>k_is)
    have b_bool:mg "bool"=none:=by
      refine' PySem.W.mg_none_of KX G ?z_bool
      (case z_bool=>k_is)
    have b_enumerate:mg "enumerate"=none:=by
      refine' PySem.W.mg_none_of KX G ?z_enumerate
      (case z_enumerate=>k_is)
    have b_int:mg "int"=none:=by
      refine' PySem.W.mg_none_of KX G ?z_int
      (case z_int=>k_is)
    have b_isinstance:mg "isinstance"=none:=by
      refine' PySem.W.mg_none_of KX G ?z_isinstance
      (case z_isinstance=>k_is)
    have b_len:mg "len"=none:=by
      refine' PySem.W.mg_none_of KX G ?z_len
      (case z_len=>k_is)
    have b_list:mg "list"=none:=by
      refine' PySem.W.mg_none_of KX G ?z_list
      (case z_list=>k_is)
    have b_max:mg "max"=none:=by
      refine' PySem.W.mg_none_of KX G ?z_max
      (case z_max=>k_is)
    have b_min:mg "min"=none:=by
      refine' PySem.W.mg_none_of KX G ?z_min
      (case z_min=>k_is)
    have b_range:mg "range"=none:=by
      refine' PySem.W.mg_none_of KX G ?z_range
      (case z_range=>k_is)
    have b_set:mg "set"=none:=by
      refine' PySem.W.mg_none_of KX G ?z_set
      (case z_set=>k_is)
    have b_sorted:mg "sorted"=none:=by
      refine' PySem.W.mg_none_of KX G ?z_sorted
      (case z_sorted=>k_is)
    have b_sum:mg "sum"=none:=by
      refine' PySem.W.mg_none_of KX G ?z_sum
      (case z_sum=>k_is)
    have b_tuple:mg "tuple"=none:=by
      refine' PySem.W.mg_none_of KX G ?z_tuple
      (case z_tuple=>k_is)
    have c_LEAST_EVERY:∃ t,mg "LEAST_EVERY"=some (.int 2 t):=by
      refine' RS.jr KX G ?z_LEAST_EVERY
      (case z_LEAST_EVERY=>k_is)
    have c_MOST_ERRANDS:∃ t,mg "MOST_ERRANDS"=some (.int 6 t):=by
      refine' RS.jr KX G ?z_MOST_ERRANDS
      (case z_MOST_ERRANDS=>k_is)
    have c_MOST_EVERY:∃ t,mg "MOST_EVERY"=some (.int 60 t):=by
      refine' RS.jr KX G ?z_MOST_EVERY
      (case z_MOST_EVERY=>k_is)
    have c_MOST_HANDS:∃ t,mg "MOST_HANDS"=some (.int 4 t):=by
      refine' RS.jr KX G ?z_MOST_HANDS
      (case z_MOST_HANDS=>k_is)
    have c_MOST_LATE:∃ t,mg "MOST_LATE"=some (.int 20 t):=by
      refine' RS.jr KX G ?z_MOST_LATE
      (case z_MOST_LATE=>k_is)
    have c_MOST_LENGTH:∃ t,mg "MOST_LENGTH"=some (.int 20 t):=by
      refine' RS.jr KX G ?z_MOST_LENGTH
      (case z_MOST_LENGTH=>k_is)
    have c_MOST_PARTS:∃ t,mg "MOST_PARTS"=some (.int 4 t):=by
      refine' RS.jr KX G ?z_MOST_PARTS
      (case z_MOST_PARTS=>k_is)
    have c_TOOLS:∃ t,mg "TOOLS"=some (.int 4 t):=by
      refine' RS.jr KX G ?z_TOOLS
      (case z_TOOLS=>k_is)
    obtain ⟨C_NoErrand,C_NoErrands,C_NoRanks,e_NoErrand,e_NoErrands,e_NoRanks⟩:∃ C_NoErrand C_NoErrands C_NoRanks:Addr,L2.wB (L2.KOf KX) mg "NoErrand" C_NoErrand∧L2.wB (L2.KOf KX) mg "NoErrands" C_NoErrands∧L2.wB (L2.KOf KX) mg "NoRanks" C_NoRanks:=by
      delta L2.KOf
      refine' ⟨_,_,_,RS.uP KX G ?a_NoErrand ?e_NoErrand,RS.uP KX G ?a_NoErrands ?e_NoErrands,RS.uP KX G ?a_NoRanks ?e_NoRanks⟩
      (case a_NoErrand=>k_is); (case e_NoErrand=>k_exc)
      (case a_NoErrands=>k_is); (case e_NoErrands=>k_exc)
      (case a_NoRanks=>k_is); (case e_NoRanks=>k_exc)
    obtain ⟨C_Holding,m_Holding,cl_Holding,na_Holding_number,na_Holding_part,na_Holding_tool,na_Holding_times,mk_Holding⟩:∃ C:Addr,mg "Holding"=some (.ref C)∧L2.Cls (L2.KOf KX) C∧PySem.W.findIn (L2.KOf KX) (.ref C) "number"=some none∧PySem.W.findIn (L2.KOf KX) (.ref C) "part"=some none∧PySem.W.findIn (L2.KOf KX) (.ref C) "tool"=some none∧PySem.W.findIn (L2.KOf KX) (.ref C) "times"=some none∧∃ f fd,L2.Mk (L2.KOf KX) C f∧L2.Fun (L2.KOf KX) "__init__" "Holding.__init__" RS.mW f fd∧L2.Binds (L2.KOf KX) fd ["self", "number", "part", "tool", "times"] []:=by
      delta L2.KOf
      refine' ⟨_,PySem.W.mg_of KX G ?ac_Holding,⟨?pg_Holding,?hd_Holding,?po_Holding,?sa_Holding⟩,?n0_Holding,?n1_Holding,?n2_Holding,?n3_Holding,L2.Ef (fun _ _ _ _ _ _ us hl=>by obtain ⟨_,_,_,_,_,rfl⟩:=RS.Gb hl; rfl) ?ai_Holding ?ii_Holding ?li_Holding ?ci_Holding ?ki_Holding ?mk_Holding ?kc_Holding⟩
      (case ac_Holding=>k_is); (case pg_Holding=>k_is); (case hd_Holding=>k_is); (case po_Holding=>k_is); (case sa_Holding=>k_is); (case n0_Holding=>k_is); (case n1_Holding=>k_is); (case n2_Holding=>k_is); (case n3_Holding=>k_is); (case ai_Holding=>k_is); (case ii_Holding=>k_is); (case li_Holding=>k_is); (case ci_Holding=>k_is); (case ki_Holding=>k_is); (case mk_Holding=>k_is); (case kc_Holding=>k_is)
    have T:RS.Tx (L2.KOf KX) mg ⟨0,C_NoErrands,C_NoRanks,0,C_NoErrand,0,0,0,C_Holding,0⟩:=⟨f_is_whole,f_is_tuple,f_is_part,f_are_parts,f_is_errand,f_checked,f_checked_ranks,f_checked_number,f_check_place,f_work_of,f_has_tool,f_height,f_heights_of,f_holdings,f_hold_by_high,f_rounded_up,f_need,f_levels_by,f_longest_by,f_longest_by_high,f_has_room,f_is_in_time,f_hold,f_longest,f_as_lowest,f_not_placed,f_following_lowest,f_placed_from_below,f_ranks_with_room,f_fitting,f_do_fit,f_with_errand,f_with_longer_end,f_spare,f_share_a_tool,f_bundled,f_fit_one_hand,f_all_dealt,f_dealing_to,f_fewest_hands,f_law_cell_at,f_law_mixed,f_law_errand,f_law_errands,f_law_ranks,f_law,b_all,b_any,b_bool,b_enumerate,b_int,b_isinstance,b_len,b_list,b_max,b_min,b_range,b_set,b_sorted,b_sum,b_tuple,c_LEAST_EVERY,c_MOST_ERRANDS,c_MOST_EVERY,c_MOST_HANDS,c_MOST_LATE,c_MOST_LENGTH,c_MOST_PARTS,c_TOOLS,e_NoErrand,e_NoErrands,e_NoRanks,cl_Holding,na_Holding_number,na_Holding_part,na_Holding_tool,na_Holding_times,mk_Holding,m_Holding⟩
    exact ⟨f_law,fun f fd F base hb hn=>RS.law_ok T F⟩
