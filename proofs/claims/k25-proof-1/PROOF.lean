import PyProof.Rows.All
import OpenK.AllK
import KE.KNestM
import PySem.Challenge.RW_ranksure_k25_refused
import KE.RegKIsAll
import Wide.All
import OpenK.KWalk
import OpenK.KMake
import OpenK.KDescr
import OpenK.KCall
import OpenK.KOwn
import KE.KIsAll
import KE.KItem
import KE.KxBytes
import Wide.FinOn
import Lean
import PyProof.EqAt
import PyProof.EqKinds
import PyProof.TupleCall
import KE.LcSums
import PyProof.Rows.EqDataRows
import PyProof.RulesAs
import PyProof.ZipIter
import PyProof.Draws
import PyProof.Rows.TupAdd
import PyProof.ListMulRoad
import PyProof.AutoListH
import PyProof.Rows.Range3
import PyProof.ListRange
import PyProof.EnumMake
import PyProof.EnumFor
import PyProof.Rows.SetFrom
import PyProof.WalksMore
import PyProof.StrOps2
import PyProof.Rows.MinMaxN
import PyProof.ConsumeWalk
import PyProof.Rows.SortWalk
import PyProof.ExcArgsOwn
import PyProof.StrBlock2
import KE.KMinKey
import PyProof.Rows.CallKwBuiltin
import KE.KLam
import KE.KDictLaws
import KE.KDictMeth
import KE.KDictObj
import KE.KDictLetter
import OpenK.KDict
import KE.KDictOf
import PyProof.Rows.RegDictMethods
import PySem.PyData
noncomputable section
set_option genSizeOf false
set_option genSizeOfSpec false
set_option genInjectivity false
set_option compiler.extract_closed false
set_option bootstrap.genMatcherCode false
set_option Elab.async false
set_option linter.all false
abbrev B0:=@PySem.Heap.get?_push_of_some
abbrev B1:=@List.size_toArray
abbrev B2:=@List.getElem?_eq_getElem
abbrev B3:=@List.length_map
abbrev B4:=@PySem.Heap.lt_size
abbrev B5:=@Nat.le_refl
abbrev B6:=@Nat.lt_of_lt_of_le
abbrev B7:=@List.mem_singleton
abbrev B8:=@List.mem_cons
abbrev B9:=@Nat.ne_of_lt
abbrev Bq:=@List.not_mem_nil
abbrev Br:=@PySem.Heap.get?_push_size
abbrev Bs:=@Bool.and_eq_true
abbrev Bt:=@List.length_append
abbrev Bu:=@List.mem_cons_of_mem
abbrev Bv:=@List.mem_append_right
abbrev Bw:=@List.getElem?_set_ne
abbrev Bx:=@Bool.false_ne_true
abbrev By:=@List.mem_cons_self
abbrev Bz:=@List.mem_map
abbrev BA:=@List.mem_append
abbrev BB:=@List.getElem?_set_self
abbrev BC:=@List.map_cons
abbrev BD:=@List.getD_eq_getElem?_getD
abbrev BE:=@List.mem_append_left
abbrev BF:=@Option.map_eq_some_iff
abbrev BG:=@List.all_eq_true
abbrev BH:=@List.length_cons
abbrev BI:=@List.getElem?_eq_some_iff
abbrev BJ:=@List.getElem?_append_left
abbrev BK:=@List.getElem?_map
abbrev BL:=@Bool.and_eq_false_iff
abbrev BM:=@Int.toNat_natCast
abbrev BN:=@List.replicate_succ
abbrev BO:=@Nat.le_add_right
abbrev BP:=@List.map_map
abbrev BQ:=@List.getElem?_append_right
abbrev BR:=@Bool.and_eq_true_iff
abbrev BS:=@Nat.le_trans
abbrev BU:=@List.flatten_cons
abbrev BV:=@List.map_congr_left
abbrev BW:=@List.length_drop
abbrev BX:=@Int.emod_lt_of_pos
abbrev BY:=@Nat.le_of_ble_eq_true
abbrev BZ:=@List.nodup_cons
abbrev C0:=@List.length_singleton
abbrev C1:=@Nat.lt_irrefl
abbrev C3:=@List.lookup_cons
abbrev C4:=@List.getElem?_replicate
abbrev C5:=@List.length_eq_zero_iff
abbrev C6:=@List.nil_append
abbrev C7:=@Int.emod_nonneg
abbrev C8:=@Nat.lt_succ_of_lt
abbrev C9:=@Bool.and_false
abbrev Ca:=@List.length_take
abbrev Cb:=@List.mem_of_mem_drop
abbrev Cc:=@List.filterMap_cons
abbrev Cd:=@Array.length_toList
abbrev Ce:=@List.find?_cons
abbrev Cf:=@Nat.ne_of_gt
abbrev Cg:=@List.set_cons_succ
abbrev Ci:=@List.set_cons_zero
abbrev Cj:=@List.getElem?_cons_succ
abbrev Ck:=@List.getElem?_cons_zero
abbrev Cm:=@PySem.Heap.get?_update_other
abbrev Cn:=@Option.bind_some
abbrev Co:=@Array.getElem?_toList
abbrev Cp:=@List.set_append_right
abbrev Cq:=@Bool.eq_iff_iff
abbrev Cr:=@List.append_nil
abbrev Ct:=@List.length_set
abbrev Cu:=@List.map_append
abbrev Cv:=@Nat.zero_add
abbrev Cw:=@Bool.false_and
abbrev Cy:=@List.nodup_nil
abbrev Cz:=@Nat.zero_le
abbrev CA:=@List.mem_filterMap
abbrev CB:=@List.append_assoc
abbrev CC:=@List.length_range
abbrev CD:=@Nat.le_succ
abbrev CF:=@List.map_id
variable {p pos pos' cpos p2:Pos} {q P:Program} {loose N ps own:List Str} {us its' bm:List Value} {a b it C f t c D ea:Addr} {h base h' B:Heap} {items:Array Value} {α β:Type} {w:World} {g':Array GenState} {ch A fp:List Addr} {i j k n:Nat} {x qual:Str} {M:Model} {E Q:Value->Shared->Prop} {u cd pm ct oc cls a0:Value} {s' s:Shared} {e tg iter elt:Expr} {pins:List (Addr×Obj)} {K:PySem.W.Frag} {es ifs elts l1 l2:List Expr} {lo hi:Option Int} {body:List Stmt} {fd:FuncData} {mg mb:Str->Option Value} {scope:Scope} {outer:List Env} {an od:Option Addr} {osl:Array (Option Value)} {ns:List Int} {YP:World->Heap->Prop} {l:PySem.W.OpenLaw} {st:Stmt} {env:Env} {ds L R:List PyData} {newId:String} {oe:Obj} {O:List Nat} {many y:Int} {mean:ExcName->Option Value}
namespace RS
open PySem PySem.W PyProof.Rows
def fq (p:Program) (w:World) (m:Nat) (ann:Option Value):Nat->SharedT->Thread->Option SharedT
 |0,_,_=>none
 |n+1,s,t=>match through t with
  |true=>some s
  |false=>match Fast.tw6613529449190102663 m ann t with
   |false=>none
   |true=>match Fast.tw10156331382660048174 (Fast.tw11892475500146522536 Fast.tw14364793385576792824) p w s t with
    |some x=>fq p w m ann n x.1 x.2
    |none=>none
theorem nS {p:Program} {w:World} {m:Nat} {ann:Option Value}:∀{n:Nat} {s s':SharedT} {t:Thread},fq p w m ann n s t=some s'->topRun treeTable p w m ann n s.abs t=some s'.abs
 |0,_,_,_,h=>by cases h
 |n+1,s,s',t,h=>by
  unfold fq at h;rw[<-Fast.te6613529449190102663,<-Fast.te10156331382660048174,<-Fast.te11892475500146522536,<-Fast.te14364793385576792824]at h;unfold topRun;cases ht:through t with
  |true=>rw[ht]at h;cases h;rfl
  |false =>
   rw[ht]at h;cases hk:stepOk m ann t with
   |false=>rw[hk]at h;cases h
   |true =>
    rw[hk]at h;cases hs:stepT (denote treeTable) p w s t with
    |none=>rw[hs]at h;cases h
    |some x =>rw[hs]at h;rw[stepT_spec (s':=x.1) (t':=x.2) hs];exact nS h
noncomputable def yp (l:List Obj):BT:=(l.foldl (λx o=>(x.1.ins x.2 o,x.2+1)) (BT.nil,0)).1
def hdS (w:World) (os:OsState):SharedT:=⟨yp (boot_heap w.params).objs.toList,11,(boot_heap w.params).life,Array.mk [],boot_drawn,boot_toks,os⟩
theorem vB (w:World):(λos=>(hdS w os).abs)=λos=>⟨boot_heap w.params,Array.mk [],boot_drawn,boot_toks,os⟩:=by kernel_rfl
theorem wQ (w:World):((boot_heap w.params).isNs mainGlobals&&(Array.mk []:Array GenState).size==0,(boot_heap w.params).objs.size,(boot_heap w.params).nsMap mainGlobals "__annotations__")=(true,11,some (.ref 6)):=by kernel_rfl
def xS (p:Program) (h:Heap) (s:Shared):Bool:=staticsOk (importedModules p.main.body) h s.heap&&namesBound p s.heap&&gensDone s&&laidKept h s.heap
def pY (s:SharedT) (a:Addr):Option Obj:=match Nat.blt a s.n with
 |true=>alive ((s.tree.get a).getD default)
 |false=>none
theorem ur (s:SharedT):pY s=s.abs.heap.get?:=by
 funext a;unfold pY SharedT.abs Heap.get?;rw[absHeap_at];cases h:Nat.blt a s.n with
 |true =>rw[if_pos (show a<s.n from BY h)];show alive _=_;generalize (s.tree.get a).getD default=o;obtain⟨c,d,b,sl⟩:=o;cases b <;> rfl
 |false=>rw[if_neg (λz=>by rw[show Nat.blt a s.n=true from Nat.ble_eq_true_of_le z]at h;cases h)]
def iE (p:Program):List DefRec:=p.main.body.filterMap λst=>match st with
 |.FunctionDef name a b [] _ [] sc _ _ pos=>(match a.defaults,kwLiteralsOf? a.kwonlyargs a.kw_defaults with
  |[],some []=>some ⟨name,a,b,sc,pos⟩
  |_,_=>none)
 |_=>none
theorem yi {p:Program} {Xt:Shared->Bool} {g:Params->Frag} {as ts:List Addr} {h:∀P,as=(g P).map (·.1)} {N M:Nat}
  (e:opening p=plainProg p.main.scope.names) (F:Nat.ble 600 N=true) (f:∀s,fenceModules? p s=some s) (le:Nat.ble M N=true) (G:recsOf q=iE q) (H:looseW q loose=[]) (I:(wdefsOf q,wlitsOf q)=([],[]))
  (h1:∀w,(λos=>(fq p w 11 (some (.ref 6)) M (hdS w os) (topStub p)).map λs=>(xS p (boot_heap w.params) s.abs,(s.abs.heap.bltView,s.abs.heap.bmainOk&&valsOk q s.abs.heap,!importsNone q||s.abs.heap.noSeerOk),(s.abs.heap.accountedOkI (importedModules p.main.body)&&s.abs.heap.isNs mainGlobals&&s.abs.heap.isNs builtinsNs&&tablesOk q s.abs.heap&&Xt s.abs&&(if true then s.abs.gens.size==0 else !leftWithCleanup s.abs.gens))))=λ_=>some (true,(bltViewBooted,true,true),true))
  (h2:∀w,(λos=>(fq p w 11 (some (.ref 6)) M (hdS w os) (topStub p)).map λs=>seen ((iE q).map (·.name)) (ownsOf q) [] { s.abs with gens:=#[] })=λ_=>some ⟨(iE q).map λd=>some d.shape,true,[],true,true,true,0⟩)
  (J:∀w,(λos=>(fq p w 11 (some (.ref 6)) M (hdS w os) (topStub p)).map λs=>s.abs.heap.keysOk [] ((iE q).map (·.name)) ((litsOf q).map (·.1)) ((clssOf q []).map (·.name)))=λ_=>some true)
  (K:∀w,(λos=>(fq p w 11 (some (.ref 6)) M (hdS w os) (topStub p)).map λs=>(iE q).all λd=>s.abs.heap.tab0Ok d.name)=λ_=>some true)
  (L:∀w,(λos=>(fq p w 11 (some (.ref 6)) M (hdS w os) (topStub p)).map λs=>((pinSeenD q (drecsOf q) s.abs,plainSeenD q loose s.abs,clsSeenW q loose s.abs),plainSeenE q [] s.abs))=λ_=>some ((pinGoodD (drecsOf q),plainGoodD q loose,clsGoodW q loose),plainGoodE q []))
  (i:∀w,(λos=>(fq p w 11 (some (.ref 6)) M (hdS w os) (topStub p)).map λs=>(as.map (pY s),ts.map (pY s)))=λ_=>some ((kmHook g as h ts).val w)):LeftO p q loose Xt (kmHook g as h ts).obs (kmHook g as h ts).val N:=λw=>by
 obtain⟨⟨O,gs,d,k,os⟩,e1,Q⟩:=BF.mp (boot_open e F f w);obtain⟨rfl,rfl,rfl,rfl⟩:O=boot_heap w.params/\gs=Array.mk []/\d=boot_drawn/\k=boot_toks:=by simpa using Q
 obtain⟨z1,z2,z3⟩:_/\_/\_:=by simpa only[Prod.mk.injEq] using wQ w
 obtain⟨s,y,R⟩:=BF.mp (congrFun (h1 w) os);obtain⟨l1,l3,z⟩:_/\_/\_:=by simpa only[Prod.mk.injEq] using R
 obtain⟨s2,A,l2⟩:=BF.mp (congrFun (h2 w) os);obtain⟨s4,B,j⟩:=BF.mp (congrFun (J w) os);obtain⟨s6,C,l6⟩:=BF.mp (congrFun (K w) os);obtain⟨s7,D,S⟩:=BF.mp (congrFun (L w) os);obtain⟨s10,b,c⟩:=BF.mp (congrFun (i w) os);rw[y]at A B C D b;cases A;cases B;cases C;cases D;cases b;obtain⟨a,E⟩:=Prod.mk.inj S;obtain⟨T,U⟩:=Prod.mk.inj I;unfold xS at l1;have r:=nS y;rw[congrFun (vB w) os]at r;have r:=topRun_mono (N-M) _ _ _ _ r;rw[show M+(N-M)=N by have:=BY le;omega]at r;unfold openEnds;rw[e1];show (topFrom treeTable p w N _).map _=_;have t:topFrom treeTable p w N ⟨boot_heap w.params,Array.mk [],boot_drawn,boot_toks,os⟩=some s.abs:=by unfold topFrom;dsimp only;rw[z1,z2,z3,r];show (match staticsOk (importedModules p.main.body) (boot_heap w.params) s.abs.heap&&namesBound p s.abs.heap&&gensDone s.abs&&laidKept (boot_heap w.params) s.abs.heap with|true=>_|false=>_)=_;rw[l1]
 rw[t];rw[ur]at c;refine congrArg some (Prod.ext ?_ c);obtain⟨l,m,n⟩:_/\_/\_:=by simpa only[Prod.mk.injEq] using l3
 obtain⟨a,o,u⟩:_/\_/\_:=by simpa only[Prod.mk.injEq] using a
 obtain⟨v,x⟩:=BR.mp m;simp only[Bs]at z;obtain⟨⟨⟨⟨⟨k2,W⟩,X⟩,k5⟩,Y⟩,Z⟩:=z;rw[<-G]at l2 j l6;rw[<-H]at j E;refine Prod.ext l2 (Prod.ext l (Prod.ext ?_ (Prod.ext ?_ (Prod.ext a (Prod.ext E (Prod.ext o (Prod.ext ?_ u)))))))
 ·show (_&&_)=true;simp only[Bs];exact⟨⟨⟨⟨⟨⟨j,k2⟩,W⟩,X⟩,k5⟩,Y⟩,Z⟩
 ·show tabsOk q s.abs=true;unfold tabsOk;rw[l6,v,x,n];rfl
 ·show wideSeen q s.abs=wideGood q;unfold wideSeen wideGood;rw[T,U];rfl
end RS
def PySem.W.Fast.tw1521468332560862070:PySem.Program:=PySem.Challenge.pw_ranksure_k25_refused
theorem PySem.W.Fast.te1521468332560862070:PySem.Challenge.pw_ranksure_k25_refused=PySem.W.Fast.tw1521468332560862070:=rfl
section
open PySem PySem.W PyProof.Rows
noncomputable def RS.vw:Program:=view PySem.Challenge.pw_ranksure_k25_refused [1,2,3,4,5,6,7,8,10,11,12,13,14,15,16,17,18,19,20,21,22,23,24,25,26,27,28,29,30,31,33,34,35,36,37,38,39,40,41,42,43,44,45,46,47,49,50,51,52,53,54,55,56,57,58,59,60,61,62,63,64,65,66,67,68,69,71,72,73,74,75,76,77,78,80,81,82,83,84,85,86,87,88,89,90,91,92,93,94,95,96,98,99,100,101,102,103,104,105,107,108,109,110,111,112,114,115,116,118,119,120,122,123,124,125,126,127,128,129,130,131]
set_option maxRecDepth 100000 in
set_option maxHeartbeats 0 in
theorem RS.hd1:∀w,(λos=>(RS.fq PySem.Challenge.pw_ranksure_k25_refused w 11 (some (.ref 6)) 5506 (RS.hdS w os) (topStub PySem.Challenge.pw_ranksure_k25_refused)).map λs=>(RS.xS PySem.Challenge.pw_ranksure_k25_refused (boot_heap w.params) s.abs,(s.abs.heap.bltView,s.abs.heap.bmainOk&&valsOk RS.vw s.abs.heap,!importsNone RS.vw||s.abs.heap.noSeerOk),(s.abs.heap.accountedOkI (importedModules PySem.Challenge.pw_ranksure_k25_refused.main.body)&&s.abs.heap.isNs mainGlobals&&s.abs.heap.isNs builtinsNs&&tablesOk RS.vw s.abs.heap&&(λs=>xlAt RS.vw [] s&&recOk (RowW.records (OpenRow.toRowW (OpenLaw.row PySem.Challenge.rw_ranksure_k25_refused))) s) s.abs&&(if true then s.abs.gens.size==0 else !leftWithCleanup s.abs.gens))))=λ_=>some (true,(bltViewBooted,true,true),true):=by intro w;kernel_rfl
set_option maxRecDepth 100000 in
set_option maxHeartbeats 0 in
theorem RS.hd2:∀w,(λos=>(RS.fq PySem.Challenge.pw_ranksure_k25_refused w 11 (some (.ref 6)) 5506 (RS.hdS w os) (topStub PySem.Challenge.pw_ranksure_k25_refused)).map λs=>seen ((RS.iE RS.vw).map (·.name)) (ownsOf RS.vw) [] { s.abs with gens:=#[] })=λ_=>some ⟨(RS.iE RS.vw).map λd=>some d.shape,true,[],true,true,true,0⟩:=by intro w;kernel_rfl
set_option maxRecDepth 100000 in
set_option maxHeartbeats 0 in
theorem RS.hd4:∀w,(λos=>(RS.fq PySem.Challenge.pw_ranksure_k25_refused w 11 (some (.ref 6)) 5506 (RS.hdS w os) (topStub PySem.Challenge.pw_ranksure_k25_refused)).map λs=>s.abs.heap.keysOk [] ((RS.iE RS.vw).map (·.name)) ((litsOf RS.vw).map (·.1)) ((clssOf RS.vw []).map (·.name)))=λ_=>some true:=by intro w;kernel_rfl
set_option maxRecDepth 100000 in
set_option maxHeartbeats 0 in
theorem RS.hd6:∀w,(λos=>(RS.fq PySem.Challenge.pw_ranksure_k25_refused w 11 (some (.ref 6)) 5506 (RS.hdS w os) (topStub PySem.Challenge.pw_ranksure_k25_refused)).map λs=>(RS.iE RS.vw).all λd=>s.abs.heap.tab0Ok d.name)=λ_=>some true:=by intro w;kernel_rfl
set_option maxRecDepth 100000 in
set_option maxHeartbeats 0 in
theorem RS.hd7:∀w,(λos=>(RS.fq PySem.Challenge.pw_ranksure_k25_refused w 11 (some (.ref 6)) 5506 (RS.hdS w os) (topStub PySem.Challenge.pw_ranksure_k25_refused)).map λs=>((pinSeenD RS.vw (drecsOf RS.vw) s.abs,plainSeenD RS.vw [] s.abs,clsSeenW RS.vw [] s.abs),plainSeenE RS.vw [] s.abs))=λ_=>some ((pinGoodD (drecsOf RS.vw),plainGoodD RS.vw [],clsGoodW RS.vw []),plainGoodE RS.vw []):=by intro w;kernel_rfl
set_option maxRecDepth 100000 in
set_option maxHeartbeats 0 in
theorem RS.hdR:recsOf RS.vw=RS.iE RS.vw:=by kernel_rfl
set_option maxRecDepth 100000 in
set_option maxHeartbeats 0 in
theorem RS.hdL:looseW RS.vw []=[]:=by kernel_rfl
set_option maxRecDepth 100000 in
set_option maxHeartbeats 0 in
theorem RS.hdW:(wdefsOf RS.vw,wlitsOf RS.vw)=([],[]):=by kernel_rfl
local macro_rules | `(tactic| o_head $H)=>`(tactic| (refine holds_open (N:=10912) (Xt:=λs=>xlAt RS.vw [] s&&recOk (RowW.records (OpenRow.toRowW (OpenLaw.row PySem.Challenge.rw_ranksure_k25_refused))) s) (XP:=XL RS.vw []) (q:=RS.vw) (loose:=[]) (Yf:=Hook.obs $H) (Ya:=Hook.val $H) (YP:=Hook.says $H) ?hl (Hook.of $H) (Hook.keeps $H) (λs e=>xl_of s (BR.mp e).1) XL.keeps (by rfl) (by rfl) (by rfl) (λs e=>recFacts_of (BR.mp e).2) (by rfl) (by assumption) (by decide +kernel) ⟨rfl,rfl,rfl,rfl,rfl,by decide +kernel⟩ ?hw ?hc;(case hl=>refine RS.yi (M:=5506) (by kernel_rfl) (by rfl) (by intro s;kernel_rfl) (by rfl) RS.hdR RS.hdL RS.hdW RS.hd1 RS.hd2 RS.hd4 RS.hd6 RS.hd7 λw=>?_;kernel_rfl)))
set_option maxRecDepth 100000 in
set_option maxHeartbeats 0 in
open_top RS.hdTop for PySem.Challenge.rw_ranksure_k25_refused
end
set_option maxRecDepth 100000
namespace L2
open PySem PySem.Spec PyProof.Rows
variable {g:Int->Int->Int} {A:Around} {o:Obj}
abbrev Key:=Sum Int Str
def wu:Key->Value->Bool
 |.inl k,v=>Value.isInt k v
 |.inr x,v=>Value.isStrOf x v
def zG (w:World):Key->Int
 |.inl k=>hashInt k
 |.inr x=>hashStr w x
theorem bW:∀{k:Key} {v:Value},wu k v=true->(∃i t,k=Sum.inl i/\v=Value.int i t)\/(∃x t,k=Sum.inr x/\v=Value.str x t)
 |.inl i,v,h=>by obtain⟨t,e⟩:=Value.isInt_shape (k:=i) (v:=v) h;exact .inl ⟨i,t,rfl,e⟩
 |.inr x,v,h=>by obtain⟨t,e⟩:=Value.isStrOf_shape (x:=x) (v:=v) h;exact .inr ⟨x,t,rfl,e⟩
theorem yw (a b:Int):decide ((Sum.inl a:Key)=Sum.inl b)=(a==b):=by
 by_cases e:a=b
 ·subst e;simp
 ·have h:¬ (Sum.inl a:Key)=Sum.inl b:=λq=>e (Sum.inl.inj q)
  rw[decide_eq_false h];exact (beq_eq_false_iff_ne.mpr e).symm
theorem xu (a b:Str):decide ((Sum.inr a:Key)=Sum.inr b)=decide (a=b):=by
 by_cases e:a=b
 ·subst e;simp
 ·have h:¬ (Sum.inr a:Key)=Sum.inr b:=λq=>e (Sum.inr.inj q)
  rw[decide_eq_false h,decide_eq_false e]
theorem yg (a:Int) (b:Str):decide ((Sum.inl a:Key)=Sum.inr b)=false:=decide_eq_false (λq=>nomatch q)
theorem wF (a:Str) (b:Int):decide ((Sum.inr a:Key)=Sum.inl b)=false:=decide_eq_false (λq=>nomatch q)
def pX (prog:Program) (w:World):PySem.KeyKind prog w Key where
 is:=wu
 hash:=zG w
 inj:=λv a b ha f=>by
  rcases bW ha with⟨i,t,rfl,rfl⟩|⟨x,t,rfl,rfl⟩
  ·rcases bW f with⟨j,u,rfl,e⟩|⟨y,u,rfl,e⟩
   ·injection e with e1 _;rw[e1]
   ·exact nomatch e
  ·rcases bW f with⟨j,u,rfl,e⟩|⟨y,u,rfl,e⟩
   ·exact nomatch e
   ·injection e with e1 _;rw[e1]
 byValue:=λk v h=>by rcases bW h with⟨i,t,rfl,rfl⟩|⟨x,t,rfl,rfl⟩ <;> rfl
 pyHash:=λc h=>by
  rcases bW c with⟨i,t,rfl,rfl⟩|⟨x,t,rfl,rfl⟩
  ·exact wpAny_pyHash_int h
  ·exact wpAny_pyHash_str h
 eqBool:=λg c h=>by
  rcases bW g with⟨i,t,rfl,rfl⟩|⟨x,t,rfl,rfl⟩
  ·rcases bW c with⟨j,u,rfl,rfl⟩|⟨y,u,rfl,rfl⟩
   ·rw[yw]at h;exact wpAny_eqBool_int h
   ·rw[yg]at h;exact SeqAt.EqAt.int_str i t y u _ _ _ _ h
  ·rcases bW c with⟨j,u,rfl,rfl⟩|⟨y,u,rfl,rfl⟩
   ·rw[wF]at h;exact SeqAt.EqAt.str_int x t j u _ _ _ _ h
   ·rw[xu]at h;exact wpAny_eqBool_str h
 «strs»:=λk x t v h=>by
  rcases bW h with⟨i,u,rfl,e⟩|⟨y,u,rfl,e⟩
  ·exact nomatch e
  ·injection e with e1 _
   subst e1;cases v <;> rfl
set_option genInjectivity true in
inductive V where
 |non|bl (b:Bool)|int (i:Int)|str (x:Str)|byt (b:Array UInt8)|flt (b:UInt64)|ref (a:Addr)|ty (n:String)
 deriving DecidableEq
variable {xs:List V}
noncomputable def RelV:V->Value->Prop
 |.non,u=>u=Value.none
 |.bl b,u=>u=Value.bool b
 |.int i,u=>∃t,u=Value.int i t
 |.str x,u=>∃t,u=Value.str x t
 |.byt b,u=>∃t,u=Value.bytes b t
 |.flt b,u=>∃t,u=Value.float b t
 |.ref a,u=>u=Value.ref a
 |.ty n,u=>u=Value.type n
abbrev Vals:List V->List Value->Prop:=Paired RelV
theorem Vals.length (r:Vals xs us):xs.length=us.length:=Paired.length r
theorem Vals.get:∀{xs:List V} {us:List Value} {i:Nat} {x:V},Vals xs us->xs[i]?=some x->∃u,us[i]?=some u/\RelV x u
 |_,_,_,_,.nil,e=>by simp at e
 |_,_,0,_,.cons r _,e=>by simp at e;subst e;exact⟨_,rfl,r⟩
 |_,_,i+1,x,.cons _ t,e=>by obtain⟨u,h1,h2⟩:=Vals.get (i:=i) (x:=x) t (by simpa using e);exact⟨u,by simpa using h1,h2⟩
theorem Vals.set {x:V} {u:Value} (r:RelV x u):∀{xs:List V} {us:List Value} (i:Nat),Vals xs us->Vals (xs.set i x) (us.set i u)
 |_,_,_,.nil=>.nil
 |_,_,0,.cons _ t=>.cons r t
 |_,_,i+1,.cons q t=>.cons q (Vals.set r i t)
theorem Vals.append {ys:List V} {a:List Value} (h:Vals xs us) (s:Vals ys a):Vals (xs++ys) (us++a):=by
 induction h with
 |nil=>exact s
 |cons r t ih=>exact .cons r ih
theorem Vals.take:∀{xs:List V} {us:List Value} (n:Nat),Vals xs us->Vals (xs.take n) (us.take n)
 |_,_,0,_=>.nil
 |_,_,_+1,.nil=>.nil
 |_,_,n+1,.cons r t=>.cons r (Vals.take n t)
theorem Vals.drop:∀{xs:List V} {us:List Value} (n:Nat),Vals xs us->Vals (xs.drop n) (us.drop n)
 |_,_,0,r=>r
 |_,_,_+1,.nil=>.nil
 |_,_,n+1,.cons _ t=>Vals.drop n t
def Aa:Option V->Option Value->Prop
 |some v,some u=>RelV v u
 |none,none=>True
 |_,_=>False
def KV {κ:Type}:List (κ×V)->List (κ×Value)->Prop:=Paired λ(p:κ×V) (q:κ×Value)=>p.1=q.1/\RelV p.2 q.2
def kV:Key->V
 |.inl i=>.int i
 |.inr x=>.str x
inductive HO where
 |lst (xs:List V)
 |tup (xs:List V)
 |dK (kvs:List (Key×V))|dT (kvs:List (List Key×V))
 |set (S:Int->Bool) (n:Nat)
 |ins (C dx:Addr) (fs:List (Str×V))
 |own (x:Addr)
 |xd (fs:List (Str×V))
 |met (f x:Addr)
 |rng (lo hi:Int)
 |frz (o:Obj) (u:HO)
 |tbl (q:Str)
 |ext (φ:Heap->Prop)
abbrev Hp:=Addr->Option HO
variable {R:V->V->Hp->Prop} {H:Hp}
noncomputable def upd (H:Hp) (a:Addr) (o:HO):Hp:=λb=>if b=a then some o else H b
theorem aV {o:HO}:upd H a o a=some o:=by unfold upd;rw[if_pos rfl]
theorem aN {o:HO} (h:b≠a):upd H a o b=H b:=by unfold upd;rw[if_neg h]
theorem aM {o:HO} (h:H a=some o) (h':H b=none):a≠b:=by intro e;subst e;rw[h]at h';cases h'
def mV (h:Heap) (a:Addr) (items:Array Value):Prop:=∃o,h.get? a=some o/\o.cls=.type "tuple"/\o.dict=none/\∃n,o.data=.seq items n
theorem mV.tup (x:mV h a items):IsTup h a items:=by obtain⟨o,e,c,_,n,d⟩:=x;exact⟨o,e,c,n,d⟩
theorem mV.new (h:Heap) (items:Array Value):mV (h.push { cls:=.type "tuple",data:=.seq items }) h.objs.size items:=⟨_,Br _ rfl,rfl,rfl,_,rfl⟩
section
variable (P:Program) (w:World)
def dC (H:Hp) (h:Heap) (a:Addr):HO->Prop
 |.lst xs=>xs.length<=sizeLine/\∃(b:List Value) (n:Nat),Vals xs b/\h.get? a=some { cls:=.type "list",data:=.seq b.toArray n }
 |.tup xs=>xs.length<=sizeLine/\∃b:List Value,Vals xs b/\mV h a b.toArray
 |.dK kvs=>kvs.length<=sizeLine/\(a==sysModules)=false/\∃vs,KV kvs vs/\h.DictOf (pX P w) a vs
 |.dT kvs=>kvs.length<=sizeLine/\(a==sysModules)=false/\∃xs:List (List Key×Addr×Value),
  Paired (λ(p:List Key×V) (q:List Key×Addr×Value)=>p.1=q.1/\H q.2.1=some (.tup (p.1.map kV))/\RelV p.2 q.2.2) kvs xs /\
  ∃o es g,h.get? a=some o/\o.ExactDict/\o.data=.dict es g/\es.toList=xs.map (entryOfKey (tupleKind (pX P w)))/\(xs.map (·.1)).Nodup
 |.set S n=>h.SetOf (intKind P w) a S n
 |.ins C dx fs=>H dx=some (.own a)/\fs.length<=1000/\dx≠a/\h.get? a=some (PySem.W.instObj C dx) /\
  ∃mA,h.Ns1 dx mA/\(∀f,Aa (fs.lookup f) (mA f))/\PySem.Within mA (fs.map (·.1))
 |.own _=>∃o,h.get? a=some o
 |.xd fs=>∃mA,h.Ns1 a mA/\∀f,Aa (fs.lookup f) (mA f)
 |.rng lo hi=>∃t u v,h.get? a=some { cls:=.type "range",data:=.fields #[.int lo t,.int hi u,.int 1 v] }
 |.frz o u=>h.get? a=some o/\dC H h a u
 |.tbl q=>∃ps:Array Value,h.get? a=some { cls:=.none,data:=.fields ps }/\TriplesOk ps.toList/\∀pos e,codeAmong pos ps.toList=some e->∃c o vs t,e=.ref c/\H c=some (.frz o (.own c))/\o.data=.fields vs/\vs[1]?=some (.str q t)
 |.met f x=>h.get? a=some (PySem.W.methodObj (.ref f) (.ref x))
 |.ext φ=>φ h/\(∃o,h.get? a=some o)/\∀h1 h2:Heap,φ h1->(∀o,h1.get? a=some o->h2.get? a=some o)->φ h2
def HOk (H:Hp) (h:Heap):Prop:=∀a o,H a=some o->dC P w H h a o
end
section
variable {H':Hp} {o:HO}
theorem dC.lt (x:dC P w H h a o):a<h.objs.size:=by
 cases o with
 |lst xs=>obtain⟨_,_,_,_,e⟩:=x;exact B4 e
 |tup xs=>obtain⟨_,_,_,p⟩:=x;exact p.tup.lt
 |dK kvs=>obtain⟨_,_,_,_,o,_,_,e,_⟩:=x;exact B4 e
 |dT kvs=>obtain⟨_,_,_,_,o,_,_,e,_⟩:=x;exact B4 e
 |set S n=>obtain⟨o,_,_,_,e,_⟩:=x;exact B4 e
 |ins C dx fs=>obtain⟨_,_,_,e,_⟩:=x;exact B4 e
 |own y=>obtain⟨_,e⟩:=x;exact B4 e
 |xd fs=>obtain⟨_,⟨_,_,_,e,_⟩,_⟩:=x;exact B4 e
 |rng lo hi=>obtain⟨_,_,_,e⟩:=x;exact B4 e
 |frz ob u=>obtain⟨e,_⟩:=x;exact B4 e
 |tbl q=>obtain⟨_,e,_⟩:=x;exact B4 e
 |met f y=>exact B4 (show h.get? a=some _ from x)
 |ext φ=>obtain⟨_,⟨_,e⟩,_⟩:=x;exact B4 e
theorem Paired.mapP {F G:α->β->Prop} {c:List α} {e:List β} (h:Paired F c e) (f:∀a b,F a b->G a b):Paired G c e:=by
 induction h with
 |nil=>exact .nil
 |cons r t ih=>exact .cons (f _ _ r) ih
theorem dC.stay (x:dC P w H h a o) (k:∀b u,(b=a\/H b=some (.own a))->h.get? b=some u->h'.get? b=some u)
  (j:∀b,H b=some (.own a)->H' b=some (.own a)) (l:∀b xs,H b=some (.tup xs)->H' b=some (.tup xs)) (m:∀b o u,H b=some (.frz o u)->H' b=some (.frz o u):=by exact λ_ _ _ q=>q):dC P w H' h' a o:=by
 induction o with
 |lst xs=>obtain⟨z,i,n,r,e⟩:=x;exact⟨z,i,n,r,k _ _ (.inl rfl) e⟩
 |tup xs=>obtain⟨z,i,r,ob,e,c⟩:=x;exact⟨z,i,r,ob,k _ _ (.inl rfl) e,c⟩
 |dK kvs=>obtain⟨z,y,vs,r,ob,es,g,e,c⟩:=x;exact⟨z,y,vs,r,ob,es,g,k _ _ (.inl rfl) e,c⟩
 |dT kvs =>obtain⟨z,y,xs,r,ob,es,g,e,c⟩:=x;exact⟨z,y,xs,Paired.mapP r λp q z=>⟨z.1,l _ _ z.2.1,z.2.2⟩,ob,es,g,k _ _ (.inl rfl) e,c⟩
 |set S n=>obtain⟨ob,es,g,t,e,c⟩:=x;exact⟨ob,es,g,t,k _ _ (.inl rfl) e,c⟩
 |ins C dx fs =>obtain⟨d,z,ne,e,mA,⟨od,es,g,e2,c⟩,r⟩:=x;exact⟨j _ d,z,ne,k _ _ (.inl rfl) e,mA,⟨od,es,g,k _ _ (.inr d) e2,c⟩,r⟩
 |own y=>obtain⟨ob,e⟩:=x;exact⟨ob,k _ _ (.inl rfl) e⟩
 |xd fs=>obtain⟨mA,⟨od,es,g,e,c⟩,r⟩:=x;exact⟨mA,⟨od,es,g,k _ _ (.inl rfl) e,c⟩,r⟩
 |rng lo hi=>obtain⟨t,u,v,e⟩:=x;exact⟨t,u,v,k _ _ (.inl rfl) e⟩
 |frz ob u ih=>obtain⟨e,q⟩:=x;exact⟨k _ _ (.inl rfl) e,ih q⟩
 |tbl q =>obtain⟨ps,e,t,c⟩:=x;exact⟨ps,k a _ (.inl rfl) e,t,λpos s z=>by obtain⟨A,o,vs,t',e1,e2,B⟩:=c pos s z;exact⟨A,o,vs,t',e1,m _ _ _ e2,B⟩⟩
 |met f y =>have e:h.get? a=some (PySem.W.methodObj (.ref f) (.ref y)):=x;show h'.get? a=some (PySem.W.methodObj (.ref f) (.ref y));exact k a _ (.inl rfl) e
 |ext φ=>obtain⟨p,⟨o,e⟩,st⟩:=x;exact⟨st _ _ p λo q=>k _ _ (.inl rfl) q,⟨o,k _ _ (.inl rfl) e⟩,st⟩
theorem HOk.lt (x:HOk P w H h) (e:H a=some o):a<h.objs.size:=(x a o e).lt
theorem HOk.fresh (x:HOk P w H h) (e:h.objs.size<=a):H a=none:=by
 cases q:H a with
 |none=>rfl
 |some u=>exact absurd (B6 (x.lt q) e) (C1 _)
theorem HOk.kept (x:HOk P w H h) (k:∀b u,h.get? b=some u->h'.get? b=some u):HOk P w H h':=λa o e =>
 (x a o e).stay (λb u _ q=>k b u q) (λ_ q=>q) λ_ _ q=>q
theorem HOk.laid (x:HOk P w H h) (k:∀b u,h.get? b=some u->h'.get? b=some u) (f:h.objs.size<=a) (new:dC P w (upd H a o) h' a o):HOk P w (upd H a o) h':=λb u e=>by
 have hn:=x.fresh f;by_cases hb:b=a
 ·subst hb;rw[aV]at e;cases e;exact new
 ·rw[aN hb]at e;exact (x b u e).stay (λc v _ q=>k c v q) (λc q=>by rw[aN (aM q hn)];exact q) (λc xs q=>by rw[aN (aM q hn)];exact q) λc ob w' q=>by rw[aN (aM q hn)];exact q
end
def Rd (H:Hp) (a:Addr) (u:HO):Prop:=H a=some u\/∃o,H a=some (.frz o u)
theorem Rd.ok {u:HO} (r:Rd H a u) (x:HOk P w H h):dC P w H h a u:=by
 rcases r with r|⟨o,r⟩
 ·exact x a u r
 ·obtain⟨_,q⟩:=x a _ r;exact q
def Mut:Option HO->Prop
 |some (.lst _)=>True
 |some (.dK _)=>True
 |some (.dT _)=>True
 |some (.set _ _)=>True
 |some (.ins _ _ _)=>True
 |some (.ext _)=>True
 |_=>False
section
variable {x e:Addr} {o':HO}
theorem HOk.write (ok:HOk P w H h) (f:Mut (H x)) (l:e=x\/H e=some (.own x)) (k:∀b u,b≠e->h.get? b=some u->h'.get? b=some u) (j:∃u,h'.get? e=some u)
  (new:dC P w (upd H x o') h' x o'):HOk P w (upd H x o') h':=λb u q=>by
 have a:∀c y,H c=some (.own y)->c≠x:=λc y r z=>by subst z;rw[r]at f;exact f
 have g:∀c xs,H c=some (.tup xs)->c≠x:=λc xs r z=>by subst z;rw[r]at f;exact f
 have i:∀c o u,H c=some (.frz o u)->c≠x:=λc o u r z=>by subst z;rw[r]at f;exact f
 by_cases hb:b=x
 ·subst hb;rw[aV]at q;cases q;exact new
 ·rw[aN hb]at q;by_cases hbe:b=e
  ·have m:H b=some (.own x):=by
    rcases l with z|z
    ·exact absurd (hbe.trans z) hb
    ·rw[hbe];exact z
   rw[q]at m;cases m;obtain⟨v,n⟩:=j;exact⟨v,by rw[hbe];exact n⟩
  ·refine (ok b u q).stay (λc v hc r=>k c v ?_ r) (λc r=>by rw[aN (a c b r)];exact r) (λc xs r=>by rw[aN (g c xs r)];exact r) λc o p r=>by rw[aN (i c o p r)];exact r
   rcases hc with rfl|hc
   ·exact hbe
   ·rintro rfl
    rcases l with z|z
    ·exact a c b hc z
    ·rw[hc]at z;cases z;exact hb rfl
end
structure Un (fs ex:List Addr) (H H':Hp) (h h':Heap):Prop where
 keep:∀b o,h.get? b=some o->H b=none->b∉fs->b∉ex->h'.get? b=some o
 slot:∀b o,h.get? b=some o->H b=none->b∈fs->b∉ex->∃sl,h'.get? b=some { o with slots:=sl }
 free:∀b o,h.get? b=some o->H b=none->b∉ex->H' b=none
 there:∀b o,h.get? b=some o->b∉ex->∃o',h'.get? b=some o'
 tups:∀b xs,H b=some (.tup xs)->H' b=some (.tup xs)
 frzs:∀b o u,H b=some (.frz o u)->H' b=some (.frz o u)
 tbls:∀b q,H b=some (.tbl q)->H' b=some (.tbl q)
section
variable {fs fs' ex ex':List Addr} {H1 H2:Hp} {h1 h2:Heap} {x e:Addr} {o:HO}
theorem Un.any (u:Un fs ex H H1 h h1) {ob:Obj} (q:h.get? b=some ob) (n:H b=none) (a:b∉ex):∃c,h1.get? b=some { ob with slots:=c }:=by
 by_cases hb:b∈fs
 ·exact u.slot b ob q n hb a
 ·exact⟨ob.slots,u.keep b ob q n hb a⟩
theorem Un.kept (k:∀b u,h.get? b=some u->h'.get? b=some u):Un fs ex H H h h' :=
 ⟨λb ob q _ _ _=>k b ob q,λb ob q _ _ _=>⟨ob.slots,k b ob q⟩,λ_ _ _ n _=>n,λb ob q _=>⟨ob,k b ob q⟩,λ_ _ q=>q,λ_ _ _ q=>q,λ_ _ q=>q⟩
theorem Un.refl:Un fs ex H H h h:=Un.kept λ_ _ q=>q
theorem Un.laid (k:∀b u,h.get? b=some u->h'.get? b=some u) (c:h.objs.size<=a) (hn:H a=none):Un fs ex H (upd H a o) h h' where
 keep:=λb u q _ _ _=>k b u q
 slot:=λb u q _ _ _=>⟨u.slots,k b u q⟩
 free:=λb u q n _=>by rw[aN (B9 (B6 (B4 q) c))];exact n
 there:=λb u q _=>⟨u,k b u q⟩
 tups:=λb xs q=>by rw[aN (aM q hn)];exact q
 frzs:=λb u xs q=>by rw[aN (aM q hn)];exact q
 tbls:=λb ps q=>by rw[aN (aM q hn)];exact q
theorem Un.write (a:Mut (H x)) (i:e=x\/H e=some (.own x)) (k:∀b u,b≠e->h.get? b=some u->h'.get? b=some u) (c:∃u,h'.get? e=some u):Un fs ex H (upd H x o) h h':=by
 have f:∀b,H b=none->b≠x:=λb n z=>by subst z;rw[n]at a;exact a
 have g:∀b,H b=none->b≠e:=λb n z=>by
  subst z;rcases i with r|r
  ·exact f b n r
  ·rw[n]at r;cases r
 have hm:∀b u,H b=some u->¬ Mut (some u)->b≠x:=λb u q nm z=>by subst z;rw[q]at a;exact nm a
 refine⟨λb u q n _ _=>k b u (g b n) q,λb u q n _ _=>⟨u.slots,k b u (g b n) q⟩,λb u q n _=>by rw[aN (f b n)];exact n,λb u q _=>?_,
  λb xs q=>by rw[aN (hm b _ q λz=>z)];exact q,λb u xs q=>by rw[aN (hm b _ q λz=>z)];exact q,λb ps q=>by rw[aN (hm b _ q λz=>z)];exact q⟩
 by_cases hbe:b=e
 ·subst hbe;exact c
 ·exact⟨u,k b u hbe q⟩
end
noncomputable def trk (h:Heap) (H:Hp):List Addr:=(List.range h.objs.size).filter λa=>(H a).isSome
def ll (h:Heap) (H:Hp):Heap:=PySem.W.hideAll h (trk h H)
theorem qg (h:Heap) (H:Hp):(ll h H).objs.size=h.objs.size:=PySem.W.hideAll_size _ _
theorem sq (e:h.get? b=some o) (n:H b=none):(ll h H).get? b=some o :=
 PySem.W.hideAll_get _ e λhm=>by have q:(H b).isSome=true:=(List.mem_filter.mp hm).2;rw[n]at q;simp at q
theorem vt (e:(ll h H).get? b=some o):h.get? b=some o/\H b=none:=by
 have a:h.get? b=some o:=PySem.W.of_hideAll (trk h H) e;refine⟨a,?_⟩;cases q:H b with
 |none=>rfl
 |some x =>have hm:b∈trk h H:=List.mem_filter.mpr ⟨List.mem_range.mpr (B4 a),by simp[q]⟩;have z:(ll h H).get? b=none:=PySem.W.hideAll_none (trk h H) hm;rw[z]at e;cases e
structure Mod (K:PySem.W.Frag) (mg:Str->Option Value) (base:Heap):Prop where
 kin:K.In base
 glob:base.Ns mainGlobals mg
 blt:∃mb,base.Ns builtinsNs mb/\∀x:Str,x≠"__name__"->mb x=bootBuiltins x
 nolimit:base.NoLimit
def mS:List Str:=["picked"]
def TabOf (K:PySem.W.Frag) (P:Addr) (q:Str):Prop:=∃x∈mS,∃f oc od fd a c,PySem.W.nsIn K mainGlobals x=some (some (.ref f))/\K.lookup f=some ⟨oc,od,.func fd,a⟩/\fd.code=.ref c/\(∃o vs,K.lookup c=some o/\o.data=.fields vs/\vs[11]?=some (.ref P))/\q=x++".<locals>.<lambda>"
structure Cx where
 prog:Program
 w:World
 K:PySem.W.Frag
 mg:Str->Option Value
 base:Heap
 A:Around
 N:List Str
 s₀:Shared
 H₀:Hp
 env:Env
 outer:List Env
 stack:List Env
 ex:List Addr
 fn:Str->Bool
 calm:Bool
 pn:List (Addr×Obj)
 xe:Value->Shared->Prop
variable {X:Cx}
def frs (l:List Env):List Addr:=l.filterMap (·.frame)
abbrev Cx.fs (X:Cx):List Addr:=frs X.outer
def Vis (sc:Scope) (x:Str):Prop:=sc.names.lookup x=some .local\/sc.names.lookup x=some .cell\/sc.names.lookup x=some .free
def Loc (sc:Scope) (x:Str):Prop:=sc.names.lookup x=some .local\/sc.names.lookup x=some .cell
def Look (env:Env) (h:Heap) (m:Str->Option Value) (x:Str) (u:Value):Prop :=
 (env.kindOf x=some .local/\m x=some u)\/((env.kindOf x=some .cell\/env.kindOf x=some .free)/\∃c,env.cells.lookup x=some c/\h.IsCell c (some u))
structure Cx.Ok (X:Cx):Prop where
 mod:Mod X.K X.mg X.base
 kind:X.env.scope.kind=.function
 glob:X.env.globals=mainGlobals
 blt:X.env.builtins=builtinsNs
 above:X.s₀.heap.objs.size<=X.env.locals
 inj:∀x y c,X.env.cells.lookup x=some c->X.env.cells.lookup y=some c->x=y
 has:∀x,(X.env.kindOf x=some .cell\/X.env.kindOf x=some .free)->∃c,X.env.cells.lookup x=some c
 cab:∀x c,X.fn x=true->X.env.cells.lookup x=some c->X.s₀.heap.objs.size<=c
 hd:X.calm=true->X.A.handled=none
 frames:X.A.frames=some X.stack
 stk:X.stack=X.outer\/(X.stack=X.env::X.outer/\X.env.frame=some X.env.locals)
 exf:∀b∈X.ex,b≠X.env.locals/\∀x c,X.env.cells.lookup x=some c->c≠b
 bs:∀b o,X.base.get? b=some o->X.s₀.heap.get? b=some o/\X.H₀ b=none
 bsz:X.base.objs.size<=X.s₀.heap.objs.size
 noex:∀b o,X.base.get? b=some o->b∉X.ex
 exfs:∀b∈X.ex,b∉X.fs
 funs:X.s₀.heap.FunFrames X.base X.outer
 frf:∀b∈X.fs,X.H₀ b=none
structure Inv (X:Cx) (pins:List (Addr×Obj)) (σ:List (Option V)) (H:Hp) (s:Shared):Prop where
 ok:X.Ok
 os:s.os=X.s₀.os
 bare:AllBare s.gens
 base:Un X.fs X.ex X.H₀ H X.s₀.heap s.heap
 loc:∃m,s.heap.Ns X.env.locals m/\∀(i:Nat) (x:Str) (v:V),X.N[i]?=some x->σ[i]?=some (some v)->Vis X.env.scope x->∃u,RelV v u/\Look X.env s.heap m x u
 cell:∀x c,X.env.cells.lookup x=some c->∃v,s.heap.IsCell c v
 free:H X.env.locals=none
 freeC:∀x c,X.env.cells.lookup x=some c->H c=none
 pin:∀p∈X.pn++pins,s.heap.get? p.1=some p.2/\H p.1=none/\p.1≠X.env.locals/\p.1∉X.fs/\∀v,p.2.data≠.cell v
 hok:HOk X.prog X.w H s.heap
 len:σ.length=X.N.length
 tab:∀P q,TabOf X.K P q->H P=some (.tbl q)
section
variable {σ:List (Option V)} {H':Hp}
theorem Cx.Ok.nofr (ok:X.Ok) (e:X.base.get? b=some o):b∉X.fs:=λa=>by have:=(ok.funs.mem a).1;rw[e]at this;cases this
theorem Inv.bs (I:Inv X pins σ H s):∀b o,X.base.get? b=some o->s.heap.get? b=some o/\H b=none:=λb o e =>
 ⟨I.base.keep b o (I.ok.bs b o e).1 (I.ok.bs b o e).2 (I.ok.nofr e) (I.ok.noex b o e),I.base.free b o (I.ok.bs b o e).1 (I.ok.bs b o e).2 (I.ok.noex b o e)⟩
theorem Inv.bk (I:Inv X pins σ H s):∀b o,X.base.get? b=some o->s.heap.get? b=some o:=λb o e=>(I.bs b o e).1
theorem Inv.mod (I:Inv X pins σ H s):Mod X.K X.mg X.base:=I.ok.mod
theorem Inv.kIn (I:Inv X pins σ H s):X.K.In s.heap:=I.ok.mod.kin.keeps I.bk
theorem Inv.lt (I:Inv X pins σ H s):X.env.locals<s.heap.objs.size:=let ⟨_,hn,_⟩:=I.loc;hn.lt
theorem Inv.sz (I:Inv X pins σ H s):X.s₀.heap.objs.size<=s.heap.objs.size:=BS I.ok.above (Nat.le_of_lt I.lt)
theorem Inv.nofs (I:Inv X pins σ H s) (h:s.heap.objs.size<=a):a∉X.fs:=λb=>by obtain⟨_,o,c,_⟩:=I.ok.funs.mem b;exact absurd (B6 (B4 c) (BS I.sz h)) (C1 _)
theorem Inv.cne (I:Inv X pins σ H s):∀x c,X.env.cells.lookup x=some c->c≠X.env.locals:=λx c e z=>by obtain⟨v,o,f,hd⟩:=I.cell x c e;obtain⟨m,⟨o',es,ep,a,b,_⟩,_⟩:=I.loc;rw[z,a]at f;cases f;rw[b]at hd;cases hd
theorem Inv.funs (I:Inv X pins σ H s):s.heap.FunFrames X.base X.outer:=by
 have all:∀(l:List Env),(∀b∈frs l,b∈X.fs)->X.s₀.heap.FunFrames X.base l->s.heap.FunFrames X.base l:=by
  intro l
  induction l with
  |nil=>intro _ _;trivial
  |cons env r ih =>
   intro g hl;obtain⟨h,⟨L,o,a,hn,i,hd⟩,j⟩:=hl;have c:L∈X.fs:=g L (by unfold frs;rw[Cc,a];exact By);obtain⟨sl,e⟩:=I.base.slot L o i (I.ok.frf L c) c λz=>I.ok.exfs L z c
   exact⟨h,⟨L,_,a,hn,e,hd⟩,ih (λb f=>g b (by unfold frs;rw[Cc,a];exact Bu _ f)) j⟩
 exact all X.outer (λ_ f=>f) I.ok.funs
theorem Inv.stack (I:Inv X pins σ H s):s.heap.FunFrames X.base X.stack:=by
 rcases I.ok.stk with e|⟨e,a⟩
 ·rw[e];exact I.funs
 ·rw[e];obtain⟨m,hn,_⟩:=I.loc;refine .cons (by rw[I.ok.kind];decide) a hn ?_ I.funs;exact Heap.get?_none_of_le (BS I.ok.bsz I.ok.above)
theorem Inv.stkSub (I:Inv X pins σ H s):∀b∈frs X.stack,b∈X.env.locals::X.fs:=λb a=>by
 rcases I.ok.stk with e|⟨e,c⟩
 ·rw[e]at a;exact Bu _ a
 ·rw[e]at a;unfold frs at a;rw[Cc,c]at a;exact a
theorem Inv.stkFree (I:Inv X pins σ H s):∀b∈frs X.stack,H b=none:=λb a=>by
 rcases B8.mp (I.stkSub b a) with e|a
 ·rw[e];exact I.free
 ·obtain⟨_,o,c,_⟩:=I.ok.funs.mem a;exact I.base.free b o c (I.ok.frf b a) λz=>I.ok.exfs b z a
theorem Inv.step {t':Nat} {d':Drawn} (I:Inv X pins σ H s)
  (f:∀b∈ch,(b∈X.ex\/X.s₀.heap.objs.size<=b)/\b≠X.env.locals/\(∀x c,X.env.cells.lookup x=some c->c≠b)/\∀p∈X.pn++pins,p.1≠b)
  (keep:∀b o,b≠X.env.locals->b∉X.fs->b∉ch->s.heap.get? b=some o->H b=none->h'.get? b=some o)
  (slot:∀b o,b≠X.env.locals->b∈X.fs->b∉ch->s.heap.get? b=some o->H b=none->∃B,h'.get? b=some { o with slots:=B }) (free:∀b o,b∉ch->s.heap.get? b=some o->H b=none->H' b=none)
  (there:∀b o,b∉ch->s.heap.get? b=some o->∃o',h'.get? b=some o')
  (tups:∀b xs,H b=some (.tup xs)->H' b=some (.tup xs)) (frzs:∀b o u,H b=some (.frz o u)->H' b=some (.frz o u)) (tbls:∀b q,H b=some (.tbl q)->H' b=some (.tbl q))
  (ns:∀m,s.heap.Ns X.env.locals m->h'.Ns X.env.locals m) (hok:HOk X.prog X.w H' h') (G:AllBare g') :
  Inv X pins σ H' { s with heap:=h',gens:=g',drawn:=d',toks:=t' }:=by
 have A:∀b o,X.s₀.heap.get? b=some o->b≠X.env.locals:=λb o e=>B9 (B6 (B4 e) I.ok.above)
 have h:∀b o,X.s₀.heap.get? b=some o->b∉X.ex->b∉ch:=λb o e a j=>by
  rcases (f b j).1 with z|z
  ·exact a z
  ·exact absurd (B6 (B4 e) z) (C1 _)
 have cellK:∀x c,X.env.cells.lookup x=some c->∀v,s.heap.IsCell c v->h'.IsCell c v:=λx c e v C=>by
  obtain⟨o,y,hd⟩:=C;have g:c∉ch:=λz=>(f c z).2.2.1 x c e rfl
  by_cases hc:c∈X.fs
  ·obtain⟨B,q⟩:=slot c o (I.cne x c e) hc g y (I.freeC x c e);exact⟨_,q,hd⟩
  ·exact⟨o,keep c o (I.cne x c e) hc g y (I.freeC x c e),hd⟩
 refine⟨I.ok,I.os,G,⟨λb o e n j a=>?_,λb o e n j a=>?_,λb o e n a=>?_,λb o e a=>?_,λb xs e=>tups b xs (I.base.tups b xs e),λb o xs e=>frzs b o xs (I.base.frzs b o xs e),λb ps e=>?_⟩,?_,λx c e=>?_,?_,λx c e=>?_,λp E=>?_,hok,I.len,λP q t=>tbls P q (I.tab P q t)⟩
 ·exact keep b o (A b o e) j (h b o e a) (I.base.keep b o e n j a) (I.base.free b o e n a)
 ·obtain⟨B,e1⟩:=I.base.slot b o e n j a;obtain⟨D,e2⟩:=slot b _ (A b o e) j (h b o e a) e1 (I.base.free b o e n a);exact⟨D,e2⟩
 ·obtain⟨o',e1⟩:=I.base.there b o e a;exact free b o' (h b o e a) e1 (I.base.free b o e n a)
 ·obtain⟨o',e1⟩:=I.base.there b o e a;exact there b o' (h b o e a) e1
 ·exact tbls b _ (I.base.tbls b ps e)
 ·obtain⟨m,hn,hl⟩:=I.loc;refine⟨m,ns m hn,λi x v e1 e2 J=>?_⟩;obtain⟨u,r,l⟩:=hl i x v e1 e2 J;refine⟨u,r,?_⟩;rcases l with l|⟨k,c,e,z⟩
  ·exact .inl l
  ·exact .inr ⟨k,c,e,cellK x c e _ z⟩
 ·obtain⟨v,z⟩:=I.cell x c e;exact⟨v,cellK x c e v z⟩
 ·obtain⟨m,⟨o,_,_,y,_⟩,_⟩:=I.loc;exact free _ o (λz=>(f _ z).2.1 rfl) y I.free
 ·obtain⟨v,o,y,hd⟩:=I.cell x c e;exact free c o (λz=>(f c z).2.2.1 x c e rfl) y (I.freeC x c e)
 ·obtain⟨e,n,ne,F,d⟩:=I.pin p E;have g:p.1∉ch:=λz=>(f p.1 z).2.2.2 p E rfl
  exact⟨keep p.1 p.2 ne F g e n,free p.1 p.2 g e n,ne,F,d⟩
theorem Inv.un {t':Nat} (I:Inv X pins σ H s) (u:Un X.fs [] H H' s.heap h') (hok:HOk X.prog X.w H' h'):Inv X pins σ H' { s with heap:=h',toks:=t' }:=by obtain⟨m,⟨o,es,ep,h,r⟩,_⟩:=id I.loc;obtain⟨sl,i⟩:=u.any h I.free (by simp);exact I.step (g':=s.gens) (d':=s.drawn) (ch:=[]) (λ_ z=>nomatch z) (λb o _ c _ e n=>u.keep b o e n c (by simp)) (λb o _ c _ e n=>u.slot b o e n c (by simp)) (λb o _ e n=>u.free b o e n (by simp)) (λb o _ e=>u.there b o e (by simp)) u.tups u.frzs u.tbls (λm' hm=>by obtain⟨o',f,g,a,j⟩:=hm;rw[h]at a;cases a;exact⟨_,f,g,i,j⟩) hok I.bare
theorem Inv.call {t':Nat} {d':Drawn} (I:Inv X pins σ H s) (u:Un (frs X.stack) ch H H' s.heap h') (hok:HOk X.prog X.w H' h') (k:AllBare g')
  (a:∀b∈ch,(b∈X.ex\/X.s₀.heap.objs.size<=b)/\b≠X.env.locals/\(∀x c,X.env.cells.lookup x=some c->c≠b)/\∀p∈X.pn++pins,p.1≠b) :
  Inv X pins σ H' { s with heap:=h',gens:=g',drawn:=d',toks:=t' }:=by
 obtain⟨m,⟨o,es,ep,j,r⟩,_⟩:=id I.loc;obtain⟨sl,g⟩:=u.any j I.free λz=>(a _ z).2.1 rfl
 exact I.step (ch:=ch) a (λb o g l hc e n=>u.keep b o e n (λz=>(B8.mp (I.stkSub b z)).elim g l) hc) (λb o _ _ hc e n=>u.any e n hc) (λb o hc e n=>u.free b o e n hc) (λb o hc e=>u.there b o e hc) u.tups u.frzs u.tbls (λm' hm=>by obtain⟨o',h,i,f,q⟩:=hm;rw[j]at f;cases f;exact⟨_,h,i,g,q⟩) hok k
theorem Inv.turned {t':Nat} (I:Inv X pins σ H s) (k:∀b o,b≠it->s.heap.get? b=some o->h'.get? b=some o) (hn:H it=none) (f:it≠X.env.locals)
  (h1:it∈X.ex\/X.s₀.heap.objs.size<=it) (h2:∀x c,X.env.cells.lookup x=some c->c≠it) (g:∀p∈X.pn++pins,p.1≠it):Inv X pins σ H { s with heap:=h',toks:=t' }:=by
 have a:∀b u,H b=some u->b≠it:=λb u e z=>by rw[z,hn]at e;cases e
 refine I.step (g':=s.gens) (d':=s.drawn) (ch:=[it]) (λb h=>?_) (λb o _ _ hc e _=>k b o (λz=>hc (by simp[z])) e) (λb o _ _ hc e _=>⟨o.slots,k b o (λz=>hc (by simp[z])) e⟩) (λ_ _ _ _ n=>n)
  (λb o hc e=>⟨o,k b o (λz=>hc (by simp[z])) e⟩) (λ_ _ e=>e) (λ_ _ _ e=>e) (λb ps e=>e) (λm hm=>?_) (λb u e=>?_) I.bare
 ·have e:b=it:=by simpa using h
  subst e;exact⟨h1,f,h2,g⟩
 ·obtain⟨o,es,i,j,r⟩:=hm;exact⟨o,es,i,k _ o (Ne.symm f) j,r⟩
 ·refine (I.hok b u e).stay (λc v hc q=>k c v ?_ q) (λ_ q=>q) λ_ _ q=>q
  rcases hc with z|z
  ·rw[z];exact a b u e
  ·exact a c _ z
theorem Inv.tok (I:Inv X pins σ H s) (t:Nat):Inv X pins σ H { s with toks:=t }:=I.un (h':=s.heap) (t':=t) Un.refl I.hok
theorem Inv.kept {t':Nat} (I:Inv X pins σ H s) (k:∀b u,s.heap.get? b=some u->h'.get? b=some u):Inv X pins σ H { s with heap:=h',toks:=t' }:=I.un (Un.kept k) (I.hok.kept k)
theorem Inv.laid {o:HO} {t':Nat} (I:Inv X pins σ H s) (k:∀b u,s.heap.get? b=some u->h'.get? b=some u) (c:s.heap.objs.size<=a) (new:dC X.prog X.w (upd H a o) h' a o) :
 Inv X pins σ (upd H a o) { s with heap:=h',toks:=t' }:=I.un (Un.laid k c (I.hok.fresh c)) (I.hok.laid k c new)
theorem Inv.write {x e:Addr} {o:HO} {t':Nat} (I:Inv X pins σ H s) (c:Mut (H x)) (f:e=x\/H e=some (.own x)) (k:∀b u,b≠e->s.heap.get? b=some u->h'.get? b=some u) (a:∃u,h'.get? e=some u)
 (new:dC X.prog X.w (upd H x o) h' x o):Inv X pins σ (upd H x o) { s with heap:=h',toks:=t' }:=I.un (Un.write c f k a) (I.hok.write c f k a new)
theorem Inv.pins_of {a:List (Addr×Obj)} (I:Inv X pins σ H s) (h:∀p∈a,s.heap.get? p.1=some p.2/\H p.1=none/\p.1≠X.env.locals/\p.1∉X.fs/\∀v,p.2.data≠.cell v):Inv X a σ H s :=
 ⟨I.ok,I.os,I.bare,I.base,I.loc,I.cell,I.free,I.freeC,λp b=>(BA.mp b).elim (λz=>I.pin p (BE _ z)) (h p),I.hok,I.len,I.tab⟩
theorem nB (c:N.Nodup) (a:N[i]?=some x) (b:N[j]?=some x):i=j:=by obtain⟨h1,e1⟩:=BI.mp a;obtain⟨h2,e2⟩:=BI.mp b;exact (List.getElem_inj c).mp (e1.trans e2.symm)
theorem lM {v:V} {Q:Unit->Shared->Prop} (I:Inv X pins σ H s) (hN:X.N.Nodup) (hi:X.N[i]?=some x) (g:Loc X.env.scope x) (r:RelV v u)
  (h:∀s',Inv X pins (σ.set i (some v)) H s'->(∃a,Heap.SameBut a s.heap s'.heap/\(a=X.env.locals\/X.env.cells.lookup x=some a))->Q () s') (hf:X.fn x=true\/X.env.scope.names.lookup x=some .local:=by first|exact .inl rfl|exact .inr rfl|assumption):wpAny M A (storeName X.env x u) Q E s:=by
 obtain⟨m,hn,hl⟩:=id I.loc;have F:(X.env.scope.kind==.class||(X.env.scope.kind==.module&&X.env.locals != X.env.globals))=false:=by rw[I.ok.kind];rfl
 have t:i<σ.length:=by rw[I.len];exact (BI.mp hi).1
 have cne:=I.cne;have tracked:∀{a:Addr} {h':Heap},(∃o,s.heap.get? a=some o/\H a=none)->Heap.SameBut a s.heap h'->HOk X.prog X.w H h':=λ{a h'} ha f b ob e=>by
  obtain⟨_,_,l⟩:=ha;refine (I.hok b ob e).stay (λc L hc q=>(f.2 c ?_).trans q) (λ_ q=>q) λ_ _ q=>q
  rintro rfl
  rcases hc with rfl|hc
  ·rw[l]at e;cases e
  ·rw[l]at hc;cases hc
 rcases g with B|B
 ·refine wpAny_storeName_local B hn (λh' P f=>?_) F;obtain⟨oL,_,_,R,_⟩:=id hn;refine h _ ⟨I.ok,I.os,I.bare,⟨λb o e n C g=>?_,λb o e n C g=>?_,I.base.free,λb o e g=>?_,I.base.tups,I.base.frzs,I.base.tbls⟩,⟨_,P,λj y S e1 e2 T=>?_⟩,λy c e=>?_,I.free,I.freeC,λp U=>?_,tracked ⟨oL,R,I.free⟩ f,by simpa using I.len,I.tab⟩ ⟨_,f,.inl rfl⟩
  ·exact (f.2 b (B9 (B6 (B4 e) I.ok.above))).trans (I.base.keep b o e n C g)
  ·obtain⟨W,e1⟩:=I.base.slot b o e n C g;exact⟨W,(f.2 b (B9 (B6 (B4 e) I.ok.above))).trans e1⟩
  ·obtain⟨o',e1⟩:=I.base.there b o e g;exact⟨o',(f.2 b (B9 (B6 (B4 e) I.ok.above))).trans e1⟩
  ·by_cases hj:j=i
   ·subst hj;rw[hi]at e1;cases e1;rw[BB t]at e2;cases e2;exact⟨u,r,.inl ⟨B,by simp⟩⟩
   ·rw[Bw (Ne.symm hj)]at e2;obtain⟨Y,Z,q⟩:=hl j y S e1 e2 T;refine⟨Y,Z,?_⟩;rcases q with⟨k,e⟩|⟨k,c,e,z⟩
    ·refine .inl ⟨k,?_⟩;have:y≠x:=λe=>hj (nB hN e1 (e▸hi))
     simp[this,e]
    ·exact .inr ⟨k,c,e,z.sameBut f (cne y c e)⟩
  ·obtain⟨L,z⟩:=I.cell y c e;exact⟨L,z.sameBut f (cne y c e)⟩
  ·obtain⟨e,n,ne,nf,d⟩:=I.pin p U;exact⟨(f.2 p.1 ne).trans e,n,ne,nf,d⟩
 ·have D:X.fn x=true:=by
   rcases hf with z|z
   ·exact z
   ·rw[z]at B;cases B
  obtain⟨c,hc⟩:=I.ok.has x (.inl B);obtain⟨L,z⟩:=I.cell x c hc;refine wpAny_storeName_cell I.ok.kind B hc z (λh' G f=>?_);obtain⟨oc,J,K⟩:=id z;refine h { s with heap:=h' } ⟨I.ok,I.os,I.bare,⟨λb o e n C g=>?_,λb o e n C g=>?_,I.base.free,λb o e g=>?_,I.base.tups,I.base.frzs,I.base.tbls⟩,⟨m,hn.sameBut f (Ne.symm (cne x c hc)),λj y S e1 e2 T=>?_⟩,λy O e=>?_,I.free,I.freeC,λp U=>?_,tracked ⟨oc,J,I.freeC x c hc⟩ f,by simpa using I.len,I.tab⟩ ⟨c,f,.inr hc⟩
  ·exact (f.2 b (B9 (B6 (B4 e) (I.ok.cab x c D hc)))).trans (I.base.keep b o e n C g)
  ·obtain⟨W,e1⟩:=I.base.slot b o e n C g;exact⟨W,(f.2 b (B9 (B6 (B4 e) (I.ok.cab x c D hc)))).trans e1⟩
  ·obtain⟨o',e1⟩:=I.base.there b o e g;exact⟨o',(f.2 b (B9 (B6 (B4 e) (I.ok.cab x c D hc)))).trans e1⟩
  ·by_cases hj:j=i
   ·subst hj;rw[hi]at e1;cases e1;rw[BB t]at e2;cases e2;exact⟨u,r,.inr ⟨.inl B,c,hc,G⟩⟩
   ·rw[Bw (Ne.symm hj)]at e2;obtain⟨Y,Z,q⟩:=hl j y S e1 e2 T;refine⟨Y,Z,?_⟩;rcases q with q|⟨k,O,e,z'⟩
    ·exact .inl q
    ·refine .inr ⟨k,O,e,z'.sameBut f ?_⟩
     rintro rfl
     exact hj (nB hN e1 (I.ok.inj _ _ _ e hc▸hi))
  ·by_cases hcc:O=c
   ·subst hcc;exact⟨_,G⟩
   ·obtain⟨w2,z2⟩:=I.cell y O e;exact⟨w2,z2.sameBut f hcc⟩
  ·obtain⟨e,n,ne,nf,d⟩:=I.pin p U;refine⟨(f.2 p.1 ?_).trans e,n,ne,nf,d⟩;intro q;rw[q,J]at e;have q':oc=p.2:=Option.some.inj e;exact d L (by rw[<-q'];exact K)
theorem km {v:V} {Q:Unit->Shared->Prop} (I:Inv X pins σ H s) (a:X.N.Nodup) (hi:X.N[i]?=some x) (b:Loc X.env.scope x) (r:RelV v u)
  (h:∀s',Inv X pins (σ.set i (some v)) H s'->Q () s') (c:X.fn x=true\/X.env.scope.names.lookup x=some .local:=by first|exact .inl rfl|exact .inr rfl|assumption):wpAny M A (storeName X.env x u) Q E s :=
 lM I a hi b r (λs' e _=>h s' e) c
theorem Inv.call' (I:Inv X pins σ H s) (f:s'.os=s.os) (u:Un (frs X.stack) ch H H' s.heap s'.heap) (hok:HOk X.prog X.w H' s'.heap) (g:AllBare s'.gens)
  (a:∀b∈ch,(b∈X.ex\/X.s₀.heap.objs.size<=b)/\b≠X.env.locals/\(∀x c,X.env.cells.lookup x=some c->c≠b)/\∀p∈X.pn++pins,p.1≠b):Inv X pins σ H' s':=by
 obtain⟨h',g',d',t',o'⟩:=s';have e:o'=s.os:=f;subst e;exact I.call (g':=g') (t':=t') (d':=d') u hok g a
end
abbrev XK:=Value->Option Addr->Hp->Prop
abbrev St:=List (Option V)
variable {σ:St}
abbrev VK:=V->Hp->Prop
abbrev TE:=St->Hp->VK->Prop
variable {t:TE}
abbrev TT:=St->Hp->(Bool->Hp->Prop)->Prop
abbrev TA:=St->Hp->(List V->Hp->Prop)->Prop
structure Ends where
 nx:St->Hp->Prop
 rt:VK
 bk:St->Hp->Prop:=λ_ _=>False
 ct:St->Hp->Prop:=λ_ _=>False
abbrev TS:=Ends->St->Hp->Prop
def EP (X:Cx) (pins:List (Addr×Obj)) (σ:St) (Q:VK) (u:Value) (s':Shared):Prop:=∃v H',Inv X pins σ H' s'/\RelV v u/\Q v H'
def TP (X:Cx) (pins:List (Addr×Obj)) (σ:St) (Q:Bool->Hp->Prop) (b:Bool) (s':Shared):Prop:=∃H',Inv X pins σ H' s'/\Q b H'
def AP (X:Cx) (pins:List (Addr×Obj)) (σ:St) (Q:List V->Hp->Prop) (us:List Value) (s':Shared):Prop:=∃vs H',Inv X pins σ H' s'/\Vals vs us/\Q vs H'
def SP (X:Cx) (pins:List (Addr×Obj)) (D:Ends) (f:Flow) (s':Shared):Prop :=
 match f with
 |.next=>∃a H',Inv X pins a H' s'/\D.nx a H'
 |.brk=>∃a H',Inv X pins a H' s'/\D.bk a H'
 |.cont=>∃a H',Inv X pins a H' s'/\D.ct a H'
 |.ret u=>∃v a H',Inv X pins a H' s'/\RelV v u/\D.rt v H'
def PE (X:Cx) (e:Expr) (t:TE):Prop :=
 ∀(pins:List (Addr×Obj)) (s:Shared) (σ:St) (H:Hp) (Q:VK),Inv X pins σ H s->t σ H Q->wpAny (model X.prog X.w) X.A (eval e X.env) (EP X pins σ Q) X.xe s
def PT (X:Cx) (e:Expr) (t:TT):Prop :=
 ∀(pins:List (Addr×Obj)) (s:Shared) (σ:St) (H:Hp) (Q:Bool->Hp->Prop),Inv X pins σ H s->t σ H Q->wpAny (model X.prog X.w) X.A (isTrue e X.env (eval e X.env)) (TP X pins σ Q) X.xe s
def PW (X:Cx) (e:Expr) (t:TT):Prop :=
 ∀(whole:Sem Value) (pins:List (Addr×Obj)) (s:Shared) (σ:St) (H:Hp) (Q:Bool->Hp->Prop),Inv X pins σ H s->t σ H Q->wpAny (model X.prog X.w) X.A (isTrue e X.env whole) (TP X pins σ Q) X.xe s
theorem PW.pt {t:TT} (h:PW X e t):PT X e t:=h _
def PA (X:Cx) (es:List Expr) (t:TA):Prop :=
 ∀(pos:Pos) (pins:List (Addr×Obj)) (s:Shared) (σ:St) (H:Hp) (Q:List V->Hp->Prop),Inv X pins σ H s->t σ H Q->wpAny (model X.prog X.w) X.A (spliced (backTo pos (starEach es X.env))) (AP X pins σ Q) X.xe s
def PS (X:Cx) (st:Stmt) (t:TS):Prop :=
 ∀(pins:List (Addr×Obj)) (s:Shared) (σ:St) (H:Hp) (D:Ends),Inv X pins σ H s->t D σ H->wpAny (model X.prog X.w) X.A (exec st X.env) (SP X pins D) X.xe s
def PSs (X:Cx) (st:List Stmt) (t:TS):Prop :=
 ∀(pins:List (Addr×Obj)) (s:Shared) (σ:St) (H:Hp) (D:Ends),Inv X pins σ H s->t D σ H->wpAny (model X.prog X.w) X.A (execs st X.env) (SP X pins D) X.xe s
theorem thn {t:Sem α} {Q b:α->Shared->Prop} (h:wpAny M A t Q E s) (c:∀a s,Q a s->b a s):wpAny M A t b E s:=wpAny_mono h c λ_ _ x=>x
section
theorem bin {a b:Expr} {ta tb:TE} (ha:PE X a ta) (i:PE X b tb) (I:Inv X pins σ H s) (h:ta σ H λx H1=>tb σ H1 λy H2=>R x y H2)
  {Q:α->Shared->Prop} {f:Value->Value->Sem α}
  (j:∀v u s2 x y H2,Inv X pins σ H2 s2->RelV x v->RelV y u->R x y H2->wpAny (model X.prog X.w) X.A (f v u) Q X.xe s2) :
  wpAny (model X.prog X.w) X.A (eval a X.env) (λv e=>wpAny (model X.prog X.w) X.A (eval b X.env) (λu g=>wpAny (model X.prog X.w) X.A (f v u) Q X.xe g) X.xe e) X.xe s:=by
 refine thn (ha pins s σ H _ I h) λv k c=>?_
 obtain⟨x,H1,l,m,n⟩:=c;refine thn (i pins k σ H1 _ l n) λu s2 c=>?_
 obtain⟨y,H2,o,p,q⟩:=c;exact j v u s2 x y H2 o m p q
def zB (i:Nat):TE:=λσ H Q=>∃v,σ[i]?=some (some v)/\Q v H
def tC (v:V):TE:=λ_ H Q=>Q v H
theorem eM (g:X.N[i]?=some x) (j:Vis X.env.scope x) (hd:(x==("__debug__":Str))=false:=by decide) (f:(x==("__classdict__":Str))=false:=by decide):PE X (.Name x pos) (zB i):=by
 intro pins s σ H Q I h;obtain⟨v,e,h⟩:=h;obtain⟨m,hn,hl⟩:=I.loc;obtain⟨u,r,l⟩:=hl i x v g e j;have fin:EP X pins σ Q u s:=⟨v,H,I,r,h⟩
 rcases l with⟨b,hm⟩|⟨b,c,hc,a⟩
 ·exact wpAny_Name (wpAny_loadName_local I.ok.kind b hn hm fin) hd
 ·rcases b with b|b
  ·exact wpAny_Name (wpAny_loadName_cell I.ok.kind b hc a fin) hd
  ·exact wpAny_Name (wpAny_loadName_free I.ok.kind b hc a fin f) hd
theorem fM {i j pos}:PE X (.Constant (.int i) j pos) (tC (.int i)):=λ_ _ _ H _ I h=>wpAny_Constant_int ⟨.int i,H,I.tok _,⟨_,rfl⟩,h⟩
theorem tI {b j pos}:PE X (.Constant (.bool b) j pos) (tC (.bl b)):=λ_ _ _ H _ I h=>Constant_bool ⟨.bl b,H,I,rfl,h⟩
theorem xt {j pos}:PE X (.Constant .none j pos) (tC .non):=λ_ _ _ H _ I h=>Constant_none ⟨.non,H,I,rfl,h⟩
theorem yt {x j pos}:PE X (.Constant (.str x) j pos) (tC (.str x)):=λ_ _ _ H _ I h=>Calls.Constant_str ⟨.str x,H,I.tok _,⟨_,rfl⟩,h⟩
def Gl (X:Cx) (x:Str):Prop:=X.env.kindOf x=some .globalImplicit
theorem i5 (I:Inv X pins σ H s) (a:Gl X x) (hm:X.mg x=some u) (h:Q u s)
  (hd:(x==("__debug__":Str))=false:=by decide):wpAny (model X.prog X.w) X.A (eval (.Name x pos) X.env) Q E s :=
 Calls.Name_function_global I.ok.kind a (Calls.loadGlobal_global (by rw[I.ok.glob];exact I.mod.glob.keeps I.bk) hm h) hd
theorem gu (I:Inv X pins σ H s) (a:Gl X x) (hm:X.mg x=none) (b:bootBuiltins x=some u) (h:Q u s)
  (hn:x≠"__name__":=by decide) (hd:(x==("__debug__":Str))=false:=by decide):wpAny (model X.prog X.w) X.A (eval (.Name x pos) X.env) Q E s:=by
 obtain⟨mb,h1,h2⟩:=I.mod.blt;exact Calls.Name_function_global I.ok.kind a (Calls.loadGlobal_builtin (by rw[I.ok.glob];exact I.mod.glob.keeps I.bk) hm (by rw[I.ok.blt];exact h1.keeps I.bk) ((h2 x hn).trans b) h) hd
theorem aK {v:V} (a:Gl X x) (hm:X.mg x=some u) (r:RelV v u) (hd:(x==("__debug__":Str))=false:=by decide):PE X (.Name x pos) (tC v) :=
 λ_ _ _ H _ I h=>i5 I a hm ⟨v,H,I,r,h⟩ hd
theorem ie {v:V} (a:Gl X x) (hm:X.mg x=none) (b:bootBuiltins x=some u) (r:RelV v u) (hn:x≠"__name__":=by decide) (hd:(x==("__debug__":Str))=false:=by decide):PE X (.Name x pos) (tC v) :=
 λ_ _ _ H _ I h=>gu I a hm b ⟨v,H,I,r,h⟩ hn hd
noncomputable def t2I (ta tb:TE) (k:Int->Int->Hp->Prop):St->Hp->Prop:=λσ H=>ta σ H λx H1=>tb σ H1 λy H2=>∃i j,x=.int i/\y=.int j/\k i j H2
variable {a b:Expr} {ta tb:TE}
def PC (X:Cx) (f:CmpOp) (a b:Expr) (t:TE):Prop :=
 ∀(pins:List (Addr×Obj)) (s:Shared) (σ:St) (H:Hp) (Q:VK),Inv X pins σ H s->t σ H Q ->
  wpAny (model X.prog X.w) X.A (eval a X.env) (λv c=>wpAny (model X.prog X.w) X.A (eval b X.env) (λu e=>wpAny (model X.prog X.w) X.A (compareOp f v u) (EP X pins σ Q) X.xe e) X.xe c) X.xe s
theorem nC (b:Expr) {a:CmpOp} (h:a≠.In) (h2:a≠.NotIn):behindInMarks a b=false:=by
 have e1:(a==CmpOp.In)=false:=by cases a <;> first|rfl|exact absurd rfl h
 have e2:(a==CmpOp.NotIn)=false:=by cases a <;> first|rfl|exact absurd rfl h2
 cases b <;> simp[behindInMarks,e1,e2]
def zQ (p:Int->Int->Bool) (ta tb:TE):TE:=λσ H Q=>t2I ta tb (λi j H2=>Q (.bl (p i j)) H2) σ H
abbrev tLt:TE->TE->TE:=zQ λi j=>decide (i<j)
theorem xI {c:CmpOp} {p:Int->Int->Bool} (ha:PE X a ta) (e:PE X b tb)
  (rule:∀(i j:Int) (t u:Tok) (Q:Value->Shared->Prop) (s:Shared),Q (.bool (p i j)) s->wpAny (model X.prog X.w) X.A (compareOp c (.int i t) (.int j u)) Q X.xe s):PC X c a b (zQ p ta tb):=by
 intro pins s σ H Q I h;refine bin ha e I h λv u s2 x y H2 f g k q=>?_
 obtain⟨i,j,rfl,rfl,q⟩:=q;obtain⟨t,rfl⟩:=g;obtain⟨t',rfl⟩:=k;exact rule i j t t' _ s2 ⟨.bl _,H2,f,rfl,q⟩
theorem yX (ha:PE X a ta) (c:PE X b tb):PC X .Lt a b (tLt ta tb):=xI ha c λ_ _ _ _ _ _ h=>lt_int h
def AK (ta:TE):TE:=λσ H Q=>ta σ H λx H1=>Q (.bl (decide (x=.non))) H1
theorem RelV.none_iff {x:V} {v:Value} (r:RelV x v):(v==Value.none)=decide (x=.non):=by
 cases x with
 |non=>cases r;rfl
 |bl _=>cases r;rfl
 |int _=>obtain⟨t,rfl⟩:=r;rfl
 |str _=>obtain⟨t,rfl⟩:=r;rfl
 |byt _=>obtain⟨t,rfl⟩:=r;rfl
 |flt _=>obtain⟨t,rfl⟩:=r;rfl
 |ref _=>cases r;rfl
 |ty _=>cases r;rfl
theorem wU {j pos'} (ha:PE X a ta):PC X .Is a (.Constant .none j pos') (AK ta):=by
 intro pins s σ H Q I h;refine thn (ha pins s σ H _ I h) λv s1 b=>?_
 obtain⟨x,H1,c,e,f⟩:=b;exact Constant_none (is_none_gen ⟨.bl _,H1,c,by rw[e.none_iff];rfl,f⟩)
def tB (t:TE):TT:=λσ H Q=>t σ H λx H1=>∃c,x=.bl c/\Q c H1
theorem xB {c:CmpOp} (h:PC X c a b t) (h1:behindInMarks c b=false:=by first|exact nC _ (by decide) (by decide)|rfl):PE X (.Compare a [c] [b] pos) t:=λpins s σ H Q I hw=>wpAny_Compare1 (h pins s σ H Q I hw) h1
theorem wL {e:CmpOp} (h:PC X e a b t) (h1:behindInMarks e b=false:=by first|exact nC _ (by decide) (by decide)|rfl):PT X (.Compare a [e] [b] pos) (tB t):=by intro pins s σ H Q I hw;refine wpAny_isTrue_Compare1 (thn (h pins s σ H _ I hw) λv s1 h1=>thn h1 λu s2 h2=>thn h2 λc s3 f=>?_) h1;obtain⟨x,H1,g,i,j⟩:=f;obtain⟨d,rfl,q⟩:=j;cases i;exact wpAny_truthy_bool ⟨H1,g,q⟩
theorem xj (h:PE X e t) (b:∀whole,isTrue e X.env whole=(do let v <-whole;standAt e.pos;holding [v] (truthy v)):=by intro _;rfl):PT X e (tB t):=by intro pins s σ H Q I hw;refine isTrue_plain (thn (h pins s σ H _ I hw) λv s1 a=>?_) (b _);obtain⟨x,H1,c,f,g⟩:=a;obtain⟨d,rfl,q⟩:=g;cases f;exact wpAny_truthy_bool ⟨H1,c,q⟩
variable {tA tB':TT} {rest:List Expr}
def tOr (t u:TT):TT:=λσ H Q=>t σ H λc H1=>if c=true then Q true H1 else u σ H1 Q
def Aw (t:TT):TT:=λσ H Q=>t σ H λc H1=>Q (!c) H1
theorem wH (ha:PT X a tA):PW X (.BoolOp .Or [a] pos) tA:=by
 intro wh pins s σ H Q I h;refine isTrue_or (thn (ha pins s σ H Q I h) λc s1 e=>?_);cases c with
 |false=>exact isTrue_or_nil e
 |true=>exact e
theorem yY (ha:PT X a tA) (i:PW X (.BoolOp .Or (b::rest) pos) tB'):PW X (.BoolOp .Or (a::b::rest) pos) (tOr tA tB'):=by
 intro j pins s σ H Q I h;refine isTrue_or (thn (ha pins s σ H _ I h) λc k e=>?_);obtain⟨H1,f,g⟩:=e;cases c with
 |true=>exact⟨H1,f,g⟩
 |false=>exact i j pins k σ H1 Q f g
theorem yd (ha:PT X a tA):PT X (.UnaryOp .Not a pos) (Aw tA):=by intro pins s σ H Q I h;exact isTrue_not (ha pins s σ H (λc H1=>Q (!c) H1) I h)
def zS (ta tb:TE):TE:=λσ H Q=>ta σ H λx H1=>∃c,x=.bl c/\if c=true then tb σ H1 Q else Q (.bl false) H1
def AL (ta tb:TE):TE:=λσ H Q=>ta σ H λx H1=>∃c,x=.bl c/\if c=true then Q (.bl true) H1 else tb σ H1 Q
theorem tF {op} (h:PE X a t):PE X (.BoolOp op [a] pos) t:=λpins s σ H Q I hw=>BoolOp_one (h pins s σ H Q I hw)
theorem pf (ha:PE X a ta) (i:PE X (.BoolOp .And (b::rest) pos) tb):PE X (.BoolOp .And (a::b::rest) pos) (zS ta tb):=by
 intro pins s σ H Q I h;refine BoolOp_and (thn (ha pins s σ H _ I h) λv j f=>?_);obtain⟨x,H1,g,k,e⟩:=f;obtain⟨c,rfl,e⟩:=e;cases k;refine wpAny_truthy_bool ?_;cases c with
 |true=>exact i pins j σ H1 Q g e
 |false=>exact⟨.bl false,H1,g,rfl,e⟩
theorem Aj (ha:PE X a ta) (i:PE X (.BoolOp .Or (b::rest) pos) tb):PE X (.BoolOp .Or (a::b::rest) pos) (AL ta tb):=by
 intro pins s σ H Q I h;refine BoolOp_or (thn (ha pins s σ H _ I h) λv j f=>?_);obtain⟨x,H1,g,k,e⟩:=f;obtain⟨c,rfl,e⟩:=e;cases k;refine wpAny_truthy_bool ?_;cases c with
 |false=>exact i pins j σ H1 Q g e
 |true=>exact⟨.bl true,H1,g,rfl,e⟩
end
def SqL (K:PySem.W.Frag) (H:Hp) (a:Addr) (xs:List V):Prop :=
 Rd H a (.lst xs) \/
  ∃(o:Obj) (b:Array Value) (n:Nat),K.lookup a=some o/\o.cls=.type "list"/\o.dict=none/\o.data=.seq b n/\b.size<=sizeLine/\Vals xs b.toList
def SqT (K:PySem.W.Frag) (H:Hp) (a:Addr) (xs:List V):Prop :=
 Rd H a (.tup xs) \/
  ∃(o:Obj) (b:Array Value) (n:Nat),K.lookup a=some o/\o.cls=.type "tuple"/\o.data=.seq b n/\b.size<=sizeLine/\Vals xs b.toList
def Bb:Value->Option V
 |.none=>some .non
 |.bool b=>some (.bl b)
 |.int i _=>some (.int i)
 |.str x _=>some (.str x)
 |.bytes b _=>some (.byt b)
 |.float b _=>some (.flt b)
 |.ref a=>some (.ref a)
 |.type n=>some (.ty n)
 |_=>none
theorem RelV.abs {x:V} (r:RelV x u):Bb u=some x:=by
 cases x with
 |non=>cases r;rfl
 |bl _=>cases r;rfl
 |int _=>obtain⟨t,rfl⟩:=r;rfl
 |str _=>obtain⟨t,rfl⟩:=r;rfl
 |byt _=>obtain⟨t,rfl⟩:=r;rfl
 |flt _=>obtain⟨t,rfl⟩:=r;rfl
 |ref _=>cases r;rfl
 |ty _=>cases r;rfl
theorem RelV.inj {x y:V} (r:RelV x u) (q:RelV y u):x=y:=Option.some.inj (r.abs.symm.trans q.abs)
theorem Vals.inj {ys:List V} (h:Vals xs us) (h':Vals ys us):xs=ys:=by
 induction h generalizing ys with
 |nil=>cases h';rfl
 |cons r t ih =>
  cases h' with
  |cons r' t'=>rw[r.inj r',ih t']
section
variable {ys:List V}
theorem SqL.of (h:H a=some (.lst xs)):SqL K H a xs:=.inl (.inl h)
theorem SqT.of (h:H a=some (.tup xs)):SqT K H a xs:=.inl (.inl h)
theorem Inv.list (I:Inv X pins σ H s) (h:SqL X.K H a xs):∃b:List Value,Vals xs b/\PlainL s.heap a b.toArray/\xs.length<=sizeLine:=by
 rcases h with h|⟨o,b,n,c,hc,hd,f,hz,r⟩
 ·obtain⟨z,b,n,r,e⟩:=h.ok I.hok;exact⟨b,r,⟨_,n,e,rfl,rfl,rfl⟩,z⟩
 ·refine⟨b.toList,r,⟨o,n,I.kIn a o c,hc,hd,by simpa using f⟩,?_⟩;have e:=r.length;simp only[Cd]at e;omega
theorem Inv.tuple (I:Inv X pins σ H s) (h:SqT X.K H a xs):∃b:List Value,Vals xs b/\IsTup s.heap a b.toArray/\xs.length<=sizeLine:=by
 rcases h with h|⟨o,b,n,c,hc,f,hz,r⟩
 ·obtain⟨z,b,r,p⟩:=h.ok I.hok;exact⟨b,r,p.tup,z⟩
 ·refine⟨b.toList,r,⟨o,I.kIn a o c,hc,n,by simpa using f⟩,?_⟩;have e:=r.length;simp only[Cd]at e;omega
theorem Inv.list_inj (I:Inv X pins σ H s) (h:SqL X.K H a xs) (h':SqL X.K H a ys):xs=ys:=by
 obtain⟨b,r,⟨o,n,e,_,_,d⟩,_⟩:=I.list h;obtain⟨its',f,⟨o',n',c,_,_,d'⟩,_⟩:=I.list h';rw[e]at c;cases c;rw[d]at d';injection d' with d1 _
 have:b=its':=by simpa using congrArg Array.toList d1
 subst this;exact r.inj f
theorem Inv.tuple_inj (I:Inv X pins σ H s) (h:SqT X.K H a xs) (h':SqT X.K H a ys):xs=ys:=by
 obtain⟨b,r,⟨o,e,_,n,d⟩,_⟩:=I.tuple h;obtain⟨its',f,⟨o',c,_,n',d'⟩,_⟩:=I.tuple h';rw[e]at c;cases c;rw[d]at d';injection d' with d1 _
 have:b=its':=by simpa using congrArg Array.toList d1
 subst this;exact r.inj f
end
abbrev Cx.wish (X:Cx) (E:Value->Shared->Prop):Cx:={ X with xe:=E }
abbrev Cx.nox (X:Cx):Cx:=X.wish λ_ _=>False
theorem Cx.Ok.wish (ok:X.Ok) (E:Value->Shared->Prop):(X.wish E).Ok :=
 ⟨ok.mod,ok.kind,ok.glob,ok.blt,ok.above,ok.inj,ok.has,ok.cab,ok.hd,ok.frames,ok.stk,ok.exf,ok.bs,ok.bsz,ok.noex,ok.exfs,ok.funs,ok.frf⟩
theorem Cx.Ok.unwish (ok:(X.wish E).Ok):X.Ok :=
 ⟨ok.mod,ok.kind,ok.glob,ok.blt,ok.above,ok.inj,ok.has,ok.cab,ok.hd,ok.frames,ok.stk,ok.exf,ok.bs,ok.bsz,ok.noex,ok.exfs,ok.funs,ok.frf⟩
section
theorem Inv.wish (I:Inv X pins σ H s) (E:Value->Shared->Prop):Inv (X.wish E) pins σ H s:=⟨I.ok.wish E,I.os,I.bare,I.base,I.loc,I.cell,I.free,I.freeC,I.pin,I.hok,I.len,I.tab⟩
theorem Inv.unwish (I:Inv (X.wish E) pins σ H s):Inv X pins σ H s:=⟨I.ok.unwish,I.os,I.bare,I.base,I.loc,I.cell,I.free,I.freeC,I.pin,I.hok,I.len,I.tab⟩
theorem SP.unwish {D:Ends} {f:Flow} (h:SP (X.wish E) pins D f s'):SP X pins D f s':=by
 cases f with
 |next=>obtain⟨a,H',I,q⟩:=h;exact⟨a,H',I.unwish,q⟩
 |brk=>obtain⟨a,H',I,q⟩:=h;exact⟨a,H',I.unwish,q⟩
 |cont=>obtain⟨a,H',I,q⟩:=h;exact⟨a,H',I.unwish,q⟩
 |ret u=>obtain⟨v,a,H',I,r,q⟩:=h;exact⟨v,a,H',I.unwish,r,q⟩
theorem PSs.nox {st:List Stmt} {t:TS} (h:PSs X.nox st t):PSs X st t:=λpins s σ H D I hw =>
 wpAny_mono (h pins s σ H D (I.wish _) hw) (λ_ _ q=>q.unwish) λ_ _ z=>False.elim z
end
section
variable {rest:List Stmt} {t u:TS} {te:TE}
def Ai:TS:=λD σ H=>D.nx σ H
def AA (t u:TS):TS:=λD σ H=>t { D with nx:=u D } σ H
theorem mZ:PSs X [] Ai:=λ_ _ σ H _ I h=>wpAny_execs_nil ⟨σ,H,I,h⟩
theorem fg (h1:PS X st t) (h2:PSs X rest u):PSs X (st::rest) (AA t u):=by
 intro pins s σ H D I h;refine wpAny_execs_cons (thn (h1 pins s σ H { D with nx:=u D } I h) λf b q=>?_);cases f with
 |next =>obtain⟨a,H',c,q⟩:=q;exact h2 pins b a H' D c q
 |ret v=>exact q
 |brk=>exact q
 |cont=>exact q
theorem gE (h1:PS X st t):PSs X [st] t:=by
 intro pins s σ H D I h;refine wpAny_execs_cons (thn (h1 pins s σ H D I h) λf s1 q=>?_);cases f with
 |next=>exact wpAny_execs_nil q
 |ret v=>exact q
 |brk=>exact q
 |cont=>exact q
theorem Inv.quiet (I:Inv X pins σ H s):interactive X.env=false:=by simp[interactive,I.ok.kind]
def yR (te:TE):TS:=λD σ H=>te σ H λ_ H1=>D.nx σ H1
theorem jW (b:PE X e te) (c:swapsWith e none pos.line X.env=pure false:=by rfl):PS X (.Expr e pos) (yR te):=by intro pins s σ H D I h;exact wpAny_Expr_any (thn (b pins s σ H _ I h) λv s1 a=>(by obtain⟨x,H1,f,r1,g⟩:=a;exact⟨σ,H1,f,g⟩)) I.quiet c
def AF (te:TE):TS:=λD σ H=>te σ H D.rt
theorem iO (b:PE X e te):PS X (.Return (some e) pos) (AF te):=by intro pins s σ H D I h;exact wpAny_Return_some (thn (b pins s σ H _ I h) λv s1 a=>(by obtain⟨x,H1,c,f,g⟩:=a;exact⟨x,σ,H1,c,f,g⟩))
def A1 (c:TT) (t u:TS):TS:=λD σ H=>c σ H λb H1=>if b=true then t D σ H1 else u D σ H1
theorem sE {c:Expr} {a b:List Stmt} {tc:TT} (hc:PT X c tc) (ha:PSs X a t) (j:PSs X b u):PS X (.If c a b pos) (A1 tc t u):=by
 intro pins s σ H D I h;refine wpAny_If (thn (hc pins s σ H _ I h) λd f e=>?_);obtain⟨H1,g,i⟩:=e;cases d with
 |true=>exact ha pins f σ H1 D g i
 |false=>exact j pins f σ H1 D g i
end
abbrev TG:=V->St->Hp->(St->Hp->Prop)->Prop
abbrev TGs:=List V->St->Hp->(St->Hp->Prop)->Prop
def PG (X:Cx) (target:Expr) (t:TG):Prop :=
 ∀(pins:List (Addr×Obj)) (s:Shared) (σ:St) (H:Hp) (v:V) (u:Value) (Q:St->Hp->Prop),Inv X pins σ H s->RelV v u->t v σ H Q ->
  wpAny (model X.prog X.w) X.A (assign target X.env u) (λ_ s'=>∃a H',Inv X pins a H' s'/\Q a H') X.xe s
def PGs (X:Cx) (ts:List Expr) (t:TGs):Prop :=
 ∀(pins:List (Addr×Obj)) (s:Shared) (σ:St) (H:Hp) (vs:List V) (us:List Value) (Q:St->Hp->Prop),Inv X pins σ H s->Vals vs us->t vs σ H Q ->
  wpAny (model X.prog X.w) X.A (assignInOrder ((assignEach ts X.env).map (·.2)) us) (λ_ s'=>∃a H',Inv X pins a H' s'/\Q a H') X.xe s
abbrev wV:=V->V->V->Hp->(Hp->Prop)->Prop
def zY (X:Cx) (t:wV):Prop :=
 ∀(pins:List (Addr×Obj)) (s:Shared) (σ:St) (H:Hp) (o i v:V) (a b u:Value) (Q:Hp->Prop),Inv X pins σ H s->RelV o a->RelV i b->RelV v u->t o i v H Q ->
  wpAny (model X.prog X.w) X.A (setItem a b u) (λ_ s'=>∃H',Inv X pins σ H' s'/\Q H') X.xe s
section
def i8 (i:Nat):TG:=λv σ H Q=>Q (σ.set i (some v)) H
theorem vJ (a:X.N.Nodup) (hi:X.N[i]?=some x) (b:Loc X.env.scope x) (c:X.fn x=true\/X.env.scope.names.lookup x=some .local:=by first|exact .inl rfl|exact .inr rfl|assumption):PG X (.Name x pos) (i8 i):=by intro pins s σ H v u Q I r h;exact wpAny_assign_Name (km I a hi b r (λs' e=>⟨_,H,e,h⟩) c)
def Ak:TGs:=λvs σ H Q=>vs=[]/\Q σ H
def uu (t:TG) (u:TGs):TGs:=λvs σ H Q=>∃v r,vs=v::r/\t v σ H λa H'=>u r a H' Q
theorem vP:PGs X [] Ak:=by intro pins s σ H vs us Q I r h;obtain⟨e,h⟩:=h;subst e;cases r;exact assignInOrder_nil ⟨σ,H,I,h⟩
theorem rK {t:TG} {u:TGs} (h1:PG X e t) (h2:PGs X es u)
  (c:(assignEach (e::es) X.env).map (·.2)=assign e X.env::(assignEach es X.env).map (·.2):=by rfl):PGs X (e::es) (uu t u):=by
 intro pins s σ H vs us Q I r h;obtain⟨v,vr,e1,h⟩:=h;subst e1;cases r with
 |cons r rr =>rw[c];refine assignInOrder_cons (thn (h1 pins s σ H _ _ _ I r h) λ_ f a=>?_);obtain⟨b,H1,g,i⟩:=a;exact h2 pins f b H1 _ _ Q g rr i
def zr (K:PySem.W.Frag) (n:Nat) (t:TGs):TG:=λv σ H Q=>∃a xs,v=.ref a/\SqT K H a xs/\xs.length=n/\t xs σ H Q
theorem yj {t:TGs} (hc:X.calm=true) (h:PGs X es t)
  (hn:(assignEach es X.env).length=n:=by rfl) (c:(assignEach es X.env).findIdx? (·.1)=none:=by rfl):PG X (.Tuple es k pos) (zr X.K n t):=by
 intro pins s σ H v u Q I r hw;obtain⟨a,xs,e1,g,hl,hw⟩:=hw;subst e1;cases r;obtain⟨its,f,i,hz⟩:=I.tuple g;refine assign_Tuple_tuple (I.ok.hd hc) i (by simp[hn,<-hl,f.length]) c λh' j=>?_
 have l:Inv X pins σ H { s with heap:=h' }:=I.kept (t':=s.toks) λb o e=>j b o (B9 (B4 e)) e
 exact h pins _ σ H xs _ Q l (by simpa using f) hw
def AR (to a:TE) (t:wV):TG:=λv σ H Q=>to σ H λo H1=>a σ H1 λi H2=>t o i v H2 λb=>Q σ b
theorem yc {o i:Expr} {to e:TE} {t:wV} (f:PE X o to) (hi:PE X i e) (g:zY X t)
  (ha:∀v,assign (.Subscript o i pos) X.env v=(do
   let b <-holding [v] (eval o X.env);let c <-holding [v,b] (eval i X.env)
   standAt pos
   holding [v,b,c] (setItem b c v)
   release [v,b,c] []):=by intro _;rfl):PG X (.Subscript o i pos) (AR to e t):=by
 intro pins s σ H v u Q I r h;rw[ha];refine wpAny_bind (wpAny_holding (thn (f pins s σ H _ I h) λb j a=>?_));obtain⟨x,H1,k,l,m⟩:=a;refine wpAny_bind (wpAny_holding (thn (hi pins j σ H1 _ k m) λc s2 a=>?_));obtain⟨y,H2,n,p,q⟩:=a;refine wpAny_bind (wpAny_standAt (wpAny_bind (wpAny_holding (thn (g pins s2 σ H2 x y v b c u _ n l p r q) λ_ s3 a=>?_))));obtain⟨w,z,A⟩:=a;exact wpAny_release ⟨σ,w,z,A⟩
def uZ (te:TE) (g:TG):TS:=λD σ H=>te σ H λx H1=>g x σ H1 D.nx
theorem yF {te:TE} {g:TG} (b:PE X e te) (c:PG X tg g) (f:swapsWithSole [tg] e pos.line X.env=pure false:=by rfl) (hw:swappedStores [tg] e X.env=pure none:=by rfl)
  (h1:(assignEach [tg] X.env).map (·.2)=[assign tg X.env]:=by rfl):PS X (.Assign [tg] e pos) (uZ te g):=by
 intro pins s σ H D I h;refine wpAny_Assign_stores (thn (b pins s σ H _ I h) λv i a=>?_) f hw;obtain⟨x,H1,j,k,l⟩:=a;rw[h1];exact thn (c pins i σ H1 x v _ j k l) λ_ s2 q=>q
theorem kl {te:TE} (b:X.N.Nodup) (hi:X.N[i]?=some x) (c:Loc X.env.scope x) (f:PE X e te) (g:swapsWith e (some (.Name x pos')) pos.line X.env=pure false:=by rfl) (j:X.fn x=true\/X.env.scope.names.lookup x=some .local:=by first|exact .inl rfl|exact .inr rfl|assumption) :
  PS X (.Assign [.Name x pos'] e pos) (uZ te (i8 i)):=by
 intro pins s σ H D I h;refine wpAny_Assign_Name (thn (f pins s σ H _ I h) λv s1 a=>?_) g;obtain⟨y,H1,k,l,m⟩:=a;exact km k b hi c l (λs2 n=>⟨_,H1,n,m⟩) j
end
section
end
structure It where
 go:Nat->Hp->Prop
 yld:Nat->Hp->V->Hp->Prop
 stop:Nat->Hp->Prop
def j8 (X:Cx) (pins:List (Addr×Obj)) (H:Hp) (b:Addr):Prop :=
 H b=none/\b≠X.env.locals/\b∉X.fs/\(b∈X.ex\/X.s₀.heap.objs.size<=b)/\(∀x c,X.env.cells.lookup x=some c->c≠b)/\∀p∈X.pn++pins,p.1≠b
theorem Inv.fpOk {H':Hp} (I:Inv X pins σ H s) (a:s.heap.objs.size<=b) (hn:H' b=none):j8 X pins H' b:=by
 refine⟨hn,Cf (B6 I.lt a),I.nofs a,.inr (BS I.sz a),λx c e z=>?_,λp f z=>?_⟩
 ·obtain⟨v,q⟩:=I.cell x c e;exact absurd (B6 q.lt (by rw[z];exact a)) (C1 _)
 ·exact absurd (B6 (B4 (I.pin p f).1) (by rw[z];exact a)) (C1 _)
structure Turn (P:Program) (w:World) (K:PySem.W.Frag) (tg:Expr) (J:It) (fp:List Addr) (it:Addr) (tn:Nat->Heap->Prop):Prop where
 mem:it∈fp
 obj:∀i h,tn i h->∀b∈fp,∃o,h.get? b=some o/\∀v,o.data≠.cell v
 keep:∀i h h',tn i h->(∀b∈fp,∀o,h.get? b=some o->h'.get? b=some o)->tn i h'
 item:∀(X:Cx),X.prog=P->X.w=w->X.K=K->X.calm=true->∀(i:Nat) (pins:List (Addr×Obj)) (s:Shared) (σ:St) (H:Hp) (E:Value->Shared->Prop),Inv X pins σ H s->(∀b∈fp,j8 X pins H b)->tn i s.heap->J.go i H ->
  wpAny (model P w) X.A (pyNext (.ref it)) (λr s1=>∃u,r=some u /\
   wpAny (model P w) X.A (letOwnedTupleGo tg (.ref it) u) (λ_ s2=>∃x H',Inv X pins σ H' s2/\RelV x u/\J.yld i H x H'/\tn (i+1) s2.heap/\∀b∈fp,H' b=none) E s1) E s
 done:∀(X:Cx),X.prog=P->X.w=w->X.K=K->X.calm=true->∀(i:Nat) (pins:List (Addr×Obj)) (s:Shared) (σ:St) (H:Hp) (E:Value->Shared->Prop),Inv X pins σ H s->(∀b∈fp,j8 X pins H b)->tn i s.heap->J.stop i H ->
  wpAny (model P w) X.A (pyNext (.ref it)) (λr s1=>r=none/\Inv X pins σ H s1) E s
 self:∀(A:Around) (i:Nat) (s:Shared) (Q:Value->Shared->Prop) (E:Value->Shared->Prop),tn i s.heap->Q (.ref it) s->wpAny (model P w) A (pyIter (.ref it)) Q E s
abbrev TI:=St->Hp->(It->Hp->Prop)->Prop
def PIE (X:Cx) (pins:List (Addr×Obj)) (σ:St) (tg:Expr) (R:It->Hp->Prop) (a:Value) (s2:Shared):Prop :=
 ∃(it:Addr) (fp:List Addr) (tn:Nat->Heap->Prop) (J:It) (H':Hp),a=.ref it/\Inv X pins σ H' s2/\Turn X.prog X.w X.K tg J fp it tn/\tn 0 s2.heap/\(∀b∈fp,j8 X pins H' b)/\R J H'
def PI (X:Cx) (tg iter:Expr) (a:TI):Prop :=
 ∀(pins:List (Addr×Obj)) (s:Shared) (σ:St) (H:Hp) (R:It->Hp->Prop),Inv X pins σ H s->a σ H R ->
  wpAny (model X.prog X.w) X.A (eval iter X.env) (λv b=>wpAny (model X.prog X.w) X.A (pyIter v) (PIE X pins σ tg R) X.xe b) X.xe s
theorem sI {n:String} {vs:Array Value} {Q:Unit->Shared->Prop} (b:s.heap.get? it=some o) (hc:o.cls=.type n) (hd:o.data=.fields vs)
    (hn:["enumerate", "zip", "dict_itemiterator", "dict_reverseitemiterator", "odict_iterator", "itertools.zip_longest", "itertools.pairwise"].contains n=false) (a:Q () s):wpAny M A (letOwnedTupleGo tg (.ref it) u) Q E s:=by
  unfold letOwnedTupleGo
  cases tg <;> first
    |exact wpAny_pure a
    | (cases u <;> first
        |exact wpAny_pure a
        | (refine wpAny_bind (wpAny_load b ?_)
           rw[hc,hd]
           show wpAny M A (if (["enumerate", "zip", "dict_itemiterator", "dict_reverseitemiterator", "odict_iterator", "itertools.zip_longest", "itertools.pairwise"].contains n&&vs[0]?==some (rawInt _))=true then _ else _) Q E s
           rw[if_neg (by intro h;rw[hn,Cw]at h;cases h)]
           exact wpAny_pure a))
noncomputable def Itl (K:PySem.W.Frag) (a:Addr):It :=
 ⟨λi H=>∃xs x,SqL K H a xs/\xs[i]?=some x,λi H x H'=>H'=H/\∀xs,SqL K H a xs->xs[i]?=some x,λi H=>∃xs,SqL K H a xs/\xs.length<=i⟩
noncomputable def Itt (K:PySem.W.Frag) (a:Addr):It :=
 ⟨λi H=>∃xs x,SqT K H a xs/\xs[i]?=some x,λi H x H'=>H'=H/\∀xs,SqT K H a xs->xs[i]?=some x,λi H=>∃xs,SqT K H a xs/\xs.length<=i⟩
noncomputable def Itr (lo:Int) (n:Nat):It:=⟨λi _=>i<n,λi H x H'=>H'=H/\x=.int (lo+i),λi _=>n<=i⟩
theorem qR (a it:Addr):Turn P w K tg (Itl K a) [it] it (λi h=>h.IsListIter it a i) where
 mem:=by simp
 obj:=λi h st b f=>by
  have e:b=it:=by simpa using f
  subst e;obtain⟨o,e,c,d⟩:=st;exact⟨o,e,λv z=>by rw[d]at z;cases z⟩
 keep:=λi h h' st k=>st.at λo e=>k it (by simp) o e
 item:=by
  intro X m hw hK hc i pins s σ H E I j st n;subst m hw hK;obtain⟨xs,x,l,q⟩:=n;obtain⟨r,t,p,D⟩:=I.list l;obtain⟨u,F,G⟩:=t.get q;obtain⟨y,f1,f2,A,B,C⟩:=j it (by simp);refine wpAny_pyNext_list_item st p.isList (x:=u) (by simpa using F) λh' g J=>?_
  have L:Inv X pins σ H { s with heap:=h' }:=I.turned (t':=s.toks) (λb o f e=>(J.2 b f).trans e) y f1 A B C;obtain⟨o,e,c,d⟩:=id g;exact⟨u,rfl,sI (s:={ s with heap:=h' }) e c d (by decide) ⟨x,H,L,G,⟨rfl,λys M=>by rw[I.list_inj M l];exact q⟩,g,λb f=>(j b f).1⟩⟩
 done:=by intro X m hw hK hc i pins s σ H E I j st n;subst m hw hK;obtain⟨xs,l,q⟩:=n;obtain⟨r,t,p,D⟩:=I.list l;obtain⟨y,f1,f2,A,B,C⟩:=j it (by simp);have hl:=t.length;exact wpAny_pyNext_list_end (I.ok.hd hc) st p.isList (by simp;omega) λh' N=>⟨rfl,I.turned (t':=s.toks) (λb o f e=>N b o f e) y f1 A B C⟩
 self:=λ_ _ _ _ _ st h=>wpAny_pyIter_listiter st h
theorem oK (a it:Addr):Turn P w K tg (Itt K a) [it] it (λi h=>h.IsTupleIter it a i) where
 mem:=by simp
 obj:=λi h st b f=>by
  have e:b=it:=by simpa using f
  subst e;obtain⟨o,e,c,d⟩:=st;exact⟨o,e,λv z=>by rw[d]at z;cases z⟩
 keep:=λi h h' st k=>st.at λo e=>k it (by simp) o e
 item:=by
  intro X n hw hK hc i pins s σ H E I l st q;subst n hw hK;obtain⟨xs,x,m,r⟩:=q;obtain⟨g,t,p,D⟩:=I.tuple m;obtain⟨u,F,G⟩:=t.get r;obtain⟨y,f1,f2,A,B,C⟩:=l it (by simp);refine wpAny_pyNext_tuple_item st (show s.heap.IsTuple a g.toArray from p) (x:=u) (by simpa using F) λh' j J=>?_
  have L:Inv X pins σ H { s with heap:=h' }:=I.turned (t':=s.toks) (λb o f e=>(J.2 b f).trans e) y f1 A B C;obtain⟨o,e,c,d⟩:=id j;exact⟨u,rfl,sI (s:={ s with heap:=h' }) e c d (by decide) ⟨x,H,L,G,⟨rfl,λys M=>by rw[I.tuple_inj M m];exact r⟩,j,λb f=>(l b f).1⟩⟩
 done:=by intro X n hw hK hc i pins s σ H E I l st q;subst n hw hK;obtain⟨xs,m,r⟩:=q;obtain⟨g,t,p,D⟩:=I.tuple m;obtain⟨y,f1,f2,A,B,C⟩:=l it (by simp);have hl:=t.length;exact wpAny_pyNext_tuple_end (I.ok.hd hc) st (show s.heap.IsTuple a g.toArray from p) (by simp;omega) λh' N=>⟨rfl,I.turned (t':=s.toks) (λb o f e=>N b o f e) y f1 A B C⟩
 self:=λ_ _ _ _ _ st h=>wpAny_pyIter_tupleiter st h
theorem oM (it:Addr) (lo:Int) (n:Nat):Turn P w K tg (Itr lo n) [it] it (λi h=>IsRangeIter h it (lo+(i:Nat)*1) ((n:Int)-(i:Nat)) 1) where
 mem:=by simp
 obj:=λi h st b a=>by
  have e:b=it:=by simpa using a
  subst e;exact⟨_,st,λv z=>by have r:Data.fields _=Data.cell v:=z;cases r⟩
 keep:=λi h h' st k=>k it (by simp) _ st
 item:=by
  intro X g hw hK hc i pins s σ H E I f st j;subst g hw hK;obtain⟨l,f1,f2,m,p,q⟩:=f it (by simp);have W:=Walks.range (prog:=X.prog) (w:=X.w) (I.ok.hd hc) it lo 1 n;refine W.item i s _ _ j st λv h' tk u c x=>?_
  obtain⟨t,rfl⟩:=u;have y:Inv X pins σ H { s with heap:=h',toks:=tk }:=I.turned (λb o a e=>x b o (by simpa using a) e) l f1 m p q;refine⟨_,rfl,sI (s:={ s with heap:=h',toks:=tk }) (n:="range_iterator") c rfl rfl (by decide) ⟨.int (lo+i),H,y,⟨t,?_⟩,⟨rfl,rfl⟩,c,λb a=>(f b a).1⟩⟩;rw[Int.mul_one]
 done:=by intro X g hw hK hc i pins s σ H E I f st j;subst g hw hK;obtain⟨l,f1,f2,m,p,q⟩:=f it (by simp);exact wpAny_pyNext_range_end (I.ok.hd hc) st (by have:n<=i:=j;omega) λh' A=>⟨rfl,I.turned (t':=s.toks) (λb o a e=>A b o a e) l f1 m p q⟩
 self:=λ_ _ _ _ _ st h=>wpAny_pyIter_rangeiter st h
section
def Ae (K:PySem.W.Frag) (tl:TE):TI:=λσ H R=>tl σ H λx H1=>∃a,x=.ref a/\(∃xs,SqL K H1 a xs)/\R (Itl K a) H1
def Av (K:PySem.W.Frag) (tl:TE):TI:=λσ H R=>tl σ H λx H1=>∃a,x=.ref a/\(∃xs,SqT K H1 a xs)/\R (Itt K a) H1
theorem vg {l:Expr} {tl:TE} (hl:PE X l tl):PI X tg l (Ae X.K tl):=by
 intro pins s σ H R I h;refine thn (hl pins s σ H _ I h) λv c g=>?_
 obtain⟨x,H1,f,i,j⟩:=g;obtain⟨a,e,⟨xs,k⟩,q⟩:=j;subst e;cases i;obtain⟨its,rv,p,hz⟩:=f.list k;refine wpAny_pyIter_list p.isList ?_;refine⟨c.heap.objs.size,[c.heap.objs.size],_,_,H1,rfl,f.kept (t':=c.toks) λb o e=>B0 _ e,qR a _,⟨_,Br _ rfl,rfl,rfl⟩,λb m=>?_,q⟩;have e:b=c.heap.objs.size:=by simpa using m
 subst e;exact f.fpOk (B5 _) (f.hok.fresh (B5 _))
theorem yD {l:Expr} {tl:TE} (hl:PE X l tl):PI X tg l (Av X.K tl):=by
 intro pins s σ H R I h;refine thn (hl pins s σ H _ I h) λv c g=>?_
 obtain⟨x,H1,f,j,k⟩:=g;obtain⟨a,e,⟨xs,m⟩,q⟩:=k;subst e;cases j;obtain⟨i,rv,p,hz⟩:=f.tuple m;refine wpAny_pyIter_tuple (show c.heap.IsTuple a i.toArray from p) ?_;refine⟨c.heap.objs.size,[c.heap.objs.size],_,_,H1,rfl,f.kept (t':=c.toks) λb o e=>B0 _ e,oK a _,⟨_,Br _ rfl,rfl,rfl⟩,λb n=>?_,q⟩;have e:b=c.heap.objs.size:=by simpa using n
 subst e;exact f.fpOk (B5 _) (f.hok.fresh (B5 _))
theorem rA {R:It->Hp->Prop} {lo hi:Int} {t u v:Tok} {tk:Nat} (I:Inv X pins σ H s) (h1:-(2 ^ 62)<=lo) (h2:lo<2 ^ 62) (c:-(2 ^ 62)<=hi) (f:hi<2 ^ 62)
  (q:R (Itr lo (hi-lo).toNat) H):wpAny (model X.prog X.w) X.A (pyIter (.ref s.heap.objs.size)) (PIE X pins σ tg R) E { s with heap:=s.heap.push { cls:=.type "range",data:=.fields #[.int lo t,.int hi u,.int 1 v] },toks:=tk }:=by
 refine wpAny_pyIter_range (IsRange.new ..) (small_one h1 h2 c f) ?_;have a:Inv X pins σ H { s with heap:=s.heap.push { cls:=.type "range",data:=.fields #[.int lo t,.int hi u,.int 1 v] },toks:=tk }:=I.kept λb o e=>B0 _ e
 refine⟨(s.heap.push { cls:=.type "range",data:=.fields #[.int lo t,.int hi u,.int 1 v] }).objs.size,[(s.heap.push { cls:=.type "range",data:=.fields #[.int lo t,.int hi u,.int 1 v] }).objs.size],_,_,H,rfl,
  a.kept (t':=tk) λb o e=>B0 _ e,oM _ lo (hi-lo).toNat,?_,λb g=>?_,q⟩
 ·have e1:lo+((0:Nat):Int)*1=lo:=by simp
  have e2:(((hi-lo).toNat:Nat):Int)-((0:Nat):Int)=Builtin.Range.rangeSize lo hi 1:=by rw[rangeSize_one];split <;> omega
  show IsRangeIter _ _ (lo+((0:Nat):Int)*1) ((((hi-lo).toNat:Nat):Int)-((0:Nat):Int)) 1;rw[e1,e2];exact Br _ rfl
 ·have e:b=(s.heap.push { cls:=.type "range",data:=.fields #[.int lo t,.int hi u,.int 1 v] }).objs.size:=by simpa using g
  subst e;exact a.fpOk (B5 _) (a.hok.fresh (B5 _))
def z0 (ta:TA):TI:=λσ H R=>ta σ H λvs H1=>∃j:Int,vs=[.int j]/\-(2 ^ 62)<=j/\j<2 ^ 62/\R (Itr 0 j.toNat) H1
theorem qU {a:Expr} {ta:TA} (f:Gl X "range") (hm:X.mg "range"=none) (ha:PA X [a] ta) (g:starEach [a] X.env=[(false,eval a X.env)]:=by rfl):PI X tg (.Call (.Name "range" p) [a] [] pos) (z0 ta):=by
 intro pins s σ H R I h;refine Call_ (gu I f hm boot_range (PyProof.Rows.callWith_type1 (thn (ha pos pins s σ H _ I h) λus s1 b=>?_) g rfl));obtain⟨vs,H1,i,k,c⟩:=b;obtain⟨j,e,c,l,q⟩:=c;subst e;cases k with
 |cons r rr =>cases rr;obtain⟨t,rfl⟩:=r;exact call_range_1 (rA i (by omega) (by omega) c l (by simpa using q))
def AG (e:TI) (g:TG) (tb:TS):TS:=λD σ H=>e σ H λJ H1=>∃W:Nat->Nat->St->Hp->Prop,(∃m,W 0 m σ H1)/\∀i m σ H,W i m σ H ->
 (J.stop i H/\D.nx σ H)\/(J.go i H/\∃N:St->Hp->Prop,(∀a H',N a H'->∃c,c < m/\W (i+1) c a H')/\∀x H',J.yld i H x H'->g x σ H' λb H2=>tb { D with nx:=N,ct:=N,bk:=D.nx } b H2)
def ku (fp:List Addr) (h:Heap):List (Addr×Obj):=fp.filterMap λb=>(h.get? b).map λo=>(b,o)
theorem gr (a:b∈fp) (e:h.get? b=some o):(b,o)∈ku fp h:=CA.mpr ⟨b,a,by rw[e];rfl⟩
theorem qE {p:Addr×Obj} (a:p∈ku fp h):p.1∈fp/\h.get? p.1=some p.2:=by
 obtain⟨b,c,e⟩:=CA.mp a;cases q:h.get? b with
 |none=>rw[q]at e;cases e
 |some o =>rw[q]at e;have f:(b,o)=p:=Option.some.inj e;subst f;exact⟨c,q⟩
theorem Inv.pinned (I:Inv X pins σ H s) (f:∀b∈fp,j8 X pins H b) (g:∀b∈fp,∃o,s.heap.get? b=some o/\∀v,o.data≠.cell v):Inv X (pins++ku fp s.heap) σ H s :=
 I.pins_of λp h=>(BA.mp h).elim (λz=>I.pin p (Bv _ z)) λz=>by obtain⟨a,e⟩:=qE z;obtain⟨i,f1,f2,_⟩:=f p.1 a;obtain⟨o,c,d⟩:=g p.1 a;rw[e]at c;cases c;exact⟨e,i,f1,f2,d⟩
theorem Inv.unpinned {pl:List (Addr×Obj)} (I:Inv X (pins++pl) σ H s):Inv X pins σ H s:=I.pins_of λp a=>I.pin p (Bv _ (BE _ a))
theorem xb {R:TI} {g:TG} {tb:TS} (B:PassesOwn (model X.prog X.w) X.A X.env X.xe) (hc:X.calm=true) (hi:PI X tg iter R) (hg:PG X tg g) (j:PSs X body tb)
  (hs:∀x,foldedSetIterable iter X.env x=pure x:=by intro _;rfl):PS X (.For tg iter body [] pos) (AG R g tb):=by
 intro pins s σ H D I h;refine wpAny_For (thn (hi pins s σ H _ I h) λv s1 h1=>thn h1 λitv s2 h2=>?_) hs;obtain⟨it,fp,tn,J,H2,e,I2,T,K,f2,W,⟨m0,w0⟩,turn⟩:=h2;subst e
 -- what stays true of the iterator's objects through the loop
 have k:∀{H':Hp},(∀b∈fp,H' b=none)->∀b∈fp,j8 X pins H' b:=λhn b j=>⟨hn b j,(f2 b j).2⟩
 refine codeAny_forLoop_any (λn s'=>∃i l H',Inv X pins l H' s'/\tn i s'.heap/\(∀b∈fp,H' b=none)/\W i n l H') ?_ m0 ⟨0,σ,H2,I2,K,λb j=>(f2 b j).1,w0⟩
 rintro n S ⟨i,p,G,U,C,E,w3⟩
 rcases turn i n p G w3 with⟨stop,qn⟩|⟨go,N,hN,step⟩
 ·refine wpAny_passesOwn B (thn (T.done X rfl rfl rfl hc i pins S p G X.xe U (k E) C stop) λr s4 c=>?_);obtain⟨L,I4⟩:=c;subst L;exact wpAny_execs_nil ⟨p,G,I4,qn⟩
 ·refine wpAny_passesOwn B (thn (T.item X rfl rfl rfl hc i pins S p G X.xe U (k E) C go) λr s4 c=>?_);obtain⟨u,L,h4⟩:=c;subst L;refine wpAny_passesOwn B (thn h4 λ_ Y c=>?_);obtain⟨x,Z,I5,r5,y5,z,M⟩:=c;have O:=I5.pinned (k M) (T.obj _ _ z);refine wpAny_passesOwn B (thn (hg _ Y p Z x u _ O r5 (step x Z y5)) λ_ s6 c=>?_);obtain⟨P,H6,I6,q6⟩:=c;refine wpAny_passesOwn B (thn (j _ s6 P H6 _ I6 q6) λf Q y=>?_);have again:∀{a:St} {q:Hp},Inv X (pins++ku fp Y.heap) a q Q->N a q->∃m,m<n/\∃i l H',Inv X pins l H' Q/\tn i Q.heap/\(∀b∈fp,H' b=none)/\W i m l H':=λ{a q} t F=>by obtain⟨m',hm,w7⟩:=hN a q F;refine⟨m',hm,i+1,a,q,t.unpinned,T.keep _ _ _ z λb j o e=>(t.pin (b,o) (Bv _ (Bv _ (gr j e)))).1,λb j=>?_,w7⟩;obtain⟨o,e,d⟩:=T.obj _ _ z b j;exact (t.pin (b,o) (Bv _ (Bv _ (gr j e)))).2.1
  cases f with
  |next=>obtain⟨a,q,t,F⟩:=y;exact again t F
  |cont=>obtain⟨a,q,t,F⟩:=y;exact again t F
  |brk=>obtain⟨a,q,t,y⟩:=y;exact⟨a,q,t.unpinned,y⟩
  |ret v=>obtain⟨x7,a,q,t,r7,y⟩:=y;exact⟨x7,a,q,t.unpinned,r7,y⟩
end
abbrev R2:=V->V->Hp->VK->Prop
variable {r:R2}
def OpR (X:Cx) (f:Value->Value->Sem Value) (r:R2):Prop :=
 ∀(pins:List (Addr×Obj)) (s:Shared) (σ:St) (H:Hp) (x y:V) (v u:Value) (Q:VK),Inv X pins σ H s->RelV x v->RelV y u->r x y H Q ->
  wpAny (model X.prog X.w) X.A (f v u) (EP X pins σ Q) X.xe s
def UnR (X:Cx) (f:Value->Sem Value) (r:V->Hp->VK->Prop):Prop :=
 ∀(pins:List (Addr×Obj)) (s:Shared) (σ:St) (H:Hp) (x:V) (v:Value) (Q:VK),Inv X pins σ H s->RelV x v->r x H Q ->
  wpAny (model X.prog X.w) X.A (f v) (EP X pins σ Q) X.xe s
def gJ (X:Cx) (f:Value) (r:List V->Hp->VK->Prop):Prop :=
 ∀(pins:List (Addr×Obj)) (s:Shared) (σ:St) (H:Hp) (xs:List V) (us:List Value) (Q:VK),Inv X pins σ H s->Vals xs us->r xs H Q ->
  wpAny (model X.prog X.w) X.A (call f us) (EP X pins σ Q) X.xe s
def tOp (r:R2) (ta tb:TE):TE:=λσ H Q=>ta σ H λx H1=>tb σ H1 λy H2=>r x y H2 Q
def tUn (r:V->Hp->VK->Prop) (ta:TE):TE:=λσ H Q=>ta σ H λx H1=>r x H1 Q
def rI (C:Int->Int->Prop) (g:Int->Int->V):R2:=λx y H Q=>∃i j,x=.int i/\y=.int j/\C i j/\Q (g i j) H
def rI0 (g:Int->Int->V):R2:=λx y H Q=>∃i j,x=.int i/\y=.int j/\Q (g i j) H
def rU (g:Int->V):V->Hp->VK->Prop:=λx H Q=>∃i,x=.int i/\Q (g i) H
section
variable {a b c:Expr} {ta tb tc:TE}
theorem xp (ha:PE X a ta) (i:PE X b tb) (I:Inv X pins σ H s)
  (h:ta σ H λx H1=>tb σ H1 λy H2=>R x y H2) {f:Value->Value->Sem Value}
  (j:∀v u s2 x y H2,Inv X pins σ H2 s2->RelV x v->RelV y u->R x y H2->wpAny (model X.prog X.w) X.A (f v u) Q X.xe s2) :
  wpAny (model X.prog X.w) X.A (eval a X.env) (λv e=>wpAny (model X.prog X.w) X.A (eval b X.env) (λu g=>wpAny (model X.prog X.w) X.A (f v u) Q X.xe g) X.xe e) X.xe s:=by
 refine thn (ha pins s σ H _ I h) λv k c=>?_
 obtain⟨x,H1,l,m,n⟩:=c;refine thn (i pins k σ H1 _ l n) λu s2 c=>?_
 obtain⟨y,H2,o,p,q⟩:=c;exact j v u s2 x y H2 o m p q
theorem dE {c:Operator} (e:OpR X (binaryOp c) r) (ha:PE X a ta) (f:PE X b tb):PE X (.BinOp a c b pos) (tOp r ta tb):=by intro pins s σ H Q I h;exact wpAny_BinOp (xp ha f I h λv u s2 x y H2 g i j q=>e pins s2 σ H2 x y v u Q g i j q)
theorem Ab {c:UnaryOp} {r:V->Hp->VK->Prop} (e:UnR X (unaryOp c) r) (ha:PE X a ta):PE X (.UnaryOp c a pos) (tUn r ta):=by intro pins s σ H Q I h;exact UnaryOp_ (thn (ha pins s σ H _ I h) λv f b=>(by obtain⟨x,H1,g,i,j⟩:=b;exact e pins f σ H1 x v Q g i j))
theorem opI {f:Value->Value->Sem Value} {C:Int->Int->Prop}
  (rule:∀(i j:Int) (t u:Tok) (s:Shared) (Q:Value->Shared->Prop) (E:Value->Shared->Prop),C i j->Q (.int (g i j) s.toks) { s with toks:=s.toks+1 }->wpAny (model X.prog X.w) X.A (f (.int i t) (.int j u)) Q E s) :
  OpR X f (rI C λi j=>.int (g i j)):=by
 intro pins s σ H x y v u Q I a b h;obtain⟨i,j,rfl,rfl,hc,q⟩:=h;obtain⟨t,rfl⟩:=a;obtain⟨t',rfl⟩:=b;exact rule i j t t' s _ _ hc ⟨.int (g i j),H,I.tok _,⟨_,rfl⟩,q⟩
theorem zM {f:Value->Value->Sem Value}
  (rule:∀(i j:Int) (t u:Tok) (s:Shared) (Q:Value->Shared->Prop) (E:Value->Shared->Prop),Q (.int (g i j) s.toks) { s with toks:=s.toks+1 }->wpAny (model X.prog X.w) X.A (f (.int i t) (.int j u)) Q E s) :
  OpR X f (rI0 λi j=>.int (g i j)):=by
 intro pins s σ H x y v u Q I a b h;obtain⟨i,j,rfl,rfl,q⟩:=h;obtain⟨t,rfl⟩:=a;obtain⟨t',rfl⟩:=b;exact rule i j t t' s _ _ ⟨.int (g i j),H,I.tok _,⟨_,rfl⟩,q⟩
theorem yl {f:Value->Value->Sem Value} {g:Int->Int->Bool}
  (rule:∀(i j:Int) (t u:Tok) (s:Shared) (Q:Value->Shared->Prop) (E:Value->Shared->Prop),Q (.bool (g i j)) s->wpAny (model X.prog X.w) X.A (f (.int i t) (.int j u)) Q E s) :
  OpR X f (rI0 λi j=>.bl (g i j)):=by
 intro pins s σ H x y v u Q I a b h;obtain⟨i,j,rfl,rfl,q⟩:=h;obtain⟨t,rfl⟩:=a;obtain⟨t',rfl⟩:=b;exact rule i j t t' s _ _ ⟨.bl (g i j),H,I,rfl,q⟩
def zN (i j:Int):Prop:=0<j/\j<1073741824
def zu (i j:Int):Prop:=0<=j/\j<=1000000/\i.natAbs<2 ^ 64
def vF (i j:Int):Prop:=(-(2 ^ 64)<i/\i<2 ^ 64)\/(-(2 ^ 64)<j/\j<2 ^ 64)
theorem vF.ok {i j:Int} (h:vF i j):IntMulOk i j:=by
 rcases h with⟨h1,h2⟩|⟨h1,h2⟩
 ·exact .of_left (intBits_le_64 h1 h2)
 ·exact .of_right (intBits_le_64 h1 h2)
theorem jx:OpR X (binaryOp .Add) (rI0 λi j=>.int (i+j)):=zM λ_ _ _ _ _ _ _ q=>add_int q
theorem xl:OpR X (binaryOp .Sub) (rI0 λi j=>.int (i-j)):=zM λ_ _ _ _ _ _ _ q=>sub_int q
theorem jw:OpR X (binaryOp .Mult) (rI vF λi j=>.int (i*j)):=opI λ_ _ _ _ _ _ _ hc q=>mul_int q hc.ok
theorem uY:OpR X (binaryOp .FloorDiv) (rI zN λi j=>.int (i / j)):=opI λi j _ _ _ _ _ hc q=>by have h1:(0:Int)<j:=hc.1;have h2:j<1073741824:=hc.2;exact floordiv_int (by omega) (by rw[Int.fdiv_eq_ediv_of_nonneg i (by omega)];exact q) (.inl (PyProof.noPylong_small (by omega)))
theorem kn:OpR X (binaryOp .Mod) (rI (λ_ j=>0<j) λi j=>.int (i % j)):=opI λi j _ _ _ _ _ hc q=>by have h1:(0:Int)<j:=hc;exact mod_int' (by omega) (by rw[Int.fmod_eq_emod_of_nonneg i (by omega)];exact q)
theorem xU:OpR X (binaryOp .Pow) (rI zu λi j=>.int (i ^ j.toNat)):=opI λ_ _ _ _ _ _ _ hc q=>pow_int_small hc.1 hc.2.1 hc.2.2 q
theorem unI {f:Value->Sem Value} {g:Int->Int}
  (rule:∀(i:Int) (t:Tok) (s:Shared) (Q:Value->Shared->Prop) (E:Value->Shared->Prop),Q (.int (g i) s.toks) { s with toks:=s.toks+1 }->wpAny (model X.prog X.w) X.A (f (.int i t)) Q E s) :
  UnR X f (rU λi=>.int (g i)):=by
 intro pins s σ H x v Q I a h;obtain⟨i,rfl,q⟩:=h;obtain⟨t,rfl⟩:=a;exact rule i t s _ _ ⟨.int (g i),H,I.tok _,⟨_,rfl⟩,q⟩
theorem xC:UnR X (unaryOp .USub) (rU λi=>.int (-i)):=unI λ_ _ _ _ _ q=>neg_int q
end
noncomputable def Ba:V->V->Bool
 |.non,.non=>true|.non,.int _=>true|.int _,.non=>true|.non,.bl _=>true|.bl _,.non=>true|.non,.str _=>true|.str _,.non=>true
 |.int _,.int _=>true|.bl _,.bl _=>true|.str _,.str _=>true|.byt _,.byt _=>true
 |.int _,.str _=>true|.str _,.int _=>true|.bl _,.str _=>true|.str _,.bl _=>true
 |_,_=>false
def rEq:R2:=λx y H Q=>Ba x y=true/\Q (.bl (decide (x=y))) H
theorem mW {i j:Int}:decide (V.int i=V.int j)=(i==j):=by rw[Cq];simp
theorem yC {i j:Bool}:decide (V.bl i=V.bl j)=(i==j):=by rw[Cq];simp
theorem vk {i j:Str}:decide (V.str i=V.str j)=(i==j):=by rw[Cq];simp
theorem uz {i j:Array UInt8}:decide (V.byt i=V.byt j)=(i.toList==j.toList):=by rw[Cq];cases i;cases j;simp
section
variable {a b c:Expr} {ta tb tc:TE}
theorem df {Q:VK} {k a:Bool} (I:Inv X pins σ H s) (q:Q (.bl k) H) (e:k=a):EP X pins σ Q (.bool a) s:=by subst e;exact⟨.bl k,H,I,rfl,q⟩
theorem wq:OpR X (compareOp .Eq) rEq:=by
 intro pins s σ H x y v u Q I c a h;obtain⟨b,q⟩:=h;cases x with
 |non =>
  cases c;cases y with
  |non=>cases a;exact PySem.EqNone.eq_none_none (df I q (by simp))
  |bl j=>cases a;exact PySem.EqNone.eq_none_bool (df I q (by simp))
  |int j=>obtain⟨t',rfl⟩:=a;exact PySem.EqNone.eq_none_int (df I q (by simp))
  |str j=>obtain⟨t',rfl⟩:=a;exact PySem.EqNone.eq_none_str (df I q (by simp))
  |_=>exact absurd (show false=true from b) Bx
 |bl i =>
  cases c;cases y with
  |non=>cases a;exact PySem.EqNone.eq_bool_none (df I q (by simp))
  |bl j=>cases a;exact eq_bool (df I q yC)
  |str j=>obtain⟨t',rfl⟩:=a;exact PySem.EqMixed.eq_bool_str (df I q (by simp))
  |_=>exact absurd (show false=true from b) Bx
 |int i =>
  obtain⟨t,rfl⟩:=c;cases y with
  |non=>cases a;exact PySem.EqNone.eq_int_none (df I q (by simp))
  |int j=>obtain⟨t',rfl⟩:=a;exact eq_int (df I q mW)
  |str j=>obtain⟨t',rfl⟩:=a;exact PySem.EqMixed.eq_int_str (df I q (by simp))
  |_=>exact absurd (show false=true from b) Bx
 |str i =>
  obtain⟨t,rfl⟩:=c;cases y with
  |non=>cases a;exact PySem.EqNone.eq_str_none (df I q (by simp))
  |bl j=>cases a;exact PySem.EqMixed.eq_str_bool (df I q (by simp))
  |int j=>obtain⟨t',rfl⟩:=a;exact PySem.EqMixed.eq_str_int (df I q (by simp))
  |str j=>obtain⟨t',rfl⟩:=a;exact eq_str (df I q vk)
  |_=>exact absurd (show false=true from b) Bx
 |byt i =>
  obtain⟨t,rfl⟩:=c;cases y with
  |byt j=>obtain⟨t',rfl⟩:=a;exact PySem.W.eq_bytes (df I q uz)
  |_=>exact absurd (show false=true from b) Bx
 |_=>cases y <;> exact absurd (show false=true from b) Bx
theorem zw:OpR X (compareOp .Lt) (rI0 λi j=>.bl (decide (i<j))):=yl λ_ _ _ _ _ _ _ q=>lt_int q
theorem wy:OpR X (compareOp .LtE) (rI0 λi j=>.bl (decide (i<=j))):=yl λ_ _ _ _ _ _ _ q=>le_int q
theorem zD:OpR X (compareOp .Gt) (rI0 λi j=>.bl (decide (j<i))):=yl λ_ _ _ _ _ _ _ q=>gt_int q
theorem OpR.or {f:Value->Value->Sem Value} {a:R2} (h:OpR X f r) (h':OpR X f a):OpR X f (λx y H Q=>r x y H Q\/a x y H Q):=by
 intro pins s σ H x y v u Q I b c q;rcases q with q|q
 ·exact h pins s σ H x y v u Q I b c q
 ·exact h' pins s σ H x y v u Q I b c q
theorem gO (b:Expr) {a:CmpOp} (h:a≠.In:=by decide) (h2:a≠.NotIn:=by decide):behindInMarks a b=false:=by
 have e1:(a==CmpOp.In)=false:=by cases a <;> first|rfl|exact absurd rfl h
 have e2:(a==CmpOp.NotIn)=false:=by cases a <;> first|rfl|exact absurd rfl h2
 cases b <;> simp[behindInMarks,e1,e2]
theorem mH {c:CmpOp} (e:OpR X (compareOp c) r) (ha:PE X a ta) (f:PE X b tb) (hm:behindInMarks c b=false):PE X (.Compare a [c] [b] pos) (tOp r ta tb):=by intro pins s σ H Q I h;exact wpAny_Compare1 (xp ha f I h λv u s2 x y H2 g i j q=>e pins s2 σ H2 x y v u Q g i j q) hm
def wb (t:TE):TT:=λσ H Q=>t σ H λx H'=>∃k,x=.bl k/\Q k H'
theorem i7 {g:CmpOp} (i:OpR X (compareOp g) r) (ha:PE X a ta) (j:PE X b tb) (hm:behindInMarks g b=false):PT X (.Compare a [g] [b] pos) (wb (tOp r ta tb)):=by
 intro pins s σ H Q I h;refine wpAny_isTrue_Compare1 (thn (ha pins s σ H _ I h) λv l f=>?_) hm;obtain⟨x,H1,m,n,o⟩:=f;refine thn (j pins l σ H1 _ m o) λu s2 f=>?_
 obtain⟨y,H2,p,q,t⟩:=f;refine thn (i pins s2 σ H2 x y v u _ p n q t) λc s3 f=>?_
 obtain⟨z,w,A,B,k,e,C⟩:=f;subst e;cases B;exact wpAny_truthy_bool ⟨w,A,C⟩
def xg (r b:R2) (ta tb tc:TE):TE:=λσ H Q=>ta σ H λx H1=>tb σ H1 λy H2=>r x y H2 λz a=>∃k,z=.bl k /\
 (if k=true then tc σ a λc e=>b y c e Q else Q (.bl false) a)
theorem rJ {i g:CmpOp} {m:R2} (t:OpR X (compareOp i) r) (j:OpR X (compareOp g) m) (ha:PE X a ta) (w:PE X b tb) (hc:PE X c tc)
  (hm:lastMarks [i,g] [b,c]=false:=by with_unfolding_all rfl):PE X (.Compare a [i,g] [b,c] pos) (xg r m ta tb tc):=by
 intro pins s σ H Q I h;refine Compare_chain (thn (ha pins s σ H _ I h) λv A f=>?_) hm;obtain⟨x,H1,B,C,D⟩:=f;refine chain_link (thn (w pins A σ H1 _ B D) λu s2 f=>?_);obtain⟨y,H2,E,n,F⟩:=f;refine thn (t pins s2 σ H2 x y v u _ E C n F) λd G f=>?_
 obtain⟨z,o,p,J,k,e,q⟩:=f;subst e;cases J;refine wpAny_truthy_bool ?_;cases k with
 |false=>exact ite_ff ⟨.bl false,o,p,rfl,q⟩
 |true=>exact ite_tt (chain_last (thn (hc pins G σ o _ p q) λK L l=>(by obtain⟨M,N,O,P,R⟩:=l;exact j pins L σ N y M u K Q O n P R)))
theorem my:(sizeLine:Nat)<2 ^ 63:=by rw[sizeLine_eq];decide
theorem vals1 {x:V} (r:Vals [x] us):∃u,us=[u]/\RelV x u:=by
 cases r with
 |cons r1 r2=>cases r2;exact⟨_,rfl,r1⟩
theorem vals2 {x y:V} (r:Vals [x,y] us):∃u a,us=[u,a]/\RelV x u/\RelV y a:=by
 cases r with
 |cons r1 r2 =>
  cases r2 with
  |cons r3 r4=>cases r4;exact⟨_,_,rfl,r1,r3⟩
theorem qh (hc:X.calm=true):gJ X (.builtin "max") (λxs H Q=>∃i j,xs=[.int i,.int j]/\Q (.int (if j>i then j else i)) H):=by
 intro pins s σ H xs us Q I r h;obtain⟨i,j,rfl,q⟩:=h;obtain⟨u,w',rfl,⟨t,rfl⟩,⟨t',rfl⟩⟩:=vals2 r;refine max_two_ints (I.ok.hd hc) λh' tk k=>⟨_,H,I.kept k,?_,q⟩
 by_cases hj:j>i
 ·rw[if_pos hj,if_pos hj];exact⟨_,rfl⟩
 ·rw[if_neg hj,if_neg hj];exact⟨_,rfl⟩
theorem qW (hc:X.calm=true):gJ X (.builtin "min") (λxs H Q=>∃i j,xs=[.int i,.int j]/\Q (.int (if j<i then j else i)) H):=by
 intro pins s σ H xs us Q I r h;obtain⟨i,j,rfl,q⟩:=h;obtain⟨u,w',rfl,⟨t,rfl⟩,⟨t',rfl⟩⟩:=vals2 r;refine min_two_ints (I.ok.hd hc) λh' tk k=>⟨_,H,I.kept k,?_,q⟩
 by_cases hj:j<i
 ·rw[if_pos hj,if_pos hj];exact⟨_,rfl⟩
 ·rw[if_neg hj,if_neg hj];exact⟨_,rfl⟩
theorem qL:gJ X (.type "int") (λxs H Q=>(∃i,xs=[.int i]/\Q (.int i) H)\/∃k,xs=[.bl k]/\Q (.int (if k then 1 else 0)) H):=by
 intro pins s σ H xs us Q I r h;rcases h with⟨i,rfl,q⟩|⟨k,rfl,q⟩
 ·obtain⟨u,rfl,t,rfl⟩:=vals1 r;exact call_int_int ⟨.int i,H,I,⟨_,rfl⟩,q⟩
 ·obtain⟨u,rfl,a⟩:=vals1 r;cases a;exact call_int_bool ⟨.int (if k then 1 else 0),H,I.tok _,⟨_,rfl⟩,q⟩
end
section
variable {prog:Program} {x dx:Addr} {mA:Str->Option Value} {name:Str} {v:Value}
end
section
variable {H':Hp} {dx:Addr} {fs fs':List (Str×V)}
end
structure Cls (K:PySem.W.Frag) (C:Addr):Prop where
 pg:PySem.W.plainGet K C Str.empty=true
 hd:PySem.W.hasDictIn K C=true
 po:PySem.W.plainOver K C=true
 sa:PySem.W.findIn K (.ref C) "__setattr__"=some (some (.builtin "object.__setattr__"))
structure Meth (K:PySem.W.Frag) (C:Addr) (m:Str) (f:Addr):Prop where
 at_:PySem.W.findIn K (.ref C) m=some (some (.ref f))
 fn:PySem.W.isFn K (.ref f)=true
 kp:PySem.W.keepIn K (.ref f)=true
section
variable {dx:Addr} {fs:List (Str×V)} {f:Str} {v:V}
end
section
variable {o value:Expr} {f:Str} {tpos:Pos} {ta tv:TE}
end
section
variable {c:Value} {b:Bool}
inductive kS (K:PySem.W.Frag) (H:Hp):V->Value->Prop where
 |non:kS K H .non (.type "NoneType")
 |bl (x:Bool):kS K H (.bl x) (.type "bool")
 |int (i:Int):kS K H (.int i) (.type "int")
 |str (x:Str):kS K H (.str x) (.type "str")
 |flt (x:UInt64):kS K H (.flt x) (.type "float")
 |lst {a:Addr} {xs:List V} (e:H a=some (.lst xs)):kS K H (.ref a) (.type "list")
 |frz {a:Addr} {o:Obj} {xs:List V} (e:H a=some (.frz o (.lst xs))):kS K H (.ref a) (.type "list")
 |tup {a:Addr} {xs:List V} (e:H a=some (.tup xs)):kS K H (.ref a) (.type "tuple")
 |dK {a:Addr} {kvs:List (Key×V)} (e:H a=some (.dK kvs)):kS K H (.ref a) (.type "dict")
 |dT {a:Addr} {kvs:List (List Key×V)} (e:H a=some (.dT kvs)):kS K H (.ref a) (.type "dict")
 |ins {a C dx:Addr} {fs:List (Str×V)} (e:H a=some (.ins C dx fs)) (cl:Cls K C) (ha:PySem.W.findIn K (.ref C) "__class__"=some (some (.builtin "object.__class__")))
  (hn:PySem.W.specialIn K (.builtin "object.__class__") "__get__"=some (some (.builtin "getset_descriptor.__get__"))) (htk:PySem.W.takesIn K (.builtin "object.__class__")=some true)
  (hm:PySem.W.mroIn K C (.type "object")=some true):kS K H (.ref a) (.ref C)
end
structure dG (k:Nat) (A:Around):Prop where
 hd:A.handled=none
 dp:A.depth+3*k+5<recursionLimit
 un:A.units+16*k+200<cLine
theorem dG.mono (r:dG k A) (h:j<=k):dG j A:=⟨r.hd,by have:=r.dp;omega,by have:=r.un;omega⟩
theorem dG.deeper (r:dG (k+1) A) (env:Env):dG k (A.deeper env) :=
 ⟨r.hd,by have:=r.dp;show A.depth+1+3*k+5<_;omega,by have:=r.un;show A.units+3+16*k+200<_;omega⟩
theorem dG.depth (r:dG k A):A.depth<recursionLimit:=by have:=r.dp;omega
theorem dG.units (r:dG k A):A.units+64<cLine:=by have:=r.un;omega
def A9:TA:=λ_ H Q=>Q [] H
def zy (ta:TE) (a:TA):TA:=λσ H Q=>ta σ H λx H1=>a σ H1 λxs H2=>Q (x::xs) H2
section
variable {te:TE} {t:TA}
theorem dw:PA X [] A9:=λ_ _ _ _ H Q I h=>Calls.spliced_nil ⟨[],H,I,.nil,h⟩
theorem bX (ha:PE X e te) (c:PA X es t) (f:starEach (e::es) X.env=(false,eval e X.env)::starEach es X.env:=by rfl):PA X (e::es) (zy te t):=by intro pos pins s σ H Q I h;rw[f];show wpAny _ _ (spliced ((false,eval e X.env)::backTo pos (starEach es X.env))) _ _ s;refine Calls.spliced_cons (thn (ha pins s σ H _ I h) λu g a=>?_);obtain⟨x,H1,i,j,k⟩:=a;exact thn (c pos pins g σ H1 _ i k) λus s2 b=>(by obtain⟨xs,H2,l,m,n⟩:=b;exact⟨x::xs,H2,l,.cons j m,n⟩)
def A5 (t:TA):TE:=λσ H Q=>t σ H λxs H1=>xs.length<=sizeLine/\∀p,H1 p=none->Q (.ref p) (upd H1 p (.tup xs))
def Bf (t:TA):TE:=λσ H Q=>t σ H λxs H1=>xs.length<=sizeLine/\∀p,H1 p=none->Q (.ref p) (upd H1 p (.lst xs))
theorem xE {x1} (h:PA X es t):PE X (.Tuple es x1 pos) (A5 t):=by intro pins s σ H Q I g;refine wpAny_Tuple_spliced (thn (h pos pins s σ H _ I g) λus a c=>?_);obtain⟨xs,H1,f,r,z,q⟩:=c;refine⟨by rw[<-r.length];exact z,?_⟩;have i:H1 a.heap.objs.size=none:=f.hok.fresh (B5 _);refine⟨.ref a.heap.objs.size,upd H1 a.heap.objs.size (.tup xs),f.laid (t':=a.toks) (λb u e=>B0 _ e) (B5 _) ?_,rfl,q _ i⟩;exact⟨z,us,r,⟨_,Br _ rfl,rfl,rfl,_,rfl⟩⟩
theorem iI (h:PA X es t):PE X (.List es pos) (Bf t):=by intro pins s σ H Q I g;refine wpAny_List_spliced (thn (h pos pins s σ H _ I g) λus a c=>?_);obtain⟨xs,H1,f,r,z,q⟩:=c;refine⟨by rw[<-r.length];exact z,?_⟩;have i:H1 a.heap.objs.size=none:=f.hok.fresh (B5 _);refine⟨.ref a.heap.objs.size,upd H1 a.heap.objs.size (.lst xs),f.laid (t':=a.toks) (λb u e=>B0 _ e) (B5 _) ?_,rfl,q _ i⟩;exact⟨z,us,0,r,Br _ rfl⟩
end
abbrev Sp:=List V->Hp->VK->XK->Prop
abbrev CXT:=List Env->Hp->Shared->XK->Value->Shared->Prop
structure vC (P:Program) (w:World) (K:PySem.W.Frag) (mg:Str->Option Value) (base:Heap) (A:Around) (outer:List Env) (s:Shared) (H:Hp):Prop where
 frames:A.frames=some outer
 mod:Mod K mg base
 bs:∀b o,base.get? b=some o->s.heap.get? b=some o/\H b=none
 bsz:base.objs.size<=s.heap.objs.size
 funs:s.heap.FunFrames base outer
 frf:∀b∈frs outer,H b=none
 hok:HOk P w H s.heap
 bare:AllBare s.gens
 tab:∀P q,TabOf K P q->H P=some (.tbl q)
def CE (outer:List Env) (P:Program) (w:World) (H:Hp) (s:Shared) (Q:VK) (u:Value) (s':Shared):Prop :=
 ∃v H',s'.os=s.os/\AllBare s'.gens/\Un (frs outer) [] H H' s.heap s'.heap/\HOk P w H' s'.heap/\RelV v u/\Q v H'
def CR (CX:CXT) (outer:List Env) (P:Program) (w:World) (H:Hp) (s:Shared) (Q:VK) (E:XK) (r:Result) (s':Shared):Prop :=
 match r with
 |.ok (.ret u)=>CE outer P w H s Q u s'
 |.ok _=>False
 |.error e=>CX outer H s E e s'
structure fJ (P:Program) (w:World) (K:PySem.W.Frag) (mg:Str->Option Value) (base:Heap) (CX:CXT) (k:Nat) (f:Addr) (fd:FuncData) (ps:List Str) (sp:Sp):Prop where
 len:∀vs H Q E,sp vs H Q E->vs.length=ps.length
 run:∀(A:Around) (outer:List Env) (s:Shared) (H:Hp) (args:Args) (us:List Value) (vs:List V) (Q:VK) (E:XK),dG k A->vC P w K mg base A outer s H->BindsTo s fd args (ps.zip us)->Vals vs us->sp vs H Q E ->
  codeAny (model P w) A (.call (.ref f) args) (CR CX outer P w H s Q E) s
section
theorem Inv.env0 (I:Inv X pins σ H s):vC X.prog X.w X.K X.mg X.base X.A X.stack s H :=
 ⟨I.ok.frames,I.ok.mod,I.bs,BS I.ok.bsz I.sz,I.stack,I.stkFree,I.hok,I.bare,I.tab⟩
theorem Inv.after {Q:VK} (I:Inv X pins σ H s) (h:CE X.stack X.prog X.w H s Q u s'):EP X pins σ Q u s':=by obtain⟨v,H',os,bare,un,hok,r,q⟩:=h;obtain⟨c,g,d,t,a⟩:=s';obtain rfl:a=s.os:=os;exact⟨v,H',I.call (h':=c) (g':=g) (d':=d) (t':=t) (ch:=[]) un hok bare (λb z=>absurd z (by simp)),r,q⟩
end
def zI (sp:Sp) (dvs:List V) (E:XK) (t:TA):TE:=λσ H Q=>t σ H λvs H1=>sp (vs++dvs) H1 Q E
def Binds (K:PySem.W.Frag) (fd:FuncData) (ps:List Str) (ds:List Value):Prop :=
 ∀(s:Shared) (us:List Value),K.In s.heap->(us++ds).length=ps.length->BindsTo s fd ⟨us,[]⟩ (ps.zip (us++ds))
theorem Binds.all (h:∀us:List Value,us.length=ps.length->bindArgs fd ⟨us,[]⟩=pure (ps.zip us)):Binds K fd ps []:=λs us _ hl=>by rw[Cr]at hl ⊢;exact .of_eq (h us hl)
def Passes (CX:CXT) (X:Cx) (E:XK):Prop:=∀(pins:List (Addr×Obj)) (σ:St) (H:Hp) (s:Shared) (e:Value) (s':Shared),Inv X pins σ H s->CX X.stack H s E e s'->X.xe e s'
section
variable {CX:CXT} {sp:Sp} {dvs:List V} {ds:List Value} {E:XK} {m:Str} {apos:Pos} {o:Expr} {ta:TE} {t:TA}
theorem rq {Q:VK} {vs:List V} (F:fJ X.prog X.w X.K X.mg X.base CX k f fd ps sp) (c:dG k X.A) (g:Binds X.K fd ps ds) (hd:Vals dvs ds) (i:Passes CX X E)
  (I:Inv X pins σ H s) (r:Vals vs us) (h:sp (vs++dvs) H Q E):wpAny (model X.prog X.w) X.A (call (.ref f) us) (EP X pins σ Q) X.xe s:=by
 have b:Vals (vs++dvs) (us++ds):=r.append hd;have hl:(us++ds).length=ps.length:=by rw[<-b.length];exact F.len _ _ _ _ h
 refine wpAny_call (codeAny_mono (F.run X.A X.stack s H ⟨us,[]⟩ (us++ds) (vs++dvs) Q E c I.env0 (g s us I.kIn hl) b h) λr s' a=>?_);cases r with
 |error e=>exact i pins σ H s e s' I a
 |ok fl =>
  cases fl with
  |ret u=>exact I.after a
  |next=>exact False.elim a
  |brk=>exact False.elim a
  |cont=>exact False.elim a
theorem pH (F:fJ X.prog X.w X.K X.mg X.base CX k f fd ps sp) (i:dG k X.A) (j:Gl X x) (hm:X.mg x=some (.ref f)) (l:PySem.W.keepIn X.K (.ref f)=true) (m:Binds X.K fd ps ds) (hd:Vals dvs ds) (n:Passes CX X E)
  (ha:PA X (e::es) t) (a:(x==("__debug__":Str))=false:=by decide) (o:starEach (e::es) X.env=(false,eval e X.env)::starEach es X.env:=by rfl) (b:(backTo pos (starEach es X.env)).any (·.1)=false:=by rfl) :
  PE X (.Call (.Name x p) (e::es) [] pos) (zI sp dvs E t):=by
 intro pins s σ H Q I h;refine wpAny_Call_Name_kw (i5 I j hm ?_ a);refine PySem.W.callWith_K (h₀:=X.base) I.ok.mod.kin l (thn (ha pos pins s σ H _ I h) λus s1 c=>?_) o b;obtain⟨vs,H1,g,r,q⟩:=c;refine⟨g.kIn,?_⟩;exact rq F i m hd n g r q
structure Mk (K:PySem.W.Frag) (C f:Addr):Prop where
 makes:PySem.W.makesIn K C=true
 init:PySem.W.findIn K (.ref C) "__init__"=some (some (.ref f))
 fn:PySem.W.isFn K (.ref f)=true
 kp:PySem.W.keepIn K (.ref C)=true
end
section
variable {CX:CXT} {ks:List Str} {sp:Sp} {E:XK} {m:Str} {apos kpos:Pos} {o:Expr} {kws:List Keyword} {te ta:TE} {t tk:TA} {nm:Option Str}
variable {g:List Value->List Value->List Value} {gV:List V->List V->List V}
end
structure ef (N P:List Str) (sc:Scope):Prop where
 kind:sc.kind=.function
 co:sc.isCoroutine=false
 gen:sc.isGenerator=false
 nd:N.Nodup
 pre:N.take P.length=P
 par:∀x∈P,sc.names.lookup x=some .local\/sc.names.lookup x=some .cell
 nofree:∀y∈sc.names,y.2≠.free
theorem lO {kindOf:Str->Option NameKind} {x:Str}:∀{binds:List (Str×Value)} {m:Str->Option Value},(∀v,(x,v)∉binds)->bindL kindOf binds m x=m x
 |[],_,_=>rfl
 |(n,v)::r,m,h=>by
  unfold bindL;rw[lO λw hw=>h w (Bu _ hw)];split
  ·have:x≠n:=by rintro rfl;exact h v By
   simp[this]
  ·rfl
theorem lW {kindOf:Str->Option NameKind} {x:Str}:∀{binds:List (Str×Value)} {m:Str->Option Value},(∀v,(x,v)∉binds)->bindC kindOf binds m x=m x
 |[],_,_=>rfl
 |(n,v)::r,m,h=>by
  unfold bindC;rw[lW λw hw=>h w (Bu _ hw)];split
  ·rfl
  ·have:x≠n:=by rintro rfl;exact h v By
   simp[this]
theorem lH {kindOf:Str->Option NameKind} {x:Str} {v:Value}:∀{P:List Str} {vs:List Value} {i:Nat} {m:Str->Option Value},P.Nodup->P[i]?=some x->vs[i]?=some v->kindOf x=some .local ->
  bindL kindOf (P.zip vs) m x=some v
 |[],_,_,_,_,h,_,_=>by simp at h
 |_::_,[],_,_,_,_,h,_=>by simp at h
 |p::P,w::vs,0,m,nd,h1,h2,hk=>by simp at h1 h2;subst h1;subst h2;show bindL kindOf ((p,w)::P.zip vs) m p=_;unfold bindL;rw[lO λv a=>(BZ.mp nd).1 (List.of_mem_zip a).1,if_pos hk];simp
 |p::P,w::vs,i+1,m,nd,h1,h2,hk=>by show bindL kindOf ((p,w)::P.zip vs) m x=_;unfold bindL;exact lH (i:=i) (BZ.mp nd).2 (by simpa using h1) (by simpa using h2) hk
theorem lY {kindOf:Str->Option NameKind} {x:Str} {v:Value}:∀{P:List Str} {vs:List Value} {i:Nat} {m:Str->Option Value},P.Nodup->P[i]?=some x->vs[i]?=some v->kindOf x≠some .local ->
  bindC kindOf (P.zip vs) m x=some v
 |[],_,_,_,_,h,_,_=>by simp at h
 |_::_,[],_,_,_,_,h,_=>by simp at h
 |p::P,w::vs,0,m,nd,h1,h2,hk=>by simp at h1 h2;subst h1;subst h2;show bindC kindOf ((p,w)::P.zip vs) m p=_;unfold bindC;rw[lW λv a=>(BZ.mp nd).1 (List.of_mem_zip a).1,if_neg hk];simp
 |p::P,w::vs,i+1,m,nd,h1,h2,hk=>by show bindC kindOf ((p,w)::P.zip vs) m x=_;unfold bindC;exact lY (i:=i) (BZ.mp nd).2 (by simpa using h1) (by simpa using h2) hk
def start (N:List Str) (vs:List V):St:=vs.map some++List.replicate (N.length-vs.length) none
def fP (CX:CXT) (P:Program) (w:World) (K:PySem.W.Frag) (mg:Str->Option Value) (base:Heap) (N:List Str) (qual:Str) (scope:Scope) (f:Addr) (cd:Value) (A:Around) (outer:List Env) (s:Shared) (H:Hp) (E:XK):Cx where
 prog:=P
 w:=w
 K:=K
 mg:=mg
 base:=base
 A:=A.deeper (envOfC qual scope s.heap.objs.size f cd)
 N:=N
 s₀:=s
 H₀:=H
 env:=envOfC qual scope s.heap.objs.size f cd
 outer:=outer
 stack:=envOfC qual scope s.heap.objs.size f cd::outer
 ex:=[]
 calm:=true
 fn:=λ_=>true
 pn:=[]
 xe:=λe s'=>wpAny (model P w) (A.deeper (envOfC qual scope s.heap.objs.size f cd)) (leaving (envOfC qual scope s.heap.objs.size f cd) e) (λ_ a=>CX outer H s E e a) (λb a=>CX outer H s E b a) s'
theorem oq {sc:Scope} (h:sc.names.lookup x=some .cell):∃c,(cellsFrom n sc.names []).lookup x=some c:=by have q:=PySem.W.cellsFrom_some sc.names n [] (.inl h);exact Option.isSome_iff_exists.mp q
theorem rl {CX:CXT} {t:Shared} {E:XK} {vs:List V}
  (S:ef N ps scope) (hd:A.handled=none) (g:vC P w K mg base A outer s H) (hl:vs.length=ps.length) (r:Vals vs us)
  (x:InCallC s s.heap.objs.size (bindL (envOfC qual scope s.heap.objs.size f cd).kindOf (ps.zip us) λ_=>none) (cellsFrom (s.heap.objs.size+1) scope.names []) (bindC (envOfC qual scope s.heap.objs.size f cd).kindOf (ps.zip us) λ_=>none) t) :
  Inv (fP CX P w K mg base N qual scope f cd A outer s H E) [] (start N vs) H t:=by
 have hpl:ps.length<=N.length:=by have:=congrArg List.length S.pre;rw[Ca]at this;omega
 obtain⟨h1,tk,rfl,B⟩:=x.done;have j:∀b:Addr,b∉(fP CX P w K mg base N qual scope f cd A outer s H E).ex:=λb z=>absurd (show b∈([]:List Addr) from z) (by simp)
 refine⟨⟨g.mod,S.kind,rfl,rfl,B5 _,λy z c h1 h2=>?_,λy l=>?_,λy c _ h=>?_,λ_=>hd,Around.frames_deeper g.frames,.inr ⟨rfl,rfl⟩,λb z=>absurd z (j b),g.bs,g.bsz,λb _ _=>j b,λb z=>absurd z (j b),g.funs,g.frf⟩,
  rfl,g.bare,Un.kept B,⟨_,x.toInCall.ns,λi y v h1 h2 h3=>?_⟩,λy c h=>⟨_,x.cell y c h⟩,g.hok.fresh (B5 _),λy c h=>?_,λp m=>absurd (show p∈([]:List (Addr×Obj)) from m) (by simp),g.hok.kept B,?_,g.tab⟩
 ·exact name_of_addr x.apart (PySem.mem_of_lookup h1) (PySem.mem_of_lookup h2)
 ·have l:scope.names.lookup y=some .cell\/scope.names.lookup y=some .free:=l;rcases l with l|l
  ·exact oq l
  ·exact absurd rfl (S.nofree _ (PySem.mem_of_lookup l))
 ·exact Nat.le_of_lt (x.above y c (PySem.mem_of_lookup h))
 ·have hi:i<vs.length:=by
   unfold start at h2;by_cases hi:i<vs.length
   ·exact hi
   ·rw[BQ (by simpa using hi)]at h2;rw[C4]at h2;split at h2 <;> cases h2
  have ha:vs[i]?=some v:=by
   unfold start at h2;rw[BJ (by simpa using hi),BK]at h2;cases e:vs[i]? with
   |none=>rw[e]at h2;cases h2
   |some a=>rw[e]at h2;cases h2;rfl
  obtain⟨u,C,D⟩:=r.get ha;have m:ps[i]?=some y:=by rw[<-S.pre,List.getElem?_take_of_lt (by omega)];exact h1
  have o:ps.Nodup:=by rw[<-S.pre];exact S.nd.sublist (List.take_sublist _ _)
  refine⟨u,D,?_⟩;rcases S.par y (List.mem_of_getElem? m) with k|k
  ·exact .inl ⟨k,lH o m C k⟩
  ·obtain⟨c,e⟩:=oq (n:=s.heap.objs.size+1) k;refine .inr ⟨.inl k,c,e,?_⟩;have q:=x.cell y c e;rw[lY o m C (by show scope.names.lookup y≠_;rw[k];decide)]at q;exact q
 ·exact g.hok.fresh (Nat.le_of_lt (x.above y c (PySem.mem_of_lookup h)))
 ·unfold start;show _=N.length;rw[Bt,B3,List.length_replicate];omega
theorem wj {CX:CXT} {name:Str} {params:Arguments} {B kV doc cdv:Value}
  {sp:Sp} (F:K.lookup f=some ⟨oc,od,.func (PySem.W.fnOf name qual params body scope B kV doc pm an cdv ct),osl⟩) (l:PySem.W.codeIn K cdv qual=true) (S:ef N ps scope)
  (len:∀vs H Q E,sp vs H Q E->vs.length=ps.length)
  (c:∀(A:Around) (outer:List Env) (s:Shared) (H:Hp) (vs:List V) (Q:VK) (E:XK),dG k (A.deeper (envOfC qual scope s.heap.objs.size f cdv))->sp vs H Q E ->
   ∃t,PSs (fP CX P w K mg base N qual scope f cdv A outer s H E) body t/\t { nx:=λ_ H'=>Q .non H',rt:=Q } (start N vs) H) :
  fJ P w K mg base CX (k+1) f (PySem.W.fnOf name qual params body scope B kV doc pm an cdv ct) ps sp:=by
 refine⟨len,λA outer s H args us vs Q E m i G r j=>?_⟩;have hl:=len _ _ _ _ j;have C:K.In s.heap:=i.mod.kin.keeps λb o e=>(i.bs b o e).1
 have lim:s.heap.NoLimit:=i.mod.nolimit.keeps λb o e=>(i.bs b o e).1
 have g:∀y∈ps.zip us,scope.names.lookup y.1=some .local\/(scope.names.lookup y.1=some .cell/\((cellsFrom (s.heap.objs.size+1) scope.names []).lookup y.1).isSome=true):=λp L=>by
  obtain⟨n,v⟩:=p;rcases S.par n (List.of_mem_zip L).1 with q|q
  ·exact .inl q
  ·exact .inr ⟨q,PySem.W.cellsFrom_some _ _ _ (.inl q)⟩
 refine codeAny_call_function m.depth (C _ _ F) rfl S.co S.gen rfl (PySem.W.codeRec_of C l) (G _ _ _ _ ?_);refine wpAny_newFunctionEnv_cells S.kind g λenv M D x=>?_
 subst M;refine⟨lim.keeps x.toInCall.keep,codeAny_func ?_⟩;obtain⟨t,O,R⟩:=c A outer s H vs Q E (m.deeper _) j;have I:Inv (fP CX P w K mg base N qual scope f cdv A outer s H E) [] (start N vs) H D:=rl S m.hd i hl r x;refine wpAny_mono (O [] D (start N vs) H _ I R) (λT s' h=>?_) λe s' h=>h
 have fin:∀{a:St} {H':Hp} {v:V} {u:Value},Inv (fP CX P w K mg base N qual scope f cdv A outer s H E) [] a H' s'->RelV v u->Q v H'->CE outer P w H s Q u s' :=
  λ{a H' v u} J z q=>⟨v,H',J.os,J.bare,J.base,J.hok,z,q⟩
 cases T with
 |ret u =>obtain⟨v,a,H',J,z,q⟩:=h;exact fin J z q
 |next =>obtain⟨a,H',J,q⟩:=h;exact fin (v:=V.non) (u:=Value.none) J rfl q
 |brk =>obtain⟨_,_,_,q⟩:=h;exact False.elim q
 |cont =>obtain⟨_,_,_,q⟩:=h;exact False.elim q
section
variable {t:TA} {id T:String} {r:List V->Hp->VK->Prop}
def tCB (r:List V->Hp->VK->Prop) (t:TA):TE:=λσ H Q=>t σ H λvs H1=>r vs H1 Q
theorem eE (hc:gJ X (.builtin id) r) (f:Gl X x) (hm:X.mg x=none) (g:bootBuiltins x=some (.builtin id)) (ha:PA X (e::es) t) (hn:x≠"__name__":=by decide) (a:(x==("__debug__":Str))=false:=by decide)
  (i:starEach (e::es) X.env=(false,eval e X.env)::starEach es X.env:=by rfl) (b:(backTo pos (starEach es X.env)).any (·.1)=false:=by rfl):PE X (.Call (.Name x p) (e::es) [] pos) (tCB r t):=by
 intro pins s σ H Q I h;refine wpAny_Call_Name_kw (gu I f hm g ?_ hn a);exact PyProof.Rows.callWith_builtin1 (thn (ha pos pins s σ H _ I h) λus j c=>(by obtain⟨vs,H1,k,l,m⟩:=c;exact hc pins j σ H1 vs us Q k l m)) i b
theorem jn (hc:gJ X (.type T) r) (f:Gl X x) (hm:X.mg x=none) (g:bootBuiltins x=some (.type T)) (ha:PA X (e::es) t) (hn:x≠"__name__":=by decide) (a:(x==("__debug__":Str))=false:=by decide)
  (i:starEach (e::es) X.env=(false,eval e X.env)::starEach es X.env:=by rfl) (b:(backTo pos (starEach es X.env)).any (·.1)=false:=by rfl):PE X (.Call (.Name x p) (e::es) [] pos) (tCB r t):=by
 intro pins s σ H Q I h;refine wpAny_Call_Name_kw (gu I f hm g ?_ hn a);exact PyProof.Rows.callWith_type1 (thn (ha pos pins s σ H _ I h) λus j c=>(by obtain⟨vs,H1,k,l,m⟩:=c;exact hc pins j σ H1 vs us Q k l m)) i b
end
end L2
variable {xs ys vs:List L2.V} {H H' H1 G:L2.Hp} {o:L2.HO} {v:L2.V} {X:L2.Cx} {σ:L2.St} {ta:L2.TA} {sp:L2.Sp} {r:L2.V->Option Int->Option Int->L2.Hp->L2.VK->Prop}
namespace HT
open PySem PyProof.Rows
section
open PySem.SeqAt
open PySem.AutoSeq1 (wpAny_loadPart')
open PySem.MeetsSeq PySem.MeetsSeq2 PySem.MeetsSeq3
end
section
variable {prog:Program} {A:Around}
theorem uS {vs a:List Value} (m:IsTup s.heap t vs.toArray) (o:IsTup s.heap b a.toArray) (k:vs≠[])
  (h1:a=[]->Q (.ref t) s) (h2:a≠[]->Q (.ref s.heap.objs.size) { s with heap:=s.heap.push { cls:=.type "tuple",data:=.seq (vs++a).toArray } })
  (j:vs.length+a.length<=sizeLine):wpAny (model prog w) A (binaryOp .Add (.ref t) (.ref b)) Q E s:=by
 obtain⟨⟨cls,dd,data,l⟩,i,hc,n,hd⟩:=id m;obtain⟨⟨cls2,f,data2,g⟩,c,h,n2,hd2⟩:=id o;simp only at hc hd h hd2;subst hc hd h hd2;have e:vs.toArray++a.toArray=(vs++a).toArray:=by simp
 by_cases hw:a=[]
 ·exact concat_meets ⟨_,i,rfl⟩ ⟨_,c,rfl⟩ noFill_tuple_add seq_tuple_add PySem.F.slot_tuple_add PySem.F.entry_tuple_add (PySem.F.args_tuple_add_2 _ _)
   (tuple_addW1 t b vs.toArray a.toArray n n2 dd f l g (by simpa using k) (by simp[hw])) ⟨i,c,h1 hw⟩
 ·refine concat_meets ⟨_,i,rfl⟩ ⟨_,c,rfl⟩ noFill_tuple_add seq_tuple_add PySem.F.slot_tuple_add PySem.F.entry_tuple_add (PySem.F.args_tuple_add_2 _ _)
   (tuple_addW2 t b vs.toArray a.toArray n n2 dd f l g (by simpa using k) (by simpa using hw) (by rw[B1,B1];exact j)) ⟨i,c,?_⟩
  rw[e];exact h2 hw
noncomputable def sIx (n d:Nat):Option Int->Nat
 |none=>d
 |some v=>if v<0 then (v+(n:Int)).toNat else min v.toNat n
theorem pW (n d k:Nat):sIx n d (some (k:Int))=min k n:=by show (if (k:Int)<0 then ((k:Int)+(n:Int)).toNat else min (k:Int).toNat n)=min k n;rw[if_neg (by omega),BM]
theorem xR (n d:Nat) (hd:d<=n) (o:Option Int):sIx n d o<=n:=by
 cases o with
 |none=>exact hd
 |some v =>
  show (if v<0 then (v+(n:Int)).toNat else min v.toNat n)<=n;by_cases hv:v<0
  ·rw[if_pos hv];omega
  ·rw[if_neg hv];exact Nat.min_le_right _ _
theorem pU (v:Int) (n d:Nat):(if v<0 then max (v+(n:Int)) 0 else min v (n:Int))=((sIx n d (some v):Nat):Int):=by
 show (if v<0 then max (v+(n:Int)) 0 else min v (n:Int))=(((if v<0 then (v+(n:Int)).toNat else min v.toNat n):Nat):Int)
 by_cases hv:v<0
 ·simp only[if_pos hv];omega
 ·simp only[if_neg hv];omega
theorem oI (lo hi:Option Int) (n:Nat):Builtin.Slice.sliceAdjust lo hi 1 (n:Int)=(((sIx n 0 lo:Nat):Int),((sIx n n hi:Nat):Int)):=by
 have h1:¬ ((1:Int)<0):=by omega
 unfold Builtin.Slice.sliceAdjust;simp only[h1,if_false];refine Prod.ext ?_ ?_
 ·cases lo with
  |none=>rfl
  |some v=>exact pU v n 0
 ·cases hi with
  |none=>rfl
  |some v=>exact pU v n n
theorem pz (i j:Nat):Builtin.Slice.slicePlaces (i:Int) (j:Int) 1=j-i:=by
 unfold Builtin.Slice.slicePlaces;have h1:(1:Int)>0:=by omega
 simp only[h1,if_true,Int.ediv_one];split <;> omega
theorem kh {v:Value} {o:Option Int} {Q:Option Int->Shared->Prop} (p:IsPart v o) (h:Q o s):wpAny (model prog w) A (Builtin.Slice.slicePartIndex v) Q E s:=by
 cases p with
 |none=>exact slicePart_none h
 |int i t=>exact slicePart_int h
theorem f6 {c e:Value} {Q:Int×Int×Nat->Shared->Prop} (g:s.heap.IsSliceOf f c e .none) (pl:IsPart c lo) (i:IsPart e hi)
  (h:Q (((sIx n 0 lo:Nat):Int),1,sIx n n hi-sIx n 0 lo) s):wpAny (model prog w) A (Builtin.Slice.sliceApplied (.ref f) (pure (n:Int))) Q E s:=by
 obtain⟨os,a,hcs,b⟩:=id g;unfold Builtin.Slice.sliceApplied Builtin.Slice.sliceFields;refine wpAny_bind (wpAny_bind (wpAny_field a b (x:=c) rfl (wpAny_bind (wpAny_field a b (x:=e) rfl (wpAny_bind (wpAny_field a b (x:=.none) rfl (wpAny_pure ?_)))))));refine wpAny_bind (slicePart_none ?_);show wpAny _ _ (if ((1:Int)==0)=true then _ else _) _ _ s;rw[if_neg (by decide)];refine wpAny_bind (kh pl (wpAny_bind (kh i (wpAny_bind (wpAny_pure ?_)))));show wpAny _ _ (match Builtin.Slice.sliceAdjust lo hi 1 (n:Int) with|(lo,hi)=>pure (lo,(1:Int),Builtin.Slice.slicePlaces lo hi 1)) _ _ s;rw[oI lo hi n];show wpAny _ _ (pure (((sIx n 0 lo:Nat):Int),(1:Int),Builtin.Slice.slicePlaces ((sIx n 0 lo:Nat):Int) ((sIx n n hi:Nat):Int) 1)) _ _ s;rw[pz];exact wpAny_pure h
theorem tX (xs:Array Value) (i k:Nat):((List.range k).filterMap λ(m:Nat)=>xs[((i:Int)+(m:Int)*1).toNat]?).toArray=((xs.toList.drop i).take k).toArray:=by
 have e:(λ(m:Nat)=>xs[((i:Int)+(m:Int)*1).toNat]?)=λm=>xs[i+m]?:=by
  funext m;have:((i:Int)+(m:Int)*1).toNat=i+m:=by omega
  rw[this]
 rw[e];have:=pick_run xs i k;rw[List.filterMap_map]at this;have e2:((λx=>xs[x]?)∘λx=>i+x)=λm=>xs[i+m]?:=rfl
 rw[e2]at this;rw[this]
theorem i9 {j k:Value} (b:IsTup s.heap t items) (l:s.heap.IsSliceOf c j k .none) (pl:IsPart j lo) (n:IsPart k hi)
  (hw:¬ (sIx items.size 0 lo=0/\sIx items.size items.size hi=items.size))
  (h:Q (.ref s.heap.objs.size) { s with heap:=s.heap.push { cls:=.type "tuple",data:=.seq ((items.toList.drop (sIx items.size 0 lo)).take (sIx items.size items.size hi-sIx items.size 0 lo)).toArray } })
  (hsz:items.size<=sizeLine):wpAny (model prog w) A (getItem (.ref t) (.ref c)) Q E s:=by
 have a:sizeOk (.seq ((items.toList.drop (sIx items.size 0 lo)).take (sIx items.size items.size hi-sIx items.size 0 lo)).toArray):=by show ((items.toList.drop (sIx items.size 0 lo)).take (sIx items.size items.size hi-sIx items.size 0 lo)).toArray.size<=sizeLine;rw[B1,Ca,BW,Cd];omega
 have hj:sIx items.size items.size hi<=items.size:=xR _ _ (B5 _) hi;obtain⟨os,e,f,hds⟩:=id l;have g:s.TypeIs (.ref c) "slice":=⟨os,e,f⟩
 unfold getItem
 try with_reducible refine wpAny_holding ?_
 first|refine wpAny_bind (wpAny_pure ?_)|skip
 refine wpAny_bind (wpAny_sequenceKey b.typeIs (by decide) ?_);refine wpAny_bind (wpAny_callSpecial?_slot (name:=Str.ofString "__getitem__") b.typeIs PyProof.Rows.slot_tuple_getitem
  (wpAny_call_entry PyProof.Rows.slot_tuple_getitem b.typeIs entry_tuple_getitem ?_ (args_tuple_getitem _ _)))
 show wpAny _ _ (Builtin.Tuple.tupleItemsOf (.ref t) >>= _) _ _ s;refine wpAny_bind (tupleItemsOf_ b ?_);refine wpAny_bind (wpAny_typeOf g ?_);rw[if_pos (by decide)];refine wpAny_bind (f6 l pl n ?_);have i:¬ ((((sIx items.size 0 lo:Nat):Int)==0&&(1:Int)==1&&(sIx items.size items.size hi-sIx items.size 0 lo)==items.size)=true):=by intro q;rw[Bs,Bs]at q;have q1:((sIx items.size 0 lo:Nat):Int)=0:=eq_of_beq q.1.1;have q2:sIx items.size items.size hi-sIx items.size 0 lo=items.size:=eq_of_beq q.2;exact hw ⟨by omega,by omega⟩
 show wpAny _ _ (if (((sIx items.size 0 lo:Nat):Int)==0&&(1:Int)==1&&(sIx items.size items.size hi-sIx items.size 0 lo)==items.size)=true then _ else _) _ _ s;rw[if_neg i,tX]
 first
  |exact wpAny_bind (m:=Builtin.Tuple.tupleExact _) (wpAny_newObj_type (wpAny_pure ⟨_,rfl,wpAny_pure h⟩) a)
  |exact wpAny_bind (m:=Builtin.Tuple.tupleExact _) (wpAny_newObj_type (wpAny_bind (wpAny_pure (wpAny_pure ⟨_,rfl,wpAny_pure h⟩))) a)
  |exact wpAny_bind (wpAny_bind (m:=Builtin.Tuple.tupleExact _) (wpAny_newObj_type (wpAny_pure (wpAny_pure ⟨_,rfl,wpAny_pure h⟩)) a))
  |exact wpAny_bind (wpAny_bind (m:=Builtin.Tuple.tupleExact _) (wpAny_newObj_type (wpAny_pure ⟨_,rfl,wpAny_pure h⟩) a))
end
end HT
namespace L2
open PySem PySem.Spec PyProof.Rows
variable {a:List Value}
abbrev TO:=St->Hp->(Option Int->Hp->Prop)->Prop
def PO (X:Cx) (e:Option Expr) (t:TO):Prop :=
 ∀(pins:List (Addr×Obj)) (s:Shared) (σ:St) (H:Hp) (Q:Option Int->Hp->Prop),Inv X pins σ H s->t σ H Q ->
  wpAny (model X.prog X.w) X.A (evalPart e X.env) (λu s'=>∃o H',Inv X pins σ H' s'/\IsPart u o/\Q o H') X.xe s
def vz:TO:=λ_ H Q=>Q none H
def zv (t:TE):TO:=λσ H Q=>t σ H λx H1=>∃i,x=.int i/\Q (some i) H1
theorem intsAre_of:∀{us:List Value},Vals (ns.map V.int) us->IntsAre us ns:=by
 induction ns with
 |nil=>intro us r;rw[List.map_nil]at r;cases r;exact .nil
 |cons n ns ih =>
  intro us r;rw[BC]at r;cases r with
  |cons r1 r2 =>obtain⟨t,e⟩:=r1;subst e;exact .cons n t (ih r2)
section
variable {te:TE} {lo hi:Option Expr} {tl th:TO}
theorem uQ:PO X none vz:=by intro pins s σ H Q I h;rw[evalPart_none];exact wpAny_pure ⟨none,H,I,.none,h⟩
theorem uM (h:PE X e te):PO X (some e) (zv te):=by
 intro pins s σ H Q I hw;rw[evalPart_some];refine thn (h pins s σ H _ I hw) λu s1 a=>?_
 obtain⟨x,H1,b,c,f⟩:=a;obtain⟨i,rfl,q⟩:=f;obtain⟨t,rfl⟩:=c;exact⟨some i,H1,b,.int i t,q⟩
def SlR (X:Cx) (r:V->Option Int->Option Int->Hp->VK->Prop):Prop :=
 ∀(pins:List (Addr×Obj)) (s:Shared) (σ:St) (H:Hp) (x:V) (v a b:Value) (lo hi:Option Int) (c:Addr) (Q:VK),Inv X pins σ H s->RelV x v->s.heap.IsSliceOf c a b .none->IsPart a lo->IsPart b hi->r x lo hi H Q ->
  ∃T id,typeLookup (.type T) "__getitem__"=pure (some (.builtin id))/\s.TypeIs v T/\wpAny (model X.prog X.w) X.A (getItem v (.ref c)) (EP X pins σ Q) X.xe s
theorem SlR.or {a:V->Option Int->Option Int->Hp->VK->Prop} (h:SlR X r) (h':SlR X a):SlR X (λx lo hi H Q=>r x lo hi H Q\/a x lo hi H Q):=by
 intro pins s σ H x v b c lo hi e Q I f g pl i q;rcases q with q|q
 ·exact h pins s σ H x v b c lo hi e Q I f g pl i q
 ·exact h' pins s σ H x v b c lo hi e Q I f g pl i q
def tSl (r:V->Option Int->Option Int->Hp->VK->Prop) (te:TE) (tl th:TO):TE:=λσ H Q=>te σ H λx H1=>tl σ H1 λl H2=>th σ H2 λu a=>r x l u a Q
theorem uk (j:SlR X r) (k:PE X e te) (hl:PO X lo tl) (m:PO X hi th):PE X (.Subscript e (.Slice lo hi none p2) pos) (tSl r te tl th):=by
 intro pins s σ H Q I h;refine Subscript_ (thn (k pins s σ H _ I h) λv n a=>?_);obtain⟨x,H1,o,p,t⟩:=a;refine wpAny_Slice (thn (hl pins n σ H1 _ o t) λf s2 a=>?_);obtain⟨l,H2,y,pl,z⟩:=a;refine thn (m pins s2 σ H2 _ y z) λg c a=>?_
 obtain⟨u,i,B,C,D⟩:=a;rw[evalPart_none];refine wpAny_pure ?_;have E:Inv X pins σ i { c with heap:=c.heap.push { cls:=.type "slice",data:=.fields #[f,g,.none] } }:=B.kept (t':=c.toks) λb ob q=>B0 _ q
 obtain⟨T,id,F,G,J⟩:=j pins { c with heap:=c.heap.push { cls:=.type "slice",data:=.fields #[f,g,.none] } } σ i x v f g l u c.heap.objs.size Q E p (Heap.IsSliceOf.new ..) pl C D;show wpAny (model X.prog X.w) X.A (subscriptTail e (.Slice lo hi none p2) v (.ref c.heap.objs.size)) (EP X pins σ Q) X.xe { c with heap:=c.heap.push { cls:=.type "slice",data:=.fields #[f,g,.none] } };exact tail_any (ops:=[.ref c.heap.objs.size,v]) G F J (by with_unfolding_all rfl)
def oj (xs:List V) (lo hi:Option Int):List V:=(xs.drop (HT.sIx xs.length 0 lo)).take (HT.sIx xs.length xs.length hi-HT.sIx xs.length 0 lo)
theorem jF (xs:List V) (lo hi:Option Int):(oj xs lo hi).length<=xs.length:=by unfold oj;rw[Ca,BW];omega
def A3 (K:PySem.W.Frag):V->Option Int->Option Int->Hp->VK->Prop:=λx lo hi H Q=>∃a xs,x=.ref a/\SqT K H a xs /\
 ¬ (HT.sIx xs.length 0 lo=0/\HT.sIx xs.length xs.length hi=xs.length)/\∀p,H p=none->Q (.ref p) (upd H p (.tup (oj xs lo hi)))
theorem yv:SlR X (A3 X.K):=by
 intro pins s σ H x v vl vu lo hi sl Q I g i pl j h;obtain⟨a,xs,rfl,k,hw,q⟩:=h;cases g;obtain⟨c,r,e,f⟩:=I.tuple k;have hlen:c.toArray.size=xs.length:=by rw[B1];exact r.length.symm
 refine⟨"tuple",_,PyProof.Rows.slot_tuple_getitem.lookup,e.typeIs,?_⟩;refine HT.i9 e i pl j (by rw[hlen];exact hw) ?_ (by rw[hlen];exact f);rw[hlen];refine⟨.ref s.heap.objs.size,_,I.laid (t':=s.toks) (o:=.tup (oj xs lo hi)) (λb ob q=>B0 _ q) (B5 _) ?_,rfl,q _ (I.hok.fresh (B5 _))⟩;exact⟨BS (jF xs lo hi) f,_,(r.drop (HT.sIx xs.length 0 lo)).take (HT.sIx xs.length xs.length hi-HT.sIx xs.length 0 lo),mV.new _ _⟩
def zA (K:PySem.W.Frag):R2:=λx y H Q=>∃a b xs ys,x=.ref a/\y=.ref b/\SqT K H a xs/\SqT K H b ys/\xs≠[]/\xs.length+ys.length<=sizeLine /\
 (ys=[]->Q (.ref a) H)/\(ys≠[]->∀p,H p=none->Q (.ref p) (upd H p (.tup (xs++ys))))
theorem Vals.nil_iff (r:Vals xs us):us=[]↔xs=[]:=by
 cases r with
 |nil=>simp
 |cons _ _=>simp
theorem v3:OpR X (binaryOp .Add) (zA X.K):=by intro pins s σ H x y v u Q I g i h;obtain⟨a,b,xs,ys,rfl,rfl,ha,j,k,f,l,m⟩:=h;cases g;cases i;obtain⟨its,e,p1,_⟩:=I.tuple ha;obtain⟨its2,c,p2,_⟩:=I.tuple j;refine HT.uS p1 p2 (λz=>k (e.nil_iff.mp z)) (λz=>⟨.ref a,H,I,rfl,l (c.nil_iff.mp z)⟩) (λz=>?_) (by rw[<-e.length,<-c.length];exact f);refine⟨.ref s.heap.objs.size,_,I.laid (t':=s.toks) (o:=.tup (xs++ys)) (λb ob q=>B0 _ q) (B5 _) ?_,rfl,m (λw=>z (c.nil_iff.mpr w)) _ (I.hok.fresh (B5 _))⟩;exact⟨by rw[Bt];exact f,_,e.append c,mV.new _ _⟩
end
def ixN (n:Nat) (i:Int):Option Nat:=if 0<=i then (if i<n then some i.toNat else none) else if -(n:Int)<=i then some (i+n).toNat else none
def atI {α:Type} (xs:List α) (i:Int):Option α:=(ixN xs.length i).bind λj=>xs[j]?
theorem mX {i:Int} (h:ixN n i=some j):seqIndex? i n=some j/\j<n/\-(n:Int)<=i/\i<n:=by
 unfold ixN at h;by_cases h0:0<=i
 ·rw[if_pos h0]at h;by_cases h1:i<n
  ·rw[if_pos h1]at h;have e:i.toNat=j:=Option.some.inj h;exact⟨by rw[seqIndex_of h0 h1,e],by omega,by omega,h1⟩
  ·rw[if_neg h1]at h;cases h
 ·rw[if_neg h0]at h;by_cases h1:-(n:Int)<=i
  ·rw[if_pos h1]at h;have e:(i+n).toNat=j:=Option.some.inj h;exact⟨by rw[seqIndex_neg (by omega) h1,e],by omega,h1,by omega⟩
  ·rw[if_neg h1]at h;cases h
theorem p5 {xs:List α} {i:Int} {v:α} (h:atI xs i=some v):∃j,seqIndex? i xs.length=some j/\xs[j]?=some v/\j<xs.length/\-(xs.length:Int)<=i/\i<xs.length:=by
 unfold atI at h;cases e:ixN xs.length i with
 |none=>rw[e]at h;cases h
 |some j =>rw[e]at h;obtain⟨h1,h2,a,b⟩:=mX e;exact⟨j,h1,h,h2,a,b⟩
theorem vT {xs:List α} {v:α} (h:xs[j]?=some v):atI xs (j:Int)=some v:=by
 have hj:j<xs.length:=(BI.mp h).1;have e:ixN xs.length (j:Int)=some j:=by unfold ixN;rw[if_pos (by omega),if_pos (by omega)];simp
 unfold atI;rw[e];exact h
def jU (b:Expr):Prop:=∀o i,subscripted b false o i=operate [o,i] (getItem o i)
def IxR (X:Cx) (r:R2):Prop :=
 ∀(value slice:Expr) (pins:List (Addr×Obj)) (s:Shared) (σ:St) (H:Hp) (x y:V) (v u:Value) (Q:VK),Inv X pins σ H s->RelV x v->RelV y u->r x y H Q ->
  subscripted slice false v u=operate [v,u] (getItem v u)->wpAny (model X.prog X.w) X.A (subscriptTail value slice v u) (EP X pins σ Q) X.xe s
def MtR (X:Cx) (id:String) (r:V->List V->Hp->VK->Prop):Prop :=
 ∀(pins:List (Addr×Obj)) (s:Shared) (σ:St) (H:Hp) (x:V) (xs:List V) (v:Value) (us:List Value) (Q:VK),Inv X pins σ H s->RelV x v->Vals xs us->r x xs H Q ->
  wpAny (model X.prog X.w) X.A (call (.builtin id) (v::us)) (EP X pins σ Q) X.xe s
section
variable {a b:Expr} {ta tb:TE}
theorem IxR.or {r a:R2} (h:IxR X r) (h':IxR X a):IxR X (λx y H Q=>r x y H Q\/a x y H Q):=by
 intro value slice pins s σ H x y v u Q I b c q e;rcases q with q|q
 ·exact h value slice pins s σ H x y v u Q I b c q e
 ·exact h' value slice pins s σ H x y v u Q I b c q e
theorem nQ {r:R2} (c:IxR X r) (ha:PE X a ta) (e:PE X b tb) (f:jU b):PE X (.Subscript a b pos) (tOp r ta tb):=by intro pins s σ H Q I h;exact Subscript_ (xp ha e I h λv u s2 x y H2 g i j q=>c a b pins s2 σ H2 x y v u Q g i j q (f _ _))
def xW (K:PySem.W.Frag):R2:=λx y H Q=>∃p xs i v,x=.ref p/\y=.int i/\SqL K H p xs/\atI xs i=some v/\Q v H
def zE (K:PySem.W.Frag):R2:=λx y H Q=>∃p xs i v,x=.ref p/\y=.int i/\SqT K H p xs/\atI xs i=some v/\Q v H
theorem i4:IxR X (xW X.K):=by
 intro value slice pins s σ H x y v u Q I g k h e;obtain⟨p,xs,i,z,rfl,rfl,l,m,q⟩:=h;cases g;obtain⟨t,rfl⟩:=k;obtain⟨a,r,pl,hz⟩:=I.list l;obtain⟨j,h1,h2,h3,n,o⟩:=p5 m;obtain⟨w,f,b⟩:=r.get h2;have hl:=r.length;have hn:=my;have fin:EP X pins σ Q w s:=⟨z,H,I,b,q⟩
 by_cases h0:0<=i
 ·have c:i.toNat=j:=by rw[seqIndex_of h0 o]at h1;exact Option.some.inj h1
  exact item_listR pl.isList h0 (by omega) (by rw[c];simpa using f) fin e
 ·have c:(i+(a.toArray.size:Int)).toNat=j:=by rw[seqIndex_neg (by omega) n]at h1;rw[B1,<-hl];exact Option.some.inj h1
  exact subscriptTail_builtinR (x:=w) pl.isList.typeIs slot_list_getitem.lookup
   (wpAny_getItem_list_neg (Q:=λr s'=>r=w/\EP X pins σ Q r s') pl.isList (by omega) (by rw[B1] <;> omega) (by omega) (by rw[c];simpa using f) ⟨rfl,fin⟩) e
theorem wG:IxR X (zE X.K):=by
 intro value slice pins s σ H x y v u Q I b c h e;obtain⟨p,xs,i,z,rfl,rfl,f,g,q⟩:=h;cases b;obtain⟨t,rfl⟩:=c;obtain⟨its,r,pl,hz⟩:=I.tuple f;obtain⟨j,h1,h2,h3,h4,h5⟩:=p5 g;obtain⟨w,k,a⟩:=r.get h2;have hl:=r.length;have hn:=my;have fin:EP X pins σ Q w s:=⟨z,H,I,a,q⟩
 exact subscriptTail_builtinR (x:=w) pl.typeIs slot_tuple_getitem.lookup
  (getItem_tuple (j:=j) (Q:=λr s'=>r=w/\EP X pins σ Q r s') pl (by omega) (by omega) (by rw[B1,<-hl];exact h1) (by simpa using k) ⟨rfl,fin⟩) e
theorem oW (a:List Value) (n j:Nat) (u:Value):Obj.mapSeq (·.setIfInBounds j u) { cls:=.type "list",data:=.seq a.toArray n }={ cls:=.type "list",data:=.seq (a.set j u).toArray n }:=by simp[Obj.mapSeq]
theorem Inv.lst {p:Addr} (I:Inv X pins σ H s) (h:H p=some (.lst xs)) :
  ∃(a:List Value) (n:Nat),Vals xs a/\s.heap.get? p=some { cls:=.type "list",data:=.seq a.toArray n }/\xs.length<=sizeLine:=by
 obtain⟨z,a,n,r,e⟩:=I.hok p _ h;exact⟨a,n,r,e,z⟩
theorem Inv.lstUpd {p:Addr} {a:List Value} {n':Nat} {f:Obj->Obj} (I:Inv X pins σ H s) (h:H p=some (.lst xs))
  (g:s.heap.get? p=some { cls:=.type "list",data:=.seq a.toArray n }) (c:f { cls:=.type "list",data:=.seq a.toArray n }={ cls:=.type "list",data:=.seq its'.toArray n' }) (r:Vals ys its') (i:ys.length<=sizeLine) (t:Nat) :
  Inv X pins σ (upd H p (.lst ys)) { s with heap:=s.heap.update p f,toks:=t }:=by
 have e:(s.heap.update p f).get? p=some { cls:=.type "list",data:=.seq its'.toArray n' }:=by rw[Heap.get?_update_self f g (by rw[c] <;> rfl),c]
 refine I.write (x:=p) (e:=p) (by rw[h];trivial) (.inl rfl) (λb u j q=>(Cm _ _ (Ne.symm j)).trans q) ⟨_,e⟩ ?_;exact⟨i,its',n',r,e⟩
def yV:V->V->V->Hp->(Hp->Prop)->Prop:=λo i v H Q=>∃p xs k j,o=.ref p/\i=.int k/\H p=some (.lst xs)/\ixN xs.length k=some j/\Q (upd H p (.lst (xs.set j v)))
theorem set_list:zY X yV:=by
 intro pins s σ H o i v ov iv u Q I m w x h;obtain⟨p,xs,k,j,rfl,rfl,e,y,q⟩:=h;cases m;obtain⟨t,rfl⟩:=w;obtain⟨a,n,r,b,z⟩:=I.lst e;obtain⟨h1,h2,f,g⟩:=mX y;have hl:=r.length;have hn:=my;have l:Inv X pins σ (upd H p (.lst (xs.set j v))) { s with heap:=s.heap.update p (Obj.mapSeq (·.setIfInBounds j u)) } :=
  I.lstUpd e b (oW a n j u) (r.set x j) (by rw[Ct];exact z) s.toks
 by_cases h0:0<=k
 ·have c:k.toNat=j:=by rw[seqIndex_of h0 g]at h1;exact Option.some.inj h1
  exact PySem.W.ki_setAt b h0 (by omega) (by rw[B1,<-hl];exact g) (by rw[c];exact⟨_,l,q⟩)
 ·have c:(k+(a.toArray.size:Int)).toNat=j:=by rw[seqIndex_neg (by omega) f]at h1;rw[B1,<-hl];exact Option.some.inj h1
  exact PySem.W.ki_setBack b (by omega) (by rw[B1,<-hl];exact f) (by omega) (by rw[c];exact⟨_,l,q⟩)
theorem md (lo hi:Option Int) (n:Nat):(sliceBounds lo hi none n).1=((HT.sIx n 0 lo:Nat):Int)/\(sliceBounds lo hi none n).2.1=((HT.sIx n n hi:Nat):Int)/\(sliceBounds lo hi none n).2.2=1:=by
 refine⟨?_,?_,rfl⟩
 ·cases lo with
  |none=>simp[sliceBounds,HT.sIx]
  |some i =>
   simp only[sliceBounds,HT.sIx,Option.getD_none,show (1:Int)>0 by decide,if_true];by_cases h:i<0
   ·simp only[h,if_true] <;> omega
   ·simp only[h,if_false] <;> omega
 ·cases hi with
  |none=>simp[sliceBounds,HT.sIx]
  |some i =>
   simp only[sliceBounds,HT.sIx,Option.getD_none,show (1:Int)>0 by decide,if_true];by_cases h:i<0
   ·simp only[h,if_true] <;> omega
   ·simp only[h,if_false] <;> omega
theorem lg (a:List Value) (lo hi:Option Int):slicePick a.toArray lo hi none=((a.drop (HT.sIx a.length 0 lo)).take (HT.sIx a.length a.length hi-HT.sIx a.length 0 lo)).toArray:=by obtain⟨h1,h2,b⟩:=md lo hi a.toArray.size;unfold slicePick;rw[h1,h2,b];simp only[sliceRange_one,pick_run,B1] <;> rfl
def Au (K:PySem.W.Frag):V->Option Int->Option Int->Hp->VK->Prop:=λx lo hi H Q=>∃a xs,x=.ref a/\SqL K H a xs/\∀p,H p=none->Q (.ref p) (upd H p (.lst (oj xs lo hi)))
theorem u0:SlR X (Au X.K):=by intro pins s σ H x v vl vu lo hi sl Q I e f pl g h;obtain⟨a,xs,rfl,i,q⟩:=h;cases e;obtain⟨its,r,c,j⟩:=I.list i;have hlen:=r.length;refine⟨"list",_,slot_list_getitem.lookup,c.isList.typeIs,?_⟩;refine wpAny_getItem_list_slice c.isList f pl g .none (by simp) ?_ (by rw[B1] <;> omega);rw[lg,<-hlen];refine⟨.ref s.heap.objs.size,_,I.laid (t':=s.toks) (o:=.lst (oj xs lo hi)) (λb ob q=>B0 _ q) (B5 _) ?_,rfl,q _ (I.hok.fresh (B5 _))⟩;exact⟨BS (jF xs lo hi) j,_,0,(r.drop (HT.sIx xs.length 0 lo)).take (HT.sIx xs.length xs.length hi-HT.sIx xs.length 0 lo),Br _ rfl⟩
def eqV:V->V->Bool
 |.non,.non=>true
 |.bl a,.bl b=>a==b
 |.bl a,.int b=>(if a then 1 else 0)==b
 |.int a,.bl b=>a==(if b then 1 else 0)
 |.int a,.int b=>a==b
 |.str a,.str b=>a==b
 |_,_=>false
theorem gA:gJ X (.builtin "len") (λxs H Q=>∃p ys,xs=[.ref p]/\(SqL X.K H p ys\/SqT X.K H p ys)/\Q (.int ys.length) H):=by
 intro pins s σ H xs us Q I r h;obtain⟨p,ys,rfl,a,q⟩:=h;obtain⟨u,rfl,e⟩:=vals1 r;cases e;have hn:=my;rcases a with a|a
 ·obtain⟨b,c,pl,f⟩:=I.list a;have hlen:=c.length;exact Calls.call_len_list pl.isList (by simp only[B1] <;> omega) ⟨.int ys.length,H,I.tok _,⟨s.toks+1,by rw[B1,hlen]⟩,q⟩
 ·obtain⟨b,c,pl,f⟩:=I.tuple a;have hlen:=c.length;exact len_tuple pl (by simp only[B1] <;> omega) ⟨.int ys.length,H,I.tok _,⟨s.toks+1,by rw[B1,hlen]⟩,q⟩
theorem mm:gJ X (.type "list") (λxs H Q=>∃p ys,xs=[.ref p]/\(SqL X.K H p ys\/SqT X.K H p ys)/\∀l,H l=none->Q (.ref l) (upd H l (.lst ys))):=by
 intro pins s σ H xs us Q I r h;obtain⟨p,ys,rfl,g,q⟩:=h;obtain⟨u,rfl,k⟩:=vals1 r;cases k;have fin:∀(a:List Value),Vals ys a->ys.length<=sizeLine->∀(h':Heap) (c:Nat),(∀b o',s.heap.get? b=some o'->h'.get? b=some o') ->
   h'.get? s.heap.objs.size=some { cls:=.type "list",dict:=none,data:=.seq a.toArray c,slots:=#[] }->EP X pins σ Q (.ref s.heap.objs.size) { s with heap:=h' }:=λa f i h' c kp e =>
  ⟨.ref s.heap.objs.size,_,I.laid (t':=s.toks) kp (B5 _) (show dC X.prog X.w _ h' _ (.lst ys) from⟨i,a,c,f,e⟩),rfl,q _ (I.hok.fresh (B5 _))⟩
 rcases g with g|g
 ·obtain⟨a,f,pl,i⟩:=I.list g;have hlen:=f.length;obtain⟨o,j,hc,n,hd⟩:=pl.isList;exact call_list_seq p (.inl rfl) j hc hd (λh' c kp e=>fin a f i h' c kp e) (by simp only[B1] <;> omega)
 ·obtain⟨a,f,pl,i⟩:=I.tuple g;have hlen:=f.length;obtain⟨o,j,hc,n,hd⟩:=pl;exact call_list_seq p (.inr rfl) j hc hd (λh' c kp e=>fin a f i h' c kp e) (by simp only[B1] <;> omega)
theorem kY:gJ X (.type "tuple") (λxs H Q=>∃p ys,xs=[.ref p]/\((SqL X.K H p ys/\∀l,H l=none->Q (.ref l) (upd H l (.tup ys)))\/(SqT X.K H p ys/\Q (.ref p) H))):=by
 intro pins s σ H xs us Q I r h;obtain⟨p,ys,rfl,h⟩:=h;obtain⟨u,rfl,j⟩:=vals1 r;cases j;rcases h with⟨c,q⟩|⟨c,q⟩
 ·obtain⟨a,f,pl,g⟩:=I.list c;have hlen:=f.length;refine call_tuple_list pl.isList (λh' kp=>?_) (by simp only[B1] <;> omega);have i:Inv X pins σ H { s with heap:=h' }:=I.kept (t':=s.toks) kp;have k:Inv X pins σ (upd H h'.objs.size (.tup ys)) { s with heap:=h'.push { cls:=.type "tuple",data:=.seq a.toArray } } :=
   i.laid (t':=s.toks) (λb o e=>B0 _ e) (B5 _) (show dC X.prog X.w _ _ _ (.tup ys) from⟨g,a,f,mV.new _ _⟩)
  exact⟨.ref h'.objs.size,_,k,rfl,q _ (i.hok.fresh (B5 _))⟩
 ·obtain⟨a,f,pl,g⟩:=I.tuple c;exact call_tuple_same pl ⟨.ref p,H,I,rfl,q⟩
def tyV (K:PySem.W.Frag) (T:String) (x:V) (H:Hp):Prop:=match x with
 |.str _=>T="str"
 |.int _=>T="int"
 |.ref p=>(T="list"/\∃xs,SqL K H p xs)\/(T="tuple"/\∃o,K.lookup p=some o/\o.cls=.type "tuple"/\o.dict=none) \/
  (T="dict"/\((∃kvs,H p=some (.dK kvs))\/∃kvs,H p=some (.dT kvs)))\/(T="set"/\∃S n,H p=some (.set S n))
 |_=>False
theorem xY {T:String} {x:V} {v:Value} (I:Inv X pins σ H s) (r:RelV x v) (ty:tyV X.K T x H) :
  s.TypeIs v T/\∀a,v=.ref a->∃ob,s.heap.get? a=some ob/\ob.dict=none:=by
 cases x with
 |str z =>obtain⟨t,rfl⟩:=r;cases (show T="str" from ty);exact⟨typeIs_str s z t,λ_ e=>nomatch e⟩
 |int i =>obtain⟨t,rfl⟩:=r;cases (show T="int" from ty);exact⟨typeIs_int s i t,λ_ e=>nomatch e⟩
 |ref p =>
  cases r;rcases ty with⟨rfl,xs,f⟩|⟨rfl,o,b,hc,hd⟩|⟨rfl,b⟩|⟨rfl,S,n,b⟩
  ·obtain⟨its,_,pl,_⟩:=I.list f;refine⟨pl.isList.typeIs,λa e=>?_⟩;cases e;obtain⟨o,n,e,c,hd,_⟩:=pl;exact⟨o,e,hd⟩
  ·refine⟨⟨o,I.kIn p o b,hc⟩,λa e=>?_⟩;cases e;exact⟨o,I.kIn _ o b,hd⟩
  ·have z:∃o,s.heap.get? p=some o/\o.ExactDict:=by
    rcases b with⟨kvs,b⟩|⟨kvs,b⟩
    ·obtain⟨_,_,_,_,o,_,_,e,ex,_⟩:=I.hok p _ b;exact⟨o,e,ex⟩
    ·obtain⟨_,_,_,_,o,_,_,e,ex,_⟩:=I.hok p _ b;exact⟨o,e,ex⟩
   obtain⟨o,e,ex⟩:=z;refine⟨⟨o,e,ex.1⟩,λa e2=>?_⟩;cases e2;exact⟨o,e,ex.2.1⟩
  ·obtain⟨o,_,_,_,e,ex,_⟩:=I.hok p _ b;refine⟨⟨o,e,ex.1⟩,λa e2=>?_⟩;cases e2;exact⟨o,e,ex.2.1⟩
 |_=>exact False.elim ty
def tBM (K:PySem.W.Frag) (T:String) (r:V->List V->Hp->VK->Prop) (to:TE) (t:TA):TE:=λσ H Q=>to σ H λx H1=>tyV K T x H1/\t σ H1 λxs H2=>r x xs H2 Q
variable {o:Expr} {to:TE} {t:TA} {name:Str} {apos:Pos} {T id:String} {r:V->List V->Hp->VK->Prop}
theorem pK (n:PlainAttrs T) (slot:Slot T name id) (g:typeOf (.builtin id)=pure (.type "method_descriptor")) (hm:MtR X id r) (p:PE X o to) (ha:PA X (e::es) t)
  (b:attributeBase o name X.env (eval o X.env)=eval o X.env:=by rfl)
  (f:((backTo cpos (starEach (e::es) X.env)).all (λx=>!x.1)&&(backToKw cpos (keywordEach [] X.env)).all (λx=>x.1.isSome)
  &&decide ((e::es).length+([]:List Keyword).length+(if ([]:List Keyword).isEmpty then 0 else 1)<30))=true:=by rfl)
  (c:(apos.endLine==cpos.line)=true:=by rfl) (q:starEach (e::es) X.env=(false,eval e X.env)::starEach es X.env:=by rfl) (a:(backTo cpos (starEach es X.env)).any (·.1)=false:=by rfl) :
  PE X (.Call (.Attribute o name apos) (e::es) [] cpos) (tBM X.K T r to t):=by
 intro pins s σ H Q I h;refine wpAny_Call_method_late b f c rfl (thn (p pins s σ H _ I h) λv u i=>?_);obtain⟨x,H1,k,l,ty,w⟩:=i;obtain⟨h1,h2⟩:=xY k l ty;refine⟨T,id,n,slot,g,h1,h2,?_⟩;have m:=ha cpos pins u σ H1 _ k w;rw[q]at m ⊢;refine Calls.callWith_builtin (by show (false||(backTo cpos (starEach es X.env)).any (·.1))=false;rw[a] <;> rfl) (Calls.evalArgs_plain ?_);exact thn m λus s2 j=>(by obtain⟨vs,H2,y,z,A⟩:=j;exact hm pins s2 σ H2 x vs v us Q y l z A)
end
def MtM (X:Cx) (id:String) (r:V->List V->Hp->VK->Prop):Prop :=
 ∀(pins:List (Addr×Obj)) (s:Shared) (σ:St) (H:Hp) (x:V) (xs:List V) (v:Value) (us:List Value) (Q:VK),Inv X pins σ H s->RelV x v->Vals xs us->r x xs H Q ->
  wpAny (model X.prog X.w) X.A (call (.builtin id) (v::us)) (EP X pins σ Q) X.xe s
theorem Vals.one {x:V} (h:Vals [x] us):∃u,us=[u]/\RelV x u:=by
 cases h with
 |cons r t=>cases t;exact⟨_,rfl,r⟩
theorem Vals.eraseIdx:∀{xs:List V} {us:List Value} (i:Nat),Vals xs us->Vals (xs.eraseIdx i) (us.eraseIdx i)
 |_,_,_,.nil=>.nil
 |_,_,0,.cons _ t=>t
 |_,_,i+1,.cons r t=>.cons r (Vals.eraseIdx i t)
theorem Vals.rep {xs:List V} {us:List Value} (h:Vals xs us):∀k:Nat,Vals (List.replicate k xs).flatten (List.replicate k us).flatten
 |0=>.nil
 |k+1=>by rw[BN,BN,BU,BU];exact Vals.append h (Vals.rep h k)
theorem lP {α:Type}:∀(l:List α) (i:Nat),(l.eraseIdx i).length<=l.length
 |[],_=>B5 _
 |_::_,0=>CD _
 |_::r,i+1=>Nat.succ_le_succ (lP r i)
theorem foldl_rep (a:List Value):∀(k:Nat) (acc:List Value),
  List.foldl (λb c=>b++c) acc.toArray (List.replicate k a.toArray)=(acc++(List.replicate k a).flatten).toArray
 |0,acc=>by simp
 |k+1,acc=>by
  have e:acc.toArray++a.toArray=(acc++a).toArray:=by simp
  have e2:(acc++a)++(List.replicate k a).flatten=acc++(List.replicate (k+1) a).flatten:=by rw[BN,BU,CB]
  rw[<-e2,<-foldl_rep a k (acc++a),<-e,BN,List.foldl_cons]
section
variable {l:Addr} {zs:List V}
theorem Inv.lset {f:Array Value->Array Value} {t':Nat} (I:Inv X pins σ H s) (b:H l=some (.lst xs))
  (e:s.heap.get? l=some { cls:=.type "list",data:=.seq a.toArray n }) (c:f a.toArray=its'.toArray) (g:Vals ys its') (h:ys.length<=sizeLine) :
  Inv X pins σ (upd H l (.lst ys)) { s with heap:=s.heap.update l (Obj.mapSeq f),toks:=t' }:=by
 have q:=PySem.IsL.update e f;rw[c]at q;refine I.write (x:=l) (e:=l) (by rw[b];exact trivial) (.inl rfl) (λb' u i j=>(Cm s.heap (Obj.mapSeq f) (Ne.symm i)).trans j) ⟨_,q⟩ ?_;exact⟨h,its',_,g,q⟩
theorem Inv.lnew {t':Nat} (I:Inv X pins σ H s) (b:Vals ys a) (c:ys.length<=sizeLine) :
  Inv X pins σ (upd H s.heap.objs.size (.lst ys)) { s with heap:=s.heap.push { cls:=.type "list",data:=.seq a.toArray },toks:=t' } :=
 I.laid (λ_ _ q=>B0 _ q) (B5 _) ⟨c,a,0,b,Br _ rfl⟩
theorem Inv.fresh (I:Inv X pins σ H s):H s.heap.objs.size=none:=I.hok.fresh (B5 _)
theorem Inv.lstM (I:Inv X pins σ H s) (b:H l=some (.lst xs)):xs.length<=sizeLine/\∃(a:List Value) (n:Nat),Vals xs a/\xs.length=a.length/\s.heap.get? l=some { cls:=.type "list",data:=.seq a.toArray n }:=by obtain⟨z,a,n,r,e⟩:=I.hok l _ b;exact⟨z,a,n,r,r.length,e⟩
theorem om (h:n<=sizeLine):Builtin.List.listTooLong n=false:=by unfold Builtin.List.listTooLong;exact decide_eq_false (by omega)
end
section
def vD:V->List V->Hp->VK->Prop:=λx vs H Q=>∃l xs y,x=.ref l/\vs=[y]/\H l=some (.lst xs)/\xs.length<sizeLine/\Q .non (upd H l (.lst (xs++[y])))
theorem jo:MtM X "list.append" vD:=by intro pins s σ H x vs v us Q I c f h;obtain⟨l,xs,y,rfl,rfl,b,hz,q⟩:=h;cases c;obtain⟨u,rfl,g⟩:=f.one;obtain⟨z,a,n,r,hl,e⟩:=I.lstM b;refine call_meets F.slot_list_append ⟨_,e,rfl⟩ F.entry_list_append (F.args_list_append_2 _ _) (PySem.list_append l a.toArray n u (by rw[B1];omega)) ⟨e,?_⟩;refine⟨.non,_,I.lset (its':=a++[u]) b e (by simp) (r.append (.cons g .nil)) ?_,rfl,q⟩;rw[Bt,C0];omega
def vq:V->List V->Hp->VK->Prop:=λx vs H Q=>∃l b xs zs,x=.ref l/\vs=[.ref b]/\H l=some (.lst xs)/\H b=some (.lst zs)/\xs.length+zs.length<=sizeLine/\Q .non (upd H l (.lst (xs++zs)))
theorem qu:MtM X "list.extend" vq:=by
 intro pins s σ H x vs v us Q I i j h;obtain⟨l,b,xs,zs,rfl,rfl,g,hB,hz,q⟩:=h;cases i;obtain⟨u,rfl,k⟩:=j.one;cases k;obtain⟨z,its,n,r,hl,e⟩:=I.lstM g;obtain⟨z2,a,n2,m,hl2,e2⟩:=I.lstM hB;have f:its.toArray.size+a.toArray.size<=sizeLine:=by rw[B1,B1];omega
 have c:¬ (!its.toArray.isEmpty&&Builtin.List.listTooLong (its.toArray.size+a.toArray.size))=true:=by rw[om f,C9];exact Bx
 refine call_meets F.slot_list_extend ⟨_,e,rfl⟩ F.entry_list_extend (F.args_list_extend_2 _ _)
  (AutoSeq1.list_extend_list_list_0 l its.toArray n b a.toArray n2 c (by rw[B1];omega) (by omega)) ⟨e,e2,?_⟩
 refine⟨.non,_,I.lset (its':=its++a) g e (by simp) (r.append m) ?_,rfl,q⟩;rw[Bt];omega
def wR:V->List V->Hp->VK->Prop:=λx vs H Q=>∃l xs i k y,x=.ref l/\vs=[.int i]/\H l=some (.lst xs)/\-(2 ^ 63)<=i/\i<2 ^ 63/\seqIndex? i xs.length=some k/\xs[k]?=some y/\Q y (upd H l (.lst (xs.eraseIdx k)))
theorem sr:MtM X "list.pop" wR:=by
 intro pins s σ H x vs v us Q I f g h;obtain⟨l,xs,i,k,y,rfl,rfl,c,h1,h2,j,m,q⟩:=h;cases f;obtain⟨u,rfl,o⟩:=g.one;obtain⟨t,rfl⟩:=o;obtain⟨z,a,n,r,hl,e⟩:=I.lstM c;obtain⟨w,hw,b⟩:=r.get m;refine call_meets F.slot_list_pop ⟨_,e,rfl⟩ F.entry_list_pop (F.args_list_pop_2 _ _)
  (MeetsSeq.list_pop_at l a.toArray n i t k w (fitsIndex_both h1 h2) (by rw[B1,<-hl];exact j) (by rw[<-Co];exact hw) (by rw[B1];omega)) ⟨e,?_⟩
 refine⟨y,_,I.lset (its':=a.eraseIdx k) c e ?_ (r.eraseIdx k) ?_,b,q⟩
 ·show a.toArray.eraseIdxIfInBounds k=(a.eraseIdx k).toArray;rw[List.eraseIdxIfInBounds_toArray]
 ·have:=lP xs k;omega
def zd:R2:=λx y H Q=>∃l b xs zs,x=.ref l/\y=.ref b/\H l=some (.lst xs)/\H b=some (.lst zs)/\xs.length+zs.length<=sizeLine/\∀p,H p=none->Q (.ref p) (upd H p (.lst (xs++zs)))
theorem xf:OpR X (binaryOp .Add) zd:=by
 intro pins s σ H x y v u Q I f g h;obtain⟨l,b,xs,zs,rfl,rfl,i,hB,hz,q⟩:=h;cases f;cases g;obtain⟨z,c,n,r,hl,e⟩:=I.lstM i;obtain⟨z2,a,n2,j,hl2,e2⟩:=I.lstM hB;refine PySem.P.add_list e e2 ?_ (by rw[B1,B1];omega);have ea:c.toArray++a.toArray=(c++a).toArray:=by simp
 rw[ea];exact⟨.ref _,_,I.lnew (t':=s.toks) (r.append j) (by rw[Bt];omega),rfl,q _ I.fresh⟩
def zg:R2:=λx y H Q=>∃l k xs,x=.ref l/\y=.int k/\H l=some (.lst xs)/\-(2 ^ 63)<=k/\k<2 ^ 63/\xs.length*k.toNat<=sizeLine /\
 ∀p,H p=none->Q (.ref p) (upd H p (.lst (List.replicate k.toNat xs).flatten))
theorem len_rep (xs:List α) (k:Nat):(List.replicate k xs).flatten.length=k*xs.length:=by
 induction k with
 |zero=>simp
 |succ k ih=>rw[BN,BU,Bt,ih,Nat.succ_mul,Nat.add_comm]
theorem xn:OpR X (binaryOp .Mult) zg:=by
 intro pins s σ H x y v u Q I w A h;obtain⟨l,k,xs,rfl,rfl,B,h1,h2,p,q⟩:=h;cases w;obtain⟨t,rfl⟩:=A;obtain⟨z,b,n,r,hl,e⟩:=I.lstM B;have hlen:b.toArray.size*k.toNat<=sizeLine:=by rw[B1,<-hl];exact p
 have f:¬ b.toArray.size*k.toNat>(2 ^ 63-1) / 8:=by
  have:(sizeLine:Nat)<=(2 ^ 63-1) / 8:=by decide
  omega
 have g:¬ (!Builtin.List.listFitsIndex k)=true:=by rw[fitsIndex_both h1 h2];exact Bx
 have c:¬ Builtin.List.listTooLong (b.toArray.size*k.toNat)=true:=by rw[om hlen];exact Bx
 have i:List.foldl (λj o=>j++o) #[] (List.replicate (if b.toArray.isEmpty=true then 0 else k.toNat) b.toArray)=(List.replicate k.toNat b).flatten.toArray:=by
  have C:∀m:Nat,List.foldl (λj o=>j++o) #[] (List.replicate m b.toArray)=(List.replicate m b).flatten.toArray:=λm=>by have:=foldl_rep b m [];rw[C6]at this;exact this
  rw[C];cases b with
  |nil=>simp
  |cons a r'=>rw[if_neg (by simp)]
 refine wpAny_binaryOp_repeat_ref (T:="list") (U:="int") (by decide) ⟨_,e,rfl⟩ (λs'=>typeIs_int s' k t) noFill_list_mul F.fills_int_mul F.slot_int_rmul repeat_list F.slot_int_index.lookup
  (call_meets F.slot_int_rmul (typeIs_int s k t) F.entry_int_rmul (F.args_int_rmul_2 _ _) (int___rmul___int_list k t l b.toArray n)
   ⟨e,rfl,⟨_,e,rfl⟩,call_meets F.slot_list_mul ⟨_,e,rfl⟩ F.entry_list_mul (F.args_list_mul_2 _ _) (AutoListH.list___mul___list_int_3 l b.toArray n k t g f c) ⟨e,?_⟩⟩)
 rw[i];exact⟨.ref _,_,I.lnew (t':=s.toks) (r.rep k.toNat) (by rw[len_rep,Nat.mul_comm];exact p),rfl,q _ I.fresh⟩
end
section
variable {prog:Program} {A:Around}
end
section
end
end L2
namespace Att
open PySem PySem.W PySem.Calls PyProof.Rows
theorem jS {P:Params}:∀(ns:List Int) (vs:List Value),WellAll P h vs (ns.map WData.int)->IntsAre vs ns:=by
 intro ns
 induction ns with
 |nil =>intro vs w;rw[List.map_nil]at w;cases w;exact .nil
 |cons n ns ih =>
  intro vs w;rw[BC]at w;cases w with
  |cons a b =>cases a;exact .cons _ _ (ih _ b)
theorem qY {l:OpenLaw} (hn:l.most=some n) {P:Params} {args:List WData} {vals:List Value}
  (b:l.row.toRowW.claim.pre args=true) (f:WellAll P h vals args) :
  ∃a vs ns,vals=[Value.ref a]/\args=[WData.list (ns.map WData.int)]/\h.get? a=some { cls:=.type "list",data:=.seq vs.toArray }/\IntsAre vs ns/\ns.length<=n:=by
 have g:WShape.hasAll [] args [.list .int]=true:=(pre_splitW b).1;have hc:l.pre.holds [] { args:=args }=true:=(pre_splitW b).2;obtain⟨d,r,rfl,h1,h2⟩:=hasAllW_cons g;obtain rfl:=hasAllW_nil h2;obtain⟨xs,rfl,i⟩:=hasW_list h1;obtain⟨ns,rfl⟩:=items_int i;have hlen:ns.length<=n:=by
  unfold OpenLaw.pre at hc;have c:(WTm.not (.lt (.lit (.int (n:Int))) (.len (.arg 0)))).holds [] { args:=[.list (ns.map .int)] }=true:=by have c:=(holds_andW hc).1;rw[hn]at c;exact c
  have e:=condW_of c (w_not (w_lt w_lit (w_len_list (w_arg rfl))));rw[B3]at e;refine Nat.le_of_not_lt λq=>?_
  have j:(n:Int)<((ns.length:Nat):Int):=by omega
  first
   |(rw[decide_eq_true j]at e;exact absurd e (by decide))
   |(simp at e;omega)
 cases f with
 |cons w1 w2 =>
  cases w2;cases w1 with
  |list ho hall=>exact⟨_,_,ns,rfl,rfl,ho,jS ns _ hall,hlen⟩
theorem qz (l:OpenLaw) (args:List WData):l.row.toRowW.claim.post args (.bool true) args=true :=
 postW_of (r:=l.row.toRowW) (X:=(true==true))
  (show WShape.has [] (.bool true) .bool=true by first|rfl|decide|simp[WShape.has,WShape.arms,WShape.armsAll])
  (show (WTm.eq .res (.lit (.bool true))).value [] { args:=args,res:=some (.bool true),after:=args }=some (.bool (true==true)) from w_eq_bool (w_res rfl) w_lit) rfl
theorem oo {l:OpenLaw} {XP:(Str->Option Value)->Heap->Prop} {d:DefRec}
  (hn:l.most=some n) (h:d.params.defaults=[])
  (call:∀(w:World) (s₀ b:Shared) (mg i:Str->Option Value) (c:Addr) (o:Obj) (pm cd doc:Value) (a:Addr) (vs:List Value) (ns:List Int),
   Ground q loose [] XP w s₀ mg i b.heap->YP w b.heap ->
   b.heap.get? c=some o->o.data=.func (docDef d.name d.params d.body d.scope pm cd doc)->b.heap.CodeRec cd d.name->mg d.name=some (.ref c) ->
   b.heap.get? a=some { cls:=.type "list",data:=.seq vs.toArray }->IntsAre vs ns->ns.length<=n->b.gens=#[] ->
   codeAny (model l.prog w) callerA (.call (.ref c) ⟨[.ref a],[]⟩) (λr s'=>r=.ok (.ret (.bool true))/\OldK b.heap s'.heap/\s'.os=b.os/\AllBare s'.gens) b) :
  WalkO q loose XP YP l.row.toRowW d [] (λf vs=>PySem.call f vs):=by
 intro w s₀ b mg i G Y c o pm cd doc s kV t hd j p k u args vals as e hlay hrd m hlo;obtain rfl:s=.none:=Dflts.none p h;obtain rfl:kV=.none:=Dflts.noKw p;obtain⟨a,vs,ns,rfl,rfl,g,hints,hlen⟩:=qY hn e m;refine enter_call (codeAny_mono (call w s₀ b mg i c o pm cd doc a vs ns G Y t (fd_plain hd) j k g hints hlen u) λr s' v=>?_);obtain⟨rfl,h2,x,y⟩:=v;exact⟨.inl ⟨.bool true,.bool true,[],rfl,λ_=>rfl,.bool true,qz l _,λ_=>⟨List.Pairwise.nil,λ_ hm=>(nomatch hm)⟩⟩,h2,x,y⟩
section
variable {prog:Program} {A:Around} {K:Frag}
end
end Att
namespace L2
open PySem PySem.Spec PyProof.Rows
theorem lS:∀{vs:List Value} {ns:List Int},IntsAre vs ns->Vals (ns.map V.int) vs
 |_,_,.nil=>.nil
 |_,_,.cons n t h=>.cons ⟨t,rfl⟩ (lS h)
def yh (H:Hp):Prop:=∀b,H b=none\/(∃o xs,H b=some (.frz o (.lst xs)))\/∃q,H b=some (.tbl q)
def jr (K:PySem.W.Frag) (h:Heap):Prop:=(∀P q,TabOf K P q->h.get? P=some { cls:=.none,data:=.fields #[] }/\K.lookup P=none/\isCodeTable h P)/\∀P q a,TabOf K P q->TabOf K P a->q=a
section
open Classical
def iC (K:PySem.W.Frag):Hp:=λb=>if h:∃q,TabOf K b q then some (.tbl h.choose) else none
theorem ck (K:PySem.W.Frag) (b:Addr):iC K b=none\/∃q,TabOf K b q/\iC K b=some (.tbl q):=by
 unfold iC;split
 ·rename_i h;exact .inr ⟨_,h.choose_spec,rfl⟩
 ·exact .inl rfl
theorem lu (a:jr K h) {P:Addr} {q:Str} (t:TabOf K P q):iC K P=some (.tbl q):=by
 rcases ck K P with e|⟨b,t',e⟩
 ·unfold iC at e;rw[dif_pos ⟨q,t⟩]at e;cases e
 ·rw[e,a.2 P q b t t']
end
def lV (mg:Str->Option Value) (base:Heap):Prop:=∃bm o,mg "__builtins__"=some (.ref bm)/\bm≠builtinsNs/\bm≠mainGlobals/\base.get? bm=some o/\o.cls=.type "module"/\o.dict=some builtinsNs/\o.data=.plain
theorem law_call {O:Str->Option Value} {CX:CXT} {Q:Addr} {c:Shared} {vs:List Value}
  (KX:K.In c.heap) (E:c.heap.Ns mainGlobals mg) (i:c.heap.Ns builtinsNs O) (R:∀x:Str,x≠"__name__"->O x=bootBuiltins x) (G:c.heap.NoLimit) (hg:c.gens=#[])
  (ha:c.heap.get? a=some { cls:=.type "list",data:=.seq vs.toArray }) (hi:IntsAre vs ns) (hl:ns.length<=sizeLine) (hr:dG k callerA)
  (S:lV mg c.heap) (F:∀base:Heap,K.In base->base.Ns mainGlobals mg->lV mg base->fJ P w K mg base CX k Q fd [x] sp) (A:∀(s:Shared) (u:Value),BindsTo s fd ⟨[u],[]⟩ [(x,u)])
  (T:∀H:Hp,yh H->SqL K H a (ns.map V.int)->sp [.ref a] H (λv _=>v=.bl true) λ_ _ _=>False)
  (U:∀H e s',CX [] H c (λ_ _ _=>False) e s'->False) (j:jr K c.heap) :
  codeAny (model P w) callerA (.call (.ref Q) ⟨[.ref a],[]⟩) (λr s'=>r=.ok (.ret (.bool true))/\OldK c.heap s'.heap/\s'.os=c.os/\AllBare s'.gens) c:=by
 have rv:=lS hi;have I:=hi.length
 -- from an abstract heap in which nothing but the script may be tracked
 have core:∀H:Hp,yh H->SqL K H a (ns.map V.int)->HOk P w H c.heap->(∀b,H b≠none->b=a\/∃q,TabOf K b q)->(H a≠none->K.lookup a=none)->(∀P q,TabOf K P q->H P=some (.tbl q)) ->
   codeAny (model P w) callerA (.call (.ref Q) ⟨[.ref a],[]⟩) (λr s'=>r=.ok (.ret (.bool true))/\OldK c.heap s'.heap/\s'.os=c.os/\AllBare s'.gens) c:=by
  intro H hO hS hok N hK X;have f:∀{b:Addr} {o:Obj},c.heap.get? b=some o->H b=none->(ll c.heap H).get? b=some o:=λe n=>sq e n
  have Y:∀{b:Addr} {o:Obj} {es:Array DictEntry} {J:Nat},c.heap.get? b=some o->o.data=.dict es J->H b=none:=λ{b o es J} e d=>by
   cases q:H b with
   |none=>rfl
   |some u =>
    rcases N b (by rw[q];simp) with g|⟨B,g⟩
    case inr=>rw[(j.1 b B g).1]at e;cases e;cases d
    subst g;rw[ha]at e;cases e;have d':Data.seq vs.toArray _=Data.dict es J:=d;cases d'
  have l:∀{b:Addr} {m:Str->Option Value},c.heap.Ns b m->(ll c.heap H).Ns b m:=λ{b m} qz2=>(by obtain⟨o,es,J,e,d,r⟩:=qz2;exact⟨o,es,J,f e (Y e d),d,r⟩)
  have L:K.In (ll c.heap H):=λb o e=>f (KX b o e) (by
   cases q:H b with
   |none=>rfl
   |some u =>
    rcases N b (by rw[q];simp) with g|⟨B,g⟩
    case inr=>rw[(j.1 b B g).2.1]at e;cases e
    subst g;rw[hK (by rw[q];simp)]at e;cases e)
  have hM:Mod K mg (ll c.heap H):=⟨L,l E,⟨O,l i,R⟩,let ⟨mc,h1,h2⟩:=G;⟨mc,l h1,h2⟩⟩
  have e0:vC P w K mg (ll c.heap H) callerA [] c H:=⟨rfl,hM,λb o e=>vt e,Nat.le_of_eq (qg _ _),trivial,λb i=>absurd (show b∈([]:List Addr) from i) (by simp),hok,.of_eq hg,X⟩
  have Z:lV mg (ll c.heap H):=by
   obtain⟨bm,ob,b1,b2,b3,M,b5,b6,b7⟩:=S;refine⟨bm,ob,b1,b2,b3,f M ?_,b5,b6,b7⟩;cases q:H bm with
   |none=>rfl
   |some u =>
    rcases N bm (by rw[q];simp) with g|⟨B,g⟩
    case inr=>rw[(j.1 bm B g).1]at M;cases M;cases b5
    subst g;rw[ha]at M;cases M;simp at b5
  refine codeAny_mono ((F _ L (l E) Z).run callerA [] c H ⟨[.ref a],[]⟩ [.ref a] [.ref a] _ _ hr e0 (A c (.ref a)) (.cons rfl .nil) (T H hO hS)) λr s' h=>?_
  cases r with
  |error e=>exact (U H e s' h).elim
  |ok fl =>
   cases fl with
   |next=>exact False.elim h
   |brk=>exact False.elim h
   |cont=>exact False.elim h
   |ret u =>
    obtain⟨v,H',os,bare,un,p,r',q⟩:=h;have q':v=.bl true:=q;subst q';obtain rfl:u=Value.bool true:=r';have old:∀b o,c.heap.get? b=some o->s'.heap.get? b=some o\/(isCodeTable c.heap b/\o.cls=.none/\∃vs more,o.data=.fields vs/\s'.heap.get? b=some { o with data:=.fields (vs++more) }):=λb o e=>?old
    case old =>
     cases q:H b with
     |none=>exact .inl <|un.keep b o e q (by intro z;exact absurd (show b∈([]:List Addr) from z) (by simp)) (by simp)
     |some u =>
      rcases hO b with z|⟨ob,xs,z⟩|⟨B,z⟩
      ·rw[q]at z;cases z
      ·have z2:=un.frzs b ob _ z;obtain⟨e1,_⟩:=hok b _ z;obtain⟨e2,_⟩:=p b _ z2;rw[e]at e1;cases e1;exact .inl e2
      ·have z2:=un.tbls b B z;obtain⟨ps,e2,_⟩:=p b _ z2;rcases N b (by rw[z];simp) with g|⟨q2,g⟩
       ·obtain⟨ps0,D,_⟩:=hok b _ z;rw[g]at D;rw[ha]at D;cases D
       ·obtain⟨D,_,e4⟩:=j.1 b q2 g;rw[e]at D;cases D;exact .inr ⟨e4,rfl,#[],ps,rfl,by simpa using e2⟩
    exact⟨rfl,⟨λb o e=>(old b o e).imp id λz=>.inl z,λb o e=>by rcases old b o e with z|⟨_,_,_,_,_,z⟩ <;> exact⟨_,z⟩⟩,os,bare⟩
 have tok:∀b q,TabOf K b q->dC P w (λ_=>none) c.heap b (.tbl q):=λb q t=>⟨#[],(j.1 b q t).1,trivial,λpos cv z=>nomatch z⟩
 have y:∀(H:Hp) b q,TabOf K b q->dC P w H c.heap b (.tbl q):=λH b q t=>⟨#[],(j.1 b q t).1,trivial,λpos cv z=>nomatch z⟩
 have na:∀q,¬ TabOf K a q:=λq t=>by have:=(j.1 a q t).1;rw[ha]at this;cases this
 cases hk:K.lookup a with
 |some o =>
  have e:=KX a o hk;rw[ha]at e;cases e;refine core (iC K) (λb=>(ck K b).imp id λC=>(by obtain⟨q,_,e⟩:=C;exact .inr ⟨q,e⟩)) (.inr ⟨_,vs.toArray,_,hk,rfl,rfl,rfl,by rw[B1,I];exact hl,by simpa using rv⟩) (λb u z=>?_) (λb z=>?_) (λz=>?_) λP q t=>lu j t
  ·rcases ck K b with e|⟨q,t,e⟩
   ·rw[z]at e;cases e
   ·rw[z]at e;cases e;exact y _ b q t
  ·rcases ck K b with e|⟨q,t,e⟩
   ·exact absurd e z
   ·exact .inr ⟨q,t⟩
  ·rcases ck K a with e|⟨q,t,e⟩
   ·exact absurd e z
   ·exact absurd t (na q)
 |none =>
  have eT:∀b,b≠a->(λb=>if b=a then some (HO.frz { cls:=.type "list",data:=.seq vs.toArray } (.lst (ns.map V.int))) else iC K b) b=iC K b:=λb h=>if_neg h
  have eA:(λb=>if b=a then some (HO.frz { cls:=.type "list",data:=.seq vs.toArray } (.lst (ns.map V.int))) else iC K b) a=some (HO.frz { cls:=.type "list",data:=.seq vs.toArray } (.lst (ns.map V.int))):=if_pos rfl;refine core (λb=>if b=a then some (.frz { cls:=.type "list",data:=.seq vs.toArray } (.lst (ns.map V.int))) else iC K b) (λb=>?_) (.inl (.inr ⟨{ cls:=.type "list",data:=.seq vs.toArray },if_pos rfl⟩)) (λb u z=>?_) (λb z=>?_) (λ_=>hk) λP q t=>?_
  ·by_cases i:b=a
   ·exact .inr (.inl ⟨_,_,if_pos i⟩)
   ·rw[eT b i];exact (ck K b).imp id λC=>(by obtain⟨q,_,e⟩:=C;exact .inr ⟨q,e⟩)
  ·by_cases i:b=a
   ·subst i;rw[eA]at z;cases z;exact⟨ha,by rw[B3];exact hl,vs,_,rv,ha⟩
   ·rw[eT b i]at z;rcases ck K b with e|⟨q,t,e⟩
    · rw[z]at e;cases e
    · rw[z]at e;cases e;exact y _ b q t
  ·by_cases i:b=a
   ·exact .inl i
   ·rcases ck K b with e|⟨q,t,e⟩
    · exact absurd ((if_neg i).trans e) z
    · exact .inr ⟨q,t⟩
  ·exact (if_neg (λz=>na q (by rw[<-z];exact t))).trans (lu j t)
abbrev KOf {K:PySem.W.Frag} {h:Heap} (_:K.In h):PySem.W.Frag:=K
theorem p0 {XP:(Str->Option Value)->Heap->Prop} {d:DefRec} {K:Params->PySem.W.Frag} {CX:World->CXT} {sp:World->Sp}
  (hn:l.most=some n) (r:n<=sizeLine) (t:d.params.defaults=[]) (I:dG k callerA)
  (J:∀(w:World) (h:Heap),YP w h->(K w.params).In h)
  (F:∀(w:World) (mg:Str->Option Value) (p:Addr) (h:Heap),(K w.params).In h->h.Ns mainGlobals mg->mg d.name=some (.ref p) ->
   ∃fd:FuncData,(∀(s:Shared) (u:Value),BindsTo s fd ⟨[u],[]⟩ [(x,u)]) /\
    ∀base:Heap,(K w.params).In base->base.Ns mainGlobals mg->lV mg base->fJ l.prog w (K w.params) mg base (CX w) k p fd [x] (sp w))
  (y:∀(w:World) (H:Hp) (a:Addr) (ns:List Int),ns.length<=n->yh H->SqL (K w.params) H a (ns.map V.int)->sp w [.ref a] H (λv _=>v=.bl true) λ_ _ _=>False)
  (A:∀(w:World) (H:Hp) (s:Shared) (e:Value) (s':Shared),CX w [] H s (λ_ _ _=>False) e s'->False) (B:∀(w:World) (h:Heap) (c:List Str) (i:ExcName->Option Value) (mg E:Str->Option Value),PyProof.Rows.Top q c i mg E h->(K w.params).In h->jr (K w.params) h) :
  PySem.W.WalkO q loose XP YP l.row.toRowW d [] (λf vs=>PySem.call f vs):=by
 refine Att.oo hn t λw s₀ j mg E p o pm cd doc a vs ns G Y ho hd hcd C m hints hlen L=>?_
 have D:=J w _ Y;obtain⟨fd,N,O⟩:=F w mg p _ D G.T.g C;exact law_call D G.T.g G.T.b G.T.builtins G.T.nolimit L m hints (BS hlen r) I (by obtain⟨bm,ob,M⟩:=PySem.W.bmod_of_top G.T;exact⟨bm,ob,M.name,M.ne,(λz=>by obtain⟨o,es,ep,e1,e2,_⟩:=M.ns;rw[<-z,M.obj]at e1;cases e1;rw[M.data]at e2;cases e2),M.obj,M.cls,M.dict,M.data⟩) O N (λH P Q=>y w H a ns hlen P Q) (λH e s'=>A w H j e s') (B w _ _ _ _ _ G.T D)
def gw (s:Stmt):Arguments:=match s with
 |.FunctionDef _ a _ _ _ _ _ _ _ _=>a
 |_=>{ posonlyargs:=[],args:=[],vararg:=none,kwonlyargs:=[],kw_defaults:=[],kwarg:=none,defaults:=[] }
def c9 (s:Stmt):List Stmt:=match s with
 |.FunctionDef _ _ b _ _ _ _ _ _ _=>b
 |_=>[]
def aQ (s:Stmt):Scope:=match s with
 |.FunctionDef _ _ _ _ _ _ sc _ _ _=>sc
 |_=>{ kind:=.function,names:=[],isGenerator:=false,isCoroutine:=false }
abbrev CX0:CXT:=λ_ _ _ _ _ _=>False
abbrev E0:XK:=λ_ _ _=>False
theorem yZ:Passes CX0 X E0:=λ_ _ _ _ _ _ _ h=>h.elim
structure Fun (K:PySem.W.Frag) (x qual:Str) (st:Stmt) (f:Addr) (fd:FuncData):Prop where
 ex:∃(oc:Value) (od:Option Addr) (kV doc pm:Value) (an:Option Addr) (cdv ct:Value) (osl:Array (Option Value)),
  fd=PySem.W.fnOf x qual (gw st) (c9 st) (aQ st) .none kV doc pm an cdv ct/\K.lookup f=some ⟨oc,od,.func fd,osl⟩/\PySem.W.codeIn K cdv qual=true
 kp:PySem.W.keepIn K (.ref f)=true
section
theorem Fun.ok (F:Fun K x qual st f fd) (S:ef N ps (aQ st)) (len:∀vs H Q E,sp vs H Q E->vs.length=ps.length)
  (a:∀(cdv:Value) (A:Around) (outer:List Env) (s:Shared) (H:Hp) (vs:List V) (Q:VK) (E:XK),dG k (A.deeper (envOfC qual (aQ st) s.heap.objs.size f cdv))->sp vs H Q E ->
   ∃t,PSs (fP CX0 P w K mg base N qual (aQ st) f cdv A outer s H E).nox (c9 st) t/\t { nx:=λ_ H'=>Q .non H',rt:=Q } (start N vs) H):fJ P w K mg base CX0 (k+1) f fd ps sp:=by
 obtain⟨oc,od,kV,doc,pm,an,cdv,ct,osl,rfl,e,b⟩:=F.ex;refine wj e b S len λA outer s H vs Q E g c=>?_
 obtain⟨t,h,q⟩:=a cdv A outer s H vs Q E g c;exact⟨t,h.nox,q⟩
theorem Fun.binds (F:Fun K x qual st f fd)
  (h:∀(kV doc pm:Value) (an:Option Addr) (cdv ct:Value) (us:List Value),us.length=ps.length->bindArgs (PySem.W.fnOf x qual (gw st) (c9 st) (aQ st) .none kV doc pm an cdv ct) ⟨us,[]⟩=pure (ps.zip us)):Binds K fd ps []:=by
 obtain⟨oc,od,kV,doc,pm,an,cdv,ct,osl,rfl,lk,hcd⟩:=F.ex;exact .all (h kV doc pm an cdv ct)
theorem yB {kV doc cdv:Value} (l:K.lookup f=some ⟨oc,od,.func (PySem.W.fnOf x qual (gw st) (c9 st) (aQ st) .none kV doc pm an cdv ct),osl⟩)
 (c:PySem.W.codeIn K cdv qual=true) (k:PySem.W.keepIn K (.ref f)=true):Fun K x qual st f (PySem.W.fnOf x qual (gw st) (c9 st) (aQ st) .none kV doc pm an cdv ct):=⟨⟨oc,od,kV,doc,pm,an,cdv,ct,osl,rfl,l,c⟩,k⟩
end
section
theorem pv (i:Nat) (b:X.N[i]?=some x:=by rfl) (c:Vis X.env.scope x:=by first|exact Or.inl rfl|exact Or.inr (Or.inl rfl)|exact Or.inr (Or.inr rfl)) (hd:(x==("__debug__":Str))=false:=by decide)
 (a:(x==("__classdict__":Str))=false:=by decide):PE X (.Name x pos) (zB i):=eM b c hd a
end
theorem zP {c A B:Prop} [Decidable c] (h1:c->A) (h2:¬ c->B):if c then A else B:=by
 by_cases h:c
 ·rw[if_pos h];exact h1 h
 ·rw[if_neg h];exact h2 h
def aw (H H':Hp):Prop:=∀b o,H b=some o->H' b=some o
theorem aw.refl (H:Hp):aw H H:=λ_ _ h=>h
theorem aw.trans {H2:Hp} (a:aw H H1) (b:aw H1 H2):aw H H2:=λc o h=>b c o (a c o h)
theorem aw.free (e:aw H H') {l:Addr} (h:H' l=Option.none):H l=Option.none:=by
 cases q:H l with
 |none=>rfl
 |some o =>rw[e l o q]at h;cases h
theorem aw.seq (e:aw H H') (h:SqL K H a xs):SqL K H' a xs:=by
 rcases h with (h|⟨o,h⟩)|h
 ·exact .inl (.inl (e _ _ h))
 ·exact .inl (.inr ⟨o,e _ _ h⟩)
 ·exact .inr h
end L2
set_option maxHeartbeats 4000000
namespace L2
open PySem PySem.Spec PyProof.Rows
variable {M:List Str} {g:TG} {f:PyData->PyData->Option PyData} {E:XK}
def jO:List (Str×NameKind)->List (Str×Addr)->List (Str×Addr)->List (Str×Addr)
 |[],_,acc=>acc
 |(n,k)::r,cells,acc=>jO r cells (if k==.free then (match cells.lookup n with|some c=>(n,c)::acc|none=>acc) else acc)
theorem gy (env:Env):∀(names:List (Str×NameKind)) (acc:List (Str×Addr)),(∀y∈names,y.2=.free->∃c,env.cells.lookup y.1=some c) ->
  (forIn names acc (λ(x:Str×NameKind) (cs:List (Str×Addr))=>match x with
   | (name,kind)=>if (kind==NameKind.free)=true then do let c <-cellOf env name;pure (ForInStep.yield ((name,c)::cs)) else pure (ForInStep.yield cs)):Sem (List (Str×Addr)))=pure (jO names env.cells acc)
 |[],acc,_=>rfl
 |(n,k)::r,acc,h=>by
  rw[List.forIn_cons];have b:∀y∈r,y.2=.free->∃c,env.cells.lookup y.1=some c:=λy g=>h y (Bu _ g)
  dsimp only[jO];by_cases hk:k=.free
  ·subst hk;obtain⟨c,hc⟩:=h (n,.free) By rfl;have a:env.cells.lookup n=some c:=hc;have e:cellOf env n=pure c:=by unfold cellOf;rw[a]
   rw[if_pos (show (NameKind.free==NameKind.free)=true by decide),if_pos (show (NameKind.free==NameKind.free)=true by decide),e,a];exact gy env r ((n,c)::acc) b
  ·have f:¬ (k==NameKind.free)=true:=by simpa using hk
   rw[if_neg f,if_neg f];exact gy env r acc b
theorem jP (h:∀y∈scope.names,y.2=.free->∃c,env.cells.lookup y.1=some c):closureFor scope env=pure (jO scope.names env.cells []):=by have e:=gy env scope.names [] h;unfold closureFor;rw[<-bind_pure (forIn scope.names [] _)]at e;exact e
theorem nv:∀(names:List (Str×NameKind)) (cells acc:List (Str×Addr)) (x:Str) (c:Addr),(∀x c,acc.lookup x=some c->cells.lookup x=some c)->(jO names cells acc).lookup x=some c->cells.lookup x=some c
 |[],_,_,x,c,h,e=>h x c e
 |(n,k)::r,cells,acc,x,c,h,e=>by
  refine nv r cells _ x c (λy d a=>?_) e;split at a
  ·split at a
   ·rename_i c' b;rw[C3]at a;by_cases hyn:(y==n)=true
    ·rw[hyn]at a;have f:y=n:=eq_of_beq hyn;subst f;cases a;exact b
    ·have:(y==n)=false:=by simpa using hyn
     rw[this]at a;exact h y d a
   ·exact h y d a
  ·exact h y d a
theorem lq:∀(names:List (Str×NameKind)) (cells acc:List (Str×Addr)) (x:Str),(∃c,acc.lookup x=some c)->∃c,(jO names cells acc).lookup x=some c
 |[],_,_,_,h=>h
 |(n,k)::r,cells,acc,x,h=>by
  refine lq r cells _ x ?_;split
  ·split
   ·rw[C3];cases (x==n)
    ·exact h
    ·exact⟨_,rfl⟩
   ·exact h
  ·exact h
theorem kJ:∀(names:List (Str×NameKind)) (cells acc:List (Str×Addr)) (x:Str) (c:Addr),(x,NameKind.free)∈names->cells.lookup x=some c->∃c,(jO names cells acc).lookup x=some c
 |[],_,_,_,_,h,_=>by simp at h
 |(n,k)::r,cells,acc,x,c,h,e=>by
  rcases B8.mp h with h|h
  ·injection h with h1 h2
   subst h1;subst h2;refine lq r cells _ x ?_;rw[if_pos (by decide),e];exact⟨c,by simp[C3]⟩
  ·exact kJ r cells _ x c h e
def blk (X:Cx) (M:List Str) (scope:Scope) (own:List Str) (C:Addr) (s2:Shared) (H2:Hp) (fp:List Addr):Cx where
 prog:=X.prog
 w:=X.w
 K:=X.K
 mg:=X.mg
 base:=X.base
 A:=X.A
 N:=M++own
 s₀:=s2
 H₀:=H2
 env:=compEnvC scope (jO scope.names X.env.cells []) C X.env
 outer:=X.stack
 stack:=X.stack
 ex:=fp
 fn:=λ_=>false
 calm:=X.calm
 pn:=[]
 xe:=λ_ _=>False
structure hU (X:Cx) (M:List Str) (scope:Scope) (own:List Str):Prop where
 kind:scope.kind=.function
 nocell:∀y∈scope.names,y.2≠.cell
 names:∀y∈scope.names,y.2=.local->scope.names.lookup y.1=some .local
 free:∀y∈scope.names,y.2=.free->Vis X.env.scope y.1/\X.env.scope.names.lookup y.1≠some .local
 own:∀x∈own,scope.names.lookup x=some .local
 outer:∀p∈X.N.zip M,(p.1=p.2/\scope.names.lookup p.2≠some .local)\/scope.names.lookup p.2=none
 len:M.length=X.N.length
def lX (N M:List Str) (a scope:Scope) (own:List Str):Bool :=
 (scope.kind==.function)&&scope.names.all (λy=>y.2 != .cell)&&scope.names.all (λy=>y.2 != .local||scope.names.lookup y.1==some .local) &&
 scope.names.all (λy=>y.2 != .free||(a.names.lookup y.1==some .cell||a.names.lookup y.1==some .free)) &&
 own.all (λx=>scope.names.lookup x==some .local)&&(N.zip M).all (λp=>(p.1==p.2&&scope.names.lookup p.2 != some .local)||scope.names.lookup p.2==none)&&(M.length==N.length)
theorem hU.of (h:lX X.N M X.env.scope scope own=true):hU X M scope own:=by
 unfold lX at h;simp only[Bs,BG,Bool.or_eq_true,bne_iff_ne,beq_iff_eq,ne_eq]at h;obtain⟨⟨⟨⟨⟨⟨h1,h2⟩,b⟩,c⟩,f⟩,g⟩,i⟩:=h;refine⟨h1,h2,λy a e=>(b y a).resolve_left λz=>z e,λy a e=>?_,f,g,i⟩;rcases (c y a).resolve_left λz=>z e with q|q
 ·exact⟨.inr (.inl q),by rw[q];intro z;cases z⟩
 ·exact⟨.inr (.inr q),by rw[q];intro z;cases z⟩
theorem cR {env:Env}:∀{names:List (Str×NameKind)} {x:Str} {k:NameKind},
  (names.map λ(n,k)=>if (k==NameKind.free&&env.scope.kind==.function&&env.kindOf n==some .cell) then (n,NameKind.cell) else (n,k)).lookup x=some k->(k=.cell\/k=.free)->(∀y∈names,y.2≠.cell)->(x,NameKind.free)∈names
 |[],_,_,h,_,_=>by simp at h
 |(n,k')::r,x,k,h,a,hn=>by
  have b:∀y∈r,y.2≠NameKind.cell:=λy c=>hn y (Bu _ c)
  rw[BC,C3]at h;by_cases hc:(k'==NameKind.free&&env.scope.kind==.function&&env.kindOf n==some .cell)=true
  ·have f:k'=.free:=by have:=hc;simp only[Bs]at this;exact eq_of_beq this.1.1
   simp only[if_pos hc]at h;cases hx:x==n with
   |true =>have:x=n:=eq_of_beq hx;subst this;subst f;exact By
   |false =>rw[hx]at h;exact Bu _ (cR h a b)
  ·simp only[if_neg hc]at h;cases hx:x==n with
   |true =>
    rw[hx]at h;have e:k'=k:=Option.some.inj h;have:x=n:=eq_of_beq hx;subst this;subst e;rcases a with a|a
    ·exact absurd a (hn _ By)
    ·subst a;exact By
   |false =>rw[hx]at h;exact Bu _ (cR h a b)
theorem cO {env:Env}:∀{names:List (Str×NameKind)} {x:Str} {k:NameKind},
  (names.map λ(n,k)=>if (k==NameKind.free&&env.scope.kind==.function&&env.kindOf n==some .cell) then (n,NameKind.cell) else (n,k)).lookup x=some k->(∃k0,names.lookup x=some k0/\(k=k0\/(k=.cell/\k0=.free)))
 |[],_,_,h=>by simp at h
 |(n,k')::r,x,k,h=>by
  rw[BC,C3]at h;rw[C3];by_cases hc:(k'==NameKind.free&&env.scope.kind==.function&&env.kindOf n==some .cell)=true
  ·have a:k'=.free:=by have:=hc;simp only[Bs]at this;exact eq_of_beq this.1.1
   simp only[if_pos hc]at h;cases hx:x==n with
   |true =>rw[hx]at h;exact⟨k',rfl,.inr ⟨(Option.some.inj h).symm,a⟩⟩
   |false =>rw[hx]at h;exact cO h
  ·simp only[if_neg hc]at h;cases hx:x==n with
   |true =>rw[hx]at h;exact⟨k',rfl,.inl (Option.some.inj h).symm⟩
   |false =>rw[hx]at h;exact cO h
section
variable {H2:Hp} {s2:Shared}
theorem Inv.blk {h1:Heap} {t':Nat} (I:Inv X pins σ H2 s2) (B:hU X M scope own) (H:∀b∈fp,j8 X pins H2 b) (J:∀b∈fp,b<s2.heap.objs.size)
  (A:D=s2.heap.objs.size) (G:C=s2.heap.objs.size+1) (hl:h1.get? D=some { cls:=.type "list",data:=.seq ([]:List Value).toArray 0 })
  (hn:h1.Ns C (λ_=>none)) (g:∀b o,s2.heap.get? b=some o->h1.get? b=some o) :
  Inv (L2.blk X M scope own C s2 H2 fp) [] (σ++List.replicate own.length none) (upd H2 D (.lst [])) { s2 with heap:=h1,toks:=t' }:=by
 have a:∀x c,(jO scope.names X.env.cells []).lookup x=some c->X.env.cells.lookup x=some c:=λx c e=>nv _ _ _ _ _ (λ_ _ z=>by simp at z) e
 have K:∀x c,(jO scope.names X.env.cells []).lookup x=some c->c<s2.heap.objs.size:=λx c e=>by obtain⟨v,q⟩:=I.cell x c (a x c e);exact q.lt
 have n:H2 D=none:=I.hok.fresh (by rw[A];exact B5 _);have freeC:H2 C=none:=I.hok.fresh (by rw[G];exact CD _);have L:C≠D:=by rw[G,A];exact Nat.succ_ne_self _
 have Y:Un (frs X.stack) fp H2 (upd H2 D (.lst [])) s2.heap h1:=Un.laid g (by rw[A];exact B5 _) n;refine⟨⟨I.ok.mod,?_,I.ok.glob,I.ok.blt,?_,?_,?_,?_,I.ok.hd,I.ok.frames,.inl rfl,?_,I.bs,BS I.ok.bsz I.sz,?_,?_,I.stack,I.stkFree⟩,rfl,I.bare,Y,?_,?_,?_,?_,?_,?_,?_,λP q t=>Y.tbls P q (I.tab P q t)⟩
 ·exact B.kind
 ·show s2.heap.objs.size<=C;rw[G];exact CD _
 ·intro x y c e1 e2;exact I.ok.inj x y c (a x c e1) (a y c e2)
 ·intro x h;have hm:(x,NameKind.free)∈scope.names:=by
   rcases h with h|h
   ·exact cR h (.inl rfl) B.nocell
   ·exact cR h (.inr rfl) B.nocell
  obtain⟨O,s⟩:=B.free _ hm rfl;have hh:X.env.kindOf x=some .cell\/X.env.kindOf x=some .free:=by
   rcases O with z|z|z
   ·exact absurd z s
   ·exact .inl z
   ·exact .inr z
  obtain⟨c,e⟩:=I.ok.has x hh;exact kJ _ _ _ x c hm e
 ·intro x c Q _;exact absurd (show false=true from Q) (by decide)
 ·intro b w;refine⟨?_,λx c e z=>?_⟩
  ·show b≠C;rw[G];exact B9 (C8 (J b w))
  ·exact (H b w).2.2.2.2.1 x c (a x c e) z
 ·intro b o e w;obtain⟨_,_,_,f3,_⟩:=H b w;rcases f3 with z|z
  ·exact I.ok.noex b o e z
  ·exact absurd (B6 (B4 (I.ok.bs b o e).1) z) (C1 _)
 ·intro b w hs;obtain⟨_,f1,f2,_⟩:=H b w;rcases B8.mp (I.stkSub b hs) with z|z
  ·exact f1 z
  ·exact f2 z
 ·refine⟨_,hn,λi x v e1 e2 Z=>?_⟩;have hi:i<σ.length:=by
   by_cases hi:i<σ.length
   ·exact hi
   ·rw[BQ (by omega),C4]at e2;split at e2 <;> cases e2
  rw[BJ hi]at e2;have E:i<X.N.length:=by rw[<-I.len];exact hi
  have R:i<M.length:=by rw[B.len];exact E
  have S:M[i]?=some x:=by
   have:(M++own)[i]?=some x:=e1
   rwa[BJ R]at this
  obtain⟨y,ey⟩:∃y,X.N[i]?=some y:=⟨_,B2 E⟩
  have hz:(y,x)∈X.N.zip M:=List.mem_of_getElem? (i:=i) (by rw[List.getElem?_zip_eq_some];exact⟨ey,S⟩);have T:∃k,scope.names.lookup x=some k:=by
   rcases Z with z|z|z
   ·obtain⟨k0,f,_⟩:=cO (show _=some NameKind.local from z);exact⟨k0,f⟩
   ·obtain⟨k0,f,_⟩:=cO (show _=some NameKind.cell from z);exact⟨k0,f⟩
   ·obtain⟨k0,f,_⟩:=cO (show _=some NameKind.free from z);exact⟨k0,f⟩
  have j:y=x/\scope.names.lookup x≠some .local:=by
   rcases B.outer _ hz with q|q
   ·exact q
   ·obtain⟨k,g⟩:=T;rw[q]at g;cases g
  have U:X.N[i]?=some x:=by rw[<-j.1];exact ey
  have h:(relabel scope X.env).names.lookup x=some .cell\/(relabel scope X.env).names.lookup x=some .free:=by
   rcases Z with z|z
   ·obtain⟨k0,f,g⟩:=cO (show _=some NameKind.local from z);rcases g with g|⟨g,_⟩
    ·subst g;exact absurd f j.2
    ·cases g
   ·exact z
  have hm:(x,NameKind.free)∈scope.names:=by
   rcases h with h|h
   ·exact cR h (.inl rfl) B.nocell
   ·exact cR h (.inr rfl) B.nocell
  obtain⟨O,s⟩:=B.free _ hm rfl;obtain⟨m,_,W⟩:=I.loc;obtain⟨u,r,l⟩:=W i x v U e2 O;refine⟨u,r,.inr ⟨h,?_⟩⟩;rcases l with⟨z,_⟩|⟨_,c,hc,z⟩
  ·exact absurd z s
  ·obtain⟨c',F⟩:=kJ scope.names X.env.cells [] x c hm hc;have:=a x c' F;rw[hc]at this;cases this;exact⟨c,F,z.keeps g⟩
 ·intro x c e;obtain⟨v,q⟩:=I.cell x c (a x c e);exact⟨v,q.keeps g⟩
 ·show upd H2 D (.lst []) C=none;rw[aN L];exact freeC
 ·intro x c e;have h1:=K x c e;rw[aN (by rw[A];exact B9 h1)];exact I.freeC x c (a x c e)
 ·intro p hp;exact absurd (show p∈([]:List (Addr×Obj))++[] from hp) (by simp)
 ·exact I.hok.laid g (by rw[A];exact B5 _) ⟨Cz _,[],0,.nil,hl⟩
 ·show (σ++List.replicate own.length none).length=(M++own).length;rw[Bt,Bt,List.length_replicate,I.len,B.len]
theorem Inv.unblk {a:St} (I:Inv X pins σ H2 s2) (i:∀b∈fp,j8 X pins H2 b) (f:s2.heap.objs.size<=C)
  (J:Inv (L2.blk X M scope own C s2 H2 fp) [] a H' s') (j:Heap.SameBut C s'.heap h'):Inv X pins σ H' { s' with heap:=h' }:=by
 have h:H' C=none:=J.free;have k:∀b o,b≠C->s'.heap.get? b=some o->h'.get? b=some o:=λb o g e=>(j.2 b g).trans e
 have old:∀b o,s2.heap.get? b=some o->b≠C:=λb o e=>B9 (B6 (B4 e) f)
 have u:Un (frs X.stack) fp H2 H' s2.heap s'.heap:=J.base;refine I.call' (s':={ s' with heap:=h' }) (ch:=fp) J.os ?_ ?_ J.bare λb g=>?_
 ·refine⟨λb o e n h1 h2=>k b o (old b o e) (u.keep b o e n h1 h2),λb o e n h1 h2=>?_,u.free,λb o e h1=>?_,u.tups,u.frzs,u.tbls⟩
  ·obtain⟨l,q⟩:=u.slot b o e n h1 h2;exact⟨l,k b _ (old b o e) q⟩
  ·obtain⟨o',q⟩:=u.there b o e h1;exact⟨o',k b o' (old b o e) q⟩
 ·intro b o e;refine (J.hok b o e).stay (λc v hc q=>k c v ?_ q) (λ_ q=>q) λ_ _ q=>q
  rintro rfl
  rcases hc with z|z
  ·subst z;rw[h]at e;cases e
  ·rw[h]at z;cases z
 ·obtain⟨f0,f1,f2,m,p,r⟩:=i b g;exact⟨m,f1,p,r⟩
end
section
variable {prog:Program} {A:Around} {R:Result->Shared->Prop}
theorem mD {target:Expr} {it acc:Value} (I:Nat->Shared->Prop)
  (turn:∀n s,I n s->wpAny (model prog w) A (pyNext it) (λr a=>match r with
   |none=>R (.ok .next) a
   |some v=>wpAny (model prog w) A (letOwnedTupleGo target it v) (λ_ k=>wpAny (model prog w) A (assign target env v) (λ_ e =>
    wpAny (model prog w) A (forIn ifs true λc r=>if r=true then do let ok <-isTrue c env (eval c env);pure (ForInStep.yield ok) else pure (ForInStep.yield r)) (λok b =>
     if ok=true then wpAny (model prog w) A (eval elt env) (λx f =>
      wpAny (model prog w) A (call (.builtin "list.append") [acc,x]) (λ_ g=>∃m,m<n/\I m g) (λ_ _=>False) f) (λ_ _=>False) b
     else ∃m,m<n/\I m b) (λ_ _=>False) e) (λ_ _=>False) k) (λ_ _=>False) a) (λ_ _=>False) s)
  (n:Nat) (h:I n s) :
  codeAny (model prog w) A (.compLoop (.ListComp elt [⟨target,iter,ifs,0⟩] scope pos) 0 it acc env) R s:=by
 refine codeAny_loop rfl I (λn s t=>?_) n h;show wpAny _ A ((compTurn (.ListComp elt [⟨target,iter,ifs,0⟩] scope pos) 0 it acc env).onRaise (λx=>do noteFrame x env;theTreesLotGoes x)) _ _ s;refine wpAny_noted ?_;rw[compTurn_list];refine wpAny_bind (wpAny_standAt (wpAny_bind (wpAny_mono (turn n s t) (λr a i=>?_) λ_ _ h'=>h'.elim)));cases r with
 |none=>exact wpAny_pure i
 |some v =>
  refine wpAny_bind (wpAny_mono i (λ_ k q=>?_) λ_ _ h'=>h'.elim);refine wpAny_bind (wpAny_mono q (λ_ e l=>wpAny_bind (wpAny_mono l (λok b j=>?_) λ_ _ h'=>h'.elim)) λ_ _ h'=>h'.elim);cases ok with
  |false=>exact wpAny_pure ⟨rfl,j⟩
  |true =>exact wpAny_bind (wpAny_bind (wpAny_mono j (λx f o=>wpAny_bind (wpAny_mono o (λ_ g p=>wpAny_pure (wpAny_pure ⟨rfl,p⟩)) λ_ _ h'=>h'.elim)) λ_ _ h'=>h'.elim))
end
def wm:TT:=λ_ H Q=>Q true H
inductive PTs (X:Cx):List Expr->TT->Prop
 |nil:PTs X [] wm
 |one {c:Expr} {t:TT} (h:PT X c t):PTs X [c] t
theorem PTs.run {t:TT} (h:PTs X ifs t) {Q:Bool->Hp->Prop} (I:Inv X pins σ H s) (q:t σ H Q) :
  wpAny (model X.prog X.w) X.A (forIn ifs true λc r=>if r=true then do let ok <-isTrue c X.env (eval c X.env);pure (ForInStep.yield ok) else pure (ForInStep.yield r)) (TP X pins σ Q) X.xe s:=by
 cases h with
 |nil=>exact wpAny_tests_nil ⟨H,I,q⟩
 |one h=>exact wpAny_tests_one (h pins s σ H Q I q)
def LCR (J:It) (n:Nat) (g:TG) (tt:TT) (te:TE) (σ:St) (H1:Hp) (Q:VK):Prop:=∀D,H1 D=none->∃W:Nat->Nat->List V->Hp->Prop,(∃m,W 0 m [] (upd H1 D (.lst []))) /\
 ∀i m ys H,W i m ys H->H D=some (.lst ys)/\((J.stop i H/\Q (.ref D) H)\/(J.go i H/\∀x H' e,e.length=n->J.yld i H x H'->g x (σ++e) H' λc H2=>tt c H2 λb h =>
  if b=true then te c h λv j=>j D=some (.lst ys)/\ys.length<sizeLine/\(∃a,c=σ++a/\a.length=n)/\∃f,f < m/\W (i+1) f (ys++[v]) (upd j D (.lst (ys++[v])))
  else (∃a,c=σ++a/\a.length=n)/\∃f,f < m/\W (i+1) f ys h))
def tLC (n:Nat) (a:TI) (g:TG) (tt:TT) (te:TE):TE:=λσ H Q=>a σ H λJ H1=>LCR J n g tt te σ H1 Q
theorem kg {wi:TI} {tt:TT} {te:TE} {use:Option (Value->Sem Unit)} {Qf:Value->Shared->Prop} (hc:X.calm=true) (hi:PI X tg iter wi)
  (hg:∀C s2 H2 fp,PG (blk X M scope own C s2 H2 fp) tg g) (ht:∀C s2 H2 fp,PTs (blk X M scope own C s2 H2 fp) ifs tt) (he:∀C s2 H2 fp,PE (blk X M scope own C s2 H2 fp) elt te)
  (hB:lX X.N M X.env.scope scope own=true) (hs:∀x,foldedSetIterable iter X.env x=pure x) {Q:VK} (I:Inv X pins σ H s) (h:tLC own.length wi g tt te σ H Q)
  (fin:∀(C D:Addr) (O:Shared) (L:Hp),(∀h',Heap.SameBut C O.heap h'->Inv X pins σ L { O with heap:=h' })->(∃m,O.heap.Ns C m)->L C=none->C≠X.env.locals->(∀x c,X.env.cells.lookup x=some c->c≠C)->(∀p∈X.pn++pins,p.1≠C)->X.s₀.heap.objs.size<=C->Q (.ref D) L ->
   compPost (model X.prog X.w) X.A X.xe use Qf (.ref D) C (.ok .next) O) :
  wpAny (model X.prog X.w) X.A (comprehension (.ListComp elt [⟨tg,iter,ifs,0⟩] scope pos) scope X.env cpos (newList []) false (eval iter X.env) use) Qf X.xe s:=by
 have B:hU X M scope own:=hU.of hB;have P:closureFor scope X.env=pure (jO scope.names X.env.cells []):=jP λy hy hf=>by
  obtain⟨hv,hnl⟩:=B.free y hy hf;have hh:X.env.kindOf y.1=some .cell\/X.env.kindOf y.1=some .free:=by
   rcases hv with z|z|z
   ·exact absurd z hnl
   ·exact .inl z
   ·exact .inr z
  exact I.ok.has y.1 hh
 refine wpAny_comprehension_free (use:=use) rfl hs P B.kind B.names (thn (hi pins s σ H _ I h) λv s1 h1=>thn h1 λitv s2 h2=>?_);obtain⟨it,fp,tn,J,H2,e,R,T,S,f2,hD⟩:=h2;subst e;have U:∀b∈fp,b<s2.heap.objs.size:=λb k=>by obtain⟨o,q,_⟩:=T.obj _ _ S b k;exact B4 q
 obtain⟨W,⟨m0,w0⟩,turn⟩:=hD s2.heap.objs.size (R.hok.fresh (B5 _));refine wpAny_newObj_type (wpAny_newFunctionEnv B.nocell (by intro y hy;simp at hy) (λl j f=>?_) B.kind);dsimp only at j f ⊢;generalize hG:s2.heap.push { cls:=.type "list",dict:=none,data:=.seq ([]:List Value).toArray }=G at j f ⊢;have hC:G.objs.size=s2.heap.objs.size+1:=by rw[<-hG,Heap.size_push]
 have hk:∀b o,s2.heap.get? b=some o->l.get? b=some o:=λb o e=>f.extBut b o (by rw[hC];exact B9 (C8 (B4 e))) (B0 _ (hG▸B0 _ e))
 have hDC:s2.heap.objs.size≠G.objs.size:=by rw[hC];exact B9 (Nat.lt_succ_self _)
 have hl:l.get? s2.heap.objs.size=some { cls:=.type "list",data:=.seq ([]:List Value).toArray 0 }:=f.extBut _ _ hDC (B0 _ (hG▸Br _ rfl));have hns:l.Ns G.objs.size (λ_=>none):=by
  have e:(λx=>([]:List (Str×Value)).reverse.lookup x)=λ_=>none:=by funext x;rfl
  rw[<-e];exact j
 have I3:=λt'=>R.blk (t':=t') (C:=G.objs.size) (D:=s2.heap.objs.size) B f2 U rfl hC hl hns hk
 have t:∀{H':Hp},(∀b∈fp,H' b=none)->∀b∈fp,j8 (blk X M scope own G.objs.size s2 H2 fp) [] H' b:=λhn b k=>by
  refine⟨hn b k,?_,?_,.inl k,λx c e z=>?_,λp hp=>absurd (show p∈([]:List (Addr×Obj))++[] from hp) (by simp)⟩
  ·show b≠G.objs.size;rw[hC];exact B9 (C8 (U b k))
  ·exact (I3 0).ok.exfs b k
  ·exact ((I3 0).ok.exf b k).2 x c e z
 have loop:∀s3:Shared,(∃t',s3={ s2 with heap:=l,toks:=t' })->codeAny (model X.prog X.w) X.A (.compLoop (.ListComp elt [⟨tg,iter,ifs,0⟩] scope pos) 0 (.ref it) (.ref s2.heap.objs.size) (compEnvC scope (jO scope.names X.env.cells []) G.objs.size X.env))
   (compPost (model X.prog X.w) X.A X.xe use Qf (.ref s2.heap.objs.size) G.objs.size) s3:=by
  rintro s3 ⟨t',rfl⟩
  refine mD (λn s'=>∃i ys K H',K.length=own.length/\Inv (blk X M scope own G.objs.size s2 H2 fp) [] (σ++K) H' s'/\tn i s'.heap/\(∀b∈fp,H' b=none)/\W i n ys H') ?_ m0
   ⟨0,[],_,_,by simp,I3 t',T.keep _ _ _ S λb k o e=>hk b o e,λb k=>by rw[aN (B9 (U b k))];exact (f2 b k).1,w0⟩
  rintro n s4 ⟨i,ys,K,L,hl',I4,st4,fr4,w4⟩
  obtain⟨hDl,alt⟩:=turn i n ys L w4;rcases alt with⟨stop,qn⟩|⟨go,step⟩
  ·refine thn (T.done (blk X M scope own G.objs.size s2 H2 fp) rfl rfl rfl hc i [] s4 _ L _ I4 (t fr4) st4 stop) λr O a=>?_
   obtain⟨hr,I5⟩:=a;subst hr;obtain⟨m,hn,_⟩:=I5.loc;have cS:s2.heap.objs.size<=G.objs.size:=by rw[hC];exact CD _
   refine fin G.objs.size s2.heap.objs.size O L (λh' hs'=>R.unblk (C:=G.objs.size) f2 cS I5 hs') ⟨m,hn⟩ I5.free ?_ (λx c e=>?_) (λp hp=>?_) (BS R.sz cS) qn
   ·obtain⟨_,hl0,_⟩:=R.loc;exact Cf (B6 hl0.lt cS)
   ·obtain⟨_,q⟩:=R.cell x c e;exact B9 (B6 q.lt cS)
   ·exact B9 (B6 (B4 (R.pin p hp).1) cS)
  ·refine thn (T.item (blk X M scope own G.objs.size s2 H2 fp) rfl rfl rfl hc i [] s4 _ L _ I4 (t fr4) st4 go) λr O a=>?_
   obtain⟨u,hr,h5⟩:=a;subst hr;refine thn h5 λ_ s6 a=>?_
   obtain⟨x,H6,I6,r6,y6,Y,fr6⟩:=a;have I6':=I6.pinned (t fr6) (T.obj _ _ Y);have kp:∀{E:St} {H7:Hp} {s7:Shared},Inv (blk X M scope own G.objs.size s2 H2 fp) ([]++ku fp s6.heap) E H7 s7->tn (i+1) s7.heap/\∀b∈fp,H7 b=none:=λ{E H7 s7} I7=>by refine⟨T.keep _ _ _ Y λb k o e=>(I7.pin (b,o) (Bv _ (Bv _ (gr k e)))).1,λb k=>?_⟩;obtain⟨o,e,d⟩:=T.obj _ _ Y b k;exact (I7.pin (b,o) (Bv _ (Bv _ (gr k e)))).2.1
   refine thn (hg _ _ _ _ _ s6 _ H6 x u _ I6' r6 (step x H6 K hl' y6)) λ_ s7 a=>?_
   obtain⟨E,H7,I7,q7⟩:=a;refine thn ((ht _ _ _ _).run I7 q7) λok s8 a=>?_
   obtain⟨H8,I8,q8⟩:=a;cases ok with
   |false =>
    obtain⟨⟨F,e,Z⟩,m',hm,w8⟩:=(show if false=true then _ else _ from q8)
    subst e;obtain⟨k1,k2⟩:=kp I8;exact⟨m',hm,i+1,ys,F,H8,Z,I8.unpinned,k1,k2,w8⟩
   |true =>
    have q8:te E H8 _:=q8;refine thn (he _ _ _ _ _ s8 E H8 _ I8 q8) λy s9 a=>?_
    obtain⟨v,H9,I9,r9,d9,z9,⟨F,e,Z⟩,m',hm,w9⟩:=a;subst e;refine thn (jo (X:=blk X M scope own G.objs.size s2 H2 fp) _ s9 _ H9 (.ref s2.heap.objs.size) [v] (.ref s2.heap.objs.size) [y] (λ_ H'=>H'=upd H9 s2.heap.objs.size (.lst (ys++[v]))) I9 rfl (.cons r9 .nil) ⟨_,ys,v,rfl,rfl,d9,z9,rfl⟩) λ_ s10 a=>?_
    obtain⟨_,H10,I10,_,e10⟩:=a;subst e10;obtain⟨k1,k2⟩:=kp I10;exact⟨m',hm,i+1,ys++[v],F,_,Z,I10.unpinned,k1,k2,w9⟩
 exact codeAny_compStart_list (loop _ ⟨_,rfl⟩) (T.self _ 0 _ _ _ (T.keep _ _ _ S λb k o e=>hk b o e) (loop _ ⟨_,rfl⟩))
theorem tm {c:TI} {tt:TT} {te:TE} (hc:X.calm=true) (hi:PI X tg iter c)
  (e:∀C s2 H2 fp,PG (blk X M scope own C s2 H2 fp) tg g) (f:∀C s2 H2 fp,PTs (blk X M scope own C s2 H2 fp) ifs tt) (i:∀C s2 H2 fp,PE (blk X M scope own C s2 H2 fp) elt te)
  (hB:lX X.N M X.env.scope scope own=true:=by rfl) (j:∀x,foldedSetIterable iter X.env x=pure x:=by intro _;rfl):PE X (.ListComp elt [⟨tg,iter,ifs,0⟩] scope pos) (tLC own.length c g tt te):=by
 intro pins s σ H Q I h;rw[eval_ListComp];refine kg hc hi e f i hB j I h λC D s5 l k a _ _ _ _ _ q=>?_
 obtain⟨m,hn⟩:=a;exact⟨m,hn,λh' b=>⟨.ref D,l,k h' b,rfl,q⟩⟩
theorem sW {spos:Pos} {A:TI} {tt:TT} {te:TE} (hc:X.calm=true) (L:X.N.Nodup) (j:X.N[i]?=some x) (O:Loc X.env.scope x)
  (l:swapsWith (.ListComp elt [⟨tg,iter,ifs,0⟩] scope pos) (some (.Name x pos')) spos.line X.env=pure true) (hi:PI X tg iter A)
  (P:∀C s2 H2 fp,PG (blk X M scope own C s2 H2 fp) tg g) (Q:∀C s2 H2 fp,PTs (blk X M scope own C s2 H2 fp) ifs tt) (R:∀C s2 H2 fp,PE (blk X M scope own C s2 H2 fp) elt te)
  (hB:lX X.N M X.env.scope scope own=true:=by rfl) (S:∀x,foldedSetIterable iter X.env x=pure x:=by intro _;rfl) (T:X.fn x=true\/X.env.scope.names.lookup x=some .local:=by first|exact .inl rfl|exact .inr rfl|assumption) :
  PS X (.Assign [.Name x pos'] (.ListComp elt [⟨tg,iter,ifs,0⟩] scope pos) spos) (uZ (tLC own.length A g tt te) (i8 i)):=by
 intro pins s σ H D I h;show wpAny _ _ (exec _ X.env) _ _ s;rw[exec_Assign_Name_used _ _ _ _ l];refine wpAny_bind (wpAny_standAt (wpAny_bind ?_));rw[arm_evalThenUse_ListComp];refine wpAny_bind (thn (kg (use:=some (assign (.Name x pos') X.env)) (Qf:=λ_ s'=>SP X pins D .next s') hc hi P Q R hB S I h λC B E U k p F G J W ns q=>?_) λ_ s' Y=>wpAny_pure (wpAny_pure Y));obtain⟨m,hn⟩:=p;have Z:=k E.heap (Heap.SameBut.refl _ _);show wpAny _ _ (assign (.Name x pos') X.env (.ref B)) _ _ E;refine wpAny_assign_Name (lM (v:=.ref B) Z L j O rfl (λK r t=>?_) T);obtain⟨a,sb,ha⟩:=t;have u:C≠a:=by
  rcases ha with rfl|ha
  ·exact G
  ·exact λz=>J x a ha z.symm
 refine⟨m,hn.sameBut sb u,λh' w=>⟨_,U,?_,q⟩⟩;have f:∀b o,b≠C->K.heap.get? b=some o->h'.get? b=some o:=λb o y e=>(w.2 b y).trans e
 refine r.call' (s':={ K with heap:=h' }) (ch:=[C]) rfl ?_ ?_ r.bare λb y=>?_
 ·refine⟨λb o e _ _ z=>f b o (λq=>z (by rw[q];exact B7.mpr rfl)) e,λb o e _ _ z=>⟨o.slots,f b o (λq=>z (by rw[q];exact B7.mpr rfl)) e⟩,λ_ _ _ n _=>n,λb o e z=>⟨o,f b o (λq=>z (by rw[q];exact B7.mpr rfl)) e⟩,λ_ _ q=>q,λ_ _ _ q=>q,λ_ _ q=>q⟩
 ·intro b o e;refine (r.hok b o e).stay (λc v hc q=>f c v ?_ q) (λ_ q=>q) λ_ _ q=>q
  rintro rfl
  rcases hc with z|z
  ·subst z;rw[F]at e;cases e
  ·rw[F]at z;cases z
 ·rw[B7.mp y];exact⟨.inr ns,λz=>G z,J,W⟩
mutual
def IsD (K:PySem.W.Frag) (H:Hp):PyData->V->Prop
 |.none,v=>v=.non
 |.bool b,v=>v=.bl b
 |.int i,v=>v=.int i
 |.str x,v=>v=.str x
 |.list ds,v=>∃a xs,v=.ref a/\SqL K H a xs/\dF K H ds xs
 |.tuple ds,v=>∃a xs,v=.ref a/\SqT K H a xs/\dF K H ds xs
 |.dict _,_=>False
def dF (K:PySem.W.Frag) (H:Hp):List PyData->List V->Prop
 |[],vs=>vs=[]
 |d::ds,vs=>∃v r,vs=v::r/\IsD K H d v/\dF K H ds r
end
theorem aw.tupS (e:aw H H') (h:SqT K H a xs):SqT K H' a xs:=by
 rcases h with (h|⟨o,h⟩)|h
 ·exact .inl (.inl (e _ _ h))
 ·exact .inl (.inr ⟨o,e _ _ h⟩)
 ·exact .inr h
mutual
theorem IsD.same {K:PySem.W.Frag} {H H':Hp} (e:aw H H'):∀{d:PyData} {v:V},IsD K H d v->IsD K H' d v
 |.none,_,h=>by unfold IsD at h ⊢;exact h
 |.bool _,_,h=>by unfold IsD at h ⊢;exact h
 |.int _,_,h=>by unfold IsD at h ⊢;exact h
 |.str _,_,h=>by unfold IsD at h ⊢;exact h
 |.list ds,_,h=>by unfold IsD at h ⊢;obtain⟨a,xs,e1,h1,h2⟩:=h;exact⟨a,xs,e1,e.seq h1,dF.same e h2⟩
 |.tuple ds,_,h=>by unfold IsD at h ⊢;obtain⟨a,xs,e1,h1,h2⟩:=h;exact⟨a,xs,e1,e.tupS h1,dF.same e h2⟩
 |.dict _,_,h=>by unfold IsD at h;exact h.elim
theorem dF.same {K:PySem.W.Frag} {H H':Hp} (e:aw H H'):∀{ds:List PyData} {vs:List V},dF K H ds vs->dF K H' ds vs
 |[],_,h=>by unfold dF at h ⊢;exact h
 |d::ds,_,h=>by unfold dF at h ⊢;obtain⟨v,r,e1,h1,h2⟩:=h;exact⟨v,r,e1,IsD.same e h1,dF.same e h2⟩
end
section
theorem mK {i:Int}:IsD K H (.int i) (.int i):=by unfold IsD;rfl
theorem um {b:Bool}:IsD K H (.bool b) (.bl b):=by unfold IsD;rfl
theorem uc:IsD K H .none .non:=by unfold IsD;rfl
theorem vj:IsD K H (.str x) (.str x):=by unfold IsD;rfl
theorem uA (h:SqT K H a xs) (h2:dF K H ds xs):IsD K H (.tuple ds) (.ref a):=by unfold IsD;exact⟨a,xs,rfl,h,h2⟩
theorem mr (h:SqL K H a xs) (h2:dF K H ds xs):IsD K H (.list ds) (.ref a):=by unfold IsD;exact⟨a,xs,rfl,h,h2⟩
theorem kH:dF K H [] []:=by unfold dF;rfl
theorem lA {d:PyData} (h:IsD K H d v) (h2:dF K H ds vs):dF K H (d::ds) (v::vs):=by unfold dF;exact⟨v,vs,rfl,h,h2⟩
theorem IsD.ofInt {i:Int} (h:IsD K H (.int i) v):v=.int i:=by unfold IsD at h;exact h
theorem IsD.ofBool {i:Bool} (h:IsD K H (.bool i) v):v=.bl i:=by unfold IsD at h;exact h
theorem IsD.ofNone (h:IsD K H .none v):v=.non:=by unfold IsD at h;exact h
theorem IsD.ofStr (h:IsD K H (.str x) v):v=.str x:=by unfold IsD at h;exact h
theorem IsD.ofTup (h:IsD K H (.tuple ds) v):∃a xs,v=.ref a/\SqT K H a xs/\dF K H ds xs:=by unfold IsD at h;exact h
theorem IsD.ofLst (h:IsD K H (.list ds) v):∃a xs,v=.ref a/\SqL K H a xs/\dF K H ds xs:=by unfold IsD at h;exact h
theorem dF.nil_of (h:dF K H [] vs):vs=[]:=by unfold dF at h;exact h
theorem dF.cons_of {d:PyData} (h:dF K H (d::ds) vs):∃v r,vs=v::r/\IsD K H d v/\dF K H ds r:=by unfold dF at h;exact h
theorem lT:∀(ns:List Int),dF K H (ns.map PyData.int) (ns.map V.int)
 |[]=>kH
 |_::r=>lA mK (lT r)
end
section
mutual
theorem Inv.reads (I:Inv X pins σ H s):∀{d:PyData} {v:V} {u:Value},IsD X.K H d v->RelV v u->∃as,Reads s.heap u d as
 |.none,_,_,h,r=>by rw[h.ofNone]at r;cases r;exact⟨_,.none⟩
 |.bool _,_,_,h,r=>by rw[h.ofBool]at r;cases r;exact⟨_,.bool _⟩
 |.int _,_,_,h,r=>by rw[h.ofInt]at r;obtain⟨t,rfl⟩:=r;exact⟨_,.int _ _⟩
 |.str _,_,_,h,r=>by rw[h.ofStr]at r;obtain⟨t,rfl⟩:=r;exact⟨_,.str _ _⟩
 |.list ds,_,_,h,r=>by obtain⟨a,xs,e,h1,h2⟩:=h.ofLst;subst e;cases r;obtain⟨b,f,⟨o,n,g,c,_,d⟩,_⟩:=I.list h1;obtain⟨as,i⟩:=Inv.readsAll I h2 f;exact⟨_,.list g c d (by simpa using i)⟩
 |.tuple ds,_,_,h,r=>by obtain⟨a,xs,e,h1,h2⟩:=h.ofTup;subst e;cases r;obtain⟨b,f,⟨o,g,c,n,d⟩,_⟩:=I.tuple h1;obtain⟨as,i⟩:=Inv.readsAll I h2 f;exact⟨_,.tuple g c d (by simpa using i)⟩
 |.dict _,_,_,h,_=>by unfold IsD at h;exact h.elim
theorem Inv.readsAll (I:Inv X pins σ H s):∀{ds:List PyData} {vs:List V} {us:List Value},dF X.K H ds vs->Vals vs us->∃as,ReadsAll s.heap us ds as
 |[],_,_,h,r=>by rw[h.nil_of]at r;cases r;exact⟨_,.nil⟩
 |d::ds,_,_,h,r=>by
  obtain⟨v,t,e,h1,h2⟩:=h.cons_of;subst e;cases r with
  |cons r1 r2 =>obtain⟨as,a⟩:=Inv.reads I h1 r1;obtain⟨bs,b⟩:=Inv.readsAll I h2 r2;exact⟨_,.cons a b⟩
end
open PySem.SeqAt in
theorem pC (a:X.A.units+64<cLine):OpR X (compareOp .Eq) (λx y H Q=>∃d e,IsD X.K H d x/\IsD X.K H e y/\shaped d=true/\shaped e=true/\Q (.bl (PyData.eqv d e)) H):=by intro pins s σ H x y v u Q I b c h;obtain⟨d,e,hd,f,g,i,q⟩:=h;obtain⟨as,j⟩:=I.reads hd b;obtain⟨bs,k⟩:=I.reads f c;exact eq_dataH j k g i a ⟨.bl _,H,I,rfl,q⟩
open PySem.SeqAt in
theorem yr (a:X.A.units+64<cLine):OpR X (compareOp .NotEq) (λx y H Q=>∃d e,IsD X.K H d x/\IsD X.K H e y/\shaped d=true/\shaped e=true/\Q (.bl (!PyData.eqv d e)) H):=by intro pins s σ H x y v u Q I b c h;obtain⟨d,e,hd,f,g,i,q⟩:=h;obtain⟨as,j⟩:=I.reads hd b;obtain⟨bs,k⟩:=I.reads f c;exact ne_dataH j k g i a ⟨.bl _,H,I,rfl,q⟩
noncomputable def tyD:PyData->String
 |.none=>"NoneType"
 |.bool _=>"bool"
 |.int _=>"int"
 |.str _=>"str"
 |.list _=>"list"
 |.tuple _=>"tuple"
 |.dict _=>"dict"
def mF (d:PyData) (T:String):Bool:=tyD d==T||(T=="int"&&tyD d=="bool")
theorem uD (K:PySem.W.Frag) {a T:String} (ha:a∈["NoneType", "bool", "int", "str", "list", "tuple"]) (b:T∈["bool", "int", "list", "tuple"]) :
  PySem.W.kitOne K (.type a) (.type T)=some (a==T||(T=="int"&&a=="bool")):=by
 simp only[B8,Bq,or_false]at ha b;rcases ha with rfl|rfl|rfl|rfl|rfl|rfl <;> rcases b with rfl|rfl|rfl|rfl <;> rfl
theorem u5 {d:PyData} (h:IsD K H d v):tyD d∈["NoneType", "bool", "int", "str", "list", "tuple"]:=by
 cases d with
 |dict _=>unfold IsD at h;exact h.elim
 |_=>simp[tyD]
theorem nE:gJ X (.builtin "isinstance") (λxs H Q=>∃d v T,xs=[v,.ty T]/\IsD X.K H d v/\T∈["bool", "int", "list", "tuple"]/\Q (.bl (mF d T)) H):=by
 intro pins s σ H xs us Q I r h;obtain⟨d,v,T,rfl,hd,k,q⟩:=h;obtain⟨u,c,rfl,f,l⟩:=vals2 r;cases l;have e:PySem.W.kitOne X.K (.type (tyD d)) (.type T)=some (mF d T):=uD X.K (u5 hd) k;have fin:∀tk,EP X pins σ Q (.bool (mF d T)) { s with toks:=tk }:=λtk=>⟨.bl _,H,I.tok tk,rfl,q⟩
 cases d with
 |none=>rw[hd.ofNone]at f;cases f;exact PySem.W.kia_one PySem.W.kitx_none I.kIn True.intro e (λz=>nomatch z) fin
 |bool b=>rw[hd.ofBool]at f;cases f;exact PySem.W.kia_one PySem.W.kitx_bool I.kIn True.intro e (λz=>nomatch z) fin
 |int i=>rw[hd.ofInt]at f;obtain⟨t,rfl⟩:=f;exact PySem.W.kia_one PySem.W.kitx_int I.kIn True.intro e (λz=>nomatch z) fin
 |str x=>rw[hd.ofStr]at f;obtain⟨t,rfl⟩:=f;exact PySem.W.kia_one PySem.W.kitx_str I.kIn True.intro e (λz=>nomatch z) fin
 |list ds =>obtain⟨a,xs,e1,h1,h2⟩:=hd.ofLst;subst e1;cases f;obtain⟨j,m,⟨o,n,g,c,_,_⟩,_⟩:=I.list h1;exact PySem.W.kia_one PySem.W.kitx_list I.kIn ⟨o,g,c⟩ e (λz=>nomatch z) fin
 |tuple ds =>obtain⟨a,xs,e1,h1,h2⟩:=hd.ofTup;subst e1;cases f;obtain⟨j,m,⟨o,g,c,n,_⟩,_⟩:=I.tuple h1;exact PySem.W.kia_one PySem.W.kitx_tuple I.kIn ⟨o,g,c⟩ e (λz=>nomatch z) fin
 |dict _=>unfold IsD at hd;exact hd.elim
theorem kO:∀{bs:List Bool} {us:List Value},Vals (bs.map V.bl) us->LSm.BoolsAre us bs
 |[],_,.nil=>.nil
 |b::r,_,.cons h t=>by cases (show _=Value.bool b from h);exact .cons b (kO t)
theorem tL (hc:X.calm=true):gJ X (.builtin "all") (λxs H Q=>∃(a:Addr) (bs:List Bool),xs=[.ref a]/\SqL X.K H a (bs.map V.bl)/\Q (.bl (bs.all id)) H):=by
 intro pins s σ H xs us Q I r h;obtain⟨a,bs,rfl,k,q⟩:=h;obtain⟨u,rfl,l⟩:=vals1 r;cases l;obtain⟨c,m,p,_⟩:=I.list k;have hl:=p.isList;have g:=kO m;have f:a<s.heap.objs.size:=by obtain⟨_,e,_⟩:=hl;exact B4 e
 refine call_all_walk (wpAny_pyIter_list hl ?_);refine⟨s.heap.objs.size,[s.heap.objs.size,a],[s.heap.objs.size],c.toArray.size,_,_,λi=>(bs[i]?).getD true,rfl,Walks.list (A:=X.A.in1) (I.ok.hd hc) _ a (B9 f) c.toArray,
  ⟨⟨_,Br _ rfl,rfl,rfl⟩,hl.push _⟩,λi v s' Q' E' n j=>?_,λh' tk o=>?_⟩
 ·obtain⟨b,e,rfl⟩:=g.get i v (by simpa using n);simp only[e,Option.getD_some]at j;exact wpAny_truthy_bool j
 ·have e:((List.range c.toArray.size).all λi=>(bs[i]?).getD true)=bs.all id:=by rw[B1,g.length];exact LSm.range_all bs
  rw[e];exact⟨.bl _,H,I.kept (LSm.kept_iter o),rfl,q⟩
end
structure qC (P:Program) (w:World) (outer:List Env) (H:Hp) (s:Shared) (H':Hp) (B:Heap) (ea:Addr) (cls a0:Value) (s':Shared):Prop where
 os:s'.os=s.os
 bare:AllBare s'.gens
 hok:HOk P w H' B
 keep:∀b o,s.heap.get? b=some o->H b=none->b∉frs outer->B.get? b=some o
 there:∀b o,s.heap.get? b=some o->b∉frs outer->∃o',B.get? b=some o'
 slot:∀b o,s.heap.get? b=some o->b∈frs outer->∃sl,s'.heap.get? b=some { o with slots:=sl }
 free:∀b o,s.heap.get? b=some o->H b=none->H' b=none
 tups:∀b xs,H b=some (.tup xs)->H' b=some (.tup xs)
 frzs:∀b o u,H b=some (.frz o u)->H' b=some (.frz o u)
 tbls:∀b q,H b=some (.tbl q)->H' b=some (.tbl q)
 fly:Heap.FlyingW B outer ea cls a0 s'.heap
def CXW (P:Program) (w:World):CXT:=λouter H s E e s'=>∃ea cls a0 H' B,e=.ref ea/\E cls none H'/\qC P w outer H s H' B ea cls a0 s'
theorem dC.get (x:dC P w H h a o):∃ob,h.get? a=some ob:=by
 cases o with
 |lst xs=>obtain⟨_,_,_,_,e⟩:=x;exact⟨_,e⟩
 |tup xs=>obtain⟨_,_,_,ob,e,_⟩:=x;exact⟨_,e⟩
 |dK kvs=>obtain⟨_,_,_,_,o,_,_,e,_⟩:=x;exact⟨_,e⟩
 |dT kvs=>obtain⟨_,_,_,_,o,_,_,e,_⟩:=x;exact⟨_,e⟩
 |set S n=>obtain⟨o,_,_,_,e,_⟩:=x;exact⟨_,e⟩
 |ins C dx fs=>obtain⟨_,_,_,e,_⟩:=x;exact⟨_,e⟩
 |own y=>exact x
 |xd fs=>obtain⟨_,⟨_,_,_,e,_⟩,_⟩:=x;exact⟨_,e⟩
 |rng lo hi=>obtain⟨_,_,_,e⟩:=x;exact⟨_,e⟩
 |frz ob u=>obtain⟨e,_⟩:=x;exact⟨_,e⟩
 |tbl q=>obtain⟨_,e,_⟩:=x;exact⟨_,e⟩
 |met f y=>exact⟨_,show h.get? a=some _ from x⟩
 |ext φ=>obtain⟨_,e,_⟩:=x;exact e
section
variable {f:Addr} {A:Around}
theorem i0 {L:Addr} (a:env.frame=some L):frs (env::outer)=L::frs outer:=by unfold frs;rw[Cc,a]
theorem nO {CX:CXT} {g:Shared} {vs:List Value}
  (I:Inv (fP (CXW P w) P w K mg base N qual scope f cd A outer s H E) pins σ H1 g) (m:Heap.MadeExcOf g.heap h' ea cls vs) (p:E cls none H1) :
  (fP (CXW P w) P w K mg base N qual scope f cd A outer s H E).xe (.ref ea) { g with heap:=h' }:=by
 have i:=I.stack;have j:frs (fP (CXW P w) P w K mg base N qual scope f cd A outer s H E).stack=s.heap.objs.size::frs outer:=i0 rfl;have k:∀env∈(fP (CXW P w) P w K mg base N qual scope f cd A outer s H E).stack,∀b,env.frame=some b->b∈frs (fP (CXW P w) P w K mg base N qual scope f cd A outer s H E).stack:=λenv r b c=>CA.mpr ⟨env,r,c⟩
 have out:∀b o,s.heap.get? b=some o->b∉frs outer->b∉frs (fP (CXW P w) P w K mg base N qual scope f cd A outer s H E).stack:=λb o e n z=>by
  rw[j]at z;rcases B8.mp z with z|z
  ·rw[z]at e;exact absurd (B4 e) (C1 _)
  ·exact n z
 refine wpAny_leaves_madeW (base:=PySem.W.hideAll g.heap (frs (fP (CXW P w) P w K mg base N qual scope f cd A outer s H E).stack)) I.ok.frames rfl (λb o q=>PySem.W.of_hideAll _ q) (PySem.W.funFrames_hide i k) m λh2 t v x2 x3 x=>?_
 refine⟨ea,cls,.ref t,H1,_,rfl,p,⟨I.os,I.bare,?_,?_,?_,?_,?_,I.base.tups,I.base.frzs,I.base.tbls,v⟩⟩
 ·intro a o e;refine (I.hok a o e).stay (λb u c q=>PySem.W.hideAll_get _ q λz=>?_) (λ_ q=>q) λ_ _ q=>q
  have:=I.stkFree b z;rcases c with c|c
  ·rw[c,e]at this;cases this
  ·rw[c]at this;cases this
 ·intro b o e n c;exact PySem.W.hideAll_get _ (I.base.keep b o e n c (Bq)) (out b o e c)
 ·intro b o e c;obtain⟨o',q⟩:=I.base.there b o e (Bq);exact⟨o',PySem.W.hideAll_get _ q (out b o e c)⟩
 ·intro b o e c;obtain⟨sl,q⟩:=I.base.slot b o e (I.ok.frf b c) c (Bq);obtain⟨_,y,h,d2⟩:=I.ok.funs.mem c;have h:s.heap.get? b=some y:=h;rw[e]at h;cases h;obtain⟨l,B⟩:=x b _ (m.keeps b _ q) d2;exact⟨l,B⟩
 ·intro b o e n;exact I.base.free b o e n (Bq)
theorem vc:Passes (CXW P w) (fP (CXW P w) P w K mg base N qual scope f cd A outer s H E) E:=by
 intro pins σ H1 s1 e s2 I hc;obtain⟨ea,cls,a0,H2,B,rfl,i,F⟩:=hc;have c:frs (fP (CXW P w) P w K mg base N qual scope f cd A outer s H E).stack=s.heap.objs.size::frs outer:=i0 rfl;have out:∀b o,s.heap.get? b=some o->b∉frs outer->b∉frs (fP (CXW P w) P w K mg base N qual scope f cd A outer s H E).stack:=λb o e n z=>by
  rw[c]at z;rcases B8.mp z with z|z
  ·rw[z]at e;exact absurd (B4 e) (C1 _)
  ·exact n z
 refine wpAny_leaves_onW I.ok.frames rfl F.fly λh2 j k=>⟨ea,cls,a0,H2,B,rfl,i,⟨F.os.trans I.os,F.bare,F.hok,?_,?_,?_,?_,?_,?_,?_,j⟩⟩
 ·intro b o e n a;exact F.keep b o (I.base.keep b o e n a (Bq)) (I.base.free b o e n (Bq)) (out b o e a)
 ·intro b o e a;obtain⟨o',q⟩:=I.base.there b o e (Bq);exact F.there b o' q (out b o e a)
 ·intro b o e a;obtain⟨sl,q⟩:=I.base.slot b o e (I.ok.frf b a) a (Bq);obtain⟨_,l,g,d2⟩:=I.ok.funs.mem a;have g:s.heap.get? b=some l:=g;rw[e]at g;cases g;obtain⟨sl1,m⟩:=F.slot b _ q (by rw[c];exact Bu _ a);obtain⟨h,p⟩:=k b _ m d2;exact⟨h,p⟩
 ·intro b o e n;obtain⟨o',q⟩:=I.base.there b o e (Bq);exact F.free b o' q (I.base.free b o e n (Bq))
 ·intro b xs e;exact F.tups b xs (I.base.tups b xs e)
 ·intro b o u e;exact F.frzs b o u (I.base.frzs b o u e)
 ·intro b ps e;exact F.tbls b ps (I.base.tbls b ps e)
end
theorem pL {a:List Value} (X:K.In h) (q:PySem.W.excIn K C a newId=true) :
  ∃bm N nm p bs hdct sn sub ab col dd k0 k1 k2 k3 k5 mN,h.get? C=some (excClassObj nm p C N bs bm hdct sn sub ab col dd k0 k1 k2 k3 k5 newId)/\h.Ns N mN/\mN "__init__"=none/\OwnTail h a bm:=by
 unfold PySem.W.excIn at q;split at q
 ·rename_i d1 r l1 g1;split at q
  ·rename_i C2 b g i j k n2 m hm s;simp only[Bs,beq_iff_eq,Bool.not_eq_true']at q;obtain⟨⟨⟨⟨⟨t,u⟩,n⟩,v⟩,c⟩,o⟩:=q;subst t;subst u;obtain⟨z1,z2,z3,z4,z5,z6,z7,z8,w,e,z11⟩:=r;dsimp only at hm n c o;subst hm;subst n;have hl:l1=#[g,i,j,k,some (.builtin n2),m]:=by obtain⟨l⟩:=l1;have f:l=_:=s;rw[f]
   subst hl;exact⟨b,z4,z1,z5,z2,z6,z7,z8,w,e,d1,g,i,j,k,m,_,X _ _ g1,.of_isNs (PySem.W.isNs_of_in X c),PySem.W.nsMap_none_of_in X c o,PySem.W.tail_of_in X v⟩
  ·cases q
 ·cases q
def oQ (X:Cx) (E:XK):Prop:=∀(pins:List (Addr×Obj)) (σ:St) (H:Hp) (s:Shared) (h':Heap) (ea:Addr) (cls:Value) (vs:List Value),Inv X pins σ H s->Heap.MadeExcOf s.heap h' ea cls vs->E cls none H->X.xe (.ref ea) { s with heap:=h' }
def xm (C:Addr) (E:XK) (t:TA):TS:=λ_ σ H=>t σ H λvs H1=>vs.length<=sizeLine/\E (.ref C) none H1
theorem ua {B a:String} {l:Pos} {t:TA} (hc:X.calm=true) (M:oQ X E) (FB:ExcBaseFacts B newId a bm) (m:Gl X x) (hm:X.mg x=some (.ref C)) (n:PySem.W.excIn X.K C bm newId=true)
  (ha:PA X (e::es) t) (c:(x==("__debug__":Str))=false:=by decide) (j:starEach (e::es) X.env=(false,eval e X.env)::starEach es X.env:=by rfl) (f:(backTo cpos (starEach es X.env)).any (·.1)=false:=by rfl) :
  PS X (.Raise (some (.Call (.Name x l) (e::es) [] cpos)) none pos) (xm C E t):=by
 intro pins s σ H D I h;obtain⟨tl,N,nm,q,bs,hdct,sn,sub,ab,col,dd,k0,k1,k2,k3,k5,mN,g,o,i,T⟩:=pL I.mod.kin n;refine wpAny_Raise_call_subT (C:=C) (nm:=nm) (q:=q) (N:=N) (bs:=bs) (bm:=tl) (hdct:=hdct) (sn:=sn) (sub:=sub) (ab:=ab) (col:=col) (dd:=dd) (k0:=k0) (k1:=k1) (k2:=k2) (k3:=k3) (k5:=k5)
  FB (mN:=mN) (T.hasType FB.hasBase) (I.ok.hd hc) (by rw[j];show (false||(backTo cpos (starEach es X.env)).any (·.1))=false;rw[f];rfl) i (i5 I m hm ⟨rfl,?_⟩ c)
 have k:=ha cpos pins s σ H _ I h;rw[j]at k ⊢;refine Calls.evalArgs_plain (wpAny_mono k (λus s2 h2=>?_) λ_ _ y=>y);obtain⟨vs,H2,b,p,z,r⟩:=h2;exact⟨rfl,by rw[<-p.length];exact z,b.bk _ _ g,o.keeps b.bk,T.keeps b.bk,λh' ea u=>M pins σ H2 s2 h' ea _ _ b u r⟩
def XP (X:Cx) (pins:List (Addr×Obj)) (σ:St) (a:XK) (b:Value) (s':Shared):Prop:=∃H s,Inv X pins σ H s/\CXW X.prog X.w X.stack H s a b s'
abbrev TX:=St->Hp->VK->XK->Prop
def PEX (X:Cx) (e:Expr) (t:TX):Prop :=
 ∀(pins:List (Addr×Obj)) (s:Shared) (σ:St) (H:Hp) (Q:VK) (a:XK),Inv X pins σ H s->t σ H Q a->wpAny (model X.prog X.w) X.A (eval e X.env) (EP X pins σ Q) (XP X pins σ a) s
def zH (sp:Sp) (dvs:List V) (t:TA):TX:=λσ H Q a=>t σ H λvs H1=>sp (vs++dvs) H1 Q a
theorem rY {f:Addr} {dvs:List V} {ds:List Value} {t:TA}
  (F:fJ X.prog X.w X.K X.mg X.base (CXW X.prog X.w) k f fd ps sp) (l:dG k X.A) (m:Gl X x) (hm:X.mg x=some (.ref f)) (n:PySem.W.keepIn X.K (.ref f)=true) (o:Binds X.K fd ps ds) (hd:Vals dvs ds)
  (ha:PA X.nox (e::es) t) (c:(x==("__debug__":Str))=false:=by decide) (v:starEach (e::es) X.env=(false,eval e X.env)::starEach es X.env:=by rfl) (g:(backTo pos (starEach es X.env)).any (·.1)=false:=by rfl) :
  PEX X (.Call (.Name x p) (e::es) [] pos) (zH sp dvs t):=by
 intro pins s σ H Q y I h;refine wpAny_Call_Name_kw (i5 I m hm ?_ c);have B:=ha pos pins s σ H _ (I.wish _) h;refine PySem.W.callWith_K (h₀:=X.base) I.ok.mod.kin n (wpAny_mono B (λus i h1=>?_) λ_ _ z=>z.elim) v g;obtain⟨vs,H1,a,r,q⟩:=h1;have a:=a.unwish;refine⟨a.kIn,?_⟩;have j:Vals (vs++dvs) (us++ds):=r.append hd;have hl:(us++ds).length=ps.length:=by rw[<-j.length];exact F.len _ _ _ _ q
 refine wpAny_call (codeAny_mono (F.run X.A X.stack i H1 ⟨us,[]⟩ (us++ds) (vs++dvs) Q y l a.env0 (o i us a.kIn hl) j q) λr s' b=>?_);cases r with
 |error ev=>exact⟨H1,i,a,b⟩
 |ok fl =>
  cases fl with
  |ret u=>exact a.after b
  |next=>exact False.elim b
  |brk=>exact False.elim b
  |cont=>exact False.elim b
def sui (X:Cx) (ea:Addr) (oe:Obj):Cx:={ X with A:=X.A.mark (some (.ref ea)),calm:=false,pn:=X.pn++[(ea,oe)],xe:=λ_ _=>False }
theorem Inv.sui (I:Inv X pins σ H s)
  (h:s.heap.get? ea=some oe/\H ea=none/\ea≠X.env.locals/\ea∉X.fs/\∀v,oe.data≠.cell v):Inv (L2.sui X ea oe) pins σ H s :=
 ⟨⟨I.ok.mod,I.ok.kind,I.ok.glob,I.ok.blt,I.ok.above,I.ok.inj,I.ok.has,I.ok.cab,(λz=>nomatch z),I.ok.frames,I.ok.stk,I.ok.exf,I.ok.bs,I.ok.bsz,I.ok.noex,I.ok.exfs,I.ok.funs,I.ok.frf⟩,
  I.os,I.bare,I.base,I.loc,I.cell,I.free,I.freeC,λp a=>by
   rcases BA.mp a with a|a
   ·rcases BA.mp (show p∈X.pn++[(ea,oe)] from a) with a|a
    ·exact I.pin p (BE _ a)
    ·cases B7.mp a;exact h
   ·exact I.pin p (Bv _ a),I.hok,I.len,I.tab⟩
theorem Inv.unsui (ok:X.Ok) (I:Inv (L2.sui X ea oe) pins σ H s):Inv X pins σ H s :=
 ⟨ok,I.os,I.bare,I.base,I.loc,I.cell,I.free,I.freeC,λp a=>by
  rcases BA.mp a with a|a
  ·exact I.pin p (BE _ (BE _ a))
  ·exact I.pin p (Bv _ a),I.hok,I.len,I.tab⟩
theorem Inv.forget {a:Str->Option Value} {t':Nat} (I:Inv X pins σ H s) (hn:h'.Ns X.env.locals a) (f:Heap.SameBut X.env.locals s.heap h') :
  Inv X pins (List.replicate X.N.length none) H { s with heap:=h',toks:=t' }:=by
 have k:∀b o,b≠X.env.locals->s.heap.get? b=some o->h'.get? b=some o:=λb o g e=>(f.2 b g).trans e
 have old:∀b o,X.s₀.heap.get? b=some o->b≠X.env.locals:=λb o e=>B9 (B6 (B4 e) I.ok.above)
 refine⟨I.ok,I.os,I.bare,⟨λb o e n h1 h2=>k b o (old b o e) (I.base.keep b o e n h1 h2),λb o e n h1 h2=>?_,I.base.free,λb o e h1=>?_,I.base.tups,I.base.frzs,I.base.tbls⟩,⟨a,hn,λi x v _ e2 _=>?_⟩,λx c e=>?_,I.free,I.freeC,λp h=>?_,λb o e=>?_,by simp,I.tab⟩
 ·obtain⟨j,q⟩:=I.base.slot b o e n h1 h2;exact⟨j,k b _ (old b o e) q⟩
 ·obtain⟨o',q⟩:=I.base.there b o e h1;exact⟨o',k b o' (old b o e) q⟩
 ·rw[C4]at e2;split at e2 <;> cases e2
 ·obtain⟨v,q⟩:=I.cell x c e;exact⟨v,q.sameBut f (I.cne x c e)⟩
 ·obtain⟨e,n,ne,l,d⟩:=I.pin p h;exact⟨k p.1 p.2 ne e,n,ne,l,d⟩
 ·refine (I.hok b o e).stay (λc v hc q=>k c v ?_ q) (λ_ q=>q) λ_ _ q=>q
  rintro rfl
  rcases hc with z|z
  ·subst z;rw[I.free]at e;cases e
  ·rw[I.free]at z;cases z
theorem qC.inv {g:Heap} (I:Inv X pins σ H s) (F:qC X.prog X.w X.stack H s H' B ea cls a0 s') (hB:B.StaysIn g) (i:s'.heap.UpToSlots g) :
  Inv X pins σ H' { s' with heap:=g }:=by
 refine I.call' (s':={ s' with heap:=g }) (ch:=[]) F.os ⟨λb o e n h1 _=>hB b o (F.keep b o e n h1),λb o e n h1 _=>?_,λb o e n _=>F.free b o e n,λb o e _=>?_,F.tups,F.frzs,F.tbls⟩ (F.hok.kept hB) F.bare (λb a=>absurd a (Bq))
 ·obtain⟨j,q⟩:=F.slot b o e h1;obtain⟨_,k,c,d2⟩:=I.stack.mem h1;rw[e]at c;cases c;obtain⟨f,h⟩:=i b _ q d2;exact⟨f,h⟩
 ·by_cases a:b∈frs X.stack
  ·obtain⟨j,q⟩:=F.slot b o e a;obtain⟨_,k,c,d2⟩:=I.stack.mem a;rw[e]at c;cases c;obtain⟨f,h⟩:=i b _ q d2;exact⟨_,h⟩
  ·obtain⟨o',q⟩:=F.there b o e a;exact⟨o',hB _ _ q⟩
theorem qC.apart {f:Heap} (I:Inv X pins σ H s) (F:qC X.prog X.w X.stack H s H' B ea cls a0 s') (g:Heap.FlyingW B X.stack ea cls a0 f) (hs:s'.heap.UpToSlots f) :
  ∃oe,oe.cls=cls/\f.get? ea=some oe/\H' ea=none/\ea≠X.env.locals/\ea∉X.fs/\∀v,oe.data≠.cell v:=by
 obtain⟨f1,f2,k,oe,vs,T,oT,ts,j,hc,hd,_⟩:=g;have a:∀b,b∈frs X.stack->ea≠b:=λb l z=>by subst z;obtain⟨_,o,c,h⟩:=k.mem l;rw[j]at c;cases c;exact h _ hd
 refine⟨oe,hc.1,j,?_,?_,λz=>?_,λv z=>by rw[hd]at z;cases z⟩
 ·cases q:H' ea with
  |none=>rfl
  |some o =>obtain⟨ob,e⟩:=(F.hok ea o q).get;rw[f2]at e;cases e
 ·rcases I.ok.stk with e|⟨e,i⟩
  ·intro z;obtain⟨m,⟨o,es,ep,c,hd2,_⟩,_⟩:=I.loc;have n:ea∉frs X.stack:=λq=>a ea q rfl
   obtain⟨o',q⟩:=F.there ea o (by rw[z];exact c) n;rw[f2]at q;cases q
  ·exact a _ (by rw[e,i0 i];exact By)
 ·have:ea∈frs X.stack:=by
   rcases I.ok.stk with e|⟨e,i⟩
   ·rw[e];exact z
   ·rw[e,i0 i];exact Bu _ z
  exact a ea this rfl
theorem i3 (h:H D=none):aw H (upd H D o):=λb u e=>by rw[aN (aM e h)];exact e
theorem aw.put (s:aw H H') (h:H D=none):aw H (upd H' D o):=λb u e=>by rw[aN (aM e h)];exact s b u e
mutual
def eZ:PyData->Bool
 |.list _=>false
 |.tuple ds=>iN ds
 |.dict _=>false
 |_=>true
def iN:List PyData->Bool
 |[]=>true
 |d::ds=>eZ d&&iN ds
end
theorem set_own (σ:St) (x:Option V) (v:V) (a:St) (h:a.length=1):(σ++a).set σ.length (some v)=σ++[some v]:=by obtain⟨y,rfl⟩:=List.length_eq_one_iff.mp h;simp
structure Rows (H H':Hp) (D:Addr) (qs:List Addr) (rs:List (List Int)):Prop where
 d:H' D=some (.lst (qs.map V.ref))
 len:qs.length=rs.length
 at':∀(i:Nat) q r,qs[i]?=some q->rs[i]?=some r->H' q=some (.lst (r.map V.int))
 new:∀q∈qs,H q=none
 nd:qs.Nodup
 nD:D∉qs
section
variable {prog:Program} {A:Around} {E:Value->Shared->Prop}
theorem oR {a:Array Value} {x:Value} (hi:s.heap.IsTupleIter it t i) (e:s.heap.IsTuple t a) (f:a[i]?=some x)
  (g:∀h',h'.IsTupleIter it t (i+1)->Heap.SameBut it s.heap h'->Q x { s with heap:=h' }):wpAny (model prog w) A (Builtin.SmallTypes.nextOf (.ref it)) Q E s:=by
 obtain⟨oi,c,h,b⟩:=id hi;obtain⟨ot,gt,_,nt,j⟩:=e;unfold Builtin.SmallTypes.nextOf;refine wpAny_bind (wpAny_callSpecial?_slot (name:=Str.ofString "__next__") hi.typeIs F.slot_tuple_iterator_next (wpAny_call_entry F.slot_tuple_iterator_next hi.typeIs F.entry_tuple_iterator_next ?_ (F.args_tuple_iterator_next_1 _)));refine wpAny_bind (m:=field (.ref it) 0) (wpAny_field c b (x:=.ref t) rfl ?_);show wpAny (model prog w) _ (if (Value.ref t==Value.none)=true then _ else _) _ _ s;have k:¬ (Value.ref t==Value.none)=true:=λq=>Bx q
 rw[if_neg k];refine wpAny_bind (m:=field (.ref it) 1) (wpAny_field c b (x:=.int i 0) rfl ?_);refine wpAny_bind (m:=seqItems? (.ref t)) (wpAny_seqItems gt j ?_);simp only[BM,f];refine wpAny_bind (wpAny_setField c b (by simp) (wpAny_pure ⟨x,rfl,wpAny_pure (g _ ⟨_,Heap.get?_update_self _ c (Obj.isFreed_of_fields (Obj.data_mapFields b _)),(Obj.cls_mapFields ..).trans h,?_⟩ (Heap.SameBut.update ..))⟩));rw[Obj.data_mapFields b];simp[rawInt]
theorem ko {c:Array Value} (h:A.handled=none) (hi:s.heap.IsTupleIter it t i) (j:s.heap.IsTuple t c) (k:c[i]?=none)
  (l:∀h' e,Heap.ExtBut it s.heap h'->(∃o,h'.get? e=some o/\o.cls=.type "StopIteration")->E (.ref e) { s with heap:=h' }):wpAny (model prog w) A (Builtin.SmallTypes.nextOf (.ref it)) Q E s:=by
 obtain⟨oi,f,ci,g⟩:=id hi;obtain⟨ot,gt,_,nt,n⟩:=j;unfold Builtin.SmallTypes.nextOf;refine wpAny_bind (wpAny_callSpecial?_slot (name:=Str.ofString "__next__") hi.typeIs F.slot_tuple_iterator_next (wpAny_call_entry F.slot_tuple_iterator_next hi.typeIs F.entry_tuple_iterator_next ?_ (F.args_tuple_iterator_next_1 _)));refine wpAny_bind (m:=field (.ref it) 0) (wpAny_field f g (x:=.ref t) rfl ?_);show wpAny (model prog w) _ (if (Value.ref t==Value.none)=true then _ else _) _ _ s;have p:¬ (Value.ref t==Value.none)=true:=λq=>Bx q
 rw[if_neg p];refine wpAny_bind (m:=field (.ref it) 1) (wpAny_field f g (x:=.int i 0) rfl ?_);refine wpAny_bind (m:=seqItems? (.ref t)) (wpAny_seqItems gt n ?_);simp only[BM,k];refine wpAny_bind (wpAny_rule (wpAny_bind (wpAny_setField f g (by simp) ?_)));refine wpAny_bind (m:=newExc (.type "StopIteration") []) ?_;unfold newExc newTuple;refine wpAny_bind (wpAny_newObj_type ?_ (by size_fits ));refine wpAny_bind (m:=firstArgMember _ _) (wpAny_of_eq (a:=Value.none) (by first|rfl|(unfold firstArgMember;rfl)) ?_);refine wpAny_newObj_type ?_ (by size_fits );unfold raiseNew;refine wpAny_bind (wpAny_handled ?_)
 first|rw[show A.in1.handled=none from h]|rw[h]
 refine wpAny_bind (wpAny_pure (wpAny_throw ?_));refine l _ _ (λb o r e=>?_) ⟨_,Br _ rfl,rfl⟩;exact B0 _ (B0 _ ((Cm _ _ (Ne.symm r)).trans e))
theorem lI (j:A.handled=none) (it t:Addr) (c:t≠it) (a:Array Value):Draws prog w A it [it,t] a.size (λi v=>a[i]?=some v) (λi h=>h.IsTupleIter it t i/\h.IsTuple t a) where
 live:=λ_ _ st=>by obtain⟨⟨o,g,_⟩,_⟩:=st;exact⟨o,g⟩
 frame:=λ_ _ _ st k=>by obtain⟨⟨o,g,r⟩,⟨b,g2,e⟩⟩:=st;exact⟨⟨o,k it (by simp) o g,r⟩,⟨b,k t (by simp) b g2,e⟩⟩
 item:=λi s Q E hi st l=>oR st.1 st.2 (x:=a[i]) (by simp[hi]) λh' i' f=>by refine l _ h' s.toks (by simp[hi]) ⟨i',?_⟩ f;obtain⟨b,g2,e⟩:=st.2;exact⟨b,(f.2 t c).trans g2,e⟩
 done:=λs Q E st m=>ko j st.1 st.2 (by simp) m
end
structure jd (z TI TO i1 i2:Addr) (f1 f2:List Addr):Prop where
 TIz:TI≠z
 TOz:TO≠z
 z1:i1≠z
 z2:i2≠z
 TIO:TI≠TO
 TI1:TI≠i1
 TI2:TI≠i2
 TO1:TO≠i1
 TO2:TO≠i2
 i12:i1≠i2
 a1:∀b∈f1,b≠z/\b≠TO/\b≠i2
 a2:∀b∈f2,b≠z/\b≠TO/\b≠i1
section
variable {prog:Program} {A:Around} {E:Value->Shared->Prop} {z TI TO i1 i2:Addr} {f1 f2:List Addr} {n1 n2:Nat} {P1 P2:Nat->Value->Prop} {S1 S2:Nat->Heap->Prop} {a b:Value}
theorem sA (p:Draws prog w A i1 f1 n1 P1 S1) (q:Draws prog w A i2 f2 n2 P2 S2) (Z:jd z TI TO i1 i2 f1 f2) (i:IsZip s.heap z TI TO .none) (Y:IsPair s.heap TI (.ref i1) (.ref i2)) (hO:IsPair s.heap TO a b)
  (D:S1 k s.heap) (F:S2 k s.heap) (k1:k<n1) (k2:k<n2)
  (hQ:∀h' x y tk,P1 k x->P2 k y->IsZip h' z TI TO (rawInt s.heap.objs.size)->IsPair h' TO x y->S1 (k+1) h'->S2 (k+1) h'->IsPair h' s.heap.objs.size x y ->
   (∀c o,c≠z->c≠TO->c≠i1->c≠i2->s.heap.get? c=some o->h'.get? c=some o)->Q (.ref s.heap.objs.size) { s with heap:=h',toks:=tk }) :
  wpAny (model prog w) A (Builtin.«zip.__next__» ⟨[.ref z],[]⟩) (λfin s'=>∃v,fin=.done (.ret v)/\Q v s') E s:=by
 refine wpAny_bind (m:=field (.ref z) 2) (wpAny_field i rfl (x:=.bool false) rfl ?_);refine wpAny_bind (m:=field (.ref z) 3) (wpAny_field i rfl (x:=.ref TI) rfl ?_);refine wpAny_bind (wpAny_seqItems Y rfl ?_);refine wpAny_bind (m:=Builtin.SmallTypes.ownedTupleIsFree (.ref z)) ?_;unfold Builtin.SmallTypes.ownedTupleIsFree;refine wpAny_bind (wpAny_field i rfl (x:=.none) rfl (wpAny_pure ?_));rw[if_pos (by rfl)];refine wpAny_bind (wpAny_rule (wpAny_bind (wpAny_field i rfl (x:=.ref TO) rfl (wpAny_bind (wpAny_setField_rec i (by simp) λg1 G e1=>?_)))));have G:IsZip g1 z TI TO .ellipsis:=G;refine wpAny_bind ?_;simp only[List.zipIdx_cons,List.zipIdx_nil,List.forIn_cons,List.forIn_nil];refine wpAny_bind (wpAny_bind (wpAny_onRaise (wpAny_bind (m:=Builtin.SmallTypes.nextOf (.ref i1)) ?_)));have u1:S1 k g1:=p.frame _ _ _ D λb f o e=>(e1.2 b (Z.a1 b f).1).trans e
 refine p.item k { s with heap:=g1 } _ _ k1 u1 λx g2 O px v1 e2=>wpAny_pure ?_
 have P:IsPair g2 TO a b:=(e2.2 TO Z.TO1).trans ((e1.2 TO Z.TOz).trans hO);refine wpAny_bind (wpAny_seqItems (s:={ s with heap:=g2,toks:=O }) P rfl (wpAny_bind (wpAny_updateSeq_pair P λH I j=>?_)));have I:IsPair H TO x b:=I;refine wpAny_bind (wpAny_letGo (wpAny_pure (wpAny_bind (wpAny_bind (wpAny_onRaise (wpAny_bind (m:=Builtin.SmallTypes.nextOf (.ref i2)) ?_))))));have u2:S2 k H:=q.frame _ _ _ F λb f o e=>(j.2 b (Z.a2 b f).2.1).trans ((e2.2 b (Z.a2 b f).2.2).trans ((e1.2 b (Z.a2 b f).1).trans e))
 refine q.item k { s with heap:=H,toks:=O } _ _ k2 u2 λy R J py v2 l=>wpAny_pure ?_
 have S:IsPair R TO x b:=(l.2 TO Z.TO2).trans I;refine wpAny_bind (wpAny_seqItems (s:={ s with heap:=R,toks:=J }) S rfl (wpAny_bind (wpAny_updateSeq_pair S λg r n=>?_)));have r:IsPair g TO x y:=r;refine wpAny_bind (wpAny_letGo (wpAny_pure (wpAny_pure (wpAny_bind (wpAny_seqItems (s:={ s with heap:=g,toks:=J }) r rfl (wpAny_bind (wpAny_newTuple ?_)))))));have sz:g.objs.size=s.heap.objs.size:=by rw[n.1,l.1,j.1,e2.1,e1.1]
 have T:IsZip g z TI TO .ellipsis:=(n.2 z Z.TOz.symm).trans ((l.2 z Z.z2.symm).trans ((j.2 z Z.TOz.symm).trans ((e2.2 z Z.z1.symm).trans G)));have K:∀c o,c≠z->c≠TO->c≠i1->c≠i2->s.heap.get? c=some o->g.get? c=some o:=λc o h t L M e =>
  (n.2 c t).trans ((l.2 c M).trans ((j.2 c t).trans ((e2.2 c L).trans ((e1.2 c h).trans e))))
 have w1:S1 (k+1) g:=p.frame _ _ _ v1 λb f o e=>(n.2 b (Z.a1 b f).2.1).trans ((l.2 b (Z.a1 b f).2.2).trans ((j.2 b (Z.a1 b f).2.1).trans e))
 have w2:S2 (k+1) g:=q.frame _ _ _ v2 λb f o e=>(n.2 b (Z.a2 b f).2.1).trans e
 have zl:z<g.objs.size:=B4 T;refine wpAny_bind (m:=Builtin.SmallTypes.ownedTupleHandOut (.ref z) (.ref g.objs.size)) ?_;unfold Builtin.SmallTypes.ownedTupleHandOut;have y6:IsZip (g.push { cls:=.type "tuple",data:=.seq #[x,y] }) z TI TO .ellipsis:=B0 _ T;refine wpAny_bind (wpAny_setField_rec y6 (by simp) λg7 N U=>?_);have N:IsZip g7 z TI TO (rawInt g.objs.size):=N;refine wpAny_setField_rec N (by simp) λu B W=>?_
 have B:IsZip u z TI TO (rawInt g.objs.size):=B;have C:∀c o,c≠z->g.get? c=some o->u.get? c=some o:=λc o h e=>(W.2 c h).trans ((U.2 c h).trans (B0 _ e))
 have X:IsPair u g.objs.size x y:=(W.2 _ (Cf zl)).trans ((U.2 _ (Cf zl)).trans (Br _ rfl));refine wpAny_pure ⟨_,rfl,?_⟩;rw[sz]at B X;show Q (.ref g.objs.size) _;rw[sz];exact hQ u x y J px py B (C _ _ Z.TOz r) (p.frame _ _ _ w1 λb f o e=>C b o (Z.a1 b f).1 e) (q.frame _ _ _ w2 λb f o e=>C b o (Z.a2 b f).1 e) X λc o h t L M e=>C c o h (K c o h t L M e)
theorem sP (j:Draws prog w A i1 f1 n1 P1 S1) (Z:jd z TI TO i1 i2 f1 f2) {Q:Fin->Shared->Prop} (f:IsZip s.heap z TI TO .none) (t:IsPair s.heap TI (.ref i1) (.ref i2)) (hO:IsPair s.heap TO a b) (g:S1 n1 s.heap)
  (u:∀h' e,(∀c o,c≠z->c≠TO->c≠i1->c≠i2->s.heap.get? c=some o->h'.get? c=some o)->(∃o,h'.get? e=some o/\o.cls=.type "StopIteration")->E (.ref e) { s with heap:=h' }) :
  wpAny (model prog w) A (Builtin.«zip.__next__» ⟨[.ref z],[]⟩) Q E s:=by
 refine wpAny_bind (m:=field (.ref z) 2) (wpAny_field f rfl (x:=.bool false) rfl ?_);refine wpAny_bind (m:=field (.ref z) 3) (wpAny_field f rfl (x:=.ref TI) rfl ?_);refine wpAny_bind (wpAny_seqItems t rfl ?_);refine wpAny_bind (m:=Builtin.SmallTypes.ownedTupleIsFree (.ref z)) ?_;unfold Builtin.SmallTypes.ownedTupleIsFree;refine wpAny_bind (wpAny_field f rfl (x:=.none) rfl (wpAny_pure ?_));rw[if_pos (by rfl)];refine wpAny_bind (wpAny_rule (wpAny_bind (wpAny_field f rfl (x:=.ref TO) rfl (wpAny_bind (wpAny_setField_rec f (by simp) λg1 h e1=>?_)))));have h:IsZip g1 z TI TO .ellipsis:=h;refine wpAny_bind ?_;simp only[List.zipIdx_cons,List.zipIdx_nil,List.forIn_cons,List.forIn_nil];refine wpAny_bind (wpAny_bind (wpAny_onRaise (wpAny_bind (m:=Builtin.SmallTypes.nextOf (.ref i1)) ?_)));have v:S1 n1 g1:=j.frame _ _ _ g λb y o e=>(e1.2 b (Z.a1 b y).1).trans e
 refine j.done { s with heap:=g1 } _ _ v λg2 e k B=>?_
 obtain⟨oe,ge,l⟩:=B;have n:IsZip g2 z TI TO .ellipsis:=k _ _ Z.z1.symm h;have i:e≠z:=λq=>by subst q;rw[n]at ge;cases ge;simp at l
 refine wpAny_setField_rec n (by simp) λC _ p=>u C e (λc o r _ D _ q=>(p.2 c r).trans (k _ _ D ((e1.2 c r).trans q))) ⟨oe,(p.2 e i).trans ge,l⟩
theorem oH (i:Draws prog w A.in1 i1 f1 n1 P1 S1) (j:Draws prog w A.in1 i2 f2 n2 P2 S2) (Z:jd z TI TO i1 i2 f1 f2) {Q:Option Value->Shared->Prop} (g:IsZip s.heap z TI TO .none) (l:IsPair s.heap TI (.ref i1) (.ref i2)) (m:IsPair s.heap TO a b)
  (e:S1 k s.heap) (f:S2 k s.heap) (k1:k<n1) (k2:k<n2)
  (n:∀h' x y tk,P1 k x->P2 k y->IsZip h' z TI TO (rawInt s.heap.objs.size)->IsPair h' TO x y->S1 (k+1) h'->S2 (k+1) h'->IsPair h' s.heap.objs.size x y ->
   (∀c o,c≠z->c≠TO->c≠i1->c≠i2->s.heap.get? c=some o->h'.get? c=some o)->Q (some (.ref s.heap.objs.size)) { s with heap:=h',toks:=tk }):wpAny (model prog w) A (pyNext (.ref z)) Q E s:=by
 have h:s.TypeIs (.ref z) "zip":=⟨_,g,rfl⟩
 unfold pyNext;refine wpAny_bind (wpAny_attempt (wpAny_callSpecial?_slot (name:=Str.ofString "__next__") h F.slot_zip_next (wpAny_call_entry F.slot_zip_next h F.entry_zip_next (sA i j Z g l m e f k1 k2 λh' x y tk p1 p2 p q r t u v=>?_) (F.args_zip_next_1 _))));exact wpAny_pure (n h' x y tk p1 p2 p q r t u v)
theorem kD (i:Draws prog w A.in1 i1 f1 n1 P1 S1) (Z:jd z TI TO i1 i2 f1 f2) {Q:Option Value->Shared->Prop} (g:IsZip s.heap z TI TO .none) (j:IsPair s.heap TI (.ref i1) (.ref i2)) (k:IsPair s.heap TO a b) (f:S1 n1 s.heap)
  (l:∀h',(∀c o,c≠z->c≠TO->c≠i1->c≠i2->s.heap.get? c=some o->h'.get? c=some o)->Q none { s with heap:=h' }):wpAny (model prog w) A (pyNext (.ref z)) Q E s:=by
 have h:s.TypeIs (.ref z) "zip":=⟨_,g,rfl⟩
 unfold pyNext;refine wpAny_bind (wpAny_attempt (wpAny_callSpecial?_slot (name:=Str.ofString "__next__") h F.slot_zip_next (wpAny_call_entry F.slot_zip_next h F.entry_zip_next (sP i Z g j k f λh' e k0 m=>?_) (F.args_zip_next_1 _))));obtain⟨o,n,hc⟩:=m;exact wpAny_bind (wpAny_isInstance (T:="StopIteration") (b:=true) ⟨o,n,hc⟩ isSubtype_stop (wpAny_pure (l _ k0)))
abbrev zH1 (h:Heap) (t:Addr):Heap:=h.push { cls:=.type "tuple_iterator",data:=.fields #[.ref t,.int 0 0] }
abbrev zH2 (h:Heap) (t l:Addr):Heap:=(zH1 h t).push { cls:=.type "list_iterator",data:=.fields #[.ref l,.int 0 0] }
abbrev zH3 (h:Heap) (t l:Addr):Heap:=(zH2 h t l).push { cls:=.type "tuple",data:=.seq #[.ref h.objs.size,.ref (zH1 h t).objs.size] }
abbrev zH4 (h:Heap) (t l:Addr):Heap:=(zH3 h t l).push { cls:=.type "tuple",data:=.seq #[.none,.none] }
abbrev zH5 (h:Heap) (t l:Addr):Heap:=(zH4 h t l).push { cls:=.type "zip",data:=.fields #[.none,.bool false,.bool false,.ref (zH2 h t l).objs.size,.ref (zH3 h t l).objs.size] }
theorem nu (t l:Addr) (xs ys:Array Value):Meets (Builtin.«zip.__new__» ⟨[.type "zip",.ref t,.ref l],[]⟩) (λ_ R s=>s.heap.IsTuple t xs/\s.heap.IsList l ys/\R (.ok (.ret (.ref (zH4 s.heap t l).objs.size))) { s with heap:=zH5 s.heap t l }) :=
 .of_wp λprog w A R s h=>by
  obtain⟨c,g,d,tk,os⟩:=s;obtain⟨e,hl,h⟩:=h;have sb:isSubtype (.type "zip") (.type "zip")=pure true:=by rw[isSubtype_type];kernel_rfl
  have a:Heap.IsTuple (Shared.heap ⟨c,g,d,tk,os⟩) t xs:=e;have b:Heap.IsList (Shared.heap ⟨c.push { cls:=.type "tuple_iterator",data:=.fields #[.ref t,.int 0 0] },g,d,tk,os⟩) l ys:=Heap.IsList.push hl _
  wp_walk using wpAny_pyIter_tuple a,wpAny_pyIter_list b
  exact⟨_,rfl,h⟩
theorem oZ {l:Addr} {xs ys:Array Value} (a:s.heap.IsTuple t xs) (hl:s.heap.IsList l ys) (h:Q (.ref (zH4 s.heap t l).objs.size) { s with heap:=zH5 s.heap t l }) :
  wpAny (model prog w) A (call (.type "zip") [.ref t,.ref l]) Q E s:=by
 refine callType_new F.called_zip (by decide) (F.typeCall_zip_2 _ _) (F.newCall_zip_2 _ _) (λobj=>F.args_object_init_3 obj _ _) F.entry_zip_new (nu t l xs ys) ⟨a,hl,?_⟩;exact⟨⟨_,Br _ rfl,rfl⟩,h⟩
end
section
variable {σ:L2.St}
theorem Inv.turnLay {t':Nat} {T:Addr} (I:Inv X pins σ H s) (g:∀b∈ch,j8 X pins H b) (h:s.heap.objs.size<=T) (k:∀b u,b∉ch->s.heap.get? b=some u->h'.get? b=some u)
  (new:dC X.prog X.w (upd H T o) h' T o):Inv X pins σ (upd H T o) { s with heap:=h',toks:=t' }:=by
 have hn:H T=none:=I.hok.fresh h;have a:∀b u,H b=some u->b∉ch:=λb u e z=>by rw[(g b z).1]at e;cases e
 have neT:∀b u,s.heap.get? b=some u->b≠T:=λb u e=>B9 (B6 (B4 e) h)
 refine I.step (g':=s.gens) (d':=s.drawn) (ch:=ch) (λb f=>?_) (λb u _ _ hc e _=>k b u hc e) (λb u _ _ hc e _=>⟨u.slots,k b u hc e⟩) (λb u _ e n=>by rw[aN (neT b u e)];exact n)
  (λb u hc e=>⟨u,k b u hc e⟩) (λb xs e=>by rw[aN (aM e hn)];exact e) (λb u v e=>by rw[aN (aM e hn)];exact e) (λb ps e=>by rw[aN (aM e hn)];exact e) (λm hm=>?_) (λb u e=>?_) I.bare
 ·obtain⟨f0,f1,f2,j,l,p⟩:=g b f;exact⟨j,f1,l,p⟩
 ·obtain⟨i,es,t,x,r⟩:=hm;exact⟨i,es,t,k _ i (λz=>(g _ z).2.1 rfl) x,r⟩
 ·by_cases f:b=T
  ·subst f;rw[aV]at e;cases e;exact new
  ·rw[aN f]at e;refine (I.hok b u e).stay (λc v hc q=>k c v ?_ q) (λc q=>by rw[aN (aM q hn)];exact q) (λc xs q=>by rw[aN (aM q hn)];exact q) λc o' w' q=>by rw[aN (aM q hn)];exact q
   rcases hc with z|z
   ·rw[z];exact a b u e
   ·exact a c _ z
theorem Inv.turneds {t':Nat} (I:Inv X pins σ H s) (f:∀b∈ch,j8 X pins H b) (k:∀b u,b∉ch->s.heap.get? b=some u->h'.get? b=some u):Inv X pins σ H { s with heap:=h',toks:=t' }:=by
 have a:∀b u,H b=some u->b∉ch:=λb u e z=>by rw[(f b z).1]at e;cases e
 refine I.step (g':=s.gens) (d':=s.drawn) (ch:=ch) (λb h=>?_) (λb u _ _ hc e _=>k b u hc e) (λb u _ _ hc e _=>⟨u.slots,k b u hc e⟩) (λb u _ e n=>n)
  (λb u hc e=>⟨u,k b u hc e⟩) (λb xs e=>e) (λb u v e=>e) (λb ps e=>e) (λm hm=>?_) (λb u e=>?_) I.bare
 ·obtain⟨f0,f1,f2,i,j,l⟩:=f b h;exact⟨i,f1,j,l⟩
 ·obtain⟨g,es,o,p,r⟩:=hm;exact⟨g,es,o,k _ g (λz=>(f _ z).2.1 rfl) p,r⟩
 ·refine (I.hok b u e).stay (λc v hc q=>k c v ?_ q) (λ_ q=>q) λ_ _ q=>q
  rcases hc with z|z
  ·rw[z];exact a b u e
  ·exact a c _ z
end
def Itz (K:PySem.W.Frag) (a b:Addr) (n:Nat):It :=
 ⟨λi H=>i<n/\∃xs ys,SqT K H a xs/\SqL K H b ys/\xs.length=n/\ys.length=n,
  λi H v H'=>∃t x y,v=.ref t/\H t=none/\H'=upd H t (.tup [x,y])/\(∀xs,SqT K H a xs->xs[i]?=some x)/\∀ys,SqL K H b ys->ys[i]?=some y,
  λi H=>i=n/\∃xs ys,SqT K H a xs/\SqL K H b ys/\xs.length=n/\ys.length=n⟩
theorem uf {x1:Nat} {tp:Pos} {z TI TO i1 i2:Addr} (Z:jd z TI TO i1 i2 [i1,a] [i2,b]) :
  Turn P w K (.Tuple elts x1 tp) (Itz K a b n) [z,TI,TO,i1,i2] z (λi h=>IsZip h z TI TO .none/\IsPair h TI (.ref i1) (.ref i2)/\(∃u v,IsPair h TO u v)/\h.IsTupleIter i1 a i/\h.IsListIter i2 b i) where
 mem:=by simp
 obj:=λi h st c hc=>by
  obtain⟨h1,h2,⟨u,v,r⟩,⟨t,j,_,d4⟩,⟨C,m,_,d5⟩⟩:=st;simp only[B8,Bq,or_false]at hc;rcases hc with rfl|rfl|rfl|rfl|rfl
  ·exact⟨_,h1,λv q=>by cases q⟩
  ·exact⟨_,h2,λv q=>by cases q⟩
  ·exact⟨_,r,λv q=>by cases q⟩
  ·exact⟨_,j,λv q=>by rw[d4]at q;cases q⟩
  ·exact⟨_,m,λv q=>by rw[d5]at q;cases q⟩
 keep:=λi h h' st k=>by obtain⟨h1,h2,⟨u,v,r⟩,⟨t,j,r4⟩,⟨C,m,r5⟩⟩:=st;exact⟨k z (by simp) _ h1,k TI (by simp) _ h2,⟨u,v,k TO (by simp) _ r⟩,⟨t,k i1 (by simp) _ j,r4⟩,⟨C,k i2 (by simp) _ m,r5⟩⟩
 item:=by
  intro X hP hw hK hc i pins s σ H E I R st hg;subst hP hw hK;obtain⟨hi,xs,ys,S,hy,lx,ly⟩:=hg;obtain⟨h1,h2,⟨u,v,r⟩,D,T⟩:=st;obtain⟨f,U,p,_⟩:=I.tuple S;obtain⟨G,J,p',_⟩:=I.list hy;have la:=U.length;have lb:=J.length;have Y:X.A.in1.handled=none:=I.ok.hd hc;have na:a≠i1:=λq=>by obtain⟨o,g,c,_⟩:=p;obtain⟨t,j,L,_⟩:=D;rw[q,j]at g;cases g;rw[L]at c;exact absurd (Value.type.inj c) (by decide)
  have nb:b≠i2:=λq=>by obtain⟨o,n,g,c,_⟩:=p';obtain⟨C,m,c5,_⟩:=T;rw[q,m]at g;cases g;rw[c5]at c;exact absurd (Value.type.inj c) (by decide)
  have pt:s.heap.IsTuple a f.toArray:=p;refine oH (lI Y i1 a na f.toArray) (Draws.list Y i2 b nb G.toArray) Z h1 h2 r ⟨D,pt⟩ ⟨T,p'.isList⟩ (by simp;omega) (by simp;omega) λh' x y tk px py c1 c2 c3 L c5 c6=>⟨_,rfl,?_⟩
  refine wpAny_letOwnedTupleGo_zip (s:={ s with heap:=h',toks:=tk }) c1 λh2' d1 d2=>?_
  have zl:z<s.heap.objs.size:=B4 h1;have F:∀c o,c≠z->h'.get? c=some o->h2'.get? c=some o:=λc o hc e=>(d2.2 c hc).trans e
  have nT:s.heap.objs.size≠z:=Cf zl;obtain⟨M,ex,rx⟩:∃M,xs[i]?=some M/\RelV M x:=by
   have l:i<xs.length:=by omega
   obtain⟨u',e1,e2⟩:=U.get (B2 l);refine⟨xs[i],B2 l,?_⟩;have N:f[i]?=some x:=by simpa using px
   rw[e1]at N;cases N;exact e2
  obtain⟨O,ey,ry⟩:∃O,ys[i]?=some O/\RelV O y:=by
   have l:i<ys.length:=by omega
   obtain⟨u',e1,e2⟩:=J.get (B2 l);refine⟨ys[i],B2 l,?_⟩;have Q:G[i]?=some y:=by simpa using py
   rw[e1]at Q;cases Q;exact e2
  have fr:H s.heap.objs.size=none:=I.hok.fresh (B5 _);refine⟨.ref s.heap.objs.size,upd H s.heap.objs.size (.tup [M,O]),?_,rfl,⟨_,M,O,rfl,fr,rfl,λxs' h=>by rw[I.tuple_inj h S];exact ex,λys' h=>by rw[I.list_inj h hy];exact ey⟩,?_,λc B=>?_⟩
  ·refine I.turnLay (t':=tk) (ch:=[z,TI,TO,i1,i2]) R (B5 _) (λc o hn e=>?_) ⟨by show 2<=sizeLine;decide,[x,y],.cons rx (.cons ry .nil),⟨_,F _ _ nT c5,rfl,rfl,_,rfl⟩⟩;simp only[B8,Bq,or_false,not_or]at hn;exact F c o hn.1 (c6 c o hn.1 hn.2.2.1 hn.2.2.2.1 hn.2.2.2.2 e)
  ·obtain⟨⟨t,j,r4⟩,_⟩:=c3;obtain⟨⟨C,m,r5⟩,_⟩:=L;exact⟨d1,F _ _ Z.TIz (c6 _ _ Z.TIz Z.TIO Z.TI1 Z.TI2 h2),⟨x,y,F _ _ Z.TOz c2⟩,⟨t,F _ _ Z.z1 j,r4⟩,⟨C,F _ _ Z.z2 m,r5⟩⟩
  ·have h0:=(R c B).1;obtain⟨oc,gc⟩:∃oc,s.heap.get? c=some oc:=by
    simp only[B8,Bq,or_false]at B;rcases B with rfl|rfl|rfl|rfl|rfl
    ·exact⟨_,h1⟩
    ·exact⟨_,h2⟩
    ·exact⟨_,r⟩
    ·obtain⟨t,j,_⟩:=D;exact⟨_,j⟩
    ·obtain⟨C,m,_⟩:=T;exact⟨_,m⟩
   rw[aN (B9 (B4 gc))];exact h0
 done:=by
  intro X hP hw hK hc i pins s σ H E I R st hg;subst hP hw hK;obtain⟨hi,xs,ys,S,hy,lx,ly⟩:=hg;obtain⟨h1,h2,⟨u,v,r⟩,D,T⟩:=st;obtain⟨f,U,p,_⟩:=I.tuple S;have la:=U.length;have Y:X.A.in1.handled=none:=I.ok.hd hc;have na:a≠i1:=λq=>by obtain⟨o,g,c,_⟩:=p;obtain⟨t,j,L,_⟩:=D;rw[q,j]at g;cases g;rw[L]at c;exact absurd (Value.type.inj c) (by decide)
  have pt:s.heap.IsTuple a f.toArray:=p;have e:f.toArray.size=i:=by simp;omega
  refine kD (lI Y i1 a na f.toArray) Z h1 h2 r ⟨by rw[e];exact D,pt⟩ λh' k=>⟨rfl,?_⟩
  refine I.turneds (t':=s.toks) (ch:=[z,TI,TO,i1,i2]) R λc o hn q=>?_
  simp only[B8,Bq,or_false,not_or]at hn;exact k c o hn.1 hn.2.2.1 hn.2.2.2.1 hn.2.2.2.2 q
 self:=λ_ _ _ _ _ st h=>wpAny_pyIter_zip st.1 h
theorem boot_zip:bootBuiltins "zip"=some (.type "zip"):=by decide +kernel
def AJ (K:PySem.W.Frag) (ta:TA):TI:=λσ H R=>ta σ H λvs H1=>∃a b xs ys,vs=[.ref a,.ref b]/\SqT K H1 a xs/\SqL K H1 b ys/\ys.length=xs.length/\R (Itz K a b xs.length) H1
theorem yo {y:Nat} {z:Pos} {a b:Expr} (A:Gl X "zip") (hm:X.mg "zip"=none) (ha:PA X [a,b] ta) (B:starEach [a,b] X.env=[(false,eval a X.env),(false,eval b X.env)]:=by rfl) (n:starEach [b] X.env=[(false,eval b X.env)]:=by rfl) :
  PI X (.Tuple elts y z) (.Call (.Name "zip" p) [a,b] [] pos) (AJ X.K ta):=by
 intro pins s σ H R I h;refine Call_ (gu I A hm boot_zip (PyProof.Rows.callWith_type1 (thn (ha pos pins s σ H _ I h) λus f u=>?_) (by rw[B,n]) (by rw[n];rfl)));obtain⟨vs,H1,r,C,D⟩:=u;obtain⟨k,l,xs,ys,e,E,F,hl,q⟩:=D;subst e;obtain⟨u1,u2,e1,G,J⟩:=vals2 C;subst e1;cases G;cases J;obtain⟨v,rv,pt,_⟩:=r.tuple E;obtain⟨jts,rw',pl,_⟩:=r.list F;have t:f.heap.IsTuple k v.toArray:=pt;have w:k<f.heap.objs.size:=by obtain⟨_,g,_⟩:=t;exact B4 g
 have bl:l<f.heap.objs.size:=by obtain⟨_,_,g,_⟩:=pl;exact B4 g
 refine oZ t pl.isList ?_;have z1:(zH1 f.heap k).objs.size=f.heap.objs.size+1:=Heap.size_push ..;have z2:(zH2 f.heap k l).objs.size=f.heap.objs.size+2:=by rw[Heap.size_push,z1]
 have z3:(zH3 f.heap k l).objs.size=f.heap.objs.size+3:=by rw[Heap.size_push,z2]
 have z4:(zH4 f.heap k l).objs.size=f.heap.objs.size+4:=by rw[Heap.size_push,z3]
 have x:IsZip (zH5 f.heap k l) (zH4 f.heap k l).objs.size (zH2 f.heap k l).objs.size (zH3 f.heap k l).objs.size .none:=Br _ rfl;have L:IsPair (zH5 f.heap k l) (zH3 f.heap k l).objs.size .none .none:=B0 _ (Br _ rfl);have M:IsPair (zH5 f.heap k l) (zH2 f.heap k l).objs.size (.ref f.heap.objs.size) (.ref (zH1 f.heap k).objs.size):=B0 _ (B0 _ (Br _ rfl));have g2:(zH5 f.heap k l).IsListIter (zH1 f.heap k).objs.size l 0:=⟨_,B0 _ (B0 _ (B0 _ (Br _ rfl))),rfl,rfl⟩
 have g1:(zH5 f.heap k l).IsTupleIter f.heap.objs.size k 0:=⟨_,B0 _ (B0 _ (B0 _ (B0 _ (Br _ rfl)))),rfl,rfl⟩
 have N:∀c o,f.heap.get? c=some o->(zH5 f.heap k l).get? c=some o:=λc o e=>B0 _ (B0 _ (B0 _ (B0 _ (B0 _ e))))
 have O:Inv X pins σ H1 { f with heap:=zH5 f.heap k l }:=r.kept (t':=f.toks) N;have Z:jd (zH4 f.heap k l).objs.size (zH2 f.heap k l).objs.size (zH3 f.heap k l).objs.size f.heap.objs.size (zH1 f.heap k).objs.size [f.heap.objs.size,k] [(zH1 f.heap k).objs.size,l]:=by
  rw[z1,z2,z3,z4];have m:∀i j:Nat,i≠j->f.heap.objs.size+i≠f.heap.objs.size+j:=λi j h q=>h (Nat.add_left_cancel q)
  refine⟨m 2 4 (by decide),m 3 4 (by decide),m 0 4 (by decide),m 1 4 (by decide),m 2 3 (by decide),m 2 0 (by decide),m 2 1 (by decide),m 3 0 (by decide),m 3 1 (by decide),m 0 1 (by decide),λc hc=>?_,λc hc=>?_⟩
  ·simp only[B8,Bq,or_false]at hc;rcases hc with rfl|rfl
   ·exact⟨m 0 4 (by decide),m 0 3 (by decide),m 0 1 (by decide)⟩
   ·exact⟨B9 (B6 w (BO _ _)),B9 (B6 w (BO _ _)),B9 (B6 w (BO _ _))⟩
  ·simp only[B8,Bq,or_false]at hc;rcases hc with rfl|rfl
   ·exact⟨m 1 4 (by decide),m 1 3 (by decide),m 1 0 (by decide)⟩
   ·exact⟨B9 (B6 bl (BO _ _)),B9 (B6 bl (BO _ _)),B9 bl⟩
 have big:∀c∈[(zH4 f.heap k l).objs.size,(zH2 f.heap k l).objs.size,(zH3 f.heap k l).objs.size,f.heap.objs.size,(zH1 f.heap k).objs.size],f.heap.objs.size<=c:=λc hc=>by
  simp only[B8,Bq,or_false]at hc;rcases hc with rfl|rfl|rfl|rfl|rfl
  ·rw[z4];exact BO _ _
  ·rw[z2];exact BO _ _
  ·rw[z3];exact BO _ _
  ·exact B5 _
  ·rw[z1];exact BO _ _
 refine wpAny_pyIter_zip x ⟨_,_,_,_,H1,rfl,O,uf Z,⟨x,M,⟨_,_,L⟩,g1,g2⟩,λc hc=>?_,q⟩;exact r.fpOk (big c hc) (r.hok.fresh (big c hc))
inductive Rs (α:Type) where
 |ok (a:α)
 |rz (C:Addr)
 |no
namespace Rs
noncomputable def bind {α β:Type}:Rs α->(α->Rs β)->Rs β
 |ok a,f=>f a
 |rz C,_=>rz C
 |no,_=>no
def cW {α:Type}:Option α->Rs α
 |some a=>ok a
 |none=>no
noncomputable def calm {α:Type}:Rs α->Rs α
 |ok a=>ok a
 |_=>no
@[simp]theorem ak (a:α) (f:α->Rs β):(ok a).bind f=f a:=rfl
@[simp]theorem fy (C:Addr) (f:α->Rs β):(rz C).bind f=rz C:=rfl
@[simp]theorem cc (f:α->Rs β):(no:Rs α).bind f=no:=rfl
@[simp]theorem aF (a:α):cW (some a)=ok a:=rfl
@[simp]theorem xV:cW (none:Option α)=no:=rfl
@[simp]theorem iu (a:α):(ok a).calm=ok a:=rfl
end Rs
variable {gf:List PyData->Rs PyData}
noncomputable def del (H:Hp) (A:List Addr):Hp:=λb=>if b∈A then none else H b
theorem pO:del H []=H:=by funext b;simp[del]
theorem jb (h:b∈A):del H A b=none:=by simp[del,h]
theorem bG (h:b∉A):del H A b=H b:=by simp[del,h]
theorem eF (h:del H A b=some o):b∉A/\H b=some o:=by
 by_cases z:b∈A
 ·rw[jb z]at h;cases h
 ·rw[bG z]at h;exact⟨z,h⟩
theorem aC:aw (del H A) H:=λ_ _ e=>(eF e).2
theorem aw.del (s:aw H H'):aw (del H A) (L2.del H' A):=λb o e=>by obtain⟨z,e⟩:=eF e;rw[bG z];exact s b o e
def AN:HO->Bool
 |.lst _=>true
 |.dK _=>true
 |.dT _=>true
 |_=>false
def Ls (H:Hp) (A:List Addr):Prop:=∀a∈A,∃o,H a=some o/\AN o=true
theorem Ls.same (h:Ls H A) (s:aw H H'):Ls H' A:=λa ha=>by obtain⟨o,e,q⟩:=h a ha;exact⟨o,s _ _ e,q⟩
theorem Ls.nil:Ls H []:=λ_ h=>by cases h
theorem Ls.new {p:Addr} (h:Ls H A) (a:H p=none):p∉A:=λz=>by obtain⟨xs,e,_⟩:=h p z;rw[a]at e;cases e
def aq (ns:List Int):PyData:=.dict [(.none,.list (ns.map .int))]
abbrev dtK (l:List ((Int×Int)×Int)):List (PyData×PyData):=(.bool true,.none)::l.map λp=>(.tuple [.int p.1.1,.int p.1.2],.int p.2)
abbrev dtO (l:List ((Int×Int)×Int)):HO:=.dT (l.map λp=>([.inl p.1.1,.inl p.1.2],V.int p.2))
abbrev dfK (l:List (Int×Int)):List (PyData×PyData):=(.bool false,.none)::l.map λp=>(.int p.1,.int p.2)
def yS (kvs:List (PyData×PyData)) (o:HO):Prop:=(∃l:List (Int×Int),kvs=l.map (λp=>(PyData.int p.1,PyData.int p.2))/\o=.dK (l.map λp=>(.inl p.1,V.int p.2)))\/(∃l,kvs=dtK l/\o=dtO l)\/∃l ob,kvs=dfK l/\o=.frz ob (.dK (l.map λp=>(.inl p.1,V.int p.2)))
mutual
def Is (K:PySem.W.Frag) (H:Hp):PyData->V->Prop
 |.none,v=>v=.non
 |.bool b,v=>v=.bl b
 |.int i,v=>v=.int i
 |.str x,v=>v=.str x
 |.list ds,v=>∃a xs,v=.ref a/\H a=some (.lst xs)/\Iss K H ds xs
 |.tuple ds,v=>∃a xs,v=.ref a/\H a=some (.tup xs)/\Iss K H ds xs
 |.dict kvs,v=>((∃a ns,v=.ref a/\kvs=[(PyData.none,PyData.list (List.map PyData.int ns))]/\SqL K H a (List.map V.int ns)) \/
  ∃(a:Addr) (o:HO),v=.ref a/\yS kvs o/\H a=some o) \/
  ∃(a C dx:Addr) (fs:List (Str×V)),v=.ref a/\H a=some (.ins C dx fs)/\fs.lookup ("@":Str)=none/\(Isk K H kvs (("",.int (C:Int))::fs)\/Isk K H kvs (("",.int (C:Int))::("@",.int (a:Int))::fs))
def Iss (K:PySem.W.Frag) (H:Hp):List PyData->List V->Prop
 |[],vs=>vs=[]
 |d::ds,vs=>∃v r,vs=v::r/\Is K H d v/\Iss K H ds r
def Isk (K:PySem.W.Frag) (H:Hp):List (PyData×PyData)->List (Str×V)->Prop
 |[],fs=>fs=[]
 |(k,d)::r,fs=>∃f v fs',fs=(f,v)::fs'/\k=.str f/\Is K H d v/\Isk K H r fs'
end
def zO (C a:Addr) (b:List (Str×PyData)):PyData:=.dict ((.str "",.int (C:Int))::(.str "@",.int (a:Int))::b.map λp=>(.str p.1,p.2))
section
theorem cm {i:Int}:Is K H (.int i) (.int i):=by unfold Is;rfl
theorem is_bool {b:Bool}:Is K H (.bool b) (.bl b):=by unfold Is;rfl
theorem is_none:Is K H .none .non:=by unfold Is;rfl
theorem tD:Is K H (.str x) (.str x):=by unfold Is;rfl
theorem iL (h:H a=some (.tup xs)) (h2:Iss K H ds xs):Is K H (.tuple ds) (.ref a):=by unfold Is;exact⟨a,xs,rfl,h,h2⟩
theorem mL (h:H a=some (.lst xs)) (h2:Iss K H ds xs):Is K H (.list ds) (.ref a):=by unfold Is;exact⟨a,xs,rfl,h,h2⟩
theorem qI (h:SqL K H a (ns.map V.int)):Is K H (aq ns) (.ref a):=by unfold aq Is;exact .inl (.inl ⟨a,ns,rfl,rfl,h⟩)
theorem dH:Iss K H [] []:=by unfold Iss;rfl
theorem cY {d:PyData} (h:Is K H d v) (h2:Iss K H ds vs):Iss K H (d::ds) (v::vs):=by unfold Iss;exact⟨v,vs,rfl,h,h2⟩
theorem jY {d:PyData} (h:Is K H d v):Iss K H [d] [v]:=cY h dH
theorem Is.ofInt {i:Int} (h:Is K H (.int i) v):v=.int i:=by unfold Is at h;exact h
theorem Is.ofBool {i:Bool} (h:Is K H (.bool i) v):v=.bl i:=by unfold Is at h;exact h
theorem Is.ofNone (h:Is K H .none v):v=.non:=by unfold Is at h;exact h
theorem Is.ofStr (h:Is K H (.str x) v):v=.str x:=by unfold Is at h;exact h
theorem Is.ofTup (h:Is K H (.tuple ds) v):∃a xs,v=.ref a/\H a=some (.tup xs)/\Iss K H ds xs:=by unfold Is at h;exact h
theorem Is.ofLst (h:Is K H (.list ds) v):∃a xs,v=.ref a/\H a=some (.lst xs)/\Iss K H ds xs:=by unfold Is at h;exact h
theorem Is.ofScript (h:Is K H (aq ns) v):∃a,v=.ref a/\SqL K H a (ns.map V.int):=by
 unfold aq Is at h;rcases h with (h|⟨a,l,_,e,_⟩)|⟨a,C,dx,fs,_,_,_,h|h⟩
 case inl.inr=>rcases e with⟨m,e,_⟩|⟨m,e,_⟩|⟨m,_,e,_⟩ <;> first|(cases e;done)|(cases m <;> cases e)
 case inr.inl=>unfold Isk at h;obtain⟨f,_,_,_,h,_⟩:=h;cases h
 case inr.inr=>unfold Isk at h;obtain⟨f,_,_,_,h,_⟩:=h;cases h
 obtain⟨a,g,e,e2,h⟩:=h;have i:ns.map PyData.int=g.map PyData.int:=by injection e2 with e2 _;injection e2 with _ e2;injection e2
 have j:ns=g:=by
  have inj:∀(a b:List Int),a.map PyData.int=b.map PyData.int->a=b:=by
   intro a
   induction a with
   |nil=>intro b c;cases b with|nil=>rfl|cons _ _=>simp at c
   |cons x r ih =>
    intro b c;cases b with
    |nil=>simp at c
    |cons y s =>simp only[BC,List.cons.injEq,PyData.int.injEq]at c;rw[c.1,ih s c.2]
  exact inj _ _ i
 subst j;exact⟨a,e,h⟩
theorem Iss.nil_of (h:Iss K H [] vs):vs=[]:=by unfold Iss at h;exact h
theorem Iss.cons_of {d:PyData} (h:Iss K H (d::ds) vs):∃v r,vs=v::r/\Is K H d v/\Iss K H ds r:=by unfold Iss at h;exact h
theorem Iss.length:∀{ds:List PyData} {vs:List V},Iss K H ds vs->vs.length=ds.length
 |[],_,h=>by rw[h.nil_of];rfl
 |_::_,_,h=>by obtain⟨v,r,e,_,h2⟩:=h.cons_of;rw[e,BH,BH,Iss.length h2]
mutual
theorem Is.same (e:aw H H'):∀{d:PyData} {v:V},Is K H d v->Is K H' d v
 |.none,_,h=>by unfold Is at h ⊢;exact h
 |.bool _,_,h=>by unfold Is at h ⊢;exact h
 |.int _,_,h=>by unfold Is at h ⊢;exact h
 |.str _,_,h=>by unfold Is at h ⊢;exact h
 |.list ds,_,h=>by unfold Is at h ⊢;obtain⟨a,xs,e1,h1,h2⟩:=h;exact⟨a,xs,e1,e _ _ h1,Iss.same e h2⟩
 |.tuple ds,_,h=>by unfold Is at h ⊢;obtain⟨a,xs,e1,h1,h2⟩:=h;exact⟨a,xs,e1,e _ _ h1,Iss.same e h2⟩
 |.dict _,_,h=>by
  unfold Is at h ⊢;rcases h with (⟨a,ns,e1,e2,h2⟩|⟨a,l,e1,e2,h2⟩)|⟨a,C,dx,fs,e1,h1,hn,h2|h2⟩
  ·exact .inl (.inl ⟨a,ns,e1,e2,e.seq h2⟩)
  ·exact .inl (.inr ⟨a,l,e1,e2,e _ _ h2⟩)
  ·exact .inr ⟨a,C,dx,fs,e1,e _ _ h1,hn,.inl (Isk.same e h2)⟩
  ·exact .inr ⟨a,C,dx,fs,e1,e _ _ h1,hn,.inr (Isk.same e h2)⟩
theorem Iss.same (e:aw H H'):∀{ds:List PyData} {vs:List V},Iss K H ds vs->Iss K H' ds vs
 |[],_,h=>by unfold Iss at h ⊢;exact h
 |d::ds,_,h=>by unfold Iss at h ⊢;obtain⟨v,r,e1,h1,h2⟩:=h;exact⟨v,r,e1,Is.same e h1,Iss.same e h2⟩
theorem Isk.same (e:aw H H'):∀{ds:List (PyData×PyData)} {fs:List (Str×V)},Isk K H ds fs->Isk K H' ds fs
 |[],_,h=>by unfold Isk at h ⊢;exact h
 |(k,d)::ds,_,h=>by unfold Isk at h ⊢;obtain⟨f,v,r,e1,e2,h1,h2⟩:=h;exact⟨f,v,r,e1,e2,Is.same e h1,Isk.same e h2⟩
end
theorem yb (b:Ls H A) (h:H a=some (.tup xs)):del H A a=some (.tup xs):=by rw[bG (λq=>by obtain⟨ys,e2,c⟩:=b a q;rw[h]at e2;cases e2;cases c)];exact h
mutual
theorem Is.dl {A:List Addr} (b:Ls H A):∀{d:PyData} {v:V},eZ d=true->Is K H d v->Is K (del H A) d v
 |.none,_,_,h=>by unfold Is at h ⊢;exact h
 |.bool _,_,_,h=>by unfold Is at h ⊢;exact h
 |.int _,_,_,h=>by unfold Is at h ⊢;exact h
 |.str _,_,_,h=>by unfold Is at h ⊢;exact h
 |.list _,_,n,_=>by unfold eZ at n;cases n
 |.dict _,_,n,_=>by unfold eZ at n;cases n
 |.tuple ds,_,n,h=>by unfold eZ at n;obtain⟨a,xs,e,h1,h2⟩:=h.ofTup;subst e;exact iL (yb b h1) (Iss.dl b n h2)
theorem Iss.dl {A:List Addr} (a:Ls H A):∀{ds:List PyData} {vs:List V},iN ds=true->Iss K H ds vs->Iss K (del H A) ds vs
 |[],_,_,h=>by rw[h.nil_of];exact dH
 |d::ds,_,n,h=>by unfold iN at n;obtain⟨n1,n2⟩:=BR.mp n;obtain⟨v,r,e,h1,h2⟩:=h.cons_of;subst e;exact cY (Is.dl a n1 h1) (Iss.dl a n2 h2)
end
mutual
def aE:PyData->Bool
 |.list ds=>fm ds
 |.tuple ds=>fm ds
 |.dict _=>false
 |_=>true
def fm:List PyData->Bool
 |[]=>true
 |d::ds=>aE d&&fm ds
end
mutual
theorem Is.isd:∀{d:PyData} {v:V},aE d=true->Is K H d v->IsD K H d v
 |.none,_,_,h=>by rw[h.ofNone];exact uc
 |.bool _,_,_,h=>by rw[h.ofBool];exact um
 |.int _,_,_,h=>by rw[h.ofInt];exact mK
 |.str _,_,_,h=>by rw[h.ofStr];exact vj
 |.list ds,_,n,h=>by unfold aE at n;obtain⟨a,xs,e,h1,h2⟩:=h.ofLst;subst e;exact mr (SqL.of h1) (Iss.isd n h2)
 |.tuple ds,_,n,h=>by unfold aE at n;obtain⟨a,xs,e,h1,h2⟩:=h.ofTup;subst e;exact uA (SqT.of h1) (Iss.isd n h2)
 |.dict _,_,n,_=>by unfold aE at n;cases n
theorem Iss.isd:∀{ds:List PyData} {vs:List V},fm ds=true->Iss K H ds vs->dF K H ds vs
 |[],_,_,h=>by rw[h.nil_of];exact kH
 |d::ds,_,n,h=>by unfold fm at n;obtain⟨n1,n2⟩:=BR.mp n;obtain⟨v,r,e,h1,h2⟩:=h.cons_of;subst e;exact lA (Is.isd n1 h1) (Iss.isd n2 h2)
end
noncomputable def lN:PyData->Bool
 |.none=>true
 |.bool _=>true
 |.int _=>true
 |.str _=>true
 |_=>false
theorem IsD.is {d:PyData} (n:lN d=true) (h:IsD K H d v):Is K H d v:=by
 cases d with
 |none=>rw[h.ofNone];exact is_none
 |bool _=>rw[h.ofBool];exact is_bool
 |int _=>rw[h.ofInt];exact cm
 |str _=>rw[h.ofStr];exact tD
 |_=>cases n
theorem oN {d:PyData} (n:lN d=true):eZ d=true:=by
 cases d with
 |list _=>cases n
 |tuple _=>cases n
 |dict _=>cases n
 |_=>unfold eZ;rfl
theorem Iss.get:∀{ds:List PyData} {vs:List V} {i:Nat} {v:V},Iss K H ds vs->vs[i]?=some v->∃d,ds[i]?=some d/\Is K H d v
 |[],_,i,v,h,e=>by rw[h.nil_of]at e;simp at e
 |d::ds,_,i,v,h,e=>by
  obtain⟨w,r,e1,h1,h2⟩:=h.cons_of;subst e1;cases i with
  |zero=>simp at e;subst e;exact⟨d,rfl,h1⟩
  |succ i=>simpa using Iss.get (i:=i) h2 (by simpa using e)
theorem Iss.getD:∀{ds:List PyData} {vs:List V} {i:Nat} {d:PyData},Iss K H ds vs->ds[i]?=some d->∃v,vs[i]?=some v/\Is K H d v
 |[],_,i,v,h,e=>by simp at e
 |d::ds,_,i,v,h,e=>by
  obtain⟨w,r,e1,h1,h2⟩:=h.cons_of;subst e1;cases i with
  |zero=>simp at e;subst e;exact⟨w,rfl,h1⟩
  |succ i=>simpa using Iss.getD (i:=i) h2 (by simpa using e)
theorem Iss.append:∀{ds es:List PyData} {vs us:List V},Iss K H ds vs->Iss K H es us->Iss K H (ds++es) (vs++us)
 |[],_,_,_,h,h'=>by rw[h.nil_of];exact h'
 |d::ds,es,_,us,h,h'=>by obtain⟨v,r,e,h1,h2⟩:=h.cons_of;subst e;exact cY h1 (Iss.append h2 h')
theorem Iss.take:∀{ds:List PyData} {vs:List V} (n:Nat),Iss K H ds vs->Iss K H (ds.take n) (vs.take n)
 |[],_,n,h=>by rw[h.nil_of];simpa using dH
 |d::ds,_,0,h=>by simpa using dH
 |d::ds,_,n+1,h=>by obtain⟨v,r,e,h1,h2⟩:=h.cons_of;subst e;exact cY h1 (Iss.take n h2)
theorem Iss.drop:∀{ds:List PyData} {vs:List V} (n:Nat),Iss K H ds vs->Iss K H (ds.drop n) (vs.drop n)
 |[],_,n,h=>by rw[h.nil_of];simpa using dH
 |d::ds,_,0,h=>h
 |d::ds,_,n+1,h=>by obtain⟨v,r,e,h1,h2⟩:=h.cons_of;subst e;exact Iss.drop n h2
theorem Iss.set {d:PyData} {v:V} (a:Is K H d v):∀{ds:List PyData} {vs:List V} (i:Nat),Iss K H ds vs->Iss K H (ds.set i d) (vs.set i v)
 |[],_,n,h=>by rw[h.nil_of];simpa using dH
 |e::ds,_,0,h=>by obtain⟨u,r,z,h1,h2⟩:=h.cons_of;subst z;exact cY a h2
 |e::ds,_,n+1,h=>by obtain⟨u,r,z,h1,h2⟩:=h.cons_of;subst z;exact cY h1 (Iss.set a n h2)
theorem Iss.eraseIdx:∀{ds:List PyData} {vs:List V} (i:Nat),Iss K H ds vs->Iss K H (ds.eraseIdx i) (vs.eraseIdx i)
 |[],_,n,h=>by rw[h.nil_of];simpa using dH
 |e::ds,_,0,h=>by obtain⟨u,r,z,h1,h2⟩:=h.cons_of;subst z;exact h2
 |e::ds,_,n+1,h=>by obtain⟨u,r,z,h1,h2⟩:=h.cons_of;subst z;exact cY h1 (Iss.eraseIdx n h2)
theorem Iss.rep {ds:List PyData} {vs:List V} (h:Iss K H ds vs):∀k:Nat,Iss K H (List.replicate k ds).flatten (List.replicate k vs).flatten
 |0=>dH
 |k+1=>by rw[BN,BN,BU,BU];exact h.append (Iss.rep h k)
theorem nU:∀(ns:List Int),Iss K H (ns.map PyData.int) (ns.map V.int)
 |[]=>dH
 |_::r=>cY cm (nU r)
theorem Iss.ofInts:∀{ns:List Int} {vs:List V},Iss K H (ns.map PyData.int) vs->vs=ns.map V.int
 |[],_,h=>h.nil_of
 |n::r,_,h=>by obtain⟨v,t,e,h1,h2⟩:=h.cons_of;rw[e,h1.ofInt,Iss.ofInts h2];rfl
theorem Iss.ofBools:∀{ns:List Bool} {vs:List V},Iss K H (ns.map PyData.bool) vs->vs=ns.map V.bl
 |[],_,h=>h.nil_of
 |n::r,_,h=>by obtain⟨v,t,e,h1,h2⟩:=h.cons_of;rw[e,h1.ofBool,Iss.ofBools h2];rfl
theorem Is.isNone {d:PyData} (h:Is K H d v):(v=.non)↔d=.none:=by
 cases d with
 |none=>simp[h.ofNone]
 |bool b=>simp[h.ofBool]
 |int i=>simp[h.ofInt]
 |str x=>simp[h.ofStr]
 |list ds=>obtain⟨a,xs,e,_⟩:=h.ofLst;simp[e]
 |tuple ds=>obtain⟨a,xs,e,_⟩:=h.ofTup;simp[e]
 |dict _=>unfold Is at h;rcases h with (⟨a,ns,e,_⟩|⟨a,l,e,_⟩)|⟨a,C,dx,fs,e,_⟩ <;> simp[e]
theorem a8 {p:Addr} (h:H p=none):aw H (upd H p o):=i3 h
theorem mG {p:Addr} (h:p∈A):del (upd H p o) A=del H A:=by
 funext b;by_cases z:b∈A
 ·rw[jb z,jb z]
 ·rw[bG z,bG z,aN (by rintro rfl;exact z h)]
theorem iV {p:Addr} (b:Ls H A) (a:H p=none) (h:Iss K (del H A) ds xs):Is K (del (upd H p (.tup xs)) A) (.tuple ds) (.ref p) :=
 iL (by rw[bG (b.new a)];exact aV) (h.same (aw.del (a8 a)))
theorem ip {p:Addr} (b:Ls H A) (a:H p=none) (h:Iss K (del H A) ds xs):Is K (del (upd H p (.lst xs)) A) (.list ds) (.ref p) :=
 mL (by rw[bG (b.new a)];exact aV) (h.same (aw.del (a8 a)))
end
abbrev Ds:=List (Option PyData)
variable {δ:Ds} {cond:Ds->Rs Bool} {ge:Ds->Rs PyData} {tgt:PyData->Option Ds} {gs:Ds->Rs (List PyData)}
structure cK (K:PySem.W.Frag) (H:Hp) (A:List Addr) (δ:Ds) (σ:St):Prop where
 ls:Ls H A
 len:δ.length=σ.length
 get:∀(i:Nat) (d:PyData),δ[i]?=some (some d)->∃v,σ[i]?=some (some v)/\Is K (del H A) d v
theorem cK.same (R:cK K H A δ σ) (s:aw H H'):cK K H' A δ σ :=
 ⟨R.ls.same s,R.len,λi d e=>by obtain⟨v,e1,h⟩:=R.get i d e;exact⟨v,e1,h.same s.del⟩⟩
def fF (K:PySem.W.Frag) (E:XK) (A:List Addr) (H:Hp) (r:Rs PyData) (Q:VK):Prop:=match r with
 |.ok d=>∀v H',aw H H'->Is K (del H' A) d v->Q v H'
 |.rz C=>∀H',aw H H'->E (.ref C) none H'
 |.no=>False
def AV (K:PySem.W.Frag) (E:XK) (A:List Addr) (H:Hp) (r:Rs (List PyData)) (Q:List V->Hp->Prop):Prop:=match r with
 |.ok d=>∀v H',aw H H'->Iss K (del H' A) d v->Q v H'
 |.rz C=>∀H',aw H H'->E (.ref C) none H'
 |.no=>False
def nH (E:XK) (H:Hp) (r:Rs Bool) (Q:Bool->Hp->Prop):Prop:=match r with
 |.ok d=>∀H',aw H H'->Q d H'
 |.rz C=>∀H',aw H H'->E (.ref C) none H'
 |.no=>False
def eD (K:PySem.W.Frag) (E:XK) (g:Ds->Rs PyData):TE:=λσ H Q=>∃A δ,cK K H A δ σ/\fF K E A H (g δ) Q
def aD (K:PySem.W.Frag) (E:XK) (g:Ds->Rs (List PyData)):TA:=λσ H Q=>∃A δ,cK K H A δ σ/\AV K E A H (g δ) Q
noncomputable def cD (K:PySem.W.Frag) (E:XK) (g:Ds->Rs Bool):TT:=λσ H Q=>∃A δ,cK K H A δ σ/\nH E H (g δ) Q
def PD (X:Cx) (E:XK) (e:Expr) (g:Ds->Rs PyData):Prop:=PE X e (eD X.K E g)
def PAD (X:Cx) (E:XK) (es:List Expr) (g:Ds->Rs (List PyData)):Prop:=PA X es (aD X.K E g)/\∀δ ds,g δ=.ok ds->ds.length=es.length
def PCD (X:Cx) (E:XK) (e:Expr) (g:Ds->Rs Bool):Prop:=PT X e (cD X.K E g)
def PWD (X:Cx) (E:XK) (e:Expr) (g:Ds->Rs Bool):Prop:=PW X e (cD X.K E g)
theorem PE.imp {t t':TE} (h:PE X e t) (k:∀σ H Q,t' σ H Q->t σ H Q):PE X e t':=λpins s σ H Q I q=>h pins s σ H Q I (k σ H Q q)
theorem PT.imp {t t':TT} (h:PT X e t) (k:∀σ H Q,t' σ H Q->t σ H Q):PT X e t':=λpins s σ H Q I q=>h pins s σ H Q I (k σ H Q q)
theorem PW.imp {t t':TT} (h:PW X e t) (k:∀σ H Q,t' σ H Q->t σ H Q):PW X e t':=λw pins s σ H Q I q=>h w pins s σ H Q I (k σ H Q q)
theorem PA.imp {e:List Expr} {t t':TA} (h:PA X e t) (k:∀σ H Q,t' σ H Q->t σ H Q):PA X e t':=λp pins s σ H Q I q=>h p pins s σ H Q I (k σ H Q q)
theorem PS.imp {e:Stmt} {t t':TS} (h:PS X e t) (k:∀D σ H,t' D σ H->t D σ H):PS X e t':=λpins s σ H D I q=>h pins s σ H D I (k D σ H q)
theorem PSs.imp {e:List Stmt} {t t':TS} (h:PSs X e t) (k:∀D σ H,t' D σ H->t D σ H):PSs X e t':=λpins s σ H D I q=>h pins s σ H D I (k D σ H q)
theorem fF.mono {r:Rs PyData} {Q:VK} (h:fF K E A H r Q) (s:aw H H1):fF K E A H1 r Q:=by
 cases r with
 |ok d=>exact λv H' s' q=>h v H' (s.trans s') q
 |rz C=>exact λH' s'=>h H' (s.trans s')
 |no=>exact h
theorem nH.mono {r:Rs Bool} {Q:Bool->Hp->Prop} (h:nH E H r Q) (s:aw H H1):nH E H1 r Q:=by
 cases r with
 |ok d=>exact λH' s'=>h H' (s.trans s')
 |rz C=>exact λH' s'=>h H' (s.trans s')
 |no=>exact h
theorem eD.run {g:Ds->Rs PyData} {Q:VK} (R:cK K H A δ σ)
  (ok:∀d,g δ=.ok d->∀v H',aw H H'->cK K H' A δ σ->Is K (del H' A) d v->Q v H') (rz:∀C,g δ=.rz C->∀H',aw H H'->E (.ref C) none H') (no:g δ=.no->False):eD K E g σ H Q:=by
 refine⟨A,δ,R,?_⟩;cases e:g δ with
 |ok d=>exact λv H' s q=>ok d e v H' s (R.same s) q
 |rz C=>exact λH' s=>rz C e H' s
 |no=>exact no e
theorem aD.run {g:Ds->Rs (List PyData)} {Q:List V->Hp->Prop} (R:cK K H A δ σ)
  (ok:∀d,g δ=.ok d->∀v H',aw H H'->cK K H' A δ σ->Iss K (del H' A) d v->Q v H') (rz:∀C,g δ=.rz C->∀H',aw H H'->E (.ref C) none H') (no:g δ=.no->False):aD K E g σ H Q:=by
 refine⟨A,δ,R,?_⟩;cases e:g δ with
 |ok d=>exact λv H' s q=>ok d e v H' s (R.same s) q
 |rz C=>exact λH' s=>rz C e H' s
 |no=>exact no e
theorem cD.run {g:Ds->Rs Bool} {Q:Bool->Hp->Prop} (R:cK K H A δ σ)
  (ok:∀d,g δ=.ok d->∀H',aw H H'->cK K H' A δ σ->Q d H') (rz:∀C,g δ=.rz C->∀H',aw H H'->E (.ref C) none H') (no:g δ=.no->False):cD K E g σ H Q:=by
 refine⟨A,δ,R,?_⟩;cases e:g δ with
 |ok d=>exact λH' s=>ok d e H' s (R.same s)
 |rz C=>exact λH' s=>rz C e H' s
 |no=>exact no e
def af (i:Nat):Ds->Rs PyData:=λδ=>match δ[i]? with
 |some (some d)=>.ok d
 |_=>.no
def gC (d:PyData):Ds->Rs PyData:=λ_=>.ok d
def g1 (f:PyData->Option PyData) (a:Ds->Rs PyData):Ds->Rs PyData:=λδ=>(a δ).bind λx=>Rs.cW (f x)
def g2 (f:PyData->PyData->Option PyData) (a b:Ds->Rs PyData):Ds->Rs PyData:=λδ=>(a δ).bind λx=>(b δ).bind λy=>Rs.cW (f x y)
def gF (f:List PyData->Option PyData) (as:Ds->Rs (List PyData)):Ds->Rs PyData:=λδ=>(as δ).bind λds=>Rs.cW (f ds)
def ah:Ds->Rs (List PyData):=λ_=>.ok []
def ae (a:Ds->Rs PyData) (r:Ds->Rs (List PyData)):Ds->Rs (List PyData):=λδ=>(a δ).bind λx=>(r δ).bind λxs=>.ok (x::xs)
def dm (as:Ds->Rs (List PyData)):Ds->Rs PyData:=λδ=>(as δ).bind λds=>.ok (.tuple ds)
def bu (as:Ds->Rs (List PyData)):Ds->Rs PyData:=λδ=>(as δ).bind λds=>.ok (.list ds)
def ai (gf:List PyData->Rs PyData) (as:Ds->Rs (List PyData)):Ds->Rs PyData:=λδ=>(as δ).bind gf
def truth:PyData->Rs Bool
 |.bool b=>.ok b
 |_=>.no
def gT (a:Ds->Rs PyData):Ds->Rs Bool:=λδ=>(a δ).bind truth
def eu (a:Ds->Rs Bool):Ds->Rs Bool:=λδ=>(a δ).bind λb=>.ok (!b)
def AX (a b:Ds->Rs Bool):Ds->Rs Bool:=λδ=>(a δ).bind λx=>if x=true then b δ else .ok false
def cOr (a b:Ds->Rs Bool):Ds->Rs Bool:=λδ=>(a δ).bind λx=>if x=true then .ok true else b δ
def rF (a b:Ds->Rs PyData):Ds->Rs PyData:=λδ=>(a δ).bind λx=>(truth x).bind λt=>if t=true then b δ else .ok (.bool false)
def gOr (a b:Ds->Rs PyData):Ds->Rs PyData:=λδ=>(a δ).bind λx=>(truth x).bind λt=>if t=true then .ok (.bool true) else b δ
def AO (a:Ds->Rs PyData):Ds->Rs PyData:=λδ=>(a δ).bind λx=>(truth x).bind λt=>.ok (.bool (!t))
section
variable {a b c:Expr} {ga gb gc:Ds->Rs PyData}
theorem wM (i:Nat) (c:X.N[i]?=some x) (f:Vis X.env.scope x) (hd:(x==("__debug__":Str))=false)
  (a:(x==("__classdict__":Str))=false):PD X E (.Name x pos) (af i) :=
 (eM c f hd a).imp λσ H Q b=>by
  obtain⟨A,δ,R,o⟩:=b;unfold af at o;split at o
  ·rename_i d e;obtain⟨v,e1,h⟩:=R.get i d e;exact⟨v,e1,o v H (aw.refl H) h⟩
  ·exact o.elim
theorem rO {d:PyData} (h:PE X e (tC v)) (hi:∀K H,Is K H d v):PD X E e (gC d):=h.imp λσ H Q a=>(by obtain⟨A,δ,R,o⟩:=a;exact o v H (aw.refl H) (hi _ _))
theorem wC {i j pos}:PD X E (.Constant (.int i) j pos) (gC (.int i)):=rO fM λ_ _=>cm
theorem zV {i j pos}:PD X E (.Constant (.bool i) j pos) (gC (.bool i)):=rO tI λ_ _=>is_bool
theorem yJ {j pos}:PD X E (.Constant .none j pos) (gC .none):=rO xt λ_ _=>is_none
theorem xT {i j pos}:PD X E (.Constant (.str i) j pos) (gC (.str i)):=rO yt λ_ _=>tD
theorem uO {i:Int} (hm:∃t,X.mg x=some (.int i t)) (a:Gl X x) (hd:(x==("__debug__":Str))=false):PD X E (.Name x pos) (gC (.int i)):=by obtain⟨t,hm⟩:=hm;exact rO (aK (v:=.int i) a hm ⟨_,rfl⟩ hd) λ_ _=>cm
def OpD (K:PySem.W.Frag) (f:PyData->PyData->Option PyData) (r:R2):Prop :=
 ∀(d1 d2 d:PyData) (x y:V) (H:Hp) (A:List Addr) (Q:VK),f d1 d2=some d->Ls H A->Is K (del H A) d1 x->Is K (del H A) d2 y->(∀v H',aw H H'->Is K (del H' A) d v->Q v H')->r x y H Q
theorem g2.read {r:R2} {Q:VK} (b:OpD K f r) (R:cK K H A δ σ) (o:fF K E A H (g2 f ga gb δ) Q) :
  tOp r (eD K E ga) (eD K E gb) σ H Q:=by
 unfold g2 at o;refine eD.run R (λd1 e1 v H1 a c h1=>?_) (λC e1 H' s'=>?_) (λe1=>?_)
 ·rw[e1]at o;refine eD.run c (λd2 e2 u H2 s2 R2 h2=>?_) (λC e2 H' s'=>?_) (λe2=>?_)
  ·simp only[Rs.ak,e2]at o;cases e3:f d1 d2 with
   |none=>rw[e3]at o;exact o.elim
   |some d =>rw[e3]at o;exact b d1 d2 d v u H2 A Q e3 R2.ls (h1.same s2.del) h2 λw H' s q=>o w H' (a.trans (s2.trans s)) q
  ·simp only[Rs.ak,e2,Rs.fy]at o;exact o H' (a.trans s')
  ·simp only[Rs.ak,e2,Rs.cc]at o;exact o
 ·rw[e1]at o;exact o H' s'
 ·rw[e1]at o;exact o
theorem g0 {r:R2} (g:OpD X.K f r) (ha:PD X E a ga) (h:PD X E b gb) (mk:∀{ta tb:TE},PE X a ta->PE X b tb->PE X e (tOp r ta tb)):PD X E e (g2 f ga gb) :=
 (mk ha h).imp λσ H Q c=>(by obtain⟨A,δ,R,o⟩:=c;exact g2.read g R o)
theorem jZ {r:R2} (g:OpD X.K f r) (ha:PD X E a ga) (i:PD X E b gb) (mk:∀{ta tb:TE},PE X a ta->PE X b tb->PT X e (wb (tOp r ta tb))):PCD X E e (gT (g2 f ga gb)) :=
 (mk ha i).imp λσ H Q c=>by
  obtain⟨A,δ,R,o⟩:=c;refine g2.read (Q:=λx H'=>∃k,x=.bl k/\Q k H') g R ?_;unfold gT at o;cases q:g2 f ga gb δ with
  |no=>rw[q]at o;exact o
  |rz C=>rw[q]at o;exact o
  |ok d =>
   rw[q]at o;cases d with
   |bool k=>exact λv H' s h=>⟨k,h.ofBool,o H' s⟩
   |_=>exact o.elim
noncomputable def dI (f:Int->Int->Option PyData):PyData->PyData->Option PyData
 |.int i,.int j=>f i j
 |_,_=>none
theorem p8 {f:Int->Int->Option PyData} {d1 d2 d:PyData} (h:dI f d1 d2=some d):∃i j,d1=.int i/\d2=.int j/\f i j=some d:=by
 unfold dI at h;split at h
 ·exact⟨_,_,rfl,rfl,h⟩
 ·cases h
def e6:=dI λi j=>some (.int (i-j))
def cw:=dI λi j=>if 0<j then some (.int (i % j)) else none
def ki:=dI λi j=>if 0<j/\j<1073741824 then some (.int (i / j)) else none
def qb:=dI λi j=>if 0<=j/\j<=1000000/\i.natAbs<2 ^ 64 then some (.int (i ^ j.toNat)) else none
def dLt:=dI λi j=>some (.bool (decide (i<j)))
def dLe:=dI λi j=>some (.bool (decide (i<=j)))
def dGt:=dI λi j=>some (.bool (decide (j<i)))
def dGe:=dI λi j=>some (.bool (decide (j<=i)))
theorem kj {f:Int->Int->PyData} {v:Int->Int->V} (a:∀i j K H,Is K H (f i j) (v i j)):OpD K (dI λi j=>some (f i j)) (rI0 v):=λd1 d2 d x y H A Q e hA h1 h2 k=>by obtain⟨i,j,rfl,rfl,e⟩:=p8 e;cases e;exact⟨i,j,h1.ofInt,h2.ofInt,k _ H (aw.refl H) (a _ _ _ _)⟩
theorem uw {C a:Int->Int->Prop} [∀i j,Decidable (a i j)] {f:Int->Int->PyData} {v:Int->Int->V} (hc:∀i j,a i j->C i j) (b:∀i j K H,Is K H (f i j) (v i j)):OpD K (dI λi j=>if a i j then some (f i j) else none) (rI C v):=λd1 d2 d x y H A Q e hA h1 h2 k=>by
 obtain⟨i,j,rfl,rfl,e2⟩:=p8 e;by_cases z:a i j
 ·simp only[if_pos z]at e2;cases e2;exact⟨i,j,h1.ofInt,h2.ofInt,hc i j z,k _ H (aw.refl H) (b _ _ _ _)⟩
 ·simp only[if_neg z]at e2;cases e2
theorem yx (ha:PD X E a ga) (c:PD X E b gb):PD X E (.BinOp a .Sub b pos) (g2 e6 ga gb):=g0 (kj λ_ _ _ _=>cm) ha c (dE xl)
theorem wO (ha:PD X E a ga) (c:PD X E b gb):PD X E (.BinOp a .Mod b pos) (g2 cw ga gb):=g0 (uw (λ_ _ h=>h) λ_ _ _ _=>cm) ha c (dE kn)
theorem xF (ha:PD X E a ga) (c:PD X E b gb):PD X E (.BinOp a .FloorDiv b pos) (g2 ki ga gb):=g0 (uw (C:=zN) (λ_ _ h=>h) λ_ _ _ _=>cm) ha c (dE uY)
theorem xD (ha:PD X E a ga) (c:PD X E b gb):PD X E (.BinOp a .Pow b pos) (g2 qb ga gb):=g0 (uw (C:=zu) (λ_ _ h=>h) λ_ _ _ _=>cm) ha c (dE xU)
theorem wX (ha:PD X E a ga) (c:PD X E b gb):PCD X E (.Compare a [.Lt] [b] pos) (gT (g2 dLt ga gb)):=jZ (kj λ_ _ _ _=>is_bool) ha c λh1 h2=>i7 zw h1 h2 (gO _)
theorem xX (ha:PD X E a ga) (c:PD X E b gb):PCD X E (.Compare a [.Gt] [b] pos) (gT (g2 dGt ga gb)):=jZ (kj λ_ _ _ _=>is_bool) ha c λh1 h2=>i7 zD h1 h2 (gO _)
open PySem.SeqAt in
def dEq (x y:PyData):Option PyData:=if aE x&&aE y&&shaped x&&shaped y then some (.bool (PyData.eqv x y)) else none
open PySem.SeqAt in
def dNe (x y:PyData):Option PyData:=if aE x&&aE y&&shaped x&&shaped y then some (.bool (!PyData.eqv x y)) else none
open PySem.SeqAt in
theorem ub:OpD K dEq (λx y H Q=>∃d e,IsD K H d x/\IsD K H e y/\shaped d=true/\shaped e=true/\Q (.bl (PyData.eqv d e)) H):=λd1 d2 d x y H A Q e hA h1 h2 k=>by
 unfold dEq at e;split at e
 ·rename_i z;simp only[Bs]at z;cases e;exact⟨d1,d2,(h1.same aC).isd z.1.1.1,(h2.same aC).isd z.1.1.2,z.1.2,z.2,k _ H (aw.refl H) is_bool⟩
 ·cases e
open PySem.SeqAt in
theorem wN:OpD K dNe (λx y H Q=>∃d e,IsD K H d x/\IsD K H e y/\shaped d=true/\shaped e=true/\Q (.bl (!PyData.eqv d e)) H):=λd1 d2 d x y H A Q e hA h1 h2 k=>by
 unfold dNe at e;split at e
 ·rename_i z;simp only[Bs]at z;cases e;exact⟨d1,d2,(h1.same aC).isd z.1.1.1,(h2.same aC).isd z.1.1.2,z.1.2,z.2,k _ H (aw.refl H) is_bool⟩
 ·cases e
theorem zT (c:X.A.units+64<cLine) (ha:PD X E a ga) (e:PD X E b gb):PD X E (.Compare a [.Eq] [b] pos) (g2 dEq ga gb):=g0 ub ha e λh1 h2=>mH (pC c) h1 h2 (gO _)
theorem yk (c:X.A.units+64<cLine) (ha:PD X E a ga) (e:PD X E b gb):PCD X E (.Compare a [.Eq] [b] pos) (gT (g2 dEq ga gb)):=jZ ub ha e λh1 h2=>i7 (pC c) h1 h2 (gO _)
theorem xa (c:X.A.units+64<cLine) (ha:PD X E a ga) (e:PD X E b gb):PCD X E (.Compare a [.NotEq] [b] pos) (gT (g2 dNe ga gb)):=jZ wN ha e λh1 h2=>i7 (yr c) h1 h2 (gO _)
noncomputable def eV:PyData->Bool
 |.none=>true
 |_=>false
def vM (x:PyData):Option PyData:=some (.bool (eV x))
def zX (x:PyData):Option PyData:=some (.bool (!eV x))
theorem g1.read {tt:(VK)->VK} {f:PyData->Option PyData} {Q:VK} (R:cK K H A δ σ) (o:fF K E A H (g1 f ga δ) Q)
  (b:∀d1 d x H',f d1=some d->Ls H' A->aw H H'->Is K (del H' A) d1 x->(∀v H2,aw H' H2->Is K (del H2 A) d v->Q v H2)->tt Q x H'):eD K E ga σ H (tt Q):=by
 unfold g1 at o;refine eD.run R (λd1 e1 v H1 a c h1=>?_) (λC e1 H' s'=>?_) (λe1=>?_)
 ·simp only[e1,Rs.ak]at o;cases e3:f d1 with
  |none=>rw[e3]at o;exact o.elim
  |some d=>rw[e3]at o;exact b d1 d v H1 e3 c.ls a h1 λw H' s q=>o w H' (a.trans s) q
 ·rw[e1]at o;exact o H' s'
 ·rw[e1]at o;exact o
theorem xQ {d:PyData} (h:Is K H d v):decide (v=.non)=eV d:=by
 by_cases z:v=.non
 ·rw[decide_eq_true z,h.isNone.mp z];rfl
 ·rw[decide_eq_false z];have:d≠.none:=λq=>z (h.isNone.mpr q)
  cases d <;> first|(exact absurd rfl this)|rfl
theorem yy {j pos'} (ha:PD X E a ga):PD X E (.Compare a [.Is] [.Constant .none j pos'] pos) (g1 vM ga) :=
 (xB (wU ha)).imp λσ H Q ⟨A,δ,R,o⟩=>g1.read (tt:=λQ x H1=>Q (.bl (decide (x=.non))) H1) R o λd1 d x H' e _ _ h k=>by cases e;rw[xQ h];exact k _ H' (aw.refl _) is_bool
theorem xh {t:TE} (h:PT X e (tB t)) (k:∀σ H Q,eD X.K E ga σ H Q->t σ H Q):PCD X E e (gT ga):=h.imp λσ H Q ⟨A,δ,R,o⟩=>k σ H _ ⟨A,δ,R,by
 unfold gT at o;cases q:ga δ with
 |no=>rw[q]at o;exact o
 |rz C=>rw[q]at o;exact o
 |ok d =>
  rw[q]at o;cases d with
  |bool c=>exact λv H' s h=>⟨c,h.ofBool,o H' s⟩
  |_=>exact o.elim⟩
theorem vp (h:PD X E e ga) (a:∀whole,isTrue e X.env whole=(do let v <-whole;standAt e.pos;holding [v] (truthy v))):PCD X E e (gT ga):=xh (xj h a) λ_ _ _ h=>h
theorem wo {ca:Ds->Rs Bool} {f:Bool->Rs Bool} {Q:Bool->Hp->Prop} {t:Bool->Hp->Prop} (R:cK K H A δ σ) (o:nH E H ((ca δ).bind f) Q)
  (k:∀b H1,aw H H1->cK K H1 A δ σ->nH E H1 (f b) Q->t b H1):cD K E ca σ H t:=by
 refine cD.run R (λb e H1 a c=>?_) (λC e H' s'=>?_) (λe=>?_)
 ·rw[e]at o;exact k b H1 a c (nH.mono (show nH E H (f b) Q from o) a)
 ·rw[e]at o;exact o H' s'
 ·rw[e]at o;exact o
variable {ca cb:Ds->Rs Bool} {rest:List Expr}
theorem vA (ha:PCD X E a ca):PCD X E (.UnaryOp .Not a pos) (eu ca):=(yd ha).imp λσ H Q c=>(by obtain⟨A,δ,R,o⟩:=c;exact wo R o λb H1 s1 R1 o=>o H1 (aw.refl _))
theorem vL (ha:PCD X E a ca):PWD X E (.BoolOp .Or [a] pos) ca:=wH ha
theorem sg (ha:PCD X E a ca) (c:PWD X E (.BoolOp .Or (b::rest) pos) cb):PWD X E (.BoolOp .Or (a::b::rest) pos) (cOr ca cb):=PW.imp (yY ha c) λσ H Q ⟨A,δ,R,o⟩=>wo R o λb H1 s1 e o=>by
 cases b with
 |false=>exact⟨A,δ,e,o⟩
 |true=>exact o H1 (aw.refl _)
theorem wg (h:PWD X E e ca):PCD X E e ca:=PW.pt h
theorem v8 {f:PyData->Rs PyData} {Q:VK} {t:VK} (R:cK K H A δ σ) (o:fF K E A H ((ga δ).bind f) Q)
  (k:∀d v H1,aw H H1->cK K H1 A δ σ->Is K (del H1 A) d v->fF K E A H1 (f d) Q->t v H1):eD K E ga σ H t:=by
 refine eD.run R (λd e v H1 a b h1=>?_) (λC e H' s'=>?_) (λe=>?_)
 ·rw[e]at o;exact k d v H1 a b h1 (fF.mono (show fF K E A H (f d) Q from o) a)
 ·rw[e]at o;exact o H' s'
 ·rw[e]at o;exact o
theorem kN {d:PyData} {f:Bool->Rs PyData} {Q:VK} (o:fF K E A H ((truth d).bind f) Q):∃t,d=.bool t/\fF K E A H (f t) Q:=by
 cases d with
 |bool t=>exact⟨t,rfl,o⟩
 |_=>exact o.elim
theorem wZ {op} (ha:PD X E a ga):PD X E (.BoolOp op [a] pos) ga:=tF ha
theorem xP (ha:PD X E a ga) (c:PD X E (.BoolOp .And (b::rest) pos) gb):PD X E (.BoolOp .And (a::b::rest) pos) (rF ga gb):=(pf ha c).imp λσ H Q ⟨A,δ,R,o⟩=>v8 R o λd v H1 s1 e h1 o=>by
 obtain⟨t,rfl,o⟩:=kN o;refine⟨t,h1.ofBool,?_⟩;cases t with
 |true=>exact⟨A,δ,e,o⟩
 |false=>exact o _ H1 (aw.refl _) is_bool
theorem yP (ha:PD X E a ga) (c:PD X E (.BoolOp .Or (b::rest) pos) gb):PD X E (.BoolOp .Or (a::b::rest) pos) (gOr ga gb):=(Aj ha c).imp λσ H Q ⟨A,δ,R,o⟩=>v8 R o λd v H1 s1 e h1 o=>by
 obtain⟨t,rfl,o⟩:=kN o;refine⟨t,h1.ofBool,?_⟩;cases t with
 |false=>exact⟨A,δ,e,o⟩
 |true=>exact o _ H1 (aw.refl _) is_bool
def fQ:PyData->Option PyData
 |.int i=>some (.int (-i))
 |_=>none
theorem yG (ha:PD X E a ga):PD X E (.UnaryOp .USub a pos) (g1 fQ ga):=(Ab xC ha).imp λσ H Q ⟨A,δ,R,o⟩=>g1.read (tt:=λQ x H1=>∃i,x=.int i/\Q (.int (-i)) H1) R o λd1 d x H' e _ _ h k=>by
 cases d1 with
 |int i=>cases e;exact⟨i,h.ofInt,k _ H' (aw.refl _) cm⟩
 |_=>cases e
theorem ux:PAD X E [] ah:=⟨dw.imp λσ H Q a=>(by obtain⟨A,δ,R,o⟩:=a;exact o [] H (aw.refl _) dH),λδ ds e=>by cases e;rfl⟩
theorem ug (ha:PD X E a ga) (b:PAD X E es gs) (f:starEach (a::es) X.env=(false,eval a X.env)::starEach es X.env):PAD X E (a::es) (ae ga gs):=by
 refine⟨(bX ha b.1 f).imp λσ H Q ⟨A,δ,R,o⟩=>?_,λδ ds e=>?_⟩
 ·unfold ae at o;refine eD.run R (λd e v H1 c g h1=>?_) (λC e H' s'=>?_) (λe=>?_)
  ·simp only[e,Rs.ak]at o;refine aD.run g (λds e2 vs H2 s2 R2 h2=>?_) (λC e2 H' s'=>?_) (λe2=>?_)
   ·simp only[e2,Rs.ak]at o;exact o _ H2 (c.trans s2) (cY (h1.same s2.del) h2)
   ·simp only[e2,Rs.fy]at o;exact o H' (c.trans s')
   ·simp only[e2,Rs.cc]at o;exact o
  ·simp only[e,Rs.fy]at o;exact o H' s'
  ·simp only[e,Rs.cc]at o;exact o
 ·unfold ae at e;cases q:ga δ with
  |ok d =>
   cases q2:gs δ with
   |ok l =>simp only[q,q2,Rs.ak]at e;cases e;simp[b.2 δ l q2]
   |rz C=>simp only[q,q2,Rs.ak,Rs.fy]at e;cases e
   |no=>simp only[q,q2,Rs.ak,Rs.cc]at e;cases e
  |rz C=>simp only[q,Rs.fy]at e;cases e
  |no=>simp only[q,Rs.cc]at e;cases e
theorem lE {f:List PyData->Rs PyData} {Q:VK} {t:List V->Hp->Prop} (R:cK K H A δ σ) (o:fF K E A H ((gs δ).bind f) Q)
  (k:∀ds vs H1,gs δ=.ok ds->aw H H1->cK K H1 A δ σ->Iss K (del H1 A) ds vs->fF K E A H1 (f ds) Q->t vs H1):aD K E gs σ H t:=by
 refine aD.run R (λd e v H1 a b h1=>?_) (λC e H' s'=>?_) (λe=>?_)
 ·rw[e]at o;exact k d v H1 e a b h1 (fF.mono (show fF K E A H (f d) Q from o) a)
 ·rw[e]at o;exact o H' s'
 ·rw[e]at o;exact o
theorem wD {x1} (h:PAD X E es gs) (hl:es.length<=1000):PD X E (.Tuple es x1 pos) (dm gs):=(xE h.1).imp λσ H Q ⟨A,δ,R,o⟩=>lE R o λds vs H1 e s1 b h1 o=>by have n:=h.2 δ ds e;have m:=h1.length;exact⟨by rw[sizeLine_eq];omega,λp a=>o _ _ (a8 a) (iV b.ls a h1)⟩
theorem yf (h:PAD X E es gs) (hl:es.length<=1000):PD X E (.List es pos) (bu gs):=(iI h.1).imp λσ H Q ⟨A,δ,R,o⟩=>lE R o λds vs H1 e s1 b h1 o=>by have n:=h.2 δ ds e;have m:=h1.length;exact⟨by rw[sizeLine_eq];omega,λp a=>o _ _ (a8 a) (ip b.ls a h1)⟩
def spD (K:PySem.W.Frag) (n:Nat) (gf:List PyData->Rs PyData):Sp:=λvs H Q E=>∃A ds,Ls H A/\Iss K (del H A) ds vs/\ds.length=n/\fF K E A H (gf ds) Q
structure iA (P:Program) (w:World) (K:PySem.W.Frag) (mg:Str->Option Value) (base:Heap) (k:Nat) (x:Str) (n:Nat) (gf:List PyData->Rs PyData):Prop where
 ex:∃f fd ps,fJ P w K mg base (CXW P w) k f fd ps (spD K n gf)/\mg x=some (.ref f)/\PySem.W.keepIn K (.ref f)=true/\Binds K fd ps []
theorem sJ:Passes (CXW X.prog X.w) X E0:=λ_ _ _ _ _ _ _ a=>(by obtain⟨_,_,_,_,_,_,h,_⟩:=a;exact h.elim)
theorem vW (D:iA X.prog X.w X.K X.mg X.base k x (e::es).length gf) (h:dG j X.A) (i:Passes (CXW X.prog X.w) X E) (ha:PAD X E (e::es) gs) (l:k<=j) (m:Gl X x)
  (a:(x==("__debug__":Str))=false) (n:starEach (e::es) X.env=(false,eval e X.env)::starEach es X.env) (b:(backTo pos (starEach es X.env)).any (·.1)=false) :
  PD X E (.Call (.Name x p) (e::es) [] pos) (ai gf gs):=by
 obtain⟨f,fd,ps,F,hm,c,q⟩:=D.ex;refine (pH F (h.mono l) m hm c q .nil i ha.1 a n b).imp λσ H Q g=>?_
 obtain⟨A,δ,R,o⟩:=g;refine lE R o λds vs H1 e s1 r h1 o=>?_
 refine⟨A,ds,r.ls,by simpa using h1,ha.2 δ ds e,o⟩
def FnD (K:PySem.W.Frag) (f:List PyData->Option PyData) (r:List V->Hp->VK->Prop):Prop :=
 ∀(ds:List PyData) (d:PyData) (vs:List V) (H:Hp) (A:List Addr) (Q:VK),f ds=some d->Ls H A->Iss K (del H A) ds vs->(∀v H',aw H H'->Is K (del H' A) d v->Q v H')->r vs H Q
theorem e9 {r:List V->Hp->VK->Prop} {f:List PyData->Option PyData} (a:FnD X.K f r) (ha:PAD X E es gs) (mk:∀{t:TA},PA X es t->PE X e (tCB r t)):PD X E e (gF f gs) :=
 (mk ha.1).imp λσ H Q ⟨A,δ,R,o⟩=>lE R o λds vs H1 e s1 b h1 o=>by
  cases q:f ds with
  |none=>rw[q]at o;exact o.elim
  |some d=>rw[q]at o;exact a ds d vs H1 A Q q b.ls h1 o
end
section
variable {a b c:Expr} {ga gb gc:Ds->Rs PyData}
def wx (K:PySem.W.Frag):R2:=λx y H Q=>∃a b xs ys,x=.ref a/\y=.ref b/\SqT K H a xs/\SqT K H b ys/\xs.length+ys.length<=sizeLine /\
 (xs=[]->Q (.ref b) H)/\(xs≠[]->ys=[]->Q (.ref a) H)/\(xs≠[]->ys≠[]->∀p,H p=none->Q (.ref p) (upd H p (.tup (xs++ys))))
theorem v7:OpR X (binaryOp .Add) (wx X.K):=by
 intro pins s σ H x y v u Q I i j h;obtain⟨a,b,xs,ys,rfl,rfl,ha,k,m,o,p,q⟩:=h;by_cases hx:xs=[]
 ·cases i;cases j;obtain⟨vs,r,p1,_⟩:=I.tuple ha;obtain⟨t,r2,p2,_⟩:=I.tuple k;obtain⟨⟨cls,dd,data,w⟩,l,hc,n,hd⟩:=id p1;obtain⟨⟨cls2,f,data2,g⟩,c,e,n2,hd2⟩:=id p2;simp only at hc hd e hd2;subst hc hd e hd2;have z:vs=[]:=r.nil_iff.mpr hx;exact concat_meets ⟨_,l,rfl⟩ ⟨_,c,rfl⟩ noFill_tuple_add seq_tuple_add PySem.F.slot_tuple_add PySem.F.entry_tuple_add (PySem.F.args_tuple_add_2 _ _)
   (tuple_addW0 a b vs.toArray t.toArray n n2 dd f w g (by simp[z])) ⟨l,c,⟨.ref b,H,I,rfl,o hx⟩⟩
 ·exact v3 pins s σ H _ _ v u Q I i j ⟨a,b,xs,ys,rfl,rfl,ha,k,hx,m,p hx,q hx⟩
def aT:PyData->PyData->Option PyData
 |.int i,.int j=>some (.int (i+j))
 |.list x,.list y=>if x.length+y.length<=1000000 then some (.list (x++y)) else none
 |.tuple x,.tuple y=>if x.length+y.length<=1000000 then some (.tuple (x++y)) else none
 |_,_=>none
theorem uU:OpD K aT (λx y H Q=>rI0 (λi j=>.int (i+j)) x y H Q\/zd x y H Q\/wx K x y H Q):=λd1 d2 d x y H A Q e h h1 h2 k=>by
 unfold aT at e;split at e
 ·cases e;exact .inl ⟨_,_,h1.ofInt,h2.ofInt,k _ H (aw.refl _) cm⟩
 ·rename_i l1 l2;split at e
  ·rename_i l;cases e;obtain⟨p,xs,rfl,f,a⟩:=h1.ofLst;obtain⟨q,ys,rfl,g,b⟩:=h2.ofLst;refine .inr (.inl ⟨p,q,xs,ys,rfl,rfl,aC _ _ f,aC _ _ g,by rw[a.length,b.length,sizeLine_eq];omega,λr c=>k _ _ (a8 c) (ip h c (a.append b))⟩)
  ·cases e
 ·rename_i l1 l2;split at e
  ·rename_i l;cases e;obtain⟨p,xs,rfl,f,a⟩:=h1.ofTup;obtain⟨q,ys,rfl,g,b⟩:=h2.ofTup;refine .inr (.inr ⟨p,q,xs,ys,rfl,rfl,SqT.of (aC _ _ f),SqT.of (aC _ _ g),by rw[a.length,b.length,sizeLine_eq];omega,λz=>?_,λ_ z=>?_,λ_ _ r c=>k _ _ (a8 c) (iV h c (a.append b))⟩)
   ·subst z;have:l1=[]:=C5.mp (by rw[<-a.length];rfl);subst this;exact k _ H (aw.refl _) (iL g b)
   ·subst z;have:l2=[]:=C5.mp (by rw[<-b.length];rfl);subst this;rw[Cr]at k;exact k _ H (aw.refl _) (iL f a)
  ·cases e
 ·cases e
theorem xc (ha:PD X E a ga) (c:PD X E b gb):PD X E (.BinOp a .Add b pos) (g2 aT ga gb):=g0 uU ha c (dE (jx.or (xf.or v7)))
def dIx:PyData->PyData->Option PyData
 |.list x,.int i=>atI x i
 |.tuple x,.int i=>atI x i
 |_,_=>none
theorem pR {i:Int} {d:PyData} (h:Iss K H ds vs) (e:atI ds i=some d):∃v,atI vs i=some v/\Is K H d v:=by
 unfold atI at e ⊢;rw[h.length];cases q:ixN ds.length i with
 |none=>rw[q]at e;cases e
 |some j=>rw[q]at e;exact h.getD e
theorem xv:OpD K dIx (λx y H Q=>xW K x y H Q\/zE K x y H Q):=λd1 d2 d x y H A Q e hA h1 h2 k=>by
 unfold dIx at e;split at e
 ·obtain⟨p,xs,rfl,a,b⟩:=h1.ofLst;obtain⟨v,c,f⟩:=pR b e;exact .inl ⟨p,xs,_,v,rfl,h2.ofInt,SqL.of (aC _ _ a),c,k _ H (aw.refl _) f⟩
 ·obtain⟨p,xs,rfl,a,b⟩:=h1.ofTup;obtain⟨v,c,f⟩:=pR b e;exact .inr ⟨p,xs,_,v,rfl,h2.ofInt,SqT.of (aC _ _ a),c,k _ H (aw.refl _) f⟩
 ·cases e
theorem y4 (ha:PD X E a ga) (c:PD X E b gb) (e:jU b):PD X E (.Subscript a b pos) (g2 dIx ga gb):=g0 xv ha c λh1 h2=>nQ (i4.or wG) h1 h2 e
def bR:List PyData->Option PyData
 |[.list x]=>some (.int x.length)
 |[.tuple x]=>some (.int x.length)
 |_=>none
theorem jB {d:PyData} (h:Iss K H [d] vs):∃v,vs=[v]/\Is K H d v:=by obtain⟨v,r,rfl,h1,h2⟩:=h.cons_of;rw[h2.nil_of];exact⟨v,rfl,h1⟩
theorem vG {d e:PyData} (h:Iss K H [d,e] vs):∃v u,vs=[v,u]/\Is K H d v/\Is K H e u:=by obtain⟨v,r,rfl,h1,h2⟩:=h.cons_of;obtain⟨u,rfl,a⟩:=jB h2;exact⟨v,u,rfl,h1,a⟩
theorem uV:FnD K bR (λxs H Q=>∃p ys,xs=[.ref p]/\(SqL K H p ys\/SqT K H p ys)/\Q (.int ys.length) H):=λds d vs H A Q e hA h k=>by
 unfold bR at e;split at e
 ·cases e;obtain⟨v,rfl,a⟩:=jB h;obtain⟨p,xs,rfl,b,c⟩:=a.ofLst;exact⟨p,xs,rfl,.inl (SqL.of (aC _ _ b)),k _ H (aw.refl _) (by rw[c.length];exact cm)⟩
 ·cases e;obtain⟨v,rfl,a⟩:=jB h;obtain⟨p,xs,rfl,b,c⟩:=a.ofTup;exact⟨p,xs,rfl,.inr (SqT.of (aC _ _ b)),k _ H (aw.refl _) (by rw[c.length];exact cm)⟩
 ·cases e
theorem yA (hm:X.mg "len"=none) (ha:PAD X E (a::es) gs) (c:Gl X "len") (e:starEach (a::es) X.env=(false,eval a X.env)::starEach es X.env) (b:(backTo pos (starEach es X.env)).any (·.1)=false) :
 PD X E (.Call (.Name "len" p) (a::es) [] pos) (gF bR gs):=e9 uV ha λh=>eE gA c hm PySem.boot_len h (by decide) (by decide) e b
theorem rH:bootBuiltins "int"=some (.type "int"):=by decide +kernel
theorem nJ:bootBuiltins "tuple"=some (.type "tuple"):=by decide +kernel
theorem mQ:bootBuiltins "list"=some (.type "list"):=by decide +kernel
theorem lr:bootBuiltins "isinstance"=some (.builtin "isinstance"):=by decide +kernel
theorem yH:bootBuiltins "all"=some (.builtin "all"):=by decide +kernel
theorem w5:bootBuiltins "min"=some (.builtin "min"):=by decide +kernel
theorem wW:bootBuiltins "max"=some (.builtin "max"):=by decide +kernel
noncomputable def ia:List PyData->Option (List Int)
 |[]=>some []
 |.int i::r=>(ia r).map (i::·)
 |_::_=>none
theorem dX:∀{ds:List PyData} {ns:List Int},ia ds=some ns->ds=ns.map PyData.int
 |[],_,h=>by cases h;rfl
 |.int i::r,ns,h=>by
  unfold ia at h;cases q:ia r with
  |none=>rw[q]at h;cases h
  |some l=>rw[q]at h;cases h;rw[dX q];rfl
 |.none::_,_,h=>by cases h
 |.bool _::_,_,h=>by cases h
 |.str _::_,_,h=>by cases h
 |.list _::_,_,h=>by cases h
 |.tuple _::_,_,h=>by cases h
 |.dict _::_,_,h=>by cases h
theorem gm:∀(ns:List Int),ia (ns.map PyData.int)=some ns
 |[]=>rfl
 |n::r=>by rw[BC];unfold ia;rw[gm r];rfl
noncomputable def fK:List PyData->Option (List Bool)
 |[]=>some []
 |.bool i::r=>(fK r).map (i::·)
 |_::_=>none
theorem jH:∀{ds:List PyData} {ns:List Bool},fK ds=some ns->ds=ns.map PyData.bool
 |[],_,h=>by cases h;rfl
 |.bool i::r,ns,h=>by
  unfold fK at h;cases q:fK r with
  |none=>rw[q]at h;cases h
  |some l=>rw[q]at h;cases h;rw[jH q];rfl
 |.none::_,_,h=>by cases h
 |.int _::_,_,h=>by cases h
 |.str _::_,_,h=>by cases h
 |.list _::_,_,h=>by cases h
 |.tuple _::_,_,h=>by cases h
 |.dict _::_,_,h=>by cases h
theorem j7:∀(ns:List Bool),fK (ns.map PyData.bool)=some ns
 |[]=>rfl
 |n::r=>by rw[BC];unfold fK;rw[j7 r];rfl
def jQ:List PyData->Option PyData
 |[.list x]=>(fK x).map λns=>.bool (ns.all id)
 |_=>none
theorem uJ:FnD K jQ (λxs H Q=>∃(a:Addr) (ns:List Bool),xs=[.ref a]/\SqL K H a (ns.map V.bl)/\Q (.bl (ns.all id)) H):=λds d vs H A Q e hA h k=>by
 unfold jQ at e;split at e
 ·rename_i x;cases q:fK x with
  |none=>rw[q]at e;cases e
  |some ns =>rw[q]at e;cases e;obtain⟨v,rfl,f⟩:=jB h;obtain⟨p,xs,rfl,b,c⟩:=f.ofLst;rw[jH q]at c;rw[c.ofBools]at b;exact⟨p,ns,rfl,SqL.of (aC _ _ b),k _ H (aw.refl _) is_bool⟩
 ·cases e
theorem wI (hc:X.calm=true) (hm:X.mg "all"=none) (ha:PAD X E (a::es) gs) (c:Gl X "all") (e:starEach (a::es) X.env=(false,eval a X.env)::starEach es X.env) (b:(backTo pos (starEach es X.env)).any (·.1)=false) :
 PD X E (.Call (.Name "all" p) (a::es) [] pos) (gF jQ gs):=e9 uJ ha λh=>eE (tL hc) c hm yH h (by decide) (by decide) e b
def kL:List PyData->Option PyData
 |[.int i,.int j]=>some (.int (if j<i then j else i))
 |_=>none
def lK:List PyData->Option PyData
 |[.int i,.int j]=>some (.int (if j>i then j else i))
 |_=>none
theorem tW:FnD K kL (λxs H Q=>∃i j,xs=[.int i,.int j]/\Q (.int (if j<i then j else i)) H):=λds d vs H A Q e hA h k=>by
 unfold kL at e;split at e
 ·cases e;obtain⟨v,u,rfl,h1,h2⟩:=vG h;rw[h1.ofInt,h2.ofInt];exact⟨_,_,rfl,k _ H (aw.refl _) cm⟩
 ·cases e
theorem tM:FnD K lK (λxs H Q=>∃i j,xs=[.int i,.int j]/\Q (.int (if j>i then j else i)) H):=λds d vs H A Q e hA h k=>by
 unfold lK at e;split at e
 ·cases e;obtain⟨v,u,rfl,h1,h2⟩:=vG h;rw[h1.ofInt,h2.ofInt];exact⟨_,_,rfl,k _ H (aw.refl _) cm⟩
 ·cases e
theorem va (hc:X.calm=true) (hm:X.mg "min"=none) (ha:PAD X E (a::es) gs) (c:Gl X "min") (e:starEach (a::es) X.env=(false,eval a X.env)::starEach es X.env) (b:(backTo pos (starEach es X.env)).any (·.1)=false) :
 PD X E (.Call (.Name "min" p) (a::es) [] pos) (gF kL gs):=e9 tW ha λh=>eE (qW hc) c hm w5 h (by decide) (by decide) e b
theorem vd (hc:X.calm=true) (hm:X.mg "max"=none) (ha:PAD X E (a::es) gs) (c:Gl X "max") (e:starEach (a::es) X.env=(false,eval a X.env)::starEach es X.env) (b:(backTo pos (starEach es X.env)).any (·.1)=false) :
 PD X E (.Call (.Name "max" p) (a::es) [] pos) (gF lK gs):=e9 tM ha λh=>eE (qh hc) c hm wW h (by decide) (by decide) e b
def qS:List PyData->Option PyData
 |[.int i]=>some (.int i)
 |[.bool k]=>some (.int (if k then 1 else 0))
 |_=>none
theorem vm:FnD K qS (λxs H Q=>(∃i,xs=[.int i]/\Q (.int i) H)\/∃k,xs=[.bl k]/\Q (.int (if k then 1 else 0)) H):=λds d vs H A Q e hA h k=>by
 unfold qS at e;split at e
 ·cases e;obtain⟨v,rfl,h1⟩:=jB h;rw[h1.ofInt];exact .inl ⟨_,rfl,k _ H (aw.refl _) cm⟩
 ·cases e;obtain⟨v,rfl,h1⟩:=jB h;rw[h1.ofBool];exact .inr ⟨_,rfl,k _ H (aw.refl _) cm⟩
 ·cases e
theorem sU (hm:X.mg "int"=none) (ha:PAD X E (a::es) gs) (c:Gl X "int") (e:starEach (a::es) X.env=(false,eval a X.env)::starEach es X.env) (b:(backTo pos (starEach es X.env)).any (·.1)=false) :
 PD X E (.Call (.Name "int" p) (a::es) [] pos) (gF qS gs):=e9 vm ha λh=>jn qL c hm rH h (by decide) (by decide) e b
def fR:List PyData->Option PyData
 |[.list x]=>some (.tuple x)
 |[.tuple x]=>some (.tuple x)
 |_=>none
def jJ:List PyData->Option PyData
 |[.list x]=>some (.list x)
 |[.tuple x]=>some (.list x)
 |_=>none
theorem qr:FnD K fR (λxs H Q=>∃p ys,xs=[.ref p]/\((SqL K H p ys/\∀l,H l=none->Q (.ref l) (upd H l (.tup ys)))\/(SqT K H p ys/\Q (.ref p) H))):=λds d vs H A Q e f h k=>by
 unfold fR at e;split at e
 ·cases e;obtain⟨v,rfl,b⟩:=jB h;obtain⟨p,xs,rfl,a,c⟩:=b.ofLst;exact⟨p,xs,rfl,.inl ⟨SqL.of (aC _ _ a),λl hl=>k _ _ (a8 hl) (iV f hl c)⟩⟩
 ·cases e;obtain⟨v,rfl,b⟩:=jB h;obtain⟨p,xs,rfl,a,c⟩:=b.ofTup;exact⟨p,xs,rfl,.inr ⟨SqT.of (aC _ _ a),k _ H (aw.refl _) (iL a c)⟩⟩
 ·cases e
theorem t8:FnD K jJ (λxs H Q=>∃p ys,xs=[.ref p]/\(SqL K H p ys\/SqT K H p ys)/\∀l,H l=none->Q (.ref l) (upd H l (.lst ys))):=λds d vs H A Q e f h k=>by
 unfold jJ at e;split at e
 ·cases e;obtain⟨v,rfl,a⟩:=jB h;obtain⟨p,xs,rfl,b,c⟩:=a.ofLst;exact⟨p,xs,rfl,.inl (SqL.of (aC _ _ b)),λl hl=>k _ _ (a8 hl) (ip f hl c)⟩
 ·cases e;obtain⟨v,rfl,a⟩:=jB h;obtain⟨p,xs,rfl,b,c⟩:=a.ofTup;exact⟨p,xs,rfl,.inr (SqT.of (aC _ _ b)),λl hl=>k _ _ (a8 hl) (ip f hl c)⟩
 ·cases e
theorem ph (hm:X.mg "tuple"=none) (ha:PAD X E (a::es) gs) (c:Gl X "tuple") (e:starEach (a::es) X.env=(false,eval a X.env)::starEach es X.env) (b:(backTo pos (starEach es X.env)).any (·.1)=false) :
 PD X E (.Call (.Name "tuple" p) (a::es) [] pos) (gF fR gs):=e9 qr ha λh=>jn kY c hm nJ h (by decide) (by decide) e b
theorem qK (hm:X.mg "list"=none) (ha:PAD X E (a::es) gs) (c:Gl X "list") (e:starEach (a::es) X.env=(false,eval a X.env)::starEach es X.env) (b:(backTo pos (starEach es X.env)).any (·.1)=false) :
 PD X E (.Call (.Name "list" p) (a::es) [] pos) (gF jJ gs):=e9 t8 ha λh=>jn mm c hm mQ h (by decide) (by decide) e b
def fo (T:String) (d:PyData):Option PyData:=if aE d then some (.bool (mF d T)) else none
theorem qw {T:Str} {b:String} {c:Pos} (hm:X.mg "isinstance"=none) (f:X.mg T=none) (q:bootBuiltins T=some (.type b)) (r:b∈["bool", "int", "list", "tuple"]) (ha:PD X E a ga)
  (s:Gl X "isinstance") (g:Gl X T) (hn:T≠"__name__") (i:(T==("__debug__":Str))=false) (n:starEach [a,.Name T c] X.env=(false,eval a X.env)::starEach [.Name T c] X.env)
  (j:starEach [.Name T c] X.env=(false,eval (.Name T c) X.env)::starEach [] X.env) (l:(backTo pos (starEach [.Name T c] X.env)).any (·.1)=false) :
  PD X E (.Call (.Name "isinstance" p) [a,.Name T c] [] pos) (g1 (fo b) ga):=by
 refine (eE nE s hm lr (bX ha (bX (ie (v:=.ty b) g f q rfl hn i) dw j) n) (by decide) (by decide) n l).imp λσ H Q m=>?_
 obtain⟨A,δ,R,o⟩:=m;refine g1.read (tt:=λQ x H1=>∃d v T,[x,V.ty b]=[v,.ty T]/\IsD X.K H1 d v/\T∈["bool", "int", "list", "tuple"]/\Q (.bl (mF d T)) H1) R o λd1 d x H' e _ _ h k=>?_
 unfold fo at e;split at e
 ·rename_i z;cases e;exact⟨d1,x,b,rfl,(h.same aC).isd z,r,k _ H' (aw.refl _) is_bool⟩
 ·cases e
end
def rQ (K:PySem.W.Frag) (J:It) (ds:List PyData) (G:Hp):Prop:=∀(H1:Hp) (B:List Addr),aw G H1->Ls H1 B->(∀b∈B,G b=none) ->
 (∀i,i<ds.length->J.go i H1)/\J.stop ds.length H1/\∀i x H2,i<ds.length->J.yld i H1 x H2->aw H1 H2/\∃d,ds[i]?=some d/\Is K (del H2 B) d x
def outI (K:PySem.W.Frag) (E:XK) (A:List Addr) (H:Hp) (r:Rs (List PyData)) (R:It->Hp->Prop):Prop:=match r with
 |.ok ds=>∀J H',aw H H'->rQ K J ds (del H' A)->R J H'
 |.rz C=>∀H',aw H H'->E (.ref C) none H'
 |.no=>False
def iD (K:PySem.W.Frag) (E:XK) (g:Ds->Rs (List PyData)):TI:=λσ H R=>∃A δ,cK K H A δ σ/\outI K E A H (g δ) R
def PID (X:Cx) (E:XK) (tg iter:Expr) (g:Ds->Rs (List PyData)):Prop:=PI X tg iter (iD X.K E g)
theorem PI.imp {it:Expr} {t t':TI} (h:PI X tg it t) (k:∀σ H R,t' σ H R->t σ H R):PI X tg it t':=λpins s σ H R I q=>h pins s σ H R I (k σ H R q)
theorem PI.or {it:Expr} {t t':TI} (h:PI X tg it t) (h':PI X tg it t'):PI X tg it (λσ H R=>t σ H R\/t' σ H R):=λpins s σ H R I q=>q.elim (h pins s σ H R I) (h' pins s σ H R I)
section
variable {a:Expr} {ga:Ds->Rs PyData}
def qa:PyData->Rs (List PyData)
 |.list ds=>.ok ds
 |.tuple ds=>.ok ds
 |_=>.no
theorem mJ {B:List Addr} (s:aw G H1) (hB:∀b∈B,G b=none):aw G (del H1 B):=λb o e=>by rw[bG (λz=>by rw[hB b z]at e;cases e)];exact s b o e
theorem qe {p:Addr} (b:G p=some (.lst xs)) (h:Iss K G ds xs):rQ K (Itl K p) ds G:=λH1 B s _ hB=>by have hl:=h.length;have a:SqL K H1 p xs:=SqL.of (s _ _ b);refine⟨λi hi=>⟨xs,xs[i]'(by omega),a,B2 _⟩,⟨xs,a,by omega⟩,λi x H2 hi y=>?_⟩;obtain⟨rfl,y⟩:=y;obtain⟨d,e,hd⟩:=h.get (y xs a);exact⟨aw.refl _,d,e,hd.same (mJ s hB)⟩
theorem rE {p:Addr} (b:G p=some (.tup xs)) (h:Iss K G ds xs):rQ K (Itt K p) ds G:=λH1 B s _ hB=>by have hl:=h.length;have a:SqT K H1 p xs:=SqT.of (s _ _ b);refine⟨λi hi=>⟨xs,xs[i]'(by omega),a,B2 _⟩,⟨xs,a,by omega⟩,λi x H2 hi y=>?_⟩;obtain⟨rfl,y⟩:=y;obtain⟨d,e,hd⟩:=h.get (y xs a);exact⟨aw.refl _,d,e,hd.same (mJ s hB)⟩
def fb (g:Ds->Rs PyData):Ds->Rs (List PyData):=λδ=>(g δ).bind qa
theorem vV (h:PD X E a ga):PID X E tg a (fb ga):=(PI.or (vg h) (yD h)).imp λσ H R c=>by
 obtain⟨A,δ,f,o⟩:=c;unfold fb at o;cases q:ga δ with
 |no=>rw[q]at o;exact o.elim
 |rz C=>rw[q]at o;exact .inl (eD.run f (λd e=>by rw[q]at e;cases e) (λj e H' s=>by rw[q]at e;cases e;exact o H' s) (λe=>by rw[q]at e;cases e))
 |ok d =>
  rw[q]at o;cases d with
  |list ds =>refine .inl (eD.run f (λd e v H1 g k h1=>?_) (λj e=>by rw[q]at e;cases e) (λe=>by rw[q]at e;cases e));rw[q]at e;cases e;obtain⟨p,xs,rfl,b,i⟩:=h1.ofLst;exact⟨p,rfl,⟨xs,SqL.of (aC _ _ b)⟩,o _ H1 g (qe b i)⟩
  |tuple ds =>refine .inr (eD.run f (λd e v H1 g k h1=>?_) (λj e=>by rw[q]at e;cases e) (λe=>by rw[q]at e;cases e));rw[q]at e;cases e;obtain⟨p,xs,rfl,b,i⟩:=h1.ofTup;exact⟨p,rfl,⟨xs,SqT.of (aC _ _ b)⟩,o _ H1 g (rE b i)⟩
  |_=>exact o.elim
noncomputable def bQ (lo:Int) (n:Nat):List PyData:=(List.range n).map λ(i:Nat)=>PyData.int (lo+(i:Int))
theorem dB (lo:Int) (n:Nat):(bQ lo n).length=n:=by simp[bQ]
theorem oX {lo:Int}:rQ K (Itr lo n) (bQ lo n) G:=λH1 B s _ hB=>by refine⟨λi hi=>by rw[dB]at hi;exact hi,by rw[dB];exact B5 _,λi x H2 hi y=>?_⟩;obtain⟨rfl,rfl⟩:=y;rw[dB]at hi;exact⟨aw.refl _,_,by simp[bQ,hi],cm⟩
def u4:List PyData->Rs (List PyData)
 |[.int j]=>if -(2 ^ 62)<=j/\j<2 ^ 62 then .ok (bQ 0 j.toNat) else .no
 |_=>.no
def Af:List PyData->Rs (List PyData)
 |[.int i,.int j]=>if -(2 ^ 62)<=i/\i<2 ^ 62/\-(2 ^ 62)<=j/\j<2 ^ 62 then .ok (bQ i (j-i).toNat) else .no
 |_=>.no
def jI (g:Ds->Rs (List PyData)):Ds->Rs (List PyData):=λδ=>(g δ).bind u4
def y9 (g:Ds->Rs (List PyData)):Ds->Rs (List PyData):=λδ=>(g δ).bind Af
theorem t9 {f:List PyData->Rs (List PyData)} {R:It->Hp->Prop} {t:List V->Hp->Prop} (b:cK K H A δ σ) (o:outI K E A H ((gs δ).bind f) R)
  (k:∀ds vs H1,gs δ=.ok ds->aw H H1->cK K H1 A δ σ->Iss K (del H1 A) ds vs->outI K E A H1 (f ds) R->t vs H1):aD K E gs σ H t:=by
 refine aD.run b (λd e v H1 a c h1=>?_) (λC e H' s'=>?_) (λe=>?_)
 ·rw[e]at o;refine k d v H1 e a c h1 ?_;have o:outI K E A H (f d) R:=o;cases q:f d with
  |ok ds=>rw[q]at o;exact λJ H' s j=>o J H' (a.trans s) j
  |rz C=>rw[q]at o;exact λH' s=>o H' (a.trans s)
  |no=>rw[q]at o;exact o
 ·rw[e]at o;exact o H' s'
 ·rw[e]at o;exact o
theorem oA (hm:X.mg "range"=none) (ha:PAD X E [a] gs) (b:Gl X "range") (c:starEach [a] X.env=[(false,eval a X.env)]) :
  PID X E tg (.Call (.Name "range" p) [a] [] pos) (jI gs):=(qU b hm ha.1 c).imp λσ H R ⟨A,δ,Rp,o⟩=>t9 Rp o λds vs H1 e s1 R1 h1 o=>by
 unfold u4 at o;split at o
 ·split at o
  ·rename_i z;obtain⟨v,rfl,h⟩:=jB h1;rw[h.ofInt];exact⟨_,rfl,z.1,z.2,o _ H1 (aw.refl _) oX⟩
  ·exact o.elim
 ·exact o.elim
def TgD (K:PySem.W.Frag) (b n:Nat) (tgt:PyData->Option Ds) (g:TG):Prop:=∀(d:PyData) (v:V) (σ a:St) (H:Hp) (A:List Addr) (Q:St->Hp->Prop) (own:Ds),σ.length=b->a.length=n->Ls H A->Is K (del H A) d v->tgt d=some own ->
 own.length=n/\((∀vs:St,vs.length=n->(∀(i:Nat) e,own[i]?=some (some e)->∃u,vs[i]?=some (some u)/\Is K (del H A) e u)->Q (σ++vs) H)->g v (σ++a) H Q)
def bM:PyData->Option Ds:=λd=>some [some d]
theorem uq {b:Nat}:TgD K b 1 bM (i8 b):=λd v σ a H A Q own h1 h2 hA hd e=>by
 cases e;refine⟨rfl,λk=>?_⟩;unfold i8;subst h1;rw[set_own σ none v a h2];refine k _ rfl λi e z=>?_
 match i,z with
 |0,z=>cases z;exact⟨v,rfl,hd⟩
def jc:PyData->Option Ds
 |.tuple [x,y]=>some [some x,some y]
 |_=>none
theorem tY {a:Nat}:TgD K a 2 jc (L2.zr K 2 (L2.uu (i8 a) (L2.uu (i8 (a+1)) L2.Ak))):=λd v σ b H A Q own h1 h2 hA hd e=>by
 unfold jc at e;split at e
 ·rename_i x y;cases e;refine⟨rfl,λk=>?_⟩;obtain⟨p,xs,rfl,c,f⟩:=hd.ofTup;obtain⟨u,w,rfl,g,hw⟩:=vG f;subst h1;refine⟨p,_,rfl,SqT.of (aC _ _ c),rfl,u,[w],rfl,w,[],rfl,rfl,?_⟩
  match b,h2 with
  |[s1,s2],_ =>
   have:((σ++[s1,s2]).set σ.length (some u)).set (σ.length+1) (some w)=σ++[some u,some w]:=by rw[Cp _ _ (B5 _),Cp _ _ (by omega)];simp
   rw[this];refine k _ rfl λi e z=>?_
   match i,z with
   |0,z=>cases z;exact⟨u,rfl,g⟩
   |1,z=>cases z;exact⟨w,rfl,hw⟩
 ·cases e
def eN (cond:Ds->Rs Bool) (elt:Ds->Rs PyData) (tgt:PyData->Option Ds) (δ:Ds):List PyData->Rs (List PyData)
 |[]=>.ok []
 |d::r=>match tgt d with
  |none=>.no
  |some own=>(cond (δ++own)).calm.bind λb=>if b=true then (elt (δ++own)).calm.bind λx=>(eN cond elt tgt δ r).bind λxs=>.ok (x::xs) else eN cond elt tgt δ r
def bY (a:Nat) (src:Ds->Rs (List PyData)) (cond:Ds->Rs Bool) (elt:Ds->Rs PyData) (tgt:PyData->Option Ds):Ds->Rs (List PyData):=λδ=>if δ.length=a then (src δ).bind λds=>if ds.length<=1000000 then eN cond elt tgt δ ds else .no else .no
def cf:Ds->Rs Bool:=λ_=>.ok true
def zj (K:PySem.W.Frag) (E:XK) (A:List Addr) (H:Hp) (r:Rs (List PyData)) (Q:VK):Prop:=match r with
 |.ok ds=>∀a xs H',H a=none->aw H H'->H' a=some (.lst xs)->Iss K (del H' (a::A)) ds xs->Q (.ref a) H'
 |.rz C=>∀H',aw H H'->E (.ref C) none H'
 |.no=>False
def lD (K:PySem.W.Frag) (E:XK) (g:Ds->Rs (List PyData)):TE:=λσ H Q=>∃A δ,cK K H A δ σ/\zj K E A H (g δ) Q
def PLD (X:Cx) (E:XK) (e:Expr) (g:Ds->Rs (List PyData)):Prop:=PE X e (lD X.K E g)
def gL (g:Ds->Rs (List PyData)):Ds->Rs PyData:=λδ=>(g δ).bind λds=>.ok (.list ds)
theorem lL {a:Addr}:aw (del H (a::A)) (del H A):=λb o e=>by obtain⟨z,e⟩:=eF e;rw[bG (λq=>z (Bu _ q))];exact e
theorem wK {g:Ds->Rs (List PyData)} (h:PLD X E e g):PD X E e (gL g):=PE.imp h λσ H Q ⟨A,δ,R,o⟩=>⟨A,δ,R,by
 unfold gL at o;cases q:g δ with
 |no=>rw[q]at o;exact o
 |rz C=>rw[q]at o;exact o
 |ok ds =>rw[q]at o;intro a xs H' hn s hl hi;exact o _ H' s (mL (by rw[bG (R.ls.new hn)];exact hl) (hi.same lL))⟩
theorem uK (h:PAD X E es gs) (hl:es.length<=1000):PLD X E (.List es pos) gs:=(iI h.1).imp λσ H Q a=>by
 obtain⟨A,δ,R,o⟩:=a;refine aD.run R (λds e vs H1 f R1 h1=>?_) (λC e H' s'=>by rw[e]at o;exact o H' s') (λe=>by rw[e]at o;exact o);rw[e]at o;have n:=h.2 δ ds e;have m:=h1.length;refine⟨by rw[sizeLine_eq];omega,λp c=>o p vs _ (f.free c) (f.trans (a8 c)) aV (h1.same ?_)⟩;refine λb o e=>?_
 obtain⟨z,e⟩:=eF e;have:b≠p:=aM e c;rw[bG (by simp[this,z]),aN this];exact e
theorem tR {X:Ds->Rs (List PyData)} {tt:TT} {S:Nat} (hT:TgD K S own.length tgt g) (Y:∀σ H Q,cD K E0 cond σ H Q->tt σ H Q) :
  ∀σ H Q,lD K E (bY S X cond ge tgt) σ H Q->tLC own.length (iD K E X) g tt (eD K E0 ge) σ H Q:=by
 intro σ H Q ⟨A,δ,R,o⟩;unfold bY at o;by_cases hn0:δ.length=S
 case neg=>rw[if_neg hn0]at o;exact o.elim
 rw[if_pos hn0]at o;have Z:σ.length=S:=by rw[<-R.len];exact hn0
 refine⟨A,δ,R,?_⟩;cases q:X δ with
 |no=>rw[q]at o;exact o
 |rz C=>rw[q]at o;exact o
 |ok ds =>
  rw[q]at o;have o:zj K E A H (if ds.length<=1000000 then eN cond ge tgt δ ds else .no) Q:=o;by_cases hz:ds.length<=1000000
  case neg=>rw[if_neg hz]at o;exact o.elim
  rw[if_pos hz]at o;intro J H1 s1 hJ D s;have T:=R.same s1;have nD:D∉A:=T.ls.new s;cases qo:eN cond ge tgt δ ds with
  |rz C =>
   exfalso;have:∀l,eN cond ge tgt δ l≠.rz C:=by
    intro l
    induction l with
    |nil=>intro z;cases z
    |cons d r ih =>
     intro z;unfold eN at z;split at z
     ·cases z
     ·rename_i h _;cases a:cond (δ++h) with
      |ok b =>
       simp only[a,Rs.iu,Rs.ak]at z;split at z
       ·cases j:ge (δ++h) with
        |ok x =>
         simp only[j,Rs.iu,Rs.ak]at z;cases n:eN cond ge tgt δ r with
         |ok l=>simp only[n,Rs.ak]at z;cases z
         |rz C'=>simp only[n,Rs.fy]at z;cases z;exact ih n
         |no=>simp only[n,Rs.cc]at z;cases z
        |rz C'=>simp only[j,Rs.calm,Rs.cc]at z;cases z
        |no=>simp only[j,Rs.calm,Rs.cc]at z;cases z
       ·exact ih z
      |rz C'=>simp only[a,Rs.calm,Rs.cc]at z;cases z
      |no=>simp only[a,Rs.calm,Rs.cc]at z;cases z
   exact this ds qo
  |no=>rw[qo]at o;exact o.elim
  |ok out =>
   rw[qo]at o;have base:aw (del H1 A) (del (upd H1 D (.lst [])) (D::A)):=λb o e=>by obtain⟨z,e⟩:=eF e;have nb:b≠D:=aM e s;rw[bG (by simp[nb,z]),aN nb];exact e
   refine⟨λi m ys H'=>m=ds.length-i/\i<=ds.length/\aw H1 H'/\H' D=some (.lst ys)/\ys.length<=i/\∃B rest,eN cond ge tgt δ (ds.drop i)=.ok rest/\out=B++rest/\Iss K (del H' (D::A)) B ys,
    ⟨ds.length,by simp,Cz _,a8 s,aV,B5 _,[],out,qo,rfl,dH⟩,?_⟩
   rintro i m ys H' ⟨rfl,hi,t,hl,hy,B,rest,a,j,n⟩
   refine⟨hl,?_⟩;have sG:aw (del H1 A) H':=aC.trans t;have F:∀b∈D::A,(del H1 A) b=none:=λb G=>by
    rcases B8.mp G with z|z
    ·rw[z,bG nD];exact s
    ·exact jb z
   obtain⟨jg,js,jy⟩:=hJ H' (D::A) sG (λb G=>by
    rcases B8.mp G with z|z
    ·exact⟨_,by rw[z];exact hl,rfl⟩
    ·exact (T.ls.same t) b z) F
   by_cases hlt:i<ds.length
   ·refine .inr ⟨jg i hlt,λx H2 σ' I y=>?_⟩;obtain⟨s2,d,ed,hd⟩:=jy i x H2 hlt y;have edr:ds.drop i=d::ds.drop (i+1):=by
     rw[List.drop_eq_getElem_cons hlt];have:ds[i]=d:=by have:=B2 hlt;rw[this]at ed;exact Option.some.inj ed
     rw[this]
    rw[edr]at a;unfold eN at a;cases et:tgt d with
    |none=>rw[et]at a;cases a
    |some ow =>
     rw[et]at a;have l2:H2 D=some (.lst ys):=s2 _ _ hl;have L:Ls H2 (D::A):=λb G=>by
      rcases B8.mp G with z|z
      ·exact⟨_,by rw[z];exact l2,rfl⟩
      ·exact (T.ls.same (t.trans s2)) b z
     obtain⟨hol,hgo⟩:=hT d x σ σ' H2 (D::A) (λf H2=>tt f H2 λb H3 =>
      if b=true then eD K E0 ge f H3 λv M=>M D=some (.lst ys)/\ys.length<sizeLine/\(∃c,f=σ++c/\c.length=own.length)/\∃m',m' < ds.length-i/\_
      else (∃c,f=σ++c/\c.length=own.length)/\∃m',m' < ds.length-i/\_) ow Z I L hd et
     refine hgo λvs p N=>?_
     have O:aw (del H1 A) (del H2 (D::A)):=mJ (sG.trans s2) F;have RE:cK K H2 (D::A) (δ++ow) (σ++vs):=by
      refine⟨L,by rw[Bt,Bt,R.len,p,hol],λk e U=>?_⟩;by_cases hk:k<δ.length
      ·rw[BJ hk]at U;obtain⟨u,e1,hu⟩:=T.get k e U;exact⟨u,by rw[BJ (by rw[<-R.len];exact hk)];exact e1,hu.same O⟩
      ·rw[BQ (by omega)]at U;obtain⟨u,e1,hu⟩:=N _ e U;exact⟨u,by rw[BQ (by rw[<-R.len];omega),<-R.len];exact e1,hu⟩
     have bad:∀r:Rs Bool,r=.rz 0->r.calm=.no:=λr e=>by rw[e];rfl
     refine Y _ _ _ (cD.run RE (λb P H3 w R3=>?_) (λC P=>?_) (λP=>?_))
     ·simp only[P,Rs.iu,Rs.ak]at a;cases b with
      |true =>
       simp only[if_true]at a;refine eD.run R3 (λxd ex v M s4 R4 hv=>?_) (λC ex=>?_) (λex=>?_)
       ·simp only[ex,Rs.iu,Rs.ak]at a;cases cr:eN cond ge tgt δ (ds.drop (i+1)) with
        |ok rs =>
         simp only[cr,Rs.ak]at a;cases a;have l4:M D=some (.lst ys):=s4 _ _ (w _ _ l2);have dU:del (upd M D (.lst (ys++[v]))) (D::A)=del M (D::A):=mG (By);refine⟨l4,by rw[sizeLine_eq];omega,⟨vs,rfl,p⟩,ds.length-(i+1),by omega,rfl,hlt,?_,aV,by simp;omega,B++[xd],rs,cr,by rw[j];simp,?_⟩
         ·exact aw.put (((t.trans s2).trans w).trans s4) s
         ·rw[dU];exact (n.same (aw.del (s2.trans (w.trans s4)))).append (jY hv)
        |rz C=>simp only[cr,Rs.fy]at a;cases a
        |no=>simp only[cr,Rs.cc]at a;cases a
       ·simp only[ex,Rs.calm,Rs.cc]at a;cases a
       ·simp only[ex,Rs.calm,Rs.cc]at a;cases a
      |false =>simp only[Bool.false_eq_true,if_false]at a;exact⟨⟨vs,rfl,p⟩,ds.length-(i+1),by omega,rfl,hlt,(t.trans s2).trans w,w _ _ l2,by omega,B,rest,a,j,n.same (aw.del (s2.trans w))⟩
     ·simp only[P,Rs.calm,Rs.cc]at a;cases a
     ·simp only[P,Rs.calm,Rs.cc]at a;cases a
   ·have e:i=ds.length:=by omega
    subst e;rw[List.drop_length]at a;cases a;rw[Cr]at j;subst j;exact .inl ⟨js,o D ys H' (s1.free s) (s1.trans t) hl n⟩
def fv:Expr->List Str
 |.Name x _=>[x]
 |.Tuple [.Name x _,.Name y _] _ _=>[x,y]
 |_=>[]
def wk (own N:List Str):List Str:=N.map λx=>bif own.elem x then x++"__" else x
abbrev bk (X:Cx) (tg:Expr) (scope:Scope):=blk X (wk (fv tg) X.N) scope (fv tg)
abbrev zb (X:Cx) (tg:Expr) (scope:Scope):Bool:=lX X.N (wk (fv tg) X.N) X.env.scope scope (fv tg)
inductive PIf (X:Cx):List Expr->(Ds->Rs Bool)->Prop
 |nil:PIf X [] cf
 |one {c:Expr} {g:Ds->Rs Bool} (h:PCD X E0 c g):PIf X [c] g
def yW (K:PySem.W.Frag) (ifs:List Expr) (g:Ds->Rs Bool):TT:=match ifs with
 |[]=>wm
 |_=>cD K E0 g
theorem PIf.pts {g:Ds->Rs Bool} (h:PIf X ifs g):PTs X ifs (yW X.K ifs g):=by
 cases h with
 |nil=>exact .nil
 |one h=>exact .one h
theorem PIf.tt {g:Ds->Rs Bool} (h:PIf X ifs g):∀σ H Q,cD K E0 g σ H Q->yW K ifs g σ H Q:=by
 cases h with
 |nil=>exact λσ H Q a=>(by obtain⟨A,δ,R,o⟩:=a;exact o H (aw.refl _))
 |one h=>exact λ_ _ _ h=>h
theorem tQ {a:Ds->Rs (List PyData)} {b:Nat} (hc:X.calm=true) (hi:PID X E tg iter a)
  (e:TgD X.K b (fv tg).length tgt g) (f:∀C s2 H2 fp,PG (bk X tg scope C s2 H2 fp) tg g) (c:∀C s2 H2 fp,PIf (bk X tg scope C s2 H2 fp) ifs cond) (h:∀C s2 H2 fp,PD (bk X tg scope C s2 H2 fp) E0 elt ge)
  (hB:zb X tg scope=true) (i:∀x,foldedSetIterable iter X.env x=pure x):PLD X E (.ListComp elt [⟨tg,iter,ifs,0⟩] scope pos) (bY b a cond ge tgt) :=
 (tm (own:=fv tg) (te:=eD X.K E0 ge) hc hi f (λC s2 H2 fp=>(c C s2 H2 fp).pts) (λC s2 H2 fp=>h C s2 H2 fp) hB i).imp (tR e (PIf.tt (c 0 X.s₀ X.H₀ [])))
def PLS (X:Cx) (E:XK) (i:Nat) (st:Stmt) (a:Ds->Rs (List PyData)):Prop:=PS X st (uZ (lD X.K E a) (i8 i))
theorem tG {c:Ds->Rs (List PyData)} {e:Nat} {spos:Pos} (a:swapsWith (.ListComp elt [⟨tg,iter,ifs,0⟩] scope pos) (some (.Name x pos')) spos.line X.env=pure true) (hc:X.calm=true) (j:X.N.Nodup) (hi:PID X E tg iter c)
  (k:TgD X.K e (fv tg).length tgt g) (l:∀C s2 H2 fp,PG (bk X tg scope C s2 H2 fp) tg g) (f:∀C s2 H2 fp,PIf (bk X tg scope C s2 H2 fp) ifs cond) (m:∀C s2 H2 fp,PD (bk X tg scope C s2 H2 fp) E0 elt ge)
  (b:X.N[i]?=some x) (n:Loc X.env.scope x) (hB:zb X tg scope=true) (o:∀x,foldedSetIterable iter X.env x=pure x) (p:X.fn x=true\/X.env.scope.names.lookup x=some .local) :
  PLS X E i (.Assign [.Name x pos'] (.ListComp elt [⟨tg,iter,ifs,0⟩] scope pos) spos) (bY e c cond ge tgt) :=
 PS.imp (sW (own:=fv tg) (te:=eD X.K E0 ge) hc j b n a hi l (λC s2 H2 fp=>(f C s2 H2 fp).pts) (λC s2 H2 fp=>m C s2 H2 fp) hB o p) λD σ H h=>tR k (PIf.tt (f 0 X.s₀ X.H₀ [])) σ H _ h
end
inductive Sr where
 |nx (δ:Ds)
 |rt (d:PyData)
 |rz (C:Addr)
 |bk (δ:Ds)
 |ct (δ:Ds)
 |no
def g9 (K:PySem.W.Frag) (G:Hp):PyData->HO->Prop
 |.list ds,.lst xs=>Iss K G ds xs
 |.dict kvs,o=>yS kvs o
 |_,_=>False
theorem g9.same {G':Hp} {d:PyData} (h:g9 K G d o) (s:aw G G'):g9 K G' d o:=by
 unfold g9 at h ⊢;split at h
 ·exact Iss.same s h
 ·exact h
 ·exact h.elim
theorem g9.is {d:PyData} (h:g9 K G d o) (ha:G a=some o):Is K G d (.ref a):=by
 unfold g9 at h;split at h
 ·exact mL ha h
 ·unfold Is;exact .inl (.inr ⟨a,_,rfl,h,ha⟩)
 ·exact h.elim
theorem g9.lst (h:g9 K G (.list ds) o):∃xs,o=.lst xs/\Iss K G ds xs:=by
 unfold g9 at h;split at h
 ·rename_i e;cases e;exact⟨_,rfl,h⟩
 ·rename_i e;cases e
 ·exact h.elim
structure cj (K:PySem.W.Frag) (H0:Hp) (A0:List Addr) (H:Hp) (A:List Addr) (O:List Nat) (δ:Ds) (σ:St):Prop where
 same:aw H0 H
 ls0:Ls H0 A0
 new:∀a∈A,H0 a=none
 ls:Ls H A
 len:δ.length=σ.length
 pl:∀(i:Nat) d,i∉O->δ[i]?=some (some d)->∃v,σ[i]?=some (some v)/\Is K (del H (A++A0)) d v
 own:∀(i:Nat) d,i∈O->δ[i]?=some (some d)->∃a o d',σ[i]?=some (some (.ref a))/\a∈A/\H a=some o/\d=d'/\g9 K (del H (A++A0)) d' o
 inj:∀(i j:Nat) d e a,i∈O->j∈O->δ[i]?=some (some d)->δ[j]?=some (some e)->σ[i]?=some (some (.ref a))->σ[j]?=some (some (.ref a))->i=j
def mask (O:List Nat) (δ:Ds):Ds:=if O=[] then δ else δ.mapIdx λi d=>if i∈O then none else d
theorem ue (δ:Ds):mask [] δ=δ:=by simp[mask]
theorem tH {d:PyData} (h:(mask O δ)[i]?=some (some d)):i∉O/\δ[i]?=some (some d):=by
 unfold mask at h;split at h
 ·rename_i z;subst z;exact⟨by simp,h⟩
 ·rw[List.getElem?_mapIdx]at h;cases q:δ[i]? with
  |none=>rw[q]at h;cases h
  |some x =>
   rw[q]at h;simp only[Option.map_some,Option.some.injEq]at h;by_cases z:i∈O
   ·rw[if_pos z]at h;cases h
   ·rw[if_neg z]at h;exact⟨z,by rw[h]⟩
theorem tw:(mask O δ).length=δ.length:=by unfold mask;split <;> simp
theorem nK {B:List Addr}:aw (del H (A++B)) (del H B):=λb o e=>by obtain⟨z,e⟩:=eF e;rw[bG (λq=>z (Bv _ q))];exact e
section
variable {H0:Hp} {A0:List Addr}
theorem cj.lsA (R:cj K H0 A0 H A O δ σ):Ls H (A++A0):=λa h=>(BA.mp h).elim (R.ls a) λz=>(R.ls0.same R.same) a z
theorem cj.step (R:cj K H0 A0 H A O δ σ) (s:aw H H1):cj K H0 A0 H1 A O δ σ where
 same:=R.same.trans s
 ls0:=R.ls0
 new:=R.new
 ls:=R.ls.same s
 len:=R.len
 pl:=λi d h e=>by obtain⟨v,e1,h1⟩:=R.pl i d h e;exact⟨v,e1,h1.same s.del⟩
 own:=λi d h e=>by obtain⟨a,xs,ds,e1,h1,h2,b,c⟩:=R.own i d h e;exact⟨a,xs,ds,e1,h1,s _ _ h2,b,c.same s.del⟩
 inj:=R.inj
theorem cj.apart (R:cj K H0 A0 H A O δ σ) (h:a∈A):a∉A0:=λz=>by obtain⟨xs,e,_⟩:=R.ls0 a z;rw[R.new a h]at e;cases e
theorem cj.ownL (R:cj K H0 A0 H A O δ σ) (h:i∈O) (e:δ[i]?=some (some (.list ds))):∃a xs b,σ[i]?=some (some (.ref a))/\a∈A/\H a=some (.lst xs)/\PyData.list ds=.list b/\Iss K (del H (A++A0)) b xs:=by obtain⟨a,o,d',e1,h1,h2,c,f⟩:=R.own i _ h e;subst c;obtain⟨xs,rfl,g⟩:=f.lst;exact⟨a,xs,ds,e1,h1,h2,rfl,g⟩
theorem cj.full (R:cj K H0 A0 H A O δ σ):cK K H A0 δ σ where
 ls:=R.ls0.same R.same
 len:=R.len
 get:=λi d e=>by
  by_cases h:i∈O
  ·obtain⟨a,xs,ds,e1,h1,h2,b,c⟩:=R.own i d h e;subst b;exact⟨_,e1,(c.same nK).is (by rw[bG (R.apart h1)];exact h2)⟩
  ·obtain⟨v,e1,h1⟩:=R.pl i d h e;exact⟨v,e1,h1.same nK⟩
theorem cj.part (R:cj K H0 A0 H A O δ σ):cK K H (A++A0) (mask O δ) σ where
 ls:=R.lsA
 len:=by rw[tw];exact R.len
 get:=λi d e=>by obtain⟨h,e⟩:=tH e;exact R.pl i d h e
theorem get_set {l:List α} {x y:α} (h:(l.set i x)[j]?=some y):(i=j/\y=x)\/(i≠j/\l[j]?=some y):=by
 by_cases z:i=j
 ·subst z;rw[List.getElem?_set_self']at h;cases q:l[i]? with
  |none=>rw[q]at h;cases h
  |some w=>rw[q]at h;simp at h;exact .inl ⟨rfl,h.symm⟩
 ·rw[Bw z]at h;exact .inr ⟨z,h⟩
theorem j6 {l:List α} {x y:α} (hn:i≠j) (h:l[j]?=some y):(l.set i x)[j]?=some y:=by rw[Bw hn];exact h
theorem cj.set {d:PyData} (R:cj K H0 A0 H A O δ σ) (hi:i∉O) (hl:i<δ.length) (h:Is K (del H (A++A0)) d v):cj K H0 A0 H A O (δ.set i (some d)) (σ.set i (some v)) where
 same:=R.same
 ls0:=R.ls0
 new:=R.new
 ls:=R.ls
 len:=by simp[R.len]
 pl:=λj e b q=>by
  rcases get_set q with⟨z,q⟩|⟨z,q⟩
  ·cases q;subst z;exact⟨v,by rw[BB (by rw[<-R.len];exact hl)],h⟩
  ·obtain⟨u,e1,h1⟩:=R.pl j e b q;exact⟨u,j6 z e1,h1⟩
 own:=λj e b q=>by
  rcases get_set q with⟨z,q⟩|⟨z,q⟩
  ·subst z;exact absurd b hi
  ·obtain⟨a,xs,ds,e1,h1⟩:=R.own j e b q;exact⟨a,xs,ds,j6 z e1,h1⟩
 inj:=λj k d' e a b c f g p1 p2=>by
  have n1:i≠j:=λz=>hi (z▸b)
  have n2:i≠k:=λz=>hi (z▸c)
  rw[Bw n1]at f p1;rw[Bw n2]at g p2;exact R.inj j k d' e a b c f g p1 p2
theorem cj.setOwn (R:cj K H0 A0 H A O δ σ) (hi:i∈O) (hl:i<δ.length) (hn:H a=none) (s:aw H H1) (ha:H1 a=some (.lst xs)) (h:Iss K (del H1 (a::(A++A0))) ds xs) :
  cj K H0 A0 H1 (a::A) O (δ.set i (some (.list ds))) (σ.set i (some (.ref a))) where
 same:=R.same.trans s
 ls0:=R.ls0
 new:=λb m=>by
  rcases B8.mp m with z|z
  ·rw[z];exact R.same.free hn
  ·exact R.new b z
 ls:=λb m=>by
  rcases B8.mp m with z|z
  ·exact⟨_,by rw[z];exact ha,rfl⟩
  ·exact (R.ls.same s) b z
 len:=by simp[R.len]
 pl:=λj e c q=>by
  rcases get_set q with⟨z,q⟩|⟨z,q⟩
  ·subst z;exact absurd hi c
  ·obtain⟨u,e1,h1⟩:=R.pl j e c q;refine⟨u,j6 z e1,h1.same λb o e=>?_⟩;obtain⟨y,e⟩:=eF e;have n:b≠a:=aM e hn;rw[bG (by simpa[n] using y)];exact s _ _ e
 own:=λj e c q=>by
  have r:∀b o,del H (A++A0) b=some o->del H1 (a::A++A0) b=some o:=λb o e=>by obtain⟨y,e⟩:=eF e;have n:b≠a:=aM e hn;rw[bG (by simpa[n] using y)];exact s _ _ e
  rcases get_set q with⟨z,q⟩|⟨z,q⟩
  ·cases q;subst z;exact⟨a,_,_,by rw[BB (by rw[<-R.len];exact hl)],By,ha,rfl,h⟩
  ·obtain⟨b,ys,es,e1,h1,h2,t,v⟩:=R.own j e c q;exact⟨b,ys,es,j6 z e1,Bu _ h1,s _ _ h2,t,v.same r⟩
 inj:=λj k d' e b c f g l p1 p2=>by
  have old:∀k,k∈O->i≠k->∀e,δ[k]?=some (some e)->σ[k]?=some (some (.ref a))->False:=λk f _ e q p=>by obtain⟨b,ys,es,e1,h1,h2,_⟩:=R.own k e f q;rw[p]at e1;cases e1;rw[hn]at h2;cases h2
  by_cases z1:i=j
  ·by_cases z2:i=k
   ·rw[<-z1,z2]
   ·subst z1;rw[BB (by rw[<-R.len];exact hl)]at p1;cases p1;rw[Bw z2]at l p2;exact (old k f z2 e l p2).elim
  ·by_cases z2:i=k
   ·subst z2;rw[BB (by rw[<-R.len];exact hl)]at p2;cases p2;rw[Bw z1]at g p1;exact (old j c z1 d' g p1).elim
   ·rw[Bw z1]at g p1;rw[Bw z2]at l p2;exact R.inj j k d' e b c f g l p1 p2
theorem cj.put {l:PyData} (R:cj K H0 A0 H A O δ σ) (hi:i∈O) (hd:δ[i]?=some (some l)) (p:σ[i]?=some (some (.ref a))) (ha:a∈A) (h:Iss K (del H (A++A0)) ds ys) :
  cj K H0 A0 (upd H a (.lst ys)) A O (δ.set i (some (.list ds))) σ:=by
 have m:del (upd H a (.lst ys)) (A++A0)=del H (A++A0):=mG (BE _ ha);have hl:i<δ.length:=(BI.mp hd).1;refine⟨λb o e=>?_,R.ls0,R.new,λb s=>?_,by simp[R.len],λj e c q=>?_,λj e c q=>?_,λj k d' e b c r f g p1 p2=>?_⟩
 ·have n:b≠a:=λz=>by rw[z,R.new a ha]at e;cases e
  rw[aN n];exact R.same b o e
 ·by_cases z:b=a
  ·exact⟨_,by rw[z,aV],rfl⟩
  ·rw[aN z];exact R.ls b s
 ·rcases get_set q with⟨z,q⟩|⟨z,q⟩
  ·subst z;exact absurd hi c
  ·rw[m];exact R.pl j e c q
 ·rcases get_set q with⟨z,q⟩|⟨z,q⟩
  ·cases q;subst z;exact⟨a,_,_,p,ha,aV,rfl,by rw[m];exact h⟩
  ·obtain⟨b,zs,es,e1,h1,h2,t,u⟩:=R.own j e c q;have n:b≠a:=λw=>z (R.inj i j _ _ a hi c hd q p (by rw[<-w];exact e1))
   exact⟨b,zs,es,e1,h1,by rw[aN n];exact h2,t,by rw[m];exact u⟩
 ·rcases get_set f with⟨z1,f⟩|⟨z1,f⟩ <;> rcases get_set g with⟨z2,g⟩|⟨z2,g⟩
  ·rw[<-z1,z2]
  ·subst z1;exact R.inj i k l e b hi r hd g p1 p2
  ·subst z2;exact R.inj j i d' l b c hi f hd p1 p2
  ·exact R.inj j k d' e b c r f g p1 p2
def un (H0 G:Hp):Hp:=λb=>match H0 b with|some o=>some o|none=>G b
theorem sk {H0:Hp}:aw H0 (un H0 G):=λb o e=>by unfold un;rw[e]
theorem AB {H0:Hp} (a:aw H0 H) (c:aw G H):aw G (un H0 G):=λb o e=>by
 unfold un;cases q:H0 b with
 |none=>exact e
 |some o2=>have h2:=a b o2 q;rw[c b o e]at h2;exact h2.symm
theorem zR {H0:Hp} (a:aw H0 H) (c:aw G H):aw (un H0 G) H:=λb o e=>by
 unfold un at e;cases q:H0 b with
 |none=>rw[q]at e;exact c b o e
 |some o2=>rw[q]at e;rw[<-Option.some.inj e];exact a b o2 q
theorem cj.more (R:cj K H0 A0 H A O δ σ):cj K (un H0 (del H (A++A0))) A0 H A O δ σ :=
 ⟨zR R.same aC,R.ls0.same sk,λa h=>by unfold un;rw[R.new a h];exact jb (BE _ h),R.ls,R.len,R.pl,R.own,R.inj⟩
theorem cj.less {b:Hp} (R:cj K b A0 H A O δ σ) (s:aw H0 b) (l:Ls H0 A0):cj K H0 A0 H A O δ σ:=⟨s.trans R.same,l,λa h=>s.free (R.new a h),R.ls,R.len,R.pl,R.own,R.inj⟩
end
def rW (K:PySem.W.Frag) (E:XK) (H0:Hp) (A0:List Addr) (O:List Nat) (r:Sr) (D:Ends):Prop:=match r with
 |.nx δ=>∀A σ H,cj K H0 A0 H A O δ σ->D.nx σ H
 |.rt d=>∀v H,aw H0 H->Is K (del H A0) d v->D.rt v H
 |.rz C=>∀H,aw H0 H->E (.ref C) none H
 |.bk δ=>∀A σ H,cj K H0 A0 H A O δ σ->D.bk σ H
 |.ct δ=>∀A σ H,cj K H0 A0 H A O δ σ->D.ct σ H
 |.no=>False
def sD (K:PySem.W.Frag) (E:XK) (O:List Nat) (G:Ds->Sr):TS:=λD σ H=>∃H0 A0 A δ,cj K H0 A0 H A O δ σ/\rW K E H0 A0 O (G δ) D
def PSD (X:Cx) (E:XK) (O:List Nat) (s:Stmt) (G:Ds->Sr):Prop:=PS X s (sD X.K E O G)
def PBD (X:Cx) (E:XK) (O:List Nat) (ss:List Stmt) (G:Ds->Sr):Prop:=PSs X ss (sD X.K E O G)
def a4:Ds->Sr:=λδ=>.nx δ
def ax (a b:Ds->Sr):Ds->Sr:=λδ=>match a δ with
 |.nx δ'=>b δ'
 |r=>r
noncomputable def ofR {α:Type} (r:Rs α) (k:α->Sr):Sr:=match r with
 |.ok a=>k a
 |.rz C=>.rz C
 |.no=>.no
@[simp]theorem bB (a:α) (k:α->Sr):ofR (.ok a) k=k a:=rfl
@[simp]theorem pk (C:Addr) (k:α->Sr):ofR (.rz C) k=.rz C:=rfl
@[simp]theorem pw (k:α->Sr):ofR (.no:Rs α) k=.no:=rfl
def sIf (c:Ds->Rs Bool) (a b:Ds->Sr):Ds->Sr:=λδ=>ofR (c δ) λt=>if t=true then a δ else b δ
def bp (g:Ds->Rs PyData):Ds->Sr:=λδ=>ofR (g δ) .rt
def aU (g:Ds->Rs PyData):Ds->Sr:=λδ=>ofR (g δ) λ_=>.nx δ
def bh (O:List Nat) (i:Nat) (g:Ds->Rs PyData):Ds->Sr:=λδ=>if i<δ.length then ofR (g (mask O δ)) λd=>.nx (δ.set i (some d)) else .no
def k8 (O:List Nat) (i:Nat) (g:Ds->Rs (List PyData)):Ds->Sr:=λδ=>if i<δ.length then ofR (g (mask O δ)) λds=>.nx (δ.set i (some (.list ds))) else .no
def pe (O:List Nat) (i:Nat) (g:Ds->Rs PyData):Ds->Sr:=λδ=>match δ[i]? with
 |some (some (.list ds))=>ofR (g (mask O δ)) λd=>if ds.length<1000000 then .nx (δ.set i (some (.list (ds++[d])))) else .no
 |_=>.no
section
variable {ss:List Stmt} {G G':Ds->Sr} {a b c:Expr} {ga gb:Ds->Rs PyData} {ca:Ds->Rs Bool}
theorem vN:PBD X E O [] a4:=mZ.imp λD σ H a=>(by obtain⟨H0,A0,A,δ,R,o⟩:=a;exact o A σ H R)
theorem gp (h1:PSD X E O st G) (h2:PBD X E O ss G'):PBD X E O (st::ss) (ax G G'):=(fg h1 h2).imp λD σ H ⟨H0,A0,A,δ,R,o⟩=>⟨H0,A0,A,δ,R,by
 unfold ax at o;cases q:G δ with
 |nx δ'=>rw[q]at o;exact λa σ' H' b=>⟨H0,A0,a,δ',b,o⟩
 |rt d=>rw[q]at o;exact o
 |rz C=>rw[q]at o;exact o
 |bk d=>rw[q]at o;exact o
 |ct d=>rw[q]at o;exact o
 |no=>rw[q]at o;exact o⟩
theorem p4 (h1:PSD X E O st G):PBD X E O [st] G:=(gE h1).imp λD σ H h=>h
theorem xy {a:List Stmt} (hc:PCD X E c ca) (h1:PBD X E O ss G) (h2:PBD X E O a G'):PSD X E O (.If c ss a pos) (sIf ca G G'):=(sE hc h1 h2).imp λD σ H e=>by
 obtain⟨H0,A0,A,δ,R,o⟩:=e;unfold sIf at o;refine cD.run R.full (λt b H1 f R1=>?_) (λC b H' s'=>?_) (λb=>?_)
 ·rw[b]at o;cases t with
  |true=>exact⟨H0,A0,A,δ,R.step f,o⟩
  |false=>exact⟨H0,A0,A,δ,R.step f,o⟩
 ·rw[b]at o;exact o H' (R.same.trans s')
 ·rw[b]at o;exact o
theorem vo (h:PD X E e ga):PSD X E O (.Return (some e) pos) (bp ga):=(iO h).imp λD σ H a=>by
 obtain⟨H0,A0,A,δ,R,o⟩:=a;unfold bp at o;refine eD.run R.full (λd c v H1 f R1 g=>?_) (λC b H' s'=>?_) (λb=>?_)
 ·rw[c]at o;exact o v H1 (R.same.trans f) g
 ·rw[b]at o;exact o H' (R.same.trans s')
 ·rw[b]at o;exact o
theorem rR (h:PD X E e ga) (c:swapsWith e none pos.line X.env=pure false):PSD X E O (.Expr e pos) (aU ga):=(jW h c).imp λD σ H a=>by
 obtain⟨H0,A0,A,δ,R,o⟩:=a;unfold aU at o;refine eD.run R.full (λd f v H1 g R1 hv=>?_) (λC b H' s'=>?_) (λb=>?_)
 ·rw[f]at o;exact o A σ H1 (R.step g)
 ·rw[b]at o;exact o H' (R.same.trans s')
 ·rw[b]at o;exact o
theorem uI (h:PD X E e ga) (c:X.N.Nodup) (f:i∉O) (hi:X.N[i]?=some x) (g:Loc X.env.scope x) (j:swapsWith e (some (.Name x pos')) pos.line X.env=pure false)
  (k:X.fn x=true\/X.env.scope.names.lookup x=some .local):PSD X E O (.Assign [.Name x pos'] e pos) (bh O i ga):=(kl c hi g h j k).imp λD σ H a=>by
 obtain⟨H0,A0,A,δ,R,o⟩:=a;unfold bh at o;split at o
 ·rename_i hl;refine eD.run R.part (λd l v H1 m R1 n=>?_) (λC b H' s'=>?_) (λb=>?_)
  ·rw[l]at o;exact o A _ H1 ((R.step m).set f hl n)
  ·rw[b]at o;exact o H' (R.same.trans s')
  ·rw[b]at o;exact o
 ·exact o.elim
theorem vR {a:Ds->Rs (List PyData)} (h:PLD X E e a) (f:X.N.Nodup) (g:i∈O) (hi:X.N[i]?=some x) (j:Loc X.env.scope x) (k:swapsWith e (some (.Name x pos')) pos.line X.env=pure false)
  (l:X.fn x=true\/X.env.scope.names.lookup x=some .local):PSD X E O (.Assign [.Name x pos'] e pos) (k8 O i a):=(kl f hi j h k l).imp λD σ H b=>by
 obtain⟨H0,A0,A,δ,R,o⟩:=b;unfold k8 at o;split at o
 ·rename_i hl;refine⟨A++A0,mask O δ,R.part,?_⟩;cases q:a (mask O δ) with
  |ok ds =>rw[q]at o;exact λp xs H' hn s m c=>o (p::A) _ H' (R.setOwn g hl hn s m c)
  |rz C=>rw[q]at o;exact λH' s'=>o H' (R.same.trans s')
  |no=>rw[q]at o;exact o
 ·exact o.elim
theorem uh {a:Ds->Rs (List PyData)} (h:PLS X E i st a) (f:i∉O):PSD X E O st (bh O i (gL a)):=PS.imp h λD σ H b=>by
 obtain⟨H0,A0,A,δ,R,o⟩:=b;unfold bh gL at o;split at o
 ·rename_i hl;have e:=R.part;refine⟨A++A0,mask O δ,e,?_⟩;cases q:a (mask O δ) with
  |ok ds =>rw[q]at o;intro p xs H' hn s g c;exact o A _ H' ((R.step s).set f hl (mL (by rw[bG (e.ls.new hn)];exact g) (c.same lL)))
  |rz C=>rw[q]at o;exact λH' s'=>o H' (R.same.trans s')
  |no=>rw[q]at o;exact o
 ·exact o.elim
theorem tyL {p:Addr} (h:H p=some (.lst xs)):tyV K "list" (.ref p) H:=.inl ⟨rfl,xs,SqL.of h⟩
theorem uX {pn j c:Pos} (h:PD X E e ga) (s:i∈O) (hi:X.N[i]?=some x) (k:Vis X.env.scope x)
  (hd:(x==("__debug__":Str))=false) (l:(x==("__classdict__":Str))=false) (f:starEach [e] X.env=(false,eval e X.env)::starEach [] X.env)
  (a:attributeBase (.Name x pn) "append" X.env (eval (.Name x pn) X.env)=eval (.Name x pn) X.env)
  (g:((backTo c (starEach [e] X.env)).all (λx=>!x.1)&&(backToKw c (keywordEach [] X.env)).all (λx=>x.1.isSome)&&decide (([e]:List Expr).length+([]:List Keyword).length+(if ([]:List Keyword).isEmpty then 0 else 1)<30))=true)
  (b:(j.endLine==c.line)=true) (u:swapsWith (.Call (.Attribute (.Name x pn) "append" j) [e] [] c) none pos.line X.env=pure false) :
  PSD X E O (.Expr (.Call (.Attribute (.Name x pn) "append" j) [e] [] c) pos) (pe O i ga) :=
 (jW (pK PySem.F.plainAttrs_list PySem.F.slot_list_append PySem.F.type_list_append jo (eM hi k hd l) (bX h dw f) a g b f rfl) u).imp λD σ H m=>by
  obtain⟨H0,A0,A,δ,R,o⟩:=m;unfold pe at o;split at o
  ·rename_i ds q;obtain⟨p,xs,ds',e1,w,hl,e2,t⟩:=R.ownL s q;cases e2;refine⟨_,e1,tyL hl,?_⟩;refine eD.run R.part (λd y v H1 n R1 k=>?_) (λC r H' s'=>?_) (λr=>?_)
   ·rw[y]at o;have o:rW X.K E H0 A0 O (if ds.length<1000000 then .nx (δ.set i (some (.list (ds++[d])))) else .no) D:=o;split at o
    ·rename_i hz;refine⟨p,xs,v,rfl,rfl,n _ _ hl,by rw[t.length,sizeLine_eq];omega,?_⟩;exact o A _ _ ((R.step n).put s q e1 w ((t.same n.del).append (jY k)))
    ·exact o.elim
   ·rw[r]at o;exact o H' (R.same.trans s')
   ·rw[r]at o;exact o
  ·exact o.elim
def TgS (K:PySem.W.Frag) (O:List Nat) (tgt:PyData->Ds->Option Ds) (g:TG):Prop:=∀(d:PyData) (v:V) (H0:Hp) (A0:List Addr) (H:Hp) (A:List Addr) (δ a:Ds) (σ:St) (Q:St->Hp->Prop),cj K H0 A0 H A O δ σ->Is K (del H (A++A0)) d v->tgt d δ=some a ->
 (∀b,cj K H0 A0 H A O a b->Q b H)->g v σ H Q
def dS (i:Nat):PyData->Ds->Option Ds:=λd δ=>if i<δ.length then some (δ.set i (some d)) else none
theorem tJ (hi:i∉O):TgS K O (dS i) (i8 i):=λd v H0 A0 H A δ δ' σ Q R h e k=>by
 unfold dS at e;split at e
 ·rename_i hl;cases e;exact k _ (R.set hi hl h)
 ·cases e
def forL (tgt:PyData->Ds->Option Ds) (body:Ds->Sr):List PyData->Ds->Sr
 |[],δ=>.nx δ
 |d::r,δ=>match tgt d δ with
  |none=>.no
  |some δ1=>match body δ1 with
   |.nx δ2=>forL tgt body r δ2
   |.ct δ2=>forL tgt body r δ2
   |.bk δ2=>.nx δ2
   |.rt v=>.rt v
   |.rz C=>.rz C
   |.no=>.no
def mY (O:List Nat) (src:Ds->Rs (List PyData)) (tgt:PyData->Ds->Option Ds) (body:Ds->Sr):Ds->Sr:=λδ=>ofR (src (mask O δ)) λds=>forL tgt body ds δ
theorem ve {s:Ds->Rs (List PyData)} {tgt:PyData->Ds->Option Ds} (P:PassesOwn (model X.prog X.w) X.A X.env X.xe) (hc:X.calm=true) (hi:PID X E tg iter s) (Q:TgS X.K O tgt g) (S:PG X tg g) (t:PBD X E O ss G)
  (T:∀x,foldedSetIterable iter X.env x=pure x):PSD X E O (.For tg iter ss [] pos) (mY O s tgt G):=(xb P hc hi S t T).imp λD σ H u=>by
 obtain⟨H0,A0,A,δ,R,o⟩:=u;unfold mY at o;refine⟨A++A0,mask O δ,R.part,?_⟩;cases q:s (mask O δ) with
 |no=>rw[q]at o;exact o
 |rz C=>rw[q]at o;exact λH' s'=>o H' (R.same.trans s')
 |ok ds =>
  rw[q]at o;intro J H1 L U;have W:=(R.step L).more;have o:rW X.K E H0 A0 O (forL tgt G ds δ) D:=o;refine⟨λi m f H'=>m=ds.length-i/\i<=ds.length/\∃k c,cj X.K (un H0 (del H1 (A++A0))) A0 H' k O c f/\rW X.K E H0 A0 O (forL tgt G (ds.drop i) c) D,⟨ds.length,by simp,Cz _,A,δ,W,o⟩,?_⟩
  rintro i m f H' ⟨rfl,hi',k,c,l,o'⟩
  have M:aw (del H1 (A++A0)) (un H0 (del H1 (A++A0))):=AB (R.same.trans L) aC;have hB:∀b∈k++A0,(del H1 (A++A0)) b=none:=λb t=>by
   rcases BA.mp t with z|z
   ·exact M.free (l.new b z)
   ·exact jb (Bv _ z)
  obtain⟨Y,js,Z⟩:=U H' (k++A0) (M.trans l.same) l.lsA hB;by_cases hlt:i<ds.length
  ·refine .inr ⟨Y i hlt,?_⟩;have B:ds.drop i=ds[i]::ds.drop (i+1):=List.drop_eq_getElem_cons hlt;rw[B]at o';unfold forL at o';refine⟨λn H2=>∃F a,cj X.K (un H0 (del H1 (A++A0))) A0 H2 F O a n/\rW X.K E H0 A0 O (forL tgt G (ds.drop (i+1)) a) D,λn H2 ⟨F,a,R2,o2⟩=>⟨ds.length-(i+1),by omega,rfl,hlt,F,a,R2,o2⟩,λx H2 y=>?_⟩;obtain⟨s2,d,N,hd⟩:=Z i x H2 hlt y;have:ds[i]=d:=by have:=B2 hlt;rw[this]at N;exact Option.some.inj N
   rw[this]at o';cases et:tgt d c with
   |none=>rw[et]at o';exact o'.elim
   |some δ1 =>
    simp only[et]at o';refine Q d x _ _ _ _ _ _ _ _ (l.step s2) hd et λσ3 R3=>⟨_,_,_,_,R3,?_⟩
    cases eb:G δ1 with
    |nx a=>rw[eb]at o';exact λp h j r=>⟨p,a,r,o'⟩
    |ct a=>rw[eb]at o';exact λp h j r=>⟨p,a,r,o'⟩
    |bk a=>rw[eb]at o';exact λp h j r=>o' p h j (r.less sk R.ls0)
    |rt v=>rw[eb]at o';exact λv4 j I h4=>o' v4 j (sk.trans I) h4
    |rz C=>rw[eb]at o';exact λj I=>o' j (sk.trans I)
    |no=>rw[eb]at o';exact o'
  ·have e:i=ds.length:=by omega
   subst e;rw[List.drop_length]at o';exact .inl ⟨js,o' k f H' (l.less sk R.ls0)⟩
end
section
variable {ss:List Stmt} {G G':Ds->Sr} {a b c:Expr} {ga gb gk:Ds->Rs PyData} {ca:Ds->Rs Bool}
def qV (i:Nat) (gk ge:Ds->Rs PyData):Ds->Sr:=λδ=>match δ[i]? with
 |some (some (.list ds))=>ofR (ge δ) λd=>ofR (gk δ) λk=>match k with
  |.int k=>match ixN ds.length k with
   |some j=>if eZ d then .nx (δ.set i (some (.list (ds.set j d)))) else .no
   |none=>.no
  |_=>.no
 |_=>.no
theorem u7 {k:Expr} {pn ps:Pos} (h:PD X E e ga) (r:PD X E k gk) (l:i∈O) (hi:X.N[i]?=some x) (c:Vis X.env.scope x)
  (hd:(x==("__debug__":Str))=false) (f:(x==("__classdict__":Str))=false)
  (ha:∀v,assign (.Subscript (.Name x pn) k ps) X.env v=(do
   let ov <-holding [v] (eval (.Name x pn) X.env);let iv <-holding [v,ov] (eval k X.env)
   standAt ps
   holding [v,ov,iv] (setItem ov iv v)
   release [v,ov,iv] []))
  (s:swapsWithSole [.Subscript (.Name x pn) k ps] e pos.line X.env=pure false) (hw:swappedStores [.Subscript (.Name x pn) k ps] e X.env=pure none)
  (h1:(assignEach [.Subscript (.Name x pn) k ps] X.env).map (·.2)=[assign (.Subscript (.Name x pn) k ps) X.env]):PSD X E O (.Assign [.Subscript (.Name x pn) k ps] e pos) (qV i gk ga) :=
 (yF h (yc (eM hi c hd f) r set_list ha) s hw h1).imp λD σ H g=>by
  obtain⟨H0,A0,A,δ,R,o⟩:=g;unfold qV at o;split at o
  ·rename_i ds q;obtain⟨p,xs,ds',e1,t,hl,e2,m⟩:=R.ownL l q;cases e2;refine eD.run R.full (λd w v H1 n y c=>?_) (λC b H' s'=>?_) (λb=>?_)
   ·simp only[w,bB]at o;refine⟨_,e1,?_⟩;refine eD.run y (λkd z u H2 s2 R2 B=>?_) (λC b H' s'=>?_) (λb=>?_)
    ·simp only[z,bB]at o;split at o
     ·rename_i F;split at o
      ·rename_i j G;split at o
       ·rename_i hn;have a:=n.trans s2;refine⟨p,xs,F,j,rfl,B.ofInt,a _ _ hl,by rw[m.length];exact G,?_⟩;exact o A _ _ ((R.step a).put l q e1 t (Iss.set (((c.same s2.del).same aC).dl (R.step a).lsA hn) j (m.same a.del)))
       ·exact o.elim
      ·exact o.elim
     ·exact o.elim
    ·simp only[b,pk]at o;exact o H' (R.same.trans (n.trans s'))
    ·simp only[b,pw]at o;exact o
   ·simp only[b,pk]at o;exact o H' (R.same.trans s')
   ·simp only[b,pw]at o;exact o
  ·exact o.elim
structure gW (K:PySem.W.Frag) (mg:Str->Option Value) (x:Str) (C:Addr):Prop where
 m:mg x=some (.ref C)
 e:PySem.W.excIn K C [.type "ValueError",.type "Exception",.type "BaseException",.type "object"] "ValueError.__new__"=true
def eI (C:Addr) (gs:Ds->Rs (List PyData)):Ds->Sr:=λδ=>ofR (gs δ) λ_=>.rz C
theorem qp {i:Pos} (hc:X.calm=true) (M:oQ X E) (g:gW X.K X.mg x C) (ha:PAD X E (e::es) gs) (hl:(e::es).length<=1000) (j:Gl X x)
  (a:(x==("__debug__":Str))=false) (k:starEach (e::es) X.env=(false,eval e X.env)::starEach es X.env) (b:(backTo cpos (starEach es X.env)).any (·.1)=false) :
  PSD X E O (.Raise (some (.Call (.Name x i) (e::es) [] cpos)) none pos) (eI C gs) :=
 (ua hc M PySem.F.excBase_ValueError j g.m g.e ha.1 a k b).imp λD σ H c=>by
  obtain⟨H0,A0,A,δ,R,o⟩:=c;unfold eI at o;refine aD.run R.full (λds h vs H1 l R1 n=>?_) (λC f H' s'=>?_) (λf=>?_)
  ·simp only[h,bB]at o;exact⟨by rw[n.length,ha.2 δ ds h,sizeLine_eq];omega,o H1 (R.same.trans l)⟩
  ·simp only[f,pk]at o;exact o H' (R.same.trans s')
  ·simp only[f,pw]at o;exact o
end
section
theorem p6 {f:Addr} {CX:CXT} (F:Fun K x qual st f fd) (S:ef N ps (aQ st)) (len:∀vs H Q E,sp vs H Q E->vs.length=ps.length)
  (a:∀(cdv:Value) (A:Around) (outer:List Env) (s:Shared) (H:Hp) (vs:List V) (Q:VK) (E:XK),dG k (A.deeper (envOfC qual (aQ st) s.heap.objs.size f cdv))->sp vs H Q E ->
   ∃t,PSs (fP CX P w K mg base N qual (aQ st) f cdv A outer s H E) (c9 st) t/\t { nx:=λ_ H'=>Q .non H',rt:=Q } (start N vs) H):fJ P w K mg base CX (k+1) f fd ps sp:=by
 obtain⟨oc,od,kV,doc,pm,an,cdv,ct,osl,rfl,e,b⟩:=F.ex;exact wj e b S len λA outer s H vs Q E g c=>a cdv A outer s H vs Q E g c
noncomputable def cy:Sr->Rs PyData
 |.rt d=>.ok d
 |.nx _=>.ok .none
 |.rz C=>.rz C
 |_=>.no
theorem yq {f:Addr} {A:Around}:oQ (fP (CXW P w) P w K mg base N qual scope f cd A outer s H E) E :=
 λ_ _ _ _ _ _ _ _ I a b=>nO (CX:=CX0) I a b
theorem cj.start {A0:List Addr} (f:Ls H A0) (hi:Iss K (del H A0) ds vs) (hl:ds.length=ps.length) (c:∀i∈O,ps.length<=i) :
  cj K H A0 H [] O (ds.map some++List.replicate (N.length-ps.length) none) (L2.start N vs):=by
 have g:=hi.length;have at':∀(i:Nat) d,(ds.map some++List.replicate (N.length-ps.length) none)[i]?=some (some d)->i<ds.length/\ds[i]?=some d:=λi d e=>by
  by_cases h:i<ds.length
  ·rw[BJ (by simpa using h),BK]at e;refine⟨h,?_⟩;cases q:ds[i]? with
   |none=>rw[q]at e;cases e
   |some z=>rw[q]at e;simp at e;rw[e]
  ·rw[BQ (by simpa using h),C4]at e;split at e <;> cases e
 refine⟨aw.refl _,f,(λa h=>by cases h),(λa h=>by cases h),?_,λi d _ e=>?_,λi d h e=>?_,λi j d e a h _ q _ _ _=>?_⟩
 ·unfold L2.start;simp[g,hl]
 ·obtain⟨b,e⟩:=at' i d e;obtain⟨v,k,hd⟩:=hi.getD e;refine⟨v,?_,hd⟩;unfold L2.start;rw[BJ (by simp;omega),BK,k];rfl
 ·obtain⟨b,_⟩:=at' i d e;exact absurd (c i h) (by omega)
 ·obtain⟨b,_⟩:=at' i d q;exact absurd (c i h) (by omega)
theorem iA.of {f:Addr} {G:Ds->Sr} (F:Fun K x qual st f fd) (S:ef N ps (aQ st)) (b:Binds K fd ps []) (m:mg x=some (.ref f)) (e:∀i∈O,ps.length<=i)
  (body:∀(cdv:Value) (A:Around) (outer:List Env) (s:Shared) (H:Hp) (E:XK),dG k (A.deeper (envOfC qual (aQ st) s.heap.objs.size f cdv))->PBD (fP (CXW P w) P w K mg base N qual (aQ st) f cdv A outer s H E) E O (c9 st) G)
  (g:∀ds,ds.length=ps.length->gf ds≠.no->cy (G (ds.map some++List.replicate (N.length-ps.length) none))=gf ds):iA P w K mg base (k+1) x ps.length gf:=by
 refine⟨f,fd,ps,p6 F S (λvs H Q E h=>?_) (λcdv A outer s H vs Q E j h=>?_),m,F.kp,b⟩
 ·obtain⟨A,ds,c,hi,hl,o⟩:=h;rw[hi.length,hl]
 ·obtain⟨A0,ds,c,hi,hl,o⟩:=h;refine⟨_,body cdv A outer s H E j,H,A0,[],_,cj.start c hi hl e,?_⟩;have a:=g ds hl (λz=>by rw[z]at o;exact o);cases q:G (ds.map some++List.replicate (N.length-ps.length) none) with
  |rt d=>rw[q]at a;rw[<-a]at o;exact λv H' s' l=>o v H' s' l
  |nx δ=>rw[q]at a;rw[<-a]at o;exact λA' σ H' n=>o .non H' n.same is_none
  |rz C=>rw[q]at a;rw[<-a]at o;exact λH' s'=>o H' s'
  |bk δ=>rw[q]at a;rw[<-a]at o;exact o.elim
  |ct δ=>rw[q]at a;rw[<-a]at o;exact o.elim
  |no=>rw[q]at a;rw[<-a]at o;exact o.elim
theorem iA.old {f:Addr} (F:fJ P w K mg base CX0 k f fd ps sp) (m:mg x=some (.ref f)) (kp:PySem.W.keepIn K (.ref f)=true) (b:Binds K fd ps [])
  (h:∀ds,ds.length=ps.length->gf ds≠.no->∃d,gf ds=.ok d/\lN d=true/\∀vs H Q,Iss K H ds vs->(∀v H',aw H H'->IsD K H' d v->Q v H')->sp vs H Q E0):iA P w K mg base k x ps.length gf:=by
 refine⟨f,fd,ps,⟨λvs H Q E h'=>?_,λA outer s H args us vs Q E j l n p h'=>?_⟩,m,kp,b⟩
 ·obtain⟨A,ds,g,hi,hl,o⟩:=h';rw[hi.length,hl]
 ·obtain⟨A0,ds,g,hi,hl,o⟩:=h';obtain⟨d,e,i,c⟩:=h ds hl (λz=>by rw[z]at o;exact o);rw[e]at o;refine codeAny_mono (F.run A outer s H args us vs Q E0 j l n p (c vs H Q (hi.same aC) λv H' s' hd=>o v H' s' ((hd.is i).dl (g.same s') (oN i)))) λr s' a=>?_
  cases r with
  |error ev=>exact False.elim a
  |ok fl =>
   cases fl with
   |ret u=>exact a
   |next=>exact False.elim a
   |brk=>exact False.elim a
   |cont=>exact False.elim a
end
open AutoSeq1 (wpAny_loadPart')
theorem jt:fillsNumberSlot (.type "tuple") "mul"=pure false :=
 PySem.fillsNumberSlot_seq (id:="tuple.__mul__") (r:=some (.builtin "tuple.__rmul__")) PySem.F.slot_tuple_mul.lookup (by decide +kernel) PySem.F.slot_tuple_rmul.lookup (by decide +kernel)
theorem mP:seqRepeat? (.type "tuple")=pure (some (.builtin "tuple.__mul__")):=by unfold seqRepeat?;rw[PySem.seqSlot_of (T:="tuple") (name:="__mul__") (id:="tuple.__mul__") PySem.F.slot_tuple_mul.lookup (by decide +kernel),PySem.seqSlot_of (T:="tuple") (name:="__rmul__") (id:="tuple.__rmul__") PySem.F.slot_tuple_rmul.lookup (by decide +kernel)];rfl
theorem mT (a:Int) (t:Tok) (l:Addr) (items:Array Value) (n:Nat) (dd:Option Addr) (b:Array (Option Value)) :
  Meets (Builtin.«int.__rmul__» ⟨[.int a t,.ref l],[]⟩) (λ_ R s=>s.heap.get? l=some { cls:=.type "tuple",dict:=dd,data:=.seq items n,slots:=b }/\R (.ok (.ret Value.notImplemented)) s) :=
 .of_wp λprog w A R s h=>by obtain⟨hp,g,d,tk,os⟩:=s;obtain⟨hl,h⟩:=h;wp_walk;exact⟨_,rfl,h⟩
theorem ui (l:Addr) (items:Array Value) (n:Nat) (x:Int) (u:Tok) (dd:Option Addr) (c:Array (Option Value)) (h1:(decide (x < -(2 ^ 63))||decide (x≥2 ^ 63))=false) (h2:(items.isEmpty||x==1)=false) (h3:(decide (x<=0)||items.isEmpty)=false)
  (e:decide ((items.size:Int)*x>(2 ^ 63-1) / 8)=false) (h5:Builtin.Tuple.tupleTooMany ((items.size:Int)*x)=false) (hsz:(List.foldl (λa b=>a++b) #[] (List.replicate x.toNat items)).size<=sizeLine) :
  Meets (Builtin.«tuple.__mul__» ⟨[.ref l,.int x u],[]⟩) (λ_ R s=>s.heap.get? l=some { cls:=.type "tuple",dict:=dd,data:=.seq items n,slots:=c }/\R (.ok (.ret (Value.ref s.heap.objs.size))) { s with heap:=s.heap.push { cls:=Value.type "tuple",data:=Data.seq (List.foldl (λa b=>a++b) #[] (List.replicate x.toNat items)) } }) :=
 .of_wp λprog w A R s h=>by
  obtain⟨hp,g,d,tk,os⟩:=s;obtain⟨hl,h⟩:=h;have f1:=AutoSeq1.idx_int;have f2:=AutoSeq1.sub_tuple_tuple
  wp_walk using wpAny_loadPart' hl
  refine wpAny_ite_false (by rw[h1];rfl) ?_
  wp_walk using wpAny_loadPart' hl
  refine wpAny_ite_false e ?_
  wp_walk using wpAny_loadPart' hl
  exact⟨_,rfl,h⟩
section
variable {a b c:Expr} {ga gb gc:Ds->Rs PyData}
def wa (K:PySem.W.Frag):R2:=λx y H Q=>∃l k xs,x=.ref l/\y=.int k/\SqT K H l xs/\xs≠[]/\2<=k/\k<1000000/\xs.length*k.toNat<=1000000/\∀p,H p=none->Q (.ref p) (upd H p (.tup (List.replicate k.toNat xs).flatten))
theorem uR:OpR X (binaryOp .Mult) (wa X.K):=by
 intro pins s σ H x y v u Q I m p h;obtain⟨l,k,xs,rfl,rfl,hl,i,hk1,hk2,w,q⟩:=h;cases m;obtain⟨t,rfl⟩:=p;obtain⟨a,r,p1,_⟩:=I.tuple hl;obtain⟨⟨cls,dd,data,j⟩,g,hc,n,hd⟩:=id p1;simp only at hc hd;subst hc hd;have hlen:=r.length;have e:a≠[]:=λz=>i (r.nil_iff.mp z)
 have hpos:0<a.length:=List.length_pos_iff.mpr e;have c:List.foldl (λA B=>A++B) #[] (List.replicate k.toNat a.toArray)=(List.replicate k.toNat a).flatten.toArray:=by have:=foldl_rep a k.toNat [];rw[C6]at this;exact this
 have f:a.toArray.isEmpty=false:=by simp[e]
 have hmul:(a.length:Int)*k<=1000000:=by
  have e1:((a.length*k.toNat:Nat):Int)=(a.length:Int)*k:=by rw[Int.natCast_mul,Int.toNat_of_nonneg (by omega)]
  rw[<-e1,<-hlen];omega
 have hsz2:(List.replicate k.toNat a).flatten.length<=1000000:=by rw[len_rep,Nat.mul_comm,<-hlen];exact w
 refine wpAny_binaryOp_repeat_ref (T:="tuple") (U:="int") (by decide) ⟨_,g,rfl⟩ (λs'=>typeIs_int s' k t) jt PySem.F.fills_int_mul PySem.F.slot_int_rmul mP PySem.F.slot_int_index.lookup
  (call_meets PySem.F.slot_int_rmul (typeIs_int s k t) PySem.F.entry_int_rmul (PySem.F.args_int_rmul_2 _ _) (mT k t l a.toArray n dd j)
   ⟨g,rfl,⟨_,g,rfl⟩,call_meets PySem.F.slot_tuple_mul ⟨_,g,rfl⟩ PySem.F.entry_tuple_mul (PySem.F.args_tuple_mul_2 _ _) (ui l a.toArray n k t dd j ?_ ?_ ?_ ?_ ?_ ?_) ⟨g,?_⟩⟩)
 ·rw[decide_eq_false (by omega),decide_eq_false (by omega)];rfl
 ·rw[f,Bool.false_or];simp;omega
 ·rw[f,Bool.or_false];exact decide_eq_false (by omega)
 ·rw[B1];exact decide_eq_false (by omega)
 ·rw[B1];unfold Builtin.Tuple.tupleTooMany;rw[sizeLine_eq];exact decide_eq_false (by omega)
 ·rw[c,B1,sizeLine_eq];omega
 ·rw[c];refine⟨.ref s.heap.objs.size,_,I.laid (t':=s.toks) (o:=.tup (List.replicate k.toNat xs).flatten) (λb ob q=>B0 _ q) (B5 _) ?_,rfl,q _ (I.hok.fresh (B5 _))⟩;exact⟨by rw[len_rep,Nat.mul_comm,sizeLine_eq];omega,_,r.rep k.toNat,mV.new _ _⟩
def gI:PyData->PyData->Option PyData
 |.int i,.int j=>if (-(2 ^ 64)<i/\i<2 ^ 64)\/(-(2 ^ 64)<j/\j<2 ^ 64) then some (.int (i*j)) else none
 |.list x,.int k=>if 0<=k/\k<1000000/\x.length*k.toNat<=1000000 then some (.list (List.replicate k.toNat x).flatten) else none
 |.tuple x,.int k=>if x≠[]/\2<=k/\k<1000000/\x.length*k.toNat<=1000000 then some (.tuple (List.replicate k.toNat x).flatten) else none
 |_,_=>none
theorem vZ:OpD K gI (λx y H Q=>rI vF (λi j=>.int (i*j)) x y H Q\/zg x y H Q\/wa K x y H Q):=λd1 d2 d x y H A Q e f h1 h2 k=>by
 unfold gI at e;split at e
 ·split at e
  ·rename_i z;cases e;exact .inl ⟨_,_,h1.ofInt,h2.ofInt,z,k _ H (aw.refl _) cm⟩
  ·cases e
 ·split at e
  ·rename_i z;cases e;obtain⟨p,xs,rfl,c,a⟩:=h1.ofLst;exact .inr (.inl ⟨p,_,xs,rfl,h2.ofInt,aC _ _ c,by omega,by omega,by rw[a.length,sizeLine_eq];omega,λr b=>k _ _ (a8 b) (ip f b (a.rep _))⟩)
  ·cases e
 ·split at e
  ·rename_i z;cases e;obtain⟨p,xs,rfl,c,a⟩:=h1.ofTup;refine .inr (.inr ⟨p,_,xs,rfl,h2.ofInt,SqT.of (aC _ _ c),λq=>z.1 ?_,z.2.1,z.2.2.1,by rw[a.length];exact z.2.2.2,λr b=>k _ _ (a8 b) (iV f b (a.rep _))⟩);exact C5.mp (by rw[<-a.length,q];rfl)
  ·cases e
 ·cases e
theorem xN (ha:PD X E a ga) (c:PD X E b gb):PD X E (.BinOp a .Mult b pos) (g2 gI ga gb):=g0 vZ ha c (dE (jw.or (xn.or uR)))
end
section
variable {prog:Program} {A:Around} {E:Value->Shared->Prop}
theorem iz {i j:Value} (a:IsTup s.heap t items) (k:s.heap.IsSliceOf c i j .none) (pl:IsPart i lo) (l:IsPart j hi)
  (hw:HT.sIx items.size 0 lo=0/\HT.sIx items.size items.size hi=items.size) (h:Q (.ref t) s):wpAny (model prog w) A (getItem (.ref t) (.ref c)) Q E s:=by
 obtain⟨os,e,f,hds⟩:=id k;have g:s.TypeIs (.ref c) "slice":=⟨os,e,f⟩
 unfold getItem
 try with_reducible refine wpAny_holding ?_
 first|refine wpAny_bind (wpAny_pure ?_)|skip
 refine wpAny_bind (wpAny_sequenceKey a.typeIs (by decide) ?_);refine wpAny_bind (wpAny_callSpecial?_slot (name:=Str.ofString "__getitem__") a.typeIs PyProof.Rows.slot_tuple_getitem
  (wpAny_call_entry PyProof.Rows.slot_tuple_getitem a.typeIs entry_tuple_getitem ?_ (args_tuple_getitem _ _)))
 show wpAny _ _ (Builtin.Tuple.tupleItemsOf (.ref t) >>= _) _ _ s;refine wpAny_bind (tupleItemsOf_ a ?_);refine wpAny_bind (wpAny_typeOf g ?_);rw[if_pos (by decide)];refine wpAny_bind (HT.f6 k pl l ?_);have b:(((HT.sIx items.size 0 lo:Nat):Int)==0&&(1:Int)==1&&(HT.sIx items.size items.size hi-HT.sIx items.size 0 lo)==items.size)=true:=by rw[hw.1,hw.2];simp
 show wpAny _ _ (if (((HT.sIx items.size 0 lo:Nat):Int)==0&&(1:Int)==1&&(HT.sIx items.size items.size hi-HT.sIx items.size 0 lo)==items.size)=true then _ else _) _ _ s;rw[if_pos b];refine wpAny_bind (m:=Builtin.Tuple.tupleIsExact (.ref t)) (wpAny_bind (wpAny_typeOf a.typeIs (wpAny_pure ?_)));rw[if_pos (by decide)]
 first
  |exact wpAny_bind (wpAny_rule (wpAny_pure ⟨_,rfl,wpAny_pure h⟩))
  |(refine wpAny_bind (wpAny_rule ?_);trace_state;exact wpAny_pure ⟨_,rfl,wpAny_pure h⟩)
end
end L2
variable {g:L2.Ds->L2.Rs PyData} {δ:L2.Ds} {gf:List PyData->L2.Rs PyData} {gs:L2.Ds->L2.Rs (List PyData)}
namespace L2
open PySem PySem.Spec PyProof.Rows
section
variable {E:XK} {a b c:Expr} {ga gb gc:Ds->Rs PyData}
def zU (K:PySem.W.Frag):V->Option Int->Option Int->Hp->VK->Prop:=λx lo hi H Q=>∃a xs,x=.ref a/\SqT K H a xs/\(HT.sIx xs.length 0 lo=0/\HT.sIx xs.length xs.length hi=xs.length)/\Q (.ref a) H
theorem u3:SlR X (zU X.K):=by
 intro pins s σ H x v vl vu lo hi sl Q I e f pl g h;obtain⟨a,xs,rfl,i,hw,q⟩:=h;cases e;obtain⟨b,r,c,hz⟩:=I.tuple i;have hlen:b.toArray.size=xs.length:=by rw[B1,r.length]
 refine⟨"tuple",_,PyProof.Rows.slot_tuple_getitem.lookup,c.typeIs,?_⟩;exact iz c f pl g (by rw[hlen];exact hw) ⟨.ref a,H,I,rfl,q⟩
def cutD (xs:List PyData) (lo hi:Option Int):List PyData:=(xs.drop (HT.sIx xs.length 0 lo)).take (HT.sIx xs.length xs.length hi-HT.sIx xs.length 0 lo)
def qM:PyData->Option Int->Option Int->Option PyData
 |.list x,lo,hi=>some (.list (cutD x lo hi))
 |.tuple x,lo,hi=>some (.tuple (cutD x lo hi))
 |_,_,_=>none
def sS:PyData->Rs (Option Int)
 |.int i=>.ok (some i)
 |_=>.no
def a5:Ds->Rs (Option Int):=λ_=>.ok none
def b9 (g:Ds->Rs PyData):Ds->Rs (Option Int):=λδ=>(g δ).bind sS
def AZ (E:XK) (H:Hp) (r:Rs (Option Int)) (Q:Option Int->Hp->Prop):Prop:=match r with
 |.ok o=>∀H',aw H H'->Q o H'
 |.rz C=>∀H',aw H H'->E (.ref C) none H'
 |.no=>False
def oD (K:PySem.W.Frag) (E:XK) (g:Ds->Rs (Option Int)):TO:=λσ H Q=>∃A δ,cK K H A δ σ/\AZ E H (g δ) Q
def POD (X:Cx) (E:XK) (e:Option Expr) (g:Ds->Rs (Option Int)):Prop:=PO X e (oD X.K E g)
theorem PO.imp {e:Option Expr} {t t':TO} (h:PO X e t) (k:∀σ H Q,t' σ H Q->t σ H Q):PO X e t':=λpins s σ H Q I q=>h pins s σ H Q I (k σ H Q q)
theorem t7:POD X E none a5:=uQ.imp λσ H Q a=>(by obtain⟨A,δ,R,o⟩:=a;exact o H (aw.refl _))
theorem sQ (h:PD X E e ga):POD X E (some e) (b9 ga):=(uM h).imp λσ H Q ⟨A,δ,R,o⟩=>⟨A,δ,R,by
 unfold b9 at o;cases q:ga δ with
 |no=>rw[q]at o;exact o
 |rz C=>rw[q]at o;exact o
 |ok d =>
  rw[q]at o;cases d with
  |int i=>exact λv H' s h=>⟨i,h.ofInt,o H' s⟩
  |_=>exact o.elim⟩
theorem oD.run {g:Ds->Rs (Option Int)} {Q:Option Int->Hp->Prop} (R:cK K H A δ σ)
  (ok:∀d,g δ=.ok d->∀H',aw H H'->cK K H' A δ σ->Q d H') (rz:∀C,g δ=.rz C->∀H',aw H H'->E (.ref C) none H') (no:g δ=.no->False):oD K E g σ H Q:=by
 refine⟨A,δ,R,?_⟩;cases e:g δ with
 |ok d=>exact λH' s=>ok d e H' s (R.same s)
 |rz C=>exact λH' s=>rz C e H' s
 |no=>exact no e
def bo (g:Ds->Rs PyData) (lo hi:Ds->Rs (Option Int)):Ds->Rs PyData:=λδ=>(g δ).bind λd=>(lo δ).bind λl=>(hi δ).bind λh=>Rs.cW (qM d l h)
theorem Iss.cut (h:Iss K H ds vs) (lo hi:Option Int):Iss K H (cutD ds lo hi) (oj vs lo hi):=by unfold cutD oj;rw[h.length];exact (h.drop _).take _
theorem sC {lo hi:Option Expr} {m n:Ds->Rs (Option Int)} (t:PD X E e ga) (hl:POD X E lo m) (u:POD X E hi n):PD X E (.Subscript e (.Slice lo hi none p2) pos) (bo ga m n) :=
 (uk (u0.or (yv.or u3)) t hl u).imp λσ H Q j=>by
  obtain⟨A,δ,R,o⟩:=j;unfold bo at o;refine eD.run R (λd w v H1 k x y=>?_) (λC a H' s'=>by rw[a]at o;exact o H' s') (λa=>by rw[a]at o;exact o);simp only[w,Rs.ak]at o;refine oD.run x (λl z H2 s2 R2=>?_) (λC a H' s'=>by rw[a]at o;exact o H' (k.trans s')) (λa=>by rw[a]at o;exact o);simp only[z,Rs.ak]at o;refine oD.run R2 (λh B H3 r s=>?_) (λC a H' s'=>by rw[a]at o;exact o H' (k.trans (s2.trans s'))) (λa=>by rw[a]at o;exact o);simp only[B,Rs.ak]at o;have f:=y.same (s2.trans r).del;have b:=k.trans (s2.trans r);cases d with
  |list ds =>obtain⟨p,xs,rfl,g,c⟩:=f.ofLst;exact .inl ⟨p,xs,rfl,SqL.of (aC _ _ g),λq i=>o _ _ (b.trans (a8 i)) (ip s.ls i (c.cut l h))⟩
  |tuple ds =>
   obtain⟨p,xs,rfl,g,c⟩:=f.ofTup;by_cases hw:HT.sIx xs.length 0 l=0/\HT.sIx xs.length xs.length h=xs.length
   ·refine .inr (.inr ⟨p,xs,rfl,SqT.of (aC _ _ g),hw,o _ _ b ?_⟩);have e:cutD ds l h=ds:=by unfold cutD;rw[<-c.length,hw.1,hw.2];simp[c.length]
    show Is X.K _ (.tuple (cutD ds l h)) _;rw[e];exact iL g c
   ·exact .inr (.inl ⟨p,xs,rfl,SqT.of (aC _ _ g),hw,λq i=>o _ _ (b.trans (a8 i)) (iV s.ls i (c.cut l h))⟩)
  |_=>exact o.elim
def toV:PyData->V
 |.none=>.non
 |.bool b=>.bl b
 |.int i=>.int i
 |.str x=>.str x
 |_=>.non
def jl (f e:PyData->PyData->Option PyData) (a b c:Ds->Rs PyData):Ds->Rs PyData:=λδ=>(a δ).bind λx=>(b δ).bind λy=>(Rs.cW (f x y)).bind λz=>(truth z).bind λt=>if t=true then (c δ).bind λw=>Rs.cW (e y w) else .ok (.bool false)
theorem tP {k g:CmpOp} {r p:R2} {f i:PyData->PyData->Option PyData} (y:OpR X (compareOp k) r) (l:OpR X (compareOp g) p) (B:OpD X.K f r) (m:OpD X.K i p) (ha:PD X E a ga) (D:PD X E b gb) (hc:PD X E c gc)
  (hm:lastMarks [k,g] [b,c]=false:=by with_unfolding_all rfl):PD X E (.Compare a [k,g] [b,c] pos) (jl f i ga gb gc):=(rJ y l ha D hc hm).imp λσ H Q n=>by
 obtain⟨A,δ,R,o⟩:=n;unfold jl at o;refine eD.run R (λd1 e1 v H1 j F h1=>?_) (λC e H' s'=>by rw[e]at o;exact o H' s') (λe=>by rw[e]at o;exact o);simp only[e1,Rs.ak]at o;refine eD.run F (λd2 e2 u H2 s2 R2 h2=>?_) (λC e H' s'=>by rw[e]at o;exact o H' (j.trans s')) (λe=>by rw[e]at o;exact o);simp only[e2,Rs.ak]at o;cases e3:f d1 d2 with
 |none=>rw[e3]at o;exact o.elim
 |some z =>
  simp only[e3,Rs.aF,Rs.ak]at o;refine B d1 d2 z v u H2 A _ e3 R2.ls (h1.same s2.del) h2 λw G h I=>?_
  obtain⟨t,rfl,o⟩:=kN o;refine⟨t,I.ofBool,?_⟩;cases t with
  |false=>exact o _ G (j.trans (s2.trans h)) is_bool
  |true =>
   have o:fF X.K E A H ((gc δ).bind λw=>Rs.cW (i d2 w)) Q:=o;refine eD.run (R2.same h) (λq J L M s N O=>?_) (λC e H' s'=>by rw[e]at o;exact o H' (j.trans (s2.trans (h.trans s')))) (λe=>by rw[e]at o;exact o);simp only[J,Rs.ak]at o;cases e5:i d2 q with
   |none=>rw[e5]at o;exact o.elim
   |some d=>rw[e5]at o;exact m d2 q d u L M A Q e5 N.ls (h2.same (h.trans s).del) O λx P S T=>o x P (j.trans (s2.trans (h.trans (s.trans S)))) T
theorem uG (ha:PD X E a ga) (e:PD X E b gb) (hc:PD X E c gc) (hm:lastMarks [.LtE,.LtE] [b,c]=false):PD X E (.Compare a [.LtE,.LtE] [b,c] pos) (jl dLe dLe ga gb gc):=tP wy wy (kj λ_ _ _ _=>is_bool) (kj λ_ _ _ _=>is_bool) ha e hc hm
end
section
variable {E:XK} {a b c:Expr}
def AU (i j c:Int):Nat:=(Builtin.Range.rangeSize i j c).toNat
noncomputable def xG (i j c:Int):Bool:=decide (-(1000000)<=i/\i<=1000000/\-(1000000)<=j/\j<=1000000/\-(1000000)<=c/\c<=1000000/\c≠0)&&Builtin.Range.small i j c
def xJ (lo c:Int) (n:Nat):List PyData:=(List.range n).map λ(i:Nat)=>PyData.int (lo+(i:Int)*c)
def Ag:List PyData->Rs (List PyData)
 |[.int i,.int j,.int c]=>if xG i j c then .ok (xJ i c (AU i j c)) else .no
 |_=>.no
def zZ (g:Ds->Rs (List PyData)):Ds->Rs (List PyData):=λδ=>(g δ).bind Ag
def tLR (ta:TA):TE:=λσ H Q=>ta σ H λvs H1=>∃j:Int,vs=[.int j]/\0<=j/\j<=1000000/\∀p,H1 p=none->Q (.ref p) (upd H1 p (.lst ((List.range j.toNat).map λ(i:Nat)=>V.int (i:Int))))
theorem yz {s2:Shared} {Q:VK} {j:Int} {tk:Nat} {a:Array Value} {c:Nat} (f:Inv X pins σ H1 s2) (h:∀b o,s2.heap.get? b=some o->h'.get? b=some o)
 (hl:h'.get? s2.heap.objs.size=some { cls:=.type "list",dict:=none,data:=.seq a c,slots:=#[] }) (hi:ItemsOf (λi v=>∃t,v=.int ((0:Int)+(i:Int)*1) t) a j.toNat) (q1:0<=j) (q2:j<=1000000)
 (q:∀p,H1 p=none->Q (.ref p) (upd H1 p (.lst ((List.range j.toNat).map λ(i:Nat)=>V.int (i:Int))))):EP X pins σ Q (.ref s2.heap.objs.size) { s2 with heap:=h',toks:=tk }:=by
 have n:Vals ((List.range j.toNat).map λ(i:Nat)=>V.int (i:Int)) a.toList:=by
  have aux:∀(l:List Value) (k:Nat),(∀(m:Nat) v,l[m]?=some v->∃t,v=.int ((0:Int)+((k+m:Nat):Int)*1) t)->Vals ((List.range' k l.length).map λ(i:Nat)=>V.int (i:Int)) l:=by
   intro l
   induction l with
   |nil=>intro k _;exact .nil
   |cons x r ih =>
    intro k g;rw[BH,List.range'_succ,BC];refine .cons ?_ (ih (k+1) λm v hm=>?_)
    ·obtain⟨t,e⟩:=g 0 x rfl;exact⟨t,by rw[e];simp⟩
    ·obtain⟨t,e⟩:=g (m+1) v (by simpa using hm);exact⟨t,by rw[e,show k+(m+1)=k+1+m by omega]⟩
  have h1:=aux a.toList 0 (λm v hm=>by obtain⟨t,e⟩:=hi.2 m v (by rw[<-Co];exact hm);exact⟨t,by rw[e];simp⟩)
  rw[Cd,hi.1]at h1;rw[List.range_eq_range'];exact h1
 exact⟨.ref s2.heap.objs.size,_,f.laid (t':=tk) h (B5 _) (show dC X.prog X.w _ h' _ (.lst ((List.range j.toNat).map λ(i:Nat)=>V.int (i:Int))) from⟨by rw[B3,CC,sizeLine_eq];omega,a.toList,c,n,by simpa using hl⟩),rfl,q _ (f.hok.fresh (B5 _))⟩
theorem mU {c:Pos} (hc:X.calm=true) (u:Gl X "range") (hm:X.mg "range"=none) (g:Gl X "list") (i:X.mg "list"=none) (ha:PA X [a] ta) (v:starEach [a] X.env=[(false,eval a X.env)]:=by rfl)
  (f:starEach [.Call (.Name "range" p) [a] [] pos] X.env=[(false,eval (.Call (.Name "range" p) [a] [] pos) X.env)]:=by rfl) :
  PE X (.Call (.Name "list" p2) [.Call (.Name "range" p) [a] [] pos] [] c) (tLR ta):=by
 intro pins s σ H Q I h;refine Call_ (gu I g i mQ (PyProof.Rows.callWith_type1 ?_ f rfl));rw[f];show wpAny _ _ (spliced ((false,eval (.Call (.Name "range" p) [a] [] pos) X.env)::backTo c [])) _ _ s;refine Calls.spliced_cons (Call_ (gu I u hm boot_range (PyProof.Rows.callWith_type1 (thn (ha pos pins s σ H _ I h) λus s1 k=>?_) v rfl)));obtain⟨vs,H1,m,w,l⟩:=k;obtain⟨j,e,l,x,q⟩:=l;subst e;cases w with
 |cons r rr =>
  cases rr;obtain⟨t,rfl⟩:=r;refine call_range_1 (Calls.spliced_nil ?_);have e2:Builtin.Range.rangeSize 0 j 1=((j.toNat:Nat):Int):=by rw[rangeSize_one];split <;> omega
  refine call_list_range (n:=j.toNat) (m.ok.hd hc) (IsRange.new ..) (small_one (by omega) (by omega) (by omega) (by omega)) e2 (by omega) λh' tk acc' c' y hl hi=>?_
  exact yz (m.kept λb o e=>B0 _ e) y hl hi l x q
def mR:List PyData->Rs (List PyData)
 |[.int j]=>if 0<=j/\j<=1000000 then .ok (bQ 0 j.toNat) else .no
 |_=>.no
def gLR (g:Ds->Rs (List PyData)):Ds->Rs (List PyData):=λδ=>(g δ).bind mR
theorem qD {b:Pos} (hc:X.calm=true) (hm:X.mg "range"=none) (c:X.mg "list"=none) (ha:PAD X E [a] gs) (n:Gl X "range") (f:Gl X "list") (r:starEach [a] X.env=[(false,eval a X.env)])
  (g:starEach [.Call (.Name "range" p) [a] [] pos] X.env=[(false,eval (.Call (.Name "range" p) [a] [] pos) X.env)]):PLD X E (.Call (.Name "list" p2) [.Call (.Name "range" p) [a] [] pos] [] b) (gLR gs) :=
 (mU hc n hm f c ha.1 r g).imp λσ H Q k=>by
  obtain⟨A,δ,R,o⟩:=k;unfold gLR at o;refine aD.run R (λds e vs H1 l R1 h1=>?_) (λC e H' s'=>by rw[e]at o;exact o H' s') (λe=>by rw[e]at o;exact o);simp only[e,Rs.ak]at o;unfold mR at o;split at o
  ·split at o
   ·rename_i j z;obtain⟨v,rfl,h⟩:=jB h1;rw[h.ofInt];refine⟨j,rfl,z.1,z.2,λq m=>o q _ _ (l.free m) (l.trans (a8 m)) aV ?_⟩;have:bQ 0 j.toNat=((List.range j.toNat).map λ(i:Nat)=>(i:Int)).map PyData.int:=by unfold bQ;rw[BP];congr 1;funext i;simp
    rw[this,show ((List.range j.toNat).map λ(i:Nat)=>V.int (i:Int))=((List.range j.toNat).map λ(i:Nat)=>(i:Int)).map V.int by rw[BP];rfl];exact nU _
   ·exact o.elim
  ·exact o.elim
end
noncomputable def pS (ds:List PyData):List PyData:=ds.mapIdx λi d=>.tuple [.int i,d]
section
variable {E:XK} {a b c k:Expr} {ga gb gk:Ds->Rs PyData}
def mM:List PyData->Rs (List PyData)
 |[.list ds]=>.ok (pS ds)
 |[.tuple ds]=>.ok (pS ds)
 |_=>.no
def yQ (g:Ds->Rs (List PyData)):Ds->Rs (List PyData):=λδ=>(g δ).bind mM
def gz (y x:Nat) (gk:Ds->Rs PyData):Ds->Sr:=λδ=>match δ[y]?,δ[x]? with
 |some (some (.list ys)),some (some (.list xs))=>ofR (gk δ) λk=>match k with
  |.int k=>if -(1000000)<=k/\k<=1000000/\ys.length<1000000 then (match ixN xs.length k with
   |some j=>match xs[j]? with
    |some d=>.nx ((δ.set x (some (.list (xs.eraseIdx j)))).set y (some (.list (ys++[d]))))
    |none=>.no
   |none=>.no) else .no
  |_=>.no
 |_,_=>.no
theorem pD {y x:Nat} {a nx:Str} {t L v b h c:Pos} (hk:PD X E k gk) (B:x≠y) (i:y∈O) (l:x∈O) (M:X.N[y]?=some a) (P:X.N[x]?=some nx)
  (Q:Vis X.env.scope a) (S:Vis X.env.scope nx)
  (T:(a==("__debug__":Str))=false) (G:(a==("__classdict__":Str))=false) (U:(nx==("__debug__":Str))=false) (I:(nx==("__classdict__":Str))=false)
  (J:starEach [k] X.env=(false,eval k X.env)::starEach [] X.env) (g:starEach [.Call (.Attribute (.Name nx b) "pop" h) [k] [] c] X.env=(false,eval (.Call (.Attribute (.Name nx b) "pop" h) [k] [] c) X.env)::starEach [] X.env)
  (m:attributeBase (.Name nx b) "pop" X.env (eval (.Name nx b) X.env)=eval (.Name nx b) X.env) (e:attributeBase (.Name a t) "append" X.env (eval (.Name a t) X.env)=eval (.Name a t) X.env)
  (K:((backTo c (starEach [k] X.env)).all (λx=>!x.1)&&(backToKw c (keywordEach [] X.env)).all (λx=>x.1.isSome)&&decide (([k]:List Expr).length+([]:List Keyword).length+(if ([]:List Keyword).isEmpty then 0 else 1)<30))=true)
  (n:((backTo v (starEach [.Call (.Attribute (.Name nx b) "pop" h) [k] [] c] X.env)).all (λx=>!x.1)&&(backToKw v (keywordEach [] X.env)).all (λx=>x.1.isSome)&&decide (([.Call (.Attribute (.Name nx b) "pop" h) [k] [] c]:List Expr).length+([]:List Keyword).length+(if ([]:List Keyword).isEmpty then 0 else 1)<30))=true)
  (q:(h.endLine==c.line)=true) (f:(L.endLine==v.line)=true)
  (hs:swapsWith (.Call (.Attribute (.Name a t) "append" L) [.Call (.Attribute (.Name nx b) "pop" h) [k] [] c] [] v) none pos.line X.env=pure false) :
  PSD X E O (.Expr (.Call (.Attribute (.Name a t) "append" L) [.Call (.Attribute (.Name nx b) "pop" h) [k] [] c] [] v) pos) (gz y x gk) :=
 (jW (pK PySem.F.plainAttrs_list PySem.F.slot_list_append PySem.F.type_list_append jo (eM M Q T G) (bX (pK PySem.F.plainAttrs_list PySem.F.slot_list_pop PySem.F.type_list_pop sr (eM P S U I) (bX hk dw J) m K q J rfl) dw g) e n f g rfl) hs).imp λD σ H W=>by
  obtain⟨H0,A0,A,δ,R,o⟩:=W;unfold gz at o;split at o
  ·rename_i ys xs Y Z;obtain⟨p,vy,dy,e1,hp,hl,e2,hx⟩:=R.ownL i Y;cases e2;obtain⟨r,vx,dx,f1,hr,hm,f2,hz⟩:=R.ownL l Z;cases f2;have npr:p≠r:=λz=>B (R.inj x y _ _ p l i Z Y (by rw[z];exact f1) e1)
   refine⟨_,e1,tyL hl,_,f1,tyL hm,?_⟩;refine eD.run R.full (λkd ek u H1 s R1 hu=>?_) (λC et H' s'=>by rw[et]at o;exact o H' (R.same.trans s')) (λet=>by rw[et]at o;exact o);simp only[ek,bB]at o;split at o
   ·rename_i kk;split at o
    ·rename_i hb;split at o
     ·rename_i j hj;split at o
      ·rename_i d hd;obtain⟨w,hw,hwd⟩:=hz.getD hd;have hj':=hj;obtain⟨g1,g2,g3,g4⟩:=mX hj;have RS:=R.step s;have RS2:=RS.put (ds:=xs.eraseIdx j) (ys:=vx.eraseIdx j) l Z f1 hr ((hz.same s.del).eraseIdx j);refine⟨r,vx,kk,j,w,rfl,by rw[hu.ofInt],s _ _ hm,by omega,by omega,by rw[hz.length];exact g1,hw,?_⟩;have dU:del (upd H1 r (.lst (vx.eraseIdx j))) (A++A0)=del H1 (A++A0):=mG (BE _ hr);refine⟨p,vy,w,rfl,rfl,by rw[aN npr];exact s _ _ hl,by rw[hx.length,sizeLine_eq];omega,?_⟩;refine o A _ _ (RS2.put (ds:=ys++[d]) i (by rw[Bw B];exact Y) e1 hp ?_);rw[dU];exact (hx.same s.del).append (jY (hwd.same s.del))
      ·exact o.elim
     ·exact o.elim
    ·exact o.elim
   ·exact o.elim
  ·exact o.elim
end
theorem oh:isSubtype (.type "tuple") (.type "set")=pure false:=by rw[isSubtype_type];kernel_rfl
theorem ng:isSubtype (.type "tuple") (.type "frozenset")=pure false:=by rw[isSubtype_type];kernel_rfl
section
variable {prog:Program} {A:Around}
noncomputable def seen (ns:List Int) (n:Nat):List Int:=firstMet (λi=>ns.getD i 0) n
theorem qG {a:Array Value} (D:A.handled=none) (G:s.heap.IsTuple f a) (hi:IntsAre a.toList ns) (l:a.size+1<scanBound)
  (H:∀(h':Heap) (tk:Nat),h'.SetOf (intKind prog w) s.heap.objs.size (λk=>(seen ns a.size).any (·==k)) (seen ns a.size).length->(∀b o,b<s.heap.objs.size->s.heap.get? b=some o->h'.get? b=some o)->Q (.ref s.heap.objs.size) { s with heap:=h',toks:=tk }) :
  wpAny (model prog w) A (call (.type "set") [.ref f]) Q E s:=by
 obtain⟨c,tl,mro⟩:=PySem.F.called_set.mro;have m1:=PySem.F.called_set.made;have m2:=PySem.F.called_set.sub;refine wpAny_call (codeAny_of_tree ?_);show wpAny _ _ (callAny (.type "set") _) _ _ _;refine wpAny_pure ⟨Code.quiet_builtin _ (by decide +kernel),codeAny_builtin PySem.F.entry_type_call ?_⟩;rw[Around.under_plain (weight_type_call_type "set" [.ref f] []) rfl];have m3:=PySem.F.called_set.notType;have m4:=PySem.F.called_set.canCreate;have m5:=PySem.F.typeCall_set_1 (.ref f)
 repeat (any_goals (first|assumption|wp_step))
 refine codeAny_mono (PySem.code_set_new_1 (.ref f) (E:=E) (Q₁:=λob y=>∃led:Bool,ob=.ref s.heap.objs.size/\y={ s with heap:=s.heap.push { cls:=.type "set",dict:=none,data:=.set #[] 0 (.fresh 0 0 led) } }) λled=>⟨led,rfl,rfl⟩) λr y n=>?_
 cases r with
 |error ev=>exact n
 |ok fl =>
  cases fl with
  |ret ob =>
   obtain⟨led,rfl,rfl⟩:=n;have z:(s.heap.push { cls:=.type "set",dict:=none,data:=.set #[] 0 (.fresh 0 0 led) }).get? s.heap.objs.size=some { cls:=.type "set",dict:=none,data:=.set #[] 0 (.fresh 0 0 led) }:=Br _ rfl;have I:Shared.TypeIs { s with heap:=s.heap.push { cls:=.type "set",dict:=none,data:=.set #[] 0 (.fresh 0 0 led) } } (.ref s.heap.objs.size) "set":=⟨_,z,rfl⟩
   have m6:=PySem.F.called_set.init.lookup;have m7:=PySem.F.called_set.init.bind (.ref s.heap.objs.size)
   repeat (any_goals (first|assumption|wp_step))
   refine codeAny_mono (codeAny_call_builtin (R:=wants (λB s2=>B=.none/\∃h' tk,s2={ s with heap:=h',toks:=tk }/\h'.SetOf (intKind prog w) s.heap.objs.size (λk=>(seen ns a.size).any (·==k)) (seen ns a.size).length /\
     (∀b o,b<s.heap.objs.size->s.heap.get? b=some o->h'.get? b=some o)) E) PySem.F.called_set.init.plain PySem.F.entry_set_init (PySem.check_set_init_1 I ?_)) λJ s2 g=>?_
   ·obtain⟨⟨oc,od,oda,osl⟩,go,gc,p,C⟩:=G;simp only at gc C;subst gc;subst C;have go':(s.heap.push { cls:=.type "set",dict:=none,data:=.set #[] 0 (.fresh 0 0 led) }).get? f=some { cls:=.type "tuple",dict:=od,data:=.seq a p,slots:=osl }:=B0 _ go;have n1:=oh;have n2:=ng;have n3:(Value.type "tuple"==Value.type "dict")=false:=by decide
    have K:(s.heap.push { cls:=.type "set",dict:=none,data:=.set #[] 0 (.fresh 0 0 led) }).IsTuple f a:=⟨_,go',rfl,p,rfl⟩
    unfold Builtin.«set.__init__» noKeywords Builtin.Frozenset.updateFrom;generalize zz:pyIter=PI
    wp_walk
    subst zz;refine wpAny_pyIter_tuple K (wpAny_bind (wpAny_runValue ?_));have j:f<s.heap.objs.size:=B4 go;have L:A.in1.in1.in1.handled=none:=by simp[D]
    have ne1:f≠(s.heap.push { cls:=.type "set",dict:=none,data:=.set #[] 0 (.fresh 0 0 led) }).objs.size:=by rw[Heap.size_push];exact B9 (C8 j)
    have q:s.heap.objs.size∉[(s.heap.push { cls:=.type "set",dict:=none,data:=.set #[] 0 (.fresh 0 0 led) }).objs.size,f]:=by rw[Heap.size_push];simp only[B8,B7,Bq,or_false,not_or];exact⟨B9 (Nat.lt_succ_self _),Cf j⟩
    have M:∀(i:Nat) (v:Value),a[i]?=some v->∃t,v=.int ((λi=>ns.getD i 0) i) t:=λi v N=>IntsAre.int_at hi i v (by rw[Co];exact N)
    refine codeAny_set_update_loopS ((Walks.tuple L _ f ne1 a).toS) s.heap.objs.size q (λi=>ns.getD i 0) M l (a.size-0) 0 _ (by omega) (Cz _) ⟨⟨_,Br _ rfl,rfl,rfl⟩,⟨_,B0 _ go',rfl,p,rfl⟩⟩ ?_ ?_
    ·have O:((s.heap.push { cls:=.type "set",dict:=none,data:=.set #[] 0 (.fresh 0 0 led) }).push { cls:=.type "tuple_iterator",data:=.fields #[.ref f,.int 0 0] }).get? s.heap.objs.size=some { cls:=.type "set",dict:=none,data:=.set #[] 0 (.fresh 0 0 led) }:=B0 _ z;exact SetOf_congr ((setObjOf_fresh (knd:=intKind prog w) led).setOf O (by unfold scanBound;omega)) (λ_=>rfl) rfl
    ·intro s' m h;obtain⟨h',g',d',u,x⟩:=s';have e1:g'=s.gens:=m.gens;have e2:d'=s.drawn:=m.drawn;have P:x=s.os:=m.os;subst e1;subst e2;subst P;show wpAny _ _ _ _ _ _;refine wpAny_pure ?_;show wpAny _ _ (ret Value.none) _ _ _;refine wpAny_pure ⟨rfl,h',u,rfl,h,λb o l e=>?_⟩;have S:b≠(s.heap.push { cls:=.type "set",dict:=none,data:=.set #[] 0 (.fresh 0 0 led) }).objs.size:=by rw[Heap.size_push];exact B9 (C8 l)
     exact m.heap b o (by simp only[B8,B7,Bq,or_false,not_or];exact⟨B9 l,S⟩) (B0 _ (B0 _ e))
   ·cases J with
    |error ev=>exact g
    |ok fl2 =>
     cases fl2 with
     |ret B =>
      obtain⟨rfl,h',tk,rfl,h,T⟩:=g
      repeat (any_goals (first|assumption|wp_step))
      exact H _ _ h T
     |_=>exact g.elim
  |_=>exact n.elim
end
section
variable {E:XK} {a b c:Expr} {ga gb gc:Ds->Rs PyData}
theorem yI:bootBuiltins "set"=some (.type "set"):=by decide +kernel
def tLS (K:PySem.W.Frag) (ta:TA):TE:=λσ H Q=>ta σ H λvs H1=>∃(p:Addr) (ns:List Int),vs=[.ref p]/\SqT K H1 p (ns.map V.int)/\ns.length<=1000/\Q (.int (seen ns ns.length).length) H1
theorem qH {c:Pos} (hc:X.calm=true) (y:Gl X "set") (hm:X.mg "set"=none) (i:Gl X "len") (j:X.mg "len"=none) (ha:PA X [a] ta) (z:starEach [a] X.env=[(false,eval a X.env)]:=by rfl)
  (f:starEach [.Call (.Name "set" p) [a] [] pos] X.env=(false,eval (.Call (.Name "set" p) [a] [] pos) X.env)::starEach [] X.env:=by rfl) (k:(backTo c (starEach [] X.env)).any (·.1)=false:=by rfl) :
  PE X (.Call (.Name "len" p2) [.Call (.Name "set" p) [a] [] pos] [] c) (tLS X.K ta):=by
 intro pins s σ H Q I h;refine wpAny_Call_Name_kw (gu I i j PySem.boot_len ?_);refine PyProof.Rows.callWith_builtin1 ?_ f k;rw[f];show wpAny _ _ (spliced ((false,eval (.Call (.Name "set" p) [a] [] pos) X.env)::backTo c [])) _ _ s;refine Calls.spliced_cons (Call_ (gu I y hm yI (PyProof.Rows.callWith_type1 (thn (ha pos pins s σ H _ I h) λus v l=>?_) z rfl)));obtain⟨vs,H1,m,A,B⟩:=l;obtain⟨q,ns,e,C,hz,fin⟩:=B;subst e;obtain⟨u,rfl,D⟩:=vals1 A;cases D;obtain⟨g,w,pt,_⟩:=m.tuple C;have hl:=w.length;rw[B3]at hl;refine qG (m.ok.hd hc) (show v.heap.IsTuple q g.toArray from pt) (intsAre_of w) (by rw[B1];unfold scanBound;omega) λh' tk x E=>Calls.spliced_nil ?_
 have F:Inv X pins σ H1 { v with heap:=h',toks:=tk }:=m.kept λb o e=>E b o (B4 e) e
 have n:g.toArray.size=ns.length:=by rw[B1];exact hl.symm
 rw[n]at x;obtain⟨o,es',ep,t,G,ex,hd,_,_,J,L,r⟩:=x;refine PySem.call_len_set G ex hd L (by unfold scanBound at J;omega) ⟨.int (seen ns ns.length).length,H1,F.tok _,⟨_,by rw[r]⟩,fin⟩
def iX:List PyData->Option PyData
 |[.tuple x]=>(ia x).bind λns=>if ns.length<=1000 then some (.int (seen ns ns.length).length) else none
 |_=>none
theorem qJ {b:Pos} (hc:X.calm=true) (hm:X.mg "set"=none) (c:X.mg "len"=none) (ha:PAD X E [a] gs) (k:Gl X "set") (f:Gl X "len") (l:starEach [a] X.env=[(false,eval a X.env)])
  (g:starEach [.Call (.Name "set" p) [a] [] pos] X.env=(false,eval (.Call (.Name "set" p) [a] [] pos) X.env)::starEach [] X.env) (h:(backTo b (starEach [] X.env)).any (·.1)=false) :
  PD X E (.Call (.Name "len" p2) [.Call (.Name "set" p) [a] [] pos] [] b) (gF iX gs):=(qH hc k hm f c ha.1 l g h).imp λσ H Q ⟨A,δ,R,o⟩=>lE R o λds vs H1 e s1 R1 h1 o=>by
 unfold iX at o;split at o
 ·rename_i x;cases q:ia x with
  |none=>rw[q]at o;exact o.elim
  |some ns =>
   rw[q]at o;obtain⟨v,rfl,m⟩:=jB h1;obtain⟨p,xs,rfl,i,j⟩:=m.ofTup;rw[dX q]at j;rw[j.ofInts]at i;by_cases z:ns.length<=1000
   ·simp only[Cn,if_pos z]at o;exact⟨p,ns,rfl,SqT.of (aC _ _ i),z,o _ H1 (aw.refl _) cm⟩
   ·simp only[Cn,if_neg z]at o;exact o.elim
 ·exact o.elim
end
open AutoSeq1 (wpAny_loadPart')
open SeqAt (EqAt)
section
variable {E:XK} {a o:Expr} {ga go:Ds->Rs PyData}
def tE (xs:List PyData) (y:PyData):Option PyData:=if lN y&&xs.all lN then ((xs.map toV).findIdx? λz=>eqV z (toV y)).map λj=>.int j else none
def AW (go ga:Ds->Rs PyData):Ds->Rs PyData:=λδ=>(go δ).bind λd=>match d with
 |.tuple xs=>(ga δ).bind λy=>Rs.cW (tE xs y)
 |_=>.no
end
end L2
namespace L2
open PySem PySem.Spec PyProof.Rows
section
variable {E:XK} {a:Expr}
end
section
variable {E:XK} {H0:Hp} {A0:List Addr}
end
section
variable {E:XK} {a b c:Expr} {ga gb gc:Ds->Rs PyData}
end
section
variable {E:XK} {a:Expr}
end
section
variable {E:XK} {a:Expr}
end
end L2
namespace PyProof.Rows
open PySem
section
variable {prog:Program} {A:Around}
end
end PyProof.Rows
namespace L2
open PySem PySem.Spec PyProof.Rows
section
variable {E:XK} {a:Expr}
end
end L2
namespace L2
open PySem PySem.Spec PySem.Calls PyProof.Rows PySem.W PySem.Builtin PySem.Builtin.ObjectAttr PySem.Builtin.Getset_descriptor
section
variable {prog:Program} {A:Around} {K:Frag} {x:Addr} {ox:Obj}
structure kP (h:Heap) (x:Addr) (D:Addr):Prop where
 ex:∃o,h.get? x=some o/\o.cls=.ref D
theorem kP.type (I:kP h x D):Looks M h (typeOf (.ref x)) (.ref D):=by obtain⟨o,h1,h2⟩:=I.ex;exact h2▸(Looks.ld h1).andThen .now
theorem oU {R:Result->Shared->Prop} {a:Value} (X:K.In s.heap) (I:kP s.heap x D) (hm:mroIn K D (.type "object")=some true)
  (h:R (.ok (.ret (.ref D))) s):codeAny (model prog w) A (.call (.builtin "getset_descriptor.__get__") ⟨[.builtin "object.__class__",.ref x,a],[]⟩) R s:=by
 obtain⟨hh,g,dr,t,os⟩:=s;have L0:=I.type (M:=model prog w);have L1:=looks_mroIn (M:=model prog w) X hm;refine codeAny_call_builtin KF.slot_gs.plain KF.entry_gs (KF.slot_gs.check _ _ _ _ _ _ _ _ KF.type_class (KF.args_gs _ _ _) ?_);unfold Builtin.«getset_descriptor.__get__» descrGet;rw[dga_obj];refine wpAny_bind (wpAny_pure ?_);unfold descrGetter descrCheckInstance descrNameAndClass isInstance;simp only[KF.owner_class]
 repeat lk
 refine⟨Code.quiet_builtin _ (by decide +kernel),codeAny_builtin KF.entry_class ?_⟩;unfold Builtin.«object.__class__» shownTypeOf
 repeat lk
 exact h
structure lj (K:Frag) (D:Addr):Prop where
 ga:findIn K (.ref D) "__getattribute__"=some (some (.builtin "BaseException.__getattribute__"))
 gt:findIn K (.ref D) "__getattr__"=some none
 cl:hasDictIn K D=true
 ca:findIn K (.ref D) "__class__"=some (some (.builtin "object.__class__"))
 gs:specialIn K (.builtin "object.__class__") "__get__"=some (some (.builtin "getset_descriptor.__get__"))
 tk:takesIn K (.builtin "object.__class__")=some true
 ob:mroIn K D (.type "object")=some true
 be:mroIn K D (.type "BaseException")=some true
theorem rV (X:K.In h) (Z:lj K D):Looks M h (find (.ref x) (.ref D) "__class__") (.bind (.builtin "getset_descriptor.__get__") (.builtin "object.__class__")):=by have a:=looks_findIn (M:=M) X Z.ca;have L2:Looks M h (getOf (some (.builtin "object.__class__"))) _:=looks_specialIn X Z.gs;have b:=looks_takesIn (M:=M) X Z.tk;unfold find;refine a.andThen (L2.andThen ?_);refine (show Looks M h (dataDescriptor? (some (.builtin "object.__class__")) (some (.builtin "getset_descriptor.__get__"))) _ from b.andThen .now).andThen ?_;exact Looks.tag .now
theorem qP {tk:Tok} {Q:Fin->Shared->Prop} (X:K.In s.heap) (Z:lj K D) (I:kP s.heap x D) (a:Q (.done (.ret (.ref D))) s) :
  wpAny (model prog w) A (Builtin.«object.__getattribute__» ⟨[.ref x,.str "__class__" tk],[]⟩) Q E s:=by
 obtain⟨hh,g,d,t,os⟩:=s;have b:=I.type (M:=model prog w);have c:=rV (x:=x) (M:=model prog w) X Z;refine wpAny_bind (wpAny_pure (wpAny_bind (wpAny_pure (wpAny_bind (b.at (wpAny_bind (c.at ?_)))))));show wpAny _ _ (holding [Value.builtin "object.__class__"] (call (.builtin "getset_descriptor.__get__") [.builtin "object.__class__",.ref x,.ref D]) >>= ret) _ _ _;exact wpAny_bind (wpAny_holding (wpAny_call (oU X I Z.ob (wpAny_pure a))))
theorem rf {a:Value} {Q:Unit->Shared->Prop} (X:K.In s.heap) (Z:lj K D) (I:kP s.heap x D) (hq:Q () s):wpAny M A (checkBuiltinCall "BaseException.__getattribute__" ⟨[.ref x,a],[]⟩) Q E s:=by
 obtain⟨hh,g,d,t,os⟩:=s;have c:builtinKind "BaseException.__getattribute__"=some .slot:=by decide +kernel
 have b:splitId "BaseException.__getattribute__"=some ("BaseException", "__getattribute__"):=by decide +kernel
 have L0:=I.type (M:=M);have L1:=looks_mroIn (M:=M) X Z.be;have ha:=F.args_bexc_ga (.ref x) a;simp only[checkBuiltinCall,c,b];unfold isInstance
 repeat lk
 repeat (any_goals (first|assumption|wp_step))
theorem qd {Q:Option Value->Shared->Prop} (X:K.In s.heap) (Z:lj K D) (I:kP s.heap x D) (h:Q (some (.ref D)) { s with toks:=s.toks+1 }):wpAny (model prog w) A (getAttr? (.ref x) "__class__") Q E s:=by obtain⟨a,g,d,t,os⟩:=s;have b:=I.type (M:=model prog w);have c:=looks_findIn (M:=model prog w) X Z.ga;have L2:=looks_findIn (M:=model prog w) X Z.gt;unfold getAttr? getAttrBy? getAttrBy;refine wpAny_bind (wpAny_mkText (wpAny_bind (wpAny_attempt (wpAny_holding (wpAny_bind (b.at (wpAny_bind (c.at ?_))))))));show wpAny _ _ (getAttrByItsOwn _ _ _ _ _ _) _ _ _;unfold getAttrByItsOwn;refine wpAny_bind (show wpAny _ _ (typeLookup (.ref D) "__getattr__") _ _ _ from L2.at ?_);refine wpAny_bind (wpAny_attempt (wpAny_holding ?_));show wpAny _ _ (boundAndCalled _ _ _) _ _ _;unfold boundAndCalled;rw[F.excAttr_ValueError.ga.bind (.ref x)];refine wpAny_bind (wpAny_pure ?_);refine wpAny_call (codeAny_call_builtin F.excAttr_ValueError.ga.plain F.entry_bexc_ga (rf (s:=⟨a,g,d,t+1,os⟩) X Z I (qP (s:=⟨a,g,d,t+1,os⟩) X Z I ?_)));exact wpAny_pure (wpAny_pure h)
end
end L2
namespace L2
open PySem PySem.Spec PyProof.Rows
theorem uo {x:Addr} (Z:lj K D):PySem.W.KitX K (.ref x) (.ref D) (λh=>kP h x D) where
 ty:=λ_ _ _ I=>I.type
 it:=λM h X _=>by
  obtain⟨cd,hc,_⟩:=PySem.W.any_some Z.cl;unfold PySem.W.clsIn at hc;split at hc
  ·rename_i a;intro A' Q' E' s' k q;unfold isType loadHead;exact wpAny_bind (wpAny_loadPart (k _ _ (X _ _ a)) (wpAny_pure q))
  ·cases hc
 ne:=λh c dd its n sl X b=>by
  obtain⟨cd,hc,_⟩:=PySem.W.any_some Z.cl;refine Bool.eq_false_iff.mpr λq=>?_
  obtain rfl:D=c:=Value.ref.inj (beq_iff_eq.mp q);unfold PySem.W.clsIn at hc;split at hc
  ·rename_i a;have z:=(X _ _ a).symm.trans b;cases z
  ·cases hc
 ca:=λX I k=>qd X Z I k
def xx:V->Value
 |.ref a=>.ref a
 |.ty T=>.type T
 |_=>.none
def o7:V->Bool
 |.ref _=>true
 |.ty _=>true
 |_=>false
theorem uF {c:V} (h:o7 c=true) (r:RelV c u):u=xx c:=by cases c <;> first|exact r|cases h
section
variable {E:XK}
theorem o9 (a:(ea,oe)∈X.pn) (f:oe.cls=.ref C) (Z:lj X.K C):gJ X (.builtin "isinstance") (λxs H Q=>∃c b,xs=[.ref ea,c]/\o7 c=true/\PySem.W.kitOne X.K (.ref C) (xx c)=some b/\Q (.bl b) H):=by intro pins s σ H xs us Q I r h;obtain⟨c,b,rfl,hc,e,q⟩:=h;obtain⟨u,u2,rfl,g,i⟩:=vals2 r;cases g;rw[uF hc i];exact PySem.W.kia_one (uo Z) I.kIn ⟨oe,(I.pin (ea,oe) (BE _ a)).1,f⟩ e (λz=>nomatch z) λtk=>⟨.bl b,H,I.tok tk,rfl,q⟩
def tXe (i:Nat) (ea:Addr) (v:V):TE:=λσ H Q=>σ[i]?=some (some (.ref ea))/\Q v H
theorem aX {n:Str} {c:V} {b:Bool} {p1:Pos} (l:(ea,oe)∈X.pn) (m:oe.cls=.ref C) (Z:lj X.K C) (hm:X.mg "isinstance"=none) (hi:X.N[i]?=some n) (hc:PE X (.Name x p2) (tC c)) (a:o7 c=true) (e:PySem.W.kitOne X.K (.ref C) (xx c)=some b)
  (o:Vis X.env.scope n:=by first|exact Or.inl rfl|exact Or.inr (Or.inl rfl)|exact Or.inr (Or.inr rfl)) (hd:(n==("__debug__":Str))=false:=by decide) (f:(n==("__classdict__":Str))=false:=by decide) (r:Gl X "isinstance":=by rfl)
  (k:starEach [.Name n p1,.Name x p2] X.env=(false,eval (.Name n p1) X.env)::starEach [.Name x p2] X.env:=by rfl)
  (g:starEach [.Name x p2] X.env=(false,eval (.Name x p2) X.env)::starEach [] X.env:=by rfl) (h:(backTo pos (starEach [.Name x p2] X.env)).any (·.1)=false:=by rfl) :
  PE X (.Call (.Name "isinstance" p) [.Name n p1,.Name x p2] [] pos) (tXe i ea (.bl b)) :=
 (eE (o9 l m Z) r hm lr (bX (eM hi o hd f) (bX hc dw g) k) (by decide) (by decide) k h).imp λσ H Q j=>(by obtain⟨e1,q⟩:=j;exact⟨_,e1,c,b,rfl,a,e,q⟩)
theorem aZ {Y:Cx}:(ea,oe)∈(sui Y ea oe).pn:=Bv _ (B7.mpr rfl)
theorem c8:bootBuiltins "ValueError"=some (.type "ValueError"):=by decide +kernel
end
section
variable {E:XK}
end
section
variable {E:XK} {a b:Expr} {ga gb:Ds->Rs PyData}
def xA (C:Addr) (names:List Str):Sp:=λvs H Q _=>∃(x dx:Addr) (args:List V),vs=.ref x::args/\args.length=names.length/\H x=some (.ins C dx []) /\
 ∀H':Hp,(∀b,b≠x->H' b=H b)->H' x=some (.ins C dx (names.zip args))->Q .non H'
structure sR (P:Program) (w:World) (K:PySem.W.Frag) (mg:Str->Option Value) (base:Heap) (k:Nat) (x:Str) (C:Addr) (names:List Str):Prop where
 ex:∃f fd ps,Mk K C f/\fJ P w K mg base (CXW P w) k f fd ps (xA C names)/\Binds K fd ps []/\mg x=some (.ref C)
end
section
variable {prog:Program} {A:Around} {R:Result->Shared->Prop} {I:Addr} {wr:List Addr} {T:Nat->Value->Prop} {St:Nat->Heap->Prop} {dv:Value}
variable {l:Addr} {xs:Array (Int×Tok)}
end
section
variable {E:XK} {a b:Expr} {ga gb:Ds->Rs PyData}
end
section
variable {E:XK} {a b:Expr}
end
section
variable {E:XK} {H0:Hp} {A0:List Addr}
end
structure sZ (P:Program) (w:World) (K:PySem.W.Frag) (mg:Str->Option Value) (base:Heap) (k:Nat) (C:Addr) (m:Str) (n:Nat) (gf:List PyData->Rs PyData):Prop where
 ex:∃f fd ps,Cls K C/\Meth K C m f/\fJ P w K mg base (CXW P w) k f fd ps (spD K n gf)/\Binds K fd ps []
section
variable {E:XK} {o:Expr} {ga:Ds->Rs PyData} {apos:Pos}
end
section
variable {E:XK}
end
def v5 (X:Cx) (j n:Nat) (f:Addr) (gf:List PyData->Rs PyData):Prop:=∃k fd ps,k<=j/\fJ X.prog X.w X.K X.mg X.base (CXW X.prog X.w) k f fd ps (spD X.K n gf)/\PySem.W.keepIn X.K (.ref f)=true/\Binds X.K fd ps []
def tFs (fs:List Addr):TA:=λ_ H Q=>Q (fs.map V.ref) H
def lQ (X:Cx) (j n:Nat) (es:List Expr) (gfs:List (List PyData->Rs PyData)):Prop:=∃fs:List Addr,PA X es (tFs fs)/\fs.length=gfs.length/\∀(i:Nat) f gf,fs[i]?=some f->gfs[i]?=some gf->v5 X j n f gf
section
variable {E:XK} {names:List Expr} {gfs:List (List PyData->Rs PyData)} {fe ke:Expr} {p1:Pos} {gk:Ds->Rs PyData}
theorem vf:lQ X j n [] []:=⟨[],dw,rfl,λi f gf h=>by simp at h⟩
theorem tN (D:iA X.prog X.w X.K X.mg X.base k x n gf) (h:lQ X j n es gfs) (e:k<=j) (g:Gl X x) (a:(x==("__debug__":Str))=false)
  (l:starEach (.Name x p::es) X.env=(false,eval (.Name x p) X.env)::starEach es X.env):lQ X j n (.Name x p::es) (gf::gfs):=by
 obtain⟨f,fd,ps,F,hm,b,m⟩:=D.ex;obtain⟨fs,h1,h2,o⟩:=h;refine⟨f::fs,λpos pins s σ H Q I q=>bX (aK (v:=.ref f) g hm rfl a) h1 l pos pins s σ H Q I q,by rw[BH,BH,h2],λi r c e1 e2=>?_⟩;cases i with
 |zero=>cases e1;cases e2;exact⟨k,fd,ps,e,F,b,m⟩
 |succ i=>exact o i r c e1 e2
theorem pZ (a b:Expr) (p:Pos) (args:List Expr) (c:List Keyword) (pos:Pos) (env:Env):eval (.Call (.Subscript a b p) args c pos) env=(do callWith pos (<-eval (.Subscript a b p) env) [] (backTo pos (starEach args env)) (backToKw pos (keywordEach c env))):=rfl
def ym (X:Cx) (E:XK) (j n:Nat) (a:TE) (ta:TA):TE:=λσ H Q=>a σ H λy H1=>∃f gf,y=.ref f/\v5 X j n f gf/\ta σ H1 λvs H2=>spD X.K n gf vs H2 Q E
theorem oy {g:TE} (m:dG j X.A) (o:Passes (CXW X.prog X.w) X E) (p:PE X fe g) (ha:PA X (e::es) ta)
  (a:eval (.Call fe (e::es) [] pos) X.env=(do callWith pos (<-eval fe X.env) [] (backTo pos (starEach (e::es) X.env)) (backToKw pos (keywordEach [] X.env))))
  (r:starEach (e::es) X.env=(false,eval e X.env)::starEach es X.env) (b:(backTo pos (starEach es X.env)).any (·.1)=false):PE X (.Call fe (e::es) [] pos) (ym X E j n g ta):=by
 intro pins s σ H Q I h;rw[a];refine wpAny_bind (thn (p pins s σ H _ I h) λu t h1=>?_);obtain⟨y,H1,i,v,f,gf,x,⟨k,fd,ps,z,F,c,B⟩,q⟩:=h1;subst x;cases v;refine PySem.W.callWith_K (h₀:=X.base) i.ok.mod.kin c (thn (ha pos pins t σ H1 _ i q) λus s2 h2=>?_) r b;obtain⟨vs,H2,l,C,D⟩:=h2;exact⟨l.kIn,rq F (m.mono z) B .nil o l C (by rw[Cr];exact D)⟩
def cV (gfs:List (List PyData->Rs PyData)) (gk:Ds->Rs PyData) (gs:Ds->Rs (List PyData)):Ds->Rs PyData:=λδ=>(gk δ).bind λd=>match d with
 |.int i=>(match atI gfs i with
  |some gf=>(gs δ).bind gf
  |none=>.no)
 |_=>.no
theorem vU {xs:List α} {ys:List β} (hl:xs.length=ys.length) {i:Int} {y:β} (h:atI ys i=some y):∃(k:Nat) (x:α),xs[k]?=some x/\ys[k]?=some y/\atI xs i=some x:=by
 unfold atI at h ⊢;rw[hl];cases q:ixN ys.length i with
 |none=>rw[q]at h;cases h
 |some k =>
  rw[q]at h;have h:ys[k]?=some y:=h;obtain⟨b,_⟩:=BI.mp h;have a:k<xs.length:=by rw[hl];exact b
  exact⟨k,xs[k],B2 a,h,B2 a⟩
theorem tU {fs:List Addr} {i:Int} (h:atI fs i=some f):atI (fs.map V.ref) i=some (.ref f):=by
 unfold atI at h ⊢;rw[B3];cases q:ixN fs.length i with
 |none=>rw[q]at h;cases h
 |some k =>rw[q]at h;have h:fs[k]?=some f:=h;show (fs.map V.ref)[k]?=_;rw[BK,h];rfl
theorem pJ {Q:VK} {p:Addr} {fs:List Addr} (h2:fs.length=gfs.length) (g:∀(i:Nat) f gf,fs[i]?=some f->gfs[i]?=some gf->v5 X j n f gf) (ha:PAD X E (e::es) gs) (hn:(e::es).length=n)
  (R:cK X.K H A δ σ) (h:H p=some (.lst (fs.map V.ref))) (o:fF X.K E A H (cV gfs gk gs δ) Q) :
  eD X.K E gk σ H λy H2=>xW X.K (.ref p) y H2 λy H1=>∃f gf,y=.ref f/\v5 X j n f gf/\aD X.K E gs σ H1 λvs H2=>spD X.K n gf vs H2 Q E:=by
 unfold cV at o;refine eD.run R (λd l v H2 s2 R2 m=>?_) (λC a H' s'=>?_) (λa=>?_)
 ·rw[l,Rs.ak]at o;cases d with
  |int i =>
   cases m.ofInt;simp only at o;cases q:atI gfs i with
   |none=>rw[q]at o;exact o.elim
   |some gf =>rw[q]at o;obtain⟨k,f,e1,e2,b⟩:=vU h2 q;refine⟨p,fs.map V.ref,i,.ref f,rfl,rfl,SqL.of (s2 _ _ h),tU b,f,gf,rfl,g k f gf e1 e2,?_⟩;exact lE R2 (fF.mono o s2) λds vs H3 b s3 r c s=>⟨A,ds,r.ls,c,(ha.2 δ ds b).trans hn,s⟩
  |_=>exact o.elim
 ·rw[a,Rs.fy]at o;exact o H' s'
 ·rw[a,Rs.cc]at o;exact o
theorem vK (f:dG j X.A) (g:Passes (CXW X.prog X.w) X E) (i:PD X E ke gk) (ha:PAD X E (e::es) gs) (P:lQ X j (e::es).length names gfs) (a:jU ke) (hlen:Nat.ble gfs.length 1000=true)
  (k:starEach (e::es) X.env=(false,eval e X.env)::starEach es X.env) (b:(backTo pos (starEach es X.env)).any (·.1)=false):PD X E (.Call (.Subscript (.List names p1) ke p2) (e::es) [] pos) (cV gfs gk gs):=by
 obtain⟨fs,h1,h2,l⟩:=P;have hlen:=BY hlen;refine (oy (j:=j) (n:=(e::es).length) f g (nQ i4 (iI h1) i a) ha.1 (pZ _ _ _ _ _ _ _) k b).imp λσ H Q h=>?_
 obtain⟨A,δ,R,o⟩:=h;refine⟨by rw[B3,sizeLine_eq];omega,λp m=>?_⟩;have c:aw H (upd H p (.lst (fs.map V.ref))):=a8 m;exact pJ h2 l ha rfl (R.same c) aV (fF.mono o c)
end
open SeqAt (EqAt)
section
variable {E:XK} {a o:Expr} {ga go:Ds->Rs PyData}
end
end L2
namespace L2
open PySem PySem.Spec PyProof.Rows
open SeqAt (EqAt)
noncomputable def sNo:Ds->Sr:=λ_=>.no
section
variable {E:XK} {ss:List Stmt} {names:List Expr} {gfs:List (List PyData->Rs PyData)} {fe ke o:Expr} {p1:Pos} {gk:Ds->Rs PyData}
theorem t6:PBD X E O ss sNo:=λ_ _ _ _ _ _ h=>by obtain⟨H0,A0,A,δ,R,o⟩:=h;exact o.elim
def kI (i:Nat) (gfs:List (List PyData->Rs PyData)) (gk:Ds->Rs PyData) (gs:Ds->Rs (List PyData)):Ds->Sr:=λδ=>if i<δ.length then ofR (cV gfs gk gs (δ.set i none)) .rt else .no
theorem cK.blind (R:cK K H A δ σ) (s:aw H H'):cK K H' A (δ.set i none) (σ.set i (some v)):=by
 have a:=R.same s;refine⟨a.ls,by rw[Ct,Ct];exact a.len,λk d e=>?_⟩;by_cases z:i=k
 ·subst z;rw[List.getElem?_set]at e;simp only[if_true]at e;split at e <;> cases e
 ·rw[Bw z]at e ⊢;exact a.get k d e
theorem qc {k m l r:Pos} (s:dG j X.A) (t:Passes (CXW X.prog X.w) X E) (u:PD X E ke gk) (ha:PAD X E (e::es) gs) (P:lQ X j (e::es).length names gfs) (a:jU ke) (hlen:Nat.ble gfs.length 1000=true)
  (y:X.N.Nodup) (hi:X.N[i]?=some x) (z:Loc X.env.scope x) (b:Vis X.env.scope x) (hd:(x==("__debug__":Str))=false) (c:(x==("__classdict__":Str))=false)
  (B:swapsWith (.List names p1) (some (.Name x k)) l.line X.env=pure false) (F:X.fn x=true\/X.env.scope.names.lookup x=some .local)
  (G:starEach (e::es) X.env=(false,eval e X.env)::starEach es X.env) (f:(backTo pos (starEach es X.env)).any (·.1)=false) :
  PBD X E O [.Assign [.Name x k] (.List names p1) l,.Return (some (.Call (.Subscript (.Name x m) ke p2) (e::es) [] pos)) r] (kI i gfs gk gs):=by
 obtain⟨fs,h1,h2,I⟩:=P;have hlen:=BY hlen;refine (fg (kl y hi z (iI h1) B F) (gE (iO (oy (j:=j) (n:=(e::es).length) s t (nQ i4 (eM hi b hd c) u a) ha.1 (pZ _ _ _ _ _ _ _) G f)))).imp λD σ H h=>?_
 obtain⟨H0,A0,A,δ,R,o⟩:=h;unfold kI at o;split at o
 ·rename_i hl;refine⟨by rw[B3,sizeLine_eq];omega,λp J=>?_⟩;have g:aw H (upd H p (.lst (fs.map V.ref))):=a8 J;have L:cK X.K (upd H p (.lst (fs.map V.ref))) A0 (δ.set i none) (σ.set i (some (.ref p))):=R.full.blind g;refine⟨.ref p,BB (by rw[<-R.len];exact hl),pJ h2 I ha rfl L aV ?_⟩;cases q:cV gfs gk gs (δ.set i none) with
  |ok d=>rw[q]at o;exact λv H' s' b=>o v H' (R.same.trans (g.trans s')) b
  |rz C=>rw[q]at o;exact λH' s'=>o H' (R.same.trans (g.trans s'))
  |no=>rw[q]at o;exact o
 ·exact o.elim
noncomputable def vH (r:List Bool->Option V):V->List V->Hp->VK->Prop:=λx vs H Q=>∃l bs y,x=.ref l/\vs=[.bl true]/\H l=some (.lst (bs.map V.bl))/\bs.length<=1000/\r bs=some y/\Q y H
def tTr (r:List Bool->Option V) (to:TE) (t:TA):TE:=λσ H Q=>to σ H λx H1=>(∃l xs,x=.ref l/\H1 l=some (.lst xs))/\t σ H1 λvs H2=>vH r x vs H2 Q
def pB:Value->Bool
 |.bool b=>b
 |_=>false
theorem uj {bs:List Bool} (r:Vals (bs.map V.bl) us):us=bs.map Value.bool:=by
 induction bs generalizing us with
 |nil=>cases r;rfl
 |cons b bs ih =>
  rw[BC]at r;cases r with
  |cons h1 h2=>cases h1;rw[ih h2];rfl
theorem qZ {to:TE} {t:TA} {apos:Pos} (hu:X.A.units+64<cLine) (L:PE X o to) (ha:PA X [e] t) (f:attributeBase o "index" X.env (eval o X.env)=eval o X.env:=by rfl)
  (i:((backTo cpos (starEach [e] X.env)).all (λx=>!x.1)&&(backToKw cpos (keywordEach [] X.env)).all (λx=>x.1.isSome)&&decide (([e]:List Expr).length+([]:List Keyword).length+(if ([]:List Keyword).isEmpty then 0 else 1)<30))=true:=by rfl)
  (g:(apos.endLine==cpos.line)=true:=by rfl) (M:starEach [e] X.env=(false,eval e X.env)::starEach [] X.env:=by rfl) (c:(backTo cpos (starEach [] X.env)).any (·.1)=false:=by rfl) :
  PE X (.Call (.Attribute o "index" apos) [e] [] cpos) (tTr (λbs=>(bs.findIdx? id).map λj:Nat=>V.int (j:Int)) to t):=by
 intro pins s σ H Q I h;refine wpAny_Call_method_late f i g rfl (thn (L pins s σ H _ I h) λv N h1=>?_);obtain⟨x,H1,G,O,⟨l,xs,P,hl⟩,R⟩:=h1;subst P;cases O;obtain⟨_,its,n,rv,_,ge⟩:=G.lstM hl;refine⟨"list", "list.index",PySem.F.plainAttrs_list,PySem.F.slot_list_index,PySem.F.type_list_index,⟨_,ge,rfl⟩,λa ea=>by cases ea;exact⟨_,ge,rfl⟩,?_⟩;have J:=ha cpos pins N σ H1 _ G R;rw[M]at J ⊢;refine Calls.callWith_builtin (by show (false||(backTo cpos (starEach [] X.env)).any (·.1))=false;rw[c];rfl) (Calls.evalArgs_plain ?_);refine thn J λus s2 h2=>?_
 obtain⟨vs,H2,K,S,l',bs,y,e1,e2,p,hbl,T,q⟩:=h2;cases e1;subst e2;obtain⟨_,its',n',r,hlen,k⟩:=K.lstM p;obtain⟨u,rfl,U⟩:=vals1 S;cases U;cases uj r;obtain⟨j,W,rfl⟩:=BF.mp T;obtain⟨hjl,w,B⟩:=List.findIdx?_eq_some_iff_getElem.mp W;refine call_meets PySem.F.slot_list_index ⟨_,k,rfl⟩ PySem.F.entry_list_index (PySem.F.args_list_index_2 _ _) (SeqAt.list_indexAt l (bs.map Value.bool).toArray n' none #[] (.bool true) pB j (by simp;omega) (by omega) (by simpa[pB] using w) (λm hm C=>?_)) ⟨k,λz D=>?_,⟨.int j,H2,K.tok _,⟨_,rfl⟩,q⟩⟩
 ·have:=B m C;simpa[pB] using this
 ·have E:z∈bs.map Value.bool:=by simpa using D
  obtain⟨b,_,rfl⟩:=Bz.mp E;have:=EqAt.bool_bool (A:=X.A.in1) (s:=s2) b true;rw[show (b==true)=pB (.bool b) by cases b <;> rfl]at this;exact this
theorem qO {to:TE} {t:TA} {apos:Pos} (hu:X.A.units+64<cLine) (D:PE X o to) (ha:PA X [e] t) (f:attributeBase o "count" X.env (eval o X.env)=eval o X.env:=by rfl)
  (i:((backTo cpos (starEach [e] X.env)).all (λx=>!x.1)&&(backToKw cpos (keywordEach [] X.env)).all (λx=>x.1.isSome)&&decide (([e]:List Expr).length+([]:List Keyword).length+(if ([]:List Keyword).isEmpty then 0 else 1)<30))=true:=by rfl)
  (g:(apos.endLine==cpos.line)=true:=by rfl) (E:starEach [e] X.env=(false,eval e X.env)::starEach [] X.env:=by rfl) (c:(backTo cpos (starEach [] X.env)).any (·.1)=false:=by rfl) :
  PE X (.Call (.Attribute o "count" apos) [e] [] cpos) (tTr (λbs=>some (V.int (bs.countP id:Nat))) to t):=by
 intro pins s σ H Q I h;refine wpAny_Call_method_late f i g rfl (thn (D pins s σ H _ I h) λv G h1=>?_);obtain⟨x,H1,w,J,⟨l,xs,K,hl⟩,L⟩:=h1;subst K;cases J;obtain⟨_,its,n,rv,_,ge⟩:=w.lstM hl;refine⟨"list", "list.count",PySem.F.plainAttrs_list,PySem.F.slot_list_count,PySem.F.type_list_count,⟨_,ge,rfl⟩,λa ea=>by cases ea;exact⟨_,ge,rfl⟩,?_⟩;have B:=ha cpos pins G σ H1 _ w L;rw[E]at B ⊢;refine Calls.callWith_builtin (by show (false||(backTo cpos (starEach [] X.env)).any (·.1))=false;rw[c];rfl) (Calls.evalArgs_plain ?_);refine thn B λus s2 h2=>?_
 obtain⟨vs,H2,C,M,l',bs,y,e1,e2,k,hbl,N,q⟩:=h2;cases e1;subst e2;obtain⟨_,its',n',m,hlen,j⟩:=C.lstM k;obtain⟨u,rfl,O⟩:=vals1 M;cases O;cases uj m;cases N;have hc:((bs.map Value.bool).toArray.toList.countP pB:Nat)=bs.countP id:=by rw[List.toList_toArray,List.countP_map];rfl
 refine call_meets PySem.F.slot_list_count ⟨_,j,rfl⟩ PySem.F.entry_list_count (PySem.F.args_list_count_2 _ _) (SeqAt.list_countAt l (bs.map Value.bool).toArray n' none #[] (.bool true) pB) ⟨j,λz p=>?_,⟨.int (bs.countP id:Nat),H2,C.tok _,⟨_,by rw[hc]⟩,q⟩⟩;have r:z∈bs.map Value.bool:=by simpa using p
 obtain⟨b,_,rfl⟩:=Bz.mp r;have:=EqAt.bool_bool (A:=X.A.in1) (s:=s2) b true;rw[show (b==true)=pB (.bool b) by cases b <;> rfl]at this;exact this
end
end L2
namespace L2
open PySem PySem.Spec PyProof.Rows
variable {P:Addr} {v:Expr}
theorem oa {A:Around} {Er:Value->Shared->Prop} {Q:Bool->Shared->Prop} {g:Array GenState} {d:Drawn} {t:Nat} {os:OsState} {e:Addr}
  {nm q:Str} {N:Addr} {bs:List Value} {hdct:Bool} {sn:List Str} {sub:List Value} {ab:Bool} {col:Option Bool} {dd:Option Addr} {k0 k1 k2 k3 k5:Option Value}
  (X:K.In h) (j:h.get? e=some oe) (b:oe.cls=.ref C) (i:h.get? P=some (excClassObj nm q P N bs bm hdct sn sub ab col dd k0 k1 k2 k3 k5 newId)) (a:bm.contains (.type "BaseException")=true)
  (hm:PySem.W.mroIn K C (.ref P)=some true) (k:Q true ⟨h,g,d,t,os⟩):wpAny M A (excMatches (.ref e) (.ref P)) Q Er ⟨h,g,d,t,os⟩:=by
 have c:(Value.ref P::bm).contains (.type "BaseException")=true:=by rw[List.contains_cons,a,Bool.or_true]
 have L:=PySem.W.looks_mroIn (M:=M) X hm;have f:=tc_notTuple;unfold excMatches
 repeat (first|(with_reducible refine wpAny_loadPart_at j ?_;rw[b])|with_reducible refine wpAny_loadPart_at i ?_|(with_reducible refine wpAny_isSubtype_exc i ?_;rw[c])|with_reducible refine L.at ?_|wp_step)
 exact k
theorem o6 {n:Str} {np g:Pos} {b0:Stmt} {a:List Stmt} {D:Ends} {ts:Obj->TS} {l:List Value}
  (I:Inv X pins σ H s) (F:qC X.prog X.w X.stack H s H' B ea (.ref C) a0 s') (hf:X.env.frame=some X.env.locals) (b:∃out,X.stack=X.env::out) (hN:X.N.Nodup) (hi:X.N[i]?=some n) (hl:X.env.scope.names.lookup n=some .local)
  (hg:Gl X x) (hm:X.mg x=some (.ref P)) (hC:PySem.W.excIn X.K P l newId=true) (j:l.contains (.type "BaseException")=true) (m:PySem.W.mroIn X.K C (.ref P)=some true)
  (hs:∀oe,oe.cls=.ref C->PSs (sui X ea oe) (b0::a) (ts oe))
  (q:∀oe,oe.cls=.ref C->ts oe { nx:=λ_ _=>False,rt:=D.rt } (σ.set i (some (.ref ea))) H')
  (J:(x==("__debug__":Str))=false) :
  wpAny (model X.prog X.w) X.A (noteFrame (.ref ea) X.env) (λ_ s2=>wpAny (model X.prog X.w) X.A (setFlight (.ref ea) none) (λ_ s3 =>
   wpAny (model X.prog X.w) X.A (handleBy (.ref ea) X.env [.ExceptHandler (some (.Name x np)) (some n) (b0::a) g]) (SP X pins D) X.xe s3) X.xe s2) X.xe s':=by
 obtain⟨out,b⟩:=b;have L:X.A.frames=some (X.env::out):=by rw[<-b];exact I.ok.frames
 have o:Heap.FlyingW B (X.env::out) ea (.ref C) a0 s'.heap:=by rw[<-b];exact F.fly
 refine wpAny_looks_onW L hf o λh4 M c=>?_
 refine wpAny_landsW M λh5 p e=>?_
 have h:Heap.FlyingW B X.stack ea (.ref C) a0 h5:=by rw[b];exact p
 have O:Inv X pins σ H' { s' with heap:=h5 }:=F.inv I p.1 (c.trans e);obtain⟨oe,hc,ap⟩:=F.apart I h (c.trans e);have J5:=Inv.sui O ap;refine wpAny_handleBy_cons (codeAny_handlers_test (i5 (X:=sui X ea oe) J5 hg hm ?_ J)) (by intro z;cases z);obtain⟨bm,Nn,nm,qn,bs,hdct,sn,sub,ab,col,dd,k0,k1,k2,k3,k5,mN,Q,hN0,hni,TL⟩:=pL O.kIn hC;refine oa O.kIn ap.1 hc Q (TL.hasType j) m (codeAny_handlers_suite_as ?_);refine lands_againW h λh6 r t=>?_
 have I6:Inv X pins σ H' { s' with heap:=h6 }:=F.inv I r.1 ((c.trans e).trans t);obtain⟨f,y,R⟩:=F.apart I r ((c.trans e).trans t);have J6:=Inv.sui I6 R;refine km (X:=sui X ea f) (v:=.ref ea) J6 hN hi (.inl hl) rfl (λs7 J7=>?_) (.inr hl);refine wpAny_mono (hs f y pins s7 _ H' { nx:=λ_ _=>False,rt:=D.rt } J7 (q f y)) (λfl S G=>?_) λ_ _ z=>z.elim
 have fin:∀{v:V} {u:Value} {k:St} {E:Hp},Inv (sui X ea f) pins k E S->RelV v u->D.rt v E->wpAny (model X.prog X.w) X.A (do bindName X.env n .none;unbindBehindTheSuite X.env n g) (λ_ s9=>SP X pins D (.ret u) s9) X.xe S:=λ{v u k E} T U Y=>by have I8:=Inv.unsui I.ok T;obtain⟨m8,Z,_⟩:=I8.loc;exact wpAny_nameGoes hl Z (by rw[I.ok.kind];rfl) λh9 m9 hn9 hs9=>⟨v,_,E,I8.forget (t':=S.toks+1) hn9 hs9,U,Y⟩
 cases fl with
 |ret u =>obtain⟨v,k,E,T,U,Y⟩:=G;exact fin T U Y
 |next=>obtain⟨_,_,_,z⟩:=G;exact z.elim
 |brk=>obtain⟨_,_,_,z⟩:=G;exact z.elim
 |cont=>obtain⟨_,_,_,z⟩:=G;exact z.elim
def uC {α:Type} (te:TX) (cl:List α) (ad:α->Addr) (i:Nat) (ts:α->Addr->Obj->TS):TS:=λD σ H=>te σ H (λ_ H1=>D.nx σ H1) λcls _ H1=>∃c∈cl,cls=.ref (ad c)/\∀ea oe,H1 ea=none->oe.cls=.ref (ad c)->ts c ea oe { nx:=λ_ _=>False,rt:=D.rt } (σ.set i (some (.ref ea))) H1
theorem oV {te:TX} {cl:List α} {ad:α->Addr} {n:Str} {w g b:Pos} {u:Stmt} {a:List Stmt} {ts:α->Addr->Obj->TS} {j:List Value} (A:PEX X e te)
  (C:X.env.frame=some X.env.locals) (m:∃out,X.stack=X.env::out) (E:X.N.Nodup) (hi:X.N[i]?=some n) (hl:X.env.scope.names.lookup n=some .local)
  (G:Gl X x) (hm:X.mg x=some (.ref P)) (J:PySem.W.excIn X.K P j newId=true) (f:j.contains (.type "BaseException")=true) (k:∀c∈cl,PySem.W.mroIn X.K (ad c) (.ref P)=some true)
  (L:∀c∈cl,∀ea oe,oe.cls=.ref (ad c)->PSs (sui X ea oe) (u::a) (ts c ea oe)) (p:(x==("__debug__":Str))=false)
  (r:swapsWith e none b.line X.env=pure false) :
  PS X (.Try [.Expr e b] [.ExceptHandler (some (.Name x w)) (some n) (u::a) g] [] [] pos) (uC te cl ad i ts):=by
 intro pins s σ H D I h;refine wpAny_Try_except (wpAny_execs_cons (wpAny_Expr_any (wpAny_mono (A pins s σ H _ _ I h) (λv M h1=>?_) λev M h1=>?_) I.quiet r))
 ·obtain⟨y,H1,O,r1,Q⟩:=h1;exact wpAny_execs_nil (wpAny_execs_nil ⟨σ,H1,O,Q⟩)
 ·obtain⟨H1,s0,R,ea,cls,a0,H2,B,rfl,⟨c,l,rfl,qs⟩,F⟩:=h1;have hn:H2 ea=none:=by
   cases q:H2 ea with
   |none=>rfl
   |some o =>obtain⟨ob,z⟩:=(F.hok ea o q).get;rw[F.fly.2.1]at z;cases z
  exact o6 (D:=D) (ts:=ts c ea) R F C m E hi hl G hm J f (k c l) (λoe t=>L c l ea oe t) (λoe t=>qs ea oe hn t) p
def tXa (i:Nat) (ea:Addr) (vs:List V):TA:=λσ H Q=>σ[i]?=some (some (.ref ea))/\Q vs H
section
variable {E:XK} {io ik:Nat}
theorem ec:PA X [] (tXa i ea []):=dw.imp λσ H Q h=>h.2
theorem aG {b:Bool} {bs:List Bool} (a:PE X e (tXe i ea (.bl b))) (c:PA X es (tXa i ea (bs.map V.bl))) (f:starEach (e::es) X.env=(false,eval e X.env)::starEach es X.env):PA X (e::es) (tXa i ea ((b::bs).map V.bl)) :=
 (bX a c f).imp λσ H Q h=>⟨h.1,h.1,h.2⟩
abbrev CI:=Addr×List Bool×List Bool×Bool
structure OkC (X:Cx) (i:Nat) (P:Addr) (l1 l2:List Expr) (v:Expr) (c:CI):Prop where
 m:PySem.W.mroIn X.K c.1 (.ref P)=some true
 a:∀ea oe,oe.cls=.ref c.1->PA (sui X ea oe) l1 (tXa i ea (c.2.1.map V.bl))
 b:∀ea oe,oe.cls=.ref c.1->PA (sui X ea oe) l2 (tXa i ea (c.2.2.1.map V.bl))
 v:∀ea oe,oe.cls=.ref c.1->PE (sui X ea oe) v (tXe i ea (.bl c.2.2.2))
theorem vS:∀c∈([]:List CI),OkC X i P l1 l2 v c:=λ_ h=>nomatch h
theorem gN {c:CI} {cl:List CI} (h:OkC X i P l1 l2 v c) (r:∀c∈cl,OkC X i P l1 l2 v c):∀d∈c::cl,OkC X i P l1 l2 v d:=λd hd=>by
 rcases B8.mp hd with rfl|hd
 ·exact h
 ·exact r d hd
noncomputable def uT (bs:List Bool) (v:Bool) (k:Int):Option Bool:=if v=true then (if bs.countP id=1 then (bs.findIdx? id).map λj:Nat=>((j:Int)==k) else some false) else some false
def nL (cl:List CI) (i io ik:Nat) (gf:List PyData->Rs PyData) (gs:Ds->Rs (List PyData)):Ds->Sr:=λδ=>if i<δ.length/\io<δ.length/\i≠io/\i≠ik/\io≠ik then (match gs δ with
 |.ok ds=>(match gf ds with
  |.ok _=>.nx δ
  |.rz C=>(match cl.find? (λc=>c.1==C) with
   |some c=>(match δ[ik]? with
    |some (some (.int k))=>(match uT (c.2.1++c.2.2.1) c.2.2.2 k with
     |some b=>.rt (.bool b)
     |none=>.no)
    |_=>.no)
   |none=>.no)
  |.no=>.no)
 |_=>.no) else .no
theorem oB {f n g T:Str} {cl:List CI} {a:Expr} {as:List Expr} {np cp rp hp q1 q2 q3 U q5 S W q8 q9 r1 r2 r3 r4 r5 r6 r7 r8 r9 s1 s2 s3 s4 s5:Pos} {kt G:_} {k1:_}
  (D:iA X.prog X.w X.K X.mg X.base k f (a::as).length gf) (hr:dG j X.A) (ha:PAD X.nox E0 (a::as) gs) (EE:gW X.K X.mg x P) (hN:X.N.Nodup) (t:∀c∈cl,OkC X i P l1 l2 v c) (hlen:∀c∈cl,c.2.1.length+c.2.2.1.length<=1000) (hu:X.A.units+64<cLine) (hk:k<=j)
  (hf:X.env.frame=some X.env.locals) (hst:∃out,X.stack=X.env::out) (hi:X.N[i]?=some n) (B:X.N[io]?=some g) (hik:X.N[ik]?=some T) (hl:X.env.scope.names.lookup n=some .local) (hg:Gl X x) (hgf:Gl X f)
  (hL:Loc X.env.scope g) (I:Vis X.env.scope g) (hvk:Vis X.env.scope T) (hfo:X.fn g=true\/X.env.scope.names.lookup g=some .local)
  (J:(g==("__debug__":Str))=false) (L:(g==("__classdict__":Str))=false) (hdk:(T==("__debug__":Str))=false) (hck:(T==("__classdict__":Str))=false)
  (hdf:(f==("__debug__":Str))=false) (hdb:(x==("__debug__":Str))=false) (he:starEach (a::as) X.env=(false,eval a X.env)::starEach as X.env) (hpl:(backTo cp (starEach as X.env)).any (·.1)=false)
  (hsw:swapsWith (.Call (.Name f p) (a::as) [] cp) none rp.line X.env=pure false)
  (hs1:swapsWith (.List l1 q1) (some (.Name g q2)) q3.line X.env=pure false)
  (hs2:swapsWith (.Call (.Attribute (.Name g U) "extend" q5) [.List l2 S] [] W) none q8.line X.env=pure false)
  (C:starEach [.List l2 S] X.env=(false,eval (.List l2 S) X.env)::starEach [] X.env)
  (hb2:attributeBase (.Name g U) "extend" X.env (eval (.Name g U) X.env)=eval (.Name g U) X.env)
  (hf2:((backTo W (starEach [.List l2 S] X.env)).all (λx=>!x.1)&&(backToKw W (keywordEach [] X.env)).all (λx=>x.1.isSome)&&decide (([.List l2 S]:List Expr).length+([]:List Keyword).length+(if ([]:List Keyword).isEmpty then 0 else 1)<30))=true)
  (hn2:(q5.endLine==W.line)=true)
  (hb3:attributeBase (.Name g r1) "count" X.env (eval (.Name g r1) X.env)=eval (.Name g r1) X.env) (hn3:(r2.endLine==r4.line)=true)
  (hb4:attributeBase (.Name g r5) "index" X.env (eval (.Name g r5) X.env)=eval (.Name g r5) X.env) (hn4:(r6.endLine==r8.line)=true)
  (hf3:((backTo r4 (starEach [.Constant (.bool true) kt r3] X.env)).all (λx=>!x.1)&&(backToKw r4 (keywordEach [] X.env)).all (λx=>x.1.isSome)&&decide (([.Constant (.bool true) kt r3]:List Expr).length+([]:List Keyword).length+(if ([]:List Keyword).isEmpty then 0 else 1)<30))=true)
  (hf4:((backTo r8 (starEach [.Constant (.bool true) G r7] X.env)).all (λx=>!x.1)&&(backToKw r8 (keywordEach [] X.env)).all (λx=>x.1.isSome)&&decide (([.Constant (.bool true) G r7]:List Expr).length+([]:List Keyword).length+(if ([]:List Keyword).isEmpty then 0 else 1)<30))=true) :
  PSD X E O (.Try [.Expr (.Call (.Name f p) (a::as) [] cp) rp] [.ExceptHandler (some (.Name x np)) (some n) [.Assign [.Name g q2] (.List l1 q1) q3,.Expr (.Call (.Attribute (.Name g U) "extend" q5) [.List l2 S] [] W) q8,
   .Return (some (.BoolOp .And [v,.Compare (.Call (.Attribute (.Name g r1) "count" r2) [.Constant (.bool true) kt r3] [] r4) [.Eq] [.Constant (.int 1) k1 q9] s1,.Compare (.Call (.Attribute (.Name g r5) "index" r6) [.Constant (.bool true) G r7] [] r8) [.Eq] [.Name T r9] s2] s3)) s4] hp] [] [] s5) (nL cl i io ik gf gs):=by
 obtain⟨fa,fd,ps,F,hm,hkp,hb⟩:=D.ex;refine (oV (cl:=cl) (ad:=(·.1)) (rY F (hr.mono hk) hgf hm hkp hb .nil ha.1 hdf he hpl) hf hst hN hi hl hg EE.m EE.e (by decide) (λc hc=>(t c hc).m)
  (λc hc ea oe ho=>fg (kl (X:=sui X ea oe) hN B hL (iI ((t c hc).a ea oe ho)) hs1 hfo)
   (fg (jW (pK PySem.F.plainAttrs_list PySem.F.slot_list_extend PySem.F.type_list_extend qu (eM B I J L) (bX (iI ((t c hc).b ea oe ho)) dw C) hb2 hf2 hn2 C rfl) hs2)
    (gE (iO (pf ((t c hc).v ea oe ho) (pf (mH wq (qO hu (eM B I J L) (bX tI dw) hb3 hf3 hn3) fM (gO _)) (tF (mH wq (qZ hu (eM B I J L) (bX tI dw) hb4 hf4 hn4) (eM hik hvk hdk hck) (gO _))))))))) hdb hsw).imp λDn σ H h=>?_
 obtain⟨H0,A0,A,δ,R,o⟩:=h;unfold nL at o;split at o
 ·rename_i M;obtain⟨M,hol,nio,nik,nok⟩:=M;refine aD.run R.full (λds ed vs H1 s1 R1 hv=>?_) (λC' et H' s'=>?_) (λet=>?_)
  ·simp only[ed]at o;refine⟨A0,ds,R1.ls,by simpa using hv,ha.2 δ ds ed,?_⟩;cases q:gf ds with
   |ok v=>rw[q]at o;exact λu H' s' hu=>o A σ H' (R.step (s1.trans s'))
   |rz C' =>
    rw[q]at o;intro H' s';simp only at o;cases qf:cl.find? (λc=>c.1==C') with
    |none=>rw[qf]at o;exact o.elim
    |some c =>
     rw[qf]at o;obtain⟨cA,r,s,vv⟩:=c;have hc:(cA,r,s,vv)∈cl:=List.mem_of_find?_eq_some qf;have hcc:cA=C':=by have z:=List.find?_some qf;exact eq_of_beq z
     simp only at o;cases qk:δ[ik]? with
     |none=>rw[qk]at o;exact o.elim
     |some dk =>
      rw[qk]at o;cases dk with
      |none=>exact o.elim
      |some dk =>
       cases dk with
       |int kk =>
        simp only at o;refine⟨(cA,r,s,vv),hc,congrArg Value.ref hcc.symm,λea oe hn ho=>?_⟩;have hle:r.length+s.length<=1000:=hlen _ hc;obtain⟨w,ew,hw⟩:=R.full.get ik _ qk;have ew2:=hw.ofInt;subst ew2;have Y:i<σ.length:=by rw[<-R.len];exact M
        have Z:io<σ.length:=by rw[<-R.len];exact hol
        have g1:(σ.set i (some (V.ref ea)))[i]?=some (some (.ref ea)):=BB Y;refine⟨g1,by show (r.map V.bl).length<=sizeLine;rw[B3,sizeLine_eq];omega,λl hpa=>?_⟩;have g2:((σ.set i (some (V.ref ea))).set io (some (.ref l)))[i]?=some (some (.ref ea)):=by rw[Bw (Ne.symm nio)];exact g1
        have g3:((σ.set i (some (V.ref ea))).set io (some (.ref l)))[io]?=some (some (.ref l)):=BB (by rw[Ct];exact Z);have g4:((σ.set i (some (V.ref ea))).set io (some (.ref l)))[ik]?=some (some (.int kk)):=by rw[Bw nok,Bw nik];exact ew
        refine⟨.ref l,g3,tyL aV,g2,by show (s.map V.bl).length<=sizeLine;rw[B3,sizeLine_eq];omega,λpb Q=>?_⟩;have nab:l≠pb:=λz=>by rw[<-z,aV]at Q;cases Q
        refine⟨l,pb,r.map V.bl,s.map V.bl,rfl,rfl,(aN nab).trans aV,aV,by rw[B3,B3,sizeLine_eq];omega,?_⟩;have sm:aw H0 (upd (upd (upd H' l (.lst (r.map V.bl))) pb (.lst (s.map V.bl))) l (.lst (r.map V.bl++s.map V.bl))) :=
         (R.same.trans (s1.trans s')).trans (aw.put ((a8 hpa).trans (a8 Q)) hpa)
        rw[<-Cu]at sm ⊢;refine⟨g2,vv,rfl,?_⟩;unfold uT at o;cases vv with
        |false =>rw[if_neg Bx]at o ⊢;exact o _ _ sm is_bool
        |true =>
         rw[if_pos rfl]at o ⊢;refine⟨.ref l,g3,⟨l,_,rfl,aV⟩,l,r++s,_,rfl,rfl,aV,by rw[Bt];omega,rfl,rfl,_,rfl,?_⟩;rw[mW];by_cases y:(r++s).countP id=1
         ·rw[if_pos y]at o;rw[if_pos (by rw[y];rfl)];cases qi:(r++s).findIdx? id with
          |none=>rw[qi]at o;exact o.elim
          |some jj =>rw[qi]at o;refine⟨.ref l,g3,⟨l,_,rfl,aV⟩,l,r++s,.int (jj:Int),rfl,rfl,aV,by rw[Bt];omega,congrArg (Option.map λj:Nat=>V.int (j:Int)) qi,.int kk,g4,rfl,?_⟩;rw[mW];exact o _ _ sm is_bool
         ·rw[if_neg y]at o;rw[if_neg (λz=>y (by have:=eq_of_beq z;omega))];exact o _ _ sm is_bool
       |_=>exact o.elim
   |no=>rw[q]at o;exact o.elim
  ·simp only[et]at o;exact o.elim
  ·simp only[et]at o;exact o
 ·exact o.elim
end
section
end
section
variable {q l:Addr} {Φ:Hp->Prop} {κ:Nat->V->Hp->Prop} {lt:Nat->Nat->Bool} {R:Result->Shared->Prop}
end
section
variable {a b:Expr} {ta tb:TE}
end
section
end
section
noncomputable def pF:List (PyData×PyData)->Bool
 |[]=>true
 |(_,d)::r=>aE d&&pF r
def xr:List (PyData×PyData)->Option Int
 |(.str x,.int _)::(.str y,.int b)::r=>if x=""/\y="@"/\pF r then some b else none
 |_=>none
mutual
def objs:PyData->Bool
 |.list ds=>sf ds
 |.tuple ds=>sf ds
 |.dict kvs=>(xr kvs).isSome
 |_=>true
def sf:List PyData->Bool
 |[]=>true
 |d::ds=>objs d&&sf ds
end
end
section
end
section
variable {as:List Addr} {E:XK} {ss:List Stmt} {G G':Ds->Sr} {c:Expr} {ca:Ds->Rs Bool}
end
def Ac (a:List (Str×PyData)):Bool:=pF (a.map λp=>(.str p.1,p.2))
section
variable {as:List Addr} {E:XK} {o value:Expr} {tpos:Pos} {f:Str}
end
def spM (K:PySem.W.Frag) (C:Addr) (g:List (Str×PyData)->Option (List (Str×PyData))):Sp:=λvs H Q E=>∃A a b c,vs=[.ref a]/\Ls H A/\Is K (del H A) (zO C a b) (.ref a)/\Ac b=true/\b.length<1000/\g b=some c /\
 ∀H',aw (del H [a]) H'->Is K (del H' A) (zO C a c) (.ref a)->Q .non H'
structure rS (P:Program) (w:World) (K:PySem.W.Frag) (mg:Str->Option Value) (base:Heap) (k:Nat) (C:Addr) (m:Str) (g:List (Str×PyData)->Option (List (Str×PyData))):Prop where
 ex:∃f fd ps,Cls K C/\Meth K C m f/\fJ P w K mg base (CXW P w) k f fd ps (spM K C g)/\Binds K fd ps []
section
variable {as:List Addr} {E:XK} {o:Expr} {apos spos:Pos} {m:Str} {g:List (Str×PyData)->Option (List (Str×PyData))}
end
section
variable {E:XK}
end
section
variable {E:XK} {ss:List Stmt}
end
section
variable {κ:Type} [DecidableEq κ]
end
section
variable {P:Program}
end
section
variable {y v:V} {r:Value} {o:Option V} {A:Around}
end
section
variable {kvs:List (Key×V)} {k:Key} {A:Around}
end
section
variable {o i value:Expr} {tpos:Pos} {td ty tv:TE}
end
section
end
section
variable {y d:V} {r:Value} {o:Option V} {A:Around}
end
section
variable {o f:Expr} {apos:Pos} {td ty tx:TE}
end
section
variable {kvs:List (Key×V)} {A:Around}
end
section
variable {y:V} {A:Around}
end
section
variable {H0:Hp} {A0:List Addr}
end
section
variable {E:XK} {o f i' value:Expr} {go ge gf:Ds->Rs PyData} {apos:Pos}
end
section
variable {E:XK} {o f k value:Expr} {go ge gf gk gv:Ds->Rs PyData} {apos:Pos}
end
end L2
namespace RS
open PySem
set_option genInjectivity true in
structure Er where
 every:Int
 due:Int
 late:Int
 parts:List (Int×Option Int)
noncomputable def kX:Option Int->PyData
 |none=>.none
 |some i=>.int i
def bP (p:Int×Option Int):PyData:=.tuple [.int p.1,kX p.2]
def Er.d (e:Er):PyData:=.tuple [.int e.every,.int e.due,.int e.late,.tuple (e.parts.map bP)]
def av (es:List Er):PyData:=.tuple (es.map Er.d)
noncomputable def isWhole (d:PyData) (lo hi:Int):Bool:=match d with
 |.int i=>decide (lo<=i)&&decide (i<=hi)
 |_=>false
def bc (d:PyData) (lo hi:Int):Bool:=match d with
 |.tuple ds=>decide (lo<=(ds.length:Int))&&decide ((ds.length:Int)<=hi)
 |_=>false
def cz (d:PyData):Bool:=match d with
 |.tuple [a,b]=>isWhole a 1 20&&(match b with|.none=>true|b=>isWhole b 0 3)
 |_=>false
def hV (ds:List PyData):Bool:=match ds.getLast? with
 |some (.tuple [_,.none])=>true
 |_=>false
def cX (d:PyData):Bool:=match d with
 |.tuple ds=>decide (1<=ds.length)&&decide (ds.length<=4)&&ds.all cz&&hV ds
 |_=>false
def bg (d:PyData):Bool:=match d with
 |.tuple [.int e,du,.int l,ps]=>decide (2<=e)&&decide (e<=60)&&(decide (0<=l)&&decide (l<=(if e-1<20 then e-1 else 20)))&&isWhole du 1 (e-l)&&cX ps
 |_=>false
def cx (d:PyData):Bool:=match d with
 |.tuple ds=>decide (1<=ds.length)&&decide (ds.length<=6)&&ds.all bg
 |_=>false
structure Er.Ok (e:Er):Prop where
 e1:2<=e.every
 e2:e.every<=60
 l1:0<=e.late
 l2:e.late<=20
 l3:e.late<e.every
 d1:1<=e.due
 d2:e.due<=e.every-e.late
 p1:e.parts≠[]
 p2:e.parts.length<=4
 pl:∀p∈e.parts,1<=p.1/\p.1<=20/\∀t,p.2=some t->0<=t/\t<=3
 la:∀p,e.parts.getLast?=some p->p.2=none
theorem qA {p:Int×Option Int} (h1:1<=p.1) (h2:p.1<=20) (c:∀t,p.2=some t->0<=t/\t<=3):cz (bP p)=true:=by
 obtain⟨l,t⟩:=p;cases t with
 |none=>simp[cz,bP,kX,isWhole,h1,h2]
 |some t =>obtain⟨a,b⟩:=c t rfl;simp[cz,bP,kX,isWhole,h1,h2,a,b]
theorem nk {e:Er} (h:e.Ok):bg e.d=true:=by
 have f:(e.parts.map bP).all cz=true:=by rw[BG];intro d hd;obtain⟨p,f,rfl⟩:=Bz.mp hd;obtain⟨a,b,c⟩:=h.pl p f;exact qA a b c
 have hl:hV (e.parts.map bP)=true:=by
  unfold hV;rw[List.getLast?_map];cases q:e.parts.getLast? with
  |none=>exact absurd (List.getLast?_eq_none_iff.mp q) h.p1
  |some p =>obtain⟨l,t⟩:=p;have:t=none:=h.la _ q;subst this;rfl
 have hn:1<=e.parts.length:=by
  cases q:e.parts with
  |nil=>exact absurd q h.p1
  |cons _ _=>simp
 have h1:=h.e1;have h2:=h.e2;have i:=h.l1;have h4:=h.l2;have h5:=h.l3;have j:=h.d1;have k:=h.d2;have m:=h.p2;have g:e.late<=if e.every-1<20 then e.every-1 else 20:=by split <;> omega
 simp[bg,Er.d,cX,isWhole,f,hl,hn,h1,h2,i,j,k,m,g]
theorem mi {es:List Er} (h1:1<=es.length) (h2:es.length<=6) (h:∀e∈es,e.Ok):cx (av es)=true:=by
 have a:(es.map Er.d).all bg=true:=by rw[BG];intro d hd;obtain⟨e,b,rfl⟩:=Bz.mp hd;exact nk (h e b)
 simp[cx,av,h1,h2,a]
noncomputable def cellAt (ns:List Int) (k:Int):Int :=
 if k<(ns.length:Int) then ns.getD k.toNat 0 else if ns=[] then 0 else ns.getD (k % (ns.length:Int)).toNat 0*31+k
def rj (ns:List Int) (k:Int):Int:=(cellAt ns k+7919*k+1)*48271 % 2147483647
def mixed (ns:List Int) (k many:Int):Int:=(rj ns k*rj ns k+7*rj ns k+k) % 2147483629 % many
theorem vh (ns:List Int) (k:Int):0<=rj ns k:=C7 _ (by decide)
theorem uL (ns:List Int) (k:Int):rj ns k<2147483647:=BX _ (by decide)
theorem bK (ns:List Int) (k:Int) (h:0<many):0<=mixed ns k many:=C7 _ (by omega)
theorem bV (ns:List Int) (k:Int) (h:0<many):mixed ns k many<many:=BX _ h
def iB (i:Int):Option Int:=if i=0 then some 0 else if i=1 then some 1 else if i=2 then some 1 else if i=3 then some 0 else none
def dq (ns:List Int) (j:Int) (a:Bool):Int×Option Int:=(1+mixed ns j 40 % 4,if a then iB (mixed ns j 40 / 4 % 5) else none)
def fE (ns:List Int) (at' a:Int):Int :=
 if a-1<mixed ns (at' + 1) 4*(if mixed ns (at' + 2) 3=0 then 1 else 0) then a-1 else mixed ns (at' + 1) 4*(if mixed ns (at' + 2) 3=0 then 1 else 0)
def jD (ns:List Int) (at' a:Int):Int:=if mixed ns (at' + 1) 3=0 then a-mixed ns (at' + 2) a else a
def mkE (ns:List Int) (at' top:Int) (a:Bool):Er where
 every:=3+mixed ns at' top
 late:=fE ns at' (3+mixed ns at' top)
 due:=jD ns at' (3+mixed ns at' top-fE ns at' (3+mixed ns at' top))
 parts:=((List.range (mixed ns (at' + 3) 3).toNat).map λ(k:Nat)=>dq ns (at' + 4+(k:Int)) a)++[(1+mixed ns (at' + 6) 3,none)]
def jT (ns:List Int) (at' most top:Int) (a:Bool):List Er:=(List.range (1+mixed ns at' most).toNat).map λ(k:Nat)=>mkE ns (at' + 1+7*(k:Int)) top a
theorem nj (ns:List Int) (at' a:Int) (h:3<=a):0<=fE ns at' a/\fE ns at' a<=3/\fE ns at' a<a:=by
 have h1:=bK ns (at' + 1) (many:=4) (by decide);have h2:=bV ns (at' + 1) (many:=4) (by decide);unfold fE;generalize mixed ns (at' + 1) 4=x at *;by_cases hc:mixed ns (at' + 2) 3=0
 ·simp only[hc,if_true,Int.mul_one];split <;> omega
 ·simp only[hc,if_false,Int.mul_zero];split <;> omega
theorem vb (ns:List Int) (at' a:Int) (h:1<=a):1<=jD ns at' a/\jD ns at' a<=a:=by have h1:=bK ns (at' + 2) (many:=a) (by omega);have h2:=bV ns (at' + 2) (many:=a) (by omega);unfold jD;split <;> omega
theorem vY (i t:Int) (h:iB i=some t):0<=t/\t<=1:=by
 unfold iB at h
 repeat' split at h
 all_goals (first|(cases h;decide)|cases h)
theorem sx (ns:List Int) (j:Int) (a:Bool):1<=(dq ns j a).1/\(dq ns j a).1<=4/\∀t,(dq ns j a).2=some t->0<=t/\t<=1:=by
 have h1:0<=mixed ns j 40 % 4:=C7 _ (by decide);have h2:mixed ns j 40 % 4<4:=BX _ (by decide);refine⟨by unfold dq;simp only;omega,by unfold dq;simp only;omega,λt h=>?_⟩;unfold dq at h;simp only at h;cases a with
 |false=>simp at h
 |true=>simp at h;exact vY _ _ h
theorem xO (ns:List Int) (at' top:Int) (a:Bool) (h1:0<top) (h2:top<=58):(mkE ns at' top a).Ok:=by
 have a1:=bK ns at' h1;have a2:=bV ns at' h1;have l:=nj ns at' (3+mixed ns at' top) (by omega);have d:=vb ns at' (3+mixed ns at' top-fE ns at' (3+mixed ns at' top)) (by omega);have n1:=bK ns (at' + 3) (many:=3) (by decide);have n2:=bV ns (at' + 3) (many:=3) (by decide);have n3:=bK ns (at' + 6) (many:=3) (by decide);have n4:=bV ns (at' + 6) (many:=3) (by decide);refine⟨?_,?_,l.1,?_,l.2.2,d.1,d.2,?_,?_,?_,?_⟩
 ·show 2<=3+mixed ns at' top;omega
 ·show 3+mixed ns at' top<=60;omega
 ·have:=l.2.1;show fE ns at' (3+mixed ns at' top)<=20;omega
 ·simp[mkE]
 ·simp only[mkE,Bt,B3,CC,C0];omega
 ·intro p b;simp only[mkE,BA,Bz,B7]at b;rcases b with⟨k,_,rfl⟩|rfl
  ·have:=sx ns (at' + 4+(k:Int)) a;refine⟨this.1,by omega,λt c=>?_⟩;have:=this.2.2 t c;omega
  ·exact⟨by simp only;omega,by simp only;omega,λt c=>by cases c⟩
 ·intro p b;simp only[mkE,List.getLast?_append,List.getLast?_singleton,Option.some_or]at b;cases b;rfl
theorem sT (ns:List Int) (at' most top:Int) (a:Bool) (h:0<most):1<=(jT ns at' most top a).length/\((jT ns at' most top a).length:Int)<=most:=by have h1:=bK ns at' h;have h2:=bV ns at' h;simp only[jT,B3,CC];omega
theorem u6 (ns:List Int) (at' most top:Int) (a:Bool) (h1:0<top) (h2:top<=58):∀e∈jT ns at' most top a,e.Ok:=by intro e b;simp only[jT,Bz]at b;obtain⟨k,_,rfl⟩:=b;exact xO _ _ _ _ h1 h2
end RS
namespace RS
open PySem L2
structure Cs where
 RankError:Addr
 NoErrands:Addr
 NoRanks:Addr
 NoComings:Addr
 NoErrand:Addr
 NoNumber:Addr
 TooLong:Addr
 NoText:Addr
 Holding:Addr
 Jobs:Addr
abbrev Gf:=List PyData->Rs PyData
def aL (K:PySem.W.Frag) (mg:Str->Option Value) (x:Str) (st:Stmt) (ps:List Str):Prop:=∃f fd,Fun K x x st f fd/\Binds K fd ps []/\mg x=some (.ref f)
def gD (cs:Cs):Ds->Sr :=
 (ax (sIf (cOr (eu (gT (g1 (fo "int") (af 0)))) (gT (g1 (fo "bool") (af 0)))) (bp (gC (.bool false))) a4)
  (bp (jl dLe dLe (af 1) (af 0) (af 2))))
def gG (cs:Cs):Ds->Sr :=
 (bp (rF (g1 (fo "tuple") (af 0)) (jl dLe dLe (af 1) (gF bR (ae (af 0) ah)) (af 2))))
def eX (cs:Cs) (ar az:Gf):Ds->Sr :=
 (ax (sIf (cOr (eu (gT (ai az (ae (af 0) (ae (gC (.int 2)) (ae (gC (.int 2)) ah)))))) (eu (gT (ai ar (ae (g2 dIx (af 0) (gC (.int 0))) (ae (gC (.int 1)) (ae (gC (.int 20)) ah))))))) (bp (gC (.bool false))) a4)
  (bp (gOr (g1 vM (g2 dIx (af 0) (gC (.int 1)))) (ai ar (ae (g2 dIx (af 0) (gC (.int 1))) (ae (gC (.int 0)) (ae (g2 e6 (gC (.int 4)) (gC (.int 1))) ah)))))))
def eB (cs:Cs) (az a:Gf):Ds->Sr :=
 (ax (sIf (cOr (eu (gT (ai az (ae (af 0) (ae (gC (.int 1)) (ae (gC (.int 4)) ah)))))) (eu (gT (gF jQ (ae (gL (bY 1 (fb (af 0)) cf (ai a (ae (af 1) ah)) bM)) ah))))) (bp (gC (.bool false))) a4)
  (bp (g1 vM (g2 dIx (g2 dIx (af 0) (g1 fQ (gC (.int 1)))) (gC (.int 1))))))
def cF (cs:Cs) (ar a az:Gf):Ds->Sr :=
 (ax (sIf (eu (gT (ai az (ae (af 0) (ae (gC (.int 4)) (ae (gC (.int 4)) ah)))))) (bp (gC (.bool false))) a4)
  (ax (bh [] 1 (g2 dIx (af 0) (gC (.int 0))))
  (ax (bh [] 2 (g2 dIx (af 0) (gC (.int 1))))
  (ax (bh [] 3 (g2 dIx (af 0) (gC (.int 2))))
  (ax (sIf (eu (gT (ai ar (ae (af 1) (ae (gC (.int 2)) (ae (gC (.int 60)) ah)))))) (bp (gC (.bool false))) a4)
  (ax (sIf (eu (gT (ai ar (ae (af 3) (ae (gC (.int 0)) (ae (gF kL (ae (gC (.int 20)) (ae (g2 e6 (af 1) (gC (.int 1))) ah))) ah)))))) (bp (gC (.bool false))) a4)
  (bp (rF (ai ar (ae (af 2) (ae (gC (.int 1)) (ae (g2 e6 (af 1) (af 3)) ah)))) (ai a (ae (g2 dIx (af 0) (gC (.int 3))) ah))))))))))
def fY (cs:Cs) (az a:Gf):Ds->Sr :=
 (ax (sIf (cOr (eu (gT (ai az (ae (af 0) (ae (gC (.int 1)) (ae (gC (.int 6)) ah)))))) (eu (gT (gF jQ (ae (gL (bY 1 (fb (af 0)) cf (ai a (ae (af 1) ah)) bM)) ah))))) (eI cs.NoErrands (ae (gC (.str "errands are a tuple of 1 to 6 errands (every, due, late, parts)")) ah)) a4)
  (bp (af 0)))
def bT (cs:Cs) (az ar:Gf):Ds->Sr :=
 (ax (bh [] 2 (g2 e6 (gF bR (ae (af 0) ah)) (gC (.int 1))))
  (ax (sIf (cOr (eu (gT (ai az (ae (af 1) (ae (gF bR (ae (af 0) ah)) (ae (gF bR (ae (af 0) ah)) ah)))))) (eu (gT (gF jQ (ae (gL (bY 3 (fb (af 1)) cf (ai ar (ae (af 3) (ae (gC (.int 0)) (ae (af 2) ah)))) bM)) ah))))) (eI cs.NoRanks (ae (gC (.str "ranks are a tuple of the numbers of all errands")) ah)) a4)
  (ax (sIf (gT (g2 dLt (gF iX (ae (af 1) ah)) (gF bR (ae (af 1) ah)))) (eI cs.NoRanks (ae (gC (.str "ranks have each errand's number once")) ah)) a4)
  (bp (af 1)))))
def cT (cs:Cs) (ar:Gf):Ds->Sr :=
 (ax (sIf (eu (gT (ai ar (ae (af 1) (ae (gC (.int 0)) (ae (g2 e6 (gF bR (ae (af 0) ah)) (gC (.int 1))) ah)))))) (eI cs.NoErrand (ae (gC (.str "no errand has this number")) ah)) a4)
  (bp (af 1)))
def fU (cs:Cs) (aA ao ag:Gf):Ds->Sr :=
 (ax (aU (ai ag (ae (af 0) ah)))
  (ax (aU (ai ao (ae (af 0) (ae (af 1) ah))))
  (aU (ai aA (ae (af 0) (ae (af 2) ah))))))
def eS (cs:Cs) (aj:Gf):Ds->Sr :=
 (ax (bh [7] 4 (g2 aT (gC (.int 3)) (ai aj (ae (af 0) (ae (af 1) (ae (af 2) ah))))))
  (ax (bh [7] 5 (g2 gI (ai aj (ae (af 0) (ae (g2 aT (af 1) (gC (.int 1))) (ae (gC (.int 4)) ah)))) (gF qS (ae (g2 dEq (ai aj (ae (af 0) (ae (g2 aT (af 1) (gC (.int 2))) (ae (gC (.int 3)) ah)))) (gC (.int 0))) ah))))
  (ax (bh [7] 5 (gF kL (ae (af 5) (ae (g2 e6 (af 4) (gC (.int 1))) ah))))
  (ax (bh [7] 6 (g2 e6 (af 4) (af 5)))
  (ax (sIf (gT (g2 dEq (ai aj (ae (af 0) (ae (g2 aT (af 1) (gC (.int 1))) (ae (gC (.int 3)) ah)))) (gC (.int 0)))) (bh [7] 6 (g2 e6 (af 6) (ai aj (ae (af 0) (ae (g2 aT (af 1) (gC (.int 2))) (ae (af 6) ah)))))) a4)
  (ax (k8 [7] 7 ah)
  (ax (mY [7] (jI (ae (ai aj (ae (af 0) (ae (g2 aT (af 1) (gC (.int 3))) (ae (gC (.int 3)) ah)))) ah)) (dS 8) (ax (bh [7] 9 (ai aj (ae (af 0) (ae (g2 aT (g2 aT (af 1) (gC (.int 4))) (af 8)) (ae (gC (.int 40)) ah)))))
  (ax (pe [7] 7 (dm (ae (g2 aT (gC (.int 1)) (g2 cw (af 9) (gC (.int 4)))) (ae (g2 dIx (bu (ae (gC (.int 0)) (ae (gC (.int 1)) (ae (gC (.int 1)) (ae (gC (.int 0)) (ae (gC .none) ah)))))) (g2 cw (g2 ki (af 9) (gC (.int 4))) (gC (.int 5)))) ah))))
  (sIf (eu (gT (af 3))) (qV 7 (g1 fQ (gC (.int 1))) (dm (ae (g2 dIx (g2 dIx (af 7) (g1 fQ (gC (.int 1)))) (gC (.int 0))) (ae (gC .none) ah)))) a4))))
  (bp (dm (ae (af 4) (ae (af 6) (ae (af 5) (ae (gF fR (ae (g2 aT (af 7) (bu (ae (dm (ae (g2 aT (gC (.int 1)) (ai aj (ae (af 0) (ae (g2 aT (af 1) (gC (.int 6))) (ae (gC (.int 3)) ah))))) (ae (gC .none) ah))) ah))) ah)) ah)))))))))))))
def d8 (cs:Cs) (bA aj:Gf):Ds->Sr :=
 (ax (bh [] 5 (g2 aT (gC (.int 1)) (ai aj (ae (af 0) (ae (af 1) (ae (af 2) ah))))))
  (bp (gF fR (ae (gL (bY 6 (jI (ae (af 5) ah)) cf (ai bA (ae (af 0) (ae (g2 aT (g2 aT (af 1) (gC (.int 1))) (g2 gI (gC (.int 7)) (af 6))) (ae (af 3) (ae (af 4) ah))))) bM)) ah))))
def fx (cs:Cs) (aj:Gf):Ds->Sr :=
 (ax (k8 [3,4] 3 (gLR (ae (af 2) ah)))
  (ax (k8 [3,4] 4 ah)
  (ax (mY [3,4] (jI (ae (af 2) ah)) (dS 5) (gz 4 3 (ai aj (ae (af 0) (ae (g2 aT (af 1) (af 5)) (ae (gF bR (ae (af 3) ah)) ah))))))
  (bp (gF fR (ae (af 4) ah))))))
end RS
set_option maxHeartbeats 1000000
namespace RS
open PySem L2
variable {e:PyData} {a b:Int} {g:PyData->Bool} {xs:List PyData}
theorem uy (h:i∉O):(mask O δ)[i]?=δ[i]?:=by
 unfold mask;by_cases z:O=[]
 ·rw[if_pos z]
 ·rw[if_neg z,List.getElem?_mapIdx];cases δ[i]? with
  |none=>rfl
  |some d=>simp[h]
theorem a6 (h:i∉O):af i (mask O δ)=af i δ:=by unfold af;rw[uy h]
@[simp]theorem bt (d:PyData) (δ:Ds):af 0 (some d::δ)=.ok d:=rfl
@[simp]theorem bq (i:Nat) (x:Option PyData) (δ:Ds):af (i+1) (x::δ)=af i δ:=rfl
@[simp]theorem ix (d:PyData) (δ:Ds):gC d δ=.ok d:=rfl
@[simp]theorem oP (f:PyData->Option PyData) (a:Ds->Rs PyData) (δ:Ds):g1 f a δ=(a δ).bind λx=>Rs.cW (f x):=rfl
@[simp]theorem ib (f:PyData->PyData->Option PyData) (a b:Ds->Rs PyData) (δ:Ds):g2 f a b δ=(a δ).bind λx=>(b δ).bind λy=>Rs.cW (f x y):=rfl
@[simp]theorem kM (f:List PyData->Option PyData) (a:Ds->Rs (List PyData)) (δ:Ds):gF f a δ=(a δ).bind λx=>Rs.cW (f x):=rfl
@[simp]theorem bN (δ:Ds):ah δ=.ok []:=rfl
@[simp]theorem aR (a:Ds->Rs PyData) (r:Ds->Rs (List PyData)) (δ:Ds):ae a r δ=(a δ).bind λx=>(r δ).bind λxs=>.ok (x::xs):=rfl
@[simp]theorem mf (a:Ds->Rs (List PyData)) (δ:Ds):dm a δ=(a δ).bind λds=>.ok (.tuple ds):=rfl
@[simp]theorem oJ (a:Ds->Rs (List PyData)) (δ:Ds):bu a δ=(a δ).bind λds=>.ok (.list ds):=rfl
@[simp]theorem bH (f:Gf) (a:Ds->Rs (List PyData)) (δ:Ds):ai f a δ=(a δ).bind f:=rfl
@[simp]theorem iy (a:Ds->Rs PyData) (δ:Ds):gT a δ=(a δ).bind truth:=rfl
@[simp]theorem ee (b:Bool):truth (.bool b)=.ok b:=rfl
@[simp]theorem fk (a:Ds->Rs Bool) (δ:Ds):eu a δ=(a δ).bind λb=>.ok (!b):=rfl
@[simp]theorem Bd (a b:Ds->Rs Bool) (δ:Ds):AX a b δ=(a δ).bind λx=>if x=true then b δ else .ok false:=rfl
@[simp]theorem kC (a b:Ds->Rs Bool) (δ:Ds):cOr a b δ=(a δ).bind λx=>if x=true then .ok true else b δ:=rfl
@[simp]theorem tj (a b:Ds->Rs PyData) (δ:Ds):rF a b δ=(a δ).bind λx=>(truth x).bind λt=>if t=true then b δ else .ok (.bool false):=rfl
@[simp]theorem Bi (a b:Ds->Rs PyData) (δ:Ds):gOr a b δ=(a δ).bind λx=>(truth x).bind λt=>if t=true then .ok (.bool true) else b δ:=rfl
@[simp]theorem Ax (a:Ds->Rs PyData) (δ:Ds):AO a δ=(a δ).bind λx=>(truth x).bind λt=>.ok (.bool (!t)):=rfl
@[simp]theorem qt (a:Ds->Rs (List PyData)) (δ:Ds):gL a δ=(a δ).bind λds=>.ok (.list ds):=rfl
@[simp]theorem Be (a:Ds->Rs PyData) (δ:Ds):fb a δ=(a δ).bind qa:=rfl
@[simp]theorem A8 (ds:List PyData):qa (.list ds)=.ok ds:=rfl
@[simp]theorem AS (ds:List PyData):qa (.tuple ds)=.ok ds:=rfl
@[simp]theorem mx (a:Ds->Rs (List PyData)) (δ:Ds):jI a δ=(a δ).bind u4:=rfl
@[simp]theorem An (a:Ds->Rs (List PyData)) (δ:Ds):y9 a δ=(a δ).bind Af:=rfl
@[simp]theorem Ap (a:Ds->Rs (List PyData)) (δ:Ds):zZ a δ=(a δ).bind Ag:=rfl
@[simp]theorem zF (a:Ds->Rs (List PyData)) (δ:Ds):gLR a δ=(a δ).bind mR:=rfl
@[simp]theorem Am (a:Ds->Rs (List PyData)) (δ:Ds):yQ a δ=(a δ).bind mM:=rfl
@[simp]theorem Al (ds:List PyData):mM [.list ds]=.ok (pS ds):=rfl
@[simp]theorem Ar (ds:List PyData):mM [.tuple ds]=.ok (pS ds):=rfl
@[simp]theorem zK (f f':PyData->PyData->Option PyData) (a b c:Ds->Rs PyData) (δ:Ds):jl f f' a b c δ=(a δ).bind λx=>(b δ).bind λy=>(Rs.cW (f x y)).bind λz=>(truth z).bind λt=>if t=true then (c δ).bind λw=>Rs.cW (f' y w) else .ok (.bool false):=rfl
@[simp]theorem qm (δ:Ds):a5 δ=.ok none:=rfl
@[simp]theorem Aq (g:Ds->Rs PyData) (δ:Ds):b9 g δ=(g δ).bind sS:=rfl
@[simp]theorem Ao (i:Int):sS (.int i)=.ok (some i):=rfl
@[simp]theorem rN (g:Ds->Rs PyData) (lo hi:Ds->Rs (Option Int)) (δ:Ds):bo g lo hi δ=(g δ).bind λd=>(lo δ).bind λl=>(hi δ).bind λh=>Rs.cW (qM d l h):=rfl
@[simp]theorem AE (x:List PyData) (lo hi:Option Int):qM (.list x) lo hi=some (.list (cutD x lo hi)):=rfl
@[simp]theorem AM (x:List PyData) (lo hi:Option Int):qM (.tuple x) lo hi=some (.tuple (cutD x lo hi)):=rfl
@[simp]theorem bE (a b:Ds->Sr) (δ:Ds):ax a b δ=match a δ with|.nx δ'=>b δ'|r=>r:=rfl
@[simp]theorem vX (δ:Ds):a4 δ=.nx δ:=rfl
@[simp]theorem jM (c:Ds->Rs Bool) (a b:Ds->Sr) (δ:Ds):sIf c a b δ=ofR (c δ) λt=>if t=true then a δ else b δ:=rfl
@[simp]theorem jm (g:Ds->Rs PyData) (δ:Ds):bp g δ=ofR (g δ) .rt:=rfl
@[simp]theorem mq (g:Ds->Rs PyData) (δ:Ds):aU g δ=ofR (g δ) λ_=>.nx δ:=rfl
@[simp]theorem pI (i:Nat) (g:Ds->Rs PyData) (δ:Ds):bh [] i g δ=if i<δ.length then ofR (g δ) λd=>.nx (δ.set i (some d)) else .no:=by unfold bh;rw[ue]
@[simp]theorem sN (C:Addr) (gs:Ds->Rs (List PyData)) (δ:Ds):eI C gs δ=ofR (gs δ) λ_=>.rz C:=rfl
theorem tZ (O:List Nat) (src:Ds->Rs (List PyData)) (tgt:PyData->Ds->Option Ds) (body:Ds->Sr) (δ:Ds):mY O src tgt body δ=ofR (src (mask O δ)) λds=>forL tgt body ds δ:=rfl
@[simp]theorem ja (d:PyData):cy (.rt d)=.ok d:=rfl
@[simp]theorem yM (δ:Ds):cy (.nx δ)=.ok .none:=rfl
@[simp]theorem yK (C:Addr):cy (.rz C)=.rz C:=rfl
@[simp]theorem yN:cy .no=.no:=rfl
@[simp]theorem gq (a b:Int):aT (.int a) (.int b)=some (.int (a+b)):=rfl
@[simp]theorem pP (a b:Int):e6 (.int a) (.int b)=some (.int (a-b)):=rfl
@[simp]theorem wc (a b:Int):cw (.int a) (.int b)=if 0<b then some (.int (a % b)) else none:=rfl
@[simp]theorem we (a b:Int):ki (.int a) (.int b)=if 0<b/\b<1073741824 then some (.int (a / b)) else none:=rfl
@[simp]theorem Bp (a b:Int):dLt (.int a) (.int b)=some (.bool (decide (a<b))):=rfl
@[simp]theorem Bm (a b:Int):dLe (.int a) (.int b)=some (.bool (decide (a<=b))):=rfl
@[simp]theorem yO (a b:Int):dGt (.int a) (.int b)=some (.bool (decide (b<a))):=rfl
@[simp]theorem Bl (a b:Int):dGe (.int a) (.int b)=some (.bool (decide (b<=a))):=rfl
@[simp]theorem zL (a:Int):fQ (.int a)=some (.int (-a)):=rfl
@[simp]theorem Bh (d:PyData):vM d=some (.bool (eV d)):=rfl
@[simp]theorem AD (d:PyData):zX d=some (.bool (!eV d)):=rfl
@[simp]theorem y3:eV .none=true:=rfl
@[simp]theorem yL (i:Int):eV (.int i)=false:=rfl
@[simp]theorem Bg (x:List PyData) (i:Int):dIx (.tuple x) (.int i)=atI x i:=rfl
@[simp]theorem wt (x:List PyData) (i:Int):dIx (.list x) (.int i)=atI x i:=rfl
@[simp]theorem ya (x:List PyData):bR [.tuple x]=some (.int x.length):=rfl
@[simp]theorem si (x:List PyData):bR [.list x]=some (.int x.length):=rfl
@[simp]theorem yn (a b:Int):kL [.int a,.int b]=some (.int (if b<a then b else a)):=rfl
@[simp]theorem Ay (a b:Int):lK [.int a,.int b]=some (.int (if b>a then b else a)):=rfl
@[simp]theorem yu (b:Bool):qS [.bool b]=some (.int (if b then 1 else 0)):=rfl
@[simp]theorem rM (x:List PyData):fR [.list x]=some (.tuple x):=rfl
@[simp]theorem As (x:List PyData):fR [.tuple x]=some (.tuple x):=rfl
@[simp]theorem sO (a b:Int):dEq (.int a) (.int b)=some (.bool (a==b)):=by
 have h:∀i:Int,PySem.SeqAt.shaped (.int i)=true:=λi=>by simp[PySem.SeqAt.shaped,PyData.canLay0,PyData.depth]
 unfold dEq;rw[h,h];simp[aE,PyData.eqv]
@[simp]theorem wA (a b:Int):dNe (.int a) (.int b)=some (.bool (!(a==b))):=by
 have h:∀i:Int,PySem.SeqAt.shaped (.int i)=true:=λi=>by simp[PySem.SeqAt.shaped,PyData.canLay0,PyData.depth]
 unfold dNe;rw[h,h];simp[aE,PyData.eqv]
theorem kr {xs:List α} {i:Int} (h:i=j):atI xs i=xs[j]?:=by
 subst h;unfold atI ixN;by_cases z:(j:Int)<xs.length
 ·rw[if_pos (by omega),if_pos z];simp
 ·rw[if_pos (by omega),if_neg z];simp;omega
@[simp]theorem Bk (xs:List α):atI xs 0=xs[0]?:=kr (j:=0) rfl
@[simp]theorem Bj (xs:List α):atI xs 1=xs[1]?:=kr (j:=1) rfl
@[simp]theorem Bn (xs:List α):atI xs 2=xs[2]?:=kr (j:=2) rfl
@[simp]theorem Bo (xs:List α):atI xs 3=xs[3]?:=kr (j:=3) rfl
theorem lC (xs:List α):atI xs (-1)=xs.getLast?:=by
 unfold atI ixN;rw[if_neg (by decide)];by_cases z:xs=[]
 ·subst z;rfl
 ·have:0<xs.length:=List.length_pos_iff.mpr z;rw[if_pos (by omega),List.getLast?_eq_getElem?];simp only[Cn];congr 1;omega
theorem gQ (g:α->Bool) (xs:List α):jQ [.list (xs.map λd=>.bool (g d))]=some (.bool (xs.all g)):=by
 have a:fK (xs.map λd=>PyData.bool (g d))=some (xs.map g):=by rw[show (xs.map λd=>PyData.bool (g d))=(xs.map g).map PyData.bool by rw[BP];rfl];exact j7 _
 show (fK (xs.map λd=>PyData.bool (g d))).map (λns=>PyData.bool (ns.all id))=_;rw[a,Option.map_some,List.all_map];rfl
theorem comp_map {elt:Ds->Rs PyData} {δ:Ds} {f:PyData->PyData}:∀(ds:List PyData),(∀d∈ds,elt (δ++[some d])=.ok (f d))->eN cf elt bM δ ds=.ok (ds.map f)
 |[],_=>rfl
 |d::r,h=>by unfold eN;simp only[bM,cf,Rs.iu,Rs.ak,if_true,h d By,comp_map r λe a=>h e (Bu _ a),BC]
theorem dD {a:Nat} {src:Ds->Rs (List PyData)} {elt:Ds->Rs PyData} {f:PyData->PyData} (hn:δ.length=a) (b:src δ=.ok ds) (hl:ds.length<=1000000) (h:∀d∈ds,elt (δ++[some d])=.ok (f d)) :
  bY a src cf elt bM δ=.ok (ds.map f):=by
 unfold bY;rw[if_pos hn,b];simp only[Rs.ak,if_pos hl];exact comp_map ds h
theorem kU:∀{ds:List PyData},fm ds=true->∀d∈ds,aE d=true
 |[],_,d,hd=>by cases hd
 |e::r,h,d,hd=>by
  unfold fm at h;obtain⟨h1,h2⟩:=BR.mp h;rcases B8.mp hd with z|z
  ·rw[z];exact h1
  ·exact kU h2 d z
theorem cP (h:aE (.tuple ds)=true):∀d∈ds,aE d=true:=by unfold aE at h;exact kU h
def ar:Gf
 |[d,.int a,.int b]=>if aE d then .ok (.bool (isWhole d a b)) else .no
 |_=>.no
theorem jV {f:PyData->Int->Int->Rs PyData} (h:(match ds with|[c,.int a,.int b]=>f c a b|_=>.no)≠.no):∃c a b,ds=[c,.int a,.int b]/\f c a b≠.no:=by
 rcases ds with _|⟨c,_|⟨a,_|⟨b,_|⟨y,ys⟩⟩⟩⟩
 ·exact absurd rfl h
 ·exact absurd rfl h
 ·first|exact absurd rfl h|(cases a <;> exact absurd rfl h)
 ·skip
  cases a with
  |int a =>
   cases b with
   |int b =>exact⟨_,_,_,rfl,h⟩
   |_=>exact absurd rfl h
  |_=>first|exact absurd rfl h|(cases b <;> exact absurd rfl h)
 ·first|exact absurd rfl h|(cases a <;> first|exact absurd rfl h|(cases b <;> exact absurd rfl h))
abbrev LLq (G:Ds->Sr) (n k:Nat) (g:Gf):Prop:=∀ds,ds.length=n->g ds≠.no->cy (G (ds.map some++List.replicate k none))=g ds
theorem pE (cs:Cs):LLq (gD cs) 3 0 ar:=by
 intro ds hl c;obtain⟨d,a,b,f,e⟩:=jV c;clear c;subst f;have c:=e;clear e;unfold ar
 ·skip
  split at c
  ·rename_i hd;simp only[hd,if_true];cases d with
   |int i=>by_cases h:a<=i <;> simp[gD,fo,hd,mF,tyD,isWhole,h]
   |dict _=>simp[aE]at hd
   |_=>simp[gD,fo,hd,mF,tyD,isWhole]
  ·exact absurd rfl c
def az:Gf
 |[d,.int a,.int b]=>if aE d then .ok (.bool (bc d a b)) else .no
 |_=>.no
theorem oF (cs:Cs):LLq (gG cs) 3 0 az:=by
 intro ds hl c;obtain⟨d,a,b,f,e⟩:=jV c;clear c;subst f;have c:=e;clear e;unfold az
 ·skip
  split at c
  ·rename_i hd;simp only[hd,if_true];cases d with
   |tuple x=>by_cases h:a<=(x.length:Int) <;> simp[gG,fo,hd,mF,tyD,bc,h]
   |dict _=>simp[aE]at hd
   |_=>simp[gG,fo,hd,mF,tyD,bc]
  ·exact absurd rfl c
def eO (g:PyData->Bool):Gf
 |[d]=>if aE d then .ok (.bool (g d)) else .no
 |_=>.no
theorem kE (h:eO g ds≠.no):∃d,ds=[d]/\aE d=true/\eO g ds=.ok (.bool (g d)):=by
 unfold eO at h ⊢;split at h
 ·rename_i d;split at h
  ·rename_i hd;exact⟨d,rfl,hd,by simp[hd]⟩
  ·exact absurd rfl h
 ·exact absurd rfl h
theorem kA {d:PyData} (h:aE d=true):eO g [d]=.ok (.bool (g d)):=by unfold eO;simp[h]
@[simp]theorem qB {d:PyData} (h:aE d=true):az [d,.int a,.int b]=.ok (.bool (bc d a b)):=by unfold az;simp[h]
@[simp]theorem fA {d:PyData} (h:aE d=true):ar [d,.int a,.int b]=.ok (.bool (isWhole d a b)):=by unfold ar;simp[h]
theorem ou {d:PyData} (h:bc d 2 2=true):∃a b,d=.tuple [a,b]:=by
 cases d with
 |tuple ds =>
  simp[bc]at h
  match ds,h with
  |[a,b],_=>exact⟨a,b,rfl⟩
  |[],h=>simp at h
  |[_],h=>simp at h
  |_::_::_::_,h=>simp at h;omega
 |_=>cases h
theorem rg (cs:Cs):LLq (eX cs ar az) 1 0 (eO cz):=by
 intro ds hl c;obtain⟨d,rfl,hd,e⟩:=kE c;rw[e];cases e1:bc d 2 2 with
 |false =>
  have:cz d=false:=by
   unfold cz;split
   ·simp[bc]at e1
   ·rfl
  simp[eX,hd,e1,this]
 |true =>
  obtain⟨a,b,rfl⟩:=ou e1;have ha:=cP hd a (by simp);have f:=cP hd b (by simp);cases e2:isWhole a 1 20 with
  |false=>simp[eX,hd,ha,e1,e2,cz]
  |true =>
   cases b with
   |none=>simp[eX,hd,ha,e1,e2,cz]
   |_=>simp[eX,hd,ha,f,e1,e2,cz,eV]
theorem nA (cs:Cs):LLq (eB cs az (eO cz)) 1 0 (eO cX):=by
 intro ds hl c;obtain⟨d,rfl,hd,e⟩:=kE c;rw[e];cases e1:bc d 1 4 with
 |false =>
  have:cX d=false:=by
   cases d with
   |tuple ds =>simp only[bc,BL,decide_eq_false_iff_not]at e1;simp only[cX,BL,decide_eq_false_iff_not];refine .inl (.inl ?_);omega
   |_=>rfl
  simp[eB,hd,e1,this]
 |true =>
  obtain⟨xs,rfl⟩:∃ds,d=.tuple ds:=by cases d <;> first|exact⟨_,rfl⟩|cases e1
  have hn:1<=xs.length/\xs.length<=4:=by simp only[bc,Bs,decide_eq_true_eq]at e1;omega
  have hc:bY 1 (fb (af 0)) cf (ai (eO cz) (ae (af 1) ah)) bM [some (.tuple xs)]=.ok (xs.map λd=>.bool (cz d)) :=
   dD rfl rfl (by omega) λd h=>by simp[kA (cP hd d h)]
  have k:=gQ cz xs;cases e2:xs.all cz with
  |false=>simp[eB,hd,e1,hc,k,e2,cX]
  |true =>
   have c:xs≠[]:=by intro z;subst z;simp at hn
   have f:xs.getLast?=some (xs.getLast c):=List.getLast?_eq_some_getLast c;have g:=BG.mp e2 _ (List.getLast_mem c);obtain⟨a,b,i⟩:∃a b,xs.getLast c=.tuple [a,b]:=by
    revert g;generalize xs.getLast c=z;intro g;unfold cz at g;split at g
    ·exact⟨_,_,rfl⟩
    ·cases g
   rw[i]at f;have j:hV xs=eV b:=by unfold hV;rw[f];cases b <;> rfl
   simp[eB,hd,e1,hc,k,e2,cX,lC,f,j,hn.1,hn.2]
theorem mj {d:PyData} (h:bc d 4 4=true):∃a b c e,d=.tuple [a,b,c,e]:=by
 cases d with
 |tuple ds =>
  simp[bc]at h
  match ds,h with
  |[a,b,c,e],_=>exact⟨a,b,c,e,rfl⟩
  |[],h=>simp at h
  |[_],h=>simp at h
  |[_,_],h=>simp at h
  |[_,_,_],h=>simp at h
  |_::_::_::_::_::_,h=>simp at h;omega
 |_=>cases h
theorem gR {d:PyData} (h:isWhole d a b=true):∃i,d=.int i/\a<=i/\i<=b:=by
 cases d with
 |int i=>simp[isWhole]at h;exact⟨i,rfl,h⟩
 |_=>cases h
theorem kq {a b c:PyData} (h:isWhole a 2 60=false):bg (.tuple [a,b,c,e])=false:=by
 cases a with
 |int i =>
  cases c with
  |int l =>simp only[isWhole,BL,decide_eq_false_iff_not]at h;simp only[bg,BL,decide_eq_false_iff_not];omega
  |_=>rfl
 |_=>rfl
theorem lh {b c:PyData} {i:Int} (h:isWhole c 0 (if i-1<20 then i-1 else 20)=false):bg (.tuple [.int i,b,c,e])=false:=by
 cases c with
 |int l =>simp only[isWhole,BL,decide_eq_false_iff_not]at h;simp only[bg,BL,decide_eq_false_iff_not];exact .inl (.inl (.inr h))
 |_=>rfl
theorem k4 {b:PyData} {i l:Int} (h1:2<=i/\i<=60) (h2:0<=l/\l<=if i-1<20 then i-1 else 20):bg (.tuple [.int i,b,.int l,e])=(isWhole b 1 (i-l)&&cX e):=by simp[bg,h1.1,h1.2,h2.1,h2.2]
theorem nG (cs:Cs):LLq (cF cs ar (eO cX) az) 1 3 (eO bg):=by
 intro ds hl h;obtain⟨d,rfl,hd,e⟩:=kE h;rw[e];cases e1:bc d 4 4 with
 |false =>
  have:bg d=false:=by
   unfold bg;split
   ·simp[bc]at e1
   ·rfl
  simp[cF,hd,e1,this]
 |true =>
  obtain⟨a,b,c,q,rfl⟩:=mj e1;have ha:=cP hd a (by simp);have g:=cP hd b (by simp);have hc:=cP hd c (by simp);have f:=cP hd q (by simp);cases e2:isWhole a 2 60 with
  |false=>simp[cF,hd,ha,g,hc,f,e1,e2,kq e2]
  |true =>
   obtain⟨i,rfl,i1,i2⟩:=gR e2;cases e3:isWhole c 0 (if i-1<20 then i-1 else 20) with
   |false=>simp[cF,hd,ha,g,hc,f,e1,e2,e3,lh e3]
   |true =>
    obtain⟨l,rfl,l1,l2⟩:=gR e3;have j:=k4 (b:=b) (e:=q) ⟨i1,i2⟩ ⟨l1,l2⟩;cases e4:isWhole b 1 (i-l) with
    |false=>simp[cF,hd,ha,g,hc,f,e1,e2,e3,e4,j]
    |true=>simp[cF,hd,ha,g,hc,f,e1,e2,e3,e4,j,kA f]
def ag (cs:Cs):Gf
 |[d]=>if aE d then (if cx d then .ok d else .rz cs.NoErrands) else .no
 |_=>.no
theorem ql (cs:Cs):LLq (fY cs az (eO bg)) 1 0 (ag cs):=by
 intro ds hl a;obtain⟨d,rfl⟩:∃d,ds=[d]:=by
  match ds,hl with
  |[d],_=>exact⟨d,rfl⟩
 have hd:aE d=true:=by
  unfold ag at a;by_cases z:aE d=true
  ·exact z
  ·simp[z]at a
 have e:ag cs [d]=if cx d then .ok d else .rz cs.NoErrands:=by unfold ag;simp[hd]
 rw[e];cases e1:bc d 1 6 with
 |false =>
  have:cx d=false:=by
   cases d with
   |tuple ds =>simp only[bc,BL,decide_eq_false_iff_not]at e1;simp only[cx,BL,decide_eq_false_iff_not];refine .inl ?_;omega
   |_=>rfl
  simp[fY,hd,e1,this]
 |true =>
  obtain⟨xs,rfl⟩:∃ds,d=.tuple ds:=by cases d <;> first|exact⟨_,rfl⟩|cases e1
  have hn:1<=xs.length/\xs.length<=6:=by simp only[bc,Bs,decide_eq_true_eq]at e1;omega
  have hc:bY 1 (fb (af 0)) cf (ai (eO bg) (ae (af 1) ah)) bM [some (.tuple xs)]=.ok (xs.map λd=>.bool (bg d)) :=
   dD rfl rfl (by omega) λd b=>by simp[kA (cP hd d b)]
  have c:=gQ bg xs;cases e2:xs.all bg with
  |false=>simp[fY,hd,e1,hc,c,e2,cx]
  |true=>simp[fY,hd,e1,hc,c,e2,cx,hn.1,hn.2]
theorem iS {β:Type} {tgt:PyData->Ds->Option Ds} {body:Ds->Sr} (inv:Nat->Ds->Prop):∀(ds:List PyData) (k:Nat),(∀(i:Nat) d δ,ds[i]?=some d->inv (k+i) δ->∃c a,tgt d δ=some c/\body c=.nx a/\inv (k+i+1) a) ->
  ∀δ,inv k δ->∃b,forL tgt body ds δ=.nx b/\inv (k+ds.length) b
 |[],k,_,δ,h=>⟨δ,rfl,h⟩
 |d::r,k,hs,δ,h=>by
  obtain⟨c,a,e1,e2,h2⟩:=hs 0 d δ rfl h;obtain⟨b,e,f⟩:=iS (β:=β) inv r (k+1) (λi x δ g hi=>by have:=hs (i+1) x δ (by simpa using g) (by rw[show k+(i+1)=k+1+i by omega];exact hi);rw[show k+1+i+1=k+(i+1)+1 by omega];exact this) a h2
  exact⟨b,by unfold forL;rw[e1];simp only[e2];exact e,by rw[BH,show k+(r.length+1)=k+1+r.length by omega];exact f⟩
noncomputable def rX:PyData->Option Int
 |.int i=>some i
 |_=>none
def fG:PyData->Int×Option Int
 |.tuple [.int l,t]=>(l,rX t)
 |_=>(0,none)
def deE:PyData->Er
 |.tuple [.int e,.int d,.int l,.tuple ps]=>⟨e,d,l,ps.map fG⟩
 |_=>⟨0,0,0,[]⟩
theorem rZ (e:Int) (d:Int) (l:Int) (ps:List PyData):deE (.tuple [.int e,.int d,.int l,.tuple ps])=⟨e,d,l,ps.map fG⟩:=rfl
theorem oz (o:Option Int):rX (kX o)=o:=by cases o <;> rfl
theorem sX (p:Int×Option Int):fG (bP p)=p:=by obtain⟨l,t⟩:=p;simp[bP,fG,oz]
theorem wd (e:Er):deE e.d=e:=by
 obtain⟨a,b,c,ps⟩:=e;simp[Er.d,rZ,BP]
 conv=>rhs;rw[<-CF ps]
 exact BV λp _=>sX p
def deI:PyData->Int
 |.int i=>i
 |_=>0
noncomputable def bw (ns:List Int):PyData:=.tuple (ns.map .int)
def dP (n:Nat):PyData->Bool
 |.tuple ds=>decide (ds.length=n)&&ds.all (λd=>isWhole d 0 ((n:Int)-1))&&decide (ds.map deI).Nodup
 |_=>false
structure ky (n:Nat) (rs:List Int):Prop where
 len:rs.length=n
 rng:∀r∈rs,0<=r/\r<n
 nd:rs.Nodup
theorem oY {rs:List Int} (h:ky n rs):dP n (bw rs)=true:=by
 have e:(rs.map PyData.int).map deI=rs:=by
  rw[BP];conv=>rhs;rw[<-CF rs]
  exact BV λ_ _=>rfl
 unfold dP bw;simp only[B3,h.len,decide_true,Bool.true_and,e,h.nd,Bool.and_true];rw[BG];intro d hd;obtain⟨r,a,rfl⟩:=Bz.mp hd;have:=h.rng r a;simp[isWhole,this.1];omega
theorem jh:∀(l acc:List Int),acc.Nodup->((l.foldl PyProof.Rows.step_dedup acc).length<=acc.length+l.length)/\((l.foldl PyProof.Rows.step_dedup acc).length=acc.length+l.length↔(acc++l).Nodup)
 |[],acc,h=>by simpa using h
 |x::r,acc,h=>by
  rw[List.foldl_cons];by_cases z:acc.any (·==x)=true
  ·have e:PyProof.Rows.step_dedup acc x=acc:=by unfold PyProof.Rows.step_dedup;rw[if_pos z]
   rw[e];have:=jh r acc h;refine⟨by rw[BH];omega,λq=>?_,λq=>?_⟩
   ·rw[BH]at q;omega
   ·exfalso;obtain⟨y,c,f⟩:=List.any_eq_true.mp z;have:y=x:=by simpa using f
    subst this;rw[List.nodup_append]at q;exact q.2.2 y c y By rfl
  ·have e:PyProof.Rows.step_dedup acc x=acc++[x]:=by unfold PyProof.Rows.step_dedup;rw[if_neg z]
   have g:x∉acc:=λq=>z (List.any_eq_true.mpr ⟨x,q,by simp⟩)
   have hn:(acc++[x]).Nodup:=by rw[List.nodup_append];exact⟨h,by simp,λa ha b i=>by rw[B7.mp i];rintro rfl;exact g ha⟩
   rw[e];have:=jh r (acc++[x]) hn;rw[Bt,C0,CB]at this;refine⟨by rw[BH];omega,?_⟩;rw[BH,show acc.length+(r.length+1)=acc.length+1+r.length by omega];exact this.2
theorem o1 (ns:List Int):((seen ns ns.length).length:Int)<ns.length↔¬ ns.Nodup:=by
 have e:(List.range ns.length).map (λi=>ns.getD i 0)=ns:=by
  apply List.ext_getElem?;intro i;rw[BK];by_cases h:i<ns.length
  ·rw[List.getElem?_range h,B2 h];simp[BD,B2 h]
  ·rw[List.getElem?_eq_none (by simpa using h),List.getElem?_eq_none (by simpa using h)];rfl
 have:=jh ns [] Cy;unfold seen PyProof.Rows.firstMet;rw[e];simp only[List.length_nil,Cv,C6]at this;constructor
 ·intro h q;have:=this.2.mpr q;omega
 ·intro h;have h1:=this.1;have h2:¬ (List.foldl PyProof.Rows.step_dedup [] ns).length=ns.length:=λq=>h (this.2.mp q)
  omega
def ao (cs:Cs):Gf
 |[.tuple es,r]=>if aE r&&decide (es.length<=100) then (if dP es.length r then .ok r else .rz cs.NoRanks) else .no
 |_=>.no
theorem rm {f:List PyData->PyData->Rs PyData} (h:(match ds with|[.tuple a,b]=>f a b|_=>.no)≠.no):∃a b,ds=[.tuple a,b]/\f a b≠.no:=by
 rcases ds with _|⟨a,_|⟨b,_|⟨y,ys⟩⟩⟩
 ·exact absurd rfl h
 ·first|exact absurd rfl h|(cases a <;> exact absurd rfl h)
 ·skip
  cases a with
  |tuple a =>exact⟨_,_,rfl,h⟩
  |_=>exact absurd rfl h
 ·first|exact absurd rfl h|(cases a <;> exact absurd rfl h)
theorem jR (cs:Cs):LLq (bT cs az ar) 2 1 (ao cs):=by
 intro ds hl a;obtain⟨es,r,k,j⟩:=rm a;clear a;subst k;have a:=j;clear j;unfold ao
 ·skip
  split at a
  ·rename_i c;simp only[c,if_true];rw[Bs,decide_eq_true_eq]at c;obtain⟨hd,h100⟩:=c;cases e1:bc r es.length es.length with
   |false =>
    have:dP es.length r=false:=by
     cases r with
     |tuple xs =>
      have:xs.length≠es.length:=λq=>by simp[bc,q]at e1
      simp[dP,this]
     |_=>rfl
    simp[bT,hd,e1,this]
   |true =>
    obtain⟨xs,rfl⟩:∃ds,r=.tuple ds:=by cases r <;> first|exact⟨_,rfl⟩|cases e1
    have hn:xs.length=es.length:=by simp only[bc,Bs,decide_eq_true_eq]at e1;omega
    have hc:bY 3 (fb (af 1)) cf (ai ar (ae (af 3) (ae (gC (.int 0)) (ae (af 2) ah)))) bM [some (.tuple es),some (.tuple xs),some (.int ((es.length:Int)-1))]=.ok (xs.map λd=>.bool (isWhole d 0 ((es.length:Int)-1))) :=
     dD rfl rfl (by omega) λd e=>by simp[cP hd d e]
    have f:=gQ (λd=>isWhole d 0 ((es.length:Int)-1)) xs;cases e2:xs.all (λd=>isWhole d 0 ((es.length:Int)-1)) with
    |false=>simp[bT,hd,e1,hc,f,e2,dP]
    |true =>
     have l:=BG.mp e2;have m:xs=(xs.map deI).map PyData.int:=by
      rw[BP]
      conv=>lhs;rw[<-CF xs]
      refine BV λp n=>?_
      obtain⟨i,rfl,_⟩:=gR (l p n);rfl
     have g:iX [.tuple xs]=some (.int (seen (xs.map deI) (xs.map deI).length).length):=by
      unfold iX
      conv=>lhs;rw[m]
      simp only[gm,Cn];rw[if_pos (by simp;omega)]
     have b:=o1 (xs.map deI);have h:(xs.map deI).length=es.length:=by rw[B3];exact hn
     rw[h]at g b;by_cases hnd:(xs.map deI).Nodup
     ·have h2:¬ (seen (xs.map deI) es.length).length<es.length:=λq=>b.mp (by omega) hnd
      simp[bT,hd,e1,hc,f,e2,g,hn,h2,dP,hnd]
     ·have h2:(seen (xs.map deI) es.length).length<es.length:=by have:=b.mpr hnd;omega
      simp[bT,hd,e1,hc,f,e2,g,hn,h2,dP,hnd]
  ·exact absurd rfl a
def gP:PyData->Bool
 |.tuple [.int l,b]=>decide (0<=l)&&decide (l<=1000000)&&(match b with|.none=>true|.int t=>decide (0<=t)&&decide (t<=3)|_=>false)
 |_=>false
def qN:PyData->Bool
 |.tuple [.int e,.int _,.int l,.tuple ps]=>decide (1<=e)&&decide (e<1073741824)&&decide (-1000000000<=l)&&decide (l<=1000000000)&&decide (ps.length<=1000)&&ps.all gP
 |_=>false
structure Er.Sh (e:Er):Prop where
 e1:1<=e.every
 e2:e.every<1073741824
 l1:-1000000000<=e.late
 l2:e.late<=1000000000
 pn:e.parts.length<=1000
 pl:∀p∈e.parts,0<=p.1/\p.1<=1000000/\∀t,p.2=some t->0<=t/\t<=3
theorem lZ {d:PyData} (h:gP d=true):bP (fG d)=d/\0<=(fG d).1/\(fG d).1<=1000000/\∀t,(fG d).2=some t->0<=t/\t<=3:=by
 unfold gP at h;split at h
 ·rename_i l b;simp only[Bs,decide_eq_true_eq]at h;obtain⟨⟨h1,h2⟩,a⟩:=h;cases b with
  |none=>exact⟨rfl,h1,h2,λt q=>by cases q⟩
  |int t =>simp only[Bs,decide_eq_true_eq]at a;exact⟨rfl,h1,h2,λt q=>by cases q;exact a⟩
  |_=>cases a
 ·cases h
theorem v9 {d:PyData} (h:qN d=true):(deE d).d=d/\(deE d).Sh:=by
 unfold qN at h;split at h
 ·rename_i e du l ps;simp only[Bs,decide_eq_true_eq]at h;obtain⟨⟨⟨⟨⟨h1,h2⟩,a⟩,b⟩,g⟩,i⟩:=h;have f:=BG.mp i;have j:ps.map (bP∘fG)=ps:=by
   conv=>rhs;rw[<-CF ps]
   exact BV λp c=>(lZ (f p c)).1
  refine⟨by simp only[rZ,Er.d,BP,j],h1,h2,a,b,by simpa[rZ] using g,λp c=>?_⟩;obtain⟨q,k,rfl⟩:=Bz.mp (show p∈ps.map fG from c);exact (lZ (f q k)).2
 ·cases h
theorem p7 {e:Er} (h:e.Sh):qN e.d=true:=by
 unfold qN Er.d;simp only[h.e1,h.e2,h.l1,h.l2,decide_true,Bool.true_and,B3,h.pn];rw[BG];intro d hd;obtain⟨p,f,rfl⟩:=Bz.mp hd;obtain⟨a,b,c⟩:=h.pl p f;obtain⟨l,t⟩:=p;cases t with
 |none=>simp at a b;simp[gP,bP,kX,a,b]
 |some t=>have:=c t rfl;simp at a b;simp[gP,bP,kX,a,b,this.1,this.2]
theorem Er.Ok.sh {e:Er} (h:e.Ok):e.Sh:=⟨by have:=h.e1;omega,by have:=h.e2;omega,by have:=h.l1;omega,by have:=h.l2;omega,by have:=h.p2;omega,λp f=>by obtain⟨a,b,c⟩:=h.pl p f;exact⟨by omega,by omega,c⟩⟩
noncomputable def er0:Er:=⟨1,1,0,[]⟩
def nI (es:List Er) (n:Int):Er:=es.getD n.toNat er0
theorem rT {es:List Er} {n:Int} (h0:0<=n) (h1:n<es.length):es[n.toNat]?=some (nI es n):=by unfold nI;rw[BD,B2 (by omega)];rfl
theorem vi {es:List Er} {n:Int} (a:0<=n) (h1:n<es.length):atI (es.map Er.d) n=some (nI es n).d:=by rw[kr (j:=n.toNat) (by omega),BK,rT a h1];rfl
theorem ye (p:Int×Option Int):dIx (bP p) (.int 0)=some (.int p.1):=rfl
@[simp]theorem A7 (go ga:Ds->Rs PyData) (δ:Ds):AW go ga δ=(go δ).bind λd=>match d with|.tuple xs=>(ga δ).bind λy=>Rs.cW (tE xs y)|_=>.no:=rfl
theorem tK:cutD xs (some (k:Int)) none=xs.drop k:=by
 unfold cutD;have e1:HT.sIx xs.length 0 (some (k:Int))=min k xs.length:=HT.pW _ _ _;have e2:HT.sIx xs.length xs.length none=xs.length:=rfl;rw[e1,e2];by_cases h:k<=xs.length
 ·rw[Nat.min_eq_left h];exact List.take_of_length_le (by simp)
 ·rw[Nat.min_eq_right (by omega),List.drop_of_length_le (B5 _),List.drop_of_length_le (by omega)];simp
theorem xi:cutD xs none (some (k:Int))=xs.take k:=by unfold cutD;have e1:HT.sIx xs.length 0 none=0:=rfl;have e2:HT.sIx xs.length xs.length (some (k:Int))=min k xs.length:=HT.pW _ _ _;rw[e1,e2];simp
theorem tO (h1:-(2 ^ 64)<a) (h2:a<2 ^ 64):gI (.int a) (.int b)=some (.int (a*b)):=by show (if _ then _ else _)=_;rw[if_pos (.inl ⟨h1,h2⟩)]
def dJ:PyData->Option (List Int)
 |.dict [(.none,.list l)]=>ia l
 |_=>none
theorem d7 (ns:List Int):dJ (aq ns)=some ns:=gm ns
def aj:Gf
 |[s,.int k,.int many]=>(match dJ s with
  |some ns=>if 0<=k/\0<many then .ok (.int (mixed ns k many)) else .no
  |none=>.no)
 |_=>.no
theorem bI {k:Int} (h1:0<=k) (h2:0<many):aj [aq ns,.int k,.int many]=.ok (.int (mixed ns k many)):=by unfold aj;simp[d7,h1,h2]
theorem je (O:List Nat) (i:Nat) (g:Ds->Rs PyData) (δ:Ds):bh O i g δ=if i<δ.length then ofR (g (mask O δ)) λd=>.nx (δ.set i (some d)) else .no:=rfl
def bA:Gf
 |[s,.int a,.int top,.bool tools]=>(match dJ s with
  |some ns=>if 0<=a/\0<top/\top<=58 then .ok (mkE ns a top tools).d else .no
  |none=>.no)
 |_=>.no
theorem fV {top:Int} {b:Bool} (h1:0<=a) (h2:0<top) (c:top<=58):bA [aq ns,.int a,.int top,.bool b]=.ok (mkE ns a top b).d:=by unfold bA;simp[d7,h1,h2,c]
theorem qj (o:Option Int):eZ (kX o)=true:=by cases o <;> (unfold kX eZ;rfl)
theorem oE (p:Int×Option Int):eZ (bP p)=true:=by unfold bP eZ iN;rw[show eZ (.int p.1)=true by unfold eZ;rfl];unfold iN;rw[qj];unfold iN;rfl
theorem sj {i:Int} (h0:0<=i) (h1:i<5):atI [PyData.int 0,PyData.int 1,PyData.int 1,PyData.int 0,PyData.none] i=some (kX (iB i)):=by
 have:i=0\/i=1\/i=2\/i=3\/i=4:=by omega
 rcases this with rfl|rfl|rfl|rfl|rfl <;> rfl
theorem nh (ns:List Int) (a top:Int) (b:Bool) (e la f:PyData) (ha:0<=a) (L:List PyData) (hL:L.length<1000) (i:Nat) (x8 g:Option PyData) :
   ax (bh [7] 9 (ai aj (ae (af 0) (ae (g2 aT (g2 aT (af 1) (gC (.int 4))) (af 8)) (ae (gC (.int 40)) ah)))))
   (ax (pe [7] 7 (dm (ae (g2 aT (gC (.int 1)) (g2 cw (af 9) (gC (.int 4)))) (ae (g2 dIx (bu (ae (gC (.int 0)) (ae (gC (.int 1)) (ae (gC (.int 1)) (ae (gC (.int 0)) (ae (gC .none) ah)))))) (g2 cw (g2 ki (af 9) (gC (.int 4))) (gC (.int 5)))) ah))))
   (sIf (eu (gT (af 3))) (qV 7 (g1 fQ (gC (.int 1))) (dm (ae (g2 dIx (g2 dIx (af 7) (g1 fQ (gC (.int 1)))) (gC (.int 0))) (ae (gC .none) ah)))) a4))
     [some (aq ns),some (.int a),some (.int top),some (.bool b),some e,some la,some f,some (.list L),some (.int (0+(i:Int))),g]
  =.nx [some (aq ns),some (.int a),some (.int top),some (.bool b),some e,some la,some f,some (.list (L++[bP (dq ns (a+4+(i:Int)) b)])),some (.int (0+(i:Int))),some (.int (mixed ns (a+4+(0+(i:Int))) 40))]:=by
 have hm:=bI (ns:=ns) (k:=a+4+(0+(i:Int))) (many:=40) (by omega) (by decide);have m0:=bK ns (a+4+(0+(i:Int))) (many:=40) (by decide);have m1:=bV ns (a+4+(0+(i:Int))) (many:=40) (by decide);have j:a+4+(0+(i:Int))=a+4+(i:Int):=by omega
 generalize hc:mixed ns (a+4+(0+(i:Int))) 40=c at *;have l:0<=c / 4 % 5:=C7 _ (by decide);have m:c / 4 % 5<5:=BX _ (by decide);have n:=sj l m;have h:dq ns (a+4+(i:Int)) b=(1+c % 4,if b then iB (c / 4 % 5) else none):=by unfold dq;rw[<-j,hc]
 have o:bh [7] 9 (ai aj (ae (af 0) (ae (g2 aT (g2 aT (af 1) (gC (.int 4))) (af 8)) (ae (gC (.int 40)) ah)))) [some (aq ns),some (.int a),some (.int top),some (.bool b),some e,some la,some f,some (.list L),some (.int (0+(i:Int))),g]
    =.nx [some (aq ns),some (.int a),some (.int top),some (.bool b),some e,some la,some f,some (.list L),some (.int (0+(i:Int))),some (.int c)]:=by
   rw[je,if_pos (by simp)];simp only[bH,aR,bN,ib,a6 (show 0∉[7] by decide),a6 (show 1∉[7] by decide),a6 (show 8∉[7] by decide),bt,bq,ix,Rs.ak,gq,Rs.aF,hm,bB];rfl
 have s2:pe [7] 7 (dm (ae (g2 aT (gC (.int 1)) (g2 cw (af 9) (gC (.int 4)))) (ae (g2 dIx (bu (ae (gC (.int 0)) (ae (gC (.int 1)) (ae (gC (.int 1)) (ae (gC (.int 0)) (ae (gC .none) ah)))))) (g2 cw (g2 ki (af 9) (gC (.int 4))) (gC (.int 5)))) ah)))
     [some (aq ns),some (.int a),some (.int top),some (.bool b),some e,some la,some f,some (.list L),some (.int (0+(i:Int))),some (.int c)]
    =.nx [some (aq ns),some (.int a),some (.int top),some (.bool b),some e,some la,some f,some (.list (L++[bP (1+c % 4,iB (c / 4 % 5))])),some (.int (0+(i:Int))),some (.int c)]:=by
   unfold pe;simp only[Cj,Ck];simp only[mf,oJ,aR,bN,ib,a6 (show 9∉[7] by decide),bt,bq,ix,Rs.ak,gq,Rs.aF,wc,we,if_pos (show (0:Int)<4 by decide),if_pos (show (0:Int)<5 by decide),if_pos (show (0:Int)<4/\(4:Int)<1073741824 by decide),wt,n,bB,if_pos (show L.length<1000000 by omega)];rfl
 rw[bE,o];simp only;rw[bE,s2];simp only;cases b with
 |true =>rw[h];simp
 |false =>
   rw[h];have hl:atI (L++[bP (1+c % 4,iB (c / 4 % 5))]) (-1)=some (bP (1+c % 4,iB (c / 4 % 5))):=by rw[lC];simp
   have p:ixN (L++[bP (1+c % 4,iB (c / 4 % 5))]).length (-1)=some L.length:=by unfold ixN;rw[if_neg (by decide),Bt,C0,if_pos (by omega)];congr 1;omega
   have q:(L++[bP (1+c % 4,iB (c / 4 % 5))]).set L.length (.tuple [.int (1+c % 4),.none])=L++[bP (1+c % 4,none)]:=by rw[Cp _ _ (B5 _)];simp;rfl
   have r:eZ (.tuple [.int (1+c % 4),.none])=true:=oE (1+c % 4,none);rw[jM];simp only[fk,iy,bt,bq,Rs.ak,ee,bB,Bool.not_false,if_true];unfold qV;simp only[Cj,Ck,mf,aR,bN,ib,oP,bt,bq,ix,Rs.ak,zL,Rs.aF,wt,hl,ye,bB,p,r,if_true,q];rfl
theorem mE {j:Int} (h0:0<=j) (h1:j<1000000):u4 [.int j]=.ok (bQ 0 j.toNat):=by show (if _ then _ else _)=_;rw[if_pos (by omega)]
theorem iP {lo:Int} {d:PyData} (h:(bQ lo n)[i]?=some d):i<n/\d=.int (lo+(i:Int)):=by have hi:=(BI.mp h).1;rw[dB]at hi;unfold bQ at h;rw[BK,List.getElem?_range hi]at h;exact⟨hi,(Option.some.inj h).symm⟩
theorem kW (n:Nat) (g:Nat->α):(List.range (n+1)).map g=(List.range n).map g++[g n]:=by rw[List.range_succ,Cu];rfl
theorem rn {f:PyData->Int->Int->Bool->Rs PyData} (h:(match ds with|[e,.int a,.int b,.bool c]=>f e a b c|_=>.no)≠.no):∃e a b c,ds=[e,.int a,.int b,.bool c]/\f e a b c≠.no:=by
 rcases ds with _|⟨e,_|⟨a,_|⟨b,_|⟨c,_|⟨y,ys⟩⟩⟩⟩⟩
 ·exact absurd rfl h
 ·exact absurd rfl h
 ·first|exact absurd rfl h|(cases a <;> exact absurd rfl h)
 ·first|exact absurd rfl h|(cases a <;> first|exact absurd rfl h|(cases b <;> exact absurd rfl h))
 ·skip
  cases a with
  |int a =>
   cases b with
   |int b =>
    cases c with
    |bool c =>exact⟨_,_,_,_,rfl,h⟩
    |_=>exact absurd rfl h
   |_=>first|exact absurd rfl h|(cases c <;> exact absurd rfl h)
  |_=>first|exact absurd rfl h|(cases b <;> first|exact absurd rfl h|(cases c <;> exact absurd rfl h))
 ·first|exact absurd rfl h|(cases a <;> first|exact absurd rfl h|(cases b <;> first|exact absurd rfl h|(cases c <;> exact absurd rfl h)))
theorem mw (cs:Cs):LLq (eS cs aj) 4 6 bA:=by
 intro ds hl c;obtain⟨s,a,top,b,q,p⟩:=rn c;clear c;subst q;have c:=p;clear p
 ·skip
  split at c
  ·rename_i ns h;have es:s=aq ns:=by
    unfold dJ at h;split at h
    ·rename_i l;rw[dX h];rfl
    ·cases h
   subst es;split at c
   ·rename_i hc;obtain⟨ha,j,m⟩:=hc;rw[fV ha j m];show cy (eS cs aj [some (aq ns),some (.int a),some (.int top),some (.bool b),none,none,none,none,none,none])=_;have hm:∀k many:Int,0<=k->0<many->aj [aq ns,.int k,.int many]=.ok (.int (mixed ns k many)):=λk many h1 h2=>bI h1 h2
    have a1:=bK ns a j;have lb:=nj ns a (3+mixed ns a top) (by omega);have b1:=bK ns (a+1) (many:=4) (by decide);have b2:=bV ns (a+1) (many:=4) (by decide);have n1:=bK ns (a+3) (many:=3) (by decide);have n2:=bV ns (a+3) (many:=3) (by decide);have c1:=bK ns (a+6) (many:=3) (by decide);have c2:=bV ns (a+6) (many:=3) (by decide)
    -- every
    have r:bh [7] 4 (g2 aT (gC (.int 3)) (ai aj (ae (af 0) (ae (af 1) (ae (af 2) ah))))) [some (aq ns),some (.int a),some (.int top),some (.bool b),none,none,none,none,none,none]
      =.nx [some (aq ns),some (.int a),some (.int top),some (.bool b),some (.int (3+mixed ns a top)),none,none,none,none,none]:=by
     rw[je,if_pos (by simp)];simp only[bH,aR,bN,ib,a6 (show 0∉[7] by decide),a6 (show 1∉[7] by decide),a6 (show 2∉[7] by decide),bt,bq,ix,Rs.ak,hm a top ha j,gq,Rs.aF,bB];rfl
    generalize hev:3+mixed ns a top=ev at *;have evp:3<=ev:=by omega
    have s2:bh [7] 5 (g2 gI (ai aj (ae (af 0) (ae (g2 aT (af 1) (gC (.int 1))) (ae (gC (.int 4)) ah)))) (gF qS (ae (g2 dEq (ai aj (ae (af 0) (ae (g2 aT (af 1) (gC (.int 2))) (ae (gC (.int 3)) ah)))) (gC (.int 0))) ah))) [some (aq ns),some (.int a),some (.int top),some (.bool b),some (.int ev),none,none,none,none,none]
      =.nx [some (aq ns),some (.int a),some (.int top),some (.bool b),some (.int ev),some (.int (mixed ns (a+1) 4*(if mixed ns (a+2) 3=0 then 1 else 0))),none,none,none,none]:=by
     rw[je,if_pos (by simp)];simp only[bH,aR,bN,ib,kM,a6 (show 0∉[7] by decide),a6 (show 1∉[7] by decide),bt,bq,ix,Rs.ak,gq,Rs.aF,hm (a+1) 4 (by omega) (by decide),hm (a+2) 3 (by omega) (by decide),sO,yu];rw[tO (by omega) (by omega)];simp only[Rs.aF,bB,beq_iff_eq];rfl
    have t:bh [7] 5 (gF kL (ae (af 5) (ae (g2 e6 (af 4) (gC (.int 1))) ah))) [some (aq ns),some (.int a),some (.int top),some (.bool b),some (.int ev),some (.int (mixed ns (a+1) 4*(if mixed ns (a+2) 3=0 then 1 else 0))),none,none,none,none]
      =.nx [some (aq ns),some (.int a),some (.int top),some (.bool b),some (.int ev),some (.int (fE ns a ev)),none,none,none,none]:=by
     rw[je,if_pos (by simp)];simp only[kM,aR,bN,ib,a6 (show 4∉[7] by decide),a6 (show 5∉[7] by decide),bt,bq,ix,Rs.ak,pP,Rs.aF,yn,bB];rfl
    generalize hla:fE ns a ev=la at *;have u:bh [7] 6 (g2 e6 (af 4) (af 5)) [some (aq ns),some (.int a),some (.int top),some (.bool b),some (.int ev),some (.int la),none,none,none,none]
      =.nx [some (aq ns),some (.int a),some (.int top),some (.bool b),some (.int ev),some (.int la),some (.int (ev-la)),none,none,none]:=by
     rw[je,if_pos (by simp)];simp only[ib,a6 (show 4∉[7] by decide),a6 (show 5∉[7] by decide),bt,bq,Rs.ak,pP,Rs.aF,bB];rfl
    have v:sIf (gT (g2 dEq (ai aj (ae (af 0) (ae (g2 aT (af 1) (gC (.int 1))) (ae (gC (.int 3)) ah)))) (gC (.int 0)))) (bh [7] 6 (g2 e6 (af 6) (ai aj (ae (af 0) (ae (g2 aT (af 1) (gC (.int 2))) (ae (af 6) ah)))))) a4
        [some (aq ns),some (.int a),some (.int top),some (.bool b),some (.int ev),some (.int la),some (.int (ev-la)),none,none,none]
      =.nx [some (aq ns),some (.int a),some (.int top),some (.bool b),some (.int ev),some (.int la),some (.int (jD ns a (ev-la))),none,none,none]:=by
     rw[jM];simp only[iy,ib,bH,aR,bN,bt,bq,ix,Rs.ak,gq,Rs.aF,hm (a+1) 3 (by omega) (by decide),sO,ee,bB];by_cases z:mixed ns (a+1) 3=0
     · rw[if_pos (by simp[z]),je,if_pos (by simp)];simp only[bH,aR,bN,ib,a6 (show 0∉[7] by decide),a6 (show 1∉[7] by decide),a6 (show 6∉[7] by decide),bt,bq,ix,Rs.ak,gq,Rs.aF,hm (a+2) (ev-la) (by omega) (by omega),pP,bB];unfold jD;rw[if_pos z];rfl
     · rw[if_neg (by simp[z])];unfold jD;rw[if_neg z];rfl
    generalize hdu:jD ns a (ev-la)=du at *;have w:k8 [7] 7 ah [some (aq ns),some (.int a),some (.int top),some (.bool b),some (.int ev),some (.int la),some (.int du),none,none,none]
      =.nx [some (aq ns),some (.int a),some (.int top),some (.bool b),some (.int ev),some (.int la),some (.int du),some (.list []),none,none]:=rfl
    have src:jI (ae (ai aj (ae (af 0) (ae (g2 aT (af 1) (gC (.int 3))) (ae (gC (.int 3)) ah)))) ah) (mask [7] [some (aq ns),some (.int a),some (.int top),some (.bool b),some (.int ev),some (.int la),some (.int du),some (.list []),none,none])=.ok (bQ 0 (mixed ns (a+3) 3).toNat):=by simp only[mx,bH,aR,bN,ib,a6 (show 0∉[7] by decide),a6 (show 1∉[7] by decide),bt,bq,ix,Rs.ak,gq,Rs.aF,hm (a+3) 3 (by omega) (by decide)];exact mE n1 (by omega)
    obtain⟨δ',e,x8,f,n⟩:=iS (β:=Unit) (tgt:=dS 8) (body:=ax (bh [7] 9 (ai aj (ae (af 0) (ae (g2 aT (g2 aT (af 1) (gC (.int 4))) (af 8)) (ae (gC (.int 40)) ah)))))
  (ax (pe [7] 7 (dm (ae (g2 aT (gC (.int 1)) (g2 cw (af 9) (gC (.int 4)))) (ae (g2 dIx (bu (ae (gC (.int 0)) (ae (gC (.int 1)) (ae (gC (.int 1)) (ae (gC (.int 0)) (ae (gC .none) ah)))))) (g2 cw (g2 ki (af 9) (gC (.int 4))) (gC (.int 5)))) ah))))
  (sIf (eu (gT (af 3))) (qV 7 (g1 fQ (gC (.int 1))) (dm (ae (g2 dIx (g2 dIx (af 7) (g1 fQ (gC (.int 1)))) (gC (.int 0))) (ae (gC .none) ah)))) a4)))
     (λi δ=>∃x8 f,δ=[some (aq ns),some (.int a),some (.int top),some (.bool b),some (.int ev),some (.int la),some (.int du),some (.list ((List.range i).map λ(k:Nat)=>bP (dq ns (a+4+(k:Int)) b))),x8,f])
     (bQ 0 (mixed ns (a+3) 3).toNat) 0 (λi d δ hi o=>by obtain⟨x8,f,x⟩:=o;subst x;rw[Cv]at *;obtain⟨hil,rfl⟩:=iP hi;refine⟨[some (aq ns),some (.int a),some (.int top),some (.bool b),some (.int ev),some (.int la),some (.int du),some (.list ((List.range i).map λ(k:Nat)=>bP (dq ns (a+4+(k:Int)) b))),some (.int (0+(i:Int))),f],_,rfl,nh ns a top b (.int ev) (.int la) (.int du) ha _ (by simp;omega) i none f,some (.int (0+(i:Int))),some (.int (mixed ns (a+4+(0+(i:Int))) 40)),?_⟩;rw[kW]) [some (aq ns),some (.int a),some (.int top),some (.bool b),some (.int ev),some (.int la),some (.int du),some (.list []),none,none] ⟨none,none,rfl⟩
    subst n;rw[Cv,dB]at e;have hd:(mkE ns a top b).d=.tuple [.int ev,.int du,.int la,.tuple (((List.range (mixed ns (a+3) 3).toNat).map λ(k:Nat)=>bP (dq ns (a+4+(k:Int)) b))++[bP (1+mixed ns (a+6) 3,none)])]:=by simp only[mkE,Er.d,Cu,BP,hev,hla,hdu];rfl
    rw[hd];simp only[eS];rw[bE,r];simp only;rw[bE,s2];simp only;rw[bE,t];simp only;rw[bE,u];simp only;rw[bE,v];simp only;rw[bE,w];simp only;rw[bE,tZ,src,bB,e];simp only;simp only[jm,mf,oJ,aR,bN,ib,kM,bH,bt,bq,ix,Rs.ak,gq,Rs.aF,hm (a+6) 3 (by omega) (by decide)];have g:aT (.list ((List.range (mixed ns (a+3) 3).toNat).map λ(k:Nat)=>bP (dq ns (a+4+(k:Int)) b))) (.list [.tuple [.int (1+mixed ns (a+6) 3),.none]])=some (.list (((List.range (mixed ns (a+3) 3).toNat).map λ(k:Nat)=>bP (dq ns (a+4+(k:Int)) b))++[bP (1+mixed ns (a+6) 3,none)])):=by show (if _ then _ else _)=_;rw[if_pos (by simp;omega)];rfl
    rw[g];simp
   ·exact absurd rfl c
  ·exact absurd rfl c
def aW:Gf
 |[s,.int a,.int most,.int top,.bool tools]=>(match dJ s with
  |some ns=>if 0<=a/\0<most/\most<=6/\0<top/\top<=58 then .ok (av (jT ns a most top tools)) else .no
  |none=>.no)
 |_=>.no
theorem fD {most top:Int} {b:Bool} (h1:0<=a) (h2:0<most) (c:most<=6) (e:0<top) (f:top<=58):aW [aq ns,.int a,.int most,.int top,.bool b]=.ok (av (jT ns a most top b)):=by unfold aW;simp[d7,h1,h2,c,e,f]
theorem fB {s:PyData} (a:dJ s=some ns):s=aq ns:=by
 unfold dJ at a;split at a
 ·rename_i l;rw[dX a];rfl
 ·cases a
theorem qX {f:PyData->Int->Int->Int->Bool->Rs PyData} (h:(match ds with|[g,.int a,.int b,.int c,.bool e]=>f g a b c e|_=>.no)≠.no):∃g a b c e,ds=[g,.int a,.int b,.int c,.bool e]/\f g a b c e≠.no:=by
 rcases ds with _|⟨g,_|⟨a,_|⟨b,_|⟨c,_|⟨e,_|⟨y,ys⟩⟩⟩⟩⟩⟩
 ·exact absurd rfl h
 ·exact absurd rfl h
 ·first|exact absurd rfl h|(cases a <;> exact absurd rfl h)
 ·first|exact absurd rfl h|(cases a <;> first|exact absurd rfl h|(cases b <;> exact absurd rfl h))
 ·first|exact absurd rfl h|(cases a <;> first|exact absurd rfl h|(cases b <;> first|exact absurd rfl h|(cases c <;> exact absurd rfl h)))
 ·skip
  cases a with
  |int a =>
   cases b with
   |int b =>
    cases c with
    |int c =>
     cases e with
     |bool e =>exact⟨_,_,_,_,_,rfl,h⟩
     |_=>exact absurd rfl h
    |_=>first|exact absurd rfl h|(cases e <;> exact absurd rfl h)
   |_=>first|exact absurd rfl h|(cases c <;> first|exact absurd rfl h|(cases e <;> exact absurd rfl h))
  |_=>first|exact absurd rfl h|(cases b <;> first|exact absurd rfl h|(cases c <;> first|exact absurd rfl h|(cases e <;> exact absurd rfl h)))
 ·first|exact absurd rfl h|(cases a <;> first|exact absurd rfl h|(cases b <;> first|exact absurd rfl h|(cases c <;> first|exact absurd rfl h|(cases e <;> exact absurd rfl h))))
theorem kZ (cs:Cs):LLq (d8 cs bA aj) 5 1 aW:=by
 intro ds hl c;obtain⟨s,a,most,top,b,n,l⟩:=qX c;clear c;subst n;have c:=l;clear l
 ·skip
  split at c
  ·rename_i ns o;have es:=fB o;subst es;split at c
   ·rename_i hc;obtain⟨ha,e,g,m,f⟩:=hc;rw[fD ha e g m f];have hm:=bI (ns:=ns) ha e;have m1:=bK ns a e;have m2:=bV ns a e;have h:bY 6 (jI (ae (af 5) ah)) cf (ai bA (ae (af 0) (ae (g2 aT (g2 aT (af 1) (gC (.int 1))) (g2 gI (gC (.int 7)) (af 6))) (ae (af 3) (ae (af 4) ah))))) bM
      [some (aq ns),some (.int a),some (.int most),some (.int top),some (.bool b),some (.int (1+mixed ns a most))]=.ok ((bQ 0 (1+mixed ns a most).toNat).map λd=>(mkE ns (a+1+7*deI d) top b).d) :=
     dD rfl (by simp only[mx,aR,bN,bt,bq,Rs.ak];exact mE (by omega) (by omega)) (by rw[dB];omega) λd hd=>by obtain⟨i,hi⟩:=List.getElem?_of_mem hd;obtain⟨_,rfl⟩:=iP hi;simp only[List.cons_append,C6,bH,aR,bN,ib,bt,bq,ix,Rs.ak,gq,Rs.aF];rw[tO (by decide) (by decide)];simp only[Rs.aF,Rs.ak,gq];exact fV (by omega) m f
    have j:av (jT ns a most top b)=.tuple ((bQ 0 (1+mixed ns a most).toNat).map λd=>(mkE ns (a+1+7*deI d) top b).d):=by
     unfold av jT bQ;rw[BP,BP];congr 1;refine BV λk _=>?_
     simp[deI]
    rw[j];show cy (d8 cs bA aj [some (aq ns),some (.int a),some (.int most),some (.int top),some (.bool b),none])=_;simp only[d8,bE,pI,BH,List.length_nil,Nat.reduceAdd,Nat.reduceLT,if_true,bH,aR,bN,ib,bt,bq,ix,Rs.ak,hm,gq,Rs.aF,bB,Cg,Ci,jm,kM,qt,h,rM,ja]
   ·exact absurd rfl c
  ·exact absurd rfl c
end RS
namespace RS
open PySem PySem.Spec PyProof.Rows L2
section
theorem uP {G:Ds->Sr} (F:Fun K x qual st f fd) (S:ef N ps (aQ st)) (c:∀i∈O,ps.length<=i)
  (body:∀(cdv:Value) (A:Around) (outer:List Env) (s:Shared) (H:Hp) (E:XK),dG k (A.deeper (envOfC qual (aQ st) s.heap.objs.size f cdv))->PBD (fP (CXW P w) P w K mg base N qual (aQ st) f cdv A outer s H E) E O (c9 st) G)
  (e:∀ds,ds.length=ps.length->gf ds≠.no->cy (G (ds.map some++List.replicate (N.length-ps.length) none))=gf ds):fJ P w K mg base (CXW P w) (k+1) f fd ps (spD K ps.length gf):=by
 refine p6 F S (λvs H Q E h=>?_) (λcdv A outer s H vs Q E g h=>?_)
 ·obtain⟨A,ds,b,hi,hl,o⟩:=h;rw[hi.length,hl]
 ·obtain⟨A0,ds,b,hi,hl,o⟩:=h;refine⟨_,body cdv A outer s H E g,H,A0,[],_,cj.start b hi hl c,?_⟩;have a:=e ds hl (λz=>by rw[z]at o;exact o);cases q:G (ds.map some++List.replicate (N.length-ps.length) none) with
  |rt d=>rw[q]at a;rw[<-a]at o;exact λv H' s' j=>o v H' s' j
  |nx δ=>rw[q]at a;rw[<-a]at o;exact λA' σ H' l=>o .non H' l.same is_none
  |rz C=>rw[q]at a;rw[<-a]at o;exact λH' s'=>o H' s'
  |bk δ=>rw[q]at a;rw[<-a]at o;exact o.elim
  |ct δ=>rw[q]at a;rw[<-a]at o;exact o.elim
  |no=>rw[q]at a;rw[<-a]at o;exact o.elim
theorem sV {b:Array (Option Value)} {kV e:Value} (X:K.In h) (G:h.Ns mainGlobals mg)
  (g:∀(kV doc pm:Value) (an:Option Addr) (cdv ct:Value) (us:List Value),us.length=ps.length->bindArgs (PySem.W.fnOf x x (gw st) (c9 st) (aQ st) .none kV doc pm an cdv ct) ⟨us,[]⟩=pure (ps.zip us))
  (a:PySem.W.nsIn K mainGlobals x=some (some (.ref f)))
  (l:K.lookup f=some ⟨oc,od,.func (PySem.W.fnOf x x (gw st) (c9 st) (aQ st) .none kV e pm an cd ct),b⟩)
  (c:PySem.W.codeIn K cd x=true) (k:PySem.W.keepIn K (.ref f)=true):aL K mg x st ps :=
 have F:=yB (st:=st) l c k
 ⟨f,_,F,F.binds g,PySem.W.mg_of X G a⟩
theorem eU (X:K.In h) (G:h.Ns mainGlobals mg) (a:PySem.W.nsIn K mainGlobals x=some (some (.ref C)))
 (e:PySem.W.excIn K C [.type "ValueError",.type "Exception",.type "BaseException",.type "object"] "ValueError.__new__"=true):gW K mg x C:=⟨PySem.W.mg_of X G a,e⟩
theorem uW {n:Int} {t:_} (X:K.In h) (G:h.Ns mainGlobals mg) (a:PySem.W.nsIn K mainGlobals x=some (some (.int n t))):∃t,mg x=some (.int n t):=⟨t,PySem.W.mg_of X G a⟩
end
def eo (n:Nat):Gf
 |[s]=>(match dJ s with
  |some ns=>if ns.length<=n then .ok (.bool true) else .no
  |none=>.no)
 |_=>.no
theorem zW {XP:(Str->Option Value)->Heap->Prop} {d:DefRec} {K:Params->PySem.W.Frag}
  (hn:l.most=some n) (i:n<=sizeLine) (j:d.params.defaults=[]) (A:dG k callerA)
  (B:∀(w:World) (h:Heap),YP w h->(K w.params).In h)
  (C:∀(kV doc pm:Value) (an:Option Addr) (cdv ct:Value) (us:List Value),us.length=1->bindArgs (PySem.W.fnOf d.name d.name (gw st) (c9 st) (aQ st) .none kV doc pm an cdv ct) ⟨us,[]⟩=pure ([x].zip us))
  (F:∀(w:World) (mg:Str->Option Value) (h:Heap),(K w.params).In h->h.Ns mainGlobals mg->
   aL (K w.params) mg d.name st [x]/\∀f fd,Fun (K w.params) d.name d.name st f fd->∀base:Heap,(K w.params).In base->base.Ns mainGlobals mg->L2.lV mg base->fJ l.prog w (K w.params) mg base (CXW l.prog w) k f fd [x] (spD (K w.params) 1 (eo n)))
  (o:∀(w:World) (h:Heap) (c:List Str) (g:ExcName->Option Value) (mg D:Str->Option Value),PyProof.Rows.Top q c g mg D h->(K w.params).In h->L2.jr (K w.params) h:=by exact λ_ _ _ _ _ _ _ _=>L2.tabsIn_nil rfl) :
  PySem.W.WalkO q loose XP YP l.row.toRowW d [] (λf vs=>PySem.call f vs) :=
 L2.p0 (n:=n) (k:=k) (x:=x) (CX:=λw=>CXW l.prog w) (sp:=λw=>spD (K w.params) 1 (eo n)) hn i j A B
  (λw mg E h X G p=>by obtain⟨⟨f,fd,y,b,m⟩,I⟩:=F w mg h X G;have e:=p.symm.trans m;cases e;refine⟨fd,λs u=>?_,I E fd y⟩;obtain⟨oc,od,kV,doc,pm,an,cdv,ct,osl,rfl,lk,hcd⟩:=y.ex;exact .of_eq (C kV doc pm an cdv ct [u] rfl))
  (λw H a ns hl hO J=>by
   refine⟨[],[aq ns],?_,?_,rfl,?_⟩
   ·exact Ls.nil
   ·rw[pO];exact⟨_,[],rfl,qI J,rfl⟩
   ·have L:eo n [aq ns]=.ok (.bool true):=by unfold eo;simp[d7,hl]
    rw[L];intro v H' _ r;rw[pO]at r;unfold Is at r;exact r)
  (λw H s e s' t=>(by obtain⟨_,_,_,_,_,_,z,_⟩:=t;exact z)) o
end RS
set_option maxHeartbeats 4000000
namespace L2
open PySem PySem.Spec PyProof.Rows
section
end
section
variable {E:XK}
end
noncomputable def lp (xs ys:List PyData):List PyData:=List.zipWith (λa b=>PyData.tuple [a,b]) xs ys
theorem sL {es:List PyData} (h1:Iss K G ds xs) (h2:Iss K G es ys) (hl:ys.length=xs.length) (c:∀H1,aw G H1->SqT K H1 a xs) (f:∀H1,aw G H1->SqL K H1 b ys):rQ K (Itz K a b xs.length) (lp ds es) G:=λH1 B s l hB=>by
 have l1:=h1.length;have l2:=h2.length;have m:(lp ds es).length=xs.length:=by unfold lp;rw[List.length_zipWith];omega
 rw[m];refine⟨λi hi=>⟨hi,xs,ys,c H1 s,f H1 s,rfl,hl⟩,⟨rfl,xs,ys,c H1 s,f H1 s,rfl,hl⟩,λi x H2 hi y=>?_⟩;obtain⟨t,n,p,rfl,g,rfl,r,u⟩:=y;obtain⟨d,e,hd⟩:=h1.get (r xs (c H1 s));obtain⟨d',v,h⟩:=h2.get (u ys (f H1 s));refine⟨a8 g,.tuple [d,d'],by unfold lp;rw[List.getElem?_zipWith,e,v],?_⟩;have w:t∉B:=l.new g;have j:aw G (del (upd H1 t (.tup [n,p])) B):=λb o q=>by have k:=s b o q;have A:b≠t:=aM k g;rw[bG (λz=>by rw[hB b z]at q;cases q),aN A];exact k
 exact iL (by rw[bG w];exact aV) (cY (hd.same j) (jY (h.same j)))
section
variable {E:XK} {a b:Expr}
def wz:List PyData->Rs (List PyData)
 |[.tuple xs,.list ys]=>if ys.length=xs.length then .ok (lp xs ys) else .no
 |_=>.no
def uB (g:Ds->Rs (List PyData)):Ds->Rs (List PyData):=λδ=>(g δ).bind wz
theorem vI {l:Pos} (hm:X.mg "zip"=none) (ha:PAD X E [a,b] gs) (m:Gl X "zip") (n:starEach [a,b] X.env=[(false,eval a X.env),(false,eval b X.env)]) (c:starEach [b] X.env=[(false,eval b X.env)]) :
  PID X E (.Tuple elts k l) (.Call (.Name "zip" p) [a,b] [] pos) (uB gs):=(yo m hm ha.1 n c).imp λσ H R ⟨A,δ,Rp,o⟩=>t9 Rp o λds vs H1 e s1 R1 h1 o=>by
 unfold wz at o;split at o
 ·split at o
  ·rename_i hl;obtain⟨v,u,rfl,h,h'⟩:=vG h1;obtain⟨p,xs,rfl,f,g⟩:=h.ofTup;obtain⟨q,ys,rfl,i,j⟩:=h'.ofLst;have l1:=g.length;have l2:=j.length;exact⟨p,q,xs,ys,rfl,SqT.of (aC _ _ f),SqL.of (aC _ _ i),by omega,o _ H1 (aw.refl _) (sL g j (by omega) (λH2 s2=>SqT.of (s2 _ _ f)) λH2 s2=>SqL.of (s2 _ _ i))⟩
  ·exact o.elim
 ·exact o.elim
end
end L2
namespace RS
open PySem L2
def dN (cs:Cs):Ds->Sr :=
 (ax (bh [] 2 (g2 dIx (af 0) (gC (.int 0))))
  (ax (bh [] 3 (g2 dIx (af 0) (gC (.int 2))))
  (ax (bh [] 4 (g2 e6 (gC (.int 0)) (af 3)))
  (ax (mY [] (fb (af 1)) (dS 5) (ax (bh [] 6 (gF lK (ae (af 4) (ae (g2 e6 (af 5) (af 3)) ah))))
  (ax (sIf (gT (g2 dGt (af 6) (af 5))) (bp (gC (.bool false))) a4)
  (bh [] 4 (g2 aT (af 6) (af 2))))))
  (bp (gC (.bool true)))))))
def cZ (cs:Cs) (ar aO:Gf):Ds->Sr :=
 (ax (sIf (cOr (eu (gT (g1 (fo "list") (af 1)))) (gT (g2 dGt (gF bR (ae (af 1) ah)) (gC (.int 60))))) (bp (gC (.bool false))) a4)
  (bp (rF (gF jQ (ae (gL (bY 2 (fb (af 1)) cf (ai ar (ae (af 2) (ae (gC (.int 0)) (ae (gC (.int 9999)) ah)))) bM)) ah)) (ai aO (ae (af 0) (ae (af 1) ah))))))
def dO (cs:Cs) (eY ag:Gf):Ds->Sr :=
 (ax (aU (ai ag (ae (af 0) ah)))
  (ax (sIf (cOr (eu (gT (g1 (fo "list") (af 1)))) (gT (g2 dNe (gF bR (ae (af 1) ah)) (gF bR (ae (af 0) ah))))) (eI cs.NoComings (ae (gC (.str "comings are a list of one list for each errand")) ah)) a4)
  (ax (sIf (eu (gT (gF jQ (ae (gL (bY 2 (uB (ae (af 0) (ae (af 1) ah))) cf (ai eY (ae (af 2) (ae (af 3) ah))) jc)) ah)))) (eI cs.NoComings (ae (gC (.str "an errand can not come so")) ah)) a4)
  (bp (gL (bY 2 (fb (af 1)) cf (gF jJ (ae (af 2) ah)) bM))))))
def mn (cs:Cs) (aA ag:Gf):Ds->Sr :=
 (ax (aU (ai ag (ae (af 0) ah)))
  (ax (aU (ai aA (ae (af 0) (ae (af 1) ah))))
  sNo))
def iK (cs:Cs) (ao ag:Gf):Ds->Sr :=
 (ax (aU (ai ag (ae (af 0) ah)))
  (ax (aU (ai ao (ae (af 0) (ae (af 1) ah))))
  sNo))
def jf (cs:Cs):Ds->Sr :=
 sNo
def oO (cs:Cs) (a fh ao ag:Gf):Ds->Sr :=
 (ax (aU (ai ag (ae (af 0) ah)))
  (ax (aU (ai ao (ae (af 0) (ae (af 1) ah))))
  (ax (bp (ai fh (ae (af 0) (ae (af 1) (ae (ai a (ae (af 0) (ae (af 2) ah))) (ae (af 3) ah))))))
  sNo)))
def fN (cs:Cs):Ds->Sr :=
 sNo
def dh (cs:Cs) (bf bF:Gf):Ds->Sr :=
 (ax (bp (ai bF (ae (af 2) (ae (ai bf (ae (af 0) (ae (af 1) (ae (af 2) (ae (af 3) ah))))) ah))))
  sNo)
def mO (cs:Cs) (a:Gf):Ds->Sr :=
 (ax (aU (ai a (ae (af 0) (ae (af 1) (ae (af 2) ah)))))
  sNo)
def fO (cs:Cs) (a:Gf):Ds->Sr :=
 (ax (aU (ai a (ae (af 0) (ae (af 1) (ae (af 2) ah)))))
  sNo)
def iG (cs:Cs) (a:Gf):Ds->Sr :=
 (ax (aU (ai a (ae (af 0) (ae (af 1) (ae (af 2) ah)))))
  sNo)
def dW (cs:Cs) (a:Gf):Ds->Sr :=
 (ax (aU (ai a (ae (af 0) (ae (af 1) (ae (af 2) ah)))))
  sNo)
def jq (cs:Cs) (a:Gf):Ds->Sr :=
 (ax (aU (ai a (ae (af 0) (ae (af 1) (ae (af 2) ah)))))
  sNo)
def iH (cs:Cs) (ao ag:Gf):Ds->Sr :=
 (ax (aU (ai ag (ae (af 0) ah)))
  (ax (aU (ai ao (ae (af 0) (ae (af 1) ah))))
  sNo))
def iM (cs:Cs) (ag:Gf):Ds->Sr :=
 (ax (aU (ai ag (ae (af 0) ah)))
  sNo)
def gX (cs:Cs) (ag:Gf):Ds->Sr :=
 (ax (aU (ai ag (ae (af 0) ah)))
  sNo)
def bL (cs:Cs) (az ar:Gf):Ds->Sr :=
 (ax (bh [] 2 (gF bR (ae (af 0) ah)))
  (ax (sIf (cOr (eu (gT (ai az (ae (af 1) (ae (af 2) (ae (af 2) ah)))))) (eu (gT (gF jQ (ae (gL (bY 3 (fb (af 1)) cf (ai ar (ae (af 3) (ae (gC (.int 0)) (ae (gC (.int 999)) ah)))) bM)) ah))))) (eI cs.NoComings (ae (gC (.str "a calendar is a tuple of a number from 0 to 999 for each errand")) ah)) a4)
  (bp (af 1))))
def ff (cs:Cs) (aS ao ag:Gf):Ds->Sr :=
 (ax (aU (ai ag (ae (af 0) ah)))
  (ax (aU (ai ao (ae (af 0) (ae (af 1) ah))))
  (ax (aU (ai aS (ae (af 0) (ae (af 2) ah))))
  sNo)))
def iQ (cs:Cs) (ag:Gf):Ds->Sr :=
 (ax (aU (ai ag (ae (af 0) ah)))
  sNo)
def kB (cs:Cs) (ag:Gf):Ds->Sr :=
 (ax (aU (ai ag (ae (af 0) ah)))
  sNo)
def gB (cs:Cs) (cN:Gf):Ds->Sr :=
 (ax (bh [] 1 (ai cN (ae (af 0) ah)))
  sNo)
def kR (cs:Cs) (a:Gf):Ds->Sr :=
 (ax (aU (ai a (ae (af 0) (ae (af 1) (ae (af 2) ah)))))
  sNo)
def mI (cs:Cs) (a:Gf):Ds->Sr :=
 (ax (aU (ai a (ae (af 0) (ae (af 1) (ae (af 2) ah)))))
  sNo)
def gZ (cs:Cs) (ag:Gf):Ds->Sr :=
 (ax (aU (ai ag (ae (af 0) ah)))
  sNo)
def j9 (cs:Cs) (ar ag:Gf):Ds->Sr :=
 (ax (aU (ai ag (ae (af 0) ah)))
  (ax (sIf (eu (gT (ai ar (ae (af 1) (ae (gC (.int 1)) (ae (gC (.int 4)) ah)))))) (eI cs.NoNumber (ae (gC (.str "hands are 1 to 4")) ah)) a4)
  sNo))
def eH (cs:Cs) (ag:Gf):Ds->Sr :=
 (ax (aU (ai ag (ae (af 0) ah)))
  sNo)
def gK (cs:Cs) (a:Gf):Ds->Sr :=
 (ax (aU (ai a (ae (af 0) (ae (af 1) (ae (af 2) ah)))))
  sNo)
def iJ (cs:Cs) (a:Gf):Ds->Sr :=
 (ax (aU (ai a (ae (af 0) (ae (af 1) (ae (af 2) ah)))))
  sNo)
def gY (cs:Cs) (ag:Gf):Ds->Sr :=
 (ax (aU (ai ag (ae (af 0) ah)))
  sNo)
def gx (cs:Cs) (a:Gf):Ds->Sr :=
 (ax (aU (ai a (ae (af 0) (ae (af 1) (ae (af 2) ah)))))
  sNo)
def kv (cs:Cs) (ag:Gf):Ds->Sr :=
 (ax (aU (ai ag (ae (af 0) ah)))
  sNo)
def dR (cs:Cs) (eR cu cG aP aY aH cL fu eQ eP:Gf):Ds->Sr :=
 (ax (sIf (gT (g2 dLt (af 0) (gC (.int 3)))) (bp (cV [fu,eQ,eP] (af 0) (ae (af 1) ah))) a4)
  (ax (sIf (gT (g2 dLt (af 0) (gC (.int 6)))) (bp (cV [aY,aH,cL] (g2 e6 (af 0) (gC (.int 3))) (ae (af 1) (ae (gC .none) (ae (gC .none) ah))))) a4)
  (ax (sIf (gT (g2 dEq (af 0) (gC (.int 6)))) (bp (ai aP (ae (af 1) (ae (gC .none) (ae (gC .none) ah))))) a4)
  (ax (sIf (gT (g2 dLt (af 0) (gC (.int 9)))) (bp (cV [cu,cG] (g2 e6 (af 0) (gC (.int 7))) (ae (af 1) (ae (gC .none) (ae (gC .none) (ae (gC .none) ah)))))) a4)
  (bp (ai eR (ae (af 1) (ae (gC .none) ah))))))))
def dj (cs:Cs) (bf bj cH bD bO cg ba eG cI a cM cQ ag ft cN c7 cU ir bU:Gf):Ds->Sr :=
 (ax (sIf (gT (g2 dGt (af 0) (gC (.int 17)))) (bp (ai bU (ae (g2 e6 (af 0) (gC (.int 18))) (ae (af 1) ah)))) a4)
  (ax (sIf (gT (g2 dLt (af 0) (gC (.int 6)))) (bp (cV [ag,ft,cN,c7,cU,ir] (af 0) (ae (af 1) ah))) a4)
  (ax (sIf (gT (g2 dLt (af 0) (gC (.int 11)))) (bp (cV [eG,cI,a,cM,cQ] (g2 e6 (af 0) (gC (.int 6))) (ae (af 1) (ae (gC .none) ah)))) a4)
  (ax (sIf (gT (g2 dLt (af 0) (gC (.int 16)))) (bp (cV [cH,bD,bO,cg,ba] (g2 e6 (af 0) (gC (.int 11))) (ae (af 1) (ae (gC .none) (ae (gC .none) ah))))) a4)
  (bp (cV [bf,bj] (g2 cw (af 0) (gC (.int 2))) (ae (af 1) (ae (gC .none) (ae (gC .none) (ae (gC (.str "high")) ah))))))))))
def dY (cs:Cs) (bf bj cH bD bO cg ba cI cM aY aH cL aP:Gf):Ds->Sr :=
 (ax (sIf (gT (g2 dGt (af 0) (gC (.int 11)))) (bp (ai aP (ae (af 1) (ae (af 2) (ae (gC .none) ah))))) a4)
  (ax (sIf (gT (g2 dGt (af 0) (gC (.int 8)))) (bp (cV [aY,aH,cL] (g2 e6 (af 0) (gC (.int 9))) (ae (af 1) (ae (af 2) (ae (gC .none) ah))))) a4)
  (ax (sIf (gT (g2 dLt (af 0) (gC (.int 2)))) (bp (cV [cI,cM] (af 0) (ae (af 1) (ae (af 2) ah)))) a4)
  (ax (sIf (gT (g2 dLt (af 0) (gC (.int 7)))) (bp (cV [cH,bD,bO,cg,ba] (g2 e6 (af 0) (gC (.int 2))) (ae (af 1) (ae (af 2) (ae (gC .none) ah))))) a4)
  (bp (cV [bf,bj] (g2 cw (af 0) (gC (.int 2))) (ae (af 1) (ae (af 2) (ae (gC .none) (ae (gC (.str "high")) ah))))))))))
def gM (cs:Cs) (cQ cH bD bO cg ba aY aH cL cu cG eG bf bj a aP bZ bJ:Gf):Ds->Sr :=
 (ax (bh [] 4 (g2 ki (af 3) (gC (.int 100))))
  (ax (sIf (gT (g2 dEq (af 2) (gC (.int 0)))) (bp (ai bJ (ae (g2 cw (af 4) (gC (.int 28))) (ae (g2 dIx (bu (ae (gC .none) (ae (gF jJ (ae (af 0) ah)) (ae (dm ah) (ae (dm (ae (bo (g2 dIx (af 0) (gC (.int 0))) a5 (b9 (gC (.int 3)))) ah)) (ae (gC (.int 5)) (ae (gC (.str "errands")) ah))))))) (g2 cw (af 3) (gC (.int 6)))) ah)))) a4)
  (ax (sIf (gT (g2 dEq (af 2) (gC (.int 1)))) (ax (bh [] 5 (g2 dIx (bu (ae (gC .none) (ae (gF jJ (ae (af 1) ah)) (ae (g2 aT (af 1) (bo (af 1) a5 (b9 (gC (.int 1))))) (ae (dm ah) (ae (g2 aT (bo (af 1) (b9 (gC (.int 1))) a5) (dm (ae (gF bR (ae (af 1) ah)) ah))) (ae (g2 aT (bo (af 1) (b9 (gC (.int 1))) a5) (dm (ae (g1 fQ (gC (.int 1))) ah))) ah))))))) (g2 cw (af 3) (gC (.int 6)))))
  (bp (ai bZ (ae (g2 cw (af 4) (gC (.int 13))) (ae (af 0) (ae (af 5) ah)))))) a4)
  (ax (sIf (gT (g2 dEq (af 2) (gC (.int 2)))) (ax (bh [] 6 (gL (bY 8 (fb (af 0)) cf (bu ah) bM)))
  (ax (bh [] 5 (bu (ae (gC .none) (ae (gF fR (ae (af 6) ah)) (ae (g2 aT (af 6) (bu (ae (bu ah) ah))) (ae (bo (af 6) (b9 (gC (.int 1))) a5) (ae (g2 aT (bo (af 6) (b9 (gC (.int 1))) a5) (bu (ae (dm (ae (gC (.int 0)) ah)) ah))) (ae (g2 aT (bo (af 6) (b9 (gC (.int 1))) a5) (bu (ae (bu (ae (gC (.int 5)) (ae (gC (.int 5)) ah))) ah))) (ae (g2 aT (bo (af 6) (b9 (gC (.int 1))) a5) (bu (ae (bu (ae (gC (.bool true)) ah)) ah))) ah)))))))))
  (ax (bh [] 5 (g2 dIx (g2 aT (af 5) (bu (ae (g2 aT (bo (af 6) (b9 (gC (.int 1))) a5) (bu (ae (bu (ae (g1 fQ (gC (.int 1))) ah)) ah))) (ae (g2 aT (bo (af 6) (b9 (gC (.int 1))) a5) (bu (ae (gC .none) ah))) ah)))) (g2 cw (af 3) (gC (.int 9)))))
  (ax (sIf (gT (g2 dEq (g2 cw (af 4) (gC (.int 4))) (gC (.int 3)))) (bp (ai aP (ae (af 0) (ae (af 1) (ae (g2 dIx (bu (ae (gC .none) (ae (g2 gI (bu (ae (gC (.int 0)) ah)) (gF bR (ae (af 0) ah))) (ae (g2 gI (dm (ae (gC (.int 0)) ah)) (g2 aT (gF bR (ae (af 0) ah)) (gC (.int 1)))) (ae (dm (ae (g1 fQ (gC (.int 1))) ah)) ah))))) (g2 cw (af 3) (gC (.int 4)))) ah))))) a4)
  (ax (sIf (gT (g2 dEq (g2 cw (af 4) (gC (.int 4))) (gC (.int 0)))) (bp (ai a (ae (af 0) (ae (af 5) ah)))) a4)
  (bp (cV [bf,bj] (g2 cw (af 4) (gC (.int 2))) (ae (af 0) (ae (af 1) (ae (af 5) (ae (g2 dIx (bu (ae (gC (.str "high")) (ae (gC (.str "asked")) (ae (gC (.str "none")) ah)))) (g2 ki (g2 cw (af 4) (gC (.int 5))) (gC (.int 2)))) ah))))))))))) a4)
  (ax (sIf (gT (g2 dEq (af 2) (gC (.int 3)))) (ax (bh [] 5 (g2 dIx (bu (ae (g1 fQ (gC (.int 1))) (ae (gF bR (ae (af 0) ah)) (ae (gC (.bool true)) (ae (gC .none) (ae (gC (.str "0")) ah)))))) (g2 cw (af 3) (gC (.int 5)))))
  (ax (sIf (gT (g2 dEq (g2 cw (af 4) (gC (.int 11))) (gC (.int 10)))) (bp (ai eG (ae (af 0) (ae (af 5) ah)))) a4)
  (ax (sIf (gT (g2 dGt (g2 cw (af 4) (gC (.int 11))) (gC (.int 7)))) (bp (cV [cu,cG] (g2 cw (af 4) (gC (.int 2))) (ae (af 0) (ae (af 1) (ae (af 5) (ae (gC .none) ah)))))) a4)
  (kI 7 [cH,bD,bO,cg,ba,aY,aH,cL] (g2 cw (af 4) (gC (.int 11))) (ae (af 0) (ae (af 1) (ae (af 5) ah))))))) a4)
  (bp (ai cQ (ae (af 0) (ae (g2 dIx (bu (ae (gC (.int 0)) (ae (gC (.int 5)) (ae (gC (.bool true)) (ae (gC .none) (ae (gC (.str "1")) (ae (g1 fQ (gC (.int 1))) ah))))))) (g2 cw (af 3) (gC (.int 6)))) ah)))))))))
def pG (cs:Cs) (cn aj bz aW:Gf):Ds->Sr :=
 (ax (bh [] 1 (ai aW (ae (af 0) (ae (gC (.int 10)) (ae (gC (.int 4)) (ae (gC (.int 28)) (ae (gC (.bool true)) ah)))))))
  (ax (bh [] 2 (ai bz (ae (af 0) (ae (gC (.int 2)) (ae (gF bR (ae (af 1) ah)) ah)))))
  (ax (bh [] 3 (ai aj (ae (af 0) (ae (gC (.int 0)) (ae (gC (.int 5)) ah)))))
  (ax (nL [(cs.NoErrands,[true,false,false,false],[false,false],true),(cs.NoRanks,[false,true,false,false],[false,false],true),(cs.NoComings,[false,false,true,false],[false,false],true),(cs.NoErrand,[false,false,false,true],[false,false],true),(cs.NoNumber,[false,false,false,false],[true,false],true)] 4 5 3 cn (ae (af 1) (ae (af 2) (ae (af 3) (ae (ai aj (ae (af 0) (ae (gC (.int 1)) (ae (g2 qb (gC (.int 10)) (gC (.int 6))) ah)))) ah)))))
  (bp (gC (.bool false)))))))
end RS
set_option maxHeartbeats 1000000
namespace RS
open PySem L2
def cB (ns:List Int) (a:Int) (many:Nat):Nat->List Int×List Int
 |0=>((List.range many).map λ(i:Nat)=>(i:Int),[])
 |i+1=>((cB ns a many i).1.eraseIdx (mixed ns (a+(i:Int)) ((cB ns a many i).1.length:Int)).toNat,(cB ns a many i).2++[(cB ns a many i).1.getD (mixed ns (a+(i:Int)) ((cB ns a many i).1.length:Int)).toNat 0])
def il (ns:List Int) (a:Int) (many:Nat):List Int:=(cB ns a many many).2
theorem kK {α:Type}:∀(l:List α) (j:Nat) (h:j<l.length),(l[j]::l.eraseIdx j).Perm l
 |[],j,h=>by simp at h
 |x::r,0,h=>by simp
 |x::r,j+1,h=>by
  simp only[List.getElem_cons_succ,List.eraseIdx_cons_succ];have h':j<r.length:=by simpa using h
  exact (List.Perm.swap _ _ _).trans ((kK r j h').cons x)
theorem lR {α β:Type} (f:α->β):∀(l:List α) (j:Nat),(l.map f).eraseIdx j=(l.eraseIdx j).map f
 |[],j=>by simp
 |x::r,0=>by simp
 |x::r,j+1=>by simp[lR f r j]
theorem kQ (ns:List Int) (a:Int) (many:Nat):∀i,i<=many->(cB ns a many i).1.length=many-i/\(cB ns a many i).2.length=i/\((cB ns a many i).1++(cB ns a many i).2).Perm ((List.range many).map λ(i:Nat)=>(i:Int))
 |0,_=>⟨by simp[cB],rfl,by simp[cB]⟩
 |i+1,h=>by
  obtain⟨h1,h2,e⟩:=kQ ns a many i (by omega);simp only[cB];generalize (cB ns a many i).1=L at *;generalize (cB ns a many i).2=M at *;have c:0<(L.length:Int):=by omega
  have m0:=bK ns (a+(i:Int)) c;have m1:=bV ns (a+(i:Int)) c;generalize mixed ns (a+(i:Int)) (L.length:Int)=z at *;have b:z.toNat<L.length:=by omega
  refine⟨by rw[List.length_eraseIdx_of_lt b];omega,by simp[h2],?_⟩;refine List.Perm.trans ?_ e;rw[BD,B2 b,Option.getD_some];have p1:(L[z.toNat]::L.eraseIdx z.toNat).Perm L:=kK L z.toNat b;have p2:(L.eraseIdx z.toNat++(M++[L[z.toNat]])).Perm ((L[z.toNat]::L.eraseIdx z.toNat)++M):=by rw[<-CB];exact (List.perm_append_singleton _ _)
  exact p2.trans (p1.append_right M)
theorem kc (ns:List Int) (a:Int) (many:Nat):ky many (il ns a many):=by
 obtain⟨h1,h2,b⟩:=kQ ns a many many (B5 _);unfold il;have e:(cB ns a many many).1=[]:=C5.mp (by omega);rw[e,C6]at b;refine⟨h2,λr c=>?_,b.nodup_iff.mpr ?_⟩
 ·obtain⟨k,g,rfl⟩:=Bz.mp (b.mem_iff.mp c);have:=List.mem_range.mp g;omega
 ·exact (List.nodup_range).map (f:=λ(i:Nat)=>(i:Int)) λx y h=>by intro q;have q:(x:Int)=(y:Int):=q;exact h (by omega)
def bz:Gf
 |[s,.int a,.int many]=>(match dJ s with
  |some ns=>if 0<=a/\0<=many/\many<=100 then .ok (bw (il ns a many.toNat)) else .no
  |none=>.no)
 |_=>.no
theorem eJ {a:Int} (h1:0<=a) (h2:0<=many) (b:many<=100):bz [aq ns,.int a,.int many]=.ok (bw (il ns a many.toNat)):=by unfold bz;simp[d7,h1,h2,b]
theorem qT (ns:List Int) (a:Int) (n i:Nat) (L M:List Int) (ha:0<=a) (c:0<(L.length:Int)) (hL2:L.length<=100) (hM:M.length<=100) :
   gz 4 3 (ai aj (ae (af 0) (ae (g2 aT (af 1) (af 5)) (ae (gF bR (ae (af 3) ah)) ah)))) [some (aq ns),some (.int a),some (.int (n:Int)),some (.list (L.map .int)),some (.list (M.map .int)),some (.int (0+(i:Int)))]
  =.nx [some (aq ns),some (.int a),some (.int (n:Int)),some (.list ((L.eraseIdx (mixed ns (a+(i:Int)) (L.length:Int)).toNat).map .int)),some (.list ((M++[L.getD (mixed ns (a+(i:Int)) (L.length:Int)).toNat 0]).map .int)),some (.int (0+(i:Int)))]:=by
 have b:=bI (ns:=ns) (k:=a+(0+(i:Int))) (many:=(L.length:Int)) (by omega) c;have h:=bK ns (a+(i:Int)) c;have m1:=bV ns (a+(i:Int)) c;rw[show a+(0+(i:Int))=a+(i:Int) by omega]at b;generalize mixed ns (a+(i:Int)) (L.length:Int)=z at *;have g:z.toNat<L.length:=by omega
 have j:ai aj (ae (af 0) (ae (g2 aT (af 1) (af 5)) (ae (gF bR (ae (af 3) ah)) ah))) [some (aq ns),some (.int a),some (.int (n:Int)),some (.list (L.map .int)),some (.list (M.map .int)),some (.int (0+(i:Int)))]=.ok (.int z):=by simp only[bH,aR,bN,ib,kM,bt,bq,Rs.ak,gq,Rs.aF,si,B3];rw[show a+(0+(i:Int))=a+(i:Int) by omega];exact b
 have e:ixN (L.map PyData.int).length z=some z.toNat:=by unfold ixN;rw[if_pos h,if_pos (by rw[B3];omega)]
 have f:(L.map PyData.int)[z.toNat]?=some (.int (L.getD z.toNat 0)):=by rw[BK,B2 g,BD,B2 g];rfl
 unfold gz;simp only[Cj,Ck,j,bB];rw[if_pos (by refine⟨by omega,by omega,?_⟩;rw[B3];omega)];simp only[e,f,Cg,Ci,Cu,BC,List.map_nil];rw[lR]
theorem rh (ns:List Int) (a:Int) (n i:Nat) (ha:0<=a) (hi:i<n) (hn:n<=100) :
   gz 4 3 (ai aj (ae (af 0) (ae (g2 aT (af 1) (af 5)) (ae (gF bR (ae (af 3) ah)) ah)))) [some (aq ns),some (.int a),some (.int (n:Int)),some (.list ((cB ns a n i).1.map .int)),some (.list ((cB ns a n i).2.map .int)),some (.int (0+(i:Int)))]
  =.nx [some (aq ns),some (.int a),some (.int (n:Int)),some (.list ((cB ns a n (i+1)).1.map .int)),some (.list ((cB ns a n (i+1)).2.map .int)),some (.int (0+(i:Int)))]:=by
 obtain⟨h1,h2,h3⟩:=kQ ns a n i (by omega);simp only[cB];exact qT ns a n i _ _ ha (by omega) (by omega) (by omega)
theorem rk1 (ns:List Int) (a:Int) (n:Nat) (hm2:(n:Int)<=100):k8 [3,4] 3 (gLR (ae (af 2) ah)) [some (aq ns),some (.int a),some (.int (n:Int)),none,none,none]=.nx [some (aq ns),some (.int a),some (.int (n:Int)),some (.list ((cB ns a n 0).1.map .int)),none,none]:=by
 have b:gLR (ae (af 2) ah) (mask [3,4] [some (aq ns),some (.int a),some (.int (n:Int)),none,none,none])=.ok (bQ 0 n):=by simp only[zF,aR,bN,a6 (show 2∉[3,4] by decide),bt,bq,Rs.ak];unfold mR;simp only;rw[if_pos (by omega),BM]
 have c:(cB ns a n 0).1.map PyData.int=bQ 0 n:=by
  simp only[cB,bQ,BP];refine BV λk _=>?_
  simp
 rw[c];unfold k8;rw[b,if_pos (by simp)];simp only[bB,Cg,Ci]
theorem rk2 (ns:List Int) (a:Int) (n:Nat):k8 [3,4] 4 ah [some (aq ns),some (.int a),some (.int (n:Int)),some (.list ((cB ns a n 0).1.map .int)),none,none]=.nx [some (aq ns),some (.int a),some (.int (n:Int)),some (.list ((cB ns a n 0).1.map .int)),some (.list ((cB ns a n 0).2.map .int)),none]:=by unfold k8;rw[if_pos (by simp)];simp only[bN,bB,Cg,Ci];rfl
theorem rk3 (ns:List Int) (a:Int) (n:Nat) (hm2:(n:Int)<=100):jI (ae (af 2) ah) (mask [3,4] [some (aq ns),some (.int a),some (.int (n:Int)),some (.list ((cB ns a n 0).1.map .int)),some (.list ((cB ns a n 0).2.map .int)),none])=.ok (bQ 0 n):=by have c:ae (af 2) ah (mask [3,4] [some (aq ns),some (.int a),some (.int (n:Int)),some (.list ((cB ns a n 0).1.map .int)),some (.list ((cB ns a n 0).2.map .int)),none])=.ok [.int (n:Int)]:=rfl;have b:=mE (j:=(n:Int)) (Int.natCast_nonneg n) (by omega);rw[BM]at b;rw[mx,c,Rs.ak,b]
theorem nM (cs:Cs):LLq (fx cs aj) 3 3 bz:=by
 intro ds hl b;obtain⟨s,a,many,k,j⟩:=jV b;clear b;subst k;have b:=j;clear j
 ·skip
  split at b
  ·rename_i ns l;have es:=fB l;subst es;split at b
   ·rename_i hc;obtain⟨ha,hm,c⟩:=hc;rw[eJ ha hm c];obtain⟨n,rfl⟩:∃n:Nat,many=(n:Int):=⟨many.toNat,by omega⟩
    rw[BM];show cy (fx cs aj [some (aq ns),some (.int a),some (.int (n:Int)),none,none,none])=_;have m:=rk1 ns a n c;have s2:=rk2 ns a n;have src:=rk3 ns a n c;obtain⟨δ',e,x5,f⟩:=iS (β:=Unit) (tgt:=dS 5) (body:=gz 4 3 (ai aj (ae (af 0) (ae (g2 aT (af 1) (af 5)) (ae (gF bR (ae (af 3) ah)) ah)))))
     (λi δ=>∃x5,δ=[some (aq ns),some (.int a),some (.int (n:Int)),some (.list ((cB ns a n i).1.map .int)),some (.list ((cB ns a n i).2.map .int)),x5])
     (bQ 0 n) 0 (λi d δ hi g=>by obtain⟨x5,o⟩:=g;subst o;rw[Cv]at *;obtain⟨h,rfl⟩:=iP hi;refine⟨[some (aq ns),some (.int a),some (.int (n:Int)),some (.list ((cB ns a n i).1.map .int)),some (.list ((cB ns a n i).2.map .int)),some (.int (0+(i:Int)))],_,rfl,?_,some (.int (0+(i:Int))),rfl⟩;exact rh ns a n i ha h (by omega)) [some (aq ns),some (.int a),some (.int (n:Int)),some (.list ((cB ns a n 0).1.map .int)),some (.list ((cB ns a n 0).2.map .int)),none] ⟨none,rfl⟩
    subst f;rw[Cv,dB]at e;simp only[fx];rw[bE,m];simp only;rw[bE,s2];simp only;rw[bE,tZ,src,bB,e];simp only;simp only[jm,kM,aR,bN,bt,bq,Rs.ak,rM,Rs.aF,bB,ja];rfl
   ·exact absurd rfl b
  ·exact absurd rfl b
noncomputable def hvM (b a:Int):Int->List Int->Bool
 |_,[]=>true
 |m,c::r=>if c<(if c-a>m then c-a else m) then false else hvM b a ((if c-a>m then c-a else m)+b) r
def hvE (e:Er) (ns:List Int):Bool:=hvM e.every e.late (0-e.late) ns
def aO:Gf
 |[d,.list xs]=>if qN d then (match ia xs with|some ns=>.ok (.bool (hvE (deE d) ns))|none=>.no) else .no
 |_=>.no
theorem fj {e:Er} (h:e.Sh):aO [e.d,.list (ns.map PyData.int)]=.ok (.bool (hvE e ns)):=by unfold aO;simp only[p7 h,if_true,gm,wd]
def hvB:Ds->Sr:=(ax (bh [] 6 (gF lK (ae (af 4) (ae (g2 e6 (af 5) (af 3)) ah))))
 (ax (sIf (gT (g2 dGt (af 6) (af 5))) (bp (gC (.bool false))) a4)
 (bh [] 4 (g2 aT (af 6) (af 2)))))
theorem pQ (E L:PyData) (b a:Int):∀(ns:List Int) (m:Int) (x5 x6:Option PyData),
   (hvM b a m ns=true/\∃δ,forL (dS 5) hvB (ns.map PyData.int) [some E,some L,some (.int b),some (.int a),some (.int m),x5,x6]=.nx δ)
  \/(hvM b a m ns=false/\forL (dS 5) hvB (ns.map PyData.int) [some E,some L,some (.int b),some (.int a),some (.int m),x5,x6]=.rt (.bool false))
 |[],m,x5,x6=>.inl ⟨rfl,_,rfl⟩
 |c::r,m,x5,x6=>by
   have h1:dS 5 (.int c) [some E,some L,some (.int b),some (.int a),some (.int m),x5,x6]=some [some E,some L,some (.int b),some (.int a),some (.int m),some (.int c),x6]:=rfl;rw[BC];unfold forL;rw[h1];unfold hvM;by_cases hc:c<(if c-a>m then c-a else m)
   ·have e:hvB [some E,some L,some (.int b),some (.int a),some (.int m),some (.int c),x6]=.rt (.bool false):=by simp[hvB,hc]
    refine .inr ⟨if_pos hc,?_⟩;simp only[e]
   ·have e:hvB [some E,some L,some (.int b),some (.int a),some (.int m),some (.int c),x6]=.nx [some E,some L,some (.int b),some (.int a),some (.int ((if c-a>m then c-a else m)+b)),some (.int c),some (.int (if c-a>m then c-a else m))]:=by simp[hvB,hc]
    rw[if_neg hc];simp only[e];exact pQ E L b a r _ _ _
theorem rL {f:PyData->List PyData->Rs PyData} (h:(match ds with|[b,.list a]=>f b a|_=>.no)≠.no):∃b a,ds=[b,.list a]/\f b a≠.no:=by
 rcases ds with _|⟨b,_|⟨a,_|⟨y,ys⟩⟩⟩
 ·exact absurd rfl h
 ·exact absurd rfl h
 ·skip
  cases a with
  |list a =>exact⟨_,_,rfl,h⟩
  |_=>exact absurd rfl h
 ·first|exact absurd rfl h|(cases a <;> exact absurd rfl h)
theorem kz (cs:Cs):LLq (dN cs) 2 5 aO:=by
 intro ds hl a;obtain⟨d,xs,g,f⟩:=rL a;clear a;subst g;have a:=f;clear f
 ·skip
  split at a
  ·rename_i hd;split at a
   ·rename_i ns h;have b:=dX h;subst b;obtain⟨e1,sh⟩:=v9 hd;rw[<-e1,fj sh];generalize deE d=e at *;show cy (dN cs [some e.d,some (.list (ns.map PyData.int)),none,none,none,none,none])=_;unfold dN;have a0:dIx e.d (.int 0)=some (.int e.every):=rfl;have a2:dIx e.d (.int 2)=some (.int e.late):=rfl;simp only[bE,pI,ib,bt,bq,ix,Rs.ak,a0,a2,Rs.aF,bB,pP];have i:=pQ e.d (.list (ns.map PyData.int)) e.every e.late ns (0-e.late) none none;have j:mY [] (fb (af 1)) (dS 5) hvB [some e.d,some (.list (ns.map PyData.int)),some (.int e.every),some (.int e.late),some (.int (0-e.late)),none,none]=forL (dS 5) hvB (ns.map PyData.int) [some e.d,some (.list (ns.map PyData.int)),some (.int e.every),some (.int e.late),some (.int (0-e.late)),none,none]:=rfl;show cy (match mY [] (fb (af 1)) (dS 5) hvB [some e.d,some (.list (ns.map PyData.int)),some (.int e.every),some (.int e.late),some (.int (0-e.late)),none,none] with|.nx c=>bp (gC (.bool true)) c|r=>r)=_;rw[j];rcases i with⟨h1,δ,h2⟩|⟨h1,h2⟩
    ·rw[h2];show Rs.ok _=_;unfold hvE;rw[h1]
    ·rw[h2];show Rs.ok _=_;unfold hvE;rw[h1]
   ·exact absurd rfl a
  ·exact absurd rfl a
structure pM (ns:List Int):Prop where
 few:ns.length<=60
 lo:∀c∈ns,0<=c
 hi:∀c∈ns,c<=9999
def rB (ns:List Int):Bool:=decide (ns.length<=60)&&ns.all λc=>decide (0<=c)&&decide (c<=9999)
theorem ic:rB ns=true↔pM ns:=by
 unfold rB;rw[Bs,decide_eq_true_eq,BG];constructor
 ·rintro⟨h1,h2⟩
  refine⟨h1,λc hc=>?_,λc hc=>?_⟩
  ·have:=h2 c hc;rw[Bs,decide_eq_true_eq,decide_eq_true_eq]at this;exact this.1
  ·have:=h2 c hc;rw[Bs,decide_eq_true_eq,decide_eq_true_eq]at this;exact this.2
 ·rintro⟨h1,h2,a⟩
  refine⟨h1,λc hc=>?_⟩;rw[Bs,decide_eq_true_eq,decide_eq_true_eq];exact⟨h2 c hc,a c hc⟩
def eY:Gf
 |[d,.list xs]=>if qN d then (match ia xs with|some ns=>if rB ns then .ok (.bool (hvE (deE d) ns)) else .no|none=>.no) else .no
 |_=>.no
theorem iZ {e:Er} (h:e.Sh) (a:pM ns):eY [e.d,.list (ns.map PyData.int)]=.ok (.bool (hvE e ns)):=by unfold eY;simp only[p7 h,if_true,gm,wd,ic.mpr a]
theorem nr (ns:List Int):aE (.list (ns.map PyData.int))=true:=by
 induction ns with
 |nil=>rfl
 |cons a r ih =>
  have:aE (.list (PyData.int a::r.map PyData.int))=aE (.list (r.map PyData.int)):=by simp[aE,fm]
  rw[BC,this];exact ih
theorem sY (cs:Cs):LLq (cZ cs ar aO) 2 0 eY:=by
 intro ds hl a;obtain⟨d,xs,i,g⟩:=rL a;clear a;subst i;have a:=g;clear g
 ·skip
  split at a
  ·rename_i hd;split at a
   ·rename_i ns j;split at a
    ·rename_i k;have f:=dX j;subst f;obtain⟨e1,sh⟩:=v9 hd;have R:=ic.mp k;rw[<-e1,iZ sh R];generalize deE d=e at *;show cy (cZ cs ar aO [some e.d,some (.list (ns.map PyData.int))])=_;have l:fo "list" (.list (ns.map PyData.int))=some (.bool true):=by unfold fo;rw[if_pos (nr ns)];rfl
     have hc:bY 2 (fb (af 1)) cf (ai ar (ae (af 2) (ae (gC (.int 0)) (ae (gC (.int 9999)) ah)))) bM [some e.d,some (.list (ns.map PyData.int))]=.ok ((ns.map PyData.int).map λd=>.bool (isWhole d 0 9999)) :=
      dD rfl rfl (by have:=R.few;rw[B3];omega) λd b=>by obtain⟨c,hc,rfl⟩:=Bz.mp b;simp only[bH,aR,bN,List.cons_append,C6,bt,bq,ix,Rs.ak];exact fA rfl
     have h:=gQ (λd=>isWhole d 0 9999) (ns.map PyData.int);have ha:(ns.map PyData.int).all (λd=>isWhole d 0 9999)=true:=by rw[BG];intro d b;obtain⟨c,hc,rfl⟩:=Bz.mp b;have h1:=R.lo c hc;have h2:=R.hi c hc;simp[isWhole,h1,h2]
     rw[ha]at h;have hn:¬ ((60:Int)<((ns.map PyData.int).length:Int)):=by have:=R.few;rw[B3];omega
     unfold cZ;simp only[bE,jM,kC,fk,iy,oP,ib,kM,aR,bN,bt,bq,ix,Rs.ak,l,Rs.aF,ee,si,yO,Bool.not_true,Bool.false_eq_true,if_false,decide_eq_false hn,bB,vX,jm,tj,qt,hc,h,bH,fj sh,if_true,ja]
    ·exact absurd rfl a
   ·exact absurd rfl a
  ·exact absurd rfl a
inductive Fa2 {α β:Type} (R:α->β->Prop):List α->List β->Prop where
 |nil:Fa2 R [] []
 |cons {a:α} {b:β} {l:List α} {m:List β} (h:R a b) (t:Fa2 R l m):Fa2 R (a::l) (b::m)
section
variable {es:List Er} {A B:List Int} {x:Int}
end
section
variable {es:List Er} {rs ot:List Int} {n:Int}
end
theorem ji:∀{ds:List PyData},(∀d∈ds,aE d=true)->fm ds=true
 |[],_=>by unfold fm;rfl
 |d::r,h=>by unfold fm;rw[h d By,ji λe a=>h e (Bu _ a)];rfl
theorem b8 (h:∀d∈ds,aE d=true):aE (.tuple ds)=true:=by unfold aE;exact ji h
theorem dz (h:∀d∈ds,aE d=true):aE (.list ds)=true:=by unfold aE;exact ji h
theorem f9 (i:Int):aE (.int i)=true:=by unfold aE;rfl
theorem qF (o:Option Int):aE (kX o)=true:=by cases o <;> (unfold kX aE;rfl)
theorem o8 (p:Int×Option Int):aE (bP p)=true:=b8 λd hd=>by
 rcases B8.mp hd with rfl|hd
 ·exact f9 _
 ·cases B7.mp hd;exact qF _
theorem nV (e:Er):aE e.d=true:=b8 λd hd=>by
 rcases B8.mp hd with rfl|hd
 ·exact f9 _
 ·rcases B8.mp hd with rfl|hd
  ·exact f9 _
  ·rcases B8.mp hd with rfl|hd
   ·exact f9 _
   ·cases B7.mp hd;exact b8 λd hd=>by obtain⟨p,_,rfl⟩:=Bz.mp hd;exact o8 p
theorem qQ (es:List Er):aE (av es)=true:=b8 λd hd=>by obtain⟨p,_,rfl⟩:=Bz.mp hd;exact nV p
theorem kx (rs:List Int):∀d∈rs.map PyData.int,aE d=true:=λd hd=>by obtain⟨p,_,rfl⟩:=Bz.mp hd;exact f9 p
theorem oG (rs:List Int):aE (bw rs)=true:=b8 (kx rs)
end RS
namespace RS
open PySem PySem.Spec PyProof.Rows L2
section
theorem ml {xs:List α} {k:Int} {v:α} (a:0<=k) (h:xs[k.toNat]?=some v):atI xs k=some v:=by
 have:=vT h
 rwa[Int.toNat_of_nonneg a]at this
theorem depthAll_ints:∀ns:List Int,PyData.depthAll (ns.map PyData.int)<=1
 |[]=>by simp[PyData.depthAll]
 |n::r=>by have:=depthAll_ints r;simp only[BC,PyData.depthAll,PyData.depth];omega
theorem jN:∀ns:List Int,PyData.canLayAll0 (ns.map PyData.int)=true
 |[]=>by simp[PyData.canLayAll0]
 |n::r=>by simp[PyData.canLayAll0,PyData.canLay0,jN r]
theorem shaped_ints (ns:List Int):SeqAt.shaped (.list (ns.map PyData.int))=true:=by
 have:=depthAll_ints ns;have h2:(PyData.list (ns.map PyData.int)).depth<=64:=by simp only[PyData.depth];omega
 simp[SeqAt.shaped,PyData.canLay0,jN,h2]
theorem oS:SeqAt.shaped (.list [])=true:=shaped_ints []
theorem uv:∀ns:List Int,PyData.eqv (.list (ns.map PyData.int)) (.list [])=decide (ns=[])
 |[]=>by simp[PyData.eqv,PyData.eqvAll]
 |_::_=>by simp[PyData.eqv,PyData.eqvAll]
def ud (K:PySem.W.Frag):Sp:=λvs H Q _=>∃(a:Addr) (ns:List Int) (k:Int),vs=[.ref a,.int k]/\SqL K H a (ns.map V.int)/\0<=k/\∀H',aw H H'->Q (.int (cellAt ns k)) H'
def wB (K:PySem.W.Frag):Sp:=λvs H Q _=>∃(a:Addr) (ns:List Int) (k many:Int),vs=[.ref a,.int k,.int many]/\SqL K H a (ns.map V.int)/\0<=k/\0<many/\∀H',aw H H'->Q (.int (mixed ns k many)) H'
theorem vO (ds:List PyData) (hl:ds.length=3) (b:aj ds≠.no):∃d,aj ds=.ok d/\lN d=true/\∀vs H Q,Iss K H ds vs->(∀v H',aw H H'->IsD K H' d v->Q v H')->wB K vs H Q E0:=by
 obtain⟨s,k,many,e,c⟩:=jV b;clear b;subst e;have b:=c;clear c
 ·skip
  split at b
  ·rename_i ns f;have es:=fB f;subst es;split at b
   ·rename_i hc;refine⟨_,bI hc.1 hc.2,rfl,λvs H Q hi g=>?_⟩;obtain⟨v0,r0,rfl,h,v1,r1,rfl,h1,v2,r2,rfl,h2,rfl⟩:=hi;obtain⟨a,rfl,i⟩:=h.ofScript;rw[h1.ofInt,h2.ofInt];exact⟨a,ns,k,many,rfl,i,hc.1,hc.2,λH' s'=>g _ _ s' mK⟩
   ·exact absurd rfl b
  ·exact absurd rfl b
end
end RS
namespace RS
open PySem L2
section
variable {es:List Er} {rs:List Int} {n:Int}
end
theorem fL {l:List PyData} (h:aE (.list l)=true):fo "list" (.list l)=some (.bool true):=by unfold fo;rw[h];rfl
theorem sy (ns:List Int) (a top:Int) (ha:0<=a) (g:0<top) (b:top<=58):∃es rs,jT ns a 4 top true=es/\1<=es.length/\es.length<=4/\(∀e∈es,e.Ok)/\ky es.length rs/\aW [aq ns,.int a,.int 4,.int top,.bool true]=.ok (av es)/\bz [aq ns,.int 0,.int (es.length:Int)]=.ok (bw rs):=by have hl:=sT ns a 4 top true (by decide);have hok:=u6 ns a 4 top true g b;have f:aW [aq ns,.int a,.int 4,.int top,.bool true]=.ok (av (jT ns a 4 top true)):=fD ha (by decide) (by decide) g b;generalize jT ns a 4 top true=es at *;have c:=eJ (ns:=ns) (a:=0) (many:=(es.length:Int)) (by decide) (by omega) (by omega);rw[BM]at c;exact⟨es,_,rfl,hl.1,by omega,hok,kc ns 0 es.length,f,c⟩
theorem uN (es:List Er):bR [av es]=some (.int (es.length:Int)):=by unfold av;rw[ya,B3]
theorem lawT_of {G:Ds->Sr} (h:∀ns:List Int,G (some (aq ns)::List.replicate k none)=.rt (.bool true)):∀ds,ds.length=1->eo n ds≠.no->cy (G (ds.map some++List.replicate k none))=eo n ds:=by
 intro ds hl a
 match ds,hl with
 |[s],_ =>
  unfold eo at a ⊢;simp only at a ⊢;split at a
  ·rename_i ns b;have es:=fB b;subst es;split at a
   ·rename_i hc;simp only[d7,if_pos hc];show cy (G (some (aq ns)::List.replicate k none))=_;rw[h];rfl
   ·exact absurd rfl a
  ·exact absurd rfl a
def aA (cs:Cs):Gf
 |[.tuple es,x]=>if aE x then (if isWhole x 0 ((es.length:Int)-1) then .ok x else .rz cs.NoErrand) else .no
 |_=>.no
theorem jA (cs:Cs):LLq (cT cs ar) 2 0 (aA cs):=by
 intro ds hl a;obtain⟨es,x,c,b⟩:=rm a;clear a;subst c;have a:=b;clear b;unfold aA
 ·skip
  split at a
  ·rename_i hd;simp only[hd,if_true];cases e:isWhole x 0 ((es.length:Int)-1) with
   |true=>simp[cT,hd,e]
   |false=>simp[cT,hd,e]
  ·exact absurd rfl a
theorem k9 {es:List Er} (cs:Cs) (h1:1<=es.length) (h2:es.length<=6) (h:∀e∈es,e.Ok):ag cs [av es]=.ok (av es):=by unfold ag;simp[qQ,mi h1 h2 h]
theorem iw {es:List Er} {rs:List Int} (cs:Cs) (h2:es.length<=6) (a:ky es.length rs):ao cs [av es,bw rs]=.ok (bw rs):=by unfold av ao;simp only[B3,oG,oY a,Bool.true_and,if_true];rw[if_pos (by simp;omega)]
inductive Cms:List Er->List (List Int)->Prop
 |nil:Cms [] []
 |cons {e:Er} {r:List Int} {es:List Er} {rows:List (List Int)}:pM r->hvE e r=true->Cms es rows->Cms (e::es) (r::rows)
structure nY (es:List Er):Prop where
 l1:1<=es.length
 l6:es.length<=6
 ok:∀e∈es,e.Ok
structure Jb where
 num:Int
 parts:List (Int×Option Int)
 rank:Int
 row:List Int
 job:Nat
 part:Nat
 spent:Nat
section
variable {j:Jb}
end
def gfG (n k:Nat) (G:Ds->Sr):Gf:=λds=>if ds.length=n then cy (G (ds.map some++List.replicate k none)) else .no
theorem bx {G:Ds->Sr}:∀ds,ds.length=n->gfG n k G ds≠.no->cy (G (ds.map some++List.replicate k none))=gfG n k G ds:=by intro ds hl _;unfold gfG;rw[if_pos hl]
def Jb.tool (j:Jb):Option Int:=(j.parts[j.part]?.map (·.2)).getD none
def Jb.held (j:Jb):Option Int:=if j.spent=0 then none else j.tool
section
variable {j:Jb}
end
instance:Inhabited Jb:=⟨⟨0,[],0,[],0,0,0⟩⟩
def zC (tops:PyData) (t:Int):Int:=match dIx tops (.int t) with
 |some (.int n)=>n
 |_=>0
def zG (tops:PyData) (j:Jb):PyData:=match j.held with
 |none=>.tuple [.int j.rank,.int 1]
 |some t=>.tuple [.int (if zC tops t<j.rank then zC tops t else j.rank),.int 0]
section
variable {cs:Cs} {E R W tops:PyData} {len:Str} {qs:List (Addr×Jb)} {told:List PyData} {x7 x8:Option PyData}
end
section
variable {cs:Cs} {E R W tops:PyData} {len:Str} {qs ts:List (Addr×Jb)} {told:List PyData} {q:Addr×Jb} {as:List Addr}
end
section
variable {cs:Cs} {E R W tops:PyData} {len:Str} {qs ts:List (Addr×Jb)} {told:List PyData} {q:Addr×Jb} {as:List Addr}
end
section
variable {cs:Cs} {E R W tops:PyData} {len:Str} {qs:List (Addr×Jb)} {told:List PyData} {x7 x8:Option PyData}
end
section
variable {cs:Cs} {E R W tops:PyData} {len:Str} {qs:List (Addr×Jb)} {told:List PyData} {as:List Addr}
end
section
variable {cs:Cs} {E R W tops:PyData} {len:Str} {as:List Addr}
end
theorem fH {d:PyData} (hi:i<δ.length) (a:g (mask O δ)=.ok d):bh O i g δ=.nx (δ.set i (some d)):=by unfold bh;rw[if_pos hi,a];rfl
section
variable {es:List Er} {rs:List Int} {rows:List (List Int)}
end
section
variable {es:List Er} {rs:List Int} {rows:List (List Int)} {len:Str} {t:List PyData}
end
section
variable {cs:Cs} {es:List Er} {rs:List Int} {rows:List (List Int)} {len:Str} {t:List PyData}
end
end RS
namespace L2
open PySem PySem.Spec PyProof.Rows
end L2
namespace RS
open PySem L2
section
variable {e:Er} {S A:PyData} {span seed moment:Int} {made:List Int}
end
section
variable {e:Er} {S A:PyData} {span seed moment:Int} {made:List Int}
end
variable {e:Er} {a b:Ds->Rs PyData} {P:PyData->Prop} {ys xs:List PyData} {n x:PyData} {r:Ds->Sr} {c:Ds->Rs Bool}
theorem nW {xs:List α} {v:α} (h:xs[k]?=some v):atI xs (k:Int)=some v:=ml (Int.natCast_nonneg k) (by rw[BM];exact h)
section
variable {js:List Jb} {S E R D:PyData}
theorem dQ {f:PyData->PyData->Option PyData} {y z:PyData} (ha:a δ=.ok x) (c:b δ=.ok y) (e:f x y=some z):g2 f a b δ=.ok z:=by rw[ib,ha,Rs.ak,c,Rs.ak,e];rfl
end
theorem j4 {f:Gf} {a:Ds->Rs (List PyData)} {d:PyData} (ha:a δ=.ok ds) (b:f ds=.ok d):ai f a δ=.ok d:=by rw[bH,ha,Rs.ak,b]
theorem fS {a b:Ds->Sr} {c:Ds} (h:a δ=.nx c):ax a b δ=b c:=by rw[bE,h]
section
variable {es:List Er} {rs:List Int} {rows:List (List Int)} {len:Str}
end
def cQ (cs:Cs):Gf:=gfG 2 0 (j9 cs ar (ag cs))
def au (cs:Cs):Gf:=gfG 3 0 (fU cs (aA cs) (ao cs) (ag cs))
def cH (cs:Cs):Gf:=gfG 3 0 (mO cs (au cs))
def bD (cs:Cs):Gf:=gfG 3 0 (iG cs (au cs))
def bO (cs:Cs):Gf:=gfG 3 0 (jq cs (au cs))
def cg (cs:Cs):Gf:=gfG 3 1 (kR cs (au cs))
def ba (cs:Cs):Gf:=gfG 3 5 (gx cs (au cs))
def aY (cs:Cs):Gf:=gfG 3 0 (fO cs (au cs))
def aH (cs:Cs):Gf:=gfG 3 0 (dW cs (au cs))
def cL (cs:Cs):Gf:=gfG 3 1 (mI cs (au cs))
def cu (cs:Cs):Gf:=gfG 4 0 (gK cs (au cs))
def cG (cs:Cs):Gf:=gfG 4 1 (iJ cs (au cs))
def eG (cs:Cs):Gf:=gfG 2 0 (mn cs (aA cs) (ag cs))
def cq (cs:Cs):Gf:=gfG 2 0 (cZ cs ar aO)
def aB (cs:Cs):Gf:=gfG 2 0 (dO cs (cq cs) (ag cs))
def fh (cs:Cs):Gf:=gfG 4 5 (jf cs)
def bf (cs:Cs):Gf:=gfG 4 0 (oO cs (aB cs) (fh cs) (ao cs) (ag cs))
def bF (cs:Cs):Gf:=gfG 2 3 (fN cs)
def bj (cs:Cs):Gf:=gfG 4 0 (dh cs (bf cs) (bF cs))
def aS (cs:Cs):Gf:=gfG 2 1 (bL cs az ar)
def aP (cs:Cs):Gf:=gfG 3 4 (ff cs (aS cs) (ao cs) (ag cs))
def cI (cs:Cs):Gf:=gfG 2 0 (iK cs (ao cs) (ag cs))
def cM (cs:Cs):Gf:=gfG 2 0 (iH cs (ao cs) (ag cs))
def bZ (cs:Cs):Gf:=gfG 3 0 (dY cs (bf cs) (bj cs) (cH cs) (bD cs) (bO cs) (cg cs) (ba cs) (cI cs) (cM cs) (aY cs) (aH cs) (cL cs) (aP cs))
def ft (cs:Cs):Gf:=gfG 1 0 (iQ cs (ag cs))
def cN (cs:Cs):Gf:=gfG 1 1 (kB cs (ag cs))
def c7 (cs:Cs):Gf:=gfG 1 1 (gB cs (cN cs))
def cU (cs:Cs):Gf:=gfG 1 1 (eH cs (ag cs))
def ir (cs:Cs):Gf:=gfG 1 0 (kv cs (ag cs))
def eR (cs:Cs):Gf:=gfG 2 0 (gY cs (ag cs))
def fu (cs:Cs):Gf:=gfG 1 2 (iM cs (ag cs))
def eQ (cs:Cs):Gf:=gfG 1 2 (gX cs (ag cs))
def eP (cs:Cs):Gf:=gfG 1 3 (gZ cs (ag cs))
def bU (cs:Cs):Gf:=gfG 2 0 (dR cs (eR cs) (cu cs) (cG cs) (aP cs) (aY cs) (aH cs) (cL cs) (fu cs) (eQ cs) (eP cs))
def bJ (cs:Cs):Gf:=gfG 2 0 (dj cs (bf cs) (bj cs) (cH cs) (bD cs) (bO cs) (cg cs) (ba cs) (eG cs) (cI cs) (aB cs) (cM cs) (cQ cs) (ag cs) (ft cs) (cN cs) (c7 cs) (cU cs) (ir cs) (bU cs))
def cn (cs:Cs):Gf:=gfG 4 4 (gM cs (cQ cs) (cH cs) (bD cs) (bO cs) (cg cs) (ba cs) (aY cs) (aH cs) (cL cs) (cu cs) (cG cs) (eG cs) (bf cs) (bj cs) (aB cs) (aP cs) (bZ cs) (bJ cs))
theorem kT {n:Nat} {G:Ds->Sr} {r:Rs PyData} (hl:ds.length=n) (h:cy (G (ds.map some++List.replicate k none))=r):gfG n k G ds=r:=by unfold gfG;rw[if_pos hl,h]
theorem ay {n:Nat} {G:Ds->Sr} (hl:ds.length=n) (h:G (ds.map some++List.replicate k none)=.rz C):gfG n k G ds=.rz C:=kT hl (by rw[h];rfl)
theorem ej (h:g δ=.rz C):ax (aU g) r δ=.rz C:=by rw[bE,mq,h];rfl
theorem vn {d:PyData} (h:g δ=.ok d):ax (aU g) r δ=r δ:=by rw[bE,mq,h];rfl
theorem sM (h:g δ=.rz C):aU g δ=.rz C:=by rw[mq,h];rfl
theorem fI (h:g δ=.rz C):bp g δ=.rz C:=by rw[jm,h];rfl
theorem xK (hi:i<δ.length) (h:g (mask O δ)=.rz C):ax (bh O i g) r δ=.rz C:=by rw[bE];unfold bh;rw[if_pos hi,h];rfl
theorem br {t:Bool} (hc:c δ=.ok t) (a:t=true->g δ=.rz C) (b:t=false->r δ=.rz C):ax (sIf c (bp g) a4) r δ=.rz C:=by
 rw[bE,jM,hc,bB];cases t with
 |true=>rw[if_pos rfl,fI (a rfl)]
 |false=>rw[if_neg Bx];exact b rfl
theorem brS {t:Bool} {a:Ds->Sr} (hc:c δ=.ok t) (b:t=true->a δ=.rz C) (e:t=false->r δ=.rz C):ax (sIf c a a4) r δ=.rz C:=by
 rw[bE,jM,hc,bB];cases t with
 |true=>rw[if_pos rfl,b rfl]
 |false=>rw[if_neg Bx];exact e rfl
theorem cE {gfs:List Gf} {gk:Ds->Rs PyData} {i:Int} (b:gk δ=.ok (.int i)) (c:0<=i) (h1:i<gfs.length) (e:gs δ=.ok ds) (h:∀gf∈gfs,gf ds=.rz C):cV gfs gk gs δ=.rz C:=by
 unfold cV;rw[b,Rs.ak];obtain⟨k,rfl⟩:=Int.eq_ofNat_of_zero_le c;have a:k<gfs.length:=by omega
 have ha:atI gfs (k:Int)=some gfs[k]:=nW (B2 a);show (match atI gfs (k:Int) with|some gf=>(gs δ).bind gf|none=>Rs.no)=_;rw[ha];show (gs δ).bind gfs[k]=_;rw[e,Rs.ak];exact h _ (List.getElem_mem a)
theorem eqT {x:Int} (ha:a δ=.ok (.int x)) (c:b δ=.ok (.int y)):gT (g2 dEq a b) δ=.ok (x==y):=by rw[iy,dQ ha c (sO _ _),Rs.ak,ee]
theorem eqF {x:Int} (h:(x==y)=false):x≠y:=by rw[beq_eq_false_iff_ne]at h;exact h
theorem uH {x:Int} (h:(x==y)=true):x=y:=eq_of_beq h
theorem jC {x:Int} (ha:a δ=.ok (.int x)) (c:b δ=.ok (.int y)) (h:0<y):g2 cw a b δ=.ok (.int (x % y)):=dQ ha c (by rw[wc,if_pos h])
theorem Ad {x:Int} (ha:a δ=.ok (.int x)) (c:b δ=.ok (.int y)) (h:0<y) (h1:y<1073741824):g2 ki a b δ=.ok (.int (x / y)):=dQ ha c (by rw[we,if_pos ⟨h,h1⟩])
theorem aI {p:α->Prop} {a:α} {l:List α} (ha:p a) (hl:∀x∈l,p x):∀x∈a::l,p x:=λx b=>by
 rcases B8.mp b with rfl|b
 ·exact ha
 ·exact hl x b
theorem gj {p:α->Prop}:∀x∈([]:List α),p x:=λ_ h=>nomatch h
section
variable {cs:Cs} {d:PyData}
theorem pN (r n:PyData) (h:ag cs [d]=.rz cs.NoErrands):au cs [d,r,n]=.rz cs.NoErrands:=ay rfl (ej (δ:=[some d,some r,some n]) (g:=ai (ag cs) (ae (af 0) ah)) h)
theorem uE {w:Int} (l:0<=w) (h1:w<10) (h:ag cs [d]=.rz cs.NoErrands):bU cs [.int w,d]=.rz cs.NoErrands:=by
 have m:=λr n=>pN (cs:=cs) r n h
 have f1:∀{k:Nat} {r:Ds->Sr} {xs:List PyData},ax (aU (ai (ag cs) (ae (af 0) ah))) r ((d::xs).map some++List.replicate k none)=.rz cs.NoErrands:=λ{k r xs}=>ej (δ:=(d::xs).map some++List.replicate k none) (g:=ai (ag cs) (ae (af 0) ah)) h
 have a:∀{k:Nat} {r:Ds->Sr} {b c:PyData} {xs:List PyData},ax (aU (ai (au cs) (ae (af 0) (ae (af 1) (ae (af 2) ah))))) r ((d::b::c::xs).map some++List.replicate k none)=.rz cs.NoErrands:=λ{k r b c xs}=>ej (δ:=(d::b::c::xs).map some++List.replicate k none) (g:=ai (au cs) (ae (af 0) (ae (af 1) (ae (af 2) ah)))) (m b c)
 refine ay rfl ?_;refine br (t:=decide (w<3)) rfl (λq=>?_) λq=>?_
 ·have q:=of_decide_eq_true q;exact cE (ds:=[d]) (i:=w) rfl l (by show w<3;omega) rfl (aI (ay rfl f1) (aI (ay rfl f1) (aI (ay rfl f1) gj)))
 have q:=of_decide_eq_false q;refine br (t:=decide (w<6)) rfl (λe=>?_) λe=>?_
 ·have e:=of_decide_eq_true e;exact cE (ds:=[d,.none,.none]) (i:=w-3) rfl (by omega) (by show w-3<3;omega) rfl (aI (ay rfl a) (aI (ay rfl a) (aI (ay rfl a) gj)))
 have e:=of_decide_eq_false e;refine br (eqT rfl rfl) (λf=>?_) λf=>?_
 ·exact ay (ds:=[d,.none,.none]) rfl f1
 have f:=eqF f;refine br (t:=decide (w<9)) rfl (λj=>?_) λj=>?_
 ·have j:=of_decide_eq_true j;exact cE (ds:=[d,.none,.none,.none]) (i:=w-7) rfl (by omega) (by show w-7<2;omega) rfl (aI (ay rfl a) (aI (ay rfl a) gj))
 exact fI (ay (ds:=[d,.none]) rfl f1)
theorem xZ {w:Int} (o:0<=w) (h1:w<28) (h:ag cs [d]=.rz cs.NoErrands):bJ cs [.int w,d]=.rz cs.NoErrands:=by
 have p:=λr n=>pN (cs:=cs) r n h
 have f1:∀{k:Nat} {r:Ds->Sr} {xs:List PyData},ax (aU (ai (ag cs) (ae (af 0) ah))) r ((d::xs).map some++List.replicate k none)=.rz cs.NoErrands:=λ{k r xs}=>ej (δ:=(d::xs).map some++List.replicate k none) (g:=ai (ag cs) (ae (af 0) ah)) h
 have e:∀{k:Nat} {r:Ds->Sr} {b c:PyData} {xs:List PyData},ax (aU (ai (au cs) (ae (af 0) (ae (af 1) (ae (af 2) ah))))) r ((d::b::c::xs).map some++List.replicate k none)=.rz cs.NoErrands:=λ{k r b c xs}=>ej (δ:=(d::b::c::xs).map some++List.replicate k none) (g:=ai (au cs) (ae (af 0) (ae (af 1) (ae (af 2) ah)))) (p b c)
 have fn:cN cs [d]=.rz cs.NoErrands:=ay rfl f1;have s:c7 cs [d]=.rz cs.NoErrands:=ay rfl (xK (O:=[]) (i:=1) (δ:=[some d,none]) (g:=ai (cN cs) (ae (af 0) ah)) (show 1<2 by decide) fn);have m:∀a b c,bf cs [d,a,b,c]=.rz cs.NoErrands:=λa b c=>ay rfl f1
 have u:∀a b c,bj cs [d,a,b,c]=.rz cs.NoErrands:=λa b c=>kT rfl (by
  have e1:ai (bf cs) (ae (af 0) (ae (af 1) (ae (af 2) (ae (af 3) ah)))) [some d,some a,some b,some c]=.rz cs.NoErrands:=m a b c;have e2:ai (bF cs) (ae (af 2) (ae (ai (bf cs) (ae (af 0) (ae (af 1) (ae (af 2) (ae (af 3) ah))))) ah)) [some d,some a,some b,some c]=.rz cs.NoErrands:=by rw[bH,aR,show af 2 [some d,some a,some b,some c]=.ok b from rfl,Rs.ak,aR,e1];rfl
  show cy (dh cs (bf cs) (bF cs) [some d,some a,some b,some c])=_;unfold dh;rw[bE,fI e2];rfl)
 refine ay rfl ?_;refine br (t:=decide (17<w)) rfl (λq=>?_) λq=>?_
 ·have q:=of_decide_eq_true q;exact uE (w:=w-18) (by omega) (by omega) h
 have q:=of_decide_eq_false q;refine br (t:=decide (w<6)) rfl (λf=>?_) λf=>?_
 ·have f:=of_decide_eq_true f;exact cE (ds:=[d]) (i:=w) rfl o (by show w<6;omega) rfl (aI h (aI (ay rfl f1) (aI fn (aI s (aI (ay rfl f1) (aI (ay rfl f1) gj))))))
 have f:=of_decide_eq_false f;refine br (t:=decide (w<11)) rfl (λj=>?_) λj=>?_
 ·have j:=of_decide_eq_true j;exact cE (ds:=[d,.none]) (i:=w-6) rfl (by omega) (by show w-6<5;omega) rfl (aI (ay rfl f1) (aI (ay rfl f1) (aI (ay rfl f1) (aI (ay rfl f1) (aI (ay rfl f1) gj)))))
 have j:=of_decide_eq_false j;refine br (t:=decide (w<16)) rfl (λl=>?_) λl=>?_
 ·have l:=of_decide_eq_true l;exact cE (ds:=[d,.none,.none]) (i:=w-11) rfl (by omega) (by show w-11<5;omega) rfl (aI (ay rfl e) (aI (ay rfl e) (aI (ay rfl e) (aI (ay rfl e) (aI (ay rfl e) gj)))))
 exact fI (cE (ds:=[d,.none,.none,.str "high"]) (i:=w % 2) (jC rfl rfl (by decide)) (by omega) (by show w % 2<2;omega) rfl (aI (m _ _ _) (aI (u _ _ _) gj)))
end
section
variable {cs:Cs} {es:List Er} {r:PyData}
theorem tq {a b:Ds->Sr} (h:a δ=.rz C):ax a b δ=.rz C:=by rw[bE,h]
theorem gH {b:Ds->Sr} (h1:g δ=.ok x) (h2:b δ=.rz C):ax (aU g) b δ=.rz C:=(vn h1).trans h2
theorem rC {b c e f:PyData} (h:bf cs [b,c,e,f]=.rz C):bj cs [b,c,e,f]=.rz C:=ay rfl (by
 have e1:ai (bf cs) (ae (af 0) (ae (af 1) (ae (af 2) (ae (af 3) ah)))) [some b,some c,some e,some f]=.rz C:=h;have e2:ai (bF cs) (ae (af 2) (ae (ai (bf cs) (ae (af 0) (ae (af 1) (ae (af 2) (ae (af 3) ah))))) ah)) [some b,some c,some e,some f]=.rz C:=by rw[bH,aR,show af 2 [some b,some c,some e,some f]=.ok e from rfl,Rs.ak,aR,e1];rfl
 show dh cs (bf cs) (bF cs) [some b,some c,some e,some f]=_;unfold dh;exact tq (fI e2))
theorem xH {w:Int} (m:0<=w) (h1:w<13) (o:ag cs [av es]=.ok (av es)) (h:ao cs [av es,r]=.rz cs.NoRanks):bZ cs [.int w,av es,r]=.rz cs.NoRanks:=by
 have f2:∀{k:Nat} {s:Ds->Sr} {xs:List PyData},ax (aU (ai (ag cs) (ae (af 0) ah))) (ax (aU (ai (ao cs) (ae (af 0) (ae (af 1) ah)))) s) ((av es::r::xs).map some++List.replicate k none)=.rz cs.NoRanks:=λ{k s xs} =>
  gH (δ:=(av es::r::xs).map some++List.replicate k none) (g:=ai (ag cs) (ae (af 0) ah)) o (ej (δ:=(av es::r::xs).map some++List.replicate k none) (g:=ai (ao cs) (ae (af 0) (ae (af 1) ah))) h)
 have p:∀n,au cs [av es,r,n]=.rz cs.NoRanks:=λn=>ay rfl f2
 have a:∀{k:Nat} {s:Ds->Sr} {c:PyData} {xs:List PyData},ax (aU (ai (au cs) (ae (af 0) (ae (af 1) (ae (af 2) ah))))) s ((av es::r::c::xs).map some++List.replicate k none)=.rz cs.NoRanks:=λ{k s c xs}=>ej (δ:=(av es::r::c::xs).map some++List.replicate k none) (g:=ai (au cs) (ae (af 0) (ae (af 1) (ae (af 2) ah)))) (p c)
 have l:∀b c,bf cs [av es,r,b,c]=.rz cs.NoRanks:=λb c=>ay rfl f2
 refine ay rfl ?_;refine br (t:=decide (11<w)) rfl (λq=>?_) λq=>?_
 ·exact ay (ds:=[av es,r,.none]) rfl f2
 have q:=of_decide_eq_false q;refine br (t:=decide (8<w)) rfl (λe=>?_) λe=>?_
 ·have e:=of_decide_eq_true e;exact cE (ds:=[av es,r,.none]) (i:=w-9) rfl (by omega) (by show w-9<3;omega) rfl (aI (ay rfl a) (aI (ay rfl a) (aI (ay rfl a) gj)))
 have e:=of_decide_eq_false e;refine br (t:=decide (w<2)) rfl (λf=>?_) λf=>?_
 ·have f:=of_decide_eq_true f;exact cE (ds:=[av es,r]) (i:=w) rfl m (by show w<2;omega) rfl (aI (ay rfl f2) (aI (ay rfl f2) gj))
 have f:=of_decide_eq_false f;refine br (t:=decide (w<7)) rfl (λj=>?_) λj=>?_
 ·have j:=of_decide_eq_true j;exact cE (ds:=[av es,r,.none]) (i:=w-2) rfl (by omega) (by show w-2<5;omega) rfl (aI (ay rfl a) (aI (ay rfl a) (aI (ay rfl a) (aI (ay rfl a) (aI (ay rfl a) gj)))))
 exact fI (cE (ds:=[av es,r,.none,.str "high"]) (i:=w % 2) (jC rfl rfl (by decide)) (by omega) (by show w % 2<2;omega) rfl (aI (l _ _) (aI (rC (l _ _)) gj)))
theorem u9 (a:ag cs [av es]=.ok (av es)) {b:PyData} (c:ao cs [av es,r]=.ok b) (h:aA cs [av es,n]=.rz cs.NoErrand):au cs [av es,r,n]=.rz cs.NoErrand :=
 ay rfl (gH (δ:=[some (av es),some r,some n]) (g:=ai (ag cs) (ae (af 0) ah)) a (gH (δ:=[some (av es),some r,some n]) (g:=ai (ao cs) (ae (af 0) (ae (af 1) ah))) c (sM (δ:=[some (av es),some r,some n]) (g:=ai (aA cs) (ae (af 0) (ae (af 2) ah))) h)))
theorem xw (a:ag cs [av es]=.ok (av es)) (h:aA cs [av es,n]=.rz cs.NoErrand):eG cs [av es,n]=.rz cs.NoErrand :=
 ay rfl (gH (δ:=[some (av es),some n]) (g:=ai (ag cs) (ae (af 0) ah)) a (ej (δ:=[some (av es),some n]) (g:=ai (aA cs) (ae (af 0) (ae (af 1) ah))) h))
theorem ij (a:ag cs [av es]=.ok (av es)) (hd:aE n=true) (h:isWhole n 1 4=false):cQ cs [av es,n]=.rz cs.NoNumber:=by refine ay rfl (gH (δ:=[some (av es),some n]) (g:=ai (ag cs) (ae (af 0) ah)) a ?_);have hw:ai ar (ae (af 1) (ae (gC (.int 1)) (ae (gC (.int 4)) ah))) [some (av es),some n]=.ok (.bool false):=(fA hd).trans (by rw[h]);refine tq ?_;rw[jM,fk,iy,hw];rfl
theorem f7 (hd:aE n=true) (h:isWhole n 0 ((es.length:Int)-1)=false):aA cs [av es,n]=.rz cs.NoErrand:=by show (if aE n=true then (if isWhole n 0 (((es.map Er.d).length:Int)-1) then Rs.ok n else .rz cs.NoErrand) else .no)=_;rw[if_pos hd,B3,h];rfl
theorem fZ (l6:es.length<=6) (hd:aE r=true) (h:dP es.length r=false):ao cs [av es,r]=.rz cs.NoRanks:=by show (if (aE r&&decide ((es.map Er.d).length<=100))=true then (if dP (es.map Er.d).length r then Rs.ok r else .rz cs.NoRanks) else .no)=_;rw[B3,hd,decide_eq_true (by omega),h];rfl
theorem d6 {d:PyData} (hd:aE d=true) (h:cx d=false):ag cs [d]=.rz cs.NoErrands:=by show (if aE d=true then (if cx d then Rs.ok d else .rz cs.NoErrands) else .no)=_;rw[if_pos hd,h];rfl
end
section
variable {cs:Cs} {es:List Er}
theorem iY (h:gs δ=.ok ds):eI C gs δ=.rz C:=by rw[sN,h];rfl
theorem nz (h:e.Sh) (a:pM ns):cq cs [e.d,.list (ns.map PyData.int)]=.ok (.bool (hvE e ns)):=by have h1:=iZ h a;have:=sY cs [e.d,.list (ns.map PyData.int)] rfl (by rw[h1];nofun);exact kT rfl (this.trans h1)
theorem lG (h:fo "list" x=some (.bool false)):cq cs [e.d,x]=.ok (.bool false):=by
 refine kT rfl ?_;show cy (cZ cs ar aO [some e.d,some x])=_;unfold cZ;have hc:cOr (eu (gT (g1 (fo "list") (af 1)))) (gT (g2 dGt (gF bR (ae (af 1) ah)) (gC (.int 60)))) [some e.d,some x]=.ok true:=by rw[kC,fk,iy,oP,show af 1 [some e.d,some x]=.ok x from rfl,Rs.ak,h];rfl
 rw[bE,jM,hc];rfl
theorem p9 (hd:aE x=true) (h:isWhole x 0 9999=false):cq cs [e.d,.list [x]]=.ok (.bool false):=by
 refine kT rfl ?_;show cy (cZ cs ar aO [some e.d,some (.list [x])])=_;unfold cZ;have b:aE (.list [x])=true:=dz λd a=>by rw[B7.mp a];exact hd
 have c:fo "list" (.list [x])=some (.bool true):=fL b;have hc:cOr (eu (gT (g1 (fo "list") (af 1)))) (gT (g2 dGt (gF bR (ae (af 1) ah)) (gC (.int 60)))) [some e.d,some (.list [x])]=.ok false:=by rw[kC,fk,iy,oP,show af 1 [some e.d,some (.list [x])]=.ok (.list [x]) from rfl,Rs.ak,c];rfl
 have f:bY 2 (fb (af 1)) cf (ai ar (ae (af 2) (ae (gC (.int 0)) (ae (gC (.int 9999)) ah)))) bM [some e.d,some (.list [x])]=.ok ([x].map λd=>.bool (isWhole d 0 9999)) :=
  dD rfl rfl (by show 1<=1000000;decide) λd a=>by rw[B7.mp a];exact fA hd
 have g:gF jQ (ae (gL (bY 2 (fb (af 1)) cf (ai ar (ae (af 2) (ae (gC (.int 0)) (ae (gC (.int 9999)) ah)))) bM)) ah) [some e.d,some (.list [x])]=.ok (.bool false):=by rw[kM,aR,bN,qt,f,Rs.ak,Rs.ak,Rs.ak];show Rs.cW (jQ [.list [.bool (isWhole x 0 9999)]])=_;rw[h];rfl
 rw[bE,jM,hc,bB,if_neg Bx];show cy (bp _ _)=_;rw[jm,tj,g];rfl
theorem rP (h:e.Ok):cq cs [e.d,.list [.int 5,.int 5]]=.ok (.bool false):=by
 have h1:=nz (cs:=cs) (ns:=[5,5]) h.sh (ic.mp (by decide));have h2:hvE e [5,5]=false:=by have l3:=h.l3;have l1:=h.l1;have a:(if (5:Int)-e.late>0-e.late then 5-e.late else 0-e.late)=5-e.late:=if_pos (by omega);show (if (5:Int)<(if (5:Int)-e.late>0-e.late then 5-e.late else 0-e.late) then false else hvM e.every e.late ((if (5:Int)-e.late>0-e.late then 5-e.late else 0-e.late)+e.every) [5])=false;rw[a,if_neg (by omega)];show (if (5:Int)<(if (5:Int)-e.late>5-e.late+e.every then 5-e.late else 5-e.late+e.every) then false else _)=false;rw[if_neg (show ¬ ((5:Int)-e.late>5-e.late+e.every) by omega),if_pos (by omega)]
 rw[h2]at h1;exact h1
theorem lF {gf:Gf} {p:PyData->Bool} {a b:Option PyData}:∀(es:List Er) (ys:List PyData),es.length=ys.length->(∀e∈es,∀y∈ys,gf [e.d,y]=.ok (.bool (p y)))->eN cf (ai gf (ae (af 2) (ae (af 3) ah))) jc [a,b] (lp (es.map Er.d) ys)=.ok (ys.map λy=>.bool (p y))
 |[],[],_,_=>rfl
 |[],_::_,hl,_=>by cases hl
 |_::_,[],hl,_=>by cases hl
 |e::es,y::ys,hl,h=>by
  have c:=lF (gf:=gf) (p:=p) (a:=a) (b:=b) es ys (by simpa using hl) λx f z g=>h x (Bu _ f) z (Bu _ g)
  show eN _ _ _ _ (PyData.tuple [e.d,y]::lp (es.map Er.d) ys)=_;unfold eN;rw[show jc (PyData.tuple [e.d,y])=some [some e.d,some y] from rfl];have i:ai gf (ae (af 2) (ae (af 3) ah)) ([a,b]++[some e.d,some y])=.ok (.bool (p y)):=h e By y By;simp only[cf,Rs.iu,Rs.ak,if_true,i,c,BC]
theorem nP (a:ag cs [av es]=.ok (av es)) (h:fo "list" x=some (.bool false)):aB cs [av es,x]=.rz cs.NoComings:=by refine ay rfl (gH (δ:=[some (av es),some x]) (g:=ai (ag cs) (ae (af 0) ah)) a (brS (t:=true) ?_ (λ_=>iY rfl) λq=>by cases q));rw[kC,fk,iy,oP,show af 1 [some (av es),some x]=.ok x from rfl,Rs.ak,h];rfl
theorem sH (c:ag cs [av es]=.ok (av es)) (hd:aE (.list ys)=true) (h:ys.length≠es.length):aB cs [av es,.list ys]=.rz cs.NoComings:=by refine ay rfl (gH (δ:=[some (av es),some (.list ys)]) (g:=ai (ag cs) (ae (af 0) ah)) c (brS (t:=true) ?_ (λ_=>iY rfl) λq=>by cases q));rw[kC,fk,iy,oP,show af 1 [some (av es),some (.list ys)]=.ok (.list ys) from rfl,Rs.ak,fL hd,Rs.aF,Rs.ak,ee,Rs.ak,Rs.ak,if_neg (by decide)];have hn:=dQ (f:=dNe) (a:=gF bR (ae (af 1) ah)) (b:=gF bR (ae (af 0) ah)) (δ:=[some (av es),some (.list ys)]) (x:=.int (ys.length:Int)) (y:=.int ((es.map Er.d).length:Int)) rfl rfl (wA _ _);rw[iy,hn,Rs.ak,ee,B3];rw[show ((ys.length:Int)==(es.length:Int))=false by rw[beq_eq_false_iff_ne];omega];rfl
theorem xM {p:PyData->Bool} (i:ag cs [av es]=.ok (av es)) (l6:es.length<=6) (hd:aE (.list ys)=true) (hl:ys.length=es.length) (h:∀e∈es,∀y∈ys,cq cs [e.d,y]=.ok (.bool (p y))) (j:ys.all p=false):aB cs [av es,.list ys]=.rz cs.NoComings:=by
 refine ay rfl (gH (δ:=[some (av es),some (.list ys)]) (g:=ai (ag cs) (ae (af 0) ah)) i (brS (t:=false) ?_ (λq=>by cases q) λ_=>brS (t:=true) ?_ (λ_=>iY rfl) λq=>by cases q))
 ·rw[kC,fk,iy,oP,show af 1 [some (av es),some (.list ys)]=.ok (.list ys) from rfl,Rs.ak,fL hd,Rs.aF,Rs.ak,ee,Rs.ak,Rs.ak,if_neg (by decide)];have hn:=dQ (f:=dNe) (a:=gF bR (ae (af 1) ah)) (b:=gF bR (ae (af 0) ah)) (δ:=[some (av es),some (.list ys)]) (x:=.int (ys.length:Int)) (y:=.int ((es.map Er.d).length:Int)) rfl rfl (wA _ _);rw[iy,hn,Rs.ak,ee,B3,hl,beq_self_eq_true];rfl
 ·have k:bY 2 (uB (ae (af 0) (ae (af 1) ah))) cf (ai (cq cs) (ae (af 2) (ae (af 3) ah))) jc [some (av es),some (.list ys)]=.ok (ys.map λy=>.bool (p y)):=by
   unfold bY;rw[if_pos (show [some (av es),some (.list ys)].length=2 from rfl)];have l:uB (ae (af 0) (ae (af 1) ah)) [some (av es),some (.list ys)]=.ok (lp (es.map Er.d) ys):=by show (if ys.length=(es.map Er.d).length then Rs.ok (lp (es.map Er.d) ys) else Rs.no)=_;exact if_pos (by rw[B3];exact hl)
   rw[l];simp only[Rs.ak];rw[if_pos (by unfold lp;rw[List.length_zipWith,B3];omega)];exact lF es ys hl.symm h
  have c:=gQ p ys;rw[j]at c;rw[fk,iy,kM,aR,bN,qt,k,Rs.ak,Rs.ak,Rs.ak,Rs.ak,c];rfl
theorem tT {r l:PyData} (a:ag cs [av es]=.ok (av es)) (b:ao cs [av es,r]=.ok r) (h:aB cs [av es,x]=.rz cs.NoComings):bf cs [av es,r,x,l]=.rz cs.NoComings:=by refine ay rfl (gH (δ:=[some (av es),some r,some x,some l]) (g:=ai (ag cs) (ae (af 0) ah)) a (gH (δ:=[some (av es),some r,some x,some l]) (g:=ai (ao cs) (ae (af 0) (ae (af 1) ah))) b (tq (fI ?_))));have e1:ai (aB cs) (ae (af 0) (ae (af 2) ah)) [some (av es),some r,some x,some l]=.rz cs.NoComings:=h;show ai (fh cs) (ae (af 0) (ae (af 1) (ae (ai (aB cs) (ae (af 0) (ae (af 2) ah))) (ae (af 3) ah)))) [some (av es),some r,some x,some l]=_;rw[bH,aR,show af 0 [some (av es),some r,some x,some l]=.ok (av es) from rfl,Rs.ak,aR,show af 1 [some (av es),some r,some x,some l]=.ok r from rfl,Rs.ak,aR,e1];rfl
end
theorem aJ {r:Ds->Rs (List PyData)} (ha:a δ=.ok x) (b:r δ=.ok xs):ae a r δ=.ok (x::xs):=by rw[aR,ha,Rs.ak,b];rfl
theorem kF {a:Ds->Rs (List PyData)} (h:a δ=.ok xs):bu a δ=.ok (.list xs):=by rw[oJ,h];rfl
theorem zt {a:Ds->Rs (List PyData)} (h:a δ=.ok xs):dm a δ=.ok (.tuple xs):=by rw[mf,h];rfl
theorem rD {i:Int} (b:0<=i) (h1:i<L.length) (c:∀d∈L,P d):∃d,dIx (.list L) (.int i)=some d/\P d:=by
 obtain⟨k,rfl⟩:=Int.eq_ofNat_of_zero_le b;have a:k<L.length:=by omega
 exact⟨L[k],nW (B2 a),c _ (List.getElem_mem a)⟩
theorem jv {c m:Int} (ha:a δ=.ok (.list L)) (e:b δ=.ok (.int c)) (hm:0<m) (hl:m=L.length) (f:∀d∈L,P d):∃d,g2 dIx a (g2 cw b (gC (.int m))) δ=.ok d/\P d:=by have q:=C7 c (show m≠0 by omega);have q2:=BX c hm;obtain⟨d,h1,h2⟩:=rD (L:=L) (i:=c % m) q (by omega) f;exact⟨d,dQ ha (jC e rfl hm) h1,h2⟩
theorem AQ (e:Er):qM e.d none (some 3)=some (.tuple [.int e.every,.int e.due,.int e.late]):=rfl
theorem sv {x y:List PyData} (h:x.length+y.length<=1000):aT (.tuple x) (.tuple y)=some (.tuple (x++y)):=if_pos (by omega)
theorem add_l {x y:List PyData} (h:x.length+y.length<=1000):aT (.list x) (.list y)=some (.list (x++y)):=if_pos (by omega)
theorem yT {x:List PyData}:cutD x (some 1) none=x.drop 1:=tK (k:=1)
theorem AH {x:List PyData}:cutD x none (some 1)=x.take 1:=xi (k:=1)
section
variable {cs:Cs} {es:List Er} {rs:List Int} {c:Int} {x5 x6 x7:Option PyData} {k w:PyData}
theorem A6 (ok:nY es):∃d,g2 dIx (bu (ae (gC .none) (ae (gF jJ (ae (af 0) ah)) (ae (dm ah) (ae (dm (ae (bo (g2 dIx (af 0) (gC (.int 0))) a5 (b9 (gC (.int 3)))) ah)) (ae (gC (.int 5)) (ae (gC (.str "errands")) ah))))))) (g2 cw (af 3) (gC (.int 6))) [some (av es),some (bw rs),some k,some (.int c),some w,x5,x6,x7]=.ok d/\ag cs [d]=.rz cs.NoErrands:=by
 have l1:=ok.l1;have a:g2 dIx (af 0) (gC (.int 0)) [some (av es),some (bw rs),some k,some (.int c),some w,x5,x6,x7]=.ok (nI es 0).d:=dQ rfl rfl (show dIx (av es) (.int 0)=_ from vi (by decide) (by omega));have h1:bo (g2 dIx (af 0) (gC (.int 0))) a5 (b9 (gC (.int 3))) [some (av es),some (bw rs),some k,some (.int c),some w,x5,x6,x7]=.ok (.tuple [.int (nI es 0).every,.int (nI es 0).due,.int (nI es 0).late]):=by rw[rN,a,Rs.ak,qm,Rs.ak];show Rs.cW (qM (nI es 0).d none (some 3))=_;rw[AQ];rfl
 refine jv (m:=6) (kF (aJ rfl (aJ rfl (aJ rfl (aJ (zt (aJ h1 rfl)) (aJ rfl (aJ rfl rfl))))))) rfl (by decide) rfl (aI ?_ (aI ?_ (aI ?_ (aI ?_ (aI ?_ (aI ?_ gj))))))
 ·exact d6 rfl rfl
 ·exact d6 (dz λd hd=>by obtain⟨p,_,rfl⟩:=Bz.mp hd;exact nV p) rfl
 ·exact d6 rfl rfl
 ·exact d6 rfl rfl
 ·exact d6 rfl rfl
 ·exact d6 rfl rfl
theorem Az (ok:nY es) (i:ky es.length rs):∃d,g2 dIx (bu (ae (gC .none) (ae (gF jJ (ae (af 1) ah)) (ae (g2 aT (af 1) (bo (af 1) a5 (b9 (gC (.int 1))))) (ae (dm ah) (ae (g2 aT (bo (af 1) (b9 (gC (.int 1))) a5) (dm (ae (gF bR (ae (af 1) ah)) ah))) (ae (g2 aT (bo (af 1) (b9 (gC (.int 1))) a5) (dm (ae (g1 fQ (gC (.int 1))) ah))) ah))))))) (g2 cw (af 3) (gC (.int 6))) [some (av es),some (bw rs),some k,some (.int c),some w,x5,x6,x7]=.ok d/\ao cs [av es,d]=.rz cs.NoRanks:=by
 have l1:=ok.l1;have l6:=ok.l6;have hl:=i.len;have j:bo (af 1) a5 (b9 (gC (.int 1))) [some (av es),some (bw rs),some k,some (.int c),some w,x5,x6,x7]=.ok (.tuple ((rs.map PyData.int).take 1)):=by show Rs.ok (PyData.tuple (cutD (rs.map PyData.int) none (some 1)))=_;rw[AH]
 have h:bo (af 1) (b9 (gC (.int 1))) a5 [some (av es),some (bw rs),some k,some (.int c),some w,x5,x6,x7]=.ok (.tuple ((rs.map PyData.int).drop 1)):=by show Rs.ok (PyData.tuple (cutD (rs.map PyData.int) (some 1) none))=_;rw[yT]
 have g:(rs.map PyData.int).length=es.length:=by rw[B3,hl]
 have a1:=dQ (f:=aT) (a:=af 1) (δ:=[some (av es),some (bw rs),some k,some (.int c),some w,x5,x6,x7]) rfl j (sv (by rw[Ca];omega));have a2:=dQ (f:=aT) (b:=dm (ae (gF bR (ae (af 1) ah)) ah)) h (y:=.tuple [.int ((rs.map PyData.int).length:Int)]) rfl (sv (by rw[BW];show _+1<=_;omega));have l:=dQ (f:=aT) (b:=dm (ae (g1 fQ (gC (.int 1))) ah)) h (y:=.tuple [.int (-1)]) rfl (sv (by rw[BW];show _+1<=_;omega));have nd:∀d∈rs.map PyData.int,aE d=true:=kx rs;have e:∀n:Int,isWhole (.int n) 0 ((es.length:Int)-1)=false->dP es.length (.tuple ((rs.map PyData.int).drop 1++[.int n]))=false:=λn hn=>by show (decide (_=es.length)&&((rs.map PyData.int).drop 1++[PyData.int n]).all (λd=>isWhole d 0 ((es.length:Int)-1))&&_)=false;rw[List.all_append,List.all_cons,hn,Cw,C9,C9,Cw]
 refine jv (m:=6) (kF (aJ rfl (aJ rfl (aJ a1 (aJ rfl (aJ a2 (aJ l rfl))))))) rfl (by decide) rfl (aI ?_ (aI ?_ (aI ?_ (aI ?_ (aI ?_ (aI ?_ gj))))))
 ·exact fZ l6 rfl rfl
 ·exact fZ l6 (dz nd) rfl
 ·refine fZ l6 (b8 λd hd=>?_) ?_
  ·rcases BA.mp hd with hd|hd
   ·exact nd d hd
   ·exact nd d (List.mem_of_mem_take hd)
  ·show (decide (_=es.length)&&_&&_)=false;rw[decide_eq_false (by rw[Bt,Ca];omega)];rfl
 ·refine fZ l6 rfl ?_;show (decide (([]:List PyData).length=es.length)&&_&&_)=false;rw[decide_eq_false (by show ¬ (0=es.length);omega)];rfl
 ·refine fZ l6 (b8 λd hd=>?_) (e _ ?_)
  ·rcases BA.mp hd with hd|hd
   ·exact nd d (Cb hd)
   ·rw[B7.mp hd];rfl
  ·rw[g];show (decide ((0:Int)<=(es.length:Int))&&decide ((es.length:Int)<=(es.length:Int)-1))=false;rw[decide_eq_false (show ¬ ((es.length:Int)<=(es.length:Int)-1) by omega),C9]
 ·refine fZ l6 (b8 λd hd=>?_) (e _ rfl);rcases BA.mp hd with hd|hd
  ·exact nd d (Cb hd)
  ·rw[B7.mp hd];rfl
theorem AI:∃d,g2 dIx (bu (ae (g1 fQ (gC (.int 1))) (ae (gF bR (ae (af 0) ah)) (ae (gC (.bool true)) (ae (gC .none) (ae (gC (.str "0")) ah)))))) (g2 cw (af 3) (gC (.int 5))) [some (av es),some (bw rs),some k,some (.int c),some w,x5,x6,x7]=.ok d/\aA cs [av es,d]=.rz cs.NoErrand:=by
 have hle:gF bR (ae (af 0) ah) [some (av es),some (bw rs),some k,some (.int c),some w,x5,x6,x7]=.ok (.int (es.length:Int)):=by show Rs.cW (bR [av es])=_;rw[uN];rfl
 refine jv (m:=5) (kF (aJ rfl (aJ hle (aJ rfl (aJ rfl (aJ rfl rfl)))))) rfl (by decide) rfl (aI ?_ (aI ?_ (aI ?_ (aI ?_ (aI ?_ gj)))))
 ·exact f7 rfl rfl
 ·refine f7 rfl ?_;show (decide ((0:Int)<=(es.length:Int))&&decide ((es.length:Int)<=(es.length:Int)-1))=false;rw[decide_eq_false (show ¬ ((es.length:Int)<=(es.length:Int)-1) by omega),C9]
 ·exact f7 rfl rfl
 ·exact f7 rfl rfl
 ·exact f7 rfl rfl
theorem Bc (a:ag cs [av es]=.ok (av es)):∃d,g2 dIx (bu (ae (gC (.int 0)) (ae (gC (.int 5)) (ae (gC (.bool true)) (ae (gC .none) (ae (gC (.str "1")) (ae (g1 fQ (gC (.int 1))) ah))))))) (g2 cw (af 3) (gC (.int 6))) [some (av es),some (bw rs),some k,some (.int c),some w,x5,x6,x7]=.ok d/\cQ cs [av es,d]=.rz cs.NoNumber :=
 jv (m:=6) (kF (aJ rfl (aJ rfl (aJ rfl (aJ rfl (aJ rfl (aJ rfl rfl))))))) rfl (by decide) rfl (aI (ij a rfl rfl) (aI (ij a rfl rfl) (aI (ij a rfl rfl) (aI (ij a rfl rfl) (aI (ij a rfl rfl) (aI (ij a rfl rfl) gj))))))
end
section
variable {cs:Cs} {es:List Er} {rs:List Int} {c:Int} {x5 x6 x7:Option PyData} {k w:PyData}
abbrev dM (es:List Er):List PyData:=es.map λ_=>.list []
def eL:PyData->Bool
 |.list []=>true
 |_=>false
theorem iT (ok:nY es) (g:ag cs [av es]=.ok (av es)) (hd:aE x=true) (f:eL x=false) (h:∀e∈es,cq cs [e.d,x]=.ok (.bool false)):aB cs [av es,.list ((dM es).drop 1++[x])]=.rz cs.NoComings:=by
 have l1:=ok.l1;have hm:∀y∈(dM es).drop 1,y=.list []:=λy b=>by obtain⟨_,_,e⟩:=Bz.mp (Cb b);exact e.symm
 refine xM (p:=eL) g ok.l6 (dz λd c=>?_) (by rw[Bt,BW,B3];show _+1=_;omega) (λe a y b=>?_) ?_
 ·rcases BA.mp c with z|z
  ·rw[hm d z];rfl
  ·rw[B7.mp z];exact hd
 ·rcases BA.mp b with z|z
  ·rw[hm y z];have:=nz (cs:=cs) (ns:=[]) (ok.ok e a).sh (ic.mp (by decide));exact this
  ·rw[B7.mp z,f];exact h e a
 ·rw[List.all_append,List.all_cons,f,Cw,C9]
theorem mB (ok:nY es) (hd:aE x=true) (h:(∀xs,x≠.tuple xs)\/∃xs,x=.tuple xs/\(xs.length≠es.length\/xs=[.int (-1)])):aS cs [av es,x]=.rz cs.NoComings:=by
 have l6:=ok.l6;have b:bh [] 2 (gF bR (ae (af 0) ah)) [some (av es),some x,none]=.nx [some (av es),some x,some (.int (es.length:Int))]:=fH (show 2<3 by decide) (by show Rs.cW (bR [av es])=_;rw[uN];rfl)
 refine ay rfl ?_;show bL cs az ar [some (av es),some x,none]=_;unfold bL;rw[fS b];have c:gT (ai az (ae (af 1) (ae (af 2) (ae (af 2) ah)))) [some (av es),some x,some (.int (es.length:Int))]=.ok (bc x es.length es.length):=by rw[iy,show ai az (ae (af 1) (ae (af 2) (ae (af 2) ah))) [some (av es),some x,some (.int (es.length:Int))]=.ok (.bool (bc x es.length es.length)) from qB hd,Rs.ak,ee]
 refine brS (t:=true) ?_ (λ_=>iY rfl) λq=>by cases q
 rw[kC,fk,c,Rs.ak,Rs.ak];cases q:bc x es.length es.length with
 |false=>rfl
 |true =>
  rw[if_neg (by decide)];rcases h with h|⟨xs,rfl,h⟩
  ·cases x with
   |tuple xs=>exact (h xs rfl).elim
   |_=>cases q
  ·have q:(decide ((es.length:Int)<=(xs.length:Int))&&decide ((xs.length:Int)<=(es.length:Int)))=true:=q;rw[Bs,decide_eq_true_eq,decide_eq_true_eq]at q;rcases h with h|rfl
   ·omega
   ·have e:bY 3 (fb (af 1)) cf (ai ar (ae (af 3) (ae (gC (.int 0)) (ae (gC (.int 999)) ah)))) bM [some (av es),some (.tuple [.int (-1)]),some (.int (es.length:Int))]=.ok ([PyData.int (-1)].map λd=>.bool (isWhole d 0 999)) :=
     dD rfl rfl (by show 1<=1000000;decide) λd a=>by rw[B7.mp a];exact fA (d:=.int (-1)) rfl
    rw[fk,iy,kM,aR,bN,qt,e];rfl
theorem yE (a:ag cs [av es]=.ok (av es)) {r:PyData} (b:ao cs [av es,r]=.ok r) (h:aS cs [av es,x]=.rz cs.NoComings):aP cs [av es,r,x]=.rz cs.NoComings :=
 ay rfl (gH (δ:=[some (av es),some r,some x,none,none,none,none]) (g:=ai (ag cs) (ae (af 0) ah)) a (gH (δ:=[some (av es),some r,some x,none,none,none,none]) (g:=ai (ao cs) (ae (af 0) (ae (af 1) ah))) b (ej (δ:=[some (av es),some r,some x,none,none,none,none]) (g:=ai (aS cs) (ae (af 0) (ae (af 2) ah))) h)))
theorem nN {α:Type} (a:α):∀n:Nat,(List.replicate n [a]).flatten.length=n
 |0=>rfl
 |n+1=>by rw[BN,BU,Bt,nN a n,C0];omega
theorem Ah {x:List PyData} {n:Int} (h:0<=n/\n<1000000/\x.length*n.toNat<=1000000):gI (.list x) (.int n)=some (.list (List.replicate n.toNat x).flatten):=by unfold gI;dsimp only;rw[if_pos h]
theorem zJ {x:List PyData} {n:Int} (h:x≠[]/\2<=n/\n<1000000/\x.length*n.toNat<=1000000):gI (.tuple x) (.int n)=some (.tuple (List.replicate n.toNat x).flatten):=by unfold gI;dsimp only;rw[if_pos h]
theorem AY (ok:nY es):∃d,g2 dIx (bu (ae (gC .none) (ae (g2 gI (bu (ae (gC (.int 0)) ah)) (gF bR (ae (af 0) ah))) (ae (g2 gI (dm (ae (gC (.int 0)) ah)) (g2 aT (gF bR (ae (af 0) ah)) (gC (.int 1)))) (ae (dm (ae (g1 fQ (gC (.int 1))) ah)) ah))))) (g2 cw (af 3) (gC (.int 4))) [some (av es),some (bw rs),some k,some (.int c),some w,x5,x6,x7]=.ok d/\aS cs [av es,d]=.rz cs.NoComings:=by
 have l1:=ok.l1;have l6:=ok.l6;have hle:gF bR (ae (af 0) ah) [some (av es),some (bw rs),some k,some (.int c),some w,x5,x6,x7]=.ok (.int (es.length:Int)):=by show Rs.cW (bR [av es])=_;rw[uN];rfl
 have a1:=dQ (f:=gI) (a:=bu (ae (gC (.int 0)) ah)) (x:=.list [.int 0]) rfl hle (Ah ⟨by omega,by omega,by show 1*_<=_;omega⟩);have a2:=dQ (f:=aT) (b:=gC (.int 1)) hle rfl (gq _ _);have g:=dQ (f:=gI) (a:=dm (ae (gC (.int 0)) ah)) (x:=.tuple [.int 0]) rfl a2 (zJ ⟨by nofun,by omega,by omega,by show 1*_<=_;omega⟩);have e:∀n,∀d∈(List.replicate n [PyData.int 0]).flatten,aE d=true:=λn d hd=>by obtain⟨l,h1,h2⟩:=List.mem_flatten.mp hd;rw[(List.mem_replicate.mp h1).2]at h2;rw[B7.mp h2];rfl
 refine jv (m:=4) (kF (aJ rfl (aJ a1 (aJ g (aJ rfl rfl))))) rfl (by decide) rfl (aI ?_ (aI ?_ (aI ?_ (aI ?_ gj))))
 ·exact mB ok rfl (.inl nofun)
 ·exact mB ok (dz (e _)) (.inl nofun)
 ·exact mB ok (b8 (e _)) (.inr ⟨_,rfl,.inl (by rw[nN];omega)⟩)
 ·exact mB ok rfl (.inr ⟨_,rfl,.inr rfl⟩)
end
def akD (es:List Er) (rs:List Int) (kind cell what:Int) (x5 x6 x7:Option PyData):Ds:=[some (av es),some (bw rs),some (.int kind),some (.int cell),some (.int what),x5,x6,x7]
section
variable {cs:Cs} {es:List Er} {rs:List Int} {kind cell what:Int} {x5 x6 x7:Option PyData}
theorem me (h:aE x=true) (a:∀l,x≠.list l):fo "list" x=some (.bool false):=by
 unfold fo;rw[if_pos h];cases x with
 |list l=>exact (a l rfl).elim
 |_=>rfl
def bd7:Ds->Rs PyData:=bu (ae (gC .none) (ae (gF fR (ae (af 6) ah)) (ae (g2 aT (af 6) (bu (ae (bu ah) ah))) (ae (bo (af 6) (b9 (gC (.int 1))) a5) (ae (g2 aT (bo (af 6) (b9 (gC (.int 1))) a5) (bu (ae (dm (ae (gC (.int 0)) ah)) ah))) (ae (g2 aT (bo (af 6) (b9 (gC (.int 1))) a5) (bu (ae (bu (ae (gC (.int 5)) (ae (gC (.int 5)) ah))) ah))) (ae (g2 aT (bo (af 6) (b9 (gC (.int 1))) a5) (bu (ae (bu (ae (gC (.bool true)) ah)) ah))) ah)))))))
def bd9:Ds->Rs PyData:=g2 dIx (g2 aT (af 5) (bu (ae (g2 aT (bo (af 6) (b9 (gC (.int 1))) a5) (bu (ae (bu (ae (g1 fQ (gC (.int 1))) ah)) ah))) (ae (g2 aT (bo (af 6) (b9 (gC (.int 1))) a5) (bu (ae (gC .none) ah))) ah)))) (g2 cw (af 3) (gC (.int 9)))
def L7 (R:List PyData):List PyData:=[.none,.tuple R,.list (R++[.list []]),.list (R.drop 1),.list (R.drop 1++[.tuple [.int 0]]),.list (R.drop 1++[.list [.int 5,.int 5]]),.list (R.drop 1++[.list [.bool true]])]
theorem slF:bo (af 6) (b9 (gC (.int 1))) a5 (akD es rs kind cell what x5 (some (.list R)) x7)=.ok (.list (R.drop 1)):=by show Rs.ok (PyData.list (cutD R (some 1) none))=_;rw[yT]
theorem adF {y:PyData} (hR:R.length<=6) (a:b (akD es rs kind cell what x5 (some (.list R)) x7)=.ok (.list [y])):g2 aT (bo (af 6) (b9 (gC (.int 1))) a5) b (akD es rs kind cell what x5 (some (.list R)) x7)=.ok (.list (R.drop 1++[y])) :=
 dQ slF a (add_l (by rw[BW];show _+1<=_;omega))
theorem wY (c:R.length<=6):bd7 (akD es rs kind cell what x5 (some (.list R)) x7)=.ok (.list (L7 R)):=by have a1:=dQ (f:=aT) (a:=af 6) (b:=bu (ae (bu ah) ah)) (δ:=akD es rs kind cell what x5 (some (.list R)) x7) (y:=.list [.list []]) rfl rfl (add_l (by show _+1<=_;omega));exact kF (aJ rfl (aJ rfl (aJ a1 (aJ slF (aJ (adF c rfl) (aJ (adF c rfl) (aJ (adF c rfl) rfl)))))))
theorem xq (ok:nY es) (c:ag cs [av es]=.ok (av es)):∃d,bd9 (akD es rs kind cell what (some (.list (L7 (dM es)))) (some (.list (dM es))) x7)=.ok d/\aB cs [av es,d]=.rz cs.NoComings:=by
 have l1:=ok.l1;have l6:=ok.l6;have i:(dM es).length<=6:=by rw[B3];exact l6
 have g:∀d∈dM es,aE d=true:=λd hd=>by obtain⟨_,_,rfl⟩:=Bz.mp hd;rfl
 have a1:=dQ (f:=aT) (a:=af 5) (δ:=akD es rs kind cell what (some (.list (L7 (dM es)))) (some (.list (dM es))) x7) rfl (kF (aJ (adF i (b:=bu (ae (bu (ae (g1 fQ (gC (.int 1))) ah)) ah)) (y:=.list [.int (-1)]) rfl) (aJ (adF i (b:=bu (ae (gC .none) ah)) (y:=.none) rfl) (show ah _=.ok [] from rfl)))) (add_l (by show 7+2<=1000;decide));refine jv (m:=9) a1 rfl (by decide) rfl (aI ?_ (aI ?_ (aI ?_ (aI ?_ (aI ?_ (aI ?_ (aI ?_ (aI ?_ (aI ?_ gj)))))))))
 ·exact nP c (me rfl nofun)
 ·exact nP c (me (b8 g) nofun)
 ·refine sH c (dz λd hd=>?_) (by rw[Bt,B3];show _+1≠_;omega);rcases BA.mp hd with z|z
  ·exact g d z
  ·rw[B7.mp z];rfl
 ·exact sH c (dz λd hd=>g d (Cb hd)) (by rw[BW,B3];omega)
 ·exact iT ok c rfl rfl λe _=>lG (me rfl nofun)
 ·exact iT ok c rfl rfl λe h=>rP (ok.ok e h)
 ·exact iT ok c rfl rfl λe _=>p9 rfl rfl
 ·exact iT ok c rfl rfl λe _=>p9 rfl rfl
 ·exact iT ok c rfl rfl λe _=>lG (me rfl nofun)
theorem vQ (h0:0<=what):∃l,g2 dIx (bu (ae (gC (.str "high")) (ae (gC (.str "asked")) (ae (gC (.str "none")) ah)))) (g2 ki (g2 cw (af 4) (gC (.int 5))) (gC (.int 2))) (akD es rs kind cell what x5 x6 x7)=.ok l:=by
 have h:=Ad (jC (a:=af 4) (b:=gC (.int 5)) (δ:=akD es rs kind cell what x5 x6 x7) rfl rfl (by decide)) (b:=gC (.int 2)) rfl (by decide) (by decide);obtain⟨d,h1,_⟩:=rD (L:=[.str "high",.str "asked",.str "none"]) (i:=what % 5 / 2) (P:=λ_=>True) (by omega) (by show _<3;omega) λ_ _=>trivial
 exact⟨d,dQ rfl h h1⟩
def wJ (cs:Cs) (kind:Int):Addr:=if kind=0 then cs.NoErrands else if kind=1 then cs.NoRanks else if kind=2 then cs.NoComings else if kind=3 then cs.NoErrand else cs.NoNumber
theorem su (ok:nY es) (A:ky es.length rs) (k0:0<=kind) (k5:kind<5) (B:0<=cell):cn cs [av es,bw rs,.int kind,.int cell]=.rz (wJ cs kind):=by
 have j:=k9 cs ok.l1 ok.l6 ok.ok;have h:=iw cs ok.l6 A;have C:bh [] 4 (g2 ki (af 3) (gC (.int 100))) (akD es rs kind cell 0 none none none|>.set 4 none)=.nx (akD es rs kind cell (cell / 100) none none none):=fH (show 4<8 by decide) (Ad rfl rfl (by decide) (by decide));have D:0<=cell / 100:=Int.ediv_nonneg B (by decide);generalize cell / 100=what at *;refine ay rfl ((fS C).trans ?_);unfold wJ
 -- errands
 refine br (eqT rfl rfl) (λq=>?_) λq=>?_
 ·rw[if_pos (uH q)];obtain⟨d,h1,h2⟩:=A6 (cs:=cs) (rs:=rs) (k:=.int kind) (c:=cell) (w:=.int what) (x5:=none) (x6:=none) (x7:=none) ok;have hw:=xZ (cs:=cs) (d:=d) (w:=what % 28) (by omega) (by omega) h2;have ha:=aJ (jC (a:=af 4) (b:=gC (.int 28)) (δ:=akD es rs kind cell what none none none) rfl rfl (by decide)) (aJ h1 (show ah _=.ok [] from rfl));rw[bH,ha,Rs.ak,hw]
 rw[if_neg (eqF q)]
 -- ranks
 refine brS (eqT rfl rfl) (λo=>?_) λo=>?_
 ·rw[if_pos (uH o)];obtain⟨d,h1,h2⟩:=Az (cs:=cs) (k:=.int kind) (c:=cell) (w:=.int what) (x5:=none) (x6:=none) (x7:=none) ok A;have s2:=fH (O:=[]) (i:=5) (δ:=akD es rs kind cell what none none none) (show 5<8 by decide) h1;refine (fS s2).trans (fI ?_);have hw:=xH (cs:=cs) (es:=es) (r:=d) (w:=what % 13) (by omega) (by omega) j h2;have ha:=aJ (jC (a:=af 4) (b:=gC (.int 13)) (δ:=akD es rs kind cell what (some d) none none) rfl rfl (by decide)) (show ae (af 0) (ae (af 5) ah) _=.ok [av es,d] from rfl);rw[bH];refine Eq.trans (congrArg (λz=>Rs.bind z _) ha) ?_;rw[Rs.ak,hw]
 rw[if_neg (eqF o)]
 -- comings
 refine brS (eqT rfl rfl) (λp=>?_) λp=>?_
 ·rw[if_pos (uH p)];have l6:=ok.l6;have E:bY 8 (fb (af 0)) cf (bu ah) bM (akD es rs kind cell what none none none)=.ok ((es.map Er.d).map λ_=>.list []):=dD rfl rfl (by rw[B3];omega) λd _=>rfl
  have u:gL (bY 8 (fb (af 0)) cf (bu ah) bM) (akD es rs kind cell what none none none)=.ok (.list (dM es)):=by rw[qt,E,BP];rfl
  have F:bh [] 6 (gL (bY 8 (fb (af 0)) cf (bu ah) bM)) (akD es rs kind cell what none none none)=.nx (akD es rs kind cell what none (some (.list (dM es))) none):=fH (show 6<8 by decide) u;have G:bh [] 5 bd7 (akD es rs kind cell what none (some (.list (dM es))) none)=.nx (akD es rs kind cell what (some (.list (L7 (dM es)))) (some (.list (dM es))) none):=fH (show 5<8 by decide) (wY (by rw[B3];exact l6));obtain⟨d,h1,h2⟩:=xq (cs:=cs) (rs:=rs) (kind:=kind) (cell:=cell) (what:=what) (x7:=none) ok j;have H:bh [] 5 bd9 (akD es rs kind cell what (some (.list (L7 (dM es)))) (some (.list (dM es))) none)=.nx (akD es rs kind cell what (some d) (some (.list (dM es))) none):=fH (show 5<8 by decide) h1;refine (fS F).trans ((fS G).trans ((fS H).trans ?_));refine br (eqT (jC rfl rfl (by decide)) rfl) (λm=>?_) λm=>?_
  ·obtain⟨x,I,J⟩:=AY (cs:=cs) (rs:=rs) (k:=.int kind) (c:=cell) (w:=.int what) (x5:=some d) (x6:=some (.list (dM es))) (x7:=none) ok;have ha:=aJ (a:=af 0) (δ:=akD es rs kind cell what (some d) (some (.list (dM es))) none) rfl (aJ (a:=af 1) rfl (aJ I (show ah _=.ok [] from rfl)));rw[bH,ha,Rs.ak];exact yE j h J
  refine br (eqT (jC rfl rfl (by decide)) rfl) (λn=>?_) λn=>?_
  ·exact h2
  obtain⟨l,hl⟩:=vQ (es:=es) (rs:=rs) (kind:=kind) (cell:=cell) (what:=what) (x5:=some d) (x6:=some (.list (dM es))) (x7:=none) D;exact fI (cE (i:=what % 2) (jC rfl rfl (by decide)) (by omega) (by show what % 2<2;omega) (aJ rfl (aJ rfl (aJ rfl (aJ hl rfl)))) (aI (tT j h h2) (aI (rC (tT j h h2)) gj)))
 rw[if_neg (eqF p)]
 -- numbers
 refine brS (eqT rfl rfl) (λm=>?_) λm=>?_
 ·rw[if_pos (uH m)];obtain⟨d,h1,h2⟩:=AI (cs:=cs) (es:=es) (rs:=rs) (k:=.int kind) (c:=cell) (w:=.int what) (x5:=none) (x6:=none) (x7:=none);have s2:bh [] 5 _ (akD es rs kind cell what none none none)=.nx (akD es rs kind cell what (some d) none none):=fH (show 5<8 by decide) h1;have K:=u9 (cs:=cs) j h h2;have e:∀{k:Nat} {s:Ds->Sr} {xs:List PyData},ax (aU (ai (au cs) (ae (af 0) (ae (af 1) (ae (af 2) ah))))) s ((av es::bw rs::d::xs).map some++List.replicate k none)=.rz cs.NoErrand:=λ{k s xs}=>ej (δ:=(av es::bw rs::d::xs).map some++List.replicate k none) (g:=ai (au cs) (ae (af 0) (ae (af 1) (ae (af 2) ah)))) K
  refine (fS s2).trans ?_;refine br (eqT (jC rfl rfl (by decide)) rfl) (λn=>?_) λn=>?_
  ·exact xw j h2
  have n:=eqF n;refine br (t:=decide (7<what % 11)) ?_ (λv=>?_) λv=>?_
  ·rw[iy,dQ (f:=dGt) (jC (a:=af 4) (b:=gC (.int 11)) (δ:=akD es rs kind cell what (some d) none none) rfl rfl (by decide)) (b:=gC (.int 7)) rfl (yO _ _),Rs.ak,ee]
  ·exact cE (ds:=[av es,bw rs,d,.none]) (i:=what % 2) (jC rfl rfl (by decide)) (by omega) (by show what % 2<2;omega) rfl (aI (ay rfl e) (aI (ay rfl e) gj))
  have v:=of_decide_eq_false v;unfold kI;rw[if_pos (show 7<List.length (akD es rs kind cell what (some d) none none) from (show 7<8 by decide))];have y:cV [cH cs,bD cs,bO cs,cg cs,ba cs,aY cs,aH cs,cL cs] (g2 cw (af 4) (gC (.int 11))) (ae (af 0) (ae (af 1) (ae (af 5) ah))) ((akD es rs kind cell what (some d) none none).set 7 none)=.rz cs.NoErrand :=
   cE (ds:=[av es,bw rs,d]) (i:=what % 11) (jC rfl rfl (by decide)) (by omega) (by show what % 11<8;omega) rfl (aI (ay rfl e) (aI (ay rfl e) (aI (ay rfl e) (aI (ay rfl e) (aI (ay rfl e) (aI (ay rfl e) (aI (ay rfl e) (aI (ay rfl e) gj))))))))
  rw[y];rfl
 rw[if_neg (eqF m)];obtain⟨d,h1,h2⟩:=Bc (cs:=cs) (rs:=rs) (k:=.int kind) (c:=cell) (w:=.int what) (x5:=none) (x6:=none) (x7:=none) j;have ha:=aJ (a:=af 0) (δ:=akD es rs kind cell what none none none) rfl (aJ h1 (show ah _=.ok [] from rfl));refine fI ?_;rw[bH,ha,Rs.ak,h2]
end
theorem fT {a b:Addr} (h1:PySem.W.kitOne K (.ref a) (.ref a)=some true) (h2:PySem.W.kitOne K (.ref b) (.ref a)=some false):a≠b:=λe=>by subst e;rw[h1]at h2;cases h2
noncomputable def pV (cs:Cs):List CI:=[(cs.NoErrands,[true,false,false,false],[false,false],true),(cs.NoRanks,[false,true,false,false],[false,false],true),(cs.NoComings,[false,false,true,false],[false,false],true),(cs.NoErrand,[false,false,false,true],[false,false],true),(cs.NoNumber,[false,false,false,false],[true,false],true)]
theorem w6 {cs:Cs} (hd:([cs.NoErrands,cs.NoRanks,cs.NoComings,cs.NoErrand,cs.NoNumber]:List Addr).Nodup) {kind:Int} (k0:0<=kind) (k5:kind<5):∃c,(pV cs).find? (λc=>c.1==wJ cs kind)=some c/\uT (c.2.1++c.2.2.1) c.2.2.2 kind=some true:=by
 simp only[BZ,B8,Bq,or_false,not_or,not_false_eq_true,Cy,and_true]at hd;obtain⟨⟨n1,n2,g,i⟩,⟨j,k,l⟩,⟨m,n⟩,e⟩:=hd;have f:∀{a b:Addr},a≠b->(a==b)=false:=λh=>by rw[beq_eq_false_iff_ne];exact h
 have o:kind=0\/kind=1\/kind=2\/kind=3\/kind=4:=by omega
 unfold pV;rcases o with rfl|rfl|rfl|rfl|rfl
 ·refine⟨(cs.NoErrands,[true,false,false,false],[false,false],true),?_,rfl⟩;show List.find? (λc:CI=>c.1==cs.NoErrands) _=_;rw[Ce];simp only[beq_self_eq_true]
 ·refine⟨(cs.NoRanks,[false,true,false,false],[false,false],true),?_,rfl⟩;show List.find? (λc:CI=>c.1==cs.NoRanks) _=_;simp only[Ce,f n1,beq_self_eq_true]
 ·refine⟨(cs.NoComings,[false,false,true,false],[false,false],true),?_,rfl⟩;show List.find? (λc:CI=>c.1==cs.NoComings) _=_;simp only[Ce,f n2,f j,beq_self_eq_true]
 ·refine⟨(cs.NoErrand,[false,false,false,true],[false,false],true),?_,rfl⟩;show List.find? (λc:CI=>c.1==cs.NoErrand) _=_;simp only[Ce,f g,f k,f m,beq_self_eq_true]
 ·refine⟨(cs.NoNumber,[false,false,false,false],[true,false],true),?_,rfl⟩;show List.find? (λc:CI=>c.1==cs.NoNumber) _=_;simp only[Ce,f i,f l,f n,f e,beq_self_eq_true]
theorem law_holds (cs:Cs) (hd:([cs.NoErrands,cs.NoRanks,cs.NoComings,cs.NoErrand,cs.NoNumber]:List Addr).Nodup) (ns:List Int):pG cs (cn cs) aj bz aW (some (aq ns)::List.replicate 5 none)=.rt (.bool true):=by
 obtain⟨es,_,_,l1,l4,hok,_,f,_⟩:=sy ns 10 28 (by decide) (by decide) (by decide);have ok:nY es:=⟨l1,by omega,hok⟩
 have c:=eJ (ns:=ns) (a:=2) (many:=(es.length:Int)) (by decide) (by omega) (by omega);rw[BM]at c;have h:ky es.length (il ns 2 es.length):=kc ns 2 es.length;generalize il ns 2 es.length=rs at *;have i:=bI (ns:=ns) (k:=0) (many:=5) (by decide) (by decide);have k0:=bK ns 0 (many:=5) (by decide);have k5:=bV ns 0 (many:=5) (by decide);have hc:=bI (ns:=ns) (k:=1) (many:=1000000) (by decide) (by decide);have j:=bK ns 1 (many:=1000000) (by decide);generalize mixed ns 0 5=kind at *;generalize mixed ns 1 1000000=cell at *;have l:bh [] 1 (ai aW (ae (af 0) (ae (gC (.int 10)) (ae (gC (.int 4)) (ae (gC (.int 28)) (ae (gC (.bool true)) ah)))))) [some (aq ns),none,none,none,none,none]=.nx [some (aq ns),some (av es),none,none,none,none]:=fH (by decide:1<6) (j4 rfl f);have s2:bh [] 2 (ai bz (ae (af 0) (ae (gC (.int 2)) (ae (gF bR (ae (af 1) ah)) ah)))) [some (aq ns),some (av es),none,none,none,none]=.nx [some (aq ns),some (av es),some (bw rs),none,none,none]:=by refine fH (by decide:2<6) (j4 (ds:=[aq ns,.int 2,.int (es.length:Int)]) ?_ c);show (ae (af 0) (ae (gC (.int 2)) (ae (gF bR (ae (af 1) ah)) ah))) [some (aq ns),some (av es),none,none,none,none]=_;simp only[aR,bN,kM,bt,bq,ix,Rs.ak,uN,Rs.aF]
 have m:bh [] 3 (ai aj (ae (af 0) (ae (gC (.int 0)) (ae (gC (.int 5)) ah)))) [some (aq ns),some (av es),some (bw rs),none,none,none]=.nx [some (aq ns),some (av es),some (bw rs),some (.int kind),none,none]:=fH (by decide:3<6) (j4 rfl i);have n:g2 qb (gC (.int 10)) (gC (.int 6)) [some (aq ns),some (av es),some (bw rs),some (.int kind),none,none]=.ok (.int 1000000):=rfl;have hm:ai aj (ae (af 0) (ae (gC (.int 1)) (ae (g2 qb (gC (.int 10)) (gC (.int 6))) ah))) [some (aq ns),some (av es),some (bw rs),some (.int kind),none,none]=.ok (.int cell):=j4 (aJ rfl (aJ rfl (aJ n rfl))) hc;have ha:(ae (af 1) (ae (af 2) (ae (af 3) (ae (ai aj (ae (af 0) (ae (gC (.int 1)) (ae (g2 qb (gC (.int 10)) (gC (.int 6))) ah)))) ah)))) [some (aq ns),some (av es),some (bw rs),some (.int kind),none,none]=.ok [av es,bw rs,.int kind,.int cell]:=aJ rfl (aJ rfl (aJ rfl (aJ hm rfl)));have o:=su (cs:=cs) ok h k0 k5 j;obtain⟨g,f1,f2⟩:=w6 hd k0 k5;have p:nL (pV cs) 4 5 3 (cn cs) (ae (af 1) (ae (af 2) (ae (af 3) (ae (ai aj (ae (af 0) (ae (gC (.int 1)) (ae (g2 qb (gC (.int 10)) (gC (.int 6))) ah)))) ah)))) [some (aq ns),some (av es),some (bw rs),some (.int kind),none,none]=.rt (.bool true):=by
  unfold nL;have hc:4<[some (aq ns),some (av es),some (bw rs),some (PyData.int kind),none,none].length/\5<[some (aq ns),some (av es),some (bw rs),some (PyData.int kind),none,none].length/\4≠5/\4≠3/\5≠3:=⟨show 4<6 by decide,show 5<6 by decide,by decide,by decide,by decide⟩
  rw[if_pos hc,ha];simp only[o,f1];show (match uT (g.2.1++g.2.2.1) g.2.2.2 kind with|some b=>Sr.rt (.bool b)|none=>.no)=_;rw[f2]
 unfold pG;show ax _ _ [some (aq ns),none,none,none,none,none]=_;rw[fS l,fS s2,fS m,bE];have e:=p;unfold pV at e;rw[e]
theorem yU (cs:Cs) (hd:([cs.NoErrands,cs.NoRanks,cs.NoComings,cs.NoErrand,cs.NoNumber]:List Addr).Nodup):LLq (pG cs (cn cs) aj bz aW) 1 5 (eo 63):=lawT_of (law_holds cs hd)
end RS
set_option maxHeartbeats 4000000
namespace L2
open PySem PySem.Spec PyProof.Rows
section
variable {E:XK} {k:Expr} {gk:Ds->Rs PyData} {apos:Pos}
end
section
variable {E:XK} {ga:Ds->Rs PyData}
end
def ndB:List Str->Bool
 |[]=>true
 |x::r=>!r.elem x&&ndB r
theorem tV:∀{l:List Str},ndB l=true->l.Nodup
 |[],_=>Cy
 |x::r,h=>by simp only[ndB,Bs,Bool.not_eq_true']at h;exact BZ.mpr ⟨λz=>(by have:=List.elem_eq_true_of_mem z;rw[h.1]at this;cases this),tV h.2⟩
section
variable {n':Nat} {m:Str}
def AtX (X:Cx) (P:Program) (w:World) (K:PySem.W.Frag) (mg:Str->Option Value) (base:Heap):Prop:=X.prog=P/\X.w=w/\X.K=K/\X.mg=mg/\X.base=base
theorem iA.to (h:iA P w K mg base k x n gf) (a:AtX X P w K mg base) (hn:n=n'):iA X.prog X.w X.K X.mg X.base k x n' gf:=by obtain⟨rfl,rfl,rfl,rfl,rfl⟩:=a;subst hn;exact h
theorem sZ.to (h:sZ P w K mg base k C m n gf) (a:AtX X P w K mg base) (hn:n=n'):sZ X.prog X.w X.K X.mg X.base k C m n' gf:=by obtain⟨rfl,rfl,rfl,rfl,rfl⟩:=a;subst hn;exact h
theorem rS.to {g:List (Str×PyData)->Option (List (Str×PyData))} (h:rS P w K mg base k C m g) (a:AtX X P w K mg base):rS X.prog X.w X.K X.mg X.base k C m g:=by obtain⟨rfl,rfl,rfl,rfl,rfl⟩:=a;exact h
theorem sR.to {l:List Str} (h:sR P w K mg base k x C l) (a:AtX X P w K mg base):sR X.prog X.w X.K X.mg X.base k x C l:=by obtain⟨rfl,rfl,rfl,rfl,rfl⟩:=a;exact h
end
end L2
namespace RS
open PySem PySem.Spec PyProof.Rows L2
theorem vE (d:α) {us:List α} (h:us.length=n):∃f:Nat->α,us=(List.range n).map f :=
 ⟨λi=>us.getD i d,List.ext_getElem (by simp[h]) λi h1 h2=>by simp[BD,B2 h1]⟩
section
variable {m q:Str} {G:Ds->Sr} {gf:Gf}
abbrev Bod (P:Program) (w:World) (K:PySem.W.Frag) (mg:Str->Option Value) (base:Heap) (q:Str) (st:Stmt) (k:Nat) (O:List Nat) (N:List Str) (G:Ds->Sr):Prop:=∀(f:Addr) (cdv:Value) (A:Around) (outer:List Env) (s:Shared) (H:Hp) (E:XK),N.Nodup->dG k (A.deeper (envOfC q (aQ st) s.heap.objs.size f cdv))->PBD (fP (CXW P w) P w K mg base N q (aQ st) f cdv A outer s H E) E O (c9 st) G
theorem dA (P:Program) (w:World) (base:Heap) (k:Nat) (O:List Nat) (N:List Str) (h:aL K mg x st ps) (a:∀ds,ds.length=ps.length->gf ds≠.no->cy (G (ds.map some++List.replicate (N.length-ps.length) none))=gf ds)
  (body:Bod P w K mg base x st k O N G) (S:ef N ps (aQ st):=by exact⟨rfl,rfl,rfl,by decide +kernel,rfl,by decide +kernel,by decide +kernel⟩) (c:∀i∈O,ps.length<=i:=by decide):iA P w K mg base (k+1) x ps.length gf:=by
 obtain⟨f,fd,F,b,m⟩:=h;exact iA.of F S b m c (λcdv A outer s H E=>body f cdv A outer s H E S.nd) a
theorem dL (k:Nat) (O:List Nat) (N:List Str) (F:Fun K x x st f fd) (a:∀ds,ds.length=ps.length->gf ds≠.no->cy (G (ds.map some++List.replicate (N.length-ps.length) none))=gf ds)
  (body:Bod P w K mg base x st k O N G) (S:ef N ps (aQ st):=by exact⟨rfl,rfl,rfl,by decide +kernel,rfl,by decide +kernel,by decide +kernel⟩) (b:∀i∈O,ps.length<=i:=by decide):fJ P w K mg base (CXW P w) (k+1) f fd ps (spD K ps.length gf) :=
 uP F S b (λcdv A outer s H E=>body f cdv A outer s H E S.nd) a
end
end RS
set_option maxHeartbeats 0
namespace RS
open PySem PySem.Spec PyProof.Rows L2
def top (i:Nat):Stmt:=PySem.Challenge.pw_ranksure_k25_refused.main.body.getD i (.Pass ⟨0,0,0,0⟩)
structure Tx (K:PySem.W.Frag) (mg:Str->Option Value) (cs:Cs):Prop where
 f_is_whole:aL K mg "is_whole" (top 17) ["thing", "least", "most"]
 f_is_tuple:aL K mg "is_tuple" (top 18) ["thing", "fewest", "most"]
 f_is_part:aL K mg "is_part" (top 19) ["thing"]
 f_are_parts:aL K mg "are_parts" (top 20) ["thing"]
 f_is_errand:aL K mg "is_errand" (top 21) ["thing"]
 f_checked:aL K mg "checked" (top 22) ["errands"]
 f_checked_ranks:aL K mg "checked_ranks" (top 23) ["errands", "ranks"]
 f_checked_number:aL K mg "checked_number" (top 24) ["errands", "number"]
 f_check_place:aL K mg "check_place" (top 25) ["errands", "ranks", "number"]
 f_work:aL K mg "work" (top 27) ["errands", "number"]
 f_heights:aL K mg "heights" (top 31) ["errands", "ranks"]
 f_have_moments:aL K mg "have_moments" (top 35) ["errand", "row"]
 f_is_row:aL K mg "is_row" (top 36) ["errand", "thing"]
 f_checked_comings:aL K mg "checked_comings" (top 37) ["errands", "comings"]
 f_run_of:aL K mg "run_of" (top 43) ["errands", "ranks", "rows", "lending"]
 f_run:aL K mg "run" (top 44) ["errands", "ranks", "comings", "lending"]
 f_answers_in:aL K mg "answers_in" (top 46) ["rows", "told"]
 f_answers:aL K mg "answers" (top 47) ["errands", "ranks", "comings", "lending"]
 f_hold:aL K mg "hold" (top 62) ["errands", "ranks", "number"]
 f_hold_asked:aL K mg "hold_asked" (top 63) ["errands", "ranks", "number"]
 f_longest:aL K mg "longest" (top 64) ["errands", "ranks", "number"]
 f_longest_asked:aL K mg "longest_asked" (top 65) ["errands", "ranks", "number"]
 f_levels:aL K mg "levels" (top 66) ["errands", "ranks", "number"]
 f_in_time:aL K mg "in_time" (top 67) ["errands", "ranks"]
 f_stretch:aL K mg "stretch" (top 69) ["errands"]
 f_round_of:aL K mg "round_of" (top 75) ["errands"]
 f_checked_calendar:aL K mg "checked_calendar" (top 76) ["errands", "calendar"]
 f_by_calendar:aL K mg "by_calendar" (top 78) ["errands", "ranks", "calendar"]
 f_fitting:aL K mg "fitting" (top 85) ["errands"]
 f_never:aL K mg "never" (top 86) ["errands"]
 f_why_never:aL K mg "why_never" (top 88) ["errands"]
 f_spare:aL K mg "spare" (top 92) ["errands", "ranks", "number"]
 f_rush:aL K mg "rush" (top 95) ["errands", "ranks", "number"]
 f_roomiest:aL K mg "roomiest" (top 96) ["errands"]
 f_dealt:aL K mg "dealt" (top 104) ["errands", "hands"]
 f_fewest_hands:aL K mg "fewest_hands" (top 105) ["errands"]
 f_is_bound:aL K mg "is_bound" (top 107) ["errands", "ranks", "number", "time"]
 f_is_late:aL K mg "is_late" (top 110) ["errands", "ranks", "number", "thing"]
 f_is_never:aL K mg "is_never" (top 112) ["errands", "thing"]
 f_worst_run:aL K mg "worst_run" (top 116) ["errands", "ranks", "number"]
 f_shown:aL K mg "shown" (top 120) ["errands"]
 f_law_cell_at:aL K mg "_law_cell_at" (top 122) ["_law_script", "_law_k"]
 f_law_mixed:aL K mg "_law_mixed" (top 123) ["_law_script", "_law_k", "_law_many"]
 f_law_errand:aL K mg "_law_errand" (top 124) ["_law_script", "_law_at", "_law_top", "_law_tools"]
 f_law_errands:aL K mg "_law_errands" (top 125) ["_law_script", "_law_at", "_law_most", "_law_top", "_law_tools"]
 f_law_ranks:aL K mg "_law_ranks" (top 126) ["_law_script", "_law_at", "_law_many"]
 f_law_with_later:aL K mg "_law_with_later" (top 127) ["_law_what", "_law_bad"]
 f_law_with_errands:aL K mg "_law_with_errands" (top 128) ["_law_what", "_law_bad"]
 f_law_with_ranks:aL K mg "_law_with_ranks" (top 129) ["_law_what", "_law_errands_here", "_law_bad"]
 f_law_asked:aL K mg "_law_asked" (top 130) ["_law_errands_here", "_law_ranks_here", "_law_kind", "_law_cell"]
 f_law:aL K mg "law" (top 131) ["_law_script"]
 bs:∀x∈["ValueError", "all", "bool", "int", "isinstance", "len", "list", "max", "min", "range", "set", "tuple", "zip"],mg x=none
 cst:∀q∈([("LAST_COMING",9999),("LAST_FIRST",999),("LEAST_EVERY",2),("MOST_COMINGS",60),("MOST_ERRANDS",6),("MOST_EVERY",60),("MOST_HANDS",4),("MOST_LATE",20),("MOST_LENGTH",20),("MOST_PARTS",4),("TOOLS",4)]:List (Str×Int)),∃t,mg q.1=some (.int q.2 t)
 e_NoComings:gW K mg "NoComings" cs.NoComings
 e_NoErrand:gW K mg "NoErrand" cs.NoErrand
 e_NoErrands:gW K mg "NoErrands" cs.NoErrands
 e_NoNumber:gW K mg "NoNumber" cs.NoNumber
 e_NoRanks:gW K mg "NoRanks" cs.NoRanks
 e_NoText:gW K mg "NoText" cs.NoText
 e_RankError:gW K mg "RankError" cs.RankError
 ex:∀C∈[cs.NoComings,cs.NoErrand,cs.NoErrands,cs.NoNumber,cs.NoRanks],lj K C
 ik:∀q∈([(cs.NoComings,.ref cs.NoComings,true),(cs.NoComings,.ref cs.NoErrand,false),(cs.NoComings,.ref cs.NoErrands,false),(cs.NoComings,.ref cs.NoNumber,false),(cs.NoComings,.ref cs.NoRanks,false),(cs.NoComings,.ref cs.NoText,false),(cs.NoComings,.type "ValueError",true),(cs.NoErrand,.ref cs.NoComings,false),(cs.NoErrand,.ref cs.NoErrand,true),(cs.NoErrand,.ref cs.NoErrands,false),(cs.NoErrand,.ref cs.NoNumber,false),(cs.NoErrand,.ref cs.NoRanks,false),(cs.NoErrand,.ref cs.NoText,false),(cs.NoErrand,.type "ValueError",true),(cs.NoErrands,.ref cs.NoComings,false),(cs.NoErrands,.ref cs.NoErrand,false),(cs.NoErrands,.ref cs.NoErrands,true),(cs.NoErrands,.ref cs.NoNumber,false),(cs.NoErrands,.ref cs.NoRanks,false),(cs.NoErrands,.ref cs.NoText,false),(cs.NoErrands,.type "ValueError",true),(cs.NoNumber,.ref cs.NoComings,false),(cs.NoNumber,.ref cs.NoErrand,false),(cs.NoNumber,.ref cs.NoErrands,false),(cs.NoNumber,.ref cs.NoNumber,true),(cs.NoNumber,.ref cs.NoRanks,false),(cs.NoNumber,.ref cs.NoText,false),(cs.NoNumber,.type "ValueError",true),(cs.NoRanks,.ref cs.NoComings,false),(cs.NoRanks,.ref cs.NoErrand,false),(cs.NoRanks,.ref cs.NoErrands,false),(cs.NoRanks,.ref cs.NoNumber,false),(cs.NoRanks,.ref cs.NoRanks,true),(cs.NoRanks,.ref cs.NoText,false),(cs.NoRanks,.type "ValueError",true)]:List (Addr×Value×Bool)),PySem.W.kitOne K (.ref q.1) q.2.1=some q.2.2
 sp:∀C∈[cs.NoComings,cs.NoErrand,cs.NoErrands,cs.NoNumber,cs.NoRanks],PySem.W.mroIn K C (.ref cs.RankError)=some true
structure Ty (K:PySem.W.Frag) (mg:Str->Option Value) (cs:Cs) (base:Heap):Prop extends Tx K mg cs where
 hB:lV mg base
 hK:K.In base
section
variable {cs:Cs}
theorem pj:ef ["_law_script", "_law_k"] ["_law_script", "_law_k"] (aQ (top 122)):=⟨rfl,rfl,rfl,by decide +kernel,rfl,by decide +kernel,by decide +kernel⟩
theorem pA (F:Fun K "_law_cell_at" "_law_cell_at" (top 122) f fd) (bl:mg "len"=none):fJ P w K mg base CX0 1 f fd ["_law_script", "_law_k"] (ud K):=by
 refine F.ok pj (λvs H Q E h=>?_) (λcdv A outer s H vs Q E l h=>?_)
 ·obtain⟨a,ns,k,rfl,_⟩:=h;rfl
 ·obtain⟨a,ns,k,rfl,e,m,g⟩:=h;refine⟨_,fg (sE (wL (yX (pv 1) (eE gA rfl bl PySem.boot_len (bX (pv 0) dw)))) (gE (iO (nQ i4 (pv 0) (pv 1) (λ_ _=>rfl)))) mZ)
   (fg (sE (i7 (pC l.units) (pv 0) (iI dw) (gO _)) (gE (iO fM)) mZ)
   (gE (iO (dE jx (dE jw (nQ i4 (pv 0) (dE kn (pv 1) (eE gA rfl bl PySem.boot_len (bX (pv 0) dw))) (λ_ _=>rfl)) fM) (pv 1))))),?_⟩
  refine⟨_,rfl,_,rfl,a,_,rfl,.inl e,k,_,rfl,rfl,_,rfl,?_⟩;have hlen:(ns.map V.int).length=ns.length:=B3 ..;rw[hlen];refine zP (λhc=>?_) (λhc=>?_)
  ·have hc:k<(ns.length:Int):=of_decide_eq_true hc;have hi:k.toNat<ns.length:=by omega
   refine⟨_,rfl,_,rfl,a,_,k,.int (ns.getD k.toNat 0),rfl,rfl,e,ml m ?_,?_⟩
   ·rw[BK,B2 hi,BD,B2 hi];rfl
   ·have:=g H (aw.refl H);rw[show cellAt ns k=ns.getD k.toNat 0 by unfold cellAt;rw[if_pos hc]]at this;exact this
  ·have hc:¬ k<(ns.length:Int):=λz=>hc (decide_eq_true z)
   refine⟨_,rfl,Cz _,λp i=>⟨.list (ns.map .int),.list [],(mr e (lT ns)).same (i3 i),mr (SqL.of aV) kH,shaped_ints ns,oS,_,rfl,?_⟩⟩;rw[uv];refine zP (λb=>?_) (λb=>?_)
   ·have b:ns=[]:=of_decide_eq_true b;have:=g _ (i3 (o:=.lst []) i);rw[show cellAt ns k=0 by unfold cellAt;rw[if_neg hc,if_pos b]]at this;exact this
   ·have b:¬ ns=[]:=λz=>b (decide_eq_true z)
    have c:0<(ns.length:Int):=by
     cases ns with
     |nil=>exact absurd rfl b
     |cons _ _=>simp
    have h1:0<=k % (ns.length:Int):=C7 _ (by omega);have h2:k % (ns.length:Int)<(ns.length:Int):=BX _ c;have hi:(k % (ns.length:Int)).toNat<ns.length:=by omega
    have j:aw H (upd H p (.lst [])):=i3 i;refine⟨_,rfl,_,rfl,_,rfl,a,_,rfl,.inl (j.seq e),_,_,rfl,rfl,by rw[hlen];exact c,a,_,_,.int (ns.getD (k % (ns.length:Int)).toNat 0),rfl,rfl,j.seq e,?_,_,_,rfl,rfl,.inr ⟨by decide,by decide⟩,_,rfl,_,_,rfl,rfl,?_⟩
    ·rw[hlen];refine ml h1 ?_;rw[BK,B2 hi,BD,B2 hi];rfl
    ·have:=g _ j;rw[show cellAt ns k=ns.getD (k % (ns.length:Int)).toNat 0*31+k by unfold cellAt;rw[if_neg hc,if_neg b]]at this;exact this
theorem nX:ef ["_law_script", "_law_k", "_law_many", "_law_drawn"] ["_law_script", "_law_k", "_law_many"] (aQ (top 123)):=⟨rfl,rfl,rfl,by decide +kernel,rfl,by decide +kernel,by decide +kernel⟩
theorem rG {b:FuncData} (F:Fun K "_law_mixed" "_law_mixed" (top 123) f fd) (e:Fun K "_law_cell_at" "_law_cell_at" (top 122) c b) (g:Binds K b ["_law_script", "_law_k"] []) (j:mg "_law_cell_at"=some (.ref c)) (bl:mg "len"=none):fJ P w K mg base CX0 2 f fd ["_law_script", "_law_k", "_law_many"] (wB K):=by
 have l:fJ P w K mg base CX0 1 c b _ (ud K):=pA e bl;refine F.ok nX (λvs H Q E h=>?_) (λcdv A outer s H vs Q E m h=>?_)
 ·obtain⟨a,ns,k,many,rfl,_⟩:=h;rfl
 ·obtain⟨a,ns,k,many,rfl,n,o,hm,p⟩:=h;refine⟨_,fg (kl (i:=3) nX.nd rfl (Or.inl rfl) (dE kn (dE jw (dE jx (dE jx (pH l m rfl j e.kp g .nil yZ (bX (pv 0) (bX (pv 1) dw))) (dE jw fM (pv 1))) fM) fM) fM))
   (gE (iO (dE kn (dE kn (dE jx (dE jx (dE jw (pv 3) (pv 3)) (dE jw fM (pv 3))) (pv 1)) fM) (pv 2)))),?_⟩
  refine⟨_,rfl,_,rfl,a,ns,k,rfl,n,o,λH1 q=>?_⟩;refine⟨_,rfl,_,_,rfl,rfl,.inl ⟨by decide,by decide⟩,_,_,rfl,rfl,_,_,rfl,rfl,_,_,rfl,rfl,.inr ⟨by decide,by decide⟩,_,_,rfl,rfl,(by show (0:Int)<2147483647;decide),?_⟩;have b1:=vh ns k;have b2:=uL ns k;have eD:(cellAt ns k+7919*k+1)*48271 % 2147483647=rj ns k:=rfl;refine⟨_,rfl,_,rfl,_,_,rfl,rfl,.inl ⟨?_,?_⟩,_,rfl,_,_,rfl,rfl,.inl ⟨by decide,by decide⟩,_,_,rfl,rfl,_,rfl,_,_,rfl,rfl,_,_,rfl,rfl,(by show (0:Int)<2147483629;decide),_,rfl,_,_,rfl,rfl,hm,p H1 q⟩
  ·show -(2 ^ 64)<(cellAt ns k+7919*k+1)*48271 % 2147483647;rw[eD];omega
  ·show (cellAt ns k+7919*k+1)*48271 % 2147483647<2 ^ 64;rw[eD];omega
theorem eC (T:Tx K mg cs):iA P w K mg base 2 "_law_mixed" 3 aj:=by obtain⟨f,fd,F,b,m⟩:=T.f_law_mixed;obtain⟨fC,fdC,a,c,e⟩:=T.f_law_cell_at;exact iA.old (rG F a c e (T.bs _ (by decide))) m F.kp b vO
set_option hygiene false
local macro_rules | `(tactic| exists $r)=>`(tactic| refine' $r ..) |`(tactic| exists $r,$rs,*)=>`(tactic| first|refine' $r ..|exists $rs,*)
local macro_rules | `(tactic| infer_instance)=>`(tactic| first|((with_reducible show _=_);exact rfl)|(with_reducible first|(show PD _ _ _ _;first|exists wM,wC,uO,zV,yJ,xT,y4,xc,yx,xN,wO,xF,xD,yG,wZ,xP,yP,wD,yf,wK,sC|(show PD _ _ _ (cV _ _ _);apply vK)|(show PD _ _ _ (ai _ _);apply vW)|exists qJ,qw,yA,wI,sU,ph,qK,va,vd,zT,yy,uG)|(show PAD _ _ _ _;first|exists ug,ux)|(show PCD _ _ _ _;first|exists wX,xX,yk,xa,vA|refine' wg (pwd_and ..)|refine' wg (sg ..)|refine' vp ..)|(show PSD _ _ _ _ _;first|exists vo,xy,qp|(show PSD _ _ _ (.Assign _ (.ListComp _ _ _ _) _) (bh _ _ (gL _));apply uh;apply tG;focus with_unfolding_all exact rfl)|exists vR,uI,u7,pD,uX,rR|(show PSD _ _ _ _ (mY _ _ _ _);apply ve))|(show PBD _ _ _ _ _;first|refine' t6 ..|(show PBD _ _ _ _ (kI _ _ _ _);apply qc)|exists vN,p4,gp)|(show PLD _ _ _ _;first|(show PLD _ _ _ (bY _ _ _ _ _);apply tQ)|exists uK,qD)|(show PID _ _ _ _ _;first|exists oA,vI,vV)|(show PIf _ _ _;first|exact PIf.nil|refine' PIf.one ..)|(show PWD _ _ _ _;first|exists sg,pwd_and1,vL)|(show TgS _ _ _ _;first|refine' tJ ..)|(show POD _ _ _ _;first|exists t7,sQ)) <;> infer_instance|((with_reducible show PBD _ _ _ _ sNo);exact t6)|((with_reducible show PBD _ _ _ _ _); first|refine' gp ?_ ?_|refine' p4 ?_) <;> infer_instance|((with_reducible show PG _ _ _); first|refine' vJ ?_ ?_ ?_|refine' yj ?_ ?_) <;> infer_instance|((with_reducible show PGs _ _ _); first|refine' rK ?_ ?_|exact vP) <;> infer_instance|((with_reducible show lQ _ _ _ _ _);first|exact vf|apply tN) <;> infer_instance|exact rfl|((with_reducible show iA _ _ _ _ _ _ _ _ _);(with_reducible refine' iA.to ?z1 ?z2 ?z3);(case z1=>with_reducible assumption);(case z2=>exact⟨rfl,rfl,rfl,rfl,rfl⟩);(case z3=>rfl))|exact hr|exact vc|exact sJ|exact T.bs _ (by decide +kernel)|exact T.cst (_,_) (by decide +kernel)|exact .inl rfl|exact .inr rfl|exact .inr (.inl rfl)|exact .inr (.inr rfl)|exact nd|exact tV (by kernel_rfl)|exact PassesOwn.leaving|exact uq|exact tY|exact λ_=>rfl|exact λ_ _=>rfl|((with_reducible intro _ _ _ _);infer_instance)|exact T.e_NoComings|exact T.e_NoErrand|exact T.e_NoErrands|exact T.e_NoNumber|exact T.e_NoRanks|exact T.e_NoText|exact T.e_RankError|exact yq|exact rH|exact bt_bool|exact nJ|exact mQ|exact dG.u1 hr|exact hr.units|exact⟨rfl,rfl,rfl,rfl⟩|exact⟨_,rfl⟩|exact hr.in1.deeper _|exact dG.u1 (hr.in1.deeper _)|decide|with_unfolding_all rfl)
local macro_rules | `(tactic| nofun)=>`(tactic| (try have:=cJ P w T;try have:=dg P w T;try have:=lJ P w T;try have:=jK P w T;try have:=jE P w T;try have:=a7 P w T;try have:=ma P w T;try have:=dZ P w T;try have:=bS P w T;try have:=a9 P w T;try have:=mz P w T;try have:=ig P w T;try have:=iU P w T;try have:=jX P w T;try have:=fz P w T;try have:=eW P w T;try have:=de P w T;try have:=mh P w T;try have:=iR P w T;try have:=jz P w T;try have:=pq P w T;try have:=hZ P w T;try have:=og P w T;try have:=cC P w T;try have:=nF P w T;try have:=nZ P w T;try have:=i6 P w T;try have:=iq P w T;try have:=fi P w T;try have:=en P w T;try have:=ju P w T;try have:=jk P w T;try have:=fW P w T;try have:=lz P w T;try have:=l9 P w T;try have:=jL P w T;try have:=gU P w T;try have:=pT P w T;try have:=kG P w T;try have:=lU P w T;try have:=kf P w T;try have:=ka P w T;try have:=fX P w T;try have:=fc P w T;try have:=g6 P w T;try have:=eC (P:=P) (w:=w) (base:=base) T.toTx;try have:=jG P w T;try have:=iW P w T;try have:=iF P w T))
local macro_rules | `(tactic| and_intros)=>`(tactic| (nofun;intro f cdv A outer s H E nd hr;infer_instance))
theorem dst (T:Tx K mg cs):([cs.NoErrands,cs.NoRanks,cs.NoComings,cs.NoErrand,cs.NoNumber]:List Addr).Nodup:=by
 have e_NoErrands_NoRanks:=fT (T.ik (cs.NoErrands,.ref cs.NoErrands,true) (.tail _ (.tail _ (.tail _ (.tail _ (.tail _ (.tail _ (.tail _ (.tail _ (.tail _ (.tail _ (.tail _ (.tail _ (.tail _ (.tail _ (.tail _ (.tail _ (.head _)))))))))))))))))) (T.ik (cs.NoRanks,.ref cs.NoErrands,false) (.tail _ (.tail _ (.tail _ (.tail _ (.tail _ (.tail _ (.tail _ (.tail _ (.tail _ (.tail _ (.tail _ (.tail _ (.tail _ (.tail _ (.tail _ (.tail _ (.tail _ (.tail _ (.tail _ (.tail _ (.tail _ (.tail _ (.tail _ (.tail _ (.tail _ (.tail _ (.tail _ (.tail _ (.tail _ (.tail _ (.head _))))))))))))))))))))))))))))))));have e_NoErrands_NoComings:=fT (T.ik (cs.NoErrands,.ref cs.NoErrands,true) (.tail _ (.tail _ (.tail _ (.tail _ (.tail _ (.tail _ (.tail _ (.tail _ (.tail _ (.tail _ (.tail _ (.tail _ (.tail _ (.tail _ (.tail _ (.tail _ (.head _)))))))))))))))))) (T.ik (cs.NoComings,.ref cs.NoErrands,false) (.tail _ (.tail _ (.head _))));have e_NoErrands_NoErrand:=fT (T.ik (cs.NoErrands,.ref cs.NoErrands,true) (.tail _ (.tail _ (.tail _ (.tail _ (.tail _ (.tail _ (.tail _ (.tail _ (.tail _ (.tail _ (.tail _ (.tail _ (.tail _ (.tail _ (.tail _ (.tail _ (.head _)))))))))))))))))) (T.ik (cs.NoErrand,.ref cs.NoErrands,false) (.tail _ (.tail _ (.tail _ (.tail _ (.tail _ (.tail _ (.tail _ (.tail _ (.tail _ (.head _)))))))))));have e_NoErrands_NoNumber:=fT (T.ik (cs.NoErrands,.ref cs.NoErrands,true) (.tail _ (.tail _ (.tail _ (.tail _ (.tail _ (.tail _ (.tail _ (.tail _ (.tail _ (.tail _ (.tail _ (.tail _ (.tail _ (.tail _ (.tail _ (.tail _ (.head _)))))))))))))))))) (T.ik (cs.NoNumber,.ref cs.NoErrands,false) (.tail _ (.tail _ (.tail _ (.tail _ (.tail _ (.tail _ (.tail _ (.tail _ (.tail _ (.tail _ (.tail _ (.tail _ (.tail _ (.tail _ (.tail _ (.tail _ (.tail _ (.tail _ (.tail _ (.tail _ (.tail _ (.tail _ (.tail _ (.head _)))))))))))))))))))))))));have e_NoRanks_NoComings:=fT (T.ik (cs.NoRanks,.ref cs.NoRanks,true) (.tail _ (.tail _ (.tail _ (.tail _ (.tail _ (.tail _ (.tail _ (.tail _ (.tail _ (.tail _ (.tail _ (.tail _ (.tail _ (.tail _ (.tail _ (.tail _ (.tail _ (.tail _ (.tail _ (.tail _ (.tail _ (.tail _ (.tail _ (.tail _ (.tail _ (.tail _ (.tail _ (.tail _ (.tail _ (.tail _ (.tail _ (.tail _ (.head _)))))))))))))))))))))))))))))))))) (T.ik (cs.NoComings,.ref cs.NoRanks,false) (.tail _ (.tail _ (.tail _ (.tail _ (.head _))))));have e_NoRanks_NoErrand:=fT (T.ik (cs.NoRanks,.ref cs.NoRanks,true) (.tail _ (.tail _ (.tail _ (.tail _ (.tail _ (.tail _ (.tail _ (.tail _ (.tail _ (.tail _ (.tail _ (.tail _ (.tail _ (.tail _ (.tail _ (.tail _ (.tail _ (.tail _ (.tail _ (.tail _ (.tail _ (.tail _ (.tail _ (.tail _ (.tail _ (.tail _ (.tail _ (.tail _ (.tail _ (.tail _ (.tail _ (.tail _ (.head _)))))))))))))))))))))))))))))))))) (T.ik (cs.NoErrand,.ref cs.NoRanks,false) (.tail _ (.tail _ (.tail _ (.tail _ (.tail _ (.tail _ (.tail _ (.tail _ (.tail _ (.tail _ (.tail _ (.head _)))))))))))));have e_NoRanks_NoNumber:=fT (T.ik (cs.NoRanks,.ref cs.NoRanks,true) (.tail _ (.tail _ (.tail _ (.tail _ (.tail _ (.tail _ (.tail _ (.tail _ (.tail _ (.tail _ (.tail _ (.tail _ (.tail _ (.tail _ (.tail _ (.tail _ (.tail _ (.tail _ (.tail _ (.tail _ (.tail _ (.tail _ (.tail _ (.tail _ (.tail _ (.tail _ (.tail _ (.tail _ (.tail _ (.tail _ (.tail _ (.tail _ (.head _)))))))))))))))))))))))))))))))))) (T.ik (cs.NoNumber,.ref cs.NoRanks,false) (.tail _ (.tail _ (.tail _ (.tail _ (.tail _ (.tail _ (.tail _ (.tail _ (.tail _ (.tail _ (.tail _ (.tail _ (.tail _ (.tail _ (.tail _ (.tail _ (.tail _ (.tail _ (.tail _ (.tail _ (.tail _ (.tail _ (.tail _ (.tail _ (.tail _ (.head _)))))))))))))))))))))))))));have e_NoComings_NoErrand:=fT (T.ik (cs.NoComings,.ref cs.NoComings,true) (.head _)) (T.ik (cs.NoErrand,.ref cs.NoComings,false) (.tail _ (.tail _ (.tail _ (.tail _ (.tail _ (.tail _ (.tail _ (.head _)))))))));have e_NoComings_NoNumber:=fT (T.ik (cs.NoComings,.ref cs.NoComings,true) (.head _)) (T.ik (cs.NoNumber,.ref cs.NoComings,false) (.tail _ (.tail _ (.tail _ (.tail _ (.tail _ (.tail _ (.tail _ (.tail _ (.tail _ (.tail _ (.tail _ (.tail _ (.tail _ (.tail _ (.tail _ (.tail _ (.tail _ (.tail _ (.tail _ (.tail _ (.tail _ (.head _)))))))))))))))))))))));have e_NoErrand_NoNumber:=fT (T.ik (cs.NoErrand,.ref cs.NoErrand,true) (.tail _ (.tail _ (.tail _ (.tail _ (.tail _ (.tail _ (.tail _ (.tail _ (.head _)))))))))) (T.ik (cs.NoNumber,.ref cs.NoErrand,false) (.tail _ (.tail _ (.tail _ (.tail _ (.tail _ (.tail _ (.tail _ (.tail _ (.tail _ (.tail _ (.tail _ (.tail _ (.tail _ (.tail _ (.tail _ (.tail _ (.tail _ (.tail _ (.tail _ (.tail _ (.tail _ (.tail _ (.head _))))))))))))))))))))))));simp only[BZ,B8,Bq,or_false,not_or,not_false_eq_true,Cy,and_true];exact⟨⟨e_NoErrands_NoRanks,e_NoErrands_NoComings,e_NoErrands_NoErrand,e_NoErrands_NoNumber⟩,⟨e_NoRanks_NoComings,e_NoRanks_NoErrand,e_NoRanks_NoNumber⟩,⟨e_NoComings_NoErrand,e_NoComings_NoNumber⟩,e_NoErrand_NoNumber⟩
variable (P w) (T:Ty K mg cs base)
def cJ:=dA P w base 0 [] ["thing", "least", "most"] T.f_is_whole (pE cs) (by delta gD;intro f cdv A outer s H E nd hr;infer_instance)
def dg:=dA P w base 0 [] ["thing", "fewest", "most"] T.f_is_tuple (oF cs) (by delta gG;intro f cdv A outer s H E nd hr;infer_instance)
def lJ:=dA P w base 1 [] ["thing"] T.f_is_part (rg cs) (by delta eX;have:=cJ P w T;have:=dg P w T;intro f cdv A outer s H E nd hr;infer_instance)
def jK:=dA P w base 2 [] ["thing"] T.f_are_parts (nA cs) (by delta eB;have:=dg P w T;have:=lJ P w T;intro f cdv A outer s H E nd hr;infer_instance)
def jE:=dA P w base 3 [] ["thing", "every", "due", "late"] T.f_is_errand (nG cs) (by delta cF;have:=cJ P w T;have:=jK P w T;have:=dg P w T;intro f cdv A outer s H E nd hr;infer_instance)
def a7:=dA P w base 4 [] ["errands"] T.f_checked (ql cs) (by delta fY;have:=dg P w T;have:=jE P w T;intro f cdv A outer s H E nd hr;infer_instance)
def ma:=dA P w base 5 [] ["errands", "hands"] (gf:=cQ cs) (G:=j9 cs _ _) T.f_dealt bx (by delta j9;have:=cJ P w T;have:=a7 P w T;intro f cdv A outer s H E nd hr;infer_instance)
def dZ:=dA P w base 1 [] ["errands", "number"] T.f_checked_number (jA cs) (by delta cT;have:=cJ P w T;intro f cdv A outer s H E nd hr;infer_instance)
def bS:=dA P w base 1 [] ["errands", "ranks", "last"] T.f_checked_ranks (jR cs) (by delta bT;have:=dg P w T;have:=cJ P w T;intro f cdv A outer s H E nd hr;infer_instance)
def a9:=dA P w base 5 [] ["errands", "ranks", "number"] (gf:=au cs) (G:=fU cs _ _ _) T.f_check_place bx (by delta fU;have:=dZ P w T;have:=bS P w T;have:=a7 P w T;intro f cdv A outer s H E nd hr;infer_instance)
def mz:=dA P w base 6 [] ["errands", "ranks", "number"] (gf:=cH cs) (G:=mO cs _) T.f_hold bx (by delta mO;have:=a9 P w T;intro f cdv A outer s H E nd hr;infer_instance)
def ig:=dA P w base 6 [] ["errands", "ranks", "number"] (gf:=bD cs) (G:=iG cs _) T.f_longest bx (by delta iG;have:=a9 P w T;intro f cdv A outer s H E nd hr;infer_instance)
def iU:=dA P w base 6 [] ["errands", "ranks", "number"] (gf:=bO cs) (G:=jq cs _) T.f_levels bx (by delta jq;have:=a9 P w T;intro f cdv A outer s H E nd hr;infer_instance)
def jX:=dA P w base 6 [] ["errands", "ranks", "number", "times"] (gf:=cg cs) (G:=kR cs _) T.f_spare bx (by delta kR;have:=a9 P w T;intro f cdv A outer s H E nd hr;infer_instance)
def fz:=dA P w base 6 [] ["errands", "ranks", "number", "comings", "start", "found", "greatest", "one"] (gf:=ba cs) (G:=gx cs _) T.f_worst_run bx (by delta gx;have:=a9 P w T;intro f cdv A outer s H E nd hr;infer_instance)
def eW:=dA P w base 6 [] ["errands", "ranks", "number"] (gf:=aY cs) (G:=fO cs _) T.f_hold_asked bx (by delta fO;have:=a9 P w T;intro f cdv A outer s H E nd hr;infer_instance)
def de:=dA P w base 6 [] ["errands", "ranks", "number"] (gf:=aH cs) (G:=dW cs _) T.f_longest_asked bx (by delta dW;have:=a9 P w T;intro f cdv A outer s H E nd hr;infer_instance)
def mh:=dA P w base 6 [] ["errands", "ranks", "number", "times"] (gf:=cL cs) (G:=mI cs _) T.f_rush bx (by delta mI;have:=a9 P w T;intro f cdv A outer s H E nd hr;infer_instance)
def iR:=dA P w base 6 [] ["errands", "ranks", "number", "time"] (gf:=cu cs) (G:=gK cs _) T.f_is_bound bx (by delta gK;have:=a9 P w T;intro f cdv A outer s H E nd hr;infer_instance)
def jz:=dA P w base 6 [] ["errands", "ranks", "number", "thing", "job"] (gf:=cG cs) (G:=iJ cs _) T.f_is_late bx (by delta iJ;have:=a9 P w T;intro f cdv A outer s H E nd hr;infer_instance)
def pq:=dA P w base 5 [] ["errands", "number"] (gf:=eG cs) (G:=mn cs _ _) T.f_work bx (by delta mn;have:=dZ P w T;have:=a7 P w T;intro f cdv A outer s H E nd hr;infer_instance)
def hZ:=dA P w base 0 [] ["errand", "row", "every", "late", "earliest", "came", "moment"] T.f_have_moments (kz cs) (by delta dN;intro f cdv A outer s H E nd hr;infer_instance)
def og:=dA P w base 1 [] ["errand", "thing"] (gf:=cq cs) (G:=cZ cs _ _) T.f_is_row bx (by delta cZ;have:=cJ P w T;have:=hZ P w T;intro f cdv A outer s H E nd hr;infer_instance)
def cC:=dA P w base 5 [] ["errands", "comings"] (gf:=aB cs) (G:=dO cs _ _) T.f_checked_comings bx (by delta dO;have:=og P w T;have:=a7 P w T;intro f cdv A outer s H E nd hr;infer_instance)
def nF:=dA P w base 0 [] ["errands", "ranks", "rows", "lending", "tops", "queues", "told", "there", "best"] (gf:=fh cs) (G:=jf cs) T.f_run_of bx (by delta jf;intro f cdv A outer s H E nd hr;infer_instance)
def nZ:=dA P w base 6 [] ["errands", "ranks", "comings", "lending"] (gf:=bf cs) (G:=oO cs _ _ _ _) T.f_run bx (by delta oO;have:=cC P w T;have:=nF P w T;have:=bS P w T;have:=a7 P w T;intro f cdv A outer s H E nd hr;infer_instance)
def i6:=dA P w base 0 [] ["rows", "told", "ends", "time", "done"] (gf:=bF cs) (G:=fN cs) T.f_answers_in bx (by delta fN;intro f cdv A outer s H E nd hr;infer_instance)
def iq:=dA P w base 7 [] ["errands", "ranks", "comings", "lending"] (gf:=bj cs) (G:=dh cs _ _) T.f_answers bx (by delta dh;have:=nZ P w T;have:=i6 P w T;intro f cdv A outer s H E nd hr;infer_instance)
def fi:=dA P w base 1 [] ["errands", "calendar", "many"] (gf:=aS cs) (G:=bL cs _ _) T.f_checked_calendar bx (by delta bL;have:=dg P w T;have:=cJ P w T;intro f cdv A outer s H E nd hr;infer_instance)
def en:=dA P w base 5 [] ["errands", "ranks", "calendar", "times", "end", "rows", "told"] (gf:=aP cs) (G:=ff cs _ _ _) T.f_by_calendar bx (by delta ff;have:=fi P w T;have:=bS P w T;have:=a7 P w T;intro f cdv A outer s H E nd hr;infer_instance)
def ju:=dA P w base 5 [] ["errands", "ranks"] (gf:=cI cs) (G:=iK cs _ _) T.f_heights bx (by delta iK;have:=bS P w T;have:=a7 P w T;intro f cdv A outer s H E nd hr;infer_instance)
def jk:=dA P w base 5 [] ["errands", "ranks"] (gf:=cM cs) (G:=iH cs _ _) T.f_in_time bx (by delta iH;have:=bS P w T;have:=a7 P w T;intro f cdv A outer s H E nd hr;infer_instance)
def fW:=dA P w base 8 [] ["_law_what", "_law_errands_here", "_law_bad"] (gf:=bZ cs) (G:=dY cs _ _ _ _ _ _ _ _ _ _ _ _ _) T.f_law_with_ranks bx (by delta dY;have:=nZ P w T;have:=iq P w T;have:=mz P w T;have:=ig P w T;have:=iU P w T;have:=jX P w T;have:=fz P w T;have:=ju P w T;have:=jk P w T;have:=eW P w T;have:=de P w T;have:=mh P w T;have:=en P w T;intro f cdv A outer s H E nd hr;infer_instance)
def lz:=dA P w base 5 [] ["errands"] (gf:=ft cs) (G:=iQ cs _) T.f_fitting bx (by delta iQ;have:=a7 P w T;intro f cdv A outer s H E nd hr;infer_instance)
def l9:=dA P w base 5 [] ["errands", "left"] (gf:=cN cs) (G:=kB cs _) T.f_never bx (by delta kB;have:=a7 P w T;intro f cdv A outer s H E nd hr;infer_instance)
def jL:=dA P w base 6 [] ["errands", "some"] (gf:=c7 cs) (G:=gB cs _) T.f_why_never bx (by delta gB;have:=l9 P w T;intro f cdv A outer s H E nd hr;infer_instance)
def gU:=dA P w base 5 [] ["errands", "hands"] (gf:=cU cs) (G:=eH cs _) T.f_fewest_hands bx (by delta eH;have:=a7 P w T;intro f cdv A outer s H E nd hr;infer_instance)
def pT:=dA P w base 5 [] ["errands"] (gf:=ir cs) (G:=kv cs _) T.f_shown bx (by delta kv;have:=a7 P w T;intro f cdv A outer s H E nd hr;infer_instance)
def kG:=dA P w base 5 [] ["errands", "thing"] (gf:=eR cs) (G:=gY cs _) T.f_is_never bx (by delta gY;have:=a7 P w T;intro f cdv A outer s H E nd hr;infer_instance)
def lU:=dA P w base 5 [] ["errands", "times", "works"] (gf:=fu cs) (G:=iM cs _) T.f_stretch bx (by delta iM;have:=a7 P w T;intro f cdv A outer s H E nd hr;infer_instance)
def kf:=dA P w base 5 [] ["errands", "times", "errand"] (gf:=eQ cs) (G:=gX cs _) T.f_round_of bx (by delta gX;have:=a7 P w T;intro f cdv A outer s H E nd hr;infer_instance)
def ka:=dA P w base 5 [] ["errands", "told", "room", "ranks"] (gf:=eP cs) (G:=gZ cs _) T.f_roomiest bx (by delta gZ;have:=a7 P w T;intro f cdv A outer s H E nd hr;infer_instance)
def fX:=dA P w base 7 [] ["_law_what", "_law_bad"] (gf:=bU cs) (G:=dR cs _ _ _ _ _ _ _ _ _ _) T.f_law_with_later bx (by delta dR;have:=kG P w T;have:=iR P w T;have:=jz P w T;have:=en P w T;have:=eW P w T;have:=de P w T;have:=mh P w T;have:=lU P w T;have:=kf P w T;have:=ka P w T;intro f cdv A outer s H E nd hr;infer_instance)
def fc:=dA P w base 8 [] ["_law_what", "_law_bad"] (gf:=bJ cs) (G:=dj cs _ _ _ _ _ _ _ _ _ _ _ _ _ _ _ _ _ _ _) T.f_law_with_errands bx (by delta dj;have:=nZ P w T;have:=iq P w T;have:=mz P w T;have:=ig P w T;have:=iU P w T;have:=jX P w T;have:=fz P w T;have:=pq P w T;have:=ju P w T;have:=cC P w T;have:=jk P w T;have:=ma P w T;have:=a7 P w T;have:=lz P w T;have:=l9 P w T;have:=jL P w T;have:=gU P w T;have:=pT P w T;have:=fX P w T;intro f cdv A outer s H E nd hr;infer_instance)
def g6:=dA P w base 9 [] ["_law_errands_here", "_law_ranks_here", "_law_kind", "_law_cell", "_law_what", "_law_bad", "_law_rows", "_law_some"] (gf:=cn cs) (G:=gM cs _ _ _ _ _ _ _ _ _ _ _ _ _ _ _ _ _ _) T.f_law_asked bx (by delta gM;have:=ma P w T;have:=mz P w T;have:=ig P w T;have:=iU P w T;have:=jX P w T;have:=fz P w T;have:=eW P w T;have:=de P w T;have:=mh P w T;have:=iR P w T;have:=jz P w T;have:=pq P w T;have:=nZ P w T;have:=iq P w T;have:=cC P w T;have:=en P w T;have:=fW P w T;have:=fc P w T;intro f cdv A outer s H E nd hr;infer_instance)
def jG:=dA P w base 2 [3,4] ["_law_script", "_law_at", "_law_many", "_law_left", "_law_made", "_law_k"] T.f_law_ranks (nM cs) (by delta fx;have:=eC (P:=P) (w:=w) (base:=base) T.toTx;intro f cdv A outer s H E nd hr;infer_instance)
def iW:=dA P w base 2 [7] ["_law_script", "_law_at", "_law_top", "_law_tools", "_law_every", "_law_late", "_law_due", "_law_parts", "_law_k", "_law_cell"] T.f_law_errand (mw cs) (by delta eS;have:=eC (P:=P) (w:=w) (base:=base) T.toTx;intro f cdv A outer s H E nd hr;infer_instance)
def iF:=dA P w base 3 [] ["_law_script", "_law_at", "_law_most", "_law_top", "_law_tools", "_law_many"] T.f_law_errands (kZ cs) (by delta d8;have:=iW P w T;have:=eC (P:=P) (w:=w) (base:=base) T.toTx;intro f cdv A outer s H E nd hr;infer_instance)
theorem law_ok (T:Ty K mg cs base) (F:Fun K "law" "law" (top 131) f fd):fJ P w K mg base (CXW P w) 11 f fd ["_law_script"] (spD K 1 (eo 63)) :=
 dL (ps:=["_law_script"]) 10 [] ["_law_script", "_law_errands_here", "_law_ranks_here", "_law_kind", "e", "_law_own"] F (yU cs (dst T.toTx)) (by delta pG;have:=g6 P w T;have:=eC (P:=P) (w:=w) (base:=base) T.toTx;have:=jG P w T;have:=iF P w T;intro f cdv A outer s H E nd hr;exact (gp (by infer_instance)
  (gp (by infer_instance)
  (gp (by infer_instance)
  (gp (oB (i:=4) (io:=5) (ik:=3) (g6 P w T) hr (by infer_instance) T.e_RankError nd (gN ⟨(T.sp _ (.tail _ (.tail _ (.head _)))),λea oe ho=>(aG (aX aZ ho (T.ex _ (.tail _ (.tail _ (.head _)))) (T.bs _ (by decide +kernel)) rfl (aK (v:=.ref cs.NoErrands) rfl T.e_NoErrands.m rfl) rfl (T.ik (_,_,_) (.tail _ (.tail _ (.tail _ (.tail _ (.tail _ (.tail _ (.tail _ (.tail _ (.tail _ (.tail _ (.tail _ (.tail _ (.tail _ (.tail _ (.tail _ (.tail _ (.head _))))))))))))))))))) (aG (aX aZ ho (T.ex _ (.tail _ (.tail _ (.head _)))) (T.bs _ (by decide +kernel)) rfl (aK (v:=.ref cs.NoRanks) rfl T.e_NoRanks.m rfl) rfl (T.ik (_,_,_) (.tail _ (.tail _ (.tail _ (.tail _ (.tail _ (.tail _ (.tail _ (.tail _ (.tail _ (.tail _ (.tail _ (.tail _ (.tail _ (.tail _ (.tail _ (.tail _ (.tail _ (.tail _ (.head _))))))))))))))))))))) (aG (aX aZ ho (T.ex _ (.tail _ (.tail _ (.head _)))) (T.bs _ (by decide +kernel)) rfl (aK (v:=.ref cs.NoComings) rfl T.e_NoComings.m rfl) rfl (T.ik (_,_,_) (.tail _ (.tail _ (.tail _ (.tail _ (.tail _ (.tail _ (.tail _ (.tail _ (.tail _ (.tail _ (.tail _ (.tail _ (.tail _ (.tail _ (.head _))))))))))))))))) (aG (aX aZ ho (T.ex _ (.tail _ (.tail _ (.head _)))) (T.bs _ (by decide +kernel)) rfl (aK (v:=.ref cs.NoErrand) rfl T.e_NoErrand.m rfl) rfl (T.ik (_,_,_) (.tail _ (.tail _ (.tail _ (.tail _ (.tail _ (.tail _ (.tail _ (.tail _ (.tail _ (.tail _ (.tail _ (.tail _ (.tail _ (.tail _ (.tail _ (.head _)))))))))))))))))) ec rfl) rfl) rfl) rfl),λea oe ho=>(aG (aX aZ ho (T.ex _ (.tail _ (.tail _ (.head _)))) (T.bs _ (by decide +kernel)) rfl (aK (v:=.ref cs.NoNumber) rfl T.e_NoNumber.m rfl) rfl (T.ik (_,_,_) (.tail _ (.tail _ (.tail _ (.tail _ (.tail _ (.tail _ (.tail _ (.tail _ (.tail _ (.tail _ (.tail _ (.tail _ (.tail _ (.tail _ (.tail _ (.tail _ (.tail _ (.head _)))))))))))))))))))) (aG (aX aZ ho (T.ex _ (.tail _ (.tail _ (.head _)))) (T.bs _ (by decide +kernel)) rfl (aK (v:=.ref cs.NoText) rfl T.e_NoText.m rfl) rfl (T.ik (_,_,_) (.tail _ (.tail _ (.tail _ (.tail _ (.tail _ (.tail _ (.tail _ (.tail _ (.tail _ (.tail _ (.tail _ (.tail _ (.tail _ (.tail _ (.tail _ (.tail _ (.tail _ (.tail _ (.tail _ (.head _)))))))))))))))))))))) ec rfl) rfl),λea oe ho=>(aX aZ ho (T.ex _ (.tail _ (.tail _ (.head _)))) (T.bs _ (by decide +kernel)) rfl (ie (v:=.ty "ValueError") rfl (T.bs _ (by decide +kernel)) c8 rfl) rfl (T.ik (_,_,_) (.tail _ (.tail _ (.tail _ (.tail _ (.tail _ (.tail _ (.tail _ (.tail _ (.tail _ (.tail _ (.tail _ (.tail _ (.tail _ (.tail _ (.tail _ (.tail _ (.tail _ (.tail _ (.tail _ (.tail _ (.head _)))))))))))))))))))))))⟩ (gN ⟨(T.sp _ (.tail _ (.tail _ (.tail _ (.tail _ (.head _)))))),λea oe ho=>(aG (aX aZ ho (T.ex _ (.tail _ (.tail _ (.tail _ (.tail _ (.head _)))))) (T.bs _ (by decide +kernel)) rfl (aK (v:=.ref cs.NoErrands) rfl T.e_NoErrands.m rfl) rfl (T.ik (_,_,_) (.tail _ (.tail _ (.tail _ (.tail _ (.tail _ (.tail _ (.tail _ (.tail _ (.tail _ (.tail _ (.tail _ (.tail _ (.tail _ (.tail _ (.tail _ (.tail _ (.tail _ (.tail _ (.tail _ (.tail _ (.tail _ (.tail _ (.tail _ (.tail _ (.tail _ (.tail _ (.tail _ (.tail _ (.tail _ (.tail _ (.head _))))))))))))))))))))))))))))))))) (aG (aX aZ ho (T.ex _ (.tail _ (.tail _ (.tail _ (.tail _ (.head _)))))) (T.bs _ (by decide +kernel)) rfl (aK (v:=.ref cs.NoRanks) rfl T.e_NoRanks.m rfl) rfl (T.ik (_,_,_) (.tail _ (.tail _ (.tail _ (.tail _ (.tail _ (.tail _ (.tail _ (.tail _ (.tail _ (.tail _ (.tail _ (.tail _ (.tail _ (.tail _ (.tail _ (.tail _ (.tail _ (.tail _ (.tail _ (.tail _ (.tail _ (.tail _ (.tail _ (.tail _ (.tail _ (.tail _ (.tail _ (.tail _ (.tail _ (.tail _ (.tail _ (.tail _ (.head _))))))))))))))))))))))))))))))))))) (aG (aX aZ ho (T.ex _ (.tail _ (.tail _ (.tail _ (.tail _ (.head _)))))) (T.bs _ (by decide +kernel)) rfl (aK (v:=.ref cs.NoComings) rfl T.e_NoComings.m rfl) rfl (T.ik (_,_,_) (.tail _ (.tail _ (.tail _ (.tail _ (.tail _ (.tail _ (.tail _ (.tail _ (.tail _ (.tail _ (.tail _ (.tail _ (.tail _ (.tail _ (.tail _ (.tail _ (.tail _ (.tail _ (.tail _ (.tail _ (.tail _ (.tail _ (.tail _ (.tail _ (.tail _ (.tail _ (.tail _ (.tail _ (.head _))))))))))))))))))))))))))))))) (aG (aX aZ ho (T.ex _ (.tail _ (.tail _ (.tail _ (.tail _ (.head _)))))) (T.bs _ (by decide +kernel)) rfl (aK (v:=.ref cs.NoErrand) rfl T.e_NoErrand.m rfl) rfl (T.ik (_,_,_) (.tail _ (.tail _ (.tail _ (.tail _ (.tail _ (.tail _ (.tail _ (.tail _ (.tail _ (.tail _ (.tail _ (.tail _ (.tail _ (.tail _ (.tail _ (.tail _ (.tail _ (.tail _ (.tail _ (.tail _ (.tail _ (.tail _ (.tail _ (.tail _ (.tail _ (.tail _ (.tail _ (.tail _ (.tail _ (.head _)))))))))))))))))))))))))))))))) ec rfl) rfl) rfl) rfl),λea oe ho=>(aG (aX aZ ho (T.ex _ (.tail _ (.tail _ (.tail _ (.tail _ (.head _)))))) (T.bs _ (by decide +kernel)) rfl (aK (v:=.ref cs.NoNumber) rfl T.e_NoNumber.m rfl) rfl (T.ik (_,_,_) (.tail _ (.tail _ (.tail _ (.tail _ (.tail _ (.tail _ (.tail _ (.tail _ (.tail _ (.tail _ (.tail _ (.tail _ (.tail _ (.tail _ (.tail _ (.tail _ (.tail _ (.tail _ (.tail _ (.tail _ (.tail _ (.tail _ (.tail _ (.tail _ (.tail _ (.tail _ (.tail _ (.tail _ (.tail _ (.tail _ (.tail _ (.head _)))))))))))))))))))))))))))))))))) (aG (aX aZ ho (T.ex _ (.tail _ (.tail _ (.tail _ (.tail _ (.head _)))))) (T.bs _ (by decide +kernel)) rfl (aK (v:=.ref cs.NoText) rfl T.e_NoText.m rfl) rfl (T.ik (_,_,_) (.tail _ (.tail _ (.tail _ (.tail _ (.tail _ (.tail _ (.tail _ (.tail _ (.tail _ (.tail _ (.tail _ (.tail _ (.tail _ (.tail _ (.tail _ (.tail _ (.tail _ (.tail _ (.tail _ (.tail _ (.tail _ (.tail _ (.tail _ (.tail _ (.tail _ (.tail _ (.tail _ (.tail _ (.tail _ (.tail _ (.tail _ (.tail _ (.tail _ (.head _)))))))))))))))))))))))))))))))))))) ec rfl) rfl),λea oe ho=>(aX aZ ho (T.ex _ (.tail _ (.tail _ (.tail _ (.tail _ (.head _)))))) (T.bs _ (by decide +kernel)) rfl (ie (v:=.ty "ValueError") rfl (T.bs _ (by decide +kernel)) c8 rfl) rfl (T.ik (_,_,_) (.tail _ (.tail _ (.tail _ (.tail _ (.tail _ (.tail _ (.tail _ (.tail _ (.tail _ (.tail _ (.tail _ (.tail _ (.tail _ (.tail _ (.tail _ (.tail _ (.tail _ (.tail _ (.tail _ (.tail _ (.tail _ (.tail _ (.tail _ (.tail _ (.tail _ (.tail _ (.tail _ (.tail _ (.tail _ (.tail _ (.tail _ (.tail _ (.tail _ (.tail _ (.head _)))))))))))))))))))))))))))))))))))))⟩ (gN ⟨(T.sp _ (.head _)),λea oe ho=>(aG (aX aZ ho (T.ex _ (.head _)) (T.bs _ (by decide +kernel)) rfl (aK (v:=.ref cs.NoErrands) rfl T.e_NoErrands.m rfl) rfl (T.ik (_,_,_) (.tail _ (.tail _ (.head _))))) (aG (aX aZ ho (T.ex _ (.head _)) (T.bs _ (by decide +kernel)) rfl (aK (v:=.ref cs.NoRanks) rfl T.e_NoRanks.m rfl) rfl (T.ik (_,_,_) (.tail _ (.tail _ (.tail _ (.tail _ (.head _))))))) (aG (aX aZ ho (T.ex _ (.head _)) (T.bs _ (by decide +kernel)) rfl (aK (v:=.ref cs.NoComings) rfl T.e_NoComings.m rfl) rfl (T.ik (_,_,_) (.head _))) (aG (aX aZ ho (T.ex _ (.head _)) (T.bs _ (by decide +kernel)) rfl (aK (v:=.ref cs.NoErrand) rfl T.e_NoErrand.m rfl) rfl (T.ik (_,_,_) (.tail _ (.head _)))) ec rfl) rfl) rfl) rfl),λea oe ho=>(aG (aX aZ ho (T.ex _ (.head _)) (T.bs _ (by decide +kernel)) rfl (aK (v:=.ref cs.NoNumber) rfl T.e_NoNumber.m rfl) rfl (T.ik (_,_,_) (.tail _ (.tail _ (.tail _ (.head _)))))) (aG (aX aZ ho (T.ex _ (.head _)) (T.bs _ (by decide +kernel)) rfl (aK (v:=.ref cs.NoText) rfl T.e_NoText.m rfl) rfl (T.ik (_,_,_) (.tail _ (.tail _ (.tail _ (.tail _ (.tail _ (.head _)))))))) ec rfl) rfl),λea oe ho=>(aX aZ ho (T.ex _ (.head _)) (T.bs _ (by decide +kernel)) rfl (ie (v:=.ty "ValueError") rfl (T.bs _ (by decide +kernel)) c8 rfl) rfl (T.ik (_,_,_) (.tail _ (.tail _ (.tail _ (.tail _ (.tail _ (.tail _ (.head _)))))))))⟩ (gN ⟨(T.sp _ (.tail _ (.head _))),λea oe ho=>(aG (aX aZ ho (T.ex _ (.tail _ (.head _))) (T.bs _ (by decide +kernel)) rfl (aK (v:=.ref cs.NoErrands) rfl T.e_NoErrands.m rfl) rfl (T.ik (_,_,_) (.tail _ (.tail _ (.tail _ (.tail _ (.tail _ (.tail _ (.tail _ (.tail _ (.tail _ (.head _)))))))))))) (aG (aX aZ ho (T.ex _ (.tail _ (.head _))) (T.bs _ (by decide +kernel)) rfl (aK (v:=.ref cs.NoRanks) rfl T.e_NoRanks.m rfl) rfl (T.ik (_,_,_) (.tail _ (.tail _ (.tail _ (.tail _ (.tail _ (.tail _ (.tail _ (.tail _ (.tail _ (.tail _ (.tail _ (.head _)))))))))))))) (aG (aX aZ ho (T.ex _ (.tail _ (.head _))) (T.bs _ (by decide +kernel)) rfl (aK (v:=.ref cs.NoComings) rfl T.e_NoComings.m rfl) rfl (T.ik (_,_,_) (.tail _ (.tail _ (.tail _ (.tail _ (.tail _ (.tail _ (.tail _ (.head _)))))))))) (aG (aX aZ ho (T.ex _ (.tail _ (.head _))) (T.bs _ (by decide +kernel)) rfl (aK (v:=.ref cs.NoErrand) rfl T.e_NoErrand.m rfl) rfl (T.ik (_,_,_) (.tail _ (.tail _ (.tail _ (.tail _ (.tail _ (.tail _ (.tail _ (.tail _ (.head _))))))))))) ec rfl) rfl) rfl) rfl),λea oe ho=>(aG (aX aZ ho (T.ex _ (.tail _ (.head _))) (T.bs _ (by decide +kernel)) rfl (aK (v:=.ref cs.NoNumber) rfl T.e_NoNumber.m rfl) rfl (T.ik (_,_,_) (.tail _ (.tail _ (.tail _ (.tail _ (.tail _ (.tail _ (.tail _ (.tail _ (.tail _ (.tail _ (.head _))))))))))))) (aG (aX aZ ho (T.ex _ (.tail _ (.head _))) (T.bs _ (by decide +kernel)) rfl (aK (v:=.ref cs.NoText) rfl T.e_NoText.m rfl) rfl (T.ik (_,_,_) (.tail _ (.tail _ (.tail _ (.tail _ (.tail _ (.tail _ (.tail _ (.tail _ (.tail _ (.tail _ (.tail _ (.tail _ (.head _))))))))))))))) ec rfl) rfl),λea oe ho=>(aX aZ ho (T.ex _ (.tail _ (.head _))) (T.bs _ (by decide +kernel)) rfl (ie (v:=.ty "ValueError") rfl (T.bs _ (by decide +kernel)) c8 rfl) rfl (T.ik (_,_,_) (.tail _ (.tail _ (.tail _ (.tail _ (.tail _ (.tail _ (.tail _ (.tail _ (.tail _ (.tail _ (.tail _ (.tail _ (.tail _ (.head _))))))))))))))))⟩ (gN ⟨(T.sp _ (.tail _ (.tail _ (.tail _ (.head _))))),λea oe ho=>(aG (aX aZ ho (T.ex _ (.tail _ (.tail _ (.tail _ (.head _))))) (T.bs _ (by decide +kernel)) rfl (aK (v:=.ref cs.NoErrands) rfl T.e_NoErrands.m rfl) rfl (T.ik (_,_,_) (.tail _ (.tail _ (.tail _ (.tail _ (.tail _ (.tail _ (.tail _ (.tail _ (.tail _ (.tail _ (.tail _ (.tail _ (.tail _ (.tail _ (.tail _ (.tail _ (.tail _ (.tail _ (.tail _ (.tail _ (.tail _ (.tail _ (.tail _ (.head _)))))))))))))))))))))))))) (aG (aX aZ ho (T.ex _ (.tail _ (.tail _ (.tail _ (.head _))))) (T.bs _ (by decide +kernel)) rfl (aK (v:=.ref cs.NoRanks) rfl T.e_NoRanks.m rfl) rfl (T.ik (_,_,_) (.tail _ (.tail _ (.tail _ (.tail _ (.tail _ (.tail _ (.tail _ (.tail _ (.tail _ (.tail _ (.tail _ (.tail _ (.tail _ (.tail _ (.tail _ (.tail _ (.tail _ (.tail _ (.tail _ (.tail _ (.tail _ (.tail _ (.tail _ (.tail _ (.tail _ (.head _)))))))))))))))))))))))))))) (aG (aX aZ ho (T.ex _ (.tail _ (.tail _ (.tail _ (.head _))))) (T.bs _ (by decide +kernel)) rfl (aK (v:=.ref cs.NoComings) rfl T.e_NoComings.m rfl) rfl (T.ik (_,_,_) (.tail _ (.tail _ (.tail _ (.tail _ (.tail _ (.tail _ (.tail _ (.tail _ (.tail _ (.tail _ (.tail _ (.tail _ (.tail _ (.tail _ (.tail _ (.tail _ (.tail _ (.tail _ (.tail _ (.tail _ (.tail _ (.head _)))))))))))))))))))))))) (aG (aX aZ ho (T.ex _ (.tail _ (.tail _ (.tail _ (.head _))))) (T.bs _ (by decide +kernel)) rfl (aK (v:=.ref cs.NoErrand) rfl T.e_NoErrand.m rfl) rfl (T.ik (_,_,_) (.tail _ (.tail _ (.tail _ (.tail _ (.tail _ (.tail _ (.tail _ (.tail _ (.tail _ (.tail _ (.tail _ (.tail _ (.tail _ (.tail _ (.tail _ (.tail _ (.tail _ (.tail _ (.tail _ (.tail _ (.tail _ (.tail _ (.head _))))))))))))))))))))))))) ec rfl) rfl) rfl) rfl),λea oe ho=>(aG (aX aZ ho (T.ex _ (.tail _ (.tail _ (.tail _ (.head _))))) (T.bs _ (by decide +kernel)) rfl (aK (v:=.ref cs.NoNumber) rfl T.e_NoNumber.m rfl) rfl (T.ik (_,_,_) (.tail _ (.tail _ (.tail _ (.tail _ (.tail _ (.tail _ (.tail _ (.tail _ (.tail _ (.tail _ (.tail _ (.tail _ (.tail _ (.tail _ (.tail _ (.tail _ (.tail _ (.tail _ (.tail _ (.tail _ (.tail _ (.tail _ (.tail _ (.tail _ (.head _))))))))))))))))))))))))))) (aG (aX aZ ho (T.ex _ (.tail _ (.tail _ (.tail _ (.head _))))) (T.bs _ (by decide +kernel)) rfl (aK (v:=.ref cs.NoText) rfl T.e_NoText.m rfl) rfl (T.ik (_,_,_) (.tail _ (.tail _ (.tail _ (.tail _ (.tail _ (.tail _ (.tail _ (.tail _ (.tail _ (.tail _ (.tail _ (.tail _ (.tail _ (.tail _ (.tail _ (.tail _ (.tail _ (.tail _ (.tail _ (.tail _ (.tail _ (.tail _ (.tail _ (.tail _ (.tail _ (.tail _ (.head _))))))))))))))))))))))))))))) ec rfl) rfl),λea oe ho=>(aX aZ ho (T.ex _ (.tail _ (.tail _ (.tail _ (.head _))))) (T.bs _ (by decide +kernel)) rfl (ie (v:=.ty "ValueError") rfl (T.bs _ (by decide +kernel)) c8 rfl) rfl (T.ik (_,_,_) (.tail _ (.tail _ (.tail _ (.tail _ (.tail _ (.tail _ (.tail _ (.tail _ (.tail _ (.tail _ (.tail _ (.tail _ (.tail _ (.tail _ (.tail _ (.tail _ (.tail _ (.tail _ (.tail _ (.tail _ (.tail _ (.tail _ (.tail _ (.tail _ (.tail _ (.tail _ (.tail _ (.head _))))))))))))))))))))))))))))))⟩ vS))))) (by intro c hc;simp only[B8,Bq,or_false]at hc;rcases hc with rfl|rfl|rfl|rfl|rfl <;> exact BY rfl) (by infer_instance) (by infer_instance) (by infer_instance) (by infer_instance) (by infer_instance) (by infer_instance) (by infer_instance) (by infer_instance) (by infer_instance) (by infer_instance) (by infer_instance) (by infer_instance) (by infer_instance) (by infer_instance) (by infer_instance) (by infer_instance) (by infer_instance) (by infer_instance) (by infer_instance) (by infer_instance) (by infer_instance) (by infer_instance) (by infer_instance) (by infer_instance) (by infer_instance) (by infer_instance) (by infer_instance) (by infer_instance) (by infer_instance) (by infer_instance) (by infer_instance) (by infer_instance) (by infer_instance) (by infer_instance) (by infer_instance))
  (by infer_instance))))))
end
end RS
namespace L2
open PySem PySem.Spec PyProof.Rows
end L2
set_option maxHeartbeats 4000000
namespace L2
open PySem PySem.Spec PyProof.Rows
theorem sF {P:Addr} {sl:Array (Option Value)} {o:Obj} {vs:Array Value} (h1:PySem.W.nsIn K mainGlobals x=some (some (.ref f))) (h2:K.lookup f=some ⟨oc,od,.func fd,sl⟩) (h3:fd.code=.ref c) (h4:K.lookup c=some o) (h5:o.data=.fields vs) (h6:vs[11]?=some (.ref P)):PySem.W.tabIn K x=some (c,P):=by obtain⟨cl,di,da,so⟩:=o;cases h5;unfold PySem.W.tabIn;rw[h1];simp only;rw[h2];simp only;rw[h3];simp only;rw[h4];simp only;rw[h6]
theorem rk (hl:mS=[x]) {p:Program} {d:DefRec} (hr:(recsOf p).find? (λe=>e.name==x)=some d) (hn:PySem.W.noTabs K=true) (T:Top p loose mean mg mb h) (X:K.In h):jr K h:=by
 refine⟨λP q ⟨x',hx,f,oc,od,fd,sl,c,h1,h2,h3,⟨o,vs,h4,h5,h6⟩,hq⟩=>?_,λP q q' ⟨x1,hx1,_,_,_,_,_,_,_,_,_,_,e1⟩ ⟨x2,hx2,_,_,_,_,_,_,_,_,_,_,e2⟩=>?_⟩
 ·rw[hl]at hx;cases B7.mp hx;have ht:=sF h1 h2 h3 h4 h5 h6;obtain⟨hc,hp⟩:=PySem.W.tab_of T X hr ht;refine⟨hp,?_,?_⟩
  ·cases z:K.lookup P with
   |none=>rfl
   |some o' =>exfalso;have e:=X P o' z;rw[hp]at e;cases e;have h7:=BG.mp hn (P,_) (PySem.W.mem_of_lookupK z);exact absurd (show false=true from h7) Bx
  ·obtain⟨o2,vs2,_,_,_,_,_,_,_,g1,g2,g3,g4,_⟩:=hc;exact⟨c,o2,vs2,g1,g2,g3,g4⟩
 ·rw[hl]at hx1 hx2;rw[e1,e2,B7.mp hx1,B7.mp hx2]
theorem oC (hl:mS=[x]) {p:Program} (hr:((recsOf p).find? (λe=>e.name==x)).isSome=true) (hn:PySem.W.noTabs K=true) (T:Top p loose mean mg mb h) (X:K.In h):jr K h:=by obtain⟨d,hd⟩:=Option.isSome_iff_exists.mp hr;exact rk hl hd hn T X
end L2
set_option hygiene false
local macro_rules | `(tactic| and_intros)=>`(tactic| first|(refine' RS.sV KX G (λ_ _ _ _ _ _ us hl=>by obtain⟨f,rfl⟩:=RS.vE PySem.Value.none hl;rfl) ?za ?zl ?zc ?zk;(case za=>k_is);(case zl=>k_is);(case zc=>k_is);(case zk=>k_is))|(refine' L2.meth_mk (λ_ _ _ _ _ _ us hl=>by obtain⟨f,rfl⟩:=RS.vE PySem.Value.none hl;rfl) ⟨?zm,?zf,?zp⟩ ?zl ?zc ?zq;(case zm=>k_is);(case zf=>k_is);(case zp=>k_is);(case zl=>k_is);(case zc=>k_is);(case zq=>k_is))|(refine' PySem.W.mg_of KX G ?za;(case za=>k_is))|(refine' PySem.W.mg_none_of KX G ?zz;(case zz=>k_is))|(refine' RS.uW KX G ?zz;(case zz=>k_is))|(refine' RS.eU KX G ?za ?ze;(case za=>k_is);(case ze=>k_exc))|(refine'⟨_,RS.eU KX G ?za ?ze⟩;(case za=>k_is);(case ze=>k_exc))|(refine'⟨?zp,?zh,?zo,?zs⟩;(case zp=>k_is);(case zh=>k_is);(case zo=>k_is);(case zs=>k_is))|(refine' L2.init_mk (λ_ _ _ _ _ _ us hl=>by obtain⟨f,rfl⟩:=RS.vE PySem.Value.none hl;rfl) ?za ?zi ?zl ?zc ?zk ?zm ?zx;(case za=>k_is);(case zi=>k_is);(case zl=>k_is);(case zc=>k_is);(case zk=>k_is);(case zm=>k_is);(case zx=>k_is))|exact List.forall_mem_nil _|((first|refine List.forall_mem_cons.2 ⟨?_,?_⟩|refine List.forall_mem_singleton.2 ?_) <;> (try dsimp only) <;> and_intros)|(refine' L2.lj.mk ?z1 ?z2 ?z3 ?z4 ?z5 ?z6 ?z7 ?z8;(case z1=>k_is);(case z2=>k_is);(case z3=>k_is);(case z4=>k_is);(case z5=>k_is);(case z6=>k_is);(case z7=>k_is);(case z8=>k_is))|kit_is|k_is|(delta L2.NoAttr;k_is)|(dsimp only;and_intros))
open PySem PySem.W PyProof.Rows
set_option maxRecDepth 100000 in
set_option maxHeartbeats 0 in
theorem PySem.Challenge.cw_ranksure_k25_refused_holds : PySem.Challenge.rw_ranksure_k25_refused.Holds := by
 refine RS.hdTop ?_
 k_fill
 refine RS.zW (l:=PySem.Challenge.rw_ranksure_k25_refused) (n:=63) (k:=11) (x:="_law_script") (st:=RS.top 131) rfl (by decide) rfl ⟨rfl,by decide,by decide⟩ (λw h Y=>PySem.W.km_in_of Y) (λ_ _ _ _ _ _ us hl=>by obtain⟨f,rfl⟩:=RS.vE PySem.Value.none hl;rfl) ?F (λw h l m mg mb T X=>L2.oC (x:="picked") rfl (by kernel_rfl) (by kernel_rfl) T X)
 case F =>
  intro w mg h KX G;obtain⟨c_NoComings,c_NoErrand,c_NoErrands,c_NoNumber,c_NoRanks,c_NoText,c_RankError,h_NoComings,h_NoErrand,h_NoErrands,h_NoNumber,h_NoRanks,h_NoText,h_RankError,zx,zi,zs⟩:∃c_NoComings c_NoErrand c_NoErrands c_NoNumber c_NoRanks c_NoText c_RankError:Addr,L2.gW (L2.KOf KX) mg "NoComings" c_NoComings/\L2.gW (L2.KOf KX) mg "NoErrand" c_NoErrand/\L2.gW (L2.KOf KX) mg "NoErrands" c_NoErrands/\L2.gW (L2.KOf KX) mg "NoNumber" c_NoNumber/\L2.gW (L2.KOf KX) mg "NoRanks" c_NoRanks/\L2.gW (L2.KOf KX) mg "NoText" c_NoText/\L2.gW (L2.KOf KX) mg "RankError" c_RankError/\(∀C∈[c_NoComings,c_NoErrand,c_NoErrands,c_NoNumber,c_NoRanks],L2.lj (L2.KOf KX) C)/\(∀q∈([(c_NoComings,.ref c_NoComings,true),(c_NoComings,.ref c_NoErrand,false),(c_NoComings,.ref c_NoErrands,false),(c_NoComings,.ref c_NoNumber,false),(c_NoComings,.ref c_NoRanks,false),(c_NoComings,.ref c_NoText,false),(c_NoComings,.type "ValueError",true),(c_NoErrand,.ref c_NoComings,false),(c_NoErrand,.ref c_NoErrand,true),(c_NoErrand,.ref c_NoErrands,false),(c_NoErrand,.ref c_NoNumber,false),(c_NoErrand,.ref c_NoRanks,false),(c_NoErrand,.ref c_NoText,false),(c_NoErrand,.type "ValueError",true),(c_NoErrands,.ref c_NoComings,false),(c_NoErrands,.ref c_NoErrand,false),(c_NoErrands,.ref c_NoErrands,true),(c_NoErrands,.ref c_NoNumber,false),(c_NoErrands,.ref c_NoRanks,false),(c_NoErrands,.ref c_NoText,false),(c_NoErrands,.type "ValueError",true),(c_NoNumber,.ref c_NoComings,false),(c_NoNumber,.ref c_NoErrand,false),(c_NoNumber,.ref c_NoErrands,false),(c_NoNumber,.ref c_NoNumber,true),(c_NoNumber,.ref c_NoRanks,false),(c_NoNumber,.ref c_NoText,false),(c_NoNumber,.type "ValueError",true),(c_NoRanks,.ref c_NoComings,false),(c_NoRanks,.ref c_NoErrand,false),(c_NoRanks,.ref c_NoErrands,false),(c_NoRanks,.ref c_NoNumber,false),(c_NoRanks,.ref c_NoRanks,true),(c_NoRanks,.ref c_NoText,false),(c_NoRanks,.type "ValueError",true)]:List (Addr×Value×Bool)),PySem.W.kitOne (L2.KOf KX) (.ref q.1) q.2.1=some q.2.2)/\(∀C∈[c_NoComings,c_NoErrand,c_NoErrands,c_NoNumber,c_NoRanks],PySem.W.mroIn (L2.KOf KX) C (.ref c_RankError)=some true):=by
   delta L2.KOf
   refine'⟨_,_,_,_,_,_,_,RS.eU KX G ?a_NoComings ?e_NoComings,RS.eU KX G ?a_NoErrand ?e_NoErrand,RS.eU KX G ?a_NoErrands ?e_NoErrands,RS.eU KX G ?a_NoNumber ?e_NoNumber,RS.eU KX G ?a_NoRanks ?e_NoRanks,RS.eU KX G ?a_NoText ?e_NoText,RS.eU KX G ?a_RankError ?e_RankError,?zx,?zi,?zs⟩
   (case a_NoComings=>k_is);(case e_NoComings=>k_exc)
   (case a_NoErrand=>k_is);(case e_NoErrand=>k_exc)
   (case a_NoErrands=>k_is);(case e_NoErrands=>k_exc)
   (case a_NoNumber=>k_is);(case e_NoNumber=>k_exc)
   (case a_NoRanks=>k_is);(case e_NoRanks=>k_exc)
   (case a_NoText=>k_is);(case e_NoText=>k_exc)
   (case a_RankError=>k_is);(case e_RankError=>k_exc)
   (case zx=>and_intros);(case zi=>and_intros);(case zs=>and_intros)
  have T:RS.Tx (L2.KOf KX) mg ⟨c_RankError,c_NoErrands,c_NoRanks,c_NoComings,c_NoErrand,c_NoNumber,0,c_NoText,0,0⟩:=by constructor <;> first|assumption|((try delta L2.KOf);and_intros)
  exact⟨T.f_law,λf fd F base hb hn hB=>RS.law_ok _ _ ⟨T,hB,hb⟩ F⟩
end
