import PyProof.Rows.All
import Wide.All
import OpenK.AllK
import Wide.FinOn
import Lean
import PyProof.EqAt
import PyProof.EqKinds
import PyProof.TupleCall
import PyProof.Draws
import PyProof.ZipIter
import PyProof.DictIter
import PyProof.NeKinds
import KE.KSortTup
import PyProof.Rows.SortShell
import PyProof.TupleIter
import PyProof.MinMaxWalk
import PyProof.ListNew
import KE.KRevIter
import PyProof.AutoListH
import PyProof.DictUpdate
import PyProof.Rows.SetFrom
import PyProof.Rows.SortStr
import PyProof.CollectWalk
import PyProof.CompUse
import PyProof.ExcInit
import PyProof.ExcClass3
import PyProof.InstStore
import PyProof.ExcArgsOwn
import PyProof.InstStoreFacts
import PyProof.InstLoad
import PyProof.ExcAttrAll.ValueError
import PyProof.ExcBaseAll.ValueError
import PyProof.RulesAs
import PyProof.NsDelKeeps
import PyProof.AttrMissHeap
import KE.KDictOf
import PyProof.SetRoads
import PyProof.IsiBase
import PyProof.ReprStr
import PyProof.Rows.FStr
import PyProof.ReprRoads
import PyProof.ReprNest
import PyProof.ReprHeadsTuple
import PyProof.StrLawsRepr
import PySem.Challenge.RW_fitmost_k13_refused_in_order
noncomputable section
section
def zAa:=@PySem.wpAny_bind
def zAb:=@PySem.Heap.get?_push_of_some
def zAc:=@List.getElem?_eq_getElem
def zAd:=@PySem.wpAny_pure
def zAe:=@PySem.Heap.lt_size
def zAf:=@List.mem_cons_of_mem
def zAg:=@List.getElem?_cons_succ
def zAh:=@List.mem_of_getElem?
def zAi:=@List.getElem?_cons_zero
def zAj:=@List.getElem?_append_left
def zAk:=@List.getElem?_map
def zAl:=@Nat.ne_of_lt
def zAm:=@List.mem_cons_self
def zAn:=@List.length_map
def zAo:=@List.size_toArray
def zAp:=@PySem.Heap.get?_push_size
def zAq:=@Nat.le_refl
def zAr:=@List.map_cons
def zAs:=@Bool.false_ne_true
def zAt:=@PySem.Heap.get?_update_other
def zAu:=@Nat.lt_of_lt_of_le
def zAv:=@List.length_cons
def zAw:=@List.getElem?_append_right
def zAx:=@List.map_map
def zAy:=@List.length_append
def zAz:=@Bool.false_eq_true
def zAA:=@PySem.wpAny_loadPart_at
def zAB:=@Nat.le_trans
def zAC:=@List.append_assoc
def zAD:=@PySem.Heap.get?_update_self
def zAE:=@Bool.and_eq_true
def zAF:=@PySem.Heap.size_push
def zAG:=@List.mem_map_of_mem
def zAH:=@Array.length_toList
def zAI:=@PySem.wpAny_callSpecial?_slot
def zAJ:=@Nat.lt_irrefl
def zAK:=@List.mem_append_right
def zAL:=@List.set_cons_succ
def zAM:=@PySem.wpAny_field
def zAN:=@PySem.wpAny_holding
def zAO:=@List.append_nil
def zAP:=@Int.emod_lt_of_pos
def zAQ:=@PySem.wpAny_setField
def zAR:=@List.getElem?_set_self
def zAS:=@List.getElem?_of_mem
def zAT:=@List.lookup_cons
def zAU:=@List.set_cons_zero
def zAV:=@PySem.wpAny_call_entry
def zAW:=@List.length_take
def zAX:=@Nat.lt_succ_of_lt
def zAY:=@List.getElem?_set_ne
def zAZ:=@Nat.le_succ
def zBa:=@List.length_set
def zBb:=@Int.emod_nonneg
def zBc:=@Bool.eq_iff_iff
def zBd:=@Int.toNat_natCast
def zBe:=@List.mem_append_left
def zBf:=@Nat.zero_le
def zBg:=@List.getElem?_take_of_lt
def zBh:=@PySem.wpAny_isInstance
def zBi:=@List.getElem_mem
def zBj:=@List.take_of_length_le
def zBk:=@PySem.wpAny_setState_of
def zBl:=@PySem.wpAny_newObj_type
def zBm:=@PySem.wpAny_isSubtype_exc
def zBn:=@Array.getElem?_eq_getElem
def zBo:=@List.map_append
def zBp:=@List.not_mem_nil
def zBq:=@List.foldl_cons
def zBr:=@Nat.lt_succ_self
def zBs:=@PySem.wpAny_attempt
def zBt:=@PySem.wpAny_Call_Name_kw
def zBu:=@Nat.ne_of_gt
def zBv:=@List.mem_cons
def zBw:=@List.mem_of_mem_take
def zBx:=@List.getElem?_mapIdx
def zBy:=@List.getElem?_inj
def zBz:=@Nat.lt_trans
def zBA:=@Nat.le_of_lt
def zBB:=@PySem.wpAny_standAt
def zBC:=@List.length_drop
def zBD:=@List.cons_append
def zBE:=@PySem.wpAny_rule
def zBF:=@Nat.lt_of_le_of_lt
def zBG:=@List.contains_cons
def zBH:=@PySem.wpAny_passesOwn
def zBI:=@List.find?_cons
def zBJ:=@Array.getElem?_toList
def zBK:=@PySem.wpAny_mono
def zBL:=@List.take_add_one
def zBM:=@PySem.Heap.get?_push_at
def zBN:=@PySem.Heap.get?_none_of_le
def zBO:=@PySem.wpAny_seqItems
def zBP:=@List.nodup_nil
def zBQ:=@List.drop_eq_getElem_cons
def zBR:=@List.take_length
def zBS:=@List.getElem?_range
def zBT:=@List.all_map
def zBU:=@PySem.wpAny_execs_nil
def zBV:=@Nat.not_lt_zero
def zBW:=@List.getElem?_replicate
def zBX:=@List.filter_cons_of_pos
def zBY:=@List.all_cons
def zBZ:=@Array.getElem?_eq_none
def zCa:=@Nat.le_of_succ_le
def zCb:=@List.flatMap_cons
def zCc:=@Nat.sub_self
def zCd:=@List.set_append_right
def zCe:=@List.map_nil
def zCf:=@List.length_replicate
def zCg:=@List.getElem?_eq_none
def zCh:=@PySem.wpAny_askSetting
def zCi:=@List.mem_of_mem_drop
def zCj:=@PySem.wpAny_call
def zCk:=@List.nil_append
def zCl:=@List.length_nil
def zCm:=@List.getElem_of_mem
def zCn:=@List.getD_eq_getElem?_getD
abbrev zF:=PySem.W.Frag
abbrev zV:=PySem.Value->PySem.Shared->Prop
namespace XH
end XH
namespace L2
end L2
namespace HT
end HT
namespace Att
end Att
namespace MX
end MX
namespace Z
end Z
namespace XE
end XE
namespace Y
end Y
namespace YS
end YS
namespace Wb
end Wb
namespace YD
end YD
namespace K17
end K17
namespace K13
end K13
namespace YH
end YH
namespace K14
end K14
set_option Elab.async false
set_option linter.all false
set_option maxRecDepth 100000
set_option maxHeartbeats 4000000
set_option genSizeOfSpec false
namespace L2
open PySem PySem.Spec PyProof.Rows
def inClass (s:Stmt) (j:Nat):Stmt:=match s with
 |.ClassDef _ _ _ body _ _ _ _ _ _ _=>body.getD j (.Pass ⟨0,0,0,0⟩)
 |_=>.Pass ⟨0,0,0,0⟩
def pX (s:Stmt):Arguments:=match s with
 |.FunctionDef _ a _ _ _ _ _ _ _ _=>a
 |_=>{ posonlyargs:=[],args:=[],vararg:=none,kwonlyargs:=[],kw_defaults:=[],kwarg:=none,defaults:=[] }
def iK (s:Stmt):List Stmt:=match s with
 |.FunctionDef _ _ b _ _ _ _ _ _ _=>b
 |_=>[]
def aK (s:Stmt):Scope:=match s with
 |.FunctionDef _ _ _ _ _ _ sc _ _ _=>sc
 |_=>{ kind:=.function,names:=[],isGenerator:=false,isCoroutine:=false }
abbrev veM:List Value:=[.type "ValueError", .type "Exception", .type "BaseException", .type "object"]
end L2
namespace L2
open PySem PySem.Spec PyProof.Rows
open PySem.W (nsOkIn nsIn)
def sE (K:zF) (ns:List Str) (bmB:List Value):List Value->Bool
 |[]=>bmB==[]
 |v::r=>(v::r)==bmB||match v with
  |.ref A=>(match K.lookup A with
   |some ⟨_,_,.cls cd,_⟩=>nsOkIn K cd.ns&&ns.all (λn=>nsIn K cd.ns n==some none)&&sE K ns bmB r
   |_=>false)
  |_=>false
def mF (K:zF) (C:Addr) (ns:List Str) (ini:Option Addr):Bool:=PySem.W.keepIn K (.ref C)&&match K.lookup C with
 |some ⟨.type "type", _,.cls cd,sl⟩=>(match cd.mro,sl.toList with
  |.ref C'::bm,[_,_,_,_,some (.builtin n),_]=>C'==C&&n == "ValueError.__new__" && !cd.hasDel&&cd.hasDict&&sE K ("__init__" :: ns) veM bm&&nsOkIn K cd.ns&&ns.all (λm=>nsIn K cd.ns m==some none)&&nsIn K cd.ns "__init__" == some (ini.map Value.ref)
  |_,_=>false)
 |_=>false
def Mv (K:zF) (C D:Addr):Bool:=match K.lookup C with
 |some ⟨_,_,.cls cd,_⟩=>cd.mro.contains (.ref D)
 |_=>false
end L2
namespace YH
open PySem PySem.W L2
def kOf (h:Heap):Frag:=(List.range h.objs.size).filterMap λa=>(h.get? a).map λo=>(a,o)
theorem lookup_mem {K:Frag}{a:Addr}{o:Obj}(e:K.lookup a=some o):(a,o)∈K:=by
 induction K with
 |nil=>cases e
 |cons p K ih=>
  obtain ⟨b,u⟩:=p;rw [zAT] at e;by_cases c:(a==b)=true
  ·rw [c] at e;have e1:u=o:=Option.some.inj e;have e2:a=b:=beq_iff_eq.mp c;rw [e1,e2];exact zAm
  ·rw [Bool.not_eq_true] at c;rw [c] at e;exact zAf _ (ih e)
theorem Tr (h:Heap):(kOf h).In h:=λa o e=>by
 obtain ⟨b,_,q⟩:=List.mem_filterMap.mp (lookup_mem e);obtain ⟨u,hu,q2⟩:=Option.map_eq_some_iff.mp q;cases q2
 exact hu
def hook {α:Type}(obs:Frag->α) (val:α):Hook:=⟨α,λs=>obs (kOf s.heap),λ_=>val,λ_ h=>∃K:Frag,K.In h/\obs K=val,λ_ s e=>⟨kOf s.heap,Tr _,e⟩,λ_ _ _ ⟨K,x,e⟩ k=>⟨K,x.keeps k,e⟩⟩
def fnN (fd:FuncData):FuncData:={ fd with kwdefaults:=.none,doc:=.none,pyModule:=.none,annotations:=none,code:=.none,closureTuple:=.none }
def iH (K:Frag) (f:Addr):FuncData:=match K.lookup f with
 |some ⟨_,_,.func fd,_⟩=>fd
 |_=>default
def fnAt (K:Frag) (f:Addr):Option FuncData:=match K.lookup f with
 |some ⟨_,_,.func fd,_⟩=>some (fnN fd)
 |_=>none
def rE (x q:Str) (st:Stmt):Option FuncData:=some (fnOf x q (pX st) (iK st) (aK st) .none .none .none .none none .none .none)
def rF (K:Frag) (f:Addr) (q:Str):Bool:=codeIn K (iH K f).code q&&keepIn K (.ref f)
def gA (K:Frag) (x:Str):Addr:=match nsIn K mainGlobals x with
 |some (some (.ref a))=>a
 |_=>0
def mA (K:Frag) (C:Addr) (n:Str):Addr:=match findIn K (.ref C) n with
 |some (some (.ref a))=>a
 |_=>0
def lQ (K:Frag) (x:Str):Bool:=match nsIn K mainGlobals x with
 |some (some (.ref _))=>true
 |_=>false
def Bu (K:Frag) (x:Str):Bool:=match nsIn K mainGlobals x with
 |some none=>true
 |_=>false
def V4 (K:Frag) (x z:Str):Bool:=match nsIn K mainGlobals x with
 |some (some (.str y _))=>decide (y=z)
 |_=>false
def T4 (K:Frag) (x:Str) (z:Int):Bool:=match nsIn K mainGlobals x with
 |some (some (.int y _))=>decide (y=z)
 |_=>false
def K1:List Value->List Str->Bool
 |[],[]=>true
 |.str y _::l,z::zs=>decide (y=z)&&K1 l zs
 |_,_=>false
def Wc (K:Frag) (a:Addr) (zs:List Str):Bool:=match K.lookup a with
 |some ⟨.type "tuple", _,.seq its _,_⟩=>K1 its.toList zs
 |_=>false
def Wk (K:Frag) (C:Addr):Bool:=plainGet K C Str.empty&&hasDictIn K C&&plainOver K C&&(match findIn K (.ref C) "__setattr__" with
 |some (some (.builtin b))=>b == "object.__setattr__"
 |_=>false)
def U3 (K:Frag) (C:Addr) (n:Str):Bool:=(match findIn K (.ref C) n with
 |some (some (.ref _))=>true
 |_=>false)&&isFn K (.ref (mA K C n))&&keepIn K (.ref (mA K C n))
def mkB (K:Frag) (C:Addr):Bool:=makesIn K C&&(match findIn K (.ref C) "__init__" with
 |some (some (.ref _))=>true
 |_=>false)&&isFn K (.ref (mA K C "__init__"))&&keepIn K (.ref C)
def naB (K:Frag) (C:Addr) (n:Str):Bool:=match findIn K (.ref C) n with
 |some none=>true
 |_=>false
def kxB (K:Frag) (ks:List Addr) (ns:List Str):Bool:=ks.all λa=>mF K a ns none||mF K a ns (some (mA K a "__init__"))
def Bq (K:Frag) (ks:List Addr) (c:Value) (isD:Addr->Bool):Bool:=ks.all λa=>kitOne K (.ref a) c==some (isD a)
def ctB (K:Frag) (rs:List Addr) (D:Addr) (ns:List Str):Bool:=kxB K rs ns&&rs.all λa=>Mv K a D
def rT (tb:String->Option Builtin) (p:Program) (w:World) (n₀:Nat) (ann:Option Value):Nat->SharedT->Thread->Option SharedT
 |0,_,_=>none
 |n+1,s,t=>match through t with
  |true=>some s
  |false=>match stepOk n₀ ann t with
   |false=>none
   |true=>match stepT (denote tb) p w s t with
    |some (s',t')=>rT tb p w n₀ ann n s' t'
    |none=>none
theorem vH {tb:String->Option Builtin}{p:Program}{w:World}{n₀:Nat}{ann:Option Value}:∀{n:Nat}{s s':SharedT}{t:Thread},rT tb p w n₀ ann n s t=some s'->topRun tb p w n₀ ann n s.abs t=some s'.abs
 |0,_,_,_,h=>by cases h
 |n+1,s,s',t,h=>by
  unfold rT at h;unfold topRun;cases he:through t with
  |true=>rw [he] at h;cases h;rfl
  |false=>
   rw [he] at h;cases hk:stepOk n₀ ann t with
   |false=>rw [hk] at h;cases h
   |true=>
    rw [hk] at h;cases hs:stepT (denote tb) p w s t with
    |none=>rw [hs] at h;cases h
    |some r=>obtain ⟨s₂,t₂⟩:=r;rw [hs] at h;rw [stepT_spec hs];exact vH h
def Kl (P:Params):BT:=((((((((((BT.nil.ins 0 (boot_o_0 P)).ins 1 (boot_o_1 P)).ins 2 (boot_o_2 P)).ins 3 (boot_o_3 P)).ins 4 (boot_o_4 P)).ins 5 (boot_o_5 P)).ins 6 (boot_o_6 P)).ins 7 (boot_o_7 P)).ins 8 (boot_o_8 P)).ins 9 (boot_o_9 P)).ins 10 (boot_o_10 P)
theorem boot_abs (P:Params):absHeap (Kl P) 11 {}=boot_heap P:=by kernel_rfl
theorem Gs (P:Params):((boot_heap P).isNs mainGlobals,(boot_heap P).objs.size,(boot_heap P).nsMap mainGlobals "__annotations__")=(true,11,some (Value.ref 6)):=by kernel_rfl
theorem Oj {p q:Program}{loose:List Str}{Xt:Shared->Bool}{α:Type}{Yf:Shared->α}{Ya:World->α}{N:Nat}(e:opening p=plainProg p.main.scope.names) (hN:Nat.ble 600 N=true) (f:∀s,fenceModules? p s=some s)
  (h:∀(w:World) (os:OsState),(rT treeTable p w 11 (some (Value.ref 6)) N ⟨Kl w.params,11,{},Array.mk [],boot_drawn,boot_toks,os⟩ (topStub p)).map (λs=>((staticsOk (importedModules p.main.body) (boot_heap w.params) s.abs.heap&&namesBound p s.abs.heap&&gensDone s.abs&&laidKept (boot_heap w.params) s.abs.heap),openSeen q loose (importedModules p.main.body) Xt true s.abs,Yf s.abs))=some (true,openGood q loose,Ya w)):LeftO p q loose Xt Yf Ya N:=λw=>by
 obtain ⟨⟨h1,g1,d1,k1,os⟩,hs,hv⟩:=Option.map_eq_some_iff.mp (boot_open e hN f w);simp only [Prod.mk.injEq] at hv;obtain ⟨rfl,rfl,rfl,rfl⟩:=hv;obtain ⟨s',hr,hq⟩:=Option.map_eq_some_iff.mp (h w os);simp only [Prod.mk.injEq] at hq;obtain ⟨q1,q2,q3⟩:=hq;have bl:=Gs w.params;simp only [Prod.mk.injEq] at bl;obtain ⟨b1,b2,b3⟩:=bl;have run:=vH hr;have ab:(SharedT.abs ⟨Kl w.params,11,{},Array.mk [],boot_drawn,boot_toks,os⟩)=⟨boot_heap w.params,Array.mk [],boot_drawn,boot_toks,os⟩:=by
  unfold SharedT.abs;rw [boot_abs]
 rw [ab] at run;unfold openEnds;rw [hs];show (topFrom treeTable p w N ⟨boot_heap w.params,Array.mk [],boot_drawn,boot_toks,os⟩).map _=_;unfold topFrom;simp only [b1,b2,b3,run,Option.bind_some,q1];show some (openSeen q loose (importedModules p.main.body) Xt true s'.abs,Yf s'.abs)=some _;rw [q2,q3]
def QC:Stmt->Bool
 |.Assign [.Name x _] _ _=>x==("__name__" : Str)
 |_=>false
def viewOf (p:Program):Program:={ p with main:={ p.main with body:=p.main.body.filter λs=>!QC s } }
end YH
namespace K13
open PySem L2 Y
open Wb
def top (i:Nat):Stmt:=PySem.Challenge.pw_fitmost_k13_refused_in_order.main.body.getD i (.Pass ⟨0,0,0,0⟩)
abbrev nx:List Str:=["ring", "one", "other", "function", "body", "line", "__setattr__", "__getattribute__", "__getattr__", "__class__"]
abbrev s0:Stmt:=top 19
abbrev s1:Stmt:=top 20
abbrev s2:Stmt:=top 21
abbrev s3:Stmt:=top 22
abbrev s4:Stmt:=top 24
abbrev s5:Stmt:=top 25
abbrev s6:Stmt:=top 28
abbrev s7:Stmt:=top 29
abbrev s8:Stmt:=top 30
abbrev s9:Stmt:=top 31
abbrev s10:Stmt:=top 32
abbrev s11:Stmt:=top 33
abbrev s12:Stmt:=top 34
abbrev s13:Stmt:=top 35
abbrev s14:Stmt:=top 36
abbrev s15:Stmt:=top 37
abbrev s16:Stmt:=top 38
abbrev s17:Stmt:=top 39
abbrev s18:Stmt:=top 40
abbrev s19:Stmt:=inClass (top 26) 0
abbrev s20:Stmt:=inClass (top 6) 0
abbrev s21:Stmt:=inClass (top 9) 0
abbrev s22:Stmt:=inClass (top 12) 0
abbrev s23:Stmt:=inClass (top 14) 0
open YH PySem.W
def fl (K:Frag):List (Option FuncData):=[fnAt K (gA K "is_name"),fnAt K (gA K "refuse_no_names"),fnAt K (gA K "refuse_taken"),fnAt K (gA K "refuse_no_kinds"),fnAt K (gA K "ring_among"),fnAt K (gA K "all_above"),fnAt K (gA K "_law_pick"),fnAt K (gA K "_law_word"),fnAt K (gA K "_law_number"),fnAt K (gA K "_law_names"),fnAt K (gA K "_law_overs"),fnAt K (gA K "_law_tuples"),fnAt K (gA K "_law_spoilt"),fnAt K (gA K "_law_is_name"),fnAt K (gA K "_law_left"),fnAt K (gA K "_law_due"),fnAt K (gA K "_law_is_ring"),fnAt K (gA K "_law_word_of"),fnAt K (gA K "law"),fnAt K (mA K (gA K "Web") "__init__"),fnAt K (mA K (gA K "Ring") "__init__"),fnAt K (mA K (gA K "Alike") "__init__"),fnAt K (mA K (gA K "NoTerm") "__init__"),fnAt K (mA K (gA K "NoLine") "__init__")]
def fv:List (Option FuncData):=[rE "is_name" "is_name" s0,rE "refuse_no_names" "refuse_no_names" s1,rE "refuse_taken" "refuse_taken" s2,rE "refuse_no_kinds" "refuse_no_kinds" s3,rE "ring_among" "ring_among" s4,rE "all_above" "all_above" s5,rE "_law_pick" "_law_pick" s6,rE "_law_word" "_law_word" s7,rE "_law_number" "_law_number" s8,rE "_law_names" "_law_names" s9,rE "_law_overs" "_law_overs" s10,rE "_law_tuples" "_law_tuples" s11,rE "_law_spoilt" "_law_spoilt" s12,rE "_law_is_name" "_law_is_name" s13,rE "_law_left" "_law_left" s14,rE "_law_due" "_law_due" s15,rE "_law_is_ring" "_law_is_ring" s16,rE "_law_word_of" "_law_word_of" s17,rE "law" "law" s18,rE "__init__" "Web.__init__" s19,rE "__init__" "Ring.__init__" s20,rE "__init__" "Alike.__init__" s21,rE "__init__" "NoTerm.__init__" s22,rE "__init__" "NoLine.__init__" s23]
def bl (K:Frag):List Bool:=[lQ K "Web", lQ K "NoName", lQ K "Taken", lQ K "NoKind", lQ K "NoText", lQ K "NoPlaces", lQ K "NoBody", lQ K "TooMany", lQ K "Held", lQ K "Ring", lQ K "Alike", lQ K "NoTerm", lQ K "NoLine", lQ K "FitError", lQ K "is_name", lQ K "refuse_no_names", lQ K "refuse_taken", lQ K "refuse_no_kinds", lQ K "ring_among", lQ K "all_above", lQ K "_law_pick", lQ K "_law_word", lQ K "_law_number", lQ K "_law_names", lQ K "_law_overs", lQ K "_law_tuples", lQ K "_law_spoilt", lQ K "_law_is_name", lQ K "_law_left", lQ K "_law_due", lQ K "_law_is_ring", lQ K "_law_word_of", lQ K "law", U3 K (gA K "Web") "__init__", V4 K "LETTERS" "abcdefghijklmnopqrstuvwxyz", T4 K "LONGEST" 8,lQ K "NO_NAMES", Wk K (gA K "Web"),mkB K (gA K "Web"),mF K (gA K "Ring") nx (some (mA K (gA K "Ring") "__init__")),isFn K (.ref (mA K (gA K "Ring") "__init__")),mF K (gA K "Alike") nx (some (mA K (gA K "Alike") "__init__")),isFn K (.ref (mA K (gA K "Alike") "__init__")),mF K (gA K "NoTerm") nx (some (mA K (gA K "NoTerm") "__init__")),isFn K (.ref (mA K (gA K "NoTerm") "__init__")),mF K (gA K "NoLine") nx (some (mA K (gA K "NoLine") "__init__")),isFn K (.ref (mA K (gA K "NoLine") "__init__")),mF K (gA K "NoName") nx none,mF K (gA K "Taken") nx none,mF K (gA K "NoKind") nx none,mF K (gA K "NoText") nx none,mF K (gA K "NoPlaces") nx none,mF K (gA K "NoBody") nx none,mF K (gA K "TooMany") nx none,mF K (gA K "Held") nx none,mF K (gA K "FitError") nx none,kxB K [gA K "NoName", gA K "Taken", gA K "NoKind", gA K "NoText", gA K "NoPlaces", gA K "NoBody", gA K "TooMany", gA K "Held", gA K "Ring", gA K "Alike", gA K "NoTerm", gA K "NoLine"] nx,Bq K [gA K "NoName", gA K "Taken", gA K "NoKind", gA K "NoText", gA K "NoPlaces", gA K "NoBody", gA K "TooMany", gA K "Held", gA K "Ring", gA K "Alike", gA K "NoTerm", gA K "NoLine"] (.ref (gA K "NoName")) (λa=>decide (a=(gA K "NoName"))),Bq K [gA K "NoName", gA K "Taken", gA K "NoKind", gA K "NoText", gA K "NoPlaces", gA K "NoBody", gA K "TooMany", gA K "Held", gA K "Ring", gA K "Alike", gA K "NoTerm", gA K "NoLine"] (.ref (gA K "Taken")) (λa=>decide (a=(gA K "Taken"))),Bq K [gA K "NoName", gA K "Taken", gA K "NoKind", gA K "NoText", gA K "NoPlaces", gA K "NoBody", gA K "TooMany", gA K "Held", gA K "Ring", gA K "Alike", gA K "NoTerm", gA K "NoLine"] (.ref (gA K "NoKind")) (λa=>decide (a=(gA K "NoKind"))),Bq K [gA K "NoName", gA K "Taken", gA K "NoKind", gA K "NoText", gA K "NoPlaces", gA K "NoBody", gA K "TooMany", gA K "Held", gA K "Ring", gA K "Alike", gA K "NoTerm", gA K "NoLine"] (.ref (gA K "NoText")) (λa=>decide (a=(gA K "NoText"))),Bq K [gA K "NoName", gA K "Taken", gA K "NoKind", gA K "NoText", gA K "NoPlaces", gA K "NoBody", gA K "TooMany", gA K "Held", gA K "Ring", gA K "Alike", gA K "NoTerm", gA K "NoLine"] (.ref (gA K "NoPlaces")) (λa=>decide (a=(gA K "NoPlaces"))),Bq K [gA K "NoName", gA K "Taken", gA K "NoKind", gA K "NoText", gA K "NoPlaces", gA K "NoBody", gA K "TooMany", gA K "Held", gA K "Ring", gA K "Alike", gA K "NoTerm", gA K "NoLine"] (.ref (gA K "NoBody")) (λa=>decide (a=(gA K "NoBody"))),Bq K [gA K "NoName", gA K "Taken", gA K "NoKind", gA K "NoText", gA K "NoPlaces", gA K "NoBody", gA K "TooMany", gA K "Held", gA K "Ring", gA K "Alike", gA K "NoTerm", gA K "NoLine"] (.ref (gA K "TooMany")) (λa=>decide (a=(gA K "TooMany"))),Bq K [gA K "NoName", gA K "Taken", gA K "NoKind", gA K "NoText", gA K "NoPlaces", gA K "NoBody", gA K "TooMany", gA K "Held", gA K "Ring", gA K "Alike", gA K "NoTerm", gA K "NoLine"] (.ref (gA K "Held")) (λa=>decide (a=(gA K "Held"))),Bq K [gA K "NoName", gA K "Taken", gA K "NoKind", gA K "NoText", gA K "NoPlaces", gA K "NoBody", gA K "TooMany", gA K "Held", gA K "Ring", gA K "Alike", gA K "NoTerm", gA K "NoLine"] (.ref (gA K "Ring")) (λa=>decide (a=(gA K "Ring"))),Bq K [gA K "NoName", gA K "Taken", gA K "NoKind", gA K "NoText", gA K "NoPlaces", gA K "NoBody", gA K "TooMany", gA K "Held", gA K "Ring", gA K "Alike", gA K "NoTerm", gA K "NoLine"] (.ref (gA K "Alike")) (λa=>decide (a=(gA K "Alike"))),Bq K [gA K "NoName", gA K "Taken", gA K "NoKind", gA K "NoText", gA K "NoPlaces", gA K "NoBody", gA K "TooMany", gA K "Held", gA K "Ring", gA K "Alike", gA K "NoTerm", gA K "NoLine"] (.ref (gA K "NoTerm")) (λa=>decide (a=(gA K "NoTerm"))),Bq K [gA K "NoName", gA K "Taken", gA K "NoKind", gA K "NoText", gA K "NoPlaces", gA K "NoBody", gA K "TooMany", gA K "Held", gA K "Ring", gA K "Alike", gA K "NoTerm", gA K "NoLine"] (.ref (gA K "NoLine")) (λa=>decide (a=(gA K "NoLine"))),Bq K [gA K "NoName", gA K "Taken", gA K "NoKind", gA K "NoText", gA K "NoPlaces", gA K "NoBody", gA K "TooMany", gA K "Held", gA K "Ring", gA K "Alike", gA K "NoTerm", gA K "NoLine"] (.ref (gA K "FitError")) (λ_=>true),Bq K [gA K "NoName", gA K "Taken", gA K "NoKind", gA K "NoText", gA K "NoPlaces", gA K "NoBody", gA K "TooMany", gA K "Held", gA K "Ring", gA K "Alike", gA K "NoTerm", gA K "NoLine"] (.type "ValueError") (λ_=>true),ctB K [gA K "NoName", gA K "Taken", gA K "NoKind", gA K "Ring"] (gA K "FitError") nx,decide (List.Nodup [gA K "NoName", gA K "Taken", gA K "NoKind", gA K "NoText", gA K "NoPlaces", gA K "NoBody", gA K "TooMany", gA K "Held", gA K "Ring", gA K "Alike", gA K "NoTerm", gA K "NoLine"]),naB K (gA K "Web") "straight", naB K (gA K "Web") "above", rF K (gA K "is_name") "is_name", rF K (gA K "refuse_no_names") "refuse_no_names", rF K (gA K "refuse_taken") "refuse_taken", rF K (gA K "refuse_no_kinds") "refuse_no_kinds", rF K (gA K "ring_among") "ring_among", rF K (gA K "all_above") "all_above", rF K (gA K "_law_pick") "_law_pick", rF K (gA K "_law_word") "_law_word", rF K (gA K "_law_number") "_law_number", rF K (gA K "_law_names") "_law_names", rF K (gA K "_law_overs") "_law_overs", rF K (gA K "_law_tuples") "_law_tuples", rF K (gA K "_law_spoilt") "_law_spoilt", rF K (gA K "_law_is_name") "_law_is_name", rF K (gA K "_law_left") "_law_left", rF K (gA K "_law_due") "_law_due", rF K (gA K "_law_is_ring") "_law_is_ring", rF K (gA K "_law_word_of") "_law_word_of", rF K (gA K "law") "law", rF K (mA K (gA K "Web") "__init__") "Web.__init__", rF K (mA K (gA K "Ring") "__init__") "Ring.__init__", rF K (mA K (gA K "Alike") "__init__") "Alike.__init__", rF K (mA K (gA K "NoTerm") "__init__") "NoTerm.__init__", rF K (mA K (gA K "NoLine") "__init__") "NoLine.__init__", Bu K "ValueError", Bu K "abs", Bu K "all", Bu K "dict", Bu K "enumerate", Bu K "isinstance", Bu K "len", Bu K "list", Bu K "range", Bu K "set", Bu K "sorted", Bu K "str", Bu K "zip", Wc K (gA K "NO_NAMES") ["any", "none", "blank", "new", "on"]]
def obs (K:Frag):List (Option FuncData)×Bool:=(fl K,(bl K).all id)
def Q:Program:=viewOf PySem.Challenge.pw_fitmost_k13_refused_in_order
def Xt (s:Shared):Bool:=xlAt Q [] s&&recOk (RowW.records PySem.Challenge.rw_fitmost_k13_refused_in_order.row.toRowW) s
theorem op:opening PySem.Challenge.rw_fitmost_k13_refused_in_order.row.prog=plainProg PySem.Challenge.rw_fitmost_k13_refused_in_order.row.prog.main.scope.names:=by kernel_rfl
theorem left : LeftO PySem.Challenge.rw_fitmost_k13_refused_in_order.row.prog Q [] Xt (Hook.obs (hook obs (fv, true))) (Hook.val (hook obs (fv, true))) 100000 := by
 refine Oj op rfl (λ_ => rfl) ?_;intro w os;kernel_rfl
end K13
open PySem PySem.W PyProof.Rows
end
set_option Elab.async false
set_option linter.all false
set_option maxRecDepth 100000
set_option maxHeartbeats 4000000
namespace XH
open PySem
variable {fp:List Addr}{s:Shared}{prog:Program}{w:World}{E:zV}{α:Type}{e it l:Addr}{b a:Value}{i k1 k2:Nat}{t:Tok}{xs ys:Array Value}
def cY (A:Around) (fp:List Addr) (hp:Heap):Prop:=A.handled=none∨∃h oh vs,A.handled=some (.ref h)/\hp.get? h=some oh/\oh.data=.fields vs/\vs[2]?=some .none/\h∉fp
section
variable {A:Around}{fp':List Addr}{s s':Heap}
theorem cY.in1 (h:cY A fp s):cY A.in1 fp s:=h
theorem cY.keep (h:cY A fp s) (k:∀b o,b∉fp->s.get? b=some o->s'.get? b=some o):cY A fp s':=by
 rcases h with h | ⟨a,oh,vs,h1,h2,h3,h4,h5⟩
 ·exact .inl h
 ·exact .inr ⟨a,oh,vs,h1,k a oh h5 h2,h3,h4,h5⟩
theorem cY.sub (h:cY A fp s) (k:∀b,b∈fp'->b∈fp):cY A fp' s:=by
 rcases h with h | ⟨a,oh,vs,h1,h2,h3,h4,h5⟩
 ·exact .inl h
 ·exact .inr ⟨a,oh,vs,h1,h2,h3,h4,λz=>h5 (k a z)⟩
end
theorem uW:entryFor table "proto.unchain" = some Builtin.«proto.unchain»:=entryFor_of_tree (by kernel_rfl)
section
variable {A:Around}
theorem unchain {e h:Addr}{oh:Obj}{vs:Array Value}{Q:zV}(hh:s.heap.get? h=some oh) (hd:oh.data=.fields vs) (h2:vs[2]?=some .none) (hQ:Q .none s) :
  wpAny (model prog w) A (runValue (.builtin "proto.unchain" ⟨[.ref e,.ref h,.ref h,.bool false],[]⟩)) Q E s:=by
 refine wpAny_runValue (codeAny_builtin uW ?_);unfold Builtin.«proto.unchain»;refine zAa (zAM hh hd h2 ?_);exact zAd hQ
theorem vo {oe:Obj}{es:Array Value}{Q:α->Shared->Prop}(hd:cY A fp s.heap) (he:s.heap.get? e=some oe) (hde:oe.data=.fields es) (h2:2 < es.size)
  (hne:∀h,A.handled=some (.ref h)->h≠e) (hE:E (.ref e) s) (hE':∀h,E (.ref e) { s with heap:=s.heap.update e (Obj.mapFields (·.setIfInBounds 2 (.ref h))) }) :
  wpAny (model prog w) A (raiseNew (.ref e):Sem α) Q E s:=by
 unfold raiseNew;refine zAa (wpAny_handled ?_);rcases hd with hh | ⟨h,oh,vs,h1,hh,hdh,hc,_⟩
 ·rw [hh];exact zAa (zAd (wpAny_throw hE))
 ·rw [h1];have ne:(Value.ref h != Value.ref e)=true:=by
   have:=hne h h1;simpa using this
  show wpAny _ _ (if (Value.ref h != Value.ref e)=true then _ else _) _ _ _;rw [if_pos ne];refine zAa (zAN (unchain hh hdh hc ?_));show wpAny _ _ (setField (.ref e) 2 (.ref h) >>= _) _ _ _;exact zAa (zAQ (a:=e) he hde h2 (wpAny_throw (hE' h)))
theorem oH {Q:α->Shared->Prop}(hd:cY A fp s.heap) (hE:∀h' e,(∀b o,s.heap.get? b=some o->h'.get? b=some o)->(∃o,h'.get? e=some o/\o.cls=.type "StopIteration")->E (.ref e) { s with heap:=h' }) :
  wpAny (model prog w) A (Builtin.SmallTypes.stopIteration (α:=α)) Q E s:=by
 unfold Builtin.SmallTypes.stopIteration;wp_walk;have kp:∀b o,s.heap.get? b=some o->((s.heap.push { cls:=.type "tuple", data:=.seq (([]:List Value).toArray) }).push { cls:=.type "StopIteration", data:=.fields (#[.ref s.heap.objs.size,.none,.none,.none,.bool false,.none]++#[]) }).get? b=some o:=λb o e=>zAb _ (zAb _ e);have ne:∀h,A.handled=some (.ref h)->h≠s.heap.objs.size+1:=by
  intro h e1 z;rcases hd with hh | ⟨a,oh,vs,h1,hh,hdh,hc,_⟩
  ·rw [hh] at e1;cases e1
  ·rw [h1] at e1;cases e1
   have:=zAe hh;have z':h=s.heap.objs.size+1:=z;rw [z'] at this;exact zAJ _ (Nat.lt_of_succ_lt this)
 refine vo (fp:=fp) (hd.keep λb o _ e=>kp b o e) (zBM (by simp only [zAF]) rfl) rfl (by rw [Array.size_append];exact Nat.lt_add_right _ (show 2 < 6 by decide)) (by simpa using ne) ?_ λh=>?_
 ·exact hE _ _ kp ⟨_,zBM (by simp only [zAF]) rfl,rfl⟩
 ·refine hE _ _ (λb o e=>?_) ⟨_,zAD _ (zBM (by simp only [zAF]) rfl) rfl,rfl⟩;rw [zAt _ _ (λz=>by have q:=zAe e;rw [<-z] at q;simp only [zAF] at q;exact zAJ _ (Nat.lt_of_succ_lt q))];exact kp b o e
end
section
variable {A:Around}
theorem dR {h:Heap}{f:Obj->Obj}{b:Addr}{o:Obj}(hb:b≠it) (e:h.get? b=some o):(h.update it f).get? b=some o:=(zAt _ _ (Ne.symm hb)).trans e
theorem zU {items} {Q:Option Value->Shared->Prop}(hh:cY A [it] s.heap)
  (hit:s.heap.IsListIter it l i) (hl:s.heap.IsList l items) (hx:items[i]?=none)
  (hQ:∀h',Heap.ExtBut it s.heap h'->Q none { s with heap:=h' }):wpAny (model prog w) A (pyNext (.ref it)) Q E s:=by
 obtain ⟨o,ho,hc,hd⟩:=id hit;obtain ⟨ol,hol,_,nl,hdl⟩:=hl;unfold pyNext;refine zAa (zBs (zAI (name:=Str.ofString "__next__") hit.typeIs slot_listiter_next
  (zAV slot_listiter_next hit.typeIs entry_listiter_next ?_ (args_listiter_next _))))
 show wpAny _ _ (field (.ref it) 0 >>= _) _ _ s;refine zAa (zAM ho hd (x:=.ref l) rfl ?_);show wpAny _ _ (if (Value.ref l==Value.none)=true then _ else _) _ _ s;rw [if_neg (show ¬((Value.ref l==Value.none)=true) from zAs)];show wpAny _ _ (field (.ref it) 1 >>= _) _ _ s;refine zAa (zAM ho hd (x:=.int i 0) rfl ?_);show wpAny _ _ (seqItems? (.ref l) >>= _) _ _ s;refine zAa (zBO hol hdl ?_);simp only [zBd,hx];refine zAa (zBE (zAa (zAQ ho hd (by simp) ?_)));refine oH (fp:=[it]) (hh.in1.keep λb o hb e=>dR (by simpa using hb) e) λh' x k q=>?_;refine zAa (zBh (T := "StopIteration") (b:=true) q isSubtype_stop ?_);exact zAd (hQ _ λb o hb e=>k b o (dR hb e))
theorem vp {t:Addr}{items} {Q:Option Value->Shared->Prop}(hh:cY A [it] s.heap)
  (hit:s.heap.IsTupleIter it t i) (ht:s.heap.IsTuple t items) (hx:items[i]?=none)
  (hQ:∀h',Heap.ExtBut it s.heap h'->Q none { s with heap:=h' }):wpAny (model prog w) A (pyNext (.ref it)) Q E s:=by
 obtain ⟨o,ho,hc,hd⟩:=id hit;obtain ⟨ol,hol,_,nl,hdl⟩:=ht;unfold pyNext;refine zAa (zBs (zAI (name:=Str.ofString "__next__") hit.typeIs F.slot_tuple_iterator_next
  (zAV F.slot_tuple_iterator_next hit.typeIs F.entry_tuple_iterator_next ?_ (F.args_tuple_iterator_next_1 _))))
 show wpAny _ _ (field (.ref it) 0 >>= _) _ _ s;refine zAa (zAM ho hd (x:=.ref t) rfl ?_);show wpAny _ _ (if (Value.ref t==Value.none)=true then _ else _) _ _ s;rw [if_neg (show ¬((Value.ref t==Value.none)=true) from zAs)];show wpAny _ _ (field (.ref it) 1 >>= _) _ _ s;refine zAa (zAM ho hd (x:=.int i 0) rfl ?_);show wpAny _ _ (seqItems? (.ref t) >>= _) _ _ s;refine zAa (zBO hol hdl ?_);simp only [zBd,hx];refine zAa (zBE (zAa (zAQ ho hd (by simp) ?_)));refine oH (fp:=[it]) (hh.in1.keep λb o hb e=>dR (by simpa using hb) e) λh' x k q=>?_;refine zAa (zBh (T := "StopIteration") (b:=true) q isSubtype_stop ?_);exact zAd (hQ _ λb o hb e=>k b o (dR hb e))
theorem Hx {x left step:Int}{Q:Option Value->Shared->Prop}(hh:cY A [] s.heap) (hit:IsRangeIter s.heap it x left step) (hleft:left<=0)
  (hQ:∀h',Heap.ExtBut it s.heap h'->Q none { s with heap:=h' }):wpAny (model prog w) A (pyNext (.ref it)) Q E s:=by
 have hT:s.TypeIs (.ref it) "range_iterator" := ⟨_,hit,rfl⟩;unfold pyNext;refine zAa (zBs (zAI (name:=Str.ofString "__next__") hT F.slot_range_iterator_next
  (zAV F.slot_range_iterator_next hT F.entry_range_iterator_next ?_ (F.args_range_iterator_next_1 _))))
 show wpAny _ _ (field (.ref it) 0 >>= _) _ _ s;refine zAa (zAM hit rfl (x:=rawInt x) rfl ?_);show wpAny _ _ (field (.ref it) 1 >>= _) _ _ s;refine zAa (zAM hit rfl (x:=rawInt left) rfl ?_);show wpAny _ _ (field (.ref it) 2 >>= _) _ _ s;refine zAa (zAM hit rfl (x:=rawInt step) rfl ?_);show wpAny _ _ (if left<=0 then _ else _) _ _ s;rw [if_pos hleft];refine zAa (zBE ?_);refine zAa ?_;refine oH (fp:=[]) hh.in1 λh' x k q=>?_;refine zAa (zBh (T := "StopIteration") (b:=true) q isSubtype_stop ?_);exact zAd (hQ _ λb o hb e=>k b o e)
theorem Gm {x:Str}{Q:Option Value->Shared->Prop}(hh:cY A [it] s.heap)
  (hit:s.heap.IsStrIter it "str_ascii_iterator" x t i) (hx:x.cps[i]?=none)
  (hQ:∀h',Heap.ExtBut it s.heap h'->Q none { s with heap:=h' }):wpAny (model prog w) A (pyNext (.ref it)) Q E s:=by
 obtain ⟨o,ho,hc,hd⟩:=id hit;unfold pyNext;refine zAa (zBs (zAI (name:=Str.ofString "__next__") hit.typeIs F.slot_str_ascii_iterator_next
  (zAV F.slot_str_ascii_iterator_next hit.typeIs F.entry_str_ascii_iterator_next ?_ (F.args_str_ascii_iterator_next_1 _))))
 show wpAny _ _ (field (.ref it) 0 >>= _) _ _ s;refine zAa (zAM ho hd (x:=.str x t) rfl ?_);show wpAny _ _ (field (.ref it) 1 >>= _) _ _ s;refine zAa (zAM ho hd (x:=.int i 0) rfl ?_);simp only [zBd,hx];refine zAa (zBE (zAa (zAQ ho hd (by simp) (zAa (wpAny_letGo ?_)))));refine oH (fp:=[it]) (hh.in1.keep λb o hb e=>dR (by simpa using hb) e) λh' x k q=>?_;refine zAa (zBh (T := "StopIteration") (b:=true) q isSubtype_stop ?_);exact zAd (hQ _ λb o hb e=>k b o (dR hb e))
theorem Kq {x:Str}{Q:Option Value->Shared->Prop}(hh:cY A [it] s.heap)
  (hit:s.heap.IsStrIter it "str_iterator" x t i) (hx:x.cps[i]?=none)
  (hQ:∀h',Heap.ExtBut it s.heap h'->Q none { s with heap:=h' }):wpAny (model prog w) A (pyNext (.ref it)) Q E s:=by
 obtain ⟨o,ho,hc,hd⟩:=id hit;unfold pyNext;refine zAa (zBs (zAI (name:=Str.ofString "__next__") hit.typeIs F.slot_str_iterator_next
  (zAV F.slot_str_iterator_next hit.typeIs F.entry_str_iterator_next ?_ (F.args_str_iterator_next_1 _))))
 show wpAny _ _ (field (.ref it) 0 >>= _) _ _ s;refine zAa (zAM ho hd (x:=.str x t) rfl ?_);show wpAny _ _ (field (.ref it) 1 >>= _) _ _ s;refine zAa (zAM ho hd (x:=.int i 0) rfl ?_);simp only [zBd,hx];refine zAa (zBE (zAa (zAQ ho hd (by simp) (zAa (wpAny_letGo ?_)))));refine oH (fp:=[it]) (hh.in1.keep λb o hb e=>dR (by simpa using hb) e) λh' x k q=>?_;refine zAa (zBh (T := "StopIteration") (b:=true) q isSubtype_stop ?_);exact zAd (hQ _ λb o hb e=>k b o (dR hb e))
end
section
variable {A:Around}
theorem jc {items} {Q:zV}(hh:cY A [it] s.heap)
  (hit:s.heap.IsListIter it l i) (hl:s.heap.IsList l items) (hx:items[i]?=none)
  (hE:∀h' e,Heap.ExtBut it s.heap h'->(∃o,h'.get? e=some o/\o.cls=.type "StopIteration")->E (.ref e) { s with heap:=h' }) :
  wpAny (model prog w) A (Builtin.SmallTypes.nextOf (.ref it)) Q E s:=by
 obtain ⟨o,ho,hc,hd⟩:=id hit;obtain ⟨ol,hol,_,nl,hdl⟩:=hl;unfold Builtin.SmallTypes.nextOf;refine zAa (zAI (name:=Str.ofString "__next__") hit.typeIs slot_listiter_next
  (zAV slot_listiter_next hit.typeIs entry_listiter_next ?_ (args_listiter_next _)))
 show wpAny _ _ (field (.ref it) 0 >>= _) _ _ s;refine zAa (zAM ho hd (x:=.ref l) rfl ?_);show wpAny _ _ (if (Value.ref l==Value.none)=true then _ else _) _ _ s;rw [if_neg (show ¬((Value.ref l==Value.none)=true) from zAs)];show wpAny _ _ (field (.ref it) 1 >>= _) _ _ s;refine zAa (zAM ho hd (x:=.int i 0) rfl ?_);show wpAny _ _ (seqItems? (.ref l) >>= _) _ _ s;refine zAa (zBO hol hdl ?_);simp only [zBd,hx];refine zAa (zBE (zAa (zAQ ho hd (by simp) ?_)));exact oH (fp:=[it]) (hh.in1.keep λb o hb e=>dR (by simpa using hb) e) λh' x k q=>hE h' x (λb o hb e=>k b o (dR hb e)) q
theorem M4 {items:Array Value}{old:Value}{Q:Option Value->Shared->Prop}(hh:cY A [it] s.heap)
  (he:IsEnum s.heap e it i old) (hit:s.heap.IsListIter it l i) (hl:s.heap.IsList l items) (hx:items[i]?=none)
  (hQ:∀h',Heap.ExtBut it s.heap h'->Q none { s with heap:=h' }):wpAny (model prog w) A (pyNext (.ref e)) Q E s:=by
 have hT:s.TypeIs (.ref e) "enumerate" := ⟨_,he,rfl⟩;unfold pyNext;refine zAa (zBs (zAI (name:=Str.ofString "__next__") hT F.slot_enumerate_next
  (zAV F.slot_enumerate_next hT F.entry_enumerate_next ?_ (F.args_enumerate_next_1 _))))
 show wpAny _ _ (field (.ref e) 2 >>= _) _ _ _;refine zAa (zAM he rfl (x:=.ref it) rfl ?_);refine zAa (jc hh.in1 hit hl hx λh' x he' hx'=>?_);refine zAa (zBh (T := "StopIteration") (b:=true) hx' isSubtype_stop ?_);exact zAd (hQ _ he')
theorem zip_next_end {z TI TO i1 i2 l1 l2:Addr}{Q:PySem.Fin->Shared->Prop}(hh:cY A [z,TO,i1,i2] s.heap) (D:ZipApart z TI TO i1 i2 l1 l2)
  (hz:IsZip s.heap z TI TO .none) (hTI:IsPair s.heap TI (.ref i1) (.ref i2)) (hTO:IsPair s.heap TO a b)
  (h1:s.heap.IsListIter i1 l1 k1) (h2:s.heap.IsListIter i2 l2 k2) (hl1:s.heap.IsList l1 xs) (hl2:s.heap.IsList l2 ys) (hend:xs[k1]?=none∨ys[k2]?=none)
  (hE:∀h' e,(∀c o,c≠z->c≠TO->c≠i1->c≠i2->s.heap.get? c=some o->h'.get? c=some o)->(∃o,h'.get? e=some o/\o.cls=.type "StopIteration")->E (.ref e) { s with heap:=h' }) :
  wpAny (model prog w) A (Builtin.«zip.__next__» ⟨[.ref z],[]⟩) Q E s:=by
 have mk:∀{h':Heap}{i:Addr},i∈[z,TO,i1,i2]->(∀c o,c∉[z,TO,i1,i2]->s.heap.get? c=some o->h'.get? c=some o)->cY A [i] h':=λ{h' i} hi k=>(hh.keep k).sub λc hc=>by
  have:c=i:=by simpa using hc
  subst this;exact hi
 show wpAny _ _ (field (.ref z) 2 >>= _) _ _ _;refine zAa (zAM hz rfl (x:=.bool false) rfl ?_);show wpAny _ _ (field (.ref z) 3 >>= _) _ _ _;refine zAa (zAM hz rfl (x:=.ref TI) rfl ?_);refine zAa (zBO hTI rfl ?_);show wpAny _ _ (Builtin.SmallTypes.ownedTupleIsFree (.ref z) >>= _) _ _ _;refine zAa ?_;unfold Builtin.SmallTypes.ownedTupleIsFree;refine zAa (zAM hz rfl (x:=.none) rfl (zAd ?_));simp only [if_true];refine zAa (zBE ?_);refine zAa (zAM hz rfl (x:=.ref TO) rfl ?_);refine zAa (wpAny_setField_rec hz (by simp) λh₁ hz₁ hs₁=>?_)
 replace hz₁:IsZip h₁ z TI TO .ellipsis:=hz₁;refine zAa ?_;simp only [List.zipIdx_cons,List.zipIdx_nil,List.forIn_cons,List.forIn_nil];refine zAa (zAa (wpAny_onRaise ?_));show wpAny _ _ (Builtin.SmallTypes.nextOf (.ref i1) >>= _) _ _ _;cases hx:xs[k1]? with
 |none=>
  refine zAa (jc (mk (by simp) λc o hc e=>hs₁.extBut _ _ (λz=>hc (by simp [z])) e) (h1.extBut hs₁.extBut D.i1z) (hl1.extBut hs₁.extBut D.l1z) hx λh₂ e hs₂ he=>?_);obtain ⟨oe,hoe,hce⟩:=he;have hz₂:IsZip h₂ z TI TO .ellipsis:=hs₂ _ _ D.i1z.symm hz₁;have hez:e≠z:=λx=>by subst x;rw [hz₂] at hoe;cases hoe;simp at hce
  refine wpAny_setField_rec hz₂ (by simp) λh₃ _ hs₃=>hE h₃ e (λc o c1 _ c3 _ x=>hs₃.extBut _ _ c1 (hs₂ _ _ c3 (hs₁.extBut _ _ c1 x))) ⟨oe,hs₃.extBut _ _ hez hoe,hce⟩
 |some x=>
  have hy:ys[k2]?=none:=by rcases hend with h | h;rw [hx] at h;cases h;exact h
  refine zAa (wpAny_nextOf_list_item (h1.extBut hs₁.extBut D.i1z) (hl1.extBut hs₁.extBut D.l1z) hx λh₂ h1₂ hs₂=>zAd ?_);have hTO₂:IsPair h₂ TO a b:=hs₂.extBut _ _ D.TOi1 (hs₁.extBut _ _ D.TOz hTO);refine zAa (zBO hTO₂ rfl ?_);refine zAa (wpAny_updateSeq_pair hTO₂ λh₃ hTO₃ hs₃=>?_);refine zAa (wpAny_letGo (zAd ?_));refine zAa (zAa (wpAny_onRaise ?_));show wpAny _ _ (Builtin.SmallTypes.nextOf (.ref i2) >>= _) _ _ _;refine zAa (jc (mk (by simp) λc o hc e=>hs₃.extBut _ _ (λz=>hc (by simp [z])) (hs₂.extBut _ _ (λz=>hc (by simp [z])) (hs₁.extBut _ _ (λz=>hc (by simp [z])) e))) (((h2.extBut hs₁.extBut D.i2z).extBut hs₂.extBut D.i12.symm).extBut hs₃.extBut D.TOi2.symm)
   (((hl2.extBut hs₁.extBut D.l2z).extBut hs₂.extBut D.l2i1).extBut hs₃.extBut D.l2TO) hy λh₄ e hs₄ he=>?_)
  obtain ⟨oe,hoe,hce⟩:=he;have hz₄:IsZip h₄ z TI TO .ellipsis:=hs₄ _ _ D.i2z.symm (hs₃.extBut _ _ D.TOz.symm (hs₂.extBut _ _ D.i1z.symm hz₁));have hez:e≠z:=λx=>by subst x;rw [hz₄] at hoe;cases hoe;simp at hce
  refine wpAny_setField_rec hz₄ (by simp) λh₅ _ hs₅=>hE h₅ e (λc o c1 c2 c3 c4 x=>hs₅.extBut _ _ c1 (hs₄ _ _ c4 (hs₃.extBut _ _ c2 (hs₂.extBut _ _ c3 (hs₁.extBut _ _ c1 x))))) ⟨oe,hs₅.extBut _ _ hez hoe,hce⟩
theorem Pu {z TI TO i1 i2 l1 l2:Addr}{Q:Option Value->Shared->Prop}(hh:cY A [z,TO,i1,i2] s.heap) (D:ZipApart z TI TO i1 i2 l1 l2)
  (hz:IsZip s.heap z TI TO .none) (hTI:IsPair s.heap TI (.ref i1) (.ref i2)) (hTO:IsPair s.heap TO a b)
  (h1:s.heap.IsListIter i1 l1 k1) (h2:s.heap.IsListIter i2 l2 k2) (hl1:s.heap.IsList l1 xs) (hl2:s.heap.IsList l2 ys) (hend:xs[k1]?=none∨ys[k2]?=none)
  (hQ:∀h',(∀c o,c≠z->c≠TO->c≠i1->c≠i2->s.heap.get? c=some o->h'.get? c=some o)->Q none { s with heap:=h' }):wpAny (model prog w) A (pyNext (.ref z)) Q E s:=by
 have hT:s.TypeIs (.ref z) "zip" := ⟨_,hz,rfl⟩;unfold pyNext;refine zAa (zBs (zAI (name:=Str.ofString "__next__") hT F.slot_zip_next
  (zAV F.slot_zip_next hT F.entry_zip_next (zip_next_end hh.in1 D hz hTI hTO h1 h2 hl1 hl2 hend λh' e hk he=>?_) (F.args_zip_next_1 _))))
 refine zAa (zBh (T := "StopIteration") (b:=true) he isSubtype_stop ?_);exact zAd (hQ _ hk)
end
end XH
namespace XH
open PySem PySem.Spec PyProof.Rows
variable {prog:Program}{w:World}{t:Addr}{items:Array Value}{fp:List Addr}{hp:Heap}
section
variable {A:Around}{E:zV}{s:Shared}
theorem Jh {K:Type} [DecidableEq K] {knd:PySem.KeyKind prog w K}{it d:Addr}{i ep:Nat}{kvs:List (K×Value)}{Q:Option Value->Shared->Prop}(hh:cY A [it] s.heap) (hit:s.heap.IsKeyIter it d i kvs.length ep)
  (hm:s.heap.DictAt knd d kvs ep) (hx:kvs[i]?=none)
  (hQ:∀h',Heap.ExtBut it s.heap h'->Q none { s with heap:=h' }):wpAny (model prog w) A (pyNext (.ref it)) Q E s:=by
 obtain ⟨o,ho,hc,hd⟩:=id hit;obtain ⟨od,es,hod,hcd,hdd,hk,hp,hn⟩:=id hm;unfold pyNext;refine zAa (zBs (zAI (name:=Str.ofString "__next__") hit.typeIs F.slot_dict_keyiterator_next
  (zAV F.slot_dict_keyiterator_next hit.typeIs F.entry_dict_keyiterator_next ?_ (F.args_dict_keyiterator_next_1 _))))
 refine zAa (zAd ?_);refine zAa ?_;refine zAa ?_;first | refine zAa (wpAny_typeNameOfWhole_keyiter hit.typeIs (zAd ?_)) | refine zAa (wpAny_typeNameOf_keyiter hit.typeIs (zAd ?_))
 refine zAa (wpAny_fieldsOf ho hd ?_);have hown:Builtin.Dict_items.ownsTuple "dict_keyiterator" = false:=by decide
 simp only [hown,zAz,if_false];show wpAny _ _ (if (Value.ref d==Value.none)=true then _ else _) _ _ s;rw [if_neg (show ¬((Value.ref d==Value.none)=true) from zAs)];refine zAa (zAd ?_);refine zAa (wpAny_dictEntries hod hdd ?_);have hsz:es.size=kvs.length:=by rw [<-hp.length];simp
 rw [if_neg (by rw [hsz];simp)];refine zAa (zAd ?_);refine zAa (wpAny_dictEpoch hod hdd ?_);rw [if_neg (by simp)];refine zAd ?_;have hge:es.size<=i:=by rw [hsz];simpa using hx
 simp only [show ¬((i:Int) < 0) from by omega,if_false,zBd,zBZ hge];refine zAa ?_;first | refine zAa (wpAny_typeNameOfWhole_keyiter hit.typeIs (zAd ?_)) | refine zAa (wpAny_typeNameOf_keyiter hit.typeIs (zAd ?_))
 show wpAny _ _ (setField (.ref it) 0 .none >>= _) _ _ s;refine zAa (zAQ ho hd (by simp) ?_);refine oH (fp:=[it]) (hh.in1.keep λb o hb e=>dR (by simpa using hb) e) λh' x k q=>?_;refine zAa (zBh (T := "StopIteration") (b:=true) q isSubtype_stop ?_);exact zAd (hQ _ λb o hb e=>k b o (dR hb e))
theorem unpackItems_tuple {Q:List Value->Shared->Prop}(hh:cY A [] s.heap) (ht:IsTup s.heap t items)
  (hQ:∀h',Heap.ExtBut s.heap.objs.size s.heap h'->Q items.toList { s with heap:=h' }):wpAny (model prog w) A (unpackItems (.ref t) items.size none) Q E s:=by
 have hlt:t≠s.heap.objs.size:=by obtain ⟨o,ho,_⟩:=ht;exact zAl (zAe ho)
 unfold unpackItems;refine zAa ?_
 ·unfold notIterableAtAll;refine zAa (wpAny_specialOf ht.typeIs slot_tuple_iter.lookup ?_);refine zAd ?_;simp only [zAz,if_false];refine zAa (zAN (iter_tuple ht ?_));refine zAa (zAN (draw_tuple hlt items.size 0 _ _ ⟨_,zAp _ rfl,rfl,rfl⟩ (ht.push _) (by omega) λh₁ hit₁ hs₁=>?_));have hall:List.take items.size (List.drop 0 items.toList)=items.toList:=by
   rw [List.drop_zero];exact zBj (by simp)
  rw [hall];rw [if_neg (by simp)];have ht₁:IsTup h₁ t items:=(ht.push _).extBut hs₁.extBut hlt;have hd:cY A [s.heap.objs.size] h₁:=by
   rcases hh with hh | ⟨a,oh,vs,e1,e2,e3,e4,_⟩
   ·exact .inl hh
   ·have lt:=zAe e2;exact .inr ⟨a,oh,vs,e1,hs₁.extBut a oh (zAl lt) (zAb _ e2),e3,e4,by simp;exact zAl lt⟩
  refine zAa (zAN (vp (s:={ s with heap:=h₁ }) hd hit₁ ht₁ (by simp) λh₂ he₂=>?_));simp only [Option.isSome_none,zAz,if_false];refine zAd (hQ h₂ λb o hb e=>he₂ b o hb (hs₁.extBut b o hb (zAb _ e)))
theorem assign_Tuple_tuple {env:Env}{elts:List Expr}{x1} {pos:Pos}{Q:Unit->Shared->Prop}(hh:cY A [] s.heap) (ht:IsTup s.heap t items)
  (hn:(assignEach elts env).length=items.size) (hstar:(assignEach elts env).findIdx? (·.1)=none)
  (h:∀h',Heap.ExtBut s.heap.objs.size s.heap h'->wpAny (model prog w) A (assignInOrder ((assignEach elts env).map (·.2)) items.toList) Q E { s with heap:=h' }) :
  wpAny (model prog w) A (assign (.Tuple elts x1 pos) env (.ref t)) Q E s:=by
 rw [assign_Tuple];refine zAa (zBB ?_);unfold unpack;rw [hn,hstar];exact zAa (zAN (unpackItems_tuple hh ht h))
end
def hdl (A:Around):List Addr:=match A.handled with
 |some (.ref h)=>[h]
 |_=>[]
theorem cY.mem {A:Around}{a:Addr}(h:cY A fp hp) (z:a∈hdl A):a∉fp/\∃o,hp.get? a=some o:=by
 unfold hdl at z;rcases h with h | ⟨b,oh,vs,h1,h2,h3,h4,h5⟩
 ·rw [h] at z;cases z
 ·rw [h1] at z;have e:a=b:=by simpa using z
  subst e;exact ⟨h5,_,h2⟩
theorem cY.frame {A:Around}{hp':Heap}(h:cY A fp hp) (k:∀b∈hdl A,∀o,hp.get? b=some o->hp'.get? b=some o):cY A fp hp':=by
 rcases h with h | ⟨b,oh,vs,h1,h2,h3⟩
 ·exact .inl h
 ·exact .inr ⟨b,oh,vs,h1,k b (by simp [hdl,h1]) oh h2,h3⟩
theorem vq {A:Around}(I ax:Addr) (hne:ax≠I) (items:Array Value) :
  Walks prog w A I (I::ax::hdl A) [I] items.size (λi v=>items[i]?=some v) (λi h=>(h.IsListIter I ax i/\h.IsList ax items)/\cY A [I] h) where
 sub:=λb hb=>by simp at hb;simp [hb]
 frame:=λ_ _ _ st hk=>⟨⟨st.1.1.at λo e=>hk I (by simp) o e,st.1.2.at λo e=>hk ax (by simp) o e⟩,st.2.frame λb hb o e=>hk b (by simp [hb]) o e⟩
 item:=λi s Q E hi st hQ=>by
  refine wpAny_pyNext_list_item st.1.1 st.1.2 (x:=items[i]) (by simp [hi]) λh' hit' hs'=>?_;exact hQ _ h' s.toks (by simp [hi]) ⟨⟨hit',st.1.2.extBut hs'.extBut hne⟩,st.2.keep λb o hb e=>hs'.extBut b o (by simpa using hb) e⟩ λb o hb e=>hs'.extBut b o (λh=>hb (by simp [h])) e
 done:=λs Q E st hQ=>zU st.2 st.1.1 st.1.2 (by simp) λh' he'=>hQ h' s.toks λb o hb e=>he' b o (λh=>hb (by simp [h])) e
 self:=λ_ _ _ _ st hQ=>wpAny_pyIter_listiter st.1.1 hQ
end XH
namespace L2
open PySem PySem.Spec PyProof.Rows
variable {H H':Hp}{a b it C dx:Addr}{o:HO}{u:Value}{P prog:Program}{w:World}{h' base:Heap}{e c tg:Expr}{X:Cx}{pins:List (Addr×Obj)}{σ:St}{s s':Shared}{fp ch:List Addr}{g':Array GenState}{t' i j:Nat}{d':Drawn}{N ps:List Str}{M:Model}{E:zV}{v y:V}{t:TA}{pos pos':Pos}{ta te:TE}{tb:TS}{xs vs:List V}{K:zF}{tc:TT}{es:List Expr}{g:Int->Int->Int}{body:List Stmt}{f:Value->Value->Sem Value}{r:R2}{us:List Value}{name qual:Str}{kw:List (Str×Value)}{mg:Str->Option Value}{CX:K3}{fd:FuncData}{sp:Sp}{outer:List Env}{scope:Scope}
abbrev Key:=Sum Int Str
def tG:Key->Value->Bool
 |.inl k,v=>Value.isInt k v
 |.inr x,v=>Value.isStrOf x v
def aaY (w:World):Key->Int
 |.inl k=>hashInt k
 |.inr x=>hashStr w x
theorem cX:∀{k:Key}{v:Value},tG k v=true->(∃i t,k=Sum.inl i/\v=Value.int i t)∨(∃x t,k=Sum.inr x/\v=Value.str x t)
 |.inl i,v,h=>by
  obtain ⟨t,e⟩:=Value.isInt_shape (k:=i) (v:=v) h;exact .inl ⟨i,t,rfl,e⟩
 |.inr x,v,h=>by
  obtain ⟨t,e⟩:=Value.isStrOf_shape (x:=x) (v:=v) h;exact .inr ⟨x,t,rfl,e⟩
theorem Hz (i:Int) (t:Tok):tG (.inl i) (.int i t)=true:=by simp [tG,Value.isInt]
theorem nH (x:Str) (t:Tok):tG (.inr x) (.str x t)=true:=by simp [tG,Value.isStrOf]
theorem Vm (a b:Int):decide ((Sum.inl a:Key)=Sum.inl b)=(a==b):=by
 by_cases e:a=b
 ·subst e;simp
 ·have h:¬(Sum.inl a:Key)=Sum.inl b:=λq=>e (Sum.inl.inj q);rw [decide_eq_false h];exact (beq_eq_false_iff_ne.mpr e).symm
theorem Uz (a b:Str):decide ((Sum.inr a:Key)=Sum.inr b)=decide (a=b):=by
 by_cases e:a=b
 ·subst e;simp
 ·have h:¬(Sum.inr a:Key)=Sum.inr b:=λq=>e (Sum.inr.inj q);rw [decide_eq_false h,decide_eq_false e]
theorem Vf (a:Int) (b:Str):decide ((Sum.inl a:Key)=Sum.inr b)=false:=decide_eq_false (λq=>nomatch q)
theorem Uq (a:Str) (b:Int):decide ((Sum.inr a:Key)=Sum.inl b)=false:=decide_eq_false (λq=>nomatch q)
def aN (prog:Program) (w:World):PySem.KeyKind prog w Key where
 is:=tG
 hash:=aaY w
 inj:=λv a b ha hb=>by
  rcases cX ha with ⟨i,t,rfl,rfl⟩ | ⟨x,t,rfl,rfl⟩
  ·rcases cX hb with ⟨j,u,rfl,e⟩ | ⟨y,u,rfl,e⟩
   ·injection e with e1 _;rw [e1]
   ·exact nomatch e
  ·rcases cX hb with ⟨j,u,rfl,e⟩ | ⟨y,u,rfl,e⟩
   ·exact nomatch e
   ·injection e with e1 _;rw [e1]
 byValue:=λk v h=>by
  rcases cX h with ⟨i,t,rfl,rfl⟩ | ⟨x,t,rfl,rfl⟩<;>rfl
 pyHash:=λhv h=>by
  rcases cX hv with ⟨i,t,rfl,rfl⟩ | ⟨x,t,rfl,rfl⟩
  ·exact wpAny_pyHash_int h
  ·exact wpAny_pyHash_str h
 eqBool:=λhu hv h=>by
  rcases cX hu with ⟨i,t,rfl,rfl⟩ | ⟨x,t,rfl,rfl⟩
  ·rcases cX hv with ⟨j,u,rfl,rfl⟩ | ⟨y,u,rfl,rfl⟩
   ·rw [Vm] at h;exact wpAny_eqBool_int h
   ·rw [Vf] at h;exact SeqAt.EqAt.int_str i t y u _ _ _ _ h
  ·rcases cX hv with ⟨j,u,rfl,rfl⟩ | ⟨y,u,rfl,rfl⟩
   ·rw [Uq] at h;exact SeqAt.EqAt.str_int x t j u _ _ _ _ h
   ·rw [Uz] at h;exact wpAny_eqBool_str h
 «strs»:=λk x t v h=>by
  rcases cX h with ⟨i,u,rfl,e⟩ | ⟨y,u,rfl,e⟩
  ·exact nomatch e
  ·injection e with e1 _
   subst e1;cases v<;>rfl
theorem zf (prog:Program) (w:World) (i:Int) (t:Tok):(aN prog w).is (.inl i) (.int i t)=true:=Hz i t
theorem zR (prog:Program) (w:World) (x:Str) (t:Tok):(aN prog w).is (.inr x) (.str x t)=true:=nH x t
inductive V where
 |non | bl (b:Bool) | int (i:Int) | str (x:Str) | byt (b:Array UInt8) | flt (b:UInt64) | ref (a:Addr) | ty (n:String)
 deriving DecidableEq
def RelV:V->Value->Prop
 |.non,u=>u=Value.none
 |.bl b,u=>u=Value.bool b
 |.int i,u=>∃t,u=Value.int i t
 |.str x,u=>∃t,u=Value.str x t
 |.byt b,u=>∃t,u=Value.bytes b t
 |.flt b,u=>∃t,u=Value.float b t
 |.ref a,u=>u=Value.ref a
 |.ty n,u=>u=Value.type n
abbrev Vals:List V->List Value->Prop:=Paired RelV
theorem Vals.length {xs:List V}{us:List Value}(r:Vals xs us):xs.length=us.length:=Paired.length r
theorem Vals.get:∀{xs:List V}{us:List Value}{i:Nat}{x:V},Vals xs us->xs[i]?=some x->∃u,us[i]?=some u/\RelV x u
 |_,_,_,_,.nil,e=>by simp at e
 |_,_,0,_,.cons r _,e=>by simp at e;subst e;exact ⟨_,rfl,r⟩
 |_,_,i+1,x,.cons _ t,e=>by
  obtain ⟨u,h1,h2⟩:=Vals.get (i:=i) (x:=x) t (by simpa using e);exact ⟨u,by simpa using h1,h2⟩
theorem Vals.set {x:V}{u:Value}(r:RelV x u):∀{xs:List V}{us:List Value}(i:Nat),Vals xs us->Vals (xs.set i x) (us.set i u)
 |_,_,_,.nil=>.nil
 |_,_,0,.cons _ t=>.cons r t
 |_,_,i+1,.cons q t=>.cons q (Vals.set r i t)
theorem Vals.append:∀{xs ys:List V}{us ws:List Value},Vals xs us->Vals ys ws->Vals (xs++ys) (us++ws)
 |_,_,_,_,.nil,s=>s
 |_,_,_,_,.cons r t,s=>.cons r (Vals.append t s)
theorem Vals.take:∀{xs:List V}{us:List Value}(n:Nat),Vals xs us->Vals (xs.take n) (us.take n)
 |_,_,0,_=>.nil
 |_,_,_+1,.nil=>.nil
 |_,_,n+1,.cons r t=>.cons r (Vals.take n t)
theorem Vals.drop:∀{xs:List V}{us:List Value}(n:Nat),Vals xs us->Vals (xs.drop n) (us.drop n)
 |_,_,0,r=>r
 |_,_,_+1,.nil=>.nil
 |_,_,n+1,.cons _ t=>Vals.drop n t
def oE:Option V->Option Value->Prop
 |some v,some u=>RelV v u
 |none,none=>True
 |_,_=>False
def KV {κ:Type}:List (κ×V)->List (κ×Value)->Prop:=Paired λ(p:κ×V) (q:κ×Value)=>p.1=q.1/\RelV p.2 q.2
def kV:Key->V
 |.inl i=>.int i
 |.inr x=>.str x
inductive HO where
  |lst (xs:List V)
  |tup (xs:List V)
  |dK (kvs:List (Key×V)) | dT (kvs:List (List Key×V))
  |set (S:Int->Bool) (n:Nat)
  |ins (C dx:Addr) (fs:List (Str×V))
  |own (x:Addr)
  |xd (fs:List (Str×V))
  |met (f x:Addr)
  |rng (lo hi:Int)
  |frz (o:Obj) (u:HO)
  |tbl (ps:Array Value)
  |ext (φ:Heap->Prop)
abbrev Hp:=Addr->Option HO
def upd (H:Hp) (a:Addr) (o:HO):Hp:=λb=>if b=a then some o else H b
theorem aJ:upd H a o a=some o:=by unfold upd;rw [if_pos rfl]
theorem aA (h:b≠a):upd H a o b=H b:=by unfold upd;rw [if_neg h]
theorem yG {u:HO}(h:H a=some o) (h':H b=some u) (d:o≠u):a≠b:=by
 intro e;subst e;rw [h] at h';exact d (Option.some.inj h')
theorem aO (h:H a=some o) (h':H b=none):a≠b:=by
 intro e;subst e;rw [h] at h';cases h'
section
variable (P:Program) (w:World)
def bw (H:Hp) (h:Heap) (a:Addr):HO->Prop
 |.lst xs=>xs.length<=sizeLine/\∃(its:List Value) (n:Nat),Vals xs its/\h.get? a=some { cls:=.type "list", data:=.seq its.toArray n }
 |.tup xs=>xs.length<=sizeLine/\∃its:List Value,Vals xs its/\IsTup h a its.toArray
 |.dK kvs=>kvs.length<=sizeLine/\(a==sysModules)=false/\∃vs,KV kvs vs/\h.DictOf (aN P w) a vs
 |.dT kvs=>kvs.length<=sizeLine/\(a==sysModules)=false/\∃xs:List (List Key×Addr×Value),
   Paired (λ(p:List Key×V) (q:List Key×Addr×Value)=>p.1=q.1/\H q.2.1=some (.tup (p.1.map kV))/\RelV p.2 q.2.2) kvs xs /\
   ∃o es ep,h.get? a=some o/\o.ExactDict/\o.data=.dict es ep/\es.toList=xs.map (entryOfKey (tupleKind (aN P w)))/\(xs.map (·.1)).Nodup
 |.set S n=>h.SetOf (intKind P w) a S n
 |.ins C dx fs=>H dx=some (.own a)/\fs.length<=1000/\dx≠a/\h.get? a=some (PySem.W.instObj C dx) /\
   ∃mA,h.Ns1 dx mA/\(∀f,oE (fs.lookup f) (mA f))/\PySem.Within mA (fs.map (·.1))
 |.own _=>∃o,h.get? a=some o
 |.xd fs=>∃mA,h.Ns1 a mA/\∀f,oE (fs.lookup f) (mA f)
 |.rng lo hi=>∃t u v,h.get? a=some { cls:=.type "range", data:=.fields #[.int lo t,.int hi u,.int 1 v] }
 |.frz o u=>h.get? a=some o/\bw H h a u
 |.tbl ps=>h.get? a=some { cls:=.none,data:=.fields ps }
 |.met f x=>h.get? a=some (PySem.W.methodObj (.ref f) (.ref x))
 |.ext φ=>φ h/\(∃o,h.get? a=some o)/\∀h1 h2:Heap,φ h1->(∀o,h1.get? a=some o->h2.get? a=some o)->φ h2
def nD (H:Hp) (h:Heap):Prop:=∀a o,H a=some o->bw P w H h a o
end
section
variable {h:Heap}
theorem bw.lt (x:bw P w H h a o):a < h.objs.size:=by
 cases o with
 |lst xs=>obtain ⟨_,_,_,_,e⟩:=x;exact zAe e
 |tup xs=>obtain ⟨_,_,_,p⟩:=x;exact p.lt
 |dK kvs=>obtain ⟨_,_,_,_,o,_,_,e,_⟩:=x;exact zAe e
 |dT kvs=>obtain ⟨_,_,_,_,o,_,_,e,_⟩:=x;exact zAe e
 |set S n=>obtain ⟨o,_,_,_,e,_⟩:=x;exact zAe e
 |ins C dx fs=>obtain ⟨_,_,_,e,_⟩:=x;exact zAe e
 |own y=>obtain ⟨_,e⟩:=x;exact zAe e
 |xd fs=>obtain ⟨_,⟨_,_,_,e,_⟩,_⟩:=x;exact zAe e
 |rng lo hi=>obtain ⟨_,_,_,e⟩:=x;exact zAe e
 |frz ob u=>obtain ⟨e,_⟩:=x;exact zAe e
 |tbl ps=>exact zAe (show h.get? a=some _ from x)
 |met f y=>exact zAe (show h.get? a=some _ from x)
 |ext φ=>obtain ⟨_,⟨_,e⟩,_⟩:=x;exact zAe e
theorem Paired.Pr {α β:Type}{F G:α->β->Prop}:∀{l₁:List α}{l₂:List β},Paired F l₁ l₂->(∀a b,F a b->G a b)->Paired G l₁ l₂
 |_,_,.nil,_=>.nil
 |_,_,.cons r t,f=>.cons (f _ _ r) (Paired.Pr t f)
theorem bw.stay (x:bw P w H h a o) (k:∀b u,(b=a∨H b=some (.own a))->h.get? b=some u->h'.get? b=some u)
  (ho:∀b,H b=some (.own a)->H' b=some (.own a)) (ht:∀b xs,H b=some (.tup xs)->H' b=some (.tup xs)):bw P w H' h' a o:=by
 induction o with
 |lst xs=>obtain ⟨z,its,n,r,e⟩:=x;exact ⟨z,its,n,r,k _ _ (.inl rfl) e⟩
 |tup xs=>obtain ⟨z,its,r,ob,e,c⟩:=x;exact ⟨z,its,r,ob,k _ _ (.inl rfl) e,c⟩
 |dK kvs=>obtain ⟨z,y,vs,r,ob,es,ep,e,c⟩:=x;exact ⟨z,y,vs,r,ob,es,ep,k _ _ (.inl rfl) e,c⟩
 |dT kvs=>
  obtain ⟨z,y,xs,r,ob,es,ep,e,c⟩:=x;exact ⟨z,y,xs,Paired.Pr r λp q z=>⟨z.1,ht _ _ z.2.1,z.2.2⟩,ob,es,ep,k _ _ (.inl rfl) e,c⟩
 |set S n=>obtain ⟨ob,es,ep,t,e,c⟩:=x;exact ⟨ob,es,ep,t,k _ _ (.inl rfl) e,c⟩
 |ins C dx fs=>
  obtain ⟨d,z,ne,e,mA,⟨od,es,ep,e2,c⟩,r⟩:=x;exact ⟨ho _ d,z,ne,k _ _ (.inl rfl) e,mA,⟨od,es,ep,k _ _ (.inr d) e2,c⟩,r⟩
 |own y=>obtain ⟨ob,e⟩:=x;exact ⟨ob,k _ _ (.inl rfl) e⟩
 |xd fs=>obtain ⟨mA,⟨od,es,ep,e,c⟩,r⟩:=x;exact ⟨mA,⟨od,es,ep,k _ _ (.inl rfl) e,c⟩,r⟩
 |rng lo hi=>obtain ⟨t,u,v,e⟩:=x;exact ⟨t,u,v,k _ _ (.inl rfl) e⟩
 |frz ob u ih=>obtain ⟨e,q⟩:=x;exact ⟨k _ _ (.inl rfl) e,ih q⟩
 |tbl ps=>
  have e:h.get? a=some { cls:=.none,data:=.fields ps }:=x;show h'.get? a=some { cls:=.none,data:=.fields ps };exact k a _ (.inl rfl) e
 |met f y=>
  have e:h.get? a=some (PySem.W.methodObj (.ref f) (.ref y)):=x;show h'.get? a=some (PySem.W.methodObj (.ref f) (.ref y));exact k a _ (.inl rfl) e
 |ext φ=>obtain ⟨p,⟨o,e⟩,st⟩:=x;exact ⟨st _ _ p λo q=>k _ _ (.inl rfl) q,⟨o,k _ _ (.inl rfl) e⟩,st⟩
theorem nD.lt (x:nD P w H h) (e:H a=some o):a < h.objs.size:=(x a o e).lt
theorem nD.fresh (x:nD P w H h) (e:h.objs.size<=a):H a=none:=by
 cases q:H a with
 |none=>rfl
 |some u=>exact absurd (zAu (x.lt q) e) (zAJ _)
theorem nD.kept (x:nD P w H h) (k:∀b u,h.get? b=some u->h'.get? b=some u):nD P w H h':=λa o e=>
 (x a o e).stay (λb u _ q=>k b u q) (λ_ q=>q) λ_ _ q=>q
theorem nD.laid (x:nD P w H h) (k:∀b u,h.get? b=some u->h'.get? b=some u) (hp:h.objs.size<=a) (new:bw P w (upd H a o) h' a o):nD P w (upd H a o) h':=λb u e=>by
 have hn:=x.fresh hp;by_cases hb:b=a
 ·subst hb;rw [aJ] at e;cases e;exact new
 ·rw [aA hb] at e;exact (x b u e).stay (λc v _ q=>k c v q) (λc q=>by rw [aA (aO q hn)];exact q) λc xs q=>by rw [aA (aO q hn)];exact q
end
def Rd (H:Hp) (a:Addr) (u:HO):Prop:=H a=some u∨∃o,H a=some (.frz o u)
theorem Rd.ok {h:Heap}{u:HO}(r:Rd H a u) (x:nD P w H h):bw P w H h a u:=by
 rcases r with r | ⟨o,r⟩
 ·exact x a u r
 ·obtain ⟨_,q⟩:=x a _ r;exact q
def YW:Option HO->Prop
 |some (.lst _)=>True
 |some (.dK _)=>True
 |some (.dT _)=>True
 |some (.set _ _)=>True
 |some (.ins _ _ _)=>True
 |some (.ext _)=>True
 |_=>False
section
variable {h:Heap}{x e:Addr}{o':HO}
theorem nD.write (ok:nD P w H h) (mu:YW (H x)) (he:e=x∨H e=some (.own x)) (k:∀b u,b≠e->h.get? b=some u->h'.get? b=some u) (heo:∃u,h'.get? e=some u)
  (new:bw P w (upd H x o') h' x o'):nD P w (upd H x o') h':=λb u q=>by
 have nown:∀c y,H c=some (.own y)->c≠x:=λc y r z=>by subst z;rw [r] at mu;exact mu
 have ntup:∀c xs,H c=some (.tup xs)->c≠x:=λc xs r z=>by subst z;rw [r] at mu;exact mu
 by_cases hb:b=x
 ·subst hb;rw [aJ] at q;cases q;exact new
 ·rw [aA hb] at q;by_cases hbe:b=e
  ·have q':H b=some (.own x):=by
    rcases he with z | z
    ·exact absurd (hbe.trans z) hb
    ·rw [hbe];exact z
   rw [q] at q';cases q'
   obtain ⟨v,hv⟩:=heo;exact ⟨v,by rw [hbe];exact hv⟩
  ·refine (ok b u q).stay (λc v hc r=>k c v ?_ r) (λc r=>by rw [aA (nown c b r)];exact r) λc xs r=>by rw [aA (ntup c xs r)];exact r
   rcases hc with rfl | hc
   ·exact hbe
   ·rintro rfl;rcases he with z | z
    ·exact nown c b hc z
    ·rw [hc] at z;cases z;exact hb rfl
end
structure Un (fs ex:List Addr) (H H':Hp) (h h':Heap):Prop where
 keep:∀b o,h.get? b=some o->H b=none->b∉fs->b∉ex->h'.get? b=some o
 slot:∀b o,h.get? b=some o->H b=none->b∈fs->b∉ex->∃sl,h'.get? b=some { o with slots:=sl }
 free:∀b o,h.get? b=some o->H b=none->b∉ex->H' b=none
 there:∀b o,h.get? b=some o->b∉ex->∃o',h'.get? b=some o'
 tups:∀b xs,H b=some (.tup xs)->H' b=some (.tup xs)
 frzs:∀b o u,H b=some (.frz o u)->H' b=some (.frz o u)
 tbls:∀b ps,H b=some (.tbl ps)->∃more,H' b=some (.tbl (ps++more))
section
variable {fs fs' ex ex':List Addr}{H1 H2:Hp}{h h1 h2:Heap}{x e:Addr}
theorem Un.any (u:Un fs ex H H1 h h1) {ob:Obj}(q:h.get? b=some ob) (n:H b=none) (hx:b∉ex):∃sl,h1.get? b=some { ob with slots:=sl }:=by
 by_cases hb:b∈fs
 ·exact u.slot b ob q n hb hx
 ·exact ⟨ob.slots,u.keep b ob q n hb hx⟩
theorem Un.kept (k:∀b u,h.get? b=some u->h'.get? b=some u):Un fs ex H H h h':=
 ⟨λb ob q _ _ _=>k b ob q,λb ob q _ _ _=>⟨ob.slots,k b ob q⟩,λ_ _ _ n _=>n,λb ob q _=>⟨ob,k b ob q⟩,λ_ _ q=>q,λ_ _ _ q=>q,λ_ ps q=>⟨#[],by rw [q];simp⟩⟩
theorem Un.refl:Un fs ex H H h h:=Un.kept λ_ _ q=>q
theorem Un.laid (k:∀b u,h.get? b=some u->h'.get? b=some u) (hp:h.objs.size<=a) (hn:H a=none):Un fs ex H (upd H a o) h h' where
 keep:=λb u q _ _ _=>k b u q
 slot:=λb u q _ _ _=>⟨u.slots,k b u q⟩
 free:=λb u q n _=>by rw [aA (zAl (zAu (zAe q) hp))];exact n
 there:=λb u q _=>⟨u,k b u q⟩
 tups:=λb xs q=>by rw [aA (aO q hn)];exact q
 frzs:=λb u xs q=>by rw [aA (aO q hn)];exact q
 tbls:=λb ps q=>⟨#[],by rw [aA (aO q hn),q];simp⟩
theorem Un.write (mu:YW (H x)) (he:e=x∨H e=some (.own x)) (k:∀b u,b≠e->h.get? b=some u->h'.get? b=some u) (heo:∃u,h'.get? e=some u):Un fs ex H (upd H x o) h h':=by
 have hx:∀b,H b=none->b≠x:=λb n z=>by subst z;rw [n] at mu;exact mu
 have hb:∀b,H b=none->b≠e:=λb n z=>by
  subst z;rcases he with r | r
  ·exact hx b n r
  ·rw [n] at r;cases r
 have hm:∀b u,H b=some u->¬YW (some u)->b≠x:=λb u q nm z=>by subst z;rw [q] at mu;exact nm mu
 refine ⟨λb u q n _ _=>k b u (hb b n) q,λb u q n _ _=>⟨u.slots,k b u (hb b n) q⟩,λb u q n _=>by rw [aA (hx b n)];exact n,λb u q _=>?_,
  λb xs q=>by rw [aA (hm b _ q λz=>z)];exact q,λb u xs q=>by rw [aA (hm b _ q λz=>z)];exact q,λb ps q=>⟨#[],by rw [aA (hm b _ q λz=>z),q];simp⟩⟩
 by_cases hbe:b=e
 ·subst hbe;exact heo
 ·exact ⟨u,k b u hbe q⟩
end
def trk (h:Heap) (H:Hp):List Addr:=(List.range h.objs.size).filter λa=>(H a).isSome
def vY (h:Heap) (H:Hp):Heap:=PySem.W.hideAll h (trk h H)
theorem HB (h:Heap) (H:Hp):(vY h H).objs.size=h.objs.size:=PySem.W.hideAll_size _ _
theorem Jx {h:Heap}{o:Obj}(e:h.get? b=some o) (n:H b=none):(vY h H).get? b=some o:=
 PySem.W.hideAll_get _ e λhm=>by
  have q:(H b).isSome=true:=(List.mem_filter.mp hm).2;rw [n] at q;simp at q
theorem Qi {h:Heap}{o:Obj}(e:(vY h H).get? b=some o):h.get? b=some o/\H b=none:=by
 have e':h.get? b=some o:=PySem.W.of_hideAll (trk h H) e;refine ⟨e',?_⟩;cases q:H b with
 |none=>rfl
 |some x=>
  have hm:b∈trk h H:=List.mem_filter.mpr ⟨List.mem_range.mpr (zAe e'),by simp [q]⟩;have z:(vY h H).get? b=none:=PySem.W.hideAll_none (trk h H) hm;rw [z] at e;cases e
structure Mod (K:zF) (mg:Str->Option Value) (base:Heap):Prop where
 kin:K.In base
 glob:base.Ns mainGlobals mg
 blt:∃mb,base.Ns builtinsNs mb/\∀x:Str,x ≠ "__name__" -> mb x=bootBuiltins x
 nolimit:base.NoLimit
structure Cx where
 prog:Program
 w:World
 K:zF
 mg:Str->Option Value
 base:Heap
 A:Around
 N:List Str
 s₀:Shared
 H₀:Hp
 env:Env
 outer:List Env
 stack:List Env
 ex:List Addr
 fn:Str->Bool
 calm:Bool
 cool:Bool
 pn:List (Addr×Obj)
 xe:zV
def HD (A:Around) (H:Hp):Prop:=A.handled=none∨∃h oh u vs,A.handled=some (.ref h)/\H h=some (.frz oh u)/\oh.data=.fields vs/\vs[2]?=some .none
theorem HD.mono {A:Around}(h:HD A H) (k:∀b o u,H b=some (.frz o u)->H' b=some (.frz o u)):HD A H':=by
 rcases h with h | ⟨a,oh,u,vs,h1,h2,h3,h4⟩
 ·exact .inl h
 ·exact .inr ⟨a,oh,u,vs,h1,k _ _ _ h2,h3,h4⟩
def frs (l:List Env):List Addr:=l.filterMap (·.frame)
abbrev Cx.fs (X:Cx):List Addr:=frs X.outer
def Zc (sc:Scope) (x:Str):Prop:=sc.names.lookup x=some .local∨sc.names.lookup x=some .cell∨sc.names.lookup x=some .free
def Loc (sc:Scope) (x:Str):Prop:=sc.names.lookup x=some .local∨sc.names.lookup x=some .cell
def Look (env:Env) (h:Heap) (m:Str->Option Value) (x:Str) (u:Value):Prop:=
 (env.kindOf x=some .local/\m x=some u)∨((env.kindOf x=some .cell∨env.kindOf x=some .free)/\∃c,env.cells.lookup x=some c/\h.IsCell c (some u))
structure Cx.Ok (X:Cx):Prop where
 mod:Mod X.K X.mg X.base
 kind:X.env.scope.kind=.function
 glob:X.env.globals=mainGlobals
 blt:X.env.builtins=builtinsNs
 above:X.s₀.heap.objs.size<=X.env.locals
 inj:∀x y c,X.env.cells.lookup x=some c->X.env.cells.lookup y=some c->x=y
 has:∀x,(X.env.kindOf x=some .cell∨X.env.kindOf x=some .free)->∃c,X.env.cells.lookup x=some c
 cab:∀x c,X.fn x=true->X.env.cells.lookup x=some c->X.s₀.heap.objs.size<=c
 hd:X.calm=true->HD X.A X.H₀
 frames:X.A.frames=some X.stack
 stk:X.stack=X.outer∨(X.stack=X.env::X.outer/\X.env.frame=some X.env.locals)
 exf:∀b∈X.ex,b≠X.env.locals/\∀x c,X.env.cells.lookup x=some c->c≠b
 bs:∀b o,X.base.get? b=some o->X.s₀.heap.get? b=some o/\X.H₀ b=none
 bsz:X.base.objs.size<=X.s₀.heap.objs.size
 noex:∀b o,X.base.get? b=some o->b∉X.ex
 exfs:∀b∈X.ex,b∉X.fs
 mK:X.s₀.heap.FunFrames X.base X.outer
 frf:∀b∈X.fs,X.H₀ b=none
 hc:X.cool=true->X.A.handled=none
structure Inv (X:Cx) (pins:List (Addr×Obj)) (σ:List (Option V)) (H:Hp) (s:Shared):Prop where
 ok:X.Ok
 os:s.os=X.s₀.os
 bare:AllBare s.gens
 base:Un X.fs X.ex X.H₀ H X.s₀.heap s.heap
 loc:∃m,s.heap.Ns X.env.locals m/\∀(i:Nat) (x:Str) (v:V),X.N[i]?=some x->σ[i]?=some (some v)->Zc X.env.scope x->∃u,RelV v u/\Look X.env s.heap m x u
 cell:∀x c,X.env.cells.lookup x=some c->∃v,s.heap.IsCell c v
 free:H X.env.locals=none
 freeC:∀x c,X.env.cells.lookup x=some c->H c=none
 pin:∀p∈X.pn++pins,s.heap.get? p.1=some p.2/\H p.1=none/\p.1≠X.env.locals/\p.1∉X.fs/\∀v,p.2.data≠.cell v
 hok:nD X.prog X.w H s.heap
 len:σ.length=X.N.length
section
variable {σ:List (Option V)}
theorem Inv.Ti (I:Inv X pins σ H s) (hc:X.calm=true) (hf:∀b∈fp,H b=none):XH.cY X.A fp s.heap:=by
 rcases I.ok.hd hc with h | ⟨a,oh,u,vs,h1,h2,h3,h4⟩
 ·exact .inl h
 ·have q:=I.base.frzs _ _ _ h2;exact .inr ⟨a,oh,vs,h1,(show bw X.prog X.w H s.heap a (.frz oh u) from I.hok a _ q).1,h3,h4,λz=>by rw [hf a z] at q;cases q⟩
theorem Inv.Dz (I:Inv X pins σ H s) (hc:X.calm=true):XH.cY X.A [] s.heap:=I.Ti hc λb z=>absurd z (by simp)
theorem Inv.vI (I:Inv X pins σ H s) (hc:X.calm=true) (h:H it=none):XH.cY X.A [it] s.heap:=I.Ti hc λb z=>by
 have e:b=it:=by simpa using z
 subst e;exact h
theorem Cx.Ok.aaD (ok:X.Ok) {o:Obj}(e:X.base.get? b=some o):b∉X.fs:=λhb=>by
 have:=(ok.mK.mem hb).1;rw [e] at this;cases this
theorem Inv.bs (I:Inv X pins σ H s):∀b o,X.base.get? b=some o->s.heap.get? b=some o/\H b=none:=λb o e=>
 ⟨I.base.keep b o (I.ok.bs b o e).1 (I.ok.bs b o e).2 (I.ok.aaD e) (I.ok.noex b o e),I.base.free b o (I.ok.bs b o e).1 (I.ok.bs b o e).2 (I.ok.noex b o e)⟩
theorem Inv.bk (I:Inv X pins σ H s):∀b o,X.base.get? b=some o->s.heap.get? b=some o:=λb o e=>(I.bs b o e).1
theorem Inv.mod (I:Inv X pins σ H s):Mod X.K X.mg X.base:=I.ok.mod
theorem Inv.jo (I:Inv X pins σ H s):X.K.In s.heap:=I.ok.mod.kin.keeps I.bk
theorem Inv.lt (I:Inv X pins σ H s):X.env.locals < s.heap.objs.size:=let ⟨_,hn,_⟩:=I.loc;hn.lt
theorem Inv.sz (I:Inv X pins σ H s):X.s₀.heap.objs.size<=s.heap.objs.size:=zAB I.ok.above (zBA I.lt)
theorem Inv.abP (I:Inv X pins σ H s) (h:s.heap.objs.size<=a):a∉X.fs:=λhb=>by
 obtain ⟨_,o,ho,_⟩:=I.ok.mK.mem hb;exact absurd (zAu (zAe ho) (zAB I.sz h)) (zAJ _)
theorem Inv.Ma (I:Inv X pins σ H s):∀x c,X.env.cells.lookup x=some c->c≠X.env.locals:=λx c e z=>by
 obtain ⟨v,o,ho,hd⟩:=I.cell x c e;obtain ⟨m,⟨o',es,ep,ho',hd',_⟩,_⟩:=I.loc;rw [z,ho'] at ho;cases ho;rw [hd'] at hd;cases hd
theorem Inv.mK (I:Inv X pins σ H s):s.heap.FunFrames X.base X.outer:=by
 have all:∀(l:List Env),(∀b∈frs l,b∈X.fs)->X.s₀.heap.FunFrames X.base l->s.heap.FunFrames X.base l:=by
  intro l;induction l with
  |nil=>intro _ _;trivial
  |cons env r ih=>
   intro hs hl;obtain ⟨hk,⟨L,o,hf,hn,ho,hd⟩,hr⟩:=hl;have hL:L∈X.fs:=hs L (by unfold frs;rw [List.filterMap_cons,hf];exact zAm);obtain ⟨sl,e⟩:=I.base.slot L o ho (I.ok.frf L hL) hL λz=>I.ok.exfs L z hL;exact ⟨hk,⟨L,_,hf,hn,e,hd⟩,ih (λb hb=>hs b (by unfold frs;rw [List.filterMap_cons,hf];exact zAf _ hb)) hr⟩
 exact all X.outer (λ_ hb=>hb) I.ok.mK
theorem Inv.stack (I:Inv X pins σ H s):s.heap.FunFrames X.base X.stack:=by
 rcases I.ok.stk with e | ⟨e,hf⟩
 ·rw [e];exact I.mK
 ·rw [e];obtain ⟨m,hn,_⟩:=I.loc;refine .cons (by rw [I.ok.kind];decide) hf hn ?_ I.mK;exact zBN (zAB I.ok.bsz I.ok.above)
theorem Inv.CQ (I:Inv X pins σ H s):∀b∈frs X.stack,b∈X.env.locals::X.fs:=λb hb=>by
 rcases I.ok.stk with e | ⟨e,hf⟩
 ·rw [e] at hb;exact zAf _ hb
 ·rw [e] at hb;unfold frs at hb;rw [List.filterMap_cons,hf] at hb;exact hb
theorem Inv.sJ (I:Inv X pins σ H s):∀b∈frs X.stack,H b=none:=λb hb=>by
 rcases zBv.mp (I.CQ b hb) with e | hb
 ·rw [e];exact I.free
 ·obtain ⟨_,o,ho,_⟩:=I.ok.mK.mem hb;exact I.base.free b o ho (I.ok.frf b hb) λz=>I.ok.exfs b z hb
theorem Inv.step (I:Inv X pins σ H s)
  (hch:∀b∈ch,(b∈X.ex∨X.s₀.heap.objs.size<=b)/\b≠X.env.locals/\(∀x c,X.env.cells.lookup x=some c->c≠b)/\∀p∈X.pn++pins,p.1≠b)
  (keep:∀b o,b≠X.env.locals->b∉X.fs->b∉ch->s.heap.get? b=some o->H b=none->h'.get? b=some o)
  (slot:∀b o,b≠X.env.locals->b∈X.fs->b∉ch->s.heap.get? b=some o->H b=none->∃sl,h'.get? b=some { o with slots:=sl }) (free:∀b o,b∉ch->s.heap.get? b=some o->H b=none->H' b=none)
  (there:∀b o,b∉ch->s.heap.get? b=some o->∃o',h'.get? b=some o')
  (tups:∀b xs,H b=some (.tup xs)->H' b=some (.tup xs)) (frzs:∀b o u,H b=some (.frz o u)->H' b=some (.frz o u)) (tbls:∀b ps,H b=some (.tbl ps)->∃more,H' b=some (.tbl (ps++more)))
  (ns:∀m,s.heap.Ns X.env.locals m->h'.Ns X.env.locals m) (hok:nD X.prog X.w H' h') (hg:AllBare g') :
  Inv X pins σ H' { s with heap:=h',gens:=g',drawn:=d',toks:=t' }:=by
 have neL:∀b o,X.s₀.heap.get? b=some o->b≠X.env.locals:=λb o e=>zAl (zAu (zAe e) I.ok.above);have neC:∀b o,X.s₀.heap.get? b=some o->b∉X.ex->b∉ch:=λb o e hx hb=>by
  rcases (hch b hb).1 with z | z
  ·exact hx z
  ·exact absurd (zAu (zAe e) z) (zAJ _)
 have cellK:∀x c,X.env.cells.lookup x=some c->∀v,s.heap.IsCell c v->h'.IsCell c v:=λx c e v ⟨o,ho,hd⟩=>by
  have nch:c∉ch:=λz=>(hch c z).2.2.1 x c e rfl;by_cases hc:c∈X.fs
  ·obtain ⟨sl,q⟩:=slot c o (I.Ma x c e) hc nch ho (I.freeC x c e);exact ⟨_,q,hd⟩
  ·exact ⟨o,keep c o (I.Ma x c e) hc nch ho (I.freeC x c e),hd⟩
 refine ⟨I.ok,I.os,hg,⟨λb o e n hb hx=>?_,λb o e n hb hx=>?_,λb o e n hx=>?_,λb o e hx=>?_,λb xs e=>tups b xs (I.base.tups b xs e),λb o xs e=>frzs b o xs (I.base.frzs b o xs e),λb ps e=>?_⟩,?_,λx c e=>?_,?_,λx c e=>?_,λp hp=>?_,hok,I.len⟩
 ·exact keep b o (neL b o e) hb (neC b o e hx) (I.base.keep b o e n hb hx) (I.base.free b o e n hx)
 ·obtain ⟨sl,e1⟩:=I.base.slot b o e n hb hx;obtain ⟨sl',e2⟩:=slot b _ (neL b o e) hb (neC b o e hx) e1 (I.base.free b o e n hx);exact ⟨sl',e2⟩
 ·obtain ⟨o',e1⟩:=I.base.there b o e hx;exact free b o' (neC b o e hx) e1 (I.base.free b o e n hx)
 ·obtain ⟨o',e1⟩:=I.base.there b o e hx;exact there b o' (neC b o e hx) e1
 ·obtain ⟨m1,e1⟩:=I.base.tbls b ps e;obtain ⟨m2,e2⟩:=tbls b _ e1;exact ⟨m1++m2,by rw [e2,Array.append_assoc]⟩
 ·obtain ⟨m,hn,hl⟩:=I.loc;refine ⟨m,ns m hn,λi x v e1 e2 e3=>?_⟩;obtain ⟨u,r,l⟩:=hl i x v e1 e2 e3;refine ⟨u,r,?_⟩;rcases l with l | ⟨k,c,e,z⟩
  ·exact .inl l
  ·exact .inr ⟨k,c,e,cellK x c e _ z⟩
 ·obtain ⟨v,z⟩:=I.cell x c e;exact ⟨v,cellK x c e v z⟩
 ·obtain ⟨m,⟨o,_,_,ho,_⟩,_⟩:=I.loc;exact free _ o (λz=>(hch _ z).2.1 rfl) ho I.free
 ·obtain ⟨v,o,ho,hd⟩:=I.cell x c e;exact free c o (λz=>(hch c z).2.2.1 x c e rfl) ho (I.freeC x c e)
 ·obtain ⟨e,n,ne,nf,d⟩:=I.pin p hp;have nch:p.1∉ch:=λz=>(hch p.1 z).2.2.2 p hp rfl;exact ⟨keep p.1 p.2 ne nf nch e n,free p.1 p.2 nch e n,ne,nf,d⟩
theorem Inv.un (I:Inv X pins σ H s) (u:Un X.fs [] H H' s.heap h') (hok:nD X.prog X.w H' h'):Inv X pins σ H' { s with heap:=h',toks:=t' }:=by
 obtain ⟨m,⟨o,es,ep,ho,r⟩,_⟩:=id I.loc;obtain ⟨sl,hL⟩:=u.any ho I.free (by simp);exact I.step (g':=s.gens) (d':=s.drawn) (ch:=[]) (λ_ z=>nomatch z) (λb o _ hb _ e n=>u.keep b o e n hb (by simp)) (λb o _ hb _ e n=>u.slot b o e n hb (by simp)) (λb o _ e n=>u.free b o e n (by simp)) (λb o _ e=>u.there b o e (by simp)) u.tups u.frzs u.tbls (λm' hm=>by
  obtain ⟨o',es',ep',ho',r'⟩:=hm;rw [ho] at ho';cases ho'
  exact ⟨_,es',ep',hL,r'⟩) hok I.bare
theorem Inv.call (I:Inv X pins σ H s) (u:Un (frs X.stack) ch H H' s.heap h') (hok:nD X.prog X.w H' h') (hg:AllBare g')
  (hch:∀b∈ch,(b∈X.ex∨X.s₀.heap.objs.size<=b)/\b≠X.env.locals/\(∀x c,X.env.cells.lookup x=some c->c≠b)/\∀p∈X.pn++pins,p.1≠b) :
  Inv X pins σ H' { s with heap:=h',gens:=g',drawn:=d',toks:=t' }:=by
 obtain ⟨m,⟨o,es,ep,ho,r⟩,_⟩:=id I.loc;obtain ⟨sl,hL⟩:=u.any ho I.free λz=>(hch _ z).2.1 rfl;exact I.step (ch:=ch) hch (λb o hL hb hc e n=>u.keep b o e n (λz=>(zBv.mp (I.CQ b z)).elim hL hb) hc) (λb o _ _ hc e n=>u.any e n hc) (λb o hc e n=>u.free b o e n hc) (λb o hc e=>u.there b o e hc) u.tups u.frzs u.tbls (λm' hm=>by
  obtain ⟨o',es',ep',ho',r'⟩:=hm;rw [ho] at ho';cases ho'
  exact ⟨_,es',ep',hL,r'⟩) hok hg
theorem Inv.turned (I:Inv X pins σ H s) (k:∀b o,b≠it->s.heap.get? b=some o->h'.get? b=some o) (hn:H it=none) (hL:it≠X.env.locals)
  (h1:it∈X.ex∨X.s₀.heap.objs.size<=it) (h2:∀x c,X.env.cells.lookup x=some c->c≠it) (h3:∀p∈X.pn++pins,p.1≠it):Inv X pins σ H { s with heap:=h',toks:=t' }:=by
 have nit:∀b u,H b=some u->b≠it:=λb u e z=>by rw [z,hn] at e;cases e
 refine I.step (g':=s.gens) (d':=s.drawn) (ch:=[it]) (λb hb=>?_) (λb o _ _ hc e _=>k b o (λz=>hc (by simp [z])) e) (λb o _ _ hc e _=>⟨o.slots,k b o (λz=>hc (by simp [z])) e⟩) (λ_ _ _ _ n=>n)
  (λb o hc e=>⟨o,k b o (λz=>hc (by simp [z])) e⟩) (λ_ _ e=>e) (λ_ _ _ e=>e) (λb ps e=>⟨#[],by rw [e];simp⟩) (λm hm=>?_) (λb u e=>?_) I.bare
 ·have e:b=it:=by simpa using hb
  subst e;exact ⟨h1,hL,h2,h3⟩
 ·obtain ⟨o,es,ep,ho,r⟩:=hm;exact ⟨o,es,ep,k _ o (Ne.symm hL) ho,r⟩
 ·refine (I.hok b u e).stay (λc v hc q=>k c v ?_ q) (λ_ q=>q) λ_ _ q=>q;rcases hc with z | z
  ·rw [z];exact nit b u e
  ·exact nit c _ z
theorem Inv.tok (I:Inv X pins σ H s) (t:Nat):Inv X pins σ H { s with toks:=t }:=I.un (h':=s.heap) (t':=t) Un.refl I.hok
theorem Inv.kept {t':Nat}(I:Inv X pins σ H s) (k:∀b u,s.heap.get? b=some u->h'.get? b=some u):Inv X pins σ H { s with heap:=h',toks:=t' }:=I.un (Un.kept k) (I.hok.kept k)
theorem Inv.laid {a:Addr}{o:HO}{t':Nat}(I:Inv X pins σ H s) (k:∀b u,s.heap.get? b=some u->h'.get? b=some u) (hp:s.heap.objs.size<=a) (new:bw X.prog X.w (upd H a o) h' a o) :
  Inv X pins σ (upd H a o) { s with heap:=h',toks:=t' }:=I.un (Un.laid k hp (I.hok.fresh hp)) (I.hok.laid k hp new)
theorem Inv.write {x e:Addr}{o:HO}{t':Nat}(I:Inv X pins σ H s) (mu:YW (H x)) (he:e=x∨H e=some (.own x)) (k:∀b u,b≠e->s.heap.get? b=some u->h'.get? b=some u) (heo:∃u,h'.get? e=some u)
  (new:bw X.prog X.w (upd H x o) h' x o):Inv X pins σ (upd H x o) { s with heap:=h',toks:=t' }:=I.un (Un.write mu he k heo) (I.hok.write mu he k heo new)
theorem Inv.xr {pins':List (Addr×Obj)}(I:Inv X pins σ H s) (h:∀p∈pins',s.heap.get? p.1=some p.2/\H p.1=none/\p.1≠X.env.locals/\p.1∉X.fs/\∀v,p.2.data≠.cell v):Inv X pins' σ H s:=
 ⟨I.ok,I.os,I.bare,I.base,I.loc,I.cell,I.free,I.freeC,λp hp=>(List.mem_append.mp hp).elim (λz=>I.pin p (zBe _ z)) (h p),I.hok,I.len⟩
theorem uE (hN:N.Nodup) {x:Str}(a:N[i]?=some x) (b:N[j]?=some x):i=j:=by
 obtain ⟨h1,e1⟩:=List.getElem?_eq_some_iff.mp a;obtain ⟨h2,e2⟩:=List.getElem?_eq_some_iff.mp b;exact (List.getElem_inj hN).mp (e1.trans e2.symm)
theorem uZ {A:Around}{x:Str}{Q:Unit->Shared->Prop}(I:Inv X pins σ H s) (hN:X.N.Nodup) (hi:X.N[i]?=some x) (hx:Loc X.env.scope x) (r:RelV v u)
  (h:∀s',Inv X pins (σ.set i (some v)) H s'->(∃a,Heap.SameBut a s.heap s'.heap/\(a=X.env.locals∨X.env.cells.lookup x=some a))->Q () s') (hf:X.fn x=true∨X.env.scope.names.lookup x=some .local:=by first | exact .inl rfl | exact .inr rfl | assumption):wpAny M A (storeName X.env x u) Q E s:=by
 obtain ⟨m,hn,hl⟩:=id I.loc;have hcls:(X.env.scope.kind==.class||(X.env.scope.kind==.module&&X.env.locals != X.env.globals))=false:=by rw [I.ok.kind];rfl
 have hiσ:i < σ.length:=by rw [I.len];exact (List.getElem?_eq_some_iff.mp hi).1
 have Ma:=I.Ma;have tracked:∀{a:Addr}{h':Heap},(∃o,s.heap.get? a=some o/\H a=none)->Heap.SameBut a s.heap h'->nD X.prog X.w H h':=λ{a h'} ha hs b ob e=>by
  obtain ⟨_,_,hfree⟩:=ha;refine (I.hok b ob e).stay (λc w' hc q=>(hs.2 c ?_).trans q) (λ_ q=>q) λ_ _ q=>q;rintro rfl;rcases hc with rfl | hc
  ·rw [hfree] at e;cases e
  ·rw [hfree] at hc;cases hc
 rcases hx with hk | hk
 ·refine wpAny_storeName_local hk hn (λh' hn' hs=>?_) hcls;obtain ⟨oL,_,_,hoL,_⟩:=id hn;refine h _ ⟨I.ok,I.os,I.bare,⟨λb o e n hb hx=>?_,λb o e n hb hx=>?_,I.base.free,λb o e hx=>?_,I.base.tups,I.base.frzs,I.base.tbls⟩,⟨_,hn',λj y v' e1 e2 e3=>?_⟩,λy c e=>?_,I.free,I.freeC,λp hp=>?_,tracked ⟨oL,hoL,I.free⟩ hs,by simpa using I.len⟩ ⟨_,hs,.inl rfl⟩
  ·exact (hs.2 b (zAl (zAu (zAe e) I.ok.above))).trans (I.base.keep b o e n hb hx)
  ·obtain ⟨sl,e1⟩:=I.base.slot b o e n hb hx;exact ⟨sl,(hs.2 b (zAl (zAu (zAe e) I.ok.above))).trans e1⟩
  ·obtain ⟨o',e1⟩:=I.base.there b o e hx;exact ⟨o',(hs.2 b (zAl (zAu (zAe e) I.ok.above))).trans e1⟩
  ·by_cases hj:j=i
   ·subst hj;rw [hi] at e1;cases e1
    rw [zAR hiσ] at e2;cases e2
    exact ⟨u,r,.inl ⟨hk,by simp⟩⟩
   ·rw [zAY (Ne.symm hj)] at e2;obtain ⟨u',r',q⟩:=hl j y v' e1 e2 e3;refine ⟨u',r',?_⟩;rcases q with ⟨k,e⟩ | ⟨k,c,e,z⟩
    ·refine .inl ⟨k,?_⟩;have:y≠x:=λe=>hj (uE hN e1 (e▸hi));simp [this,e]
    ·exact .inr ⟨k,c,e,z.sameBut hs (Ma y c e)⟩
  ·obtain ⟨w',z⟩:=I.cell y c e;exact ⟨w',z.sameBut hs (Ma y c e)⟩
  ·obtain ⟨e,n,ne,nf,d⟩:=I.pin p hp;exact ⟨(hs.2 p.1 ne).trans e,n,ne,nf,d⟩
 ·have hfn:X.fn x=true:=by
   rcases hf with z | z
   ·exact z
   ·rw [z] at hk;cases hk
  obtain ⟨c,hc⟩:=I.ok.has x (.inl hk);obtain ⟨w',z⟩:=I.cell x c hc;refine wpAny_storeName_cell I.ok.kind hk hc z (λh' hc' hs=>?_);obtain ⟨oc,hoc,hocd⟩:=id z;refine h { s with heap:=h' } ⟨I.ok,I.os,I.bare,⟨λb o e n hb hx=>?_,λb o e n hb hx=>?_,I.base.free,λb o e hx=>?_,I.base.tups,I.base.frzs,I.base.tbls⟩,⟨m,hn.sameBut hs (Ne.symm (Ma x c hc)),λj y v' e1 e2 e3=>?_⟩,λy c' e=>?_,I.free,I.freeC,λp hp=>?_,tracked ⟨oc,hoc,I.freeC x c hc⟩ hs,by simpa using I.len⟩ ⟨c,hs,.inr hc⟩
  ·exact (hs.2 b (zAl (zAu (zAe e) (I.ok.cab x c hfn hc)))).trans (I.base.keep b o e n hb hx)
  ·obtain ⟨sl,e1⟩:=I.base.slot b o e n hb hx;exact ⟨sl,(hs.2 b (zAl (zAu (zAe e) (I.ok.cab x c hfn hc)))).trans e1⟩
  ·obtain ⟨o',e1⟩:=I.base.there b o e hx;exact ⟨o',(hs.2 b (zAl (zAu (zAe e) (I.ok.cab x c hfn hc)))).trans e1⟩
  ·by_cases hj:j=i
   ·subst hj;rw [hi] at e1;cases e1
    rw [zAR hiσ] at e2;cases e2
    exact ⟨u,r,.inr ⟨.inl hk,c,hc,hc'⟩⟩
   ·rw [zAY (Ne.symm hj)] at e2;obtain ⟨u',r',q⟩:=hl j y v' e1 e2 e3;refine ⟨u',r',?_⟩;rcases q with q | ⟨k,c',e,z'⟩
    ·exact .inl q
    ·refine .inr ⟨k,c',e,z'.sameBut hs ?_⟩;rintro rfl;exact hj (uE hN e1 (I.ok.inj _ _ _ e hc▸hi))
  ·by_cases hcc:c'=c
   ·subst hcc;exact ⟨_,hc'⟩
   ·obtain ⟨w2,z2⟩:=I.cell y c' e;exact ⟨w2,z2.sameBut hs hcc⟩
  ·obtain ⟨e,n,ne,nf,d⟩:=I.pin p hp;refine ⟨(hs.2 p.1 ?_).trans e,n,ne,nf,d⟩;intro q;rw [q,hoc] at e;have q':oc=p.2:=Option.some.inj e;exact d w' (by rw [<-q'];exact hocd)
theorem sZ {A:Around}{x:Str}{Q:Unit->Shared->Prop}(I:Inv X pins σ H s) (hN:X.N.Nodup) (hi:X.N[i]?=some x) (hx:Loc X.env.scope x) (r:RelV v u)
  (h:∀s',Inv X pins (σ.set i (some v)) H s'->Q () s') (hf:X.fn x=true∨X.env.scope.names.lookup x=some .local:=by first | exact .inl rfl | exact .inr rfl | assumption):wpAny M A (storeName X.env x u) Q E s:=
 uZ I hN hi hx r (λs' I' _=>h s' I') hf
theorem Inv.call' (I:Inv X pins σ H s) (ho:s'.os=s.os) (u:Un (frs X.stack) ch H H' s.heap s'.heap) (hok:nD X.prog X.w H' s'.heap) (hg:AllBare s'.gens)
  (hch:∀b∈ch,(b∈X.ex∨X.s₀.heap.objs.size<=b)/\b≠X.env.locals/\(∀x c,X.env.cells.lookup x=some c->c≠b)/\∀p∈X.pn++pins,p.1≠b):Inv X pins σ H' s':=by
 obtain ⟨h',g',d',t',o'⟩:=s';have e:o'=s.os:=ho;subst e;exact I.call (g':=g') (t':=t') (d':=d') u hok hg hch
end
abbrev XK:=Value->Option Addr->Hp->Prop
abbrev St:=List (Option V)
abbrev VK:=V->Hp->Prop
abbrev TE:=St->Hp->VK->Prop
abbrev TT:=St->Hp->(Bool->Hp->Prop)->Prop
abbrev TA:=St->Hp->(List V->Hp->Prop)->Prop
structure Ends where
 nx:St->Hp->Prop
 rt:VK
 bk:St->Hp->Prop:=λ_ _=>False
 ct:St->Hp->Prop:=λ_ _=>False
abbrev TS:=Ends->St->Hp->Prop
def EP (X:Cx) (pins:List (Addr×Obj)) (σ:St) (Q:VK) (u:Value) (s':Shared):Prop:=∃v H',Inv X pins σ H' s'/\RelV v u/\Q v H'
def TP (X:Cx) (pins:List (Addr×Obj)) (σ:St) (Q:Bool->Hp->Prop) (b:Bool) (s':Shared):Prop:=∃H',Inv X pins σ H' s'/\Q b H'
def AP (X:Cx) (pins:List (Addr×Obj)) (σ:St) (Q:List V->Hp->Prop) (us:List Value) (s':Shared):Prop:=∃vs H',Inv X pins σ H' s'/\Vals vs us/\Q vs H'
def SP (X:Cx) (pins:List (Addr×Obj)) (D:Ends) (f:Flow) (s':Shared):Prop:=
 match f with
 |.next=>∃σ' H',Inv X pins σ' H' s'/\D.nx σ' H'
 |.brk=>∃σ' H',Inv X pins σ' H' s'/\D.bk σ' H'
 |.cont=>∃σ' H',Inv X pins σ' H' s'/\D.ct σ' H'
 |.ret u=>∃v σ' H',Inv X pins σ' H' s'/\RelV v u/\D.rt v H'
def PE (X:Cx) (e:Expr) (t:TE):Prop:=
 ∀(pins:List (Addr×Obj)) (s:Shared) (σ:St) (H:Hp) (Q:VK),Inv X pins σ H s->t σ H Q->wpAny (model X.prog X.w) X.A (eval e X.env) (EP X pins σ Q) X.xe s
def PT (X:Cx) (e:Expr) (t:TT):Prop:=
 ∀(pins:List (Addr×Obj)) (s:Shared) (σ:St) (H:Hp) (Q:Bool->Hp->Prop),Inv X pins σ H s->t σ H Q->wpAny (model X.prog X.w) X.A (isTrue e X.env (eval e X.env)) (TP X pins σ Q) X.xe s
def PW (X:Cx) (e:Expr) (t:TT):Prop:=
 ∀(whole:Sem Value) (pins:List (Addr×Obj)) (s:Shared) (σ:St) (H:Hp) (Q:Bool->Hp->Prop),Inv X pins σ H s->t σ H Q->wpAny (model X.prog X.w) X.A (isTrue e X.env whole) (TP X pins σ Q) X.xe s
theorem PW.pt {t:TT}(h:PW X e t):PT X e t:=h _
def PA (X:Cx) (es:List Expr) (t:TA):Prop:=
 ∀(pos:Pos) (pins:List (Addr×Obj)) (s:Shared) (σ:St) (H:Hp) (Q:List V->Hp->Prop),Inv X pins σ H s->t σ H Q->wpAny (model X.prog X.w) X.A (spliced (backTo pos (starEach es X.env))) (AP X pins σ Q) X.xe s
def PS (X:Cx) (st:Stmt) (t:TS):Prop:=
 ∀(pins:List (Addr×Obj)) (s:Shared) (σ:St) (H:Hp) (D:Ends),Inv X pins σ H s->t D σ H->wpAny (model X.prog X.w) X.A (exec st X.env) (SP X pins D) X.xe s
def rW (X:Cx) (st:List Stmt) (t:TS):Prop:=
 ∀(pins:List (Addr×Obj)) (s:Shared) (σ:St) (H:Hp) (D:Ends),Inv X pins σ H s->t D σ H->wpAny (model X.prog X.w) X.A (execs st X.env) (SP X pins D) X.xe s
theorem cR {α:Type}{t:Sem α}{Q Q':α->Shared->Prop}{A:Around}(h:wpAny M A t Q E s) (hQ:∀a s,Q a s->Q' a s):wpAny M A t Q' E s:=zBK h hQ λ_ _ x=>x
section
def Ld (i:Nat):TE:=λσ H Q=>∃v,σ[i]?=some (some v)/\Q v H
def tC (v:V):TE:=λ_ H Q=>Q v H
theorem La {x:Str}(hN:X.N[i]?=some x) (hv:Zc X.env.scope x) (hd:(x==("__debug__" : Str))=false:=by decide) (hcd:(x==("__classdict__" : Str))=false:=by decide):PE X (.Name x pos) (Ld i):=by
 intro pins s σ H Q I h;obtain ⟨v,e,h⟩:=h;obtain ⟨m,hn,hl⟩:=I.loc;obtain ⟨u,r,l⟩:=hl i x v hN e hv;have fin:EP X pins σ Q u s:=⟨v,H,I,r,h⟩;rcases l with ⟨hk,hm⟩ | ⟨hk,c,hc,hcell⟩
 ·exact wpAny_Name (wpAny_loadName_local I.ok.kind hk hn hm fin) hd
 ·rcases hk with hk | hk
  ·exact wpAny_Name (wpAny_loadName_cell I.ok.kind hk hc hcell fin) hd
  ·exact wpAny_Name (wpAny_loadName_free I.ok.kind hk hc hcell fin hcd) hd
theorem WQ {i j pos}:PE X (.Constant (.int i) j pos) (tC (.int i)):=λ_ _ _ H _ I h=>wpAny_Constant_int ⟨.int i,H,I.tok _,⟨_,rfl⟩,h⟩
theorem ZJ {b j pos}:PE X (.Constant (.bool b) j pos) (tC (.bl b)):=λ_ _ _ H _ I h=>Constant_bool ⟨.bl b,H,I,rfl,h⟩
theorem Wr {j pos}:PE X (.Constant .none j pos) (tC .non):=λ_ _ _ H _ I h=>Constant_none ⟨.non,H,I,rfl,h⟩
theorem S7 {x j pos}:PE X (.Constant (.str x) j pos) (tC (.str x)):=λ_ _ _ H _ I h=>Calls.Constant_str ⟨.str x,H,I.tok _,⟨_,rfl⟩,h⟩
def Gl (X:Cx) (x:Str):Prop:=X.env.kindOf x=some .globalImplicit
theorem lq {x:Str}{Q:zV}(I:Inv X pins σ H s) (hg:Gl X x) (hm:X.mg x=some u) (h:Q u s)
  (hd:(x==("__debug__" : Str))=false:=by decide):wpAny (model X.prog X.w) X.A (eval (.Name x pos) X.env) Q E s:=
 Calls.Name_function_global I.ok.kind hg (Calls.loadGlobal_global (by rw [I.ok.glob];exact I.mod.glob.keeps I.bk) hm h) hd
theorem qD {x:Str}{Q:zV}(I:Inv X pins σ H s) (hg:Gl X x) (hm:X.mg x=none) (hv:bootBuiltins x=some u) (h:Q u s)
  (hn:x ≠ "__name__" := by decide) (hd:(x==("__debug__" : Str))=false:=by decide):wpAny (model X.prog X.w) X.A (eval (.Name x pos) X.env) Q E s:=by
 obtain ⟨mb,h1,h2⟩:=I.mod.blt;exact Calls.Name_function_global I.ok.kind hg (Calls.loadGlobal_builtin (by rw [I.ok.glob];exact I.mod.glob.keeps I.bk) hm (by rw [I.ok.blt];exact h1.keeps I.bk) ((h2 x hn).trans hv) h) hd
theorem rN {x:Str}(hg:Gl X x) (hm:X.mg x=some u) (r:RelV v u) (hd:(x==("__debug__" : Str))=false:=by decide):PE X (.Name x pos) (tC v):=
 λ_ _ _ H _ I h=>lq I hg hm ⟨v,H,I,r,h⟩ hd
theorem Fx {x:Str}(hg:Gl X x) (hm:X.mg x=none) (hv:bootBuiltins x=some u) (r:RelV v u) (hn:x ≠ "__name__" := by decide) (hd:(x==("__debug__" : Str))=false:=by decide):PE X (.Name x pos) (tC v):=
 λ_ _ _ H _ I h=>qD I hg hm hv ⟨v,H,I,r,h⟩ hn hd
variable {a b:Expr}{tb:TE}
variable {tA tB':TT}{rest:List Expr}
def abI (t u:TT):TT:=λσ H Q=>t σ H λc H1=>if c=true then u σ H1 Q else Q false H1
def tOr (t u:TT):TT:=λσ H Q=>t σ H λc H1=>if c=true then Q true H1 else u σ H1 Q
def abr (t:TT):TT:=λσ H Q=>t σ H λc H1=>Q (!c) H1
theorem NQ (ha:PT X a tA):PW X (.BoolOp .And [a] pos) tA:=by
 intro wh pins s σ H Q I h;refine isTrue_and (cR (ha pins s σ H Q I h) λc s1 e=>?_);cases c with
 |true=>exact isTrue_and_nil e
 |false=>exact e
theorem Vp (ha:PT X a tA):PW X (.BoolOp .Or [a] pos) tA:=by
 intro wh pins s σ H Q I h;refine isTrue_or (cR (ha pins s σ H Q I h) λc s1 e=>?_);cases c with
 |false=>exact isTrue_or_nil e
 |true=>exact e
theorem Xf (ha:PT X a tA) (hb:PW X (.BoolOp .And (b::rest) pos) tB'):PW X (.BoolOp .And (a::b::rest) pos) (abI tA tB'):=by
 intro wh pins s σ H Q I h;refine isTrue_and (cR (ha pins s σ H _ I h) λc s1 ⟨H1,I1,q1⟩=>?_);cases c with
 |true=>exact hb wh pins s1 σ H1 Q I1 q1
 |false=>exact ⟨H1,I1,q1⟩
theorem ZD (ha:PT X a tA) (hb:PW X (.BoolOp .Or (b::rest) pos) tB'):PW X (.BoolOp .Or (a::b::rest) pos) (tOr tA tB'):=by
 intro wh pins s σ H Q I h;refine isTrue_or (cR (ha pins s σ H _ I h) λc s1 ⟨H1,I1,q1⟩=>?_);cases c with
 |true=>exact ⟨H1,I1,q1⟩
 |false=>exact hb wh pins s1 σ H1 Q I1 q1
theorem UL (ha:PT X a tA):PT X (.UnaryOp .Not a pos) (abr tA):=by
 intro pins s σ H Q I h;exact isTrue_not (ha pins s σ H (λc H1=>Q (!c) H1) I h)
theorem U5 {op} {t:TE}(h:PE X a t):PE X (.BoolOp op [a] pos) t:=λpins s σ H Q I hw=>BoolOp_one (h pins s σ H Q I hw)
end
def cB (K:zF) (H:Hp) (a:Addr) (xs:List V):Prop:=
 Rd H a (.lst xs) ∨
  ∃(o:Obj) (its:Array Value) (n:Nat),K.lookup a=some o/\o.cls=.type "list" /\ o.dict=none/\o.data=.seq its n/\its.size<=sizeLine/\Vals xs its.toList
def iG (K:zF) (H:Hp) (a:Addr) (xs:List V):Prop:=
 Rd H a (.tup xs) ∨
  ∃(o:Obj) (its:Array Value) (n:Nat),K.lookup a=some o/\o.cls=.type "tuple" /\ o.data=.seq its n/\its.size<=sizeLine/\Vals xs its.toList
def aaO:Value->Option V
 |.none=>some .non
 |.bool b=>some (.bl b)
 |.int i _=>some (.int i)
 |.str x _=>some (.str x)
 |.bytes b _=>some (.byt b)
 |.float b _=>some (.flt b)
 |.ref a=>some (.ref a)
 |.type n=>some (.ty n)
 |_=>none
theorem RelV.abs {x:V}(r:RelV x u):aaO u=some x:=by
 cases x with
 |non=>cases r;rfl
 |bl _=>cases r;rfl
 |int _=>obtain ⟨t,rfl⟩:=r;rfl
 |str _=>obtain ⟨t,rfl⟩:=r;rfl
 |byt _=>obtain ⟨t,rfl⟩:=r;rfl
 |flt _=>obtain ⟨t,rfl⟩:=r;rfl
 |ref _=>cases r;rfl
 |ty _=>cases r;rfl
theorem RelV.inj {x y:V}{u:Value}(r:RelV x u) (q:RelV y u):x=y:=Option.some.inj (r.abs.symm.trans q.abs)
theorem Vals.inj:∀{xs ys:List V}{us:List Value},Vals xs us->Vals ys us->xs=ys
 |_,_,_,.nil,.nil=>rfl
 |_,_,_,.cons r t,.cons r' t'=>by rw [r.inj r',Vals.inj t t']
section
variable {ys:List V}
theorem cB.of (h:H a=some (.lst xs)):cB K H a xs:=.inl (.inl h)
theorem iG.of (h:H a=some (.tup xs)):iG K H a xs:=.inl (.inl h)
theorem Inv.list (I:Inv X pins σ H s) (h:cB X.K H a xs):∃its:List Value,Vals xs its/\PlainL s.heap a its.toArray/\xs.length<=sizeLine:=by
 rcases h with h | ⟨o,its,n,hk,hc,hd,hs,hz,r⟩
 ·obtain ⟨z,its,n,r,e⟩:=h.ok I.hok;exact ⟨its,r,⟨_,n,e,rfl,rfl,rfl⟩,z⟩
 ·refine ⟨its.toList,r,⟨o,n,I.jo a o hk,hc,hd,by simpa using hs⟩,?_⟩;have e:=r.length;simp only [zAH] at e;omega
theorem Inv.tuple (I:Inv X pins σ H s) (h:iG X.K H a xs):∃its:List Value,Vals xs its/\IsTup s.heap a its.toArray/\xs.length<=sizeLine:=by
 rcases h with h | ⟨o,its,n,hk,hc,hs,hz,r⟩
 ·obtain ⟨z,its,r,p⟩:=h.ok I.hok;exact ⟨its,r,p,z⟩
 ·refine ⟨its.toList,r,⟨o,I.jo a o hk,hc,n,by simpa using hs⟩,?_⟩;have e:=r.length;simp only [zAH] at e;omega
theorem Inv.mC (I:Inv X pins σ H s) (h:cB X.K H a xs) (h':cB X.K H a ys):xs=ys:=by
 obtain ⟨its,r,⟨o,n,e,_,_,d⟩,_⟩:=I.list h;obtain ⟨its',r',⟨o',n',e',_,_,d'⟩,_⟩:=I.list h';rw [e] at e';cases e'
 rw [d] at d';injection d' with d1 _
 have:its=its':=by simpa using congrArg Array.toList d1
 subst this;exact r.inj r'
theorem Inv.qy (I:Inv X pins σ H s) (h:iG X.K H a xs) (h':iG X.K H a ys):xs=ys:=by
 obtain ⟨its,r,⟨o,e,_,n,d⟩,_⟩:=I.tuple h;obtain ⟨its',r',⟨o',e',_,n',d'⟩,_⟩:=I.tuple h';rw [e] at e';cases e'
 rw [d] at d';injection d' with d1 _
 have:its=its':=by simpa using congrArg Array.toList d1
 subst this;exact r.inj r'
end
abbrev Cx.wish (X:Cx) (E:zV):Cx:={ X with xe:=E }
abbrev Cx.yE (X:Cx):Cx:=X.wish λ_ _=>False
theorem Cx.Ok.wish {X:Cx}(ok:X.Ok) (E:zV):(X.wish E).Ok:=
 ⟨ok.mod,ok.kind,ok.glob,ok.blt,ok.above,ok.inj,ok.has,ok.cab,ok.hd,ok.frames,ok.stk,ok.exf,ok.bs,ok.bsz,ok.noex,ok.exfs,ok.mK,ok.frf,ok.hc⟩
theorem Cx.Ok.lX (ok:(X.wish E).Ok):X.Ok:=
 ⟨ok.mod,ok.kind,ok.glob,ok.blt,ok.above,ok.inj,ok.has,ok.cab,ok.hd,ok.frames,ok.stk,ok.exf,ok.bs,ok.bsz,ok.noex,ok.exfs,ok.mK,ok.frf,ok.hc⟩
theorem Inv.wish (I:Inv X pins σ H s) (E:zV):Inv (X.wish E) pins σ H s:=⟨I.ok.wish E,I.os,I.bare,I.base,I.loc,I.cell,I.free,I.freeC,I.pin,I.hok,I.len⟩
theorem Inv.lX (I:Inv (X.wish E) pins σ H s):Inv X pins σ H s:=⟨I.ok.lX,I.os,I.bare,I.base,I.loc,I.cell,I.free,I.freeC,I.pin,I.hok,I.len⟩
theorem SP.lX {D:Ends}{f:Flow}{s':Shared}(h:SP (X.wish E) pins D f s'):SP X pins D f s':=by
 cases f with
 |next=>obtain ⟨σ',H',I,q⟩:=h;exact ⟨σ',H',I.lX,q⟩
 |brk=>obtain ⟨σ',H',I,q⟩:=h;exact ⟨σ',H',I.lX,q⟩
 |cont=>obtain ⟨σ',H',I,q⟩:=h;exact ⟨σ',H',I.lX,q⟩
 |ret u=>obtain ⟨v,σ',H',I,r,q⟩:=h;exact ⟨v,σ',H',I.lX,r,q⟩
theorem rW.yE {st:List Stmt}{t:TS}(h:rW X.yE st t):rW X st t:=λpins s σ H D I hw=>
 zBK (h pins s σ H D (I.wish _) hw) (λ_ _ q=>q.lX) λ_ _ z=>False.elim z
section
variable {st:Stmt}{rest:List Stmt}{t u:TS}
def YB:TS:=λD σ H=>D.nx σ H
def Wi (t u:TS):TS:=λD σ H=>t { D with nx:=u D } σ H
theorem Qy:rW X [] YB:=λ_ _ σ H _ I h=>zBU ⟨σ,H,I,h⟩
theorem KH (h1:PS X st t) (h2:rW X rest u):rW X (st::rest) (Wi t u):=by
 intro pins s σ H D I h;refine wpAny_execs_cons (cR (h1 pins s σ H { D with nx:=u D } I h) λf s1 q=>?_);cases f with
 |next=>
  obtain ⟨σ',H',I',q⟩:=q;exact h2 pins s1 σ' H' D I' q
 |ret v=>exact q
 |brk=>exact q
 |cont=>exact q
theorem Fp (h1:PS X st t):rW X [st] t:=by
 intro pins s σ H D I h;refine wpAny_execs_cons (cR (h1 pins s σ H D I h) λf s1 q=>?_);cases f with
 |next=>exact zBU q
 |ret v=>exact q
 |brk=>exact q
 |cont=>exact q
theorem Inv.quiet (I:Inv X pins σ H s):interactive X.env=false:=by simp [interactive,I.ok.kind]
def ZQ (te:TE):TS:=λD σ H=>te σ H λ_ H1=>D.nx σ H1
theorem Pj (he:PE X e te) (hs:swapsWith e none pos.line X.env=pure false:=by rfl):PS X (.Expr e pos) (ZQ te):=by
 intro pins s σ H D I h;exact wpAny_Expr_any (cR (he pins s σ H _ I h) λv s1 ⟨x,H1,I1,r1,q1⟩=>⟨σ,H1,I1,q1⟩) I.quiet hs
def abw (te:TE):TS:=λD σ H=>te σ H D.rt
theorem Vo (he:PE X e te):PS X (.Return (some e) pos) (abw te):=by
 intro pins s σ H D I h;exact wpAny_Return_some (cR (he pins s σ H _ I h) λv s1 ⟨x,H1,I1,r1,q1⟩=>⟨x,σ,H1,I1,r1,q1⟩)
def aaU (c:TT) (t u:TS):TS:=λD σ H=>c σ H λb H1=>if b=true then t D σ H1 else u D σ H1
theorem ZR {a b:List Stmt}(hc:PT X c tc) (ha:rW X a t) (hb:rW X b u):PS X (.If c a b pos) (aaU tc t u):=by
 intro pins s σ H D I h;refine wpAny_If (cR (hc pins s σ H _ I h) λd s1 ⟨H1,I1,q1⟩=>?_);cases d with
 |true=>exact ha pins s1 σ H1 D I1 q1
 |false=>exact hb pins s1 σ H1 D I1 q1
end
abbrev TG:=V->St->Hp->(St->Hp->Prop)->Prop
abbrev PL:=List V->St->Hp->(St->Hp->Prop)->Prop
def PG (X:Cx) (target:Expr) (t:TG):Prop:=
 ∀(pins:List (Addr×Obj)) (s:Shared) (σ:St) (H:Hp) (v:V) (u:Value) (Q:St->Hp->Prop),Inv X pins σ H s->RelV v u->t v σ H Q ->
  wpAny (model X.prog X.w) X.A (assign target X.env u) (λ_ s'=>∃σ' H',Inv X pins σ' H' s'/\Q σ' H') X.xe s
def Td (X:Cx) (ts:List Expr) (t:PL):Prop:=
 ∀(pins:List (Addr×Obj)) (s:Shared) (σ:St) (H:Hp) (vs:List V) (us:List Value) (Q:St->Hp->Prop),Inv X pins σ H s->Vals vs us->t vs σ H Q ->
  wpAny (model X.prog X.w) X.A (assignInOrder ((assignEach ts X.env).map (·.2)) us) (λ_ s'=>∃σ' H',Inv X pins σ' H' s'/\Q σ' H') X.xe s
abbrev FW:=V->V->V->Hp->(Hp->Prop)->Prop
def LR (X:Cx) (t:FW):Prop:=
 ∀(pins:List (Addr×Obj)) (s:Shared) (σ:St) (H:Hp) (o i v:V) (ov iv u:Value) (Q:Hp->Prop),Inv X pins σ H s->RelV o ov->RelV i iv->RelV v u->t o i v H Q ->
  wpAny (model X.prog X.w) X.A (setItem ov iv u) (λ_ s'=>∃H',Inv X pins σ H' s'/\Q H') X.xe s
def EY (i:Nat):TG:=λv σ H Q=>Q (σ.set i (some v)) H
theorem Ra {x:Str}(hN:X.N.Nodup) (hi:X.N[i]?=some x) (hx:Loc X.env.scope x) (hf:X.fn x=true∨X.env.scope.names.lookup x=some .local:=by first | exact .inl rfl | exact .inr rfl | assumption):PG X (.Name x pos) (EY i):=by
 intro pins s σ H v u Q I r h;exact wpAny_assign_Name (sZ I hN hi hx r (λs' I'=>⟨_,H,I',h⟩) hf)
def aav:PL:=λvs σ H Q=>vs=[]/\Q σ H
def Z5 (t:TG) (u:PL):PL:=λvs σ H Q=>∃v r,vs=v::r/\t v σ H λσ' H'=>u r σ' H' Q
theorem Qo:Td X [] aav:=by
 intro pins s σ H vs us Q I r h;obtain ⟨e,h⟩:=h;subst e;cases r
 exact assignInOrder_nil ⟨σ,H,I,h⟩
theorem Jd {t:TG}{u:PL}(h1:PG X e t) (h2:Td X es u)
  (hs:(assignEach (e::es) X.env).map (·.2)=assign e X.env::(assignEach es X.env).map (·.2):=by rfl):Td X (e::es) (Z5 t u):=by
 intro pins s σ H vs us Q I r h;obtain ⟨v,vr,e1,h⟩:=h;subst e1;cases r with
 |cons r rr=>
  rw [hs];refine assignInOrder_cons (cR (h1 pins s σ H _ _ _ I r h) λ_ s1 ⟨σ1,H1,I1,q1⟩=>?_);exact h2 pins s1 σ1 H1 _ _ Q I1 rr q1
def abG (K:zF) (n:Nat) (t:PL):TG:=λv σ H Q=>∃a xs,v=.ref a/\iG K H a xs/\xs.length=n/\t xs σ H Q
theorem VN {k:Nat}{t:PL}{n:Nat}(hc:X.calm=true) (h:Td X es t)
  (hn:(assignEach es X.env).length=n:=by rfl) (hst:(assignEach es X.env).findIdx? (·.1)=none:=by rfl):PG X (.Tuple es k pos) (abG X.K n t):=by
 intro pins s σ H v u Q I r hw;obtain ⟨a,xs,e1,hq,hl,hw⟩:=hw;subst e1;cases r
 obtain ⟨its,rv,ht,hz⟩:=I.tuple hq;refine XH.assign_Tuple_tuple (I.Dz hc) ht (by simp [hn,<-hl,rv.length]) hst λh' hx=>?_;have I1:Inv X pins σ H { s with heap:=h' }:=I.kept (t':=s.toks) λb o e=>hx b o (zAl (zAe e)) e;exact h pins _ σ H xs _ Q I1 (by simpa using rv) hw
def aaW (to ti:TE) (t:FW):TG:=λv σ H Q=>to σ H λo H1=>ti σ H1 λi H2=>t o i v H2 λH3=>Q σ H3
theorem Vq {o i:Expr}{to ti:TE}{t:FW}(ho:PE X o to) (hi:PE X i ti) (hs:LR X t)
  (ha:∀v,assign (.Subscript o i pos) X.env v=(do
   let ov <-holding [v] (eval o X.env)
   let iv <-holding [v,ov] (eval i X.env)
   standAt pos
   holding [v,ov,iv] (setItem ov iv v)
   release [v,ov,iv] []):=by intro _;rfl):PG X (.Subscript o i pos) (aaW to ti t):=by
 intro pins s σ H v u Q I r h;rw [ha];refine zAa (zAN (cR (ho pins s σ H _ I h) λov s1 ⟨x,H1,I1,r1,q1⟩=>?_));refine zAa (zAN (cR (hi pins s1 σ H1 _ I1 q1) λiv s2 ⟨y,H2,I2,r2,q2⟩=>?_));refine zAa (zBB (zAa (zAN (cR (hs pins s2 σ H2 x y v ov iv u _ I2 r1 r2 r q2) λ_ s3 ⟨H3,I3,q3⟩=>?_))));exact wpAny_release ⟨σ,H3,I3,q3⟩
def Oq (te:TE) (g:TG):TS:=λD σ H=>te σ H λx H1=>g x σ H1 D.nx
theorem JM {g:TG}(he:PE X e te) (hg:PG X tg g) (hs:swapsWithSole [tg] e pos.line X.env=pure false:=by rfl) (hw:swappedStores [tg] e X.env=pure none:=by rfl)
  (h1:(assignEach [tg] X.env).map (·.2)=[assign tg X.env]:=by rfl):PS X (.Assign [tg] e pos) (Oq te g):=by
 intro pins s σ H D I h;refine wpAny_Assign_stores (cR (he pins s σ H _ I h) λv s1 ⟨x,H1,I1,r1,q1⟩=>?_) hs hw;rw [h1];exact cR (hg pins s1 σ H1 x v _ I1 r1 q1) λ_ s2 q=>q
theorem V3 {x:Str}(hN:X.N.Nodup) (hi:X.N[i]?=some x) (hx:Loc X.env.scope x) (he:PE X e te) (hs:swapsWith e (some (.Name x pos')) pos.line X.env=pure false:=by rfl) (hf:X.fn x=true∨X.env.scope.names.lookup x=some .local:=by first | exact .inl rfl | exact .inr rfl | assumption) :
  PS X (.Assign [.Name x pos'] e pos) (Oq te (EY i)):=by
 intro pins s σ H D I h;refine wpAny_Assign_Name (cR (he pins s σ H _ I h) λv s1 ⟨y,H1,I1,r1,q1⟩=>?_) hs;exact sZ I1 hN hi hx r1 (λs2 I2=>⟨_,H1,I2,q1⟩) hf
def Vr (c:TT) (tb:TS):TS:=λD σ H=>∃W:Nat->St->Hp->Prop,(∃m,W m σ H)/\∀m σ H,W m σ H ->
 c σ H λb H1=>if b=true then ∃N:St->Hp->Prop,(∀σ' H',N σ' H'->∃m',m' < m/\W m' σ' H')/\tb { D with nx:=N,ct:=N,bk:=D.nx } σ H1 else D.nx σ H1
theorem Jv (hp:PassesOwn (model X.prog X.w) X.A X.env X.xe) (hc:PT X c tc) (hb:rW X body tb):PS X (.While c body [] pos) (Vr tc tb):=by
 intro pins s σ H D I h;obtain ⟨W,⟨m0,w0⟩,turn⟩:=h;refine wpAny_While (codeAny_whileLoop (λn s'=>∃σ' H',Inv X pins σ' H' s'/\W n σ' H') ?_ m0 ⟨σ,H,I,w0⟩);rintro n s1 ⟨σ1,H1,I1,w1⟩;refine zBH hp (cR (hc pins s1 σ1 H1 _ I1 (turn n σ1 H1 w1)) λb s2 ⟨H2,I2,q2⟩=>?_);cases b with
 |true=>
  obtain ⟨N,hN,q2⟩:=q2;rw [if_pos rfl];refine zBH hp (cR (hb pins s2 σ1 H2 _ I2 q2) λf s3 q3=>?_);cases f with
  |next=>
   obtain ⟨σ3,H3,I3,n3⟩:=q3;obtain ⟨m',hm,w3⟩:=hN σ3 H3 n3;exact ⟨m',hm,σ3,H3,I3,w3⟩
  |cont=>
   obtain ⟨σ3,H3,I3,n3⟩:=q3;obtain ⟨m',hm,w3⟩:=hN σ3 H3 n3;exact ⟨m',hm,σ3,H3,I3,w3⟩
  |brk=>exact q3
  |ret v=>exact q3
 |false=>
  rw [if_neg zAs];exact zBU ⟨σ1,H2,I2,q2⟩
structure It where
 go:Nat->Hp->Prop
 yld:Nat->Hp->V->Hp->Prop
 stop:Nat->Hp->Prop
def lu (X:Cx) (pins:List (Addr×Obj)) (H:Hp) (b:Addr):Prop:=
 H b=none/\b≠X.env.locals/\b∉X.fs/\(b∈X.ex∨X.s₀.heap.objs.size<=b)/\(∀x c,X.env.cells.lookup x=some c->c≠b)/\∀p∈X.pn++pins,p.1≠b
theorem Inv.QJ (I:Inv X pins σ H s) (hb:s.heap.objs.size<=b) (hn:H' b=none):lu X pins H' b:=by
 refine ⟨hn,zBu (zAu I.lt hb),I.abP hb,.inr (zAB I.sz hb),λx c e z=>?_,λp hp z=>?_⟩
 ·obtain ⟨v,q⟩:=I.cell x c e;exact absurd (zAu q.lt (by rw [z];exact hb)) (zAJ _)
 ·exact absurd (zAu (zAe (I.pin p hp).1) (by rw [z];exact hb)) (zAJ _)
structure Turn (P:Program) (w:World) (K:zF) (tg:Expr) (J:It) (fp:List Addr) (it:Addr) (tn:Nat->Heap->Prop):Prop where
 mem:it∈fp
 obj:∀i h,tn i h->∀b∈fp,∃o,h.get? b=some o/\∀v,o.data≠.cell v
 keep:∀i h h',tn i h->(∀b∈fp,∀o,h.get? b=some o->h'.get? b=some o)->tn i h'
 item:∀(X:Cx),X.prog=P->X.w=w->X.K=K->X.calm=true->∀(i:Nat) (pins:List (Addr×Obj)) (s:Shared) (σ:St) (H:Hp) (E:zV),Inv X pins σ H s->(∀b∈fp,lu X pins H b)->tn i s.heap->J.go i H ->
  wpAny (model P w) X.A (pyNext (.ref it)) (λr s1=>∃u,r=some u /\
   wpAny (model P w) X.A (letOwnedTupleGo tg (.ref it) u) (λ_ s2=>∃x H',Inv X pins σ H' s2/\RelV x u/\J.yld i H x H'/\tn (i+1) s2.heap/\∀b∈fp,H' b=none) E s1) E s
 done:∀(X:Cx),X.prog=P->X.w=w->X.K=K->X.calm=true->∀(i:Nat) (pins:List (Addr×Obj)) (s:Shared) (σ:St) (H:Hp) (E:zV),Inv X pins σ H s->(∀b∈fp,lu X pins H b)->tn i s.heap->J.stop i H ->
  wpAny (model P w) X.A (pyNext (.ref it)) (λr s1=>r=none/\Inv X pins σ H s1) E s
 self:∀(A:Around) (i:Nat) (s:Shared) (Q:zV) (E:zV),tn i s.heap->Q (.ref it) s->wpAny (model P w) A (pyIter (.ref it)) Q E s
abbrev TI:=St->Hp->(It->Hp->Prop)->Prop
def PIE (X:Cx) (pins:List (Addr×Obj)) (σ:St) (tg:Expr) (R:It->Hp->Prop) (itv:Value) (s2:Shared):Prop:=
 ∃(it:Addr) (fp:List Addr) (tn:Nat->Heap->Prop) (J:It) (H':Hp),itv=.ref it/\Inv X pins σ H' s2/\Turn X.prog X.w X.K tg J fp it tn/\tn 0 s2.heap/\(∀b∈fp,lu X pins H' b)/\R J H'
def PI (X:Cx) (tg iter:Expr) (wi:TI):Prop:=
 ∀(pins:List (Addr×Obj)) (s:Shared) (σ:St) (H:Hp) (R:It->Hp->Prop),Inv X pins σ H s->wi σ H R ->
  wpAny (model X.prog X.w) X.A (eval iter X.env) (λv s1=>wpAny (model X.prog X.w) X.A (pyIter v) (PIE X pins σ tg R) X.xe s1) X.xe s
theorem Ec {A : Around} {o : Obj} {n : String} {vs : Array Value} {Q : Unit → Shared → Prop} (ho : s.heap.get? it = some o) (hc : o.cls = .type n) (hd : o.data = .fields vs)
    (hn : ["enumerate", "zip", "dict_itemiterator", "dict_reverseitemiterator", "odict_iterator", "itertools.zip_longest", "itertools.pairwise"].contains n = false) (hQ : Q () s) : wpAny M A (letOwnedTupleGo tg (.ref it) u) Q E s := by
  unfold letOwnedTupleGo;cases tg <;> first
    | exact zAd hQ
    | (cases u <;> first
        | exact zAd hQ
        | (refine zAa (wpAny_load ho ?_)
           rw [hc, hd];show wpAny M A (if (["enumerate", "zip", "dict_itemiterator", "dict_reverseitemiterator", "odict_iterator", "itertools.zip_longest", "itertools.pairwise"].contains n && vs[0]? == some (rawInt _)) = true then _ else _) Q E s;rw [if_neg (by intro h; rw [hn, Bool.false_and] at h; cases h)];exact zAd hQ))
def Itl (K:zF) (a:Addr):It:=
 ⟨λi H=>∃xs x,cB K H a xs/\xs[i]?=some x,λi H x H'=>H'=H/\∀xs,cB K H a xs->xs[i]?=some x,λi H=>∃xs,cB K H a xs/\xs.length<=i⟩
def Itt (K:zF) (a:Addr):It:=
 ⟨λi H=>∃xs x,iG K H a xs/\xs[i]?=some x,λi H x H'=>H'=H/\∀xs,iG K H a xs->xs[i]?=some x,λi H=>∃xs,iG K H a xs/\xs.length<=i⟩
def Itr (lo:Int) (n:Nat):It:=⟨λi _=>i < n,λi H x H'=>H'=H/\x=.int (lo+i),λi _=>n<=i⟩
theorem Gw (a it:Addr):Turn P w K tg (Itl K a) [it] it (λi h=>h.IsListIter it a i) where
 mem:=by simp
 obj:=λi h st b hb=>by
  have e:b=it:=by simpa using hb
  subst e;obtain ⟨o,e,c,d⟩:=st;exact ⟨o,e,λv z=>by rw [d] at z;cases z⟩
 keep:=λi h h' st k=>st.at λo e=>k it (by simp) o e
 item:=by
  intro X hP hw hK hc i pins s σ H E I hf st hg;subst hP hw hK;obtain ⟨xs,x,hq,hx⟩:=hg;obtain ⟨its,rv,p,hz⟩:=I.list hq;obtain ⟨u,hu,ru⟩:=rv.get hx;obtain ⟨f0,f1,f2,f3,f4,f5⟩:=hf it (by simp);refine wpAny_pyNext_list_item st p.isList (x:=u) (by simpa using hu) λh' st' sb=>?_;have I1:Inv X pins σ H { s with heap:=h' }:=I.turned (t':=s.toks) (λb o hb e=>(sb.2 b hb).trans e) f0 f1 f3 f4 f5;obtain ⟨o,e,c,d⟩:=id st';exact ⟨u,rfl,Ec (s:={ s with heap:=h' }) e c d (by decide) ⟨x,H,I1,ru,⟨rfl,λys hy=>by rw [I.mC hy hq];exact hx⟩,st',λb hb=>(hf b hb).1⟩⟩
 done:=by
  intro X hP hw hK hc i pins s σ H E I hf st hg;subst hP hw hK;obtain ⟨xs,hq,hx⟩:=hg;obtain ⟨its,rv,p,hz⟩:=I.list hq;obtain ⟨f0,f1,f2,f3,f4,f5⟩:=hf it (by simp);have hl:=rv.length;exact XH.zU (I.vI hc f0) st p.isList (by simp;omega) λh' eb=>⟨rfl,I.turned (t':=s.toks) (λb o hb e=>eb b o hb e) f0 f1 f3 f4 f5⟩
 self:=λ_ _ _ _ _ st h=>wpAny_pyIter_listiter st h
theorem BR (a it:Addr):Turn P w K tg (Itt K a) [it] it (λi h=>h.IsTupleIter it a i) where
 mem:=by simp
 obj:=λi h st b hb=>by
  have e:b=it:=by simpa using hb
  subst e;obtain ⟨o,e,c,d⟩:=st;exact ⟨o,e,λv z=>by rw [d] at z;cases z⟩
 keep:=λi h h' st k=>st.at λo e=>k it (by simp) o e
 item:=by
  intro X hP hw hK hc i pins s σ H E I hf st hg;subst hP hw hK;obtain ⟨xs,x,hq,hx⟩:=hg;obtain ⟨its,rv,p,hz⟩:=I.tuple hq;obtain ⟨u,hu,ru⟩:=rv.get hx;obtain ⟨f0,f1,f2,f3,f4,f5⟩:=hf it (by simp);refine wpAny_pyNext_tuple_item st (show s.heap.IsTuple a its.toArray from p) (x:=u) (by simpa using hu) λh' st' sb=>?_;have I1:Inv X pins σ H { s with heap:=h' }:=I.turned (t':=s.toks) (λb o hb e=>(sb.2 b hb).trans e) f0 f1 f3 f4 f5;obtain ⟨o,e,c,d⟩:=id st';exact ⟨u,rfl,Ec (s:={ s with heap:=h' }) e c d (by decide) ⟨x,H,I1,ru,⟨rfl,λys hy=>by rw [I.qy hy hq];exact hx⟩,st',λb hb=>(hf b hb).1⟩⟩
 done:=by
  intro X hP hw hK hc i pins s σ H E I hf st hg;subst hP hw hK;obtain ⟨xs,hq,hx⟩:=hg;obtain ⟨its,rv,p,hz⟩:=I.tuple hq;obtain ⟨f0,f1,f2,f3,f4,f5⟩:=hf it (by simp);have hl:=rv.length;exact XH.vp (I.vI hc f0) st (show s.heap.IsTuple a its.toArray from p) (by simp;omega) λh' eb=>⟨rfl,I.turned (t':=s.toks) (λb o hb e=>eb b o hb e) f0 f1 f3 f4 f5⟩
 self:=λ_ _ _ _ _ st h=>wpAny_pyIter_tupleiter st h
theorem CW (it:Addr) (lo:Int) (n:Nat):Turn P w K tg (Itr lo n) [it] it (λi h=>IsRangeIter h it (lo+(i:Nat) * 1) ((n:Int)-(i:Nat)) 1) where
 mem:=by simp
 obj:=λi h st b hb=>by
  have e:b=it:=by simpa using hb
  subst e;exact ⟨_,st,λv z=>by
   have z':Data.fields _=Data.cell v:=z;cases z'⟩
 keep:=λi h h' st k=>k it (by simp) _ st
 item:=by
  intro X hP hw hK hc i pins s σ H E I hf st hg;subst hP hw hK;obtain ⟨f0,f1,f2,f3,f4,f5⟩:=hf it (by simp);have st0:=st;refine wpAny_pyNext_range_item st0 (by have:i < n:=hg;omega) λh' hit' hs'=>?_;have e1:lo+((i+1:Nat):Int) * 1=lo+(i:Int) * 1+1:=by push_cast;omega
  have e2:(n:Int)-((i+1:Nat):Int)=(n:Int)-(i:Int)-1:=by push_cast;omega
  have st':IsRangeIter h' it (lo+((i+1:Nat):Int) * 1) ((n:Int)-((i+1:Nat):Int)) 1:=by rw [e1,e2];exact hit'
  have kk:∀b o,b∉[it]->s.heap.get? b=some o->h'.get? b=some o:=λb o hb e=>hs'.extBut b o (λh=>hb (by simp [h])) e;generalize s.toks=t,s.toks+1=tk;have I1:Inv X pins σ H { s with heap:=h',toks:=tk }:=I.turned (λb o hb e=>kk b o (by simpa using hb) e) f0 f1 f3 f4 f5;refine ⟨_,rfl,Ec (s:={ s with heap:=h',toks:=tk }) (n := "range_iterator") st' rfl rfl (by decide) ⟨.int (lo+i),H,I1,⟨t,?_⟩,⟨rfl,rfl⟩,st',λb hb=>(hf b hb).1⟩⟩;rw [Int.mul_one]
 done:=by
  intro X hP hw hK hc i pins s σ H E I hf st hg;subst hP hw hK;obtain ⟨f0,f1,f2,f3,f4,f5⟩:=hf it (by simp);exact XH.Hx (I.Dz hc) st (by have:n<=i:=hg;omega) λh' eb=>⟨rfl,I.turned (t':=s.toks) (λb o hb e=>eb b o hb e) f0 f1 f3 f4 f5⟩
 self:=λ_ _ _ _ _ st h=>wpAny_pyIter_rangeiter st h
theorem Mi {R:It->Hp->Prop}{lo hi:Int}{t u v:Tok}{tk:Nat}(I:Inv X pins σ H s) (h1:-(2 ^ 62)<=lo) (h2:lo < 2 ^ 62) (h3:-(2 ^ 62)<=hi) (h4:hi < 2 ^ 62)
  (q:R (Itr lo (hi-lo).toNat) H):wpAny (model X.prog X.w) X.A (pyIter (.ref s.heap.objs.size)) (PIE X pins σ tg R) E { s with heap:=s.heap.push { cls:=.type "range", data:=.fields #[.int lo t,.int hi u,.int 1 v] },toks:=tk }:=by
 refine wpAny_pyIter_range (IsRange.new ..) (small_one h1 h2 h3 h4) ?_;have I1:Inv X pins σ H { s with heap:=s.heap.push { cls:=.type "range", data:=.fields #[.int lo t,.int hi u,.int 1 v] },toks:=tk }:=I.kept λb o e=>zAb _ e;refine ⟨(s.heap.push { cls:=.type "range", data:=.fields #[.int lo t,.int hi u,.int 1 v] }).objs.size,[(s.heap.push { cls:=.type "range", data:=.fields #[.int lo t,.int hi u,.int 1 v] }).objs.size],_,_,H,rfl,
  I1.kept (t':=tk) λb o e=>zAb _ e,CW _ lo (hi-lo).toNat,?_,λb hb=>?_,q⟩
 ·have e1:lo+((0:Nat):Int) * 1=lo:=by simp
  have e2:(((hi-lo).toNat:Nat):Int)-((0:Nat):Int)=Builtin.Range.rangeSize lo hi 1:=by rw [rangeSize_one];split<;>omega
  show IsRangeIter _ _ (lo+((0:Nat):Int) * 1) ((((hi-lo).toNat:Nat):Int)-((0:Nat):Int)) 1;rw [e1,e2];exact zAp _ rfl
 ·have e:b=(s.heap.push { cls:=.type "range", data:=.fields #[.int lo t,.int hi u,.int 1 v] }).objs.size:=by simpa using hb
  subst e;exact I1.QJ (zAq _) (I1.hok.fresh (zAq _))
def Yh (ta:TA):TI:=λσ H R=>ta σ H λvs H1=>∃j:Int,vs=[.int j]/\-(2 ^ 62)<=j/\j < 2 ^ 62/\R (Itr 0 j.toNat) H1
theorem GP {a:Expr}{ta:TA}{p:Pos}(hg:Gl X "range") (hm:X.mg "range" = none) (ha:PA X [a] ta) (hs:starEach [a] X.env=[(false,eval a X.env)]:=by rfl):PI X tg (.Call (.Name "range" p) [a] [] pos) (Yh ta):=by
 intro pins s σ H R I h;refine Call_ (qD I hg hm boot_range (PyProof.Rows.callWith_type1 (cR (ha pos pins s σ H _ I h) λus s1 ⟨vs,H1,I1,r1,q1⟩=>?_) hs rfl));obtain ⟨j,e,q1,q2,q⟩:=q1;subst e;cases r1 with
 |cons r rr=>
  cases rr
  obtain ⟨t,rfl⟩:=r;exact call_range_1 (Mi I1 (by omega) (by omega) q1 q2 (by simpa using q))
def abk (wi:TI) (g:TG) (tb:TS):TS:=λD σ H=>wi σ H λJ H1=>∃W:Nat->Nat->St->Hp->Prop,(∃m,W 0 m σ H1)/\∀i m σ H,W i m σ H ->
 (J.stop i H/\D.nx σ H)∨(J.go i H/\∃N:St->Hp->Prop,(∀σ' H',N σ' H'->∃m',m' < m/\W (i+1) m' σ' H')/\∀x H',J.yld i H x H'->g x σ H' λσ2 H2=>tb { D with nx:=N,ct:=N,bk:=D.nx } σ2 H2)
def uz (fp:List Addr) (h:Heap):List (Addr×Obj):=fp.filterMap λb=>(h.get? b).map λo=>(b,o)
theorem kE {h:Heap}{o:Obj}(hb:b∈fp) (e:h.get? b=some o):(b,o)∈uz fp h:=List.mem_filterMap.mpr ⟨b,hb,by rw [e];rfl⟩
theorem Hs {h:Heap}{p:Addr×Obj}(hp:p∈uz fp h):p.1∈fp/\h.get? p.1=some p.2:=by
 obtain ⟨b,hb,e⟩:=List.mem_filterMap.mp hp;cases q:h.get? b with
 |none=>rw [q] at e;cases e
 |some o=>
  rw [q] at e;have e':(b,o)=p:=Option.some.inj e;subst e';exact ⟨hb,q⟩
theorem Inv.pinned (I:Inv X pins σ H s) (hf:∀b∈fp,lu X pins H b) (ho:∀b∈fp,∃o,s.heap.get? b=some o/\∀v,o.data≠.cell v):Inv X (pins++uz fp s.heap) σ H s:=
 I.xr λp hp=>(List.mem_append.mp hp).elim (λz=>I.pin p (zAK _ z)) λz=>by
  obtain ⟨hb,e⟩:=Hs z;obtain ⟨f0,f1,f2,_⟩:=hf p.1 hb;obtain ⟨o,e',d⟩:=ho p.1 hb;rw [e] at e';cases e'
  exact ⟨e,f0,f1,f2,d⟩
theorem Inv.o7 {pl:List (Addr×Obj)}(I:Inv X (pins++pl) σ H s):Inv X pins σ H s:=I.xr λp hp=>I.pin p (zAK _ (zBe _ hp))
theorem V_ {iter:Expr}{wi:TI}{g:TG}(hp:PassesOwn (model X.prog X.w) X.A X.env X.xe) (hc:X.calm=true) (hi:PI X tg iter wi) (hg:PG X tg g) (hb:rW X body tb)
  (hs:∀x,foldedSetIterable iter X.env x=pure x:=by intro _;rfl):PS X (.For tg iter body [] pos) (abk wi g tb):=by
 intro pins s σ H D I h;refine wpAny_For (cR (hi pins s σ H _ I h) λv s1 h1=>cR h1 λitv s2 h2=>?_) hs;obtain ⟨it,fp,tn,J,H2,e,I2,T,st2,f2,W,⟨m0,w0⟩,turn⟩:=h2;subst e;have stat:∀{H':Hp},(∀b∈fp,H' b=none)->∀b∈fp,lu X pins H' b:=λhn b hb=>⟨hn b hb,(f2 b hb).2⟩;refine codeAny_forLoop_any (λn s'=>∃i σ' H',Inv X pins σ' H' s'/\tn i s'.heap/\(∀b∈fp,H' b=none)/\W i n σ' H') ?_ m0 ⟨0,σ,H2,I2,st2,λb hb=>(f2 b hb).1,w0⟩;rintro n s3 ⟨i,σ3,H3,I3,st3,fr3,w3⟩;rcases turn i n σ3 H3 w3 with ⟨stop,qn⟩ | ⟨go,N,hN,step⟩
 ·refine zBH hp (cR (T.done X rfl rfl rfl hc i pins s3 σ3 H3 X.xe I3 (stat fr3) st3 stop) λr s4 ⟨hr,I4⟩=>?_);subst hr;exact zBU ⟨σ3,H3,I4,qn⟩
 ·refine zBH hp (cR (T.item X rfl rfl rfl hc i pins s3 σ3 H3 X.xe I3 (stat fr3) st3 go) λr s4 ⟨u,hr,h4⟩=>?_);subst hr;refine zBH hp (cR h4 λ_ s5 ⟨x,H5,I5,r5,y5,st5,fr5⟩=>?_);have I5':=I5.pinned (stat fr5) (T.obj _ _ st5);refine zBH hp (cR (hg _ s5 σ3 H5 x u _ I5' r5 (step x H5 y5)) λ_ s6 ⟨σ6,H6,I6,q6⟩=>?_);refine zBH hp (cR (hb _ s6 σ6 H6 _ I6 q6) λf s7 q7=>?_);have again:∀{σ7:St}{H7:Hp},Inv X (pins++uz fp s5.heap) σ7 H7 s7->N σ7 H7->∃m,m < n/\∃i σ' H',Inv X pins σ' H' s7/\tn i s7.heap/\(∀b∈fp,H' b=none)/\W i m σ' H':=λ{σ7 H7} I7 n7=>by
   obtain ⟨m',hm,w7⟩:=hN σ7 H7 n7;refine ⟨m',hm,i+1,σ7,H7,I7.o7,T.keep _ _ _ st5 λb hb o e=>(I7.pin (b,o) (zAK _ (zAK _ (kE hb e)))).1,λb hb=>?_,w7⟩;obtain ⟨o,e,d⟩:=T.obj _ _ st5 b hb;exact (I7.pin (b,o) (zAK _ (zAK _ (kE hb e)))).2.1
  cases f with
  |next=>obtain ⟨σ7,H7,I7,n7⟩:=q7;exact again I7 n7
  |cont=>obtain ⟨σ7,H7,I7,n7⟩:=q7;exact again I7 n7
  |brk=>obtain ⟨σ7,H7,I7,q7⟩:=q7;exact ⟨σ7,H7,I7.o7,q7⟩
  |ret v=>obtain ⟨x7,σ7,H7,I7,r7,q7⟩:=q7;exact ⟨x7,σ7,H7,I7.o7,r7,q7⟩
abbrev R2:=V->V->Hp->VK->Prop
def lN (X:Cx) (f:Value->Value->Sem Value) (r:R2):Prop:=
 ∀(pins:List (Addr×Obj)) (s:Shared) (σ:St) (H:Hp) (x y:V) (v u:Value) (Q:VK),Inv X pins σ H s->RelV x v->RelV y u->r x y H Q ->
  wpAny (model X.prog X.w) X.A (f v u) (EP X pins σ Q) X.xe s
def UnR (X:Cx) (f:Value->Sem Value) (r:V->Hp->VK->Prop):Prop:=
 ∀(pins:List (Addr×Obj)) (s:Shared) (σ:St) (H:Hp) (x:V) (v:Value) (Q:VK),Inv X pins σ H s->RelV x v->r x H Q ->
  wpAny (model X.prog X.w) X.A (f v) (EP X pins σ Q) X.xe s
def g8 (X:Cx) (f:Value) (r:List V->Hp->VK->Prop):Prop:=
 ∀(pins:List (Addr×Obj)) (s:Shared) (σ:St) (H:Hp) (xs:List V) (us:List Value) (Q:VK),Inv X pins σ H s->Vals xs us->r xs H Q ->
  wpAny (model X.prog X.w) X.A (call f us) (EP X pins σ Q) X.xe s
def aa9 (X:Cx) (r:V->Hp->(Bool->Hp->Prop)->Prop):Prop:=
 ∀(pins:List (Addr×Obj)) (s:Shared) (σ:St) (H:Hp) (x:V) (v:Value) (Q:Bool->Hp->Prop),Inv X pins σ H s->RelV x v->r x H Q ->
  wpAny (model X.prog X.w) X.A (truthy v) (TP X pins σ Q) X.xe s
def Xi (r:R2) (ta tb:TE):TE:=λσ H Q=>ta σ H λx H1=>tb σ H1 λy H2=>r x y H2 Q
def tUn (r:V->Hp->VK->Prop) (ta:TE):TE:=λσ H Q=>ta σ H λx H1=>r x H1 Q
def rI (C:Int->Int->Prop) (g:Int->Int->V):R2:=λx y H Q=>∃i j,x=.int i/\y=.int j/\C i j/\Q (g i j) H
def Jw (g:Int->Int->V):R2:=λx y H Q=>∃i j,x=.int i/\y=.int j/\Q (g i j) H
def rU (g:Int->V):V->Hp->VK->Prop:=λx H Q=>∃i,x=.int i/\Q (g i) H
section
variable {a b:Expr}{tb tc:TE}
theorem WM (ha:PE X a ta) (hb:PE X b tb) {R:V->V->Hp->Prop}(I:Inv X pins σ H s)
  (h:ta σ H λx H1=>tb σ H1 λy H2=>R x y H2) {Q:zV}
  (hf:∀v u s2 x y H2,Inv X pins σ H2 s2->RelV x v->RelV y u->R x y H2->wpAny (model X.prog X.w) X.A (f v u) Q X.xe s2) :
  wpAny (model X.prog X.w) X.A (eval a X.env) (λv s₁=>wpAny (model X.prog X.w) X.A (eval b X.env) (λu s₂=>wpAny (model X.prog X.w) X.A (f v u) Q X.xe s₂) X.xe s₁) X.xe s:=by
 refine cR (ha pins s σ H _ I h) λv s1 ⟨x,H1,I1,r1,q1⟩=>?_;refine cR (hb pins s1 σ H1 _ I1 q1) λu s2 ⟨y,H2,I2,r2,q2⟩=>?_;exact hf v u s2 x y H2 I2 r1 r2 q2
theorem Kw {op:Operator}(ho:lN X (binaryOp op) r) (ha:PE X a ta) (hb:PE X b tb):PE X (.BinOp a op b pos) (Xi r ta tb):=by
 intro pins s σ H Q I h;exact wpAny_BinOp (WM ha hb I h λv u s2 x y H2 I2 rx ry q=>ho pins s2 σ H2 x y v u Q I2 rx ry q)
theorem YF {op:UnaryOp}{r:V->Hp->VK->Prop}(ho:UnR X (unaryOp op) r) (ha:PE X a ta):PE X (.UnaryOp op a pos) (tUn r ta):=by
 intro pins s σ H Q I h;exact UnaryOp_ (cR (ha pins s σ H _ I h) λv s1 ⟨x,H1,I1,r1,q1⟩=>ho pins s1 σ H1 x v Q I1 r1 q1)
theorem opI {C:Int->Int->Prop}
  (rule:∀(i j:Int) (t u:Tok) (s:Shared) (Q:zV) (E:zV),C i j->Q (.int (g i j) s.toks) { s with toks:=s.toks+1 }->wpAny (model X.prog X.w) X.A (f (.int i t) (.int j u)) Q E s) :
  lN X f (rI C λi j=>.int (g i j)):=by
 intro pins s σ H x y v u Q I rx ry h;obtain ⟨i,j,rfl,rfl,hc,q⟩:=h;obtain ⟨t,rfl⟩:=rx;obtain ⟨t',rfl⟩:=ry;exact rule i j t t' s _ _ hc ⟨.int (g i j),H,I.tok _,⟨_,rfl⟩,q⟩
theorem aaB
  (rule:∀(i j:Int) (t u:Tok) (s:Shared) (Q:zV) (E:zV),Q (.int (g i j) s.toks) { s with toks:=s.toks+1 }->wpAny (model X.prog X.w) X.A (f (.int i t) (.int j u)) Q E s) :
  lN X f (Jw λi j=>.int (g i j)):=by
 intro pins s σ H x y v u Q I rx ry h;obtain ⟨i,j,rfl,rfl,q⟩:=h;obtain ⟨t,rfl⟩:=rx;obtain ⟨t',rfl⟩:=ry;exact rule i j t t' s _ _ ⟨.int (g i j),H,I.tok _,⟨_,rfl⟩,q⟩
theorem U0 {g:Int->Int->Bool}
  (rule:∀(i j:Int) (t u:Tok) (s:Shared) (Q:zV) (E:zV),Q (.bool (g i j)) s->wpAny (model X.prog X.w) X.A (f (.int i t) (.int j u)) Q E s) :
  lN X f (Jw λi j=>.bl (g i j)):=by
 intro pins s σ H x y v u Q I rx ry h;obtain ⟨i,j,rfl,rfl,q⟩:=h;obtain ⟨t,rfl⟩:=rx;obtain ⟨t',rfl⟩:=ry;exact rule i j t t' s _ _ ⟨.bl (g i j),H,I,rfl,q⟩
def abM (i j:Int):Prop:=0 < j/\j < 1073741824
def abx (i j:Int):Prop:=0<=j/\j<=1000000/\i.natAbs < 2 ^ 64
def Vh (i j:Int):Prop:=(-(2 ^ 64) < i/\i < 2 ^ 64)∨(-(2 ^ 64) < j/\j < 2 ^ 64)
theorem Vh.ok {i j:Int}(h:Vh i j):IntMulOk i j:=by
 rcases h with ⟨h1,h2⟩ | ⟨h1,h2⟩
 ·exact .of_left (intBits_le_64 h1 h2)
 ·exact .of_right (intBits_le_64 h1 h2)
theorem Vs:lN X (binaryOp .Add) (Jw λi j=>.int (i+j)):=aaB λ_ _ _ _ _ _ _ q=>add_int q
theorem SJ:lN X (binaryOp .Mult) (rI Vh λi j=>.int (i * j)):=opI λ_ _ _ _ _ _ _ hc q=>mul_int q hc.ok
theorem Ow:lN X (binaryOp .FloorDiv) (rI abM λi j=>.int (i / j)):=opI λi j _ _ _ _ _ hc q=>by
 have h1:(0:Int) < j:=hc.1;have h2:j < 1073741824:=hc.2;exact floordiv_int (by omega) (by rw [Int.fdiv_eq_ediv_of_nonneg i (by omega)];exact q) (.inl (PyProof.noPylong_small (by omega)))
theorem Tj:lN X (binaryOp .Mod) (rI (λ_ j=>0 < j) λi j=>.int (i % j)):=opI λi j _ _ _ _ _ hc q=>by
 have h1:(0:Int) < j:=hc;exact mod_int' (by omega) (by rw [Int.fmod_eq_emod_of_nonneg i (by omega)];exact q)
theorem T8:lN X (binaryOp .Pow) (rI abx λi j=>.int (i ^ j.toNat)):=opI λ_ _ _ _ _ _ _ hc q=>pow_int_small hc.1 hc.2.1 hc.2.2 q
theorem unI {f:Value->Sem Value}{g:Int->Int}
  (rule:∀(i:Int) (t:Tok) (s:Shared) (Q:zV) (E:zV),Q (.int (g i) s.toks) { s with toks:=s.toks+1 }->wpAny (model X.prog X.w) X.A (f (.int i t)) Q E s) :
  UnR X f (rU λi=>.int (g i)):=by
 intro pins s σ H x v Q I rx h;obtain ⟨i,rfl,q⟩:=h;obtain ⟨t,rfl⟩:=rx;exact rule i t s _ _ ⟨.int (g i),H,I.tok _,⟨_,rfl⟩,q⟩
theorem VF:UnR X (unaryOp .USub) (rU λi=>.int (-i)):=unI λ_ _ _ _ _ q=>neg_int q
end
def ZK:V->V->Bool
 |.non,.non=>true | .non,.int _=>true | .int _,.non=>true | .non,.bl _=>true | .bl _,.non=>true | .non,.str _=>true | .str _,.non=>true
 |.int _,.int _=>true | .bl _,.bl _=>true | .str _,.str _=>true | .byt _,.byt _=>true
 |.int _,.str _=>true | .str _,.int _=>true | .bl _,.str _=>true | .str _,.bl _=>true
 |_,_=>false
def rEq:R2:=λx y H Q=>ZK x y=true/\Q (.bl (decide (x=y))) H
def rNe:R2:=λx y H Q=>ZK x y=true/\Q (.bl (!decide (x=y))) H
theorem rP {i j:Int}:decide (V.int i=V.int j)=(i==j):=by
 rw [zBc];simp
theorem xY {i j:Bool}:decide (V.bl i=V.bl j)=(i==j):=by
 rw [zBc];simp
theorem rJ {i j:Str}:decide (V.str i=V.str j)=(i==j):=by
 rw [zBc];simp
theorem Fi {i j:Array UInt8}:decide (V.byt i=V.byt j)=(i.toList==j.toList):=by
 rw [zBc];cases i
 cases j
 simp
section
variable {a b:Expr}{tb tc:TE}
theorem bB {Q:VK}{k k':Bool}(I:Inv X pins σ H s) (q:Q (.bl k) H) (e:k=k'):EP X pins σ Q (.bool k') s:=by
 subst e;exact ⟨.bl k,H,I,rfl,q⟩
theorem Fq:lN X (compareOp .Eq) rEq:=by
 intro pins s σ H x y v u Q I rx ry h;obtain ⟨hs,q⟩:=h;cases x with
 |non=>
  cases rx
  cases y with
  |non=>cases ry;exact PySem.EqNone.eq_none_none (bB I q (by simp))
  |bl j=>cases ry;exact PySem.EqNone.eq_none_bool (bB I q (by simp))
  |int j=>obtain ⟨t',rfl⟩:=ry;exact PySem.EqNone.eq_none_int (bB I q (by simp))
  |str j=>obtain ⟨t',rfl⟩:=ry;exact PySem.EqNone.eq_none_str (bB I q (by simp))
  |_=>exact absurd (show false=true from hs) zAs
 |bl i=>
  cases rx
  cases y with
  |non=>cases ry;exact PySem.EqNone.eq_bool_none (bB I q (by simp))
  |bl j=>cases ry;exact eq_bool (bB I q xY)
  |str j=>obtain ⟨t',rfl⟩:=ry;exact PySem.EqMixed.eq_bool_str (bB I q (by simp))
  |_=>exact absurd (show false=true from hs) zAs
 |int i=>
  obtain ⟨t,rfl⟩:=rx;cases y with
  |non=>cases ry;exact PySem.EqNone.eq_int_none (bB I q (by simp))
  |int j=>obtain ⟨t',rfl⟩:=ry;exact eq_int (bB I q rP)
  |str j=>obtain ⟨t',rfl⟩:=ry;exact PySem.EqMixed.eq_int_str (bB I q (by simp))
  |_=>exact absurd (show false=true from hs) zAs
 |str i=>
  obtain ⟨t,rfl⟩:=rx;cases y with
  |non=>cases ry;exact PySem.EqNone.eq_str_none (bB I q (by simp))
  |bl j=>cases ry;exact PySem.EqMixed.eq_str_bool (bB I q (by simp))
  |int j=>obtain ⟨t',rfl⟩:=ry;exact PySem.EqMixed.eq_str_int (bB I q (by simp))
  |str j=>obtain ⟨t',rfl⟩:=ry;exact eq_str (bB I q rJ)
  |_=>exact absurd (show false=true from hs) zAs
 |byt i=>
  obtain ⟨t,rfl⟩:=rx;cases y with
  |byt j=>obtain ⟨t',rfl⟩:=ry;exact PySem.W.eq_bytes (bB I q Fi)
  |_=>exact absurd (show false=true from hs) zAs
 |_=>cases y<;>exact absurd (show false=true from hs) zAs
theorem Fv:lN X (compareOp .NotEq) rNe:=by
 intro pins s σ H x y v u Q I rx ry h;obtain ⟨hs,q⟩:=h;cases x with
 |non=>
  cases rx
  cases y with
  |non=>cases ry;exact PySem.EqNone.ne_none_none (bB I q (by simp))
  |bl j=>cases ry;exact PySem.EqNone.ne_none_bool (bB I q (by simp))
  |int j=>obtain ⟨t',rfl⟩:=ry;exact PySem.EqNone.ne_none_int (bB I q (by simp))
  |str j=>obtain ⟨t',rfl⟩:=ry;exact PySem.EqNone.ne_none_str (bB I q (by simp))
  |_=>exact absurd (show false=true from hs) zAs
 |bl i=>
  cases rx
  cases y with
  |non=>cases ry;exact PySem.EqNone.ne_bool_none (bB I q (by simp))
  |bl j=>cases ry;exact ne_bool (bB I q (congrArg not xY))
  |str j=>obtain ⟨t',rfl⟩:=ry;exact PySem.EqMixed.ne_bool_str (bB I q (by simp))
  |_=>exact absurd (show false=true from hs) zAs
 |int i=>
  obtain ⟨t,rfl⟩:=rx;cases y with
  |non=>cases ry;exact PySem.EqNone.ne_int_none (bB I q (by simp))
  |int j=>obtain ⟨t',rfl⟩:=ry;exact ne_int (bB I q (congrArg not rP))
  |str j=>obtain ⟨t',rfl⟩:=ry;exact PySem.EqMixed.ne_int_str (bB I q (by simp))
  |_=>exact absurd (show false=true from hs) zAs
 |str i=>
  obtain ⟨t,rfl⟩:=rx;cases y with
  |non=>cases ry;exact PySem.EqNone.ne_str_none (bB I q (by simp))
  |bl j=>cases ry;exact PySem.EqMixed.ne_str_bool (bB I q (by simp))
  |int j=>obtain ⟨t',rfl⟩:=ry;exact PySem.EqMixed.ne_str_int (bB I q (by simp))
  |str j=>obtain ⟨t',rfl⟩:=ry;exact ne_str (bB I q (congrArg not rJ))
  |_=>exact absurd (show false=true from hs) zAs
 |byt i=>
  obtain ⟨t,rfl⟩:=rx;cases y with
  |byt j=>obtain ⟨t',rfl⟩:=ry;exact PySem.W.ne_bytes (bB I q (congrArg not Fi))
  |_=>exact absurd (show false=true from hs) zAs
 |_=>cases y<;>exact absurd (show false=true from hs) zAs
theorem Yo:lN X (compareOp .Lt) (Jw λi j=>.bl (decide (i < j))):=U0 λ_ _ _ _ _ _ _ q=>lt_int q
theorem XM:lN X (compareOp .Gt) (Jw λi j=>.bl (decide (j < i))):=U0 λ_ _ _ _ _ _ _ q=>gt_int q
theorem Ye:lN X (compareOp .GtE) (Jw λi j=>.bl (decide (j<=i))):=U0 λ_ _ _ _ _ _ _ q=>ge_int q
theorem Hi:lN X (compareOp .In) (λx y H Q=>∃i j,x=.str i/\y=.str j/\Q (.bl (!(Builtin.Str.occurrences j i 0 j.length 1).isEmpty)) H):=by
 intro pins s σ H x y v u Q I rx ry h;obtain ⟨i,j,rfl,rfl,q⟩:=h;obtain ⟨t,rfl⟩:=rx;obtain ⟨t',rfl⟩:=ry;exact in_str (bB I q rfl)
theorem wZ:lN X (compareOp .NotIn) (λx y H Q=>∃i j,x=.str i/\y=.str j/\Q (.bl (!(!(Builtin.Str.occurrences j i 0 j.length 1).isEmpty))) H):=by
 intro pins s σ H x y v u Q I rx ry h;obtain ⟨i,j,rfl,rfl,q⟩:=h;obtain ⟨t,rfl⟩:=rx;obtain ⟨t',rfl⟩:=ry;exact notIn_str (bB I q rfl)
theorem lN.or {r':R2}(h:lN X f r) (h':lN X f r'):lN X f (λx y H Q=>r x y H Q∨r' x y H Q):=by
 intro pins s σ H x y v u Q I rx ry q;rcases q with q | q
 ·exact h pins s σ H x y v u Q I rx ry q
 ·exact h' pins s σ H x y v u Q I rx ry q
theorem mO (b:Expr) {op:CmpOp}(h:op≠.In:=by decide) (h2:op≠.NotIn:=by decide):behindInMarks op b=false:=by
 have e1:(op==CmpOp.In)=false:=by cases op<;>first | rfl | exact absurd rfl h
 have e2:(op==CmpOp.NotIn)=false:=by cases op<;>first | rfl | exact absurd rfl h2
 cases b<;>simp [behindInMarks,e1,e2]
theorem Oz {op:CmpOp}(ho:lN X (compareOp op) r) (ha:PE X a ta) (hb:PE X b tb) (hm:behindInMarks op b=false):PE X (.Compare a [op] [b] pos) (Xi r ta tb):=by
 intro pins s σ H Q I h;exact wpAny_Compare1 (WM ha hb I h λv u s2 x y H2 I2 rx ry q=>ho pins s2 σ H2 x y v u Q I2 rx ry q) hm
def Em (t:TE):TT:=λσ H Q=>t σ H λx H'=>∃k,x=.bl k/\Q k H'
theorem Qa {op:CmpOp}(ho:lN X (compareOp op) r) (ha:PE X a ta) (hb:PE X b tb) (hm:behindInMarks op b=false):PT X (.Compare a [op] [b] pos) (Em (Xi r ta tb)):=by
 intro pins s σ H Q I h;refine wpAny_isTrue_Compare1 (cR (ha pins s σ H _ I h) λv s1 ⟨x,H1,I1,r1,q1⟩=>cR (hb pins s1 σ H1 _ I1 q1) λu s2 ⟨y,H2,I2,r2,q2⟩=>
  cR (ho pins s2 σ H2 x y v u _ I2 r1 r2 q2) λc s3 ⟨z,H3,I3,r3,k,e,q3⟩=>?_) hm
 subst e;cases r3
 exact wpAny_truthy_bool ⟨H3,I3,q3⟩
def Ku (K:zF) (x:V) (H:Hp) (k:Bool):Prop:=
 match x with
 |.non=>k=false
 |.bl b=>k=b
 |.int i=>k=(i != 0)
 |.str y=>y.length<=sizeLine/\k=((y.length:Int) != 0)
 |.byt y=>y.size<=sizeLine/\k=((y.size:Int) != 0)
 |.ref p=>(∃xs,cB K H p xs/\k=!xs.isEmpty)∨(∃xs,iG K H p xs/\k=!xs.isEmpty)∨∃kvs,H p=some (.dK kvs)/\k=!kvs.isEmpty
 |_=>False
theorem BK {κ:Type}{kvs:List (κ×V)}{vs:List (κ×Value)}(r:KV kvs vs):(!vs.isEmpty)=!kvs.isEmpty:=by
 cases r<;>rfl
theorem uo {its:List Value}(r:Vals xs its):(!its.toArray.isEmpty)=!xs.isEmpty:=by
 cases r<;>simp
theorem oK:(sizeLine:Nat) < 2 ^ 63:=by rw [sizeLine_eq];decide
theorem KR:aa9 X (λx H Q=>∃k,Ku X.K x H k/\Q k H):=by
 intro pins s σ H x v Q I rx h;obtain ⟨k,e,q⟩:=h;have hl:=oK;have hs:sizeLine=16777216:=sizeLine_eq;cases x with
 |non=>
  cases rx
  have e':k=false:=e;subst e';exact truthy_none ⟨H,I,q⟩
 |bl b=>
  cases rx
  have e':k=b:=e;subst e';exact wpAny_truthy_bool ⟨H,I,q⟩
 |int i=>
  obtain ⟨t,rfl⟩:=rx;have e':k=(i != 0):=e;subst e';exact PySem.P.truthy_int ⟨H,I,q⟩
 |str y=>
  obtain ⟨t,rfl⟩:=rx;obtain ⟨hy,e'⟩:y.length<=sizeLine/\k=((y.length:Int) != 0):=e;subst e';exact PySem.P.truthy_str (by omega) ⟨H,I.tok _,q⟩
 |byt y=>
  obtain ⟨t,rfl⟩:=rx;obtain ⟨hy,e'⟩:y.size<=sizeLine/\k=((y.size:Int) != 0):=e;subst e';exact PySem.W.truthy_bytes (by omega) ⟨H,I.tok _,q⟩
 |ref p=>
  cases rx
  have e':(∃xs,cB X.K H p xs/\k=!xs.isEmpty)∨(∃xs,iG X.K H p xs/\k=!xs.isEmpty)∨∃kvs,H p=some (.dK kvs)/\k=!kvs.isEmpty:=e;rcases e' with ⟨xs,hx,e'⟩ | ⟨xs,hx,e'⟩ | ⟨kvs,hx,e'⟩
  ·subst e';obtain ⟨its,r,pl,hz⟩:=I.list hx;have hlen:=r.length;exact wpAny_truthy_list pl.isList (by simp only [zAo];omega) ⟨H,I.tok _,by rw [uo r];exact q⟩
  ·subst e';obtain ⟨its,r,pl,hz⟩:=I.tuple hx;have hlen:=r.length;exact truthy_tuple pl (by simp only [zAo];omega) ⟨H,I.tok _,by rw [uo r];exact q⟩
  ·subst e';obtain ⟨hz,hS,vs,r,m⟩:kvs.length<=sizeLine/\(p==sysModules)=false/\∃vs,KV kvs vs/\s.heap.DictOf (aN X.prog X.w) p vs:=I.hok p _ hx;have hlen:kvs.length=vs.length:=Paired.length r;exact wpAny_truthy_dict hS m (by omega) ⟨H,I.tok _,by rw [BK r];exact q⟩
 |_=>exact (show False from e).elim
theorem Lj (ha:PE X a ta) (he:∀whole,isTrue a X.env whole=(do let v <-whole;standAt a.pos;holding [v] (truthy v))) :
  PT X a (λσ H Q=>ta σ H λx H'=>∃k,Ku X.K x H' k/\Q k H'):=by
 intro pins s σ H Q I h;exact isTrue_plain (cR (ha pins s σ H _ I h) λv s1 ⟨x,H1,I1,r1,q1⟩=>KR pins s1 σ H1 x v Q I1 r1 q1) (he _)
theorem Az:lN X (binaryOp .Add) (λx y H Q=>∃i j,x=.str i/\y=.str j/\i.length+j.length<=sizeLine/\Q (.str (i++j)) H):=by
 intro pins s σ H x y v u Q I rx ry h;obtain ⟨i,j,rfl,rfl,hz,q⟩:=h;obtain ⟨t,rfl⟩:=rx;obtain ⟨t',rfl⟩:=ry;exact add_str (λt' tk=>⟨.str (i++j),H,I.tok _,⟨_,rfl⟩,q⟩) hz
theorem vals1 {x:V}(r:Vals [x] us):∃u,us=[u]/\RelV x u:=by
 cases r with
 |cons r1 r2=>cases r2;exact ⟨_,rfl,r1⟩
theorem vals2 {x:V}(r:Vals [x,y] us):∃u w',us=[u,w']/\RelV x u/\RelV y w':=by
 cases r with
 |cons r1 r2=>
  cases r2 with
  |cons r3 r4=>cases r4;exact ⟨_,_,rfl,r1,r3⟩
theorem Lw:g8 X (.builtin "abs") (λxs H Q=>∃i,xs=[.int i]/\Q (.int (if i < 0 then -i else i)) H):=by
 intro pins s σ H xs us Q I r h;obtain ⟨i,rfl,q⟩:=h;obtain ⟨u,rfl,t,rfl⟩:=vals1 r;exact call_abs_int λu tk=>⟨.int (if i < 0 then -i else i),H,I.tok _,⟨_,rfl⟩,q⟩
def X7 (K:zF) (x:V) (H:Hp) (n:Nat):Prop:=
 match x with
 |.str y=>y.length<=sizeLine/\n=y.length
 |.byt y=>y.size<=sizeLine/\n=y.size
 |.ref p=>(∃xs,cB K H p xs/\n=xs.length)∨∃xs,iG K H p xs/\n=xs.length
 |_=>False
theorem Mx:g8 X (.builtin "len") (λxs H Q=>∃x n,xs=[x]/\X7 X.K x H n/\Q (.int n) H):=by
 intro pins s σ H xs us Q I r h;obtain ⟨x,n,rfl,e,q⟩:=h;obtain ⟨u,rfl,rx⟩:=vals1 r;have hl:=oK;have hs:sizeLine=16777216:=sizeLine_eq;cases x with
 |str y=>
  obtain ⟨t,rfl⟩:=rx;obtain ⟨hy,e'⟩:y.length<=sizeLine/\n=y.length:=e;subst e';exact len_str (by omega) ⟨.int _,H,I.tok _,⟨_,rfl⟩,q⟩
 |byt y=>
  obtain ⟨t,rfl⟩:=rx;obtain ⟨hy,e'⟩:y.size<=sizeLine/\n=y.size:=e;subst e';exact PySem.W.len_bytes (by omega) ⟨.int _,H,I.tok _,⟨_,rfl⟩,q⟩
 |ref p=>
  cases rx
  have e':(∃xs,cB X.K H p xs/\n=xs.length)∨∃xs,iG X.K H p xs/\n=xs.length:=e;rcases e' with ⟨xs,hx,e'⟩ | ⟨xs,hx,e'⟩
  ·subst e';obtain ⟨its,r',pl,hz⟩:=I.list hx;have hlen:=r'.length;exact Calls.call_len_list pl.isList (by simp only [zAo];omega) ⟨.int xs.length,H,I.tok _,⟨_,by simp only [zAo];rw [hlen]⟩,q⟩
  ·subst e';obtain ⟨its,r',pl,hz⟩:=I.tuple hx;have hlen:=r'.length;exact len_tuple pl (by simp only [zAo];omega) ⟨.int xs.length,H,I.tok _,⟨_,by simp only [zAo];rw [hlen]⟩,q⟩
 |_=>exact (show False from e).elim
end
structure Ho (h:Heap) (x dx C:Addr) (mA:Str->Option Value):Prop where
 obj:h.get? x=some (PySem.W.instObj C dx)
 ns:h.Ns1 dx mA
 ne:dx≠x
theorem Gn {h:Heap}{mA:Str->Option Value}(n:h.Ns1 dx mA):∃od,h.get? dx=some od/\∀name,PySem.W.lookIn name od=some (mA name):=by
 obtain ⟨o,es,ep,ho,hd,hk,_,hm⟩:=n;refine ⟨o,ho,λname=>?_⟩;have e:=hm name;unfold nsFind findBy at e;rw [<-Array.find?_toList] at e;unfold PySem.W.lookIn;rw [hd];dsimp only;split
 ·rename_i y q;rw [q] at e;exact congrArg some e
 ·rename_i q;rw [q] at e;have a:es.toList.any (·.refKey)=false:=by
   rw [List.any_eq_false];intro y hy;obtain ⟨z,t,hkey⟩:=hk y (Array.mem_toList_iff.mp hy);simp [DictEntry.refKey,hkey]
  have a':¬es.toList.any (·.refKey)=true:=by rw [a];exact zAs
  rw [if_neg a'];exact congrArg some e
theorem Ho.look {h:Heap}{x:Addr}{mA:Str->Option Value}(I:Ho h x dx C mA):∃od,PySem.W.InstAt h x (PySem.W.instObj C dx) C (some od)/\∀name,PySem.W.lookIn name od=some (mA name):=
 let ⟨od,ho,hl⟩:=Gn I.ns
 ⟨od,⟨I.obj,rfl,rfl,ho⟩,hl⟩
section
variable {A:Around}{x f:Addr}{mA:Str->Option Value}{v:Value}
theorem get_map {expr:Bool}{Q:zV}(X:K.In s.heap) (I:Ho s.heap x dx C mA) (hg:PySem.W.plainGet K C name=true) (hh:PySem.W.hasDictIn K C=true)
  (ha:PySem.W.findIn K (.ref C) name=some none) (hv:mA name=some v) (hv':PySem.W.handedIn v=true) (h:Q v { s with toks:=s.toks+1 }) :
  wpAny (model prog w) A (getAttr (.ref x) name expr) Q E s:=by
 obtain ⟨od,J,hl⟩:=I.look;exact PySem.W.get_value X J (PySem.W.plainGet_of hg).1 (PySem.W.findObj_own hh ha rfl (by rw [hl,hv])) hv' h
theorem Qj {ns:List Str}{Q:Unit->Shared->Prop}(X:K.In s.heap) (I:Ho s.heap x dx C mA)
  (hs:PySem.W.findIn K (.ref C) "__setattr__" = some (some (.builtin "object.__setattr__"))) (hp:PySem.W.plainOver K C=true) (ht:PySem.W.takerIn K C name=some none) (hh:PySem.W.hasDictIn K C=true)
  (hw:PySem.Within mA ns) (hsz:ns.length<=sizeLine)
  (h:∀h',Ho h' x dx C (λy=>if y=name then some v else mA y)->Heap.SameBut dx s.heap h'->Q () { s with heap:=h',toks:=s.toks+2 }) :
  wpAny (model prog w) A (setAttr (.ref x) name v) Q E s:=by
 obtain ⟨od,J,hl⟩:=I.look;refine PySem.W.set_plain X J hs (PySem.W.osa_open (s:={ s with toks:=s.toks+1 }) (r:=none) X J hp ht λb=>?_);obtain ⟨cd,hc,hd'⟩:=PySem.W.any_some hh;have hx:s.heap.get? x=some ⟨.ref C,some dx,.plain,#[]⟩:=I.obj;refine zAa (zAd (zAa (zAa (wpAny_loadPart hx (zAa (PySem.W.Looks.here (s:={ s with toks:=s.toks+1 }) (PySem.W.looks_clsIn X hc) ?_))))));rw [hd'];refine zAd (a:=some dx) (zAa (zAd (zAa ?_)));refine wpAny_nsSet1 (s:={ s with toks:=s.toks+1 }) I.ns λh' hn2 hs2=>?_;obtain ⟨oD,esD,epD,hoD,hdD,hcD⟩:=hn2.count (PySem.Within.cons name v hw);refine zAa (wpAny_lookBehind hoD (by rw [hdD];exact pastItsLine_dict (zAB hcD (by rw [zAv];omega))) ?_);exact zAd (h _ ⟨(hs2.2 _ (Ne.symm I.ne)).trans I.obj,hn2,I.ne⟩ hs2)
theorem Jm {R:Result->Shared->Prop}{vs:List Value}(X:K.In s.heap) (hm:PySem.W.makesIn K C=true)
  (hi:PySem.W.findIn K (.ref C) "__init__" = some (some (.ref f))) (hf:PySem.W.typeIn K (.ref f)=some (.type "function"))
  (h:codeAny (model prog w) (A.under (.builtin "type.__call__" ⟨.ref C::vs,kw⟩)) (.call (.ref f) ⟨.ref (s.heap.objs.size+1)::vs,kw⟩) (PySem.W.InitBack (s.heap.objs.size+1) R)
   { s with heap:=(s.heap.push PySem.W.emptyDict).push (PySem.W.instObj C s.heap.objs.size) }) :
  codeAny (model prog w) A (.call (.ref C) ⟨vs,kw⟩) R s:=by
 obtain ⟨hh,g,d,t,os⟩:=s;exact PySem.W.make_core (PySem.W.makes_of X hm) (PySem.W.looks_findIn X hi) (λself=>PySem.W.bind_fn X self hf) (.inl rfl) h
end
def jD (f:Str) (v:V):List (Str×V)->List (Str×V)
 |[]=>[(f,v)]
 |(g,x)::r=>if g=f then (g,v)::r else (g,x)::jD f v r
theorem qT (f g:Str) (v:V):∀fs:List (Str×V),(jD f v fs).lookup g=if g=f then some v else fs.lookup g
 |[]=>by
  show List.lookup g [(f,v)]=_;by_cases h:g=f
  ·have hb:(g==f)=true:=beq_iff_eq.mpr h;simp only [List.lookup,hb,if_pos h]
  ·have hb:(g==f)=false:=beq_eq_false_iff_ne.mpr h;simp only [List.lookup,hb,if_neg h]
 |(k,x)::r=>by
  have ih:=qT f g v r;rw [show jD f v ((k,x)::r)=(if k=f then (k,v)::r else (k,x)::jD f v r) from rfl];by_cases hk:k=f
  ·rw [if_pos hk];by_cases h:g=k
   ·have hb:(g==k)=true:=beq_iff_eq.mpr h;simp only [List.lookup,hb,if_pos (h.trans hk)]
   ·have hb:(g==k)=false:=beq_eq_false_iff_ne.mpr h;simp only [List.lookup,hb,if_neg (λe:g=f=>h (e.trans hk.symm))]
  ·rw [if_neg hk];by_cases h:g=k
   ·have hb:(g==k)=true:=beq_iff_eq.mpr h;simp only [List.lookup,hb,if_neg (λe:g=f=>hk (h.symm.trans e))]
   ·have hb:(g==k)=false:=beq_eq_false_iff_ne.mpr h;simp only [List.lookup,hb];exact ih
theorem qK (f:Str) (v:V):∀fs:List (Str×V),f∈(jD f v fs).map (·.1)/\∀g,g∈fs.map (·.1)->g∈(jD f v fs).map (·.1)
 |[]=>⟨by simp [jD],λg h=>by simp at h⟩
 |(k,x)::r=>by
  obtain ⟨i1,i2⟩:=qK f v r;rw [show jD f v ((k,x)::r)=(if k=f then (k,v)::r else (k,x)::jD f v r) from rfl];by_cases hk:k=f
  ·rw [if_pos hk];subst hk;exact ⟨by simp,λg h=>by simpa using h⟩
  ·rw [if_neg hk];refine ⟨?_,λg h=>?_⟩
   ·rw [zAr];exact zAf _ i1
   ·rw [zAr] at h ⊢;rcases zBv.mp h with e | e
    ·exact zBv.mpr (.inl e)
    ·exact zAf _ (i2 g e)
theorem qP (f:Str) (v:V):∀fs:List (Str×V),(jD f v fs).length<=fs.length+1
 |[]=>by simp [jD]
 |(k,x)::r=>by
  have ih:=qP f v r;rw [show jD f v ((k,x)::r)=(if k=f then (k,v)::r else (k,x)::jD f v r) from rfl];by_cases hk:k=f
  ·rw [if_pos hk,zAv,zAv];omega
  ·rw [if_neg hk,zAv,zAv];omega
theorem oE.some_of {o:Option Value}(r:oE (some v) o):∃u,o=some u/\RelV v u:=by
 cases o with
 |none=>exact (show False from r).elim
 |some u=>exact ⟨u,rfl,r⟩
theorem vW (r:RelV v u):PySem.W.handedIn u=true:=by
 cases v with
 |non=>cases (show u=Value.none from r);rfl
 |bl b=>cases (show u=Value.bool b from r);rfl
 |int i=>obtain ⟨t,e⟩:=(show ∃t,u=Value.int i t from r);cases e;rfl
 |str x=>obtain ⟨t,e⟩:=(show ∃t,u=Value.str x t from r);cases e;rfl
 |byt b=>obtain ⟨t,e⟩:=(show ∃t,u=Value.bytes b t from r);cases e;rfl
 |flt b=>obtain ⟨t,e⟩:=(show ∃t,u=Value.float b t from r);cases e;rfl
 |ref a=>cases (show u=Value.ref a from r);rfl
 |ty n=>cases (show u=Value.type n from r);rfl
section
variable {h:Heap}{fs fs':List (Str×V)}
theorem v7 (hok:nD P w H h) (e:H a=some (.ins C dx fs)):∃mA,Ho h a dx C mA/\(∀f,oE (fs.lookup f) (mA f))/\PySem.Within mA (fs.map (·.1))/\fs.length<=1000/\H dx=some (.own a):=by
 obtain ⟨d,z,ne,ob,mA,n,r,q⟩:=(show bw P w H h a (.ins C dx fs) from hok a _ e);exact ⟨mA,⟨ob,n,ne⟩,r,q,z,d⟩
end
structure Cls (K:zF) (C:Addr):Prop where
 pg:PySem.W.plainGet K C Str.empty=true
 hd:PySem.W.hasDictIn K C=true
 po:PySem.W.plainOver K C=true
 sa:PySem.W.findIn K (.ref C) "__setattr__" = some (some (.builtin "object.__setattr__"))
theorem Cls.get (c:Cls K C) (f:Str):PySem.W.plainGet K C f=true:=c.pg
def jy (K:zF) (C:Addr) (f:Str):Prop:=PySem.W.findIn K (.ref C) f=some none
theorem jy.taker {f:Str}(n:jy K C f):PySem.W.takerIn K C f=some none:=by
 unfold PySem.W.takerIn;rw [show PySem.W.findIn K (.ref C) f=some none from n];rfl
structure Meth (K:zF) (C:Addr) (m:Str) (f:Addr):Prop where
 at_:PySem.W.findIn K (.ref C) m=some (some (.ref f))
 fn:PySem.W.isFn K (.ref f)=true
 kp:PySem.W.keepIn K (.ref f)=true
section
variable {fs:List (Str×V)}{f:Str}{A:Around}
theorem Cy {b:Bool}{Q:zV}(I:Inv X pins σ H s) (e:H a=some (.ins C dx fs)) (c:Cls X.K C) (n:jy X.K C f) (l:fs.lookup f=some v)
  (h:∀u s',Inv X pins σ H s'->RelV v u->Q u s'):wpAny (model X.prog X.w) A (getAttr (.ref a) f b) Q E s:=by
 obtain ⟨mA,O,r,_,_,_⟩:=v7 I.hok e;obtain ⟨u,hu,ru⟩:=oE.some_of (v:=v) (o:=mA f) (by rw [<-l];exact r f);exact get_map I.jo O (c.get f) c.hd n hu (vW ru) (h u _ (I.tok _) ru)
theorem BL {Q:Unit->Shared->Prop}(I:Inv X pins σ H s) (e:H a=some (.ins C dx fs)) (c:Cls X.K C) (n:jy X.K C f) (hl:fs.length < 1000) (ry:RelV y u)
  (h:∀s',Inv X pins σ (upd H a (.ins C dx (jD f y fs))) s'->Q () s'):wpAny (model X.prog X.w) A (setAttr (.ref a) f u) Q E s:=by
 obtain ⟨mA,O,r,wi,_,ho⟩:=v7 I.hok e;have hz:(fs.map (·.1)).length<=sizeLine:=by rw [zAn,sizeLine_eq];omega
 refine Qj I.jo O c.sa c.po n.taker c.hd wi hz λh' O' sb=>h _ ?_;have hd:∃o,h'.get? dx=some o:=let ⟨o,_,_,e',_⟩:=O'.ns;⟨o,e'⟩
 refine I.write (x:=a) (e:=dx) (by rw [e];exact True.intro) (.inr ho) (λb q hb z=>(sb.2 b hb).trans z) hd ?_;refine ⟨by rw [aA O.ne];exact ho,?_,O.ne,O'.obj,_,O'.ns,λg=>?_,λg hg=>?_⟩
 ·have:=qP f y fs;omega
 ·show oE ((jD f y fs).lookup g) (if g=f then some u else mA g);rw [qT];by_cases q:g=f
  ·rw [if_pos q,if_pos q];exact ry
  ·rw [if_neg q,if_neg q];exact r g
 ·by_cases q:g=f
  ·rw [q];exact (qK f y fs).1
  ·refine (qK f y fs).2 g (wi g λz=>hg ?_);show (if g=f then some u else mA g)=none;rw [if_neg q];exact z
theorem Inv.made (I:Inv X pins σ H s):Inv X pins σ (upd (upd H s.heap.objs.size (.own (s.heap.objs.size+1))) (s.heap.objs.size+1) (.ins C s.heap.objs.size []))
  { s with heap:=(s.heap.push PySem.W.emptyDict).push (PySem.W.instObj C s.heap.objs.size) }:=by
 have e1:(s.heap.push PySem.W.emptyDict).get? s.heap.objs.size=some PySem.W.emptyDict:=zAp s.heap rfl;have e2:((s.heap.push PySem.W.emptyDict).push (PySem.W.instObj C s.heap.objs.size)).get? (s.heap.objs.size+1)=some (PySem.W.instObj C s.heap.objs.size):=by
  have:=zAp (s.heap.push PySem.W.emptyDict) (o:=PySem.W.instObj C s.heap.objs.size) rfl
  rwa [zAF] at this
 have e3:(s.heap.push PySem.W.emptyDict).Ns s.heap.objs.size (λ_=>none):=⟨PySem.W.emptyDict,#[],_,e1,rfl,(λe he=>absurd he (by simp)),λ_=>rfl⟩;have I1:=I.laid (a:=s.heap.objs.size) (o:=.own (s.heap.objs.size+1)) (h':=s.heap.push PySem.W.emptyDict) (t':=s.toks) (λb u q=>zAb _ q) (zAq _) ⟨_,e1⟩;refine I1.laid (a:=s.heap.objs.size+1) (o:=.ins C s.heap.objs.size []) (t':=s.toks) (λb u q=>zAb _ q) (Nat.le_of_eq (zAF _ _)) ?_;have ne:s.heap.objs.size≠s.heap.objs.size+1:=zAl (zBr _);refine ⟨by rw [aA ne,aJ],zBf _,ne,e2,λ_=>none,(Heap.Ns1.of_empty e3).at λo q=>zAb _ q,λ_=>True.intro,λy hy=>absurd rfl hy⟩
theorem DP {env:Env}{Q:zV}(hb:attributeBase e f env (eval e env)=eval e env)
  (h:wpAny (model prog w) A (eval e env) (λo s₁=>wpAny (model prog w) A (getAttr o f true) Q E s₁) E s):wpAny (model prog w) A (eval (.Attribute e f pos) env) Q E s:=
 Attribute_any_ h (by rw [arm_eval_Attribute,hb])
end
def abE (K:zF) (ta:TE) (f:Str):TE:=λσ H Q=>ta σ H λx H1=>∃a C dx fs v,x=.ref a/\H1 a=some (.ins C dx fs)/\Cls K C/\jy K C f/\fs.lookup f=some v/\Q v H1
def zO (K:zF) (ta tv:TE) (f:Str):TS:=λD σ H=>tv σ H λy H1=>ta σ H1 λx H2=>∃a C dx fs,x=.ref a/\H2 a=some (.ins C dx fs)/\Cls K C/\jy K C f/\fs.length < 1000 /\
 D.nx σ (upd H2 a (.ins C dx (jD f y fs)))
section
variable {o value:Expr}{f:Str}{tpos:Pos}{tv:TE}
theorem Uc (he:PE X e ta) (hb:attributeBase e f X.env (eval e X.env)=eval e X.env):PE X (.Attribute e f pos) (abE X.K ta f):=by
 intro pins s σ H Q I h;refine DP hb (cR (he pins s σ H _ I h) λu s1 ⟨x,H1,I1,rx,a,C,dx,fs,v,ex,ea,c,n,l,q⟩=>?_);subst ex;obtain rfl:u=Value.ref a:=rx;exact Cy I1 ea c n l λu' s2 I2 ru=>⟨v,H1,I2,ru,q⟩
theorem Tp (ha:PE X o ta) (hv:PE X value tv) (hs:swapsWith value (some (.Attribute o f pos')) pos.line X.env=pure false):PS X (.Assign [.Attribute o f pos'] value pos) (zO X.K ta tv f):=by
 intro pins s σ H D I h;refine plainObj_wpAny_Assign_Attribute (cR (hv pins s σ H _ I h) λu s1 ⟨y,H1,I1,ry,q⟩=>cR (ha pins s1 σ H1 _ I1 q) λov s2 ⟨x,H2,I2,rx,a,C,dx,fs,ex,ea,c,n,l,q2⟩=>?_) hs;subst ex;obtain rfl:ov=Value.ref a:=rx;exact BL I2 ea c n l ry λs3 I3=>⟨σ,_,I3,q2⟩
end
section
variable {A:Around}{Q:zV}{c:Value}{b:Bool}
inductive qI (K:zF) (H:Hp):V->Value->Prop where
 |non:qI K H .non (.type "NoneType")
 |bl (x:Bool):qI K H (.bl x) (.type "bool")
 |int (i:Int):qI K H (.int i) (.type "int")
 |str (x:Str):qI K H (.str x) (.type "str")
 |flt (x:UInt64):qI K H (.flt x) (.type "float")
 |lst {a:Addr}{xs:List V}(e:H a=some (.lst xs)):qI K H (.ref a) (.type "list")
 |frz {a:Addr}{o:Obj}{xs:List V}(e:H a=some (.frz o (.lst xs))):qI K H (.ref a) (.type "list")
 |tup {a:Addr}{xs:List V}(e:H a=some (.tup xs)):qI K H (.ref a) (.type "tuple")
 |dK {a:Addr}{kvs:List (Key×V)}(e:H a=some (.dK kvs)):qI K H (.ref a) (.type "dict")
 |dT {a:Addr}{kvs:List (List Key×V)}(e:H a=some (.dT kvs)):qI K H (.ref a) (.type "dict")
 |ins {a C dx:Addr}{fs:List (Str×V)}(e:H a=some (.ins C dx fs)) (cl:Cls K C) (ha:PySem.W.findIn K (.ref C) "__class__" = some (some (.builtin "object.__class__")))
   (hn:PySem.W.specialIn K (.builtin "object.__class__") "__get__" = some (some (.builtin "getset_descriptor.__get__"))) (htk:PySem.W.takesIn K (.builtin "object.__class__")=some true)
   (hm:PySem.W.mroIn K C (.type "object")=some true):qI K H (.ref a) (.ref C)
theorem GJ {x:V}{t:Value}(I:Inv X pins σ H s) (rx:RelV x u) (ty:qI X.K H x t) (e:PySem.W.kitOne X.K t c=some b) (h:∀tk,Q (.bool b) { s with toks:=tk }) :
  wpAny (model X.prog X.w) A (call (.builtin "isinstance") [u,c]) Q E s:=by
 cases ty with
 |non=>cases (show u=Value.none from rx);exact PySem.W.kia_one PySem.W.kitx_none I.jo True.intro e (λz=>nomatch z) h
 |bl y=>cases (show u=Value.bool y from rx);exact PySem.W.kia_one PySem.W.kitx_bool I.jo True.intro e (λz=>nomatch z) h
 |int i=>obtain ⟨t,q⟩:=(show ∃t,u=Value.int i t from rx);cases q;exact PySem.W.kia_one PySem.W.kitx_int I.jo True.intro e (λz=>nomatch z) h
 |str y=>obtain ⟨t,q⟩:=(show ∃t,u=Value.str y t from rx);cases q;exact PySem.W.kia_one PySem.W.kitx_str I.jo True.intro e (λz=>nomatch z) h
 |flt y=>obtain ⟨t,q⟩:=(show ∃t,u=Value.float y t from rx);cases q;exact PySem.W.kia_one PySem.W.kitx_float I.jo True.intro e (λz=>nomatch z) h
 |@lst a xs ea=>
  cases (show u=Value.ref a from rx)
  obtain ⟨_,_,n,_,h1⟩:=(show bw X.prog X.w H s.heap a (.lst xs) from I.hok a _ ea);exact PySem.W.kia_one PySem.W.kitx_list I.jo ⟨_,h1,rfl⟩ e (λz=>nomatch z) h
 |@frz a ob xs ea=>
  cases (show u=Value.ref a from rx)
  obtain ⟨_,_,_,n,_,h1⟩:=(show bw X.prog X.w H s.heap a (.frz ob (.lst xs)) from I.hok a _ ea);exact PySem.W.kia_one PySem.W.kitx_list I.jo ⟨_,h1,rfl⟩ e (λz=>nomatch z) h
 |@tup a xs ea=>
  cases (show u=Value.ref a from rx)
  obtain ⟨_,_,_,p⟩:=(show bw X.prog X.w H s.heap a (.tup xs) from I.hok a _ ea);obtain ⟨o,h1,h2,_⟩:=p;exact PySem.W.kia_one PySem.W.kitx_tuple I.jo ⟨o,h1,h2⟩ e (λz=>nomatch z) h
 |@dK a kvs ea=>
  cases (show u=Value.ref a from rx)
  obtain ⟨_,_,vs,_,p⟩:=(show bw X.prog X.w H s.heap a (.dK kvs) from I.hok a _ ea);obtain ⟨o,es,ep,h1,h2,_⟩:=p;exact PySem.W.kia_one PySem.W.kitx_dict I.jo ⟨o,h1,h2.1⟩ e (λz=>nomatch z) h
 |@dT a kvs ea=>
  cases (show u=Value.ref a from rx)
  obtain ⟨_,_,xs,_,o,es,ep,h1,h2,_⟩:=(show bw X.prog X.w H s.heap a (.dT kvs) from I.hok a _ ea);exact PySem.W.kia_one PySem.W.kitx_dict I.jo ⟨o,h1,h2.1⟩ e (λz=>nomatch z) h
 |@ins a C dx fs ea cl ha hn htk hm=>
  cases (show u=Value.ref a from rx)
  obtain ⟨mA,O,_⟩:=v7 I.hok ea;obtain ⟨od,J,_⟩:=O.look;exact PySem.W.kia_one (PySem.W.kitx_own (cl.get _) cl.hd ha hn htk hm) I.jo J e (λz=>nomatch z) h
end
structure dj (k:Nat) (A:Around):Prop where
 hd:A.handled=none
 dp:A.depth+3 * k+5 < recursionLimit
 un:A.units+16 * k+200 < cLine
 gd:A.guards=some []
theorem dj.mono {k:Nat}{A:Around}(r:dj k A) (h:j<=k):dj j A:=⟨r.hd,by have:=r.dp;omega,by have:=r.un;omega,r.gd⟩
theorem dj.deeper {k:Nat}{A:Around}(r:dj (k+1) A) (env:Env):dj k (A.deeper env):=
 ⟨r.hd,by have:=r.dp;show A.depth+1+3 * k+5 < _;omega,by have:=r.un;show A.units+3+16 * k+200 < _;omega,r.gd⟩
theorem Cu {A:Around}:(A.under (.builtin "type.__call__" ⟨.ref C::us,kw⟩)).depth=A.depth+1:=by
 first | rfl | simp [Around.under,Code.weight,Code.isCreation,Code.isGuard,Code.isCaller,Code.frames,Code.isFrame,guardIds]
theorem Bg {A:Around}:(A.under (.builtin "type.__call__" ⟨.ref C::us,kw⟩)).units=A.units+1:=by
 first | rfl | simp [Around.under,Code.cUnits,Code.frames,Code.isFrame]
theorem dj.make {k:Nat}{A:Around}(r:dj (k+1) A) (C:Addr) (us:List Value) (kw:List (Str×Value)):dj k (A.under (.builtin "type.__call__" ⟨.ref C::us,kw⟩)):=
 ⟨r.hd,by have:=r.dp;rw [Cu];omega,by have:=r.un;rw [Bg];omega,by first | exact r.gd | simp [Around.under,Code.isGuard,guardIds,r.gd]⟩
theorem dj.depth {k:Nat}{A:Around}(r:dj k A):A.depth < recursionLimit:=by have:=r.dp;omega
theorem dj.units {k:Nat}{A:Around}(r:dj k A):A.units+64 < cLine:=by have:=r.un;omega
def Gq:TA:=λ_ H Q=>Q [] H
def qN (ta:TE) (tr:TA):TA:=λσ H Q=>ta σ H λx H1=>tr σ H1 λxs H2=>Q (x::xs) H2
theorem fC:PA X [] Gq:=λ_ _ _ _ H Q I h=>Calls.spliced_nil ⟨[],H,I,.nil,h⟩
theorem m_ (ha:PE X e te) (hr:PA X es t) (hs:starEach (e::es) X.env=(false,eval e X.env)::starEach es X.env:=by rfl):PA X (e::es) (qN te t):=by
 intro pos pins s σ H Q I h;rw [hs];show wpAny _ _ (spliced ((false,eval e X.env)::backTo pos (starEach es X.env))) _ _ s;refine Calls.spliced_cons (cR (ha pins s σ H _ I h) λu s1 ⟨x,H1,I1,r1,q1⟩=>?_);exact cR (hr pos pins s1 σ H1 _ I1 q1) λus s2 ⟨xs,H2,I2,r2,q2⟩=>⟨x::xs,H2,I2,.cons r1 r2,q2⟩
def abH (t:TA):TE:=λσ H Q=>t σ H λxs H1=>xs.length<=sizeLine/\∀p,H1 p=none->Q (.ref p) (upd H1 p (.tup xs))
def abC (t:TA):TE:=λσ H Q=>t σ H λxs H1=>xs.length<=sizeLine/\∀p,H1 p=none->Q (.ref p) (upd H1 p (.lst xs))
theorem V5 {x1} (h:PA X es t):PE X (.Tuple es x1 pos) (abH t):=by
 intro pins s σ H Q I hq;refine wpAny_Tuple_spliced (cR (h pos pins s σ H _ I hq) λus s1 ⟨xs,H1,I1,r,z,q⟩=>⟨by rw [<-r.length];exact z,?_⟩);have hf:H1 s1.heap.objs.size=none:=I1.hok.fresh (zAq _);refine ⟨.ref s1.heap.objs.size,upd H1 s1.heap.objs.size (.tup xs),I1.laid (t':=s1.toks) (λb u e=>zAb _ e) (zAq _) ?_,rfl,q _ hf⟩;exact ⟨z,us,r,⟨_,zAp _ rfl,rfl,_,rfl⟩⟩
theorem Mr (h:PA X es t):PE X (.List es pos) (abC t):=by
 intro pins s σ H Q I hq;refine wpAny_List_spliced (cR (h pos pins s σ H _ I hq) λus s1 ⟨xs,H1,I1,r,z,q⟩=>⟨by rw [<-r.length];exact z,?_⟩);have hf:H1 s1.heap.objs.size=none:=I1.hok.fresh (zAq _);refine ⟨.ref s1.heap.objs.size,upd H1 s1.heap.objs.size (.lst xs),I1.laid (t':=s1.toks) (λb u e=>zAb _ e) (zAq _) ?_,rfl,q _ hf⟩;exact ⟨z,us,0,r,zAp _ rfl⟩
abbrev Sp:=List V->Hp->VK->XK->Prop
abbrev K3:=List Env->Hp->Shared->XK->Value->Shared->Prop
structure uV (P:Program) (w:World) (K:zF) (mg:Str->Option Value) (base:Heap) (A:Around) (outer:List Env) (s:Shared) (H:Hp):Prop where
 frames:A.frames=some outer
 mod:Mod K mg base
 bs:∀b o,base.get? b=some o->s.heap.get? b=some o/\H b=none
 bsz:base.objs.size<=s.heap.objs.size
 mK:s.heap.FunFrames base outer
 frf:∀b∈frs outer,H b=none
 hok:nD P w H s.heap
 bare:AllBare s.gens
def CE (outer:List Env) (P:Program) (w:World) (H:Hp) (s:Shared) (Q:VK) (u:Value) (s':Shared):Prop:=
 ∃v H',s'.os=s.os/\AllBare s'.gens/\Un (frs outer) [] H H' s.heap s'.heap/\nD P w H' s'.heap/\RelV v u/\Q v H'
def CR (CX:K3) (outer:List Env) (P:Program) (w:World) (H:Hp) (s:Shared) (Q:VK) (E:XK) (r:Result) (s':Shared):Prop:=
 match r with
 |.ok (.ret u)=>CE outer P w H s Q u s'
 |.ok _=>False
 |.error e=>CX outer H s E e s'
structure cZ (P:Program) (w:World) (K:zF) (mg:Str->Option Value) (base:Heap) (CX:K3) (k:Nat) (f:Addr) (fd:FuncData) (ps:List Str) (sp:Sp):Prop where
 len:∀vs H Q E,sp vs H Q E->vs.length=ps.length
 run:∀(A:Around) (outer:List Env) (s:Shared) (H:Hp) (args:Args) (us:List Value) (vs:List V) (Q:VK) (E:XK),dj k A->uV P w K mg base A outer s H->BindsTo s fd args (ps.zip us)->Vals vs us->sp vs H Q E ->
  codeAny (model P w) A (.call (.ref f) args) (CR CX outer P w H s Q E) s
theorem cZ.mono {P:Program}{w:World}{K:zF}{mg:Str->Option Value}{base:Heap}{CX:K3}{j k:Nat}{f:Addr}{fd:FuncData}{ps:List Str}{sp:Sp}(F:cZ P w K mg base CX j f fd ps sp) (h:j<=k) :
  cZ P w K mg base CX k f fd ps sp:=⟨F.len,λA outer s H args us vs Q E hr=>F.run A outer s H args us vs Q E (hr.mono h)⟩
theorem cZ.imp {k:Nat}{f:Addr}{sp':Sp}(F:cZ P w K mg base CX k f fd ps sp)
  (h:∀vs H Q E,sp' vs H Q E->sp vs H Q E):cZ P w K mg base CX k f fd ps sp':=
 ⟨λvs H Q E q=>F.len vs H Q E (h _ _ _ _ q),λA outer s H args us vs Q E hr he hb hv hs=>F.run A outer s H args us vs Q E hr he hb hv (h _ _ _ _ hs)⟩
theorem uV.make {A:Around}(e:uV P w K mg base A outer s H) (C:Addr) (us:List Value) (kw:List (Str×Value)) :
  uV P w K mg base (A.under (.builtin "type.__call__" ⟨.ref C::us,kw⟩)) outer s H:=⟨by first | exact e.frames | (simpa [Around.under,Code.envs,Code.isFrame,pushEnvs] using e.frames),e.mod,e.bs,e.bsz,e.mK,e.frf,e.hok,e.bare⟩
theorem Inv.env0 (I:Inv X pins σ H s):uV X.prog X.w X.K X.mg X.base X.A X.stack s H:=
 ⟨I.ok.frames,I.ok.mod,I.bs,zAB I.ok.bsz I.sz,I.stack,I.sJ,I.hok,I.bare⟩
theorem Inv.after {Q:VK}(I:Inv X pins σ H s) (h:CE X.stack X.prog X.w H s Q u s'):EP X pins σ Q u s':=by
 obtain ⟨v,H',os,bare,un,hok,r,q⟩:=h;obtain ⟨hh,g,d,t,os'⟩:=s';obtain rfl:os'=s.os:=os;exact ⟨v,H',I.call (h':=hh) (g':=g) (d':=d) (t':=t) (ch:=[]) un hok bare (λb z=>absurd z (by simp)),r,q⟩
def Fo (sp:Sp) (dvs:List V) (E:XK) (t:TA):TE:=λσ H Q=>t σ H λvs H1=>sp (vs++dvs) H1 Q E
def Binds (K:zF) (fd:FuncData) (ps:List Str) (ds:List Value):Prop:=
 ∀(s:Shared) (us:List Value),K.In s.heap->(us++ds).length=ps.length->BindsTo s fd ⟨us,[]⟩ (ps.zip (us++ds))
theorem Binds.all (h:∀us:List Value,us.length=ps.length->bindArgs fd ⟨us,[]⟩=pure (ps.zip us)):Binds K fd ps []:=λs us _ hl=>by
 rw [zAO] at hl ⊢;exact .of_eq (h us hl)
def Passes (CX:K3) (X:Cx) (E:XK):Prop:=∀(pins:List (Addr×Obj)) (σ:St) (H:Hp) (s:Shared) (e:Value) (s':Shared),Inv X pins σ H s->CX X.stack H s E e s'->X.xe e s'
section
variable {k:Nat}{f:Addr}{dvs:List V}{ds:List Value}{E:XK}{x m:Str}{p apos:Pos}{o:Expr}
theorem Wz {Q:VK}(F:cZ X.prog X.w X.K X.mg X.base CX k f fd ps sp) (hr:dj k X.A) (hb:Binds X.K fd ps ds) (hd:Vals dvs ds) (hx:Passes CX X E)
  (I:Inv X pins σ H s) (r:Vals vs us) (h:sp (vs++dvs) H Q E):wpAny (model X.prog X.w) X.A (call (.ref f) us) (EP X pins σ Q) X.xe s:=by
 have r2:Vals (vs++dvs) (us++ds):=r.append hd;have hl:(us++ds).length=ps.length:=by rw [<-r2.length];exact F.len _ _ _ _ h
 refine zCj (codeAny_mono (F.run X.A X.stack s H ⟨us,[]⟩ (us++ds) (vs++dvs) Q E hr I.env0 (hb s us I.jo hl) r2 h) λr s' hq=>?_);cases r with
 |error e=>exact hx pins σ H s e s' I hq
 |ok fl=>
  cases fl with
  |ret u=>exact I.after hq
  |next=>exact False.elim hq
  |brk=>exact False.elim hq
  |cont=>exact False.elim hq
theorem Fw (F:cZ X.prog X.w X.K X.mg X.base CX k f fd ps sp) (hr:dj k X.A) (hg:Gl X x) (hm:X.mg x=some (.ref f)) (hk:PySem.W.keepIn X.K (.ref f)=true) (hb:Binds X.K fd ps ds) (hd:Vals dvs ds) (hx:Passes CX X E)
  (ha:PA X (e::es) t) (hdb:(x==("__debug__" : Str))=false:=by decide) (he:starEach (e::es) X.env=(false,eval e X.env)::starEach es X.env:=by rfl) (hpl:(backTo pos (starEach es X.env)).any (·.1)=false:=by rfl) :
  PE X (.Call (.Name x p) (e::es) [] pos) (Fo sp dvs E t):=by
 intro pins s σ H Q I h;refine zBt (lq I hg hm ?_ hdb);refine PySem.W.callWith_K (h₀:=X.base) I.ok.mod.kin hk (cR (ha pos pins s σ H _ I h) λus s1 ⟨vs,H1,I1,r,q⟩=>⟨I1.jo,?_⟩) he hpl;exact Wz F hr hb hd hx I1 r q
structure Mk (K:zF) (C f:Addr):Prop where
 makes:PySem.W.makesIn K C=true
 init:PySem.W.findIn K (.ref C) "__init__" = some (some (.ref f))
 fn:PySem.W.isFn K (.ref f)=true
 kp:PySem.W.keepIn K (.ref C)=true
end
structure aU (N P:List Str) (sc:Scope):Prop where
 kind:sc.kind=.function
 co:sc.isCoroutine=false
 gen:sc.isGenerator=false
 nd:N.Nodup
 pre:N.take P.length=P
 par:∀x∈P,sc.names.lookup x=some .local∨sc.names.lookup x=some .cell
 nofree:∀y∈sc.names,y.2≠.free
theorem vh {kindOf:Str->Option NameKind}{x:Str}:∀{binds:List (Str×Value)}{m:Str->Option Value},(∀v,(x,v)∉binds)->bindL kindOf binds m x=m x
 |[],_,_=>rfl
 |(n,v)::r,m,h=>by
  unfold bindL;rw [vh λw hw=>h w (zAf _ hw)];split
  ·have:x≠n:=by rintro rfl;exact h v zAm
   simp [this]
  ·rfl
theorem vB {kindOf:Str->Option NameKind}{x:Str}:∀{binds:List (Str×Value)}{m:Str->Option Value},(∀v,(x,v)∉binds)->bindC kindOf binds m x=m x
 |[],_,_=>rfl
 |(n,v)::r,m,h=>by
  unfold bindC;rw [vB λw hw=>h w (zAf _ hw)];split
  ·rfl
  ·have:x≠n:=by rintro rfl;exact h v zAm
   simp [this]
theorem vQ {kindOf:Str->Option NameKind}{x:Str}{v:Value}:∀{P:List Str}{vs:List Value}{i:Nat}{m:Str->Option Value},P.Nodup->P[i]?=some x->vs[i]?=some v->kindOf x=some .local ->
  bindL kindOf (P.zip vs) m x=some v
 |[],_,_,_,_,h,_,_=>by simp at h
 |_::_,[],_,_,_,_,h,_=>by simp at h
 |p::P,w::vs,0,m,nd,h1,h2,hk=>by
  simp at h1 h2;subst h1;subst h2;show bindL kindOf ((p,w)::P.zip vs) m p=_;unfold bindL;rw [vh λv hv=>(List.nodup_cons.mp nd).1 (List.of_mem_zip hv).1,if_pos hk];simp
 |p::P,w::vs,i+1,m,nd,h1,h2,hk=>by
  show bindL kindOf ((p,w)::P.zip vs) m x=_;unfold bindL;exact vQ (i:=i) (List.nodup_cons.mp nd).2 (by simpa using h1) (by simpa using h2) hk
theorem vO {kindOf:Str->Option NameKind}{x:Str}{v:Value}:∀{P:List Str}{vs:List Value}{i:Nat}{m:Str->Option Value},P.Nodup->P[i]?=some x->vs[i]?=some v->kindOf x≠some .local ->
  bindC kindOf (P.zip vs) m x=some v
 |[],_,_,_,_,h,_,_=>by simp at h
 |_::_,[],_,_,_,_,h,_=>by simp at h
 |p::P,w::vs,0,m,nd,h1,h2,hk=>by
  simp at h1 h2;subst h1;subst h2;show bindC kindOf ((p,w)::P.zip vs) m p=_;unfold bindC;rw [vB λv hv=>(List.nodup_cons.mp nd).1 (List.of_mem_zip hv).1,if_neg hk];simp
 |p::P,w::vs,i+1,m,nd,h1,h2,hk=>by
  show bindC kindOf ((p,w)::P.zip vs) m x=_;unfold bindC;exact vO (i:=i) (List.nodup_cons.mp nd).2 (by simpa using h1) (by simpa using h2) hk
def start (N:List Str) (vs:List V):St:=vs.map some++List.replicate (N.length-vs.length) none
def oM (CX:K3) (P:Program) (w:World) (K:zF) (mg:Str->Option Value) (base:Heap) (N:List Str) (qual:Str) (scope:Scope) (f:Addr) (cd:Value) (A:Around) (outer:List Env) (s:Shared) (H:Hp) (E:XK):Cx where
 prog:=P
 w:=w
 K:=K
 mg:=mg
 base:=base
 A:=A.deeper (envOfC qual scope s.heap.objs.size f cd)
 N:=N
 s₀:=s
 H₀:=H
 env:=envOfC qual scope s.heap.objs.size f cd
 outer:=outer
 stack:=envOfC qual scope s.heap.objs.size f cd::outer
 ex:=[]
 calm:=true
 cool:=true
 fn:=λ_=>true
 pn:=[]
 xe:=λe s'=>wpAny (model P w) (A.deeper (envOfC qual scope s.heap.objs.size f cd)) (leaving (envOfC qual scope s.heap.objs.size f cd) e) (λ_ s''=>CX outer H s E e s'') (λe' s''=>CX outer H s E e' s'') s'
theorem yW {sc:Scope}{n:Nat}{x:Str}(h:sc.names.lookup x=some .cell):∃c,(cellsFrom n sc.names []).lookup x=some c:=by
 have q:=PySem.W.cellsFrom_some sc.names n [] (.inl h);exact Option.isSome_iff_exists.mp q
theorem vK {f:Addr}{cd:Value}{A:Around}{s1:Shared}{E:XK}
  (S:aU N ps scope) (hd:A.handled=none) (e0:uV P w K mg base A outer s H) (hl:vs.length=ps.length) (r:Vals vs us)
  (x:InCallC s s.heap.objs.size (bindL (envOfC qual scope s.heap.objs.size f cd).kindOf (ps.zip us) λ_=>none) (cellsFrom (s.heap.objs.size+1) scope.names []) (bindC (envOfC qual scope s.heap.objs.size f cd).kindOf (ps.zip us) λ_=>none) s1) :
  Inv (oM CX P w K mg base N qual scope f cd A outer s H E) [] (start N vs) H s1:=by
 have hpl:ps.length<=N.length:=by have:=congrArg List.length S.pre;rw [zAW] at this;omega
 obtain ⟨h1,tk,rfl,hk⟩:=x.done;have noA:∀b:Addr,b∉(oM CX P w K mg base N qual scope f cd A outer s H E).ex:=λb z=>absurd (show b∈([]:List Addr) from z) (by simp);refine ⟨⟨e0.mod,S.kind,rfl,rfl,zAq _,λy z c h1 h2=>?_,λy hy=>?_,λy c _ h=>?_,λ_=>.inl hd,Around.frames_deeper e0.frames,.inr ⟨rfl,rfl⟩,λb z=>absurd z (noA b),e0.bs,e0.bsz,λb _ _=>noA b,λb z=>absurd z (noA b),e0.mK,e0.frf,λ_=>hd⟩,
  rfl,e0.bare,Un.kept hk,⟨_,x.toInCall.ns,λi y v h1 h2 h3=>?_⟩,λy c h=>⟨_,x.cell y c h⟩,e0.hok.fresh (zAq _),λy c h=>?_,λp hp=>absurd (show p∈([]:List (Addr×Obj)) from hp) (by simp),e0.hok.kept hk,?_⟩
 ·exact name_of_addr x.apart (PySem.mem_of_lookup h1) (PySem.mem_of_lookup h2)
 ·have hy:scope.names.lookup y=some .cell∨scope.names.lookup y=some .free:=hy;rcases hy with hy | hy
  ·exact yW hy
  ·exact absurd rfl (S.nofree _ (PySem.mem_of_lookup hy))
 ·exact zBA (x.above y c (PySem.mem_of_lookup h))
 ·have hi:i < vs.length:=by
   unfold start at h2;by_cases hi:i < vs.length
   ·exact hi
   ·rw [zAw (by simpa using hi)] at h2;rw [zBW] at h2;split at h2<;>cases h2
  have ha:vs[i]?=some v:=by
   unfold start at h2;rw [zAj (by simpa using hi),zAk] at h2;cases e:vs[i]? with
   |none=>rw [e] at h2;cases h2
   |some a=>rw [e] at h2;cases h2;rfl
  obtain ⟨u,hu,rv⟩:=r.get ha;have hp:ps[i]?=some y:=by
   rw [<-S.pre,zBg (by omega)];exact h1
  have ndP:ps.Nodup:=by rw [<-S.pre];exact S.nd.sublist (List.take_sublist _ _)
  refine ⟨u,rv,?_⟩;rcases S.par y (zAh hp) with k | k
  ·exact .inl ⟨k,vQ ndP hp hu k⟩
  ·obtain ⟨c,e⟩:=yW (n:=s.heap.objs.size+1) k;refine .inr ⟨.inl k,c,e,?_⟩;have q:=x.cell y c e;rw [vO ndP hp hu (by show scope.names.lookup y≠_;rw [k];decide)] at q;exact q
 ·exact e0.hok.fresh (zBA (x.above y c (PySem.mem_of_lookup h)))
 ·unfold start;show _=N.length;rw [zAy,zAn,zCf];omega
theorem RB {k:Nat}{f:Addr}{params:Arguments}{dV kV doc pm cdv ct oc:Value}{an od:Option Addr}
  {osl:Array (Option Value)}(lk:K.lookup f=some ⟨oc,od,.func (PySem.W.fnOf name qual params body scope dV kV doc pm an cdv ct),osl⟩) (hcd:PySem.W.codeIn K cdv qual=true) (S:aU N ps scope)
  (len:∀vs H Q E,sp vs H Q E->vs.length=ps.length)
  (hbody:∀(A:Around) (outer:List Env) (s:Shared) (H:Hp) (vs:List V) (Q:VK) (E:XK),dj k (A.deeper (envOfC qual scope s.heap.objs.size f cdv))->sp vs H Q E ->
   ∃t,rW (oM CX P w K mg base N qual scope f cdv A outer s H E) body t/\t { nx:=λ_ H'=>Q .non H',rt:=Q } (start N vs) H) :
  cZ P w K mg base CX (k+1) f (PySem.W.fnOf name qual params body scope dV kV doc pm an cdv ct) ps sp:=by
 refine ⟨len,λA outer s H args us vs Q E hr e0 hb r hsp=>?_⟩;have hl:=len _ _ _ _ hsp;have KX:K.In s.heap:=e0.mod.kin.keeps λb o e=>(e0.bs b o e).1;have lim:s.heap.NoLimit:=e0.mod.nolimit.keeps λb o e=>(e0.bs b o e).1;have hkind:∀y∈ps.zip us,scope.names.lookup y.1=some .local∨(scope.names.lookup y.1=some .cell/\((cellsFrom (s.heap.objs.size+1) scope.names []).lookup y.1).isSome=true):=λ⟨n,v⟩ hy=>by
  rcases S.par n (List.of_mem_zip hy).1 with q | q
  ·exact .inl q
  ·exact .inr ⟨q,PySem.W.cellsFrom_some _ _ _ (.inl q)⟩
 refine codeAny_call_function hr.depth (KX _ _ lk) rfl S.co S.gen rfl (PySem.W.codeRec_of KX hcd) (hb _ _ _ _ ?_);refine wpAny_newFunctionEnv_cells S.kind hkind λenv he s1 x=>?_;subst he;refine ⟨lim.keeps x.toInCall.keep,codeAny_func ?_⟩;obtain ⟨t,ht,hq⟩:=hbody A outer s H vs Q E (hr.deeper _) hsp;have I:Inv (oM CX P w K mg base N qual scope f cdv A outer s H E) [] (start N vs) H s1:=vK S hr.hd e0 hl r x;refine zBK (ht [] s1 (start N vs) H _ I hq) (λfl s' hs=>?_) λe s' hs=>hs;have fin:∀{σ':St}{H':Hp}{v:V}{u:Value},Inv (oM CX P w K mg base N qual scope f cdv A outer s H E) [] σ' H' s'->RelV v u->Q v H'->CE outer P w H s Q u s':=
  λ{σ' H' v u} J rv q=>⟨v,H',J.os,J.bare,J.base,J.hok,rv,q⟩
 cases fl with
 |ret u=>
  obtain ⟨v,σ',H',J,rv,q⟩:=hs;exact fin J rv q
 |next=>
  obtain ⟨σ',H',J,q⟩:=hs;exact fin (v:=V.non) (u:=Value.none) J rfl q
 |brk=>
  obtain ⟨_,_,_,q⟩:=hs;exact False.elim q
 |cont=>
  obtain ⟨_,_,_,q⟩:=hs;exact False.elim q
section
variable {x:Str}{p:Pos}{id T:String}{r:List V->Hp->VK->Prop}
def Xn (r:List V->Hp->VK->Prop) (t:TA):TE:=λσ H Q=>t σ H λvs H1=>r vs H1 Q
theorem iT (hc:g8 X (.builtin id) r) (hg:Gl X x) (hm:X.mg x=none) (hv:bootBuiltins x=some (.builtin id)) (ha:PA X (e::es) t) (hn:x ≠ "__name__" := by decide) (hdb:(x==("__debug__" : Str))=false:=by decide)
  (he:starEach (e::es) X.env=(false,eval e X.env)::starEach es X.env:=by rfl) (hpl:(backTo pos (starEach es X.env)).any (·.1)=false:=by rfl):PE X (.Call (.Name x p) (e::es) [] pos) (Xn r t):=by
 intro pins s σ H Q I h;refine zBt (qD I hg hm hv ?_ hn hdb);exact PyProof.Rows.callWith_builtin1 (cR (ha pos pins s σ H _ I h) λus s1 ⟨vs,H1,I1,r1,q1⟩=>hc pins s1 σ H1 vs us Q I1 r1 q1) he hpl
theorem j7 (hc:g8 X (.type T) r) (hg:Gl X x) (hm:X.mg x=none) (hv:bootBuiltins x=some (.type T)) (ha:PA X (e::es) t) (hn:x ≠ "__name__" := by decide) (hdb:(x==("__debug__" : Str))=false:=by decide)
  (he:starEach (e::es) X.env=(false,eval e X.env)::starEach es X.env:=by rfl) (hpl:(backTo pos (starEach es X.env)).any (·.1)=false:=by rfl):PE X (.Call (.Name x p) (e::es) [] pos) (Xn r t):=by
 intro pins s σ H Q I h;refine zBt (qD I hg hm hv ?_ hn hdb);exact PyProof.Rows.callWith_type1 (cR (ha pos pins s σ H _ I h) λus s1 ⟨vs,H1,I1,r1,q1⟩=>hc pins s1 σ H1 vs us Q I1 r1 q1) he hpl
end
end L2
namespace HT
open PySem PyProof.Rows
section
variable {prog:Program}{w:World}{A:Around}{E:zV}{s:Shared}
def nG (n d:Nat):Option Int->Nat
 |none=>d
 |some v=>if v < 0 then (v+(n:Int)).toNat else min v.toNat n
theorem mG (n d:Nat):nG n d none=d:=rfl
theorem pK (n d k:Nat):nG n d (some (k:Int))=min k n:=by
 show (if (k:Int) < 0 then ((k:Int)+(n:Int)).toNat else min (k:Int).toNat n)=min k n;rw [if_neg (by omega),zBd]
end
end HT
namespace L2
open PySem PySem.Spec PyProof.Rows
variable {X:Cx}{r:V->Option Int->Option Int->Hp->VK->Prop}{i:Int}{t':Nat}
abbrev TO:=St->Hp->(Option Int->Hp->Prop)->Prop
def PO (X:Cx) (e:Option Expr) (t:TO):Prop:=
 ∀(pins:List (Addr×Obj)) (s:Shared) (σ:St) (H:Hp) (Q:Option Int->Hp->Prop),Inv X pins σ H s->t σ H Q ->
  wpAny (model X.prog X.w) X.A (evalPart e X.env) (λu s'=>∃o H',Inv X pins σ H' s'/\IsPart u o/\Q o H') X.xe s
def Q6:TO:=λ_ H Q=>Q none H
def YC (t:TE):TO:=λσ H Q=>t σ H λx H1=>∃i,x=.int i/\Q (some i) H1
section
variable {e:Expr}{te:TE}{lo hi:Option Expr}{tl th:TO}{pos p2:Pos}
theorem Qh:PO X none Q6:=by
 intro pins s σ H Q I h;rw [evalPart_none];exact zAd ⟨none,H,I,.none,h⟩
theorem Qq (h:PE X e te):PO X (some e) (YC te):=by
 intro pins s σ H Q I hw;rw [evalPart_some];refine cR (h pins s σ H _ I hw) λu s1 ⟨x,H1,I1,r1,q1⟩=>?_;obtain ⟨i,rfl,q⟩:=q1;obtain ⟨t,rfl⟩:=r1;exact ⟨some i,H1,I1,.int i t,q⟩
def Xp (X:Cx) (r:V->Option Int->Option Int->Hp->VK->Prop):Prop:=
 ∀(pins:List (Addr×Obj)) (s:Shared) (σ:St) (H:Hp) (x:V) (v vl vu:Value) (lo hi:Option Int) (sl:Addr) (Q:VK),Inv X pins σ H s->RelV x v->s.heap.IsSliceOf sl vl vu .none->IsPart vl lo->IsPart vu hi->r x lo hi H Q ->
  ∃T id,typeLookup (.type T) "__getitem__" = pure (some (.builtin id))/\s.TypeIs v T/\wpAny (model X.prog X.w) X.A (getItem v (.ref sl)) (EP X pins σ Q) X.xe s
theorem Xp.or {r':V->Option Int->Option Int->Hp->VK->Prop}(h:Xp X r) (h':Xp X r'):Xp X (λx lo hi H Q=>r x lo hi H Q∨r' x lo hi H Q):=by
 intro pins s σ H x v vl vu lo hi sl Q I rx hs pl pu q;rcases q with q | q
 ·exact h pins s σ H x v vl vu lo hi sl Q I rx hs pl pu q
 ·exact h' pins s σ H x v vl vu lo hi sl Q I rx hs pl pu q
def tSl (r:V->Option Int->Option Int->Hp->VK->Prop) (te:TE) (tl th:TO):TE:=λσ H Q=>te σ H λx H1=>tl σ H1 λl H2=>th σ H2 λu H3=>r x l u H3 Q
theorem yL (hr:Xp X r) (he:PE X e te) (hl:PO X lo tl) (hu:PO X hi th):PE X (.Subscript e (.Slice lo hi none p2) pos) (tSl r te tl th):=by
 intro pins s σ H Q I h;refine Subscript_ (cR (he pins s σ H _ I h) λv s1 ⟨x,H1,I1,r1,q1⟩=>?_);refine wpAny_Slice (cR (hl pins s1 σ H1 _ I1 q1) λvl s2 ⟨l,H2,I2,pl,q2⟩=>cR (hu pins s2 σ H2 _ I2 q2) λvu s3 ⟨u,H3,I3,pu,q3⟩=>?_);rw [evalPart_none];refine zAd ?_;have I4:Inv X pins σ H3 { s3 with heap:=s3.heap.push { cls:=.type "slice", data:=.fields #[vl,vu,.none] } }:=I3.kept (t':=s3.toks) λb ob q=>zAb _ q;obtain ⟨T,id,hT,ht,hg⟩:=hr pins { s3 with heap:=s3.heap.push { cls:=.type "slice", data:=.fields #[vl,vu,.none] } } σ H3 x v vl vu l u s3.heap.objs.size Q I4 r1 (Heap.IsSliceOf.new ..) pl pu q3;show wpAny (model X.prog X.w) X.A (subscriptTail e (.Slice lo hi none p2) v (.ref s3.heap.objs.size)) (EP X pins σ Q) X.xe { s3 with heap:=s3.heap.push { cls:=.type "slice", data:=.fields #[vl,vu,.none] } };exact tail_any (ops:=[.ref s3.heap.objs.size,v]) ht hT hg (by with_unfolding_all rfl)
def yj (xs:List V) (lo hi:Option Int):List V:=(xs.drop (HT.nG xs.length 0 lo)).take (HT.nG xs.length xs.length hi-HT.nG xs.length 0 lo)
theorem yK (xs:List V) (lo hi:Option Int):(yj xs lo hi).length<=xs.length:=by
 unfold yj;rw [zAW,zBC];omega
def acR (K:zF):V->Option Int->Option Int->Hp->VK->Prop:=λx lo hi H Q=>∃a xs,x=.ref a/\iG K H a xs /\
 ¬(HT.nG xs.length 0 lo=0/\HT.nG xs.length xs.length hi=xs.length)/\∀p,H p=none->Q (.ref p) (upd H p (.tup (yj xs lo hi)))
end
def Ib (n:Nat) (i:Int):Option Nat:=if 0<=i then (if i < n then some i.toNat else none) else if -(n:Int)<=i then some (i+n).toNat else none
def nQ {α:Type}(xs:List α) (i:Int):Option α:=(Ib xs.length i).bind λj=>xs[j]?
theorem DK {n:Nat}{j:Nat}(h:Ib n i=some j):seqIndex? i n=some j/\j < n/\-(n:Int)<=i/\i < n:=by
 unfold Ib at h;by_cases h0:0<=i
 ·rw [if_pos h0] at h;by_cases h1:i < n
  ·rw [if_pos h1] at h;have e:i.toNat=j:=Option.some.inj h;exact ⟨by rw [seqIndex_of h0 h1,e],by omega,by omega,h1⟩
  ·rw [if_neg h1] at h;cases h
 ·rw [if_neg h0] at h;by_cases h1:-(n:Int)<=i
  ·rw [if_pos h1] at h;have e:(i+n).toNat=j:=Option.some.inj h;exact ⟨by rw [seqIndex_neg (by omega) h1,e],by omega,h1,by omega⟩
  ·rw [if_neg h1] at h;cases h
theorem vX {α:Type}{xs:List α}{v:α}(h:nQ xs i=some v):∃j,seqIndex? i xs.length=some j/\xs[j]?=some v/\j < xs.length/\-(xs.length:Int)<=i/\i < xs.length:=by
 unfold nQ at h;cases e:Ib xs.length i with
 |none=>rw [e] at h;cases h
 |some j=>
  rw [e] at h;obtain ⟨h1,h2,h3,h4⟩:=DK e;exact ⟨j,h1,h,h2,h3,h4⟩
def rK (b:Expr):Prop:=∀o i,subscripted b false o i=operate [o,i] (getItem o i)
def H_ (X:Cx) (r:R2):Prop:=
 ∀(value slice:Expr) (pins:List (Addr×Obj)) (s:Shared) (σ:St) (H:Hp) (x y:V) (v u:Value) (Q:VK),Inv X pins σ H s->RelV x v->RelV y u->r x y H Q ->
  subscripted slice false v u=operate [v,u] (getItem v u)->wpAny (model X.prog X.w) X.A (subscriptTail value slice v u) (EP X pins σ Q) X.xe s
def Z6 (X:Cx) (id:String) (r:V->List V->Hp->VK->Prop):Prop:=
 ∀(pins:List (Addr×Obj)) (s:Shared) (σ:St) (H:Hp) (x:V) (xs:List V) (v:Value) (us:List Value) (Q:VK),Inv X pins σ H s->RelV x v->Vals xs us->r x xs H Q ->
  wpAny (model X.prog X.w) X.A (call (.builtin id) (v::us)) (EP X pins σ Q) X.xe s
section
variable {X:Cx}{a b:Expr}{ta tb:TE}{pos:Pos}
theorem H_.or {r r':R2}(h:H_ X r) (h':H_ X r'):H_ X (λx y H Q=>r x y H Q∨r' x y H Q):=by
 intro value slice pins s σ H x y v u Q I rx ry q hs;rcases q with q | q
 ·exact h value slice pins s σ H x y v u Q I rx ry q hs
 ·exact h' value slice pins s σ H x y v u Q I rx ry q hs
theorem Yi {r:R2}(hr:H_ X r) (ha:PE X a ta) (hb:PE X b tb) (hs:rK b):PE X (.Subscript a b pos) (Xi r ta tb):=by
 intro pins s σ H Q I h;exact Subscript_ (WM ha hb I h λv u s2 x y H2 I2 rx ry q=>hr a b pins s2 σ H2 x y v u Q I2 rx ry q (hs _ _))
def YT (K:zF):R2:=λx y H Q=>∃p xs i v,x=.ref p/\y=.int i/\cB K H p xs/\nQ xs i=some v/\Q v H
def YL (K:zF):R2:=λx y H Q=>∃p xs i v,x=.ref p/\y=.int i/\iG K H p xs/\nQ xs i=some v/\Q v H
def ZS:R2:=λx y H Q=>∃z i c,x=.str z/\y=.int i/\z.length<=sizeLine/\nQ z.cps.toList i=some c/\Q (.str ⟨#[c]⟩) H
theorem NT:H_ X (YT X.K):=by
 intro value slice pins s σ H x y v u Q I rx ry h hs;obtain ⟨p,xs,i,z,rfl,rfl,hq,he,q⟩:=h;cases rx
 obtain ⟨t,rfl⟩:=ry;obtain ⟨its,r,pl,hz⟩:=I.list hq;obtain ⟨j,h1,h2,h3,h4,h5⟩:=vX he;obtain ⟨w,ew,rw'⟩:=r.get h2;have hl:=r.length;have hn:=oK;have fin:EP X pins σ Q w s:=⟨z,H,I,rw',q⟩;by_cases h0:0<=i
 ·have hj:i.toNat=j:=by
   rw [seqIndex_of h0 h5] at h1;exact Option.some.inj h1
  exact item_listR pl.isList h0 (by omega) (by rw [hj];simpa using ew) fin hs
 ·have hj:(i+(its.toArray.size:Int)).toNat=j:=by
   rw [seqIndex_neg (by omega) h4] at h1;rw [zAo,<-hl];exact Option.some.inj h1
  exact subscriptTail_builtinR (x:=w) pl.isList.typeIs slot_list_getitem.lookup
   (wpAny_getItem_list_neg (Q:=λr s'=>r=w/\EP X pins σ Q r s') pl.isList (by omega) (by rw [zAo]<;>omega) (by omega) (by rw [hj];simpa using ew) ⟨rfl,fin⟩) hs
theorem Ww:H_ X (YL X.K):=by
 intro value slice pins s σ H x y v u Q I rx ry h hs;obtain ⟨p,xs,i,z,rfl,rfl,hq,he,q⟩:=h;cases rx
 obtain ⟨t,rfl⟩:=ry;obtain ⟨its,r,pl,hz⟩:=I.tuple hq;obtain ⟨j,h1,h2,h3,h4,h5⟩:=vX he;obtain ⟨w,ew,rw'⟩:=r.get h2;have hl:=r.length;have hn:=oK;have fin:EP X pins σ Q w s:=⟨z,H,I,rw',q⟩;exact subscriptTail_builtinR (x:=w) pl.typeIs slot_tuple_getitem.lookup
  (getItem_tuple (j:=j) (Q:=λr s'=>r=w/\EP X pins σ Q r s') pl (by omega) (by omega) (by rw [zAo,<-hl];exact h1) (by simpa using ew) ⟨rfl,fin⟩) hs
theorem Uu:H_ X ZS:=by
 intro value slice pins s σ H x y v u Q I rx ry h hs;obtain ⟨z,i,c,rfl,rfl,hz,he,q⟩:=h;obtain ⟨t,rfl⟩:=rx;obtain ⟨t',rfl⟩:=ry;obtain ⟨j,h1,h2,h3,h4,h5⟩:=vX he;have hl:z.cps.toList.length=z.length:=by simp [Str.length]
 rw [hl] at h1 h4 h5;have hn:=oK;exact tail_any (typeIs_str s z t) slot_str_getitem.lookup (getItem_str (c:=c) (by
  have e1:decide (i < -(2 ^ 63:Int))=false:=decide_eq_false (by omega);have e2:decide (i≥2 ^ 63)=false:=decide_eq_false (by omega);rw [e1,e2,Bool.or_false]) (by rw [h1];simpa using h2) ⟨.str ⟨#[c]⟩,H,I.tok _,⟨_,rfl⟩,q⟩) hs
def rIx (K:zF):R2:=λx y H Q=>YT K x y H Q∨YL K x y H Q∨ZS x y H Q
theorem Wg:H_ X (rIx X.K):=NT.or (Ww.or Uu)
theorem Cz (its:List Value) (n j:Nat) (u:Value):Obj.mapSeq (·.setIfInBounds j u) { cls:=.type "list", data:=.seq its.toArray n }={ cls:=.type "list", data:=.seq (its.set j u).toArray n }:=by
 simp [Obj.mapSeq]
theorem Inv.lst {pins:List (Addr×Obj)}{σ:St}{H:Hp}{s:Shared}{p:Addr}{xs:List V}(I:Inv X pins σ H s) (h:H p=some (.lst xs)) :
  ∃(its:List Value) (n:Nat),Vals xs its/\s.heap.get? p=some { cls:=.type "list", data:=.seq its.toArray n }/\xs.length<=sizeLine:=by
 obtain ⟨z,its,n,r,e⟩:=I.hok p _ h;exact ⟨its,n,r,e,z⟩
theorem Inv.W2 {pins:List (Addr×Obj)}{σ:St}{H:Hp}{s:Shared}{p:Addr}{xs ys:List V}{its its':List Value}{n n':Nat}{f:Obj->Obj}(I:Inv X pins σ H s) (h:H p=some (.lst xs))
  (ho:s.heap.get? p=some { cls:=.type "list", data:=.seq its.toArray n }) (hf:f { cls:=.type "list", data:=.seq its.toArray n }={ cls:=.type "list", data:=.seq its'.toArray n' }) (r:Vals ys its') (hz:ys.length<=sizeLine) (t:Nat) :
  Inv X pins σ (upd H p (.lst ys)) { s with heap:=s.heap.update p f,toks:=t }:=by
 have e:(s.heap.update p f).get? p=some { cls:=.type "list", data:=.seq its'.toArray n' }:=by
  rw [zAD f ho (by rw [hf]<;>rfl),hf]
 refine I.write (x:=p) (e:=p) (by rw [h];trivial) (.inl rfl) (λb u hb q=>(zAt _ _ (Ne.symm hb)).trans q) ⟨_,e⟩ ?_;exact ⟨hz,its',n',r,e⟩
def Iv:V->V->V->Hp->(Hp->Prop)->Prop:=λo i v H Q=>∃p xs k j,o=.ref p/\i=.int k/\H p=some (.lst xs)/\Ib xs.length k=some j/\Q (upd H p (.lst (xs.set j v)))
theorem set_list:LR X Iv:=by
 intro pins s σ H o i v ov iv u Q I ro ri rv h;obtain ⟨p,xs,k,j,rfl,rfl,hp,hj,q⟩:=h;cases ro
 obtain ⟨t,rfl⟩:=ri;obtain ⟨its,n,r,ho,hz⟩:=I.lst hp;obtain ⟨h1,h2,h3,h4⟩:=DK hj;have hl:=r.length;have hn:=oK;have I':Inv X pins σ (upd H p (.lst (xs.set j v))) { s with heap:=s.heap.update p (Obj.mapSeq (·.setIfInBounds j u)) }:=
  I.W2 hp ho (Cz its n j u) (r.set rv j) (by rw [zBa];exact hz) s.toks
 by_cases h0:0<=k
 ·have hk:k.toNat=j:=by
   rw [seqIndex_of h0 h4] at h1;exact Option.some.inj h1
  exact PySem.W.ki_setAt ho h0 (by omega) (by rw [zAo,<-hl];exact h4) (by rw [hk];exact ⟨_,I',q⟩)
 ·have hk:(k+(its.toArray.size:Int)).toNat=j:=by
   rw [seqIndex_neg (by omega) h3] at h1;rw [zAo,<-hl];exact Option.some.inj h1
  exact PySem.W.ki_setBack ho (by omega) (by rw [zAo,<-hl];exact h3) (by omega) (by rw [hk];exact ⟨_,I',q⟩)
theorem wX (lo hi:Option Int) (n:Nat):(sliceBounds lo hi none n).1=((HT.nG n 0 lo:Nat):Int)/\(sliceBounds lo hi none n).2.1=((HT.nG n n hi:Nat):Int)/\(sliceBounds lo hi none n).2.2=1:=by
 refine ⟨?_,?_,rfl⟩
 ·cases lo with
  |none=>simp [sliceBounds,HT.nG]
  |some i=>
   simp only [sliceBounds,HT.nG,Option.getD_none,show (1:Int) > 0 by decide,if_true];by_cases h:i < 0
   ·simp only [h,if_true]<;>omega
   ·simp only [h,if_false]<;>omega
 ·cases hi with
  |none=>simp [sliceBounds,HT.nG]
  |some i=>
   simp only [sliceBounds,HT.nG,Option.getD_none,show (1:Int) > 0 by decide,if_true];by_cases h:i < 0
   ·simp only [h,if_true]<;>omega
   ·simp only [h,if_false]<;>omega
theorem uQ (its:List Value) (lo hi:Option Int):slicePick its.toArray lo hi none=((its.drop (HT.nG its.length 0 lo)).take (HT.nG its.length its.length hi-HT.nG its.length 0 lo)).toArray:=by
 obtain ⟨h1,h2,h3⟩:=wX lo hi its.toArray.size;unfold slicePick;rw [h1,h2,h3];simp only [sliceRange_one,pick_run,zAo]<;>rfl
def aaN (K:zF):V->Option Int->Option Int->Hp->VK->Prop:=λx lo hi H Q=>∃a xs,x=.ref a/\cB K H a xs/\∀p,H p=none->Q (.ref p) (upd H p (.lst (yj xs lo hi)))
theorem Dr:Xp X (aaN X.K):=by
 intro pins s σ H x v vl vu lo hi sl Q I rx hs pl pu h;obtain ⟨a,xs,rfl,hx,q⟩:=h;cases rx
 obtain ⟨its,r,ht,hz⟩:=I.list hx;have hlen:=r.length;refine ⟨"list", _,slot_list_getitem.lookup,ht.isList.typeIs,?_⟩;refine wpAny_getItem_list_slice ht.isList hs pl pu .none (by simp) ?_ (by rw [zAo]<;>omega);rw [uQ,<-hlen];refine ⟨.ref s.heap.objs.size,_,I.laid (t':=s.toks) (o:=.lst (yj xs lo hi)) (λb ob q=>zAb _ q) (zAq _) ?_,rfl,q _ (I.hok.fresh (zAq _))⟩;exact ⟨zAB (yK xs lo hi) hz,_,0,(r.drop (HT.nG xs.length 0 lo)).take (HT.nG xs.length xs.length hi-HT.nG xs.length 0 lo),zAp _ rfl⟩
def Rc:V->Bool
 |.non=>true
 |.bl _=>true
 |.int _=>true
 |.str _=>true
 |_=>false
def Vn:V->V->Bool
 |.non,.non=>true
 |.bl a,.bl b=>a==b
 |.bl a,.int b=>(if a then 1 else 0)==b
 |.int a,.bl b=>a==(if b then 1 else 0)
 |.int a,.int b=>a==b
 |.str a,.str b=>a==b
 |_,_=>false
theorem qe {A:Around}{s:Shared}{y x:V}{u v:Value}(ry:RelV y u) (rx:RelV x v) (fy:Rc y=true) (fx:Rc x=true):SeqAt.EqAt A s u v (Vn y x):=by
 cases y with
 |non=>
  cases ry
  cases x with
  |non=>cases rx;exact SeqAt.EqAt.same _
  |bl b=>cases rx;exact SeqAt.EqAt.none_bool b
  |int b=>obtain ⟨t,rfl⟩:=rx;exact SeqAt.EqAt.none_int b t
  |str b=>obtain ⟨t,rfl⟩:=rx;exact SeqAt.EqAt.none_str b t
  |_=>exact absurd (show false=true from fx) zAs
 |bl a=>
  cases ry
  cases x with
  |non=>cases rx;exact SeqAt.EqAt.bool_none a
  |bl b=>cases rx;exact SeqAt.EqAt.bool_bool a b
  |int b=>obtain ⟨t,rfl⟩:=rx;exact SeqAt.EqAt.bool_int a b t
  |str b=>obtain ⟨t,rfl⟩:=rx;exact SeqAt.EqAt.bool_str a b t
  |_=>exact absurd (show false=true from fx) zAs
 |int a=>
  obtain ⟨t',rfl⟩:=ry;cases x with
  |non=>cases rx;exact SeqAt.EqAt.int_none a t'
  |bl b=>cases rx;exact SeqAt.EqAt.int_bool a t' b
  |int b=>obtain ⟨t,rfl⟩:=rx;exact SeqAt.EqAt.int_int a t' b t
  |str b=>obtain ⟨t,rfl⟩:=rx;exact SeqAt.EqAt.int_str a t' b t
  |_=>exact absurd (show false=true from fx) zAs
 |str a=>
  obtain ⟨t',rfl⟩:=ry;cases x with
  |non=>cases rx;exact SeqAt.EqAt.str_none a t'
  |bl b=>cases rx;exact SeqAt.EqAt.str_bool a t' b
  |int b=>obtain ⟨t,rfl⟩:=rx;exact SeqAt.EqAt.str_int a t' b t
  |str b=>obtain ⟨t,rfl⟩:=rx;exact SeqAt.EqAt.str_str a t' b t
  |_=>exact absurd (show false=true from fx) zAs
 |_=>exact absurd (show false=true from fy) zAs
theorem g8.or {f:Value}{r r':List V->Hp->VK->Prop}(h:g8 X f r) (h':g8 X f r'):g8 X f (λxs H Q=>r xs H Q∨r' xs H Q):=by
 intro pins s σ H xs us Q I rs q;rcases q with q | q
 ·exact h pins s σ H xs us Q I rs q
 ·exact h' pins s σ H xs us Q I rs q
theorem pW:g8 X (.type "list") (λxs H Q=>∃p ys,xs=[.ref p]/\(cB X.K H p ys∨iG X.K H p ys)/\∀l,H l=none->Q (.ref l) (upd H l (.lst ys))):=by
 intro pins s σ H xs us Q I r h;obtain ⟨p,ys,rfl,hq,q⟩:=h;obtain ⟨u,rfl,rx⟩:=vals1 r;cases rx
 have fin:∀(its:List Value),Vals ys its->ys.length<=sizeLine->∀(h':Heap) (c':Nat),(∀b o',s.heap.get? b=some o'->h'.get? b=some o') ->
   h'.get? s.heap.objs.size=some { cls:=.type "list", dict:=none,data:=.seq its.toArray c',slots:=#[] }->EP X pins σ Q (.ref s.heap.objs.size) { s with heap:=h' }:=λits r' hz h' c' kp e=>
  ⟨.ref s.heap.objs.size,_,I.laid (t':=s.toks) kp (zAq _) (show bw X.prog X.w _ h' _ (.lst ys) from ⟨hz,its,c',r',e⟩),rfl,q _ (I.hok.fresh (zAq _))⟩
 rcases hq with hq | hq
 ·obtain ⟨its,r',pl,hz⟩:=I.list hq;have hlen:=r'.length;obtain ⟨o,ho,hc,n,hd⟩:=pl.isList;exact call_list_seq p (.inl rfl) ho hc hd (λh' c' kp e=>fin its r' hz h' c' kp e) (by simp only [zAo]<;>omega)
 ·obtain ⟨its,r',pl,hz⟩:=I.tuple hq;have hlen:=r'.length;obtain ⟨o,ho,hc,n,hd⟩:=pl;exact call_list_seq p (.inr rfl) ho hc hd (λh' c' kp e=>fin its r' hz h' c' kp e) (by simp only [zAo]<;>omega)
def tyV (K:zF) (T:String) (x:V) (H:Hp):Prop:=match x with
 |.str _=>T = "str"
 |.int _=>T = "int"
 |.ref p=>(T = "list" /\ ∃xs,cB K H p xs)∨(T = "tuple" /\ ∃o,K.lookup p=some o/\o.cls=.type "tuple" /\ o.dict=none) ∨
   (T = "dict" /\ ((∃kvs,H p=some (.dK kvs))∨∃kvs,H p=some (.dT kvs)))∨(T = "set" /\ ∃S n,H p=some (.set S n))
 |_=>False
theorem Wt {pins:List (Addr×Obj)}{σ:St}{H:Hp}{s:Shared}{T:String}{x:V}{v:Value}(I:Inv X pins σ H s) (r:RelV x v) (ty:tyV X.K T x H) :
  s.TypeIs v T/\∀a,v=.ref a->∃ob,s.heap.get? a=some ob/\ob.dict=none:=by
 cases x with
 |str z=>
  obtain ⟨t,rfl⟩:=r;cases (show T = "str" from ty)
  exact ⟨typeIs_str s z t,λ_ e=>nomatch e⟩
 |int i=>
  obtain ⟨t,rfl⟩:=r;cases (show T = "int" from ty)
  exact ⟨typeIs_int s i t,λ_ e=>nomatch e⟩
 |ref p=>
  cases r
  rcases ty with ⟨rfl,xs,hq⟩ | ⟨rfl,o,hk,hc,hd⟩ | ⟨rfl,hk⟩ | ⟨rfl,S,n,hk⟩
  ·obtain ⟨its,_,pl,_⟩:=I.list hq;refine ⟨pl.isList.typeIs,λa e=>?_⟩;cases e
   obtain ⟨o,n,e,c,hd,_⟩:=pl;exact ⟨o,e,hd⟩
  ·refine ⟨⟨o,I.jo p o hk,hc⟩,λa e=>?_⟩;cases e
   exact ⟨o,I.jo _ o hk,hd⟩
  ·have z:∃o,s.heap.get? p=some o/\o.ExactDict:=by
    rcases hk with ⟨kvs,hk⟩ | ⟨kvs,hk⟩
    ·obtain ⟨_,_,_,_,o,_,_,e,ex,_⟩:=I.hok p _ hk;exact ⟨o,e,ex⟩
    ·obtain ⟨_,_,_,_,o,_,_,e,ex,_⟩:=I.hok p _ hk;exact ⟨o,e,ex⟩
   obtain ⟨o,e,ex⟩:=z;refine ⟨⟨o,e,ex.1⟩,λa e2=>?_⟩;cases e2
   exact ⟨o,e,ex.2.1⟩
  ·obtain ⟨o,_,_,_,e,ex,_⟩:=I.hok p _ hk;refine ⟨⟨o,e,ex.1⟩,λa e2=>?_⟩;cases e2
   exact ⟨o,e,ex.2.1⟩
 |_=>exact False.elim ty
def tBM (K:zF) (T:String) (r:V->List V->Hp->VK->Prop) (to:TE) (t:TA):TE:=λσ H Q=>to σ H λx H1=>tyV K T x H1/\t σ H1 λxs H2=>r x xs H2 Q
variable {o e:Expr}{es:List Expr}{to:TE}{t:TA}{name:Str}{apos cpos:Pos}{T id:String}{r:V->List V->Hp->VK->Prop}
theorem Yl (pa:PlainAttrs T) (slot:Slot T name id) (hty:typeOf (.builtin id)=pure (.type "method_descriptor")) (hm:Z6 X id r) (ho:PE X o to) (ha:PA X (e::es) t)
  (hbase:attributeBase o name X.env (eval o X.env)=eval o X.env:=by rfl)
  (hfew:((backTo cpos (starEach (e::es) X.env)).all (λx=>!x.1)&&(backToKw cpos (keywordEach [] X.env)).all (λx=>x.1.isSome)
   && decide ((e::es).length+([]:List Keyword).length+(if ([]:List Keyword).isEmpty then 0 else 1) < 30))=true:=by rfl)
  (hline:(apos.endLine==cpos.line)=true:=by rfl) (hs:starEach (e::es) X.env=(false,eval e X.env)::starEach es X.env:=by rfl) (hplain:(backTo cpos (starEach es X.env)).any (·.1)=false:=by rfl) :
  PE X (.Call (.Attribute o name apos) (e::es) [] cpos) (tBM X.K T r to t):=by
 intro pins s σ H Q I h;refine wpAny_Call_method_late hbase hfew hline rfl (cR (ho pins s σ H _ I h) λv s1 ⟨x,H1,I1,r1,ty,q1⟩=>?_);obtain ⟨h1,h2⟩:=Wt I1 r1 ty;refine ⟨T,id,pa,slot,hty,h1,h2,?_⟩;have hA:=ha cpos pins s1 σ H1 _ I1 q1;rw [hs] at hA ⊢;refine Calls.callWith_builtin (by show (false||(backTo cpos (starEach es X.env)).any (·.1))=false;rw [hplain]<;>rfl) (Calls.evalArgs_plain ?_);exact cR hA λus s2 ⟨vs,H2,I2,r2,q2⟩=>hm pins s2 σ H2 x vs v us Q I2 r1 r2 q2
end
def MtM (X:Cx) (id:String) (r:V->List V->Hp->VK->Prop):Prop:=
 ∀(pins:List (Addr×Obj)) (s:Shared) (σ:St) (H:Hp) (x:V) (xs:List V) (v:Value) (us:List Value) (Q:VK),Inv X pins σ H s->RelV x v->Vals xs us->r x xs H Q ->
  wpAny (model X.prog X.w) X.A (call (.builtin id) (v::us)) (EP X pins σ Q) X.xe s
theorem Vals.one:∀{x:V}{us:List Value},Vals [x] us->∃u,us=[u]/\RelV x u
 |_,_,.cons r .nil=>⟨_,rfl,r⟩
section
variable {pins:List (Addr×Obj)}{σ:St}{H:Hp}{s:Shared}{l b:Addr}{xs ys zs:List V}
theorem Inv.Yr {its its':List Value}{n:Nat}{f:Array Value->Array Value}(I:Inv X pins σ H s) (hH:H l=some (.lst xs))
  (e:s.heap.get? l=some { cls:=.type "list", data:=.seq its.toArray n }) (hf:f its.toArray=its'.toArray) (hv:Vals ys its') (hz:ys.length<=sizeLine) :
  Inv X pins σ (upd H l (.lst ys)) { s with heap:=s.heap.update l (Obj.mapSeq f),toks:=t' }:=by
 have q:=PySem.IsL.update e f;rw [hf] at q;refine I.write (x:=l) (e:=l) (by rw [hH];exact trivial) (.inl rfl) (λb' u hb hu=>(zAt s.heap (Obj.mapSeq f) (Ne.symm hb)).trans hu) ⟨_,q⟩ ?_;exact ⟨hz,its',_,hv,q⟩
theorem Inv.Vu {its:List Value}(I:Inv X pins σ H s) (hv:Vals ys its) (hz:ys.length<=sizeLine) :
  Inv X pins σ (upd H s.heap.objs.size (.lst ys)) { s with heap:=s.heap.push { cls:=.type "list", data:=.seq its.toArray },toks:=t' }:=
 I.laid (λ_ _ q=>zAb _ q) (zAq _) ⟨hz,its,0,hv,zAp _ rfl⟩
theorem Inv.fresh (I:Inv X pins σ H s):H s.heap.objs.size=none:=I.hok.fresh (zAq _)
theorem Inv.YZ (I:Inv X pins σ H s) (hH:H l=some (.lst xs)):xs.length<=sizeLine/\∃(its:List Value) (n:Nat),Vals xs its/\xs.length=its.length/\s.heap.get? l=some { cls:=.type "list", data:=.seq its.toArray n }:=by
 obtain ⟨z,its,n,r,e⟩:=I.hok l _ hH;exact ⟨z,its,n,r,r.length,e⟩
end
def Ei:V->List V->Hp->VK->Prop:=λx vs H Q=>∃l xs y,x=.ref l/\vs=[y]/\H l=some (.lst xs)/\xs.length < sizeLine/\Q .non (upd H l (.lst (xs++[y])))
theorem vf:MtM X "list.append" Ei:=by
 intro pins s σ H x vs v us Q I rx rv h;obtain ⟨l,xs,y,rfl,rfl,hH,hz,q⟩:=h;cases rx
 obtain ⟨u,rfl,ru⟩:=rv.one;obtain ⟨z,its,n,r,hl,e⟩:=I.YZ hH;refine call_meets F.slot_list_append ⟨_,e,rfl⟩ F.entry_list_append (F.args_list_append_2 _ _) (PySem.list_append l its.toArray n u (by rw [zAo];omega)) ⟨e,?_⟩;refine ⟨.non,_,I.Yr (its':=its++[u]) hH e (by simp) (r.append (.cons ru .nil)) ?_,rfl,q⟩;rw [zAy,List.length_singleton];omega
end L2
namespace Att
open PySem PySem.W PySem.Calls PyProof.Rows
variable {P:Params}{l:OpenLaw}
theorem rB {h:Heap}:∀(ns:List Int) (vs:List Value),WellAll P h vs (ns.map WData.int)->IntsAre vs ns:=by
 intro ns;induction ns with
 |nil=>
  intro vs w;rw [zCe] at w;cases w
  exact .nil
 |cons n ns ih=>
  intro vs w;rw [zAr] at w;cases w with
  |cons a b=>
   cases a
   exact .cons _ _ (ih _ b)
theorem GX {n:Nat}(hn:l.most=some n) {h:Heap}{args:List WData}{vals:List Value}
  (hpre:l.row.toRowW.claim.pre args=true) (hwl:WellAll P h vals args) :
  ∃a vs ns,vals=[Value.ref a]/\args=[WData.list (ns.map WData.int)]/\h.get? a=some { cls:=.type "list", data:=.seq vs.toArray }/\IntsAre vs ns/\ns.length<=n:=by
 have hsh:WShape.hasAll [] args [.list .int]=true:=(pre_splitW hpre).1;have hc:l.pre.holds [] { args:=args }=true:=(pre_splitW hpre).2;obtain ⟨d,r,rfl,h1,h2⟩:=hasAllW_cons hsh;obtain rfl:=hasAllW_nil h2;obtain ⟨xs,rfl,h3⟩:=hasW_list h1;obtain ⟨ns,rfl⟩:=items_int h3;have hlen:ns.length<=n:=by
  unfold OpenLaw.pre at hc;have h4:(WTm.not (.lt (.lit (.int (n:Int))) (.len (.arg 0)))).holds [] { args:=[.list (ns.map .int)] }=true:=by
   have h4:=(holds_andW hc).1;rw [hn] at h4;exact h4
  have h5:=condW_of h4 (w_not (w_lt w_lit (w_len_list (w_arg rfl))));rw [zAn] at h5;refine Nat.le_of_not_lt λq=>?_;have q':(n:Int) < ((ns.length:Nat):Int):=by omega
  first
   |(rw [decide_eq_true q'] at h5;exact absurd h5 (by decide))
   |(simp at h5;omega)
 cases hwl with
 |cons w1 w2=>
  cases w2
  cases w1 with
  |list ho hall=>exact ⟨_,_,ns,rfl,rfl,ho,rB ns _ hall,hlen⟩
theorem FJ (l:OpenLaw) (args:List WData):l.row.toRowW.claim.post args (.bool true) args=true:=
 postW_of (r:=l.row.toRowW) (X:=(true==true))
  (show WShape.has [] (.bool true) .bool=true by first | rfl | decide | simp [WShape.has,WShape.arms,WShape.armsAll])
  (show (WTm.eq .res (.lit (.bool true))).value [] { args:=args,res:=some (.bool true),after:=args }=some (.bool (true==true)) from w_eq_bool (w_res rfl) w_lit) rfl
theorem yX {n:Nat}{q:Program}{loose:List Str}{XP:(Str->Option Value)->Heap->Prop}{YP:World->Heap->Prop}{d:DefRec}
  (hn:l.most=some n) (hdf:d.params.defaults=[])
  (call:∀(w:World) (s₀ s₁:Shared) (mg mb:Str->Option Value) (fa:Addr) (o:Obj) (pm cd doc:Value) (a:Addr) (vs:List Value) (ns:List Int),
   Ground q loose [] XP w s₀ mg mb s₁.heap->YP w s₁.heap ->
   s₁.heap.get? fa=some o->o.data=.func (docDef d.name d.params d.body d.scope pm cd doc)->s₁.heap.CodeRec cd d.name->mg d.name=some (.ref fa) ->
   s₁.heap.get? a=some { cls:=.type "list", data:=.seq vs.toArray }->IntsAre vs ns->ns.length<=n->s₁.gens=#[] ->
   codeAny (model l.prog w) callerA (.call (.ref fa) ⟨[.ref a],[]⟩) (λr s'=>r=.ok (.ret (.bool true))/\OldK s₁.heap s'.heap/\s'.os=s₁.os/\AllBare s'.gens) s₁) :
  WalkO q loose XP YP l.row.toRowW d [] (λf vs=>PySem.call f vs):=by
 intro w s₀ s₁ mg mb G Y fa o pm cd doc dV kV ho hd hcd hD hmg hg args vals as hpre hlay hrd hwl hlo;obtain rfl:dV=.none:=Dflts.none hD hdf;obtain rfl:kV=.none:=Dflts.noKw hD;obtain ⟨a,vs,ns,rfl,rfl,hobj,hints,hlen⟩:=GX hn hpre hwl;refine enter_call (codeAny_mono (call w s₀ s₁ mg mb fa o pm cd doc a vs ns G Y ho (fd_plain hd) hcd hmg hobj hints hlen hg) λr s' hq=>?_);obtain ⟨rfl,h2,h3,h4⟩:=hq;exact ⟨.inl ⟨.bool true,.bool true,[],rfl,λ_=>rfl,.bool true,FJ l _,λ_=>⟨List.Pairwise.nil,λ_ hm=>(nomatch hm)⟩⟩,h2,h3,h4⟩
end Att
namespace L2
open PySem PySem.Spec PyProof.Rows
variable {P:Program}{w:World}{K:zF}{mg:Str->Option Value}{a f acc it:Addr}{fd:FuncData}{sp:Sp}{X:Cx}{qual:Str}{st:Stmt}{N ps:List Str}{pos:Pos}{B:Prop}{H H':Hp}{xs:List (List Key×Addr×Value)}{t tb:TS}{e tg iter elt:Expr}{d:Nat}{ifs es:List Expr}{J:It}{fp:List Addr}{tn:Nat->Heap->Prop}{g:TG}{tt:TT}{pins:List (Addr×Obj)}{σ:St}{s:Shared}{scope:Scope}{env:Env}{E:zV}{js:List Nat}{h':Heap}{te:TE}{wi:TI}{u:Value}{kvs:List (List Key×V)}{y:V}{b:List Stmt}{o:Option V}{trs:List (TE×TE)}
theorem vM:∀{vs:List Value}{ns:List Int},IntsAre vs ns->Vals (ns.map V.int) vs
 |_,_,.nil=>.nil
 |_,_,.cons n t h=>.cons ⟨t,rfl⟩ (vM h)
def Only (H:Hp):Prop:=∀b,H b=none∨∃o xs,H b=some (.frz o (.lst xs))
theorem Ip {mb:Str->Option Value}{CX:K3}{k:Nat}{fa:Addr}{x:Str}{s₁:Shared}{vs:List Value}{ns:List Int}
  (KX:K.In s₁.heap) (hns:s₁.heap.Ns mainGlobals mg) (hb:s₁.heap.Ns builtinsNs mb) (hbb:∀x:Str,x ≠ "__name__" -> mb x=bootBuiltins x) (hlim:s₁.heap.NoLimit) (hg:s₁.gens=#[])
  (ha:s₁.heap.get? a=some { cls:=.type "list", data:=.seq vs.toArray }) (hi:IntsAre vs ns) (hl:ns.length<=sizeLine) (hr:dj k callerA)
  (F:∀base:Heap,K.In base->base.Ns mainGlobals mg->cZ P w K mg base CX k fa fd [x] sp) (hbind:∀(s:Shared) (u:Value),BindsTo s fd ⟨[u],[]⟩ [(x,u)])
  (hsp:∀H:Hp,Only H->cB K H a (ns.map V.int)->sp [.ref a] H (λv _=>v=.bl true) λ_ _ _=>False)
  (hCX:∀H e s',CX [] H s₁ (λ_ _ _=>False) e s'->False) :
  codeAny (model P w) callerA (.call (.ref fa) ⟨[.ref a],[]⟩) (λr s'=>r=.ok (.ret (.bool true))/\OldK s₁.heap s'.heap/\s'.os=s₁.os/\AllBare s'.gens) s₁:=by
 have rv:=vM hi;have lenV:=hi.length;have core:∀H:Hp,Only H->cB K H a (ns.map V.int)->nD P w H s₁.heap->(∀b,H b≠none->b=a)->(H a≠none->K.lookup a=none) ->
   codeAny (model P w) callerA (.call (.ref fa) ⟨[.ref a],[]⟩) (λr s'=>r=.ok (.ret (.bool true))/\OldK s₁.heap s'.heap/\s'.os=s₁.os/\AllBare s'.gens) s₁:=by
  intro H hO hS hok hA hK;have base_of:∀{b:Addr}{o:Obj},s₁.heap.get? b=some o->H b=none->(vY s₁.heap H).get? b=some o:=λe n=>Jx e n;have noA:∀{b:Addr}{o:Obj}{es:Array DictEntry}{ep:Nat},s₁.heap.get? b=some o->o.data=.dict es ep->H b=none:=λ{b o es ep} e d=>by
   cases q:H b with
   |none=>rfl
   |some u=>
    have e':b=a:=hA b (by rw [q];simp);subst e';rw [ha] at e;cases e
    have d':Data.seq vs.toArray _=Data.dict es ep:=d;cases d'
  have nsK:∀{b:Addr}{m:Str->Option Value},s₁.heap.Ns b m->(vY s₁.heap H).Ns b m:=λ{b m} ⟨o,es,ep,e,d,r⟩=>⟨o,es,ep,base_of e (noA e d),d,r⟩;have hKb:K.In (vY s₁.heap H):=λb o e=>base_of (KX b o e) (by
   cases q:H b with
   |none=>rfl
   |some u=>
    have e':b=a:=hA b (by rw [q];simp);subst e';rw [hK (by rw [q];simp)] at e;cases e)
  have hM:Mod K mg (vY s₁.heap H):=⟨hKb,nsK hns,⟨mb,nsK hb,hbb⟩,let ⟨mc,h1,h2⟩:=hlim;⟨mc,nsK h1,h2⟩⟩;have e0:uV P w K mg (vY s₁.heap H) callerA [] s₁ H:=⟨rfl,hM,λb o e=>Qi e,Nat.le_of_eq (HB _ _),trivial,λb hb=>absurd (show b∈([]:List Addr) from hb) (by simp),hok,.of_eq hg⟩;refine codeAny_mono ((F _ hKb (nsK hns)).run callerA [] s₁ H ⟨[.ref a],[]⟩ [.ref a] [.ref a] _ _ hr e0 (hbind s₁ (.ref a)) (.cons rfl .nil) (hsp H hO hS)) λr s' h=>?_;cases r with
  |error e=>exact (hCX H e s' h).elim
  |ok fl=>
   cases fl with
   |next=>exact False.elim h
   |brk=>exact False.elim h
   |cont=>exact False.elim h
   |ret u=>
    obtain ⟨v,H',os,bare,un,hok',r',q⟩:=h;have q':v=.bl true:=q;subst q';obtain rfl:u=Value.bool true:=r';refine ⟨rfl,OldK.of_keep λb o e=>?_,os,bare⟩;cases q:H b with
    |none=>exact un.keep b o e q (by intro z;exact absurd (show b∈([]:List Addr) from z) (by simp)) (by simp)
    |some u=>
     rcases hO b with z | ⟨ob,xs,z⟩
     ·rw [q] at z;cases z
     ·have z2:=un.frzs b ob _ z;obtain ⟨e1,_⟩:=hok b _ z;obtain ⟨e2,_⟩:=hok' b _ z2;rw [e] at e1;cases e1
      exact e2
 cases hk:K.lookup a with
 |some o=>
  have e:=KX a o hk;rw [ha] at e;cases e
  refine core (λ_=>none) (λ_=>.inl rfl) (.inr ⟨_,vs.toArray,_,hk,rfl,rfl,rfl,by rw [zAo,lenV];exact hl,by simpa using rv⟩) (λb u z=>by have z':(none:Option HO)=some u:=z;cases z') (λb z=>absurd rfl z) λz=>absurd rfl z
 |none=>
  refine core (λb=>if b=a then some (.frz { cls:=.type "list", data:=.seq vs.toArray } (.lst (ns.map V.int))) else none) (λb=>?_) (.inl (.inr ⟨{ cls:=.type "list", data:=.seq vs.toArray },if_pos rfl⟩)) (λb u z=>?_) (λb z=>?_) λ_=>hk
  ·by_cases hb:b=a
   ·exact .inr ⟨_,_,if_pos hb⟩
   ·exact .inl (if_neg hb)
  ·by_cases hb:b=a
   ·have z':=(if_pos hb).symm.trans z;cases z'
    subst hb;exact ⟨ha,by rw [zAn];exact hl,vs,_,rv,ha⟩
   ·have z':=(if_neg hb).symm.trans z;cases z'
  ·by_cases hb:b=a
   ·exact hb
   ·exact absurd (if_neg hb) z
abbrev oU:K3:=λ_ _ _ _ _ _=>False
abbrev E0:XK:=λ_ _ _=>False
theorem Z4:Passes oU X E0:=λ_ _ _ _ _ _ _ h=>h.elim
structure lV (K:zF) (x qual:Str) (st:Stmt) (f:Addr) (fd:FuncData):Prop where
 ex:∃(oc:Value) (od:Option Addr) (kV doc pm:Value) (an:Option Addr) (cdv ct:Value) (osl:Array (Option Value)),
  fd=PySem.W.fnOf x qual (pX st) (iK st) (aK st) .none kV doc pm an cdv ct/\K.lookup f=some ⟨oc,od,.func fd,osl⟩/\PySem.W.codeIn K cdv qual=true
 kp:PySem.W.keepIn K (.ref f)=true
section
variable {base:Heap}
theorem lV.ok {x:Str}{k:Nat}(F:lV K x qual st f fd) (S:aU N ps (aK st)) (len:∀vs H Q E,sp vs H Q E->vs.length=ps.length)
  (hbody:∀(cdv:Value) (A:Around) (outer:List Env) (s:Shared) (H:Hp) (vs:List V) (Q:VK) (E:XK),dj k (A.deeper (envOfC qual (aK st) s.heap.objs.size f cdv))->sp vs H Q E ->
   ∃t,rW (oM oU P w K mg base N qual (aK st) f cdv A outer s H E).yE (iK st) t/\t { nx:=λ_ H'=>Q .non H',rt:=Q } (start N vs) H):cZ P w K mg base oU (k+1) f fd ps sp:=by
 obtain ⟨oc,od,kV,doc,pm,an,cdv,ct,osl,rfl,lk,hcd⟩:=F.ex;refine RB lk hcd S len λA outer s H vs Q E hr hsp=>?_;obtain ⟨t,h,q⟩:=hbody cdv A outer s H vs Q E hr hsp;exact ⟨t,h.yE,q⟩
theorem lV.binds {x:Str}(F:lV K x qual st f fd)
  (h:∀(kV doc pm:Value) (an:Option Addr) (cdv ct:Value) (us:List Value),us.length=ps.length->bindArgs (PySem.W.fnOf x qual (pX st) (iK st) (aK st) .none kV doc pm an cdv ct) ⟨us,[]⟩=pure (ps.zip us)):Binds K fd ps []:=by
 obtain ⟨oc,od,kV,doc,pm,an,cdv,ct,osl,rfl,lk,hcd⟩:=F.ex;exact .all (h kV doc pm an cdv ct)
end
theorem pv (i:Nat) {x:Str}(hN:X.N[i]?=some x:=by rfl) (hv:Zc X.env.scope x:=by first | exact Or.inl rfl | exact Or.inr (Or.inl rfl) | exact Or.inr (Or.inr rfl)) (hd:(x==("__debug__" : Str))=false:=by decide)
  (hcd:(x==("__classdict__" : Str))=false:=by decide):PE X (.Name x pos) (Ld i):=La hN hv hd hcd
theorem z9 {A:Prop}(h:B):if false=true then A else B:=by
 rw [if_neg zAs];exact h
theorem yS {A:Prop}(h:A):if true=true then A else B:=by
 rw [if_pos rfl];exact h
def Same (H H':Hp):Prop:=∀b o,H b=some o->H' b=some o
theorem Same.refl (H:Hp):Same H H:=λ_ _ h=>h
theorem Same.trans {H1 H2:Hp}(a:Same H H1) (b:Same H1 H2):Same H H2:=λc o h=>b c o (a c o h)
theorem Same.seq {xs:List V}(e:Same H H') (h:cB K H a xs):cB K H' a xs:=by
 rcases h with (h | ⟨o,h⟩) | h
 ·exact .inl (.inl (e _ _ h))
 ·exact .inl (.inr ⟨o,e _ _ h⟩)
 ·exact .inr h
def Eh (ifs:List Expr) (env:Env):Sem Bool:=forIn ifs true λc r=>if r=true then do let ok <-isTrue c env (eval c env);pure (ForInStep.yield ok) else pure (ForInStep.yield r)
def H9 (X:Cx) (ifs:List Expr) (t:TT):Prop:=
 ∀(pins:List (Addr×Obj)) (s:Shared) (σ:St) (H:Hp) (Q:Bool->Hp->Prop),Inv X pins σ H s->t σ H Q->wpAny (model X.prog X.w) X.A (Eh ifs X.env) (TP X pins σ Q) X.xe s
def aby:TT:=λ_ H Q=>Q true H
theorem O_:H9 X [] aby:=λpins s σ H Q I h=>wpAny_tests_nil ⟨H,I,h⟩
theorem Ph {c:Expr}{t:TT}(h:PT X c t):H9 X [c] t:=λpins s σ H Q I q=>wpAny_tests_one (h pins s σ H Q I q)
def PB (X:Cx) (bd:Sem Unit) (t:TS):Prop:=
 ∀(pins:List (Addr×Obj)) (s:Shared) (σ:St) (H:Hp) (D:Ends),Inv X pins σ H s->t D σ H->wpAny (model X.prog X.w) X.A bd (λ_ s'=>∃σ' H',Inv X pins σ' H' s'/\D.nx σ' H') X.xe s
def lF (tt:TT) (tb:TS):TS:=λD σ H=>tt σ H λb H1=>if b=true then tb D σ H1 else D.nx σ H1
def nY (J:It) (g:TG) (tb:TS):TS:=λD σ H=>∃W:Nat->Nat->St->Hp->Prop,(∃m,W 0 m σ H)/\∀i m σ H,W i m σ H ->
 (J.stop i H/\D.nx σ H)∨(J.go i H/\∃N:St->Hp->Prop,(∀σ' H',N σ' H'->∃m',m' < m/\W (i+1) m' σ' H')/\∀x H',J.yld i H x H'->g x σ H' λσ2 H2=>tb { D with nx:=N,ct:=N,bk:=D.nx } σ2 H2)
def turnOf (e:Expr) (d:Nat) (it acc:Value) (env:Env) (tg iter:Expr) (ifs:List Expr) (bd:Sem Unit):Sem Fin:=(do
   standAt iter.pos
   match <-pyNext it with
   |none=>pure (.done .next)
   |some v=>
    letOwnedTupleGo tg it v
    assign tg env v
    let ok <-Eh ifs env
    if ok then bd
    again (.compLoop e d it acc env))
def CompEnd (X:Cx) (pins:List (Addr×Obj)) (D:Ends) (r:Result) (s':Shared):Prop:=match r with
 |.ok _=>∃σ' H',Inv X pins σ' H' s'/\D.nx σ' H'
 |.error _=>False
theorem nO {acc:Value}{bd:Sem Unit}{D:Ends}
  (hturn:compTurn e d (.ref it) acc X.env=turnOf e d (.ref it) acc X.env tg iter ifs bd) (hq:(Code.compLoop e d (.ref it) acc X.env).quiet=true)
  (hA:X.A.under (Code.compLoop e d (.ref it) acc X.env)=X.A) (hden:(model X.prog X.w).den (Code.compLoop e d (.ref it) acc X.env)=(compTurn e d (.ref it) acc X.env).onRaise (λx=>do noteFrame x X.env;theTreesLotGoes x))
  (hxe:X.xe=λ_ _=>False) (hc:X.calm=true) (T:Turn X.prog X.w X.K tg J fp it tn) (hg:PG X tg g) (ht:H9 X ifs tt) (hb:PB X bd tb)
  (I:Inv X pins σ H s) (st:tn 0 s.heap) (f2:∀b∈fp,lu X pins H b) (h:nY J g (lF tt tb) D σ H) :
  codeAny (model X.prog X.w) X.A (.compLoop e d (.ref it) acc X.env) (CompEnd X pins D) s:=by
 obtain ⟨W,⟨m0,w0⟩,turn⟩:=h;have stat:∀{H':Hp},(∀b∈fp,H' b=none)->∀b∈fp,lu X pins H' b:=λhn b hb=>⟨hn b hb,(f2 b hb).2⟩;have no:∀{α:Type}{t:Sem α}{Q:α->Shared->Prop}{E:zV}{s:Shared},wpAny (model X.prog X.w) X.A t Q X.xe s->wpAny (model X.prog X.w) X.A t Q E s:=λh=>by
  rw [hxe] at h;exact wpAny_noRaise h
 refine codeAny_loop hq (λn s'=>∃i σ' H',Inv X pins σ' H' s'/\tn i s'.heap/\(∀b∈fp,H' b=none)/\W i n σ' H') ?_ m0 ⟨0,σ,H,I,st,λb hb=>(f2 b hb).1,w0⟩;rintro n s3 ⟨i,σ3,H3,I3,st3,fr3,w3⟩;rw [hA,hden,hturn];refine wpAny_noted ?_;unfold turnOf;refine zAa (zBB (zAa ?_));rcases turn i n σ3 H3 w3 with ⟨stop,qn⟩ | ⟨go,N,hN,step⟩
 ·refine no (cR (T.done X rfl rfl rfl hc i pins s3 σ3 H3 X.xe I3 (stat fr3) st3 stop) λr s4 ⟨hr,I4⟩=>?_);subst hr;exact zAd ⟨σ3,H3,I4,qn⟩
 ·refine no (cR (T.item X rfl rfl rfl hc i pins s3 σ3 H3 X.xe I3 (stat fr3) st3 go) λr s4 ⟨u,hr,h4⟩=>?_);subst hr;refine zAa (no (cR h4 λ_ s5 ⟨x,H5,I5,r5,y5,st5,fr5⟩=>?_));have I5':=I5.pinned (stat fr5) (T.obj _ _ st5);refine zAa (no (cR (hg _ s5 σ3 H5 x u _ I5' r5 (step x H5 y5)) λ_ s6 ⟨σ6,H6,I6,q6⟩=>?_));have again:∀{s7:Shared}{σ7:St}{H7:Hp},Inv X (pins++uz fp s5.heap) σ7 H7 s7->N σ7 H7->∃m,m < n/\∃i σ' H',Inv X pins σ' H' s7/\tn i s7.heap/\(∀b∈fp,H' b=none)/\W i m σ' H':=λ{s7 σ7 H7} I7 n7=>by
   obtain ⟨m',hm,w7⟩:=hN σ7 H7 n7;refine ⟨m',hm,i+1,σ7,H7,I7.o7,T.keep _ _ _ st5 λb hb o e=>(I7.pin (b,o) (zAK _ (zAK _ (kE hb e)))).1,λb hb=>?_,w7⟩;obtain ⟨o,e,d⟩:=T.obj _ _ st5 b hb;exact (I7.pin (b,o) (zAK _ (zAK _ (kE hb e)))).2.1
  refine zAa (no (cR (ht _ s6 σ6 H6 _ I6 q6) λok s7 ⟨H7,I7,q7⟩=>?_));cases ok with
  |false=>
   rw [if_neg zAs] at q7;exact zAd ⟨rfl,again I7 q7⟩
  |true=>
   rw [if_pos rfl] at q7;refine zAa (no (cR (hb _ s7 σ6 H7 _ I7 q7) λ_ s8 ⟨σ8,H8,I8,q8⟩=>?_));exact zAd ⟨rfl,again I8 q8⟩
theorem kZ {acc:Value}{R:Result->Shared->Prop}
  (hden:(model X.prog X.w).den (Code.compStart e d (.ref it) acc X.env)=(compStart e d (.ref it) acc X.env).onRaise (λx=>do noteFrame x X.env;standAt theWindowsPlace))
  (hA:X.A.under (Code.compStart e d (.ref it) acc X.env)=X.A) (hq:(Code.compLoop e d (.ref it) acc X.env).quiet=true)
  (hst:compStart e d (.ref it) acc X.env=(ask >>= λr=>if r.params.followText "comprehension-iter-twice" = true then again (.compLoop e d (.ref it) acc X.env) else (do rule "comprehension.iter-twice"; standAt iter.pos;let it' <-pyIter (.ref it);again (.compLoop e d it' acc X.env))))
  (T:Turn X.prog X.w X.K tg J fp it tn) (st:tn 0 s.heap) (h:codeAny (model X.prog X.w) X.A (.compLoop e d (.ref it) acc X.env) R s) :
  codeAny (model X.prog X.w) X.A (.compStart e d (.ref it) acc X.env) R s:=by
 refine codeAny_of_tree ?_;rw [hA,hden];refine wpAny_notedAt ?_;rw [hst];refine zAa (zCh (wpAny_ite ?_));split
 ·exact zAd ⟨hq,h⟩
 ·exact zAa (zBE (zAa (zBB (zAa (T.self _ 0 s _ _ st (zAd ⟨hq,h⟩))))))
def wF (env:Env):List (Str×NameKind)->List (Str×Addr)->List (Str×Addr)
 |[],cs=>cs
 |(n,k)::r,cs=>if k==.free then wF env r ((n,(env.cells.lookup n).getD 0)::cs) else wF env r cs
def uG (scope:Scope) (env:Env):List (Str×Addr):=wF env scope.names []
theorem oJ {env:Env}:∀(names:List (Str×NameKind)) (cs:List (Str×Addr)),(∀x∈names,x.2=.free->∃c,env.cells.lookup x.1=some c) ->
  (forIn names cs λ(x:Str×NameKind) (r:List (Str×Addr))=>(if x.2==.free then do let c <-cellOf env x.1;pure (ForInStep.yield ((x.1,c)::r)) else pure (ForInStep.yield r):Sem (ForInStep (List (Str×Addr)))))=pure (wF env names cs)
 |[],cs,_=>rfl
 |(n,k)::r,cs,h=>by
  have hr:=λx hx=>h x (zAf _ hx);rw [List.forIn_cons];unfold wF;cases hk:(k==NameKind.free) with
  |false=>
   simp only [hk,zAz,if_false,pure_bind];exact oJ r cs hr
  |true=>
   obtain ⟨c,hc⟩:=h (n,k) zAm (by simpa using hk);have hc':env.cells.lookup n=some c:=hc;simp only [hk,if_true];unfold cellOf;rw [hc'];simp only [pure_bind,Option.getD_some];exact oJ r _ hr
theorem oA (h:∀x∈scope.names,x.2=.free->∃c,env.cells.lookup x.1=some c):closureFor scope env=pure (uG scope env):=by
 have e:=oJ (env:=env) scope.names [] h;unfold closureFor uG;rw [<-e];simp only [bind_pure]
theorem jw {env:Env}{y:Str}{c:Addr}:∀{names:List (Str×NameKind)}{cs:List (Str×Addr)},(∀x∈names,x.2=.free->∃c,env.cells.lookup x.1=some c)->(y,c)∈wF env names cs->env.cells.lookup y=some c∨(y,c)∈cs
 |[],_,_,h=>.inr h
 |(n,k)::r,cs,hf,h=>by
  have hr:=λx hx=>hf x (zAf _ hx);unfold wF at h;cases hk:(k==NameKind.free) with
  |false=>simp only [hk,zAz,if_false] at h;exact jw hr h
  |true=>
   simp only [hk,if_true] at h;rcases jw hr h with q | q
   ·exact .inl q
   ·rcases zBv.mp q with q | q
    ·injection q with q1 q2
     obtain ⟨c',hc⟩:=hf (n,k) zAm (by simpa using hk);have hc':env.cells.lookup n=some c':=hc;rw [hc',Option.getD_some] at q2;rw [q1,q2];exact .inl hc'
    ·exact .inr q
theorem gb {α:Type}:∀{l:List (Str×α)}{n:Str}{c:α},(n,c)∈l->∃c',l.lookup n=some c'
 |(k,v)::r,n,c,h=>by
  rw [zAT];cases hb:n==k with
  |true=>exact ⟨_,rfl⟩
  |false=>
   rcases zBv.mp h with e | h
   ·injection e with e1 _;rw [e1] at hb;simp at hb
   ·exact gb h
theorem j9 {env:Env}{y:Str}:∀{names:List (Str×NameKind)}{cs:List (Str×Addr)},((y,NameKind.free)∈names∨∃c,(y,c)∈cs)->∃c,(y,c)∈wF env names cs
 |[],_,h=>by
  rcases h with h | h
  ·exact absurd h (by simp)
  ·exact h
 |(n,k)::r,cs,h=>by
  unfold wF;cases hk:(k==NameKind.free) with
  |false=>
   simp only [zAz,if_false];refine j9 (h.imp (λz=>?_) id);rcases zBv.mp z with e | z
   ·injection e with _ e2;rw [<-e2] at hk;simp at hk
   ·exact z
  |true=>
   simp only [if_true];rcases h with z | ⟨c,z⟩
   ·rcases zBv.mp z with e | z
    ·injection e with e1 _;rw [e1];exact j9 (.inr ⟨_,zAm⟩)
    ·exact j9 (.inl z)
   ·exact j9 (.inr ⟨c,zAf _ z⟩)
theorem qm {y:Str}{c:Addr}:∀{names:List (Str×NameKind)}{h:Heap}{cs:List (Str×Addr)},(y,c)∈cellsFrom h.objs.size names cs->(y,c)∈cs∨(h.objs.size<=c/\(pushCells h names).IsCell c none/\(y,NameKind.cell)∈names)
 |[],_,_,h=>.inl h
 |(n,k)::r,h,cs,q=>by
  unfold cellsFrom at q;unfold pushCells;cases hk:(k==NameKind.cell) with
  |false=>
   simp only [hk,zAz,if_false] at q ⊢;exact (qm q).imp id λ⟨a,b,z⟩=>⟨a,b,zAf _ z⟩
  |true=>
   simp only [hk,if_true] at q ⊢;rw [show h.objs.size+1=(h.push { cls:=.type "cell", data:=.cell none }).objs.size from (zAF ..).symm] at q;rcases qm q with q | ⟨a,b,z⟩
   ·rcases zBv.mp q with e | q
    ·injection e with e1 e2
     have ek:k=.cell:=by simpa using hk
     rw [e2,e1,ek];exact .inr ⟨zAq _,(show (h.push { cls:=.type "cell", data:=.cell none }).IsCell h.objs.size none from ⟨_,zAp _ rfl,rfl⟩).keeps (pushCells_keeps _ _),zAm⟩
    ·exact .inl q
   ·rw [zAF] at a;exact .inr ⟨by omega,b,zAf _ z⟩
theorem qu:∀{names:List (Str×NameKind)}{n:Nat}{cs:List (Str×Addr)},(∀x∈cs,x.2 < n)->(∀x y c,(x,c)∈cs->(y,c)∈cs->x=y)->∀x y c,(x,c)∈cellsFrom n names cs->(y,c)∈cellsFrom n names cs->x=y
 |[],_,_,_,h=>h
 |(nm,k)::r,n,cs,hl,h=>by
  unfold cellsFrom;cases hk:(k==NameKind.cell) with
  |false=>simp only [zAz,if_false];exact qu hl h
  |true=>
   simp only [if_true];refine qu (λx hx=>?_) λx y c hx hy=>?_
   ·rcases zBv.mp hx with e | hx
    ·rw [e];exact zBr _
    ·exact zAX (hl x hx)
   ·rcases zBv.mp hx with e | hx<;>rcases zBv.mp hy with e' | hy
    ·injection e with e1 _;injection e' with e1' _;rw [e1,e1']
    ·injection e with _ e2;exact absurd (hl _ hy) (by rw [e2];exact zAJ _)
    ·injection e' with _ e2;exact absurd (hl _ hx) (by rw [e2];exact zAJ _)
    ·exact h x y c hx hy
theorem kW {y:Str}:∀{names:List (Str×NameKind)}{n:Nat}{cs:List (Str×Addr)},(y,NameKind.cell)∉names->(cellsFrom n names cs).lookup y=cs.lookup y
 |[],_,_,_=>rfl
 |(nm,k)::r,n,cs,h=>by
  have hr:(y,NameKind.cell)∉r:=λz=>h (zAf _ z);unfold cellsFrom;cases hk:(k==NameKind.cell) with
  |false=>simp only [zAz,if_false];exact kW hr
  |true=>
   simp only [if_true];rw [kW hr,zAT];have:(y==nm)=false:=by
    cases e:y==nm with
    |false=>rfl
    |true=>
     have ek:k=.cell:=by simpa using hk
     have en:y=nm:=by simpa using e
     exact absurd (by rw [en,ek];exact zAm) h
   rw [this]
theorem gR {M:Model}{A:Around}{globals:Addr}{cl:List (Str×Addr)}{Q:Env->Shared->Prop}
  (h:Q (newEnv scope s.heap.objs.size globals (cellsFrom (s.heap.objs.size+1) scope.names cl) qual none .none (some env) builtinsNs) { s with heap:=pushCells (s.heap.push { cls:=.type "dict", data:=.dict #[] }) scope.names }) :
  wpAny M A (newFunctionEnv scope globals cl [] qual none .none (some env)) Q E s:=by
 simp only [newFunctionEnv,Option.isSome_some,if_true];refine zAa (wpAny_alloc ?_);refine zAa (wpAny_layCells _ (λname kind cells=>by cases hkc:kind==NameKind.cell<;>simp [hkc]) _ _ _ _ ?_);rw [show ({ s with heap:=s.heap.push { cls:=.type "dict", data:=.dict #[] } }:Shared).heap.objs.size=s.heap.objs.size+1 from zAF ..];exact zAd h
def aV (X:Cx) (scope:Scope) (N:List Str) (s:Shared) (H:Hp) (fp:List Addr):Cx where
 prog:=X.prog
 w:=X.w
 K:=X.K
 mg:=X.mg
 base:=X.base
 A:=X.A
 N:=N
 s₀:=s
 H₀:=H
 env:={ scope:=relabel scope X.env,locals:=s.heap.objs.size,globals:=X.env.globals,cells:=cellsFrom (s.heap.objs.size+1) scope.names (uG scope X.env),qual:=X.env.qual,func:=none,code:=X.env.code,frame:=X.env.frame,builtins:=X.env.builtins }
 outer:=X.stack
 stack:=X.stack
 ex:=fp
 fn:=λx=>scope.names.any λy=>y.1==x&&y.2==.cell
 calm:=X.calm
 cool:=X.cool
 pn:=[]
 xe:=λ_ _=>False
def pO (σ:St) (n:Nat) (js:List Nat):St:=List.replicate n none++js.map λj=>(σ[j]?).getD none
structure jH (X:Cx) (scope:Scope) (N:List Str) (n:Nat) (js:List Nat):Prop where
 kind:scope.kind=.function
 names:(scope.names.all λx=>x.2 != .local||scope.names.lookup x.1==some .local)=true
 free:(scope.names.all λx=>x.2 != .free||X.env.kindOf x.1==some .cell||X.env.kindOf x.1==some .free)=true
 capt:((List.range js.length).all λi=>match N[n+i]?,(js[i]?).bind (X.N[·]?) with
  |some x,some y=>x==y&&scope.names.lookup x==some .free&&scope.names.all (λz=>!(z.1==x&&z.2==.cell))
  |_,_=>false)=true
 len:N.length=n+js.length
 cells:(scope.names.all λx=>x.2 != .cell||!(scope.names.any λy=>y.1==x.1&&y.2==.free))=true
theorem lA {scope:Scope}{env:Env}{x:Str}:∀{names:List (Str×NameKind)},(names.map λ(n,k)=>if (k==NameKind.free&&env.scope.kind==.function&&env.kindOf n==some .cell) then (n,NameKind.cell) else (n,k)).lookup x=some .cell ∨
  (names.map λ(n,k)=>if (k==NameKind.free&&env.scope.kind==.function&&env.kindOf n==some .cell) then (n,NameKind.cell) else (n,k)).lookup x=some .free->(x,NameKind.cell)∈names∨(x,NameKind.free)∈names
 |[],h=>by simp at h
 |(n,k)::r,h=>by
  simp only [zAr,zAT] at h;by_cases hx:(x==n)=true
  ·have en:x=n:=by simpa using hx
   subst en;by_cases hc:(k==NameKind.free&&env.scope.kind==.function&&env.kindOf x==some .cell)=true
   ·have hk:k=.free:=by
     simp only [zAE] at hc;simpa using hc.1.1
    exact .inr (by rw [hk];exact zAm)
   ·rw [if_neg hc] at h;rw [zAT,hx] at h;dsimp only at h;rcases h with h | h<;>(injection h with h;rw [h])
    ·exact .inl zAm
    ·exact .inr zAm
  ·have hx':(x==n)=false:=by simpa using hx
   by_cases hc:(k==NameKind.free&&env.scope.kind==.function&&env.kindOf n==some .cell)=true
   ·rw [if_pos hc] at h;rw [zAT,hx'] at h;dsimp only at h;exact (lA (scope:=scope) h).imp (zAf _) (zAf _)
   ·rw [if_neg hc] at h;rw [zAT,hx'] at h;dsimp only at h;exact (lA (scope:=scope) h).imp (zAf _) (zAf _)
theorem kY {env:Env}{x:Str}:∀{names:List (Str×NameKind)},names.lookup x=some .free->env.scope.kind=.function ->
  (names.map λ(n,k)=>if (k==NameKind.free&&env.scope.kind==.function&&env.kindOf n==some .cell) then (n,NameKind.cell) else (n,k)).lookup x=some .cell ∨
  (names.map λ(n,k)=>if (k==NameKind.free&&env.scope.kind==.function&&env.kindOf n==some .cell) then (n,NameKind.cell) else (n,k)).lookup x=some .free
 |[],h,_=>by simp at h
 |(n,k)::r,h,hf=>by
  simp only [zAr,zAT] at h ⊢;by_cases hx:(x==n)=true
  ·simp only [hx] at h;injection h with h
   subst h;have en:x=n:=by simpa using hx
   subst en;by_cases hc:(NameKind.free==NameKind.free&&env.scope.kind==.function&&env.kindOf x==some .cell)=true
   ·rw [if_pos hc];simp
   ·rw [if_neg hc];simp
  ·have hx':(x==n)=false:=by simpa using hx
   simp only [hx'] at h;by_cases hc:(k==NameKind.free&&env.scope.kind==.function&&env.kindOf n==some .cell)=true
   ·rw [if_pos hc];rw [zAT,hx'];exact kY h hf
   ·rw [if_neg hc];rw [zAT,hx'];exact kY h hf
theorem jH.frees {n:Nat}(B:jH X scope N n js) (ok:X.Ok):∀x∈scope.names,x.2=.free->∃c,X.env.cells.lookup x.1=some c:=λx hx hf=>by
 have q:=List.all_eq_true.mp B.free x hx;rw [hf] at q;refine ok.has x.1 ?_;simp only [bne_self_eq_false,Bool.false_or,Bool.or_eq_true,beq_iff_eq] at q;exact q
theorem Inv.block {n:Nat}(B:jH X scope N n js) (I:Inv X pins σ H s) (hf:∀b∈fp,lu X pins H b) (hlt:∀b∈fp,b < s.heap.objs.size) :
  Inv (aV X scope N s H fp) [] (pO σ n js) H { s with heap:=pushCells (s.heap.push { cls:=.type "dict", data:=.dict #[] }) scope.names }:=by
 have hfr:=B.frees I.ok;have kp:∀b o,s.heap.get? b=some o->(pushCells (s.heap.push { cls:=.type "dict", data:=.dict #[] }) scope.names).get? b=some o:=λb o e=>pushCells_keeps _ _ b o (zAb _ e);have csz:(s.heap.push { cls:=.type "dict", data:=.dict #[] }).objs.size=s.heap.objs.size+1:=zAF ..;have cm:∀x c,(aV X scope N s H fp).env.cells.lookup x=some c->X.env.cells.lookup x=some c∨(s.heap.objs.size+1<=c/\(pushCells (s.heap.push { cls:=.type "dict", data:=.dict #[] }) scope.names).IsCell c none/\(x,NameKind.cell)∈scope.names):=λx c e=>by
  have m:=PySem.mem_of_lookup e;have m':(x,c)∈cellsFrom (s.heap.push { cls:=.type "dict", data:=.dict #[] }).objs.size scope.names (uG scope X.env):=by rw [csz];exact m
  rcases qm m' with z | ⟨a,b,z⟩
  ·rcases jw hfr z with z | z
   ·exact .inl z
   ·exact absurd z (by simp)
  ·exact .inr ⟨by rw [csz] at a;exact a,b,z⟩
 have old:∀x c,X.env.cells.lookup x=some c->c < s.heap.objs.size:=λx c e=>let ⟨_,q⟩:=I.cell x c e;q.lt
 refine ⟨⟨I.ok.mod,B.kind,I.ok.glob,I.ok.blt,zAq _,λx y c e1 e2=>?_,λx hx=>?_,λx c hfn e=>?_,(λq=>(I.ok.hd q).mono λb o u e=>I.base.frzs b o u e),I.ok.frames,.inl rfl,λb hb=>⟨zAl (hlt b hb),λx c e=>?_⟩,λb o e=>?_,zAB I.ok.bsz I.sz,λb o e hb=>?_,λb hb z=>?_,I.stack,I.sJ,I.ok.hc⟩,
  rfl,I.bare,Un.kept kp,⟨λ_=>none,?_,λi x v e1 e2 e3=>?_⟩,λx c e=>?_,?_,λx c e=>?_,λp hp=>absurd hp (by simp [aV]),I.hok.kept kp,?_⟩
 ·
  refine qu (names:=scope.names) (n:=s.heap.objs.size+1) (cs:=uG scope X.env) (λz hz=>?_) (λx y c hx hy=>?_) x y c (PySem.mem_of_lookup e1) (PySem.mem_of_lookup e2)
  ·rcases jw (y:=z.1) (c:=z.2) hfr hz with q | q
   ·exact zAX (old _ _ q)
   ·exact absurd q (by simp)
  ·rcases jw hfr hx with q | q
   ·rcases jw hfr hy with q' | q'
    ·exact I.ok.inj x y c q q'
    ·exact absurd q' (by simp)
   ·exact absurd q (by simp)
 ·
  rcases lA (scope:=scope) (env:=X.env) (names:=scope.names) hx with z | z
  ·obtain ⟨c',h'⟩:∃c',(cellsFrom (s.heap.objs.size+1) scope.names (uG scope X.env)).lookup x=some c':=by
    have aux:∀(names:List (Str×NameKind)) (k:Nat) (cs:List (Str×Addr)),(x,NameKind.cell)∈names->∃c,(x,c)∈cellsFrom k names cs:=by
     intro names;induction names with
     |nil=>intro _ _ h;simp at h
     |cons y r ih=>
      intro k cs h;obtain ⟨yn,yk⟩:=y;unfold cellsFrom;have stay:∀(names:List (Str×NameKind)) (k:Nat) (cs:List (Str×Addr)) (p:Str×Addr),p∈cs->p∈cellsFrom k names cs:=by
       intro names;induction names with
       |nil=>intro _ _ _ h;exact h
       |cons y r ih=>
        intro k cs p h;obtain ⟨yn,yk⟩:=y;unfold cellsFrom;split
        ·exact ih _ _ _ (zAf _ h)
        ·exact ih _ _ _ h
      rcases zBv.mp h with e | h
      ·injection e with ea eb
       rw [<-ea,<-eb];simp only [beq_self_eq_true,if_true];exact ⟨k,stay _ _ _ _ zAm⟩
      ·split
       ·exact ih _ _ h
       ·exact ih _ _ h
    obtain ⟨c,hc⟩:=aux scope.names (s.heap.objs.size+1) (uG scope X.env) z;exact gb hc
   exact ⟨c',h'⟩
  ·obtain ⟨c,hc⟩:=j9 (env:=X.env) (names:=scope.names) (cs:=[]) (.inl z);have stay:∀(names:List (Str×NameKind)) (k:Nat) (cs:List (Str×Addr)) (p:Str×Addr),p∈cs->p∈cellsFrom k names cs:=by
    intro names;induction names with
    |nil=>intro _ _ _ h;exact h
    |cons y r ih=>
     intro k cs p h;obtain ⟨yn,yk⟩:=y;unfold cellsFrom;split
     ·exact ih _ _ _ (zAf _ h)
     ·exact ih _ _ _ h
   exact gb (stay scope.names (s.heap.objs.size+1) (uG scope X.env) (x,c) hc)
 ·
  rcases cm x c e with z | ⟨z,_⟩
  ·
   exfalso;have hfn':(scope.names.any λy=>y.1==x&&y.2==.cell)=true:=hfn;obtain ⟨y,hy,q⟩:=List.any_eq_true.mp hfn';simp only [zAE,beq_iff_eq] at q;have m:=PySem.mem_of_lookup e;have key:∀(names:List (Str×NameKind)) (k:Nat) (cs:List (Str×Addr)),(x,NameKind.cell)∈names->∀c,(cellsFrom k names cs).lookup x=some c->k<=c:=by
    intro names;induction names with
    |nil=>intro _ _ h;simp at h
    |cons y r ih=>
     intro k cs h c hc;obtain ⟨yn,yk⟩:=y;unfold cellsFrom at hc;by_cases hr:(x,NameKind.cell)∈r
     ·split at hc
      ·exact zCa (ih _ _ hr c hc)
      ·exact ih _ _ hr c hc
     ·rcases zBv.mp h with e | h
      ·injection e with ea eb
       rw [<-ea,<-eb] at hc;simp only [beq_self_eq_true,if_true] at hc;rw [kW hr,zAT] at hc;simp only [beq_self_eq_true] at hc;injection hc with hc;rw [<-hc];exact zAq _
      ·exact absurd h hr
   have hxm:(x,NameKind.cell)∈scope.names:=by
    have:y=(x,NameKind.cell):=Prod.ext q.1 q.2;rw [<-this];exact hy
   have:=key scope.names (s.heap.objs.size+1) (uG scope X.env) hxm c e;exact absurd (zAu (old x c z) (zCa this)) (zAJ _)
  ·exact zCa z
 ·
  rcases cm x c e with z | ⟨z,_⟩
  ·exact (hf b hb).2.2.2.2.1 x c z
  ·exact Ne.symm (zAl (zAu (hlt b hb) (zCa z)))
 ·exact I.bs b o e
 ·
  rcases (hf b hb).2.2.2.1 with z | z
  ·exact I.ok.noex b o e z
  ·exact absurd (zAu (zAe (I.ok.bs b o e).1) z) (zAJ _)
 ·
  rcases zBv.mp (I.CQ b z) with z | z
  ·exact (hf b hb).2.1 z
  ·exact (hf b hb).2.2.1 z
 ·exact (Heap.Ns.new s.heap (.type "dict")).keeps (pushCells_keeps _ _)
 ·
  have e2':(List.replicate n none++js.map λj=>(σ[j]?).getD none)[i]?=some (some v):=e2;by_cases hi:i < n
  ·rw [zAj (by simpa using hi),zBW] at e2';rw [if_pos hi] at e2';cases e2'
  ·rw [zAw (by simpa using hi),zCf,zAk] at e2';cases hj:js[i-n]? with
   |none=>rw [hj] at e2';cases e2'
   |some j=>
    rw [hj] at e2';have hσ:σ[j]?=some (some v):=by
     have q:(σ[j]?).getD none=some v:=Option.some.inj e2';cases z:σ[j]? with
     |none=>rw [z] at q;cases q
     |some o=>rw [z] at q;rw [show o=some v from q]
    have hlen:i-n < js.length:=(List.getElem?_eq_some_iff.mp hj).1;have q:=List.all_eq_true.mp B.capt (i-n) (List.mem_range.mpr hlen);rw [show n+(i-n)=i by omega] at q;have e1':N[i]?=some x:=e1;rw [e1',hj] at q;simp only [Option.bind_some] at q;cases hN:X.N[j]? with
    |none=>rw [hN] at q;cases q
    |some y=>
     rw [hN] at q;simp only [zAE,beq_iff_eq] at q;obtain ⟨⟨q1,q2⟩,q3⟩:=q;subst q1;have nc:(x,NameKind.cell)∉scope.names:=λz=>by
      have:=List.all_eq_true.mp q3 _ z;simp at this
     have hfree:=PySem.mem_of_lookup q2;have hk:X.env.kindOf x=some .cell∨X.env.kindOf x=some .free:=by
      have q:=List.all_eq_true.mp B.free _ hfree;simpa using q
     have hvis:Zc X.env.scope x:=hk.elim (λz=>.inr (.inl z)) λz=>.inr (.inr z);obtain ⟨m,hn,hl⟩:=I.loc;obtain ⟨u,r,l⟩:=hl j x v hN hσ hvis;refine ⟨u,r,.inr ⟨kY q2 I.ok.kind,?_⟩⟩;rcases l with ⟨l,_⟩ | ⟨_,c,hc,hcell⟩
     ·rcases hk with hk | hk<;>(rw [hk] at l;cases l)
     ·refine ⟨c,?_,hcell.keeps kp⟩;show (cellsFrom (s.heap.objs.size+1) scope.names (uG scope X.env)).lookup x=some c;rw [kW nc];obtain ⟨c',hc'⟩:=j9 (env:=X.env) (names:=scope.names) (cs:=[]) (.inl hfree);obtain ⟨c2,h2⟩:=gb hc';rw [show (uG scope X.env).lookup x=some c2 from h2];rcases jw hfr (PySem.mem_of_lookup h2) with z | z
      ·rw [hc] at z;exact z.symm
      ·exact absurd z (by simp)
 ·rcases cm x c e with z | ⟨_,z,_⟩
  ·obtain ⟨v,q⟩:=I.cell x c z;exact ⟨v,q.keeps kp⟩
  ·exact ⟨none,z⟩
 ·exact I.fresh
 ·rcases cm x c e with z | ⟨z,_⟩
  ·exact I.freeC x c z
  ·exact I.hok.fresh (zCa z)
 ·show (List.replicate n none++js.map λj=>(σ[j]?).getD none).length=N.length;rw [zAy,zCf,zAn,B.len]
theorem Inv.unblock {pins':List (Addr×Obj)}{σ':St}{s':Shared}(I:Inv X pins σ H s) (hf:∀b∈fp,lu X pins H b)
  (J:Inv (aV X scope N s H fp) pins' σ' H' s') (hs:Heap.SameBut s.heap.objs.size s'.heap h'):Inv X pins σ H' { s' with heap:=h' }:=by
 have nC:∀b o,s.heap.get? b=some o->b≠s.heap.objs.size:=λb o e=>zAl (zAe e);have hC:H' s.heap.objs.size=none:=J.free;refine I.call' (s':={ s' with heap:=h' }) (ch:=fp) J.os ⟨λb o e n hb hx=>(hs.2 b (nC b o e)).trans (J.base.keep b o e n hb hx),λb o e n hb hx=>?_,J.base.free,λb o e hx=>?_,J.base.tups,J.base.frzs,J.base.tbls⟩ (λb u e=>?_) J.bare λb hb=>⟨(hf b hb).2.2.2.1,(hf b hb).2.1,(hf b hb).2.2.2.2.1,(hf b hb).2.2.2.2.2⟩
 ·obtain ⟨sl,q⟩:=J.base.slot b o e n hb hx;exact ⟨sl,(hs.2 b (nC b o e)).trans q⟩
 ·obtain ⟨o',q⟩:=J.base.there b o e hx;exact ⟨o',(hs.2 b (nC b o e)).trans q⟩
 ·refine (J.hok b u e).stay (λc v hc q=>(hs.2 c ?_).trans q) (λ_ q=>q) λ_ _ q=>q;rintro rfl;rcases hc with z | z
  ·rw [<-z,hC] at e;cases e
  ·rw [hC] at z;cases z
def zG (acc:Addr) (te:TE):TS:=λD σ H=>te σ H λy H1=>∃ys,H1 acc=some (.lst ys)/\ys.length < sizeLine/\D.nx σ (upd H1 acc (.lst (ys++[y])))
theorem sy (he:PE X elt te):PB X (do let _ <-call (.builtin "list.append") [.ref acc,<-eval elt X.env]) (zG acc te):=by
 intro pins s σ H D I h;refine zAa (cR (he pins s σ H _ I h) λv s1 ⟨y,H1,I1,r1,ys,e,hz,q⟩=>?_);refine zAa (cR (vf pins s1 σ H1 (.ref acc) [y] (.ref acc) [v] (λ_ H'=>D.nx σ H') I1 rfl (.cons r1 .nil) ⟨acc,ys,y,rfl,rfl,e,hz,q⟩) λ_ s2 ⟨_,H2,I2,_,q2⟩=>?_);exact zAd ⟨σ,H2,I2,q2⟩
theorem jH.hnames {n:Nat}(B:jH X scope N n js):∀x∈scope.names,x.2=.local->scope.names.lookup x.1=some .local:=λx hx hl=>by
 have q:=List.all_eq_true.mp B.names x hx;rw [hl] at q;simpa using q
def tX (e:Expr) (d:Nat) (acc:Addr) (env:Env) (iter:Expr):Sem Unit:=do
 let x <-eval iter env
 standAt iter.pos
 let x <-foldedSetIterable iter env x
 let _ <-runOwn (.compStart e d (<-holding [x] (pyIter x)) (.ref acc) env) env
def Im (wi:TI) (g:TG) (tb:TS):TS:=λD σ H=>wi σ H λJ H1=>nY J g tb { D with ct:=λ_ _=>False,bk:=λ_ _=>False } σ H1
theorem OD {bd:Sem Unit}
  (hturn:∀it,compTurn e d (.ref it) (.ref acc) X.env=turnOf e d (.ref it) (.ref acc) X.env tg iter ifs bd) (hq:∀it,(Code.compLoop e d (.ref it) (.ref acc) X.env).quiet=true)
  (hA:∀it,X.A.under (Code.compLoop e d (.ref it) (.ref acc) X.env)=X.A) (hden:∀it,(model X.prog X.w).den (Code.compLoop e d (.ref it) (.ref acc) X.env)=(compTurn e d (.ref it) (.ref acc) X.env).onRaise (λx=>do noteFrame x X.env;theTreesLotGoes x))
  (hdenS:∀it,(model X.prog X.w).den (Code.compStart e d (.ref it) (.ref acc) X.env)=(compStart e d (.ref it) (.ref acc) X.env).onRaise (λx=>do noteFrame x X.env;standAt theWindowsPlace))
  (hAS:∀it,X.A.under (Code.compStart e d (.ref it) (.ref acc) X.env)=X.A)
  (hst:∀it:Addr,compStart e d (.ref it) (.ref acc) X.env=(ask >>= λr=>if r.params.followText "comprehension-iter-twice" = true then again (.compLoop e d (.ref it) (.ref acc) X.env) else (do rule "comprehension.iter-twice"; standAt iter.pos;let it' <-pyIter (.ref it);again (.compLoop e d it' (.ref acc) X.env))))
  (hxe:X.xe=λ_ _=>False) (hc:X.calm=true) (hi:PI X tg iter wi) (hg:PG X tg g) (ht:H9 X ifs tt) (hb:PB X bd tb)
  (hs:∀x,foldedSetIterable iter X.env x=pure x) (hA2:X.A.mark none=X.A):PB X (tX e d acc X.env iter) (Im wi g (lF tt tb)):=by
 intro pins s σ H D I h;unfold tX;refine zAa (cR (hi pins s σ H _ I h) λv s1 h1=>zAa (zBB (zAa (wpAny_of_eq (hs v) ?_))));refine zAa (zAN (cR h1 λitv s2 h2=>?_));obtain ⟨it,fp,tn,J,H2,e2,I2,T,st2,f2,w⟩:=h2;subst e2;refine zAa (wpAny_runOwn ?_);rw [hA2];refine codeAny_mono (kZ (hdenS it) (hAS it) (hq it) (hst it) T st2 (nO (D:={ D with ct:=λ_ _=>False,bk:=λ_ _=>False }) (hturn it) (hq it) (hA it) (hden it) hxe hc T hg ht hb I2 st2 f2 w)) λr s' hr=>?_;cases r with
 |ok f=>exact zAd hr
 |error x=>exact False.elim hr
def tLC (wi:TI) (g:TG) (tt:TT) (te:TE) (n:Nat) (js:List Nat):TE:=λσ H Q=>wi σ H λJ H1=>∀acc,H1 acc=none ->
 nY J g (lF tt (zG acc te)) { nx:=λ_ H'=>Q (.ref acc) H',rt:=λ_ _=>False } (pO σ n js) (upd H1 acc (.lst []))
theorem QK {rest:List Comprehension}{tb:Addr->TS}{bd:Addr->Env->Sem Unit}{n:Nat}
  (he:e=.ListComp elt (⟨tg,iter,ifs,0⟩::rest) scope pos) (hc:X.calm=true) (hi:PI X tg iter wi) (B:jH X scope N n js)
  (hturn:∀it acc env,compTurn e 0 (.ref it) (.ref acc) env=turnOf e 0 (.ref it) (.ref acc) env tg iter ifs (bd acc env))
  (hg:∀s H fp,PG (aV X scope N s H fp) tg g) (ht:∀s H fp,H9 (aV X scope N s H fp) ifs tt) (hb:∀s H fp acc,PB (aV X scope N s H fp) (bd acc (aV X scope N s H fp).env) (tb acc))
  (hs:∀x,foldedSetIterable iter X.env x=pure x) :
  PE X e (λσ H Q=>wi σ H λJ H1=>∀acc,H1 acc=none->nY J g (lF tt (tb acc)) { nx:=λ_ H'=>Q (.ref acc) H',rt:=λ_ _=>False } (pO σ n js) (upd H1 acc (.lst []))):=by
 intro pins s σ H Q I h;subst he;rw [eval_ListComp];refine wpAny_comprehension_free (use:=none) rfl hs (oA (B.frees I.ok)) B.kind B.hnames ?_;refine cR (hi pins s σ H _ I h) λv s1 h1=>cR h1 λitv s2 h2=>?_;obtain ⟨it,fp,tn,J,H2,e2,I2,T,st2,f2,w⟩:=h2;subst e2;refine zBl (gR ?_);have I3:Inv X pins σ (upd H2 s2.heap.objs.size (.lst [])) { s2 with heap:=s2.heap.push { cls:=.type "list", data:=.seq ([]:List Value).toArray } }:=I2.Vu (t':=s2.toks) .nil (zBf _);have lt2:∀b∈fp,b < s2.heap.objs.size:=λb hb=>let ⟨_,e,_⟩:=T.obj _ _ st2 b hb;zAe e
 have f3:∀b∈fp,lu X pins (upd H2 s2.heap.objs.size (.lst [])) b:=λb hb=>⟨by rw [aA (zAl (lt2 b hb))];exact (f2 b hb).1,(f2 b hb).2⟩;have lt3:∀b∈fp,b < (s2.heap.push { cls:=.type "list", data:=.seq ([]:List Value).toArray }).objs.size:=λb hb=>by rw [zAF];exact zAX (lt2 b hb)
 have J4:=Inv.block B I3 f3 lt3;have st4:tn 0 (pushCells ((s2.heap.push { cls:=.type "list", data:=.seq ([]:List Value).toArray }).push { cls:=.type "dict", data:=.dict #[] }) scope.names):=T.keep _ _ _ st2 λb hb o e=>pushCells_keeps _ _ _ _ (zAb _ (zAb _ e));have f4:∀b∈fp,lu (aV X scope N { s2 with heap:=s2.heap.push { cls:=.type "list", data:=.seq ([]:List Value).toArray } } (upd H2 s2.heap.objs.size (.lst [])) fp) [] (upd H2 s2.heap.objs.size (.lst [])) b:=λb hb=>
  ⟨(f3 b hb).1,zAl (lt3 b hb),J4.ok.exfs b hb,.inl hb,(J4.ok.exf b hb).2,λp hp=>absurd hp (by simp [aV])⟩
 have go:=w s2.heap.objs.size I2.fresh;refine codeAny_mono (kZ (X:=aV X scope N { s2 with heap:=s2.heap.push { cls:=.type "list", data:=.seq ([]:List Value).toArray } } (upd H2 s2.heap.objs.size (.lst [])) fp) (e:=.ListComp elt (⟨tg,iter,ifs,0⟩::rest) scope pos) (d:=0) (acc:=.ref s2.heap.objs.size) (it:=it) (iter:=iter) (by rfl) (by rfl) (by rfl) (by rfl) T st4
  (nO (X:=aV X scope N { s2 with heap:=s2.heap.push { cls:=.type "list", data:=.seq ([]:List Value).toArray } } (upd H2 s2.heap.objs.size (.lst [])) fp) (hturn it _ _) (by rfl) (by rfl) (by rfl) rfl hc T (hg _ _ _) (ht _ _ _) (hb _ _ _ _) J4 st4 f4 go)) λr s' hr=>?_
 cases r with
 |error x=>exact False.elim hr
 |ok f=>
  obtain ⟨σ',H',J',q⟩:=hr;obtain ⟨m,hn,_⟩:=id J'.loc;exact ⟨m,hn,λh' hs'=>⟨.ref s2.heap.objs.size,H',I3.unblock f3 J' hs',rfl,q⟩⟩
theorem XD {n:Nat}
  (hc:X.calm=true) (B:jH X scope N n js) (hi:PI X tg iter wi) (hg:∀s H fp,PG (aV X scope N s H fp) tg g) (ht:∀s H fp,H9 (aV X scope N s H fp) ifs tt) (he:∀s H fp,PE (aV X scope N s H fp) elt te)
  (hs:∀x,foldedSetIterable iter X.env x=pure x:=by intro _;rfl):PE X (.ListComp elt [⟨tg,iter,ifs,0⟩] scope pos) (tLC wi g tt te n js):=
 QK (bd:=λacc env=>do let _ <-call (.builtin "list.append") [.ref acc,<-eval elt env]) rfl hc hi B (λ_ _ _=>by rfl) hg ht (λs H fp acc=>sy (he s H fp)) hs
def aa_ (wi:TI) (g:TG) (tt:TT) (wi2:TI) (g2:TG) (tt2:TT) (te:TE) (n:Nat) (js:List Nat):TE:=λσ H Q=>wi σ H λJ H1=>∀acc,H1 acc=none ->
 nY J g (lF tt (Im wi2 g2 (lF tt2 (zG acc te)))) { nx:=λ_ H'=>Q (.ref acc) H',rt:=λ_ _=>False } (pO σ n js) (upd H1 acc (.lst []))
theorem Yz {tg2 iter2:Expr}{ifs2:List Expr} :
  compTurn (.ListComp elt [⟨tg,iter,ifs,0⟩,⟨tg2,iter2,ifs2,0⟩] scope pos) 0 (.ref it) (.ref acc) env=turnOf (.ListComp elt [⟨tg,iter,ifs,0⟩,⟨tg2,iter2,ifs2,0⟩] scope pos) 0 (.ref it) (.ref acc) env tg iter ifs (tX (.ListComp elt [⟨tg,iter,ifs,0⟩,⟨tg2,iter2,ifs2,0⟩] scope pos) 1 acc env iter2):=by
 unfold turnOf tX;simp only [bind_assoc,pure_bind];rfl
theorem range_all (bs:List Bool):(List.range bs.length).all (λi=>bs.getD i false)=bs.all id:=by
 rw [zBc,List.all_eq_true,List.all_eq_true];constructor
 ·intro h b hb;obtain ⟨i,hi,e⟩:=zCm hb;have:=h i (List.mem_range.mpr hi);rw [zCn,zAc hi,Option.getD_some,e] at this;exact this
 ·intro h i hi;have hi:=List.mem_range.mp hi;rw [zCn,zAc hi,Option.getD_some];exact h _ (zBi hi)
theorem IK {bs:List Bool}{its:List Value}(r:Vals (bs.map V.bl) its) {i:Nat}{v:Value}(h:its.toArray[i]?=some v):v=.bool (bs.getD i false):=by
 rw [List.getElem?_toArray] at h;have hi:i < its.length:=(List.getElem?_eq_some_iff.mp h).1;have hl:=r.length;rw [zAn] at hl;have hx:(bs.map V.bl)[i]?=some (.bl (bs.getD i false)):=by
  rw [zAk,zCn,zAc (by omega)];rfl
 obtain ⟨u,hu,ru⟩:=r.get hx;rw [hu] at h;cases h
 exact ru
def XS (K:zF) (f:List Bool->Bool):List V->Hp->VK->Prop:=λxs H Q=>∃a bs,xs=[.ref a]/\cB K H a (bs.map V.bl)/\Q (.bl (f bs)) H
theorem FZ (hc:X.cool=true):g8 X (.builtin "all") (XS X.K λbs=>bs.all id):=by
 intro pins s σ H xs us Q I r h;obtain ⟨a,bs,rfl,hq,q⟩:=h;obtain ⟨u,rfl,ru⟩:=vals1 r;cases ru
 obtain ⟨its,rv,p,hz⟩:=I.list hq;have hl:=rv.length;rw [zAn] at hl;have ha:a < s.heap.objs.size:=let ⟨o,_,e,_⟩:=p;zAe e
 refine call_all_walk (wpAny_pyIter_list p.isList ?_);refine ⟨s.heap.objs.size,_,_,_,_,_,λi=>bs.getD i false,rfl,Walks.list (show X.A.in1.handled=none from I.ok.hc hc) _ a (zAl ha) its.toArray,⟨⟨_,zAp _ rfl,rfl,rfl⟩,p.isList.push _⟩,?_,λh' tk k=>?_⟩
 ·intro i v s' Q' E' hP hQ;rw [IK rv hP];exact wpAny_truthy_bool hQ
 ·have I2:Inv X pins σ H { s with heap:=h',toks:=tk }:=I.kept λb o e=>k b o (λz=>absurd (by simpa using z) (zAl (zAe e))) (zAb _ e);refine ⟨.bl (bs.all id),H,I2,?_,q⟩;rw [zAo,<-hl,range_all];all_goals rfl
def aa6 (K:zF):List V->Hp->VK->Prop:=λxs H Q=>∃x y t c b,xs=[x,y]/\RelV y c/\(∀u,RelV y u->u=c)/\qI K H x t/\PySem.W.kitOne K t c=some b/\Q (.bl b) H
theorem MP:g8 X (.builtin "isinstance") (aa6 X.K):=by
 intro pins s σ H xs us Q I r h;obtain ⟨x,y,t,c,b,rfl,hy,hu,ty,e,q⟩:=h;obtain ⟨u,w',rfl,ru,rw'⟩:=vals2 r;cases hu _ rw'
 exact GJ I ru ty e λtk=>⟨.bl b,H,I.tok _,rfl,q⟩
def Its (x:Str):It:=⟨λi _=>i < x.length,λi H v H'=>H'=H/\∃c,x.cps[i]?=some c/\v=.str ⟨#[c]⟩,λi _=>x.length<=i⟩
theorem JN (it:Addr) (x:Str) (t:Tok):Turn P w K tg (Its x) [it] it (λi h=>h.IsStrIter it (strIterType x) x t i/\i<=x.cps.size) where
 mem:=by simp
 obj:=λi h st b hb=>by
  have e:b=it:=by simpa using hb
  subst e;obtain ⟨⟨o,e,c,d⟩,_⟩:=st;exact ⟨o,e,λv z=>by rw [d] at z;cases z⟩
 keep:=λi h h' st k=>⟨let ⟨o,ho,r⟩:=st.1;⟨o,k it (by simp) o ho,r⟩,st.2⟩
 item:=by
  intro X hP hw hK hc i pins s σ H E I hf st hg;subst hP hw hK;obtain ⟨f0,f1,f2,f3,f4,f5⟩:=hf it (by simp);have hi:i < x.cps.size:=hg;have key:∀(n:String),strIterType x=n->(["enumerate", "zip", "dict_itemiterator", "dict_reverseitemiterator", "odict_iterator", "itertools.zip_longest", "itertools.pairwise"].contains n=false)->∀(c:Nat) (h':Heap),x.cps[i]?=some c->h'.IsStrIter it n x t (i+1)->Heap.SameBut it s.heap h' ->
    ∃u,some (Value.str ⟨#[c]⟩ s.toks)=some u/\wpAny (model X.prog X.w) X.A (letOwnedTupleGo tg (.ref it) u) (λ_ s2=>∃y H',Inv X pins σ H' s2/\RelV y u/\(Its x).yld i H y H'/\(s2.heap.IsStrIter it (strIterType x) x t (i+1)/\i+1<=x.cps.size)/\∀b∈[it],H' b=none) E { s with heap:=h',toks:=s.toks+1 }:=by
   intro n hn hno c h' hcv st' hs';have I1:Inv X pins σ H { s with heap:=h',toks:=s.toks+1 }:=I.turned (λb o hb e=>hs'.extBut b o hb e) f0 f1 f3 f4 f5;obtain ⟨o,ho,c1,d1⟩:=id st';exact ⟨_,rfl,Ec (s:={ s with heap:=h',toks:=s.toks+1 }) ho c1 d1 hno ⟨.str ⟨#[c]⟩,H,I1,⟨_,rfl⟩,⟨rfl,c,hcv,rfl⟩,⟨by rw [hn];exact st',hi⟩,λb hb=>(hf b hb).1⟩⟩
  have hcx:x.cps[i]?=some x.cps[i]:=by simp [hi]
  by_cases ha:(x.cps.all (· < 128))=true
  ·have hn:strIterType x = "str_ascii_iterator" := by unfold strIterType;rw [if_pos ha]
   exact wpAny_pyNext_ascii_item (by rw [<-hn];exact st.1) hcx λh' a b=>key _ hn (by decide) _ h' hcx a b
  ·have hn:strIterType x = "str_iterator" := by unfold strIterType;rw [if_neg ha]
   exact wpAny_pyNext_wide_item (by rw [<-hn];exact st.1) hcx λh' a b=>key _ hn (by decide) _ h' hcx a b
 done:=by
  intro X hP hw hK hc i pins s σ H E I hf st hg;subst hP hw hK;obtain ⟨f0,f1,f2,f3,f4,f5⟩:=hf it (by simp);have hi:x.cps.size<=i:=hg;have ei:i=x.cps.size:=Nat.le_antisymm st.2 hi;subst ei;by_cases ha:(x.cps.all (· < 128))=true
  ·have hn:strIterType x = "str_ascii_iterator" := by unfold strIterType;rw [if_pos ha]
   exact XH.Gm (I.vI hc f0) (by rw [<-hn];exact st.1) (by simp) λh' kk=>⟨rfl,I.turned (t':=s.toks) (λb o hb e=>kk b o hb e) f0 f1 f3 f4 f5⟩
  ·have hn:strIterType x = "str_iterator" := by unfold strIterType;rw [if_neg ha]
   exact XH.Kq (I.vI hc f0) (by rw [<-hn];exact st.1) (by simp) λh' kk=>⟨rfl,I.turned (t':=s.toks) (λb o hb e=>kk b o hb e) f0 f1 f3 f4 f5⟩
 self:=λA i s Q E st h=>by
  by_cases ha:(x.cps.all (· < 128))=true
  ·have hn:strIterType x = "str_ascii_iterator" := by unfold strIterType;rw [if_pos ha]
   exact wpAny_pyIter_striter_ascii (by rw [<-hn];exact st.1) h
  ·have hn:strIterType x = "str_iterator" := by unfold strIterType;rw [if_neg ha]
   exact wpAny_pyIter_striter_wide (by rw [<-hn];exact st.1) h
def ac1:V->Option Int->Option Int->Hp->VK->Prop:=λx lo hi H Q=>∃z,x=.str z/\z.length<=sizeLine/\Q (.str (Txt.slice z lo hi)) H
def Ite (K:zF) (a:Addr):It:=
 ⟨λi H=>∃xs x,cB K H a xs/\xs[i]?=some x,λi H y H'=>∃p x,y=.ref p/\H p=none/\H'=upd H p (.tup [.int i,x])/\∀xs,cB K H a xs->xs[i]?=some x,λi H=>∃xs,cB K H a xs/\xs.length<=i⟩
theorem Gj {elts:List Expr}{x1:Nat}{tpos:Pos}(a e it:Addr) (hne:e≠it) :
  Turn P w K (.Tuple elts x1 tpos) (Ite K a) [e,it] e (λi h=>(∃old,IsEnum h e it i old)/\h.IsListIter it a i) where
 mem:=by simp
 obj:=λi h st b hb=>by
  obtain ⟨⟨old,he⟩,o,ho,c,d⟩:=st;rcases zBv.mp hb with z | z
  ·subst z;exact ⟨_,he,λv z=>by cases z⟩
  ·have z:b=it:=by simpa using z
   subst z;exact ⟨o,ho,λv z=>by rw [d] at z;cases z⟩
 keep:=λi h h' st k=>⟨let ⟨old,he⟩:=st.1;⟨old,k e (by simp) _ he⟩,st.2.at λo e'=>k it (by simp) o e'⟩
 item:=by
  intro X hP hw hK hc i pins s σ H E I hf st hg;subst hP hw hK;obtain ⟨⟨old,he⟩,hit⟩:=st;obtain ⟨xs,x,hq,hx⟩:=hg;obtain ⟨its,rv,p,hz⟩:=I.list hq;obtain ⟨u,hu,ru⟩:=rv.get hx;obtain ⟨e0,e1,e2,e3,e4,e5⟩:=hf e (by simp);obtain ⟨f0,f1,f2,f3,f4,f5⟩:=hf it (by simp);refine wpAny_pyNext_enum_item he hit p.isList (x:=u) (by simpa using hu) hne λh' he' hit' ht' hsz' kk=>?_;refine ⟨_,rfl,wpAny_letOwnedTupleGo_enum he' λh2 he2 hs2=>?_⟩;have kb:∀b o,b≠e->b≠it->s.heap.get? b=some o->h2.get? b=some o:=λb o z1 z2 q=>(hs2.2 b z1).trans (kk b o z1 z2 q);have ne:s.heap.objs.size≠e:=Ne.symm (zAl (zAe he));have nit:∀b u',H b=some u'->b≠e/\b≠it:=λb u' q=>⟨λz=>(by rw [z,e0] at q;cases q),λz=>(by rw [z,f0] at q;cases q)⟩;have hn:=I.fresh;have ht2:h2.get? s.heap.objs.size=some { cls:=.type "tuple", data:=.seq #[.int i s.toks,u] }:=(hs2.2 _ ne).trans ht';have hok2:nD X.prog X.w (upd H s.heap.objs.size (.tup [.int i,x])) h2:=λb u' q=>by
   by_cases hb:b=s.heap.objs.size
   ·subst hb;rw [aJ] at q;cases q
    refine ⟨by show 2<=sizeLine;decide,[.int i s.toks,u],.cons ⟨_,rfl⟩ (.cons ru .nil),⟨_,ht2,rfl,0,rfl⟩⟩
   ·rw [aA hb] at q;refine (I.hok b u' q).stay (λc v hcc z=>?_) (λc z=>by rw [aA (aO z hn)];exact z) λc ys z=>by rw [aA (aO z hn)];exact z
    rcases hcc with z' | z'
    ·subst z';exact kb _ _ (nit c u' q).1 (nit c u' q).2 z
    ·exact kb _ _ (nit c _ z').1 (nit c _ z').2 z
  have I2:Inv X pins σ (upd H s.heap.objs.size (.tup [.int i,x])) { s with heap:=h2,toks:=s.toks+1 }:=by
   refine I.step (g':=s.gens) (d':=s.drawn) (ch:=[e,it]) (λb hb=>?_) (λb o _ _ hch q _=>kb b o (λz=>hch (by simp [z])) (λz=>hch (by simp [z])) q) (λb o _ _ hch q _=>⟨o.slots,kb b o (λz=>hch (by simp [z])) (λz=>hch (by simp [z])) q⟩)
    (λb o hch q n=>by rw [aA (zAl (zAe q))];exact n) (λb o hch q=>⟨o,kb b o (λz=>hch (by simp [z])) (λz=>hch (by simp [z])) q⟩)
    (λb ys q=>by rw [aA (aO q hn)];exact q) (λb o u' q=>by rw [aA (aO q hn)];exact q) (λb ps q=>⟨#[],by rw [aA (aO q hn),q];simp⟩) (λm hm=>?_) hok2 I.bare
   ·rcases zBv.mp hb with z | z
    ·subst z;exact ⟨e3,e1,e4,e5⟩
    ·have z:b=it:=by simpa using z
     subst z;exact ⟨f3,f1,f4,f5⟩
   ·obtain ⟨o,es,ep,ho,r⟩:=hm;exact ⟨o,es,ep,kb _ o (Ne.symm e1) (Ne.symm f1) ho,r⟩
  refine ⟨.ref s.heap.objs.size,_,I2,rfl,⟨_,x,rfl,hn,rfl,λys hy=>by rw [I.mC hy hq];exact hx⟩,⟨⟨u,by have q:=he2;rwa [show ((i:Int)+1)=((i+1:Nat):Int) by omega] at q⟩,?_⟩,λb hb=>?_⟩
  ·exact hit'.extBut hs2.extBut (Ne.symm hne)
  ·rcases zBv.mp hb with z | z
   ·subst z;rw [aA (Ne.symm ne)];exact e0
   ·have z:b=it:=by simpa using z
    subst z;obtain ⟨o,ho,_⟩:=id hit;rw [aA (zAl (zAe ho))];exact f0
 done:=by
  intro X hP hw hK hc i pins s σ H E I hf st hg;subst hP hw hK;obtain ⟨⟨old,he⟩,hit⟩:=st;obtain ⟨xs,hq,hx⟩:=hg;obtain ⟨its,rv,p,hz⟩:=I.list hq;obtain ⟨f0,f1,f2,f3,f4,f5⟩:=hf it (by simp);have hl:=rv.length;exact XH.M4 (I.vI hc f0) he hit p.isList (by simp;omega) λh' eb=>⟨rfl,I.turned (t':=s.toks) (λb o hb q=>eb b o hb q) f0 f1 f3 f4 f5⟩
 self:=λ_ _ _ _ _ st h=>let ⟨_,he⟩:=st.1;wpAny_pyIter_enum he h
section
variable {κ:Type} [DecidableEq κ]
def mQ (kvs:List (κ×V)) (k:κ):Option V:=(kvs.find? λkv=>decide (kv.1=k)).map (·.2)
def putK (kvs:List (κ×V)) (k:κ) (v:V):List (κ×V):=
 if (kvs.any λkv=>decide (kv.1=k))=true then kvs.map (λkv=>if kv.1=k then (kv.1,v) else kv) else kvs++[(k,v)]
theorem uh {p:κ×V}{r:List (κ×V)}{k:κ}(e:p.1=k):mQ (p::r) k=some p.2:=by simp [mQ,zBI,e]
theorem ux {p:κ×V}{r:List (κ×V)}{k:κ}(e:¬p.1=k):mQ (p::r) k=mQ r k:=by simp [mQ,zBI,e]
theorem zy (k:κ):∀kvs:List (κ×V),(kvs.any λkv=>decide (kv.1=k))=(mQ kvs k).isSome
 |[]=>rfl
 |p::r=>by
  rw [List.any_cons];by_cases e:p.1=k
  ·simp only [uh e,decide_eq_true e,Bool.true_or,Option.isSome_some]
  ·rw [ux e,decide_eq_false e,Bool.false_or];exact zy k r
theorem iY (kvs:List (κ×V)) (k:κ) (v:V):(putK kvs k v).length<=kvs.length+1:=by
 unfold putK;split
 ·rw [zAn];omega
 ·rw [zAy,zAv,zCl];omega
theorem oE.jZ {u:Option Value}(r:oE o u):o.isSome=u.isSome:=by
 cases o with
 |none=>cases u with
  |none=>rfl
  |some _=>exact (show False from r).elim
 |some _=>cases u with
  |none=>exact (show False from r).elim
  |some _=>rfl
theorem KV.val {kvs:List (κ×V)}{vs:List (κ×Value)}(r:KV kvs vs) (k:κ):oE (mQ kvs k) (valueAt vs k):=by
 unfold KV at r;induction r with
 |nil=>exact True.intro
 |@cons p q ps qs h t ih=>
  obtain ⟨h1,h2⟩:=h;by_cases e:p.1=k
  ·have e':q.1=k:=h1.symm.trans e;have b:valueAt (q::qs) k=some q.2:=by simp [valueAt,zBI,e']
   rw [uh e,b];exact h2
  ·have e':¬q.1=k:=λz=>e (h1.trans z);have b:valueAt (q::qs) k=valueAt qs k:=by simp [valueAt,zBI,e']
   rw [ux e,b];exact ih
theorem KV.any {kvs:List (κ×V)}{vs:List (κ×Value)}(r:KV kvs vs) (k:κ):(kvs.any λkv=>decide (kv.1=k))=vs.any λkv=>decide (kv.1=k):=by
 unfold KV at r;induction r with
 |nil=>rfl
 |cons h t ih=>rw [List.any_cons,List.any_cons,ih,h.1]
theorem KV.repl {kvs:List (κ×V)}{vs:List (κ×Value)}(r:KV kvs vs) (k:κ) (ry:RelV y u) :
  KV (kvs.map λkv=>if kv.1=k then (kv.1,y) else kv) (vs.map λkv=>if kv.1=k then (kv.1,u) else kv):=by
 unfold KV at r ⊢;induction r with
 |nil=>exact .nil
 |@cons p q ps qs h t ih=>
  rw [zAr,zAr];refine .cons ?_ ih;obtain ⟨h1,h2⟩:=h;by_cases e:p.1=k
  ·rw [if_pos e,if_pos (h1.symm.trans e)];exact ⟨h1,ry⟩
  ·rw [if_neg e,if_neg (λz=>e (h1.trans z))];exact ⟨h1,h2⟩
theorem KV.put {kvs:List (κ×V)}{vs:List (κ×Value)}(r:KV kvs vs) (k:κ) (ry:RelV y u):KV (putK kvs k y) (stored vs k u):=by
 unfold putK stored;rw [r.any k];by_cases e:(vs.any λkv=>decide (kv.1=k))=true
 ·rw [if_pos e,if_pos e];exact r.repl k ry
 ·rw [if_neg e,if_neg e];exact Paired.snoc r ⟨rfl,ry⟩
theorem KV.keys {kvs:List (κ×V)}{vs:List (κ×Value)}(r:KV kvs vs):kvs.map (·.1)=vs.map (·.1):=by
 unfold KV at r;induction r with
 |nil=>rfl
 |cons h t ih=>rw [zAr,zAr,ih,h.1]
theorem KV.length {kvs:List (κ×V)}{vs:List (κ×Value)}(r:KV kvs vs):kvs.length=vs.length:=Paired.length r
end
theorem qU {k:Key}(r:RelV (kV k) u):(aN P w).is k u=true:=by
 cases k with
 |inl i=>obtain ⟨t,e⟩:=(show ∃t,u=Value.int i t from r);subst e;exact zf P w i t
 |inr x=>obtain ⟨t,e⟩:=(show ∃t,u=Value.str x t from r);subst e;exact zR P w x t
theorem vV {P:Program}{w:World}:∀{ks:List Key}{us:List Value},Vals (ks.map kV) us->ItemsAre (aN P w) ks us
 |[],_,r=>by rw [zCe] at r;cases r;exact .nil
 |k::ks,_,r=>by
  rw [zAr] at r;cases r with
  |cons h t=>exact .cons (qU h) (vV t)
abbrev KT (H:Hp):List (List Key×V)->List (List Key×Addr×Value)->Prop:=Paired λp q=>p.1=q.1/\H q.2.1=some (.tup (p.1.map kV))/\RelV p.2 q.2.2
theorem KT.val (r:KT H kvs xs) (k:List Key):oE (mQ kvs k) ((atKey xs k).map (·.2)):=by
 induction r with
 |nil=>exact True.intro
 |@cons p q ps qs h t ih=>
  obtain ⟨h1,_,h2⟩:=h;by_cases e:p.1=k
  ·have e':q.1=k:=h1.symm.trans e;have b:atKey (q::qs) k=some q.2:=by simp [atKey,zBI,e']
   rw [uh e,b];exact h2
  ·have e':¬q.1=k:=λz=>e (h1.trans z);have b:atKey (q::qs) k=atKey qs k:=by simp [atKey,zBI,e']
   rw [ux e,b];exact ih
theorem KT.repl (r:KT H kvs xs) (k:List Key) (ry:RelV y u) :
  KT H (kvs.map λkv=>if kv.1=k then (kv.1,y) else kv) (xs.map (putAt k u)):=by
 induction r with
 |nil=>exact .nil
 |@cons p q ps qs h t ih=>
  rw [zAr,zAr];refine .cons ?_ ih;obtain ⟨h1,h2,h3⟩:=h;unfold putAt;by_cases e:p.1=k
  ·rw [if_pos e,if_pos (h1.symm.trans e)];exact ⟨h1,h2,ry⟩
  ·rw [if_neg e,if_neg (λz=>e (h1.trans z))];exact ⟨h1,h2,h3⟩
theorem KT.put (r:KT H kvs xs) (k:List Key) {b:Addr}(hb:H b=some (.tup (k.map kV))) (ry:RelV y u) :
  KT H (putK kvs k y) (storedH xs k b u):=by
 have e:(kvs.any λkv=>decide (kv.1=k))=(atKey xs k).isSome:=by
  rw [zy,(r.val k).jZ,Option.isSome_map]
 unfold putK storedH;rw [e];by_cases q:(atKey xs k).isSome=true
 ·rw [if_pos q,if_pos q];exact r.repl k ry
 ·rw [if_neg q,if_neg q];exact Paired.snoc r ⟨rfl,hb,ry⟩
theorem KT.keeps (r:KT H kvs xs) (ht:∀b ys,H b=some (.tup ys)->H' b=some (.tup ys)):KT H' kvs xs:=
 Paired.Pr r λ_ _ z=>⟨z.1,ht _ _ z.2.1,z.2.2⟩
section
variable {h:Heap}
theorem Rf {u:HO}(ok:nD P w H h) (e:Rd H a u):bw P w H h a u:=e.ok ok
theorem qO {kvs:List (Key×V)}(ok:nD P w H h) (e:Rd H a (.dK kvs)):kvs.length<=sizeLine/\(a==sysModules)=false/\∃vs,KV kvs vs/\h.DictOf (aN P w) a vs:=
 show bw P w H h a (.dK kvs) from Rf ok e
theorem DQ {kvs:List (Key×V)}(ok:nD P w H h) (e:H a=some (.dK kvs)):kvs.length<=sizeLine/\(a==sysModules)=false/\∃vs,KV kvs vs/\h.DictOf (aN P w) a vs:=qO ok (.inl e)
theorem jC {ks:List Key}(ok:nD P w H h) (e:H a=some (.tup (ks.map kV))):(tupleKind (aN P w)).is h ks a:=by
 obtain ⟨_,its,r,o,h1,h2,n,h3⟩:=(show bw P w H h a (.tup (ks.map kV)) from ok a _ e);exact ⟨o,its.toArray,n,h1,h2,h3,by simpa using vV r⟩
theorem zZ (ok:nD P w H h) (e:Rd H a (.dT kvs)):kvs.length<=sizeLine/\(a==sysModules)=false /\
  ∃xs,KT H kvs xs/\h.DictOfH (tupleKind (aN P w)) a xs:=by
 obtain ⟨z,y,xs,r,o,es,ep,h1,h2,h3,h4,h5⟩:=(show bw P w H h a (.dT kvs) from Rf ok e);refine ⟨z,y,xs,r,o,es,ep,h1,h2,h3,h4,λx hx=>?_,h5⟩;have all:∀{l:List (List Key×V)}{m:List (List Key×Addr×Value)},KT H l m->∀x∈m,(tupleKind (aN P w)).is h x.1 x.2.1:=by
  intro l m q;induction q with
  |nil=>intro x hx;exact nomatch hx
  |@cons p q ps qs hq t ih=>
   intro x hx;rcases zBv.mp hx with e | hx
   ·subst e;exact jC ok (by rw [<-hq.1];exact hq.2.1)
   ·exact ih x hx
 exact all r x hx
theorem Zn (ok:nD P w H h) (e:H a=some (.dT kvs)):kvs.length<=sizeLine/\(a==sysModules)=false /\
  ∃xs,KT H kvs xs/\h.DictOfH (tupleKind (aN P w)) a xs:=zZ ok (.inl e)
end
def GC (H:Hp) (a:Addr) (y:V) (r:Option V):Prop:=
 (∃kvs k,Rd H a (.dK kvs)/\y=kV k/\r=mQ kvs k)∨∃kvs k b,Rd H a (.dT kvs)/\y=.ref b/\H b=some (.tup (k.map kV))/\r=mQ kvs k
def M7 (H:Hp) (a:Addr) (y v:V) (H':Hp):Prop:=
 (∃kvs k,H a=some (.dK kvs)/\y=kV k/\kvs.length < sizeLine/\H'=upd H a (.dK (putK kvs k v))) ∨
 ∃kvs k b,H a=some (.dT kvs)/\y=.ref b/\H b=some (.tup (k.map kV))/\kvs.length < sizeLine/\H'=upd H a (.dT (putK kvs k v))
theorem M7.k {H:Hp}{a:Addr}{kvs:List (Key×V)}{k:Key}{v:V}(e:H a=some (.dK kvs)) (hl:kvs.length < sizeLine):M7 H a (kV k) v (upd H a (.dK (putK kvs k v))):=.inl ⟨kvs,k,e,rfl,hl,rfl⟩
section
variable {v:V}{r:Value}{A:Around}
theorem Inv.big (I:Inv X pins σ H s):sysModules < s.heap.objs.size:=by
 have h:mainGlobals < s.heap.objs.size:=(I.mod.glob.keeps I.bk).lt;exact zBz (by decide) h
theorem FP {Q:zV}(hu:A.units+1 < cLine) (I:Inv X pins σ H s) (g:GC H a y (some v)) (ry:RelV y u) (h:∀w' s',Inv X pins σ H s'->RelV v w'->Q w' s') :
  wpAny (model X.prog X.w) A (getItem (.ref a) u) Q E s:=by
 rcases g with ⟨kvs,k,e,ey,l⟩ | ⟨kvs,k,b,e,ey,eb,l⟩
 ·subst ey;obtain ⟨z,hd,vs,rel,dd⟩:=qO I.hok e;obtain ⟨w',hw,rw'⟩:=oE.some_of (v:=v) (o:=valueAt vs k) (by rw [l];exact rel.val k);exact wpAny_getItem_of (qU ry) dd.mapOf hw (h w' _ (I.tok _) rw')
 ·subst ey;cases (show u=Value.ref b from ry)
  obtain ⟨z,hd,xs,rel,dd⟩:=zZ I.hok e;obtain ⟨w',hw,rw'⟩:=oE.some_of (v:=v) (o:=(atKey xs k).map (·.2)) (by rw [l];exact rel.val k);obtain ⟨p,hp,hp2⟩:=Option.map_eq_some_iff.mp hw;refine wpAny_getItem_heap (tupleKind_room_in1 hu) (jC I.hok eb) dd hp ?_;rw [hp2];exact h w' _ (I.tok _) rw'
theorem abJ {Q:zV}(hu:A.units+1 < cLine) (I:Inv X pins σ H s) (g:GC H a y o) (ry:RelV y u) (h:∀s',Inv X pins σ H s'->Q (.bool o.isSome) s') :
  wpAny (model X.prog X.w) A (compareOp .In u (.ref a)) Q E s:=by
 rcases g with ⟨kvs,k,e,ey,l⟩ | ⟨kvs,k,b,e,ey,eb,l⟩
 ·subst ey;obtain ⟨z,hd,vs,rel,dd⟩:=qO I.hok e;refine wpAny_in_of (qU ry) hd dd.mapOf ?_;rw [<-(rel.val k).jZ,<-l];exact h _ (I.tok _)
 ·subst ey;cases (show u=Value.ref b from ry)
  obtain ⟨z,hd,xs,rel,dd⟩:=zZ I.hok e;refine wpAny_in_heap (tupleKind_room_in1 hu) (jC I.hok eb) hd dd ?_;have q:=(rel.val k).jZ;rw [Option.isSome_map] at q;rw [<-q,<-l];exact h _ (I.tok _)
theorem OJ {Q:zV}(hu:A.units+1 < cLine) (I:Inv X pins σ H s) (g:GC H a y o) (ry:RelV y u) (h:∀s',Inv X pins σ H s'->Q (.bool (!o.isSome)) s') :
  wpAny (model X.prog X.w) A (compareOp .NotIn u (.ref a)) Q E s:=by
 rcases g with ⟨kvs,k,e,ey,l⟩ | ⟨kvs,k,b,e,ey,eb,l⟩
 ·subst ey;obtain ⟨z,hd,vs,rel,dd⟩:=qO I.hok e;refine wpAny_notIn_of (qU ry) hd dd.mapOf ?_;rw [<-(rel.val k).jZ,<-l];exact h _ (I.tok _)
 ·subst ey;cases (show u=Value.ref b from ry)
  obtain ⟨z,hd,xs,rel,dd⟩:=zZ I.hok e;refine wpAny_notIn_heap (tupleKind_room_in1 hu) (jC I.hok eb) hd dd ?_;have q:=(rel.val k).jZ;rw [Option.isSome_map] at q;rw [<-q,<-l];exact h _ (I.tok _)
theorem pZ {t':Nat}{ob:HO}(I:Inv X pins σ H s) (mu:YW (H a)) (hs:Heap.SameBut a s.heap h') (he:∃q,h'.get? a=some q) (new:bw X.prog X.w (upd H a ob) h' a ob) :
  Inv X pins σ (upd H a ob) { s with heap:=h',toks:=t' }:=
 I.write (x:=a) (e:=a) mu (.inl rfl) (λb q hb z=>(hs.2 b hb).trans z) he new
theorem tL {kvs:List (Key×V)}{vs:List (Key×Value)}(z:kvs.length<=sizeLine) (hd:(a==sysModules)=false) (rel:KV kvs vs) (dd:h'.DictOf (aN P w) a vs) :
  bw P w H' h' a (.dK kvs):=⟨z,hd,vs,rel,dd⟩
theorem Gv {Q:Unit->Shared->Prop}(hu:A.units+1 < cLine) (I:Inv X pins σ H s) (g:M7 H a y v H') (ry:RelV y u) (rv:RelV v r) (h:∀s',Inv X pins σ H' s'->Q () s') :
  wpAny (model X.prog X.w) A (setItem (.ref a) u r) Q E s:=by
 rcases g with ⟨kvs,k,e,ey,l,eH⟩ | ⟨kvs,k,b,e,ey,eb,l,eH⟩
 ·subst ey eH;obtain ⟨z,hd,vs,rel,dd⟩:=DQ I.hok e;have hz:vs.length<=sizeLine:=by rw [<-rel.length];exact z
  have hl:(putK kvs k v).length<=sizeLine:=by have:=iY kvs k v;omega
  refine wpAny_setItem_pairs (hsz:=hz) (qU ry) dd λh' dd' hs=>h _ ?_;have he:∃q,h'.get? a=some q:=let ⟨q,_,_,hq,_⟩:=dd';⟨q,hq⟩
  exact pZ I (by rw [e];exact True.intro) hs he (tL hl hd (rel.put k rv) dd')
 ·subst ey eH;cases (show u=Value.ref b from ry)
  obtain ⟨z,hd,xs,rel,dd⟩:=Zn I.hok e;have hz:xs.length<=sizeLine:=by rw [<-Paired.length rel];exact z
  have hl:(putK kvs k v).length<=sizeLine:=by have:=iY kvs k v;omega
  refine wpAny_setItem_heap (hsz:=hz) (tupleKind_room_in1 hu) (jC I.hok eb) dd λh' dd' hs=>h _ ?_;obtain ⟨q,es,ep,hq,h2,h3,h4,_,h5⟩:=dd';refine pZ I (by rw [e];exact True.intro) hs ⟨q,hq⟩ ⟨hl,hd,_,(rel.put k eb rv).keeps λc ys ec=>?_,q,es,ep,hq,h2,h3,h4,h5⟩;rw [aA (yG ec e (λz=>nomatch z))];exact ec
end
section
variable {kvs:List (Key×V)}{k:Key}{A:Around}
theorem Xx {Q:zV}(I:Inv X pins σ H s) (e:Rd H a (.dK kvs)) (h:∀t s',Inv X pins σ H s'->Q (.int kvs.length t) s'):wpAny (model X.prog X.w) A (call (.builtin "len") [.ref a]) Q E s:=by
 obtain ⟨z,hd,vs,rel,dd⟩:=qO I.hok e;refine call_len_dict hd dd (by rw [<-rel.length];rw [sizeLine_eq] at z;omega) ?_;rw [<-rel.length];exact h _ _ (I.tok _)
end
theorem zT (I:Inv X pins σ H s) (g:GC H a y o):s.TypeIs (.ref a) "dict" := by
 rcases g with ⟨kvs,k,e,_,_⟩ | ⟨kvs,k,b,e,_,_,_⟩
 ·obtain ⟨_,_,vs,_,dd⟩:=qO I.hok e;exact dd.typeIs
 ·obtain ⟨_,_,xs,_,dd⟩:=zZ I.hok e;exact dd.typeIs
theorem tM (h:Heap) (hb:sysModules < h.objs.size):bw P w H (h.push { cls:=.type "dict", data:=.dict #[] }) h.objs.size (.dK []):=
 ⟨zBf _,beq_eq_false_iff_ne.mpr (Ne.symm (zAl hb)),[],.nil,Heap.DictOf.new h⟩
def Xb:TE:=λ_ H Q=>∀p,H p=none->Q (.ref p) (upd H p (.dK []))
theorem JG:PE X (.Dict [] [] pos) Xb:=λpins s σ H Q I h=>
 wpAny_Dict_empty ⟨.ref s.heap.objs.size,_,I.laid (a:=s.heap.objs.size) (o:=.dK []) (t':=s.toks) (λ_ _ q=>zAb _ q) (zAq _) (tM s.heap I.big),rfl,h _ (I.hok.fresh (zAq _))⟩
def BW:List (TE×TE)->St->Hp->(List (V×V)->Hp->Prop)->Prop
 |[],_,H,Q=>Q [] H
 |(tk,tv)::r,σ,H,Q=>tk σ H λx H1=>tv σ H1 λy H2=>BW r σ H2 λps H3=>Q ((x,y)::ps) H3
abbrev VV:List (V×V)->List (Value×Value)->Prop:=Paired λp q=>RelV p.1 q.1/\RelV p.2 q.2
def PPs (X:Cx) (pos:Pos) (keys:List (Option Expr)) (values:List Expr) (trs:List (TE×TE)):Prop:=
 ∀(pins:List (Addr×Obj)) (s:Shared) (σ:St) (H:Hp) (Q:List (V×V)->Hp->Prop),Inv X pins σ H s->BW trs σ H Q ->
  wpAny (model X.prog X.w) X.A (evalPairs (pairTrees keys values X.env pos)) (λvs s'=>∃ps H',Inv X pins σ H' s'/\VV ps vs/\Q ps H') X.xe s
theorem Qd:PPs X pos [] [] []:=λpins s σ H Q I h=>pairTrees_nil_walk ⟨[],H,I,.nil,h⟩
theorem JW {k v:Expr}{ks:List (Option Expr)}{vs:List Expr}{tk tv:TE}(hk:PE X k tk) (hv:PE X v tv) (hr:PPs X pos ks vs trs) :
  PPs X pos (some k::ks) (v::vs) ((tk,tv)::trs):=λpins s σ H Q I h=>
 pairTrees_cons_walk (cR (hk pins s σ H _ I h) λu s1 ⟨x,H1,I1,rx,q1⟩=>cR (hv pins s1 σ H1 _ I1 q1) λw2 s2 ⟨y,H2,I2,ry,q2⟩=>
  cR (hr pins s2 σ H2 _ I2 q2) λws s3 ⟨ps,H3,I3,rel,q3⟩=>⟨(x,y)::ps,H3,I3,.cons ⟨rx,ry⟩ rel,q3⟩)
def lB (kvs more:List (Key×V)):List (Key×V):=more.foldl (λacc kv=>putK acc kv.1 kv.2) kvs
theorem KV.merge:∀{more:List (Key×V)}{rs:List (Key×Value)}{kvs:List (Key×V)}{vs:List (Key×Value)},KV more rs->KV kvs vs->KV (lB kvs more) (merged vs rs):=by
 intro more rs kvs vs r;unfold KV at r;induction r generalizing kvs vs with
 |nil=>intro q;exact q
 |@cons p q ps qs h t ih=>
  intro r0;have e:KV (putK kvs p.1 p.2) (stored vs q.1 q.2):=by
   have:=r0.put p.1 h.2;rw [<-h.1];exact this
  exact ih e
theorem jN:∀(more kvs:List (Key×V)),(lB kvs more).length<=kvs.length+more.length
 |[],kvs=>by show kvs.length<=kvs.length+0;omega
 |p::r,kvs=>by
  have h1:=jN r (putK kvs p.1 p.2);have h2:=iY kvs p.1 p.2;show (lB (putK kvs p.1 p.2) r).length<=_;rw [zAv];omega
theorem sS {P:Program}{w:World}:∀{kvs:List (Key×V)}{ws:List (Value×Value)},VV (kvs.map λkv=>(kV kv.1,kv.2)) ws->∃rs,Carries (aN P w) ws rs/\KV kvs rs
 |[],_,r=>by rw [zCe] at r;cases r;exact ⟨[],True.intro,.nil⟩
 |p::kvs,_,r=>by
  rw [zAr] at r;cases r with
  |@cons a b as bs h t=>
   obtain ⟨rs,c,q⟩:=sS (P:=P) (w:=w) t;obtain ⟨b1,b2⟩:=b;exact ⟨(p.1,b2)::rs,⟨qU h.1,rfl,c⟩,.cons ⟨rfl,h.2⟩ q⟩
def Zt (trs:List (TE×TE)):TE:=λσ H Q=>∀p,H p=none->BW trs σ (upd H p (.dK [])) λps H2=>H2 p=some (.dK [])/\∃kvs:List (Key×V),ps=kvs.map (λkv=>(kV kv.1,kv.2))/\kvs.length<=15/\Q (.ref p) (upd H2 p (.dK (lB [] kvs)))
theorem PN {keys:List (Option Expr)}{values:List Expr}(h:PPs X pos keys values trs) (hall:keys.all (·.isSome)=true) (hl:keys.length=values.length) (h0:keys≠[])
  (h15:keys.length<=15):PE X (.Dict keys values pos) (Zt trs):=by
 intro pins s σ H Q I q;have hn:=I.hok.fresh (zAq s.heap.objs.size);have I1:=I.laid (a:=s.heap.objs.size) (o:=.dK []) (h':=s.heap.push { cls:=.type "dict", data:=.dict #[] }) (t':=s.toks) (λ_ _ q=>zAb _ q) (zAq _) (tM s.heap I.big);refine wpAny_Dict_walk (knd:=aN X.prog X.w) hall hl h0 h15 (cR (h pins _ σ _ _ I1 (q _ hn)) λws s2 ⟨ps,H2,I2,rel,e,kvs,ep,lk,q2⟩=>?_);subst ep;obtain ⟨rs,c,rk⟩:=sS (P:=X.prog) (w:=X.w) rel;obtain ⟨z,hd,vs0,r0,dd⟩:=DQ I2.hok e;cases r0
 refine ⟨rs,c,dd,λh' dd' hs=>⟨.ref s.heap.objs.size,_,?_,rfl,q2⟩⟩;have hz:(lB [] kvs).length<=sizeLine:=by
  have h1:=jN kvs [];rw [zCl] at h1;rw [sizeLine_eq];omega
 have he:∃q,h'.get? s.heap.objs.size=some q:=let ⟨q,_,_,hq,_⟩:=dd';⟨q,hq⟩
 exact pZ I2 (by rw [e];exact True.intro) hs he (tL hz hd (rk.merge .nil) dd')
theorem UJ:bootBuiltins "len" = some (.builtin "len"):=by decide +kernel
theorem jW:bootBuiltins "isinstance" = some (.builtin "isinstance"):=by decide +kernel
theorem Vi:bootBuiltins "all" = some (.builtin "all"):=by decide +kernel
theorem Tc:bootBuiltins "abs" = some (.builtin "abs"):=by decide +kernel
theorem Gu:bootBuiltins "sorted" = some (.builtin "sorted"):=by decide +kernel
theorem K4:bootBuiltins "str" = some (.type "str"):=by decide +kernel
theorem vZ:bootBuiltins "list" = some (.type "list"):=by decide +kernel
theorem Qs:bootBuiltins "dict" = some (.type "dict"):=by decide +kernel
theorem JL:bootBuiltins "set" = some (.type "set"):=by decide +kernel
inductive D where
 |non | bl (b:Bool) | int (i:Int) | str (x:Str) | lst (xs:List D) | tup (xs:List D)
mutual
def Rep (K:zF) (H:Hp):D->V->Prop
 |.non,v=>v=.non
 |.bl b,v=>v=.bl b
 |.int i,v=>v=.int i
 |.str x,v=>v=.str x
 |.lst ds,v=>∃a xs,v=.ref a/\cB K H a xs/\aD K H ds xs
 |.tup ds,v=>∃a xs,v=.ref a/\iG K H a xs/\aD K H ds xs
def aD (K:zF) (H:Hp):List D->List V->Prop
 |[],vs=>vs=[]
 |d::ds,vs=>∃v r,vs=v::r/\Rep K H d v/\aD K H ds r
end
mutual
def cA:D->D->Option Bool
 |.non,.non=>some true
 |.bl a,.bl b=>some (a==b)
 |.int a,.int b=>some (a==b)
 |.str a,.str b=>some (a==b)
 |.lst xs,.lst ys=>if xs.length=ys.length then i_ xs ys else some false
 |.tup xs,.tup ys=>i_ xs ys
 |_,_=>none
def i_:List D->List D->Option Bool
 |[],[]=>some true
 |x::xs,y::ys=>match cA x y,i_ xs ys with
  |some a,some b=>some (a&&b)
  |_,_=>none
 |[],_::_=>some false
 |_::_,[]=>some false
end
mutual
def fX:D->Nat
 |.lst xs=>gC xs+1
 |.tup xs=>gC xs+1
 |_=>0
def gC:List D->Nat
 |[]=>0
 |x::xs=>max (fX x) (gC xs)
end
section
variable {K:zF}{H H':Hp}
theorem Same.tup (e:Same H H') {a:Addr}{xs:List V}(h:iG K H a xs):iG K H' a xs:=by
 rcases h with (h | ⟨o,h⟩) | h
 ·exact .inl (.inl (e _ _ h))
 ·exact .inl (.inr ⟨o,e _ _ h⟩)
 ·exact .inr h
mutual
theorem Rep.same (e:Same H H'):∀{d:D}{v:V},Rep K H d v->Rep K H' d v
 |.non,_,h=>by unfold Rep at h ⊢;exact h
 |.bl _,_,h=>by unfold Rep at h ⊢;exact h
 |.int _,_,h=>by unfold Rep at h ⊢;exact h
 |.str _,_,h=>by unfold Rep at h ⊢;exact h
 |.lst ds,v,h=>by
  unfold Rep at h ⊢;obtain ⟨a,xs,e1,h1,h2⟩:=h;exact ⟨a,xs,e1,e.seq h1,aD.same e h2⟩
 |.tup ds,v,h=>by
  unfold Rep at h ⊢;obtain ⟨a,xs,e1,h1,h2⟩:=h;exact ⟨a,xs,e1,e.tup h1,aD.same e h2⟩
theorem aD.same (e:Same H H'):∀{ds:List D}{vs:List V},aD K H ds vs->aD K H' ds vs
 |[],vs,h=>by unfold aD at h ⊢;exact h
 |d::ds,vs,h=>by
  unfold aD at h ⊢;obtain ⟨v,r,e1,h1,h2⟩:=h;exact ⟨v,r,e1,Rep.same e h1,aD.same e h2⟩
end
theorem aD.length:∀{ds:List D}{vs:List V},aD K H ds vs->vs.length=ds.length
 |[],vs,h=>by unfold aD at h;rw [h];rfl
 |d::ds,vs,h=>by
  unfold aD at h;obtain ⟨v,r,e1,_,h2⟩:=h;rw [e1,zAv,zAv,aD.length h2]
theorem aD.get:∀{ds:List D}{vs:List V}{i:Nat}{v:V},aD K H ds vs->vs[i]?=some v->∃d,ds[i]?=some d/\Rep K H d v
 |[],vs,i,v,h,e=>by unfold aD at h;rw [h] at e;simp at e
 |d::ds,vs,i,v,h,e=>by
  unfold aD at h;obtain ⟨u,r,e1,h1,h2⟩:=h;rw [e1] at e;cases i with
  |zero=>simp at e;subst e;exact ⟨d,rfl,h1⟩
  |succ i=>obtain ⟨d',q1,q2⟩:=aD.get (i:=i) h2 (by simpa using e);exact ⟨d',by simpa using q1,q2⟩
end
theorem Inv.zL (I:Inv X pins σ H s) {xs ys:List V}(h:cB X.K H a xs) (h':iG X.K H a ys):False:=by
 obtain ⟨its,_,⟨o,n,e,c,_,_⟩,_⟩:=I.list h;obtain ⟨its',_,⟨o',e',c',_⟩,_⟩:=I.tuple h';rw [e] at e';cases e'
 rw [c] at c';injection c' with z
 exact absurd z (by decide)
mutual
theorem Inv.pJ (I:Inv X pins σ H s):∀{d d':D}{v:V},Rep X.K H d v->Rep X.K H d' v->d=d'
 |.non,d',v,h,h'=>by
  unfold Rep at h;subst h;cases d' with
  |non=>rfl
  |lst _=>unfold Rep at h';obtain ⟨_,_,z,_⟩:=h';cases z
  |tup _=>unfold Rep at h';obtain ⟨_,_,z,_⟩:=h';cases z
  |_=>unfold Rep at h';cases h'
 |.bl b,d',v,h,h'=>by
  unfold Rep at h;subst h;cases d' with
  |bl _=>unfold Rep at h';cases h';rfl
  |lst _=>unfold Rep at h';obtain ⟨_,_,z,_⟩:=h';cases z
  |tup _=>unfold Rep at h';obtain ⟨_,_,z,_⟩:=h';cases z
  |_=>unfold Rep at h';cases h'
 |.int b,d',v,h,h'=>by
  unfold Rep at h;subst h;cases d' with
  |int _=>unfold Rep at h';cases h';rfl
  |lst _=>unfold Rep at h';obtain ⟨_,_,z,_⟩:=h';cases z
  |tup _=>unfold Rep at h';obtain ⟨_,_,z,_⟩:=h';cases z
  |_=>unfold Rep at h';cases h'
 |.str b,d',v,h,h'=>by
  unfold Rep at h;subst h;cases d' with
  |str _=>unfold Rep at h';cases h';rfl
  |lst _=>unfold Rep at h';obtain ⟨_,_,z,_⟩:=h';cases z
  |tup _=>unfold Rep at h';obtain ⟨_,_,z,_⟩:=h';cases z
  |_=>unfold Rep at h';cases h'
 |.lst ds,d',v,h,h'=>by
  unfold Rep at h;obtain ⟨a,xs,rfl,h1,h2⟩:=h;cases d' with
  |lst ds'=>
   unfold Rep at h';obtain ⟨b,ys,e,h1',h2'⟩:=h';cases e
   rw [I.mC h1 h1'] at h2;rw [Inv.sV I h2 h2']
  |tup ds'=>
   unfold Rep at h';obtain ⟨b,ys,e,h1',h2'⟩:=h';cases e
   exact (I.zL h1 h1').elim
  |_=>unfold Rep at h';cases h'
 |.tup ds,d',v,h,h'=>by
  unfold Rep at h;obtain ⟨a,xs,rfl,h1,h2⟩:=h;cases d' with
  |tup ds'=>
   unfold Rep at h';obtain ⟨b,ys,e,h1',h2'⟩:=h';cases e
   rw [I.qy h1 h1'] at h2;rw [Inv.sV I h2 h2']
  |lst ds'=>
   unfold Rep at h';obtain ⟨b,ys,e,h1',h2'⟩:=h';cases e
   exact (I.zL h1' h1).elim
  |_=>unfold Rep at h';cases h'
theorem Inv.sV (I:Inv X pins σ H s):∀{ds ds':List D}{vs:List V},aD X.K H ds vs->aD X.K H ds' vs->ds=ds'
 |[],ds',vs,h,h'=>by
  unfold aD at h;subst h;cases ds' with
  |nil=>rfl
  |cons _ _=>unfold aD at h';obtain ⟨_,_,z,_⟩:=h';cases z
 |d::ds,ds',vs,h,h'=>by
  unfold aD at h;obtain ⟨v,r,rfl,h1,h2⟩:=h;cases ds' with
  |nil=>unfold aD at h';cases h'
  |cons d' ds'=>
   unfold aD at h';obtain ⟨v',r',e,h1',h2'⟩:=h';cases e
   rw [Inv.pJ I h1 h1',Inv.sV I h2 h2']
end
mutual
theorem sU:∀{d:D}{b:Bool},cA d d=some b->b=true
 |.non,b,h=>by unfold cA at h;cases h;rfl
 |.bl a,b,h=>by unfold cA at h;rw [beq_self_eq_true] at h;cases h;rfl
 |.int a,b,h=>by unfold cA at h;rw [beq_self_eq_true] at h;cases h;rfl
 |.str a,b,h=>by unfold cA at h;rw [beq_self_eq_true] at h;cases h;rfl
 |.lst xs,b,h=>by unfold cA at h;rw [if_pos rfl] at h;exact qp h
 |.tup xs,b,h=>by unfold cA at h;exact qp h
theorem qp:∀{ds:List D}{b:Bool},i_ ds ds=some b->b=true
 |[],b,h=>by unfold i_ at h;cases h;rfl
 |d::ds,b,h=>by
  unfold i_ at h;cases h1:cA d d with
  |none=>rw [h1] at h;cases h
  |some x=>
   cases h2:i_ ds ds with
   |none=>rw [h1,h2] at h;cases h
   |some y=>
    rw [h1,h2] at h;have z1:=sU h1;have z2:=qp h2;subst z1 z2;cases h;rfl
end
theorem jG:∀{xs ys:List D}{b:Bool},i_ xs ys=some b->∃e:Nat->Bool,(∀(j:Nat) x y,xs[j]?=some x->ys[j]?=some y->cA x y=some (e j))/\b=((List.range (min xs.length ys.length)).all e&&xs.length==ys.length)
 |[],[],b,h=>by unfold i_ at h;cases h;exact ⟨λ_=>true,λj x y q=>by simp at q,rfl⟩
 |[],y::ys,b,h=>by unfold i_ at h;cases h;exact ⟨λ_=>true,λj x y q=>by simp at q,by simp⟩
 |x::xs,[],b,h=>by unfold i_ at h;cases h;exact ⟨λ_=>true,λj x y _ q=>by simp at q,by simp⟩
 |x::xs,y::ys,b,h=>by
  unfold i_ at h;cases h1:cA x y with
  |none=>rw [h1] at h;cases h
  |some p=>
   cases h2:i_ xs ys with
   |none=>rw [h1,h2] at h;cases h
   |some q=>
    rw [h1,h2] at h;have hb:b=(p&&q):=(Option.some.inj h).symm;obtain ⟨e,he,hq⟩:=jG h2;refine ⟨λj=>if j=0 then p else e (j-1),λj x' y' q1 q2=>?_,?_⟩
    ·cases j with
     |zero=>simp at q1 q2;subst q1 q2;simpa using h1
     |succ j=>simp at q1 q2;simpa using he j x' y' q1 q2
    ·rw [hb,hq];have hm:min (x::xs).length (y::ys).length=min xs.length ys.length+1:=by simp only [zAv];omega
     rw [hm,List.range_succ_eq_map,zBY,zBT];have h0:(λj=>if j=0 then p else e (j-1)) 0=p:=rfl;rw [show ((λj=>if j=0 then p else e (j-1)) ∘ Nat.succ)=e from funext λj=>by simp];simp only [zAv,if_true];rw [Bool.and_assoc];congr 2;by_cases hl:xs.length=ys.length<;>simp [hl]
theorem mZ:∀{xs:List D}{j:Nat}{x:D},xs[j]?=some x->fX x<=gC xs
 |[],j,x,h=>by simp at h
 |y::ys,0,x,h=>by simp at h;subst h;unfold gC;omega
 |y::ys,j+1,x,h=>by have:=mZ (j:=j) (by simpa using h);unfold gC;omega
theorem Vals.at {xs:List V}{its:List Value}(r:Vals xs its) {j:Nat}(h:j < its.length):∃v,xs[j]?=some v/\RelV v its[j]:=by
 have hl:=r.length;have hj:j < xs.length:=by omega
 obtain ⟨u,hu,ru⟩:=r.get (zAc hj);rw [zAc h] at hu;cases hu
 exact ⟨_,zAc hj,ru⟩
theorem uI (I:Inv X pins σ H s):∀(n:Nat) (A:Around) (d d':D) (v v':V) (u u':Value) (b:Bool),fX d<=n->A.units+n < cLine->Rep X.K H d v->Rep X.K H d' v'->RelV v u->RelV v' u'->cA d d'=some b->SeqAt.EqAt A s u u' b:=by
 intro n;induction n with
 |zero=>
  intro A d d' v v' u u' b hn hu h h' r r' e;cases d with
  |lst _=>unfold fX at hn;omega
  |tup _=>unfold fX at hn;omega
  |non=>
   cases d' with
   |non=>unfold Rep at h h';subst h h';cases r;cases r';unfold cA at e;cases e;exact SeqAt.EqAt.same _
   |_=>unfold cA at e;cases e
  |bl x=>
   cases d' with
   |bl y=>
    unfold Rep at h h';subst h h';unfold cA at e;cases e
    have q:=qe (A:=A) (s:=s) r r' rfl rfl;simpa [Vn] using q
   |_=>unfold cA at e;cases e
  |int x=>
   cases d' with
   |int y=>
    unfold Rep at h h';subst h h';unfold cA at e;cases e
    have q:=qe (A:=A) (s:=s) r r' rfl rfl;simpa [Vn] using q
   |_=>unfold cA at e;cases e
  |str x=>
   cases d' with
   |str y=>
    unfold Rep at h h';subst h h';unfold cA at e;cases e
    have q:=qe (A:=A) (s:=s) r r' rfl rfl;simpa [Vn] using q
   |_=>unfold cA at e;cases e
 |succ n ih=>
  intro A d d' v v' u u' b hn hu h h' r r' e;cases d with
  |non=>
   cases d' with
   |non=>unfold Rep at h h';subst h h';cases r;cases r';unfold cA at e;cases e;exact SeqAt.EqAt.same _
   |_=>unfold cA at e;cases e
  |bl x=>
   cases d' with
   |bl y=>
    unfold Rep at h h';subst h h';unfold cA at e;cases e
    have q:=qe (A:=A) (s:=s) r r' rfl rfl;simpa [Vn] using q
   |_=>unfold cA at e;cases e
  |int x=>
   cases d' with
   |int y=>
    unfold Rep at h h';subst h h';unfold cA at e;cases e
    have q:=qe (A:=A) (s:=s) r r' rfl rfl;simpa [Vn] using q
   |_=>unfold cA at e;cases e
  |str x=>
   cases d' with
   |str y=>
    unfold Rep at h h';subst h h';unfold cA at e;cases e
    have q:=qe (A:=A) (s:=s) r r' rfl rfl;simpa [Vn] using q
   |_=>unfold cA at e;cases e
  |lst xs=>
   cases d' with
   |lst ys=>
    have hh:=h;have hh':=h';unfold Rep at h h';obtain ⟨a,vs,rfl,h1,h2⟩:=h;obtain ⟨a',vs',rfl,h1',h2'⟩:=h';cases r
    cases r'
    by_cases hne:a=a'
    ·subst hne;have z:=I.pJ hh hh';rw [<-z] at e;rw [sU e];exact SeqAt.EqAt.same _
    ·obtain ⟨its,rv,p,hz⟩:=I.list h1;obtain ⟨its',rv',p',hz'⟩:=I.list h1';have l1:=rv.length;have l2:=rv'.length;have l3:=h2.length;have l4:=h2'.length;refine SeqAt.EqAt.of_refs hne ?_;unfold cA at e;by_cases hl:xs.length=ys.length
     ·rw [if_pos hl] at e;obtain ⟨ef,he,hb⟩:=jG e;have q:=SeqAt.RcAt.lists (A:=A) (s:=s) (e:=ef) p.isList p'.isList (by simp;omega) (by omega) λj g1 g2=>by
       have g1':j < its.length:=by simpa using g1
       have g2':j < its'.length:=by simpa using g2
       obtain ⟨y,hy,ry⟩:=rv.at g1';obtain ⟨y',hy',ry'⟩:=rv'.at g2';obtain ⟨dd,hd,rd⟩:=h2.get hy;obtain ⟨dd',hd',rd'⟩:=h2'.get hy';have dp:=mZ hd;unfold fX at hn;exact ih A.in1 dd dd' y y' _ _ (ef j) (by omega) (by show A.units+1+n < cLine;omega) rd rd' (by simpa using ry) (by simpa using ry') (he j dd dd' hd hd')
      have eb:b=(List.range its.toArray.size).all ef:=by
       rw [hb,hl,Nat.min_self];simp only [beq_self_eq_true,Bool.and_true,zAo];rw [<-l1,l3,hl]
      rw [eb];exact q
     ·rw [if_neg hl] at e;cases e
      exact SeqAt.RcAt.lists_lengths p.isList p'.isList (by simp only [zAo,bne_iff_ne,ne_eq];omega) (by omega)
   |_=>unfold cA at e;cases e
  |tup xs=>
   cases d' with
   |tup ys=>
    have hh:=h;have hh':=h';unfold Rep at h h';obtain ⟨a,vs,rfl,h1,h2⟩:=h;obtain ⟨a',vs',rfl,h1',h2'⟩:=h';cases r
    cases r'
    by_cases hne:a=a'
    ·subst hne;have z:=I.pJ hh hh';rw [<-z] at e;rw [sU e];exact SeqAt.EqAt.same _
    ·obtain ⟨its,rv,p,hz⟩:=I.tuple h1;obtain ⟨its',rv',p',hz'⟩:=I.tuple h1';have l1:=rv.length;have l2:=rv'.length;have l3:=h2.length;have l4:=h2'.length;refine SeqAt.EqAt.of_refs hne ?_;unfold cA at e;obtain ⟨ef,he,hb⟩:=jG e;have q:=SeqAt.RcAt.tuples (A:=A) (s:=s) (e:=ef) (show s.heap.IsTuple a its.toArray from p) (show s.heap.IsTuple a' its'.toArray from p') (by omega) λj g1 g2=>by
       have g1':j < its.length:=by simpa using g1
       have g2':j < its'.length:=by simpa using g2
       obtain ⟨y,hy,ry⟩:=rv.at g1';obtain ⟨y',hy',ry'⟩:=rv'.at g2';obtain ⟨dd,hd,rd⟩:=h2.get hy;obtain ⟨dd',hd',rd'⟩:=h2'.get hy';have dp:=mZ hd;unfold fX at hn;exact ih A.in1 dd dd' y y' _ _ (ef j) (by omega) (by show A.units+1+n < cLine;omega) rd rd' (by simpa using ry) (by simpa using ry') (he j dd dd' hd hd')
     have eb:b=((List.range (min its.toArray.size its'.toArray.size)).all ef&&its.toArray.size==its'.toArray.size):=by
      rw [hb,zAo,zAo,<-l1,<-l2,l3,l4]
     rw [eb];exact q
   |_=>unfold cA at e;cases e
def VL (K:zF) (neg:Bool):R2:=λx y H Q=>∃d d' b,Rep K H d x/\Rep K H d' y/\fX d<=50/\cA d d'=some b/\Q (.bl (if neg then !b else b)) H
theorem pD (I:Inv X pins σ H s) {n:Nat}{A:Around}{xs ys:List D}{vs vs':List V}{its its':List Value}{b:Bool}(hn:gC xs<=n) (hu:A.units+n < cLine) (h2:aD X.K H xs vs) (h2':aD X.K H ys vs') (rv:Vals vs its) (rv':Vals vs' its')
  (e:i_ xs ys=some b):∃ef:Nat->Bool,(∀(j:Nat) (h1:j < its.toArray.size) (h2:j < its'.toArray.size),SeqAt.EqAt A s its.toArray[j] its'.toArray[j] (ef j))/\b=((List.range (min its.toArray.size its'.toArray.size)).all ef&&its.toArray.size==its'.toArray.size):=by
 have l1:=rv.length;have l2:=rv'.length;have l3:=h2.length;have l4:=h2'.length;obtain ⟨ef,he,hb⟩:=jG e;refine ⟨ef,λj g1 g2=>?_,?_⟩
 ·have g1':j < its.length:=by simpa using g1
  have g2':j < its'.length:=by simpa using g2
  obtain ⟨y,hy,ry⟩:=rv.at g1';obtain ⟨y',hy',ry'⟩:=rv'.at g2';obtain ⟨dd,hd,rd⟩:=h2.get hy;obtain ⟨dd',hd',rd'⟩:=h2'.get hy';have dp:=mZ hd;exact uI I n A dd dd' y y' _ _ (ef j) (by omega) hu rd rd' (by simpa using ry) (by simpa using ry') (he j dd dd' hd hd')
 ·rw [hb,zAo,zAo,<-l1,<-l2,l3,l4]
theorem Cj (hu:X.A.units+60 < cLine):lN X (compareOp .Eq) (VL X.K false):=by
 intro pins s σ H x y v u Q I rx ry h;obtain ⟨d,d',b,h,h',hd,e,q⟩:=h;have fin:EP X pins σ Q (.bool b) s:=⟨.bl b,H,I,rfl,q⟩;cases d with
 |lst xs=>
  cases d' with
  |lst ys=>
   unfold Rep at h h';obtain ⟨a,vs,rfl,h1,h2⟩:=h;obtain ⟨a',vs',rfl,h1',h2'⟩:=h';cases rx
   cases ry
   obtain ⟨its,rv,p,hz⟩:=I.list h1;obtain ⟨its',rv',p',hz'⟩:=I.list h1';have l1:=rv.length;have l2:=rv'.length;have l3:=h2.length;have l4:=h2'.length;unfold cA at e;by_cases hl:xs.length=ys.length
   ·rw [if_pos hl] at e;unfold fX at hd;obtain ⟨ef,he,hb⟩:=pD (n:=50) (A:=X.A.in1) I (by omega) (by show X.A.units+1+50 < cLine;omega) h2 h2' rv rv' e;refine SeqAt.eq_listAt p.isList p'.isList (by simp;omega) (by omega) he ?_;have hs:its.toArray.size=its'.toArray.size:=by simp;omega
    rw [hs,Nat.min_self] at hb;simp only [beq_self_eq_true,Bool.and_true] at hb;rw [hs,<-hb];exact fin
   ·rw [if_neg hl] at e;cases e
    exact SeqAt.eq_list_lengthsAt p.isList p'.isList (by simp only [zAo,bne_iff_ne,ne_eq];omega) (by omega) fin
  |_=>unfold cA at e;cases e
 |tup xs=>
  cases d' with
  |tup ys=>
   unfold Rep at h h';obtain ⟨a,vs,rfl,h1,h2⟩:=h;obtain ⟨a',vs',rfl,h1',h2'⟩:=h';cases rx
   cases ry
   obtain ⟨its,rv,p,hz⟩:=I.tuple h1;obtain ⟨its',rv',p',hz'⟩:=I.tuple h1';unfold cA at e;unfold fX at hd;obtain ⟨ef,he,hb⟩:=pD (n:=50) (A:=X.A.in1) I (by omega) (by show X.A.units+1+50 < cLine;omega) h2 h2' rv rv' e;refine SeqAt.eq_tupleAt (show s.heap.IsTuple a its.toArray from p) (show s.heap.IsTuple a' its'.toArray from p') (by omega) he ?_;rw [<-hb];exact fin
  |_=>unfold cA at e;cases e
 |non=>
  cases d' with
  |non=>
   unfold Rep at h h';subst h h';unfold cA at e;cases e
   exact Fq pins s σ H .non .non v u Q I rx ry ⟨rfl,by simpa using q⟩
  |_=>unfold cA at e;cases e
 |bl i=>
  cases d' with
  |bl j=>
   unfold Rep at h h';subst h h';unfold cA at e;cases e
   exact Fq pins s σ H (.bl i) (.bl j) v u Q I rx ry ⟨rfl,by rw [xY];exact q⟩
  |_=>unfold cA at e;cases e
 |int i=>
  cases d' with
  |int j=>
   unfold Rep at h h';subst h h';unfold cA at e;cases e
   exact Fq pins s σ H (.int i) (.int j) v u Q I rx ry ⟨rfl,by rw [rP];exact q⟩
  |_=>unfold cA at e;cases e
 |str i=>
  cases d' with
  |str j=>
   unfold Rep at h h';subst h h';unfold cA at e;cases e
   exact Fq pins s σ H (.str i) (.str j) v u Q I rx ry ⟨rfl,by rw [rJ];exact q⟩
  |_=>unfold cA at e;cases e
theorem Ih (hu:X.A.units+60 < cLine):lN X (compareOp .NotEq) (VL X.K true):=by
 intro pins s σ H x y v u Q I rx ry h;obtain ⟨d,d',b,h,h',hd,e,q⟩:=h;have fin:EP X pins σ Q (.bool (!b)) s:=⟨.bl (!b),H,I,rfl,q⟩;cases d with
 |lst xs=>
  cases d' with
  |lst ys=>
   unfold Rep at h h';obtain ⟨a,vs,rfl,h1,h2⟩:=h;obtain ⟨a',vs',rfl,h1',h2'⟩:=h';cases rx
   cases ry
   obtain ⟨its,rv,p,hz⟩:=I.list h1;obtain ⟨its',rv',p',hz'⟩:=I.list h1';have l1:=rv.length;have l2:=rv'.length;have l3:=h2.length;have l4:=h2'.length;unfold cA at e;by_cases hl:xs.length=ys.length
   ·rw [if_pos hl] at e;unfold fX at hd;obtain ⟨ef,he,hb⟩:=pD (n:=50) (A:=X.A.in1) I (by omega) (by show X.A.units+1+50 < cLine;omega) h2 h2' rv rv' e;refine SeqAt.RcNeAt.lists p.isList p'.isList (by simp;omega) (by omega) he _ _ _ _ ?_;have hs:its.toArray.size=its'.toArray.size:=by simp;omega
    rw [hs,Nat.min_self] at hb;simp only [beq_self_eq_true,Bool.and_true] at hb;rw [hs,<-hb];exact fin
   ·rw [if_neg hl] at e;cases e
    exact SeqAt.RcNeAt.lists_lengths p.isList p'.isList (by simp only [zAo,bne_iff_ne,ne_eq];omega) (by omega) _ _ _ _ fin
  |_=>unfold cA at e;cases e
 |tup xs=>
  cases d' with
  |tup ys=>
   unfold Rep at h h';obtain ⟨a,vs,rfl,h1,h2⟩:=h;obtain ⟨a',vs',rfl,h1',h2'⟩:=h';cases rx
   cases ry
   obtain ⟨its,rv,p,hz⟩:=I.tuple h1;obtain ⟨its',rv',p',hz'⟩:=I.tuple h1';unfold cA at e;unfold fX at hd;obtain ⟨ef,he,hb⟩:=pD (n:=50) (A:=X.A.in1) I (by omega) (by show X.A.units+1+50 < cLine;omega) h2 h2' rv rv' e;refine SeqAt.RcNeAt.tuples (show s.heap.IsTuple a its.toArray from p) (show s.heap.IsTuple a' its'.toArray from p') (by omega) he _ _ _ _ ?_;rw [<-hb];exact fin
  |_=>unfold cA at e;cases e
 |non=>
  cases d' with
  |non=>
   unfold Rep at h h';subst h h';unfold cA at e;cases e
   exact Fv pins s σ H .non .non v u Q I rx ry ⟨rfl,by simpa using q⟩
  |_=>unfold cA at e;cases e
 |bl i=>
  cases d' with
  |bl j=>
   unfold Rep at h h';subst h h';unfold cA at e;cases e
   exact Fv pins s σ H (.bl i) (.bl j) v u Q I rx ry ⟨rfl,by rw [xY];exact q⟩
  |_=>unfold cA at e;cases e
 |int i=>
  cases d' with
  |int j=>
   unfold Rep at h h';subst h h';unfold cA at e;cases e
   exact Fv pins s σ H (.int i) (.int j) v u Q I rx ry ⟨rfl,by rw [rP];exact q⟩
  |_=>unfold cA at e;cases e
 |str i=>
  cases d' with
  |str j=>
   unfold Rep at h h';subst h h';unfold cA at e;cases e
   exact Fv pins s σ H (.str i) (.str j) v u Q I rx ry ⟨rfl,by rw [rJ];exact q⟩
  |_=>unfold cA at e;cases e
theorem Gy {A:Around}{k:Nat}(hr:dj k A):A.units+60 < cLine:=zBF (Nat.add_le_add_left (by decide:60<=64) _) hr.units
def noStar:Expr->Bool
 |.Starred ..=>false
 |_=>true
theorem G5 (h:noStar e=true):starEach (e::es) env=(false,eval e env)::starEach es env:=by
 cases e<;>first | rfl | cases h
theorem Am {t:TA}(ha:PE X e te) (hr:PA X es t) (hs:noStar e=true:=by rfl):PA X (e::es) (qN te t):=m_ ha hr (G5 hs)
theorem abN {rest:List Stmt}(e:b=st::rest) {u:TS}(h1:PS X st t) (h2:rW X rest u):rW X b (Wi t u):=by rw [e];exact KH h1 h2
theorem aaQ (e:b=[st]) (h1:PS X st t):rW X b t:=by rw [e];exact Fp h1
end L2
namespace L2
open PySem PySem.Spec PySem.W PyProof.Rows
variable {X:Cx}{pins:List (Addr×Obj)}{σ:St}{H:Hp}{s:Shared}
theorem bw.there {P:Program}{w:World}{h:Heap}{a:Addr}{o:HO}(x:bw P w H h a o):∃ob,h.get? a=some ob:=by
 induction o with
 |lst xs=>obtain ⟨_,_,_,_,e⟩:=x;exact ⟨_,e⟩
 |tup xs=>obtain ⟨_,_,_,ob,e,_⟩:=x;exact ⟨_,e⟩
 |dK kvs=>obtain ⟨_,_,_,_,o,_,_,e,_⟩:=x;exact ⟨_,e⟩
 |dT kvs=>obtain ⟨_,_,_,_,o,_,_,e,_⟩:=x;exact ⟨_,e⟩
 |set S n=>obtain ⟨o,_,_,_,e,_⟩:=x;exact ⟨_,e⟩
 |ins C dx fs=>obtain ⟨_,_,_,e,_⟩:=x;exact ⟨_,e⟩
 |own y=>exact x
 |xd fs=>obtain ⟨_,⟨_,_,_,e,_⟩,_⟩:=x;exact ⟨_,e⟩
 |rng lo hi=>obtain ⟨_,_,_,e⟩:=x;exact ⟨_,e⟩
 |frz ob u=>obtain ⟨e,_⟩:=x;exact ⟨_,e⟩
 |tbl ps=>exact ⟨_,(show h.get? a=some _ from x)⟩
 |met f y=>exact ⟨_,(show h.get? a=some _ from x)⟩
 |ext φ=>obtain ⟨_,e,_⟩:=x;exact e
theorem Inv.lay (I:Inv X pins σ H s) {D:Addr}{ys:List V}{its:List Value}{h':Heap}{n:Nat}(hD:s.heap.get? D=none) (kp:∀b o,b≠X.env.locals->s.heap.get? b=some o->h'.get? b=some o) (ns:∀m,s.heap.Ns X.env.locals m->h'.Ns X.env.locals m)
  (he:h'.get? D=some { cls:=.type "list", data:=.seq its.toArray n }) (hv:Vals ys its) (hz:ys.length<=sizeLine):Inv X pins σ (upd H D (.lst ys)) { s with heap:=h' }/\H D=none:=by
 have hn:H D=none:=by
  cases q:H D with
  |none=>rfl
  |some o=>obtain ⟨ob,e⟩:=(I.hok D o q).there;rw [hD] at e;cases e
 have hL:H X.env.locals=none:=I.free;have ne:∀b u,H b=some u->b≠X.env.locals:=λb u e z=>by rw [z,hL] at e;cases e
 refine ⟨I.step (g':=s.gens) (d':=s.drawn) (t':=s.toks) (ch:=[]) (λb hb=>absurd hb (by simp)) (λb o hb _ _ e _=>kp b o hb e) (λb o hb _ _ e _=>⟨o.slots,kp b o hb e⟩) (λb o _ e n=>?_) (λb o _ e=>?_) (λb xs e=>?_) (λb o u e=>?_) (λb ps e=>?_) ns (λb u e=>?_) I.bare,hn⟩
 ·by_cases z:b=D
  ·subst z;rw [hD] at e;cases e
  ·rw [aA z];exact n
 ·by_cases z:b=X.env.locals
  ·obtain ⟨m,hm,_⟩:=I.loc;obtain ⟨o',_,_,e',_⟩:=ns m hm;exact ⟨o',by rw [z];exact e'⟩
  ·exact ⟨o,kp b o z e⟩
 ·rw [aA (aO e hn)];exact e
 ·rw [aA (aO e hn)];exact e
 ·exact ⟨#[],by rw [aA (aO e hn),e];simp⟩
 ·by_cases z:b=D
  ·subst z;rw [aJ] at e;cases e
   exact ⟨hz,its,n,hv,he⟩
  ·rw [aA z] at e;refine (I.hok b u e).stay (λc v hc q=>?_) (λc q=>by rw [aA (aO q hn)];exact q) λc xs q=>by rw [aA (aO q hn)];exact q
   rcases hc with z' | z'
   ·exact kp c v (by rw [z'];exact ne b u e) q
   ·exact kp c v (ne c _ z') q
theorem vd {K:zF}:∀ns:List Int,aD K H (ns.map D.int) (ns.map V.int)
 |[]=>by unfold aD;rfl
 |n::r=>by
  show aD K H (D.int n::r.map D.int) (V.int n::r.map V.int);unfold aD;exact ⟨_,_,rfl,by unfold Rep;rfl,vd r⟩
end L2
namespace Z
open PySem L2
variable {K:zF}{H:Hp}
def lim:Nat:=1000000
theorem cM:lim < sizeLine:=by rw [sizeLine_eq];decide
def fG (m:List Addr) (H:Hp):Hp:=λb=>if b∈m then none else H b
section
variable {m m' l:List Addr}{H' H1 H2:Hp}{S S':aM}{a b p:Addr}{o:HO}
theorem dI (h:b∈m):fG m H b=none:=if_pos h
theorem aZ (h:b∉m):fG m H b=H b:=if_neg h
theorem dM:Same (fG m H) H:=λb o h=>by
 by_cases hb:b∈m
 ·rw [dI hb] at h;cases h
 ·rw [aZ hb] at h;exact h
theorem bJ:Same (fG (m++l) H) (fG m H):=λb o h=>by
 by_cases hb:b∈m++l
 ·rw [dI hb] at h;cases h
 ·rw [aZ hb] at h;rw [aZ λz=>hb (zBe _ z)];exact h
theorem eZ (h:a∈m):fG m (upd H a o)=fG m H:=by
 funext b;by_cases hb:b∈m
 ·rw [dI hb,dI hb]
 ·rw [aZ hb,aZ hb,aA λz=>hb (by rw [z];exact h)]
theorem cV (h:H p=none):Same (fG m H) (fG m (upd H p o)):=λb u q=>by
 by_cases hb:b∈m
 ·rw [dI hb] at q;cases q
 ·rw [aZ hb] at q;rw [aZ hb,aA (aO q h)];exact q
theorem bG (h:H p=none):Same (fG m H) (fG (m++[p]) (upd H p o)):=λb u q=>by
 by_cases hb:b∈m
 ·rw [dI hb] at q;cases q
 ·rw [aZ hb] at q;have ne:=aO q h;rw [aZ λz=>by rcases List.mem_append.mp z with z | z;exact hb z;exact ne (by simpa using z),aA ne];exact q
end
section
variable {K:zF}{m m' l:List Addr}{H H' H1 H2:Hp}{S S':aM}{a b p:Addr}{o:HO}{x:A}{v:V}{d:D}{ds es:List D}{vs us:List V}
theorem aD.nil:aD K H [] []:=by unfold aD;rfl
theorem aD.cons (h:Rep K H d v) (t:aD K H ds vs):aD K H (d::ds) (v::vs):=by unfold aD;exact ⟨v,vs,rfl,h,t⟩
theorem aD.app:∀{ds es:List D}{vs us:List V},aD K H ds vs->aD K H es us->aD K H (ds++es) (vs++us)
 |[],es,vs,us,h,t=>by unfold aD at h;subst h;exact t
 |d::ds,es,vs,us,h,t=>by
  unfold aD at h;obtain ⟨v,r,rfl,h1,h2⟩:=h;exact aD.cons h1 (aD.app h2 t)
theorem aD.drop:∀{ds:List D}{vs:List V}(n:Nat),aD K H ds vs->aD K H (ds.drop n) (vs.drop n)
 |ds,vs,0,h=>h
 |[],vs,n+1,h=>by unfold aD at h;subst h;exact aD.nil
 |d::ds,vs,n+1,h=>by
  unfold aD at h;obtain ⟨v,r,rfl,h1,h2⟩:=h;exact aD.drop n h2
theorem aD.take:∀{ds:List D}{vs:List V}(n:Nat),aD K H ds vs->aD K H (ds.take n) (vs.take n)
 |ds,vs,0,h=>by rw [List.take_zero,List.take_zero];exact aD.nil
 |[],vs,n+1,h=>by unfold aD at h;subst h;exact aD.nil
 |d::ds,vs,n+1,h=>by
  unfold aD at h;obtain ⟨v,r,rfl,h1,h2⟩:=h;exact aD.cons h1 (aD.take n h2)
theorem aD.put:∀{ds:List D}{vs:List V}(n:Nat),aD K H ds vs->Rep K H d v->aD K H (ds.set n d) (vs.set n v)
 |[],vs,n,h,r=>by unfold aD at h;subst h;exact aD.nil
 |e::ds,vs,0,h,r=>by
  unfold aD at h;obtain ⟨u,t,rfl,h1,h2⟩:=h;exact aD.cons r h2
 |e::ds,vs,n+1,h,r=>by
  unfold aD at h;obtain ⟨u,t,rfl,h1,h2⟩:=h;exact aD.cons h1 (aD.put n h2 r)
end
section
@[simp] def BJ (i j:Int):Option D:=if (-18446744073709551616 < i/\i < 18446744073709551616)∨(-18446744073709551616 < j/\j < 18446744073709551616) then some (.int (i * j)) else none
@[simp] def dz (i j:Int):Option D:=if 0 < j/\j < 1073741824 then some (.int (i / j)) else none
@[simp] def bH (i j:Int):Option D:=if 0 < j then some (.int (i % j)) else none
@[simp] def Qw (i j:Int):Option D:=if 0<=j/\j<=1000/\i.natAbs < 18446744073709551616 then some (.int (i ^ j.toNat)) else none
@[simp] def Nf (i j:Int):Option D:=some (.bl (decide (i < j)))
@[simp] def Zd (i j:Int):Option D:=some (.bl (decide (j < i)))
@[simp] def gGe (i j:Int):Option D:=some (.bl (decide (j<=i)))
variable {X:Cx}{a b:Expr}{f g:FE}{pos:Pos}
@[simp] def D.Ag:D->Option Bool
 |.non=>some false
 |.bl b=>some b
 |.int i=>some (i != 0)
 |.str z=>if z.length<=lim then some ((z.length:Int) != 0) else none
 |.lst ds=>some (!ds.isEmpty)
 |.tup ds=>some (!ds.isEmpty)
theorem aD.empty {ds:List D}{vs:List V}(h:aD K H ds vs):vs.isEmpty=ds.isEmpty:=by
 cases ds with
 |nil=>unfold aD at h;subst h;rfl
 |cons d r=>unfold aD at h;obtain ⟨v,t,rfl,_⟩:=h;rfl
theorem TF {d:D}{v:V}{b:Bool}(r:Rep K H d v) (e:D.Ag d=some b):Ku K v H b:=by
 cases d with
 |non=>unfold Rep at r;subst r;cases e;rfl
 |bl k=>unfold Rep at r;subst r;cases e;rfl
 |int i=>unfold Rep at r;subst r;cases e;rfl
 |str z=>
  unfold Rep at r;subst r;have e':(if z.length<=lim then some ((z.length:Int) != 0) else none)=some b:=e;split at e'
  ·rename_i hl;cases e';exact ⟨zBA (zBF hl cM),rfl⟩
  ·cases e'
 |lst ds=>
  unfold Rep at r;obtain ⟨a,vs,rfl,h1,h2⟩:=r;cases e
  exact .inl ⟨vs,h1,by rw [aD.empty h2]⟩
 |tup ds=>
  unfold Rep at r;obtain ⟨a,vs,rfl,h1,h2⟩:=r;cases e
  exact .inr (.inl ⟨vs,h1,by rw [aD.empty h2]⟩)
variable {rest:List Expr}
def XR (K:zF) (ta tb:TE):TE:=λσ H Q=>ta σ H λx H1=>∃c,Ku K x H1 c/\if c=true then tb σ H1 Q else Q x H1
theorem QZ {ta tb:TE}(ha:PE X a ta) (hb:PE X (.BoolOp .And (b::rest) pos) tb):PE X (.BoolOp .And (a::b::rest) pos) (XR X.K ta tb):=by
 intro pins s σ H Q I h;refine PyProof.Rows.BoolOp_and (cR (ha pins s σ H _ I h) λv s1 ⟨x,H1,I1,r1,c,hc,q1⟩=>?_);refine cR (KR pins s1 σ H1 x v (λc H2=>if c=true then tb σ H2 Q else Q x H2) I1 r1 ⟨c,hc,q1⟩) λk s2 ⟨H2,I2,q2⟩=>?_;cases k with
 |true=>rw [if_pos rfl] at q2;exact hb pins s2 σ H2 Q I2 q2
 |false=>rw [if_neg zAs] at q2;exact ⟨x,H2,I2,r1,q2⟩
variable {e:Expr}{es:List Expr}{fa:FA}
theorem bM {n:Nat}(h:n<=lim):n<=sizeLine:=zBA (zBF h cM)
def J8 (K:zF):R2:=λx y H Q=>∃l b xs zs,x=.ref l/\y=.ref b/\cB K H l xs/\cB K H b zs/\xs.length+zs.length<=sizeLine/\∀p,H p=none->Q (.ref p) (upd H p (.lst (xs++zs)))
end
end Z
namespace L2
open PySem PySem.Spec PyProof.Rows
section
variable {X:Cx}
theorem list_all {h:Heap}{a:Addr}{its:Array Value}(x:PlainL h a its):∃n sl,h.get? a=some { cls:=.type "list", dict:=none,data:=.seq its n,slots:=sl }:=by
 obtain ⟨⟨c,d,dt,sl⟩,n,e,h1,h2,h3⟩:=x;cases h1;cases h2;cases h3
 exact ⟨n,sl,e⟩
theorem xq:lN X (binaryOp .Add) (Z.J8 X.K):=by
 intro pins s σ H x y v u Q I rx ry h;obtain ⟨l,b,xs,zs,rfl,rfl,h1,h2,hz,q⟩:=h;cases rx;cases ry
 obtain ⟨its,r,pl,_⟩:=I.list h1;obtain ⟨it2,r2,pl2,_⟩:=I.list h2;obtain ⟨n,sl,e⟩:=list_all pl;obtain ⟨n2,sl2,e2⟩:=list_all pl2;have z:its.toArray.size+it2.toArray.size<=sizeLine:=by simpa [<-r.length,<-r2.length] using hz
 refine concat_meets ⟨_,e,rfl⟩ ⟨_,e2,rfl⟩ noFill_list_add seq_list_add F.slot_list_add F.entry_list_add (F.args_list_add_2 _ _) (list_addW l b its.toArray it2.toArray n n2 none none sl sl2 z) ⟨e,e2,?_⟩;rw [show its.toArray++it2.toArray=(its++it2).toArray by simp];exact ⟨.ref _,_,I.Vu (t':=s.toks) (r.append r2) (by rw [zAy];exact hz),rfl,q _ I.fresh⟩
def CZ:D->String
 |.non => "NoneType"
 |.bl _ => "bool"
 |.int _ => "int"
 |.str _ => "str"
 |.lst _ => "list"
 |.tup _ => "tuple"
def abp (K:zF):List V->Hp->VK->Prop:=λxs H Q=>∃x c d b,xs=[x,.ty c]/\Rep K H d x/\PySem.W.kitOne K (.type (CZ d)) (.type c)=some b/\Q (.bl b) H
theorem Ky:g8 X (.builtin "isinstance") (abp X.K):=by
 intro pins s σ H xs us Q I r h;obtain ⟨x,c,d,b,rfl,rd,hk,q⟩:=h;obtain ⟨u,w',rfl,ru,rw'⟩:=vals2 r;cases rw'
 have fin:∀tk,EP X pins σ Q (.bool b) { s with toks:=tk }:=λtk=>⟨.bl b,H,I.tok tk,rfl,q⟩;cases d with
 |non=>unfold Rep at rd;subst rd;cases ru;exact PySem.W.kia_one PySem.W.kitx_none I.jo True.intro hk (λz=>nomatch z) fin
 |bl k=>unfold Rep at rd;subst rd;cases ru;exact PySem.W.kia_one PySem.W.kitx_bool I.jo True.intro hk (λz=>nomatch z) fin
 |int k=>unfold Rep at rd;subst rd;obtain ⟨t,rfl⟩:=ru;exact PySem.W.kia_one PySem.W.kitx_int I.jo True.intro hk (λz=>nomatch z) fin
 |str k=>unfold Rep at rd;subst rd;obtain ⟨t,rfl⟩:=ru;exact PySem.W.kia_one PySem.W.kitx_str I.jo True.intro hk (λz=>nomatch z) fin
 |lst k=>
  unfold Rep at rd;obtain ⟨a,vs,rfl,hq,_⟩:=rd;cases ru
  obtain ⟨its,_,pl,_⟩:=I.list hq;obtain ⟨o,e,c1,_⟩:=pl.isList;exact PySem.W.kia_one PySem.W.kitx_list I.jo ⟨o,e,c1⟩ hk (λz=>nomatch z) fin
 |tup k=>
  unfold Rep at rd;obtain ⟨a,vs,rfl,hq,_⟩:=rd;cases ru
  obtain ⟨its,_,pl,_⟩:=I.tuple hq;obtain ⟨o,e,c1,_⟩:=pl;exact PySem.W.kia_one PySem.W.kitx_tuple I.jo ⟨o,e,c1⟩ hk (λz=>nomatch z) fin
end
end L2
namespace Z
open PySem L2
variable {K:zF}{X:Cx}{a b:Expr}{f g:FE}{pos:Pos}{H:Hp}{ds:List D}{u:Value}{pins:List (Addr×Obj)}{σ:St}{s:Shared}{d:D}{P:Program}{w:World}{kvs:List (Key×V)}
section
variable {e:Expr}{es:List Expr}{fa:FA}{p:Pos}
theorem hu2 {A:Around}{k:Nat}(hr:dj k A):A.units+2 < cLine:=zBF (Nat.add_le_add_left (by decide:2<=64) _) hr.units
def known (c:String):Prop:=c = "int" ∨ c = "bool" ∨ c = "str" ∨ c = "list" ∨ c = "tuple"
theorem kit_is {c:String}(h:known c) (d:D):PySem.W.kitOne K (.type (CZ d)) (.type c)=some (decide (c=CZ d∨(c = "int" /\ CZ d = "bool"))):=by
 rcases h with rfl | rfl | rfl | rfl | rfl<;>cases d<;>rfl
@[simp] def cutD (xs:List D) (lo hi:Option Int):List D:=(xs.drop (HT.nG xs.length 0 lo)).take (HT.nG xs.length xs.length hi-HT.nG xs.length 0 lo)
theorem aD.cut {vs:List V}(h:aD K H ds vs) (lo hi:Option Int):aD K H (cutD ds lo hi) (yj vs lo hi):=by
 unfold cutD yj;rw [aD.length h];exact aD.take _ (aD.drop _ h)
end
def Rn (K:zF):Sp:=λvs H Q _=>∃(a:Addr) (ns:List Int),vs=[.ref a]/\cB K H a (ns.map V.int)/\ns.length<=63/\∀H',Q (.bl true) H'
theorem E_ (H:Hp):fG [] H=H:=by funext b;exact if_neg (by simp)
@[simp] def o8:List D->Option (List Bool)
 |[]=>some []
 |.bl b::r=>match o8 r with
  |some bs=>some (b::bs)
  |none=>none
 |_=>none
theorem zN:∀{ds:List D}{bs:List Bool},o8 ds=some bs->ds=bs.map .bl
 |[],bs,e=>by cases e;rfl
 |d::r,bs,e=>by
  cases d with
  |bl b=>
   have e':(match o8 r with | some bs=>some (b::bs) | none=>none)=some bs:=e;split at e'
   ·rename_i cs h;cases e';rw [zN h];rfl
   ·cases e'
  |_=>cases e
theorem aD.bls {H:Hp}:∀{bs:List Bool}{vs:List V},aD K H (bs.map .bl) vs->vs=bs.map V.bl
 |[],vs,h=>by unfold aD at h;exact h
 |b::bs,vs,h=>by
  rw [zAr] at h;unfold aD at h;obtain ⟨v,r,rfl,h1,h2⟩:=h;unfold Rep at h1;rw [h1,aD.bls h2];rfl
def Ie (i j:Str):Bool:=!(Builtin.Str.occurrences j i 0 j.length 1).isEmpty
theorem zc {v v':V}(h:RelV v u) (h':RelV v' u):v=v':=by
 cases v<;>cases v'<;>(first | (obtain ⟨t,rfl⟩:=h) | cases h)<;>(first | (obtain ⟨t',e⟩:=h';cases e) | cases h')<;>rfl
def inD (d:D) (ds:List D):Bool:=ds.any λe=>decide (cA e d=some true)
def Pn (d:D) (ds:List D):Prop:=∀e∈ds,fX e<=50/\∃b,cA e d=some b
theorem pL (I:Inv X pins σ H s) {x:V}{v:Value}{zs:List V}{its:List Value}(hu:X.A.units+60 < cLine) (hd:Rep X.K H d x) (rx:RelV x v) (ha:Pn d ds) (hr:aD X.K H ds zs) (hv:Vals zs its) :
  ∃ef:Value->Bool,(∀w,w∈its.toArray->SeqAt.EqAt X.A.in1 s w v (ef w))/\its.toArray.any ef=inD d ds:=by
 classical
 have l1:=hv.length;have l2:=aD.length hr;refine ⟨λw=>decide (∃e t,e∈ds/\Rep X.K H e t/\RelV t w/\cA e d=some true),λw hw=>?_,?_⟩
 ·have hw':w∈its:=by simpa using hw
  obtain ⟨j,hj,rfl⟩:=zCm hw';obtain ⟨z,hz,rz⟩:=hv.at hj;obtain ⟨e,he,re⟩:=aD.get hr hz;obtain ⟨h50,b,hb⟩:=ha e (zAh he);have k:decide (∃e t,e∈ds/\Rep X.K H e t/\RelV t its[j]/\cA e d=some true)=b:=by
   cases b with
   |true=>exact decide_eq_true ⟨e,z,zAh he,re,rz,hb⟩
   |false=>
    refine decide_eq_false ?_;rintro ⟨e',t,_,re',rt,h'⟩;have:=zc rt rz;subst this;rw [I.pJ re' re,hb] at h';cases h'
  show SeqAt.EqAt X.A.in1 s its[j] v (decide _);rw [k];exact uI I 50 X.A.in1 e d z x _ _ b h50 (by show X.A.units+1+50 < cLine;omega) re hd rz rx hb
 ·rw [zBc];unfold inD;simp only [List.any_toArray,List.any_eq_true,decide_eq_true_eq];constructor
  ·rintro ⟨w,_,e,t,h1,_,_,h2⟩;exact ⟨e,h1,h2⟩
  ·rintro ⟨e,h1,h2⟩;obtain ⟨j,hj,rfl⟩:=zCm h1;have hj2:j < its.length:=by omega
   obtain ⟨z,hz,rz⟩:=hv.at hj2;obtain ⟨e',he',re'⟩:=aD.get hr hz;rw [zAc hj] at he';cases he'
   exact ⟨its[j],zBi hj2,ds[j],z,h1,re',rz,h2⟩
def V9 (K:zF) (neg:Bool):R2:=λx y H Q=>∃d ds p zs,Rep K H d x/\y=.ref p/\(cB K H p zs∨iG K H p zs)/\aD K H ds zs/\Pn d ds/\Q (.bl (if neg then !inD d ds else inD d ds)) H
theorem Vt (hu:X.A.units+60 < cLine):lN X (compareOp .In) (V9 X.K false):=by
 intro pins s σ H x y v u Q I rx ry h;obtain ⟨d,ds,p,zs,hd,rfl,hq,hr,ha,q⟩:=h;cases ry
 rcases hq with hq | hq
 ·obtain ⟨its,rv,pl,hz⟩:=I.list hq;obtain ⟨ef,h1,h2⟩:=pL I hu hd rx ha hr rv;refine SeqAt.in_listAt ef pl.isList h1 ⟨.bl _,H,I,rfl,?_⟩;rw [h2];exact q
 ·obtain ⟨its,rv,pl,hz⟩:=I.tuple hq;obtain ⟨ef,h1,h2⟩:=pL I hu hd rx ha hr rv;refine SeqAt.in_tupleAt ef pl h1 ⟨.bl _,H,I,rfl,?_⟩;rw [h2];exact q
theorem O7 (hu:X.A.units+60 < cLine):lN X (compareOp .NotIn) (V9 X.K true):=by
 intro pins s σ H x y v u Q I rx ry h;obtain ⟨d,ds,p,zs,hd,rfl,hq,hr,ha,q⟩:=h;cases ry
 rcases hq with hq | hq
 ·obtain ⟨its,rv,pl,hz⟩:=I.list hq;obtain ⟨ef,h1,h2⟩:=pL I hu hd rx ha hr rv;refine SeqAt.notIn_listAt ef pl.isList h1 ⟨.bl _,H,I,rfl,?_⟩;rw [h2];exact q
 ·obtain ⟨its,rv,pl,hz⟩:=I.tuple hq;obtain ⟨ef,h1,h2⟩:=pL I hu hd rx ha hr rv;refine SeqAt.notIn_tupleAt ef pl h1 ⟨.bl _,H,I,rfl,?_⟩;rw [h2];exact q
def oX (d e:D):Bool:=decide (fX e<=50)&&(cA e d).isSome
theorem Bp (h:ds.all (oX d)=true):Pn d ds:=λe he=>by
 have:=List.all_eq_true.mp h e he;unfold oX at this;rw [zAE] at this;exact ⟨of_decide_eq_true this.1,Option.isSome_iff_exists.mp this.2⟩
section
variable {m:List Addr}{S:aM}
def V2 (neg:Bool):R2:=λy x H Q=>∃a o,x=.ref a/\GC H a y o/\Q (.bl (if neg then !o.isSome else o.isSome)) H
theorem Tf (hu:X.A.units+1 < cLine):lN X (compareOp .In) (V2 false):=by
 intro pins s σ H x y v u Q I rx ry h;obtain ⟨a,o,rfl,g,q⟩:=h;cases ry
 exact abJ hu I g rx λs3 I3=>⟨.bl o.isSome,H,I3,rfl,q⟩
theorem GZ (hu:X.A.units+1 < cLine):lN X (compareOp .NotIn) (V2 true):=by
 intro pins s σ H x y v u Q I rx ry h;obtain ⟨a,o,rfl,g,q⟩:=h;cases ry
 exact OJ hu I g rx λs3 I3=>⟨.bl (!o.isSome),H,I3,rfl,q⟩
end
theorem RL {k:Key}(h:(aN P w).is k u=true):RelV (kV k) u:=by
 cases k with
 |inl i=>exact Value.isInt_shape (show Value.isInt i u=true from h)
 |inr x=>exact Value.isStrOf_shape (show Value.isStrOf x u=true from h)
theorem u5 {P:Program}{w:World}:∀{kvs:List (Key×Value)}{vs:List Value},vs.length=kvs.length->(∀(j:Nat) (v:Value),vs[j]?=some v->∃k x,kvs[j]?=some (k,x)/\(aN P w).is k v=true)->Vals (kvs.map λkv=>kV kv.1) vs
 |[],[],_,_=>.nil
 |q::r,v::vs,hl,h=>by
  obtain ⟨k,x,e,hk⟩:=h 0 v rfl;cases e
  exact .cons (RL hk) (u5 (P:=P) (w:=w) (by simpa using hl) λj u hu=>by simpa using h (j+1) u (by simpa using hu))
 |[],_::_,hl,_=>by simp at hl
 |_::_,[],hl,_=>by simp at hl
theorem DX:∀{kvs:List (Key×V)}{vs:List (Key×Value)},KV kvs vs->(vs.map λkv=>kV kv.1)=kvs.map λkv=>kV kv.1
 |_,_,.nil=>rfl
 |_,_,.cons h t=>by
  rw [zAr,zAr,DX t];rw [h.1]
theorem ud (hc:X.cool=true):g8 X (.type "list") (λxs H Q=>∃p kvs,xs=[.ref p]/\Rd H p (.dK kvs)/\∀l,H l=none->Q (.ref l) (upd H l (.lst (kvs.map λkv=>kV kv.1)))):=by
 intro pins s σ H xs us Q I r h;obtain ⟨p,kvs,rfl,hq,q⟩:=h;obtain ⟨u,rfl,rx⟩:=vals1 r;cases rx
 obtain ⟨z,hd,vs,rel,dd⟩:=qO I.hok hq;obtain ⟨ep,hat⟩:=dd.dictAt;have hl:kvs.length=vs.length:=Paired.length rel;refine PySem.W.kdl_call (PySem.W.kdl_dict (knd:=aN X.prog X.w) (kvs:=vs) (ep:=ep) hd) (I.ok.hc hc) hat (by omega) λh' tk acc c kp e hi=>?_;have rv:Vals (kvs.map λkv=>kV kv.1) acc.toList:=by
  rw [<-DX rel];exact u5 (P:=X.prog) (w:=X.w) (by rw [zAH];exact hi.1) λj v hv=>hi.2 j v (by rw [<-zBJ];exact hv)
 exact ⟨.ref s.heap.objs.size,_,I.laid (t':=tk) kp (zAq _) (show bw X.prog X.w _ h' _ (.lst (kvs.map λkv=>kV kv.1)) from ⟨by rw [zAn];exact z,acc.toList,c,rv,by rw [Array.toArray_toList];exact e⟩),rfl,q _ (I.hok.fresh (zAq _))⟩
theorem Inv.freeze {a:Addr}(I:Inv X pins σ H s) (e:H a=some (.dK kvs)):∃ob,Inv X pins σ (upd H a (.frz ob (.dK kvs))) s:=by
 have ok:bw X.prog X.w H s.heap a (.dK kvs):=I.hok a _ e;obtain ⟨ob,ho⟩:=ok.there;refine ⟨ob,?_⟩;have:=I.write (x:=a) (e:=a) (o:=.frz ob (.dK kvs)) (h':=s.heap) (t':=s.toks) (by rw [e];exact True.intro) (.inl rfl) (λb u _ q=>q) ⟨ob,ho⟩ ⟨ho,ok⟩;exact this
def X6 (d:Addr) (ob:Obj) (kvs:List (Key×V)):It:=
 ⟨λi H=>H d=some (.frz ob (.dK kvs))/\i < kvs.length,λi H x H'=>H'=H/\∃kv,kvs[i]?=some kv/\x=kV kv.1,λi H=>H d=some (.frz ob (.dK kvs))/\kvs.length<=i⟩
theorem Ay {d:Addr}{ob:Obj}(I:Inv X pins σ H s) (e:H d=some (.frz ob (.dK kvs))):(d==sysModules)=false/\∃vs es ep,KV kvs vs/\ob.data=.dict es ep/\s.heap.DictAt (aN X.prog X.w) d vs ep:=by
 obtain ⟨ho,ok⟩:=(show bw X.prog X.w H s.heap d (.frz ob (.dK kvs)) from I.hok d _ e);obtain ⟨z,hd,vs,rel,o,es,ep,h1,h2,h3,r⟩:=(show bw X.prog X.w H s.heap d (.dK kvs) from ok);rw [ho] at h1;cases h1
 exact ⟨hd,vs,es,ep,rel,h3,ob,es,ho,h2,h3,r⟩
theorem Gf {tg:Expr}(d it:Addr) (ob:Obj) (kvs:List (Key×V)):Turn P w K tg (X6 d ob kvs) [it] it (λi h=>∃es ep,ob.data=.dict es ep/\h.IsKeyIter it d i kvs.length ep) where
 mem:=by simp
 obj:=λi h st b hb=>by
  have e:b=it:=by simpa using hb
  subst e;obtain ⟨_,_,_,o,e,c,d⟩:=st;exact ⟨o,e,λv z=>by rw [d] at z;cases z⟩
 keep:=λi h h' st k=>by
  obtain ⟨es,ep,e1,o,e,r⟩:=st;exact ⟨es,ep,e1,o,k it (by simp) o e,r⟩
 item:=by
  intro X hP hw hK hc i pins s σ H E I hf st hg;subst hP hw hK;obtain ⟨hd,hi⟩:=hg;obtain ⟨es,ep,e1,st⟩:=st;obtain ⟨hs,vs,es',ep',rel,e2,at_⟩:=Ay I hd;rw [e1] at e2;cases e2
  have hl:kvs.length=vs.length:=rel.length;obtain ⟨f0,f1,f2,f3,f4,f5⟩:=hf it (by simp);have hiv:i < vs.length:=by omega
  have ek:(kvs[i]).1=(vs[i]).1:=by
   have h1:(kvs.map (·.1))[i]?=(vs.map (·.1))[i]?:=by rw [rel.keys]
   rw [zAk,zAk,zAc hi,zAc hiv] at h1;exact Option.some.inj h1
  refine wpAny_pyNext_dict_item (knd:=aN X.prog X.w) (kvs:=vs) (by rw [<-hl];exact st) at_ (k:=(vs[i]).1) (v:=(vs[i]).2) (zAc hiv) λkey h' hk st' sb=>?_;have I1:Inv X pins σ H { s with heap:=h' }:=I.turned (t':=s.toks) (λb o hb e=>(sb.2 b hb).trans e) f0 f1 f3 f4 f5;rw [<-hl] at st';exact ⟨key,rfl,PyProof.Rows.letGo_keyiter (s':={ s with heap:=h' }) st' ⟨kV (kvs[i]).1,H,I1,by rw [ek];exact RL hk,⟨rfl,kvs[i],zAc hi,rfl⟩,⟨es,ep,e1,st'⟩,λb hb=>(hf b hb).1⟩⟩
 done:=by
  intro X hP hw hK hc i pins s σ H E I hf st hg;subst hP hw hK;obtain ⟨hd,hi⟩:=hg;obtain ⟨es,ep,e1,st⟩:=st;obtain ⟨hs,vs,es',ep',rel,e2,at_⟩:=Ay I hd;rw [e1] at e2;cases e2
  have hl:kvs.length=vs.length:=rel.length;obtain ⟨f0,f1,f2,f3,f4,f5⟩:=hf it (by simp);exact XH.Jh (knd:=aN X.prog X.w) (kvs:=vs) (I.vI hc f0) (by rw [<-hl];exact st) at_ (zCg (by omega)) λh' eb=>⟨rfl,I.turned (t':=s.toks) (λb o hb e=>eb b o hb e) f0 f1 f3 f4 f5⟩
 self:=λ_ _ _ _ _ st h=>by
  obtain ⟨es,ep,e1,st⟩:=st;exact wpAny_pyIter_keyiter st h
end Z
namespace Z
open PySem L2 PyProof.Rows
def Gz (a b:Str):Bool:=decide (a.cps.toList<=b.cps.toList)
def jE (ss:List Str):List Str:=ss.mergeSort Gz
theorem vL (a b c:Str) (h1:Gz a b=true) (h2:Gz b c=true):Gz a c=true:=
 decide_eq_true (List.le_trans (of_decide_eq_true h1) (of_decide_eq_true h2))
theorem G4 (a b:Str):(Gz a b||Gz b a)=true:=by
 rw [Bool.or_eq_true];rcases List.le_total a.cps.toList b.cps.toList with h | h
 ·exact .inl (decide_eq_true h)
 ·exact .inr (decide_eq_true h)
theorem Ir {a b:Str}(h1:Gz a b=true) (h2:Gz b a=true):a=b:=by
 have:=List.le_antisymm (of_decide_eq_true h1) (of_decide_eq_true h2);obtain ⟨x⟩:=a;obtain ⟨y⟩:=b;congr 1;exact Array.toList_inj.mp this
theorem ni (ss:List Str):(jE ss).Perm ss:=List.mergeSort_perm ss Gz
theorem Ah (ss:List Str):(jE ss).Pairwise λa b=>Gz a b=true:=List.pairwise_mergeSort vL G4 ss
theorem vm:∀(l:List Str) (p:Str),risingS p l=true->(p::l).Pairwise λa b=>Gz a b=true
 |[],p,_=>List.pairwise_singleton _ _
 |x::r,p,h=>by
  have h':(!Spec.ltCps x.cps.toList p.cps.toList&&risingS x r)=true:=h;rw [zAE] at h';have ih:=vm r x h'.2;have h1:Gz p x=true:=by
   have:=h'.1;rw [ltCps_eq] at this;refine decide_eq_true ?_;show ¬(x.cps.toList < p.cps.toList);simpa using this
  refine List.pairwise_cons.mpr ⟨λy hy=>?_,ih⟩;rcases zBv.mp hy with rfl | hy
  ·exact h1
  ·exact vL _ _ _ h1 (List.rel_of_pairwise_cons ih hy)
theorem GR {ss ss':List Str}(hp:ss'.Perm ss) (hs:sortedS ss'=true):ss'=jE ss:=by
 refine List.Perm.eq_of_pairwise (le:=λa b=>Gz a b=true) (λa b _ _ h1 h2=>Ir h1 h2) ?_ (Ah ss) (hp.trans (ni ss).symm);cases ss' with
 |nil=>exact List.Pairwise.nil
 |cons x r=>exact vm r x hs
theorem pF:∀{ss:List Str}{its:List Value},Vals (ss.map V.str) its->StrsAre its ss
 |[],_,.nil=>.nil
 |s::ss,_,.cons ⟨t,e⟩ h=>by subst e;exact .cons s t (pF h)
theorem Ek:∀{ss:List Str}{its:List Value},StrsAre its ss->Vals (ss.map V.str) its
 |_,_,.nil=>.nil
 |_,_,.cons y t h=>.cons ⟨t,rfl⟩ (Ek h)
section
variable {K:zF}{X:Cx}
def iI:List D->Option (List Str)
 |[]=>some []
 |.str x::r=>(iI r).map (x::·)
 |_::_=>none
theorem mY:∀{ds:List D}{ss:List Str},iI ds=some ss->ds=ss.map .str
 |[],ss,e=>by cases e;rfl
 |.str x::r,ss,e=>by
  have e':(iI r).map (x::·)=some ss:=e;obtain ⟨t,ht,rfl⟩:=Option.map_eq_some_iff.mp e';rw [mY ht];rfl
 |.non::_,_,e=>by cases e
 |.bl _::_,_,e=>by cases e
 |.int _::_,_,e=>by cases e
 |.lst _::_,_,e=>by cases e
 |.tup _::_,_,e=>by cases e
theorem gj:∀ss:List Str,iI (ss.map .str)=some ss
 |[]=>rfl
 |s::ss=>by
  show (iI (ss.map .str)).map (s::·)=_;rw [gj ss];rfl
theorem nJ {H:Hp}:∀{ss:List Str}{vs:List V},aD K H (ss.map .str) vs->vs=ss.map V.str
 |[],vs,h=>by rw [zCe] at h;unfold aD at h;rw [h];rfl
 |s::ss,vs,h=>by
  rw [zAr] at h;unfold aD at h;obtain ⟨v,r,rfl,h1,h2⟩:=h;unfold Rep at h1;rw [h1,nJ h2];rfl
theorem j_ {H:Hp}:∀(ss:List Str),aD K H (ss.map .str) (ss.map V.str)
 |[]=>aD.nil
 |s::ss=>by
  rw [zAr,zAr];refine aD.cons ?_ (j_ ss);unfold Rep;rfl
end
end Z
namespace L2
open PySem PySem.Spec PyProof.Rows
variable {X:Cx}{tk tv:TE}{tg:Expr}{pos:Pos}{pins:List (Addr×Obj)}{σ:St}{H:Hp}{s:Shared}
def KY (k v:Expr) (acc:Addr) (env:Env):Sem Unit:=do
 let kv <-eval k env
 let vv <-holding [kv] (eval v env)
 standAt { k.pos with endLine:=v.pos.endLine,endCol:=v.pos.endCol }
 holding [kv,vv] (dictSet acc kv vv)
def W9 (acc:Addr) (tk tv:TE):TS:=λD σ H=>tk σ H λx H1=>tv σ H1 λy H2=>∃kvs k,x=kV k/\H2 acc=some (.dK kvs)/\kvs.length < sizeLine/\D.nx σ (upd H2 acc (.dK (putK kvs k y)))
theorem Vl {k v:Expr}{acc:Addr}(hk:PE X k tk) (hv:PE X v tv):PB X (KY k v acc X.env) (W9 acc tk tv):=by
 intro pins s σ H D I h;unfold KY;refine zAa (cR (hk pins s σ H _ I h) λu s1 ⟨x,H1,I1,rx,q1⟩=>zAa (zAN (cR (hv pins s1 σ H1 _ I1 q1) λr s2 ⟨y,H2,I2,ry,kvs,key,ex,e,hz,q⟩=>zAa (zBB (zAN ?_)))));subst ex;obtain ⟨z,hd,vs,rel,dd⟩:=DQ I2.hok e;have hz2:vs.length<=sizeLine:=by rw [<-rel.length];exact z
 have hl:(putK kvs key y).length<=sizeLine:=by have:=iY kvs key y;omega
 refine wpAny_dictSet_pairs (hsz:=hz2) (qU rx) dd λh' dd' hs=>?_;have he:∃q,h'.get? acc=some q:=let ⟨q,_,_,hq,_⟩:=dd';⟨q,hq⟩
 exact ⟨σ,_,pZ I2 (by rw [e];exact True.intro) hs he (tL hl hd (rel.put key ry) dd'),q⟩
theorem Nz {kx vx iter:Expr}{ifs:List Expr}{scope:Scope}{wi:TI}{g:TG}{tt:TT}{N:List Str}{n:Nat}{js:List Nat}
  (hc:X.calm=true) (B:jH X scope N n js) (hi:PI X tg iter wi)
  (hg:∀s H fp,PG (aV X scope N s H fp) tg g) (ht:∀s H fp,H9 (aV X scope N s H fp) ifs tt) (hk:∀s H fp,PE (aV X scope N s H fp) kx tk) (hv:∀s H fp,PE (aV X scope N s H fp) vx tv)
  (hs:∀x,foldedSetIterable iter X.env x=pure x:=by intro _;rfl) :
  PE X (.DictComp kx vx [⟨tg,iter,ifs,0⟩] scope pos) (λσ H Q=>wi σ H λJ H1=>∀acc,H1 acc=none->nY J g (lF tt (W9 acc tk tv)) { nx:=λ_ H'=>Q (.ref acc) H',rt:=λ_ _=>False } (pO σ n js) (upd H1 acc (.dK []))):=by
 intro pins s σ H Q I h;show wpAny _ _ (comprehension (.DictComp kx vx [⟨tg,iter,ifs,0⟩] scope pos) scope X.env (firstIterPos [⟨tg,iter,ifs,0⟩] pos) newDict (firstAsync [⟨tg,iter,ifs,0⟩]) (firstIter [⟨tg,iter,ifs,0⟩] X.env)) _ _ _;refine wpAny_comprehension_free (use:=none) rfl hs (oA (B.frees I.ok)) B.kind B.hnames ?_;refine cR (hi pins s σ H _ I h) λv s1 h1=>cR h1 λitv s2 h2=>?_;obtain ⟨it,fp,tn,J,H2,e2,I2,T,st2,f2,w⟩:=h2;subst e2;simp only [newDict,newObj];refine zAa (wpAny_alloc (zAd (gR ?_)));have I3:Inv X pins σ (upd H2 s2.heap.objs.size (.dK [])) { s2 with heap:=s2.heap.push { cls:=.type "dict", data:=.dict #[] } }:=I2.laid (a:=s2.heap.objs.size) (o:=.dK []) (t':=s2.toks) (λ_ _ q=>zAb _ q) (zAq _) (tM s2.heap I2.big);have lt2:∀b∈fp,b < s2.heap.objs.size:=λb hb=>let ⟨_,e,_⟩:=T.obj _ _ st2 b hb;zAe e
 have f3:∀b∈fp,lu X pins (upd H2 s2.heap.objs.size (.dK [])) b:=λb hb=>⟨by rw [aA (zAl (lt2 b hb))];exact (f2 b hb).1,(f2 b hb).2⟩;have lt3:∀b∈fp,b < (s2.heap.push { cls:=.type "dict", data:=.dict #[] }).objs.size:=λb hb=>by rw [zAF];exact zAX (lt2 b hb)
 have J4:=Inv.block B I3 f3 lt3;have st4:tn 0 (pushCells ((s2.heap.push { cls:=.type "dict", data:=.dict #[] }).push { cls:=.type "dict", data:=.dict #[] }) scope.names):=T.keep _ _ _ st2 λb hb o e=>pushCells_keeps _ _ _ _ (zAb _ (zAb _ e));have f4:∀b∈fp,lu (aV X scope N { s2 with heap:=s2.heap.push { cls:=.type "dict", data:=.dict #[] } } (upd H2 s2.heap.objs.size (.dK [])) fp) [] (upd H2 s2.heap.objs.size (.dK [])) b:=λb hb=>
  ⟨(f3 b hb).1,zAl (lt3 b hb),J4.ok.exfs b hb,.inl hb,(J4.ok.exf b hb).2,λp hp=>absurd hp (by simp [aV])⟩
 have go:=w s2.heap.objs.size I2.fresh;refine codeAny_mono (kZ (X:=aV X scope N { s2 with heap:=s2.heap.push { cls:=.type "dict", data:=.dict #[] } } (upd H2 s2.heap.objs.size (.dK [])) fp) (e:=.DictComp kx vx [⟨tg,iter,ifs,0⟩] scope pos) (d:=0) (acc:=.ref s2.heap.objs.size) (it:=it) (iter:=iter) (by rfl) (by rfl) (by rfl) (by rfl) T st4
  (nO (X:=aV X scope N { s2 with heap:=s2.heap.push { cls:=.type "dict", data:=.dict #[] } } (upd H2 s2.heap.objs.size (.dK [])) fp) (bd:=KY kx vx s2.heap.objs.size _) (by rfl) (by rfl) (by rfl) (by rfl) rfl hc T (hg _ _ _) (ht _ _ _) (Vl (hk _ _ _) (hv _ _ _)) J4 st4 f4 go)) λr s' hr=>?_
 cases r with
 |error x=>exact False.elim hr
 |ok f=>
  obtain ⟨σ',H',J',q⟩:=hr;obtain ⟨m,hn,_⟩:=id J'.loc;exact ⟨m,hn,λh' hs'=>⟨.ref s2.heap.objs.size,H',I3.unblock f3 J' hs',rfl,q⟩⟩
def NF (X:Cx) (a:Addr):Prop:=∀o u,X.H₀ a≠some (.frz o u)
section
variable {a:Addr}
theorem Inv.nf {o:HO}(I:Inv X pins σ H s) (e:H a=some o) (hn:∀ob u,o≠.frz ob u):NF X a:=λob u z=>by
 have:=I.base.frzs a ob u z;rw [e] at this;exact hn ob u (Option.some.inj this)
theorem Inv.mL {ob:Obj}{ws:List (Key×V)}(I:Inv X pins σ H s) (e:H a=some (.frz ob (.dK ws))) (nf:NF X a):Inv X pins σ (upd H a (.dK ws)) s:=by
 have no:∀b,H b=none->upd H a (.dK ws) b=none:=λb n=>by
  rw [aA λz=>?_]
  ·exact n
  ·subst z;rw [e] at n;cases n
 refine ⟨I.ok,I.os,I.bare,⟨I.base.keep,I.base.slot,λb o q n hx=>no b (I.base.free b o q n hx),I.base.there,λb xs q=>?_,λb o u q=>?_,λb ps q=>?_⟩,I.loc,I.cell,no _ I.free,λx c q=>no c (I.freeC x c q),λp hp=>?_,λb u q=>?_,I.len⟩
 ·have q':=I.base.tups b xs q;rw [aA λz=>?_]
  ·exact q'
  ·subst z;rw [e] at q';cases q'
 ·have q':=I.base.frzs b o u q;rw [aA λz=>?_]
  ·exact q'
  ·subst z;exact nf o u q
 ·obtain ⟨more,q'⟩:=I.base.tbls b ps q;refine ⟨more,?_⟩;rw [aA λz=>?_]
  ·exact q'
  ·subst z;rw [e] at q';cases q'
 ·obtain ⟨h1,h2,h3⟩:=I.pin p hp;exact ⟨h1,no _ h2,h3⟩
 ·have st:∀{c:Addr}{o:HO},bw X.prog X.w H s.heap c o->bw X.prog X.w (upd H a (.dK ws)) s.heap c o:=λ{c o} q=>
   q.stay (λ_ _ _ z=>z) (λd z=>by rw [aA λy=>by subst y;rw [e] at z;cases z];exact z) λd xs z=>by rw [aA λy=>by subst y;rw [e] at z;cases z];exact z
  by_cases hb:b=a
  ·subst hb;rw [aJ] at q;cases q
   obtain ⟨_,ok⟩:=(show bw X.prog X.w H s.heap b (.frz ob (.dK ws)) from I.hok b _ e);exact st ok
  ·rw [aA hb] at q;exact st (I.hok b u q)
end
def Cp (X:Cx) (P:Hp->Prop) (H:Hp):Prop:=P H∨∃a ob ws,H a=some (.frz ob (.dK ws))/\NF X a/\P (upd H a (.dK ws))
theorem Inv.M9 {P:Hp->Prop}(I:Inv X pins σ H s) (h:Cp X P H):∃H',Inv X pins σ H' s/\P H':=by
 rcases h with h | ⟨a,ob,ws,e,nf,h⟩
 ·exact ⟨H,I,h⟩
 ·exact ⟨_,I.mL e nf,h⟩
theorem DY {st:Stmt}{t:TS}(h:PS X st t):PS X st (λD σ H=>t { nx:=λσ'=>Cp X (D.nx σ'),rt:=λv=>Cp X (D.rt v),bk:=λσ'=>Cp X (D.bk σ'),ct:=λσ'=>Cp X (D.ct σ') } σ H):=by
 intro pins s σ H D I q;refine cR (h pins s σ H _ I q) λf s1 q1=>?_;cases f with
 |next=>obtain ⟨σ1,H1,I1,q2⟩:=q1;obtain ⟨H2,I2,q3⟩:=I1.M9 q2;exact ⟨σ1,H2,I2,q3⟩
 |cont=>obtain ⟨σ1,H1,I1,q2⟩:=q1;obtain ⟨H2,I2,q3⟩:=I1.M9 q2;exact ⟨σ1,H2,I2,q3⟩
 |brk=>obtain ⟨σ1,H1,I1,q2⟩:=q1;obtain ⟨H2,I2,q3⟩:=I1.M9 q2;exact ⟨σ1,H2,I2,q3⟩
 |ret v=>obtain ⟨w,σ1,H1,I1,r,q2⟩:=q1;obtain ⟨H2,I2,q3⟩:=I1.M9 q2;exact ⟨w,σ1,H2,I2,r,q3⟩
theorem DW {e:Expr}{t:TE}(h:PE X e t):PE X e (λσ H Q=>t σ H λv=>Cp X (Q v)):=by
 intro pins s σ H Q I q;refine cR (h pins s σ H _ I q) λu s1 ⟨v,H1,I1,r,q2⟩=>?_;obtain ⟨H2,I2,q3⟩:=I1.M9 q2;exact ⟨v,H2,I2,r,q3⟩
def aaZ (X:Cx) (tl:TE):TI:=λσ H R=>tl σ H λx H1=>
 (∃a,x=.ref a/\(∃xs,cB X.K H1 a xs)/\R (Itl X.K a) H1)∨(∃a,x=.ref a/\(∃xs,iG X.K H1 a xs)/\R (Itt X.K a) H1)∨(∃z,x=.str z/\R (Its z) H1) ∨
 (∃a ob kvs,x=.ref a/\H1 a=some (.frz ob (.dK kvs))/\R (Z.X6 a ob kvs) H1)∨(∃a kvs,x=.ref a/\H1 a=some (.dK kvs)/\∀ob,NF X a->R (Z.X6 a ob kvs) (upd H1 a (.frz ob (.dK kvs))))
theorem Wm {l:Expr}{tl:TE}(hl:PE X l tl):PI X tg l (aaZ X tl):=by
 intro pins s σ H R I h;refine cR (hl pins s σ H _ I h) λv s1 ⟨x,H1,I1,r1,q1⟩=>?_;have fp:∀{H':Hp},Inv X pins σ H' s1->∀b∈[s1.heap.objs.size],lu X pins H' b:=λ{H'} J b hb=>by
  have e:b=s1.heap.objs.size:=by simpa using hb
  subst e;exact J.QJ (zAq _) (J.hok.fresh (zAq _))
 have dct:∀{H':Hp}(a:Addr) (ob:Obj) (kvs:List (Key×V)),Inv X pins σ H' s1->H' a=some (.frz ob (.dK kvs))->R (Z.X6 a ob kvs) H'->wpAny (model X.prog X.w) X.A (pyIter (.ref a)) (PIE X pins σ tg R) X.xe s1:=λ{H'} a ob kvs J hq q=>by
  obtain ⟨hs,vs,es,ep,rel,e2,at_⟩:=Z.Ay J hq;have hl:kvs.length=vs.length:=rel.length;refine wpAny_pyIter_dict hs at_ ?_;exact ⟨s1.heap.objs.size,[s1.heap.objs.size],_,_,H',rfl,J.kept (t':=s1.toks) λb o e=>zAb _ e,Z.Gf a _ ob kvs,⟨es,ep,e2,_,zAp _ rfl,rfl,by rw [hl];rfl⟩,fp J,q⟩
 rcases q1 with ⟨a,rfl,⟨xs,hq⟩,q⟩ | ⟨a,rfl,⟨xs,hq⟩,q⟩ | ⟨z,rfl,q⟩ | ⟨a,ob,kvs,rfl,hq,q⟩ | ⟨a,kvs,rfl,hq,q⟩
 ·cases r1
  obtain ⟨its,rv,p,hz⟩:=I1.list hq;refine wpAny_pyIter_list p.isList ?_;exact ⟨s1.heap.objs.size,[s1.heap.objs.size],_,_,H1,rfl,I1.kept (t':=s1.toks) λb o e=>zAb _ e,Gw a _,⟨_,zAp _ rfl,rfl,rfl⟩,fp I1,q⟩
 ·cases r1
  obtain ⟨its,rv,p,hz⟩:=I1.tuple hq;refine wpAny_pyIter_tuple (show s1.heap.IsTuple a its.toArray from p) ?_;exact ⟨s1.heap.objs.size,[s1.heap.objs.size],_,_,H1,rfl,I1.kept (t':=s1.toks) λb o e=>zAb _ e,BR a _,⟨_,zAp _ rfl,rfl,rfl⟩,fp I1,q⟩
 ·obtain ⟨t,rfl⟩:=r1;refine wpAny_pyIter_strU ?_;exact ⟨s1.heap.objs.size,[s1.heap.objs.size],_,_,H1,rfl,I1.kept (t':=s1.toks) λb o e=>zAb _ e,JN _ z t,⟨⟨_,zAp _ rfl,rfl,rfl⟩,zBf _⟩,fp I1,q⟩
 ·cases r1
  exact dct a ob kvs I1 hq q
 ·cases r1
  obtain ⟨ob,I2⟩:=Z.Inv.freeze I1 hq;exact dct a ob kvs I2 aJ (q ob (I1.nf hq λ_ _ z=>by cases z))
def W8 (K:zF) (ta:TA):TI:=λσ H R=>ta σ H λvs H1=>∃a xs,vs=[.ref a]/\cB K H1 a xs/\R (Ite K a) H1
theorem M8 {elts:List Expr}{x1:Nat}{tpos:Pos}{a:Expr}{ta:TA}{p:Pos}(hg:Gl X "enumerate") (hm:X.mg "enumerate" = none) (ha:PA X [a] ta) (hs:starEach [a] X.env=[(false,eval a X.env)]:=by rfl) :
  PI X (.Tuple elts x1 tpos) (.Call (.Name "enumerate" p) [a] [] pos) (W8 X.K ta):=by
 intro pins s σ H R I h;refine Call_ (qD I hg hm (by first | exact PySem.boot_enumerate | rfl) (PyProof.Rows.callWith_type1 (cR (ha pos pins s σ H _ I h) λus s1 ⟨vs,H1,I1,r1,q1⟩=>?_) hs rfl));obtain ⟨l,xs,e,q⟩:=q1;subst e;obtain ⟨u,rfl,ru⟩:=vals1 r1;cases ru
 have fp:∀b∈[s1.heap.objs.size+1,s1.heap.objs.size],lu X pins H1 b:=λb hb=>by
  have hb':s1.heap.objs.size<=b:=by
   rcases zBv.mp hb with z | z
   ·rw [z];exact zAZ _
   ·have z:b=s1.heap.objs.size:=by simpa using z
    rw [z];exact zAq _
  exact I1.QJ hb' (I1.hok.fresh hb')
 obtain ⟨hq,q⟩:=q;obtain ⟨its,rv,p,hz⟩:=I1.list hq;refine call_enumerate_list p.isList λh' he hit hsz kk=>?_;have I2:Inv X pins σ H1 { s1 with heap:=h' }:=I1.kept (t':=s1.toks) kk;refine wpAny_pyIter_enum he ?_;exact ⟨s1.heap.objs.size+1,[s1.heap.objs.size+1,s1.heap.objs.size],_,_,H1,rfl,I2,Gj l _ _ (Nat.succ_ne_self _),⟨⟨_,he⟩,hit⟩,fp,q⟩
end L2
namespace XE
open PySem
variable {a:Addr}
def uN (fs ch:List Addr) (h h':Heap):Prop:=∀b o,h.get? b=some o->b∉ch->(b∉fs->h'.get? b=some o)/\∃sl,h'.get? b=some { o with slots:=sl }
theorem uN.trans {fs ch ch':List Addr}{h h1 h2:Heap}(a:uN fs ch h h1) (b:uN fs ch' h1 h2):uN fs (ch++ch') h h2:=λc o e hc=>by
 obtain ⟨a1,sl,a2⟩:=a c o e λz=>hc (zBe _ z);obtain ⟨b1,sl',b2⟩:=b c _ a2 λz=>hc (zAK _ z);refine ⟨λhf=>?_,sl',b2⟩;have q:=a1 hf;rw [a2] at q;have q':({ o with slots:=sl }:Obj)=o:=Option.some.inj q;rw [q'] at b1;exact b1 hf
theorem uN.upd {fs:List Addr}{h:Heap}{f:Obj->Obj}:uN fs [a] h (h.update a f):=λb o e hb=>by
 have e':(h.update a f).get? b=some o:=(zAt _ _ (λz=>hb (by simp [z]))).trans e;exact ⟨λ_=>e',o.slots,e'⟩
theorem uN.push {fs ch:List Addr}{h:Heap}{o:Obj}:uN fs ch h (h.push o):=λb ob e hb=>by
 have e':=zAb o e;exact ⟨λ_=>e',ob.slots,e'⟩
theorem uN.sub {fs ch ch':List Addr}{h h':Heap}(a:uN fs ch h h') (s:∀b∈ch,b∈ch'):uN fs ch' h h':=λb o e hb=>a b o e λz=>hb (s b z)
def Hq (P:Addr->Prop) (a:Addr) (C:Value) (dd:Option Addr) (fl:Value) (h:Heap):Prop:=
 P a/\∃oe vs,h.get? a=some oe/\oe.cls=C/\oe.dict=dd/\oe.data=.fields vs/\vs[2]?=some .none /\
  ((vs[1]?=some .none/\fl=.none)∨∃T oT ts,vs[1]?=some (.ref T)/\P T/\T≠a/\h.get? T=some oT/\oT.data=.fields ts/\ts[3]?=some fl)
theorem Hq.imp {P P':Addr->Prop}{a:Addr}{C:Value}{dd:Option Addr}{fl:Value}{h:Heap}(x:Hq P a C dd fl h) (k:∀b,P b->P' b):Hq P' a C dd fl h:=by
 obtain ⟨p,oe,vs,h1,h2,h3,h4,h5,h6⟩:=x;exact ⟨k _ p,oe,vs,h1,h2,h3,h4,h5,h6.imp id λ⟨T,oT,ts,q1,q2,q3⟩=>⟨T,oT,ts,q1,k _ q2,q3⟩⟩
section
variable {M:Model}{A:Around}{E:zV}{s:Shared}{P:Addr->Prop}{L:Addr}{C:Value}{dd:Option Addr}{base:Heap}{env:Env}{outer:List Env}
def Rec (P:Addr->Prop) (h:Heap) (ch:List Addr):Prop:=∀b∈ch,P b/\∃o vs,h.get? b=some o/\o.data=.fields vs
theorem newEntry {oe:Obj}{vs:Array Value}{head:Value}{hadNext:Bool}{Q:Unit->Shared->Prop}
  (hfr:A.frames=some (env::outer)) (hl:s.heap.FunFrames base (env::outer)) (hf:env.frame=some L)
  (pa:P a) (hP:∀b,s.heap.objs.size<=b->P b) (he:s.heap.get? a=some oe) (hc:oe.cls=C) (hdd:oe.dict=dd) (hd:oe.data=.fields vs) (h1:1 < vs.size) (h2:vs[2]?=some .none)
  (h:∀h',Hq P a C dd (rawInt L) h'->uN ((env::outer).filterMap (·.frame)) [a] s.heap h'->Q () { s with heap:=h' }) :
  wpAny M A (do let f <-frameOf env;let pl <-entryPlaceOf L hadNext;let b <-EntryCells.newEntry head f .none (rawInt L) .none pl;setField (.ref a) 1 b) Q E s:=by
 have hene:a∉(env::outer).filterMap (·.frame):=λhm=>by
  obtain ⟨_,o,ho,hnf⟩:=hl.mem hm;rw [he] at ho;injection ho with ho;subst ho;exact hnf vs hd
 refine zAa (wpAny_frameOf_fun hfr hl hf λh₁ hs₁=>?_);refine zAa (wpAny_entryPlaceOf λpl hpl=>?_);unfold EntryCells.newEntry newFields;refine zAa (zBl ?_ (hpl.sizeOk5 _ _ _ _ _));have he₁:h₁.get? a=some oe:=(hs₁.2.1 a hene).trans he;have he₂:=zAb (h:=h₁) { cls:=.type "traceback", dict:=none,data:=.fields ([head,.ref L,.none,rawInt L,.none]++(if pl.isEmpty then List.replicate 6 Value.none else pl)).toArray } he₁;refine zAQ he₂ hd h1 (h _ ?_ ?_)
 ·have hTe:h₁.objs.size≠a:=zBu (zAe he₁);have hd₃:=Obj.data_mapFields hd (·.setIfInBounds 1 (Value.ref h₁.objs.size));have he₃:=zAD (Obj.mapFields (·.setIfInBounds 1 (Value.ref h₁.objs.size))) he₂ (Obj.isFreed_of_fields hd₃);have hT₃:=(zAt (h₁.push { cls:=.type "traceback", dict:=none,data:=.fields ([head,.ref L,.none,rawInt L,.none]++(if pl.isEmpty then List.replicate 6 Value.none else pl)).toArray })
   (Obj.mapFields (·.setIfInBounds 1 (Value.ref h₁.objs.size))) (Ne.symm hTe)).trans (zAp h₁ rfl)
  refine ⟨pa,_,_,he₃,(Obj.cls_mapFields _ _).trans hc,?_,hd₃,by rw [Array.getElem?_setIfInBounds_ne (by decide)];exact h2,.inr ⟨h₁.objs.size,_,_,by simp [h1],hP _ (by rw [hs₁.1];exact zAq _),hTe,hT₃,rfl,by first | (simp;done) | (rcases hpl with rfl | ⟨_,_,_,_,_,_,_,rfl⟩<;>simp)⟩⟩;obtain ⟨c,d,dt,sl⟩:=oe;cases hd
  exact hdd
 ·have c1:uN ((env::outer).filterMap (·.frame)) [a] s.heap h₁:=λb o e hb=>⟨λhf=>(hs₁.2.1 b hf).trans e,hs₁.2.2 b o e⟩;exact ((c1.trans (uN.push (ch:=[a]))).trans uN.upd).sub λb hb=>by simpa using hb
theorem note {fl:Value}{Q:Unit->Shared->Prop}(hfr:A.frames=some (env::outer)) (hl:s.heap.FunFrames base (env::outer)) (hf:env.frame=some L) (hP:∀b,s.heap.objs.size<=b->P b)
  (x:Hq P a C dd fl s.heap) (hfl:fl=.none∨fl=rawInt L)
  (h:∀h' ch,Hq P a C dd (rawInt L) h'->uN ((env::outer).filterMap (·.frame)) ch s.heap h'->Rec P s.heap ch->Q () { s with heap:=h' }):wpAny M A (noteFrame (.ref a) env) Q E s:=by
 obtain ⟨pa,oe,vs,he,hc,hdd,hd,h2,tb⟩:=id x;unfold noteFrame;simp only [hf];rcases tb with ⟨h1,e⟩ | ⟨T,oT,ts,h1,pT,hTe,hT,hdT,h3⟩
 ·refine zAa (zAM he hd h1 ?_);rw [if_neg (by decide)];refine newEntry hfr hl hf pa hP he hc hdd hd (Array.getElem?_eq_some_iff.mp h1).1 h2 λh' q c=>h h' [a] q c λb hb=>?_;have:b=a:=by simpa using hb
  subst this;exact ⟨pa,oe,vs,he,hd⟩
 ·refine zAa (zAM he hd h1 ?_);rw [if_pos (show (Value.ref T != Value.none)=true from by simp)];refine zAa (zAM hT hdT h3 ?_);by_cases z:fl=rawInt L
  ·subst z;rw [if_pos (show (rawInt L==rawInt L)=true from by simp)];refine zAd (h s.heap [] x (λb o e _=>⟨λ_=>e,o.slots,e⟩) λb hb=>absurd hb (by simp))
  ·have e:fl=.none:=hfl.resolve_right z;subst e;rw [if_neg (show ¬((Value.none==rawInt L)=true) from by simp [rawInt])];refine zAa (zAQ hT hdT (Array.getElem?_eq_some_iff.mp h3).1 ?_);have other:∀b,b≠T->(s.heap.update T (Obj.mapFields (·.setIfInBounds 3 Value.none))).get? b=s.heap.get? b:=λb hb=>zAt _ _ (Ne.symm hb);have noRecord:∀b o,s.heap.get? b=some o->(∀vs,o.data≠.fields vs)->b≠T:=λb o hb hnf q=>by
    rw [q,hT] at hb;injection hb with hb;subst hb;exact hnf ts hdT
   refine newEntry (s:={ s with heap:=s.heap.update T (Obj.mapFields (·.setIfInBounds 3 Value.none)) }) hfr (hl.of_keeps λb o hb hnf=>⟨o,(other b (noRecord b o hb hnf)).trans hb,rfl⟩) hf pa (λb hb=>hP b (by rw [<-Heap.size_update s.heap T];exact hb)) ((other a (Ne.symm hTe)).trans he) hc hdd hd (Array.getElem?_eq_some_iff.mp h1).1 h2 λh' q c=>?_;refine h h' ([T]++[a]) q (uN.upd.trans c) λb hb=>?_;have hb':b=T∨b=a:=by simpa using hb
   rcases hb' with z | z<;>subst z
   ·exact ⟨pT,oT,ts,hT,hdT⟩
   ·exact ⟨pa,oe,vs,he,hd⟩
theorem unmark {fl:Value}{Q:Unit->Shared->Prop}(x:Hq P a C dd fl s.heap) (h:∀h' ch,Hq P a C dd .none h'->(∀fs,uN fs ch s.heap h')->Rec P s.heap ch->h'.objs.size=s.heap.objs.size->Q () { s with heap:=h' }):wpAny M A (setFlight (.ref a) none) Q E s:=by
 obtain ⟨pa,oe,vs,he,hc,hdd,hd,h2,tb⟩:=id x;unfold setFlight;rcases tb with ⟨h1,e⟩ | ⟨T,oT,ts,h1,pT,hTe,hT,hdT,h3⟩
 ·refine zAa (zAM he hd h1 ?_);rw [if_neg (by decide)];subst e;exact zAd (h s.heap [] x (λfs b o e _=>⟨λ_=>e,o.slots,e⟩) (λb hb=>absurd hb (by simp)) rfl)
 ·refine zAa (zAM he hd h1 ?_);rw [if_pos (show (Value.ref T != Value.none)=true from by simp)];have hsz3:3 < ts.size:=(Array.getElem?_eq_some_iff.mp h3).1;refine zAQ hT hdT hsz3 (h _ [T] ?_ (λfs=>uN.upd) (λb hb=>?_) (Heap.size_update _ _ _))
  ·exact ⟨pa,oe,vs,(zAt _ _ hTe).trans he,hc,hdd,hd,h2,.inr ⟨T,_,_,h1,pT,hTe,zAD _ hT (Obj.isFreed_of_fields (Obj.data_mapFields hdT _)),Obj.data_mapFields hdT _,by simp [hsz3]⟩⟩
  ·have:b=T:=by simpa using hb
   subst this;exact ⟨pT,oT,ts,hT,hdT⟩
end
end XE
namespace L2
open PySem PySem.Spec PyProof.Rows
variable {ch:List Addr}{H:Hp}{h' base:Heap}{P:Program}{w:World}{X:Cx}{s:Shared}{C cd:Value}{dd:Option Addr}{K:zF}{mg:Str->Option Value}{N:List Str}{qual:Str}{scope:Scope}{f:Addr}{outer:List Env}
def Yg (n:Nat) (H:Hp) (b:Addr):Prop:=n<=b/\H b=none
def Ar (P:Program) (w:World):K3:=λouter H s E e s'=>∃a C dd H',e=.ref a/\s'.os=s.os/\AllBare s'.gens/\Un (frs outer) [] H H' s.heap s'.heap/\nD P w H' s'.heap/\XE.Hq (Yg s.heap.objs.size H') a C dd .none s'.heap/\E C dd H'
theorem Cq {fs:List Addr}{h:Heap}(c:XE.uN fs ch h h') (hf:∀b∈fs,H b=none):Un fs ch H H h h' where
 keep:=λb o e n hb hc=>(c b o e hc).1 hb
 slot:=λb o e n hb hc=>(c b o e hc).2
 free:=λb o e n hc=>n
 there:=λb o e hc=>let ⟨sl,q⟩:=(c b o e hc).2;⟨_,q⟩
 tups:=λb xs q=>q
 frzs:=λb o u q=>q
 tbls:=λb ps q=>⟨#[],by simpa using q⟩
theorem wk {fs:List Addr}{h:Heap}(c:XE.uN fs ch h h') (hf:∀b∈fs,H b=none) (hc:∀b∈ch,H b=none) (k:nD P w H h):nD P w H h':=λa o e=>by
 have kp:∀b u,H b≠none->h.get? b=some u->h'.get? b=some u:=λb u n q=>(c b u q λz=>n (hc b z)).1 λz=>n (hf b z);refine (k a o e).stay (λb u hb q=>kp b u ?_ q) (λb q=>q) λb xs q=>q;rcases hb with z | z
 ·rw [z,e];intro y;cases y
 ·rw [z];intro y;cases y
section
variable {pins:List (Addr×Obj)}{σ:St}{a:Addr}{fl:Value}
theorem Inv.recs (I:Inv X pins σ H s) (r:XE.Rec (Yg X.s₀.heap.objs.size H) s.heap ch) (hp:∀b∈ch,∀p∈X.pn++pins,p.1≠b) :
  ∀b∈ch,(b∈X.ex∨X.s₀.heap.objs.size<=b)/\b≠X.env.locals/\(∀x c,X.env.cells.lookup x=some c->c≠b)/\∀p∈X.pn++pins,p.1≠b:=λb hb=>by
 obtain ⟨⟨y1,y2⟩,o,vs,e,d⟩:=r b hb;refine ⟨.inr y1,λz=>?_,λx c q z=>?_,hp b hb⟩
 ·obtain ⟨m,⟨o',es,ep,ho',hd',_⟩,_⟩:=I.loc;subst z;rw [e] at ho';cases ho'
  rw [d] at hd';cases hd'
 ·obtain ⟨v,o',ho',hd'⟩:=I.cell x c q;subst z;rw [e] at ho';cases ho'
  rw [d] at hd';cases hd'
theorem LQ {M:Model}{Q:Unit->Shared->Prop}{E:zV}(I:Inv X pins σ H s) (hst:X.stack=X.env::X.outer) (hfr:X.env.frame=some X.env.locals) (hpn:X.pn=[])
  (x:XE.Hq (Yg X.s₀.heap.objs.size H) a C dd fl s.heap) (hfl:fl=.none∨fl=rawInt X.env.locals)
  (h:∀s',Inv X [] σ H s'->XE.Hq (Yg X.s₀.heap.objs.size H) a C dd .none s'.heap->Q () s'):wpAny M X.A (leaving X.env (.ref a)) Q E s:=by
 have I0:Inv X [] σ H s:=I.xr λp hp=>absurd hp (by simp);have fr:X.A.frames=some (X.env::X.outer):=by rw [<-hst];exact I0.ok.frames
 have fu:s.heap.FunFrames X.base (X.env::X.outer):=by rw [<-hst];exact I0.stack
 have ff:∀b∈(X.env::X.outer).filterMap (·.frame),H b=none:=by rw [<-hst];exact I0.sJ
 have np:∀b:Addr,∀p∈X.pn++[],p.1≠b:=λb p hp=>by rw [hpn] at hp;exact absurd hp (by simp)
 unfold leaving;refine zAa (XE.note fr fu hfr (λb hb=>⟨zAB I0.sz hb,I0.hok.fresh hb⟩) x hfl λh1 ch x1 c1 r1=>?_);have I1:Inv X [] σ H { s with heap:=h1 }:=I0.call' rfl (by rw [hst];exact Cq c1 ff) (wk c1 ff (λb hb=>(r1 b hb).1.2) I0.hok) I0.bare (I0.recs r1 λb _=>np b);refine XE.unmark (s:={ s with heap:=h1 }) x1 λh2 ch2 x2 c2 r2 _=>?_;refine h _ ?_ x2;exact I1.call' rfl (by rw [hst];exact Cq (c2 _) ff) (wk (c2 _) ff (λb hb=>(r2 b hb).1.2) I1.hok) I1.bare (I1.recs r2 λb _=>np b)
end
def XW (X:Cx):XK:=λC dd H=>∀(pins:List (Addr×Obj)) (σ:St) (s:Shared) (a:Addr),Inv X pins σ H s->XE.Hq (λb=>Yg X.s₀.heap.objs.size H b/\∀p∈X.pn,p.1≠b) a C dd .none s.heap->X.xe (.ref a) s
theorem X5:Passes (Ar X.prog X.w) X (XW X):=λpins σ H s e s' I h=>by
 obtain ⟨a,C,dd,H',rfl,os,ba,un,hk,x,q⟩:=h;have I1:Inv X pins σ H' s':=I.call' os un hk ba λb hb=>absurd hb (by simp);refine q pins σ s' a I1 (x.imp λb hb=>⟨⟨zAB I.sz hb.1,hb.2⟩,λp hp z=>?_⟩);have:=zAe (I.pin p (zBe _ hp)).1;rw [z] at this;exact absurd (zAu this hb.1) (zAJ _)
theorem aaJ {A:Around}{E:XK}{H':Hp}
  (h:E C dd H'):XW (oM (Ar P w) P w K mg base N qual scope f cd A outer s H E) C dd H':=λpins σ s' a I x=>by
 refine LQ I rfl rfl rfl (x.imp λb hb=>hb.1) (.inl rfl) λs'' I2 x2=>?_;exact ⟨a,C,dd,H',rfl,I2.os,I2.bare,I2.base,I2.hok,x2,h⟩
theorem own1 {A:Around}{E:XK} :
  PassesOwn (model P w) (oM (Ar P w) P w K mg base N qual scope f cd A outer s H E).A (oM (Ar P w) P w K mg base N qual scope f cd A outer s H E).env (oM (Ar P w) P w K mg base N qual scope f cd A outer s H E).xe:=PassesOwn.leaving
end L2
namespace Y
open PySem L2
open Z (fG dI aZ dM bJ eZ cV bG lim cM bM)
variable {α β:Type}{K:zF}{m l m1:List Addr}{H H' H1:Hp}{S:aM}{a p:Addr}{v:V}{y:A}{X:Cx}{t t':TT}{tg:Expr}{vs:List V}{i:Int}{z:Str}{xs:List A}{c:dY}{ck:Ck}{kvs:List (Key×A)}{ws:List (Key×V)}
inductive A where
 |d (x:D)
 |p (k:Nat)
 |t (xs:List A)
 |k (v:V)
inductive dY where
 |lst (ds:List D)
 |gen (xs:List A)
 |dic (kvs:List (Key×A))
 |ins (C:Addr) (fs:List (Str×A))
  |frd (kvs:List (Key×A))
  |exc (C:Addr) (fs:List (Str×A))
abbrev aM:=List dY
abbrev dH:=List (Option A)
structure Exc where
 C:Addr
 fs:List (Str×A)
inductive R (α:Type) where
 |ok (x:α) (S:aM)
 |ex (e:Exc) (S:aM)
 |no
def R.bind {α β:Type}:R α->(α->aM->R β)->R β
 |.ok x S,f=>f x S
 |.ex e S,_=>.ex e S
 |.no,_=>.no
@[simp] theorem ao (x:α) (S:aM) (f:α->aM->R β):(R.ok x S).bind f=f x S:=rfl
@[simp] theorem yh (e:Exc) (S:aM) (f:α->aM->R β):(R.ex e S:R α).bind f=.ex e S:=rfl
@[simp] theorem aar (f:α->aM->R β):(R.no:R α).bind f=.no:=rfl
def opt {α:Type}(o:Option α) (S:aM):R α:=match o with
 |some x=>.ok x S
 |none=>.no
@[simp] theorem aR (x:α) (S:aM):opt (some x) S=.ok x S:=rfl
@[simp] theorem Zv (S:aM):opt (none:Option α) S=.no:=rfl
inductive uP where
 |nx (r:dH)
 |rt (v:A)
 |bk (r:dH)
 |ct (r:dH)
abbrev FE:=dH->aM->R A
abbrev FT:=dH->aM->R Bool
abbrev FA:=dH->aM->R (List A)
abbrev FL:=dH->aM->R (List D)
abbrev FS:=dH->aM->R uP
abbrev FF:=List A->aM->R A
mutual
def RA (K:zF) (m:List Addr) (H:Hp):A->V->Prop
 |.d x,v=>Rep K (fG m H) x v
 |.p k,v=>∃a,m[k]?=some a/\v=.ref a
 |.t xs,v=>∃a vs,v=.ref a/\iG K (fG m H) a vs/\bf K m H xs vs
 |.k u,v=>v=u
def bf (K:zF) (m:List Addr) (H:Hp):List A->List V->Prop
 |[],vs=>vs=[]
 |x::xs,vs=>∃v us,vs=v::us/\RA K m H x v/\bf K m H xs us
end
def RK {κ:Type}(K:zF) (m:List Addr) (H:Hp):List (κ×A)->List (κ×V)->Prop:=Paired λ(p:κ×A) (q:κ×V)=>p.1=q.1/\RA K m H p.2 q.2
def jg (K:zF) (m:List Addr) (H:Hp) (a:Addr):dY->Prop
 |.lst ds=>∃vs,H a=some (.lst vs)/\aD K (fG m H) ds vs
 |.gen xs=>∃vs,H a=some (.lst vs)/\bf K m H xs vs
 |.dic kvs=>∃ws,H a=some (.dK ws)/\RK K m H kvs ws
 |.ins C fs=>∃dx ws,H a=some (.ins C dx ws)/\RK K m H fs ws
 |.frd kvs=>∃ob ws,H a=some (.frz ob (.dK ws))/\RK K m H kvs ws
 |.exc C fs=>∃oe u vs,H a=some (.frz oe u)/\(oe.cls=.ref C/\oe.data=.fields vs/\vs[2]?=some .none)/\((fs=[]/\oe.dict=none)∨∃d ws,oe.dict=some d/\fG m H d=some (.xd ws)/\RK K m H fs ws)
structure Wd (K:zF) (m:List Addr) (S:aM) (H:Hp):Prop where
 len:m.length=S.length
 nd:m.Nodup
 cell:∀(k:Nat) (a:Addr) (c:dY),m[k]?=some a->S[k]?=some c->jg K m H a c
structure RS (K:zF) (m:List Addr) (H:Hp) (σ:St) (ρ:dH):Prop where
 len:σ.length=ρ.length
 at_:∀(i:Nat) x,ρ[i]?=some (some x)->∃v,σ[i]?=some (some v)/\RA K m H x v
structure Xt (m:List Addr) (H:Hp) (m':List Addr) (H':Hp):Prop where
 ex:∃l,m'=m++l
 sm:Same (fG m H) (fG m' H')
 fz:∀a ob u,H a=some (.frz ob u)->H' a=some (.frz ob u)
section
variable {K:zF}{m m' l:List Addr}{H H' H1 H2:Hp}{S S':aM}{a b p:Addr}{o:HO}{x y:A}{xs ys:List A}{v u:V}{vs us:List V}
theorem bf.nil:bf K m H [] []:=by unfold bf;rfl
theorem bf.cons (h:RA K m H x v) (t:bf K m H xs vs):bf K m H (x::xs) (v::vs):=by unfold bf;exact ⟨v,vs,rfl,h,t⟩
theorem bf.nil_inv (h:bf K m H [] vs):vs=[]:=by unfold bf at h;exact h
theorem bf.cons_inv (h:bf K m H (x::xs) vs):∃v us,vs=v::us/\RA K m H x v/\bf K m H xs us:=by unfold bf at h;exact h
theorem RA.cI {d:D}:RA K m H (.d d) v↔Rep K (fG m H) d v:=by unfold RA;exact Iff.rfl
theorem RA.fH {k:Nat}:RA K m H (.p k) v↔∃a,m[k]?=some a/\v=.ref a:=by unfold RA;exact Iff.rfl
theorem RA.yO:RA K m H (.t xs) v↔∃a vs,v=.ref a/\iG K (fG m H) a vs/\bf K m H xs vs:=by unfold RA;exact Iff.rfl
theorem bf.length:∀{xs:List A}{vs:List V},bf K m H xs vs->vs.length=xs.length
 |[],vs,h=>by rw [h.nil_inv];rfl
 |x::xs,vs,h=>by
  obtain ⟨v,us,rfl,_,h2⟩:=h.cons_inv;rw [zAv,zAv,bf.length h2]
theorem bf.get:∀{xs:List A}{vs:List V}{i:Nat}{x:A},bf K m H xs vs->xs[i]?=some x->∃v,vs[i]?=some v/\RA K m H x v
 |[],_,_,_,_,e=>by cases e
 |x'::xs,vs,i,x,h,e=>by
  obtain ⟨v,us,rfl,h1,h2⟩:=h.cons_inv;cases i with
  |zero=>cases e;exact ⟨v,rfl,h1⟩
  |succ i=>exact bf.get (i:=i) h2 (by simpa using e)
theorem bf.app:∀{xs ys:List A}{vs us:List V},bf K m H xs vs->bf K m H ys us->bf K m H (xs++ys) (vs++us)
 |[],_,_,_,h,t=>by rw [h.nil_inv];exact t
 |x::xs,_,_,_,h,t=>by
  obtain ⟨v,us,rfl,h1,h2⟩:=h.cons_inv;exact bf.cons h1 (bf.app h2 t)
mutual
theorem RA.sub (hm:∀(k:Nat) a,m[k]?=some a->m'[k]?=some a) (e:Same (fG m H) (fG m' H')):∀{x:A}{v:V},RA K m H x v->RA K m' H' x v
 |.d x,v,h=>by unfold RA at h ⊢;exact Rep.same e h
 |.p k,v,h=>by unfold RA at h ⊢;obtain ⟨a,ha,hv⟩:=h;exact ⟨a,hm k a ha,hv⟩
 |.t xs,v,h=>by unfold RA at h ⊢;obtain ⟨a,vs,e1,h1,h2⟩:=h;exact ⟨a,vs,e1,Same.tup e h1,bf.sub hm e h2⟩
 |.k u,v,h=>by unfold RA at h ⊢;exact h
theorem bf.sub (hm:∀(k:Nat) a,m[k]?=some a->m'[k]?=some a) (e:Same (fG m H) (fG m' H')):∀{xs:List A}{vs:List V},bf K m H xs vs->bf K m' H' xs vs
 |[],vs,h=>by unfold bf at h ⊢;exact h
 |x::xs,vs,h=>by
  unfold bf at h ⊢;obtain ⟨v,us,e1,h1,h2⟩:=h;exact ⟨v,us,e1,RA.sub hm e h1,bf.sub hm e h2⟩
end
theorem Xt.refl:Xt m H m H:=⟨⟨[],(zAO m).symm⟩,Same.refl _,λ_ _ _ h=>h⟩
theorem Xt.trans {m1 m2:List Addr}(a:Xt m H m1 H1) (b:Xt m1 H1 m2 H2):Xt m H m2 H2:=by
 obtain ⟨l1,rfl⟩:=a.ex;obtain ⟨l2,rfl⟩:=b.ex;exact ⟨⟨l1++l2,zAC ..⟩,a.sm.trans b.sm,λc ob u h=>b.fz c ob u (a.fz c ob u h)⟩
theorem Xt.at (e:Xt m H m' H') (k:Nat) (a:Addr) (h:m[k]?=some a):m'[k]?=some a:=by
 obtain ⟨l,rfl⟩:=e.ex;rw [zAj (List.getElem?_eq_some_iff.mp h).1];exact h
theorem RA.ext (e:Xt m H m' H') (h:RA K m H x v):RA K m' H' x v:=RA.sub e.at e.sm h
theorem bf.ext (e:Xt m H m' H') (h:bf K m H xs vs):bf K m' H' xs vs:=bf.sub e.at e.sm h
theorem RS.ext (e:Xt m H m' H') {σ:St}{ρ:dH}(h:RS K m H σ ρ):RS K m' H' σ ρ:=⟨h.len,λi x q=>let ⟨v,a,b⟩:=h.at_ i x q;⟨v,a,b.ext e⟩⟩
theorem RS.set {σ:St}{ρ:dH}(h:RS K m H σ ρ) {i:Nat}{x:A}{v:V}(r:RA K m H x v):RS K m H (σ.set i (some v)) (ρ.set i (some x)):=by
 refine ⟨by rw [zBa,zBa,h.len],λj y q=>?_⟩;by_cases e:i=j
 ·subst e;by_cases hi:i < ρ.length
  ·rw [zAR hi] at q;cases q
   exact ⟨v,zAR (by rw [h.len];exact hi),r⟩
  ·rw [zCg (by rw [zBa];omega)] at q;cases q
 ·rw [zAY e] at q;rw [zAY e];exact h.at_ j y q
theorem RK.sub {κ:Type}(hm:∀(k:Nat) a,m[k]?=some a->m'[k]?=some a) (e:Same (fG m H) (fG m' H')) {kvs:List (κ×A)}{ws:List (κ×V)}(h:RK K m H kvs ws):RK K m' H' kvs ws:=Paired.Pr h λ_ _ r=>⟨r.1,RA.sub hm e r.2⟩
theorem jg.sub {c:dY}(hm:∀(k:Nat) a,m[k]?=some a->m'[k]?=some a) (e:Same (fG m H) (fG m' H')) (ha:H' a=H a) (h:jg K m H a c):jg K m' H' a c:=by
 cases c with
 |lst ds=>obtain ⟨vs,h1,h2⟩:=h;exact ⟨vs,ha.trans h1,aD.same e h2⟩
 |gen xs=>obtain ⟨vs,h1,h2⟩:=h;exact ⟨vs,ha.trans h1,bf.sub hm e h2⟩
 |dic kvs=>obtain ⟨ws,h1,h2⟩:=h;exact ⟨ws,ha.trans h1,RK.sub hm e h2⟩
 |ins C fs=>obtain ⟨dx,ws,h1,h2⟩:=h;exact ⟨dx,ws,ha.trans h1,RK.sub hm e h2⟩
 |frd kvs=>obtain ⟨ob,ws,h1,h2⟩:=h;exact ⟨ob,ws,ha.trans h1,RK.sub hm e h2⟩
 |exc C fs=>obtain ⟨oe,u,vs,h1,h2,h3⟩:=h;exact ⟨oe,u,vs,ha.trans h1,h2,h3.imp id λ⟨d,ws,q1,q2,q3⟩=>⟨d,ws,q1,e _ _ q2,RK.sub hm e q3⟩⟩
theorem jg.some {c:dY}(h:jg K m H a c):∃o,H a=some o:=by
 cases c with
 |lst ds=>obtain ⟨vs,h1,_⟩:=h;exact ⟨_,h1⟩
 |gen xs=>obtain ⟨vs,h1,_⟩:=h;exact ⟨_,h1⟩
 |dic kvs=>obtain ⟨ws,h1,_⟩:=h;exact ⟨_,h1⟩
 |ins C fs=>obtain ⟨dx,ws,h1,_⟩:=h;exact ⟨_,h1⟩
 |frd kvs=>obtain ⟨ob,ws,h1,_⟩:=h;exact ⟨_,h1⟩
 |exc C fs=>obtain ⟨oe,u,vs,h1,_⟩:=h;exact ⟨_,h1⟩
theorem Wd.at (w:Wd K m S H) {k:Nat}(h:m[k]?=some a):∃c,S[k]?=some c/\jg K m H a c:=by
 have lt:k < S.length:=by rw [<-w.len];exact (List.getElem?_eq_some_iff.mp h).1
 exact ⟨S[k],zAc lt,w.cell k a _ h (zAc lt)⟩
theorem Wd.za (w:Wd K m S H) (h:H p=none):p∉m:=λhp=>by
 obtain ⟨k,hk⟩:=zAS hp;obtain ⟨c,_,q⟩:=w.at hk;obtain ⟨o,e⟩:=q.some;rw [h] at e;cases e
theorem Wd.new (w:Wd K m S H) (h:H p=none):Wd K m S (upd H p o):=by
 refine ⟨w.len,w.nd,λk a c h1 h2=>?_⟩;have q:=w.cell k a c h1 h2;obtain ⟨o',e⟩:=q.some;exact q.sub (λ_ _ z=>z) (cV h) (aA (aO e h))
theorem M6 (h:H p=none):∀a ob u,H a=some (.frz ob u)->upd H p o a=some (.frz ob u):=λa ob u q=>by rw [aA (aO q h)];exact q
theorem Xt.new (h:H p=none):Xt m H m (upd H p o):=⟨⟨[],(zAO m).symm⟩,cV h,M6 h⟩
theorem xW (k:Nat) (a:Addr) (h:m[k]?=some a):(m++l)[k]?=some a:=by
 rw [zAj (List.getElem?_eq_some_iff.mp h).1];exact h
theorem Wd.push (w:Wd K m S H) (h:H p=none) (hc:jg K (m++[p]) (upd H p o) p c):Wd K (m++[p]) (S++[c]) (upd H p o):=by
 refine ⟨by rw [zAy,zAy,w.len];rfl,?_,λk a c' h1 h2=>?_⟩
 ·rw [List.nodup_append];refine ⟨w.nd,by simp,λa ha b hb z=>?_⟩;have:b=p:=by simpa using hb
  subst this z;exact w.za h ha
 ·by_cases hk:k < m.length
  ·rw [zAj hk] at h1;rw [zAj (by rw [<-w.len];exact hk)] at h2;have q:=w.cell k a c' h1 h2;obtain ⟨o',e⟩:=q.some;exact q.sub xW (bG h) (aA (aO e h))
  ·have e:k=m.length:=by
    have:=(List.getElem?_eq_some_iff.mp h1).1;rw [zAy] at this;simp at this;omega
   subst e;rw [zAw (zAq _),zCc] at h1;rw [w.len,zAw (zAq _),zCc] at h2;cases h1;cases h2
   exact hc
theorem Xt.rG (h:H p=none):Xt m H (m++[p]) (upd H p o):=⟨⟨[p],rfl⟩,bG h,M6 h⟩
theorem jR (h:a∈m):Same (fG m H) (fG m (upd H a o)):=by rw [eZ h];exact Same.refl _
theorem Xt.upd (h:a∈m) (nf:∀ob u,H a≠some (.frz ob u)):Xt m H m (upd H a o):=⟨⟨[],(zAO m).symm⟩,jR h,λb ob u q=>by rw [aA λz=>by subst z;exact nf ob u q];exact q⟩
theorem Wd.Ae (w:Wd K m S H) (h:H p=none) {ds:List D}(r:aD K (fG m H) ds vs):Wd K (m++[p]) (S++[.lst ds]) (upd H p (.lst vs)):=w.push h ⟨vs,aJ,aD.same (bG h) r⟩
theorem Wd.uf (w:Wd K m S H) (h:H p=none) (r:bf K m H xs vs):Wd K (m++[p]) (S++[.gen xs]) (upd H p (.lst vs)):=w.push h ⟨vs,aJ,bf.ext (Xt.rG h) r⟩
theorem Wd.qb (w:Wd K m S H) (h:H p=none) (r:RK K m H kvs ws):Wd K (m++[p]) (S++[.dic kvs]) (upd H p (.dK ws)):=w.push h ⟨ws,aJ,RK.sub xW (bG h) r⟩
theorem Wd.set (w:Wd K m S H) {k:Nat}{a:Addr}(h1:m[k]?=some a) {c:dY}(hc:jg K m (upd H a o) a c):Wd K m (S.set k c) (upd H a o):=by
 refine ⟨by rw [zBa];exact w.len,w.nd,λj b c' q1 q2=>?_⟩;by_cases e:k=j
 ·subst e;rw [h1] at q1;cases q1
  have lt:k < S.length:=by rw [<-w.len];exact (List.getElem?_eq_some_iff.mp h1).1
  rw [zAR lt] at q2;cases q2
  exact hc
 ·rw [zAY e] at q2;refine (w.cell j b c' q1 q2).sub (λ_ _ z=>z) (jR (zAh h1)) ?_;rw [aA λz=>?_];subst z;exact e ((zBy (List.getElem?_eq_some_iff.mp h1).1 w.nd).mp (h1.trans q1.symm))
theorem Wd.Qk (w:Wd K m S H) {k:Nat}(h1:m[k]?=some a) {ds:List D}(r:aD K (fG m H) ds vs):Wd K m (S.set k (.lst ds)) (upd H a (.lst vs)):=w.set h1 ⟨vs,aJ,aD.same (jR (zAh h1)) r⟩
theorem Wd.Nu (w:Wd K m S H) {k:Nat}(h1:m[k]?=some a) (r:bf K m H xs vs):Wd K m (S.set k (.gen xs)) (upd H a (.lst vs)):=w.set h1 ⟨vs,aJ,bf.sub (λ_ _ z=>z) (jR (zAh h1)) r⟩
theorem Wd.pU (w:Wd K m S H) {k:Nat}(h1:m[k]?=some a) (r:RK K m H kvs ws):Wd K m (S.set k (.dic kvs)) (upd H a (.dK ws)):=w.set h1 ⟨ws,aJ,RK.sub (λ_ _ z=>z) (jR (zAh h1)) r⟩
theorem Wd.Ot (w:Wd K m S H) {k:Nat}(h1:m[k]?=some a) {C dx:Addr}{fs:List (Str×A)}{ws:List (Str×V)}(r:RK K m H fs ws):Wd K m (S.set k (.ins C fs)) (upd H a (.ins C dx ws)):=w.set h1 ⟨dx,ws,aJ,RK.sub (λ_ _ z=>z) (jR (zAh h1)) r⟩
end
mutual
def A.lt (n:Nat):A->Bool
 |.d _=>true
 |.p i=>decide (i < n)
 |.t xs=>A.yw n xs
 |.k _=>true
def A.yw (n:Nat):List A->Bool
 |[]=>true
 |x::xs=>A.lt n x&&A.yw n xs
end
def dY.lt (n:Nat):dY->Bool
 |.lst _=>true
 |.gen xs=>A.yw n xs
 |.dic kvs=>kvs.all λp=>p.2.lt n
 |.ins _ fs=>fs.all λp=>p.2.lt n
 |.frd kvs=>kvs.all λp=>p.2.lt n
 |.exc _ fs=>fs.all λp=>p.2.lt n
section
variable {S':aM}
mutual
theorem RA.lt:∀{x:A}{v:V},RA K m H x v->x.lt m.length=true
 |.d x,v,h=>by unfold A.lt;rfl
 |.p k,v,h=>by
  unfold RA at h;unfold A.lt;obtain ⟨a,ha,_⟩:=h;exact decide_eq_true (List.getElem?_eq_some_iff.mp ha).1
 |.t xs,v,h=>by
  unfold RA at h;unfold A.lt;obtain ⟨a,vs,_,_,h2⟩:=h;exact bf.yw h2
 |.k u,v,h=>by unfold A.lt;rfl
theorem bf.yw:∀{xs:List A}{vs:List V},bf K m H xs vs->A.yw m.length xs=true
 |[],vs,h=>by unfold A.yw;rfl
 |x::xs,vs,h=>by
  unfold bf at h;unfold A.yw;obtain ⟨v,us,_,h1,h2⟩:=h;rw [RA.lt h1,bf.yw h2];rfl
end
mutual
theorem RA.cut:∀{x:A}{v:V},x.lt m.length=true->RA K (m++l) H x v->RA K m H x v
 |.d x,v,_,h=>by unfold RA at h ⊢;exact Rep.same bJ h
 |.p k,v,hl,h=>by
  unfold RA at h ⊢;unfold A.lt at hl;obtain ⟨a,ha,hv⟩:=h;rw [zAj (of_decide_eq_true hl)] at ha;exact ⟨a,ha,hv⟩
 |.t xs,v,hl,h=>by
  unfold RA at h ⊢;unfold A.lt at hl;obtain ⟨a,vs,e1,h1,h2⟩:=h;exact ⟨a,vs,e1,Same.tup bJ h1,bf.cut hl h2⟩
 |.k u,v,_,h=>by unfold RA at h ⊢;exact h
theorem bf.cut:∀{xs:List A}{vs:List V},A.yw m.length xs=true->bf K (m++l) H xs vs->bf K m H xs vs
 |[],vs,_,h=>by unfold bf at h ⊢;exact h
 |x::xs,vs,hl,h=>by
  unfold bf at h ⊢;unfold A.yw at hl;obtain ⟨v,us,e1,h1,h2⟩:=h;rw [zAE] at hl;exact ⟨v,us,e1,RA.cut hl.1 h1,bf.cut hl.2 h2⟩
end
theorem RK.yw {κ:Type}:∀{kvs:List (κ×A)}{ws:List (κ×V)},RK K m H kvs ws->(kvs.all λp=>p.2.lt m.length)=true
 |_,_,.nil=>rfl
 |_,_,.cons r t=>by rw [zBY,RA.lt r.2,RK.yw t];rfl
theorem RK.cut {κ:Type}:∀{kvs:List (κ×A)}{ws:List (κ×V)},(kvs.all λp=>p.2.lt m.length)=true->RK K (m++l) H kvs ws->RK K m H kvs ws
 |_,_,_,.nil=>.nil
 |_,_,hl,.cons r t=>by
  rw [zBY,zAE] at hl;exact .cons ⟨r.1,RA.cut hl.1 r.2⟩ (RK.cut hl.2 t)
theorem jg.lt {c:dY}(h:jg K m H a c):c.lt m.length=true:=by
 cases c with
 |lst ds=>rfl
 |gen xs=>obtain ⟨vs,_,h2⟩:=h;exact bf.yw h2
 |dic kvs=>obtain ⟨ws,_,h2⟩:=h;exact RK.yw h2
 |ins C fs=>obtain ⟨dx,ws,_,h2⟩:=h;exact RK.yw h2
 |frd kvs=>obtain ⟨ob,ws,_,h2⟩:=h;exact RK.yw h2
 |exc C fs=>
  obtain ⟨oe,u,vs,_,_,h3⟩:=h;rcases h3 with ⟨rfl,_⟩ | ⟨d,ws,_,_,q3⟩
  ·rfl
  ·exact RK.yw q3
theorem jg.cut {c:dY}(hl:c.lt m.length=true) (h:jg K (m++l) H a c):jg K m H a c:=by
 cases c with
 |lst ds=>obtain ⟨vs,h1,h2⟩:=h;exact ⟨vs,h1,aD.same bJ h2⟩
 |gen xs=>obtain ⟨vs,h1,h2⟩:=h;exact ⟨vs,h1,bf.cut hl h2⟩
 |dic kvs=>obtain ⟨ws,h1,h2⟩:=h;exact ⟨ws,h1,RK.cut hl h2⟩
 |ins C fs=>obtain ⟨dx,ws,h1,h2⟩:=h;exact ⟨dx,ws,h1,RK.cut hl h2⟩
 |frd kvs=>obtain ⟨ob,ws,h1,h2⟩:=h;exact ⟨ob,ws,h1,RK.cut hl h2⟩
 |exc C fs=>obtain ⟨oe,u,vs,h1,h2,h3⟩:=h;exact ⟨oe,u,vs,h1,h2,h3.imp id λ⟨d,ws,q1,q2,q3⟩=>⟨d,ws,q1,bJ _ _ q2,RK.cut hl q3⟩⟩
def Oh (S S':aM):Prop:=S.length<=S'.length/\∀k,k < S.length->S'[k]?=S[k]?∨∃c,S'[k]?=some c/\c.lt S.length=true
theorem Oh.pre {T:aM}:Oh S (S++T):=⟨by rw [zAy];omega,λk hk=>.inl (zAj hk)⟩
theorem Wd.cut (w0:Wd K m S H) (w:Wd K (m++l) S' H') (ok:Oh S S'):Wd K m (S'.take S.length) H':=by
 have lt:(S'.take S.length).length=S.length:=by rw [zAW];have:=ok.1;omega
 refine ⟨w0.len.trans lt.symm,(List.nodup_append.mp w.nd).1,λk a c h1 h2=>?_⟩;have hk:k < S.length:=by rw [<-w0.len];exact (List.getElem?_eq_some_iff.mp h1).1
 rw [zBg hk] at h2;have q:=w.cell k a c (xW k a h1) h2;refine q.cut ?_;rcases ok.2 k hk with e | ⟨c',e,hc⟩
 ·rw [e] at h2;exact (w0.cell k a c h1 h2).lt
 ·rw [e] at h2;cases h2
  rw [w0.len];exact hc
end
mutual
def A.rd (n:Nat) (S:aM):Nat->A->Option D
 |_,.d x=>some x
 |_,.k _=>none
 |0,_=>none
 |f+1,.p i=>if i < n then none else match S[i]? with
  |some (.lst ds)=>some (.lst ds)
  |some (.gen xs)=>(A.CV n S f xs).map .lst
  |_=>none
 |f+1,.t xs=>(A.CV n S f xs).map .tup
def A.CV (n:Nat) (S:aM):Nat->List A->Option (List D)
 |_,[]=>some []
 |0,_=>none
 |f+1,x::xs=>match A.rd n S f x,A.CV n S f xs with
  |some z,some ds=>some (z::ds)
  |_,_=>none
end
def fuel:Nat:=200
def A.get (S:aM) (x:A):Option D:=A.rd 0 S fuel x
@[simp] theorem qY (S:aM) (x:D):A.get S (.d x)=some x:=by unfold A.get fuel A.rd;rfl
theorem KZ (S:aM) (k:Nat) (ds:List D) (h:S[k]?=some (.lst ds)):A.get S (.p k)=some (.lst ds):=by
 unfold A.get fuel A.rd;rw [if_neg (by omega),h]
theorem Lx (w:Wd K (m++l) S H):∀(f:Nat),(∀(x:A) (v:V) (d:D),RA K (m++l) H x v->A.rd m.length S f x=some d->Rep K (fG m H) d v) /\
  (∀(xs:List A) (vs:List V) (ds:List D),bf K (m++l) H xs vs->A.CV m.length S f xs=some ds->aD K (fG m H) ds vs):=by
 intro f;induction f with
 |zero=>
  refine ⟨λx v d h e=>?_,λxs vs ds h e=>?_⟩
  ·cases x with
   |d y=>unfold A.rd at e;cases e;unfold RA at h;exact Rep.same bJ h
   |p k=>unfold A.rd at e;cases e
   |t xs=>unfold A.rd at e;cases e
   |k u=>unfold A.rd at e;cases e
  ·cases xs with
   |nil=>unfold A.CV at e;cases e;rw [h.nil_inv];exact Z.aD.nil
   |cons x xs=>unfold A.CV at e;cases e
 |succ f ih=>
  refine ⟨λx v d h e=>?_,λxs vs ds h e=>?_⟩
  ·cases x with
   |d y=>unfold A.rd at e;cases e;unfold RA at h;exact Rep.same bJ h
   |k u=>unfold A.rd at e;cases e
   |p k=>
    unfold A.rd at e;unfold RA at h;obtain ⟨a,ha,rfl⟩:=h;split at e
    ·cases e
    ·rename_i hk;have am:a∉m:=λhm=>by
      rw [zAw (by omega)] at ha;exact (List.nodup_append.mp w.nd).2.2 a hm a (zAh ha) rfl
     split at e
     ·rename_i ds hs;cases e
      obtain ⟨vs,h1,h2⟩:=w.cell k a _ ha hs;unfold Rep;exact ⟨a,vs,rfl,cB.of (by rw [aZ am];exact h1),aD.same bJ h2⟩
     ·rename_i xs hs;obtain ⟨vs,h1,h2⟩:=w.cell k a _ ha hs;obtain ⟨ds,hd,rfl⟩:=Option.map_eq_some_iff.mp e;unfold Rep;exact ⟨a,vs,rfl,cB.of (by rw [aZ am];exact h1),ih.2 xs vs ds h2 hd⟩
     ·cases e
   |t xs=>
    unfold A.rd at e;unfold RA at h;obtain ⟨a,vs,rfl,h1,h2⟩:=h;obtain ⟨ds,hd,rfl⟩:=Option.map_eq_some_iff.mp e;unfold Rep;exact ⟨a,vs,rfl,Same.tup bJ h1,ih.2 xs vs ds h2 hd⟩
  ·cases xs with
   |nil=>unfold A.CV at e;cases e;rw [h.nil_inv];exact Z.aD.nil
   |cons x xs=>
    unfold A.CV at e;obtain ⟨v,us,rfl,h1,h2⟩:=h.cons_inv;split at e
    ·rename_i d ds e1 e2;cases e
     exact Z.aD.cons (ih.1 x v d h1 e1) (ih.2 xs us ds h2 e2)
    ·cases e
theorem RA.rep (w:Wd K m S H) {x:A}{d:D}(r:RA K m H x v) (e:A.get S x=some d):Rep K H d v:=by
 have:=(Lx (m:=[]) (l:=m) w fuel).1 x v d r e;rw [Z.E_] at this;exact this
def fin (n:Nat) (S:aM) (x:A):Option A:=if x.lt n=true then some x else (A.rd n S fuel x).map .d
@[simp] theorem Yj (n:Nat) (S:aM) (x:D):fin n S (.d x)=some (.d x):=by unfold fin A.lt;simp
theorem VD (w:Wd K (m++l) S H) {x:A}(r:RA K (m++l) H x v) (e:fin m.length S x=some y):RA K m H y v:=by
 unfold fin at e;split at e
 ·rename_i h;cases e;exact RA.cut h r
 ·obtain ⟨d,hd,rfl⟩:=Option.map_eq_some_iff.mp e;unfold RA;exact (Lx w fuel).1 x v d r hd
def RD (K:zF) (m:List Addr) (H:Hp) (e:Exc) (C:Value) (dd:Option Addr):Prop:=C=.ref e.C/\((e.fs=[]/\dd=none)∨∃d ws,dd=some d/\fG m H d=some (.xd ws)/\RK K m H e.fs ws)
def Gh (X:Cx) (m:List Addr) (H:Hp) (e:Exc) (S:aM):Prop:=∀(C:Value) (dd:Option Addr) (H':Hp) (m':List Addr),Xt m H m' H'->Wd X.K m' S H'->RD X.K m' H' e C dd->XW X C dd H'
def Res {α:Type}(X:Cx) (m:List Addr) (H:Hp) (r:R α) (q:α->aM->Prop):Prop:=match r with
 |.ok x S=>q x S
 |.ex e S=>Gh X m H e S
 |.no=>False
section
variable {m':List Addr}{r:R α}{q q':α->aM->Prop}
theorem Gh.step {e:Exc}(x:Xt m H m' H') (h:Gh X m H e S):Gh X m' H' e S:=λC dd H2 m2 x2 w eo=>h C dd H2 m2 (x.trans x2) w eo
theorem Res.step (x:Xt m H m' H') (h:Res X m H r q):Res X m' H' r q:=by
 cases r with
 |ok a S=>exact h
 |ex e S=>exact Gh.step x h
 |no=>exact h
theorem Res.imp (h:Res X m H r q) (f:∀a S,q a S->q' a S):Res X m H r q':=by
 cases r with
 |ok a S=>exact f a S h
 |ex e S=>exact h
 |no=>exact h
theorem Res.bind {f:α->aM->R β}{q:β->aM->Prop}(h:Res X m H (r.bind f) q):Res X m H r λa S=>Res X m H (f a S) q:=by
 cases r with
 |ok a S=>exact h
 |ex e S=>exact h
 |no=>exact h
theorem Res.opt {o:Option α}{S:aM}(h:Res X m H (opt o S) q):∃a,o=some a/\q a S:=by
 cases o with
 |some a=>exact ⟨a,rfl,h⟩
 |none=>exact False.elim h
end
def tF (X:Cx) (f:FE):TE:=λσ H Q=>∃ρ S m,RS X.K m H σ ρ/\Wd X.K m S H/\Res X m H (f ρ S) λx S'=>∀v H' m',Xt m H m' H'->Wd X.K m' S' H'->RA X.K m' H' x v->Q v H'
def tFT (X:Cx) (f:FT):TT:=λσ H Q=>∃ρ S m,RS X.K m H σ ρ/\Wd X.K m S H/\Res X m H (f ρ S) λb S'=>∀H' m',Xt m H m' H'->Wd X.K m' S' H'->Q b H'
def TQ (X:Cx) (f:FA):TA:=λσ H Q=>∃ρ S m,RS X.K m H σ ρ/\Wd X.K m S H/\Res X m H (f ρ S) λxs S'=>∀vs H' m',Xt m H m' H'->Wd X.K m' S' H'->bf X.K m' H' xs vs->Q vs H'
def tFL (X:Cx) (f:FL):TE:=λσ H Q=>∃ρ S m,RS X.K m H σ ρ/\Wd X.K m S H/\Res X m H (f ρ S) λds S'=>∀p vs H' m',Xt m H m' H'->Wd X.K m' S' H'->H' p=none->aD X.K (fG m' H') ds vs->Q (.ref p) (upd H' p (.lst vs))
abbrev QE (X:Cx) (e:Expr) (f:FE):Prop:=PE X e (tF X f)
abbrev QT (X:Cx) (e:Expr) (f:FT):Prop:=PT X e (tFT X f)
abbrev QW (X:Cx) (e:Expr) (f:FT):Prop:=PW X e (tFT X f)
abbrev QA (X:Cx) (es:List Expr) (f:FA):Prop:=PA X es (TQ X f)
abbrev QL (X:Cx) (e:Expr) (f:FL):Prop:=PE X e (tFL X f)
section
variable {e:Expr}{es:List Expr}
theorem lM {t t':TE}(h:PE X e t) (i:∀σ H Q,t' σ H Q->t σ H Q):PE X e t':=λpins s σ H Q I q=>h pins s σ H Q I (i σ H Q q)
theorem imT (h:PT X e t) (i:∀σ H Q,t' σ H Q->t σ H Q):PT X e t':=λpins s σ H Q I q=>h pins s σ H Q I (i σ H Q q)
theorem imW (h:PW X e t) (i:∀σ H Q,t' σ H Q->t σ H Q):PW X e t':=λwh pins s σ H Q I q=>h wh pins s σ H Q I (i σ H Q q)
theorem imA {t t':TA}(h:PA X es t) (i:∀σ H Q,t' σ H Q->t σ H Q):PA X es t':=λpos pins s σ H Q I q=>h pos pins s σ H Q I (i σ H Q q)
theorem CJ {st:Stmt}{t t':TS}(h:PS X st t) (i:∀D σ H,t' D σ H->t D σ H):PS X st t':=λpins s σ H D I q=>h pins s σ H D I (i D σ H q)
theorem Z1 {st:List Stmt}{t t':TS}(h:rW X st t) (i:∀D σ H,t' D σ H->t D σ H):rW X st t':=λpins s σ H D I q=>h pins s σ H D I (i D σ H q)
theorem imG {t t':TG}(h:PG X e t) (i:∀v σ H Q,t' v σ H Q->t v σ H Q):PG X e t':=λpins s σ H v u Q I r q=>h pins s σ H v u Q I r (i v σ H Q q)
theorem Zh {t t':PL}(h:Td X es t) (i:∀v σ H Q,t' v σ H Q->t v σ H Q):Td X es t':=λpins s σ H v u Q I r q=>h pins s σ H v u Q I r (i v σ H Q q)
theorem Zj {t t':TI}(h:PI X tg e t) (i:∀σ H R,t' σ H R->t σ H R):PI X tg e t':=λpins s σ H R I q=>h pins s σ H R I (i σ H R q)
theorem imO {e:Option Expr}{t t':TO}(h:PO X e t) (i:∀σ H Q,t' σ H Q->t σ H Q):PO X e t':=λpins s σ H Q I q=>h pins s σ H Q I (i σ H Q q)
theorem Zi (h:H9 X es t) (i:∀σ H Q,t' σ H Q->t σ H Q):H9 X es t':=λpins s σ H Q I q=>h pins s σ H Q I (i σ H Q q)
end
@[simp] def A.sh (S:aM):A->Option D
 |.d x=>some x
 |.p i=>match S[i]? with
  |some (.lst ds)=>some (.lst ds)
  |_=>none
 |.t _=>none
 |.k _=>none
section
variable {x:A}{d:D}{ds:List D}
theorem Yq {k:Nat}(e:A.sh S (.p k)=some d):∃ds,S[k]?=some (.lst ds)/\d=.lst ds:=by
 have e':(match S[k]? with | some (.lst ds)=>some (D.lst ds) | _=>none)=some d:=e;split at e'
 ·rename_i ds h;cases e';exact ⟨ds,h,rfl⟩
 ·cases e'
theorem cB.pY (h:cB K (fG m H) a vs):cB K H a vs:=Same.seq dM h
theorem iG.pY (h:iG K (fG m H) a vs):iG K H a vs:=Same.tup dM h
theorem jO (w:Wd K m S H) (r:RA K m H x v) (e:A.sh S x=some (.lst ds)):∃a vs,v=.ref a/\cB K H a vs/\aD K (fG m H) ds vs:=by
 cases x with
 |d y=>
  cases e
  have r2:=RA.cI.mp r;unfold Rep at r2;obtain ⟨a,vs,e,q,q2⟩:=r2;exact ⟨a,vs,e,cB.pY q,q2⟩
 |t y=>cases e
 |k y=>cases e
 |p k=>
  obtain ⟨a,ha,rfl⟩:=RA.fH.mp r;obtain ⟨es,hd,z⟩:=Yq e;cases z
  obtain ⟨vs,e,q⟩:=w.cell k a _ ha hd;exact ⟨a,vs,rfl,cB.of e,q⟩
theorem Il (e:A.sh S x=some d) (h:∀es,d≠.lst es):x=.d d:=by
 cases x with
 |d y=>cases e;rfl
 |t y=>cases e
 |k y=>cases e
 |p k=>obtain ⟨es,_,z⟩:=Yq e;exact absurd z (h es)
theorem Lb (r:RA K m H x v) (e:A.sh S x=some (.tup ds)):x=.d (.tup ds)/\∃a vs,v=.ref a/\iG K H a vs/\aD K (fG m H) ds vs:=by
 have e':=Il e (λ_ z=>by cases z);subst e';have r2:=RA.cI.mp r;unfold Rep at r2;obtain ⟨a,vs,e,q,q2⟩:=r2;exact ⟨rfl,a,vs,e,iG.pY q,q2⟩
theorem dw (r:RA K m H (.d (.int i)) v):v=.int i:=by have r2:=RA.cI.mp r;unfold Rep at r2;exact r2
theorem jJ (r:RA K m H (.d (.str z)) v):v=.str z:=by have r2:=RA.cI.mp r;unfold Rep at r2;exact r2
theorem Lf {k:Bool}(r:RA K m H (.d (.bl k)) v):v=.bl k:=by have r2:=RA.cI.mp r;unfold Rep at r2;exact r2
theorem QB (r:RA K m H (.d .non) v):v=.non:=by have r2:=RA.cI.mp r;unfold Rep at r2;exact r2
theorem eY:RA K m H (.d (.int i)) (.int i):=by rw [RA.cI];unfold Rep;rfl
theorem nj:RA K m H (.d (.str z)) (.str z):=by rw [RA.cI];unfold Rep;rfl
theorem iC {k:Bool}:RA K m H (.d (.bl k)) (.bl k):=by rw [RA.cI];unfold Rep;rfl
theorem k_:RA K m H (.d .non) .non:=by rw [RA.cI];unfold Rep;rfl
theorem O6 (w:Wd K m S H) (h:H p=none) (r:aD K (fG m H) ds vs):RA K m (upd H p (.tup vs)) (.d (.tup ds)) (.ref p):=by
 rw [RA.cI];unfold Rep;exact ⟨p,vs,rfl,iG.of (by rw [aZ (w.za h)];exact aJ),aD.same (cV h) r⟩
theorem rM (w:Wd K m S H) (h:H p=none) (r:aD K (fG m H) ds vs):RA K m (upd H p (.lst vs)) (.d (.lst ds)) (.ref p):=by
 rw [RA.cI];unfold Rep;exact ⟨p,vs,rfl,cB.of (by rw [aZ (w.za h)];exact aJ),aD.same (cV h) r⟩
theorem Yt (w:Wd K m S H) (h:H p=none) (r:bf K m H xs vs):RA K m (upd H p (.tup vs)) (.t xs) (.ref p):=by
 rw [RA.yO];exact ⟨p,vs,rfl,iG.of (by rw [aZ (w.za h)];exact aJ),bf.ext (Xt.new h) r⟩
end
section
variable {X:Cx}{e a b c:Expr}{es:List Expr}{f g h:FE}{pos:Pos}
def var (i:Nat):FE:=λρ S=>match ρ[i]? with
 |some (some x)=>.ok x S
 |_=>.no
def cst (x:D):FE:=λ_ S=>.ok (.d x) S
def aaE (x:A):FE:=λ_ S=>.ok x S
theorem WT {i:Nat}(h:PE X e (Ld i)):QE X e (var i):=lM h λσ H Q q=>by
 obtain ⟨ρ,S,m,Rr,W,q⟩:=q;unfold var at q;split at q
 ·rename_i y hy;obtain ⟨v,hv,r⟩:=Rr.at_ i _ hy;exact ⟨v,hv,q v H m Xt.refl W r⟩
 ·exact q.elim
theorem Nv {x:A}(h:PE X e (tC v)) (hr:∀m H,RA X.K m H x v):QE X e (aaE x):=lM h λσ H Q q=>by
 obtain ⟨ρ,S,m,Rr,W,q⟩:=q;exact q v H m Xt.refl W (hr m H)
theorem oF {x:D}(h:PE X e (tC v)) (hr:∀m H,RA X.K m H (.d x) v):QE X e (cst x):=Nv h hr
theorem aF {j pos}:QE X (.Constant (.int i) j pos) (cst (.int i)):=oF WQ λ_ _=>eY
theorem lH {b:Bool}{j pos}:QE X (.Constant (.bool b) j pos) (cst (.bl b)):=oF ZJ λ_ _=>iC
theorem Wv {j pos}:QE X (.Constant .none j pos) (cst .non):=oF Wr λ_ _=>k_
theorem bA {x:Str}{j pos}:QE X (.Constant (.str x) j pos) (cst (.str x)):=oF S7 λ_ _=>nj
theorem qv (i:Nat) {x:Str}(hN:X.N[i]?=some x:=by rfl) (hv:Zc X.env.scope x:=by first | exact Or.inl rfl | exact Or.inr (Or.inl rfl) | exact Or.inr (Or.inr rfl)) (hd:(x==("__debug__" : Str))=false:=by decide)
  (hcd:(x==("__classdict__" : Str))=false:=by decide):QE X (.Name x pos) (var i):=WT (La hN hv hd hcd)
abbrev O2:=A->A->aM->R A
def xP (K:zF) (m:List Addr) (H:Hp) (Q:VK) (z:A) (S:aM):Prop:=∀t H' m',Xt m H m' H'->Wd K m' S H'->RA K m' H' z t->Q t H'
theorem xP.step {m':List Addr}{Q:VK}{z:A}(x:Xt m H m' H') (h:xP K m H Q z S):xP K m' H' Q z S:=λt H2 m2 x2 w r=>h t H2 m2 (x.trans x2) w r
def oY (X:Cx) (r:R2) (o:O2):Prop:=∀{m:List Addr}{S:aM}{H:Hp}{x y:A}{v u:V}{Q:VK},Wd X.K m S H->RA X.K m H x v->RA X.K m H y u->Res X m H (o x y S) (xP X.K m H Q)->r v u H Q
def bin (o:O2) (f g:FE):FE:=λρ S=>(f ρ S).bind λx S=>(g ρ S).bind λy S=>o x y S
theorem wQ {r:R2}{o:O2}(hf:oY X r o):∀σ H Q,tF X (bin o f g) σ H Q->Xi r (tF X f) (tF X g) σ H Q:=by
 rintro σ H Q ⟨ρ,S,m,Rr,W,q⟩;refine ⟨ρ,S,m,Rr,W,q.bind.imp λx S1 q v H1 m1 x1 w1 r1=>⟨ρ,S1,m1,Rr.ext x1,w1,(q.step x1).bind.imp λy S2 q u H2 m2 x2 w2 r2=>?_⟩⟩;exact hf w2 (r1.ext x2) r2 ((q.step x2).imp λz S3 q=>xP.step (x1.trans x2) q)
theorem yP {op:Operator}{r:R2}{o:O2}(ho:lN X (binaryOp op) r) (hf:oY X r o) (ha:QE X a f) (hb:QE X b g):QE X (.BinOp a op b pos) (bin o f g):=lM (Kw ho ha hb) (wQ hf)
theorem Jt {op:CmpOp}{r:R2}{o:O2}(ho:lN X (compareOp op) r) (hf:oY X r o) (ha:QE X a f) (hb:QE X b g) (hm:behindInMarks op b=false):QE X (.Compare a [op] [b] pos) (bin o f g):=lM (Oz ho ha hb hm) (wQ hf)
theorem Ro {r:R2}{o:O2}(hr:H_ X r) (hf:oY X r o) (ha:QE X a f) (hb:QE X b g) (hs:rK b):QE X (.Subscript a b pos) (bin o f g):=lM (Yi hr ha hb hs) (wQ hf)
def bZ (f:FE):FT:=λρ S=>(f ρ S).bind λx S=>match x with
 |.d (.bl b)=>.ok b S
 |_=>.no
theorem Wn:∀σ H Q,tFT X (bZ f) σ H Q->Em (tF X f) σ H Q:=by
 rintro σ H Q ⟨ρ,S,m,Rr,W,q⟩;refine ⟨ρ,S,m,Rr,W,q.bind.imp λx S1 q v H1 m1 x1 w1 r1=>?_⟩;split at q
 ·exact ⟨_,Lf r1,q H1 m1 x1 w1⟩
 ·exact q.elim
theorem Cg {t t':TE}(h:∀σ H Q,t σ H Q->t' σ H Q):∀σ H Q,Em t σ H Q->Em t' σ H Q:=λσ H Q q=>h σ H _ q
theorem jq {op:CmpOp}{r:R2}{o:O2}(ho:lN X (compareOp op) r) (hf:oY X r o) (ha:QE X a f) (hb:QE X b g) (hm:behindInMarks op b=false):QT X (.Compare a [op] [b] pos) (bZ (bin o f g)):=
 imT (Qa ho ha hb hm) λσ H Q q=>Cg (wQ hf) σ H Q (Wn σ H Q q)
abbrev O1:=A->aM->R A
def V1 (X:Cx) (r:V->Hp->VK->Prop) (o:O1):Prop:=∀{m:List Addr}{S:aM}{H:Hp}{x:A}{v:V}{Q:VK},Wd X.K m S H->RA X.K m H x v->Res X m H (o x S) (xP X.K m H Q)->r v H Q
def un (o:O1) (f:FE):FE:=λρ S=>(f ρ S).bind o
theorem Wx {r:V->Hp->VK->Prop}{o:O1}(hf:V1 X r o):∀σ H Q,tF X (un o f) σ H Q->tUn r (tF X f) σ H Q:=by
 rintro σ H Q ⟨ρ,S,m,Rr,W,q⟩;exact ⟨ρ,S,m,Rr,W,q.bind.imp λx S1 q v H1 m1 x1 w1 r1=>hf w1 r1 ((q.step x1).imp λz S2 q=>xP.step x1 q)⟩
theorem XJ {op:UnaryOp}{r:V->Hp->VK->Prop}{o:O1}(ho:UnR X (unaryOp op) r) (hf:V1 X r o) (ha:QE X a f):QE X (.UnaryOp op a pos) (un o f):=lM (YF ho ha) (Wx hf)
def Bd (f g:FT):FT:=λρ S=>(f ρ S).bind λb S=>if b=true then g ρ S else .ok false S
def yN (f g:FT):FT:=λρ S=>(f ρ S).bind λb S=>if b=true then .ok true S else g ρ S
def lD (f:FT):FT:=λρ S=>(f ρ S).bind λb S=>.ok (!b) S
variable {tf tg:FT}{b':Expr}{rest:List Expr}
theorem yr (ha:QT X a tf):QW X (.BoolOp .And [a] pos) tf:=NQ ha
theorem oR (ha:QT X a tf):QW X (.BoolOp .Or [a] pos) tf:=Vp ha
theorem Cr (ha:QT X a tf) (hb:QW X (.BoolOp .And (b::rest) pos) tg):QW X (.BoolOp .And (a::b::rest) pos) (Bd tf tg):=imW (Xf ha hb) λσ H Q q=>by
 obtain ⟨ρ,S,m,Rr,W,q⟩:=q;refine ⟨ρ,S,m,Rr,W,q.bind.imp λk S1 q H1 m1 x1 w1=>?_⟩;cases k with
 |true=>exact yS ⟨ρ,S1,m1,Rr.ext x1,w1,(q.step x1).imp λk S2 q H2 m2 x2 w2=>q H2 m2 (x1.trans x2) w2⟩
 |false=>exact z9 (q H1 m1 x1 w1)
theorem lE (ha:QT X a tf) (hb:QW X (.BoolOp .Or (b::rest) pos) tg):QW X (.BoolOp .Or (a::b::rest) pos) (yN tf tg):=imW (ZD ha hb) λσ H Q q=>by
 obtain ⟨ρ,S,m,Rr,W,q⟩:=q;refine ⟨ρ,S,m,Rr,W,q.bind.imp λk S1 q H1 m1 x1 w1=>?_⟩;cases k with
 |true=>exact yS (q H1 m1 x1 w1)
 |false=>exact z9 ⟨ρ,S1,m1,Rr.ext x1,w1,(q.step x1).imp λk S2 q H2 m2 x2 w2=>q H2 m2 (x1.trans x2) w2⟩
theorem QW.qt {f:FT}(h:QW X e f):QT X e f:=PW.pt h
theorem jU (ha:QT X a tf):QT X (.UnaryOp .Not a pos) (lD tf):=imT (UL ha) λσ H Q q=>by
 obtain ⟨ρ,S,m,Rr,W,q⟩:=q;exact ⟨ρ,S,m,Rr,W,q.bind.imp λk S1 q H1 m1 x1 w1=>q H1 m1 x1 w1⟩
theorem Wf {op:BoolOp}(ha:QE X a f):QE X (.BoolOp op [a] pos) f:=U5 ha
@[simp] def A.Ag (S:aM) (x:A):Option Bool:=match x with
 |.t xs=>some (!xs.isEmpty)
 |.p i=>match S[i]? with
  |some (.lst ds)=>some (!ds.isEmpty)
  |some (.gen xs)=>some (!xs.isEmpty)
  |_=>none
 |.d y=>Z.D.Ag y
 |.k _=>none
theorem bf.empty (h:bf K m H xs vs):vs.isEmpty=xs.isEmpty:=by
 cases xs with
 |nil=>rw [h.nil_inv];rfl
 |cons x r=>obtain ⟨v,us,rfl,_,_⟩:=h.cons_inv;rfl
theorem RA.Ag {K:zF}{m:List Addr}{S:aM}{H:Hp}{x:A}{v:V}{b:Bool}(w:Wd K m S H) (r:RA K m H x v) (e:A.Ag S x=some b):Ku K v H b:=by
 cases x with
 |d y=>exact Z.TF (Rep.same dM (RA.cI.mp r)) e
 |k y=>cases e
 |t xs=>
  obtain ⟨a,vs,rfl,h1,h2⟩:=RA.yO.mp r;cases e
  exact .inr (.inl ⟨vs,iG.pY h1,by rw [bf.empty h2]⟩)
 |p k=>
  obtain ⟨a,ha,rfl⟩:=RA.fH.mp r;have e':(match S[k]? with | some (.lst ds)=>some (!ds.isEmpty) | some (.gen xs)=>some (!xs.isEmpty) | _=>none)=some b:=e;split at e'
  ·rename_i ds hd;cases e'
   obtain ⟨vs,q1,q2⟩:=w.cell k a _ ha hd;exact .inl ⟨vs,cB.of q1,by rw [Z.aD.empty q2]⟩
  ·rename_i xs hd;cases e'
   obtain ⟨vs,q1,q2⟩:=w.cell k a _ ha hd;exact .inl ⟨vs,cB.of q1,by rw [bf.empty q2]⟩
  ·cases e'
def fP (f:FE):FT:=λρ S=>(f ρ S).bind λx S=>opt (x.Ag S) S
theorem gO (ha:QE X a f) (he:∀whole,isTrue a X.env whole=(do let v <-whole;standAt a.pos;holding [v] (truthy v)):=by intro _;rfl):QT X a (fP f):=imT (Lj ha he) λσ H Q q=>by
 obtain ⟨ρ,S,m,Rr,W,q⟩:=q;refine ⟨ρ,S,m,Rr,W,q.bind.imp λx S1 q v H1 m1 x1 w1 r1=>?_⟩;obtain ⟨b,hb,q⟩:=q.opt;exact ⟨b,r1.Ag w1 hb,q H1 m1 x1 w1⟩
def Qn (f g:FE):FE:=λρ S=>(f ρ S).bind λx S=>(opt (x.Ag S) S).bind λb S=>if b=true then g ρ S else .ok x S
theorem S9 (ha:QE X a f) (hb:QE X (.BoolOp .And (b::rest) pos) g):QE X (.BoolOp .And (a::b::rest) pos) (Qn f g):=lM (Z.QZ ha hb) λσ H Q q=>by
 obtain ⟨ρ,S,m,Rr,W,q⟩:=q;refine ⟨ρ,S,m,Rr,W,q.bind.imp λx S1 q v H1 m1 x1 w1 r1=>?_⟩;obtain ⟨k,hk,q⟩:=q.bind.opt;refine ⟨k,r1.Ag w1 hk,?_⟩;cases k with
 |true=>exact yS ⟨ρ,S1,m1,Rr.ext x1,w1,(q.step x1).imp λz S2 q v H2 m2 x2 w2 r2=>q v H2 m2 (x1.trans x2) w2 r2⟩
 |false=>exact z9 (q v H1 m1 x1 w1 r1)
def au:FA:=λ_ S=>.ok [] S
def aj (f:FE) (g:FA):FA:=λρ S=>(f ρ S).bind λx S=>(g ρ S).bind λxs S=>.ok (x::xs) S
variable {fa:FA}
theorem aB:QA X [] au:=imA fC λσ H Q q=>by
 obtain ⟨ρ,S,m,Rr,W,q⟩:=q;exact q [] H m Xt.refl W bf.nil
theorem ak (h:QE X e f) (hr:QA X es fa) (hs:noStar e=true:=by rfl):QA X (e::es) (aj f fa):=imA (Am h hr hs) λσ H Q q=>by
 obtain ⟨ρ,S,m,Rr,W,q⟩:=q;exact ⟨ρ,S,m,Rr,W,q.bind.imp λx S1 q v H1 m1 x1 w1 r1=>⟨ρ,S1,m1,Rr.ext x1,w1,(q.step x1).bind.imp λxs S2 q vs H2 m2 x2 w2 r2=>q _ H2 m2 (x1.trans x2) w2 (bf.cons (r1.ext x2) r2)⟩⟩
@[simp] def fW:List A->Option (List D)
 |[]=>some []
 |.d x::r=>match fW r with
  |some ds=>some (x::ds)
  |none=>none
 |_::_=>none
theorem bf.fW {K:zF}{m:List Addr}{H:Hp}:∀{xs:List A}{vs:List V}{ds:List D},bf K m H xs vs->Y.fW xs=some ds->aD K (fG m H) ds vs
 |[],vs,ds,h,e=>by cases e;rw [h.nil_inv];exact Z.aD.nil
 |.d x::xs,vs,ds,h,e=>by
  obtain ⟨v,us,rfl,h1,h2⟩:=h.cons_inv;have e':(match Y.fW xs with | some ds=>some (x::ds) | none=>none)=some ds:=e;split at e'
  ·rename_i es he;cases e';exact Z.aD.cons (RA.cI.mp h1) (bf.fW h2 he)
  ·cases e'
 |.p _::_,_,_,_,e=>by cases e
 |.t _::_,_,_,_,e=>by cases e
 |.k _::_,_,_,_,e=>by cases e
def mkT (xs:List A):A:=match fW xs with
 |some ds=>.d (.tup ds)
 |none=>.t xs
@[simp] theorem aan:mkT []=.d (.tup []):=rfl
@[simp] theorem abV (x:D):mkT [.d x]=.d (.tup [x]):=rfl
@[simp] theorem abZ (x y:D):mkT [.d x,.d y]=.d (.tup [x,y]):=rfl
@[simp] theorem acq (x y z:D):mkT [.d x,.d y,.d z]=.d (.tup [x,y,z]):=rfl
@[simp] theorem ab_ (x y z w:D):mkT [.d x,.d y,.d z,.d w]=.d (.tup [x,y,z,w]):=rfl
theorem CN (w:Wd K m S H) (h:H p=none) (r:bf K m H xs vs):RA K m (upd H p (.tup vs)) (mkT xs) (.ref p):=by
 unfold mkT;split
 ·rename_i ds hd;exact O6 w h (r.fW hd)
 ·exact Yt w h r
def iU (f:FA):FE:=λρ S=>(f ρ S).bind λxs S=>if xs.length<=lim then .ok (mkT xs) S else .no
theorem mj {x1} (h:QA X es fa):QE X (.Tuple es x1 pos) (iU fa):=lM (V5 h) λσ H Q q=>by
 obtain ⟨ρ,S,m,Rr,W,q⟩:=q;refine ⟨ρ,S,m,Rr,W,q.bind.imp λxs S1 q vs H1 m1 x1 w1 r1=>?_⟩;split at q
 ·rename_i hl;exact ⟨by rw [r1.length];exact bM hl,λp hp=>q _ _ _ (x1.trans (Xt.new hp)) (w1.new hp) (CN w1 hp r1)⟩
 ·exact q.elim
def dL (f:FL):FE:=λρ S=>(f ρ S).bind λds S=>.ok (.d (.lst ds)) S
def cL (f:FL):FE:=λρ S=>(f ρ S).bind λds S=>.ok (.p S.length) (S++[.lst ds])
theorem gF (w:Wd K m S H):RA K (m++[p]) H' (.p S.length) (.ref p):=by
 rw [RA.fH,<-w.len];exact ⟨p,by simp,rfl⟩
theorem jA {fl:FL}(h:QL X e fl):QE X e (dL fl):=lM h λσ H Q q=>by
 obtain ⟨ρ,S,m,Rr,W,q⟩:=q;exact ⟨ρ,S,m,Rr,W,q.bind.imp λds S1 q p vs H1 m1 x1 w1 hp hr=>q _ _ _ (x1.trans (Xt.new hp)) (w1.new hp) (rM w1 hp hr)⟩
theorem JD {fl:FL}(h:QL X e fl):QE X e (cL fl):=lM h λσ H Q q=>by
 obtain ⟨ρ,S,m,Rr,W,q⟩:=q;exact ⟨ρ,S,m,Rr,W,q.bind.imp λds S1 q p vs H1 m1 x1 w1 hp hr=>q _ _ _ (x1.trans (Xt.rG hp)) (w1.Ae hp hr) (gF w1)⟩
def fV (f:FA):FL:=λρ S=>(f ρ S).bind λxs S=>match fW xs with
 |some ds=>if ds.length<=lim then .ok ds S else .no
 |none=>.no
theorem dJ (h:QA X es fa):QL X (.List es pos) (fV fa):=lM (Mr h) λσ H Q q=>by
 obtain ⟨ρ,S,m,Rr,W,q⟩:=q;refine ⟨ρ,S,m,Rr,W,q.bind.imp λxs S1 q vs H1 m1 x1 w1 r1=>?_⟩;split at q
 ·rename_i ds hd;have r2:=r1.fW hd;split at q
  ·rename_i hl;exact ⟨by rw [aD.length r2];exact bM hl,λp hp=>q p vs H1 m1 x1 w1 hp r2⟩
  ·exact q.elim
 ·exact q.elim
def Ou (f:FA):FE:=λρ S=>(f ρ S).bind λxs S=>if xs.length<=lim then .ok (.p S.length) (S++[.gen xs]) else .no
theorem TV (h:QA X es fa):QE X (.List es pos) (Ou fa):=lM (Mr h) λσ H Q q=>by
 obtain ⟨ρ,S,m,Rr,W,q⟩:=q;refine ⟨ρ,S,m,Rr,W,q.bind.imp λxs S1 q vs H1 m1 x1 w1 r1=>?_⟩;split at q
 ·rename_i hl;exact ⟨by rw [r1.length];exact bM hl,λp hp=>q _ _ _ (x1.trans (Xt.rG hp)) (w1.uf hp r1) (gF w1)⟩
 ·exact q.elim
def RW (X:Cx) (r:R2) (o:A->A->aM->Option (List D)):Prop:=∀{m:List Addr}{S:aM}{H:Hp}{x y:A}{ds:List D}{v u:V}{Q:VK},Wd X.K m S H->RA X.K m H x v->RA X.K m H y u->o x y S=some ds->(∀p vs,H p=none->aD X.K (fG m H) ds vs->Q (.ref p) (upd H p (.lst vs)))->r v u H Q
def Aa (o:A->A->aM->Option (List D)) (f g:FE):FL:=λρ S=>(f ρ S).bind λx S=>(g ρ S).bind λy S=>opt (o x y S) S
theorem QM {r:R2}{o:A->A->aM->Option (List D)}(hf:RW X r o):∀σ H Q,tFL X (Aa o f g) σ H Q->Xi r (tF X f) (tF X g) σ H Q:=by
 rintro σ H Q ⟨ρ,S,m,Rr,W,q⟩;refine ⟨ρ,S,m,Rr,W,q.bind.imp λx S1 q v H1 m1 x1 w1 r1=>⟨ρ,S1,m1,Rr.ext x1,w1,(q.step x1).bind.imp λy S2 q u H2 m2 x2 w2 r2=>?_⟩⟩;obtain ⟨ds,hd,q⟩:=q.opt;exact hf w2 (r1.ext x2) r2 hd λp vs hp hr=>q p vs H2 m2 (x1.trans x2) w2 hp hr
end
def Out (K:zF) (m:List Addr) (H:Hp) (D:Ends) (c:uP) (S':aM):Prop:=match c with
 |.nx ρ'=>∀σ' H' m',Xt m H m' H'->RS K m' H' σ' ρ'->Wd K m' S' H'->D.nx σ' H'
 |.rt x=>∀v H' m',Xt m H m' H'->Wd K m' S' H'->RA K m' H' x v->D.rt v H'
 |.bk ρ'=>∀σ' H' m',Xt m H m' H'->RS K m' H' σ' ρ'->Wd K m' S' H'->D.bk σ' H'
 |.ct ρ'=>∀σ' H' m',Xt m H m' H'->RS K m' H' σ' ρ'->Wd K m' S' H'->D.ct σ' H'
theorem Out.step {D:Ends}(e:Xt m H m1 H1) {c:uP}(h:Out K m H D c S):Out K m1 H1 D c S:=by
 cases c with
 |nx r=>exact λσ' H' m' x r w=>h σ' H' m' (e.trans x) r w
 |rt v=>exact λv H' m' x w r=>h v H' m' (e.trans x) w r
 |bk r=>exact λσ' H' m' x r w=>h σ' H' m' (e.trans x) r w
 |ct r=>exact λσ' H' m' x r w=>h σ' H' m' (e.trans x) r w
def Ml (X:Cx) (F:FS):TS:=λD σ H=>∃ρ S m,RS X.K m H σ ρ/\Wd X.K m S H/\Res X m H (F ρ S) (Out X.K m H D)
abbrev QS (X:Cx) (st:Stmt) (F:FS):Prop:=PS X st (Ml X F)
abbrev Ig (X:Cx) (st:List Stmt) (F:FS):Prop:=rW X st (Ml X F)
section
variable {X:Cx}{st:Stmt}{rest:List Stmt}{F G:FS}{pos:Pos}{e a b:Expr}{f g h:FE}
def bU:FS:=λρ S=>.ok (.nx ρ) S
def aG (F G:FS):FS:=λρ S=>(F ρ S).bind λc S=>match c with
 |.nx ρ'=>G ρ' S
 |c=>.ok c S
theorem bh:Ig X [] bU:=Z1 Qy λD σ H q=>by
 obtain ⟨ρ,S,m,Rr,W,q⟩:=q;exact q σ H m Xt.refl Rr W
theorem Uv {D:Ends}{σ:St}(q:Ml X (aG F G) D σ H):Wi (Ml X F) (Ml X G) D σ H:=by
 obtain ⟨ρ,S,m,Rr,W,q⟩:=q;refine ⟨ρ,S,m,Rr,W,q.bind.imp λc S1 q=>?_⟩;cases c with
 |nx ρ'=>exact λσ' H' m' x r w=>⟨ρ',S1,m',r,w,(q.step x).imp λc S2 o=>o.step x⟩
 |rt v=>exact q
 |bk r=>exact q
 |ct r=>exact q
theorem aq {b:List Stmt}(eb:b=st::rest) (h1:QS X st F) (h2:Ig X rest G):Ig X b (aG F G):=Z1 (abN eb h1 h2) λD σ H q=>Uv q
theorem aC {b:List Stmt}(eb:b=[st]) (h1:QS X st F):Ig X b F:=aaQ eb h1
def cj (f:FE):FS:=λρ S=>(f ρ S).bind λx S=>.ok (.rt x) S
theorem bC (he:QE X e f):QS X (.Return (some e) pos) (cj f):=CJ (Vo he) λD σ H q=>by
 obtain ⟨ρ,S,m,Rr,W,q⟩:=q;exact ⟨ρ,S,m,Rr,W,q.bind.imp λx S1 q v H' m' x' w r=>q v H' m' x' w r⟩
def je (t:FT) (F G:FS):FS:=λρ S=>(t ρ S).bind λb S=>if b=true then F ρ S else G ρ S
theorem dB {c:Expr}{a b:List Stmt}{t:FT}(hc:QT X c t) (ha:Ig X a F) (hb:Ig X b G):QS X (.If c a b pos) (je t F G):=CJ (ZR hc ha hb) λD σ H q=>by
 obtain ⟨ρ,S,m,Rr,W,q⟩:=q;refine ⟨ρ,S,m,Rr,W,q.bind.imp λk S1 q H1 m1 x1 w1=>?_⟩;cases k with
 |true=>exact yS ⟨ρ,S1,m1,Rr.ext x1,w1,(q.step x1).imp λc S2 o=>o.step x1⟩
 |false=>exact z9 ⟨ρ,S1,m1,Rr.ext x1,w1,(q.step x1).imp λc S2 o=>o.step x1⟩
def bW (f:FE):FS:=λρ S=>(f ρ S).bind λ_ S=>.ok (.nx ρ) S
theorem eG (he:QE X e f) (hs:swapsWith e none pos.line X.env=pure false:=by rfl):QS X (.Expr e pos) (bW f):=CJ (Pj he hs) λD σ H q=>by
 obtain ⟨ρ,S,m,Rr,W,q⟩:=q;exact ⟨ρ,S,m,Rr,W,q.bind.imp λx S1 q v H' m' x' w r=>q σ H' m' x' (Rr.ext x') w⟩
abbrev FG:=A->dH->Option dH
abbrev Rw:=List A->dH->Option dH
def HY (X:Cx) (g:FG):TG:=λv σ H Q=>∃x ρ S m,RA X.K m H x v/\RS X.K m H σ ρ/\Wd X.K m S H/\∃ρ',g x ρ=some ρ'/\∀σ',RS X.K m H σ' ρ'->Q σ' H
def abA (X:Cx) (g:Rw):PL:=λvs σ H Q=>∃xs ρ S m,bf X.K m H xs vs/\RS X.K m H σ ρ/\Wd X.K m S H/\∃ρ',g xs ρ=some ρ'/\∀σ',RS X.K m H σ' ρ'->Q σ' H
abbrev QG (X:Cx) (e:Expr) (g:FG):Prop:=PG X e (HY X g)
abbrev Z_ (X:Cx) (es:List Expr) (g:Rw):Prop:=Td X es (abA X g)
def gN (i:Nat):FG:=λx ρ=>some (ρ.set i (some x))
def bY:Rw:=λxs ρ=>match xs with
 |[]=>some ρ
 |_=>none
def aH (g:FG) (h:Rw):Rw:=λxs ρ=>match xs with
 |x::r=>(g x ρ).bind λρ1=>h r ρ1
 |[]=>none
def gT (n:Nat) (g:Rw):FG:=λx ρ=>match x with
 |.d (.tup ds)=>if ds.length=n then g (ds.map .d) ρ else none
 |.t xs=>if xs.length=n then g xs ρ else none
 |_=>none
theorem dO {K:zF}{m:List Addr}{H:Hp}:∀{ds:List D}{vs:List V},aD K (fG m H) ds vs->bf K m H (ds.map .d) vs
 |[],vs,h=>by unfold aD at h;subst h;exact bf.nil
 |d::ds,vs,h=>by
  unfold aD at h;obtain ⟨v,us,rfl,h1,h2⟩:=h;exact bf.cons (RA.cI.mpr h1) (dO h2)
theorem aL {i:Nat}{x:Str}(hN:X.N.Nodup) (hi:X.N[i]?=some x) (hx:Loc X.env.scope x) (hf:X.fn x=true∨X.env.scope.names.lookup x=some .local:=by first | exact .inl rfl | exact .inr rfl | assumption):QG X (.Name x pos) (gN i):=
 imG (Ra hN hi hx hf) λv σ H Q q=>by
  obtain ⟨x,ρ,S,m,rd,Rr,W,ρ',eg,q⟩:=q;cases eg
  exact q _ (Rr.set rd)
theorem eF:Z_ X [] bY:=Zh Qo λv σ H Q q=>by
 obtain ⟨xs,ρ,S,m,rd,Rr,W,ρ',eg,q⟩:=q;unfold bY at eg;split at eg
 ·cases eg
  exact ⟨rd.nil_inv,q σ Rr⟩
 ·cases eg
theorem aQ {es:List Expr}{g:FG}{h:Rw}(h1:QG X e g) (h2:Z_ X es h) (hs:(assignEach (e::es) X.env).map (·.2)=assign e X.env::(assignEach es X.env).map (·.2):=by rfl):Z_ X (e::es) (aH g h):=Zh (Jd h1 h2 hs) λv σ H Q q=>by
 obtain ⟨xs,ρ,S,m,rd,Rr,W,ρ',eg,q⟩:=q;unfold aH at eg;split at eg
 ·rename_i x r;obtain ⟨ρ1,e1,eg⟩:=Option.bind_eq_some_iff.mp eg;obtain ⟨u,us,rfl,r1,r2⟩:=rd.cons_inv;exact ⟨u,us,rfl,x,ρ,S,m,r1,Rr,W,ρ1,e1,λσ1 R1=>⟨r,ρ1,S,m,r2,R1,W,ρ',eg,q⟩⟩
 ·cases eg
theorem gJ {es:List Expr}{k:Nat}{g:Rw}{n:Nat}(hc:X.calm=true) (h:Z_ X es g) (hn:(assignEach es X.env).length=n:=by rfl) (hst:(assignEach es X.env).findIdx? (·.1)=none:=by rfl):QG X (.Tuple es k pos) (gT n g):=
 imG (VN hc h hn hst) λv σ H Q q=>by
  obtain ⟨x,ρ,S,m,rd,Rr,W,ρ',eg,q⟩:=q;unfold gT at eg;split at eg
  ·rename_i ds;split at eg
   ·rename_i hl;have rd:=RA.cI.mp rd;unfold Rep at rd;obtain ⟨a,xs,rfl,h1,h2⟩:=rd;exact ⟨a,xs,rfl,iG.pY h1,by rw [aD.length h2];exact hl,_,ρ,S,m,dO h2,Rr,W,ρ',eg,q⟩
   ·cases eg
  ·rename_i xs;split at eg
   ·rename_i hl;obtain ⟨a,vs,rfl,h1,h2⟩:=RA.yO.mp rd;exact ⟨a,vs,rfl,iG.pY h1,by rw [h2.length];exact hl,_,ρ,S,m,h2,Rr,W,ρ',eg,q⟩
   ·cases eg
  ·cases eg
def Qz (f:FE) (g:FG):FS:=λρ S=>(f ρ S).bind λx S=>(opt (g x ρ) S).bind λρ' S=>.ok (.nx ρ') S
theorem Tn {g:FG}(he:QE X e f) (hg:QG X tg g) (hs:swapsWithSole [tg] e pos.line X.env=pure false:=by rfl) (hw:swappedStores [tg] e X.env=pure none:=by rfl)
  (h1:(assignEach [tg] X.env).map (·.2)=[assign tg X.env]:=by rfl):QS X (.Assign [tg] e pos) (Qz f g):=CJ (JM he hg hs hw h1) λD σ H q=>by
 obtain ⟨ρ,S,m,Rr,W,q⟩:=q;refine ⟨ρ,S,m,Rr,W,q.bind.imp λx S1 q v H' m' x' w r=>?_⟩;obtain ⟨ρ',e2,q⟩:=q.bind.opt;exact ⟨x,ρ,S1,m',r,Rr.ext x',w,ρ',e2,λσ' R'=>q σ' H' m' x' R' w⟩
def aP (i:Nat) (f:FE):FS:=λρ S=>(f ρ S).bind λx S=>.ok (.nx (ρ.set i (some x))) S
theorem aY {i:Nat}{x:Str}{pos':Pos}(hN:X.N.Nodup) (hi:X.N[i]?=some x) (hx:Loc X.env.scope x) (he:QE X e f) (hs:swapsWith e (some (.Name x pos')) pos.line X.env=pure false:=by rfl) (hf:X.fn x=true∨X.env.scope.names.lookup x=some .local:=by first | exact .inl rfl | exact .inr rfl | assumption) :
  QS X (.Assign [.Name x pos'] e pos) (aP i f):=CJ (V3 hN hi hx he hs hf) λD σ H q=>by
 obtain ⟨ρ,S,m,Rr,W,q⟩:=q;exact ⟨ρ,S,m,Rr,W,q.bind.imp λy S1 q v H' m' x' w r=>q _ H' m' x' ((Rr.ext x').set r) w⟩
abbrev O3:=A->A->A->aM->R Unit
def Yv (X:Cx) (t:FW) (o:O3):Prop:=∀{m:List Addr}{S:aM}{H:Hp}{x y z:A}{v u t':V}{Q:Hp->Prop},Wd X.K m S H->RA X.K m H x v->RA X.K m H y u->RA X.K m H z t'->Res X m H (o x y z S) (λ_ S'=>∀H' m',Xt m H m' H'->Wd X.K m' S' H'->Q H')->t v u t' H Q
def Hf (o:O3) (f g h:FE):FS:=λρ S=>(f ρ S).bind λz S=>(g ρ S).bind λx S=>(h ρ S).bind λy S=>(o x y z S).bind λ_ S=>.ok (.nx ρ) S
theorem Wj {t:FW}{o:O3}{pos':Pos}(ht:LR X t) (ho:Yv X t o) (he:QE X e f) (ha:QE X a g) (hb:QE X b h)
  (hpg:∀v,assign (.Subscript a b pos') X.env v=(do
   let ov <-holding [v] (eval a X.env)
   let iv <-holding [v,ov] (eval b X.env)
   standAt pos'
   holding [v,ov,iv] (setItem ov iv v)
   release [v,ov,iv] []):=by intro _;rfl)
  (hs:swapsWithSole [.Subscript a b pos'] e pos.line X.env=pure false:=by rfl) (hw:swappedStores [.Subscript a b pos'] e X.env=pure none:=by rfl)
  (h1:(assignEach [.Subscript a b pos'] X.env).map (·.2)=[assign (.Subscript a b pos') X.env]:=by rfl) :
  QS X (.Assign [.Subscript a b pos'] e pos) (Hf o f g h):=CJ (JM he (Vq ha hb ht hpg) hs hw h1) λD σ H q=>by
 obtain ⟨ρ,S,m,Rr,W,q⟩:=q;refine ⟨ρ,S,m,Rr,W,q.bind.imp λz S0 q v0 H0 m0 x0 w0 r0=>⟨ρ,S0,m0,Rr.ext x0,w0,(q.step x0).bind.imp λx S1 q v1 H1 m1 x1 w1 r1=>⟨ρ,S1,m1,(Rr.ext x0).ext x1,w1,(q.step x1).bind.imp λy S2 q v2 H2 m2 x2 w2 r2=>?_⟩⟩⟩;refine ho w2 (r1.ext x2) r2 ((r0.ext x1).ext x2) ((q.step x2).bind.imp λ_ S3 q H3 m3 x3 w3=>?_);exact q σ H3 m3 (x0.trans (x1.trans (x2.trans x3))) (((Rr.ext x0).ext x1).ext (x2.trans x3)) w3
abbrev Ck:=Option (Nat×dY×Bool)
def gH:Ck->aM->Prop
 |none,_=>True
 |some (k,c,_),S=>S[k]?=some c
structure mH (K:zF) (m:List Addr) (H:Hp) (J:It) (xs:List A) (ck:Ck):Prop where
 go:∀m1 H1 S1 i,Xt m H m1 H1->Wd K m1 S1 H1->gH ck S1->i < xs.length->J.go i H1
 stop:∀m1 H1 S1,Xt m H m1 H1->Wd K m1 S1 H1->gH ck S1->J.stop xs.length H1
 yld:∀m1 H1 S1 (i:Nat) x v H2,Xt m H m1 H1->Wd K m1 S1 H1->gH ck S1->xs[i]?=some x->J.yld i H1 v H2->Xt m1 H1 m1 H2/\Wd K m1 S1 H2/\RA K m1 H2 x v
theorem mH.ext {J:It}{m':List Addr}(io:mH K m H J xs ck) (x:Xt m H m' H'):mH K m' H' J xs ck:=
 ⟨λm1 H1 S1 i y w c hi=>io.go m1 H1 S1 i (x.trans y) w c hi,λm1 H1 S1 y w c=>io.stop m1 H1 S1 (x.trans y) w c,λm1 H1 S i d v H2 y w c hd hy=>io.yld m1 H1 S i d v H2 (x.trans y) w c hd hy⟩
abbrev FI:=dH->aM->R (List A×Ck)
def yD (X:Cx) (m:List Addr) (H1 H':Hp) (ck:Ck):Prop:=match ck with
 |some (k,_,true)=>∃a ob ws,m[k]?=some a/\H1 a=some (.dK ws)/\H'=upd H1 a (.frz ob (.dK ws))/\NF X a
 |_=>H'=H1
def tFI (X:Cx) (f:FI):TI:=λσ H R'=>∃ρ S m,RS X.K m H σ ρ/\Wd X.K m S H/\Res X m H (f ρ S) λw S'=>∀J H1 H' m',Xt m H m' H1->yD X m' H1 H' w.2->Wd X.K m' S' H'->mH X.K m' H' J w.1 w.2->R' J H'
abbrev QI (X:Cx) (tg e:Expr) (f:FI):Prop:=PI X tg e (tFI X f)
open Classical in
noncomputable def dW (g:FG) (b:FS) (ck:Ck):List A->FS
 |[],ρ,S=>if gH ck S then .ok (.nx ρ) S else .no
 |x::xs,ρ,S=>if gH ck S then (opt (g x ρ) S).bind λρ1 S=>(b ρ1 S).bind λc S=>match c with
  |.nx ρ2=>dW g b ck xs ρ2 S
  |.ct ρ2=>dW g b ck xs ρ2 S
  |.bk ρ2=>.ok (.nx ρ2) S
  |.rt v=>.ok (.rt v) S
  else .no
def mL {α:Type}(ck:Ck) (r:R α):R α:=match ck with
 |some (k,_,true)=>r.bind λc S=>match S[k]? with
  |some (.frd kvs)=>.ok c (S.set k (.dic kvs))
  |_=>.no
 |_=>r
@[simp] theorem Xm (r:R α):mL none r=r:=rfl
@[simp] theorem Xa (k:Nat) (c:dY) (r:R α):mL (some (k,c,false)) r=r:=rfl
def jf (fi:FI) (g:FG) (b:FS):FS:=λρ S=>(fi ρ S).bind λw S=>mL w.2 (dW g b w.2 w.1 ρ S)
theorem yD.x (t:yD X m H1 H' ck):Xt m H1 m H':=by
 unfold yD at t;split at t
 ·obtain ⟨a,ob,ws,h1,h2,rfl,_⟩:=t;exact Xt.upd (zAh h1) λob u z=>by rw [h2] at z;cases z
 ·subst t;exact Xt.refl
theorem RS.sub {K:zF}{m:List Addr}{H H':Hp}{σ:St}{ρ:dH}(e:Same (fG m H) (fG m H')) (h:RS K m H σ ρ):RS K m H' σ ρ:=⟨h.len,λi x q=>let ⟨v,a,b⟩:=h.at_ i x q;⟨v,a,b.sub (λ_ _ z=>z) e⟩⟩
theorem oW {m2:List Addr}{H2:Hp}{S2:aM}{k:Nat}(t:yD X m H1 H' (some (k,c,true))) (x:Xt m H' m2 H2) (w:Wd K m2 S2 H2) (e:S2[k]?=some (.frd kvs)) :
  ∃a ob ws,H2 a=some (.frz ob (.dK ws))/\NF X a/\Xt m H1 m2 (upd H2 a (.dK ws))/\Wd K m2 (S2.set k (.dic kvs)) (upd H2 a (.dK ws))/\Same (fG m2 H2) (fG m2 (upd H2 a (.dK ws))):=by
 obtain ⟨a,ob,ws,h1,h2,rfl,nf⟩:=t;have hm2:=x.at k a h1;obtain ⟨ob',ws',h3,h4⟩:=w.cell k a _ hm2 e;have sm:=jR (H:=H2) (o:=.dK ws') (zAh hm2);refine ⟨a,ob',ws',h3,nf,⟨x.ex,?_,λb ob u z=>?_⟩,w.pU hm2 h4,sm⟩
 ·exact ((jR (zAh h1)).trans x.sm).trans sm
 ·have hb:b≠a:=λy=>by subst y;rw [h2] at z;cases z
  rw [aA hb];exact x.fz b ob u (by rw [aA hb];exact z)
def Ends.M9 (X:Cx) (D:Ends):Ends:={ nx:=λσ'=>Cp X (D.nx σ'),rt:=λv=>Cp X (D.rt v),bk:=λσ'=>Cp X (D.bk σ'),ct:=λσ'=>Cp X (D.ct σ') }
theorem Out.M9 {X:Cx}{K:zF}{m:List Addr}{H:Hp}{D:Ends}{c:uP}{S:aM}(h:Out K m H D c S):Out K m H (Ends.M9 X D) c S:=by
 cases c with
 |nx r=>exact λσ' H' m' x r w=>.inl (h σ' H' m' x r w)
 |rt v=>exact λv H' m' x w r=>.inl (h v H' m' x w r)
 |bk r=>exact λσ' H' m' x r w=>.inl (h σ' H' m' x r w)
 |ct r=>exact λσ' H' m' x r w=>.inl (h σ' H' m' x r w)
theorem Mj {m':List Addr}{r:R uP}{D:Ends}(x:Xt m H m' H1) (t:yD X m' H1 H' ck) (q:Res X m H (mL ck r) (Out X.K m H D)):Res X m' H' r (Out X.K m' H' (Ends.M9 X D)):=by
 have x':Xt m H m' H':=x.trans t.x;unfold mL at q;split at q
 ·rename_i k c;refine (q.bind.step x').imp λc S o=>?_;split at o
  ·rename_i kvs hk;cases c with
   |nx r=>exact λσ2 H2 m2 x2 r2 w2=>.inr (let ⟨a,ob,ws,h1,h2,h3,h4,h5⟩:=oW t x2 w2 hk;⟨a,ob,ws,h1,h2,o σ2 _ m2 (x.trans h3) (r2.sub h5) h4⟩)
   |rt v=>exact λv2 H2 m2 x2 w2 r2=>.inr (let ⟨a,ob,ws,h1,h2,h3,h4,h5⟩:=oW t x2 w2 hk;⟨a,ob,ws,h1,h2,o v2 _ m2 (x.trans h3) h4 (r2.sub (λ_ _ z=>z) h5)⟩)
   |bk r=>exact λσ2 H2 m2 x2 r2 w2=>.inr (let ⟨a,ob,ws,h1,h2,h3,h4,h5⟩:=oW t x2 w2 hk;⟨a,ob,ws,h1,h2,o σ2 _ m2 (x.trans h3) (r2.sub h5) h4⟩)
   |ct r=>exact λσ2 H2 m2 x2 r2 w2=>.inr (let ⟨a,ob,ws,h1,h2,h3,h4,h5⟩:=oW t x2 w2 hk;⟨a,ob,ws,h1,h2,o σ2 _ m2 (x.trans h3) (r2.sub h5) h4⟩)
  ·exact o.elim
 ·exact (q.step x').imp λc S o=>(o.step x').M9
theorem VB {J:It}{g:FG}{b:FS}{D':Ends}(io:mH X.K m H J xs ck) :
  ∀i m1 σ1 H1,(∃ρ1 S1,i<=xs.length/\Xt m H m1 H1/\RS X.K m1 H1 σ1 ρ1/\Wd X.K m1 S1 H1/\Res X m H (dW g b ck (xs.drop i) ρ1 S1) (Out X.K m H D')) ->
   (J.stop i H1/\D'.nx σ1 H1)∨(J.go i H1/\∃N:St->Hp->Prop,(∀σ' H',N σ' H'->i < xs.length/\∃m' ρ' S',i+1<=xs.length/\Xt m H m' H'/\RS X.K m' H' σ' ρ'/\Wd X.K m' S' H'/\Res X m H (dW g b ck (xs.drop (i+1)) ρ' S') (Out X.K m H D')) /\
    ∀x H',J.yld i H1 x H'->HY X g x σ1 H' λσ2 H2=>Ml X b { D' with nx:=N,ct:=N,bk:=D'.nx } σ2 H2):=by
 rintro i m1 σ1 H1 ⟨ρ1,S1,hi,x,Rr,W,q⟩;by_cases hlt:i < xs.length
 ·rw [zBQ hlt] at q;unfold dW at q;split at q
  ·rename_i hck;refine .inr ⟨io.go m1 H1 S1 i x W hck hlt,λσ' H'=>∃m' ρ' S',i+1<=xs.length/\Xt m H m' H'/\RS X.K m' H' σ' ρ'/\Wd X.K m' S' H'/\Res X m H (dW g b ck (xs.drop (i+1)) ρ' S') (Out X.K m H D'),λσ' H' h=>⟨hlt,h⟩,λy H2 hy=>?_⟩;obtain ⟨x2,w2,rd⟩:=io.yld m1 H1 S1 i xs[i] y H2 x W hck (zAc hlt) hy;obtain ⟨ρ2,e2,q⟩:=q.bind.opt;refine ⟨xs[i],ρ1,S1,m1,rd,Rr.ext x2,w2,ρ2,e2,λσ2 R2=>?_⟩;have x3:Xt m H m1 H2:=x.trans x2;refine ⟨ρ2,S1,m1,R2,w2,(q.bind.step x3).imp λc S3 q=>?_⟩;cases c with
   |nx r=>exact λσ' H' m' y R3 W3=>⟨m',r,S3,hlt,x3.trans y,R3,W3,q⟩
   |ct r=>exact λσ' H' m' y R3 W3=>⟨m',r,S3,hlt,x3.trans y,R3,W3,q⟩
   |bk r=>exact λσ' H' m' y R3 W3=>q σ' H' m' (x3.trans y) R3 W3
   |rt v=>exact λu H' m' y W3 r3=>q u H' m' (x3.trans y) W3 r3
  ·exact q.elim
 ·have e:i=xs.length:=by omega
  subst e;rw [List.drop_length] at q;unfold dW at q;split at q
  ·rename_i hck;exact .inl ⟨io.stop m1 H1 S1 x W hck,q σ1 H1 m1 x Rr W⟩
  ·exact q.elim
theorem gZ {iter:Expr}{body:List Stmt}{fi:FI}{g:FG}{b:FS}(hp:PassesOwn (model X.prog X.w) X.A X.env X.xe) (hc:X.calm=true) (hi:QI X tg iter fi) (hg:QG X tg g) (hb:Ig X body b)
  (hs:∀x,foldedSetIterable iter X.env x=pure x:=by intro _;rfl):QS X (.For tg iter body [] pos) (jf fi g b):=
 CJ (DY (V_ hp hc hi hg hb hs)) λD' σ H q=>by
  obtain ⟨ρ,S,m,Rr,W,q⟩:=q;refine ⟨ρ,S,m,Rr,W,q.bind.imp λw S1 q J H1 H' m' x1 t' w' io=>?_⟩;have q':=Mj x1 t' q;have x':Xt m H m' H':=x1.trans t'.x;refine ⟨λi n σ1 H1=>n=w.1.length-i/\∃m1 ρ1 S1,i<=w.1.length/\Xt m' H' m1 H1/\RS X.K m1 H1 σ1 ρ1/\Wd X.K m1 S1 H1/\Res X m' H' (dW g b w.2 (w.1.drop i) ρ1 S1) (Out X.K m' H' (Ends.M9 X D')),⟨_,rfl,m',ρ,S1,zBf _,Xt.refl,Rr.ext x',w',q'⟩,?_⟩;rintro i n σ1 H1 ⟨rfl,m1,ρ1,S2,h⟩;rcases VB io i m1 σ1 H1 ⟨ρ1,S2,h⟩ with hl | ⟨hgo,N,hN,hy⟩
  ·exact .inl hl
  ·refine .inr ⟨hgo,N,λσ' H2 hn=>?_,hy⟩;obtain ⟨hlt,m'',ρ',S',h'⟩:=hN σ' H2 hn;exact ⟨w.1.length-(i+1),by omega,rfl,m'',ρ',S',h'⟩
def rQ (t:FT) (b:FS):Nat->FS
 |0,_,_=>.no
 |n+1,ρ,S=>(t ρ S).bind λk S=>if k=true then (b ρ S).bind λc S=>match c with
   |.nx ρ'=>rQ t b n ρ' S
   |.ct ρ'=>rQ t b n ρ' S
   |.bk ρ'=>.ok (.nx ρ') S
   |.rt v=>.ok (.rt v) S
  else .ok (.nx ρ) S
theorem uc {c:Expr}{body:List Stmt}{t:FT}{b:FS}(n:Nat) (hp:PassesOwn (model X.prog X.w) X.A X.env X.xe) (hc:QT X c t) (hb:Ig X body b):QS X (.While c body [] pos) (rQ t b n):=CJ (Jv hp hc hb) λD σ H q=>by
 obtain ⟨ρ,S,m,Rr,W,q⟩:=q;refine ⟨λk σ1 H1=>∃ρ1 S1 m1,Xt m H m1 H1/\RS X.K m1 H1 σ1 ρ1/\Wd X.K m1 S1 H1/\Res X m H (rQ t b k ρ1 S1) (Out X.K m H D),⟨n,ρ,S,m,Xt.refl,Rr,W,q⟩,?_⟩;rintro k σ1 H1 ⟨ρ1,S1,m1,x1,R1,W1,q⟩;cases k with
 |zero=>exact q.elim
 |succ k=>
  unfold rQ at q;refine ⟨ρ1,S1,m1,R1,W1,(q.bind.step x1).imp λz S2 q H2 m2 x2 w2=>?_⟩;cases z with
  |false=>exact z9 (q σ1 H2 m2 (x1.trans x2) (R1.ext x2) w2)
  |true=>
   refine yS ?_;have x3:Xt m H m2 H2:=x1.trans x2;refine ⟨λσ3 H3=>∃ρ3 S3 m3,Xt m H m3 H3/\RS X.K m3 H3 σ3 ρ3/\Wd X.K m3 S3 H3/\Res X m H (rQ t b k ρ3 S3) (Out X.K m H D),λσ3 H3 h=>⟨k,zBr k,h⟩,?_⟩;have q':Res X m H ((b ρ1 S2).bind λc S=>match c with | .nx ρ'=>rQ t b k ρ' S | .ct ρ'=>rQ t b k ρ' S | .bk ρ'=>.ok (.nx ρ') S | .rt v=>.ok (.rt v) S) (Out X.K m H D):=q;refine ⟨ρ1,S2,m2,R1.ext x2,w2,(q'.bind.step x3).imp λc S3 q=>?_⟩;cases c with
   |nx r=>exact λσ' H' m' y R3 W3=>⟨r,S3,m',x3.trans y,R3,W3,q⟩
   |ct r=>exact λσ' H' m' y R3 W3=>⟨r,S3,m',x3.trans y,R3,W3,q⟩
   |bk r=>exact λσ' H' m' y R3 W3=>q σ' H' m' (x3.trans y) R3 W3
   |rt v=>exact λu H' m' y W3 r3=>q u H' m' (x3.trans y) W3 r3
end
theorem Uo (h:cB K (fG m H) a vs) (r:bf K m H xs vs):mH K m H (Itl K a) xs none where
 go:=λm1 H1 S1 i x w c hi=>⟨vs,vs[i]'(by rw [r.length];exact hi),cB.pY (Same.seq x.sm h),zAc _⟩
 stop:=λm1 H1 S1 x w c=>⟨vs,cB.pY (Same.seq x.sm h),Nat.le_of_eq r.length⟩
 yld:=λm1 H1 S1 i d y H2 x w c hd hy=>by
  obtain ⟨rfl,hy⟩:=hy;have hv:=hy vs (cB.pY (Same.seq x.sm h));obtain ⟨v,hv',rd⟩:=r.get hd;rw [hv] at hv';cases hv'
  exact ⟨Xt.refl,w,rd.ext x⟩
theorem J5 (h:iG K (fG m H) a vs) (r:bf K m H xs vs):mH K m H (Itt K a) xs none where
 go:=λm1 H1 S1 i x w c hi=>⟨vs,vs[i]'(by rw [r.length];exact hi),iG.pY (Same.tup x.sm h),zAc _⟩
 stop:=λm1 H1 S1 x w c=>⟨vs,iG.pY (Same.tup x.sm h),Nat.le_of_eq r.length⟩
 yld:=λm1 H1 S1 i d y H2 x w c hd hy=>by
  obtain ⟨rfl,hy⟩:=hy;have hv:=hy vs (iG.pY (Same.tup x.sm h));obtain ⟨v,hv',rd⟩:=r.get hd;rw [hv] at hv';cases hv'
  exact ⟨Xt.refl,w,rd.ext x⟩
def dY.its:dY->Option (List A)
 |.lst ds=>some (ds.map .d)
 |.gen xs=>some xs
 |_=>none
theorem jk (h:jg K m H a c) (e:c.its=some xs):∃vs,H a=some (.lst vs)/\bf K m H xs vs:=by
 cases c with
 |lst ds=>cases e;obtain ⟨vs,h1,h2⟩:=h;exact ⟨vs,h1,dO h2⟩
 |gen ys=>cases e;exact h
 |dic kvs=>cases e
 |ins C fs=>cases e
 |frd kvs=>cases e
 |exc C fs=>cases e
theorem J0 {k:Nat}{fl:Bool}(hm:m[k]?=some a) (e:c.its=some xs):mH K m H (Itl K a) xs (some (k,c,fl)) where
 go:=λm1 H1 S1 i x w ck hi=>by
  obtain ⟨vs,h1,h2⟩:=jk (w.cell k a c (x.at k a hm) ck) e;exact ⟨vs,vs[i]'(by rw [h2.length];exact hi),cB.of h1,zAc _⟩
 stop:=λm1 H1 S1 x w ck=>by
  obtain ⟨vs,h1,h2⟩:=jk (w.cell k a c (x.at k a hm) ck) e;exact ⟨vs,cB.of h1,Nat.le_of_eq h2.length⟩
 yld:=λm1 H1 S1 i d y H2 x w ck hd hy=>by
  obtain ⟨rfl,hy⟩:=hy;obtain ⟨vs,h1,h2⟩:=jk (w.cell k a c (x.at k a hm) ck) e;have hv:=hy vs (cB.of h1);obtain ⟨v,hv',rd⟩:=h2.get hd;rw [hv] at hv';cases hv'
  exact ⟨Xt.refl,w,rd⟩
def qg (z:Str):List A:=z.cps.toList.map λc=>.d (.str ⟨#[c]⟩)
theorem U7 (z:Str):mH K m H (Its z) (qg z) none where
 go:=λm1 H1 S1 i x w c hi=>by
  show i < z.length;unfold qg at hi;simpa [Str.length] using hi
 stop:=λm1 H1 S1 x w c=>by
  show z.length<=(qg z).length;unfold qg;simp [Str.length]
 yld:=λm1 H1 S1 i d y H2 x w c hd hy=>by
  obtain ⟨rfl,ch,hc,rfl⟩:=hy;unfold qg at hd;rw [zAk,zBJ,hc] at hd;cases hd
  exact ⟨Xt.refl,w,nj⟩
def kA:Key->A
 |.inl i=>.d (.int i)
 |.inr z=>.d (.str z)
theorem Vv (k:Key):RA K m H (kA k) (kV k):=by
 cases k with
 |inl i=>exact eY
 |inr z=>exact nj
theorem Jb {ob:Obj}(hk:kvs.map (·.1)=ws.map (·.1)) (ha:H a=some (.frz ob (.dK ws))):mH K m H (Z.X6 a ob ws) (kvs.map λp=>kA p.1) ck where
 go:=λm1 H1 S1 i x w ck hi=>⟨x.fz _ _ _ ha,by have:=congrArg List.length hk;simp at this hi;omega⟩
 stop:=λm1 H1 S1 x w ck=>⟨x.fz _ _ _ ha,by have:=congrArg List.length hk;simp at this ⊢;omega⟩
 yld:=λm1 H1 S1 i d y H2 x w ck hd hy=>by
  obtain ⟨rfl,kv,hkv,rfl⟩:=hy;refine ⟨Xt.refl,w,?_⟩;rw [zAk] at hd;obtain ⟨q,hq,rfl⟩:=Option.map_eq_some_iff.mp hd;have h1:(kvs.map (·.1))[i]?=(ws.map (·.1))[i]?:=by rw [hk]
  rw [zAk,zAk,hq,hkv] at h1;have h2:q.1=kv.1:=Option.some.inj h1;rw [h2];exact Vv kv.1
section
variable {e:Expr}{f:FE}{pos p:Pos}
def yH (x:A) (S:aM):R (List A×Ck):=match x with
 |.d (.lst ds)=>.ok (ds.map .d,none) S
 |.d (.tup ds)=>.ok (ds.map .d,none) S
 |.d (.str z)=>.ok (qg z,none) S
 |.t xs=>.ok (xs,none) S
 |.p k=>match S[k]? with
  |some (.lst ds)=>.ok (ds.map .d,some (k,.lst ds,false)) S
  |some (.gen xs)=>.ok (xs,some (k,.gen xs,false)) S
  |some (.frd kvs)=>.ok (kvs.map λp=>kA p.1,some (k,.frd kvs,false)) S
  |some (.dic kvs)=>.ok (kvs.map λp=>kA p.1,some (k,.frd kvs,true)) (S.set k (.frd kvs))
  |_=>.no
 |_=>.no
def cC (f:FE):FI:=λρ S=>(f ρ S).bind yH
theorem RK.keys {κ:Type}{K:zF}{m:List Addr}{H:Hp}:∀{kvs:List (κ×A)}{ws:List (κ×V)},RK K m H kvs ws->kvs.map (·.1)=ws.map (·.1)
 |_,_,.nil=>rfl
 |_,_,.cons r t=>by rw [zAr,zAr,r.1,RK.keys t]
theorem Wd.freeze (w:Wd K m S H) {k:Nat}(h1:m[k]?=some a) (r:RK K m H kvs ws) (ob:Obj):Wd K m (S.set k (.frd kvs)) (upd H a (.frz ob (.dK ws))):=
 w.set h1 ⟨ob,ws,aJ,RK.sub (λ_ _ z=>z) (jR (zAh h1)) r⟩
theorem bR (he:QE X e f):QI X tg e (cC f):=Zj (Wm he) λσ H R' q=>by
 obtain ⟨ρ,S,m,Rr,W,q⟩:=q;refine ⟨ρ,S,m,Rr,W,q.bind.imp λx S1 q v H1 m1 x1 w1 r1=>?_⟩;cases x with
 |k u=>exact q.elim
 |t xs=>
  obtain ⟨a,vs,rfl,h1,h2⟩:=RA.yO.mp r1;exact .inr (.inl ⟨a,rfl,⟨vs,iG.pY h1⟩,q _ H1 H1 m1 x1 rfl w1 (J5 h1 h2)⟩)
 |d y=>
  have r2:=RA.cI.mp r1;cases y with
  |lst ds=>
   unfold Rep at r2;obtain ⟨a,vs,rfl,h1,h2⟩:=r2;exact .inl ⟨a,rfl,⟨vs,cB.pY h1⟩,q _ H1 H1 m1 x1 rfl w1 (Uo h1 (dO h2))⟩
  |tup ds=>
   unfold Rep at r2;obtain ⟨a,vs,rfl,h1,h2⟩:=r2;exact .inr (.inl ⟨a,rfl,⟨vs,iG.pY h1⟩,q _ H1 H1 m1 x1 rfl w1 (J5 h1 (dO h2))⟩)
  |str z=>
   cases jJ r1
   exact .inr (.inr (.inl ⟨z,rfl,q _ H1 H1 m1 x1 rfl w1 (U7 z)⟩))
  |non=>exact q.elim
  |bl b=>exact q.elim
  |int i=>exact q.elim
 |p k=>
  obtain ⟨a,ha,rfl⟩:=RA.fH.mp r1;obtain ⟨c,hc,ok⟩:=w1.at ha;simp only [yH,hc] at q;cases c with
  |lst ds=>
   obtain ⟨vs,h1,_⟩:=ok;exact .inl ⟨a,rfl,⟨vs,cB.of h1⟩,q _ H1 H1 m1 x1 rfl w1 (J0 ha rfl)⟩
  |gen xs=>
   obtain ⟨vs,h1,_⟩:=ok;exact .inl ⟨a,rfl,⟨vs,cB.of h1⟩,q _ H1 H1 m1 x1 rfl w1 (J0 ha rfl)⟩
  |ins C fs=>exact q.elim
  |exc C fs=>exact q.elim
  |frd kvs=>
   obtain ⟨ob,ws,h1,h2⟩:=ok;exact .inr (.inr (.inr (.inl ⟨a,ob,ws,rfl,h1,q _ H1 H1 m1 x1 rfl w1 (Jb h2.keys h1)⟩)))
  |dic kvs=>
   obtain ⟨ws,h1,h2⟩:=ok;exact .inr (.inr (.inr (.inr ⟨a,ws,rfl,h1,λob nf=>q _ H1 _ m1 x1 ⟨a,ob,ws,ha,h1,rfl,nf⟩ (w1.freeze ha h2 ob) (Jb h2.keys aJ)⟩)))
def rng (a:Int) (n:Nat):List A:=(List.range n).map λ(i:Nat)=>.d (.int (a+i))
theorem Us {a:Int}{n:Nat}:mH K m H (Itr a n) (rng a n) none where
 go:=λm1 H1 S1 i x w c hi=>by
  show i < n;simpa [rng] using hi
 stop:=λm1 H1 S1 x w c=>by
  show n<=(rng a n).length;simp [rng]
 yld:=λm1 H1 S1 i d y H2 x w c hd hy=>by
  obtain ⟨rfl,rfl⟩:=hy;have hi:i < n:=by have:=(List.getElem?_eq_some_iff.mp hd).1;simpa [rng] using this
  unfold rng at hd;rw [zAk,zBS hi] at hd;cases hd
  exact ⟨Xt.refl,w,eY⟩
def Pa (f:FE):FI:=λρ S=>(f ρ S).bind λx S=>match x with
 |.d (.int j)=>if -1000000 < j/\j < 1000000 then .ok (rng 0 j.toNat,none) S else .no
 |_=>.no
theorem jY (hg:Gl X "range") (hm:X.mg "range" = none) (he:QE X e f) (hst:noStar e=true:=by rfl) (hs:starEach [e] X.env=[(false,eval e X.env)]:=by rfl):QI X tg (.Call (.Name "range" p) [e] [] pos) (Pa f):=
 Zj (GP hg hm (Am he fC hst) hs) λσ H R' q=>by
  obtain ⟨ρ,S,m,Rr,W,q⟩:=q;refine ⟨ρ,S,m,Rr,W,q.bind.imp λx S1 q v H1 m1 x1 w1 r1=>?_⟩;split at q
  ·rename_i j;split at q
   ·rename_i hj;cases dw r1
    exact ⟨j,rfl,by omega,by omega,q _ H1 H1 m1 x1 rfl w1 Us⟩
   ·exact q.elim
  ·exact q.elim
def J7 (xs:List A):List A:=xs.mapIdx λ(i:Nat) x=>mkT [.d (.int (i:Int)),x]
theorem Io {i:Nat}(h:(J7 xs)[i]?=some y):∃x,xs[i]?=some x/\y=mkT [.d (.int i),x]:=by
 unfold J7 at h;rw [zBx] at h;obtain ⟨x,hx,e⟩:=Option.map_eq_some_iff.mp h;exact ⟨x,hx,e.symm⟩
@[simp] theorem Es (xs:List A):(J7 xs).length=xs.length:=by simp [J7]
theorem Qe {S1:aM}{p:Addr}{i:Nat}{x:A}(w:Wd K m1 S1 H1) (hn:H1 p=none) (r:RA K m1 H1 x v):Xt m1 H1 m1 (upd H1 p (.tup [.int i,v]))/\Wd K m1 S1 (upd H1 p (.tup [.int i,v]))/\RA K m1 (upd H1 p (.tup [.int i,v])) (mkT [.d (.int i),x]) (.ref p):=
 ⟨Xt.new hn,w.new hn,CN w hn (bf.cons eY (bf.cons r bf.nil))⟩
theorem wU (h:∀m1 H1 S1,Xt m H m1 H1->Wd K m1 S1 H1->gH ck S1->∃vs,cB K H1 a vs/\bf K m1 H1 xs vs):mH K m H (Ite K a) (J7 xs) ck where
 go:=λm1 H1 S1 i x w c hi=>by
  obtain ⟨vs,h1,h2⟩:=h m1 H1 S1 x w c;have hi':i < vs.length:=by rw [h2.length,<-Es];exact hi
  exact ⟨vs,vs[i],h1,zAc hi'⟩
 stop:=λm1 H1 S1 x w c=>by
  obtain ⟨vs,h1,h2⟩:=h m1 H1 S1 x w c;exact ⟨vs,h1,by rw [Es,h2.length];exact zAq _⟩
 yld:=λm1 H1 S1 i d y H2 x w c hd hy=>by
  obtain ⟨vs,h1,h2⟩:=h m1 H1 S1 x w c;obtain ⟨p,v,rfl,hn,rfl,hy⟩:=hy;obtain ⟨z,hz,rfl⟩:=Io hd;obtain ⟨z',hz',rd⟩:=h2.get hz;rw [hy vs h1] at hz';cases hz'
  exact Qe w hn rd
def Ox (x:A) (S:aM):R (List A×Ck):=match x with
 |.d (.lst ds)=>.ok (J7 (ds.map .d),none) S
 |.p k=>match S[k]? with
  |some (.lst ds)=>.ok (J7 (ds.map .d),some (k,.lst ds,false)) S
  |some (.gen xs)=>.ok (J7 xs,some (k,.gen xs,false)) S
  |_=>.no
 |_=>.no
def U6 (f:FE):FI:=λρ S=>(f ρ S).bind Ox
theorem Og {elts:List Expr}{x1:Nat}{tpos:Pos}(hg:Gl X "enumerate") (hm:X.mg "enumerate" = none) (he:QE X e f) (hst:noStar e=true:=by rfl) (hs:starEach [e] X.env=[(false,eval e X.env)]:=by rfl):QI X (.Tuple elts x1 tpos) (.Call (.Name "enumerate" p) [e] [] pos) (U6 f):=
 Zj (M8 hg hm (Am he fC hst) hs) λσ H R' q=>by
  obtain ⟨ρ,S,m,Rr,W,q⟩:=q;refine ⟨ρ,S,m,Rr,W,q.bind.imp λx S1 q v H1 m1 x1 w1 r1=>?_⟩;cases x with
  |k u=>exact q.elim
  |t xs=>exact q.elim
  |d y=>
   have r2:=RA.cI.mp r1;cases y with
   |lst ds=>
    unfold Rep at r2;obtain ⟨a,vs,rfl,h1,h2⟩:=r2;exact ⟨a,vs,rfl,cB.pY h1,q _ H1 H1 m1 x1 rfl w1 (wU λm2 H2 S2 x2 w2 _=>⟨vs,cB.pY (Same.seq x2.sm h1),(dO h2).ext x2⟩)⟩
   |tup ds=>exact q.elim
   |str z=>exact q.elim
   |non=>exact q.elim
   |bl b=>exact q.elim
   |int i=>exact q.elim
  |p k=>
   obtain ⟨a,ha,rfl⟩:=RA.fH.mp r1;obtain ⟨c,hc,ok⟩:=w1.at ha;have cl:∀{xs:List A},c.its=some xs->∀m2 H2 S2,Xt m1 H1 m2 H2->Wd X.K m2 S2 H2->gH (some (k,c,false)) S2->∃vs,cB X.K H2 a vs/\bf X.K m2 H2 xs vs:=λ{xs} e m2 H2 S2 x2 w2 ck=>by
    obtain ⟨vs,h1,h2⟩:=jk (w2.cell k a c (x2.at k a ha) ck) e;exact ⟨vs,cB.of h1,h2⟩
   simp only [Ox,hc] at q;cases c with
   |lst ds=>
    obtain ⟨vs,h1,_⟩:=ok;exact ⟨a,vs,rfl,cB.of h1,q _ H1 H1 m1 x1 rfl w1 (wU (cl rfl))⟩
   |gen xs=>
    obtain ⟨vs,h1,_⟩:=ok;exact ⟨a,vs,rfl,cB.of h1,q _ H1 H1 m1 x1 rfl w1 (wU (cl rfl))⟩
   |ins C fs=>exact q.elim
   |frd kvs=>exact q.elim
   |exc C fs=>exact q.elim
   |dic kvs=>exact q.elim
end
end Y
namespace L2
open PySem PySem.Spec PyProof.Rows
section
variable {X:Cx}
def U8:R2:=λx y H Q=>∃a v,x=.ref a/\GC H a y (some v)/\Q v H
theorem Ol (hu:X.A.units+1 < cLine):H_ X U8:=by
 intro value slice pins s σ H x y v u Q I rx ry h hs;obtain ⟨a,z,rfl,g,q⟩:=h;cases rx
 exact tail_any (zT I g) PySem.F.slot_dict_getitem.lookup (FP hu I g ry λw' s3 I3 rw'=>⟨z,H,I3,rw',q⟩) hs
theorem KJ (hu:X.A.units+1 < cLine):H_ X (λx y H Q=>rIx X.K x y H Q∨U8 x y H Q):=Wg.or (Ol hu)
def Li:FW:=λo i v H Q=>∃a H',o=.ref a/\M7 H a i v H'/\Q H'
theorem set_dict (hu:X.A.units+1 < cLine):LR X Li:=by
 intro pins s σ H o i v ov iv u Q I ro ri rv h;obtain ⟨a,H',rfl,g,q⟩:=h;cases ro
 exact Gv hu I g ri rv λs' I'=>⟨H',I',q⟩
theorem Pk (hu:X.A.units+1 < cLine):LR X (λo i v H Q=>Iv o i v H Q∨Li o i v H Q):=by
 intro pins s σ H o i v ov iv u Q I ro ri rv h;rcases h with h | h
 ·exact set_list pins s σ H o i v ov iv u Q I ro ri rv h
 ·exact set_dict hu pins s σ H o i v ov iv u Q I ro ri rv h
end
end L2
namespace Y
open PySem L2
open Z (fG dI aZ dM bJ eZ cV bG lim cM bM)
variable {K:zF}{m:List Addr}{H:Hp}{v:V}
section
variable {κ:Type} [DecidableEq κ] {K:zF}{m:List Addr}{H:Hp}
def gv (kvs:List (κ×A)) (k:κ):Option A:=(kvs.find? λkv=>decide (kv.1=k)).map (·.2)
def pv (kvs:List (κ×A)) (k:κ) (v:A):List (κ×A):=if (kvs.any λkv=>decide (kv.1=k))=true then kvs.map (λkv=>if kv.1=k then (kv.1,v) else kv) else kvs++[(k,v)]
theorem RK.val:∀{kvs:List (κ×A)}{ws:List (κ×V)}(k:κ),RK K m H kvs ws->(match gv kvs k with | some x=>∃v,mQ ws k=some v/\RA K m H x v | none=>mQ ws k=none)
 |_,_,k,.nil=>by simp [gv,mQ]
 |_,_,k,.cons (a:=p) (b:=q) r t=>by
  obtain ⟨e,r⟩:=r;have ih:=RK.val k t;unfold gv mQ at ih ⊢;by_cases h:p.1=k
  ·rw [List.find?_cons_of_pos (by simpa using h),List.find?_cons_of_pos (by rw [<-e];simpa using h)];exact ⟨q.2,rfl,r⟩
  ·rw [List.find?_cons_of_neg (by simpa using h),List.find?_cons_of_neg (by rw [<-e];simpa using h)];exact ih
theorem RK.LC {kvs:List (κ×A)}{ws:List (κ×V)}{k:κ}{x:A}(h:RK K m H kvs ws) (e:gv kvs k=some x):∃v,mQ ws k=some v/\RA K m H x v:=by
 have:=h.val k;rw [e] at this;exact this
theorem RK.isSome {kvs:List (κ×A)}{ws:List (κ×V)}(k:κ) (h:RK K m H kvs ws):(mQ ws k).isSome=(gv kvs k).isSome:=by
 have:=h.val k;cases e:gv kvs k with
 |some x=>rw [e] at this;obtain ⟨v,hv,_⟩:=this;rw [hv];rfl
 |none=>rw [e] at this;rw [this];rfl
theorem RK.any:∀{kvs:List (κ×A)}{ws:List (κ×V)}(k:κ),RK K m H kvs ws->(kvs.any λkv=>decide (kv.1=k))=ws.any λkv=>decide (kv.1=k)
 |_,_,_,.nil=>rfl
 |_,_,k,.cons r t=>by rw [List.any_cons,List.any_cons,RK.any k t,r.1]
theorem RK.Y4 {k:κ}{x:A}{v:V}(r:RA K m H x v):∀{kvs:List (κ×A)}{ws:List (κ×V)},RK K m H kvs ws->RK K m H (kvs.map λkv=>if kv.1=k then (kv.1,x) else kv) (ws.map λkv=>if kv.1=k then (kv.1,v) else kv)
 |_,_,.nil=>.nil
 |_,_,.cons (a:=p) (b:=q) s t=>by
  refine .cons ?_ (RK.Y4 r t);obtain ⟨e,s⟩:=s;by_cases h:p.1=k
  ·simp only [if_pos h,if_pos (e▸h:q.1=k)];exact ⟨e,r⟩
  ·simp only [if_neg h,if_neg (show ¬q.1=k from e▸h)];exact ⟨e,s⟩
theorem RK.snoc {k:κ}{x:A}{v:V}(r:RA K m H x v):∀{kvs:List (κ×A)}{ws:List (κ×V)},RK K m H kvs ws->RK K m H (kvs++[(k,x)]) (ws++[(k,v)])
 |_,_,.nil=>.cons ⟨rfl,r⟩ .nil
 |_,_,.cons s t=>.cons s (RK.snoc r t)
theorem RK.put {kvs:List (κ×A)}{ws:List (κ×V)}{k:κ}{x:A}(h:RK K m H kvs ws) (r:RA K m H x v):RK K m H (pv kvs k x) (putK ws k v):=by
 unfold pv putK;rw [h.any k];split
 ·exact RK.Y4 r h
 ·exact RK.snoc r h
theorem RK.length {κ:Type}{kvs:List (κ×A)}{ws:List (κ×V)}(h:RK K m H kvs ws):ws.length=kvs.length:=(Paired.length h).symm
end
@[simp] def rC:A->Option Key
 |.d (.int i)=>some (.inl i)
 |.d (.str x)=>some (.inr x)
 |_=>none
theorem jC {x:A}{k:Key}(r:RA K m H x v) (e:rC x=some k):v=kV k:=by
 unfold rC at e;split at e
 ·cases e;exact dw r
 ·cases e;exact jJ r
 ·cases e
@[simp] def dY.dct:dY->Option (List (Key×A))
 |.dic kvs=>some kvs
 |.frd kvs=>some kvs
 |_=>none
@[simp] def A.dct (S:aM):A->Option (List (Key×A))
 |.p i=>match S[i]? with
  |some c=>c.dct
  |none=>none
 |_=>none
theorem sW {S:aM}{x:A}{kvs:List (Key×A)}(w:Wd K m S H) (r:RA K m H x v) (e:A.dct S x=some kvs):∃a ws,v=.ref a/\Rd H a (.dK ws)/\RK K m H kvs ws:=by
 cases x with
 |d y=>cases e
 |t y=>cases e
 |k y=>cases e
 |p k=>
  obtain ⟨a,ha,rfl⟩:=RA.fH.mp r;obtain ⟨c,hc,ok⟩:=w.at ha;simp only [A.dct,hc] at e;cases c with
  |lst ds=>cases e
  |gen xs=>cases e
  |ins C fs=>cases e
  |exc C fs=>cases e
  |dic kvs=>cases e;obtain ⟨ws,h1,h2⟩:=ok;exact ⟨a,ws,rfl,.inl h1,h2⟩
  |frd kvs=>cases e;obtain ⟨ob,ws,h1,h2⟩:=ok;exact ⟨a,ws,rfl,.inr ⟨ob,h1⟩,h2⟩
section
variable {X:Cx}{a b e:Expr}{f g h:FE}{pos:Pos}
def dh:O2:=λx y S=>match x.sh S,y.sh S with
 |some (.int i),some (.int j)=>.ok (.d (.int (i+j))) S
 |some (.str i),some (.str j)=>if i.length+j.length<=lim then .ok (.d (.str (i++j))) S else .no
 |some (.lst ds),some (.lst es)=>if ds.length+es.length<=lim then .ok (.d (.lst (ds++es))) S else .no
 |_,_=>.no
def Rz (K:zF):R2:=λx y H Q=>Jw (λi j=>.int (i+j)) x y H Q∨(∃i j,x=.str i/\y=.str j/\i.length+j.length<=sizeLine/\Q (.str (i++j)) H)∨Z.J8 K x y H Q
theorem PJ:lN X (binaryOp .Add) (Rz X.K):=Vs.or (Az.or xq)
theorem K6:oY X (Rz X.K) dh:=by
 intro m S H x y v u Q w r1 r2 q;unfold dh at q;split at q
 ·rename_i i j h1 h2;cases Il h1 (λ_ z=>by cases z);cases Il h2 (λ_ z=>by cases z)
  cases dw r1;cases dw r2
  exact .inl ⟨i,j,rfl,rfl,q _ H m Xt.refl w eY⟩
 ·rename_i i j h1 h2;cases Il h1 (λ_ z=>by cases z);cases Il h2 (λ_ z=>by cases z)
  cases jJ r1;cases jJ r2
  split at q
  ·rename_i hl;exact .inr (.inl ⟨i,j,rfl,rfl,bM hl,q _ H m Xt.refl w nj⟩)
  ·exact q.elim
 ·rename_i ds es h1 h2;split at q
  ·rename_i hl;obtain ⟨l,vs,rfl,s1,q1⟩:=jO w r1 h1;obtain ⟨b,us,rfl,s2,q2⟩:=jO w r2 h2;refine .inr (.inr ⟨l,b,vs,us,rfl,rfl,s1,s2,by rw [aD.length q1,aD.length q2];exact bM hl,λp hp=>?_⟩);exact q _ _ m (Xt.new hp) (w.new hp) (rM w hp (Z.aD.app q1 q2))
  ·exact q.elim
 ·exact q.elim
theorem cO (ha:QE X a f) (hb:QE X b g):QE X (.BinOp a .Add b pos) (bin dh f g):=yP PJ K6 ha hb
def wN (x y:A) (S:aM):Option (List D):=match x.sh S,y.sh S with
 |some (.lst ds),some (.lst es)=>if ds.length+es.length<=lim then some (ds++es) else none
 |_,_=>none
theorem QV:RW X (Z.J8 X.K) wN:=by
 intro m S H x y zs v u Q w r1 r2 e q;unfold wN at e;split at e
 ·rename_i ds es h1 h2;split at e
  ·rename_i hl;cases e
   obtain ⟨l,vs,rfl,s1,q1⟩:=jO w r1 h1;obtain ⟨b,us,rfl,s2,q2⟩:=jO w r2 h2;exact ⟨l,b,vs,us,rfl,rfl,s1,s2,by rw [aD.length q1,aD.length q2];exact bM hl,λp hp=>q p _ hp (Z.aD.app q1 q2)⟩
  ·cases e
 ·cases e
theorem xQ (ha:QE X a f) (hb:QE X b g):QL X (.BinOp a .Add b pos) (Aa wN f g):=lM (Kw xq ha hb) (QM QV)
def oI (g:Int->Int->Option D):O2:=λx y S=>match x,y with
 |.d (.int i),.d (.int j)=>(opt (g i j) S).bind λz S=>.ok (.d z) S
 |_,_=>.no
theorem Dc {C:Int->Int->Prop}{g:Int->Int->Option D}{h:Int->Int->Int}(hg:∀i j c,g i j=some c->C i j/\c=.int (h i j)):oY X (rI C λi j=>.int (h i j)) (oI g):=by
 intro m S H x y v u Q w r1 r2 q;unfold oI at q;split at q
 ·rename_i i j;obtain ⟨z,hz,q⟩:=q.bind.opt;obtain ⟨h1,rfl⟩:=hg i j z hz;exact ⟨i,j,dw r1,dw r2,h1,q _ H m Xt.refl w eY⟩
 ·exact q.elim
theorem Bj {g:Int->Int->Option D}{h:Int->Int->Bool}(hg:∀i j c,g i j=some c->c=.bl (h i j)):oY X (Jw λi j=>.bl (h i j)) (oI g):=by
 intro m S H x y v u Q w r1 r2 q;unfold oI at q;split at q
 ·rename_i i j;obtain ⟨z,hz,q⟩:=q.bind.opt;cases hg i j z hz
  exact ⟨i,j,dw r1,dw r2,q _ H m Xt.refl w iC⟩
 ·exact q.elim
theorem uF (ha:QE X a f) (hb:QE X b g):QE X (.BinOp a .Mult b pos) (bin (oI Z.BJ) f g):=yP SJ (Dc λi j c e=>by
 unfold Z.BJ at e;split at e
 ·rename_i h;cases e;exact ⟨h,rfl⟩
 ·cases e) ha hb
theorem dN (ha:QE X a f) (hb:QE X b g):QE X (.BinOp a .FloorDiv b pos) (bin (oI Z.dz) f g):=yP Ow (Dc λi j c e=>by
 unfold Z.dz at e;split at e
 ·rename_i h;cases e;exact ⟨h,rfl⟩
 ·cases e) ha hb
theorem cN (ha:QE X a f) (hb:QE X b g):QE X (.BinOp a .Mod b pos) (bin (oI Z.bH) f g):=yP Tj (Dc λi j c e=>by
 unfold Z.bH at e;split at e
 ·rename_i h;cases e;exact ⟨h,rfl⟩
 ·cases e) ha hb
theorem Mp (ha:QE X a f) (hb:QE X b g):QE X (.BinOp a .Pow b pos) (bin (oI Z.Qw) f g):=yP T8 (Dc λi j c e=>by
 unfold Z.Qw at e;split at e
 ·rename_i h;cases e;exact ⟨⟨h.1,by omega,h.2.2⟩,rfl⟩
 ·cases e) ha hb
theorem Ug:oY X (Jw λi j=>.bl (decide (i < j))) (oI Z.Nf):=Bj λ_ _ _ e=>by cases e;rfl
theorem Xd:oY X (Jw λi j=>.bl (decide (j < i))) (oI Z.Zd):=Bj λ_ _ _ e=>by cases e;rfl
theorem V0:oY X (Jw λi j=>.bl (decide (j<=i))) (oI Z.gGe):=Bj λ_ _ _ e=>by cases e;rfl
theorem M5 (ha:QE X a f) (hb:QE X b g):QT X (.Compare a [.Lt] [b] pos) (bZ (bin (oI Z.Nf) f g)):=jq Yo Ug ha hb (mO _)
theorem Sx (ha:QE X a f) (hb:QE X b g):QT X (.Compare a [.Gt] [b] pos) (bZ (bin (oI Z.Zd) f g)):=jq XM Xd ha hb (mO _)
theorem Zk (ha:QE X a f) (hb:QE X b g):QT X (.Compare a [.GtE] [b] pos) (bZ (bin (oI Z.gGe) f g)):=jq Ye V0 ha hb (mO _)
def uT:O1:=λx S=>match x with
 |.d (.int i)=>.ok (.d (.int (-i))) S
 |_=>.no
theorem Pg:V1 X (rU λi=>.int (-i)) uT:=by
 intro m S H x v Q w r q;unfold uT at q;split at q
 ·rename_i i;exact ⟨i,dw r,q _ H m Xt.refl w eY⟩
 ·exact q.elim
theorem VR (ha:QE X a f):QE X (.UnaryOp .USub a pos) (un uT f):=XJ VF Pg ha
def oEq (neg:Bool):O2:=λx y S=>match x.get S,y.get S with
 |some d,some d'=>if fX d<=50 then (opt (cA d d') S).bind λb S=>.ok (.d (.bl (if neg then !b else b))) S else .no
 |_,_=>.no
theorem ug {neg:Bool}:oY X (VL X.K neg) (oEq neg):=by
 intro m S H x y v u Q w r1 r2 q;unfold oEq at q;split at q
 ·rename_i d d' h1 h2;split at q
  ·rename_i hd;obtain ⟨b,hb,q⟩:=q.bind.opt;exact ⟨d,d',b,r1.rep w h1,r2.rep w h2,hd,hb,q _ H m Xt.refl w iC⟩
  ·exact q.elim
 ·exact q.elim
theorem KC {k:Nat}(hr:dj k X.A) (ha:QE X a f) (hb:QE X b g):QE X (.Compare a [.Eq] [b] pos) (bin (oEq false) f g):=Jt (Cj (Gy hr)) ug ha hb (mO _)
theorem lG {k:Nat}(hr:dj k X.A) (ha:QE X a f) (hb:QE X b g):QT X (.Compare a [.Eq] [b] pos) (bZ (bin (oEq false) f g)):=jq (Cj (Gy hr)) ug ha hb (mO _)
theorem Iw {k:Nat}(hr:dj k X.A) (ha:QE X a f) (hb:QE X b g):QT X (.Compare a [.NotEq] [b] pos) (bZ (bin (oEq true) f g)):=jq (Ih (Gy hr)) ug ha hb (mO _)
def eE (neg:Bool):O2:=λx y S=>match y.dct S,rC x with
 |some kvs,some k=>.ok (.d (.bl (if neg then !(gv kvs k).isSome else (gv kvs k).isSome))) S
 |some _,none=>.no
 |none,_=>match x.get S,y.get S with
  |some (.str i),some (.str j)=>.ok (.d (.bl (if neg then !Z.Ie i j else Z.Ie i j))) S
  |some d,some (.lst ds)=>if ds.all (Z.oX d)=true then .ok (.d (.bl (if neg then !Z.inD d ds else Z.inD d ds))) S else .no
  |some d,some (.tup ds)=>if ds.all (Z.oX d)=true then .ok (.d (.bl (if neg then !Z.inD d ds else Z.inD d ds))) S else .no
  |_,_=>.no
def abB (neg:Bool):R2:=λx y H Q=>∃i j,x=.str i/\y=.str j/\Q (.bl (if neg then !(!(Builtin.Str.occurrences j i 0 j.length 1).isEmpty) else !(Builtin.Str.occurrences j i 0 j.length 1).isEmpty)) H
def U_ (K:zF) (neg:Bool):R2:=λx y H Q=>Z.V2 neg x y H Q∨Z.V9 K neg x y H Q∨abB neg x y H Q
theorem Ce (hu:X.A.units+60 < cLine):lN X (compareOp .In) (U_ X.K false):=(Z.Tf (by omega)).or ((Z.Vt hu).or Hi)
theorem El (hu:X.A.units+60 < cLine):lN X (compareOp .NotIn) (U_ X.K true):=(Z.GZ (by omega)).or ((Z.O7 hu).or wZ)
theorem tu {neg:Bool}:oY X (U_ X.K neg) (eE neg):=by
 intro m S H x y v u Q w r1 r2 q;unfold eE at q;split at q
 ·rename_i kvs k h1 h2;obtain ⟨a,ws,rfl,hd,hk⟩:=sW w r2 h1;cases jC r1 h2
  refine .inl ⟨a,mQ ws k,rfl,.inl ⟨ws,k,hd,rfl,rfl⟩,?_⟩;rw [hk.isSome];exact q _ H m Xt.refl w iC
 ·exact q.elim
 ·split at q
  ·rename_i i j h1 h2;have e1:=r1.rep w h1;have e2:=r2.rep w h2;unfold Rep at e1 e2;exact .inr (.inr ⟨i,j,e1,e2,q _ H m Xt.refl w iC⟩)
  ·rename_i d ds h1 h2;split at q
   ·rename_i ha;have e2:=r2.rep w h2;unfold Rep at e2;obtain ⟨p,zs,rfl,hq,hr⟩:=e2;exact .inr (.inl ⟨d,ds,p,zs,r1.rep w h1,rfl,.inl hq,hr,Z.Bp ha,q _ H m Xt.refl w iC⟩)
   ·exact q.elim
  ·rename_i d ds h1 h2;split at q
   ·rename_i ha;have e2:=r2.rep w h2;unfold Rep at e2;obtain ⟨p,zs,rfl,hq,hr⟩:=e2;exact .inr (.inl ⟨d,ds,p,zs,r1.rep w h1,rfl,.inr hq,hr,Z.Bp ha,q _ H m Xt.refl w iC⟩)
   ·exact q.elim
  ·exact q.elim
theorem Ln {k:Nat}(hr:dj k X.A) (ha:QE X a f) (hb:QE X b g) (hm:behindInMarks .In b=false:=by rfl):QE X (.Compare a [.In] [b] pos) (bin (eE false) f g):=Jt (Ce (Gy hr)) tu ha hb hm
theorem qZ {k:Nat}(hr:dj k X.A) (ha:QE X a f) (hb:QE X b g) (hm:behindInMarks .In b=false:=by rfl):QT X (.Compare a [.In] [b] pos) (bZ (bin (eE false) f g)):=jq (Ce (Gy hr)) tu ha hb hm
theorem CT {k:Nat}(hr:dj k X.A) (ha:QE X a f) (hb:QE X b g) (hm:behindInMarks .NotIn b=false:=by rfl):QT X (.Compare a [.NotIn] [b] pos) (bZ (bin (eE true) f g)):=jq (El (Gy hr)) tu ha hb hm
@[simp] def A.seq (S:aM):A->Option (List A)
 |.d (.lst ds)=>some (ds.map .d)
 |.d (.tup ds)=>some (ds.map .d)
 |.t xs=>some xs
 |.p i=>match S[i]? with
  |some c=>c.its
  |none=>none
 |_=>none
theorem LK {S:aM}{x:A}{xs:List A}(w:Wd K m S H) (r:RA K m H x v) (e:A.seq S x=some xs):∃a vs,v=.ref a/\(cB K H a vs∨iG K H a vs)/\bf K m H xs vs:=by
 cases x with
 |k u=>cases e
 |t ys=>cases e;obtain ⟨a,vs,rfl,h1,h2⟩:=RA.yO.mp r;exact ⟨a,vs,rfl,.inr (iG.pY h1),h2⟩
 |p k=>
  obtain ⟨a,ha,rfl⟩:=RA.fH.mp r;obtain ⟨c,hc,ok⟩:=w.at ha;simp only [A.seq,hc] at e;obtain ⟨vs,h1,h2⟩:=jk ok e;exact ⟨a,vs,rfl,.inl (cB.of h1),h2⟩
 |d y=>
  have r2:=RA.cI.mp r;cases y with
  |lst ds=>cases e;unfold Rep at r2;obtain ⟨a,vs,rfl,h1,h2⟩:=r2;exact ⟨a,vs,rfl,.inl (cB.pY h1),dO h2⟩
  |tup ds=>cases e;unfold Rep at r2;obtain ⟨a,vs,rfl,h1,h2⟩:=r2;exact ⟨a,vs,rfl,.inr (iG.pY h1),dO h2⟩
  |str z=>cases e
  |non=>cases e
  |bl b=>cases e
  |int i=>cases e
theorem bf.nQ {K:zF}{m:List Addr}{H:Hp}{xs:List A}{vs:List V}{i:Int}{x:A}(h:bf K m H xs vs) (e:L2.nQ xs i=some x):∃v,L2.nQ vs i=some v/\RA K m H x v:=by
 unfold L2.nQ at e ⊢;rw [h.length];cases hn:Ib xs.length i with
 |none=>rw [hn] at e;cases e
 |some j=>rw [hn] at e;exact h.get e
def fK:O2:=λx y S=>match y.dct S with
 |some _=>.no
 |none=>match x.dct S with
  |some kvs=>match rC y with
   |some k=>opt (gv kvs k) S
   |none=>.no
  |none=>match x,y with
   |.d (.str z),.d (.int i)=>if z.length<=lim then opt ((nQ z.cps.toList i).map λc=>.d (.str ⟨#[c]⟩)) S else .no
   |x,.d (.int i)=>(opt (x.seq S) S).bind λxs S=>opt (nQ xs i) S
   |_,_=>.no
theorem Jp:oY X (λx y H Q=>rIx X.K x y H Q∨U8 x y H Q) fK:=by
 intro m S H x y v u Q w r1 r2 q;unfold fK at q;split at q
 ·exact q.elim
 ·split at q
  ·rename_i kvs hk;split at q
   ·rename_i k hkey;obtain ⟨z,hz,q⟩:=q.opt;obtain ⟨a,ws,rfl,hd,hr⟩:=sW w r1 hk;obtain ⟨t,ht,rt⟩:=hr.LC hz;cases jC r2 hkey
    exact .inr ⟨a,t,rfl,.inl ⟨ws,k,hd,rfl,ht.symm⟩,q t H m Xt.refl w rt⟩
   ·exact q.elim
  ·split at q
   ·rename_i z i _;cases jJ r1;cases dw r2
    split at q
    ·rename_i hl;obtain ⟨x,hx,q⟩:=q.opt;obtain ⟨c,hc,rfl⟩:=Option.map_eq_some_iff.mp hx;exact .inl (.inr (.inr ⟨_,_,c,rfl,rfl,bM hl,hc,q _ H m Xt.refl w nj⟩))
    ·exact q.elim
   ·rename_i x i _ _;cases dw r2
    obtain ⟨xs,hx,q⟩:=q.bind.opt;obtain ⟨z,hz,q⟩:=q.opt;obtain ⟨a,vs,rfl,hs,hr⟩:=LK w r1 hx;obtain ⟨t,ht,rt⟩:=hr.nQ hz;rcases hs with hs | hs
    ·exact .inl (.inl ⟨a,vs,i,t,rfl,rfl,hs,ht,q t H m Xt.refl w rt⟩)
    ·exact .inl (.inr (.inl ⟨a,vs,i,t,rfl,rfl,hs,ht,q t H m Xt.refl w rt⟩))
   ·exact q.elim
theorem cG {k:Nat}(hr:dj k X.A) (ha:QE X a f) (hb:QE X b g) (hs:rK b):QE X (.Subscript a b pos) (bin fK f g):=Ro (KJ (zBF (zAZ _) (Z.hu2 hr))) Jp ha hb hs
def yM:O3:=λx y z S=>match x with
 |.p k=>match S[k]? with
  |some (.dic kvs)=>match rC y with
   |some key=>if kvs.length < lim then .ok () (S.set k (.dic (pv kvs key z))) else .no
   |none=>.no
  |some (.lst ds)=>match y,z with
   |.d (.int i),.d v=>match Ib ds.length i with
    |some j=>.ok () (S.set k (.lst (ds.set j v)))
    |none=>.no
   |_,_=>.no
  |some (.gen xs)=>match y with
   |.d (.int i)=>match Ib xs.length i with
    |some j=>.ok () (S.set k (.gen (xs.set j z)))
    |none=>.no
   |_=>.no
  |_=>.no
 |_=>.no
theorem bf.set {K:zF}{m:List Addr}{H:Hp}{x:A}{v:V}(r:RA K m H x v):∀{xs:List A}{vs:List V}(n:Nat),bf K m H xs vs->bf K m H (xs.set n x) (vs.set n v)
 |[],vs,n,h=>by rw [h.nil_inv];exact bf.nil
 |e::xs,vs,0,h=>by obtain ⟨u,t,rfl,h1,h2⟩:=h.cons_inv;exact bf.cons r h2
 |e::xs,vs,n+1,h=>by obtain ⟨u,t,rfl,h1,h2⟩:=h.cons_inv;exact bf.cons h1 (bf.set r n h2)
theorem wY {a:Addr}{vs:List V}(h:H a=some (.lst vs)):∀ob u,H a≠some (.frz ob u):=λob u z=>by rw [h] at z;cases z
theorem DR {a:Addr}{vs:List (Key×V)}(h:H a=some (.dK vs)):∀ob u,H a≠some (.frz ob u):=λob u z=>by rw [h] at z;cases z
theorem Uk {a C dx:Addr}{vs:List (Str×V)}(h:H a=some (.ins C dx vs)):∀ob u,H a≠some (.frz ob u):=λob u z=>by rw [h] at z;cases z
theorem wW:Yv X (λo i v H Q=>Iv o i v H Q∨Li o i v H Q) yM:=by
 intro m S H x y z v u t Q w r1 r2 r3 q;unfold yM at q;split at q
 ·rename_i k;obtain ⟨a,ha,rfl⟩:=RA.fH.mp r1;split at q
  ·rename_i kvs hc;split at q
   ·rename_i key hk;split at q
    ·rename_i hl;obtain ⟨ws,h1,h2⟩:=w.cell k a _ ha hc;cases jC r2 hk
     exact .inr ⟨a,_,rfl,M7.k h1 (by rw [h2.length];exact zBz hl cM),q _ m (Xt.upd (zAh ha) (DR h1)) (w.pU ha (h2.put r3))⟩
    ·exact q.elim
   ·exact q.elim
  ·rename_i ds hc;split at q
   ·rename_i i d;split at q
    ·rename_i j hj;obtain ⟨vs,h1,h2⟩:=w.cell k a _ ha hc;cases dw r2
     exact .inl ⟨a,vs,i,j,rfl,rfl,h1,by rw [aD.length h2];exact hj,q _ m (Xt.upd (zAh ha) (wY h1)) (w.Qk ha (Z.aD.put j h2 (RA.cI.mp r3)))⟩
    ·exact q.elim
   ·exact q.elim
  ·rename_i xs hc;split at q
   ·rename_i i;split at q
    ·rename_i j hj;obtain ⟨vs,h1,h2⟩:=w.cell k a _ ha hc;cases dw r2
     exact .inl ⟨a,vs,i,j,rfl,rfl,h1,by rw [h2.length];exact hj,q _ m (Xt.upd (zAh ha) (wY h1)) (w.Nu ha (bf.set r3 j h2))⟩
    ·exact q.elim
   ·exact q.elim
  ·exact q.elim
 ·exact q.elim
theorem U4 {pos':Pos}{k:Nat}(hr:dj k X.A) (he:QE X e f) (ha:QE X a g) (hb:QE X b h)
  (hpg:∀v,assign (.Subscript a b pos') X.env v=(do
   let ov <-holding [v] (eval a X.env)
   let iv <-holding [v,ov] (eval b X.env)
   standAt pos'
   holding [v,ov,iv] (setItem ov iv v)
   release [v,ov,iv] []):=by intro _;rfl)
  (hs:swapsWithSole [.Subscript a b pos'] e pos.line X.env=pure false:=by rfl) (hw:swappedStores [.Subscript a b pos'] e X.env=pure none:=by rfl)
  (h1:(assignEach [.Subscript a b pos'] X.env).map (·.2)=[assign (.Subscript a b pos') X.env]:=by rfl) :
  QS X (.Assign [.Subscript a b pos'] e pos) (Hf yM f g h):=Wj (Pk (zBF (zAZ _) (Z.hu2 hr))) wW he ha hb hpg hs hw h1
end
end Y
namespace L2
open PySem PySem.Spec PyProof.Rows
section
variable {X:Cx}
def Eb:V->List V->Hp->VK->Prop:=λx vs H Q=>∃l xs i y,x=.ref l/\vs=[.int i,y]/\H l=some (.lst xs)/\0<=i/\i < 2 ^ 62/\xs.length < sizeLine/\Q .non (upd H l (.lst (xs.take i.toNat++y::xs.drop i.toNat)))
theorem Hh:MtM X "list.insert" Eb:=by
 intro pins s σ H x vs v us Q I rx rv h;obtain ⟨l,xs,i,y,rfl,rfl,hH,h0,h1,hz,q⟩:=h;cases rx
 obtain ⟨u,u',rfl,⟨t,rfl⟩,ru⟩:=vals2 rv;obtain ⟨z,its,n,r,hl,e⟩:=I.YZ hH;have hf:¬(!Builtin.List.listFitsIndex i)=true:=by
  unfold Builtin.List.listFitsIndex;have a:decide (-(2 ^ 63:Int)<=i)=true:=decide_eq_true (by omega);have b:decide (i < 2 ^ 63)=true:=decide_eq_true (by omega);rw [a,b];decide
 refine call_meets F.slot_list_insert ⟨_,e,rfl⟩ F.entry_list_insert (by first | exact F.args_list_insert_3 _ _ _ | (unfold argsOk;kernel_rfl)) (AutoListH.list_insert_list_int_val_1 l its.toArray n i t u' hf (by rw [zAo];omega)) ⟨e,?_⟩;refine ⟨.non,_,I.Yr (its':=its.take i.toNat++u'::its.drop i.toNat) hH e ?_ ((r.take _).append (.cons ru (r.drop _))) ?_,rfl,q⟩
 ·have hn:¬i < 0:=by omega
  simp only [if_neg hn];by_cases hk:i.toNat<=its.length
  ·have hm:min i.toNat its.toArray.size=i.toNat:=by rw [zAo];omega
   rw [hm];simp;rw [zBj (by rw [zBC];omega)]
  ·have hm:min i.toNat its.toArray.size=its.length:=by rw [zAo];omega
   rw [hm,zBj (by omega),List.drop_eq_nil_of_le (by omega)];simp
 ·rw [zAy,zAv,zAW,zBC];omega
def Ft:V->List V->Hp->VK->Prop:=λx vs H Q=>∃a b kvs more,x=.ref a/\vs=[.ref b]/\a≠b/\H a=some (.dK kvs)/\Rd H b (.dK more)/\kvs.length+more.length<=sizeLine/\Q .non (upd H a (.dK (lB kvs more)))
theorem Hl:Z6 X "dict.update" Ft:=by
 intro pins s σ H x vs v us Q I rx rv h;obtain ⟨a,b,kvs,more,rfl,rfl,hne,ha,hb,hz,q⟩:=h;cases rx
 obtain ⟨u,rfl,ru⟩:=vals1 rv;cases ru
 obtain ⟨z1,hs1,vs1,rel1,dd1⟩:=DQ I.hok ha;obtain ⟨z2,hs2,vs2,rel2,dd2⟩:=qO I.hok hb;refine call_meetsIn PySem.F.slot_dict_update dd1.typeIs PySem.F.entry_dict_update (PySem.F.args_dict_update_2 _ _) (meets_dict_update (aN X.prog X.w) a b hne hs2) ⟨vs1,vs2,dd1,dd2,by rw [<-rel1.length,<-rel2.length];exact hz,λh' d1 d2 hs=>?_⟩;have he:∃q,h'.get? a=some q:=let ⟨q,_,_,hq,_⟩:=d1;⟨q,hq⟩
 exact ⟨.non,_,pZ I (by rw [ha];exact True.intro) hs he (tL (zAB (jN more kvs) hz) hs1 (rel2.merge rel1) d1),rfl,q⟩
def Jj (K:zF):V->List V->Hp->VK->Prop:=λx vs H Q=>∃l zs y d ds j,x=.ref l/\vs=[y]/\cB K H l zs/\Rep K H d y/\aD K H ds zs/\Z.Pn d ds/\ds.findIdx? (λe=>decide (cA e d=some true))=some j/\Q (.int j) H
theorem MN (hu:X.A.units+60 < cLine):Z6 X "list.index" (Jj X.K):=by
 intro pins s σ H x vs v us Q I rx rv h;obtain ⟨l,zs,y,d,ds,j,rfl,rfl,hq,hd,hr,ha,hj,q⟩:=h;cases rx
 obtain ⟨u,rfl,ru⟩:=vals1 rv;obtain ⟨its,rv,pl,hz⟩:=I.list hq;obtain ⟨n,sl,e⟩:=list_all pl;have l1:=rv.length;have l2:=aD.length hr;obtain ⟨hjl,hjt,hjn⟩:=List.findIdx?_eq_some_iff_getElem.mp hj
 classical
 have key:∀k (hk:k < its.length) (hk':k < ds.length),∃b,cA ds[k] d=some b/\decide (∃e t,e∈ds/\Rep X.K H e t/\RelV t its[k]/\cA e d=some true)=b/\SeqAt.EqAt X.A.in1 s its[k] u b:=λk hk hk'=>by
  obtain ⟨z,hzz,rz⟩:=rv.at hk;obtain ⟨e',he,re⟩:=aD.get hr hzz;have ee:e'=ds[k]:=by rw [zAc hk'] at he;exact (Option.some.inj he).symm
  subst ee;obtain ⟨h50,b,hb⟩:=ha _ (zBi hk');refine ⟨b,hb,?_,uI I 50 X.A.in1 _ d z y _ _ b h50 (by show X.A.units+1+50 < cLine;omega) re hd rz ru hb⟩;cases b with
  |true=>exact decide_eq_true ⟨_,z,zBi hk',re,rz,hb⟩
  |false=>
   refine decide_eq_false ?_;rintro ⟨e',t,_,re',rt,h'⟩;have:=Z.zc rt rz;subst this;rw [I.pJ re' re,hb] at h';cases h'
 refine call_meets F.slot_list_index ⟨_,e,rfl⟩ F.entry_list_index (F.args_list_index_2 _ _) (SeqAt.list_indexAt l its.toArray n none sl u (λw=>decide (∃e t,e∈ds/\Rep X.K H e t/\RelV t w/\cA e d=some true)) j (by rw [zAo];omega) (by have:=oK;omega) ?_ ?_) ⟨e,λw hw=>?_,⟨.int j,H,I.tok _,⟨_,rfl⟩,q⟩⟩
 ·obtain ⟨b,hb,h1,_⟩:=key j (by omega) hjl;have hb':b=true:=by
   have:=of_decide_eq_true hjt;rw [hb] at this;exact Option.some.inj this
  subst hb';simpa using h1
 ·intro k hk hkj;rw [zAo] at hk;obtain ⟨b,hb,h1,_⟩:=key k hk (by omega);have hb':b=false:=by
   have:=hjn k hkj;cases b with
   |false=>rfl
   |true=>rw [hb] at this;simp at this
  subst hb';simpa using h1
 ·have hw':w∈its:=by simpa using hw
  obtain ⟨k,hk,rfl⟩:=zCm hw';obtain ⟨b,_,h1,h2⟩:=key k hk (by omega);rw [h1];exact h2
end
end L2
namespace Y
open PySem L2
open Z (fG dI aZ dM bJ eZ cV bG lim cM bM)
variable {X:Cx}{a acc C:Addr}{e tg kx vx:Expr}{es:List Expr}{f fk:FE}{fa:FA}{pos p p2 apos cpos:Pos}{l m:List Addr}{r:V->List V->Hp->VK->Prop}{K:zF}{H H1 H':Hp}{vs:List V}{y:A}{c:Nat}{S S' Sf S1:aM}{T:String}{v:V}{xs:List A}{t:FT}{α β:Type}{σ:St}{ρ ρf:dH}{J:It}{ck:Ck}{D':Ends}{fi:FI}{F:FF}{fd:FuncData}{ps:List Str}
section
variable {a b o:Expr}{g h:FE}
abbrev FO:=dH->aM->R (Option Int)
def tFO (X:Cx) (f:FO):TO:=λσ H Q=>∃ρ S m,RS X.K m H σ ρ/\Wd X.K m S H/\Res X m H (f ρ S) λx S'=>∀H' m',Xt m H m' H'->Wd X.K m' S' H'->Q x H'
abbrev QO (X:Cx) (e:Option Expr) (f:FO):Prop:=PO X e (tFO X f)
def Aq:FO:=λ_ S=>.ok none S
def iB (f:FE):FO:=λρ S=>(f ρ S).bind λx S=>match x with
 |.d (.int i)=>.ok (some i) S
 |_=>.no
theorem nF:QO X none Aq:=imO Qh λσ H Q q=>by
 obtain ⟨ρ,S,m,Rr,W,q⟩:=q;exact q H m Xt.refl W
theorem jF (h:QE X e f):QO X (some e) (iB f):=imO (Qq h) λσ H Q q=>by
 obtain ⟨ρ,S,m,Rr,W,q⟩:=q;refine ⟨ρ,S,m,Rr,W,q.bind.imp λx S1 q v H1 m1 x1 w1 r1=>?_⟩;split at q
 ·exact ⟨_,dw r1,q H1 m1 x1 w1⟩
 ·exact q.elim
def yR (x:A) (lo hi:Option Int) (S:aM):R A:=match x.sh S with
 |some (.lst ds)=>.ok (.d (.lst (Z.cutD ds lo hi))) S
 |_=>.no
def tU (f:FE) (l h:FO):FE:=λρ S=>(f ρ S).bind λx S=>(l ρ S).bind λlo S=>(h ρ S).bind λhi S=>yR x lo hi S
theorem lU {lo hi:Option Expr}{l h:FO}(he:QE X e f) (hl:QO X lo l) (hh:QO X hi h):QE X (.Subscript e (.Slice lo hi none p2) pos) (tU f l h):=lM (yL Dr he hl hh) λσ H Q q=>by
 obtain ⟨ρ,S,m,Rr,W,q⟩:=q;refine ⟨ρ,S,m,Rr,W,q.bind.imp λx S1 q v H1 m1 x1 w1 r1=>⟨ρ,S1,m1,Rr.ext x1,w1,(q.step x1).bind.imp λlo S2 q H2 m2 x2 w2=>⟨ρ,S2,m2,(Rr.ext x1).ext x2,w2,(q.step x2).bind.imp λhi S3 q H3 m3 x3 w3=>?_⟩⟩⟩;have x4:=x1.trans (x2.trans x3);have r3:=(r1.ext x2).ext x3;unfold yR at q;split at q
 ·rename_i ds hd;obtain ⟨a,vs,rfl,h1,h2⟩:=jO w3 r3 hd;exact ⟨a,vs,rfl,h1,λp hp=>q _ _ m3 (x4.trans (Xt.new hp)) (w3.new hp) (rM w3 hp (Z.aD.cut h2 lo hi))⟩
 ·exact q.elim
def Ql (X:Cx) (r:List V->Hp->VK->Prop) (o:List A->aM->R A):Prop:=∀{m:List Addr}{S:aM}{H:Hp}{xs:List A}{vs:List V}{Q:VK},Wd X.K m S H->bf X.K m H xs vs->Res X m H (o xs S) (xP X.K m H Q)->r vs H Q
def RG (X:Cx) (r:List V->Hp->VK->Prop) (o:List A->aM->Option (List D)):Prop:=∀{m:List Addr}{S:aM}{H:Hp}{xs:List A}{ds:List D}{vs:List V}{Q:VK},Wd X.K m S H->bf X.K m H xs vs->o xs S=some ds->(∀p us,H p=none->aD X.K (fG m H) ds us->Q (.ref p) (upd H p (.lst us)))->r vs H Q
def cal (o:List A->aM->R A) (fa:FA):FE:=λρ S=>(fa ρ S).bind o
def oO (o:List A->aM->Option (List D)) (fa:FA):FL:=λρ S=>(fa ρ S).bind λxs S=>opt (o xs S) S
theorem Bx {r:List V->Hp->VK->Prop}{o:List A->aM->R A}(hf:Ql X r o):∀σ H Q,tF X (cal o fa) σ H Q->Xn r (TQ X fa) σ H Q:=by
 rintro σ H Q ⟨ρ,S,m,Rr,W,q⟩;exact ⟨ρ,S,m,Rr,W,q.bind.imp λxs S1 q vs H1 m1 x1 w1 r1=>hf w1 r1 ((q.step x1).imp λz S2 q=>xP.step x1 q)⟩
theorem Ni {r:List V->Hp->VK->Prop}{o:List A->aM->Option (List D)}(hf:RG X r o):∀σ H Q,tFL X (oO o fa) σ H Q->Xn r (TQ X fa) σ H Q:=by
 rintro σ H Q ⟨ρ,S,m,Rr,W,q⟩;refine ⟨ρ,S,m,Rr,W,q.bind.imp λxs S1 q vs H1 m1 x1 w1 r1=>?_⟩;obtain ⟨ds,hd,q⟩:=q.opt;exact hf w1 r1 hd λp us hp hr=>q p us H1 m1 x1 w1 hp hr
theorem lY {x:A}(h:bf K m H [x] vs):∃v,vs=[v]/\RA K m H x v:=by
 obtain ⟨v,us,rfl,h1,h2⟩:=h.cons_inv;rw [h2.nil_inv];exact ⟨v,rfl,h1⟩
theorem Ub {x:A}(h:bf K m H [x,y] vs):∃v u,vs=[v,u]/\RA K m H x v/\RA K m H y u:=by
 obtain ⟨v,us,rfl,h1,h2⟩:=h.cons_inv;obtain ⟨u,rfl,h3⟩:=lY h2;exact ⟨v,u,rfl,h1,h3⟩
def cH (xs:List A) (S:aM):R A:=match xs with
 |[x]=>match x.dct S with
  |some kvs=>.ok (.d (.int kvs.length)) S
  |none=>match x with
   |.d (.str z)=>if z.length<=lim then .ok (.d (.int z.length)) S else .no
   |x=>(opt (x.seq S) S).bind λys S=>.ok (.d (.int ys.length)) S
 |_=>.no
def Ru (K:zF):List V->Hp->VK->Prop:=λxs H Q=>(∃x n,xs=[x]/\X7 K x H n/\Q (.int n) H)∨∃a kvs,xs=[V.ref a]/\Rd H a (.dK kvs)/\Q (.int kvs.length) H
theorem G8:g8 X (.builtin "len") (Ru X.K):=Mx.or (by
 intro pins s σ H xs us Q I r h;obtain ⟨a,kvs,rfl,ha,q⟩:=h;obtain ⟨u,rfl,ru⟩:=vals1 r;cases ru
 exact Xx I ha λt s' I'=>⟨.int kvs.length,H,I',⟨t,rfl⟩,q⟩)
theorem O4:Ql X (Ru X.K) cH:=by
 intro m S H xs vs Q w r q;unfold cH at q;split at q
 ·rename_i x;obtain ⟨v,rfl,r'⟩:=lY r;split at q
  ·rename_i kvs hk;obtain ⟨a,ws,rfl,hd,hr⟩:=sW w r' hk;refine .inr ⟨a,ws,rfl,hd,?_⟩;rw [hr.length];exact q _ H m Xt.refl w eY
  ·split at q
   ·rename_i z _;split at q
    ·rename_i hl;cases jJ r'
     exact .inl ⟨_,_,rfl,⟨bM hl,rfl⟩,q _ H m Xt.refl w eY⟩
    ·exact q.elim
   ·obtain ⟨ys,hy,q⟩:=q.bind.opt;obtain ⟨a,us,rfl,hs,hr⟩:=LK w r' hy;refine .inl ⟨_,us.length,rfl,?_,by rw [hr.length];exact q _ H m Xt.refl w eY⟩;rcases hs with hs | hs
    ·exact .inl ⟨us,hs,rfl⟩
    ·exact .inr ⟨us,hs,rfl⟩
 ·exact q.elim
theorem gk (hg:Gl X "len") (hm:X.mg "len" = none) (ha:QA X (e::es) fa) (he:starEach (e::es) X.env=(false,eval e X.env)::starEach es X.env:=by rfl) (hpl:(backTo pos (starEach es X.env)).any (·.1)=false:=by rfl):QE X (.Call (.Name "len" p) (e::es) [] pos) (cal cH fa):=
 lM (iT G8 hg hm UJ ha (by decide) (by decide) he hpl) (Bx O4)
def kD:Key->D
 |.inl i=>.int i
 |.inr z=>.str z
def iW (xs:List A) (S:aM):Option (List D):=match xs with
 |[x]=>match x.dct S with
  |some kvs=>some (kvs.map λp=>kD p.1)
  |none=>match x.sh S with
   |some (.lst ds)=>some ds
   |some (.tup ds)=>some ds
   |_=>none
 |_=>none
def SN (K:zF):List V->Hp->VK->Prop:=λxs H Q=>(∃p ys,xs=[.ref p]/\(cB K H p ys∨iG K H p ys)/\∀l,H l=none->Q (.ref l) (upd H l (.lst ys)))∨∃p kvs,xs=[.ref p]/\Rd H p (.dK kvs)/\∀l,H l=none->Q (.ref l) (upd H l (.lst (kvs.map λkv=>kV kv.1)))
theorem qx {K:zF}{H:Hp}:∀ks:List Key,aD K H (ks.map kD) (ks.map kV)
 |[]=>Z.aD.nil
 |.inl i::r=>Z.aD.cons (by unfold kD kV Rep;rfl) (qx r)
 |.inr z::r=>Z.aD.cons (by unfold kD kV Rep;rfl) (qx r)
theorem Mh:RG X (SN X.K) iW:=by
 intro m S H xs ds vs Q w r e q;unfold iW at e;split at e
 ·rename_i x;obtain ⟨v,rfl,r'⟩:=lY r;split at e
  ·rename_i kvs hk;cases e
   obtain ⟨a,ws,rfl,hd,hr⟩:=sW w r' hk;refine .inr ⟨a,ws,rfl,hd,λl hl=>q l _ hl ?_⟩;have e1:(ws.map λkv=>kV kv.1)=(kvs.map (·.1)).map kV:=by rw [hr.keys,zAx];rfl
   have e2:(kvs.map λp=>kD p.1)=(kvs.map (·.1)).map kD:=by rw [zAx];rfl
   rw [e1,e2];exact qx _
  ·split at e
   ·rename_i ds hd;cases e
    obtain ⟨a,us,rfl,h1,h2⟩:=jO w r' hd;exact .inl ⟨a,us,rfl,.inl h1,λl hl=>q l _ hl h2⟩
   ·rename_i ds hd;cases e
    obtain ⟨_,a,us,rfl,h1,h2⟩:=Lb r' hd;exact .inl ⟨a,us,rfl,.inr h1,λl hl=>q l _ hl h2⟩
   ·cases e
 ·cases e
theorem sH (hc:X.cool=true) (hg:Gl X "list") (hm:X.mg "list" = none) (ha:QA X (e::es) fa) (he:starEach (e::es) X.env=(false,eval e X.env)::starEach es X.env:=by rfl) (hpl:(backTo pos (starEach es X.env)).any (·.1)=false:=by rfl):QL X (.Call (.Name "list" p) (e::es) [] pos) (oO iW fa):=
 lM (j7 (pW.or (Z.ud hc)) hg hm vZ ha (by decide) (by decide) he hpl) (Ni Mh)
def nR (al:Bool) (xs:List A) (S:aM):R A:=match xs with
 |[x]=>match x.sh S with
  |some (.lst ds)=>match Z.o8 ds with
   |some bs=>.ok (.d (.bl (if al then bs.all id else bs.any id))) S
   |none=>.no
  |_=>.no
 |_=>.no
theorem N5 (al:Bool):Ql X (XS X.K λbs=>if al then bs.all id else bs.any id) (nR al):=by
 intro m S H xs vs Q w r q;unfold nR at q;split at q
 ·rename_i x;obtain ⟨v,rfl,r'⟩:=lY r;split at q
  ·rename_i ds hd;split at q
   ·rename_i bs hb;obtain ⟨a,us,rfl,h1,h2⟩:=jO w r' hd;cases Z.zN hb
    cases Z.aD.bls h2
    exact ⟨a,bs,rfl,h1,q _ H m Xt.refl w iC⟩
   ·exact q.elim
  ·exact q.elim
 ·exact q.elim
theorem wI (hc:X.cool=true) (hg:Gl X "all") (hm:X.mg "all" = none) (ha:QA X (e::es) fa) (he:starEach (e::es) X.env=(false,eval e X.env)::starEach es X.env:=by rfl) (hpl:(backTo pos (starEach es X.env)).any (·.1)=false:=by rfl):QE X (.Call (.Name "all" p) (e::es) [] pos) (cal (nR true) fa):=
 lM (iT (FZ hc) hg hm Vi ha (by decide) (by decide) he hpl) (Bx (N5 true))
def Lr (xs:List A) (S:aM):R A:=match xs with
 |[.d (.int i)]=>.ok (.d (.int (if i < 0 then -i else i))) S
 |_=>.no
theorem Px:Ql X (λxs H Q=>∃i,xs=[.int i]/\Q (.int (if i < 0 then -i else i)) H) Lr:=by
 intro m S H xs vs Q w r q;unfold Lr at q;split at q
 ·rename_i i;obtain ⟨v,rfl,r'⟩:=lY r;cases dw r'
  exact ⟨i,rfl,q _ H m Xt.refl w eY⟩
 ·exact q.elim
theorem Xg (hg:Gl X "abs") (hm:X.mg "abs" = none) (ha:QA X (e::es) fa) (he:starEach (e::es) X.env=(false,eval e X.env)::starEach es X.env:=by rfl) (hpl:(backTo pos (starEach es X.env)).any (·.1)=false:=by rfl):QE X (.Call (.Name "abs" p) (e::es) [] pos) (cal Lr fa):=
 lM (iT Lw hg hm Tc ha (by decide) (by decide) he hpl) (Bx Px)
def Jz (S:aM):A->Option String
 |.d x=>some (CZ x)
 |.p i=>match S[i]? with
  |some (.lst _)=>some "list"
  |some (.gen _)=>some "list"
  |some (.dic _)=>some "dict"
  |_=>none
 |_=>none
def yx (c:String):O1:=λx S=>(opt (Jz S x) S).bind λt S=>.ok (.d (.bl (decide (c=t∨(c = "int" /\ t = "bool"))))) S
theorem Aj {c:String}(h:Z.known c):PySem.W.kitOne K (.type "list") (.type c)=some (decide (c = "list" ∨ (c = "int" /\ "list" = "bool"))):=by
 rcases h with rfl | rfl | rfl | rfl | rfl<;>rfl
theorem kit_dict {c:String}(h:Z.known c):PySem.W.kitOne K (.type "dict") (.type c)=some (decide (c = "dict" ∨ (c = "int" /\ "dict" = "bool"))):=by
 rcases h with rfl | rfl | rfl | rfl | rfl<;>rfl
theorem Ax {c:Str}{cs:String}{p1:Pos}(hk:Z.known cs) (hg:Gl X "isinstance") (hm:X.mg "isinstance" = none) (hgc:Gl X c) (hmc:X.mg c=none) (hb:bootBuiltins c=some (.type cs)) (ha:QE X a f) (hn:c ≠ "__name__" := by decide) (hd:(c==("__debug__" : Str))=false:=by decide) (hs:noStar a=true:=by rfl)
  (h1:starEach [a,.Name c p2] X.env=(false,eval a X.env)::starEach [.Name c p2] X.env:=by rfl) (h2:(backTo pos (starEach [.Name c p2] X.env)).any (·.1)=false:=by rfl):QE X (.Call (.Name "isinstance" p1) [a,.Name c p2] [] pos) (un (yx cs) f):=
 lM (iT (Ky.or MP) hg hm jW (Am ha (Am (Fx (v:=.ty cs) hgc hmc hb rfl hn hd) fC rfl) hs) (by decide) (by decide) h1 h2) λσ H Q q=>by
  obtain ⟨ρ,S,m,Rr,W,q⟩:=q;refine ⟨ρ,S,m,Rr,W,q.bind.imp λx S1 q v H1 m1 x1 w1 r1=>?_⟩;obtain ⟨t,ht,q⟩:=q.bind.opt;cases x with
  |k u=>cases ht
  |t xs=>cases ht
  |d y=>
   cases ht
   exact .inl ⟨v,cs,y,_,rfl,Rep.same dM (RA.cI.mp r1),Z.kit_is hk y,q _ H1 m1 x1 w1 iC⟩
  |p j=>
   obtain ⟨l,hl,rfl⟩:=RA.fH.mp r1;obtain ⟨ce,hc,ok⟩:=w1.at hl;simp only [Jz,hc] at ht;have un:∀u,RelV (.ty cs) u->u=Value.type cs:=λu z=>z;cases ce with
   |lst ds=>cases ht;obtain ⟨vs,h3,_⟩:=ok;exact .inr ⟨_,_,_,_,_,rfl,rfl,un,.lst h3,Aj hk,q _ H1 m1 x1 w1 iC⟩
   |gen xs=>cases ht;obtain ⟨vs,h3,_⟩:=ok;exact .inr ⟨_,_,_,_,_,rfl,rfl,un,.lst h3,Aj hk,q _ H1 m1 x1 w1 iC⟩
   |dic kvs=>cases ht;obtain ⟨vs,h3,_⟩:=ok;exact .inr ⟨_,_,_,_,_,rfl,rfl,un,.dK h3,kit_dict hk,q _ H1 m1 x1 w1 iC⟩
   |ins C fs=>cases ht
   |frd kvs=>cases ht
   |exc C fs=>cases ht
abbrev OM:=A->List A->aM->R A
def Av (X:Cx) (T:String) (r:V->List V->Hp->VK->Prop) (o:OM):Prop:=∀{m:List Addr}{S:aM}{H:Hp}{x:A}{xs:List A}{v:V}{vs:List V}{Q:VK},Wd X.K m S H->RA X.K m H x v->bf X.K m H xs vs->Res X m H (o x xs S) (xP X.K m H Q)->r v vs H Q
def Oe (T:String) (S:aM):A->Bool
 |.p i=>match S[i]? with
  |some (.lst _)=>T == "list"
  |some (.gen _)=>T == "list"
  |some (.dic _)=>T == "dict"
  |_=>false
 |.d (.lst _)=>T == "list"
 |.d (.str _)=>T == "str"
 |_=>false
theorem U9 {x : A} (w : Wd K m S H) (r : RA K m H x v) (e : Oe T S x = true) : tyV K T v H := by
  cases x with
  | k u => cases e
  | t xs => cases e
  | d y =>
    have r2 := RA.cI.mp r;cases y with
    | lst ds => unfold Rep at r2; obtain ⟨a, vs, rfl, h1, _⟩ := r2; exact .inl ⟨by simpa [Oe] using e, vs, cB.pY h1⟩
    | str z => cases jJ r; have e' : T = "str" := by simpa [Oe] using e
               exact e'
    | tup ds => cases e
    | non => cases e
    | bl b => cases e
    | int i => cases e
  | p j =>
    obtain ⟨l, hl, rfl⟩ := RA.fH.mp r;obtain ⟨ce, hc, ok⟩ := w.at hl;simp only [Oe, hc] at e;cases ce with
    | lst ds => obtain ⟨vs, h3, _⟩ := ok; exact .inl ⟨by simpa using e, vs, cB.of h3⟩
    | gen ds => obtain ⟨vs, h3, _⟩ := ok; exact .inl ⟨by simpa using e, vs, cB.of h3⟩
    | dic kvs => obtain ⟨vs, h3, _⟩ := ok; exact .inr (.inr (.inl ⟨by simpa using e, .inl ⟨vs, h3⟩⟩))
    | ins C fs => cases e
    | frd kvs => cases e
    | exc C fs => cases e
def lR (T:String) (o:OM) (f:FE) (fa:FA):FE:=λρ S=>(f ρ S).bind λx S=>if Oe T S x=true then (fa ρ S).bind λxs S=>o x xs S else .no
theorem Yn {o:OM}(hf:Av X T r o):∀σ H Q,tF X (lR T o f fa) σ H Q->tBM X.K T r (tF X f) (TQ X fa) σ H Q:=by
 rintro σ H Q ⟨ρ,S,m,Rr,W,q⟩;refine ⟨ρ,S,m,Rr,W,q.bind.imp λx S1 q v H1 m1 x1 w1 r1=>?_⟩;split at q
 ·rename_i ht;exact ⟨U9 w1 r1 ht,ρ,S1,m1,Rr.ext x1,w1,(q.step x1).bind.imp λxs S2 q vs H2 m2 x2 w2 r2=>hf w2 (r1.ext x2) r2 ((q.step x2).imp λz S3 q=>xP.step (x1.trans x2) q)⟩
 ·exact q.elim
theorem Ep {n:Str}{id:String}{om:OM}(pa:PlainAttrs T) (slot:Slot T n id) (hty:typeOf (.builtin id)=pure (.type "method_descriptor")) (hm:Z6 X id r) (hf:Av X T r om) (ho:QE X o f) (ha:QA X (e::es) fa)
  (hbase:attributeBase o n X.env (eval o X.env)=eval o X.env:=by rfl)
  (hfew:((backTo cpos (starEach (e::es) X.env)).all (λx=>!x.1)&&(backToKw cpos (keywordEach [] X.env)).all (λx=>x.1.isSome)
   && decide ((e::es).length+([]:List Keyword).length+(if ([]:List Keyword).isEmpty then 0 else 1) < 30))=true:=by rfl)
  (hline:(apos.endLine==cpos.line)=true:=by rfl) (hs:starEach (e::es) X.env=(false,eval e X.env)::starEach es X.env:=by rfl) (hplain:(backTo cpos (starEach es X.env)).any (·.1)=false:=by rfl) :
  QE X (.Call (.Attribute o n apos) (e::es) [] cpos) (lR T om f fa):=lM (Yl pa slot hty hm ho ha hbase hfew hline hs hplain) (Yn hf)
def P_ (c:dY) (xs:List A):dY:=match c,fW xs with
 |.lst _,some ds=>.lst ds
 |_,_=>.gen xs
theorem Wq {a:Addr}{c:dY}(h1:H a=some (.lst vs)) (r:bf K m H xs vs):jg K m H a (P_ c xs):=by
 unfold P_;split
 ·rename_i ds hd;exact ⟨vs,h1,r.fW hd⟩
 ·exact ⟨vs,h1,r⟩
theorem Wd.set_mk {a:Addr}{k:Nat}{c:dY}(w:Wd K m S H) (h1:m[k]?=some a) (r:bf K m H xs vs):Wd K m (S.set k (P_ c xs)) (upd H a (.lst vs)):=w.set h1 (Wq aJ (bf.sub (λ_ _ z=>z) (jR (zAh h1)) r))
def mR (g:List A->List A->Option (List A×A)):OM:=λx xs S=>match x with
 |.p k=>match S[k]? with
  |some c=>match c.its with
   |some ys=>match g ys xs with
    |some (zs,t)=>if ys.length < lim/\zs.length<=lim then .ok t (S.set k (P_ c zs)) else .no
    |none=>.no
   |none=>.no
  |none=>.no
 |_=>.no
theorem Ik {g:List A->List A->Option (List A×A)}(hg:∀{m:List Addr}{H:Hp}{ys xs zs:List A}{t:A}{us vs:List V}{l:Addr}{Q:VK},g ys xs=some (zs,t)->bf X.K m H ys us->bf X.K m H xs vs->H l=some (.lst us)->ys.length < lim->zs.length<=lim ->
  (∀v ws,bf X.K m H zs ws->RA X.K m H t v->Q v (upd H l (.lst ws)))->r (.ref l) vs H Q):Av X "list" r (mR g):=by
 intro m S H x xs v vs Q w r1 r2 q;unfold mR at q;split at q
 ·rename_i k;obtain ⟨a,ha,rfl⟩:=RA.fH.mp r1;split at q
  ·rename_i c hc;split at q
   ·rename_i ys hy;split at q
    ·rename_i zs t hz;split at q
     ·rename_i hl;obtain ⟨us,h1,h2⟩:=jk (w.cell k a c ha hc) hy;refine hg hz h2 r2 h1 hl.1 hl.2 λv ws rw rt=>?_;have x':Xt m H m (upd H a (.lst ws)):=Xt.upd (zAh ha) (wY h1);exact q v _ m x' (w.set_mk ha rw) (rt.ext x')
     ·exact q.elim
    ·exact q.elim
   ·exact q.elim
  ·exact q.elim
 ·exact q.elim
def nP (ys xs:List A):Option (List A×A):=match xs with
 |[x]=>some (ys++[x],.d .non)
 |_=>none
theorem Nj:Av X "list" Ei (mR nP):=Ik λ{m H ys xs zs t us vs l Q} e h1 h2 hl l1 l2 q=>by
 unfold nP at e;split at e
 ·cases e
  obtain ⟨v,rfl,r⟩:=lY h2;exact ⟨l,us,v,rfl,rfl,hl,by rw [h1.length];exact zBz l1 cM,q _ _ (bf.app h1 (bf.cons r bf.nil)) k_⟩
 ·cases e
theorem tO (ho:QE X o f) (ha:QA X (e::es) fa)
  (hbase:attributeBase o "append" X.env (eval o X.env)=eval o X.env:=by rfl)
  (hfew:((backTo cpos (starEach (e::es) X.env)).all (λx=>!x.1)&&(backToKw cpos (keywordEach [] X.env)).all (λx=>x.1.isSome)
   && decide ((e::es).length+([]:List Keyword).length+(if ([]:List Keyword).isEmpty then 0 else 1) < 30))=true:=by rfl)
  (hline:(apos.endLine==cpos.line)=true:=by rfl) (hs:starEach (e::es) X.env=(false,eval e X.env)::starEach es X.env:=by rfl) (hplain:(backTo cpos (starEach es X.env)).any (·.1)=false:=by rfl) :
  QE X (.Call (.Attribute o "append" apos) (e::es) [] cpos) (lR "list" (mR nP) f fa):=Ep PySem.F.plainAttrs_list PySem.F.slot_list_append PySem.F.type_list_append vf Nj ho ha hbase hfew hline hs hplain
def lJ (ys xs:List A):Option (List A×A):=match xs with
 |[.d (.int i),x]=>if 0<=i/\i < 1000000 then some (ys.take i.toNat++x::ys.drop i.toNat,.d .non) else none
 |_=>none
theorem bf.take {K:zF}{m:List Addr}{H:Hp}:∀{xs:List A}{vs:List V}(n:Nat),bf K m H xs vs->bf K m H (xs.take n) (vs.take n)
 |xs,vs,0,h=>by rw [List.take_zero,List.take_zero];exact bf.nil
 |[],vs,n+1,h=>by rw [h.nil_inv];exact bf.nil
 |x::xs,vs,n+1,h=>by obtain ⟨v,r,rfl,h1,h2⟩:=h.cons_inv;exact bf.cons h1 (bf.take n h2)
theorem bf.drop {K:zF}{m:List Addr}{H:Hp}:∀{xs:List A}{vs:List V}(n:Nat),bf K m H xs vs->bf K m H (xs.drop n) (vs.drop n)
 |xs,vs,0,h=>h
 |[],vs,n+1,h=>by rw [h.nil_inv];exact bf.nil
 |x::xs,vs,n+1,h=>by obtain ⟨v,r,rfl,h1,h2⟩:=h.cons_inv;exact bf.drop n h2
theorem wM:Av X "list" Eb (mR lJ):=Ik λ{m H ys xs zs t us vs l Q} e h1 h2 hl l1 l2 q=>by
 unfold lJ at e;split at e
 ·rename_i i x;split at e
  ·rename_i hi;cases e
   obtain ⟨v,u,rfl,r1,r2⟩:=Ub h2;cases dw r1
   exact ⟨l,us,i,u,rfl,rfl,hl,hi.1,by omega,by rw [h1.length];exact zBz l1 cM,q _ _ (bf.app (h1.take _) (bf.cons r2 (h1.drop _))) k_⟩
  ·cases e
 ·cases e
theorem uL (ho:QE X o f) (ha:QA X (e::es) fa)
  (hbase:attributeBase o "insert" X.env (eval o X.env)=eval o X.env:=by rfl)
  (hfew:((backTo cpos (starEach (e::es) X.env)).all (λx=>!x.1)&&(backToKw cpos (keywordEach [] X.env)).all (λx=>x.1.isSome)
   && decide ((e::es).length+([]:List Keyword).length+(if ([]:List Keyword).isEmpty then 0 else 1) < 30))=true:=by rfl)
  (hline:(apos.endLine==cpos.line)=true:=by rfl) (hs:starEach (e::es) X.env=(false,eval e X.env)::starEach es X.env:=by rfl) (hplain:(backTo cpos (starEach es X.env)).any (·.1)=false:=by rfl) :
  QE X (.Call (.Attribute o "insert" apos) (e::es) [] cpos) (lR "list" (mR lJ) f fa):=Ep PySem.F.plainAttrs_list PySem.F.slot_list_insert PySem.F.type_list_insert Hh wM ho ha hbase hfew hline hs hplain
end
def tN (K:zF) (f:FE):TE:=λσ H Q=>∃ρ S m,RS K m H σ ρ/\Wd K m S H/\∃x S',f ρ S=.ok x S'/\xP K m H Q x S'
def Lg (K:zF) (f:FT):TT:=λσ H Q=>∃ρ S m,RS K m H σ ρ/\Wd K m S H/\∃b S',f ρ S=.ok b S'/\∀H' m',Xt m H m' H'->Wd K m' S' H'->Q b H'
def Vc:Ck->Bool
 |some (_,_,fl)=>!fl
 |none=>true
def tNI (K:zF) (f:FI):TI:=λσ H R'=>∃ρ S m,RS K m H σ ρ/\Wd K m S H/\∃w S',f ρ S=.ok w S'/\Vc w.2=true/\∀J H' m',Xt m H m' H'->Wd K m' S' H'->mH K m' H' J w.1 w.2->R' J H'
theorem QE.n (h:QE X e f):PE X e (tN X.K f):=lM h λσ H Q q=>by
 obtain ⟨ρ,S,m,Rr,W,x,S',ef,q⟩:=q;exact ⟨ρ,S,m,Rr,W,by rw [ef];exact q⟩
abbrev Ng (X:Cx) (es:List Expr) (f:FT):Prop:=H9 X es (tFT X f)
def iy:FT:=λ_ S=>.ok true S
theorem fO:Ng X [] iy:=Zi O_ λσ H Q q=>by
 obtain ⟨ρ,S,m,Rr,W,q⟩:=q;exact q H m Xt.refl W
theorem lC (h:QT X e t):Ng X [e] t:=Ph h
theorem Ng.n (h:Ng X es t):H9 X es (Lg X.K t):=Zi h λσ H Q q=>by
 obtain ⟨ρ,S,m,Rr,W,x,S',ef,q⟩:=q;exact ⟨ρ,S,m,Rr,W,by rw [ef];exact q⟩
theorem QI.n {f:FI}(h:QI X tg e f):PI X tg e (tNI X.K f):=Zj h λσ H R' q=>by
 obtain ⟨ρ,S,m,Rr,W,w,S',ef,hn,q⟩:=q;refine ⟨ρ,S,m,Rr,W,?_⟩;rw [ef];intro J H1 H' m' x t w' io;have e:H'=H1:=by
  unfold yD at t;split at t
  ·rename_i hq;rw [hq] at hn;cases hn
  ·exact t
 subst e;exact q J H' m' x w' io
def R.cJ {α β:Type}:R α->(α->aM->R β)->R β
 |.ok x S,f=>f x S
 |.ex _ _,_=>.no
 |.no,_=>.no
@[simp] theorem fY (x:α) (S:aM) (f:α->aM->R β):(R.ok x S).cJ f=f x S:=rfl
theorem Res.cJ {X:Cx}{m:List Addr}{H:Hp}{α β:Type}{r:R α}{f:α->aM->R β}{q:β->aM->Prop}(h:Res X m H (r.cJ f) q):∃a S,r=.ok a S/\Res X m H (f a S) q:=by
 cases r with
 |ok a S=>exact ⟨a,S,rfl,h⟩
 |ex e S=>exact h.elim
 |no=>exact h.elim
theorem okN {r:R α}{f:α->aM->R β}{b:β}(h:r.cJ f=.ok b S'):∃a S,r=.ok a S/\f a S=.ok b S':=by
 cases r with
 |ok a S=>exact ⟨a,S,rfl,h⟩
 |ex e S=>cases h
 |no=>cases h
theorem Lq {o:Option α}{b:α}(h:opt o S=.ok b S'):o=some b/\S=S':=by
 cases o with
 |some a=>cases h;exact ⟨rfl,rfl⟩
 |none=>cases h
def push (c:Nat) (y:A) (S:aM):R Unit:=match S[c]? with
 |some ce=>match ce.its with
  |some ys=>if ys.length < lim then .ok () (S.set c (P_ ce (ys++[y]))) else .no
  |none=>.no
 |none=>.no
open Classical in
noncomputable def sG (g:FG) (t:FT) (f:FE) (ck:Ck) (c:Nat):List A->dH->aM->R dH
 |[],ρ,S=>if gH ck S then .ok ρ S else .no
 |x::xs,ρ,S=>if gH ck S then (opt (g x ρ) S).cJ λρ1 S=>(t ρ1 S).cJ λb S=>if b=true then (f ρ1 S).cJ λy S=>(push c y S).cJ λ_ S=>sG g t f ck c xs ρ1 S else sG g t f ck c xs ρ1 S else .no
def rA (ρ:dH) (n:Nat) (js:List Nat):dH:=List.replicate n none++js.map λj=>(ρ[j]?).getD none
theorem RS.blk (Rr:RS K m H σ ρ) (n:Nat) (js:List Nat):RS K m H (pO σ n js) (rA ρ n js):=by
 refine ⟨by simp [pO,rA],λi x h=>?_⟩;unfold rA at h;unfold pO;by_cases hi:i < n
 ·rw [zAj (by simpa using hi),zBW,if_pos hi] at h;cases h
 ·rw [zAw (by simpa using hi),zAk] at h;rw [zAw (by simpa using hi),zAk];simp only [zCf] at h ⊢;cases hj:js[i-n]? with
  |none=>rw [hj] at h;cases h
  |some j=>
   rw [hj] at h;have h2:(ρ[j]?).getD none=some x:=Option.some.inj h;cases hr:ρ[j]? with
   |none=>rw [hr] at h2;cases h2
   |some y=>
    rw [hr] at h2;have h3:y=some x:=h2;subst h3;obtain ⟨v,hv,r⟩:=Rr.at_ j x hr;exact ⟨v,by rw [Option.map_some,hv];rfl,r⟩
theorem P0 (w:Wd K m S H) (hacc:m[c]?=some acc) (r:RA K m H y v) (e:push c y S=.ok () S'):∃vs,H acc=some (.lst vs)/\vs.length < sizeLine/\Wd K m S' (upd H acc (.lst (vs++[v])))/\Xt m H m (upd H acc (.lst (vs++[v]))):=by
 unfold push at e;split at e
 ·rename_i ce hc;split at e
  ·rename_i ys hy;split at e
   ·rename_i hl;cases e
    obtain ⟨vs,h1,h2⟩:=jk (w.cell c acc ce hacc hc) hy;exact ⟨vs,h1,by rw [h2.length];exact zBz hl cM,w.set_mk hacc (bf.app h2 (bf.cons r bf.nil)),Xt.upd (zAh hacc) (wY h1)⟩
   ·cases e
  ·cases e
 ·cases e
theorem v9 {g:FG}(hK:X.K=K) (io:mH K m H J xs ck) (hacc:m[c]?=some acc) (Rr:RS K m H σ ρ) (W:Wd K m S H) (ef:sG g t f ck c xs ρ S=.ok ρf Sf)
  (o:∀σ' H' m',Xt m H m' H'->RS K m' H' σ' ρf->Wd K m' Sf H'->D'.nx σ' H'):nY J (HY X g) (lF (Lg K t) (zG acc (tN K f))) D' σ H:=by
 subst hK;refine ⟨λi k σ1 H2=>k=xs.length-i/\∃m1 ρ1 S3,i<=xs.length/\Xt m H m1 H2/\RS X.K m1 H2 σ1 ρ1/\Wd X.K m1 S3 H2/\sG g t f ck c (xs.drop i) ρ1 S3=.ok ρf Sf,⟨_,rfl,m,ρ,S,zBf _,Xt.refl,Rr,W,ef⟩,?_⟩;rintro i k σ1 H1 ⟨rfl,m1,ρ1,S1,hi,x,R1,W1,ef⟩;by_cases hlt:i < xs.length
 ·rw [zBQ hlt] at ef;unfold sG at ef;split at ef
  ·rename_i hck;refine .inr ⟨io.go m1 H1 S1 i x W1 hck hlt,λσ' H'=>∃m' ρ' S',i+1<=xs.length/\Xt m H m' H'/\RS X.K m' H' σ' ρ'/\Wd X.K m' S' H'/\sG g t f ck c (xs.drop (i+1)) ρ' S'=.ok ρf Sf,λσ' H' h=>⟨xs.length-(i+1),by omega,rfl,h⟩,λy H2 hy=>?_⟩;obtain ⟨x2,w2,rd⟩:=io.yld m1 H1 S1 i xs[i] y H2 x W1 hck (zAc hlt) hy;obtain ⟨ρ2,S2,e1,ef⟩:=okN ef;obtain ⟨e2,rfl⟩:=Lq e1;refine ⟨xs[i],ρ1,S1,m1,rd,R1.ext x2,w2,ρ2,e2,λσ2 R2=>?_⟩;have x3:Xt m H m1 H2:=x.trans x2;obtain ⟨b,S3,e3,ef⟩:=okN ef;refine ⟨ρ2,S1,m1,R2,w2,b,S3,e3,λH3 m3 x4 w3=>?_⟩;cases b with
   |true=>
    refine yS ?_;rw [if_pos rfl] at ef;obtain ⟨z,S4,e4,ef⟩:=okN ef;obtain ⟨_,S5,e5,ef⟩:=okN ef;refine ⟨ρ2,S3,m3,R2.ext x4,w3,z,S4,e4,λv H4 m4 x5 w4 r4=>?_⟩;obtain ⟨vs,h1,h2,h3,h4⟩:=P0 w4 ((x3.trans (x4.trans x5)).at c acc hacc) r4 e5;exact ⟨vs,h1,h2,m4,ρ2,S5,hlt,x3.trans (x4.trans (x5.trans h4)),R2.ext (x4.trans (x5.trans h4)),h3,ef⟩
   |false=>
    refine z9 ?_;rw [if_neg zAs] at ef;exact ⟨m3,ρ2,S3,hlt,x3.trans x4,R2.ext x4,w3,ef⟩
  ·cases ef
 ·have e:i=xs.length:=by omega
  subst e;rw [List.drop_length] at ef;unfold sG at ef;split at ef
  ·rename_i hck;cases ef
   exact .inl ⟨io.stop m1 H1 _ x W1 hck,o σ1 H1 m1 x R1 W1⟩
  ·cases ef
open Classical in
noncomputable def uX (S1 S2:aM):R A:=if Oh S1 S2 then match S2[S1.length]? with
 |some (.lst es)=>.ok (.d (.lst es)) (S2.take S1.length)
 |_=>.no
 else .no
def endC (S1 S2:aM):R A:=.ok (.p S1.length) S2
section
theorem Fb {H2:Hp}{S2 S3:aM}{z:A}(w1:Wd K m S1 H1) (w2:Wd K (m++acc::l) S2 H2) (e:uX S1 S2=.ok z S3):Wd K m S3 H2/\RA K m H2 z (.ref acc):=by
 unfold uX at e;split at e
 ·rename_i ok;split at e
  ·rename_i es he;cases e
   have hm:(m++acc::l)[S1.length]?=some acc:=by rw [<-w1.len,zAw (zAq _),zCc];rfl
   refine ⟨Wd.cut w1 w2 ok,?_⟩;rw [RA.cI];have r:RA K (m++acc::l) H2 (.p S1.length) (.ref acc):=RA.fH.mpr ⟨acc,hm,rfl⟩;refine (Lx w2 1).1 _ _ _ r ?_;unfold A.rd;rw [if_neg (by rw [w1.len];omega),he]
  ·cases e
 ·cases e
theorem Xt.cut (x:Xt m H (m++l) H'):Xt m H m H':=⟨⟨[],(zAO m).symm⟩,x.sm.trans bJ,x.fz⟩
theorem mX {m':List Addr}{r:R A}{Q:VK}(x:Xt m H m' H1) (t:yD X m' H1 H' ck) (q:Res X m H (mL ck r) (xP X.K m H Q)):Res X m' H' r (xP X.K m' H' λv=>Cp X (Q v)):=by
 have x':Xt m H m' H':=x.trans t.x;unfold mL at q;split at q
 ·refine (q.bind.step x').imp λc S o=>?_;split at o
  ·rename_i kvs hk;exact λv2 H2 m2 x2 w2 r2=>.inr (let ⟨a,ob,ws,h1,h2,h3,h4,h5⟩:=oW t x2 w2 hk;⟨a,ob,ws,h1,h2,o v2 _ m2 (x.trans h3) h4 (r2.sub (λ_ _ z=>z) h5)⟩)
  ·exact o.elim
 ·exact (q.step x').imp λc S o v2 H2 m2 x2 w2 r2=>.inl (o v2 H2 m2 (x'.trans x2) w2 r2)
def lcE (en:aM->aM->R A) (fi:FI) (g:FG) (t:FT) (f:FE) (n:Nat) (js:List Nat):FE:=λρ S=>(fi ρ S).bind λw S1=>mL w.2 ((sG g t f w.2 S1.length w.1 (rA ρ n js) (S1++[.lst []])).cJ λ_ S2=>en S1 S2)
def gY:=lcE uX
def Xh:=lcE endC
variable {elt iter:Expr}{ifs:List Expr}{scope:Scope}{g:FG}{N:List Str}{n:Nat}{js:List Nat}
theorem tB (w1:Wd X.K m S1 H1) (ha:H1 acc=none):Wd X.K (m++[acc]) (S1++[.lst []]) (upd H1 acc (.lst []))/\Xt m H1 (m++[acc]) (upd H1 acc (.lst []))/\(m++[acc])[S1.length]?=some acc:=
 ⟨w1.Ae ha Z.aD.nil,Xt.rG ha,by rw [<-w1.len];simp⟩
theorem Ez:∀σ H Q,tF X (gY fi g t f n js) σ H Q->tLC (tFI X fi) (HY X g) (Lg X.K t) (tN X.K f) n js σ H λv=>Cp X (Q v):=λσ H Q q=>by
  obtain ⟨ρ,S,m,Rr,W,q⟩:=q;refine ⟨ρ,S,m,Rr,W,q.bind.imp λw S1 q J H1 H' m' x1 t' w' io acc hacc=>?_⟩;obtain ⟨ρf,S2,ef,q⟩:=(mX x1 t' q).cJ;obtain ⟨w2,x2,ha⟩:=tB w' hacc;have x3:Xt m H m' H':=x1.trans t'.x;refine v9 rfl (io.ext x2) ha ((Rr.ext (x3.trans x2)).blk n js) w2 ef λσ' H2 m2 x4 _ w4=>?_;obtain ⟨l,rfl⟩:=x4.ex;rw [zAC] at w4 x4;cases er:uX S1 S2 with
  |ok z S3=>
   rw [er] at q;obtain ⟨w5,r5⟩:=Fb w' w4 er;exact q _ H2 m' (Xt.cut (x2.trans x4)) w5 r5
  |ex e S3=>unfold uX at er;split at er<;>(try split at er)<;>cases er
  |no=>rw [er] at q;exact q.elim
theorem Qm:∀σ H Q,tF X (Xh fi g t f n js) σ H Q->tLC (tFI X fi) (HY X g) (Lg X.K t) (tN X.K f) n js σ H λv=>Cp X (Q v):=λσ H Q q=>by
  obtain ⟨ρ,S,m,Rr,W,q⟩:=q;refine ⟨ρ,S,m,Rr,W,q.bind.imp λw S1 q J H1 H' m' x1 t' w' io acc hacc=>?_⟩;obtain ⟨ρf,S2,ef,q⟩:=(mX x1 t' q).cJ;obtain ⟨w2,x2,ha⟩:=tB w' hacc;have x3:Xt m H m' H':=x1.trans t'.x;refine v9 rfl (io.ext x2) ha ((Rr.ext (x3.trans x2)).blk n js) w2 ef λσ' H2 m2 x4 _ w4=>?_;exact q _ H2 m2 (x2.trans x4) w4 (RA.fH.mpr ⟨acc,x4.at _ _ ha,rfl⟩)
theorem jQ (hc:X.calm=true) (B:jH X scope N n js) (hi:QI X tg iter fi) (hg:∀s H fp,QG (aV X scope N s H fp) tg g) (ht:∀s H fp,Ng (aV X scope N s H fp) ifs t) (he:∀s H fp,QE (aV X scope N s H fp) elt f)
  (hs:∀x,foldedSetIterable iter X.env x=pure x:=by intro _;rfl):QE X (.ListComp elt [⟨tg,iter,ifs,0⟩] scope pos) (gY fi g t f n js):=
 lM (DW (XD hc B hi (g:=HY X g) (tt:=Lg X.K t) (te:=tN X.K f) hg (λs H fp=>(ht s H fp).n) (λs H fp=>(he s H fp).n) hs)) Ez
open Classical in
noncomputable def qC (g:FG) (t:FT) (fi:FI) (g2:FG) (t2:FT) (f:FE) (ck:Ck) (c:Nat):List A->dH->aM->R dH
 |[],ρ,S=>if gH ck S then .ok ρ S else .no
 |x::xs,ρ,S=>if gH ck S then (opt (g x ρ) S).cJ λρ1 S=>(t ρ1 S).cJ λb S=>if b=true then (fi ρ1 S).cJ λw S=>if Vc w.2=true then (sG g2 t2 f w.2 c w.1 ρ1 S).cJ λρ2 S=>qC g t fi g2 t2 f ck c xs ρ2 S else .no else qC g t fi g2 t2 f ck c xs ρ1 S else .no
theorem JK {g2:FG}{t2:FT}(hK:X.K=K) (io:mH K m H J xs ck) (hacc:m[c]?=some acc) (Rr:RS K m H σ ρ) (W:Wd K m S H) (ef:qC g t fi g2 t2 f ck c xs ρ S=.ok ρf Sf)
  (o:∀σ' H' m',Xt m H m' H'->RS K m' H' σ' ρf->Wd K m' Sf H'->D'.nx σ' H'):nY J (HY X g) (lF (Lg K t) (Im (tNI K fi) (HY X g2) (lF (Lg K t2) (zG acc (tN K f))))) D' σ H:=by
 subst hK;refine ⟨λi k σ1 H2=>k=xs.length-i/\∃m1 ρ1 S3,i<=xs.length/\Xt m H m1 H2/\RS X.K m1 H2 σ1 ρ1/\Wd X.K m1 S3 H2/\qC g t fi g2 t2 f ck c (xs.drop i) ρ1 S3=.ok ρf Sf,⟨_,rfl,m,ρ,S,zBf _,Xt.refl,Rr,W,ef⟩,?_⟩;rintro i k σ1 H1 ⟨rfl,m1,ρ1,S1,hi,x,R1,W1,ef⟩;by_cases hlt:i < xs.length
 ·rw [zBQ hlt] at ef;unfold qC at ef;split at ef
  ·rename_i hck;refine .inr ⟨io.go m1 H1 S1 i x W1 hck hlt,λσ' H'=>∃m' ρ' S',i+1<=xs.length/\Xt m H m' H'/\RS X.K m' H' σ' ρ'/\Wd X.K m' S' H'/\qC g t fi g2 t2 f ck c (xs.drop (i+1)) ρ' S'=.ok ρf Sf,λσ' H' h=>⟨xs.length-(i+1),by omega,rfl,h⟩,λy H2 hy=>?_⟩;obtain ⟨x2,w2,rd⟩:=io.yld m1 H1 S1 i xs[i] y H2 x W1 hck (zAc hlt) hy;obtain ⟨ρ2,S2,e1,ef⟩:=okN ef;obtain ⟨e2,rfl⟩:=Lq e1;refine ⟨xs[i],ρ1,S1,m1,rd,R1.ext x2,w2,ρ2,e2,λσ2 R2=>?_⟩;have x3:Xt m H m1 H2:=x.trans x2;obtain ⟨b,S3,e3,ef⟩:=okN ef;refine ⟨ρ2,S1,m1,R2,w2,b,S3,e3,λH3 m3 x4 w3=>?_⟩;cases b with
   |true=>
    refine yS ?_;rw [if_pos rfl] at ef;obtain ⟨w',S4,e4,ef⟩:=okN ef;split at ef
    ·rename_i hfl;obtain ⟨ρ5,S5,e5,ef⟩:=okN ef;refine ⟨ρ2,S3,m3,R2.ext x4,w3,w',S4,e4,hfl,λJ2 H4 m4 x5 w4 io2=>?_⟩;have x6:Xt m H m4 H4:=x3.trans (x4.trans x5);exact v9 (X:=X) rfl io2 (x6.at c acc hacc) (R2.ext (x4.trans x5)) w4 e5 λσ' H' m' x7 R7 W7=>⟨m',ρ5,S5,hlt,x6.trans x7,R7,W7,ef⟩
    ·cases ef
   |false=>
    refine z9 ?_;rw [if_neg zAs] at ef;exact ⟨m3,ρ2,S3,hlt,x3.trans x4,R2.ext x4,w3,ef⟩
  ·cases ef
 ·have e:i=xs.length:=by omega
  subst e;rw [List.drop_length] at ef;unfold qC at ef;split at ef
  ·rename_i hck;cases ef
   exact .inl ⟨io.stop m1 H1 _ x W1 hck,o σ1 H1 m1 x R1 W1⟩
  ·cases ef
def HW (fi:FI) (g:FG) (t:FT) (fi2:FI) (g2:FG) (t2:FT) (f:FE) (n:Nat) (js:List Nat):FE:=λρ S=>(fi ρ S).bind λw S1=>mL w.2 ((qC g t fi2 g2 t2 f w.2 S1.length w.1 (rA ρ n js) (S1++[.lst []])).cJ λ_ S2=>uX S1 S2)
theorem IW {fi2:FI}{g2:FG}{t2:FT}:∀σ H Q,tF X (HW fi g t fi2 g2 t2 f n js) σ H Q->aa_ (tFI X fi) (HY X g) (Lg X.K t) (tNI X.K fi2) (HY X g2) (Lg X.K t2) (tN X.K f) n js σ H λv=>Cp X (Q v):=λσ H Q q=>by
  obtain ⟨ρ,S,m,Rr,W,q⟩:=q;refine ⟨ρ,S,m,Rr,W,q.bind.imp λw S1 q J H1 H' m' x1 t' w' io acc hacc=>?_⟩;obtain ⟨ρf,S2,ef,q⟩:=(mX x1 t' q).cJ;obtain ⟨w2,x2,ha⟩:=tB w' hacc;have x3:Xt m H m' H':=x1.trans t'.x;refine JK rfl (io.ext x2) ha ((Rr.ext (x3.trans x2)).blk n js) w2 ef λσ' H2 m2 x4 _ w4=>?_;obtain ⟨l,rfl⟩:=x4.ex;rw [zAC] at w4 x4;cases er:uX S1 S2 with
  |ok z S3=>
   rw [er] at q;obtain ⟨w5,r5⟩:=Fb w' w4 er;exact q _ H2 m' (Xt.cut (x2.trans x4)) w5 r5
  |ex e S3=>unfold uX at er;split at er<;>(try split at er)<;>cases er
  |no=>rw [er] at q;exact q.elim
def Nb (c:Nat) (k v:A) (S:aM):R Unit:=match S[c]? with
 |some (.dic kvs)=>match rC k with
  |some key=>if kvs.length < lim then .ok () (S.set c (.dic (pv kvs key v))) else .no
  |none=>.no
 |_=>.no
open Classical in
noncomputable def Dm (g:FG) (t:FT) (fk fv:FE) (ck:Ck) (c:Nat):List A->dH->aM->R dH
 |[],ρ,S=>if gH ck S then .ok ρ S else .no
 |x::xs,ρ,S=>if gH ck S then (opt (g x ρ) S).cJ λρ1 S=>(t ρ1 S).cJ λb S=>if b=true then (fk ρ1 S).cJ λk S=>(fv ρ1 S).cJ λv S=>(Nb c k v S).cJ λ_ S=>Dm g t fk fv ck c xs ρ1 S else Dm g t fk fv ck c xs ρ1 S else .no
theorem Om {x:A}{u:V}(w:Wd K m S H) (hacc:m[c]?=some acc) (r1:RA K m H x u) (r2:RA K m H y v) (e:Nb c x y S=.ok () S'):∃ws k,u=kV k/\H acc=some (.dK ws)/\ws.length < sizeLine/\Wd K m S' (upd H acc (.dK (putK ws k v)))/\Xt m H m (upd H acc (.dK (putK ws k v))):=by
 unfold Nb at e;split at e
 ·rename_i kvs hc;split at e
  ·rename_i key hk;split at e
   ·rename_i hl;cases e
    obtain ⟨ws,h1,h2⟩:=w.cell c acc _ hacc hc;exact ⟨ws,key,jC r1 hk,h1,by rw [h2.length];exact zBz hl cM,w.pU hacc (h2.put r2),Xt.upd (zAh hacc) (DR h1)⟩
   ·cases e
  ·cases e
 ·cases e
theorem Ny {fv:FE}(hK:X.K=K) (io:mH K m H J xs ck) (hacc:m[c]?=some acc) (Rr:RS K m H σ ρ) (W:Wd K m S H) (ef:Dm g t fk fv ck c xs ρ S=.ok ρf Sf)
  (o:∀σ' H' m',Xt m H m' H'->RS K m' H' σ' ρf->Wd K m' Sf H'->D'.nx σ' H'):nY J (HY X g) (lF (Lg K t) (W9 acc (tN K fk) (tN K fv))) D' σ H:=by
 subst hK;refine ⟨λi k σ1 H2=>k=xs.length-i/\∃m1 ρ1 S3,i<=xs.length/\Xt m H m1 H2/\RS X.K m1 H2 σ1 ρ1/\Wd X.K m1 S3 H2/\Dm g t fk fv ck c (xs.drop i) ρ1 S3=.ok ρf Sf,⟨_,rfl,m,ρ,S,zBf _,Xt.refl,Rr,W,ef⟩,?_⟩;rintro i k σ1 H1 ⟨rfl,m1,ρ1,S1,hi,x,R1,W1,ef⟩;by_cases hlt:i < xs.length
 ·rw [zBQ hlt] at ef;unfold Dm at ef;split at ef
  ·rename_i hck;refine .inr ⟨io.go m1 H1 S1 i x W1 hck hlt,λσ' H'=>∃m' ρ' S',i+1<=xs.length/\Xt m H m' H'/\RS X.K m' H' σ' ρ'/\Wd X.K m' S' H'/\Dm g t fk fv ck c (xs.drop (i+1)) ρ' S'=.ok ρf Sf,λσ' H' h=>⟨xs.length-(i+1),by omega,rfl,h⟩,λy H2 hy=>?_⟩;obtain ⟨x2,w2,rd⟩:=io.yld m1 H1 S1 i xs[i] y H2 x W1 hck (zAc hlt) hy;obtain ⟨ρ2,S2,e1,ef⟩:=okN ef;obtain ⟨e2,rfl⟩:=Lq e1;refine ⟨xs[i],ρ1,S1,m1,rd,R1.ext x2,w2,ρ2,e2,λσ2 R2=>?_⟩;have x3:Xt m H m1 H2:=x.trans x2;obtain ⟨b,S3,e3,ef⟩:=okN ef;refine ⟨ρ2,S1,m1,R2,w2,b,S3,e3,λH3 m3 x4 w3=>?_⟩;cases b with
   |true=>
    refine yS ?_;rw [if_pos rfl] at ef;obtain ⟨z,S4,e4,ef⟩:=okN ef;obtain ⟨y,S5,e5,ef⟩:=okN ef;obtain ⟨_,S6,e6,ef⟩:=okN ef;refine ⟨ρ2,S3,m3,R2.ext x4,w3,z,S4,e4,λu H4 m4 x5 w4 r4=>⟨ρ2,S4,m4,R2.ext (x4.trans x5),w4,y,S5,e5,λv H5 m5 x6 w5 r5=>?_⟩⟩;obtain ⟨ws,k,h1,h2,h3,h4,h5⟩:=Om w5 ((x3.trans (x4.trans (x5.trans x6))).at c acc hacc) (r4.ext x6) r5 e6;exact ⟨ws,k,h1,h2,h3,m5,ρ2,S6,hlt,x3.trans (x4.trans (x5.trans (x6.trans h5))),R2.ext (x4.trans (x5.trans (x6.trans h5))),h4,ef⟩
   |false=>
    refine z9 ?_;rw [if_neg zAs] at ef;exact ⟨m3,ρ2,S3,hlt,x3.trans x4,R2.ext x4,w3,ef⟩
  ·cases ef
 ·have e:i=xs.length:=by omega
  subst e;rw [List.drop_length] at ef;unfold Dm at ef;split at ef
  ·rename_i hck;cases ef
   exact .inl ⟨io.stop m1 H1 _ x W1 hck,o σ1 H1 m1 x R1 W1⟩
  ·cases ef
def Zq (fi:FI) (g:FG) (t:FT) (fk fv:FE) (n:Nat) (js:List Nat):FE:=λρ S=>(fi ρ S).bind λw S1=>mL w.2 ((Dm g t fk fv w.2 S1.length w.1 (rA ρ n js) (S1++[.dic []])).cJ λ_ S2=>endC S1 S2)
theorem XF {fv:FE}(hc:X.calm=true) (B:jH X scope N n js) (hi:QI X tg iter fi) (hg:∀s H fp,QG (aV X scope N s H fp) tg g) (ht:∀s H fp,Ng (aV X scope N s H fp) ifs t) (hk:∀s H fp,QE (aV X scope N s H fp) kx fk) (hv:∀s H fp,QE (aV X scope N s H fp) vx fv)
  (hs:∀x,foldedSetIterable iter X.env x=pure x:=by intro _;rfl):QE X (.DictComp kx vx [⟨tg,iter,ifs,0⟩] scope pos) (Zq fi g t fk fv n js):=
 lM (DW (Nz hc B hi (g:=HY X g) (tt:=Lg X.K t) (tk:=tN X.K fk) (tv:=tN X.K fv) hg (λs H fp=>(ht s H fp).n) (λs H fp=>(hk s H fp).n) (λs H fp=>(hv s H fp).n) hs)) λσ H Q q=>by
  obtain ⟨ρ,S,m,Rr,W,q⟩:=q;refine ⟨ρ,S,m,Rr,W,q.bind.imp λw S1 q J H1 H' m' x1 t' w' io acc hacc=>?_⟩;obtain ⟨ρf,S2,ef,q⟩:=(mX x1 t' q).cJ;have w2:Wd X.K (m'++[acc]) (S1++[.dic []]) (upd H' acc (.dK [])):=w'.qb hacc .nil;have x2:Xt m' H' (m'++[acc]) (upd H' acc (.dK [])):=Xt.rG hacc;have ha:(m'++[acc])[S1.length]?=some acc:=by rw [<-w'.len];simp
  have x3:Xt m H m' H':=x1.trans t'.x;refine Ny rfl (io.ext x2) ha ((Rr.ext (x3.trans x2)).blk n js) w2 ef λσ' H2 m2 x4 _ w4=>?_;exact q _ H2 m2 (x2.trans x4) w4 (RA.fH.mpr ⟨acc,x4.at _ _ ha,rfl⟩)
def dNew:FE:=λ_ S=>.ok (.p S.length) (S++[.dic []])
theorem N7:QE X (.Dict [] [] pos) dNew:=lM JG λσ H Q q=>by
 obtain ⟨ρ,S,m,Rr,W,q⟩:=q;exact λp hp=>q _ _ _ (Xt.rG hp) (W.qb hp .nil) (gF W)
def Gb (fk fv:FE):FE:=λρ S=>(fk ρ (S++[.dic []])).bind λk S1=>(fv ρ S1).bind λv S2=>match rC k,S2[S.length]? with
 |some key,some (.dic [])=>.ok (.p S.length) (S2.set S.length (.dic [(key,v)]))
 |_,_=>.no
theorem QD {fv:FE}(hk:QE X kx fk) (hv:QE X vx fv):QE X (.Dict [some kx] [vx] pos) (Gb fk fv):=lM (PN (JW hk hv Qd) rfl rfl (by simp) (by simp)) λσ H Q q=>by
 obtain ⟨ρ,S,m,Rr,W,q⟩:=q;intro p hp;have x0:Xt m H (m++[p]) (upd H p (.dK [])):=Xt.rG hp;have w0:=W.qb (kvs:=[]) hp .nil;refine ⟨ρ,_,_,Rr.ext x0,w0,(q.step x0).bind.imp λk S1 q u H1 m1 x1 w1 r1=>⟨ρ,S1,m1,Rr.ext (x0.trans x1),w1,(q.step x1).bind.imp λv S2 q t H2 m2 x2 w2 r2=>?_⟩⟩;split at q
 ·rename_i key hkey hc;have hm:m2[S.length]?=some p:=(x1.trans x2).at _ _ (by rw [<-W.len];simp);obtain ⟨ws,h1,h2⟩:=w2.cell _ p _ hm hc;cases h2
  refine ⟨h1,[(key,t)],by rw [jC (r1.ext x2) hkey];rfl,by simp,?_⟩;have x3:Xt m2 H2 m2 (upd H2 p (.dK [(key,t)])):=Xt.upd (zAh hm) (DR h1);exact q _ _ m2 (x0.trans (x1.trans (x2.trans x3))) (w2.pU hm (.cons ⟨rfl,r2⟩ .nil)) (RA.fH.mpr ⟨p,hm,rfl⟩)
 ·exact q.elim
def jT (kvs more:List (Key×A)):List (Key×A):=more.foldl (λacc kv=>pv acc kv.1 kv.2) kvs
theorem RK.merge {K:zF}{m:List Addr}{H:Hp}:∀{more:List (Key×A)}{us:List (Key×V)}{kvs:List (Key×A)}{ws:List (Key×V)},RK K m H more us->RK K m H kvs ws->RK K m H (jT kvs more) (lB ws us)
 |_,_,_,_,.nil,h=>h
 |_,_,_,_,.cons r t,h=>by
  obtain ⟨e,r⟩:=r;unfold jT lB;rw [zBq,zBq,<-e];exact RK.merge t (h.put r)
def Ad:OM:=λx xs S=>match x,xs with
 |.p k,[.p j]=>if k=j then .no else match S[k]?,A.dct S (.p j) with
  |some (.dic kvs),some more=>if kvs.length+more.length<=lim then .ok (.d .non) (S.set k (.dic (jT kvs more))) else .no
  |_,_=>.no
 |_,_=>.no
theorem Pz:Av X "dict" Ft Ad:=by
 intro m S H x xs v vs Q w r1 r2 q;unfold Ad at q;split at q
 ·rename_i k j;obtain ⟨u,rfl,r3⟩:=lY r2;split at q
  ·exact q.elim
  ·rename_i hkj;split at q
   ·rename_i kvs more hc hd;split at q
    ·rename_i hl;obtain ⟨a,ha,rfl⟩:=RA.fH.mp r1;obtain ⟨ws,h1,h2⟩:=w.cell k a _ ha hc;obtain ⟨b,us,rfl,h3,h4⟩:=sW w r3 hd;obtain ⟨b',hb',e⟩:=RA.fH.mp r3;cases e
     have hne:a≠b:=λz=>hkj (by subst z;exact (zBy (List.getElem?_eq_some_iff.mp ha).1 w.nd).mp (ha.trans hb'.symm));have x':Xt m H m (upd H a (.dK (lB ws us))):=Xt.upd (zAh ha) (DR h1);exact ⟨a,b,ws,us,rfl,rfl,hne,h1,h3,by rw [h2.length,h4.length];exact bM hl,q _ _ m x' (w.pU ha (RK.merge h4 h2)) k_⟩
    ·exact q.elim
   ·exact q.elim
 ·exact q.elim
end
def uO (K:zF) (F:FF):Sp:=λvs H Q _=>∃as S m,bf K m H as vs/\Wd K m S H/\∃x S',F as S=.ok x S'/\xP K m H Q x S'
abbrev En:=aM->A->aM->R A
structure Iu (en:En):Prop where
 ok:∀{K:zF}{m l:List Addr}{H H':Hp}{S S1 S':aM}{x z:A}{v:V},Wd K m S H->Xt m H (m++l) H'->Wd K (m++l) S1 H'->RA K (m++l) H' x v->en S x S1=.ok z S'->∃m',Xt m H m' H'/\Wd K m' S' H'/\RA K m' H' z v
def Nh:En:=λ_ x S'=>.ok x S'
theorem JV:Iu Nh:=⟨λw x w1 r e=>by cases e;exact ⟨_,x,w1,r⟩⟩
open Classical in
noncomputable def lO:En:=λS x S'=>if Oh S S' then (opt (fin S.length S' x) S').bind λy S'=>.ok y (S'.take S.length) else .no
theorem dX:Iu lO:=⟨λ{K m l H H' S S1 S' x z v} w xt w1 r e=>by
 unfold lO at e;split at e
 ·rename_i ok;cases hf:fin S.length S1 x with
  |none=>rw [hf] at e;cases e
  |some y=>
   rw [hf] at e;cases e
   exact ⟨m,Xt.cut xt,Wd.cut w w1 ok,VD w1 r (by rw [w.len];exact hf)⟩
 ·cases e⟩
def g_ (en:En) (np nl:Nat) (b:FS):FF:=λas S=>if as.length=np then (b (as.map some++List.replicate (nl-np) none) S).cJ λc S'=>match c with
 |.rt x=>en S x S'
 |.nx _=>en S (.d .non) S'
 |_=>.no
 else .no
section
variable {K:zF}
theorem RS.begin {as:List A}(r:bf K m H as vs) (N:List Str) (np:Nat) (hl:as.length=np):RS K m H (start N vs) (as.map some++List.replicate (N.length-np) none):=by
 have ll:=r.length;refine ⟨by simp [L2.start,ll,hl],λi x h=>?_⟩;unfold L2.start;by_cases hi:i < as.length
 ·rw [zAj (by simpa using hi),zAk] at h;obtain ⟨y,hy,e⟩:=Option.map_eq_some_iff.mp h;cases e
  obtain ⟨v,hv,rv⟩:=r.get hy;exact ⟨v,by rw [zAj (by rw [zAn,ll];exact hi),zAk,hv];rfl,rv⟩
 ·rw [zAw (by simpa using hi),zBW] at h;split at h<;>cases h
variable {P:Program}{w:World}{mg:Str->Option Value}{base:Heap}
theorem j6 {en:En}(eo:Iu en) {x qual:Str}{st:Stmt}{f:Addr}{fd:FuncData}{N ps:List Str}{k:Nat}{b:FS}(F:lV K x qual st f fd) (Sc:aU N ps (aK st))
  (hb:∀(cdv:Value) (A:Around) (outer:List Env) (s:Shared) (H:Hp) (E:XK),dj k (A.deeper (PyProof.Rows.envOfC qual (aK st) s.heap.objs.size f cdv))->Ig (oM oU P w K mg base N qual (aK st) f cdv A outer s H E).yE (iK st) b) :
  cZ P w K mg base oU (k+1) f fd ps (uO K (g_ en ps.length N.length b)):=by
 refine F.ok Sc (λvs H Q E h=>?_) λcdv A outer s H vs Q E hr h=>?_
 ·obtain ⟨as,S,m,r,W,y,S',e,q⟩:=h;unfold g_ at e;split at e
  ·rename_i hl;rw [r.length];exact hl
  ·cases e
 ·obtain ⟨as,S,m,r,W,y,S',e,q⟩:=h;unfold g_ at e;split at e
  ·rename_i hl;obtain ⟨c,S1,e1,e⟩:=okN e;refine ⟨_,hb cdv A outer s H E hr,_,S,m,RS.begin r N _ hl,W,?_⟩;rw [e1];cases c with
   |rt z=>
    refine λv H' m' x' w' r'=>?_;obtain ⟨l,rfl⟩:=x'.ex;obtain ⟨m2,x2,w2,r2⟩:=eo.ok W x' w' r' e;exact q v H' m2 x2 w2 r2
   |nx ρ1=>
    refine λσ' H' m' x' R' w'=>?_;obtain ⟨l,rfl⟩:=x'.ex;obtain ⟨m2,x2,w2,r2⟩:=eo.ok W x' w' k_ e;exact q .non H' m2 x2 w2 r2
   |bk _=>cases e
   |ct _=>cases e
  ·cases e
end
def yE {α:Type}:R α->R α
 |.ok x S=>.ok x S
 |_=>.no
@[simp] theorem abm (x:α) (S:aM):yE (.ok x S)=.ok x S:=rfl
theorem Res.yE {X:Cx}{m:List Addr}{H:Hp}{α:Type}{r:R α}{q:α->aM->Prop}(h:Res X m H (yE r) q):∃a S,r=.ok a S/\q a S:=by
 cases r with
 |ok a S=>exact ⟨a,S,rfl,h⟩
 |ex e S=>exact h.elim
 |no=>exact h.elim
section
variable {o:Expr}{E:XK}
def aW (F:FF) (fa:FA):FE:=λρ S=>(fa ρ S).bind λas S=>yE (F as S)
theorem call_of:∀σ H Q,tF X (aW F fa) σ H Q->Fo (uO X.K F) [] E (TQ X fa) σ H Q:=by
 rintro σ H Q ⟨ρ,S,m,Rr,W,q⟩;refine ⟨ρ,S,m,Rr,W,q.bind.imp λas S1 q vs H1 m1 x1 w1 r1=>?_⟩;obtain ⟨x,S2,ef,q⟩:=q.yE;show uO X.K F (vs++[]) H1 Q E;rw [zAO];exact ⟨as,S1,m1,r1,w1,x,S2,ef,xP.step x1 q⟩
theorem bK {x:Str}{k:Nat}{g:Addr}(G:cZ X.prog X.w X.K X.mg X.base oU k g fd ps (uO X.K F)) (hr:dj k X.A) (hg:Gl X x) (hm:X.mg x=some (.ref g)) (hk:PySem.W.keepIn X.K (.ref g)=true) (hb:Binds X.K fd ps [])
  (ha:QA X (e::es) fa) (hdb:(x==("__debug__" : Str))=false:=by decide) (he:starEach (e::es) X.env=(false,eval e X.env)::starEach es X.env:=by rfl) (hpl:(backTo pos (starEach es X.env)).any (·.1)=false:=by rfl) :
  QE X (.Call (.Name x p) (e::es) [] pos) (aW F fa):=lM (Fw (E:=E0) G hr hg hm hk hb .nil Z4 ha hdb he hpl) call_of
def G7 (C:Addr) (n:Str):O1:=λx S=>match x with
 |.p k=>match S[k]? with
  |some (.ins D fs)=>if D=C then opt (fs.lookup n) S else .no
  |_=>.no
 |_=>.no
theorem RK.lookup {K:zF}{m:List Addr}{H:Hp}{n:Str}:∀{fs:List (Str×A)}{ws:List (Str×V)},RK K m H fs ws->(match fs.lookup n with | some x=>∃v,ws.lookup n=some v/\RA K m H x v | none=>ws.lookup n=none)
 |_,_,.nil=>by simp
 |_,_,.cons (a:=p) (b:=q) r t=>by
  obtain ⟨e,r⟩:=r;have ih:=RK.lookup (n:=n) t;obtain ⟨p1,p2⟩:=p;obtain ⟨q1,q2⟩:=q;cases e
  rw [zAT,zAT];cases hn:n==p1 with
  |true=>exact ⟨q2,rfl,r⟩
  |false=>exact ih
theorem Tq {n:Str}(c:Cls X.K C) (na:jy X.K C n) (he:QE X e f) (hb:attributeBase e n X.env (eval e X.env)=eval e X.env:=by rfl):QE X (.Attribute e n pos) (un (G7 C n) f):=lM (Uc he hb) λσ H Q q=>by
 obtain ⟨ρ,S,m,Rr,W,q⟩:=q;refine ⟨ρ,S,m,Rr,W,q.bind.imp λx S1 q v H1 m1 x1 w1 r1=>?_⟩;unfold G7 at q;split at q
 ·rename_i k;obtain ⟨a,ha,rfl⟩:=RA.fH.mp r1;split at q
  ·rename_i D fs hc;split at q
   ·rename_i hD;obtain ⟨z,hz,q2⟩:=q.opt;subst hD;obtain ⟨dx,ws,h1,h2⟩:=w1.cell k a _ ha hc;have hl:=h2.lookup (n:=n);rw [hz] at hl;obtain ⟨u,hu,ru⟩:=hl;exact ⟨a,D,dx,ws,u,rfl,h1,c,na,hu,q2 u H1 m1 x1 w1 ru⟩
   ·exact q.elim
  ·exact q.elim
 ·exact q.elim
def Ci (n:Str) (x:A):List (Str×A)->List (Str×A)
 |[]=>[(n,x)]
 |(g,y)::r=>if g=n then (g,x)::r else (g,y)::Ci n x r
theorem RK.jD {K:zF}{m:List Addr}{H:Hp}{n:Str}{x:A}{v:V}(r:RA K m H x v):∀{fs:List (Str×A)}{ws:List (Str×V)},RK K m H fs ws->RK K m H (Ci n x fs) (L2.jD n v ws)
 |_,_,.nil=>.cons ⟨rfl,r⟩ .nil
 |_,_,.cons (a:=p) (b:=q) s t=>by
  obtain ⟨e,s⟩:=s;obtain ⟨p1,p2⟩:=p;obtain ⟨q1,q2⟩:=q;cases e
  unfold Ci L2.jD;split
  ·exact .cons ⟨rfl,r⟩ t
  ·exact .cons ⟨rfl,s⟩ (RK.jD r t)
def zO (C:Addr) (n:Str) (fv fo:FE):FS:=λρ S=>(fv ρ S).bind λy S=>(fo ρ S).bind λx S=>match x with
 |.p k=>match S[k]? with
  |some (.ins D fs)=>if D=C/\fs.length < 1000 then .ok (.nx ρ) (S.set k (.ins D (Ci n y fs))) else .no
  |_=>.no
 |_=>.no
theorem MF {n:Str}{value:Expr}{fv:FE}{pos':Pos}(c:Cls X.K C) (na:jy X.K C n) (hv:QE X value fv) (ho:QE X o f) (hs:swapsWith value (some (.Attribute o n pos')) pos.line X.env=pure false:=by rfl):QS X (.Assign [.Attribute o n pos'] value pos) (zO C n fv f):=CJ (Tp ho hv hs) λD' σ H q=>by
 obtain ⟨ρ,S,m,Rr,W,q⟩:=q;refine ⟨ρ,S,m,Rr,W,q.bind.imp λy S1 q u H1 m1 x1 w1 r1=>⟨ρ,S1,m1,Rr.ext x1,w1,(q.step x1).bind.imp λx S2 q v H2 m2 x2 w2 r2=>?_⟩⟩;split at q
 ·rename_i k;obtain ⟨a,ha,rfl⟩:=RA.fH.mp r2;split at q
  ·rename_i D fs hc;split at q
   ·rename_i hD;have q2:=q;obtain ⟨rfl,hl⟩:=hD;obtain ⟨dx,ws,h1,h2⟩:=w2.cell k a _ ha hc;have x3:Xt m2 H2 m2 (upd H2 a (.ins D dx (L2.jD n u ws))):=Xt.upd (zAh ha) (Uk h1);exact ⟨a,D,dx,ws,rfl,h1,c,na,by rw [h2.length];exact hl,q2 σ _ m2 (x1.trans (x2.trans x3)) (Rr.ext (x1.trans (x2.trans x3))) (w2.Ot ha (RK.jD (r1.ext x2) h2))⟩
   ·exact q.elim
  ·exact q.elim
 ·exact q.elim
theorem Vj {P:Program}{w:World}{mg:Str->Option Value}{base:Heap}{k:Nat}{f:Addr}(main:∀ns:List Int,ns.length<=63->∃S,F [.d (.lst (ns.map .int))] []=.ok (.d (.bl true)) S)
  (G:cZ P w K mg base oU k f fd ps (uO K F)):cZ P w K mg base oU k f fd ps (Z.Rn K):=G.imp λvs H Q E h=>by
 obtain ⟨a,ns,rfl,hS,hl,q⟩:=h;obtain ⟨S,hm⟩:=main ns hl;refine ⟨[.d (.lst (ns.map .int))],[],[],?_,⟨rfl,zBP,λk a ds h1 _=>by cases h1⟩,_,_,hm,λv H' _ _ _ r=>?_⟩
 ·refine bf.cons ?_ bf.nil;rw [RA.cI,Z.E_];unfold Rep;exact ⟨a,_,rfl,hS,vd ns⟩
 ·cases Lf r
  exact q H'
end
end Y
namespace YS
open PySem PySem.Spec PyProof.Rows L2
variable {w:World}{a I:Addr}{ss xs:List Str}{prog:Program}{E:zV}{s:Shared}{es:Array (Int×Value)}{t:SetTable}{items:Array Value}{ep i:Nat}{vs:List Value}{f:Value}{H:Hp}
def nZ (w:World):Bool:=w.params.followText "set-order"
def NZ (w:World) (e:Int×Value):Prop:=∃x t,e=(hashStr w x,Value.str x t)
def Sd (e:Int×Value):Str:=strOf e.2
structure JZ (w:World) (es:Array (Int×Value)) (t:SetTable):Prop where
 few:es.size < scanBound
 fit:t.fits es.size=true
 led:t.led=!nZ w
 pln:es.size≠0->t.plain=false
def SSet (w:World) (h:Heap) (a:Addr) (ss:List Str):Prop:=∃es ep t,h.get? a=some { cls:=.type "set", dict:=none,data:=.set es ep t,slots:=#[] }/\(∀e∈es.toList,NZ w e)/\(es.toList.map Sd).Perm ss/\ss.Nodup/\JZ w es t
theorem SSet.at {h h':Heap}(S:SSet w h a ss) (k:∀o,h.get? a=some o->h'.get? a=some o):SSet w h' a ss:=by
 obtain ⟨es,ep,t,ho,r⟩:=S;exact ⟨es,ep,t,k _ ho,r⟩
section
variable {A:Around}
theorem elems (h:∀e∈es.toList,NZ w e):ElemsOf (aN prog w) es.toList:=λe he=>by
 obtain ⟨x,t,rfl⟩:=h e he;exact ⟨⟨.inr x,nH x t,rfl⟩,rfl⟩
theorem TJ {e:Int×Value}{x:Str}(h:NZ w e):(aN prog w).is (.inr x) e.2=decide (Sd e=x):=by
 obtain ⟨y,t,rfl⟩:=h;have hk:tG (.inr y) (.str y t)=true:=nH y t;by_cases e:y=x
 ·subst e;rw [show decide (Sd (hashStr w y,Value.str y t)=y)=true from decide_eq_true rfl];exact hk
 ·rw [show decide (Sd (hashStr w y,Value.str y t)=x)=false from decide_eq_false e];cases q:(aN prog w).is (.inr x) (Value.str y t) with
  |false=>rfl
  |true=>
   have:=(aN prog w).inj _ _ _ q (show (aN prog w).is (.inr y) (.str y t)=true from hk);exact absurd (Sum.inr.inj this).symm e
theorem PX (t:SetTable) (es:Array (Int×Value)) (h:Int) (x:Value):(layNew t es h x).2.1.led=t.led:=by
 unfold layNew;split
 ·simp only [SetTable.put,SetTable.orStandIn]
  repeat' split
  all_goals rfl
 ·rfl
theorem Gx (t:SetTable) (es:Array (Int×Value)) (n:Nat):(relayAll t es n).2.1.led=t.led:=by
 unfold relayAll;split
 ·rename_i t' order h;have hl:t'.led=t.led:=by
   unfold SetTable.relaid SetTable.laid at h;cases hc:SetTable.layClean (SetTable.sizeAbove n-1) (es.map (·.1)) with
   |none=>rw [hc] at h;cases h
   |some ow=>rw [hc] at h;cases h;rfl
  dsimp only;split
  ·exact hl
  ·rfl
 ·rfl
theorem Hw (t:SetTable) (es:Array (Int×Value)) (n:Nat) (hp:t.plain=false):(relayAll t es n).2.1.plain=false:=by
 unfold relayAll;split
 ·rename_i t' order h;have hl:t'.plain=false:=by
   unfold SetTable.relaid SetTable.laid at h;cases hc:SetTable.layClean (SetTable.sizeAbove n-1) (es.map (·.1)) with
   |none=>rw [hc] at h;cases h
   |some ow=>rw [hc] at h;cases h;exact hp
  dsimp only;split
  ·exact hl
  ·rfl
 ·rfl
theorem aaV {x:Str}{t:Tok}{Q:Bool->Shared->Prop}(S:SSet w s.heap a ss) (room:ss.length+1 < scanBound)
  (h:∀h' b,Heap.SameBut a s.heap h'->SSet w h' a (if x∈ss then ss else ss++[x])->Q b { s with heap:=h' }):wpAny (model prog w) A (setAddHashed a (.str x t) (hashStr w x)) Q E s:=by
 obtain ⟨es,ep,tb,ho,hen,hpm,hnd,T⟩:=S;have hel:=elems (prog:=prog) hen;have hsz:es.size=ss.length:=by rw [<-hpm.length_eq,zAn,zAH]
 have hk:(aN prog w).is (.inr x) (.str x t)=true:=nH x t;have hfun:∀e∈es.toList,(aN prog w).is (.inr x) e.2=decide (Sd e=x):=λe he=>TJ (hen e he);unfold setAddHashed setAddHashedIn;refine zAN <| zAa <| zBk ho rfl T.fit ?_;dsimp only;rw [byScan_of (knd:=aN prog w) rfl T.few hel,if_pos rfl];unfold setAddByScan;refine zAa <| zAa <| zBE <| zAa <| wpAny_setScan_of (knd:=aN prog w) hk ho rfl T.fit hel ?_;by_cases hx:x∈ss
 ·obtain ⟨e,he,hw⟩:=List.mem_map.mp (hpm.mem_iff.mpr hx);cases hf:es.toList.findIdx? (λe=>(aN prog w).is (.inr x) e.2) with
  |none=>
   have:=List.findIdx?_eq_none_iff.mp hf e he;rw [hfun e he,hw] at this;simp at this
  |some j=>
   dsimp only;refine zAd <| zAd ?_;have q:=h s.heap false (Heap.SameBut.refl _ _);rw [if_pos hx] at q;exact q ⟨es,ep,tb,ho,hen,hpm,hnd,T⟩
 ·have hf:es.toList.findIdx? (λe=>(aN prog w).is (.inr x) e.2)=none:=List.findIdx?_eq_none_iff.mpr λe he=>by
   rw [hfun e he];exact decide_eq_false λz=>hx (hpm.mem_iff.mp (List.mem_map.mpr ⟨e,he,z⟩))
  rw [hf];dsimp only;have gv:∀(b:Bool) {s₁:Shared}{Q':Unit->Shared->Prop},Q' () s₁->wpAny (model prog w) A (match b with | true=>rule "set.scan.the-table-gave-way" | false=>pure ()) Q' E s₁:=λb {s₁ Q'} hq=>by
   cases b
   ·exact zAd hq
   ·exact zBE hq
  have p1:=layNew_perm tb es (hashStr w x) (.str x t);have f1:=layNew_fits tb es (hashStr w x) (.str x t);have l1:=PX tb es (hashStr w x) (.str x t);generalize hL:layNew tb es (hashStr w x) (.str x t)=L at p1 f1 l1 ⊢;obtain ⟨e1,t1,dm,gave⟩:=L;dsimp only at p1 f1 l1 ⊢;rw [Array.toList_push] at p1;have z1:e1.size=es.size+1:=by rw [<-zAH,p1.length_eq,zAy,zAH];rfl
  have en1:∀e∈e1.toList,NZ w e:=λe he=>by
   rcases List.mem_append.mp (p1.mem_iff.mp he) with q | q
   ·exact hen e q
   ·exact ⟨x,t,by simpa using q⟩
  have pm1:(e1.toList.map Sd).Perm (ss++[x]):=by
   refine (p1.map Sd).trans ?_;rw [zBo];exact hpm.append (List.Perm.refl [x])
  have nd1:(ss++[x]).Nodup:=List.nodup_append.mpr ⟨hnd,by simp,λy hy z hz e=>hx (by rw [<-List.mem_singleton.mp hz,<-e];exact hy)⟩;have few1:e1.size < scanBound:=by rw [z1,hsz];exact room
  have fin:∀(s₁:Shared) (t2:SetTable),s₁=s->t2.fits e1.size=true->t2.led=(!nZ w)->t2.plain=false ->
    wpAny (model prog w) A (do
     storeSet a e1 t2
     if (!dm&&t2.tooFull)=true then do
      (match (relayAll t2 e1 (SetTable.grown e1.size)).2.2 with | true=>rule "set.scan.the-table-gave-way" | false=>pure ())
      storeSet a (relayAll t2 e1 (SetTable.grown e1.size)).1 (relayAll t2 e1 (SetTable.grown e1.size)).2.1
      pure (some true)
     else pure (some true)) (λr s'=>∃h',s'={ s with heap:=h' }/\r=some true/\Heap.SameBut a s.heap h'/\SSet w h' a (ss++[x])) E s₁:=by
   intro s₁ t2 es1 ft lt pt;subst es1;have up:∀{h1:Heap}{e0:Array (Int×Value)}{ep0:Nat}{t0:SetTable}(e2:Array (Int×Value)) (t3:SetTable),h1.get? a=some { cls:=.type "set", dict:=none,data:=.set e0 ep0 t0,slots:=#[] } ->
     (h1.update a (Obj.putSet e2 t3)).get? a=some { cls:=.type "set", dict:=none,data:=.set e2 (ep0+1) t3,slots:=#[] }:=λ{h1 e0 ep0 t0} e2 t3 q=>by
    have:=zAD (Obj.putSet e2 t3) q (by rw [putSet_of e2 t3 rfl];rfl);rw [putSet_of e2 t3 rfl] at this;exact this
   refine zAa <| wpAny_storeSet_of ho rfl ?_ (fits_of_scanBound few1);have o1:=up e1 t2 ho;split
   ·have pr:=relayAll_perm t2 e1 (SetTable.grown e1.size);have fr:=relayAll_fits t2 e1 (SetTable.grown e1.size);have zr:(relayAll t2 e1 (SetTable.grown e1.size)).1.size=e1.size:=by rw [<-zAH,pr.length_eq,zAH]
    refine zAa <| gv _ <| zAa <| wpAny_storeSet_of o1 rfl ?_ (fits_of_scanBound (by rw [zr];exact few1));have o2:=up (relayAll t2 e1 (SetTable.grown e1.size)).1 (relayAll t2 e1 (SetTable.grown e1.size)).2.1 o1;exact zAd ⟨_,rfl,rfl,(Heap.SameBut.update ..).trans (Heap.SameBut.update ..),_,_,_,o2,λe he=>en1 e (pr.mem_iff.mp he),(pr.map Sd).trans pm1,nd1,by rw [zr];exact few1,fr,(Gx ..).trans lt,λ_=>Hw _ _ _ pt⟩
   ·exact zAd ⟨_,rfl,rfl,Heap.SameBut.update ..,_,_,_,o1,en1,pm1,nd1,few1,ft,lt,λ_=>pt⟩
  have last:∀r s',(∃h',s'={ s with heap:=h' }/\r=some true/\Heap.SameBut a s.heap h'/\SSet w h' a (ss++[x]))->wpAny (model prog w) A (match r with | some added=>pure added | none=>setAddHashedIn a (.str x t) (hashStr w x) 99999) Q E s':=λr s' ⟨h',es',er,sb,S'⟩=>by
   subst es' er;have q:=h h' true sb;rw [if_neg hx] at q;exact zAd (q S')
  refine zAa <| gv _ ?_;split
  ·rename_i hp;refine zAa ?_;rw [hashByValue_scannable 8 rfl];refine zAd ?_;simp only [plainKind,zAz,if_false];refine zBK (fin s { t1 with plain:=false } rfl (SetTable.fits_plain_off f1) (l1.trans T.led) rfl) (λr s' q=>?_) λ_ _ z=>z;exact last r s' q
  ·rename_i hp;refine zAa (zAd ?_);simp only [↓reduceIte];refine zBK (fin s t1 rfl f1 (l1.trans T.led) (by simpa using hp)) (λr s' q=>?_) λ_ _ z=>z;exact last r s' q
end
def tZ (acc:List Str) (x:Str):List Str:=if x∈acc then acc else acc++[x]
def adds (acc xs:List Str):List Str:=xs.foldl tZ acc
theorem Kp (acc:List Str) (x:Str):(tZ acc x).length<=acc.length+1:=by
 unfold tZ;split
 ·omega
 ·simp
theorem fB:∀(xs acc:List Str),(adds acc xs).length<=acc.length+xs.length
 |[],acc=>zAq _
 |x::r,acc=>by
  have h1:=fB r (tZ acc x);have h2:=Kp acc x;show (adds (tZ acc x) r).length<=_;rw [zAv];omega
theorem HS (acc xs:List Str) (x:Str):adds acc (xs++[x])=tZ (adds acc xs) x:=by
 unfold adds;rw [List.foldl_append];rfl
theorem fU:∀(xs acc:List Str) (y:Str),y∈adds acc xs↔y∈acc∨y∈xs
 |[],acc,y=>by simp [adds]
 |x::r,acc,y=>by
  show y∈adds (tZ acc x) r↔_;rw [fU r];unfold tZ;split
  ·rename_i h;constructor
   ·rintro (q | q)
    ·exact .inl q
    ·exact .inr (zAf _ q)
   ·rintro (q | q)
    ·exact .inl q
    ·rcases zBv.mp q with rfl | q
     ·exact .inl h
     ·exact .inr q
  ·simp [or_assoc]
theorem gq:∀(xs acc:List Str),acc.Nodup->(adds acc xs).Nodup
 |[],acc,h=>h
 |x::r,acc,h=>by
  refine gq r (tZ acc x) ?_;unfold tZ;split
  ·exact h
  ·rename_i hx;exact List.nodup_append.mpr ⟨h,by simp,λy hy z hz e=>hx (by rw [<-List.mem_singleton.mp hz,<-e];exact hy)⟩
section
variable {A:Around}{R:Result->Shared->Prop}
theorem Zo {x:Str}{t:Tok}{Q:Bool->Shared->Prop}(S:SSet w s.heap a ss) (room:ss.length+1 < scanBound)
  (h:∀h' b tk,Heap.SameBut a s.heap h'->SSet w h' a (tZ ss x)->s.toks<=tk->Q b { s with heap:=h',toks:=tk }):wpAny (model prog w) A (setAdd a (.str x t)) Q E s:=by
 unfold setAdd;refine zAN <| zAa <| wpAny_pyHash_str ?_;exact aaV (s:={ s with toks:=s.toks+1 }) S room λh' b sb S'=>h h' b _ sb S' (zAZ _)
theorem Zr {fp wr:List Addr}{G:Array GenState->Array GenState->Prop}{P:Nat->Value->Prop}{St:Nat->Shared->Prop}(W:WalksS prog w A.in1 I fp wr G xs.length P St) (c:Addr) (hc:c∉fp)
  (hv:∀i v,P i v->∃x t,xs[i]?=some x/\v=.str x t) (hb:xs.length+1 < scanBound):∀(k i:Nat) (s:Shared),xs.length-i=k->i<=xs.length->St i s->SSet w s.heap c (adds [] (xs.take i)) ->
   (∀s',Moved (c::wr) G s s'->SSet w s'.heap c (adds [] xs)->R (.ok (.ret .none)) s')->codeAny (model prog w) A (.builtin "set.update.loop" ⟨[.ref c,.ref I],[]⟩) R s:=by
 have cw:c∉wr:=λz=>hc (W.sub _ z);have sub:∀b∈wr,b∈c::wr:=λb z=>zAf _ z;intro k;induction k with
 |zero=>
  intro i s hk hi st S hR;have e:i=xs.length:=by omega
  subst e;refine codeAny_builtin F.entry_set_update_loop ?_;rw [Around.under_plainId F.plain_set_update_loop];show wpAny _ _ (pyNext (.ref I) >>= λ_=>_) _ _ _;refine zAa <| W.done s _ _ st λs' mv=>?_;rw [zBR] at S;exact zAd (hR s' (mv.mono sub) (S.at λo q=>mv.heap c o cw q))
 |succ k ih=>
  intro i s hk hi st S hR;have lt:i < xs.length:=by omega
  refine codeAny_builtin F.entry_set_update_loop ?_;rw [Around.under_plainId F.plain_set_update_loop];show wpAny _ _ (pyNext (.ref I) >>= λ_=>_) _ _ _;refine zAa <| W.item i s _ _ lt st λv s' hp st' mv=>?_;obtain ⟨x,t,hx,rfl⟩:=hv i v hp;have S1:=S.at λo q=>mv.heap c o cw q;show wpAny _ _ (holding [_] (setAdd c (.str x t)) >>= λ_=>_) _ _ _;have rm:(adds [] (xs.take i)).length+1 < scanBound:=by
   have h1:=fB (xs.take i) [];rw [zAW] at h1;simp at h1;omega
  refine zAa <| zAN <| Zo S1 rm λh' b tk sb S2 htk=>?_;refine zAd ⟨plainId_quiet F.plain_set_update_loop _,ih (i+1) _ (by omega) lt (W.frame _ s' h' tk st' htk λb hb o q=>?_) ?_ λs2 mv2 S3=>hR s2 ?_ S3⟩
  ·rw [sb.2 b λz=>hc (z▸hb)];exact q
  ·rw [zBL,hx];show SSet w h' c (adds [] (xs.take i++[x]));rw [HS];exact S2
  ·refine Moved.trans W.gtrans ((mv.mono sub).then_heap htk λb o hb q=>?_) mv2;rw [sb.2 b λz=>hb (z▸zAm)];exact q
theorem VJ (h:Heap) (b:Bool) (hb:b=!nZ w):SSet w (h.push { cls:=.type "set", dict:=none,data:=.set #[] 0 (.fresh 0 0 b) }) h.objs.size []:=
 ⟨#[],0,_,zAp _ rfl,λe he=>by simp at he,List.Perm.refl _,zBP,by decide,by rfl,hb,λz=>absurd rfl z⟩
end
section
variable {A:Around}
abbrev uK (w:World):Obj:={ cls:=.type "set", dict:=none,data:=.set #[] 0 (.fresh 0 0 (!nZ w)) }
theorem aaK (a:Value) {Q:zV}(h:Q (.ref s.heap.objs.size) { s with heap:=s.heap.push (uK w) }):codeAny (model prog w) A (.call (.builtin "set.__new__") ⟨[.type "set", a],[]⟩) (wants Q E) s:=by
 refine codeAny_of_tree ?_;show wpAny _ _ (checkBuiltinCall "set.__new__" ⟨[.type "set", a],[]⟩ >>= λ_=>again (.builtin "set.__new__" ⟨[.type "set", a],[]⟩)) _ _ _;refine zAa <| wpAny_of_eq (F.newCall_set_1 a) <| zAd ⟨plainId_quiet F.plain_set_new _,codeAny_builtin F.entry_set_new ?_⟩;rw [Around.under_plainId F.plain_set_new];unfold Builtin.«set.__new__» Builtin.Frozenset.newClass;have sb:=sub_set_self;obtain ⟨hp,g,d,tk,os⟩:=s;dsimp only;wp_walk;refine zCh <| zAd ?_;simp only [newObj];exact zAa <| wpAny_alloc <| zAd <| zAd h
theorem I_ (hi:StrsAre items.toList xs):items.size=xs.length:=by
 rw [<-hi.strs,zAn,zAH]
theorem Ea:∀{vs:List Value}{xs:List Str},StrsAre vs xs->∀(i:Nat) v,vs[i]?=some v->∃x t,xs[i]?=some x/\v=.str x t
 |_,_,.nil,i,v,q=>by simp at q
 |_,_,.cons x t h,0,v,q=>by simp at q;exact ⟨x,t,rfl,q.symm⟩
 |_,_,.cons x t h,i+1,v,q=>by simpa using Ea h i v (by simpa using q)
theorem Zg {l:Addr}{Q:zV}(hh:XH.cY A [] s.heap) (hl:s.heap.IsList l items) (hi:StrsAre items.toList xs) (hb:xs.length+1 < scanBound)
  (h:∀(h':Heap) (tk:Nat),SSet w h' s.heap.objs.size (adds [] xs)->(∀b o,b < s.heap.objs.size->s.heap.get? b=some o->h'.get? b=some o)->Q (.ref s.heap.objs.size) { s with heap:=h',toks:=tk }) :
  wpAny (model prog w) A (call (.type "set") [.ref l]) Q E s:=by
 obtain ⟨c,tl,hmro⟩:=F.called_set.mro;have made:=F.called_set.made;have sub:=F.called_set.sub;have lenI:=I_ hi;refine zCj <| codeAny_of_tree ?_;show wpAny _ _ (callAny (.type "set") ⟨[.ref l],[]⟩) _ _ _;refine zAd ⟨Code.quiet_builtin _ (by decide +kernel),codeAny_builtin F.entry_type_call ?_⟩;rw [Around.under_plain (weight_type_call_type "set" [.ref l] []) rfl];have a1:=F.called_set.notType;have a2:=F.called_set.canCreate;have a3:=F.typeCall_set_1 (.ref l);repeat (any_goals (first | assumption | wp_step))
 refine codeAny_mono (aaK (w:=w) (.ref l) (E:=E) (Q:=λobj s₁=>obj=.ref s.heap.objs.size/\s₁={ s with heap:=s.heap.push (uK w) }) ⟨rfl,rfl⟩) λr s₁ hr=>?_;cases r with
 |error e=>exact hr
 |ok fl=>
  cases fl with
  |next=>exact hr.elim
  |brk=>exact hr.elim
  |cont=>exact hr.elim
  |ret obj=>
   obtain ⟨rfl,rfl⟩:=hr;have oS:(s.heap.push (uK w)).get? s.heap.objs.size=some (uK w):=zAp _ rfl;have tS:Shared.TypeIs { s with heap:=s.heap.push (uK w) } (.ref s.heap.objs.size) "set" := ⟨_,oS,rfl⟩;have b1:=F.called_set.init.lookup;have b2:=F.called_set.init.bind (.ref s.heap.objs.size);repeat (any_goals (first | assumption | wp_step))
   refine codeAny_mono (codeAny_call_builtin (R:=wants (λr s₂=>r=.none/\∃h' tk,s₂={ s with heap:=h',toks:=tk }/\SSet w h' s.heap.objs.size (adds [] xs) /\
    ∀b o,b < s.heap.objs.size->s.heap.get? b=some o->h'.get? b=some o) E) F.called_set.init.plain F.entry_set_init (check_set_init_1 tS ?_)) λr₂ s₂ hr₂=>?_
   ·obtain ⟨⟨c1,c2,c3,c4⟩,o1,o2,nl,o3⟩:=hl;cases o2
    cases o3
    have o1':(s.heap.push (uK w)).get? l=some { cls:=.type "list", dict:=c2,data:=.seq items nl,slots:=c4 }:=zAb _ o1;have n1:=F.sub_list_set;have n2:=F.sub_list_frozenset;have n3:(Value.type "list" == Value.type "dict")=false:=by decide
    have lL:(s.heap.push (uK w)).IsList l items:=⟨_,o1',rfl,nl,rfl⟩;have ltl:l < s.heap.objs.size:=zAe o1;unfold Builtin.«set.__init__» noKeywords Builtin.Frozenset.updateFrom;generalize gPI:pyIter=PI;wp_walk;subst gPI;refine wpAny_pyIter_list lL <| zAa <| wpAny_runValue ?_;have zz:(s.heap.push (uK w)).objs.size=s.heap.objs.size+1:=zAF ..;have hlt:∀b∈XH.hdl A.in1.in1.in1,b < s.heap.objs.size:=λb hb=>let ⟨_,o,e⟩:=XH.cY.mem (A:=A.in1.in1.in1) hh hb;zAe e
    have hd3:XH.cY A.in1.in1.in1 [(s.heap.push (uK w)).objs.size] ((s.heap.push (uK w)).push { cls:=.type "list_iterator", data:=.fields #[.ref l,.int 0 0] }):=by
     rcases hh with h | ⟨b,oh,vs,q1,q2,q3,q4,_⟩
     ·exact .inl h
     ·exact .inr ⟨b,oh,vs,q1,zAb _ (zAb _ q2),q3,q4,by rw [zz];simp;exact zAl (zAX (zAe q2))⟩
    have WL:=(XH.vq (prog:=prog) (w:=w) (A:=A.in1.in1.in1) (s.heap.push (uK w)).objs.size l (by rw [zz];exact zAl (zAX ltl)) items).toS;rw [lenI] at WL;refine Zr (xs:=xs) WL s.heap.objs.size ?_ (λi v q=>Ea hi i v (by rw [zBJ];exact q)) hb (xs.length-0) 0 _ (by omega) (zBf _) ⟨⟨⟨_,zAp _ rfl,rfl,rfl⟩,lL.push _⟩,hd3⟩ ?_ ?_
    ·rw [zz];simp only [zBv,zBp,or_false,not_or];exact ⟨zAl (zBr _),zBu ltl,λz=>zAJ _ (hlt _ z)⟩
    ·exact (VJ s.heap _ rfl).at λo q=>zAb _ q
    ·intro s' mv S';obtain ⟨h',g',d',tk',os'⟩:=s';have e1:g'=s.gens:=mv.gens;have e2:d'=s.drawn:=mv.drawn;have e3:os'=s.os:=mv.os;subst e1 e2 e3;show wpAny _ _ _ _ _ _;refine zAd ?_;show wpAny _ _ (ret Value.none) _ _ _;refine zAd ⟨rfl,h',tk',rfl,S',λb o lt q=>mv.heap b o ?_ (zAb _ (zAb _ q))⟩;rw [zz];simp only [zBv,zBp,or_false,not_or];exact ⟨zAl lt,zAl (zAX lt)⟩
   ·cases r₂ with
    |error e=>exact hr₂
    |ok fl₂=>
     cases fl₂ with
     |next=>exact hr₂.elim
     |brk=>exact hr₂.elim
     |cont=>exact hr₂.elim
     |ret r=>
      obtain ⟨rfl,h',tk,rfl,S',kk⟩:=hr₂;repeat (any_goals (first | assumption | wp_step))
      exact h _ _ S' kk
end
section
variable {A:Around}
theorem yg {M:Model}{src:Source}{n:Nat}{Q:Nat->Shared->Prop}(hn:n≠0) (h:∀i d,i < n->Q i { s with drawn:=d }):wpAny M A (choose src n) Q E s:=λΓ p hg=>by
 unfold choose;rw [Sem.wp_choose];exact ⟨hn,by
  show Q _ _;exact h _ _ (Nat.mod_lt _ (Nat.pos_of_ne_zero hn))⟩
theorem xJ {α:Type}:∀{l:List α}{i:Nat}(h:i < l.length),(l[i]::l.eraseIdx i).Perm l
 |x::r,0,_=>List.Perm.refl _
 |x::r,i+1,h=>by
  have h':i < r.length:=by simpa using h
  show (r[i]::x::r.eraseIdx i).Perm (x::r);exact (List.Perm.swap ..).trans ((xJ h').cons x)
theorem C_ {α:Type}:∀(n:Nat) (xs:List α) (s:Shared) (Q:List α->Shared->Prop),xs.length=n->(∀ys d,ys.Perm xs->Q ys { s with drawn:=d })->wpAny (model prog w) A (drawOrder n xs) Q E s
 |0,xs,s,Q,hn,h=>by
  unfold drawOrder;refine zAd ?_;have:=List.length_eq_zero_iff.mp hn;subst this;exact h [] s.drawn (List.Perm.refl _)
 |n+1,[],s,Q,hn,h=>by cases hn
 |n+1,x::r,s,Q,hn,h=>by
  unfold drawOrder;refine zAa <| yg (by simp) λi d hi=>?_;rw [zAc hi];dsimp only;refine zAa <| C_ n ((x::r).eraseIdx i) { s with drawn:=d } _ (by rw [List.length_eraseIdx_of_lt hi];simpa using hn) λys d' hp=>?_;refine zAd (h _ d' ?_);exact (hp.cons _).trans (xJ hi)
theorem Ds {α:Type}(next:Nat->Nat):∀(n k:Nat) (left:List α) (out:Array α),left.length=n->((pickOrder.go next n k left out).toList).Perm (out.toList++left)
 |0,k,left,out,h=>by
  have:=List.length_eq_zero_iff.mp h;subst this;unfold pickOrder.go;simp
 |n+1,k,left,out,h=>by
  unfold pickOrder.go;have hi:next k % left.length < left.length:=Nat.mod_lt _ (by omega);rw [zAc hi];dsimp only;refine (Ds next n (k+1) _ _ (by rw [List.length_eraseIdx_of_lt hi];omega)).trans ?_;rw [Array.toList_push,zAC];exact (xJ hi).append_left _
theorem Hg {α:Type}(next:Nat->Nat) (xs:Array α):(pickOrder next xs).toList.Perm xs.toList:=by
 have:=Ds next xs.size 0 xs.toList #[] (by simp);unfold pickOrder;simpa using this
theorem slot_next:Slot "set_iterator" "__next__" "set_iterator.__next__" :=
 .of (owner := "set_iterator") (n := "__next__") (by rw [typeLookup_type,builtinLookup_eq_fast];kernel_rfl) (by decide +kernel) (by decide +kernel) (by decide +kernel) (by first | exact .inl (by decide +kernel) | exact .inr (by decide +kernel)) (by rw [isSubtype_type];kernel_rfl)
theorem entry_next:entryFor table "set_iterator.__next__" = some Builtin.«set_iterator.__next__»:=entryFor_of_fast (by kernel_rfl)
theorem args_next (a:Value):argsOk "set_iterator.__next__" ⟨[a],[]⟩:=by unfold argsOk;kernel_rfl
theorem Bv:entryFor table "set.__iter__" = some Builtin.«frozenset.__iter__»:=entryFor_alias (id' := "frozenset.__iter__") (by kernel_rfl) rfl (by decide +kernel) (by kernel_rfl)
def Fst (w:World) (h:Heap) (es:Array (Int×Value)) (ep:Nat) (t:SetTable) (a:Addr) (vs:List Value) (i:Nat) (f:Value):Prop:=
 (nZ w=true/\f=rawInt 0/\vs=(pickOrder (w.params.setOrder a ep) es).toList.map (·.2)) ∨
 (nZ w=false/\(∃(tp:Addr) (ps:List Nat),f=.ref tp/\h.get? tp=some { cls:=.type "tuple", data:=.seq ((ps.map λ(p:Nat)=>rawInt p).toArray) }/\ps.Perm (List.range es.size)/\vs=ps.map λp=>(es.toList.getD p (0,.none)).2)) ∨
 (nZ w=false/\es.size<=1/\(i=0->f=rawInt 0)/\(i=1->∃j,t.place[0]?=some j/\f=rawInt (j+1:Nat))/\vs=es.toList.map (·.2))
def Xo (w:World) (h:Heap) (es:Array (Int×Value)) (ep:Nat) (t:SetTable) (a I:Addr) (vs:List Value) (i:Nat):Prop:=
 h.get? a=some { cls:=.type "set", dict:=none,data:=.set es ep t,slots:=#[] }/\∃f,h.get? I=some { cls:=.type "set_iterator", data:=.fields #[f,rawInt i,.ref a,rawInt es.size,rawInt ep] }/\Fst w h es ep t a vs i f
theorem v8 {h:Heap}(F:Fst w h es ep t a vs i f):vs.Perm (es.toList.map (·.2)):=by
 rcases F with ⟨_,_,rfl⟩ | ⟨_,tp,ps,_,_,hp,rfl⟩ | ⟨_,_,_,_,rfl⟩
 ·exact (Hg _ _).map _
 ·refine (hp.map _).trans ?_;have e:(List.range es.size).map (λp=>(es.toList.getD p (0,.none)).2)=es.toList.map (·.2):=by
   apply List.ext_getElem
   ·simp
   ·intro k h1 h2;simp at h1 h2;simp [List.getElem_map,h1]
  rw [e]
 ·exact List.Perm.refl _
end
section
variable {A:Around}
theorem Mt {xs:Array Nat}{j:Nat}(h1:xs.size=1) (h:xs[0]?=some j) (k:Nat):SetTable.below xs k=if j < k then 1 else 0:=by
 have e:xs=#[j]:=by
  apply Array.ext
  ·simp [h1]
  ·intro i a b;have:i=0:=by simp at b;omega
   subst this;have:=zBn a;rw [h] at this;simpa using (Option.some.inj this).symm
 subst e;unfold SetTable.below;simp [SetTable.below.go]
theorem Vx {xs:Array Nat}(h0:xs.size=0) (k:Nat):SetTable.below xs k=0:=by
 have:xs=#[]:=Array.size_eq_zero_iff.mp h0;subst this;rfl
theorem mq (b:Bool) {Q:Bool->Shared->Prop}(e:nZ w=b) (h:Q b s):wpAny (model prog w) A setsByText Q E s:=by
 unfold setsByText;refine zAa <| zCh <| zAd ?_;show Q (w.params.followText "set-order") s;unfold nZ at e;rw [e];exact h
theorem wr2 {f':Value}{Q:Unit->Shared->Prop}{g:Addr->Value}(n:Nat) (hI:s.heap.get? I=some { cls:=.type "set_iterator", data:=.fields #[f,rawInt i,.ref a,rawInt es.size,rawInt ep] })
  (h:∀h',h'.get? I=some { cls:=.type "set_iterator", data:=.fields #[f',rawInt n,.ref a,rawInt es.size,rawInt ep] }->(∀b o,b≠I->s.heap.get? b=some o->h'.get? b=some o)->Q () { s with heap:=h' }) :
  wpAny (model prog w) A (setField (.ref I) 0 f' >>= λ_=>setField (.ref I) 1 (rawInt n)) Q E s:=by
 refine zAa <| zAQ hI rfl (by simp) ?_;have o1:=zAD (Obj.mapFields (·.setIfInBounds 0 f')) hI rfl;refine zAQ o1 rfl (by simp) (h _ (zAD _ o1 rfl) λb o hb q=>?_);exact (zAt _ _ (Ne.symm hb)).trans ((zAt _ _ (Ne.symm hb)).trans q)
theorem wr1 {Q:Unit->Shared->Prop}(n:Nat) (hI:s.heap.get? I=some { cls:=.type "set_iterator", data:=.fields #[f,rawInt i,.ref a,rawInt es.size,rawInt ep] })
  (h:∀h',h'.get? I=some { cls:=.type "set_iterator", data:=.fields #[f,rawInt n,.ref a,rawInt es.size,rawInt ep] }->(∀b o,b≠I->s.heap.get? b=some o->h'.get? b=some o)->Q () { s with heap:=h' }) :
  wpAny (model prog w) A (setField (.ref I) 1 (rawInt n)) Q E s:=
 zAQ hI rfl (by simp) (h _ (zAD _ hI rfl) λb o hb q=>(zAt _ _ (Ne.symm hb)).trans q)
theorem Yw {Q:Option Value->Shared->Prop}(T:JZ w es t) (st:Xo w s.heap es ep t a I vs i) (hne:a≠I) (hi:i < es.size)
  (hQ:∀v h',vs[i]?=some v->Xo w h' es ep t a I vs (i+1)->(∀b o,b≠I->s.heap.get? b=some o->h'.get? b=some o)->Q (some v) { s with heap:=h' }):wpAny (model prog w) A (pyNext (.ref I)) Q E s:=by
 obtain ⟨ha,f,hI,F⟩:=st;have hlen:vs.length=es.size:=by rw [(v8 F).length_eq,zAn,zAH]
 unfold pyNext;refine zAa <| zBs <| zAI (name:=Str.ofString "__next__") ⟨_,hI,rfl⟩ slot_next <| zAV slot_next ⟨_,hI,rfl⟩ entry_next ?_ (args_next _);show wpAny _ _ (fieldsOf (.ref I) >>= λ_=>_) _ _ _;refine zAa <| wpAny_fieldsOf hI rfl ?_;show wpAny _ _ (setEntries a >>= λ_=>_) _ _ _;refine zAa <| wpAny_setEntries_of ha rfl T.fit ?_;rw [if_neg (by simp)];rcases F with ⟨bt,rfl,rfl⟩ | ⟨bt,tp,ps,rfl,htp,hp,rfl⟩ | ⟨bt,h1,f0,f1,rfl⟩
 ·show wpAny _ _ (setNext a 0 i ep >>= λ_=>_) _ _ _;refine zAa ?_;unfold setNext;refine zAa <| zBk ha rfl T.fit ?_;dsimp only;refine zAa <| mq true bt ?_;rw [if_pos rfl,if_neg (by simp)];refine zAa ?_;unfold setWalk;refine zAa <| zBk ha rfl T.fit ?_;dsimp only;refine zAa <| mq true bt ?_;rw [if_pos rfl];refine zAa <| zCh <| zAd <| zAd ?_;have hsz:i < (pickOrder (w.params.setOrder a ep) es).size:=by
   rw [zAn,zAH] at hlen;omega
  have hx:((pickOrder (w.params.setOrder a ep) es).toList.map (·.2))[i]?=some (pickOrder (w.params.setOrder a ep) es)[i].2:=by
   rw [zAk,zBJ,zBn hsz];rfl
  show wpAny _ _ (match ((pickOrder (w.params.setOrder a ep) es)[i]?).map λe=>(e.2,0) with | some (x,next)=>_ | none=>_) _ _ _;rw [zBn hsz];show wpAny _ _ (setField (.ref I) 0 (rawInt 0) >>= λ_=>setField (.ref I) 1 (rawInt ((i:Int)+1)) >>= λ_=>ret _) _ _ _;rw [<-bind_assoc];refine zAa <| wr2 (f':=rawInt 0) (g:=λ_=>.none) (i+1) hI λh' o' kk=>zAd ⟨_,rfl,zAd (hQ _ h' hx ⟨kk a _ hne ha,_,o',.inl ⟨bt,rfl,rfl⟩⟩ kk)⟩
 ·show wpAny _ _ (seqItems? (.ref tp) >>= λ_=>_) _ _ _;refine zAa <| zBO htp rfl ?_;have hpl:i < ps.length:=by rw [zAn] at hlen;omega
  have hpi:ps[i] < es.size:=List.mem_range.mp (hp.mem_iff.mp (zBi hpl));have e0:((ps.map λ(p:Nat)=>rawInt p).toArray)[((i:Nat):Int).toNat]?=some (rawInt ps[i]):=by
   rw [zBd,List.getElem?_toArray,zAk,zAc hpl];rfl
  dsimp only;rw [e0];show wpAny _ _ (setNextDrawn a ps[i] ep >>= λ_=>_) _ _ _;refine zAa ?_;unfold setNextDrawn;refine zAa <| zBk ha rfl T.fit ?_;dsimp only;rw [if_neg (by simp)];rw [zBn hpi];refine zAd ?_;show wpAny _ _ (setField (.ref I) 1 (rawInt ((i:Int)+1)) >>= λ_=>ret _) _ _ _;have hx:(ps.map λp=>(es.toList.getD p (0,.none)).2)[i]?=some es[ps[i]].2:=by
   rw [zAk,zAc hpl];simp [hpi]
  have hti:tp≠I:=λz=>by
   rw [z,hI] at htp;have q:=congrArg Obj.cls (Option.some.inj htp);simp at q
  exact zAa <| wr1 (i+1) hI λh' o' kk=>zAd ⟨_,rfl,zAd (hQ _ h' hx ⟨kk a _ hne ha,_,o',.inr (.inl ⟨bt,tp,ps,rfl,kk tp _ hti htp,hp,rfl⟩)⟩ kk)⟩
 ·have i0:i=0:=by omega
  subst i0;have e1:es.size=1:=by omega
  rw [f0 rfl];show wpAny _ _ (setNext a 0 0 ep >>= λ_=>_) _ _ _;refine zAa ?_;unfold setNext;refine zAa <| zBk ha rfl T.fit ?_;dsimp only;refine zAa <| mq false bt ?_;rw [if_neg zAs];change wpAny _ _ (if (!t.plain&&decide (es.size > 1))=true then _ else _) _ _ _;rw [if_neg (by rw [e1];simp)];have hl:t.led=true:=by rw [T.led,bt];rfl
  change wpAny _ _ ((if (!t.led&&!es.isEmpty)=true then unsupported "set:maker-not-led" else pure ()) >>= λ_=>_) _ _ _;rw [if_neg (by rw [hl];simp)];refine zAa <| zAd <| zAd ?_;have zp:t.place.size=1:=by
   have:=T.fit;unfold SetTable.fits at this;rw [zAE,beq_iff_eq] at this;omega
  have hj:t.place[0]?=some t.place[0]:=zBn (by omega);have b0:SetTable.below t.place 0=0:=by rw [Mt zp hj];simp
  have e2:es[0]?=some es[0]:=zBn (by omega);rw [b0,e2,hj];show wpAny _ _ (setField (.ref I) 0 (rawInt ((t.place[0]+1:Nat))) >>= λ_=>setField (.ref I) 1 (rawInt (((0:Nat):Int)+1)) >>= λ_=>ret _) _ _ _;rw [<-bind_assoc];have hx:(es.toList.map (·.2))[0]?=some es[0].2:=by
   rw [zAk,zBJ,e2];rfl
  refine zAa <| wr2 (f':=rawInt ((t.place[0]+1:Nat))) (g:=λ_=>.none) 1 hI λh' o' kk=>zAd ⟨_,rfl,zAd (hQ _ h' hx ⟨kk a _ hne ha,_,o',.inr (.inr ⟨bt,h1,λz=>?_,λ_=>⟨_,hj,rfl⟩,rfl⟩)⟩ kk)⟩;simp at z
theorem Ys {Q:Option Value->Shared->Prop}(hh:A.handled=none) (T:JZ w es t) (st:Xo w s.heap es ep t a I vs es.size) (hne:a≠I)
  (hQ:∀h',(∀b o,b≠I->s.heap.get? b=some o->h'.get? b=some o)->Q none { s with heap:=h' }):wpAny (model prog w) A (pyNext (.ref I)) Q E s:=by
 obtain ⟨ha,f,hI,F⟩:=st;have hlen:vs.length=es.size:=by rw [(v8 F).length_eq,zAn,zAH]
 unfold pyNext;refine zAa <| zBs <| zAI (name:=Str.ofString "__next__") ⟨_,hI,rfl⟩ slot_next <| zAV slot_next ⟨_,hI,rfl⟩ entry_next ?_ (args_next _);show wpAny _ _ (fieldsOf (.ref I) >>= λ_=>_) _ _ _;refine zAa <| wpAny_fieldsOf hI rfl ?_;show wpAny _ _ (setEntries a >>= λ_=>_) _ _ _;refine zAa <| wpAny_setEntries_of ha rfl T.fit ?_;rw [if_neg (by simp)];have last:∀(h1:Heap),(∀b o,b≠I->s.heap.get? b=some o->h1.get? b=some o)->wpAny (model prog w) A.in1 (newExc (.type "StopIteration") [] >>= λx=>raiseNew (α:=PySem.Fin) x) (λr s'=>∃v,r=PySem.Fin.done (.ret v)/\wpAny (model prog w) A (pure (some v)) Q E s')
   (λe s'=>wpAny (model prog w) A (isInstance e (.type "StopIteration") >>= λb=>if b=true then pure none else throw e) Q E s') { s with heap:=h1 }:=by
  intro h1 kk;refine zAa ?_;simp only [newExc,newTuple];refine zAa <| zBl ?_ (by size_fits);refine zAa (m:=firstArgMember _ _) <| wpAny_of_eq (a:=Value.none) (by first | rfl | (simp only [firstArgMember];rfl)) ?_;refine zBl ?_ (by size_fits);simp only [raiseNew];refine zAa <| wpAny_handled ?_;rw [show A.in1.handled=none from hh];refine zAa <| zAd <| wpAny_throw ?_;refine zAa <| zBh (T := "StopIteration") (b:=true) ⟨_,zAp _ rfl,rfl⟩ isSubtype_stop ?_;exact zAd (hQ _ λb o hb q=>zAb _ (zAb _ (kk b o hb q)))
 rcases F with ⟨bt,rfl,rfl⟩ | ⟨bt,tp,ps,rfl,htp,hp,rfl⟩ | ⟨bt,h1,f0,f1,rfl⟩
 ·show wpAny _ _ (setNext a 0 es.size ep >>= λ_=>_) _ _ _;refine zAa ?_;unfold setNext;refine zAa <| zBk ha rfl T.fit ?_;dsimp only;refine zAa <| mq true bt ?_;rw [if_pos rfl,if_neg (by simp)];refine zAa ?_;unfold setWalk;refine zAa <| zBk ha rfl T.fit ?_;dsimp only;refine zAa <| mq true bt ?_;rw [if_pos rfl];refine zAa <| zCh <| zAd <| zAd ?_;have hn:(pickOrder (w.params.setOrder a ep) es)[es.size]?=none:=by
   rw [zAn,zAH] at hlen;exact zBZ (by omega)
  show wpAny _ _ (match ((pickOrder (w.params.setOrder a ep) es)[es.size]?).map λe=>(e.2,0) with | some (x,next)=>_ | none=>_) _ _ _;rw [hn];show wpAny _ _ (setField (.ref I) 2 .none >>= λ_=>_) _ _ _;exact zAa <| zAQ hI rfl (by simp) <| last _ λb o hb q=>(zAt _ _ (Ne.symm hb)).trans q
 ·show wpAny _ _ (seqItems? (.ref tp) >>= λ_=>_) _ _ _;refine zAa <| zBO htp rfl ?_;have e0:((ps.map λ(p:Nat)=>rawInt p).toArray)[((es.size:Nat):Int).toNat]?=none:=by
   rw [zAn] at hlen;rw [zBd,List.getElem?_toArray,zCg (by rw [zAn];omega)]
  dsimp only;rw [e0];show wpAny _ _ (setField (.ref I) 0 (rawInt 0) >>= λ_=>setField (.ref I) 2 .none >>= λ_=>_) _ _ _;refine zAa <| zAQ hI rfl (by simp) ?_;have o1:=zAD (Obj.mapFields (·.setIfInBounds 0 (rawInt 0))) hI rfl;exact zAa <| zAQ o1 rfl (by simp) <| last _ λb o hb q=>(zAt _ _ (Ne.symm hb)).trans ((zAt _ _ (Ne.symm hb)).trans q)
 ·have hl:t.led=true:=by rw [T.led,bt];rfl
  have fin:∀k:Nat,f=rawInt (k:Nat)->es[SetTable.below t.place k]?=none->wpAny (model prog w) A.in1 (setNext a k es.size ep) (λr s'=>r=none/\s'=s) (λ_ _=>False) s:=λk ek hk=>by
   unfold setNext;refine zAa <| zBk ha rfl T.fit ?_;dsimp only;refine zAa <| mq false bt ?_;rw [if_neg zAs];change wpAny _ _ (if (!t.plain&&decide (es.size > 1))=true then _ else _) _ _ _;rw [if_neg (by simp;omega)];change wpAny _ _ ((if (!t.led&&!es.isEmpty)=true then unsupported "set:maker-not-led" else pure ()) >>= λ_=>_) _ _ _;rw [if_neg (by rw [hl];simp)];refine zAa <| zAd <| zAd ?_;rw [hk];exact ⟨rfl,rfl⟩
  have zp:t.place.size=es.size:=by
   have:=T.fit;unfold SetTable.fits at this;rw [zAE,beq_iff_eq] at this;exact this.1
  obtain ⟨k,ek,hk⟩:∃k:Nat,f=rawInt (k:Nat)/\es[SetTable.below t.place k]?=none:=by
   rcases Nat.lt_or_ge 0 es.size with h0 | h0
   ·obtain ⟨j,hj,ef⟩:=f1 (by omega);refine ⟨j+1,ef,?_⟩;rw [Mt (by omega) hj,if_pos (zBr j)];exact zBZ (by omega)
   ·refine ⟨0,f0 (by omega),?_⟩;rw [Vx (by omega)];exact zBZ (by omega)
  have fk:=fin k ek hk;subst ek;show wpAny _ _ (setNext a k es.size ep >>= λ_=>_) _ _ _;refine zAa <| zBK fk (λr s' q=>?_) λ_ _ z=>z.elim;obtain ⟨rfl,rfl⟩:=q;show wpAny _ _ (setField (.ref I) 2 .none >>= λ_=>_) _ _ _;exact zAa <| zAQ hI rfl (by simp) <| last _ λb o hb q=>(zAt _ _ (Ne.symm hb)).trans q
end
section
variable {A:Around}{R:Result->Shared->Prop}
theorem Z0 {Q:zV}(T:JZ w es t) (ha:s.heap.get? a=some { cls:=.type "set", dict:=none,data:=.set es ep t,slots:=#[] })
  (h:∀I vs h' d',Xo w h' es ep t a I vs 0->s.heap.objs.size<=I->(∀b o,s.heap.get? b=some o->h'.get? b=some o)->Q (.ref I) { s with heap:=h',drawn:=d' }):wpAny (model prog w) A (pyIter (.ref a)) Q E s:=by
 have ty:s.TypeIs (.ref a) "set" := ⟨_,ha,rfl⟩;refine wpAny_pyIter_slot ty F.slot_set_iter <| zAV F.slot_set_iter ty Bv ?_ (F.args_set_iter_1 _);show wpAny _ _ (Builtin.Frozenset.sizeOf a >>= λ_=>_) _ _ _;refine zAa ?_;unfold Builtin.Frozenset.sizeOf;refine zAa <| wpAny_setEntries_of ha rfl T.fit <| zAd ?_;have rest:∀(f:Value) (vs:List Value) (h1:Heap) (d1:Drawn),(∀b o,s.heap.get? b=some o->h1.get? b=some o)->s.heap.objs.size<=h1.objs.size->Fst w h1 es ep t a vs 0 f ->
   wpAny (model prog w) A.in1 (setEpoch a >>= λe=>newFields "set_iterator" [f,rawInt 0,.ref a,rawInt es.size,rawInt e] >>= λv=>ret v) (λr s'=>∃v,r=.done (.ret v)/\∃T' r,s'.TypeIs v T'/\typeLookup (.type T') "__next__" = pure (some r)/\Q v s') E { s with heap:=h1,drawn:=d1 }:=by
  intro f vs h1 d1 kk le F;refine zAa <| wpAny_setEpoch_of (s:={ s with heap:=h1,drawn:=d1 }) (kk _ _ ha) rfl T.fit ?_;refine zAa <| zBl <| zAd ⟨_,rfl, "set_iterator", _,⟨_,zAp _ rfl,rfl⟩,slot_next.lookup,?_⟩;refine h _ vs _ d1 ⟨zAb _ (kk _ _ ha),f,zAp _ rfl,?_⟩ le λb o q=>zAb _ (kk _ _ q);rcases F with q | ⟨bt,tp,ps,e,htp,r⟩ | q
  ·exact .inl q
  ·exact .inr (.inl ⟨bt,tp,ps,e,zAb _ htp,r⟩)
  ·exact .inr (.inr q)
 refine zAa ?_;refine zAa ?_;refine zBk ha rfl T.fit ?_;dsimp only;cases bt:nZ w with
 |true=>
  refine zAa <| mq true bt <| zAd ?_;rw [if_neg (by simp)];exact zAa <| zAd <| rest _ _ s.heap s.drawn (λ_ _ q=>q) (zAq _) (.inl ⟨bt,rfl,rfl⟩)
 |false=>
  refine zAa <| mq false bt <| zAd ?_;change wpAny _ _ (if (!false&&(!t.plain&&decide (es.size > 1)))=true then _ else _) _ _ _;by_cases hs:es.size > 1
  ·rw [if_pos (by rw [T.pln (by omega)];simp [hs])];refine zAa <| C_ es.size (List.range es.size) s _ (by simp) λps d hp=>?_;refine zAa <| wpAny_newTuple ?_ (by
    rw [zAn,hp.length_eq,List.length_range];exact fits_of_scanBound T.few)
   exact rest _ _ _ d (λb o q=>zAb _ q) (by rw [zAF];exact zAZ _) (.inr (.inl ⟨bt,_,ps,rfl,zAp _ rfl,hp,rfl⟩))
  ·rw [if_neg (by simp [hs])];exact zAa <| zAd <| rest _ _ s.heap s.drawn (λ_ _ q=>q) (zAq _) (.inr (.inr ⟨bt,by omega,λ_=>rfl,λz=>absurd z (by decide),rfl⟩))
theorem aaw (hh:A.handled=none) (T:JZ w es t) (c:Addr) (hcI:c≠I) (hca:c≠a) (hne:a≠I) (res:Value) (hv:vs.length=es.size):∀(k i:Nat) (s:Shared) (n:Nat),es.size-i=k->i<=es.size->Xo w s.heap es ep t a I vs i ->
  s.heap.get? c=some { cls:=.type "list", dict:=none,data:=.seq ((vs.take i).toArray) n,slots:=#[] } ->
  (∀h' n',(∀b o,b≠c->b≠I->s.heap.get? b=some o->h'.get? b=some o)->h'.get? c=some { cls:=.type "list", dict:=none,data:=.seq vs.toArray n',slots:=#[] }->R (.ok (.ret res)) { s with heap:=h' }) ->
  codeAny (model prog w) A (.builtin "list.extend.loop" ⟨[.ref c,.ref I,res],[]⟩) R s:=by
 intro k;induction k with
 |zero=>
  intro i s n hk hi st hc hR;have e:i=es.size:=by omega
  subst e;refine codeAny_builtin F.entry_extend_loop ?_;rw [Around.under_plainId F.plain_extend_loop];show wpAny _ _ (pyNext (.ref I) >>= λ_=>_) _ _ _;refine zAa <| Ys (show A.in1.handled=none from hh) T st hne λh' kk=>zAd ?_;refine hR h' n (λb o _ hb q=>kk b o hb q) ?_;rw [<-hv,zBR] at hc;exact kk _ _ hcI hc
 |succ k ih=>
  intro i s n hk hi st hc hR;refine codeAny_builtin F.entry_extend_loop ?_;rw [Around.under_plainId F.plain_extend_loop];show wpAny _ _ (pyNext (.ref I) >>= λ_=>_) _ _ _;refine zAa <| Yw T st hne (by omega) λv h' hx st' kk=>?_;have hc':=kk _ _ hcI hc;have z:(vs.take i).toArray.size<=sizeLine:=by
   rw [zAo,zAW];have:=fits_of_scanBound T.few;omega
  have lt:=(List.getElem?_eq_some_iff.mp hx).1;show wpAny _ _ (updateSeq c (·.push v) >>= λ_=>_) _ _ _;refine zAa <| wpAny_updateSeq (s:={ s with heap:=h' }) hc' rfl ?_ z (by show ((vs.take i).toArray.push v).size<=_;rw [Array.size_push];omega);have e2:(vs.take i).toArray.push v=(vs.take (i+1)).toArray:=by
   rw [zBL,hx];simp
  have hc2:=get?_update_seq (h:=h') (a:=c) (c := "list") (xs:=(vs.take i).toArray) (n:=n) hc' (·.push v);simp only [e2] at hc2;refine zAd ⟨plainId_quiet F.plain_extend_loop _,ih (i+1) { s with heap:=h'.update c (Obj.mapSeq (·.push v)) } _ (by omega) (by omega) ?_ hc2 λh2 n2 k2 r2=>hR h2 n2 (λb o b1 b2 q=>k2 b o b1 b2 ((zAt _ _ (Ne.symm b1)).trans (kk b o b2 q))) r2⟩;have oth:∀b o,b≠c->h'.get? b=some o->(h'.update c (Obj.mapSeq (·.push v))).get? b=some o:=λb o hb q=>(zAt _ _ (Ne.symm hb)).trans q;obtain ⟨h1,f,h2,F⟩:=st';refine ⟨oth _ _ (Ne.symm hca) h1,f,oth _ _ (Ne.symm hcI) h2,?_⟩;rcases F with q | ⟨bt,tp,ps,e,htp,r⟩ | q
  ·exact .inl q
  ·refine .inr (.inl ⟨bt,tp,ps,e,oth tp _ (λzz=>?_) htp,r⟩);subst zz;rw [hc'] at htp;have q:=congrArg Obj.cls (Option.some.inj htp);simp at q
  ·exact .inr (.inr q)
theorem O9:isSubtype (.type "set") (.type "set")=pure true:=sub_set_self
theorem Hj:Slot "set" "__len__" "set.__len__" :=
 .of (owner := "set") (n := "__len__") (by rw [typeLookup_type,builtinLookup_eq_fast];kernel_rfl) (by decide +kernel) (by decide +kernel) (by decide +kernel) (by first | exact .inl (by decide +kernel) | exact .inr (by decide +kernel)) (by rw [isSubtype_type];kernel_rfl)
theorem Zb {Q:Bool->Shared->Prop}(ty:s.TypeIs (.ref a) "set") (h:Q false s):wpAny (model prog w) A (Builtin.List.listLengthHint (.ref a)) Q E s:=by
 unfold Builtin.List.listLengthHint;refine zAa <| wpAny_specialOf ty Hj.lookup ?_;generalize eid:("set.__len__" : String)=id0
 wp_delta;rw [show splitId id0=some ("set", "__len__") from by subst eid;decide +kernel];subst eid;refine zAa <| zBh (T := "set") (b:=true) ty O9 ?_;refine wpAny_ite_split (λz=>absurd z (by decide)) λ_=>?_;refine wpAny_ite_split (λ_=>?_) λz=>absurd (by decide +kernel) z;exact zAa <| wpAny_typeOf ty <| zAd h
theorem Je {Q:List Value->Shared->Prop}(hh:A.handled=none) (S:SSet w s.heap a ss)
  (h:∀vs h' d',StrsAre vs (vs.map strOf)->(vs.map strOf).Perm ss->(∀b o,s.heap.get? b=some o->h'.get? b=some o)->Q vs { s with heap:=h',drawn:=d' }):wpAny (model prog w) A (collect (.ref a)) Q E s:=by
 obtain ⟨es,ep,t,ho,hen,hpm,hnd,T⟩:=S;unfold collect;refine zAa <| wpAny_runValue <| codeAny_builtin F.entry_proto_collect ?_;rw [Around.under_plainId F.plain_proto_collect];show wpAny _ _ (newList [] >>= λl=>again (.builtin "list.__iadd__" ⟨[l,.ref a],[]⟩)) _ _ _;refine zAa <| zBl <| zAd ⟨plainId_quiet F.plain_list_iadd _,codeAny_builtin F.entry_list_iadd ?_⟩;rw [Around.under_plainId F.plain_list_iadd];have o1:(s.heap.push { cls:=.type "list", data:=.seq ([]:List Value).toArray }).get? a=some { cls:=.type "set", dict:=none,data:=.set es ep t,slots:=#[] }:=zAb _ ho;have lt:a < s.heap.objs.size:=zAe ho;show wpAny _ _ (Builtin.List.listExtendWith (.ref s.heap.objs.size) (.ref a) (.ref s.heap.objs.size)) _ _ _;unfold Builtin.List.listExtendWith;refine zAa <| wpAny_typeOf (T := "set") ⟨_,o1,rfl⟩ ?_;have n1:Builtin.List.listSameRef (.ref s.heap.objs.size) (.ref a)=false:=by
  have:s.heap.objs.size≠a:=zBu lt;simp [Builtin.List.listSameRef,this]
 have n2:(Value.type "set" == Value.type "list")=false:=by decide
 have n3:(Value.type "set" == Value.type "tuple")=false:=by decide
 simp only [n1,n2,n3,Bool.or_false,zAz,if_false];refine zAa <| Z0 T o1 λI vs h1 d1 st le kk=>?_;have oc:h1.get? s.heap.objs.size=some { cls:=.type "list", data:=.seq ([]:List Value).toArray }:=kk _ _ (zAp _ rfl);have oa:=st.1;refine zAa <| zAN <| Zb (s:={ s with heap:=h1,drawn:=d1 }) ⟨_,oa,rfl⟩ ?_;refine wpAny_ite_split (λ_=>?_) λz=>absurd (by decide +kernel) z;refine zAa <| zBE ?_;show wpAny _ _ ((updateSeq s.heap.objs.size (·.push .none) >>= λ_=>updateSeq s.heap.objs.size (·.pop)) >>= λ_=>again (.builtin "list.extend.loop" ⟨[.ref s.heap.objs.size,.ref I,.ref s.heap.objs.size],[]⟩)) _ _ _;refine zAa <| zAa <| wpAny_updateSeq (s:={ s with heap:=h1,drawn:=d1 }) oc rfl ?_;have oc2:=get?_update_seq (h:=h1) (a:=s.heap.objs.size) (c := "list") (xs:=([]:List Value).toArray) (n:=0) oc (·.push Value.none);refine wpAny_updateSeq (s:={ s with heap:=h1.update s.heap.objs.size (Obj.mapSeq (·.push .none)),drawn:=d1 }) oc2 rfl ?_;have oc3:=get?_update_seq (a:=s.heap.objs.size) (c := "list") oc2 (·.pop);have oth:∀b o,b≠s.heap.objs.size->h1.get? b=some o->((h1.update s.heap.objs.size (Obj.mapSeq (·.push .none))).update s.heap.objs.size (Obj.mapSeq (·.pop))).get? b=some o:=λb o hb q=>(zAt _ _ (Ne.symm hb)).trans ((zAt _ _ (Ne.symm hb)).trans q);have hcI:s.heap.objs.size≠I:=zAl (zAu (by rw [zAF];exact zBr _) le);have haI:a≠I:=zAl (zAu lt (zAB (by rw [zAF];exact zAZ _) le));have hca:s.heap.objs.size≠a:=zBu lt;obtain ⟨_,f,hI,F⟩:=id st;have hpv:=v8 F;have hv:vs.length=es.size:=by rw [hpv.length_eq,zAn,zAH]
 have st2:Xo w ((h1.update s.heap.objs.size (Obj.mapSeq (·.push .none))).update s.heap.objs.size (Obj.mapSeq (·.pop))) es ep t a I vs 0:=by
  refine ⟨oth _ _ (Ne.symm hca) oa,f,oth _ _ (Ne.symm hcI) hI,?_⟩;rcases F with q | ⟨bt,tp,ps,e,htp,r⟩ | q
  ·exact .inl q
  ·refine .inr (.inl ⟨bt,tp,ps,e,oth tp _ (λzz=>?_) htp,r⟩);subst zz;rw [oc] at htp;have q:=congrArg Obj.cls (Option.some.inj htp);simp at q
  ·exact .inr (.inr q)
 refine zAd ⟨plainId_quiet PySem.F.plain_extend_loop _,aaw hh T s.heap.objs.size hcI hca haI _ hv es.size 0 { s with heap:=(h1.update s.heap.objs.size (Obj.mapSeq (·.push .none))).update s.heap.objs.size (Obj.mapSeq (·.pop)),drawn:=d1 } _ (by omega) (zBf _) st2 (by simpa using oc3) λh2 n2 k2 r2=>?_⟩;show wpAny _ _ (load s.heap.objs.size >>= λ_=>_) _ _ _;refine zAa <| wpAny_load (s:={ s with heap:=h2,drawn:=d1 }) r2 ?_;have sv:∀v∈vs,∃x tk,v=.str x tk:=λv hvm=>by
  obtain ⟨e,he,rfl⟩:=List.mem_map.mp (hpv.mem_iff.mp hvm);obtain ⟨x,tk,rfl⟩:=hen e he;exact ⟨x,tk,rfl⟩
 refine zAd (h vs h2 d1 (strsAre_map vs sv) ?_ λb o q=>?_)
 ·refine (hpv.map strOf).trans ?_;rw [zAx];exact hpm
 ·have ltb:=zAe q;refine k2 b o (zAl ltb) (zAl (zAu ltb (zAB (by rw [zAF];exact zAZ _) le))) (oth b o (zAl ltb) (kk b o (zAb _ q)))
end
section
variable {A:Around}
theorem QF {Q:zV}(hh:A.handled=none) (S:SSet w s.heap a ss) (h64:ss.length < 64)
  (h:∀l out h' d' e,s.heap.get? l=none->StrsAre out (Z.jE ss)->(∀b o,s.heap.get? b=some o->h'.get? b=some o)->h'.get? l=some { cls:=.type "list", data:=.seq out.toArray e }->Q (.ref l) { s with heap:=h',drawn:=d' }) :
  wpAny (model prog w) A (call (.builtin "sorted") [.ref a]) Q E s:=by
 refine Calls.call_function_entry kind_sorted plain_sorted entry_sorted (args_sorted1 _) ?_;unfold Builtin.«sorted»;refine zAa (m:=checkCount "sorted" 1 1 _) (zAd ?_);refine zAa (Je (by simpa using hh) S λvs h1 d1 sv pm kk=>?_);have hlen:vs.length < 64:=by
  have:=pm.length_eq;rw [zAn] at this;omega
 refine zAa (wpAny_newList ?_ (by rw [sizeLine_eq];omega));have hoL:(h1.push (seqObj "list" vs.toArray 0)).get? h1.objs.size=some (seqObj "list" vs.toArray 0):=zAp _ rfl;show wpAny _ _ _ _ _ { s with heap:=h1.push (seqObj "list" vs.toArray 0),drawn:=d1 };refine zAa (zAN (zAV slot_list_sort ⟨_,hoL,rfl⟩ entry_list_sort (list_sort_treeK strKind_oneLt (s:={ s with heap:=h1.push (seqObj "list" vs.toArray 0),drawn:=d1 }) hoL sv.keysOf (λv₁ v₂ rest e=>keyKind_strs (by rw [<-e];exact sv)) hlen λst' hp hs=>⟨_,rfl,?_⟩) (args_list_sort _)));obtain ⟨ss',a1,a2,a3⟩:=sorted_out_str sv hp hs;obtain ⟨e,he⟩:=sortedHeap_at (out:=(arrOf st').map (·.2)) hoL;have ej:=Z.GR (a2.trans pm) a3;subst ej;refine zAd ⟨_,rfl,h h1.objs.size ((arrOf st').map (·.2)).toList _ d1 e ?_ a1 (λb o q=>?_) (by rw [Array.toArray_toList];exact he)⟩
 ·cases q:s.heap.get? h1.objs.size with
  |none=>rfl
  |some o=>exact absurd (zAe (kk _ _ q)) (zAJ _)
 ·have q1:=kk _ _ q;have lt:=zAe q1;rw [sortedHeap_old (zAl lt) (by rw [size_push'];exact zAX lt)];exact zAb _ q1
end
def SO (w:World) (a:Addr) (ss:List Str):HO:=.ext λh=>SSet w h a ss
section
variable {X:Cx}{pins:List (Addr×Obj)}{σ:List (Option V)}{H':Hp}
theorem Jc {P:Program}{h:Heap}:bw P w H h a (SO w a ss)↔SSet w h a ss:=by
 refine ⟨λx=>x.1,λx=>⟨x,?_,λh1 h2 p k=>p.at k⟩⟩;obtain ⟨es,ep,t,ho,_⟩:=id x;exact ⟨_,ho⟩
theorem drw (I:Inv X pins σ H s) (d:Drawn):Inv X pins σ H { s with drawn:=d }:=⟨I.ok,I.os,I.bare,I.base,I.loc,I.cell,I.free,I.freeC,I.pin,I.hok,I.len⟩
def abt (X:Cx):List V->Hp->VK->Prop:=λxs H Q=>∃a ss,xs=[.ref a]/\cB X.K H a (ss.map V.str)/\ss.length < 4000/\∀l,H l=none->Q (.ref l) (upd H l (SO X.w l (adds [] ss)))
theorem zP (hc:X.calm=true):g8 X (.type "set") (abt X):=by
 intro pins s σ H xs us Q I r h;obtain ⟨a,ss,rfl,hq,hz,q⟩:=h;obtain ⟨u,rfl,ru⟩:=vals1 r;cases ru
 obtain ⟨its,rv,p,_⟩:=I.list hq;refine Zg (I.Dz hc) p.isList (by simpa using Z.pF rv) (by show ss.length+1 < 4096;omega) λh' tk S kk=>?_;have I2:=I.laid (t':=tk) (h':=h') (λb o q=>kk b o (zAe q) q) (zAq _) (Jc.mpr S);exact ⟨.ref s.heap.objs.size,_,I2,rfl,q _ (I.hok.fresh (zAq _))⟩
def abf (X:Cx):List V->Hp->VK->Prop:=λxs H Q=>∃a ss,xs=[.ref a]/\H a=some (SO X.w a ss)/\ss.length < 64/\∀l,H l=none->Q (.ref l) (upd H l (.lst ((Z.jE ss).map V.str)))
theorem A_ (hc:X.cool=true):g8 X (.builtin "sorted") (abf X):=by
 intro pins s σ H xs us Q I r h;obtain ⟨a,ss,rfl,ha,hz,q⟩:=h;obtain ⟨u,rfl,ru⟩:=vals1 r;cases ru
 have S:=Jc.mp (I.hok _ _ ha);refine QF (I.ok.hc hc) S hz λl out h' d' e hl so kk he=>?_;have ll:=(Z.ni ss).length_eq;obtain ⟨I2,hn⟩:=I.lay (D:=l) (ys:=(Z.jE ss).map V.str) (its:=out) (h':=h') (n:=e) hl (λb o _ q=>kk b o q) (λm hm=>let ⟨o,es,ep,q,r⟩:=hm;⟨o,es,ep,kk _ _ q,r⟩) he (Z.Ek so) (by rw [zAn,sizeLine_eq];omega);exact ⟨.ref l,_,drw I2 d',rfl,q l hn⟩
end
end YS
namespace Y
open PySem L2 YS
open Z (fG dI aZ dM bJ eZ cV bG lim cM bM jE iI mY nJ j_)
variable {X:Cx}{f:FE}
section
variable {e:Expr}{pos p p1 pos1:Pos}
def strsOf (x:A) (S:aM):Option (List Str):=match x.sh S with
 |some (.lst ds)=>iI ds
 |_=>none
theorem vP {K:zF}{m:List Addr}{S:aM}{H:Hp}{x:A}{v:V}{ss:List Str}(w:Wd K m S H) (r:RA K m H x v) (h:strsOf x S=some ss):∃a,v=.ref a/\cB K H a (ss.map V.str):=by
 unfold strsOf at h;split at h
 ·rename_i ds hd;cases mY h
  obtain ⟨a,us,rfl,h1,h2⟩:=jO w r hd;cases nJ h2
  exact ⟨a,rfl,h1⟩
 ·cases h
def mU (f:FE):FL:=λρ S=>(f ρ S).bind λx S=>opt (match strsOf x S with
 |some ss=>if ss.length < 64 then some ((jE (adds [] ss)).map .str) else none
 |none=>none) S
theorem Qg (hcl:X.cool=true) (hc:X.calm=true) (hg:Gl X "sorted") (hm:X.mg "sorted" = none) (hg2:Gl X "set") (hm2:X.mg "set" = none) (he:QE X e f)
  (hs:noStar e=true:=by rfl) (hb:(backTo pos1 (starEach [] X.env)).any (·.1)=false:=by rfl) (hst:starEach [e] X.env=(false,eval e X.env)::starEach [] X.env:=by rfl) :
  QL X (.Call (.Name "sorted" p) [.Call (.Name "set" p1) [e] [] pos1] [] pos) (mU f):=
 lM (iT (A_ hcl) hg hm Gu (m_ (j7 (zP hc) hg2 hm2 JL (m_ he fC hst) (by decide) (by decide) hst hb) fC)) λσ H Q q=>by
  obtain ⟨ρ,S,m,Rr,W,q⟩:=q;refine ⟨ρ,S,m,Rr,W,q.bind.imp λx S1 q v H1 m1 x1 w1 r1=>?_⟩;obtain ⟨ds,hd,q⟩:=q.opt;split at hd
  ·rename_i ss hss;split at hd
   ·rename_i h64;cases hd
    obtain ⟨a,rfl,h1⟩:=vP w1 r1 hss;refine ⟨a,ss,rfl,h1,by omega,λl hl=>⟨l,_,rfl,aJ,?_,λl2 hl2=>?_⟩⟩
    ·have:=fB ss [];simp at this;omega
    ·have x2:Xt m1 H1 m1 (upd H1 l (SO X.w l (adds [] ss))):=Xt.new hl;exact q l2 _ _ m1 (x1.trans x2) (w1.new hl) hl2 (j_ _)
   ·cases hd
  ·cases hd
end
section
open Classical in
variable {elt tg iter:Expr}{ifs:List Expr}{scope:Scope}{pos p pos1:Pos}{fi:FI}{g:FG}{t:FT}{N:List Str}{n:Nat}{js:List Nat}
end
end Y
namespace Y
open PySem L2
open Z (fG dI aZ dM bJ eZ cV bG lim cM bM)
section
variable {X:Cx}{e o:Expr}{es:List Expr}{f:FE}{fa:FA}{pos p:Pos}
theorem V7 {apos cpos:Pos}(ho:QE X o f) (ha:QA X (e::es) fa)
  (hbase:attributeBase o "update" X.env (eval o X.env)=eval o X.env:=by rfl)
  (hfew:((backTo cpos (starEach (e::es) X.env)).all (λx=>!x.1)&&(backToKw cpos (keywordEach [] X.env)).all (λx=>x.1.isSome)
   && decide ((e::es).length+([]:List Keyword).length+(if ([]:List Keyword).isEmpty then 0 else 1) < 30))=true:=by rfl)
  (hline:(apos.endLine==cpos.line)=true:=by rfl) (hs:starEach (e::es) X.env=(false,eval e X.env)::starEach es X.env:=by rfl) (hplain:(backTo cpos (starEach es X.env)).any (·.1)=false:=by rfl) :
  QE X (.Call (.Attribute o "update" apos) (e::es) [] cpos) (lR "dict" Ad f fa):=Ep PySem.F.plainAttrs_dict PySem.F.slot_dict_update PySem.F.type_dict_update Hl Pz ho ha hbase hfew hline hs hplain
theorem Qf {K:zF}{m:List Addr}{H:Hp}{a:Addr}{ss:List Str}(h:iG K (fG m H) a (ss.map V.str)):RA K m H (.d (.tup (ss.map .str))) (.ref a):=by
 rw [RA.cI];unfold Rep;exact ⟨a,_,rfl,h,Z.j_ ss⟩
end
end Y
namespace L2
open PySem PySem.Spec PyProof.Rows
variable {h':Heap}{C:Addr}
section
variable {X:Cx}
theorem Di {h:Heap}{a:Addr}{m:Str->Option Value}(hn:h.Ns C m) (hs:Heap.SameBut a h h') (ne:C≠a):h'.Ns C m:=by
 obtain ⟨o,es,ep,e,r⟩:=hn;exact ⟨o,es,ep,(hs.2 C ne).trans e,r⟩
theorem Inv.chg {pins:List (Addr×Obj)}{σ:St}{H:Hp}{s:Shared}(I:Inv X pins σ H s) (hC:H C=none) (h0:X.s₀.heap.objs.size<=C) (hL:C≠X.env.locals) (hc:∀x c,X.env.cells.lookup x=some c->c≠C) (hp:∀p∈X.pn++pins,p.1≠C)
  (hs:Heap.SameBut C s.heap h'):Inv X pins σ H { s with heap:=h' }:=by
 refine I.step (g':=s.gens) (d':=s.drawn) (t':=s.toks) (ch:=[C]) (λb hb=>?_) (λb o hb _ hc e _=>(hs.2 b (by simpa using hc)).trans e) (λb o hb _ hc e _=>⟨o.slots,(hs.2 b (by simpa using hc)).trans e⟩) (λb o _ e n=>n) (λb o hb e=>⟨o,(hs.2 b (by simpa using hb)).trans e⟩) (λb xs e=>e) (λb o u e=>e) (λb ps e=>⟨#[],by rw [e];simp⟩) (λm hm=>Di hm hs (Ne.symm hL)) (λb u e=>?_) I.bare
 ·rw [List.mem_singleton.mp hb];exact ⟨.inr h0,hL,hc,hp⟩
 ·refine (I.hok b u e).stay (λc v hc' q=>(hs.2 c ?_).trans q) (λ_ q=>q) λ_ _ q=>q;rintro rfl;rcases hc' with z | z
  ·rw [<-z,hC] at e;cases e
  ·rw [hC] at z;cases z
theorem Ba {e:Expr}{elt tg iter:Expr}{ifs:List Expr}{rest:List Comprehension}{scope:Scope}{pos pos' pos0:Pos}{wi:TI}{g:TG}{tt:TT}{tb:Addr->TS}{bd:Addr->Env->Sem Unit}{N:List Str}{n:Nat}{js:List Nat}{i:Nat}{x:Str}
  (he:e=.ListComp elt (⟨tg,iter,ifs,0⟩::rest) scope pos) (hc:X.calm=true) (hi:PI X tg iter wi) (B:jH X scope N n js)
  (hturn:∀it acc env,compTurn e 0 (.ref it) (.ref acc) env=turnOf e 0 (.ref it) (.ref acc) env tg iter ifs (bd acc env))
  (hg:∀s H fp,PG (aV X scope N s H fp) tg g) (ht:∀s H fp,H9 (aV X scope N s H fp) ifs tt) (hb:∀s H fp acc,PB (aV X scope N s H fp) (bd acc (aV X scope N s H fp).env) (tb acc))
  (hs:∀x,foldedSetIterable iter X.env x=pure x) (hN:X.N.Nodup) (hix:X.N[i]?=some x) (hx:Loc X.env.scope x) (hf:X.fn x=true∨X.env.scope.names.lookup x=some .local)
  (hsw:swapsWith e (some (.Name x pos')) pos0.line X.env=pure true) :
  PS X (.Assign [.Name x pos'] e pos0) (Oq (λσ H Q=>wi σ H λJ H1=>∀acc,H1 acc=none->nY J g (lF tt (tb acc)) { nx:=λ_ H'=>Q (.ref acc) H',rt:=λ_ _=>False } (pO σ n js) (upd H1 acc (.lst []))) (EY i)):=by
 intro pins s σ H D I h;rw [exec_Assign_Name_used x pos' e pos0 hsw];subst he;refine zAa (zBB (zAa ?_));rw [arm_evalThenUse_ListComp];refine zAa ?_;refine wpAny_comprehension_free (use:=some (assign (.Name x pos') X.env)) rfl hs (oA (B.frees I.ok)) B.kind B.hnames ?_;refine cR (hi pins s σ H _ I h) λv s1 h1=>cR h1 λitv s2 h2=>?_;obtain ⟨it,fp,tn,J,H2,e2,I2,T,st2,f2,w⟩:=h2;subst e2;refine zBl (gR ?_);have I3:Inv X pins σ (upd H2 s2.heap.objs.size (.lst [])) { s2 with heap:=s2.heap.push { cls:=.type "list", data:=.seq ([]:List Value).toArray } }:=I2.Vu (t':=s2.toks) .nil (zBf _);have lt2:∀b∈fp,b < s2.heap.objs.size:=λb hb=>let ⟨_,e,_⟩:=T.obj _ _ st2 b hb;zAe e
 have f3:∀b∈fp,lu X pins (upd H2 s2.heap.objs.size (.lst [])) b:=λb hb=>⟨by rw [aA (zAl (lt2 b hb))];exact (f2 b hb).1,(f2 b hb).2⟩;have lt3:∀b∈fp,b < (s2.heap.push { cls:=.type "list", data:=.seq ([]:List Value).toArray }).objs.size:=λb hb=>by rw [zAF];exact zAX (lt2 b hb)
 have J4:=Inv.block B I3 f3 lt3;have st4:tn 0 (pushCells ((s2.heap.push { cls:=.type "list", data:=.seq ([]:List Value).toArray }).push { cls:=.type "dict", data:=.dict #[] }) scope.names):=T.keep _ _ _ st2 λb hb o e=>pushCells_keeps _ _ _ _ (zAb _ (zAb _ e));have f4:∀b∈fp,lu (aV X scope N { s2 with heap:=s2.heap.push { cls:=.type "list", data:=.seq ([]:List Value).toArray } } (upd H2 s2.heap.objs.size (.lst [])) fp) [] (upd H2 s2.heap.objs.size (.lst [])) b:=λb hb=>
  ⟨(f3 b hb).1,zAl (lt3 b hb),J4.ok.exfs b hb,.inl hb,(J4.ok.exf b hb).2,λp hp=>absurd hp (by simp [aV])⟩
 have go:=w s2.heap.objs.size I2.fresh;refine codeAny_mono (kZ (X:=aV X scope N { s2 with heap:=s2.heap.push { cls:=.type "list", data:=.seq ([]:List Value).toArray } } (upd H2 s2.heap.objs.size (.lst [])) fp) (e:=.ListComp elt (⟨tg,iter,ifs,0⟩::rest) scope pos) (d:=0) (acc:=.ref s2.heap.objs.size) (it:=it) (iter:=iter) (by rfl) (by rfl) (by rfl) (by rfl) T st4
  (nO (X:=aV X scope N { s2 with heap:=s2.heap.push { cls:=.type "list", data:=.seq ([]:List Value).toArray } } (upd H2 s2.heap.objs.size (.lst [])) fp) (hturn it _ _) (by rfl) (by rfl) (by rfl) rfl hc T (hg _ _ _) (ht _ _ _) (hb _ _ _ _) J4 st4 f4 go)) λr s' hr=>?_
 cases r with
 |error x=>exact False.elim hr
 |ok f=>
  obtain ⟨σ',H',J',q⟩:=hr;obtain ⟨m,hn,_⟩:=id J'.loc;have I5:Inv X pins σ H' s':=I3.unblock (h':=s'.heap) f3 J' ⟨rfl,λ_ _=>rfl⟩;have lt0:s2.heap.objs.size < (s2.heap.push { cls:=.type "list", data:=.seq ([]:List Value).toArray }).objs.size:=by rw [zAF];exact zBr _
  have hC:H' (s2.heap.push { cls:=.type "list", data:=.seq ([]:List Value).toArray }).objs.size=none:=J'.free;have cl:∀y c,X.env.cells.lookup y=some c->c≠(s2.heap.push { cls:=.type "list", data:=.seq ([]:List Value).toArray }).objs.size:=λy c e=>by
   obtain ⟨v,o,ho,_⟩:=I3.cell y c e;exact zAl (zAe ho)
  have hL:(s2.heap.push { cls:=.type "list", data:=.seq ([]:List Value).toArray }).objs.size≠X.env.locals:=zBu I3.lt;show wpAny _ _ (assign (.Name x pos') X.env (.ref s2.heap.objs.size)) _ _ _;refine wpAny_assign_Name (uZ I5 hN hix hx (v:=.ref s2.heap.objs.size) rfl (λs6 I6 ⟨a,sb,ha⟩=>⟨m,Di hn sb ?_,λh' hs'=>?_⟩) hf)
  ·rcases ha with rfl | ha
   ·exact hL
   ·exact Ne.symm (cl _ _ ha)
  ·refine zAd (zAd ⟨_,H',I6.chg hC I3.sz hL cl (λp hp=>?_) hs',q⟩);exact zAl (zAe (I3.pin p hp).1)
end
end L2
namespace Y
open PySem L2
open Z (fG dI aZ dM bJ eZ cV bG lim cM bM)
variable {f:FE}
section
variable {X:Cx}{elt tg iter:Expr}{ifs:List Expr}{scope:Scope}{pos pos' pos0:Pos}{fi:FI}{g:FG}{t:FT}{N:List Str}{n:Nat}{js:List Nat}{i:Nat}{x:Str}
theorem BX {st:Stmt}{T:TE}(h:PS X st (Oq T (EY i))) (him:∀σ H Q,tF X f σ H Q->T σ H λv=>Cp X (Q v)):QS X st (aP i f):=CJ (DY h) λD σ H q=>by
 obtain ⟨ρ,S,m,Rr,W,q⟩:=q;exact him σ H (λv H1=>D.nx (σ.set i (some v)) H1) ⟨ρ,S,m,Rr,W,q.bind.imp λy S1 q v H' m' x' w r=>q _ H' m' x' ((Rr.ext x').set r) w⟩
theorem qJ (hN:X.N.Nodup) (hix:X.N[i]?=some x) (hx:Loc X.env.scope x) (hc:X.calm=true) (B:jH X scope N n js) (hi:QI X tg iter fi) (hg:∀s H fp,QG (aV X scope N s H fp) tg g) (ht:∀s H fp,Ng (aV X scope N s H fp) ifs t) (he:∀s H fp,QE (aV X scope N s H fp) elt f)
  (hs:∀x,foldedSetIterable iter X.env x=pure x:=by intro _;rfl) (hf:X.fn x=true∨X.env.scope.names.lookup x=some .local:=by first | exact .inl rfl | exact .inr rfl) (hsw:swapsWith (.ListComp elt [⟨tg,iter,ifs,0⟩] scope pos) (some (.Name x pos')) pos0.line X.env=pure true:=by rfl) :
  QS X (.Assign [.Name x pos'] (.ListComp elt [⟨tg,iter,ifs,0⟩] scope pos) pos0) (aP i (gY fi g t f n js)):=
 BX (Ba (bd:=λacc env=>do let _ <-call (.builtin "list.append") [.ref acc,<-eval elt env]) rfl hc hi B (λ_ _ _=>by rfl) hg (λs H fp=>(ht s H fp).n) (λs H fp acc=>sy (he s H fp).n) hs hN hix hx hf hsw) Ez
theorem VP (hN:X.N.Nodup) (hix:X.N[i]?=some x) (hx:Loc X.env.scope x) (hc:X.calm=true) (B:jH X scope N n js) (hi:QI X tg iter fi) (hg:∀s H fp,QG (aV X scope N s H fp) tg g) (ht:∀s H fp,Ng (aV X scope N s H fp) ifs t) (he:∀s H fp,QE (aV X scope N s H fp) elt f)
  (hs:∀x,foldedSetIterable iter X.env x=pure x:=by intro _;rfl) (hf:X.fn x=true∨X.env.scope.names.lookup x=some .local:=by first | exact .inl rfl | exact .inr rfl) (hsw:swapsWith (.ListComp elt [⟨tg,iter,ifs,0⟩] scope pos) (some (.Name x pos')) pos0.line X.env=pure true:=by rfl) :
  QS X (.Assign [.Name x pos'] (.ListComp elt [⟨tg,iter,ifs,0⟩] scope pos) pos0) (aP i (Xh fi g t f n js)):=
 BX (Ba (bd:=λacc env=>do let _ <-call (.builtin "list.append") [.ref acc,<-eval elt env]) rfl hc hi B (λ_ _ _=>by rfl) hg (λs H fp=>(ht s H fp).n) (λs H fp acc=>sy (he s H fp).n) hs hN hix hx hf hsw) Qm
theorem Ov {tg2 iter2:Expr}{ifs2:List Expr}{fi2:FI}{g2:FG}{t2:FT}(hN:X.N.Nodup) (hix:X.N[i]?=some x) (hx:Loc X.env.scope x) (hc:X.calm=true) (B:jH X scope N n js) (hi:QI X tg iter fi) (hg:∀s H fp,QG (aV X scope N s H fp) tg g) (ht:∀s H fp,Ng (aV X scope N s H fp) ifs t)
  (hi2:∀s H fp,QI (aV X scope N s H fp) tg2 iter2 fi2) (hg2:∀s H fp,QG (aV X scope N s H fp) tg2 g2) (ht2:∀s H fp,Ng (aV X scope N s H fp) ifs2 t2) (he:∀s H fp,QE (aV X scope N s H fp) elt f)
  (hs:∀x,foldedSetIterable iter X.env x=pure x:=by intro _;rfl) (hs2:∀s H fp x,foldedSetIterable iter2 (aV X scope N s H fp).env x=pure x:=by intro _ _ _ _;rfl) (hA2:X.A.mark none=X.A:=by rfl)
  (hf:X.fn x=true∨X.env.scope.names.lookup x=some .local:=by first | exact .inl rfl | exact .inr rfl) (hsw:swapsWith (.ListComp elt [⟨tg,iter,ifs,0⟩,⟨tg2,iter2,ifs2,0⟩] scope pos) (some (.Name x pos')) pos0.line X.env=pure true:=by rfl) :
  QS X (.Assign [.Name x pos'] (.ListComp elt [⟨tg,iter,ifs,0⟩,⟨tg2,iter2,ifs2,0⟩] scope pos) pos0) (aP i (HW fi g t fi2 g2 t2 f n js)):=
 BX (Ba (bd:=λacc env=>tX (.ListComp elt [⟨tg,iter,ifs,0⟩,⟨tg2,iter2,ifs2,0⟩] scope pos) 1 acc env iter2) rfl hc hi B (λ_ _ _=>Yz) hg (λs H fp=>(ht s H fp).n)
  (λs H fp acc=>OD (bd:=do let _ <-call (.builtin "list.append") [.ref acc,<-eval elt (aV X scope N s H fp).env]) (λ_=>by rfl) (λ_=>by rfl) (λ_=>by rfl) (λ_=>by rfl) (λ_=>by rfl) (λ_=>by rfl) (λ_=>by rfl) rfl hc (hi2 s H fp).n (hg2 s H fp) (ht2 s H fp).n (sy (he s H fp).n) (hs2 s H fp) hA2) hs hN hix hx hf hsw) IW
end
end Y
namespace Wb
open PySem L2 Y
open Y (bin)
def jl:FS:=(aG (je (lD (fP (un (yx "str") (var 0)))) (cj (cst (.bl false))) bU) (aG (je (yN (bZ (bin (oI Z.Nf) (cal cH (aj (var 0) au)) (cst (.int 1)))) (yN (bZ (bin (oI Z.Zd) (cal cH (aj (var 0) au)) (cst (.int 8)))) (bZ (bin (eE false) (var 0) (cst (.tup ((["any", "none", "blank", "new", "on"]:List Str).map .str))))))) (cj (cst (.bl false))) bU) (cj (cal (nR true) (aj (gY (cC (var 0)) (gN 0) iy (bin (eE false) (var 0) (cst (.str "abcdefghijklmnopqrstuvwxyz"))) 1 []) au)))))
def jm:FF:=g_ lO 1 1 (jl)
def qR:FS:=(cj (bin fK (dL (Aa wN (tU (var 0) (iB (var 1)) (iB (bin dh (var 1) (cst (.int 1))))) (dL (fV (aj (cst (.int 0)) au))))) (cst (.int 0))))
def cU:FF:=g_ lO 2 2 (qR)
def qX:FS:=(aG (aP 1 (cst (.str "abcdefghijklmnopqrstuvwxyz"))) (aG (aP 2 (bin (oI Z.dz) (var 0) (cst (.int 8)))) (aG (aP 3 (cst (.str ""))) (aG (jf (Pa (bin dh (cst (.int 1)) (bin (oI Z.bH) (var 0) (cst (.int 8))))) (gN 4) (aG (aP 3 (bin dh (var 3) (bin fK (var 1) (bin (oI Z.bH) (var 2) (cst (.int 26)))))) (aP 2 (bin (oI Z.dz) (var 2) (cst (.int 26)))))) (aG (je (bZ (bin (eE false) (var 3) (dL (fV (aj (cst (.str "any")) (aj (cst (.str "none")) (aj (cst (.str "blank")) (aj (cst (.str "new")) (aj (cst (.str "on")) au))))))))) (cj (bin dh (var 3) (cst (.str "s")))) bU) (cj (var 3)))))))
def bQ:FF:=g_ lO 1 5 (qX)
def pP:FS:=(aG (aP 3 (cL (fV au))) (aG (jf (Pa (var 2)) (gN 4) (aG (je (bZ (bin (oEq false) (bin (oI Z.bH) (var 1) (cst (.int 4))) (cst (.int 1)))) (bW (lR "list" (mR nP) (var 3) (aj (bin fK (var 0) (var 4)) au))) bU) (aG (je (bZ (bin (oEq false) (bin (oI Z.bH) (var 1) (cst (.int 4))) (cst (.int 2)))) (bW (lR "list" (mR lJ) (var 3) (aj (cst (.int 0)) (aj (bin fK (var 0) (var 4)) au)))) bU) (aP 1 (bin (oI Z.dz) (var 1) (cst (.int 4))))))) (aG (je (Bd (bZ (bin (oEq false) (bin (oI Z.bH) (var 1) (cst (.int 4))) (cst (.int 1)))) (bZ (bin (oEq true) (var 3) (dL (fV au))))) (bW (lR "list" (mR nP) (var 3) (aj (bin fK (var 3) (bin (oI Z.bH) (bin (oI Z.dz) (var 1) (cst (.int 4))) (cal cH (aj (var 3) au)))) au))) bU) (cj (var 3)))))
def iw:FF:=g_ lO 3 5 (pP)
def nU:FS:=(aG (je (Bd (bZ (bin (oEq false) (bin (oI Z.bH) (aW cU (aj (var 0) (aj (cst (.int 0)) au))) (cst (.int 2))) (cst (.int 0)))) (bZ (bin (oI Z.gGe) (cal Lr (aj (aW cU (aj (var 0) (aj (bin dh (cst (.int 1)) (var 1)) au))) au)) (bin (oI Z.Qw) (cst (.int 10)) (cst (.int 9)))))) (cj (aW cU (aj (var 0) (aj (bin dh (cst (.int 1)) (var 1)) au)))) bU) (aG (aP 2 (bin (oI Z.bH) (bin dh (bin dh (aW cU (aj (var 0) (aj (bin dh (cst (.int 1)) (bin (oI Z.bH) (var 1) (cst (.int 6)))) au))) (bin (oI Z.BJ) (cst (.int 7919)) (var 1))) (cst (.int 31))) (cst (.int 2147483629)))) (aG (aP 2 (bin (oI Z.bH) (bin dh (bin (oI Z.BJ) (var 2) (var 2)) (bin (oI Z.BJ) (cst (.int 48271)) (var 1))) (cst (.int 2147483629)))) (cj (bin (oI Z.bH) (bin dh (bin (oI Z.BJ) (bin (oI Z.BJ) (var 2) (var 2)) (bin dh (var 2) (cst (.int 40013)))) (var 1)) (bin (oI Z.Qw) (cst (.int 10)) (cst (.int 18))))))))
def cu:FF:=g_ lO 2 3 (nU)
def pG:FS:=(aG (aP 2 (cL (fV au))) (aG (jf (Pa (var 1)) (gN 3) (aG (aP 4 (aW cu (aj (var 0) (aj (var 3) au)))) (aG (rQ (bZ (bin (eE false) (aW bQ (aj (var 4) au)) (var 2))) (aP 4 (bin dh (var 4) (cst (.int 1)))) 300) (bW (lR "list" (mR nP) (var 2) (aj (aW bQ (aj (var 4) au)) au)))))) (cj (var 2))))
def kO:FF:=g_ lO 2 5 (pG)
def nW:FS:=(aG (aP 1 (bin (oI Z.bH) (bin (oI Z.dz) (aW cU (aj (var 0) (aj (cst (.int 0)) au))) (cst (.int 2))) (cst (.int 25)))) (aG (aP 2 (aW kO (aj (var 0) (aj (var 1) au)))) (aG (aP 3 (cL (fV au))) (aG (jf (Pa (var 1)) (gN 4) (aG (aP 5 (aW cu (aj (var 0) (aj (bin dh (cst (.int 24)) (var 4)) au)))) (aG (aP 6 (bin (oI Z.bH) (var 5) (bin dh (var 4) (cst (.int 1))))) (bW (lR "list" (mR lJ) (var 3) (aj (var 6) (aj (iU (aj (bin fK (var 2) (var 4)) (aj (aW iw (aj (var 2) (aj (bin (oI Z.dz) (var 5) (bin dh (var 4) (cst (.int 1)))) (aj (var 4) au)))) au))) au))))))) (cj (var 3))))))
def iQ:FF:=g_ lO 1 7 (nW)
end Wb
namespace Y
open PySem L2
open Z (fG dI aZ dM bJ eZ cV bG lim cM bM)
variable {F:FF}
def ExA (K:zF) (m:List Addr) (H:Hp) (E:XK) (e:Exc) (S:aM):Prop:=∀C dd H' m',Xt m H m' H'->Wd K m' S H'->RD K m' H' e C dd->E C dd H'
def Ia (K:zF) (F:FF):Sp:=λvs H Q E=>∃as S m,bf K m H as vs/\Wd K m S H/\match F as S with
 |.ok x S'=>xP K m H Q x S'
 |.ex e S'=>ExA K m H E e S'
 |.no=>False
def nT (en:En) (np nl:Nat) (b:FS):FF:=λas S=>if as.length=np then (b (as.map some++List.replicate (nl-np) none) S).bind λc S'=>match c with
 |.rt x=>en S x S'
 |.nx _=>en S (.d .non) S'
 |_=>.no
 else .no
structure WX (en:En):Prop where
 nx:∀S x S' e S2,en S x S'≠.ex e S2
theorem Kd:WX Nh:=⟨λ_ _ _ _ _ h=>by cases h⟩
theorem Cd:WX lO:=⟨λS x S' e S2 h=>by
 unfold lO at h;split at h
 ·cases hf:fin S.length S' x with
  |none=>rw [hf] at h;cases h
  |some y=>rw [hf] at h;cases h
 ·cases h⟩
section
variable {K:zF}{P:Program}{w:World}{mg:Str->Option Value}{base:Heap}
theorem uH {en:En}(eo:Iu en) (nx:WX en) {x qual:Str}{st:Stmt}{f:Addr}{fd:FuncData}{N ps:List Str}{k:Nat}{b:FS}(F:lV K x qual st f fd) (Sc:aU N ps (aK st))
  (hb:∀(cdv:Value) (A:Around) (outer:List Env) (s:Shared) (H:Hp) (E:XK),dj k (A.deeper (PyProof.Rows.envOfC qual (aK st) s.heap.objs.size f cdv))->Ig (oM (Ar P w) P w K mg base N qual (aK st) f cdv A outer s H E) (iK st) b) :
  cZ P w K mg base (Ar P w) (k+1) f fd ps (Ia K (nT en ps.length N.length b)):=by
 obtain ⟨oc,od,kV,doc,pm,an,cdv,ct,osl,rfl,lk,hcd⟩:=F.ex;refine RB lk hcd Sc (λvs H Q E h=>?_) λA outer s H vs Q E hr h=>?_
 ·obtain ⟨as,S,m,r,W,q⟩:=h;unfold nT at q;split at q
  ·rename_i hl;by_cases z:as.length=ps.length
   ·rw [r.length];exact z
   ·rw [if_neg z] at hl;cases hl
  ·rename_i hl;by_cases z:as.length=ps.length
   ·rw [r.length];exact z
   ·rw [if_neg z] at hl;cases hl
  ·exact q.elim
 ·obtain ⟨as,S,m,r,W,q⟩:=h;refine ⟨_,hb cdv A outer s H E hr,?_⟩;by_cases hl:as.length=ps.length
  ·refine ⟨_,S,m,RS.begin r N _ hl,W,?_⟩;unfold nT at q;rw [if_pos hl] at q;cases hr:b (as.map some++List.replicate (N.length-ps.length) none) S with
   |no=>rw [hr] at q;exact q.elim
   |ex e S1=>
    rw [hr] at q;exact λC dd H' m' x' w' ex=>aaJ (q C dd H' m' x' w' ex)
   |ok c S1=>
    rw [hr] at q;cases c with
    |rt z=>
     refine λv H' m' x' w' r'=>?_;obtain ⟨l,rfl⟩:=x'.ex;cases he:en S z S1 with
     |no=>simp only [ao,he] at q
     |ex e S2=>exact absurd he (nx.nx _ _ _ _ _)
     |ok y S2=>
      simp only [ao,he] at q;obtain ⟨m2,x2,w2,r2⟩:=eo.ok W x' w' r' he;exact q v H' m2 x2 w2 r2
    |nx ρ1=>
     refine λσ' H' m' x' R' w'=>?_;obtain ⟨l,rfl⟩:=x'.ex;cases he:en S (.d .non) S1 with
     |no=>simp only [ao,he] at q
     |ex e S2=>exact absurd he (nx.nx _ _ _ _ _)
     |ok y S2=>
      simp only [ao,he] at q;obtain ⟨m2,x2,w2,r2⟩:=eo.ok W x' w' k_ he;exact q .non H' m2 x2 w2 r2
    |bk _=>exact q.elim
    |ct _=>exact q.elim
  ·unfold nT at q;rw [if_neg hl] at q;exact q.elim
end
section
variable {X:Cx}{e o:Expr}{es:List Expr}{fa:FA}{f:FE}{pos p apos:Pos}
def jM (F:FF) (fa:FA):FE:=λρ S=>(fa ρ S).bind F
theorem Wo {as:List A}{vs:List V}{S:aM}{m m0:List Addr}{H H0:Hp}{Q:VK}(x0:Xt m0 H0 m H) (r:bf X.K m H as vs) (w:Wd X.K m S H) (q:Res X m0 H0 (F as S) (xP X.K m0 H0 Q)):Ia X.K F vs H Q (XW X):=by
 refine ⟨as,S,m,r,w,?_⟩;cases hr:F as S with
 |no=>rw [hr] at q;exact q.elim
 |ok x S'=>rw [hr] at q;exact xP.step x0 q
 |ex e S'=>rw [hr] at q;exact λC dd H' m' x' w' ex=>q C dd H' m' (x0.trans x') w' ex
theorem Js:∀σ H Q,tF X (jM F fa) σ H Q->Fo (Ia X.K F) [] (XW X) (TQ X fa) σ H Q:=by
 rintro σ H Q ⟨ρ,S,m,Rr,W,q⟩;refine ⟨ρ,S,m,Rr,W,q.bind.imp λas S1 q vs H1 m1 x1 w1 r1=>?_⟩;show Ia X.K F (vs++[]) H1 Q (XW X);rw [zAO];exact Wo x1 r1 w1 q
theorem pC {x:Str}{k:Nat}{g:Addr}{fd:FuncData}{ps:List Str}(G:cZ X.prog X.w X.K X.mg X.base (Ar X.prog X.w) k g fd ps (Ia X.K F)) (hr:dj k X.A) (hg:Gl X x) (hm:X.mg x=some (.ref g)) (hk:PySem.W.keepIn X.K (.ref g)=true) (hb:Binds X.K fd ps [])
  (ha:QA X (e::es) fa) (hdb:(x==("__debug__" : Str))=false:=by decide) (he:starEach (e::es) X.env=(false,eval e X.env)::starEach es X.env:=by rfl) (hpl:(backTo pos (starEach es X.env)).any (·.1)=false:=by rfl) :
  QE X (.Call (.Name x p) (e::es) [] pos) (jM F fa):=lM (Fw (E:=XW X) G hr hg hm hk hb .nil X5 ha hdb he hpl) Js
end
end Y
namespace XE
open PySem
variable {mN:Str->Option Value}{rest:List Value}{fI:Addr}
section
variable {prog:Program}{w:World}{A:Around}{E:zV}{h:Heap}{g:Array GenState}{d:Drawn}{t:Nat}{os:OsState}
variable {nm q:Str}{C N:Addr}{bs bm bmB:List Value}{hdct:Bool}{sn:List Str}{sub:List Value}{ab:Bool}{col:Option Bool}{dd:Option Addr}{k0 k1 k2 k3 k5:Option Value}{B Bn newId nid initId inN:String}{bmN:List Value}
theorem tK (Fn:ExcBaseFacts Bn newId inN bmN) (hBn:bmB.contains (.type Bn)=true) (F:ExcBaseFacts B nid initId bmB) (T:OwnTail h bmB bm) {oI:Obj}{Q:PySem.Fin->Shared->Prop}
  (hC:h.get? C=some (excClassObj nm q C N bs bm hdct sn sub ab col dd k0 k1 k2 k3 k5 newId)) (hn:h.Ns N mN) (hi:mN "__init__" = some (.ref fI)) (hfI:h.get? fI=some oI) (hfc:oI.cls=.type "function")
  (hq:∀h',Heap.MadeExcOf h h' (h.objs.size+1) (.ref C) rest ->
   wpAny (model prog w) A (call (.ref fI) (.ref (h.objs.size+1)::rest)) (λr s'=>r=.none/\Q (.done (.ret (.ref (h.objs.size+1)))) s') E ⟨h',g,d,t,os⟩) (hrest:rest.length<=sizeLine:=by size_fits) :
  wpAny (model prog w) A (Builtin.«type.__call__» ⟨.ref C::rest,[]⟩) Q E ⟨h,g,d,t,os⟩:=by
 repeat (first | with_reducible refine zAA hC ?_ | with_reducible refine wpAny_madeBy_exc hC ?_ | wp_step)
 refine codeAny_call_builtin_code (Code.quiet_builtin _ Fn.quiet) (wpAny_check_new_subU Fn hBn T hC ?_);refine codeAny_exc_new_subU Fn hBn F T hC ?_ hrest;show wpAny _ _ _ _ _ _;have hC₁:=zAb { cls:=.ref C,data:=.fields #[.ref h.objs.size,.none,.none,.none,.bool false,.none] }
  (zAb { cls:=.type "tuple", data:=.seq rest.toArray } hC)
 have hfI₁:=zAb { cls:=.ref C,data:=.fields #[.ref h.objs.size,.none,.none,.none,.bool false,.none] }
  (zAb { cls:=.type "tuple", data:=.seq rest.toArray } hfI)
 have hn₁:((h.push { cls:=.type "tuple", data:=.seq rest.toArray }).push { cls:=.ref C,data:=.fields #[.ref h.objs.size,.none,.none,.none,.bool false,.none] }).Ns N mN:=
  let ⟨o,es,ep,e,r⟩:=hn;⟨o,es,ep,zAb _ (zAb _ e),r⟩
 have hget:((h.push { cls:=.type "tuple", data:=.seq rest.toArray }).push
   { cls:=.ref C,data:=.fields #[.ref h.objs.size,.none,.none,.none,.bool false,.none] }).get? (h.objs.size+1)=some
   { cls:=.ref C,data:=.fields #[.ref h.objs.size,.none,.none,.none,.bool false,.none] }:=by heap_get
 have hcC:(Value.ref C::bm).contains (.ref C)=true:=by simp
 have T₁:=T.keeps (h':=(h.push { cls:=.type "tuple", data:=.seq rest.toArray }).push { cls:=.ref C,data:=.fields #[.ref h.objs.size,.none,.none,.none,.bool false,.none] })
  λb o e=>zAb _ (zAb _ e)
 unfold isInstance;repeat (first | with_reducible refine zAA hget ?_ | (with_reducible refine zBm hC₁ ?_;rw [hcC]) | wp_step)
 show wpAny _ _ (typeLookup (.ref C) _) _ _ _;refine wpAny_typeLookup_tail hC₁ hn₁ T₁ F.mroIs F.init.lookup ?_;rw [hi];refine zAN (zAa ?_);unfold bindSpecial;refine zAa (wpAny_typeOf (T := "function") ⟨_,hfI₁,hfc⟩ ?_);rw [if_pos (by decide)];refine zAd (zAa (zBK (hq _ ⟨λb o hb=>zAb _ (zAb _ hb),zBN (zAZ _),h.objs.size,hget,zBN (zAq _),?_⟩) (λr s' hr=>?_) λ_ _ x=>x))
 ·exact zAb _ (zBM rfl rfl)
 ·obtain ⟨rfl,hQ⟩:=hr;wp_walk;exact hQ
theorem Ge (Fn:ExcBaseFacts Bn newId inN bmN) (hBn:bmB.contains (.type Bn)=true) (F:ExcBaseFacts B nid initId bmB) (T:OwnTail h bmB bm) {oI:Obj}{Q:zV}
  (hC:h.get? C=some (excClassObj nm q C N bs bm hdct sn sub ab col dd k0 k1 k2 k3 k5 newId)) (hn:h.Ns N mN) (hi:mN "__init__" = some (.ref fI)) (hfI:h.get? fI=some oI) (hfc:oI.cls=.type "function")
  (hq:∀h',Heap.MadeExcOf h h' (h.objs.size+1) (.ref C) rest ->
   wpAny (model prog w) (A.under (.builtin "type.__call__" ⟨.ref C::rest,[]⟩)) (call (.ref fI) (.ref (h.objs.size+1)::rest)) (λr s'=>r=.none/\Q (.ref (h.objs.size+1)) s') E ⟨h',g,d,t,os⟩) (hrest:rest.length<=sizeLine:=by size_fits) :
  wpAny (model prog w) A (call (.ref C) rest) Q E ⟨h,g,d,t,os⟩:=by
 have f1:=tc_lookup;have f2:=tc_bind (.ref C);have hT:(⟨h,g,d,t,os⟩:Shared).TypeIs (.ref C) "type" := ⟨_,hC,rfl⟩;refine zCj (codeAny_of_tree ?_);show wpAny _ _ (callAny (.ref C) _) _ _ _;repeat (any_goals (first | assumption | with_reducible refine zAA hC ?_ | wp_step))
 refine ⟨rfl,?_⟩;refine codeAny_call_builtin_at (Code.quiet_builtin _ (by decide +kernel)) entry_typeCall (wpAny_check_type_call_sub hC (tK (hrest:=hrest) Fn hBn F T hC hn hi hfI hfc λh' hm=>?_));exact hq h' hm
theorem B_ {s:Shared}{env:Env}{x:Sem Value}{Q:Flow->Shared->Prop}(hbase:bm.contains (.type "BaseException")=true) (hh:A.handled=none)
  (h:wpAny (model prog w) A x (λv s₁=>∃e oe vs,v=.ref e/\s₁.heap.get? C=some (excClassObj nm q C N bs bm hdct sn sub ab col dd k0 k1 k2 k3 k5 newId) /\
   s₁.heap.get? e=some oe/\oe.cls=.ref C/\oe.data=.fields vs/\vs[1]?=some .none/\vs[2]?=some .none/\E (.ref e) s₁) E s) :
  wpAny (model prog w) A (raiseStmt env (some x) none) Q E s:=by
 have hcB:(Value.ref C::bm).contains (.type "BaseException")=true:=by rw [zBG,hbase,Bool.or_true]
 unfold raiseStmt;refine zAa (zBK h (λv s₁ h₁=>?_) λ_ _ x=>x);obtain ⟨e,oe,vs,rfl,hC,he,hc,hd,h1,h2,hE⟩:=h₁;obtain ⟨hp,g,d,tk,os⟩:=s₁;obtain ⟨c,dt,dat,sl⟩:=oe;cases hc
 cases hd
 repeat (first | with_reducible refine zAA he ?_ | with_reducible refine zAA hC ?_ | (with_reducible refine zBm hC ?_;rw [hcB]) | (with_reducible refine zAa (zAM he rfl h1 ?_)) | wp_step)
 exact wpAny_raiseNew_none hh hE
end
end XE
namespace XE
open PySem PySem.Builtin PySem.Builtin.ObjectAttr
variable {ns sn:List Str}{bmB tl bm:List Value}{M:Model}{E:zV}{g:Array GenState}{d:Drawn}{t:Nat}{os:OsState}{nm q name:Str}{C N:Addr}{ab:Bool}{col:Option Bool}{dd:Option Addr}{B newId:String}{y:Option Value}{mN:Str->Option Value}{prog:Program}{w:World}{v nameV:Value}{o:Obj}{tk:Tok}
inductive fD (ns:List Str) (h:Heap) (bmB:List Value):List Value->Prop
 |base:fD ns h bmB bmB
 |own {A:Addr}{c0:Value}{dd:Option Addr}{cd:ClassData}{sl:Array (Option Value)}{mA:Str->Option Value}{tl:List Value} :
   h.get? A=some { cls:=c0,dict:=dd,data:=.cls cd,slots:=sl }->h.Ns cd.ns mA->(∀n∈ns,mA n=none)->fD ns h bmB tl->fD ns h bmB (.ref A::tl)
theorem fD.tail {h:Heap}(T:fD ns h bmB tl) (hi:("__init__" : Str)∈ns):OwnTail h bmB tl:=by
 induction T with
 |base=>exact .base
 |own hA hN hq _ ih=>exact .own hA hN (hq _ hi) ih
theorem fD.hasType {h:Heap}(T:fD ns h bmB tl) {X:String}{b:Bool}(hb:bmB.contains (.type X)=b):tl.contains (.type X)=b:=by
 induction T with
 |base=>exact hb
 |own _ _ _ _ ih=>rw [zBG,ih];rfl
theorem fD.refuse {h:Heap}(T:fD ns h bmB tl) {self:Value}{what:Str}(hb:refuseLoop self what bmB=pure ()):refuseLoop self what tl=pure ():=by
 induction T with
 |base=>exact hb
 |own _ _ _ _ ih=>rw [refuseLoop_ref];exact ih
section
variable {A:Around}{h:Heap}
variable {bs:List Value}{hdct:Bool}{sub:List Value}{k0 k1 k2 k3 k5:Option Value}
theorem pA {n:Str}{Q:Option Value->Shared->Prop}(hn:n∈ns) (T:fD ns h bmB tl) (hrest:lookupAlong bmB n=pure y) (hq:Q y ⟨h,g,d,t,os⟩) :
  wpAny M A (lookupAlong tl n) Q E ⟨h,g,d,t,os⟩:=by
 induction T with
 |base=>rw [hrest];exact zAd hq
 |own hA hN hni _ ih=>
  rw [lookupAlong_cons];refine zAa (wpAny_classOwn_cls hA hN ?_);rw [hni _ hn];exact ih
theorem bD {n:Str}{Q:Option Value->Shared->Prop}(hn:n∈ns)
  (hC:h.get? C=some (excClassObj nm q C N bs bm hdct sn sub ab col dd k0 k1 k2 k3 k5 newId)) (hN:h.Ns N mN) (hmN:mN n=none) (T:fD ns h bmB bm) (hbm:mroOf (.type B)=pure bmB)
  (hB:typeLookup (.type B) n=pure y) (hq:Q y ⟨h,g,d,t,os⟩):wpAny M A (typeLookup (.ref C) n) Q E ⟨h,g,d,t,os⟩:=by
 have hrest:lookupAlong bmB n=pure y:=by rw [typeLookup_eq,hbm] at hB;exact hB
 rw [typeLookup_eq];refine zAa (wpAny_mroOf_exc hC ?_);rw [lookupAlong_cons];refine zAa (wpAny_classOwn_cls hC hN ?_);rw [hmN];exact pA hn T hrest hq
end
section
variable {A:Around}{h:Heap}
variable {x:Addr}{bs:List Value}{sub:List Value}{k0 k1 k2 k3 k5:Option Value}{sa owner:String}{mA:Str->Option Value}
theorem J6 {Q:Unit->Shared->Prop}(SF:StoreFacts B bmB sa owner) (T:fD ns h bmB bm)
  (hC:h.get? C=some (excClassObj nm q C N bs bm true sn sub ab col dd k0 k1 k2 k3 k5 newId)) (hx:h.get? x=some o) (hc:o.cls=.ref C) (hq:Q () ⟨h,g,d,t,os⟩) :
  wpAny M A (checkBuiltinCall sa ⟨[.ref x,nameV,v],[]⟩) Q E ⟨h,g,d,t,os⟩:=by
 have hcB:(Value.ref C::bm).contains (.type owner)=true:=by rw [zBG,T.hasType SF.hasOwner,Bool.or_true]
 have ha:=SF.args (.ref x) nameV v;simp only [checkBuiltinCall,SF.kind,SF.split];refine zAa ?_
 ·unfold isInstance;repeat (first | (with_reducible refine zAA hx ?_;rw [hc]) | (with_reducible refine zBm hC ?_;rw [hcB]) | wp_step)
  cases hsig:Manifest.signature? sa with
  |none=>exact zAd hq
  |some sig=>
   simp only [argsOk,hsig] at ha;have h2:Bind.checkArgs sa sig ⟨[.ref x,nameV,v],[]⟩=pure ():=ha;show wpAny M A (Bind.checkArgs sa sig ⟨[.ref x,nameV,v],[]⟩) Q E _;rw [h2];exact zAd hq
theorem store_entry {Q:PySem.Fin->Shared->Prop}(SF:StoreFacts B bmB sa owner) (T:fD ns h bmB bm) (hin:name∈ns)
  (hC:h.get? C=some (excClassObj nm q C N bs bm true sn sub ab col dd k0 k1 k2 k3 k5 newId)) (hn:h.Ns N mN) (hna:mN name=none)
  (hB:typeLookup (.type B) name=pure none) (hx:h.get? x=some o) (hc:o.cls=.ref C) (hnc:∀c,o.data≠.cls c) (hdn:o.dict=none)
  (hq:∀h' tk',h'.get? x=some { cls:=o.cls,dict:=some h.objs.size,data:=o.data,slots:=o.slots }->h'.Ns1 h.objs.size (λy=>if y=name then some v else none) ->
   (∀b o,b≠x->h.get? b=some o->h'.get? b=some o)->Q (.done (.ret .none)) ⟨h',g,d,tk',os⟩) :
  wpAny (model prog w) A (Builtin.«object.__setattr__» ⟨[.ref x,.str name tk,v],[]⟩) Q E ⟨h,g,d,t,os⟩:=by
 have hpass:=T.refuse (SF.passes (.ref x));unfold Builtin.«object.__setattr__»;repeat (first | rw [refuse_eq] | (rw [refuseLoop_ref,hpass]) | (with_reducible refine zAA hx ?_;rw [hc]) | with_reducible refine wpAny_mroOf_exc hC ?_ | (with_reducible refine bD hin hC hn hna T SF.mro hB ?_) | wp_step)
 rw [hdn,if_neg (by simp [typeHasDict])];split
 ·rename_i hcd;cases hcd
 split
 ·rename_i c hcd;exact absurd hcd (hnc c)
 ·have hx₁:(h.push { cls:=.type "dict", data:=.dict #[] }).get? x=some o:=zAb _ hx;have hxs:x≠h.objs.size:=zAl (zAe hx);refine zAa (wpAny_alloc' ?_);refine zAa (wpAny_update' hx₁ ?_);refine zAd ?_;have hgd:((h.push { cls:=.type "dict", data:=.dict #[] }).update x λo=>{ cls:=o.cls,dict:=some h.objs.size,data:=o.data,slots:=o.slots }).get? h.objs.size
    = some { cls:=.type "dict", data:=.dict #[] }:=
   (Heap.get?_update_ne _ _ _ _ hxs.symm).trans (zBM rfl rfl)
  have hnd:((h.push { cls:=.type "dict", data:=.dict #[] }).update x λo=>{ cls:=o.cls,dict:=some h.objs.size,data:=o.data,slots:=o.slots }).Ns h.objs.size (λ_=>none):=
   ⟨_,#[],_,hgd,rfl,λe he=>absurd he (by simp),λ_=>rfl⟩
  show wpAny _ _ (storeInDict h.objs.size (.str name tk) name v) _ _ _;unfold storeInDict newKeyGuard;refine zAa (zAd (zAa (wpAny_nsSet1 (Heap.Ns1.of_empty hnd) λh' hn' hs=>?_)));obtain ⟨oD,esD,epD,hoD,hdD,hcD⟩:=hn'.count (Within.cons name v Within.nil);refine zAa (wpAny_lookBehind hoD (by rw [hdD];exact pastItsLine_dict (zAB hcD (by rw [zAv,zCl,sizeLine_eq];omega))) ?_);wp_walk;refine hq h' _ ?_ hn' (λb ob hbx hb=>?_)
  ·refine (hs.2 x hxs).trans (zAD _ hx₁ ?_);have hfr:=(Heap.get?_some_iff.mp hx).2;obtain ⟨oc,od,odt,osl⟩:=o;cases odt<;>first | rfl | exact hfr
  ·exact (hs.2 b (zAl (zAe hb))).trans ((Heap.get?_update_ne _ _ _ _ hbx).trans (zAb _ hb))
theorem store_attr {Q:Unit->Shared->Prop}(SF:StoreFacts B bmB sa owner) (T:fD ns h bmB bm) (hin:name∈ns) (his:("__setattr__" : Str)∈ns)
  (hC:h.get? C=some (excClassObj nm q C N bs bm true sn sub ab col dd k0 k1 k2 k3 k5 newId)) (hn:h.Ns N mN) (hns:mN "__setattr__" = none) (hna:mN name=none)
  (hB:typeLookup (.type B) name=pure none) (hx:h.get? x=some o) (hc:o.cls=.ref C) (hnc:∀c,o.data≠.cls c) (hdn:o.dict=none)
  (hq:∀h' tk',h'.get? x=some { cls:=o.cls,dict:=some h.objs.size,data:=o.data,slots:=o.slots }->h'.Ns1 h.objs.size (λy=>if y=name then some v else none) ->
   (∀b o,b≠x->h.get? b=some o->h'.get? b=some o)->Q () ⟨h',g,d,tk',os⟩) :
  wpAny (model prog w) A (setAttr (.ref x) name v) Q E ⟨h,g,d,t,os⟩:=by
 have f3:=SF.slot.bind (.ref x);unfold setAttr callSpecial? specialOf;repeat (any_goals (first | assumption | (with_reducible refine zAA hx ?_;rw [hc]) | (with_reducible refine bD his hC hn hns T SF.mro SF.slot.lookup ?_) | wp_step))
 refine codeAny_call_builtin SF.slot.plain SF.entry (J6 SF T hC hx hc (store_entry SF T hin hC hn hna hB hx hc hnc hdn λh' tk' h1 h2 h3=>?_));repeat (any_goals (first | assumption | wp_step))
 exact hq h' tk' h1 h2 h3
end
section
variable {A:Around}{h:Heap}
variable {x dx:Addr}{bs:List Value}{sub:List Value}{k0 k1 k2 k3 k5:Option Value}{mA:Str->Option Value}
theorem yQ {Q:Unit->Shared->Prop}(FB:ExcAttrBase B bmB) (hC:h.get? C=some (excClassObj nm q C N bs bm true sn sub ab col dd k0 k1 k2 k3 k5 newId)) (T:fD ns h bmB bm)
  (hx:h.get? x=some o) (hc:o.cls=.ref C) (hq:Q () ⟨h,g,d,t,os⟩):wpAny M A (checkBuiltinCall "BaseException.__getattribute__" ⟨[.ref x,nameV],[]⟩) Q E ⟨h,g,d,t,os⟩:=by
 have hk:builtinKind "BaseException.__getattribute__" = some .slot:=by decide +kernel
 have hsplit:splitId "BaseException.__getattribute__" = some ("BaseException", "__getattribute__"):=by decide +kernel
 have hcB:(Value.ref C::bm).contains (.type "BaseException")=true:=by rw [zBG,T.hasType FB.hasBase];rfl
 have ha:=F.args_bexc_ga (.ref x) nameV;simp only [checkBuiltinCall,hk,hsplit];refine zAa ?_
 ·unfold isInstance;repeat (first | (with_reducible refine zAA hx ?_;rw [hc]) | (with_reducible refine zBm hC ?_;rw [hcB]) | wp_step)
  exact hq
theorem FN {Q:PySem.Fin->Shared->Prop}(FB:ExcAttrBase B bmB) (T:fD ns h bmB bm) (hin:name∈ns)
  (hC:h.get? C=some (excClassObj nm q C N bs bm true sn sub ab col dd k0 k1 k2 k3 k5 newId)) (hN:h.Ns N mN) (hna:mN name=none) (hB:typeLookup (.type B) name=pure none)
  (hx:h.get? x=some o) (hc:o.cls=.ref C) (hnc:∀c,o.data≠.cls c) (hdx:o.dict=some dx) (hns:h.Ns dx mA) (hv:mA name=some v) (hq:Q (.done (.ret v)) ⟨h,g,d,t,os⟩) :
  wpAny (model prog w) A (Builtin.«object.__getattribute__» ⟨[.ref x,.str name tk],[]⟩) Q E ⟨h,g,d,t,os⟩:=by
 unfold Builtin.«object.__getattribute__»;repeat (any_goals (first | assumption | (with_reducible refine zAA hx ?_;rw [hc]) | with_reducible refine bD hin hC hN hna T FB.mro hB ?_ | wp_step))
 split
 ·rename_i c hcd;exact absurd hcd (hnc c)
 unfold instanceDict;repeat (first | (with_reducible refine zAA hx ?_;rw [hc]) | with_reducible refine zAA hC ?_ | wp_step)
 rw [hdx];repeat (first | (with_reducible refine wpAny_nsGet hns ?_;rw [hv]) | wp_step)
 exact hq
theorem Mz {expr:Bool}{Q:zV}(FB:ExcAttrBase B bmB) (T:fD ns h bmB bm) (hin:name∈ns) (h1:("__getattribute__" : Str)∈ns) (h2:("__getattr__" : Str)∈ns)
  (hC:h.get? C=some (excClassObj nm q C N bs bm true sn sub ab col dd k0 k1 k2 k3 k5 newId)) (hN:h.Ns N mN) (hna:mN name=none) (hm1:mN "__getattribute__" = none) (hm2:mN "__getattr__" = none) (hB:typeLookup (.type B) name=pure none)
  (hx:h.get? x=some o) (hc:o.cls=.ref C) (hnc:∀c,o.data≠.cls c) (hdx:o.dict=some dx) (hns:h.Ns dx mA) (hv:mA name=some v) (hh:handedOut v=pure v) (hq:Q v ⟨h,g,d,t+1,os⟩) :
  wpAny (model prog w) A (getAttr (.ref x) name expr) Q E ⟨h,g,d,t,os⟩:=by
 have by_:∀{tk:Tok}{fill expr:Bool}{Q:zV}{t:Nat},Q v ⟨h,g,d,t,os⟩->wpAny (model prog w) A (getAttrBy (.ref x) (.str name tk) fill expr) Q E ⟨h,g,d,t,os⟩:=by
  intro tk fill expr Q t hq;have f3:=FB.ga.bind (.ref x);have hx0:(expr&&onTheHeap (Value.builtin "BaseException.__getattribute__"))=false:=by cases expr<;>rfl
  have hx2:(Value.builtin "BaseException.__getattribute__" == Value.builtin "object.__getattribute__")=false:=by decide +kernel
  have hx1:(onTheHeap (Value.ref C)&&Value.builtin "BaseException.__getattribute__" == Value.builtin "object.__getattribute__")=false:=by rw [hx2];rfl
  repeat (any_goals (first | assumption | (with_reducible refine zAA hx ?_;rw [hc]) | with_reducible refine bD h1 hC hN hm1 T FB.mro FB.ga.lookup ?_ | with_reducible refine bD h2 hC hN hm2 T FB.mro FB.noGetattr ?_ | wp_step))
  refine codeAny_call_builtin FB.ga.plain F.entry_bexc_ga (yQ FB hC T hx hc (FN FB T hin hC hN hna hB hx hc hnc hdx hns hv ?_));repeat (any_goals (first | assumption | wp_step))
 unfold getAttr;repeat (any_goals (first | assumption | with_reducible apply by_ | wp_step))
end
end XE
namespace L2
open PySem PySem.Spec PyProof.Rows
variable {H:Hp}{a C:Addr}{dd:Option Addr}{X:Cx}
def del (H:Hp) (a:Addr):Hp:=λb=>if b=a then none else H b
theorem j4:del H a a=none:=if_pos rfl
theorem jP {b:Addr}(h:b≠a):del H a b=H b:=if_neg h
def XO (a C:Addr) (dd:Option Addr) (h:Heap):Prop:=∃vs sl,h.get? a=some { cls:=.ref C,dict:=dd,data:=.fields vs,slots:=sl }/\vs[1]?=some .none/\vs[2]?=some .none
theorem XO.at:∀h1 h2:Heap,XO a C dd h1->(∀o,h1.get? a=some o->h2.get? a=some o)->XO a C dd h2:=λh1 h2 ⟨vs,sl,e,r⟩ k=>⟨vs,sl,k _ e,r⟩
theorem JR {P:Program}{w:World}{h:Heap}(x:XO a C dd h):bw P w H h a (.ext (XO a C dd)):=by
 obtain ⟨vs,sl,e,r⟩:=id x;exact ⟨x,⟨_,e⟩,XO.at⟩
section
variable {pins:List (Addr×Obj)}{σ:St}{s:Shared}{o:HO}
theorem Inv.track (I:Inv X pins σ H s) (hn:H a=none) (hc:(a∈X.ex∨X.s₀.heap.objs.size<=a)/\a≠X.env.locals/\(∀x c,X.env.cells.lookup x=some c->c≠a)/\∀p∈X.pn++pins,p.1≠a)
  (ok:bw X.prog X.w (upd H a o) s.heap a o):Inv X pins σ (upd H a o) s:=by
 have nn:∀{b:Addr}{u:HO},H b=some u->b≠a:=λ{b u} q z=>by subst z;rw [hn] at q;cases q
 have key:=I.step (H':=upd H a o) (h':=s.heap) (g':=s.gens) (t':=s.toks) (d':=s.drawn) (ch:=[a]) (λb hb=>by
   have e:b=a:=by simpa using hb
   subst e;exact hc) (λb o _ _ _ e _=>e) (λb o _ _ _ e _=>⟨o.slots,e⟩) (λb o hb _ q=>by rw [aA λz=>hb (by simp [z])];exact q) (λb o _ e=>⟨o,e⟩)
  (λb xs q=>by rw [aA (nn q)];exact q) (λb o u q=>by rw [aA (nn q)];exact q) (λb ps q=>⟨#[],by rw [aA (nn q)];simpa using q⟩) (λm h=>h) (λb u q=>?_) I.bare
 ·exact key
 ·by_cases z:b=a
  ·subst z;rw [aJ] at q;cases q
   exact ok
  ·rw [aA z] at q;exact (I.hok b u q).stay (λc v _ e=>e) (λc e=>by rw [aA (nn e)];exact e) λc xs e=>by rw [aA (nn e)];exact e
theorem Inv.forget {φ:Heap->Prop}(I:Inv X pins σ H s) (he:H a=some (.ext φ)):Inv X pins σ (del H a) s:=by
 have nn:∀{b:Addr}{u:HO},H b=some u->(∀ψ,u≠.ext ψ)->b≠a:=λ{b u} q n z=>by subst z;rw [he] at q;cases q;exact n φ rfl
 refine I.step (H':=del H a) (h':=s.heap) (g':=s.gens) (t':=s.toks) (d':=s.drawn) (ch:=[]) (λb hb=>absurd hb (by simp)) (λb o _ _ _ e _=>e) (λb o _ _ _ e _=>⟨o.slots,e⟩) (λb o hb _ q=>?_) (λb o _ e=>⟨o,e⟩)
  (λb xs q=>by rw [jP (nn q λψ z=>by cases z)];exact q) (λb o u q=>by rw [jP (nn q λψ z=>by cases z)];exact q) (λb ps q=>⟨#[],by rw [jP (nn q λψ z=>by cases z)];simpa using q⟩) (λm h=>h) (λb u q=>?_) I.bare
 ·by_cases z:b=a
  ·rw [z];exact j4
  ·rw [jP z];exact q
 ·by_cases z:b=a
  ·rw [z,j4] at q;cases q
  ·rw [jP z] at q;exact (I.hok b u q).stay (λc v _ e=>e) (λc e=>by rw [jP (nn e λψ z=>by cases z)];exact e) λc xs e=>by rw [jP (nn e λψ z=>by cases z)];exact e
end
structure kh (K:zF) (C:Addr) (ns:List Str) (ini:Option Addr):Prop where
 kp:PySem.W.keepIn K (.ref C)=true
 cl:∃(nm q:Str) (N:Addr) (bs bm:List Value) (sn:List Str) (sub:List Value) (ab:Bool) (col:Option Bool) (dd:Option Addr) (k0 k1 k2 k3 k5:Option Value),
  K.lookup C=some (excClassObj nm q C N bs bm true sn sub ab col dd k0 k1 k2 k3 k5 "ValueError.__new__") /\
  ∀h:Heap,K.In h->(∃mN,h.Ns N mN/\(∀n∈ns,mN n=none)/\mN "__init__" = ini.map Value.ref)/\XE.fD ("__init__" :: ns) h veM bm
section
variable {g:Addr}{k:Nat}{fd:FuncData}{ps:List Str}{sp:Sp}{x:Str}{p pos:Pos}{e:Expr}{es:List Expr}{t:TA}{ns:List Str}
def Za (X:Cx) (C:Addr) (sp:Sp) (t:TA):TE:=λσ H Q=>t σ H λvs H1=>vs.length<=100/\∀a,H1 a=none->X.s₀.heap.objs.size<=a->(∀p∈X.pn,p.1≠a)->sp (.ref a::vs) (upd H1 a (.ext (XO a C none))) (λv H2=>v=.non/\Q (.ref a) H2) E0
theorem T7 (c:kh X.K C ns (some g)) (hfn:PySem.W.isFn X.K (.ref g)=true) (G:cZ X.prog X.w X.K X.mg X.base oU k g fd ps sp) (hr:dj (k+1) X.A) (hg:Gl X x) (hm:X.mg x=some (.ref C)) (hb:Binds X.K fd ps [])
  (ha:PA X (e::es) t) (hdb:(x==("__debug__" : Str))=false:=by decide) (he:starEach (e::es) X.env=(false,eval e X.env)::starEach es X.env:=by rfl) (hpl:(backTo pos (starEach es X.env)).any (·.1)=false:=by rfl) :
  PE X (.Call (.Name x p) (e::es) [] pos) (Za X C sp t):=by
 intro pins s σ H Q I h;refine zBt (lq I hg hm ?_ hdb);refine PySem.W.callWith_K (h₀:=X.base) I.ok.mod.kin c.kp (cR (ha pos pins s σ H _ I h) λus s1 ⟨vs,H1,I1,r,hz,q⟩=>⟨I1.jo,?_⟩) he hpl;obtain ⟨nm,qn,N,bs,bm,sn,sub,ab,col,dd,k0,k1,k2,k3,k5,lk,fr⟩:=c.cl;obtain ⟨⟨mN,hN,hno,hin⟩,T⟩:=fr _ I1.jo;obtain ⟨hp,gn,dr,tk,os⟩:=s1;have fnI:∃o,X.K.lookup g=some o/\o.cls=.type "function" := by
  have q1:PySem.W.typeIn X.K (.ref g)=some (.type "function"):=beq_iff_eq.mp hfn;cases q2:X.K.lookup g with
  |none=>simp [PySem.W.typeIn,q2] at q1
  |some o=>exact ⟨o,rfl,by simpa [PySem.W.typeIn,q2] using q1⟩
 obtain ⟨oI,lg,hfc⟩:=fnI;refine XE.Ge F.excBase_ValueError (by decide +kernel) F.excBase_ValueError (T.tail (by simp)) (I1.jo _ _ lk) hN hin (I1.jo _ _ lg) hfc (λh' hm'=>?_) (by show us.length<=sizeLine;rw [<-r.length];exact zAB hz (by decide));obtain ⟨t0,ho,_,_⟩:=hm'.there;have fresh:H1 (hp.objs.size+1)=none:=I1.hok.fresh (zAZ _);have I2:Inv X pins σ H1 ⟨h',gn,dr,tk,os⟩:=I1.kept (t':=tk) hm'.keeps;have up:∀b,b < hp.objs.size->b≠hp.objs.size+1:=λb hb z=>by rw [z] at hb;exact absurd hb (Nat.not_lt.mpr (zAZ _))
 have I3:Inv X pins σ (upd H1 (hp.objs.size+1) (.ext (XO (hp.objs.size+1) C none))) ⟨h',gn,dr,tk,os⟩:=by
  refine I2.track fresh ⟨.inr (zAB I1.sz (zAZ _)),(up _ I1.lt).symm,λx c e=>?_,λp hp'=>?_⟩ (JR ⟨_,_,ho,rfl,rfl⟩)
  ·obtain ⟨v,q⟩:=I1.cell x c e;exact up _ q.lt
  ·exact up _ (zAe (I1.pin p hp').1)
 have hq:=q _ fresh (zAB I1.sz (zAZ _)) λp hp'=>up _ (zAe (I1.pin p (zBe _ hp')).1);have r2:Vals (V.ref (hp.objs.size+1)::vs) (Value.ref (hp.objs.size+1)::us):=.cons rfl r;have hl:((Value.ref (hp.objs.size+1)::us)++[]).length=ps.length:=by
  rw [zAO,<-r2.length];exact G.len _ _ _ _ hq
 have bt:=hb ⟨h',gn,dr,tk,os⟩ (Value.ref (hp.objs.size+1)::us) I3.jo hl;rw [zAO] at bt;refine zCj (codeAny_mono (G.run _ X.stack _ _ ⟨Value.ref (hp.objs.size+1)::us,[]⟩ (Value.ref (hp.objs.size+1)::us) _ _ E0 (hr.make C us []) (I3.env0.make C us []) bt r2 hq) λr s' hq'=>?_);cases r with
 |error e=>exact hq'.elim
 |ok fl=>
  cases fl with
  |ret u=>
   obtain ⟨v,H',I4,rv,ev,q3⟩:=I3.after hq';subst ev;exact ⟨rv,⟨V.ref (hp.objs.size+1),H',I4,rfl,q3⟩⟩
  |next=>exact False.elim hq'
  |brk=>exact False.elim hq'
  |cont=>exact False.elim hq'
def Rv (K:zF) (ns:List Str) (ta tv:TE) (f:Str):TS:=λD σ H=>tv σ H λy H1=>ta σ H1 λx H2=>∃a C ini,x=.ref a/\H2 a=some (.ext (XO a C none))/\kh K C ns ini/\f∈ns/\("__setattr__" : Str)∈ns /\
 ∀d,H2 d=none->D.nx σ (upd (upd H2 a (.ext (XO a C (some d)))) d (.xd [(f,y)]))
theorem Nq {o value:Expr}{ta tv:TE}{f:Str}{pos':Pos}(hB:typeLookup (.type "ValueError") f=pure none) (ha:PE X o ta) (hv:PE X value tv) (hs:swapsWith value (some (.Attribute o f pos')) pos.line X.env=pure false:=by rfl) :
  PS X (.Assign [.Attribute o f pos'] value pos) (Rv X.K ns ta tv f):=by
 intro pins s σ H D I h;refine plainObj_wpAny_Assign_Attribute (cR (hv pins s σ H _ I h) λu s1 ⟨y,H1,I1,ry,q⟩=>cR (ha pins s1 σ H1 _ I1 q) λov s2 ⟨x,H2,I2,rx,a,C,ini,ex,ea,c,hf,hsa,q2⟩=>?_) hs;subst ex;obtain rfl:ov=Value.ref a:=rx;obtain ⟨nm,qn,N,bs,bm,sn,sub,ab,col,dd,k0,k1,k2,k3,k5,lk,fr⟩:=c.cl;obtain ⟨⟨mN,hN,hno,_⟩,T⟩:=fr _ I2.jo;obtain ⟨⟨vs,sl,ho,h1,h2⟩,_⟩:=(show bw X.prog X.w H2 s2.heap a (.ext (XO a C none)) from I2.hok a _ ea);obtain ⟨hp,gn,dr,tk,os⟩:=s2;refine XE.store_attr F.store_ValueError T (zAf _ hf) (zAf _ hsa) (I2.jo _ _ lk) hN (hno _ hsa) (hno _ hf) hB ho rfl (λc z=>by cases z) rfl λh' tk' e1 e2 e3=>?_;have fresh:H2 hp.objs.size=none:=I2.hok.fresh (zAq _);have up:∀b,b < hp.objs.size->b≠hp.objs.size:=λb hb z=>by rw [z] at hb;exact absurd hb (zAJ _)
 have nea:a≠hp.objs.size:=up _ (zAe ho);have I3:Inv X pins σ (upd H2 a (.ext (XO a C (some hp.objs.size)))) ⟨h',gn,dr,tk',os⟩:=I2.write (t':=tk') (by rw [ea];exact trivial) (.inl rfl) (λb u hb e=>e3 b u hb e) ⟨_,e1⟩ (JR ⟨vs,sl,e1,h1,h2⟩);have fr3:upd H2 a (.ext (XO a C (some hp.objs.size))) hp.objs.size=none:=by rw [aA nea.symm];exact fresh
 have I4:Inv X pins σ (upd (upd H2 a (.ext (XO a C (some hp.objs.size)))) hp.objs.size (.xd [(f,y)])) ⟨h',gn,dr,tk',os⟩:=by
  refine I3.track fr3 ⟨.inr I2.sz,(up _ I2.lt).symm,λx c e=>?_,λp hp'=>up _ (zAe (I2.pin p hp').1)⟩ ⟨_,e2,λg=>?_⟩
  ·obtain ⟨v,q⟩:=I2.cell x c e;exact up _ q.lt
  ·by_cases z:g=f
   ·subst z;simp [oE];exact ry
   ·have z':(g==f)=false:=by simpa using z
    rw [zAT,z',if_neg z];exact trivial
 exact ⟨σ,_,I4,q2 _ fresh⟩
def xG (X:Cx) (C:Addr) (t:TE):TS:=λ_ σ H=>t σ H λv H2=>∃a dd,v=.ref a/\X.s₀.heap.objs.size<=a/\(∀p∈X.pn,p.1≠a)/\H2 a=some (.ext (XO a C dd))/\XW X (.ref C) dd (del H2 a)
theorem p8 {ini:Option Addr}{te:TE}(c:kh X.K C ns ini) (hh:X.A.handled=none) (he:PE X e te):PS X (.Raise (some e) none pos) (xG X C te):=by
 intro pins s σ H D I h;rw [arm_exec_Raise];refine zAa (zBB ?_);obtain ⟨nm,qn,N,bs,bm,sn,sub,ab,col,dd,k0,k1,k2,k3,k5,lk,fr⟩:=c.cl;have hbase:bm.contains (.type "BaseException")=true:=(fr _ I.jo).2.hasType (by decide +kernel);refine XE.B_ (C:=C) (nm:=nm) (q:=qn) (N:=N) (bs:=bs) (bm:=bm) (hdct:=true) (sn:=sn) (sub:=sub) (ab:=ab) (col:=col) (dd:=dd) (k0:=k0) (k1:=k1) (k2:=k2) (k3:=k3) (k5:=k5) (newId := "ValueError.__new__") hbase hh ?_;show wpAny _ _ (eval e X.env >>= λv=>standAt pos >>= λ_=>pure v) _ _ _;refine zAa (cR (he pins s σ H _ I h) λu s1 ⟨v,H1,I1,rv,a,ad,ev,hy,hpn,ha,q⟩=>zAa (zBB (zAd ?_)));subst ev;cases rv
 obtain ⟨⟨vs,sl,ho,h1,h2⟩,_⟩:=(show bw X.prog X.w H1 s1.heap a (.ext (XO a C ad)) from I1.hok a _ ha);refine ⟨a,_,vs,rfl,I1.jo _ _ lk,ho,rfl,rfl,h1,h2,?_⟩;exact q pins σ s1 a (I1.forget ha) ⟨⟨⟨hy,j4⟩,hpn⟩,_,vs,ho,rfl,rfl,rfl,h2,.inl ⟨h1,rfl⟩⟩
end
end L2
namespace XE
open PySem
section
variable {M:Model}{A:Around}{E:zV}
variable {nm q nm' q':Str}{C N D N':Addr}{bs bm bs' bm':List Value}{hdct hdct':Bool}{sn sn':List Str}{sub sub':List Value}{ab ab':Bool}{col col':Option Bool}{dd dd':Option Addr}{k0 k1 k2 k3 k5 j0 j1 j2 j3 j5:Option Value}{newId newId':String}
theorem Af {h:Heap}{g:Array GenState}{d:Drawn}{t:Nat}{os:OsState}{e:Addr}{oe:Obj}{Q:Bool->Shared->Prop}
  (hC:h.get? C=some (excClassObj nm q C N bs bm hdct sn sub ab col dd k0 k1 k2 k3 k5 newId)) (hD:h.get? D=some (excClassObj nm' q' D N' bs' bm' hdct' sn' sub' ab' col' dd' j0 j1 j2 j3 j5 newId'))
  (he:h.get? e=some oe) (hcls:oe.cls=.ref C) (hbase:bm'.contains (.type "BaseException")=true) (hsub:(Value.ref C::bm).contains (.ref D)=true)
  (hq:Q true ⟨h,g,d,t,os⟩):wpAny M A (excMatches (.ref e) (.ref D)) Q E ⟨h,g,d,t,os⟩:=by
 have hcB:(Value.ref D::bm').contains (.type "BaseException")=true:=by rw [zBG,hbase,Bool.or_true]
 have f:=tc_notTuple;unfold excMatches;repeat (first | (with_reducible refine zAA he ?_;rw [hcls]) | with_reducible refine zAA hD ?_ | (with_reducible refine zBm hD ?_;rw [hcB]) | (with_reducible refine zBm hC ?_;rw [hsub]) | wp_step)
 exact hq
end
end XE
namespace L2
open PySem PySem.Spec PyProof.Rows
variable {X:Cx}{pins:List (Addr×Obj)}{σ:St}{H:Hp}{s:Shared}{a C f:Addr}{i j:Nat}{pos:Pos}{ns' ps N:List Str}{ini':Option Addr}{cn nm qual:Str}{De:Ends}{fd:FuncData}{sp:Sp}{us:List Value}{vs:List V}{e:Expr}{es:List Expr}{t:TA}{scope:Scope}
abbrev Cx.su0 (X:Cx) (a:Addr):Cx:={ X with A:=X.A.mark (some (.ref a)),calm:=false,cool:=false,xe:=λ_ _=>False }
theorem Inv.su0 (I:Inv X pins σ H s) (a:Addr):Inv (X.su0 a) pins σ H s:=
 ⟨⟨I.ok.mod,I.ok.kind,I.ok.glob,I.ok.blt,I.ok.above,I.ok.inj,I.ok.has,I.ok.cab,(λz=>Bool.noConfusion z),I.ok.frames,I.ok.stk,I.ok.exf,I.ok.bs,I.ok.bsz,I.ok.noex,I.ok.exfs,I.ok.mK,I.ok.frf,(λz=>Bool.noConfusion z)⟩,I.os,I.bare,I.base,I.loc,I.cell,I.free,I.freeC,I.pin,I.hok,I.len⟩
abbrev uU (a:Addr) (oe:Obj):HO:=.frz oe (.ext λh=>h.get? a=some oe)
abbrev Cx.su (X:Cx) (a:Addr) (oe:Obj):Cx:={ X with A:=X.A.mark (some (.ref a)),H₀:=upd X.H₀ a (uU a oe),calm:=true,cool:=false,xe:=λ_ _=>False }
theorem Inv.old (I:Inv X pins σ H s) (hn:X.s₀.heap.objs.size<=a) {b:Addr}{o:Obj}(e:X.s₀.heap.get? b=some o):b≠a:=λz=>by
 have:=zAe e;rw [z] at this;exact absurd (zAu this hn) (zAJ _)
theorem Inv.su {oe:Obj}{vs:Array Value}(I:Inv X pins σ H s) (hn:X.s₀.heap.objs.size<=a) (ha:H a=some (uU a oe)) (hf:a∉X.fs) (hd:oe.data=.fields vs) (h2:vs[2]?=some .none):Inv (X.su a oe) pins σ H s:=by
 refine ⟨⟨I.ok.mod,I.ok.kind,I.ok.glob,I.ok.blt,I.ok.above,I.ok.inj,I.ok.has,I.ok.cab,λ_=>.inr ⟨a,oe,_,vs,rfl,aJ,hd,h2⟩,I.ok.frames,I.ok.stk,I.ok.exf,λb o e=>?_,I.ok.bsz,I.ok.noex,I.ok.exfs,I.ok.mK,λb hb=>?_,(λz=>Bool.noConfusion z)⟩,I.os,I.bare,?_,I.loc,I.cell,I.free,I.freeC,I.pin,I.hok,I.len⟩
 ·obtain ⟨e1,e2⟩:=I.ok.bs b o e;exact ⟨e1,(aA (I.old hn e1)).trans e2⟩
 ·exact (aA λz=>hf (by rw [<-z];exact hb)).trans (I.ok.frf b hb)
 ·refine ⟨λb o e n hb hx=>I.base.keep b o e ((aA (I.old hn e)).symm.trans n) hb hx,λb o e n hb hx=>I.base.slot b o e ((aA (I.old hn e)).symm.trans n) hb hx,λb o e n hx=>I.base.free b o e ((aA (I.old hn e)).symm.trans n) hx,I.base.there,λb xs q=>?_,λb o u q=>?_,λb ps q=>?_⟩
  ·have q:upd X.H₀ a (uU a oe) b=_:=q;by_cases z:b=a
   ·subst z;rw [aJ] at q;cases q
   ·rw [aA z] at q;exact I.base.tups b xs q
  ·have q:upd X.H₀ a (uU a oe) b=_:=q;by_cases z:b=a
   ·subst z;rw [aJ] at q;rw [ha];exact q
   ·rw [aA z] at q;exact I.base.frzs b o u q
  ·have q:upd X.H₀ a (uU a oe) b=_:=q;by_cases z:b=a
   ·subst z;rw [aJ] at q;cases q
   ·rw [aA z] at q;exact I.base.tbls b ps q
theorem Inv.NK {oe:Obj}{H1:Hp}{s1:Shared}{pins1:List (Addr×Obj)}{σ1:St}(J:Inv (X.su a oe) pins σ H s) (I:Inv X pins1 σ1 H1 s1) (hn:X.s₀.heap.objs.size<=a) (h1:H1 a=none):Inv X pins σ H s:=by
 have nt:∀{b:Addr}{o:HO},X.H₀ b=some o->(H1 b=none->False)->b≠a:=λ{b o} q k z=>k (by rw [z];exact h1);refine ⟨I.ok,J.os,J.bare,⟨λb o e n hb hx=>J.base.keep b o e (by show upd X.H₀ a _ b=none;rw [aA (I.old hn e)];exact n) hb hx,λb o e n hb hx=>J.base.slot b o e (by show upd X.H₀ a _ b=none;rw [aA (I.old hn e)];exact n) hb hx,λb o e n hx=>J.base.free b o e (by show upd X.H₀ a _ b=none;rw [aA (I.old hn e)];exact n) hx,J.base.there,λb xs q=>?_,λb o u q=>?_,λb ps q=>?_⟩,J.loc,J.cell,J.free,J.freeC,J.pin,J.hok,J.len⟩
 ·refine J.base.tups b xs ?_;show upd X.H₀ a _ b=_;rw [aA (nt q λz=>by rw [I.base.tups b xs q] at z;cases z)];exact q
 ·refine J.base.frzs b o u ?_;show upd X.H₀ a _ b=_;rw [aA (nt q λz=>by rw [I.base.frzs b o u q] at z;cases z)];exact q
 ·refine J.base.tbls b ps ?_;show upd X.H₀ a _ b=_;rw [aA (nt q λz=>by obtain ⟨more,q'⟩:=I.base.tbls b ps q;rw [q'] at z;cases z)];exact q
theorem rZ {M:Model}{A:Around}{E:zV}{x:Str}{Q:Unit->Shared->Prop}(I:Inv X pins σ H s) (hN:X.N.Nodup) (hi:X.N[i]?=some x) (hk:X.env.scope.names.lookup x=some .local)
  (h:∀s',Inv X pins (σ.set i none) H s'->Q () s'):wpAny M A (do bindName X.env x .none;unbindBehindTheSuite X.env x pos) Q E s:=by
 obtain ⟨m,hn,hl⟩:=id I.loc;have hcls:(X.env.scope.kind==.class||(X.env.scope.kind==.module&&X.env.locals != X.env.globals))=false:=by rw [I.ok.kind];rfl
 have hiσ:i < σ.length:=by rw [I.len];exact (List.getElem?_eq_some_iff.mp hi).1
 have Ma:=I.Ma;refine wpAny_nameGoes_keeps hk hn hcls λh' v hn' hs=>?_;obtain ⟨oL,_,_,hoL,_⟩:=id hn;refine h _ ⟨I.ok,I.os,I.bare,⟨λb o e n hb hx=>?_,λb o e n hb hx=>?_,I.base.free,λb o e hx=>?_,I.base.tups,I.base.frzs,I.base.tbls⟩,⟨_,hn',λj y v' e1 e2 e3=>?_⟩,λy c e=>?_,I.free,I.freeC,λp hp=>?_,λb ob e=>?_,by simpa using I.len⟩
 ·exact (hs.2 b (zAl (zAu (zAe e) I.ok.above))).trans (I.base.keep b o e n hb hx)
 ·obtain ⟨sl,e1⟩:=I.base.slot b o e n hb hx;exact ⟨sl,(hs.2 b (zAl (zAu (zAe e) I.ok.above))).trans e1⟩
 ·obtain ⟨o',e1⟩:=I.base.there b o e hx;exact ⟨o',(hs.2 b (zAl (zAu (zAe e) I.ok.above))).trans e1⟩
 ·by_cases hj:j=i
  ·subst hj;rw [zAR hiσ] at e2;cases e2
  ·rw [zAY (Ne.symm hj)] at e2;obtain ⟨u',r',q⟩:=hl j y v' e1 e2 e3;refine ⟨u',r',?_⟩;rcases q with ⟨k,e⟩ | ⟨k,c,e,z⟩
   ·refine .inl ⟨k,?_⟩;have:y≠x:=λe=>hj (uE hN e1 (e▸hi));simp [this,e]
   ·exact .inr ⟨k,c,e,z.sameBut hs (Ma y c e)⟩
 ·obtain ⟨w',z⟩:=I.cell y c e;exact ⟨w',z.sameBut hs (Ma y c e)⟩
 ·obtain ⟨e,n,ne,nf,d⟩:=I.pin p hp;exact ⟨(hs.2 p.1 ne).trans e,n,ne,nf,d⟩
 ·refine (I.hok b ob e).stay (λc w' hc q=>(hs.2 c ?_).trans q) (λ_ q=>q) λ_ _ q=>q;rintro rfl;rcases hc with hc | hc
  ·rw [<-hc,I.free] at e;cases e
  ·rw [I.free] at hc;cases hc
def BP (K:zF) (C D:Addr):Prop:=∀(nm q:Str) (N:Addr) (bs bm:List Value) (sn:List Str) (sub:List Value) (ab:Bool) (col:Option Bool) (dd:Option Addr) (k0 k1 k2 k3 k5:Option Value),
 K.lookup C=some (excClassObj nm q C N bs bm true sn sub ab col dd k0 k1 k2 k3 k5 "ValueError.__new__")->(Value.ref C::bm).contains (.ref D)=true
structure Cgt (oe:Obj) (C:Addr) (dd:Option Addr):Prop where
 cls:oe.cls=.ref C
 dict:oe.dict=dd
 data:∃vs,oe.data=.fields vs/\vs[2]?=some .none
abbrev Ends.gone (D:Ends) (i:Nat):Ends:={ nx:=λσ H=>D.nx (σ.set i none) H,rt:=D.rt,bk:=λσ H=>D.bk (σ.set i none) H,ct:=λσ H=>D.ct (σ.set i none) H }
section
variable {D:Addr}{dd:Option Addr}{ns:List Str}{ini:Option Addr}{cp hpos:Pos}{b0:Stmt}{suite:List Stmt}{ts:Obj->TS}
theorem JB (hN:X.N.Nodup) (hi:X.N[i]?=some nm) (hk:X.env.scope.names.lookup nm=some .local) (hst:X.stack=X.env::X.outer) (hfr:X.env.frame=some X.env.locals)
  (hg:Gl X cn) (hm:X.mg cn=some (.ref D)) (c:kh X.K C ns ini) (c':kh X.K D ns' ini') (sb:BP X.K C D) (hs:∀oe,rW (X.su a oe) (b0::suite) (ts oe)) (hdb:(cn==("__debug__" : Str))=false)
  (I:Inv X pins σ H s) (x:XE.Hq (λb=>Yg X.s₀.heap.objs.size H b/\∀p∈X.pn++pins,p.1≠b) a (.ref C) dd .none s.heap)
  (h:∀oe,Cgt oe C dd->ts oe (De.gone i) (σ.set i (some (.ref a))) (upd H a (uU a oe))) :
  wpAny (model X.prog X.w) X.A (noteFrame (.ref a) X.env) (λ_ s2=>wpAny (model X.prog X.w) X.A (setFlight (.ref a) none) (λ_ s3=>
   wpAny (model X.prog X.w) X.A (handleBy (.ref a) X.env [.ExceptHandler (some (.Name cn cp)) (some nm) (b0::suite) hpos]) (SP X pins De) X.xe s3) X.xe s2) X.xe s:=by
 have fr:X.A.frames=some (X.env::X.outer):=by rw [<-hst];exact I.ok.frames
 have fu:s.heap.FunFrames X.base (X.env::X.outer):=by rw [<-hst];exact I.stack
 have ff:∀b∈(X.env::X.outer).filterMap (·.frame),H b=none:=by rw [<-hst];exact I.sJ
 have pf:∀b,s.heap.objs.size<=b->Yg X.s₀.heap.objs.size H b/\∀p∈X.pn++pins,p.1≠b:=λb hb=>⟨⟨zAB I.sz hb,I.hok.fresh hb⟩,λp hp z=>by
  have:=zAe (I.pin p hp).1;rw [z] at this;exact absurd (zAu this hb) (zAJ _)⟩
 have keepI:∀{s1:Shared}{h2:Heap}{fs ch:List Addr},Inv X pins σ H s1->XE.uN ((X.env::X.outer).filterMap (·.frame)) ch s1.heap h2->XE.Rec (λb=>Yg X.s₀.heap.objs.size H b/\∀p∈X.pn++pins,p.1≠b) s1.heap ch->Inv X pins σ H { s1 with heap:=h2 }:=λ{s1 h2 fs ch} J c2 r2=>
  J.call' rfl (by rw [hst];exact Cq c2 ff) (wk c2 ff (λb hb=>(r2 b hb).1.1.2) J.hok) J.bare (J.recs (λb hb=>⟨(r2 b hb).1.1,(r2 b hb).2⟩) λb hb=>(r2 b hb).1.2)
 refine XE.note fr fu hfr pf x (.inl rfl) λh1 ch x1 c1 r1=>?_;have I1:=keepI (fs:=[]) I c1 r1;refine XE.unmark (s:={ s with heap:=h1 }) x1 λh2 ch2 x2 c2 r2 _=>?_;have I2:=keepI (fs:=[]) I1 (c2 _) r2;obtain ⟨nm1,q1,N1,bs1,bm1,sn1,sub1,ab1,col1,dd1,k0,k1,k2,k3,k5,lk,_⟩:=c.cl;obtain ⟨nm2,q2,N2,bs2,bm2,sn2,sub2,ab2,col2,dd2,j0,j1,j2,j3,j5,lk',fr'⟩:=c'.cl;have hbase:bm2.contains (.type "BaseException")=true:=(fr' _ I2.jo).2.hasType (by decide +kernel);have hsub:=sb _ _ _ _ _ _ _ _ _ _ _ _ _ _ _ lk;refine wpAny_handleBy_cons (codeAny_handlers_test (lq (X:=X.su0 a) (I2.su0 a) hg hm ?_ hdb)) (by intro q;cases q);obtain ⟨_,oe,vs,he,hc,hdd,hd,hv2,tb⟩:=id x2;refine XE.Af (I2.jo _ _ lk) (I2.jo _ _ lk') he hc hbase hsub ?_;refine codeAny_handlers_suite_as ?_;refine XE.unmark (s:={ s with heap:=h2 }) x2 λh3 ch3 x3 c3 r3 _=>?_;have I3:=keepI (fs:=[]) I2 (c3 _) r3;obtain ⟨⟨⟨ya,yn⟩,yp⟩,oe3,vs3,he3,hc3,hdd3,hd3,hv3,tb3⟩:=id x3;have I4:Inv X pins σ (upd H a (uU a oe3)) { s with heap:=h3 }:=by
  refine I3.track yn ⟨.inr ya,λz=>?_,λx c e z=>?_,yp⟩ ⟨he3,he3,⟨_,he3⟩,λg1 g2 q k=>k _ q⟩
  ·obtain ⟨m,⟨o',es,ep,ho',hd',_⟩,_⟩:=I3.loc;rw [<-z] at ho';have:oe3=o':=Option.some.inj (he3.symm.trans ho');subst this;rw [hd3] at hd';cases hd'
  ·obtain ⟨v,o',ho',hd'⟩:=I3.cell x c e;rw [z] at ho';have:oe3=o':=Option.some.inj (he3.symm.trans ho');subst this;rw [hd3] at hd';cases hd'
 have nf:a∉X.fs:=λhb=>by
  obtain ⟨_,o,ho,_⟩:=I.ok.mK.mem hb;exact absurd (zAu (zAe ho) ya) (zAJ _)
 refine sZ (X:=X.su a oe3) (v:=.ref a) (I4.su ya aJ nf hd3 hv3) hN hi (.inl hk) rfl (λs5 I5=>?_) (.inr hk);refine zBK (hs oe3 pins s5 _ _ (De.gone i) I5 (h oe3 ⟨hc3,hdd3,vs3,hd3,hv3⟩)) (λf s6 q6=>?_) λ_ _ z=>z.elim;cases f with
 |next=>obtain ⟨σ6,H6,I6,q6⟩:=q6;exact rZ (I6.NK I3 ya yn) hN hi hk λs7 I7=>⟨_,H6,I7,q6⟩
 |cont=>obtain ⟨σ6,H6,I6,q6⟩:=q6;exact rZ (I6.NK I3 ya yn) hN hi hk λs7 I7=>⟨_,H6,I7,q6⟩
 |brk=>obtain ⟨σ6,H6,I6,q6⟩:=q6;exact rZ (I6.NK I3 ya yn) hN hi hk λs7 I7=>⟨_,H6,I7,q6⟩
 |ret v=>obtain ⟨w6,σ6,H6,I6,r6,q6⟩:=q6;exact rZ (I6.NK I3 ya yn) hN hi hk λs7 I7=>⟨w6,_,H6,I7,r6,q6⟩
end
section
variable {CX:K3}{k:Nat}{E:XK}
theorem CP {Q:VK}{EE:zV}(M:Mk X.K C f) (F:cZ X.prog X.w X.K X.mg X.base CX k f fd ps sp) (hr:dj (k+1) X.A) (hb:Binds X.K fd ps [])
  (hx:∀H' s1 e s',Inv X pins σ H' s1->CX X.stack H' s1 E e s'->EE e s') (I:Inv X pins σ H s) (r:Vals vs us)
  (h:∀x dx,H x=none->H dx=none->dx≠x->sp (.ref x::vs) (upd (upd H dx (.own x)) x (.ins C dx [])) (λv H2=>v=.non/\Q (.ref x) H2) E) :
  wpAny (model X.prog X.w) X.A (call (.ref C) us) (EP X pins σ Q) EE s:=by
 have hq:=h (s.heap.objs.size+1) s.heap.objs.size (I.hok.fresh (zAZ _)) (I.hok.fresh (zAq _)) (zAl (zBr _));have I2:=Inv.made (C:=C) I;have r2:Vals (V.ref (s.heap.objs.size+1)::vs) (Value.ref (s.heap.objs.size+1)::us):=.cons rfl r;have hl:((Value.ref (s.heap.objs.size+1)::us)++[]).length=ps.length:=by
  rw [zAO,<-r2.length];exact F.len _ _ _ _ hq
 have bt:=hb _ (Value.ref (s.heap.objs.size+1)::us) I2.jo hl;rw [zAO] at bt;refine zCj (Jm (f:=f) I.jo M.makes M.init (beq_iff_eq.mp M.fn) (codeAny_mono (F.run _ X.stack _ _ ⟨Value.ref (s.heap.objs.size+1)::us,[]⟩ (Value.ref (s.heap.objs.size+1)::us) _ _ E (hr.make C us [])
  (I2.env0.make C us []) bt r2 hq) λr s' hq'=>?_))
 cases r with
 |error e=>exact hx _ _ e s' I2 hq'
 |ok fl=>
  cases fl with
  |ret u=>
   obtain ⟨v,H',I3,rv,ev,q3⟩:=I2.after hq';subst ev;exact ⟨rv,⟨V.ref (s.heap.objs.size+1),H',I3,rfl,q3⟩⟩
  |next=>exact False.elim hq'
  |brk=>exact False.elim hq'
  |cont=>exact False.elim hq'
end
section
variable {D Cw g:Addr}{x wn:Str}{cp hpos p xp cpos apos:Pos}{b0:Stmt}{suite:List Stmt}{k:Nat}{ts:Addr->Obj->TS}
def Wnt (X:Cx) (D:Addr) (i:Nat) (ts:Addr->Obj->TS) (De:Ends) (σ:St):XK:=λCv dd H2=>∃C0 ns ini,Cv=.ref C0/\kh X.K C0 ns ini/\BP X.K C0 D/\∀a oe,H2 a=none->Cgt oe C0 dd->ts a oe (De.gone i) (σ.set i (some (.ref a))) (upd H2 a (uU a oe))
theorem W_ (hN:X.N.Nodup) (hi:X.N[i]?=some nm) (hk:X.env.scope.names.lookup nm=some .local) (hst:X.stack=X.env::X.outer) (hfr:X.env.frame=some X.env.locals)
  (hg:Gl X cn) (hm:X.mg cn=some (.ref D)) (c':kh X.K D ns' ini') (hs:∀a oe,rW (X.su a oe) (b0::suite) (ts a oe)) (hdb:(cn==("__debug__" : Str))=false)
  (H:Hp) (s:Shared) (e:Value) (s':Shared) (I:Inv X pins σ H s) (h:Ar X.prog X.w X.stack H s (Wnt X D i ts De σ) e s') :
  wpAny (model X.prog X.w) X.A (noteFrame e X.env) (λ_ s2=>wpAny (model X.prog X.w) X.A (setFlight e none) (λ_ s3=>
   wpAny (model X.prog X.w) X.A (handleBy e X.env [.ExceptHandler (some (.Name cn cp)) (some nm) (b0::suite) hpos]) (SP X pins De) X.xe s3) X.xe s2) X.xe s':=by
 obtain ⟨a,Cv,dd,H',rfl,os,ba,un,hk',x,C0,ns,ini,rfl,c,sb,q⟩:=h;have I1:Inv X pins σ H' s':=I.call' os un hk' ba λb hb=>absurd hb (by simp);refine JB hN hi hk hst hfr hg hm c c' sb (hs a) hdb I1 (x.imp λb hb=>⟨⟨zAB I.sz hb.1,hb.2⟩,λp hp z=>?_⟩) λoe cg=>q a oe x.1.2 cg;have:=zAe (I.pin p hp).1;rw [z] at this;exact absurd (zAu this hb.1) (zAJ _)
def Mg (X:Cx) (D Cw:Addr) (i:Nat) (st:Ends->St->V->Hp->Prop) (sp:Sp) (t:TA) (ts:Addr->Obj->TS):TS:=λDe σ H=>t σ H λvs H1=>∀y dy,H1 y=none->H1 dy=none->dy≠y ->
 sp (.ref y::vs) (upd (upd H1 dy (.own y)) y (.ins Cw dy [])) (λv H2=>v=.non/\st De σ (.ref y) H2) (Wnt X D i ts De σ)
theorem Ga (hN:X.N.Nodup) (hi:X.N[i]?=some nm) (hk:X.env.scope.names.lookup nm=some .local) (hst:X.stack=X.env::X.outer) (hfr:X.env.frame=some X.env.locals)
  (hg:Gl X cn) (hm:X.mg cn=some (.ref D)) (c':kh X.K D ns' ini') (hs:∀a oe,rW (X.su a oe) (b0::suite) (ts a oe))
  (M:Mk X.K Cw g) (G:cZ X.prog X.w X.K X.mg X.base (Ar X.prog X.w) k g fd ps sp) (hr:dj (k+1) X.A) (hgw:Gl X wn) (hmw:X.mg wn=some (.ref Cw)) (hb:Binds X.K fd ps []) (ha:PA X.yE (e::es) t)
  (hdb:(cn==("__debug__" : Str))=false:=by decide) (hdw:(wn==("__debug__" : Str))=false:=by decide) (he:starEach (e::es) X.env=(false,eval e X.env)::starEach es X.env:=by rfl) (hpl:(backTo cpos (starEach es X.env)).any (·.1)=false:=by rfl)
  (hsw:swapsWith (.Call (.Name wn p) (e::es) [] cpos) none apos.line X.env=pure false:=by rfl) :
  PS X (.Try [.Expr (.Call (.Name wn p) (e::es) [] cpos) apos] [.ExceptHandler (some (.Name cn cp)) (some nm) (b0::suite) hpos] [] [] pos)
   (Mg X D Cw i (λDe σ y H2=>De.nx σ H2) sp t ts):=by
 intro pins s σ H De I h;refine wpAny_Try_except (wpAny_execs_cons (wpAny_Expr_any (zBt (lq I hgw hmw ?_ hdw)) I.quiet hsw));have In:Inv X.yE pins σ H s:=⟨I.ok.wish _,I.os,I.bare,I.base,I.loc,I.cell,I.free,I.freeC,I.pin,I.hok,I.len⟩;refine PySem.W.callWith_K (h₀:=X.base) I.ok.mod.kin M.kp (zBK (ha cpos pins s σ H _ In h) (λus s1 q1=>?_) λ_ _ z=>z.elim) he hpl;obtain ⟨vs,H1,J1,r,q⟩:=q1;have I1:Inv X pins σ H1 s1:=⟨I.ok,J1.os,J1.bare,J1.base,J1.loc,J1.cell,J1.free,J1.freeC,J1.pin,J1.hok,J1.len⟩;refine ⟨I1.jo,cR (CP (Q:=λy H2=>De.nx σ H2) (E:=Wnt X D i ts De σ) M G hr hb (λH' s2 e s' J z=>W_ hN hi hk hst hfr hg hm c' hs hdb H' s2 e s' J z) I1 r q) λv s2 q2=>?_⟩;obtain ⟨y,H2,I2,rv,q2⟩:=q2;exact zBU (zBU ⟨_,H2,I2,q2⟩)
end
structure eV (k:Nat) (A:Around):Prop where
 dp:A.depth+3 * k+5 < recursionLimit
 un:A.units+16 * k+200 < cLine
theorem dj.h {k:Nat}{A:Around}(r:dj k A):eV k A:=⟨r.dp,r.un⟩
theorem eV.mono {k:Nat}{A:Around}(r:eV k A) (h:j<=k):eV j A:=⟨by have:=r.dp;omega,by have:=r.un;omega⟩
theorem eV.deeper {k:Nat}{A:Around}(r:eV (k+1) A) (env:Env):eV k (A.deeper env):=
 ⟨by have:=r.dp;show A.depth+1+3 * k+5 < _;omega,by have:=r.un;show A.units+3+16 * k+200 < _;omega⟩
theorem eV.mark {k:Nat}{A:Around}(r:eV k A) (h:Option Value):eV k (A.mark h):=⟨r.dp,r.un⟩
theorem eV.depth {k:Nat}{A:Around}(r:eV k A):A.depth < recursionLimit:=by have:=r.dp;omega
structure qd (P:Program) (w:World) (K:zF) (mg:Str->Option Value) (base:Heap) (k:Nat) (f:Addr) (fd:FuncData) (ps:List Str) (sp:Sp):Prop where
 len:∀vs H Q E,sp vs H Q E->vs.length=ps.length
 run:∀(A:Around) (outer:List Env) (s:Shared) (H:Hp) (args:Args) (us:List Value) (vs:List V) (Q:VK) (E:XK),eV k A->HD A H->uV P w K mg base A outer s H->BindsTo s fd args (ps.zip us)->Vals vs us->sp vs H Q E ->
  codeAny (model P w) A (.call (.ref f) args) (CR oU outer P w H s Q E) s
theorem qd.mono {P:Program}{w:World}{K:zF}{mg:Str->Option Value}{base:Heap}{j k:Nat}{f:Addr}{fd:FuncData}{ps:List Str}{sp:Sp}(F:qd P w K mg base j f fd ps sp) (h:j<=k):qd P w K mg base k f fd ps sp:=
 ⟨F.len,λA outer s H args us vs Q E hr=>F.run A outer s H args us vs Q E (hr.mono h)⟩
abbrev Y0 (P:Program) (w:World) (K:zF) (mg:Str->Option Value) (base:Heap) (N:List Str) (qual:Str) (scope:Scope) (f:Addr) (cd:Value) (A:Around) (outer:List Env) (s:Shared) (H:Hp) (E:XK):Cx:=
 { oM oU P w K mg base N qual scope f cd A outer s H E with cool:=false,xe:=λ_ _=>False }
section
variable {P:Program}{w:World}{K:zF}{mg:Str->Option Value}{base:Heap}
theorem Cm {cd:Value}{A:Around}{outer:List Env}{s1:Shared}{E:XK}
  (S:aU N ps scope) (hd:HD A H) (e0:uV P w K mg base A outer s H) (hl:vs.length=ps.length) (r:Vals vs us)
  (x:InCallC s s.heap.objs.size (bindL (envOfC qual scope s.heap.objs.size f cd).kindOf (ps.zip us) λ_=>none) (cellsFrom (s.heap.objs.size+1) scope.names []) (bindC (envOfC qual scope s.heap.objs.size f cd).kindOf (ps.zip us) λ_=>none) s1) :
  Inv (Y0 P w K mg base N qual scope f cd A outer s H E) [] (start N vs) H s1:=by
 have e1:uV P w K mg base { A with handled:=none } outer s H:=⟨e0.frames,e0.mod,e0.bs,e0.bsz,e0.mK,e0.frf,e0.hok,e0.bare⟩;have J:Inv (oM oU P w K mg base N qual scope f cd { A with handled:=none } outer s H E) [] (start N vs) H s1:=vK S rfl e1 hl r x;exact ⟨⟨J.ok.mod,J.ok.kind,J.ok.glob,J.ok.blt,J.ok.above,J.ok.inj,J.ok.has,J.ok.cab,λ_=>hd,J.ok.frames,J.ok.stk,J.ok.exf,J.ok.bs,J.ok.bsz,J.ok.noex,J.ok.exfs,J.ok.mK,J.ok.frf,(λz=>Bool.noConfusion z)⟩,J.os,J.bare,J.base,J.loc,J.cell,J.free,J.freeC,J.pin,J.hok,J.len⟩
theorem Ud {k:Nat}{name:Str}{params:Arguments}{body:List Stmt}{dV kV doc pm cdv ct oc:Value}{an od:Option Addr}
  {osl:Array (Option Value)}(lk:K.lookup f=some ⟨oc,od,.func (PySem.W.fnOf name qual params body scope dV kV doc pm an cdv ct),osl⟩) (hcd:PySem.W.codeIn K cdv qual=true) (S:aU N ps scope)
  (len:∀vs H Q E,sp vs H Q E->vs.length=ps.length)
  (hbody:∀(A:Around) (outer:List Env) (s:Shared) (H:Hp) (vs:List V) (Q:VK) (E:XK),eV k (A.deeper (envOfC qual scope s.heap.objs.size f cdv))->sp vs H Q E ->
   ∃t,rW (Y0 P w K mg base N qual scope f cdv A outer s H E) body t/\t { nx:=λ_ H'=>Q .non H',rt:=Q } (start N vs) H) :
  qd P w K mg base (k+1) f (PySem.W.fnOf name qual params body scope dV kV doc pm an cdv ct) ps sp:=by
 refine ⟨len,λA outer s H args us vs Q E hr hd e0 hb r hsp=>?_⟩;have hl:=len _ _ _ _ hsp;have KX:K.In s.heap:=e0.mod.kin.keeps λb o e=>(e0.bs b o e).1;have lim:s.heap.NoLimit:=e0.mod.nolimit.keeps λb o e=>(e0.bs b o e).1;have hkind:∀y∈ps.zip us,scope.names.lookup y.1=some .local∨(scope.names.lookup y.1=some .cell/\((cellsFrom (s.heap.objs.size+1) scope.names []).lookup y.1).isSome=true):=λ⟨n,v⟩ hy=>by
  rcases S.par n (List.of_mem_zip hy).1 with q | q
  ·exact .inl q
  ·exact .inr ⟨q,PySem.W.cellsFrom_some _ _ _ (.inl q)⟩
 refine codeAny_call_function hr.depth (KX _ _ lk) rfl S.co S.gen rfl (PySem.W.codeRec_of KX hcd) (hb _ _ _ _ ?_);refine wpAny_newFunctionEnv_cells S.kind hkind λenv he s1 x=>?_;subst he;refine ⟨lim.keeps x.toInCall.keep,codeAny_func ?_⟩;obtain ⟨t,ht,hq⟩:=hbody A outer s H vs Q E (hr.deeper _) hsp;have I:Inv (Y0 P w K mg base N qual scope f cdv A outer s H E) [] (start N vs) H s1:=Cm S hd e0 hl r x;refine zBK (ht [] s1 (start N vs) H _ I hq) (λfl s' hs=>?_) λe s' hs=>hs.elim;have fin:∀{σ':St}{H':Hp}{v:V}{u:Value},Inv (Y0 P w K mg base N qual scope f cdv A outer s H E) [] σ' H' s'->RelV v u->Q v H'->CE outer P w H s Q u s':=
  λ{σ' H' v u} J rv q=>⟨v,H',J.os,J.bare,J.base,J.hok,rv,q⟩
 cases fl with
 |ret u=>
  obtain ⟨v,σ',H',J,rv,q⟩:=hs;exact fin J rv q
 |next=>
  obtain ⟨σ',H',J,q⟩:=hs;exact fin (v:=V.non) (u:=Value.none) J rfl q
 |brk=>
  obtain ⟨_,_,_,q⟩:=hs;exact False.elim q
 |cont=>
  obtain ⟨_,_,_,q⟩:=hs;exact False.elim q
end
section
variable {k:Nat}{x:Str}{p:Pos}
theorem Inv.hdH (I:Inv X pins σ H s) (hc:X.calm=true):HD X.A H:=(I.ok.hd hc).mono λb o u q=>I.base.frzs b o u q
theorem JQ (F:qd X.prog X.w X.K X.mg X.base k f fd ps sp) (hc:X.calm=true) (hr:eV k X.A) (hg:Gl X x) (hm:X.mg x=some (.ref f)) (hk:PySem.W.keepIn X.K (.ref f)=true) (hb:Binds X.K fd ps [])
  (ha:PA X (e::es) t) (hdb:(x==("__debug__" : Str))=false:=by decide) (he:starEach (e::es) X.env=(false,eval e X.env)::starEach es X.env:=by rfl) (hpl:(backTo pos (starEach es X.env)).any (·.1)=false:=by rfl) :
  PE X (.Call (.Name x p) (e::es) [] pos) (Fo sp [] E0 t):=by
 intro pins s σ H Q I h;refine zBt (lq I hg hm ?_ hdb);refine PySem.W.callWith_K (h₀:=X.base) I.ok.mod.kin hk (cR (ha pos pins s σ H _ I h) λus s1 ⟨vs,H1,I1,r,q⟩=>⟨I1.jo,?_⟩) he hpl;have q:sp (vs++[]) H1 Q E0:=q;rw [zAO] at q;have hl:(us++[]).length=ps.length:=by rw [zAO,<-r.length];exact F.len _ _ _ _ q
 have bt:=hb s1 us I1.jo hl;rw [zAO] at bt;refine zCj (codeAny_mono (F.run X.A X.stack s1 H1 ⟨us,[]⟩ us vs Q E0 hr (I1.hdH hc) I1.env0 bt r q) λr s' hq=>?_);cases r with
 |error e=>exact False.elim hq
 |ok fl=>
  cases fl with
  |ret u=>exact I1.after hq
  |next=>exact False.elim hq
  |brk=>exact False.elim hq
  |cont=>exact False.elim hq
end
end L2
namespace Y
open PySem L2
open Z (fG dI aZ dM bJ eZ cV bG lim cM bM)
variable {X:Cx}{fa:FA}{F:FF}
section
variable {K:zF}{P:Program}{w:World}{mg:Str->Option Value}{base:Heap}
theorem Kf {en:En}(eo:Iu en) {x qual:Str}{st:Stmt}{f:Addr}{fd:FuncData}{N ps:List Str}{k:Nat}{b:FS}(F:lV K x qual st f fd) (Sc:aU N ps (aK st))
  (hb:∀(cdv:Value) (A:Around) (outer:List Env) (s:Shared) (H:Hp) (E:XK),eV k (A.deeper (PyProof.Rows.envOfC qual (aK st) s.heap.objs.size f cdv))->Ig (Y0 P w K mg base N qual (aK st) f cdv A outer s H E) (iK st) b) :
  qd P w K mg base (k+1) f fd ps (uO K (g_ en ps.length N.length b)):=by
 obtain ⟨oc,od,kV,doc,pm,an,cdv,ct,osl,rfl,lk,hcd⟩:=F.ex;refine Ud lk hcd Sc (λvs H Q E h=>?_) λA outer s H vs Q E hr h=>?_
 ·obtain ⟨as,S,m,r,W,y,S',e,q⟩:=h;unfold g_ at e;split at e
  ·rename_i hl;rw [r.length];exact hl
  ·cases e
 ·obtain ⟨as,S,m,r,W,y,S',e,q⟩:=h;unfold g_ at e;split at e
  ·rename_i hl;obtain ⟨c,S1,e1,e⟩:=okN e;refine ⟨_,hb cdv A outer s H E hr,_,S,m,RS.begin r N _ hl,W,?_⟩;rw [e1];cases c with
   |rt z=>
    refine λv H' m' x' w' r'=>?_;obtain ⟨l,rfl⟩:=x'.ex;obtain ⟨m2,x2,w2,r2⟩:=eo.ok W x' w' r' e;exact q v H' m2 x2 w2 r2
   |nx ρ1=>
    refine λσ' H' m' x' R' w'=>?_;obtain ⟨l,rfl⟩:=x'.ex;obtain ⟨m2,x2,w2,r2⟩:=eo.ok W x' w' k_ e;exact q .non H' m2 x2 w2 r2
   |bk _=>cases e
   |ct _=>cases e
  ·cases e
end
section
variable {e o:Expr}{es:List Expr}{f:FE}{pos p apos:Pos}
theorem zX {x:Str}{k:Nat}{g:Addr}{fd:FuncData}{ps:List Str}(G:qd X.prog X.w X.K X.mg X.base k g fd ps (uO X.K F)) (hc:X.calm=true) (hr:eV k X.A) (hg:Gl X x) (hm:X.mg x=some (.ref g)) (hk:PySem.W.keepIn X.K (.ref g)=true) (hb:Binds X.K fd ps [])
  (ha:QA X (e::es) fa) (hdb:(x==("__debug__" : Str))=false:=by decide) (he:starEach (e::es) X.env=(false,eval e X.env)::starEach es X.env:=by rfl) (hpl:(backTo pos (starEach es X.env)).any (·.1)=false:=by rfl) :
  QE X (.Call (.Name x p) (e::es) [] pos) (aW F fa):=lM (JQ G hc hr hg hm hk hb ha hdb he hpl) (call_of (E:=E0))
end
theorem RS.unset {K:zF}{m:List Addr}{H:Hp}{σ:L2.St}{ρ:dH}(h:RS K m H σ ρ) (i:Nat):RS K m H (σ.set i none) (ρ.set i none):=by
 refine ⟨by rw [zBa,zBa];exact h.len,λj y q=>?_⟩;by_cases e:i=j
 ·subst e;by_cases hi:i < ρ.length
  ·rw [zAR hi] at q;cases q
  ·rw [zCg (by rw [zBa];omega)] at q;cases q
 ·rw [zAY e] at q;rw [zAY e];exact h.at_ j y q
def Mu (i:Nat):uP->uP
 |.nx r=>.nx (r.set i none)
 |.rt v=>.rt v
 |.bk r=>.bk (r.set i none)
 |.ct r=>.ct (r.set i none)
theorem Out.gone {K:zF}{m:List Addr}{H:Hp}{D:Ends}{i:Nat}{c:uP}{S:aM}(h:Out K m H D (Mu i c) S):Out K m H (D.gone i) c S:=by
 cases c with
 |nx r=>exact λσ' H' m' x r w=>h _ H' m' x (r.unset i) w
 |rt v=>exact λv H' m' x w r=>h v H' m' x w r
 |bk r=>exact λσ' H' m' x r w=>h _ H' m' x (r.unset i) w
 |ct r=>exact λσ' H' m' x r w=>h _ H' m' x (r.unset i) w
def mD (isD:Addr->Bool) (Cw:Addr) (i:Nat) (st:dH->A->dH) (F:FF) (fa:FA) (fs:FS):FS:=λρ S=>(fa ρ S).cJ λas S1=>match F (.p S1.length::as) (S1++[.ins Cw []]) with
 |.ok z S2=>match z with
  |.d .non=>.ok (.nx (st ρ (.p S1.length))) S2
  |_=>.no
 |.ex e S2=>if isD e.C=true then (fs (ρ.set i (some (.p S2.length))) (S2++[.exc e.C e.fs])).cJ λc S3=>.ok (Mu i c) S3 else .no
 |.no=>.no
section
variable {D Cw:Addr}{i:Nat}{fs:FS}{isD:Addr->Bool}{st:dH->A->dH}{stv:L2.St->V->L2.St}
theorem Um (hD:∀C0,isD C0=true->∃ns ini,kh X.K C0 ns ini/\BP X.K C0 D) (hst:∀{m:List Addr}{H:Hp}{σ:L2.St}{ρ:dH}{x:A}{v:V},RS X.K m H σ ρ->RA X.K m H x v->RS X.K m H (stv σ v) (st ρ x)) :
  ∀De σ H,Ml X (mD isD Cw i st F fa fs) De σ H->Mg X D Cw i (λDe σ y H2=>De.nx (stv σ y) H2) (Ia X.K F) (TQ X.yE fa) (λa oe=>Ml (X.su a oe) fs) De σ H:=by
 rintro De σ H ⟨ρ,S,m,Rr,W,q⟩;obtain ⟨as,S1,efa,q⟩:=q.cJ;refine ⟨ρ,S,m,Rr,W,?_⟩;rw [efa];refine λvs H1 m1 x1 w1 r1 y dy hy hdy hne=>?_;have hx2:upd H1 dy (.own y) y=none:=by rw [aA (Ne.symm hne)];exact hy
 have xa:Xt m1 H1 m1 (upd H1 dy (.own y)):=Xt.new hdy;have wa:=w1.new (o:=.own y) hdy;have xb:Xt m1 (upd H1 dy (.own y)) (m1++[y]) (upd (upd H1 dy (.own y)) y (.ins Cw dy [])):=Xt.rG hx2;have wb:Wd X.K (m1++[y]) (S1++[.ins Cw []]) (upd (upd H1 dy (.own y)) y (.ins Cw dy [])):=wa.push hx2 ⟨dy,[],aJ,.nil⟩;have rx:RA X.K (m1++[y]) (upd (upd H1 dy (.own y)) y (.ins Cw dy [])) (.p S1.length) (.ref y):=gF w1;have x2:=x1.trans (xa.trans xb);refine ⟨.p S1.length::as,S1++[.ins Cw []],m1++[y],bf.cons rx (r1.ext (xa.trans xb)),wb,?_⟩;cases hr:F (.p S1.length::as) (S1++[.ins Cw []]) with
 |no=>rw [hr] at q;exact q.elim
 |ok z S2=>
  rw [hr] at q;refine λv H3 m3 x3 w3 r3=>?_;have q':Res X m H (match z with | .d .non=>.ok (.nx (st ρ (.p S1.length))) S2 | _=>.no) (Out X.K m H De):=q;split at q'
  ·exact ⟨QB r3,q' _ H3 m3 (x2.trans x3) (hst (Rr.ext (x2.trans x3)) (rx.ext x3)) w3⟩
  ·exact q'.elim
 |ex e S2=>
  rw [hr] at q;refine λC dd H3 m3 x3 w3 er=>?_;have q':Res X m H (if isD e.C=true then (fs (ρ.set i (some (.p S2.length))) (S2++[.exc e.C e.fs])).cJ λc S3=>.ok (Mu i c) S3 else .no) (Out X.K m H De):=q;split at q'
  ·rename_i hd;obtain ⟨ns,ini,xc,xs⟩:=hD _ hd;refine ⟨e.C,ns,ini,er.1,xc,xs,λa oe ha cg=>?_⟩;obtain ⟨c,S4,efs,q'⟩:=q'.cJ;obtain ⟨vs',hdat,hv2⟩:=cg.data;have xc4:Xt m3 H3 (m3++[a]) (upd H3 a (uU a oe)):=Xt.rG ha;have x4:=(x2.trans x3).trans xc4;have w4:Wd X.K (m3++[a]) (S2++[.exc e.C e.fs]) (upd H3 a (uU a oe)):=w3.push ha ⟨oe,_,vs',aJ,⟨cg.cls,hdat,hv2⟩,er.2.imp (λz=>⟨z.1,cg.dict.trans z.2⟩) λ⟨d,ws,p1,p2,p3⟩=>⟨d,ws,cg.dict.trans p1,bG ha _ _ p2,RK.sub xW (bG ha) p3⟩⟩;refine ⟨ρ.set i (some (.p S2.length)),S2++[.exc e.C e.fs],m3++[a],(Rr.ext x4).set (gF w3),w4,?_⟩;rw [efs];exact (Out.step x4 q').gone
  ·exact q'.elim
end
end Y
namespace L2
open PySem PySem.Spec PyProof.Rows
section
variable {X:Cx}{ns:List Str}{f:Str}{e:Expr}{ta:TE}{pos:Pos}
def X8 (K:zF) (ns:List Str) (ta:TE) (f:Str):TE:=λσ H Q=>ta σ H λx H1=>∃a oe u C vs d ws v ini,x=.ref a/\H1 a=some (.frz oe u)/\oe.cls=.ref C/\oe.data=.fields vs/\oe.dict=some d/\H1 d=some (.xd ws)/\kh K C ns ini/\ws.lookup f=some v/\Q v H1
theorem Qc (hB:typeLookup (.type "ValueError") f=pure none) (hf:f∈ns) (h1:("__getattribute__" : Str)∈ns) (h2:("__getattr__" : Str)∈ns) (he:PE X e ta) (hb:attributeBase e f X.env (eval e X.env)=eval e X.env):PE X (.Attribute e f pos) (X8 X.K ns ta f):=by
 intro pins s σ H Q I h;refine DP hb (cR (he pins s σ H _ I h) λu s1 ⟨x,H1,I1,rx,a,oe,u0,C,vs,d,ws,v,ini,ex,ea,hc,hd,hdx,ed,c,l,q⟩=>?_);subst ex;obtain rfl:u=Value.ref a:=rx;obtain ⟨nm,qn,N,bs,bm,sn,sub,ab,col,dd,k0,k1,k2,k3,k5,lk,fr⟩:=c.cl;obtain ⟨⟨mN,hN,hno,_⟩,T⟩:=fr _ I1.jo;have ho:=(show bw X.prog X.w H1 s1.heap a (.frz oe u0) from I1.hok a _ ea).1;obtain ⟨mA,hns,hrel⟩:=(show bw X.prog X.w H1 s1.heap d (.xd ws) from I1.hok d _ ed);obtain ⟨u',hu,ru⟩:=oE.some_of (v:=v) (o:=mA f) (by rw [<-l];exact hrel f);obtain ⟨hp,gn,dr,tk,os⟩:=s1;exact XE.Mz F.attrBase_ValueError T (zAf _ hf) (zAf _ h1) (zAf _ h2) (I1.jo _ _ lk) hN (hno _ hf) (hno _ h1) (hno _ h2) hB ho hc (λc z=>by rw [hd] at z;cases z) hdx hns.ns hu (PySem.W.handedOut_of (vW ru)) ⟨v,H1,I1.tok _,ru,q⟩
end
end L2
namespace Y
open PySem L2
open Z (fG dI aZ dM bJ eZ cV bG lim cM bM)
variable {X:Cx}{pos:Pos}
section
variable {ns:List Str}{n:Str}{o:Expr}{f:FE}{C:Addr}{ini:Option Addr}
def vJ (C:Addr) (n:Str):O1:=λx S=>match x with
 |.p k=>match S[k]? with
  |some (.exc D fs)=>if D=C then opt (fs.lookup n) S else .no
  |_=>.no
 |_=>.no
theorem Q8 (c:kh X.K C ns ini) (hB:typeLookup (.type "ValueError") n=pure none) (hf:n∈ns) (h1:("__getattribute__" : Str)∈ns) (h2:("__getattr__" : Str)∈ns) (he:QE X o f) (hb:attributeBase o n X.env (eval o X.env)=eval o X.env:=by rfl) :
  QE X (.Attribute o n pos) (un (vJ C n) f):=lM (Qc hB hf h1 h2 he hb) λσ H Q q=>by
 obtain ⟨ρ,S,m,Rr,W,q⟩:=q;refine ⟨ρ,S,m,Rr,W,q.bind.imp λx S1 q v H1 m1 x1 w1 r1=>?_⟩;unfold vJ at q;split at q
 ·rename_i k;obtain ⟨a,ha,rfl⟩:=RA.fH.mp r1;split at q
  ·rename_i D fs hc;split at q
   ·rename_i hD;have q2:=q;subst hD;obtain ⟨oe,u,vs,e1,⟨e2,e3,_⟩,e4⟩:=w1.cell k a _ ha hc;obtain ⟨y,hy,q2⟩:=q2.opt;rcases e4 with ⟨rfl,_⟩ | ⟨d,ws,p1,p2,p3⟩
    ·cases hy
    ·have hl:=p3.lookup (n:=n);rw [hy] at hl;obtain ⟨w,hw,rw'⟩:=hl;exact ⟨a,oe,u,D,vs,d,ws,w,ini,rfl,e1,e2,e3,p1,dM _ _ p2,c,hw,q2 w H1 m1 x1 w1 rw'⟩
   ·exact q.elim
  ·exact q.elim
 ·exact q.elim
end
section
variable {D Cw g:Addr}{ns':List Str}{ini':Option Addr}{cn nm x wn:Str}{cp hpos p xp cpos apos:Pos}{b0:Stmt}{suite:List Stmt}{i j k:Nat}{fd:FuncData}{ps:List Str}{F:FF}{e:Expr}{es:List Expr}{fa:FA}{fs:FS}{isD:Addr->Bool}
theorem Ht (hN:X.N.Nodup) (hi:X.N[i]?=some nm) (hk:X.env.scope.names.lookup nm=some .local) (hst:X.stack=X.env::X.outer) (hfr:X.env.frame=some X.env.locals)
  (hg:Gl X cn) (hm:X.mg cn=some (.ref D)) (c':kh X.K D ns' ini') (hD:∀C0,isD C0=true->∃ns ini,kh X.K C0 ns ini/\BP X.K C0 D) (hs:∀a oe,Ig (X.su a oe) (b0::suite) fs)
  (M:Mk X.K Cw g) (G:cZ X.prog X.w X.K X.mg X.base (Ar X.prog X.w) k g fd ps (Ia X.K F)) (hr:dj (k+1) X.A) (hgw:Gl X wn) (hmw:X.mg wn=some (.ref Cw)) (hb:Binds X.K fd ps []) (ha:QA X.yE (e::es) fa)
  (hdb:(cn==("__debug__" : Str))=false:=by decide) (hdw:(wn==("__debug__" : Str))=false:=by decide) (he:starEach (e::es) X.env=(false,eval e X.env)::starEach es X.env:=by rfl) (hpl:(backTo cpos (starEach es X.env)).any (·.1)=false:=by rfl)
  (hsw:swapsWith (.Call (.Name wn p) (e::es) [] cpos) none apos.line X.env=pure false:=by rfl) :
  QS X (.Try [.Expr (.Call (.Name wn p) (e::es) [] cpos) apos] [.ExceptHandler (some (.Name cn cp)) (some nm) (b0::suite) hpos] [] [] pos) (mD isD Cw i (λρ _=>ρ) F fa fs):=
 CJ (Ga hN hi hk hst hfr hg hm c' hs M G hr hgw hmw hb ha hdb hdw he hpl hsw) (Um (stv:=λσ _=>σ) hD λRr _=>Rr)
end
end Y
namespace L2
open PySem PySem.Spec PyProof.Rows
abbrev aaC (K:zF):List V->Hp->VK->Prop:=λxs H Q=>∃p ys,xs=[.ref p]/\(cB K H p ys∨iG K H p ys)/\∀l,H l=none->Q (.ref l) (upd H l (.lst ys))
def u6 (K:zF) (C:Addr) (f:Str):Sp:=λvs H Q _=>∃a l xs,vs=[.ref a,.ref l]/\H a=some (.ext (XO a C none))/\(cB K H l xs∨iG K H l xs) /\
 ∀r d,H r=none->upd H r (.lst xs) d=none->Q .non (upd (upd (upd H r (.lst xs)) a (.ext (XO a C (some d)))) d (.xd [(f,.ref r)]))
section
variable {P:Program}{w:World}{K:zF}{mg:Str->Option Value}{base:Heap}
theorem W0 {x qual:Str}{st:Stmt}{g C:Addr}{fd:FuncData}{N ps:List Str}{k:Nat}{ns:List Str}{f:Str}{ini:Option Addr}(F:lV K x qual st g fd) (Sc:aU N ps (aK st)) (hps:ps.length=2) (c:kh K C ns ini) (hf:f∈ns) (hsa:("__setattr__" : Str)∈ns)
  (hb:∀(cdv:Value) (A:Around) (outer:List Env) (s:Shared) (H:Hp) (E:XK),dj k (A.deeper (envOfC qual (aK st) s.heap.objs.size g cdv)) ->
   rW (oM oU P w K mg base N qual (aK st) g cdv A outer s H E).yE (iK st) (Rv K ns (Ld 0) (Xn (aaC K) (qN (Ld 1) Gq)) f)) :
  cZ P w K mg base oU (k+1) g fd ps (u6 K C f):=by
 refine F.ok Sc (λvs H Q E h=>?_) λcdv A outer s H vs Q E hr h=>?_
 ·obtain ⟨a,l,xs,rfl,_⟩:=h;exact hps.symm
 ·obtain ⟨a,l,xs,rfl,ha,hl,q⟩:=h;refine ⟨_,hb cdv A outer s H E hr,.ref l,rfl,l,xs,rfl,hl,λr hr'=>⟨.ref a,rfl,a,C,ini,rfl,?_,c,hf,hsa,λd hd=>q r d hr' hd⟩⟩;rw [aA (aO ha hr')];exact ha
end
end L2
namespace Y
open PySem L2
open Z (fG dI aZ dM bJ eZ cV bG lim cM bM)
section
variable {X:Cx}{C g:Addr}{k:Nat}{fd:FuncData}{ps:List Str}{x n:Str}{p pos pos':Pos}{e:Expr}{f:FE}{ns:List Str}
def nA (C:Addr) (n:Str) (f:FE):FS:=λρ S=>(f ρ S).bind λy S=>match y.sh S with
 |some (.lst ds)=>.ex ⟨C,[(n,.d (.lst ds))]⟩ S
 |some (.tup ds)=>.ex ⟨C,[(n,.d (.lst ds))]⟩ S
 |_=>.no
theorem JT {H:Hp}{r a d:Addr}{o:HO}{φ ψ:Heap->Prop}{u:HO}(ha:H a=none) (hr:r≠a) (hd:d≠a):del (upd (upd (upd (upd H a (.ext φ)) r o) a (.ext ψ)) d u) a=upd (upd H r o) d u:=by
 funext b;by_cases z:b=a
 ·subst z;rw [j4,aA (Ne.symm hd),aA (Ne.symm hr),ha]
 ·rw [jP z];by_cases z2:b=d
  ·subst z2;rw [aJ,aJ]
  ·rw [aA z2,aA z2,aA z];by_cases z3:b=r
   ·subst z3;rw [aJ,aJ]
   ·rw [aA z3,aA z3,aA z]
theorem I9:∀De σ H,Ml X (nA C n f) De σ H->xG X C (Za X C (u6 X.K C n) (qN (tF X f) Gq)) De σ H:=by
 rintro De σ H ⟨ρ,S,m,Rr,W,q⟩;refine ⟨ρ,S,m,Rr,W,q.bind.imp λy S1 q v H1 m1 x1 w1 r1=>⟨by show 1<=100;decide,λa ha hy hpn=>?_⟩⟩;have key:∀(ds:List D) (l:Addr) (xs:List V),v=.ref l->(cB X.K H1 l xs∨iG X.K H1 l xs)->aD X.K (fG m1 H1) ds xs->Gh X m H ⟨C,[(n,.d (.lst ds))]⟩ S1 ->
   u6 X.K C n [.ref a,v] (upd H1 a (.ext (XO a C none))) (λv H2=>v=.non/\∃b dd,V.ref a=.ref b/\X.s₀.heap.objs.size<=b/\(∀p∈X.pn,p.1≠b)/\H2 b=some (.ext (XO b C dd))/\XW X (.ref C) dd (del H2 b)) E0:=by
  intro ds l xs ev hl rp wi;subst ev;have up:∀b o,H1 b=some o->upd H1 a (.ext (XO a C none)) b=some o:=λb o q=>by rw [aA λz=>by rw [z,ha] at q;cases q];exact q
  refine ⟨a,l,xs,rfl,aJ,hl.imp (λz=>Same.seq up z) λz=>Same.tup up z,λr d hr hd=>?_⟩;have nra:r≠a:=λz=>by rw [z,aJ] at hr;cases hr
  have nda:d≠a:=λz=>by rw [z,aA (Ne.symm nra),aJ] at hd;cases hd
  have nrd:d≠r:=λz=>by rw [z,aJ] at hd;cases hd
  have hr1:H1 r=none:=by rwa [aA nra] at hr
  have hd1:H1 d=none:=by rwa [aA nrd,aA nda] at hd
  refine ⟨rfl,a,some d,rfl,hy,hpn,by rw [aA (Ne.symm nda),aJ],?_⟩;rw [JT ha nra nda];have hd2:upd H1 r (.lst xs) d=none:=by rw [aA nrd];exact hd1
  have xa:Xt m1 H1 m1 (upd H1 r (.lst xs)):=Xt.new hr1;have xb:Xt m1 (upd H1 r (.lst xs)) m1 (upd (upd H1 r (.lst xs)) d (.xd [(n,.ref r)])):=Xt.new hd2;have wb:=(w1.new (o:=.lst xs) hr1).new (o:=.xd [(n,.ref r)]) hd2;refine wi _ _ _ m1 (x1.trans (xa.trans xb)) wb ⟨rfl,.inr ⟨d,[(n,.ref r)],rfl,?_,.cons (a:=(n,A.d (D.lst ds))) (b:=(n,V.ref r)) ⟨rfl,(rM w1 hr1 rp).ext xb⟩ .nil⟩⟩;rw [aZ ((w1.new (o:=.lst xs) hr1).za hd2)];exact aJ
 show u6 X.K C n ([.ref a,v]) _ _ E0;split at q
 ·rename_i ds hs;obtain ⟨l,xs,ev,h1,h2⟩:=jO w1 r1 hs;exact key ds l xs ev (.inl h1) h2 q
 ·rename_i ds hs;obtain ⟨_,l,xs,ev,h1,h2⟩:=Lb r1 hs;exact key ds l xs ev (.inr h1) h2 q
 ·exact q.elim
theorem Hy (c:kh X.K C ns (some g)) (hfn:PySem.W.isFn X.K (.ref g)=true) (G:cZ X.prog X.w X.K X.mg X.base oU k g fd ps (u6 X.K C n)) (hh:X.A.handled=none) (hr:dj (k+1) X.A) (hg:Gl X x) (hm:X.mg x=some (.ref C)) (hb:Binds X.K fd ps []) (he:QE X e f)
  (hst:noStar e=true:=by rfl) (hdb:(x==("__debug__" : Str))=false:=by decide) (hs:starEach [e] X.env=(false,eval e X.env)::starEach [] X.env:=by rfl) (hpl:(backTo pos (starEach [] X.env)).any (·.1)=false:=by rfl) :
  QS X (.Raise (some (.Call (.Name x p) [e] [] pos)) none pos') (nA C n f):=CJ (p8 c hh (T7 c hfn G hr hg hm hb (Am he fC hst) hdb hs hpl)) I9
end
end Y
namespace XH
open PySem PySem.Spec PyProof.Rows
variable {prog:Program}{w:World}{E:zV}{s:Shared}
structure Et (h h':Heap) (e:Addr) (o:Value) (name:Str):Prop where
 keeps:∀b ob,h.get? b=some ob->h'.get? b=some ob
 there:∃t c u,h'.get? e=some { cls:=.type "AttributeError", data:=.fields #[t,.none,c,.none,.bool false,.none,.str name u,o] }
section
variable {α:Type}{A:Around}
theorem Bk {o:Value}{name msg:Str}{Q:α->Shared->Prop}(hh:cY A [] s.heap)
  (h:∀h' tk e,Et s.heap h' e o name->E (.ref e) { s with heap:=h',toks:=tk }) (hm:msg.length<=sizeLine) :
  wpAny (model prog w) A (raiseAttrError o name msg:Sem α) Q E s:=by
 unfold raiseAttrError;refine zAa (wpAny_mkStr (zAa ?_) hm);unfold newExc newTuple;refine zAa (zBl ?_ (by size_fits));refine zAa (m:=firstArgMember _ _) (wpAny_of_eq (a:=Value.none) (by simp only [firstArgMember,attrError_no_first];rfl) ?_);rw [ownMembersOf_AttributeError];refine zBl ?_ (by size_fits);obtain ⟨hp,g,d,tk,os⟩:=s;have f1:=sub_AttributeError;repeat (any_goals (first | assumption | wp_step))
 have ne:∀h,A.handled=some (.ref h)->h≠hp.objs.size+1:=by
  intro h e1 z;rcases hh with hh | ⟨a,oh,vs,h1,hh,hdh,hc,_⟩
  ·rw [hh] at e1;cases e1
  ·rw [h1] at e1;cases e1
   have:=zAe hh;have z':h=hp.objs.size+1:=z;rw [z'] at this;exact zAJ _ (Nat.lt_of_succ_lt this)
 dsimp only;have kp:∀(x y:Obj) (f:Obj->Obj) b ob,hp.get? b=some ob->(((hp.push x).push y).update (hp.push x).objs.size f).get? b=some ob:=λx y f b ob hb=>by
  have hlt:b < hp.objs.size:=zAe hb;refine (zAt _ _ ?_).trans (zAb _ (zAb _ hb));simp only [zAF];exact zBu (zAX hlt)
 refine vo (fp:=[]) (hh.keep λb ob _ hb=>kp _ _ _ b ob hb) (zAD _ (zAp _ rfl) rfl) rfl (by simp [Array.size_setIfInBounds]) (λh e1=>by simpa using ne h e1) (h _ _ _ ⟨λb ob hb=>kp _ _ _ b ob hb,⟨_,_,_,zAD _ (zAp _ rfl) rfl⟩⟩) λh0=>h _ _ _ ⟨λb ob hb=>?_,⟨_,_,_,zAD _ (zAD _ (zAp _ rfl) rfl) rfl⟩⟩;have hlt:b < hp.objs.size:=zAe hb;refine (zAt _ _ ?_).trans (kp _ _ _ b ob hb);simp only [zAF];exact zBu (zAX hlt)
end
theorem rH (a:Addr) (xs:Array Value) (k:Nat) (sl:Array (Option Value)) (name:Str) (u:Tok) (hmiss:typeLookup (.type "list") name=pure none) (hname:(["__module__", "__name__", "__qualname__", "__doc__", "__annotations__"]:List Str).contains name=false) (hsz:name.length+100<=sizeLine:=by size_fits) :
  Meets (Builtin.«object.__getattribute__» ⟨[.ref a,.str name u],[]⟩) (λA R s=>s.heap.get? a=some { cls:=.type "list", dict:=none,data:=.seq xs k,slots:=sl }/\cY A [] s.heap/\∀h' tk e,Et s.heap h' e (.ref a) name->R (.error (.ref e)) { s with heap:=h',toks:=tk }):=
 Meets.of_wp λprog w A R s hs=>by
  obtain ⟨hp,g,d,tk,os⟩:=s;obtain ⟨hx,hs⟩:=hs;have hT:(⟨hp,g,d,tk,os⟩:Shared).TypeIs (.ref a) "list" := ⟨_,hx,rfl⟩;unfold Builtin.«object.__getattribute__»;repeat (any_goals (first | assumption | wp_step))
  simp only [hname,zAz,if_false];repeat (any_goals (first | assumption | wp_step))
  exact Bk hs.1 hs.2 (attrMsg_fits (by decide +kernel) hsz)
theorem QX:typeLookup (.type "list") "keys" = pure none:=by rw [typeLookup_type,builtinLookup_eq_fast];kernel_rfl
theorem Hu {A:Around}{a:Addr}{xs:Array Value}{n:Nat}{Q:Option Value->Shared->Prop}{sl:Array (Option Value)}(hx:s.heap.get? a=some { cls:=.type "list", dict:=none,data:=.seq xs n,slots:=sl }) (hA:cY A [] s.heap)
  (hq:∀h' tk,(∀b ob,s.heap.get? b=some ob->h'.get? b=some ob)->Q none { s with heap:=h',toks:=tk }):wpAny (model prog w) A (getAttr? (.ref a) "keys") Q E s:=by
 obtain ⟨hp,g,d,tk,os⟩:=s;have tt:∀tk',(⟨hp,g,d,tk',os⟩:Shared).TypeIs (.ref a) "list" := λ_=>⟨_,hx,rfl⟩;have q1:=sub_AttributeError;have q3:=F.slot_list_getattribute.lookup;have q4:=F.slot_list_getattribute.bind (.ref a);have q5:=am_list_getattr_none;unfold getAttr? getAttrBy? getAttrBy;repeat (any_goals (first | assumption | exact tt _ | ((with_reducible show wpAny _ _ (call (Value.builtin "list.__getattribute__") _ _) _ _ _);refine call_meets F.slot_list_getattribute (tt _) am_entry_list_getattribute (F.args_list_getattribute_2 _ _) (rH a xs n sl "keys" _ QX (by decide +kernel) (by decide +kernel)) ⟨hx,hA,λh' tk' e hx'=>?_⟩) | wp_step))
 obtain ⟨t1,c1,u1,he⟩:=hx'.there;change wpAny _ _ (getattributeRaised _ _ _ _ _ _ _) _ _ _;unfold getattributeRaised;repeat (any_goals (first | assumption | wp_step))
 exact hq _ _ hx'.keeps
end XH
namespace YD
open PySem PySem.Spec PyProof.Rows L2
variable {sl:Array (Option Value)}{kvs:List (Key×Value)}
section
variable {prog:Program}{w:World}{A:Around}{E:zV}{s:Shared}{a:Addr}{o:Obj}
theorem ur:entryFor table "dict.update.loop" = some Builtin.«dict.update.loop»:=entryFor_of_fast (by kernel_rfl)
theorem kJ:plainId "dict.update.loop" = true:=by decide +kernel
def Ux (kvs:List (Key×Value)):List (Key×Value):=kvs.foldl (λacc kv=>stored acc kv.1 kv.2) []
theorem N8 {t:Addr}{k v:Value}{n:Nat}{d:Option Addr}{Q:List Value->Shared->Prop}(ho:s.heap.get? t=some { cls:=.type "tuple", dict:=d,data:=.seq #[k,v] n,slots:=sl }) (h:Q [k,v] s):wpAny (model prog w) A (Builtin.Dict.pairItems (.ref t)) Q E s:=by
 have ty:s.TypeIs (.ref t) "tuple" := ⟨_,ho,rfl⟩;unfold Builtin.Dict.pairItems;refine zAa (wpAny_typeOf ty ?_);rw [if_pos (by decide)];unfold seqItems?;obtain ⟨hp,g,d',tk,os⟩:=s;repeat (any_goals (first | assumption | wp_step))
theorem Xu {R:Result->Shared->Prop}{I:Addr}{fp wr:List Addr}{G:Array GenState->Array GenState->Prop}{P:Nat->Value->Prop}{St:Nat->Shared->Prop}{h0:Heap}{res:Value}(W:WalksS prog w A.in1 I fp wr G kvs.length P St) (c:Addr) (hc:c∉fp)
  (hv:∀i v,P i v->∃t key val kv n d sl,v=.ref t/\t∉c::wr/\kvs[i]?=some (kv,val)/\(aN prog w).is kv key=true/\h0.get? t=some { cls:=.type "tuple", dict:=d,data:=.seq #[key,val] n,slots:=sl }) (hb:kvs.length<=10000):∀(k i:Nat) (s:Shared),kvs.length-i=k->i<=kvs.length->St i s->s.heap.DictOf (aN prog w) c (Ux (kvs.take i))->(∀b o,b∉c::wr->h0.get? b=some o->s.heap.get? b=some o) ->
   (∀s',Moved (c::wr) G s s'->s'.heap.DictOf (aN prog w) c (Ux kvs)->R (.ok (.ret res)) s')->codeAny (model prog w) A (.builtin "dict.update.loop" ⟨[.ref c,.ref I,rawInt i,res],[]⟩) R s:=by
 have cw:c∉wr:=λz=>hc (W.sub _ z);have sub:∀b∈wr,b∈c::wr:=λb z=>zAf _ z;have dk:∀{h h':Heap}{l:List (Key×Value)},h.DictOf (aN prog w) c l->(∀o,h.get? c=some o->h'.get? c=some o)->h'.DictOf (aN prog w) c l:=λ⟨o,es,ep,ho,r⟩ kk=>⟨o,es,ep,kk _ ho,r⟩;intro k;induction k with
 |zero=>
  intro i s hk hi st S kp hR;have e:i=kvs.length:=by omega
  subst e;refine codeAny_builtin ur ?_;rw [Around.under_plainId kJ];show wpAny _ _ (pyNext (.ref I) >>= λ_=>_) _ _ _;refine zAa <| W.done s _ _ st λs' mv=>?_;rw [zBR] at S;refine zAa (zAd ?_);exact zAd (hR s' (mv.mono sub) (dk S λo q=>mv.heap c o cw q))
 |succ k ih=>
  intro i s hk hi st S kp hR;have lt:i < kvs.length:=by omega
  refine codeAny_builtin ur ?_;rw [Around.under_plainId kJ];show wpAny _ _ (pyNext (.ref I) >>= λ_=>_) _ _ _;refine zAa <| W.item i s _ _ lt st λv s' hp st' mv=>?_;obtain ⟨t,key,val,kv,n,d,sl,rfl,ht,hx,hkey,ho⟩:=hv i v hp;have S1:=dk S λo q=>mv.heap c o cw q;have ho1:=mv.heap _ _ (λz=>ht (sub _ z)) (kp _ _ ht ho);refine zAa <| zAN <| zAa ?_;refine wpAny_tryCatch <| N8 ho1 ?_;have ln:(Ux (kvs.take i)).length<=10000:=by
   have:∀(l acc:List (Key×Value)),(l.foldl (λacc kv=>stored acc kv.1 kv.2) acc).length<=acc.length+l.length:=λl=>by
    induction l with
    |nil=>intro acc;simp
    |cons a l ih=>
     intro acc;have h1:=ih (stored acc a.1 a.2);have h2:=stored_length_le acc a.1 a.2;rw [zBq,zAv];omega
   have:=this (kvs.take i) [];rw [zAW] at this;unfold Ux;simp at this;omega
  refine zAN <| wpAny_dictSet_pairs hkey S1 (λh' S2 sb=>?_) (by rw [sizeLine_eq];omega);refine zAd ⟨plainId_quiet kJ _,ih (i+1) _ (by omega) lt (W.frame _ s' h' _ st' (zAZ _) λb hb o q=>?_) ?_ (λb o hb q=>?_) λs2 mv2 S3=>hR s2 ?_ S3⟩
  ·rw [sb.2 b λz=>hc (z▸hb)];exact q
  ·rw [zBL,hx];unfold Ux;rw [Option.toList_some,List.foldl_append];exact S2
  ·show h'.get? b=some o;rw [sb.2 b λz=>hb (z▸zAm)];exact mv.heap _ _ (λz=>hb (sub _ z)) (kp b o hb q)
  ·refine Moved.trans W.gtrans ((mv.mono sub).then_heap (zAZ _) λb o hb q=>?_) mv2;rw [sb.2 b λz=>hb (z▸zAm)];exact q
theorem Y6 {l:Addr}{items:Array Value}{n:Nat}{Q:zV}(hh:XH.cY A [] s.heap) (hl:s.heap.get? l=some { cls:=.type "list", dict:=none,data:=.seq items n,slots:=sl }) (hn:items.size=kvs.length) (hb:kvs.length<=10000)
  (hv:∀(i:Nat) (v:Value),items[i]?=some v->∃(t:Addr) (key val:Value) (kv:Key) (n:Nat) (d:Option Addr) (sl:Array (Option Value)),v=.ref t/\kvs[i]?=some (kv,val)/\(aN prog w).is kv key=true/\s.heap.get? t=some { cls:=.type "tuple", dict:=d,data:=.seq #[key,val] n,slots:=sl })
  (h:∀h' tk,h'.DictOf (aN prog w) s.heap.objs.size (Ux kvs)->(∀b o,s.heap.get? b=some o->h'.get? b=some o)->Q (.ref s.heap.objs.size) { s with heap:=h',toks:=tk }) :
  wpAny (model prog w) A (call (.type "dict") [.ref l]) Q E s:=by
 refine callType_codes F.kt_called_dict (F.kt_typeCall_dict_1 _) F.entry_dict_init (kt_code_dict_new (Q₁:=λob s1=>ob=.ref s.heap.objs.size/\s1={ s with heap:=s.heap.push { cls:=.type "dict", data:=.dict #[] } }) _ ⟨rfl,rfl⟩) ?_;rintro ob s1 ⟨rfl,rfl⟩;have nw:(s.heap.push { cls:=.type "dict", data:=.dict #[] }).DictOf (aN prog w) s.heap.objs.size []:=Heap.DictOf.new s.heap;have l1:(s.heap.push { cls:=.type "dict", data:=.dict #[] }).get? l=some { cls:=.type "list", dict:=none,data:=.seq items n,slots:=sl }:=zAb _ hl;have ltl:l < s.heap.objs.size:=zAe hl;refine ⟨nw.typeIs,F.args_dict_init_2 _ _,?_⟩;unfold Builtin.«dict.__init__» Builtin.Dict.selfAndRest;refine zAa <| zAa <| wpAny_notOrdered_dict nw.typeIs <| zAd ?_;change wpAny _ _ (Builtin.Dict.updateFrom "dict.__init__" s.heap.objs.size (.ref l) [] .none) _ _ _;unfold Builtin.Dict.updateFrom;refine zAa <| wpAny_typeOf (T := "list") ⟨_,l1,rfl⟩ ?_;rw [if_pos (by decide)];refine zAa <| XH.Hu (s:={ s with heap:=s.heap.push { cls:=.type "dict", data:=.dict #[] } }) l1 (XH.cY.keep (A:=A.in1) hh λb o _ e=>zAb _ e) λh1 tk1 kk=>?_;rw [if_pos (by decide)];refine zAa <| zBE ?_;have k1:∀b ob,s.heap.get? b=some ob->h1.get? b=some ob:=λb ob q=>kk b ob (zAb _ q);have l2:h1.get? l=some { cls:=.type "list", dict:=none,data:=.seq items n,slots:=sl }:=kk _ _ l1;have lL:h1.IsList l items:=⟨_,l2,rfl,n,rfl⟩;have sz:s.heap.objs.size < h1.objs.size:=zAe (kk _ _ (zAp _ rfl));refine zAa <| wpAny_pyIter_list (s:={ s with heap:=h1,toks:=tk1 }) lL ?_;refine zAd ⟨plainId_quiet kJ _,?_⟩;have WL:=(XH.vq (prog:=prog) (w:=w) (A:=A.in1.in1) h1.objs.size l (zAl (zBz ltl sz)) items).toS;rw [hn] at WL;have kp:∀b ob,s.heap.get? b=some ob->(h1.push { cls:=.type "list_iterator", data:=.fields #[.ref l,.int 0 0] }).get? b=some ob:=λb ob q=>zAb _ (k1 b ob q);have hlt:∀b∈XH.hdl A.in1.in1,b < s.heap.objs.size:=λb hb=>let ⟨_,o,e⟩:=XH.cY.mem (A:=A.in1.in1) hh hb;zAe e
 have hd3:XH.cY A.in1.in1 [h1.objs.size] (h1.push { cls:=.type "list_iterator", data:=.fields #[.ref l,.int 0 0] }):=by
  rcases hh with h | ⟨b,oh,vs,q1,q2,q3,q4,_⟩
  ·exact .inl h
  ·exact .inr ⟨b,oh,vs,q1,kp _ _ q2,q3,q4,by simp;exact zAl (zBz (zAe q2) sz)⟩
 refine Xu (h0:=s.heap) (kvs:=kvs) (res:=.none) WL s.heap.objs.size ?_ (λi v q=>?_) hb (kvs.length-0) 0 { s with heap:=h1.push { cls:=.type "list_iterator", data:=.fields #[.ref l,.int 0 0] },toks:=tk1 } (by omega) (zBf _) ⟨⟨⟨_,zAp _ rfl,rfl,rfl⟩,lL.push _⟩,hd3⟩ ?_ ?_ ?_
 ·simp only [zBv,zBp,or_false,not_or];exact ⟨zAl sz,zBu ltl,λz=>zAJ _ (hlt _ z)⟩
 ·obtain ⟨t,key,val,kv,n',d,sl,e1,e2,e3,e4⟩:=hv i v q;refine ⟨t,key,val,kv,n',d,sl,e1,?_,e2,e3,e4⟩;have lt:=zAe e4;simp only [zBv,zBp,or_false,not_or];exact ⟨zAl lt,zAl (zBz lt sz)⟩
 ·obtain ⟨o,es,ep,ho,r⟩:=nw;exact ⟨o,es,ep,zAb _ (kk _ _ ho),r⟩
 ·exact λb ob _ q=>kp b ob q
 ·intro s' mv S';obtain ⟨h',g',d',tk',os'⟩:=s';have e1:g'=s.gens:=mv.gens;have e2:d'=s.drawn:=mv.drawn;have e3:os'=s.os:=mv.os;subst e1 e2 e3;refine ⟨rfl,h h' tk' S' λb ob q=>mv.heap b ob ?_ (kp b ob q)⟩;have lt:=zAe q;simp only [zBv,zBp,or_false,not_or];exact ⟨zAl lt,zAl (zBz lt sz)⟩
end
end YD
namespace Y
open PySem L2 PyProof.Rows
open Z (fG lim cM bM)
variable {X:Cx}
def DG (ps:List (Key×V)):List (Key×V):=ps.foldl (λacc p=>putK acc p.1 p.2) []
def Rb (ps:List (Key×A)):List (Key×A):=ps.foldl (λacc p=>pv acc p.1 p.2) []
def Tw (X:Cx):List V->Hp->VK->Prop:=λxs H Q=>∃a vs ps,xs=[.ref a]/\cB X.K H a vs/\vs.length=ps.length/\ps.length<=1000/\(∀(i:Nat) v,vs[i]?=some v->∃t kv u,v=.ref t/\ps[i]?=some (kv,u)/\iG X.K H t [kV kv,u])/\∀l,H l=none->Q (.ref l) (upd H l (.dK (DG ps)))
theorem Dd:∀{ps:List (Key×V)}{ks:List (Key×Value)}{acc:List (Key×V)}{ac:List (Key×Value)},KV ps ks->KV acc ac->KV (ps.foldl (λacc p=>putK acc p.1 p.2) acc) (ks.foldl (λacc kv=>stored acc kv.1 kv.2) ac)
 |_,_,_,_,.nil,h=>h
 |_,_,_,_,.cons (a:=p) (b:=q) r t,h=>by
  obtain ⟨e,r⟩:=r;rw [zBq,zBq,<-e];exact Dd t (h.put p.1 r)
theorem Gg (ps:List (Key×V)):(DG ps).length<=ps.length:=by
 have:∀(l acc:List (Key×V)),(l.foldl (λacc p=>putK acc p.1 p.2) acc).length<=acc.length+l.length:=λl=>by
  induction l with
  |nil=>intro acc;simp
  |cons a l ih=>
   intro acc;have h1:=ih (putK acc a.1 a.2);have h2:=iY acc a.1 a.2;rw [zBq,zAv];omega
 have:=this ps [];simpa [DG] using this
theorem Bh (hc:X.calm=true):g8 X (.type "dict") (Tw X):=by
 intro pins s σ H xs us Q I r h;obtain ⟨a,vs,ps,rfl,hq,hl,hz,hp,q⟩:=h;obtain ⟨u,rfl,ru⟩:=vals1 r;cases ru
 obtain ⟨its,rv,⟨⟨c1,c2,c3,c4⟩,n,e1,e2,e3,e4⟩,_⟩:=I.list hq;simp only at e2 e3 e4;subst e2 e3 e4;have il:its.length=vs.length:=rv.length.symm;have each:∀(i:Nat) (v:Value),its[i]?=some v->∃(t:Addr) (key val:Value) (kv:Key) (u:V) (n:Nat) (d:Option Addr) (sl:Array (Option Value)),v=.ref t/\ps[i]?=some (kv,u)/\RelV u val/\(aN X.prog X.w).is kv key=true/\s.heap.get? t=some { cls:=.type "tuple", dict:=d,data:=.seq #[key,val] n,slots:=sl }:=λi v hv=>by
  have hi:=(List.getElem?_eq_some_iff.mp hv).1;obtain ⟨y,hy⟩:∃y,vs[i]?=some y:=⟨vs[i],zAc (by omega)⟩;have ry:RelV y v:=by
   obtain ⟨v',hv',r'⟩:=rv.get hy;rw [hv] at hv';cases hv';exact r'
  obtain ⟨t,kv,u,rfl,h1,h2⟩:=hp i y hy;cases ry
  obtain ⟨it2,r2,⟨⟨d1,d2,d3,d4⟩,g1,g2,m,g3⟩,_⟩:=I.tuple h2;simp only at g2 g3;subst g2 g3;cases r2 with
  |cons ra r3=>
   cases r3 with
   |cons rb r4=>
    cases r4
    exact ⟨t,_,_,kv,u,m,d2,d4,rfl,h1,rb,qU ra,g1⟩
 have hlen:its.length=ps.length:=by omega
 obtain ⟨ks,k1,k2⟩:∃ks:List (Key×Value),KV ps ks/\∀(i:Nat) (v:Value),its[i]?=some v->∃(t:Addr) (key val:Value) (kv:Key) (n:Nat) (d:Option Addr) (sl:Array (Option Value)),v=.ref t/\ks[i]?=some (kv,val)/\(aN X.prog X.w).is kv key=true/\s.heap.get? t=some { cls:=.type "tuple", dict:=d,data:=.seq #[key,val] n,slots:=sl }:=by
  clear hp q hq rv hl il e1;induction ps generalizing its with
  |nil=>exact ⟨[],.nil,λi v hv=>by have:=(List.getElem?_eq_some_iff.mp hv).1;simp at hlen;simp [hlen] at this⟩
  |cons p ps ih=>
   cases its with
   |nil=>simp at hlen
   |cons v its=>
    obtain ⟨ks,k1,k2⟩:=ih (its:=its) (by simp at hz;omega) (λi w hw=>each (i+1) w hw) (by simpa using hlen);obtain ⟨t,key,val,kv,u,m,d,sl,a1,a2,a3,a4,a5⟩:=each 0 v rfl;cases a2
    refine ⟨(kv,val)::ks,.cons ⟨rfl,a3⟩ k1,λi w hw=>?_⟩;cases i with
    |zero=>cases hw;exact ⟨t,key,val,kv,m,d,sl,a1,rfl,a4,a5⟩
    |succ i=>exact k2 i w hw
 have kl:ps.length=ks.length:=Paired.length k1;refine YD.Y6 (I.Dz hc) e1 (by rw [zAo];omega) (by omega) (λi v hv=>k2 i v (by simpa using hv)) λh' tk dd kk=>?_;have rel:KV (DG ps) (YD.Ux ks):=Dd k1 .nil;exact ⟨.ref s.heap.objs.size,_,I.laid (t':=tk) kk (zAq _) (tL (by have:=Gg ps;rw [sizeLine_eq];omega) (beq_eq_false_iff_ne.mpr (Ne.symm (zAl I.big))) rel dd),rfl,q _ (I.hok.fresh (zAq _))⟩
def qF:List D->Option (List (Key×D))
 |[]=>some []
 |.tup [.str z,v]::r=>(qF r).map ((.inr z,v)::·)
 |_::_=>none
def Pq (f:FE):FE:=λρ S=>(f ρ S).bind λx S=>match x.sh S with
 |some (.lst ds)=>match qF ds with
  |some ps=>if ps.length<=1000 then .ok (.p S.length) (S++[.dic (Rb (ps.map λp=>(p.1,.d p.2)))]) else .no
  |none=>.no
 |_=>.no
theorem Dw {K:zF}{m:List Addr}{H:Hp}:∀{ps:List (Key×A)}{us:List (Key×V)}{acc:List (Key×A)}{ac:List (Key×V)},RK K m H ps us->RK K m H acc ac->RK K m H (ps.foldl (λacc p=>pv acc p.1 p.2) acc) (us.foldl (λacc p=>putK acc p.1 p.2) ac)
 |_,_,_,_,.nil,h=>h
 |_,_,_,_,.cons (a:=p) (b:=q) r t,h=>by
  obtain ⟨e,r⟩:=r;rw [zBq,zBq,<-e];exact Dw t (h.put r)
theorem zB {K:zF}{m:List Addr}{H:Hp}:∀{ds:List D}{vs:List V}{ps:List (Key×D)},aD K (fG m H) ds vs->qF ds=some ps->∃us:List (Key×V),RK K m H (ps.map λp=>(p.1,A.d p.2)) us/\vs.length=us.length/\∀(i:Nat) v,vs[i]?=some v->∃t kv u,v=.ref t/\us[i]?=some (kv,u)/\iG K (fG m H) t [kV kv,u]
 |[],vs,ps,r,e=>by
  cases e
  unfold aD at r;subst r;exact ⟨[],.nil,rfl,λi v h=>by simp at h⟩
 |d::ds,vs,ps,r,e=>by
  unfold aD at r;obtain ⟨v,rs,rfl,r1,r2⟩:=r;unfold qF at e;split at e
  ·rename_i heq;cases heq
  ·rename_i z w r' heq;injection heq with h1 h2
   subst h1 h2;obtain ⟨ps',hps,rfl⟩:=Option.map_eq_some_iff.mp e;obtain ⟨us,k1,k2,k3⟩:=zB r2 hps;unfold Rep at r1;obtain ⟨t,xs,rfl,s1,s2⟩:=r1;unfold aD at s2;obtain ⟨v1,x1,rfl,s3,s4⟩:=s2;unfold aD at s4;obtain ⟨v2,x2,rfl,s5,s6⟩:=s4;unfold aD at s6;subst s6;unfold Rep at s3;subst s3;refine ⟨(.inr z,v2)::us,.cons ⟨rfl,RA.cI.mpr s5⟩ k1,by simp [k2],λi v h=>?_⟩;cases i with
   |zero=>cases h;exact ⟨t,.inr z,v2,rfl,rfl,s1⟩
   |succ i=>exact k3 i v h
  ·cases e
theorem Py {e:Expr}{f:FE}{p pos:Pos}(hc:X.calm=true) (hg:Gl X "dict") (hm:X.mg "dict" = none) (he:QE X e f) (hst:starEach [e] X.env=(false,eval e X.env)::starEach [] X.env:=by rfl) (hb:(backTo pos (starEach [] X.env)).any (·.1)=false:=by rfl) :
  QE X (.Call (.Name "dict" p) [e] [] pos) (Pq f):=lM (j7 (Bh hc) hg hm Qs (m_ he fC hst) (by decide) (by decide) hst hb) λσ H Q q=>by
 obtain ⟨ρ,S,m,Rr,W,q⟩:=q;refine ⟨ρ,S,m,Rr,W,q.bind.imp λx S1 q v H1 m1 x1 w1 r1=>?_⟩;split at q
 ·rename_i ds hd;split at q
  ·rename_i ps hps;split at q
   ·rename_i hl;obtain ⟨a,vs,rfl,h1,h2⟩:=jO w1 r1 hd;obtain ⟨us,k1,k2,k3⟩:=zB h2 hps;have ul:us.length=ps.length:=by have:=k1.length;simpa using this
    refine ⟨a,vs,us,rfl,h1,k2,by omega,λi v hv=>?_,λl hl=>?_⟩
    ·obtain ⟨t,kv,u,a1,a2,a3⟩:=k3 i v hv;exact ⟨t,kv,u,a1,a2,iG.pY a3⟩
    ·exact q _ _ _ (x1.trans (Xt.rG hl)) (w1.qb hl (Dw k1 .nil)) (gF w1)
   ·exact q.elim
  ·exact q.elim
 ·exact q.elim
end Y
namespace L2
open PySem PySem.Spec PyProof.Rows
variable {X:Cx}{elts:List Expr}{x1:Nat}{tpos:Pos}
theorem Inv.Dk {pins:List (Addr×Obj)}{σ:St}{H:Hp}{s:Shared}{h':Heap}{t':Nat}{fp:List Addr}(I:Inv X pins σ H s) (k:∀b o,b∉fp->s.heap.get? b=some o->h'.get? b=some o) (hf:∀b∈fp,lu X pins H b):Inv X pins σ H { s with heap:=h',toks:=t' }:=by
 have nit:∀b u,H b=some u->b∉fp:=λb u e z=>by rw [(hf b z).1] at e;cases e
 refine I.step (g':=s.gens) (d':=s.drawn) (ch:=fp) (λb hb=>?_) (λb o _ _ hc e _=>k b o hc e) (λb o _ _ hc e _=>⟨o.slots,k b o hc e⟩) (λ_ _ _ _ n=>n)
  (λb o hc e=>⟨o,k b o hc e⟩) (λ_ _ e=>e) (λ_ _ _ e=>e) (λb ps e=>⟨#[],by rw [e];simp⟩) (λm hm=>?_) (λb u e=>?_) I.bare
 ·obtain ⟨f0,f1,f2,f3,f4,f5⟩:=hf b hb;exact ⟨f3,f1,f4,f5⟩
 ·obtain ⟨o,es,ep,ho,r⟩:=hm;exact ⟨o,es,ep,k _ o (λz=>(hf _ z).2.1 rfl) ho,r⟩
 ·refine (I.hok b u e).stay (λc v hc q=>k c v ?_ q) (λ_ q=>q) λ_ _ q=>q;rcases hc with z | z
  ·rw [z];exact nit b u e
  ·exact nit c _ z
def Itz (K : zF) (a b : Addr) : It :=
  ⟨λi H => ∃ xs ys x y, cB K H a xs ∧ cB K H b ys ∧ xs[i]? = some x ∧ ys[i]? = some y,
   λi H z H' => ∃ p x y, z = .ref p ∧ H p = none ∧ H' = upd H p (.tup [x, y]) ∧ (∀ xs, cB K H a xs → xs[i]? = some x) ∧ ∀ ys, cB K H b ys → ys[i]? = some y,
   λi H => ∃ xs ys, cB K H a xs ∧ cB K H b ys ∧ (xs.length ≤ i ∨ ys.length ≤ i)⟩
structure ZNe (z p q i j:Addr):Prop where
 pz:p≠z
 qz:q≠z
 iz:i≠z
 jz:j≠z
 pq:p≠q
 pi:p≠i
 pj:p≠j
 qi:q≠i
 qj:q≠j
 ij:i≠j
theorem zne (n:Nat):ZNe (n+4) (n+2) (n+3) n (n+1):=by
 constructor<;>(intro h;replace h:(_:Nat)=_:=h;omega)
def Zst (z p q i j a b:Addr) (n:Nat) (h:Heap):Prop:=IsZip h z p q .none/\IsPair h p (.ref i) (.ref j)/\(∃u v,IsPair h q u v)/\h.IsListIter i a n/\h.IsListIter j b n
theorem Zst.apart {z p q i j a b:Addr}{n:Nat}{h:Heap}{xs ys:Array Value}(st:Zst z p q i j a b n h) (D:ZNe z p q i j) (ha:h.IsList a xs) (hb:h.IsList b ys):ZipApart z p q i j a b:=by
 obtain ⟨hz,hp,⟨u,v,hq⟩,⟨oi,h1,c1,d1⟩,⟨oj,h2,c2,d2⟩⟩:=st;obtain ⟨oa,ea,ca,_⟩:=ha;obtain ⟨ob,eb,cb,_⟩:=hb;have ne:∀{x y:Addr}{o o':Obj}{n:String},h.get? x=some o->h.get? y=some o'->o.cls=.type "list" -> o'.cls=.type n->n ≠ "list" -> x≠y:=λe e' c c' hn z=>by
  subst z;rw [e] at e';cases e';rw [c] at c';cases c';exact hn rfl
 exact ⟨D.pz,D.qz,D.iz,D.jz,D.pq,D.pi,D.pj,D.qi,D.qj,D.ij,ne ea hz ca rfl (by decide),ne ea hq ca rfl (by decide),ne ea h1 ca c1 (by decide),ne ea h2 ca c2 (by decide),ne eb hz cb rfl (by decide),ne eb hq cb rfl (by decide),ne eb h1 cb c1 (by decide),ne eb h2 cb c2 (by decide)⟩
theorem Iz {P:Program}{w:World}{K:zF}(a b z p q i j:Addr) (D:ZNe z p q i j) :
  Turn P w K (.Tuple elts x1 tpos) (Itz K a b) [z,p,q,i,j] z (Zst z p q i j a b) where
 mem:=by simp
 obj:=λn h st c hc=>by
  obtain ⟨hz,hp,⟨u,v,hq⟩,⟨oi,h1,c1,d1⟩,⟨oj,h2,c2,d2⟩⟩:=st;simp only [zBv,zBp,or_false] at hc;rcases hc with e | e | e | e | e<;>subst e
  ·exact ⟨_,hz,λv z=>by cases z⟩
  ·exact ⟨_,hp,λv z=>by cases z⟩
  ·exact ⟨_,hq,λv z=>by cases z⟩
  ·exact ⟨_,h1,λv z=>by rw [d1] at z;cases z⟩
  ·exact ⟨_,h2,λv z=>by rw [d2] at z;cases z⟩
 keep:=λn h h' st k=>by
  obtain ⟨hz,hp,⟨u,v,hq⟩,h1,h2⟩:=st;exact ⟨k z (by simp) _ hz,k p (by simp) _ hp,⟨u,v,k q (by simp) _ hq⟩,h1.at λo e'=>k i (by simp) o e',h2.at λo e'=>k j (by simp) o e'⟩
 item:=by
  intro X hP hw hK hc n pins s σ H E I hf st hg;subst hP hw hK;obtain ⟨xs,ys,x,y,hqa,hqb,hx,hy⟩:=hg;obtain ⟨its,rv,pa,_⟩:=I.list hqa;obtain ⟨jts,rw',pb,_⟩:=I.list hqb;obtain ⟨u,hu,ru⟩:=rv.get hx;obtain ⟨v,hv,rv'⟩:=rw'.get hy;have Dp:=st.apart D pa.isList pb.isList;obtain ⟨hz,hp,⟨u0,v0,hq⟩,h1,h2⟩:=st;refine wpAny_pyNext_zip_item Dp hz hp hq h1 h2 pa.isList pb.isList (x:=u) (y:=v) (by simpa using hu) (by simpa using hv) λh' hz' hq' h1' h2' ht' hsz kk=>?_;refine ⟨_,rfl,wpAny_letOwnedTupleGo_zip hz' λhh hz2 hs2=>?_⟩;have hn:=I.fresh;have lt:∀c∈[z,p,q,i,j],c < s.heap.objs.size:=λc hc=>by
   simp only [zBv,zBp,or_false] at hc;obtain ⟨oi,e1,_⟩:=h1;obtain ⟨oj,e2,_⟩:=h2;rcases hc with e | e | e | e | e<;>subst e
   ·exact zAe hz
   ·exact zAe hp
   ·exact zAe hq
   ·exact zAe e1
   ·exact zAe e2
  have I1:Inv X pins σ (upd H s.heap.objs.size (.tup [x,y])) { s with heap:=s.heap.push { cls:=.type "tuple", data:=.seq #[u,v] },toks:=s.toks }:=
   I.laid (λb o e=>zAb _ e) (zAq _) ⟨by show 2<=sizeLine;decide,[u,v],.cons ru (.cons rv' .nil),⟨_,zAp _ rfl,rfl,0,rfl⟩⟩
  have up:∀c,c∈[z,p,q,i,j]->upd H s.heap.objs.size (.tup [x,y]) c=none:=λc hc=>by
   rw [aA (zAl (lt c hc))];exact (hf c hc).1
  have nz:s.heap.objs.size≠z:=zBu (lt z (by simp));have I2:Inv X pins σ (upd H s.heap.objs.size (.tup [x,y])) { s with heap:=hh,toks:=s.toks }:=by
   refine Inv.Dk (s:={ s with heap:=s.heap.push { cls:=.type "tuple", data:=.seq #[u,v] },toks:=s.toks }) (fp:=[z,p,q,i,j]) (t':=s.toks) I1 (λb o hb e=>?_) (λb hb=>?_)
   ·by_cases hbs:b=s.heap.objs.size
    ·subst hbs;have e2:=zAp s.heap (o:={ cls:=.type "tuple", data:=.seq #[u,v] }) rfl;have e3:o=_:=Option.some.inj (e.symm.trans e2);subst e3;exact (hs2.2 _ nz).trans ht'
    ·have e':s.heap.get? b=some o:=by
      rwa [Heap.get?_push_ne _ _ _ hbs] at e
     have:=kk b o (λz=>hb (by simp [z])) (λz=>hb (by simp [z])) (λz=>hb (by simp [z])) (λz=>hb (by simp [z])) e';exact (hs2.2 _ (λz=>hb (by simp [z]))).trans this
   ·exact ⟨up b hb,(hf b hb).2⟩
  refine ⟨.ref s.heap.objs.size,_,I2,rfl,⟨_,x,y,rfl,hn,rfl,λzs hy'=>by rw [I.mC hy' hqa];exact hx,λzs hy'=>by rw [I.mC hy' hqb];exact hy⟩,?_,up⟩;exact ⟨hz2,(hs2.2 _ D.pz).trans (kk _ _ D.pz D.pq D.pi D.pj hp),⟨_,_,(hs2.2 _ D.qz).trans hq'⟩,h1'.extBut hs2.extBut D.iz,h2'.extBut hs2.extBut D.jz⟩
 done:=by
  intro X hP hw hK hc n pins s σ H E I hf st hg;subst hP hw hK;obtain ⟨xs,ys,hqa,hqb,hx⟩:=hg;obtain ⟨its,rv,pa,_⟩:=I.list hqa;obtain ⟨jts,rw',pb,_⟩:=I.list hqb;have Dp:=st.apart D pa.isList pb.isList;obtain ⟨hz,hp,⟨u0,v0,hq⟩,h1,h2⟩:=st;have l1:=rv.length;have l2:=rw'.length;refine XH.Pu (I.Ti hc λb hb=>(hf b (by simp at hb ⊢;rcases hb with h | h | h | h<;>simp [h])).1) Dp hz hp hq h1 h2 pa.isList pb.isList ?_ λh' kk=>⟨rfl,Inv.Dk (fp:=[z,p,q,i,j]) (t':=s.toks) I (λb o hb e=>kk b o (λz=>hb (by simp [z])) (λz=>hb (by simp [z])) (λz=>hb (by simp [z])) (λz=>hb (by simp [z])) e) hf⟩;rcases hx with e | e
  ·left;simp;omega
  ·right;simp;omega
 self:=λ_ _ _ _ _ st h=>wpAny_pyIter_zip st.1 h
def ZP (K:zF) (ta:TA):TI:=λσ H R=>ta σ H λvs H1=>∃a b xs ys,vs=[.ref a,.ref b]/\cB K H1 a xs/\cB K H1 b ys/\R (Itz K a b) H1
theorem O8 {a b:Expr}{ta:TA}{p pos:Pos}(hg:Gl X "zip") (hm:X.mg "zip" = none) (ha:PA X [a,b] ta) (hs:starEach [a,b] X.env=[(false,eval a X.env),(false,eval b X.env)]:=by rfl) (hs2:starEach [b] X.env=[(false,eval b X.env)]:=by rfl) :
  PI X (.Tuple elts x1 tpos) (.Call (.Name "zip" p) [a,b] [] pos) (ZP X.K ta):=by
 intro pins s σ H R I h;refine Call_ (qD I hg hm boot_zip (PyProof.Rows.callWith_type1 (cR (ha pos pins s σ H _ I h) λus s1 ⟨vs,H1,I1,r1,q1⟩=>?_) (by rw [hs,hs2]) (by rw [hs2];rfl)));obtain ⟨l,l',xs,ys,e,hq,hq',q⟩:=q1;subst e;obtain ⟨u,u',rfl,ru,ru'⟩:=vals2 r1;cases ru
 cases ru'
 obtain ⟨its,rv,p,_⟩:=I1.list hq;obtain ⟨jts,rv',p',_⟩:=I1.list hq';refine call_zip_2 p.isList p'.isList λh' hz hp hq0 h1 h2 hsz kk=>?_;have I2:Inv X pins σ H1 { s1 with heap:=h' }:=I1.kept (t':=s1.toks) kk;refine wpAny_pyIter_zip hz ⟨_,_,_,_,H1,rfl,I2,Iz l l' _ _ _ _ _ (zne s1.heap.objs.size),⟨hz,hp,⟨_,_,hq0⟩,h1,h2⟩,λb hb=>?_,q⟩;have hb':s1.heap.objs.size<=b:=by
  simp only [zBv,zBp,or_false] at hb;rcases hb with e | e | e | e | e<;>(replace e:(_:Nat)=_:=e;omega)
 exact I1.QJ hb' (I1.hok.fresh hb')
end L2
namespace Y
open PySem L2
open Z (fG dI aZ dM bJ eZ cV bG lim cM bM)
variable {xs ys:List A}
def yV (xs ys:List A):List A:=List.zipWith (λx y=>mkT [x,y]) xs ys
theorem Du {i:Nat}{z:A}(h:(yV xs ys)[i]?=some z):∃x y,xs[i]?=some x/\ys[i]?=some y/\z=mkT [x,y]:=by
 unfold yV at h;rw [List.getElem?_zipWith] at h;split at h
 ·rename_i a b ha hb;exact ⟨a,b,ha,hb,(Option.some.inj h).symm⟩
 ·cases h
theorem Ak:(yV xs ys).length=min xs.length ys.length:=by simp [yV]
theorem Ii {K:zF}{m:List Addr}{H:Hp}{a b:Addr}{ck:Ck}(h:∀m1 H1 S1,Xt m H m1 H1->Wd K m1 S1 H1->gH ck S1->(∃vs,cB K H1 a vs/\bf K m1 H1 xs vs)/\∃ws,cB K H1 b ws/\bf K m1 H1 ys ws):mH K m H (Itz K a b) (yV xs ys) ck where
 go:=λm1 H1 S1 i x w c hi=>by
  obtain ⟨⟨vs,h1,h2⟩,ws,h3,h4⟩:=h m1 H1 S1 x w c;rw [Ak] at hi;have hi':i < vs.length:=by rw [h2.length];omega
  have hj':i < ws.length:=by rw [h4.length];omega
  exact ⟨vs,ws,vs[i],ws[i],h1,h3,zAc hi',zAc hj'⟩
 stop:=λm1 H1 S1 x w c=>by
  obtain ⟨⟨vs,h1,h2⟩,ws,h3,h4⟩:=h m1 H1 S1 x w c;refine ⟨vs,ws,h1,h3,?_⟩;rw [Ak,h2.length,h4.length];omega
 yld:=λm1 H1 S1 i d y H2 x w c hd hy=>by
  obtain ⟨⟨vs,h1,h2⟩,ws,h3,h4⟩:=h m1 H1 S1 x w c;obtain ⟨p,v,v',rfl,hn,rfl,hv,hw⟩:=hy;obtain ⟨z,z',hz,hz',rfl⟩:=Du hd;obtain ⟨q,hq,rd⟩:=h2.get hz;obtain ⟨q',hq',rd'⟩:=h4.get hz';rw [hv vs h1] at hq;cases hq
  rw [hw ws h3] at hq';cases hq'
  exact ⟨Xt.new hn,w.new hn,CN w hn (bf.cons rd (bf.cons rd' bf.nil))⟩
def TY (x y:A) (S:aM):R (List A×Ck):=match y with
 |.d (.lst es)=>match x with
  |.d (.lst ds)=>.ok (yV (ds.map .d) (es.map .d),none) S
  |.p k=>match S[k]? with
   |some (.lst ds)=>.ok (yV (ds.map .d) (es.map .d),some (k,.lst ds,false)) S
   |_=>.no
  |_=>.no
 |_=>.no
def WD (f g:FE):FI:=λρ S=>(f ρ S).bind λx S=>(g ρ S).bind λy S=>TY x y S
theorem Uy {X:Cx}{e e2:Expr}{f g:FE}{pos p:Pos}{elts:List Expr}{x1:Nat}{tpos:Pos}(hg:Gl X "zip") (hm:X.mg "zip" = none) (he:QE X e f) (he2:QE X e2 g) (hst:noStar e=true:=by rfl) (hst2:noStar e2=true:=by rfl) (hs:starEach [e,e2] X.env=[(false,eval e X.env),(false,eval e2 X.env)]:=by rfl) (hs2:starEach [e2] X.env=[(false,eval e2 X.env)]:=by rfl):QI X (.Tuple elts x1 tpos) (.Call (.Name "zip" p) [e,e2] [] pos) (WD f g):=
 Zj (O8 hg hm (Am he (Am he2 fC hst2) hst) hs hs2) λσ H R' q=>by
  obtain ⟨ρ,S,m,Rr,W,q⟩:=q;refine ⟨ρ,S,m,Rr,W,q.bind.imp λx S1 q v H1 m1 x1 w1 r1=>⟨ρ,S1,m1,Rr.ext x1,w1,(q.step x1).bind.imp λy S2 q u H2 m2 x2 w2 r2=>?_⟩⟩;unfold TY at q;split at q
  ·rename_i es;have r2':=RA.cI.mp r2;unfold Rep at r2';obtain ⟨b,ws,rfl,h3,h4⟩:=r2';split at q
   ·rename_i ds;have r1':=RA.cI.mp (r1.ext x2);unfold Rep at r1';obtain ⟨a,vs,rfl,h1,h2⟩:=r1';exact ⟨a,b,vs,ws,rfl,cB.pY h1,cB.pY h3,q _ H2 H2 m2 (x1.trans x2) rfl w2 (Ii λm3 H3 S3 x3 w3 _=>⟨⟨vs,cB.pY (Same.seq x3.sm h1),(dO h2).ext x3⟩,ws,cB.pY (Same.seq x3.sm h3),(dO h4).ext x3⟩)⟩
   ·rename_i k;obtain ⟨a,ha,rfl⟩:=RA.fH.mp (r1.ext x2);obtain ⟨c,hc,ok⟩:=w2.at ha;rw [hc] at q;split at q
    ·rename_i ds eq;cases eq
     obtain ⟨vs,h1,_⟩:=ok;refine ⟨a,b,vs,ws,rfl,cB.of h1,cB.pY h3,q _ H2 H2 m2 (x1.trans x2) rfl w2 (Ii λm3 H3 S3 x3 w3 ck=>⟨?_,ws,cB.pY (Same.seq x3.sm h3),(dO h4).ext x3⟩)⟩;obtain ⟨vs',h1',h2'⟩:=jk (w3.cell _ a _ (x3.at _ a ha) ck) rfl;exact ⟨vs',cB.of h1',h2'⟩
    ·exact q.elim
   ·exact q.elim
  ·exact q.elim
end Y
namespace Y
open PySem L2 YS
open Z (fG dI aZ dM bJ eZ cV bG lim cM bM jE iI mY nJ j_)
section
variable {X:Cx}{e:Expr}{f:FE}{pos p p1 pos1:Pos}
theorem GK:g8 X (.builtin "len") (λxs H Q=>∃a ss,xs=[.ref a]/\H a=some (SO X.w a ss)/\ss.length < 4000/\Q (.int ss.length) H):=by
 intro pins s σ H xs us Q I r h;obtain ⟨a,ss,rfl,hq,hz,q⟩:=h;obtain ⟨u,rfl,ru⟩:=vals1 r;cases ru
 obtain ⟨es,ep,t,ho,_,pm,_,tb⟩:=Jc.mp (I.hok a _ hq);have hl:es.size=ss.length:=by have:=pm.length_eq;simpa using this
 exact call_len_set ho ⟨rfl,rfl,rfl⟩ rfl tb.fit (by omega) ⟨.int ss.length,H,I.tok _,⟨_,by rw [hl]⟩,q⟩
def mz (f:FE):FE:=λρ S=>(f ρ S).bind λx S=>opt (match strsOf x S with
 |some ss=>if ss.length < 4000 then some (.d (.int ((adds [] ss).length:Int))) else none
 |none=>none) S
theorem vU (hc:X.calm=true) (hg:Gl X "len") (hm:X.mg "len" = none) (hg2:Gl X "set") (hm2:X.mg "set" = none) (he:QE X e f)
  (hs:noStar e=true:=by rfl) (hb:(backTo pos1 (starEach [] X.env)).any (·.1)=false:=by rfl) (hst:starEach [e] X.env=(false,eval e X.env)::starEach [] X.env:=by rfl) :
  QE X (.Call (.Name "len" p) [.Call (.Name "set" p1) [e] [] pos1] [] pos) (mz f):=
 lM (iT GK hg hm PySem.boot_len (m_ (j7 (zP hc) hg2 hm2 JL (m_ he fC hst) (by decide) (by decide) hst hb) fC)) λσ H Q q=>by
  obtain ⟨ρ,S,m,Rr,W,q⟩:=q;refine ⟨ρ,S,m,Rr,W,q.bind.imp λx S1 q v H1 m1 x1 w1 r1=>?_⟩;obtain ⟨y,hd,q⟩:=q.opt;split at hd
  ·rename_i ss hss;split at hd
   ·rename_i h64;cases hd
    obtain ⟨a,rfl,h1⟩:=vP w1 r1 hss;refine ⟨a,ss,rfl,h1,h64,λl hl=>⟨l,_,rfl,aJ,?_,?_⟩⟩
    ·have:=fB ss [];simp at this;omega
    ·have x2:Xt m1 H1 m1 (upd H1 l (SO X.w l (adds [] ss))):=Xt.new hl;exact q _ _ m1 (x1.trans x2) (w1.new hl) eY
   ·cases hd
  ·cases hd
end
end Y
namespace Y
open PySem L2
variable {K:zF}{qual:Str}{st:Stmt}{f:Addr}{fd:FuncData}
theorem scm {N P:List Str}{sc:Scope}(h1:sc.kind=.function:=by rfl) (h2:sc.isCoroutine=false:=by rfl) (h3:sc.isGenerator=false:=by rfl) (h4:N.Nodup:=by decide +kernel) (h5:N.take P.length=P:=by rfl)
  (h6:∀x∈P,sc.names.lookup x=some .local∨sc.names.lookup x=some .cell:=by decide +kernel) (h7:∀y∈sc.names,y.2≠.free:=by decide +kernel):aU N P sc:=⟨h1,h2,h3,h4,h5,h6,h7⟩
theorem bd {x:Str}{ps:List Str}(F:lV K x qual st f fd)
  (h:∀(kV doc pm:Value) (an:Option Addr) (cdv ct:Value) (us:List Value),us.length=ps.length->bindArgs (PySem.W.fnOf x qual (pX st) (iK st) (aK st) .none kV doc pm an cdv ct) ⟨us,[]⟩=pure (ps.zip us):=by
   intro _ _ _ _ _ _ us hl;rcases us with _ | ⟨_,_ | ⟨_,_ | ⟨_,_ | ⟨_,_ | ⟨_,_⟩⟩⟩⟩⟩<;>first | (cases hl;done) | rfl):Binds K fd ps []:=F.binds h
theorem bind1 {x:Str}{p:Str}(F:lV K x qual st f fd) (s:Shared) (u:Value)
  (h:∀(kV doc pm:Value) (an:Option Addr) (cdv ct:Value),bindArgs (PySem.W.fnOf x qual (pX st) (iK st) (aK st) .none kV doc pm an cdv ct) ⟨[u],[]⟩=pure [(p,u)]:=by intro _ _ _ _ _ _;rfl):BindsTo s fd ⟨[u],[]⟩ [(p,u)]:=by
 obtain ⟨oc,od,kV,doc,pm,an,cdv,ct,osl,rfl,lk,hcd⟩:=F.ex;exact .of_eq (h ..)
theorem Vw {u:Addr}{o:Obj}{its:Array Value}{n:Nat}{vs:List V}(l:K.lookup u=some o) (c:o.cls=.type "tuple") (d:o.data=.seq its n) (v:Vals vs its.toList) (z:vs.length<=sizeLine) (H:Hp):iG K H u vs:=
 .inr ⟨o,its,n,l,c,d,by have e:=v.length;rw [<-zAH,<-e];exact z,v⟩
end Y
namespace L2
open PySem PySem.Spec PyProof.Rows
open PySem.W (nsOkIn nsIn)
variable {K:zF}{C:Addr}
theorem yU {K:zF}{h:Heap}{ns:List Str}{bmB:List Value}(X:K.In h):∀{l:List Value},sE K ns bmB l=true->XE.fD ns h bmB l
 |[],e=>by rw [<-beq_iff_eq.mp e];exact .base
 |v::r,e=>by
  unfold sE at e;rcases Bool.or_eq_true_iff.mp e with q | q
  ·rw [beq_iff_eq.mp q];exact .base
  ·split at q
   ·split at q
    ·rename_i ho;simp only [zAE] at q;exact .own (X _ _ ho) (.of_isNs (PySem.W.isNs_of_in X q.1.1)) (λn hn=>PySem.W.nsMap_none_of_in X q.1.1 (beq_iff_eq.mp (List.all_eq_true.mp q.1.2 n hn))) (yU X q.2)
    ·cases q
   ·cases q
theorem ZX {h:Heap}{N:Addr}{n:Str}{v:Option Value}(X:K.In h) (hok:nsOkIn K N=true) (e:nsIn K N n=some v):h.nsMap N n=v:=by
 cases v with
 |none=>exact PySem.W.nsMap_none_of_in X hok e
 |some u=>
  obtain ⟨o,es,ep,ho,hd,_,hf⟩:=Heap.Ns.of_isNs (PySem.W.isNs_of_in X hok);unfold nsIn at e;split at e
  ·rename_i c d es' n' sl q;have:=X _ _ q;rw [ho] at this;cases this
   cases hd
   split at e
   ·rename_i en he;cases e
    rw [<-hf];unfold nsFind findBy;rw [<-Array.find?_toList,he];rfl
   ·split at e<;>cases e
  ·cases e
theorem gB {ns:List Str}{ini:Option Addr}(q:mF K C ns ini=true):kh K C ns ini:=by
 unfold mF at q;rw [zAE] at q;obtain ⟨kp,q⟩:=q;refine ⟨kp,?_⟩;split at q
 ·rename_i dd cd sl ho;split at q
  ·rename_i C' bm k0 k1 k2 k3 n k5 hm hs;simp only [zAE,beq_iff_eq,Bool.not_eq_true'] at q;obtain ⟨⟨⟨⟨⟨⟨⟨rfl,rfl⟩,hdel⟩,hdic⟩,ht⟩,hok⟩,hno⟩,hni⟩:=q;obtain ⟨nm,bs,mro,N,qn,hd,sn,sub,ab,col,del⟩:=cd;dsimp only at hm hdel hdic hok hno hni;subst hm hdel hdic;have hsl:sl=#[k0,k1,k2,k3,some (.builtin "ValueError.__new__"),k5]:=by
    obtain ⟨l⟩:=sl;simp only at hs;rw [hs]
   subst hsl;exact ⟨nm,qn,N,bs,bm,sn,sub,ab,col,dd,k0,k1,k2,k3,k5,ho,λh X=>⟨⟨_,.of_isNs (PySem.W.isNs_of_in X hok),λm hm=>PySem.W.nsMap_none_of_in X hok (beq_iff_eq.mp (List.all_eq_true.mp hno m hm)),ZX X hok hni⟩,yU X ht⟩⟩
  ·cases q
 ·cases q
theorem Od {D:Addr}(q:Mv K C D=true):BP K C D:=λnm qn N bs bm sn sub ab col dd k0 k1 k2 k3 k5 lk=>by
 unfold Mv at q;rw [lk] at q;exact q
end L2
namespace Y
open PySem L2 PyProof.Rows
open Z (fG lim cM bM)
variable {X:Cx}{f:FE}
theorem yF {A:Around}{k:Nat}(hr:eV k A):A.units+60 < cLine:=by have:=hr.un;omega
section
variable {a b:Expr}{g:FE}{pos:Pos}
theorem Vk {k:Nat}(hr:eV k X.A) (ha:QE X a f) (hb:QE X b g):QT X (.Compare a [.Eq] [b] pos) (bZ (bin (oEq false) f g)):=jq (Cj (yF hr)) ug ha hb (mO _)
theorem IV {k:Nat}(hr:eV k X.A) (ha:QE X a f) (hb:QE X b g):QT X (.Compare a [.NotEq] [b] pos) (bZ (bin (oEq true) f g)):=jq (Ih (yF hr)) ug ha hb (mO _)
theorem WR {k:Nat}(hr:eV k X.A) (ha:QE X a f) (hb:QE X b g) (hm:behindInMarks .In b=false:=by rfl):QT X (.Compare a [.In] [b] pos) (bZ (bin (eE false) f g)):=jq (Ce (yF hr)) tu ha hb hm
theorem Eu {k:Nat}(hr:eV k X.A) (ha:QE X a f) (hb:QE X b g) (hm:behindInMarks .NotIn b=false:=by rfl):QT X (.Compare a [.NotIn] [b] pos) (bZ (bin (eE true) f g)):=jq (El (yF hr)) tu ha hb hm
theorem zM {k:Nat}(hr:eV k X.A) (ha:QE X a f) (hb:QE X b g) (hs:rK b):QE X (.Subscript a b pos) (bin fK f g):=Ro (KJ (by have:=hr.un;omega)) Jp ha hb hs
end
def qM:OM:=λx xs S=>match A.get S x with
 |some (.lst ds)=>match xs with
  |[y]=>match A.get S y with
   |some d=>if ds.all (Z.oX d)=true then (match ds.findIdx? (λe=>decide (cA e d=some true)) with
    |some j=>.ok (.d (.int j)) S
    |none=>.no) else .no
   |none=>.no
  |_=>.no
 |_=>.no
theorem Nk:Av X "list" (Jj X.K) qM:=λ{m S H x xs v vs Q} w r1 r2 q=>by
 unfold qM at q;split at q
 ·rename_i ds hx;split at q
  ·rename_i y;split at q
   ·rename_i d hy;split at q
    ·rename_i ha;split at q
     ·rename_i j hj;obtain ⟨u,rfl,r⟩:=lY r2;have e1:=RA.rep w r1 hx;unfold Rep at e1;obtain ⟨a,us,rfl,h1,h2⟩:=e1;exact ⟨a,us,u,d,ds,j,rfl,rfl,h1,RA.rep w r hy,h2,Z.Bp ha,hj,q _ H m Xt.refl w eY⟩
     ·exact q.elim
    ·exact q.elim
   ·exact q.elim
  ·exact q.elim
 ·exact q.elim
theorem Dh {o e:Expr}{es:List Expr}{fa:FA}{k:Nat}{apos cpos:Pos}(hr:eV k X.A) (ho:QE X o f) (ha:QA X (e::es) fa)
  (hbase:attributeBase o "index" X.env (eval o X.env)=eval o X.env:=by rfl)
  (hfew:((backTo cpos (starEach (e::es) X.env)).all (λx=>!x.1)&&(backToKw cpos (keywordEach [] X.env)).all (λx=>x.1.isSome)
   && decide ((e::es).length+([]:List Keyword).length+(if ([]:List Keyword).isEmpty then 0 else 1) < 30))=true:=by rfl)
  (hline:(apos.endLine==cpos.line)=true:=by rfl) (hs:starEach (e::es) X.env=(false,eval e X.env)::starEach es X.env:=by rfl) (hplain:(backTo cpos (starEach es X.env)).any (·.1)=false:=by rfl) :
  QE X (.Call (.Attribute o "index" apos) (e::es) [] cpos) (lR "list" qM f fa):=Ep PySem.F.plainAttrs_list PySem.F.slot_list_index PySem.F.type_list_index (MN (yF hr)) Nk ho ha hbase hfew hline hs hplain
end Y
namespace XE
open PySem PySem.Builtin PySem.Builtin.ObjectAttr
variable {ns:List Str}
theorem fD.sub {ns':List Str}{h:Heap}{bmB tl:List Value}(T:fD ns h bmB tl) (k:∀n∈ns',n∈ns):fD ns' h bmB tl:=by
 induction T with
 |base=>exact .base
 |own a b c _ ih=>exact .own a b (λn hn=>c n (k n hn)) ih
theorem Ly:typeLookup (.type "ValueError") "__class__" = pure (some (.builtin "object.__class__")):=by rw [typeLookup_type,builtinLookup_eq_fast];kernel_rfl
section
variable {prog:Program}{w:World}{A:Around}{E:zV}{h:Heap}{g:Array GenState}{d:Drawn}{t:Nat}{os:OsState}
variable {nm q:Str}{C N x:Addr}{bs bm bmB:List Value}{sn:List Str}{sub:List Value}{ab:Bool}{col:Option Bool}{dd:Option Addr}{k0 k1 k2 k3 k5:Option Value}{B newId:String}{mN:Str->Option Value}{o:Obj}
theorem Bt {Q:Option Value->Shared->Prop}(FB:ExcAttrBase B bmB) (T:fD ns h bmB bm) (hin:("__class__" : Str)∈ns) (h1:("__getattribute__" : Str)∈ns) (h2:("__getattr__" : Str)∈ns) (hob:bmB.contains (.type "object")=true)
  (hC:h.get? C=some (excClassObj nm q C N bs bm true sn sub ab col dd k0 k1 k2 k3 k5 newId)) (hN:h.Ns N mN) (hno:∀n∈ns,mN n=none) (hB:typeLookup (.type B) "__class__" = pure (some (.builtin "object.__class__")))
  (hx:h.get? x=some o) (hc:o.cls=.ref C) (hq:Q (some (.ref C)) ⟨h,g,d,t+1,os⟩):wpAny (model prog w) A (getAttr? (.ref x) "__class__") Q E ⟨h,g,d,t,os⟩:=by
 have get:∀{A:Around}{R:Result->Shared->Prop}{t:Nat},R (.ok (.ret (.ref C))) ⟨h,g,d,t,os⟩->codeAny (model prog w) A (.call (.builtin "getset_descriptor.__get__") ⟨[.builtin "object.__class__", .ref x,.ref C],[]⟩) R ⟨h,g,d,t,os⟩:=by
  intro A R t hq;have hT5:(⟨h,g,d,t,os⟩:Shared).TypeIs (.builtin "object.__class__") "getset_descriptor" := F.typeOf_object_class;have hcB:(Value.ref C::bm).contains (.type (".".intercalate ("object.__class__".cutAt '.').dropLast))=true:=by
   rw [F.owner_object_class,zBG,T.hasType hob];rfl
  refine codeAny_call_builtin F.slot_gs_get.plain F.entry_gs_get (F.slot_gs_get.check _ _ _ _ _ _ _ _ hT5 (F.args_gs_get _ _ _) ?_);repeat (any_goals (first | assumption | (with_reducible refine zAA hx ?_;rw [hc]) | (with_reducible refine zBm hC ?_;rw [hcB]) | wp_step))
  refine ⟨Code.quiet_builtin _ (by decide +kernel),codeAny_builtin F.entry_object_class ?_⟩;repeat (any_goals (first | assumption | (with_reducible refine zAA hx ?_;rw [hc]) | wp_step))
 have entry:∀{A:Around}{tk:Tok}{Q:PySem.Fin->Shared->Prop}{E:zV}{t:Nat},Q (.done (.ret (.ref C))) ⟨h,g,d,t,os⟩->wpAny (model prog w) A (Builtin.«object.__getattribute__» ⟨[.ref x,.str "__class__" tk],[]⟩) Q E ⟨h,g,d,t,os⟩:=by
  intro A tk Q E t hq;have hT5:(⟨h,g,d,t,os⟩:Shared).TypeIs (.builtin "object.__class__") "getset_descriptor" := F.typeOf_object_class;have f5:=F.typeOf_object_class;have f6:=F.slot_gs_get.lookup;have f7:=F.slot_gs_set.lookup;repeat (any_goals (first | assumption | (with_reducible refine zAA hx ?_;rw [hc]) | with_reducible refine bD hin hC hN (hno _ hin) T FB.mro hB ?_ | wp_step))
  refine get ?_;repeat (any_goals (first | assumption | wp_step))
 have by_:∀{A:Around}{tk:Tok}{fill expr:Bool}{Q:zV}{E:zV}{t:Nat},Q (.ref C) ⟨h,g,d,t,os⟩->wpAny (model prog w) A (getAttrBy (.ref x) (.str "__class__" tk) fill expr) Q E ⟨h,g,d,t,os⟩:=by
  intro A tk fill expr Q E t hq;have f3:=FB.ga.bind (.ref x);have hx0:(expr&&onTheHeap (Value.builtin "BaseException.__getattribute__"))=false:=by cases expr<;>rfl
  have hx2:(Value.builtin "BaseException.__getattribute__" == Value.builtin "object.__getattribute__")=false:=by decide +kernel
  have hx1:(onTheHeap (Value.ref C)&&Value.builtin "BaseException.__getattribute__" == Value.builtin "object.__getattribute__")=false:=by rw [hx2];rfl
  repeat (any_goals (first | assumption | (with_reducible refine zAA hx ?_;rw [hc]) | with_reducible refine bD h1 hC hN (hno _ h1) T FB.mro FB.ga.lookup ?_ | with_reducible refine bD h2 hC hN (hno _ h2) T FB.mro FB.noGetattr ?_ | wp_step))
  refine codeAny_call_builtin FB.ga.plain F.entry_bexc_ga (yQ FB hC T hx hc (entry ?_));repeat (any_goals (first | assumption | wp_step))
 unfold getAttr? getAttrBy?;repeat (any_goals (first | assumption | with_reducible apply by_ | wp_step))
end
end XE
namespace L2
open PySem PySem.Spec PyProof.Rows
def aa3 (x C:Addr) (h:Heap):Prop:=∃o vs,h.get? x=some o/\o.cls=.ref C/\o.data=.fields vs
theorem Kg {K:zF}{C x:Addr}{ns:List Str}{ini:Option Addr}(c:kh K C ns ini) (hin:("__class__" : Str)∈ns) (h1:("__getattribute__" : Str)∈ns) (h2:("__getattr__" : Str)∈ns):PySem.W.KitX K (.ref x) (.ref C) (aa3 x C) where
 ty:=λM h _ p=>by
  obtain ⟨o,vs,e1,e2,_⟩:=p;exact e2▸(PySem.W.Looks.ld e1).andThen .now
 it:=λM h X _=>by
  obtain ⟨nm,qn,N,bs,bm,sn,sub,ab,col,dd,k0,k1,k2,k3,k5,lk,fr⟩:=c.cl;intro A' Q' E' s' k q;unfold isType loadHead;exact zAa (wpAny_loadPart (k _ _ (X _ _ lk)) (zAd q))
 ne:=λh tp dd its n sl X htp=>by
  obtain ⟨nm,qn,N,bs,bm,sn,sub,ab,col,dd,k0,k1,k2,k3,k5,lk,fr⟩:=c.cl;refine Bool.eq_false_iff.mpr λq=>?_;have e:C=tp:=Value.ref.inj (beq_iff_eq.mp q);subst e;have z:=congrArg Obj.data (Option.some.inj ((X _ _ lk).symm.trans htp));exact absurd z (λz=>by simp [excClassObj] at z)
 ca:=λ{prog w A E Q s} X p k=>by
  obtain ⟨nm,qn,N,bs,bm,sn,sub,ab,col,dd,k0,k1,k2,k3,k5,lk,fr⟩:=c.cl;obtain ⟨⟨mN,hN,hno,_⟩,T⟩:=fr _ X;obtain ⟨o,vs,e1,e2,_⟩:=p;obtain ⟨hp,gn,dr,tk,os⟩:=s;refine XE.Bt F.attrBase_ValueError (ns:=ns) ?_ hin h1 h2 (by decide +kernel) (X _ _ lk) hN hno XE.Ly e1 e2 k;exact T.sub λn hn=>zAf _ hn
end L2
namespace XE
open PySem
theorem call_plain {prog:Program}{w:World}{A:Around}{E:zV}{h:Heap}{g:Array GenState}{d:Drawn}{t:Nat}{os:OsState}{nm q:Str}{C N:Addr}{bs bm bmB:List Value}{hdct:Bool}{sn:List Str}{sub:List Value}{ab:Bool}{col:Option Bool}{dd:Option Addr}{k0 k1 k2 k3 k5:Option Value}{B Bn newId nid initId inN:String}{bmN:List Value}
  (Fn:ExcBaseFacts Bn newId inN bmN) (hBn:bmB.contains (.type Bn)=true) (F:ExcBaseFacts B nid initId bmB) (T:OwnTail h bmB bm) {mN:Str->Option Value}{us:List Value}{Q:zV}
  (hC:h.get? C=some (excClassObj nm q C N bs bm hdct sn sub ab col dd k0 k1 k2 k3 k5 newId)) (hN:h.Ns N mN) (hi:mN "__init__" = none) (hl:us.length<=sizeLine)
  (hq:∀h',Heap.MadeExcOf h h' (h.objs.size+1) (.ref C) us->Q (.ref (h.objs.size+1)) ⟨h',g,d,t,os⟩):wpAny (model prog w) A (call (.ref C) us) Q E ⟨h,g,d,t,os⟩:=by
 have f1:=tc_lookup;have f2:=tc_bind (.ref C);have ty:(⟨h,g,d,t,os⟩:Shared).TypeIs (.ref C) "type" := ⟨_,hC,rfl⟩;refine zCj (codeAny_of_tree ?_);show wpAny _ _ (callAny (.ref C) _) _ _ _;repeat (any_goals (first | assumption | wp_step | with_reducible refine zAA hC ?_))
 refine ⟨rfl,codeAny_call_builtin_at (Code.quiet_builtin _ (by decide +kernel)) entry_typeCall (wpAny_check_type_call_sub hC ?_)⟩;repeat (first | wp_step | with_reducible refine zAA hC ?_ | with_reducible refine wpAny_madeBy_exc hC ?_)
 refine codeAny_call_builtin_code (Code.quiet_builtin _ Fn.quiet) (wpAny_check_new_subU Fn hBn T hC (codeAny_exc_new_subU Fn hBn F T hC ?_ hl));show wpAny _ _ _ _ _ _;have keep:∀(u v:Obj) b o,h.get? b=some o->((h.push u).push v).get? b=some o:=λu v b o e=>zAb v (zAb u e);have at1:((h.push { cls:=.type "tuple", data:=.seq us.toArray }).push { cls:=.ref C,data:=.fields #[.ref h.objs.size,.none,.none,.none,.bool false,.none] }).get? (h.objs.size+1)=some { cls:=.ref C,data:=.fields #[.ref h.objs.size,.none,.none,.none,.bool false,.none] }:=by heap_get
 have own:(Value.ref C::bm).contains (.ref C)=true:=List.contains_iff_mem.mpr zAm;have C1:=keep { cls:=.type "tuple", data:=.seq us.toArray } { cls:=.ref C,data:=.fields #[.ref h.objs.size,.none,.none,.none,.bool false,.none] } _ _ hC;have N1:=hN.keeps (keep { cls:=.type "tuple", data:=.seq us.toArray } { cls:=.ref C,data:=.fields #[.ref h.objs.size,.none,.none,.none,.bool false,.none] });have T1:=T.keeps (keep { cls:=.type "tuple", data:=.seq us.toArray } { cls:=.ref C,data:=.fields #[.ref h.objs.size,.none,.none,.none,.bool false,.none] });unfold isInstance;repeat (first | with_reducible refine zAA at1 ?_ | wp_step)
 show wpAny _ _ (isSubtype (.ref C) (.ref C)) _ _ _;refine zBm C1 ?_;rw [own];repeat (first | with_reducible refine zAA at1 ?_ | wp_step)
 show wpAny _ _ (typeLookup (.ref C) _) _ _ _;refine wpAny_typeLookup_tail C1 N1 T1 F.mroIs F.init.lookup ?_;rw [hi];refine zAN (zAa (wpAny_of_eq (F.init.bind _) (zAa (zCj (codeAny_call_builtin F.init.plain F.initEntry (wpAny_check_init_subU F T1 C1 at1 rfl ?_))))));wp_walk;refine hq _ ⟨λb o hb=>?_,zBN (zAZ _),h.objs.size+2,?_,zBN (by omega),?_⟩
 ·rw [zAt _ _ (zBu (zAX (zAe hb)))];exact zAb _ (keep _ _ _ _ hb)
 ·rw [zAD _ (zAb _ at1) rfl];simp only [zAF];rfl
 ·rw [zAt _ _ (show h.objs.size+1≠h.objs.size+2 by omega)];exact zBM (by simp only [zAF]) rfl
end XE
namespace L2
open PySem PySem.Spec PyProof.Rows
variable {X:Cx}{e:Expr}
def Vb (c:Str->Prop) (t:TE):TE:=λσ H Q=>t σ H λv H1=>∃x,v=.str x/\c x/\∀z,Q (.str z) H1
abbrev cP:Str->Prop:=λx=>x.length<=1000
theorem jK {n:Nat}(h:n<=3000):n<=sizeLine:=zAB h (by decide)
theorem mW {x y:Str}(hx:x.length<=1000) (hy:y.length<=1000):(Str.empty++x++y).length<=sizeLine:=by
 refine jK ?_;rw [strLen_append,strLen_append];have:Str.empty.length=0:=rfl;omega
theorem uD {x:Str}(hx:x.length<=1000):(Str.empty++x).length<=sizeLine:=by
 refine jK ?_;rw [strLen_append];have:Str.empty.length=0:=rfl;omega
section
variable {t:TE}{p1 p2 p3:Pos}{k:Nat}{c:Str}
theorem Yu (he:PE X e t) (hc:c.length<=1000):PE X (.JoinedStr [.FormattedValue e (-1) none p1,.Constant (.str c) k p2] p3) (Vb cP t):=by
 intro pins s σ H Q I h;refine wpAny_JoinedStr ?_;show wpAny _ _ (eval (.FormattedValue e (-1) none p1) X.env) _ _ _;refine wpAny_FormattedValue_plain (cR (he pins s σ H _ I h) λu s1 ⟨v,H1,I1,rv,x,ex,hx,q⟩=>?_);subst ex;obtain ⟨tk,rfl⟩:=rv;refine formatField_str (λt' tk'=>⟨_,t',rfl,uD hx,?_⟩) (jK (zAB hx (by decide)));show wpAny _ _ (eval (.Constant (.str c) k p2) X.env) _ _ _;exact Calls.Constant_str ⟨c,_,rfl,mW hx hc,mW hx hc,.str _,H1,((I1.tok _).tok _).tok _,⟨_,rfl⟩,q _⟩
theorem ZG (he:PE X e t) (hc:c.length<=1000):PE X (.JoinedStr [.Constant (.str c) k p2,.FormattedValue e (-1) none p1] p3) (Vb cP t):=by
 intro pins s σ H Q I h;refine wpAny_JoinedStr ?_;show wpAny _ _ (eval (.Constant (.str c) k p2) X.env) _ _ _;refine Calls.Constant_str ⟨c,_,rfl,uD hc,?_⟩;show wpAny _ _ (eval (.FormattedValue e (-1) none p1) X.env) _ _ _;refine wpAny_FormattedValue_plain (cR (he pins _ σ H _ (I.tok _) h) λu s1 ⟨v,H1,I1,rv,x,ex,hx,q⟩=>?_);subst ex;obtain ⟨tk,rfl⟩:=rv;exact formatField_str (λt' tk'=>⟨_,t',rfl,mW hc hx,mW hc hx,.str _,H1,(I1.tok _).tok _,⟨_,rfl⟩,q _⟩) (jK (zAB hx (by decide)))
end
section
variable {C:Addr}{x:Str}{p pos:Pos}{es:List Expr}{t:TA}{ns:List Str}
def Ko (X:Cx) (C:Addr) (t:TA):TE:=λσ H Q=>t σ H λvs H1=>vs.length<=100/\∀a,H1 a=none->X.s₀.heap.objs.size<=a->(∀p∈X.pn,p.1≠a)->Q (.ref a) (upd H1 a (.ext (XO a C none)))
theorem wV (c:kh X.K C ns none) (hg:Gl X x) (hm:X.mg x=some (.ref C))
  (ha:PA X (e::es) t) (hdb:(x==("__debug__" : Str))=false:=by decide) (he:starEach (e::es) X.env=(false,eval e X.env)::starEach es X.env:=by rfl) (hpl:(backTo pos (starEach es X.env)).any (·.1)=false:=by rfl) :
  PE X (.Call (.Name x p) (e::es) [] pos) (Ko X C t):=by
 intro pins s σ H Q I h;refine zBt (lq I hg hm ?_ hdb);refine PySem.W.callWith_K (h₀:=X.base) I.ok.mod.kin c.kp (cR (ha pos pins s σ H _ I h) λus s1 ⟨vs,H1,I1,r,hz,q⟩=>⟨I1.jo,?_⟩) he hpl;obtain ⟨nm,qn,N,bs,bm,sn,sub,ab,col,dd,k0,k1,k2,k3,k5,lk,fr⟩:=c.cl;obtain ⟨⟨mN,hN,hno,hin⟩,T⟩:=fr _ I1.jo;obtain ⟨hp,gn,dr,tk,os⟩:=s1;refine XE.call_plain F.excBase_ValueError (by decide +kernel) F.excBase_ValueError (T.tail (by simp)) (I1.jo _ _ lk) hN hin (by show us.length<=sizeLine;rw [<-r.length];exact zAB hz (by decide)) λh' hm'=>?_;obtain ⟨t0,ho,_,_⟩:=hm'.there;have fresh:H1 (hp.objs.size+1)=none:=I1.hok.fresh (zAZ _);have I2:Inv X pins σ H1 ⟨h',gn,dr,tk,os⟩:=I1.kept (t':=tk) hm'.keeps;have up:∀b,b < hp.objs.size->b≠hp.objs.size+1:=λb hb z=>by rw [z] at hb;exact absurd hb (Nat.not_lt.mpr (zAZ _))
 have I3:Inv X pins σ (upd H1 (hp.objs.size+1) (.ext (XO (hp.objs.size+1) C none))) ⟨h',gn,dr,tk,os⟩:=by
  refine I2.track fresh ⟨.inr (zAB I1.sz (zAZ _)),(up _ I1.lt).symm,λx c e=>?_,λp hp'=>?_⟩ (JR ⟨_,_,ho,rfl,rfl⟩)
  ·obtain ⟨v,q⟩:=I1.cell x c e;exact up _ q.lt
  ·exact up _ (zAe (I1.pin p hp').1)
 exact ⟨.ref (hp.objs.size+1),_,I3,rfl,q _ fresh (zAB I1.sz (zAZ _)) λp hp'=>up _ (zAe (I1.pin p (zBe _ hp')).1)⟩
end
end L2
namespace Y
open PySem L2
open Z (fG dI aZ dM bJ eZ cV bG lim cM bM)
variable {X:Cx}{f:FE}{pos:Pos}
def jV (ks:List Addr) (isD:Addr->Bool):O1:=λx S=>match x with
 |.p k=>match S[k]? with
  |some (.exc C _)=>if C∈ks then .ok (.d (.bl (isD C))) S else .no
  |_=>.no
 |_=>.no
def Xy (K:zF):List V->Hp->VK->Prop:=λxs H Q=>∃a oe u vs C ns ini c b y,xs=[.ref a,y]/\(∀u,RelV y u->u=c)/\H a=some (.frz oe u)/\oe.cls=.ref C/\oe.data=.fields vs/\kh K C ns ini/\(("__class__" : Str)∈ns/\("__getattribute__" : Str)∈ns/\("__getattr__" : Str)∈ns)/\PySem.W.kitOne K (.ref C) c=some b/\Q (.bl b) H
section
variable {a:Expr}{p1 p2:Pos}{c:Str}{ks:List Addr}{isD:Addr->Bool}
theorem zY:g8 X (.builtin "isinstance") (Xy X.K):=by
 intro pins s σ H xs us Q I r h;obtain ⟨a,oe,u,vs,C,ns,ini,c,b,y,rfl,hu,ha,hc,hd,xc,⟨h1,h2,h3⟩,e,q⟩:=h;obtain ⟨u1,u2,rfl,ru,rw'⟩:=vals2 r;cases hu _ rw'
 cases ru
 have ho:=(show bw X.prog X.w H s.heap a (.frz oe u) from I.hok a _ ha).1;exact PySem.W.kia_one (Kg xc h1 h2 h3) I.jo ⟨oe,vs,ho,hc,hd⟩ e (λz=>nomatch z) λtk=>⟨.bl b,H,I.tok _,rfl,q⟩
def yC (K:zF) (ks:List Addr) (c:Value) (isD:Addr->Bool):Prop:=∀C∈ks,(∃ns ini,kh K C ns ini/\(("__class__" : Str)∈ns/\("__getattribute__" : Str)∈ns/\("__getattr__" : Str)∈ns))/\PySem.W.kitOne K (.ref C) c=some (isD C)
theorem Le {cv:Value}{y:V}{ty:TE}(hI:yC X.K ks cv isD) (hy:∀u,RelV y u->u=cv) (hty:∀σ H Q,Q y H->ty σ H Q):∀σ H Q,tF X (un (jV ks isD) f) σ H Q->Xn (Xy X.K) (qN (tF X f) (qN ty Gq)) σ H Q:=λσ H Q q=>by
 obtain ⟨ρ,S,m,Rr,W,q⟩:=q;refine ⟨ρ,S,m,Rr,W,q.bind.imp λx S1 q v H1 m1 x1 w1 r1=>hty _ _ _ ?_⟩;unfold jV at q;split at q
 ·rename_i k;obtain ⟨l,hl,rfl⟩:=RA.fH.mp r1;split at q
  ·rename_i C fs hc;split at q
   ·rename_i hk;obtain ⟨oe,u,vs,e1,⟨e2,e3,_⟩,_⟩:=w1.cell k l _ hl hc;obtain ⟨⟨ns,ini,xc,hns⟩,hkit⟩:=hI C hk;exact ⟨l,oe,u,vs,C,ns,ini,cv,_,y,rfl,hy,e1,e2,e3,xc,hns,hkit,q _ H1 m1 x1 w1 iC⟩
   ·exact q.elim
  ·exact q.elim
 ·exact q.elim
theorem iD {D:Addr}(hI:yC X.K ks (.ref D) isD) (hg:Gl X "isinstance") (hm:X.mg "isinstance" = none) (hgc:Gl X c) (hmc:X.mg c=some (.ref D)) (ha:QE X a f) (hs:noStar a=true:=by rfl) (hd:(c==("__debug__" : Str))=false:=by decide)
  (h1:starEach [a,.Name c p2] X.env=(false,eval a X.env)::starEach [.Name c p2] X.env:=by rfl) (h2:(backTo pos (starEach [.Name c p2] X.env)).any (·.1)=false:=by rfl):QE X (.Call (.Name "isinstance" p1) [a,.Name c p2] [] pos) (un (jV ks isD) f):=
 lM (iT zY hg hm jW (Am ha (Am (rN (v:=.ref D) hgc hmc rfl hd) fC rfl) hs) (by decide) (by decide) h1 h2) (Le (y:=.ref D) hI (λu z=>z) λσ H Q q=>q)
theorem Tz {T:String}(hI:yC X.K ks (.type T) isD) (hg:Gl X "isinstance") (hm:X.mg "isinstance" = none) (hgc:Gl X c) (hmc:X.mg c=none) (hb:bootBuiltins c=some (.type T)) (ha:QE X a f) (hs:noStar a=true:=by rfl) (hn:c ≠ "__name__" := by decide) (hd:(c==("__debug__" : Str))=false:=by decide)
  (h1:starEach [a,.Name c p2] X.env=(false,eval a X.env)::starEach [.Name c p2] X.env:=by rfl) (h2:(backTo pos (starEach [.Name c p2] X.env)).any (·.1)=false:=by rfl):QE X (.Call (.Name "isinstance" p1) [a,.Name c p2] [] pos) (un (jV ks isD) f):=
 lM (iT zY hg hm jW (Am ha (Am (Fx (v:=.ty T) hgc hmc hb rfl hn hd) fC rfl) hs) (by decide) (by decide) h1 h2) (Le (y:=.ty T) hI (λu z=>z) λσ H Q q=>q)
end
section
variable {C g:Addr}{k:Nat}{fd:FuncData}{ps:List Str}{x n n2:Str}{p:Pos}{e:Expr}{es:List Expr}{fa:FA}{ns:List Str}
def jh (C:Addr) (c:Str->Bool) (f:FE):FS:=λρ S=>(f ρ S).bind λy S=>match y with
 |.d (.str z)=>if c z=true then .ex ⟨C,[]⟩ S else .no
 |_=>.no
theorem vg {c:Str->Bool}{cc:Str->Prop}(hc:∀z,c z=true->cc z):∀De σ H,Ml X (jh C c f) De σ H->xG X C (Ko X C (qN (Vb cc (tF X f)) Gq)) De σ H:=by
 rintro De σ H ⟨ρ,S,m,Rr,W,q⟩;refine ⟨ρ,S,m,Rr,W,q.bind.imp λy S1 q v H1 m1 x1 w1 r1=>?_⟩;split at q
 ·rename_i z;split at q
  ·rename_i hz;cases jJ r1
   refine ⟨z,rfl,hc z hz,λz2=>⟨by show 1<=100;decide,λa ha hy hpn=>⟨a,none,rfl,hy,hpn,aJ,?_⟩⟩⟩;have e:del (upd H1 a (.ext (XO a C none))) a=H1:=by
    funext b;by_cases zb:b=a
    ·rw [zb,j4,ha]
    ·rw [jP zb,aA zb]
   rw [e];exact q _ _ _ m1 x1 w1 ⟨rfl,.inl ⟨rfl,rfl⟩⟩
  ·exact q.elim
 ·exact q.elim
open PySem.Spec in
abbrev bP (z:Str):Bool:=decide (z.length<=1000)
theorem Rh (z:Str) (h:bP z=true):cP z:=of_decide_eq_true h
section
variable {j:Nat}{t:Str}{p1 p2 p3 pos':Pos}
theorem Gi (c:kh X.K C ns none) (hh:X.A.handled=none) (hg:Gl X x) (hm:X.mg x=some (.ref C)) (he:QE X e f) (ht:t.length<=1000) (hdb:(x==("__debug__" : Str))=false:=by decide) (hpl:(backTo pos (starEach [] X.env)).any (·.1)=false:=by rfl) :
  QS X (.Raise (some (.Call (.Name x p) [.JoinedStr [.FormattedValue e (-1) none p1,.Constant (.str t) j p2] p3] [] pos)) none pos') (jh C bP f):=CJ (p8 c hh (wV c hg hm (Am (Yu he ht) fC) hdb)) (vg Rh)
theorem GQ (c:kh X.K C ns none) (hh:X.A.handled=none) (hg:Gl X x) (hm:X.mg x=some (.ref C)) (he:QE X e f) (ht:t.length<=1000) (hdb:(x==("__debug__" : Str))=false:=by decide) (hpl:(backTo pos (starEach [] X.env)).any (·.1)=false:=by rfl) :
  QS X (.Raise (some (.Call (.Name x p) [.JoinedStr [.Constant (.str t) j p2,.FormattedValue e (-1) none p1] p3] [] pos)) none pos') (jh C bP f):=CJ (p8 c hh (wV c hg hm (Am (ZG he ht) fC) hdb)) (vg Rh)
end
end
end Y
namespace L2
open PySem PySem.Spec PyProof.Rows
def RV (K:zF) (H:Hp):Nat->V->Str->Prop
 |0,v,t=>t.length<=1000/\match v with
  |.str x=>t=reprText x
  |.int i=>Nat.log2 i.natAbs < 1920/\t=Str.ofString (toString i)
  |.bl b=>t=if b=true then Str.ofString "True" else Str.ofString "False"
  |.non=>t=Str.ofString "None"
  |_=>False
 |n+1,v,t=>∃a u t',v=.ref a/\iG K H a [u]/\RV K H n u t'/\t=tupleText [t']
def Zx (K:zF) (H:Hp) (v:V):Prop:=∃n t,n<=20/\RV K H n v t/\t.length<=1000
def Ry (X:Cx) (t:TE):TE:=λσ H Q=>t σ H λv H1=>Zx X.K H1 v/\∀z,Q (.str z) H1
section
variable {X:Cx}{e:Expr}{t:TE}{p1 p2 p3:Pos}{k:Nat}{c:Str}{pins:List (Addr×Obj)}{σ:St}{H:Hp}{s:Shared}
theorem wC (I:Inv X pins σ H s):∀(k n:Nat) (v:V) (t t':Str),RV X.K H k v t->RV X.K H n v t'->k=n
 |0,0,_,_,_,_,_=>rfl
 |0,n+1,v,t,t',h,h'=>by obtain ⟨a,u,_,rfl,_⟩:=h';exact h.2.elim
 |k+1,0,v,t,t',h,h'=>by obtain ⟨a,u,_,rfl,_⟩:=h;exact h'.2.elim
 |k+1,n+1,v,t,t',h,h'=>by
  obtain ⟨a,u,t1,rfl,h1,h2,_⟩:=h;obtain ⟨b,w,t2,e,h3,h4,_⟩:=h';cases e
  have:=I.qy h1 h3;cases this
  rw [wC I k n u _ _ h2 h4]
theorem Mw (I:Inv X pins σ H s):∀(n:Nat) (v:V) (u:Value) (t:Str),RV X.K H n v t->RelV v u->∃as,ReprK X.prog X.w as s.heap n u t/\∀b∈as,∃k t',k<=n/\RV X.K H k (.ref b) t'
 |0,v,u,t,h,r=>by
  obtain ⟨hl,h⟩:=h;refine ⟨[],?_,λb hb=>absurd hb (by simp)⟩;cases v with
  |str x=>obtain ⟨tk,rfl⟩:=r;cases h;exact .of_is (.str x tk (jK (zAB hl (by decide)))) _ _ _
  |int i=>obtain ⟨tk,rfl⟩:=r;obtain ⟨h1,rfl⟩:=h;exact .of_is (.int tk h1) _ _ _
  |bl b=>cases r;cases h;exact .of_is (by have:=ReprIs.bool (prog:=X.prog) (w:=X.w) b;cases b<;>exact this) _ _ _
  |non=>cases r;cases h;exact .of_is .none _ _ _
  |ref a=>exact h.elim
  |byt b=>exact h.elim
  |flt b=>exact h.elim
  |ty n=>exact h.elim
 |n+1,v,u,t,h,r=>by
  have h0:=h;obtain ⟨a,w,t',rfl,h1,h2,rfl⟩:=h;cases r
  obtain ⟨its,hv,⟨o,ho,hcl,m,hd⟩,_⟩:=I.tuple h1;cases hv with
  |cons r1 r2=>
   cases r2
   obtain ⟨as,q1,q2⟩:=Mw I n w _ t' h2 r1;refine ⟨a::as,.tuple ho hcl hd (λha=>?_) (.cons q1 .nil),λb hb=>?_⟩
   ·obtain ⟨k,t2,q3,q4⟩:=q2 a ha;have:=wC I k (n+1) _ _ _ q4 h0;omega
   ·rcases zBv.mp hb with rfl | hb
    ·exact ⟨n+1,_,zAq _,h0⟩
    ·obtain ⟨k,t2,q3,q4⟩:=q2 b hb;exact ⟨k,t2,by omega,q4⟩
theorem Wh (hg:X.A.guards=some []) (hu:X.A.units+64 < cLine) (he:PE X e t) (hc:c.length<=1000):PE X (.JoinedStr [.FormattedValue e 114 none p1,.Constant (.str c) k p2] p3) (Ry X t):=by
 intro pins s σ H Q I h;refine wpAny_JoinedStr ?_;show wpAny _ _ (eval (.FormattedValue e 114 none p1) X.env) _ _ _;refine wpAny_FormattedValue_repr (cR (he pins s σ H _ I h) λu s1 ⟨v,H1,I1,rv,⟨n,t,hn,hx,hl⟩,q⟩=>?_);refine cR (Q:=λu s2=>∃tk,u=.str t tk/\Inv X pins σ H1 s2) ?_ λu s2 ⟨tk,e,I2⟩=>?_
 ·cases n with
  |zero=>
   obtain ⟨_,hx⟩:=hx;cases v with
   |str x=>obtain ⟨tk,rfl⟩:=rv;cases hx;exact wpAny_pyReprObj_str ⟨_,rfl,I1.tok _⟩ (jK (zAB hl (by decide)))
   |int i=>obtain ⟨tk,rfl⟩:=rv;obtain ⟨h1,rfl⟩:=hx;exact pyReprObj_int h1 ⟨_,rfl,I1.tok _⟩
   |bl b=>cases rv;cases hx;exact pyReprObj_bool ⟨_,rfl,I1.tok _⟩
   |non=>cases rv;cases hx;exact pyReprObj_none ⟨_,rfl,I1.tok _⟩
   |ref a=>exact hx.elim
   |byt b=>exact hx.elim
   |flt b=>exact hx.elim
   |ty n=>exact hx.elim
  |succ n=>
   have h0:=hx;obtain ⟨a,w,t',rfl,h1,h2,rfl⟩:=hx;cases rv
   obtain ⟨its,hv,⟨o,ho,hcl,m,hd⟩,_⟩:=I1.tuple h1;cases hv with
   |cons r1 r2=>
    cases r2
    obtain ⟨as,q1,q2⟩:=Mw I1 n w _ t' h2 r1;refine wpAny_pyReprObj_tupleK ho hcl hd (λha=>?_) (.cons q1 .nil) hg (λb _=>Clear.nil b) (by omega) (λ_ _ e=>e) (λh' u tk kp=>⟨_,rfl,I1.kept kp⟩) (jK (zAB hl (by decide)));obtain ⟨k,t2,q3,q4⟩:=q2 a ha;have:=wC I1 k (n+1) _ _ _ q4 h0;omega
 ·subst e;refine formatField_str (λt' tk'=>⟨_,t',rfl,uD hl,?_⟩) (jK (zAB hl (by decide)));show wpAny _ _ (eval (.Constant (.str c) k p2) X.env) _ _ _;exact Calls.Constant_str ⟨c,_,rfl,mW hl hc,mW hl hc,.str _,H1,(I2.tok _).tok _,⟨_,rfl⟩,q _⟩
end
end L2
namespace Y
open PySem L2
open PySem.Spec
variable {t:Str}{d:D}
def RX (t:Str):Option Str:=if t.length<=1000 then some t else none
def rp0:D->Option Str
 |.str z=>RX (reprText z)
 |.int i=>if Nat.log2 i.natAbs < 1920 then RX (Str.ofString (toString i)) else none
 |.bl b=>RX (if b=true then Str.ofString "True" else Str.ofString "False")
 |.non=>RX (Str.ofString "None")
 |_=>none
def Xj:Nat->D->Option Str
 |0,d=>rp0 d
 |n+1,d=>match d with
  |.tup [e]=>(Xj n e).map λt=>tupleText [t]
  |d=>rp0 d
def bV (d:D):Bool:=match Xj 20 d with
 |some t=>decide (t.length<=1000)
 |none=>false
def o9 (C:Addr) (c:D->Bool) (f:FE):FS:=λρ S=>(f ρ S).bind λy S=>match y with
 |.d z=>if c z=true then .ex ⟨C,[]⟩ S else .no
 |_=>.no
section
variable {K:zF}{m:List Addr}{H:Hp}{v:V}
theorem wH {t':Str}(h:RX t=some t'):t=t'/\t.length<=1000:=by
 unfold RX at h;split at h
 ·cases h;exact ⟨rfl,by assumption⟩
 ·cases h
theorem J_ (h:rp0 d=some t) (r:Rep K H d v):RV K H 0 v t:=by
 cases d with
 |str z=>unfold Rep at r;subst r;obtain ⟨rfl,h2⟩:=wH h;exact ⟨h2,rfl⟩
 |int i=>
  unfold Rep at r;subst r;have h':(if Nat.log2 i.natAbs < 1920 then RX (Str.ofString (toString i)) else none)=some t:=h;split at h'
  ·obtain ⟨rfl,h2⟩:=wH h';exact ⟨h2,by assumption,rfl⟩
  ·cases h'
 |bl b=>unfold Rep at r;subst r;obtain ⟨rfl,h2⟩:=wH h;exact ⟨h2,rfl⟩
 |non=>unfold Rep at r;subst r;obtain ⟨rfl,h2⟩:=wH h;exact ⟨h2,rfl⟩
 |lst l=>cases h
 |tup l=>cases h
theorem KN:∀(n:Nat) {d:D}{t:Str}{v:V},Xj n d=some t->Rep K H d v->∃k,k<=n/\RV K H k v t
 |0,_,_,_,h,r=>⟨0,zAq _,J_ h r⟩
 |n+1,d,t,v,h,r=>by
  unfold Xj at h;split at h
  ·rename_i e;obtain ⟨t',h1,rfl⟩:=Option.map_eq_some_iff.mp h;unfold Rep at r;obtain ⟨a,vs,rfl,q1,q2⟩:=r;unfold aD at q2;obtain ⟨u,us,rfl,q3,q4⟩:=q2;unfold aD at q4;subst q4;obtain ⟨k,k1,k2⟩:=KN n h1 q3;exact ⟨k+1,by omega,a,u,t',rfl,q1,k2,rfl⟩
  ·exact ⟨0,zBf _,J_ h r⟩
theorem Zw (h:bV d=true) (r:RA K m H (.d d) v):Zx K H v:=by
 have r2:=Rep.same Z.dM (RA.cI.mp r);unfold bV at h;split at h
 ·rename_i t e;obtain ⟨k,k1,k2⟩:=KN 20 e r2;exact ⟨k,t,k1,k2,of_decide_eq_true h⟩
 ·cases h
end
section
variable {X:Cx}{C:Addr}{k:Nat}{x:Str}{p pos:Pos}{e:Expr}{f:FE}{ns:List Str}
theorem HX:∀De σ H,Ml X (o9 C bV f) De σ H->xG X C (Ko X C (qN (Ry X (tF X f)) Gq)) De σ H:=by
 rintro De σ H ⟨ρ,S,m,Rr,W,q⟩;refine ⟨ρ,S,m,Rr,W,q.bind.imp λy S1 q v H1 m1 x1 w1 r1=>?_⟩;split at q
 ·rename_i z;split at q
  ·rename_i hz;refine ⟨Zw hz r1,λz2=>⟨by show 1<=100;decide,λa ha hy hpn=>⟨a,none,rfl,hy,hpn,aJ,?_⟩⟩⟩;have e:del (upd H1 a (.ext (XO a C none))) a=H1:=by
    funext b;by_cases zb:b=a
    ·rw [zb,j4,ha]
    ·rw [jP zb,aA zb]
   rw [e];exact q _ _ _ m1 x1 w1 ⟨rfl,.inl ⟨rfl,rfl⟩⟩
  ·exact q.elim
 ·exact q.elim
variable {j:Nat}{p1 p2 p3 pos':Pos}
theorem G9 (c:kh X.K C ns none) (hgd:X.A.guards=some []) (hu:X.A.units+64 < cLine) (hh:X.A.handled=none) (hg:Gl X x) (hm:X.mg x=some (.ref C)) (he:QE X e f) (ht:t.length<=1000) (hdb:(x==("__debug__" : Str))=false:=by decide) (hpl:(backTo pos (starEach [] X.env)).any (·.1)=false:=by rfl) :
  QS X (.Raise (some (.Call (.Name x p) [.JoinedStr [.FormattedValue e 114 none p1,.Constant (.str t) j p2] p3] [] pos)) none pos') (o9 C bV f):=CJ (p8 c hh (wV c hg hm (Am (Wh hgd hu he ht) fC) hdb)) HX
end
end Y
namespace Y
open PySem L2
open Z (lim bM)
def uw (S:aM):A->Option (List A)
 |.p k=>match S[k]? with
  |some c=>c.its
  |none=>none
 |.d (.lst ds)=>some (ds.map .d)
 |_=>none
def zW (xs:List A) (lo hi:Option Int):List A:=(xs.drop (HT.nG xs.length 0 lo)).take (HT.nG xs.length xs.length hi-HT.nG xs.length 0 lo)
def Br (f g:FE):FE:=λρ S=>(f ρ S).bind λx S=>(g ρ S).bind λy S=>match uw S x,uw S y with
 |some xs,some ys=>if xs.length+ys.length<=lim then .ok (.p S.length) (S++[.gen (xs++ys)]) else .no
 |_,_=>.no
def xV (f:FE) (l h:FO):FE:=λρ S=>(f ρ S).bind λx S=>(l ρ S).bind λlo S=>(h ρ S).bind λhi S=>match uw S x with
 |some xs=>.ok (.p S.length) (S++[.gen (zW xs lo hi)])
 |none=>.no
section
variable {K:zF}{m:List Addr}{S:aM}{H:Hp}{x:A}{v:V}{xs:List A}
theorem wA (w:Wd K m S H) (r:RA K m H x v) (e:uw S x=some xs):∃a vs,v=.ref a/\cB K H a vs/\bf K m H xs vs:=by
 cases x with
 |p k=>
  obtain ⟨a,ha,rfl⟩:=RA.fH.mp r;cases hc:S[k]? with
  |none=>simp [uw,hc] at e
  |some c=>
   simp only [uw,hc] at e;obtain ⟨vs,h1,h2⟩:=jk (w.cell k a c ha hc) e;exact ⟨a,vs,rfl,cB.of h1,h2⟩
 |d y=>
  cases y with
  |lst ds=>
   cases e
   have r2:=RA.cI.mp r;unfold Rep at r2;obtain ⟨a,vs,rfl,h1,h2⟩:=r2;exact ⟨a,vs,rfl,cB.pY h1,dO h2⟩
  |_=>cases e
 |t _=>cases e
 |k _=>cases e
end
section
variable {X:Cx}{a b e:Expr}{f g:FE}{pos:Pos}
theorem Dg (ha:QE X a f) (hb:QE X b g):QE X (.BinOp a .Add b pos) (Br f g):=lM (Kw xq ha hb) λσ H Q q=>by
 obtain ⟨ρ,S,m,Rr,W,q⟩:=q;refine ⟨ρ,S,m,Rr,W,q.bind.imp λx S1 q v H1 m1 x1 w1 r1=>⟨ρ,S1,m1,Rr.ext x1,w1,(q.step x1).bind.imp λy S2 q u H2 m2 x2 w2 r2=>?_⟩⟩;split at q
 ·rename_i xs ys h1 h2;split at q
  ·rename_i hl;obtain ⟨l,vs,rfl,s1,q1⟩:=wA w2 (r1.ext x2) h1;obtain ⟨b,us,rfl,s2,q2⟩:=wA w2 r2 h2;refine ⟨l,b,vs,us,rfl,rfl,s1,s2,by rw [q1.length,q2.length];exact bM hl,λp hp=>?_⟩;exact q _ _ _ ((x1.trans x2).trans (Xt.rG hp)) (w2.uf hp (q1.app q2)) (gF w2)
  ·exact q.elim
 ·exact q.elim
theorem Fe {lo hi:Option Expr}{l h:FO}{p2:Pos}(he:QE X e f) (hl:QO X lo l) (hh:QO X hi h):QE X (.Subscript e (.Slice lo hi none p2) pos) (xV f l h):=lM (yL Dr he hl hh) λσ H Q q=>by
 obtain ⟨ρ,S,m,Rr,W,q⟩:=q;refine ⟨ρ,S,m,Rr,W,q.bind.imp λx S1 q v H1 m1 x1 w1 r1=>⟨ρ,S1,m1,Rr.ext x1,w1,(q.step x1).bind.imp λlo S2 q H2 m2 x2 w2=>⟨ρ,S2,m2,(Rr.ext x1).ext x2,w2,(q.step x2).bind.imp λhi S3 q H3 m3 x3 w3=>?_⟩⟩⟩;split at q
 ·rename_i xs hd;obtain ⟨a,vs,rfl,h1,h2⟩:=wA w3 ((r1.ext x2).ext x3) hd;refine ⟨a,vs,rfl,h1,λp hp=>?_⟩;have hr:bf X.K m3 H3 (zW xs lo hi) (L2.yj vs lo hi):=by
   unfold zW L2.yj;rw [h2.length];exact bf.take _ (bf.drop _ h2)
  exact q _ _ _ ((x1.trans (x2.trans x3)).trans (Xt.rG hp)) (w3.uf hp hr) (gF w3)
 ·exact q.elim
end
end Y
namespace K17
open PySem L2 Y
open Y (bin)
open Wb
abbrev ks (c:Nat->Addr):List Addr:=[c 1,c 2,c 3,c 4,c 5,c 6,c 7,c 8,c 9,c 10,c 11,c 12]
def gM (c:Nat->Addr):FS:=(jf (U6 (var 0)) (gT 2 (aH (gN 1) (aH (gN 2) bY))) (je (bZ (bin (eE false) (var 2) (tU (var 0) Aq (iB (var 1))))) (jh (c 2) bP (var 2)) bU))
def bN (c:Nat->Addr):FF:=nT lO 1 3 (gM c)
def eX (c:Nat->Addr):FS:=(jf (cC (var 0)) (gN 2) (je (bZ (bin (eE true) (var 2) (var 1))) (jh (c 3) bP (var 2)) bU))
def bx (c:Nat->Addr):FF:=nT lO 2 3 (eX c)
def ji:FS:=(aG (aP 2 (cL (fV (aj (bin fK (var 1) (cst (.int 0))) au)))) (rQ (fP (cst (.bl true))) (aG (aP 3 (bin fK (gY (cC (bin fK (var 0) (bin fK (var 2) (un uT (cst (.int 1)))))) (gN 0) (bZ (bin (eE false) (var 0) (var 1))) (var 0) 1 [1]) (cst (.int 0)))) (aG (je (bZ (bin (eE false) (var 3) (var 2))) (cj (tU (var 2) (iB (lR "list" qM (var 2) (aj (var 3) au))) Aq)) bU) (bW (lR "list" (mR nP) (var 2) (aj (var 3) au))))) 60))
def fL:FF:=g_ lO 2 4 (ji)
def gD (c:Nat->Addr):FS:=(aG (aP 1 dNew) (aG (rQ (bZ (bin (oI Z.Nf) (cal cH (aj (var 1) au)) (cal cH (aj (var 0) au)))) (aG (aP 2 (gY (cC (var 0)) (gN 0) (bZ (bin (eE true) (var 0) (var 1))) (var 0) 1 [1])) (aG (aP 3 (gY (cC (var 2)) (gN 0) (fP (cal (nR true) (aj (gY (cC (bin fK (var 1) (var 0))) (gN 0) iy (bin (eE false) (var 0) (var 1)) 1 [2]) au))) (var 0) 1 [0,1])) (aG (je (lD (fP (var 3))) (nA (c 9) "ring" (aW fL (aj (var 0) (aj (var 2) au)))) bU) (jf (cC (var 3)) (gN 4) (aG (Hf yM (Gb (var 4) (cst (.bl true))) (var 1) (var 4)) (jf (cC (bin fK (var 0) (var 4))) (gN 5) (bW (lR "dict" Ad (bin fK (var 1) (var 4)) (aj (bin fK (var 1) (var 5)) au))))))))) 30) (cj (var 1))))
def bI (c:Nat->Addr):FF:=nT Nh 1 6 (gD c)
end K17
namespace K13
open PySem L2 Y
open Y (bin)
open Wb
abbrev ks (c:Nat->Addr):List Addr:=[c 1,c 2,c 3,c 4,c 5,c 6,c 7,c 8,c 9,c 10,c 11,c 12]
abbrev rs (c:Nat->Addr):List Addr:=[c 1,c 2,c 3,c 9]
def fj:FS:=(aG (je (yN (lD (fP (un (yx "str") (var 0)))) (yN (bZ (bin (eE false) (var 0) (dL (fV (aj (cst (.str "any")) (aj (cst (.str "none")) (aj (cst (.str "blank")) (aj (cst (.str "new")) (aj (cst (.str "on")) au))))))))) (yN (bZ (bin (oI Z.Zd) (cal cH (aj (var 0) au)) (cst (.int 8)))) (bZ (bin (oEq false) (var 0) (cst (.str ""))))))) (cj (cst (.bl false))) bU) (cj (bin (oEq false) (gY (cC (var 0)) (gN 0) (bZ (bin (eE true) (var 0) (cst (.str "abcdefghijklmnopqrstuvwxyz")))) (var 0) 1 []) (dL (fV au)))))
def bO:FF:=g_ lO 1 1 (fj)
def lZ:FS:=(aG (aP 1 (dL (oO iW (aj (var 0) au)))) (aG (jf (Pa (cal cH (aj (var 0) au))) (gN 2) (aG (aP 3 (gY (cC (var 1)) (gT 2 (aH (gN 0) (aH (gN 1) bY))) iy (var 0) 2 [])) (aP 1 (gY (cC (var 1)) (gT 2 (aH (gN 0) (aH (gN 1) bY))) (bZ (bin (oEq true) (gY (cC (var 1)) (gN 0) (bZ (bin (eE false) (var 0) (var 1))) (var 0) 1 [2]) (dL (fV au)))) (iU (aj (var 0) (aj (var 1) au))) 2 [3])))) (cj (var 1))))
def iV:FF:=g_ lO 1 4 (lZ)
def jB:FS:=(aG (aP 2 (Pq (var 1))) (aG (je (yN (lD (fP (un (yx "list") (var 0)))) (yN (bZ (bin (oEq false) (var 0) (dL (fV au)))) (bZ (bin (oEq true) (mz (var 0)) (cal cH (aj (var 0) au)))))) (cj (cst (.bl false))) bU) (aG (jf (WD (var 0) (dL (Aa wN (tU (var 0) (iB (cst (.int 1))) Aq) (tU (var 0) Aq (iB (cst (.int 1))))))) (gT 2 (aH (gN 3) (aH (gN 4) bY))) (je (yN (bZ (bin (eE true) (var 3) (var 2))) (bZ (bin (eE true) (var 4) (bin fK (var 2) (var 3))))) (cj (cst (.bl false))) bU)) (cj (cst (.bl true))))))
def gU:FF:=g_ lO 2 5 (jB)
def jt (c:Nat->Addr):FS:=(aG (aP 1 (dL (fV (aj (un (jV (ks c) (λa=>decide (a=(c 1)))) (var 0)) (aj (un (jV (ks c) (λa=>decide (a=(c 2)))) (var 0)) (aj (un (jV (ks c) (λa=>decide (a=(c 3)))) (var 0)) (aj (un (jV (ks c) (λa=>decide (a=(c 9)))) (var 0)) au))))))) (aG (aP 2 (dL (fV (aj (un (jV (ks c) (λa=>decide (a=(c 10)))) (var 0)) (aj (un (jV (ks c) (λa=>decide (a=(c 8)))) (var 0)) (aj (un (jV (ks c) (λa=>decide (a=(c 6)))) (var 0)) (aj (un (jV (ks c) (λa=>decide (a=(c 12)))) (var 0)) au))))))) (aG (aP 2 (dL (Aa wN (var 2) (dL (fV (aj (un (jV (ks c) (λa=>decide (a=(c 5)))) (var 0)) (aj (un (jV (ks c) (λa=>decide (a=(c 11)))) (var 0)) (aj (un (jV (ks c) (λa=>decide (a=(c 4)))) (var 0)) (aj (un (jV (ks c) (λa=>decide (a=(c 7)))) (var 0)) au))))))))) (aG (je (yN (bZ (bin (eE false) (cst (.bl true)) (var 2))) (yN (bZ (bin (oEq true) (cal cH (aj (gY (cC (var 1)) (gN 0) (fP (var 0)) (var 0) 1 []) au)) (cst (.int 1)))) (lD (fP (un (jV (ks c) (λ_=>true)) (var 0)))))) (cj (cst (.str "other"))) bU) (cj (bin fK (dL (fV (aj (cst (.str "name")) (aj (cst (.str "taken")) (aj (cst (.str "kind")) (aj (cst (.str "ring")) au)))))) (lR "list" qM (var 1) (aj (cst (.bl true)) au))))))))
def h_ (c:Nat->Addr):FF:=g_ lO 1 3 (jt c)
def pB (c:Nat->Addr):FS:=(jf (cC (var 0)) (gN 1) (je (lD (fP (aW jm (aj (var 1) au)))) (o9 (c 1) bV (var 1)) bU))
def jL (c:Nat->Addr):FF:=nT lO 1 2 (pB c)
def iR:FS:=(aG (aP 2 (Xh (cC (var 0)) (gT 2 (aH (gN 0) (aH (gN 1) bY))) iy (iU (aj (var 0) (aj (cL (oO iW (aj (var 1) au))) au))) 2 [])) (aG (aP 3 (bin (oI Z.bH) (var 1) (cst (.int 5)))) (aG (je (yN (bZ (bin (oEq false) (var 2) (dL (fV au)))) (bZ (bin (oEq false) (var 3) (cst (.int 0))))) (cj (var 2)) bU) (aG (aP 4 (bin (oI Z.bH) (bin (oI Z.dz) (var 1) (cst (.int 5))) (cal cH (aj (var 2) au)))) (aG (Qz (bin fK (var 2) (var 4)) (gT 2 (aH (gN 5) (aH (gN 6) bY)))) (aG (aP 7 (bin fK (bin fK (var 2) (bin (oI Z.bH) (bin (oI Z.dz) (var 1) (cst (.int 200))) (cal cH (aj (var 2) au)))) (cst (.int 0)))) (aG (je (bZ (bin (oEq false) (var 3) (cst (.int 1)))) (aG (aP 8 (bin fK (dL (fV (aj (cst (.str "")) (aj (cst (.str "new")) (aj (cst (.str "Ab")) (aj (cst (.str "ninelongs")) (aj (cst (.int 5)) (aj (cst .non) (aj (cst (.str "a1")) (aj (cst (.bl true)) (aj (iU (aj (var 5) au)) au))))))))))) (bin (oI Z.bH) (bin (oI Z.dz) (var 1) (cst (.int 9000))) (cst (.int 9))))) (aG (je (bZ (bin (oEq false) (bin (oI Z.bH) (bin (oI Z.dz) (var 1) (cst (.int 80000))) (cst (.int 2))) (cst (.int 0)))) (cj (Br (Br (xV (var 2) Aq (iB (var 4))) (Ou (aj (iU (aj (var 8) (aj (var 6) au))) au))) (xV (var 2) (iB (bin dh (var 4) (cst (.int 1)))) Aq))) bU) (bW (lR "list" (mR lJ) (var 6) (aj (bin (oI Z.bH) (bin (oI Z.dz) (var 1) (cst (.int 200))) (bin dh (cal cH (aj (var 6) au)) (cst (.int 1)))) (aj (var 8) au)))))) bU) (aG (je (bZ (bin (oEq false) (var 3) (cst (.int 2)))) (bW (lR "list" (mR lJ) (var 2) (aj (bin (oI Z.bH) (bin (oI Z.dz) (var 1) (cst (.int 200))) (bin dh (cal cH (aj (var 2) au)) (cst (.int 1)))) (aj (iU (aj (var 5) (aj (dL (fV au)) au))) au)))) bU) (aG (je (bZ (bin (oEq false) (var 3) (cst (.int 3)))) (bW (lR "list" (mR lJ) (var 6) (aj (bin (oI Z.bH) (bin (oI Z.dz) (var 1) (cst (.int 200))) (bin dh (cal cH (aj (var 6) au)) (cst (.int 1)))) (aj (bin dh (aW bQ (aj (bin (oI Z.dz) (var 1) (cst (.int 9000))) au)) (cst (.str "q"))) au)))) bU) (aG (je (bZ (bin (oEq false) (var 3) (cst (.int 4)))) (bW (lR "list" (mR nP) (var 6) (aj (var 7) au))) bU) (cj (var 2))))))))))))
def iM:FF:=g_ lO 2 9 (iR)
def jr:FS:=(aG (aP 1 (gY (cC (var 0)) (gT 2 (aH (gN 0) (aH (gN 1) bY))) iy (var 0) 2 [])) (aG (jf (cC (var 0)) (gT 2 (aH (gN 2) (aH (gN 3) bY))) (je (yN (lD (fP (aW bO (aj (var 2) au)))) (lD (fP (cal (nR true) (aj (gY (cC (var 3)) (gN 0) iy (aW bO (aj (var 0) au)) 1 []) au))))) (cj (cst (.str "name"))) bU)) (aG (je (bZ (bin (oI Z.Nf) (mz (var 1)) (cal cH (aj (var 1) au)))) (cj (cst (.str "taken"))) bU) (aG (jf (cC (var 0)) (gT 2 (aH (gN 2) (aH (gN 3) bY))) (je (lD (fP (cal (nR true) (aj (gY (cC (var 3)) (gN 0) iy (bin (eE false) (var 0) (var 1)) 1 [1]) au)))) (cj (cst (.str "kind"))) bU)) (aG (je (bZ (bin (oEq true) (aW iV (aj (var 0) au)) (dL (fV au)))) (cj (cst (.str "ring"))) bU) (cj (cst (.str "none"))))))))
def cF:FF:=g_ lO 1 4 (jr)
def tW (c:Nat->Addr):FS:=(aG (aP 2 (gY (cC (var 1)) (gT 2 (aH (gN 0) (aH (gN 1) bY))) iy (iU (aj (var 0) (aj (dL (oO iW (aj (var 1) au))) au))) 2 [])) (aG (aP 3 (gY (cC (var 2)) (gT 2 (aH (gN 0) (aH (gN 1) bY))) iy (var 0) 2 [])) (aG (aP 4 (HW (cC (var 2)) (gT 2 (aH (gN 0) (aH (gN 1) bY))) iy (cC (var 1)) (gN 2) iy (var 2) 3 [])) (aG (bW (jM (jL c) (aj (dL (Aa wN (var 3) (var 4))) au))) (aG (bW (jM (K17.bN c) (aj (var 3) au))) (aG (bW (jM (K17.bx c) (aj (var 4) (aj (var 3) au)))) (aG (zO (c 0) "straight" (Zq (cC (var 2)) (gT 2 (aH (gN 0) (aH (gN 1) bY))) iy (var 0) (dL (mU (var 1))) 2 []) (var 0)) (zO (c 0) "above" (jM (K17.bI c) (aj (un (G7 (c 0) "straight") (var 0)) au)) (var 0)))))))))
def cD (c:Nat->Addr):FF:=nT Nh 2 5 (tW c)
def Lk (c:Nat->Addr):FS:=(aG (aP 1 (aW iQ (aj (var 0) au))) (aG (jf (Pa (bin (oI Z.bH) (bin (oI Z.dz) (aW cU (aj (var 0) (aj (cst (.int 0)) au))) (cst (.int 50))) (cst (.int 5)))) (gN 2) (aP 1 (aW iM (aj (var 1) (aj (aW cu (aj (var 0) (aj (bin dh (cst (.int 50)) (var 2)) au))) au))))) (aG (aP 3 (gY (cC (var 1)) (gT 2 (aH (gN 0) (aH (gN 1) bY))) iy (iU (aj (var 0) (aj (dL (oO iW (aj (var 1) au))) au))) 2 [])) (aG (aP 4 (aW cF (aj (var 1) au))) (aG (aP 5 (cst (.str "none"))) (aG (mD (λa=>decide (a∈rs c)) (c 0) 6 (λρ _=>ρ) (cD c) (aj (var 3) au) (aG (aP 5 (aW (h_ c) (aj (var 6) au))) (je (Bd (fP (un (jV (ks c) (λa=>decide (a=(c 9)))) (var 6))) (lD (fP (aW gU (aj (un (vJ (c 9) "ring") (var 6)) (aj (var 1) au)))))) (cj (cst (.bl false))) bU))) (cj (Qn (bin (oEq false) (var 5) (var 4)) (bin (oEq false) (var 3) (var 1))))))))))
def J3 (c:Nat->Addr):FF:=g_ lO 1 7 (Lk c)
end K13
namespace YH
open PySem PySem.W L2
variable {K:Frag}{mg:Str->Option Value}{C:Addr}{ns:List Str}
theorem b_ {f:Addr}{x q:Str}{st:Stmt}(h1:fnAt K f=rE x q st) (h2:rF K f q=true):lV K x q st f (iH K f):=by
 obtain ⟨c,k⟩:=Bool.and_eq_true_iff.mp h2;unfold fnAt at h1;unfold iH at c ⊢;cases hl:K.lookup f with
 |none=>rw [hl] at h1;cases h1
 |some o=>
  obtain ⟨oc,od,da,osl⟩:=o;rw [hl] at h1 c;cases da with
  |func fd=>
   have e:=Option.some.inj h1;obtain ⟨n1,n2,n3,n4,n5,n6,n7,n8,n9,n10,n11,n12,n13,n14,n15⟩:=fd;simp only [fnN,fnOf,FuncData.mk.injEq] at e;obtain ⟨rfl,rfl,rfl,rfl,rfl,rfl,rfl,rfl,_,_,_,_,_,_,rfl⟩:=e;exact ⟨⟨oc,od,n9,n10,n11,n12,n13,n14,osl,rfl,hl,c⟩,k⟩
  |_=>cases h1
theorem bT {h:Heap}{x:Str}(X:K.In h) (G:h.Ns mainGlobals mg) (e:lQ K x=true):mg x=some (.ref (gA K x)):=mg_of X G (by
 unfold lQ at e;unfold gA;split at e
 ·rename_i a q;rw [q]
 ·cases e)
theorem j8 {h:Heap}{x:Str}(X:K.In h) (G:h.Ns mainGlobals mg) (e:Bu K x=true):mg x=none:=mg_none_of X G (by
 unfold Bu at e;split at e
 ·rename_i q;exact q
 ·cases e)
def Gp (K:Frag) (x:Str):Tok:=match nsIn K mainGlobals x with
 |some (some (.str _ u))=>u
 |some (some (.int _ u))=>u
 |_=>0
theorem Tg {h:Heap}{x z:Str}(X:K.In h) (G:h.Ns mainGlobals mg) (e:V4 K x z=true):mg x=some (.str z (Gp K x)):=mg_of X G (by
 unfold V4 at e;unfold Gp;split at e
 ·rename_i y u q;rw [q,of_decide_eq_true e]
 ·cases e)
theorem T9 {h:Heap}{x:Str}{z:Int}(X:K.In h) (G:h.Ns mainGlobals mg) (e:T4 K x z=true):mg x=some (.int z (Gp K x)):=mg_of X G (by
 unfold T4 at e;unfold Gp;split at e
 ·rename_i y u q;rw [q,of_decide_eq_true e]
 ·cases e)
theorem zj:∀{l:List Value}{zs:List Str},K1 l zs=true->Vals (zs.map V.str) l
 |[],[],_=>.nil
 |.str y u::l,z::zs,e=>by
  obtain ⟨h1,h2⟩:=Bool.and_eq_true_iff.mp e;rw [<-of_decide_eq_true h1];exact .cons ⟨u,rfl⟩ (zj h2)
theorem W4 {a:Addr}{zs:List Str}(e:Wc K a zs=true) (hz:(zs.map V.str).length<=sizeLine) (H:Hp):iG K H a (zs.map V.str):=by
 unfold Wc at e;split at e
 ·rename_i d its n sl q;exact Y.Vw q rfl rfl (zj e) hz H
 ·cases e
theorem Vd (e:Wk K C=true):Cls K C:=by
 unfold Wk at e;simp only [zAE] at e;obtain ⟨⟨⟨h1,h2⟩,h3⟩,h4⟩:=e;refine ⟨h1,h2,h3,?_⟩;split at h4
 ·rename_i b q;rw [q,beq_iff_eq.mp h4]
 ·cases h4
theorem RZ {n:Str}(e:(match findIn K (.ref C) n with | some (some (.ref _))=>true | _=>false)=true):findIn K (.ref C) n=some (some (.ref (mA K C n))):=by
 unfold mA;split at e
 ·rename_i a q;rw [q]
 ·cases e
theorem Wa {n:Str}(e:U3 K C n=true):Meth K C n (mA K C n):=by
 unfold U3 at e;simp only [zAE] at e;exact ⟨RZ e.1.1,e.1.2,e.2⟩
theorem Xz (e:mkB K C=true):Mk K C (mA K C "__init__"):=by
 unfold mkB at e;simp only [zAE] at e;exact ⟨e.1.1.1,RZ e.1.1.2,e.1.2,e.2⟩
theorem R5 {n:Str}(e:naB K C n=true):jy K C n:=by
 unfold naB at e;show findIn K (.ref C) n=some none;split at e
 ·rename_i q;exact q
 ·cases e
theorem RT {ks:List Addr}(h:kxB K ks ns=true):∀a∈ks,∃ini,kh K a ns ini:=λa ha=>by
 rcases Bool.or_eq_true_iff.mp (List.all_eq_true.mp h a ha) with q | q
 ·exact ⟨_,gB q⟩
 ·exact ⟨_,gB q⟩
theorem ig {ks:List Addr}{c:Value}{isD:Addr->Bool}(h1:kxB K ks ns=true) (h2:Bq K ks c isD=true) (hns:("__class__" : Str)∈ns/\("__getattribute__" : Str)∈ns/\("__getattr__" : Str)∈ns):Y.yC K ks c isD:=λa ha=>by
 obtain ⟨ini,x⟩:=RT h1 a ha;exact ⟨⟨ns,ini,x,hns⟩,beq_iff_eq.mp (List.all_eq_true.mp h2 a ha)⟩
theorem YM {rs:List Addr}{D:Addr}(h:ctB K rs D ns=true):∀C0,decide (C0∈rs)=true->∃ns ini,kh K C0 ns ini/\BP K C0 D:=λa ha=>by
 obtain ⟨h1,h2⟩:=Bool.and_eq_true_iff.mp h;have hm:=of_decide_eq_true ha;obtain ⟨ini,x⟩:=RT h1 a hm;exact ⟨ns,ini,x,Od (List.all_eq_true.mp h2 a hm)⟩
theorem pick {l:List Bool}(h:l.all id=true) (i:Nat) {b:Bool}(e:l[i]?=some b):b=true:=List.all_eq_true.mp h b (zAh e)
theorem eO {α:Type}{l m:List α}(h:l=m) (i:Nat) {a b:α}(e1:l[i]?=some a) (e2:m[i]?=some b):a=b:=by
 rw [h,e2] at e1;exact (Option.some.inj e1).symm
theorem J9 {l:OpenLaw}{n k:Nat}{q:Program}{loose:List Str}{XP:(Str->Option Value)->Heap->Prop}{YP:World->Heap->Prop}{d:DefRec}{CX:K3}{sp:Frag->Sp}{x:Str}
  (hn:l.most=some n) (hn2:n<=sizeLine) (hdf:d.params.defaults=[]) (hr:dj k callerA)
  (F:∀(w:World) (h:Heap),YP w h->∃K:Frag,K.In h/\∀(mg:Str->Option Value) (fa:Addr),h.Ns mainGlobals mg->mg d.name=some (.ref fa) ->
   ∃fd:FuncData,(∀(s:Shared) (u:Value),BindsTo s fd ⟨[u],[]⟩ [(x,u)])/\∀base:Heap,K.In base->base.Ns mainGlobals mg->cZ l.prog w K mg base CX k fa fd [x] (sp K))
  (hsp:∀(K:Frag) (H:Hp) (a:Addr) (ns:List Int),ns.length<=n->Only H->cB K H a (ns.map V.int)->sp K [.ref a] H (λv _=>v=.bl true) λ_ _ _=>False)
  (hCX:∀(H:Hp) (s:Shared) (e:Value) (s':Shared),CX [] H s (λ_ _ _=>False) e s'->False) :
  WalkO q loose XP YP l.row.toRowW d [] (λf vs=>PySem.call f vs):=by
 refine Att.yX hn hdf λw s₀ s₁ mg mb fa o pm cd doc a vs ns G Y ho hd hcd hmg hobj hints hlen hg=>?_;obtain ⟨K,KX,F⟩:=F w _ Y;obtain ⟨fd,hb,hF⟩:=F mg fa G.T.g hmg;exact Ip KX G.T.g G.T.b G.T.builtins G.T.nolimit hg hobj hints (zAB hlen hn2) hr hF hb (λH hO hS=>hsp K H a ns hlen hO hS) λH e s'=>hCX H s₁ e s'
end YH
namespace K13
open PySem L2 Y
open Y (bin)
open Wb
theorem X4:bootBuiltins "ValueError" = some (.type "ValueError"):=by decide +kernel
theorem Ew:typeLookup (.type "ValueError") "ring" = pure none:=by rw [typeLookup_type,builtinLookup_eq_fast];kernel_rfl
theorem c0:aU ["thing"] ["thing"] (aK s0):=scm
theorem c1:aU ["words", "word"] ["words"] (aK s1):=scm
theorem c2:aU ["names", "at", "name"] ["names"] (aK s2):=scm
theorem c3:aU ["names", "known", "name"] ["names", "known"] (aK s3):=scm
theorem c4:aU ["straight", "left", "steps", "step"] ["straight", "left"] (aK s4):=scm
theorem c5:aU ["straight", "above", "left", "ready", "name", "up"] ["straight"] (aK s5):=scm
theorem c6:aU ["_law_script", "_law_k"] ["_law_script", "_law_k"] (aK s6):=scm
theorem c7:aU ["_law_number_here", "_law_letters", "_law_rest", "_law_found", "_law_k"] ["_law_number_here"] (aK s7):=scm
theorem c8:aU ["_law_script", "_law_k", "_law_number_here"] ["_law_script", "_law_k"] (aK s8):=scm
theorem c9:aU ["_law_script", "_law_many", "_law_found", "_law_k", "_law_number_here"] ["_law_script", "_law_many"] (aK s9):=scm
theorem Z7:aU ["_law_names_here", "_law_number_here", "_law_k", "_law_found", "_law_j"] ["_law_names_here", "_law_number_here", "_law_k"] (aK s10):=scm
theorem Uw:aU ["_law_script", "_law_many", "_law_names_here", "_law_found", "_law_k", "_law_number_here", "_law_place"] ["_law_script"] (aK s11):=scm
theorem c12:aU ["_law_tuples_here", "_law_number_here", "_law_found", "_law_way", "_law_at", "_law_name", "_law_over", "_law_other", "_law_bad"] ["_law_tuples_here", "_law_number_here"] (aK s12):=scm
theorem c13:aU ["_law_thing"] ["_law_thing"] (aK s13):=scm
theorem Yy:aU ["_law_tuples_here", "_law_left_here", "_law_k", "_law_names_here"] ["_law_tuples_here"] (aK s14):=scm
theorem Xl:aU ["_law_tuples_here", "_law_names_here", "_law_name", "_law_over"] ["_law_tuples_here"] (aK s15):=scm
theorem c16:aU ["_law_ring", "_law_tuples_here", "_law_overs_here", "_law_name", "_law_upper"] ["_law_ring", "_law_tuples_here"] (aK s16):=scm
theorem c17:aU ["_law_e", "_law_some", "_law_more"] ["_law_e"] (aK s17):=scm
theorem PK:aU ["_law_script", "_law_tuples_here", "_law_k", "_law_handed", "_law_due_here", "_law_found", "_law_e"] ["_law_script"] (aK s18):=scm
theorem Z8:aU ["self", "tuples", "rows", "names", "ups"] ["self", "tuples"] (aK s19):=scm
theorem c20:aU ["self", "ring"] ["self", "ring"] (aK s20):=scm
set_option genInjectivity false in
structure Adr where
 c:Nat->Addr
 (f0 f1 f2 f3 f4 f5 f6 f7 f8 f9 f10 f11 f12 f13 f14 f15 f16 f17 f18 f19 f20 f21 f22 f23:Addr)
 (d0 d1 d2 d3 d4 d5 d6 d7 d8 d9 d10 d11 d12 d13 d14 d15 d16 d17 d18 d19 d20 d21 d22 d23:FuncData)
 uLETTERS:Tok
 uLONGEST:Tok
 uNO_NAMES:Addr
structure Txt (K:zF) (mg:Str->Option Value) (t:Adr):Prop where
 mWeb:mg "Web" = some (.ref (t.c 0))
 mNoName:mg "NoName" = some (.ref (t.c 1))
 mTaken:mg "Taken" = some (.ref (t.c 2))
 mNoKind:mg "NoKind" = some (.ref (t.c 3))
 mNoText:mg "NoText" = some (.ref (t.c 4))
 mNoPlaces:mg "NoPlaces" = some (.ref (t.c 5))
 mNoBody:mg "NoBody" = some (.ref (t.c 6))
 mTooMany:mg "TooMany" = some (.ref (t.c 7))
 mHeld:mg "Held" = some (.ref (t.c 8))
 mRing:mg "Ring" = some (.ref (t.c 9))
 mAlike:mg "Alike" = some (.ref (t.c 10))
 mNoTerm:mg "NoTerm" = some (.ref (t.c 11))
 mNoLine:mg "NoLine" = some (.ref (t.c 12))
 mFitError:mg "FitError" = some (.ref (t.c 13))
 m0:mg "is_name" = some (.ref t.f0)
 m1:mg "refuse_no_names" = some (.ref t.f1)
 m2:mg "refuse_taken" = some (.ref t.f2)
 m3:mg "refuse_no_kinds" = some (.ref t.f3)
 m4:mg "ring_among" = some (.ref t.f4)
 m5:mg "all_above" = some (.ref t.f5)
 m6:mg "_law_pick" = some (.ref t.f6)
 m7:mg "_law_word" = some (.ref t.f7)
 m8:mg "_law_number" = some (.ref t.f8)
 m9:mg "_law_names" = some (.ref t.f9)
 m10:mg "_law_overs" = some (.ref t.f10)
 m11:mg "_law_tuples" = some (.ref t.f11)
 m12:mg "_law_spoilt" = some (.ref t.f12)
 m13:mg "_law_is_name" = some (.ref t.f13)
 m14:mg "_law_left" = some (.ref t.f14)
 m15:mg "_law_due" = some (.ref t.f15)
 m16:mg "_law_is_ring" = some (.ref t.f16)
 m17:mg "_law_word_of" = some (.ref t.f17)
 m18:mg "law" = some (.ref t.f18)
 t19:Meth K (t.c 0) "__init__" t.f19
 LETTERS:mg "LETTERS" = some (.str "abcdefghijklmnopqrstuvwxyz" t.uLETTERS)
 LONGEST:mg "LONGEST" = some (.int 8 t.uLONGEST)
 NO_NAMES:mg "NO_NAMES" = some (.ref t.uNO_NAMES)
 cWeb:Cls K (t.c 0)
 MWeb:Mk K (t.c 0) t.f19
 xRing:kh K (t.c 9) nx (some t.f20)
 yRing:PySem.W.isFn K (.ref t.f20)=true
 xAlike:kh K (t.c 10) nx (some t.f21)
 yAlike:PySem.W.isFn K (.ref t.f21)=true
 xNoTerm:kh K (t.c 11) nx (some t.f22)
 yNoTerm:PySem.W.isFn K (.ref t.f22)=true
 xNoLine:kh K (t.c 12) nx (some t.f23)
 yNoLine:PySem.W.isFn K (.ref t.f23)=true
 xNoName:kh K (t.c 1) nx none
 xTaken:kh K (t.c 2) nx none
 xNoKind:kh K (t.c 3) nx none
 xNoText:kh K (t.c 4) nx none
 xNoPlaces:kh K (t.c 5) nx none
 xNoBody:kh K (t.c 6) nx none
 xTooMany:kh K (t.c 7) nx none
 xHeld:kh K (t.c 8) nx none
 xFitError:kh K (t.c 13) nx none
 iNoName:yC K (ks t.c) (.ref (t.c 1)) (λa=>decide (a=(t.c 1)))
 iTaken:yC K (ks t.c) (.ref (t.c 2)) (λa=>decide (a=(t.c 2)))
 iNoKind:yC K (ks t.c) (.ref (t.c 3)) (λa=>decide (a=(t.c 3)))
 iNoText:yC K (ks t.c) (.ref (t.c 4)) (λa=>decide (a=(t.c 4)))
 iNoPlaces:yC K (ks t.c) (.ref (t.c 5)) (λa=>decide (a=(t.c 5)))
 iNoBody:yC K (ks t.c) (.ref (t.c 6)) (λa=>decide (a=(t.c 6)))
 iTooMany:yC K (ks t.c) (.ref (t.c 7)) (λa=>decide (a=(t.c 7)))
 iHeld:yC K (ks t.c) (.ref (t.c 8)) (λa=>decide (a=(t.c 8)))
 iRing:yC K (ks t.c) (.ref (t.c 9)) (λa=>decide (a=(t.c 9)))
 iAlike:yC K (ks t.c) (.ref (t.c 10)) (λa=>decide (a=(t.c 10)))
 iNoTerm:yC K (ks t.c) (.ref (t.c 11)) (λa=>decide (a=(t.c 11)))
 iNoLine:yC K (ks t.c) (.ref (t.c 12)) (λa=>decide (a=(t.c 12)))
 iFitError:yC K (ks t.c) (.ref (t.c 13)) (λ_=>true)
 iValueError:yC K (ks t.c) (.type "ValueError") (λ_=>true)
 ct:∀C0,decide (C0∈rs t.c)=true->∃ns ini,kh K C0 ns ini/\BP K C0 (t.c 13)
 nd:(ks t.c).Nodup
 nWeb_straight:jy K (t.c 0) "straight"
 nWeb_above:jy K (t.c 0) "above"
 F0:lV K "is_name" "is_name" s0 t.f0 t.d0
 F1:lV K "refuse_no_names" "refuse_no_names" s1 t.f1 t.d1
 F2:lV K "refuse_taken" "refuse_taken" s2 t.f2 t.d2
 F3:lV K "refuse_no_kinds" "refuse_no_kinds" s3 t.f3 t.d3
 F4:lV K "ring_among" "ring_among" s4 t.f4 t.d4
 F5:lV K "all_above" "all_above" s5 t.f5 t.d5
 F6:lV K "_law_pick" "_law_pick" s6 t.f6 t.d6
 F7:lV K "_law_word" "_law_word" s7 t.f7 t.d7
 F8:lV K "_law_number" "_law_number" s8 t.f8 t.d8
 F9:lV K "_law_names" "_law_names" s9 t.f9 t.d9
 F10:lV K "_law_overs" "_law_overs" s10 t.f10 t.d10
 F11:lV K "_law_tuples" "_law_tuples" s11 t.f11 t.d11
 F12:lV K "_law_spoilt" "_law_spoilt" s12 t.f12 t.d12
 F13:lV K "_law_is_name" "_law_is_name" s13 t.f13 t.d13
 F14:lV K "_law_left" "_law_left" s14 t.f14 t.d14
 F15:lV K "_law_due" "_law_due" s15 t.f15 t.d15
 F16:lV K "_law_is_ring" "_law_is_ring" s16 t.f16 t.d16
 F17:lV K "_law_word_of" "_law_word_of" s17 t.f17 t.d17
 F18:lV K "law" "law" s18 t.f18 t.d18
 F19:lV K "__init__" "Web.__init__" s19 t.f19 t.d19
 F20:lV K "__init__" "Ring.__init__" s20 t.f20 t.d20
 F21:lV K "__init__" "Alike.__init__" s21 t.f21 t.d21
 F22:lV K "__init__" "NoTerm.__init__" s22 t.f22 t.d22
 F23:lV K "__init__" "NoLine.__init__" s23 t.f23 t.d23
 ValueError:mg "ValueError" = none
 abs:mg "abs" = none
 all:mg "all" = none
 dict:mg "dict" = none
 enumerate:mg "enumerate" = none
 isinstance:mg "isinstance" = none
 len:mg "len" = none
 list:mg "list" = none
 range:mg "range" = none
 set:mg "set" = none
 sorted:mg "sorted" = none
 str:mg "str" = none
 zip:mg "zip" = none
 NO_NAMESs:∀H:Hp,iG K H t.uNO_NAMES ((["any", "none", "blank", "new", "on"]:List Str).map V.str)
section
variable {P:Program}{w:World}{K:zF}{mg:Str->Option Value}{base:Heap}{t:Adr}(T:Txt K mg t)
include T
theorem b0:Binds K t.d0 ["thing"] []:=bd T.F0
theorem b1:Binds K t.d1 ["words"] []:=bd T.F1
theorem b2:Binds K t.d2 ["names"] []:=bd T.F2
theorem b3:Binds K t.d3 ["names", "known"] []:=bd T.F3
theorem b4:Binds K t.d4 ["straight", "left"] []:=bd T.F4
theorem b5:Binds K t.d5 ["straight"] []:=bd T.F5
theorem b6:Binds K t.d6 ["_law_script", "_law_k"] []:=bd T.F6
theorem b7:Binds K t.d7 ["_law_number_here"] []:=bd T.F7
theorem b8:Binds K t.d8 ["_law_script", "_law_k"] []:=bd T.F8
theorem b9:Binds K t.d9 ["_law_script", "_law_many"] []:=bd T.F9
theorem b10:Binds K t.d10 ["_law_names_here", "_law_number_here", "_law_k"] []:=bd T.F10
theorem b11:Binds K t.d11 ["_law_script"] []:=bd T.F11
theorem b12:Binds K t.d12 ["_law_tuples_here", "_law_number_here"] []:=bd T.F12
theorem b13:Binds K t.d13 ["_law_thing"] []:=bd T.F13
theorem b14:Binds K t.d14 ["_law_tuples_here"] []:=bd T.F14
theorem b15:Binds K t.d15 ["_law_tuples_here"] []:=bd T.F15
theorem b16:Binds K t.d16 ["_law_ring", "_law_tuples_here"] []:=bd T.F16
theorem b17:Binds K t.d17 ["_law_e"] []:=bd T.F17
theorem b19:Binds K t.d19 ["self", "tuples"] []:=bd T.F19
theorem b20:Binds K t.d20 ["self", "ring"] []:=bd T.F20
theorem q0 : cZ P w K mg base oU 1 t.f0 t.d0 ["thing"] (uO K (jm)) := by
 have h := @j6 _ P w mg base _ dX _ _ _ _ _ _ _ 0 _ T.F0 c0 λcdv A outer s H E hr => (aq rfl (dB (jU (gO (Ax (Or.inr (Or.inr (Or.inl rfl))) rfl T.isinstance rfl T.str K4 (qv 0)))) (aC rfl (bC lH)) bh) (aq rfl (dB (QW.qt (lE (M5 (gk rfl T.len (ak (qv 0) aB)) aF) (lE (Sx (gk rfl T.len (ak (qv 0) aB)) (oF (rN (v := .int 8) rfl T.LONGEST ⟨_, rfl⟩) λ_ _ => eY)) (oR (qZ hr (qv 0) (oF (rN (v := .ref t.uNO_NAMES) rfl T.NO_NAMES rfl) λ_ _ => Qf (T.NO_NAMESs _))))))) (aC rfl (bC lH)) bh) (aC rfl (bC (wI rfl rfl T.all (ak (jQ (N := ["sign"]) (n := 1) (js := []) rfl ⟨rfl, rfl, rfl, rfl, rfl, rfl⟩ (bR (qv 0)) (λ_ _ _ => (aL (i := 0) (show List.Nodup (["sign"] : List Str) from by decide +kernel) rfl (Or.inl rfl))) (λ_ _ _ => fO) (λ_ _ _ => (Ln hr (qv 0) (oF (rN (v := .str "abcdefghijklmnopqrstuvwxyz") rfl T.LETTERS ⟨_, rfl⟩) λ_ _ => nj)))) aB))))));exact h
theorem q2 : cZ P w K mg base (Ar P w) 1 t.f2 t.d2 ["names"] (Ia K (K17.bN t.c)) := by
 have h := @uH _ P w mg base _ dX Cd _ _ _ _ _ _ _ 0 _ T.F2 c2 λcdv A outer s H E hr => (aC rfl (gZ own1 rfl (Og rfl T.enumerate (qv 0)) (gJ (n := 2) rfl (aQ (aL (i := 1) c2.nd rfl (Or.inl rfl)) (aQ (aL (i := 2) c2.nd rfl (Or.inl rfl)) eF))) (aC rfl (dB (qZ hr (qv 2) (lU (qv 0) nF (jF (qv 1)))) (aC rfl (Gi T.xTaken hr.hd rfl T.mTaken (qv 2) (by decide))) bh))));exact h
theorem q3 : cZ P w K mg base (Ar P w) 1 t.f3 t.d3 ["names", "known"] (Ia K (K17.bx t.c)) := by
 have h := @uH _ P w mg base _ dX Cd _ _ _ _ _ _ _ 0 _ T.F3 c3 λcdv A outer s H E hr => (aC rfl (gZ own1 rfl (bR (qv 0)) (aL (i := 2) c3.nd rfl (Or.inl rfl)) (aC rfl (dB (CT hr (qv 2) (qv 1)) (aC rfl (GQ T.xNoKind hr.hd rfl T.mNoKind (qv 2) (by decide))) bh))));exact h
theorem q4 : cZ P w K mg base oU 1 t.f4 t.d4 ["straight", "left"] (uO K (K17.fL)) := by
 have h := @j6 _ P w mg base _ dX _ _ _ _ _ _ _ 0 _ T.F4 c4 λcdv A outer s H E hr => (aq rfl (aY (i := 2) c4.nd rfl (Or.inl rfl) (JD (dJ (ak (cG hr (qv 1) aF (λ_ _ => rfl)) aB)))) (aC rfl (uc 60 PassesOwn.never (gO lH) (aq rfl (aY (i := 3) c4.nd rfl (Or.inl rfl) (cG hr (jQ (N := ["up", "left"]) (n := 1) (js := [1]) rfl ⟨rfl, rfl, rfl, rfl, rfl, rfl⟩ (bR (cG hr (qv 0) (cG hr (qv 2) (VR aF) (λ_ _ => rfl)) (λ_ _ => rfl))) (λ_ _ _ => (aL (i := 0) (show List.Nodup (["up", "left"] : List Str) from by decide +kernel) rfl (Or.inl rfl))) (λ_ _ _ => (lC (qZ hr (qv 0) (qv 1)))) (λ_ _ _ => (qv 0))) aF (λ_ _ => rfl))) (aq rfl (dB (qZ hr (qv 3) (qv 2)) (aC rfl (bC (lU (qv 2) (jF (Dh hr.h (qv 2) (ak (qv 3) aB))) nF))) bh) (aC rfl (eG (tO (qv 2) (ak (qv 3) aB)))))))));exact h
theorem q6 : cZ P w K mg base oU 1 t.f6 t.d6 ["_law_script", "_law_k"] (uO K (cU)) := by
 have h := @j6 _ P w mg base _ dX _ _ _ _ _ _ _ 0 _ T.F6 c6 λcdv A outer s H E hr => (aC rfl (bC (cG hr (jA (xQ (lU (qv 0) (jF (qv 1)) (jF (cO (qv 1) aF))) (jA (dJ (ak aF aB))))) aF (λ_ _ => rfl))));exact h
theorem q7 : cZ P w K mg base oU 1 t.f7 t.d7 ["_law_number_here"] (uO K (bQ)) := by
 have h := @j6 _ P w mg base _ dX _ _ _ _ _ _ _ 0 _ T.F7 c7 λcdv A outer s H E hr => (aq rfl (aY (i := 1) c7.nd rfl (Or.inl rfl) bA) (aq rfl (aY (i := 2) c7.nd rfl (Or.inl rfl) (dN (qv 0) aF)) (aq rfl (aY (i := 3) c7.nd rfl (Or.inl rfl) bA) (aq rfl (gZ PassesOwn.never rfl (jY rfl T.range (cO aF (cN (qv 0) aF))) (aL (i := 4) c7.nd rfl (Or.inl rfl)) (aq rfl (aY (i := 3) c7.nd rfl (Or.inl rfl) (cO (qv 3) (cG hr (qv 1) (cN (qv 2) aF) (λ_ _ => rfl)))) (aC rfl (aY (i := 2) c7.nd rfl (Or.inl rfl) (dN (qv 2) aF))))) (aq rfl (dB (qZ hr (qv 3) (jA (dJ (@ak _ _ _ _ _ bA (@ak _ _ _ _ _ bA (@ak _ _ _ _ _ bA (@ak _ _ _ _ _ bA (@ak _ _ _ _ _ bA aB rfl) rfl) rfl) rfl) rfl)))) (aC rfl (bC (cO (qv 3) bA))) bh) (aC rfl (bC (qv 3))))))));exact h
theorem q10 : cZ P w K mg base oU 1 t.f10 t.d10 ["_law_names_here", "_law_number_here", "_law_k"] (uO K (iw)) := by
 have h := @j6 _ P w mg base _ dX _ _ _ _ _ _ _ 0 _ T.F10 Z7 λcdv A outer s H E hr => (aq rfl (aY (i := 3) Z7.nd rfl (Or.inl rfl) (JD (dJ aB))) (aq rfl (gZ PassesOwn.never rfl (jY rfl T.range (qv 2)) (aL (i := 4) Z7.nd rfl (Or.inl rfl)) (aq rfl (dB (lG hr (cN (qv 1) aF) aF) (aC rfl (eG (tO (qv 3) (ak (cG hr (qv 0) (qv 4) (λ_ _ => rfl)) aB)))) bh) (aq rfl (dB (lG hr (cN (qv 1) aF) aF) (aC rfl (eG (uL (qv 3) (ak aF (ak (cG hr (qv 0) (qv 4) (λ_ _ => rfl)) aB))))) bh) (aC rfl (aY (i := 1) Z7.nd rfl (Or.inl rfl) (dN (qv 1) aF)))))) (aq rfl (dB (QW.qt (Cr (lG hr (cN (qv 1) aF) aF) (yr (Iw hr (qv 3) (jA (dJ aB)))))) (aC rfl (eG (tO (qv 3) (ak (cG hr (qv 3) (cN (dN (qv 1) aF) (gk rfl T.len (ak (qv 3) aB))) (λ_ _ => rfl)) aB)))) bh) (aC rfl (bC (qv 3))))));exact h
theorem q13 : cZ P w K mg base oU 1 t.f13 t.d13 ["_law_thing"] (uO K (bO)) := by
 have h := @j6 _ P w mg base _ dX _ _ _ _ _ _ _ 0 _ T.F13 c13 λcdv A outer s H E hr => (aq rfl (dB (QW.qt (lE (jU (gO (Ax (Or.inr (Or.inr (Or.inl rfl))) rfl T.isinstance rfl T.str K4 (qv 0)))) (lE (qZ hr (qv 0) (jA (dJ (@ak _ _ _ _ _ bA (@ak _ _ _ _ _ bA (@ak _ _ _ _ _ bA (@ak _ _ _ _ _ bA (@ak _ _ _ _ _ bA aB rfl) rfl) rfl) rfl) rfl)))) (lE (Sx (gk rfl T.len (ak (qv 0) aB)) aF) (oR (lG hr (qv 0) bA)))))) (aC rfl (bC lH)) bh) (aC rfl (bC (KC hr (jQ (N := ["_law_one"]) (n := 1) (js := []) rfl ⟨rfl, rfl, rfl, rfl, rfl, rfl⟩ (bR (qv 0)) (λ_ _ _ => (aL (i := 0) (show List.Nodup (["_law_one"] : List Str) from by decide +kernel) rfl (Or.inl rfl))) (λ_ _ _ => (lC (CT hr (qv 0) bA))) (λ_ _ _ => (qv 0))) (jA (dJ aB))))));exact h
theorem q14 : cZ P w K mg base oU 1 t.f14 t.d14 ["_law_tuples_here"] (uO K (iV)) := by
 have h := @j6 _ P w mg base _ dX _ _ _ _ _ _ _ 0 _ T.F14 Yy λcdv A outer s H E hr => (aq rfl (aY (i := 1) Yy.nd rfl (Or.inl rfl) (jA (sH rfl rfl T.list (ak (qv 0) aB)))) (aq rfl (gZ PassesOwn.never rfl (jY rfl T.range (gk rfl T.len (ak (qv 0) aB))) (aL (i := 2) Yy.nd rfl (Or.inl rfl)) (aq rfl (aY (i := 3) Yy.nd rfl (Or.inr rfl) (jQ (N := ["_law_name", "_law_over"]) (n := 2) (js := []) rfl ⟨rfl, rfl, rfl, rfl, rfl, rfl⟩ (bR (qv 1)) (λ_ _ _ => (gJ (n := 2) rfl (aQ (aL (i := 0) (show List.Nodup (["_law_name", "_law_over"] : List Str) from by decide +kernel) rfl (Or.inl rfl)) (aQ (aL (i := 1) (show List.Nodup (["_law_name", "_law_over"] : List Str) from by decide +kernel) rfl (Or.inl rfl)) eF)))) (λ_ _ _ => fO) (λ_ _ _ => (qv 0)))) (aC rfl (qJ (i := 1) Yy.nd rfl (Or.inl rfl) (N := ["_law_name", "_law_over", "_law_names_here"]) (n := 2) (js := [3]) rfl ⟨rfl, rfl, rfl, rfl, rfl, rfl⟩ (bR (qv 1)) (λ_ _ _ => (gJ (n := 2) rfl (aQ (aL (i := 0) (show List.Nodup (["_law_name", "_law_over", "_law_names_here"] : List Str) from by decide +kernel) rfl (Or.inl rfl)) (aQ (aL (i := 1) (show List.Nodup (["_law_name", "_law_over", "_law_names_here"] : List Str) from by decide +kernel) rfl (Or.inl rfl)) eF)))) (λ_ _ _ => (lC (Iw hr (jQ (N := ["_law_one", "_law_names_here"]) (n := 1) (js := [2]) rfl ⟨rfl, rfl, rfl, rfl, rfl, rfl⟩ (bR (qv 1)) (λ_ _ _ => (aL (i := 0) (show List.Nodup (["_law_one", "_law_names_here"] : List Str) from by decide +kernel) rfl (Or.inl rfl))) (λ_ _ _ => (lC (qZ hr (qv 0) (qv 1)))) (λ_ _ _ => (qv 0))) (jA (dJ aB))))) (λ_ _ _ => (mj (ak (qv 0) (ak (qv 1) aB)))))))) (aC rfl (bC (qv 1)))));exact h
theorem q16 : qd P w K mg base 1 t.f16 t.d16 ["_law_ring", "_law_tuples_here"] (uO K (gU)) := by
 have h := @Kf _ P w mg base _ dX _ _ _ _ _ _ _ 0 _ T.F16 c16 λcdv A outer s H E hr => (aq rfl (aY (i := 2) c16.nd rfl (Or.inl rfl) (Py rfl rfl T.dict (qv 1))) (aq rfl (dB (QW.qt (lE (jU (gO (Ax (Or.inr (Or.inr (Or.inr (Or.inl rfl)))) rfl T.isinstance rfl T.list vZ (qv 0)))) (lE (Vk hr (qv 0) (jA (dJ aB))) (oR (IV hr (vU rfl rfl T.len rfl T.set (qv 0)) (gk rfl T.len (ak (qv 0) aB))))))) (aC rfl (bC lH)) bh) (aq rfl (gZ PassesOwn.never rfl (Uy rfl T.zip (qv 0) (jA (xQ (lU (qv 0) (jF aF) nF) (lU (qv 0) nF (jF aF))))) (gJ (n := 2) rfl (aQ (aL (i := 3) c16.nd rfl (Or.inl rfl)) (aQ (aL (i := 4) c16.nd rfl (Or.inl rfl)) eF))) (aC rfl (dB (QW.qt (lE (Eu hr (qv 3) (qv 2)) (oR (Eu hr (qv 4) (zM hr (qv 2) (qv 3) (λ_ _ => rfl)))))) (aC rfl (bC lH)) bh))) (aC rfl (bC lH)))));exact h
theorem q17 : qd P w K mg base 1 t.f17 t.d17 ["_law_e"] (uO K (h_ t.c)) := by
 have h := @Kf _ P w mg base _ dX _ _ _ _ _ _ _ 0 _ T.F17 c17 λcdv A outer s H E hr => (aq rfl (aY (i := 1) c17.nd rfl (Or.inl rfl) (jA (dJ (ak (iD T.iNoName rfl T.isinstance rfl T.mNoName (qv 0)) (ak (iD T.iTaken rfl T.isinstance rfl T.mTaken (qv 0)) (ak (iD T.iNoKind rfl T.isinstance rfl T.mNoKind (qv 0)) (ak (iD T.iRing rfl T.isinstance rfl T.mRing (qv 0)) aB))))))) (aq rfl (aY (i := 2) c17.nd rfl (Or.inl rfl) (jA (dJ (ak (iD T.iAlike rfl T.isinstance rfl T.mAlike (qv 0)) (ak (iD T.iHeld rfl T.isinstance rfl T.mHeld (qv 0)) (ak (iD T.iNoBody rfl T.isinstance rfl T.mNoBody (qv 0)) (ak (iD T.iNoLine rfl T.isinstance rfl T.mNoLine (qv 0)) aB))))))) (aq rfl (aY (i := 2) c17.nd rfl (Or.inl rfl) (jA (xQ (qv 2) (jA (dJ (ak (iD T.iNoPlaces rfl T.isinstance rfl T.mNoPlaces (qv 0)) (ak (iD T.iNoTerm rfl T.isinstance rfl T.mNoTerm (qv 0)) (ak (iD T.iNoText rfl T.isinstance rfl T.mNoText (qv 0)) (ak (iD T.iTooMany rfl T.isinstance rfl T.mTooMany (qv 0)) aB))))))))) (aq rfl (dB (QW.qt (lE (WR hr lH (qv 2)) (lE (IV hr (gk rfl T.len (ak (jQ (N := ["_law_one"]) (n := 1) (js := []) rfl ⟨rfl, rfl, rfl, rfl, rfl, rfl⟩ (bR (qv 1)) (λ_ _ _ => (aL (i := 0) (show List.Nodup (["_law_one"] : List Str) from by decide +kernel) rfl (Or.inl rfl))) (λ_ _ _ => (lC (gO (qv 0)))) (λ_ _ _ => (qv 0))) aB)) aF) (oR (jU (gO (Tz T.iValueError rfl T.isinstance rfl T.ValueError X4 (qv 0)))))))) (aC rfl (bC bA)) bh) (aC rfl (bC (zM hr (jA (dJ (ak bA (ak bA (ak bA (ak bA aB)))))) (Dh hr (qv 1) (ak lH aB)) (λ_ _ => rfl))))))));exact h
theorem q20 : cZ P w K mg base oU 1 t.f20 t.d20 ["self", "ring"] (u6 K (t.c 9) "ring") := by
 have h := @W0 P w K mg base _ _ _ _ _ _ _ _ 0 _ _ _ T.F20 c20 rfl T.xRing (by decide) (by decide) λcdv A outer s H E hr => Fp (Nq Ew (pv 0) (j7 pW rfl T.list vZ (Am (pv 1) fC rfl)));exact h
theorem q1 : cZ P w K mg base (Ar P w) 2 t.f1 t.d1 ["words"] (Ia K (jL t.c)) := by
 have h := @uH _ P w mg base _ dX Cd _ _ _ _ _ _ _ 1 _ T.F1 c1 λcdv A outer s H E hr => (aC rfl (gZ own1 rfl (bR (qv 0)) (aL (i := 1) c1.nd rfl (Or.inl rfl)) (aC rfl (dB (jU (gO (bK ((q0 T).mono (by decide)) hr rfl T.m0 T.F0.kp (b0 T) (ak (qv 1) aB)))) (aC rfl (G9 T.xNoName hr.gd hr.units hr.hd rfl T.mNoName (qv 1) (by decide))) bh))));exact h
theorem q8 : cZ P w K mg base oU 2 t.f8 t.d8 ["_law_script", "_law_k"] (uO K (cu)) := by
 have h := @j6 _ P w mg base _ dX _ _ _ _ _ _ _ 1 _ T.F8 c8 λcdv A outer s H E hr => (aq rfl (dB (QW.qt (Cr (lG hr (cN (bK ((q6 T).mono (by decide)) hr rfl T.m6 T.F6.kp (b6 T) (ak (qv 0) (ak aF aB))) aF) aF) (yr (Zk (Xg rfl T.abs (ak (bK ((q6 T).mono (by decide)) hr rfl T.m6 T.F6.kp (b6 T) (ak (qv 0) (ak (cO aF (qv 1)) aB))) aB)) (Mp aF aF))))) (aC rfl (bC (bK ((q6 T).mono (by decide)) hr rfl T.m6 T.F6.kp (b6 T) (ak (qv 0) (ak (cO aF (qv 1)) aB))))) bh) (aq rfl (aY (i := 2) c8.nd rfl (Or.inl rfl) (cN (cO (cO (bK ((q6 T).mono (by decide)) hr rfl T.m6 T.F6.kp (b6 T) (ak (qv 0) (ak (cO aF (cN (qv 1) aF)) aB))) (uF aF (qv 1))) aF) aF)) (aq rfl (aY (i := 2) c8.nd rfl (Or.inl rfl) (cN (cO (uF (qv 2) (qv 2)) (uF aF (qv 1))) aF)) (aC rfl (bC (cN (cO (uF (uF (qv 2) (qv 2)) (cO (qv 2) aF)) (qv 1)) (Mp aF aF)))))));exact h
theorem q12 : cZ P w K mg base oU 2 t.f12 t.d12 ["_law_tuples_here", "_law_number_here"] (uO K (iM)) := by
 have h := @j6 _ P w mg base _ dX _ _ _ _ _ _ _ 1 _ T.F12 c12 λcdv A outer s H E hr => (aq rfl (VP (i := 2) c12.nd rfl (Or.inl rfl) (N := ["_law_name", "_law_over"]) (n := 2) (js := []) rfl ⟨rfl, rfl, rfl, rfl, rfl, rfl⟩ (bR (qv 0)) (λ_ _ _ => (gJ (n := 2) rfl (aQ (aL (i := 0) (show List.Nodup (["_law_name", "_law_over"] : List Str) from by decide +kernel) rfl (Or.inl rfl)) (aQ (aL (i := 1) (show List.Nodup (["_law_name", "_law_over"] : List Str) from by decide +kernel) rfl (Or.inl rfl)) eF)))) (λ_ _ _ => fO) (λ_ _ _ => (mj (ak (qv 0) (ak (JD (sH rfl rfl T.list (ak (qv 1) aB))) aB))))) (aq rfl (aY (i := 3) c12.nd rfl (Or.inl rfl) (cN (qv 1) aF)) (aq rfl (dB (QW.qt (lE (lG hr (qv 2) (jA (dJ aB))) (oR (lG hr (qv 3) aF)))) (aC rfl (bC (qv 2))) bh) (aq rfl (aY (i := 4) c12.nd rfl (Or.inl rfl) (cN (dN (qv 1) aF) (gk rfl T.len (ak (qv 2) aB)))) (aq rfl (Tn (cG hr (qv 2) (qv 4) (λ_ _ => rfl)) (gJ (n := 2) rfl (aQ (aL (i := 5) c12.nd rfl (Or.inl rfl)) (aQ (aL (i := 6) c12.nd rfl (Or.inl rfl)) eF)))) (aq rfl (aY (i := 7) c12.nd rfl (Or.inl rfl) (cG hr (cG hr (qv 2) (cN (dN (qv 1) aF) (gk rfl T.len (ak (qv 2) aB))) (λ_ _ => rfl)) aF (λ_ _ => rfl))) (aq rfl (@dB _ _ _ _ _ _ _ _ (lG hr (qv 3) aF) (@aq _ _ _ _ _ _ rfl (@aY _ _ _ _ 8 _ _ c12.nd rfl (Or.inl rfl) (@cG _ _ _ _ _ _ _ hr (@jA _ _ _ (@dJ _ _ _ _ (@ak _ _ _ _ _ bA (@ak _ _ _ _ _ bA (@ak _ _ _ _ _ bA (@ak _ _ _ _ _ bA (@ak _ _ _ _ _ aF (@ak _ _ _ _ _ Wv (@ak _ _ _ _ _ bA (@ak _ _ _ _ _ lH (@ak _ _ _ _ _ (mj (ak (qv 5) aB)) aB rfl) rfl) rfl) rfl) rfl) rfl) rfl) rfl) rfl))) (cN (dN (qv 1) aF) aF) (λ_ _ => rfl)) rfl (by first | exact Or.inl rfl | exact Or.inr rfl)) (aq rfl (dB (lG hr (cN (dN (qv 1) aF) aF) aF) (aC rfl (bC (Dg (Dg (Fe (qv 2) nF (jF (qv 4))) (TV (ak (mj (ak (qv 8) (ak (qv 6) aB))) aB))) (Fe (qv 2) (jF (cO (qv 4) aF)) nF)))) bh) (aC rfl (eG (uL (qv 6) (ak (cN (dN (qv 1) aF) (cO (gk rfl T.len (ak (qv 6) aB)) aF)) (ak (qv 8) aB))))))) bh) (aq rfl (dB (lG hr (qv 3) aF) (aC rfl (eG (uL (qv 2) (ak (cN (dN (qv 1) aF) (cO (gk rfl T.len (ak (qv 2) aB)) aF)) (ak (mj (ak (qv 5) (ak (jA (dJ aB)) aB))) aB))))) bh) (aq rfl (dB (lG hr (qv 3) aF) (aC rfl (eG (uL (qv 6) (ak (cN (dN (qv 1) aF) (cO (gk rfl T.len (ak (qv 6) aB)) aF)) (ak (cO (bK ((q7 T).mono (by decide)) hr rfl T.m7 T.F7.kp (b7 T) (ak (dN (qv 1) aF) aB)) bA) aB))))) bh) (aq rfl (dB (lG hr (qv 3) aF) (aC rfl (eG (tO (qv 6) (ak (qv 7) aB)))) bh) (aC rfl (bC (qv 2)))))))))))));exact h
theorem q15 : cZ P w K mg base oU 2 t.f15 t.d15 ["_law_tuples_here"] (uO K (cF)) := by
 have h := @j6 _ P w mg base _ dX _ _ _ _ _ _ _ 1 _ T.F15 Xl λcdv A outer s H E hr => (aq rfl (aY (i := 1) Xl.nd rfl (Or.inr rfl) (jQ (N := ["_law_name", "_law_over"]) (n := 2) (js := []) rfl ⟨rfl, rfl, rfl, rfl, rfl, rfl⟩ (bR (qv 0)) (λ_ _ _ => (gJ (n := 2) rfl (aQ (aL (i := 0) (show List.Nodup (["_law_name", "_law_over"] : List Str) from by decide +kernel) rfl (Or.inl rfl)) (aQ (aL (i := 1) (show List.Nodup (["_law_name", "_law_over"] : List Str) from by decide +kernel) rfl (Or.inl rfl)) eF)))) (λ_ _ _ => fO) (λ_ _ _ => (qv 0)))) (aq rfl (gZ PassesOwn.never rfl (bR (qv 0)) (gJ (n := 2) rfl (aQ (aL (i := 2) Xl.nd rfl (Or.inl rfl)) (aQ (aL (i := 3) Xl.nd rfl (Or.inl rfl)) eF))) (aC rfl (dB (QW.qt (lE (jU (gO (bK ((q13 T).mono (by decide)) hr rfl T.m13 T.F13.kp (b13 T) (ak (qv 2) aB)))) (oR (jU (gO (wI rfl rfl T.all (ak (jQ (N := ["_law_one"]) (n := 1) (js := []) rfl ⟨rfl, rfl, rfl, rfl, rfl, rfl⟩ (bR (qv 3)) (λ_ _ _ => (aL (i := 0) (show List.Nodup (["_law_one"] : List Str) from by decide +kernel) rfl (Or.inl rfl))) (λ_ _ _ => fO) (λ_ _ _ => (bK ((q13 T).mono (by decide)) hr rfl T.m13 T.F13.kp (b13 T) (ak (qv 0) aB)))) aB))))))) (aC rfl (bC bA)) bh))) (aq rfl (dB (M5 (vU rfl rfl T.len rfl T.set (qv 1)) (gk rfl T.len (ak (qv 1) aB))) (aC rfl (bC bA)) bh) (aq rfl (gZ PassesOwn.never rfl (bR (qv 0)) (gJ (n := 2) rfl (aQ (aL (i := 2) Xl.nd rfl (Or.inl rfl)) (aQ (aL (i := 3) Xl.nd rfl (Or.inl rfl)) eF))) (aC rfl (dB (jU (gO (wI rfl rfl T.all (ak (jQ (N := ["_law_one", "_law_names_here"]) (n := 1) (js := [1]) rfl ⟨rfl, rfl, rfl, rfl, rfl, rfl⟩ (bR (qv 3)) (λ_ _ _ => (aL (i := 0) (show List.Nodup (["_law_one", "_law_names_here"] : List Str) from by decide +kernel) rfl (Or.inl rfl))) (λ_ _ _ => fO) (λ_ _ _ => (Ln hr (qv 0) (qv 1)))) aB)))) (aC rfl (bC bA)) bh))) (aq rfl (dB (Iw hr (bK ((q14 T).mono (by decide)) hr rfl T.m14 T.F14.kp (b14 T) (ak (qv 0) aB)) (jA (dJ aB))) (aC rfl (bC bA)) bh) (aC rfl (bC bA)))))));exact h
theorem q5 : cZ P w K mg base (Ar P w) 3 t.f5 t.d5 ["straight"] (Ia K (K17.bI t.c)) := by
 have h := @uH _ P w mg base _ JV Kd _ _ _ _ _ _ _ 2 _ T.F5 c5 λcdv A outer s H E hr => (aq rfl (aY (i := 1) c5.nd rfl (Or.inr rfl) N7) (aq rfl (uc 30 own1 (M5 (gk rfl T.len (ak (qv 1) aB)) (gk rfl T.len (ak (qv 0) aB))) (aq rfl (qJ (i := 2) c5.nd rfl (Or.inl rfl) (N := ["name", "above"]) (n := 1) (js := [1]) rfl ⟨rfl, rfl, rfl, rfl, rfl, rfl⟩ (bR (qv 0)) (λ_ _ _ => (aL (i := 0) (show List.Nodup (["name", "above"] : List Str) from by decide +kernel) rfl (Or.inl rfl))) (λ_ _ _ => (lC (CT hr (qv 0) (qv 1)))) (λ_ _ _ => (qv 0))) (aq rfl (qJ (i := 3) c5.nd rfl (Or.inl rfl) (N := ["name", "straight", "above"]) (n := 1) (js := [0, 1]) rfl ⟨rfl, rfl, rfl, rfl, rfl, rfl⟩ (bR (qv 2)) (λ_ _ _ => (aL (i := 0) (show List.Nodup (["name", "straight", "above"] : List Str) from by decide +kernel) rfl (Or.inl rfl))) (λ_ _ _ => (lC (gO (wI rfl rfl T.all (ak (jQ (N := ["up", "above"]) (n := 1) (js := [2]) rfl ⟨rfl, rfl, rfl, rfl, rfl, rfl⟩ (bR (cG hr (qv 1) (qv 0) (λ_ _ => rfl))) (λ_ _ _ => (aL (i := 0) (show List.Nodup (["up", "above"] : List Str) from by decide +kernel) rfl (Or.inl rfl))) (λ_ _ _ => fO) (λ_ _ _ => (Ln hr (qv 0) (qv 1)))) aB))))) (λ_ _ _ => (qv 0))) (aq rfl (dB (jU (gO (qv 3))) (aC rfl (Hy T.xRing T.yRing ((q20 T).mono (by decide)) hr.hd hr rfl T.mRing (b20 T) (bK ((q4 T).mono (by decide)) hr rfl T.m4 T.F4.kp (b4 T) (ak (qv 0) (ak (qv 2) aB))))) bh) (aC rfl (gZ own1 rfl (bR (qv 3)) (aL (i := 4) c5.nd rfl (Or.inl rfl)) (aq rfl (U4 hr (QD (qv 4) lH) (qv 1) (qv 4)) (aC rfl (gZ own1 rfl (bR (cG hr (qv 0) (qv 4) (λ_ _ => rfl))) (aL (i := 5) c5.nd rfl (Or.inl rfl)) (aC rfl (eG (V7 (cG hr (qv 1) (qv 4) (λ_ _ => rfl)) (ak (cG hr (qv 1) (qv 5) (λ_ _ => rfl)) aB))))))))))))) (aC rfl (bC (qv 1)))));exact h
theorem q9 : cZ P w K mg base oU 3 t.f9 t.d9 ["_law_script", "_law_many"] (uO K (kO)) := by
 have h := @j6 _ P w mg base _ dX _ _ _ _ _ _ _ 2 _ T.F9 c9 λcdv A outer s H E hr => (aq rfl (aY (i := 2) c9.nd rfl (Or.inl rfl) (JD (dJ aB))) (aq rfl (gZ PassesOwn.never rfl (jY rfl T.range (qv 1)) (aL (i := 3) c9.nd rfl (Or.inl rfl)) (aq rfl (aY (i := 4) c9.nd rfl (Or.inl rfl) (bK ((q8 T).mono (by decide)) hr rfl T.m8 T.F8.kp (b8 T) (ak (qv 0) (ak (qv 3) aB)))) (aq rfl (uc 300 PassesOwn.never (qZ hr (bK ((q7 T).mono (by decide)) hr rfl T.m7 T.F7.kp (b7 T) (ak (qv 4) aB)) (qv 2)) (aC rfl (aY (i := 4) c9.nd rfl (Or.inl rfl) (cO (qv 4) aF)))) (aC rfl (eG (tO (qv 2) (ak (bK ((q7 T).mono (by decide)) hr rfl T.m7 T.F7.kp (b7 T) (ak (qv 4) aB)) aB))))))) (aC rfl (bC (qv 2)))));exact h
theorem q11 : cZ P w K mg base oU 4 t.f11 t.d11 ["_law_script"] (uO K (iQ)) := by
 have h := @j6 _ P w mg base _ dX _ _ _ _ _ _ _ 3 _ T.F11 Uw λcdv A outer s H E hr => (aq rfl (aY (i := 1) Uw.nd rfl (Or.inl rfl) (cN (dN (bK ((q6 T).mono (by decide)) hr rfl T.m6 T.F6.kp (b6 T) (ak (qv 0) (ak aF aB))) aF) aF)) (aq rfl (aY (i := 2) Uw.nd rfl (Or.inl rfl) (bK ((q9 T).mono (by decide)) hr rfl T.m9 T.F9.kp (b9 T) (ak (qv 0) (ak (qv 1) aB)))) (aq rfl (aY (i := 3) Uw.nd rfl (Or.inl rfl) (JD (dJ aB))) (aq rfl (gZ PassesOwn.never rfl (jY rfl T.range (qv 1)) (aL (i := 4) Uw.nd rfl (Or.inl rfl)) (aq rfl (aY (i := 5) Uw.nd rfl (Or.inl rfl) (bK ((q8 T).mono (by decide)) hr rfl T.m8 T.F8.kp (b8 T) (ak (qv 0) (ak (cO aF (qv 4)) aB)))) (aq rfl (aY (i := 6) Uw.nd rfl (Or.inl rfl) (cN (qv 5) (cO (qv 4) aF))) (aC rfl (eG (uL (qv 3) (ak (qv 6) (ak (mj (ak (cG hr (qv 2) (qv 4) (λ_ _ => rfl)) (ak (bK ((q10 T).mono (by decide)) hr rfl T.m10 T.F10.kp (b10 T) (ak (qv 2) (ak (dN (qv 5) (cO (qv 4) aF)) (ak (qv 4) aB)))) aB))) aB)))))))) (aC rfl (bC (qv 3)))))));exact h
theorem q19 : cZ P w K mg base (Ar P w) 4 t.f19 t.d19 ["self", "tuples"] (Ia K (cD t.c)) := by
 have h := @uH _ P w mg base _ JV Kd _ _ _ _ _ _ _ 3 _ T.F19 Z8 λcdv A outer s H E hr => (aq rfl (qJ (i := 2) Z8.nd rfl (Or.inl rfl) (N := ["name", "over"]) (n := 2) (js := []) rfl ⟨rfl, rfl, rfl, rfl, rfl, rfl⟩ (bR (qv 1)) (λ_ _ _ => (gJ (n := 2) rfl (aQ (aL (i := 0) (show List.Nodup (["name", "over"] : List Str) from by decide +kernel) rfl (Or.inl rfl)) (aQ (aL (i := 1) (show List.Nodup (["name", "over"] : List Str) from by decide +kernel) rfl (Or.inl rfl)) eF)))) (λ_ _ _ => fO) (λ_ _ _ => (mj (ak (qv 0) (ak (jA (sH rfl rfl T.list (ak (qv 1) aB))) aB))))) (aq rfl (qJ (i := 3) Z8.nd rfl (Or.inl rfl) (N := ["name", "over"]) (n := 2) (js := []) rfl ⟨rfl, rfl, rfl, rfl, rfl, rfl⟩ (bR (qv 2)) (λ_ _ _ => (gJ (n := 2) rfl (aQ (aL (i := 0) (show List.Nodup (["name", "over"] : List Str) from by decide +kernel) rfl (Or.inl rfl)) (aQ (aL (i := 1) (show List.Nodup (["name", "over"] : List Str) from by decide +kernel) rfl (Or.inl rfl)) eF)))) (λ_ _ _ => fO) (λ_ _ _ => (qv 0))) (aq rfl (Ov (i := 4) Z8.nd rfl (Or.inl rfl) (N := ["name", "over", "up"]) (n := 3) (js := []) rfl ⟨rfl, rfl, rfl, rfl, rfl, rfl⟩ (bR (qv 2)) (λ_ _ _ => (gJ (n := 2) rfl (aQ (aL (i := 0) (show List.Nodup (["name", "over", "up"] : List Str) from by decide +kernel) rfl (Or.inl rfl)) (aQ (aL (i := 1) (show List.Nodup (["name", "over", "up"] : List Str) from by decide +kernel) rfl (Or.inl rfl)) eF)))) (λ_ _ _ => fO) (λ_ _ _ => (bR (qv 1))) (λ_ _ _ => (aL (i := 2) (show List.Nodup (["name", "over", "up"] : List Str) from by decide +kernel) rfl (Or.inl rfl))) (λ_ _ _ => fO) (λ_ _ _ => (qv 2))) (aq rfl (eG (pC ((q1 T).mono (by decide)) hr rfl T.m1 T.F1.kp (b1 T) (ak (jA (xQ (qv 3) (qv 4))) aB))) (aq rfl (eG (pC ((q2 T).mono (by decide)) hr rfl T.m2 T.F2.kp (b2 T) (ak (qv 3) aB))) (aq rfl (eG (pC ((q3 T).mono (by decide)) hr rfl T.m3 T.F3.kp (b3 T) (ak (qv 4) (ak (qv 3) aB)))) (aq rfl (MF T.cWeb T.nWeb_straight (XF (N := ["name", "over"]) (n := 2) (js := []) rfl ⟨rfl, rfl, rfl, rfl, rfl, rfl⟩ (bR (qv 2)) (λ_ _ _ => (gJ (n := 2) rfl (aQ (aL (i := 0) (show List.Nodup (["name", "over"] : List Str) from by decide +kernel) rfl (Or.inl rfl)) (aQ (aL (i := 1) (show List.Nodup (["name", "over"] : List Str) from by decide +kernel) rfl (Or.inl rfl)) eF)))) (λ_ _ _ => fO) (λ_ _ _ => (qv 0)) (λ_ _ _ => (jA (Qg rfl rfl rfl T.sorted rfl T.set (qv 1))))) (qv 0)) (aC rfl (MF T.cWeb T.nWeb_above (pC ((q5 T).mono (by decide)) hr rfl T.m5 T.F5.kp (b5 T) (ak (Tq T.cWeb T.nWeb_straight (qv 0)) aB)) (qv 0))))))))));exact h
theorem q18 : cZ P w K mg base oU 6 t.f18 t.d18 ["_law_script"] (uO K (J3 t.c)) := by
 have h := @j6 _ P w mg base _ dX _ _ _ _ _ _ _ 5 _ T.F18 PK λcdv A outer s H E hr => (aq rfl (aY (i := 1) PK.nd rfl (Or.inl rfl) (bK ((q11 T).mono (by decide)) hr rfl T.m11 T.F11.kp (b11 T) (ak (qv 0) aB))) (aq rfl (gZ PassesOwn.never rfl (jY rfl T.range (cN (dN (bK ((q6 T).mono (by decide)) hr rfl T.m6 T.F6.kp (b6 T) (ak (qv 0) (ak aF aB))) aF) aF)) (aL (i := 2) PK.nd rfl (Or.inl rfl)) (aC rfl (aY (i := 1) PK.nd rfl (Or.inl rfl) (bK ((q12 T).mono (by decide)) hr rfl T.m12 T.F12.kp (b12 T) (ak (qv 1) (ak (bK ((q8 T).mono (by decide)) hr rfl T.m8 T.F8.kp (b8 T) (ak (qv 0) (ak (cO aF (qv 2)) aB))) aB)))))) (aq rfl (qJ (i := 3) PK.nd rfl (Or.inl rfl) (N := ["_law_name", "_law_over"]) (n := 2) (js := []) rfl ⟨rfl, rfl, rfl, rfl, rfl, rfl⟩ (bR (qv 1)) (λ_ _ _ => (gJ (n := 2) rfl (aQ (aL (i := 0) (show List.Nodup (["_law_name", "_law_over"] : List Str) from by decide +kernel) rfl (Or.inl rfl)) (aQ (aL (i := 1) (show List.Nodup (["_law_name", "_law_over"] : List Str) from by decide +kernel) rfl (Or.inl rfl)) eF)))) (λ_ _ _ => fO) (λ_ _ _ => (mj (ak (qv 0) (ak (jA (sH rfl rfl T.list (ak (qv 1) aB))) aB))))) (aq rfl (aY (i := 4) PK.nd rfl (Or.inl rfl) (bK ((q15 T).mono (by decide)) hr rfl T.m15 T.F15.kp (b15 T) (ak (qv 1) aB))) (aq rfl (aY (i := 5) PK.nd rfl (Or.inl rfl) bA) (aq rfl (Ht (isD := λa => decide (a ∈ rs t.c)) (i := 6) PK.nd rfl rfl rfl rfl rfl T.mFitError T.xFitError T.ct (λa oe => (aq rfl (aY (i := 5) PK.nd rfl (Or.inl rfl) (zX ((q17 T).mono (by decide)) rfl (hr.h.mark _) rfl T.m17 T.F17.kp (b17 T) (ak (qv 6) aB))) (aC rfl (dB (QW.qt (Cr (gO (iD T.iRing rfl T.isinstance rfl T.mRing (qv 6))) (yr (jU (gO (zX ((q16 T).mono (by decide)) rfl (hr.h.mark _) rfl T.m16 T.F16.kp (b16 T) (ak (Q8 T.xRing Ew (by decide) (by decide) (by decide) (qv 6)) (ak (qv 1) aB)))))))) (aC rfl (bC lH)) bh)))) T.MWeb ((q19 T).mono (by decide)) hr rfl T.mWeb (b19 T) (ak (qv 3) aB)) (aC rfl (bC (S9 (KC hr (qv 5) (qv 4)) (Wf (KC hr (qv 3) (qv 1))))))))))));exact h
end
open YH PySem.W
def tOf (K:Frag):Adr:=⟨λi=>gA K ((["Web", "NoName", "Taken", "NoKind", "NoText", "NoPlaces", "NoBody", "TooMany", "Held", "Ring", "Alike", "NoTerm", "NoLine", "FitError"]:List Str).getD i ""),gA K "is_name", gA K "refuse_no_names", gA K "refuse_taken", gA K "refuse_no_kinds", gA K "ring_among", gA K "all_above", gA K "_law_pick", gA K "_law_word", gA K "_law_number", gA K "_law_names", gA K "_law_overs", gA K "_law_tuples", gA K "_law_spoilt", gA K "_law_is_name", gA K "_law_left", gA K "_law_due", gA K "_law_is_ring", gA K "_law_word_of", gA K "law", mA K (gA K "Web") "__init__", mA K (gA K "Ring") "__init__", mA K (gA K "Alike") "__init__", mA K (gA K "NoTerm") "__init__", mA K (gA K "NoLine") "__init__", iH K (gA K "is_name"),iH K (gA K "refuse_no_names"),iH K (gA K "refuse_taken"),iH K (gA K "refuse_no_kinds"),iH K (gA K "ring_among"),iH K (gA K "all_above"),iH K (gA K "_law_pick"),iH K (gA K "_law_word"),iH K (gA K "_law_number"),iH K (gA K "_law_names"),iH K (gA K "_law_overs"),iH K (gA K "_law_tuples"),iH K (gA K "_law_spoilt"),iH K (gA K "_law_is_name"),iH K (gA K "_law_left"),iH K (gA K "_law_due"),iH K (gA K "_law_is_ring"),iH K (gA K "_law_word_of"),iH K (gA K "law"),iH K (mA K (gA K "Web") "__init__"),iH K (mA K (gA K "Ring") "__init__"),iH K (mA K (gA K "Alike") "__init__"),iH K (mA K (gA K "NoTerm") "__init__"),iH K (mA K (gA K "NoLine") "__init__"),Gp K "LETTERS", Gp K "LONGEST", gA K "NO_NAMES"⟩
theorem txt {K : Frag} {h : Heap} {mg : Str → Option Value} (X : K.In h) (G : h.Ns mainGlobals mg) (e : obs K = (fv, true)) : Txt K mg (tOf K) := by
 have e1 : fl K = fv := congrArg Prod.fst e;have e2 : (bl K).all id = true := congrArg Prod.snd e;exact ⟨bT X G (pick e2 0 rfl), bT X G (pick e2 1 rfl), bT X G (pick e2 2 rfl), bT X G (pick e2 3 rfl), bT X G (pick e2 4 rfl), bT X G (pick e2 5 rfl), bT X G (pick e2 6 rfl), bT X G (pick e2 7 rfl), bT X G (pick e2 8 rfl), bT X G (pick e2 9 rfl), bT X G (pick e2 10 rfl), bT X G (pick e2 11 rfl), bT X G (pick e2 12 rfl), bT X G (pick e2 13 rfl), bT X G (pick e2 14 rfl), bT X G (pick e2 15 rfl), bT X G (pick e2 16 rfl), bT X G (pick e2 17 rfl), bT X G (pick e2 18 rfl), bT X G (pick e2 19 rfl), bT X G (pick e2 20 rfl), bT X G (pick e2 21 rfl), bT X G (pick e2 22 rfl), bT X G (pick e2 23 rfl), bT X G (pick e2 24 rfl), bT X G (pick e2 25 rfl), bT X G (pick e2 26 rfl), bT X G (pick e2 27 rfl), bT X G (pick e2 28 rfl), bT X G (pick e2 29 rfl), bT X G (pick e2 30 rfl), bT X G (pick e2 31 rfl), bT X G (pick e2 32 rfl), Wa (pick e2 33 rfl), Tg X G (pick e2 34 rfl), T9 X G (pick e2 35 rfl), bT X G (pick e2 36 rfl), Vd (pick e2 37 rfl), Xz (pick e2 38 rfl), gB (pick e2 39 rfl), (pick e2 40 rfl), gB (pick e2 41 rfl), (pick e2 42 rfl), gB (pick e2 43 rfl), (pick e2 44 rfl), gB (pick e2 45 rfl), (pick e2 46 rfl), gB (pick e2 47 rfl), gB (pick e2 48 rfl), gB (pick e2 49 rfl), gB (pick e2 50 rfl), gB (pick e2 51 rfl), gB (pick e2 52 rfl), gB (pick e2 53 rfl), gB (pick e2 54 rfl), gB (pick e2 55 rfl), ig (pick e2 56 rfl) (pick e2 57 rfl) (by decide), ig (pick e2 56 rfl) (pick e2 58 rfl) (by decide), ig (pick e2 56 rfl) (pick e2 59 rfl) (by decide), ig (pick e2 56 rfl) (pick e2 60 rfl) (by decide), ig (pick e2 56 rfl) (pick e2 61 rfl) (by decide), ig (pick e2 56 rfl) (pick e2 62 rfl) (by decide), ig (pick e2 56 rfl) (pick e2 63 rfl) (by decide), ig (pick e2 56 rfl) (pick e2 64 rfl) (by decide), ig (pick e2 56 rfl) (pick e2 65 rfl) (by decide), ig (pick e2 56 rfl) (pick e2 66 rfl) (by decide), ig (pick e2 56 rfl) (pick e2 67 rfl) (by decide), ig (pick e2 56 rfl) (pick e2 68 rfl) (by decide), ig (pick e2 56 rfl) (pick e2 69 rfl) (by decide), ig (pick e2 56 rfl) (pick e2 70 rfl) (by decide), YM (pick e2 71 rfl), of_decide_eq_true (pick e2 72 rfl), R5 (pick e2 73 rfl), R5 (pick e2 74 rfl), b_ (eO e1 0 rfl rfl) (pick e2 75 rfl), b_ (eO e1 1 rfl rfl) (pick e2 76 rfl), b_ (eO e1 2 rfl rfl) (pick e2 77 rfl), b_ (eO e1 3 rfl rfl) (pick e2 78 rfl), b_ (eO e1 4 rfl rfl) (pick e2 79 rfl), b_ (eO e1 5 rfl rfl) (pick e2 80 rfl), b_ (eO e1 6 rfl rfl) (pick e2 81 rfl), b_ (eO e1 7 rfl rfl) (pick e2 82 rfl), b_ (eO e1 8 rfl rfl) (pick e2 83 rfl), b_ (eO e1 9 rfl rfl) (pick e2 84 rfl), b_ (eO e1 10 rfl rfl) (pick e2 85 rfl), b_ (eO e1 11 rfl rfl) (pick e2 86 rfl), b_ (eO e1 12 rfl rfl) (pick e2 87 rfl), b_ (eO e1 13 rfl rfl) (pick e2 88 rfl), b_ (eO e1 14 rfl rfl) (pick e2 89 rfl), b_ (eO e1 15 rfl rfl) (pick e2 90 rfl), b_ (eO e1 16 rfl rfl) (pick e2 91 rfl), b_ (eO e1 17 rfl rfl) (pick e2 92 rfl), b_ (eO e1 18 rfl rfl) (pick e2 93 rfl), b_ (eO e1 19 rfl rfl) (pick e2 94 rfl), b_ (eO e1 20 rfl rfl) (pick e2 95 rfl), b_ (eO e1 21 rfl rfl) (pick e2 96 rfl), b_ (eO e1 22 rfl rfl) (pick e2 97 rfl), b_ (eO e1 23 rfl rfl) (pick e2 98 rfl), j8 X G (pick e2 99 rfl), j8 X G (pick e2 100 rfl), j8 X G (pick e2 101 rfl), j8 X G (pick e2 102 rfl), j8 X G (pick e2 103 rfl), j8 X G (pick e2 104 rfl), j8 X G (pick e2 105 rfl), j8 X G (pick e2 106 rfl), j8 X G (pick e2 107 rfl), j8 X G (pick e2 108 rfl), j8 X G (pick e2 109 rfl), j8 X G (pick e2 110 rfl), j8 X G (pick e2 111 rfl), W4 (pick e2 112 rfl) (by decide)⟩
theorem walk {q:Program}{loose:List Str}{XP:(Str->Option Value)->Heap->Prop}{d:DefRec}(hdf:d.params.defaults=[]) (hdn:d.name = "law")
  (main:∀(c:Nat->Addr) (ns:List Int),(ks c).Nodup->ns.length<=63->∃S,(J3 c) [.d (.lst (ns.map .int))] []=.ok (.d (.bl true)) S) :
  WalkO q loose XP (Hook.says (hook obs (fv,true))) PySem.Challenge.rw_fitmost_k13_refused_in_order.row.toRowW d [] (λf vs=>PySem.call f vs):=
 J9 (l:=PySem.Challenge.rw_fitmost_k13_refused_in_order) (n:=63) (k:=6) (x := "_law_script") (CX:=oU) (sp:=Z.Rn) rfl (by decide) hdf ⟨rfl,by decide,by decide,rfl⟩
  (λw h ⟨K,KX,e⟩=>⟨K,KX,λmg fa G hmg=>by
   have T:=txt KX G e;rw [hdn] at hmg;have z:=Option.some.inj (T.m18.symm.trans hmg);injection z with z
   subst z;exact ⟨(tOf K).d18,λs u=>bind1 T.F18 s u,λbase kb nb=>Y.Vj (λns hl=>main (tOf K).c ns T.nd hl) (q18 T)⟩⟩) (λ_ _ a ns hl _ hS=>⟨a,ns,rfl,hS,hl,λ_=>rfl⟩) λ_ _ _ _ z=>z
end K13
namespace K14
open PySem L2 Y
open Y (bin)
open Wb
def ji:FS:=(aG (aP 2 (cL (fV (aj (bin fK (var 1) (cst (.int 0))) au)))) (rQ (fP (cst (.bl true))) (aG (aP 3 (bin fK (gY (cC (bin fK (var 0) (bin fK (var 2) (un uT (cst (.int 1)))))) (gN 0) (bZ (bin (eE false) (var 0) (var 1))) (var 0) 1 [1]) (cst (.int 0)))) (aG (je (bZ (bin (eE false) (var 3) (var 2))) (cj (tU (var 2) (iB (lR "list" qM (var 2) (aj (var 3) au))) Aq)) bU) (bW (lR "list" (mR nP) (var 2) (aj (var 3) au))))) 60))
def fL:FF:=g_ lO 2 4 (ji)
def gD (CWeb CRing:Addr):FS:=(aG (aP 1 dNew) (aG (rQ (bZ (bin (oI Z.Nf) (cal cH (aj (var 1) au)) (cal cH (aj (var 0) au)))) (aG (aP 2 (gY (cC (var 0)) (gN 0) (bZ (bin (eE true) (var 0) (var 1))) (var 0) 1 [1])) (aG (aP 3 (gY (cC (var 2)) (gN 0) (fP (cal (nR true) (aj (gY (cC (bin fK (var 1) (var 0))) (gN 0) iy (bin (eE false) (var 0) (var 1)) 1 [2]) au))) (var 0) 1 [0,1])) (aG (je (lD (fP (var 3))) (nA CRing "ring" (aW fL (aj (var 0) (aj (var 2) au)))) bU) (jf (cC (var 3)) (gN 4) (aG (Hf yM (Gb (var 4) (cst (.bl true))) (var 1) (var 4)) (jf (cC (bin fK (var 0) (var 4))) (gN 5) (bW (lR "dict" Ad (bin fK (var 1) (var 4)) (aj (bin fK (var 1) (var 5)) au))))))))) 30) (cj (var 1))))
def bI (CWeb CRing:Addr):FF:=nT Nh 1 6 (gD CWeb CRing)
end K14
namespace Y
open PySem L2
open Z (lim)
variable {b:FS}{as xs:List A}{S S':aM}{y:A}{ρ:dH}{ds:List D}{g:FG}{ck:Ck}{fi:FI}{t:FT}{f:FE}{F:FF}{o:A->A->aM->Option (List D)}{i j:Int}{z:Str}{l:FO}{lo:Option Int}
theorem RQ (S T:aM) (x:D):lO S (.d x) (S++T)=.ok (.d x) S:=by
 unfold lO;rw [if_pos Oh.pre,Yj];simp
theorem Tt (S:aM) (x:D):lO S (.d x) S=.ok (.d x) S:=by
 have:=RQ S [] x
 rwa [zAO] at this
theorem Xv (S T:aM) (ds:List D):lO S (.p S.length) (S++.lst ds::T)=.ok (.d (.lst ds)) S:=by
 unfold lO;rw [if_pos Oh.pre];have e:fin S.length (S++.lst ds::T) (.p S.length)=some (.d (.lst ds)):=by
  unfold fin A.lt;rw [if_neg (by simp)];unfold fuel A.rd;simp
 rw [e];simp
section
variable {np nl:Nat}{T:aM}{x:D}
theorem rY (h:b (as.map some++List.replicate (nl-np) none) S=.ok (.rt (.d x)) (S++T)) (hl:as.length=np:=by rfl):g_ lO np nl b as S=.ok (.d x) S:=by
 unfold g_;rw [if_pos hl,h];exact RQ S T x
theorem gV (h:b (as.map some++List.replicate (nl-np) none) S=.ok (.rt (.d x)) S) (hl:as.length=np:=by rfl):g_ lO np nl b as S=.ok (.d x) S:=
 rY (T:=[]) (by rw [zAO];exact h) hl
theorem tV (h:b (as.map some++List.replicate (nl-np) none) S=.ok (.rt (.p S.length)) (S++.lst ds::T)) (hl:as.length=np:=by rfl):g_ lO np nl b as S=.ok (.d (.lst ds)) S:=by
 unfold g_;rw [if_pos hl,h];exact Xv S T ds
end
theorem Fl {g:FG}{b:FS}{ck:Ck}(J:Nat->dH->aM->Prop) (hck:∀i ρ S,J i ρ S->gH ck S):∀(xs:List A) (k:Nat) (ρ:dH) (S:aM),J k ρ S ->
  (∀i x ρ S,xs[i]?=some x->J (k+i) ρ S->∃ρ1 ρ2 S2,g x ρ=some ρ1/\b ρ1 S=.ok (.nx ρ2) S2/\J (k+i+1) ρ2 S2)->∃ρ' S',dW g b ck xs ρ S=.ok (.nx ρ') S'/\J (k+xs.length) ρ' S'
 |[],k,ρ,S,h0,_=>⟨ρ,S,by unfold dW;rw [if_pos (hck _ _ _ h0)],h0⟩
 |x::xs,k,ρ,S,h0,step=>by
  obtain ⟨ρ1,ρ2,S2,e1,e2,h2⟩:=step 0 x ρ S rfl h0;obtain ⟨ρ',S',e3,h3⟩:=Fl J hck xs (k+1) ρ2 S2 h2 λi y ρ S hy hj=>by
   obtain ⟨r1,r2,s2,a,b,c⟩:=step (i+1) y ρ S hy (by rw [show k+(i+1)=k+1+i from by omega];exact hj);exact ⟨r1,r2,s2,a,b,by rw [show k+1+i+1=k+(i+1)+1 from by omega];exact c⟩
  refine ⟨ρ',S',?_,by rw [zAv,show k+(xs.length+1)=k+1+xs.length from by omega];exact h3⟩;unfold dW;rw [if_pos (hck _ _ _ h0),e1];simp only [aR,ao,e2];exact e3
theorem gK (J:Nat->dH->aM->Prop) (h0:J 0 ρ S) (hck:∀i ρ S,J i ρ S->gH ck S)
  (step:∀i x ρ S,xs[i]?=some x->J i ρ S->∃ρ1 ρ2 S2,g x ρ=some ρ1/\b ρ1 S=.ok (.nx ρ2) S2/\J (i+1) ρ2 S2):∃ρ' S',dW g b ck xs ρ S=.ok (.nx ρ') S'/\J xs.length ρ' S':=by
 obtain ⟨ρ',S',e,h⟩:=Fl J hck xs 0 ρ S h0 (by simpa using step);exact ⟨ρ',S',e,by simpa using h⟩
theorem Lz {t:FT}{b:FS}(J:Nat->dH->aM->Prop) (step:∀k ρ S,J k ρ S->(∃S',t ρ S=.ok false S'/\J 0 ρ S')∨∃S1 ρ2 S2 k',t ρ S=.ok true S1/\b ρ S1=.ok (.nx ρ2) S2/\k=k'+1/\J k' ρ2 S2) :
  ∀(n k:Nat) (ρ:dH) (S:aM),k < n->J k ρ S->∃ρ' S' S0,rQ t b n ρ S=.ok (.nx ρ') S'/\t ρ' S0=.ok false S'/\J 0 ρ' S'
 |0,k,ρ,S,h,_=>absurd h (zBV _)
 |n+1,k,ρ,S,h,hj=>by
  rcases step k ρ S hj with ⟨S',e,h0⟩ | ⟨S1,ρ2,S2,k',e1,e2,rfl,hj2⟩
  ·exact ⟨ρ,S',S,by unfold rQ;rw [e];rfl,e,h0⟩
  ·obtain ⟨ρ',S',S0,e3,e4,h0⟩:=Lz J step n k' ρ2 S2 (by omega) hj2;refine ⟨ρ',S',S0,?_,e4,h0⟩;unfold rQ;rw [e1];simp only [ao,if_true,e2];exact e3
theorem Fy (S:aM) (acc:List D) (y:D) (h:acc.length < lim):push S.length (.d y) (S++[.lst acc])=.ok () (S++[.lst (acc++[y])]):=by
 have e:fW (acc.map A.d++[A.d y])=some (acc++[y]):=by
  rw [show acc.map A.d++[A.d y]=(acc++[y]).map A.d from by simp];generalize acc++[y]=l;induction l with
  |nil=>rfl
  |cons a l ih=>simp only [zAr,fW,ih]
 unfold push;rw [zAw (zAq _),zCc];simp only [zAi,dY.its,zAn,if_pos h,P_,e];congr 1;rw [zCd _ _ (zAq _),zCc];rfl
theorem zJ {g:FG}{t:FT}{f:FE}{ck:Ck}{S:aM}(P:dH->Prop) (keep:A->Bool) (val:A->D) (hck:∀acc,gH ck (S++[.lst acc])) :
  ∀(xs:List A) (ρ:dH) (acc:List D),P ρ->(∀x∈xs,∀ρ',P ρ'->∃ρ1,g x ρ'=some ρ1/\P ρ1/\(∀acc,t ρ1 (S++[.lst acc])=.ok (keep x) (S++[.lst acc]))/\(keep x=true->∀acc,f ρ1 (S++[.lst acc])=.ok (.d (val x)) (S++[.lst acc]))) ->
  acc.length+xs.length<=100000->∃ρ',sG g t f ck S.length xs ρ (S++[.lst acc])=.ok ρ' (S++[.lst (acc++(xs.filter keep).map val)])
 |[],ρ,acc,_,_,_=>⟨ρ,by unfold sG;rw [if_pos (hck acc)];simp⟩
 |x::xs,ρ,acc,hp,hb,hl=>by
  rw [zAv] at hl;obtain ⟨ρ1,e1,p1,e2,e3⟩:=hb x zAm ρ hp;have ih:=zJ (g:=g) (t:=t) (f:=f) P keep val hck xs ρ1;cases hk:keep x with
  |true=>
   obtain ⟨ρ',e⟩:=ih (acc++[val x]) p1 (λy hy=>hb y (zAf _ hy)) (by rw [zAy];simp;omega);refine ⟨ρ',?_⟩;unfold sG;rw [if_pos (hck acc),e1];simp only [aR,fY,e2,hk,if_true,e3 hk acc,Fy S acc (val x) (by show _ < 1000000;omega)];rw [e,zBX hk,zAr,zAC];rfl
  |false=>
   obtain ⟨ρ',e⟩:=ih acc p1 (λy hy=>hb y (zAf _ hy)) (by omega);refine ⟨ρ',?_⟩;unfold sG;rw [if_pos (hck acc),e1];simp only [aR,fY,e2,hk,zAz,if_false];rw [e,List.filter_cons_of_neg (by rw [hk];simp)]
theorem Dl (S:aM) (ds:List D):uX S (S++[.lst ds])=.ok (.d (.lst ds)) S:=by
 unfold uX;rw [if_pos Oh.pre,zAw (zAq _),zCc];simp
theorem dG {n:Nat}{js:List Nat}{S1:aM}(P:dH->Prop) (keep:A->Bool) (val:A->D) (hi:fi ρ S=.ok (xs,ck) S1) (hck:∀acc,gH ck (S1++[.lst acc])) (h0:P (rA ρ n js))
  (hb:∀x∈xs,∀ρ',P ρ'->∃ρ1,g x ρ'=some ρ1/\P ρ1/\(∀acc,t ρ1 (S1++[.lst acc])=.ok (keep x) (S1++[.lst acc]))/\(keep x=true->∀acc,f ρ1 (S1++[.lst acc])=.ok (.d (val x)) (S1++[.lst acc]))) (hl:xs.length<=100000) :
  gY fi g t f n js ρ S=mL ck (.ok (.d (.lst ((xs.filter keep).map val))) S1):=by
 obtain ⟨ρ',e⟩:=zJ P keep val hck xs _ [] h0 hb (by simpa using hl);unfold gY lcE;rw [hi];simp only [ao];rw [e];simp only [fY,zCk,Dl]
section
variable {h:FE}{F G:FS}{u:FT}{fa:FA}{fl:FL}{o:O2}
def t_ (G:FS) (c:uP) (S:aM):R uP:=match c with
 |.nx ρ'=>G ρ' S
 |c=>.ok c S
@[simp] theorem gQ:aG F G ρ S=(F ρ S).bind (t_ G):=rfl
@[simp] theorem fJ {ρ':dH}:t_ G (.nx ρ') S=G ρ' S:=rfl
@[simp] theorem BZ {v:A}:t_ G (.rt v) S=.ok (.rt v) S:=rfl
def Y9 (i:Nat) (ρ:dH) (x:A) (S:aM):R uP:=.ok (.nx (ρ.set i (some x))) S
@[simp] theorem ou {i:Nat}:aP i f ρ S=(f ρ S).bind (Y9 i ρ):=rfl
@[simp] theorem n_ {i:Nat}{x:A}:Y9 i ρ x S=.ok (.nx (ρ.set i (some x))) S:=rfl
def Zm (x:A) (S:aM):R uP:=.ok (.rt x) S
@[simp] theorem zm:cj f ρ S=(f ρ S).bind Zm:=rfl
@[simp] theorem D_ {x:A}:Zm x S=.ok (.rt x) S:=rfl
@[simp] theorem Fj:bU ρ S=.ok (.nx ρ) S:=rfl
def kIf (F G:FS) (ρ:dH) (b:Bool) (S:aM):R uP:=if b=true then F ρ S else G ρ S
@[simp] theorem rD:je t F G ρ S=(t ρ S).bind (kIf F G ρ):=rfl
@[simp] theorem pI:kIf F G ρ true S=F ρ S:=rfl
@[simp] theorem Ed:kIf F G ρ false S=G ρ S:=rfl
def kExpr (ρ:dH) (x:A) (S:aM):R uP:=.ok (.nx ρ) S
@[simp] theorem tQ:bW f ρ S=(f ρ S).bind (kExpr ρ):=rfl
@[simp] theorem tE {x:A}:kExpr ρ x S=.ok (.nx ρ) S:=rfl
def Zz (x:A) (S:aM):R Bool:=match x with
 |.d (.bl b)=>.ok b S
 |_=>.no
@[simp] theorem qW:bZ f ρ S=(f ρ S).bind Zz:=rfl
@[simp] theorem tH {b:Bool}:Zz (.d (.bl b)) S=.ok b S:=rfl
def Zf (b:Bool) (S:aM):R Bool:=.ok (!b) S
@[simp] theorem Sg:lD t ρ S=(t ρ S).bind Zf:=rfl
@[simp] theorem k_not {b:Bool}:Zf b S=.ok (!b) S:=rfl
def Wu (u:FT) (ρ:dH) (b:Bool) (S:aM):R Bool:=if b=true then u ρ S else .ok false S
@[simp] theorem Rp:Bd t u ρ S=(t ρ S).bind (Wu u ρ):=rfl
@[simp] theorem VH:Wu u ρ true S=u ρ S:=rfl
@[simp] theorem UG:Wu u ρ false S=.ok false S:=rfl
def kOr (u:FT) (ρ:dH) (b:Bool) (S:aM):R Bool:=if b=true then .ok true S else u ρ S
@[simp] theorem XQ:yN t u ρ S=(t ρ S).bind (kOr u ρ):=rfl
@[simp] theorem acn:kOr u ρ true S=.ok true S:=rfl
@[simp] theorem RN:kOr u ρ false S=u ρ S:=rfl
def N_ (x:A) (S:aM):R Bool:=opt (x.Ag S) S
@[simp] theorem Rt:fP f ρ S=(f ρ S).bind N_:=rfl
@[simp] theorem MK {b:Bool}:N_ (.d (.bl b)) S=.ok b S:=rfl
def Xr (o:O2) (h:FE) (ρ:dH) (x:A) (S:aM):R A:=(h ρ S).bind (o x)
@[simp] theorem fQ:Y.bin o f h ρ S=(f ρ S).bind (Xr o h ρ):=rfl
@[simp] theorem dg {x:A}:Xr o h ρ x S=(h ρ S).bind (o x):=rfl
@[simp] theorem Vz {o1:O1}:un o1 f ρ S=(f ρ S).bind o1:=rfl
@[simp] theorem cW {x:D}:cst x ρ S=.ok (.d x) S:=rfl
@[simp] theorem dU:au ρ S=.ok [] S:=rfl
def kA1 (fa:FA) (ρ:dH) (x:A) (S:aM):R (List A):=(fa ρ S).bind λxs S=>.ok (x::xs) S
@[simp] theorem cT:aj f fa ρ S=(f ρ S).bind (kA1 fa ρ):=rfl
@[simp] theorem lK {x:A}:kA1 fa ρ x S=(fa ρ S).bind λxs S=>.ok (x::xs) S:=rfl
@[simp] theorem Hv:dL fl ρ S=(fl ρ S).bind λds S=>.ok (.d (.lst ds)) S:=rfl
@[simp] theorem SQ:cL fl ρ S=(fl ρ S).bind λds S=>.ok (.p S.length) (S++[.lst ds]):=rfl
def yJ (xs:List A) (S:aM):R (List D):=match fW xs with
 |some ds=>if ds.length<=lim then .ok ds S else .no
 |none=>.no
@[simp] theorem vR:fV fa ρ S=(fa ρ S).bind yJ:=rfl
@[simp] theorem Bf:yJ [] S=.ok [] S:=by unfold yJ;simp [fW,lim]
def kBL (o:A->A->aM->Option (List D)) (h:FE) (ρ:dH) (x:A) (S:aM):R (List D):=(h ρ S).bind λy S=>opt (o x y S) S
@[simp] theorem wz {o:A->A->aM->Option (List D)}:Aa o f h ρ S=(f ρ S).bind (kBL o h ρ):=rfl
@[simp] theorem xX {o:A->A->aM->Option (List D)}{x:A}:kBL o h ρ x S=(h ρ S).bind λy S=>opt (o x y S) S:=rfl
@[simp] theorem u_ {o:List A->aM->R A}:cal o fa ρ S=(fa ρ S).bind o:=rfl
@[simp] theorem K7 {o:List A->aM->Option (List D)}:oO o fa ρ S=(fa ρ S).bind λxs S=>opt (o xs S) S:=rfl
def ZV (xs:List A) (S:aM):R A:=if xs.length<=lim then .ok (mkT xs) S else .no
@[simp] theorem Ji:iU fa ρ S=(fa ρ S).bind ZV:=rfl
@[simp] theorem K9 {x:A}:ZV [x,y] S=.ok (mkT [x,y]) S:=rfl
@[simp] theorem aaT {x y:D}:mkT [.d x,.d y]=.d (.tup [x,y]):=rfl
def Jo (F:FF) (as:List A) (S:aM):R A:=yE (F as S)
@[simp] theorem qG {F:FF}:aW F fa ρ S=(fa ρ S).bind (Jo F):=rfl
theorem cQ {F:FF}{x:A}(h:F as S=.ok x S'):Jo F as S=.ok x S':=by unfold Jo;rw [h];rfl
def kRg (x:A) (S:aM):R (List A×Ck):=match x with
 |.d (.int j)=>if -1000000 < j/\j < 1000000 then .ok (rng 0 j.toNat,none) S else .no
 |_=>.no
@[simp] theorem Ur:Pa f ρ S=(f ρ S).bind kRg:=rfl
theorem Xw (h:0<=j/\j < 1000000):kRg (.d (.int j)) S=.ok (rng 0 j.toNat,none) S:=by
 show (if _ then _ else _)=_;rw [if_pos (by omega)]
@[simp] theorem uY:cC f ρ S=(f ρ S).bind yH:=rfl
@[simp] theorem uR:yH (.d (.lst ds)) S=.ok (ds.map .d,none) S:=rfl
@[simp] theorem acM:yH (.d (.tup ds)) S=.ok (ds.map .d,none) S:=rfl
@[simp] theorem acD:yH (.d (.str z)) S=.ok (qg z,none) S:=rfl
@[simp] theorem ZL:U6 f ρ S=(f ρ S).bind Ox:=rfl
def kFor (g:FG) (b:FS) (ρ:dH) (w:List A×Ck) (S:aM):R uP:=mL w.2 (dW g b w.2 w.1 ρ S)
@[simp] theorem yZ:jf fi g b ρ S=(fi ρ S).bind (kFor g b ρ):=rfl
@[simp] theorem tR:kFor g b ρ (xs,none) S=dW g b none xs ρ S:=rfl
def Ri (x:A) (S:aM):R (Option Int):=match x with
 |.d (.int i)=>.ok (some i) S
 |_=>.no
@[simp] theorem um:iB f ρ S=(f ρ S).bind Ri:=rfl
@[simp] theorem uy:Ri (.d (.int i)) S=.ok (some i) S:=rfl
@[simp] theorem Bl:Aq ρ S=.ok none S:=rfl
def Ks (x:A) (lo:Option Int) (hi:Option Int) (S:aM):R A:=yR x lo hi S
def KD (x:A) (l:FO) (ρ:dH) (lo:Option Int) (S:aM):R A:=(l ρ S).bind (Ks x lo)
def Yk (l k:FO) (ρ:dH) (x:A) (S:aM):R A:=(l ρ S).bind (KD x k ρ)
@[simp] theorem Dv {k:FO}:tU f l k ρ S=(f ρ S).bind (Yk l k ρ):=rfl
@[simp] theorem Dy {k:FO}{x:A}:Yk l k ρ x S=(l ρ S).bind (KD x k ρ):=rfl
@[simp] theorem wJ {x:A}:KD x l ρ lo S=(l ρ S).bind (Ks x lo):=rfl
@[simp] theorem xg {x:A}{hi:Option Int}:Ks x lo hi S=yR x lo hi S:=rfl
@[simp] theorem Dj {g:Int->Int->Option D}:oI g (.d (.int i)) (.d (.int j)) S=(opt (g i j) S).bind λz S=>.ok (.d z) S:=rfl
@[simp] theorem mV:dh (.d (.int i)) (.d (.int j)) S=.ok (.d (.int (i+j))) S:=rfl
theorem Bs {i j:Str}(h:i.length+j.length<=1000000):dh (.d (.str i)) (.d (.str j)) S=.ok (.d (.str (i++j))) S:=by
 show (if _ then _ else _)=_;exact if_pos h
theorem wB {xs ys:List D}(h:xs.length+ys.length<=1000000):wN (.d (.lst xs)) (.d (.lst ys)) S=some (xs++ys):=by
 show (if _ then _ else _)=_;exact if_pos h
theorem qQ {xs:List D}{x:D}(h:nQ xs i=some x):fK (.d (.lst xs)) (.d (.int i)) S=.ok (.d x) S:=by
 have e:nQ (xs.map A.d) i=some (A.d x):=by
  unfold nQ at h ⊢;rw [zAn];obtain ⟨j,hj,hx⟩:=Option.bind_eq_some_iff.mp h;rw [hj];show (xs.map A.d)[j]?=_;rw [zAk,hx];rfl
 show (opt (nQ (xs.map A.d) i) S)=_;rw [e];rfl
theorem ZF {c:Nat}(hl:z.length<=1000000) (h:nQ z.cps.toList i=some c):fK (.d (.str z)) (.d (.int i)) S=.ok (.d (.str ⟨#[c]⟩)) S:=by
 show (if _ then _ else _)=_;rw [h];exact if_pos hl
@[simp] theorem tY {neg:Bool}:oEq neg (.d (.int i)) (.d (.int j)) S=.ok (.d (.bl (if neg then !(i==j) else i==j))) S:=by
 unfold oEq;simp [fX,cA]
@[simp] theorem abU:Lr [.d (.int i)] S=.ok (.d (.int (if i < 0 then -i else i))) S:=rfl
theorem oZ {i:Nat}{x:A}(h:ρ[i]?=some (some x)):var i ρ S=.ok x S:=by unfold var;rw [h]
end
end Y
namespace Wb
open PySem L2 Y
open Y (bin)
open Z (lim)
def pk (ns:List Int) (k:Int):Int:=((ns.drop (HT.nG ns.length 0 (some k))).take (HT.nG ns.length ns.length (some (k+1))-HT.nG ns.length 0 (some k))).headD 0
theorem ix0 {α:Type}(x:α) (xs:List α):nQ (x::xs) 0=some x:=by
 unfold nQ Ib;simp
theorem yd (ns:List Int) (hn:ns.length<=63) (k:Int) (S:aM):cU [.d (.lst (ns.map .int)),.d (.int k)] S=.ok (.d (.int (pk ns k))) S:=by
 refine gV ?_;have c0:∀(ds:List D) (lo hi:Option Int),yR (.d (.lst ds)) lo hi S=.ok (.d (.lst (Z.cutD ds lo hi))) S:=λ_ _ _=>rfl;simp only [qR,zm,fQ,Hv,wz,Dv];rw [oZ rfl];simp only [ao,Dy,um];rw [oZ rfl];simp only [ao,uy,wJ,um,fQ];rw [oZ rfl];simp only [ao,dg,cW,mV,uy,xg,c0,xX,Hv,vR,cT,lK,dU];have hc:(Z.cutD (ns.map D.int) (some k) (some (k+1))).length<=63:=by unfold Z.cutD;rw [zAW,zBC,zAn];omega
 simp only [yJ,fW,zAv,zCl,if_pos (show 0+1<=lim by decide),ao];rw [wB (by simp;omega)];simp only [aR,ao,dg,cW];have e:Z.cutD (ns.map D.int) (some k) (some (k+1))=(((ns.drop (HT.nG ns.length 0 (some k))).take (HT.nG ns.length ns.length (some (k+1))-HT.nG ns.length 0 (some k)))).map D.int:=by
  unfold Z.cutD;rw [zAn,<-List.map_drop,<-List.map_take]
 rw [e,qQ (x:=.int (pk ns k)) ?_]
 ·rfl
 ·unfold pk;cases (ns.drop (HT.nG ns.length 0 (some k))).take (HT.nG ns.length ns.length (some (k+1))-HT.nG ns.length 0 (some k)) with
  |nil=>simp [ix0]
  |cons a l=>simp [ix0]
def num (ns:List Int) (k:Nat):Int:=
 if pk ns 0 % 2=0/\10 ^ 9<=(if pk ns (1+(k:Int)) < 0 then -pk ns (1+(k:Int)) else pk ns (1+(k:Int))) then pk ns (1+(k:Int)) else
 let a:=(pk ns (1+(k:Int) % 6)+7919 * (k:Int)+31) % 2147483629
 let b:=(a * a+48271 * (k:Int)) % 2147483629
 (b * b * (b+40013)+(k:Int)) % 10 ^ 18
theorem rR (i:Int):0<=i % 2147483629/\i % 2147483629 < 2147483629:=⟨zBb _ (by decide),zAP _ (by decide)⟩
theorem qw (ns:List Int) (hn:ns.length<=63) (k:Nat) (hk:k<=1000) (S:aM):cu [.d (.lst (ns.map .int)),.d (.int k)] S=.ok (.d (.int (num ns k))) S:=by
 refine gV ?_;have p:=λj=>cQ (yd ns hn j S);simp [nU,p,var];by_cases c1:pk ns 0 % 2=0
 ·simp [c1,p,var];by_cases c2:(1000000000:Int)<=(if pk ns (1+(k:Int)) < 0 then -pk ns (1+(k:Int)) else pk ns (1+(k:Int)))
  ·simp [c2,num,c1,p,var]
  ·simp [c2,num,c1,p,var];have ha:=rR (pk ns (1+(k:Int) % 6)+7919 * (k:Int)+31);generalize (pk ns (1+(k:Int) % 6)+7919 * (k:Int)+31) % 2147483629=a at ha ⊢;rw [if_pos (by omega)];simp [var];have hb:=rR (a * a+48271 * (k:Int));generalize (a * a+48271 * (k:Int)) % 2147483629=b at hb ⊢;rw [if_pos (by omega)];simp [var];rw [if_pos (by omega)];simp [var]
 ·have c1':(pk ns 0 % 2==0)=false:=by simpa using c1
  simp [c1,c1',num,p,var];have ha:=rR (pk ns (1+(k:Int) % 6)+7919 * (k:Int)+31);generalize (pk ns (1+(k:Int) % 6)+7919 * (k:Int)+31) % 2147483629=a at ha ⊢;rw [if_pos (by omega)];simp [var];have hb:=rR (a * a+48271 * (k:Int));generalize (a * a+48271 * (k:Int)) % 2147483629=b at hb ⊢;rw [if_pos (by omega)];simp [var];rw [if_pos (by omega)];simp [var]
end Wb
namespace Y
open PySem L2
open Z (lim)
variable {o:OM}{ds:List D}{xs:List A}{d:D}{i:Nat}
section
variable {f h:FE}{F G:FS}{t u:FT}{fa:FA}{fl:FL}{o:O2}{ρ:dH}{S:aM}{k:Nat}
def Sq (T:String) (o:OM) (fa:FA) (ρ:dH) (x:A) (S:aM):R A:=if Oe T S x=true then (fa ρ S).bind (o x) else .no
@[simp] theorem FQ {T:String}{o:OM}:lR T o f fa ρ S=(f ρ S).bind (Sq T o fa ρ):=rfl
theorem pQ {o:OM}(h:S[k]?=some (.lst ds)):Sq "list" o fa ρ (.p k) S=(fa ρ S).bind (o (.p k)):=by
 unfold Sq Oe;simp [h]
theorem Yd {o:OM}(h:S[k]?=some (.gen xs)):Sq "list" o fa ρ (.p k) S=(fa ρ S).bind (o (.p k)):=by
 unfold Sq Oe;simp [h]
theorem X3 {o:OM}{kvs:List (Key×A)}(h:S[k]?=some (.dic kvs)):Sq "dict" o fa ρ (.p k) S=(fa ρ S).bind (o (.p k)):=by
 unfold Sq Oe;simp [h]
theorem vG:∀ds:List D,fW (ds.map A.d)=some ds
 |[]=>rfl
 |d::ds=>by simp only [zAr,fW,vG ds]
theorem R_ {g:List A->List A->Option (List A×A)}{ys:List D}(h:S[k]?=some (.lst ds)) (hg:g (ds.map A.d) xs=some (ys.map A.d,.d .non)) (h1:ds.length < lim) (h2:ys.length<=lim):mR g (.p k) xs S=.ok (.d .non) (S.set k (.lst ys)):=by
 unfold mR;simp only [h,dY.its,hg];rw [if_pos ⟨by rw [zAn];exact h1,by rw [zAn];exact h2⟩];unfold P_;rw [vG]
theorem jd {n:Nat}(h:n<=100000):n < lim:=by unfold lim;omega
theorem zq (h:S[k]?=some (.lst ds)) (hl:ds.length < 10000):mR nP (.p k) [.d d] S=.ok (.d .non) (S.set k (.lst (ds++[d]))):=by
 refine R_ h ?_ (jd (by omega)) (zBA (jd (by simp;omega)));unfold nP;simp
theorem RP {ys:List A}{x:A}(hi:i < 100000):lJ ys [.d (.int i),x]=some (ys.take i++x::ys.drop i,.d .non):=by
 have h1:(0:Int)<=(i:Int)/\(i:Int) < 1000000:=by omega
 unfold lJ;simp only [if_pos h1,zBd]
theorem Ju (h:S[k]?=some (.lst ds)) (hl:ds.length < 10000) (hi:i<=ds.length):mR lJ (.p k) [.d (.int i),.d d] S=.ok (.d .non) (S.set k (.lst (ds.take i++d::ds.drop i))):=by
 refine R_ h ?_ (jd (by omega)) (zBA (jd (by simp;omega)));rw [RP (by omega)];simp
theorem R9 {neg:Bool}(h0:S[k]?=some (.lst ds)) (h:ds.all (Z.oX d)=true):eE neg (.d d) (.p k) S=.ok (.d (.bl (if neg then !Z.inD d ds else Z.inD d ds))) S:=by
 unfold eE;rw [KZ S k ds h0];simp only [A.dct,h0,dY.dct,qY];cases d<;>simp [h]
theorem gP (s:Str) (ss:List Str):Z.inD (.str s) (ss.map .str)=decide (s∈ss):=by
 unfold Z.inD;rw [List.any_map,zBc,List.any_eq_true,decide_eq_true_iff];constructor
 ·rintro ⟨x,hx,h⟩;have h':x=s:=by simpa [cA] using h
  exact h'▸hx
 ·intro h;exact ⟨s,h,by simp [cA]⟩
theorem fZ (s:Str) (ss:List Str):(ss.map D.str).all (Z.oX (.str s))=true:=by
 rw [zBT];exact List.all_eq_true.mpr λx _=>by simp [Z.oX,fX,cA]
theorem aX (T:aM) (c:dY):(S++c::T)[S.length]?=some c:=by simp
theorem dF (T:aM) (c c':dY):(S++c::T).set S.length c'=S++c'::T:=by
 rw [zCd _ _ (zAq _),zCc];rfl
theorem zx {n:Nat}(h:n < 10000):kRg (.d (.int n)) S=.ok (rng 0 n,none) S:=by
 have h2:(0:Int)<=(n:Int)/\(n:Int) < 1000000:=by omega
 rw [Xw h2,zBd]
end
theorem iZ {α:Type} [DecidableEq α]:∀{l m:List α},l.Nodup->(∀x∈l,x∈m)->l.length<=m.length
 |[],m,_,_=>zBf _
 |x::l,m,nd,h=>by
  have h1:=h x zAm;have nd':=List.nodup_cons.mp nd;have:=iZ (l:=l) (m:=m.erase x) nd'.2 λy hy=>(List.mem_erase_of_ne (by rintro rfl;exact nd'.1 hy)).mpr (h y (zAf _ hy));rw [List.length_erase_of_mem h1] at this;have:=List.length_pos_of_mem h1;rw [zAv];omega
theorem least {p:Nat->Prop}(dec:∀n,p n∨¬p n):∀j,p j->∃k,k<=j/\p k/\∀i,i < k->¬p i
 |0,h=>⟨0,zAq _,h,λi hi=>absurd hi (zBV _)⟩
 |j+1,h=>by
  by_cases c:∃i,i<=j/\p i
  ·obtain ⟨i,hi,hp⟩:=c;have:∃k,k<=i/\p k/\∀i,i < k->¬p i:=by
    induction i using Nat.strongRecOn with
    |_ i ih=>
     by_cases c:∃i',i' < i/\p i'
     ·obtain ⟨i',h1,h2⟩:=c;obtain ⟨k,h3,h4⟩:=ih i' h1 (by omega) h2;exact ⟨k,by omega,h4⟩
     ·exact ⟨i,zAq _,hp,λi' h1 h2=>c ⟨i',h1,h2⟩⟩
   obtain ⟨k,h1,h2⟩:=this;exact ⟨k,by omega,h2⟩
  ·exact ⟨j+1,zAq _,h,λi hi hp=>c ⟨i,by omega,hp⟩⟩
end Y
local macro_rules
|`(tactic|simp!)=>`(tactic|simp -implicitDefEqProofs only [Y.ao,Y.var,zAi,zAg,Y.dg,Y.gQ,Y.dU,Y.fQ,Y.fJ,Y.cT,Y.lK,Y.cW,zAU,zAL,Y.n_,Y.aR,Y.rD,Y.qW,Y.ou,Y.tH,Y.Dj,Y.u_,Y.uY,Y.Rt,Y.Ed,Y.Fj,Y.uR,Y.Hv,Y.vR,Y.tR,Y.Sg,zAz,if_false,Y.yZ,if_true,Y.Vz,Y.qG,Y.tY,Y.XQ,Y.pI,Y.k_not,Bool.not_true,Y.MK,Y.RN,Y.fY,Y.zm,Y.Bf,Y.tQ,Y.FQ,Y.D_,Y.mV,Bool.not_false])
|`(tactic|simp! [$xs,*])=>`(tactic|simp -implicitDefEqProofs only [Y.ao,Y.var,zAi,zAg,Y.dg,Y.gQ,Y.dU,Y.fQ,Y.fJ,Y.cT,Y.lK,Y.cW,zAU,zAL,Y.n_,Y.aR,Y.rD,Y.qW,Y.ou,Y.tH,Y.Dj,Y.u_,Y.uY,Y.Rt,Y.Ed,Y.Fj,Y.uR,Y.Hv,Y.vR,Y.tR,Y.Sg,zAz,if_false,Y.yZ,if_true,Y.Vz,Y.qG,Y.tY,Y.XQ,Y.pI,Y.k_not,Bool.not_true,Y.MK,Y.RN,Y.fY,Y.zm,Y.Bf,Y.tQ,Y.FQ,Y.D_,Y.mV,Bool.not_false,$xs,*])
|`(tactic|simp! only [$xs,*])=>`(tactic|simp -implicitDefEqProofs only [$xs,*])
namespace Wb
open PySem L2 Y
open Y (bin)
open Z (lim)
variable {d:D}{ds:List D}{neg:Bool}{S:aM}{i:Nat}
abbrev ABC:Str := "abcdefghijklmnopqrstuvwxyz"
abbrev Al:List Str:=["any", "none", "blank", "new", "on"]
def Fz (r:Int):Nat:=97+(r % 26).toNat
theorem T3:ABC.cps.toList=(List.range 26).map (97+·):=by decide +kernel
theorem W6 (r:Int):nQ ABC.cps.toList (r % 26)=some (Fz r):=by
 have h0:=zBb r (show (26:Int)≠0 by decide);have h1:=zAP r (show (0:Int) < 26 by decide);rw [T3];unfold nQ Ib Fz;rw [zAn,List.length_range,if_pos h0,if_pos (show r % 26 < ((26:Nat):Int) from h1)];show ((List.range 26).map (97+·))[(r % 26).toNat]?=_;rw [zAk,zBS (by omega)];rfl
def rst:Nat->Int->Int
 |0,r=>r
 |i+1,r=>rst i r / 26
def wl (i:Nat) (r:Int):List Nat:=(List.range i).map λj=>Fz (rst j r)
theorem Nx (i:Nat) (r:Int):wl (i+1) r=wl i r++[Fz (rst i r)]:=by unfold wl;rw [List.range_succ,zBo];rfl
theorem K8 (i:Nat) (r:Int):(wl i r).length=i:=by unfold wl;simp
def raw (n:Int):Str:=⟨(wl (1+n % 8).toNat (n / 8)).toArray⟩
def word (n:Int):Str:=if raw n∈Al then raw n++("s" : Str) else raw n
theorem Xe (s:Str):Z.inD (.str s) (Al.map .str)=decide (s∈Al):=by
 unfold Z.inD;rw [List.any_map,zBc,List.any_eq_true,decide_eq_true_iff];constructor
 ·rintro ⟨x,hx,h⟩;have h':x=s:=by simpa [cA] using h
  exact h'▸hx
 ·intro h;exact ⟨s,h,by simp [cA]⟩
theorem QH (s:Str):(Al.map D.str).all (Z.oX (.str s))=true:=by
 rw [zBT];exact List.all_eq_true.mpr λx _=>by simp [Z.oX,fX,cA]
theorem pR (h:ds.all (Z.oX d)=true) (hs:∀i j,¬(d=.str i/\D.lst ds=.str j)):eE neg (.d d) (.d (.lst ds)) S=.ok (.d (.bl (if neg then !Z.inD d ds else Z.inD d ds))) S:=by
 unfold eE;cases d<;>simp [h]
theorem Rj (h:ds.all (Z.oX d)=true):eE neg (.d d) (.d (.tup ds)) S=.ok (.d (.bl (if neg then !Z.inD d ds else Z.inD d ds))) S:=by
 unfold eE;cases d<;>simp [h]
theorem yq (n:Int):(raw n).length=(1+n % 8).toNat:=by
 show (wl _ _).toArray.size=_;rw [zAo,K8]
theorem Ui (n:Int):0<=n % 8/\n % 8 < 8:=⟨zBb _ (by decide),zAP _ (by decide)⟩
theorem wj (n:Int) (S:aM):bQ [.d (.int n)] S=.ok (.d (.str (word n))) S:=by
 refine gV ?_;have h8:=Ui n;simp [qX,var];rw [Xw (by omega)];simp only [ao,tR];obtain ⟨ρ',S',e,x,hρ,hS⟩:=gK (g:=gN 4) (b:=(aG (aP 3 (bin dh (var 3) (bin fK (var 1) (bin (oI Z.bH) (var 2) (cst (.int 26)))))) (aP 2 (bin (oI Z.dz) (var 2) (cst (.int 26)))))) (ck:=none) (xs:=rng 0 (1+n % 8).toNat)
  (λi ρ S'=>∃x,ρ=[some (.d (.int n)),some (.d (.str ABC)),some (.d (.int (rst i (n / 8)))),some (.d (.str ⟨(wl i (n / 8)).toArray⟩)),x]/\S'=S)
  (ρ:=[some (.d (.int n)),some (.d (.str ABC)),some (.d (.int (n / 8))),some (.d (.str "")),none]) (S:=S) ⟨none,rfl,rfl⟩ (λ_ _ _ _=>trivial) (by
  rintro i x ρ S2 hx ⟨y,rfl,rfl⟩;have hi:i < (1+n % 8).toNat:=by
   have:=(List.getElem?_eq_some_iff.mp hx).1;unfold rng at this;simpa using this
  refine ⟨_,_,S2,rfl,?_,some x,rfl,rfl⟩;simp [var];rw [ZF (by decide) (W6 _)];simp;rw [Bs (by show (wl _ _).toArray.size+1<=_;rw [zAo,K8];omega)];simp [var,Nx,rst];exact congrArg Str.mk (List.append_toArray _ _))
 ·rw [e,hρ,hS];have hl:(rng 0 (1+n % 8).toNat).length=(1+n % 8).toNat:=by unfold rng;simp
  rw [hl];simp [var,yJ,lim];have hr:(⟨(wl (1+n % 8).toNat (n / 8)).toArray⟩:Str)=raw n:=rfl;rw [hr,show [D.str "any", D.str "none", D.str "blank", D.str "new", D.str "on"]=Al.map D.str from rfl,pR (QH _) (by simp),Xe];by_cases c:raw n∈Al
  ·simp [c,var];rw [Bs (by rw [yq];show _+1<=_;omega)];simp [word,c]
  ·simp [c,var,word]
structure Nm (s:Str):Prop where
 lo:1<=s.length
 hi:s.length<=8
 no:s∉Al
 Fz:∀c∈s.cps.toList,97<=c/\c < 123
theorem Te (r:Int):97<=Fz r/\Fz r < 123:=by
 have h0:=zBb r (show (26:Int)≠0 by decide);have h1:=zAP r (show (0:Int) < 26 by decide);unfold Fz;omega
theorem Q_ (n:Int):∀c∈(raw n).cps.toList,97<=c/\c < 123:=λc hc=>by
 have hc':c∈wl (1+n % 8).toNat (n / 8):=by simpa [raw] using hc
 unfold wl at hc';obtain ⟨j,_,rfl⟩:=List.mem_map.mp hc';exact Te _
instance (s:Str):Decidable (Nm s):=decidable_of_iff (1<=s.length/\s.length<=8/\s∉Al/\∀c∈s.cps.toList,97<=c/\c < 123) ⟨λ⟨a,b,c,d⟩=>⟨a,b,c,d⟩,λ⟨a,b,c,d⟩=>⟨a,b,c,d⟩⟩
theorem Y8:∀s∈Al,Nm (s++("s" : Str)):=by decide +kernel
theorem wK (n:Int):Nm (word n):=by
 unfold word;have h8:=Ui n;split
 ·rename_i h;exact Y8 _ h
 ·rename_i h;exact ⟨by rw [yq];omega,by rw [yq];omega,h,Q_ n⟩
theorem vA (n:Int):(word n).cps.toList.head?=some (Fz (n / 8)):=by
 have h8:=Ui n;obtain ⟨m,hm⟩:∃m,(1+n % 8).toNat=m+1:=⟨(n % 8).toNat,by omega⟩;have h:(raw n).cps.toList.head?=some (Fz (n / 8)):=by
  unfold raw;rw [hm];show (wl (m+1) (n / 8)).head?=_;unfold wl;rw [List.range_succ_eq_map];rfl
 unfold word;split
 ·show ((raw n).cps++_).toList.head?=_;rw [Array.toList_append,List.head?_append,h];rfl
 ·exact h
theorem JF (n:Int) (ws:List Str) (h:ws.length < 26):∃j:Nat,j<=200/\word (n+j)∉ws:=by
 refine Classical.byContradiction λhc=>?_;have all:∀j:Nat,j<=200->word (n+j)∈ws:=λj hj=>Classical.byContradiction λhn=>hc ⟨j,hj,hn⟩;have nd:((List.range 26).map λi=>word (n+((8 * i:Nat):Int))).Nodup:=by
  refine List.nodup_iff_pairwise_ne.mpr (List.pairwise_map.mpr ?_);refine List.Pairwise.imp_of_mem ?_ List.pairwise_lt_range;intro a b ha hb hab e;have ha':=List.mem_range.mp ha;have hb':=List.mem_range.mp hb;have h1:=vA (n+((8 * a:Nat):Int));have h2:=vA (n+((8 * b:Nat):Int));rw [e,h2] at h1;have h3:=Option.some.inj h1;unfold Fz at h3;omega
 have:=iZ nd λx hx=>by
  obtain ⟨i,hi,rfl⟩:=List.mem_map.mp hx;exact all (8 * i) (by have:=List.mem_range.mp hi;omega)
 simp at this;omega
theorem Uj {a:Int}{n:Nat}{x:A}(h:(rng a n)[i]?=some x):i < n/\x=.d (.int (a+i)):=by
 have hi:=(List.getElem?_eq_some_iff.mp h).1;have hi':i < n:=by unfold rng at hi;simpa using hi
 unfold rng at h;rw [zAk,zBS hi'] at h;exact ⟨hi',(Option.some.inj h).symm⟩
theorem pH {n:Nat}{x:A}(h:(rng 0 n)[i]?=some x):i < n/\x=.d (.int i):=by
 have:=Uj h
 rwa [Int.zero_add] at this
theorem o_ (a:Int) (n:Nat):(rng a n).length=n:=by unfold rng;simp
theorem Jl (ns:List Int) (hn:ns.length<=63) (many:Nat) (hm:many < 26) (S:aM):∃ws:List Str,ws.length=many/\ws.Nodup/\(∀w∈ws,Nm w)/\kO [.d (.lst (ns.map .int)),.d (.int many)] S=.ok (.d (.lst (ws.map .str))) S:=by
 obtain ⟨ρ',S',e,ws,x,y,h1,h2,h3,rfl,rfl⟩:=gK (g:=gN 3) (b:=(aG (aP 4 (aW cu (aj (var 0) (aj (var 3) au)))) (aG (rQ (bZ (bin (eE false) (aW bQ (aj (var 4) au)) (var 2))) (aP 4 (bin dh (var 4) (cst (.int 1)))) 300) (bW (lR "list" (mR nP) (var 2) (aj (aW bQ (aj (var 4) au)) au)))))) (ck:=none) (xs:=rng 0 many)
  (λi ρ S'=>∃(ws:List Str) (x y:Option A),ws.length=i/\ws.Nodup/\(∀w∈ws,Nm w)/\ρ=[some (.d (.lst (ns.map .int))),some (.d (.int many)),some (.p S.length),x,y]/\S'=S++[.lst (ws.map .str)])
  (ρ:=[some (.d (.lst (ns.map .int))),some (.d (.int many)),some (.p S.length),none,none]) (S:=S++[.lst []]) ⟨[],none,none,rfl,zBP,by simp,rfl,rfl⟩ (λ_ _ _ _=>trivial) (by
   rintro i x ρ S2 hx ⟨ws,x0,y0,h1,h2,h3,rfl,rfl⟩;obtain ⟨hi,rfl⟩:=pH hx;obtain ⟨j,hj,hj2⟩:=JF (num ns i) ws (by omega);obtain ⟨k,hk,hk2,hk3⟩:=least (p:=λj=>word (num ns i+j)∉ws) (λ_=>Classical.em _) j hj2;have hat:(S++[dY.lst (ws.map D.str)])[S.length]?=some (.lst (ws.map .str)):=aX [] _;obtain ⟨ρ1,S1,S0,e1,_,z,rfl,rfl,hz⟩:=Lz (t:=(bZ (bin (eE false) (aW bQ (aj (var 4) au)) (var 2)))) (b:=(aP 4 (bin dh (var 4) (cst (.int 1)))))
    (λq ρ S'=>∃z:Int,ρ=[some (.d (.lst (ns.map .int))),some (.d (.int many)),some (.p S.length),some (.d (.int i)),some (.d (.int z))]/\S'=S++[.lst (ws.map .str)]/\word (z+q)∉ws/\∀p:Nat,p < q->word (z+p)∈ws) (by
     rintro q ρ S' ⟨z,rfl,rfl,q1,q2⟩;have et:(bZ (bin (eE false) (aW bQ (aj (var 4) au)) (var 2))) [some (.d (.lst (ns.map .int))),some (.d (.int many)),some (.p S.length),some (.d (.int i)),some (.d (.int z))] (S++[.lst (ws.map .str)])=.ok (decide (word z∈ws)) (S++[.lst (ws.map .str)]):=by
      simp [var,cQ (wj _ _)];rw [R9 hat (fZ _ _),gP];rfl
     cases q with
     |zero=>
      refine .inl ⟨_,?_,z,rfl,rfl,q1,λp hp=>absurd hp (zBV _)⟩;rw [et];have:word z∉ws:=by simpa using q1
      simp [this]
     |succ q=>
      have hz:word z∈ws:=by simpa using q2 0 (Nat.succ_pos _)
      refine .inr ⟨_,_,_,q,by rw [et,decide_eq_true hz],by simp [var],rfl,z+1,rfl,rfl,?_,λp hp=>?_⟩
      ·rw [show z+1+(q:Int)=z+((q+1:Nat):Int) from by omega];exact q1
      ·rw [show z+1+(p:Int)=z+((p+1:Nat):Int) from by omega];exact q2 (p+1) (by omega)) 300 k [some (.d (.lst (ns.map .int))),some (.d (.int many)),some (.p S.length),some (.d (.int i)),some (.d (.int (num ns i)))] (S++[.lst (ws.map .str)]) (by omega) ⟨num ns i,rfl,rfl,hk2,λp hp=>Classical.byContradiction (hk3 p hp)⟩
   have hw:word z∉ws:=by simpa using hz.1
   refine ⟨_,_,_,rfl,?_,ws++[word z],some (.d (.int i)),some (.d (.int z)),by simp [h1],?_,?_,rfl,rfl⟩
   ·have en:=qw ns hn i (by omega) (S++[.lst (ws.map .str)]);simp -implicitDefEqProofs [var];rw [cQ en];simp!;rw [e1];simp -implicitDefEqProofs [var];rw [pQ hat];simp -implicitDefEqProofs [var,cQ (wj _ _)];rw [zq hat (by simp;omega),dF];simp -implicitDefEqProofs
   ·exact List.nodup_append.mpr ⟨h2,by simp,λa ha b hb e=>hw (by rw [<-List.mem_singleton.mp hb,<-e];exact ha)⟩
   ·intro w hw';rcases List.mem_append.mp hw' with q | q
    ·exact h3 w q
    ·rw [List.mem_singleton.mp q];exact wK z)
 rw [o_] at h1;refine ⟨ws,h1,h2,h3,tV (T:=[]) ?_⟩;simp -implicitDefEqProofs [pG,var];rw [zx (by omega)];simp only [ao,tR];rw [e];simp [var]
end Wb
namespace Y
open PySem L2
variable {ds:List D}
section
variable {S:aM}{k:Nat}
theorem Rx {i:Int}{x:D}(h0:S[k]?=some (.lst ds)) (h:nQ ds i=some x):fK (.p k) (.d (.int i)) S=.ok (.d x) S:=by
 have e:nQ (ds.map A.d) i=some (A.d x):=by
  unfold nQ at h ⊢;rw [zAn];obtain ⟨j,hj,hx⟩:=Option.bind_eq_some_iff.mp h;rw [hj];show (ds.map A.d)[j]?=_;rw [zAk,hx];rfl
 unfold fK;simp only [A.dct,h0,dY.dct,A.seq,dY.its,aR,ao,e]
theorem Bc (h0:S[k]?=some (.lst ds)):cH [.p k] S=.ok (.d (.int ds.length)) S:=by
 unfold cH;simp [h0,dY.its]
theorem pN:∀ss:List Str,gC (ss.map .str)=0
 |[]=>rfl
 |s::ss=>by simp only [zAr,gC,pN ss,fX];rfl
theorem u9:∀ss tt:List Str,i_ (ss.map .str) (tt.map .str)=some (decide (ss=tt))
 |[],[]=>rfl
 |[],t::tt=>rfl
 |s::ss,[]=>rfl
 |s::ss,t::tt=>by
  simp only [zAr,i_,cA,u9 ss tt,List.cons.injEq];by_cases h:s=t<;>by_cases h2:ss=tt<;>simp [h,h2]
theorem z8 (ss tt:List Str):cA (.lst (ss.map .str)) (.lst (tt.map .str))=some (decide (ss=tt)):=by
 unfold cA;split
 ·exact u9 ss tt
 ·rename_i h;have:ss≠tt:=λe=>h (by rw [e]);simp [this]
theorem RM {neg:Bool}{ss tt:List Str}(h0:S[k]?=some (.lst (ss.map .str))):oEq neg (.p k) (.d (.lst (tt.map .str))) S=.ok (.d (.bl (if neg then !decide (ss=tt) else decide (ss=tt)))) S:=by
 unfold oEq;rw [KZ S k _ h0];simp only [qY];rw [if_pos (by simp only [fX,pN];decide),z8];rfl
theorem oN {α:Type}{xs:List α}{i:Nat}{x:α}(h:xs[i]?=some x):nQ xs (i:Int)=some x:=by
 have hi:=(List.getElem?_eq_some_iff.mp h).1;unfold nQ Ib;rw [if_pos (by omega),if_pos (by omega)];exact h
end
end Y
namespace Wb
open PySem L2 Y
open Y (bin)
open Z (lim)
abbrev lbO:FS:=(aG (je (bZ (bin (oEq false) (bin (oI Z.bH) (var 1) (cst (.int 4))) (cst (.int 1)))) (bW (lR "list" (mR nP) (var 3) (aj (bin fK (var 0) (var 4)) au))) bU) (aG (je (bZ (bin (oEq false) (bin (oI Z.bH) (var 1) (cst (.int 4))) (cst (.int 2)))) (bW (lR "list" (mR lJ) (var 3) (aj (cst (.int 0)) (aj (bin fK (var 0) (var 4)) au)))) bU) (aP 1 (bin (oI Z.dz) (var 1) (cst (.int 4))))))
theorem Ca (ws:List Str) (k:Nat) (hk:k<=ws.length) (S:aM) (i:Nat) (hi:i < k) (hk2:k < 26) (os:List Str) (n:Int) (h1:∀o∈os,o∈ws.take k) (h2:os.length<=i) :
  ∃(os':List Str) (n':Int),(∀o∈os',o∈ws.take k)/\os'.length<=i+1/\lbO [some (.d (.lst (ws.map .str))),some (.d (.int n)),some (.d (.int k)),some (.p S.length),some (.d (.int i))] (S++[.lst (os.map .str)])=.ok (.nx [some (.d (.lst (ws.map .str))),some (.d (.int n')),some (.d (.int k)),some (.p S.length),some (.d (.int i))]) (S++[.lst (os'.map .str)]):=by
 have hw:i < ws.length:=by omega
 have hat:(S++[dY.lst (os.map D.str)])[S.length]?=some (.lst (os.map .str)):=aX [] _;have e1:nQ (ws.map D.str) (i:Int)=some (.str ws[i]):=oN (by rw [zAk,zAc hw];rfl);have hmem:ws[i]∈ws.take k:=by
  have:(ws.take k)[i]?=some ws[i]:=by rw [zBg hi,zAc hw]
  exact zAh this
 by_cases c1:n % 4=1
 ·refine ⟨os++[ws[i]],n / 4,λo ho=>?_,by simp;omega,?_⟩
  ·rcases List.mem_append.mp ho with q | q
   ·exact h1 o q
   ·rw [List.mem_singleton.mp q];exact hmem
  ·simp -implicitDefEqProofs [var,c1];rw [pQ hat];simp -implicitDefEqProofs [var,qQ e1];rw [zq hat (by simp;omega),dF];simp -implicitDefEqProofs [var,c1]
 ·by_cases c2:n % 4=2
  ·refine ⟨ws[i]::os,n / 4,λo ho=>?_,by simp;omega,?_⟩
   ·rcases zBv.mp ho with q | q
    ·rw [q];exact hmem
    ·exact h1 o q
   ·simp -implicitDefEqProofs [var,c2];rw [pQ hat];simp -implicitDefEqProofs [var,qQ e1];have wi:=Ju (S:=S++[dY.lst (os.map D.str)]) (k:=S.length) (d:=.str ws[i]) (i:=0) hat (by simp;omega) (zBf _);rw [show ((0:Nat):Int)=0 from rfl] at wi;rw [wi,dF];simp -implicitDefEqProofs [var,c2]
  ·refine ⟨os,n / 4,h1,by omega,?_⟩;have c1':(n % 4==1)=false:=by simpa using c1
   have c2':(n % 4==2)=false:=by simpa using c2
   simp -implicitDefEqProofs [var,c1',c2']
theorem Jy (ws:List Str) (k:Nat) (hk:k<=ws.length) (hk2:k < 26) (n:Int) (S:aM):∃os:List Str,(∀o∈os,o∈ws.take k)/\os.length<=26/\iw [.d (.lst (ws.map .str)),.d (.int n),.d (.int k)] S=.ok (.d (.lst (os.map .str))) S:=by
 obtain ⟨ρ',S',e,os,n',x,h1,h2,rfl,rfl⟩:=gK (g:=gN 4) (b:=lbO) (ck:=none) (xs:=rng 0 k)
  (λi ρ S'=>∃(os:List Str) (n:Int) (x:Option A),(∀o∈os,o∈ws.take k)/\os.length<=i/\ρ=[some (.d (.lst (ws.map .str))),some (.d (.int n)),some (.d (.int k)),some (.p S.length),x]/\S'=S++[.lst (os.map .str)])
  (ρ:=[some (.d (.lst (ws.map .str))),some (.d (.int n)),some (.d (.int k)),some (.p S.length),none]) (S:=S++[.lst []]) ⟨[],n,none,by simp,zAq _,rfl,rfl⟩ (λ_ _ _ _=>trivial) (by
   rintro i x ρ S2 hx ⟨os,n,x0,h1,h2,rfl,rfl⟩;obtain ⟨hi,rfl⟩:=pH hx;obtain ⟨os',n',a,b,c⟩:=Ca ws k hk S i hi hk2 os n h1 h2;exact ⟨_,_,_,rfl,c,os',n',_,a,b,rfl,rfl⟩)
 rw [o_] at h2;have hat:(S++[dY.lst (os.map D.str)])[S.length]?=some (.lst (os.map .str)):=aX [] _;have head:∀os2:List Str,(aG (je (Bd (bZ (bin (oEq false) (bin (oI Z.bH) (var 1) (cst (.int 4))) (cst (.int 1)))) (bZ (bin (oEq true) (var 3) (dL (fV au))))) (bW (lR "list" (mR nP) (var 3) (aj (bin fK (var 3) (bin (oI Z.bH) (bin (oI Z.dz) (var 1) (cst (.int 4))) (cal cH (aj (var 3) au)))) au))) bU) (cj (var 3))) [some (.d (.lst (ws.map .str))),some (.d (.int n')),some (.d (.int k)),some (.p S.length),x] (S++[.lst (os.map .str)])=.ok (.rt (.p S.length)) (S++[.lst (os2.map .str)]) ->
   iw [.d (.lst (ws.map .str)),.d (.int n),.d (.int k)] S=.ok (.d (.lst (os2.map .str))) S:=λos2 h=>by
  refine tV (T:=[]) ?_;unfold pP;simp! [SQ,Ur];simp -implicitDefEqProofs [var];rw [zx (by omega)];simp!;rw [e];simp!;exact h
 by_cases c1:n' % 4=1
 ·by_cases c2:os=[]
  ·subst c2;refine ⟨[],by simp,by simp,head [] ?_⟩;simp -implicitDefEqProofs [var,c1];rw [show ([]:List D)=([]:List Str).map D.str from rfl,RM hat];simp -implicitDefEqProofs [var]
  ·have hp:0 < os.length:=List.length_pos_iff.mpr c2;have h0:=zBb (n' / 4) (show ((os.length:Nat):Int)≠0 by omega);have h3:=zAP (n' / 4) (show (0:Int) < ((os.length:Nat):Int) by omega);obtain ⟨j,hj⟩:∃j:Nat,n' / 4 % (os.length:Int)=(j:Int):=⟨(n' / 4 % (os.length:Int)).toNat,by omega⟩;have hj2:j < os.length:=by omega
   have e2:nQ (os.map D.str) (j:Int)=some (.str os[j]):=oN (by rw [zAk,zAc hj2];rfl);refine ⟨os++[os[j]],λo ho=>?_,by simp;omega,head _ ?_⟩
   ·rcases List.mem_append.mp ho with q | q
    ·exact h1 o q
    ·rw [List.mem_singleton.mp q];exact h1 _ (zBi _)
   ·simp -implicitDefEqProofs [var,c1];rw [show ([]:List D)=([]:List Str).map D.str from rfl,RM hat];simp -implicitDefEqProofs [var,c2];rw [pQ hat];simp -implicitDefEqProofs [var,Bc hat];rw [if_pos (by omega)];simp -implicitDefEqProofs [hj,Rx hat e2];rw [zq hat (by simp;omega),dF];simp -implicitDefEqProofs [var]
 ·refine ⟨os,h1,by omega,head os ?_⟩;have c1':(n' % 4==1)=false:=by simpa using c1
  simp -implicitDefEqProofs [var,c1']
abbrev Tu:=Str×List Str
def tD (p:Tu):D:=.tup [.str p.1,.lst (p.2.map .str)]
structure Good (ts:List Tu):Prop where
 few:ts.length<=25
 nd:(ts.map (·.1)).Nodup
 nm:∀p∈ts,Nm p.1
 up:∀p∈ts,∀o∈p.2,o∈ts.map (·.1)
 sh:∀p∈ts,p.2.length<=26
 rk:∃r:Str->Nat,∀p∈ts,∀o∈p.2,r o < r p.1
abbrev lbT:FS:=(aG (aP 5 (aW cu (aj (var 0) (aj (bin dh (cst (.int 24)) (var 4)) au)))) (aG (aP 6 (bin (oI Z.bH) (var 5) (bin dh (var 4) (cst (.int 1))))) (bW (lR "list" (mR lJ) (var 3) (aj (var 6) (aj (iU (aj (bin fK (var 2) (var 4)) (aj (aW iw (aj (var 2) (aj (bin (oI Z.dz) (var 5) (bin dh (var 4) (cst (.int 1)))) (aj (var 4) au)))) au))) au))))))
theorem Gk (ns:List Int) (hn:ns.length<=63) (S:aM):∃ts:List Tu,Good ts/\iQ [.d (.lst (ns.map .int))] S=.ok (.d (.lst (ts.map tD))) S:=by
 have h0:=zBb (pk ns 0 / 2) (show (25:Int)≠0 by decide);have h1:=zAP (pk ns 0 / 2) (show (0:Int) < 25 by decide);obtain ⟨many,hm⟩:∃many:Nat,pk ns 0 / 2 % 25=(many:Int):=⟨(pk ns 0 / 2 % 25).toNat,by omega⟩;have hm2:many < 25:=by omega
 obtain ⟨ws,w1,w2,w3,w4⟩:=Jl ns hn many (by omega) S;obtain ⟨ρ',S',e,ts,x,y,z,j1,j2,rfl,rfl⟩:=gK (g:=gN 4) (b:=lbT) (ck:=none) (xs:=rng 0 many)
  (λi ρ S'=>∃(ts:List Tu) (x y z:Option A),(∀p∈ts,∃k,k < i/\ws[k]?=some p.1/\p.2.length<=26/\∀o∈p.2,o∈ws.take k)/\(ts.map (·.1)).Perm (ws.take i)/\ρ=[some (.d (.lst (ns.map .int))),some (.d (.int many)),some (.d (.lst (ws.map .str))),some (.p S.length),x,y,z]/\S'=S++[.lst (ts.map tD)])
  (ρ:=[some (.d (.lst (ns.map .int))),some (.d (.int many)),some (.d (.lst (ws.map .str))),some (.p S.length),none,none,none]) (S:=S++[.lst []]) ⟨[],none,none,none,by simp,by simp,rfl,rfl⟩ (λ_ _ _ _=>trivial) (by
   rintro i x ρ S2 hx ⟨ts,x0,y0,z0,j1,j2,rfl,rfl⟩;obtain ⟨hi,rfl⟩:=pH hx;have hat:(S++[dY.lst (ts.map tD)])[S.length]?=some (.lst (ts.map tD)):=aX [] _;have hw:i < ws.length:=by omega
   have hlen:ts.length=i:=by
    have:=j2.length_eq;rw [zAn,zAW] at this;omega
   obtain ⟨os,o1,o2,o3⟩:=Jy ws i (by omega) (by omega) (num ns (24+i) / ((i:Int)+1)) (S++[.lst (ts.map tD)]);have q0:=zBb (num ns (24+i)) (show ((i:Int)+1)≠0 by omega);have q1:=zAP (num ns (24+i)) (show (0:Int) < (i:Int)+1 by omega);obtain ⟨pl,hpl⟩:∃pl:Nat,num ns (24+i) % ((i:Int)+1)=(pl:Int):=⟨(num ns (24+i) % ((i:Int)+1)).toNat,by omega⟩;have e1:nQ (ws.map D.str) (i:Int)=some (.str ws[i]):=oN (by rw [zAk,zAc hw];rfl);have en:=qw ns hn (24+i) (by omega) (S++[.lst (ts.map tD)]);have wi:=Ju (S:=S++[dY.lst (ts.map tD)]) (k:=S.length) (d:=.tup [.str ws[i],.lst (os.map .str)]) (i:=pl) hat (by rw [zAn];omega) (by rw [zAn];omega);refine ⟨_,_,_,rfl,?_,ts.take pl++(ws[i],os)::ts.drop pl,some (.d (.int i)),some (.d (.int (num ns (24+i)))),some (.d (.int pl)),?_,?_,rfl,rfl⟩
   ·rw [show ((24+i:Nat):Int)=24+(i:Int) from by omega] at en;simp -implicitDefEqProofs [var];rw [cQ en];simp -implicitDefEqProofs [var,hpl];rw [pQ hat];simp -implicitDefEqProofs [var,qQ e1];rw [if_pos (by omega)];simp -implicitDefEqProofs [var];rw [cQ o3];simp -implicitDefEqProofs [var];rw [wi,dF];simp -implicitDefEqProofs [tD]
   ·intro p hp;have hp':p∈ts∨p=(ws[i],os):=by
     rcases List.mem_append.mp hp with q | q
     ·exact .inl (zBw q)
     ·rcases zBv.mp q with q | q
      ·exact .inr q
      ·exact .inl (zCi q)
    rcases hp' with q | rfl
    ·obtain ⟨k,a,b⟩:=j1 p q;exact ⟨k,by omega,b⟩
    ·exact ⟨i,by omega,zAc hw,o2,o1⟩
   ·rw [zBo,zAr];refine List.perm_middle.trans ?_;rw [<-zBo,List.take_append_drop];have:ws.take (i+1)=ws.take i++[ws[i]]:=by rw [zBL,zAc hw];rfl
    rw [this];exact ((j2.cons _).trans (List.perm_append_singleton _ _).symm))
 rw [o_] at j1 j2;rw [zBj (by omega)] at j2;refine ⟨ts,⟨?_,j2.nodup_iff.mpr w2,λp hp=>?_,λp hp o ho=>?_,λp hp=>?_,λs=>(ws.findIdx (·==s)),λp hp o ho=>?_⟩,?_⟩
 ·have:=j2.length_eq;rw [zAn] at this;omega
 ·exact w3 _ (j2.mem_iff.mp (zAG hp))
 ·obtain ⟨k,_,_,_,c⟩:=j1 p hp;exact j2.mem_iff.mpr (zBw (c o ho))
 ·obtain ⟨k,_,_,c,_⟩:=j1 p hp;exact c
 ·obtain ⟨k,hk,hk2,_,c⟩:=j1 p hp;have idx:∀(k:Nat) (s:Str),ws[k]?=some s->ws.findIdx (·==s)=k:=λk s h=>by
   obtain ⟨hlt,he⟩:=List.getElem?_eq_some_iff.mp h;refine (List.findIdx_eq hlt).mpr ⟨by simp [he],λj hj=>?_⟩;have:ws[j]≠s:=λz=>by
    have:=(zBy (i:=j) (j:=k) (by omega) w2).mp (by rw [zAc (by omega),z,h]);omega
   simpa using this
  obtain ⟨j,hj⟩:=zAS (c o ho);have hjk:j < k:=by
   have:=(List.getElem?_eq_some_iff.mp hj).1;rw [zAW] at this;omega
  rw [zBg hjk] at hj;show ws.findIdx (·==o) < ws.findIdx (·==p.1);rw [idx j o hj,idx k p.1 hk2];exact hjk
 ·refine tV (T:=[]) ?_;unfold nW;simp -implicitDefEqProofs [var,cQ (yd ns hn 0 S),hm];rw [cQ w4];simp -implicitDefEqProofs [var];rw [zx (by omega)];simp!;rw [e];simp -implicitDefEqProofs [var]
end Wb
namespace Y
open PySem L2
variable {S:aM}{ρ:dH}{α:Type}{neg:Bool}{z s:Str}{ds:List D}{kvs:List (Key×A)}
section
variable {k:Nat}
@[simp] theorem sX (r:R α):mL none r=r:=rfl
@[simp] theorem acp {i j:Str}:eE neg (.d (.str i)) (.d (.str j)) S=.ok (.d (.bl (if neg then !Z.Ie i j else Z.Ie i j))) S:=by
 unfold eE;simp
theorem lW (h:z.length<=1000):cH [.d (.str z)] S=.ok (.d (.int z.length)) S:=by
 unfold cH;simp only [A.dct];rw [if_pos (zBA (jd (by omega)))]
@[simp] theorem ab7:yx "str" (.d (.str z)) S=.ok (.d (.bl true)) S:=by
 unfold yx Jz;simp [CZ]
theorem Er {bs:List Bool}(al:Bool) (h:Z.o8 ds=some bs):nR al [.d (.lst ds)] S=.ok (.d (.bl (if al then bs.all id else bs.any id))) S:=by
 unfold nR;simp [h]
theorem Jr {xs:List D}(i:Nat):Z.cutD xs none (some (i:Int))=xs.take i:=by
 unfold Z.cutD;rw [HT.mG,HT.pK];rw [List.drop_zero,Nat.sub_zero,<-List.take_take,zBR]
theorem MJ {lo hi:Option Int}:yR (.d (.lst ds)) lo hi S=.ok (.d (.lst (Z.cutD ds lo hi))) S:=rfl
end
section
variable {κ:Type} [DecidableEq κ]
theorem Fd {kvs:List (κ×A)}{k:κ}{v:A}(nd:(kvs.map (·.1)).Nodup) (h:(k,v)∈kvs):gv kvs k=some v:=by
 induction kvs with
 |nil=>cases h
 |cons a l ih=>
  rw [zAr,List.nodup_cons] at nd;unfold gv;rw [zBI];by_cases c:a.1=k
  ·rw [decide_eq_true c];rcases zBv.mp h with q | q
   ·rw [<-q];rfl
   ·exact absurd (zAG (f:=(·.1)) q) (by rw [<-c] ; exact nd.1)
  ·rw [decide_eq_false c];rcases zBv.mp h with q | q
   ·exact absurd (by rw [<-q]) c
   ·exact ih nd.2 q
theorem G_ {kvs:List (κ×A)}{k:κ}:(gv kvs k).isSome=true↔k∈kvs.map (·.1):=by
 unfold gv;rw [Option.isSome_map,List.find?_isSome];constructor
 ·rintro ⟨x,hx,h⟩;rw [<-of_decide_eq_true h];exact zAG hx
 ·intro h;obtain ⟨x,hx,e⟩:=List.mem_map.mp h;exact ⟨x,hx,decide_eq_true e⟩
theorem xU {kvs:List (κ×A)}{k:κ}{v:A}(h:k∉kvs.map (·.1)):pv kvs k v=kvs++[(k,v)]:=by
 unfold pv;rw [if_neg];intro c;obtain ⟨x,hx,e⟩:=List.any_eq_true.mp c;exact h (List.mem_map.mpr ⟨x,hx,of_decide_eq_true e⟩)
theorem DN (kvs:List (κ×A)) (k:κ) (v:A):(pv kvs k v).map (·.1)=if k∈kvs.map (·.1) then kvs.map (·.1) else kvs.map (·.1)++[k]:=by
 by_cases c:k∈kvs.map (·.1)
 ·rw [if_pos c];unfold pv;rw [if_pos (by
   obtain ⟨x,hx,e⟩:=List.mem_map.mp c;exact List.any_eq_true.mpr ⟨x,hx,decide_eq_true e⟩),zAx]
  refine List.map_congr_left λx _=>?_;show (if x.1=k then (x.1,v) else x).1=x.1;split<;>rfl
 ·rw [if_neg c,xU c,zBo];rfl
end
theorem merge_keys:∀(more kvs:List (Key×A)),(kvs.map (·.1)).Nodup->((jT kvs more).map (·.1)).Nodup/\∀m,m∈(jT kvs more).map (·.1)↔m∈kvs.map (·.1)∨m∈more.map (·.1)
 |[],kvs,nd=>⟨nd,λm=>by simp [jT]⟩
 |p::more,kvs,nd=>by
  have e:jT kvs (p::more)=jT (pv kvs p.1 p.2) more:=rfl;have nd2:((pv kvs p.1 p.2).map (·.1)).Nodup:=by
   rw [DN];split
   ·exact nd
   ·rename_i c;exact List.nodup_append.mpr ⟨nd,by simp,λa ha b hb e=>c (by rw [<-List.mem_singleton.mp hb,<-e];exact ha)⟩
  obtain ⟨h1,h2⟩:=merge_keys more (pv kvs p.1 p.2) nd2;rw [e];refine ⟨h1,λm=>(h2 m).trans ?_⟩;rw [DN,zAr,zBv];split
  ·rename_i c;constructor
   ·rintro (q | q)
    ·exact .inl q
    ·exact .inr (.inr q)
   ·rintro (q | q | q)
    ·exact .inl q
    ·rw [q];exact .inl c
    ·exact .inr q
  ·rw [List.mem_append,List.mem_singleton];constructor
   ·rintro ((q | q) | q)
    ·exact .inl q
    ·exact .inr (.inl q)
    ·exact .inr (.inr q)
   ·rintro (q | q | q)
    ·exact .inl (.inl q)
    ·exact .inl (.inr q)
    ·exact .inr q
def Bo (kvs:List (Key×A)) (s:Str):Bool:=(gv kvs (.inr s)).isSome
theorem Ai:Bo kvs s=true↔(.inr s)∈kvs.map (·.1):=by
 unfold Bo;exact G_
section
variable {k j:Nat}
theorem vN {v:A}(h:S[k]?=some (.dic kvs)) (hg:gv kvs (.inr s)=some v):fK (.p k) (.d (.str s)) S=.ok v S:=by
 unfold fK;simp only [A.dct,h,dY.dct,rC,hg,aR]
theorem Jf (h:S[k]?=some (.dic kvs)):eE neg (.d (.str s)) (.p k) S=.ok (.d (.bl (if neg then !Bo kvs s else Bo kvs s))) S:=by
 unfold eE Bo;simp only [A.dct,h,dY.dct,rC]
theorem K5 (h:S[k]?=some (.dic kvs)):cH [.p k] S=.ok (.d (.int kvs.length)) S:=by
 unfold cH;simp [h]
theorem Ua {more:List (Key×A)}(hkj:k≠j) (h1:S[k]?=some (.dic kvs)) (h2:S[j]?=some (.dic more)) (hl:kvs.length+more.length<=1000):Ad (.p k) [.p j] S=.ok (.d .non) (S.set k (.dic (jT kvs more))):=by
 unfold Ad;simp only [if_neg hkj,h1,A.dct,h2,dY.dct];rw [if_pos (zBA (jd (by omega)))]
theorem V6 {z:A}(h1:S[k]?=some (.dic kvs)) (hl:kvs.length<=1000):yM (.p k) (.d (.str s)) z S=.ok () (S.set k (.dic (pv kvs (.inr s) z))):=by
 unfold yM;simp only [h1,rC];rw [if_pos (jd (by omega))]
theorem aaP (h:S[k]?=some (.dic kvs)):yH (.p k) S=.ok (kvs.map λp=>kA p.1,some (k,.frd kvs,true)) (S.set k (.frd kvs)):=by
 unfold yH;simp only [h]
theorem G3 {l:List α}{a:α}(h:l[k]?=some a):l.set k a=l:=by
 obtain ⟨hk,e⟩:=List.getElem?_eq_some_iff.mp h;rw [<-e];exact List.set_getElem_self hk
theorem Ws {c:dY}{x:α}(h:S[k]?=some (.dic kvs)):mL (some (k,c,true)) (.ok x (S.set k (.frd kvs)))=.ok x S:=by
 have hk:=(List.getElem?_eq_some_iff.mp h).1;unfold mL;simp only [ao,zAR hk];congr 1;rw [List.set_set];exact G3 h
def YX (ρ:dH) (o:O3) (g h:FE) (z:A) (S:aM):R uP:=(g ρ S).bind λx S=>(h ρ S).bind λy S=>(o x y z S).bind λ_ S=>.ok (.nx ρ) S
@[simp] theorem Zu {o:O3}{f g h:FE}:Hf o f g h ρ S=(f ρ S).bind (YX ρ o g h):=rfl
theorem Yx {fk:FE}{b:Bool}(h:fk ρ (S++[.dic []])=.ok (.d (.str s)) (S++[.dic []])):Gb fk (cst (.bl b)) ρ S=.ok (.p S.length) (S++[.dic [(.inr s,.d (.bl b))]]):=by
 unfold Gb;rw [h];simp only [ao,cW,rC];rw [show (S++[dY.dic []])[S.length]?=some (.dic []) from aX [] _];dsimp only;rw [dF]
end
end Y
namespace Wb
open PySem L2 Y
open Y (bin)
open Z (lim)
variable {l dn us:List Str}{s:Str}{n0 j:Nat}{sd:List Tu}{kvs:List (Key×A)}{S T:aM}
inductive Xk (sd:List Tu):Str->Str->Prop
 |refl (s:Str):Xk sd s s
 |step {s u v:Str}{us:List Str}:(s,us)∈sd->u∈us->Xk sd u v->Xk sd s v
def gG (sd:List Tu):List (Key×A):=sd.map λp=>(.inr p.1,.d (.lst (p.2.map .str)))
def gw (n0:Nat) (dn:List Str):List (Key×A):=dn.mapIdx λi s=>(.inr s,.p (n0+1+i))
theorem p7 (sd:List Tu):(gG sd).map (·.1)=(sd.map (·.1)).map Sum.inr:=by unfold gG;rw [zAx,zAx];rfl
theorem uq (n0:Nat) (dn:List Str):(gw n0 dn).map (·.1)=dn.map Sum.inr:=by
 refine List.ext_getElem? λi=>?_;unfold gw;rw [zAk,zBx,zAk];cases dn[i]?<;>rfl
theorem JH (h:l.Nodup):(l.map (Sum.inr:Str->Key)).Nodup:=List.nodup_iff_pairwise_ne.mpr (List.pairwise_map.mpr ((List.nodup_iff_pairwise_ne.mp h).imp λn e=>n (Sum.inr.inj e)))
theorem nM:(Sum.inr s:Key)∈l.map Sum.inr↔s∈l:=by
 constructor
 ·intro h;obtain ⟨t,ht,e⟩:=List.mem_map.mp h;cases e;exact ht
 ·exact λh=>zAG h
theorem Dt:Bo (gw n0 dn) s=decide (s∈dn):=by
 rw [zBc,Ai,uq,decide_eq_true_iff];exact nM
theorem Ey {i:Nat}(nd:dn.Nodup) (h:dn[i]?=some s):gv (gw n0 dn) (.inr s)=some (.p (n0+1+i)):=by
 refine Fd (by rw [uq];exact JH nd) (zAh (i:=i) ?_);unfold gw;rw [zBx,h];rfl
theorem Qu (h:s∉dn):pv (gw n0 dn) (.inr s) (.p (n0+1+dn.length))=gw n0 (dn++[s]):=by
 rw [xU (by rw [uq];exact λc=>h (nM.mp c))];unfold gw;rw [List.mapIdx_append];simp
theorem sI (nd:(sd.map (·.1)).Nodup) {p:Tu}(h:p∈sd):gv (gG sd) (.inr p.1)=some (.d (.lst (p.2.map .str))):=by
 refine Fd (by rw [p7];exact JH nd) ?_;exact zAG (f:=λp:Tu=>((Sum.inr p.1:Key),A.d (.lst (p.2.map .str)))) h
def Inn (sd:List Tu) (kvs:List (Key×A)) (s:Str):Prop:=(kvs.map (·.1)).Nodup/\∀m,m∈kvs.map (·.1)↔∃u,m=.inr u/\Xk sd s u
theorem Kz (hu:∀p∈sd,∀o∈p.2,o∈sd.map (·.1)) {u:Str}(h:Xk sd s u):s∈sd.map (·.1)->u∈sd.map (·.1):=by
 induction h with
 |refl s=>exact id
 |step h1 h2 _ ih=>exact λ_=>ih (hu _ h1 _ h2)
theorem Ef (hu:∀p∈sd,∀o∈p.2,o∈sd.map (·.1)) (nd:(kvs.map (·.1)).Nodup) (h:∀m∈kvs.map (·.1),∃u,m=.inr u/\u∈sd.map (·.1)):kvs.length<=sd.length:=by
 have:=@iZ _ (λa b=>Classical.propDecidable (a=b)) _ ((sd.map (·.1)).map Sum.inr) nd λm hm=>by
  obtain ⟨u,rfl,hu⟩:=h m hm;exact nM.mpr hu
 simpa using this
theorem Ms {p:Str->Bool}{keep:A->Bool}{val:A->D}(hk:∀s,keep (.d (.str s))=p s) (hv:∀s,val (.d (.str s))=.str s):∀l:List Str,(((l.map D.str).map A.d).filter keep).map val=(l.filter p).map .str
 |[]=>rfl
 |a::l=>by
  have ih:=Ms hk hv l;rw [zAr,zAr];cases h:p a with
  |true=>rw [zBX (by rw [hk,h]),zBX h,zAr,zAr,ih,hv]
  |false=>rw [List.filter_cons_of_neg (by rw [hk,h];simp),List.filter_cons_of_neg (by rw [h];simp),ih]
structure St (sd:List Tu) (n0:Nat) (dn:List Str) (T:aM):Prop where
 nd:dn.Nodup
 sub:∀s∈dn,s∈sd.map (·.1)
 len:T.length=dn.length
 inn:∀(i:Nat) s,dn[i]?=some s->∃kvs,T[i]?=some (.dic kvs)/\Inn sd kvs s
theorem Qv (hd:(sd.map (·.1)).Nodup) (hf:sd.length<=29) (dn:List Str) (T:aM) {a b c d:Option A}(hj:S[j]?=some (.dic (gG sd))) :
  gY (cC (var 0)) (gN 0) (bZ (bin (eE true) (var 0) (var 1))) (var 0) 1 [1] [some (.p j),some (.p S.length),a,b,c,d] (S++.dic (gw S.length dn)::T)=.ok (.d (.lst (((sd.map (·.1)).filter λs=>decide (s∉dn)).map .str))) (S++.dic (gw S.length dn)::T):=by
 have hjl:=(List.getElem?_eq_some_iff.mp hj).1;have hj2:(S++.dic (gw S.length dn)::T)[j]?=some (.dic (gG sd)):=by rw [zAj hjl];exact hj
 have key:=dG (fi:=cC (var 0)) (g:=gN 0) (t:=(bZ (bin (eE true) (var 0) (var 1)))) (f:=var 0) (n:=1) (js:=[1]) (ρ:=[some (.p j),some (.p S.length),a,b,c,d]) (S:=S++.dic (gw S.length dn)::T) (S1:=(S++.dic (gw S.length dn)::T).set j (.frd (gG sd))) (xs:=(gG sd).map λp=>kA p.1) (ck:=some (j,.frd (gG sd),true))
  (λρ=>∃u,ρ=[u,some (.p S.length)]) (λx=>match x with | .d (.str s)=>decide (s∉dn) | _=>false) (λx=>match x with | .d y=>y | _=>.non) (by
   simp -implicitDefEqProofs [var];rw [aaP hj2]) (λacc=>by
   show ((S++.dic (gw S.length dn)::T).set j (.frd (gG sd))++[dY.lst acc])[j]?=some _;rw [zAj (by simp;omega),zAR (by simp;omega)]) ⟨none,rfl⟩ (by
   rintro x hx ρ ⟨u,rfl⟩;obtain ⟨p,hp,rfl⟩:=List.mem_map.mp hx;obtain ⟨q,hq,rfl⟩:=List.mem_map.mp hp;refine ⟨_,rfl,⟨_,rfl⟩,λacc=>?_,λ_ acc=>?_⟩
   ·have h3:((S++.dic (gw S.length dn)::T).set j (.frd (gG sd))++[dY.lst acc])[S.length]?=some (.dic (gw S.length dn)):=by
     rw [zAj (by simp),zAY (by omega)];exact aX T _
    simp -implicitDefEqProofs [var,kA];rw [Jf h3,Dt];simp -implicitDefEqProofs
   ·simp [var,kA]) (by unfold gG;simp;omega)
 rw [key,Ws hj2];congr 3;have e:((gG sd).map λp=>kA p.1)=((sd.map (·.1)).map D.str).map A.d:=by unfold gG;rw [zAx,zAx,zAx];rfl
 rw [e];exact Ms (λ_=>rfl) (λ_=>rfl) _
theorem Ij (hd:(sd.map (·.1)).Nodup) (dn:List Str) (T:aM) {b c d:Option A}(hj:S[j]?=some (.dic (gG sd))) (lf:List Str) (hl:∀s∈lf,∃p∈sd,p.1=s) (hs:∀p∈sd,p.2.length<=100) (hlf:lf.length<=100) :
  ∃up:Str->List Str,(∀s∈lf,(s,up s)∈sd)/\gY (cC (var 2)) (gN 0) (fP (cal (nR true) (aj (gY (cC (bin fK (var 1) (var 0))) (gN 0) iy (bin (eE false) (var 0) (var 1)) 1 [2]) au))) (var 0) 1 [0,1] [some (.p j),some (.p S.length),some (.d (.lst (lf.map .str))),b,c,d] (S++.dic (gw S.length dn)::T) =
   .ok (.d (.lst ((lf.filter λs=>(up s).all λu=>decide (u∈dn)).map .str))) (S++.dic (gw S.length dn)::T):=by
 have hjl:=(List.getElem?_eq_some_iff.mp hj).1
 let up:Str->List Str:=λs=>((sd.find? λp=>p.1==s).map (·.2)).getD []
 have hup:∀s∈lf,(s,up s)∈sd:=λs hs=>by
  obtain ⟨p,hp,rfl⟩:=hl s hs;have:(sd.find? λq=>q.1==p.1).isSome:=List.find?_isSome.mpr ⟨p,hp,by simp⟩;obtain ⟨q,hq⟩:=Option.isSome_iff_exists.mp this;have h1:q.1=p.1:=by simpa using List.find?_some hq
  have h2:=List.mem_of_find?_eq_some hq;show (p.1,((sd.find? λq=>q.1==p.1).map (·.2)).getD [])∈sd;rw [hq];show (p.1,q.2)∈sd;rw [<-h1];exact h2
 refine ⟨up,hup,?_⟩;have key:=dG (fi:=cC (var 2)) (g:=gN 0) (t:=(fP (cal (nR true) (aj (gY (cC (bin fK (var 1) (var 0))) (gN 0) iy (bin (eE false) (var 0) (var 1)) 1 [2]) au)))) (f:=var 0) (n:=1) (js:=[0,1]) (ρ:=[some (.p j),some (.p S.length),some (.d (.lst (lf.map .str))),b,c,d]) (S:=S++.dic (gw S.length dn)::T) (S1:=S++.dic (gw S.length dn)::T) (xs:=(lf.map D.str).map A.d) (ck:=none)
  (λρ=>∃u,ρ=[u,some (.p j),some (.p S.length)]) (λx=>match x with | .d (.str s)=>(up s).all λu=>decide (u∈dn) | _=>false) (λx=>match x with | .d y=>y | _=>.non) (by
   simp -implicitDefEqProofs [var]) (λacc=>trivial) ⟨none,rfl⟩ (by
   rintro x hx ρ ⟨u,rfl⟩;obtain ⟨p,hp,rfl⟩:=List.mem_map.mp hx;obtain ⟨s,hs1,rfl⟩:=List.mem_map.mp hp;refine ⟨_,rfl,⟨_,rfl⟩,λacc=>?_,λ_ acc=>by simp [var]⟩;have h3:∀U:aM,(S++.dic (gw S.length dn)::T++U)[S.length]?=some (.dic (gw S.length dn)):=λU=>by
    rw [zAC];exact aX _ _
   have h4:(S++.dic (gw S.length dn)::T++[dY.lst acc])[j]?=some (.dic (gG sd)):=by rw [zAC,zAj hjl];exact hj
   have inn:=dG (fi:=(cC (bin fK (var 1) (var 0)))) (g:=gN 0) (t:=iy) (f:=(bin (eE false) (var 0) (var 1))) (n:=1) (js:=[2]) (ρ:=[some (.d (.str s)),some (.p j),some (.p S.length)]) (S:=S++.dic (gw S.length dn)::T++[dY.lst acc]) (S1:=S++.dic (gw S.length dn)::T++[dY.lst acc]) (xs:=((up s).map D.str).map A.d) (ck:=none)
    (λρ=>∃u,ρ=[u,some (.p S.length)]) (λ_=>true) (λx=>match x with | .d (.str u)=>.bl (decide (u∈dn)) | _=>.non) (by
     simp!;rw [vN h4 (sI hd (hup s hs1))];rfl) (λ_=>trivial) ⟨none,rfl⟩ (by
     rintro x hx ρ ⟨u,rfl⟩;obtain ⟨p,hp,rfl⟩:=List.mem_map.mp hx;obtain ⟨v,hv,rfl⟩:=List.mem_map.mp hp;refine ⟨_,rfl,⟨_,rfl⟩,λ_=>rfl,λ_ acc2=>?_⟩;have:=h3 ([dY.lst acc]++[dY.lst acc2]);rw [<-zAC] at this;simp!;rw [Jf this,Dt];rfl) (by have:=hs _ (hup s hs1);simp at this ⊢;omega)
   have un:∀l:List Str,Z.o8 (((((l.map D.str).map A.d).filter λ_=>true).map λx=>match x with | .d (.str u)=>D.bl (decide (u∈dn)) | _=>.non))=some (l.map λu=>decide (u∈dn)):=λl=>by
    induction l with
    |nil=>rfl
    |cons a l ih=>
     simp only [zAr,zBX] at ih ⊢;simp only [Z.o8,ih]
   simp!;rw [inn];simp! [sX];rw [Er true (un (up s))];simp -implicitDefEqProofs [zBT,Function.comp]) (by simpa using by omega)
 rw [key];simp only [sX];congr 3;exact Ms (λ_=>rfl) (λ_=>rfl) _
theorem W5 (c:dY) (T:aM) (i:Nat):(S++c::T)[S.length+1+i]?=T[i]?:=by
 rw [zAw (by omega),show S.length+1+i-S.length=i+1 from by omega,zAg]
theorem Y5 (c y:dY) (T:aM) (i:Nat):(S++c::T).set (S.length+1+i) y=S++c::T.set i y:=by
 rw [zCd _ _ (by omega),show S.length+1+i-S.length=i+1 from by omega,zAL]
theorem uniq (hd:(sd.map (·.1)).Nodup) {vs:List Str}(h1:(s,us)∈sd) (h2:(s,vs)∈sd):us=vs:=by
 obtain ⟨i,hi⟩:=zAS h1;obtain ⟨k,hk⟩:=zAS h2;have e1:(sd.map (·.1))[i]?=some s:=by rw [zAk,hi];rfl
 have e2:(sd.map (·.1))[k]?=some s:=by rw [zAk,hk];rfl
 have:=(zBy (List.getElem?_eq_some_iff.mp e1).1 hd).mp (e1.trans e2.symm);subst this;rw [hi] at hk;exact (Prod.mk.inj (Option.some.inj hk)).2
abbrev lbU:FS:=(bW (lR "dict" Ad (bin fK (var 1) (var 4)) (aj (bin fK (var 1) (var 5)) au)))
abbrev Ke:FS:=(aG (Hf yM (Gb (var 4) (cst (.bl true))) (var 1) (var 4)) (jf (cC (bin fK (var 0) (var 4))) (gN 5) lbU))
theorem SM (hd:(sd.map (·.1)).Nodup) (hf:sd.length<=29) (hu:∀p∈sd,∀o∈p.2,o∈sd.map (·.1)) (hj:S[j]?=some (.dic (gG sd))) (st:St sd S.length dn T) (hs:(s,us)∈sd) (hn:s∉dn) (hr:∀u∈us,u∈dn) (a b c:Option A) :
  ∃kvs c',Inn sd kvs s/\Ke [some (.p j),some (.p S.length),a,b,some (.d (.str s)),c] (S++.dic (gw S.length dn)::T)=.ok (.nx [some (.p j),some (.p S.length),a,b,some (.d (.str s)),c']) (S++.dic (gw S.length (dn++[s]))::(T++[.dic kvs])):=by
 have hjl:=(List.getElem?_eq_some_iff.mp hj).1;have sin:s∈sd.map (·.1):=zAG (f:=(·.1)) hs;have dlen:dn.length<=sd.length:=by
  have:=iZ st.nd st.sub;simpa using this
 have nd':(dn++[s]).Nodup:=List.nodup_append.mpr ⟨st.nd,by simp,λx hx y hy e=>hn (by rw [<-List.mem_singleton.mp hy,<-e];exact hx)⟩;obtain ⟨ρ',S',e,kvs,c',rfl,rfl,n1,n2⟩:=gK (g:=gN 5) (b:=lbU) (ck:=none) (xs:=(us.map D.str).map A.d)
  (λi ρ S'=>∃(kvs:List (Key×A)) (c':Option A),ρ=[some (.p j),some (.p S.length),a,b,some (.d (.str s)),c']/\S'=S++.dic (gw S.length (dn++[s]))::(T++[.dic kvs])/\(kvs.map (·.1)).Nodup/\∀m,m∈kvs.map (·.1)↔m=.inr s∨∃u∈us.take i,∃v,m=.inr v/\Xk sd u v)
  (ρ:=[some (.p j),some (.p S.length),a,b,some (.d (.str s)),c]) (S:=S++.dic (gw S.length (dn++[s]))::(T++[.dic [(.inr s,.d (.bl true))]])) ⟨[(.inr s,.d (.bl true))],c,rfl,rfl,by simp,λm=>by simp⟩ (λ_ _ _ _=>trivial) (by
   rintro i x ρ S2 hx ⟨kvs,c',rfl,rfl,n1,n2⟩;rw [zAx,zAk] at hx;obtain ⟨u,hu1,rfl⟩:=Option.map_eq_some_iff.mp hx;have udn:=hr u (zAh hu1);obtain ⟨iu,hiu⟩:=zAS udn;have hiul:=(List.getElem?_eq_some_iff.mp hiu).1;obtain ⟨more,m1,m2,m3⟩:=st.inn iu u hiu;have g0:(S++.dic (gw S.length (dn++[s]))::(T++[.dic kvs]))[S.length]?=some (.dic (gw S.length (dn++[s]))):=aX _ _;have g1:gv (gw S.length (dn++[s])) (.inr s)=some (.p (S.length+1+T.length)):=by
    rw [st.len];exact Ey nd' (by simp)
   have g2:gv (gw S.length (dn++[s])) (.inr u)=some (.p (S.length+1+iu)):=Ey nd' (by rw [zAj hiul];exact hiu);have g3:(S++.dic (gw S.length (dn++[s]))::(T++[.dic kvs]))[S.length+1+T.length]?=some (.dic kvs):=by rw [W5];exact aX [] _
   have g4:(S++.dic (gw S.length (dn++[s]))::(T++[.dic kvs]))[S.length+1+iu]?=some (.dic more):=by rw [W5,zAj (by rw [st.len];exact hiul)];exact m1
   have l1:kvs.length<=sd.length:=Ef hu n1 λm hm=>by
    rcases (n2 m).mp hm with rfl | ⟨w,hw,v,rfl,hv⟩
    ·exact ⟨s,rfl,sin⟩
    ·exact ⟨v,rfl,Kz hu hv (st.sub w (hr w (zBw hw)))⟩
   have l2:more.length<=sd.length:=Ef hu m2 λm hm=>by
    obtain ⟨v,rfl,hv⟩:=(m3 m).mp hm;exact ⟨v,rfl,Kz hu hv (st.sub u udn)⟩
   obtain ⟨k1,k2⟩:=merge_keys more kvs n1;refine ⟨_,_,_,rfl,?_,jT kvs more,some (.d (.str u)),rfl,rfl,k1,λm=>(k2 m).trans ?_⟩
   ·simp!;rw [vN g0 g1];simp!;rw [X3 g3];simp! [Function.comp];rw [vN g0 g2];simp!;rw [Ua (by rw [st.len];omega) g3 g4 (by omega),Y5,dF];simp! [tE]
   ·rw [n2,m3,zBL,hu1];constructor
    ·rintro ((q | ⟨w,hw,v,rfl,hv⟩) | ⟨v,rfl,hv⟩)
     ·exact .inl q
     ·exact .inr ⟨w,zBe _ hw,v,rfl,hv⟩
     ·exact .inr ⟨u,zAK _ (by simp),v,rfl,hv⟩
    ·rintro (q | ⟨w,hw,v,rfl,hv⟩)
     ·exact .inl (.inl q)
     ·rcases List.mem_append.mp hw with hw | hw
      ·exact .inl (.inr ⟨w,hw,v,rfl,hv⟩)
      ·have:w=u:=by simpa using hw
       subst this;exact .inr ⟨v,rfl,hv⟩)
 have elen:((us.map D.str).map A.d).length=us.length:=by simp
 rw [elen,zBR] at n2;refine ⟨kvs,c',⟨n1,λm=>(n2 m).trans ?_⟩,?_⟩
 ·constructor
  ·rintro (rfl | ⟨u,hu1,v,rfl,hv⟩)
   ·exact ⟨s,rfl,.refl s⟩
   ·exact ⟨v,rfl,.step hs hu1 hv⟩
  ·rintro ⟨v,rfl,hv⟩;cases hv with
   |refl=>exact .inl rfl
   |step h1 h2 h3=>
    cases uniq hd hs h1
    exact .inr ⟨_,h2,v,rfl,h3⟩
 ·have q0:(S++.dic (gw S.length dn)::T++[dY.dic [(.inr s,.d (.bl true))]])[S.length]?=some (.dic (gw S.length dn)):=by rw [zAC];exact aX _ _
  have hl1:(S++.dic (gw S.length dn)::T).length=S.length+1+dn.length:=by rw [zAy,zAv,st.len];omega
  have alen:(gw S.length dn).length=dn.length:=by unfold gw;simp
  simp! [Zu];rw [Yx (s:=s) (b:=true) rfl];simp! [YX];rw [V6 q0 (by omega),hl1,Qu hn,zAC,zBD,dF];simp!;have q1:(S++.dic (gw S.length (dn++[s]))::(T++[dY.dic [(.inr s,.d (.bl true))]]))[j]?=some (.dic (gG sd)):=by rw [zAj hjl];exact hj
  rw [vN q1 (sI hd hs)];simp!;exact e
theorem St.snoc (st:St sd n0 dn T) (hn:s∉dn) (hs:s∈sd.map (·.1)) (hi:Inn sd kvs s):St sd n0 (dn++[s]) (T++[.dic kvs]):=by
 refine ⟨List.nodup_append.mpr ⟨st.nd,by simp,λx hx y hy e=>hn (by rw [<-List.mem_singleton.mp hy,<-e];exact hx)⟩,λt ht=>?_,by simp [st.len],λi t ht=>?_⟩
 ·rcases List.mem_append.mp ht with q | q
  ·exact st.sub t q
  ·rw [List.mem_singleton.mp q];exact hs
 ·by_cases c:i < dn.length
  ·rw [zAj c] at ht;obtain ⟨k,h1,h2⟩:=st.inn i t ht;exact ⟨k,by rw [zAj (by rw [st.len];exact c)];exact h1,h2⟩
  ·have e:i=dn.length:=by
    have:=(List.getElem?_eq_some_iff.mp ht).1;simp at this;omega
   subst e;have:t=s:=by simpa using ht.symm
   subst this;exact ⟨kvs,by rw [<-st.len];exact aX [] _,hi⟩
theorem HF (hd:(sd.map (·.1)).Nodup) (hf:sd.length<=29) (hu:∀p∈sd,∀o∈p.2,o∈sd.map (·.1)) (hj:S[j]?=some (.dic (gG sd))) (st:St sd S.length dn T) {rd:List Str}{up:Str->List Str}(hn:rd.Nodup) (h1:∀s∈rd,s∉dn) (h2:∀s∈rd,(s,up s)∈sd) (h3:∀s∈rd,∀u∈up s,u∈dn) (a b x y:Option A) :
  ∃T' x' y',St sd S.length (dn++rd) T'/\dW (gN 4) Ke none ((rd.map D.str).map A.d) [some (.p j),some (.p S.length),a,b,x,y] (S++.dic (gw S.length dn)::T)=.ok (.nx [some (.p j),some (.p S.length),a,b,x',y']) (S++.dic (gw S.length (dn++rd))::T'):=by
 obtain ⟨ρ',S',e,T',x',y',s1,rfl,rfl⟩:=gK (g:=gN 4) (b:=Ke) (ck:=none) (xs:=(rd.map D.str).map A.d)
  (λi ρ S'=>∃(T':aM) (x y:Option A),St sd S.length (dn++rd.take i) T'/\ρ=[some (.p j),some (.p S.length),a,b,x,y]/\S'=S++.dic (gw S.length (dn++rd.take i))::T')
  (ρ:=[some (.p j),some (.p S.length),a,b,x,y]) (S:=S++.dic (gw S.length dn)::T) ⟨T,x,y,by simpa using st,rfl,by simp⟩ (λ_ _ _ _=>trivial) (by
   rintro i z ρ S2 hz ⟨T',x,y,s1,rfl,rfl⟩;rw [zAx,zAk] at hz;obtain ⟨s,hs,rfl⟩:=Option.map_eq_some_iff.mp hz;have sm:=zAh hs;have e1:rd.take (i+1)=rd.take i++[s]:=by rw [zBL,hs];rfl
   have hni:s∉dn++rd.take i:=λhm=>by
    rcases List.mem_append.mp hm with q | q
    ·exact h1 s sm q
    ·obtain ⟨k,hk⟩:=zAS q;have hki:k < i:=by
      have:=(List.getElem?_eq_some_iff.mp hk).1;rw [zAW] at this;omega
     rw [zBg hki] at hk;have:=(zBy (List.getElem?_eq_some_iff.mp hk).1 hn).mp (hk.trans hs.symm);omega
   obtain ⟨kvs,c',hi,ea⟩:=SM hd hf hu hj s1 (h2 s sm) hni (λu hu1=>zBe _ (h3 s sm u hu1)) a b y;have s2:=s1.snoc hni (zAG (f:=(·.1)) (h2 s sm)) hi;rw [zAC,<-e1] at s2;rw [zAC,<-e1] at ea;exact ⟨_,_,_,rfl,ea,_,_,_,s2,rfl,rfl⟩)
 rw [show ((rd.map D.str).map A.d).length=rd.length from by simp,zBR] at s1 e;exact ⟨T',x',y',s1,e⟩
end Wb
namespace Wb
open PySem L2 Y
open Y (bin)
open Z (lim jE)
open YS (adds fU fB)
variable {S:aM}
inductive Row (S:aM):A->Tu->Prop
 |dl (n:Str) (os:List Str):Row S (.d (.tup [.str n,.lst (os.map .str)])) (n,os)
 |du (n:Str) (os:List Str):Row S (.d (.tup [.str n,.tup (os.map .str)])) (n,os)
 |t (n:Str) (os:List Str) (k:Nat):S[k]?=some (.lst (os.map .str))->Row S (.t [.d (.str n),.p k]) (n,os)
def pairOf (S:aM) (x:A):Tu:=match x with
 |.d (.tup [.str n,.lst l])=>(n,(Z.iI l).getD [])
 |.d (.tup [.str n,.tup l])=>(n,(Z.iI l).getD [])
 |.t [.d (.str n),.p k]=>match S[k]? with
  |some (.lst l)=>(n,(Z.iI l).getD [])
  |_=>(n,[])
 |_=>("", [])
theorem Ej {x:A}{p:Tu}(h:Row S x p):pairOf S x=p:=by
 cases h with
 |dl n os=>show (n,(Z.iI (os.map .str)).getD [])=_;rw [Z.gj];rfl
 |du n os=>show (n,(Z.iI (os.map .str)).getD [])=_;rw [Z.gj];rfl
 |t n os k hk=>
  unfold pairOf;simp only [hk,Z.gj];rfl
abbrev g2:FG:=(gT 2 (aH (gN 0) (aH (gN 1) bY)))
section
variable {ρ:dH}{fi:FI}{xs:List A}{ts:List Tu}{ck:Ck}
theorem Q0 (l:List Str):(jE (adds [] l)).length<=l.length:=by
 rw [(Z.ni _).length_eq];have:=fB l [];simpa using this
theorem yu (l:List Str) (s:Str):s∈jE (adds [] l)↔s∈l:=by
 rw [(Z.ni _).mem_iff,fU];simp
def dZ (ts:List Tu):List Tu:=ts.map λp=>(p.1,jE (adds [] p.2))
theorem Ue {f:FE}{l:List Str}{S':aM}(hf:f ρ S=.ok (.d (.lst (l.map .str))) S') (hl:l.length < 64):mU f ρ S=.ok ((jE (adds [] l)).map .str) S':=by
 unfold mU;rw [hf];simp only [ao];have:strsOf (.d (.lst (l.map .str))) S'=some l:=Z.gj l;rw [this];simp only [if_pos hl,aR]
theorem Rm:∀(ts dn:List Tu) (ρ:dH),(∃u v,ρ=[u,v])->((dn++ts).map (·.1)).Nodup->(∀p∈ts,p.2.length < 64)->(dn++ts).length<=1000 ->
  ∃ρ',Dm g2 iy (var 0) (dL (mU (var 1))) none S.length ((ts.map tD).map A.d) ρ (S++[.dic (gG (dZ dn))])=.ok ρ' (S++[.dic (gG (dZ (dn++ts)))])
 |[],dn,ρ,_,_,_,_=>⟨ρ,by show Dm _ _ _ _ _ _ [] _ _=_;unfold Dm;rw [if_pos (show gH none (S++[.dic (gG (dZ dn))]) from trivial)];simp⟩
 |p::ts,dn,ρ,hρ,nd,hs,hl=>by
  obtain ⟨u,v,rfl⟩:=hρ;have hp:=hs p zAm;have e0:dn++p::ts=(dn++[p])++ts:=by simp
  rw [e0] at nd hl ⊢;obtain ⟨ρ',e⟩:=Rm ts (dn++[p]) [some (.d (.str p.1)),some (.d (.lst (p.2.map .str)))] ⟨_,_,rfl⟩ nd (λq hq=>hs q (zAf _ hq)) hl;refine ⟨ρ',?_⟩;show Dm _ _ _ _ _ _ (A.d (tD p)::(ts.map tD).map A.d) _ _=_;unfold Dm;rw [if_pos (show gH none (S++[.dic (gG (dZ dn))]) from trivial)];have eg:g2 (A.d (tD p)) [u,v]=some [some (.d (.str p.1)),some (.d (.lst (p.2.map .str)))]:=rfl;rw [eg];have es:=Ue (S:=S++[.dic (gG (dZ dn))]) (ρ:=[some (.d (.str p.1)),some (.d (.lst (p.2.map .str)))]) (f:=var 1) (l:=p.2) rfl hp;simp! [iy];rw [es];simp!;have hnew:(Sum.inr p.1:Key)∉(gG (dZ dn)).map (·.1):=by
   rw [p7];intro c;have c2:=nM.mp c;have e1:(dZ dn).map (·.1)=dn.map (·.1):=by unfold dZ;rw [zAx];rfl
   rw [e1] at c2;rw [zAC,zBo,List.nodup_append] at nd;exact nd.2.2 p.1 c2 p.1 (by simp) rfl
  have ep:Nb S.length (.d (.str p.1)) (.d (.lst ((jE (adds [] p.2)).map .str))) (S++[.dic (gG (dZ dn))])=.ok () (S++[.dic (gG (dZ (dn++[p])))]):=by
   unfold Nb;rw [show (S++[dY.dic (gG (dZ dn))])[S.length]?=some (.dic (gG (dZ dn))) from aX [] _];simp only [rC];rw [if_pos (jd (by
    have:(gG (dZ dn)).length=dn.length:=by unfold gG dZ;simp
    rw [zAy] at hl;rw [zAy] at hl;omega)),xU hnew,dF]
   congr 3;unfold gG dZ;simp
  rw [ep];simp!;exact e
theorem zE (hi:fi ρ S=.ok ((ts.map tD).map A.d,none) S) (nd:(ts.map (·.1)).Nodup) (hs:∀p∈ts,p.2.length < 64) (hl:ts.length<=100):Zq fi g2 iy (var 0) (dL (mU (var 1))) 2 [] ρ S=.ok (.p S.length) (S++[.dic (gG (dZ ts))]):=by
 obtain ⟨ρ',e⟩:=Rm (S:=S) ts [] (rA ρ 2 []) ⟨none,none,rfl⟩ (by simpa using nd) hs (by simp;omega);unfold Zq;rw [hi];simp only [ao,sX];have e':Dm g2 iy (var 0) (dL (mU (var 1))) none S.length ((ts.map tD).map A.d) (rA ρ 2 []) (S++[.dic []])=.ok ρ' (S++[.dic (gG (dZ ts))]):=e;rw [e'];simp only [fY,endC]
end
end Wb
namespace Y
open PySem L2
section
variable {f h:FE}{fa:FA}{ρ:dH}{S:aM}{k:Nat}{C:Addr}{n:Str}
def R8 (C:Addr) (n:Str) (ρ:dH) (y:A) (x:A) (S:aM):R uP:=match x with
 |.p k=>match S[k]? with
  |some (.ins D fs)=>if D=C/\fs.length < 1000 then .ok (.nx ρ) (S.set k (.ins D (Ci n y fs))) else .no
  |_=>.no
 |_=>.no
def vC (C:Addr) (n:Str) (h:FE) (ρ:dH) (y:A) (S:aM):R uP:=(h ρ S).bind (R8 C n ρ y)
@[simp] theorem Jq:zO C n f h ρ S=(f ρ S).bind (vC C n h ρ):=rfl
theorem Rk {y:A}{fs:List (Str×A)}(hx:h ρ S=.ok (.p k) S) (hk:S[k]?=some (.ins C fs)) (hl:fs.length < 1000):vC C n h ρ y S=.ok (.nx ρ) (S.set k (.ins C (Ci n y fs))):=by
 unfold vC;rw [hx];simp only [ao,R8,hk];rw [if_pos ⟨trivial,hl⟩]
theorem Y_ {fs:List (Str×A)}{v:A}(hk:S[k]?=some (.ins C fs)) (hv:fs.lookup n=some v):G7 C n (.p k) S=.ok v S:=by
 unfold G7;simp only [hk,if_pos,hv,aR]
end
theorem CG {t:FT}{b:FS}(J:Nat->dH->aM->Prop) (P:R uP->Prop)
  (step:∀k ρ S,J k ρ S->(∃S',t ρ S=.ok false S'/\P (.ok (.nx ρ) S'))∨∃S1,t ρ S=.ok true S1/\((∃e S2,b ρ S1=.ex e S2/\P (.ex e S2))∨(∃v S2,b ρ S1=.ok (.rt v) S2/\P (.ok (.rt v) S2))∨∃ρ2 S2 k',b ρ S1=.ok (.nx ρ2) S2/\k=k'+1/\J k' ρ2 S2)) :
  ∀(n k:Nat) (ρ:dH) (S:aM),k < n->J k ρ S->P (rQ t b n ρ S)
 |0,k,ρ,S,h,_=>absurd h (zBV _)
 |n+1,k,ρ,S,h,hj=>by
  rcases step k ρ S hj with ⟨S',e,p⟩ | ⟨S1,e1,c⟩
  ·unfold rQ;rw [e];exact p
  ·rcases c with ⟨e,S2,e2,p⟩ | ⟨v,S2,e2,p⟩ | ⟨ρ2,S2,k',e2,rfl,hj2⟩
   ·unfold rQ;rw [e1];simp only [ao,if_true,e2];exact p
   ·unfold rQ;rw [e1];simp only [ao,if_true,e2];exact p
   ·have:=CG J P step n k' ρ2 S2 (by omega) hj2;unfold rQ;rw [e1];simp only [ao,if_true,e2];exact this
end Y
namespace K14
open PySem L2 Y
open Y (bin)
open Wb
open Z (lim)
variable {st:List Str}{u:Str}{sd:List Tu}{S:aM}{j:Nat}
def Up (sd:List Tu) (a b:Str):Prop:=∃us,(a,us)∈sd/\b∈us
structure dD (sd:List Tu) (r:List Str):Prop where
 ne:r≠[]
 nd:r.Nodup
 nx:∀(i:Nat) a b,r[i]?=some a->(r.drop 1++r.take 1)[i]?=some b->Up sd a b
theorem Nr {α:Type}{xs:List α}{x:α}(h:xs[xs.length-1]?=some x):nQ xs (-1)=some x:=by
 have hl:=(List.getElem?_eq_some_iff.mp h).1;unfold nQ Ib;rw [if_neg (by decide),if_pos (by omega)];show xs[((-1:Int)+(xs.length:Int)).toNat]?=some x;rw [show ((-1:Int)+(xs.length:Int)).toNat=xs.length-1 from by omega];exact h
theorem Vy (h:u∈st):∃i,(st.map D.str).findIdx? (λe=>decide (cA e (.str u)=some true))=some i/\st[i]?=some u:=by
 cases hf:(st.map D.str).findIdx? (λe=>decide (cA e (.str u)=some true)) with
 |none=>
  have:=List.findIdx?_eq_none_iff.mp hf (.str u) (zAG h);simp [cA] at this
 |some i=>
  refine ⟨i,rfl,?_⟩;obtain ⟨hi,hp,_⟩:=List.findIdx?_eq_some_iff_getElem.mp hf;have hi':i < st.length:=by simpa using hi
  have:=of_decide_eq_true hp;rw [List.getElem_map] at this;have e:st[i]=u:=by simpa [cA] using this
  rw [zAc hi',e]
theorem Oa {i0:Nat}{l:Str}(nd:st.Nodup) (ch:∀(i:Nat) a b,st[i]?=some a->st[i+1]?=some b->Up sd a b) (hl:st[st.length-1]?=some l) (hi:st[i0]?=some u) (hu:Up sd l u):dD sd (st.drop i0):=by
 have hi0:=(List.getElem?_eq_some_iff.mp hi).1;refine ⟨λe=>?_,nd.sublist (List.drop_sublist _ _),λi a b h1 h2=>?_⟩
 ·have:=List.drop_eq_nil_iff.mp e;omega
 ·rw [List.getElem?_drop] at h1;have il:=(List.getElem?_eq_some_iff.mp h1).1;have dl:((st.drop i0).drop 1).length=st.length-i0-1:=by rw [zBC,zBC]
  by_cases c:i < st.length-i0-1
  ·rw [zAj (by rw [dl];exact c),List.getElem?_drop,List.getElem?_drop] at h2;exact ch (i0+i) a b h1 (by rw [<-h2];congr 1;omega)
  ·have e:i=st.length-i0-1:=by omega
   rw [zAw (by rw [dl];omega),dl,show i-(st.length-i0-1)=0 from by omega,zBg (by omega),List.getElem?_drop] at h2;have e1:a=l:=by
    rw [show i0+i=st.length-1 from by omega,hl] at h1;exact (Option.some.inj h1).symm
   have e2:b=u:=by
    rw [show i0+0=i0 from rfl,hi] at h2;exact (Option.some.inj h2).symm
   rw [e1,e2];exact hu
abbrev lbR:FS:=(aG (aP 3 (bin fK (gY (cC (bin fK (var 0) (bin fK (var 2) (un uT (cst (.int 1)))))) (gN 0) (bZ (bin (eE false) (var 0) (var 1))) (var 0) 1 [1]) (cst (.int 0)))) (aG (je (bZ (bin (eE false) (var 3) (var 2))) (cj (tU (var 2) (iB (lR "list" qM (var 2) (aj (var 3) au))) Aq)) bU) (bW (lR "list" (mR nP) (var 2) (aj (var 3) au)))))
theorem L_ (hd:(sd.map (·.1)).Nodup) (hj:S[j]?=some (.dic (gG sd))) (hs:∀p∈sd,p.2.length<=100) {lf:List Str}(hlf:lf.length<=29) (hne:lf≠[]) (hup:∀s∈lf,∃us,(s,us)∈sd/\∃u∈us,u∈lf) :
  ∃r,dD sd r/\fL [.p j,.d (.lst (lf.map .str))] S=.ok (.d (.lst (r.map .str))) S:=by
 have hjl:=(List.getElem?_eq_some_iff.mp hj).1;obtain ⟨s0,l0,e0⟩:∃s0 l0,lf=s0::l0:=by cases lf with
  |nil=>exact absurd rfl hne
  |cons a l=>exact ⟨a,l,rfl⟩
 have key:=CG (t:=(fP (cst (.bl true)))) (b:=lbR)
  (λk ρ S'=>∃(st:List Str) (x:Option A),st≠[]/\st.Nodup/\(∀s∈st,s∈lf)/\(∀(i:Nat) a b,st[i]?=some a->st[i+1]?=some b->Up sd a b)/\ρ=[some (.p j),some (.d (.lst (lf.map .str))),some (.p S.length),x]/\S'=S++[.lst (st.map .str)]/\30=st.length+k)
  (λr=>∃(q:List Str) (T:aM),dD sd q/\r=.ok (.rt (.d (.lst (q.map .str)))) (S++T)) (by
   rintro k ρ S' ⟨st,x,n1,n2,n3,n4,rfl,rfl,hk⟩;right;refine ⟨S++[.lst (st.map .str)],rfl,?_⟩;have hat:(S++[dY.lst (st.map D.str)])[S.length]?=some (.lst (st.map .str)):=aX [] _;have hjt:∀T:aM,(S++T)[j]?=some (.dic (gG sd)):=λT=>by rw [zAj hjl];exact hj
   have sl:0 < st.length:=List.length_pos_iff.mpr n1;obtain ⟨l,hl⟩:∃l,st[st.length-1]?=some l:=⟨_,zAc (by omega)⟩;obtain ⟨us,us1,u0,us2,us3⟩:=hup l (n3 l (zAh hl));have ec:gY (cC (bin fK (var 0) (bin fK (var 2) (un uT (cst (.int 1)))))) (gN 0) (bZ (bin (eE false) (var 0) (var 1))) (var 0) 1 [1] [some (.p j),some (.d (.lst (lf.map .str))),some (.p S.length),x] (S++[.lst (st.map .str)])=.ok (.d (.lst ((us.filter λu=>decide (u∈lf)).map .str))) (S++[.lst (st.map .str)]):=by
    have key:=dG (fi:=cC (bin fK (var 0) (bin fK (var 2) (un uT (cst (.int 1)))))) (g:=gN 0) (t:=(bZ (bin (eE false) (var 0) (var 1)))) (f:=var 0) (n:=1) (js:=[1]) (ρ:=[some (.p j),some (.d (.lst (lf.map .str))),some (.p S.length),x]) (S:=S++[.lst (st.map .str)]) (S1:=S++[.lst (st.map .str)]) (xs:=(us.map D.str).map A.d) (ck:=none)
     (λρ=>∃u,ρ=[u,some (.d (.lst (lf.map .str)))]) (λx=>match x with | .d (.str s)=>decide (s∈lf) | _=>false) (λx=>match x with | .d y=>y | _=>.non) (by
      have el:nQ (st.map D.str) (-1)=some (.str l):=Nr (by rw [zAn,zAk,hl];rfl);simp! only [uY,fQ,Vz,cW,var,zAg,zAi,ao,dg,uT];rw [Rx hat el];simp! only [ao,dg];rw [vN (hjt _) (sI hd us1)];simp! only [ao,uR]) (λacc=>trivial) ⟨none,rfl⟩ (by
      rintro x hx ρ ⟨u,rfl⟩;rw [zAx] at hx;obtain ⟨w,hw,rfl⟩:=List.mem_map.mp hx;refine ⟨_,rfl,⟨_,rfl⟩,λacc=>?_,λ_ acc=>?_⟩
      ·simp -implicitDefEqProofs [var];rw [pR (fZ _ _) (by rintro i j ⟨_,h⟩;cases h),gP];simp -implicitDefEqProofs
      ·simp [var]) (by have:=hs _ us1;simp at this ⊢;omega)
    rw [key];show R.ok _ _=_;congr 3;exact Ms (λ_=>rfl) (λ_=>rfl) _
   obtain ⟨u,fl,hfl⟩:∃u fl,us.filter (λu=>decide (u∈lf))=u::fl:=by
    cases hq:us.filter (λu=>decide (u∈lf)) with
    |nil=>
     have:u0∈us.filter (λu=>decide (u∈lf)):=List.mem_filter.mpr ⟨us2,decide_eq_true us3⟩;rw [hq] at this;cases this
    |cons a l=>exact ⟨a,l,rfl⟩
   have hu:u∈us/\u∈lf:=by
    have:u∈us.filter (λu=>decide (u∈lf)):=by rw [hfl];exact zAm
    have:=List.mem_filter.mp this;exact ⟨this.1,of_decide_eq_true this.2⟩
   have step:∀G:FS,(aG (aP 3 (bin fK (gY (cC (bin fK (var 0) (bin fK (var 2) (un uT (cst (.int 1)))))) (gN 0) (bZ (bin (eE false) (var 0) (var 1))) (var 0) 1 [1]) (cst (.int 0)))) G) [some (.p j),some (.d (.lst (lf.map .str))),some (.p S.length),x] (S++[.lst (st.map .str)])=G [some (.p j),some (.d (.lst (lf.map .str))),some (.p S.length),some (.d (.str u))] (S++[.lst (st.map .str)]):=λG=>by
    simp! only [gQ,ou,fQ];rw [ec,hfl];simp! only [ao,dg,cW];rw [qQ (x:=.str u) (by rw [zAr];exact ix0 _ _)];simp! only [ao,n_,fJ,zAL,zAU]
   have et:(bZ (bin (eE false) (var 3) (var 2))) [some (.p j),some (.d (.lst (lf.map .str))),some (.p S.length),some (.d (.str u))] (S++[.lst (st.map .str)])=.ok (decide (u∈st)) (S++[.lst (st.map .str)]):=by
    simp -implicitDefEqProofs [var];rw [R9 hat (fZ _ _),gP];rfl
   by_cases c:u∈st
   ·obtain ⟨i0,hi0,hi1⟩:=Vy c;right;left;refine ⟨_,_,?_,st.drop i0,[.lst (st.map .str)],Oa n2 n4 hl hi1 ⟨us,us1,hu.1⟩,rfl⟩;unfold lbR;rw [step];simp! only [gQ,rD];rw [et,decide_eq_true c];simp! only [ao,pI,zm,Dv,var,zAg,zAi,Dy,um,FQ];rw [pQ hat];simp! only [ao,cT,var,zAg,zAi,lK,dU];have eo:qM (.p S.length) [.d (.str u)] (S++[.lst (st.map .str)])=.ok (.d (.int i0)) (S++[.lst (st.map .str)]):=by
     unfold qM;rw [KZ _ _ _ hat];simp only [qY,fZ,if_true,hi0]
    rw [eo];simp! only [ao,uy,wJ,Bl,xg];have ecut:yR (.p S.length) (some (i0:Int)) none (S++[.lst (st.map .str)])=.ok (.d (.lst ((st.drop i0).map .str))) (S++[.lst (st.map .str)]):=by
     unfold yR;simp only [A.sh,hat];congr 3;unfold Z.cutD;rw [HT.mG,HT.pK];have:=(List.getElem?_eq_some_iff.mp hi1).1;rw [zAn,Nat.min_eq_left (by omega),List.map_drop];exact zBj (by simp)
    rw [ecut];simp! only [ao,D_,BZ]
   ·right;right;have len:st.length < 29+1:=by
     have:=iZ n2 n3;omega
    have len2:st.length+1<=29:=by
     have:=iZ (l:=u::st) (m:=lf) (List.nodup_cons.mpr ⟨c,n2⟩) λy hy=>by
      rcases zBv.mp hy with rfl | q
      ·exact hu.2
      ·exact n3 y q
     simp at this;omega
    refine ⟨_,_,k-1,?_,by omega,st++[u],some (.d (.str u)),by simp,?_,λs hs=>?_,λi a b h1 h2=>?_,rfl,rfl,by simp;omega⟩
    ·unfold lbR;rw [step];simp! only [gQ,rD];rw [et,decide_eq_false c];simp! only [ao,Ed,Fj,fJ,tQ,FQ,var,zAg,zAi];rw [pQ hat];simp! only [ao,cT,var,zAg,zAi,lK,dU];rw [zq hat (by simp;omega),dF];simp -implicitDefEqProofs
    ·exact List.nodup_append.mpr ⟨n2,by simp,λa ha b hb e=>c (by rw [<-List.mem_singleton.mp hb,<-e];exact ha)⟩
    ·rcases List.mem_append.mp hs with q | q
     ·exact n3 s q
     ·rw [List.mem_singleton.mp q];exact hu.2
    ·have il:=(List.getElem?_eq_some_iff.mp h2).1;rw [zAy,List.length_singleton] at il;rw [zAj (by omega)] at h1;by_cases ci:i+1 < st.length
     ·rw [zAj ci] at h2;exact n4 i a b h1 h2
     ·have ei:i=st.length-1:=by omega
      rw [zAw (by omega),show i+1-st.length=0 from by omega] at h2;have eb:b=u:=by simpa using h2.symm
      rw [ei,hl] at h1;rw [<-Option.some.inj h1,eb];exact ⟨us,us1,hu.1⟩) 60 29 [some (.p j),some (.d (.lst (lf.map .str))),some (.p S.length),none] (S++[.lst [.str s0]]) (by omega) ⟨[s0],none,by simp,by simp,by simp [e0],by
   intro i a b h1 h2;have:=(List.getElem?_eq_some_iff.mp h2).1;simp at this,rfl,rfl,rfl⟩
 obtain ⟨q,T,hq,e⟩:=key;refine ⟨q,hq,rY (T:=T) ?_⟩;unfold ji;simp! only [gQ,ou,SQ,vR,cT,fQ,zAr,zCe,zBD,zCk,var,zAg,zAi,ao,dg,cW];rw [qQ (x:=.str s0) (by rw [e0,zAr];exact ix0 _ _)];simp! only [ao,lK,dU,yJ,fW,zAv,zCl,if_pos (show 0+1<=lim by decide),n_,fJ,List.replicate,zAL,zAU];exact e
inductive wg (sd:List Tu):Str->Prop
 |mk {s:Str}{us:List Str}:(s,us)∈sd->(∀u∈us,wg sd u)->wg sd s
def Lp (sd:List Tu) (L:List Str):Prop:=L≠[]/\∀s∈L,∃us,(s,us)∈sd/\∃u∈us,u∈L
theorem wR (hd:(sd.map (·.1)).Nodup) {L:List Str}(h:Lp sd L):∀s,wg sd s->s∉L:=λs g=>by
 induction g with
 |mk h1 _ ih=>
  intro hs;obtain ⟨us,h2,u,h3,h4⟩:=h.2 _ hs;cases uniq hd h1 h2
  exact ih u h3 h4
abbrev tsA:FT:=(bZ (bin (oI Z.Nf) (cal cH (aj (var 1) au)) (cal cH (aj (var 0) au))))
abbrev YQ (CRing:Addr):FS:=(aG (aP 2 (gY (cC (var 0)) (gN 0) (bZ (bin (eE true) (var 0) (var 1))) (var 0) 1 [1])) (aG (aP 3 (gY (cC (var 2)) (gN 0) (fP (cal (nR true) (aj (gY (cC (bin fK (var 1) (var 0))) (gN 0) iy (bin (eE false) (var 0) (var 1)) 1 [2]) au))) (var 0) 1 [0,1])) (aG (je (lD (fP (var 3))) (nA CRing "ring" (aW fL (aj (var 0) (aj (var 2) au)))) bU) (jf (cC (var 3)) (gN 4) Ke))))
def ZM (sd:List Tu) (S:aM) (j:Nat) (Rg:Addr) (r:R uP):Prop:=
 (∃(dn:List Str) (T:aM) (a b x y:Option A),St sd S.length dn T/\(∀s∈dn,wg sd s)/\sd.length<=dn.length/\r=.ok (.nx [some (.p j),some (.p S.length),a,b,x,y]) (S++.dic (gw S.length dn)::T)) ∨
 ∃(q:List Str) (T:aM) (L:List Str),dD sd q/\Lp sd L/\r=.ex ⟨Rg,[("ring", .d (.lst (q.map .str)))]⟩ (S++T)
theorem K_ (Rg:Addr) (hd:(sd.map (·.1)).Nodup) (hf:sd.length<=29) (hu:∀p∈sd,∀o∈p.2,o∈sd.map (·.1)) (hs:∀p∈sd,p.2.length<=100) (hj:S[j]?=some (.dic (gG sd))) :
  ZM sd S j Rg (rQ tsA (YQ Rg) 30 [some (.p j),some (.p S.length),none,none,none,none] (S++[.dic []])):=by
 have hjl:=(List.getElem?_eq_some_iff.mp hj).1;refine CG (t:=tsA) (b:=YQ Rg)
  (λk ρ S'=>∃(dn:List Str) (T:aM) (a b x y:Option A),St sd S.length dn T/\(∀s∈dn,wg sd s)/\ρ=[some (.p j),some (.p S.length),a,b,x,y]/\S'=S++.dic (gw S.length dn)::T/\sd.length<=dn.length+k) (ZM sd S j Rg) ?_ 30 29 _ _ (by omega) ⟨[],[],none,none,none,none,⟨zBP,by simp,rfl,λi s h=>by simp at h⟩,by simp,rfl,rfl,by simpa using hf⟩
 rintro k ρ S' ⟨dn,T,a,b,x,y,st,gd,rfl,rfl,hk⟩;have c1:(S++.dic (gw S.length dn)::T)[S.length]?=some (.dic (gw S.length dn)):=aX _ _;have c2:(S++.dic (gw S.length dn)::T)[j]?=some (.dic (gG sd)):=by rw [zAj hjl];exact hj
 have et:tsA [some (.p j),some (.p S.length),a,b,x,y] (S++.dic (gw S.length dn)::T)=.ok (decide (dn.length < sd.length)) (S++.dic (gw S.length dn)::T):=by
  simp!;rw [K5 c1];simp!;rw [K5 c2];simp! [Z.Nf];have l1:(gw S.length dn).length=dn.length:=by unfold gw;simp
  have l2:(gG sd).length=sd.length:=by unfold gG;simp
  rw [l1,l2];congr 1;by_cases c:dn.length < sd.length
  ·rw [decide_eq_true c,decide_eq_true (by omega)]
  ·rw [decide_eq_false c,decide_eq_false (by omega)]
 by_cases c:dn.length < sd.length
 ·right;obtain ⟨k',rfl⟩:∃k',k=k'+1:=⟨k-1,by omega⟩;have e1:=Qv hd hf dn T hj (a:=a) (b:=b) (c:=x) (d:=y);have hlf:∀s,s∈(sd.map (·.1)).filter (λs=>decide (s∉dn))↔s∈sd.map (·.1)/\s∉dn:=λs=>by
   rw [List.mem_filter,decide_eq_true_iff]
  have hlen:((sd.map (·.1)).filter (λs=>decide (s∉dn))).length<=29:=zAB (List.length_filter_le _ _) (by simp;omega);have hnd:((sd.map (·.1)).filter (λs=>decide (s∉dn))).Nodup:=hd.filter _;generalize hlfe:(sd.map (·.1)).filter (λs=>decide (s∉dn))=lf at e1 hlf hlen hnd;obtain ⟨up,u1,e2⟩:=Ij (b:=b) (c:=x) (d:=y) hd dn T hj lf (λs hs1=>by
   obtain ⟨p,hp,e⟩:=List.mem_map.mp ((hlf s).mp hs1).1;exact ⟨p,hp,e⟩) hs (by omega)
  have hrd:∀s,s∈lf.filter (λs=>(up s).all λu=>decide (u∈dn))↔s∈lf/\∀u∈up s,u∈dn:=λs=>by
   rw [List.mem_filter,List.all_eq_true];simp only [decide_eq_true_iff]
  have hnr:(lf.filter (λs=>(up s).all λu=>decide (u∈dn))).Nodup:=hnd.filter _;generalize lf.filter (λs=>(up s).all λu=>decide (u∈dn))=rd at e2 hrd hnr;have some1:∃s,s∈lf:=Classical.byContradiction λhc=>by
   have:=iZ hd (m:=dn) λs hs1=>Classical.byContradiction λhn=>hc ⟨s,(hlf s).mpr ⟨hs1,hn⟩⟩;simp at this;omega
  obtain ⟨s0,hs0⟩:=some1;refine ⟨_,by rw [et,decide_eq_true c],?_⟩;have pre:∀G:FS,(aG (aP 2 (gY (cC (var 0)) (gN 0) (bZ (bin (eE true) (var 0) (var 1))) (var 0) 1 [1])) (aG (aP 3 (gY (cC (var 2)) (gN 0) (fP (cal (nR true) (aj (gY (cC (bin fK (var 1) (var 0))) (gN 0) iy (bin (eE false) (var 0) (var 1)) 1 [2]) au))) (var 0) 1 [0,1])) G)) [some (.p j),some (.p S.length),a,b,x,y] (S++.dic (gw S.length dn)::T)=G [some (.p j),some (.p S.length),some (.d (.lst (lf.map .str))),some (.d (.lst (rd.map .str))),x,y] (S++.dic (gw S.length dn)::T):=λG=>by
   simp!;rw [e1];simp!;rw [e2];simp!
  by_cases hre:rd=[]
  ·
   left;have lp:Lp sd lf:=⟨λe=>absurd hs0 (by rw [e];simp),λs hs1=>⟨up s,u1 s hs1,Classical.byContradiction λhc=>by
    have:s∈rd:=(hrd s).mpr ⟨hs1,λu hu1=>Classical.byContradiction λhn=>hc ⟨u,hu1,(hlf u).mpr ⟨hu _ (u1 s hs1) u hu1,hn⟩⟩⟩;rw [hre] at this;cases this⟩⟩
   obtain ⟨q,hq,eq⟩:=L_ (S:=S++.dic (gw S.length dn)::T) hd c2 hs hlen lp.1 lp.2;refine ⟨_,_,?_,.inr ⟨q,.dic (gw S.length dn)::T,lf,hq,lp,rfl⟩⟩;unfold YQ;rw [pre,hre];simp!;rw [show N_ (.d (.lst (([]:List Str).map .str))) (S++.dic (gw S.length dn)::T)=.ok false (S++.dic (gw S.length dn)::T) from rfl];simp! [nA];rw [cQ eq];simp! [A.sh,yh]
  ·right;right;obtain ⟨t0,ht0⟩:∃t,t∈rd:=by cases rd with
    |nil=>exact absurd rfl hre
    |cons p q=>exact ⟨p,zAm⟩
   obtain ⟨T',x',y',st',e3⟩:=HF hd hf hu hj st (up:=up) hnr (λs hs1=>((hlf s).mp ((hrd s).mp hs1).1).2) (λs hs1=>u1 s ((hrd s).mp hs1).1) (λs hs1=>((hrd s).mp hs1).2) (some (.d (.lst (lf.map .str)))) (some (.d (.lst (rd.map .str)))) x y;refine ⟨_,_,k',?_,rfl,dn++rd,T',some (.d (.lst (lf.map .str))),some (.d (.lst (rd.map .str))),x',y',st',λs hs1=>?_,rfl,rfl,?_⟩
   ·unfold YQ;rw [pre];simp!;have etr:N_ (.d (.lst (rd.map .str))) (S++.dic (gw S.length dn)::T)=.ok true (S++.dic (gw S.length dn)::T):=by
     cases rd with
     |nil=>cases ht0
     |cons p q=>rfl
    rw [etr];simp!;exact e3
   ·rcases List.mem_append.mp hs1 with q | q
    ·exact gd s q
    ·exact .mk (u1 s ((hrd s).mp q).1) λu hu1=>gd u (((hrd s).mp q).2 u hu1)
   ·have:=List.length_pos_of_mem ht0;rw [zAy];omega
 ·left;exact ⟨_,by rw [et,decide_eq_false c],.inl ⟨dn,T,a,b,x,y,st,gd,by omega,rfl⟩⟩
theorem kI (C Rg:Addr) (hd:(sd.map (·.1)).Nodup) (hf:sd.length<=29) (hu:∀p∈sd,∀o∈p.2,o∈sd.map (·.1)) (hs:∀p∈sd,p.2.length<=100) (hj:S[j]?=some (.dic (gG sd))) :
  (∃dn T,St sd S.length dn T/\(∀s∈sd.map (·.1),s∈dn)/\(∀s∈sd.map (·.1),wg sd s)/\bI C Rg [.p j] S=.ok (.p S.length) (S++.dic (gw S.length dn)::T)) ∨
  ∃(q:List Str) (T:aM) (L:List Str),dD sd q/\Lp sd L/\bI C Rg [.p j] S=.ex ⟨Rg,[("ring", .d (.lst (q.map .str)))]⟩ (S++T):=by
 have eb:gD C Rg [some (.p j),none,none,none,none,none] S=(rQ tsA (YQ Rg) 30 [some (.p j),some (.p S.length),none,none,none,none] (S++[.dic []])).bind (t_ (cj (var 1))):=by
  unfold gD;simp! [dNew]
 have ed:bI C Rg [.p j] S=(gD C Rg [some (.p j),none,none,none,none,none] S).bind λc S'=>match c with
   |.rt x=>Nh S x S'
   |.nx _=>Nh S (.d .non) S'
   |_=>.no:=rfl
 rcases K_ Rg hd hf hu hs hj with ⟨dn,T,a,b,x,y,st,gd,hl,e⟩ | ⟨q,T,L,hq,lp,e⟩
 ·have all:∀s∈sd.map (·.1),s∈dn:=λs hs1=>Classical.byContradiction λhn=>by
   have:=iZ (l:=s::dn) (m:=sd.map (·.1)) (List.nodup_cons.mpr ⟨hn,st.nd⟩) λt ht=>by
    rcases zBv.mp ht with rfl | q
    ·exact hs1
    ·exact st.sub t q
   simp at this;omega
  refine .inl ⟨dn,T,st,all,λs h=>gd s (all s h),?_⟩;rw [ed,eb,e];rfl
 ·refine .inr ⟨q,T,L,hq,lp,?_⟩;rw [ed,eb,e];rfl
end K14
namespace K14
open PySem L2 Y
open Y (bin)
open Wb
open Z (lim jE)
open YS (adds fU fB)
theorem gW (ts:List Tu):(dZ ts).map (·.1)=ts.map (·.1):=by unfold dZ;rw [zAx];rfl
theorem oG {ts:List Tu}{p:Tu}(hp:p∈dZ ts):∃q∈ts,p=(q.1,jE (adds [] q.2)):=by
 obtain ⟨q,hq,e⟩:=List.mem_map.mp hp;exact ⟨q,hq,e.symm⟩
theorem wu {ts:List Tu}{s:Str}(h:wg (dZ ts) s):wg ts s:=by
 induction h with
 |mk h1 _ ih=>
  obtain ⟨q,hq,e⟩:=oG h1;injection e with e1 e2
  subst e1 e2;exact .mk (s:=q.1) (us:=q.2) hq λu hu=>ih u ((yu _ _).mpr hu)
theorem Sh {ts:List Tu}{s:Str}{us:List Str}(h:(s,us)∈dZ ts):∃vs,(s,vs)∈ts/\∀u,u∈us↔u∈vs:=by
 obtain ⟨q,hq,e⟩:=oG h;injection e with e1 e2
 subst e1 e2;exact ⟨q.2,hq,yu q.2⟩
theorem Fg {ts:List Tu}{L:List Str}(h:Lp (dZ ts) L):Lp ts L:=⟨h.1,λs hs=>by
 obtain ⟨us,h1,u,h2,h3⟩:=h.2 s hs;obtain ⟨vs,h4,h5⟩:=Sh h1;exact ⟨vs,h4,u,(h5 u).mp h2,h3⟩⟩
theorem rO {ts:List Tu}{q:List Str}(h:dD (dZ ts) q):dD ts q:=⟨h.ne,h.nd,λi a b h1 h2=>by
 obtain ⟨us,h3,h4⟩:=h.nx i a b h1 h2;obtain ⟨vs,h5,h6⟩:=Sh h3;exact ⟨vs,h5,(h6 b).mp h4⟩⟩
end K14
namespace K17
open PySem L2 Y
open Y (bin)
open Wb
open Z (lim)
theorem yG {c:Nat->Addr}(nd:(ks c).Nodup):∀i j,1<=i->i<=12->1<=j->j<=12->(c i=c j↔i=j):=by
 have e:ks c=(List.range 12).map λk=>c (k+1):=rfl;rw [e] at nd;intro i j hi hi2 hj hj2;constructor
 ·intro h;have h1:((List.range 12).map λk=>c (k+1))[i-1]?=some (c i):=by rw [zAk,zBS (by omega)];show some (c (i-1+1))=_;rw [Nat.sub_add_cancel hi]
  have h2:((List.range 12).map λk=>c (k+1))[j-1]?=some (c i):=by rw [zAk,zBS (by omega),h];show some (c (j-1+1))=_;rw [Nat.sub_add_cancel hj]
  have:=(zBy (List.getElem?_eq_some_iff.mp h1).1 nd).mp (h1.trans h2.symm);omega
 ·intro h;rw [h]
theorem xO {c:Nat->Addr}{i:Nat}(hi:1<=i) (hi2:i<=12) {S:aM}{k:Nat}{fs:List (Str×A)}(h:S[k]?=some (.exc (c i) fs)) (isD:Addr->Bool):jV (ks c) isD (.p k) S=.ok (.d (.bl (isD (c i)))) S:=by
 have e:ks c=(List.range 12).map λk=>c (k+1):=rfl;have hm:c i∈ks c:=by
  rw [e];exact List.mem_map.mpr ⟨i-1,List.mem_range.mpr (by omega),by rw [Nat.sub_add_cancel hi]⟩
 unfold jV;simp only [h,if_pos hm]
theorem S_ {a b d e:D}{S:aM}:yJ [.d a,.d b,.d d,.d e] S=.ok [a,b,d,e] S:=rfl
end K17
namespace K17
open PySem L2 Y
open Y (bin)
open Wb
open Z (lim jE)
open K14 (Lp wg wR gW kI dD)
variable {np nl i:Nat}{b:FS}{as xs:List A}{e:Exc}{ρ ρ1:dH}{g:FG}{S2:aM}{ss:List Str}{s:Str}
section
variable {c:Nat->Addr}{S:aM}
theorem fM {en:En}{S':aM}(h:b (as.map some++List.replicate (nl-np) none) S=.ex e S') (hl:as.length=np:=by rfl):nT en np nl b as S=.ex e S':=by
 unfold nT;rw [if_pos hl,h];rfl
theorem jj (h:b (as.map some++List.replicate (nl-np) none) S=.ok (.nx ρ) S) (hl:as.length=np:=by rfl):nT lO np nl b as S=.ok (.d .non) S:=by
 unfold nT;rw [if_pos hl,h];exact Tt S .non
theorem iJ {x:A}{ρ2:dH}(h1:g x ρ=some ρ1) (h2:b ρ1 S=.ok (.nx ρ2) S2):dW g b none (x::xs) ρ S=dW g b none xs ρ2 S2:=by
 rw [dW];rw [if_pos (show gH none S from trivial),h1];simp only [aR,ao,h2]
theorem wD {x:A}(h1:g x ρ=some ρ1) (h2:b ρ1 S=.ex e S2):dW g b none (x::xs) ρ S=.ex e S2:=by
 rw [dW];rw [if_pos (show gH none S from trivial),h1];simp only [aR,ao,h2,yh]
theorem kj:dW g b none [] ρ S=.ok (.nx ρ) S:=by
 rw [dW];rw [if_pos (show gH none S from trivial)]
abbrev Xq (c:Nat->Addr):FS:=(je (bZ (bin (eE false) (var 2) (tU (var 0) Aq (iB (var 1))))) (jh (c 2) bP (var 2)) bU)
theorem xK:(bZ (bin (eE false) (var 2) (tU (var 0) Aq (iB (var 1))))) [some (.d (.lst (ss.map .str))),some (.d (.int i)),some (.d (.str s))] S=.ok (decide (s∈ss.take i)) S:=by
 simp! [Dv,Dy,Bl,wJ,um,uy,xg,MJ,Jr];rw [<-List.map_take,pR (fZ _ _) (by rintro i j ⟨_,h⟩;cases h),gP];rfl
theorem Zy (h:s∉ss.take i):Xq c [some (.d (.lst (ss.map .str))),some (.d (.int i)),some (.d (.str s))] S=.ok (.nx [some (.d (.lst (ss.map .str))),some (.d (.int i)),some (.d (.str s))]) S:=by
 unfold Xq;simp! only [rD];rw [xK,decide_eq_false h];rfl
end
end K17
namespace K13
open PySem L2 Y
open Y (bin)
open Wb
open Z (lim)
open K17 (iJ wD kj fM jj)
variable {d:D}
def isNm:D->Bool
 |.str s=>decide (1<=s.length)&&decide (s.length<=8)&&!decide (s∈Al)&&s.cps.toList.all λc=>Z.Ie ⟨#[c]⟩ ABC
 |_=>false
def short:D->Prop
 |.str s=>s.length<=1000
 |_=>True
section
variable {S:aM}{C:Addr}{cr:D->Bool}
theorem qL {α:Type}(l:List α) (f:α->Bool):Z.o8 (l.map λa=>D.bl (f a))=some (l.map f):=by
 induction l with
 |nil=>rfl
 |cons a l ih=>simp [Z.o8,ih]
theorem yI {s:Str}(hs:s.length<=1000) (S:aM):jm [.d (.str s)] S=.ok (.d (.bl (isNm (.str s)))) S:=by
 refine gV ?_;have key:gY (cC (var 0)) (gN 0) iy (bin (eE false) (var 0) (cst (.str "abcdefghijklmnopqrstuvwxyz"))) 1 [] [some (.d (.str s))] S=.ok (.d (.lst ((s.cps.toList.map λc=>D.bl (Z.Ie ⟨#[c]⟩ ABC))))) S:=by
  have:=dG (fi:=cC (var 0)) (g:=gN 0) (t:=iy) (f:=bin (eE false) (var 0) (cst (.str "abcdefghijklmnopqrstuvwxyz"))) (n:=1) (js:=[]) (ρ:=[some (.d (.str s))]) (S:=S) (S1:=S) (xs:=qg s) (ck:=none) (λρ=>∃u,ρ=[u]) (λ_=>true) (λx=>match x with | .d (.str z)=>.bl (Z.Ie z ABC) | _=>.non) (by simp [var]) (λ_=>trivial) ⟨none,rfl⟩ (by
   rintro x hx ρ ⟨u,rfl⟩;obtain ⟨c,hc,rfl⟩:=List.mem_map.mp hx;refine ⟨_,rfl,⟨_,rfl⟩,λ_=>rfl,λ_ acc=>?_⟩;simp -implicitDefEqProofs [var]) (by unfold qg;rw [zAn];show s.length<=_;omega)
  rw [this];simp [qg,List.filter_eq_self.mpr]
 by_cases h1:1<=s.length
 ·by_cases h2:s.length<=8
  ·by_cases h3:s∈Al
   ·have e:isNm (.str s)=false:=by simp [isNm,h3]
    rw [e];simp -implicitDefEqProofs [jl,var,lW hs];rw [decide_eq_false (show ¬((s.length:Int) < 1) by omega)];simp -implicitDefEqProofs [var,lW hs];rw [decide_eq_false (show ¬(8 < (s.length:Int)) by omega)];simp -implicitDefEqProofs [var];rw [show [D.str "any", D.str "none", D.str "blank", D.str "new", D.str "on"]=Al.map D.str from rfl,Rj (fZ _ _),gP];simp -implicitDefEqProofs [h3]
   ·have e:isNm (.str s)=s.cps.toList.all λc=>Z.Ie ⟨#[c]⟩ ABC:=by simp [isNm,h1,h2,h3]
    rw [e];simp -implicitDefEqProofs [jl,var,lW hs];rw [decide_eq_false (show ¬((s.length:Int) < 1) by omega)];simp -implicitDefEqProofs [var,lW hs];rw [decide_eq_false (show ¬(8 < (s.length:Int)) by omega)];simp -implicitDefEqProofs [var];rw [show [D.str "any", D.str "none", D.str "blank", D.str "new", D.str "on"]=Al.map D.str from rfl,Rj (fZ _ _),gP];simp -implicitDefEqProofs [h3];rw [key];simp -implicitDefEqProofs;rw [Er true (qL _ _)];simp [zBT,Function.comp_def]
  ·have e:isNm (.str s)=false:=by simp [isNm,h2]
   rw [e];simp -implicitDefEqProofs [jl,var,lW hs];rw [decide_eq_false (show ¬((s.length:Int) < 1) by omega)];simp -implicitDefEqProofs [var,lW hs];rw [decide_eq_true (show (8 < (s.length:Int)) by omega)];simp -implicitDefEqProofs [var]
 ·have e:isNm (.str s)=false:=by simp [isNm,h1]
  rw [e];simp -implicitDefEqProofs [jl,var,lW hs];rw [decide_eq_true (show ((s.length:Int) < 1) by omega)];simp -implicitDefEqProofs [var]
theorem ju (o1:yx "str" (.d d) S=.ok (.d (.bl false)) S) (e:isNm d=false):jm [.d d] S=.ok (.d (.bl (isNm d))) S:=by
 refine gV ?_;rw [e];simp! [jl,zAr,zCe,zBD,zCk,List.replicate];rw [o1];simp! [BZ]
theorem zu (hd:short d) (S:aM):jm [.d d] S=.ok (.d (.bl (isNm d))) S:=by
 cases d with
 |str s=>exact yI hd S
 |non=>exact ju (d:=.non) (by unfold yx Jz;simp [CZ]) rfl
 |bl b=>exact ju (d:=.bl b) (by unfold yx Jz;simp [CZ]) rfl
 |int i=>exact ju (d:=.int i) (by unfold yx Jz;simp [CZ]) rfl
 |tup l=>exact ju (d:=.tup l) (by unfold yx Jz;simp [CZ]) rfl
 |lst l=>exact ju (d:=.lst l) (by unfold yx Jz;simp [CZ]) rfl
abbrev Ke (C:Addr) (cr:D->Bool):FS:=(je (lD (fP (aW jm (aj (var 1) au)))) (o9 C cr (var 1)) bU)
theorem Yp (hd:short d) (hc:cr d=true) (x0:Option A):Ke C cr [x0,some (.d d)] S=if isNm d=true then .ok (.nx [x0,some (.d d)]) S else .ex ⟨C,[]⟩ S:=by
 simp!;rw [cQ (zu hd S)];cases h:isNm d
 ·simp! [o9,hc]
 ·simp!
theorem RJ (x0:Option A):∀(ds:List D) (x1:Option A),(∀d∈ds,short d/\cr d=true) ->
  (ds.all isNm=true/\∃x,dW (gN 1) (Ke C cr) none (ds.map A.d) [x0,x1] S=.ok (.nx [x0,x]) S)∨(ds.all isNm=false/\dW (gN 1) (Ke C cr) none (ds.map A.d) [x0,x1] S=.ex ⟨C,[]⟩ S)
 |[],x1,_=>.inl ⟨rfl,x1,kj⟩
 |d::ds,x1,h=>by
  obtain ⟨h1,h2⟩:=h d zAm;have t:=Yp (C:=C) (S:=S) h1 h2 x0;cases hd:isNm d
  ·rw [hd] at t;simp only [zAz,if_false] at t;exact .inr ⟨by simp [hd],wD (ρ1:=[x0,some (.d d)]) rfl t⟩
  ·rw [hd] at t;simp only [if_true] at t;rcases RJ x0 ds (some (.d d)) (λe he=>h e (zAf _ he)) with ⟨q1,x,q2⟩ | ⟨q1,q2⟩
   ·exact .inl ⟨by simp [hd,q1],x,(iJ (ρ1:=[x0,some (.d d)]) rfl t).trans q2⟩
   ·exact .inr ⟨by simp [hd,q1],(iJ (ρ1:=[x0,some (.d d)]) rfl t).trans q2⟩
end
end K13
namespace K13
open PySem L2 Y
open Y (bin)
open Wb
open Z (lim)
open K17 (iJ wD kj fM jj bN gM bx eX Xq xK)
variable {ss:List Str}
section
variable {S:aM}{C:Addr}{c:Nat->Addr}{g:FG}{b:FS}{e:Exc}
theorem xZ (I:dH->Prop):∀(xs:List A) (p:Nat->Bool),(∀i x ρ,xs[i]?=some x->I ρ->∃ρ1,g x ρ=some ρ1/\((p i=true/\∃ρ2,I ρ2/\b ρ1 S=.ok (.nx ρ2) S)∨(p i=false/\b ρ1 S=.ex e S)))->∀ρ,I ρ ->
  ((∀i,i < xs.length->p i=true)/\∃ρ',I ρ'/\dW g b none xs ρ S=.ok (.nx ρ') S)∨((∃i,i < xs.length/\p i=false)/\dW g b none xs ρ S=.ex e S)
 |[],p,_,ρ,hI=>.inl ⟨λi h=>absurd h (zBV i),ρ,hI,kj⟩
 |x::xs,p,hb,ρ,hI=>by
  obtain ⟨ρ1,h1,⟨h2,ρ2,h3,h4⟩ | ⟨h2,h3⟩⟩:=hb 0 x ρ rfl hI
  ·rcases xZ I xs (λi=>p (i+1)) (λi y ρ hy hI=>hb (i+1) y ρ hy hI) ρ2 h3 with ⟨q1,ρ',q2,q3⟩ | ⟨⟨i,q1,q2⟩,q3⟩
   ·refine .inl ⟨λi hi=>?_,ρ',q2,(iJ h1 h4).trans q3⟩;cases i with
    |zero=>exact h2
    |succ i=>exact q1 i (by simpa using hi)
   ·exact .inr ⟨⟨i+1,by simpa using q1,q2⟩,(iJ h1 h4).trans q3⟩
  ·exact .inr ⟨⟨0,by simp,h2⟩,wD h1 h3⟩
theorem Ac (ss:List Str):ss.Nodup↔∀i s,ss[i]?=some s->s∉ss.take i:=by
 constructor
 ·intro h i s hs hm;obtain ⟨j,hj⟩:=zAS hm;have hji:j < i:=by
   have:=(List.getElem?_eq_some_iff.mp hj).1;rw [zAW] at this;omega
  rw [zBg hji] at hj;have:=(zBy (List.getElem?_eq_some_iff.mp hj).1 h).mp (hj.trans hs.symm);omega
 ·intro h;rw [List.nodup_iff_pairwise_ne,List.pairwise_iff_getElem];intro i j hi hj hij hne;refine h j ss[j] (zAc hj) ?_;rw [<-hne];exact List.mem_take_iff_getElem.mpr ⟨i,by omega,rfl⟩
theorem HJ (hs:∀s∈ss,s.length<=1000):(ss.Nodup/\bN c [.d (.lst (ss.map .str))] S=.ok (.d .non) S)∨(¬ss.Nodup/\bN c [.d (.lst (ss.map .str))] S=.ex ⟨c 2,[]⟩ S):=by
 have eb:gM c [some (.d (.lst (ss.map .str))),none,none] S=dW (gT 2 (aH (gN 1) (aH (gN 2) bY))) (Xq c) none (J7 ((ss.map D.str).map A.d)) [some (.d (.lst (ss.map .str))),none,none] S:=by
  unfold K17.gM;simp! only [yZ,ZL,var,zAg,zAi,ao,Ox,tR]
 rcases xZ (S:=S) (e:=⟨c 2,[]⟩) (g:=(gT 2 (aH (gN 1) (aH (gN 2) bY)))) (b:=Xq c) (λρ=>∃x y,ρ=[some (.d (.lst (ss.map .str))),x,y]) (J7 ((ss.map D.str).map A.d)) (λi=>match ss[i]? with | some s=>decide (s∉ss.take i) | none=>true) (by
   rintro i x ρ hx ⟨u,v,rfl⟩;obtain ⟨y,hy,rfl⟩:=Io hx;rw [zAx,zAk] at hy;obtain ⟨s,h1,rfl⟩:=Option.map_eq_some_iff.mp hy;refine ⟨[some (.d (.lst (ss.map .str))),some (.d (.int i)),some (.d (.str s))],rfl,?_⟩;simp only [h1];by_cases h:s∈ss.take i
   ·refine .inr ⟨by simp [h],?_⟩;unfold Xq;simp! only [rD];rw [xK,decide_eq_true h];simp! only [ao,pI,jh,var,zAg,zAi];rw [if_pos (decide_eq_true (hs s (zAh h1)))]
   ·exact .inl ⟨by simp [h],_,⟨_,_,rfl⟩,K17.Zy h⟩) _ ⟨none,none,rfl⟩ with ⟨h1,ρ',_,h2⟩ | ⟨⟨i,h1,h3⟩,h2⟩
 ·refine .inl ⟨(Ac ss).mpr λi s hs'=>?_,jj (ρ:=ρ') (eb.trans h2)⟩;have:=h1 i (by unfold J7;simpa using (List.getElem?_eq_some_iff.mp hs').1);simpa [hs'] using this
 ·refine .inr ⟨λnd=>?_,fM (eb.trans h2)⟩;cases q:ss[i]? with
  |none=>rw [q] at h3;cases h3
  |some s=>
   rw [q] at h3;have:=(Ac ss).mp nd i s q;simp [this] at h3
abbrev lbK (c:Nat->Addr):FS:=(je (bZ (bin (eE true) (var 2) (var 1))) (jh (c 3) bP (var 2)) bU)
theorem G6 {us:List Str}(hs:∀s∈us,s.length<=1000):((∀u∈us,u∈ss)/\bx c [.d (.lst (us.map .str)),.d (.lst (ss.map .str))] S=.ok (.d .non) S)∨(¬(∀u∈us,u∈ss)/\bx c [.d (.lst (us.map .str)),.d (.lst (ss.map .str))] S=.ex ⟨c 3,[]⟩ S):=by
 have eb:eX c [some (.d (.lst (us.map .str))),some (.d (.lst (ss.map .str))),none] S=dW (gN 2) (lbK c) none ((us.map D.str).map A.d) [some (.d (.lst (us.map .str))),some (.d (.lst (ss.map .str))),none] S:=by
  unfold K17.eX;simp! only [yZ,uY,var,zAg,zAi,ao,uR,tR]
 have tt:∀u:Str,bZ (bin (eE true) (var 2) (var 1)) [some (.d (.lst (us.map .str))),some (.d (.lst (ss.map .str))),some (.d (.str u))] S=.ok (!decide (u∈ss)) S:=λu=>by
  simp! only [qW,fQ,var,zAg,zAi,ao,dg];rw [pR (fZ _ _) (by rintro i j ⟨_,h⟩;cases h),gP];rfl
 rcases xZ (S:=S) (e:=⟨c 3,[]⟩) (g:=gN 2) (b:=lbK c) (λρ=>∃x,ρ=[some (.d (.lst (us.map .str))),some (.d (.lst (ss.map .str))),x]) ((us.map D.str).map A.d) (λi=>match us[i]? with | some s=>decide (s∈ss) | none=>true) (by
   rintro i x ρ hx ⟨u,rfl⟩;rw [zAx,zAk] at hx;obtain ⟨s,h1,rfl⟩:=Option.map_eq_some_iff.mp hx;refine ⟨[some (.d (.lst (us.map .str))),some (.d (.lst (ss.map .str))),some (.d (.str s))],rfl,?_⟩;simp only [h1];unfold lbK;simp! only [rD];rw [tt];by_cases h:s∈ss
   ·refine .inl ⟨by simp [h],[some (.d (.lst (us.map .str))),some (.d (.lst (ss.map .str))),some (.d (.str s))],⟨_,rfl⟩,?_⟩;rw [decide_eq_true h];rfl
   ·refine .inr ⟨by simp [h],?_⟩;rw [decide_eq_false h];simp! only [ao,Bool.not_false,pI,jh,var,zAg,zAi];rw [if_pos (decide_eq_true (hs s (zAh h1)))]) _ ⟨none,rfl⟩ with ⟨h1,ρ',_,h2⟩ | ⟨⟨i,h1,h3⟩,h2⟩
 ·refine .inl ⟨λu hu=>?_,jj (ρ:=ρ') (eb.trans h2)⟩;obtain ⟨i,hi⟩:=zAS hu;have:=h1 i (by simpa using (List.getElem?_eq_some_iff.mp hi).1);simpa [hi] using this
 ·refine .inr ⟨λnd=>?_,fM (eb.trans h2)⟩;cases q:us[i]? with
  |none=>rw [q] at h3;cases h3
  |some s=>
   rw [q] at h3;simp [nd s (zAh q)] at h3
end
end K13
namespace K17
open PySem L2 Y
open Y (bin)
open Wb
open Z (lim jE)
open K14 (Lp wg wR gW kI dD)
section
variable {c:Nat->Addr}{S:aM}
abbrev w1 (c:Nat->Addr):FS:=(aG (zO (c 0) "straight" (Zq (cC (var 2)) (gT 2 (aH (gN 0) (aH (gN 1) bY))) iy (var 0) (dL (mU (var 1))) 2 []) (var 0)) (zO (c 0) "above" (jM (bI c) (aj (un (G7 (c 0) "straight") (var 0)) au)) (var 0)))
abbrev w2 (c:Nat->Addr):FS:=(aG (bW (jM (bx c) (aj (var 4) (aj (var 3) au)))) (w1 c))
abbrev w3 (c:Nat->Addr):FS:=(aG (bW (jM (bN c) (aj (var 3) au))) (w2 c))
abbrev Bw (k:Nat) (ts:List Tu):dH:=[some (.p k),some (.d (.lst (ts.map tD))),some (.d (.lst (ts.map tD))),some (.d (.lst ((ts.map (·.1)).map .str))),some (.d (.lst ((ts.flatMap (·.2)).map .str)))]
theorem Kc {ts:List Tu}(k:Nat):w3 c (Bw k ts) S=((bN c [.d (.lst ((ts.map (·.1)).map .str))] S).bind (kExpr (Bw k ts))).bind (t_ (w2 c)):=by
 unfold w3;simp! [jM]
theorem Mq {ts:List Tu}(k:Nat):w2 c (Bw k ts) S=((bx c [.d (.lst ((ts.flatMap (·.2)).map .str)),.d (.lst ((ts.map (·.1)).map .str))] S).bind (kExpr (Bw k ts))).bind (t_ (w1 c)):=by
 unfold w2;simp! [jM]
end
end K17
namespace K13
open PySem L2 Y
open Y (bin)
open Wb
open Z (lim)
abbrev jx:Type:=D×List D
def bL (p:jx):D:=.tup [p.1,.lst p.2]
section
variable {S:aM}{ρ:dH}{fi:FI}{ts:List jx}
theorem z_ (hi:fi ρ S=.ok ((ts.map bL).map A.d,none) S) (hl:ts.length<=1000) :
  gY fi g2 iy (iU (aj (var 0) (aj (dL (oO iW (aj (var 1) au))) au))) 2 [] ρ S=.ok (.d (.lst (ts.map bL))) S:=by
 have key:=dG (t:=iy) (f:=(iU (aj (var 0) (aj (dL (oO iW (aj (var 1) au))) au)))) (g:=g2) (n:=2) (js:=[]) (λρ=>∃u v,ρ=[u,v]) (λ_=>true) (λx=>match x with | .d y=>y | _=>.non) hi (λ_=>trivial) ⟨none,none,rfl⟩ (by
  rintro x hx ρ' ⟨u,v,rfl⟩;obtain ⟨d,hd,rfl⟩:=List.mem_map.mp hx;obtain ⟨p,hp,rfl⟩:=List.mem_map.mp hd;exact ⟨[some (.d p.1),some (.d (.lst p.2))],rfl,⟨_,_,rfl⟩,λ_=>rfl,λ_ acc=>rfl⟩) (by simp;omega)
 rw [key,List.filter_eq_self.mpr (λ_ _=>rfl),zAx];show R.ok _ _=_;congr 3;simp [Function.comp_def]
theorem yc (hi:fi ρ S=.ok ((ts.map bL).map A.d,none) S) (hl:ts.length<=1000) :
  gY fi g2 iy (var 0) 2 [] ρ S=.ok (.d (.lst (ts.map (·.1)))) S:=by
 have key:=dG (t:=iy) (f:=var 0) (g:=g2) (n:=2) (js:=[]) (λρ=>∃u v,ρ=[u,v]) (λ_=>true) (λx=>match x with | .d (.tup (y::_))=>y | _=>.non) hi (λ_=>trivial) ⟨none,none,rfl⟩ (by
  rintro x hx ρ' ⟨u,v,rfl⟩;obtain ⟨d,hd,rfl⟩:=List.mem_map.mp hx;obtain ⟨p,hp,rfl⟩:=List.mem_map.mp hd;exact ⟨[some (.d p.1),some (.d (.lst p.2))],rfl,⟨_,_,rfl⟩,λ_=>rfl,λ_ acc=>rfl⟩) (by simp;omega)
 rw [key,List.filter_eq_self.mpr (λ_ _=>rfl),zAx];show R.ok _ _=_;congr 3;rw [zAx];rfl
theorem zQ:∀(ts:List jx) (ρ:dH) (acc:List D),(∃u v w,ρ=[u,v,w])->(∀p∈ts,p.2.length<=100)->acc.length+100 * ts.length<=100000 ->
  ∃ρ',qC g2 iy (cC (var 1)) (gN 2) iy (var 2) none S.length ((ts.map bL).map A.d) ρ (S++[.lst acc])=.ok ρ' (S++[.lst (acc++ts.flatMap (·.2))])
 |[],ρ,acc,_,_,_=>⟨ρ,by show qC _ _ _ _ _ _ _ _ [] _ _=_;unfold qC;rw [if_pos (show gH none (S++[.lst acc]) from trivial)];simp⟩
 |p::ts,ρ,acc,hρ,hs,hl=>by
  obtain ⟨u,v,w,rfl⟩:=hρ;have hp:=hs p zAm;rw [zAv] at hl;have inner:∀(l:List D) (ρ:dH) (acc:List D),(∃u v w,ρ=[u,v,w])->acc.length+l.length<=100000->∃ρ',(∃u v w,ρ'=[u,v,w])/\sG (gN 2) iy (var 2) none S.length (l.map A.d) ρ (S++[.lst acc])=.ok ρ' (S++[.lst (acc++l)]):=by
   intro l;induction l with
   |nil=>intro ρ acc h _;exact ⟨ρ,h,by show sG _ _ _ _ _ [] _ _=_;unfold sG;rw [if_pos (show gH none (S++[.lst acc]) from trivial)];simp⟩
   |cons a l ih=>
    rintro ρ acc ⟨u,v,w,rfl⟩ hl;rw [zAv] at hl;obtain ⟨ρ',h1,h2⟩:=ih [u,v,some (.d a)] (acc++[a]) ⟨_,_,_,rfl⟩ (by simp;omega);refine ⟨ρ',h1,?_⟩;show sG _ _ _ _ _ (A.d a::l.map A.d) _ _=_;unfold sG;rw [if_pos (show gH none (S++[.lst acc]) from trivial)];simp! [gN,iy];rw [Fy S acc a (jd (by omega))];simp!;rw [h2,zAC];rfl
  obtain ⟨ρ2,hρ2,e2⟩:=inner p.2 [some (.d p.1),some (.d (.lst p.2)),w] acc ⟨_,_,_,rfl⟩ (by omega);obtain ⟨ρ',e3⟩:=zQ ts ρ2 (acc++p.2) hρ2 (λq hq=>hs q (zAf _ hq)) (by simp;omega);refine ⟨ρ',?_⟩;show qC _ _ _ _ _ _ _ _ (A.d (bL p)::(ts.map bL).map A.d) _ _=_;unfold qC;rw [if_pos (show gH none (S++[.lst acc]) from trivial)];have eg:g2 (A.d (bL p)) [u,v,w]=some [some (.d p.1),some (.d (.lst p.2)),w]:=rfl;rw [eg];simp! [iy];rw [if_pos (show Vc none=true from rfl),e2];simp!;rw [e3];simp
theorem N6 (hi:fi ρ S=.ok ((ts.map bL).map A.d,none) S) (hs:∀p∈ts,p.2.length<=100) (hl:ts.length<=100):HW fi g2 iy (cC (var 1)) (gN 2) iy (var 2) 3 [] ρ S=.ok (.d (.lst (ts.flatMap (·.2)))) S:=by
 obtain ⟨ρ',e⟩:=zQ (S:=S) ts (rA ρ 3 []) [] ⟨none,none,none,rfl⟩ hs (by simp;omega);unfold HW;rw [hi];simp only [ao,sX];rw [e];simp only [fY,zCk,Dl]
end
end K13
namespace K13
open PySem L2 Y
open Y (bin)
open Wb
open Z (lim)
open K17 (fM jj w3)
section
variable {S:aM}{c:Nat->Addr}{ts:List jx}
abbrev noNames (c:Nat->Addr):FF:=nT lO 1 2 (jf (cC (var 0)) (gN 1) (Ke (c 1) bV))
theorem GD {ds:List D}(h:∀d∈ds,short d/\bV d=true):(ds.all isNm=true/\noNames c [.d (.lst ds)] S=.ok (.d .non) S)∨(ds.all isNm=false/\noNames c [.d (.lst ds)] S=.ex ⟨c 1,[]⟩ S):=by
 have eb:jf (cC (var 0)) (gN 1) (Ke (c 1) bV) [some (.d (.lst ds)),none] S=dW (gN 1) (Ke (c 1) bV) none (ds.map A.d) [some (.d (.lst ds)),none] S:=by
  simp!
 rcases RJ (C:=c 1) (cr:=bV) (S:=S) (some (.d (.lst ds))) ds none h with ⟨h1,x,h2⟩ | ⟨h1,h2⟩
 ·exact .inl ⟨h1,jj (ρ:=[some (.d (.lst ds)),x]) (eb.trans h2)⟩
 ·exact .inr ⟨h1,fM (eb.trans h2)⟩
abbrev ini (N:FF) (c:Nat->Addr):FS:=(aG (aP 2 (gY (cC (var 1)) (gT 2 (aH (gN 0) (aH (gN 1) bY))) iy (iU (aj (var 0) (aj (dL (oO iW (aj (var 1) au))) au))) 2 [])) (aG (aP 3 (gY (cC (var 2)) (gT 2 (aH (gN 0) (aH (gN 1) bY))) iy (var 0) 2 [])) (aG (aP 4 (HW (cC (var 2)) (gT 2 (aH (gN 0) (aH (gN 1) bY))) iy (cC (var 1)) (gN 2) iy (var 2) 3 [])) (aG (bW (jM N (aj (dL (Aa wN (var 3) (var 4))) au))) (w3 c)))))
abbrev Va (k:Nat) (ts:List jx):dH:=[some (.p k),some (.d (.lst (ts.map bL))),some (.d (.lst (ts.map bL))),some (.d (.lst (ts.map (·.1)))),some (.d (.lst (ts.flatMap (·.2))))]
theorem Oi (N:FF) (few:ts.length<=100) (sh:∀p∈ts,p.2.length<=100) (ul:(ts.flatMap (·.2)).length<=10000) (k:Nat) :
  ini N c [some (.p k),some (.d (.lst (ts.map bL))),none,none,none] S=((N [.d (.lst (ts.map (·.1)++ts.flatMap (·.2)))] S).bind (kExpr (Va k ts))).bind (t_ (w3 c)):=by
 have r1:=z_ (fi:=cC (var 1)) (ρ:=[some (.p k),some (.d (.lst (ts.map bL))),none,none,none]) (S:=S) (ts:=ts) (by simp only [uY,var,zAg,zAi,ao,uR]) (by omega);have r2:=yc (fi:=cC (var 2)) (ρ:=[some (.p k),some (.d (.lst (ts.map bL))),some (.d (.lst (ts.map bL))),none,none]) (S:=S) (ts:=ts) (by simp only [uY,var,zAg,zAi,ao,uR]) (by omega);have r3:=N6 (fi:=cC (var 2)) (ρ:=[some (.p k),some (.d (.lst (ts.map bL))),some (.d (.lst (ts.map bL))),some (.d (.lst (ts.map (·.1)))),none]) (S:=S) (ts:=ts) (by simp only [uY,var,zAg,zAi,ao,uR]) sh few;unfold ini;simp!;rw [r1];simp!;rw [r2];simp!;rw [r3];simp! [jM,wz,xX];rw [wB (by simp only [zAn];omega)];simp!
end
end K13
namespace K13
open PySem L2 Y
open Y (bin)
open Wb
open Z (lim)
open K17 (fM jj w3 w2 w1 Bw Kc Mq bN bx)
section
variable {S:aM}{c:Nat->Addr}{ts:List jx}
theorem zH {d:D}(h:isNm d=true):∃s:Str,d=.str s/\s.length<=8:=by
 cases d with
 |str s=>
  refine ⟨s,rfl,?_⟩;simp only [isNm,zAE,decide_eq_true_eq] at h;exact h.1.1.2
 |_=>cases h
theorem pF:∀{ds:List D},ds.all isNm=true->∃ss:List Str,ds=ss.map .str/\∀s∈ss,s.length<=8
 |[],_=>⟨[],rfl,by simp⟩
 |d::ds,h=>by
  rw [zBY,zAE] at h;obtain ⟨s,rfl,h1⟩:=zH h.1;obtain ⟨ss,rfl,h2⟩:=pF h.2;exact ⟨s::ss,rfl,by simpa using ⟨h1,h2⟩⟩
def mJ (p:Tu):jx:=(.str p.1,p.2.map .str)
theorem Rq:∀{ts:List jx},(ts.map (·.1)++ts.flatMap (·.2)).all isNm=true->∃us:List Tu,ts=us.map mJ/\(∀p∈us,p.1.length<=8)/\∀p∈us,∀o∈p.2,o.length<=8
 |[],_=>⟨[],rfl,by simp,by simp⟩
 |p::ts,h=>by
  rw [List.all_append,zAE,zAr,zBY,zAE,zCb,List.all_append,zAE] at h;obtain ⟨⟨h1,h2⟩,h3,h4⟩:=h;obtain ⟨us,rfl,u1,u2⟩:=Rq (ts:=ts) (by rw [List.all_append,h2,h4];rfl);obtain ⟨s,e1,l1⟩:=zH h1;obtain ⟨ss,e2,l2⟩:=pF h3;refine ⟨(s,ss)::us,?_,λq hq=>?_,?_⟩
  ·rw [zAr];congr 1;show p=(D.str s,ss.map D.str);rw [<-e1,<-e2]
  ·rcases zBv.mp hq with rfl | hq
   ·exact l1
   ·exact u1 q hq
  ·intro q hq;rcases zBv.mp hq with rfl | hq
   ·exact l2
   ·exact u2 q hq
theorem nu (us:List Tu):(us.map mJ).map bL=us.map tD:=by rw [zAx];rfl
theorem Aw (us:List Tu):(us.map mJ).map (·.1)=(us.map (·.1)).map .str:=by rw [zAx,zAx];rfl
theorem Kh:∀us:List Tu,(us.map mJ).flatMap (·.2)=(us.flatMap (·.2)).map .str
 |[]=>rfl
 |p::us=>by rw [zAr,zCb,zCb,zBo,Kh us];rfl
theorem WY (k:Nat) (us:List Tu):Va k (us.map mJ)=Bw k us:=by
 unfold Va Bw;rw [nu,Aw,Kh]
end
end K13
namespace K13
open PySem L2 Y
open Y (bin)
open Wb
open Z (lim)
open K17 (fM jj w3 w2 w1 Bw Kc Mq)
open K14 (Lp wg kI dD gW)
section
variable {S:aM}{c:Nat->Addr}{ts:List jx}
abbrev web (c:Nat->Addr):FF:=nT Nh 2 5 (ini (noNames c) c)
theorem YJ {us:List Tu}(nd:(us.map (·.1)).Nodup) (sh:∀p∈us,p.2.length < 64) (few:us.length<=100):w1 c (Bw S.length us) (S++[.ins (c 0) []])=(K17.bI c [.p (S.length+1)] (S++[.ins (c 0) [("straight", .p (S.length+1))],.dic (gG (dZ us))])).bind (vC (c 0) "above" (var 0) (Bw S.length us)):=by
 have r4:=zE (fi:=cC (var 2)) (ρ:=Bw S.length us) (S:=S++[.ins (c 0) []]) (ts:=us) (by simp only [uY,var,zAg,zAi,ao,uR]) nd sh few;have l1:(S++[dY.ins (c 0) []]).length=S.length+1:=by simp
 have s1:(S++[dY.ins (c 0) []]++[dY.dic (gG (dZ us))]).set S.length (.ins (c 0) (Ci "straight" (.p (S.length+1)) []))=S++[.ins (c 0) [("straight", .p (S.length+1))],.dic (gG (dZ us))]:=by
  rw [zAC];exact dF _ _ _
 have c1:(S++[dY.ins (c 0) [("straight", .p (S.length+1))],.dic (gG (dZ us))])[S.length]?=some (.ins (c 0) [("straight", .p (S.length+1))]):=aX _ _;unfold w1;simp! [Jq];rw [r4];simp!;rw [Rk (C:=c 0) (fs:=[]) (k:=S.length) rfl (by rw [zAC];exact aX _ _) (by simp),l1,s1];simp! [Jq,jM];rw [Y_ (C:=c 0) (n := "straight") c1 rfl];simp!
theorem T6 (few:ts.length<=100) (sh:∀p∈ts,p.2.length < 64) (ul:(ts.flatMap (·.2)).length<=10000) (hd:∀d∈ts.map (·.1)++ts.flatMap (·.2),short d/\bV d=true) :
  ((ts.map (·.1)++ts.flatMap (·.2)).all isNm=false/\web c [.p S.length,.d (.lst (ts.map bL))] (S++[.ins (c 0) []])=.ex ⟨c 1,[]⟩ (S++[.ins (c 0) []])) ∨
  ((ts.map (·.1)++ts.flatMap (·.2)).all isNm=true/\∃us:List Tu,ts=us.map mJ /\
   ((¬(us.map (·.1)).Nodup/\web c [.p S.length,.d (.lst (ts.map bL))] (S++[.ins (c 0) []])=.ex ⟨c 2,[]⟩ (S++[.ins (c 0) []])) ∨
   ((us.map (·.1)).Nodup/\¬(∀u∈us.flatMap (·.2),u∈us.map (·.1))/\web c [.p S.length,.d (.lst (ts.map bL))] (S++[.ins (c 0) []])=.ex ⟨c 3,[]⟩ (S++[.ins (c 0) []])) ∨
   ((us.map (·.1)).Nodup/\(∀u∈us.flatMap (·.2),u∈us.map (·.1))/\ini (noNames c) c [some (.p S.length),some (.d (.lst (ts.map bL))),none,none,none] (S++[.ins (c 0) []])=(K17.bI c [.p (S.length+1)] (S++[.ins (c 0) [("straight", .p (S.length+1))],.dic (gG (dZ us))])).bind (vC (c 0) "above" (var 0) (Bw S.length us))))):=by
 have pre:=Oi (c:=c) (S:=S++[.ins (c 0) []]) (noNames c) few (λp hp=>by have:=sh p hp;omega) ul S.length;rcases GD (c:=c) (S:=S++[.ins (c 0) []]) hd with ⟨h1,e1⟩ | ⟨h1,e1⟩
 ·refine .inr ⟨h1,?_⟩;obtain ⟨us,rfl,u1,u2⟩:=Rq h1;refine ⟨us,rfl,?_⟩;rw [e1] at pre;simp only [ao,tE,fJ] at pre;rw [WY,Kc] at pre;rcases HJ (c:=c) (S:=S++[.ins (c 0) []]) (ss:=us.map (·.1)) (λs hs=>by
   obtain ⟨p,hp,rfl⟩:=List.mem_map.mp hs;have:=u1 p hp;omega) with ⟨n1,e2⟩ | ⟨n1,e2⟩
  ·rw [e2] at pre;simp only [ao,tE,fJ] at pre;rw [Mq] at pre;rcases G6 (c:=c) (S:=S++[.ins (c 0) []]) (us:=us.flatMap (·.2)) (ss:=us.map (·.1)) (λs hs=>by
    obtain ⟨p,hp,hs⟩:=List.mem_flatMap.mp hs;have:=u2 p hp s hs;omega) with ⟨m1,e3⟩ | ⟨m1,e3⟩
   ·rw [e3] at pre;simp only [ao,tE,fJ] at pre;rw [YJ n1 (λp hp=>by
     have:=sh (mJ p) (zAG hp);simpa [mJ] using this) (by simpa using few)] at pre
    exact .inr (.inr ⟨n1,m1,pre⟩)
   ·rw [e3] at pre;exact .inr (.inl ⟨n1,m1,fM (pre.trans rfl)⟩)
  ·rw [e2] at pre;exact .inl ⟨n1,fM (pre.trans rfl)⟩
 ·rw [e1] at pre;exact .inl ⟨h1,fM (pre.trans rfl)⟩
end
end K13
namespace K13
open PySem L2 Y
open Y (bin)
open Wb
open Z (lim)
variable {d nm:D}{ts:List jx}{S T U:aM}{xs ys:List A}{c:dY}{f:FE}{ρ:dH}{i a:Nat}{p:jx}{ds:List D}
inductive Gd:Nat->D->Prop
 |str {n:Nat}{s:Str}(h1:s.length<=10) (h2:∀c∈s.cps.toList,c < 16 ^ 8):Gd n (.str s)
 |five {n:Nat}:Gd n (.int 5)
 |non {n:Nat}:Gd n .non
 |Ag {n:Nat}:Gd n (.bl true)
 |tup {n:Nat}{d:D}(h:Gd n d):Gd (n+1) (.tup [d])
theorem Gd.up {n:Nat}(h:Gd n d):Gd (n+1) d:=by
 induction h with
 |str h1 h2=>exact .str h1 h2
 |five=>exact .five
 |non=>exact .non
 |Ag=>exact .Ag
 |tup _ ih=>exact .tup ih
theorem Gd.short {n:Nat}{d:D}(h:Gd n d):short d:=by
 cases h with
 |str h1 h2=>show _<=1000;omega
 |_=>trivial
theorem Gd.dep {n:Nat}(h:Gd n d):fX d<=n:=by
 induction h with
 |tup _ ih=>simp only [fX,gC];omega
 |_=>simp [fX]
theorem Gd.eq {n:Nat}(h:Gd n d):cA d d=some true:=by
 induction h with
 |tup _ ih=>simp [cA,i_,ih]
 |_=>simp [cA]
theorem Q7 (t:Str):(tupleText [t]).length=t.length+3:=by
 unfold tupleText;rw [strLen_append,strLen_append];have:Str.join ", " [t]=t:=by simp [Str.join]
 rw [this];show 1+t.length+2=_;omega
theorem Ze {t:Str}(h:t.length<=1000):RX t=some t:=if_pos h
theorem Gd.rp {n:Nat}(h:Gd n d):∀k,n<=k->∃t,Xj k d=some t/\t.length<=102+3 * n:=by
 induction h with
 |@str n s h1 h2=>
  intro k _;have:=PySem.StrLaws.reprText_len s h2;refine ⟨reprText s,?_,by omega⟩;cases k<;>exact Ze (by omega)
 |five=>exact λk _=>⟨Str.ofString (toString (5:Int)),by cases k<;>rfl,by show 1<=_;omega⟩
 |non=>exact λk _=>⟨Str.ofString "None", by cases k<;>rfl,by show 4<=_;omega⟩
 |Ag=>exact λk _=>⟨Str.ofString "True", by cases k<;>rfl,by show 4<=_;omega⟩
 |tup _ ih=>
  intro k hk;cases k with
  |zero=>omega
  |succ k=>
   obtain ⟨t,e,hl⟩:=ih k (by omega);refine ⟨tupleText [t],?_,by rw [Q7];omega⟩;unfold Xj;simp only [e];rfl
theorem Gd.bv {n:Nat}(h:Gd n d) (hn:n<=10):bV d=true:=by
 obtain ⟨t,e,hl⟩:=h.rp 20 (by omega);unfold bV;rw [e];exact decide_eq_true (by omega)
structure q_ (k:Nat) (ts:List jx):Prop where
 len:ts.length<=25+k
 sh:∀p∈ts,p.2.length<=26+k
 nm:∀p∈ts,Gd k p.1
 up:∀p∈ts,∀o∈p.2,Gd k o
theorem q_.succ {k:Nat}(h:q_ k ts):q_ (k+1) ts:=⟨by have:=h.len;omega,λp hp=>by have:=h.sh p hp;omega,λp hp=>(h.nm p hp).up,λp hp o ho=>(h.up p hp o ho).up⟩
inductive Wy (T:aM) (n:Nat):A->jx->Prop
 |t {nm:D}{j:Nat}{ds:List D}(h:n<=j) (e:T[j]?=some (.lst ds)):Wy T n (.t [.d nm,.p j]) (nm,ds)
 |d {p:jx}:Wy T n (.d (bL p)) p
inductive oV (T:aM) (n:Nat):List A->List jx->Prop
 |nil:oV T n [] []
 |cons {x:A}{xs:List A}{p:jx}{ps:List jx}(h:Wy T n x p) (t:oV T n xs ps):oV T n (x::xs) (p::ps)
section
variable {n:Nat}{ps qs:List jx}
theorem oV.app (h:oV T n xs ps) (k:oV T n ys qs):oV T n (xs++ys) (ps++qs):=by
 induction h with
 |nil=>exact k
 |cons h _ ih=>exact .cons h ih
theorem oV.take (i:Nat) (h:oV T n xs ps):oV T n (xs.take i) (ps.take i):=by
 induction h generalizing i with
 |nil=>simp;exact .nil
 |cons h _ ih=>
  cases i with
  |zero=>exact .nil
  |succ i=>exact .cons h (ih i)
theorem oV.drop (i:Nat) (h:oV T n xs ps):oV T n (xs.drop i) (ps.drop i):=by
 induction h generalizing i with
 |nil=>simp;exact .nil
 |cons h t ih=>
  cases i with
  |zero=>exact .cons h t
  |succ i=>exact ih i
theorem oV.mono {T':aM}{n':Nat}(h:oV T n xs ps) (hn:n'<=n) (k:∀j c,n<=j->T[j]?=some c->T'[j]?=some c):oV T' n' xs ps:=by
 induction h with
 |nil=>exact .nil
 |cons h _ ih=>
  refine .cons ?_ ih;cases h with
  |t h e=>exact .t (by omega) (k _ _ h e)
  |d=>exact .d
theorem oV.CV:∀{xs:List A}{ps:List jx},oV T n xs ps->∀f,xs.length+10<=f->A.CV n T f xs=some (ps.map bL)
 |_,_,.nil,f,_=>by cases f<;>(unfold A.CV;rfl)
 |_,_,.cons h t,f,hf=>by
  rw [zAv] at hf;obtain ⟨f,rfl⟩:∃g,f=g+1:=⟨f-1,by omega⟩;have ih:=t.CV f (by omega);unfold A.CV;rw [ih];cases h with
  |d=>simp [A.rd]
  |t h e=>
   rename_i nm j ds;obtain ⟨f,rfl⟩:∃g,f=g+4:=⟨f-4,by omega⟩;have e1:A.rd n T (f+4) (.t [.d nm,.p j])=some (bL (nm,ds)):=by
    simp [A.rd,A.CV,e,Nat.not_lt.mpr h,bL]
   rw [e1];rfl
theorem oV.dat:∀{ds:List D}{ps:List jx},oV T n (ds.map A.d) ps->ds=ps.map bL
 |[],_,h=>by cases h;rfl
 |d::ds,_,h=>by
  cases h with
  |cons h t=>
   cases h
   rw [t.dat];rfl
theorem XC {k f:Nat}(hk:n<=k) (e:T[k]?=some c) (hc:c.its=some xs) (r:oV T n xs ps) (hf:xs.length+11<=f):A.rd n T f (.p k)=some (.lst (ps.map bL)):=by
 obtain ⟨f,rfl⟩:∃g,f=g+1:=⟨f-1,by omega⟩;unfold A.rd;rw [if_neg (by omega),e];cases c with
 |lst ds=>cases hc;simp only [r.dat]
 |gen ys=>cases hc;simp only [r.CV f (by omega)];rfl
 |_=>cases hc
theorem ZW {k:Nat}(e:T[k]?=some c) (hc:c.its=some xs) (r:oV T 0 xs ps) (hl:xs.length<=150):A.get T (.p k)=some (.lst (ps.map bL)):=XC (zBf _) e hc r (by unfold fuel;omega)
theorem Jg {k:Nat}(hk:S.length<=k) (e:(S++U)[k]?=some c) (hc:c.its=some xs) (r:oV (S++U) S.length xs ps) (hl:xs.length<=150):lO S (.p k) (S++U)=.ok (.d (.lst (ps.map bL))) S:=by
 unfold lO;rw [if_pos Oh.pre];have e:fin S.length (S++U) (.p k)=some (.d (.lst (ps.map bL))):=by
  unfold fin;rw [if_neg (by unfold A.lt;simp;omega),XC hk e hc r (by unfold fuel;omega)];rfl
 rw [e];simp
theorem Km {np nl:Nat}{b:FS}{as:List A}{k:Nat}(h:b (as.map some++List.replicate (nl-np) none) S=.ok (.rt (.p k)) (S++U)) (hk:S.length<=k) (e:(S++U)[k]?=some c) (hc:c.its=some xs) (r:oV (S++U) S.length xs ps) (hl:xs.length<=150) (hp:as.length=np:=by rfl):g_ lO np nl b as S=.ok (.d (.lst (ps.map bL))) S:=by
 unfold g_;rw [if_pos hp,h];exact Jg hk e hc r hl
end
def qH (c:Nat) (ts:List jx):List A:=ts.mapIdx λi p=>.t [.d p.1,.p (c+1+i)]
def hcD (c:Nat) (ts:List jx):dY:=if ts=[] then .lst [] else .gen (qH c ts)
def Ao (ts:List jx):aM:=ts.map λp=>.lst p.2
abbrev bF (S:aM) (ts:List jx):aM:=S++hcD S.length ts::Ao ts
theorem Bb (c:Nat) (ts:List jx):(hcD c ts).its=some (qH c ts):=by
 unfold hcD;split
 ·rename_i h;subst h;rfl
 ·rfl
theorem wO (c:Nat) (ts:List jx) (p:jx):qH c (ts++[p])=qH c ts++[.t [.d p.1,.p (c+1+ts.length)]]:=by
 unfold qH;rw [List.mapIdx_append];simp
theorem jX (c:Nat) (ts:List jx):(qH c ts).length=ts.length:=by unfold qH;simp
theorem X_ (xs:List A) (l:List A):fW (xs++[.t l])=none:=by
 induction xs with
 |nil=>rfl
 |cons a xs ih=>
  cases a with
  |d y=>simp only [zBD,fW,ih]
  |p k=>rfl
  |t l=>rfl
  |k v=>rfl
theorem zK {S:aM}:∀(ts dn:List jx) (ρ:dH),(∃u v,ρ=[u,v])->(dn++ts).length<=1000 ->
  ∃ρ',sG g2 iy (iU (aj (var 0) (aj (cL (oO iW (aj (var 1) au))) au))) none S.length ((ts.map bL).map A.d) ρ (bF S dn)=.ok ρ' (bF S (dn++ts))
 |[],dn,ρ,_,_=>⟨ρ,by show sG _ _ _ _ _ [] _ _=_;unfold sG;rw [if_pos (show gH none (bF S dn) from trivial)];simp⟩
 |p::ts,dn,ρ,hρ,hl=>by
  obtain ⟨u,v,rfl⟩:=hρ;have e0:dn++p::ts=(dn++[p])++ts:=by simp
  rw [e0] at hl ⊢;obtain ⟨ρ',e⟩:=zK ts (dn++[p]) [some (.d p.1),some (.d (.lst p.2))] ⟨_,_,rfl⟩ hl;refine ⟨ρ',?_⟩;show sG _ _ _ _ _ (A.d (bL p)::(ts.map bL).map A.d) _ _=_;unfold sG;rw [if_pos (show gH none (bF S dn) from trivial)];have eg:g2 (A.d (bL p)) [u,v]=some [some (.d p.1),some (.d (.lst p.2))]:=rfl;have eo:iW [.d (.lst p.2)] (bF S dn)=some p.2:=rfl;have ol:(Ao dn).length=dn.length:=by unfold Ao;simp
  have sl:(bF S dn).length=S.length+1+dn.length:=by rw [zAy,zAv,ol];omega
  rw [eg];simp! [iy,Ji,SQ,K7,eo,K9];rw [sl,show mkT [A.d p.1,A.p (S.length+1+dn.length)]=.t [.d p.1,.p (S.length+1+dn.length)] from rfl];have ep:push S.length (.t [.d p.1,.p (S.length+1+dn.length)]) (bF S dn++[.lst p.2])=.ok () (bF S (dn++[p])):=by
   unfold push;rw [zAC,zBD,aX];simp only [Bb];rw [if_pos (jd (by rw [jX];rw [zAy] at hl;rw [zAy] at hl;omega)),<-wO,dF];have em:P_ (hcD S.length dn) (qH S.length (dn++[p]))=hcD S.length (dn++[p]):=by
    unfold P_;rw [wO,X_,<-wO];unfold hcD;rw [if_neg (show dn++[p]≠[] by simp)];split<;>first | rfl | (rename_i h;cases h)
   rw [em];unfold bF Ao;simp
  rw [ep];simp!;exact e
theorem Ul {fi:FI}(hi:fi ρ S=.ok ((ts.map bL).map A.d,none) S) (hl:ts.length<=100):Xh fi g2 iy (iU (aj (var 0) (aj (cL (oO iW (aj (var 1) au))) au))) 2 [] ρ S=.ok (.p S.length) (bF S ts):=by
 obtain ⟨ρ',e⟩:=zK (S:=S) ts [] (rA ρ 2 []) ⟨none,none,rfl⟩ (by simp;omega);unfold Xh lcE;rw [hi];simp only [ao,sX];have e':sG g2 iy (iU (aj (var 0) (aj (cL (oO iW (aj (var 1) au))) au))) none S.length ((ts.map bL).map A.d) (rA ρ 2 []) (S++[.lst []])=.ok ρ' (bF S ts):=e;rw [e'];simp only [fY,endC]
theorem uJ (h:ts[i]?=some p):(bF S ts)[S.length+1+i]?=some (.lst p.2):=by
 rw [zAw (by omega),show S.length+1+i-S.length=i+1 by omega,zAg];unfold Ao;rw [zAk,h];rfl
theorem xH {T:aM}(n c:Nat) (hn:n<=c):∀(ts:List jx) (k:Nat),(∀(i:Nat) p,ts[i]?=some p->T[c+1+(k+i)]?=some (.lst p.2))->oV T n (ts.mapIdx λi p=>.t [.d p.1,.p (c+1+(k+i))]) ts
 |[],_,_=>.nil
 |p::ts,k,h=>by
  rw [List.mapIdx_cons];refine .cons (.t (by omega) (h 0 p rfl)) ?_;have:=xH n c hn ts (k+1) λi q hq=>by rw [show k+1+i=k+(i+1) by omega];exact h (i+1) q hq
  have e:(λi (p:jx)=>A.t [.d p.1,.p (c+1+(k+(i+1)))])=λi (p:jx)=>A.t [.d p.1,.p (c+1+(k+1+i))]:=by
   funext i p;rw [show k+(i+1)=k+1+i by omega]
  rw [e];exact this
theorem uM (n:Nat) (hn:n<=S.length):oV (bF S ts) n (qH S.length ts) ts:=by
 have:=xH (T:=bF S ts) n S.length hn ts 0 λi p h=>by rw [Nat.zero_add];exact uJ h
 simp only [Nat.zero_add] at this;exact this
theorem Df (h:ts[i]?=some p) (ds:List D):(bF S ts).set (S.length+1+i) (.lst ds)=bF S (ts.set i (p.1,ds)):=by
 have hi:=(List.getElem?_eq_some_iff.mp h).1;unfold bF;rw [zCd _ _ (by omega),show S.length+1+i-S.length=i+1 by omega,zAL];have e1:(Ao ts).set i (.lst ds)=Ao (ts.set i (p.1,ds)):=by
  unfold Ao;rw [List.map_set]
 have e2:qH S.length (ts.set i (p.1,ds))=qH S.length ts:=by
  unfold qH;apply List.ext_getElem?;intro j;rw [zBx,zBx];by_cases hj:i=j
  ·subst hj;rw [zAR hi,h];rfl
  ·rw [zAY hj]
 have e3:hcD S.length (ts.set i (p.1,ds))=hcD S.length ts:=by
  unfold hcD;rw [e2];have:ts.set i (p.1,ds)=[]↔ts=[]:=by
   rw [<-List.length_eq_zero_iff,zBa,List.length_eq_zero_iff]
  by_cases z:ts=[]
  ·rw [if_pos z,if_pos (this.mpr z)]
  ·rw [if_neg z,if_neg (λq=>z (this.mp q))]
 rw [e1,e3]
theorem R6 {k:Nat}{i:Int}{x:A}(h0:S[k]?=some (.gen xs)) (h:nQ xs i=some x):fK (.p k) (.d (.int i)) S=.ok x S:=by
 unfold fK;simp [h0,dY.its,h]
theorem xT {k:Nat}(h0:S[k]?=some (.gen xs)):cH [.p k] S=.ok (.d (.int xs.length)) S:=by
 unfold cH;simp [h0,dY.its]
theorem z7 {k:Nat}(h:∀p∈ts,Gd k p.1) (h2:∀p∈ts,∀o∈p.2,Gd k o):gC (ts.map bL)<=k+2:=by
 have key:∀ds:List D,(∀d∈ds,Gd k d)->gC ds<=k:=λds=>by
  induction ds with
  |nil=>intro _;simp [gC]
  |cons d ds ih=>
   intro hd;have a:=(hd d zAm).dep;have b:=ih λe he=>hd e (zAf _ he);simp only [gC];omega
 induction ts with
 |nil=>simp [gC]
 |cons p ts ih=>
  have a:=(h p zAm).dep;have b:=key p.2 (h2 p zAm);have c:=ih (λq hq=>h q (zAf _ hq)) (λq hq=>h2 q (zAf _ hq));simp only [zAr,bL,gC,fX];omega
theorem Qt {k:Nat}(h:∀p∈ts,Gd k p.1) (h2:∀p∈ts,∀o∈p.2,Gd k o):i_ (ts.map bL) (ts.map bL)=some true:=by
 have key:∀ds:List D,(∀d∈ds,Gd k d)->i_ ds ds=some true:=λds=>by
  induction ds with
  |nil=>intro _;simp [i_]
  |cons d ds ih=>
   intro hd;simp [i_,(hd d zAm).eq,ih λe he=>hd e (zAf _ he)]
 induction ts with
 |nil=>simp [i_]
 |cons p ts ih=>
  have c:=ih (λq hq=>h q (zAf _ hq)) (λq hq=>h2 q (zAf _ hq));simp [bL,i_,cA,(h p zAm).eq,key p.2 (h2 p zAm)];rw [c];rfl
theorem Yc {k n:Nat}(e:T[k]?=some c) (hc:c.its=some xs) (r:oV T 0 xs ts) (hl:xs.length<=150) (hk:n<=40) (h:∀p∈ts,Gd n p.1) (h2:∀p∈ts,∀o∈p.2,Gd n o):oEq false (.p k) (.d (.lst [])) T=.ok (.d (.bl (decide (ts=[])))) T:=by
 have d:=z7 h h2;unfold oEq;rw [ZW e hc r hl,qY];simp only;rw [if_pos (by simp only [fX];omega)];cases ts with
 |nil=>simp [cA,i_]
 |cons p ts=>simp [cA]
theorem KQ (xs:List A) (i:Nat) (hi:i<=xs.length):zW xs none (some (i:Int))=xs.take i:=by
 unfold zW;rw [HT.mG,HT.pK,List.drop_zero,Nat.sub_zero,Nat.min_eq_left hi]
theorem JX (xs:List A) (i:Nat) (hi:i<=xs.length):zW xs (some (i:Int)) none=xs.drop i:=by
 unfold zW;rw [HT.mG,HT.pK,Nat.min_eq_left hi,zBj (by simp)]
section
variable {h:FE}
theorem Sw {g:FG}:Qz f g ρ S=(f ρ S).bind λx S=>(opt (g x ρ) S).bind λρ' S=>.ok (.nx ρ') S:=rfl
theorem Ls {x:A}{l m:FO}{lo hi:Option Int}(hf:f ρ S=.ok x S) (hl:l ρ S=.ok lo S) (hm:m ρ S=.ok hi S) (h:uw S x=some xs):xV f l m ρ S=.ok (.p S.length) (S++[.gen (zW xs lo hi)]):=by
 unfold xV;simp only [hf,ao,hl,hm,h]
theorem Kr {x y:A}{S1 S2:aM}(hf:f ρ S=.ok x S1) (hh:h ρ S1=.ok y S2) (h1:uw S2 x=some xs) (h2:uw S2 y=some ys) (hl:xs.length+ys.length<=10000):Br f h ρ S=.ok (.p S2.length) (S2++[.gen (xs++ys)]):=by
 unfold Br;simp only [hf,ao,hh,h1,h2];rw [if_pos (by unfold lim;omega)]
theorem vD {k:Nat}(h:S[k]?=some (.gen xs)):uw S (.p k)=some xs:=by
 unfold uw;simp only [h,dY.its]
end
abbrev t4:FS:=(aG (je (bZ (bin (oEq false) (var 3) (cst (.int 4)))) (bW (lR "list" (mR nP) (var 6) (aj (var 7) au))) bU) (cj (var 2)))
abbrev t3:FS:=(aG (je (bZ (bin (oEq false) (var 3) (cst (.int 3)))) (bW (lR "list" (mR lJ) (var 6) (aj (bin (oI Z.bH) (bin (oI Z.dz) (var 1) (cst (.int 200))) (bin dh (cal cH (aj (var 6) au)) (cst (.int 1)))) (aj (bin dh (aW bQ (aj (bin (oI Z.dz) (var 1) (cst (.int 9000))) au)) (cst (.str "q"))) au)))) bU) t4)
abbrev t2:FS:=(aG (je (bZ (bin (oEq false) (var 3) (cst (.int 2)))) (bW (lR "list" (mR lJ) (var 2) (aj (bin (oI Z.bH) (bin (oI Z.dz) (var 1) (cst (.int 200))) (bin dh (cal cH (aj (var 2) au)) (cst (.int 1)))) (aj (iU (aj (var 5) (aj (dL (fV au)) au))) au)))) bU) t3)
abbrev O5:FA:=(aj (cst (.str "")) (aj (cst (.str "new")) (aj (cst (.str "Ab")) (aj (cst (.str "ninelongs")) (aj (cst (.int 5)) (aj (cst .non) (aj (cst (.str "a1")) (aj (cst (.bl true)) (aj (iU (aj (var 5) au)) au)))))))))
abbrev newL:FE:=(Br (Br (xV (var 2) Aq (iB (var 4))) (Ou (aj (iU (aj (var 8) (aj (var 6) au))) au))) (xV (var 2) (iB (bin dh (var 4) (cst (.int 1)))) Aq))
abbrev Y7:FS:=(aG (je (bZ (bin (oEq false) (bin (oI Z.bH) (bin (oI Z.dz) (var 1) (cst (.int 80000))) (cst (.int 2))) (cst (.int 0)))) (cj newL) bU) (bW (lR "list" (mR lJ) (var 6) (aj (bin (oI Z.bH) (bin (oI Z.dz) (var 1) (cst (.int 200))) (bin dh (cal cH (aj (var 6) au)) (cst (.int 1)))) (aj (var 8) au)))))
abbrev t1:FS:=(aG (je (bZ (bin (oEq false) (var 3) (cst (.int 1)))) (aG (aP 8 (bin fK (dL (fV O5)) (bin (oI Z.bH) (bin (oI Z.dz) (var 1) (cst (.int 9000))) (cst (.int 9))))) Y7) bU) t2)
abbrev t0:FS:=(aG (aP 4 (bin (oI Z.bH) (bin (oI Z.dz) (var 1) (cst (.int 5))) (cal cH (aj (var 2) au)))) (aG (Qz (bin fK (var 2) (var 4)) (gT 2 (aH (gN 5) (aH (gN 6) bY)))) (aG (aP 7 (bin fK (bin fK (var 2) (bin (oI Z.bH) (bin (oI Z.dz) (var 1) (cst (.int 200))) (cal cH (aj (var 2) au)))) (cst (.int 0)))) t1)))
theorem Pb:iR=(aG (aP 2 (Xh (cC (var 0)) g2 iy (iU (aj (var 0) (aj (cL (oO iW (aj (var 1) au))) au))) 2 [])) (aG (aP 3 (bin (oI Z.bH) (var 1) (cst (.int 5)))) (aG (je (yN (bZ (bin (oEq false) (var 2) (dL (fV au)))) (bZ (bin (oEq false) (var 3) (cst (.int 0))))) (cj (var 2)) bU) t0))):=rfl
def Tells (S:aM) (r:R uP) (us:List jx):Prop:=∃c kk U xs,r=.ok (.rt (.p kk)) (S++U)/\S.length<=kk/\(S++U)[kk]?=some c/\c.its=some xs/\oV (S++U) S.length xs us/\xs.length<=150
section
variable {us:List jx}{k:Nat}
theorem nq (h:us.length<=100):Tells S (.ok (.rt (.p S.length)) (bF S us)) us:=⟨_,_,hcD S.length us::Ao us,_,rfl,zAq _,aX _ _,Bb _ _,uM _ (zAq _),by rw [jX];omega⟩
theorem UW {p1:D}(g:Gd k p1) (n:Int) (T:aM) (h1:ρ[1]?=some (some (.d (.int n)))) (h5:ρ[5]?=some (some (.d p1))) :
  ∃d,Gd (k+1) d/\bin fK (dL (fV O5)) (bin (oI Z.bH) (bin (oI Z.dz) (var 1) (cst (.int 9000))) (cst (.int 9))) ρ T=.ok (.d d) T:=by
 have hl:dL (fV O5) ρ T=.ok (.d (.lst [.str "", .str "new", .str "Ab", .str "ninelongs", .int 5,.non,.str "a1", .bl true,.tup [p1]])) T:=by
  unfold O5;simp! only [Hv,vR,cT,cW,Ji,dU,ao,lK,oZ h5];rfl
 have h0:=zBb (n / 9000) (show (9:Int)≠0 by decide);have h2:=zAP (n / 9000) (show (0:Int) < 9 by decide);obtain ⟨j,hj⟩:∃j:Nat,n / 9000 % 9=(j:Int):=⟨(n / 9000 % 9).toNat,by omega⟩;have hj9:j < 9:=by omega
 have all:∀d∈([.str "", .str "new", .str "Ab", .str "ninelongs", .int 5,.non,.str "a1", .bl true,.tup [p1]]:List D),Gd (k+1) d:=by
  intro d hd;simp only [zBv,zBp,or_false] at hd;rcases hd with rfl | rfl | rfl | rfl | rfl | rfl | rfl | rfl | rfl
  ·exact .str (by decide) (by decide)
  ·exact .str (by decide) (by decide)
  ·exact .str (by decide) (by decide)
  ·exact .str (by decide) (by decide)
  ·exact .five
  ·exact .non
  ·exact .str (by decide) (by decide)
  ·exact .Ag
  ·exact .tup g
 generalize eL:([.str "", .str "new", .str "Ab", .str "ninelongs", .int 5,.non,.str "a1", .bl true,.tup [p1]]:List D)=L at hl all;have hL:L.length=9:=by rw [<-eL];rfl
 have ex:L[j]?=some L[j]:=zAc (by omega);refine ⟨L[j],all _ (zBi _),?_⟩;simp! only [fQ,hl,ao,dg,oZ h1,cW,Dj,Z.dz,Z.bH];rw [if_pos (by decide)];simp! only [aR,ao,dg,cW,Dj,Z.bH];rw [if_pos (by decide)];simp only [aR,ao,hj];exact qQ (oN ex)
theorem wG (F:q_ k ts) (hp:ts[a]?=some p) (h1:ds.length<=27+k) (h2:∀o∈ds,Gd (k+1) o):q_ (k+1) (ts.set a (p.1,ds)):=by
 have key:∀q∈ts.set a (p.1,ds),q∈ts∨q=(p.1,ds):=λq hq=>by
  rcases List.mem_or_eq_of_mem_set hq with h | h
  ·exact .inl h
  ·exact .inr h
 have hpm:=zAh hp;refine ⟨by rw [zBa];have:=F.len;omega,λq hq=>?_,λq hq=>?_,λq hq o ho=>?_⟩
 ·rcases key q hq with h | rfl
  ·have:=F.sh q h;omega
  ·show ds.length<=_;omega
 ·rcases key q hq with h | rfl
  ·exact (F.nm q h).up
  ·exact (F.nm p hpm).up
 ·rcases key q hq with h | rfl
  ·exact (F.up q h o ho).up
  ·exact h2 o ho
theorem wM (F:q_ k ts) (i:Nat) (h:Gd (k+1) nm):q_ (k+1) (ts.take i++(nm,[])::ts.drop i):=by
 have key:∀q∈ts.take i++(nm,[])::ts.drop i,q∈ts∨q=(nm,[]):=λq hq=>by
  rcases List.mem_append.mp hq with h | h
  ·exact .inl (zBw h)
  ·rcases zBv.mp h with h | h
   ·exact .inr h
   ·exact .inl (zCi h)
 refine ⟨by have:=F.len;simp;omega,λq hq=>?_,λq hq=>?_,λq hq o ho=>?_⟩
 ·rcases key q hq with h | rfl
  ·have:=F.sh q h;omega
  ·simp
 ·rcases key q hq with h | rfl
  ·exact (F.nm q h).up
  ·exact h
 ·rcases key q hq with h | rfl
  ·exact (F.up q h o ho).up
  ·simp at ho
theorem wW (F:q_ k ts) (hp:ts[a]?=some p) (h:Gd (k+1) nm):q_ (k+1) (ts.take a++[(nm,p.2)]++ts.drop (a+1)):=by
 have hpm:=zAh hp;have ha:=(List.getElem?_eq_some_iff.mp hp).1;have key:∀q∈ts.take a++[(nm,p.2)]++ts.drop (a+1),q∈ts∨q=(nm,p.2):=λq hq=>by
  rcases List.mem_append.mp hq with h | h
  ·rcases List.mem_append.mp h with h | h
   ·exact .inl (zBw h)
   ·exact .inr (List.mem_singleton.mp h)
  ·exact .inl (zCi h)
 refine ⟨by have:=F.len;simp;omega,λq hq=>?_,λq hq=>?_,λq hq o ho=>?_⟩
 ·rcases key q hq with h | rfl
  ·have:=F.sh q h;omega
  ·have:=F.sh p hpm;show p.2.length<=_;omega
 ·rcases key q hq with h | rfl
  ·exact (F.nm q h).up
  ·exact h
 ·rcases key q hq with h | rfl
  ·exact (F.up q h o ho).up
  ·exact (F.up p hpm o ho).up
theorem Dn (h:∀o∈ds,Gd k o) (hd:Gd k d):∀o∈ds.take i++d::ds.drop i,Gd k o:=λo ho=>by
 rcases List.mem_append.mp ho with h1 | h1
 ·exact h o (zBw h1)
 ·rcases zBv.mp h1 with rfl | h1
  ·exact hd
  ·exact h o (zCi h1)
abbrev rS (S:aM) (ts:List jx) (n w:Int) (a:Nat) (p1 ot:D) (x:Option A):dH:=[some (.d (.lst (ts.map bL))),some (.d (.int n)),some (.p S.length),some (.d (.int w)),some (.d (.int a)),some (.d p1),some (.p (S.length+1+a)),some (.d ot),x]
theorem place (n:Int) (m:Nat):∃j:Nat,n / 200 % ((m:Int)+1)=(j:Int)/\j<=m:=by
 have h0:=zBb (n / 200) (show ((m:Int)+1)≠0 by omega);have h1:=zAP (n / 200) (show (0:Int) < (m:Int)+1 by omega);exact ⟨(n / 200 % ((m:Int)+1)).toNat,by omega,by omega⟩
theorem Ja (n:Int) (hp:ts[a]?=some p) (hs:p.2.length<=100) (h1:ρ[1]?=some (some (.d (.int n)))) (h6:ρ[6]?=some (some (.p (S.length+1+a)))) (hf:f ρ (bF S ts)=.ok (.d d) (bF S ts)) :
  ∃i,bW (lR "list" (mR lJ) (var 6) (aj (bin (oI Z.bH) (bin (oI Z.dz) (var 1) (cst (.int 200))) (bin dh (cal cH (aj (var 6) au)) (cst (.int 1)))) (aj f au))) ρ (bF S ts)=.ok (.nx ρ) (bF S (ts.set a (p.1,p.2.take i++d::p.2.drop i))):=by
 have at1:=uJ (S:=S) hp;obtain ⟨j,hj,hjl⟩:=place n p.2.length;refine ⟨j,?_⟩;simp! only [tQ,FQ,oZ h6,ao];rw [pQ at1];simp! only [cT,fQ,oZ h1,oZ h6,cW,ao,dg,Dj,Z.dz,Z.bH,u_,dU,lK,Bc at1,mV];rw [if_pos (by decide)];simp! only [aR,ao,dg,fQ,u_,cT,dU,lK,oZ h6,cW,Bc at1,mV,Dj,Z.bH];rw [if_pos (by omega)];simp! only [aR,ao,hj,hf,lK,cT,dU];rw [Ju at1 (by omega) hjl,Df hp];rfl
end
section
variable {S:aM}{ts us:List jx}{k:Nat}{n:Int}{a:Nat}{p:jx}{ot:D}{x:Option A}
theorem xu (hn:ts≠[]):(bF S ts)[S.length]?=some (.gen (qH S.length ts)):=by
 have:=aX (S:=S) (Ao ts) (hcD S.length ts);rw [this];unfold hcD;rw [if_neg hn]
theorem Sy (c:Nat) (h:ts[i]?=some p):(qH c ts)[i]?=some (.t [.d p.1,.p (c+1+i)]):=by
 unfold qH;rw [zBx,h];rfl
theorem Ss {w:Int}(hw:w≠4) (T:aM):t4 (rS S ts n w a p.1 ot x) T=.ok (.rt (.p S.length)) T:=by
 have c:(w==4)=false:=by simpa using hw
 simp -implicitDefEqProofs [var,c]
theorem R4 {w:Int}(hw:w≠3) (h4:w≠4) (T:aM):t3 (rS S ts n w a p.1 ot x) T=.ok (.rt (.p S.length)) T:=by
 have c:(w==3)=false:=by simpa using hw
 have e:=Ss (S:=S) (ts:=ts) (n:=n) (a:=a) (p:=p) (ot:=ot) (x:=x) h4 T;simp! [c];exact e
theorem Lh {w:Int}(hw:w≠2) (T:aM):t2 (rS S ts n w a p.1 ot x) T=t3 (rS S ts n w a p.1 ot x) T:=by
 have c:(w==2)=false:=by simpa using hw
 simp! [c]
theorem M_ {w:Int}(hw:w≠1) (T:aM):t1 (rS S ts n w a p.1 ot x) T=t2 (rS S ts n w a p.1 ot x) T:=by
 have c:(w==1)=false:=by simpa using hw
 simp! [c]
theorem VG {g:List A->List A->Option (List A×A)}{m:Nat}{zs:List A}(h:T[m]?=some (.gen ys)) (hg:g ys xs=some (zs,.d .non)) (h1:ys.length < lim) (h2:zs.length<=lim):mR g (.p m) xs T=.ok (.d .non) (T.set m (.gen zs)):=by
 unfold mR;simp only [h,dY.its,hg];rw [if_pos ⟨h1,h2⟩];rfl
theorem wr2 (hne:ts≠[]) (hl:ts.length<=100) {j:Nat}(hj:j<=ts.length) (d:D):mR lJ (.p S.length) [.d (.int j),.d d] (bF S ts)=.ok (.d .non) (S++.gen ((qH S.length ts).take j++.d d::(qH S.length ts).drop j)::Ao ts):=by
 have at1:=xu (S:=S) hne;have hlen:=jX S.length ts;have h1:(qH S.length ts).length < lim:=jd (by omega);have h2:((qH S.length ts).take j++.d d::(qH S.length ts).drop j).length<=lim:=zBA (jd (by simp;omega));rw [VG at1 (RP (by omega)) h1 h2];unfold bF;rw [dF]
theorem ev2 (hne:ts≠[]) (hl:ts.length<=100) {j:Nat}(hjl:j<=ts.length) (hj:n / 200 % ((ts.length:Int)+1)=(j:Int)):t2 (rS S ts n 2 a p.1 ot x) (bF S ts)=.ok (.rt (.p S.length)) (S++.gen ((qH S.length ts).take j++.d (bL (p.1,[]))::(qH S.length ts).drop j)::Ao ts):=by
 have at1:=xu (S:=S) hne;simp! only [gQ,rD,qW,fQ,var,zAg,zAi,ao,dg,cW,tY,tH,zAz,if_false,BEq.rfl,pI,tQ,FQ];rw [Yd at1];simp! only [cT,fQ,var,zAg,zAi,cW,ao,dg,Dj,Z.dz,Z.bH,u_,dU,lK,xT at1,mV];rw [if_pos (by decide)];simp! only [aR,ao,dg,fQ,u_,cT,dU,lK,var,zAg,zAi,cW,xT at1,jX,mV,Dj,Z.bH];rw [if_pos (by omega)];simp! only [aR,ao,hj,lK,cT,dU,Ji,var,zAg,zAi,Hv,vR,Bf,K9,aaT];rw [wr2 hne hl hjl];simp! only [ao,tE,fJ];exact R4 (by decide) (by decide) _
theorem Sv (c:dY):oV (S++c::Ao ts) S.length (qH S.length ts) ts:=by
 have:=xH (T:=S++c::Ao ts) S.length S.length (zAq _) ts 0 λi q hq=>by
  have:=uJ (S:=S) hq;rw [Nat.zero_add];unfold bF at this;rw [zAw (by omega),show S.length+1+i-S.length=i+1 by omega,zAg] at this ⊢;exact this
 simp only [Nat.zero_add] at this;exact this
variable (F:q_ k ts) (hk:k<=6) (hp:ts[a]?=some p) (hot:Gd k ot)
include F hk hp hot
theorem abn:∃us,q_ (k+1) us/\Tells S (t1 (rS S ts n 4 a p.1 ot x) (bF S ts)) us:=by
 have hpm:=zAh hp;have at1:=uJ (S:=S) hp;have hs:=F.sh p hpm;have hl:=F.len;refine ⟨ts.set a (p.1,p.2++[ot]),wG F hp (by simp;omega) (λo ho=>?_),?_⟩
 ·rcases List.mem_append.mp ho with h | h
  ·exact (F.up p hpm o h).up
  ·rw [List.mem_singleton.mp h];exact hot.up
 ·rw [M_ (by decide),Lh (by decide)];have e:t3 (rS S ts n 4 a p.1 ot x) (bF S ts)=.ok (.rt (.p S.length)) (bF S (ts.set a (p.1,p.2++[ot]))):=by
   simp -implicitDefEqProofs [var];rw [pQ at1];simp -implicitDefEqProofs [var];rw [zq at1 (by omega),Df hp];simp -implicitDefEqProofs [var]
  rw [e];exact nq (by rw [zBa];omega)
theorem T_ (m:Int):Gd k (.str (word m++("q" : Str))):=by
 have h:=wK m;refine .str (by rw [strLen_append];have:=h.hi;show _+1<=_;omega) λc hc=>?_;have hc':c∈((word m).cps++("q" : Str).cps).toList:=hc;rw [Array.toList_append] at hc';rcases List.mem_append.mp hc' with h1 | h1
 ·have:=(h.Fz c h1).2;omega
 ·have h2:c∈[113]:=h1;rw [List.mem_singleton.mp h2];decide
theorem abh:∃us,q_ (k+1) us/\Tells S (t1 (rS S ts n 3 a p.1 ot x) (bF S ts)) us:=by
 have hpm:=zAh hp;have hs:=F.sh p hpm;have hl:=F.len;have wq:=T_ F hk hp hot (n / 9000);obtain ⟨i,e⟩:=Ja (S:=S) n hp (by omega) (ρ:=rS S ts n 3 a p.1 ot x) rfl rfl (f:=(bin dh (aW bQ (aj (bin (oI Z.dz) (var 1) (cst (.int 9000))) au)) (cst (.str "q")))) (d:=.str (word (n / 9000)++("q" : Str))) (by
  simp -implicitDefEqProofs [var];rw [cQ (wj _ _)];simp -implicitDefEqProofs;exact Bs (by have:=(wK (n / 9000)).hi;show _+1<=_;omega))
 refine ⟨_,wG F hp (ds:=p.2.take i++.str (word (n / 9000)++("q" : Str))::p.2.drop i) (by simp;omega) (Dn (λo ho=>(F.up p hpm o ho).up) wq.up),?_⟩;rw [M_ (by decide),Lh (by decide)];have e3:t3 (rS S ts n 3 a p.1 ot x) (bF S ts)=.ok (.rt (.p S.length)) (bF S (ts.set a (p.1,p.2.take i++.str (word (n / 9000)++("q" : Str))::p.2.drop i))):=by
  simp! only [gQ,rD,qW,fQ,var,zAg,zAi,ao,dg,cW,tY,tH,zAz,if_false,BEq.rfl,pI];rw [e];simp! only [ao,fJ];exact Ss (by decide) _
 rw [e3];exact nq (by rw [zBa];omega)
theorem aax:∃us,q_ (k+1) us/\Tells S (t1 (rS S ts n 2 a p.1 ot x) (bF S ts)) us:=by
 have hpm:=zAh hp;have hne:ts≠[]:=List.ne_nil_of_mem hpm;have hl:=F.len;obtain ⟨j,hj,hjl⟩:=place n ts.length;refine ⟨_,wM F j (F.nm p hpm).up,?_⟩;rw [M_ (by decide),ev2 hne (by omega) hjl hj];refine ⟨_,_,_,_,rfl,zAq _,aX _ _,rfl,?_,by simp [jX];omega⟩;exact ((Sv _).take j).app (.cons .d ((Sv _).drop j))
end
section
variable {S:aM}{ts us:List jx}{k:Nat}{n:Int}{a:Nat}{p:jx}{ot bad:D}{x:Option A}
theorem sY (h:T[i]?=some c):(T++U)[i]?=some c:=by
 rw [zAj (List.getElem?_eq_some_iff.mp h).1];exact h
theorem Qx (hp:ts[a]?=some p) (hl:ts.length<=100) {w:Int} :
  ∃U kk,newL (rS S ts n w a p.1 ot (some (.d bad))) (bF S ts)=.ok (.p kk) (bF S ts++U)/\S.length<=kk/\(bF S ts++U)[kk]?=some (.gen ((qH S.length ts).take a++[.t [.d bad,.p (S.length+1+a)]]++(qH S.length ts).drop (a+1))):=by
 have ha:=(List.getElem?_eq_some_iff.mp hp).1;have hne:ts≠[]:=by rintro rfl;simp at ha
 have at1:=xu (S:=S) hne;have il:=jX S.length ts;generalize eT:bF S ts=T at at1 ⊢;have TS:S.length<=T.length:=by rw [<-eT];simp
 generalize qH S.length ts=xs at at1 il ⊢;have ct:=KQ xs a (by omega);have cd:=JX xs (a+1) (by omega);have e1:xV (var 2) Aq (iB (var 4)) (rS S ts n w a p.1 ot (some (.d bad))) T=.ok (.p T.length) (T++[.gen (xs.take a)]):=by
  rw [<-ct];exact Ls (x:=.p S.length) rfl rfl rfl (vD at1)
 have e2:Ou (aj (iU (aj (var 8) (aj (var 6) au))) au) (rS S ts n w a p.1 ot (some (.d bad))) (T++[.gen (xs.take a)])=.ok (.p (T++[dY.gen (xs.take a)]).length) (T++[.gen (xs.take a)]++[.gen [.t [.d bad,.p (S.length+1+a)]]]):=rfl;have l1:(T++[dY.gen (xs.take a)]).length=T.length+1:=by simp
 have tl:(xs.take a).length<=100:=by simp;omega
 have dl:(xs.drop (a+1)).length<=100:=by simp;omega
 have e3:=Kr e1 e2 (vD (xs:=xs.take a) (by rw [zAC];exact aX _ _)) (vD (xs:=[.t [.d bad,.p (S.length+1+a)]]) (aX _ _)) (by simp;omega);have l2:(T++[dY.gen (xs.take a)]++[dY.gen [A.t [.d bad,.p (S.length+1+a)]]]).length=T.length+2:=by simp
 generalize eT2:T++[dY.gen (xs.take a)]++[dY.gen [A.t [.d bad,.p (S.length+1+a)]]]=T2 at e3 l2;have at2:T2[S.length]?=some (.gen xs):=by rw [<-eT2];exact sY (sY at1)
 have e4:xV (var 2) (iB (bin dh (var 4) (cst (.int 1)))) Aq (rS S ts n w a p.1 ot (some (.d bad))) (T2++[.gen (xs.take a++[.t [.d bad,.p (S.length+1+a)]])])=.ok (.p (T2++[dY.gen (xs.take a++[.t [.d bad,.p (S.length+1+a)]])]).length) (T2++[.gen (xs.take a++[.t [.d bad,.p (S.length+1+a)]])]++[.gen (xs.drop (a+1))]):=by
  rw [<-cd];exact Ls (x:=.p S.length) rfl rfl rfl (vD (sY at2))
 have e5:=Kr e3 e4 (vD (xs:=xs.take a++[.t [.d bad,.p (S.length+1+a)]]) (by rw [zAC];exact aX _ _)) (vD (xs:=xs.drop (a+1)) (aX _ _)) (by simp;omega);subst eT2;refine ⟨[.gen (xs.take a),.gen [.t [.d bad,.p (S.length+1+a)]],.gen (xs.take a++[.t [.d bad,.p (S.length+1+a)]]),.gen (xs.drop (a+1)),.gen (xs.take a++[.t [.d bad,.p (S.length+1+a)]]++xs.drop (a+1))],T.length+4,?_,by omega,?_⟩
 ·refine e5.trans ?_;congr 1
  ·simp
  ·simp
 ·rw [zAw (by omega),show T.length+4-T.length=4 by omega];rfl
variable (F:q_ k ts) (hk:k<=6) (hp:ts[a]?=some p) (hot:Gd k ot)
include F hk hp hot
theorem abz:∃us,q_ (k+1) us/\Tells S (t1 (rS S ts n 1 a p.1 ot x) (bF S ts)) us:=by
 have hpm:=zAh hp;have hl:=F.len;have hs:=F.sh p hpm;obtain ⟨bad,hb,eb⟩:=UW (F.nm p hpm) n (ρ:=rS S ts n 1 a p.1 ot x) (bF S ts) rfl rfl;have head:t1 (rS S ts n 1 a p.1 ot x) (bF S ts)=(Y7 (rS S ts n 1 a p.1 ot (some (.d bad))) (bF S ts)).bind (t_ t2):=by
  generalize eR:(Y7 (rS S ts n 1 a p.1 ot (some (.d bad))) (bF S ts)).bind (t_ t2)=R0;simp! only [gQ,rD,qW,fQ,var,zAg,zAi,ao,dg,cW,tY,tH,zAz,if_false,BEq.rfl,pI,ou];simp! only [fQ,dg] at eb;rw [eb];simp! only [ao,n_,fJ,zAL,zAU];exact eR
 by_cases c:n / 80000 % 2=0
 ·obtain ⟨U,kk,e1,e2,e3⟩:=Qx (S:=S) (n:=n) (ot:=ot) (bad:=bad) hp (by omega) (w:=1);have e:Y7 (rS S ts n 1 a p.1 ot (some (.d bad))) (bF S ts)=.ok (.rt (.p kk)) (bF S ts++U):=by
   simp! only [gQ,rD,qW,fQ,var,zAg,zAi,ao,dg,cW,Dj,Z.dz,Z.bH];rw [if_pos (by decide)];simp! only [aR,ao,dg,cW,Dj,Z.bH];rw [if_pos (by decide)];simp! only [aR,ao,dg,cW,tY,c,BEq.rfl,zAz,if_false,tH,pI,zm];rw [e1];rfl
  refine ⟨_,wW F hp hb,?_⟩;rw [head,e];have ha:=(List.getElem?_eq_some_iff.mp hp).1;have eU:bF S ts++U=S++(hcD S.length ts::Ao ts++U):=by simp
  rw [eU] at e3 ⊢;refine ⟨_,kk,_,_,rfl,e2,e3,rfl,?_,by simp [jX];omega⟩;have r0:oV (S++(hcD S.length ts::Ao ts++U)) S.length (qH S.length ts) ts:=(uM (S:=S) (ts:=ts) S.length (zAq _)).mono (zAq _) λj c _ h=>by rw [<-eU];exact sY h
  exact ((r0.take a).app (.cons (.t (by omega) (by rw [<-eU];exact sY (uJ hp))) .nil)).app (r0.drop (a+1))
 ·obtain ⟨i,e1⟩:=Ja (S:=S) n hp (by omega) (ρ:=rS S ts n 1 a p.1 ot (some (.d bad))) rfl rfl (f:=var 8) (d:=bad) rfl;have e:Y7 (rS S ts n 1 a p.1 ot (some (.d bad))) (bF S ts)=.ok (.nx (rS S ts n 1 a p.1 ot (some (.d bad)))) (bF S (ts.set a (p.1,p.2.take i++bad::p.2.drop i))):=by
   have c':(n / 80000 % 2==0)=false:=by simpa using c
   simp! only [gQ,rD,qW,fQ,var,zAg,zAi,ao,dg,cW,Dj,Z.dz,Z.bH];rw [if_pos (by decide)];simp! only [aR,ao,dg,cW,Dj,Z.bH];rw [if_pos (by decide)];simp! only [aR,ao,dg,cW,tY,c',zAz,if_false,tH,Ed,Fj,fJ];exact e1
  refine ⟨_,wG F hp (ds:=p.2.take i++bad::p.2.drop i) (by simp;omega) (Dn (λo ho=>(F.up p hpm o ho).up) hb),?_⟩;rw [head,e];simp! only [ao,fJ];have e2:t2 (rS S ts n 1 a p.1 ot (some (.d bad))) (bF S (ts.set a (p.1,p.2.take i++bad::p.2.drop i)))=.ok (.rt (.p S.length)) (bF S (ts.set a (p.1,p.2.take i++bad::p.2.drop i))):=(Lh (by decide) _).trans (R4 (by decide) (by decide) _);rw [e2];exact nq (by rw [zBa];omega)
end
theorem HN {k:Nat}(F:q_ k ts) (hk:k<=6) (n:Int) (S:aM):∃us,q_ (k+1) us/\iM [.d (.lst (ts.map bL)),.d (.int n)] S=.ok (.d (.lst (us.map bL))) S:=by
 have hl:=F.len
 suffices key:∃us,q_ (k+1) us/\Tells S (iR [some (.d (.lst (ts.map bL))),some (.d (.int n)),none,none,none,none,none,none,none] S) us by
  obtain ⟨us,h1,c,kk,U,xs,e,h2,h3,h4,h5,h6⟩:=key;exact ⟨us,h1,Km e h2 h3 h4 h5 h6⟩
 have e0:=Ul (fi:=cC (var 0)) (ρ:=[some (.d (.lst (ts.map bL))),some (.d (.int n)),none,none,none,none,none,none,none]) (S:=S) (ts:=ts) rfl (by omega);have h0:=zBb n (show (5:Int)≠0 by decide);have h5:=zAP n (show (0:Int) < 5 by decide);have eN:=Yc (T:=bF S ts) (ts:=ts) (c:=hcD S.length ts) (k:=S.length) (n:=k) (aX _ _) (Bb _ _) (uM 0 (zBf _)) (by rw [jX];omega) (by omega) F.nm F.up;have head:iR [some (.d (.lst (ts.map bL))),some (.d (.int n)),none,none,none,none,none,none,none] S=if ts=[]∨n % 5=0 then .ok (.rt (.p S.length)) (bF S ts) else t0 [some (.d (.lst (ts.map bL))),some (.d (.int n)),some (.p S.length),some (.d (.int (n % 5))),none,none,none,none,none] (bF S ts):=by
  rw [Pb];generalize eR:t0 [some (.d (.lst (ts.map bL))),some (.d (.int n)),some (.p S.length),some (.d (.int (n % 5))),none,none,none,none,none] (bF S ts)=R0;simp!;rw [e0];simp! [Z.bH];rw [if_pos (by decide)];simp!;rw [eN];by_cases z:ts=[]
  ·rw [if_pos (Or.inl z),decide_eq_true z];rfl
  ·rw [decide_eq_false z];simp!;by_cases w:n % 5=0
   ·rw [if_pos (Or.inr w),w];rfl
   ·rw [if_neg (by simp [z,w]),show (n % 5==0)=false from by simpa using w];simp!;exact eR
 by_cases z:ts=[]∨n % 5=0
 ·rw [head,if_pos z];exact ⟨ts,F.succ,nq (by omega)⟩
 ·rw [head,if_neg z];have hne:ts≠[]:=λq=>z (.inl q);have hw:n % 5≠0:=λq=>z (.inr q);have hpos:0 < ts.length:=List.length_pos_iff.mpr hne;have at1:=xu (S:=S) hne;have i1:=zBb (n / 5) (show ((ts.length:Nat):Int)≠0 by omega);have i2:=zAP (n / 5) (show (0:Int) < ((ts.length:Nat):Int) by omega);have i3:=zBb (n / 200) (show ((ts.length:Nat):Int)≠0 by omega);have i4:=zAP (n / 200) (show (0:Int) < ((ts.length:Nat):Int) by omega);obtain ⟨a,ha⟩:∃a:Nat,n / 5 % (ts.length:Int)=(a:Int):=⟨(n / 5 % (ts.length:Int)).toNat,by omega⟩;obtain ⟨b,hb⟩:∃b:Nat,n / 200 % (ts.length:Int)=(b:Int):=⟨(n / 200 % (ts.length:Int)).toNat,by omega⟩;have hp:ts[a]?=some ts[a]:=zAc (by omega);have hq:ts[b]?=some ts[b]:=zAc (by omega);have hot:=F.nm _ (zBi (show b < ts.length by omega));have ea:=R6 (S:=bF S ts) at1 (oN (Sy S.length hp));have eb:=R6 (S:=bF S ts) at1 (oN (Sy S.length hq));generalize hpd:ts[a]=p at hp ea;generalize hqd:ts[b]=q at hq eb hot;have e:t0 [some (.d (.lst (ts.map bL))),some (.d (.int n)),some (.p S.length),some (.d (.int (n % 5))),none,none,none,none,none] (bF S ts)=t1 (rS S ts n (n % 5) a p.1 q.1 none) (bF S ts):=by
   generalize eR:t1 (rS S ts n (n % 5) a p.1 q.1 none) (bF S ts)=R0;simp! [Sw,Z.dz,Z.bH];rw [if_pos (by decide)];simp! [xT at1,jX,Z.bH];rw [if_pos (by omega)];simp! [ha,Sw,ea];rw [show gT 2 (aH (gN 5) (aH (gN 6) bY)) (.t [.d p.1,.p (S.length+1+a)]) [some (.d (.lst (ts.map bL))),some (.d (.int n)),some (.p S.length),some (.d (.int (n % 5))),some (.d (.int a)),none,none,none,none]=some [some (.d (.lst (ts.map bL))),some (.d (.int n)),some (.p S.length),some (.d (.int (n % 5))),some (.d (.int a)),some (.d p.1),some (.p (S.length+1+a)),none,none] from rfl];simp! [Z.dz,Z.bH];rw [if_pos (by decide)];simp! [xT at1,jX,Z.bH];rw [if_pos (by omega)];simp! [hb,eb];rw [show fK (.t [.d q.1,.p (S.length+1+b)]) (.d (.int 0)) (bF S ts)=.ok (.d q.1) (bF S ts) from rfl];simp!;exact eR
  rw [e];have hc:n % 5=1∨n % 5=2∨n % 5=3∨n % 5=4:=by omega
  rcases hc with w | w | w | w
  ·rw [w];exact abz F hk hp hot
  ·rw [w];exact aax F hk hp hot
  ·rw [w];exact abh F hk hp hot
  ·rw [w];exact abn F hk hp hot
end K13
namespace K13
open PySem L2 Y
open Y (bin)
open Wb
open Z (lim)
open YS (adds fU fB gq)
open K14 (Lp wg kI dD gW oG wu Fg rO)
variable {S:aM}{l:List Tu}
section
variable {c:Nat->Addr}{ts:List jx}{k:Nat}
theorem xM (neg:Bool) (ss:List Str) (S:aM):oEq neg (.d (.lst (ss.map .str))) (.d (.lst [])) S=.ok (.d (.bl (if neg then !decide (ss=[]) else decide (ss=[])))) S:=by
 unfold oEq;simp only [qY];have e1:fX (.lst (ss.map D.str))<=50:=by
  show gC (ss.map D.str)+1<=50;rw [pN];decide
 have e2:=z8 ss [];rw [zCe] at e2;rw [if_pos e1,e2];rfl
theorem Q5 (s:Str):(s==("" : Str))=decide (¬1<=s.length):=by
 rw [zBc,decide_eq_true_iff,beq_iff_eq];constructor
 ·rintro rfl;decide
 ·intro h;obtain ⟨a⟩:=s;have:a.size=0:=by
   have h':¬1<=a.size:=h;omega
  rw [Array.eq_empty_of_size_eq_zero this];rfl
theorem zA {d:D}(hd:short d) (S:aM):bO [.d d] S=.ok (.d (.bl (isNm d))) S:=by
 refine gV ?_;have no:(∀s,d≠.str s)->fj [some (.d d)] S=.ok (.rt (.d (.bl (isNm d)))) S:=λh=>by
  have e:isNm d=false:=by
   cases d with
   |str s=>exact absurd rfl (h s)
   |_=>rfl
  have o1:yx "str" (.d d) S=.ok (.d (.bl false)) S:=by
   unfold yx Jz;cases d with
   |str s=>exact absurd rfl (h s)
   |_=>simp [CZ]
  rw [e];unfold fj;simp!;rw [o1];rfl
 cases d with
 |str s=>
  have hs:s.length<=1000:=hd;have key:gY (cC (var 0)) (gN 0) (bZ (bin (eE true) (var 0) (cst (.str "abcdefghijklmnopqrstuvwxyz")))) (var 0) 1 [] [some (.d (.str s))] S=.ok (.d (.lst (((s.cps.toList.filter λc=>!Z.Ie ⟨#[c]⟩ ABC).map λc=>(⟨#[c]⟩:Str)).map .str))) S:=by
   have:=dG (fi:=cC (var 0)) (g:=gN 0) (t:=(bZ (bin (eE true) (var 0) (cst (.str "abcdefghijklmnopqrstuvwxyz"))))) (f:=var 0) (n:=1) (js:=[]) (ρ:=[some (.d (.str s))]) (S:=S) (S1:=S) (xs:=qg s) (ck:=none) (λρ=>∃u,ρ=[u]) (λx=>match x with | .d (.str z)=>!Z.Ie z ABC | _=>false) (λx=>match x with | .d y=>y | _=>.non) (by simp [var]) (λ_=>trivial) ⟨none,rfl⟩ (by
    rintro x hx ρ ⟨u,rfl⟩;obtain ⟨c,hc,rfl⟩:=List.mem_map.mp hx;refine ⟨_,rfl,⟨_,rfl⟩,λacc=>?_,λ_ acc=>by simp [var]⟩;simp -implicitDefEqProofs [var]) (by unfold qg;rw [zAn];show s.length<=_;omega)
   rw [this];show R.ok _ _=_;congr 3;unfold qg;rw [List.filter_map,zAx,zAx];rfl
  show fj [some (.d (.str s))] S=_;unfold fj;simp!;rw [show yx "str" (.d (.str s)) S=.ok (.d (.bl true)) S from by unfold yx Jz;simp [CZ]];simp!;rw [show yJ [A.d (D.str "any"),A.d (D.str "none"),A.d (D.str "blank"),A.d (D.str "new"),A.d (D.str "on")] S=.ok (Al.map D.str) S from rfl];simp!;rw [pR (fZ _ _) (by rintro i j ⟨_,h⟩;cases h),gP];by_cases h3:s∈Al
  ·rw [decide_eq_true h3,show isNm (.str s)=false from by simp [isNm,h3]];rfl
  ·rw [decide_eq_false h3];simp! [lW hs,Z.Zd];by_cases h2:s.length<=8
   ·rw [decide_eq_false (show ¬(8 < (s.length:Int)) by omega)];simp!;rw [show oEq false (.d (.str s)) (.d (.str "")) S=.ok (.d (.bl (s==("" : Str)))) S from by unfold oEq;simp [fX,cA],Q5];by_cases h1:1<=s.length
    ·rw [decide_eq_false (show ¬¬1<=s.length from λq=>q h1)];simp!;rw [key];simp!;rw [xM];simp only [ao,D_,zAz,if_false];congr 4;have e9:isNm (.str s)=s.cps.toList.all λc=>Z.Ie ⟨#[c]⟩ ABC:=by
      show (decide (1<=s.length)&&decide (s.length<=8)&&!decide (s∈Al)&&s.cps.toList.all λc=>Z.Ie ⟨#[c]⟩ ABC)=_;rw [decide_eq_true h1,decide_eq_true h2,decide_eq_false h3];rfl
     rw [e9,zBc,decide_eq_true_iff];generalize s.cps.toList=l;rw [List.map_eq_nil_iff,List.filter_eq_nil_iff,List.all_eq_true];simp
    ·rw [decide_eq_true h1,show isNm (.str s)=false from by simp [isNm,h1]];rfl
   ·rw [decide_eq_true (show (8 < (s.length:Int)) by omega),show isNm (.str s)=false from by simp [isNm,h2]];rfl
 |non=>exact no (λs h=>by cases h)
 |bl b=>exact no (λs h=>by cases h)
 |int i=>exact no (λs h=>by cases h)
 |tup l=>exact no (λs h=>by cases h)
 |lst l=>exact no (λs h=>by cases h)
end
section
variable {us:List Tu}
def Xc (tl:List Tu):Prop:=∀p∈tl,∃u∈p.2,u∈tl.map (·.1)
def stp (l:List Tu):List Tu:=l.filter λp=>!decide (p.2.filter (λu=>decide (u∈l.map (·.1)))=[])
theorem Nt {fi:FI}{ρ:dH}(hi:fi ρ S=.ok ((l.map tD).map A.d,none) S) (hl:l.length<=1000):gY fi g2 iy (var 0) 2 [] ρ S=.ok (.d (.lst ((l.map (·.1)).map .str))) S:=by
 have h:=yc (ts:=l.map mJ) (by rw [nu];exact hi) (by simpa using hl);rw [Aw] at h;exact h
theorem SX (hl:l.length<=100) (hs:∀p∈l,p.2.length<=100) {x0 x2:Option A} :
  gY (cC (var 1)) g2 (bZ (bin (oEq true) (gY (cC (var 1)) (gN 0) (bZ (bin (eE false) (var 0) (var 1))) (var 0) 1 [2]) (dL (fV au)))) (iU (aj (var 0) (aj (var 1) au))) 2 [3] [x0,some (.d (.lst (l.map tD))),x2,some (.d (.lst ((l.map (·.1)).map .str)))] S=.ok (.d (.lst ((stp l).map tD))) S:=by
 have key:=dG (fi:=cC (var 1)) (g:=g2) (t:=(bZ (bin (oEq true) (gY (cC (var 1)) (gN 0) (bZ (bin (eE false) (var 0) (var 1))) (var 0) 1 [2]) (dL (fV au))))) (f:=(iU (aj (var 0) (aj (var 1) au)))) (n:=2) (js:=[3]) (ρ:=[x0,some (.d (.lst (l.map tD))),x2,some (.d (.lst ((l.map (·.1)).map .str)))]) (S:=S) (S1:=S) (xs:=(l.map tD).map A.d) (ck:=none)
  (λρ=>∃u v,ρ=[u,v,some (.d (.lst ((l.map (·.1)).map .str)))]) (λx=>!decide ((pairOf S x).2.filter (λu=>decide (u∈l.map (·.1)))=[])) (λx=>match x with | .d y=>y | _=>.non) (by
   simp!) (λacc=>trivial) ⟨none,none,rfl⟩ (by
   rintro x hx ρ ⟨u,v,rfl⟩;obtain ⟨d,hd,rfl⟩:=List.mem_map.mp hx;obtain ⟨p,hp,rfl⟩:=List.mem_map.mp hd;have ep:pairOf S (.d (tD p))=p:=Ej (Row.dl p.1 p.2);refine ⟨[some (.d (.str p.1)),some (.d (.lst (p.2.map .str))),some (.d (.lst ((l.map (·.1)).map .str)))],rfl,⟨_,_,rfl⟩,λacc=>?_,λ_ acc=>rfl⟩;rw [ep];have inner:=dG (fi:=cC (var 1)) (g:=gN 0) (t:=(bZ (bin (eE false) (var 0) (var 1)))) (f:=var 0) (n:=1) (js:=[2]) (ρ:=[some (.d (.str p.1)),some (.d (.lst (p.2.map .str))),some (.d (.lst ((l.map (·.1)).map .str)))]) (S:=S++[.lst acc]) (S1:=S++[.lst acc]) (xs:=(p.2.map D.str).map A.d) (ck:=none)
    (λρ=>∃u,ρ=[u,some (.d (.lst ((l.map (·.1)).map .str)))]) (λx=>match x with | .d (.str s)=>decide (s∈l.map (·.1)) | _=>false) (λx=>match x with | .d y=>y | _=>.non) (by
     simp!) (λacc=>trivial) ⟨none,rfl⟩ (by
     rintro x hx ρ ⟨u,rfl⟩;rw [zAx] at hx;obtain ⟨w,hw,rfl⟩:=List.mem_map.mp hx;refine ⟨_,rfl,⟨_,rfl⟩,λacc2=>?_,λ_ acc2=>by simp [var]⟩;simp! [Function.comp];rw [pR (fZ _ _) (by rintro i j ⟨_,h⟩;cases h),gP];rfl) (by have:=hs p hp;simp;omega)
   have inner2:gY (cC (var 1)) (gN 0) (bZ (bin (eE false) (var 0) (var 1))) (var 0) 1 [2] [some (.d (.str p.1)),some (.d (.lst (p.2.map .str))),some (.d (.lst ((l.map (·.1)).map .str)))] (S++[.lst acc])=.ok (.d (.lst ((p.2.filter λu=>decide (u∈l.map (·.1))).map .str))) (S++[.lst acc]):=by
    refine inner.trans ?_;show R.ok _ _=_;congr 3;exact Ms (λ_=>rfl) (λ_=>rfl) _
   simp!;rw [inner2];simp!;rw [xM];rfl) (by simp;omega)
 refine key.trans ?_;show R.ok _ _=_;congr 3;unfold stp;rw [zAx,List.filter_map,zAx];have:((λx=>!decide ((pairOf S x).2.filter (λu=>decide (u∈l.map (·.1)))=[])) ∘ (A.d ∘ tD))=λp:Tu=>!decide (p.2.filter (λu=>decide (u∈l.map (·.1)))=[]):=by
  funext p;show (!decide ((pairOf S (.d (tD p))).2.filter _=[]))=_;rw [show pairOf S (.d (tD p))=p from Ej (Row.dl p.1 p.2)]
 rw [this];rfl
theorem yt (l:List Tu):(stp l).Sublist l:=List.filter_sublist
theorem Bm {p:Tu}(hp:p∈l):p∈stp l↔∃u∈p.2,u∈l.map (·.1):=by
 unfold stp;rw [List.mem_filter,Bool.not_eq_true',decide_eq_false_iff_not,List.filter_eq_nil_iff];constructor
 ·rintro ⟨_,h⟩;refine Classical.byContradiction λc=>h λa ha q=>c ⟨a,ha,of_decide_eq_true q⟩
 ·rintro ⟨u,h1,h2⟩;exact ⟨hp,λh=>h u h1 (decide_eq_true h2)⟩
theorem Ut (l:List Tu):(stp l=l/\Xc l)∨((stp l).length < l.length):=by
 by_cases c:(stp l).length=l.length
 ·left;have e:=(yt l).eq_of_length c;exact ⟨e,λp hp=>(Bm hp).mp (by rw [e];exact hp)⟩
 ·right;have:=(yt l).length_le;omega
theorem T5 (nd:(us.map (·.1)).Nodup) (up:∀p∈us,∀o∈p.2,o∈us.map (·.1)) (few:us.length<=100) (sh:∀p∈us,p.2.length<=100) :
  ∃lf:List Tu,((lf=[]/\∀p∈us,wg us p.1)∨(lf≠[]/\Lp us (lf.map (·.1))))/\lf.Sublist us/\iV [.d (.lst (us.map tD))] S=.ok (.d (.lst (lf.map tD))) S:=by
 obtain ⟨ρ',S',e,tl,a,b,s1,s2,s3,rfl,hS⟩:=gK (g:=gN 2) (b:=(aG (aP 3 (gY (cC (var 1)) g2 iy (var 0) 2 [])) (aP 1 (gY (cC (var 1)) g2 (bZ (bin (oEq true) (gY (cC (var 1)) (gN 0) (bZ (bin (eE false) (var 0) (var 1))) (var 0) 1 [2]) (dL (fV au)))) (iU (aj (var 0) (aj (var 1) au))) 2 [3])))) (ck:=none) (xs:=rng 0 us.length)
  (λi ρ S'=>∃(tl:List Tu) (a b:Option A),tl.Sublist us/\(∀p∈us,p∉tl->wg us p.1)/\(Xc tl∨tl.length+i<=us.length)/\ρ=[some (.d (.lst (us.map tD))),some (.d (.lst (tl.map tD))),a,b]/\S'=S)
  (ρ:=[some (.d (.lst (us.map tD))),some (.d (.lst (us.map tD))),none,none]) (S:=S) ⟨us,none,none,List.Sublist.refl _,λp hp hn=>absurd hp hn,.inr (by omega),rfl,rfl⟩ (λ_ _ _ _=>trivial) (by
   rintro i x ρ S2 hx ⟨tl,a,b,s1,s2,s3,rfl,rfl⟩;obtain ⟨hi,rfl⟩:=pH hx;have tl1:tl.length<=100:=zAB s1.length_le few;refine ⟨_,_,_,rfl,?_,stp tl,some (.d (.int i)),some (.d (.lst ((tl.map (·.1)).map .str))),(yt tl).trans s1,?_,?_,rfl,rfl⟩
   ·have f1:=Nt (S:=S2) (fi:=cC (var 1)) (ρ:=[some (.d (.lst (us.map tD))),some (.d (.lst (tl.map tD))),some (.d (.int i)),b]) (l:=tl) (by simp!) (by omega);have f2:=SX (S:=S2) (l:=tl) tl1 (λp hp=>sh p (s1.subset hp)) (x0:=some (.d (.lst (us.map tD)))) (x2:=some (.d (.int i)));simp!;rw [f1];simp!;rw [f2];simp!
   ·intro p hp hn;by_cases c:p∈tl
    ·refine .mk (s:=p.1) (us:=p.2) hp λu hu=>?_;obtain ⟨q,hq,rfl⟩:=List.mem_map.mp (up p hp u hu);refine s2 q hq λhm=>hn ((Bm c).mpr ⟨q.1,hu,zAG (f:=(·.1)) hm⟩)
    ·exact s2 p hp c
   ·rcases Ut tl with ⟨h1,h2⟩ | h
    ·left;rw [h1];exact h2
    ·rcases s3 with q | q
     ·left;have:stp tl=tl:=List.filter_eq_self.mpr λp hp=>(List.mem_filter.mp ((Bm hp).mpr (q p hp))).2;rw [this] at h;omega
     ·right;omega)
 rw [hS] at e;rw [o_] at s3;have st:Xc tl:=by
  rcases s3 with h | h
  ·exact h
  ·have:tl=[]:=List.length_eq_zero_iff.mp (by omega);subst this;intro p hp;cases hp
 refine ⟨tl,?_,s1,gV ?_⟩
 ·cases htl:tl with
  |nil=>
   left;subst htl;exact ⟨rfl,λp hp=>s2 p hp (by simp)⟩
  |cons q l=>
   right;rw [<-htl];refine ⟨by rw [htl];simp,by rw [htl];simp,λs hs=>?_⟩;obtain ⟨p,hp,rfl⟩:=List.mem_map.mp hs;obtain ⟨u,h1,h2⟩:=st p hp;exact ⟨p.2,s1.subset hp,u,h1,h2⟩
 ·show lZ [some (.d (.lst (us.map tD))),none,none,none] S=_;unfold lZ;simp! [K7];rw [show iW [.d (.lst (us.map tD))] S=some (us.map tD) from rfl];simp! [Ur];rw [show cH [.d (.lst (us.map tD))] S=.ok (.d (.int us.length)) S from by unfold cH;simp [A.dct]];simp!;rw [zx (by omega)];simp!;rw [e];simp!
end
end K13
namespace K13
open PySem L2 Y
open Y (bin)
open Wb
open Z (lim)
open YS (adds fU fB gq)
open K14 (Lp wg kI dD gW oG wu Fg rO)
open K17 (iJ kj Bw)
variable {S:aM}{c:Nat->Addr}{ts:List jx}{us:List Tu}{x0 y:Option A}
section
variable {k:Nat}{g:FG}{b:FS}{v:A}
theorem Qp {x:A}{xs:List A}{ρ ρ1:dH}(h1:g x ρ=some ρ1) (h2:b ρ1 S=.ok (.rt v) S):dW g b none (x::xs) ρ S=.ok (.rt v) S:=by
 unfold dW;rw [if_pos (show gH none S from trivial),h1];simp only [aR,ao,h2]
theorem CK (I:dH->Prop):∀(xs:List A) (p:Nat->Bool),(∀i x ρ,xs[i]?=some x->I ρ->∃ρ1,g x ρ=some ρ1/\((p i=true/\∃ρ2,I ρ2/\b ρ1 S=.ok (.nx ρ2) S)∨(p i=false/\b ρ1 S=.ok (.rt v) S)))->∀ρ,I ρ ->
  ((∀i,i < xs.length->p i=true)/\∃ρ',I ρ'/\dW g b none xs ρ S=.ok (.nx ρ') S)∨((∃i,i < xs.length/\p i=false)/\dW g b none xs ρ S=.ok (.rt v) S)
 |[],p,_,ρ,hI=>.inl ⟨λi h=>absurd h (zBV i),ρ,hI,kj⟩
 |x::xs,p,hb,ρ,hI=>by
  obtain ⟨ρ1,h1,⟨h2,ρ2,h3,h4⟩ | ⟨h2,h3⟩⟩:=hb 0 x ρ rfl hI
  ·rcases CK I xs (λi=>p (i+1)) (λi y ρ hy hI=>hb (i+1) y ρ hy hI) ρ2 h3 with ⟨q1,ρ',q2,q3⟩ | ⟨⟨i,q1,q2⟩,q3⟩
   ·refine .inl ⟨λi hi=>?_,ρ',q2,(iJ h1 h4).trans q3⟩;cases i with
    |zero=>exact h2
    |succ i=>exact q1 i (by simpa using hi)
   ·exact .inr ⟨⟨i+1,by simpa using q1,q2⟩,(iJ h1 h4).trans q3⟩
  ·exact .inr ⟨⟨0,by simp,h2⟩,Qp h1 h3⟩
abbrev ZC:FS:=(je (yN (lD (fP (aW bO (aj (var 2) au)))) (lD (fP (cal (nR true) (aj (gY (cC (var 3)) (gN 0) iy (aW bO (aj (var 0) au)) 1 []) au))))) (cj (cst (.str "name"))) bU)
abbrev lbE:FS:=(je (lD (fP (cal (nR true) (aj (gY (cC (var 3)) (gN 0) iy (bin (eE false) (var 0) (var 1)) 1 [1]) au)))) (cj (cst (.str "kind"))) bU)
abbrev u4:FS:=(aG (je (bZ (bin (oEq true) (aW iV (aj (var 0) au)) (dL (fV au)))) (cj (cst (.str "ring"))) bU) (cj (cst (.str "none"))))
abbrev u3:FS:=(aG (jf (cC (var 0)) (gT 2 (aH (gN 2) (aH (gN 3) bY))) lbE) u4)
abbrev u2:FS:=(aG (je (bZ (bin (oI Z.Nf) (mz (var 1)) (cal cH (aj (var 1) au)))) (cj (cst (.str "taken"))) bU) u3)
theorem Tv:jr=(aG (aP 1 (gY (cC (var 0)) g2 iy (var 0) 2 [])) (aG (jf (cC (var 0)) (gT 2 (aH (gN 2) (aH (gN 3) bY))) ZC) u2)):=rfl
theorem TX {p:jx}(h1:short p.1) (h2:∀o∈p.2,short o) (h3:p.2.length<=100) {x1:Option A}:ZC [x0,x1,some (.d p.1),some (.d (.lst p.2))] S=if isNm p.1&&p.2.all isNm then .ok (.nx [x0,x1,some (.d p.1),some (.d (.lst p.2))]) S else .ok (.rt (.d (.str "name"))) S:=by
 have key:=dG (fi:=cC (var 3)) (g:=gN 0) (t:=iy) (f:=aW bO (aj (var 0) au)) (n:=1) (js:=[]) (ρ:=[x0,x1,some (.d p.1),some (.d (.lst p.2))]) (S:=S) (S1:=S) (xs:=p.2.map A.d) (ck:=none)
  (λρ=>∃u,ρ=[u]) (λ_=>true) (λx=>match x with | .d y=>.bl (isNm y) | _=>.non) (by
   simp!) (λacc=>trivial) ⟨none,rfl⟩ (by
   rintro x hx ρ ⟨u,rfl⟩;obtain ⟨d,hd,rfl⟩:=List.mem_map.mp hx;refine ⟨_,rfl,⟨_,rfl⟩,λacc=>rfl,λ_ acc=>?_⟩;simp!;exact cQ (zA (h2 d hd) _)) (by simp;omega)
 have key2:gY (cC (var 3)) (gN 0) iy (aW bO (aj (var 0) au)) 1 [] [x0,x1,some (.d p.1),some (.d (.lst p.2))] S=.ok (.d (.lst (p.2.map λy=>.bl (isNm y)))) S:=by
  refine key.trans ?_;show R.ok _ _=_;congr 3;rw [List.filter_eq_self.mpr (λ_ _=>rfl),zAx];rfl
 simp!;rw [cQ (zA h1 S)];cases q:isNm p.1
 ·rfl
 ·simp! [Bool.true_and];rw [key2];simp!;rw [Er true (qL _ _)];have:(p.2.map isNm).all id=p.2.all isNm:=by rw [zBT];rfl
  rw [this];cases p.2.all isNm
  ·rfl
  ·rfl
theorem Ka (ts:List jx):(ts.map (·.1)++ts.flatMap (·.2)).all isNm=ts.all λp=>isNm p.1&&p.2.all isNm:=by
 induction ts with
 |nil=>rfl
 |cons p ts ih=>
  rw [zBY,<-ih,zAr,zCb];simp only [zBD,zBY,List.all_append];cases isNm p.1<;>cases p.2.all isNm<;>simp
theorem z6:∀(ss d:List Str),d.Nodup->(∀x∈d,x∈ss)->(∀x∈ss,x∈d)->ss.length<=d.length->ss.Nodup
 |[],_,_,_,_,_=>zBP
 |x::ss,d,nd,h1,h2,hl=>by
  rw [zAv] at hl;have hx:=h2 x zAm;by_cases c:x∈ss
  ·have:=iZ nd (m:=ss) λy hy=>by
    rcases zBv.mp (h1 y hy) with rfl | q
    ·exact c
    ·exact q
   omega
  ·refine List.nodup_cons.mpr ⟨c,z6 ss (d.erase x) (nd.erase x) (λy hy=>?_) (λy hy=>?_) ?_⟩
   ·rcases zBv.mp (h1 y (List.mem_of_mem_erase hy)) with rfl | q
    ·exact absurd hy (nd.not_mem_erase)
    ·exact q
   ·exact (List.mem_erase_of_ne (by rintro rfl;exact c hy)).mpr (h2 y (zAf _ hy))
   ·rw [List.length_erase_of_mem hx];omega
theorem wL (ss:List Str):((adds [] ss).length < ss.length)↔¬ss.Nodup:=by
 have n1:=gq ss [] zBP;have m1:∀x,x∈adds [] ss↔x∈ss:=λx=>by rw [fU];simp
 constructor
 ·intro h nd;have:=iZ nd (m:=adds [] ss) λx hx=>(m1 x).mpr hx;omega
 ·intro h;refine Nat.lt_of_not_le λq=>h (z6 ss _ n1 (λx hx=>(m1 x).mp hx) (λx hx=>(m1 x).mpr hx) q)
theorem NP (neg:Bool) (lf:List Tu) (S:aM):oEq neg (.d (.lst (lf.map tD))) (.d (.lst [])) S=.ok (.d (.bl (if neg then !decide (lf=[]) else decide (lf=[])))) S:=by
 have d:gC (lf.map tD)<=2:=by
  induction lf with
  |nil=>simp [gC]
  |cons p lf ih=>
   simp only [zAr,gC,tD,fX,pN];omega
 unfold oEq;simp only [qY];rw [if_pos (by simp only [fX];omega)];cases lf with
 |nil=>simp [cA,i_]
 |cons p lf=>simp [cA]
end
section
variable {k:Nat}
theorem Z2 {p:Tu}(ss:List Str) (h3:p.2.length<=100):lbE [x0,some (.d (.lst (ss.map .str))),some (.d (.str p.1)),some (.d (.lst (p.2.map .str)))] S=if (p.2.all λu=>decide (u∈ss))=true then .ok (.nx [x0,some (.d (.lst (ss.map .str))),some (.d (.str p.1)),some (.d (.lst (p.2.map .str)))]) S else .ok (.rt (.d (.str "kind"))) S:=by
 have key:=dG (fi:=cC (var 3)) (g:=gN 0) (t:=iy) (f:=(bin (eE false) (var 0) (var 1))) (n:=1) (js:=[1]) (ρ:=[x0,some (.d (.lst (ss.map .str))),some (.d (.str p.1)),some (.d (.lst (p.2.map .str)))]) (S:=S) (S1:=S) (xs:=(p.2.map D.str).map A.d) (ck:=none)
  (λρ=>∃u,ρ=[u,some (.d (.lst (ss.map .str)))]) (λ_=>true) (λx=>match x with | .d (.str s)=>.bl (decide (s∈ss)) | _=>.non) (by
   simp!) (λacc=>trivial) ⟨none,rfl⟩ (by
   rintro x hx ρ ⟨u,rfl⟩;rw [zAx] at hx;obtain ⟨w,hw,rfl⟩:=List.mem_map.mp hx;refine ⟨_,rfl,⟨_,rfl⟩,λacc=>rfl,λ_ acc=>?_⟩;simp! [Function.comp];rw [pR (fZ _ _) (by rintro i j ⟨_,h⟩;cases h),gP];rfl) (by simp;omega)
 have key2:gY (cC (var 3)) (gN 0) iy (bin (eE false) (var 0) (var 1)) 1 [1] [x0,some (.d (.lst (ss.map .str))),some (.d (.str p.1)),some (.d (.lst (p.2.map .str)))] S=.ok (.d (.lst (p.2.map λy=>.bl (decide (y∈ss))))) S:=by
  refine key.trans ?_;show R.ok _ _=_;congr 3;rw [List.filter_eq_self.mpr (λ_ _=>rfl),zAx,zAx];rfl
 simp!;rw [key2];simp!;rw [Er true (qL _ _)];have:(p.2.map λy=>decide (y∈ss)).all id=p.2.all λu=>decide (u∈ss):=by rw [zBT];rfl
 rw [this];cases p.2.all λu=>decide (u∈ss)
 ·rfl
 ·rfl
theorem YK {i:Nat}{x:A}(h:((ts.map bL).map A.d)[i]?=some x):∃p,ts[i]?=some p/\x=.d (bL p):=by
 rw [zAx,zAk] at h;obtain ⟨p,h1,rfl⟩:=Option.map_eq_some_iff.mp h;exact ⟨p,h1,rfl⟩
theorem Oc (hl:ts.length<=1000):jr [some (.d (.lst (ts.map bL))),none,none,none] S=(dW (gT 2 (aH (gN 2) (aH (gN 3) bY))) ZC none ((ts.map bL).map A.d) [some (.d (.lst (ts.map bL))),some (.d (.lst (ts.map (·.1)))),none,none] S).bind (t_ u2):=by
 have f1:=yc (fi:=cC (var 0)) (ρ:=[some (.d (.lst (ts.map bL))),none,none,none]) (S:=S) (ts:=ts) (by simp only [uY,var,zAg,zAi,ao,uR]) hl;rw [Tv];simp!;rw [f1];simp!
theorem WW {x:Option A}(ul:us.length<=29):u2 [some (.d (.lst (us.map tD))),some (.d (.lst ((us.map (·.1)).map .str))),x,y] S=if (us.map (·.1)).Nodup then u3 [some (.d (.lst (us.map tD))),some (.d (.lst ((us.map (·.1)).map .str))),x,y] S else .ok (.rt (.d (.str "taken"))) S:=by
 have ls:mz (var 1) [some (.d (.lst (us.map tD))),some (.d (.lst ((us.map (·.1)).map .str))),x,y] S=.ok (.d (.int ((adds [] (us.map (·.1))).length:Int))) S:=by
  unfold mz;simp only [var,zAg,zAi,ao];rw [show strsOf (.d (.lst ((us.map (·.1)).map .str))) S=some (us.map (·.1)) from Z.gj _];simp only [if_pos (show (us.map (·.1)).length < 4000 by simp;omega),aR]
 generalize eR:u3 [some (.d (.lst (us.map tD))),some (.d (.lst ((us.map (·.1)).map .str))),x,y] S=R0;simp!;rw [ls];simp!;rw [show cH [.d (.lst ((us.map (·.1)).map .str))] S=.ok (.d (.int (us.map (·.1)).length)) S from by unfold cH;simp [A.dct]];simp! [Z.Nf];by_cases nd:(us.map (·.1)).Nodup
 ·rw [if_pos nd,decide_eq_false (show ¬(((adds [] (us.map (·.1))).length:Int) < ((us.map (·.1)).length:Int)) from λh=>(wL _).mp (by omega) nd)];simp!;exact eR
 ·rw [if_neg nd,decide_eq_true (show (((adds [] (us.map (·.1))).length:Int) < ((us.map (·.1)).length:Int)) from by have:=(wL _).mpr nd;omega)];rfl
theorem Vg {x:Option A}:u3 [some (.d (.lst (us.map tD))),some (.d (.lst ((us.map (·.1)).map .str))),x,y] S=(dW (gT 2 (aH (gN 2) (aH (gN 3) bY))) lbE none ((us.map tD).map A.d) [some (.d (.lst (us.map tD))),some (.d (.lst ((us.map (·.1)).map .str))),x,y] S).bind (t_ u4):=by
 simp!
theorem V8 {x:Option A}{lf:List Tu}(el:iV [.d (.lst (us.map tD))] S=.ok (.d (.lst (lf.map tD))) S):u4 [some (.d (.lst (us.map tD))),some (.d (.lst ((us.map (·.1)).map .str))),x,y] S=.ok (.rt (.d (.str (if lf=[] then "none" else "ring")))) S:=by
 simp!;rw [cQ el];simp!;rw [NP];by_cases z:lf=[]
 ·rw [if_pos z,decide_eq_true z];rfl
 ·rw [if_neg z,decide_eq_false z];rfl
theorem sO {d:D}{w:Str}(h:jr [some (.d d),none,none,none] S=.ok (.rt (.d (.str w))) S):cF [.d d] S=.ok (.d (.str w)) S:=gV h
theorem S8 (F:q_ k ts) (hk:k<=4) (S:aM) :
  ((ts.map (·.1)++ts.flatMap (·.2)).all isNm=false->cF [.d (.lst (ts.map bL))] S=.ok (.d (.str "name")) S) /\
  (∀us:List Tu,ts=us.map mJ->(ts.map (·.1)++ts.flatMap (·.2)).all isNm=true ->
   (¬(us.map (·.1)).Nodup->cF [.d (.lst (ts.map bL))] S=.ok (.d (.str "taken")) S) /\
   ((us.map (·.1)).Nodup->¬(∀u∈us.flatMap (·.2),u∈us.map (·.1))->cF [.d (.lst (ts.map bL))] S=.ok (.d (.str "kind")) S) /\
   ((us.map (·.1)).Nodup->(∀u∈us.flatMap (·.2),u∈us.map (·.1))->(∀L,Lp us L->cF [.d (.lst (ts.map bL))] S=.ok (.d (.str "ring")) S)/\((∀p∈us,wg us p.1)->cF [.d (.lst (ts.map bL))] S=.ok (.d (.str "none")) S))):=by
 have hl:=F.len;have pre:=Oc (S:=S) (ts:=ts) (by omega);have w1:=CK (S:=S) (v:=.d (.str "name")) (g:=(gT 2 (aH (gN 2) (aH (gN 3) bY)))) (b:=ZC) (λρ=>∃x y,ρ=[some (.d (.lst (ts.map bL))),some (.d (.lst (ts.map (·.1)))),x,y]) ((ts.map bL).map A.d) (λi=>match ts[i]? with | some p=>isNm p.1&&p.2.all isNm | none=>true) (by
  rintro i x ρ hx ⟨u,v,rfl⟩;obtain ⟨p,hp,rfl⟩:=YK hx;have pm:=zAh hp;refine ⟨[some (.d (.lst (ts.map bL))),some (.d (.lst (ts.map (·.1)))),some (.d p.1),some (.d (.lst p.2))],rfl,?_⟩;rw [TX (F.nm p pm).short (λo ho=>(F.up p pm o ho).short) (by have:=F.sh p pm;omega)];simp only [hp];cases h:(isNm p.1&&p.2.all isNm)
  ·exact .inr ⟨rfl,rfl⟩
  ·exact .inl ⟨rfl,_,⟨_,_,rfl⟩,rfl⟩) [some (.d (.lst (ts.map bL))),some (.d (.lst (ts.map (·.1)))),none,none] ⟨none,none,rfl⟩
 rw [Ka];refine ⟨λh=>?_,λus hus hn=>?_⟩
 ·rcases w1 with ⟨q,_⟩ | ⟨_,q⟩
  ·exfalso;have:(ts.all λp=>isNm p.1&&p.2.all isNm)=true:=List.all_eq_true.mpr λp hp=>by
    obtain ⟨i,hi⟩:=zAS hp;have:=q i (by simpa using (List.getElem?_eq_some_iff.mp hi).1);simpa only [hi] using this
   rw [h] at this;cases this
  ·exact sO (pre.trans (by rw [q];rfl))
 ·obtain ⟨ρ',⟨x,y,rfl⟩,q⟩:∃ρ',(∃x y,ρ'=[some (.d (.lst (ts.map bL))),some (.d (.lst (ts.map (·.1)))),x,y])/\dW (gT 2 (aH (gN 2) (aH (gN 3) bY))) ZC none ((ts.map bL).map A.d) [some (.d (.lst (ts.map bL))),some (.d (.lst (ts.map (·.1)))),none,none] S=.ok (.nx ρ') S:=by
   rcases w1 with ⟨_,q⟩ | ⟨⟨i,q1,q2⟩,_⟩
   ·exact q
   ·exfalso;have hi:i < ts.length:=by simpa using q1
    rw [zAc hi] at q2;have:=List.all_eq_true.mp hn ts[i] (zBi hi);simp only at q2;rw [this] at q2;cases q2
  subst hus;rw [q,nu,Aw] at pre;rw [nu];have ul:us.length<=29:=by have:=hl;simp at this;omega
  have ush:∀p∈us,p.2.length<=100:=λp hp=>by
   have:=F.sh (mJ p) (zAG hp);simp [mJ] at this;omega
  have e2:=WW (S:=S) (x:=x) (y:=y) ul;have pre2:jr [some (.d (.lst (us.map tD))),none,none,none] S=if (us.map (·.1)).Nodup then u3 [some (.d (.lst (us.map tD))),some (.d (.lst ((us.map (·.1)).map .str))),x,y] S else .ok (.rt (.d (.str "taken"))) S:=by
   refine pre.trans ?_;rw [ao,fJ];exact e2
  have w2:=CK (S:=S) (v:=.d (.str "kind")) (g:=(gT 2 (aH (gN 2) (aH (gN 3) bY)))) (b:=lbE) (λρ=>∃x y,ρ=[some (.d (.lst (us.map tD))),some (.d (.lst ((us.map (·.1)).map .str))),x,y]) ((us.map tD).map A.d) (λi=>match us[i]? with | some p=>p.2.all λu=>decide (u∈us.map (·.1)) | none=>true) (by
   rintro i x ρ hx ⟨u,v,rfl⟩;rw [zAx,zAk] at hx;obtain ⟨p,hp,rfl⟩:=Option.map_eq_some_iff.mp hx;refine ⟨[some (.d (.lst (us.map tD))),some (.d (.lst ((us.map (·.1)).map .str))),some (.d (.str p.1)),some (.d (.lst (p.2.map .str)))],rfl,?_⟩;rw [Z2 _ (ush p (zAh hp))];simp only [hp];cases h:p.2.all λu=>decide (u∈us.map (·.1))
   ·exact .inr ⟨rfl,rfl⟩
   ·exact .inl ⟨rfl,_,⟨_,_,rfl⟩,rfl⟩) [some (.d (.lst (us.map tD))),some (.d (.lst ((us.map (·.1)).map .str))),x,y] ⟨x,y,rfl⟩
  have e3:=Vg (S:=S) (us:=us) (x:=x) (y:=y);refine ⟨λnd=>?_,λnd hup=>?_,λnd hup=>?_⟩
  ·rw [if_neg nd] at pre2;exact sO pre2
  ·rw [if_pos nd,e3] at pre2;rcases w2 with ⟨q,_⟩ | ⟨_,q⟩
   ·exfalso;refine hup λu hu=>?_;obtain ⟨p,hp,hu⟩:=List.mem_flatMap.mp hu;obtain ⟨i,hi⟩:=zAS hp;have:=q i (by simpa using (List.getElem?_eq_some_iff.mp hi).1);simp only [hi] at this;exact of_decide_eq_true (List.all_eq_true.mp this u hu)
   ·exact sO (by rw [q,ao,BZ] at pre2;exact pre2)
  ·rw [if_pos nd,e3] at pre2;have up':∀p∈us,∀o∈p.2,o∈us.map (·.1):=λp hp o ho=>hup o (List.mem_flatMap.mpr ⟨p,hp,ho⟩);obtain ⟨lf,hlf,_,el⟩:=T5 (S:=S) nd up' (by omega) ush;rcases w2 with ⟨_,ρ',⟨x',y',rfl⟩,q⟩ | ⟨⟨i,q1,q2⟩,_⟩
   ·rw [q,ao,fJ] at pre2;have e4:=V8 (x:=x') (y:=y') el;have fin:cF [.d (.lst (us.map tD))] S=.ok (.d (.str (if lf=[] then "none" else "ring"))) S:=sO (pre2.trans e4);refine ⟨λL hL=>?_,λgd=>?_⟩
    ·rw [fin];rcases hlf with ⟨h1,h2⟩ | ⟨h1,h2⟩
     ·exfalso;obtain ⟨s,hs⟩:∃s,s∈L:=by
       cases L with
       |nil=>exact absurd rfl hL.1
       |cons a l=>exact ⟨a,zAm⟩
      obtain ⟨vs,h3,_⟩:=hL.2 s hs;exact K14.wR nd hL s (h2 _ h3) hs
     ·rw [if_neg h1]
    ·rw [fin];rcases hlf with ⟨h1,h2⟩ | ⟨h1,h2⟩
     ·rw [if_pos h1]
     ·exfalso;obtain ⟨p,hp⟩:∃p,p∈lf:=by
       cases lf with
       |nil=>exact absurd rfl h1
       |cons a l=>exact ⟨a,zAm⟩
      have hm:=zAG (f:=(·.1)) hp;obtain ⟨vs,h3,_⟩:=h2.2 _ hm;exact K14.wR nd h2 _ (gd _ h3) hm
   ·exfalso;have hi:i < us.length:=by simpa using q1
    rw [zAc hi] at q2;simp only at q2;have:(us[i].2.all λu=>decide (u∈us.map (·.1)))=true:=List.all_eq_true.mpr λu hu=>decide_eq_true (up' _ (zBi hi) u hu);rw [this] at q2;cases q2
end
end K13
namespace K13
open PySem L2 Y
open Y (bin)
open Wb
open Z (lim jE)
open YS (adds fU fB gq)
open K14 (Lp wg kI dD gW oG wu Fg rO)
open K17 (iJ kj Bw fM jj xO yG S_)
variable {S:aM}
section
variable {c:Nat->Addr}{ts:List jx}{us:List Tu}{k:Nat}
theorem JC (up:∀u∈us.flatMap (·.2),u∈us.map (·.1)) (sh:∀p∈us,p.2.length<=100):(∀p∈dZ us,∀o∈p.2,o∈(dZ us).map (·.1))/\(∀p∈dZ us,p.2.length<=100):=by
 rw [gW];refine ⟨λp hp o ho=>?_,λp hp=>?_⟩
 ·obtain ⟨q,hq,rfl⟩:=oG hp;exact up o (List.mem_flatMap.mpr ⟨q,hq,(yu _ _).mp ho⟩)
 ·obtain ⟨q,hq,rfl⟩:=oG hp;have:=Q0 q.2;have:=sh q hq;show (jE (adds [] q.2)).length<=100;omega
theorem WK {T S2:aM}{x y:A}{ρ:dH}(e:ini (noNames c) c [some x,some y,none,none,none] T=.ok (.nx ρ) S2):web c [x,y] T=.ok (.d .non) S2:=by
 have e0:web c [x,y] T=(ini (noNames c) c [some x,some y,none,none,none] T).bind λc S'=>match c with
   |.rt z=>Nh T z S'
   |.nx _=>Nh T (.d .non) S'
   |_=>.no:=rfl
 rw [e0,e,ao];rfl
theorem Q9 (nd:(us.map (·.1)).Nodup) (up:∀u∈us.flatMap (·.2),u∈us.map (·.1)) (few:us.length<=29) (sh:∀p∈us,p.2.length<=100)
  (e:ini (noNames c) c [some (.p S.length),some (.d (.lst (ts.map bL))),none,none,none] (S++[.ins (c 0) []])=(K17.bI c [.p (S.length+1)] (S++[.ins (c 0) [("straight", .p (S.length+1))],.dic (gG (dZ us))])).bind (vC (c 0) "above" (var 0) (Bw S.length us))) :
  ((∀p∈us,wg us p.1)/\∃S2,web c [.p S.length,.d (.lst (ts.map bL))] (S++[.ins (c 0) []])=.ok (.d .non) S2) ∨
  ∃(q:List Str) (S2:aM) (L:List Str),dD us q/\Lp us L/\web c [.p S.length,.d (.lst (ts.map bL))] (S++[.ins (c 0) []])=.ex ⟨c 9,[("ring", .d (.lst (q.map .str)))]⟩ S2:=by
 obtain ⟨g3,g4⟩:=JC up sh;have l2:(S++[dY.ins (c 0) [("straight", .p (S.length+1))],dY.dic (gG (dZ us))]).length=S.length+2:=by simp
 rw [show K17.bI c=K14.bI (c 0) (c 9) from rfl] at e;rcases kI (S:=S++[.ins (c 0) [("straight", .p (S.length+1))],.dic (gG (dZ us))]) (j:=S.length+1) (c 0) (c 9) (by rw [gW];exact nd) (by unfold dZ;simpa using few) g3 g4 (W5 (S:=S) _ [.dic (gG (dZ us))] 0) with ⟨dn,T,st,hdn,gd,ea⟩ | ⟨q,T,L,hq,lp,ea⟩
 ·rw [ea] at e;rw [ao,Rk (C:=c 0) (fs:=[("straight", .p (S.length+1))]) (k:=S.length) rfl (by rw [zAC];exact aX _ _) (by simp)] at e;refine .inl ⟨λp hp=>wu (gd p.1 (by rw [gW];exact zAG (f:=(·.1)) hp)),_,WK e⟩
 ·rw [ea,yh] at e;exact .inr ⟨q,_,L,rO hq,Fg lp,fM e⟩
theorem Mf (F:q_ k ts) (hk:k<=4):(ts.flatMap (·.2)).length<=10000:=by
 have:∀l:List jx,(∀p∈l,p.2.length<=30)->(l.flatMap (·.2)).length<=30 * l.length:=λl=>by
  induction l with
  |nil=>intro _;simp
  |cons a l ih=>
   intro h;have h1:=h a zAm;have h2:=ih λp hp=>h p (zAf _ hp);rw [zCb,zAy,zAv];omega
 have:=this ts λp hp=>by have:=F.sh p hp;omega
 have:=F.len;omega
theorem both (F : q_ k ts) (hk : k ≤ 4) (S S' : aM) : ∃ w : Str, cF [.d (.lst (ts.map bL))] S' = .ok (.d (.str w)) S' ∧
    ((w = "none" ∧ ∃ S2, web c [.p S.length, .d (.lst (ts.map bL))] (S ++ [.ins (c 0) []]) = .ok (.d .non) S2) ∨
     (∃ i S2, (i = 1 ∧ w = "name" ∨ i = 2 ∧ w = "taken" ∨ i = 3 ∧ w = "kind") ∧ web c [.p S.length, .d (.lst (ts.map bL))] (S ++ [.ins (c 0) []]) = .ex ⟨c i, []⟩ S2) ∨
     (w = "ring" ∧ ∃ (us : List Tu) (q : List Str) (S2 : aM), ts.map bL = us.map tD ∧ (us.map (·.1)).Nodup ∧ us.length ≤ 29 ∧ dD us q ∧ web c [.p S.length, .d (.lst (ts.map bL))] (S ++ [.ins (c 0) []]) = .ex ⟨c 9, [("ring", .d (.lst (q.map .str)))]⟩ S2)) := by
  have hl := F.len;obtain ⟨d1, d2⟩ := S8 F hk S';rcases T6 (S := S) (c := c) (ts := ts) (by omega) (λp hp => by have := F.sh p hp; omega) (Mf F hk) (λd hd => by
    rcases List.mem_append.mp hd with h | h
    · obtain ⟨p, hp, rfl⟩ := List.mem_map.mp h
      exact ⟨(F.nm p hp).short, (F.nm p hp).bv (by omega)⟩
    · obtain ⟨p, hp, h⟩ := List.mem_flatMap.mp h
      exact ⟨(F.up p hp d h).short, (F.up p hp d h).bv (by omega)⟩) with ⟨n, e⟩ | ⟨n, us, hus, h⟩
  · exact ⟨_, d1 n, .inr (.inl ⟨1, _, .inl ⟨rfl, rfl⟩, e⟩)⟩
  · obtain ⟨t1, t2, t3⟩ := d2 us hus n
    have ul : us.length ≤ 29 := by rw [hus] at hl; simp at hl; omega
    have ush : ∀ p ∈ us, p.2.length ≤ 100 := λp hp => by
      have := F.sh (mJ p) (by rw [hus]; exact zAG hp);simp [mJ] at this; omega
    rcases h with ⟨nd, e⟩ | ⟨nd, up, e⟩ | ⟨nd, up, e⟩
    · exact ⟨_, t1 nd, .inr (.inl ⟨2, _, .inr (.inl ⟨rfl, rfl⟩), e⟩)⟩
    · exact ⟨_, t2 nd up, .inr (.inl ⟨3, _, .inr (.inr ⟨rfl, rfl⟩), e⟩)⟩
    · obtain ⟨r1, r2⟩ := t3 nd up
      rcases Q9 nd up ul ush e with ⟨gd, S2, ew⟩ | ⟨q, S2, L, hq, hL, ew⟩
      · exact ⟨_, r2 gd, .inl ⟨rfl, S2, ew⟩⟩
      · exact ⟨_, r1 L hL, .inr (.inr ⟨rfl, us, q, S2, by rw [hus, nu], nd, ul, hq, ew⟩)⟩
def wd (i:Nat):Str:=if i=1 then "name" else if i=2 then "taken" else if i=3 then "kind" else "ring"
theorem Uh {bs:List Bool}(hb:bs.length<=12) {x0 x2:Option A}:gY (cC (var 1)) (gN 0) (fP (var 0)) (var 0) 1 [] [x0,some (.d (.lst (bs.map .bl))),x2] S=.ok (.d (.lst ((bs.filter id).map .bl))) S:=by
 have key:=dG (fi:=cC (var 1)) (g:=gN 0) (t:=fP (var 0)) (f:=var 0) (n:=1) (js:=[]) (ρ:=[x0,some (.d (.lst (bs.map .bl))),x2]) (S:=S) (S1:=S) (xs:=(bs.map D.bl).map A.d) (ck:=none)
  (λρ=>∃u,ρ=[u]) (λx=>match x with | .d (.bl b)=>b | _=>false) (λx=>match x with | .d y=>y | _=>.non) (by
   simp!) (λacc=>trivial) ⟨none,rfl⟩ (by
   rintro x hx ρ ⟨u,rfl⟩;rw [zAx] at hx;obtain ⟨b,hb,rfl⟩:=List.mem_map.mp hx;exact ⟨_,rfl,⟨_,rfl⟩,λacc=>rfl,λ_ acc=>rfl⟩) (by simp;omega)
 refine key.trans ?_;show R.ok _ _=_;congr 3;rw [zAx,List.filter_map,zAx];rfl
theorem Jk (ms:List Bool):(ms.map D.bl).all (Z.oX (.bl true))=true:=by
 rw [zBT];exact List.all_eq_true.mpr λx _=>by simp [Z.oX,fX,cA]
theorem YG (ms:List Bool):eE false (.d (.bl true)) (.d (.lst (ms.map .bl))) S=.ok (.d (.bl (ms.any id))) S:=by
 rw [pR (Jk ms) (by rintro i j ⟨h,_⟩;cases h)];have:Z.inD (.bl true) (ms.map .bl)=ms.any id:=by
  unfold Z.inD;rw [List.any_map];congr 1;funext b;cases b<;>simp [cA]
 rw [this];rfl
theorem aay (bs:List Bool):qM (.d (.lst (bs.map .bl))) [.d (.bl true)] S=match bs.findIdx? id with
  |some j=>.ok (.d (.int j)) S
  |none=>.no:=by
 unfold qM;simp only [qY];rw [if_pos (Jk bs)];have:(bs.map D.bl).findIdx? (λe=>decide (cA e (.bl true)=some true))=bs.findIdx? id:=by
  rw [List.findIdx?_map];congr 1;funext b;cases b<;>simp [cA]
 rw [this];try (cases bs.findIdx? id<;>rfl)
theorem Dq (nd:(ks c).Nodup) {i:Nat}(hi:i=1∨i=2∨i=3∨i=9) {j:Nat}{fs:List (Str×A)}(h:S[j]?=some (.exc (c i) fs)):h_ c [.p j] S=.ok (.d (.str (wd i))) S:=by
 have hi1:1<=i:=by omega
 have hi2:i<=12:=by omega
 have dc:∀j,1<=j->j<=12->decide (c i=c j)=decide (i=j):=λj h1 h2=>by
  rw [zBc,decide_eq_true_iff,decide_eq_true_iff];exact yG (c:=c) nd i j hi1 hi2 h1 h2
 have iX:=xO (c:=c) hi1 hi2 h;refine gV ?_;show jt c [some (.p j),none,none] S=_;unfold jt;simp! [iX,S_,wz,xX];rw [wB (by simp)];simp! [zBD,zCk];rw [dc 1 (by omega) (by omega),dc 2 (by omega) (by omega),dc 3 (by omega) (by omega),dc 9 (by omega) (by omega),dc 4 (by omega) (by omega),dc 5 (by omega) (by omega),dc 10 (by omega) (by omega),dc 6 (by omega) (by omega),dc 7 (by omega) (by omega),dc 11 (by omega) (by omega),dc 8 (by omega) (by omega),dc 12 (by omega) (by omega)];rw [show ([D.bl (decide (i=1)),D.bl (decide (i=2)),D.bl (decide (i=3)),D.bl (decide (i=9))])=([decide (i=1),decide (i=2),decide (i=3),decide (i=9)]).map D.bl from rfl,show ([D.bl (decide (i=10)),D.bl (decide (i=8)),D.bl (decide (i=6)),D.bl (decide (i=12)),D.bl (decide (i=5)),D.bl (decide (i=11)),D.bl (decide (i=4)),D.bl (decide (i=7))])=([decide (i=10),decide (i=8),decide (i=6),decide (i=12),decide (i=5),decide (i=11),decide (i=4),decide (i=7)]).map D.bl from rfl,YG];have m0:([decide (i=10),decide (i=8),decide (i=6),decide (i=12),decide (i=5),decide (i=11),decide (i=4),decide (i=7)]).any id=false:=by rcases hi with rfl | rfl | rfl | rfl<;>rfl
 have m1:(([decide (i=1),decide (i=2),decide (i=3),decide (i=9)]).filter id).length=1:=by rcases hi with rfl | rfl | rfl | rfl<;>rfl
 have m2:∃j:Nat,([decide (i=1),decide (i=2),decide (i=3),decide (i=9)]).findIdx? id=some j/\([D.str "name", D.str "taken", D.str "kind", D.str "ring"])[j]?=some (.str (wd i)):=by
  rcases hi with rfl | rfl | rfl | rfl
  ·exact ⟨0,rfl,rfl⟩
  ·exact ⟨1,rfl,rfl⟩
  ·exact ⟨2,rfl,rfl⟩
  ·exact ⟨3,rfl,rfl⟩
 generalize ([decide (i=10),decide (i=8),decide (i=6),decide (i=12),decide (i=5),decide (i=11),decide (i=4),decide (i=7)])=ms at m0;have b4:([decide (i=1),decide (i=2),decide (i=3),decide (i=9)]).length<=12:=(show 4<=12 by decide);generalize ([decide (i=1),decide (i=2),decide (i=3),decide (i=9)])=bs at m1 m2 b4;obtain ⟨q,q1,q2⟩:=m2;rw [m0];simp!;rw [Uh b4];simp!;rw [show cH [.d (.lst ((bs.filter id).map .bl))] S=.ok (.d (.int ((bs.filter id).length:Int))) S from by unfold cH;simp [A.dct],m1];simp!;rw [show (((1:Nat):Int)==1)=true from rfl];simp! [iX,S_];rw [show Sq "list" qM (aj (cst (.bl true)) au) [some (.p j),some (.d (.lst (bs.map .bl))),some (.d (.lst (ms.map .bl)))] (.d (.lst (bs.map .bl))) S=qM (.d (.lst (bs.map .bl))) [.d (.bl true)] S from rfl,aay,q1];simp!;rw [qQ (oN q2)];rfl
end
end K13
namespace K13
open PySem L2 Y
open Y (bin)
open Wb
open Z (lim jE)
open YS (adds fU fB gq)
open K14 (Lp wg dD)
variable {S:aM}{c:Nat->Addr}{ts:List jx}{us:List Tu}{q:List Str}{w:Str}{x0 x2:Option A}{j:Nat}
section
variable {k:Nat}
theorem Oo {al:List Tu}{s:Str}{fs:List Str}(h:s∉al.map (·.1)):pv (gG al) (.inr s) (.d (.lst (fs.map .str)))=gG (al++[(s,fs)]):=by
 rw [xU (by rw [p7];exact λc=>h (nM.mp c))];unfold gG;rw [zBo];rfl
theorem Eo:∀(ts dn:List Tu),((dn++ts).map (·.1)).Nodup->(ts.map λp=>((.inr p.1:Key),A.d (.lst (p.2.map .str)))).foldl (λacc p=>pv acc p.1 p.2) (gG dn)=gG (dn++ts)
 |[],dn,_=>by simp
 |p::ts,dn,nd=>by
  rw [zAr,zBq,Oo (λc=>by
   rw [zBo,List.nodup_append] at nd;exact nd.2.2 p.1 c p.1 (by simp) rfl),Eo ts (dn++[(p.1,p.2)]) (by simpa using nd)]
  simp
theorem Yb {ρ:dH}{f:FE}{ts:List Tu}(hf:f ρ S=.ok (.d (.lst (ts.map tD))) S) (nd:(ts.map (·.1)).Nodup) (hl:ts.length<=1000):Pq f ρ S=.ok (.p S.length) (S++[.dic (gG ts)]):=by
 have e:∀ts:List Tu,qF (ts.map tD)=some (ts.map λp=>((.inr p.1:Key),D.lst (p.2.map .str))):=λts=>by
  induction ts with
  |nil=>rfl
  |cons p ts ih=>rw [zAr,zAr];unfold tD;show (qF (ts.map tD)).map _=_;rw [ih];rfl
 unfold Pq;rw [hf];simp only [ao,A.sh,e];rw [if_pos (by rw [zAn];exact hl)];have:=Eo ts [] (by simpa using nd);unfold Rb;rw [zAx];congr 4
theorem Ob (h:dD us q):∀s∈q,s∈us.map (·.1):=λs hs=>by
 obtain ⟨i,hi⟩:=zAS hs;have il:=(List.getElem?_eq_some_iff.mp hi).1;obtain ⟨b,hb⟩:∃b,(q.drop 1++q.take 1)[i]?=some b:=⟨_,zAc (by rw [zAy,zBC,zAW];omega)⟩;obtain ⟨us,h1,_⟩:=h.nx i s b hi hb;exact zAG (f:=(·.1)) h1
theorem Np (tl:List Tu) (s:Str):Bo (gG tl) s=decide (s∈tl.map (·.1)):=by
 rw [zBc,Ai,p7,decide_eq_true_iff];exact nM
abbrev lbQ:FS:=(je (yN (bZ (bin (eE true) (var 3) (var 2))) (bZ (bin (eE true) (var 4) (bin fK (var 2) (var 3))))) (cj (cst (.bl false))) bU)
theorem GF (nd:(us.map (·.1)).Nodup) (few:us.length<=29) (h:dD us q):gU [.d (.lst (q.map .str)),.d (.lst (us.map tD))] S=.ok (.d (.bl true)) S:=by
 have ql:q.length<=29:=by
  have:=iZ h.nd (Ob h);simp at this;omega
 have qn:q≠[]:=h.ne;have hj:(S++[dY.dic (gG us)])[S.length]?=some (.dic (gG us)):=aX [] _;obtain ⟨ρ',S',e,a,b,rfl,hS⟩:=gK (g:=(gT 2 (aH (gN 3) (aH (gN 4) bY)))) (b:=lbQ) (ck:=none) (xs:=yV ((q.map D.str).map A.d) (((q.drop 1++q.take 1).map D.str).map A.d))
  (λi ρ S'=>∃(a b:Option A),ρ=[some (.d (.lst (q.map .str))),some (.d (.lst (us.map tD))),some (.p S.length),a,b]/\S'=S++[.dic (gG us)])
  (ρ:=[some (.d (.lst (q.map .str))),some (.d (.lst (us.map tD))),some (.p S.length),none,none]) (S:=S++[.dic (gG us)]) ⟨none,none,rfl,rfl⟩ (λ_ _ _ _=>trivial) (by
   rintro i x ρ S2 hx ⟨a,b,rfl,rfl⟩;obtain ⟨u,v,h1,h2,rfl⟩:=Du hx;rw [zAx,zAk] at h1 h2;obtain ⟨a',ha,rfl⟩:=Option.map_eq_some_iff.mp h1;obtain ⟨b',hb,rfl⟩:=Option.map_eq_some_iff.mp h2;obtain ⟨vs,u1,u2⟩:=h.nx i a' b' ha hb;refine ⟨_,_,_,rfl,?_,some (.d (.str a')),some (.d (.str b')),rfl,rfl⟩;simp!;rw [Jf hj,Np,decide_eq_true (zAG (f:=(·.1)) u1)];simp!;rw [vN hj (sI nd u1)];simp!;rw [pR (fZ _ _) (by rintro i j ⟨_,h⟩;cases h),gP,decide_eq_true u2];simp!)
 rw [hS] at e;refine rY (T:=[.dic (gG us)]) ?_;show jB [some (.d (.lst (q.map .str))),some (.d (.lst (us.map tD))),none,none,none] S=_;have dd:=Yb (S:=S) (f:=var 1) (ρ:=[some (.d (.lst (q.map .str))),some (.d (.lst (us.map tD))),none,none,none]) rfl nd (by omega);generalize S++[dY.dic (gG us)]=T at *;have oi:yx "list" (.d (.lst (q.map .str))) T=.ok (.d (.bl true)) T:=by
  unfold yx Jz;simp [CZ]
 have ls:mz (var 0) [some (.d (.lst (q.map .str))),some (.d (.lst (us.map tD))),some (.p S.length),none,none] T=.ok (.d (.int (q.length:Int))) T:=by
  unfold mz;simp only [var,zAi,ao];rw [show strsOf (.d (.lst (q.map .str))) T=some q from Z.gj q];have as:(adds [] q).length=q.length:=by
   have h1:=wL q;have h2:=iZ (l:=adds [] q) (m:=q) (gq q [] zBP) λx hx=>by
    have:=(fU q [] x).mp hx;simpa using this
   have h3:¬(adds [] q).length < q.length:=λz=>h1.mp z h.nd;omega
  simp only [if_pos (show q.length < 4000 by omega),as,aR]
 have ol:cH [.d (.lst (q.map .str))] T=.ok (.d (.int q.length)) T:=by unfold cH;simp [A.dct]
 unfold jB;simp!;rw [dd];simp!;rw [oi];simp!;rw [xM,decide_eq_false qn];simp!;rw [ls];simp!;rw [ol];simp! [beq_self_eq_true,WD,wz,Dv,Dy,wJ,xg,um,Bl,uy,MJ,xX];have d1:Z.cutD (q.map D.str) (some 1) none=(q.drop 1).map .str:=by
  unfold Z.cutD;rw [HT.mG,show ((1:Int))=((1:Nat):Int) from rfl,HT.pK];have:0 < q.length:=List.length_pos_iff.mpr qn;rw [zAn,Nat.min_eq_left (by omega),List.map_drop];exact zBj (by simp)
 have d2:Z.cutD (q.map D.str) none (some 1)=(q.take 1).map .str:=by
  rw [show ((1:Int))=((1:Nat):Int) from rfl,Jr,List.map_take]
 rw [d1,d2,wB (by simp;omega)];simp! [<-zBo,TY];rw [e];simp!
end
theorem aaA {ts:List Tu}(g:Good ts):q_ 0 (ts.map mJ):=by
 have nm:∀s:Str,Nm s->Gd 0 (.str s):=λs h=>.str (by have:=h.hi;omega) λc hc=>by have:=(h.Fz c hc).2;omega
 refine ⟨by simpa using g.few,λp hp=>?_,λp hp=>?_,λp hp o ho=>?_⟩
 ·obtain ⟨q,hq,rfl⟩:=List.mem_map.mp hp;simpa [mJ] using g.sh q hq
 ·obtain ⟨q,hq,rfl⟩:=List.mem_map.mp hp;exact nm _ (g.nm q hq)
 ·obtain ⟨q,hq,rfl⟩:=List.mem_map.mp hp;obtain ⟨u,hu,rfl⟩:=List.mem_map.mp (show o∈q.2.map D.str from ho);obtain ⟨r,hr,e⟩:=List.mem_map.mp (g.up q hq u hu);rw [<-e];exact nm _ (g.nm r hr)
abbrev suite (c:Nat->Addr):FS:=(aG (aP 5 (aW (h_ c) (aj (var 6) au))) (je (Bd (fP (un (jV (ks c) (λa=>decide (a=(c 9)))) (var 6))) (lD (fP (aW gU (aj (un (vJ (c 9) "ring") (var 6)) (aj (var 1) au)))))) (cj (cst (.bl false))) bU))
abbrev last:FS:=(cj (Qn (bin (oEq false) (var 5) (var 4)) (bin (oEq false) (var 3) (var 1))))
abbrev v3 (c:Nat->Addr):FS:=(aG (mD (λa=>decide (a∈rs c)) (c 0) 6 (λρ _=>ρ) (cD c) (aj (var 3) au) (suite c)) last)
abbrev v2 (c:Nat->Addr):FS:=(aG (aP 3 (gY (cC (var 1)) g2 iy (iU (aj (var 0) (aj (dL (oO iW (aj (var 1) au))) au))) 2 [])) (aG (aP 4 (aW cF (aj (var 1) au))) (aG (aP 5 (cst (.str "none"))) (v3 c))))
abbrev lbM:FS:=(aP 1 (aW iM (aj (var 1) (aj (aW cu (aj (var 0) (aj (bin dh (cst (.int 50)) (var 2)) au))) au))))
theorem Ve (c:Nat->Addr):Lk c=(aG (aP 1 (aW iQ (aj (var 0) au))) (aG (jf (Pa (bin (oI Z.bH) (bin (oI Z.dz) (aW cU (aj (var 0) (aj (cst (.int 0)) au))) (cst (.int 50))) (cst (.int 5)))) (gN 2) lbM) (v2 c))):=rfl
section
variable {k:Nat}
theorem xR (F:q_ k ts) (hk:k<=4) {x6:Option A}:last [x0,some (.d (.lst (ts.map bL))),x2,some (.d (.lst (ts.map bL))),some (.d (.str w)),some (.d (.str w)),x6] S=.ok (.rt (.d (.bl true))) S:=by
 have e1:oEq false (.d (.str w)) (.d (.str w)) S=.ok (.d (.bl true)) S:=by unfold oEq;simp [fX,cA]
 have e2:oEq false (.d (.lst (ts.map bL))) (.d (.lst (ts.map bL))) S=.ok (.d (.bl true)) S:=by
  have d:=z7 F.nm F.up;unfold oEq;simp only [qY];rw [if_pos (by simp only [fX];omega),show cA (.lst (ts.map bL)) (.lst (ts.map bL))=some true from by simp [cA,Qt F.nm F.up]];rfl
 simp! [Qn,e1,A.Ag,Z.D.Ag,e2]
theorem Kv (nd:(ks c).Nodup) {i:Nat}(hi:i=1∨i=2∨i=3) (h:S[j]?=some (.exc (c i) [])) {x1 x3 x4 x5:Option A}:suite c [x0,x1,x2,x3,x4,x5,some (.p j)] S=.ok (.nx [x0,x1,x2,x3,x4,some (.d (.str (wd i))),some (.p j)]) S:=by
 have w:=Dq nd (by omega) h;have iX:=K17.xO (c:=c) (by omega) (by omega) h;have nr:decide (c i=c 9)=false:=decide_eq_false λq=>by
  have:=(K17.yG (c:=c) nd i 9 (by omega) (by omega) (by omega) (by omega)).mp q;omega
 simp!;rw [cQ w];simp! [Rp];rw [iX,nr];simp! [UG]
theorem Hr (nd:(ks c).Nodup) (un:(us.map (·.1)).Nodup) (few:us.length<=29) (hq:dD us q) (h:S[j]?=some (.exc (c 9) [("ring", .d (.lst (q.map .str)))])) {x3 x4 x5:Option A}:suite c [x0,some (.d (.lst (us.map tD))),x2,x3,x4,x5,some (.p j)] S=.ok (.nx [x0,some (.d (.lst (us.map tD))),x2,x3,x4,some (.d (.str (wd 9))),some (.p j)]) S:=by
 have w:=Dq nd (by omega) h;have iX:=K17.xO (c:=c) (i:=9) (by omega) (by omega) h;have hr:=GF (S:=S) un few hq;have ex:vJ (c 9) "ring" (.p j) S=.ok (.d (.lst (q.map .str))) S:=by
  unfold vJ;simp only [h,if_true];rfl
 simp!;rw [cQ w];simp! [Rp];rw [iX,decide_eq_true rfl];simp! [VH];rw [ex];simp!;rw [cQ hr];simp!
theorem Ym (nd : (ks c).Nodup) (F : q_ k ts) (hk : k ≤ 4) (h : (w = "none" ∧ ∃ S2, web c [.p 0, .d (.lst (ts.map bL))] [.ins (c 0) []] = .ok (.d .non) S2) ∨
     (∃ i S2, (i = 1 ∧ w = "name" ∨ i = 2 ∧ w = "taken" ∨ i = 3 ∧ w = "kind") ∧ web c [.p 0, .d (.lst (ts.map bL))] [.ins (c 0) []] = .ex ⟨c i, []⟩ S2) ∨
     (w = "ring" ∧ ∃ (us : List Tu) (q : List Str) (S2 : aM), ts.map bL = us.map tD ∧ (us.map (·.1)).Nodup ∧ us.length ≤ 29 ∧ dD us q ∧ web c [.p 0, .d (.lst (ts.map bL))] [.ins (c 0) []] = .ex ⟨c 9, [("ring", .d (.lst (q.map .str)))]⟩ S2)) :
    ∃ T, v3 c [x0, some (.d (.lst (ts.map bL))), x2, some (.d (.lst (ts.map bL))), some (.d (.str w)), some (.d (.str "none")), none] [] = .ok (.rt (.d (.bl true))) T := by
  have fa : ∀ S : aM, aj (var 3) au [x0, some (.d (.lst (ts.map bL))), x2, some (.d (.lst (ts.map bL))), some (.d (.str w)), some (.d (.str "none")), none] S = .ok [.d (.lst (ts.map bL))] S := λ_ => rfl;have tm : ∀ {i : Nat}, (i = 1 ∨ i = 2 ∨ i = 3 ∨ i = 9) → decide (c i ∈ rs c) = true := λhi => decide_eq_true (by
    rcases hi with rfl | rfl | rfl | rfl <;> simp)
  have try_ : ∀ {C : Addr} {fs : List (Str × A)} {S2 : aM} {ρ' : dH}, web c [.p 0, .d (.lst (ts.map bL))] [.ins (c 0) []] = .ex ⟨C, fs⟩ S2 → decide (C ∈ rs c) = true → suite c [x0, some (.d (.lst (ts.map bL))), x2, some (.d (.lst (ts.map bL))), some (.d (.str w)), some (.d (.str "none")), some (.p S2.length)] (S2 ++ [.exc C fs]) = .ok (.nx ρ') (S2 ++ [.exc C fs]) →
      mD (λa => decide (a ∈ rs c)) (c 0) 6 (λρ _ => ρ) (cD c) (aj (var 3) au) (suite c) [x0, some (.d (.lst (ts.map bL))), x2, some (.d (.lst (ts.map bL))), some (.d (.str w)), some (.d (.str "none")), none] [] = .ok (.nx (ρ'.set 6 none)) (S2 ++ [.exc C fs]) := λ{C fs S2 ρ'} hw hC hs => by
    unfold mD;rw [fa, fY];have hw' : cD c [.p ([] : aM).length, .d (.lst (ts.map bL))] ([] ++ [.ins (c 0) []]) = .ex ⟨C, fs⟩ S2 := hw;simp only [hw', hC, if_true, zAL, zAU];rw [hs];rfl
  rcases h with ⟨rfl, S2, hw⟩ | ⟨i, S2, hi, hw⟩ | ⟨rfl, us, q, S2, e1, un, few, hq, hw⟩
  · refine ⟨S2, ?_⟩
    have e : mD (λa => decide (a ∈ rs c)) (c 0) 6 (λρ _ => ρ) (cD c) (aj (var 3) au) (suite c) [x0, some (.d (.lst (ts.map bL))), x2, some (.d (.lst (ts.map bL))), some (.d (.str "none")), some (.d (.str "none")), none] [] = .ok (.nx [x0, some (.d (.lst (ts.map bL))), x2, some (.d (.lst (ts.map bL))), some (.d (.str "none")), some (.d (.str "none")), none]) S2 := by
      unfold mD;rw [fa, fY];have hw' : cD c [.p ([] : aM).length, .d (.lst (ts.map bL))] ([] ++ [.ins (c 0) []]) = .ok (.d .non) S2 := hw;simp only [hw']
    unfold v3;rw [gQ, e, ao, fJ];exact xR F hk
  · have hi' : i = 1 ∨ i = 2 ∨ i = 3 := by omega
    have hwd : wd i = w := by rcases hi with ⟨rfl, rfl⟩ | ⟨rfl, rfl⟩ | ⟨rfl, rfl⟩ <;> rfl
    refine ⟨S2 ++ [.exc (c i) []], ?_⟩;have e := try_ hw (tm (by omega)) (Kv nd hi' (aX [] _));unfold v3;rw [gQ, e, ao, fJ, hwd];exact xR F hk
  · refine ⟨S2 ++ [.exc (c 9) [("ring", .d (.lst (q.map .str)))]], ?_⟩
    have hs := Hr (S := S2 ++ [.exc (c 9) [("ring", .d (.lst (q.map .str)))]]) (c := c) nd un few hq (j := S2.length) (aX [] _) (x0 := x0) (x2 := x2) (x3 := some (.d (.lst (ts.map bL)))) (x4 := some (.d (.str "ring"))) (x5 := some (.d (.str "none")));rw [← e1] at hs;have e := try_ hw (tm (by omega)) hs;unfold v3;rw [gQ, e, ao, fJ];exact xR F hk
end
theorem main (c:Nat->Addr) (ns:List Int) (nd:(ks c).Nodup) (hn:ns.length<=63):∃S,J3 c [.d (.lst (ns.map .int))] []=.ok (.d (.bl true)) S:=by
 obtain ⟨t0,g,e0⟩:=Gk ns hn [];have h0:=zBb (pk ns 0 / 50) (show (5:Int)≠0 by decide);have h1:=zAP (pk ns 0 / 50) (show (0:Int) < 5 by decide);obtain ⟨m,hm⟩:∃m:Nat,pk ns 0 / 50 % 5=(m:Int):=⟨(pk ns 0 / 50 % 5).toNat,by omega⟩;have hm4:m<=4:=by omega
 obtain ⟨ρ',S',e,ts,x,F,rfl,rfl⟩:=gK (g:=gN 2) (b:=lbM) (ck:=none) (xs:=rng 0 m)
  (λi ρ S'=>∃(ts:List jx) (x:Option A),q_ i ts/\ρ=[some (.d (.lst (ns.map .int))),some (.d (.lst (ts.map bL))),x,none,none,none,none]/\S'=[])
  (ρ:=[some (.d (.lst (ns.map .int))),some (.d (.lst (t0.map tD))),none,none,none,none,none]) (S:=[]) ⟨t0.map mJ,none,aaA g,by rw [nu],rfl⟩ (λ_ _ _ _=>trivial) (by
   rintro i x ρ S2 hx ⟨ts,y,F,rfl,rfl⟩;obtain ⟨hi,rfl⟩:=pH hx;obtain ⟨us,F2,es⟩:=HN F (by omega) (num ns (50+i)) [];have en:=qw ns hn (50+i) (by omega) [];rw [show ((50+i:Nat):Int)=50+(i:Int) from by omega] at en;refine ⟨_,_,_,rfl,?_,us,some (.d (.int i)),F2,rfl,rfl⟩;simp! only [ou,qG,cT,dU,fQ,cW,var,zAL,zAU,zAg,zAi,ao,lK,dg,mV];rw [cQ en];simp! only [ao,lK,dU];rw [cQ es];simp! only [ao,n_,zAL,zAU])
 rw [o_] at F;obtain ⟨w,ew,hb⟩:=both (c:=c) F hm4 [] [];obtain ⟨T,e3⟩:=Ym (x0:=some (.d (.lst (ns.map .int)))) (x2:=x) nd F hm4 hb;have hl:=F.len;have r1:=z_ (fi:=cC (var 1)) (ρ:=[some (.d (.lst (ns.map .int))),some (.d (.lst (ts.map bL))),x,none,none,none,none]) (S:=[]) (ts:=ts) (by simp only [uY,var,zAg,zAi,ao,uR]) (by omega);have e2:v2 c [some (.d (.lst (ns.map .int))),some (.d (.lst (ts.map bL))),x,none,none,none,none] []=.ok (.rt (.d (.bl true))) T:=by
  unfold v2;rw [gQ,ou,r1];simp! only [ao,n_,fJ,zAL,zAU];rw [gQ,ou,qG];simp! only [cT,dU,var,zAg,zAi,ao,lK];rw [cQ ew];simp! only [ao,n_,fJ,zAL,zAU];rw [gQ,ou];simp! only [cW,ao,n_,fJ,zAL,zAU];exact e3
 have fin:Lk c [some (.d (.lst (ns.map .int))),none,none,none,none,none,none] []=.ok (.rt (.d (.bl true))) T:=by
  rw [Ve];generalize hv:v2 c=V at e2;simp! only [gQ,ou,qG,cT,dU,var,zAg,zAi,ao,lK];rw [cQ e0];simp! only [ao,n_,fJ,zAL,zAU,gQ,yZ,Ur,fQ,qG,cT,dU,cW,var,zAg,zAi,lK];rw [cQ (yd ns hn 0 [])];simp! only [ao,dg,cW,Dj,Z.dz,Z.bH];rw [if_pos (by decide)];simp! only [aR,ao,dg,cW,Dj,Z.bH];rw [if_pos (by decide)];simp! only [aR,ao,hm];rw [zx (by omega)];simp! only [ao,tR];rw [e];simp! only [ao,fJ];exact e2
 exact ⟨[],rY (S:=[]) (T:=T) fin⟩
end K13
open PySem PySem.W PyProof.Rows
set_option maxRecDepth 100000 in
set_option maxHeartbeats 0 in
theorem PySem.Challenge.cw_fitmost_k13_refused_in_order_holds : PySem.Challenge.rw_fitmost_k13_refused_in_order.Holds := by
  w_on; o_law
  refine holds_open (q := K13.Q) (loose := []) (Xt := K13.Xt) (XP := XL K13.Q []) (Yf := Hook.obs (YH.hook K13.obs (K13.fv, true))) (Ya := Hook.val (YH.hook K13.obs (K13.fv, true))) (YP := Hook.says (YH.hook K13.obs (K13.fv, true))) (N := 100000) K13.left (Hook.of (YH.hook K13.obs (K13.fv, true))) (Hook.keeps (YH.hook K13.obs (K13.fv, true))) (λs e => xl_of s (Bool.and_eq_true_iff.mp e).1) XL.keeps (by rfl) (by rfl) (by rfl) (λs e => recFacts_of (Bool.and_eq_true_iff.mp e).2) (by rfl) (by first | assumption | decide +kernel) (by decide +kernel) ⟨rfl, rfl, rfl, rfl, rfl, by decide +kernel⟩ ?hw ?hc
  case hw => w_witness2
  case hc => exact K13.walk rfl rfl K13.main
