import PyProof.Rows.All
import Wide.All
import OpenK.AllK
import Wide.FinOn
import Lean
import PyProof.EqAt
import PyProof.EqKinds
import PyProof.TupleCall
import PyProof.Draws
import PyProof.ZipIter
import PyProof.DictIter
import PyProof.NeKinds
import KE.KSortTup
import PyProof.Rows.SortShell
import PyProof.TupleIter
import PyProof.MinMaxWalk
import PyProof.ListNew
import KE.KRevIter
import PyProof.AutoListH
import PyProof.DictUpdate
import PyProof.ExcInit
import PyProof.ExcClass3
import PyProof.InstStore
import PyProof.ExcArgsOwn
import PyProof.InstStoreFacts
import PyProof.InstLoad
import PyProof.ExcAttrAll.ValueError
import PyProof.ExcBaseAll.ValueError
import PyProof.RulesAs
import PyProof.NsDelKeeps
import PyProof.Rows.SetFrom
import PyProof.Rows.SortStr
import PyProof.CollectWalk
import PyProof.CompUse
import PyProof.AttrMissHeap
import KE.KDictOf
import PyProof.SetRoads
import PyProof.IsiBase
import PyProof.ReprStr
import PyProof.Rows.FStr
import PyProof.ReprRoads
import PyProof.ReprNest
import PyProof.ReprHeadsTuple
import PyProof.StrCalls
import PyProof.StrOps2
import PyProof.CallStr
import KE.KIntText
import PyProof.MeetsStr
import PyProof.JoinWalk
import PySem.Challenge.RW_fitmost_k31_numbers_written
section
namespace XH
end XH
namespace L2
end L2
namespace HT
end HT
namespace Att
end Att
namespace MX
end MX
namespace Z
end Z
namespace XE
end XE
namespace Y
end Y
namespace YS
end YS
namespace YD
end YD
namespace K31
end K31
namespace YH
end YH
namespace Wb
end Wb
set_option Elab.async false
set_option linter.all false
set_option maxRecDepth 100000
set_option maxHeartbeats 4000000
set_option genSizeOfSpec false
namespace L2
open PySem PySem.Spec PyProof.Rows
noncomputable def inClass (s:Stmt) (j:Nat):Stmt:=match s with
 |.ClassDef _ _ _ body _ _ _ _ _ _ _=>body.getD j (.Pass ⟨0,0,0,0⟩)
 |_=>.Pass ⟨0,0,0,0⟩
noncomputable def defArgs (s:Stmt):Arguments:=match s with
 |.FunctionDef _ a _ _ _ _ _ _ _ _=>a
 |_=>{ posonlyargs:=[],args:=[],vararg:=none,kwonlyargs:=[],kw_defaults:=[],kwarg:=none,defaults:=[] }
noncomputable def defBody (s:Stmt):List Stmt:=match s with
 |.FunctionDef _ _ b _ _ _ _ _ _ _=>b
 |_=>[]
noncomputable def defScope (s:Stmt):Scope:=match s with
 |.FunctionDef _ _ _ _ _ _ sc _ _ _=>sc
 |_=>{ kind:=.function,names:=[],isGenerator:=false,isCoroutine:=false }
end L2
namespace L2
open PySem PySem.Spec PyProof.Rows
noncomputable abbrev veM:List Value:=[.type "ValueError", .type "Exception", .type "BaseException", .type "object"]
end L2
namespace L2
open PySem PySem.Spec PyProof.Rows
open PySem.W (nsOkIn nsIn)
noncomputable def tailNIn (K:PySem.W.Frag) (ns:List Str) (bmB:List Value):List Value->Bool
 |[]=>bmB==[]
 |v::r=>(v::r)==bmB||match v with
  |.ref A=>(match K.lookup A with
   |some ⟨_,_,.cls cd,_⟩=>nsOkIn K cd.ns&&ns.all (fun n=>nsIn K cd.ns n==some none)&&tailNIn K ns bmB r
   |_=>false)
  |_=>false
noncomputable def xclB (K:PySem.W.Frag) (C:Addr) (ns:List Str) (ini:Option Addr):Bool:=PySem.W.keepIn K (.ref C)&&match K.lookup C with
 |some ⟨.type "type", _,.cls cd,sl⟩=>(match cd.mro,sl.toList with
  |.ref C'::bm,[_,_,_,_,some (.builtin n),_]=>C'==C&&n == "ValueError.__new__" && !cd.hasDel&&cd.hasDict&&tailNIn K ("__init__" :: ns) veM bm&&nsOkIn K cd.ns&&ns.all (fun m=>nsIn K cd.ns m==some none)&&nsIn K cd.ns "__init__" == some (ini.map Value.ref)
  |_,_=>false)
 |_=>false
noncomputable def xsubB (K:PySem.W.Frag) (C D:Addr):Bool:=match K.lookup C with
 |some ⟨_,_,.cls cd,_⟩=>cd.mro.contains (.ref D)
 |_=>false
end L2
namespace YH
open PySem PySem.W L2
noncomputable def kOf (h:Heap):Frag:=(List.range h.objs.size).filterMap fun a=>(h.get? a).map fun o=>(a,o)
theorem lookup_mem {K:Frag}{a:Addr}{o:Obj}(e:K.lookup a=some o):(a,o)∈K:=by
 induction K with
 |nil=>cases e
 |cons p K ih=>
  obtain ⟨b,u⟩:=p
  rw [List.lookup_cons] at e
  by_cases c:(a==b)=true
  ·rw [c] at e
   have e1:u=o:=Option.some.inj e
   have e2:a=b:=beq_iff_eq.mp c
   rw [e1,e2];exact List.mem_cons_self
  ·rw [Bool.not_eq_true] at c
   rw [c] at e
   exact List.mem_cons_of_mem _ (ih e)
theorem kOf_in (h:Heap):(kOf h).In h:=fun a o e=>by
 obtain ⟨b,_,q⟩:=List.mem_filterMap.mp (lookup_mem e)
 obtain ⟨u,hu,q2⟩:=Option.map_eq_some_iff.mp q
 cases q2
 exact hu
noncomputable def hook {α:Type}(obs:Frag->α) (val:α):Hook:=⟨α,fun s=>obs (kOf s.heap),fun _=>val,fun _ h=>∃K:Frag,K.In h/\obs K=val,fun _ s e=>⟨kOf s.heap,kOf_in _,e⟩,fun _ _ _ ⟨K,x,e⟩ k=>⟨K,x.keeps k,e⟩⟩
noncomputable def fnN (fd:FuncData):FuncData:={ fd with kwdefaults:=.none,doc:=.none,pyModule:=.none,annotations:=none,code:=.none,closureTuple:=.none }
noncomputable def fdAt (K:Frag) (f:Addr):FuncData:=match K.lookup f with
 |some ⟨_,_,.func fd,_⟩=>fd
 |_=>default
noncomputable def fnAt (K:Frag) (f:Addr):Option FuncData:=match K.lookup f with
 |some ⟨_,_,.func fd,_⟩=>some (fnN fd)
 |_=>none
noncomputable def fnV (x q:Str) (st:Stmt):Option FuncData:=some (fnOf x q (defArgs st) (defBody st) (defScope st) .none .none .none .none none .none .none)
noncomputable def cdB (K:Frag) (f:Addr) (q:Str):Bool:=codeIn K (fdAt K f).code q&&keepIn K (.ref f)
noncomputable def gA (K:Frag) (x:Str):Addr:=match nsIn K mainGlobals x with
 |some (some (.ref a))=>a
 |_=>0
noncomputable def mA (K:Frag) (C:Addr) (n:Str):Addr:=match findIn K (.ref C) n with
 |some (some (.ref a))=>a
 |_=>0
noncomputable def glB (K:Frag) (x:Str):Bool:=match nsIn K mainGlobals x with
 |some (some (.ref _))=>true
 |_=>false
noncomputable def noB (K:Frag) (x:Str):Bool:=match nsIn K mainGlobals x with
 |some none=>true
 |_=>false
noncomputable def strB (K:Frag) (x z:Str):Bool:=match nsIn K mainGlobals x with
 |some (some (.str y _))=>decide (y=z)
 |_=>false
noncomputable def intB (K:Frag) (x:Str) (z:Int):Bool:=match nsIn K mainGlobals x with
 |some (some (.int y _))=>decide (y=z)
 |_=>false
noncomputable def kxB (K:Frag) (ks:List Addr) (ns:List Str):Bool:=ks.all fun a=>xclB K a ns none||xclB K a ns (some (mA K a "__init__"))
noncomputable def isB (K:Frag) (ks:List Addr) (c:Value) (isD:Addr->Bool):Bool:=ks.all fun a=>kitOne K (.ref a) c==some (isD a)
noncomputable def ctB (K:Frag) (rs:List Addr) (D:Addr) (ns:List Str):Bool:=kxB K rs ns&&rs.all fun a=>xsubB K a D
noncomputable def topRunT (tb:String->Option Builtin) (p:Program) (w:World) (n₀:Nat) (ann:Option Value):Nat->SharedT->Thread->Option SharedT
 |0,_,_=>none
 |n+1,s,t=>match through t with
  |true=>some s
  |false=>match stepOk n₀ ann t with
   |false=>none
   |true=>match stepT (denote tb) p w s t with
    |some (s',t')=>topRunT tb p w n₀ ann n s' t'
    |none=>none
theorem topRun_of {tb:String->Option Builtin}{p:Program}{w:World}{n₀:Nat}{ann:Option Value}:∀{n:Nat}{s s':SharedT}{t:Thread},topRunT tb p w n₀ ann n s t=some s'->topRun tb p w n₀ ann n s.abs t=some s'.abs
 |0,_,_,_,h=>by cases h
 |n+1,s,s',t,h=>by
  unfold topRunT at h
  unfold topRun
  cases he:through t with
  |true=>rw [he] at h;cases h;rfl
  |false=>
   rw [he] at h
   cases hk:stepOk n₀ ann t with
   |false=>rw [hk] at h;cases h
   |true=>
    rw [hk] at h
    cases hs:stepT (denote tb) p w s t with
    |none=>rw [hs] at h;cases h
    |some r=>obtain ⟨s₂,t₂⟩:=r;rw [hs] at h;rw [stepT_spec hs];exact topRun_of h
noncomputable def bootT (P:Params):BT:=((((((((((BT.nil.ins 0 (boot_o_0 P)).ins 1 (boot_o_1 P)).ins 2 (boot_o_2 P)).ins 3 (boot_o_3 P)).ins 4 (boot_o_4 P)).ins 5 (boot_o_5 P)).ins 6 (boot_o_6 P)).ins 7 (boot_o_7 P)).ins 8 (boot_o_8 P)).ins 9 (boot_o_9 P)).ins 10 (boot_o_10 P)
theorem boot_abs (P:Params):absHeap (bootT P) 11 {}=boot_heap P:=by kernel_rfl
theorem boot_look (P:Params):((boot_heap P).isNs mainGlobals,(boot_heap P).objs.size,(boot_heap P).nsMap mainGlobals "__annotations__")=(true,11,some (Value.ref 6)):=by kernel_rfl
theorem left_of {p q:Program}{loose:List Str}{Xt:Shared->Bool}{α:Type}{Yf:Shared->α}{Ya:World->α}{N:Nat}(e:opening p=plainProg p.main.scope.names) (hN:Nat.ble 600 N=true) (f:∀s,fenceModules? p s=some s)
  (h:∀(w:World) (os:OsState),(topRunT treeTable p w 11 (some (Value.ref 6)) N ⟨bootT w.params,11,{},Array.mk [],boot_drawn,boot_toks,os⟩ (topStub p)).map (fun s=>((staticsOk (importedModules p.main.body) (boot_heap w.params) s.abs.heap&&namesBound p s.abs.heap&&gensDone s.abs&&laidKept (boot_heap w.params) s.abs.heap),openSeen q loose (importedModules p.main.body) Xt true s.abs,Yf s.abs))=some (true,openGood q loose,Ya w)):LeftO p q loose Xt Yf Ya N:=fun w=>by
 obtain ⟨⟨h1,g1,d1,k1,os⟩,hs,hv⟩:=Option.map_eq_some_iff.mp (boot_open e hN f w)
 simp only [Prod.mk.injEq] at hv
 obtain ⟨rfl,rfl,rfl,rfl⟩:=hv
 obtain ⟨s',hr,hq⟩:=Option.map_eq_some_iff.mp (h w os)
 simp only [Prod.mk.injEq] at hq
 obtain ⟨q1,q2,q3⟩:=hq
 have bl:=boot_look w.params
 simp only [Prod.mk.injEq] at bl
 obtain ⟨b1,b2,b3⟩:=bl
 have run:=topRun_of hr
 have ab:(SharedT.abs ⟨bootT w.params,11,{},Array.mk [],boot_drawn,boot_toks,os⟩)=⟨boot_heap w.params,Array.mk [],boot_drawn,boot_toks,os⟩:=by
  unfold SharedT.abs
  rw [boot_abs]
 rw [ab] at run
 unfold openEnds
 rw [hs]
 show (topFrom treeTable p w N ⟨boot_heap w.params,Array.mk [],boot_drawn,boot_toks,os⟩).map _=_
 unfold topFrom
 simp only [b1,b2,b3,run,Option.bind_some,q1]
 show some (openSeen q loose (importedModules p.main.body) Xt true s'.abs,Yf s'.abs)=some _
 rw [q2,q3]
noncomputable def nameRow:Stmt->Bool
 |.Assign [.Name x _] _ _=>x==("__name__" : Str)
 |_=>false
noncomputable def viewOf (p:Program):Program:={ p with main:={ p.main with body:=p.main.body.filter fun s=>!nameRow s } }
end YH
namespace YH
open PySem PySem.W L2 PySem.Spec PyProof.Rows
noncomputable def isTB (K:Frag) (ks cs:List Addr) (isD:Addr->Bool):Bool:=ks.all fun a=>kitAny K (.ref a) (cs.map Value.ref)==some (isD a)
end YH
namespace K31
open PySem L2 Y
noncomputable def top (i:Nat):Stmt:=PySem.Challenge.pw_fitmost_k31_numbers_written.main.body.getD i (.Pass ⟨0,0,0,0⟩)
noncomputable abbrev nx:List Str:=["ring", "one", "other", "function", "body", "line", "__setattr__", "__getattribute__", "__getattr__", "__class__"]
noncomputable abbrev s0:Stmt:=top 19
noncomputable abbrev s1:Stmt:=top 20
noncomputable abbrev s2:Stmt:=top 21
noncomputable abbrev s3:Stmt:=top 23
noncomputable abbrev s4:Stmt:=top 25
noncomputable abbrev s5:Stmt:=top 26
noncomputable abbrev s6:Stmt:=top 27
noncomputable abbrev s7:Stmt:=top 28
noncomputable abbrev s8:Stmt:=top 30
noncomputable abbrev s9:Stmt:=top 31
noncomputable abbrev s10:Stmt:=top 32
noncomputable abbrev s11:Stmt:=top 33
noncomputable abbrev s12:Stmt:=top 34
noncomputable abbrev s13:Stmt:=top 35
noncomputable abbrev s14:Stmt:=top 36
noncomputable abbrev s15:Stmt:=top 37
noncomputable abbrev s16:Stmt:=top 38
noncomputable abbrev s17:Stmt:=top 39
noncomputable abbrev s18:Stmt:=top 40
noncomputable abbrev s19:Stmt:=inClass (top 5) 0
noncomputable abbrev s20:Stmt:=inClass (top 8) 0
noncomputable abbrev s21:Stmt:=inClass (top 11) 0
noncomputable abbrev s22:Stmt:=inClass (top 13) 0
open YH PySem.W
noncomputable def fl (K:Frag):List (Option FuncData):=[fnAt K (gA K "is_written"),fnAt K (gA K "read_number"),fnAt K (gA K "show_number"),fnAt K (gA K "full"),fnAt K (gA K "reaches"),fnAt K (gA K "spans_formed"),fnAt K (gA K "end_sum"),fnAt K (gA K "spans_sum"),fnAt K (gA K "_law_cell"),fnAt K (gA K "_law_take"),fnAt K (gA K "_law_number"),fnAt K (gA K "_law_shown"),fnAt K (gA K "_law_writes"),fnAt K (gA K "_law_spoiled"),fnAt K (gA K "_law_word_of"),fnAt K (gA K "_law_read"),fnAt K (gA K "_law_right"),fnAt K (gA K "_law_great"),fnAt K (gA K "law"),fnAt K (mA K (gA K "Ring") "__init__"),fnAt K (mA K (gA K "Alike") "__init__"),fnAt K (mA K (gA K "NoTerm") "__init__"),fnAt K (mA K (gA K "NoLine") "__init__")]
noncomputable def fv:List (Option FuncData):=[fnV "is_written" "is_written" s0,fnV "read_number" "read_number" s1,fnV "show_number" "show_number" s2,fnV "full" "full" s3,fnV "reaches" "reaches" s4,fnV "spans_formed" "spans_formed" s5,fnV "end_sum" "end_sum" s6,fnV "spans_sum" "spans_sum" s7,fnV "_law_cell" "_law_cell" s8,fnV "_law_take" "_law_take" s9,fnV "_law_number" "_law_number" s10,fnV "_law_shown" "_law_shown" s11,fnV "_law_writes" "_law_writes" s12,fnV "_law_spoiled" "_law_spoiled" s13,fnV "_law_word_of" "_law_word_of" s14,fnV "_law_read" "_law_read" s15,fnV "_law_right" "_law_right" s16,fnV "_law_great" "_law_great" s17,fnV "law" "law" s18,fnV "__init__" "Ring.__init__" s19,fnV "__init__" "Alike.__init__" s20,fnV "__init__" "NoTerm.__init__" s21,fnV "__init__" "NoLine.__init__" s22]
noncomputable def bl (K:Frag):List Bool:=[glB K "NoName", glB K "Taken", glB K "NoKind", glB K "NoText", glB K "NoPlaces", glB K "NoBody", glB K "TooMany", glB K "Held", glB K "Ring", glB K "Alike", glB K "NoTerm", glB K "NoLine", glB K "FitError", glB K "is_written", glB K "read_number", glB K "show_number", glB K "full", glB K "reaches", glB K "spans_formed", glB K "end_sum", glB K "spans_sum", glB K "_law_cell", glB K "_law_take", glB K "_law_number", glB K "_law_shown", glB K "_law_writes", glB K "_law_spoiled", glB K "_law_word_of", glB K "_law_read", glB K "_law_right", glB K "_law_great", glB K "law", strB K "FIGURES" "0123456789", intB K "MOST_FIGURES" 60,intB K "BLOCK_FIGURES" 60,intB K "BLOCK" 1000000000000000000000000000000000000000000000000000000000000,xclB K (gA K "Ring") nx (some (mA K (gA K "Ring") "__init__")),isFn K (.ref (mA K (gA K "Ring") "__init__")),xclB K (gA K "Alike") nx (some (mA K (gA K "Alike") "__init__")),isFn K (.ref (mA K (gA K "Alike") "__init__")),xclB K (gA K "NoTerm") nx (some (mA K (gA K "NoTerm") "__init__")),isFn K (.ref (mA K (gA K "NoTerm") "__init__")),xclB K (gA K "NoLine") nx (some (mA K (gA K "NoLine") "__init__")),isFn K (.ref (mA K (gA K "NoLine") "__init__")),xclB K (gA K "NoName") nx none,xclB K (gA K "Taken") nx none,xclB K (gA K "NoKind") nx none,xclB K (gA K "NoText") nx none,xclB K (gA K "NoPlaces") nx none,xclB K (gA K "NoBody") nx none,xclB K (gA K "TooMany") nx none,xclB K (gA K "Held") nx none,xclB K (gA K "FitError") nx none,kxB K [gA K "NoName", gA K "Taken", gA K "NoKind", gA K "NoText", gA K "NoPlaces", gA K "NoBody", gA K "TooMany", gA K "Held", gA K "Ring", gA K "Alike", gA K "NoTerm", gA K "NoLine"] nx,isB K [gA K "NoName", gA K "Taken", gA K "NoKind", gA K "NoText", gA K "NoPlaces", gA K "NoBody", gA K "TooMany", gA K "Held", gA K "Ring", gA K "Alike", gA K "NoTerm", gA K "NoLine"] (.ref (gA K "NoName")) (fun a=>decide (a=(gA K "NoName"))),isB K [gA K "NoName", gA K "Taken", gA K "NoKind", gA K "NoText", gA K "NoPlaces", gA K "NoBody", gA K "TooMany", gA K "Held", gA K "Ring", gA K "Alike", gA K "NoTerm", gA K "NoLine"] (.ref (gA K "Taken")) (fun a=>decide (a=(gA K "Taken"))),isB K [gA K "NoName", gA K "Taken", gA K "NoKind", gA K "NoText", gA K "NoPlaces", gA K "NoBody", gA K "TooMany", gA K "Held", gA K "Ring", gA K "Alike", gA K "NoTerm", gA K "NoLine"] (.ref (gA K "NoKind")) (fun a=>decide (a=(gA K "NoKind"))),isB K [gA K "NoName", gA K "Taken", gA K "NoKind", gA K "NoText", gA K "NoPlaces", gA K "NoBody", gA K "TooMany", gA K "Held", gA K "Ring", gA K "Alike", gA K "NoTerm", gA K "NoLine"] (.ref (gA K "NoText")) (fun a=>decide (a=(gA K "NoText"))),isB K [gA K "NoName", gA K "Taken", gA K "NoKind", gA K "NoText", gA K "NoPlaces", gA K "NoBody", gA K "TooMany", gA K "Held", gA K "Ring", gA K "Alike", gA K "NoTerm", gA K "NoLine"] (.ref (gA K "NoPlaces")) (fun a=>decide (a=(gA K "NoPlaces"))),isB K [gA K "NoName", gA K "Taken", gA K "NoKind", gA K "NoText", gA K "NoPlaces", gA K "NoBody", gA K "TooMany", gA K "Held", gA K "Ring", gA K "Alike", gA K "NoTerm", gA K "NoLine"] (.ref (gA K "NoBody")) (fun a=>decide (a=(gA K "NoBody"))),isB K [gA K "NoName", gA K "Taken", gA K "NoKind", gA K "NoText", gA K "NoPlaces", gA K "NoBody", gA K "TooMany", gA K "Held", gA K "Ring", gA K "Alike", gA K "NoTerm", gA K "NoLine"] (.ref (gA K "TooMany")) (fun a=>decide (a=(gA K "TooMany"))),isB K [gA K "NoName", gA K "Taken", gA K "NoKind", gA K "NoText", gA K "NoPlaces", gA K "NoBody", gA K "TooMany", gA K "Held", gA K "Ring", gA K "Alike", gA K "NoTerm", gA K "NoLine"] (.ref (gA K "Held")) (fun a=>decide (a=(gA K "Held"))),isB K [gA K "NoName", gA K "Taken", gA K "NoKind", gA K "NoText", gA K "NoPlaces", gA K "NoBody", gA K "TooMany", gA K "Held", gA K "Ring", gA K "Alike", gA K "NoTerm", gA K "NoLine"] (.ref (gA K "Ring")) (fun a=>decide (a=(gA K "Ring"))),isB K [gA K "NoName", gA K "Taken", gA K "NoKind", gA K "NoText", gA K "NoPlaces", gA K "NoBody", gA K "TooMany", gA K "Held", gA K "Ring", gA K "Alike", gA K "NoTerm", gA K "NoLine"] (.ref (gA K "Alike")) (fun a=>decide (a=(gA K "Alike"))),isB K [gA K "NoName", gA K "Taken", gA K "NoKind", gA K "NoText", gA K "NoPlaces", gA K "NoBody", gA K "TooMany", gA K "Held", gA K "Ring", gA K "Alike", gA K "NoTerm", gA K "NoLine"] (.ref (gA K "NoTerm")) (fun a=>decide (a=(gA K "NoTerm"))),isB K [gA K "NoName", gA K "Taken", gA K "NoKind", gA K "NoText", gA K "NoPlaces", gA K "NoBody", gA K "TooMany", gA K "Held", gA K "Ring", gA K "Alike", gA K "NoTerm", gA K "NoLine"] (.ref (gA K "NoLine")) (fun a=>decide (a=(gA K "NoLine"))),isB K [gA K "NoName", gA K "Taken", gA K "NoKind", gA K "NoText", gA K "NoPlaces", gA K "NoBody", gA K "TooMany", gA K "Held", gA K "Ring", gA K "Alike", gA K "NoTerm", gA K "NoLine"] (.ref (gA K "FitError")) (fun _=>true),isB K [gA K "NoName", gA K "Taken", gA K "NoKind", gA K "NoText", gA K "NoPlaces", gA K "NoBody", gA K "TooMany", gA K "Held", gA K "Ring", gA K "Alike", gA K "NoTerm", gA K "NoLine"] (.type "ValueError") (fun _=>true),isTB K [gA K "NoName", gA K "Taken", gA K "NoKind", gA K "NoText", gA K "NoPlaces", gA K "NoBody", gA K "TooMany", gA K "Held", gA K "Ring", gA K "Alike", gA K "NoTerm", gA K "NoLine"] [gA K "Alike", gA K "Held", gA K "NoBody", gA K "NoLine", gA K "NoPlaces", gA K "NoTerm"] (fun a=>decide (a∈[gA K "Alike", gA K "Held", gA K "NoBody", gA K "NoLine", gA K "NoPlaces", gA K "NoTerm"])),ctB K [gA K "NoText"] (gA K "FitError") nx,decide (List.Nodup [gA K "NoName", gA K "Taken", gA K "NoKind", gA K "NoText", gA K "NoPlaces", gA K "NoBody", gA K "TooMany", gA K "Held", gA K "Ring", gA K "Alike", gA K "NoTerm", gA K "NoLine"]),cdB K (gA K "is_written") "is_written", cdB K (gA K "read_number") "read_number", cdB K (gA K "show_number") "show_number", cdB K (gA K "full") "full", cdB K (gA K "reaches") "reaches", cdB K (gA K "spans_formed") "spans_formed", cdB K (gA K "end_sum") "end_sum", cdB K (gA K "spans_sum") "spans_sum", cdB K (gA K "_law_cell") "_law_cell", cdB K (gA K "_law_take") "_law_take", cdB K (gA K "_law_number") "_law_number", cdB K (gA K "_law_shown") "_law_shown", cdB K (gA K "_law_writes") "_law_writes", cdB K (gA K "_law_spoiled") "_law_spoiled", cdB K (gA K "_law_word_of") "_law_word_of", cdB K (gA K "_law_read") "_law_read", cdB K (gA K "_law_right") "_law_right", cdB K (gA K "_law_great") "_law_great", cdB K (gA K "law") "law", cdB K (mA K (gA K "Ring") "__init__") "Ring.__init__", cdB K (mA K (gA K "Alike") "__init__") "Alike.__init__", cdB K (mA K (gA K "NoTerm") "__init__") "NoTerm.__init__", cdB K (mA K (gA K "NoLine") "__init__") "NoLine.__init__", noB K "ValueError", noB K "abs", noB K "all", noB K "bool", noB K "divmod", noB K "int", noB K "isinstance", noB K "len", noB K "list", noB K "max", noB K "min", noB K "range", noB K "reversed", noB K "sorted", noB K "str", noB K "tuple"]
noncomputable def obs (K:Frag):List (Option FuncData)×Bool:=(fl K,(bl K).all id)
noncomputable def Q:Program:=viewOf PySem.Challenge.pw_fitmost_k31_numbers_written
noncomputable def Xt (s:Shared):Bool:=xlAt Q [] s&&recOk (RowW.records PySem.Challenge.rw_fitmost_k31_numbers_written.row.toRowW) s
theorem op:opening PySem.Challenge.rw_fitmost_k31_numbers_written.row.prog=plainProg PySem.Challenge.rw_fitmost_k31_numbers_written.row.prog.main.scope.names:=by kernel_rfl
theorem left : LeftO PySem.Challenge.rw_fitmost_k31_numbers_written.row.prog Q ["BLOCK"] Xt (Hook.obs (hook obs (fv, true))) (Hook.val (hook obs (fv, true))) 100000 := by
 refine left_of op rfl (fun _ => rfl) ?_
 intro w os
 kernel_rfl
end K31
open PySem PySem.W PyProof.Rows
end
set_option Elab.async false
set_option linter.all false
set_option maxRecDepth 100000
set_option maxHeartbeats 4000000
namespace XH
open PySem
noncomputable def HdAt (A:Around) (fp:List Addr) (hp:Heap):Prop:=A.handled=none∨∃h oh vs,A.handled=some (.ref h)/\hp.get? h=some oh/\oh.data=.fields vs/\vs[2]?=some .none/\h∉fp
section
variable {A:Around}{fp fp':List Addr}{s s':Heap}
theorem HdAt.in1 (h:HdAt A fp s):HdAt A.in1 fp s:=h
theorem HdAt.keep (h:HdAt A fp s) (k:∀b o,b∉fp->s.get? b=some o->s'.get? b=some o):HdAt A fp s':=by
 rcases h with h | ⟨a,oh,vs,h1,h2,h3,h4,h5⟩
 ·exact .inl h
 ·exact .inr ⟨a,oh,vs,h1,k a oh h5 h2,h3,h4,h5⟩
end
theorem entry_unchain:entryFor table "proto.unchain" = some Builtin.«proto.unchain»:=entryFor_of_tree (by kernel_rfl)
section
variable {prog:Program}{w:World}{A:Around}{E:Value->Shared->Prop}{s:Shared}{fp:List Addr}
theorem unchain {e h:Addr}{oh:Obj}{vs:Array Value}{Q:Value->Shared->Prop}(hh:s.heap.get? h=some oh) (hd:oh.data=.fields vs) (h2:vs[2]?=some .none) (hQ:Q .none s) :
  wpAny (model prog w) A (runValue (.builtin "proto.unchain" ⟨[.ref e,.ref h,.ref h,.bool false],[]⟩)) Q E s:=by
 refine wpAny_runValue (codeAny_builtin entry_unchain ?_)
 unfold Builtin.«proto.unchain»
 refine wpAny_bind (wpAny_field hh hd h2 ?_)
 exact wpAny_pure hQ
theorem raiseNewH {α:Type}{e:Addr}{oe:Obj}{es:Array Value}{Q:α->Shared->Prop}(hd:HdAt A fp s.heap) (he:s.heap.get? e=some oe) (hde:oe.data=.fields es) (h2:2 < es.size)
  (hne:∀h,A.handled=some (.ref h)->h≠e) (hE:E (.ref e) s) (hE':∀h,E (.ref e) { s with heap:=s.heap.update e (Obj.mapFields (·.setIfInBounds 2 (.ref h))) }) :
  wpAny (model prog w) A (raiseNew (.ref e):Sem α) Q E s:=by
 unfold raiseNew
 refine wpAny_bind (wpAny_handled ?_)
 rcases hd with hh | ⟨h,oh,vs,h1,hh,hdh,hc,_⟩
 ·rw [hh]
  exact wpAny_bind (wpAny_pure (wpAny_throw hE))
 ·rw [h1]
  have ne:(Value.ref h != Value.ref e)=true:=by
   have:=hne h h1
   simpa using this
  show wpAny _ _ (if (Value.ref h != Value.ref e)=true then _ else _) _ _ _
  rw [if_pos ne]
  refine wpAny_bind (wpAny_holding (unchain hh hdh hc ?_))
  show wpAny _ _ (setField (.ref e) 2 (.ref h) >>= _) _ _ _
  exact wpAny_bind (wpAny_setField (a:=e) he hde h2 (wpAny_throw (hE' h)))
theorem stopsH {α:Type}{Q:α->Shared->Prop}(hd:HdAt A fp s.heap) (hE:∀h' e,(∀b o,s.heap.get? b=some o->h'.get? b=some o)->(∃o,h'.get? e=some o/\o.cls=.type "StopIteration")->E (.ref e) { s with heap:=h' }) :
  wpAny (model prog w) A (Builtin.SmallTypes.stopIteration (α:=α)) Q E s:=by
 unfold Builtin.SmallTypes.stopIteration
 wp_walk
 have kp:∀b o,s.heap.get? b=some o->((s.heap.push { cls:=.type "tuple", data:=.seq (([]:List Value).toArray) }).push { cls:=.type "StopIteration", data:=.fields (#[.ref s.heap.objs.size,.none,.none,.none,.bool false,.none]++#[]) }).get? b=some o:=fun b o e=>Heap.get?_push_of_some _ (Heap.get?_push_of_some _ e)
 have ne:∀h,A.handled=some (.ref h)->h≠s.heap.objs.size+1:=by
  intro h e1 z
  rcases hd with hh | ⟨a,oh,vs,h1,hh,hdh,hc,_⟩
  ·rw [hh] at e1;cases e1
  ·rw [h1] at e1;cases e1
   have:=Heap.lt_size hh
   have z':h=s.heap.objs.size+1:=z
   rw [z'] at this
   exact Nat.lt_irrefl _ (Nat.lt_of_succ_lt this)
 refine raiseNewH (fp:=fp) (hd.keep fun b o _ e=>kp b o e) (Heap.get?_push_at (by simp only [Heap.size_push]) rfl) rfl (by rw [Array.size_append];exact Nat.lt_add_right _ (show 2 < 6 by decide)) (by simpa using ne) ?_ fun h=>?_
 ·exact hE _ _ kp ⟨_,Heap.get?_push_at (by simp only [Heap.size_push]) rfl,rfl⟩
 ·refine hE _ _ (fun b o e=>?_) ⟨_,Heap.get?_update_self _ (Heap.get?_push_at (by simp only [Heap.size_push]) rfl) rfl,rfl⟩
  rw [Heap.get?_update_other _ _ (fun z=>by have q:=Heap.lt_size e;rw [<-z] at q;simp only [Heap.size_push] at q;exact Nat.lt_irrefl _ (Nat.lt_of_succ_lt q))]
  exact kp b o e
end
end XH
namespace XH
open PySem
section
variable {prog:Program}{w:World}{A:Around}{E:Value->Shared->Prop}{s:Shared}
theorem upd_keep {h:Heap}{it:Addr}{f:Obj->Obj}{b:Addr}{o:Obj}(hb:b≠it) (e:h.get? b=some o):(h.update it f).get? b=some o:=(Heap.get?_update_other _ _ (Ne.symm hb)).trans e
theorem list_end {it l:Addr}{i:Nat}{items} {Q:Option Value->Shared->Prop}(hh:HdAt A [it] s.heap)
  (hit:s.heap.IsListIter it l i) (hl:s.heap.IsList l items) (hx:items[i]?=none)
  (hQ:∀h',Heap.ExtBut it s.heap h'->Q none { s with heap:=h' }):wpAny (model prog w) A (pyNext (.ref it)) Q E s:=by
 obtain ⟨o,ho,hc,hd⟩:=id hit
 obtain ⟨ol,hol,_,nl,hdl⟩:=hl
 unfold pyNext
 refine wpAny_bind (wpAny_attempt (wpAny_callSpecial?_slot (name:=Str.ofString "__next__") hit.typeIs slot_listiter_next
  (wpAny_call_entry slot_listiter_next hit.typeIs entry_listiter_next ?_ (args_listiter_next _))))
 show wpAny _ _ (field (.ref it) 0 >>= _) _ _ s
 refine wpAny_bind (wpAny_field ho hd (x:=.ref l) rfl ?_)
 show wpAny _ _ (if (Value.ref l==Value.none)=true then _ else _) _ _ s
 rw [if_neg (show ¬((Value.ref l==Value.none)=true) from Bool.false_ne_true)]
 show wpAny _ _ (field (.ref it) 1 >>= _) _ _ s
 refine wpAny_bind (wpAny_field ho hd (x:=.int i 0) rfl ?_)
 show wpAny _ _ (seqItems? (.ref l) >>= _) _ _ s
 refine wpAny_bind (wpAny_seqItems hol hdl ?_)
 simp only [Int.toNat_natCast,hx]
 refine wpAny_bind (wpAny_rule (wpAny_bind (wpAny_setField ho hd (by simp) ?_)))
 refine stopsH (fp:=[it]) (hh.in1.keep fun b o hb e=>upd_keep (by simpa using hb) e) fun h' x k q=>?_
 refine wpAny_bind (wpAny_isInstance (T := "StopIteration") (b:=true) q isSubtype_stop ?_)
 exact wpAny_pure (hQ _ fun b o hb e=>k b o (upd_keep hb e))
theorem tuple_end {it t:Addr}{i:Nat}{items} {Q:Option Value->Shared->Prop}(hh:HdAt A [it] s.heap)
  (hit:s.heap.IsTupleIter it t i) (ht:s.heap.IsTuple t items) (hx:items[i]?=none)
  (hQ:∀h',Heap.ExtBut it s.heap h'->Q none { s with heap:=h' }):wpAny (model prog w) A (pyNext (.ref it)) Q E s:=by
 obtain ⟨o,ho,hc,hd⟩:=id hit
 obtain ⟨ol,hol,_,nl,hdl⟩:=ht
 unfold pyNext
 refine wpAny_bind (wpAny_attempt (wpAny_callSpecial?_slot (name:=Str.ofString "__next__") hit.typeIs F.slot_tuple_iterator_next
  (wpAny_call_entry F.slot_tuple_iterator_next hit.typeIs F.entry_tuple_iterator_next ?_ (F.args_tuple_iterator_next_1 _))))
 show wpAny _ _ (field (.ref it) 0 >>= _) _ _ s
 refine wpAny_bind (wpAny_field ho hd (x:=.ref t) rfl ?_)
 show wpAny _ _ (if (Value.ref t==Value.none)=true then _ else _) _ _ s
 rw [if_neg (show ¬((Value.ref t==Value.none)=true) from Bool.false_ne_true)]
 show wpAny _ _ (field (.ref it) 1 >>= _) _ _ s
 refine wpAny_bind (wpAny_field ho hd (x:=.int i 0) rfl ?_)
 show wpAny _ _ (seqItems? (.ref t) >>= _) _ _ s
 refine wpAny_bind (wpAny_seqItems hol hdl ?_)
 simp only [Int.toNat_natCast,hx]
 refine wpAny_bind (wpAny_rule (wpAny_bind (wpAny_setField ho hd (by simp) ?_)))
 refine stopsH (fp:=[it]) (hh.in1.keep fun b o hb e=>upd_keep (by simpa using hb) e) fun h' x k q=>?_
 refine wpAny_bind (wpAny_isInstance (T := "StopIteration") (b:=true) q isSubtype_stop ?_)
 exact wpAny_pure (hQ _ fun b o hb e=>k b o (upd_keep hb e))
theorem range_end {it:Addr}{x left step:Int}{Q:Option Value->Shared->Prop}(hh:HdAt A [] s.heap) (hit:IsRangeIter s.heap it x left step) (hleft:left<=0)
  (hQ:∀h',Heap.ExtBut it s.heap h'->Q none { s with heap:=h' }):wpAny (model prog w) A (pyNext (.ref it)) Q E s:=by
 have hT:s.TypeIs (.ref it) "range_iterator" := ⟨_,hit,rfl⟩
 unfold pyNext
 refine wpAny_bind (wpAny_attempt (wpAny_callSpecial?_slot (name:=Str.ofString "__next__") hT F.slot_range_iterator_next
  (wpAny_call_entry F.slot_range_iterator_next hT F.entry_range_iterator_next ?_ (F.args_range_iterator_next_1 _))))
 show wpAny _ _ (field (.ref it) 0 >>= _) _ _ s
 refine wpAny_bind (wpAny_field hit rfl (x:=rawInt x) rfl ?_)
 show wpAny _ _ (field (.ref it) 1 >>= _) _ _ s
 refine wpAny_bind (wpAny_field hit rfl (x:=rawInt left) rfl ?_)
 show wpAny _ _ (field (.ref it) 2 >>= _) _ _ s
 refine wpAny_bind (wpAny_field hit rfl (x:=rawInt step) rfl ?_)
 show wpAny _ _ (if left<=0 then _ else _) _ _ s
 rw [if_pos hleft]
 refine wpAny_bind (wpAny_rule ?_)
 refine wpAny_bind ?_
 refine stopsH (fp:=[]) hh.in1 fun h' x k q=>?_
 refine wpAny_bind (wpAny_isInstance (T := "StopIteration") (b:=true) q isSubtype_stop ?_)
 exact wpAny_pure (hQ _ fun b o hb e=>k b o e)
theorem ascii_end {it:Addr}{x:Str}{t:Tok}{i:Nat}{Q:Option Value->Shared->Prop}(hh:HdAt A [it] s.heap)
  (hit:s.heap.IsStrIter it "str_ascii_iterator" x t i) (hx:x.cps[i]?=none)
  (hQ:∀h',Heap.ExtBut it s.heap h'->Q none { s with heap:=h' }):wpAny (model prog w) A (pyNext (.ref it)) Q E s:=by
 obtain ⟨o,ho,hc,hd⟩:=id hit
 unfold pyNext
 refine wpAny_bind (wpAny_attempt (wpAny_callSpecial?_slot (name:=Str.ofString "__next__") hit.typeIs F.slot_str_ascii_iterator_next
  (wpAny_call_entry F.slot_str_ascii_iterator_next hit.typeIs F.entry_str_ascii_iterator_next ?_ (F.args_str_ascii_iterator_next_1 _))))
 show wpAny _ _ (field (.ref it) 0 >>= _) _ _ s
 refine wpAny_bind (wpAny_field ho hd (x:=.str x t) rfl ?_)
 show wpAny _ _ (field (.ref it) 1 >>= _) _ _ s
 refine wpAny_bind (wpAny_field ho hd (x:=.int i 0) rfl ?_)
 simp only [Int.toNat_natCast,hx]
 refine wpAny_bind (wpAny_rule (wpAny_bind (wpAny_setField ho hd (by simp) (wpAny_bind (wpAny_letGo ?_)))))
 refine stopsH (fp:=[it]) (hh.in1.keep fun b o hb e=>upd_keep (by simpa using hb) e) fun h' x k q=>?_
 refine wpAny_bind (wpAny_isInstance (T := "StopIteration") (b:=true) q isSubtype_stop ?_)
 exact wpAny_pure (hQ _ fun b o hb e=>k b o (upd_keep hb e))
theorem wide_end {it:Addr}{x:Str}{t:Tok}{i:Nat}{Q:Option Value->Shared->Prop}(hh:HdAt A [it] s.heap)
  (hit:s.heap.IsStrIter it "str_iterator" x t i) (hx:x.cps[i]?=none)
  (hQ:∀h',Heap.ExtBut it s.heap h'->Q none { s with heap:=h' }):wpAny (model prog w) A (pyNext (.ref it)) Q E s:=by
 obtain ⟨o,ho,hc,hd⟩:=id hit
 unfold pyNext
 refine wpAny_bind (wpAny_attempt (wpAny_callSpecial?_slot (name:=Str.ofString "__next__") hit.typeIs F.slot_str_iterator_next
  (wpAny_call_entry F.slot_str_iterator_next hit.typeIs F.entry_str_iterator_next ?_ (F.args_str_iterator_next_1 _))))
 show wpAny _ _ (field (.ref it) 0 >>= _) _ _ s
 refine wpAny_bind (wpAny_field ho hd (x:=.str x t) rfl ?_)
 show wpAny _ _ (field (.ref it) 1 >>= _) _ _ s
 refine wpAny_bind (wpAny_field ho hd (x:=.int i 0) rfl ?_)
 simp only [Int.toNat_natCast,hx]
 refine wpAny_bind (wpAny_rule (wpAny_bind (wpAny_setField ho hd (by simp) (wpAny_bind (wpAny_letGo ?_)))))
 refine stopsH (fp:=[it]) (hh.in1.keep fun b o hb e=>upd_keep (by simpa using hb) e) fun h' x k q=>?_
 refine wpAny_bind (wpAny_isInstance (T := "StopIteration") (b:=true) q isSubtype_stop ?_)
 exact wpAny_pure (hQ _ fun b o hb e=>k b o (upd_keep hb e))
end
end XH
namespace XH
open PySem PySem.Spec PyProof.Rows
section
variable {prog:Program}{w:World}{A:Around}{E:Value->Shared->Prop}{s:Shared}
theorem dict_end {K:Type} [DecidableEq K] {knd:PySem.KeyKind prog w K}{it d:Addr}{i ep:Nat}{kvs:List (K×Value)}{Q:Option Value->Shared->Prop}(hh:HdAt A [it] s.heap) (hit:s.heap.IsKeyIter it d i kvs.length ep)
  (hm:s.heap.DictAt knd d kvs ep) (hx:kvs[i]?=none)
  (hQ:∀h',Heap.ExtBut it s.heap h'->Q none { s with heap:=h' }):wpAny (model prog w) A (pyNext (.ref it)) Q E s:=by
 obtain ⟨o,ho,hc,hd⟩:=id hit
 obtain ⟨od,es,hod,hcd,hdd,hk,hp,hn⟩:=id hm
 unfold pyNext
 refine wpAny_bind (wpAny_attempt (wpAny_callSpecial?_slot (name:=Str.ofString "__next__") hit.typeIs F.slot_dict_keyiterator_next
  (wpAny_call_entry F.slot_dict_keyiterator_next hit.typeIs F.entry_dict_keyiterator_next ?_ (F.args_dict_keyiterator_next_1 _))))
 refine wpAny_bind (wpAny_pure ?_)
 refine wpAny_bind ?_
 refine wpAny_bind ?_
 first | refine wpAny_bind (wpAny_typeNameOfWhole_keyiter hit.typeIs (wpAny_pure ?_)) | refine wpAny_bind (wpAny_typeNameOf_keyiter hit.typeIs (wpAny_pure ?_))
 refine wpAny_bind (wpAny_fieldsOf ho hd ?_)
 have hown:Builtin.Dict_items.ownsTuple "dict_keyiterator" = false:=by decide
 simp only [hown,Bool.false_eq_true,if_false]
 show wpAny _ _ (if (Value.ref d==Value.none)=true then _ else _) _ _ s
 rw [if_neg (show ¬((Value.ref d==Value.none)=true) from Bool.false_ne_true)]
 refine wpAny_bind (wpAny_pure ?_)
 refine wpAny_bind (wpAny_dictEntries hod hdd ?_)
 have hsz:es.size=kvs.length:=by rw [<-hp.length];simp
 rw [if_neg (by rw [hsz];simp)]
 refine wpAny_bind (wpAny_pure ?_)
 refine wpAny_bind (wpAny_dictEpoch hod hdd ?_)
 rw [if_neg (by simp)]
 refine wpAny_pure ?_
 have hge:es.size<=i:=by rw [hsz];simpa using hx
 simp only [show ¬((i:Int) < 0) from by omega,if_false,Int.toNat_natCast,Array.getElem?_eq_none hge]
 refine wpAny_bind ?_
 first | refine wpAny_bind (wpAny_typeNameOfWhole_keyiter hit.typeIs (wpAny_pure ?_)) | refine wpAny_bind (wpAny_typeNameOf_keyiter hit.typeIs (wpAny_pure ?_))
 show wpAny _ _ (setField (.ref it) 0 .none >>= _) _ _ s
 refine wpAny_bind (wpAny_setField ho hd (by simp) ?_)
 refine stopsH (fp:=[it]) (hh.in1.keep fun b o hb e=>upd_keep (by simpa using hb) e) fun h' x k q=>?_
 refine wpAny_bind (wpAny_isInstance (T := "StopIteration") (b:=true) q isSubtype_stop ?_)
 exact wpAny_pure (hQ _ fun b o hb e=>k b o (upd_keep hb e))
theorem unpackItems_tuple {t:Addr}{items:Array Value}{Q:List Value->Shared->Prop}(hh:HdAt A [] s.heap) (ht:IsTup s.heap t items)
  (hQ:∀h',Heap.ExtBut s.heap.objs.size s.heap h'->Q items.toList { s with heap:=h' }):wpAny (model prog w) A (unpackItems (.ref t) items.size none) Q E s:=by
 have hlt:t≠s.heap.objs.size:=by obtain ⟨o,ho,_⟩:=ht;exact Nat.ne_of_lt (Heap.lt_size ho)
 unfold unpackItems
 refine wpAny_bind ?_
 ·unfold notIterableAtAll
  refine wpAny_bind (wpAny_specialOf ht.typeIs slot_tuple_iter.lookup ?_)
  refine wpAny_pure ?_
  simp only [Bool.false_eq_true,if_false]
  refine wpAny_bind (wpAny_holding (iter_tuple ht ?_))
  refine wpAny_bind (wpAny_holding (draw_tuple hlt items.size 0 _ _ ⟨_,Heap.get?_push_size _ rfl,rfl,rfl⟩ (ht.push _) (by omega) fun h₁ hit₁ hs₁=>?_))
  have hall:List.take items.size (List.drop 0 items.toList)=items.toList:=by
   rw [List.drop_zero];exact List.take_of_length_le (by simp)
  rw [hall]
  rw [if_neg (by simp)]
  have ht₁:IsTup h₁ t items:=(ht.push _).extBut hs₁.extBut hlt
  have hd:HdAt A [s.heap.objs.size] h₁:=by
   rcases hh with hh | ⟨a,oh,vs,e1,e2,e3,e4,_⟩
   ·exact .inl hh
   ·have lt:=Heap.lt_size e2
    exact .inr ⟨a,oh,vs,e1,hs₁.extBut a oh (Nat.ne_of_lt lt) (Heap.get?_push_of_some _ e2),e3,e4,by simp;exact Nat.ne_of_lt lt⟩
  refine wpAny_bind (wpAny_holding (tuple_end (s:={ s with heap:=h₁ }) hd hit₁ ht₁ (by simp) fun h₂ he₂=>?_))
  simp only [Option.isSome_none,Bool.false_eq_true,if_false]
  refine wpAny_pure (hQ h₂ fun b o hb e=>he₂ b o hb (hs₁.extBut b o hb (Heap.get?_push_of_some _ e)))
theorem assign_Tuple_tuple {env:Env}{elts:List Expr}{x1} {pos:Pos}{t:Addr}{items:Array Value}{Q:Unit->Shared->Prop}(hh:HdAt A [] s.heap) (ht:IsTup s.heap t items)
  (hn:(assignEach elts env).length=items.size) (hstar:(assignEach elts env).findIdx? (·.1)=none)
  (h:∀h',Heap.ExtBut s.heap.objs.size s.heap h'->wpAny (model prog w) A (assignInOrder ((assignEach elts env).map (·.2)) items.toList) Q E { s with heap:=h' }) :
  wpAny (model prog w) A (assign (.Tuple elts x1 pos) env (.ref t)) Q E s:=by
 rw [assign_Tuple]
 refine wpAny_bind (wpAny_standAt ?_)
 unfold unpack
 rw [hn,hstar]
 exact wpAny_bind (wpAny_holding (unpackItems_tuple hh ht h))
end
end XH
namespace L2
open PySem PySem.Spec PyProof.Rows
noncomputable abbrev Key:=Sum Int Str
noncomputable def keyIs:Key->Value->Bool
 |.inl k,v=>Value.isInt k v
 |.inr x,v=>Value.isStrOf x v
noncomputable def keyH (w:World):Key->Int
 |.inl k=>hashInt k
 |.inr x=>hashStr w x
theorem keyIs_shape:∀{k:Key}{v:Value},keyIs k v=true->(∃i t,k=Sum.inl i/\v=Value.int i t)∨(∃x t,k=Sum.inr x/\v=Value.str x t)
 |.inl i,v,h=>by
  obtain ⟨t,e⟩:=Value.isInt_shape (k:=i) (v:=v) h
  exact .inl ⟨i,t,rfl,e⟩
 |.inr x,v,h=>by
  obtain ⟨t,e⟩:=Value.isStrOf_shape (x:=x) (v:=v) h
  exact .inr ⟨x,t,rfl,e⟩
theorem keyIs_int (i:Int) (t:Tok):keyIs (.inl i) (.int i t)=true:=by simp [keyIs,Value.isInt]
theorem keyIs_str (x:Str) (t:Tok):keyIs (.inr x) (.str x t)=true:=by simp [keyIs,Value.isStrOf]
theorem key_ll (a b:Int):decide ((Sum.inl a:Key)=Sum.inl b)=(a==b):=by
 by_cases e:a=b
 ·subst e;simp
 ·have h:¬(Sum.inl a:Key)=Sum.inl b:=fun q=>e (Sum.inl.inj q)
  rw [decide_eq_false h]
  exact (beq_eq_false_iff_ne.mpr e).symm
theorem key_rr (a b:Str):decide ((Sum.inr a:Key)=Sum.inr b)=decide (a=b):=by
 by_cases e:a=b
 ·subst e;simp
 ·have h:¬(Sum.inr a:Key)=Sum.inr b:=fun q=>e (Sum.inr.inj q)
  rw [decide_eq_false h,decide_eq_false e]
theorem key_lr (a:Int) (b:Str):decide ((Sum.inl a:Key)=Sum.inr b)=false:=decide_eq_false (fun q=>nomatch q)
theorem key_rl (a:Str) (b:Int):decide ((Sum.inr a:Key)=Sum.inl b)=false:=decide_eq_false (fun q=>nomatch q)
noncomputable def mixKind (prog:Program) (w:World):PySem.KeyKind prog w Key where
 is:=keyIs
 hash:=keyH w
 inj:=fun v a b ha hb=>by
  rcases keyIs_shape ha with ⟨i,t,rfl,rfl⟩ | ⟨x,t,rfl,rfl⟩
  ·rcases keyIs_shape hb with ⟨j,u,rfl,e⟩ | ⟨y,u,rfl,e⟩
   ·injection e with e1 _;rw [e1]
   ·exact nomatch e
  ·rcases keyIs_shape hb with ⟨j,u,rfl,e⟩ | ⟨y,u,rfl,e⟩
   ·exact nomatch e
   ·injection e with e1 _;rw [e1]
 byValue:=fun k v h=>by
  rcases keyIs_shape h with ⟨i,t,rfl,rfl⟩ | ⟨x,t,rfl,rfl⟩<;>rfl
 pyHash:=fun hv h=>by
  rcases keyIs_shape hv with ⟨i,t,rfl,rfl⟩ | ⟨x,t,rfl,rfl⟩
  ·exact wpAny_pyHash_int h
  ·exact wpAny_pyHash_str h
 eqBool:=fun hu hv h=>by
  rcases keyIs_shape hu with ⟨i,t,rfl,rfl⟩ | ⟨x,t,rfl,rfl⟩
  ·rcases keyIs_shape hv with ⟨j,u,rfl,rfl⟩ | ⟨y,u,rfl,rfl⟩
   ·rw [key_ll] at h;exact wpAny_eqBool_int h
   ·rw [key_lr] at h;exact SeqAt.EqAt.int_str i t y u _ _ _ _ h
  ·rcases keyIs_shape hv with ⟨j,u,rfl,rfl⟩ | ⟨y,u,rfl,rfl⟩
   ·rw [key_rl] at h;exact SeqAt.EqAt.str_int x t j u _ _ _ _ h
   ·rw [key_rr] at h;exact wpAny_eqBool_str h
 «strs»:=fun k x t v h=>by
  rcases keyIs_shape h with ⟨i,u,rfl,e⟩ | ⟨y,u,rfl,e⟩
  ·exact nomatch e
  ·injection e with e1 _
   subst e1
   cases v<;>rfl
theorem mixKind_int (prog:Program) (w:World) (i:Int) (t:Tok):(mixKind prog w).is (.inl i) (.int i t)=true:=keyIs_int i t
theorem mixKind_str (prog:Program) (w:World) (x:Str) (t:Tok):(mixKind prog w).is (.inr x) (.str x t)=true:=keyIs_str x t
end L2
namespace L2
open PySem PySem.Spec PyProof.Rows
inductive V where
 |non | bl (b:Bool) | int (i:Int) | str (x:Str) | byt (b:Array UInt8) | flt (b:UInt64) | ref (a:Addr) | ty (n:String)
 deriving DecidableEq
noncomputable def RelV:V->Value->Prop
 |.non,u=>u=Value.none
 |.bl b,u=>u=Value.bool b
 |.int i,u=>∃t,u=Value.int i t
 |.str x,u=>∃t,u=Value.str x t
 |.byt b,u=>∃t,u=Value.bytes b t
 |.flt b,u=>∃t,u=Value.float b t
 |.ref a,u=>u=Value.ref a
 |.ty n,u=>u=Value.type n
noncomputable abbrev Vals:List V->List Value->Prop:=Paired RelV
theorem Vals.length {xs:List V}{us:List Value}(r:Vals xs us):xs.length=us.length:=Paired.length r
theorem Vals.get:∀{xs:List V}{us:List Value}{i:Nat}{x:V},Vals xs us->xs[i]?=some x->∃u,us[i]?=some u/\RelV x u
 |_,_,_,_,.nil,e=>by simp at e
 |_,_,0,_,.cons r _,e=>by simp at e;subst e;exact ⟨_,rfl,r⟩
 |_,_,i+1,x,.cons _ t,e=>by
  obtain ⟨u,h1,h2⟩:=Vals.get (i:=i) (x:=x) t (by simpa using e)
  exact ⟨u,by simpa using h1,h2⟩
theorem Vals.set {x:V}{u:Value}(r:RelV x u):∀{xs:List V}{us:List Value}(i:Nat),Vals xs us->Vals (xs.set i x) (us.set i u)
 |_,_,_,.nil=>.nil
 |_,_,0,.cons _ t=>.cons r t
 |_,_,i+1,.cons q t=>.cons q (Vals.set r i t)
theorem Vals.append:∀{xs ys:List V}{us ws:List Value},Vals xs us->Vals ys ws->Vals (xs++ys) (us++ws)
 |_,_,_,_,.nil,s=>s
 |_,_,_,_,.cons r t,s=>.cons r (Vals.append t s)
theorem Vals.take:∀{xs:List V}{us:List Value}(n:Nat),Vals xs us->Vals (xs.take n) (us.take n)
 |_,_,0,_=>.nil
 |_,_,_+1,.nil=>.nil
 |_,_,n+1,.cons r t=>.cons r (Vals.take n t)
theorem Vals.drop:∀{xs:List V}{us:List Value}(n:Nat),Vals xs us->Vals (xs.drop n) (us.drop n)
 |_,_,0,r=>r
 |_,_,_+1,.nil=>.nil
 |_,_,n+1,.cons _ t=>Vals.drop n t
noncomputable def RelO:Option V->Option Value->Prop
 |some v,some u=>RelV v u
 |none,none=>True
 |_,_=>False
noncomputable def KV {κ:Type}:List (κ×V)->List (κ×Value)->Prop:=Paired fun (p:κ×V) (q:κ×Value)=>p.1=q.1/\RelV p.2 q.2
noncomputable def kV:Key->V
 |.inl i=>.int i
 |.inr x=>.str x
inductive HO where
  |lst (xs:List V)
  |tup (xs:List V)
  |dK (kvs:List (Key×V)) | dT (kvs:List (List Key×V))
  |set (S:Int->Bool) (n:Nat)
  |ins (C dx:Addr) (fs:List (Str×V))
  |own (x:Addr)
  |xd (fs:List (Str×V))
  |met (f x:Addr)
  |rng (lo hi:Int)
  |frz (o:Obj) (u:HO)
  |tbl (ps:Array Value)
  |ext (φ:Heap->Prop)
noncomputable abbrev Hp:=Addr->Option HO
noncomputable def upd (H:Hp) (a:Addr) (o:HO):Hp:=fun b=>if b=a then some o else H b
theorem upd_same {H:Hp}{a:Addr}{o:HO}:upd H a o a=some o:=by unfold upd;rw [if_pos rfl]
theorem upd_ne {H:Hp}{a b:Addr}{o:HO}(h:b≠a):upd H a o b=H b:=by unfold upd;rw [if_neg h]
theorem ne_of {H:Hp}{a b:Addr}{o u:HO}(h:H a=some o) (h':H b=some u) (d:o≠u):a≠b:=by
 intro e;subst e;rw [h] at h';exact d (Option.some.inj h')
theorem ne_of_none {H:Hp}{a b:Addr}{o:HO}(h:H a=some o) (h':H b=none):a≠b:=by
 intro e;subst e;rw [h] at h';cases h'
section
variable (P:Program) (w:World)
noncomputable def ObjOk (H:Hp) (h:Heap) (a:Addr):HO->Prop
 |.lst xs=>xs.length<=sizeLine/\∃(its:List Value) (n:Nat),Vals xs its/\h.get? a=some { cls:=.type "list", data:=.seq its.toArray n }
 |.tup xs=>xs.length<=sizeLine/\∃its:List Value,Vals xs its/\IsTup h a its.toArray
 |.dK kvs=>kvs.length<=sizeLine/\(a==sysModules)=false/\∃vs,KV kvs vs/\h.DictOf (mixKind P w) a vs
 |.dT kvs=>kvs.length<=sizeLine/\(a==sysModules)=false/\∃xs:List (List Key×Addr×Value),
   Paired (fun (p:List Key×V) (q:List Key×Addr×Value)=>p.1=q.1/\H q.2.1=some (.tup (p.1.map kV))/\RelV p.2 q.2.2) kvs xs /\
   ∃o es ep,h.get? a=some o/\o.ExactDict/\o.data=.dict es ep/\es.toList=xs.map (entryOfKey (tupleKind (mixKind P w)))/\(xs.map (·.1)).Nodup
 |.set S n=>h.SetOf (intKind P w) a S n
 |.ins C dx fs=>H dx=some (.own a)/\fs.length<=1000/\dx≠a/\h.get? a=some (PySem.W.instObj C dx) /\
   ∃mA,h.Ns1 dx mA/\(∀f,RelO (fs.lookup f) (mA f))/\PySem.Within mA (fs.map (·.1))
 |.own _=>∃o,h.get? a=some o
 |.xd fs=>∃mA,h.Ns1 a mA/\∀f,RelO (fs.lookup f) (mA f)
 |.rng lo hi=>∃t u v,h.get? a=some { cls:=.type "range", data:=.fields #[.int lo t,.int hi u,.int 1 v] }
 |.frz o u=>h.get? a=some o/\ObjOk H h a u
 |.tbl ps=>h.get? a=some { cls:=.none,data:=.fields ps }
 |.met f x=>h.get? a=some (PySem.W.methodObj (.ref f) (.ref x))
 |.ext φ=>φ h/\(∃o,h.get? a=some o)/\∀h1 h2:Heap,φ h1->(∀o,h1.get? a=some o->h2.get? a=some o)->φ h2
noncomputable def HOk (H:Hp) (h:Heap):Prop:=∀a o,H a=some o->ObjOk P w H h a o
end
section
variable {P:Program}{w:World}{H H':Hp}{h h':Heap}{a:Addr}{o:HO}
theorem ObjOk.lt (x:ObjOk P w H h a o):a < h.objs.size:=by
 cases o with
 |lst xs=>obtain ⟨_,_,_,_,e⟩:=x;exact Heap.lt_size e
 |tup xs=>obtain ⟨_,_,_,p⟩:=x;exact p.lt
 |dK kvs=>obtain ⟨_,_,_,_,o,_,_,e,_⟩:=x;exact Heap.lt_size e
 |dT kvs=>obtain ⟨_,_,_,_,o,_,_,e,_⟩:=x;exact Heap.lt_size e
 |set S n=>obtain ⟨o,_,_,_,e,_⟩:=x;exact Heap.lt_size e
 |ins C dx fs=>obtain ⟨_,_,_,e,_⟩:=x;exact Heap.lt_size e
 |own y=>obtain ⟨_,e⟩:=x;exact Heap.lt_size e
 |xd fs=>obtain ⟨_,⟨_,_,_,e,_⟩,_⟩:=x;exact Heap.lt_size e
 |rng lo hi=>obtain ⟨_,_,_,e⟩:=x;exact Heap.lt_size e
 |frz ob u=>obtain ⟨e,_⟩:=x;exact Heap.lt_size e
 |tbl ps=>exact Heap.lt_size (show h.get? a=some _ from x)
 |met f y=>exact Heap.lt_size (show h.get? a=some _ from x)
 |ext φ=>obtain ⟨_,⟨_,e⟩,_⟩:=x;exact Heap.lt_size e
theorem Paired.mapP {α β:Type}{F G:α->β->Prop}:∀{l₁:List α}{l₂:List β},Paired F l₁ l₂->(∀a b,F a b->G a b)->Paired G l₁ l₂
 |_,_,.nil,_=>.nil
 |_,_,.cons r t,f=>.cons (f _ _ r) (Paired.mapP t f)
theorem ObjOk.stay (x:ObjOk P w H h a o) (k:∀b u,(b=a∨H b=some (.own a))->h.get? b=some u->h'.get? b=some u)
  (ho:∀b,H b=some (.own a)->H' b=some (.own a)) (ht:∀b xs,H b=some (.tup xs)->H' b=some (.tup xs)):ObjOk P w H' h' a o:=by
 induction o with
 |lst xs=>obtain ⟨z,its,n,r,e⟩:=x;exact ⟨z,its,n,r,k _ _ (.inl rfl) e⟩
 |tup xs=>obtain ⟨z,its,r,ob,e,c⟩:=x;exact ⟨z,its,r,ob,k _ _ (.inl rfl) e,c⟩
 |dK kvs=>obtain ⟨z,y,vs,r,ob,es,ep,e,c⟩:=x;exact ⟨z,y,vs,r,ob,es,ep,k _ _ (.inl rfl) e,c⟩
 |dT kvs=>
  obtain ⟨z,y,xs,r,ob,es,ep,e,c⟩:=x
  exact ⟨z,y,xs,Paired.mapP r fun p q z=>⟨z.1,ht _ _ z.2.1,z.2.2⟩,ob,es,ep,k _ _ (.inl rfl) e,c⟩
 |set S n=>obtain ⟨ob,es,ep,t,e,c⟩:=x;exact ⟨ob,es,ep,t,k _ _ (.inl rfl) e,c⟩
 |ins C dx fs=>
  obtain ⟨d,z,ne,e,mA,⟨od,es,ep,e2,c⟩,r⟩:=x
  exact ⟨ho _ d,z,ne,k _ _ (.inl rfl) e,mA,⟨od,es,ep,k _ _ (.inr d) e2,c⟩,r⟩
 |own y=>obtain ⟨ob,e⟩:=x;exact ⟨ob,k _ _ (.inl rfl) e⟩
 |xd fs=>obtain ⟨mA,⟨od,es,ep,e,c⟩,r⟩:=x;exact ⟨mA,⟨od,es,ep,k _ _ (.inl rfl) e,c⟩,r⟩
 |rng lo hi=>obtain ⟨t,u,v,e⟩:=x;exact ⟨t,u,v,k _ _ (.inl rfl) e⟩
 |frz ob u ih=>obtain ⟨e,q⟩:=x;exact ⟨k _ _ (.inl rfl) e,ih q⟩
 |tbl ps=>
  have e:h.get? a=some { cls:=.none,data:=.fields ps }:=x
  show h'.get? a=some { cls:=.none,data:=.fields ps }
  exact k a _ (.inl rfl) e
 |met f y=>
  have e:h.get? a=some (PySem.W.methodObj (.ref f) (.ref y)):=x
  show h'.get? a=some (PySem.W.methodObj (.ref f) (.ref y))
  exact k a _ (.inl rfl) e
 |ext φ=>obtain ⟨p,⟨o,e⟩,st⟩:=x;exact ⟨st _ _ p fun o q=>k _ _ (.inl rfl) q,⟨o,k _ _ (.inl rfl) e⟩,st⟩
theorem HOk.lt (x:HOk P w H h) (e:H a=some o):a < h.objs.size:=(x a o e).lt
theorem HOk.fresh (x:HOk P w H h) (e:h.objs.size<=a):H a=none:=by
 cases q:H a with
 |none=>rfl
 |some u=>exact absurd (Nat.lt_of_lt_of_le (x.lt q) e) (Nat.lt_irrefl _)
theorem HOk.kept (x:HOk P w H h) (k:∀b u,h.get? b=some u->h'.get? b=some u):HOk P w H h':=fun a o e=>
 (x a o e).stay (fun b u _ q=>k b u q) (fun _ q=>q) fun _ _ q=>q
theorem HOk.laid (x:HOk P w H h) (k:∀b u,h.get? b=some u->h'.get? b=some u) (hp:h.objs.size<=a) (new:ObjOk P w (upd H a o) h' a o):HOk P w (upd H a o) h':=fun b u e=>by
 have hn:=x.fresh hp
 by_cases hb:b=a
 ·subst hb;rw [upd_same] at e;cases e;exact new
 ·rw [upd_ne hb] at e
  exact (x b u e).stay (fun c v _ q=>k c v q) (fun c q=>by rw [upd_ne (ne_of_none q hn)];exact q) fun c xs q=>by rw [upd_ne (ne_of_none q hn)];exact q
end
noncomputable def Rd (H:Hp) (a:Addr) (u:HO):Prop:=H a=some u∨∃o,H a=some (.frz o u)
theorem Rd.ok {P:Program}{w:World}{H:Hp}{h:Heap}{a:Addr}{u:HO}(r:Rd H a u) (x:HOk P w H h):ObjOk P w H h a u:=by
 rcases r with r | ⟨o,r⟩
 ·exact x a u r
 ·obtain ⟨_,q⟩:=x a _ r
  exact q
noncomputable def Mut:Option HO->Prop
 |some (.lst _)=>True
 |some (.dK _)=>True
 |some (.dT _)=>True
 |some (.set _ _)=>True
 |some (.ins _ _ _)=>True
 |some (.ext _)=>True
 |_=>False
section
variable {P:Program}{w:World}{H:Hp}{h h':Heap}{x e:Addr}{o':HO}
theorem HOk.write (ok:HOk P w H h) (mu:Mut (H x)) (he:e=x∨H e=some (.own x)) (k:∀b u,b≠e->h.get? b=some u->h'.get? b=some u) (heo:∃u,h'.get? e=some u)
  (new:ObjOk P w (upd H x o') h' x o'):HOk P w (upd H x o') h':=fun b u q=>by
 have nown:∀c y,H c=some (.own y)->c≠x:=fun c y r z=>by subst z;rw [r] at mu;exact mu
 have ntup:∀c xs,H c=some (.tup xs)->c≠x:=fun c xs r z=>by subst z;rw [r] at mu;exact mu
 by_cases hb:b=x
 ·subst hb;rw [upd_same] at q;cases q;exact new
 ·rw [upd_ne hb] at q
  by_cases hbe:b=e
  ·have q':H b=some (.own x):=by
    rcases he with z | z
    ·exact absurd (hbe.trans z) hb
    ·rw [hbe];exact z
   rw [q] at q';cases q'
   obtain ⟨v,hv⟩:=heo
   exact ⟨v,by rw [hbe];exact hv⟩
  ·refine (ok b u q).stay (fun c v hc r=>k c v ?_ r) (fun c r=>by rw [upd_ne (nown c b r)];exact r) fun c xs r=>by rw [upd_ne (ntup c xs r)];exact r
   rcases hc with rfl | hc
   ·exact hbe
   ·rintro rfl
    rcases he with z | z
    ·exact nown c b hc z
    ·rw [hc] at z;cases z;exact hb rfl
end
structure Un (fs ex:List Addr) (H H':Hp) (h h':Heap):Prop where
 keep:∀b o,h.get? b=some o->H b=none->b∉fs->b∉ex->h'.get? b=some o
 slot:∀b o,h.get? b=some o->H b=none->b∈fs->b∉ex->∃sl,h'.get? b=some { o with slots:=sl }
 free:∀b o,h.get? b=some o->H b=none->b∉ex->H' b=none
 there:∀b o,h.get? b=some o->b∉ex->∃o',h'.get? b=some o'
 tups:∀b xs,H b=some (.tup xs)->H' b=some (.tup xs)
 frzs:∀b o u,H b=some (.frz o u)->H' b=some (.frz o u)
 tbls:∀b ps,H b=some (.tbl ps)->∃more,H' b=some (.tbl (ps++more))
section
variable {fs fs' ex ex':List Addr}{H H1 H2:Hp}{h h1 h2 h':Heap}{a x e:Addr}{o:HO}
theorem Un.any (u:Un fs ex H H1 h h1) {b:Addr}{ob:Obj}(q:h.get? b=some ob) (n:H b=none) (hx:b∉ex):∃sl,h1.get? b=some { ob with slots:=sl }:=by
 by_cases hb:b∈fs
 ·exact u.slot b ob q n hb hx
 ·exact ⟨ob.slots,u.keep b ob q n hb hx⟩
theorem Un.kept (k:∀b u,h.get? b=some u->h'.get? b=some u):Un fs ex H H h h':=
 ⟨fun b ob q _ _ _=>k b ob q,fun b ob q _ _ _=>⟨ob.slots,k b ob q⟩,fun _ _ _ n _=>n,fun b ob q _=>⟨ob,k b ob q⟩,fun _ _ q=>q,fun _ _ _ q=>q,fun _ ps q=>⟨#[],by rw [q];simp⟩⟩
theorem Un.refl:Un fs ex H H h h:=Un.kept fun _ _ q=>q
theorem Un.laid (k:∀b u,h.get? b=some u->h'.get? b=some u) (hp:h.objs.size<=a) (hn:H a=none):Un fs ex H (upd H a o) h h' where
 keep:=fun b u q _ _ _=>k b u q
 slot:=fun b u q _ _ _=>⟨u.slots,k b u q⟩
 free:=fun b u q n _=>by rw [upd_ne (Nat.ne_of_lt (Nat.lt_of_lt_of_le (Heap.lt_size q) hp))];exact n
 there:=fun b u q _=>⟨u,k b u q⟩
 tups:=fun b xs q=>by rw [upd_ne (ne_of_none q hn)];exact q
 frzs:=fun b u xs q=>by rw [upd_ne (ne_of_none q hn)];exact q
 tbls:=fun b ps q=>⟨#[],by rw [upd_ne (ne_of_none q hn),q];simp⟩
theorem Un.write (mu:Mut (H x)) (he:e=x∨H e=some (.own x)) (k:∀b u,b≠e->h.get? b=some u->h'.get? b=some u) (heo:∃u,h'.get? e=some u):Un fs ex H (upd H x o) h h':=by
 have hx:∀b,H b=none->b≠x:=fun b n z=>by subst z;rw [n] at mu;exact mu
 have hb:∀b,H b=none->b≠e:=fun b n z=>by
  subst z
  rcases he with r | r
  ·exact hx b n r
  ·rw [n] at r;cases r
 have hm:∀b u,H b=some u->¬Mut (some u)->b≠x:=fun b u q nm z=>by subst z;rw [q] at mu;exact nm mu
 refine ⟨fun b u q n _ _=>k b u (hb b n) q,fun b u q n _ _=>⟨u.slots,k b u (hb b n) q⟩,fun b u q n _=>by rw [upd_ne (hx b n)];exact n,fun b u q _=>?_,
  fun b xs q=>by rw [upd_ne (hm b _ q fun z=>z)];exact q,fun b u xs q=>by rw [upd_ne (hm b _ q fun z=>z)];exact q,fun b ps q=>⟨#[],by rw [upd_ne (hm b _ q fun z=>z),q];simp⟩⟩
 by_cases hbe:b=e
 ·subst hbe;exact heo
 ·exact ⟨u,k b u hbe q⟩
end
noncomputable def trk (h:Heap) (H:Hp):List Addr:=(List.range h.objs.size).filter fun a=>(H a).isSome
noncomputable def hidT (h:Heap) (H:Hp):Heap:=PySem.W.hideAll h (trk h H)
theorem hidT_size (h:Heap) (H:Hp):(hidT h H).objs.size=h.objs.size:=PySem.W.hideAll_size _ _
theorem hidT_get {h:Heap}{H:Hp}{b:Addr}{o:Obj}(e:h.get? b=some o) (n:H b=none):(hidT h H).get? b=some o:=
 PySem.W.hideAll_get _ e fun hm=>by
  have q:(H b).isSome=true:=(List.mem_filter.mp hm).2
  rw [n] at q;simp at q
theorem of_hidT {h:Heap}{H:Hp}{b:Addr}{o:Obj}(e:(hidT h H).get? b=some o):h.get? b=some o/\H b=none:=by
 have e':h.get? b=some o:=PySem.W.of_hideAll (trk h H) e
 refine ⟨e',?_⟩
 cases q:H b with
 |none=>rfl
 |some x=>
  have hm:b∈trk h H:=List.mem_filter.mpr ⟨List.mem_range.mpr (Heap.lt_size e'),by simp [q]⟩
  have z:(hidT h H).get? b=none:=PySem.W.hideAll_none (trk h H) hm
  rw [z] at e;cases e
end L2
namespace L2
open PySem PySem.Spec PyProof.Rows
structure Mod (K:PySem.W.Frag) (mg:Str->Option Value) (base:Heap):Prop where
 kin:K.In base
 glob:base.Ns mainGlobals mg
 blt:∃mb,base.Ns builtinsNs mb/\∀x:Str,x ≠ "__name__" -> mb x=bootBuiltins x
 nolimit:base.NoLimit
structure Cx where
 prog:Program
 w:World
 K:PySem.W.Frag
 mg:Str->Option Value
 base:Heap
 A:Around
 N:List Str
 s₀:Shared
 H₀:Hp
 env:Env
 outer:List Env
 stack:List Env
 ex:List Addr
 fn:Str->Bool
 calm:Bool
 cool:Bool
 pn:List (Addr×Obj)
 xe:Value->Shared->Prop
noncomputable def HD (A:Around) (H:Hp):Prop:=A.handled=none∨∃h oh u vs,A.handled=some (.ref h)/\H h=some (.frz oh u)/\oh.data=.fields vs/\vs[2]?=some .none
theorem HD.mono {A:Around}{H H':Hp}(h:HD A H) (k:∀b o u,H b=some (.frz o u)->H' b=some (.frz o u)):HD A H':=by
 rcases h with h | ⟨a,oh,u,vs,h1,h2,h3,h4⟩
 ·exact .inl h
 ·exact .inr ⟨a,oh,u,vs,h1,k _ _ _ h2,h3,h4⟩
noncomputable def frs (l:List Env):List Addr:=l.filterMap (·.frame)
noncomputable abbrev Cx.fs (X:Cx):List Addr:=frs X.outer
noncomputable def Vis (sc:Scope) (x:Str):Prop:=sc.names.lookup x=some .local∨sc.names.lookup x=some .cell∨sc.names.lookup x=some .free
noncomputable def Loc (sc:Scope) (x:Str):Prop:=sc.names.lookup x=some .local∨sc.names.lookup x=some .cell
noncomputable def Look (env:Env) (h:Heap) (m:Str->Option Value) (x:Str) (u:Value):Prop:=
 (env.kindOf x=some .local/\m x=some u)∨((env.kindOf x=some .cell∨env.kindOf x=some .free)/\∃c,env.cells.lookup x=some c/\h.IsCell c (some u))
structure Cx.Ok (X:Cx):Prop where
 mod:Mod X.K X.mg X.base
 kind:X.env.scope.kind=.function
 glob:X.env.globals=mainGlobals
 blt:X.env.builtins=builtinsNs
 above:X.s₀.heap.objs.size<=X.env.locals
 inj:∀x y c,X.env.cells.lookup x=some c->X.env.cells.lookup y=some c->x=y
 has:∀x,(X.env.kindOf x=some .cell∨X.env.kindOf x=some .free)->∃c,X.env.cells.lookup x=some c
 cab:∀x c,X.fn x=true->X.env.cells.lookup x=some c->X.s₀.heap.objs.size<=c
 hd:X.calm=true->HD X.A X.H₀
 frames:X.A.frames=some X.stack
 stk:X.stack=X.outer∨(X.stack=X.env::X.outer/\X.env.frame=some X.env.locals)
 exf:∀b∈X.ex,b≠X.env.locals/\∀x c,X.env.cells.lookup x=some c->c≠b
 bs:∀b o,X.base.get? b=some o->X.s₀.heap.get? b=some o/\X.H₀ b=none
 bsz:X.base.objs.size<=X.s₀.heap.objs.size
 noex:∀b o,X.base.get? b=some o->b∉X.ex
 exfs:∀b∈X.ex,b∉X.fs
 funs:X.s₀.heap.FunFrames X.base X.outer
 frf:∀b∈X.fs,X.H₀ b=none
 hc:X.cool=true->X.A.handled=none
structure Inv (X:Cx) (pins:List (Addr×Obj)) (σ:List (Option V)) (H:Hp) (s:Shared):Prop where
 ok:X.Ok
 os:s.os=X.s₀.os
 bare:AllBare s.gens
 base:Un X.fs X.ex X.H₀ H X.s₀.heap s.heap
 loc:∃m,s.heap.Ns X.env.locals m/\∀(i:Nat) (x:Str) (v:V),X.N[i]?=some x->σ[i]?=some (some v)->Vis X.env.scope x->∃u,RelV v u/\Look X.env s.heap m x u
 cell:∀x c,X.env.cells.lookup x=some c->∃v,s.heap.IsCell c v
 free:H X.env.locals=none
 freeC:∀x c,X.env.cells.lookup x=some c->H c=none
 pin:∀p∈X.pn++pins,s.heap.get? p.1=some p.2/\H p.1=none/\p.1≠X.env.locals/\p.1∉X.fs/\∀v,p.2.data≠.cell v
 hok:HOk X.prog X.w H s.heap
 len:σ.length=X.N.length
section
variable {X:Cx}{pins:List (Addr×Obj)}{σ:List (Option V)}{H H':Hp}{s:Shared}{h':Heap}
theorem Inv.hdAt (I:Inv X pins σ H s) (hc:X.calm=true) {fp:List Addr}(hf:∀b∈fp,H b=none):XH.HdAt X.A fp s.heap:=by
 rcases I.ok.hd hc with h | ⟨a,oh,u,vs,h1,h2,h3,h4⟩
 ·exact .inl h
 ·have q:=I.base.frzs _ _ _ h2
  exact .inr ⟨a,oh,vs,h1,(show ObjOk X.prog X.w H s.heap a (.frz oh u) from I.hok a _ q).1,h3,h4,fun z=>by rw [hf a z] at q;cases q⟩
theorem Inv.hdAt0 (I:Inv X pins σ H s) (hc:X.calm=true):XH.HdAt X.A [] s.heap:=I.hdAt hc fun b z=>absurd z (by simp)
theorem Inv.hdAt1 (I:Inv X pins σ H s) (hc:X.calm=true) {it:Addr}(h:H it=none):XH.HdAt X.A [it] s.heap:=I.hdAt hc fun b z=>by
 have e:b=it:=by simpa using z
 subst e;exact h
theorem Cx.Ok.nofr (ok:X.Ok) {b:Addr}{o:Obj}(e:X.base.get? b=some o):b∉X.fs:=fun hb=>by
 have:=(ok.funs.mem hb).1
 rw [e] at this;cases this
theorem Inv.bs (I:Inv X pins σ H s):∀b o,X.base.get? b=some o->s.heap.get? b=some o/\H b=none:=fun b o e=>
 ⟨I.base.keep b o (I.ok.bs b o e).1 (I.ok.bs b o e).2 (I.ok.nofr e) (I.ok.noex b o e),I.base.free b o (I.ok.bs b o e).1 (I.ok.bs b o e).2 (I.ok.noex b o e)⟩
theorem Inv.bk (I:Inv X pins σ H s):∀b o,X.base.get? b=some o->s.heap.get? b=some o:=fun b o e=>(I.bs b o e).1
theorem Inv.mod (I:Inv X pins σ H s):Mod X.K X.mg X.base:=I.ok.mod
theorem Inv.kIn (I:Inv X pins σ H s):X.K.In s.heap:=I.ok.mod.kin.keeps I.bk
theorem Inv.lt (I:Inv X pins σ H s):X.env.locals < s.heap.objs.size:=let ⟨_,hn,_⟩:=I.loc;hn.lt
theorem Inv.sz (I:Inv X pins σ H s):X.s₀.heap.objs.size<=s.heap.objs.size:=Nat.le_trans I.ok.above (Nat.le_of_lt I.lt)
theorem Inv.nofs (I:Inv X pins σ H s) {a:Addr}(h:s.heap.objs.size<=a):a∉X.fs:=fun hb=>by
 obtain ⟨_,o,ho,_⟩:=I.ok.funs.mem hb
 exact absurd (Nat.lt_of_lt_of_le (Heap.lt_size ho) (Nat.le_trans I.sz h)) (Nat.lt_irrefl _)
theorem Inv.cne (I:Inv X pins σ H s):∀x c,X.env.cells.lookup x=some c->c≠X.env.locals:=fun x c e z=>by
 obtain ⟨v,o,ho,hd⟩:=I.cell x c e
 obtain ⟨m,⟨o',es,ep,ho',hd',_⟩,_⟩:=I.loc
 rw [z,ho'] at ho;cases ho;rw [hd'] at hd;cases hd
theorem Inv.funs (I:Inv X pins σ H s):s.heap.FunFrames X.base X.outer:=by
 have all:∀(l:List Env),(∀b∈frs l,b∈X.fs)->X.s₀.heap.FunFrames X.base l->s.heap.FunFrames X.base l:=by
  intro l
  induction l with
  |nil=>intro _ _;trivial
  |cons env r ih=>
   intro hs hl
   obtain ⟨hk,⟨L,o,hf,hn,ho,hd⟩,hr⟩:=hl
   have hL:L∈X.fs:=hs L (by unfold frs;rw [List.filterMap_cons,hf];exact List.mem_cons_self)
   obtain ⟨sl,e⟩:=I.base.slot L o ho (I.ok.frf L hL) hL fun z=>I.ok.exfs L z hL
   exact ⟨hk,⟨L,_,hf,hn,e,hd⟩,ih (fun b hb=>hs b (by unfold frs;rw [List.filterMap_cons,hf];exact List.mem_cons_of_mem _ hb)) hr⟩
 exact all X.outer (fun _ hb=>hb) I.ok.funs
theorem Inv.stack (I:Inv X pins σ H s):s.heap.FunFrames X.base X.stack:=by
 rcases I.ok.stk with e | ⟨e,hf⟩
 ·rw [e];exact I.funs
 ·rw [e]
  obtain ⟨m,hn,_⟩:=I.loc
  refine .cons (by rw [I.ok.kind];decide) hf hn ?_ I.funs
  exact Heap.get?_none_of_le (Nat.le_trans I.ok.bsz I.ok.above)
theorem Inv.stkSub (I:Inv X pins σ H s):∀b∈frs X.stack,b∈X.env.locals::X.fs:=fun b hb=>by
 rcases I.ok.stk with e | ⟨e,hf⟩
 ·rw [e] at hb;exact List.mem_cons_of_mem _ hb
 ·rw [e] at hb
  unfold frs at hb
  rw [List.filterMap_cons,hf] at hb
  exact hb
theorem Inv.stkFree (I:Inv X pins σ H s):∀b∈frs X.stack,H b=none:=fun b hb=>by
 rcases List.mem_cons.mp (I.stkSub b hb) with e | hb
 ·rw [e];exact I.free
 ·obtain ⟨_,o,ho,_⟩:=I.ok.funs.mem hb
  exact I.base.free b o ho (I.ok.frf b hb) fun z=>I.ok.exfs b z hb
theorem Inv.step {g':Array GenState}{t':Nat}{d':Drawn}{ch:List Addr}(I:Inv X pins σ H s)
  (hch:∀b∈ch,(b∈X.ex∨X.s₀.heap.objs.size<=b)/\b≠X.env.locals/\(∀x c,X.env.cells.lookup x=some c->c≠b)/\∀p∈X.pn++pins,p.1≠b)
  (keep:∀b o,b≠X.env.locals->b∉X.fs->b∉ch->s.heap.get? b=some o->H b=none->h'.get? b=some o)
  (slot:∀b o,b≠X.env.locals->b∈X.fs->b∉ch->s.heap.get? b=some o->H b=none->∃sl,h'.get? b=some { o with slots:=sl }) (free:∀b o,b∉ch->s.heap.get? b=some o->H b=none->H' b=none)
  (there:∀b o,b∉ch->s.heap.get? b=some o->∃o',h'.get? b=some o')
  (tups:∀b xs,H b=some (.tup xs)->H' b=some (.tup xs)) (frzs:∀b o u,H b=some (.frz o u)->H' b=some (.frz o u)) (tbls:∀b ps,H b=some (.tbl ps)->∃more,H' b=some (.tbl (ps++more)))
  (ns:∀m,s.heap.Ns X.env.locals m->h'.Ns X.env.locals m) (hok:HOk X.prog X.w H' h') (hg:AllBare g') :
  Inv X pins σ H' { s with heap:=h',gens:=g',drawn:=d',toks:=t' }:=by
 have neL:∀b o,X.s₀.heap.get? b=some o->b≠X.env.locals:=fun b o e=>Nat.ne_of_lt (Nat.lt_of_lt_of_le (Heap.lt_size e) I.ok.above)
 have neC:∀b o,X.s₀.heap.get? b=some o->b∉X.ex->b∉ch:=fun b o e hx hb=>by
  rcases (hch b hb).1 with z | z
  ·exact hx z
  ·exact absurd (Nat.lt_of_lt_of_le (Heap.lt_size e) z) (Nat.lt_irrefl _)
 have cellK:∀x c,X.env.cells.lookup x=some c->∀v,s.heap.IsCell c v->h'.IsCell c v:=fun x c e v ⟨o,ho,hd⟩=>by
  have nch:c∉ch:=fun z=>(hch c z).2.2.1 x c e rfl
  by_cases hc:c∈X.fs
  ·obtain ⟨sl,q⟩:=slot c o (I.cne x c e) hc nch ho (I.freeC x c e)
   exact ⟨_,q,hd⟩
  ·exact ⟨o,keep c o (I.cne x c e) hc nch ho (I.freeC x c e),hd⟩
 refine ⟨I.ok,I.os,hg,⟨fun b o e n hb hx=>?_,fun b o e n hb hx=>?_,fun b o e n hx=>?_,fun b o e hx=>?_,fun b xs e=>tups b xs (I.base.tups b xs e),fun b o xs e=>frzs b o xs (I.base.frzs b o xs e),fun b ps e=>?_⟩,?_,fun x c e=>?_,?_,fun x c e=>?_,fun p hp=>?_,hok,I.len⟩
 ·exact keep b o (neL b o e) hb (neC b o e hx) (I.base.keep b o e n hb hx) (I.base.free b o e n hx)
 ·obtain ⟨sl,e1⟩:=I.base.slot b o e n hb hx
  obtain ⟨sl',e2⟩:=slot b _ (neL b o e) hb (neC b o e hx) e1 (I.base.free b o e n hx)
  exact ⟨sl',e2⟩
 ·obtain ⟨o',e1⟩:=I.base.there b o e hx
  exact free b o' (neC b o e hx) e1 (I.base.free b o e n hx)
 ·obtain ⟨o',e1⟩:=I.base.there b o e hx
  exact there b o' (neC b o e hx) e1
 ·obtain ⟨m1,e1⟩:=I.base.tbls b ps e
  obtain ⟨m2,e2⟩:=tbls b _ e1
  exact ⟨m1++m2,by rw [e2,Array.append_assoc]⟩
 ·obtain ⟨m,hn,hl⟩:=I.loc
  refine ⟨m,ns m hn,fun i x v e1 e2 e3=>?_⟩
  obtain ⟨u,r,l⟩:=hl i x v e1 e2 e3
  refine ⟨u,r,?_⟩
  rcases l with l | ⟨k,c,e,z⟩
  ·exact .inl l
  ·exact .inr ⟨k,c,e,cellK x c e _ z⟩
 ·obtain ⟨v,z⟩:=I.cell x c e
  exact ⟨v,cellK x c e v z⟩
 ·obtain ⟨m,⟨o,_,_,ho,_⟩,_⟩:=I.loc
  exact free _ o (fun z=>(hch _ z).2.1 rfl) ho I.free
 ·obtain ⟨v,o,ho,hd⟩:=I.cell x c e
  exact free c o (fun z=>(hch c z).2.2.1 x c e rfl) ho (I.freeC x c e)
 ·obtain ⟨e,n,ne,nf,d⟩:=I.pin p hp
  have nch:p.1∉ch:=fun z=>(hch p.1 z).2.2.2 p hp rfl
  exact ⟨keep p.1 p.2 ne nf nch e n,free p.1 p.2 nch e n,ne,nf,d⟩
theorem Inv.un {t':Nat}(I:Inv X pins σ H s) (u:Un X.fs [] H H' s.heap h') (hok:HOk X.prog X.w H' h'):Inv X pins σ H' { s with heap:=h',toks:=t' }:=by
 obtain ⟨m,⟨o,es,ep,ho,r⟩,_⟩:=id I.loc
 obtain ⟨sl,hL⟩:=u.any ho I.free (by simp)
 exact I.step (g':=s.gens) (d':=s.drawn) (ch:=[]) (fun _ z=>nomatch z) (fun b o _ hb _ e n=>u.keep b o e n hb (by simp)) (fun b o _ hb _ e n=>u.slot b o e n hb (by simp)) (fun b o _ e n=>u.free b o e n (by simp)) (fun b o _ e=>u.there b o e (by simp)) u.tups u.frzs u.tbls (fun m' hm=>by
  obtain ⟨o',es',ep',ho',r'⟩:=hm
  rw [ho] at ho';cases ho'
  exact ⟨_,es',ep',hL,r'⟩) hok I.bare
theorem Inv.call {g':Array GenState}{t':Nat}{d':Drawn}{ch:List Addr}(I:Inv X pins σ H s) (u:Un (frs X.stack) ch H H' s.heap h') (hok:HOk X.prog X.w H' h') (hg:AllBare g')
  (hch:∀b∈ch,(b∈X.ex∨X.s₀.heap.objs.size<=b)/\b≠X.env.locals/\(∀x c,X.env.cells.lookup x=some c->c≠b)/\∀p∈X.pn++pins,p.1≠b) :
  Inv X pins σ H' { s with heap:=h',gens:=g',drawn:=d',toks:=t' }:=by
 obtain ⟨m,⟨o,es,ep,ho,r⟩,_⟩:=id I.loc
 obtain ⟨sl,hL⟩:=u.any ho I.free fun z=>(hch _ z).2.1 rfl
 exact I.step (ch:=ch) hch (fun b o hL hb hc e n=>u.keep b o e n (fun z=>(List.mem_cons.mp (I.stkSub b z)).elim hL hb) hc) (fun b o _ _ hc e n=>u.any e n hc) (fun b o hc e n=>u.free b o e n hc) (fun b o hc e=>u.there b o e hc) u.tups u.frzs u.tbls (fun m' hm=>by
  obtain ⟨o',es',ep',ho',r'⟩:=hm
  rw [ho] at ho';cases ho'
  exact ⟨_,es',ep',hL,r'⟩) hok hg
theorem Inv.turned {t':Nat}{it:Addr}(I:Inv X pins σ H s) (k:∀b o,b≠it->s.heap.get? b=some o->h'.get? b=some o) (hn:H it=none) (hL:it≠X.env.locals)
  (h1:it∈X.ex∨X.s₀.heap.objs.size<=it) (h2:∀x c,X.env.cells.lookup x=some c->c≠it) (h3:∀p∈X.pn++pins,p.1≠it):Inv X pins σ H { s with heap:=h',toks:=t' }:=by
 have nit:∀b u,H b=some u->b≠it:=fun b u e z=>by rw [z,hn] at e;cases e
 refine I.step (g':=s.gens) (d':=s.drawn) (ch:=[it]) (fun b hb=>?_) (fun b o _ _ hc e _=>k b o (fun z=>hc (by simp [z])) e) (fun b o _ _ hc e _=>⟨o.slots,k b o (fun z=>hc (by simp [z])) e⟩) (fun _ _ _ _ n=>n)
  (fun b o hc e=>⟨o,k b o (fun z=>hc (by simp [z])) e⟩) (fun _ _ e=>e) (fun _ _ _ e=>e) (fun b ps e=>⟨#[],by rw [e];simp⟩) (fun m hm=>?_) (fun b u e=>?_) I.bare
 ·have e:b=it:=by simpa using hb
  subst e
  exact ⟨h1,hL,h2,h3⟩
 ·obtain ⟨o,es,ep,ho,r⟩:=hm
  exact ⟨o,es,ep,k _ o (Ne.symm hL) ho,r⟩
 ·refine (I.hok b u e).stay (fun c v hc q=>k c v ?_ q) (fun _ q=>q) fun _ _ q=>q
  rcases hc with z | z
  ·rw [z];exact nit b u e
  ·exact nit c _ z
theorem Inv.tok (I:Inv X pins σ H s) (t:Nat):Inv X pins σ H { s with toks:=t }:=I.un (h':=s.heap) (t':=t) Un.refl I.hok
theorem Inv.kept {t':Nat}(I:Inv X pins σ H s) (k:∀b u,s.heap.get? b=some u->h'.get? b=some u):Inv X pins σ H { s with heap:=h',toks:=t' }:=I.un (Un.kept k) (I.hok.kept k)
theorem Inv.laid {a:Addr}{o:HO}{t':Nat}(I:Inv X pins σ H s) (k:∀b u,s.heap.get? b=some u->h'.get? b=some u) (hp:s.heap.objs.size<=a) (new:ObjOk X.prog X.w (upd H a o) h' a o) :
  Inv X pins σ (upd H a o) { s with heap:=h',toks:=t' }:=I.un (Un.laid k hp (I.hok.fresh hp)) (I.hok.laid k hp new)
theorem Inv.write {x e:Addr}{o:HO}{t':Nat}(I:Inv X pins σ H s) (mu:Mut (H x)) (he:e=x∨H e=some (.own x)) (k:∀b u,b≠e->s.heap.get? b=some u->h'.get? b=some u) (heo:∃u,h'.get? e=some u)
  (new:ObjOk X.prog X.w (upd H x o) h' x o):Inv X pins σ (upd H x o) { s with heap:=h',toks:=t' }:=I.un (Un.write mu he k heo) (I.hok.write mu he k heo new)
theorem Inv.pins_of {pins':List (Addr×Obj)}(I:Inv X pins σ H s) (h:∀p∈pins',s.heap.get? p.1=some p.2/\H p.1=none/\p.1≠X.env.locals/\p.1∉X.fs/\∀v,p.2.data≠.cell v):Inv X pins' σ H s:=
 ⟨I.ok,I.os,I.bare,I.base,I.loc,I.cell,I.free,I.freeC,fun p hp=>(List.mem_append.mp hp).elim (fun z=>I.pin p (List.mem_append_left _ z)) (h p),I.hok,I.len⟩
theorem nodup_ix {N:List Str}(hN:N.Nodup) {i j:Nat}{x:Str}(a:N[i]?=some x) (b:N[j]?=some x):i=j:=by
 obtain ⟨h1,e1⟩:=List.getElem?_eq_some_iff.mp a
 obtain ⟨h2,e2⟩:=List.getElem?_eq_some_iff.mp b
 exact (List.getElem_inj hN).mp (e1.trans e2.symm)
theorem store_ok2 {M:Model}{A:Around}{E:Value->Shared->Prop}{i:Nat}{x:Str}{v:V}{u:Value}{Q:Unit->Shared->Prop}(I:Inv X pins σ H s) (hN:X.N.Nodup) (hi:X.N[i]?=some x) (hx:Loc X.env.scope x) (r:RelV v u)
  (h:∀s',Inv X pins (σ.set i (some v)) H s'->(∃a,Heap.SameBut a s.heap s'.heap/\(a=X.env.locals∨X.env.cells.lookup x=some a))->Q () s') (hf:X.fn x=true∨X.env.scope.names.lookup x=some .local:=by first | exact .inl rfl | exact .inr rfl | assumption):wpAny M A (storeName X.env x u) Q E s:=by
 obtain ⟨m,hn,hl⟩:=id I.loc
 have hcls:(X.env.scope.kind==.class||(X.env.scope.kind==.module&&X.env.locals != X.env.globals))=false:=by rw [I.ok.kind];rfl
 have hiσ:i < σ.length:=by rw [I.len];exact (List.getElem?_eq_some_iff.mp hi).1
 have cne:=I.cne
 have tracked:∀{a:Addr}{h':Heap},(∃o,s.heap.get? a=some o/\H a=none)->Heap.SameBut a s.heap h'->HOk X.prog X.w H h':=fun {a h'} ha hs b ob e=>by
  obtain ⟨_,_,hfree⟩:=ha
  refine (I.hok b ob e).stay (fun c w' hc q=>(hs.2 c ?_).trans q) (fun _ q=>q) fun _ _ q=>q
  rintro rfl
  rcases hc with rfl | hc
  ·rw [hfree] at e;cases e
  ·rw [hfree] at hc;cases hc
 rcases hx with hk | hk
 ·refine wpAny_storeName_local hk hn (fun h' hn' hs=>?_) hcls
  obtain ⟨oL,_,_,hoL,_⟩:=id hn
  refine h _ ⟨I.ok,I.os,I.bare,⟨fun b o e n hb hx=>?_,fun b o e n hb hx=>?_,I.base.free,fun b o e hx=>?_,I.base.tups,I.base.frzs,I.base.tbls⟩,⟨_,hn',fun j y v' e1 e2 e3=>?_⟩,fun y c e=>?_,I.free,I.freeC,fun p hp=>?_,tracked ⟨oL,hoL,I.free⟩ hs,by simpa using I.len⟩ ⟨_,hs,.inl rfl⟩
  ·exact (hs.2 b (Nat.ne_of_lt (Nat.lt_of_lt_of_le (Heap.lt_size e) I.ok.above))).trans (I.base.keep b o e n hb hx)
  ·obtain ⟨sl,e1⟩:=I.base.slot b o e n hb hx
   exact ⟨sl,(hs.2 b (Nat.ne_of_lt (Nat.lt_of_lt_of_le (Heap.lt_size e) I.ok.above))).trans e1⟩
  ·obtain ⟨o',e1⟩:=I.base.there b o e hx
   exact ⟨o',(hs.2 b (Nat.ne_of_lt (Nat.lt_of_lt_of_le (Heap.lt_size e) I.ok.above))).trans e1⟩
  ·by_cases hj:j=i
   ·subst hj
    rw [hi] at e1;cases e1
    rw [List.getElem?_set_self hiσ] at e2
    cases e2
    exact ⟨u,r,.inl ⟨hk,by simp⟩⟩
   ·rw [List.getElem?_set_ne (Ne.symm hj)] at e2
    obtain ⟨u',r',q⟩:=hl j y v' e1 e2 e3
    refine ⟨u',r',?_⟩
    rcases q with ⟨k,e⟩ | ⟨k,c,e,z⟩
    ·refine .inl ⟨k,?_⟩
     have:y≠x:=fun e=>hj (nodup_ix hN e1 (e▸hi))
     simp [this,e]
    ·exact .inr ⟨k,c,e,z.sameBut hs (cne y c e)⟩
  ·obtain ⟨w',z⟩:=I.cell y c e
   exact ⟨w',z.sameBut hs (cne y c e)⟩
  ·obtain ⟨e,n,ne,nf,d⟩:=I.pin p hp
   exact ⟨(hs.2 p.1 ne).trans e,n,ne,nf,d⟩
 ·have hfn:X.fn x=true:=by
   rcases hf with z | z
   ·exact z
   ·rw [z] at hk;cases hk
  obtain ⟨c,hc⟩:=I.ok.has x (.inl hk)
  obtain ⟨w',z⟩:=I.cell x c hc
  refine wpAny_storeName_cell I.ok.kind hk hc z (fun h' hc' hs=>?_)
  obtain ⟨oc,hoc,hocd⟩:=id z
  refine h { s with heap:=h' } ⟨I.ok,I.os,I.bare,⟨fun b o e n hb hx=>?_,fun b o e n hb hx=>?_,I.base.free,fun b o e hx=>?_,I.base.tups,I.base.frzs,I.base.tbls⟩,⟨m,hn.sameBut hs (Ne.symm (cne x c hc)),fun j y v' e1 e2 e3=>?_⟩,fun y c' e=>?_,I.free,I.freeC,fun p hp=>?_,tracked ⟨oc,hoc,I.freeC x c hc⟩ hs,by simpa using I.len⟩ ⟨c,hs,.inr hc⟩
  ·exact (hs.2 b (Nat.ne_of_lt (Nat.lt_of_lt_of_le (Heap.lt_size e) (I.ok.cab x c hfn hc)))).trans (I.base.keep b o e n hb hx)
  ·obtain ⟨sl,e1⟩:=I.base.slot b o e n hb hx
   exact ⟨sl,(hs.2 b (Nat.ne_of_lt (Nat.lt_of_lt_of_le (Heap.lt_size e) (I.ok.cab x c hfn hc)))).trans e1⟩
  ·obtain ⟨o',e1⟩:=I.base.there b o e hx
   exact ⟨o',(hs.2 b (Nat.ne_of_lt (Nat.lt_of_lt_of_le (Heap.lt_size e) (I.ok.cab x c hfn hc)))).trans e1⟩
  ·by_cases hj:j=i
   ·subst hj
    rw [hi] at e1;cases e1
    rw [List.getElem?_set_self hiσ] at e2
    cases e2
    exact ⟨u,r,.inr ⟨.inl hk,c,hc,hc'⟩⟩
   ·rw [List.getElem?_set_ne (Ne.symm hj)] at e2
    obtain ⟨u',r',q⟩:=hl j y v' e1 e2 e3
    refine ⟨u',r',?_⟩
    rcases q with q | ⟨k,c',e,z'⟩
    ·exact .inl q
    ·refine .inr ⟨k,c',e,z'.sameBut hs ?_⟩
     rintro rfl
     exact hj (nodup_ix hN e1 (I.ok.inj _ _ _ e hc▸hi))
  ·by_cases hcc:c'=c
   ·subst hcc;exact ⟨_,hc'⟩
   ·obtain ⟨w2,z2⟩:=I.cell y c' e
    exact ⟨w2,z2.sameBut hs hcc⟩
  ·obtain ⟨e,n,ne,nf,d⟩:=I.pin p hp
   refine ⟨(hs.2 p.1 ?_).trans e,n,ne,nf,d⟩
   intro q
   rw [q,hoc] at e
   have q':oc=p.2:=Option.some.inj e
   exact d w' (by rw [<-q'];exact hocd)
theorem store_ok {M:Model}{A:Around}{E:Value->Shared->Prop}{i:Nat}{x:Str}{v:V}{u:Value}{Q:Unit->Shared->Prop}(I:Inv X pins σ H s) (hN:X.N.Nodup) (hi:X.N[i]?=some x) (hx:Loc X.env.scope x) (r:RelV v u)
  (h:∀s',Inv X pins (σ.set i (some v)) H s'->Q () s') (hf:X.fn x=true∨X.env.scope.names.lookup x=some .local:=by first | exact .inl rfl | exact .inr rfl | assumption):wpAny M A (storeName X.env x u) Q E s:=
 store_ok2 I hN hi hx r (fun s' I' _=>h s' I') hf
theorem Inv.call' {s':Shared}{ch:List Addr}(I:Inv X pins σ H s) (ho:s'.os=s.os) (u:Un (frs X.stack) ch H H' s.heap s'.heap) (hok:HOk X.prog X.w H' s'.heap) (hg:AllBare s'.gens)
  (hch:∀b∈ch,(b∈X.ex∨X.s₀.heap.objs.size<=b)/\b≠X.env.locals/\(∀x c,X.env.cells.lookup x=some c->c≠b)/\∀p∈X.pn++pins,p.1≠b):Inv X pins σ H' s':=by
 obtain ⟨h',g',d',t',o'⟩:=s'
 have e:o'=s.os:=ho
 subst e
 exact I.call (g':=g') (t':=t') (d':=d') u hok hg hch
end
noncomputable abbrev XK:=Value->Option Addr->Hp->Prop
noncomputable abbrev St:=List (Option V)
noncomputable abbrev VK:=V->Hp->Prop
noncomputable abbrev TE:=St->Hp->VK->Prop
noncomputable abbrev TT:=St->Hp->(Bool->Hp->Prop)->Prop
noncomputable abbrev TA:=St->Hp->(List V->Hp->Prop)->Prop
structure Ends where
 nx:St->Hp->Prop
 rt:VK
 bk:St->Hp->Prop:=fun _ _=>False
 ct:St->Hp->Prop:=fun _ _=>False
noncomputable abbrev TS:=Ends->St->Hp->Prop
noncomputable def EP (X:Cx) (pins:List (Addr×Obj)) (σ:St) (Q:VK) (u:Value) (s':Shared):Prop:=∃v H',Inv X pins σ H' s'/\RelV v u/\Q v H'
noncomputable def TP (X:Cx) (pins:List (Addr×Obj)) (σ:St) (Q:Bool->Hp->Prop) (b:Bool) (s':Shared):Prop:=∃H',Inv X pins σ H' s'/\Q b H'
noncomputable def AP (X:Cx) (pins:List (Addr×Obj)) (σ:St) (Q:List V->Hp->Prop) (us:List Value) (s':Shared):Prop:=∃vs H',Inv X pins σ H' s'/\Vals vs us/\Q vs H'
noncomputable def SP (X:Cx) (pins:List (Addr×Obj)) (D:Ends) (f:Flow) (s':Shared):Prop:=
 match f with
 |.next=>∃σ' H',Inv X pins σ' H' s'/\D.nx σ' H'
 |.brk=>∃σ' H',Inv X pins σ' H' s'/\D.bk σ' H'
 |.cont=>∃σ' H',Inv X pins σ' H' s'/\D.ct σ' H'
 |.ret u=>∃v σ' H',Inv X pins σ' H' s'/\RelV v u/\D.rt v H'
noncomputable def PE (X:Cx) (e:Expr) (t:TE):Prop:=
 ∀(pins:List (Addr×Obj)) (s:Shared) (σ:St) (H:Hp) (Q:VK),Inv X pins σ H s->t σ H Q->wpAny (model X.prog X.w) X.A (eval e X.env) (EP X pins σ Q) X.xe s
noncomputable def PT (X:Cx) (e:Expr) (t:TT):Prop:=
 ∀(pins:List (Addr×Obj)) (s:Shared) (σ:St) (H:Hp) (Q:Bool->Hp->Prop),Inv X pins σ H s->t σ H Q->wpAny (model X.prog X.w) X.A (isTrue e X.env (eval e X.env)) (TP X pins σ Q) X.xe s
noncomputable def PW (X:Cx) (e:Expr) (t:TT):Prop:=
 ∀(whole:Sem Value) (pins:List (Addr×Obj)) (s:Shared) (σ:St) (H:Hp) (Q:Bool->Hp->Prop),Inv X pins σ H s->t σ H Q->wpAny (model X.prog X.w) X.A (isTrue e X.env whole) (TP X pins σ Q) X.xe s
theorem PW.pt {X:Cx}{e:Expr}{t:TT}(h:PW X e t):PT X e t:=h _
noncomputable def PA (X:Cx) (es:List Expr) (t:TA):Prop:=
 ∀(pos:Pos) (pins:List (Addr×Obj)) (s:Shared) (σ:St) (H:Hp) (Q:List V->Hp->Prop),Inv X pins σ H s->t σ H Q->wpAny (model X.prog X.w) X.A (spliced (backTo pos (starEach es X.env))) (AP X pins σ Q) X.xe s
noncomputable def PS (X:Cx) (st:Stmt) (t:TS):Prop:=
 ∀(pins:List (Addr×Obj)) (s:Shared) (σ:St) (H:Hp) (D:Ends),Inv X pins σ H s->t D σ H->wpAny (model X.prog X.w) X.A (exec st X.env) (SP X pins D) X.xe s
noncomputable def PSs (X:Cx) (st:List Stmt) (t:TS):Prop:=
 ∀(pins:List (Addr×Obj)) (s:Shared) (σ:St) (H:Hp) (D:Ends),Inv X pins σ H s->t D σ H->wpAny (model X.prog X.w) X.A (execs st X.env) (SP X pins D) X.xe s
theorem thn {α:Type}{t:Sem α}{Q Q':α->Shared->Prop}{M:Model}{A:Around}{E:Value->Shared->Prop}{s:Shared}(h:wpAny M A t Q E s) (hQ:∀a s,Q a s->Q' a s):wpAny M A t Q' E s:=wpAny_mono h hQ fun _ _ x=>x
end L2
namespace L2
open PySem PySem.Spec PyProof.Rows
section
variable {X:Cx}
noncomputable def tVar (i:Nat):TE:=fun σ H Q=>∃v,σ[i]?=some (some v)/\Q v H
noncomputable def tC (v:V):TE:=fun _ H Q=>Q v H
theorem pe_var {i:Nat}{x:Str}{pos:Pos}(hN:X.N[i]?=some x) (hv:Vis X.env.scope x) (hd:(x==("__debug__" : Str))=false:=by decide) (hcd:(x==("__classdict__" : Str))=false:=by decide):PE X (.Name x pos) (tVar i):=by
 intro pins s σ H Q I h
 obtain ⟨v,e,h⟩:=h
 obtain ⟨m,hn,hl⟩:=I.loc
 obtain ⟨u,r,l⟩:=hl i x v hN e hv
 have fin:EP X pins σ Q u s:=⟨v,H,I,r,h⟩
 rcases l with ⟨hk,hm⟩ | ⟨hk,c,hc,hcell⟩
 ·exact wpAny_Name (wpAny_loadName_local I.ok.kind hk hn hm fin) hd
 ·rcases hk with hk | hk
  ·exact wpAny_Name (wpAny_loadName_cell I.ok.kind hk hc hcell fin) hd
  ·exact wpAny_Name (wpAny_loadName_free I.ok.kind hk hc hcell fin hcd) hd
theorem pe_int {i j pos}:PE X (.Constant (.int i) j pos) (tC (.int i)):=fun _ _ _ H _ I h=>wpAny_Constant_int ⟨.int i,H,I.tok _,⟨_,rfl⟩,h⟩
theorem pe_bl {b j pos}:PE X (.Constant (.bool b) j pos) (tC (.bl b)):=fun _ _ _ H _ I h=>Constant_bool ⟨.bl b,H,I,rfl,h⟩
theorem pe_non {j pos}:PE X (.Constant .none j pos) (tC .non):=fun _ _ _ H _ I h=>Constant_none ⟨.non,H,I,rfl,h⟩
theorem pe_str {x j pos}:PE X (.Constant (.str x) j pos) (tC (.str x)):=fun _ _ _ H _ I h=>Calls.Constant_str ⟨.str x,H,I.tok _,⟨_,rfl⟩,h⟩
noncomputable def Gl (X:Cx) (x:Str):Prop:=X.env.kindOf x=some .globalImplicit
theorem ld_glob {E:Value->Shared->Prop}{pins:List (Addr×Obj)}{s:Shared}{σ:St}{H:Hp}{x:Str}{u:Value}{pos:Pos}{Q:Value->Shared->Prop}(I:Inv X pins σ H s) (hg:Gl X x) (hm:X.mg x=some u) (h:Q u s)
  (hd:(x==("__debug__" : Str))=false:=by decide):wpAny (model X.prog X.w) X.A (eval (.Name x pos) X.env) Q E s:=
 Calls.Name_function_global I.ok.kind hg (Calls.loadGlobal_global (by rw [I.ok.glob];exact I.mod.glob.keeps I.bk) hm h) hd
theorem ld_blt {E:Value->Shared->Prop}{pins:List (Addr×Obj)}{s:Shared}{σ:St}{H:Hp}{x:Str}{u:Value}{pos:Pos}{Q:Value->Shared->Prop}(I:Inv X pins σ H s) (hg:Gl X x) (hm:X.mg x=none) (hv:bootBuiltins x=some u) (h:Q u s)
  (hn:x ≠ "__name__" := by decide) (hd:(x==("__debug__" : Str))=false:=by decide):wpAny (model X.prog X.w) X.A (eval (.Name x pos) X.env) Q E s:=by
 obtain ⟨mb,h1,h2⟩:=I.mod.blt
 exact Calls.Name_function_global I.ok.kind hg (Calls.loadGlobal_builtin (by rw [I.ok.glob];exact I.mod.glob.keeps I.bk) hm (by rw [I.ok.blt];exact h1.keeps I.bk) ((h2 x hn).trans hv) h) hd
theorem pe_glob {x:Str}{v:V}{u:Value}{pos:Pos}(hg:Gl X x) (hm:X.mg x=some u) (r:RelV v u) (hd:(x==("__debug__" : Str))=false:=by decide):PE X (.Name x pos) (tC v):=
 fun _ _ _ H _ I h=>ld_glob I hg hm ⟨v,H,I,r,h⟩ hd
theorem pe_bltn {x:Str}{v:V}{u:Value}{pos:Pos}(hg:Gl X x) (hm:X.mg x=none) (hv:bootBuiltins x=some u) (r:RelV v u) (hn:x ≠ "__name__" := by decide) (hd:(x==("__debug__" : Str))=false:=by decide):PE X (.Name x pos) (tC v):=
 fun _ _ _ H _ I h=>ld_blt I hg hm hv ⟨v,H,I,r,h⟩ hn hd
variable {a b:Expr}{ta tb:TE}{pos:Pos}
variable {tA tB':TT}{rest:List Expr}
noncomputable def tAnd (t u:TT):TT:=fun σ H Q=>t σ H fun c H1=>if c=true then u σ H1 Q else Q false H1
noncomputable def tOr (t u:TT):TT:=fun σ H Q=>t σ H fun c H1=>if c=true then Q true H1 else u σ H1 Q
noncomputable def tNot (t:TT):TT:=fun σ H Q=>t σ H fun c H1=>Q (!c) H1
theorem pw_and1 (ha:PT X a tA):PW X (.BoolOp .And [a] pos) tA:=by
 intro wh pins s σ H Q I h
 refine isTrue_and (thn (ha pins s σ H Q I h) fun c s1 e=>?_)
 cases c with
 |true=>exact isTrue_and_nil e
 |false=>exact e
theorem pw_or1 (ha:PT X a tA):PW X (.BoolOp .Or [a] pos) tA:=by
 intro wh pins s σ H Q I h
 refine isTrue_or (thn (ha pins s σ H Q I h) fun c s1 e=>?_)
 cases c with
 |false=>exact isTrue_or_nil e
 |true=>exact e
theorem pw_and (ha:PT X a tA) (hb:PW X (.BoolOp .And (b::rest) pos) tB'):PW X (.BoolOp .And (a::b::rest) pos) (tAnd tA tB'):=by
 intro wh pins s σ H Q I h
 refine isTrue_and (thn (ha pins s σ H _ I h) fun c s1 ⟨H1,I1,q1⟩=>?_)
 cases c with
 |true=>exact hb wh pins s1 σ H1 Q I1 q1
 |false=>exact ⟨H1,I1,q1⟩
theorem pw_or (ha:PT X a tA) (hb:PW X (.BoolOp .Or (b::rest) pos) tB'):PW X (.BoolOp .Or (a::b::rest) pos) (tOr tA tB'):=by
 intro wh pins s σ H Q I h
 refine isTrue_or (thn (ha pins s σ H _ I h) fun c s1 ⟨H1,I1,q1⟩=>?_)
 cases c with
 |true=>exact ⟨H1,I1,q1⟩
 |false=>exact hb wh pins s1 σ H1 Q I1 q1
theorem pt_not (ha:PT X a tA):PT X (.UnaryOp .Not a pos) (tNot tA):=by
 intro pins s σ H Q I h
 exact isTrue_not (ha pins s σ H (fun c H1=>Q (!c) H1) I h)
theorem pe_one {op} {t:TE}(h:PE X a t):PE X (.BoolOp op [a] pos) t:=fun pins s σ H Q I hw=>BoolOp_one (h pins s σ H Q I hw)
noncomputable def tIf (t:TT) (ta tb:TE):TE:=fun σ H Q=>t σ H fun c H1=>if c=true then ta σ H1 Q else tb σ H1 Q
theorem pe_ifExp {c:Expr}(hc:PT X c tA) (ha:PE X a ta) (hb:PE X b tb):PE X (.IfExp c a b pos) (tIf tA ta tb):=by
 intro pins s σ H Q I h
 refine wpAny_IfExp (thn (hc pins s σ H _ I h) fun d s1 ⟨H1,I1,q1⟩=>?_)
 cases d with
 |true=>exact ha pins s1 σ H1 Q I1 q1
 |false=>exact hb pins s1 σ H1 Q I1 q1
end
end L2
namespace L2
open PySem PySem.Spec PyProof.Rows
noncomputable def SqL (K:PySem.W.Frag) (H:Hp) (a:Addr) (xs:List V):Prop:=
 Rd H a (.lst xs) ∨
  ∃(o:Obj) (its:Array Value) (n:Nat),K.lookup a=some o/\o.cls=.type "list" /\ o.dict=none/\o.data=.seq its n/\its.size<=sizeLine/\Vals xs its.toList
noncomputable def SqT (K:PySem.W.Frag) (H:Hp) (a:Addr) (xs:List V):Prop:=
 Rd H a (.tup xs) ∨
  ∃(o:Obj) (its:Array Value) (n:Nat),K.lookup a=some o/\o.cls=.type "tuple" /\ o.data=.seq its n/\its.size<=sizeLine/\Vals xs its.toList
noncomputable def absV:Value->Option V
 |.none=>some .non
 |.bool b=>some (.bl b)
 |.int i _=>some (.int i)
 |.str x _=>some (.str x)
 |.bytes b _=>some (.byt b)
 |.float b _=>some (.flt b)
 |.ref a=>some (.ref a)
 |.type n=>some (.ty n)
 |_=>none
theorem RelV.abs {x:V}{u:Value}(r:RelV x u):absV u=some x:=by
 cases x with
 |non=>cases r;rfl
 |bl _=>cases r;rfl
 |int _=>obtain ⟨t,rfl⟩:=r;rfl
 |str _=>obtain ⟨t,rfl⟩:=r;rfl
 |byt _=>obtain ⟨t,rfl⟩:=r;rfl
 |flt _=>obtain ⟨t,rfl⟩:=r;rfl
 |ref _=>cases r;rfl
 |ty _=>cases r;rfl
theorem RelV.inj {x y:V}{u:Value}(r:RelV x u) (q:RelV y u):x=y:=Option.some.inj (r.abs.symm.trans q.abs)
theorem Vals.inj:∀{xs ys:List V}{us:List Value},Vals xs us->Vals ys us->xs=ys
 |_,_,_,.nil,.nil=>rfl
 |_,_,_,.cons r t,.cons r' t'=>by rw [r.inj r',Vals.inj t t']
section
variable {X:Cx}{pins:List (Addr×Obj)}{σ:St}{H:Hp}{s:Shared}{a:Addr}{xs ys:List V}
theorem SqL.of {K:PySem.W.Frag}(h:H a=some (.lst xs)):SqL K H a xs:=.inl (.inl h)
theorem SqT.of {K:PySem.W.Frag}(h:H a=some (.tup xs)):SqT K H a xs:=.inl (.inl h)
theorem Inv.list (I:Inv X pins σ H s) (h:SqL X.K H a xs):∃its:List Value,Vals xs its/\PlainL s.heap a its.toArray/\xs.length<=sizeLine:=by
 rcases h with h | ⟨o,its,n,hk,hc,hd,hs,hz,r⟩
 ·obtain ⟨z,its,n,r,e⟩:=h.ok I.hok
  exact ⟨its,r,⟨_,n,e,rfl,rfl,rfl⟩,z⟩
 ·refine ⟨its.toList,r,⟨o,n,I.kIn a o hk,hc,hd,by simpa using hs⟩,?_⟩
  have e:=r.length
  simp only [Array.length_toList] at e
  omega
theorem Inv.tuple (I:Inv X pins σ H s) (h:SqT X.K H a xs):∃its:List Value,Vals xs its/\IsTup s.heap a its.toArray/\xs.length<=sizeLine:=by
 rcases h with h | ⟨o,its,n,hk,hc,hs,hz,r⟩
 ·obtain ⟨z,its,r,p⟩:=h.ok I.hok
  exact ⟨its,r,p,z⟩
 ·refine ⟨its.toList,r,⟨o,I.kIn a o hk,hc,n,by simpa using hs⟩,?_⟩
  have e:=r.length
  simp only [Array.length_toList] at e
  omega
theorem Inv.list_inj (I:Inv X pins σ H s) (h:SqL X.K H a xs) (h':SqL X.K H a ys):xs=ys:=by
 obtain ⟨its,r,⟨o,n,e,_,_,d⟩,_⟩:=I.list h
 obtain ⟨its',r',⟨o',n',e',_,_,d'⟩,_⟩:=I.list h'
 rw [e] at e';cases e'
 rw [d] at d'
 injection d' with d1 _
 have:its=its':=by simpa using congrArg Array.toList d1
 subst this
 exact r.inj r'
theorem Inv.tuple_inj (I:Inv X pins σ H s) (h:SqT X.K H a xs) (h':SqT X.K H a ys):xs=ys:=by
 obtain ⟨its,r,⟨o,e,_,n,d⟩,_⟩:=I.tuple h
 obtain ⟨its',r',⟨o',e',_,n',d'⟩,_⟩:=I.tuple h'
 rw [e] at e';cases e'
 rw [d] at d'
 injection d' with d1 _
 have:its=its':=by simpa using congrArg Array.toList d1
 subst this
 exact r.inj r'
end
noncomputable abbrev Cx.wish (X:Cx) (E:Value->Shared->Prop):Cx:={ X with xe:=E }
noncomputable abbrev Cx.nox (X:Cx):Cx:=X.wish fun _ _=>False
theorem Cx.Ok.wish {X:Cx}(ok:X.Ok) (E:Value->Shared->Prop):(X.wish E).Ok:=
 ⟨ok.mod,ok.kind,ok.glob,ok.blt,ok.above,ok.inj,ok.has,ok.cab,ok.hd,ok.frames,ok.stk,ok.exf,ok.bs,ok.bsz,ok.noex,ok.exfs,ok.funs,ok.frf,ok.hc⟩
theorem Cx.Ok.unwish {X:Cx}{E:Value->Shared->Prop}(ok:(X.wish E).Ok):X.Ok:=
 ⟨ok.mod,ok.kind,ok.glob,ok.blt,ok.above,ok.inj,ok.has,ok.cab,ok.hd,ok.frames,ok.stk,ok.exf,ok.bs,ok.bsz,ok.noex,ok.exfs,ok.funs,ok.frf,ok.hc⟩
section
variable {X:Cx}{pins:List (Addr×Obj)}{σ:St}{H:Hp}{s:Shared}{E:Value->Shared->Prop}
theorem Inv.wish (I:Inv X pins σ H s) (E:Value->Shared->Prop):Inv (X.wish E) pins σ H s:=⟨I.ok.wish E,I.os,I.bare,I.base,I.loc,I.cell,I.free,I.freeC,I.pin,I.hok,I.len⟩
theorem Inv.unwish (I:Inv (X.wish E) pins σ H s):Inv X pins σ H s:=⟨I.ok.unwish,I.os,I.bare,I.base,I.loc,I.cell,I.free,I.freeC,I.pin,I.hok,I.len⟩
theorem SP.unwish {D:Ends}{f:Flow}{s':Shared}(h:SP (X.wish E) pins D f s'):SP X pins D f s':=by
 cases f with
 |next=>obtain ⟨σ',H',I,q⟩:=h;exact ⟨σ',H',I.unwish,q⟩
 |brk=>obtain ⟨σ',H',I,q⟩:=h;exact ⟨σ',H',I.unwish,q⟩
 |cont=>obtain ⟨σ',H',I,q⟩:=h;exact ⟨σ',H',I.unwish,q⟩
 |ret u=>obtain ⟨v,σ',H',I,r,q⟩:=h;exact ⟨v,σ',H',I.unwish,r,q⟩
theorem PSs.nox {st:List Stmt}{t:TS}(h:PSs X.nox st t):PSs X st t:=fun pins s σ H D I hw=>
 wpAny_mono (h pins s σ H D (I.wish _) hw) (fun _ _ q=>q.unwish) fun _ _ z=>False.elim z
end
section
variable {X:Cx}{st:Stmt}{rest:List Stmt}{t u:TS}{e:Expr}{te:TE}{pos:Pos}
noncomputable def tNext:TS:=fun D σ H=>D.nx σ H
noncomputable def tSeq (t u:TS):TS:=fun D σ H=>t { D with nx:=u D } σ H
theorem pss_nil:PSs X [] tNext:=fun _ _ σ H _ I h=>wpAny_execs_nil ⟨σ,H,I,h⟩
theorem pss_cons (h1:PS X st t) (h2:PSs X rest u):PSs X (st::rest) (tSeq t u):=by
 intro pins s σ H D I h
 refine wpAny_execs_cons (thn (h1 pins s σ H { D with nx:=u D } I h) fun f s1 q=>?_)
 cases f with
 |next=>
  obtain ⟨σ',H',I',q⟩:=q
  exact h2 pins s1 σ' H' D I' q
 |ret v=>exact q
 |brk=>exact q
 |cont=>exact q
theorem pss_one (h1:PS X st t):PSs X [st] t:=by
 intro pins s σ H D I h
 refine wpAny_execs_cons (thn (h1 pins s σ H D I h) fun f s1 q=>?_)
 cases f with
 |next=>exact wpAny_execs_nil q
 |ret v=>exact q
 |brk=>exact q
 |cont=>exact q
theorem Inv.quiet {pins:List (Addr×Obj)}{σ:St}{H:Hp}{s:Shared}(I:Inv X pins σ H s):interactive X.env=false:=by simp [interactive,I.ok.kind]
noncomputable def tDrop (te:TE):TS:=fun D σ H=>te σ H fun _ H1=>D.nx σ H1
theorem ps_expr (he:PE X e te) (hs:swapsWith e none pos.line X.env=pure false:=by rfl):PS X (.Expr e pos) (tDrop te):=by
 intro pins s σ H D I h
 exact wpAny_Expr_any (thn (he pins s σ H _ I h) fun v s1 ⟨x,H1,I1,r1,q1⟩=>⟨σ,H1,I1,q1⟩) I.quiet hs
noncomputable def tRet (te:TE):TS:=fun D σ H=>te σ H D.rt
theorem ps_ret (he:PE X e te):PS X (.Return (some e) pos) (tRet te):=by
 intro pins s σ H D I h
 exact wpAny_Return_some (thn (he pins s σ H _ I h) fun v s1 ⟨x,H1,I1,r1,q1⟩=>⟨x,σ,H1,I1,r1,q1⟩)
noncomputable def tIfS (c:TT) (t u:TS):TS:=fun D σ H=>c σ H fun b H1=>if b=true then t D σ H1 else u D σ H1
theorem ps_if {c:Expr}{a b:List Stmt}{tc:TT}(hc:PT X c tc) (ha:PSs X a t) (hb:PSs X b u):PS X (.If c a b pos) (tIfS tc t u):=by
 intro pins s σ H D I h
 refine wpAny_If (thn (hc pins s σ H _ I h) fun d s1 ⟨H1,I1,q1⟩=>?_)
 cases d with
 |true=>exact ha pins s1 σ H1 D I1 q1
 |false=>exact hb pins s1 σ H1 D I1 q1
end
noncomputable abbrev TG:=V->St->Hp->(St->Hp->Prop)->Prop
noncomputable abbrev TGs:=List V->St->Hp->(St->Hp->Prop)->Prop
noncomputable def PG (X:Cx) (target:Expr) (t:TG):Prop:=
 ∀(pins:List (Addr×Obj)) (s:Shared) (σ:St) (H:Hp) (v:V) (u:Value) (Q:St->Hp->Prop),Inv X pins σ H s->RelV v u->t v σ H Q ->
  wpAny (model X.prog X.w) X.A (assign target X.env u) (fun _ s'=>∃σ' H',Inv X pins σ' H' s'/\Q σ' H') X.xe s
noncomputable def PGs (X:Cx) (ts:List Expr) (t:TGs):Prop:=
 ∀(pins:List (Addr×Obj)) (s:Shared) (σ:St) (H:Hp) (vs:List V) (us:List Value) (Q:St->Hp->Prop),Inv X pins σ H s->Vals vs us->t vs σ H Q ->
  wpAny (model X.prog X.w) X.A (assignInOrder ((assignEach ts X.env).map (·.2)) us) (fun _ s'=>∃σ' H',Inv X pins σ' H' s'/\Q σ' H') X.xe s
noncomputable abbrev TSet:=V->V->V->Hp->(Hp->Prop)->Prop
noncomputable def PSet (X:Cx) (t:TSet):Prop:=
 ∀(pins:List (Addr×Obj)) (s:Shared) (σ:St) (H:Hp) (o i v:V) (ov iv u:Value) (Q:Hp->Prop),Inv X pins σ H s->RelV o ov->RelV i iv->RelV v u->t o i v H Q ->
  wpAny (model X.prog X.w) X.A (setItem ov iv u) (fun _ s'=>∃H',Inv X pins σ H' s'/\Q H') X.xe s
section
variable {X:Cx}{pos:Pos}
noncomputable def gName (i:Nat):TG:=fun v σ H Q=>Q (σ.set i (some v)) H
theorem pg_name {i:Nat}{x:Str}(hN:X.N.Nodup) (hi:X.N[i]?=some x) (hx:Loc X.env.scope x) (hf:X.fn x=true∨X.env.scope.names.lookup x=some .local:=by first | exact .inl rfl | exact .inr rfl | assumption):PG X (.Name x pos) (gName i):=by
 intro pins s σ H v u Q I r h
 exact wpAny_assign_Name (store_ok I hN hi hx r (fun s' I'=>⟨_,H,I',h⟩) hf)
noncomputable def gNil:TGs:=fun vs σ H Q=>vs=[]/\Q σ H
noncomputable def gCons (t:TG) (u:TGs):TGs:=fun vs σ H Q=>∃v r,vs=v::r/\t v σ H fun σ' H'=>u r σ' H' Q
theorem pgs_nil:PGs X [] gNil:=by
 intro pins s σ H vs us Q I r h
 obtain ⟨e,h⟩:=h
 subst e
 cases r
 exact assignInOrder_nil ⟨σ,H,I,h⟩
theorem pgs_cons {e:Expr}{es:List Expr}{t:TG}{u:TGs}(h1:PG X e t) (h2:PGs X es u)
  (hs:(assignEach (e::es) X.env).map (·.2)=assign e X.env::(assignEach es X.env).map (·.2):=by rfl):PGs X (e::es) (gCons t u):=by
 intro pins s σ H vs us Q I r h
 obtain ⟨v,vr,e1,h⟩:=h
 subst e1
 cases r with
 |cons r rr=>
  rw [hs]
  refine assignInOrder_cons (thn (h1 pins s σ H _ _ _ I r h) fun _ s1 ⟨σ1,H1,I1,q1⟩=>?_)
  exact h2 pins s1 σ1 H1 _ _ Q I1 rr q1
noncomputable def gTup (K:PySem.W.Frag) (n:Nat) (t:TGs):TG:=fun v σ H Q=>∃a xs,v=.ref a/\SqT K H a xs/\xs.length=n/\t xs σ H Q
theorem pg_tup {es:List Expr}{k:Nat}{t:TGs}{n:Nat}(hc:X.calm=true) (h:PGs X es t)
  (hn:(assignEach es X.env).length=n:=by rfl) (hst:(assignEach es X.env).findIdx? (·.1)=none:=by rfl):PG X (.Tuple es k pos) (gTup X.K n t):=by
 intro pins s σ H v u Q I r hw
 obtain ⟨a,xs,e1,hq,hl,hw⟩:=hw
 subst e1
 cases r
 obtain ⟨its,rv,ht,hz⟩:=I.tuple hq
 refine XH.assign_Tuple_tuple (I.hdAt0 hc) ht (by simp [hn,<-hl,rv.length]) hst fun h' hx=>?_
 have I1:Inv X pins σ H { s with heap:=h' }:=I.kept (t':=s.toks) fun b o e=>hx b o (Nat.ne_of_lt (Heap.lt_size e)) e
 exact h pins _ σ H xs _ Q I1 (by simpa using rv) hw
noncomputable def gSub (to ti:TE) (t:TSet):TG:=fun v σ H Q=>to σ H fun o H1=>ti σ H1 fun i H2=>t o i v H2 fun H3=>Q σ H3
theorem pg_sub {o i:Expr}{to ti:TE}{t:TSet}(ho:PE X o to) (hi:PE X i ti) (hs:PSet X t)
  (ha:∀v,assign (.Subscript o i pos) X.env v=(do
   let ov <-holding [v] (eval o X.env)
   let iv <-holding [v,ov] (eval i X.env)
   standAt pos
   holding [v,ov,iv] (setItem ov iv v)
   release [v,ov,iv] []):=by intro _;rfl):PG X (.Subscript o i pos) (gSub to ti t):=by
 intro pins s σ H v u Q I r h
 rw [ha]
 refine wpAny_bind (wpAny_holding (thn (ho pins s σ H _ I h) fun ov s1 ⟨x,H1,I1,r1,q1⟩=>?_))
 refine wpAny_bind (wpAny_holding (thn (hi pins s1 σ H1 _ I1 q1) fun iv s2 ⟨y,H2,I2,r2,q2⟩=>?_))
 refine wpAny_bind (wpAny_standAt (wpAny_bind (wpAny_holding (thn (hs pins s2 σ H2 x y v ov iv u _ I2 r1 r2 r q2) fun _ s3 ⟨H3,I3,q3⟩=>?_))))
 exact wpAny_release ⟨σ,H3,I3,q3⟩
noncomputable def tAsg (te:TE) (g:TG):TS:=fun D σ H=>te σ H fun x H1=>g x σ H1 D.nx
theorem ps_asg {tg e:Expr}{te:TE}{g:TG}(he:PE X e te) (hg:PG X tg g) (hs:swapsWithSole [tg] e pos.line X.env=pure false:=by rfl) (hw:swappedStores [tg] e X.env=pure none:=by rfl)
  (h1:(assignEach [tg] X.env).map (·.2)=[assign tg X.env]:=by rfl):PS X (.Assign [tg] e pos) (tAsg te g):=by
 intro pins s σ H D I h
 refine wpAny_Assign_stores (thn (he pins s σ H _ I h) fun v s1 ⟨x,H1,I1,r1,q1⟩=>?_) hs hw
 rw [h1]
 exact thn (hg pins s1 σ H1 x v _ I1 r1 q1) fun _ s2 q=>q
theorem ps_set {i:Nat}{x:Str}{e:Expr}{te:TE}{pos':Pos}(hN:X.N.Nodup) (hi:X.N[i]?=some x) (hx:Loc X.env.scope x) (he:PE X e te) (hs:swapsWith e (some (.Name x pos')) pos.line X.env=pure false:=by rfl) (hf:X.fn x=true∨X.env.scope.names.lookup x=some .local:=by first | exact .inl rfl | exact .inr rfl | assumption) :
  PS X (.Assign [.Name x pos'] e pos) (tAsg te (gName i)):=by
 intro pins s σ H D I h
 refine wpAny_Assign_Name (thn (he pins s σ H _ I h) fun v s1 ⟨y,H1,I1,r1,q1⟩=>?_) hs
 exact store_ok I1 hN hi hx r1 (fun s2 I2=>⟨_,H1,I2,q1⟩) hf
end
section
variable {X:Cx}{pos:Pos}
noncomputable def tWhile (c:TT) (tb:TS):TS:=fun D σ H=>∃W:Nat->St->Hp->Prop,(∃m,W m σ H)/\∀m σ H,W m σ H ->
 c σ H fun b H1=>if b=true then ∃N:St->Hp->Prop,(∀σ' H',N σ' H'->∃m',m' < m/\W m' σ' H')/\tb { D with nx:=N,ct:=N,bk:=D.nx } σ H1 else D.nx σ H1
theorem ps_while {c:Expr}{body:List Stmt}{tc:TT}{tb:TS}(hp:PassesOwn (model X.prog X.w) X.A X.env X.xe) (hc:PT X c tc) (hb:PSs X body tb):PS X (.While c body [] pos) (tWhile tc tb):=by
 intro pins s σ H D I h
 obtain ⟨W,⟨m0,w0⟩,turn⟩:=h
 refine wpAny_While (codeAny_whileLoop (fun n s'=>∃σ' H',Inv X pins σ' H' s'/\W n σ' H') ?_ m0 ⟨σ,H,I,w0⟩)
 rintro n s1 ⟨σ1,H1,I1,w1⟩
 refine wpAny_passesOwn hp (thn (hc pins s1 σ1 H1 _ I1 (turn n σ1 H1 w1)) fun b s2 ⟨H2,I2,q2⟩=>?_)
 cases b with
 |true=>
  obtain ⟨N,hN,q2⟩:=q2
  rw [if_pos rfl]
  refine wpAny_passesOwn hp (thn (hb pins s2 σ1 H2 _ I2 q2) fun f s3 q3=>?_)
  cases f with
  |next=>
   obtain ⟨σ3,H3,I3,n3⟩:=q3
   obtain ⟨m',hm,w3⟩:=hN σ3 H3 n3
   exact ⟨m',hm,σ3,H3,I3,w3⟩
  |cont=>
   obtain ⟨σ3,H3,I3,n3⟩:=q3
   obtain ⟨m',hm,w3⟩:=hN σ3 H3 n3
   exact ⟨m',hm,σ3,H3,I3,w3⟩
  |brk=>exact q3
  |ret v=>exact q3
 |false=>
  rw [if_neg Bool.false_ne_true]
  exact wpAny_execs_nil ⟨σ1,H2,I2,q2⟩
end
structure It where
 go:Nat->Hp->Prop
 yld:Nat->Hp->V->Hp->Prop
 stop:Nat->Hp->Prop
noncomputable def FpOk (X:Cx) (pins:List (Addr×Obj)) (H:Hp) (b:Addr):Prop:=
 H b=none/\b≠X.env.locals/\b∉X.fs/\(b∈X.ex∨X.s₀.heap.objs.size<=b)/\(∀x c,X.env.cells.lookup x=some c->c≠b)/\∀p∈X.pn++pins,p.1≠b
theorem Inv.fpOk {X:Cx}{pins:List (Addr×Obj)}{σ:St}{H H':Hp}{s:Shared}{b:Addr}(I:Inv X pins σ H s) (hb:s.heap.objs.size<=b) (hn:H' b=none):FpOk X pins H' b:=by
 refine ⟨hn,Nat.ne_of_gt (Nat.lt_of_lt_of_le I.lt hb),I.nofs hb,.inr (Nat.le_trans I.sz hb),fun x c e z=>?_,fun p hp z=>?_⟩
 ·obtain ⟨v,q⟩:=I.cell x c e
  exact absurd (Nat.lt_of_lt_of_le q.lt (by rw [z];exact hb)) (Nat.lt_irrefl _)
 ·exact absurd (Nat.lt_of_lt_of_le (Heap.lt_size (I.pin p hp).1) (by rw [z];exact hb)) (Nat.lt_irrefl _)
structure Turn (P:Program) (w:World) (K:PySem.W.Frag) (tg:Expr) (J:It) (fp:List Addr) (it:Addr) (tn:Nat->Heap->Prop):Prop where
 mem:it∈fp
 obj:∀i h,tn i h->∀b∈fp,∃o,h.get? b=some o/\∀v,o.data≠.cell v
 keep:∀i h h',tn i h->(∀b∈fp,∀o,h.get? b=some o->h'.get? b=some o)->tn i h'
 item:∀(X:Cx),X.prog=P->X.w=w->X.K=K->X.calm=true->∀(i:Nat) (pins:List (Addr×Obj)) (s:Shared) (σ:St) (H:Hp) (E:Value->Shared->Prop),Inv X pins σ H s->(∀b∈fp,FpOk X pins H b)->tn i s.heap->J.go i H ->
  wpAny (model P w) X.A (pyNext (.ref it)) (fun r s1=>∃u,r=some u /\
   wpAny (model P w) X.A (letOwnedTupleGo tg (.ref it) u) (fun _ s2=>∃x H',Inv X pins σ H' s2/\RelV x u/\J.yld i H x H'/\tn (i+1) s2.heap/\∀b∈fp,H' b=none) E s1) E s
 done:∀(X:Cx),X.prog=P->X.w=w->X.K=K->X.calm=true->∀(i:Nat) (pins:List (Addr×Obj)) (s:Shared) (σ:St) (H:Hp) (E:Value->Shared->Prop),Inv X pins σ H s->(∀b∈fp,FpOk X pins H b)->tn i s.heap->J.stop i H ->
  wpAny (model P w) X.A (pyNext (.ref it)) (fun r s1=>r=none/\Inv X pins σ H s1) E s
 self:∀(A:Around) (i:Nat) (s:Shared) (Q:Value->Shared->Prop) (E:Value->Shared->Prop),tn i s.heap->Q (.ref it) s->wpAny (model P w) A (pyIter (.ref it)) Q E s
noncomputable abbrev TI:=St->Hp->(It->Hp->Prop)->Prop
noncomputable def PIE (X:Cx) (pins:List (Addr×Obj)) (σ:St) (tg:Expr) (R:It->Hp->Prop) (itv:Value) (s2:Shared):Prop:=
 ∃(it:Addr) (fp:List Addr) (tn:Nat->Heap->Prop) (J:It) (H':Hp),itv=.ref it/\Inv X pins σ H' s2/\Turn X.prog X.w X.K tg J fp it tn/\tn 0 s2.heap/\(∀b∈fp,FpOk X pins H' b)/\R J H'
noncomputable def PI (X:Cx) (tg iter:Expr) (wi:TI):Prop:=
 ∀(pins:List (Addr×Obj)) (s:Shared) (σ:St) (H:Hp) (R:It->Hp->Prop),Inv X pins σ H s->wi σ H R ->
  wpAny (model X.prog X.w) X.A (eval iter X.env) (fun v s1=>wpAny (model X.prog X.w) X.A (pyIter v) (PIE X pins σ tg R) X.xe s1) X.xe s
theorem go_of {M : Model} {A : Around} {E : Value → Shared → Prop} {s : Shared} {tg : Expr} {it : Addr} {u : Value} {o : Obj} {n : String} {vs : Array Value} {Q : Unit → Shared → Prop} (ho : s.heap.get? it = some o) (hc : o.cls = .type n) (hd : o.data = .fields vs)
    (hn : ["enumerate", "zip", "dict_itemiterator", "dict_reverseitemiterator", "odict_iterator", "itertools.zip_longest", "itertools.pairwise"].contains n = false) (hQ : Q () s) : wpAny M A (letOwnedTupleGo tg (.ref it) u) Q E s := by
  unfold letOwnedTupleGo
  cases tg <;> first
    | exact wpAny_pure hQ
    | (cases u <;> first
        | exact wpAny_pure hQ
        | (refine wpAny_bind (wpAny_load ho ?_)
           rw [hc, hd]
           show wpAny M A (if (["enumerate", "zip", "dict_itemiterator", "dict_reverseitemiterator", "odict_iterator", "itertools.zip_longest", "itertools.pairwise"].contains n && vs[0]? == some (rawInt _)) = true then _ else _) Q E s
           rw [if_neg (by intro h; rw [hn, Bool.false_and] at h; cases h)]
           exact wpAny_pure hQ))
noncomputable def Itl (K:PySem.W.Frag) (a:Addr):It:=
 ⟨fun i H=>∃xs x,SqL K H a xs/\xs[i]?=some x,fun i H x H'=>H'=H/\∀xs,SqL K H a xs->xs[i]?=some x,fun i H=>∃xs,SqL K H a xs/\xs.length<=i⟩
noncomputable def Itt (K:PySem.W.Frag) (a:Addr):It:=
 ⟨fun i H=>∃xs x,SqT K H a xs/\xs[i]?=some x,fun i H x H'=>H'=H/\∀xs,SqT K H a xs->xs[i]?=some x,fun i H=>∃xs,SqT K H a xs/\xs.length<=i⟩
noncomputable def Itr (lo:Int) (n:Nat):It:=⟨fun i _=>i < n,fun i H x H'=>H'=H/\x=.int (lo+i),fun i _=>n<=i⟩
theorem turn_list {P:Program}{w:World}{K:PySem.W.Frag}{tg:Expr}(a it:Addr):Turn P w K tg (Itl K a) [it] it (fun i h=>h.IsListIter it a i) where
 mem:=by simp
 obj:=fun i h st b hb=>by
  have e:b=it:=by simpa using hb
  subst e
  obtain ⟨o,e,c,d⟩:=st
  exact ⟨o,e,fun v z=>by rw [d] at z;cases z⟩
 keep:=fun i h h' st k=>st.at fun o e=>k it (by simp) o e
 item:=by
  intro X hP hw hK hc i pins s σ H E I hf st hg
  subst hP hw hK
  obtain ⟨xs,x,hq,hx⟩:=hg
  obtain ⟨its,rv,p,hz⟩:=I.list hq
  obtain ⟨u,hu,ru⟩:=rv.get hx
  obtain ⟨f0,f1,f2,f3,f4,f5⟩:=hf it (by simp)
  refine wpAny_pyNext_list_item st p.isList (x:=u) (by simpa using hu) fun h' st' sb=>?_
  have I1:Inv X pins σ H { s with heap:=h' }:=I.turned (t':=s.toks) (fun b o hb e=>(sb.2 b hb).trans e) f0 f1 f3 f4 f5
  obtain ⟨o,e,c,d⟩:=id st'
  exact ⟨u,rfl,go_of (s:={ s with heap:=h' }) e c d (by decide) ⟨x,H,I1,ru,⟨rfl,fun ys hy=>by rw [I.list_inj hy hq];exact hx⟩,st',fun b hb=>(hf b hb).1⟩⟩
 done:=by
  intro X hP hw hK hc i pins s σ H E I hf st hg
  subst hP hw hK
  obtain ⟨xs,hq,hx⟩:=hg
  obtain ⟨its,rv,p,hz⟩:=I.list hq
  obtain ⟨f0,f1,f2,f3,f4,f5⟩:=hf it (by simp)
  have hl:=rv.length
  exact XH.list_end (I.hdAt1 hc f0) st p.isList (by simp;omega) fun h' eb=>⟨rfl,I.turned (t':=s.toks) (fun b o hb e=>eb b o hb e) f0 f1 f3 f4 f5⟩
 self:=fun _ _ _ _ _ st h=>wpAny_pyIter_listiter st h
theorem turn_tuple {P:Program}{w:World}{K:PySem.W.Frag}{tg:Expr}(a it:Addr):Turn P w K tg (Itt K a) [it] it (fun i h=>h.IsTupleIter it a i) where
 mem:=by simp
 obj:=fun i h st b hb=>by
  have e:b=it:=by simpa using hb
  subst e
  obtain ⟨o,e,c,d⟩:=st
  exact ⟨o,e,fun v z=>by rw [d] at z;cases z⟩
 keep:=fun i h h' st k=>st.at fun o e=>k it (by simp) o e
 item:=by
  intro X hP hw hK hc i pins s σ H E I hf st hg
  subst hP hw hK
  obtain ⟨xs,x,hq,hx⟩:=hg
  obtain ⟨its,rv,p,hz⟩:=I.tuple hq
  obtain ⟨u,hu,ru⟩:=rv.get hx
  obtain ⟨f0,f1,f2,f3,f4,f5⟩:=hf it (by simp)
  refine wpAny_pyNext_tuple_item st (show s.heap.IsTuple a its.toArray from p) (x:=u) (by simpa using hu) fun h' st' sb=>?_
  have I1:Inv X pins σ H { s with heap:=h' }:=I.turned (t':=s.toks) (fun b o hb e=>(sb.2 b hb).trans e) f0 f1 f3 f4 f5
  obtain ⟨o,e,c,d⟩:=id st'
  exact ⟨u,rfl,go_of (s:={ s with heap:=h' }) e c d (by decide) ⟨x,H,I1,ru,⟨rfl,fun ys hy=>by rw [I.tuple_inj hy hq];exact hx⟩,st',fun b hb=>(hf b hb).1⟩⟩
 done:=by
  intro X hP hw hK hc i pins s σ H E I hf st hg
  subst hP hw hK
  obtain ⟨xs,hq,hx⟩:=hg
  obtain ⟨its,rv,p,hz⟩:=I.tuple hq
  obtain ⟨f0,f1,f2,f3,f4,f5⟩:=hf it (by simp)
  have hl:=rv.length
  exact XH.tuple_end (I.hdAt1 hc f0) st (show s.heap.IsTuple a its.toArray from p) (by simp;omega) fun h' eb=>⟨rfl,I.turned (t':=s.toks) (fun b o hb e=>eb b o hb e) f0 f1 f3 f4 f5⟩
 self:=fun _ _ _ _ _ st h=>wpAny_pyIter_tupleiter st h
theorem turn_range {P:Program}{w:World}{K:PySem.W.Frag}{tg:Expr}(it:Addr) (lo:Int) (n:Nat):Turn P w K tg (Itr lo n) [it] it (fun i h=>IsRangeIter h it (lo+(i:Nat) * 1) ((n:Int)-(i:Nat)) 1) where
 mem:=by simp
 obj:=fun i h st b hb=>by
  have e:b=it:=by simpa using hb
  subst e
  exact ⟨_,st,fun v z=>by
   have z':Data.fields _=Data.cell v:=z
   cases z'⟩
 keep:=fun i h h' st k=>k it (by simp) _ st
 item:=by
  intro X hP hw hK hc i pins s σ H E I hf st hg
  subst hP hw hK
  obtain ⟨f0,f1,f2,f3,f4,f5⟩:=hf it (by simp)
  have st0:=st
  refine wpAny_pyNext_range_item st0 (by have:i < n:=hg;omega) fun h' hit' hs'=>?_
  have e1:lo+((i+1:Nat):Int) * 1=lo+(i:Int) * 1+1:=by push_cast;omega
  have e2:(n:Int)-((i+1:Nat):Int)=(n:Int)-(i:Int)-1:=by push_cast;omega
  have st':IsRangeIter h' it (lo+((i+1:Nat):Int) * 1) ((n:Int)-((i+1:Nat):Int)) 1:=by rw [e1,e2];exact hit'
  have kk:∀b o,b∉[it]->s.heap.get? b=some o->h'.get? b=some o:=fun b o hb e=>hs'.extBut b o (fun h=>hb (by simp [h])) e
  generalize s.toks=t,s.toks+1=tk
  have I1:Inv X pins σ H { s with heap:=h',toks:=tk }:=I.turned (fun b o hb e=>kk b o (by simpa using hb) e) f0 f1 f3 f4 f5
  refine ⟨_,rfl,go_of (s:={ s with heap:=h',toks:=tk }) (n := "range_iterator") st' rfl rfl (by decide) ⟨.int (lo+i),H,I1,⟨t,?_⟩,⟨rfl,rfl⟩,st',fun b hb=>(hf b hb).1⟩⟩
  rw [Int.mul_one]
 done:=by
  intro X hP hw hK hc i pins s σ H E I hf st hg
  subst hP hw hK
  obtain ⟨f0,f1,f2,f3,f4,f5⟩:=hf it (by simp)
  exact XH.range_end (I.hdAt0 hc) st (by have:n<=i:=hg;omega) fun h' eb=>⟨rfl,I.turned (t':=s.toks) (fun b o hb e=>eb b o hb e) f0 f1 f3 f4 f5⟩
 self:=fun _ _ _ _ _ st h=>wpAny_pyIter_rangeiter st h
end L2
namespace L2
open PySem PySem.Spec PyProof.Rows
section
variable {X:Cx}{tg:Expr}
theorem range_it {pins:List (Addr×Obj)}{σ:St}{H:Hp}{s:Shared}{R:It->Hp->Prop}{E:Value->Shared->Prop}{lo hi:Int}{t u v:Tok}{tk:Nat}(I:Inv X pins σ H s) (h1:-(2 ^ 62)<=lo) (h2:lo < 2 ^ 62) (h3:-(2 ^ 62)<=hi) (h4:hi < 2 ^ 62)
  (q:R (Itr lo (hi-lo).toNat) H):wpAny (model X.prog X.w) X.A (pyIter (.ref s.heap.objs.size)) (PIE X pins σ tg R) E { s with heap:=s.heap.push { cls:=.type "range", data:=.fields #[.int lo t,.int hi u,.int 1 v] },toks:=tk }:=by
 refine wpAny_pyIter_range (IsRange.new ..) (small_one h1 h2 h3 h4) ?_
 have I1:Inv X pins σ H { s with heap:=s.heap.push { cls:=.type "range", data:=.fields #[.int lo t,.int hi u,.int 1 v] },toks:=tk }:=I.kept fun b o e=>Heap.get?_push_of_some _ e
 refine ⟨(s.heap.push { cls:=.type "range", data:=.fields #[.int lo t,.int hi u,.int 1 v] }).objs.size,[(s.heap.push { cls:=.type "range", data:=.fields #[.int lo t,.int hi u,.int 1 v] }).objs.size],_,_,H,rfl,
  I1.kept (t':=tk) fun b o e=>Heap.get?_push_of_some _ e,turn_range _ lo (hi-lo).toNat,?_,fun b hb=>?_,q⟩
 ·have e1:lo+((0:Nat):Int) * 1=lo:=by simp
  have e2:(((hi-lo).toNat:Nat):Int)-((0:Nat):Int)=Builtin.Range.rangeSize lo hi 1:=by rw [rangeSize_one];split<;>omega
  show IsRangeIter _ _ (lo+((0:Nat):Int) * 1) ((((hi-lo).toNat:Nat):Int)-((0:Nat):Int)) 1
  rw [e1,e2]
  exact Heap.get?_push_size _ rfl
 ·have e:b=(s.heap.push { cls:=.type "range", data:=.fields #[.int lo t,.int hi u,.int 1 v] }).objs.size:=by simpa using hb
  subst e
  exact I1.fpOk (Nat.le_refl _) (I1.hok.fresh (Nat.le_refl _))
noncomputable def iRng1 (ta:TA):TI:=fun σ H R=>ta σ H fun vs H1=>∃j:Int,vs=[.int j]/\-(2 ^ 62)<=j/\j < 2 ^ 62/\R (Itr 0 j.toNat) H1
theorem pi_range1 {a:Expr}{ta:TA}{p pos:Pos}(hg:Gl X "range") (hm:X.mg "range" = none) (ha:PA X [a] ta) (hs:starEach [a] X.env=[(false,eval a X.env)]:=by rfl):PI X tg (.Call (.Name "range" p) [a] [] pos) (iRng1 ta):=by
 intro pins s σ H R I h
 refine Call_ (ld_blt I hg hm boot_range (PyProof.Rows.callWith_type1 (thn (ha pos pins s σ H _ I h) fun us s1 ⟨vs,H1,I1,r1,q1⟩=>?_) hs rfl))
 obtain ⟨j,e,q1,q2,q⟩:=q1
 subst e
 cases r1 with
 |cons r rr=>
  cases rr
  obtain ⟨t,rfl⟩:=r
  exact call_range_1 (range_it I1 (by omega) (by omega) q1 q2 (by simpa using q))
noncomputable def tFor (wi:TI) (g:TG) (tb:TS):TS:=fun D σ H=>wi σ H fun J H1=>∃W:Nat->Nat->St->Hp->Prop,(∃m,W 0 m σ H1)/\∀i m σ H,W i m σ H ->
 (J.stop i H/\D.nx σ H)∨(J.go i H/\∃N:St->Hp->Prop,(∀σ' H',N σ' H'->∃m',m' < m/\W (i+1) m' σ' H')/\∀x H',J.yld i H x H'->g x σ H' fun σ2 H2=>tb { D with nx:=N,ct:=N,bk:=D.nx } σ2 H2)
noncomputable def pinsAt (fp:List Addr) (h:Heap):List (Addr×Obj):=fp.filterMap fun b=>(h.get? b).map fun o=>(b,o)
theorem mem_pinsAt {fp:List Addr}{h:Heap}{b:Addr}{o:Obj}(hb:b∈fp) (e:h.get? b=some o):(b,o)∈pinsAt fp h:=List.mem_filterMap.mpr ⟨b,hb,by rw [e];rfl⟩
theorem of_pinsAt {fp:List Addr}{h:Heap}{p:Addr×Obj}(hp:p∈pinsAt fp h):p.1∈fp/\h.get? p.1=some p.2:=by
 obtain ⟨b,hb,e⟩:=List.mem_filterMap.mp hp
 cases q:h.get? b with
 |none=>rw [q] at e;cases e
 |some o=>
  rw [q] at e
  have e':(b,o)=p:=Option.some.inj e
  subst e'
  exact ⟨hb,q⟩
theorem Inv.pinned {pins:List (Addr×Obj)}{σ:St}{H:Hp}{s:Shared}{fp:List Addr}(I:Inv X pins σ H s) (hf:∀b∈fp,FpOk X pins H b) (ho:∀b∈fp,∃o,s.heap.get? b=some o/\∀v,o.data≠.cell v):Inv X (pins++pinsAt fp s.heap) σ H s:=
 I.pins_of fun p hp=>(List.mem_append.mp hp).elim (fun z=>I.pin p (List.mem_append_right _ z)) fun z=>by
  obtain ⟨hb,e⟩:=of_pinsAt z
  obtain ⟨f0,f1,f2,_⟩:=hf p.1 hb
  obtain ⟨o,e',d⟩:=ho p.1 hb
  rw [e] at e';cases e'
  exact ⟨e,f0,f1,f2,d⟩
theorem Inv.unpinned {pins pl:List (Addr×Obj)}{σ:St}{H:Hp}{s:Shared}(I:Inv X (pins++pl) σ H s):Inv X pins σ H s:=I.pins_of fun p hp=>I.pin p (List.mem_append_right _ (List.mem_append_left _ hp))
theorem ps_for {iter:Expr}{body:List Stmt}{wi:TI}{g:TG}{tb:TS}{pos:Pos}(hp:PassesOwn (model X.prog X.w) X.A X.env X.xe) (hc:X.calm=true) (hi:PI X tg iter wi) (hg:PG X tg g) (hb:PSs X body tb)
  (hs:∀x,foldedSetIterable iter X.env x=pure x:=by intro _;rfl):PS X (.For tg iter body [] pos) (tFor wi g tb):=by
 intro pins s σ H D I h
 refine wpAny_For (thn (hi pins s σ H _ I h) fun v s1 h1=>thn h1 fun itv s2 h2=>?_) hs
 obtain ⟨it,fp,tn,J,H2,e,I2,T,st2,f2,W,⟨m0,w0⟩,turn⟩:=h2
 subst e
 have stat:∀{H':Hp},(∀b∈fp,H' b=none)->∀b∈fp,FpOk X pins H' b:=fun hn b hb=>⟨hn b hb,(f2 b hb).2⟩
 refine codeAny_forLoop_any (fun n s'=>∃i σ' H',Inv X pins σ' H' s'/\tn i s'.heap/\(∀b∈fp,H' b=none)/\W i n σ' H') ?_ m0 ⟨0,σ,H2,I2,st2,fun b hb=>(f2 b hb).1,w0⟩
 rintro n s3 ⟨i,σ3,H3,I3,st3,fr3,w3⟩
 rcases turn i n σ3 H3 w3 with ⟨stop,qn⟩ | ⟨go,N,hN,step⟩
 ·refine wpAny_passesOwn hp (thn (T.done X rfl rfl rfl hc i pins s3 σ3 H3 X.xe I3 (stat fr3) st3 stop) fun r s4 ⟨hr,I4⟩=>?_)
  subst hr
  exact wpAny_execs_nil ⟨σ3,H3,I4,qn⟩
 ·refine wpAny_passesOwn hp (thn (T.item X rfl rfl rfl hc i pins s3 σ3 H3 X.xe I3 (stat fr3) st3 go) fun r s4 ⟨u,hr,h4⟩=>?_)
  subst hr
  refine wpAny_passesOwn hp (thn h4 fun _ s5 ⟨x,H5,I5,r5,y5,st5,fr5⟩=>?_)
  have I5':=I5.pinned (stat fr5) (T.obj _ _ st5)
  refine wpAny_passesOwn hp (thn (hg _ s5 σ3 H5 x u _ I5' r5 (step x H5 y5)) fun _ s6 ⟨σ6,H6,I6,q6⟩=>?_)
  refine wpAny_passesOwn hp (thn (hb _ s6 σ6 H6 _ I6 q6) fun f s7 q7=>?_)
  have again:∀{σ7:St}{H7:Hp},Inv X (pins++pinsAt fp s5.heap) σ7 H7 s7->N σ7 H7->∃m,m < n/\∃i σ' H',Inv X pins σ' H' s7/\tn i s7.heap/\(∀b∈fp,H' b=none)/\W i m σ' H':=fun {σ7 H7} I7 n7=>by
   obtain ⟨m',hm,w7⟩:=hN σ7 H7 n7
   refine ⟨m',hm,i+1,σ7,H7,I7.unpinned,T.keep _ _ _ st5 fun b hb o e=>(I7.pin (b,o) (List.mem_append_right _ (List.mem_append_right _ (mem_pinsAt hb e)))).1,fun b hb=>?_,w7⟩
   obtain ⟨o,e,d⟩:=T.obj _ _ st5 b hb
   exact (I7.pin (b,o) (List.mem_append_right _ (List.mem_append_right _ (mem_pinsAt hb e)))).2.1
  cases f with
  |next=>obtain ⟨σ7,H7,I7,n7⟩:=q7;exact again I7 n7
  |cont=>obtain ⟨σ7,H7,I7,n7⟩:=q7;exact again I7 n7
  |brk=>obtain ⟨σ7,H7,I7,q7⟩:=q7;exact ⟨σ7,H7,I7.unpinned,q7⟩
  |ret v=>obtain ⟨x7,σ7,H7,I7,r7,q7⟩:=q7;exact ⟨x7,σ7,H7,I7.unpinned,r7,q7⟩
end
end L2
namespace L2
open PySem PySem.Spec PyProof.Rows
noncomputable abbrev R2:=V->V->Hp->VK->Prop
noncomputable def OpR (X:Cx) (f:Value->Value->Sem Value) (r:R2):Prop:=
 ∀(pins:List (Addr×Obj)) (s:Shared) (σ:St) (H:Hp) (x y:V) (v u:Value) (Q:VK),Inv X pins σ H s->RelV x v->RelV y u->r x y H Q ->
  wpAny (model X.prog X.w) X.A (f v u) (EP X pins σ Q) X.xe s
noncomputable def UnR (X:Cx) (f:Value->Sem Value) (r:V->Hp->VK->Prop):Prop:=
 ∀(pins:List (Addr×Obj)) (s:Shared) (σ:St) (H:Hp) (x:V) (v:Value) (Q:VK),Inv X pins σ H s->RelV x v->r x H Q ->
  wpAny (model X.prog X.w) X.A (f v) (EP X pins σ Q) X.xe s
noncomputable def CallR (X:Cx) (f:Value) (r:List V->Hp->VK->Prop):Prop:=
 ∀(pins:List (Addr×Obj)) (s:Shared) (σ:St) (H:Hp) (xs:List V) (us:List Value) (Q:VK),Inv X pins σ H s->Vals xs us->r xs H Q ->
  wpAny (model X.prog X.w) X.A (call f us) (EP X pins σ Q) X.xe s
noncomputable def TruR (X:Cx) (r:V->Hp->(Bool->Hp->Prop)->Prop):Prop:=
 ∀(pins:List (Addr×Obj)) (s:Shared) (σ:St) (H:Hp) (x:V) (v:Value) (Q:Bool->Hp->Prop),Inv X pins σ H s->RelV x v->r x H Q ->
  wpAny (model X.prog X.w) X.A (truthy v) (TP X pins σ Q) X.xe s
noncomputable def tOp (r:R2) (ta tb:TE):TE:=fun σ H Q=>ta σ H fun x H1=>tb σ H1 fun y H2=>r x y H2 Q
noncomputable def tUn (r:V->Hp->VK->Prop) (ta:TE):TE:=fun σ H Q=>ta σ H fun x H1=>r x H1 Q
noncomputable def rI (C:Int->Int->Prop) (g:Int->Int->V):R2:=fun x y H Q=>∃i j,x=.int i/\y=.int j/\C i j/\Q (g i j) H
noncomputable def rI0 (g:Int->Int->V):R2:=fun x y H Q=>∃i j,x=.int i/\y=.int j/\Q (g i j) H
noncomputable def rU (g:Int->V):V->Hp->VK->Prop:=fun x H Q=>∃i,x=.int i/\Q (g i) H
section
variable {X:Cx}{a b c:Expr}{ta tb tc:TE}{pos:Pos}
theorem binT (ha:PE X a ta) (hb:PE X b tb) {pins:List (Addr×Obj)}{s:Shared}{σ:St}{H:Hp}{R:V->V->Hp->Prop}(I:Inv X pins σ H s)
  (h:ta σ H fun x H1=>tb σ H1 fun y H2=>R x y H2) {Q:Value->Shared->Prop}{f:Value->Value->Sem Value}
  (hf:∀v u s2 x y H2,Inv X pins σ H2 s2->RelV x v->RelV y u->R x y H2->wpAny (model X.prog X.w) X.A (f v u) Q X.xe s2) :
  wpAny (model X.prog X.w) X.A (eval a X.env) (fun v s₁=>wpAny (model X.prog X.w) X.A (eval b X.env) (fun u s₂=>wpAny (model X.prog X.w) X.A (f v u) Q X.xe s₂) X.xe s₁) X.xe s:=by
 refine thn (ha pins s σ H _ I h) fun v s1 ⟨x,H1,I1,r1,q1⟩=>?_
 refine thn (hb pins s1 σ H1 _ I1 q1) fun u s2 ⟨y,H2,I2,r2,q2⟩=>?_
 exact hf v u s2 x y H2 I2 r1 r2 q2
theorem pe_op {op:Operator}{r:R2}(ho:OpR X (binaryOp op) r) (ha:PE X a ta) (hb:PE X b tb):PE X (.BinOp a op b pos) (tOp r ta tb):=by
 intro pins s σ H Q I h
 exact wpAny_BinOp (binT ha hb I h fun v u s2 x y H2 I2 rx ry q=>ho pins s2 σ H2 x y v u Q I2 rx ry q)
theorem pe_un {op:UnaryOp}{r:V->Hp->VK->Prop}(ho:UnR X (unaryOp op) r) (ha:PE X a ta):PE X (.UnaryOp op a pos) (tUn r ta):=by
 intro pins s σ H Q I h
 exact UnaryOp_ (thn (ha pins s σ H _ I h) fun v s1 ⟨x,H1,I1,r1,q1⟩=>ho pins s1 σ H1 x v Q I1 r1 q1)
theorem opI {f:Value->Value->Sem Value}{C:Int->Int->Prop}{g:Int->Int->Int}
  (rule:∀(i j:Int) (t u:Tok) (s:Shared) (Q:Value->Shared->Prop) (E:Value->Shared->Prop),C i j->Q (.int (g i j) s.toks) { s with toks:=s.toks+1 }->wpAny (model X.prog X.w) X.A (f (.int i t) (.int j u)) Q E s) :
  OpR X f (rI C fun i j=>.int (g i j)):=by
 intro pins s σ H x y v u Q I rx ry h
 obtain ⟨i,j,rfl,rfl,hc,q⟩:=h
 obtain ⟨t,rfl⟩:=rx
 obtain ⟨t',rfl⟩:=ry
 exact rule i j t t' s _ _ hc ⟨.int (g i j),H,I.tok _,⟨_,rfl⟩,q⟩
theorem opI0 {f:Value->Value->Sem Value}{g:Int->Int->Int}
  (rule:∀(i j:Int) (t u:Tok) (s:Shared) (Q:Value->Shared->Prop) (E:Value->Shared->Prop),Q (.int (g i j) s.toks) { s with toks:=s.toks+1 }->wpAny (model X.prog X.w) X.A (f (.int i t) (.int j u)) Q E s) :
  OpR X f (rI0 fun i j=>.int (g i j)):=by
 intro pins s σ H x y v u Q I rx ry h
 obtain ⟨i,j,rfl,rfl,q⟩:=h
 obtain ⟨t,rfl⟩:=rx
 obtain ⟨t',rfl⟩:=ry
 exact rule i j t t' s _ _ ⟨.int (g i j),H,I.tok _,⟨_,rfl⟩,q⟩
theorem opB0 {f:Value->Value->Sem Value}{g:Int->Int->Bool}
  (rule:∀(i j:Int) (t u:Tok) (s:Shared) (Q:Value->Shared->Prop) (E:Value->Shared->Prop),Q (.bool (g i j)) s->wpAny (model X.prog X.w) X.A (f (.int i t) (.int j u)) Q E s) :
  OpR X f (rI0 fun i j=>.bl (g i j)):=by
 intro pins s σ H x y v u Q I rx ry h
 obtain ⟨i,j,rfl,rfl,q⟩:=h
 obtain ⟨t,rfl⟩:=rx
 obtain ⟨t',rfl⟩:=ry
 exact rule i j t t' s _ _ ⟨.bl (g i j),H,I,rfl,q⟩
noncomputable def CDiv (i j:Int):Prop:=0 < j/\j < 1073741824
noncomputable def CPow (i j:Int):Prop:=0<=j/\j<=1000000/\i.natAbs < 2 ^ 64
noncomputable def CMul (i j:Int):Prop:=(-(2 ^ 64) < i/\i < 2 ^ 64)∨(-(2 ^ 64) < j/\j < 2 ^ 64)
theorem CMul.ok {i j:Int}(h:CMul i j):IntMulOk i j:=by
 rcases h with ⟨h1,h2⟩ | ⟨h1,h2⟩
 ·exact .of_left (intBits_le_64 h1 h2)
 ·exact .of_right (intBits_le_64 h1 h2)
theorem op_add:OpR X (binaryOp .Add) (rI0 fun i j=>.int (i+j)):=opI0 fun _ _ _ _ _ _ _ q=>add_int q
theorem op_sub:OpR X (binaryOp .Sub) (rI0 fun i j=>.int (i-j)):=opI0 fun _ _ _ _ _ _ _ q=>sub_int q
theorem op_mul:OpR X (binaryOp .Mult) (rI CMul fun i j=>.int (i * j)):=opI fun _ _ _ _ _ _ _ hc q=>mul_int q hc.ok
theorem op_fdiv:OpR X (binaryOp .FloorDiv) (rI CDiv fun i j=>.int (i / j)):=opI fun i j _ _ _ _ _ hc q=>by
 have h1:(0:Int) < j:=hc.1
 have h2:j < 1073741824:=hc.2
 exact floordiv_int (by omega) (by rw [Int.fdiv_eq_ediv_of_nonneg i (by omega)];exact q) (.inl (PyProof.noPylong_small (by omega)))
theorem op_mod:OpR X (binaryOp .Mod) (rI (fun _ j=>0 < j) fun i j=>.int (i % j)):=opI fun i j _ _ _ _ _ hc q=>by
 have h1:(0:Int) < j:=hc
 exact mod_int' (by omega) (by rw [Int.fmod_eq_emod_of_nonneg i (by omega)];exact q)
theorem op_pow:OpR X (binaryOp .Pow) (rI CPow fun i j=>.int (i ^ j.toNat)):=opI fun _ _ _ _ _ _ _ hc q=>pow_int_small hc.1 hc.2.1 hc.2.2 q
theorem unI {f:Value->Sem Value}{g:Int->Int}
  (rule:∀(i:Int) (t:Tok) (s:Shared) (Q:Value->Shared->Prop) (E:Value->Shared->Prop),Q (.int (g i) s.toks) { s with toks:=s.toks+1 }->wpAny (model X.prog X.w) X.A (f (.int i t)) Q E s) :
  UnR X f (rU fun i=>.int (g i)):=by
 intro pins s σ H x v Q I rx h
 obtain ⟨i,rfl,q⟩:=h
 obtain ⟨t,rfl⟩:=rx
 exact rule i t s _ _ ⟨.int (g i),H,I.tok _,⟨_,rfl⟩,q⟩
theorem un_neg:UnR X (unaryOp .USub) (rU fun i=>.int (-i)):=unI fun _ _ _ _ _ q=>neg_int q
end
noncomputable def scal:V->V->Bool
 |.non,.non=>true | .non,.int _=>true | .int _,.non=>true | .non,.bl _=>true | .bl _,.non=>true | .non,.str _=>true | .str _,.non=>true
 |.int _,.int _=>true | .bl _,.bl _=>true | .str _,.str _=>true | .byt _,.byt _=>true
 |.int _,.str _=>true | .str _,.int _=>true | .bl _,.str _=>true | .str _,.bl _=>true
 |_,_=>false
noncomputable def rEq:R2:=fun x y H Q=>scal x y=true/\Q (.bl (decide (x=y))) H
noncomputable def rNe:R2:=fun x y H Q=>scal x y=true/\Q (.bl (!decide (x=y))) H
theorem dec_int {i j:Int}:decide (V.int i=V.int j)=(i==j):=by
 rw [Bool.eq_iff_iff]
 simp
theorem dec_bl {i j:Bool}:decide (V.bl i=V.bl j)=(i==j):=by
 rw [Bool.eq_iff_iff]
 simp
theorem dec_str {i j:Str}:decide (V.str i=V.str j)=(i==j):=by
 rw [Bool.eq_iff_iff]
 simp
theorem dec_byt {i j:Array UInt8}:decide (V.byt i=V.byt j)=(i.toList==j.toList):=by
 rw [Bool.eq_iff_iff]
 cases i
 cases j
 simp
section
variable {X:Cx}{a b c:Expr}{ta tb tc:TE}{pos:Pos}
theorem fin_bl {pins:List (Addr×Obj)}{σ:St}{H:Hp}{s:Shared}{Q:VK}{k k':Bool}(I:Inv X pins σ H s) (q:Q (.bl k) H) (e:k=k'):EP X pins σ Q (.bool k') s:=by
 subst e
 exact ⟨.bl k,H,I,rfl,q⟩
theorem op_eq:OpR X (compareOp .Eq) rEq:=by
 intro pins s σ H x y v u Q I rx ry h
 obtain ⟨hs,q⟩:=h
 cases x with
 |non=>
  cases rx
  cases y with
  |non=>cases ry;exact PySem.EqNone.eq_none_none (fin_bl I q (by simp))
  |bl j=>cases ry;exact PySem.EqNone.eq_none_bool (fin_bl I q (by simp))
  |int j=>obtain ⟨t',rfl⟩:=ry;exact PySem.EqNone.eq_none_int (fin_bl I q (by simp))
  |str j=>obtain ⟨t',rfl⟩:=ry;exact PySem.EqNone.eq_none_str (fin_bl I q (by simp))
  |_=>exact absurd (show false=true from hs) Bool.false_ne_true
 |bl i=>
  cases rx
  cases y with
  |non=>cases ry;exact PySem.EqNone.eq_bool_none (fin_bl I q (by simp))
  |bl j=>cases ry;exact eq_bool (fin_bl I q dec_bl)
  |str j=>obtain ⟨t',rfl⟩:=ry;exact PySem.EqMixed.eq_bool_str (fin_bl I q (by simp))
  |_=>exact absurd (show false=true from hs) Bool.false_ne_true
 |int i=>
  obtain ⟨t,rfl⟩:=rx
  cases y with
  |non=>cases ry;exact PySem.EqNone.eq_int_none (fin_bl I q (by simp))
  |int j=>obtain ⟨t',rfl⟩:=ry;exact eq_int (fin_bl I q dec_int)
  |str j=>obtain ⟨t',rfl⟩:=ry;exact PySem.EqMixed.eq_int_str (fin_bl I q (by simp))
  |_=>exact absurd (show false=true from hs) Bool.false_ne_true
 |str i=>
  obtain ⟨t,rfl⟩:=rx
  cases y with
  |non=>cases ry;exact PySem.EqNone.eq_str_none (fin_bl I q (by simp))
  |bl j=>cases ry;exact PySem.EqMixed.eq_str_bool (fin_bl I q (by simp))
  |int j=>obtain ⟨t',rfl⟩:=ry;exact PySem.EqMixed.eq_str_int (fin_bl I q (by simp))
  |str j=>obtain ⟨t',rfl⟩:=ry;exact eq_str (fin_bl I q dec_str)
  |_=>exact absurd (show false=true from hs) Bool.false_ne_true
 |byt i=>
  obtain ⟨t,rfl⟩:=rx
  cases y with
  |byt j=>obtain ⟨t',rfl⟩:=ry;exact PySem.W.eq_bytes (fin_bl I q dec_byt)
  |_=>exact absurd (show false=true from hs) Bool.false_ne_true
 |_=>cases y<;>exact absurd (show false=true from hs) Bool.false_ne_true
theorem op_ne:OpR X (compareOp .NotEq) rNe:=by
 intro pins s σ H x y v u Q I rx ry h
 obtain ⟨hs,q⟩:=h
 cases x with
 |non=>
  cases rx
  cases y with
  |non=>cases ry;exact PySem.EqNone.ne_none_none (fin_bl I q (by simp))
  |bl j=>cases ry;exact PySem.EqNone.ne_none_bool (fin_bl I q (by simp))
  |int j=>obtain ⟨t',rfl⟩:=ry;exact PySem.EqNone.ne_none_int (fin_bl I q (by simp))
  |str j=>obtain ⟨t',rfl⟩:=ry;exact PySem.EqNone.ne_none_str (fin_bl I q (by simp))
  |_=>exact absurd (show false=true from hs) Bool.false_ne_true
 |bl i=>
  cases rx
  cases y with
  |non=>cases ry;exact PySem.EqNone.ne_bool_none (fin_bl I q (by simp))
  |bl j=>cases ry;exact ne_bool (fin_bl I q (congrArg not dec_bl))
  |str j=>obtain ⟨t',rfl⟩:=ry;exact PySem.EqMixed.ne_bool_str (fin_bl I q (by simp))
  |_=>exact absurd (show false=true from hs) Bool.false_ne_true
 |int i=>
  obtain ⟨t,rfl⟩:=rx
  cases y with
  |non=>cases ry;exact PySem.EqNone.ne_int_none (fin_bl I q (by simp))
  |int j=>obtain ⟨t',rfl⟩:=ry;exact ne_int (fin_bl I q (congrArg not dec_int))
  |str j=>obtain ⟨t',rfl⟩:=ry;exact PySem.EqMixed.ne_int_str (fin_bl I q (by simp))
  |_=>exact absurd (show false=true from hs) Bool.false_ne_true
 |str i=>
  obtain ⟨t,rfl⟩:=rx
  cases y with
  |non=>cases ry;exact PySem.EqNone.ne_str_none (fin_bl I q (by simp))
  |bl j=>cases ry;exact PySem.EqMixed.ne_str_bool (fin_bl I q (by simp))
  |int j=>obtain ⟨t',rfl⟩:=ry;exact PySem.EqMixed.ne_str_int (fin_bl I q (by simp))
  |str j=>obtain ⟨t',rfl⟩:=ry;exact ne_str (fin_bl I q (congrArg not dec_str))
  |_=>exact absurd (show false=true from hs) Bool.false_ne_true
 |byt i=>
  obtain ⟨t,rfl⟩:=rx
  cases y with
  |byt j=>obtain ⟨t',rfl⟩:=ry;exact PySem.W.ne_bytes (fin_bl I q (congrArg not dec_byt))
  |_=>exact absurd (show false=true from hs) Bool.false_ne_true
 |_=>cases y<;>exact absurd (show false=true from hs) Bool.false_ne_true
theorem op_lt:OpR X (compareOp .Lt) (rI0 fun i j=>.bl (decide (i < j))):=opB0 fun _ _ _ _ _ _ _ q=>lt_int q
theorem op_le:OpR X (compareOp .LtE) (rI0 fun i j=>.bl (decide (i<=j))):=opB0 fun _ _ _ _ _ _ _ q=>le_int q
theorem op_gt:OpR X (compareOp .Gt) (rI0 fun i j=>.bl (decide (j < i))):=opB0 fun _ _ _ _ _ _ _ q=>gt_int q
theorem op_ge:OpR X (compareOp .GtE) (rI0 fun i j=>.bl (decide (j<=i))):=opB0 fun _ _ _ _ _ _ _ q=>ge_int q
theorem op_in_str:OpR X (compareOp .In) (fun x y H Q=>∃i j,x=.str i/\y=.str j/\Q (.bl (!(Builtin.Str.occurrences j i 0 j.length 1).isEmpty)) H):=by
 intro pins s σ H x y v u Q I rx ry h
 obtain ⟨i,j,rfl,rfl,q⟩:=h
 obtain ⟨t,rfl⟩:=rx
 obtain ⟨t',rfl⟩:=ry
 exact in_str (fin_bl I q rfl)
theorem op_isN:OpR X (compareOp .Is) (fun x y H Q=>y=.non/\Q (.bl (decide (x=.non))) H):=by
 intro pins s σ H x y v u Q I rx ry h
 obtain ⟨rfl,q⟩:=h
 cases ry
 refine is_none_gen (fin_bl I q ?_)
 cases x<;>first
  |(cases rx;rfl)
  |(obtain ⟨t,rfl⟩:=rx;rfl)
theorem op_notin_str:OpR X (compareOp .NotIn) (fun x y H Q=>∃i j,x=.str i/\y=.str j/\Q (.bl (!(!(Builtin.Str.occurrences j i 0 j.length 1).isEmpty))) H):=by
 intro pins s σ H x y v u Q I rx ry h
 obtain ⟨i,j,rfl,rfl,q⟩:=h
 obtain ⟨t,rfl⟩:=rx
 obtain ⟨t',rfl⟩:=ry
 exact notIn_str (fin_bl I q rfl)
theorem OpR.or {f:Value->Value->Sem Value}{r r':R2}(h:OpR X f r) (h':OpR X f r'):OpR X f (fun x y H Q=>r x y H Q∨r' x y H Q):=by
 intro pins s σ H x y v u Q I rx ry q
 rcases q with q | q
 ·exact h pins s σ H x y v u Q I rx ry q
 ·exact h' pins s σ H x y v u Q I rx ry q
theorem nomark (b:Expr) {op:CmpOp}(h:op≠.In:=by decide) (h2:op≠.NotIn:=by decide):behindInMarks op b=false:=by
 have e1:(op==CmpOp.In)=false:=by cases op<;>first | rfl | exact absurd rfl h
 have e2:(op==CmpOp.NotIn)=false:=by cases op<;>first | rfl | exact absurd rfl h2
 cases b<;>simp [behindInMarks,e1,e2]
theorem pe_cmpR {op:CmpOp}{r:R2}(ho:OpR X (compareOp op) r) (ha:PE X a ta) (hb:PE X b tb) (hm:behindInMarks op b=false):PE X (.Compare a [op] [b] pos) (tOp r ta tb):=by
 intro pins s σ H Q I h
 exact wpAny_Compare1 (binT ha hb I h fun v u s2 x y H2 I2 rx ry q=>ho pins s2 σ H2 x y v u Q I2 rx ry q) hm
noncomputable def tTest (t:TE):TT:=fun σ H Q=>t σ H fun x H'=>∃k,x=.bl k/\Q k H'
theorem pt_cmpR {op:CmpOp}{r:R2}(ho:OpR X (compareOp op) r) (ha:PE X a ta) (hb:PE X b tb) (hm:behindInMarks op b=false):PT X (.Compare a [op] [b] pos) (tTest (tOp r ta tb)):=by
 intro pins s σ H Q I h
 refine wpAny_isTrue_Compare1 (thn (ha pins s σ H _ I h) fun v s1 ⟨x,H1,I1,r1,q1⟩=>thn (hb pins s1 σ H1 _ I1 q1) fun u s2 ⟨y,H2,I2,r2,q2⟩=>
  thn (ho pins s2 σ H2 x y v u _ I2 r1 r2 q2) fun c s3 ⟨z,H3,I3,r3,k,e,q3⟩=>?_) hm
 subst e
 cases r3
 exact wpAny_truthy_bool ⟨H3,I3,q3⟩
noncomputable def TruV (K:PySem.W.Frag) (x:V) (H:Hp) (k:Bool):Prop:=
 match x with
 |.non=>k=false
 |.bl b=>k=b
 |.int i=>k=(i != 0)
 |.str y=>y.length<=sizeLine/\k=((y.length:Int) != 0)
 |.byt y=>y.size<=sizeLine/\k=((y.size:Int) != 0)
 |.ref p=>(∃xs,SqL K H p xs/\k=!xs.isEmpty)∨(∃xs,SqT K H p xs/\k=!xs.isEmpty)∨∃kvs,H p=some (.dK kvs)/\k=!kvs.isEmpty
 |_=>False
theorem isEmpty_kv {κ:Type}{kvs:List (κ×V)}{vs:List (κ×Value)}(r:KV kvs vs):(!vs.isEmpty)=!kvs.isEmpty:=by
 cases r<;>rfl
theorem isEmpty_of {xs:List V}{its:List Value}(r:Vals xs its):(!its.toArray.isEmpty)=!xs.isEmpty:=by
 cases r<;>simp
theorem line63:(sizeLine:Nat) < 2 ^ 63:=by rw [sizeLine_eq];decide
theorem tru_ok:TruR X (fun x H Q=>∃k,TruV X.K x H k/\Q k H):=by
 intro pins s σ H x v Q I rx h
 obtain ⟨k,e,q⟩:=h
 have hl:=line63
 have hs:sizeLine=16777216:=sizeLine_eq
 cases x with
 |non=>
  cases rx
  have e':k=false:=e
  subst e'
  exact truthy_none ⟨H,I,q⟩
 |bl b=>
  cases rx
  have e':k=b:=e
  subst e'
  exact wpAny_truthy_bool ⟨H,I,q⟩
 |int i=>
  obtain ⟨t,rfl⟩:=rx
  have e':k=(i != 0):=e
  subst e'
  exact PySem.P.truthy_int ⟨H,I,q⟩
 |str y=>
  obtain ⟨t,rfl⟩:=rx
  obtain ⟨hy,e'⟩:y.length<=sizeLine/\k=((y.length:Int) != 0):=e
  subst e'
  exact PySem.P.truthy_str (by omega) ⟨H,I.tok _,q⟩
 |byt y=>
  obtain ⟨t,rfl⟩:=rx
  obtain ⟨hy,e'⟩:y.size<=sizeLine/\k=((y.size:Int) != 0):=e
  subst e'
  exact PySem.W.truthy_bytes (by omega) ⟨H,I.tok _,q⟩
 |ref p=>
  cases rx
  have e':(∃xs,SqL X.K H p xs/\k=!xs.isEmpty)∨(∃xs,SqT X.K H p xs/\k=!xs.isEmpty)∨∃kvs,H p=some (.dK kvs)/\k=!kvs.isEmpty:=e
  rcases e' with ⟨xs,hx,e'⟩ | ⟨xs,hx,e'⟩ | ⟨kvs,hx,e'⟩
  ·subst e'
   obtain ⟨its,r,pl,hz⟩:=I.list hx
   have hlen:=r.length
   exact wpAny_truthy_list pl.isList (by simp only [List.size_toArray];omega) ⟨H,I.tok _,by rw [isEmpty_of r];exact q⟩
  ·subst e'
   obtain ⟨its,r,pl,hz⟩:=I.tuple hx
   have hlen:=r.length
   exact truthy_tuple pl (by simp only [List.size_toArray];omega) ⟨H,I.tok _,by rw [isEmpty_of r];exact q⟩
  ·subst e'
   obtain ⟨hz,hS,vs,r,m⟩:kvs.length<=sizeLine/\(p==sysModules)=false/\∃vs,KV kvs vs/\s.heap.DictOf (mixKind X.prog X.w) p vs:=I.hok p _ hx
   have hlen:kvs.length=vs.length:=Paired.length r
   exact wpAny_truthy_dict hS m (by omega) ⟨H,I.tok _,by rw [isEmpty_kv r];exact q⟩
 |_=>exact (show False from e).elim
theorem pt_truth (ha:PE X a ta) (he:∀whole,isTrue a X.env whole=(do let v <-whole;standAt a.pos;holding [v] (truthy v))) :
  PT X a (fun σ H Q=>ta σ H fun x H'=>∃k,TruV X.K x H' k/\Q k H'):=by
 intro pins s σ H Q I h
 exact isTrue_plain (thn (ha pins s σ H _ I h) fun v s1 ⟨x,H1,I1,r1,q1⟩=>tru_ok pins s1 σ H1 x v Q I1 r1 q1) (he _)
theorem op_add_str:OpR X (binaryOp .Add) (fun x y H Q=>∃i j,x=.str i/\y=.str j/\i.length+j.length<=sizeLine/\Q (.str (i++j)) H):=by
 intro pins s σ H x y v u Q I rx ry h
 obtain ⟨i,j,rfl,rfl,hz,q⟩:=h
 obtain ⟨t,rfl⟩:=rx
 obtain ⟨t',rfl⟩:=ry
 exact add_str (fun t' tk=>⟨.str (i++j),H,I.tok _,⟨_,rfl⟩,q⟩) hz
theorem vals1 {x:V}{us:List Value}(r:Vals [x] us):∃u,us=[u]/\RelV x u:=by
 cases r with
 |cons r1 r2=>cases r2;exact ⟨_,rfl,r1⟩
theorem vals2 {x y:V}{us:List Value}(r:Vals [x,y] us):∃u w',us=[u,w']/\RelV x u/\RelV y w':=by
 cases r with
 |cons r1 r2=>
  cases r2 with
  |cons r3 r4=>cases r4;exact ⟨_,_,rfl,r1,r3⟩
theorem call_abs:CallR X (.builtin "abs") (fun xs H Q=>∃i,xs=[.int i]/\Q (.int (if i < 0 then -i else i)) H):=by
 intro pins s σ H xs us Q I r h
 obtain ⟨i,rfl,q⟩:=h
 obtain ⟨u,rfl,t,rfl⟩:=vals1 r
 exact call_abs_int fun u tk=>⟨.int (if i < 0 then -i else i),H,I.tok _,⟨_,rfl⟩,q⟩
theorem call_max2 (hc:X.cool=true):CallR X (.builtin "max") (fun xs H Q=>∃i j,xs=[.int i,.int j]/\Q (.int (if j > i then j else i)) H):=by
 intro pins s σ H xs us Q I r h
 obtain ⟨i,j,rfl,q⟩:=h
 obtain ⟨u,w',rfl,⟨t,rfl⟩,⟨t',rfl⟩⟩:=vals2 r
 refine max_two_ints (I.ok.hc hc) fun h' tk k=>⟨_,H,I.kept k,?_,q⟩
 by_cases hj:j > i
 ·rw [if_pos hj,if_pos hj];exact ⟨_,rfl⟩
 ·rw [if_neg hj,if_neg hj];exact ⟨_,rfl⟩
theorem call_min2 (hc:X.cool=true):CallR X (.builtin "min") (fun xs H Q=>∃i j,xs=[.int i,.int j]/\Q (.int (if j < i then j else i)) H):=by
 intro pins s σ H xs us Q I r h
 obtain ⟨i,j,rfl,q⟩:=h
 obtain ⟨u,w',rfl,⟨t,rfl⟩,⟨t',rfl⟩⟩:=vals2 r
 refine min_two_ints (I.ok.hc hc) fun h' tk k=>⟨_,H,I.kept k,?_,q⟩
 by_cases hj:j < i
 ·rw [if_pos hj,if_pos hj];exact ⟨_,rfl⟩
 ·rw [if_neg hj,if_neg hj];exact ⟨_,rfl⟩
noncomputable def LenV (K:PySem.W.Frag) (x:V) (H:Hp) (n:Nat):Prop:=
 match x with
 |.str y=>y.length<=sizeLine/\n=y.length
 |.byt y=>y.size<=sizeLine/\n=y.size
 |.ref p=>(∃xs,SqL K H p xs/\n=xs.length)∨∃xs,SqT K H p xs/\n=xs.length
 |_=>False
theorem call_len:CallR X (.builtin "len") (fun xs H Q=>∃x n,xs=[x]/\LenV X.K x H n/\Q (.int n) H):=by
 intro pins s σ H xs us Q I r h
 obtain ⟨x,n,rfl,e,q⟩:=h
 obtain ⟨u,rfl,rx⟩:=vals1 r
 have hl:=line63
 have hs:sizeLine=16777216:=sizeLine_eq
 cases x with
 |str y=>
  obtain ⟨t,rfl⟩:=rx
  obtain ⟨hy,e'⟩:y.length<=sizeLine/\n=y.length:=e
  subst e'
  exact len_str (by omega) ⟨.int _,H,I.tok _,⟨_,rfl⟩,q⟩
 |byt y=>
  obtain ⟨t,rfl⟩:=rx
  obtain ⟨hy,e'⟩:y.size<=sizeLine/\n=y.size:=e
  subst e'
  exact PySem.W.len_bytes (by omega) ⟨.int _,H,I.tok _,⟨_,rfl⟩,q⟩
 |ref p=>
  cases rx
  have e':(∃xs,SqL X.K H p xs/\n=xs.length)∨∃xs,SqT X.K H p xs/\n=xs.length:=e
  rcases e' with ⟨xs,hx,e'⟩ | ⟨xs,hx,e'⟩
  ·subst e'
   obtain ⟨its,r',pl,hz⟩:=I.list hx
   have hlen:=r'.length
   exact Calls.call_len_list pl.isList (by simp only [List.size_toArray];omega) ⟨.int xs.length,H,I.tok _,⟨_,by simp only [List.size_toArray];rw [hlen]⟩,q⟩
  ·subst e'
   obtain ⟨its,r',pl,hz⟩:=I.tuple hx
   have hlen:=r'.length
   exact len_tuple pl (by simp only [List.size_toArray];omega) ⟨.int xs.length,H,I.tok _,⟨_,by simp only [List.size_toArray];rw [hlen]⟩,q⟩
 |_=>exact (show False from e).elim
end
end L2
namespace L2
open PySem PySem.Spec PyProof.Rows
structure ObjM (h:Heap) (x dx C:Addr) (mA:Str->Option Value):Prop where
 obj:h.get? x=some (PySem.W.instObj C dx)
 ns:h.Ns1 dx mA
 ne:dx≠x
theorem lookIn_ns {h:Heap}{dx:Addr}{mA:Str->Option Value}(n:h.Ns1 dx mA):∃od,h.get? dx=some od/\∀name,PySem.W.lookIn name od=some (mA name):=by
 obtain ⟨o,es,ep,ho,hd,hk,_,hm⟩:=n
 refine ⟨o,ho,fun name=>?_⟩
 have e:=hm name
 unfold nsFind findBy at e
 rw [<-Array.find?_toList] at e
 unfold PySem.W.lookIn
 rw [hd]
 dsimp only
 split
 ·rename_i y q
  rw [q] at e
  exact congrArg some e
 ·rename_i q
  rw [q] at e
  have a:es.toList.any (·.refKey)=false:=by
   rw [List.any_eq_false]
   intro y hy
   obtain ⟨z,t,hkey⟩:=hk y (Array.mem_toList_iff.mp hy)
   simp [DictEntry.refKey,hkey]
  have a':¬es.toList.any (·.refKey)=true:=by rw [a];exact Bool.false_ne_true
  rw [if_neg a']
  exact congrArg some e
theorem ObjM.look {h:Heap}{x dx C:Addr}{mA:Str->Option Value}(I:ObjM h x dx C mA):∃od,PySem.W.InstAt h x (PySem.W.instObj C dx) C (some od)/\∀name,PySem.W.lookIn name od=some (mA name):=
 let ⟨od,ho,hl⟩:=lookIn_ns I.ns
 ⟨od,⟨I.obj,rfl,rfl,ho⟩,hl⟩
theorem RelO.some_of {v:V}{o:Option Value}(r:RelO (some v) o):∃u,o=some u/\RelV v u:=by
 cases o with
 |none=>exact (show False from r).elim
 |some u=>exact ⟨u,rfl,r⟩
section
variable {P:Program}{w:World}{H H':Hp}{h h':Heap}{a C dx:Addr}{fs fs':List (Str×V)}
theorem ins_get (hok:HOk P w H h) (e:H a=some (.ins C dx fs)):∃mA,ObjM h a dx C mA/\(∀f,RelO (fs.lookup f) (mA f))/\PySem.Within mA (fs.map (·.1))/\fs.length<=1000/\H dx=some (.own a):=by
 obtain ⟨d,z,ne,ob,mA,n,r,q⟩:=(show ObjOk P w H h a (.ins C dx fs) from hok a _ e)
 exact ⟨mA,⟨ob,n,ne⟩,r,q,z,d⟩
end
structure Cls (K:PySem.W.Frag) (C:Addr):Prop where
 pg:PySem.W.plainGet K C Str.empty=true
 hd:PySem.W.hasDictIn K C=true
 po:PySem.W.plainOver K C=true
 sa:PySem.W.findIn K (.ref C) "__setattr__" = some (some (.builtin "object.__setattr__"))
theorem Cls.get {K:PySem.W.Frag}{C:Addr}(c:Cls K C) (f:Str):PySem.W.plainGet K C f=true:=c.pg
section
variable {X:Cx}{pins:List (Addr×Obj)}{σ:St}{H:Hp}{s:Shared}{A:Around}{E:Value->Shared->Prop}{Q:Value->Shared->Prop}{c:Value}{b:Bool}
inductive TyOf (K:PySem.W.Frag) (H:Hp):V->Value->Prop where
 |non:TyOf K H .non (.type "NoneType")
 |bl (x:Bool):TyOf K H (.bl x) (.type "bool")
 |int (i:Int):TyOf K H (.int i) (.type "int")
 |str (x:Str):TyOf K H (.str x) (.type "str")
 |flt (x:UInt64):TyOf K H (.flt x) (.type "float")
 |lst {a:Addr}{xs:List V}(e:H a=some (.lst xs)):TyOf K H (.ref a) (.type "list")
 |frz {a:Addr}{o:Obj}{xs:List V}(e:H a=some (.frz o (.lst xs))):TyOf K H (.ref a) (.type "list")
 |tup {a:Addr}{xs:List V}(e:H a=some (.tup xs)):TyOf K H (.ref a) (.type "tuple")
 |dK {a:Addr}{kvs:List (Key×V)}(e:H a=some (.dK kvs)):TyOf K H (.ref a) (.type "dict")
 |dT {a:Addr}{kvs:List (List Key×V)}(e:H a=some (.dT kvs)):TyOf K H (.ref a) (.type "dict")
 |ins {a C dx:Addr}{fs:List (Str×V)}(e:H a=some (.ins C dx fs)) (cl:Cls K C) (ha:PySem.W.findIn K (.ref C) "__class__" = some (some (.builtin "object.__class__")))
   (hn:PySem.W.specialIn K (.builtin "object.__class__") "__get__" = some (some (.builtin "getset_descriptor.__get__"))) (htk:PySem.W.takesIn K (.builtin "object.__class__")=some true)
   (hm:PySem.W.mroIn K C (.type "object")=some true):TyOf K H (.ref a) (.ref C)
theorem isinst_ok {x:V}{u t:Value}(I:Inv X pins σ H s) (rx:RelV x u) (ty:TyOf X.K H x t) (e:PySem.W.kitOne X.K t c=some b) (h:∀tk,Q (.bool b) { s with toks:=tk }) :
  wpAny (model X.prog X.w) A (call (.builtin "isinstance") [u,c]) Q E s:=by
 cases ty with
 |non=>cases (show u=Value.none from rx);exact PySem.W.kia_one PySem.W.kitx_none I.kIn True.intro e (fun z=>nomatch z) h
 |bl y=>cases (show u=Value.bool y from rx);exact PySem.W.kia_one PySem.W.kitx_bool I.kIn True.intro e (fun z=>nomatch z) h
 |int i=>obtain ⟨t,q⟩:=(show ∃t,u=Value.int i t from rx);cases q;exact PySem.W.kia_one PySem.W.kitx_int I.kIn True.intro e (fun z=>nomatch z) h
 |str y=>obtain ⟨t,q⟩:=(show ∃t,u=Value.str y t from rx);cases q;exact PySem.W.kia_one PySem.W.kitx_str I.kIn True.intro e (fun z=>nomatch z) h
 |flt y=>obtain ⟨t,q⟩:=(show ∃t,u=Value.float y t from rx);cases q;exact PySem.W.kia_one PySem.W.kitx_float I.kIn True.intro e (fun z=>nomatch z) h
 |@lst a xs ea=>
  cases (show u=Value.ref a from rx)
  obtain ⟨_,_,n,_,h1⟩:=(show ObjOk X.prog X.w H s.heap a (.lst xs) from I.hok a _ ea)
  exact PySem.W.kia_one PySem.W.kitx_list I.kIn ⟨_,h1,rfl⟩ e (fun z=>nomatch z) h
 |@frz a ob xs ea=>
  cases (show u=Value.ref a from rx)
  obtain ⟨_,_,_,n,_,h1⟩:=(show ObjOk X.prog X.w H s.heap a (.frz ob (.lst xs)) from I.hok a _ ea)
  exact PySem.W.kia_one PySem.W.kitx_list I.kIn ⟨_,h1,rfl⟩ e (fun z=>nomatch z) h
 |@tup a xs ea=>
  cases (show u=Value.ref a from rx)
  obtain ⟨_,_,_,p⟩:=(show ObjOk X.prog X.w H s.heap a (.tup xs) from I.hok a _ ea)
  obtain ⟨o,h1,h2,_⟩:=p
  exact PySem.W.kia_one PySem.W.kitx_tuple I.kIn ⟨o,h1,h2⟩ e (fun z=>nomatch z) h
 |@dK a kvs ea=>
  cases (show u=Value.ref a from rx)
  obtain ⟨_,_,vs,_,p⟩:=(show ObjOk X.prog X.w H s.heap a (.dK kvs) from I.hok a _ ea)
  obtain ⟨o,es,ep,h1,h2,_⟩:=p
  exact PySem.W.kia_one PySem.W.kitx_dict I.kIn ⟨o,h1,h2.1⟩ e (fun z=>nomatch z) h
 |@dT a kvs ea=>
  cases (show u=Value.ref a from rx)
  obtain ⟨_,_,xs,_,o,es,ep,h1,h2,_⟩:=(show ObjOk X.prog X.w H s.heap a (.dT kvs) from I.hok a _ ea)
  exact PySem.W.kia_one PySem.W.kitx_dict I.kIn ⟨o,h1,h2.1⟩ e (fun z=>nomatch z) h
 |@ins a C dx fs ea cl ha hn htk hm=>
  cases (show u=Value.ref a from rx)
  obtain ⟨mA,O,_⟩:=ins_get I.hok ea
  obtain ⟨od,J,_⟩:=O.look
  exact PySem.W.kia_one (PySem.W.kitx_own (cl.get _) cl.hd ha hn htk hm) I.kIn J e (fun z=>nomatch z) h
end
end L2
namespace L2
open PySem PySem.Spec PyProof.Rows
structure Room (k:Nat) (A:Around):Prop where
 hd:A.handled=none
 dp:A.depth+3 * k+5 < recursionLimit
 un:A.units+16 * k+200 < cLine
 gd:A.guards=some []
theorem Room.mono {j k:Nat}{A:Around}(r:Room k A) (h:j<=k):Room j A:=⟨r.hd,by have:=r.dp;omega,by have:=r.un;omega,r.gd⟩
theorem Room.deeper {k:Nat}{A:Around}(r:Room (k+1) A) (env:Env):Room k (A.deeper env):=
 ⟨r.hd,by have:=r.dp;show A.depth+1+3 * k+5 < _;omega,by have:=r.un;show A.units+3+16 * k+200 < _;omega,r.gd⟩
theorem Room.depth {k:Nat}{A:Around}(r:Room k A):A.depth < recursionLimit:=by have:=r.dp;omega
theorem Room.units {k:Nat}{A:Around}(r:Room k A):A.units+64 < cLine:=by have:=r.un;omega
noncomputable def tNil:TA:=fun _ H Q=>Q [] H
noncomputable def tCons (ta:TE) (tr:TA):TA:=fun σ H Q=>ta σ H fun x H1=>tr σ H1 fun xs H2=>Q (x::xs) H2
section
variable {X:Cx}{e:Expr}{es:List Expr}{te:TE}{t:TA}{pos:Pos}
theorem pa_nil:PA X [] tNil:=fun _ _ _ _ H Q I h=>Calls.spliced_nil ⟨[],H,I,.nil,h⟩
theorem pa_cons (ha:PE X e te) (hr:PA X es t) (hs:starEach (e::es) X.env=(false,eval e X.env)::starEach es X.env:=by rfl):PA X (e::es) (tCons te t):=by
 intro pos pins s σ H Q I h
 rw [hs]
 show wpAny _ _ (spliced ((false,eval e X.env)::backTo pos (starEach es X.env))) _ _ s
 refine Calls.spliced_cons (thn (ha pins s σ H _ I h) fun u s1 ⟨x,H1,I1,r1,q1⟩=>?_)
 exact thn (hr pos pins s1 σ H1 _ I1 q1) fun us s2 ⟨xs,H2,I2,r2,q2⟩=>⟨x::xs,H2,I2,.cons r1 r2,q2⟩
noncomputable def tTup (t:TA):TE:=fun σ H Q=>t σ H fun xs H1=>xs.length<=sizeLine/\∀p,H1 p=none->Q (.ref p) (upd H1 p (.tup xs))
noncomputable def tLst (t:TA):TE:=fun σ H Q=>t σ H fun xs H1=>xs.length<=sizeLine/\∀p,H1 p=none->Q (.ref p) (upd H1 p (.lst xs))
theorem pe_tup {x1} (h:PA X es t):PE X (.Tuple es x1 pos) (tTup t):=by
 intro pins s σ H Q I hq
 refine wpAny_Tuple_spliced (thn (h pos pins s σ H _ I hq) fun us s1 ⟨xs,H1,I1,r,z,q⟩=>⟨by rw [<-r.length];exact z,?_⟩)
 have hf:H1 s1.heap.objs.size=none:=I1.hok.fresh (Nat.le_refl _)
 refine ⟨.ref s1.heap.objs.size,upd H1 s1.heap.objs.size (.tup xs),I1.laid (t':=s1.toks) (fun b u e=>Heap.get?_push_of_some _ e) (Nat.le_refl _) ?_,rfl,q _ hf⟩
 exact ⟨z,us,r,⟨_,Heap.get?_push_size _ rfl,rfl,_,rfl⟩⟩
theorem pe_lst (h:PA X es t):PE X (.List es pos) (tLst t):=by
 intro pins s σ H Q I hq
 refine wpAny_List_spliced (thn (h pos pins s σ H _ I hq) fun us s1 ⟨xs,H1,I1,r,z,q⟩=>⟨by rw [<-r.length];exact z,?_⟩)
 have hf:H1 s1.heap.objs.size=none:=I1.hok.fresh (Nat.le_refl _)
 refine ⟨.ref s1.heap.objs.size,upd H1 s1.heap.objs.size (.lst xs),I1.laid (t':=s1.toks) (fun b u e=>Heap.get?_push_of_some _ e) (Nat.le_refl _) ?_,rfl,q _ hf⟩
 exact ⟨z,us,0,r,Heap.get?_push_size _ rfl⟩
end
noncomputable abbrev Sp:=List V->Hp->VK->XK->Prop
noncomputable abbrev CXT:=List Env->Hp->Shared->XK->Value->Shared->Prop
structure Env0 (P:Program) (w:World) (K:PySem.W.Frag) (mg:Str->Option Value) (base:Heap) (A:Around) (outer:List Env) (s:Shared) (H:Hp):Prop where
 frames:A.frames=some outer
 mod:Mod K mg base
 bs:∀b o,base.get? b=some o->s.heap.get? b=some o/\H b=none
 bsz:base.objs.size<=s.heap.objs.size
 funs:s.heap.FunFrames base outer
 frf:∀b∈frs outer,H b=none
 hok:HOk P w H s.heap
 bare:AllBare s.gens
noncomputable def CE (outer:List Env) (P:Program) (w:World) (H:Hp) (s:Shared) (Q:VK) (u:Value) (s':Shared):Prop:=
 ∃v H',s'.os=s.os/\AllBare s'.gens/\Un (frs outer) [] H H' s.heap s'.heap/\HOk P w H' s'.heap/\RelV v u/\Q v H'
noncomputable def CR (CX:CXT) (outer:List Env) (P:Program) (w:World) (H:Hp) (s:Shared) (Q:VK) (E:XK) (r:Result) (s':Shared):Prop:=
 match r with
 |.ok (.ret u)=>CE outer P w H s Q u s'
 |.ok _=>False
 |.error e=>CX outer H s E e s'
structure FnOk (P:Program) (w:World) (K:PySem.W.Frag) (mg:Str->Option Value) (base:Heap) (CX:CXT) (k:Nat) (f:Addr) (fd:FuncData) (ps:List Str) (sp:Sp):Prop where
 len:∀vs H Q E,sp vs H Q E->vs.length=ps.length
 run:∀(A:Around) (outer:List Env) (s:Shared) (H:Hp) (args:Args) (us:List Value) (vs:List V) (Q:VK) (E:XK),Room k A->Env0 P w K mg base A outer s H->BindsTo s fd args (ps.zip us)->Vals vs us->sp vs H Q E ->
  codeAny (model P w) A (.call (.ref f) args) (CR CX outer P w H s Q E) s
theorem FnOk.mono {P:Program}{w:World}{K:PySem.W.Frag}{mg:Str->Option Value}{base:Heap}{CX:CXT}{j k:Nat}{f:Addr}{fd:FuncData}{ps:List Str}{sp:Sp}(F:FnOk P w K mg base CX j f fd ps sp) (h:j<=k) :
  FnOk P w K mg base CX k f fd ps sp:=⟨F.len,fun A outer s H args us vs Q E hr=>F.run A outer s H args us vs Q E (hr.mono h)⟩
theorem FnOk.imp {P:Program}{w:World}{K:PySem.W.Frag}{mg:Str->Option Value}{base:Heap}{CX:CXT}{k:Nat}{f:Addr}{fd:FuncData}{ps:List Str}{sp sp':Sp}(F:FnOk P w K mg base CX k f fd ps sp)
  (h:∀vs H Q E,sp' vs H Q E->sp vs H Q E):FnOk P w K mg base CX k f fd ps sp':=
 ⟨fun vs H Q E q=>F.len vs H Q E (h _ _ _ _ q),fun A outer s H args us vs Q E hr he hb hv hs=>F.run A outer s H args us vs Q E hr he hb hv (h _ _ _ _ hs)⟩
section
variable {X:Cx}{pins:List (Addr×Obj)}{σ:St}{H:Hp}{s s':Shared}
theorem Inv.env0 (I:Inv X pins σ H s):Env0 X.prog X.w X.K X.mg X.base X.A X.stack s H:=
 ⟨I.ok.frames,I.ok.mod,I.bs,Nat.le_trans I.ok.bsz I.sz,I.stack,I.stkFree,I.hok,I.bare⟩
theorem Inv.after {Q:VK}{u:Value}(I:Inv X pins σ H s) (h:CE X.stack X.prog X.w H s Q u s'):EP X pins σ Q u s':=by
 obtain ⟨v,H',os,bare,un,hok,r,q⟩:=h
 obtain ⟨hh,g,d,t,os'⟩:=s'
 obtain rfl:os'=s.os:=os
 exact ⟨v,H',I.call (h':=hh) (g':=g) (d':=d) (t':=t) (ch:=[]) un hok bare (fun b z=>absurd z (by simp)),r,q⟩
end
noncomputable def tCall (sp:Sp) (dvs:List V) (E:XK) (t:TA):TE:=fun σ H Q=>t σ H fun vs H1=>sp (vs++dvs) H1 Q E
noncomputable def Binds (K:PySem.W.Frag) (fd:FuncData) (ps:List Str) (ds:List Value):Prop:=
 ∀(s:Shared) (us:List Value),K.In s.heap->(us++ds).length=ps.length->BindsTo s fd ⟨us,[]⟩ (ps.zip (us++ds))
theorem Binds.all {K:PySem.W.Frag}{fd:FuncData}{ps:List Str}(h:∀us:List Value,us.length=ps.length->bindArgs fd ⟨us,[]⟩=pure (ps.zip us)):Binds K fd ps []:=fun s us _ hl=>by
 rw [List.append_nil] at hl ⊢
 exact .of_eq (h us hl)
noncomputable def Passes (CX:CXT) (X:Cx) (E:XK):Prop:=∀(pins:List (Addr×Obj)) (σ:St) (H:Hp) (s:Shared) (e:Value) (s':Shared),Inv X pins σ H s->CX X.stack H s E e s'->X.xe e s'
section
variable {X:Cx}{CX:CXT}{k:Nat}{f C:Addr}{fd:FuncData}{ps:List Str}{sp:Sp}{dvs:List V}{ds:List Value}{E:XK}{x m:Str}{p pos apos:Pos}{e o:Expr}{es:List Expr}{ta:TE}{t:TA}
theorem run_fn {pins:List (Addr×Obj)}{σ:St}{H:Hp}{s:Shared}{Q:VK}{us:List Value}{vs:List V}(F:FnOk X.prog X.w X.K X.mg X.base CX k f fd ps sp) (hr:Room k X.A) (hb:Binds X.K fd ps ds) (hd:Vals dvs ds) (hx:Passes CX X E)
  (I:Inv X pins σ H s) (r:Vals vs us) (h:sp (vs++dvs) H Q E):wpAny (model X.prog X.w) X.A (call (.ref f) us) (EP X pins σ Q) X.xe s:=by
 have r2:Vals (vs++dvs) (us++ds):=r.append hd
 have hl:(us++ds).length=ps.length:=by rw [<-r2.length];exact F.len _ _ _ _ h
 refine wpAny_call (codeAny_mono (F.run X.A X.stack s H ⟨us,[]⟩ (us++ds) (vs++dvs) Q E hr I.env0 (hb s us I.kIn hl) r2 h) fun r s' hq=>?_)
 cases r with
 |error e=>exact hx pins σ H s e s' I hq
 |ok fl=>
  cases fl with
  |ret u=>exact I.after hq
  |next=>exact False.elim hq
  |brk=>exact False.elim hq
  |cont=>exact False.elim hq
theorem pe_call (F:FnOk X.prog X.w X.K X.mg X.base CX k f fd ps sp) (hr:Room k X.A) (hg:Gl X x) (hm:X.mg x=some (.ref f)) (hk:PySem.W.keepIn X.K (.ref f)=true) (hb:Binds X.K fd ps ds) (hd:Vals dvs ds) (hx:Passes CX X E)
  (ha:PA X (e::es) t) (hdb:(x==("__debug__" : Str))=false:=by decide) (he:starEach (e::es) X.env=(false,eval e X.env)::starEach es X.env:=by rfl) (hpl:(backTo pos (starEach es X.env)).any (·.1)=false:=by rfl) :
  PE X (.Call (.Name x p) (e::es) [] pos) (tCall sp dvs E t):=by
 intro pins s σ H Q I h
 refine wpAny_Call_Name_kw (ld_glob I hg hm ?_ hdb)
 refine PySem.W.callWith_K (h₀:=X.base) I.ok.mod.kin hk (thn (ha pos pins s σ H _ I h) fun us s1 ⟨vs,H1,I1,r,q⟩=>⟨I1.kIn,?_⟩) he hpl
 exact run_fn F hr hb hd hx I1 r q
end
structure FnScope (N P:List Str) (sc:Scope):Prop where
 kind:sc.kind=.function
 co:sc.isCoroutine=false
 gen:sc.isGenerator=false
 nd:N.Nodup
 pre:N.take P.length=P
 par:∀x∈P,sc.names.lookup x=some .local∨sc.names.lookup x=some .cell
 nofree:∀y∈sc.names,y.2≠.free
theorem bindL_out {kindOf:Str->Option NameKind}{x:Str}:∀{binds:List (Str×Value)}{m:Str->Option Value},(∀v,(x,v)∉binds)->bindL kindOf binds m x=m x
 |[],_,_=>rfl
 |(n,v)::r,m,h=>by
  unfold bindL
  rw [bindL_out fun w hw=>h w (List.mem_cons_of_mem _ hw)]
  split
  ·have:x≠n:=by rintro rfl;exact h v List.mem_cons_self
   simp [this]
  ·rfl
theorem bindC_out {kindOf:Str->Option NameKind}{x:Str}:∀{binds:List (Str×Value)}{m:Str->Option Value},(∀v,(x,v)∉binds)->bindC kindOf binds m x=m x
 |[],_,_=>rfl
 |(n,v)::r,m,h=>by
  unfold bindC
  rw [bindC_out fun w hw=>h w (List.mem_cons_of_mem _ hw)]
  split
  ·rfl
  ·have:x≠n:=by rintro rfl;exact h v List.mem_cons_self
   simp [this]
theorem bindL_get {kindOf:Str->Option NameKind}{x:Str}{v:Value}:∀{P:List Str}{vs:List Value}{i:Nat}{m:Str->Option Value},P.Nodup->P[i]?=some x->vs[i]?=some v->kindOf x=some .local ->
  bindL kindOf (P.zip vs) m x=some v
 |[],_,_,_,_,h,_,_=>by simp at h
 |_::_,[],_,_,_,_,h,_=>by simp at h
 |p::P,w::vs,0,m,nd,h1,h2,hk=>by
  simp at h1 h2;subst h1;subst h2
  show bindL kindOf ((p,w)::P.zip vs) m p=_
  unfold bindL
  rw [bindL_out fun v hv=>(List.nodup_cons.mp nd).1 (List.of_mem_zip hv).1,if_pos hk]
  simp
 |p::P,w::vs,i+1,m,nd,h1,h2,hk=>by
  show bindL kindOf ((p,w)::P.zip vs) m x=_
  unfold bindL
  exact bindL_get (i:=i) (List.nodup_cons.mp nd).2 (by simpa using h1) (by simpa using h2) hk
theorem bindC_get {kindOf:Str->Option NameKind}{x:Str}{v:Value}:∀{P:List Str}{vs:List Value}{i:Nat}{m:Str->Option Value},P.Nodup->P[i]?=some x->vs[i]?=some v->kindOf x≠some .local ->
  bindC kindOf (P.zip vs) m x=some v
 |[],_,_,_,_,h,_,_=>by simp at h
 |_::_,[],_,_,_,_,h,_=>by simp at h
 |p::P,w::vs,0,m,nd,h1,h2,hk=>by
  simp at h1 h2;subst h1;subst h2
  show bindC kindOf ((p,w)::P.zip vs) m p=_
  unfold bindC
  rw [bindC_out fun v hv=>(List.nodup_cons.mp nd).1 (List.of_mem_zip hv).1,if_neg hk]
  simp
 |p::P,w::vs,i+1,m,nd,h1,h2,hk=>by
  show bindC kindOf ((p,w)::P.zip vs) m x=_
  unfold bindC
  exact bindC_get (i:=i) (List.nodup_cons.mp nd).2 (by simpa using h1) (by simpa using h2) hk
noncomputable def start (N:List Str) (vs:List V):St:=vs.map some++List.replicate (N.length-vs.length) none
noncomputable def cxOf (CX:CXT) (P:Program) (w:World) (K:PySem.W.Frag) (mg:Str->Option Value) (base:Heap) (N:List Str) (qual:Str) (scope:Scope) (f:Addr) (cd:Value) (A:Around) (outer:List Env) (s:Shared) (H:Hp) (E:XK):Cx where
 prog:=P
 w:=w
 K:=K
 mg:=mg
 base:=base
 A:=A.deeper (envOfC qual scope s.heap.objs.size f cd)
 N:=N
 s₀:=s
 H₀:=H
 env:=envOfC qual scope s.heap.objs.size f cd
 outer:=outer
 stack:=envOfC qual scope s.heap.objs.size f cd::outer
 ex:=[]
 calm:=true
 cool:=true
 fn:=fun _=>true
 pn:=[]
 xe:=fun e s'=>wpAny (model P w) (A.deeper (envOfC qual scope s.heap.objs.size f cd)) (leaving (envOfC qual scope s.heap.objs.size f cd) e) (fun _ s''=>CX outer H s E e s'') (fun e' s''=>CX outer H s E e' s'') s'
theorem cell_has {sc:Scope}{n:Nat}{x:Str}(h:sc.names.lookup x=some .cell):∃c,(cellsFrom n sc.names []).lookup x=some c:=by
 have q:=PySem.W.cellsFrom_some sc.names n [] (.inl h)
 exact Option.isSome_iff_exists.mp q
theorem inv_start {CX:CXT}{P:Program}{w:World}{K:PySem.W.Frag}{mg:Str->Option Value}{base:Heap}{N ps:List Str}{qual:Str}{scope:Scope}{f:Addr}{cd:Value}{A:Around}{outer:List Env}{s s1:Shared}{H:Hp}{E:XK}{us:List Value}{vs:List V}
  (S:FnScope N ps scope) (hd:A.handled=none) (e0:Env0 P w K mg base A outer s H) (hl:vs.length=ps.length) (r:Vals vs us)
  (x:InCallC s s.heap.objs.size (bindL (envOfC qual scope s.heap.objs.size f cd).kindOf (ps.zip us) fun _=>none) (cellsFrom (s.heap.objs.size+1) scope.names []) (bindC (envOfC qual scope s.heap.objs.size f cd).kindOf (ps.zip us) fun _=>none) s1) :
  Inv (cxOf CX P w K mg base N qual scope f cd A outer s H E) [] (start N vs) H s1:=by
 have hpl:ps.length<=N.length:=by have:=congrArg List.length S.pre;rw [List.length_take] at this;omega
 obtain ⟨h1,tk,rfl,hk⟩:=x.done
 have noA:∀b:Addr,b∉(cxOf CX P w K mg base N qual scope f cd A outer s H E).ex:=fun b z=>absurd (show b∈([]:List Addr) from z) (by simp)
 refine ⟨⟨e0.mod,S.kind,rfl,rfl,Nat.le_refl _,fun y z c h1 h2=>?_,fun y hy=>?_,fun y c _ h=>?_,fun _=>.inl hd,Around.frames_deeper e0.frames,.inr ⟨rfl,rfl⟩,fun b z=>absurd z (noA b),e0.bs,e0.bsz,fun b _ _=>noA b,fun b z=>absurd z (noA b),e0.funs,e0.frf,fun _=>hd⟩,
  rfl,e0.bare,Un.kept hk,⟨_,x.toInCall.ns,fun i y v h1 h2 h3=>?_⟩,fun y c h=>⟨_,x.cell y c h⟩,e0.hok.fresh (Nat.le_refl _),fun y c h=>?_,fun p hp=>absurd (show p∈([]:List (Addr×Obj)) from hp) (by simp),e0.hok.kept hk,?_⟩
 ·exact name_of_addr x.apart (PySem.mem_of_lookup h1) (PySem.mem_of_lookup h2)
 ·have hy:scope.names.lookup y=some .cell∨scope.names.lookup y=some .free:=hy
  rcases hy with hy | hy
  ·exact cell_has hy
  ·exact absurd rfl (S.nofree _ (PySem.mem_of_lookup hy))
 ·exact Nat.le_of_lt (x.above y c (PySem.mem_of_lookup h))
 ·have hi:i < vs.length:=by
   unfold start at h2
   by_cases hi:i < vs.length
   ·exact hi
   ·rw [List.getElem?_append_right (by simpa using hi)] at h2
    rw [List.getElem?_replicate] at h2
    split at h2<;>cases h2
  have ha:vs[i]?=some v:=by
   unfold start at h2
   rw [List.getElem?_append_left (by simpa using hi),List.getElem?_map] at h2
   cases e:vs[i]? with
   |none=>rw [e] at h2;cases h2
   |some a=>rw [e] at h2;cases h2;rfl
  obtain ⟨u,hu,rv⟩:=r.get ha
  have hp:ps[i]?=some y:=by
   rw [<-S.pre,List.getElem?_take_of_lt (by omega)];exact h1
  have ndP:ps.Nodup:=by rw [<-S.pre];exact S.nd.sublist (List.take_sublist _ _)
  refine ⟨u,rv,?_⟩
  rcases S.par y (List.mem_of_getElem? hp) with k | k
  ·exact .inl ⟨k,bindL_get ndP hp hu k⟩
  ·obtain ⟨c,e⟩:=cell_has (n:=s.heap.objs.size+1) k
   refine .inr ⟨.inl k,c,e,?_⟩
   have q:=x.cell y c e
   rw [bindC_get ndP hp hu (by show scope.names.lookup y≠_;rw [k];decide)] at q
   exact q
 ·exact e0.hok.fresh (Nat.le_of_lt (x.above y c (PySem.mem_of_lookup h)))
 ·unfold start
  show _=N.length
  rw [List.length_append,List.length_map,List.length_replicate]
  omega
theorem fn_of {CX:CXT}{P:Program}{w:World}{K:PySem.W.Frag}{mg:Str->Option Value}{base:Heap}{k:Nat}{f:Addr}{name qual:Str}{params:Arguments}{body:List Stmt}{scope:Scope}{dV kV doc pm cdv ct oc:Value}{an od:Option Addr}
  {osl:Array (Option Value)}{N ps:List Str}{sp:Sp}(lk:K.lookup f=some ⟨oc,od,.func (PySem.W.fnOf name qual params body scope dV kV doc pm an cdv ct),osl⟩) (hcd:PySem.W.codeIn K cdv qual=true) (S:FnScope N ps scope)
  (len:∀vs H Q E,sp vs H Q E->vs.length=ps.length)
  (hbody:∀(A:Around) (outer:List Env) (s:Shared) (H:Hp) (vs:List V) (Q:VK) (E:XK),Room k (A.deeper (envOfC qual scope s.heap.objs.size f cdv))->sp vs H Q E ->
   ∃t,PSs (cxOf CX P w K mg base N qual scope f cdv A outer s H E) body t/\t { nx:=fun _ H'=>Q .non H',rt:=Q } (start N vs) H) :
  FnOk P w K mg base CX (k+1) f (PySem.W.fnOf name qual params body scope dV kV doc pm an cdv ct) ps sp:=by
 refine ⟨len,fun A outer s H args us vs Q E hr e0 hb r hsp=>?_⟩
 have hl:=len _ _ _ _ hsp
 have KX:K.In s.heap:=e0.mod.kin.keeps fun b o e=>(e0.bs b o e).1
 have lim:s.heap.NoLimit:=e0.mod.nolimit.keeps fun b o e=>(e0.bs b o e).1
 have hkind:∀y∈ps.zip us,scope.names.lookup y.1=some .local∨(scope.names.lookup y.1=some .cell/\((cellsFrom (s.heap.objs.size+1) scope.names []).lookup y.1).isSome=true):=fun ⟨n,v⟩ hy=>by
  rcases S.par n (List.of_mem_zip hy).1 with q | q
  ·exact .inl q
  ·exact .inr ⟨q,PySem.W.cellsFrom_some _ _ _ (.inl q)⟩
 refine codeAny_call_function hr.depth (KX _ _ lk) rfl S.co S.gen rfl (PySem.W.codeRec_of KX hcd) (hb _ _ _ _ ?_)
 refine wpAny_newFunctionEnv_cells S.kind hkind fun env he s1 x=>?_
 subst he
 refine ⟨lim.keeps x.toInCall.keep,codeAny_func ?_⟩
 obtain ⟨t,ht,hq⟩:=hbody A outer s H vs Q E (hr.deeper _) hsp
 have I:Inv (cxOf CX P w K mg base N qual scope f cdv A outer s H E) [] (start N vs) H s1:=inv_start S hr.hd e0 hl r x
 refine wpAny_mono (ht [] s1 (start N vs) H _ I hq) (fun fl s' hs=>?_) fun e s' hs=>hs
 have fin:∀{σ':St}{H':Hp}{v:V}{u:Value},Inv (cxOf CX P w K mg base N qual scope f cdv A outer s H E) [] σ' H' s'->RelV v u->Q v H'->CE outer P w H s Q u s':=
  fun {σ' H' v u} J rv q=>⟨v,H',J.os,J.bare,J.base,J.hok,rv,q⟩
 cases fl with
 |ret u=>
  obtain ⟨v,σ',H',J,rv,q⟩:=hs
  exact fin J rv q
 |next=>
  obtain ⟨σ',H',J,q⟩:=hs
  exact fin (v:=V.non) (u:=Value.none) J rfl q
 |brk=>
  obtain ⟨_,_,_,q⟩:=hs
  exact False.elim q
 |cont=>
  obtain ⟨_,_,_,q⟩:=hs
  exact False.elim q
end L2
namespace L2
open PySem PySem.Spec PyProof.Rows
section
variable {X:Cx}{x:Str}{p pos:Pos}{e:Expr}{es:List Expr}{t:TA}{id T:String}{r:List V->Hp->VK->Prop}
noncomputable def tCB (r:List V->Hp->VK->Prop) (t:TA):TE:=fun σ H Q=>t σ H fun vs H1=>r vs H1 Q
theorem pe_callB (hc:CallR X (.builtin id) r) (hg:Gl X x) (hm:X.mg x=none) (hv:bootBuiltins x=some (.builtin id)) (ha:PA X (e::es) t) (hn:x ≠ "__name__" := by decide) (hdb:(x==("__debug__" : Str))=false:=by decide)
  (he:starEach (e::es) X.env=(false,eval e X.env)::starEach es X.env:=by rfl) (hpl:(backTo pos (starEach es X.env)).any (·.1)=false:=by rfl):PE X (.Call (.Name x p) (e::es) [] pos) (tCB r t):=by
 intro pins s σ H Q I h
 refine wpAny_Call_Name_kw (ld_blt I hg hm hv ?_ hn hdb)
 exact PyProof.Rows.callWith_builtin1 (thn (ha pos pins s σ H _ I h) fun us s1 ⟨vs,H1,I1,r1,q1⟩=>hc pins s1 σ H1 vs us Q I1 r1 q1) he hpl
theorem pe_callTy (hc:CallR X (.type T) r) (hg:Gl X x) (hm:X.mg x=none) (hv:bootBuiltins x=some (.type T)) (ha:PA X (e::es) t) (hn:x ≠ "__name__" := by decide) (hdb:(x==("__debug__" : Str))=false:=by decide)
  (he:starEach (e::es) X.env=(false,eval e X.env)::starEach es X.env:=by rfl) (hpl:(backTo pos (starEach es X.env)).any (·.1)=false:=by rfl):PE X (.Call (.Name x p) (e::es) [] pos) (tCB r t):=by
 intro pins s σ H Q I h
 refine wpAny_Call_Name_kw (ld_blt I hg hm hv ?_ hn hdb)
 exact PyProof.Rows.callWith_type1 (thn (ha pos pins s σ H _ I h) fun us s1 ⟨vs,H1,I1,r1,q1⟩=>hc pins s1 σ H1 vs us Q I1 r1 q1) he hpl
end
end L2
namespace HT
open PySem PyProof.Rows
noncomputable def lexLt:List Int->List Int->Bool
 |[],[]=>false
 |[],_::_=>true
 |_::_,[]=>false
 |x::xs,y::ys=>if x=y then lexLt xs ys else decide (x < y)
theorem lexLt_cons (x y:Int) (xs ys:List Int):lexLt (x::xs) (y::ys)=if x=y then lexLt xs ys else decide (x < y):=rfl
theorem lexLt_nil_nil:lexLt [] []=false:=rfl
theorem lexLt_nil_cons (y:Int) (ys:List Int):lexLt [] (y::ys)=true:=rfl
theorem lexLt_cons_nil (x:Int) (xs:List Int):lexLt (x::xs) []=false:=rfl
theorem eqAt_int (A:Around) (s:Shared) (a:Int) (t:Tok) (c:Int) (u:Tok):∃e,SeqAt.EqAt A s (.int a t) (.int c u) e/\(e=true↔a=c):=
 ⟨(a==c),SeqAt.EqAt.int_int a t c u,by simp⟩
theorem rcLt_int (A:Around) (s:Shared) (a:Int) (t:Tok) (c:Int) (u:Tok) (prog:Program) (w:World) (E:Value->Shared->Prop) (Q:Value->Shared->Prop) (h:Q (.bool (decide (a < c))) s) :
  wpAny (model prog w) A (richCompare .Lt (.int a t) (.int c u)) Q E s:=
 (PyProof.Rows.lt_int h:wpAny (model prog w) A (compareOp .Lt (.int a t) (.int c u)) Q E s)
section
open PySem.SeqAt
open PySem.AutoSeq1 (wpAny_loadPart')
open PySem.MeetsSeq PySem.MeetsSeq2 PySem.MeetsSeq3
theorem tuple_lt_ints (l b:Addr) (items items2:Array Value) (n n2:Nat) (dd dd2:Option Addr) (sl sl2:Array (Option Value)) (ns ms:List Int) (hi:IntsAre items.toList ns) (hj:IntsAre items2.toList ms) :
  Meets (Builtin.«tuple.__lt__» ⟨[.ref l,.ref b],[]⟩)
   (fun _ R s=>s.heap.get? l=some { cls:=.type "tuple", dict:=dd,data:=.seq items n,slots:=sl }/\s.heap.get? b=some { cls:=.type "tuple", dict:=dd2,data:=.seq items2 n2,slots:=sl2 } /\
    R (.ok (.ret (.bool (lexLt ns ms)))) s):=
 .of_wp fun prog w A R s h=>by
  obtain ⟨hp,g,d,tk,os⟩:=s;obtain ⟨hl,hb,h⟩:=h
  have f2:=AutoSeq1.sub_tuple_tuple
  have z1:items.size=ns.length:=by rw [<-hi.length];simp
  have z2:items2.size=ms.length:=by rw [<-hj.length];simp
  wp_walk using wpAny_loadPart' hl,wpAny_loadPart' hb,wpAny_forIn_list _ (fun rest b s'=>b.1=none/\s'=⟨hp,g,d,tk,os⟩/\∃(vs ws:List Value) (ns' ms':List Int),rest=vs.zip ws /\
   IntsAre vs ns'/\IntsAre ws ms'/\ns'.length+items2.size=ms'.length+items.size/\R (.ok (.ret (.bool (lexLt ns' ms')))) ⟨hp,g,d,tk,os⟩) _
  case turn=>
   rintro ⟨y,x⟩ rest b s' ⟨hb',rfl,vs,ws,ns',ms',hz,hvi,hwi,hlen,hR⟩
   cases hvi with
   |nil=>rw [List.zip_nil_left] at hz;cases hz
   |cons a t hvi'=>
    cases hwi with
    |nil=>rw [List.zip_nil_right] at hz;cases hz
    |cons c u hwi'=>
     rw [List.zip_cons_cons] at hz
     injection hz with hyx hrest
     injection hyx with hy hx
     subst hy hx
     rw [lexLt_cons] at hR
     simp only [List.length_cons] at hlen
     obtain ⟨e,he,hiff⟩:=eqAt_int A.in1 ⟨hp,g,d,tk,os⟩ a t c u
     refine wpAny_bind (he prog w _ _ ?_)
     cases e with
     |true=>
      rw [if_pos (hiff.mp rfl)] at hR
      wp_walk
      exact ⟨rfl,rfl,_,_,_,_,hrest,hvi',hwi',by omega,hR⟩
     |false=>
      rw [if_neg (fun q=>absurd (hiff.mpr q) Bool.false_ne_true)] at hR
      have hri:=rcLt_int A.in1 ⟨hp,g,d,tk,os⟩ a t c u prog w
      wp_walk using hri
      exact ⟨_,rfl,by simpa using hR⟩
  case fin=>
   rintro ⟨b1,b2⟩ s' ⟨hb',rfl,vs,ws,ns',ms',hz,hvi,hwi,hlen,hR⟩
   simp only at hb'
   subst hb'
   have hv:lexLt ns' ms'=decide (items.size < items2.size):=by
    cases hvi with
    |nil=>
     cases hwi with
     |nil=>
      simp only [List.length_nil] at hlen
      rw [lexLt_nil_nil]
      exact (decide_eq_false (by omega)).symm
     |cons c u hw=>
      simp only [List.length_nil,List.length_cons] at hlen
      rw [lexLt_nil_cons]
      exact (decide_eq_true (by omega)).symm
    |cons a t hv=>
     cases hwi with
     |nil=>
      simp only [List.length_nil,List.length_cons] at hlen
      rw [lexLt_cons_nil]
      exact (decide_eq_false (by omega)).symm
     |cons c u hw=>
      rw [List.zip_cons_cons] at hz
      cases hz
   rw [hv] at hR
   wp_walk
   exact ⟨_,rfl,by simpa [Builtin.Tuple.tupleCompareSizes] using hR⟩
  case h=>
   exact ⟨rfl,rfl,items.toList,items2.toList,ns,ms,rfl,hi,hj,by omega,h⟩
end
section
variable {prog:Program}{w:World}{A:Around}{E:Value->Shared->Prop}{s:Shared}
theorem lt_tupInts {l b:Addr}{items items2:Array Value}{ns ms:List Int}{Q:Value->Shared->Prop}(hl:IsTup s.heap l items) (hb:IsTup s.heap b items2) (hi:IntsAre items.toList ns) (hj:IntsAre items2.toList ms)
  (hu:A.units < cLine) (h:Q (.bool (lexLt ns ms)) s):wpAny (model prog w) A (compareOp .Lt (.ref l) (.ref b)) Q E s:=by
 obtain ⟨⟨cls,dd,data,sl⟩,ho,hc,n,hd⟩:=id hl
 obtain ⟨⟨cls2,dd2,data2,sl2⟩,ho2,hc2,n2,hd2⟩:=id hb
 simp only at hc hd hc2 hd2
 subst hc hd hc2 hd2
 exact richCompare_meets_room (op:=.Lt) ⟨_,ho,rfl⟩ ⟨_,ho2,rfl⟩ PySem.F.slot_tuple_lt PySem.F.entry_tuple_lt (PySem.F.args_tuple_lt_2 _ _) (tuple_lt_ints l b items items2 n n2 dd dd2 sl sl2 ns ms hi hj)
  ⟨ho,ho2,show Value.bool (lexLt ns ms)≠Value.notImplemented/\Q (.bool (lexLt ns ms)) s from ⟨(fun x=>nomatch x),h⟩⟩ hu
theorem cat_tup {t b:Addr}{vs ws:List Value}{Q:Value->Shared->Prop}(ht:IsTup s.heap t vs.toArray) (hb:IsTup s.heap b ws.toArray) (hv:vs≠[])
  (h1:ws=[]->Q (.ref t) s) (h2:ws≠[]->Q (.ref s.heap.objs.size) { s with heap:=s.heap.push { cls:=.type "tuple", data:=.seq (vs++ws).toArray } })
  (hsz:vs.length+ws.length<=sizeLine):wpAny (model prog w) A (binaryOp .Add (.ref t) (.ref b)) Q E s:=by
 obtain ⟨⟨cls,dd,data,sl⟩,ho,hc,n,hd⟩:=id ht
 obtain ⟨⟨cls2,dd2,data2,sl2⟩,ho2,hc2,n2,hd2⟩:=id hb
 simp only at hc hd hc2 hd2
 subst hc hd hc2 hd2
 have e:vs.toArray++ws.toArray=(vs++ws).toArray:=by simp
 by_cases hw:ws=[]
 ·exact concat_meets ⟨_,ho,rfl⟩ ⟨_,ho2,rfl⟩ noFill_tuple_add seq_tuple_add PySem.F.slot_tuple_add PySem.F.entry_tuple_add (PySem.F.args_tuple_add_2 _ _)
   (tuple_addW1 t b vs.toArray ws.toArray n n2 dd dd2 sl sl2 (by simpa using hv) (by simp [hw])) ⟨ho,ho2,h1 hw⟩
 ·refine concat_meets ⟨_,ho,rfl⟩ ⟨_,ho2,rfl⟩ noFill_tuple_add seq_tuple_add PySem.F.slot_tuple_add PySem.F.entry_tuple_add (PySem.F.args_tuple_add_2 _ _)
   (tuple_addW2 t b vs.toArray ws.toArray n n2 dd dd2 sl sl2 (by simpa using hv) (by simpa using hw) (by rw [List.size_toArray,List.size_toArray];exact hsz)) ⟨ho,ho2,?_⟩
  rw [e]
  exact h2 hw
noncomputable def sIx (n d:Nat):Option Int->Nat
 |none=>d
 |some v=>if v < 0 then (v+(n:Int)).toNat else min v.toNat n
theorem sIx_le (n d:Nat) (hd:d<=n) (o:Option Int):sIx n d o<=n:=by
 cases o with
 |none=>exact hd
 |some v=>
  show (if v < 0 then (v+(n:Int)).toNat else min v.toNat n)<=n
  by_cases hv:v < 0
  ·rw [if_pos hv];omega
  ·rw [if_neg hv];exact Nat.min_le_right _ _
theorem clip_eq (v:Int) (n d:Nat):(if v < 0 then max (v+(n:Int)) 0 else min v (n:Int))=((sIx n d (some v):Nat):Int):=by
 show (if v < 0 then max (v+(n:Int)) 0 else min v (n:Int))=(((if v < 0 then (v+(n:Int)).toNat else min v.toNat n):Nat):Int)
 by_cases hv:v < 0
 ·simp only [if_pos hv];omega
 ·simp only [if_neg hv];omega
theorem adjust_gen (lo hi:Option Int) (n:Nat):Builtin.Slice.sliceAdjust lo hi 1 (n:Int)=(((sIx n 0 lo:Nat):Int),((sIx n n hi:Nat):Int)):=by
 have h1:¬((1:Int) < 0):=by omega
 unfold Builtin.Slice.sliceAdjust
 simp only [h1,if_false]
 refine Prod.ext ?_ ?_
 ·cases lo with
  |none=>rfl
  |some v=>exact clip_eq v n 0
 ·cases hi with
  |none=>rfl
  |some v=>exact clip_eq v n n
theorem places_gen (i j:Nat):Builtin.Slice.slicePlaces (i:Int) (j:Int) 1=j-i:=by
 unfold Builtin.Slice.slicePlaces
 have h1:(1:Int) > 0:=by omega
 simp only [h1,if_true,Int.ediv_one]
 split<;>omega
theorem slicePart_ {v:Value}{o:Option Int}{Q:Option Int->Shared->Prop}(p:IsPart v o) (h:Q o s):wpAny (model prog w) A (Builtin.Slice.slicePartIndex v) Q E s:=by
 cases p with
 |none=>exact slicePart_none h
 |int i t=>exact slicePart_int h
theorem sliceApplied_gen {sl:Addr}{vl vu:Value}{lo hi:Option Int}{n:Nat}{Q:Int×Int×Nat->Shared->Prop}(hs:s.heap.IsSliceOf sl vl vu .none) (pl:IsPart vl lo) (pu:IsPart vu hi)
  (h:Q (((sIx n 0 lo:Nat):Int),1,sIx n n hi-sIx n 0 lo) s):wpAny (model prog w) A (Builtin.Slice.sliceApplied (.ref sl) (pure (n:Int))) Q E s:=by
 obtain ⟨os,hos,hcs,hds⟩:=id hs
 unfold Builtin.Slice.sliceApplied Builtin.Slice.sliceFields
 refine wpAny_bind (wpAny_bind (wpAny_field hos hds (x:=vl) rfl (wpAny_bind (wpAny_field hos hds (x:=vu) rfl (wpAny_bind (wpAny_field hos hds (x:=.none) rfl (wpAny_pure ?_)))))))
 refine wpAny_bind (slicePart_none ?_)
 show wpAny _ _ (if ((1:Int)==0)=true then _ else _) _ _ s
 rw [if_neg (by decide)]
 refine wpAny_bind (slicePart_ pl (wpAny_bind (slicePart_ pu (wpAny_bind (wpAny_pure ?_)))))
 show wpAny _ _ (match Builtin.Slice.sliceAdjust lo hi 1 (n:Int) with | (lo,hi)=>pure (lo,(1:Int),Builtin.Slice.slicePlaces lo hi 1)) _ _ s
 rw [adjust_gen lo hi n]
 show wpAny _ _ (pure (((sIx n 0 lo:Nat):Int),(1:Int),Builtin.Slice.slicePlaces ((sIx n 0 lo:Nat):Int) ((sIx n n hi:Nat):Int) 1)) _ _ s
 rw [places_gen]
 exact wpAny_pure h
theorem pick_gen (xs:Array Value) (i k:Nat):((List.range k).filterMap fun (m:Nat)=>xs[((i:Int)+(m:Int) * 1).toNat]?).toArray=((xs.toList.drop i).take k).toArray:=by
 have e:(fun (m:Nat)=>xs[((i:Int)+(m:Int) * 1).toNat]?)=fun m=>xs[i+m]?:=by
  funext m
  have:((i:Int)+(m:Int) * 1).toNat=i+m:=by omega
  rw [this]
 rw [e]
 have:=pick_run xs i k
 rw [List.filterMap_map] at this
 have e2:((fun x=>xs[x]?) ∘ fun x=>i+x)=fun m=>xs[i+m]?:=rfl
 rw [e2] at this
 rw [this]
theorem getItem_tuple_cut {t sl:Addr}{items:Array Value}{vl vu:Value}{lo hi:Option Int}{Q:Value->Shared->Prop}(ht:IsTup s.heap t items) (hs:s.heap.IsSliceOf sl vl vu .none) (pl:IsPart vl lo) (pu:IsPart vu hi)
  (hw:¬(sIx items.size 0 lo=0/\sIx items.size items.size hi=items.size))
  (h:Q (.ref s.heap.objs.size) { s with heap:=s.heap.push { cls:=.type "tuple", data:=.seq ((items.toList.drop (sIx items.size 0 lo)).take (sIx items.size items.size hi-sIx items.size 0 lo)).toArray } })
  (hsz:items.size<=sizeLine):wpAny (model prog w) A (getItem (.ref t) (.ref sl)) Q E s:=by
 have htake:sizeOk (.seq ((items.toList.drop (sIx items.size 0 lo)).take (sIx items.size items.size hi-sIx items.size 0 lo)).toArray):=by
  show ((items.toList.drop (sIx items.size 0 lo)).take (sIx items.size items.size hi-sIx items.size 0 lo)).toArray.size<=sizeLine
  rw [List.size_toArray,List.length_take,List.length_drop,Array.length_toList]
  omega
 have hj:sIx items.size items.size hi<=items.size:=sIx_le _ _ (Nat.le_refl _) hi
 obtain ⟨os,hos,hcs,hds⟩:=id hs
 have hTs:s.TypeIs (.ref sl) "slice" := ⟨os,hos,hcs⟩
 unfold getItem
 try with_reducible refine wpAny_holding ?_
 first | refine wpAny_bind (wpAny_pure ?_) | skip
 refine wpAny_bind (wpAny_sequenceKey ht.typeIs (by decide) ?_)
 refine wpAny_bind (wpAny_callSpecial?_slot (name:=Str.ofString "__getitem__") ht.typeIs PyProof.Rows.slot_tuple_getitem
  (wpAny_call_entry PyProof.Rows.slot_tuple_getitem ht.typeIs entry_tuple_getitem ?_ (args_tuple_getitem _ _)))
 show wpAny _ _ (Builtin.Tuple.tupleItemsOf (.ref t) >>= _) _ _ s
 refine wpAny_bind (tupleItemsOf_ ht ?_)
 refine wpAny_bind (wpAny_typeOf hTs ?_)
 rw [if_pos (by decide)]
 refine wpAny_bind (sliceApplied_gen hs pl pu ?_)
 have hno:¬((((sIx items.size 0 lo:Nat):Int)==0&&(1:Int)==1&&(sIx items.size items.size hi-sIx items.size 0 lo)==items.size)=true):=by
  intro q
  rw [Bool.and_eq_true,Bool.and_eq_true] at q
  have q1:((sIx items.size 0 lo:Nat):Int)=0:=eq_of_beq q.1.1
  have q2:sIx items.size items.size hi-sIx items.size 0 lo=items.size:=eq_of_beq q.2
  exact hw ⟨by omega,by omega⟩
 show wpAny _ _ (if (((sIx items.size 0 lo:Nat):Int)==0&&(1:Int)==1&&(sIx items.size items.size hi-sIx items.size 0 lo)==items.size)=true then _ else _) _ _ s
 rw [if_neg hno,pick_gen]
 first
  |exact wpAny_bind (m:=Builtin.Tuple.tupleExact _) (wpAny_newObj_type (wpAny_pure ⟨_,rfl,wpAny_pure h⟩) htake)
  |exact wpAny_bind (m:=Builtin.Tuple.tupleExact _) (wpAny_newObj_type (wpAny_bind (wpAny_pure (wpAny_pure ⟨_,rfl,wpAny_pure h⟩))) htake)
  |exact wpAny_bind (wpAny_bind (m:=Builtin.Tuple.tupleExact _) (wpAny_newObj_type (wpAny_pure (wpAny_pure ⟨_,rfl,wpAny_pure h⟩)) htake))
  |exact wpAny_bind (wpAny_bind (m:=Builtin.Tuple.tupleExact _) (wpAny_newObj_type (wpAny_pure ⟨_,rfl,wpAny_pure h⟩) htake))
end
end HT
namespace L2
open PySem PySem.Spec PyProof.Rows
noncomputable abbrev TO:=St->Hp->(Option Int->Hp->Prop)->Prop
noncomputable def PO (X:Cx) (e:Option Expr) (t:TO):Prop:=
 ∀(pins:List (Addr×Obj)) (s:Shared) (σ:St) (H:Hp) (Q:Option Int->Hp->Prop),Inv X pins σ H s->t σ H Q ->
  wpAny (model X.prog X.w) X.A (evalPart e X.env) (fun u s'=>∃o H',Inv X pins σ H' s'/\IsPart u o/\Q o H') X.xe s
noncomputable def tNoPart:TO:=fun _ H Q=>Q none H
noncomputable def tPart (t:TE):TO:=fun σ H Q=>t σ H fun x H1=>∃i,x=.int i/\Q (some i) H1
theorem intsAre_of {ns:List Int}:∀{us:List Value},Vals (ns.map V.int) us->IntsAre us ns:=by
 induction ns with
 |nil=>intro us r;rw [List.map_nil] at r;cases r;exact .nil
 |cons n ns ih=>
  intro us r
  rw [List.map_cons] at r
  cases r with
  |cons r1 r2=>
   obtain ⟨t,e⟩:=r1
   subst e
   exact .cons n t (ih r2)
section
variable {X:Cx}{e:Expr}{te:TE}{lo hi:Option Expr}{tl th:TO}{pos p2:Pos}
theorem po_none:PO X none tNoPart:=by
 intro pins s σ H Q I h
 rw [evalPart_none]
 exact wpAny_pure ⟨none,H,I,.none,h⟩
theorem po_some (h:PE X e te):PO X (some e) (tPart te):=by
 intro pins s σ H Q I hw
 rw [evalPart_some]
 refine thn (h pins s σ H _ I hw) fun u s1 ⟨x,H1,I1,r1,q1⟩=>?_
 obtain ⟨i,rfl,q⟩:=q1
 obtain ⟨t,rfl⟩:=r1
 exact ⟨some i,H1,I1,.int i t,q⟩
noncomputable def SlR (X:Cx) (r:V->Option Int->Option Int->Hp->VK->Prop):Prop:=
 ∀(pins:List (Addr×Obj)) (s:Shared) (σ:St) (H:Hp) (x:V) (v vl vu:Value) (lo hi:Option Int) (sl:Addr) (Q:VK),Inv X pins σ H s->RelV x v->s.heap.IsSliceOf sl vl vu .none->IsPart vl lo->IsPart vu hi->r x lo hi H Q ->
  ∃T id,typeLookup (.type T) "__getitem__" = pure (some (.builtin id))/\s.TypeIs v T/\wpAny (model X.prog X.w) X.A (getItem v (.ref sl)) (EP X pins σ Q) X.xe s
theorem SlR.or {r r':V->Option Int->Option Int->Hp->VK->Prop}(h:SlR X r) (h':SlR X r'):SlR X (fun x lo hi H Q=>r x lo hi H Q∨r' x lo hi H Q):=by
 intro pins s σ H x v vl vu lo hi sl Q I rx hs pl pu q
 rcases q with q | q
 ·exact h pins s σ H x v vl vu lo hi sl Q I rx hs pl pu q
 ·exact h' pins s σ H x v vl vu lo hi sl Q I rx hs pl pu q
noncomputable def tSl (r:V->Option Int->Option Int->Hp->VK->Prop) (te:TE) (tl th:TO):TE:=fun σ H Q=>te σ H fun x H1=>tl σ H1 fun l H2=>th σ H2 fun u H3=>r x l u H3 Q
theorem pe_slice {r:V->Option Int->Option Int->Hp->VK->Prop}(hr:SlR X r) (he:PE X e te) (hl:PO X lo tl) (hu:PO X hi th):PE X (.Subscript e (.Slice lo hi none p2) pos) (tSl r te tl th):=by
 intro pins s σ H Q I h
 refine Subscript_ (thn (he pins s σ H _ I h) fun v s1 ⟨x,H1,I1,r1,q1⟩=>?_)
 refine wpAny_Slice (thn (hl pins s1 σ H1 _ I1 q1) fun vl s2 ⟨l,H2,I2,pl,q2⟩=>thn (hu pins s2 σ H2 _ I2 q2) fun vu s3 ⟨u,H3,I3,pu,q3⟩=>?_)
 rw [evalPart_none]
 refine wpAny_pure ?_
 have I4:Inv X pins σ H3 { s3 with heap:=s3.heap.push { cls:=.type "slice", data:=.fields #[vl,vu,.none] } }:=I3.kept (t':=s3.toks) fun b ob q=>Heap.get?_push_of_some _ q
 obtain ⟨T,id,hT,ht,hg⟩:=hr pins { s3 with heap:=s3.heap.push { cls:=.type "slice", data:=.fields #[vl,vu,.none] } } σ H3 x v vl vu l u s3.heap.objs.size Q I4 r1 (Heap.IsSliceOf.new ..) pl pu q3
 show wpAny (model X.prog X.w) X.A (subscriptTail e (.Slice lo hi none p2) v (.ref s3.heap.objs.size)) (EP X pins σ Q) X.xe { s3 with heap:=s3.heap.push { cls:=.type "slice", data:=.fields #[vl,vu,.none] } }
 exact tail_any (ops:=[.ref s3.heap.objs.size,v]) ht hT hg (by with_unfolding_all rfl)
noncomputable def cutV (xs:List V) (lo hi:Option Int):List V:=(xs.drop (HT.sIx xs.length 0 lo)).take (HT.sIx xs.length xs.length hi-HT.sIx xs.length 0 lo)
theorem cutV_length (xs:List V) (lo hi:Option Int):(cutV xs lo hi).length<=xs.length:=by
 unfold cutV
 rw [List.length_take,List.length_drop]
 omega
noncomputable def rSlT (K:PySem.W.Frag):V->Option Int->Option Int->Hp->VK->Prop:=fun x lo hi H Q=>∃a xs,x=.ref a/\SqT K H a xs /\
 ¬(HT.sIx xs.length 0 lo=0/\HT.sIx xs.length xs.length hi=xs.length)/\∀p,H p=none->Q (.ref p) (upd H p (.tup (cutV xs lo hi)))
theorem sl_tup:SlR X (rSlT X.K):=by
 intro pins s σ H x v vl vu lo hi sl Q I rx hs pl pu h
 obtain ⟨a,xs,rfl,hx,hw,q⟩:=h
 cases rx
 obtain ⟨its,r,ht,hz⟩:=I.tuple hx
 have hlen:its.toArray.size=xs.length:=by rw [List.size_toArray];exact r.length.symm
 refine ⟨"tuple", _,PyProof.Rows.slot_tuple_getitem.lookup,ht.typeIs,?_⟩
 refine HT.getItem_tuple_cut ht hs pl pu (by rw [hlen];exact hw) ?_ (by rw [hlen];exact hz)
 rw [hlen]
 refine ⟨.ref s.heap.objs.size,_,I.laid (t':=s.toks) (o:=.tup (cutV xs lo hi)) (fun b ob q=>Heap.get?_push_of_some _ q) (Nat.le_refl _) ?_,rfl,q _ (I.hok.fresh (Nat.le_refl _))⟩
 exact ⟨Nat.le_trans (cutV_length xs lo hi) hz,_,(r.drop (HT.sIx xs.length 0 lo)).take (HT.sIx xs.length xs.length hi-HT.sIx xs.length 0 lo),IsTup.new _ _⟩
noncomputable def rCatT (K:PySem.W.Frag):R2:=fun x y H Q=>∃a b xs ys,x=.ref a/\y=.ref b/\SqT K H a xs/\SqT K H b ys/\xs≠[]/\xs.length+ys.length<=sizeLine /\
 (ys=[]->Q (.ref a) H)/\(ys≠[]->∀p,H p=none->Q (.ref p) (upd H p (.tup (xs++ys))))
theorem Vals.nil_iff {xs:List V}{us:List Value}(r:Vals xs us):us=[]↔xs=[]:=by
 cases r with
 |nil=>simp
 |cons _ _=>simp
theorem op_catT:OpR X (binaryOp .Add) (rCatT X.K):=by
 intro pins s σ H x y v u Q I rx ry h
 obtain ⟨a,b,xs,ys,rfl,rfl,ha,hb,hx,hz,q1,q2⟩:=h
 cases rx
 cases ry
 obtain ⟨its,r1,p1,_⟩:=I.tuple ha
 obtain ⟨its2,r2,p2,_⟩:=I.tuple hb
 refine HT.cat_tup p1 p2 (fun z=>hx (r1.nil_iff.mp z)) (fun z=>⟨.ref a,H,I,rfl,q1 (r2.nil_iff.mp z)⟩) (fun z=>?_) (by rw [<-r1.length,<-r2.length];exact hz)
 refine ⟨.ref s.heap.objs.size,_,I.laid (t':=s.toks) (o:=.tup (xs++ys)) (fun b ob q=>Heap.get?_push_of_some _ q) (Nat.le_refl _) ?_,rfl,q2 (fun w=>z (r2.nil_iff.mpr w)) _ (I.hok.fresh (Nat.le_refl _))⟩
 exact ⟨by rw [List.length_append];exact hz,_,r1.append r2,IsTup.new _ _⟩
end
end L2
namespace L2
open PySem PySem.Spec PyProof.Rows
noncomputable def ixN (n:Nat) (i:Int):Option Nat:=if 0<=i then (if i < n then some i.toNat else none) else if -(n:Int)<=i then some (i+n).toNat else none
noncomputable def atI {α:Type}(xs:List α) (i:Int):Option α:=(ixN xs.length i).bind fun j=>xs[j]?
theorem ixN_seq {n:Nat}{i:Int}{j:Nat}(h:ixN n i=some j):seqIndex? i n=some j/\j < n/\-(n:Int)<=i/\i < n:=by
 unfold ixN at h
 by_cases h0:0<=i
 ·rw [if_pos h0] at h
  by_cases h1:i < n
  ·rw [if_pos h1] at h
   have e:i.toNat=j:=Option.some.inj h
   exact ⟨by rw [seqIndex_of h0 h1,e],by omega,by omega,h1⟩
  ·rw [if_neg h1] at h;cases h
 ·rw [if_neg h0] at h
  by_cases h1:-(n:Int)<=i
  ·rw [if_pos h1] at h
   have e:(i+n).toNat=j:=Option.some.inj h
   exact ⟨by rw [seqIndex_neg (by omega) h1,e],by omega,h1,by omega⟩
  ·rw [if_neg h1] at h;cases h
theorem atI_get {α:Type}{xs:List α}{i:Int}{v:α}(h:atI xs i=some v):∃j,seqIndex? i xs.length=some j/\xs[j]?=some v/\j < xs.length/\-(xs.length:Int)<=i/\i < xs.length:=by
 unfold atI at h
 cases e:ixN xs.length i with
 |none=>rw [e] at h;cases h
 |some j=>
  rw [e] at h
  obtain ⟨h1,h2,h3,h4⟩:=ixN_seq e
  exact ⟨j,h1,h,h2,h3,h4⟩
noncomputable def PlainIx (b:Expr):Prop:=∀o i,subscripted b false o i=operate [o,i] (getItem o i)
noncomputable def IxR (X:Cx) (r:R2):Prop:=
 ∀(value slice:Expr) (pins:List (Addr×Obj)) (s:Shared) (σ:St) (H:Hp) (x y:V) (v u:Value) (Q:VK),Inv X pins σ H s->RelV x v->RelV y u->r x y H Q ->
  subscripted slice false v u=operate [v,u] (getItem v u)->wpAny (model X.prog X.w) X.A (subscriptTail value slice v u) (EP X pins σ Q) X.xe s
noncomputable def MtR (X:Cx) (id:String) (r:V->List V->Hp->VK->Prop):Prop:=
 ∀(pins:List (Addr×Obj)) (s:Shared) (σ:St) (H:Hp) (x:V) (xs:List V) (v:Value) (us:List Value) (Q:VK),Inv X pins σ H s->RelV x v->Vals xs us->r x xs H Q ->
  wpAny (model X.prog X.w) X.A (call (.builtin id) (v::us)) (EP X pins σ Q) X.xe s
section
variable {X:Cx}{a b:Expr}{ta tb:TE}{pos:Pos}
theorem IxR.or {r r':R2}(h:IxR X r) (h':IxR X r'):IxR X (fun x y H Q=>r x y H Q∨r' x y H Q):=by
 intro value slice pins s σ H x y v u Q I rx ry q hs
 rcases q with q | q
 ·exact h value slice pins s σ H x y v u Q I rx ry q hs
 ·exact h' value slice pins s σ H x y v u Q I rx ry q hs
theorem pe_ix {r:R2}(hr:IxR X r) (ha:PE X a ta) (hb:PE X b tb) (hs:PlainIx b):PE X (.Subscript a b pos) (tOp r ta tb):=by
 intro pins s σ H Q I h
 exact Subscript_ (binT ha hb I h fun v u s2 x y H2 I2 rx ry q=>hr a b pins s2 σ H2 x y v u Q I2 rx ry q (hs _ _))
noncomputable def rIxL (K:PySem.W.Frag):R2:=fun x y H Q=>∃p xs i v,x=.ref p/\y=.int i/\SqL K H p xs/\atI xs i=some v/\Q v H
noncomputable def rIxT (K:PySem.W.Frag):R2:=fun x y H Q=>∃p xs i v,x=.ref p/\y=.int i/\SqT K H p xs/\atI xs i=some v/\Q v H
noncomputable def rIxS:R2:=fun x y H Q=>∃z i c,x=.str z/\y=.int i/\z.length<=sizeLine/\atI z.cps.toList i=some c/\Q (.str ⟨#[c]⟩) H
theorem ix_list:IxR X (rIxL X.K):=by
 intro value slice pins s σ H x y v u Q I rx ry h hs
 obtain ⟨p,xs,i,z,rfl,rfl,hq,he,q⟩:=h
 cases rx
 obtain ⟨t,rfl⟩:=ry
 obtain ⟨its,r,pl,hz⟩:=I.list hq
 obtain ⟨j,h1,h2,h3,h4,h5⟩:=atI_get he
 obtain ⟨w,ew,rw'⟩:=r.get h2
 have hl:=r.length
 have hn:=line63
 have fin:EP X pins σ Q w s:=⟨z,H,I,rw',q⟩
 by_cases h0:0<=i
 ·have hj:i.toNat=j:=by
   rw [seqIndex_of h0 h5] at h1
   exact Option.some.inj h1
  exact item_listR pl.isList h0 (by omega) (by rw [hj];simpa using ew) fin hs
 ·have hj:(i+(its.toArray.size:Int)).toNat=j:=by
   rw [seqIndex_neg (by omega) h4] at h1
   rw [List.size_toArray,<-hl]
   exact Option.some.inj h1
  exact subscriptTail_builtinR (x:=w) pl.isList.typeIs slot_list_getitem.lookup
   (wpAny_getItem_list_neg (Q:=fun r s'=>r=w/\EP X pins σ Q r s') pl.isList (by omega) (by rw [List.size_toArray]<;>omega) (by omega) (by rw [hj];simpa using ew) ⟨rfl,fin⟩) hs
theorem ix_tup:IxR X (rIxT X.K):=by
 intro value slice pins s σ H x y v u Q I rx ry h hs
 obtain ⟨p,xs,i,z,rfl,rfl,hq,he,q⟩:=h
 cases rx
 obtain ⟨t,rfl⟩:=ry
 obtain ⟨its,r,pl,hz⟩:=I.tuple hq
 obtain ⟨j,h1,h2,h3,h4,h5⟩:=atI_get he
 obtain ⟨w,ew,rw'⟩:=r.get h2
 have hl:=r.length
 have hn:=line63
 have fin:EP X pins σ Q w s:=⟨z,H,I,rw',q⟩
 exact subscriptTail_builtinR (x:=w) pl.typeIs slot_tuple_getitem.lookup
  (getItem_tuple (j:=j) (Q:=fun r s'=>r=w/\EP X pins σ Q r s') pl (by omega) (by omega) (by rw [List.size_toArray,<-hl];exact h1) (by simpa using ew) ⟨rfl,fin⟩) hs
theorem ix_str:IxR X rIxS:=by
 intro value slice pins s σ H x y v u Q I rx ry h hs
 obtain ⟨z,i,c,rfl,rfl,hz,he,q⟩:=h
 obtain ⟨t,rfl⟩:=rx
 obtain ⟨t',rfl⟩:=ry
 obtain ⟨j,h1,h2,h3,h4,h5⟩:=atI_get he
 have hl:z.cps.toList.length=z.length:=by simp [Str.length]
 rw [hl] at h1 h4 h5
 have hn:=line63
 exact tail_any (typeIs_str s z t) slot_str_getitem.lookup (getItem_str (c:=c) (by
  have e1:decide (i < -(2 ^ 63:Int))=false:=decide_eq_false (by omega)
  have e2:decide (i≥2 ^ 63)=false:=decide_eq_false (by omega)
  rw [e1,e2,Bool.or_false]) (by rw [h1];simpa using h2) ⟨.str ⟨#[c]⟩,H,I.tok _,⟨_,rfl⟩,q⟩) hs
noncomputable def rIx (K:PySem.W.Frag):R2:=fun x y H Q=>rIxL K x y H Q∨rIxT K x y H Q∨rIxS x y H Q
theorem ix_seq:IxR X (rIx X.K):=ix_list.or (ix_tup.or ix_str)
theorem mapSeq_set (its:List Value) (n j:Nat) (u:Value):Obj.mapSeq (·.setIfInBounds j u) { cls:=.type "list", data:=.seq its.toArray n }={ cls:=.type "list", data:=.seq (its.set j u).toArray n }:=by
 simp [Obj.mapSeq]
theorem Inv.lst {pins:List (Addr×Obj)}{σ:St}{H:Hp}{s:Shared}{p:Addr}{xs:List V}(I:Inv X pins σ H s) (h:H p=some (.lst xs)) :
  ∃(its:List Value) (n:Nat),Vals xs its/\s.heap.get? p=some { cls:=.type "list", data:=.seq its.toArray n }/\xs.length<=sizeLine:=by
 obtain ⟨z,its,n,r,e⟩:=I.hok p _ h
 exact ⟨its,n,r,e,z⟩
theorem Inv.lstUpd {pins:List (Addr×Obj)}{σ:St}{H:Hp}{s:Shared}{p:Addr}{xs ys:List V}{its its':List Value}{n n':Nat}{f:Obj->Obj}(I:Inv X pins σ H s) (h:H p=some (.lst xs))
  (ho:s.heap.get? p=some { cls:=.type "list", data:=.seq its.toArray n }) (hf:f { cls:=.type "list", data:=.seq its.toArray n }={ cls:=.type "list", data:=.seq its'.toArray n' }) (r:Vals ys its') (hz:ys.length<=sizeLine) (t:Nat) :
  Inv X pins σ (upd H p (.lst ys)) { s with heap:=s.heap.update p f,toks:=t }:=by
 have e:(s.heap.update p f).get? p=some { cls:=.type "list", data:=.seq its'.toArray n' }:=by
  rw [Heap.get?_update_self f ho (by rw [hf]<;>rfl),hf]
 refine I.write (x:=p) (e:=p) (by rw [h];trivial) (.inl rfl) (fun b u hb q=>(Heap.get?_update_other _ _ (Ne.symm hb)).trans q) ⟨_,e⟩ ?_
 exact ⟨hz,its',n',r,e⟩
noncomputable def rSetL:V->V->V->Hp->(Hp->Prop)->Prop:=fun o i v H Q=>∃p xs k j,o=.ref p/\i=.int k/\H p=some (.lst xs)/\ixN xs.length k=some j/\Q (upd H p (.lst (xs.set j v)))
theorem set_list:PSet X rSetL:=by
 intro pins s σ H o i v ov iv u Q I ro ri rv h
 obtain ⟨p,xs,k,j,rfl,rfl,hp,hj,q⟩:=h
 cases ro
 obtain ⟨t,rfl⟩:=ri
 obtain ⟨its,n,r,ho,hz⟩:=I.lst hp
 obtain ⟨h1,h2,h3,h4⟩:=ixN_seq hj
 have hl:=r.length
 have hn:=line63
 have I':Inv X pins σ (upd H p (.lst (xs.set j v))) { s with heap:=s.heap.update p (Obj.mapSeq (·.setIfInBounds j u)) }:=
  I.lstUpd hp ho (mapSeq_set its n j u) (r.set rv j) (by rw [List.length_set];exact hz) s.toks
 by_cases h0:0<=k
 ·have hk:k.toNat=j:=by
   rw [seqIndex_of h0 h4] at h1
   exact Option.some.inj h1
  exact PySem.W.ki_setAt ho h0 (by omega) (by rw [List.size_toArray,<-hl];exact h4) (by rw [hk];exact ⟨_,I',q⟩)
 ·have hk:(k+(its.toArray.size:Int)).toNat=j:=by
   rw [seqIndex_neg (by omega) h3] at h1
   rw [List.size_toArray,<-hl]
   exact Option.some.inj h1
  exact PySem.W.ki_setBack ho (by omega) (by rw [List.size_toArray,<-hl];exact h3) (by omega) (by rw [hk];exact ⟨_,I',q⟩)
theorem slice_bounds (lo hi:Option Int) (n:Nat):(sliceBounds lo hi none n).1=((HT.sIx n 0 lo:Nat):Int)/\(sliceBounds lo hi none n).2.1=((HT.sIx n n hi:Nat):Int)/\(sliceBounds lo hi none n).2.2=1:=by
 refine ⟨?_,?_,rfl⟩
 ·cases lo with
  |none=>simp [sliceBounds,HT.sIx]
  |some i=>
   simp only [sliceBounds,HT.sIx,Option.getD_none,show (1:Int) > 0 by decide,if_true]
   by_cases h:i < 0
   ·simp only [h,if_true]<;>omega
   ·simp only [h,if_false]<;>omega
 ·cases hi with
  |none=>simp [sliceBounds,HT.sIx]
  |some i=>
   simp only [sliceBounds,HT.sIx,Option.getD_none,show (1:Int) > 0 by decide,if_true]
   by_cases h:i < 0
   ·simp only [h,if_true]<;>omega
   ·simp only [h,if_false]<;>omega
theorem slicePick_cut (its:List Value) (lo hi:Option Int):slicePick its.toArray lo hi none=((its.drop (HT.sIx its.length 0 lo)).take (HT.sIx its.length its.length hi-HT.sIx its.length 0 lo)).toArray:=by
 obtain ⟨h1,h2,h3⟩:=slice_bounds lo hi its.toArray.size
 unfold slicePick
 rw [h1,h2,h3]
 simp only [sliceRange_one,pick_run,List.size_toArray]<;>rfl
noncomputable def rSlL (K:PySem.W.Frag):V->Option Int->Option Int->Hp->VK->Prop:=fun x lo hi H Q=>∃a xs,x=.ref a/\SqL K H a xs/\∀p,H p=none->Q (.ref p) (upd H p (.lst (cutV xs lo hi)))
theorem sl_list:SlR X (rSlL X.K):=by
 intro pins s σ H x v vl vu lo hi sl Q I rx hs pl pu h
 obtain ⟨a,xs,rfl,hx,q⟩:=h
 cases rx
 obtain ⟨its,r,ht,hz⟩:=I.list hx
 have hlen:=r.length
 refine ⟨"list", _,slot_list_getitem.lookup,ht.isList.typeIs,?_⟩
 refine wpAny_getItem_list_slice ht.isList hs pl pu .none (by simp) ?_ (by rw [List.size_toArray]<;>omega)
 rw [slicePick_cut,<-hlen]
 refine ⟨.ref s.heap.objs.size,_,I.laid (t':=s.toks) (o:=.lst (cutV xs lo hi)) (fun b ob q=>Heap.get?_push_of_some _ q) (Nat.le_refl _) ?_,rfl,q _ (I.hok.fresh (Nat.le_refl _))⟩
 exact ⟨Nat.le_trans (cutV_length xs lo hi) hz,_,0,(r.drop (HT.sIx xs.length 0 lo)).take (HT.sIx xs.length xs.length hi-HT.sIx xs.length 0 lo),Heap.get?_push_size _ rfl⟩
noncomputable def flatV:V->Bool
 |.non=>true
 |.bl _=>true
 |.int _=>true
 |.str _=>true
 |_=>false
noncomputable def eqV:V->V->Bool
 |.non,.non=>true
 |.bl a,.bl b=>a==b
 |.bl a,.int b=>(if a then 1 else 0)==b
 |.int a,.bl b=>a==(if b then 1 else 0)
 |.int a,.int b=>a==b
 |.str a,.str b=>a==b
 |_,_=>false
theorem eqAt_V {A:Around}{s:Shared}{y x:V}{u v:Value}(ry:RelV y u) (rx:RelV x v) (fy:flatV y=true) (fx:flatV x=true):SeqAt.EqAt A s u v (eqV y x):=by
 cases y with
 |non=>
  cases ry
  cases x with
  |non=>cases rx;exact SeqAt.EqAt.same _
  |bl b=>cases rx;exact SeqAt.EqAt.none_bool b
  |int b=>obtain ⟨t,rfl⟩:=rx;exact SeqAt.EqAt.none_int b t
  |str b=>obtain ⟨t,rfl⟩:=rx;exact SeqAt.EqAt.none_str b t
  |_=>exact absurd (show false=true from fx) Bool.false_ne_true
 |bl a=>
  cases ry
  cases x with
  |non=>cases rx;exact SeqAt.EqAt.bool_none a
  |bl b=>cases rx;exact SeqAt.EqAt.bool_bool a b
  |int b=>obtain ⟨t,rfl⟩:=rx;exact SeqAt.EqAt.bool_int a b t
  |str b=>obtain ⟨t,rfl⟩:=rx;exact SeqAt.EqAt.bool_str a b t
  |_=>exact absurd (show false=true from fx) Bool.false_ne_true
 |int a=>
  obtain ⟨t',rfl⟩:=ry
  cases x with
  |non=>cases rx;exact SeqAt.EqAt.int_none a t'
  |bl b=>cases rx;exact SeqAt.EqAt.int_bool a t' b
  |int b=>obtain ⟨t,rfl⟩:=rx;exact SeqAt.EqAt.int_int a t' b t
  |str b=>obtain ⟨t,rfl⟩:=rx;exact SeqAt.EqAt.int_str a t' b t
  |_=>exact absurd (show false=true from fx) Bool.false_ne_true
 |str a=>
  obtain ⟨t',rfl⟩:=ry
  cases x with
  |non=>cases rx;exact SeqAt.EqAt.str_none a t'
  |bl b=>cases rx;exact SeqAt.EqAt.str_bool a t' b
  |int b=>obtain ⟨t,rfl⟩:=rx;exact SeqAt.EqAt.str_int a t' b t
  |str b=>obtain ⟨t,rfl⟩:=rx;exact SeqAt.EqAt.str_str a t' b t
  |_=>exact absurd (show false=true from fx) Bool.false_ne_true
 |_=>exact absurd (show false=true from fy) Bool.false_ne_true
theorem CallR.or {f:Value}{r r':List V->Hp->VK->Prop}(h:CallR X f r) (h':CallR X f r'):CallR X f (fun xs H Q=>r xs H Q∨r' xs H Q):=by
 intro pins s σ H xs us Q I rs q
 rcases q with q | q
 ·exact h pins s σ H xs us Q I rs q
 ·exact h' pins s σ H xs us Q I rs q
theorem call_tuple_of:CallR X (.type "tuple") (fun xs H Q=>∃p ys,xs=[.ref p]/\((SqL X.K H p ys/\∀l,H l=none->Q (.ref l) (upd H l (.tup ys)))∨(SqT X.K H p ys/\Q (.ref p) H))):=by
 intro pins s σ H xs us Q I r h
 obtain ⟨p,ys,rfl,h⟩:=h
 obtain ⟨u,rfl,rx⟩:=vals1 r
 cases rx
 rcases h with ⟨hq,q⟩ | ⟨hq,q⟩
 ·obtain ⟨its,r',pl,hz⟩:=I.list hq
  have hlen:=r'.length
  refine call_tuple_list pl.isList (fun h' kp=>?_) (by simp only [List.size_toArray]<;>omega)
  have I1:Inv X pins σ H { s with heap:=h' }:=I.kept (t':=s.toks) kp
  have I2:Inv X pins σ (upd H h'.objs.size (.tup ys)) { s with heap:=h'.push { cls:=.type "tuple", data:=.seq its.toArray } }:=
   I1.laid (t':=s.toks) (fun b o e=>Heap.get?_push_of_some _ e) (Nat.le_refl _) (show ObjOk X.prog X.w _ _ _ (.tup ys) from ⟨hz,its,r',IsTup.new _ _⟩)
  exact ⟨.ref h'.objs.size,_,I2,rfl,q _ (I1.hok.fresh (Nat.le_refl _))⟩
 ·obtain ⟨its,r',pl,hz⟩:=I.tuple hq
  exact call_tuple_same pl ⟨.ref p,H,I,rfl,q⟩
noncomputable def tyV (K:PySem.W.Frag) (T:String) (x:V) (H:Hp):Prop:=match x with
 |.str _=>T = "str"
 |.int _=>T = "int"
 |.ref p=>(T = "list" /\ ∃xs,SqL K H p xs)∨(T = "tuple" /\ ∃o,K.lookup p=some o/\o.cls=.type "tuple" /\ o.dict=none) ∨
   (T = "dict" /\ ((∃kvs,H p=some (.dK kvs))∨∃kvs,H p=some (.dT kvs)))∨(T = "set" /\ ∃S n,H p=some (.set S n))
 |_=>False
theorem tyV_is {pins:List (Addr×Obj)}{σ:St}{H:Hp}{s:Shared}{T:String}{x:V}{v:Value}(I:Inv X pins σ H s) (r:RelV x v) (ty:tyV X.K T x H) :
  s.TypeIs v T/\∀a,v=.ref a->∃ob,s.heap.get? a=some ob/\ob.dict=none:=by
 cases x with
 |str z=>
  obtain ⟨t,rfl⟩:=r
  cases (show T = "str" from ty)
  exact ⟨typeIs_str s z t,fun _ e=>nomatch e⟩
 |int i=>
  obtain ⟨t,rfl⟩:=r
  cases (show T = "int" from ty)
  exact ⟨typeIs_int s i t,fun _ e=>nomatch e⟩
 |ref p=>
  cases r
  rcases ty with ⟨rfl,xs,hq⟩ | ⟨rfl,o,hk,hc,hd⟩ | ⟨rfl,hk⟩ | ⟨rfl,S,n,hk⟩
  ·obtain ⟨its,_,pl,_⟩:=I.list hq
   refine ⟨pl.isList.typeIs,fun a e=>?_⟩
   cases e
   obtain ⟨o,n,e,c,hd,_⟩:=pl
   exact ⟨o,e,hd⟩
  ·refine ⟨⟨o,I.kIn p o hk,hc⟩,fun a e=>?_⟩
   cases e
   exact ⟨o,I.kIn _ o hk,hd⟩
  ·have z:∃o,s.heap.get? p=some o/\o.ExactDict:=by
    rcases hk with ⟨kvs,hk⟩ | ⟨kvs,hk⟩
    ·obtain ⟨_,_,_,_,o,_,_,e,ex,_⟩:=I.hok p _ hk
     exact ⟨o,e,ex⟩
    ·obtain ⟨_,_,_,_,o,_,_,e,ex,_⟩:=I.hok p _ hk
     exact ⟨o,e,ex⟩
   obtain ⟨o,e,ex⟩:=z
   refine ⟨⟨o,e,ex.1⟩,fun a e2=>?_⟩
   cases e2
   exact ⟨o,e,ex.2.1⟩
  ·obtain ⟨o,_,_,_,e,ex,_⟩:=I.hok p _ hk
   refine ⟨⟨o,e,ex.1⟩,fun a e2=>?_⟩
   cases e2
   exact ⟨o,e,ex.2.1⟩
 |_=>exact False.elim ty
noncomputable def tBM (K:PySem.W.Frag) (T:String) (r:V->List V->Hp->VK->Prop) (to:TE) (t:TA):TE:=fun σ H Q=>to σ H fun x H1=>tyV K T x H1/\t σ H1 fun xs H2=>r x xs H2 Q
variable {o e:Expr}{es:List Expr}{to:TE}{t:TA}{name:Str}{apos cpos:Pos}{T id:String}{r:V->List V->Hp->VK->Prop}
theorem pe_bm (pa:PlainAttrs T) (slot:Slot T name id) (hty:typeOf (.builtin id)=pure (.type "method_descriptor")) (hm:MtR X id r) (ho:PE X o to) (ha:PA X (e::es) t)
  (hbase:attributeBase o name X.env (eval o X.env)=eval o X.env:=by rfl)
  (hfew:((backTo cpos (starEach (e::es) X.env)).all (fun x=>!x.1)&&(backToKw cpos (keywordEach [] X.env)).all (fun x=>x.1.isSome)
   && decide ((e::es).length+([]:List Keyword).length+(if ([]:List Keyword).isEmpty then 0 else 1) < 30))=true:=by rfl)
  (hline:(apos.endLine==cpos.line)=true:=by rfl) (hs:starEach (e::es) X.env=(false,eval e X.env)::starEach es X.env:=by rfl) (hplain:(backTo cpos (starEach es X.env)).any (·.1)=false:=by rfl) :
  PE X (.Call (.Attribute o name apos) (e::es) [] cpos) (tBM X.K T r to t):=by
 intro pins s σ H Q I h
 refine wpAny_Call_method_late hbase hfew hline rfl (thn (ho pins s σ H _ I h) fun v s1 ⟨x,H1,I1,r1,ty,q1⟩=>?_)
 obtain ⟨h1,h2⟩:=tyV_is I1 r1 ty
 refine ⟨T,id,pa,slot,hty,h1,h2,?_⟩
 have hA:=ha cpos pins s1 σ H1 _ I1 q1
 rw [hs] at hA ⊢
 refine Calls.callWith_builtin (by show (false||(backTo cpos (starEach es X.env)).any (·.1))=false;rw [hplain]<;>rfl) (Calls.evalArgs_plain ?_)
 exact thn hA fun us s2 ⟨vs,H2,I2,r2,q2⟩=>hm pins s2 σ H2 x vs v us Q I2 r1 r2 q2
end
end L2
namespace L2
open PySem PySem.Spec PyProof.Rows
noncomputable def MtM (X:Cx) (id:String) (r:V->List V->Hp->VK->Prop):Prop:=
 ∀(pins:List (Addr×Obj)) (s:Shared) (σ:St) (H:Hp) (x:V) (xs:List V) (v:Value) (us:List Value) (Q:VK),Inv X pins σ H s->RelV x v->Vals xs us->r x xs H Q ->
  wpAny (model X.prog X.w) X.A (call (.builtin id) (v::us)) (EP X pins σ Q) X.xe s
theorem Vals.one:∀{x:V}{us:List Value},Vals [x] us->∃u,us=[u]/\RelV x u
 |_,_,.cons r .nil=>⟨_,rfl,r⟩
section
variable {X:Cx}{pins:List (Addr×Obj)}{σ:St}{H:Hp}{s:Shared}{l b:Addr}{xs ys zs:List V}
theorem Inv.lset {its its':List Value}{n:Nat}{f:Array Value->Array Value}{t':Nat}(I:Inv X pins σ H s) (hH:H l=some (.lst xs))
  (e:s.heap.get? l=some { cls:=.type "list", data:=.seq its.toArray n }) (hf:f its.toArray=its'.toArray) (hv:Vals ys its') (hz:ys.length<=sizeLine) :
  Inv X pins σ (upd H l (.lst ys)) { s with heap:=s.heap.update l (Obj.mapSeq f),toks:=t' }:=by
 have q:=PySem.IsL.update e f
 rw [hf] at q
 refine I.write (x:=l) (e:=l) (by rw [hH];exact trivial) (.inl rfl) (fun b' u hb hu=>(Heap.get?_update_other s.heap (Obj.mapSeq f) (Ne.symm hb)).trans hu) ⟨_,q⟩ ?_
 exact ⟨hz,its',_,hv,q⟩
theorem Inv.lnew {its:List Value}{t':Nat}(I:Inv X pins σ H s) (hv:Vals ys its) (hz:ys.length<=sizeLine) :
  Inv X pins σ (upd H s.heap.objs.size (.lst ys)) { s with heap:=s.heap.push { cls:=.type "list", data:=.seq its.toArray },toks:=t' }:=
 I.laid (fun _ _ q=>Heap.get?_push_of_some _ q) (Nat.le_refl _) ⟨hz,its,0,hv,Heap.get?_push_size _ rfl⟩
theorem Inv.fresh (I:Inv X pins σ H s):H s.heap.objs.size=none:=I.hok.fresh (Nat.le_refl _)
theorem Inv.lstM (I:Inv X pins σ H s) (hH:H l=some (.lst xs)):xs.length<=sizeLine/\∃(its:List Value) (n:Nat),Vals xs its/\xs.length=its.length/\s.heap.get? l=some { cls:=.type "list", data:=.seq its.toArray n }:=by
 obtain ⟨z,its,n,r,e⟩:=I.hok l _ hH
 exact ⟨z,its,n,r,r.length,e⟩
end
section
variable {X:Cx}
noncomputable def rAppend:V->List V->Hp->VK->Prop:=fun x vs H Q=>∃l xs y,x=.ref l/\vs=[y]/\H l=some (.lst xs)/\xs.length < sizeLine/\Q .non (upd H l (.lst (xs++[y])))
theorem mt_append:MtM X "list.append" rAppend:=by
 intro pins s σ H x vs v us Q I rx rv h
 obtain ⟨l,xs,y,rfl,rfl,hH,hz,q⟩:=h
 cases rx
 obtain ⟨u,rfl,ru⟩:=rv.one
 obtain ⟨z,its,n,r,hl,e⟩:=I.lstM hH
 refine call_meets F.slot_list_append ⟨_,e,rfl⟩ F.entry_list_append (F.args_list_append_2 _ _) (PySem.list_append l its.toArray n u (by rw [List.size_toArray];omega)) ⟨e,?_⟩
 refine ⟨.non,_,I.lset (its':=its++[u]) hH e (by simp) (r.append (.cons ru .nil)) ?_,rfl,q⟩
 rw [List.length_append,List.length_singleton]
 omega
end
end L2
namespace Att
open PySem PySem.W PySem.Calls PyProof.Rows
theorem ints_of_wellAll {P:Params}{h:Heap}:∀(ns:List Int) (vs:List Value),WellAll P h vs (ns.map WData.int)->IntsAre vs ns:=by
 intro ns
 induction ns with
 |nil=>
  intro vs w
  rw [List.map_nil] at w
  cases w
  exact .nil
 |cons n ns ih=>
  intro vs w
  rw [List.map_cons] at w
  cases w with
  |cons a b=>
   cases a
   exact .cons _ _ (ih _ b)
theorem script_of {l:OpenLaw}{n:Nat}(hn:l.most=some n) {P:Params}{h:Heap}{args:List WData}{vals:List Value}
  (hpre:l.row.toRowW.claim.pre args=true) (hwl:WellAll P h vals args) :
  ∃a vs ns,vals=[Value.ref a]/\args=[WData.list (ns.map WData.int)]/\h.get? a=some { cls:=.type "list", data:=.seq vs.toArray }/\IntsAre vs ns/\ns.length<=n:=by
 have hsh:WShape.hasAll [] args [.list .int]=true:=(pre_splitW hpre).1
 have hc:l.pre.holds [] { args:=args }=true:=(pre_splitW hpre).2
 obtain ⟨d,r,rfl,h1,h2⟩:=hasAllW_cons hsh
 obtain rfl:=hasAllW_nil h2
 obtain ⟨xs,rfl,h3⟩:=hasW_list h1
 obtain ⟨ns,rfl⟩:=items_int h3
 have hlen:ns.length<=n:=by
  unfold OpenLaw.pre at hc
  have h4:(WTm.not (.lt (.lit (.int (n:Int))) (.len (.arg 0)))).holds [] { args:=[.list (ns.map .int)] }=true:=by
   have h4:=(holds_andW hc).1
   rw [hn] at h4
   exact h4
  have h5:=condW_of h4 (w_not (w_lt w_lit (w_len_list (w_arg rfl))))
  rw [List.length_map] at h5
  refine Nat.le_of_not_lt fun q=>?_
  have q':(n:Int) < ((ns.length:Nat):Int):=by omega
  first
   |(rw [decide_eq_true q'] at h5;exact absurd h5 (by decide))
   |(simp at h5;omega)
 cases hwl with
 |cons w1 w2=>
  cases w2
  cases w1 with
  |list ho hall=>exact ⟨_,_,ns,rfl,rfl,ho,ints_of_wellAll ns _ hall,hlen⟩
theorem post_true (l:OpenLaw) (args:List WData):l.row.toRowW.claim.post args (.bool true) args=true:=
 postW_of (r:=l.row.toRowW) (X:=(true==true))
  (show WShape.has [] (.bool true) .bool=true by first | rfl | decide | simp [WShape.has,WShape.arms,WShape.armsAll])
  (show (WTm.eq .res (.lit (.bool true))).value [] { args:=args,res:=some (.bool true),after:=args }=some (.bool (true==true)) from w_eq_bool (w_res rfl) w_lit) rfl
theorem attach_call {l:OpenLaw}{n:Nat}{q:Program}{loose:List Str}{XP:(Str->Option Value)->Heap->Prop}{YP:World->Heap->Prop}{d:DefRec}
  (hn:l.most=some n) (hdf:d.params.defaults=[])
  (call:∀(w:World) (s₀ s₁:Shared) (mg mb:Str->Option Value) (fa:Addr) (o:Obj) (pm cd doc:Value) (a:Addr) (vs:List Value) (ns:List Int),
   Ground q loose [] XP w s₀ mg mb s₁.heap->YP w s₁.heap ->
   s₁.heap.get? fa=some o->o.data=.func (docDef d.name d.params d.body d.scope pm cd doc)->s₁.heap.CodeRec cd d.name->mg d.name=some (.ref fa) ->
   s₁.heap.get? a=some { cls:=.type "list", data:=.seq vs.toArray }->IntsAre vs ns->ns.length<=n->s₁.gens=#[] ->
   codeAny (model l.prog w) callerA (.call (.ref fa) ⟨[.ref a],[]⟩) (fun r s'=>r=.ok (.ret (.bool true))/\OldK s₁.heap s'.heap/\s'.os=s₁.os/\AllBare s'.gens) s₁) :
  WalkO q loose XP YP l.row.toRowW d [] (fun f vs=>PySem.call f vs):=by
 intro w s₀ s₁ mg mb G Y fa o pm cd doc dV kV ho hd hcd hD hmg hg args vals as hpre hlay hrd hwl hlo
 obtain rfl:dV=.none:=Dflts.none hD hdf
 obtain rfl:kV=.none:=Dflts.noKw hD
 obtain ⟨a,vs,ns,rfl,rfl,hobj,hints,hlen⟩:=script_of hn hpre hwl
 refine enter_call (codeAny_mono (call w s₀ s₁ mg mb fa o pm cd doc a vs ns G Y ho (fd_plain hd) hcd hmg hobj hints hlen hg) fun r s' hq=>?_)
 obtain ⟨rfl,h2,h3,h4⟩:=hq
 exact ⟨.inl ⟨.bool true,.bool true,[],rfl,fun _=>rfl,.bool true,post_true l _,fun _=>⟨List.Pairwise.nil,fun _ hm=>(nomatch hm)⟩⟩,h2,h3,h4⟩
end Att
namespace L2
open PySem PySem.Spec PyProof.Rows
theorem vals_ints:∀{vs:List Value}{ns:List Int},IntsAre vs ns->Vals (ns.map V.int) vs
 |_,_,.nil=>.nil
 |_,_,.cons n t h=>.cons ⟨t,rfl⟩ (vals_ints h)
noncomputable def Only (H:Hp):Prop:=∀b,H b=none∨∃o xs,H b=some (.frz o (.lst xs))
theorem law_call {P:Program}{w:World}{K:PySem.W.Frag}{mg mb:Str->Option Value}{CX:CXT}{k:Nat}{fa a:Addr}{fd:FuncData}{x:Str}{sp:Sp}{s₁:Shared}{vs:List Value}{ns:List Int}
  (KX:K.In s₁.heap) (hns:s₁.heap.Ns mainGlobals mg) (hb:s₁.heap.Ns builtinsNs mb) (hbb:∀x:Str,x ≠ "__name__" -> mb x=bootBuiltins x) (hlim:s₁.heap.NoLimit) (hg:s₁.gens=#[])
  (ha:s₁.heap.get? a=some { cls:=.type "list", data:=.seq vs.toArray }) (hi:IntsAre vs ns) (hl:ns.length<=sizeLine) (hr:Room k callerA)
  (F:∀base:Heap,K.In base->base.Ns mainGlobals mg->FnOk P w K mg base CX k fa fd [x] sp) (hbind:∀(s:Shared) (u:Value),BindsTo s fd ⟨[u],[]⟩ [(x,u)])
  (hsp:∀H:Hp,Only H->SqL K H a (ns.map V.int)->sp [.ref a] H (fun v _=>v=.bl true) fun _ _ _=>False)
  (hCX:∀H e s',CX [] H s₁ (fun _ _ _=>False) e s'->False) :
  codeAny (model P w) callerA (.call (.ref fa) ⟨[.ref a],[]⟩) (fun r s'=>r=.ok (.ret (.bool true))/\OldK s₁.heap s'.heap/\s'.os=s₁.os/\AllBare s'.gens) s₁:=by
 have rv:=vals_ints hi
 have lenV:=hi.length
 have core:∀H:Hp,Only H->SqL K H a (ns.map V.int)->HOk P w H s₁.heap->(∀b,H b≠none->b=a)->(H a≠none->K.lookup a=none) ->
   codeAny (model P w) callerA (.call (.ref fa) ⟨[.ref a],[]⟩) (fun r s'=>r=.ok (.ret (.bool true))/\OldK s₁.heap s'.heap/\s'.os=s₁.os/\AllBare s'.gens) s₁:=by
  intro H hO hS hok hA hK
  have base_of:∀{b:Addr}{o:Obj},s₁.heap.get? b=some o->H b=none->(hidT s₁.heap H).get? b=some o:=fun e n=>hidT_get e n
  have noA:∀{b:Addr}{o:Obj}{es:Array DictEntry}{ep:Nat},s₁.heap.get? b=some o->o.data=.dict es ep->H b=none:=fun {b o es ep} e d=>by
   cases q:H b with
   |none=>rfl
   |some u=>
    have e':b=a:=hA b (by rw [q];simp)
    subst e'
    rw [ha] at e;cases e
    have d':Data.seq vs.toArray _=Data.dict es ep:=d
    cases d'
  have nsK:∀{b:Addr}{m:Str->Option Value},s₁.heap.Ns b m->(hidT s₁.heap H).Ns b m:=fun {b m} ⟨o,es,ep,e,d,r⟩=>⟨o,es,ep,base_of e (noA e d),d,r⟩
  have hKb:K.In (hidT s₁.heap H):=fun b o e=>base_of (KX b o e) (by
   cases q:H b with
   |none=>rfl
   |some u=>
    have e':b=a:=hA b (by rw [q];simp)
    subst e'
    rw [hK (by rw [q];simp)] at e;cases e)
  have hM:Mod K mg (hidT s₁.heap H):=⟨hKb,nsK hns,⟨mb,nsK hb,hbb⟩,let ⟨mc,h1,h2⟩:=hlim;⟨mc,nsK h1,h2⟩⟩
  have e0:Env0 P w K mg (hidT s₁.heap H) callerA [] s₁ H:=⟨rfl,hM,fun b o e=>of_hidT e,Nat.le_of_eq (hidT_size _ _),trivial,fun b hb=>absurd (show b∈([]:List Addr) from hb) (by simp),hok,.of_eq hg⟩
  refine codeAny_mono ((F _ hKb (nsK hns)).run callerA [] s₁ H ⟨[.ref a],[]⟩ [.ref a] [.ref a] _ _ hr e0 (hbind s₁ (.ref a)) (.cons rfl .nil) (hsp H hO hS)) fun r s' h=>?_
  cases r with
  |error e=>exact (hCX H e s' h).elim
  |ok fl=>
   cases fl with
   |next=>exact False.elim h
   |brk=>exact False.elim h
   |cont=>exact False.elim h
   |ret u=>
    obtain ⟨v,H',os,bare,un,hok',r',q⟩:=h
    have q':v=.bl true:=q
    subst q'
    obtain rfl:u=Value.bool true:=r'
    refine ⟨rfl,OldK.of_keep fun b o e=>?_,os,bare⟩
    cases q:H b with
    |none=>exact un.keep b o e q (by intro z;exact absurd (show b∈([]:List Addr) from z) (by simp)) (by simp)
    |some u=>
     rcases hO b with z | ⟨ob,xs,z⟩
     ·rw [q] at z;cases z
     ·have z2:=un.frzs b ob _ z
      obtain ⟨e1,_⟩:=hok b _ z
      obtain ⟨e2,_⟩:=hok' b _ z2
      rw [e] at e1;cases e1
      exact e2
 cases hk:K.lookup a with
 |some o=>
  have e:=KX a o hk
  rw [ha] at e
  cases e
  refine core (fun _=>none) (fun _=>.inl rfl) (.inr ⟨_,vs.toArray,_,hk,rfl,rfl,rfl,by rw [List.size_toArray,lenV];exact hl,by simpa using rv⟩) (fun b u z=>by have z':(none:Option HO)=some u:=z;cases z') (fun b z=>absurd rfl z) fun z=>absurd rfl z
 |none=>
  refine core (fun b=>if b=a then some (.frz { cls:=.type "list", data:=.seq vs.toArray } (.lst (ns.map V.int))) else none) (fun b=>?_) (.inl (.inr ⟨{ cls:=.type "list", data:=.seq vs.toArray },if_pos rfl⟩)) (fun b u z=>?_) (fun b z=>?_) fun _=>hk
  ·by_cases hb:b=a
   ·exact .inr ⟨_,_,if_pos hb⟩
   ·exact .inl (if_neg hb)
  ·by_cases hb:b=a
   ·have z':=(if_pos hb).symm.trans z
    cases z'
    subst hb
    exact ⟨ha,by rw [List.length_map];exact hl,vs,_,rv,ha⟩
   ·have z':=(if_neg hb).symm.trans z
    cases z'
  ·by_cases hb:b=a
   ·exact hb
   ·exact absurd (if_neg hb) z
end L2
namespace L2
open PySem PySem.Spec PyProof.Rows
noncomputable abbrev CX0:CXT:=fun _ _ _ _ _ _=>False
noncomputable abbrev E0:XK:=fun _ _ _=>False
theorem pass0 {X:Cx}:Passes CX0 X E0:=fun _ _ _ _ _ _ _ h=>h.elim
structure Fun (K:PySem.W.Frag) (x qual:Str) (st:Stmt) (f:Addr) (fd:FuncData):Prop where
 ex:∃(oc:Value) (od:Option Addr) (kV doc pm:Value) (an:Option Addr) (cdv ct:Value) (osl:Array (Option Value)),
  fd=PySem.W.fnOf x qual (defArgs st) (defBody st) (defScope st) .none kV doc pm an cdv ct/\K.lookup f=some ⟨oc,od,.func fd,osl⟩/\PySem.W.codeIn K cdv qual=true
 kp:PySem.W.keepIn K (.ref f)=true
section
variable {P:Program}{w:World}{K:PySem.W.Frag}{mg:Str->Option Value}{base:Heap}
theorem Fun.ok {x qual:Str}{st:Stmt}{f:Addr}{fd:FuncData}{N ps:List Str}{k:Nat}{sp:Sp}(F:Fun K x qual st f fd) (S:FnScope N ps (defScope st)) (len:∀vs H Q E,sp vs H Q E->vs.length=ps.length)
  (hbody:∀(cdv:Value) (A:Around) (outer:List Env) (s:Shared) (H:Hp) (vs:List V) (Q:VK) (E:XK),Room k (A.deeper (envOfC qual (defScope st) s.heap.objs.size f cdv))->sp vs H Q E ->
   ∃t,PSs (cxOf CX0 P w K mg base N qual (defScope st) f cdv A outer s H E).nox (defBody st) t/\t { nx:=fun _ H'=>Q .non H',rt:=Q } (start N vs) H):FnOk P w K mg base CX0 (k+1) f fd ps sp:=by
 obtain ⟨oc,od,kV,doc,pm,an,cdv,ct,osl,rfl,lk,hcd⟩:=F.ex
 refine fn_of lk hcd S len fun A outer s H vs Q E hr hsp=>?_
 obtain ⟨t,h,q⟩:=hbody cdv A outer s H vs Q E hr hsp
 exact ⟨t,h.nox,q⟩
theorem Fun.binds {x qual:Str}{st:Stmt}{f:Addr}{fd:FuncData}{ps:List Str}(F:Fun K x qual st f fd)
  (h:∀(kV doc pm:Value) (an:Option Addr) (cdv ct:Value) (us:List Value),us.length=ps.length->bindArgs (PySem.W.fnOf x qual (defArgs st) (defBody st) (defScope st) .none kV doc pm an cdv ct) ⟨us,[]⟩=pure (ps.zip us)):Binds K fd ps []:=by
 obtain ⟨oc,od,kV,doc,pm,an,cdv,ct,osl,rfl,lk,hcd⟩:=F.ex
 exact .all (h kV doc pm an cdv ct)
end
theorem iteF {A B:Prop}(h:B):if false=true then A else B:=by
 rw [if_neg Bool.false_ne_true]
 exact h
theorem iteT {A B:Prop}(h:A):if true=true then A else B:=by
 rw [if_pos rfl]
 exact h
noncomputable def Same (H H':Hp):Prop:=∀b o,H b=some o->H' b=some o
theorem Same.refl (H:Hp):Same H H:=fun _ _ h=>h
theorem Same.trans {H H1 H2:Hp}(a:Same H H1) (b:Same H1 H2):Same H H2:=fun c o h=>b c o (a c o h)
theorem Same.seq {K:PySem.W.Frag}{H H':Hp}{a:Addr}{xs:List V}(e:Same H H') (h:SqL K H a xs):SqL K H' a xs:=by
 rcases h with (h | ⟨o,h⟩) | h
 ·exact .inl (.inl (e _ _ h))
 ·exact .inl (.inr ⟨o,e _ _ h⟩)
 ·exact .inr h
end L2
namespace L2
open PySem PySem.Spec PyProof.Rows
section
variable {X:Cx}
noncomputable def testsOf (ifs:List Expr) (env:Env):Sem Bool:=forIn ifs true fun c r=>if r=true then do let ok <-isTrue c env (eval c env);pure (ForInStep.yield ok) else pure (ForInStep.yield r)
noncomputable def PTs (X:Cx) (ifs:List Expr) (t:TT):Prop:=
 ∀(pins:List (Addr×Obj)) (s:Shared) (σ:St) (H:Hp) (Q:Bool->Hp->Prop),Inv X pins σ H s->t σ H Q->wpAny (model X.prog X.w) X.A (testsOf ifs X.env) (TP X pins σ Q) X.xe s
noncomputable def tYes:TT:=fun _ H Q=>Q true H
theorem pts_nil:PTs X [] tYes:=fun pins s σ H Q I h=>wpAny_tests_nil ⟨H,I,h⟩
theorem pts_one {c:Expr}{t:TT}(h:PT X c t):PTs X [c] t:=fun pins s σ H Q I q=>wpAny_tests_one (h pins s σ H Q I q)
noncomputable def PB (X:Cx) (bd:Sem Unit) (t:TS):Prop:=
 ∀(pins:List (Addr×Obj)) (s:Shared) (σ:St) (H:Hp) (D:Ends),Inv X pins σ H s->t D σ H->wpAny (model X.prog X.w) X.A bd (fun _ s'=>∃σ' H',Inv X pins σ' H' s'/\D.nx σ' H') X.xe s
noncomputable def tTurn (tt:TT) (tb:TS):TS:=fun D σ H=>tt σ H fun b H1=>if b=true then tb D σ H1 else D.nx σ H1
noncomputable def tWalk (J:It) (g:TG) (tb:TS):TS:=fun D σ H=>∃W:Nat->Nat->St->Hp->Prop,(∃m,W 0 m σ H)/\∀i m σ H,W i m σ H ->
 (J.stop i H/\D.nx σ H)∨(J.go i H/\∃N:St->Hp->Prop,(∀σ' H',N σ' H'->∃m',m' < m/\W (i+1) m' σ' H')/\∀x H',J.yld i H x H'->g x σ H' fun σ2 H2=>tb { D with nx:=N,ct:=N,bk:=D.nx } σ2 H2)
noncomputable def turnOf (e:Expr) (d:Nat) (it acc:Value) (env:Env) (tg iter:Expr) (ifs:List Expr) (bd:Sem Unit):Sem Fin:=(do
   standAt iter.pos
   match <-pyNext it with
   |none=>pure (.done .next)
   |some v=>
    letOwnedTupleGo tg it v
    assign tg env v
    let ok <-testsOf ifs env
    if ok then bd
    again (.compLoop e d it acc env))
noncomputable def CompEnd (X:Cx) (pins:List (Addr×Obj)) (D:Ends) (r:Result) (s':Shared):Prop:=match r with
 |.ok _=>∃σ' H',Inv X pins σ' H' s'/\D.nx σ' H'
 |.error _=>False
theorem comp_loop {e:Expr}{d:Nat}{acc:Value}{it:Addr}{tg iter:Expr}{ifs:List Expr}{bd:Sem Unit}{J:It}{fp:List Addr}{tn:Nat->Heap->Prop}{g:TG}{tt:TT}{tb:TS}{pins:List (Addr×Obj)}{σ:St}{H:Hp}{s:Shared}{D:Ends}
  (hturn:compTurn e d (.ref it) acc X.env=turnOf e d (.ref it) acc X.env tg iter ifs bd) (hq:(Code.compLoop e d (.ref it) acc X.env).quiet=true)
  (hA:X.A.under (Code.compLoop e d (.ref it) acc X.env)=X.A) (hden:(model X.prog X.w).den (Code.compLoop e d (.ref it) acc X.env)=(compTurn e d (.ref it) acc X.env).onRaise (fun x=>do noteFrame x X.env;theTreesLotGoes x))
  (hxe:X.xe=fun _ _=>False) (hc:X.calm=true) (T:Turn X.prog X.w X.K tg J fp it tn) (hg:PG X tg g) (ht:PTs X ifs tt) (hb:PB X bd tb)
  (I:Inv X pins σ H s) (st:tn 0 s.heap) (f2:∀b∈fp,FpOk X pins H b) (h:tWalk J g (tTurn tt tb) D σ H) :
  codeAny (model X.prog X.w) X.A (.compLoop e d (.ref it) acc X.env) (CompEnd X pins D) s:=by
 obtain ⟨W,⟨m0,w0⟩,turn⟩:=h
 have stat:∀{H':Hp},(∀b∈fp,H' b=none)->∀b∈fp,FpOk X pins H' b:=fun hn b hb=>⟨hn b hb,(f2 b hb).2⟩
 have no:∀{α:Type}{t:Sem α}{Q:α->Shared->Prop}{E:Value->Shared->Prop}{s:Shared},wpAny (model X.prog X.w) X.A t Q X.xe s->wpAny (model X.prog X.w) X.A t Q E s:=fun h=>by
  rw [hxe] at h;exact wpAny_noRaise h
 refine codeAny_loop hq (fun n s'=>∃i σ' H',Inv X pins σ' H' s'/\tn i s'.heap/\(∀b∈fp,H' b=none)/\W i n σ' H') ?_ m0 ⟨0,σ,H,I,st,fun b hb=>(f2 b hb).1,w0⟩
 rintro n s3 ⟨i,σ3,H3,I3,st3,fr3,w3⟩
 rw [hA,hden,hturn]
 refine wpAny_noted ?_
 unfold turnOf
 refine wpAny_bind (wpAny_standAt (wpAny_bind ?_))
 rcases turn i n σ3 H3 w3 with ⟨stop,qn⟩ | ⟨go,N,hN,step⟩
 ·refine no (thn (T.done X rfl rfl rfl hc i pins s3 σ3 H3 X.xe I3 (stat fr3) st3 stop) fun r s4 ⟨hr,I4⟩=>?_)
  subst hr
  exact wpAny_pure ⟨σ3,H3,I4,qn⟩
 ·refine no (thn (T.item X rfl rfl rfl hc i pins s3 σ3 H3 X.xe I3 (stat fr3) st3 go) fun r s4 ⟨u,hr,h4⟩=>?_)
  subst hr
  refine wpAny_bind (no (thn h4 fun _ s5 ⟨x,H5,I5,r5,y5,st5,fr5⟩=>?_))
  have I5':=I5.pinned (stat fr5) (T.obj _ _ st5)
  refine wpAny_bind (no (thn (hg _ s5 σ3 H5 x u _ I5' r5 (step x H5 y5)) fun _ s6 ⟨σ6,H6,I6,q6⟩=>?_))
  have again:∀{s7:Shared}{σ7:St}{H7:Hp},Inv X (pins++pinsAt fp s5.heap) σ7 H7 s7->N σ7 H7->∃m,m < n/\∃i σ' H',Inv X pins σ' H' s7/\tn i s7.heap/\(∀b∈fp,H' b=none)/\W i m σ' H':=fun {s7 σ7 H7} I7 n7=>by
   obtain ⟨m',hm,w7⟩:=hN σ7 H7 n7
   refine ⟨m',hm,i+1,σ7,H7,I7.unpinned,T.keep _ _ _ st5 fun b hb o e=>(I7.pin (b,o) (List.mem_append_right _ (List.mem_append_right _ (mem_pinsAt hb e)))).1,fun b hb=>?_,w7⟩
   obtain ⟨o,e,d⟩:=T.obj _ _ st5 b hb
   exact (I7.pin (b,o) (List.mem_append_right _ (List.mem_append_right _ (mem_pinsAt hb e)))).2.1
  refine wpAny_bind (no (thn (ht _ s6 σ6 H6 _ I6 q6) fun ok s7 ⟨H7,I7,q7⟩=>?_))
  cases ok with
  |false=>
   rw [if_neg Bool.false_ne_true] at q7
   exact wpAny_pure ⟨rfl,again I7 q7⟩
  |true=>
   rw [if_pos rfl] at q7
   refine wpAny_bind (no (thn (hb _ s7 σ6 H7 _ I7 q7) fun _ s8 ⟨σ8,H8,I8,q8⟩=>?_))
   exact wpAny_pure ⟨rfl,again I8 q8⟩
theorem comp_start {e:Expr}{d:Nat}{acc:Value}{it:Addr}{J:It}{tg iter:Expr}{fp:List Addr}{tn:Nat->Heap->Prop}{s:Shared}{R:Result->Shared->Prop}
  (hden:(model X.prog X.w).den (Code.compStart e d (.ref it) acc X.env)=(compStart e d (.ref it) acc X.env).onRaise (fun x=>do noteFrame x X.env;standAt theWindowsPlace))
  (hA:X.A.under (Code.compStart e d (.ref it) acc X.env)=X.A) (hq:(Code.compLoop e d (.ref it) acc X.env).quiet=true)
  (hst:compStart e d (.ref it) acc X.env=(ask >>= fun r=>if r.params.followText "comprehension-iter-twice" = true then again (.compLoop e d (.ref it) acc X.env) else (do rule "comprehension.iter-twice"; standAt iter.pos;let it' <-pyIter (.ref it);again (.compLoop e d it' acc X.env))))
  (T:Turn X.prog X.w X.K tg J fp it tn) (st:tn 0 s.heap) (h:codeAny (model X.prog X.w) X.A (.compLoop e d (.ref it) acc X.env) R s) :
  codeAny (model X.prog X.w) X.A (.compStart e d (.ref it) acc X.env) R s:=by
 refine codeAny_of_tree ?_
 rw [hA,hden]
 refine wpAny_notedAt ?_
 rw [hst]
 refine wpAny_bind (wpAny_askSetting (wpAny_ite ?_))
 split
 ·exact wpAny_pure ⟨hq,h⟩
 ·exact wpAny_bind (wpAny_rule (wpAny_bind (wpAny_standAt (wpAny_bind (T.self _ 0 s _ _ st (wpAny_pure ⟨hq,h⟩))))))
end
end L2
namespace L2
open PySem PySem.Spec PyProof.Rows
noncomputable def clGo (env:Env):List (Str×NameKind)->List (Str×Addr)->List (Str×Addr)
 |[],cs=>cs
 |(n,k)::r,cs=>if k==.free then clGo env r ((n,(env.cells.lookup n).getD 0)::cs) else clGo env r cs
noncomputable def clOf (scope:Scope) (env:Env):List (Str×Addr):=clGo env scope.names []
theorem closure_go {env:Env}:∀(names:List (Str×NameKind)) (cs:List (Str×Addr)),(∀x∈names,x.2=.free->∃c,env.cells.lookup x.1=some c) ->
  (forIn names cs fun (x:Str×NameKind) (r:List (Str×Addr))=>(if x.2==.free then do let c <-cellOf env x.1;pure (ForInStep.yield ((x.1,c)::r)) else pure (ForInStep.yield r):Sem (ForInStep (List (Str×Addr)))))=pure (clGo env names cs)
 |[],cs,_=>rfl
 |(n,k)::r,cs,h=>by
  have hr:=fun x hx=>h x (List.mem_cons_of_mem _ hx)
  rw [List.forIn_cons]
  unfold clGo
  cases hk:(k==NameKind.free) with
  |false=>
   simp only [hk,Bool.false_eq_true,if_false,pure_bind]
   exact closure_go r cs hr
  |true=>
   obtain ⟨c,hc⟩:=h (n,k) List.mem_cons_self (by simpa using hk)
   have hc':env.cells.lookup n=some c:=hc
   simp only [hk,if_true]
   unfold cellOf
   rw [hc']
   simp only [pure_bind,Option.getD_some]
   exact closure_go r _ hr
theorem closure_is {scope:Scope}{env:Env}(h:∀x∈scope.names,x.2=.free->∃c,env.cells.lookup x.1=some c):closureFor scope env=pure (clOf scope env):=by
 have e:=closure_go (env:=env) scope.names [] h
 unfold closureFor clOf
 rw [<-e]
 simp only [bind_pure]
theorem mem_clGo {env:Env}{y:Str}{c:Addr}:∀{names:List (Str×NameKind)}{cs:List (Str×Addr)},(∀x∈names,x.2=.free->∃c,env.cells.lookup x.1=some c)->(y,c)∈clGo env names cs->env.cells.lookup y=some c∨(y,c)∈cs
 |[],_,_,h=>.inr h
 |(n,k)::r,cs,hf,h=>by
  have hr:=fun x hx=>hf x (List.mem_cons_of_mem _ hx)
  unfold clGo at h
  cases hk:(k==NameKind.free) with
  |false=>simp only [hk,Bool.false_eq_true,if_false] at h;exact mem_clGo hr h
  |true=>
   simp only [hk,if_true] at h
   rcases mem_clGo hr h with q | q
   ·exact .inl q
   ·rcases List.mem_cons.mp q with q | q
    ·injection q with q1 q2
     obtain ⟨c',hc⟩:=hf (n,k) List.mem_cons_self (by simpa using hk)
     have hc':env.cells.lookup n=some c':=hc
     rw [hc',Option.getD_some] at q2
     rw [q1,q2];exact .inl hc'
    ·exact .inr q
theorem lookup_mem_some {α:Type}:∀{l:List (Str×α)}{n:Str}{c:α},(n,c)∈l->∃c',l.lookup n=some c'
 |(k,v)::r,n,c,h=>by
  rw [List.lookup_cons]
  cases hb:n==k with
  |true=>exact ⟨_,rfl⟩
  |false=>
   rcases List.mem_cons.mp h with e | h
   ·injection e with e1 _;rw [e1] at hb;simp at hb
   ·exact lookup_mem_some h
theorem has_clGo {env:Env}{y:Str}:∀{names:List (Str×NameKind)}{cs:List (Str×Addr)},((y,NameKind.free)∈names∨∃c,(y,c)∈cs)->∃c,(y,c)∈clGo env names cs
 |[],_,h=>by
  rcases h with h | h
  ·exact absurd h (by simp)
  ·exact h
 |(n,k)::r,cs,h=>by
  unfold clGo
  cases hk:(k==NameKind.free) with
  |false=>
   simp only [Bool.false_eq_true,if_false]
   refine has_clGo (h.imp (fun z=>?_) id)
   rcases List.mem_cons.mp z with e | z
   ·injection e with _ e2;rw [<-e2] at hk;simp at hk
   ·exact z
  |true=>
   simp only [if_true]
   rcases h with z | ⟨c,z⟩
   ·rcases List.mem_cons.mp z with e | z
    ·injection e with e1 _;rw [e1];exact has_clGo (.inr ⟨_,List.mem_cons_self⟩)
    ·exact has_clGo (.inl z)
   ·exact has_clGo (.inr ⟨c,List.mem_cons_of_mem _ z⟩)
theorem mem_cells {y:Str}{c:Addr}:∀{names:List (Str×NameKind)}{h:Heap}{cs:List (Str×Addr)},(y,c)∈cellsFrom h.objs.size names cs->(y,c)∈cs∨(h.objs.size<=c/\(pushCells h names).IsCell c none/\(y,NameKind.cell)∈names)
 |[],_,_,h=>.inl h
 |(n,k)::r,h,cs,q=>by
  unfold cellsFrom at q
  unfold pushCells
  cases hk:(k==NameKind.cell) with
  |false=>
   simp only [hk,Bool.false_eq_true,if_false] at q ⊢
   exact (mem_cells q).imp id fun ⟨a,b,z⟩=>⟨a,b,List.mem_cons_of_mem _ z⟩
  |true=>
   simp only [hk,if_true] at q ⊢
   rw [show h.objs.size+1=(h.push { cls:=.type "cell", data:=.cell none }).objs.size from (Heap.size_push ..).symm] at q
   rcases mem_cells q with q | ⟨a,b,z⟩
   ·rcases List.mem_cons.mp q with e | q
    ·injection e with e1 e2
     have ek:k=.cell:=by simpa using hk
     rw [e2,e1,ek]
     exact .inr ⟨Nat.le_refl _,(show (h.push { cls:=.type "cell", data:=.cell none }).IsCell h.objs.size none from ⟨_,Heap.get?_push_size _ rfl,rfl⟩).keeps (pushCells_keeps _ _),List.mem_cons_self⟩
    ·exact .inl q
   ·rw [Heap.size_push] at a
    exact .inr ⟨by omega,b,List.mem_cons_of_mem _ z⟩
theorem cells_inj:∀{names:List (Str×NameKind)}{n:Nat}{cs:List (Str×Addr)},(∀x∈cs,x.2 < n)->(∀x y c,(x,c)∈cs->(y,c)∈cs->x=y)->∀x y c,(x,c)∈cellsFrom n names cs->(y,c)∈cellsFrom n names cs->x=y
 |[],_,_,_,h=>h
 |(nm,k)::r,n,cs,hl,h=>by
  unfold cellsFrom
  cases hk:(k==NameKind.cell) with
  |false=>simp only [Bool.false_eq_true,if_false];exact cells_inj hl h
  |true=>
   simp only [if_true]
   refine cells_inj (fun x hx=>?_) fun x y c hx hy=>?_
   ·rcases List.mem_cons.mp hx with e | hx
    ·rw [e];exact Nat.lt_succ_self _
    ·exact Nat.lt_succ_of_lt (hl x hx)
   ·rcases List.mem_cons.mp hx with e | hx<;>rcases List.mem_cons.mp hy with e' | hy
    ·injection e with e1 _;injection e' with e1' _;rw [e1,e1']
    ·injection e with _ e2;exact absurd (hl _ hy) (by rw [e2];exact Nat.lt_irrefl _)
    ·injection e' with _ e2;exact absurd (hl _ hx) (by rw [e2];exact Nat.lt_irrefl _)
    ·exact h x y c hx hy
theorem cells_keep {y:Str}:∀{names:List (Str×NameKind)}{n:Nat}{cs:List (Str×Addr)},(y,NameKind.cell)∉names->(cellsFrom n names cs).lookup y=cs.lookup y
 |[],_,_,_=>rfl
 |(nm,k)::r,n,cs,h=>by
  have hr:(y,NameKind.cell)∉r:=fun z=>h (List.mem_cons_of_mem _ z)
  unfold cellsFrom
  cases hk:(k==NameKind.cell) with
  |false=>simp only [Bool.false_eq_true,if_false];exact cells_keep hr
  |true=>
   simp only [if_true]
   rw [cells_keep hr,List.lookup_cons]
   have:(y==nm)=false:=by
    cases e:y==nm with
    |false=>rfl
    |true=>
     have ek:k=.cell:=by simpa using hk
     have en:y=nm:=by simpa using e
     exact absurd (by rw [en,ek];exact List.mem_cons_self) h
   rw [this]
theorem wpAny_newBlockEnv {M:Model}{A:Around}{E:Value->Shared->Prop}{s:Shared}{scope:Scope}{globals:Addr}{cl:List (Str×Addr)}{qual:Str}{env:Env}{Q:Env->Shared->Prop}
  (h:Q (newEnv scope s.heap.objs.size globals (cellsFrom (s.heap.objs.size+1) scope.names cl) qual none .none (some env) builtinsNs) { s with heap:=pushCells (s.heap.push { cls:=.type "dict", data:=.dict #[] }) scope.names }) :
  wpAny M A (newFunctionEnv scope globals cl [] qual none .none (some env)) Q E s:=by
 simp only [newFunctionEnv,Option.isSome_some,if_true]
 refine wpAny_bind (wpAny_alloc ?_)
 refine wpAny_bind (wpAny_layCells _ (fun name kind cells=>by cases hkc:kind==NameKind.cell<;>simp [hkc]) _ _ _ _ ?_)
 rw [show ({ s with heap:=s.heap.push { cls:=.type "dict", data:=.dict #[] } }:Shared).heap.objs.size=s.heap.objs.size+1 from Heap.size_push ..]
 exact wpAny_pure h
noncomputable def blkCx (X:Cx) (scope:Scope) (N:List Str) (s:Shared) (H:Hp) (fp:List Addr):Cx where
 prog:=X.prog
 w:=X.w
 K:=X.K
 mg:=X.mg
 base:=X.base
 A:=X.A
 N:=N
 s₀:=s
 H₀:=H
 env:={ scope:=relabel scope X.env,locals:=s.heap.objs.size,globals:=X.env.globals,cells:=cellsFrom (s.heap.objs.size+1) scope.names (clOf scope X.env),qual:=X.env.qual,func:=none,code:=X.env.code,frame:=X.env.frame,builtins:=X.env.builtins }
 outer:=X.stack
 stack:=X.stack
 ex:=fp
 fn:=fun x=>scope.names.any fun y=>y.1==x&&y.2==.cell
 calm:=X.calm
 cool:=X.cool
 pn:=[]
 xe:=fun _ _=>False
noncomputable def blkSt (σ:St) (n:Nat) (js:List Nat):St:=List.replicate n none++js.map fun j=>(σ[j]?).getD none
structure BlkOk (X:Cx) (scope:Scope) (N:List Str) (n:Nat) (js:List Nat):Prop where
 kind:scope.kind=.function
 names:(scope.names.all fun x=>x.2 != .local||scope.names.lookup x.1==some .local)=true
 free:(scope.names.all fun x=>x.2 != .free||X.env.kindOf x.1==some .cell||X.env.kindOf x.1==some .free)=true
 capt:((List.range js.length).all fun i=>match N[n+i]?,(js[i]?).bind (X.N[·]?) with
  |some x,some y=>x==y&&scope.names.lookup x==some .free&&scope.names.all (fun z=>!(z.1==x&&z.2==.cell))
  |_,_=>false)=true
 len:N.length=n+js.length
 cells:(scope.names.all fun x=>x.2 != .cell||!(scope.names.any fun y=>y.1==x.1&&y.2==.free))=true
section
variable {X:Cx}
theorem relabel_kind {scope:Scope}{env:Env}{x:Str}:∀{names:List (Str×NameKind)},(names.map fun (n,k)=>if (k==NameKind.free&&env.scope.kind==.function&&env.kindOf n==some .cell) then (n,NameKind.cell) else (n,k)).lookup x=some .cell ∨
  (names.map fun (n,k)=>if (k==NameKind.free&&env.scope.kind==.function&&env.kindOf n==some .cell) then (n,NameKind.cell) else (n,k)).lookup x=some .free->(x,NameKind.cell)∈names∨(x,NameKind.free)∈names
 |[],h=>by simp at h
 |(n,k)::r,h=>by
  simp only [List.map_cons,List.lookup_cons] at h
  by_cases hx:(x==n)=true
  ·have en:x=n:=by simpa using hx
   subst en
   by_cases hc:(k==NameKind.free&&env.scope.kind==.function&&env.kindOf x==some .cell)=true
   ·have hk:k=.free:=by
     simp only [Bool.and_eq_true] at hc
     simpa using hc.1.1
    exact .inr (by rw [hk];exact List.mem_cons_self)
   ·rw [if_neg hc] at h
    rw [List.lookup_cons,hx] at h
    dsimp only at h
    rcases h with h | h<;>(injection h with h;rw [h])
    ·exact .inl List.mem_cons_self
    ·exact .inr List.mem_cons_self
  ·have hx':(x==n)=false:=by simpa using hx
   by_cases hc:(k==NameKind.free&&env.scope.kind==.function&&env.kindOf n==some .cell)=true
   ·rw [if_pos hc] at h
    rw [List.lookup_cons,hx'] at h
    dsimp only at h
    exact (relabel_kind (scope:=scope) h).imp (List.mem_cons_of_mem _) (List.mem_cons_of_mem _)
   ·rw [if_neg hc] at h
    rw [List.lookup_cons,hx'] at h
    dsimp only at h
    exact (relabel_kind (scope:=scope) h).imp (List.mem_cons_of_mem _) (List.mem_cons_of_mem _)
theorem relabel_free {env:Env}{x:Str}:∀{names:List (Str×NameKind)},names.lookup x=some .free->env.scope.kind=.function ->
  (names.map fun (n,k)=>if (k==NameKind.free&&env.scope.kind==.function&&env.kindOf n==some .cell) then (n,NameKind.cell) else (n,k)).lookup x=some .cell ∨
  (names.map fun (n,k)=>if (k==NameKind.free&&env.scope.kind==.function&&env.kindOf n==some .cell) then (n,NameKind.cell) else (n,k)).lookup x=some .free
 |[],h,_=>by simp at h
 |(n,k)::r,h,hf=>by
  simp only [List.map_cons,List.lookup_cons] at h ⊢
  by_cases hx:(x==n)=true
  ·simp only [hx] at h
   injection h with h
   subst h
   have en:x=n:=by simpa using hx
   subst en
   by_cases hc:(NameKind.free==NameKind.free&&env.scope.kind==.function&&env.kindOf x==some .cell)=true
   ·rw [if_pos hc];simp
   ·rw [if_neg hc];simp
  ·have hx':(x==n)=false:=by simpa using hx
   simp only [hx'] at h
   by_cases hc:(k==NameKind.free&&env.scope.kind==.function&&env.kindOf n==some .cell)=true
   ·rw [if_pos hc];rw [List.lookup_cons,hx'];exact relabel_free h hf
   ·rw [if_neg hc];rw [List.lookup_cons,hx'];exact relabel_free h hf
theorem BlkOk.frees {scope:Scope}{N:List Str}{n:Nat}{js:List Nat}(B:BlkOk X scope N n js) (ok:X.Ok):∀x∈scope.names,x.2=.free->∃c,X.env.cells.lookup x.1=some c:=fun x hx hf=>by
 have q:=List.all_eq_true.mp B.free x hx
 rw [hf] at q
 refine ok.has x.1 ?_
 simp only [bne_self_eq_false,Bool.false_or,Bool.or_eq_true,beq_iff_eq] at q
 exact q
theorem Inv.block {scope:Scope}{N:List Str}{n:Nat}{js:List Nat}{pins:List (Addr×Obj)}{σ:St}{H:Hp}{s:Shared}{fp:List Addr}(B:BlkOk X scope N n js) (I:Inv X pins σ H s) (hf:∀b∈fp,FpOk X pins H b) (hlt:∀b∈fp,b < s.heap.objs.size) :
  Inv (blkCx X scope N s H fp) [] (blkSt σ n js) H { s with heap:=pushCells (s.heap.push { cls:=.type "dict", data:=.dict #[] }) scope.names }:=by
 have hfr:=B.frees I.ok
 have kp:∀b o,s.heap.get? b=some o->(pushCells (s.heap.push { cls:=.type "dict", data:=.dict #[] }) scope.names).get? b=some o:=fun b o e=>pushCells_keeps _ _ b o (Heap.get?_push_of_some _ e)
 have csz:(s.heap.push { cls:=.type "dict", data:=.dict #[] }).objs.size=s.heap.objs.size+1:=Heap.size_push ..
 have cm:∀x c,(blkCx X scope N s H fp).env.cells.lookup x=some c->X.env.cells.lookup x=some c∨(s.heap.objs.size+1<=c/\(pushCells (s.heap.push { cls:=.type "dict", data:=.dict #[] }) scope.names).IsCell c none/\(x,NameKind.cell)∈scope.names):=fun x c e=>by
  have m:=PySem.mem_of_lookup e
  have m':(x,c)∈cellsFrom (s.heap.push { cls:=.type "dict", data:=.dict #[] }).objs.size scope.names (clOf scope X.env):=by rw [csz];exact m
  rcases mem_cells m' with z | ⟨a,b,z⟩
  ·rcases mem_clGo hfr z with z | z
   ·exact .inl z
   ·exact absurd z (by simp)
  ·exact .inr ⟨by rw [csz] at a;exact a,b,z⟩
 have old:∀x c,X.env.cells.lookup x=some c->c < s.heap.objs.size:=fun x c e=>let ⟨_,q⟩:=I.cell x c e;q.lt
 refine ⟨⟨I.ok.mod,B.kind,I.ok.glob,I.ok.blt,Nat.le_refl _,fun x y c e1 e2=>?_,fun x hx=>?_,fun x c hfn e=>?_,(fun q=>(I.ok.hd q).mono fun b o u e=>I.base.frzs b o u e),I.ok.frames,.inl rfl,fun b hb=>⟨Nat.ne_of_lt (hlt b hb),fun x c e=>?_⟩,fun b o e=>?_,Nat.le_trans I.ok.bsz I.sz,fun b o e hb=>?_,fun b hb z=>?_,I.stack,I.stkFree,I.ok.hc⟩,
  rfl,I.bare,Un.kept kp,⟨fun _=>none,?_,fun i x v e1 e2 e3=>?_⟩,fun x c e=>?_,?_,fun x c e=>?_,fun p hp=>absurd hp (by simp [blkCx]),I.hok.kept kp,?_⟩
 ·
  refine cells_inj (names:=scope.names) (n:=s.heap.objs.size+1) (cs:=clOf scope X.env) (fun z hz=>?_) (fun x y c hx hy=>?_) x y c (PySem.mem_of_lookup e1) (PySem.mem_of_lookup e2)
  ·rcases mem_clGo (y:=z.1) (c:=z.2) hfr hz with q | q
   ·exact Nat.lt_succ_of_lt (old _ _ q)
   ·exact absurd q (by simp)
  ·rcases mem_clGo hfr hx with q | q
   ·rcases mem_clGo hfr hy with q' | q'
    ·exact I.ok.inj x y c q q'
    ·exact absurd q' (by simp)
   ·exact absurd q (by simp)
 ·
  rcases relabel_kind (scope:=scope) (env:=X.env) (names:=scope.names) hx with z | z
  ·obtain ⟨c',h'⟩:∃c',(cellsFrom (s.heap.objs.size+1) scope.names (clOf scope X.env)).lookup x=some c':=by
    have aux:∀(names:List (Str×NameKind)) (k:Nat) (cs:List (Str×Addr)),(x,NameKind.cell)∈names->∃c,(x,c)∈cellsFrom k names cs:=by
     intro names
     induction names with
     |nil=>intro _ _ h;simp at h
     |cons y r ih=>
      intro k cs h
      obtain ⟨yn,yk⟩:=y
      unfold cellsFrom
      have stay:∀(names:List (Str×NameKind)) (k:Nat) (cs:List (Str×Addr)) (p:Str×Addr),p∈cs->p∈cellsFrom k names cs:=by
       intro names
       induction names with
       |nil=>intro _ _ _ h;exact h
       |cons y r ih=>
        intro k cs p h
        obtain ⟨yn,yk⟩:=y
        unfold cellsFrom
        split
        ·exact ih _ _ _ (List.mem_cons_of_mem _ h)
        ·exact ih _ _ _ h
      rcases List.mem_cons.mp h with e | h
      ·injection e with ea eb
       rw [<-ea,<-eb]
       simp only [beq_self_eq_true,if_true]
       exact ⟨k,stay _ _ _ _ List.mem_cons_self⟩
      ·split
       ·exact ih _ _ h
       ·exact ih _ _ h
    obtain ⟨c,hc⟩:=aux scope.names (s.heap.objs.size+1) (clOf scope X.env) z
    exact lookup_mem_some hc
   exact ⟨c',h'⟩
  ·obtain ⟨c,hc⟩:=has_clGo (env:=X.env) (names:=scope.names) (cs:=[]) (.inl z)
   have stay:∀(names:List (Str×NameKind)) (k:Nat) (cs:List (Str×Addr)) (p:Str×Addr),p∈cs->p∈cellsFrom k names cs:=by
    intro names
    induction names with
    |nil=>intro _ _ _ h;exact h
    |cons y r ih=>
     intro k cs p h
     obtain ⟨yn,yk⟩:=y
     unfold cellsFrom
     split
     ·exact ih _ _ _ (List.mem_cons_of_mem _ h)
     ·exact ih _ _ _ h
   exact lookup_mem_some (stay scope.names (s.heap.objs.size+1) (clOf scope X.env) (x,c) hc)
 ·
  rcases cm x c e with z | ⟨z,_⟩
  ·
   exfalso
   have hfn':(scope.names.any fun y=>y.1==x&&y.2==.cell)=true:=hfn
   obtain ⟨y,hy,q⟩:=List.any_eq_true.mp hfn'
   simp only [Bool.and_eq_true,beq_iff_eq] at q
   have m:=PySem.mem_of_lookup e
   have key:∀(names:List (Str×NameKind)) (k:Nat) (cs:List (Str×Addr)),(x,NameKind.cell)∈names->∀c,(cellsFrom k names cs).lookup x=some c->k<=c:=by
    intro names
    induction names with
    |nil=>intro _ _ h;simp at h
    |cons y r ih=>
     intro k cs h c hc
     obtain ⟨yn,yk⟩:=y
     unfold cellsFrom at hc
     by_cases hr:(x,NameKind.cell)∈r
     ·split at hc
      ·exact Nat.le_of_succ_le (ih _ _ hr c hc)
      ·exact ih _ _ hr c hc
     ·rcases List.mem_cons.mp h with e | h
      ·injection e with ea eb
       rw [<-ea,<-eb] at hc
       simp only [beq_self_eq_true,if_true] at hc
       rw [cells_keep hr,List.lookup_cons] at hc
       simp only [beq_self_eq_true] at hc
       injection hc with hc;rw [<-hc];exact Nat.le_refl _
      ·exact absurd h hr
   have hxm:(x,NameKind.cell)∈scope.names:=by
    have:y=(x,NameKind.cell):=Prod.ext q.1 q.2
    rw [<-this];exact hy
   have:=key scope.names (s.heap.objs.size+1) (clOf scope X.env) hxm c e
   exact absurd (Nat.lt_of_lt_of_le (old x c z) (Nat.le_of_succ_le this)) (Nat.lt_irrefl _)
  ·exact Nat.le_of_succ_le z
 ·
  rcases cm x c e with z | ⟨z,_⟩
  ·exact (hf b hb).2.2.2.2.1 x c z
  ·exact Ne.symm (Nat.ne_of_lt (Nat.lt_of_lt_of_le (hlt b hb) (Nat.le_of_succ_le z)))
 ·exact I.bs b o e
 ·
  rcases (hf b hb).2.2.2.1 with z | z
  ·exact I.ok.noex b o e z
  ·exact absurd (Nat.lt_of_lt_of_le (Heap.lt_size (I.ok.bs b o e).1) z) (Nat.lt_irrefl _)
 ·
  rcases List.mem_cons.mp (I.stkSub b z) with z | z
  ·exact (hf b hb).2.1 z
  ·exact (hf b hb).2.2.1 z
 ·exact (Heap.Ns.new s.heap (.type "dict")).keeps (pushCells_keeps _ _)
 ·
  have e2':(List.replicate n none++js.map fun j=>(σ[j]?).getD none)[i]?=some (some v):=e2
  by_cases hi:i < n
  ·rw [List.getElem?_append_left (by simpa using hi),List.getElem?_replicate] at e2'
   rw [if_pos hi] at e2';cases e2'
  ·rw [List.getElem?_append_right (by simpa using hi),List.length_replicate,List.getElem?_map] at e2'
   cases hj:js[i-n]? with
   |none=>rw [hj] at e2';cases e2'
   |some j=>
    rw [hj] at e2'
    have hσ:σ[j]?=some (some v):=by
     have q:(σ[j]?).getD none=some v:=Option.some.inj e2'
     cases z:σ[j]? with
     |none=>rw [z] at q;cases q
     |some o=>rw [z] at q;rw [show o=some v from q]
    have hlen:i-n < js.length:=(List.getElem?_eq_some_iff.mp hj).1
    have q:=List.all_eq_true.mp B.capt (i-n) (List.mem_range.mpr hlen)
    rw [show n+(i-n)=i by omega] at q
    have e1':N[i]?=some x:=e1
    rw [e1',hj] at q
    simp only [Option.bind_some] at q
    cases hN:X.N[j]? with
    |none=>rw [hN] at q;cases q
    |some y=>
     rw [hN] at q
     simp only [Bool.and_eq_true,beq_iff_eq] at q
     obtain ⟨⟨q1,q2⟩,q3⟩:=q
     subst q1
     have nc:(x,NameKind.cell)∉scope.names:=fun z=>by
      have:=List.all_eq_true.mp q3 _ z
      simp at this
     have hfree:=PySem.mem_of_lookup q2
     have hk:X.env.kindOf x=some .cell∨X.env.kindOf x=some .free:=by
      have q:=List.all_eq_true.mp B.free _ hfree
      simpa using q
     have hvis:Vis X.env.scope x:=hk.elim (fun z=>.inr (.inl z)) fun z=>.inr (.inr z)
     obtain ⟨m,hn,hl⟩:=I.loc
     obtain ⟨u,r,l⟩:=hl j x v hN hσ hvis
     refine ⟨u,r,.inr ⟨relabel_free q2 I.ok.kind,?_⟩⟩
     rcases l with ⟨l,_⟩ | ⟨_,c,hc,hcell⟩
     ·rcases hk with hk | hk<;>(rw [hk] at l;cases l)
     ·refine ⟨c,?_,hcell.keeps kp⟩
      show (cellsFrom (s.heap.objs.size+1) scope.names (clOf scope X.env)).lookup x=some c
      rw [cells_keep nc]
      obtain ⟨c',hc'⟩:=has_clGo (env:=X.env) (names:=scope.names) (cs:=[]) (.inl hfree)
      obtain ⟨c2,h2⟩:=lookup_mem_some hc'
      rw [show (clOf scope X.env).lookup x=some c2 from h2]
      rcases mem_clGo hfr (PySem.mem_of_lookup h2) with z | z
      ·rw [hc] at z;exact z.symm
      ·exact absurd z (by simp)
 ·rcases cm x c e with z | ⟨_,z,_⟩
  ·obtain ⟨v,q⟩:=I.cell x c z
   exact ⟨v,q.keeps kp⟩
  ·exact ⟨none,z⟩
 ·exact I.fresh
 ·rcases cm x c e with z | ⟨z,_⟩
  ·exact I.freeC x c z
  ·exact I.hok.fresh (Nat.le_of_succ_le z)
 ·show (List.replicate n none++js.map fun j=>(σ[j]?).getD none).length=N.length
  rw [List.length_append,List.length_replicate,List.length_map,B.len]
theorem Inv.unblock {scope:Scope}{N:List Str}{pins pins':List (Addr×Obj)}{σ σ':St}{H H':Hp}{s s':Shared}{fp:List Addr}{h':Heap}(I:Inv X pins σ H s) (hf:∀b∈fp,FpOk X pins H b)
  (J:Inv (blkCx X scope N s H fp) pins' σ' H' s') (hs:Heap.SameBut s.heap.objs.size s'.heap h'):Inv X pins σ H' { s' with heap:=h' }:=by
 have nC:∀b o,s.heap.get? b=some o->b≠s.heap.objs.size:=fun b o e=>Nat.ne_of_lt (Heap.lt_size e)
 have hC:H' s.heap.objs.size=none:=J.free
 refine I.call' (s':={ s' with heap:=h' }) (ch:=fp) J.os ⟨fun b o e n hb hx=>(hs.2 b (nC b o e)).trans (J.base.keep b o e n hb hx),fun b o e n hb hx=>?_,J.base.free,fun b o e hx=>?_,J.base.tups,J.base.frzs,J.base.tbls⟩ (fun b u e=>?_) J.bare fun b hb=>⟨(hf b hb).2.2.2.1,(hf b hb).2.1,(hf b hb).2.2.2.2.1,(hf b hb).2.2.2.2.2⟩
 ·obtain ⟨sl,q⟩:=J.base.slot b o e n hb hx
  exact ⟨sl,(hs.2 b (nC b o e)).trans q⟩
 ·obtain ⟨o',q⟩:=J.base.there b o e hx
  exact ⟨o',(hs.2 b (nC b o e)).trans q⟩
 ·refine (J.hok b u e).stay (fun c v hc q=>(hs.2 c ?_).trans q) (fun _ q=>q) fun _ _ q=>q
  rintro rfl
  rcases hc with z | z
  ·rw [<-z,hC] at e;cases e
  ·rw [hC] at z;cases z
end
end L2
namespace L2
open PySem PySem.Spec PyProof.Rows
section
variable {X:Cx}
noncomputable def tEmit (acc:Addr) (te:TE):TS:=fun D σ H=>te σ H fun y H1=>∃ys,H1 acc=some (.lst ys)/\ys.length < sizeLine/\D.nx σ (upd H1 acc (.lst (ys++[y])))
theorem pb_emit {elt:Expr}{te:TE}{acc:Addr}(he:PE X elt te):PB X (do let _ <-call (.builtin "list.append") [.ref acc,<-eval elt X.env]) (tEmit acc te):=by
 intro pins s σ H D I h
 refine wpAny_bind (thn (he pins s σ H _ I h) fun v s1 ⟨y,H1,I1,r1,ys,e,hz,q⟩=>?_)
 refine wpAny_bind (thn (mt_append pins s1 σ H1 (.ref acc) [y] (.ref acc) [v] (fun _ H'=>D.nx σ H') I1 rfl (.cons r1 .nil) ⟨acc,ys,y,rfl,rfl,e,hz,q⟩) fun _ s2 ⟨_,H2,I2,_,q2⟩=>?_)
 exact wpAny_pure ⟨σ,H2,I2,q2⟩
theorem BlkOk.hnames {scope:Scope}{N:List Str}{n:Nat}{js:List Nat}(B:BlkOk X scope N n js):∀x∈scope.names,x.2=.local->scope.names.lookup x.1=some .local:=fun x hx hl=>by
 have q:=List.all_eq_true.mp B.names x hx
 rw [hl] at q
 simpa using q
noncomputable def bdNest (e:Expr) (d:Nat) (acc:Addr) (env:Env) (iter:Expr):Sem Unit:=do
 let x <-eval iter env
 standAt iter.pos
 let x <-foldedSetIterable iter env x
 let _ <-runOwn (.compStart e d (<-holding [x] (pyIter x)) (.ref acc) env) env
noncomputable def tNest (wi:TI) (g:TG) (tb:TS):TS:=fun D σ H=>wi σ H fun J H1=>tWalk J g tb { D with ct:=fun _ _=>False,bk:=fun _ _=>False } σ H1
theorem pb_nest {e:Expr}{d:Nat}{acc:Addr}{tg iter:Expr}{ifs:List Expr}{bd:Sem Unit}{wi:TI}{g:TG}{tt:TT}{tb:TS}
  (hturn:∀it,compTurn e d (.ref it) (.ref acc) X.env=turnOf e d (.ref it) (.ref acc) X.env tg iter ifs bd) (hq:∀it,(Code.compLoop e d (.ref it) (.ref acc) X.env).quiet=true)
  (hA:∀it,X.A.under (Code.compLoop e d (.ref it) (.ref acc) X.env)=X.A) (hden:∀it,(model X.prog X.w).den (Code.compLoop e d (.ref it) (.ref acc) X.env)=(compTurn e d (.ref it) (.ref acc) X.env).onRaise (fun x=>do noteFrame x X.env;theTreesLotGoes x))
  (hdenS:∀it,(model X.prog X.w).den (Code.compStart e d (.ref it) (.ref acc) X.env)=(compStart e d (.ref it) (.ref acc) X.env).onRaise (fun x=>do noteFrame x X.env;standAt theWindowsPlace))
  (hAS:∀it,X.A.under (Code.compStart e d (.ref it) (.ref acc) X.env)=X.A)
  (hst:∀it:Addr,compStart e d (.ref it) (.ref acc) X.env=(ask >>= fun r=>if r.params.followText "comprehension-iter-twice" = true then again (.compLoop e d (.ref it) (.ref acc) X.env) else (do rule "comprehension.iter-twice"; standAt iter.pos;let it' <-pyIter (.ref it);again (.compLoop e d it' (.ref acc) X.env))))
  (hxe:X.xe=fun _ _=>False) (hc:X.calm=true) (hi:PI X tg iter wi) (hg:PG X tg g) (ht:PTs X ifs tt) (hb:PB X bd tb)
  (hs:∀x,foldedSetIterable iter X.env x=pure x) (hA2:X.A.mark none=X.A):PB X (bdNest e d acc X.env iter) (tNest wi g (tTurn tt tb)):=by
 intro pins s σ H D I h
 unfold bdNest
 refine wpAny_bind (thn (hi pins s σ H _ I h) fun v s1 h1=>wpAny_bind (wpAny_standAt (wpAny_bind (wpAny_of_eq (hs v) ?_))))
 refine wpAny_bind (wpAny_holding (thn h1 fun itv s2 h2=>?_))
 obtain ⟨it,fp,tn,J,H2,e2,I2,T,st2,f2,w⟩:=h2
 subst e2
 refine wpAny_bind (wpAny_runOwn ?_)
 rw [hA2]
 refine codeAny_mono (comp_start (hdenS it) (hAS it) (hq it) (hst it) T st2 (comp_loop (D:={ D with ct:=fun _ _=>False,bk:=fun _ _=>False }) (hturn it) (hq it) (hA it) (hden it) hxe hc T hg ht hb I2 st2 f2 w)) fun r s' hr=>?_
 cases r with
 |ok f=>exact wpAny_pure hr
 |error x=>exact False.elim hr
noncomputable def tLC (wi:TI) (g:TG) (tt:TT) (te:TE) (n:Nat) (js:List Nat):TE:=fun σ H Q=>wi σ H fun J H1=>∀acc,H1 acc=none ->
 tWalk J g (tTurn tt (tEmit acc te)) { nx:=fun _ H'=>Q (.ref acc) H',rt:=fun _ _=>False } (blkSt σ n js) (upd H1 acc (.lst []))
theorem lc_core {e:Expr}{elt tg iter:Expr}{ifs:List Expr}{rest:List Comprehension}{scope:Scope}{pos:Pos}{wi:TI}{g:TG}{tt:TT}{tb:Addr->TS}{bd:Addr->Env->Sem Unit}{N:List Str}{n:Nat}{js:List Nat}
  (he:e=.ListComp elt (⟨tg,iter,ifs,0⟩::rest) scope pos) (hc:X.calm=true) (hi:PI X tg iter wi) (B:BlkOk X scope N n js)
  (hturn:∀it acc env,compTurn e 0 (.ref it) (.ref acc) env=turnOf e 0 (.ref it) (.ref acc) env tg iter ifs (bd acc env))
  (hg:∀s H fp,PG (blkCx X scope N s H fp) tg g) (ht:∀s H fp,PTs (blkCx X scope N s H fp) ifs tt) (hb:∀s H fp acc,PB (blkCx X scope N s H fp) (bd acc (blkCx X scope N s H fp).env) (tb acc))
  (hs:∀x,foldedSetIterable iter X.env x=pure x) :
  PE X e (fun σ H Q=>wi σ H fun J H1=>∀acc,H1 acc=none->tWalk J g (tTurn tt (tb acc)) { nx:=fun _ H'=>Q (.ref acc) H',rt:=fun _ _=>False } (blkSt σ n js) (upd H1 acc (.lst []))):=by
 intro pins s σ H Q I h
 subst he
 rw [eval_ListComp]
 refine wpAny_comprehension_free (use:=none) rfl hs (closure_is (B.frees I.ok)) B.kind B.hnames ?_
 refine thn (hi pins s σ H _ I h) fun v s1 h1=>thn h1 fun itv s2 h2=>?_
 obtain ⟨it,fp,tn,J,H2,e2,I2,T,st2,f2,w⟩:=h2
 subst e2
 refine wpAny_newObj_type (wpAny_newBlockEnv ?_)
 have I3:Inv X pins σ (upd H2 s2.heap.objs.size (.lst [])) { s2 with heap:=s2.heap.push { cls:=.type "list", data:=.seq ([]:List Value).toArray } }:=I2.lnew (t':=s2.toks) .nil (Nat.zero_le _)
 have lt2:∀b∈fp,b < s2.heap.objs.size:=fun b hb=>let ⟨_,e,_⟩:=T.obj _ _ st2 b hb;Heap.lt_size e
 have f3:∀b∈fp,FpOk X pins (upd H2 s2.heap.objs.size (.lst [])) b:=fun b hb=>⟨by rw [upd_ne (Nat.ne_of_lt (lt2 b hb))];exact (f2 b hb).1,(f2 b hb).2⟩
 have lt3:∀b∈fp,b < (s2.heap.push { cls:=.type "list", data:=.seq ([]:List Value).toArray }).objs.size:=fun b hb=>by rw [Heap.size_push];exact Nat.lt_succ_of_lt (lt2 b hb)
 have J4:=Inv.block B I3 f3 lt3
 have st4:tn 0 (pushCells ((s2.heap.push { cls:=.type "list", data:=.seq ([]:List Value).toArray }).push { cls:=.type "dict", data:=.dict #[] }) scope.names):=T.keep _ _ _ st2 fun b hb o e=>pushCells_keeps _ _ _ _ (Heap.get?_push_of_some _ (Heap.get?_push_of_some _ e))
 have f4:∀b∈fp,FpOk (blkCx X scope N { s2 with heap:=s2.heap.push { cls:=.type "list", data:=.seq ([]:List Value).toArray } } (upd H2 s2.heap.objs.size (.lst [])) fp) [] (upd H2 s2.heap.objs.size (.lst [])) b:=fun b hb=>
  ⟨(f3 b hb).1,Nat.ne_of_lt (lt3 b hb),J4.ok.exfs b hb,.inl hb,(J4.ok.exf b hb).2,fun p hp=>absurd hp (by simp [blkCx])⟩
 have go:=w s2.heap.objs.size I2.fresh
 refine codeAny_mono (comp_start (X:=blkCx X scope N { s2 with heap:=s2.heap.push { cls:=.type "list", data:=.seq ([]:List Value).toArray } } (upd H2 s2.heap.objs.size (.lst [])) fp) (e:=.ListComp elt (⟨tg,iter,ifs,0⟩::rest) scope pos) (d:=0) (acc:=.ref s2.heap.objs.size) (it:=it) (iter:=iter) (by rfl) (by rfl) (by rfl) (by rfl) T st4
  (comp_loop (X:=blkCx X scope N { s2 with heap:=s2.heap.push { cls:=.type "list", data:=.seq ([]:List Value).toArray } } (upd H2 s2.heap.objs.size (.lst [])) fp) (hturn it _ _) (by rfl) (by rfl) (by rfl) rfl hc T (hg _ _ _) (ht _ _ _) (hb _ _ _ _) J4 st4 f4 go)) fun r s' hr=>?_
 cases r with
 |error x=>exact False.elim hr
 |ok f=>
  obtain ⟨σ',H',J',q⟩:=hr
  obtain ⟨m,hn,_⟩:=id J'.loc
  exact ⟨m,hn,fun h' hs'=>⟨.ref s2.heap.objs.size,H',I3.unblock f3 J' hs',rfl,q⟩⟩
theorem pe_lc {elt tg iter:Expr}{ifs:List Expr}{scope:Scope}{pos:Pos}{wi:TI}{g:TG}{tt:TT}{te:TE}{N:List Str}{n:Nat}{js:List Nat}
  (hc:X.calm=true) (B:BlkOk X scope N n js) (hi:PI X tg iter wi) (hg:∀s H fp,PG (blkCx X scope N s H fp) tg g) (ht:∀s H fp,PTs (blkCx X scope N s H fp) ifs tt) (he:∀s H fp,PE (blkCx X scope N s H fp) elt te)
  (hs:∀x,foldedSetIterable iter X.env x=pure x:=by intro _;rfl):PE X (.ListComp elt [⟨tg,iter,ifs,0⟩] scope pos) (tLC wi g tt te n js):=
 lc_core (bd:=fun acc env=>do let _ <-call (.builtin "list.append") [.ref acc,<-eval elt env]) rfl hc hi B (fun _ _ _=>by rfl) hg ht (fun s H fp acc=>pb_emit (he s H fp)) hs
noncomputable def tLC2 (wi:TI) (g:TG) (tt:TT) (wi2:TI) (g2:TG) (tt2:TT) (te:TE) (n:Nat) (js:List Nat):TE:=fun σ H Q=>wi σ H fun J H1=>∀acc,H1 acc=none ->
 tWalk J g (tTurn tt (tNest wi2 g2 (tTurn tt2 (tEmit acc te)))) { nx:=fun _ H'=>Q (.ref acc) H',rt:=fun _ _=>False } (blkSt σ n js) (upd H1 acc (.lst []))
theorem turn2 {elt tg iter tg2 iter2:Expr}{ifs ifs2:List Expr}{scope:Scope}{pos:Pos}{it acc:Addr}{env:Env} :
  compTurn (.ListComp elt [⟨tg,iter,ifs,0⟩,⟨tg2,iter2,ifs2,0⟩] scope pos) 0 (.ref it) (.ref acc) env=turnOf (.ListComp elt [⟨tg,iter,ifs,0⟩,⟨tg2,iter2,ifs2,0⟩] scope pos) 0 (.ref it) (.ref acc) env tg iter ifs (bdNest (.ListComp elt [⟨tg,iter,ifs,0⟩,⟨tg2,iter2,ifs2,0⟩] scope pos) 1 acc env iter2):=by
 unfold turnOf bdNest
 simp only [bind_assoc,pure_bind]
 rfl
theorem pe_lc2 {elt tg iter tg2 iter2:Expr}{ifs ifs2:List Expr}{scope:Scope}{pos:Pos}{wi wi2:TI}{g g2:TG}{tt tt2:TT}{te:TE}{N:List Str}{n:Nat}{js:List Nat}
  (hc:X.calm=true) (B:BlkOk X scope N n js) (hi:PI X tg iter wi) (hg:∀s H fp,PG (blkCx X scope N s H fp) tg g) (ht:∀s H fp,PTs (blkCx X scope N s H fp) ifs tt)
  (hi2:∀s H fp,PI (blkCx X scope N s H fp) tg2 iter2 wi2) (hg2:∀s H fp,PG (blkCx X scope N s H fp) tg2 g2) (ht2:∀s H fp,PTs (blkCx X scope N s H fp) ifs2 tt2) (he:∀s H fp,PE (blkCx X scope N s H fp) elt te)
  (hs:∀x,foldedSetIterable iter X.env x=pure x:=by intro _;rfl) (hs2:∀s H fp x,foldedSetIterable iter2 (blkCx X scope N s H fp).env x=pure x:=by intro _ _ _ _;rfl) (hA2:X.A.mark none=X.A:=by rfl) :
  PE X (.ListComp elt [⟨tg,iter,ifs,0⟩,⟨tg2,iter2,ifs2,0⟩] scope pos) (tLC2 wi g tt wi2 g2 tt2 te n js):=
 lc_core (bd:=fun acc env=>bdNest (.ListComp elt [⟨tg,iter,ifs,0⟩,⟨tg2,iter2,ifs2,0⟩] scope pos) 1 acc env iter2) rfl hc hi B (fun _ _ _=>turn2) hg ht
  (fun s H fp acc=>pb_nest (bd:=do let _ <-call (.builtin "list.append") [.ref acc,<-eval elt (blkCx X scope N s H fp).env]) (fun _=>by rfl) (fun _=>by rfl) (fun _=>by rfl) (fun _=>by rfl) (fun _=>by rfl) (fun _=>by rfl) (fun _=>by rfl) rfl hc (hi2 s H fp) (hg2 s H fp) (ht2 s H fp) (pb_emit (he s H fp)) (hs2 s H fp) hA2) hs
end
end L2
namespace L2
open PySem PySem.Spec PyProof.Rows
section
variable {X:Cx}
theorem range_all (bs:List Bool):(List.range bs.length).all (fun i=>bs.getD i false)=bs.all id:=by
 rw [Bool.eq_iff_iff,List.all_eq_true,List.all_eq_true]
 constructor
 ·intro h b hb
  obtain ⟨i,hi,e⟩:=List.getElem_of_mem hb
  have:=h i (List.mem_range.mpr hi)
  rw [List.getD_eq_getElem?_getD,List.getElem?_eq_getElem hi,Option.getD_some,e] at this
  exact this
 ·intro h i hi
  have hi:=List.mem_range.mp hi
  rw [List.getD_eq_getElem?_getD,List.getElem?_eq_getElem hi,Option.getD_some]
  exact h _ (List.getElem_mem hi)
theorem bools_at {bs:List Bool}{its:List Value}(r:Vals (bs.map V.bl) its) {i:Nat}{v:Value}(h:its.toArray[i]?=some v):v=.bool (bs.getD i false):=by
 rw [List.getElem?_toArray] at h
 have hi:i < its.length:=(List.getElem?_eq_some_iff.mp h).1
 have hl:=r.length
 rw [List.length_map] at hl
 have hx:(bs.map V.bl)[i]?=some (.bl (bs.getD i false)):=by
  rw [List.getElem?_map,List.getD_eq_getElem?_getD,List.getElem?_eq_getElem (by omega)]
  rfl
 obtain ⟨u,hu,ru⟩:=r.get hx
 rw [hu] at h
 cases h
 exact ru
noncomputable def rAll (K:PySem.W.Frag) (f:List Bool->Bool):List V->Hp->VK->Prop:=fun xs H Q=>∃a bs,xs=[.ref a]/\SqL K H a (bs.map V.bl)/\Q (.bl (f bs)) H
theorem call_allB (hc:X.cool=true):CallR X (.builtin "all") (rAll X.K fun bs=>bs.all id):=by
 intro pins s σ H xs us Q I r h
 obtain ⟨a,bs,rfl,hq,q⟩:=h
 obtain ⟨u,rfl,ru⟩:=vals1 r
 cases ru
 obtain ⟨its,rv,p,hz⟩:=I.list hq
 have hl:=rv.length
 rw [List.length_map] at hl
 have ha:a < s.heap.objs.size:=let ⟨o,_,e,_⟩:=p;Heap.lt_size e
 refine call_all_walk (wpAny_pyIter_list p.isList ?_)
 refine ⟨s.heap.objs.size,_,_,_,_,_,fun i=>bs.getD i false,rfl,Walks.list (show X.A.in1.handled=none from I.ok.hc hc) _ a (Nat.ne_of_lt ha) its.toArray,⟨⟨_,Heap.get?_push_size _ rfl,rfl,rfl⟩,p.isList.push _⟩,?_,fun h' tk k=>?_⟩
 ·intro i v s' Q' E' hP hQ
  rw [bools_at rv hP]
  exact wpAny_truthy_bool hQ
 ·have I2:Inv X pins σ H { s with heap:=h',toks:=tk }:=I.kept fun b o e=>k b o (fun z=>absurd (by simpa using z) (Nat.ne_of_lt (Heap.lt_size e))) (Heap.get?_push_of_some _ e)
  refine ⟨.bl (bs.all id),H,I2,?_,q⟩
  rw [List.size_toArray,<-hl,range_all]
  all_goals rfl
noncomputable def rIsi (K:PySem.W.Frag):List V->Hp->VK->Prop:=fun xs H Q=>∃x y t c b,xs=[x,y]/\RelV y c/\(∀u,RelV y u->u=c)/\TyOf K H x t/\PySem.W.kitOne K t c=some b/\Q (.bl b) H
theorem call_isi:CallR X (.builtin "isinstance") (rIsi X.K):=by
 intro pins s σ H xs us Q I r h
 obtain ⟨x,y,t,c,b,rfl,hy,hu,ty,e,q⟩:=h
 obtain ⟨u,w',rfl,ru,rw'⟩:=vals2 r
 cases hu _ rw'
 exact isinst_ok I ru ty e fun tk=>⟨.bl b,H,I.tok _,rfl,q⟩
noncomputable def Its (x:Str):It:=⟨fun i _=>i < x.length,fun i H v H'=>H'=H/\∃c,x.cps[i]?=some c/\v=.str ⟨#[c]⟩,fun i _=>x.length<=i⟩
theorem turn_str {P:Program}{w:World}{K:PySem.W.Frag}{tg:Expr}(it:Addr) (x:Str) (t:Tok):Turn P w K tg (Its x) [it] it (fun i h=>h.IsStrIter it (strIterType x) x t i/\i<=x.cps.size) where
 mem:=by simp
 obj:=fun i h st b hb=>by
  have e:b=it:=by simpa using hb
  subst e
  obtain ⟨⟨o,e,c,d⟩,_⟩:=st
  exact ⟨o,e,fun v z=>by rw [d] at z;cases z⟩
 keep:=fun i h h' st k=>⟨let ⟨o,ho,r⟩:=st.1;⟨o,k it (by simp) o ho,r⟩,st.2⟩
 item:=by
  intro X hP hw hK hc i pins s σ H E I hf st hg
  subst hP hw hK
  obtain ⟨f0,f1,f2,f3,f4,f5⟩:=hf it (by simp)
  have hi:i < x.cps.size:=hg
  have key:∀(n:String),strIterType x=n->(["enumerate", "zip", "dict_itemiterator", "dict_reverseitemiterator", "odict_iterator", "itertools.zip_longest", "itertools.pairwise"].contains n=false)->∀(c:Nat) (h':Heap),x.cps[i]?=some c->h'.IsStrIter it n x t (i+1)->Heap.SameBut it s.heap h' ->
    ∃u,some (Value.str ⟨#[c]⟩ s.toks)=some u/\wpAny (model X.prog X.w) X.A (letOwnedTupleGo tg (.ref it) u) (fun _ s2=>∃y H',Inv X pins σ H' s2/\RelV y u/\(Its x).yld i H y H'/\(s2.heap.IsStrIter it (strIterType x) x t (i+1)/\i+1<=x.cps.size)/\∀b∈[it],H' b=none) E { s with heap:=h',toks:=s.toks+1 }:=by
   intro n hn hno c h' hcv st' hs'
   have I1:Inv X pins σ H { s with heap:=h',toks:=s.toks+1 }:=I.turned (fun b o hb e=>hs'.extBut b o hb e) f0 f1 f3 f4 f5
   obtain ⟨o,ho,c1,d1⟩:=id st'
   exact ⟨_,rfl,go_of (s:={ s with heap:=h',toks:=s.toks+1 }) ho c1 d1 hno ⟨.str ⟨#[c]⟩,H,I1,⟨_,rfl⟩,⟨rfl,c,hcv,rfl⟩,⟨by rw [hn];exact st',hi⟩,fun b hb=>(hf b hb).1⟩⟩
  have hcx:x.cps[i]?=some x.cps[i]:=by simp [hi]
  by_cases ha:(x.cps.all (· < 128))=true
  ·have hn:strIterType x = "str_ascii_iterator" := by unfold strIterType;rw [if_pos ha]
   exact wpAny_pyNext_ascii_item (by rw [<-hn];exact st.1) hcx fun h' a b=>key _ hn (by decide) _ h' hcx a b
  ·have hn:strIterType x = "str_iterator" := by unfold strIterType;rw [if_neg ha]
   exact wpAny_pyNext_wide_item (by rw [<-hn];exact st.1) hcx fun h' a b=>key _ hn (by decide) _ h' hcx a b
 done:=by
  intro X hP hw hK hc i pins s σ H E I hf st hg
  subst hP hw hK
  obtain ⟨f0,f1,f2,f3,f4,f5⟩:=hf it (by simp)
  have hi:x.cps.size<=i:=hg
  have ei:i=x.cps.size:=Nat.le_antisymm st.2 hi
  subst ei
  by_cases ha:(x.cps.all (· < 128))=true
  ·have hn:strIterType x = "str_ascii_iterator" := by unfold strIterType;rw [if_pos ha]
   exact XH.ascii_end (I.hdAt1 hc f0) (by rw [<-hn];exact st.1) (by simp) fun h' kk=>⟨rfl,I.turned (t':=s.toks) (fun b o hb e=>kk b o hb e) f0 f1 f3 f4 f5⟩
  ·have hn:strIterType x = "str_iterator" := by unfold strIterType;rw [if_neg ha]
   exact XH.wide_end (I.hdAt1 hc f0) (by rw [<-hn];exact st.1) (by simp) fun h' kk=>⟨rfl,I.turned (t':=s.toks) (fun b o hb e=>kk b o hb e) f0 f1 f3 f4 f5⟩
 self:=fun A i s Q E st h=>by
  by_cases ha:(x.cps.all (· < 128))=true
  ·have hn:strIterType x = "str_ascii_iterator" := by unfold strIterType;rw [if_pos ha]
   exact wpAny_pyIter_striter_ascii (by rw [<-hn];exact st.1) h
  ·have hn:strIterType x = "str_iterator" := by unfold strIterType;rw [if_neg ha]
   exact wpAny_pyIter_striter_wide (by rw [<-hn];exact st.1) h
noncomputable def rSlS:V->Option Int->Option Int->Hp->VK->Prop:=fun x lo hi H Q=>∃z,x=.str z/\z.length<=sizeLine/\Q (.str (Txt.slice z lo hi)) H
theorem sl_str:SlR X rSlS:=by
 intro pins s σ H x v vl vu lo hi sl Q I rx hs pl pu h
 obtain ⟨z,rfl,hz,q⟩:=h
 obtain ⟨t,rfl⟩:=rx
 obtain ⟨o,ho,hc,hd⟩:=hs
 have fin:∀t' k,EP X pins σ Q (.str (Txt.slice z lo hi) t') { s with toks:=k }:=fun t' k=>⟨.str (Txt.slice z lo hi),H,I.tok k,⟨t',rfl⟩,q⟩
 have sz:=Nat.le_trans (Txt.slice_le z lo hi) hz
 refine ⟨"str", _,F.slot_str_getitem.lookup,typeIs_str _ _ _,?_⟩
 cases pl with
 |none=>cases pu with
  |none=>exact wpAny_getItem_str_slice (l:=none) (u:=none) (st:=none) ⟨o,ho,hc,hd⟩ rfl (post_val_or_str ⟨sz,fin⟩)
  |int j uj=>exact wpAny_getItem_str_slice (l:=none) (u:=some (j,uj)) (st:=none) ⟨o,ho,hc,hd⟩ rfl (post_val_or_str ⟨sz,fin⟩)
 |int i ui=>cases pu with
  |none=>exact wpAny_getItem_str_slice (l:=some (i,ui)) (u:=none) (st:=none) ⟨o,ho,hc,hd⟩ rfl (post_val_or_str ⟨sz,fin⟩)
  |int j uj=>exact wpAny_getItem_str_slice (l:=some (i,ui)) (u:=some (j,uj)) (st:=none) ⟨o,ho,hc,hd⟩ rfl (post_val_or_str ⟨sz,fin⟩)
end
end L2
namespace L2
open PySem PySem.Spec PyProof.Rows
section
variable {κ:Type} [DecidableEq κ]
noncomputable def valV (kvs:List (κ×V)) (k:κ):Option V:=(kvs.find? fun kv=>decide (kv.1=k)).map (·.2)
noncomputable def putK (kvs:List (κ×V)) (k:κ) (v:V):List (κ×V):=
 if (kvs.any fun kv=>decide (kv.1=k))=true then kvs.map (fun kv=>if kv.1=k then (kv.1,v) else kv) else kvs++[(k,v)]
theorem valV_pos {p:κ×V}{r:List (κ×V)}{k:κ}(e:p.1=k):valV (p::r) k=some p.2:=by simp [valV,List.find?_cons,e]
theorem valV_neg {p:κ×V}{r:List (κ×V)}{k:κ}(e:¬p.1=k):valV (p::r) k=valV r k:=by simp [valV,List.find?_cons,e]
theorem valV_any (k:κ):∀kvs:List (κ×V),(kvs.any fun kv=>decide (kv.1=k))=(valV kvs k).isSome
 |[]=>rfl
 |p::r=>by
  rw [List.any_cons]
  by_cases e:p.1=k
  ·simp only [valV_pos e,decide_eq_true e,Bool.true_or,Option.isSome_some]
  ·rw [valV_neg e,decide_eq_false e,Bool.false_or];exact valV_any k r
theorem length_putK (kvs:List (κ×V)) (k:κ) (v:V):(putK kvs k v).length<=kvs.length+1:=by
 unfold putK
 split
 ·rw [List.length_map];omega
 ·rw [List.length_append,List.length_cons,List.length_nil];omega
theorem RelO.isSome_eq {o:Option V}{u:Option Value}(r:RelO o u):o.isSome=u.isSome:=by
 cases o with
 |none=>cases u with
  |none=>rfl
  |some _=>exact (show False from r).elim
 |some _=>cases u with
  |none=>exact (show False from r).elim
  |some _=>rfl
theorem KV.val {kvs:List (κ×V)}{vs:List (κ×Value)}(r:KV kvs vs) (k:κ):RelO (valV kvs k) (valueAt vs k):=by
 unfold KV at r
 induction r with
 |nil=>exact True.intro
 |@cons p q ps qs h t ih=>
  obtain ⟨h1,h2⟩:=h
  by_cases e:p.1=k
  ·have e':q.1=k:=h1.symm.trans e
   have b:valueAt (q::qs) k=some q.2:=by simp [valueAt,List.find?_cons,e']
   rw [valV_pos e,b];exact h2
  ·have e':¬q.1=k:=fun z=>e (h1.trans z)
   have b:valueAt (q::qs) k=valueAt qs k:=by simp [valueAt,List.find?_cons,e']
   rw [valV_neg e,b];exact ih
theorem KV.any {kvs:List (κ×V)}{vs:List (κ×Value)}(r:KV kvs vs) (k:κ):(kvs.any fun kv=>decide (kv.1=k))=vs.any fun kv=>decide (kv.1=k):=by
 unfold KV at r
 induction r with
 |nil=>rfl
 |cons h t ih=>rw [List.any_cons,List.any_cons,ih,h.1]
theorem KV.repl {kvs:List (κ×V)}{vs:List (κ×Value)}(r:KV kvs vs) (k:κ) {y:V}{u:Value}(ry:RelV y u) :
  KV (kvs.map fun kv=>if kv.1=k then (kv.1,y) else kv) (vs.map fun kv=>if kv.1=k then (kv.1,u) else kv):=by
 unfold KV at r ⊢
 induction r with
 |nil=>exact .nil
 |@cons p q ps qs h t ih=>
  rw [List.map_cons,List.map_cons]
  refine .cons ?_ ih
  obtain ⟨h1,h2⟩:=h
  by_cases e:p.1=k
  ·rw [if_pos e,if_pos (h1.symm.trans e)];exact ⟨h1,ry⟩
  ·rw [if_neg e,if_neg (fun z=>e (h1.trans z))];exact ⟨h1,h2⟩
theorem KV.put {kvs:List (κ×V)}{vs:List (κ×Value)}(r:KV kvs vs) (k:κ) {y:V}{u:Value}(ry:RelV y u):KV (putK kvs k y) (stored vs k u):=by
 unfold putK stored
 rw [r.any k]
 by_cases e:(vs.any fun kv=>decide (kv.1=k))=true
 ·rw [if_pos e,if_pos e];exact r.repl k ry
 ·rw [if_neg e,if_neg e];exact Paired.snoc r ⟨rfl,ry⟩
theorem KV.keys {kvs:List (κ×V)}{vs:List (κ×Value)}(r:KV kvs vs):kvs.map (·.1)=vs.map (·.1):=by
 unfold KV at r
 induction r with
 |nil=>rfl
 |cons h t ih=>rw [List.map_cons,List.map_cons,ih,h.1]
theorem KV.length {kvs:List (κ×V)}{vs:List (κ×Value)}(r:KV kvs vs):kvs.length=vs.length:=Paired.length r
end
theorem kV_is {P:Program}{w:World}{k:Key}{u:Value}(r:RelV (kV k) u):(mixKind P w).is k u=true:=by
 cases k with
 |inl i=>obtain ⟨t,e⟩:=(show ∃t,u=Value.int i t from r);subst e;exact mixKind_int P w i t
 |inr x=>obtain ⟨t,e⟩:=(show ∃t,u=Value.str x t from r);subst e;exact mixKind_str P w x t
theorem items_are {P:Program}{w:World}:∀{ks:List Key}{us:List Value},Vals (ks.map kV) us->ItemsAre (mixKind P w) ks us
 |[],_,r=>by rw [List.map_nil] at r;cases r;exact .nil
 |k::ks,_,r=>by
  rw [List.map_cons] at r
  cases r with
  |cons h t=>exact .cons (kV_is h) (items_are t)
noncomputable abbrev KT (H:Hp):List (List Key×V)->List (List Key×Addr×Value)->Prop:=Paired fun p q=>p.1=q.1/\H q.2.1=some (.tup (p.1.map kV))/\RelV p.2 q.2.2
theorem KT.val {H:Hp}{kvs:List (List Key×V)}{xs:List (List Key×Addr×Value)}(r:KT H kvs xs) (k:List Key):RelO (valV kvs k) ((atKey xs k).map (·.2)):=by
 induction r with
 |nil=>exact True.intro
 |@cons p q ps qs h t ih=>
  obtain ⟨h1,_,h2⟩:=h
  by_cases e:p.1=k
  ·have e':q.1=k:=h1.symm.trans e
   have b:atKey (q::qs) k=some q.2:=by simp [atKey,List.find?_cons,e']
   rw [valV_pos e,b];exact h2
  ·have e':¬q.1=k:=fun z=>e (h1.trans z)
   have b:atKey (q::qs) k=atKey qs k:=by simp [atKey,List.find?_cons,e']
   rw [valV_neg e,b];exact ih
theorem KT.repl {H:Hp}{kvs:List (List Key×V)}{xs:List (List Key×Addr×Value)}(r:KT H kvs xs) (k:List Key) {y:V}{u:Value}(ry:RelV y u) :
  KT H (kvs.map fun kv=>if kv.1=k then (kv.1,y) else kv) (xs.map (putAt k u)):=by
 induction r with
 |nil=>exact .nil
 |@cons p q ps qs h t ih=>
  rw [List.map_cons,List.map_cons]
  refine .cons ?_ ih
  obtain ⟨h1,h2,h3⟩:=h
  unfold putAt
  by_cases e:p.1=k
  ·rw [if_pos e,if_pos (h1.symm.trans e)];exact ⟨h1,h2,ry⟩
  ·rw [if_neg e,if_neg (fun z=>e (h1.trans z))];exact ⟨h1,h2,h3⟩
theorem KT.put {H:Hp}{kvs:List (List Key×V)}{xs:List (List Key×Addr×Value)}(r:KT H kvs xs) (k:List Key) {b:Addr}{y:V}{u:Value}(hb:H b=some (.tup (k.map kV))) (ry:RelV y u) :
  KT H (putK kvs k y) (storedH xs k b u):=by
 have e:(kvs.any fun kv=>decide (kv.1=k))=(atKey xs k).isSome:=by
  rw [valV_any,(r.val k).isSome_eq,Option.isSome_map]
 unfold putK storedH
 rw [e]
 by_cases q:(atKey xs k).isSome=true
 ·rw [if_pos q,if_pos q];exact r.repl k ry
 ·rw [if_neg q,if_neg q];exact Paired.snoc r ⟨rfl,hb,ry⟩
theorem KT.keeps {H H':Hp}{kvs:List (List Key×V)}{xs:List (List Key×Addr×Value)}(r:KT H kvs xs) (ht:∀b ys,H b=some (.tup ys)->H' b=some (.tup ys)):KT H' kvs xs:=
 Paired.mapP r fun _ _ z=>⟨z.1,ht _ _ z.2.1,z.2.2⟩
section
variable {P:Program}{w:World}{H:Hp}{h:Heap}{a:Addr}
theorem rd_of {u:HO}(ok:HOk P w H h) (e:Rd H a u):ObjOk P w H h a u:=e.ok ok
theorem dk_rd {kvs:List (Key×V)}(ok:HOk P w H h) (e:Rd H a (.dK kvs)):kvs.length<=sizeLine/\(a==sysModules)=false/\∃vs,KV kvs vs/\h.DictOf (mixKind P w) a vs:=
 show ObjOk P w H h a (.dK kvs) from rd_of ok e
theorem dk_of {kvs:List (Key×V)}(ok:HOk P w H h) (e:H a=some (.dK kvs)):kvs.length<=sizeLine/\(a==sysModules)=false/\∃vs,KV kvs vs/\h.DictOf (mixKind P w) a vs:=dk_rd ok (.inl e)
theorem key_of {ks:List Key}(ok:HOk P w H h) (e:H a=some (.tup (ks.map kV))):(tupleKind (mixKind P w)).is h ks a:=by
 obtain ⟨_,its,r,o,h1,h2,n,h3⟩:=(show ObjOk P w H h a (.tup (ks.map kV)) from ok a _ e)
 exact ⟨o,its.toArray,n,h1,h2,h3,by simpa using items_are r⟩
theorem dt_rd {kvs:List (List Key×V)}(ok:HOk P w H h) (e:Rd H a (.dT kvs)):kvs.length<=sizeLine/\(a==sysModules)=false /\
  ∃xs,KT H kvs xs/\h.DictOfH (tupleKind (mixKind P w)) a xs:=by
 obtain ⟨z,y,xs,r,o,es,ep,h1,h2,h3,h4,h5⟩:=(show ObjOk P w H h a (.dT kvs) from rd_of ok e)
 refine ⟨z,y,xs,r,o,es,ep,h1,h2,h3,h4,fun x hx=>?_,h5⟩
 have all:∀{l:List (List Key×V)}{m:List (List Key×Addr×Value)},KT H l m->∀x∈m,(tupleKind (mixKind P w)).is h x.1 x.2.1:=by
  intro l m q
  induction q with
  |nil=>intro x hx;exact nomatch hx
  |@cons p q ps qs hq t ih=>
   intro x hx
   rcases List.mem_cons.mp hx with e | hx
   ·subst e
    exact key_of ok (by rw [<-hq.1];exact hq.2.1)
   ·exact ih x hx
 exact all r x hx
theorem dt_of {kvs:List (List Key×V)}(ok:HOk P w H h) (e:H a=some (.dT kvs)):kvs.length<=sizeLine/\(a==sysModules)=false /\
  ∃xs,KT H kvs xs/\h.DictOfH (tupleKind (mixKind P w)) a xs:=dt_rd ok (.inl e)
end
noncomputable def DGet (H:Hp) (a:Addr) (y:V) (r:Option V):Prop:=
 (∃kvs k,Rd H a (.dK kvs)/\y=kV k/\r=valV kvs k)∨∃kvs k b,Rd H a (.dT kvs)/\y=.ref b/\H b=some (.tup (k.map kV))/\r=valV kvs k
noncomputable def DPut (H:Hp) (a:Addr) (y v:V) (H':Hp):Prop:=
 (∃kvs k,H a=some (.dK kvs)/\y=kV k/\kvs.length < sizeLine/\H'=upd H a (.dK (putK kvs k v))) ∨
 ∃kvs k b,H a=some (.dT kvs)/\y=.ref b/\H b=some (.tup (k.map kV))/\kvs.length < sizeLine/\H'=upd H a (.dT (putK kvs k v))
theorem DPut.k {H:Hp}{a:Addr}{kvs:List (Key×V)}{k:Key}{v:V}(e:H a=some (.dK kvs)) (hl:kvs.length < sizeLine):DPut H a (kV k) v (upd H a (.dK (putK kvs k v))):=.inl ⟨kvs,k,e,rfl,hl,rfl⟩
section
variable {X:Cx}{pins:List (Addr×Obj)}{σ:St}{H:Hp}{s:Shared}{a:Addr}{y v:V}{u r:Value}{o:Option V}{A:Around}{E:Value->Shared->Prop}
theorem d_getItem {Q:Value->Shared->Prop}(hu:A.units+1 < cLine) (I:Inv X pins σ H s) (g:DGet H a y (some v)) (ry:RelV y u) (h:∀w' s',Inv X pins σ H s'->RelV v w'->Q w' s') :
  wpAny (model X.prog X.w) A (getItem (.ref a) u) Q E s:=by
 rcases g with ⟨kvs,k,e,ey,l⟩ | ⟨kvs,k,b,e,ey,eb,l⟩
 ·subst ey
  obtain ⟨z,hd,vs,rel,dd⟩:=dk_rd I.hok e
  obtain ⟨w',hw,rw'⟩:=RelO.some_of (v:=v) (o:=valueAt vs k) (by rw [l];exact rel.val k)
  exact wpAny_getItem_of (kV_is ry) dd.mapOf hw (h w' _ (I.tok _) rw')
 ·subst ey
  cases (show u=Value.ref b from ry)
  obtain ⟨z,hd,xs,rel,dd⟩:=dt_rd I.hok e
  obtain ⟨w',hw,rw'⟩:=RelO.some_of (v:=v) (o:=(atKey xs k).map (·.2)) (by rw [l];exact rel.val k)
  obtain ⟨p,hp,hp2⟩:=Option.map_eq_some_iff.mp hw
  refine wpAny_getItem_heap (tupleKind_room_in1 hu) (key_of I.hok eb) dd hp ?_
  rw [hp2]
  exact h w' _ (I.tok _) rw'
theorem d_in {Q:Value->Shared->Prop}(hu:A.units+1 < cLine) (I:Inv X pins σ H s) (g:DGet H a y o) (ry:RelV y u) (h:∀s',Inv X pins σ H s'->Q (.bool o.isSome) s') :
  wpAny (model X.prog X.w) A (compareOp .In u (.ref a)) Q E s:=by
 rcases g with ⟨kvs,k,e,ey,l⟩ | ⟨kvs,k,b,e,ey,eb,l⟩
 ·subst ey
  obtain ⟨z,hd,vs,rel,dd⟩:=dk_rd I.hok e
  refine wpAny_in_of (kV_is ry) hd dd.mapOf ?_
  rw [<-(rel.val k).isSome_eq,<-l]
  exact h _ (I.tok _)
 ·subst ey
  cases (show u=Value.ref b from ry)
  obtain ⟨z,hd,xs,rel,dd⟩:=dt_rd I.hok e
  refine wpAny_in_heap (tupleKind_room_in1 hu) (key_of I.hok eb) hd dd ?_
  have q:=(rel.val k).isSome_eq
  rw [Option.isSome_map] at q
  rw [<-q,<-l]
  exact h _ (I.tok _)
theorem d_notIn {Q:Value->Shared->Prop}(hu:A.units+1 < cLine) (I:Inv X pins σ H s) (g:DGet H a y o) (ry:RelV y u) (h:∀s',Inv X pins σ H s'->Q (.bool (!o.isSome)) s') :
  wpAny (model X.prog X.w) A (compareOp .NotIn u (.ref a)) Q E s:=by
 rcases g with ⟨kvs,k,e,ey,l⟩ | ⟨kvs,k,b,e,ey,eb,l⟩
 ·subst ey
  obtain ⟨z,hd,vs,rel,dd⟩:=dk_rd I.hok e
  refine wpAny_notIn_of (kV_is ry) hd dd.mapOf ?_
  rw [<-(rel.val k).isSome_eq,<-l]
  exact h _ (I.tok _)
 ·subst ey
  cases (show u=Value.ref b from ry)
  obtain ⟨z,hd,xs,rel,dd⟩:=dt_rd I.hok e
  refine wpAny_notIn_heap (tupleKind_room_in1 hu) (key_of I.hok eb) hd dd ?_
  have q:=(rel.val k).isSome_eq
  rw [Option.isSome_map] at q
  rw [<-q,<-l]
  exact h _ (I.tok _)
theorem d_write {h':Heap}{t':Nat}{ob:HO}(I:Inv X pins σ H s) (mu:Mut (H a)) (hs:Heap.SameBut a s.heap h') (he:∃q,h'.get? a=some q) (new:ObjOk X.prog X.w (upd H a ob) h' a ob) :
  Inv X pins σ (upd H a ob) { s with heap:=h',toks:=t' }:=
 I.write (x:=a) (e:=a) mu (.inl rfl) (fun b q hb z=>(hs.2 b hb).trans z) he new
theorem dk_new {P:Program}{w:World}{H':Hp}{h':Heap}{kvs:List (Key×V)}{vs:List (Key×Value)}(z:kvs.length<=sizeLine) (hd:(a==sysModules)=false) (rel:KV kvs vs) (dd:h'.DictOf (mixKind P w) a vs) :
  ObjOk P w H' h' a (.dK kvs):=⟨z,hd,vs,rel,dd⟩
theorem d_setItem {H':Hp}{Q:Unit->Shared->Prop}(hu:A.units+1 < cLine) (I:Inv X pins σ H s) (g:DPut H a y v H') (ry:RelV y u) (rv:RelV v r) (h:∀s',Inv X pins σ H' s'->Q () s') :
  wpAny (model X.prog X.w) A (setItem (.ref a) u r) Q E s:=by
 rcases g with ⟨kvs,k,e,ey,l,eH⟩ | ⟨kvs,k,b,e,ey,eb,l,eH⟩
 ·subst ey eH
  obtain ⟨z,hd,vs,rel,dd⟩:=dk_of I.hok e
  have hz:vs.length<=sizeLine:=by rw [<-rel.length];exact z
  have hl:(putK kvs k v).length<=sizeLine:=by have:=length_putK kvs k v;omega
  refine wpAny_setItem_pairs (hsz:=hz) (kV_is ry) dd fun h' dd' hs=>h _ ?_
  have he:∃q,h'.get? a=some q:=let ⟨q,_,_,hq,_⟩:=dd';⟨q,hq⟩
  exact d_write I (by rw [e];exact True.intro) hs he (dk_new hl hd (rel.put k rv) dd')
 ·subst ey eH
  cases (show u=Value.ref b from ry)
  obtain ⟨z,hd,xs,rel,dd⟩:=dt_of I.hok e
  have hz:xs.length<=sizeLine:=by rw [<-Paired.length rel];exact z
  have hl:(putK kvs k v).length<=sizeLine:=by have:=length_putK kvs k v;omega
  refine wpAny_setItem_heap (hsz:=hz) (tupleKind_room_in1 hu) (key_of I.hok eb) dd fun h' dd' hs=>h _ ?_
  obtain ⟨q,es,ep,hq,h2,h3,h4,_,h5⟩:=dd'
  refine d_write I (by rw [e];exact True.intro) hs ⟨q,hq⟩ ⟨hl,hd,_,(rel.put k eb rv).keeps fun c ys ec=>?_,q,es,ep,hq,h2,h3,h4,h5⟩
  rw [upd_ne (ne_of ec e (fun z=>nomatch z))]
  exact ec
end
section
variable {X:Cx}{pins:List (Addr×Obj)}{σ:St}{H:Hp}{s:Shared}{a:Addr}{kvs:List (Key×V)}{k:Key}{u:Value}{A:Around}{E:Value->Shared->Prop}
theorem d_len {Q:Value->Shared->Prop}(I:Inv X pins σ H s) (e:Rd H a (.dK kvs)) (h:∀t s',Inv X pins σ H s'->Q (.int kvs.length t) s'):wpAny (model X.prog X.w) A (call (.builtin "len") [.ref a]) Q E s:=by
 obtain ⟨z,hd,vs,rel,dd⟩:=dk_rd I.hok e
 refine call_len_dict hd dd (by rw [<-rel.length];rw [sizeLine_eq] at z;omega) ?_
 rw [<-rel.length]
 exact h _ _ (I.tok _)
end
theorem dict_typeIs {X:Cx}{pins:List (Addr×Obj)}{σ:St}{H:Hp}{s:Shared}{a:Addr}{y:V}{o:Option V}(I:Inv X pins σ H s) (g:DGet H a y o):s.TypeIs (.ref a) "dict" := by
 rcases g with ⟨kvs,k,e,_,_⟩ | ⟨kvs,k,b,e,_,_,_⟩
 ·obtain ⟨_,_,vs,_,dd⟩:=dk_rd I.hok e
  exact dd.typeIs
 ·obtain ⟨_,_,xs,_,dd⟩:=dt_rd I.hok e
  exact dd.typeIs
end L2
namespace L2
open PySem PySem.Spec PyProof.Rows
theorem bt_len:bootBuiltins "len" = some (.builtin "len"):=by decide +kernel
theorem bt_isinstance:bootBuiltins "isinstance" = some (.builtin "isinstance"):=by decide +kernel
theorem bt_all:bootBuiltins "all" = some (.builtin "all"):=by decide +kernel
theorem bt_abs:bootBuiltins "abs" = some (.builtin "abs"):=by decide +kernel
theorem bt_max:bootBuiltins "max" = some (.builtin "max"):=by decide +kernel
theorem bt_min:bootBuiltins "min" = some (.builtin "min"):=by decide +kernel
theorem bt_sorted:bootBuiltins "sorted" = some (.builtin "sorted"):=by decide +kernel
theorem bt_int:bootBuiltins "int" = some (.type "int"):=by decide +kernel
theorem bt_bool:bootBuiltins "bool" = some (.type "bool"):=by decide +kernel
theorem bt_str:bootBuiltins "str" = some (.type "str"):=by decide +kernel
theorem bt_tuple:bootBuiltins "tuple" = some (.type "tuple"):=by decide +kernel
theorem bt_reversed:bootBuiltins "reversed" = some (.type "reversed"):=by decide +kernel
inductive D where
 |non | bl (b:Bool) | int (i:Int) | str (x:Str) | lst (xs:List D) | tup (xs:List D)
mutual
noncomputable def Rep (K:PySem.W.Frag) (H:Hp):D->V->Prop
 |.non,v=>v=.non
 |.bl b,v=>v=.bl b
 |.int i,v=>v=.int i
 |.str x,v=>v=.str x
 |.lst ds,v=>∃a xs,v=.ref a/\SqL K H a xs/\Reps K H ds xs
 |.tup ds,v=>∃a xs,v=.ref a/\SqT K H a xs/\Reps K H ds xs
noncomputable def Reps (K:PySem.W.Frag) (H:Hp):List D->List V->Prop
 |[],vs=>vs=[]
 |d::ds,vs=>∃v r,vs=v::r/\Rep K H d v/\Reps K H ds r
end
mutual
noncomputable def eqD:D->D->Option Bool
 |.non,.non=>some true
 |.bl a,.bl b=>some (a==b)
 |.int a,.int b=>some (a==b)
 |.str a,.str b=>some (a==b)
 |.lst xs,.lst ys=>if xs.length=ys.length then eqDs xs ys else some false
 |.tup xs,.tup ys=>eqDs xs ys
 |_,_=>none
noncomputable def eqDs:List D->List D->Option Bool
 |[],[]=>some true
 |x::xs,y::ys=>match eqD x y,eqDs xs ys with
  |some a,some b=>some (a&&b)
  |_,_=>none
 |[],_::_=>some false
 |_::_,[]=>some false
end
mutual
noncomputable def depD:D->Nat
 |.lst xs=>depDs xs+1
 |.tup xs=>depDs xs+1
 |_=>0
noncomputable def depDs:List D->Nat
 |[]=>0
 |x::xs=>max (depD x) (depDs xs)
end
section
variable {K:PySem.W.Frag}{H H':Hp}
theorem Same.tup (e:Same H H') {a:Addr}{xs:List V}(h:SqT K H a xs):SqT K H' a xs:=by
 rcases h with (h | ⟨o,h⟩) | h
 ·exact .inl (.inl (e _ _ h))
 ·exact .inl (.inr ⟨o,e _ _ h⟩)
 ·exact .inr h
mutual
theorem Rep.same (e:Same H H'):∀{d:D}{v:V},Rep K H d v->Rep K H' d v
 |.non,_,h=>by unfold Rep at h ⊢;exact h
 |.bl _,_,h=>by unfold Rep at h ⊢;exact h
 |.int _,_,h=>by unfold Rep at h ⊢;exact h
 |.str _,_,h=>by unfold Rep at h ⊢;exact h
 |.lst ds,v,h=>by
  unfold Rep at h ⊢
  obtain ⟨a,xs,e1,h1,h2⟩:=h
  exact ⟨a,xs,e1,e.seq h1,Reps.same e h2⟩
 |.tup ds,v,h=>by
  unfold Rep at h ⊢
  obtain ⟨a,xs,e1,h1,h2⟩:=h
  exact ⟨a,xs,e1,e.tup h1,Reps.same e h2⟩
theorem Reps.same (e:Same H H'):∀{ds:List D}{vs:List V},Reps K H ds vs->Reps K H' ds vs
 |[],vs,h=>by unfold Reps at h ⊢;exact h
 |d::ds,vs,h=>by
  unfold Reps at h ⊢
  obtain ⟨v,r,e1,h1,h2⟩:=h
  exact ⟨v,r,e1,Rep.same e h1,Reps.same e h2⟩
end
theorem Reps.length:∀{ds:List D}{vs:List V},Reps K H ds vs->vs.length=ds.length
 |[],vs,h=>by unfold Reps at h;rw [h];rfl
 |d::ds,vs,h=>by
  unfold Reps at h
  obtain ⟨v,r,e1,_,h2⟩:=h
  rw [e1,List.length_cons,List.length_cons,Reps.length h2]
theorem Reps.get:∀{ds:List D}{vs:List V}{i:Nat}{v:V},Reps K H ds vs->vs[i]?=some v->∃d,ds[i]?=some d/\Rep K H d v
 |[],vs,i,v,h,e=>by unfold Reps at h;rw [h] at e;simp at e
 |d::ds,vs,i,v,h,e=>by
  unfold Reps at h
  obtain ⟨u,r,e1,h1,h2⟩:=h
  rw [e1] at e
  cases i with
  |zero=>simp at e;subst e;exact ⟨d,rfl,h1⟩
  |succ i=>obtain ⟨d',q1,q2⟩:=Reps.get (i:=i) h2 (by simpa using e);exact ⟨d',by simpa using q1,q2⟩
end
section
variable {X:Cx}{pins:List (Addr×Obj)}{σ:St}{H:Hp}{s:Shared}
theorem Inv.not_both (I:Inv X pins σ H s) {a:Addr}{xs ys:List V}(h:SqL X.K H a xs) (h':SqT X.K H a ys):False:=by
 obtain ⟨its,_,⟨o,n,e,c,_,_⟩,_⟩:=I.list h
 obtain ⟨its',_,⟨o',e',c',_⟩,_⟩:=I.tuple h'
 rw [e] at e';cases e'
 rw [c] at c'
 injection c' with z
 exact absurd z (by decide)
mutual
theorem Inv.rep_inj (I:Inv X pins σ H s):∀{d d':D}{v:V},Rep X.K H d v->Rep X.K H d' v->d=d'
 |.non,d',v,h,h'=>by
  unfold Rep at h;subst h
  cases d' with
  |non=>rfl
  |lst _=>unfold Rep at h';obtain ⟨_,_,z,_⟩:=h';cases z
  |tup _=>unfold Rep at h';obtain ⟨_,_,z,_⟩:=h';cases z
  |_=>unfold Rep at h';cases h'
 |.bl b,d',v,h,h'=>by
  unfold Rep at h;subst h
  cases d' with
  |bl _=>unfold Rep at h';cases h';rfl
  |lst _=>unfold Rep at h';obtain ⟨_,_,z,_⟩:=h';cases z
  |tup _=>unfold Rep at h';obtain ⟨_,_,z,_⟩:=h';cases z
  |_=>unfold Rep at h';cases h'
 |.int b,d',v,h,h'=>by
  unfold Rep at h;subst h
  cases d' with
  |int _=>unfold Rep at h';cases h';rfl
  |lst _=>unfold Rep at h';obtain ⟨_,_,z,_⟩:=h';cases z
  |tup _=>unfold Rep at h';obtain ⟨_,_,z,_⟩:=h';cases z
  |_=>unfold Rep at h';cases h'
 |.str b,d',v,h,h'=>by
  unfold Rep at h;subst h
  cases d' with
  |str _=>unfold Rep at h';cases h';rfl
  |lst _=>unfold Rep at h';obtain ⟨_,_,z,_⟩:=h';cases z
  |tup _=>unfold Rep at h';obtain ⟨_,_,z,_⟩:=h';cases z
  |_=>unfold Rep at h';cases h'
 |.lst ds,d',v,h,h'=>by
  unfold Rep at h
  obtain ⟨a,xs,rfl,h1,h2⟩:=h
  cases d' with
  |lst ds'=>
   unfold Rep at h'
   obtain ⟨b,ys,e,h1',h2'⟩:=h'
   cases e
   rw [I.list_inj h1 h1'] at h2
   rw [Inv.reps_inj I h2 h2']
  |tup ds'=>
   unfold Rep at h'
   obtain ⟨b,ys,e,h1',h2'⟩:=h'
   cases e
   exact (I.not_both h1 h1').elim
  |_=>unfold Rep at h';cases h'
 |.tup ds,d',v,h,h'=>by
  unfold Rep at h
  obtain ⟨a,xs,rfl,h1,h2⟩:=h
  cases d' with
  |tup ds'=>
   unfold Rep at h'
   obtain ⟨b,ys,e,h1',h2'⟩:=h'
   cases e
   rw [I.tuple_inj h1 h1'] at h2
   rw [Inv.reps_inj I h2 h2']
  |lst ds'=>
   unfold Rep at h'
   obtain ⟨b,ys,e,h1',h2'⟩:=h'
   cases e
   exact (I.not_both h1' h1).elim
  |_=>unfold Rep at h';cases h'
theorem Inv.reps_inj (I:Inv X pins σ H s):∀{ds ds':List D}{vs:List V},Reps X.K H ds vs->Reps X.K H ds' vs->ds=ds'
 |[],ds',vs,h,h'=>by
  unfold Reps at h;subst h
  cases ds' with
  |nil=>rfl
  |cons _ _=>unfold Reps at h';obtain ⟨_,_,z,_⟩:=h';cases z
 |d::ds,ds',vs,h,h'=>by
  unfold Reps at h
  obtain ⟨v,r,rfl,h1,h2⟩:=h
  cases ds' with
  |nil=>unfold Reps at h';cases h'
  |cons d' ds'=>
   unfold Reps at h'
   obtain ⟨v',r',e,h1',h2'⟩:=h'
   cases e
   rw [Inv.rep_inj I h1 h1',Inv.reps_inj I h2 h2']
end
mutual
theorem eqD_self:∀{d:D}{b:Bool},eqD d d=some b->b=true
 |.non,b,h=>by unfold eqD at h;cases h;rfl
 |.bl a,b,h=>by unfold eqD at h;rw [beq_self_eq_true] at h;cases h;rfl
 |.int a,b,h=>by unfold eqD at h;rw [beq_self_eq_true] at h;cases h;rfl
 |.str a,b,h=>by unfold eqD at h;rw [beq_self_eq_true] at h;cases h;rfl
 |.lst xs,b,h=>by unfold eqD at h;rw [if_pos rfl] at h;exact eqDs_self h
 |.tup xs,b,h=>by unfold eqD at h;exact eqDs_self h
theorem eqDs_self:∀{ds:List D}{b:Bool},eqDs ds ds=some b->b=true
 |[],b,h=>by unfold eqDs at h;cases h;rfl
 |d::ds,b,h=>by
  unfold eqDs at h
  cases h1:eqD d d with
  |none=>rw [h1] at h;cases h
  |some x=>
   cases h2:eqDs ds ds with
   |none=>rw [h1,h2] at h;cases h
   |some y=>
    rw [h1,h2] at h
    have z1:=eqD_self h1
    have z2:=eqDs_self h2
    subst z1 z2
    cases h;rfl
end
theorem eqDs_places:∀{xs ys:List D}{b:Bool},eqDs xs ys=some b->∃e:Nat->Bool,(∀(j:Nat) x y,xs[j]?=some x->ys[j]?=some y->eqD x y=some (e j))/\b=((List.range (min xs.length ys.length)).all e&&xs.length==ys.length)
 |[],[],b,h=>by unfold eqDs at h;cases h;exact ⟨fun _=>true,fun j x y q=>by simp at q,rfl⟩
 |[],y::ys,b,h=>by unfold eqDs at h;cases h;exact ⟨fun _=>true,fun j x y q=>by simp at q,by simp⟩
 |x::xs,[],b,h=>by unfold eqDs at h;cases h;exact ⟨fun _=>true,fun j x y _ q=>by simp at q,by simp⟩
 |x::xs,y::ys,b,h=>by
  unfold eqDs at h
  cases h1:eqD x y with
  |none=>rw [h1] at h;cases h
  |some p=>
   cases h2:eqDs xs ys with
   |none=>rw [h1,h2] at h;cases h
   |some q=>
    rw [h1,h2] at h
    have hb:b=(p&&q):=(Option.some.inj h).symm
    obtain ⟨e,he,hq⟩:=eqDs_places h2
    refine ⟨fun j=>if j=0 then p else e (j-1),fun j x' y' q1 q2=>?_,?_⟩
    ·cases j with
     |zero=>simp at q1 q2;subst q1 q2;simpa using h1
     |succ j=>simp at q1 q2;simpa using he j x' y' q1 q2
    ·rw [hb,hq]
     have hm:min (x::xs).length (y::ys).length=min xs.length ys.length+1:=by simp only [List.length_cons];omega
     rw [hm,List.range_succ_eq_map,List.all_cons,List.all_map]
     have h0:(fun j=>if j=0 then p else e (j-1)) 0=p:=rfl
     rw [show ((fun j=>if j=0 then p else e (j-1)) ∘ Nat.succ)=e from funext fun j=>by simp]
     simp only [List.length_cons,if_true]
     rw [Bool.and_assoc]
     congr 2
     by_cases hl:xs.length=ys.length<;>simp [hl]
theorem depDs_get:∀{xs:List D}{j:Nat}{x:D},xs[j]?=some x->depD x<=depDs xs
 |[],j,x,h=>by simp at h
 |y::ys,0,x,h=>by simp at h;subst h;unfold depDs;omega
 |y::ys,j+1,x,h=>by have:=depDs_get (j:=j) (by simpa using h);unfold depDs;omega
theorem Vals.at {xs:List V}{its:List Value}(r:Vals xs its) {j:Nat}(h:j < its.length):∃v,xs[j]?=some v/\RelV v its[j]:=by
 have hl:=r.length
 have hj:j < xs.length:=by omega
 obtain ⟨u,hu,ru⟩:=r.get (List.getElem?_eq_getElem hj)
 rw [List.getElem?_eq_getElem h] at hu
 cases hu
 exact ⟨_,List.getElem?_eq_getElem hj,ru⟩
theorem eqAt_rep (I:Inv X pins σ H s):∀(n:Nat) (A:Around) (d d':D) (v v':V) (u u':Value) (b:Bool),depD d<=n->A.units+n < cLine->Rep X.K H d v->Rep X.K H d' v'->RelV v u->RelV v' u'->eqD d d'=some b->SeqAt.EqAt A s u u' b:=by
 intro n
 induction n with
 |zero=>
  intro A d d' v v' u u' b hn hu h h' r r' e
  cases d with
  |lst _=>unfold depD at hn;omega
  |tup _=>unfold depD at hn;omega
  |non=>
   cases d' with
   |non=>unfold Rep at h h';subst h h';cases r;cases r';unfold eqD at e;cases e;exact SeqAt.EqAt.same _
   |_=>unfold eqD at e;cases e
  |bl x=>
   cases d' with
   |bl y=>
    unfold Rep at h h';subst h h';unfold eqD at e;cases e
    have q:=eqAt_V (A:=A) (s:=s) r r' rfl rfl
    simpa [eqV] using q
   |_=>unfold eqD at e;cases e
  |int x=>
   cases d' with
   |int y=>
    unfold Rep at h h';subst h h';unfold eqD at e;cases e
    have q:=eqAt_V (A:=A) (s:=s) r r' rfl rfl
    simpa [eqV] using q
   |_=>unfold eqD at e;cases e
  |str x=>
   cases d' with
   |str y=>
    unfold Rep at h h';subst h h';unfold eqD at e;cases e
    have q:=eqAt_V (A:=A) (s:=s) r r' rfl rfl
    simpa [eqV] using q
   |_=>unfold eqD at e;cases e
 |succ n ih=>
  intro A d d' v v' u u' b hn hu h h' r r' e
  cases d with
  |non=>
   cases d' with
   |non=>unfold Rep at h h';subst h h';cases r;cases r';unfold eqD at e;cases e;exact SeqAt.EqAt.same _
   |_=>unfold eqD at e;cases e
  |bl x=>
   cases d' with
   |bl y=>
    unfold Rep at h h';subst h h';unfold eqD at e;cases e
    have q:=eqAt_V (A:=A) (s:=s) r r' rfl rfl
    simpa [eqV] using q
   |_=>unfold eqD at e;cases e
  |int x=>
   cases d' with
   |int y=>
    unfold Rep at h h';subst h h';unfold eqD at e;cases e
    have q:=eqAt_V (A:=A) (s:=s) r r' rfl rfl
    simpa [eqV] using q
   |_=>unfold eqD at e;cases e
  |str x=>
   cases d' with
   |str y=>
    unfold Rep at h h';subst h h';unfold eqD at e;cases e
    have q:=eqAt_V (A:=A) (s:=s) r r' rfl rfl
    simpa [eqV] using q
   |_=>unfold eqD at e;cases e
  |lst xs=>
   cases d' with
   |lst ys=>
    have hh:=h
    have hh':=h'
    unfold Rep at h h'
    obtain ⟨a,vs,rfl,h1,h2⟩:=h
    obtain ⟨a',vs',rfl,h1',h2'⟩:=h'
    cases r
    cases r'
    by_cases hne:a=a'
    ·subst hne
     have z:=I.rep_inj hh hh'
     rw [<-z] at e
     rw [eqD_self e]
     exact SeqAt.EqAt.same _
    ·obtain ⟨its,rv,p,hz⟩:=I.list h1
     obtain ⟨its',rv',p',hz'⟩:=I.list h1'
     have l1:=rv.length
     have l2:=rv'.length
     have l3:=h2.length
     have l4:=h2'.length
     refine SeqAt.EqAt.of_refs hne ?_
     unfold eqD at e
     by_cases hl:xs.length=ys.length
     ·rw [if_pos hl] at e
      obtain ⟨ef,he,hb⟩:=eqDs_places e
      have q:=SeqAt.RcAt.lists (A:=A) (s:=s) (e:=ef) p.isList p'.isList (by simp;omega) (by omega) fun j g1 g2=>by
       have g1':j < its.length:=by simpa using g1
       have g2':j < its'.length:=by simpa using g2
       obtain ⟨y,hy,ry⟩:=rv.at g1'
       obtain ⟨y',hy',ry'⟩:=rv'.at g2'
       obtain ⟨dd,hd,rd⟩:=h2.get hy
       obtain ⟨dd',hd',rd'⟩:=h2'.get hy'
       have dp:=depDs_get hd
       unfold depD at hn
       exact ih A.in1 dd dd' y y' _ _ (ef j) (by omega) (by show A.units+1+n < cLine;omega) rd rd' (by simpa using ry) (by simpa using ry') (he j dd dd' hd hd')
      have eb:b=(List.range its.toArray.size).all ef:=by
       rw [hb,hl,Nat.min_self]
       simp only [beq_self_eq_true,Bool.and_true,List.size_toArray]
       rw [<-l1,l3,hl]
      rw [eb];exact q
     ·rw [if_neg hl] at e
      cases e
      exact SeqAt.RcAt.lists_lengths p.isList p'.isList (by simp only [List.size_toArray,bne_iff_ne,ne_eq];omega) (by omega)
   |_=>unfold eqD at e;cases e
  |tup xs=>
   cases d' with
   |tup ys=>
    have hh:=h
    have hh':=h'
    unfold Rep at h h'
    obtain ⟨a,vs,rfl,h1,h2⟩:=h
    obtain ⟨a',vs',rfl,h1',h2'⟩:=h'
    cases r
    cases r'
    by_cases hne:a=a'
    ·subst hne
     have z:=I.rep_inj hh hh'
     rw [<-z] at e
     rw [eqD_self e]
     exact SeqAt.EqAt.same _
    ·obtain ⟨its,rv,p,hz⟩:=I.tuple h1
     obtain ⟨its',rv',p',hz'⟩:=I.tuple h1'
     have l1:=rv.length
     have l2:=rv'.length
     have l3:=h2.length
     have l4:=h2'.length
     refine SeqAt.EqAt.of_refs hne ?_
     unfold eqD at e
     obtain ⟨ef,he,hb⟩:=eqDs_places e
     have q:=SeqAt.RcAt.tuples (A:=A) (s:=s) (e:=ef) (show s.heap.IsTuple a its.toArray from p) (show s.heap.IsTuple a' its'.toArray from p') (by omega) fun j g1 g2=>by
       have g1':j < its.length:=by simpa using g1
       have g2':j < its'.length:=by simpa using g2
       obtain ⟨y,hy,ry⟩:=rv.at g1'
       obtain ⟨y',hy',ry'⟩:=rv'.at g2'
       obtain ⟨dd,hd,rd⟩:=h2.get hy
       obtain ⟨dd',hd',rd'⟩:=h2'.get hy'
       have dp:=depDs_get hd
       unfold depD at hn
       exact ih A.in1 dd dd' y y' _ _ (ef j) (by omega) (by show A.units+1+n < cLine;omega) rd rd' (by simpa using ry) (by simpa using ry') (he j dd dd' hd hd')
     have eb:b=((List.range (min its.toArray.size its'.toArray.size)).all ef&&its.toArray.size==its'.toArray.size):=by
      rw [hb,List.size_toArray,List.size_toArray,<-l1,<-l2,l3,l4]
     rw [eb];exact q
   |_=>unfold eqD at e;cases e
end
section
variable {X:Cx}
noncomputable def rEqD (K:PySem.W.Frag) (neg:Bool):R2:=fun x y H Q=>∃d d' b,Rep K H d x/\Rep K H d' y/\depD d<=50/\eqD d d'=some b/\Q (.bl (if neg then !b else b)) H
end
end L2
namespace L2
open PySem PySem.Spec PyProof.Rows
section
variable {X:Cx}{pins:List (Addr×Obj)}{σ:St}{H:Hp}{s:Shared}
theorem items_eq (I:Inv X pins σ H s) {n:Nat}{A:Around}{xs ys:List D}{vs vs':List V}{its its':List Value}{b:Bool}(hn:depDs xs<=n) (hu:A.units+n < cLine) (h2:Reps X.K H xs vs) (h2':Reps X.K H ys vs') (rv:Vals vs its) (rv':Vals vs' its')
  (e:eqDs xs ys=some b):∃ef:Nat->Bool,(∀(j:Nat) (h1:j < its.toArray.size) (h2:j < its'.toArray.size),SeqAt.EqAt A s its.toArray[j] its'.toArray[j] (ef j))/\b=((List.range (min its.toArray.size its'.toArray.size)).all ef&&its.toArray.size==its'.toArray.size):=by
 have l1:=rv.length
 have l2:=rv'.length
 have l3:=h2.length
 have l4:=h2'.length
 obtain ⟨ef,he,hb⟩:=eqDs_places e
 refine ⟨ef,fun j g1 g2=>?_,?_⟩
 ·have g1':j < its.length:=by simpa using g1
  have g2':j < its'.length:=by simpa using g2
  obtain ⟨y,hy,ry⟩:=rv.at g1'
  obtain ⟨y',hy',ry'⟩:=rv'.at g2'
  obtain ⟨dd,hd,rd⟩:=h2.get hy
  obtain ⟨dd',hd',rd'⟩:=h2'.get hy'
  have dp:=depDs_get hd
  exact eqAt_rep I n A dd dd' y y' _ _ (ef j) (by omega) hu rd rd' (by simpa using ry) (by simpa using ry') (he j dd dd' hd hd')
 ·rw [hb,List.size_toArray,List.size_toArray,<-l1,<-l2,l3,l4]
theorem op_eqD (hu:X.A.units+60 < cLine):OpR X (compareOp .Eq) (rEqD X.K false):=by
 intro pins s σ H x y v u Q I rx ry h
 obtain ⟨d,d',b,h,h',hd,e,q⟩:=h
 have fin:EP X pins σ Q (.bool b) s:=⟨.bl b,H,I,rfl,q⟩
 cases d with
 |lst xs=>
  cases d' with
  |lst ys=>
   unfold Rep at h h'
   obtain ⟨a,vs,rfl,h1,h2⟩:=h
   obtain ⟨a',vs',rfl,h1',h2'⟩:=h'
   cases rx
   cases ry
   obtain ⟨its,rv,p,hz⟩:=I.list h1
   obtain ⟨its',rv',p',hz'⟩:=I.list h1'
   have l1:=rv.length
   have l2:=rv'.length
   have l3:=h2.length
   have l4:=h2'.length
   unfold eqD at e
   by_cases hl:xs.length=ys.length
   ·rw [if_pos hl] at e
    unfold depD at hd
    obtain ⟨ef,he,hb⟩:=items_eq (n:=50) (A:=X.A.in1) I (by omega) (by show X.A.units+1+50 < cLine;omega) h2 h2' rv rv' e
    refine SeqAt.eq_listAt p.isList p'.isList (by simp;omega) (by omega) he ?_
    have hs:its.toArray.size=its'.toArray.size:=by simp;omega
    rw [hs,Nat.min_self] at hb
    simp only [beq_self_eq_true,Bool.and_true] at hb
    rw [hs,<-hb]
    exact fin
   ·rw [if_neg hl] at e
    cases e
    exact SeqAt.eq_list_lengthsAt p.isList p'.isList (by simp only [List.size_toArray,bne_iff_ne,ne_eq];omega) (by omega) fin
  |_=>unfold eqD at e;cases e
 |tup xs=>
  cases d' with
  |tup ys=>
   unfold Rep at h h'
   obtain ⟨a,vs,rfl,h1,h2⟩:=h
   obtain ⟨a',vs',rfl,h1',h2'⟩:=h'
   cases rx
   cases ry
   obtain ⟨its,rv,p,hz⟩:=I.tuple h1
   obtain ⟨its',rv',p',hz'⟩:=I.tuple h1'
   unfold eqD at e
   unfold depD at hd
   obtain ⟨ef,he,hb⟩:=items_eq (n:=50) (A:=X.A.in1) I (by omega) (by show X.A.units+1+50 < cLine;omega) h2 h2' rv rv' e
   refine SeqAt.eq_tupleAt (show s.heap.IsTuple a its.toArray from p) (show s.heap.IsTuple a' its'.toArray from p') (by omega) he ?_
   rw [<-hb]
   exact fin
  |_=>unfold eqD at e;cases e
 |non=>
  cases d' with
  |non=>
   unfold Rep at h h';subst h h';unfold eqD at e;cases e
   exact op_eq pins s σ H .non .non v u Q I rx ry ⟨rfl,by simpa using q⟩
  |_=>unfold eqD at e;cases e
 |bl i=>
  cases d' with
  |bl j=>
   unfold Rep at h h';subst h h';unfold eqD at e;cases e
   exact op_eq pins s σ H (.bl i) (.bl j) v u Q I rx ry ⟨rfl,by rw [dec_bl];exact q⟩
  |_=>unfold eqD at e;cases e
 |int i=>
  cases d' with
  |int j=>
   unfold Rep at h h';subst h h';unfold eqD at e;cases e
   exact op_eq pins s σ H (.int i) (.int j) v u Q I rx ry ⟨rfl,by rw [dec_int];exact q⟩
  |_=>unfold eqD at e;cases e
 |str i=>
  cases d' with
  |str j=>
   unfold Rep at h h';subst h h';unfold eqD at e;cases e
   exact op_eq pins s σ H (.str i) (.str j) v u Q I rx ry ⟨rfl,by rw [dec_str];exact q⟩
  |_=>unfold eqD at e;cases e
theorem op_neD (hu:X.A.units+60 < cLine):OpR X (compareOp .NotEq) (rEqD X.K true):=by
 intro pins s σ H x y v u Q I rx ry h
 obtain ⟨d,d',b,h,h',hd,e,q⟩:=h
 have fin:EP X pins σ Q (.bool (!b)) s:=⟨.bl (!b),H,I,rfl,q⟩
 cases d with
 |lst xs=>
  cases d' with
  |lst ys=>
   unfold Rep at h h'
   obtain ⟨a,vs,rfl,h1,h2⟩:=h
   obtain ⟨a',vs',rfl,h1',h2'⟩:=h'
   cases rx
   cases ry
   obtain ⟨its,rv,p,hz⟩:=I.list h1
   obtain ⟨its',rv',p',hz'⟩:=I.list h1'
   have l1:=rv.length
   have l2:=rv'.length
   have l3:=h2.length
   have l4:=h2'.length
   unfold eqD at e
   by_cases hl:xs.length=ys.length
   ·rw [if_pos hl] at e
    unfold depD at hd
    obtain ⟨ef,he,hb⟩:=items_eq (n:=50) (A:=X.A.in1) I (by omega) (by show X.A.units+1+50 < cLine;omega) h2 h2' rv rv' e
    refine SeqAt.RcNeAt.lists p.isList p'.isList (by simp;omega) (by omega) he _ _ _ _ ?_
    have hs:its.toArray.size=its'.toArray.size:=by simp;omega
    rw [hs,Nat.min_self] at hb
    simp only [beq_self_eq_true,Bool.and_true] at hb
    rw [hs,<-hb]
    exact fin
   ·rw [if_neg hl] at e
    cases e
    exact SeqAt.RcNeAt.lists_lengths p.isList p'.isList (by simp only [List.size_toArray,bne_iff_ne,ne_eq];omega) (by omega) _ _ _ _ fin
  |_=>unfold eqD at e;cases e
 |tup xs=>
  cases d' with
  |tup ys=>
   unfold Rep at h h'
   obtain ⟨a,vs,rfl,h1,h2⟩:=h
   obtain ⟨a',vs',rfl,h1',h2'⟩:=h'
   cases rx
   cases ry
   obtain ⟨its,rv,p,hz⟩:=I.tuple h1
   obtain ⟨its',rv',p',hz'⟩:=I.tuple h1'
   unfold eqD at e
   unfold depD at hd
   obtain ⟨ef,he,hb⟩:=items_eq (n:=50) (A:=X.A.in1) I (by omega) (by show X.A.units+1+50 < cLine;omega) h2 h2' rv rv' e
   refine SeqAt.RcNeAt.tuples (show s.heap.IsTuple a its.toArray from p) (show s.heap.IsTuple a' its'.toArray from p') (by omega) he _ _ _ _ ?_
   rw [<-hb]
   exact fin
  |_=>unfold eqD at e;cases e
 |non=>
  cases d' with
  |non=>
   unfold Rep at h h';subst h h';unfold eqD at e;cases e
   exact op_ne pins s σ H .non .non v u Q I rx ry ⟨rfl,by simpa using q⟩
  |_=>unfold eqD at e;cases e
 |bl i=>
  cases d' with
  |bl j=>
   unfold Rep at h h';subst h h';unfold eqD at e;cases e
   exact op_ne pins s σ H (.bl i) (.bl j) v u Q I rx ry ⟨rfl,by rw [dec_bl];exact q⟩
  |_=>unfold eqD at e;cases e
 |int i=>
  cases d' with
  |int j=>
   unfold Rep at h h';subst h h';unfold eqD at e;cases e
   exact op_ne pins s σ H (.int i) (.int j) v u Q I rx ry ⟨rfl,by rw [dec_int];exact q⟩
  |_=>unfold eqD at e;cases e
 |str i=>
  cases d' with
  |str j=>
   unfold Rep at h h';subst h h';unfold eqD at e;cases e
   exact op_ne pins s σ H (.str i) (.str j) v u Q I rx ry ⟨rfl,by rw [dec_str];exact q⟩
  |_=>unfold eqD at e;cases e
end
section
variable {X:Cx}{tg:Expr}
theorem hu60 {A:Around}{k:Nat}(hr:Room k A):A.units+60 < cLine:=Nat.lt_of_le_of_lt (Nat.add_le_add_left (by decide:60<=64) _) hr.units
end
end L2
namespace L2
open PySem PySem.Spec PyProof.Rows
noncomputable def noStar:Expr->Bool
 |.Starred ..=>false
 |_=>true
theorem star_cons {e:Expr}{es:List Expr}{env:Env}(h:noStar e=true):starEach (e::es) env=(false,eval e env)::starEach es env:=by
 cases e<;>first | rfl | cases h
theorem pac {X:Cx}{e:Expr}{es:List Expr}{te:TE}{t:TA}(ha:PE X e te) (hr:PA X es t) (hs:noStar e=true:=by rfl):PA X (e::es) (tCons te t):=pa_cons ha hr (star_cons hs)
theorem pssc {X:Cx}{b:List Stmt}{st:Stmt}{rest:List Stmt}(e:b=st::rest) {t u:TS}(h1:PS X st t) (h2:PSs X rest u):PSs X b (tSeq t u):=by rw [e];exact pss_cons h1 h2
theorem psso {X:Cx}{b:List Stmt}{st:Stmt}(e:b=[st]) {t:TS}(h1:PS X st t):PSs X b t:=by rw [e];exact pss_one h1
end L2
namespace MX
open PySem PyProof.Rows
section
variable {prog:Program}{w:World}{A:Around}{E:Value->Shared->Prop}{s:Shared}
theorem sort1 {a:Addr}{xs:Array Value}{n:Nat}{Q:PySem.Fin->Shared->Prop}(h2:xs.size < 2) (ho:s.heap.get? a=some { cls:=.type "list", data:=.seq xs n })
  (h:∀h' e,(∀b o,b≠a->s.heap.get? b=some o->h'.get? b=some o)->h'.get? a=some { cls:=.type "list", data:=.seq xs e }->Q (.done (.ret .none)) { s with heap:=h' }) :
  wpAny (model prog w) A (Builtin.«list.sort» ⟨[.ref a],[]⟩) Q E s:=by
 rw [list_sort_plain]
 wp_walk using AutoSeq1.wpAny_loadPart' ho
 have zl:¬xs.toList.toArray.size > sizeLine:=by rw [sizeLine_eq];simp;omega
 rw [if_neg zl]
 wp_walk
 rw [if_pos h2]
 refine wpAny_pure ?_
 have o2:(((s.heap.update a (Obj.mapSeq fun _=>(#[]:Array Value))).push { cls:=.type "tuple", data:=.seq xs.toList.toArray }).push { cls:=.type "list", data:=.seq #[] }).get? a=some { cls:=.type "list", data:=.seq #[] (if ((#[]:Array Value).size==xs.size)=true then n else n+1) }:=
  Heap.get?_push_of_some _ (Heap.get?_push_of_some _ (Heap.get?_update_self _ ho rfl))
 have em:(xs.zip xs).map (·.2)=xs:=by
  apply Array.ext
  ·simp
  ·intro i h1 h2;simp
 have ea:(arrOf (SortSt.mk' general' (xs.zip xs) #[] 7 none)).map (·.2)=xs:=em
 refine wpAny_bind (m:=seqEpoch a) (seqEpoch_at o2 rfl (wpAny_bind (m:=updateSeq a _) (wpAny_updateSeq o2 rfl ?_ (_hz':=by rw [ea,sizeLine_eq];omega))))
 have ne:((if ((#[]:Array Value).size==xs.size)=true then n else n+1) != if ((#[]:Array Value).size==xs.size)=true then n else n+1)=false:=bne_self_eq_false _
 rw [ea]
 show wpAny _ _ (if (_ != _)=true then _ else ret Value.none) _ _ _
 rw [if_neg (by rw [ne];decide)]
 refine wpAny_pure (h _ _ (fun b o hb e=>(Heap.get?_update_other _ _ (Ne.symm hb)).trans (Heap.get?_push_of_some _ (Heap.get?_push_of_some _ ((Heap.get?_update_other _ _ (Ne.symm hb)).trans e)))) (Heap.get?_update_self _ o2 rfl))
theorem sorted1 {l:Addr}{vs:List Value}{Q:Value->Shared->Prop}(hl:s.heap.IsList l vs.toArray) (h2:vs.length < 2)
  (h:∀h' e,(∀b o,s.heap.get? b=some o->h'.get? b=some o)->h'.get? (s.heap.objs.size+1)=some { cls:=.type "list", data:=.seq vs.toArray e }->Q (.ref (s.heap.objs.size+1)) { s with heap:=h' }) :
  wpAny (model prog w) A (call (.builtin "sorted") [.ref l]) Q E s:=by
 have zl:vs.length<=sizeLine:=by rw [sizeLine_eq];omega
 have z1:((s.heap.push (seqObj "list" #[] 0)).update s.heap.objs.size (Obj.mapSeq (·++vs.toArray))).objs.size=s.heap.objs.size+1:=(Heap.size_update ..).trans (Heap.size_push ..)
 have old:∀b o,s.heap.get? b=some o->((s.heap.push (seqObj "list" #[] 0)).update s.heap.objs.size (Obj.mapSeq (·++vs.toArray))).get? b=some o:=fun b o e=>(Heap.get?_update_other _ _ (Ne.symm (Nat.ne_of_lt (Heap.lt_size e)))).trans (Heap.get?_push_of_some _ e)
 refine Calls.call_function_entry kind_sorted plain_sorted entry_sorted (args_sorted1 _) (wpAny_bind (m:=checkCount "sorted" 1 1 _) (wpAny_pure (wpAny_bind (collect_list hl (wpAny_bind (wpAny_newList ?_ zl)) zl))))
 have o1:=Heap.get?_push_size ((s.heap.push (seqObj "list" #[] 0)).update s.heap.objs.size (Obj.mapSeq (·++vs.toArray))) (o:=seqObj "list" vs.toArray 0) rfl
 refine wpAny_bind (wpAny_holding (wpAny_call_entry slot_list_sort ⟨_,o1,rfl⟩ entry_list_sort (sort1 (by rw [List.size_toArray];exact h2) o1 fun h' e k q=>⟨_,rfl,wpAny_pure ⟨_,rfl,?_⟩⟩) (args_list_sort _)))
 show Q (.ref ((s.heap.push (seqObj "list" #[] 0)).update s.heap.objs.size (Obj.mapSeq (·++vs.toArray))).objs.size) { s with heap:=h' }
 have q':h'.get? ((s.heap.push (seqObj "list" #[] 0)).update s.heap.objs.size (Obj.mapSeq (·++vs.toArray))).objs.size=some { cls:=.type "list", data:=.seq vs.toArray e }:=q
 rw [z1] at q' ⊢
 exact h h' e (fun b o z=>k b o (by rw [show ((s.heap.push (seqObj "list" #[] 0)).update s.heap.objs.size (Obj.mapSeq (·++vs.toArray))).objs.size=s.heap.objs.size+1 from z1];exact Nat.ne_of_lt (Nat.lt_succ_of_lt (Heap.lt_size z))) (Heap.get?_push_of_some _ (old b o z))) q'
end
end MX
namespace L2
open PySem PySem.Spec PySem.W PyProof.Rows
section
variable {X:Cx}{pins:List (Addr×Obj)}{σ:St}{H:Hp}{s:Shared}
theorem ObjOk.there {P:Program}{w:World}{h:Heap}{a:Addr}{o:HO}(x:ObjOk P w H h a o):∃ob,h.get? a=some ob:=by
 induction o with
 |lst xs=>obtain ⟨_,_,_,_,e⟩:=x;exact ⟨_,e⟩
 |tup xs=>obtain ⟨_,_,_,ob,e,_⟩:=x;exact ⟨_,e⟩
 |dK kvs=>obtain ⟨_,_,_,_,o,_,_,e,_⟩:=x;exact ⟨_,e⟩
 |dT kvs=>obtain ⟨_,_,_,_,o,_,_,e,_⟩:=x;exact ⟨_,e⟩
 |set S n=>obtain ⟨o,_,_,_,e,_⟩:=x;exact ⟨_,e⟩
 |ins C dx fs=>obtain ⟨_,_,_,e,_⟩:=x;exact ⟨_,e⟩
 |own y=>exact x
 |xd fs=>obtain ⟨_,⟨_,_,_,e,_⟩,_⟩:=x;exact ⟨_,e⟩
 |rng lo hi=>obtain ⟨_,_,_,e⟩:=x;exact ⟨_,e⟩
 |frz ob u=>obtain ⟨e,_⟩:=x;exact ⟨_,e⟩
 |tbl ps=>exact ⟨_,(show h.get? a=some _ from x)⟩
 |met f y=>exact ⟨_,(show h.get? a=some _ from x)⟩
 |ext φ=>obtain ⟨_,e,_⟩:=x;exact e
theorem Inv.lay (I:Inv X pins σ H s) {D:Addr}{ys:List V}{its:List Value}{h':Heap}{n:Nat}(hD:s.heap.get? D=none) (kp:∀b o,b≠X.env.locals->s.heap.get? b=some o->h'.get? b=some o) (ns:∀m,s.heap.Ns X.env.locals m->h'.Ns X.env.locals m)
  (he:h'.get? D=some { cls:=.type "list", data:=.seq its.toArray n }) (hv:Vals ys its) (hz:ys.length<=sizeLine):Inv X pins σ (upd H D (.lst ys)) { s with heap:=h' }/\H D=none:=by
 have hn:H D=none:=by
  cases q:H D with
  |none=>rfl
  |some o=>obtain ⟨ob,e⟩:=(I.hok D o q).there;rw [hD] at e;cases e
 have hL:H X.env.locals=none:=I.free
 have ne:∀b u,H b=some u->b≠X.env.locals:=fun b u e z=>by rw [z,hL] at e;cases e
 refine ⟨I.step (g':=s.gens) (d':=s.drawn) (t':=s.toks) (ch:=[]) (fun b hb=>absurd hb (by simp)) (fun b o hb _ _ e _=>kp b o hb e) (fun b o hb _ _ e _=>⟨o.slots,kp b o hb e⟩) (fun b o _ e n=>?_) (fun b o _ e=>?_) (fun b xs e=>?_) (fun b o u e=>?_) (fun b ps e=>?_) ns (fun b u e=>?_) I.bare,hn⟩
 ·by_cases z:b=D
  ·subst z;rw [hD] at e;cases e
  ·rw [upd_ne z];exact n
 ·by_cases z:b=X.env.locals
  ·obtain ⟨m,hm,_⟩:=I.loc
   obtain ⟨o',_,_,e',_⟩:=ns m hm
   exact ⟨o',by rw [z];exact e'⟩
  ·exact ⟨o,kp b o z e⟩
 ·rw [upd_ne (ne_of_none e hn)];exact e
 ·rw [upd_ne (ne_of_none e hn)];exact e
 ·exact ⟨#[],by rw [upd_ne (ne_of_none e hn),e];simp⟩
 ·by_cases z:b=D
  ·subst z;rw [upd_same] at e;cases e
   exact ⟨hz,its,n,hv,he⟩
  ·rw [upd_ne z] at e
   refine (I.hok b u e).stay (fun c v hc q=>?_) (fun c q=>by rw [upd_ne (ne_of_none q hn)];exact q) fun c xs q=>by rw [upd_ne (ne_of_none q hn)];exact q
   rcases hc with z' | z'
   ·exact kp c v (by rw [z'];exact ne b u e) q
   ·exact kp c v (ne c _ z') q
noncomputable def dInts (ns:List Int):D:=.tup (ns.map .int)
end
end L2
namespace L2
open PySem PySem.Spec PySem.W PyProof.Rows
section
variable {X:Cx}{pins:List (Addr×Obj)}{σ:St}{H:Hp}{s:Shared}
theorem rep_ints {K:PySem.W.Frag}{ns:List Int}{v:V}(h:Rep K H (dInts ns) v):∃a,v=.ref a/\SqT K H a (ns.map V.int):=by
 unfold dInts Rep at h
 obtain ⟨a,xs,e,hq,hr⟩:=h
 have:xs=ns.map V.int:=by
  clear hq
  induction ns generalizing xs with
  |nil=>unfold Reps at hr;exact hr
  |cons n r ih=>
   rw [List.map_cons] at hr
   unfold Reps at hr
   obtain ⟨v,q,e1,h1,h2⟩:=hr
   unfold Rep at h1
   rw [e1,h1,ih q h2];rfl
 exact ⟨a,e,by rw [<-this];exact hq⟩
theorem reps_ints {K:PySem.W.Frag}:∀ns:List Int,Reps K H (ns.map D.int) (ns.map V.int)
 |[]=>by unfold Reps;rfl
 |n::r=>by
  show Reps K H (D.int n::r.map D.int) (V.int n::r.map V.int)
  unfold Reps
  exact ⟨_,_,rfl,by unfold Rep;rfl,reps_ints r⟩
end
end L2
namespace Z
open PySem L2
noncomputable def lim:Nat:=1000000
theorem lim_lt:lim < sizeLine:=by rw [sizeLine_eq];decide
noncomputable def msk (m:List Addr) (H:Hp):Hp:=fun b=>if b∈m then none else H b
section
variable {K:PySem.W.Frag}{m m' l:List Addr}{H H' H1 H2:Hp}{S S':Sto}{a b p:Addr}{o:HO}
theorem msk_in (h:b∈m):msk m H b=none:=if_pos h
theorem msk_out (h:b∉m):msk m H b=H b:=if_neg h
theorem msk_le:Same (msk m H) H:=fun b o h=>by
 by_cases hb:b∈m
 ·rw [msk_in hb] at h;cases h
 ·rw [msk_out hb] at h;exact h
theorem msk_app:Same (msk (m++l) H) (msk m H):=fun b o h=>by
 by_cases hb:b∈m++l
 ·rw [msk_in hb] at h;cases h
 ·rw [msk_out hb] at h
  rw [msk_out fun z=>hb (List.mem_append_left _ z)];exact h
theorem msk_upd (h:a∈m):msk m (upd H a o)=msk m H:=by
 funext b
 by_cases hb:b∈m
 ·rw [msk_in hb,msk_in hb]
 ·rw [msk_out hb,msk_out hb,upd_ne fun z=>hb (by rw [z];exact h)]
theorem msk_new (h:H p=none):Same (msk m H) (msk m (upd H p o)):=fun b u q=>by
 by_cases hb:b∈m
 ·rw [msk_in hb] at q;cases q
 ·rw [msk_out hb] at q
  rw [msk_out hb,upd_ne (ne_of_none q h)];exact q
theorem msk_newc (h:H p=none):Same (msk m H) (msk (m++[p]) (upd H p o)):=fun b u q=>by
 by_cases hb:b∈m
 ·rw [msk_in hb] at q;cases q
 ·rw [msk_out hb] at q
  have ne:=ne_of_none q h
  rw [msk_out fun z=>by rcases List.mem_append.mp z with z | z;exact hb z;exact ne (by simpa using z),upd_ne ne];exact q
end
end Z
namespace Z
open PySem L2
section
variable {K:PySem.W.Frag}{m m' l:List Addr}{H H' H1 H2:Hp}{S S':Sto}{a b p:Addr}{o:HO}{x:A}{v:V}{d:D}{ds es:List D}{vs us:List V}
theorem Reps.nil:Reps K H [] []:=by unfold Reps;rfl
theorem Reps.cons (h:Rep K H d v) (t:Reps K H ds vs):Reps K H (d::ds) (v::vs):=by unfold Reps;exact ⟨v,vs,rfl,h,t⟩
theorem Reps.app:∀{ds es:List D}{vs us:List V},Reps K H ds vs->Reps K H es us->Reps K H (ds++es) (vs++us)
 |[],es,vs,us,h,t=>by unfold Reps at h;subst h;exact t
 |d::ds,es,vs,us,h,t=>by
  unfold Reps at h
  obtain ⟨v,r,rfl,h1,h2⟩:=h
  exact Reps.cons h1 (Reps.app h2 t)
theorem Reps.drop:∀{ds:List D}{vs:List V}(n:Nat),Reps K H ds vs->Reps K H (ds.drop n) (vs.drop n)
 |ds,vs,0,h=>h
 |[],vs,n+1,h=>by unfold Reps at h;subst h;exact Reps.nil
 |d::ds,vs,n+1,h=>by
  unfold Reps at h
  obtain ⟨v,r,rfl,h1,h2⟩:=h
  exact Reps.drop n h2
theorem Reps.take:∀{ds:List D}{vs:List V}(n:Nat),Reps K H ds vs->Reps K H (ds.take n) (vs.take n)
 |ds,vs,0,h=>by rw [List.take_zero,List.take_zero];exact Reps.nil
 |[],vs,n+1,h=>by unfold Reps at h;subst h;exact Reps.nil
 |d::ds,vs,n+1,h=>by
  unfold Reps at h
  obtain ⟨v,r,rfl,h1,h2⟩:=h
  exact Reps.cons h1 (Reps.take n h2)
theorem Reps.put:∀{ds:List D}{vs:List V}(n:Nat),Reps K H ds vs->Rep K H d v->Reps K H (ds.set n d) (vs.set n v)
 |[],vs,n,h,r=>by unfold Reps at h;subst h;exact Reps.nil
 |e::ds,vs,0,h,r=>by
  unfold Reps at h
  obtain ⟨u,t,rfl,h1,h2⟩:=h
  exact Reps.cons r h2
 |e::ds,vs,n+1,h,r=>by
  unfold Reps at h
  obtain ⟨u,t,rfl,h1,h2⟩:=h
  exact Reps.cons h1 (Reps.put n h2 r)
end
section
variable {K:PySem.W.Frag}
@[simp] noncomputable def gSub (i j:Int):Option D:=some (.int (i-j))
@[simp] noncomputable def gMul (i j:Int):Option D:=if (-18446744073709551616 < i/\i < 18446744073709551616)∨(-18446744073709551616 < j/\j < 18446744073709551616) then some (.int (i * j)) else none
@[simp] noncomputable def gDiv (i j:Int):Option D:=if 0 < j/\j < 1073741824 then some (.int (i / j)) else none
@[simp] noncomputable def gMod (i j:Int):Option D:=if 0 < j then some (.int (i % j)) else none
@[simp] noncomputable def gPow (i j:Int):Option D:=if 0<=j/\j<=1000/\i.natAbs < 18446744073709551616 then some (.int (i ^ j.toNat)) else none
@[simp] noncomputable def gLt (i j:Int):Option D:=some (.bl (decide (i < j)))
@[simp] noncomputable def gLe (i j:Int):Option D:=some (.bl (decide (i<=j)))
@[simp] noncomputable def gGt (i j:Int):Option D:=some (.bl (decide (j < i)))
@[simp] noncomputable def gGe (i j:Int):Option D:=some (.bl (decide (j<=i)))
variable {X:Cx}{a b:Expr}{f g:FE}{pos:Pos}
@[simp] noncomputable def D.tru:D->Option Bool
 |.non=>some false
 |.bl b=>some b
 |.int i=>some (i != 0)
 |.str z=>if z.length<=lim then some ((z.length:Int) != 0) else none
 |.lst ds=>some (!ds.isEmpty)
 |.tup ds=>some (!ds.isEmpty)
theorem Reps.empty {H:Hp}{ds:List D}{vs:List V}(h:Reps K H ds vs):vs.isEmpty=ds.isEmpty:=by
 cases ds with
 |nil=>unfold Reps at h;subst h;rfl
 |cons d r=>unfold Reps at h;obtain ⟨v,t,rfl,_⟩:=h;rfl
theorem tru_of {H:Hp}{d:D}{v:V}{b:Bool}(r:Rep K H d v) (e:D.tru d=some b):TruV K v H b:=by
 cases d with
 |non=>unfold Rep at r;subst r;cases e;rfl
 |bl k=>unfold Rep at r;subst r;cases e;rfl
 |int i=>unfold Rep at r;subst r;cases e;rfl
 |str z=>
  unfold Rep at r;subst r
  have e':(if z.length<=lim then some ((z.length:Int) != 0) else none)=some b:=e
  split at e'
  ·rename_i hl;cases e';exact ⟨Nat.le_of_lt (Nat.lt_of_le_of_lt hl lim_lt),rfl⟩
  ·cases e'
 |lst ds=>
  unfold Rep at r;obtain ⟨a,vs,rfl,h1,h2⟩:=r
  cases e
  exact .inl ⟨vs,h1,by rw [Reps.empty h2]⟩
 |tup ds=>
  unfold Rep at r;obtain ⟨a,vs,rfl,h1,h2⟩:=r
  cases e
  exact .inr (.inl ⟨vs,h1,by rw [Reps.empty h2]⟩)
variable {rest:List Expr}
noncomputable def tAndW (K:PySem.W.Frag) (ta tb:TE):TE:=fun σ H Q=>ta σ H fun x H1=>∃c,TruV K x H1 c/\if c=true then tb σ H1 Q else Q x H1
noncomputable def tOrW (K:PySem.W.Frag) (ta tb:TE):TE:=fun σ H Q=>ta σ H fun x H1=>∃c,TruV K x H1 c/\if c=true then Q x H1 else tb σ H1 Q
noncomputable def tNotW (K:PySem.W.Frag) (ta:TE):TE:=fun σ H Q=>ta σ H fun x H1=>∃c,TruV K x H1 c/\Q (.bl (!c)) H1
theorem pe_andW {ta tb:TE}(ha:PE X a ta) (hb:PE X (.BoolOp .And (b::rest) pos) tb):PE X (.BoolOp .And (a::b::rest) pos) (tAndW X.K ta tb):=by
 intro pins s σ H Q I h
 refine PyProof.Rows.BoolOp_and (thn (ha pins s σ H _ I h) fun v s1 ⟨x,H1,I1,r1,c,hc,q1⟩=>?_)
 refine thn (tru_ok pins s1 σ H1 x v (fun c H2=>if c=true then tb σ H2 Q else Q x H2) I1 r1 ⟨c,hc,q1⟩) fun k s2 ⟨H2,I2,q2⟩=>?_
 cases k with
 |true=>rw [if_pos rfl] at q2;exact hb pins s2 σ H2 Q I2 q2
 |false=>rw [if_neg Bool.false_ne_true] at q2;exact ⟨x,H2,I2,r1,q2⟩
theorem pe_orW {ta tb:TE}(ha:PE X a ta) (hb:PE X (.BoolOp .Or (b::rest) pos) tb):PE X (.BoolOp .Or (a::b::rest) pos) (tOrW X.K ta tb):=by
 intro pins s σ H Q I h
 refine PyProof.Rows.BoolOp_or (thn (ha pins s σ H _ I h) fun v s1 ⟨x,H1,I1,r1,c,hc,q1⟩=>?_)
 refine thn (tru_ok pins s1 σ H1 x v (fun c H2=>if c=true then Q x H2 else tb σ H2 Q) I1 r1 ⟨c,hc,q1⟩) fun k s2 ⟨H2,I2,q2⟩=>?_
 cases k with
 |true=>rw [if_pos rfl] at q2;exact ⟨x,H2,I2,r1,q2⟩
 |false=>rw [if_neg Bool.false_ne_true] at q2;exact hb pins s2 σ H2 Q I2 q2
theorem pe_notW {ta:TE}(ha:PE X a ta):PE X (.UnaryOp .Not a pos) (tNotW X.K ta):=by
 intro pins s σ H Q I h
 refine PyProof.Rows.UnaryOp_ (thn (ha pins s σ H _ I h) fun v s1 ⟨x,H1,I1,r1,c,hc,q1⟩=>?_)
 exact PyProof.Rows.not_of (thn (tru_ok pins s1 σ H1 x v (fun c H2=>Q (.bl (!c)) H2) I1 r1 ⟨c,hc,q1⟩) fun k s2 ⟨H2,I2,q2⟩=>⟨.bl (!k),H2,I2,rfl,q2⟩)
variable {e:Expr}{es:List Expr}{fa:FA}
theorem lim_le {n:Nat}(h:n<=lim):n<=sizeLine:=Nat.le_of_lt (Nat.lt_of_le_of_lt h lim_lt)
noncomputable def rCatS (K:PySem.W.Frag):R2:=fun x y H Q=>∃l b xs zs,x=.ref l/\y=.ref b/\SqL K H l xs/\SqL K H b zs/\xs.length+zs.length<=sizeLine/\∀p,H p=none->Q (.ref p) (upd H p (.lst (xs++zs)))
end
end Z
namespace MX
open PySem
section
variable {prog:Program}{w:World}{A:Around}{E:Value->Shared->Prop}{s:Shared}
theorem tup_items {h:Heap}{t:Addr}{xs:Array Value}(x:h.IsTuple t xs):∃d n l,h.get? t=some { cls:=.type "tuple", dict:=d,data:=.seq xs n,slots:=l }:=by
 obtain ⟨⟨c,d,dt,l⟩,e,h1,n,h2⟩:=x
 cases h1;cases h2
 exact ⟨d,n,l,e⟩
end
end MX
namespace MX
open PySem
section
variable {prog:Program}{w:World}{A:Around}{E:Value->Shared->Prop}{s:Shared}
theorem max0 {it S t:Addr}{c:Nat}{xs:Array Value}{x:Value}{Q:PySem.Fin->Shared->Prop}(hS:s.heap.get? S=some { cls:=.type "list", dict:=none,data:=.seq #[] c,slots:=#[] })
  (hi:s.heap.IsTupleIter it t 0) (ht:s.heap.IsTuple t xs) (hx:xs[0]?=some x) (hne:S≠it)
  (h:∀h' c',h'.get? S=some { cls:=.type "list", dict:=none,data:=.seq #[x,x] c',slots:=#[] }->h'.IsTupleIter it t 1->(∀b o,b≠it->b≠S->s.heap.get? b=some o->h'.get? b=some o)->Q (.again (.builtin "max.loop" ⟨[.ref it,.none,.ref S],[]⟩)) { s with heap:=h' }) :
  wpAny (model prog w) A (Builtin.«max.loop» ⟨[.ref it,.none,.ref S],[]⟩) Q E s:=by
 refine wpAny_bind (m:=seqItems? (.ref S)) (wpAny_seqItems hS rfl (wpAny_bind (m:=Sem.tryCatch (pyNext (.ref it)) _) (wpAny_tryCatch (wpAny_pyNext_tuple_item hi ht hx fun h' hi' k=>?_))))
 have hS':=k.extBut S _ hne hS
 refine wpAny_bind (m:=updateSeq S fun _=>#[x,x]) (wpAny_updateSeq hS' rfl (wpAny_pure ?_))
 have hn:(toString "max" ++ toString ".loop" : String) = "max.loop" := by decide
 rw [hn]
 refine h _ _ (Heap.get?_update_self _ hS' rfl) (hi'.at fun o e=>(Heap.get?_update_other _ _ hne).trans e) fun b o h1 h2 e=>(Heap.get?_update_other _ _ (Ne.symm h2)).trans (k.extBut b o h1 e)
theorem max1 {it S t:Addr}{c:Nat}{xs:Array Value}{x y:Value}{b:Bool}{Q:PySem.Fin->Shared->Prop}(hS:s.heap.get? S=some { cls:=.type "list", dict:=none,data:=.seq #[y,y] c,slots:=#[] })
  (hi:s.heap.IsTupleIter it t 1) (ht:s.heap.IsTuple t xs) (hx:xs[1]?=some x) (hne:S≠it)
  (hc:∀(h':Heap) (Q:Value->Shared->Prop) (E:Value->Shared->Prop),(∀b o,b≠it->s.heap.get? b=some o->h'.get? b=some o)->Q (.bool b) { s with heap:=h' }->wpAny (model prog w) A (richCompare .Gt x y) Q E { s with heap:=h' })
  (h:∀h' c',h'.get? S=some { cls:=.type "list", dict:=none,data:=.seq (if b then #[x,x] else #[y,y]) c',slots:=#[] }->h'.IsTupleIter it t 2->(∀b o,b≠it->b≠S->s.heap.get? b=some o->h'.get? b=some o)->Q (.again (.builtin "max.loop" ⟨[.ref it,.none,.ref S],[]⟩)) { s with heap:=h' }) :
  wpAny (model prog w) A (Builtin.«max.loop» ⟨[.ref it,.none,.ref S],[]⟩) Q E s:=by
 refine wpAny_bind (m:=seqItems? (.ref S)) (wpAny_seqItems hS rfl (wpAny_bind (m:=Sem.tryCatch (pyNext (.ref it)) _) (wpAny_tryCatch (wpAny_pyNext_tuple_item hi ht hx fun h' hi' k=>?_))))
 have hS':=k.extBut S _ hne hS
 have hn:(toString "max" ++ toString ".loop" : String) = "max.loop" := by decide
 refine wpAny_bind (m:=Sem.tryCatch (holding [x,x] (richCompare .Gt x y >>= _)) _) (wpAny_tryCatch (wpAny_holding (wpAny_bind (hc h' _ _ k.extBut ?_))))
 refine wpAny_bind (wpAny_holding (wpAny_truthy_bool (wpAny_bind (wpAny_letGo (wpAny_pure ?_)))))
 cases b with
 |true=>
  refine wpAny_bind (m:=updateSeq S fun _=>#[x,x]) (wpAny_updateSeq hS' rfl (wpAny_bind (wpAny_letGo (wpAny_pure ?_))))
  rw [hn]
  exact h _ _ (Heap.get?_update_self _ hS' rfl) (hi'.at fun o e=>(Heap.get?_update_other _ _ hne).trans e) fun b o h1 h2 e=>(Heap.get?_update_other _ _ (Ne.symm h2)).trans (k.extBut b o h1 e)
 |false=>
  refine wpAny_bind (m:=letGo [x,x]) (wpAny_letGo (wpAny_pure ?_))
  rw [hn]
  exact h _ _ hS' hi' fun b o h1 _ e=>k.extBut b o h1 e
theorem max2 {it S t:Addr}{c:Nat}{xs:Array Value}{y:Value}{Q:PySem.Fin->Shared->Prop}(hh:A.handled=none) (hS:s.heap.get? S=some { cls:=.type "list", dict:=none,data:=.seq #[y,y] c,slots:=#[] })
  (hi:s.heap.IsTupleIter it t 2) (ht:s.heap.IsTuple t xs) (hx:xs[2]?=none) (hne:S≠it)
  (h:∀h',(∀b o,b≠it->b≠S->s.heap.get? b=some o->h'.get? b=some o)->Q (.done (.ret y)) { s with heap:=h' }) :
  wpAny (model prog w) A (Builtin.«max.loop» ⟨[.ref it,.none,.ref S],[]⟩) Q E s:=by
 refine wpAny_bind (m:=seqItems? (.ref S)) (wpAny_seqItems hS rfl (wpAny_bind (m:=Sem.tryCatch (pyNext (.ref it)) _) (wpAny_tryCatch (wpAny_pyNext_tuple_end hh hi ht hx fun h' k=>?_))))
 have hS':=k S _ hne hS
 refine wpAny_bind (m:=updateSeq S fun _=>#[]) (wpAny_updateSeq hS' rfl (wpAny_bind (wpAny_letGo (wpAny_pure ?_))))
 exact h _ fun b o h1 h2 e=>(Heap.get?_update_other _ _ (Ne.symm h2)).trans (k b o h1 e)
theorem maxloop {it S t:Addr}{c:Nat}{x y:Value}{b:Bool}{R:Result->Shared->Prop}(hh:A.handled=none) (hS:s.heap.get? S=some { cls:=.type "list", dict:=none,data:=.seq #[] c,slots:=#[] })
  (hi:s.heap.IsTupleIter it t 0) (ht:s.heap.IsTuple t #[x,y]) (hne:S≠it) (n2:t≠it) (n3:t≠S)
  (hc:∀(h':Heap) (Q:Value->Shared->Prop) (E:Value->Shared->Prop),(∀c o,c≠it->c≠S->s.heap.get? c=some o->h'.get? c=some o)->Q (.bool b) { s with heap:=h' }->wpAny (model prog w) A.in1 (richCompare .Gt y x) Q E { s with heap:=h' })
  (h:∀h',(∀c o,c≠it->c≠S->s.heap.get? c=some o->h'.get? c=some o)->R (.ok (.ret (if b then y else x))) { s with heap:=h' }) :
  codeAny (model prog w) A (.builtin "max.loop" ⟨[.ref it,.none,.ref S],[]⟩) R s:=by
 refine codeAny_builtin F.entry_max_loop (by
  rw [Around.under_plainId F.plain_max_loop _]
  refine max0 hS hi ht (x:=x) rfl hne fun h1 c1 S1 i1 k1=>⟨plainId_quiet F.plain_max_loop _,codeAny_builtin F.entry_max_loop ?_⟩
  rw [Around.under_plainId F.plain_max_loop _]
  have t1:h1.IsTuple t #[x,y]:=ht.at fun o e=>k1 t o n2 n3 e
  refine max1 (s:={ s with heap:=h1 }) (b:=b) S1 i1 t1 (x:=y) rfl hne (fun h' Q E k q=>hc h' Q E (fun c o a1 a2 e=>k c o a1 (k1 c o a1 a2 e)) q) fun h2 c2 S2 i2 k2=>⟨plainId_quiet F.plain_max_loop _,codeAny_builtin F.entry_max_loop ?_⟩
  rw [Around.under_plainId F.plain_max_loop _]
  have t2:h2.IsTuple t #[x,y]:=t1.at fun o e=>k2 t o n2 n3 e
  have S2':h2.get? S=some { cls:=.type "list", dict:=none,data:=.seq #[(if b then y else x),(if b then y else x)] c2,slots:=#[] }:=by
   cases b<;>exact S2
  exact max2 (s:={ s with heap:=h2 }) hh S2' i2 t2 rfl hne fun h3 k3=>h h3 fun c o a1 a2 e=>k3 c o a1 a2 (k2 c o a1 a2 (k1 c o a1 a2 e)))
theorem maxtwo {x y:Value}{b:Bool}{Q:Value->Shared->Prop}(hh:A.handled=none)
  (hc:∀(h':Heap) (Q:Value->Shared->Prop) (E:Value->Shared->Prop),(∀c o,s.heap.get? c=some o->h'.get? c=some o)->Q (.bool b) { s with heap:=h' }->wpAny (model prog w) A.in1 (richCompare .Gt y x) Q E { s with heap:=h' })
  (h:∀h',(∀c o,s.heap.get? c=some o->h'.get? c=some o)->Q (if b then y else x) { s with heap:=h' }):wpAny (model prog w) A (call (.builtin "max") [x,y]) Q E s:=by
 have hn:(toString "max" ++ toString ".loop" : String) = "max.loop" := by decide
 refine call_function_tree F.kind_max F.plain_max F.entry_max (F.args_max2 _ _) ?_
 refine wpAny_bind (m:=Builtin.Builtins.bindParams "max" ["key", "default"] 0 ⟨[],[]⟩) (wpAny_of_eq (a:=[none,none]) rfl ?_)
 refine wpAny_bind (m:=newTuple [x,y]) (wpAny_newObj_type ?_)
 have z1:(s.heap.push { cls:=.type "tuple", data:=.seq #[x,y] }).objs.size=s.heap.objs.size+1:=Heap.size_push ..
 have ht:(s.heap.push { cls:=.type "tuple", data:=.seq #[x,y] }).IsTuple s.heap.objs.size #[x,y]:=⟨_,Heap.get?_push_size _ rfl,rfl,0,rfl⟩
 refine wpAny_bind (wpAny_pyIter_tuple ht (wpAny_bind (wpAny_newObj_type ?_)))
 rw [hn]
 refine wpAny_pure ⟨plainId_quiet F.plain_max_loop _,?_⟩
 have z2:((s.heap.push { cls:=.type "tuple", data:=.seq #[x,y] }).push { cls:=.type "tuple_iterator", data:=.fields #[.ref s.heap.objs.size,.int 0 0] }).objs.size=s.heap.objs.size+2:=by rw [Heap.size_push,z1]
 have old:∀(h':Heap),(∀c o,c≠(s.heap.push { cls:=.type "tuple", data:=.seq #[x,y] }).objs.size->c≠((s.heap.push { cls:=.type "tuple", data:=.seq #[x,y] }).push { cls:=.type "tuple_iterator", data:=.fields #[.ref s.heap.objs.size,.int 0 0] }).objs.size ->
   (((s.heap.push { cls:=.type "tuple", data:=.seq #[x,y] }).push { cls:=.type "tuple_iterator", data:=.fields #[.ref s.heap.objs.size,.int 0 0] }).push { cls:=.type "list", data:=.seq #[] }).get? c=some o->h'.get? c=some o)->∀c o,s.heap.get? c=some o->h'.get? c=some o:=fun h' k c o e=>by
  have lt:=Heap.lt_size e
  exact k c o (by rw [z1];exact Nat.ne_of_lt (Nat.lt_succ_of_lt lt)) (by rw [z2];exact Nat.ne_of_lt (Nat.lt_succ_of_lt (Nat.lt_succ_of_lt lt))) (Heap.get?_push_of_some _ (Heap.get?_push_of_some _ (Heap.get?_push_of_some _ e)))
 refine maxloop (t:=s.heap.objs.size) (x:=x) (y:=y) (b:=b) hh (Heap.get?_push_size _ rfl) ⟨_,Heap.get?_push_of_some _ (Heap.get?_push_size _ rfl),rfl,rfl⟩ ((ht.push _).push _) ?_ ?_ ?_ (fun h' Q E k q=>hc h' Q E (old h' k) q) fun h' k=>h h' (old h' k)
 ·show _≠_
  rw [z2,z1];exact Nat.succ_ne_self _
 ·show _≠_
  rw [z1];exact Ne.symm (Nat.succ_ne_self _)
 ·show _≠_
  rw [z2];exact Nat.ne_of_lt (Nat.lt_succ_of_lt (Nat.lt_succ_self _))
theorem min0 {it S t:Addr}{c:Nat}{xs:Array Value}{x:Value}{Q:PySem.Fin->Shared->Prop}(hS:s.heap.get? S=some { cls:=.type "list", dict:=none,data:=.seq #[] c,slots:=#[] })
  (hi:s.heap.IsTupleIter it t 0) (ht:s.heap.IsTuple t xs) (hx:xs[0]?=some x) (hne:S≠it)
  (h:∀h' c',h'.get? S=some { cls:=.type "list", dict:=none,data:=.seq #[x,x] c',slots:=#[] }->h'.IsTupleIter it t 1->(∀b o,b≠it->b≠S->s.heap.get? b=some o->h'.get? b=some o)->Q (.again (.builtin "min.loop" ⟨[.ref it,.none,.ref S],[]⟩)) { s with heap:=h' }) :
  wpAny (model prog w) A (Builtin.«min.loop» ⟨[.ref it,.none,.ref S],[]⟩) Q E s:=by
 refine wpAny_bind (m:=seqItems? (.ref S)) (wpAny_seqItems hS rfl (wpAny_bind (m:=Sem.tryCatch (pyNext (.ref it)) _) (wpAny_tryCatch (wpAny_pyNext_tuple_item hi ht hx fun h' hi' k=>?_))))
 have hS':=k.extBut S _ hne hS
 refine wpAny_bind (m:=updateSeq S fun _=>#[x,x]) (wpAny_updateSeq hS' rfl (wpAny_pure ?_))
 have hn:(toString "min" ++ toString ".loop" : String) = "min.loop" := by decide
 rw [hn]
 refine h _ _ (Heap.get?_update_self _ hS' rfl) (hi'.at fun o e=>(Heap.get?_update_other _ _ hne).trans e) fun b o h1 h2 e=>(Heap.get?_update_other _ _ (Ne.symm h2)).trans (k.extBut b o h1 e)
theorem min1 {it S t:Addr}{c:Nat}{xs:Array Value}{x y:Value}{b:Bool}{Q:PySem.Fin->Shared->Prop}(hS:s.heap.get? S=some { cls:=.type "list", dict:=none,data:=.seq #[y,y] c,slots:=#[] })
  (hi:s.heap.IsTupleIter it t 1) (ht:s.heap.IsTuple t xs) (hx:xs[1]?=some x) (hne:S≠it)
  (hc:∀(h':Heap) (Q:Value->Shared->Prop) (E:Value->Shared->Prop),(∀b o,b≠it->s.heap.get? b=some o->h'.get? b=some o)->Q (.bool b) { s with heap:=h' }->wpAny (model prog w) A (richCompare .Lt x y) Q E { s with heap:=h' })
  (h:∀h' c',h'.get? S=some { cls:=.type "list", dict:=none,data:=.seq (if b then #[x,x] else #[y,y]) c',slots:=#[] }->h'.IsTupleIter it t 2->(∀b o,b≠it->b≠S->s.heap.get? b=some o->h'.get? b=some o)->Q (.again (.builtin "min.loop" ⟨[.ref it,.none,.ref S],[]⟩)) { s with heap:=h' }) :
  wpAny (model prog w) A (Builtin.«min.loop» ⟨[.ref it,.none,.ref S],[]⟩) Q E s:=by
 refine wpAny_bind (m:=seqItems? (.ref S)) (wpAny_seqItems hS rfl (wpAny_bind (m:=Sem.tryCatch (pyNext (.ref it)) _) (wpAny_tryCatch (wpAny_pyNext_tuple_item hi ht hx fun h' hi' k=>?_))))
 have hS':=k.extBut S _ hne hS
 have hn:(toString "min" ++ toString ".loop" : String) = "min.loop" := by decide
 refine wpAny_bind (m:=Sem.tryCatch (holding [x,x] (richCompare .Lt x y >>= _)) _) (wpAny_tryCatch (wpAny_holding (wpAny_bind (hc h' _ _ k.extBut ?_))))
 refine wpAny_bind (wpAny_holding (wpAny_truthy_bool (wpAny_bind (wpAny_letGo (wpAny_pure ?_)))))
 cases b with
 |true=>
  refine wpAny_bind (m:=updateSeq S fun _=>#[x,x]) (wpAny_updateSeq hS' rfl (wpAny_bind (wpAny_letGo (wpAny_pure ?_))))
  rw [hn]
  exact h _ _ (Heap.get?_update_self _ hS' rfl) (hi'.at fun o e=>(Heap.get?_update_other _ _ hne).trans e) fun b o h1 h2 e=>(Heap.get?_update_other _ _ (Ne.symm h2)).trans (k.extBut b o h1 e)
 |false=>
  refine wpAny_bind (m:=letGo [x,x]) (wpAny_letGo (wpAny_pure ?_))
  rw [hn]
  exact h _ _ hS' hi' fun b o h1 _ e=>k.extBut b o h1 e
theorem min2 {it S t:Addr}{c:Nat}{xs:Array Value}{y:Value}{Q:PySem.Fin->Shared->Prop}(hh:A.handled=none) (hS:s.heap.get? S=some { cls:=.type "list", dict:=none,data:=.seq #[y,y] c,slots:=#[] })
  (hi:s.heap.IsTupleIter it t 2) (ht:s.heap.IsTuple t xs) (hx:xs[2]?=none) (hne:S≠it)
  (h:∀h',(∀b o,b≠it->b≠S->s.heap.get? b=some o->h'.get? b=some o)->Q (.done (.ret y)) { s with heap:=h' }) :
  wpAny (model prog w) A (Builtin.«min.loop» ⟨[.ref it,.none,.ref S],[]⟩) Q E s:=by
 refine wpAny_bind (m:=seqItems? (.ref S)) (wpAny_seqItems hS rfl (wpAny_bind (m:=Sem.tryCatch (pyNext (.ref it)) _) (wpAny_tryCatch (wpAny_pyNext_tuple_end hh hi ht hx fun h' k=>?_))))
 have hS':=k S _ hne hS
 refine wpAny_bind (m:=updateSeq S fun _=>#[]) (wpAny_updateSeq hS' rfl (wpAny_bind (wpAny_letGo (wpAny_pure ?_))))
 exact h _ fun b o h1 h2 e=>(Heap.get?_update_other _ _ (Ne.symm h2)).trans (k b o h1 e)
theorem minloop {it S t:Addr}{c:Nat}{x y:Value}{b:Bool}{R:Result->Shared->Prop}(hh:A.handled=none) (hS:s.heap.get? S=some { cls:=.type "list", dict:=none,data:=.seq #[] c,slots:=#[] })
  (hi:s.heap.IsTupleIter it t 0) (ht:s.heap.IsTuple t #[x,y]) (hne:S≠it) (n2:t≠it) (n3:t≠S)
  (hc:∀(h':Heap) (Q:Value->Shared->Prop) (E:Value->Shared->Prop),(∀c o,c≠it->c≠S->s.heap.get? c=some o->h'.get? c=some o)->Q (.bool b) { s with heap:=h' }->wpAny (model prog w) A.in1 (richCompare .Lt y x) Q E { s with heap:=h' })
  (h:∀h',(∀c o,c≠it->c≠S->s.heap.get? c=some o->h'.get? c=some o)->R (.ok (.ret (if b then y else x))) { s with heap:=h' }) :
  codeAny (model prog w) A (.builtin "min.loop" ⟨[.ref it,.none,.ref S],[]⟩) R s:=by
 refine codeAny_builtin F.entry_min_loop (by
  rw [Around.under_plainId F.plain_min_loop _]
  refine min0 hS hi ht (x:=x) rfl hne fun h1 c1 S1 i1 k1=>⟨plainId_quiet F.plain_min_loop _,codeAny_builtin F.entry_min_loop ?_⟩
  rw [Around.under_plainId F.plain_min_loop _]
  have t1:h1.IsTuple t #[x,y]:=ht.at fun o e=>k1 t o n2 n3 e
  refine min1 (s:={ s with heap:=h1 }) (b:=b) S1 i1 t1 (x:=y) rfl hne (fun h' Q E k q=>hc h' Q E (fun c o a1 a2 e=>k c o a1 (k1 c o a1 a2 e)) q) fun h2 c2 S2 i2 k2=>⟨plainId_quiet F.plain_min_loop _,codeAny_builtin F.entry_min_loop ?_⟩
  rw [Around.under_plainId F.plain_min_loop _]
  have t2:h2.IsTuple t #[x,y]:=t1.at fun o e=>k2 t o n2 n3 e
  have S2':h2.get? S=some { cls:=.type "list", dict:=none,data:=.seq #[(if b then y else x),(if b then y else x)] c2,slots:=#[] }:=by
   cases b<;>exact S2
  exact min2 (s:={ s with heap:=h2 }) hh S2' i2 t2 rfl hne fun h3 k3=>h h3 fun c o a1 a2 e=>k3 c o a1 a2 (k2 c o a1 a2 (k1 c o a1 a2 e)))
theorem mintwo {x y:Value}{b:Bool}{Q:Value->Shared->Prop}(hh:A.handled=none)
  (hc:∀(h':Heap) (Q:Value->Shared->Prop) (E:Value->Shared->Prop),(∀c o,s.heap.get? c=some o->h'.get? c=some o)->Q (.bool b) { s with heap:=h' }->wpAny (model prog w) A.in1 (richCompare .Lt y x) Q E { s with heap:=h' })
  (h:∀h',(∀c o,s.heap.get? c=some o->h'.get? c=some o)->Q (if b then y else x) { s with heap:=h' }):wpAny (model prog w) A (call (.builtin "min") [x,y]) Q E s:=by
 have hn:(toString "min" ++ toString ".loop" : String) = "min.loop" := by decide
 refine call_function_tree F.kind_min F.plain_min F.entry_min (F.args_min2 _ _) ?_
 refine wpAny_bind (m:=Builtin.Builtins.bindParams "min" ["key", "default"] 0 ⟨[],[]⟩) (wpAny_of_eq (a:=[none,none]) rfl ?_)
 refine wpAny_bind (m:=newTuple [x,y]) (wpAny_newObj_type ?_)
 have z1:(s.heap.push { cls:=.type "tuple", data:=.seq #[x,y] }).objs.size=s.heap.objs.size+1:=Heap.size_push ..
 have ht:(s.heap.push { cls:=.type "tuple", data:=.seq #[x,y] }).IsTuple s.heap.objs.size #[x,y]:=⟨_,Heap.get?_push_size _ rfl,rfl,0,rfl⟩
 refine wpAny_bind (wpAny_pyIter_tuple ht (wpAny_bind (wpAny_newObj_type ?_)))
 rw [hn]
 refine wpAny_pure ⟨plainId_quiet F.plain_min_loop _,?_⟩
 have z2:((s.heap.push { cls:=.type "tuple", data:=.seq #[x,y] }).push { cls:=.type "tuple_iterator", data:=.fields #[.ref s.heap.objs.size,.int 0 0] }).objs.size=s.heap.objs.size+2:=by rw [Heap.size_push,z1]
 have old:∀(h':Heap),(∀c o,c≠(s.heap.push { cls:=.type "tuple", data:=.seq #[x,y] }).objs.size->c≠((s.heap.push { cls:=.type "tuple", data:=.seq #[x,y] }).push { cls:=.type "tuple_iterator", data:=.fields #[.ref s.heap.objs.size,.int 0 0] }).objs.size ->
   (((s.heap.push { cls:=.type "tuple", data:=.seq #[x,y] }).push { cls:=.type "tuple_iterator", data:=.fields #[.ref s.heap.objs.size,.int 0 0] }).push { cls:=.type "list", data:=.seq #[] }).get? c=some o->h'.get? c=some o)->∀c o,s.heap.get? c=some o->h'.get? c=some o:=fun h' k c o e=>by
  have lt:=Heap.lt_size e
  exact k c o (by rw [z1];exact Nat.ne_of_lt (Nat.lt_succ_of_lt lt)) (by rw [z2];exact Nat.ne_of_lt (Nat.lt_succ_of_lt (Nat.lt_succ_of_lt lt))) (Heap.get?_push_of_some _ (Heap.get?_push_of_some _ (Heap.get?_push_of_some _ e)))
 refine minloop (t:=s.heap.objs.size) (x:=x) (y:=y) (b:=b) hh (Heap.get?_push_size _ rfl) ⟨_,Heap.get?_push_of_some _ (Heap.get?_push_size _ rfl),rfl,rfl⟩ ((ht.push _).push _) ?_ ?_ ?_ (fun h' Q E k q=>hc h' Q E (old h' k) q) fun h' k=>h h' (old h' k)
 ·show _≠_
  rw [z2,z1];exact Nat.succ_ne_self _
 ·show _≠_
  rw [z1];exact Ne.symm (Nat.succ_ne_self _)
 ·show _≠_
  rw [z2];exact Nat.ne_of_lt (Nat.lt_succ_of_lt (Nat.lt_succ_self _))
end
end MX
namespace MX
open PySem PyProof.Rows
section
open PySem.SeqAt
open PySem.MeetsSeq PySem.MeetsSeq2 PySem.MeetsSeq3
theorem rcGt (A:Around) (s:Shared) (a:Int) (t:Tok) (c:Int) (u:Tok) (prog:Program) (w:World) (E:Value->Shared->Prop) (Q:Value->Shared->Prop) (h:Q (.bool (decide (c < a))) s) :
  wpAny (model prog w) A (richCompare .Gt (.int a t) (.int c u)) Q E s:=(gt_int h:wpAny (model prog w) A (compareOp .Gt (.int a t) (.int c u)) Q E s)
theorem lex_len:∀{ns ms:List Int},(ns=[]∨ms=[])->HT.lexLt ms ns=decide (ms.length < ns.length)
 |[],[],_=>rfl
 |[],m::ms,_=>by simp [HT.lexLt]
 |n::ns,[],_=>by simp [HT.lexLt]
 |n::ns,m::ms,h=>by rcases h with h | h<;>cases h
theorem gt_tups (l b:Addr) (xs ys:Array Value) (n k:Nat) (d e:Option Addr) (sl sm:Array (Option Value)) (ns ms:List Int) (hi:IntsAre xs.toList ns) (hj:IntsAre ys.toList ms) :
  Meets (Builtin.«tuple.__gt__» ⟨[.ref l,.ref b],[]⟩) (fun _ R s=>s.heap.get? l=some { cls:=.type "tuple", dict:=d,data:=.seq xs n,slots:=sl }/\s.heap.get? b=some { cls:=.type "tuple", dict:=e,data:=.seq ys k,slots:=sm }/\R (.ok (.ret (.bool (HT.lexLt ms ns)))) s):=
 .of_wp fun prog w A R s h=>by
  obtain ⟨hp,g,dr,tk,os⟩:=s
  obtain ⟨hl,hb,h⟩:=h
  have sb:=AutoSeq1.sub_tuple_tuple
  have e1:xs.size=ns.length:=by rw [<-hi.length,Array.length_toList]
  have e2:ys.size=ms.length:=by rw [<-hj.length,Array.length_toList]
  wp_walk using AutoSeq1.wpAny_loadPart' hl,AutoSeq1.wpAny_loadPart' hb,wpAny_forIn_list _ (fun rest b s'=>b.1=none/\s'=⟨hp,g,dr,tk,os⟩/\∃vs us ps qs,rest=List.zip vs us/\IntsAre vs ps/\IntsAre us qs/\ps.length+ms.length=qs.length+ns.length/\R (.ok (.ret (.bool (HT.lexLt qs ps)))) ⟨hp,g,dr,tk,os⟩) _
  case turn=>
   rintro ⟨y,x⟩ rest b s' ⟨b0,rfl,vs,us,ps,qs,hz,h1,h2,len,hR⟩
   cases h1 with
   |nil=>rw [List.zip_nil_left] at hz;cases hz
   |cons a t h1=>
    cases h2 with
    |nil=>rw [List.zip_nil_right] at hz;cases hz
    |cons c u h2=>
     rw [List.zip_cons_cons] at hz
     obtain ⟨z1,z2⟩:=List.cons.inj hz
     cases z1
     rw [HT.lexLt_cons] at hR
     obtain ⟨q,hq,iff⟩:=HT.eqAt_int A.in1 ⟨hp,g,dr,tk,os⟩ a t c u
     refine wpAny_bind (hq prog w _ _ ?_)
     cases q with
     |true=>
      rw [if_pos (iff.mp rfl).symm] at hR
      wp_walk
      exact ⟨rfl,rfl,_,_,_,_,z2,h1,h2,by simp only [List.length_cons] at len;omega,hR⟩
     |false=>
      rw [if_neg fun z=>Bool.false_ne_true (iff.mpr z.symm)] at hR
      have hri:=rcGt A.in1 ⟨hp,g,dr,tk,os⟩ a t c u prog w
      wp_walk using hri
      exact ⟨_,rfl,by simpa using hR⟩
  case fin=>
   rintro ⟨b1,b2⟩ s' ⟨b0,rfl,vs,us,ps,qs,hz,h1,h2,len,hR⟩
   cases b0
   have hv:HT.lexLt qs ps=decide (ys.size < xs.size):=by
    rw [lex_len,e1,e2]
    ·congr 1
     exact propext ⟨fun _=>by omega,fun _=>by omega⟩
    ·cases h1 with
     |nil=>exact .inl rfl
     |cons _ _ _=>cases h2 with
      |nil=>exact .inr rfl
      |cons _ _ _=>rw [List.zip_cons_cons] at hz;cases hz
   rw [hv] at hR
   wp_walk
   exact ⟨_,rfl,by simpa [Builtin.Tuple.tupleCompareSizes] using hR⟩
  case h=>exact ⟨rfl,rfl,xs.toList,ys.toList,ns,ms,rfl,hi,hj,by omega,h⟩
end
section
variable {prog:Program}{w:World}{A:Around}{E:Value->Shared->Prop}{s:Shared}
theorem gt_two {l b:Addr}{xs ys:Array Value}{ns ms:List Int}{Q:Value->Shared->Prop}(hl:IsTup s.heap l xs) (hb:IsTup s.heap b ys) (hi:IntsAre xs.toList ns) (hj:IntsAre ys.toList ms) (hu:A.units < cLine) (h:Q (.bool (HT.lexLt ms ns)) s) :
  wpAny (model prog w) A (compareOp .Gt (.ref l) (.ref b)) Q E s:=by
 obtain ⟨d,n,sl,e⟩:=tup_items hl
 obtain ⟨d2,n2,sl2,e2⟩:=tup_items hb
 exact richCompare_meets_room (op:=.Gt) ⟨_,e,rfl⟩ ⟨_,e2,rfl⟩ F.slot_tuple_gt F.entry_tuple_gt (F.args_tuple_gt_2 _ _) (gt_tups l b xs ys n n2 d d2 sl sl2 ns ms hi hj) ⟨e,e2,show Value.bool _≠Value.notImplemented/\Q (.bool _) s from ⟨(fun z=>nomatch z),h⟩⟩ hu
end
end MX
namespace L2
open PySem PySem.Spec PyProof.Rows
section
variable {X:Cx}
theorem tup_kp {h h':Heap}{a:Addr}{its:Array Value}(x:IsTup h a its) (k:∀b o,h.get? b=some o->h'.get? b=some o):IsTup h' a its:=let ⟨o,e,r⟩:=x;⟨o,k _ _ e,r⟩
noncomputable def rMaxT (K:PySem.W.Frag):List V->Hp->VK->Prop:=fun vs H Q=>∃a b ns ms,vs=[.ref a,.ref b]/\SqT K H a (ns.map V.int)/\SqT K H b (ms.map V.int)/\Q (.ref (if HT.lexLt ns ms then b else a)) H
noncomputable def rMinT (K:PySem.W.Frag):List V->Hp->VK->Prop:=fun vs H Q=>∃a b ns ms,vs=[.ref a,.ref b]/\SqT K H a (ns.map V.int)/\SqT K H b (ms.map V.int)/\Q (.ref (if HT.lexLt ms ns then b else a)) H
theorem call_maxT (hc:X.cool=true) (hu:X.A.units+2 < cLine):CallR X (.builtin "max") (rMaxT X.K):=by
 intro pins s σ H xs us Q I r h
 obtain ⟨a,b,ns,ms,rfl,ha,hb,q⟩:=h
 obtain ⟨u,w',rfl,r1,r2⟩:=vals2 r
 cases r1;cases r2
 obtain ⟨its,v1,p1,_⟩:=I.tuple ha
 obtain ⟨its2,v2,p2,_⟩:=I.tuple hb
 refine MX.maxtwo (b:=HT.lexLt ns ms) (I.ok.hc hc) (fun h' Q E k z=>?_) fun h' k=>⟨.ref (if HT.lexLt ns ms then b else a),H,I.kept (t':=s.toks) k,?_,q⟩
 ·exact MX.gt_two (s:={ s with heap:=h' }) (A:=X.A.in1) (tup_kp p2 k) (tup_kp p1 k) (intsAre_of v2) (intsAre_of v1) (by show X.A.units+1 < cLine;omega) z
 ·cases HT.lexLt ns ms<;>rfl
theorem call_minT (hc:X.cool=true) (hu:X.A.units+2 < cLine):CallR X (.builtin "min") (rMinT X.K):=by
 intro pins s σ H xs us Q I r h
 obtain ⟨a,b,ns,ms,rfl,ha,hb,q⟩:=h
 obtain ⟨u,w',rfl,r1,r2⟩:=vals2 r
 cases r1;cases r2
 obtain ⟨its,v1,p1,_⟩:=I.tuple ha
 obtain ⟨its2,v2,p2,_⟩:=I.tuple hb
 refine MX.mintwo (b:=HT.lexLt ms ns) (I.ok.hc hc) (fun h' Q E k z=>?_) fun h' k=>⟨.ref (if HT.lexLt ms ns then b else a),H,I.kept (t':=s.toks) k,?_,q⟩
 ·exact HT.lt_tupInts (s:={ s with heap:=h' }) (A:=X.A.in1) (tup_kp p2 k) (tup_kp p1 k) (intsAre_of v2) (intsAre_of v1) (by show X.A.units+1 < cLine;omega) z
 ·cases HT.lexLt ms ns<;>rfl
end
end L2
namespace L2
open PySem PySem.Spec PyProof.Rows
section
variable {X:Cx}
theorem list_all {h:Heap}{a:Addr}{its:Array Value}(x:PlainL h a its):∃n sl,h.get? a=some { cls:=.type "list", dict:=none,data:=.seq its n,slots:=sl }:=by
 obtain ⟨⟨c,d,dt,sl⟩,n,e,h1,h2,h3⟩:=x
 cases h1;cases h2;cases h3
 exact ⟨n,sl,e⟩
theorem op_catS:OpR X (binaryOp .Add) (Z.rCatS X.K):=by
 intro pins s σ H x y v u Q I rx ry h
 obtain ⟨l,b,xs,zs,rfl,rfl,h1,h2,hz,q⟩:=h
 cases rx;cases ry
 obtain ⟨its,r,pl,_⟩:=I.list h1
 obtain ⟨it2,r2,pl2,_⟩:=I.list h2
 obtain ⟨n,sl,e⟩:=list_all pl
 obtain ⟨n2,sl2,e2⟩:=list_all pl2
 have z:its.toArray.size+it2.toArray.size<=sizeLine:=by simpa [<-r.length,<-r2.length] using hz
 refine concat_meets ⟨_,e,rfl⟩ ⟨_,e2,rfl⟩ noFill_list_add seq_list_add F.slot_list_add F.entry_list_add (F.args_list_add_2 _ _) (list_addW l b its.toArray it2.toArray n n2 none none sl sl2 z) ⟨e,e2,?_⟩
 rw [show its.toArray++it2.toArray=(its++it2).toArray by simp]
 exact ⟨.ref _,_,I.lnew (t':=s.toks) (r.append r2) (by rw [List.length_append];exact hz),rfl,q _ I.fresh⟩
noncomputable def rCatU (K:PySem.W.Frag):R2:=fun x y H Q=>∃a b xs ys,x=.ref a/\y=.ref b/\SqT K H a xs/\SqT K H b ys/\xs.length+ys.length<=sizeLine /\
 (xs=[]->Q (.ref b) H)/\(xs≠[]->ys=[]->Q (.ref a) H)/\(xs≠[]->ys≠[]->∀p,H p=none->Q (.ref p) (upd H p (.tup (xs++ys))))
theorem op_catU:OpR X (binaryOp .Add) (rCatU X.K):=by
 intro pins s σ H x y v u Q I rx ry h
 obtain ⟨a,b,xs,ys,rfl,rfl,ha,hb,hz,q0,q1,q2⟩:=h
 by_cases hx:xs=[]
 ·subst hx
  cases rx;cases ry
  obtain ⟨its,r,p1,_⟩:=I.tuple ha
  obtain ⟨it2,r2,p2,_⟩:=I.tuple hb
  cases r
  obtain ⟨d,n,sl,e⟩:=MX.tup_items p1
  obtain ⟨d2,n2,sl2,e2⟩:=MX.tup_items p2
  exact concat_meets ⟨_,e,rfl⟩ ⟨_,e2,rfl⟩ noFill_tuple_add seq_tuple_add F.slot_tuple_add F.entry_tuple_add (F.args_tuple_add_2 _ _) (tuple_addW0 a b _ it2.toArray n n2 d d2 sl sl2 rfl) ⟨e,e2,.ref b,H,I,rfl,q0 rfl⟩
 ·exact op_catT pins s σ H _ _ v u Q I rx ry ⟨a,b,xs,ys,rfl,rfl,ha,hb,hx,hz,q1 hx,q2 hx⟩
noncomputable def tyD:D->String
 |.non => "NoneType"
 |.bl _ => "bool"
 |.int _ => "int"
 |.str _ => "str"
 |.lst _ => "list"
 |.tup _ => "tuple"
noncomputable def rIsD (K:PySem.W.Frag):List V->Hp->VK->Prop:=fun xs H Q=>∃x c d b,xs=[x,.ty c]/\Rep K H d x/\PySem.W.kitOne K (.type (tyD d)) (.type c)=some b/\Q (.bl b) H
theorem call_isD:CallR X (.builtin "isinstance") (rIsD X.K):=by
 intro pins s σ H xs us Q I r h
 obtain ⟨x,c,d,b,rfl,rd,hk,q⟩:=h
 obtain ⟨u,w',rfl,ru,rw'⟩:=vals2 r
 cases rw'
 have fin:∀tk,EP X pins σ Q (.bool b) { s with toks:=tk }:=fun tk=>⟨.bl b,H,I.tok tk,rfl,q⟩
 cases d with
 |non=>unfold Rep at rd;subst rd;cases ru;exact PySem.W.kia_one PySem.W.kitx_none I.kIn True.intro hk (fun z=>nomatch z) fin
 |bl k=>unfold Rep at rd;subst rd;cases ru;exact PySem.W.kia_one PySem.W.kitx_bool I.kIn True.intro hk (fun z=>nomatch z) fin
 |int k=>unfold Rep at rd;subst rd;obtain ⟨t,rfl⟩:=ru;exact PySem.W.kia_one PySem.W.kitx_int I.kIn True.intro hk (fun z=>nomatch z) fin
 |str k=>unfold Rep at rd;subst rd;obtain ⟨t,rfl⟩:=ru;exact PySem.W.kia_one PySem.W.kitx_str I.kIn True.intro hk (fun z=>nomatch z) fin
 |lst k=>
  unfold Rep at rd;obtain ⟨a,vs,rfl,hq,_⟩:=rd;cases ru
  obtain ⟨its,_,pl,_⟩:=I.list hq
  obtain ⟨o,e,c1,_⟩:=pl.isList
  exact PySem.W.kia_one PySem.W.kitx_list I.kIn ⟨o,e,c1⟩ hk (fun z=>nomatch z) fin
 |tup k=>
  unfold Rep at rd;obtain ⟨a,vs,rfl,hq,_⟩:=rd;cases ru
  obtain ⟨its,_,pl,_⟩:=I.tuple hq
  obtain ⟨o,e,c1,_⟩:=pl
  exact PySem.W.kia_one PySem.W.kitx_tuple I.kIn ⟨o,e,c1⟩ hk (fun z=>nomatch z) fin
end
end L2
namespace Z
open PySem L2
section
variable {K:PySem.W.Frag}{X:Cx}{a b e:Expr}{es:List Expr}{f g:FE}{fa:FA}{pos p:Pos}
theorem Reps.nil_iff {H:Hp}{ds:List D}{vs:List V}(h:Reps K H ds vs):vs=[]↔ds=[]:=by
 cases ds with
 |nil=>unfold Reps at h;simp [h]
 |cons d r=>unfold Reps at h;obtain ⟨v,t,rfl,_⟩:=h;simp
@[simp] noncomputable def unInts:List D->Option (List Int)
 |[]=>some []
 |.int i::r=>match unInts r with
  |some is=>some (i::is)
  |none=>none
 |_=>none
theorem unInts_eq:∀{ds:List D}{ns:List Int},unInts ds=some ns->ds=ns.map .int
 |[],ns,e=>by cases e;rfl
 |d::r,ns,e=>by
  cases d with
  |int i=>
   have e':(match unInts r with | some is=>some (i::is) | none=>none)=some ns:=e
   split at e'
   ·rename_i is h;cases e';rw [unInts_eq h];rfl
   ·cases e'
  |_=>cases e
end
end Z
namespace Z
open PySem L2
section
variable {K:PySem.W.Frag}{X:Cx}{a b e:Expr}{es:List Expr}{f g:FE}{fa:FA}{pos p:Pos}
theorem hu2 {A:Around}{k:Nat}(hr:Room k A):A.units+2 < cLine:=Nat.lt_of_le_of_lt (Nat.add_le_add_left (by decide:2<=64) _) hr.units
noncomputable def known (c:String):Prop:=c = "int" ∨ c = "bool" ∨ c = "str" ∨ c = "list" ∨ c = "tuple"
theorem kit_is {c:String}(h:known c) (d:D):PySem.W.kitOne K (.type (tyD d)) (.type c)=some (decide (c=tyD d∨(c = "int" /\ tyD d = "bool"))):=by
 rcases h with rfl | rfl | rfl | rfl | rfl<;>cases d<;>rfl
@[simp] noncomputable def cutD (xs:List D) (lo hi:Option Int):List D:=(xs.drop (HT.sIx xs.length 0 lo)).take (HT.sIx xs.length xs.length hi-HT.sIx xs.length 0 lo)
theorem Reps.cut {H:Hp}{ds:List D}{vs:List V}(h:Reps K H ds vs) (lo hi:Option Int):Reps K H (cutD ds lo hi) (cutV vs lo hi):=by
 unfold cutD cutV
 rw [Reps.length h]
 exact Reps.take _ (Reps.drop _ h)
end
end Z
namespace MX
open PySem
theorem rev_nolen:typeLookup (.type "list_reverseiterator") "__len__" = pure none:=by rw [typeLookup_type,builtinLookup_eq_fast];kernel_rfl
theorem rev_hint:typeLookup (.type "list_reverseiterator") "__length_hint__" = pure (some (.builtin "list_reverseiterator.__length_hint__")):=by rw [typeLookup_type,builtinLookup_eq_fast];kernel_rfl
theorem rev_sub:isSubtype (.type "list_reverseiterator") (.type "list_reverseiterator")=pure true:=by rw [isSubtype_type];kernel_rfl
section
variable {prog:Program}{w:World}{A:Around}{E:Value->Shared->Prop}{s:Shared}
theorem hint_rev {it l:Addr}{i:Int}{Q:Bool->Shared->Prop}(hit:s.heap.IsRevIter it l i) (h:Q false s):wpAny (model prog w) A (Builtin.List.listLengthHint (.ref it)) Q E s:=by
 unfold Builtin.List.listLengthHint
 refine wpAny_bind (wpAny_specialOf hit.typeIs rev_nolen ?_)
 refine wpAny_bind (m:=specialOf (.ref it) "__length_hint__") (wpAny_specialOf hit.typeIs rev_hint ?_)
 wp_delta
 refine wpAny_bind (wpAny_isInstance (T := "list_reverseiterator") (b:=true) hit.typeIs rev_sub ?_)
 exact wpAny_pure h
end
end MX
namespace L2
open PySem PySem.Spec PyProof.Rows
section
variable {X:Cx}
theorem Vals.rev:∀{xs:List V}{us:List Value},Vals xs us->Vals xs.reverse us.reverse
 |_,_,.nil=>.nil
 |_,_,.cons r t=>by
  rw [List.reverse_cons,List.reverse_cons]
  exact Vals.append (Vals.rev t) (.cons r .nil)
theorem items_rev {its:List Value}{acc:Array Value}(h:ItemsOf (fun i v=>its.toArray[its.toArray.size-1-i]?=some v) acc its.toArray.size):acc=its.reverse.toArray:=by
 obtain ⟨h1,h2⟩:=h
 apply Array.ext
 ·simpa using h1
 ·intro i a b
  have this:its.toArray[its.toArray.size-1-i]?=some acc[i]:=h2 i acc[i] (Array.getElem?_eq_getElem a)
  have lt:i < its.length:=by rw [h1] at a;simpa using a
  rw [List.getElem?_toArray,List.size_toArray,List.getElem?_eq_getElem (by omega)] at this
  rw [<-Option.some.inj this,show its.reverse.toArray[i]=its.reverse[i]'(by simpa using lt) from rfl,List.getElem_reverse]
end
end L2
namespace Z
open PySem L2
noncomputable def spLaw (K:PySem.W.Frag):Sp:=fun vs H Q _=>∃(a:Addr) (ns:List Int),vs=[.ref a]/\SqL K H a (ns.map V.int)/\ns.length<=63/\∀H',Q (.bl true) H'
theorem msk_nil (H:Hp):msk [] H=H:=by funext b;exact if_neg (by simp)
end Z
namespace Z
open PySem L2
section
variable {K:PySem.W.Frag}{X:Cx}
@[simp] noncomputable def unBls:List D->Option (List Bool)
 |[]=>some []
 |.bl b::r=>match unBls r with
  |some bs=>some (b::bs)
  |none=>none
 |_=>none
theorem unBls_eq:∀{ds:List D}{bs:List Bool},unBls ds=some bs->ds=bs.map .bl
 |[],bs,e=>by cases e;rfl
 |d::r,bs,e=>by
  cases d with
  |bl b=>
   have e':(match unBls r with | some bs=>some (b::bs) | none=>none)=some bs:=e
   split at e'
   ·rename_i cs h;cases e';rw [unBls_eq h];rfl
   ·cases e'
  |_=>cases e
theorem Reps.bls {H:Hp}:∀{bs:List Bool}{vs:List V},Reps K H (bs.map .bl) vs->vs=bs.map V.bl
 |[],vs,h=>by unfold Reps at h;exact h
 |b::bs,vs,h=>by
  rw [List.map_cons] at h
  unfold Reps at h
  obtain ⟨v,r,rfl,h1,h2⟩:=h
  unfold Rep at h1
  rw [h1,Reps.bls h2];rfl
end
end Z
namespace Z
open PySem L2
section
variable {K:PySem.W.Frag}{X:Cx}{a b:Expr}{f g:FE}{pos:Pos}
noncomputable def inS (i j:Str):Bool:=!(Builtin.Str.occurrences j i 0 j.length 1).isEmpty
end
section
variable {K:PySem.W.Frag}{X:Cx}{a b:Expr}{f g:FE}{pos:Pos}
theorem rep_nonD {K:PySem.W.Frag}{H:Hp}{d:D}{v:V}(r':Rep K H d v):decide (v=.non)=(match d with | .non=>true | _=>false):=by
 cases d with
 |non=>unfold Rep at r';subst r';rfl
 |bl _=>unfold Rep at r';subst r';rfl
 |int _=>unfold Rep at r';subst r';rfl
 |str _=>unfold Rep at r';subst r';rfl
 |lst _=>unfold Rep at r';obtain ⟨_,_,rfl,_⟩:=r';rfl
 |tup _=>unfold Rep at r';obtain ⟨_,_,rfl,_⟩:=r';rfl
end
end Z
namespace Z
open PySem L2
theorem relV_inj {v v':V}{u:Value}(h:RelV v u) (h':RelV v' u):v=v':=by
 cases v<;>cases v'<;>(first | (obtain ⟨t,rfl⟩:=h) | cases h)<;>(first | (obtain ⟨t',e⟩:=h';cases e) | cases h')<;>rfl
noncomputable def inD (d:D) (ds:List D):Bool:=ds.any fun e=>decide (eqD e d=some true)
noncomputable def askD (d:D) (ds:List D):Prop:=∀e∈ds,depD e<=50/\∃b,eqD e d=some b
section
variable {X:Cx}
theorem in_items {pins:List (Addr×Obj)}{σ:St}{H:Hp}{s:Shared}(I:Inv X pins σ H s) {d:D}{ds:List D}{x:V}{v:Value}{zs:List V}{its:List Value}(hu:X.A.units+60 < cLine) (hd:Rep X.K H d x) (rx:RelV x v) (ha:askD d ds) (hr:Reps X.K H ds zs) (hv:Vals zs its) :
  ∃ef:Value->Bool,(∀w,w∈its.toArray->SeqAt.EqAt X.A.in1 s w v (ef w))/\its.toArray.any ef=inD d ds:=by
 classical
 have l1:=hv.length
 have l2:=Reps.length hr
 refine ⟨fun w=>decide (∃e t,e∈ds/\Rep X.K H e t/\RelV t w/\eqD e d=some true),fun w hw=>?_,?_⟩
 ·have hw':w∈its:=by simpa using hw
  obtain ⟨j,hj,rfl⟩:=List.getElem_of_mem hw'
  obtain ⟨z,hz,rz⟩:=hv.at hj
  obtain ⟨e,he,re⟩:=Reps.get hr hz
  obtain ⟨h50,b,hb⟩:=ha e (List.mem_of_getElem? he)
  have k:decide (∃e t,e∈ds/\Rep X.K H e t/\RelV t its[j]/\eqD e d=some true)=b:=by
   cases b with
   |true=>exact decide_eq_true ⟨e,z,List.mem_of_getElem? he,re,rz,hb⟩
   |false=>
    refine decide_eq_false ?_
    rintro ⟨e',t,_,re',rt,h'⟩
    have:=relV_inj rt rz
    subst this
    rw [I.rep_inj re' re,hb] at h'
    cases h'
  show SeqAt.EqAt X.A.in1 s its[j] v (decide _)
  rw [k]
  exact eqAt_rep I 50 X.A.in1 e d z x _ _ b h50 (by show X.A.units+1+50 < cLine;omega) re hd rz rx hb
 ·rw [Bool.eq_iff_iff]
  unfold inD
  simp only [List.any_toArray,List.any_eq_true,decide_eq_true_eq]
  constructor
  ·rintro ⟨w,_,e,t,h1,_,_,h2⟩
   exact ⟨e,h1,h2⟩
  ·rintro ⟨e,h1,h2⟩
   obtain ⟨j,hj,rfl⟩:=List.getElem_of_mem h1
   have hj2:j < its.length:=by omega
   obtain ⟨z,hz,rz⟩:=hv.at hj2
   obtain ⟨e',he',re'⟩:=Reps.get hr hz
   rw [List.getElem?_eq_getElem hj] at he'
   cases he'
   exact ⟨its[j],List.getElem_mem hj2,ds[j],z,h1,re',rz,h2⟩
noncomputable def rInD (K:PySem.W.Frag) (neg:Bool):R2:=fun x y H Q=>∃d ds p zs,Rep K H d x/\y=.ref p/\(SqL K H p zs∨SqT K H p zs)/\Reps K H ds zs/\askD d ds/\Q (.bl (if neg then !inD d ds else inD d ds)) H
theorem op_inD (hu:X.A.units+60 < cLine):OpR X (compareOp .In) (rInD X.K false):=by
 intro pins s σ H x y v u Q I rx ry h
 obtain ⟨d,ds,p,zs,hd,rfl,hq,hr,ha,q⟩:=h
 cases ry
 rcases hq with hq | hq
 ·obtain ⟨its,rv,pl,hz⟩:=I.list hq
  obtain ⟨ef,h1,h2⟩:=in_items I hu hd rx ha hr rv
  refine SeqAt.in_listAt ef pl.isList h1 ⟨.bl _,H,I,rfl,?_⟩
  rw [h2];exact q
 ·obtain ⟨its,rv,pl,hz⟩:=I.tuple hq
  obtain ⟨ef,h1,h2⟩:=in_items I hu hd rx ha hr rv
  refine SeqAt.in_tupleAt ef pl h1 ⟨.bl _,H,I,rfl,?_⟩
  rw [h2];exact q
theorem op_ninD (hu:X.A.units+60 < cLine):OpR X (compareOp .NotIn) (rInD X.K true):=by
 intro pins s σ H x y v u Q I rx ry h
 obtain ⟨d,ds,p,zs,hd,rfl,hq,hr,ha,q⟩:=h
 cases ry
 rcases hq with hq | hq
 ·obtain ⟨its,rv,pl,hz⟩:=I.list hq
  obtain ⟨ef,h1,h2⟩:=in_items I hu hd rx ha hr rv
  refine SeqAt.notIn_listAt ef pl.isList h1 ⟨.bl _,H,I,rfl,?_⟩
  rw [h2];exact q
 ·obtain ⟨its,rv,pl,hz⟩:=I.tuple hq
  obtain ⟨ef,h1,h2⟩:=in_items I hu hd rx ha hr rv
  refine SeqAt.notIn_tupleAt ef pl h1 ⟨.bl _,H,I,rfl,?_⟩
  rw [h2];exact q
end
section
variable {K:PySem.W.Frag}{X:Cx}{a b:Expr}{f g:FE}{pos:Pos}
noncomputable def ask1 (d e:D):Bool:=decide (depD e<=50)&&(eqD e d).isSome
theorem ask_of {d:D}{ds:List D}(h:ds.all (ask1 d)=true):askD d ds:=fun e he=>by
 have:=List.all_eq_true.mp h e he
 unfold ask1 at this
 rw [Bool.and_eq_true] at this
 exact ⟨of_decide_eq_true this.1,Option.isSome_iff_exists.mp this.2⟩
end
end Z
namespace Z
open PySem L2
section
variable {K:PySem.W.Frag}{X:Cx}{m:List Addr}{H:Hp}{S:Sto}
noncomputable def rDIn (neg:Bool):R2:=fun y x H Q=>∃a o,x=.ref a/\DGet H a y o/\Q (.bl (if neg then !o.isSome else o.isSome)) H
theorem op_dIn (hu:X.A.units+1 < cLine):OpR X (compareOp .In) (rDIn false):=by
 intro pins s σ H x y v u Q I rx ry h
 obtain ⟨a,o,rfl,g,q⟩:=h
 cases ry
 exact d_in hu I g rx fun s3 I3=>⟨.bl o.isSome,H,I3,rfl,q⟩
theorem op_dNotIn (hu:X.A.units+1 < cLine):OpR X (compareOp .NotIn) (rDIn true):=by
 intro pins s σ H x y v u Q I rx ry h
 obtain ⟨a,o,rfl,g,q⟩:=h
 cases ry
 exact d_notIn hu I g rx fun s3 I3=>⟨.bl (!o.isSome),H,I3,rfl,q⟩
end
end Z
namespace Z
open PySem L2
theorem is_kV {P:Program}{w:World}{k:Key}{u:Value}(h:(mixKind P w).is k u=true):RelV (kV k) u:=by
 cases k with
 |inl i=>exact Value.isInt_shape (show Value.isInt i u=true from h)
 |inr x=>exact Value.isStrOf_shape (show Value.isStrOf x u=true from h)
end Z
namespace Z
open PySem L2
theorem Inv.freeze {X:Cx}{pins:List (Addr×Obj)}{σ:St}{H:Hp}{s:Shared}{a:Addr}{kvs:List (Key×V)}(I:Inv X pins σ H s) (e:H a=some (.dK kvs)):∃ob,Inv X pins σ (upd H a (.frz ob (.dK kvs))) s:=by
 have ok:ObjOk X.prog X.w H s.heap a (.dK kvs):=I.hok a _ e
 obtain ⟨ob,ho⟩:=ok.there
 refine ⟨ob,?_⟩
 have:=I.write (x:=a) (e:=a) (o:=.frz ob (.dK kvs)) (h':=s.heap) (t':=s.toks) (by rw [e];exact True.intro) (.inl rfl) (fun b u _ q=>q) ⟨ob,ho⟩ ⟨ho,ok⟩
 exact this
noncomputable def Itd (d:Addr) (ob:Obj) (kvs:List (Key×V)):It:=
 ⟨fun i H=>H d=some (.frz ob (.dK kvs))/\i < kvs.length,fun i H x H'=>H'=H/\∃kv,kvs[i]?=some kv/\x=kV kv.1,fun i H=>H d=some (.frz ob (.dK kvs))/\kvs.length<=i⟩
theorem frz_at {X:Cx}{pins:List (Addr×Obj)}{σ:St}{H:Hp}{s:Shared}{d:Addr}{ob:Obj}{kvs:List (Key×V)}(I:Inv X pins σ H s) (e:H d=some (.frz ob (.dK kvs))):(d==sysModules)=false/\∃vs es ep,KV kvs vs/\ob.data=.dict es ep/\s.heap.DictAt (mixKind X.prog X.w) d vs ep:=by
 obtain ⟨ho,ok⟩:=(show ObjOk X.prog X.w H s.heap d (.frz ob (.dK kvs)) from I.hok d _ e)
 obtain ⟨z,hd,vs,rel,o,es,ep,h1,h2,h3,r⟩:=(show ObjOk X.prog X.w H s.heap d (.dK kvs) from ok)
 rw [ho] at h1
 cases h1
 exact ⟨hd,vs,es,ep,rel,h3,ob,es,ho,h2,h3,r⟩
theorem turn_dict {P:Program}{w:World}{K:PySem.W.Frag}{tg:Expr}(d it:Addr) (ob:Obj) (kvs:List (Key×V)):Turn P w K tg (Itd d ob kvs) [it] it (fun i h=>∃es ep,ob.data=.dict es ep/\h.IsKeyIter it d i kvs.length ep) where
 mem:=by simp
 obj:=fun i h st b hb=>by
  have e:b=it:=by simpa using hb
  subst e
  obtain ⟨_,_,_,o,e,c,d⟩:=st
  exact ⟨o,e,fun v z=>by rw [d] at z;cases z⟩
 keep:=fun i h h' st k=>by
  obtain ⟨es,ep,e1,o,e,r⟩:=st
  exact ⟨es,ep,e1,o,k it (by simp) o e,r⟩
 item:=by
  intro X hP hw hK hc i pins s σ H E I hf st hg
  subst hP hw hK
  obtain ⟨hd,hi⟩:=hg
  obtain ⟨es,ep,e1,st⟩:=st
  obtain ⟨hs,vs,es',ep',rel,e2,at_⟩:=frz_at I hd
  rw [e1] at e2
  cases e2
  have hl:kvs.length=vs.length:=rel.length
  obtain ⟨f0,f1,f2,f3,f4,f5⟩:=hf it (by simp)
  have hiv:i < vs.length:=by omega
  have ek:(kvs[i]).1=(vs[i]).1:=by
   have h1:(kvs.map (·.1))[i]?=(vs.map (·.1))[i]?:=by rw [rel.keys]
   rw [List.getElem?_map,List.getElem?_map,List.getElem?_eq_getElem hi,List.getElem?_eq_getElem hiv] at h1
   exact Option.some.inj h1
  refine wpAny_pyNext_dict_item (knd:=mixKind X.prog X.w) (kvs:=vs) (by rw [<-hl];exact st) at_ (k:=(vs[i]).1) (v:=(vs[i]).2) (List.getElem?_eq_getElem hiv) fun key h' hk st' sb=>?_
  have I1:Inv X pins σ H { s with heap:=h' }:=I.turned (t':=s.toks) (fun b o hb e=>(sb.2 b hb).trans e) f0 f1 f3 f4 f5
  rw [<-hl] at st'
  exact ⟨key,rfl,PyProof.Rows.letGo_keyiter (s':={ s with heap:=h' }) st' ⟨kV (kvs[i]).1,H,I1,by rw [ek];exact is_kV hk,⟨rfl,kvs[i],List.getElem?_eq_getElem hi,rfl⟩,⟨es,ep,e1,st'⟩,fun b hb=>(hf b hb).1⟩⟩
 done:=by
  intro X hP hw hK hc i pins s σ H E I hf st hg
  subst hP hw hK
  obtain ⟨hd,hi⟩:=hg
  obtain ⟨es,ep,e1,st⟩:=st
  obtain ⟨hs,vs,es',ep',rel,e2,at_⟩:=frz_at I hd
  rw [e1] at e2
  cases e2
  have hl:kvs.length=vs.length:=rel.length
  obtain ⟨f0,f1,f2,f3,f4,f5⟩:=hf it (by simp)
  exact XH.dict_end (knd:=mixKind X.prog X.w) (kvs:=vs) (I.hdAt1 hc f0) (by rw [<-hl];exact st) at_ (List.getElem?_eq_none (by omega)) fun h' eb=>⟨rfl,I.turned (t':=s.toks) (fun b o hb e=>eb b o hb e) f0 f1 f3 f4 f5⟩
 self:=fun _ _ _ _ _ st h=>by
  obtain ⟨es,ep,e1,st⟩:=st
  exact wpAny_pyIter_keyiter st h
end Z
namespace L2
open PySem PySem.Spec PyProof.Rows
noncomputable def NF (X:Cx) (a:Addr):Prop:=∀o u,X.H₀ a≠some (.frz o u)
section
variable {X:Cx}{pins:List (Addr×Obj)}{σ:St}{H:Hp}{s:Shared}{a:Addr}
theorem Inv.nf {o:HO}(I:Inv X pins σ H s) (e:H a=some o) (hn:∀ob u,o≠.frz ob u):NF X a:=fun ob u z=>by
 have:=I.base.frzs a ob u z
 rw [e] at this
 exact hn ob u (Option.some.inj this)
theorem Inv.thaw {ob:Obj}{ws:List (Key×V)}(I:Inv X pins σ H s) (e:H a=some (.frz ob (.dK ws))) (nf:NF X a):Inv X pins σ (upd H a (.dK ws)) s:=by
 have no:∀b,H b=none->upd H a (.dK ws) b=none:=fun b n=>by
  rw [upd_ne fun z=>?_]
  ·exact n
  ·subst z;rw [e] at n;cases n
 refine ⟨I.ok,I.os,I.bare,⟨I.base.keep,I.base.slot,fun b o q n hx=>no b (I.base.free b o q n hx),I.base.there,fun b xs q=>?_,fun b o u q=>?_,fun b ps q=>?_⟩,I.loc,I.cell,no _ I.free,fun x c q=>no c (I.freeC x c q),fun p hp=>?_,fun b u q=>?_,I.len⟩
 ·have q':=I.base.tups b xs q
  rw [upd_ne fun z=>?_]
  ·exact q'
  ·subst z;rw [e] at q';cases q'
 ·have q':=I.base.frzs b o u q
  rw [upd_ne fun z=>?_]
  ·exact q'
  ·subst z;exact nf o u q
 ·obtain ⟨more,q'⟩:=I.base.tbls b ps q
  refine ⟨more,?_⟩
  rw [upd_ne fun z=>?_]
  ·exact q'
  ·subst z;rw [e] at q';cases q'
 ·obtain ⟨h1,h2,h3⟩:=I.pin p hp
  exact ⟨h1,no _ h2,h3⟩
 ·have st:∀{c:Addr}{o:HO},ObjOk X.prog X.w H s.heap c o->ObjOk X.prog X.w (upd H a (.dK ws)) s.heap c o:=fun {c o} q=>
   q.stay (fun _ _ _ z=>z) (fun d z=>by rw [upd_ne fun y=>by subst y;rw [e] at z;cases z];exact z) fun d xs z=>by rw [upd_ne fun y=>by subst y;rw [e] at z;cases z];exact z
  by_cases hb:b=a
  ·subst hb
   rw [upd_same] at q
   cases q
   obtain ⟨_,ok⟩:=(show ObjOk X.prog X.w H s.heap b (.frz ob (.dK ws)) from I.hok b _ e)
   exact st ok
  ·rw [upd_ne hb] at q
   exact st (I.hok b u q)
end
noncomputable def Thw (X:Cx) (P:Hp->Prop) (H:Hp):Prop:=P H∨∃a ob ws,H a=some (.frz ob (.dK ws))/\NF X a/\P (upd H a (.dK ws))
theorem Inv.thw {X:Cx}{pins:List (Addr×Obj)}{σ:St}{H:Hp}{s:Shared}{P:Hp->Prop}(I:Inv X pins σ H s) (h:Thw X P H):∃H',Inv X pins σ H' s/\P H':=by
 rcases h with h | ⟨a,ob,ws,e,nf,h⟩
 ·exact ⟨H,I,h⟩
 ·exact ⟨_,I.thaw e nf,h⟩
theorem ps_thaw {X:Cx}{st:Stmt}{t:TS}(h:PS X st t):PS X st (fun D σ H=>t { nx:=fun σ'=>Thw X (D.nx σ'),rt:=fun v=>Thw X (D.rt v),bk:=fun σ'=>Thw X (D.bk σ'),ct:=fun σ'=>Thw X (D.ct σ') } σ H):=by
 intro pins s σ H D I q
 refine thn (h pins s σ H _ I q) fun f s1 q1=>?_
 cases f with
 |next=>obtain ⟨σ1,H1,I1,q2⟩:=q1;obtain ⟨H2,I2,q3⟩:=I1.thw q2;exact ⟨σ1,H2,I2,q3⟩
 |cont=>obtain ⟨σ1,H1,I1,q2⟩:=q1;obtain ⟨H2,I2,q3⟩:=I1.thw q2;exact ⟨σ1,H2,I2,q3⟩
 |brk=>obtain ⟨σ1,H1,I1,q2⟩:=q1;obtain ⟨H2,I2,q3⟩:=I1.thw q2;exact ⟨σ1,H2,I2,q3⟩
 |ret v=>obtain ⟨w,σ1,H1,I1,r,q2⟩:=q1;obtain ⟨H2,I2,q3⟩:=I1.thw q2;exact ⟨w,σ1,H2,I2,r,q3⟩
theorem pe_thaw {X:Cx}{e:Expr}{t:TE}(h:PE X e t):PE X e (fun σ H Q=>t σ H fun v=>Thw X (Q v)):=by
 intro pins s σ H Q I q
 refine thn (h pins s σ H _ I q) fun u s1 ⟨v,H1,I1,r,q2⟩=>?_
 obtain ⟨H2,I2,q3⟩:=I1.thw q2
 exact ⟨v,H2,I2,r,q3⟩
section
variable {X:Cx}{tg:Expr}
noncomputable def iAny (X:Cx) (tl:TE):TI:=fun σ H R=>tl σ H fun x H1=>
 (∃a,x=.ref a/\(∃xs,SqL X.K H1 a xs)/\R (Itl X.K a) H1)∨(∃a,x=.ref a/\(∃xs,SqT X.K H1 a xs)/\R (Itt X.K a) H1)∨(∃z,x=.str z/\R (Its z) H1) ∨
 (∃a ob kvs,x=.ref a/\H1 a=some (.frz ob (.dK kvs))/\R (Z.Itd a ob kvs) H1)∨(∃a kvs,x=.ref a/\H1 a=some (.dK kvs)/\∀ob,NF X a->R (Z.Itd a ob kvs) (upd H1 a (.frz ob (.dK kvs))))
theorem pi_any {l:Expr}{tl:TE}(hl:PE X l tl):PI X tg l (iAny X tl):=by
 intro pins s σ H R I h
 refine thn (hl pins s σ H _ I h) fun v s1 ⟨x,H1,I1,r1,q1⟩=>?_
 have fp:∀{H':Hp},Inv X pins σ H' s1->∀b∈[s1.heap.objs.size],FpOk X pins H' b:=fun {H'} J b hb=>by
  have e:b=s1.heap.objs.size:=by simpa using hb
  subst e
  exact J.fpOk (Nat.le_refl _) (J.hok.fresh (Nat.le_refl _))
 have dct:∀{H':Hp}(a:Addr) (ob:Obj) (kvs:List (Key×V)),Inv X pins σ H' s1->H' a=some (.frz ob (.dK kvs))->R (Z.Itd a ob kvs) H'->wpAny (model X.prog X.w) X.A (pyIter (.ref a)) (PIE X pins σ tg R) X.xe s1:=fun {H'} a ob kvs J hq q=>by
  obtain ⟨hs,vs,es,ep,rel,e2,at_⟩:=Z.frz_at J hq
  have hl:kvs.length=vs.length:=rel.length
  refine wpAny_pyIter_dict hs at_ ?_
  exact ⟨s1.heap.objs.size,[s1.heap.objs.size],_,_,H',rfl,J.kept (t':=s1.toks) fun b o e=>Heap.get?_push_of_some _ e,Z.turn_dict a _ ob kvs,⟨es,ep,e2,_,Heap.get?_push_size _ rfl,rfl,by rw [hl];rfl⟩,fp J,q⟩
 rcases q1 with ⟨a,rfl,⟨xs,hq⟩,q⟩ | ⟨a,rfl,⟨xs,hq⟩,q⟩ | ⟨z,rfl,q⟩ | ⟨a,ob,kvs,rfl,hq,q⟩ | ⟨a,kvs,rfl,hq,q⟩
 ·cases r1
  obtain ⟨its,rv,p,hz⟩:=I1.list hq
  refine wpAny_pyIter_list p.isList ?_
  exact ⟨s1.heap.objs.size,[s1.heap.objs.size],_,_,H1,rfl,I1.kept (t':=s1.toks) fun b o e=>Heap.get?_push_of_some _ e,turn_list a _,⟨_,Heap.get?_push_size _ rfl,rfl,rfl⟩,fp I1,q⟩
 ·cases r1
  obtain ⟨its,rv,p,hz⟩:=I1.tuple hq
  refine wpAny_pyIter_tuple (show s1.heap.IsTuple a its.toArray from p) ?_
  exact ⟨s1.heap.objs.size,[s1.heap.objs.size],_,_,H1,rfl,I1.kept (t':=s1.toks) fun b o e=>Heap.get?_push_of_some _ e,turn_tuple a _,⟨_,Heap.get?_push_size _ rfl,rfl,rfl⟩,fp I1,q⟩
 ·obtain ⟨t,rfl⟩:=r1
  refine wpAny_pyIter_strU ?_
  exact ⟨s1.heap.objs.size,[s1.heap.objs.size],_,_,H1,rfl,I1.kept (t':=s1.toks) fun b o e=>Heap.get?_push_of_some _ e,turn_str _ z t,⟨⟨_,Heap.get?_push_size _ rfl,rfl,rfl⟩,Nat.zero_le _⟩,fp I1,q⟩
 ·cases r1
  exact dct a ob kvs I1 hq q
 ·cases r1
  obtain ⟨ob,I2⟩:=Z.Inv.freeze I1 hq
  exact dct a ob kvs I2 upd_same (q ob (I1.nf hq fun _ _ z=>by cases z))
end
end L2
namespace XE
open PySem
noncomputable def Chg (fs ch:List Addr) (h h':Heap):Prop:=∀b o,h.get? b=some o->b∉ch->(b∉fs->h'.get? b=some o)/\∃sl,h'.get? b=some { o with slots:=sl }
theorem Chg.trans {fs ch ch':List Addr}{h h1 h2:Heap}(a:Chg fs ch h h1) (b:Chg fs ch' h1 h2):Chg fs (ch++ch') h h2:=fun c o e hc=>by
 obtain ⟨a1,sl,a2⟩:=a c o e fun z=>hc (List.mem_append_left _ z)
 obtain ⟨b1,sl',b2⟩:=b c _ a2 fun z=>hc (List.mem_append_right _ z)
 refine ⟨fun hf=>?_,sl',b2⟩
 have q:=a1 hf
 rw [a2] at q
 have q':({ o with slots:=sl }:Obj)=o:=Option.some.inj q
 rw [q'] at b1
 exact b1 hf
theorem Chg.upd {fs:List Addr}{h:Heap}{a:Addr}{f:Obj->Obj}:Chg fs [a] h (h.update a f):=fun b o e hb=>by
 have e':(h.update a f).get? b=some o:=(Heap.get?_update_other _ _ (fun z=>hb (by simp [z]))).trans e
 exact ⟨fun _=>e',o.slots,e'⟩
theorem Chg.push {fs ch:List Addr}{h:Heap}{o:Obj}:Chg fs ch h (h.push o):=fun b ob e hb=>by
 have e':=Heap.get?_push_of_some o e
 exact ⟨fun _=>e',ob.slots,e'⟩
theorem Chg.sub {fs ch ch':List Addr}{h h':Heap}(a:Chg fs ch h h') (s:∀b∈ch,b∈ch'):Chg fs ch' h h':=fun b o e hb=>a b o e fun z=>hb (s b z)
noncomputable def ExO (P:Addr->Prop) (a:Addr) (C:Value) (dd:Option Addr) (fl:Value) (h:Heap):Prop:=
 P a/\∃oe vs,h.get? a=some oe/\oe.cls=C/\oe.dict=dd/\oe.data=.fields vs/\vs[2]?=some .none /\
  ((vs[1]?=some .none/\fl=.none)∨∃T oT ts,vs[1]?=some (.ref T)/\P T/\T≠a/\h.get? T=some oT/\oT.data=.fields ts/\ts[3]?=some fl)
theorem ExO.imp {P P':Addr->Prop}{a:Addr}{C:Value}{dd:Option Addr}{fl:Value}{h:Heap}(x:ExO P a C dd fl h) (k:∀b,P b->P' b):ExO P' a C dd fl h:=by
 obtain ⟨p,oe,vs,h1,h2,h3,h4,h5,h6⟩:=x
 exact ⟨k _ p,oe,vs,h1,h2,h3,h4,h5,h6.imp id fun ⟨T,oT,ts,q1,q2,q3⟩=>⟨T,oT,ts,q1,k _ q2,q3⟩⟩
section
variable {M:Model}{A:Around}{E:Value->Shared->Prop}{s:Shared}{P:Addr->Prop}{a L:Addr}{C:Value}{dd:Option Addr}{base:Heap}{env:Env}{outer:List Env}
noncomputable def Rec (P:Addr->Prop) (h:Heap) (ch:List Addr):Prop:=∀b∈ch,P b/\∃o vs,h.get? b=some o/\o.data=.fields vs
theorem newEntry {oe:Obj}{vs:Array Value}{head:Value}{hadNext:Bool}{Q:Unit->Shared->Prop}
  (hfr:A.frames=some (env::outer)) (hl:s.heap.FunFrames base (env::outer)) (hf:env.frame=some L)
  (pa:P a) (hP:∀b,s.heap.objs.size<=b->P b) (he:s.heap.get? a=some oe) (hc:oe.cls=C) (hdd:oe.dict=dd) (hd:oe.data=.fields vs) (h1:1 < vs.size) (h2:vs[2]?=some .none)
  (h:∀h',ExO P a C dd (rawInt L) h'->Chg ((env::outer).filterMap (·.frame)) [a] s.heap h'->Q () { s with heap:=h' }) :
  wpAny M A (do let f <-frameOf env;let pl <-entryPlaceOf L hadNext;let b <-EntryCells.newEntry head f .none (rawInt L) .none pl;setField (.ref a) 1 b) Q E s:=by
 have hene:a∉(env::outer).filterMap (·.frame):=fun hm=>by
  obtain ⟨_,o,ho,hnf⟩:=hl.mem hm
  rw [he] at ho;injection ho with ho;subst ho;exact hnf vs hd
 refine wpAny_bind (wpAny_frameOf_fun hfr hl hf fun h₁ hs₁=>?_)
 refine wpAny_bind (wpAny_entryPlaceOf fun pl hpl=>?_)
 unfold EntryCells.newEntry newFields
 refine wpAny_bind (wpAny_newObj_type ?_ (hpl.sizeOk5 _ _ _ _ _))
 have he₁:h₁.get? a=some oe:=(hs₁.2.1 a hene).trans he
 have he₂:=Heap.get?_push_of_some (h:=h₁) { cls:=.type "traceback", dict:=none,data:=.fields ([head,.ref L,.none,rawInt L,.none]++(if pl.isEmpty then List.replicate 6 Value.none else pl)).toArray } he₁
 refine wpAny_setField he₂ hd h1 (h _ ?_ ?_)
 ·have hTe:h₁.objs.size≠a:=Nat.ne_of_gt (Heap.lt_size he₁)
  have hd₃:=Obj.data_mapFields hd (·.setIfInBounds 1 (Value.ref h₁.objs.size))
  have he₃:=Heap.get?_update_self (Obj.mapFields (·.setIfInBounds 1 (Value.ref h₁.objs.size))) he₂ (Obj.isFreed_of_fields hd₃)
  have hT₃:=(Heap.get?_update_other (h₁.push { cls:=.type "traceback", dict:=none,data:=.fields ([head,.ref L,.none,rawInt L,.none]++(if pl.isEmpty then List.replicate 6 Value.none else pl)).toArray })
   (Obj.mapFields (·.setIfInBounds 1 (Value.ref h₁.objs.size))) (Ne.symm hTe)).trans (Heap.get?_push_size h₁ rfl)
  refine ⟨pa,_,_,he₃,(Obj.cls_mapFields _ _).trans hc,?_,hd₃,by rw [Array.getElem?_setIfInBounds_ne (by decide)];exact h2,.inr ⟨h₁.objs.size,_,_,by simp [h1],hP _ (by rw [hs₁.1];exact Nat.le_refl _),hTe,hT₃,rfl,by first | (simp;done) | (rcases hpl with rfl | ⟨_,_,_,_,_,_,_,rfl⟩<;>simp)⟩⟩
  obtain ⟨c,d,dt,sl⟩:=oe
  cases hd
  exact hdd
 ·have c1:Chg ((env::outer).filterMap (·.frame)) [a] s.heap h₁:=fun b o e hb=>⟨fun hf=>(hs₁.2.1 b hf).trans e,hs₁.2.2 b o e⟩
  exact ((c1.trans (Chg.push (ch:=[a]))).trans Chg.upd).sub fun b hb=>by simpa using hb
theorem note {fl:Value}{Q:Unit->Shared->Prop}(hfr:A.frames=some (env::outer)) (hl:s.heap.FunFrames base (env::outer)) (hf:env.frame=some L) (hP:∀b,s.heap.objs.size<=b->P b)
  (x:ExO P a C dd fl s.heap) (hfl:fl=.none∨fl=rawInt L)
  (h:∀h' ch,ExO P a C dd (rawInt L) h'->Chg ((env::outer).filterMap (·.frame)) ch s.heap h'->Rec P s.heap ch->Q () { s with heap:=h' }):wpAny M A (noteFrame (.ref a) env) Q E s:=by
 obtain ⟨pa,oe,vs,he,hc,hdd,hd,h2,tb⟩:=id x
 unfold noteFrame
 simp only [hf]
 rcases tb with ⟨h1,e⟩ | ⟨T,oT,ts,h1,pT,hTe,hT,hdT,h3⟩
 ·refine wpAny_bind (wpAny_field he hd h1 ?_)
  rw [if_neg (by decide)]
  refine newEntry hfr hl hf pa hP he hc hdd hd (Array.getElem?_eq_some_iff.mp h1).1 h2 fun h' q c=>h h' [a] q c fun b hb=>?_
  have:b=a:=by simpa using hb
  subst this
  exact ⟨pa,oe,vs,he,hd⟩
 ·refine wpAny_bind (wpAny_field he hd h1 ?_)
  rw [if_pos (show (Value.ref T != Value.none)=true from by simp)]
  refine wpAny_bind (wpAny_field hT hdT h3 ?_)
  by_cases z:fl=rawInt L
  ·subst z
   rw [if_pos (show (rawInt L==rawInt L)=true from by simp)]
   refine wpAny_pure (h s.heap [] x (fun b o e _=>⟨fun _=>e,o.slots,e⟩) fun b hb=>absurd hb (by simp))
  ·have e:fl=.none:=hfl.resolve_right z
   subst e
   rw [if_neg (show ¬((Value.none==rawInt L)=true) from by simp [rawInt])]
   refine wpAny_bind (wpAny_setField hT hdT (Array.getElem?_eq_some_iff.mp h3).1 ?_)
   have other:∀b,b≠T->(s.heap.update T (Obj.mapFields (·.setIfInBounds 3 Value.none))).get? b=s.heap.get? b:=fun b hb=>Heap.get?_update_other _ _ (Ne.symm hb)
   have noRecord:∀b o,s.heap.get? b=some o->(∀vs,o.data≠.fields vs)->b≠T:=fun b o hb hnf q=>by
    rw [q,hT] at hb;injection hb with hb;subst hb;exact hnf ts hdT
   refine newEntry (s:={ s with heap:=s.heap.update T (Obj.mapFields (·.setIfInBounds 3 Value.none)) }) hfr (hl.of_keeps fun b o hb hnf=>⟨o,(other b (noRecord b o hb hnf)).trans hb,rfl⟩) hf pa (fun b hb=>hP b (by rw [<-Heap.size_update s.heap T];exact hb)) ((other a (Ne.symm hTe)).trans he) hc hdd hd (Array.getElem?_eq_some_iff.mp h1).1 h2 fun h' q c=>?_
   refine h h' ([T]++[a]) q (Chg.upd.trans c) fun b hb=>?_
   have hb':b=T∨b=a:=by simpa using hb
   rcases hb' with z | z<;>subst z
   ·exact ⟨pT,oT,ts,hT,hdT⟩
   ·exact ⟨pa,oe,vs,he,hd⟩
theorem unmark {fl:Value}{Q:Unit->Shared->Prop}(x:ExO P a C dd fl s.heap) (h:∀h' ch,ExO P a C dd .none h'->(∀fs,Chg fs ch s.heap h')->Rec P s.heap ch->h'.objs.size=s.heap.objs.size->Q () { s with heap:=h' }):wpAny M A (setFlight (.ref a) none) Q E s:=by
 obtain ⟨pa,oe,vs,he,hc,hdd,hd,h2,tb⟩:=id x
 unfold setFlight
 rcases tb with ⟨h1,e⟩ | ⟨T,oT,ts,h1,pT,hTe,hT,hdT,h3⟩
 ·refine wpAny_bind (wpAny_field he hd h1 ?_)
  rw [if_neg (by decide)]
  subst e
  exact wpAny_pure (h s.heap [] x (fun fs b o e _=>⟨fun _=>e,o.slots,e⟩) (fun b hb=>absurd hb (by simp)) rfl)
 ·refine wpAny_bind (wpAny_field he hd h1 ?_)
  rw [if_pos (show (Value.ref T != Value.none)=true from by simp)]
  have hsz3:3 < ts.size:=(Array.getElem?_eq_some_iff.mp h3).1
  refine wpAny_setField hT hdT hsz3 (h _ [T] ?_ (fun fs=>Chg.upd) (fun b hb=>?_) (Heap.size_update _ _ _))
  ·exact ⟨pa,oe,vs,(Heap.get?_update_other _ _ hTe).trans he,hc,hdd,hd,h2,.inr ⟨T,_,_,h1,pT,hTe,Heap.get?_update_self _ hT (Obj.isFreed_of_fields (Obj.data_mapFields hdT _)),Obj.data_mapFields hdT _,by simp [hsz3]⟩⟩
  ·have:b=T:=by simpa using hb
   subst this
   exact ⟨pT,oT,ts,hT,hdT⟩
end
end XE
namespace L2
open PySem PySem.Spec PyProof.Rows
noncomputable def Yg (n:Nat) (H:Hp) (b:Addr):Prop:=n<=b/\H b=none
noncomputable def CX1 (P:Program) (w:World):CXT:=fun outer H s E e s'=>∃a C dd H',e=.ref a/\s'.os=s.os/\AllBare s'.gens/\Un (frs outer) [] H H' s.heap s'.heap/\HOk P w H' s'.heap/\XE.ExO (Yg s.heap.objs.size H') a C dd .none s'.heap/\E C dd H'
theorem un_chg {fs ch:List Addr}{H:Hp}{h h':Heap}(c:XE.Chg fs ch h h') (hf:∀b∈fs,H b=none):Un fs ch H H h h' where
 keep:=fun b o e n hb hc=>(c b o e hc).1 hb
 slot:=fun b o e n hb hc=>(c b o e hc).2
 free:=fun b o e n hc=>n
 there:=fun b o e hc=>let ⟨sl,q⟩:=(c b o e hc).2;⟨_,q⟩
 tups:=fun b xs q=>q
 frzs:=fun b o u q=>q
 tbls:=fun b ps q=>⟨#[],by simpa using q⟩
theorem hok_chg {P:Program}{w:World}{fs ch:List Addr}{H:Hp}{h h':Heap}(c:XE.Chg fs ch h h') (hf:∀b∈fs,H b=none) (hc:∀b∈ch,H b=none) (k:HOk P w H h):HOk P w H h':=fun a o e=>by
 have kp:∀b u,H b≠none->h.get? b=some u->h'.get? b=some u:=fun b u n q=>(c b u q fun z=>n (hc b z)).1 fun z=>n (hf b z)
 refine (k a o e).stay (fun b u hb q=>kp b u ?_ q) (fun b q=>q) fun b xs q=>q
 rcases hb with z | z
 ·rw [z,e];intro y;cases y
 ·rw [z];intro y;cases y
section
variable {X:Cx}{pins:List (Addr×Obj)}{σ:St}{H:Hp}{s:Shared}{a:Addr}{C:Value}{dd:Option Addr}{fl:Value}
theorem Inv.recs (I:Inv X pins σ H s) {ch:List Addr}(r:XE.Rec (Yg X.s₀.heap.objs.size H) s.heap ch) (hp:∀b∈ch,∀p∈X.pn++pins,p.1≠b) :
  ∀b∈ch,(b∈X.ex∨X.s₀.heap.objs.size<=b)/\b≠X.env.locals/\(∀x c,X.env.cells.lookup x=some c->c≠b)/\∀p∈X.pn++pins,p.1≠b:=fun b hb=>by
 obtain ⟨⟨y1,y2⟩,o,vs,e,d⟩:=r b hb
 refine ⟨.inr y1,fun z=>?_,fun x c q z=>?_,hp b hb⟩
 ·obtain ⟨m,⟨o',es,ep,ho',hd',_⟩,_⟩:=I.loc
  subst z
  rw [e] at ho';cases ho'
  rw [d] at hd';cases hd'
 ·obtain ⟨v,o',ho',hd'⟩:=I.cell x c q
  subst z
  rw [e] at ho';cases ho'
  rw [d] at hd';cases hd'
theorem leave_ok {M:Model}{Q:Unit->Shared->Prop}{E:Value->Shared->Prop}(I:Inv X pins σ H s) (hst:X.stack=X.env::X.outer) (hfr:X.env.frame=some X.env.locals) (hpn:X.pn=[])
  (x:XE.ExO (Yg X.s₀.heap.objs.size H) a C dd fl s.heap) (hfl:fl=.none∨fl=rawInt X.env.locals)
  (h:∀s',Inv X [] σ H s'->XE.ExO (Yg X.s₀.heap.objs.size H) a C dd .none s'.heap->Q () s'):wpAny M X.A (leaving X.env (.ref a)) Q E s:=by
 have I0:Inv X [] σ H s:=I.pins_of fun p hp=>absurd hp (by simp)
 have fr:X.A.frames=some (X.env::X.outer):=by rw [<-hst];exact I0.ok.frames
 have fu:s.heap.FunFrames X.base (X.env::X.outer):=by rw [<-hst];exact I0.stack
 have ff:∀b∈(X.env::X.outer).filterMap (·.frame),H b=none:=by rw [<-hst];exact I0.stkFree
 have np:∀b:Addr,∀p∈X.pn++[],p.1≠b:=fun b p hp=>by rw [hpn] at hp;exact absurd hp (by simp)
 unfold leaving
 refine wpAny_bind (XE.note fr fu hfr (fun b hb=>⟨Nat.le_trans I0.sz hb,I0.hok.fresh hb⟩) x hfl fun h1 ch x1 c1 r1=>?_)
 have I1:Inv X [] σ H { s with heap:=h1 }:=I0.call' rfl (by rw [hst];exact un_chg c1 ff) (hok_chg c1 ff (fun b hb=>(r1 b hb).1.2) I0.hok) I0.bare (I0.recs r1 fun b _=>np b)
 refine XE.unmark (s:={ s with heap:=h1 }) x1 fun h2 ch2 x2 c2 r2 _=>?_
 refine h _ ?_ x2
 exact I1.call' rfl (by rw [hst];exact un_chg (c2 _) ff) (hok_chg (c2 _) ff (fun b hb=>(r2 b hb).1.2) I1.hok) I1.bare (I1.recs r2 fun b _=>np b)
end
noncomputable def XW (X:Cx):XK:=fun C dd H=>∀(pins:List (Addr×Obj)) (σ:St) (s:Shared) (a:Addr),Inv X pins σ H s->XE.ExO (fun b=>Yg X.s₀.heap.objs.size H b/\∀p∈X.pn,p.1≠b) a C dd .none s.heap->X.xe (.ref a) s
theorem out1 {P:Program}{w:World}{K:PySem.W.Frag}{mg:Str->Option Value}{base:Heap}{N:List Str}{qual:Str}{scope:Scope}{f:Addr}{cd:Value}{A:Around}{outer:List Env}{s:Shared}{H:Hp}{E:XK}{C:Value}{dd:Option Addr}{H':Hp}
  (h:E C dd H'):XW (cxOf (CX1 P w) P w K mg base N qual scope f cd A outer s H E) C dd H':=fun pins σ s' a I x=>by
 refine leave_ok I rfl rfl rfl (x.imp fun b hb=>hb.1) (.inl rfl) fun s'' I2 x2=>?_
 exact ⟨a,C,dd,H',rfl,I2.os,I2.bare,I2.base,I2.hok,x2,h⟩
end L2
namespace Y
open PySem L2
open Z (msk msk_in msk_out msk_le msk_app msk_upd msk_new msk_newc lim lim_lt lim_le)
inductive A where
 |d (x:D)
 |p (k:Nat)
 |t (xs:List A)
 |k (v:V)
inductive Cel where
 |lst (ds:List D)
 |gen (xs:List A)
 |dic (kvs:List (Key×A))
 |ins (C:Addr) (fs:List (Str×A))
  |frd (kvs:List (Key×A))
  |exc (C:Addr) (fs:List (Str×A))
noncomputable abbrev Sto:=List Cel
noncomputable abbrev Rho:=List (Option A)
structure Exc where
 C:Addr
 fs:List (Str×A)
inductive R (α:Type) where
 |ok (x:α) (S:Sto)
 |ex (e:Exc) (S:Sto)
 |no
noncomputable def R.bind {α β:Type}:R α->(α->Sto->R β)->R β
 |.ok x S,f=>f x S
 |.ex e S,_=>.ex e S
 |.no,_=>.no
@[simp] theorem bind_ok {α β:Type}(x:α) (S:Sto) (f:α->Sto->R β):(R.ok x S).bind f=f x S:=rfl
@[simp] theorem bind_ex {α β:Type}(e:Exc) (S:Sto) (f:α->Sto->R β):(R.ex e S:R α).bind f=.ex e S:=rfl
@[simp] theorem bind_no {α β:Type}(f:α->Sto->R β):(R.no:R α).bind f=.no:=rfl
noncomputable def opt {α:Type}(o:Option α) (S:Sto):R α:=match o with
 |some x=>.ok x S
 |none=>.no
@[simp] theorem opt_some {α:Type}(x:α) (S:Sto):opt (some x) S=.ok x S:=rfl
@[simp] theorem opt_none {α:Type}(S:Sto):opt (none:Option α) S=.no:=rfl
inductive Ctl where
 |nx (r:Rho)
 |rt (v:A)
 |bk (r:Rho)
 |ct (r:Rho)
noncomputable abbrev FE:=Rho->Sto->R A
noncomputable abbrev FT:=Rho->Sto->R Bool
noncomputable abbrev FA:=Rho->Sto->R (List A)
noncomputable abbrev FL:=Rho->Sto->R (List D)
noncomputable abbrev FS:=Rho->Sto->R Ctl
noncomputable abbrev FF:=List A->Sto->R A
mutual
noncomputable def RA (K:PySem.W.Frag) (m:List Addr) (H:Hp):A->V->Prop
 |.d x,v=>Rep K (msk m H) x v
 |.p k,v=>∃a,m[k]?=some a/\v=.ref a
 |.t xs,v=>∃a vs,v=.ref a/\SqT K (msk m H) a vs/\RAs K m H xs vs
 |.k u,v=>v=u
noncomputable def RAs (K:PySem.W.Frag) (m:List Addr) (H:Hp):List A->List V->Prop
 |[],vs=>vs=[]
 |x::xs,vs=>∃v us,vs=v::us/\RA K m H x v/\RAs K m H xs us
end
noncomputable def RK {κ:Type}(K:PySem.W.Frag) (m:List Addr) (H:Hp):List (κ×A)->List (κ×V)->Prop:=Paired fun (p:κ×A) (q:κ×V)=>p.1=q.1/\RA K m H p.2 q.2
noncomputable def CelOk (K:PySem.W.Frag) (m:List Addr) (H:Hp) (a:Addr):Cel->Prop
 |.lst ds=>∃vs,H a=some (.lst vs)/\Reps K (msk m H) ds vs
 |.gen xs=>∃vs,H a=some (.lst vs)/\RAs K m H xs vs
 |.dic kvs=>∃ws,H a=some (.dK ws)/\RK K m H kvs ws
 |.ins C fs=>∃dx ws,H a=some (.ins C dx ws)/\RK K m H fs ws
 |.frd kvs=>∃ob ws,H a=some (.frz ob (.dK ws))/\RK K m H kvs ws
 |.exc C fs=>∃oe u vs,H a=some (.frz oe u)/\(oe.cls=.ref C/\oe.data=.fields vs/\vs[2]?=some .none)/\((fs=[]/\oe.dict=none)∨∃d ws,oe.dict=some d/\msk m H d=some (.xd ws)/\RK K m H fs ws)
structure Wd (K:PySem.W.Frag) (m:List Addr) (S:Sto) (H:Hp):Prop where
 len:m.length=S.length
 nd:m.Nodup
 cell:∀(k:Nat) (a:Addr) (c:Cel),m[k]?=some a->S[k]?=some c->CelOk K m H a c
structure RS (K:PySem.W.Frag) (m:List Addr) (H:Hp) (σ:St) (ρ:Rho):Prop where
 len:σ.length=ρ.length
 at_:∀(i:Nat) x,ρ[i]?=some (some x)->∃v,σ[i]?=some (some v)/\RA K m H x v
structure Xt (m:List Addr) (H:Hp) (m':List Addr) (H':Hp):Prop where
 ex:∃l,m'=m++l
 sm:Same (msk m H) (msk m' H')
 fz:∀a ob u,H a=some (.frz ob u)->H' a=some (.frz ob u)
section
variable {K:PySem.W.Frag}{m m' l:List Addr}{H H' H1 H2:Hp}{S S':Sto}{a b p:Addr}{o:HO}{x y:A}{xs ys:List A}{v u:V}{vs us:List V}
theorem RAs.nil:RAs K m H [] []:=by unfold RAs;rfl
theorem RAs.cons (h:RA K m H x v) (t:RAs K m H xs vs):RAs K m H (x::xs) (v::vs):=by unfold RAs;exact ⟨v,vs,rfl,h,t⟩
theorem RAs.nil_inv (h:RAs K m H [] vs):vs=[]:=by unfold RAs at h;exact h
theorem RAs.cons_inv (h:RAs K m H (x::xs) vs):∃v us,vs=v::us/\RA K m H x v/\RAs K m H xs us:=by unfold RAs at h;exact h
theorem RA.d_iff {d:D}:RA K m H (.d d) v↔Rep K (msk m H) d v:=by unfold RA;exact Iff.rfl
theorem RA.p_iff {k:Nat}:RA K m H (.p k) v↔∃a,m[k]?=some a/\v=.ref a:=by unfold RA;exact Iff.rfl
theorem RA.k_iff {w:V}:RA K m H (.k w) v↔v=w:=by unfold RA;exact Iff.rfl
theorem RA.t_iff:RA K m H (.t xs) v↔∃a vs,v=.ref a/\SqT K (msk m H) a vs/\RAs K m H xs vs:=by unfold RA;exact Iff.rfl
theorem RAs.length:∀{xs:List A}{vs:List V},RAs K m H xs vs->vs.length=xs.length
 |[],vs,h=>by rw [h.nil_inv];rfl
 |x::xs,vs,h=>by
  obtain ⟨v,us,rfl,_,h2⟩:=h.cons_inv
  rw [List.length_cons,List.length_cons,RAs.length h2]
theorem RAs.get:∀{xs:List A}{vs:List V}{i:Nat}{x:A},RAs K m H xs vs->xs[i]?=some x->∃v,vs[i]?=some v/\RA K m H x v
 |[],_,_,_,_,e=>by cases e
 |x'::xs,vs,i,x,h,e=>by
  obtain ⟨v,us,rfl,h1,h2⟩:=h.cons_inv
  cases i with
  |zero=>cases e;exact ⟨v,rfl,h1⟩
  |succ i=>exact RAs.get (i:=i) h2 (by simpa using e)
theorem RAs.app:∀{xs ys:List A}{vs us:List V},RAs K m H xs vs->RAs K m H ys us->RAs K m H (xs++ys) (vs++us)
 |[],_,_,_,h,t=>by rw [h.nil_inv];exact t
 |x::xs,_,_,_,h,t=>by
  obtain ⟨v,us,rfl,h1,h2⟩:=h.cons_inv
  exact RAs.cons h1 (RAs.app h2 t)
mutual
theorem RA.sub (hm:∀(k:Nat) a,m[k]?=some a->m'[k]?=some a) (e:Same (msk m H) (msk m' H')):∀{x:A}{v:V},RA K m H x v->RA K m' H' x v
 |.d x,v,h=>by unfold RA at h ⊢;exact Rep.same e h
 |.p k,v,h=>by unfold RA at h ⊢;obtain ⟨a,ha,hv⟩:=h;exact ⟨a,hm k a ha,hv⟩
 |.t xs,v,h=>by unfold RA at h ⊢;obtain ⟨a,vs,e1,h1,h2⟩:=h;exact ⟨a,vs,e1,Same.tup e h1,RAs.sub hm e h2⟩
 |.k u,v,h=>by unfold RA at h ⊢;exact h
theorem RAs.sub (hm:∀(k:Nat) a,m[k]?=some a->m'[k]?=some a) (e:Same (msk m H) (msk m' H')):∀{xs:List A}{vs:List V},RAs K m H xs vs->RAs K m' H' xs vs
 |[],vs,h=>by unfold RAs at h ⊢;exact h
 |x::xs,vs,h=>by
  unfold RAs at h ⊢
  obtain ⟨v,us,e1,h1,h2⟩:=h
  exact ⟨v,us,e1,RA.sub hm e h1,RAs.sub hm e h2⟩
end
theorem Xt.refl:Xt m H m H:=⟨⟨[],(List.append_nil m).symm⟩,Same.refl _,fun _ _ _ h=>h⟩
theorem Xt.trans {m1 m2:List Addr}(a:Xt m H m1 H1) (b:Xt m1 H1 m2 H2):Xt m H m2 H2:=by
 obtain ⟨l1,rfl⟩:=a.ex
 obtain ⟨l2,rfl⟩:=b.ex
 exact ⟨⟨l1++l2,List.append_assoc ..⟩,a.sm.trans b.sm,fun c ob u h=>b.fz c ob u (a.fz c ob u h)⟩
theorem Xt.at (e:Xt m H m' H') (k:Nat) (a:Addr) (h:m[k]?=some a):m'[k]?=some a:=by
 obtain ⟨l,rfl⟩:=e.ex
 rw [List.getElem?_append_left (List.getElem?_eq_some_iff.mp h).1];exact h
theorem RA.ext (e:Xt m H m' H') (h:RA K m H x v):RA K m' H' x v:=RA.sub e.at e.sm h
theorem RAs.ext (e:Xt m H m' H') (h:RAs K m H xs vs):RAs K m' H' xs vs:=RAs.sub e.at e.sm h
theorem RS.ext (e:Xt m H m' H') {σ:St}{ρ:Rho}(h:RS K m H σ ρ):RS K m' H' σ ρ:=⟨h.len,fun i x q=>let ⟨v,a,b⟩:=h.at_ i x q;⟨v,a,b.ext e⟩⟩
theorem RS.set {σ:St}{ρ:Rho}(h:RS K m H σ ρ) {i:Nat}{x:A}{v:V}(r:RA K m H x v):RS K m H (σ.set i (some v)) (ρ.set i (some x)):=by
 refine ⟨by rw [List.length_set,List.length_set,h.len],fun j y q=>?_⟩
 by_cases e:i=j
 ·subst e
  by_cases hi:i < ρ.length
  ·rw [List.getElem?_set_self hi] at q
   cases q
   exact ⟨v,List.getElem?_set_self (by rw [h.len];exact hi),r⟩
  ·rw [List.getElem?_eq_none (by rw [List.length_set];omega)] at q;cases q
 ·rw [List.getElem?_set_ne e] at q
  rw [List.getElem?_set_ne e]
  exact h.at_ j y q
theorem RK.sub {κ:Type}(hm:∀(k:Nat) a,m[k]?=some a->m'[k]?=some a) (e:Same (msk m H) (msk m' H')) {kvs:List (κ×A)}{ws:List (κ×V)}(h:RK K m H kvs ws):RK K m' H' kvs ws:=Paired.mapP h fun _ _ r=>⟨r.1,RA.sub hm e r.2⟩
theorem CelOk.sub {c:Cel}(hm:∀(k:Nat) a,m[k]?=some a->m'[k]?=some a) (e:Same (msk m H) (msk m' H')) (ha:H' a=H a) (h:CelOk K m H a c):CelOk K m' H' a c:=by
 cases c with
 |lst ds=>obtain ⟨vs,h1,h2⟩:=h;exact ⟨vs,ha.trans h1,Reps.same e h2⟩
 |gen xs=>obtain ⟨vs,h1,h2⟩:=h;exact ⟨vs,ha.trans h1,RAs.sub hm e h2⟩
 |dic kvs=>obtain ⟨ws,h1,h2⟩:=h;exact ⟨ws,ha.trans h1,RK.sub hm e h2⟩
 |ins C fs=>obtain ⟨dx,ws,h1,h2⟩:=h;exact ⟨dx,ws,ha.trans h1,RK.sub hm e h2⟩
 |frd kvs=>obtain ⟨ob,ws,h1,h2⟩:=h;exact ⟨ob,ws,ha.trans h1,RK.sub hm e h2⟩
 |exc C fs=>obtain ⟨oe,u,vs,h1,h2,h3⟩:=h;exact ⟨oe,u,vs,ha.trans h1,h2,h3.imp id fun ⟨d,ws,q1,q2,q3⟩=>⟨d,ws,q1,e _ _ q2,RK.sub hm e q3⟩⟩
theorem CelOk.some {c:Cel}(h:CelOk K m H a c):∃o,H a=some o:=by
 cases c with
 |lst ds=>obtain ⟨vs,h1,_⟩:=h;exact ⟨_,h1⟩
 |gen xs=>obtain ⟨vs,h1,_⟩:=h;exact ⟨_,h1⟩
 |dic kvs=>obtain ⟨ws,h1,_⟩:=h;exact ⟨_,h1⟩
 |ins C fs=>obtain ⟨dx,ws,h1,_⟩:=h;exact ⟨_,h1⟩
 |frd kvs=>obtain ⟨ob,ws,h1,_⟩:=h;exact ⟨_,h1⟩
 |exc C fs=>obtain ⟨oe,u,vs,h1,_⟩:=h;exact ⟨_,h1⟩
theorem Wd.at (w:Wd K m S H) {k:Nat}(h:m[k]?=some a):∃c,S[k]?=some c/\CelOk K m H a c:=by
 have lt:k < S.length:=by rw [<-w.len];exact (List.getElem?_eq_some_iff.mp h).1
 exact ⟨S[k],List.getElem?_eq_getElem lt,w.cell k a _ h (List.getElem?_eq_getElem lt)⟩
theorem Wd.notin (w:Wd K m S H) (h:H p=none):p∉m:=fun hp=>by
 obtain ⟨k,hk⟩:=List.getElem?_of_mem hp
 obtain ⟨c,_,q⟩:=w.at hk
 obtain ⟨o,e⟩:=q.some
 rw [h] at e;cases e
theorem Wd.new (w:Wd K m S H) (h:H p=none):Wd K m S (upd H p o):=by
 refine ⟨w.len,w.nd,fun k a c h1 h2=>?_⟩
 have q:=w.cell k a c h1 h2
 obtain ⟨o',e⟩:=q.some
 exact q.sub (fun _ _ z=>z) (msk_new h) (upd_ne (ne_of_none e h))
theorem fz_new (h:H p=none):∀a ob u,H a=some (.frz ob u)->upd H p o a=some (.frz ob u):=fun a ob u q=>by rw [upd_ne (ne_of_none q h)];exact q
theorem Xt.new (h:H p=none):Xt m H m (upd H p o):=⟨⟨[],(List.append_nil m).symm⟩,msk_new h,fz_new h⟩
theorem app_at {l:List Addr}(k:Nat) (a:Addr) (h:m[k]?=some a):(m++l)[k]?=some a:=by
 rw [List.getElem?_append_left (List.getElem?_eq_some_iff.mp h).1];exact h
theorem Wd.push (w:Wd K m S H) (h:H p=none) {c:Cel}(hc:CelOk K (m++[p]) (upd H p o) p c):Wd K (m++[p]) (S++[c]) (upd H p o):=by
 refine ⟨by rw [List.length_append,List.length_append,w.len];rfl,?_,fun k a c' h1 h2=>?_⟩
 ·rw [List.nodup_append]
  refine ⟨w.nd,by simp,fun a ha b hb z=>?_⟩
  have:b=p:=by simpa using hb
  subst this z
  exact w.notin h ha
 ·by_cases hk:k < m.length
  ·rw [List.getElem?_append_left hk] at h1
   rw [List.getElem?_append_left (by rw [<-w.len];exact hk)] at h2
   have q:=w.cell k a c' h1 h2
   obtain ⟨o',e⟩:=q.some
   exact q.sub app_at (msk_newc h) (upd_ne (ne_of_none e h))
  ·have e:k=m.length:=by
    have:=(List.getElem?_eq_some_iff.mp h1).1
    rw [List.length_append] at this
    simp at this;omega
   subst e
   rw [List.getElem?_append_right (Nat.le_refl _),Nat.sub_self] at h1
   rw [w.len,List.getElem?_append_right (Nat.le_refl _),Nat.sub_self] at h2
   cases h1;cases h2
   exact hc
theorem Xt.newc (h:H p=none):Xt m H (m++[p]) (upd H p o):=⟨⟨[p],rfl⟩,msk_newc h,fz_new h⟩
theorem sm_upd (h:a∈m):Same (msk m H) (msk m (upd H a o)):=by rw [msk_upd h];exact Same.refl _
theorem Xt.upd (h:a∈m) (nf:∀ob u,H a≠some (.frz ob u)):Xt m H m (upd H a o):=⟨⟨[],(List.append_nil m).symm⟩,sm_upd h,fun b ob u q=>by rw [upd_ne fun z=>by subst z;exact nf ob u q];exact q⟩
theorem Wd.push_lst (w:Wd K m S H) (h:H p=none) {ds:List D}{vs:List V}(r:Reps K (msk m H) ds vs):Wd K (m++[p]) (S++[.lst ds]) (upd H p (.lst vs)):=w.push h ⟨vs,upd_same,Reps.same (msk_newc h) r⟩
theorem Wd.set (w:Wd K m S H) {k:Nat}{a:Addr}(h1:m[k]?=some a) {c:Cel}(hc:CelOk K m (upd H a o) a c):Wd K m (S.set k c) (upd H a o):=by
 refine ⟨by rw [List.length_set];exact w.len,w.nd,fun j b c' q1 q2=>?_⟩
 by_cases e:k=j
 ·subst e
  rw [h1] at q1;cases q1
  have lt:k < S.length:=by rw [<-w.len];exact (List.getElem?_eq_some_iff.mp h1).1
  rw [List.getElem?_set_self lt] at q2;cases q2
  exact hc
 ·rw [List.getElem?_set_ne e] at q2
  refine (w.cell j b c' q1 q2).sub (fun _ _ z=>z) (sm_upd (List.mem_of_getElem? h1)) ?_
  rw [upd_ne fun z=>?_]
  subst z
  exact e ((List.getElem?_inj (List.getElem?_eq_some_iff.mp h1).1 w.nd).mp (h1.trans q1.symm))
theorem Wd.set_lst (w:Wd K m S H) {k:Nat}(h1:m[k]?=some a) {ds:List D}(r:Reps K (msk m H) ds vs):Wd K m (S.set k (.lst ds)) (upd H a (.lst vs)):=w.set h1 ⟨vs,upd_same,Reps.same (sm_upd (List.mem_of_getElem? h1)) r⟩
theorem Wd.set_gen (w:Wd K m S H) {k:Nat}(h1:m[k]?=some a) (r:RAs K m H xs vs):Wd K m (S.set k (.gen xs)) (upd H a (.lst vs)):=w.set h1 ⟨vs,upd_same,RAs.sub (fun _ _ z=>z) (sm_upd (List.mem_of_getElem? h1)) r⟩
theorem Wd.set_dic (w:Wd K m S H) {k:Nat}(h1:m[k]?=some a) {kvs:List (Key×A)}{ws:List (Key×V)}(r:RK K m H kvs ws):Wd K m (S.set k (.dic kvs)) (upd H a (.dK ws)):=w.set h1 ⟨ws,upd_same,RK.sub (fun _ _ z=>z) (sm_upd (List.mem_of_getElem? h1)) r⟩
end
mutual
noncomputable def A.lt (n:Nat):A->Bool
 |.d _=>true
 |.p i=>decide (i < n)
 |.t xs=>A.lts n xs
 |.k _=>true
noncomputable def A.lts (n:Nat):List A->Bool
 |[]=>true
 |x::xs=>A.lt n x&&A.lts n xs
end
noncomputable def Cel.lt (n:Nat):Cel->Bool
 |.lst _=>true
 |.gen xs=>A.lts n xs
 |.dic kvs=>kvs.all fun p=>p.2.lt n
 |.ins _ fs=>fs.all fun p=>p.2.lt n
 |.frd kvs=>kvs.all fun p=>p.2.lt n
 |.exc _ fs=>fs.all fun p=>p.2.lt n
section
variable {K:PySem.W.Frag}{m l:List Addr}{H H':Hp}{S S':Sto}{a:Addr}
mutual
theorem RA.lt:∀{x:A}{v:V},RA K m H x v->x.lt m.length=true
 |.d x,v,h=>by unfold A.lt;rfl
 |.p k,v,h=>by
  unfold RA at h;unfold A.lt
  obtain ⟨a,ha,_⟩:=h
  exact decide_eq_true (List.getElem?_eq_some_iff.mp ha).1
 |.t xs,v,h=>by
  unfold RA at h;unfold A.lt
  obtain ⟨a,vs,_,_,h2⟩:=h
  exact RAs.lts h2
 |.k u,v,h=>by unfold A.lt;rfl
theorem RAs.lts:∀{xs:List A}{vs:List V},RAs K m H xs vs->A.lts m.length xs=true
 |[],vs,h=>by unfold A.lts;rfl
 |x::xs,vs,h=>by
  unfold RAs at h;unfold A.lts
  obtain ⟨v,us,_,h1,h2⟩:=h
  rw [RA.lt h1,RAs.lts h2];rfl
end
mutual
theorem RA.cut:∀{x:A}{v:V},x.lt m.length=true->RA K (m++l) H x v->RA K m H x v
 |.d x,v,_,h=>by unfold RA at h ⊢;exact Rep.same msk_app h
 |.p k,v,hl,h=>by
  unfold RA at h ⊢;unfold A.lt at hl
  obtain ⟨a,ha,hv⟩:=h
  rw [List.getElem?_append_left (of_decide_eq_true hl)] at ha
  exact ⟨a,ha,hv⟩
 |.t xs,v,hl,h=>by
  unfold RA at h ⊢;unfold A.lt at hl
  obtain ⟨a,vs,e1,h1,h2⟩:=h
  exact ⟨a,vs,e1,Same.tup msk_app h1,RAs.cut hl h2⟩
 |.k u,v,_,h=>by unfold RA at h ⊢;exact h
theorem RAs.cut:∀{xs:List A}{vs:List V},A.lts m.length xs=true->RAs K (m++l) H xs vs->RAs K m H xs vs
 |[],vs,_,h=>by unfold RAs at h ⊢;exact h
 |x::xs,vs,hl,h=>by
  unfold RAs at h ⊢;unfold A.lts at hl
  obtain ⟨v,us,e1,h1,h2⟩:=h
  rw [Bool.and_eq_true] at hl
  exact ⟨v,us,e1,RA.cut hl.1 h1,RAs.cut hl.2 h2⟩
end
theorem RK.lts {κ:Type}:∀{kvs:List (κ×A)}{ws:List (κ×V)},RK K m H kvs ws->(kvs.all fun p=>p.2.lt m.length)=true
 |_,_,.nil=>rfl
 |_,_,.cons r t=>by rw [List.all_cons,RA.lt r.2,RK.lts t];rfl
theorem RK.cut {κ:Type}:∀{kvs:List (κ×A)}{ws:List (κ×V)},(kvs.all fun p=>p.2.lt m.length)=true->RK K (m++l) H kvs ws->RK K m H kvs ws
 |_,_,_,.nil=>.nil
 |_,_,hl,.cons r t=>by
  rw [List.all_cons,Bool.and_eq_true] at hl
  exact .cons ⟨r.1,RA.cut hl.1 r.2⟩ (RK.cut hl.2 t)
theorem CelOk.lt {c:Cel}(h:CelOk K m H a c):c.lt m.length=true:=by
 cases c with
 |lst ds=>rfl
 |gen xs=>obtain ⟨vs,_,h2⟩:=h;exact RAs.lts h2
 |dic kvs=>obtain ⟨ws,_,h2⟩:=h;exact RK.lts h2
 |ins C fs=>obtain ⟨dx,ws,_,h2⟩:=h;exact RK.lts h2
 |frd kvs=>obtain ⟨ob,ws,_,h2⟩:=h;exact RK.lts h2
 |exc C fs=>
  obtain ⟨oe,u,vs,_,_,h3⟩:=h
  rcases h3 with ⟨rfl,_⟩ | ⟨d,ws,_,_,q3⟩
  ·rfl
  ·exact RK.lts q3
theorem CelOk.cut {c:Cel}(hl:c.lt m.length=true) (h:CelOk K (m++l) H a c):CelOk K m H a c:=by
 cases c with
 |lst ds=>obtain ⟨vs,h1,h2⟩:=h;exact ⟨vs,h1,Reps.same msk_app h2⟩
 |gen xs=>obtain ⟨vs,h1,h2⟩:=h;exact ⟨vs,h1,RAs.cut hl h2⟩
 |dic kvs=>obtain ⟨ws,h1,h2⟩:=h;exact ⟨ws,h1,RK.cut hl h2⟩
 |ins C fs=>obtain ⟨dx,ws,h1,h2⟩:=h;exact ⟨dx,ws,h1,RK.cut hl h2⟩
 |frd kvs=>obtain ⟨ob,ws,h1,h2⟩:=h;exact ⟨ob,ws,h1,RK.cut hl h2⟩
 |exc C fs=>obtain ⟨oe,u,vs,h1,h2,h3⟩:=h;exact ⟨oe,u,vs,h1,h2,h3.imp id fun ⟨d,ws,q1,q2,q3⟩=>⟨d,ws,q1,msk_app _ _ q2,RK.cut hl q3⟩⟩
noncomputable def Okk (S S':Sto):Prop:=S.length<=S'.length/\∀k,k < S.length->S'[k]?=S[k]?∨∃c,S'[k]?=some c/\c.lt S.length=true
theorem Okk.pre {S T:Sto}:Okk S (S++T):=⟨by rw [List.length_append];omega,fun k hk=>.inl (List.getElem?_append_left hk)⟩
theorem Wd.cut (w0:Wd K m S H) (w:Wd K (m++l) S' H') (ok:Okk S S'):Wd K m (S'.take S.length) H':=by
 have lt:(S'.take S.length).length=S.length:=by rw [List.length_take];have:=ok.1;omega
 refine ⟨w0.len.trans lt.symm,(List.nodup_append.mp w.nd).1,fun k a c h1 h2=>?_⟩
 have hk:k < S.length:=by rw [<-w0.len];exact (List.getElem?_eq_some_iff.mp h1).1
 rw [List.getElem?_take_of_lt hk] at h2
 have q:=w.cell k a c (app_at k a h1) h2
 refine q.cut ?_
 rcases ok.2 k hk with e | ⟨c',e,hc⟩
 ·rw [e] at h2
  exact (w0.cell k a c h1 h2).lt
 ·rw [e] at h2;cases h2
  rw [w0.len];exact hc
end
mutual
noncomputable def A.rd (n:Nat) (S:Sto):Nat->A->Option D
 |_,.d x=>some x
 |_,.k _=>none
 |0,_=>none
 |f+1,.p i=>if i < n then none else match S[i]? with
  |some (.lst ds)=>some (.lst ds)
  |some (.gen xs)=>(A.rds n S f xs).map .lst
  |_=>none
 |f+1,.t xs=>(A.rds n S f xs).map .tup
noncomputable def A.rds (n:Nat) (S:Sto):Nat->List A->Option (List D)
 |_,[]=>some []
 |0,_=>none
 |f+1,x::xs=>match A.rd n S f x,A.rds n S f xs with
  |some z,some ds=>some (z::ds)
  |_,_=>none
end
noncomputable def fuel:Nat:=200
noncomputable def A.get (S:Sto) (x:A):Option D:=A.rd 0 S fuel x
@[simp] theorem get_d (S:Sto) (x:D):A.get S (.d x)=some x:=by unfold A.get fuel A.rd;rfl
section
variable {K:PySem.W.Frag}{m l:List Addr}{H:Hp}{S:Sto}
theorem rd_ok (w:Wd K (m++l) S H):∀(f:Nat),(∀(x:A) (v:V) (d:D),RA K (m++l) H x v->A.rd m.length S f x=some d->Rep K (msk m H) d v) /\
  (∀(xs:List A) (vs:List V) (ds:List D),RAs K (m++l) H xs vs->A.rds m.length S f xs=some ds->Reps K (msk m H) ds vs):=by
 intro f
 induction f with
 |zero=>
  refine ⟨fun x v d h e=>?_,fun xs vs ds h e=>?_⟩
  ·cases x with
   |d y=>unfold A.rd at e;cases e;unfold RA at h;exact Rep.same msk_app h
   |p k=>unfold A.rd at e;cases e
   |t xs=>unfold A.rd at e;cases e
   |k u=>unfold A.rd at e;cases e
  ·cases xs with
   |nil=>unfold A.rds at e;cases e;rw [h.nil_inv];exact Z.Reps.nil
   |cons x xs=>unfold A.rds at e;cases e
 |succ f ih=>
  refine ⟨fun x v d h e=>?_,fun xs vs ds h e=>?_⟩
  ·cases x with
   |d y=>unfold A.rd at e;cases e;unfold RA at h;exact Rep.same msk_app h
   |k u=>unfold A.rd at e;cases e
   |p k=>
    unfold A.rd at e;unfold RA at h
    obtain ⟨a,ha,rfl⟩:=h
    split at e
    ·cases e
    ·rename_i hk
     have am:a∉m:=fun hm=>by
      rw [List.getElem?_append_right (by omega)] at ha
      exact (List.nodup_append.mp w.nd).2.2 a hm a (List.mem_of_getElem? ha) rfl
     split at e
     ·rename_i ds hs
      cases e
      obtain ⟨vs,h1,h2⟩:=w.cell k a _ ha hs
      unfold Rep
      exact ⟨a,vs,rfl,SqL.of (by rw [msk_out am];exact h1),Reps.same msk_app h2⟩
     ·rename_i xs hs
      obtain ⟨vs,h1,h2⟩:=w.cell k a _ ha hs
      obtain ⟨ds,hd,rfl⟩:=Option.map_eq_some_iff.mp e
      unfold Rep
      exact ⟨a,vs,rfl,SqL.of (by rw [msk_out am];exact h1),ih.2 xs vs ds h2 hd⟩
     ·cases e
   |t xs=>
    unfold A.rd at e;unfold RA at h
    obtain ⟨a,vs,rfl,h1,h2⟩:=h
    obtain ⟨ds,hd,rfl⟩:=Option.map_eq_some_iff.mp e
    unfold Rep
    exact ⟨a,vs,rfl,Same.tup msk_app h1,ih.2 xs vs ds h2 hd⟩
  ·cases xs with
   |nil=>unfold A.rds at e;cases e;rw [h.nil_inv];exact Z.Reps.nil
   |cons x xs=>
    unfold A.rds at e
    obtain ⟨v,us,rfl,h1,h2⟩:=h.cons_inv
    split at e
    ·rename_i d ds e1 e2
     cases e
     exact Z.Reps.cons (ih.1 x v d h1 e1) (ih.2 xs us ds h2 e2)
    ·cases e
theorem RA.rep (w:Wd K m S H) {x:A}{v:V}{d:D}(r:RA K m H x v) (e:A.get S x=some d):Rep K H d v:=by
 have:=(rd_ok (m:=[]) (l:=m) w fuel).1 x v d r e
 rw [Z.msk_nil] at this
 exact this
noncomputable def fin (n:Nat) (S:Sto) (x:A):Option A:=if x.lt n=true then some x else (A.rd n S fuel x).map .d
@[simp] theorem fin_d (n:Nat) (S:Sto) (x:D):fin n S (.d x)=some (.d x):=by unfold fin A.lt;simp
theorem fin_ok (w:Wd K (m++l) S H) {x y:A}{v:V}(r:RA K (m++l) H x v) (e:fin m.length S x=some y):RA K m H y v:=by
 unfold fin at e
 split at e
 ·rename_i h;cases e;exact RA.cut h r
 ·obtain ⟨d,hd,rfl⟩:=Option.map_eq_some_iff.mp e
  unfold RA
  exact (rd_ok w fuel).1 x v d r hd
end
noncomputable def ExRep (K:PySem.W.Frag) (m:List Addr) (H:Hp) (e:Exc) (C:Value) (dd:Option Addr):Prop:=C=.ref e.C/\((e.fs=[]/\dd=none)∨∃d ws,dd=some d/\msk m H d=some (.xd ws)/\RK K m H e.fs ws)
noncomputable def Wish (X:Cx) (m:List Addr) (H:Hp) (e:Exc) (S:Sto):Prop:=∀(C:Value) (dd:Option Addr) (H':Hp) (m':List Addr),Xt m H m' H'->Wd X.K m' S H'->ExRep X.K m' H' e C dd->XW X C dd H'
noncomputable def Res {α:Type}(X:Cx) (m:List Addr) (H:Hp) (r:R α) (q:α->Sto->Prop):Prop:=match r with
 |.ok x S=>q x S
 |.ex e S=>Wish X m H e S
 |.no=>False
section
variable {X:Cx}{m m':List Addr}{H H':Hp}{α β:Type}{r:R α}{q q':α->Sto->Prop}
theorem Wish.step {e:Exc}{S:Sto}(x:Xt m H m' H') (h:Wish X m H e S):Wish X m' H' e S:=fun C dd H2 m2 x2 w eo=>h C dd H2 m2 (x.trans x2) w eo
theorem Res.step (x:Xt m H m' H') (h:Res X m H r q):Res X m' H' r q:=by
 cases r with
 |ok a S=>exact h
 |ex e S=>exact Wish.step x h
 |no=>exact h
theorem Res.imp (h:Res X m H r q) (f:∀a S,q a S->q' a S):Res X m H r q':=by
 cases r with
 |ok a S=>exact f a S h
 |ex e S=>exact h
 |no=>exact h
theorem Res.bind {f:α->Sto->R β}{q:β->Sto->Prop}(h:Res X m H (r.bind f) q):Res X m H r fun a S=>Res X m H (f a S) q:=by
 cases r with
 |ok a S=>exact h
 |ex e S=>exact h
 |no=>exact h
theorem Res.opt {o:Option α}{S:Sto}(h:Res X m H (opt o S) q):∃a,o=some a/\q a S:=by
 cases o with
 |some a=>exact ⟨a,rfl,h⟩
 |none=>exact False.elim h
end
noncomputable def tF (X:Cx) (f:FE):TE:=fun σ H Q=>∃ρ S m,RS X.K m H σ ρ/\Wd X.K m S H/\Res X m H (f ρ S) fun x S'=>∀v H' m',Xt m H m' H'->Wd X.K m' S' H'->RA X.K m' H' x v->Q v H'
noncomputable def tFT (X:Cx) (f:FT):TT:=fun σ H Q=>∃ρ S m,RS X.K m H σ ρ/\Wd X.K m S H/\Res X m H (f ρ S) fun b S'=>∀H' m',Xt m H m' H'->Wd X.K m' S' H'->Q b H'
noncomputable def tFA (X:Cx) (f:FA):TA:=fun σ H Q=>∃ρ S m,RS X.K m H σ ρ/\Wd X.K m S H/\Res X m H (f ρ S) fun xs S'=>∀vs H' m',Xt m H m' H'->Wd X.K m' S' H'->RAs X.K m' H' xs vs->Q vs H'
noncomputable def tFL (X:Cx) (f:FL):TE:=fun σ H Q=>∃ρ S m,RS X.K m H σ ρ/\Wd X.K m S H/\Res X m H (f ρ S) fun ds S'=>∀p vs H' m',Xt m H m' H'->Wd X.K m' S' H'->H' p=none->Reps X.K (msk m' H') ds vs->Q (.ref p) (upd H' p (.lst vs))
noncomputable abbrev QE (X:Cx) (e:Expr) (f:FE):Prop:=PE X e (tF X f)
noncomputable abbrev QT (X:Cx) (e:Expr) (f:FT):Prop:=PT X e (tFT X f)
noncomputable abbrev QW (X:Cx) (e:Expr) (f:FT):Prop:=PW X e (tFT X f)
noncomputable abbrev QA (X:Cx) (es:List Expr) (f:FA):Prop:=PA X es (tFA X f)
noncomputable abbrev QL (X:Cx) (e:Expr) (f:FL):Prop:=PE X e (tFL X f)
end Y
namespace Y
open PySem L2
open Z (msk msk_in msk_out msk_le msk_app msk_upd msk_new msk_newc lim lim_lt lim_le)
section
variable {X:Cx}{e:Expr}{es:List Expr}
theorem imE {t t':TE}(h:PE X e t) (i:∀σ H Q,t' σ H Q->t σ H Q):PE X e t':=fun pins s σ H Q I q=>h pins s σ H Q I (i σ H Q q)
theorem imT {t t':TT}(h:PT X e t) (i:∀σ H Q,t' σ H Q->t σ H Q):PT X e t':=fun pins s σ H Q I q=>h pins s σ H Q I (i σ H Q q)
theorem imW {t t':TT}(h:PW X e t) (i:∀σ H Q,t' σ H Q->t σ H Q):PW X e t':=fun wh pins s σ H Q I q=>h wh pins s σ H Q I (i σ H Q q)
theorem imA {t t':TA}(h:PA X es t) (i:∀σ H Q,t' σ H Q->t σ H Q):PA X es t':=fun pos pins s σ H Q I q=>h pos pins s σ H Q I (i σ H Q q)
theorem imS {st:Stmt}{t t':TS}(h:PS X st t) (i:∀D σ H,t' D σ H->t D σ H):PS X st t':=fun pins s σ H D I q=>h pins s σ H D I (i D σ H q)
theorem imSs {st:List Stmt}{t t':TS}(h:PSs X st t) (i:∀D σ H,t' D σ H->t D σ H):PSs X st t':=fun pins s σ H D I q=>h pins s σ H D I (i D σ H q)
theorem imG {t t':TG}(h:PG X e t) (i:∀v σ H Q,t' v σ H Q->t v σ H Q):PG X e t':=fun pins s σ H v u Q I r q=>h pins s σ H v u Q I r (i v σ H Q q)
theorem imGs {t t':TGs}(h:PGs X es t) (i:∀v σ H Q,t' v σ H Q->t v σ H Q):PGs X es t':=fun pins s σ H v u Q I r q=>h pins s σ H v u Q I r (i v σ H Q q)
theorem imI {tg:Expr}{t t':TI}(h:PI X tg e t) (i:∀σ H R,t' σ H R->t σ H R):PI X tg e t':=fun pins s σ H R I q=>h pins s σ H R I (i σ H R q)
theorem imO {e:Option Expr}{t t':TO}(h:PO X e t) (i:∀σ H Q,t' σ H Q->t σ H Q):PO X e t':=fun pins s σ H Q I q=>h pins s σ H Q I (i σ H Q q)
theorem imTs {t t':TT}(h:PTs X es t) (i:∀σ H Q,t' σ H Q->t σ H Q):PTs X es t':=fun pins s σ H Q I q=>h pins s σ H Q I (i σ H Q q)
end
@[simp] noncomputable def A.sh (S:Sto):A->Option D
 |.d x=>some x
 |.p i=>match S[i]? with
  |some (.lst ds)=>some (.lst ds)
  |_=>none
 |.t _=>none
 |.k _=>none
section
variable {K:PySem.W.Frag}{m:List Addr}{H:Hp}{S:Sto}{a:Addr}{x:A}{v:V}{d:D}{ds:List D}{vs:List V}
theorem sh_p {k:Nat}(e:A.sh S (.p k)=some d):∃ds,S[k]?=some (.lst ds)/\d=.lst ds:=by
 have e':(match S[k]? with | some (.lst ds)=>some (D.lst ds) | _=>none)=some d:=e
 split at e'
 ·rename_i ds h;cases e';exact ⟨ds,h,rfl⟩
 ·cases e'
theorem SqL.unm (h:SqL K (msk m H) a vs):SqL K H a vs:=Same.seq msk_le h
theorem SqT.unm (h:SqT K (msk m H) a vs):SqT K H a vs:=Same.tup msk_le h
theorem sh_lst (w:Wd K m S H) (r:RA K m H x v) (e:A.sh S x=some (.lst ds)):∃a vs,v=.ref a/\SqL K H a vs/\Reps K (msk m H) ds vs:=by
 cases x with
 |d y=>
  cases e
  have r2:=RA.d_iff.mp r
  unfold Rep at r2
  obtain ⟨a,vs,e,q,q2⟩:=r2
  exact ⟨a,vs,e,SqL.unm q,q2⟩
 |t y=>cases e
 |k y=>cases e
 |p k=>
  obtain ⟨a,ha,rfl⟩:=RA.p_iff.mp r
  obtain ⟨es,hd,z⟩:=sh_p e
  cases z
  obtain ⟨vs,e,q⟩:=w.cell k a _ ha hd
  exact ⟨a,vs,rfl,SqL.of e,q⟩
theorem sh_d (e:A.sh S x=some d) (h:∀es,d≠.lst es):x=.d d:=by
 cases x with
 |d y=>cases e;rfl
 |t y=>cases e
 |k y=>cases e
 |p k=>obtain ⟨es,_,z⟩:=sh_p e;exact absurd z (h es)
theorem sh_tup (r:RA K m H x v) (e:A.sh S x=some (.tup ds)):x=.d (.tup ds)/\∃a vs,v=.ref a/\SqT K H a vs/\Reps K (msk m H) ds vs:=by
 have e':=sh_d e (fun _ z=>by cases z)
 subst e'
 have r2:=RA.d_iff.mp r
 unfold Rep at r2
 obtain ⟨a,vs,e,q,q2⟩:=r2
 exact ⟨rfl,a,vs,e,SqT.unm q,q2⟩
theorem rep_int {i:Int}(r:RA K m H (.d (.int i)) v):v=.int i:=by have r2:=RA.d_iff.mp r;unfold Rep at r2;exact r2
theorem rep_str {z:Str}(r:RA K m H (.d (.str z)) v):v=.str z:=by have r2:=RA.d_iff.mp r;unfold Rep at r2;exact r2
theorem rep_bl {k:Bool}(r:RA K m H (.d (.bl k)) v):v=.bl k:=by have r2:=RA.d_iff.mp r;unfold Rep at r2;exact r2
theorem rep_non (r:RA K m H (.d .non) v):v=.non:=by have r2:=RA.d_iff.mp r;unfold Rep at r2;exact r2
theorem int_rep {i:Int}:RA K m H (.d (.int i)) (.int i):=by rw [RA.d_iff];unfold Rep;rfl
theorem str_rep {z:Str}:RA K m H (.d (.str z)) (.str z):=by rw [RA.d_iff];unfold Rep;rfl
theorem bl_rep {k:Bool}:RA K m H (.d (.bl k)) (.bl k):=by rw [RA.d_iff];unfold Rep;rfl
theorem non_rep:RA K m H (.d .non) .non:=by rw [RA.d_iff];unfold Rep;rfl
theorem new_tup {p:Addr}(w:Wd K m S H) (h:H p=none) (r:Reps K (msk m H) ds vs):RA K m (upd H p (.tup vs)) (.d (.tup ds)) (.ref p):=by
 rw [RA.d_iff]
 unfold Rep
 exact ⟨p,vs,rfl,SqT.of (by rw [msk_out (w.notin h)];exact upd_same),Reps.same (msk_new h) r⟩
theorem new_lst {p:Addr}(w:Wd K m S H) (h:H p=none) (r:Reps K (msk m H) ds vs):RA K m (upd H p (.lst vs)) (.d (.lst ds)) (.ref p):=by
 rw [RA.d_iff]
 unfold Rep
 exact ⟨p,vs,rfl,SqL.of (by rw [msk_out (w.notin h)];exact upd_same),Reps.same (msk_new h) r⟩
theorem new_t {p:Addr}{xs:List A}(w:Wd K m S H) (h:H p=none) (r:RAs K m H xs vs):RA K m (upd H p (.tup vs)) (.t xs) (.ref p):=by
 rw [RA.t_iff]
 exact ⟨p,vs,rfl,SqT.of (by rw [msk_out (w.notin h)];exact upd_same),RAs.ext (Xt.new h) r⟩
end
section
variable {X:Cx}{e a b c:Expr}{es:List Expr}{f g h:FE}{pos:Pos}
noncomputable def var (i:Nat):FE:=fun ρ S=>match ρ[i]? with
 |some (some x)=>.ok x S
 |_=>.no
noncomputable def cst (x:D):FE:=fun _ S=>.ok (.d x) S
noncomputable def cstA (x:A):FE:=fun _ S=>.ok x S
theorem qe_var {i:Nat}(h:PE X e (tVar i)):QE X e (var i):=imE h fun σ H Q q=>by
 obtain ⟨ρ,S,m,Rr,W,q⟩:=q
 unfold var at q
 split at q
 ·rename_i y hy
  obtain ⟨v,hv,r⟩:=Rr.at_ i _ hy
  exact ⟨v,hv,q v H m Xt.refl W r⟩
 ·exact q.elim
theorem qe_cstA {v:V}{x:A}(h:PE X e (tC v)) (hr:∀m H,RA X.K m H x v):QE X e (cstA x):=imE h fun σ H Q q=>by
 obtain ⟨ρ,S,m,Rr,W,q⟩:=q
 exact q v H m Xt.refl W (hr m H)
theorem qe_cst {v:V}{x:D}(h:PE X e (tC v)) (hr:∀m H,RA X.K m H (.d x) v):QE X e (cst x):=qe_cstA h hr
theorem qe_int {i:Int}{j pos}:QE X (.Constant (.int i) j pos) (cst (.int i)):=qe_cst pe_int fun _ _=>int_rep
theorem qe_bl {b:Bool}{j pos}:QE X (.Constant (.bool b) j pos) (cst (.bl b)):=qe_cst pe_bl fun _ _=>bl_rep
theorem qe_non {j pos}:QE X (.Constant .none j pos) (cst .non):=qe_cst pe_non fun _ _=>non_rep
theorem qe_str {x:Str}{j pos}:QE X (.Constant (.str x) j pos) (cst (.str x)):=qe_cst pe_str fun _ _=>str_rep
theorem qv (i:Nat) {x:Str}{pos:Pos}(hN:X.N[i]?=some x:=by rfl) (hv:Vis X.env.scope x:=by first | exact Or.inl rfl | exact Or.inr (Or.inl rfl) | exact Or.inr (Or.inr rfl)) (hd:(x==("__debug__" : Str))=false:=by decide)
  (hcd:(x==("__classdict__" : Str))=false:=by decide):QE X (.Name x pos) (var i):=qe_var (pe_var hN hv hd hcd)
noncomputable def nope {α:Type}:Rho->Sto->R α:=fun _ _=>.no
noncomputable abbrev O2:=A->A->Sto->R A
noncomputable def Aft (K:PySem.W.Frag) (m:List Addr) (H:Hp) (Q:VK) (z:A) (S:Sto):Prop:=∀t H' m',Xt m H m' H'->Wd K m' S H'->RA K m' H' z t->Q t H'
theorem Aft.step {K:PySem.W.Frag}{m m':List Addr}{H H':Hp}{Q:VK}{z:A}{S:Sto}(x:Xt m H m' H') (h:Aft K m H Q z S):Aft K m' H' Q z S:=fun t H2 m2 x2 w r=>h t H2 m2 (x.trans x2) w r
noncomputable def Fit2 (X:Cx) (r:R2) (o:O2):Prop:=∀{m:List Addr}{S:Sto}{H:Hp}{x y:A}{v u:V}{Q:VK},Wd X.K m S H->RA X.K m H x v->RA X.K m H y u->Res X m H (o x y S) (Aft X.K m H Q)->r v u H Q
noncomputable def bin (o:O2) (f g:FE):FE:=fun ρ S=>(f ρ S).bind fun x S=>(g ρ S).bind fun y S=>o x y S
theorem fit_op {r:R2}{o:O2}(hf:Fit2 X r o):∀σ H Q,tF X (bin o f g) σ H Q->tOp r (tF X f) (tF X g) σ H Q:=by
 rintro σ H Q ⟨ρ,S,m,Rr,W,q⟩
 refine ⟨ρ,S,m,Rr,W,q.bind.imp fun x S1 q v H1 m1 x1 w1 r1=>⟨ρ,S1,m1,Rr.ext x1,w1,(q.step x1).bind.imp fun y S2 q u H2 m2 x2 w2 r2=>?_⟩⟩
 exact hf w2 (r1.ext x2) r2 ((q.step x2).imp fun z S3 q=>Aft.step (x1.trans x2) q)
theorem qe_op {op:Operator}{r:R2}{o:O2}(ho:OpR X (binaryOp op) r) (hf:Fit2 X r o) (ha:QE X a f) (hb:QE X b g):QE X (.BinOp a op b pos) (bin o f g):=imE (pe_op ho ha hb) (fit_op hf)
theorem qe_cmp {op:CmpOp}{r:R2}{o:O2}(ho:OpR X (compareOp op) r) (hf:Fit2 X r o) (ha:QE X a f) (hb:QE X b g) (hm:behindInMarks op b=false):QE X (.Compare a [op] [b] pos) (bin o f g):=imE (pe_cmpR ho ha hb hm) (fit_op hf)
theorem qe_ix {r:R2}{o:O2}(hr:IxR X r) (hf:Fit2 X r o) (ha:QE X a f) (hb:QE X b g) (hs:PlainIx b):QE X (.Subscript a b pos) (bin o f g):=imE (pe_ix hr ha hb hs) (fit_op hf)
noncomputable def tst (f:FE):FT:=fun ρ S=>(f ρ S).bind fun x S=>match x with
 |.d (.bl b)=>.ok b S
 |_=>.no
theorem tst_of:∀σ H Q,tFT X (tst f) σ H Q->tTest (tF X f) σ H Q:=by
 rintro σ H Q ⟨ρ,S,m,Rr,W,q⟩
 refine ⟨ρ,S,m,Rr,W,q.bind.imp fun x S1 q v H1 m1 x1 w1 r1=>?_⟩
 split at q
 ·exact ⟨_,rep_bl r1,q H1 m1 x1 w1⟩
 ·exact q.elim
theorem tTest_mono {t t':TE}(h:∀σ H Q,t σ H Q->t' σ H Q):∀σ H Q,tTest t σ H Q->tTest t' σ H Q:=fun σ H Q q=>h σ H _ q
theorem qt_cmp {op:CmpOp}{r:R2}{o:O2}(ho:OpR X (compareOp op) r) (hf:Fit2 X r o) (ha:QE X a f) (hb:QE X b g) (hm:behindInMarks op b=false):QT X (.Compare a [op] [b] pos) (tst (bin o f g)):=
 imT (pt_cmpR ho ha hb hm) fun σ H Q q=>tTest_mono (fit_op hf) σ H Q (tst_of σ H Q q)
noncomputable abbrev O1:=A->Sto->R A
noncomputable def Fit1 (X:Cx) (r:V->Hp->VK->Prop) (o:O1):Prop:=∀{m:List Addr}{S:Sto}{H:Hp}{x:A}{v:V}{Q:VK},Wd X.K m S H->RA X.K m H x v->Res X m H (o x S) (Aft X.K m H Q)->r v H Q
noncomputable def un (o:O1) (f:FE):FE:=fun ρ S=>(f ρ S).bind o
theorem fit_un {r:V->Hp->VK->Prop}{o:O1}(hf:Fit1 X r o):∀σ H Q,tF X (un o f) σ H Q->tUn r (tF X f) σ H Q:=by
 rintro σ H Q ⟨ρ,S,m,Rr,W,q⟩
 exact ⟨ρ,S,m,Rr,W,q.bind.imp fun x S1 q v H1 m1 x1 w1 r1=>hf w1 r1 ((q.step x1).imp fun z S2 q=>Aft.step x1 q)⟩
theorem qe_un {op:UnaryOp}{r:V->Hp->VK->Prop}{o:O1}(ho:UnR X (unaryOp op) r) (hf:Fit1 X r o) (ha:QE X a f):QE X (.UnaryOp op a pos) (un o f):=imE (pe_un ho ha) (fit_un hf)
noncomputable def andT (f g:FT):FT:=fun ρ S=>(f ρ S).bind fun b S=>if b=true then g ρ S else .ok false S
noncomputable def orT (f g:FT):FT:=fun ρ S=>(f ρ S).bind fun b S=>if b=true then .ok true S else g ρ S
noncomputable def notT (f:FT):FT:=fun ρ S=>(f ρ S).bind fun b S=>.ok (!b) S
variable {tf tg:FT}{b':Expr}{rest:List Expr}
theorem qw_and1 (ha:QT X a tf):QW X (.BoolOp .And [a] pos) tf:=pw_and1 ha
theorem qw_or1 (ha:QT X a tf):QW X (.BoolOp .Or [a] pos) tf:=pw_or1 ha
theorem qw_and (ha:QT X a tf) (hb:QW X (.BoolOp .And (b::rest) pos) tg):QW X (.BoolOp .And (a::b::rest) pos) (andT tf tg):=imW (pw_and ha hb) fun σ H Q q=>by
 obtain ⟨ρ,S,m,Rr,W,q⟩:=q
 refine ⟨ρ,S,m,Rr,W,q.bind.imp fun k S1 q H1 m1 x1 w1=>?_⟩
 cases k with
 |true=>exact iteT ⟨ρ,S1,m1,Rr.ext x1,w1,(q.step x1).imp fun k S2 q H2 m2 x2 w2=>q H2 m2 (x1.trans x2) w2⟩
 |false=>exact iteF (q H1 m1 x1 w1)
theorem qw_or (ha:QT X a tf) (hb:QW X (.BoolOp .Or (b::rest) pos) tg):QW X (.BoolOp .Or (a::b::rest) pos) (orT tf tg):=imW (pw_or ha hb) fun σ H Q q=>by
 obtain ⟨ρ,S,m,Rr,W,q⟩:=q
 refine ⟨ρ,S,m,Rr,W,q.bind.imp fun k S1 q H1 m1 x1 w1=>?_⟩
 cases k with
 |true=>exact iteT (q H1 m1 x1 w1)
 |false=>exact iteF ⟨ρ,S1,m1,Rr.ext x1,w1,(q.step x1).imp fun k S2 q H2 m2 x2 w2=>q H2 m2 (x1.trans x2) w2⟩
theorem QW.qt {f:FT}(h:QW X e f):QT X e f:=PW.pt h
theorem qt_not (ha:QT X a tf):QT X (.UnaryOp .Not a pos) (notT tf):=imT (pt_not ha) fun σ H Q q=>by
 obtain ⟨ρ,S,m,Rr,W,q⟩:=q
 exact ⟨ρ,S,m,Rr,W,q.bind.imp fun k S1 q H1 m1 x1 w1=>q H1 m1 x1 w1⟩
theorem qe_one {op:BoolOp}(ha:QE X a f):QE X (.BoolOp op [a] pos) f:=pe_one ha
noncomputable def iteV (t:FT) (f g:FE):FE:=fun ρ S=>(t ρ S).bind fun b S=>if b=true then f ρ S else g ρ S
theorem qe_ite {c:Expr}(hc:QT X c tf) (ha:QE X a f) (hb:QE X b g):QE X (.IfExp c a b pos) (iteV tf f g):=imE (pe_ifExp hc ha hb) fun σ H Q q=>by
 obtain ⟨ρ,S,m,Rr,W,q⟩:=q
 refine ⟨ρ,S,m,Rr,W,q.bind.imp fun k S1 q H1 m1 x1 w1=>?_⟩
 cases k with
 |true=>exact iteT ⟨ρ,S1,m1,Rr.ext x1,w1,(q.step x1).imp fun z S2 q v H2 m2 x2 w2 r2=>q v H2 m2 (x1.trans x2) w2 r2⟩
 |false=>exact iteF ⟨ρ,S1,m1,Rr.ext x1,w1,(q.step x1).imp fun z S2 q v H2 m2 x2 w2 r2=>q v H2 m2 (x1.trans x2) w2 r2⟩
@[simp] noncomputable def A.tru (S:Sto) (x:A):Option Bool:=match x with
 |.t xs=>some (!xs.isEmpty)
 |.p i=>match S[i]? with
  |some (.lst ds)=>some (!ds.isEmpty)
  |some (.gen xs)=>some (!xs.isEmpty)
  |_=>none
 |.d y=>Z.D.tru y
 |.k _=>none
theorem RAs.empty {K:PySem.W.Frag}{m:List Addr}{H:Hp}{xs:List A}{vs:List V}(h:RAs K m H xs vs):vs.isEmpty=xs.isEmpty:=by
 cases xs with
 |nil=>rw [h.nil_inv];rfl
 |cons x r=>obtain ⟨v,us,rfl,_,_⟩:=h.cons_inv;rfl
theorem RA.tru {K:PySem.W.Frag}{m:List Addr}{S:Sto}{H:Hp}{x:A}{v:V}{b:Bool}(w:Wd K m S H) (r:RA K m H x v) (e:A.tru S x=some b):TruV K v H b:=by
 cases x with
 |d y=>exact Z.tru_of (Rep.same msk_le (RA.d_iff.mp r)) e
 |k y=>cases e
 |t xs=>
  obtain ⟨a,vs,rfl,h1,h2⟩:=RA.t_iff.mp r
  cases e
  exact .inr (.inl ⟨vs,SqT.unm h1,by rw [RAs.empty h2]⟩)
 |p k=>
  obtain ⟨a,ha,rfl⟩:=RA.p_iff.mp r
  have e':(match S[k]? with | some (.lst ds)=>some (!ds.isEmpty) | some (.gen xs)=>some (!xs.isEmpty) | _=>none)=some b:=e
  split at e'
  ·rename_i ds hd
   cases e'
   obtain ⟨vs,q1,q2⟩:=w.cell k a _ ha hd
   exact .inl ⟨vs,SqL.of q1,by rw [Z.Reps.empty q2]⟩
  ·rename_i xs hd
   cases e'
   obtain ⟨vs,q1,q2⟩:=w.cell k a _ ha hd
   exact .inl ⟨vs,SqL.of q1,by rw [RAs.empty q2]⟩
  ·cases e'
noncomputable def truT (f:FE):FT:=fun ρ S=>(f ρ S).bind fun x S=>opt (x.tru S) S
theorem qt_tru (ha:QE X a f) (he:∀whole,isTrue a X.env whole=(do let v <-whole;standAt a.pos;holding [v] (truthy v)):=by intro _;rfl):QT X a (truT f):=imT (pt_truth ha he) fun σ H Q q=>by
 obtain ⟨ρ,S,m,Rr,W,q⟩:=q
 refine ⟨ρ,S,m,Rr,W,q.bind.imp fun x S1 q v H1 m1 x1 w1 r1=>?_⟩
 obtain ⟨b,hb,q⟩:=q.opt
 exact ⟨b,r1.tru w1 hb,q H1 m1 x1 w1⟩
noncomputable def andV (f g:FE):FE:=fun ρ S=>(f ρ S).bind fun x S=>(opt (x.tru S) S).bind fun b S=>if b=true then g ρ S else .ok x S
noncomputable def orV (f g:FE):FE:=fun ρ S=>(f ρ S).bind fun x S=>(opt (x.tru S) S).bind fun b S=>if b=true then .ok x S else g ρ S
noncomputable def notV (f:FE):FE:=fun ρ S=>(f ρ S).bind fun x S=>(opt (x.tru S) S).bind fun b S=>.ok (.d (.bl (!b))) S
theorem qe_and (ha:QE X a f) (hb:QE X (.BoolOp .And (b::rest) pos) g):QE X (.BoolOp .And (a::b::rest) pos) (andV f g):=imE (Z.pe_andW ha hb) fun σ H Q q=>by
 obtain ⟨ρ,S,m,Rr,W,q⟩:=q
 refine ⟨ρ,S,m,Rr,W,q.bind.imp fun x S1 q v H1 m1 x1 w1 r1=>?_⟩
 obtain ⟨k,hk,q⟩:=q.bind.opt
 refine ⟨k,r1.tru w1 hk,?_⟩
 cases k with
 |true=>exact iteT ⟨ρ,S1,m1,Rr.ext x1,w1,(q.step x1).imp fun z S2 q v H2 m2 x2 w2 r2=>q v H2 m2 (x1.trans x2) w2 r2⟩
 |false=>exact iteF (q v H1 m1 x1 w1 r1)
theorem qe_or (ha:QE X a f) (hb:QE X (.BoolOp .Or (b::rest) pos) g):QE X (.BoolOp .Or (a::b::rest) pos) (orV f g):=imE (Z.pe_orW ha hb) fun σ H Q q=>by
 obtain ⟨ρ,S,m,Rr,W,q⟩:=q
 refine ⟨ρ,S,m,Rr,W,q.bind.imp fun x S1 q v H1 m1 x1 w1 r1=>?_⟩
 obtain ⟨k,hk,q⟩:=q.bind.opt
 refine ⟨k,r1.tru w1 hk,?_⟩
 cases k with
 |true=>exact iteT (q v H1 m1 x1 w1 r1)
 |false=>exact iteF ⟨ρ,S1,m1,Rr.ext x1,w1,(q.step x1).imp fun z S2 q v H2 m2 x2 w2 r2=>q v H2 m2 (x1.trans x2) w2 r2⟩
theorem qe_not (ha:QE X a f):QE X (.UnaryOp .Not a pos) (notV f):=imE (Z.pe_notW ha) fun σ H Q q=>by
 obtain ⟨ρ,S,m,Rr,W,q⟩:=q
 refine ⟨ρ,S,m,Rr,W,q.bind.imp fun x S1 q v H1 m1 x1 w1 r1=>?_⟩
 obtain ⟨k,hk,q⟩:=q.bind.opt
 exact ⟨k,r1.tru w1 hk,q _ H1 m1 x1 w1 bl_rep⟩
noncomputable def aNil:FA:=fun _ S=>.ok [] S
noncomputable def aCons (f:FE) (g:FA):FA:=fun ρ S=>(f ρ S).bind fun x S=>(g ρ S).bind fun xs S=>.ok (x::xs) S
variable {fa:FA}
theorem qa_nil:QA X [] aNil:=imA pa_nil fun σ H Q q=>by
 obtain ⟨ρ,S,m,Rr,W,q⟩:=q
 exact q [] H m Xt.refl W RAs.nil
theorem qa_cons (h:QE X e f) (hr:QA X es fa) (hs:noStar e=true:=by rfl):QA X (e::es) (aCons f fa):=imA (pac h hr hs) fun σ H Q q=>by
 obtain ⟨ρ,S,m,Rr,W,q⟩:=q
 exact ⟨ρ,S,m,Rr,W,q.bind.imp fun x S1 q v H1 m1 x1 w1 r1=>⟨ρ,S1,m1,Rr.ext x1,w1,(q.step x1).bind.imp fun xs S2 q vs H2 m2 x2 w2 r2=>q _ H2 m2 (x1.trans x2) w2 (RAs.cons (r1.ext x2) r2)⟩⟩
@[simp] noncomputable def datas:List A->Option (List D)
 |[]=>some []
 |.d x::r=>match datas r with
  |some ds=>some (x::ds)
  |none=>none
 |_::_=>none
theorem RAs.datas {K:PySem.W.Frag}{m:List Addr}{H:Hp}:∀{xs:List A}{vs:List V}{ds:List D},RAs K m H xs vs->Y.datas xs=some ds->Reps K (msk m H) ds vs
 |[],vs,ds,h,e=>by cases e;rw [h.nil_inv];exact Z.Reps.nil
 |.d x::xs,vs,ds,h,e=>by
  obtain ⟨v,us,rfl,h1,h2⟩:=h.cons_inv
  have e':(match Y.datas xs with | some ds=>some (x::ds) | none=>none)=some ds:=e
  split at e'
  ·rename_i es he;cases e';exact Z.Reps.cons (RA.d_iff.mp h1) (RAs.datas h2 he)
  ·cases e'
 |.p _::_,_,_,_,e=>by cases e
 |.t _::_,_,_,_,e=>by cases e
 |.k _::_,_,_,_,e=>by cases e
noncomputable def mkT (xs:List A):A:=match datas xs with
 |some ds=>.d (.tup ds)
 |none=>.t xs
@[simp] theorem mkT_nil:mkT []=.d (.tup []):=rfl
@[simp] theorem mkT_1 (x:D):mkT [.d x]=.d (.tup [x]):=rfl
@[simp] theorem mkT_2 (x y:D):mkT [.d x,.d y]=.d (.tup [x,y]):=rfl
@[simp] theorem mkT_3 (x y z:D):mkT [.d x,.d y,.d z]=.d (.tup [x,y,z]):=rfl
@[simp] theorem mkT_4 (x y z w:D):mkT [.d x,.d y,.d z,.d w]=.d (.tup [x,y,z,w]):=rfl
theorem mkT_ok {K:PySem.W.Frag}{m:List Addr}{S:Sto}{H:Hp}{p:Addr}{xs:List A}{vs:List V}(w:Wd K m S H) (h:H p=none) (r:RAs K m H xs vs):RA K m (upd H p (.tup vs)) (mkT xs) (.ref p):=by
 unfold mkT
 split
 ·rename_i ds hd;exact new_tup w h (r.datas hd)
 ·exact new_t w h r
noncomputable def tupF (f:FA):FE:=fun ρ S=>(f ρ S).bind fun xs S=>if xs.length<=lim then .ok (mkT xs) S else .no
theorem qe_tup {x1} (h:QA X es fa):QE X (.Tuple es x1 pos) (tupF fa):=imE (pe_tup h) fun σ H Q q=>by
 obtain ⟨ρ,S,m,Rr,W,q⟩:=q
 refine ⟨ρ,S,m,Rr,W,q.bind.imp fun xs S1 q vs H1 m1 x1 w1 r1=>?_⟩
 split at q
 ·rename_i hl
  exact ⟨by rw [r1.length];exact lim_le hl,fun p hp=>q _ _ _ (x1.trans (Xt.new hp)) (w1.new hp) (mkT_ok w1 hp r1)⟩
 ·exact q.elim
noncomputable def dL (f:FL):FE:=fun ρ S=>(f ρ S).bind fun ds S=>.ok (.d (.lst ds)) S
noncomputable def cL (f:FL):FE:=fun ρ S=>(f ρ S).bind fun ds S=>.ok (.p S.length) (S++[.lst ds])
theorem cell_last {K:PySem.W.Frag}{m:List Addr}{S:Sto}{H H':Hp}{p:Addr}(w:Wd K m S H):RA K (m++[p]) H' (.p S.length) (.ref p):=by
 rw [RA.p_iff,<-w.len]
 exact ⟨p,by simp,rfl⟩
theorem qe_L {fl:FL}(h:QL X e fl):QE X e (dL fl):=imE h fun σ H Q q=>by
 obtain ⟨ρ,S,m,Rr,W,q⟩:=q
 exact ⟨ρ,S,m,Rr,W,q.bind.imp fun ds S1 q p vs H1 m1 x1 w1 hp hr=>q _ _ _ (x1.trans (Xt.new hp)) (w1.new hp) (new_lst w1 hp hr)⟩
theorem qe_C {fl:FL}(h:QL X e fl):QE X e (cL fl):=imE h fun σ H Q q=>by
 obtain ⟨ρ,S,m,Rr,W,q⟩:=q
 exact ⟨ρ,S,m,Rr,W,q.bind.imp fun ds S1 q p vs H1 m1 x1 w1 hp hr=>q _ _ _ (x1.trans (Xt.newc hp)) (w1.push_lst hp hr) (cell_last w1)⟩
noncomputable def lstF (f:FA):FL:=fun ρ S=>(f ρ S).bind fun xs S=>match datas xs with
 |some ds=>if ds.length<=lim then .ok ds S else .no
 |none=>.no
theorem ql_lst (h:QA X es fa):QL X (.List es pos) (lstF fa):=imE (pe_lst h) fun σ H Q q=>by
 obtain ⟨ρ,S,m,Rr,W,q⟩:=q
 refine ⟨ρ,S,m,Rr,W,q.bind.imp fun xs S1 q vs H1 m1 x1 w1 r1=>?_⟩
 split at q
 ·rename_i ds hd
  have r2:=r1.datas hd
  split at q
  ·rename_i hl
   exact ⟨by rw [Reps.length r2];exact lim_le hl,fun p hp=>q p vs H1 m1 x1 w1 hp r2⟩
  ·exact q.elim
 ·exact q.elim
noncomputable def FitL2 (X:Cx) (r:R2) (o:A->A->Sto->Option (List D)):Prop:=∀{m:List Addr}{S:Sto}{H:Hp}{x y:A}{ds:List D}{v u:V}{Q:VK},Wd X.K m S H->RA X.K m H x v->RA X.K m H y u->o x y S=some ds->(∀p vs,H p=none->Reps X.K (msk m H) ds vs->Q (.ref p) (upd H p (.lst vs)))->r v u H Q
noncomputable def binL (o:A->A->Sto->Option (List D)) (f g:FE):FL:=fun ρ S=>(f ρ S).bind fun x S=>(g ρ S).bind fun y S=>opt (o x y S) S
theorem fit_opL {r:R2}{o:A->A->Sto->Option (List D)}(hf:FitL2 X r o):∀σ H Q,tFL X (binL o f g) σ H Q->tOp r (tF X f) (tF X g) σ H Q:=by
 rintro σ H Q ⟨ρ,S,m,Rr,W,q⟩
 refine ⟨ρ,S,m,Rr,W,q.bind.imp fun x S1 q v H1 m1 x1 w1 r1=>⟨ρ,S1,m1,Rr.ext x1,w1,(q.step x1).bind.imp fun y S2 q u H2 m2 x2 w2 r2=>?_⟩⟩
 obtain ⟨ds,hd,q⟩:=q.opt
 exact hf w2 (r1.ext x2) r2 hd fun p vs hp hr=>q p vs H2 m2 (x1.trans x2) w2 hp hr
end
end Y
namespace Y
open PySem L2
open Z (msk msk_in msk_out msk_le msk_app msk_upd msk_new msk_newc lim lim_lt lim_le)
noncomputable def Out (K:PySem.W.Frag) (m:List Addr) (H:Hp) (D:Ends) (c:Ctl) (S':Sto):Prop:=match c with
 |.nx ρ'=>∀σ' H' m',Xt m H m' H'->RS K m' H' σ' ρ'->Wd K m' S' H'->D.nx σ' H'
 |.rt x=>∀v H' m',Xt m H m' H'->Wd K m' S' H'->RA K m' H' x v->D.rt v H'
 |.bk ρ'=>∀σ' H' m',Xt m H m' H'->RS K m' H' σ' ρ'->Wd K m' S' H'->D.bk σ' H'
 |.ct ρ'=>∀σ' H' m',Xt m H m' H'->RS K m' H' σ' ρ'->Wd K m' S' H'->D.ct σ' H'
theorem Out.step {K:PySem.W.Frag}{m m1:List Addr}{H H1:Hp}{D:Ends}(e:Xt m H m1 H1) {c:Ctl}{S:Sto}(h:Out K m H D c S):Out K m1 H1 D c S:=by
 cases c with
 |nx r=>exact fun σ' H' m' x r w=>h σ' H' m' (e.trans x) r w
 |rt v=>exact fun v H' m' x w r=>h v H' m' (e.trans x) w r
 |bk r=>exact fun σ' H' m' x r w=>h σ' H' m' (e.trans x) r w
 |ct r=>exact fun σ' H' m' x r w=>h σ' H' m' (e.trans x) r w
noncomputable def tSF (X:Cx) (F:FS):TS:=fun D σ H=>∃ρ S m,RS X.K m H σ ρ/\Wd X.K m S H/\Res X m H (F ρ S) (Out X.K m H D)
noncomputable abbrev QS (X:Cx) (st:Stmt) (F:FS):Prop:=PS X st (tSF X F)
noncomputable abbrev QSs (X:Cx) (st:List Stmt) (F:FS):Prop:=PSs X st (tSF X F)
section
variable {X:Cx}{st:Stmt}{rest:List Stmt}{F G:FS}{pos:Pos}{e a b:Expr}{f g h:FE}
noncomputable def sNil:FS:=fun ρ S=>.ok (.nx ρ) S
noncomputable def sSeq (F G:FS):FS:=fun ρ S=>(F ρ S).bind fun c S=>match c with
 |.nx ρ'=>G ρ' S
 |c=>.ok c S
theorem qss_nil:QSs X [] sNil:=imSs pss_nil fun D σ H q=>by
 obtain ⟨ρ,S,m,Rr,W,q⟩:=q
 exact q σ H m Xt.refl Rr W
theorem seq_of {D:Ends}{σ:St}{H:Hp}(q:tSF X (sSeq F G) D σ H):tSeq (tSF X F) (tSF X G) D σ H:=by
 obtain ⟨ρ,S,m,Rr,W,q⟩:=q
 refine ⟨ρ,S,m,Rr,W,q.bind.imp fun c S1 q=>?_⟩
 cases c with
 |nx ρ'=>exact fun σ' H' m' x r w=>⟨ρ',S1,m',r,w,(q.step x).imp fun c S2 o=>o.step x⟩
 |rt v=>exact q
 |bk r=>exact q
 |ct r=>exact q
theorem qss_cons {b:List Stmt}(eb:b=st::rest) (h1:QS X st F) (h2:QSs X rest G):QSs X b (sSeq F G):=imSs (pssc eb h1 h2) fun D σ H q=>seq_of q
theorem qss_one {b:List Stmt}(eb:b=[st]) (h1:QS X st F):QSs X b F:=psso eb h1
theorem qs_no:QS X st nope:=fun pins s σ H D I q=>by obtain ⟨ρ,S,m,_,_,q⟩:=q;exact q.elim
noncomputable def sRet (f:FE):FS:=fun ρ S=>(f ρ S).bind fun x S=>.ok (.rt x) S
theorem qs_ret (he:QE X e f):QS X (.Return (some e) pos) (sRet f):=imS (ps_ret he) fun D σ H q=>by
 obtain ⟨ρ,S,m,Rr,W,q⟩:=q
 exact ⟨ρ,S,m,Rr,W,q.bind.imp fun x S1 q v H' m' x' w r=>q v H' m' x' w r⟩
noncomputable def sIf (t:FT) (F G:FS):FS:=fun ρ S=>(t ρ S).bind fun b S=>if b=true then F ρ S else G ρ S
theorem qs_if {c:Expr}{a b:List Stmt}{t:FT}(hc:QT X c t) (ha:QSs X a F) (hb:QSs X b G):QS X (.If c a b pos) (sIf t F G):=imS (ps_if hc ha hb) fun D σ H q=>by
 obtain ⟨ρ,S,m,Rr,W,q⟩:=q
 refine ⟨ρ,S,m,Rr,W,q.bind.imp fun k S1 q H1 m1 x1 w1=>?_⟩
 cases k with
 |true=>exact iteT ⟨ρ,S1,m1,Rr.ext x1,w1,(q.step x1).imp fun c S2 o=>o.step x1⟩
 |false=>exact iteF ⟨ρ,S1,m1,Rr.ext x1,w1,(q.step x1).imp fun c S2 o=>o.step x1⟩
noncomputable def sExpr (f:FE):FS:=fun ρ S=>(f ρ S).bind fun _ S=>.ok (.nx ρ) S
theorem qs_expr (he:QE X e f) (hs:swapsWith e none pos.line X.env=pure false:=by rfl):QS X (.Expr e pos) (sExpr f):=imS (ps_expr he hs) fun D σ H q=>by
 obtain ⟨ρ,S,m,Rr,W,q⟩:=q
 exact ⟨ρ,S,m,Rr,W,q.bind.imp fun x S1 q v H' m' x' w r=>q σ H' m' x' (Rr.ext x') w⟩
noncomputable abbrev FG:=A->Rho->Option Rho
noncomputable abbrev FGs:=List A->Rho->Option Rho
noncomputable def tGF (X:Cx) (g:FG):TG:=fun v σ H Q=>∃x ρ S m,RA X.K m H x v/\RS X.K m H σ ρ/\Wd X.K m S H/\∃ρ',g x ρ=some ρ'/\∀σ',RS X.K m H σ' ρ'->Q σ' H
noncomputable def tGsF (X:Cx) (g:FGs):TGs:=fun vs σ H Q=>∃xs ρ S m,RAs X.K m H xs vs/\RS X.K m H σ ρ/\Wd X.K m S H/\∃ρ',g xs ρ=some ρ'/\∀σ',RS X.K m H σ' ρ'->Q σ' H
noncomputable abbrev QG (X:Cx) (e:Expr) (g:FG):Prop:=PG X e (tGF X g)
noncomputable abbrev QGs (X:Cx) (es:List Expr) (g:FGs):Prop:=PGs X es (tGsF X g)
noncomputable def gN (i:Nat):FG:=fun x ρ=>some (ρ.set i (some x))
noncomputable def gsNil:FGs:=fun xs ρ=>match xs with
 |[]=>some ρ
 |_=>none
noncomputable def gsCons (g:FG) (h:FGs):FGs:=fun xs ρ=>match xs with
 |x::r=>(g x ρ).bind fun ρ1=>h r ρ1
 |[]=>none
noncomputable def gT (n:Nat) (g:FGs):FG:=fun x ρ=>match x with
 |.d (.tup ds)=>if ds.length=n then g (ds.map .d) ρ else none
 |.t xs=>if xs.length=n then g xs ρ else none
 |_=>none
theorem reps_RAs {K:PySem.W.Frag}{m:List Addr}{H:Hp}:∀{ds:List D}{vs:List V},Reps K (msk m H) ds vs->RAs K m H (ds.map .d) vs
 |[],vs,h=>by unfold Reps at h;subst h;exact RAs.nil
 |d::ds,vs,h=>by
  unfold Reps at h
  obtain ⟨v,us,rfl,h1,h2⟩:=h
  exact RAs.cons (RA.d_iff.mpr h1) (reps_RAs h2)
theorem qg_name {i:Nat}{x:Str}(hN:X.N.Nodup) (hi:X.N[i]?=some x) (hx:Loc X.env.scope x) (hf:X.fn x=true∨X.env.scope.names.lookup x=some .local:=by first | exact .inl rfl | exact .inr rfl | assumption):QG X (.Name x pos) (gN i):=
 imG (pg_name hN hi hx hf) fun v σ H Q q=>by
  obtain ⟨x,ρ,S,m,rd,Rr,W,ρ',eg,q⟩:=q
  cases eg
  exact q _ (Rr.set rd)
theorem qgs_nil:QGs X [] gsNil:=imGs pgs_nil fun v σ H Q q=>by
 obtain ⟨xs,ρ,S,m,rd,Rr,W,ρ',eg,q⟩:=q
 unfold gsNil at eg
 split at eg
 ·cases eg
  exact ⟨rd.nil_inv,q σ Rr⟩
 ·cases eg
theorem qgs_cons {es:List Expr}{g:FG}{h:FGs}(h1:QG X e g) (h2:QGs X es h) (hs:(assignEach (e::es) X.env).map (·.2)=assign e X.env::(assignEach es X.env).map (·.2):=by rfl):QGs X (e::es) (gsCons g h):=imGs (pgs_cons h1 h2 hs) fun v σ H Q q=>by
 obtain ⟨xs,ρ,S,m,rd,Rr,W,ρ',eg,q⟩:=q
 unfold gsCons at eg
 split at eg
 ·rename_i x r
  obtain ⟨ρ1,e1,eg⟩:=Option.bind_eq_some_iff.mp eg
  obtain ⟨u,us,rfl,r1,r2⟩:=rd.cons_inv
  exact ⟨u,us,rfl,x,ρ,S,m,r1,Rr,W,ρ1,e1,fun σ1 R1=>⟨r,ρ1,S,m,r2,R1,W,ρ',eg,q⟩⟩
 ·cases eg
theorem qg_tup {es:List Expr}{k:Nat}{g:FGs}{n:Nat}(hc:X.calm=true) (h:QGs X es g) (hn:(assignEach es X.env).length=n:=by rfl) (hst:(assignEach es X.env).findIdx? (·.1)=none:=by rfl):QG X (.Tuple es k pos) (gT n g):=
 imG (pg_tup hc h hn hst) fun v σ H Q q=>by
  obtain ⟨x,ρ,S,m,rd,Rr,W,ρ',eg,q⟩:=q
  unfold gT at eg
  split at eg
  ·rename_i ds
   split at eg
   ·rename_i hl
    have rd:=RA.d_iff.mp rd
    unfold Rep at rd
    obtain ⟨a,xs,rfl,h1,h2⟩:=rd
    exact ⟨a,xs,rfl,SqT.unm h1,by rw [Reps.length h2];exact hl,_,ρ,S,m,reps_RAs h2,Rr,W,ρ',eg,q⟩
   ·cases eg
  ·rename_i xs
   split at eg
   ·rename_i hl
    obtain ⟨a,vs,rfl,h1,h2⟩:=RA.t_iff.mp rd
    exact ⟨a,vs,rfl,SqT.unm h1,by rw [h2.length];exact hl,_,ρ,S,m,h2,Rr,W,ρ',eg,q⟩
   ·cases eg
  ·cases eg
noncomputable def sAsg (f:FE) (g:FG):FS:=fun ρ S=>(f ρ S).bind fun x S=>(opt (g x ρ) S).bind fun ρ' S=>.ok (.nx ρ') S
theorem qs_asg {tg:Expr}{g:FG}(he:QE X e f) (hg:QG X tg g) (hs:swapsWithSole [tg] e pos.line X.env=pure false:=by rfl) (hw:swappedStores [tg] e X.env=pure none:=by rfl)
  (h1:(assignEach [tg] X.env).map (·.2)=[assign tg X.env]:=by rfl):QS X (.Assign [tg] e pos) (sAsg f g):=imS (ps_asg he hg hs hw h1) fun D σ H q=>by
 obtain ⟨ρ,S,m,Rr,W,q⟩:=q
 refine ⟨ρ,S,m,Rr,W,q.bind.imp fun x S1 q v H' m' x' w r=>?_⟩
 obtain ⟨ρ',e2,q⟩:=q.bind.opt
 exact ⟨x,ρ,S1,m',r,Rr.ext x',w,ρ',e2,fun σ' R'=>q σ' H' m' x' R' w⟩
noncomputable def sSet (i:Nat) (f:FE):FS:=fun ρ S=>(f ρ S).bind fun x S=>.ok (.nx (ρ.set i (some x))) S
theorem qs_set {i:Nat}{x:Str}{pos':Pos}(hN:X.N.Nodup) (hi:X.N[i]?=some x) (hx:Loc X.env.scope x) (he:QE X e f) (hs:swapsWith e (some (.Name x pos')) pos.line X.env=pure false:=by rfl) (hf:X.fn x=true∨X.env.scope.names.lookup x=some .local:=by first | exact .inl rfl | exact .inr rfl | assumption) :
  QS X (.Assign [.Name x pos'] e pos) (sSet i f):=imS (ps_set hN hi hx he hs hf) fun D σ H q=>by
 obtain ⟨ρ,S,m,Rr,W,q⟩:=q
 exact ⟨ρ,S,m,Rr,W,q.bind.imp fun y S1 q v H' m' x' w r=>q _ H' m' x' ((Rr.ext x').set r) w⟩
noncomputable abbrev O3:=A->A->A->Sto->R Unit
noncomputable def Fit3 (X:Cx) (t:TSet) (o:O3):Prop:=∀{m:List Addr}{S:Sto}{H:Hp}{x y z:A}{v u t':V}{Q:Hp->Prop},Wd X.K m S H->RA X.K m H x v->RA X.K m H y u->RA X.K m H z t'->Res X m H (o x y z S) (fun _ S'=>∀H' m',Xt m H m' H'->Wd X.K m' S' H'->Q H')->t v u t' H Q
noncomputable def sPut (o:O3) (f g h:FE):FS:=fun ρ S=>(f ρ S).bind fun z S=>(g ρ S).bind fun x S=>(h ρ S).bind fun y S=>(o x y z S).bind fun _ S=>.ok (.nx ρ) S
theorem qs_put {t:TSet}{o:O3}{pos':Pos}(ht:PSet X t) (ho:Fit3 X t o) (he:QE X e f) (ha:QE X a g) (hb:QE X b h)
  (hpg:∀v,assign (.Subscript a b pos') X.env v=(do
   let ov <-holding [v] (eval a X.env)
   let iv <-holding [v,ov] (eval b X.env)
   standAt pos'
   holding [v,ov,iv] (setItem ov iv v)
   release [v,ov,iv] []):=by intro _;rfl)
  (hs:swapsWithSole [.Subscript a b pos'] e pos.line X.env=pure false:=by rfl) (hw:swappedStores [.Subscript a b pos'] e X.env=pure none:=by rfl)
  (h1:(assignEach [.Subscript a b pos'] X.env).map (·.2)=[assign (.Subscript a b pos') X.env]:=by rfl) :
  QS X (.Assign [.Subscript a b pos'] e pos) (sPut o f g h):=imS (ps_asg he (pg_sub ha hb ht hpg) hs hw h1) fun D σ H q=>by
 obtain ⟨ρ,S,m,Rr,W,q⟩:=q
 refine ⟨ρ,S,m,Rr,W,q.bind.imp fun z S0 q v0 H0 m0 x0 w0 r0=>⟨ρ,S0,m0,Rr.ext x0,w0,(q.step x0).bind.imp fun x S1 q v1 H1 m1 x1 w1 r1=>⟨ρ,S1,m1,(Rr.ext x0).ext x1,w1,(q.step x1).bind.imp fun y S2 q v2 H2 m2 x2 w2 r2=>?_⟩⟩⟩
 refine ho w2 (r1.ext x2) r2 ((r0.ext x1).ext x2) ((q.step x2).bind.imp fun _ S3 q H3 m3 x3 w3=>?_)
 exact q σ H3 m3 (x0.trans (x1.trans (x2.trans x3))) (((Rr.ext x0).ext x1).ext (x2.trans x3)) w3
noncomputable abbrev Ck:=Option (Nat×Cel×Bool)
noncomputable def ckOk:Ck->Sto->Prop
 |none,_=>True
 |some (k,c,_),S=>S[k]?=some c
structure ItOk (K:PySem.W.Frag) (m:List Addr) (H:Hp) (J:It) (xs:List A) (ck:Ck):Prop where
 go:∀m1 H1 S1 i,Xt m H m1 H1->Wd K m1 S1 H1->ckOk ck S1->i < xs.length->J.go i H1
 stop:∀m1 H1 S1,Xt m H m1 H1->Wd K m1 S1 H1->ckOk ck S1->J.stop xs.length H1
 yld:∀m1 H1 S1 (i:Nat) x v H2,Xt m H m1 H1->Wd K m1 S1 H1->ckOk ck S1->xs[i]?=some x->J.yld i H1 v H2->Xt m1 H1 m1 H2/\Wd K m1 S1 H2/\RA K m1 H2 x v
theorem ItOk.ext {K:PySem.W.Frag}{J:It}{xs:List A}{ck:Ck}{m m':List Addr}{H H':Hp}(io:ItOk K m H J xs ck) (x:Xt m H m' H'):ItOk K m' H' J xs ck:=
 ⟨fun m1 H1 S1 i y w c hi=>io.go m1 H1 S1 i (x.trans y) w c hi,fun m1 H1 S1 y w c=>io.stop m1 H1 S1 (x.trans y) w c,fun m1 H1 S i d v H2 y w c hd hy=>io.yld m1 H1 S i d v H2 (x.trans y) w c hd hy⟩
noncomputable abbrev FI:=Rho->Sto->R (List A×Ck)
noncomputable def ThOk (X:Cx) (m:List Addr) (H1 H':Hp) (ck:Ck):Prop:=match ck with
 |some (k,_,true)=>∃a ob ws,m[k]?=some a/\H1 a=some (.dK ws)/\H'=upd H1 a (.frz ob (.dK ws))/\NF X a
 |_=>H'=H1
noncomputable def tFI (X:Cx) (f:FI):TI:=fun σ H R'=>∃ρ S m,RS X.K m H σ ρ/\Wd X.K m S H/\Res X m H (f ρ S) fun w S'=>∀J H1 H' m',Xt m H m' H1->ThOk X m' H1 H' w.2->Wd X.K m' S' H'->ItOk X.K m' H' J w.1 w.2->R' J H'
noncomputable abbrev QI (X:Cx) (tg e:Expr) (f:FI):Prop:=PI X tg e (tFI X f)
open Classical in
noncomputable def forF (g:FG) (b:FS) (ck:Ck):List A->FS
 |[],ρ,S=>if ckOk ck S then .ok (.nx ρ) S else .no
 |x::xs,ρ,S=>if ckOk ck S then (opt (g x ρ) S).bind fun ρ1 S=>(b ρ1 S).bind fun c S=>match c with
  |.nx ρ2=>forF g b ck xs ρ2 S
  |.ct ρ2=>forF g b ck xs ρ2 S
  |.bk ρ2=>.ok (.nx ρ2) S
  |.rt v=>.ok (.rt v) S
  else .no
noncomputable def thaw {α:Type}(ck:Ck) (r:R α):R α:=match ck with
 |some (k,_,true)=>r.bind fun c S=>match S[k]? with
  |some (.frd kvs)=>.ok c (S.set k (.dic kvs))
  |_=>.no
 |_=>r
@[simp] theorem thaw_none {α:Type}(r:R α):thaw none r=r:=rfl
@[simp] theorem thaw_false {α:Type}(k:Nat) (c:Cel) (r:R α):thaw (some (k,c,false)) r=r:=rfl
noncomputable def sFor (fi:FI) (g:FG) (b:FS):FS:=fun ρ S=>(fi ρ S).bind fun w S=>thaw w.2 (forF g b w.2 w.1 ρ S)
theorem ThOk.x {X:Cx}{m:List Addr}{H1 H':Hp}{ck:Ck}(t:ThOk X m H1 H' ck):Xt m H1 m H':=by
 unfold ThOk at t
 split at t
 ·obtain ⟨a,ob,ws,h1,h2,rfl,_⟩:=t
  exact Xt.upd (List.mem_of_getElem? h1) fun ob u z=>by rw [h2] at z;cases z
 ·subst t;exact Xt.refl
theorem RS.sub {K:PySem.W.Frag}{m:List Addr}{H H':Hp}{σ:St}{ρ:Rho}(e:Same (msk m H) (msk m H')) (h:RS K m H σ ρ):RS K m H' σ ρ:=⟨h.len,fun i x q=>let ⟨v,a,b⟩:=h.at_ i x q;⟨v,a,b.sub (fun _ _ z=>z) e⟩⟩
theorem thaw_at {X:Cx}{K:PySem.W.Frag}{m m2:List Addr}{H1 H' H2:Hp}{S2:Sto}{k:Nat}{c:Cel}{kvs:List (Key×A)}(t:ThOk X m H1 H' (some (k,c,true))) (x:Xt m H' m2 H2) (w:Wd K m2 S2 H2) (e:S2[k]?=some (.frd kvs)) :
  ∃a ob ws,H2 a=some (.frz ob (.dK ws))/\NF X a/\Xt m H1 m2 (upd H2 a (.dK ws))/\Wd K m2 (S2.set k (.dic kvs)) (upd H2 a (.dK ws))/\Same (msk m2 H2) (msk m2 (upd H2 a (.dK ws))):=by
 obtain ⟨a,ob,ws,h1,h2,rfl,nf⟩:=t
 have hm2:=x.at k a h1
 obtain ⟨ob',ws',h3,h4⟩:=w.cell k a _ hm2 e
 have sm:=sm_upd (H:=H2) (o:=.dK ws') (List.mem_of_getElem? hm2)
 refine ⟨a,ob',ws',h3,nf,⟨x.ex,?_,fun b ob u z=>?_⟩,w.set_dic hm2 h4,sm⟩
 ·exact ((sm_upd (List.mem_of_getElem? h1)).trans x.sm).trans sm
 ·have hb:b≠a:=fun y=>by subst y;rw [h2] at z;cases z
  rw [upd_ne hb]
  exact x.fz b ob u (by rw [upd_ne hb];exact z)
noncomputable def Ends.thw (X:Cx) (D:Ends):Ends:={ nx:=fun σ'=>Thw X (D.nx σ'),rt:=fun v=>Thw X (D.rt v),bk:=fun σ'=>Thw X (D.bk σ'),ct:=fun σ'=>Thw X (D.ct σ') }
theorem Out.thw {X:Cx}{K:PySem.W.Frag}{m:List Addr}{H:Hp}{D:Ends}{c:Ctl}{S:Sto}(h:Out K m H D c S):Out K m H (Ends.thw X D) c S:=by
 cases c with
 |nx r=>exact fun σ' H' m' x r w=>.inl (h σ' H' m' x r w)
 |rt v=>exact fun v H' m' x w r=>.inl (h v H' m' x w r)
 |bk r=>exact fun σ' H' m' x r w=>.inl (h σ' H' m' x r w)
 |ct r=>exact fun σ' H' m' x r w=>.inl (h σ' H' m' x r w)
theorem thaw_res {m m':List Addr}{H H1 H':Hp}{ck:Ck}{r:R Ctl}{D:Ends}(x:Xt m H m' H1) (t:ThOk X m' H1 H' ck) (q:Res X m H (thaw ck r) (Out X.K m H D)):Res X m' H' r (Out X.K m' H' (Ends.thw X D)):=by
 have x':Xt m H m' H':=x.trans t.x
 unfold thaw at q
 split at q
 ·rename_i k c
  refine (q.bind.step x').imp fun c S o=>?_
  split at o
  ·rename_i kvs hk
   cases c with
   |nx r=>exact fun σ2 H2 m2 x2 r2 w2=>.inr (let ⟨a,ob,ws,h1,h2,h3,h4,h5⟩:=thaw_at t x2 w2 hk;⟨a,ob,ws,h1,h2,o σ2 _ m2 (x.trans h3) (r2.sub h5) h4⟩)
   |rt v=>exact fun v2 H2 m2 x2 w2 r2=>.inr (let ⟨a,ob,ws,h1,h2,h3,h4,h5⟩:=thaw_at t x2 w2 hk;⟨a,ob,ws,h1,h2,o v2 _ m2 (x.trans h3) h4 (r2.sub (fun _ _ z=>z) h5)⟩)
   |bk r=>exact fun σ2 H2 m2 x2 r2 w2=>.inr (let ⟨a,ob,ws,h1,h2,h3,h4,h5⟩:=thaw_at t x2 w2 hk;⟨a,ob,ws,h1,h2,o σ2 _ m2 (x.trans h3) (r2.sub h5) h4⟩)
   |ct r=>exact fun σ2 H2 m2 x2 r2 w2=>.inr (let ⟨a,ob,ws,h1,h2,h3,h4,h5⟩:=thaw_at t x2 w2 hk;⟨a,ob,ws,h1,h2,o σ2 _ m2 (x.trans h3) (r2.sub h5) h4⟩)
  ·exact o.elim
 ·exact (q.step x').imp fun c S o=>(o.step x').thw
theorem for_of {J:It}{g:FG}{b:FS}{D':Ends}{xs:List A}{ck:Ck}{m:List Addr}{H:Hp}(io:ItOk X.K m H J xs ck) :
  ∀i m1 σ1 H1,(∃ρ1 S1,i<=xs.length/\Xt m H m1 H1/\RS X.K m1 H1 σ1 ρ1/\Wd X.K m1 S1 H1/\Res X m H (forF g b ck (xs.drop i) ρ1 S1) (Out X.K m H D')) ->
   (J.stop i H1/\D'.nx σ1 H1)∨(J.go i H1/\∃N:St->Hp->Prop,(∀σ' H',N σ' H'->i < xs.length/\∃m' ρ' S',i+1<=xs.length/\Xt m H m' H'/\RS X.K m' H' σ' ρ'/\Wd X.K m' S' H'/\Res X m H (forF g b ck (xs.drop (i+1)) ρ' S') (Out X.K m H D')) /\
    ∀x H',J.yld i H1 x H'->tGF X g x σ1 H' fun σ2 H2=>tSF X b { D' with nx:=N,ct:=N,bk:=D'.nx } σ2 H2):=by
 rintro i m1 σ1 H1 ⟨ρ1,S1,hi,x,Rr,W,q⟩
 by_cases hlt:i < xs.length
 ·rw [List.drop_eq_getElem_cons hlt] at q
  unfold forF at q
  split at q
  ·rename_i hck
   refine .inr ⟨io.go m1 H1 S1 i x W hck hlt,fun σ' H'=>∃m' ρ' S',i+1<=xs.length/\Xt m H m' H'/\RS X.K m' H' σ' ρ'/\Wd X.K m' S' H'/\Res X m H (forF g b ck (xs.drop (i+1)) ρ' S') (Out X.K m H D'),fun σ' H' h=>⟨hlt,h⟩,fun y H2 hy=>?_⟩
   obtain ⟨x2,w2,rd⟩:=io.yld m1 H1 S1 i xs[i] y H2 x W hck (List.getElem?_eq_getElem hlt) hy
   obtain ⟨ρ2,e2,q⟩:=q.bind.opt
   refine ⟨xs[i],ρ1,S1,m1,rd,Rr.ext x2,w2,ρ2,e2,fun σ2 R2=>?_⟩
   have x3:Xt m H m1 H2:=x.trans x2
   refine ⟨ρ2,S1,m1,R2,w2,(q.bind.step x3).imp fun c S3 q=>?_⟩
   cases c with
   |nx r=>exact fun σ' H' m' y R3 W3=>⟨m',r,S3,hlt,x3.trans y,R3,W3,q⟩
   |ct r=>exact fun σ' H' m' y R3 W3=>⟨m',r,S3,hlt,x3.trans y,R3,W3,q⟩
   |bk r=>exact fun σ' H' m' y R3 W3=>q σ' H' m' (x3.trans y) R3 W3
   |rt v=>exact fun u H' m' y W3 r3=>q u H' m' (x3.trans y) W3 r3
  ·exact q.elim
 ·have e:i=xs.length:=by omega
  subst e
  rw [List.drop_length] at q
  unfold forF at q
  split at q
  ·rename_i hck
   exact .inl ⟨io.stop m1 H1 S1 x W hck,q σ1 H1 m1 x Rr W⟩
  ·exact q.elim
theorem qs_for {tg iter:Expr}{body:List Stmt}{fi:FI}{g:FG}{b:FS}(hp:PassesOwn (model X.prog X.w) X.A X.env X.xe) (hc:X.calm=true) (hi:QI X tg iter fi) (hg:QG X tg g) (hb:QSs X body b)
  (hs:∀x,foldedSetIterable iter X.env x=pure x:=by intro _;rfl):QS X (.For tg iter body [] pos) (sFor fi g b):=
 imS (ps_thaw (ps_for hp hc hi hg hb hs)) fun D' σ H q=>by
  obtain ⟨ρ,S,m,Rr,W,q⟩:=q
  refine ⟨ρ,S,m,Rr,W,q.bind.imp fun w S1 q J H1 H' m' x1 t' w' io=>?_⟩
  have q':=thaw_res x1 t' q
  have x':Xt m H m' H':=x1.trans t'.x
  refine ⟨fun i n σ1 H1=>n=w.1.length-i/\∃m1 ρ1 S1,i<=w.1.length/\Xt m' H' m1 H1/\RS X.K m1 H1 σ1 ρ1/\Wd X.K m1 S1 H1/\Res X m' H' (forF g b w.2 (w.1.drop i) ρ1 S1) (Out X.K m' H' (Ends.thw X D')),⟨_,rfl,m',ρ,S1,Nat.zero_le _,Xt.refl,Rr.ext x',w',q'⟩,?_⟩
  rintro i n σ1 H1 ⟨rfl,m1,ρ1,S2,h⟩
  rcases for_of io i m1 σ1 H1 ⟨ρ1,S2,h⟩ with hl | ⟨hgo,N,hN,hy⟩
  ·exact .inl hl
  ·refine .inr ⟨hgo,N,fun σ' H2 hn=>?_,hy⟩
   obtain ⟨hlt,m'',ρ',S',h'⟩:=hN σ' H2 hn
   exact ⟨w.1.length-(i+1),by omega,rfl,m'',ρ',S',h'⟩
noncomputable def whF (t:FT) (b:FS):Nat->FS
 |0,_,_=>.no
 |n+1,ρ,S=>(t ρ S).bind fun k S=>if k=true then (b ρ S).bind fun c S=>match c with
   |.nx ρ'=>whF t b n ρ' S
   |.ct ρ'=>whF t b n ρ' S
   |.bk ρ'=>.ok (.nx ρ') S
   |.rt v=>.ok (.rt v) S
  else .ok (.nx ρ) S
theorem qs_while {c:Expr}{body:List Stmt}{t:FT}{b:FS}(n:Nat) (hp:PassesOwn (model X.prog X.w) X.A X.env X.xe) (hc:QT X c t) (hb:QSs X body b):QS X (.While c body [] pos) (whF t b n):=imS (ps_while hp hc hb) fun D σ H q=>by
 obtain ⟨ρ,S,m,Rr,W,q⟩:=q
 refine ⟨fun k σ1 H1=>∃ρ1 S1 m1,Xt m H m1 H1/\RS X.K m1 H1 σ1 ρ1/\Wd X.K m1 S1 H1/\Res X m H (whF t b k ρ1 S1) (Out X.K m H D),⟨n,ρ,S,m,Xt.refl,Rr,W,q⟩,?_⟩
 rintro k σ1 H1 ⟨ρ1,S1,m1,x1,R1,W1,q⟩
 cases k with
 |zero=>exact q.elim
 |succ k=>
  unfold whF at q
  refine ⟨ρ1,S1,m1,R1,W1,(q.bind.step x1).imp fun z S2 q H2 m2 x2 w2=>?_⟩
  cases z with
  |false=>exact iteF (q σ1 H2 m2 (x1.trans x2) (R1.ext x2) w2)
  |true=>
   refine iteT ?_
   have x3:Xt m H m2 H2:=x1.trans x2
   refine ⟨fun σ3 H3=>∃ρ3 S3 m3,Xt m H m3 H3/\RS X.K m3 H3 σ3 ρ3/\Wd X.K m3 S3 H3/\Res X m H (whF t b k ρ3 S3) (Out X.K m H D),fun σ3 H3 h=>⟨k,Nat.lt_succ_self k,h⟩,?_⟩
   have q':Res X m H ((b ρ1 S2).bind fun c S=>match c with | .nx ρ'=>whF t b k ρ' S | .ct ρ'=>whF t b k ρ' S | .bk ρ'=>.ok (.nx ρ') S | .rt v=>.ok (.rt v) S) (Out X.K m H D):=q
   refine ⟨ρ1,S2,m2,R1.ext x2,w2,(q'.bind.step x3).imp fun c S3 q=>?_⟩
   cases c with
   |nx r=>exact fun σ' H' m' y R3 W3=>⟨r,S3,m',x3.trans y,R3,W3,q⟩
   |ct r=>exact fun σ' H' m' y R3 W3=>⟨r,S3,m',x3.trans y,R3,W3,q⟩
   |bk r=>exact fun σ' H' m' y R3 W3=>q σ' H' m' (x3.trans y) R3 W3
   |rt v=>exact fun u H' m' y W3 r3=>q u H' m' (x3.trans y) W3 r3
end
end Y
namespace Y
open PySem L2
open Z (msk msk_in msk_out msk_le msk_app msk_upd msk_new msk_newc lim lim_lt lim_le)
section
variable {K:PySem.W.Frag}{m:List Addr}{H:Hp}{S:Sto}{a:Addr}{vs:List V}{xs:List A}
theorem itl_ok (h:SqL K (msk m H) a vs) (r:RAs K m H xs vs):ItOk K m H (Itl K a) xs none where
 go:=fun m1 H1 S1 i x w c hi=>⟨vs,vs[i]'(by rw [r.length];exact hi),SqL.unm (Same.seq x.sm h),List.getElem?_eq_getElem _⟩
 stop:=fun m1 H1 S1 x w c=>⟨vs,SqL.unm (Same.seq x.sm h),Nat.le_of_eq r.length⟩
 yld:=fun m1 H1 S1 i d y H2 x w c hd hy=>by
  obtain ⟨rfl,hy⟩:=hy
  have hv:=hy vs (SqL.unm (Same.seq x.sm h))
  obtain ⟨v,hv',rd⟩:=r.get hd
  rw [hv] at hv';cases hv'
  exact ⟨Xt.refl,w,rd.ext x⟩
theorem itt_ok (h:SqT K (msk m H) a vs) (r:RAs K m H xs vs):ItOk K m H (Itt K a) xs none where
 go:=fun m1 H1 S1 i x w c hi=>⟨vs,vs[i]'(by rw [r.length];exact hi),SqT.unm (Same.tup x.sm h),List.getElem?_eq_getElem _⟩
 stop:=fun m1 H1 S1 x w c=>⟨vs,SqT.unm (Same.tup x.sm h),Nat.le_of_eq r.length⟩
 yld:=fun m1 H1 S1 i d y H2 x w c hd hy=>by
  obtain ⟨rfl,hy⟩:=hy
  have hv:=hy vs (SqT.unm (Same.tup x.sm h))
  obtain ⟨v,hv',rd⟩:=r.get hd
  rw [hv] at hv';cases hv'
  exact ⟨Xt.refl,w,rd.ext x⟩
noncomputable def Cel.its:Cel->Option (List A)
 |.lst ds=>some (ds.map .d)
 |.gen xs=>some xs
 |_=>none
theorem cel_its {c:Cel}(h:CelOk K m H a c) (e:c.its=some xs):∃vs,H a=some (.lst vs)/\RAs K m H xs vs:=by
 cases c with
 |lst ds=>cases e;obtain ⟨vs,h1,h2⟩:=h;exact ⟨vs,h1,reps_RAs h2⟩
 |gen ys=>cases e;exact h
 |dic kvs=>cases e
 |ins C fs=>cases e
 |frd kvs=>cases e
 |exc C fs=>cases e
theorem itc_ok {k:Nat}{c:Cel}{fl:Bool}(hm:m[k]?=some a) (e:c.its=some xs):ItOk K m H (Itl K a) xs (some (k,c,fl)) where
 go:=fun m1 H1 S1 i x w ck hi=>by
  obtain ⟨vs,h1,h2⟩:=cel_its (w.cell k a c (x.at k a hm) ck) e
  exact ⟨vs,vs[i]'(by rw [h2.length];exact hi),SqL.of h1,List.getElem?_eq_getElem _⟩
 stop:=fun m1 H1 S1 x w ck=>by
  obtain ⟨vs,h1,h2⟩:=cel_its (w.cell k a c (x.at k a hm) ck) e
  exact ⟨vs,SqL.of h1,Nat.le_of_eq h2.length⟩
 yld:=fun m1 H1 S1 i d y H2 x w ck hd hy=>by
  obtain ⟨rfl,hy⟩:=hy
  obtain ⟨vs,h1,h2⟩:=cel_its (w.cell k a c (x.at k a hm) ck) e
  have hv:=hy vs (SqL.of h1)
  obtain ⟨v,hv',rd⟩:=h2.get hd
  rw [hv] at hv';cases hv'
  exact ⟨Xt.refl,w,rd⟩
noncomputable def chrs (z:Str):List A:=z.cps.toList.map fun c=>.d (.str ⟨#[c]⟩)
theorem its_ok (z:Str):ItOk K m H (Its z) (chrs z) none where
 go:=fun m1 H1 S1 i x w c hi=>by
  show i < z.length
  unfold chrs at hi
  simpa [Str.length] using hi
 stop:=fun m1 H1 S1 x w c=>by
  show z.length<=(chrs z).length
  unfold chrs
  simp [Str.length]
 yld:=fun m1 H1 S1 i d y H2 x w c hd hy=>by
  obtain ⟨rfl,ch,hc,rfl⟩:=hy
  unfold chrs at hd
  rw [List.getElem?_map,Array.getElem?_toList,hc] at hd
  cases hd
  exact ⟨Xt.refl,w,str_rep⟩
noncomputable def kA:Key->A
 |.inl i=>.d (.int i)
 |.inr z=>.d (.str z)
theorem kA_rep (k:Key):RA K m H (kA k) (kV k):=by
 cases k with
 |inl i=>exact int_rep
 |inr z=>exact str_rep
theorem itd_ok {ck:Ck}{kvs:List (Key×A)}{ob:Obj}{ws:List (Key×V)}(hk:kvs.map (·.1)=ws.map (·.1)) (ha:H a=some (.frz ob (.dK ws))):ItOk K m H (Z.Itd a ob ws) (kvs.map fun p=>kA p.1) ck where
 go:=fun m1 H1 S1 i x w ck hi=>⟨x.fz _ _ _ ha,by have:=congrArg List.length hk;simp at this hi;omega⟩
 stop:=fun m1 H1 S1 x w ck=>⟨x.fz _ _ _ ha,by have:=congrArg List.length hk;simp at this ⊢;omega⟩
 yld:=fun m1 H1 S1 i d y H2 x w ck hd hy=>by
  obtain ⟨rfl,kv,hkv,rfl⟩:=hy
  refine ⟨Xt.refl,w,?_⟩
  rw [List.getElem?_map] at hd
  obtain ⟨q,hq,rfl⟩:=Option.map_eq_some_iff.mp hd
  have h1:(kvs.map (·.1))[i]?=(ws.map (·.1))[i]?:=by rw [hk]
  rw [List.getElem?_map,List.getElem?_map,hq,hkv] at h1
  have h2:q.1=kv.1:=Option.some.inj h1
  rw [h2]
  exact kA_rep kv.1
end
section
variable {X:Cx}{tg e:Expr}{f:FE}{pos p:Pos}
noncomputable def iVal (x:A) (S:Sto):R (List A×Ck):=match x with
 |.d (.lst ds)=>.ok (ds.map .d,none) S
 |.d (.tup ds)=>.ok (ds.map .d,none) S
 |.d (.str z)=>.ok (chrs z,none) S
 |.t xs=>.ok (xs,none) S
 |.p k=>match S[k]? with
  |some (.lst ds)=>.ok (ds.map .d,some (k,.lst ds,false)) S
  |some (.gen xs)=>.ok (xs,some (k,.gen xs,false)) S
  |some (.frd kvs)=>.ok (kvs.map fun p=>kA p.1,some (k,.frd kvs,false)) S
  |some (.dic kvs)=>.ok (kvs.map fun p=>kA p.1,some (k,.frd kvs,true)) (S.set k (.frd kvs))
  |_=>.no
 |_=>.no
noncomputable def iSq (f:FE):FI:=fun ρ S=>(f ρ S).bind iVal
theorem RK.keys {κ:Type}{K:PySem.W.Frag}{m:List Addr}{H:Hp}:∀{kvs:List (κ×A)}{ws:List (κ×V)},RK K m H kvs ws->kvs.map (·.1)=ws.map (·.1)
 |_,_,.nil=>rfl
 |_,_,.cons r t=>by rw [List.map_cons,List.map_cons,r.1,RK.keys t]
theorem Wd.freeze {K:PySem.W.Frag}{m:List Addr}{H:Hp}{S:Sto}{a:Addr}(w:Wd K m S H) {k:Nat}(h1:m[k]?=some a) {kvs:List (Key×A)}{ws:List (Key×V)}(r:RK K m H kvs ws) (ob:Obj):Wd K m (S.set k (.frd kvs)) (upd H a (.frz ob (.dK ws))):=
 w.set h1 ⟨ob,ws,upd_same,RK.sub (fun _ _ z=>z) (sm_upd (List.mem_of_getElem? h1)) r⟩
theorem qi_any (he:QE X e f):QI X tg e (iSq f):=imI (pi_any he) fun σ H R' q=>by
 obtain ⟨ρ,S,m,Rr,W,q⟩:=q
 refine ⟨ρ,S,m,Rr,W,q.bind.imp fun x S1 q v H1 m1 x1 w1 r1=>?_⟩
 cases x with
 |k u=>exact q.elim
 |t xs=>
  obtain ⟨a,vs,rfl,h1,h2⟩:=RA.t_iff.mp r1
  exact .inr (.inl ⟨a,rfl,⟨vs,SqT.unm h1⟩,q _ H1 H1 m1 x1 rfl w1 (itt_ok h1 h2)⟩)
 |d y=>
  have r2:=RA.d_iff.mp r1
  cases y with
  |lst ds=>
   unfold Rep at r2
   obtain ⟨a,vs,rfl,h1,h2⟩:=r2
   exact .inl ⟨a,rfl,⟨vs,SqL.unm h1⟩,q _ H1 H1 m1 x1 rfl w1 (itl_ok h1 (reps_RAs h2))⟩
  |tup ds=>
   unfold Rep at r2
   obtain ⟨a,vs,rfl,h1,h2⟩:=r2
   exact .inr (.inl ⟨a,rfl,⟨vs,SqT.unm h1⟩,q _ H1 H1 m1 x1 rfl w1 (itt_ok h1 (reps_RAs h2))⟩)
  |str z=>
   cases rep_str r1
   exact .inr (.inr (.inl ⟨z,rfl,q _ H1 H1 m1 x1 rfl w1 (its_ok z)⟩))
  |non=>exact q.elim
  |bl b=>exact q.elim
  |int i=>exact q.elim
 |p k=>
  obtain ⟨a,ha,rfl⟩:=RA.p_iff.mp r1
  obtain ⟨c,hc,ok⟩:=w1.at ha
  simp only [iVal,hc] at q
  cases c with
  |lst ds=>
   obtain ⟨vs,h1,_⟩:=ok
   exact .inl ⟨a,rfl,⟨vs,SqL.of h1⟩,q _ H1 H1 m1 x1 rfl w1 (itc_ok ha rfl)⟩
  |gen xs=>
   obtain ⟨vs,h1,_⟩:=ok
   exact .inl ⟨a,rfl,⟨vs,SqL.of h1⟩,q _ H1 H1 m1 x1 rfl w1 (itc_ok ha rfl)⟩
  |ins C fs=>exact q.elim
  |exc C fs=>exact q.elim
  |frd kvs=>
   obtain ⟨ob,ws,h1,h2⟩:=ok
   exact .inr (.inr (.inr (.inl ⟨a,ob,ws,rfl,h1,q _ H1 H1 m1 x1 rfl w1 (itd_ok h2.keys h1)⟩)))
  |dic kvs=>
   obtain ⟨ws,h1,h2⟩:=ok
   exact .inr (.inr (.inr (.inr ⟨a,ws,rfl,h1,fun ob nf=>q _ H1 _ m1 x1 ⟨a,ob,ws,ha,h1,rfl,nf⟩ (w1.freeze ha h2 ob) (itd_ok h2.keys upd_same)⟩)))
noncomputable def rng (a:Int) (n:Nat):List A:=(List.range n).map fun (i:Nat)=>.d (.int (a+i))
theorem itr_ok {K:PySem.W.Frag}{m:List Addr}{H:Hp}{a:Int}{n:Nat}:ItOk K m H (Itr a n) (rng a n) none where
 go:=fun m1 H1 S1 i x w c hi=>by
  show i < n
  simpa [rng] using hi
 stop:=fun m1 H1 S1 x w c=>by
  show n<=(rng a n).length
  simp [rng]
 yld:=fun m1 H1 S1 i d y H2 x w c hd hy=>by
  obtain ⟨rfl,rfl⟩:=hy
  have hi:i < n:=by have:=(List.getElem?_eq_some_iff.mp hd).1;simpa [rng] using this
  unfold rng at hd
  rw [List.getElem?_map,List.getElem?_range hi] at hd
  cases hd
  exact ⟨Xt.refl,w,int_rep⟩
noncomputable def iRg (f:FE):FI:=fun ρ S=>(f ρ S).bind fun x S=>match x with
 |.d (.int j)=>if -1000000 < j/\j < 1000000 then .ok (rng 0 j.toNat,none) S else .no
 |_=>.no
theorem qi_range (hg:Gl X "range") (hm:X.mg "range" = none) (he:QE X e f) (hst:noStar e=true:=by rfl) (hs:starEach [e] X.env=[(false,eval e X.env)]:=by rfl):QI X tg (.Call (.Name "range" p) [e] [] pos) (iRg f):=
 imI (pi_range1 hg hm (pac he pa_nil hst) hs) fun σ H R' q=>by
  obtain ⟨ρ,S,m,Rr,W,q⟩:=q
  refine ⟨ρ,S,m,Rr,W,q.bind.imp fun x S1 q v H1 m1 x1 w1 r1=>?_⟩
  split at q
  ·rename_i j
   split at q
   ·rename_i hj
    cases rep_int r1
    exact ⟨j,rfl,by omega,by omega,q _ H1 H1 m1 x1 rfl w1 itr_ok⟩
   ·exact q.elim
  ·exact q.elim
end
end Y
namespace L2
open PySem PySem.Spec PyProof.Rows
section
variable {X:Cx}
noncomputable def rIxD:R2:=fun x y H Q=>∃a v,x=.ref a/\DGet H a y (some v)/\Q v H
theorem ix_dict (hu:X.A.units+1 < cLine):IxR X rIxD:=by
 intro value slice pins s σ H x y v u Q I rx ry h hs
 obtain ⟨a,z,rfl,g,q⟩:=h
 cases rx
 exact tail_any (dict_typeIs I g) PySem.F.slot_dict_getitem.lookup (d_getItem hu I g ry fun w' s3 I3 rw'=>⟨z,H,I3,rw',q⟩) hs
theorem ix_all (hu:X.A.units+1 < cLine):IxR X (fun x y H Q=>rIx X.K x y H Q∨rIxD x y H Q):=ix_seq.or (ix_dict hu)
noncomputable def rSetD:TSet:=fun o i v H Q=>∃a H',o=.ref a/\DPut H a i v H'/\Q H'
theorem set_dict (hu:X.A.units+1 < cLine):PSet X rSetD:=by
 intro pins s σ H o i v ov iv u Q I ro ri rv h
 obtain ⟨a,H',rfl,g,q⟩:=h
 cases ro
 exact d_setItem hu I g ri rv fun s' I'=>⟨H',I',q⟩
theorem set_all (hu:X.A.units+1 < cLine):PSet X (fun o i v H Q=>rSetL o i v H Q∨rSetD o i v H Q):=by
 intro pins s σ H o i v ov iv u Q I ro ri rv h
 rcases h with h | h
 ·exact set_list pins s σ H o i v ov iv u Q I ro ri rv h
 ·exact set_dict hu pins s σ H o i v ov iv u Q I ro ri rv h
end
end L2
namespace Y
open PySem L2
open Z (msk msk_in msk_out msk_le msk_app msk_upd msk_new msk_newc lim lim_lt lim_le)
section
variable {κ:Type} [DecidableEq κ] {K:PySem.W.Frag}{m:List Addr}{H:Hp}
noncomputable def gv (kvs:List (κ×A)) (k:κ):Option A:=(kvs.find? fun kv=>decide (kv.1=k)).map (·.2)
noncomputable def pv (kvs:List (κ×A)) (k:κ) (v:A):List (κ×A):=if (kvs.any fun kv=>decide (kv.1=k))=true then kvs.map (fun kv=>if kv.1=k then (kv.1,v) else kv) else kvs++[(k,v)]
theorem RK.val:∀{kvs:List (κ×A)}{ws:List (κ×V)}(k:κ),RK K m H kvs ws->(match gv kvs k with | some x=>∃v,valV ws k=some v/\RA K m H x v | none=>valV ws k=none)
 |_,_,k,.nil=>by simp [gv,valV]
 |_,_,k,.cons (a:=p) (b:=q) r t=>by
  obtain ⟨e,r⟩:=r
  have ih:=RK.val k t
  unfold gv valV at ih ⊢
  by_cases h:p.1=k
  ·rw [List.find?_cons_of_pos (by simpa using h),List.find?_cons_of_pos (by rw [<-e];simpa using h)]
   exact ⟨q.2,rfl,r⟩
  ·rw [List.find?_cons_of_neg (by simpa using h),List.find?_cons_of_neg (by rw [<-e];simpa using h)]
   exact ih
theorem RK.val_some {kvs:List (κ×A)}{ws:List (κ×V)}{k:κ}{x:A}(h:RK K m H kvs ws) (e:gv kvs k=some x):∃v,valV ws k=some v/\RA K m H x v:=by
 have:=h.val k
 rw [e] at this;exact this
theorem RK.isSome {kvs:List (κ×A)}{ws:List (κ×V)}(k:κ) (h:RK K m H kvs ws):(valV ws k).isSome=(gv kvs k).isSome:=by
 have:=h.val k
 cases e:gv kvs k with
 |some x=>rw [e] at this;obtain ⟨v,hv,_⟩:=this;rw [hv];rfl
 |none=>rw [e] at this;rw [this];rfl
theorem RK.any:∀{kvs:List (κ×A)}{ws:List (κ×V)}(k:κ),RK K m H kvs ws->(kvs.any fun kv=>decide (kv.1=k))=ws.any fun kv=>decide (kv.1=k)
 |_,_,_,.nil=>rfl
 |_,_,k,.cons r t=>by rw [List.any_cons,List.any_cons,RK.any k t,r.1]
theorem RK.mapS {k:κ}{x:A}{v:V}(r:RA K m H x v):∀{kvs:List (κ×A)}{ws:List (κ×V)},RK K m H kvs ws->RK K m H (kvs.map fun kv=>if kv.1=k then (kv.1,x) else kv) (ws.map fun kv=>if kv.1=k then (kv.1,v) else kv)
 |_,_,.nil=>.nil
 |_,_,.cons (a:=p) (b:=q) s t=>by
  refine .cons ?_ (RK.mapS r t)
  obtain ⟨e,s⟩:=s
  by_cases h:p.1=k
  ·simp only [if_pos h,if_pos (e▸h:q.1=k)];exact ⟨e,r⟩
  ·simp only [if_neg h,if_neg (show ¬q.1=k from e▸h)];exact ⟨e,s⟩
theorem RK.snoc {k:κ}{x:A}{v:V}(r:RA K m H x v):∀{kvs:List (κ×A)}{ws:List (κ×V)},RK K m H kvs ws->RK K m H (kvs++[(k,x)]) (ws++[(k,v)])
 |_,_,.nil=>.cons ⟨rfl,r⟩ .nil
 |_,_,.cons s t=>.cons s (RK.snoc r t)
theorem RK.put {kvs:List (κ×A)}{ws:List (κ×V)}{k:κ}{x:A}{v:V}(h:RK K m H kvs ws) (r:RA K m H x v):RK K m H (pv kvs k x) (putK ws k v):=by
 unfold pv putK
 rw [h.any k]
 split
 ·exact RK.mapS r h
 ·exact RK.snoc r h
theorem RK.length {κ:Type}{kvs:List (κ×A)}{ws:List (κ×V)}(h:RK K m H kvs ws):ws.length=kvs.length:=(Paired.length h).symm
end
@[simp] noncomputable def keyA:A->Option Key
 |.d (.int i)=>some (.inl i)
 |.d (.str x)=>some (.inr x)
 |_=>none
theorem key_of {K:PySem.W.Frag}{m:List Addr}{H:Hp}{x:A}{v:V}{k:Key}(r:RA K m H x v) (e:keyA x=some k):v=kV k:=by
 unfold keyA at e
 split at e
 ·cases e;exact rep_int r
 ·cases e;exact rep_str r
 ·cases e
@[simp] noncomputable def Cel.dct:Cel->Option (List (Key×A))
 |.dic kvs=>some kvs
 |.frd kvs=>some kvs
 |_=>none
@[simp] noncomputable def A.dct (S:Sto):A->Option (List (Key×A))
 |.p i=>match S[i]? with
  |some c=>c.dct
  |none=>none
 |_=>none
theorem dct_ok {K:PySem.W.Frag}{m:List Addr}{S:Sto}{H:Hp}{x:A}{v:V}{kvs:List (Key×A)}(w:Wd K m S H) (r:RA K m H x v) (e:A.dct S x=some kvs):∃a ws,v=.ref a/\Rd H a (.dK ws)/\RK K m H kvs ws:=by
 cases x with
 |d y=>cases e
 |t y=>cases e
 |k y=>cases e
 |p k=>
  obtain ⟨a,ha,rfl⟩:=RA.p_iff.mp r
  obtain ⟨c,hc,ok⟩:=w.at ha
  simp only [A.dct,hc] at e
  cases c with
  |lst ds=>cases e
  |gen xs=>cases e
  |ins C fs=>cases e
  |exc C fs=>cases e
  |dic kvs=>cases e;obtain ⟨ws,h1,h2⟩:=ok;exact ⟨a,ws,rfl,.inl h1,h2⟩
  |frd kvs=>cases e;obtain ⟨ob,ws,h1,h2⟩:=ok;exact ⟨a,ws,rfl,.inr ⟨ob,h1⟩,h2⟩
section
variable {X:Cx}{a b e:Expr}{f g h:FE}{pos:Pos}
noncomputable def oAdd:O2:=fun x y S=>match x.sh S,y.sh S with
 |some (.int i),some (.int j)=>.ok (.d (.int (i+j))) S
 |some (.str i),some (.str j)=>if i.length+j.length<=lim then .ok (.d (.str (i++j))) S else .no
 |some (.lst ds),some (.lst es)=>if ds.length+es.length<=lim then .ok (.d (.lst (ds++es))) S else .no
 |some (.tup ds),some (.tup es)=>if ds.length+es.length<=lim then .ok (.d (.tup (ds++es))) S else .no
 |_,_=>.no
noncomputable def rAdd4 (K:PySem.W.Frag):R2:=fun x y H Q=>rI0 (fun i j=>.int (i+j)) x y H Q∨(∃i j,x=.str i/\y=.str j/\i.length+j.length<=sizeLine/\Q (.str (i++j)) H)∨Z.rCatS K x y H Q∨rCatU K x y H Q
theorem op_add4:OpR X (binaryOp .Add) (rAdd4 X.K):=op_add.or (op_add_str.or (op_catS.or op_catU))
theorem fit_add4:Fit2 X (rAdd4 X.K) oAdd:=by
 intro m S H x y v u Q w r1 r2 q
 unfold oAdd at q
 split at q
 ·rename_i i j h1 h2
  cases sh_d h1 (fun _ z=>by cases z);cases sh_d h2 (fun _ z=>by cases z)
  cases rep_int r1;cases rep_int r2
  exact .inl ⟨i,j,rfl,rfl,q _ H m Xt.refl w int_rep⟩
 ·rename_i i j h1 h2
  cases sh_d h1 (fun _ z=>by cases z);cases sh_d h2 (fun _ z=>by cases z)
  cases rep_str r1;cases rep_str r2
  split at q
  ·rename_i hl;exact .inr (.inl ⟨i,j,rfl,rfl,lim_le hl,q _ H m Xt.refl w str_rep⟩)
  ·exact q.elim
 ·rename_i ds es h1 h2
  split at q
  ·rename_i hl
   obtain ⟨l,vs,rfl,s1,q1⟩:=sh_lst w r1 h1
   obtain ⟨b,us,rfl,s2,q2⟩:=sh_lst w r2 h2
   refine .inr (.inr (.inl ⟨l,b,vs,us,rfl,rfl,s1,s2,by rw [Reps.length q1,Reps.length q2];exact lim_le hl,fun p hp=>?_⟩))
   exact q _ _ m (Xt.new hp) (w.new hp) (new_lst w hp (Z.Reps.app q1 q2))
  ·exact q.elim
 ·rename_i ds es h1 h2
  split at q
  ·rename_i hl
   obtain ⟨e1,l,vs,rfl,s1,q1⟩:=sh_tup r1 h1
   obtain ⟨e2,b,us,rfl,s2,q2⟩:=sh_tup r2 h2
   subst e1 e2
   refine .inr (.inr (.inr ⟨l,b,vs,us,rfl,rfl,s1,s2,by rw [Reps.length q1,Reps.length q2];exact lim_le hl,fun z=>?_,fun _ z=>?_,fun _ _ p hp=>?_⟩))
   ·cases (Z.Reps.nil_iff q1).mp z
    exact q _ H m Xt.refl w (by rw [List.nil_append];exact r2)
   ·cases (Z.Reps.nil_iff q2).mp z
    exact q _ H m Xt.refl w (by rw [List.append_nil];exact r1)
   ·exact q _ _ m (Xt.new hp) (w.new hp) (new_tup w hp (Z.Reps.app q1 q2))
  ·exact q.elim
 ·exact q.elim
theorem qe_add (ha:QE X a f) (hb:QE X b g):QE X (.BinOp a .Add b pos) (bin oAdd f g):=qe_op op_add4 fit_add4 ha hb
noncomputable def oCat (x y:A) (S:Sto):Option (List D):=match x.sh S,y.sh S with
 |some (.lst ds),some (.lst es)=>if ds.length+es.length<=lim then some (ds++es) else none
 |_,_=>none
theorem fit_cat:FitL2 X (Z.rCatS X.K) oCat:=by
 intro m S H x y zs v u Q w r1 r2 e q
 unfold oCat at e
 split at e
 ·rename_i ds es h1 h2
  split at e
  ·rename_i hl
   cases e
   obtain ⟨l,vs,rfl,s1,q1⟩:=sh_lst w r1 h1
   obtain ⟨b,us,rfl,s2,q2⟩:=sh_lst w r2 h2
   exact ⟨l,b,vs,us,rfl,rfl,s1,s2,by rw [Reps.length q1,Reps.length q2];exact lim_le hl,fun p hp=>q p _ hp (Z.Reps.app q1 q2)⟩
  ·cases e
 ·cases e
theorem ql_cat (ha:QE X a f) (hb:QE X b g):QL X (.BinOp a .Add b pos) (binL oCat f g):=imE (pe_op op_catS ha hb) (fit_opL fit_cat)
noncomputable def oI (g:Int->Int->Option D):O2:=fun x y S=>match x,y with
 |.d (.int i),.d (.int j)=>(opt (g i j) S).bind fun z S=>.ok (.d z) S
 |_,_=>.no
theorem fit_I {C:Int->Int->Prop}{g:Int->Int->Option D}{h:Int->Int->Int}(hg:∀i j c,g i j=some c->C i j/\c=.int (h i j)):Fit2 X (rI C fun i j=>.int (h i j)) (oI g):=by
 intro m S H x y v u Q w r1 r2 q
 unfold oI at q
 split at q
 ·rename_i i j
  obtain ⟨z,hz,q⟩:=q.bind.opt
  obtain ⟨h1,rfl⟩:=hg i j z hz
  exact ⟨i,j,rep_int r1,rep_int r2,h1,q _ H m Xt.refl w int_rep⟩
 ·exact q.elim
theorem fit_I0 {g:Int->Int->Option D}{h:Int->Int->Int}(hg:∀i j c,g i j=some c->c=.int (h i j)):Fit2 X (rI0 fun i j=>.int (h i j)) (oI g):=by
 intro m S H x y v u Q w r1 r2 q
 unfold oI at q
 split at q
 ·rename_i i j
  obtain ⟨z,hz,q⟩:=q.bind.opt
  cases hg i j z hz
  exact ⟨i,j,rep_int r1,rep_int r2,q _ H m Xt.refl w int_rep⟩
 ·exact q.elim
theorem fit_B0 {g:Int->Int->Option D}{h:Int->Int->Bool}(hg:∀i j c,g i j=some c->c=.bl (h i j)):Fit2 X (rI0 fun i j=>.bl (h i j)) (oI g):=by
 intro m S H x y v u Q w r1 r2 q
 unfold oI at q
 split at q
 ·rename_i i j
  obtain ⟨z,hz,q⟩:=q.bind.opt
  cases hg i j z hz
  exact ⟨i,j,rep_int r1,rep_int r2,q _ H m Xt.refl w bl_rep⟩
 ·exact q.elim
theorem qe_sub (ha:QE X a f) (hb:QE X b g):QE X (.BinOp a .Sub b pos) (bin (oI Z.gSub) f g):=qe_op op_sub (fit_I0 fun _ _ _ e=>by cases e;rfl) ha hb
theorem qe_mul (ha:QE X a f) (hb:QE X b g):QE X (.BinOp a .Mult b pos) (bin (oI Z.gMul) f g):=qe_op op_mul (fit_I fun i j c e=>by
 unfold Z.gMul at e
 split at e
 ·rename_i h;cases e;exact ⟨h,rfl⟩
 ·cases e) ha hb
theorem qe_fdiv (ha:QE X a f) (hb:QE X b g):QE X (.BinOp a .FloorDiv b pos) (bin (oI Z.gDiv) f g):=qe_op op_fdiv (fit_I fun i j c e=>by
 unfold Z.gDiv at e
 split at e
 ·rename_i h;cases e;exact ⟨h,rfl⟩
 ·cases e) ha hb
theorem qe_mod (ha:QE X a f) (hb:QE X b g):QE X (.BinOp a .Mod b pos) (bin (oI Z.gMod) f g):=qe_op op_mod (fit_I fun i j c e=>by
 unfold Z.gMod at e
 split at e
 ·rename_i h;cases e;exact ⟨h,rfl⟩
 ·cases e) ha hb
theorem qe_pow (ha:QE X a f) (hb:QE X b g):QE X (.BinOp a .Pow b pos) (bin (oI Z.gPow) f g):=qe_op op_pow (fit_I fun i j c e=>by
 unfold Z.gPow at e
 split at e
 ·rename_i h;cases e;exact ⟨⟨h.1,by omega,h.2.2⟩,rfl⟩
 ·cases e) ha hb
theorem fit_lt:Fit2 X (rI0 fun i j=>.bl (decide (i < j))) (oI Z.gLt):=fit_B0 fun _ _ _ e=>by cases e;rfl
theorem fit_le:Fit2 X (rI0 fun i j=>.bl (decide (i<=j))) (oI Z.gLe):=fit_B0 fun _ _ _ e=>by cases e;rfl
theorem fit_gt:Fit2 X (rI0 fun i j=>.bl (decide (j < i))) (oI Z.gGt):=fit_B0 fun _ _ _ e=>by cases e;rfl
theorem fit_ge:Fit2 X (rI0 fun i j=>.bl (decide (j<=i))) (oI Z.gGe):=fit_B0 fun _ _ _ e=>by cases e;rfl
theorem qe_le (ha:QE X a f) (hb:QE X b g):QE X (.Compare a [.LtE] [b] pos) (bin (oI Z.gLe) f g):=qe_cmp op_le fit_le ha hb (nomark _)
theorem qt_lt (ha:QE X a f) (hb:QE X b g):QT X (.Compare a [.Lt] [b] pos) (tst (bin (oI Z.gLt) f g)):=qt_cmp op_lt fit_lt ha hb (nomark _)
theorem qt_le (ha:QE X a f) (hb:QE X b g):QT X (.Compare a [.LtE] [b] pos) (tst (bin (oI Z.gLe) f g)):=qt_cmp op_le fit_le ha hb (nomark _)
theorem qt_gt (ha:QE X a f) (hb:QE X b g):QT X (.Compare a [.Gt] [b] pos) (tst (bin (oI Z.gGt) f g)):=qt_cmp op_gt fit_gt ha hb (nomark _)
theorem qt_ge (ha:QE X a f) (hb:QE X b g):QT X (.Compare a [.GtE] [b] pos) (tst (bin (oI Z.gGe) f g)):=qt_cmp op_ge fit_ge ha hb (nomark _)
noncomputable def oNeg:O1:=fun x S=>match x with
 |.d (.int i)=>.ok (.d (.int (-i))) S
 |_=>.no
theorem fit_neg:Fit1 X (rU fun i=>.int (-i)) oNeg:=by
 intro m S H x v Q w r q
 unfold oNeg at q
 split at q
 ·rename_i i;exact ⟨i,rep_int r,q _ H m Xt.refl w int_rep⟩
 ·exact q.elim
theorem qe_neg (ha:QE X a f):QE X (.UnaryOp .USub a pos) (un oNeg f):=qe_un un_neg fit_neg ha
noncomputable def oEq (neg:Bool):O2:=fun x y S=>match x.get S,y.get S with
 |some d,some d'=>if depD d<=50 then (opt (eqD d d') S).bind fun b S=>.ok (.d (.bl (if neg then !b else b))) S else .no
 |_,_=>.no
theorem fit_eq {neg:Bool}:Fit2 X (rEqD X.K neg) (oEq neg):=by
 intro m S H x y v u Q w r1 r2 q
 unfold oEq at q
 split at q
 ·rename_i d d' h1 h2
  split at q
  ·rename_i hd
   obtain ⟨b,hb,q⟩:=q.bind.opt
   exact ⟨d,d',b,r1.rep w h1,r2.rep w h2,hd,hb,q _ H m Xt.refl w bl_rep⟩
  ·exact q.elim
 ·exact q.elim
theorem qe_eq {k:Nat}(hr:Room k X.A) (ha:QE X a f) (hb:QE X b g):QE X (.Compare a [.Eq] [b] pos) (bin (oEq false) f g):=qe_cmp (op_eqD (hu60 hr)) fit_eq ha hb (nomark _)
theorem qt_eq {k:Nat}(hr:Room k X.A) (ha:QE X a f) (hb:QE X b g):QT X (.Compare a [.Eq] [b] pos) (tst (bin (oEq false) f g)):=qt_cmp (op_eqD (hu60 hr)) fit_eq ha hb (nomark _)
theorem qt_ne {k:Nat}(hr:Room k X.A) (ha:QE X a f) (hb:QE X b g):QT X (.Compare a [.NotEq] [b] pos) (tst (bin (oEq true) f g)):=qt_cmp (op_neD (hu60 hr)) fit_eq ha hb (nomark _)
noncomputable def oIn (neg:Bool):O2:=fun x y S=>match y.dct S,keyA x with
 |some kvs,some k=>.ok (.d (.bl (if neg then !(gv kvs k).isSome else (gv kvs k).isSome))) S
 |some _,none=>.no
 |none,_=>match x.get S,y.get S with
  |some (.str i),some (.str j)=>.ok (.d (.bl (if neg then !Z.inS i j else Z.inS i j))) S
  |some d,some (.lst ds)=>if ds.all (Z.ask1 d)=true then .ok (.d (.bl (if neg then !Z.inD d ds else Z.inD d ds))) S else .no
  |some d,some (.tup ds)=>if ds.all (Z.ask1 d)=true then .ok (.d (.bl (if neg then !Z.inD d ds else Z.inD d ds))) S else .no
  |_,_=>.no
noncomputable def rInS (neg:Bool):R2:=fun x y H Q=>∃i j,x=.str i/\y=.str j/\Q (.bl (if neg then !(!(Builtin.Str.occurrences j i 0 j.length 1).isEmpty) else !(Builtin.Str.occurrences j i 0 j.length 1).isEmpty)) H
noncomputable def rIn3 (K:PySem.W.Frag) (neg:Bool):R2:=fun x y H Q=>Z.rDIn neg x y H Q∨Z.rInD K neg x y H Q∨rInS neg x y H Q
theorem op_in3 (hu:X.A.units+60 < cLine):OpR X (compareOp .In) (rIn3 X.K false):=(Z.op_dIn (by omega)).or ((Z.op_inD hu).or op_in_str)
theorem op_nin3 (hu:X.A.units+60 < cLine):OpR X (compareOp .NotIn) (rIn3 X.K true):=(Z.op_dNotIn (by omega)).or ((Z.op_ninD hu).or op_notin_str)
theorem fit_in {neg:Bool}:Fit2 X (rIn3 X.K neg) (oIn neg):=by
 intro m S H x y v u Q w r1 r2 q
 unfold oIn at q
 split at q
 ·rename_i kvs k h1 h2
  obtain ⟨a,ws,rfl,hd,hk⟩:=dct_ok w r2 h1
  cases key_of r1 h2
  refine .inl ⟨a,valV ws k,rfl,.inl ⟨ws,k,hd,rfl,rfl⟩,?_⟩
  rw [hk.isSome]
  exact q _ H m Xt.refl w bl_rep
 ·exact q.elim
 ·split at q
  ·rename_i i j h1 h2
   have e1:=r1.rep w h1
   have e2:=r2.rep w h2
   unfold Rep at e1 e2
   exact .inr (.inr ⟨i,j,e1,e2,q _ H m Xt.refl w bl_rep⟩)
  ·rename_i d ds h1 h2
   split at q
   ·rename_i ha
    have e2:=r2.rep w h2
    unfold Rep at e2
    obtain ⟨p,zs,rfl,hq,hr⟩:=e2
    exact .inr (.inl ⟨d,ds,p,zs,r1.rep w h1,rfl,.inl hq,hr,Z.ask_of ha,q _ H m Xt.refl w bl_rep⟩)
   ·exact q.elim
  ·rename_i d ds h1 h2
   split at q
   ·rename_i ha
    have e2:=r2.rep w h2
    unfold Rep at e2
    obtain ⟨p,zs,rfl,hq,hr⟩:=e2
    exact .inr (.inl ⟨d,ds,p,zs,r1.rep w h1,rfl,.inr hq,hr,Z.ask_of ha,q _ H m Xt.refl w bl_rep⟩)
   ·exact q.elim
  ·exact q.elim
theorem qe_in {k:Nat}(hr:Room k X.A) (ha:QE X a f) (hb:QE X b g) (hm:behindInMarks .In b=false:=by rfl):QE X (.Compare a [.In] [b] pos) (bin (oIn false) f g):=qe_cmp (op_in3 (hu60 hr)) fit_in ha hb hm
theorem qt_in {k:Nat}(hr:Room k X.A) (ha:QE X a f) (hb:QE X b g) (hm:behindInMarks .In b=false:=by rfl):QT X (.Compare a [.In] [b] pos) (tst (bin (oIn false) f g)):=qt_cmp (op_in3 (hu60 hr)) fit_in ha hb hm
theorem qt_nin {k:Nat}(hr:Room k X.A) (ha:QE X a f) (hb:QE X b g) (hm:behindInMarks .NotIn b=false:=by rfl):QT X (.Compare a [.NotIn] [b] pos) (tst (bin (oIn true) f g)):=qt_cmp (op_nin3 (hu60 hr)) fit_in ha hb hm
noncomputable def isN:A->Option Bool
 |.d .non=>some true
 |.d _=>some false
 |.p _=>some false
 |.t _=>some false
 |.k _=>none
theorem isN_iff {K:PySem.W.Frag}{m:List Addr}{H:Hp}{x:A}{v:V}{b:Bool}(r:RA K m H x v) (e:isN x=some b):decide (v=.non)=b:=by
 cases x with
 |p k=>obtain ⟨a,_,rfl⟩:=RA.p_iff.mp r;cases e;rfl
 |t xs=>obtain ⟨a,_,rfl,_⟩:=RA.t_iff.mp r;cases e;rfl
 |k u=>cases e
 |d d=>
  rw [Z.rep_nonD (RA.d_iff.mp r)]
  cases d<;>cases e<;>rfl
noncomputable def oIsN (neg:Bool):O2:=fun x y S=>match y with
 |.d .non=>(opt (isN x) S).bind fun b S=>.ok (.d (.bl (if neg then !b else b))) S
 |_=>.no
theorem fit_isN:Fit2 X (fun x y H Q=>y=.non/\Q (.bl (decide (x=.non))) H) (oIsN false):=by
 intro m S H x y v u Q w r1 r2 q
 unfold oIsN at q
 split at q
 ·obtain ⟨b,hb,q⟩:=q.bind.opt
  refine ⟨rep_non r2,?_⟩
  rw [isN_iff r1 hb]
  exact q _ H m Xt.refl w bl_rep
 ·exact q.elim
theorem qt_isN (ha:QE X a f) (hb:QE X b g) (hm:behindInMarks .Is b=false:=by rfl):QT X (.Compare a [.Is] [b] pos) (tst (bin (oIsN false) f g)):=qt_cmp op_isN fit_isN ha hb hm
@[simp] noncomputable def A.seq (S:Sto):A->Option (List A)
 |.d (.lst ds)=>some (ds.map .d)
 |.d (.tup ds)=>some (ds.map .d)
 |.t xs=>some xs
 |.p i=>match S[i]? with
  |some c=>c.its
  |none=>none
 |_=>none
theorem seq_ok {K:PySem.W.Frag}{m:List Addr}{S:Sto}{H:Hp}{x:A}{v:V}{xs:List A}(w:Wd K m S H) (r:RA K m H x v) (e:A.seq S x=some xs):∃a vs,v=.ref a/\(SqL K H a vs∨SqT K H a vs)/\RAs K m H xs vs:=by
 cases x with
 |k u=>cases e
 |t ys=>cases e;obtain ⟨a,vs,rfl,h1,h2⟩:=RA.t_iff.mp r;exact ⟨a,vs,rfl,.inr (SqT.unm h1),h2⟩
 |p k=>
  obtain ⟨a,ha,rfl⟩:=RA.p_iff.mp r
  obtain ⟨c,hc,ok⟩:=w.at ha
  simp only [A.seq,hc] at e
  obtain ⟨vs,h1,h2⟩:=cel_its ok e
  exact ⟨a,vs,rfl,.inl (SqL.of h1),h2⟩
 |d y=>
  have r2:=RA.d_iff.mp r
  cases y with
  |lst ds=>cases e;unfold Rep at r2;obtain ⟨a,vs,rfl,h1,h2⟩:=r2;exact ⟨a,vs,rfl,.inl (SqL.unm h1),reps_RAs h2⟩
  |tup ds=>cases e;unfold Rep at r2;obtain ⟨a,vs,rfl,h1,h2⟩:=r2;exact ⟨a,vs,rfl,.inr (SqT.unm h1),reps_RAs h2⟩
  |str z=>cases e
  |non=>cases e
  |bl b=>cases e
  |int i=>cases e
theorem RAs.atI {K:PySem.W.Frag}{m:List Addr}{H:Hp}{xs:List A}{vs:List V}{i:Int}{x:A}(h:RAs K m H xs vs) (e:L2.atI xs i=some x):∃v,L2.atI vs i=some v/\RA K m H x v:=by
 unfold L2.atI at e ⊢
 rw [h.length]
 cases hn:ixN xs.length i with
 |none=>rw [hn] at e;cases e
 |some j=>rw [hn] at e;exact h.get e
noncomputable def oIx:O2:=fun x y S=>match y.dct S with
 |some _=>.no
 |none=>match x.dct S with
  |some kvs=>match keyA y with
   |some k=>opt (gv kvs k) S
   |none=>.no
  |none=>match x,y with
   |.d (.str z),.d (.int i)=>if z.length<=lim then opt ((atI z.cps.toList i).map fun c=>.d (.str ⟨#[c]⟩)) S else .no
   |x,.d (.int i)=>(opt (x.seq S) S).bind fun xs S=>opt (atI xs i) S
   |_,_=>.no
theorem fit_ix:Fit2 X (fun x y H Q=>rIx X.K x y H Q∨rIxD x y H Q) oIx:=by
 intro m S H x y v u Q w r1 r2 q
 unfold oIx at q
 split at q
 ·exact q.elim
 ·split at q
  ·rename_i kvs hk
   split at q
   ·rename_i k hkey
    obtain ⟨z,hz,q⟩:=q.opt
    obtain ⟨a,ws,rfl,hd,hr⟩:=dct_ok w r1 hk
    obtain ⟨t,ht,rt⟩:=hr.val_some hz
    cases key_of r2 hkey
    exact .inr ⟨a,t,rfl,.inl ⟨ws,k,hd,rfl,ht.symm⟩,q t H m Xt.refl w rt⟩
   ·exact q.elim
  ·split at q
   ·rename_i z i _
    cases rep_str r1;cases rep_int r2
    split at q
    ·rename_i hl
     obtain ⟨x,hx,q⟩:=q.opt
     obtain ⟨c,hc,rfl⟩:=Option.map_eq_some_iff.mp hx
     exact .inl (.inr (.inr ⟨_,_,c,rfl,rfl,lim_le hl,hc,q _ H m Xt.refl w str_rep⟩))
    ·exact q.elim
   ·rename_i x i _ _
    cases rep_int r2
    obtain ⟨xs,hx,q⟩:=q.bind.opt
    obtain ⟨z,hz,q⟩:=q.opt
    obtain ⟨a,vs,rfl,hs,hr⟩:=seq_ok w r1 hx
    obtain ⟨t,ht,rt⟩:=hr.atI hz
    rcases hs with hs | hs
    ·exact .inl (.inl ⟨a,vs,i,t,rfl,rfl,hs,ht,q t H m Xt.refl w rt⟩)
    ·exact .inl (.inr (.inl ⟨a,vs,i,t,rfl,rfl,hs,ht,q t H m Xt.refl w rt⟩))
   ·exact q.elim
theorem qe_item {k:Nat}(hr:Room k X.A) (ha:QE X a f) (hb:QE X b g) (hs:PlainIx b):QE X (.Subscript a b pos) (bin oIx f g):=qe_ix (ix_all (Nat.lt_of_le_of_lt (Nat.le_succ _) (Z.hu2 hr))) fit_ix ha hb hs
noncomputable def oPut:O3:=fun x y z S=>match x with
 |.p k=>match S[k]? with
  |some (.dic kvs)=>match keyA y with
   |some key=>if kvs.length < lim then .ok () (S.set k (.dic (pv kvs key z))) else .no
   |none=>.no
  |some (.lst ds)=>match y,z with
   |.d (.int i),.d v=>match ixN ds.length i with
    |some j=>.ok () (S.set k (.lst (ds.set j v)))
    |none=>.no
   |_,_=>.no
  |some (.gen xs)=>match y with
   |.d (.int i)=>match ixN xs.length i with
    |some j=>.ok () (S.set k (.gen (xs.set j z)))
    |none=>.no
   |_=>.no
  |_=>.no
 |_=>.no
theorem RAs.set {K:PySem.W.Frag}{m:List Addr}{H:Hp}{x:A}{v:V}(r:RA K m H x v):∀{xs:List A}{vs:List V}(n:Nat),RAs K m H xs vs->RAs K m H (xs.set n x) (vs.set n v)
 |[],vs,n,h=>by rw [h.nil_inv];exact RAs.nil
 |e::xs,vs,0,h=>by obtain ⟨u,t,rfl,h1,h2⟩:=h.cons_inv;exact RAs.cons r h2
 |e::xs,vs,n+1,h=>by obtain ⟨u,t,rfl,h1,h2⟩:=h.cons_inv;exact RAs.cons h1 (RAs.set r n h2)
theorem nf_lst {H:Hp}{a:Addr}{vs:List V}(h:H a=some (.lst vs)):∀ob u,H a≠some (.frz ob u):=fun ob u z=>by rw [h] at z;cases z
theorem nf_dk {H:Hp}{a:Addr}{vs:List (Key×V)}(h:H a=some (.dK vs)):∀ob u,H a≠some (.frz ob u):=fun ob u z=>by rw [h] at z;cases z
theorem fit_put:Fit3 X (fun o i v H Q=>rSetL o i v H Q∨rSetD o i v H Q) oPut:=by
 intro m S H x y z v u t Q w r1 r2 r3 q
 unfold oPut at q
 split at q
 ·rename_i k
  obtain ⟨a,ha,rfl⟩:=RA.p_iff.mp r1
  split at q
  ·rename_i kvs hc
   split at q
   ·rename_i key hk
    split at q
    ·rename_i hl
     obtain ⟨ws,h1,h2⟩:=w.cell k a _ ha hc
     cases key_of r2 hk
     exact .inr ⟨a,_,rfl,DPut.k h1 (by rw [h2.length];exact Nat.lt_trans hl lim_lt),q _ m (Xt.upd (List.mem_of_getElem? ha) (nf_dk h1)) (w.set_dic ha (h2.put r3))⟩
    ·exact q.elim
   ·exact q.elim
  ·rename_i ds hc
   split at q
   ·rename_i i d
    split at q
    ·rename_i j hj
     obtain ⟨vs,h1,h2⟩:=w.cell k a _ ha hc
     cases rep_int r2
     exact .inl ⟨a,vs,i,j,rfl,rfl,h1,by rw [Reps.length h2];exact hj,q _ m (Xt.upd (List.mem_of_getElem? ha) (nf_lst h1)) (w.set_lst ha (Z.Reps.put j h2 (RA.d_iff.mp r3)))⟩
    ·exact q.elim
   ·exact q.elim
  ·rename_i xs hc
   split at q
   ·rename_i i
    split at q
    ·rename_i j hj
     obtain ⟨vs,h1,h2⟩:=w.cell k a _ ha hc
     cases rep_int r2
     exact .inl ⟨a,vs,i,j,rfl,rfl,h1,by rw [h2.length];exact hj,q _ m (Xt.upd (List.mem_of_getElem? ha) (nf_lst h1)) (w.set_gen ha (RAs.set r3 j h2))⟩
    ·exact q.elim
   ·exact q.elim
  ·exact q.elim
 ·exact q.elim
theorem qs_sub {pos':Pos}{k:Nat}(hr:Room k X.A) (he:QE X e f) (ha:QE X a g) (hb:QE X b h)
  (hpg:∀v,assign (.Subscript a b pos') X.env v=(do
   let ov <-holding [v] (eval a X.env)
   let iv <-holding [v,ov] (eval b X.env)
   standAt pos'
   holding [v,ov,iv] (setItem ov iv v)
   release [v,ov,iv] []):=by intro _;rfl)
  (hs:swapsWithSole [.Subscript a b pos'] e pos.line X.env=pure false:=by rfl) (hw:swappedStores [.Subscript a b pos'] e X.env=pure none:=by rfl)
  (h1:(assignEach [.Subscript a b pos'] X.env).map (·.2)=[assign (.Subscript a b pos') X.env]:=by rfl) :
  QS X (.Assign [.Subscript a b pos'] e pos) (sPut oPut f g h):=qs_put (set_all (Nat.lt_of_le_of_lt (Nat.le_succ _) (Z.hu2 hr))) fit_put he ha hb hpg hs hw h1
end
end Y
namespace Y
open PySem L2
open Z (msk msk_in msk_out msk_le msk_app msk_upd msk_new msk_newc lim lim_lt lim_le)
section
variable {X:Cx}{a b e o:Expr}{es:List Expr}{f g h:FE}{fa:FA}{pos p:Pos}
noncomputable abbrev FO:=Rho->Sto->R (Option Int)
noncomputable def tFO (X:Cx) (f:FO):TO:=fun σ H Q=>∃ρ S m,RS X.K m H σ ρ/\Wd X.K m S H/\Res X m H (f ρ S) fun x S'=>∀H' m',Xt m H m' H'->Wd X.K m' S' H'->Q x H'
noncomputable abbrev QO (X:Cx) (e:Option Expr) (f:FO):Prop:=PO X e (tFO X f)
noncomputable def oNo:FO:=fun _ S=>.ok none S
noncomputable def oSome (f:FE):FO:=fun ρ S=>(f ρ S).bind fun x S=>match x with
 |.d (.int i)=>.ok (some i) S
 |_=>.no
theorem qo_none:QO X none oNo:=imO po_none fun σ H Q q=>by
 obtain ⟨ρ,S,m,Rr,W,q⟩:=q
 exact q H m Xt.refl W
theorem qo_some (h:QE X e f):QO X (some e) (oSome f):=imO (po_some h) fun σ H Q q=>by
 obtain ⟨ρ,S,m,Rr,W,q⟩:=q
 refine ⟨ρ,S,m,Rr,W,q.bind.imp fun x S1 q v H1 m1 x1 w1 r1=>?_⟩
 split at q
 ·exact ⟨_,rep_int r1,q H1 m1 x1 w1⟩
 ·exact q.elim
noncomputable def oCut (x:A) (lo hi:Option Int) (S:Sto):R A:=match x.sh S with
 |some (.lst ds)=>.ok (.d (.lst (Z.cutD ds lo hi))) S
 |some (.tup ds)=>if HT.sIx ds.length 0 lo=0/\HT.sIx ds.length ds.length hi=ds.length then .no else .ok (.d (.tup (Z.cutD ds lo hi))) S
 |some (.str z)=>if z.length<=lim then .ok (.d (.str (Txt.slice z lo hi))) S else .no
 |_=>.no
noncomputable def cutF (f:FE) (l h:FO):FE:=fun ρ S=>(f ρ S).bind fun x S=>(l ρ S).bind fun lo S=>(h ρ S).bind fun hi S=>oCut x lo hi S
theorem qe_slice {lo hi:Option Expr}{l h:FO}{p2:Pos}(he:QE X e f) (hl:QO X lo l) (hh:QO X hi h):QE X (.Subscript e (.Slice lo hi none p2) pos) (cutF f l h):=imE (pe_slice (sl_list.or (sl_tup.or sl_str)) he hl hh) fun σ H Q q=>by
 obtain ⟨ρ,S,m,Rr,W,q⟩:=q
 refine ⟨ρ,S,m,Rr,W,q.bind.imp fun x S1 q v H1 m1 x1 w1 r1=>⟨ρ,S1,m1,Rr.ext x1,w1,(q.step x1).bind.imp fun lo S2 q H2 m2 x2 w2=>⟨ρ,S2,m2,(Rr.ext x1).ext x2,w2,(q.step x2).bind.imp fun hi S3 q H3 m3 x3 w3=>?_⟩⟩⟩
 have x4:=x1.trans (x2.trans x3)
 have r3:=(r1.ext x2).ext x3
 unfold oCut at q
 split at q
 ·rename_i ds hd
  obtain ⟨a,vs,rfl,h1,h2⟩:=sh_lst w3 r3 hd
  exact .inl ⟨a,vs,rfl,h1,fun p hp=>q _ _ m3 (x4.trans (Xt.new hp)) (w3.new hp) (new_lst w3 hp (Z.Reps.cut h2 lo hi))⟩
 ·rename_i ds hd
  split at q
  ·exact q.elim
  ·rename_i hn
   obtain ⟨e1,a,vs,rfl,h1,h2⟩:=sh_tup r3 hd
   exact .inr (.inl ⟨a,vs,rfl,h1,by rw [Reps.length h2];exact hn,fun p hp=>q _ _ m3 (x4.trans (Xt.new hp)) (w3.new hp) (new_tup w3 hp (Z.Reps.cut h2 lo hi))⟩)
 ·rename_i z hd
  split at q
  ·rename_i hl
   have ez:=sh_d hd (fun _ z=>by cases z)
   rw [ez] at r3
   exact .inr (.inr ⟨z,rep_str r3,lim_le hl,q _ _ m3 x4 w3 str_rep⟩)
  ·exact q.elim
 ·exact q.elim
noncomputable def FitC (X:Cx) (r:List V->Hp->VK->Prop) (o:List A->Sto->R A):Prop:=∀{m:List Addr}{S:Sto}{H:Hp}{xs:List A}{vs:List V}{Q:VK},Wd X.K m S H->RAs X.K m H xs vs->Res X m H (o xs S) (Aft X.K m H Q)->r vs H Q
noncomputable def cal (o:List A->Sto->R A) (fa:FA):FE:=fun ρ S=>(fa ρ S).bind o
theorem cal_of {r:List V->Hp->VK->Prop}{o:List A->Sto->R A}(hf:FitC X r o):∀σ H Q,tF X (cal o fa) σ H Q->tCB r (tFA X fa) σ H Q:=by
 rintro σ H Q ⟨ρ,S,m,Rr,W,q⟩
 exact ⟨ρ,S,m,Rr,W,q.bind.imp fun xs S1 q vs H1 m1 x1 w1 r1=>hf w1 r1 ((q.step x1).imp fun z S2 q=>Aft.step x1 q)⟩
theorem one_of {K:PySem.W.Frag}{m:List Addr}{H:Hp}{x:A}{vs:List V}(h:RAs K m H [x] vs):∃v,vs=[v]/\RA K m H x v:=by
 obtain ⟨v,us,rfl,h1,h2⟩:=h.cons_inv
 rw [h2.nil_inv];exact ⟨v,rfl,h1⟩
theorem two_of {K:PySem.W.Frag}{m:List Addr}{H:Hp}{x y:A}{vs:List V}(h:RAs K m H [x,y] vs):∃v u,vs=[v,u]/\RA K m H x v/\RA K m H y u:=by
 obtain ⟨v,us,rfl,h1,h2⟩:=h.cons_inv
 obtain ⟨u,rfl,h3⟩:=one_of h2
 exact ⟨v,u,rfl,h1,h3⟩
noncomputable def oLen (xs:List A) (S:Sto):R A:=match xs with
 |[x]=>match x.dct S with
  |some kvs=>.ok (.d (.int kvs.length)) S
  |none=>match x with
   |.d (.str z)=>if z.length<=lim then .ok (.d (.int z.length)) S else .no
   |x=>(opt (x.seq S) S).bind fun ys S=>.ok (.d (.int ys.length)) S
 |_=>.no
noncomputable def rLenA (K:PySem.W.Frag):List V->Hp->VK->Prop:=fun xs H Q=>(∃x n,xs=[x]/\LenV K x H n/\Q (.int n) H)∨∃a kvs,xs=[V.ref a]/\Rd H a (.dK kvs)/\Q (.int kvs.length) H
theorem call_lenA:CallR X (.builtin "len") (rLenA X.K):=call_len.or (by
 intro pins s σ H xs us Q I r h
 obtain ⟨a,kvs,rfl,ha,q⟩:=h
 obtain ⟨u,rfl,ru⟩:=vals1 r
 cases ru
 exact d_len I ha fun t s' I'=>⟨.int kvs.length,H,I',⟨t,rfl⟩,q⟩)
theorem fit_len:FitC X (rLenA X.K) oLen:=by
 intro m S H xs vs Q w r q
 unfold oLen at q
 split at q
 ·rename_i x
  obtain ⟨v,rfl,r'⟩:=one_of r
  split at q
  ·rename_i kvs hk
   obtain ⟨a,ws,rfl,hd,hr⟩:=dct_ok w r' hk
   refine .inr ⟨a,ws,rfl,hd,?_⟩
   rw [hr.length]
   exact q _ H m Xt.refl w int_rep
  ·split at q
   ·rename_i z _
    split at q
    ·rename_i hl
     cases rep_str r'
     exact .inl ⟨_,_,rfl,⟨lim_le hl,rfl⟩,q _ H m Xt.refl w int_rep⟩
    ·exact q.elim
   ·obtain ⟨ys,hy,q⟩:=q.bind.opt
    obtain ⟨a,us,rfl,hs,hr⟩:=seq_ok w r' hy
    refine .inl ⟨_,us.length,rfl,?_,by rw [hr.length];exact q _ H m Xt.refl w int_rep⟩
    rcases hs with hs | hs
    ·exact .inl ⟨us,hs,rfl⟩
    ·exact .inr ⟨us,hs,rfl⟩
 ·exact q.elim
theorem qe_len (hg:Gl X "len") (hm:X.mg "len" = none) (ha:QA X (e::es) fa) (he:starEach (e::es) X.env=(false,eval e X.env)::starEach es X.env:=by rfl) (hpl:(backTo pos (starEach es X.env)).any (·.1)=false:=by rfl):QE X (.Call (.Name "len" p) (e::es) [] pos) (cal oLen fa):=
 imE (pe_callB call_lenA hg hm bt_len ha (by decide) (by decide) he hpl) (cal_of fit_len)
noncomputable def oTuple (xs:List A) (S:Sto):R A:=match xs with
 |[.d (.tup ds)]=>.ok (.d (.tup ds)) S
 |[.t ys]=>.ok (.t ys) S
 |[x]=>match x.seq S with
  |some ys=>.ok (mkT ys) S
  |none=>.no
 |_=>.no
theorem seq_lst {K:PySem.W.Frag}{m:List Addr}{S:Sto}{H:Hp}{x:A}{v:V}{xs:List A}(w:Wd K m S H) (r:RA K m H x v) (e:A.seq S x=some xs) (h1:∀ds,x≠.d (.tup ds)) (h2:∀ys,x≠.t ys):∃a vs,v=.ref a/\SqL K H a vs/\RAs K m H xs vs:=by
 cases x with
 |k u=>cases e
 |t ys=>exact absurd rfl (h2 ys)
 |p k=>
  obtain ⟨a,ha,rfl⟩:=RA.p_iff.mp r
  obtain ⟨c,hc,ok⟩:=w.at ha
  simp only [A.seq,hc] at e
  obtain ⟨vs,h1,h2⟩:=cel_its ok e
  exact ⟨a,vs,rfl,SqL.of h1,h2⟩
 |d y=>
  have r2:=RA.d_iff.mp r
  cases y with
  |lst ds=>cases e;unfold Rep at r2;obtain ⟨a,vs,rfl,h1,h2⟩:=r2;exact ⟨a,vs,rfl,SqL.unm h1,reps_RAs h2⟩
  |tup ds=>exact absurd rfl (h1 ds)
  |str z=>cases e
  |non=>cases e
  |bl b=>cases e
  |int i=>cases e
theorem fit_tuple:FitC X (fun xs H Q=>∃p ys,xs=[.ref p]/\((SqL X.K H p ys/\∀l,H l=none->Q (.ref l) (upd H l (.tup ys)))∨(SqT X.K H p ys/\Q (.ref p) H))) oTuple:=by
 intro m S H xs vs Q w r q
 unfold oTuple at q
 split at q
 ·obtain ⟨v,rfl,r'⟩:=one_of r
  have r2:=RA.d_iff.mp r'
  unfold Rep at r2
  obtain ⟨a,us,rfl,h1,h2⟩:=r2
  exact ⟨a,us,rfl,.inr ⟨SqT.unm h1,q _ H m Xt.refl w r'⟩⟩
 ·obtain ⟨v,rfl,r'⟩:=one_of r
  obtain ⟨a,us,rfl,h1,h2⟩:=RA.t_iff.mp r'
  exact ⟨a,us,rfl,.inr ⟨SqT.unm h1,q _ H m Xt.refl w r'⟩⟩
 ·rename_i x h1 h2
  obtain ⟨v,rfl,r'⟩:=one_of r
  split at q
  ·rename_i ys hy
   obtain ⟨a,us,rfl,hs,hr⟩:=seq_lst w r' hy (fun ds z=>h1 ds (by rw [z])) (fun ys z=>h2 ys (by rw [z]))
   exact ⟨a,us,rfl,.inl ⟨hs,fun l hl=>q _ _ m (Xt.new hl) (w.new hl) (mkT_ok w hl hr)⟩⟩
  ·exact q.elim
 ·exact q.elim
theorem qe_tuple (hg:Gl X "tuple") (hm:X.mg "tuple" = none) (ha:QA X (e::es) fa) (he:starEach (e::es) X.env=(false,eval e X.env)::starEach es X.env:=by rfl) (hpl:(backTo pos (starEach es X.env)).any (·.1)=false:=by rfl):QE X (.Call (.Name "tuple" p) (e::es) [] pos) (cal oTuple fa):=
 imE (pe_callTy call_tuple_of hg hm bt_tuple ha (by decide) (by decide) he hpl) (cal_of fit_tuple)
noncomputable def oAll (al:Bool) (xs:List A) (S:Sto):R A:=match xs with
 |[x]=>match x.sh S with
  |some (.lst ds)=>match Z.unBls ds with
   |some bs=>.ok (.d (.bl (if al then bs.all id else bs.any id))) S
   |none=>.no
  |_=>.no
 |_=>.no
theorem fit_all (al:Bool):FitC X (rAll X.K fun bs=>if al then bs.all id else bs.any id) (oAll al):=by
 intro m S H xs vs Q w r q
 unfold oAll at q
 split at q
 ·rename_i x
  obtain ⟨v,rfl,r'⟩:=one_of r
  split at q
  ·rename_i ds hd
   split at q
   ·rename_i bs hb
    obtain ⟨a,us,rfl,h1,h2⟩:=sh_lst w r' hd
    cases Z.unBls_eq hb
    cases Z.Reps.bls h2
    exact ⟨a,bs,rfl,h1,q _ H m Xt.refl w bl_rep⟩
   ·exact q.elim
  ·exact q.elim
 ·exact q.elim
theorem qe_all (hc:X.cool=true) (hg:Gl X "all") (hm:X.mg "all" = none) (ha:QA X (e::es) fa) (he:starEach (e::es) X.env=(false,eval e X.env)::starEach es X.env:=by rfl) (hpl:(backTo pos (starEach es X.env)).any (·.1)=false:=by rfl):QE X (.Call (.Name "all" p) (e::es) [] pos) (cal (oAll true) fa):=
 imE (pe_callB (call_allB hc) hg hm bt_all ha (by decide) (by decide) he hpl) (cal_of (fit_all true))
noncomputable def oAbs (xs:List A) (S:Sto):R A:=match xs with
 |[.d (.int i)]=>.ok (.d (.int (if i < 0 then -i else i))) S
 |_=>.no
theorem fit_abs:FitC X (fun xs H Q=>∃i,xs=[.int i]/\Q (.int (if i < 0 then -i else i)) H) oAbs:=by
 intro m S H xs vs Q w r q
 unfold oAbs at q
 split at q
 ·rename_i i
  obtain ⟨v,rfl,r'⟩:=one_of r
  cases rep_int r'
  exact ⟨i,rfl,q _ H m Xt.refl w int_rep⟩
 ·exact q.elim
theorem qe_abs (hg:Gl X "abs") (hm:X.mg "abs" = none) (ha:QA X (e::es) fa) (he:starEach (e::es) X.env=(false,eval e X.env)::starEach es X.env:=by rfl) (hpl:(backTo pos (starEach es X.env)).any (·.1)=false:=by rfl):QE X (.Call (.Name "abs" p) (e::es) [] pos) (cal oAbs fa):=
 imE (pe_callB call_abs hg hm bt_abs ha (by decide) (by decide) he hpl) (cal_of fit_abs)
noncomputable def oMax (mx:Bool) (xs:List A) (S:Sto):R A:=match xs with
 |[.d (.int i),.d (.int j)]=>.ok (.d (.int (if mx then (if j > i then j else i) else (if j < i then j else i)))) S
 |[.d (.tup ds),.d (.tup es)]=>match Z.unInts ds,Z.unInts es with
  |some ns,some ms=>.ok (.d (.tup (if (if mx then HT.lexLt ns ms else HT.lexLt ms ns) then es else ds))) S
  |_,_=>.no
 |_=>.no
theorem fit_max:FitC X (fun xs H Q=>(∃i j,xs=[.int i,.int j]/\Q (.int (if j > i then j else i)) H)∨rMaxT X.K xs H Q) (oMax true):=by
 intro m S H xs vs Q w r q
 unfold oMax at q
 split at q
 ·rename_i i j
  obtain ⟨v,u,rfl,r1,r2⟩:=two_of r
  cases rep_int r1;cases rep_int r2
  exact .inl ⟨i,j,rfl,q _ H m Xt.refl w int_rep⟩
 ·rename_i ds es
  obtain ⟨v,u,rfl,r1,r2⟩:=two_of r
  split at q
  ·rename_i ns ms h1 h2
   cases Z.unInts_eq h1;cases Z.unInts_eq h2
   obtain ⟨a,rfl,q1⟩:=rep_ints (K:=X.K) (ns:=ns) (H:=msk m H) (RA.d_iff.mp r1)
   obtain ⟨b,rfl,q2⟩:=rep_ints (K:=X.K) (ns:=ms) (H:=msk m H) (RA.d_iff.mp r2)
   refine .inr ⟨a,b,ns,ms,rfl,SqT.unm q1,SqT.unm q2,q _ H m Xt.refl w ?_⟩
   cases HT.lexLt ns ms
   ·exact r1
   ·exact r2
  ·exact q.elim
 ·exact q.elim
theorem fit_min:FitC X (fun xs H Q=>(∃i j,xs=[.int i,.int j]/\Q (.int (if j < i then j else i)) H)∨rMinT X.K xs H Q) (oMax false):=by
 intro m S H xs vs Q w r q
 unfold oMax at q
 split at q
 ·rename_i i j
  obtain ⟨v,u,rfl,r1,r2⟩:=two_of r
  cases rep_int r1;cases rep_int r2
  exact .inl ⟨i,j,rfl,q _ H m Xt.refl w int_rep⟩
 ·rename_i ds es
  obtain ⟨v,u,rfl,r1,r2⟩:=two_of r
  split at q
  ·rename_i ns ms h1 h2
   cases Z.unInts_eq h1;cases Z.unInts_eq h2
   obtain ⟨a,rfl,q1⟩:=rep_ints (K:=X.K) (ns:=ns) (H:=msk m H) (RA.d_iff.mp r1)
   obtain ⟨b,rfl,q2⟩:=rep_ints (K:=X.K) (ns:=ms) (H:=msk m H) (RA.d_iff.mp r2)
   refine .inr ⟨a,b,ns,ms,rfl,SqT.unm q1,SqT.unm q2,q _ H m Xt.refl w ?_⟩
   cases HT.lexLt ms ns
   ·exact r1
   ·exact r2
  ·exact q.elim
 ·exact q.elim
theorem qe_max {k:Nat}(hc:X.cool=true) (hr:Room k X.A) (hg:Gl X "max") (hm:X.mg "max" = none) (ha:QA X (e::es) fa) (he:starEach (e::es) X.env=(false,eval e X.env)::starEach es X.env:=by rfl) (hpl:(backTo pos (starEach es X.env)).any (·.1)=false:=by rfl):QE X (.Call (.Name "max" p) (e::es) [] pos) (cal (oMax true) fa):=
 imE (pe_callB ((call_max2 hc).or (call_maxT hc (Z.hu2 hr))) hg hm bt_max ha (by decide) (by decide) he hpl) (cal_of fit_max)
theorem qe_min {k:Nat}(hc:X.cool=true) (hr:Room k X.A) (hg:Gl X "min") (hm:X.mg "min" = none) (ha:QA X (e::es) fa) (he:starEach (e::es) X.env=(false,eval e X.env)::starEach es X.env:=by rfl) (hpl:(backTo pos (starEach es X.env)).any (·.1)=false:=by rfl):QE X (.Call (.Name "min" p) (e::es) [] pos) (cal (oMax false) fa):=
 imE (pe_callB ((call_min2 hc).or (call_minT hc (Z.hu2 hr))) hg hm bt_min ha (by decide) (by decide) he hpl) (cal_of fit_min)
noncomputable def tyA (S:Sto):A->Option String
 |.d x=>some (tyD x)
 |.p i=>match S[i]? with
  |some (.lst _)=>some "list"
  |some (.gen _)=>some "list"
  |some (.dic _)=>some "dict"
  |_=>none
 |_=>none
noncomputable def oIs (c:String):O1:=fun x S=>(opt (tyA S x) S).bind fun t S=>.ok (.d (.bl (decide (c=t∨(c = "int" /\ t = "bool"))))) S
theorem kit_list {K:PySem.W.Frag}{c:String}(h:Z.known c):PySem.W.kitOne K (.type "list") (.type c)=some (decide (c = "list" ∨ (c = "int" /\ "list" = "bool"))):=by
 rcases h with rfl | rfl | rfl | rfl | rfl<;>rfl
theorem kit_dict {K:PySem.W.Frag}{c:String}(h:Z.known c):PySem.W.kitOne K (.type "dict") (.type c)=some (decide (c = "dict" ∨ (c = "int" /\ "dict" = "bool"))):=by
 rcases h with rfl | rfl | rfl | rfl | rfl<;>rfl
theorem qe_isi {c:Str}{cs:String}{p1 p2:Pos}(hk:Z.known cs) (hg:Gl X "isinstance") (hm:X.mg "isinstance" = none) (hgc:Gl X c) (hmc:X.mg c=none) (hb:bootBuiltins c=some (.type cs)) (ha:QE X a f) (hn:c ≠ "__name__" := by decide) (hd:(c==("__debug__" : Str))=false:=by decide) (hs:noStar a=true:=by rfl)
  (h1:starEach [a,.Name c p2] X.env=(false,eval a X.env)::starEach [.Name c p2] X.env:=by rfl) (h2:(backTo pos (starEach [.Name c p2] X.env)).any (·.1)=false:=by rfl):QE X (.Call (.Name "isinstance" p1) [a,.Name c p2] [] pos) (un (oIs cs) f):=
 imE (pe_callB (call_isD.or call_isi) hg hm bt_isinstance (pac ha (pac (pe_bltn (v:=.ty cs) hgc hmc hb rfl hn hd) pa_nil rfl) hs) (by decide) (by decide) h1 h2) fun σ H Q q=>by
  obtain ⟨ρ,S,m,Rr,W,q⟩:=q
  refine ⟨ρ,S,m,Rr,W,q.bind.imp fun x S1 q v H1 m1 x1 w1 r1=>?_⟩
  obtain ⟨t,ht,q⟩:=q.bind.opt
  cases x with
  |k u=>cases ht
  |t xs=>cases ht
  |d y=>
   cases ht
   exact .inl ⟨v,cs,y,_,rfl,Rep.same msk_le (RA.d_iff.mp r1),Z.kit_is hk y,q _ H1 m1 x1 w1 bl_rep⟩
  |p j=>
   obtain ⟨l,hl,rfl⟩:=RA.p_iff.mp r1
   obtain ⟨ce,hc,ok⟩:=w1.at hl
   simp only [tyA,hc] at ht
   have un:∀u,RelV (.ty cs) u->u=Value.type cs:=fun u z=>z
   cases ce with
   |lst ds=>cases ht;obtain ⟨vs,h3,_⟩:=ok;exact .inr ⟨_,_,_,_,_,rfl,rfl,un,.lst h3,kit_list hk,q _ H1 m1 x1 w1 bl_rep⟩
   |gen xs=>cases ht;obtain ⟨vs,h3,_⟩:=ok;exact .inr ⟨_,_,_,_,_,rfl,rfl,un,.lst h3,kit_list hk,q _ H1 m1 x1 w1 bl_rep⟩
   |dic kvs=>cases ht;obtain ⟨vs,h3,_⟩:=ok;exact .inr ⟨_,_,_,_,_,rfl,rfl,un,.dK h3,kit_dict hk,q _ H1 m1 x1 w1 bl_rep⟩
   |ins C fs=>cases ht
   |frd kvs=>cases ht
   |exc C fs=>cases ht
noncomputable abbrev OM:=A->List A->Sto->R A
noncomputable def FitM (X:Cx) (T:String) (r:V->List V->Hp->VK->Prop) (o:OM):Prop:=∀{m:List Addr}{S:Sto}{H:Hp}{x:A}{xs:List A}{v:V}{vs:List V}{Q:VK},Wd X.K m S H->RA X.K m H x v->RAs X.K m H xs vs->Res X m H (o x xs S) (Aft X.K m H Q)->r v vs H Q
noncomputable def isT (T:String) (S:Sto):A->Bool
 |.p i=>match S[i]? with
  |some (.lst _)=>T == "list"
  |some (.gen _)=>T == "list"
  |some (.dic _)=>T == "dict"
  |_=>false
 |.d (.lst _)=>T == "list"
 |.d (.str _)=>T == "str"
 |_=>false
theorem isT_ok {K : PySem.W.Frag} {m : List Addr} {S : Sto} {H : Hp} {T : String} {x : A} {v : V} (w : Wd K m S H) (r : RA K m H x v) (e : isT T S x = true) : tyV K T v H := by
  cases x with
  | k u => cases e
  | t xs => cases e
  | d y =>
    have r2 := RA.d_iff.mp r
    cases y with
    | lst ds => unfold Rep at r2; obtain ⟨a, vs, rfl, h1, _⟩ := r2; exact .inl ⟨by simpa [isT] using e, vs, SqL.unm h1⟩
    | str z => cases rep_str r; have e' : T = "str" := by simpa [isT] using e
               exact e'
    | tup ds => cases e
    | non => cases e
    | bl b => cases e
    | int i => cases e
  | p j =>
    obtain ⟨l, hl, rfl⟩ := RA.p_iff.mp r
    obtain ⟨ce, hc, ok⟩ := w.at hl
    simp only [isT, hc] at e
    cases ce with
    | lst ds => obtain ⟨vs, h3, _⟩ := ok; exact .inl ⟨by simpa using e, vs, SqL.of h3⟩
    | gen ds => obtain ⟨vs, h3, _⟩ := ok; exact .inl ⟨by simpa using e, vs, SqL.of h3⟩
    | dic kvs => obtain ⟨vs, h3, _⟩ := ok; exact .inr (.inr (.inl ⟨by simpa using e, .inl ⟨vs, h3⟩⟩))
    | ins C fs => cases e
    | frd kvs => cases e
    | exc C fs => cases e
noncomputable def mcF (T:String) (o:OM) (f:FE) (fa:FA):FE:=fun ρ S=>(f ρ S).bind fun x S=>if isT T S x=true then (fa ρ S).bind fun xs S=>o x xs S else .no
theorem mc_of {T:String}{r:V->List V->Hp->VK->Prop}{o:OM}(hf:FitM X T r o):∀σ H Q,tF X (mcF T o f fa) σ H Q->tBM X.K T r (tF X f) (tFA X fa) σ H Q:=by
 rintro σ H Q ⟨ρ,S,m,Rr,W,q⟩
 refine ⟨ρ,S,m,Rr,W,q.bind.imp fun x S1 q v H1 m1 x1 w1 r1=>?_⟩
 split at q
 ·rename_i ht
  exact ⟨isT_ok w1 r1 ht,ρ,S1,m1,Rr.ext x1,w1,(q.step x1).bind.imp fun xs S2 q vs H2 m2 x2 w2 r2=>hf w2 (r1.ext x2) r2 ((q.step x2).imp fun z S3 q=>Aft.step (x1.trans x2) q)⟩
 ·exact q.elim
theorem qe_mc {T:String}{n:Str}{id:String}{r:V->List V->Hp->VK->Prop}{om:OM}{apos cpos:Pos}(pa:PlainAttrs T) (slot:Slot T n id) (hty:typeOf (.builtin id)=pure (.type "method_descriptor")) (hm:MtR X id r) (hf:FitM X T r om) (ho:QE X o f) (ha:QA X (e::es) fa)
  (hbase:attributeBase o n X.env (eval o X.env)=eval o X.env:=by rfl)
  (hfew:((backTo cpos (starEach (e::es) X.env)).all (fun x=>!x.1)&&(backToKw cpos (keywordEach [] X.env)).all (fun x=>x.1.isSome)
   && decide ((e::es).length+([]:List Keyword).length+(if ([]:List Keyword).isEmpty then 0 else 1) < 30))=true:=by rfl)
  (hline:(apos.endLine==cpos.line)=true:=by rfl) (hs:starEach (e::es) X.env=(false,eval e X.env)::starEach es X.env:=by rfl) (hplain:(backTo cpos (starEach es X.env)).any (·.1)=false:=by rfl) :
  QE X (.Call (.Attribute o n apos) (e::es) [] cpos) (mcF T om f fa):=imE (pe_bm pa slot hty hm ho ha hbase hfew hline hs hplain) (mc_of hf)
noncomputable def mkL (c:Cel) (xs:List A):Cel:=match c,datas xs with
 |.lst _,some ds=>.lst ds
 |_,_=>.gen xs
theorem mkL_ok {K:PySem.W.Frag}{m:List Addr}{H:Hp}{a:Addr}{c:Cel}{xs:List A}{vs:List V}(h1:H a=some (.lst vs)) (r:RAs K m H xs vs):CelOk K m H a (mkL c xs):=by
 unfold mkL
 split
 ·rename_i ds hd;exact ⟨vs,h1,r.datas hd⟩
 ·exact ⟨vs,h1,r⟩
theorem Wd.set_mk {K:PySem.W.Frag}{m:List Addr}{H:Hp}{S:Sto}{a:Addr}{k:Nat}{c:Cel}{xs:List A}{vs:List V}(w:Wd K m S H) (h1:m[k]?=some a) (r:RAs K m H xs vs):Wd K m (S.set k (mkL c xs)) (upd H a (.lst vs)):=w.set h1 (mkL_ok upd_same (RAs.sub (fun _ _ z=>z) (sm_upd (List.mem_of_getElem? h1)) r))
noncomputable def wrL (g:List A->List A->Option (List A×A)):OM:=fun x xs S=>match x with
 |.p k=>match S[k]? with
  |some c=>match c.its with
   |some ys=>match g ys xs with
    |some (zs,t)=>if ys.length < lim/\zs.length<=lim then .ok t (S.set k (mkL c zs)) else .no
    |none=>.no
   |none=>.no
  |none=>.no
 |_=>.no
theorem fit_wr {r:V->List V->Hp->VK->Prop}{g:List A->List A->Option (List A×A)}(hg:∀{m:List Addr}{H:Hp}{ys xs zs:List A}{t:A}{us vs:List V}{l:Addr}{Q:VK},g ys xs=some (zs,t)->RAs X.K m H ys us->RAs X.K m H xs vs->H l=some (.lst us)->ys.length < lim->zs.length<=lim ->
  (∀v ws,RAs X.K m H zs ws->RA X.K m H t v->Q v (upd H l (.lst ws)))->r (.ref l) vs H Q):FitM X "list" r (wrL g):=by
 intro m S H x xs v vs Q w r1 r2 q
 unfold wrL at q
 split at q
 ·rename_i k
  obtain ⟨a,ha,rfl⟩:=RA.p_iff.mp r1
  split at q
  ·rename_i c hc
   split at q
   ·rename_i ys hy
    split at q
    ·rename_i zs t hz
     split at q
     ·rename_i hl
      obtain ⟨us,h1,h2⟩:=cel_its (w.cell k a c ha hc) hy
      refine hg hz h2 r2 h1 hl.1 hl.2 fun v ws rw rt=>?_
      have x':Xt m H m (upd H a (.lst ws)):=Xt.upd (List.mem_of_getElem? ha) (nf_lst h1)
      exact q v _ m x' (w.set_mk ha rw) (rt.ext x')
     ·exact q.elim
    ·exact q.elim
   ·exact q.elim
  ·exact q.elim
 ·exact q.elim
noncomputable def gApp (ys xs:List A):Option (List A×A):=match xs with
 |[x]=>some (ys++[x],.d .non)
 |_=>none
theorem fit_app:FitM X "list" rAppend (wrL gApp):=fit_wr fun {m H ys xs zs t us vs l Q} e h1 h2 hl l1 l2 q=>by
 unfold gApp at e
 split at e
 ·cases e
  obtain ⟨v,rfl,r⟩:=one_of h2
  exact ⟨l,us,v,rfl,rfl,hl,by rw [h1.length];exact Nat.lt_trans l1 lim_lt,q _ _ (RAs.app h1 (RAs.cons r RAs.nil)) non_rep⟩
 ·cases e
theorem qe_app {apos cpos:Pos}(ho:QE X o f) (ha:QA X (e::es) fa)
  (hbase:attributeBase o "append" X.env (eval o X.env)=eval o X.env:=by rfl)
  (hfew:((backTo cpos (starEach (e::es) X.env)).all (fun x=>!x.1)&&(backToKw cpos (keywordEach [] X.env)).all (fun x=>x.1.isSome)
   && decide ((e::es).length+([]:List Keyword).length+(if ([]:List Keyword).isEmpty then 0 else 1) < 30))=true:=by rfl)
  (hline:(apos.endLine==cpos.line)=true:=by rfl) (hs:starEach (e::es) X.env=(false,eval e X.env)::starEach es X.env:=by rfl) (hplain:(backTo cpos (starEach es X.env)).any (·.1)=false:=by rfl) :
  QE X (.Call (.Attribute o "append" apos) (e::es) [] cpos) (mcF "list" (wrL gApp) f fa):=qe_mc PySem.F.plainAttrs_list PySem.F.slot_list_append PySem.F.type_list_append mt_append fit_app ho ha hbase hfew hline hs hplain
end
end Y
namespace Y
open PySem L2
open Z (msk msk_in msk_out msk_le msk_app msk_upd msk_new msk_newc lim lim_lt lim_le)
noncomputable def tN (K:PySem.W.Frag) (f:FE):TE:=fun σ H Q=>∃ρ S m,RS K m H σ ρ/\Wd K m S H/\∃x S',f ρ S=.ok x S'/\Aft K m H Q x S'
noncomputable def tNT (K:PySem.W.Frag) (f:FT):TT:=fun σ H Q=>∃ρ S m,RS K m H σ ρ/\Wd K m S H/\∃b S',f ρ S=.ok b S'/\∀H' m',Xt m H m' H'->Wd K m' S' H'->Q b H'
noncomputable def noFl:Ck->Bool
 |some (_,_,fl)=>!fl
 |none=>true
noncomputable def tNI (K:PySem.W.Frag) (f:FI):TI:=fun σ H R'=>∃ρ S m,RS K m H σ ρ/\Wd K m S H/\∃w S',f ρ S=.ok w S'/\noFl w.2=true/\∀J H' m',Xt m H m' H'->Wd K m' S' H'->ItOk K m' H' J w.1 w.2->R' J H'
section
variable {X:Cx}{e:Expr}{es:List Expr}{f:FE}{t:FT}
theorem QE.n (h:QE X e f):PE X e (tN X.K f):=imE h fun σ H Q q=>by
 obtain ⟨ρ,S,m,Rr,W,x,S',ef,q⟩:=q
 exact ⟨ρ,S,m,Rr,W,by rw [ef];exact q⟩
noncomputable abbrev QTs (X:Cx) (es:List Expr) (f:FT):Prop:=PTs X es (tFT X f)
noncomputable def tYs:FT:=fun _ S=>.ok true S
theorem qts_nil:QTs X [] tYs:=imTs pts_nil fun σ H Q q=>by
 obtain ⟨ρ,S,m,Rr,W,q⟩:=q
 exact q H m Xt.refl W
theorem qts_one (h:QT X e t):QTs X [e] t:=pts_one h
theorem QTs.n (h:QTs X es t):PTs X es (tNT X.K t):=imTs h fun σ H Q q=>by
 obtain ⟨ρ,S,m,Rr,W,x,S',ef,q⟩:=q
 exact ⟨ρ,S,m,Rr,W,by rw [ef];exact q⟩
theorem QI.n {tg:Expr}{f:FI}(h:QI X tg e f):PI X tg e (tNI X.K f):=imI h fun σ H R' q=>by
 obtain ⟨ρ,S,m,Rr,W,w,S',ef,hn,q⟩:=q
 refine ⟨ρ,S,m,Rr,W,?_⟩
 rw [ef]
 intro J H1 H' m' x t w' io
 have e:H'=H1:=by
  unfold ThOk at t
  split at t
  ·rename_i hq;rw [hq] at hn;cases hn
  ·exact t
 subst e
 exact q J H' m' x w' io
end
noncomputable def R.bindN {α β:Type}:R α->(α->Sto->R β)->R β
 |.ok x S,f=>f x S
 |.ex _ _,_=>.no
 |.no,_=>.no
@[simp] theorem bindN_ok {α β:Type}(x:α) (S:Sto) (f:α->Sto->R β):(R.ok x S).bindN f=f x S:=rfl
theorem Res.bindN {X:Cx}{m:List Addr}{H:Hp}{α β:Type}{r:R α}{f:α->Sto->R β}{q:β->Sto->Prop}(h:Res X m H (r.bindN f) q):∃a S,r=.ok a S/\Res X m H (f a S) q:=by
 cases r with
 |ok a S=>exact ⟨a,S,rfl,h⟩
 |ex e S=>exact h.elim
 |no=>exact h.elim
theorem okN {α β:Type}{r:R α}{f:α->Sto->R β}{b:β}{S':Sto}(h:r.bindN f=.ok b S'):∃a S,r=.ok a S/\f a S=.ok b S':=by
 cases r with
 |ok a S=>exact ⟨a,S,rfl,h⟩
 |ex e S=>cases h
 |no=>cases h
theorem okOpt {α:Type}{o:Option α}{S S':Sto}{b:α}(h:opt o S=.ok b S'):o=some b/\S=S':=by
 cases o with
 |some a=>cases h;exact ⟨rfl,rfl⟩
 |none=>cases h
noncomputable def push (c:Nat) (y:A) (S:Sto):R Unit:=match S[c]? with
 |some ce=>match ce.its with
  |some ys=>if ys.length < lim then .ok () (S.set c (mkL ce (ys++[y]))) else .no
  |none=>.no
 |none=>.no
open Classical in
noncomputable def lcF (g:FG) (t:FT) (f:FE) (ck:Ck) (c:Nat):List A->Rho->Sto->R Rho
 |[],ρ,S=>if ckOk ck S then .ok ρ S else .no
 |x::xs,ρ,S=>if ckOk ck S then (opt (g x ρ) S).bindN fun ρ1 S=>(t ρ1 S).bindN fun b S=>if b=true then (f ρ1 S).bindN fun y S=>(push c y S).bindN fun _ S=>lcF g t f ck c xs ρ1 S else lcF g t f ck c xs ρ1 S else .no
noncomputable def blkR (ρ:Rho) (n:Nat) (js:List Nat):Rho:=List.replicate n none++js.map fun j=>(ρ[j]?).getD none
theorem RS.blk {K:PySem.W.Frag}{m:List Addr}{H:Hp}{σ:St}{ρ:Rho}(Rr:RS K m H σ ρ) (n:Nat) (js:List Nat):RS K m H (blkSt σ n js) (blkR ρ n js):=by
 refine ⟨by simp [blkSt,blkR],fun i x h=>?_⟩
 unfold blkR at h
 unfold blkSt
 by_cases hi:i < n
 ·rw [List.getElem?_append_left (by simpa using hi),List.getElem?_replicate,if_pos hi] at h
  cases h
 ·rw [List.getElem?_append_right (by simpa using hi),List.getElem?_map] at h
  rw [List.getElem?_append_right (by simpa using hi),List.getElem?_map]
  simp only [List.length_replicate] at h ⊢
  cases hj:js[i-n]? with
  |none=>rw [hj] at h;cases h
  |some j=>
   rw [hj] at h
   have h2:(ρ[j]?).getD none=some x:=Option.some.inj h
   cases hr:ρ[j]? with
   |none=>rw [hr] at h2;cases h2
   |some y=>
    rw [hr] at h2
    have h3:y=some x:=h2
    subst h3
    obtain ⟨v,hv,r⟩:=Rr.at_ j x hr
    exact ⟨v,by rw [Option.map_some,hv];rfl,r⟩
section
variable {K:PySem.W.Frag}
theorem push_ok {m:List Addr}{H:Hp}{S S':Sto}{c:Nat}{acc:Addr}{y:A}{v:V}(w:Wd K m S H) (hacc:m[c]?=some acc) (r:RA K m H y v) (e:push c y S=.ok () S'):∃vs,H acc=some (.lst vs)/\vs.length < sizeLine/\Wd K m S' (upd H acc (.lst (vs++[v])))/\Xt m H m (upd H acc (.lst (vs++[v]))):=by
 unfold push at e
 split at e
 ·rename_i ce hc
  split at e
  ·rename_i ys hy
   split at e
   ·rename_i hl
    cases e
    obtain ⟨vs,h1,h2⟩:=cel_its (w.cell c acc ce hacc hc) hy
    exact ⟨vs,h1,by rw [h2.length];exact Nat.lt_trans hl lim_lt,w.set_mk hacc (RAs.app h2 (RAs.cons r RAs.nil)),Xt.upd (List.mem_of_getElem? hacc) (nf_lst h1)⟩
   ·cases e
  ·cases e
 ·cases e
theorem lc_walk {J:It}{g:FG}{t:FT}{f:FE}{xs:List A}{ck:Ck}{m:List Addr}{H:Hp}{acc:Addr}{D':Ends}{c:Nat}{ρ ρf:Rho}{S Sf:Sto}{σ:St}{X:Cx}(hK:X.K=K) (io:ItOk K m H J xs ck) (hacc:m[c]?=some acc) (Rr:RS K m H σ ρ) (W:Wd K m S H) (ef:lcF g t f ck c xs ρ S=.ok ρf Sf)
  (o:∀σ' H' m',Xt m H m' H'->RS K m' H' σ' ρf->Wd K m' Sf H'->D'.nx σ' H'):tWalk J (tGF X g) (tTurn (tNT K t) (tEmit acc (tN K f))) D' σ H:=by
 subst hK
 refine ⟨fun i k σ1 H2=>k=xs.length-i/\∃m1 ρ1 S3,i<=xs.length/\Xt m H m1 H2/\RS X.K m1 H2 σ1 ρ1/\Wd X.K m1 S3 H2/\lcF g t f ck c (xs.drop i) ρ1 S3=.ok ρf Sf,⟨_,rfl,m,ρ,S,Nat.zero_le _,Xt.refl,Rr,W,ef⟩,?_⟩
 rintro i k σ1 H1 ⟨rfl,m1,ρ1,S1,hi,x,R1,W1,ef⟩
 by_cases hlt:i < xs.length
 ·rw [List.drop_eq_getElem_cons hlt] at ef
  unfold lcF at ef
  split at ef
  ·rename_i hck
   refine .inr ⟨io.go m1 H1 S1 i x W1 hck hlt,fun σ' H'=>∃m' ρ' S',i+1<=xs.length/\Xt m H m' H'/\RS X.K m' H' σ' ρ'/\Wd X.K m' S' H'/\lcF g t f ck c (xs.drop (i+1)) ρ' S'=.ok ρf Sf,fun σ' H' h=>⟨xs.length-(i+1),by omega,rfl,h⟩,fun y H2 hy=>?_⟩
   obtain ⟨x2,w2,rd⟩:=io.yld m1 H1 S1 i xs[i] y H2 x W1 hck (List.getElem?_eq_getElem hlt) hy
   obtain ⟨ρ2,S2,e1,ef⟩:=okN ef
   obtain ⟨e2,rfl⟩:=okOpt e1
   refine ⟨xs[i],ρ1,S1,m1,rd,R1.ext x2,w2,ρ2,e2,fun σ2 R2=>?_⟩
   have x3:Xt m H m1 H2:=x.trans x2
   obtain ⟨b,S3,e3,ef⟩:=okN ef
   refine ⟨ρ2,S1,m1,R2,w2,b,S3,e3,fun H3 m3 x4 w3=>?_⟩
   cases b with
   |true=>
    refine iteT ?_
    rw [if_pos rfl] at ef
    obtain ⟨z,S4,e4,ef⟩:=okN ef
    obtain ⟨_,S5,e5,ef⟩:=okN ef
    refine ⟨ρ2,S3,m3,R2.ext x4,w3,z,S4,e4,fun v H4 m4 x5 w4 r4=>?_⟩
    obtain ⟨vs,h1,h2,h3,h4⟩:=push_ok w4 ((x3.trans (x4.trans x5)).at c acc hacc) r4 e5
    exact ⟨vs,h1,h2,m4,ρ2,S5,hlt,x3.trans (x4.trans (x5.trans h4)),R2.ext (x4.trans (x5.trans h4)),h3,ef⟩
   |false=>
    refine iteF ?_
    rw [if_neg Bool.false_ne_true] at ef
    exact ⟨m3,ρ2,S3,hlt,x3.trans x4,R2.ext x4,w3,ef⟩
  ·cases ef
 ·have e:i=xs.length:=by omega
  subst e
  rw [List.drop_length] at ef
  unfold lcF at ef
  split at ef
  ·rename_i hck
   cases ef
   exact .inl ⟨io.stop m1 H1 _ x W1 hck,o σ1 H1 m1 x R1 W1⟩
  ·cases ef
end
open Classical in
noncomputable def endD (S1 S2:Sto):R A:=if Okk S1 S2 then match S2[S1.length]? with
 |some (.lst es)=>.ok (.d (.lst es)) (S2.take S1.length)
 |_=>.no
 else .no
section
variable {X:Cx}
theorem endD_ok {K:PySem.W.Frag}{m l:List Addr}{H1 H2:Hp}{S1 S2 S3:Sto}{acc:Addr}{z:A}(w1:Wd K m S1 H1) (w2:Wd K (m++acc::l) S2 H2) (e:endD S1 S2=.ok z S3):Wd K m S3 H2/\RA K m H2 z (.ref acc):=by
 unfold endD at e
 split at e
 ·rename_i ok
  split at e
  ·rename_i es he
   cases e
   have hm:(m++acc::l)[S1.length]?=some acc:=by rw [<-w1.len,List.getElem?_append_right (Nat.le_refl _),Nat.sub_self];rfl
   refine ⟨Wd.cut w1 w2 ok,?_⟩
   rw [RA.d_iff]
   have r:RA K (m++acc::l) H2 (.p S1.length) (.ref acc):=RA.p_iff.mpr ⟨acc,hm,rfl⟩
   refine (rd_ok w2 1).1 _ _ _ r ?_
   unfold A.rd
   rw [if_neg (by rw [w1.len];omega),he]
  ·cases e
 ·cases e
theorem Xt.cut {m l:List Addr}{H H':Hp}(x:Xt m H (m++l) H'):Xt m H m H':=⟨⟨[],(List.append_nil m).symm⟩,x.sm.trans msk_app,x.fz⟩
theorem thaw_resE {m m':List Addr}{H H1 H':Hp}{ck:Ck}{r:R A}{Q:VK}(x:Xt m H m' H1) (t:ThOk X m' H1 H' ck) (q:Res X m H (thaw ck r) (Aft X.K m H Q)):Res X m' H' r (Aft X.K m' H' fun v=>Thw X (Q v)):=by
 have x':Xt m H m' H':=x.trans t.x
 unfold thaw at q
 split at q
 ·refine (q.bind.step x').imp fun c S o=>?_
  split at o
  ·rename_i kvs hk
   exact fun v2 H2 m2 x2 w2 r2=>.inr (let ⟨a,ob,ws,h1,h2,h3,h4,h5⟩:=thaw_at t x2 w2 hk;⟨a,ob,ws,h1,h2,o v2 _ m2 (x.trans h3) h4 (r2.sub (fun _ _ z=>z) h5)⟩)
  ·exact o.elim
 ·exact (q.step x').imp fun c S o v2 H2 m2 x2 w2 r2=>.inl (o v2 H2 m2 (x'.trans x2) w2 r2)
noncomputable def lcE (en:Sto->Sto->R A) (fi:FI) (g:FG) (t:FT) (f:FE) (n:Nat) (js:List Nat):FE:=fun ρ S=>(fi ρ S).bind fun w S1=>thaw w.2 ((lcF g t f w.2 S1.length w.1 (blkR ρ n js) (S1++[.lst []])).bindN fun _ S2=>en S1 S2)
noncomputable def lcD:=lcE endD
variable {elt tg iter:Expr}{ifs:List Expr}{scope:Scope}{pos:Pos}{fi:FI}{g:FG}{t:FT}{f:FE}{N:List Str}{n:Nat}{js:List Nat}
theorem lc_start {m:List Addr}{H1:Hp}{S1:Sto}{acc:Addr}(w1:Wd X.K m S1 H1) (ha:H1 acc=none):Wd X.K (m++[acc]) (S1++[.lst []]) (upd H1 acc (.lst []))/\Xt m H1 (m++[acc]) (upd H1 acc (.lst []))/\(m++[acc])[S1.length]?=some acc:=
 ⟨w1.push_lst ha Z.Reps.nil,Xt.newc ha,by rw [<-w1.len];simp⟩
theorem qe_lcD (hc:X.calm=true) (B:BlkOk X scope N n js) (hi:QI X tg iter fi) (hg:∀s H fp,QG (blkCx X scope N s H fp) tg g) (ht:∀s H fp,QTs (blkCx X scope N s H fp) ifs t) (he:∀s H fp,QE (blkCx X scope N s H fp) elt f)
  (hs:∀x,foldedSetIterable iter X.env x=pure x:=by intro _;rfl):QE X (.ListComp elt [⟨tg,iter,ifs,0⟩] scope pos) (lcD fi g t f n js):=
 imE (pe_thaw (pe_lc hc B hi (g:=tGF X g) (tt:=tNT X.K t) (te:=tN X.K f) hg (fun s H fp=>(ht s H fp).n) (fun s H fp=>(he s H fp).n) hs)) fun σ H Q q=>by
  obtain ⟨ρ,S,m,Rr,W,q⟩:=q
  refine ⟨ρ,S,m,Rr,W,q.bind.imp fun w S1 q J H1 H' m' x1 t' w' io acc hacc=>?_⟩
  obtain ⟨ρf,S2,ef,q⟩:=(thaw_resE x1 t' q).bindN
  obtain ⟨w2,x2,ha⟩:=lc_start w' hacc
  have x3:Xt m H m' H':=x1.trans t'.x
  refine lc_walk rfl (io.ext x2) ha ((Rr.ext (x3.trans x2)).blk n js) w2 ef fun σ' H2 m2 x4 _ w4=>?_
  obtain ⟨l,rfl⟩:=x4.ex
  rw [List.append_assoc] at w4 x4
  cases er:endD S1 S2 with
  |ok z S3=>
   rw [er] at q
   obtain ⟨w5,r5⟩:=endD_ok w' w4 er
   exact q _ H2 m' (Xt.cut (x2.trans x4)) w5 r5
  |ex e S3=>unfold endD at er;split at er<;>(try split at er)<;>cases er
  |no=>rw [er] at q;exact q.elim
open Classical in
noncomputable def lc2F (g:FG) (t:FT) (fi:FI) (g2:FG) (t2:FT) (f:FE) (ck:Ck) (c:Nat):List A->Rho->Sto->R Rho
 |[],ρ,S=>if ckOk ck S then .ok ρ S else .no
 |x::xs,ρ,S=>if ckOk ck S then (opt (g x ρ) S).bindN fun ρ1 S=>(t ρ1 S).bindN fun b S=>if b=true then (fi ρ1 S).bindN fun w S=>if noFl w.2=true then (lcF g2 t2 f w.2 c w.1 ρ1 S).bindN fun ρ2 S=>lc2F g t fi g2 t2 f ck c xs ρ2 S else .no else lc2F g t fi g2 t2 f ck c xs ρ1 S else .no
theorem lc2_walk {K:PySem.W.Frag}{J:It}{g g2:FG}{t t2:FT}{fi:FI}{f:FE}{xs:List A}{ck:Ck}{m:List Addr}{H:Hp}{acc:Addr}{D':Ends}{c:Nat}{ρ ρf:Rho}{S Sf:Sto}{σ:St}{X:Cx}(hK:X.K=K) (io:ItOk K m H J xs ck) (hacc:m[c]?=some acc) (Rr:RS K m H σ ρ) (W:Wd K m S H) (ef:lc2F g t fi g2 t2 f ck c xs ρ S=.ok ρf Sf)
  (o:∀σ' H' m',Xt m H m' H'->RS K m' H' σ' ρf->Wd K m' Sf H'->D'.nx σ' H'):tWalk J (tGF X g) (tTurn (tNT K t) (tNest (tNI K fi) (tGF X g2) (tTurn (tNT K t2) (tEmit acc (tN K f))))) D' σ H:=by
 subst hK
 refine ⟨fun i k σ1 H2=>k=xs.length-i/\∃m1 ρ1 S3,i<=xs.length/\Xt m H m1 H2/\RS X.K m1 H2 σ1 ρ1/\Wd X.K m1 S3 H2/\lc2F g t fi g2 t2 f ck c (xs.drop i) ρ1 S3=.ok ρf Sf,⟨_,rfl,m,ρ,S,Nat.zero_le _,Xt.refl,Rr,W,ef⟩,?_⟩
 rintro i k σ1 H1 ⟨rfl,m1,ρ1,S1,hi,x,R1,W1,ef⟩
 by_cases hlt:i < xs.length
 ·rw [List.drop_eq_getElem_cons hlt] at ef
  unfold lc2F at ef
  split at ef
  ·rename_i hck
   refine .inr ⟨io.go m1 H1 S1 i x W1 hck hlt,fun σ' H'=>∃m' ρ' S',i+1<=xs.length/\Xt m H m' H'/\RS X.K m' H' σ' ρ'/\Wd X.K m' S' H'/\lc2F g t fi g2 t2 f ck c (xs.drop (i+1)) ρ' S'=.ok ρf Sf,fun σ' H' h=>⟨xs.length-(i+1),by omega,rfl,h⟩,fun y H2 hy=>?_⟩
   obtain ⟨x2,w2,rd⟩:=io.yld m1 H1 S1 i xs[i] y H2 x W1 hck (List.getElem?_eq_getElem hlt) hy
   obtain ⟨ρ2,S2,e1,ef⟩:=okN ef
   obtain ⟨e2,rfl⟩:=okOpt e1
   refine ⟨xs[i],ρ1,S1,m1,rd,R1.ext x2,w2,ρ2,e2,fun σ2 R2=>?_⟩
   have x3:Xt m H m1 H2:=x.trans x2
   obtain ⟨b,S3,e3,ef⟩:=okN ef
   refine ⟨ρ2,S1,m1,R2,w2,b,S3,e3,fun H3 m3 x4 w3=>?_⟩
   cases b with
   |true=>
    refine iteT ?_
    rw [if_pos rfl] at ef
    obtain ⟨w',S4,e4,ef⟩:=okN ef
    split at ef
    ·rename_i hfl
     obtain ⟨ρ5,S5,e5,ef⟩:=okN ef
     refine ⟨ρ2,S3,m3,R2.ext x4,w3,w',S4,e4,hfl,fun J2 H4 m4 x5 w4 io2=>?_⟩
     have x6:Xt m H m4 H4:=x3.trans (x4.trans x5)
     exact lc_walk (X:=X) rfl io2 (x6.at c acc hacc) (R2.ext (x4.trans x5)) w4 e5 fun σ' H' m' x7 R7 W7=>⟨m',ρ5,S5,hlt,x6.trans x7,R7,W7,ef⟩
    ·cases ef
   |false=>
    refine iteF ?_
    rw [if_neg Bool.false_ne_true] at ef
    exact ⟨m3,ρ2,S3,hlt,x3.trans x4,R2.ext x4,w3,ef⟩
  ·cases ef
 ·have e:i=xs.length:=by omega
  subst e
  rw [List.drop_length] at ef
  unfold lc2F at ef
  split at ef
  ·rename_i hck
   cases ef
   exact .inl ⟨io.stop m1 H1 _ x W1 hck,o σ1 H1 m1 x R1 W1⟩
  ·cases ef
noncomputable def lc2D (fi:FI) (g:FG) (t:FT) (fi2:FI) (g2:FG) (t2:FT) (f:FE) (n:Nat) (js:List Nat):FE:=fun ρ S=>(fi ρ S).bind fun w S1=>thaw w.2 ((lc2F g t fi2 g2 t2 f w.2 S1.length w.1 (blkR ρ n js) (S1++[.lst []])).bindN fun _ S2=>endD S1 S2)
theorem qe_lc2D {tg2 iter2:Expr}{ifs2:List Expr}{fi2:FI}{g2:FG}{t2:FT}(hc:X.calm=true) (B:BlkOk X scope N n js) (hi:QI X tg iter fi) (hg:∀s H fp,QG (blkCx X scope N s H fp) tg g) (ht:∀s H fp,QTs (blkCx X scope N s H fp) ifs t)
  (hi2:∀s H fp,QI (blkCx X scope N s H fp) tg2 iter2 fi2) (hg2:∀s H fp,QG (blkCx X scope N s H fp) tg2 g2) (ht2:∀s H fp,QTs (blkCx X scope N s H fp) ifs2 t2) (he:∀s H fp,QE (blkCx X scope N s H fp) elt f)
  (hs:∀x,foldedSetIterable iter X.env x=pure x:=by intro _;rfl) (hs2:∀s H fp x,foldedSetIterable iter2 (blkCx X scope N s H fp).env x=pure x:=by intro _ _ _ _;rfl) (hA2:X.A.mark none=X.A:=by rfl) :
  QE X (.ListComp elt [⟨tg,iter,ifs,0⟩,⟨tg2,iter2,ifs2,0⟩] scope pos) (lc2D fi g t fi2 g2 t2 f n js):=
 imE (pe_thaw (pe_lc2 hc B hi (g:=tGF X g) (tt:=tNT X.K t) (wi2:=tNI X.K fi2) (g2:=tGF X g2) (tt2:=tNT X.K t2) (te:=tN X.K f) hg (fun s H fp=>(ht s H fp).n) (fun s H fp=>(hi2 s H fp).n) hg2 (fun s H fp=>(ht2 s H fp).n) (fun s H fp=>(he s H fp).n) hs hs2 hA2)) fun σ H Q q=>by
  obtain ⟨ρ,S,m,Rr,W,q⟩:=q
  refine ⟨ρ,S,m,Rr,W,q.bind.imp fun w S1 q J H1 H' m' x1 t' w' io acc hacc=>?_⟩
  obtain ⟨ρf,S2,ef,q⟩:=(thaw_resE x1 t' q).bindN
  obtain ⟨w2,x2,ha⟩:=lc_start w' hacc
  have x3:Xt m H m' H':=x1.trans t'.x
  refine lc2_walk rfl (io.ext x2) ha ((Rr.ext (x3.trans x2)).blk n js) w2 ef fun σ' H2 m2 x4 _ w4=>?_
  obtain ⟨l,rfl⟩:=x4.ex
  rw [List.append_assoc] at w4 x4
  cases er:endD S1 S2 with
  |ok z S3=>
   rw [er] at q
   obtain ⟨w5,r5⟩:=endD_ok w' w4 er
   exact q _ H2 m' (Xt.cut (x2.trans x4)) w5 r5
  |ex e S3=>unfold endD at er;split at er<;>(try split at er)<;>cases er
  |no=>rw [er] at q;exact q.elim
end
end Y
namespace Y
open PySem L2
open Z (msk msk_in msk_out msk_le msk_app msk_upd msk_new msk_newc lim lim_lt lim_le)
noncomputable def spF (K:PySem.W.Frag) (F:FF):Sp:=fun vs H Q _=>∃as S m,RAs K m H as vs/\Wd K m S H/\∃x S',F as S=.ok x S'/\Aft K m H Q x S'
noncomputable abbrev En:=Sto->A->Sto->R A
structure EnOk (en:En):Prop where
 ok:∀{K:PySem.W.Frag}{m l:List Addr}{H H':Hp}{S S1 S':Sto}{x z:A}{v:V},Wd K m S H->Xt m H (m++l) H'->Wd K (m++l) S1 H'->RA K (m++l) H' x v->en S x S1=.ok z S'->∃m',Xt m H m' H'/\Wd K m' S' H'/\RA K m' H' z v
open Classical in
noncomputable def enP:En:=fun S x S'=>if Okk S S' then (opt (fin S.length S' x) S').bind fun y S'=>.ok y (S'.take S.length) else .no
theorem enP_ok:EnOk enP:=⟨fun {K m l H H' S S1 S' x z v} w xt w1 r e=>by
 unfold enP at e
 split at e
 ·rename_i ok
  cases hf:fin S.length S1 x with
  |none=>rw [hf] at e;cases e
  |some y=>
   rw [hf] at e
   cases e
   exact ⟨m,Xt.cut xt,Wd.cut w w1 ok,fin_ok w1 r (by rw [w.len];exact hf)⟩
 ·cases e⟩
noncomputable def defE (en:En) (np nl:Nat) (b:FS):FF:=fun as S=>if as.length=np then (b (as.map some++List.replicate (nl-np) none) S).bindN fun c S'=>match c with
 |.rt x=>en S x S'
 |.nx _=>en S (.d .non) S'
 |_=>.no
 else .no
section
variable {K:PySem.W.Frag}
theorem RS.begin {m:List Addr}{H:Hp}{as:List A}{vs:List V}(r:RAs K m H as vs) (N:List Str) (np:Nat) (hl:as.length=np):RS K m H (start N vs) (as.map some++List.replicate (N.length-np) none):=by
 have ll:=r.length
 refine ⟨by simp [L2.start,ll,hl],fun i x h=>?_⟩
 unfold L2.start
 by_cases hi:i < as.length
 ·rw [List.getElem?_append_left (by simpa using hi),List.getElem?_map] at h
  obtain ⟨y,hy,e⟩:=Option.map_eq_some_iff.mp h
  cases e
  obtain ⟨v,hv,rv⟩:=r.get hy
  exact ⟨v,by rw [List.getElem?_append_left (by rw [List.length_map,ll];exact hi),List.getElem?_map,hv];rfl,rv⟩
 ·rw [List.getElem?_append_right (by simpa using hi),List.getElem?_replicate] at h
  split at h<;>cases h
variable {P:Program}{w:World}{mg:Str->Option Value}{base:Heap}
theorem q_def {en:En}(eo:EnOk en) {x qual:Str}{st:Stmt}{f:Addr}{fd:FuncData}{N ps:List Str}{k:Nat}{b:FS}(F:Fun K x qual st f fd) (Sc:FnScope N ps (defScope st))
  (hb:∀(cdv:Value) (A:Around) (outer:List Env) (s:Shared) (H:Hp) (E:XK),Room k (A.deeper (PyProof.Rows.envOfC qual (defScope st) s.heap.objs.size f cdv))->QSs (cxOf CX0 P w K mg base N qual (defScope st) f cdv A outer s H E).nox (defBody st) b) :
  FnOk P w K mg base CX0 (k+1) f fd ps (spF K (defE en ps.length N.length b)):=by
 refine F.ok Sc (fun vs H Q E h=>?_) fun cdv A outer s H vs Q E hr h=>?_
 ·obtain ⟨as,S,m,r,W,y,S',e,q⟩:=h
  unfold defE at e
  split at e
  ·rename_i hl;rw [r.length];exact hl
  ·cases e
 ·obtain ⟨as,S,m,r,W,y,S',e,q⟩:=h
  unfold defE at e
  split at e
  ·rename_i hl
   obtain ⟨c,S1,e1,e⟩:=okN e
   refine ⟨_,hb cdv A outer s H E hr,_,S,m,RS.begin r N _ hl,W,?_⟩
   rw [e1]
   cases c with
   |rt z=>
    refine fun v H' m' x' w' r'=>?_
    obtain ⟨l,rfl⟩:=x'.ex
    obtain ⟨m2,x2,w2,r2⟩:=eo.ok W x' w' r' e
    exact q v H' m2 x2 w2 r2
   |nx ρ1=>
    refine fun σ' H' m' x' R' w'=>?_
    obtain ⟨l,rfl⟩:=x'.ex
    obtain ⟨m2,x2,w2,r2⟩:=eo.ok W x' w' non_rep e
    exact q .non H' m2 x2 w2 r2
   |bk _=>cases e
   |ct _=>cases e
  ·cases e
end
noncomputable def nox {α:Type}:R α->R α
 |.ok x S=>.ok x S
 |_=>.no
@[simp] theorem nox_ok {α:Type}(x:α) (S:Sto):nox (.ok x S)=.ok x S:=rfl
theorem Res.nox {X:Cx}{m:List Addr}{H:Hp}{α:Type}{r:R α}{q:α->Sto->Prop}(h:Res X m H (nox r) q):∃a S,r=.ok a S/\q a S:=by
 cases r with
 |ok a S=>exact ⟨a,S,rfl,h⟩
 |ex e S=>exact h.elim
 |no=>exact h.elim
section
variable {X:Cx}{e o:Expr}{es:List Expr}{fa:FA}{f:FE}{pos p apos:Pos}{E:XK}
noncomputable def callF (F:FF) (fa:FA):FE:=fun ρ S=>(fa ρ S).bind fun as S=>nox (F as S)
theorem call_of {F:FF}:∀σ H Q,tF X (callF F fa) σ H Q->tCall (spF X.K F) [] E (tFA X fa) σ H Q:=by
 rintro σ H Q ⟨ρ,S,m,Rr,W,q⟩
 refine ⟨ρ,S,m,Rr,W,q.bind.imp fun as S1 q vs H1 m1 x1 w1 r1=>?_⟩
 obtain ⟨x,S2,ef,q⟩:=q.nox
 show spF X.K F (vs++[]) H1 Q E
 rw [List.append_nil]
 exact ⟨as,S1,m1,r1,w1,x,S2,ef,Aft.step x1 q⟩
theorem qe_call {x:Str}{k:Nat}{g:Addr}{fd:FuncData}{ps:List Str}{F:FF}(G:FnOk X.prog X.w X.K X.mg X.base CX0 k g fd ps (spF X.K F)) (hr:Room k X.A) (hg:Gl X x) (hm:X.mg x=some (.ref g)) (hk:PySem.W.keepIn X.K (.ref g)=true) (hb:Binds X.K fd ps [])
  (ha:QA X (e::es) fa) (hdb:(x==("__debug__" : Str))=false:=by decide) (he:starEach (e::es) X.env=(false,eval e X.env)::starEach es X.env:=by rfl) (hpl:(backTo pos (starEach es X.env)).any (·.1)=false:=by rfl) :
  QE X (.Call (.Name x p) (e::es) [] pos) (callF F fa):=imE (pe_call (E:=E0) G hr hg hm hk hb .nil pass0 ha hdb he hpl) call_of
theorem law_ok {P:Program}{w:World}{K:PySem.W.Frag}{mg:Str->Option Value}{base:Heap}{k:Nat}{f:Addr}{fd:FuncData}{ps:List Str}{F:FF}(main:∀ns:List Int,ns.length<=63->∃S,F [.d (.lst (ns.map .int))] []=.ok (.d (.bl true)) S)
  (G:FnOk P w K mg base CX0 k f fd ps (spF K F)):FnOk P w K mg base CX0 k f fd ps (Z.spLaw K):=G.imp fun vs H Q E h=>by
 obtain ⟨a,ns,rfl,hS,hl,q⟩:=h
 obtain ⟨S,hm⟩:=main ns hl
 refine ⟨[.d (.lst (ns.map .int))],[],[],?_,⟨rfl,List.nodup_nil,fun k a ds h1 _=>by cases h1⟩,_,_,hm,fun v H' _ _ _ r=>?_⟩
 ·refine RAs.cons ?_ RAs.nil
  rw [RA.d_iff,Z.msk_nil]
  unfold Rep
  exact ⟨a,_,rfl,hS,reps_ints ns⟩
 ·cases rep_bl r
  exact q H'
end
end Y
namespace Y
open PySem L2
open Z (msk msk_in msk_out msk_le msk_app msk_upd msk_new msk_newc lim lim_lt lim_le)
noncomputable def ExA (K:PySem.W.Frag) (m:List Addr) (H:Hp) (E:XK) (e:Exc) (S:Sto):Prop:=∀C dd H' m',Xt m H m' H'->Wd K m' S H'->ExRep K m' H' e C dd->E C dd H'
noncomputable def spX (K:PySem.W.Frag) (F:FF):Sp:=fun vs H Q E=>∃as S m,RAs K m H as vs/\Wd K m S H/\match F as S with
 |.ok x S'=>Aft K m H Q x S'
 |.ex e S'=>ExA K m H E e S'
 |.no=>False
noncomputable def defX (en:En) (np nl:Nat) (b:FS):FF:=fun as S=>if as.length=np then (b (as.map some++List.replicate (nl-np) none) S).bind fun c S'=>match c with
 |.rt x=>en S x S'
 |.nx _=>en S (.d .non) S'
 |_=>.no
 else .no
structure EnNx (en:En):Prop where
 nx:∀S x S' e S2,en S x S'≠.ex e S2
theorem enP_nx:EnNx enP:=⟨fun S x S' e S2 h=>by
 unfold enP at h
 split at h
 ·cases hf:fin S.length S' x with
  |none=>rw [hf] at h;cases h
  |some y=>rw [hf] at h;cases h
 ·cases h⟩
section
variable {K:PySem.W.Frag}{P:Program}{w:World}{mg:Str->Option Value}{base:Heap}
theorem q_defX {en:En}(eo:EnOk en) (nx:EnNx en) {x qual:Str}{st:Stmt}{f:Addr}{fd:FuncData}{N ps:List Str}{k:Nat}{b:FS}(F:Fun K x qual st f fd) (Sc:FnScope N ps (defScope st))
  (hb:∀(cdv:Value) (A:Around) (outer:List Env) (s:Shared) (H:Hp) (E:XK),Room k (A.deeper (PyProof.Rows.envOfC qual (defScope st) s.heap.objs.size f cdv))->QSs (cxOf (CX1 P w) P w K mg base N qual (defScope st) f cdv A outer s H E) (defBody st) b) :
  FnOk P w K mg base (CX1 P w) (k+1) f fd ps (spX K (defX en ps.length N.length b)):=by
 obtain ⟨oc,od,kV,doc,pm,an,cdv,ct,osl,rfl,lk,hcd⟩:=F.ex
 refine fn_of lk hcd Sc (fun vs H Q E h=>?_) fun A outer s H vs Q E hr h=>?_
 ·obtain ⟨as,S,m,r,W,q⟩:=h
  unfold defX at q
  split at q
  ·rename_i hl
   by_cases z:as.length=ps.length
   ·rw [r.length];exact z
   ·rw [if_neg z] at hl;cases hl
  ·rename_i hl
   by_cases z:as.length=ps.length
   ·rw [r.length];exact z
   ·rw [if_neg z] at hl;cases hl
  ·exact q.elim
 ·obtain ⟨as,S,m,r,W,q⟩:=h
  refine ⟨_,hb cdv A outer s H E hr,?_⟩
  by_cases hl:as.length=ps.length
  ·refine ⟨_,S,m,RS.begin r N _ hl,W,?_⟩
   unfold defX at q
   rw [if_pos hl] at q
   cases hr:b (as.map some++List.replicate (N.length-ps.length) none) S with
   |no=>rw [hr] at q;exact q.elim
   |ex e S1=>
    rw [hr] at q
    exact fun C dd H' m' x' w' ex=>out1 (q C dd H' m' x' w' ex)
   |ok c S1=>
    rw [hr] at q
    cases c with
    |rt z=>
     refine fun v H' m' x' w' r'=>?_
     obtain ⟨l,rfl⟩:=x'.ex
     cases he:en S z S1 with
     |no=>simp only [bind_ok,he] at q
     |ex e S2=>exact absurd he (nx.nx _ _ _ _ _)
     |ok y S2=>
      simp only [bind_ok,he] at q
      obtain ⟨m2,x2,w2,r2⟩:=eo.ok W x' w' r' he
      exact q v H' m2 x2 w2 r2
    |nx ρ1=>
     refine fun σ' H' m' x' R' w'=>?_
     obtain ⟨l,rfl⟩:=x'.ex
     cases he:en S (.d .non) S1 with
     |no=>simp only [bind_ok,he] at q
     |ex e S2=>exact absurd he (nx.nx _ _ _ _ _)
     |ok y S2=>
      simp only [bind_ok,he] at q
      obtain ⟨m2,x2,w2,r2⟩:=eo.ok W x' w' non_rep he
      exact q .non H' m2 x2 w2 r2
    |bk _=>exact q.elim
    |ct _=>exact q.elim
  ·unfold defX at q
   rw [if_neg hl] at q
   exact q.elim
end
end Y
namespace XE
open PySem
section
variable {prog:Program}{w:World}{A:Around}{E:Value->Shared->Prop}{h:Heap}{g:Array GenState}{d:Drawn}{t:Nat}{os:OsState}
variable {nm q:Str}{C N:Addr}{bs bm bmB:List Value}{hdct:Bool}{sn:List Str}{sub:List Value}{ab:Bool}{col:Option Bool}{dd:Option Addr}{k0 k1 k2 k3 k5:Option Value}{B Bn newId nid initId inN:String}{bmN:List Value}
theorem raise_made {s:Shared}{env:Env}{x:Sem Value}{Q:Flow->Shared->Prop}(hbase:bm.contains (.type "BaseException")=true) (hh:A.handled=none)
  (h:wpAny (model prog w) A x (fun v s₁=>∃e oe vs,v=.ref e/\s₁.heap.get? C=some (excClassObj nm q C N bs bm hdct sn sub ab col dd k0 k1 k2 k3 k5 newId) /\
   s₁.heap.get? e=some oe/\oe.cls=.ref C/\oe.data=.fields vs/\vs[1]?=some .none/\vs[2]?=some .none/\E (.ref e) s₁) E s) :
  wpAny (model prog w) A (raiseStmt env (some x) none) Q E s:=by
 have hcB:(Value.ref C::bm).contains (.type "BaseException")=true:=by rw [List.contains_cons,hbase,Bool.or_true]
 unfold raiseStmt
 refine wpAny_bind (wpAny_mono h (fun v s₁ h₁=>?_) fun _ _ x=>x)
 obtain ⟨e,oe,vs,rfl,hC,he,hc,hd,h1,h2,hE⟩:=h₁
 obtain ⟨hp,g,d,tk,os⟩:=s₁
 obtain ⟨c,dt,dat,sl⟩:=oe
 cases hc
 cases hd
 repeat (first | with_reducible refine wpAny_loadPart_at he ?_ | with_reducible refine wpAny_loadPart_at hC ?_ | (with_reducible refine wpAny_isSubtype_exc hC ?_;rw [hcB]) | (with_reducible refine wpAny_bind (wpAny_field he rfl h1 ?_)) | wp_step)
 exact wpAny_raiseNew_none hh hE
end
end XE
namespace XE
open PySem PySem.Builtin PySem.Builtin.ObjectAttr
inductive TailN (ns:List Str) (h:Heap) (bmB:List Value):List Value->Prop
 |base:TailN ns h bmB bmB
 |own {A:Addr}{c0:Value}{dd:Option Addr}{cd:ClassData}{sl:Array (Option Value)}{mA:Str->Option Value}{tl:List Value} :
   h.get? A=some { cls:=c0,dict:=dd,data:=.cls cd,slots:=sl }->h.Ns cd.ns mA->(∀n∈ns,mA n=none)->TailN ns h bmB tl->TailN ns h bmB (.ref A::tl)
theorem TailN.tail {ns:List Str}{h:Heap}{bmB tl:List Value}(T:TailN ns h bmB tl) (hi:("__init__" : Str)∈ns):OwnTail h bmB tl:=by
 induction T with
 |base=>exact .base
 |own hA hN hq _ ih=>exact .own hA hN (hq _ hi) ih
theorem TailN.hasType {ns:List Str}{h:Heap}{bmB tl:List Value}(T:TailN ns h bmB tl) {X:String}{b:Bool}(hb:bmB.contains (.type X)=b):tl.contains (.type X)=b:=by
 induction T with
 |base=>exact hb
 |own _ _ _ _ ih=>rw [List.contains_cons,ih];rfl
section
variable {M:Model}{A:Around}{E:Value->Shared->Prop}{h:Heap}{g:Array GenState}{d:Drawn}{t:Nat}{os:OsState}{ns:List Str}
variable {nm q:Str}{C N:Addr}{bs bm bmB:List Value}{hdct:Bool}{sn:List Str}{sub:List Value}{ab:Bool}{col:Option Bool}{dd:Option Addr}{k0 k1 k2 k3 k5:Option Value}{B newId:String}
theorem lookupAlong_tailN {tl:List Value}{n:Str}{y:Option Value}{Q:Option Value->Shared->Prop}(hn:n∈ns) (T:TailN ns h bmB tl) (hrest:lookupAlong bmB n=pure y) (hq:Q y ⟨h,g,d,t,os⟩) :
  wpAny M A (lookupAlong tl n) Q E ⟨h,g,d,t,os⟩:=by
 induction T with
 |base=>rw [hrest];exact wpAny_pure hq
 |own hA hN hni _ ih=>
  rw [lookupAlong_cons]
  refine wpAny_bind (wpAny_classOwn_cls hA hN ?_)
  rw [hni _ hn]
  exact ih
theorem typeLookup_tailN {mN:Str->Option Value}{n:Str}{y:Option Value}{Q:Option Value->Shared->Prop}(hn:n∈ns)
  (hC:h.get? C=some (excClassObj nm q C N bs bm hdct sn sub ab col dd k0 k1 k2 k3 k5 newId)) (hN:h.Ns N mN) (hmN:mN n=none) (T:TailN ns h bmB bm) (hbm:mroOf (.type B)=pure bmB)
  (hB:typeLookup (.type B) n=pure y) (hq:Q y ⟨h,g,d,t,os⟩):wpAny M A (typeLookup (.ref C) n) Q E ⟨h,g,d,t,os⟩:=by
 have hrest:lookupAlong bmB n=pure y:=by rw [typeLookup_eq,hbm] at hB;exact hB
 rw [typeLookup_eq]
 refine wpAny_bind (wpAny_mroOf_exc hC ?_)
 rw [lookupAlong_cons]
 refine wpAny_bind (wpAny_classOwn_cls hC hN ?_)
 rw [hmN]
 exact lookupAlong_tailN hn T hrest hq
end
end XE
namespace XE
open PySem PySem.Builtin PySem.Builtin.ObjectAttr
section
variable {prog:Program}{w:World}{A:Around}{E:Value->Shared->Prop}{h:Heap}{g:Array GenState}{d:Drawn}{t:Nat}{os:OsState}{ns:List Str}
variable {nm q:Str}{C N x dx:Addr}{bs bm bmB:List Value}{sn:List Str}{sub:List Value}{ab:Bool}{col:Option Bool}{dd:Option Addr}{k0 k1 k2 k3 k5:Option Value}{B newId:String}
 {mN mA:Str->Option Value}{name:Str}{v:Value}{o:Obj}
theorem check_ga {M:Model}{nameV:Value}{Q:Unit->Shared->Prop}(FB:ExcAttrBase B bmB) (hC:h.get? C=some (excClassObj nm q C N bs bm true sn sub ab col dd k0 k1 k2 k3 k5 newId)) (T:TailN ns h bmB bm)
  (hx:h.get? x=some o) (hc:o.cls=.ref C) (hq:Q () ⟨h,g,d,t,os⟩):wpAny M A (checkBuiltinCall "BaseException.__getattribute__" ⟨[.ref x,nameV],[]⟩) Q E ⟨h,g,d,t,os⟩:=by
 have hk:builtinKind "BaseException.__getattribute__" = some .slot:=by decide +kernel
 have hsplit:splitId "BaseException.__getattribute__" = some ("BaseException", "__getattribute__"):=by decide +kernel
 have hcB:(Value.ref C::bm).contains (.type "BaseException")=true:=by rw [List.contains_cons,T.hasType FB.hasBase];rfl
 have ha:=F.args_bexc_ga (.ref x) nameV
 simp only [checkBuiltinCall,hk,hsplit]
 refine wpAny_bind ?_
 ·unfold isInstance
  repeat (first | (with_reducible refine wpAny_loadPart_at hx ?_;rw [hc]) | (with_reducible refine wpAny_isSubtype_exc hC ?_;rw [hcB]) | wp_step)
  exact hq
end
end XE
namespace L2
open PySem PySem.Spec PyProof.Rows
noncomputable def del (H:Hp) (a:Addr):Hp:=fun b=>if b=a then none else H b
theorem del_same {H:Hp}{a:Addr}:del H a a=none:=if_pos rfl
theorem del_ne {H:Hp}{a b:Addr}(h:b≠a):del H a b=H b:=if_neg h
noncomputable def XO (a C:Addr) (dd:Option Addr) (h:Heap):Prop:=∃vs sl,h.get? a=some { cls:=.ref C,dict:=dd,data:=.fields vs,slots:=sl }/\vs[1]?=some .none/\vs[2]?=some .none
theorem XO.at {a C:Addr}{dd:Option Addr}:∀h1 h2:Heap,XO a C dd h1->(∀o,h1.get? a=some o->h2.get? a=some o)->XO a C dd h2:=fun h1 h2 ⟨vs,sl,e,r⟩ k=>⟨vs,sl,k _ e,r⟩
theorem xo_ok {P:Program}{w:World}{H:Hp}{h:Heap}{a C:Addr}{dd:Option Addr}(x:XO a C dd h):ObjOk P w H h a (.ext (XO a C dd)):=by
 obtain ⟨vs,sl,e,r⟩:=id x
 exact ⟨x,⟨_,e⟩,XO.at⟩
section
variable {X:Cx}{pins:List (Addr×Obj)}{σ:St}{H:Hp}{s:Shared}{a:Addr}{o:HO}
theorem Inv.track (I:Inv X pins σ H s) (hn:H a=none) (hc:(a∈X.ex∨X.s₀.heap.objs.size<=a)/\a≠X.env.locals/\(∀x c,X.env.cells.lookup x=some c->c≠a)/\∀p∈X.pn++pins,p.1≠a)
  (ok:ObjOk X.prog X.w (upd H a o) s.heap a o):Inv X pins σ (upd H a o) s:=by
 have nn:∀{b:Addr}{u:HO},H b=some u->b≠a:=fun {b u} q z=>by subst z;rw [hn] at q;cases q
 have key:=I.step (H':=upd H a o) (h':=s.heap) (g':=s.gens) (t':=s.toks) (d':=s.drawn) (ch:=[a]) (fun b hb=>by
   have e:b=a:=by simpa using hb
   subst e;exact hc) (fun b o _ _ _ e _=>e) (fun b o _ _ _ e _=>⟨o.slots,e⟩) (fun b o hb _ q=>by rw [upd_ne fun z=>hb (by simp [z])];exact q) (fun b o _ e=>⟨o,e⟩)
  (fun b xs q=>by rw [upd_ne (nn q)];exact q) (fun b o u q=>by rw [upd_ne (nn q)];exact q) (fun b ps q=>⟨#[],by rw [upd_ne (nn q)];simpa using q⟩) (fun m h=>h) (fun b u q=>?_) I.bare
 ·exact key
 ·by_cases z:b=a
  ·subst z
   rw [upd_same] at q;cases q
   exact ok
  ·rw [upd_ne z] at q
   exact (I.hok b u q).stay (fun c v _ e=>e) (fun c e=>by rw [upd_ne (nn e)];exact e) fun c xs e=>by rw [upd_ne (nn e)];exact e
theorem Inv.forget {φ:Heap->Prop}(I:Inv X pins σ H s) (he:H a=some (.ext φ)):Inv X pins σ (del H a) s:=by
 have nn:∀{b:Addr}{u:HO},H b=some u->(∀ψ,u≠.ext ψ)->b≠a:=fun {b u} q n z=>by subst z;rw [he] at q;cases q;exact n φ rfl
 refine I.step (H':=del H a) (h':=s.heap) (g':=s.gens) (t':=s.toks) (d':=s.drawn) (ch:=[]) (fun b hb=>absurd hb (by simp)) (fun b o _ _ _ e _=>e) (fun b o _ _ _ e _=>⟨o.slots,e⟩) (fun b o hb _ q=>?_) (fun b o _ e=>⟨o,e⟩)
  (fun b xs q=>by rw [del_ne (nn q fun ψ z=>by cases z)];exact q) (fun b o u q=>by rw [del_ne (nn q fun ψ z=>by cases z)];exact q) (fun b ps q=>⟨#[],by rw [del_ne (nn q fun ψ z=>by cases z)];simpa using q⟩) (fun m h=>h) (fun b u q=>?_) I.bare
 ·by_cases z:b=a
  ·rw [z];exact del_same
  ·rw [del_ne z];exact q
 ·by_cases z:b=a
  ·rw [z,del_same] at q;cases q
  ·rw [del_ne z] at q
   exact (I.hok b u q).stay (fun c v _ e=>e) (fun c e=>by rw [del_ne (nn e fun ψ z=>by cases z)];exact e) fun c xs e=>by rw [del_ne (nn e fun ψ z=>by cases z)];exact e
end
structure XCl (K:PySem.W.Frag) (C:Addr) (ns:List Str) (ini:Option Addr):Prop where
 kp:PySem.W.keepIn K (.ref C)=true
 cl:∃(nm q:Str) (N:Addr) (bs bm:List Value) (sn:List Str) (sub:List Value) (ab:Bool) (col:Option Bool) (dd:Option Addr) (k0 k1 k2 k3 k5:Option Value),
  K.lookup C=some (excClassObj nm q C N bs bm true sn sub ab col dd k0 k1 k2 k3 k5 "ValueError.__new__") /\
  ∀h:Heap,K.In h->(∃mN,h.Ns N mN/\(∀n∈ns,mN n=none)/\mN "__init__" = ini.map Value.ref)/\XE.TailN ("__init__" :: ns) h veM bm
section
variable {X:Cx}{C g:Addr}{k:Nat}{fd:FuncData}{ps:List Str}{sp:Sp}{x:Str}{p pos:Pos}{e:Expr}{es:List Expr}{t:TA}{ns:List Str}
noncomputable def tRaise (X:Cx) (C:Addr) (t:TE):TS:=fun _ σ H=>t σ H fun v H2=>∃a dd,v=.ref a/\X.s₀.heap.objs.size<=a/\(∀p∈X.pn,p.1≠a)/\H2 a=some (.ext (XO a C dd))/\XW X (.ref C) dd (del H2 a)
theorem ps_raise {ini:Option Addr}{te:TE}(c:XCl X.K C ns ini) (hh:X.A.handled=none) (he:PE X e te):PS X (.Raise (some e) none pos) (tRaise X C te):=by
 intro pins s σ H D I h
 rw [arm_exec_Raise]
 refine wpAny_bind (wpAny_standAt ?_)
 obtain ⟨nm,qn,N,bs,bm,sn,sub,ab,col,dd,k0,k1,k2,k3,k5,lk,fr⟩:=c.cl
 have hbase:bm.contains (.type "BaseException")=true:=(fr _ I.kIn).2.hasType (by decide +kernel)
 refine XE.raise_made (C:=C) (nm:=nm) (q:=qn) (N:=N) (bs:=bs) (bm:=bm) (hdct:=true) (sn:=sn) (sub:=sub) (ab:=ab) (col:=col) (dd:=dd) (k0:=k0) (k1:=k1) (k2:=k2) (k3:=k3) (k5:=k5) (newId := "ValueError.__new__") hbase hh ?_
 show wpAny _ _ (eval e X.env >>= fun v=>standAt pos >>= fun _=>pure v) _ _ _
 refine wpAny_bind (thn (he pins s σ H _ I h) fun u s1 ⟨v,H1,I1,rv,a,ad,ev,hy,hpn,ha,q⟩=>wpAny_bind (wpAny_standAt (wpAny_pure ?_)))
 subst ev
 cases rv
 obtain ⟨⟨vs,sl,ho,h1,h2⟩,_⟩:=(show ObjOk X.prog X.w H1 s1.heap a (.ext (XO a C ad)) from I1.hok a _ ha)
 refine ⟨a,_,vs,rfl,I1.kIn _ _ lk,ho,rfl,rfl,h1,h2,?_⟩
 exact q pins σ s1 a (I1.forget ha) ⟨⟨⟨hy,del_same⟩,hpn⟩,_,vs,ho,rfl,rfl,rfl,h2,.inl ⟨h1,rfl⟩⟩
end
end L2
namespace XE
open PySem
section
variable {M:Model}{A:Around}{E:Value->Shared->Prop}
variable {nm q nm' q':Str}{C N D N':Addr}{bs bm bs' bm':List Value}{hdct hdct':Bool}{sn sn':List Str}{sub sub':List Value}{ab ab':Bool}{col col':Option Bool}{dd dd':Option Addr}{k0 k1 k2 k3 k5 j0 j1 j2 j3 j5:Option Value}{newId newId':String}
theorem matches_own {h:Heap}{g:Array GenState}{d:Drawn}{t:Nat}{os:OsState}{e:Addr}{oe:Obj}{Q:Bool->Shared->Prop}
  (hC:h.get? C=some (excClassObj nm q C N bs bm hdct sn sub ab col dd k0 k1 k2 k3 k5 newId)) (hD:h.get? D=some (excClassObj nm' q' D N' bs' bm' hdct' sn' sub' ab' col' dd' j0 j1 j2 j3 j5 newId'))
  (he:h.get? e=some oe) (hcls:oe.cls=.ref C) (hbase:bm'.contains (.type "BaseException")=true) (hsub:(Value.ref C::bm).contains (.ref D)=true)
  (hq:Q true ⟨h,g,d,t,os⟩):wpAny M A (excMatches (.ref e) (.ref D)) Q E ⟨h,g,d,t,os⟩:=by
 have hcB:(Value.ref D::bm').contains (.type "BaseException")=true:=by rw [List.contains_cons,hbase,Bool.or_true]
 have f:=tc_notTuple
 unfold excMatches
 repeat (first | (with_reducible refine wpAny_loadPart_at he ?_;rw [hcls]) | with_reducible refine wpAny_loadPart_at hD ?_ | (with_reducible refine wpAny_isSubtype_exc hD ?_;rw [hcB]) | (with_reducible refine wpAny_isSubtype_exc hC ?_;rw [hsub]) | wp_step)
 exact hq
end
end XE
namespace L2
open PySem PySem.Spec PyProof.Rows
noncomputable abbrev Cx.su0 (X:Cx) (a:Addr):Cx:={ X with A:=X.A.mark (some (.ref a)),calm:=false,cool:=false,xe:=fun _ _=>False }
section
variable {X:Cx}{pins:List (Addr×Obj)}{σ:St}{H:Hp}{s:Shared}{a:Addr}
theorem Inv.su0 (I:Inv X pins σ H s) (a:Addr):Inv (X.su0 a) pins σ H s:=
 ⟨⟨I.ok.mod,I.ok.kind,I.ok.glob,I.ok.blt,I.ok.above,I.ok.inj,I.ok.has,I.ok.cab,(fun z=>Bool.noConfusion z),I.ok.frames,I.ok.stk,I.ok.exf,I.ok.bs,I.ok.bsz,I.ok.noex,I.ok.exfs,I.ok.funs,I.ok.frf,(fun z=>Bool.noConfusion z)⟩,I.os,I.bare,I.base,I.loc,I.cell,I.free,I.freeC,I.pin,I.hok,I.len⟩
noncomputable abbrev frzX (a:Addr) (oe:Obj):HO:=.frz oe (.ext fun h=>h.get? a=some oe)
noncomputable abbrev Cx.su (X:Cx) (a:Addr) (oe:Obj):Cx:={ X with A:=X.A.mark (some (.ref a)),H₀:=upd X.H₀ a (frzX a oe),calm:=true,cool:=false,xe:=fun _ _=>False }
theorem Inv.old (I:Inv X pins σ H s) (hn:X.s₀.heap.objs.size<=a) {b:Addr}{o:Obj}(e:X.s₀.heap.get? b=some o):b≠a:=fun z=>by
 have:=Heap.lt_size e
 rw [z] at this
 exact absurd (Nat.lt_of_lt_of_le this hn) (Nat.lt_irrefl _)
theorem Inv.su {oe:Obj}{vs:Array Value}(I:Inv X pins σ H s) (hn:X.s₀.heap.objs.size<=a) (ha:H a=some (frzX a oe)) (hf:a∉X.fs) (hd:oe.data=.fields vs) (h2:vs[2]?=some .none):Inv (X.su a oe) pins σ H s:=by
 refine ⟨⟨I.ok.mod,I.ok.kind,I.ok.glob,I.ok.blt,I.ok.above,I.ok.inj,I.ok.has,I.ok.cab,fun _=>.inr ⟨a,oe,_,vs,rfl,upd_same,hd,h2⟩,I.ok.frames,I.ok.stk,I.ok.exf,fun b o e=>?_,I.ok.bsz,I.ok.noex,I.ok.exfs,I.ok.funs,fun b hb=>?_,(fun z=>Bool.noConfusion z)⟩,I.os,I.bare,?_,I.loc,I.cell,I.free,I.freeC,I.pin,I.hok,I.len⟩
 ·obtain ⟨e1,e2⟩:=I.ok.bs b o e
  exact ⟨e1,(upd_ne (I.old hn e1)).trans e2⟩
 ·exact (upd_ne fun z=>hf (by rw [<-z];exact hb)).trans (I.ok.frf b hb)
 ·refine ⟨fun b o e n hb hx=>I.base.keep b o e ((upd_ne (I.old hn e)).symm.trans n) hb hx,fun b o e n hb hx=>I.base.slot b o e ((upd_ne (I.old hn e)).symm.trans n) hb hx,fun b o e n hx=>I.base.free b o e ((upd_ne (I.old hn e)).symm.trans n) hx,I.base.there,fun b xs q=>?_,fun b o u q=>?_,fun b ps q=>?_⟩
  ·have q:upd X.H₀ a (frzX a oe) b=_:=q
   by_cases z:b=a
   ·subst z;rw [upd_same] at q;cases q
   ·rw [upd_ne z] at q;exact I.base.tups b xs q
  ·have q:upd X.H₀ a (frzX a oe) b=_:=q
   by_cases z:b=a
   ·subst z;rw [upd_same] at q;rw [ha];exact q
   ·rw [upd_ne z] at q;exact I.base.frzs b o u q
  ·have q:upd X.H₀ a (frzX a oe) b=_:=q
   by_cases z:b=a
   ·subst z;rw [upd_same] at q;cases q
   ·rw [upd_ne z] at q;exact I.base.tbls b ps q
theorem Inv.unsu {oe:Obj}{H1:Hp}{s1:Shared}{pins1:List (Addr×Obj)}{σ1:St}(J:Inv (X.su a oe) pins σ H s) (I:Inv X pins1 σ1 H1 s1) (hn:X.s₀.heap.objs.size<=a) (h1:H1 a=none):Inv X pins σ H s:=by
 have nt:∀{b:Addr}{o:HO},X.H₀ b=some o->(H1 b=none->False)->b≠a:=fun {b o} q k z=>k (by rw [z];exact h1)
 refine ⟨I.ok,J.os,J.bare,⟨fun b o e n hb hx=>J.base.keep b o e (by show upd X.H₀ a _ b=none;rw [upd_ne (I.old hn e)];exact n) hb hx,fun b o e n hb hx=>J.base.slot b o e (by show upd X.H₀ a _ b=none;rw [upd_ne (I.old hn e)];exact n) hb hx,fun b o e n hx=>J.base.free b o e (by show upd X.H₀ a _ b=none;rw [upd_ne (I.old hn e)];exact n) hx,J.base.there,fun b xs q=>?_,fun b o u q=>?_,fun b ps q=>?_⟩,J.loc,J.cell,J.free,J.freeC,J.pin,J.hok,J.len⟩
 ·refine J.base.tups b xs ?_
  show upd X.H₀ a _ b=_
  rw [upd_ne (nt q fun z=>by rw [I.base.tups b xs q] at z;cases z)];exact q
 ·refine J.base.frzs b o u ?_
  show upd X.H₀ a _ b=_
  rw [upd_ne (nt q fun z=>by rw [I.base.frzs b o u q] at z;cases z)];exact q
 ·refine J.base.tbls b ps ?_
  show upd X.H₀ a _ b=_
  rw [upd_ne (nt q fun z=>by obtain ⟨more,q'⟩:=I.base.tbls b ps q;rw [q'] at z;cases z)];exact q
theorem goes_ok {M:Model}{A:Around}{E:Value->Shared->Prop}{i:Nat}{x:Str}{pos:Pos}{Q:Unit->Shared->Prop}(I:Inv X pins σ H s) (hN:X.N.Nodup) (hi:X.N[i]?=some x) (hk:X.env.scope.names.lookup x=some .local)
  (h:∀s',Inv X pins (σ.set i none) H s'->Q () s'):wpAny M A (do bindName X.env x .none;unbindBehindTheSuite X.env x pos) Q E s:=by
 obtain ⟨m,hn,hl⟩:=id I.loc
 have hcls:(X.env.scope.kind==.class||(X.env.scope.kind==.module&&X.env.locals != X.env.globals))=false:=by rw [I.ok.kind];rfl
 have hiσ:i < σ.length:=by rw [I.len];exact (List.getElem?_eq_some_iff.mp hi).1
 have cne:=I.cne
 refine wpAny_nameGoes_keeps hk hn hcls fun h' v hn' hs=>?_
 obtain ⟨oL,_,_,hoL,_⟩:=id hn
 refine h _ ⟨I.ok,I.os,I.bare,⟨fun b o e n hb hx=>?_,fun b o e n hb hx=>?_,I.base.free,fun b o e hx=>?_,I.base.tups,I.base.frzs,I.base.tbls⟩,⟨_,hn',fun j y v' e1 e2 e3=>?_⟩,fun y c e=>?_,I.free,I.freeC,fun p hp=>?_,fun b ob e=>?_,by simpa using I.len⟩
 ·exact (hs.2 b (Nat.ne_of_lt (Nat.lt_of_lt_of_le (Heap.lt_size e) I.ok.above))).trans (I.base.keep b o e n hb hx)
 ·obtain ⟨sl,e1⟩:=I.base.slot b o e n hb hx
  exact ⟨sl,(hs.2 b (Nat.ne_of_lt (Nat.lt_of_lt_of_le (Heap.lt_size e) I.ok.above))).trans e1⟩
 ·obtain ⟨o',e1⟩:=I.base.there b o e hx
  exact ⟨o',(hs.2 b (Nat.ne_of_lt (Nat.lt_of_lt_of_le (Heap.lt_size e) I.ok.above))).trans e1⟩
 ·by_cases hj:j=i
  ·subst hj
   rw [List.getElem?_set_self hiσ] at e2
   cases e2
  ·rw [List.getElem?_set_ne (Ne.symm hj)] at e2
   obtain ⟨u',r',q⟩:=hl j y v' e1 e2 e3
   refine ⟨u',r',?_⟩
   rcases q with ⟨k,e⟩ | ⟨k,c,e,z⟩
   ·refine .inl ⟨k,?_⟩
    have:y≠x:=fun e=>hj (nodup_ix hN e1 (e▸hi))
    simp [this,e]
   ·exact .inr ⟨k,c,e,z.sameBut hs (cne y c e)⟩
 ·obtain ⟨w',z⟩:=I.cell y c e
  exact ⟨w',z.sameBut hs (cne y c e)⟩
 ·obtain ⟨e,n,ne,nf,d⟩:=I.pin p hp
  exact ⟨(hs.2 p.1 ne).trans e,n,ne,nf,d⟩
 ·refine (I.hok b ob e).stay (fun c w' hc q=>(hs.2 c ?_).trans q) (fun _ q=>q) fun _ _ q=>q
  rintro rfl
  rcases hc with hc | hc
  ·rw [<-hc,I.free] at e;cases e
  ·rw [I.free] at hc;cases hc
end
end L2
namespace L2
open PySem PySem.Spec PyProof.Rows
noncomputable def XSub (K:PySem.W.Frag) (C D:Addr):Prop:=∀(nm q:Str) (N:Addr) (bs bm:List Value) (sn:List Str) (sub:List Value) (ab:Bool) (col:Option Bool) (dd:Option Addr) (k0 k1 k2 k3 k5:Option Value),
 K.lookup C=some (excClassObj nm q C N bs bm true sn sub ab col dd k0 k1 k2 k3 k5 "ValueError.__new__")->(Value.ref C::bm).contains (.ref D)=true
structure Cgt (oe:Obj) (C:Addr) (dd:Option Addr):Prop where
 cls:oe.cls=.ref C
 dict:oe.dict=dd
 data:∃vs,oe.data=.fields vs/\vs[2]?=some .none
noncomputable abbrev Ends.gone (D:Ends) (i:Nat):Ends:={ nx:=fun σ H=>D.nx (σ.set i none) H,rt:=D.rt,bk:=fun σ H=>D.bk (σ.set i none) H,ct:=fun σ H=>D.ct (σ.set i none) H }
section
variable {X:Cx}{pins:List (Addr×Obj)}{σ:St}{H:Hp}{s:Shared}{a C D:Addr}{dd:Option Addr}{ns ns':List Str}{ini ini':Option Addr}{cn nm:Str}{cp hpos:Pos}{b0:Stmt}{suite:List Stmt}{i:Nat}{ts:Obj->TS}{De:Ends}
theorem catch_ok (hN:X.N.Nodup) (hi:X.N[i]?=some nm) (hk:X.env.scope.names.lookup nm=some .local) (hst:X.stack=X.env::X.outer) (hfr:X.env.frame=some X.env.locals)
  (hg:Gl X cn) (hm:X.mg cn=some (.ref D)) (c:XCl X.K C ns ini) (c':XCl X.K D ns' ini') (sb:XSub X.K C D) (hs:∀oe,PSs (X.su a oe) (b0::suite) (ts oe)) (hdb:(cn==("__debug__" : Str))=false)
  (I:Inv X pins σ H s) (x:XE.ExO (fun b=>Yg X.s₀.heap.objs.size H b/\∀p∈X.pn++pins,p.1≠b) a (.ref C) dd .none s.heap)
  (h:∀oe,Cgt oe C dd->ts oe (De.gone i) (σ.set i (some (.ref a))) (upd H a (frzX a oe))) :
  wpAny (model X.prog X.w) X.A (noteFrame (.ref a) X.env) (fun _ s2=>wpAny (model X.prog X.w) X.A (setFlight (.ref a) none) (fun _ s3=>
   wpAny (model X.prog X.w) X.A (handleBy (.ref a) X.env [.ExceptHandler (some (.Name cn cp)) (some nm) (b0::suite) hpos]) (SP X pins De) X.xe s3) X.xe s2) X.xe s:=by
 have fr:X.A.frames=some (X.env::X.outer):=by rw [<-hst];exact I.ok.frames
 have fu:s.heap.FunFrames X.base (X.env::X.outer):=by rw [<-hst];exact I.stack
 have ff:∀b∈(X.env::X.outer).filterMap (·.frame),H b=none:=by rw [<-hst];exact I.stkFree
 have pf:∀b,s.heap.objs.size<=b->Yg X.s₀.heap.objs.size H b/\∀p∈X.pn++pins,p.1≠b:=fun b hb=>⟨⟨Nat.le_trans I.sz hb,I.hok.fresh hb⟩,fun p hp z=>by
  have:=Heap.lt_size (I.pin p hp).1
  rw [z] at this
  exact absurd (Nat.lt_of_lt_of_le this hb) (Nat.lt_irrefl _)⟩
 have keepI:∀{s1:Shared}{h2:Heap}{fs ch:List Addr},Inv X pins σ H s1->XE.Chg ((X.env::X.outer).filterMap (·.frame)) ch s1.heap h2->XE.Rec (fun b=>Yg X.s₀.heap.objs.size H b/\∀p∈X.pn++pins,p.1≠b) s1.heap ch->Inv X pins σ H { s1 with heap:=h2 }:=fun {s1 h2 fs ch} J c2 r2=>
  J.call' rfl (by rw [hst];exact un_chg c2 ff) (hok_chg c2 ff (fun b hb=>(r2 b hb).1.1.2) J.hok) J.bare (J.recs (fun b hb=>⟨(r2 b hb).1.1,(r2 b hb).2⟩) fun b hb=>(r2 b hb).1.2)
 refine XE.note fr fu hfr pf x (.inl rfl) fun h1 ch x1 c1 r1=>?_
 have I1:=keepI (fs:=[]) I c1 r1
 refine XE.unmark (s:={ s with heap:=h1 }) x1 fun h2 ch2 x2 c2 r2 _=>?_
 have I2:=keepI (fs:=[]) I1 (c2 _) r2
 obtain ⟨nm1,q1,N1,bs1,bm1,sn1,sub1,ab1,col1,dd1,k0,k1,k2,k3,k5,lk,_⟩:=c.cl
 obtain ⟨nm2,q2,N2,bs2,bm2,sn2,sub2,ab2,col2,dd2,j0,j1,j2,j3,j5,lk',fr'⟩:=c'.cl
 have hbase:bm2.contains (.type "BaseException")=true:=(fr' _ I2.kIn).2.hasType (by decide +kernel)
 have hsub:=sb _ _ _ _ _ _ _ _ _ _ _ _ _ _ _ lk
 refine wpAny_handleBy_cons (codeAny_handlers_test (ld_glob (X:=X.su0 a) (I2.su0 a) hg hm ?_ hdb)) (by intro q;cases q)
 obtain ⟨_,oe,vs,he,hc,hdd,hd,hv2,tb⟩:=id x2
 refine XE.matches_own (I2.kIn _ _ lk) (I2.kIn _ _ lk') he hc hbase hsub ?_
 refine codeAny_handlers_suite_as ?_
 refine XE.unmark (s:={ s with heap:=h2 }) x2 fun h3 ch3 x3 c3 r3 _=>?_
 have I3:=keepI (fs:=[]) I2 (c3 _) r3
 obtain ⟨⟨⟨ya,yn⟩,yp⟩,oe3,vs3,he3,hc3,hdd3,hd3,hv3,tb3⟩:=id x3
 have I4:Inv X pins σ (upd H a (frzX a oe3)) { s with heap:=h3 }:=by
  refine I3.track yn ⟨.inr ya,fun z=>?_,fun x c e z=>?_,yp⟩ ⟨he3,he3,⟨_,he3⟩,fun g1 g2 q k=>k _ q⟩
  ·obtain ⟨m,⟨o',es,ep,ho',hd',_⟩,_⟩:=I3.loc
   rw [<-z] at ho'
   have:oe3=o':=Option.some.inj (he3.symm.trans ho')
   subst this
   rw [hd3] at hd';cases hd'
  ·obtain ⟨v,o',ho',hd'⟩:=I3.cell x c e
   rw [z] at ho'
   have:oe3=o':=Option.some.inj (he3.symm.trans ho')
   subst this
   rw [hd3] at hd';cases hd'
 have nf:a∉X.fs:=fun hb=>by
  obtain ⟨_,o,ho,_⟩:=I.ok.funs.mem hb
  exact absurd (Nat.lt_of_lt_of_le (Heap.lt_size ho) ya) (Nat.lt_irrefl _)
 refine store_ok (X:=X.su a oe3) (v:=.ref a) (I4.su ya upd_same nf hd3 hv3) hN hi (.inl hk) rfl (fun s5 I5=>?_) (.inr hk)
 refine wpAny_mono (hs oe3 pins s5 _ _ (De.gone i) I5 (h oe3 ⟨hc3,hdd3,vs3,hd3,hv3⟩)) (fun f s6 q6=>?_) fun _ _ z=>z.elim
 cases f with
 |next=>obtain ⟨σ6,H6,I6,q6⟩:=q6;exact goes_ok (I6.unsu I3 ya yn) hN hi hk fun s7 I7=>⟨_,H6,I7,q6⟩
 |cont=>obtain ⟨σ6,H6,I6,q6⟩:=q6;exact goes_ok (I6.unsu I3 ya yn) hN hi hk fun s7 I7=>⟨_,H6,I7,q6⟩
 |brk=>obtain ⟨σ6,H6,I6,q6⟩:=q6;exact goes_ok (I6.unsu I3 ya yn) hN hi hk fun s7 I7=>⟨_,H6,I7,q6⟩
 |ret v=>obtain ⟨w6,σ6,H6,I6,r6,q6⟩:=q6;exact goes_ok (I6.unsu I3 ya yn) hN hi hk fun s7 I7=>⟨w6,_,H6,I7,r6,q6⟩
end
end L2
namespace L2
open PySem PySem.Spec PyProof.Rows
section
variable {X:Cx}{D Cw g:Addr}{ns':List Str}{ini':Option Addr}{cn nm x wn:Str}{cp hpos p xp cpos apos pos:Pos}{b0:Stmt}{suite:List Stmt}{i j k:Nat}{ts:Addr->Obj->TS}{fd:FuncData}{ps:List Str}{sp:Sp}{e:Expr}{es:List Expr}{t:TA}
noncomputable def Wnt (X:Cx) (D:Addr) (i:Nat) (ts:Addr->Obj->TS) (De:Ends) (σ:St):XK:=fun Cv dd H2=>∃C0 ns ini,Cv=.ref C0/\XCl X.K C0 ns ini/\XSub X.K C0 D/\∀a oe,H2 a=none->Cgt oe C0 dd->ts a oe (De.gone i) (σ.set i (some (.ref a))) (upd H2 a (frzX a oe))
theorem wnt_ok {pins:List (Addr×Obj)}{σ:St}{De:Ends}(hN:X.N.Nodup) (hi:X.N[i]?=some nm) (hk:X.env.scope.names.lookup nm=some .local) (hst:X.stack=X.env::X.outer) (hfr:X.env.frame=some X.env.locals)
  (hg:Gl X cn) (hm:X.mg cn=some (.ref D)) (c':XCl X.K D ns' ini') (hs:∀a oe,PSs (X.su a oe) (b0::suite) (ts a oe)) (hdb:(cn==("__debug__" : Str))=false)
  (H:Hp) (s:Shared) (e:Value) (s':Shared) (I:Inv X pins σ H s) (h:CX1 X.prog X.w X.stack H s (Wnt X D i ts De σ) e s') :
  wpAny (model X.prog X.w) X.A (noteFrame e X.env) (fun _ s2=>wpAny (model X.prog X.w) X.A (setFlight e none) (fun _ s3=>
   wpAny (model X.prog X.w) X.A (handleBy e X.env [.ExceptHandler (some (.Name cn cp)) (some nm) (b0::suite) hpos]) (SP X pins De) X.xe s3) X.xe s2) X.xe s':=by
 obtain ⟨a,Cv,dd,H',rfl,os,ba,un,hk',x,C0,ns,ini,rfl,c,sb,q⟩:=h
 have I1:Inv X pins σ H' s':=I.call' os un hk' ba fun b hb=>absurd hb (by simp)
 refine catch_ok hN hi hk hst hfr hg hm c c' sb (hs a) hdb I1 (x.imp fun b hb=>⟨⟨Nat.le_trans I.sz hb.1,hb.2⟩,fun p hp z=>?_⟩) fun oe cg=>q a oe x.1.2 cg
 have:=Heap.lt_size (I.pin p hp).1
 rw [z] at this
 exact absurd (Nat.lt_of_lt_of_le this hb.1) (Nat.lt_irrefl _)
end
end L2
namespace L2
open PySem PySem.Spec PyProof.Rows
structure RoomH (k:Nat) (A:Around):Prop where
 dp:A.depth+3 * k+5 < recursionLimit
 un:A.units+16 * k+200 < cLine
theorem Room.h {k:Nat}{A:Around}(r:Room k A):RoomH k A:=⟨r.dp,r.un⟩
theorem RoomH.mono {j k:Nat}{A:Around}(r:RoomH k A) (h:j<=k):RoomH j A:=⟨by have:=r.dp;omega,by have:=r.un;omega⟩
theorem RoomH.deeper {k:Nat}{A:Around}(r:RoomH (k+1) A) (env:Env):RoomH k (A.deeper env):=
 ⟨by have:=r.dp;show A.depth+1+3 * k+5 < _;omega,by have:=r.un;show A.units+3+16 * k+200 < _;omega⟩
theorem RoomH.mark {k:Nat}{A:Around}(r:RoomH k A) (h:Option Value):RoomH k (A.mark h):=⟨r.dp,r.un⟩
theorem RoomH.depth {k:Nat}{A:Around}(r:RoomH k A):A.depth < recursionLimit:=by have:=r.dp;omega
structure FnOkH (P:Program) (w:World) (K:PySem.W.Frag) (mg:Str->Option Value) (base:Heap) (k:Nat) (f:Addr) (fd:FuncData) (ps:List Str) (sp:Sp):Prop where
 len:∀vs H Q E,sp vs H Q E->vs.length=ps.length
 run:∀(A:Around) (outer:List Env) (s:Shared) (H:Hp) (args:Args) (us:List Value) (vs:List V) (Q:VK) (E:XK),RoomH k A->HD A H->Env0 P w K mg base A outer s H->BindsTo s fd args (ps.zip us)->Vals vs us->sp vs H Q E ->
  codeAny (model P w) A (.call (.ref f) args) (CR CX0 outer P w H s Q E) s
theorem FnOkH.mono {P:Program}{w:World}{K:PySem.W.Frag}{mg:Str->Option Value}{base:Heap}{j k:Nat}{f:Addr}{fd:FuncData}{ps:List Str}{sp:Sp}(F:FnOkH P w K mg base j f fd ps sp) (h:j<=k):FnOkH P w K mg base k f fd ps sp:=
 ⟨F.len,fun A outer s H args us vs Q E hr=>F.run A outer s H args us vs Q E (hr.mono h)⟩
noncomputable abbrev cxH (P:Program) (w:World) (K:PySem.W.Frag) (mg:Str->Option Value) (base:Heap) (N:List Str) (qual:Str) (scope:Scope) (f:Addr) (cd:Value) (A:Around) (outer:List Env) (s:Shared) (H:Hp) (E:XK):Cx:=
 { cxOf CX0 P w K mg base N qual scope f cd A outer s H E with cool:=false,xe:=fun _ _=>False }
section
variable {P:Program}{w:World}{K:PySem.W.Frag}{mg:Str->Option Value}{base:Heap}
theorem inv_startH {N ps:List Str}{qual:Str}{scope:Scope}{f:Addr}{cd:Value}{A:Around}{outer:List Env}{s s1:Shared}{H:Hp}{E:XK}{us:List Value}{vs:List V}
  (S:FnScope N ps scope) (hd:HD A H) (e0:Env0 P w K mg base A outer s H) (hl:vs.length=ps.length) (r:Vals vs us)
  (x:InCallC s s.heap.objs.size (bindL (envOfC qual scope s.heap.objs.size f cd).kindOf (ps.zip us) fun _=>none) (cellsFrom (s.heap.objs.size+1) scope.names []) (bindC (envOfC qual scope s.heap.objs.size f cd).kindOf (ps.zip us) fun _=>none) s1) :
  Inv (cxH P w K mg base N qual scope f cd A outer s H E) [] (start N vs) H s1:=by
 have e1:Env0 P w K mg base { A with handled:=none } outer s H:=⟨e0.frames,e0.mod,e0.bs,e0.bsz,e0.funs,e0.frf,e0.hok,e0.bare⟩
 have J:Inv (cxOf CX0 P w K mg base N qual scope f cd { A with handled:=none } outer s H E) [] (start N vs) H s1:=inv_start S rfl e1 hl r x
 exact ⟨⟨J.ok.mod,J.ok.kind,J.ok.glob,J.ok.blt,J.ok.above,J.ok.inj,J.ok.has,J.ok.cab,fun _=>hd,J.ok.frames,J.ok.stk,J.ok.exf,J.ok.bs,J.ok.bsz,J.ok.noex,J.ok.exfs,J.ok.funs,J.ok.frf,(fun z=>Bool.noConfusion z)⟩,J.os,J.bare,J.base,J.loc,J.cell,J.free,J.freeC,J.pin,J.hok,J.len⟩
theorem fn_ofH {k:Nat}{f:Addr}{name qual:Str}{params:Arguments}{body:List Stmt}{scope:Scope}{dV kV doc pm cdv ct oc:Value}{an od:Option Addr}
  {osl:Array (Option Value)}{N ps:List Str}{sp:Sp}(lk:K.lookup f=some ⟨oc,od,.func (PySem.W.fnOf name qual params body scope dV kV doc pm an cdv ct),osl⟩) (hcd:PySem.W.codeIn K cdv qual=true) (S:FnScope N ps scope)
  (len:∀vs H Q E,sp vs H Q E->vs.length=ps.length)
  (hbody:∀(A:Around) (outer:List Env) (s:Shared) (H:Hp) (vs:List V) (Q:VK) (E:XK),RoomH k (A.deeper (envOfC qual scope s.heap.objs.size f cdv))->sp vs H Q E ->
   ∃t,PSs (cxH P w K mg base N qual scope f cdv A outer s H E) body t/\t { nx:=fun _ H'=>Q .non H',rt:=Q } (start N vs) H) :
  FnOkH P w K mg base (k+1) f (PySem.W.fnOf name qual params body scope dV kV doc pm an cdv ct) ps sp:=by
 refine ⟨len,fun A outer s H args us vs Q E hr hd e0 hb r hsp=>?_⟩
 have hl:=len _ _ _ _ hsp
 have KX:K.In s.heap:=e0.mod.kin.keeps fun b o e=>(e0.bs b o e).1
 have lim:s.heap.NoLimit:=e0.mod.nolimit.keeps fun b o e=>(e0.bs b o e).1
 have hkind:∀y∈ps.zip us,scope.names.lookup y.1=some .local∨(scope.names.lookup y.1=some .cell/\((cellsFrom (s.heap.objs.size+1) scope.names []).lookup y.1).isSome=true):=fun ⟨n,v⟩ hy=>by
  rcases S.par n (List.of_mem_zip hy).1 with q | q
  ·exact .inl q
  ·exact .inr ⟨q,PySem.W.cellsFrom_some _ _ _ (.inl q)⟩
 refine codeAny_call_function hr.depth (KX _ _ lk) rfl S.co S.gen rfl (PySem.W.codeRec_of KX hcd) (hb _ _ _ _ ?_)
 refine wpAny_newFunctionEnv_cells S.kind hkind fun env he s1 x=>?_
 subst he
 refine ⟨lim.keeps x.toInCall.keep,codeAny_func ?_⟩
 obtain ⟨t,ht,hq⟩:=hbody A outer s H vs Q E (hr.deeper _) hsp
 have I:Inv (cxH P w K mg base N qual scope f cdv A outer s H E) [] (start N vs) H s1:=inv_startH S hd e0 hl r x
 refine wpAny_mono (ht [] s1 (start N vs) H _ I hq) (fun fl s' hs=>?_) fun e s' hs=>hs.elim
 have fin:∀{σ':St}{H':Hp}{v:V}{u:Value},Inv (cxH P w K mg base N qual scope f cdv A outer s H E) [] σ' H' s'->RelV v u->Q v H'->CE outer P w H s Q u s':=
  fun {σ' H' v u} J rv q=>⟨v,H',J.os,J.bare,J.base,J.hok,rv,q⟩
 cases fl with
 |ret u=>
  obtain ⟨v,σ',H',J,rv,q⟩:=hs
  exact fin J rv q
 |next=>
  obtain ⟨σ',H',J,q⟩:=hs
  exact fin (v:=V.non) (u:=Value.none) J rfl q
 |brk=>
  obtain ⟨_,_,_,q⟩:=hs
  exact False.elim q
 |cont=>
  obtain ⟨_,_,_,q⟩:=hs
  exact False.elim q
end
section
variable {X:Cx}{k:Nat}{f:Addr}{fd:FuncData}{ps:List Str}{sp:Sp}{x:Str}{p pos:Pos}{e:Expr}{es:List Expr}{t:TA}
theorem Inv.hdH {pins:List (Addr×Obj)}{σ:St}{H:Hp}{s:Shared}(I:Inv X pins σ H s) (hc:X.calm=true):HD X.A H:=(I.ok.hd hc).mono fun b o u q=>I.base.frzs b o u q
theorem pe_callH (F:FnOkH X.prog X.w X.K X.mg X.base k f fd ps sp) (hc:X.calm=true) (hr:RoomH k X.A) (hg:Gl X x) (hm:X.mg x=some (.ref f)) (hk:PySem.W.keepIn X.K (.ref f)=true) (hb:Binds X.K fd ps [])
  (ha:PA X (e::es) t) (hdb:(x==("__debug__" : Str))=false:=by decide) (he:starEach (e::es) X.env=(false,eval e X.env)::starEach es X.env:=by rfl) (hpl:(backTo pos (starEach es X.env)).any (·.1)=false:=by rfl) :
  PE X (.Call (.Name x p) (e::es) [] pos) (tCall sp [] E0 t):=by
 intro pins s σ H Q I h
 refine wpAny_Call_Name_kw (ld_glob I hg hm ?_ hdb)
 refine PySem.W.callWith_K (h₀:=X.base) I.ok.mod.kin hk (thn (ha pos pins s σ H _ I h) fun us s1 ⟨vs,H1,I1,r,q⟩=>⟨I1.kIn,?_⟩) he hpl
 have q:sp (vs++[]) H1 Q E0:=q
 rw [List.append_nil] at q
 have hl:(us++[]).length=ps.length:=by rw [List.append_nil,<-r.length];exact F.len _ _ _ _ q
 have bt:=hb s1 us I1.kIn hl
 rw [List.append_nil] at bt
 refine wpAny_call (codeAny_mono (F.run X.A X.stack s1 H1 ⟨us,[]⟩ us vs Q E0 hr (I1.hdH hc) I1.env0 bt r q) fun r s' hq=>?_)
 cases r with
 |error e=>exact False.elim hq
 |ok fl=>
  cases fl with
  |ret u=>exact I1.after hq
  |next=>exact False.elim hq
  |brk=>exact False.elim hq
  |cont=>exact False.elim hq
end
end L2
namespace Y
open PySem L2
open Z (msk msk_in msk_out msk_le msk_app msk_upd msk_new msk_newc lim lim_lt lim_le)
section
variable {K:PySem.W.Frag}{P:Program}{w:World}{mg:Str->Option Value}{base:Heap}
theorem q_defH {en:En}(eo:EnOk en) {x qual:Str}{st:Stmt}{f:Addr}{fd:FuncData}{N ps:List Str}{k:Nat}{b:FS}(F:Fun K x qual st f fd) (Sc:FnScope N ps (defScope st))
  (hb:∀(cdv:Value) (A:Around) (outer:List Env) (s:Shared) (H:Hp) (E:XK),RoomH k (A.deeper (PyProof.Rows.envOfC qual (defScope st) s.heap.objs.size f cdv))->QSs (cxH P w K mg base N qual (defScope st) f cdv A outer s H E) (defBody st) b) :
  FnOkH P w K mg base (k+1) f fd ps (spF K (defE en ps.length N.length b)):=by
 obtain ⟨oc,od,kV,doc,pm,an,cdv,ct,osl,rfl,lk,hcd⟩:=F.ex
 refine fn_ofH lk hcd Sc (fun vs H Q E h=>?_) fun A outer s H vs Q E hr h=>?_
 ·obtain ⟨as,S,m,r,W,y,S',e,q⟩:=h
  unfold defE at e
  split at e
  ·rename_i hl;rw [r.length];exact hl
  ·cases e
 ·obtain ⟨as,S,m,r,W,y,S',e,q⟩:=h
  unfold defE at e
  split at e
  ·rename_i hl
   obtain ⟨c,S1,e1,e⟩:=okN e
   refine ⟨_,hb cdv A outer s H E hr,_,S,m,RS.begin r N _ hl,W,?_⟩
   rw [e1]
   cases c with
   |rt z=>
    refine fun v H' m' x' w' r'=>?_
    obtain ⟨l,rfl⟩:=x'.ex
    obtain ⟨m2,x2,w2,r2⟩:=eo.ok W x' w' r' e
    exact q v H' m2 x2 w2 r2
   |nx ρ1=>
    refine fun σ' H' m' x' R' w'=>?_
    obtain ⟨l,rfl⟩:=x'.ex
    obtain ⟨m2,x2,w2,r2⟩:=eo.ok W x' w' non_rep e
    exact q .non H' m2 x2 w2 r2
   |bk _=>cases e
   |ct _=>cases e
  ·cases e
end
section
variable {X:Cx}{e o:Expr}{es:List Expr}{fa:FA}{f:FE}{pos p apos:Pos}
theorem qe_callH {x:Str}{k:Nat}{g:Addr}{fd:FuncData}{ps:List Str}{F:FF}(G:FnOkH X.prog X.w X.K X.mg X.base k g fd ps (spF X.K F)) (hc:X.calm=true) (hr:RoomH k X.A) (hg:Gl X x) (hm:X.mg x=some (.ref g)) (hk:PySem.W.keepIn X.K (.ref g)=true) (hb:Binds X.K fd ps [])
  (ha:QA X (e::es) fa) (hdb:(x==("__debug__" : Str))=false:=by decide) (he:starEach (e::es) X.env=(false,eval e X.env)::starEach es X.env:=by rfl) (hpl:(backTo pos (starEach es X.env)).any (·.1)=false:=by rfl) :
  QE X (.Call (.Name x p) (e::es) [] pos) (callF F fa):=imE (pe_callH G hc hr hg hm hk hb ha hdb he hpl) (call_of (E:=E0))
end
theorem RS.unset {K:PySem.W.Frag}{m:List Addr}{H:Hp}{σ:L2.St}{ρ:Rho}(h:RS K m H σ ρ) (i:Nat):RS K m H (σ.set i none) (ρ.set i none):=by
 refine ⟨by rw [List.length_set,List.length_set];exact h.len,fun j y q=>?_⟩
 by_cases e:i=j
 ·subst e
  by_cases hi:i < ρ.length
  ·rw [List.getElem?_set_self hi] at q;cases q
  ·rw [List.getElem?_eq_none (by rw [List.length_set];omega)] at q;cases q
 ·rw [List.getElem?_set_ne e] at q
  rw [List.getElem?_set_ne e]
  exact h.at_ j y q
noncomputable def goneC (i:Nat):Ctl->Ctl
 |.nx r=>.nx (r.set i none)
 |.rt v=>.rt v
 |.bk r=>.bk (r.set i none)
 |.ct r=>.ct (r.set i none)
theorem Out.gone {K:PySem.W.Frag}{m:List Addr}{H:Hp}{D:Ends}{i:Nat}{c:Ctl}{S:Sto}(h:Out K m H D (goneC i c) S):Out K m H (D.gone i) c S:=by
 cases c with
 |nx r=>exact fun σ' H' m' x r w=>h _ H' m' x (r.unset i) w
 |rt v=>exact fun v H' m' x w r=>h v H' m' x w r
 |bk r=>exact fun σ' H' m' x r w=>h _ H' m' x (r.unset i) w
 |ct r=>exact fun σ' H' m' x r w=>h _ H' m' x (r.unset i) w
end Y
namespace Y
open PySem L2 YS
open Z (msk msk_in msk_out msk_le msk_app msk_upd msk_new msk_newc lim lim_lt lim_le)
section
variable {X:Cx}{elt tg iter:Expr}{ifs:List Expr}{scope:Scope}{pos p pos1:Pos}{fi:FI}{g:FG}{t:FT}{f:FE}{N:List Str}{n:Nat}{js:List Nat}
end
end Y
namespace L2
open PySem PySem.Spec PyProof.Rows
section
variable {X:Cx}
theorem ns_keep {h h':Heap}{a C:Addr}{m:Str->Option Value}(hn:h.Ns C m) (hs:Heap.SameBut a h h') (ne:C≠a):h'.Ns C m:=by
 obtain ⟨o,es,ep,e,r⟩:=hn
 exact ⟨o,es,ep,(hs.2 C ne).trans e,r⟩
theorem Inv.chg {pins:List (Addr×Obj)}{σ:St}{H:Hp}{s:Shared}{C:Addr}{h':Heap}(I:Inv X pins σ H s) (hC:H C=none) (h0:X.s₀.heap.objs.size<=C) (hL:C≠X.env.locals) (hc:∀x c,X.env.cells.lookup x=some c->c≠C) (hp:∀p∈X.pn++pins,p.1≠C)
  (hs:Heap.SameBut C s.heap h'):Inv X pins σ H { s with heap:=h' }:=by
 refine I.step (g':=s.gens) (d':=s.drawn) (t':=s.toks) (ch:=[C]) (fun b hb=>?_) (fun b o hb _ hc e _=>(hs.2 b (by simpa using hc)).trans e) (fun b o hb _ hc e _=>⟨o.slots,(hs.2 b (by simpa using hc)).trans e⟩) (fun b o _ e n=>n) (fun b o hb e=>⟨o,(hs.2 b (by simpa using hb)).trans e⟩) (fun b xs e=>e) (fun b o u e=>e) (fun b ps e=>⟨#[],by rw [e];simp⟩) (fun m hm=>ns_keep hm hs (Ne.symm hL)) (fun b u e=>?_) I.bare
 ·rw [List.mem_singleton.mp hb]
  exact ⟨.inr h0,hL,hc,hp⟩
 ·refine (I.hok b u e).stay (fun c v hc' q=>(hs.2 c ?_).trans q) (fun _ q=>q) fun _ _ q=>q
  rintro rfl
  rcases hc' with z | z
  ·rw [<-z,hC] at e;cases e
  ·rw [hC] at z;cases z
theorem lc_use {e:Expr}{elt tg iter:Expr}{ifs:List Expr}{rest:List Comprehension}{scope:Scope}{pos pos' pos0:Pos}{wi:TI}{g:TG}{tt:TT}{tb:Addr->TS}{bd:Addr->Env->Sem Unit}{N:List Str}{n:Nat}{js:List Nat}{i:Nat}{x:Str}
  (he:e=.ListComp elt (⟨tg,iter,ifs,0⟩::rest) scope pos) (hc:X.calm=true) (hi:PI X tg iter wi) (B:BlkOk X scope N n js)
  (hturn:∀it acc env,compTurn e 0 (.ref it) (.ref acc) env=turnOf e 0 (.ref it) (.ref acc) env tg iter ifs (bd acc env))
  (hg:∀s H fp,PG (blkCx X scope N s H fp) tg g) (ht:∀s H fp,PTs (blkCx X scope N s H fp) ifs tt) (hb:∀s H fp acc,PB (blkCx X scope N s H fp) (bd acc (blkCx X scope N s H fp).env) (tb acc))
  (hs:∀x,foldedSetIterable iter X.env x=pure x) (hN:X.N.Nodup) (hix:X.N[i]?=some x) (hx:Loc X.env.scope x) (hf:X.fn x=true∨X.env.scope.names.lookup x=some .local)
  (hsw:swapsWith e (some (.Name x pos')) pos0.line X.env=pure true) :
  PS X (.Assign [.Name x pos'] e pos0) (tAsg (fun σ H Q=>wi σ H fun J H1=>∀acc,H1 acc=none->tWalk J g (tTurn tt (tb acc)) { nx:=fun _ H'=>Q (.ref acc) H',rt:=fun _ _=>False } (blkSt σ n js) (upd H1 acc (.lst []))) (gName i)):=by
 intro pins s σ H D I h
 rw [exec_Assign_Name_used x pos' e pos0 hsw]
 subst he
 refine wpAny_bind (wpAny_standAt (wpAny_bind ?_))
 rw [arm_evalThenUse_ListComp]
 refine wpAny_bind ?_
 refine wpAny_comprehension_free (use:=some (assign (.Name x pos') X.env)) rfl hs (closure_is (B.frees I.ok)) B.kind B.hnames ?_
 refine thn (hi pins s σ H _ I h) fun v s1 h1=>thn h1 fun itv s2 h2=>?_
 obtain ⟨it,fp,tn,J,H2,e2,I2,T,st2,f2,w⟩:=h2
 subst e2
 refine wpAny_newObj_type (wpAny_newBlockEnv ?_)
 have I3:Inv X pins σ (upd H2 s2.heap.objs.size (.lst [])) { s2 with heap:=s2.heap.push { cls:=.type "list", data:=.seq ([]:List Value).toArray } }:=I2.lnew (t':=s2.toks) .nil (Nat.zero_le _)
 have lt2:∀b∈fp,b < s2.heap.objs.size:=fun b hb=>let ⟨_,e,_⟩:=T.obj _ _ st2 b hb;Heap.lt_size e
 have f3:∀b∈fp,FpOk X pins (upd H2 s2.heap.objs.size (.lst [])) b:=fun b hb=>⟨by rw [upd_ne (Nat.ne_of_lt (lt2 b hb))];exact (f2 b hb).1,(f2 b hb).2⟩
 have lt3:∀b∈fp,b < (s2.heap.push { cls:=.type "list", data:=.seq ([]:List Value).toArray }).objs.size:=fun b hb=>by rw [Heap.size_push];exact Nat.lt_succ_of_lt (lt2 b hb)
 have J4:=Inv.block B I3 f3 lt3
 have st4:tn 0 (pushCells ((s2.heap.push { cls:=.type "list", data:=.seq ([]:List Value).toArray }).push { cls:=.type "dict", data:=.dict #[] }) scope.names):=T.keep _ _ _ st2 fun b hb o e=>pushCells_keeps _ _ _ _ (Heap.get?_push_of_some _ (Heap.get?_push_of_some _ e))
 have f4:∀b∈fp,FpOk (blkCx X scope N { s2 with heap:=s2.heap.push { cls:=.type "list", data:=.seq ([]:List Value).toArray } } (upd H2 s2.heap.objs.size (.lst [])) fp) [] (upd H2 s2.heap.objs.size (.lst [])) b:=fun b hb=>
  ⟨(f3 b hb).1,Nat.ne_of_lt (lt3 b hb),J4.ok.exfs b hb,.inl hb,(J4.ok.exf b hb).2,fun p hp=>absurd hp (by simp [blkCx])⟩
 have go:=w s2.heap.objs.size I2.fresh
 refine codeAny_mono (comp_start (X:=blkCx X scope N { s2 with heap:=s2.heap.push { cls:=.type "list", data:=.seq ([]:List Value).toArray } } (upd H2 s2.heap.objs.size (.lst [])) fp) (e:=.ListComp elt (⟨tg,iter,ifs,0⟩::rest) scope pos) (d:=0) (acc:=.ref s2.heap.objs.size) (it:=it) (iter:=iter) (by rfl) (by rfl) (by rfl) (by rfl) T st4
  (comp_loop (X:=blkCx X scope N { s2 with heap:=s2.heap.push { cls:=.type "list", data:=.seq ([]:List Value).toArray } } (upd H2 s2.heap.objs.size (.lst [])) fp) (hturn it _ _) (by rfl) (by rfl) (by rfl) rfl hc T (hg _ _ _) (ht _ _ _) (hb _ _ _ _) J4 st4 f4 go)) fun r s' hr=>?_
 cases r with
 |error x=>exact False.elim hr
 |ok f=>
  obtain ⟨σ',H',J',q⟩:=hr
  obtain ⟨m,hn,_⟩:=id J'.loc
  have I5:Inv X pins σ H' s':=I3.unblock (h':=s'.heap) f3 J' ⟨rfl,fun _ _=>rfl⟩
  have lt0:s2.heap.objs.size < (s2.heap.push { cls:=.type "list", data:=.seq ([]:List Value).toArray }).objs.size:=by rw [Heap.size_push];exact Nat.lt_succ_self _
  have hC:H' (s2.heap.push { cls:=.type "list", data:=.seq ([]:List Value).toArray }).objs.size=none:=J'.free
  have cl:∀y c,X.env.cells.lookup y=some c->c≠(s2.heap.push { cls:=.type "list", data:=.seq ([]:List Value).toArray }).objs.size:=fun y c e=>by
   obtain ⟨v,o,ho,_⟩:=I3.cell y c e
   exact Nat.ne_of_lt (Heap.lt_size ho)
  have hL:(s2.heap.push { cls:=.type "list", data:=.seq ([]:List Value).toArray }).objs.size≠X.env.locals:=Nat.ne_of_gt I3.lt
  show wpAny _ _ (assign (.Name x pos') X.env (.ref s2.heap.objs.size)) _ _ _
  refine wpAny_assign_Name (store_ok2 I5 hN hix hx (v:=.ref s2.heap.objs.size) rfl (fun s6 I6 ⟨a,sb,ha⟩=>⟨m,ns_keep hn sb ?_,fun h' hs'=>?_⟩) hf)
  ·rcases ha with rfl | ha
   ·exact hL
   ·exact Ne.symm (cl _ _ ha)
  ·refine wpAny_pure (wpAny_pure ⟨_,H',I6.chg hC I3.sz hL cl (fun p hp=>?_) hs',q⟩)
   exact Nat.ne_of_lt (Heap.lt_size (I3.pin p hp).1)
end
end L2
namespace Y
open PySem L2
open Z (msk msk_in msk_out msk_le msk_app msk_upd msk_new msk_newc lim lim_lt lim_le)
section
variable {X:Cx}{elt tg iter:Expr}{ifs:List Expr}{scope:Scope}{pos pos' pos0:Pos}{fi:FI}{g:FG}{t:FT}{f:FE}{N:List Str}{n:Nat}{js:List Nat}{i:Nat}{x:Str}
theorem lcD_imp:∀σ H Q,tF X (lcD fi g t f n js) σ H Q->tLC (tFI X fi) (tGF X g) (tNT X.K t) (tN X.K f) n js σ H fun v=>Thw X (Q v):=fun σ H Q q=>by
  obtain ⟨ρ,S,m,Rr,W,q⟩:=q
  refine ⟨ρ,S,m,Rr,W,q.bind.imp fun w S1 q J H1 H' m' x1 t' w' io acc hacc=>?_⟩
  obtain ⟨ρf,S2,ef,q⟩:=(thaw_resE x1 t' q).bindN
  obtain ⟨w2,x2,ha⟩:=lc_start w' hacc
  have x3:Xt m H m' H':=x1.trans t'.x
  refine lc_walk rfl (io.ext x2) ha ((Rr.ext (x3.trans x2)).blk n js) w2 ef fun σ' H2 m2 x4 _ w4=>?_
  obtain ⟨l,rfl⟩:=x4.ex
  rw [List.append_assoc] at w4 x4
  cases er:endD S1 S2 with
  |ok z S3=>
   rw [er] at q
   obtain ⟨w5,r5⟩:=endD_ok w' w4 er
   exact q _ H2 m' (Xt.cut (x2.trans x4)) w5 r5
  |ex e S3=>unfold endD at er;split at er<;>(try split at er)<;>cases er
  |no=>rw [er] at q;exact q.elim
theorem qs_use {st:Stmt}{T:TE}{f:FE}(h:PS X st (tAsg T (gName i))) (him:∀σ H Q,tF X f σ H Q->T σ H fun v=>Thw X (Q v)):QS X st (sSet i f):=imS (ps_thaw h) fun D σ H q=>by
 obtain ⟨ρ,S,m,Rr,W,q⟩:=q
 exact him σ H (fun v H1=>D.nx (σ.set i (some v)) H1) ⟨ρ,S,m,Rr,W,q.bind.imp fun y S1 q v H' m' x' w r=>q _ H' m' x' ((Rr.ext x').set r) w⟩
theorem qs_lcD (hN:X.N.Nodup) (hix:X.N[i]?=some x) (hx:Loc X.env.scope x) (hc:X.calm=true) (B:BlkOk X scope N n js) (hi:QI X tg iter fi) (hg:∀s H fp,QG (blkCx X scope N s H fp) tg g) (ht:∀s H fp,QTs (blkCx X scope N s H fp) ifs t) (he:∀s H fp,QE (blkCx X scope N s H fp) elt f)
  (hs:∀x,foldedSetIterable iter X.env x=pure x:=by intro _;rfl) (hf:X.fn x=true∨X.env.scope.names.lookup x=some .local:=by first | exact .inl rfl | exact .inr rfl) (hsw:swapsWith (.ListComp elt [⟨tg,iter,ifs,0⟩] scope pos) (some (.Name x pos')) pos0.line X.env=pure true:=by rfl) :
  QS X (.Assign [.Name x pos'] (.ListComp elt [⟨tg,iter,ifs,0⟩] scope pos) pos0) (sSet i (lcD fi g t f n js)):=
 qs_use (lc_use (bd:=fun acc env=>do let _ <-call (.builtin "list.append") [.ref acc,<-eval elt env]) rfl hc hi B (fun _ _ _=>by rfl) hg (fun s H fp=>(ht s H fp).n) (fun s H fp acc=>pb_emit (he s H fp).n) hs hN hix hx hf hsw) lcD_imp
end
end Y
namespace Y
open PySem L2
theorem scm {N P:List Str}{sc:Scope}(h1:sc.kind=.function:=by rfl) (h2:sc.isCoroutine=false:=by rfl) (h3:sc.isGenerator=false:=by rfl) (h4:N.Nodup:=by decide +kernel) (h5:N.take P.length=P:=by rfl)
  (h6:∀x∈P,sc.names.lookup x=some .local∨sc.names.lookup x=some .cell:=by decide +kernel) (h7:∀y∈sc.names,y.2≠.free:=by decide +kernel):FnScope N P sc:=⟨h1,h2,h3,h4,h5,h6,h7⟩
theorem bd {K:PySem.W.Frag}{x qual:Str}{st:Stmt}{f:Addr}{fd:FuncData}{ps:List Str}(F:Fun K x qual st f fd)
  (h:∀(kV doc pm:Value) (an:Option Addr) (cdv ct:Value) (us:List Value),us.length=ps.length->bindArgs (PySem.W.fnOf x qual (defArgs st) (defBody st) (defScope st) .none kV doc pm an cdv ct) ⟨us,[]⟩=pure (ps.zip us):=by
   intro _ _ _ _ _ _ us hl
   rcases us with _ | ⟨_,_ | ⟨_,_ | ⟨_,_ | ⟨_,_ | ⟨_,_⟩⟩⟩⟩⟩<;>first | (cases hl;done) | rfl):Binds K fd ps []:=F.binds h
theorem bind1 {K:PySem.W.Frag}{x qual:Str}{st:Stmt}{f:Addr}{fd:FuncData}{p:Str}(F:Fun K x qual st f fd) (s:Shared) (u:Value)
  (h:∀(kV doc pm:Value) (an:Option Addr) (cdv ct:Value),bindArgs (PySem.W.fnOf x qual (defArgs st) (defBody st) (defScope st) .none kV doc pm an cdv ct) ⟨[u],[]⟩=pure [(p,u)]:=by intro _ _ _ _ _ _;rfl):BindsTo s fd ⟨[u],[]⟩ [(p,u)]:=by
 obtain ⟨oc,od,kV,doc,pm,an,cdv,ct,osl,rfl,lk,hcd⟩:=F.ex
 exact .of_eq (h ..)
end Y
namespace L2
open PySem PySem.Spec PyProof.Rows
open PySem.W (nsOkIn nsIn)
theorem tailN_of {K:PySem.W.Frag}{h:Heap}{ns:List Str}{bmB:List Value}(X:K.In h):∀{l:List Value},tailNIn K ns bmB l=true->XE.TailN ns h bmB l
 |[],e=>by rw [<-beq_iff_eq.mp e];exact .base
 |v::r,e=>by
  unfold tailNIn at e
  rcases Bool.or_eq_true_iff.mp e with q | q
  ·rw [beq_iff_eq.mp q];exact .base
  ·split at q
   ·split at q
    ·rename_i ho
     simp only [Bool.and_eq_true] at q
     exact .own (X _ _ ho) (.of_isNs (PySem.W.isNs_of_in X q.1.1)) (fun n hn=>PySem.W.nsMap_none_of_in X q.1.1 (beq_iff_eq.mp (List.all_eq_true.mp q.1.2 n hn))) (tailN_of X q.2)
    ·cases q
   ·cases q
theorem ns_at {K:PySem.W.Frag}{h:Heap}{N:Addr}{n:Str}{v:Option Value}(X:K.In h) (hok:nsOkIn K N=true) (e:nsIn K N n=some v):h.nsMap N n=v:=by
 cases v with
 |none=>exact PySem.W.nsMap_none_of_in X hok e
 |some u=>
  obtain ⟨o,es,ep,ho,hd,_,hf⟩:=Heap.Ns.of_isNs (PySem.W.isNs_of_in X hok)
  unfold nsIn at e
  split at e
  ·rename_i c d es' n' sl q
   have:=X _ _ q
   rw [ho] at this
   cases this
   cases hd
   split at e
   ·rename_i en he
    cases e
    rw [<-hf]
    unfold nsFind findBy
    rw [<-Array.find?_toList,he]
    rfl
   ·split at e<;>cases e
  ·cases e
theorem xcl_of {K:PySem.W.Frag}{C:Addr}{ns:List Str}{ini:Option Addr}(q:xclB K C ns ini=true):XCl K C ns ini:=by
 unfold xclB at q
 rw [Bool.and_eq_true] at q
 obtain ⟨kp,q⟩:=q
 refine ⟨kp,?_⟩
 split at q
 ·rename_i dd cd sl ho
  split at q
  ·rename_i C' bm k0 k1 k2 k3 n k5 hm hs
   simp only [Bool.and_eq_true,beq_iff_eq,Bool.not_eq_true'] at q
   obtain ⟨⟨⟨⟨⟨⟨⟨rfl,rfl⟩,hdel⟩,hdic⟩,ht⟩,hok⟩,hno⟩,hni⟩:=q
   obtain ⟨nm,bs,mro,N,qn,hd,sn,sub,ab,col,del⟩:=cd
   dsimp only at hm hdel hdic hok hno hni
   subst hm hdel hdic
   have hsl:sl=#[k0,k1,k2,k3,some (.builtin "ValueError.__new__"),k5]:=by
    obtain ⟨l⟩:=sl
    simp only at hs
    rw [hs]
   subst hsl
   exact ⟨nm,qn,N,bs,bm,sn,sub,ab,col,dd,k0,k1,k2,k3,k5,ho,fun h X=>⟨⟨_,.of_isNs (PySem.W.isNs_of_in X hok),fun m hm=>PySem.W.nsMap_none_of_in X hok (beq_iff_eq.mp (List.all_eq_true.mp hno m hm)),ns_at X hok hni⟩,tailN_of X ht⟩⟩
  ·cases q
 ·cases q
theorem xsub_of {K:PySem.W.Frag}{C D:Addr}(q:xsubB K C D=true):XSub K C D:=fun nm qn N bs bm sn sub ab col dd k0 k1 k2 k3 k5 lk=>by
 unfold xsubB at q
 rw [lk] at q
 exact q
end L2
namespace Y
open PySem L2 PyProof.Rows
open Z (msk lim lim_lt lim_le)
theorem hu60H {A:Around}{k:Nat}(hr:RoomH k A):A.units+60 < cLine:=by have:=hr.un;omega
section
variable {X:Cx}{a b:Expr}{f g:FE}{pos:Pos}
theorem qt_neH {k:Nat}(hr:RoomH k X.A) (ha:QE X a f) (hb:QE X b g):QT X (.Compare a [.NotEq] [b] pos) (tst (bin (oEq true) f g)):=qt_cmp (op_neD (hu60H hr)) fit_eq ha hb (nomark _)
theorem qe_itemH {k:Nat}(hr:RoomH k X.A) (ha:QE X a f) (hb:QE X b g) (hs:PlainIx b):QE X (.Subscript a b pos) (bin oIx f g):=qe_ix (ix_all (by have:=hr.un;omega)) fit_ix ha hb hs
end
end Y
namespace XE
open PySem PySem.Builtin PySem.Builtin.ObjectAttr
theorem TailN.sub {ns ns':List Str}{h:Heap}{bmB tl:List Value}(T:TailN ns h bmB tl) (k:∀n∈ns',n∈ns):TailN ns' h bmB tl:=by
 induction T with
 |base=>exact .base
 |own a b c _ ih=>exact .own a b (fun n hn=>c n (k n hn)) ih
theorem lk_class:typeLookup (.type "ValueError") "__class__" = pure (some (.builtin "object.__class__")):=by rw [typeLookup_type,builtinLookup_eq_fast];kernel_rfl
section
variable {prog:Program}{w:World}{A:Around}{E:Value->Shared->Prop}{h:Heap}{g:Array GenState}{d:Drawn}{t:Nat}{os:OsState}{ns:List Str}
variable {nm q:Str}{C N x:Addr}{bs bm bmB:List Value}{sn:List Str}{sub:List Value}{ab:Bool}{col:Option Bool}{dd:Option Addr}{k0 k1 k2 k3 k5:Option Value}{B newId:String}
 {mN:Str->Option Value}{o:Obj}
theorem class_attr {Q:Option Value->Shared->Prop}(FB:ExcAttrBase B bmB) (T:TailN ns h bmB bm) (hin:("__class__" : Str)∈ns) (h1:("__getattribute__" : Str)∈ns) (h2:("__getattr__" : Str)∈ns) (hob:bmB.contains (.type "object")=true)
  (hC:h.get? C=some (excClassObj nm q C N bs bm true sn sub ab col dd k0 k1 k2 k3 k5 newId)) (hN:h.Ns N mN) (hno:∀n∈ns,mN n=none) (hB:typeLookup (.type B) "__class__" = pure (some (.builtin "object.__class__")))
  (hx:h.get? x=some o) (hc:o.cls=.ref C) (hq:Q (some (.ref C)) ⟨h,g,d,t+1,os⟩):wpAny (model prog w) A (getAttr? (.ref x) "__class__") Q E ⟨h,g,d,t,os⟩:=by
 have get:∀{A:Around}{R:Result->Shared->Prop}{t:Nat},R (.ok (.ret (.ref C))) ⟨h,g,d,t,os⟩->codeAny (model prog w) A (.call (.builtin "getset_descriptor.__get__") ⟨[.builtin "object.__class__", .ref x,.ref C],[]⟩) R ⟨h,g,d,t,os⟩:=by
  intro A R t hq
  have hT5:(⟨h,g,d,t,os⟩:Shared).TypeIs (.builtin "object.__class__") "getset_descriptor" := F.typeOf_object_class
  have hcB:(Value.ref C::bm).contains (.type (".".intercalate ("object.__class__".cutAt '.').dropLast))=true:=by
   rw [F.owner_object_class,List.contains_cons,T.hasType hob];rfl
  refine codeAny_call_builtin F.slot_gs_get.plain F.entry_gs_get (F.slot_gs_get.check _ _ _ _ _ _ _ _ hT5 (F.args_gs_get _ _ _) ?_)
  repeat (any_goals (first | assumption | (with_reducible refine wpAny_loadPart_at hx ?_;rw [hc]) | (with_reducible refine wpAny_isSubtype_exc hC ?_;rw [hcB]) | wp_step))
  refine ⟨Code.quiet_builtin _ (by decide +kernel),codeAny_builtin F.entry_object_class ?_⟩
  repeat (any_goals (first | assumption | (with_reducible refine wpAny_loadPart_at hx ?_;rw [hc]) | wp_step))
 have entry:∀{A:Around}{tk:Tok}{Q:PySem.Fin->Shared->Prop}{E:Value->Shared->Prop}{t:Nat},Q (.done (.ret (.ref C))) ⟨h,g,d,t,os⟩->wpAny (model prog w) A (Builtin.«object.__getattribute__» ⟨[.ref x,.str "__class__" tk],[]⟩) Q E ⟨h,g,d,t,os⟩:=by
  intro A tk Q E t hq
  have hT5:(⟨h,g,d,t,os⟩:Shared).TypeIs (.builtin "object.__class__") "getset_descriptor" := F.typeOf_object_class
  have f5:=F.typeOf_object_class
  have f6:=F.slot_gs_get.lookup
  have f7:=F.slot_gs_set.lookup
  repeat (any_goals (first | assumption | (with_reducible refine wpAny_loadPart_at hx ?_;rw [hc]) | with_reducible refine typeLookup_tailN hin hC hN (hno _ hin) T FB.mro hB ?_ | wp_step))
  refine get ?_
  repeat (any_goals (first | assumption | wp_step))
 have by_:∀{A:Around}{tk:Tok}{fill expr:Bool}{Q:Value->Shared->Prop}{E:Value->Shared->Prop}{t:Nat},Q (.ref C) ⟨h,g,d,t,os⟩->wpAny (model prog w) A (getAttrBy (.ref x) (.str "__class__" tk) fill expr) Q E ⟨h,g,d,t,os⟩:=by
  intro A tk fill expr Q E t hq
  have f3:=FB.ga.bind (.ref x)
  have hx0:(expr&&onTheHeap (Value.builtin "BaseException.__getattribute__"))=false:=by cases expr<;>rfl
  have hx2:(Value.builtin "BaseException.__getattribute__" == Value.builtin "object.__getattribute__")=false:=by decide +kernel
  have hx1:(onTheHeap (Value.ref C)&&Value.builtin "BaseException.__getattribute__" == Value.builtin "object.__getattribute__")=false:=by rw [hx2];rfl
  repeat (any_goals (first | assumption | (with_reducible refine wpAny_loadPart_at hx ?_;rw [hc]) | with_reducible refine typeLookup_tailN h1 hC hN (hno _ h1) T FB.mro FB.ga.lookup ?_ | with_reducible refine typeLookup_tailN h2 hC hN (hno _ h2) T FB.mro FB.noGetattr ?_ | wp_step))
  refine codeAny_call_builtin FB.ga.plain F.entry_bexc_ga (check_ga FB hC T hx hc (entry ?_))
  repeat (any_goals (first | assumption | wp_step))
 unfold getAttr? getAttrBy?
 repeat (any_goals (first | assumption | with_reducible apply by_ | wp_step))
end
end XE
namespace L2
open PySem PySem.Spec PyProof.Rows
noncomputable def ExAt (x C:Addr) (h:Heap):Prop:=∃o vs,h.get? x=some o/\o.cls=.ref C/\o.data=.fields vs
theorem kitx_exc {K:PySem.W.Frag}{C x:Addr}{ns:List Str}{ini:Option Addr}(c:XCl K C ns ini) (hin:("__class__" : Str)∈ns) (h1:("__getattribute__" : Str)∈ns) (h2:("__getattr__" : Str)∈ns):PySem.W.KitX K (.ref x) (.ref C) (ExAt x C) where
 ty:=fun M h _ p=>by
  obtain ⟨o,vs,e1,e2,_⟩:=p
  exact e2▸(PySem.W.Looks.ld e1).andThen .now
 it:=fun M h X _=>by
  obtain ⟨nm,qn,N,bs,bm,sn,sub,ab,col,dd,k0,k1,k2,k3,k5,lk,fr⟩:=c.cl
  intro A' Q' E' s' k q
  unfold isType loadHead
  exact wpAny_bind (wpAny_loadPart (k _ _ (X _ _ lk)) (wpAny_pure q))
 ne:=fun h tp dd its n sl X htp=>by
  obtain ⟨nm,qn,N,bs,bm,sn,sub,ab,col,dd,k0,k1,k2,k3,k5,lk,fr⟩:=c.cl
  refine Bool.eq_false_iff.mpr fun q=>?_
  have e:C=tp:=Value.ref.inj (beq_iff_eq.mp q)
  subst e
  have z:=congrArg Obj.data (Option.some.inj ((X _ _ lk).symm.trans htp))
  exact absurd z (fun z=>by simp [excClassObj] at z)
 ca:=fun {prog w A E Q s} X p k=>by
  obtain ⟨nm,qn,N,bs,bm,sn,sub,ab,col,dd,k0,k1,k2,k3,k5,lk,fr⟩:=c.cl
  obtain ⟨⟨mN,hN,hno,_⟩,T⟩:=fr _ X
  obtain ⟨o,vs,e1,e2,_⟩:=p
  obtain ⟨hp,gn,dr,tk,os⟩:=s
  refine XE.class_attr F.attrBase_ValueError (ns:=ns) ?_ hin h1 h2 (by decide +kernel) (X _ _ lk) hN hno XE.lk_class e1 e2 k
  exact T.sub fun n hn=>List.mem_cons_of_mem _ hn
end L2
namespace XE
open PySem
theorem call_plain {prog:Program}{w:World}{A:Around}{E:Value->Shared->Prop}{h:Heap}{g:Array GenState}{d:Drawn}{t:Nat}{os:OsState}{nm q:Str}{C N:Addr}{bs bm bmB:List Value}{hdct:Bool}{sn:List Str}{sub:List Value}{ab:Bool}{col:Option Bool}{dd:Option Addr}{k0 k1 k2 k3 k5:Option Value}{B Bn newId nid initId inN:String}{bmN:List Value}
  (Fn:ExcBaseFacts Bn newId inN bmN) (hBn:bmB.contains (.type Bn)=true) (F:ExcBaseFacts B nid initId bmB) (T:OwnTail h bmB bm) {mN:Str->Option Value}{us:List Value}{Q:Value->Shared->Prop}
  (hC:h.get? C=some (excClassObj nm q C N bs bm hdct sn sub ab col dd k0 k1 k2 k3 k5 newId)) (hN:h.Ns N mN) (hi:mN "__init__" = none) (hl:us.length<=sizeLine)
  (hq:∀h',Heap.MadeExcOf h h' (h.objs.size+1) (.ref C) us->Q (.ref (h.objs.size+1)) ⟨h',g,d,t,os⟩):wpAny (model prog w) A (call (.ref C) us) Q E ⟨h,g,d,t,os⟩:=by
 have f1:=tc_lookup
 have f2:=tc_bind (.ref C)
 have ty:(⟨h,g,d,t,os⟩:Shared).TypeIs (.ref C) "type" := ⟨_,hC,rfl⟩
 refine wpAny_call (codeAny_of_tree ?_)
 show wpAny _ _ (callAny (.ref C) _) _ _ _
 repeat (any_goals (first | assumption | wp_step | with_reducible refine wpAny_loadPart_at hC ?_))
 refine ⟨rfl,codeAny_call_builtin_at (Code.quiet_builtin _ (by decide +kernel)) entry_typeCall (wpAny_check_type_call_sub hC ?_)⟩
 repeat (first | wp_step | with_reducible refine wpAny_loadPart_at hC ?_ | with_reducible refine wpAny_madeBy_exc hC ?_)
 refine codeAny_call_builtin_code (Code.quiet_builtin _ Fn.quiet) (wpAny_check_new_subU Fn hBn T hC (codeAny_exc_new_subU Fn hBn F T hC ?_ hl))
 show wpAny _ _ _ _ _ _
 have keep:∀(u v:Obj) b o,h.get? b=some o->((h.push u).push v).get? b=some o:=fun u v b o e=>Heap.get?_push_of_some v (Heap.get?_push_of_some u e)
 have at1:((h.push { cls:=.type "tuple", data:=.seq us.toArray }).push { cls:=.ref C,data:=.fields #[.ref h.objs.size,.none,.none,.none,.bool false,.none] }).get? (h.objs.size+1)=some { cls:=.ref C,data:=.fields #[.ref h.objs.size,.none,.none,.none,.bool false,.none] }:=by heap_get
 have own:(Value.ref C::bm).contains (.ref C)=true:=List.contains_iff_mem.mpr List.mem_cons_self
 have C1:=keep { cls:=.type "tuple", data:=.seq us.toArray } { cls:=.ref C,data:=.fields #[.ref h.objs.size,.none,.none,.none,.bool false,.none] } _ _ hC
 have N1:=hN.keeps (keep { cls:=.type "tuple", data:=.seq us.toArray } { cls:=.ref C,data:=.fields #[.ref h.objs.size,.none,.none,.none,.bool false,.none] })
 have T1:=T.keeps (keep { cls:=.type "tuple", data:=.seq us.toArray } { cls:=.ref C,data:=.fields #[.ref h.objs.size,.none,.none,.none,.bool false,.none] })
 unfold isInstance
 repeat (first | with_reducible refine wpAny_loadPart_at at1 ?_ | wp_step)
 show wpAny _ _ (isSubtype (.ref C) (.ref C)) _ _ _
 refine wpAny_isSubtype_exc C1 ?_
 rw [own]
 repeat (first | with_reducible refine wpAny_loadPart_at at1 ?_ | wp_step)
 show wpAny _ _ (typeLookup (.ref C) _) _ _ _
 refine wpAny_typeLookup_tail C1 N1 T1 F.mroIs F.init.lookup ?_
 rw [hi]
 refine wpAny_holding (wpAny_bind (wpAny_of_eq (F.init.bind _) (wpAny_bind (wpAny_call (codeAny_call_builtin F.init.plain F.initEntry (wpAny_check_init_subU F T1 C1 at1 rfl ?_))))))
 wp_walk
 refine hq _ ⟨fun b o hb=>?_,Heap.get?_none_of_le (Nat.le_succ _),h.objs.size+2,?_,Heap.get?_none_of_le (by omega),?_⟩
 ·rw [Heap.get?_update_other _ _ (Nat.ne_of_gt (Nat.lt_succ_of_lt (Heap.lt_size hb)))]
  exact Heap.get?_push_of_some _ (keep _ _ _ _ hb)
 ·rw [Heap.get?_update_self _ (Heap.get?_push_of_some _ at1) rfl]
  simp only [Heap.size_push]
  rfl
 ·rw [Heap.get?_update_other _ _ (show h.objs.size+1≠h.objs.size+2 by omega)]
  exact Heap.get?_push_at (by simp only [Heap.size_push]) rfl
end XE
namespace L2
open PySem PySem.Spec PyProof.Rows
noncomputable def tTxt (c:Str->Prop) (t:TE):TE:=fun σ H Q=>t σ H fun v H1=>∃x,v=.str x/\c x/\∀z,Q (.str z) H1
theorem le_line {n:Nat}(h:n<=3000):n<=sizeLine:=Nat.le_trans h (by decide)
section
variable {X:Cx}{C:Addr}{x:Str}{p pos:Pos}{e:Expr}{es:List Expr}{t:TA}{ns:List Str}
noncomputable def tExc0 (X:Cx) (C:Addr) (t:TA):TE:=fun σ H Q=>t σ H fun vs H1=>vs.length<=100/\∀a,H1 a=none->X.s₀.heap.objs.size<=a->(∀p∈X.pn,p.1≠a)->Q (.ref a) (upd H1 a (.ext (XO a C none)))
theorem pe_exc0 (c:XCl X.K C ns none) (hg:Gl X x) (hm:X.mg x=some (.ref C))
  (ha:PA X (e::es) t) (hdb:(x==("__debug__" : Str))=false:=by decide) (he:starEach (e::es) X.env=(false,eval e X.env)::starEach es X.env:=by rfl) (hpl:(backTo pos (starEach es X.env)).any (·.1)=false:=by rfl) :
  PE X (.Call (.Name x p) (e::es) [] pos) (tExc0 X C t):=by
 intro pins s σ H Q I h
 refine wpAny_Call_Name_kw (ld_glob I hg hm ?_ hdb)
 refine PySem.W.callWith_K (h₀:=X.base) I.ok.mod.kin c.kp (thn (ha pos pins s σ H _ I h) fun us s1 ⟨vs,H1,I1,r,hz,q⟩=>⟨I1.kIn,?_⟩) he hpl
 obtain ⟨nm,qn,N,bs,bm,sn,sub,ab,col,dd,k0,k1,k2,k3,k5,lk,fr⟩:=c.cl
 obtain ⟨⟨mN,hN,hno,hin⟩,T⟩:=fr _ I1.kIn
 obtain ⟨hp,gn,dr,tk,os⟩:=s1
 refine XE.call_plain F.excBase_ValueError (by decide +kernel) F.excBase_ValueError (T.tail (by simp)) (I1.kIn _ _ lk) hN hin (by show us.length<=sizeLine;rw [<-r.length];exact Nat.le_trans hz (by decide)) fun h' hm'=>?_
 obtain ⟨t0,ho,_,_⟩:=hm'.there
 have fresh:H1 (hp.objs.size+1)=none:=I1.hok.fresh (Nat.le_succ _)
 have I2:Inv X pins σ H1 ⟨h',gn,dr,tk,os⟩:=I1.kept (t':=tk) hm'.keeps
 have up:∀b,b < hp.objs.size->b≠hp.objs.size+1:=fun b hb z=>by rw [z] at hb;exact absurd hb (Nat.not_lt.mpr (Nat.le_succ _))
 have I3:Inv X pins σ (upd H1 (hp.objs.size+1) (.ext (XO (hp.objs.size+1) C none))) ⟨h',gn,dr,tk,os⟩:=by
  refine I2.track fresh ⟨.inr (Nat.le_trans I1.sz (Nat.le_succ _)),(up _ I1.lt).symm,fun x c e=>?_,fun p hp'=>?_⟩ (xo_ok ⟨_,_,ho,rfl,rfl⟩)
  ·obtain ⟨v,q⟩:=I1.cell x c e
   exact up _ q.lt
  ·exact up _ (Heap.lt_size (I1.pin p hp').1)
 exact ⟨.ref (hp.objs.size+1),_,I3,rfl,q _ fresh (Nat.le_trans I1.sz (Nat.le_succ _)) fun p hp'=>up _ (Heap.lt_size (I1.pin p (List.mem_append_left _ hp')).1)⟩
end
end L2
namespace Y
open PySem L2
open Z (msk msk_in msk_out msk_le msk_app msk_upd msk_new msk_newc lim lim_lt lim_le)
noncomputable def oIsX (ks:List Addr) (isD:Addr->Bool):O1:=fun x S=>match x with
 |.p k=>match S[k]? with
  |some (.exc C _)=>if C∈ks then .ok (.d (.bl (isD C))) S else .no
  |_=>.no
 |_=>.no
noncomputable def rIsX (K:PySem.W.Frag):List V->Hp->VK->Prop:=fun xs H Q=>∃a oe u vs C ns ini c b y,xs=[.ref a,y]/\(∀u,RelV y u->u=c)/\H a=some (.frz oe u)/\oe.cls=.ref C/\oe.data=.fields vs/\XCl K C ns ini/\(("__class__" : Str)∈ns/\("__getattribute__" : Str)∈ns/\("__getattr__" : Str)∈ns)/\PySem.W.kitOne K (.ref C) c=some b/\Q (.bl b) H
section
variable {X:Cx}{a:Expr}{f:FE}{pos p1 p2:Pos}{c:Str}{ks:List Addr}{isD:Addr->Bool}
theorem call_isX:CallR X (.builtin "isinstance") (rIsX X.K):=by
 intro pins s σ H xs us Q I r h
 obtain ⟨a,oe,u,vs,C,ns,ini,c,b,y,rfl,hu,ha,hc,hd,xc,⟨h1,h2,h3⟩,e,q⟩:=h
 obtain ⟨u1,u2,rfl,ru,rw'⟩:=vals2 r
 cases hu _ rw'
 cases ru
 have ho:=(show ObjOk X.prog X.w H s.heap a (.frz oe u) from I.hok a _ ha).1
 exact PySem.W.kia_one (kitx_exc xc h1 h2 h3) I.kIn ⟨oe,vs,ho,hc,hd⟩ e (fun z=>nomatch z) fun tk=>⟨.bl b,H,I.tok _,rfl,q⟩
noncomputable def Isi (K:PySem.W.Frag) (ks:List Addr) (c:Value) (isD:Addr->Bool):Prop:=∀C∈ks,(∃ns ini,XCl K C ns ini/\(("__class__" : Str)∈ns/\("__getattribute__" : Str)∈ns/\("__getattr__" : Str)∈ns))/\PySem.W.kitOne K (.ref C) c=some (isD C)
theorem isX_of {cv:Value}{y:V}{ty:TE}(hI:Isi X.K ks cv isD) (hy:∀u,RelV y u->u=cv) (hty:∀σ H Q,Q y H->ty σ H Q):∀σ H Q,tF X (un (oIsX ks isD) f) σ H Q->tCB (rIsX X.K) (tCons (tF X f) (tCons ty tNil)) σ H Q:=fun σ H Q q=>by
 obtain ⟨ρ,S,m,Rr,W,q⟩:=q
 refine ⟨ρ,S,m,Rr,W,q.bind.imp fun x S1 q v H1 m1 x1 w1 r1=>hty _ _ _ ?_⟩
 unfold oIsX at q
 split at q
 ·rename_i k
  obtain ⟨l,hl,rfl⟩:=RA.p_iff.mp r1
  split at q
  ·rename_i C fs hc
   split at q
   ·rename_i hk
    obtain ⟨oe,u,vs,e1,⟨e2,e3,_⟩,_⟩:=w1.cell k l _ hl hc
    obtain ⟨⟨ns,ini,xc,hns⟩,hkit⟩:=hI C hk
    exact ⟨l,oe,u,vs,C,ns,ini,cv,_,y,rfl,hy,e1,e2,e3,xc,hns,hkit,q _ H1 m1 x1 w1 bl_rep⟩
   ·exact q.elim
  ·exact q.elim
 ·exact q.elim
theorem qe_isX {D:Addr}(hI:Isi X.K ks (.ref D) isD) (hg:Gl X "isinstance") (hm:X.mg "isinstance" = none) (hgc:Gl X c) (hmc:X.mg c=some (.ref D)) (ha:QE X a f) (hs:noStar a=true:=by rfl) (hd:(c==("__debug__" : Str))=false:=by decide)
  (h1:starEach [a,.Name c p2] X.env=(false,eval a X.env)::starEach [.Name c p2] X.env:=by rfl) (h2:(backTo pos (starEach [.Name c p2] X.env)).any (·.1)=false:=by rfl):QE X (.Call (.Name "isinstance" p1) [a,.Name c p2] [] pos) (un (oIsX ks isD) f):=
 imE (pe_callB call_isX hg hm bt_isinstance (pac ha (pac (pe_glob (v:=.ref D) hgc hmc rfl hd) pa_nil rfl) hs) (by decide) (by decide) h1 h2) (isX_of (y:=.ref D) hI (fun u z=>z) fun σ H Q q=>q)
theorem qe_isT {T:String}(hI:Isi X.K ks (.type T) isD) (hg:Gl X "isinstance") (hm:X.mg "isinstance" = none) (hgc:Gl X c) (hmc:X.mg c=none) (hb:bootBuiltins c=some (.type T)) (ha:QE X a f) (hs:noStar a=true:=by rfl) (hn:c ≠ "__name__" := by decide) (hd:(c==("__debug__" : Str))=false:=by decide)
  (h1:starEach [a,.Name c p2] X.env=(false,eval a X.env)::starEach [.Name c p2] X.env:=by rfl) (h2:(backTo pos (starEach [.Name c p2] X.env)).any (·.1)=false:=by rfl):QE X (.Call (.Name "isinstance" p1) [a,.Name c p2] [] pos) (un (oIsX ks isD) f):=
 imE (pe_callB call_isX hg hm bt_isinstance (pac ha (pac (pe_bltn (v:=.ty T) hgc hmc hb rfl hn hd) pa_nil rfl) hs) (by decide) (by decide) h1 h2) (isX_of (y:=.ty T) hI (fun u z=>z) fun σ H Q q=>q)
end
section
variable {X:Cx}{C g:Addr}{k:Nat}{fd:FuncData}{ps:List Str}{x n n2:Str}{p pos:Pos}{e:Expr}{es:List Expr}{f:FE}{fa:FA}{ns:List Str}
noncomputable def sRaise0 (C:Addr) (c:Str->Bool) (f:FE):FS:=fun ρ S=>(f ρ S).bind fun y S=>match y with
 |.d (.str z)=>if c z=true then .ex ⟨C,[]⟩ S else .no
 |_=>.no
theorem raise0_of {c:Str->Bool}{cc:Str->Prop}(hc:∀z,c z=true->cc z):∀De σ H,tSF X (sRaise0 C c f) De σ H->tRaise X C (tExc0 X C (tCons (tTxt cc (tF X f)) tNil)) De σ H:=by
 rintro De σ H ⟨ρ,S,m,Rr,W,q⟩
 refine ⟨ρ,S,m,Rr,W,q.bind.imp fun y S1 q v H1 m1 x1 w1 r1=>?_⟩
 split at q
 ·rename_i z
  split at q
  ·rename_i hz
   cases rep_str r1
   refine ⟨z,rfl,hc z hz,fun z2=>⟨by show 1<=100;decide,fun a ha hy hpn=>⟨a,none,rfl,hy,hpn,upd_same,?_⟩⟩⟩
   have e:del (upd H1 a (.ext (XO a C none))) a=H1:=by
    funext b
    by_cases zb:b=a
    ·rw [zb,del_same,ha]
    ·rw [del_ne zb,upd_ne zb]
   rw [e]
   exact q _ _ _ m1 x1 w1 ⟨rfl,.inl ⟨rfl,rfl⟩⟩
  ·exact q.elim
 ·exact q.elim
section
open PySem.Spec in
variable {j:Nat}{t:Str}{p1 p2 p3 pos':Pos}
end
end
end Y
namespace Y
open PySem L2 PySem.Spec PyProof.Rows
open Z (lim lim_le)
noncomputable def oSw:OM:=fun x xs S=>match x,xs with
 |.d (.str z),[.d (.str y)]=>.ok (.d (.bl (Txt.startswith z y))) S
 |_,_=>.no
noncomputable def oZf:OM:=fun x xs S=>match x,xs with
 |.d (.str z),[.d (.int i)]=>if PadOk i=true then .ok (.d (.str (Txt.zfill z i))) S else .no
 |_,_=>.no
noncomputable def oSix:OM:=fun x xs S=>match x,xs with
 |.d (.str z),[.d (.str y)]=>match Builtin.Str.occurrences z y 0 z.length 1 with
  |i::_=>.ok (.d (.int (i:Nat))) S
  |[]=>.no
 |_,_=>.no
noncomputable def oMulS:O2:=fun x y S=>match x,y with
 |.d (.str z),.d (.int n)=>if z.length=1/\0<=n/\n<=1000 then .ok (.d (.str ⟨(List.replicate n.toNat z.cps).foldl (·++·) #[]⟩)) S else .no
 |_,_=>.no
noncomputable def oStr (xs:List A) (S:Sto):R A:=match xs with
 |[.d (.int i)]=>if Nat.log2 i.natAbs < 1920 then .ok (.d (.str (toString i))) S else .no
 |_=>.no
noncomputable def oIntS (xs:List A) (S:Sto):R A:=match xs with
 |[.d (.str z)]=>match intText? z with
  |some n=>if z.length<=640 then .ok (.d (.int n)) S else .no
  |none=>.no
 |_=>.no
noncomputable def rSw:V->List V->Hp->VK->Prop:=fun x xs H Q=>∃z y,x=.str z/\xs=[.str y]/\Q (.bl (Txt.startswith z y)) H
noncomputable def rZf:V->List V->Hp->VK->Prop:=fun x xs H Q=>∃z i,x=.str z/\xs=[.int i]/\PadOk i=true/\Q (.str (Txt.zfill z i)) H
noncomputable def rSix:V->List V->Hp->VK->Prop:=fun x xs H Q=>∃z y i rest,x=.str z/\xs=[.str y]/\Builtin.Str.occurrences z y 0 z.length 1=i::rest/\Q (.int (i:Nat)) H
noncomputable def rMulS:R2:=fun x y H Q=>∃z n,x=.str z/\y=.int n/\(z.length=1/\0<=n/\n<=1000)/\Q (.str ⟨(List.replicate n.toNat z.cps).foldl (·++·) #[]⟩) H
section
variable {X:Cx}{o e a b:Expr}{es:List Expr}{f g:FE}{fa:FA}{pos p apos cpos:Pos}
theorem mt_sw:MtR X "str.startswith" rSw:=by
 rintro pins s σ H x xs v us Q I rx rs ⟨z,y,rfl,rfl,q⟩
 obtain ⟨t,rfl⟩:=rx
 obtain ⟨u,rfl,t2,rfl⟩:=vals1 rs
 exact SC.startswith ⟨.bl _,H,I,rfl,q⟩
theorem mt_zf:MtR X "str.zfill" rZf:=by
 rintro pins s σ H x xs v us Q I rx rs ⟨z,y,rfl,rfl,hp,q⟩
 obtain ⟨t,rfl⟩:=rx
 obtain ⟨u,rfl,t2,rfl⟩:=vals1 rs
 exact SC.zfill hp fun t' k=>⟨.str _,H,I.tok k,⟨t',rfl⟩,q⟩
theorem mt_six:MtR X "str.index" rSix:=by
 rintro pins s σ H x xs v us Q I rx rs ⟨z,y,i,rest,rfl,rfl,ho,q⟩
 obtain ⟨t,rfl⟩:=rx
 obtain ⟨u,rfl,t2,rfl⟩:=vals1 rs
 exact SC.index ho ⟨.int _,H,I.tok _,⟨_,rfl⟩,q⟩
theorem fit_sw:FitM X "str" rSw oSw:=fun w r1 r2 q=>by
 unfold oSw at q
 split at q
 ·cases rep_str r1
  obtain ⟨u,rfl,r⟩:=one_of r2
  cases rep_str r
  exact ⟨_,_,rfl,rfl,q _ _ _ Xt.refl w bl_rep⟩
 ·exact q.elim
theorem fit_zf:FitM X "str" rZf oZf:=fun w r1 r2 q=>by
 unfold oZf at q
 split at q
 ·split at q
  ·rename_i hp
   cases rep_str r1
   obtain ⟨u,rfl,r⟩:=one_of r2
   cases rep_int r
   exact ⟨_,_,rfl,rfl,hp,q _ _ _ Xt.refl w str_rep⟩
  ·exact q.elim
 ·exact q.elim
theorem fit_six:FitM X "str" rSix oSix:=fun w r1 r2 q=>by
 unfold oSix at q
 split at q
 ·split at q
  ·rename_i i rest ho
   cases rep_str r1
   obtain ⟨u,rfl,r⟩:=one_of r2
   cases rep_str r
   exact ⟨_,_,_,_,rfl,rfl,ho,q _ _ _ Xt.refl w int_rep⟩
  ·exact q.elim
 ·exact q.elim
theorem op_mulS:OpR X (binaryOp .Mult) rMulS:=by
 rintro pins s σ H x y v u Q I rx ry ⟨z,n,rfl,rfl,⟨h1,h2,h3⟩,q⟩
 obtain ⟨t,rfl⟩:=rx
 obtain ⟨t2,rfl⟩:=ry
 have c1:¬n < -(2 ^ 63:Int):=by omega
 have c2:¬n≥2 ^ 63:=by omega
 refine P.mul_str (by rw [decide_eq_false c1,decide_eq_false c2];rfl) (fun hn _=>?_) (fun _ _=>?_) ?_
 ·rw [h1]
  have:(1:Int)<=(2 ^ 63-1) / n:=Int.le_ediv_of_mul_le (by omega) (by omega)
  omega
 ·rw [h1]
  have:1 * n.toNat<=1000:=by omega
  unfold Builtin.Str.tooLong
  exact decide_eq_false (by rw [sizeLine_eq];omega)
 ·by_cases n0:n < 1
  ·have:n=0:=by omega
   subst this
   rw [if_pos n0]
   exact ⟨by decide,.str _,H,I.tok _,⟨_,rfl⟩,q⟩
  ·rw [if_neg n0]
   by_cases n1:n=1
   ·subst n1
    rw [if_pos (by simp)]
    refine ⟨.str z,H,I,⟨t,rfl⟩,?_⟩
    have:(⟨(List.replicate (1:Int).toNat z.cps).foldl (·++·) #[]⟩:Str)=z:=by
     obtain ⟨c⟩:=z
     simp
    rw [this] at q
    exact q
   ·rw [if_neg (by simp [n1,h1])]
    refine ⟨?_,.str _,H,I.tok _,⟨_,rfl⟩,q⟩
    show (List.foldl (·++·) #[] (List.replicate n.toNat z.cps)).size<=_
    have:∀(k:Nat) (c:Array Nat),(List.foldl (·++·) c (List.replicate k z.cps)).size=c.size+k * z.cps.size:=fun k=>by
     induction k with
     |zero=>intro c;simp
     |succ k ih=>intro c;rw [List.replicate_succ,List.foldl_cons,ih,Array.size_append,Nat.succ_mul];omega
    rw [this]
    have h1':z.cps.size=1:=h1
    rw [h1',sizeLine_eq]
    simp;omega
theorem fit_mulS:Fit2 X rMulS oMulS:=fun w r1 r2 q=>by
 unfold oMulS at q
 split at q
 ·split at q
  ·rename_i hp
   cases rep_str r1
   cases rep_int r2
   exact ⟨_,_,rfl,rfl,hp,q _ _ _ Xt.refl w str_rep⟩
  ·exact q.elim
 ·exact q.elim
theorem call_strI:CallR X (.type "str") (fun xs H Q=>∃i,xs=[.int i]/\Nat.log2 i.natAbs < 1920/\Q (.str (toString i)) H):=by
 rintro pins s σ H xs us Q I r ⟨i,rfl,h,q⟩
 obtain ⟨u,rfl,t,rfl⟩:=vals1 r
 exact P.str_of_int h ⟨.str _,H,I.tok _,⟨_,rfl⟩,q⟩
theorem fit_strI:FitC X (fun xs H Q=>∃i,xs=[.int i]/\Nat.log2 i.natAbs < 1920/\Q (.str (toString i)) H) oStr:=by
 intro m S H xs vs Q w r q
 unfold oStr at q
 split at q
 ·split at q
  ·rename_i hp
   obtain ⟨v,rfl,r'⟩:=one_of r
   cases rep_int r'
   exact ⟨_,rfl,hp,q _ H m Xt.refl w str_rep⟩
  ·exact q.elim
 ·exact q.elim
theorem call_intS:CallR X (.type "int") (fun xs H Q=>∃z n,xs=[.str z]/\intText? z=some n/\z.length<=640/\Q (.int n) H):=by
 rintro pins s σ H xs us Q I r ⟨z,n,rfl,h1,h2,q⟩
 obtain ⟨u,rfl,t,rfl⟩:=vals1 r
 exact PySem.W.KIN.call_text h1 h2 ⟨.int _,H,I.tok _,⟨_,rfl⟩,q⟩
theorem fit_intS:FitC X (fun xs H Q=>∃z n,xs=[.str z]/\intText? z=some n/\z.length<=640/\Q (.int n) H) oIntS:=by
 intro m S H xs vs Q w r q
 unfold oIntS at q
 split at q
 ·split at q
  ·rename_i n hn
   split at q
   ·rename_i hp
    obtain ⟨v,rfl,r'⟩:=one_of r
    cases rep_str r'
    exact ⟨_,_,rfl,hn,hp,q _ H m Xt.refl w int_rep⟩
   ·exact q.elim
  ·exact q.elim
 ·exact q.elim
theorem qe_sw (ho:QE X o f) (ha:QA X (e::es) fa)
  (hbase:attributeBase o "startswith" X.env (eval o X.env)=eval o X.env:=by rfl)
  (hfew:((backTo cpos (starEach (e::es) X.env)).all (fun x=>!x.1)&&(backToKw cpos (keywordEach [] X.env)).all (fun x=>x.1.isSome)
   && decide ((e::es).length+([]:List Keyword).length+(if ([]:List Keyword).isEmpty then 0 else 1) < 30))=true:=by rfl)
  (hline:(apos.endLine==cpos.line)=true:=by rfl) (hs:starEach (e::es) X.env=(false,eval e X.env)::starEach es X.env:=by rfl) (hplain:(backTo cpos (starEach es X.env)).any (·.1)=false:=by rfl) :
  QE X (.Call (.Attribute o "startswith" apos) (e::es) [] cpos) (mcF "str" oSw f fa):=qe_mc PySem.F.plainAttrs_str PySem.F.slot_str_startswith PySem.F.type_str_startswith mt_sw fit_sw ho ha hbase hfew hline hs hplain
theorem qe_zf (ho:QE X o f) (ha:QA X (e::es) fa)
  (hbase:attributeBase o "zfill" X.env (eval o X.env)=eval o X.env:=by rfl)
  (hfew:((backTo cpos (starEach (e::es) X.env)).all (fun x=>!x.1)&&(backToKw cpos (keywordEach [] X.env)).all (fun x=>x.1.isSome)
   && decide ((e::es).length+([]:List Keyword).length+(if ([]:List Keyword).isEmpty then 0 else 1) < 30))=true:=by rfl)
  (hline:(apos.endLine==cpos.line)=true:=by rfl) (hs:starEach (e::es) X.env=(false,eval e X.env)::starEach es X.env:=by rfl) (hplain:(backTo cpos (starEach es X.env)).any (·.1)=false:=by rfl) :
  QE X (.Call (.Attribute o "zfill" apos) (e::es) [] cpos) (mcF "str" oZf f fa):=qe_mc PySem.F.plainAttrs_str PySem.F.slot_str_zfill PySem.F.type_str_zfill mt_zf fit_zf ho ha hbase hfew hline hs hplain
theorem qe_six (ho:QE X o f) (ha:QA X (e::es) fa)
  (hbase:attributeBase o "index" X.env (eval o X.env)=eval o X.env:=by rfl)
  (hfew:((backTo cpos (starEach (e::es) X.env)).all (fun x=>!x.1)&&(backToKw cpos (keywordEach [] X.env)).all (fun x=>x.1.isSome)
   && decide ((e::es).length+([]:List Keyword).length+(if ([]:List Keyword).isEmpty then 0 else 1) < 30))=true:=by rfl)
  (hline:(apos.endLine==cpos.line)=true:=by rfl) (hs:starEach (e::es) X.env=(false,eval e X.env)::starEach es X.env:=by rfl) (hplain:(backTo cpos (starEach es X.env)).any (·.1)=false:=by rfl) :
  QE X (.Call (.Attribute o "index" apos) (e::es) [] cpos) (mcF "str" oSix f fa):=qe_mc PySem.F.plainAttrs_str PySem.F.slot_str_index PySem.F.type_str_index mt_six fit_six ho ha hbase hfew hline hs hplain
theorem qe_mulS (ha:QE X a f) (hb:QE X b g):QE X (.BinOp a .Mult b pos) (bin oMulS f g):=qe_op op_mulS fit_mulS ha hb
theorem qe_strc (hg:Gl X "str") (hm:X.mg "str" = none) (ha:QA X (e::es) fa) (he:starEach (e::es) X.env=(false,eval e X.env)::starEach es X.env:=by rfl) (hpl:(backTo pos (starEach es X.env)).any (·.1)=false:=by rfl):QE X (.Call (.Name "str" p) (e::es) [] pos) (cal oStr fa):=
 imE (pe_callTy call_strI hg hm bt_str ha (by decide) (by decide) he hpl) (cal_of fit_strI)
theorem qe_intS (hg:Gl X "int") (hm:X.mg "int" = none) (ha:QA X (e::es) fa) (he:starEach (e::es) X.env=(false,eval e X.env)::starEach es X.env:=by rfl) (hpl:(backTo pos (starEach es X.env)).any (·.1)=false:=by rfl):QE X (.Call (.Name "int" p) (e::es) [] pos) (cal oIntS fa):=
 imE (pe_callTy call_intS hg hm bt_int ha (by decide) (by decide) he hpl) (cal_of fit_intS)
end
end Y
namespace Y
open PySem L2 PySem.Spec PyProof.Rows
open Z (msk msk_new msk_out lim lim_le)
noncomputable def CDivB (i j:Int):Prop:=0 < j/\Nat.log2 j.natAbs < 9000
noncomputable def gDivB (i j:Int):Option D:=if 0 < j/\Nat.log2 j.natAbs < 9000 then some (.int (i / j)) else none
noncomputable def oDm (xs:List A) (S:Sto):R A:=match xs with
 |[.d (.int i),.d (.int j)]=>if 0 < j/\Nat.log2 j.natAbs < 9000 then .ok (.d (.tup [.int (i / j),.int (i % j)])) S else .no
 |_=>.no
section
variable {X:Cx}{o e a b:Expr}{es:List Expr}{f g:FE}{fa:FA}{pos p apos cpos:Pos}
theorem op_fdivB:OpR X (binaryOp .FloorDiv) (rI CDivB fun i j=>.int (i / j)):=opI fun i j _ _ _ _ _ hc q=>by
 rw [<-Int.fdiv_eq_ediv_of_nonneg i (by have:=hc.1;omega)] at q
 exact floordiv_int (by have:=hc.1;omega) q (.inl (PyProof.noPylong_of_log2 hc.2))
theorem qe_fdivB (ha:QE X a f) (hb:QE X b g):QE X (.BinOp a .FloorDiv b pos) (bin (oI gDivB) f g):=qe_op op_fdivB (fit_I fun i j c e=>by
 unfold gDivB at e
 split at e
 ·rename_i h;cases e;exact ⟨h,rfl⟩
 ·cases e) ha hb
theorem call_dm:CallR X (.builtin "divmod") (fun xs H Q=>∃i j,xs=[.int i,.int j]/\CDivB i j/\∀p,H p=none->Q (.ref p) (upd H p (.tup [.int (i / j),.int (i % j)]))):=by
 intro pins s σ H xs us Q I r h
 obtain ⟨i,j,rfl,⟨h1,h2⟩,q⟩:=h
 obtain ⟨u,w',rfl,⟨t,rfl⟩,⟨t',rfl⟩⟩:=vals2 r
 refine divmod_int (by omega) ?_ (.inl (PyProof.noPylong_of_log2 h2))
 rw [Int.fdiv_eq_ediv_of_nonneg i (by omega),Int.fmod_eq_emod_of_nonneg i (by omega)]
 have hn:H s.heap.objs.size=none:=I.hok.fresh (Nat.le_refl _)
 refine ⟨.ref s.heap.objs.size,_,?_,rfl,q _ hn⟩
 refine I.laid (fun b o e=>Heap.get?_push_of_some _ e) (Nat.le_refl _) ⟨by simp only [List.length_cons,List.length_nil];rw [sizeLine_eq];decide,[.int (i / j) s.toks,.int (i % j) (s.toks+1)],.cons ⟨_,rfl⟩ (.cons ⟨_,rfl⟩ .nil),?_⟩
 exact ⟨_,Heap.get?_push_size s.heap rfl,rfl,0,rfl⟩
theorem fit_dm:FitC X (fun xs H Q=>∃i j,xs=[.int i,.int j]/\CDivB i j/\∀p,H p=none->Q (.ref p) (upd H p (.tup [.int (i / j),.int (i % j)]))) oDm:=by
 intro m S H xs vs Q w r q
 unfold oDm at q
 split at q
 ·rename_i i j
  split at q
  ·rename_i hp
   obtain ⟨v,u,rfl,r1,r2⟩:=two_of r
   cases rep_int r1
   cases rep_int r2
   refine ⟨i,j,rfl,hp,fun p hn=>q _ _ m (Xt.new hn) (w.new hn) (new_tup w hn ?_)⟩
   exact Z.Reps.cons (RA.d_iff.mp int_rep) (Z.Reps.cons (RA.d_iff.mp int_rep) Z.Reps.nil)
  ·exact q.elim
 ·exact q.elim
theorem bt_divmod:bootBuiltins "divmod" = some (.builtin "divmod"):=by decide +kernel
theorem qe_dm (hg:Gl X "divmod") (hm:X.mg "divmod" = none) (ha:QA X (e::es) fa) (he:starEach (e::es) X.env=(false,eval e X.env)::starEach es X.env:=by rfl) (hpl:(backTo pos (starEach es X.env)).any (·.1)=false:=by rfl):QE X (.Call (.Name "divmod" p) (e::es) [] pos) (cal oDm fa):=
 imE (pe_callB call_dm hg hm bt_divmod ha (by decide) (by decide) he hpl) (cal_of fit_dm)
end
end Y
namespace Y
open PySem L2 PySem.Spec PyProof.Rows
open Z (msk msk_new msk_out lim lim_le)
noncomputable def rSrt1 (X:Cx):List V->Hp->VK->Prop:=fun xs H Q=>∃a ws,xs=[.ref a]/\SqL X.K H a ws/\ws.length < 2/\∀l,H l=none->Q (.ref l) (upd H l (.lst ws))
noncomputable def srt1 (f:FE):FL:=fun ρ S=>(f ρ S).bind fun x S=>opt (match x.sh S with
 |some (.lst ds)=>if ds.length < 2 then some ds else none
 |_=>none) S
section
variable {X:Cx}{o e a b:Expr}{es:List Expr}{f g:FE}{fa:FA}{pos p apos cpos:Pos}
theorem call_srt1:CallR X (.builtin "sorted") (rSrt1 X):=by
 intro pins s σ H xs us Q I r h
 obtain ⟨a,ws,rfl,hq,h2,q⟩:=h
 obtain ⟨u,rfl,ru⟩:=vals1 r
 cases ru
 obtain ⟨its,rv,pl,hz⟩:=I.list hq
 have hlen:=rv.length
 refine MX.sorted1 pl.isList (by omega) fun h' e kp hS=>?_
 obtain ⟨I2,hn⟩:=I.lay (D:=s.heap.objs.size+1) (ys:=ws) (its:=its) (h':=h') (n:=e) (Heap.get?_none_of_le (Nat.le_succ _)) (fun b o _ q=>kp b o q) (fun m hm=>let ⟨o,es,ep,q,r⟩:=hm;⟨o,es,ep,kp _ _ q,r⟩) hS rv hz
 exact ⟨.ref _,_,I2,rfl,q _ hn⟩
theorem ql_srt1 (hg:Gl X "sorted") (hm:X.mg "sorted" = none) (he:QE X e f) (hst:starEach [e] X.env=(false,eval e X.env)::starEach [] X.env:=by rfl) (hb:(backTo pos (starEach [] X.env)).any (·.1)=false:=by rfl) :
  QL X (.Call (.Name "sorted" p) [e] [] pos) (srt1 f):=
 imE (pe_callB call_srt1 hg hm bt_sorted (pa_cons he pa_nil hst) (by decide) (by decide) hst hb) fun σ H Q q=>by
  obtain ⟨ρ,S,m,Rr,W,q⟩:=q
  refine ⟨ρ,S,m,Rr,W,q.bind.imp fun x S1 q v H1 m1 x1 w1 r1=>?_⟩
  obtain ⟨ds,hd,q⟩:=q.opt
  split at hd
  ·rename_i es hs
   split at hd
   ·rename_i h2
    cases hd
    obtain ⟨a,vs,rfl,h3,h4⟩:=sh_lst w1 r1 hs
    exact ⟨a,vs,rfl,h3,by rw [Reps.length h4];exact h2,fun l hl=>q l _ H1 m1 x1 w1 hl h4⟩
   ·cases hd
  ·cases hd
end
noncomputable def kRefs:List A->Option (List Addr)
 |[]=>some []
 |.k (.ref a)::r=>(kRefs r).map (a::·)
 |_=>none
noncomputable def oIsT (ks cs:List Addr) (isD:Addr->Bool) (xs:List A) (S:Sto):R A:=match xs with
 |[.p k,.t ys]=>match S[k]? with
  |some (.exc C _)=>if C∈ks/\kRefs ys=some cs then .ok (.d (.bl (isD C))) S else .no
  |_=>.no
 |_=>.no
noncomputable def rIsT (K:PySem.W.Frag):List V->Hp->VK->Prop:=fun xs H Q=>∃a oe u vs C ns ini b tp,∃cs:List Addr,xs=[.ref a,.ref tp]/\SqT K H tp (cs.map V.ref)/\H a=some (.frz oe u)/\oe.cls=.ref C/\oe.data=.fields vs/\XCl K C ns ini/\(("__class__" : Str)∈ns/\("__getattribute__" : Str)∈ns/\("__getattr__" : Str)∈ns)/\PySem.W.kitAny K (.ref C) (cs.map Value.ref)=some b/\Q (.bl b) H
noncomputable def IsiT (K:PySem.W.Frag) (ks cs:List Addr) (isD:Addr->Bool):Prop:=∀C∈ks,(∃ns ini,XCl K C ns ini/\(("__class__" : Str)∈ns/\("__getattribute__" : Str)∈ns/\("__getattr__" : Str)∈ns))/\PySem.W.kitAny K (.ref C) (cs.map Value.ref)=some (isD C)
section
variable {X:Cx}{e:Expr}{es:List Expr}{f:FE}{fa:FA}{pos p:Pos}{ks cs:List Addr}{isD:Addr->Bool}
theorem vals_refs:∀{cs:List Addr}{us:List Value},Vals (cs.map V.ref) us->us=cs.map Value.ref
 |[],_,.nil=>rfl
 |_::_,_,.cons r t=>by cases r;rw [vals_refs t];rfl
theorem kRefs_ok {K:PySem.W.Frag}{m:List Addr}{H:Hp}:∀{ys:List A}{cs:List Addr}{vs:List V},kRefs ys=some cs->RAs K m H ys vs->vs=cs.map V.ref
 |[],cs,vs,e,r=>by cases e;exact r.nil_inv
 |y::ys,cs,vs,e,r=>by
  obtain ⟨v,us,rfl,h1,h2⟩:=r.cons_inv
  cases y with
  |k w=>
   cases w with
   |ref a=>
    obtain ⟨ds,h3,rfl⟩:=Option.map_eq_some_iff.mp (show (kRefs ys).map (a::·)=some cs from e)
    rw [kRefs_ok h3 h2,RA.k_iff.mp h1]
    rfl
   |_=>cases e
  |_=>cases e
theorem call_isT:CallR X (.builtin "isinstance") (rIsT X.K):=by
 intro pins s σ H xs us Q I r h
 obtain ⟨a,oe,u,vs,C,ns,ini,b,tp,cs,rfl,ht,ha,hc,hd,xc,⟨h1,h2,h3⟩,e,q⟩:=h
 obtain ⟨u1,u2,rfl,ru,rw'⟩:=vals2 r
 cases ru
 cases rw'
 have ho:=(show ObjOk X.prog X.w H s.heap a (.frz oe u) from I.hok a _ ha).1
 obtain ⟨its,hv,⟨⟨o1,o2,o3,o4⟩,g1,g2,n,g3⟩,_⟩:=I.tuple ht
 simp only at g2 g3
 subst g2 g3
 rw [vals_refs hv] at g1
 exact PySem.W.kia_tup (kitx_exc xc h1 h2 h3) I.kIn ⟨oe,vs,ho,hc,hd⟩ g1 e (fun z=>nomatch z) fun tk=>⟨.bl b,H,I.tok _,rfl,q⟩
theorem fit_isT (hI:IsiT X.K ks cs isD):FitC X (rIsT X.K) (oIsT ks cs isD):=by
 intro m S H xs vs Q w r q
 unfold oIsT at q
 split at q
 ·rename_i k ys
  split at q
  ·rename_i C fs hc
   split at q
   ·rename_i hk
    obtain ⟨v,u,rfl,r1,r2⟩:=two_of r
    obtain ⟨l,hl,rfl⟩:=RA.p_iff.mp r1
    obtain ⟨tp,us,rfl,h3,h4⟩:=RA.t_iff.mp r2
    obtain ⟨oe,u,fs',e1,⟨e2,e3,_⟩,_⟩:=w.cell k l _ hl hc
    obtain ⟨⟨ns,ini,xc,hns⟩,hkit⟩:=hI C hk.1
    have e5:=kRefs_ok hk.2 h4
    subst e5
    exact ⟨l,oe,u,fs',C,ns,ini,_,tp,cs,rfl,SqT.unm h3,e1,e2,e3,xc,hns,hkit,q _ H m Xt.refl w bl_rep⟩
   ·exact q.elim
  ·exact q.elim
 ·exact q.elim
theorem qe_isXt (hI:IsiT X.K ks cs isD) (hg:Gl X "isinstance") (hm:X.mg "isinstance" = none) (ha:QA X (e::es) fa) (he:starEach (e::es) X.env=(false,eval e X.env)::starEach es X.env:=by rfl) (hpl:(backTo pos (starEach es X.env)).any (·.1)=false:=by rfl) :
  QE X (.Call (.Name "isinstance" p) (e::es) [] pos) (cal (oIsT ks cs isD) fa):=imE (pe_callB call_isT hg hm bt_isinstance ha (by decide) (by decide) he hpl) (cal_of (fit_isT hI))
end
end Y
namespace L2
open PySem PySem.Spec PyProof.Rows
section
variable {X:Cx}{CX:CXT}{pins:List (Addr×Obj)}{σ:St}{f:Addr}{fd:FuncData}{ps:List Str}{sp:Sp}{k:Nat}{E:XK}
theorem run_fnAt {H:Hp}{s:Shared}{Q:VK}{us:List Value}{vs:List V}{EE:Value->Shared->Prop}(F:FnOk X.prog X.w X.K X.mg X.base CX k f fd ps sp) (hr:Room k X.A) (hb:Binds X.K fd ps [])
  (hx:∀H' s1 e s',Inv X pins σ H' s1->CX X.stack H' s1 E e s'->EE e s') (I:Inv X pins σ H s) (r:Vals vs us) (h:sp vs H Q E) :
  wpAny (model X.prog X.w) X.A (call (.ref f) us) (EP X pins σ Q) EE s:=by
 have hl:(us++[]).length=ps.length:=by
  rw [List.append_nil,<-r.length];exact F.len _ _ _ _ h
 have bt:=hb _ us I.kIn hl
 rw [List.append_nil] at bt
 refine wpAny_call (codeAny_mono (F.run X.A X.stack s H ⟨us,[]⟩ us vs Q E hr I.env0 bt r h) fun r s' hq=>?_)
 cases r with
 |error e=>exact hx _ _ e s' I hq
 |ok fl=>
  cases fl with
  |ret u=>exact I.after hq
  |next=>exact False.elim hq
  |brk=>exact False.elim hq
  |cont=>exact False.elim hq
end
section
variable {X:Cx}{D g:Addr}{ns':List Str}{ini':Option Addr}{cn nm x wn lit:Str}{cp hpos p xp cpos apos pos lpos tpos:Pos}{b0:Stmt}{suite:List Stmt}{i j k lk tx:Nat}{ts:Addr->Obj->TS}{fd:FuncData}{ps:List Str}{sp:Sp}{e:Expr}{es:List Expr}{t:TA}
noncomputable def tTryFn (X:Cx) (D:Addr) (i j:Nat) (lit:Str) (sp:Sp) (t:TA) (ts:Addr->Obj->TS):TS:=fun De σ H=>t σ H fun vs H1=>
 sp vs H1 (fun v H2=>∀q,H2 q=none->De.nx (σ.set j (some (.ref q))) (upd H2 q (.tup [.str lit,v]))) (Wnt X D i ts De σ)
theorem ps_tryFn (hN:X.N.Nodup) (hi:X.N[i]?=some nm) (hk:X.env.scope.names.lookup nm=some .local) (hj:X.N[j]?=some x) (hxl:Loc X.env.scope x) (hst:X.stack=X.env::X.outer) (hfr:X.env.frame=some X.env.locals)
  (hg:Gl X cn) (hm:X.mg cn=some (.ref D)) (c':XCl X.K D ns' ini') (hs:∀a oe,PSs (X.su a oe) (b0::suite) (ts a oe))
  (G:FnOk X.prog X.w X.K X.mg X.base (CX1 X.prog X.w) k g fd ps sp) (hr:Room k X.A) (hgw:Gl X wn) (hmw:X.mg wn=some (.ref g)) (hkp:PySem.W.keepIn X.K (.ref g)=true) (hb:Binds X.K fd ps []) (ha:PA X.nox (e::es) t)
  (hdb:(cn==("__debug__" : Str))=false:=by decide) (hdw:(wn==("__debug__" : Str))=false:=by decide) (he:starEach (e::es) X.env=(false,eval e X.env)::starEach es X.env:=by rfl) (hpl:(backTo cpos (starEach es X.env)).any (·.1)=false:=by rfl)
  (hst2:backTo tpos (starEach [.Constant (.str lit) lk lpos,.Call (.Name wn p) (e::es) [] cpos] X.env)=[(false,eval (.Constant (.str lit) lk lpos) X.env),(false,eval (.Call (.Name wn p) (e::es) [] cpos) X.env)]:=by rfl)
  (hsw:swapsWith (.Tuple [.Constant (.str lit) lk lpos,.Call (.Name wn p) (e::es) [] cpos] tx tpos) (some (.Name x xp)) apos.line X.env=pure false:=by rfl) (hf:X.fn x=true∨X.env.scope.names.lookup x=some .local:=by first | exact .inl rfl | exact .inr rfl | assumption) :
  PS X (.Try [.Assign [.Name x xp] (.Tuple [.Constant (.str lit) lk lpos,.Call (.Name wn p) (e::es) [] cpos] tx tpos) apos] [.ExceptHandler (some (.Name cn cp)) (some nm) (b0::suite) hpos] [] [] pos)
   (tTryFn X D i j lit sp t ts):=by
 intro pins s σ H De I h
 refine wpAny_Try_except (wpAny_execs_cons (wpAny_Assign_Name (wpAny_Tuple_spliced ?_) hsw))
 rw [hst2]
 refine Calls.spliced_cons (Calls.Constant_str ?_)
 refine Calls.spliced_cons (wpAny_Call_Name_kw (ld_glob (I.tok _) hgw hmw ?_ hdw))
 have I0:=I.tok (s.toks+1)
 have In:Inv X.nox pins σ H { s with toks:=s.toks+1 }:=⟨I0.ok.wish _,I0.os,I0.bare,I0.base,I0.loc,I0.cell,I0.free,I0.freeC,I0.pin,I0.hok,I0.len⟩
 refine PySem.W.callWith_K (h₀:=X.base) I.ok.mod.kin hkp (wpAny_mono (ha cpos pins _ σ H _ In h) (fun us s1 q1=>?_) fun _ _ z=>z.elim) he hpl
 obtain ⟨vs,H1,J1,r,q⟩:=q1
 have I1:Inv X pins σ H1 s1:=⟨I.ok,J1.os,J1.bare,J1.base,J1.loc,J1.cell,J1.free,J1.freeC,J1.pin,J1.hok,J1.len⟩
 refine ⟨I1.kIn,thn (run_fnAt (E:=Wnt X D i ts De σ) G hr hb (fun H' s2 e s' J z=>wnt_ok hN hi hk hst hfr hg hm c' hs hdb H' s2 e s' J z) I1 r q) fun v s2 q2=>?_⟩
 obtain ⟨y,H2,I2,rv,q2⟩:=q2
 refine Calls.spliced_nil ⟨by show 2<=_;rw [sizeLine_eq];decide,?_⟩
 have hf2:H2 s2.heap.objs.size=none:=I2.hok.fresh (Nat.le_refl _)
 have I3:Inv X pins σ (upd H2 s2.heap.objs.size (.tup [.str lit,y])) { s2 with heap:=s2.heap.push { cls:=.type "tuple", data:=.seq #[.str lit s.toks,v] },toks:=s2.toks }:=I2.laid (fun b u e=>Heap.get?_push_of_some _ e) (Nat.le_refl _) ⟨by show 2<=_;rw [sizeLine_eq];decide,[.str lit s.toks,v],.cons ⟨_,rfl⟩ (.cons rv .nil),⟨_,Heap.get?_push_size _ rfl,rfl,_,rfl⟩⟩
 exact store_ok I3 hN hj hxl (v:=.ref s2.heap.objs.size) rfl (fun s3 I4=>wpAny_execs_nil (wpAny_execs_nil ⟨_,_,I4,q2 _ hf2⟩)) hf
end
end L2
namespace Y
open PySem L2 PySem.Spec PyProof.Rows
open Z (msk msk_new msk_newc msk_out lim lim_le)
noncomputable def sTryFn (isD:Addr->Bool) (i j:Nat) (lit:Str) (F:FF) (fa:FA) (fs:FS):FS:=fun ρ S=>(fa ρ S).bindN fun as S1=>match F as S1 with
 |.ok z S2=>.ok (.nx (ρ.set j (some (mkT [.d (.str lit),z])))) S2
 |.ex e S2=>if isD e.C=true then (fs (ρ.set i (some (.p S2.length))) (S2++[.exc e.C e.fs])).bindN fun c S3=>.ok (goneC i c) S3 else .no
 |.no=>.no
section
variable {X:Cx}{D g:Addr}{i j k lk tx:Nat}{F:FF}{fa:FA}{fs:FS}{isD:Addr->Bool}{lit nm x cn wn:Str}{ns':List Str}{ini':Option Addr}{cp hpos p xp cpos apos pos lpos tpos:Pos}{b0:Stmt}{suite:List Stmt}{fd:FuncData}{ps:List Str}{e:Expr}{es:List Expr}
theorem tryFn_of (hD:∀C0,isD C0=true->∃ns ini,XCl X.K C0 ns ini/\XSub X.K C0 D) :
  ∀De σ H,tSF X (sTryFn isD i j lit F fa fs) De σ H->tTryFn X D i j lit (spX X.K F) (tFA X.nox fa) (fun a oe=>tSF (X.su a oe) fs) De σ H:=by
 rintro De σ H ⟨ρ,S,m,Rr,W,q⟩
 obtain ⟨as,S1,efa,q⟩:=q.bindN
 refine ⟨ρ,S,m,Rr,W,?_⟩
 rw [efa]
 refine fun vs H1 m1 x1 w1 r1=>?_
 refine ⟨as,S1,m1,r1,w1,?_⟩
 cases hr:F as S1 with
 |no=>rw [hr] at q;exact q.elim
 |ok z S2=>
  rw [hr] at q
  refine fun v H3 m3 x3 w3 r3 p hp=>?_
  have rt:RA X.K m3 (upd H3 p (.tup [.str lit,v])) (mkT [.d (.str lit),z]) (.ref p):=by
   have ra:RAs X.K m3 H3 [.d (.str lit),z] [.str lit,v]:=RAs.cons str_rep (RAs.cons r3 RAs.nil)
   cases z with
   |d y=>exact new_tup w3 hp (Z.Reps.cons (RA.d_iff.mp str_rep) (Z.Reps.cons (RA.d_iff.mp r3) Z.Reps.nil))
   |p k=>exact new_t w3 hp ra
   |t l=>exact new_t w3 hp ra
   |k w=>exact new_t w3 hp ra
  have x4:=(x1.trans x3).trans (Xt.new (o:=.tup [.str lit,v]) hp)
  exact q _ _ m3 x4 ((Rr.ext x4).set rt) (w3.new hp)
 |ex e S2=>
  rw [hr] at q
  refine fun C dd H3 m3 x3 w3 er=>?_
  have q':Res X m H (if isD e.C=true then (fs (ρ.set i (some (.p S2.length))) (S2++[.exc e.C e.fs])).bindN fun c S3=>.ok (goneC i c) S3 else .no) (Out X.K m H De):=q
  split at q'
  ·rename_i hd
   obtain ⟨ns,ini,xc,xs⟩:=hD _ hd
   refine ⟨e.C,ns,ini,er.1,xc,xs,fun a oe ha cg=>?_⟩
   obtain ⟨c,S4,efs,q'⟩:=q'.bindN
   obtain ⟨vs',hdat,hv2⟩:=cg.data
   have xc4:Xt m3 H3 (m3++[a]) (upd H3 a (frzX a oe)):=Xt.newc ha
   have x4:=(x1.trans x3).trans xc4
   have w4:Wd X.K (m3++[a]) (S2++[.exc e.C e.fs]) (upd H3 a (frzX a oe)):=w3.push ha ⟨oe,_,vs',upd_same,⟨cg.cls,hdat,hv2⟩,er.2.imp (fun z=>⟨z.1,cg.dict.trans z.2⟩) fun ⟨d,ws,p1,p2,p3⟩=>⟨d,ws,cg.dict.trans p1,msk_newc ha _ _ p2,RK.sub app_at (msk_newc ha) p3⟩⟩
   refine ⟨ρ.set i (some (.p S2.length)),S2++[.exc e.C e.fs],m3++[a],(Rr.ext x4).set (cell_last w3),w4,?_⟩
   rw [efs]
   exact (Out.step x4 q').gone
  ·exact q'.elim
theorem qs_tryFn (hN:X.N.Nodup) (hi:X.N[i]?=some nm) (hk:X.env.scope.names.lookup nm=some .local) (hj:X.N[j]?=some x) (hxl:Loc X.env.scope x) (hst:X.stack=X.env::X.outer) (hfr:X.env.frame=some X.env.locals)
  (hg:Gl X cn) (hm:X.mg cn=some (.ref D)) (c':XCl X.K D ns' ini') (hD:∀C0,isD C0=true->∃ns ini,XCl X.K C0 ns ini/\XSub X.K C0 D) (hs:∀a oe,QSs (X.su a oe) (b0::suite) fs)
  (G:FnOk X.prog X.w X.K X.mg X.base (CX1 X.prog X.w) k g fd ps (spX X.K F)) (hr:Room k X.A) (hgw:Gl X wn) (hmw:X.mg wn=some (.ref g)) (hkp:PySem.W.keepIn X.K (.ref g)=true) (hb:Binds X.K fd ps []) (ha:QA X.nox (e::es) fa)
  (hdb:(cn==("__debug__" : Str))=false:=by decide) (hdw:(wn==("__debug__" : Str))=false:=by decide) (he:starEach (e::es) X.env=(false,eval e X.env)::starEach es X.env:=by rfl) (hpl:(backTo cpos (starEach es X.env)).any (·.1)=false:=by rfl)
  (hst2:backTo tpos (starEach [.Constant (.str lit) lk lpos,.Call (.Name wn p) (e::es) [] cpos] X.env)=[(false,eval (.Constant (.str lit) lk lpos) X.env),(false,eval (.Call (.Name wn p) (e::es) [] cpos) X.env)]:=by rfl)
  (hsw:swapsWith (.Tuple [.Constant (.str lit) lk lpos,.Call (.Name wn p) (e::es) [] cpos] tx tpos) (some (.Name x xp)) apos.line X.env=pure false:=by rfl) (hf:X.fn x=true∨X.env.scope.names.lookup x=some .local:=by first | exact .inl rfl | exact .inr rfl | assumption) :
  QS X (.Try [.Assign [.Name x xp] (.Tuple [.Constant (.str lit) lk lpos,.Call (.Name wn p) (e::es) [] cpos] tx tpos) apos] [.ExceptHandler (some (.Name cn cp)) (some nm) (b0::suite) hpos] [] [] pos) (sTryFn isD i j lit F fa fs):=
 imS (ps_tryFn hN hi hk hj hxl hst hfr hg hm c' hs G hr hgw hmw hkp hb ha hdb hdw he hpl hst2 hsw hf) (tryFn_of hD)
end
end Y
namespace MX
open PySem PySem.Spec PyProof.Rows Builtin Builtin.Str
section
variable {prog:Program}{w:World}{A:Around}{E:Value->Shared->Prop}{s:Shared}{it l:Addr}{xs:Array Value}
theorem collect_rev {Q:List Value->Shared->Prop}(hh:A.handled=none) (hit:s.heap.IsRevIter it l ((xs.size:Int)-1)) (hl:s.heap.IsList l xs) (hne:l≠it) (hz:xs.size<=sizeLine)
  (hQ:∀h' tk acc,(∀b o,b≠it->s.heap.get? b=some o->h'.get? b=some o)->ItemsOf (fun i v=>xs[xs.size-1-i]?=some v) acc xs.size->Q acc.toList { s with heap:=h',toks:=tk }):wpAny (model prog w) A (collect (.ref it)) Q E s:=by
 have lti:it < s.heap.objs.size:=let ⟨o,ho,_⟩:=hit;Heap.lt_size ho
 have ltl:l < s.heap.objs.size:=let ⟨o,ho,_⟩:=hl;Heap.lt_size ho
 have ni:s.heap.objs.size≠it:=Nat.ne_of_gt lti
 have nl:s.heap.objs.size≠l:=Nat.ne_of_gt ltl
 unfold collect
 refine wpAny_bind (wpAny_runValue (codeAny_builtin PySem.F.entry_proto_collect ?_))
 rw [Around.under_plainId PySem.F.plain_proto_collect _]
 show wpAny _ A.in1 (newList [] >>= fun l=>again (.builtin "list.__iadd__" ⟨[l,.ref it],[]⟩)) _ _ s
 refine wpAny_bind (wpAny_newObj_type ?_)
 refine wpAny_pure ⟨plainId_quiet PySem.F.plain_list_iadd _,codeAny_builtin PySem.F.entry_list_iadd ?_⟩
 rw [Around.under_plainId PySem.F.plain_list_iadd _]
 have hS:(s.heap.push { cls:=.type "list", data:=.seq ([]:List Value).toArray }).get? s.heap.objs.size=some { cls:=.type "list", data:=.seq ([]:List Value).toArray }:=Heap.get?_push_size _ rfl
 have hit2:(s.heap.push { cls:=.type "list", data:=.seq ([]:List Value).toArray }).IsRevIter it l ((xs.size:Int)-1):=hit.at fun o e=>Heap.get?_push_of_some _ e
 have hl2:(s.heap.push { cls:=.type "list", data:=.seq ([]:List Value).toArray }).IsList l xs:=hl.push _
 show wpAny _ A.in1 (Builtin.List.listExtendWith (.ref s.heap.objs.size) (.ref it) (.ref s.heap.objs.size)) _ _ _
 unfold Builtin.List.listExtendWith
 refine wpAny_bind (wpAny_typeOf hit2.typeIs ?_)
 have n1:Builtin.List.listSameRef (.ref s.heap.objs.size) (.ref it)=false:=by simp [Builtin.List.listSameRef,ni]
 have n2:(Value.type "list_reverseiterator" == Value.type "list")=false:=by decide
 have n3:(Value.type "list_reverseiterator" == Value.type "tuple")=false:=by decide
 simp only [n1,n2,n3,Bool.or_false,Bool.false_eq_true,if_false]
 refine wpAny_bind (wpAny_pyIter_revIter hit2 (wpAny_bind (wpAny_holding (hint_rev hit2 ?_))))
 have W:=(Walks.listRev (prog:=prog) (w:=w) (A:=A.in1) hh it l hne xs).toS
 refine wpAny_pure ⟨plainId_quiet PySem.F.plain_extend_loop _,codeAny_extend_loopS W hz _ (by simp [ni,nl]) _ xs.size 0 _ _ _ rfl (Nat.zero_le _) ⟨Nat.zero_le _,by simpa using hit2,hl2⟩ hS (ItemsOf.nil _) fun s' acc c hm hS' ha=>?_⟩
 show wpAny _ A (load s.heap.objs.size >>= _) _ _ s'
 refine wpAny_bind (wpAny_load hS' ?_)
 have hm2:=Moved.drop_new (o:={ cls:=.type "list", data:=.seq ([]:List Value).toArray }) (tk:=s.toks) hm (Nat.le_refl _)
 rw [Moved.eq_with hm2]
 exact wpAny_pure (hQ s'.heap s'.toks acc (fun b o hb e=>hm2.heap b o (by simpa using hb) e) ha)
theorem join_rev {Q:Value->Shared->Prop}{sep:Str}{t:Tok}(hh:A.handled=none) (hit:s.heap.IsRevIter it l ((xs.size:Int)-1)) (hl:s.heap.IsList l xs) (hne:l≠it) (hz:xs.size<=sizeLine)
  (hQ:∀h' acc,(∀b o,b≠it->s.heap.get? b=some o->h'.get? b=some o)->ItemsOf (fun i v=>xs[xs.size-1-i]?=some v) acc xs.size->∃ps:List (Str×Tok),acc.toList=strValues ps/\JoinOk sep (ps.map (·.1))=true/\∀t' k,Q (.str (Txt.join sep (ps.map (·.1))) t') { s with heap:=h',toks:=k }) :
  wpAny (model prog w) A (call (.builtin "str.join") [.str sep t,.ref it]) Q E s:=by
 refine wpAny_call (codeAny_call_builtin PySem.F.slot_str_join.plain PySem.F.entry_str_join (PySem.F.slot_str_join.check _ _ _ _ _ _ _ _ (typeIs_str _ _ _) (PySem.F.args_str_join_2 _ _) ?_))
 rw [join_tree_other]
 refine wpAny_bind (wpAny_typeOf hit.typeIs ?_)
 rw [if_neg (by decide)]
 refine wpAny_bind (wpAny_tryCatch (wpAny_pyIter_revIter hit ?_))
 refine wpAny_bind (collect_rev hh hit hl hne hz fun h' tk acc kp ha=>?_)
 obtain ⟨ps,e,hok,hp⟩:=hQ h' acc kp ha
 rw [e]
 unfold JoinOk at hok
 rw [Bool.not_eq_true'] at hok
 have g:Gives (joinTail sep (strValues ps)) (joinMade sep ps):=by
  have g0:=gives_joinTail sep ps hok
  cases ps with
  |nil=>exact g0
  |cons p r=>cases r with
   |nil=>exact g0
   |cons q r'=>exact g0
 exact g prog w A (wants Q E) _ (post_join ps ⟨joinFit_length hok,hp⟩)
end
end MX
namespace L2
open PySem PySem.Spec PyProof.Rows
section
variable {X:Cx}
theorem strs_v:∀{ys:List Str}{us:List Value},Vals (ys.map V.str) us->∃ps:List (Str×Tok),us=strValues ps/\ps.map (·.1)=ys
 |[],_,.nil=>⟨[],rfl,rfl⟩
 |y::ys,_,.cons r t=>by
  obtain ⟨u,rfl⟩:=r
  obtain ⟨ps,rfl,e⟩:=strs_v t
  exact ⟨(y,u)::ps,rfl,by rw [List.map_cons,e]⟩
theorem pe_jrev {o e:Expr}{to te:TE}{apos p2 pos2 cpos:Pos}(hc:X.cool=true) (hg2:Gl X "reversed") (hm2:X.mg "reversed" = none) (ho:PE X o to) (he:PE X e te)
  (hbase:attributeBase o "join" X.env (eval o X.env)=eval o X.env:=by rfl)
  (hfew:((backTo cpos (starEach [.Call (.Name "reversed" p2) [e] [] pos2] X.env)).all (fun x=>!x.1)&&(backToKw cpos (keywordEach [] X.env)).all (fun x=>x.1.isSome)
   && decide (([.Call (.Name "reversed" p2) [e] [] pos2]:List Expr).length+([]:List Keyword).length+(if ([]:List Keyword).isEmpty then 0 else 1) < 30))=true:=by rfl)
  (hline:(apos.endLine==cpos.line)=true:=by rfl)
  (h1:starEach [e] X.env=[(false,eval e X.env)]:=by rfl)
  (h2:starEach [.Call (.Name "reversed" p2) [e] [] pos2] X.env=[(false,eval (.Call (.Name "reversed" p2) [e] [] pos2) X.env)]:=by rfl) :
  PE X (.Call (.Attribute o "join" apos) [.Call (.Name "reversed" p2) [e] [] pos2] [] cpos) (fun σ H Q=>to σ H fun x H1=>∃z,x=.str z/\te σ H1 fun v H2=>∃(a:Addr) (ys:List Str),v=.ref a/\SqL X.K H2 a (ys.map V.str)/\JoinOk z ys.reverse=true/\Q (.str (Txt.join z ys.reverse)) H2):=by
 intro pins s σ H Q I h
 refine wpAny_Call_method_late hbase hfew hline rfl (thn (ho pins s σ H _ I h) fun v s1 ⟨x,H1,I1,r1,z,ex,q1⟩=>?_)
 subst ex
 obtain ⟨t,rfl⟩:=r1
 refine ⟨"str", "str.join", PySem.F.plainAttrs_str,PySem.F.slot_str_join,PySem.F.type_str_join,typeIs_str _ _ _,(fun _ e=>nomatch e),?_⟩
 rw [h2]
 refine Calls.callWith_builtin rfl (Calls.evalArgs_plain ?_)
 refine Calls.spliced_cons (wpAny_Call_Name_kw (ld_blt I1 hg2 hm2 bt_reversed (callWith_type1 ?_ h1 rfl) (by decide) (by decide)))
 rw [h1]
 refine Calls.spliced_cons (thn (he pins s1 σ H1 _ I1 q1) fun u s2 ⟨v,H2,I2,r2,a,ys,ev,hq,hok,q⟩=>?_)
 subst ev
 cases r2
 obtain ⟨its,rv,pl,hz⟩:=I2.list hq
 refine Calls.spliced_nil (call_reversed_list pl.isList (Calls.spliced_nil ?_))
 have na:a≠s2.heap.objs.size:=by
  obtain ⟨o,ho,_⟩:=pl.isList
  exact Nat.ne_of_lt (Heap.lt_size ho)
 have sz:its.toArray.size=(ys.map V.str).length:=by rw [List.size_toArray,rv.length]
 refine MX.join_rev (s:={ s2 with heap:=s2.heap.push (revObj a ((its.toArray.size:Int)-1)) }) (xs:=its.toArray) (I2.ok.hc hc) ⟨_,Heap.get?_push_size _ rfl,rfl,rfl⟩ (pl.isList.push _) na (by rw [sz];exact hz) ?_
 intro h' acc kp ha
 have ea:=items_rev ha
 subst ea
 obtain ⟨ps,e1,e2⟩:=strs_v (ys:=ys.reverse) (us:=its.reverse) (by rw [List.map_reverse];exact Vals.rev rv)
 refine ⟨ps,by rw [<-e1],by rw [e2];exact hok,fun t' k=>⟨.str _,H2,?_,⟨t',rfl⟩,by rw [e2];exact q⟩⟩
 exact I2.kept (t':=k) fun b o e=>kp b o (Nat.ne_of_lt (Heap.lt_size e)) (Heap.get?_push_of_some _ e)
end
end L2
namespace Y
open PySem L2 PySem.Spec PyProof.Rows
noncomputable def dStrs:List D->Option (List Str)
 |[]=>some []
 |.str z::r=>(dStrs r).map (z::·)
 |_=>none
theorem dStrs_of {K:PySem.W.Frag}{H:Hp}:∀{ds:List D}{zs:List Str}{vs:List V},dStrs ds=some zs->Reps K H ds vs->vs=zs.map V.str
 |[],_,_,e,r=>by cases e;exact List.eq_nil_of_length_eq_zero (Reps.length r)
 |.str z::ds,zs,vs,e,r=>by
  unfold Reps at r
  obtain ⟨v,vs',rfl,r1,r2⟩:=r
  unfold dStrs at e
  obtain ⟨ys,e1,e2⟩:=Option.map_eq_some_iff.mp e
  subst e2
  rw [List.map_cons,dStrs_of e1 r2]
  unfold Rep at r1
  rw [r1]
 |.int _::_,_,_,e,_=>by cases e
 |.bl _::_,_,_,e,_=>by cases e
 |.tup _::_,_,_,e,_=>by cases e
 |.lst _::_,_,_,e,_=>by cases e
 |.non::_,_,_,e,_=>by cases e
noncomputable def jrev (f g:FE):FE:=fun ρ S=>(f ρ S).bind fun x S=>match x with
 |.d (.str z)=>(g ρ S).bind fun y S=>match y.sh S with
  |some (.lst ds)=>match dStrs ds with
   |some zs=>if JoinOk z zs.reverse=true then .ok (.d (.str (Txt.join z zs.reverse))) S else .no
   |none=>.no
  |_=>.no
 |_=>.no
section
variable {X:Cx}{o e a b:Expr}{es:List Expr}{f g:FE}{fa:FA}{pos p apos cpos:Pos}
theorem qe_jrev {p2 pos2:Pos}(hg2:Gl X "reversed") (hm2:X.mg "reversed" = none) (ho:QE X o f) (he:QE X e g) (hc:X.cool=true:=by rfl)
  (hbase:attributeBase o "join" X.env (eval o X.env)=eval o X.env:=by rfl)
  (hfew:((backTo cpos (starEach [.Call (.Name "reversed" p2) [e] [] pos2] X.env)).all (fun x=>!x.1)&&(backToKw cpos (keywordEach [] X.env)).all (fun x=>x.1.isSome)
   && decide (([.Call (.Name "reversed" p2) [e] [] pos2]:List Expr).length+([]:List Keyword).length+(if ([]:List Keyword).isEmpty then 0 else 1) < 30))=true:=by rfl)
  (hline:(apos.endLine==cpos.line)=true:=by rfl)
  (h1:starEach [e] X.env=[(false,eval e X.env)]:=by rfl)
  (h2:starEach [.Call (.Name "reversed" p2) [e] [] pos2] X.env=[(false,eval (.Call (.Name "reversed" p2) [e] [] pos2) X.env)]:=by rfl) :
  QE X (.Call (.Attribute o "join" apos) [.Call (.Name "reversed" p2) [e] [] pos2] [] cpos) (jrev f g):=
 imE (pe_jrev hc hg2 hm2 ho he hbase hfew hline h1 h2) fun σ H Q q=>by
  obtain ⟨ρ,S,m,Rr,W,q⟩:=q
  refine ⟨ρ,S,m,Rr,W,q.bind.imp fun x S1 q v H1 m1 x1 w1 r1=>?_⟩
  split at q
  ·rename_i z
   cases rep_str r1
   refine ⟨z,rfl,ρ,S1,m1,Rr.ext x1,w1,(q.step x1).bind.imp fun y S2 q v H2 m2 x2 w2 r2=>?_⟩
   split at q
   ·rename_i ds hs
    split at q
    ·rename_i zs hz
     split at q
     ·rename_i hok
      obtain ⟨a,vs,rfl,h3,h4⟩:=sh_lst w2 r2 hs
      cases dStrs_of hz h4
      exact ⟨a,zs,rfl,h3,hok,q _ _ _ (x1.trans x2) w2 str_rep⟩
     ·exact q.elim
    ·exact q.elim
   ·exact q.elim
  ·exact q.elim
end
end Y
namespace L2
open PySem PySem.Spec PyProof.Rows
noncomputable abbrev cS:Str->Prop:=fun x=>(reprText x).length<=2500
section
variable {X:Cx}{e:Expr}{t:TE}{p1 p2 p3:Pos}{k:Nat}{c:Str}
theorem pe_fS (he:PE X e t) (hc:c.length<=100):PE X (.JoinedStr [.FormattedValue e 114 none p1,.Constant (.str c) k p2] p3) (tTxt cS t):=by
 intro pins s σ H Q I h
 refine wpAny_JoinedStr ?_
 show wpAny _ _ (eval (.FormattedValue e 114 none p1) X.env) _ _ _
 refine wpAny_FormattedValue_repr (thn (he pins s σ H _ I h) fun u s1 ⟨v,H1,I1,rv,x,ex,hx,q⟩=>?_)
 subst ex
 obtain ⟨tk,rfl⟩:=rv
 have e0:Str.empty.length=0:=rfl
 have l1:(Str.empty++reprText x).length<=sizeLine:=le_line (by rw [strLen_append];omega)
 have l2:(Str.empty++reprText x++c).length<=sizeLine:=le_line (by rw [strLen_append,strLen_append];omega)
 refine wpAny_pyReprObj_str ?_ (le_line (Nat.le_trans hx (by decide)))
 refine formatField_str (fun t' tk'=>⟨_,t',rfl,l1,?_⟩) (le_line (Nat.le_trans hx (by decide)))
 show wpAny _ _ (eval (.Constant (.str c) k p2) X.env) _ _ _
 exact Calls.Constant_str ⟨c,_,rfl,l2,l2,.str _,H1,((I1.tok _).tok _).tok _,⟨_,rfl⟩,q _⟩
end
end L2
namespace Y
open PySem L2 PySem.Spec PyProof.Rows
noncomputable def bS (z:Str):Bool:=decide ((reprText z).length<=2500)
theorem bS_of (z:Str) (h:bS z=true):cS z:=of_decide_eq_true h
section
variable {X:Cx}{C:Addr}{x:Str}{p pos:Pos}{e:Expr}{f:FE}{ns:List Str}{j:Nat}{t:Str}{p1 p2 p3 pos':Pos}
theorem qs_raiseS (c:XCl X.K C ns none) (hh:X.A.handled=none) (hg:Gl X x) (hm:X.mg x=some (.ref C)) (he:QE X e f) (ht:t.length<=100) (hdb:(x==("__debug__" : Str))=false:=by decide) (hpl:(backTo pos (starEach [] X.env)).any (·.1)=false:=by rfl) :
  QS X (.Raise (some (.Call (.Name x p) [.JoinedStr [.FormattedValue e 114 none p1,.Constant (.str t) j p2] p3] [] pos)) none pos') (sRaise0 C bS f):=imS (ps_raise c hh (pe_exc0 c hg hm (pac (pe_fS he ht) pa_nil) hdb)) (raise0_of bS_of)
end
end Y
namespace K31
open PySem L2 Y
open Y (bin)
noncomputable abbrev ks (c:Nat->Addr):List Addr:=[c 0,c 1,c 2,c 3,c 4,c 5,c 6,c 7,c 8,c 9,c 10,c 11]
noncomputable abbrev rs (c:Nat->Addr):List Addr:=[c 3]
noncomputable def b_is_written:FS:=(sSeq (sIf (orT (tst (bin (oI Z.gLt) (cal oLen (aCons (var 0) aNil)) (cst (.int 1)))) (tst (bin (oI Z.gGt) (cal oLen (aCons (var 0) aNil)) (cst (.int 60))))) (sRet (cst (.bl false))) sNil) (sSeq (sIf (andT (tst (bin (oEq false) (bin oIx (var 0) (cst (.int 0))) (cst (.str "0")))) (tst (bin (oEq true) (var 0) (cst (.str "0"))))) (sRet (cst (.bl false))) sNil) (sRet (cal (oAll true) (aCons (lcD (iSq (var 0)) (gN 0) tYs (bin (oIn false) (var 0) (cst (.str "0123456789"))) 1 []) aNil)))))
noncomputable def F_is_written:FF:=defE enP 1 1 (b_is_written)
noncomputable def b_show_number:FS:=(sSeq (sSet 1 (cL (lstF aNil))) (sSeq (sSet 2 (cal oAbs (aCons (var 0) aNil))) (sSeq (whF (tst (bin (oI Z.gGe) (var 2) (cst (.int 1000000000000000000000000000000000000000000000000000000000000)))) (sSeq (sAsg (cal oDm (aCons (var 2) (aCons (cst (.int 1000000000000000000000000000000000000000000000000000000000000)) aNil))) (gT 2 (gsCons (gN 2) (gsCons (gN 3) gsNil)))) (sExpr (mcF "list" (wrL gApp) (var 1) (aCons (mcF "str" oZf (cal oStr (aCons (var 3) aNil)) (aCons (cst (.int 60)) aNil)) aNil)))) 5) (sSeq (sExpr (mcF "list" (wrL gApp) (var 1) (aCons (cal oStr (aCons (var 2) aNil)) aNil))) (sSeq (sSet 4 (iteV (tst (bin (oI Z.gLt) (var 0) (cst (.int 0)))) (cst (.str "-")) (cst (.str "")))) (sRet (bin oAdd (var 4) (jrev (cst (.str "")) (var 1)))))))))
noncomputable def F_show_number:FF:=defE enP 1 5 (b_show_number)
noncomputable def b_full:FS:=(sRet (lcD (iSq (var 0)) (gT 2 (gsCons (gN 0) (gsCons (gN 1) gsNil))) (orT (notT (truT (var 0))) (orT (notT (truT (var 1))) (tst (bin (oI Z.gLe) (bin oIx (var 0) (cst (.int 0))) (bin oIx (var 1) (cst (.int 0))))))) (tupF (aCons (var 0) (aCons (var 1) aNil))) 2 []))
noncomputable def F_full:FF:=defE enP 1 1 (b_full)
noncomputable def b_reaches:FS:=(sRet (orV (notV (var 0)) (orV (notV (var 1)) (bin (oI Z.gLe) (bin oIx (var 1) (cst (.int 0))) (bin oAdd (bin oIx (var 0) (cst (.int 0))) (cst (.int 1)))))))
noncomputable def F_reaches:FF:=defE enP 2 2 (b_reaches)
noncomputable def b_end_sum:FS:=(sRet (iteV (andT (truT (var 0)) (truT (var 1))) (tupF (aCons (bin oAdd (bin oIx (var 0) (cst (.int 0))) (bin oIx (var 1) (cst (.int 0)))) aNil)) (tupF aNil)))
noncomputable def F_end_sum:FF:=defE enP 2 2 (b_end_sum)
noncomputable def b__law_cell:FS:=(sRet (iteV (tst (bin (oI Z.gLt) (var 1) (cal oLen (aCons (var 0) aNil)))) (bin oIx (var 0) (var 1)) (cst (.int 0))))
noncomputable def F__law_cell:FF:=defE enP 2 2 (b__law_cell)
noncomputable def b__law_take:FS:=(sSeq (sIf (tst (bin (oEq false) (cal oLen (aCons (var 0) aNil)) (cst (.int 2)))) (sExpr (mcF "list" (wrL gApp) (var 0) (aCons (bin oIx (var 0) (cst (.int 0))) aNil))) sNil) (sSeq (sIf (andT (tst (bin (oEq false) (bin oIx (var 0) (cst (.int 1))) (cst (.int 0)))) (tst (bin (oIn false) (bin oIx (var 0) (cst (.int 0))) (dL (lstF (aCons (cst (.int 0)) (aCons (un oNeg (cst (.int 1))) aNil))))))) (sSeq (sPut oPut (bin oIx (var 0) (cst (.int 2))) (var 0) (cst (.int 0))) (sPut oPut (cst (.int 1)) (var 0) (cst (.int 1)))) sNil) (sSeq (sSet 2 (bin oIx (var 0) (cst (.int 0)))) (sSeq (sIf (tst (bin (oEq false) (bin oIx (var 0) (cst (.int 1))) (cst (.int 0)))) (sSeq (sPut oPut (bin (oI gDivB) (var 2) (var 1)) (var 0) (cst (.int 0))) (sRet (bin (oI Z.gMod) (var 2) (var 1)))) sNil) (sSeq (sPut oPut (bin (oI Z.gMod) (bin oAdd (bin (oI Z.gMul) (bin (oI Z.gMod) (var 2) (cst (.int 2147483647))) (cst (.int 48271))) (cst (.int 12345))) (cst (.int 2147483629))) (var 0) (cst (.int 0))) (sSeq (sSet 3 (bin (oI Z.gMod) (bin (oI Z.gMul) (bin oIx (var 0) (cst (.int 0))) (bin oIx (var 0) (cst (.int 0)))) (cst (.int 2147483587)))) (sRet (bin (oI Z.gMod) (bin (oI Z.gDiv) (bin (oI Z.gPow) (var 3) (cst (.int 7))) (cst (.int 5))) (var 1)))))))))
noncomputable def F__law_take:FF:=defE enP 2 4 (b__law_take)
noncomputable def b__law_shown:FS:=(sSeq (sSet 1 (cst (.str ""))) (sSeq (sSet 2 (cal oAbs (aCons (var 0) aNil))) (sSeq (whF (orT (tst (bin (oI Z.gGt) (var 2) (cst (.int 0)))) (tst (bin (oEq false) (var 1) (cst (.str ""))))) (sSeq (sSet 1 (bin oAdd (bin oIx (cst (.str "0123456789")) (bin (oI Z.gMod) (var 2) (cst (.int 10)))) (var 1))) (sSet 2 (bin (oI Z.gDiv) (var 2) (cst (.int 10))))) 70) (sSeq (sIf (tst (bin (oI Z.gLt) (var 0) (cst (.int 0)))) (sSet 1 (bin oAdd (cst (.str "-")) (var 1))) sNil) (sRet (var 1))))))
noncomputable def F__law_shown:FF:=defE enP 1 3 (b__law_shown)
noncomputable def b__law_writes:FS:=(sSeq (sSet 1 (var 0)) (sSeq (sIf (tst (bin (oEq false) (cutF (var 0) oNo (oSome (cst (.int 1)))) (cst (.str "-")))) (sSet 1 (cutF (var 0) (oSome (cst (.int 1))) oNo)) sNil) (sSeq (sIf (orT (tst (bin (oEq false) (var 1) (cst (.str "")))) (orT (tst (bin (oI Z.gGt) (cal oLen (aCons (var 1) aNil)) (cst (.int 60)))) (andT (tst (bin (oEq false) (bin oIx (var 1) (cst (.int 0))) (cst (.str "0")))) (tst (bin (oEq true) (var 0) (cst (.str "0"))))))) (sRet (cst .non)) sNil) (sSeq (sSet 2 (cst (.int 0))) (sSeq (sFor (iSq (var 1)) (gN 3) (sSeq (sIf (tst (bin (oIn true) (var 3) (cst (.str "0123456789")))) (sRet (cst .non)) sNil) (sSet 2 (bin oAdd (bin (oI Z.gMul) (cst (.int 10)) (var 2)) (mcF "str" oSix (cst (.str "0123456789")) (aCons (var 3) aNil)))))) (sSeq (sIf (tst (bin (oEq true) (var 1) (var 0))) (sRet (bin (oI Z.gSub) (cst (.int 0)) (var 2))) sNil) (sRet (var 2))))))))
noncomputable def F__law_writes:FF:=defE enP 1 4 (b__law_writes)
noncomputable def b__law_word_of (c:Nat->Addr):FS:=(sSeq (sSet 1 (dL (lstF (aCons (tupF (aCons (cst (.str "text")) (aCons (un (oIsX (ks c) (fun a=>decide (a=(c 3)))) (var 0)) aNil))) (aCons (tupF (aCons (cst (.str "kind")) (aCons (un (oIsX (ks c) (fun a=>decide (a=(c 2)))) (var 0)) aNil))) (aCons (tupF (aCons (cst (.str "taken")) (aCons (un (oIsX (ks c) (fun a=>decide (a=(c 1)))) (var 0)) aNil))) aNil)))))) (sSeq (sSet 1 (dL (binL oCat (var 1) (dL (lstF (aCons (tupF (aCons (cst (.str "ring")) (aCons (un (oIsX (ks c) (fun a=>decide (a=(c 8)))) (var 0)) aNil))) (aCons (tupF (aCons (cst (.str "name")) (aCons (un (oIsX (ks c) (fun a=>decide (a=(c 0)))) (var 0)) aNil))) (aCons (tupF (aCons (cst (.str "many")) (aCons (un (oIsX (ks c) (fun a=>decide (a=(c 6)))) (var 0)) aNil))) aNil)))))))) (sSeq (sSet 1 (dL (binL oCat (var 1) (dL (lstF (aCons (tupF (aCons (cst (.str "bodies")) (aCons (cal (oIsT (ks c) [(c 9),(c 7),(c 5),(c 11),(c 4),(c 10)] (fun a=>decide (a∈[(c 9),(c 7),(c 5),(c 11),(c 4),(c 10)]))) (aCons (var 0) (aCons (tupF (aCons (cstA (.k (.ref (c 9)))) (aCons (cstA (.k (.ref (c 7)))) (aCons (cstA (.k (.ref (c 5)))) (aCons (cstA (.k (.ref (c 11)))) (aCons (cstA (.k (.ref (c 4)))) (aCons (cstA (.k (.ref (c 10)))) aNil))))))) aNil))) aNil))) aNil)))))) (sSeq (sSet 2 (lcD (iSq (var 1)) (gT 2 (gsCons (gN 0) (gsCons (gN 1) gsNil))) (truT (var 1)) (var 0) 2 [])) (sSeq (sIf (orT (tst (bin (oEq true) (cal oLen (aCons (var 2) aNil)) (cst (.int 1)))) (notT (truT (un (oIsX (ks c) (fun _=>true)) (var 0))))) (sRet (cst (.str "other"))) sNil) (sRet (bin oIx (var 2) (cst (.int 0)))))))))
noncomputable def F__law_word_of (c:Nat->Addr):FF:=defE enP 1 3 (b__law_word_of c)
noncomputable def b_read_number (c:Nat->Addr):FS:=(sSeq (sSet 1 (iteV (truT (mcF "str" oSw (var 0) (aCons (cst (.str "-")) aNil))) (cutF (var 0) (oSome (cst (.int 1))) oNo) (var 0))) (sSeq (sIf (orT (tst (bin (oEq false) (var 0) (cst (.str "-0")))) (notT (truT (callF F_is_written (aCons (var 1) aNil))))) (sRaise0 (c 3) bS (var 0)) sNil) (sRet (cal oIntS (aCons (var 0) aNil)))))
noncomputable def F_read_number (c:Nat->Addr):FF:=defX enP 1 2 (b_read_number c)
noncomputable def b_spans_formed:FS:=(sSeq (sSet 1 (cL (lstF aNil))) (sSeq (sFor (iSq (dL (srt1 (callF F_full (aCons (var 0) aNil))))) (gT 2 (gsCons (gN 2) (gsCons (gN 3) gsNil))) (sIf (andT (truT (var 1)) (truT (callF F_reaches (aCons (bin oIx (bin oIx (var 1) (un oNeg (cst (.int 1)))) (cst (.int 1))) (aCons (var 2) aNil))))) nope (sExpr (mcF "list" (wrL gApp) (var 1) (aCons (tupF (aCons (var 2) (aCons (var 3) aNil))) aNil))))) (sRet (cal oTuple (aCons (var 1) aNil)))))
noncomputable def F_spans_formed:FF:=defE enP 1 4 (b_spans_formed)
noncomputable def b__law_number:FS:=(sSeq (sIf (tst (bin (oEq false) (callF F__law_take (aCons (var 0) (aCons (cst (.int 4)) aNil))) (cst (.int 0)))) (sRet (bin oAdd (bin (oI Z.gSub) (callF F__law_take (aCons (var 0) (aCons (bin (oI Z.gSub) (bin (oI Z.gMul) (cst (.int 2)) (bin (oI Z.gPow) (cst (.int 10)) (cst (.int 60)))) (cst (.int 1))) aNil))) (bin (oI Z.gPow) (cst (.int 10)) (cst (.int 60)))) (cst (.int 1)))) sNil) (sRet (bin (oI Z.gSub) (callF F__law_take (aCons (var 0) (aCons (cst (.int 25)) aNil))) (cst (.int 12)))))
noncomputable def F__law_number:FF:=defE enP 1 1 (b__law_number)
noncomputable def b__law_spoiled:FS:=(sSeq (sSet 2 (callF F__law_take (aCons (var 1) (aCons (cst (.int 6)) aNil)))) (sSeq (sSet 3 (callF F__law_take (aCons (var 1) (aCons (bin oAdd (cal oLen (aCons (var 0) aNil)) (cst (.int 1))) aNil)))) (sSeq (sSet 4 (bin oIx (cst (.str "0123456789-+_ .,\nae")) (callF F__law_take (aCons (var 1) (aCons (cst (.int 19)) aNil))))) (sSeq (sIf (tst (bin (oEq false) (var 2) (cst (.int 0)))) (sRet (bin oAdd (bin oAdd (cutF (var 0) oNo (oSome (var 3))) (var 4)) (cutF (var 0) (oSome (var 3)) oNo))) sNil) (sSeq (sIf (tst (bin (oEq false) (var 2) (cst (.int 1)))) (sRet (bin oAdd (cutF (var 0) oNo (oSome (var 3))) (cutF (var 0) (oSome (bin oAdd (var 3) (cst (.int 1)))) oNo))) sNil) (sSeq (sIf (tst (bin (oEq false) (var 2) (cst (.int 2)))) (sRet (bin oAdd (bin oAdd (cutF (var 0) oNo (oSome (var 3))) (var 4)) (cutF (var 0) (oSome (bin oAdd (var 3) (cst (.int 1)))) oNo))) sNil) (sSeq (sIf (tst (bin (oEq false) (var 2) (cst (.int 3)))) (sRet (bin oAdd (var 0) (bin oMulS (cst (.str "7")) (callF F__law_take (aCons (var 1) (aCons (cst (.int 66)) aNil)))))) sNil) (sSeq (sIf (tst (bin (oEq false) (var 2) (cst (.int 4)))) (sRet (bin oAdd (bin oMulS (cst (.str "0")) (callF F__law_take (aCons (var 1) (aCons (cst (.int 3)) aNil)))) (var 0))) sNil) (sRet (var 0))))))))))
noncomputable def F__law_spoiled:FF:=defE enP 2 5 (b__law_spoiled)
noncomputable def b_spans_sum:FS:=(sRet (callF F_spans_formed (aCons (lc2D (iSq (callF F_full (aCons (var 0) aNil))) (gT 2 (gsCons (gN 0) (gsCons (gN 1) gsNil))) tYs (iSq (callF F_full (aCons (var 4) aNil))) (gT 2 (gsCons (gN 2) (gsCons (gN 3) gsNil))) tYs (tupF (aCons (callF F_end_sum (aCons (var 0) (aCons (var 2) aNil))) (aCons (callF F_end_sum (aCons (var 1) (aCons (var 3) aNil))) aNil))) 4 [1]) aNil)))
noncomputable def F_spans_sum:FF:=defE enP 2 2 (b_spans_sum)
noncomputable def b__law_read (c:Nat->Addr):FS:=(sSeq (sSet 1 (cst .non)) (sSeq (sTryFn (fun a=>decide (a∈rs c)) 2 1 "told" (F_read_number c) (aCons (var 0) aNil) (sSet 1 (tupF (aCons (cst (.str "refused")) (aCons (callF (F__law_word_of c) (aCons (var 2) aNil)) aNil))))) (sRet (var 1))))
noncomputable def F__law_read (c:Nat->Addr):FF:=defE enP 1 3 (b__law_read c)
noncomputable def b__law_right (c:Nat->Addr):FS:=(sSeq (sSet 1 (callF F__law_writes (aCons (var 0) aNil))) (sSeq (sSet 2 (callF (F__law_read c) (aCons (var 0) aNil))) (sSeq (sIf (tst (bin (oIsN false) (var 1) (cst .non))) (sRet (bin (oEq false) (var 2) (tupF (aCons (cst (.str "refused")) (aCons (cst (.str "text")) aNil))))) sNil) (sRet (andV (bin (oEq false) (var 2) (tupF (aCons (cst (.str "told")) (aCons (var 1) aNil)))) (notV (un (oIs "bool") (bin oIx (var 2) (cst (.int 1))))))))))
noncomputable def F__law_right (c:Nat->Addr):FF:=defE enP 1 3 (b__law_right c)
noncomputable def b__law_great (c:Nat->Addr):FS:=(sSeq (sIf (tst (bin (oEq false) (var 1) (cst (.int 1)))) (sSet 0 (bin (oI Z.gSub) (cst (.int 0)) (var 0))) sNil) (sSeq (sSet 2 (bin oIx (bin oIx (bin oIx (callF F_spans_sum (aCons (dL (lstF (aCons (tupF (aCons (tupF (aCons (var 0) aNil)) (aCons (tupF (aCons (var 0) aNil)) aNil))) aNil))) (aCons (dL (lstF (aCons (tupF (aCons (tupF (aCons (var 0) aNil)) (aCons (tupF (aCons (var 0) aNil)) aNil))) aNil))) aNil))) (cst (.int 0))) (cst (.int 0))) (cst (.int 0)))) (sSeq (sSet 3 (callF F_show_number (aCons (var 2) aNil))) (sRet (andV (bin (oEq false) (var 3) (callF F__law_shown (aCons (bin (oI Z.gMul) (cst (.int 2)) (var 0)) aNil))) (callF (F__law_right c) (aCons (var 3) aNil)))))))
noncomputable def F__law_great (c:Nat->Addr):FF:=defE enP 2 4 (b__law_great c)
noncomputable def b_law (c:Nat->Addr):FS:=(sSeq (sFor (iRg (cal (oMax true) (aCons (cst (.int 1)) (aCons (bin (oI Z.gSub) (cal (oMax false) (aCons (cal oLen (aCons (var 0) aNil)) (aCons (cst (.int 41)) aNil))) (cst (.int 1))) aNil)))) (gN 1) (sSeq (sSet 2 (cL (lstF (aCons (callF F__law_cell (aCons (var 0) (aCons (bin oAdd (cst (.int 1)) (var 1)) aNil))) (aCons (bin (oI Z.gMod) (callF F__law_cell (aCons (var 0) (aCons (cst (.int 0)) aNil))) (cst (.int 2))) aNil))))) (sSeq (sSet 3 (callF F__law_number (aCons (var 2) aNil))) (sSeq (sSet 4 (callF F_show_number (aCons (var 3) aNil))) (sSeq (sIf (orT (tst (bin (oEq true) (var 4) (callF F__law_shown (aCons (var 3) aNil)))) (notT (truT (callF (F__law_right c) (aCons (var 4) aNil))))) (sRet (cst (.bl false))) sNil) (sSeq (sSet 5 (callF F__law_spoiled (aCons (var 4) (aCons (var 2) aNil)))) (sSeq (sIf (tst (bin (oEq false) (callF F__law_take (aCons (var 2) (aCons (cst (.int 3)) aNil))) (cst (.int 0)))) (sSet 5 (callF F__law_spoiled (aCons (var 5) (aCons (var 2) aNil)))) sNil) (sIf (orT (notT (truT (callF (F__law_right c) (aCons (var 5) aNil)))) (notT (truT (callF (F__law_great c) (aCons (bin (oI Z.gSub) (bin (oI Z.gSub) (bin (oI Z.gPow) (cst (.int 10)) (cst (.int 60))) (cst (.int 1))) (callF F__law_take (aCons (var 2) (aCons (cst (.int 1000)) aNil)))) (aCons (callF F__law_take (aCons (var 2) (aCons (cst (.int 2)) aNil))) aNil)))))) (sRet (cst (.bl false))) sNil)))))))) (sRet (callF (F__law_right c) (aCons (cst (.str "")) aNil))))
noncomputable def F_law (c:Nat->Addr):FF:=defE enP 1 6 (b_law c)
end K31
namespace YH
open PySem PySem.W L2
theorem fun_of {K:Frag}{f:Addr}{x q:Str}{st:Stmt}(h1:fnAt K f=fnV x q st) (h2:cdB K f q=true):Fun K x q st f (fdAt K f):=by
 obtain ⟨c,k⟩:=Bool.and_eq_true_iff.mp h2
 unfold fnAt at h1
 unfold fdAt at c ⊢
 cases hl:K.lookup f with
 |none=>rw [hl] at h1;cases h1
 |some o=>
  obtain ⟨oc,od,da,osl⟩:=o
  rw [hl] at h1 c
  cases da with
  |func fd=>
   have e:=Option.some.inj h1
   obtain ⟨n1,n2,n3,n4,n5,n6,n7,n8,n9,n10,n11,n12,n13,n14,n15⟩:=fd
   simp only [fnN,fnOf,FuncData.mk.injEq] at e
   obtain ⟨rfl,rfl,rfl,rfl,rfl,rfl,rfl,rfl,_,_,_,_,_,_,rfl⟩:=e
   exact ⟨⟨oc,od,n9,n10,n11,n12,n13,n14,osl,rfl,hl,c⟩,k⟩
  |_=>cases h1
theorem gl_of {K:Frag}{h:Heap}{mg:Str->Option Value}{x:Str}(X:K.In h) (G:h.Ns mainGlobals mg) (e:glB K x=true):mg x=some (.ref (gA K x)):=mg_of X G (by
 unfold glB at e
 unfold gA
 split at e
 ·rename_i a q;rw [q]
 ·cases e)
theorem no_of {K:Frag}{h:Heap}{mg:Str->Option Value}{x:Str}(X:K.In h) (G:h.Ns mainGlobals mg) (e:noB K x=true):mg x=none:=mg_none_of X G (by
 unfold noB at e
 split at e
 ·rename_i q;exact q
 ·cases e)
noncomputable def strU (K:Frag) (x:Str):Tok:=match nsIn K mainGlobals x with
 |some (some (.str _ u))=>u
 |some (some (.int _ u))=>u
 |_=>0
theorem str_of {K:Frag}{h:Heap}{mg:Str->Option Value}{x z:Str}(X:K.In h) (G:h.Ns mainGlobals mg) (e:strB K x z=true):mg x=some (.str z (strU K x)):=mg_of X G (by
 unfold strB at e
 unfold strU
 split at e
 ·rename_i y u q;rw [q,of_decide_eq_true e]
 ·cases e)
theorem int_of {K:Frag}{h:Heap}{mg:Str->Option Value}{x:Str}{z:Int}(X:K.In h) (G:h.Ns mainGlobals mg) (e:intB K x z=true):mg x=some (.int z (strU K x)):=mg_of X G (by
 unfold intB at e
 unfold strU
 split at e
 ·rename_i y u q;rw [q,of_decide_eq_true e]
 ·cases e)
theorem kx_of {K:Frag}{ks:List Addr}{ns:List Str}(h:kxB K ks ns=true):∀a∈ks,∃ini,XCl K a ns ini:=fun a ha=>by
 rcases Bool.or_eq_true_iff.mp (List.all_eq_true.mp h a ha) with q | q
 ·exact ⟨_,xcl_of q⟩
 ·exact ⟨_,xcl_of q⟩
theorem isi_of {K:Frag}{ks:List Addr}{ns:List Str}{c:Value}{isD:Addr->Bool}(h1:kxB K ks ns=true) (h2:isB K ks c isD=true) (hns:("__class__" : Str)∈ns/\("__getattribute__" : Str)∈ns/\("__getattr__" : Str)∈ns):Y.Isi K ks c isD:=fun a ha=>by
 obtain ⟨ini,x⟩:=kx_of h1 a ha
 exact ⟨⟨ns,ini,x,hns⟩,beq_iff_eq.mp (List.all_eq_true.mp h2 a ha)⟩
theorem ct_of {K:Frag}{rs:List Addr}{D:Addr}{ns:List Str}(h:ctB K rs D ns=true):∀C0,decide (C0∈rs)=true->∃ns ini,XCl K C0 ns ini/\XSub K C0 D:=fun a ha=>by
 obtain ⟨h1,h2⟩:=Bool.and_eq_true_iff.mp h
 have hm:=of_decide_eq_true ha
 obtain ⟨ini,x⟩:=kx_of h1 a hm
 exact ⟨ns,ini,x,xsub_of (List.all_eq_true.mp h2 a hm)⟩
theorem pick {l:List Bool}(h:l.all id=true) (i:Nat) {b:Bool}(e:l[i]?=some b):b=true:=List.all_eq_true.mp h b (List.mem_of_getElem? e)
theorem pickF {α:Type}{l m:List α}(h:l=m) (i:Nat) {a b:α}(e1:l[i]?=some a) (e2:m[i]?=some b):a=b:=by
 rw [h,e2] at e1
 exact (Option.some.inj e1).symm
theorem walk_ofE {l:OpenLaw}{n k:Nat}{q:Program}{loose:List Str}{XP:(Str->Option Value)->Heap->Prop}{YP:World->Heap->Prop}{d:DefRec}{CX:CXT}{sp:Frag->Sp}{x:Str}
  (hn:l.most=some n) (hn2:n<=sizeLine) (hdf:d.params.defaults=[]) (hr:Room k callerA)
  (F:∀(w:World) (h:Heap),YP w h->∃K:Frag,K.In h/\∀(mg:Str->Option Value) (fa:Addr),h.Ns mainGlobals mg->mg d.name=some (.ref fa) ->
   ∃fd:FuncData,(∀(s:Shared) (u:Value),BindsTo s fd ⟨[u],[]⟩ [(x,u)])/\∀base:Heap,K.In base->base.Ns mainGlobals mg->FnOk l.prog w K mg base CX k fa fd [x] (sp K))
  (hsp:∀(K:Frag) (H:Hp) (a:Addr) (ns:List Int),ns.length<=n->Only H->SqL K H a (ns.map V.int)->sp K [.ref a] H (fun v _=>v=.bl true) fun _ _ _=>False)
  (hCX:∀(H:Hp) (s:Shared) (e:Value) (s':Shared),CX [] H s (fun _ _ _=>False) e s'->False) :
  WalkO q loose XP YP l.row.toRowW d [] (fun f vs=>PySem.call f vs):=by
 refine Att.attach_call hn hdf fun w s₀ s₁ mg mb fa o pm cd doc a vs ns G Y ho hd hcd hmg hobj hints hlen hg=>?_
 obtain ⟨K,KX,F⟩:=F w _ Y
 obtain ⟨fd,hb,hF⟩:=F mg fa G.T.g hmg
 exact law_call KX G.T.g G.T.b G.T.builtins G.T.nolimit hg hobj hints (Nat.le_trans hlen hn2) hr hF hb (fun H hO hS=>hsp K H a ns hlen hO hS) fun H e s'=>hCX H s₁ e s'
end YH
namespace YH
open PySem PySem.W L2 PySem.Spec PyProof.Rows
theorem isiT_of {K:Frag}{ks cs:List Addr}{ns:List Str}{isD:Addr->Bool}(h1:kxB K ks ns=true) (h2:isTB K ks cs isD=true) (hns:("__class__" : Str)∈ns/\("__getattribute__" : Str)∈ns/\("__getattr__" : Str)∈ns):Y.IsiT K ks cs isD:=fun a ha=>by
 obtain ⟨ini,x⟩:=kx_of h1 a ha
 exact ⟨⟨ns,ini,x,hns⟩,beq_iff_eq.mp (List.all_eq_true.mp h2 a ha)⟩
end YH
namespace Y
open PySem L2 PySem.Spec PyProof.Rows
theorem qe_cls {X:Cx}{x:Str}{D:Addr}{p:Pos}(hm:X.mg x=some (.ref D)) (hg:Gl X x:=by rfl) (hd:(x==("__debug__" : Str))=false:=by decide):QE X (.Name x p) (cstA (.k (.ref D))):=
 qe_cstA (pe_glob (v:=.ref D) hg hm rfl hd) fun m H=>RA.k_iff.mpr rfl
end Y
namespace K31
open PySem L2 Y
open Y (bin)
theorem bt_VE:bootBuiltins "ValueError" = some (.type "ValueError"):=by decide +kernel
theorem c0:FnScope ["figures"] ["figures"] (defScope s0):=scm
theorem c1:FnScope ["text", "figures"] ["text"] (defScope s1):=scm
theorem c2:FnScope ["number", "blocks", "rest", "block", "sign"] ["number"] (defScope s2):=scm
theorem c3:FnScope ["spans"] ["spans"] (defScope s3):=scm
theorem c4:FnScope ["high", "low"] ["high", "low"] (defScope s4):=scm
theorem c5:FnScope ["spans", "told", "low", "high"] ["spans"] (defScope s5):=scm
theorem c6:FnScope ["one", "other"] ["one", "other"] (defScope s6):=scm
theorem c7:FnScope ["one", "other"] ["one", "other"] (defScope s7):=scm
theorem c8:FnScope ["_law_script", "_law_k"] ["_law_script", "_law_k"] (defScope s8):=scm
theorem c9:FnScope ["_law_purse", "_law_many", "_law_number_here", "_law_mixed"] ["_law_purse", "_law_many"] (defScope s9):=scm
theorem c10:FnScope ["_law_purse"] ["_law_purse"] (defScope s10):=scm
theorem c11:FnScope ["_law_number_here", "_law_found", "_law_rest"] ["_law_number_here"] (defScope s11):=scm
theorem c12:FnScope ["_law_text", "_law_figures", "_law_number_here", "_law_letter"] ["_law_text"] (defScope s12):=scm
theorem c13:FnScope ["_law_text", "_law_purse", "_law_way", "_law_at", "_law_letter"] ["_law_text", "_law_purse"] (defScope s13):=scm
theorem c14:FnScope ["_law_e", "_law_some", "_law_found"] ["_law_e"] (defScope s14):=scm
theorem c15:FnScope ["_law_text", "_law_found", "_law_e"] ["_law_text"] (defScope s15):=scm
theorem c16:FnScope ["_law_text", "_law_due", "_law_found"] ["_law_text"] (defScope s16):=scm
theorem c17:FnScope ["_law_number_here", "_law_below", "_law_told", "_law_text"] ["_law_number_here", "_law_below"] (defScope s17):=scm
theorem c18:FnScope ["_law_script", "_law_k", "_law_purse", "_law_number_here", "_law_text", "_law_other"] ["_law_script"] (defScope s18):=scm
set_option genInjectivity false in
structure Adr where
 c:Nat->Addr
 (f0 f1 f2 f3 f4 f5 f6 f7 f8 f9 f10 f11 f12 f13 f14 f15 f16 f17 f18 f19 f20 f21 f22:Addr)
 (d0 d1 d2 d3 d4 d5 d6 d7 d8 d9 d10 d11 d12 d13 d14 d15 d16 d17 d18 d19 d20 d21 d22:FuncData)
 uFIGURES:Tok
 uMOST_FIGURES:Tok
 uBLOCK_FIGURES:Tok
 uBLOCK:Tok
structure Txt (K:PySem.W.Frag) (mg:Str->Option Value) (t:Adr):Prop where
 mNoName:mg "NoName" = some (.ref (t.c 0))
 mTaken:mg "Taken" = some (.ref (t.c 1))
 mNoKind:mg "NoKind" = some (.ref (t.c 2))
 mNoText:mg "NoText" = some (.ref (t.c 3))
 mNoPlaces:mg "NoPlaces" = some (.ref (t.c 4))
 mNoBody:mg "NoBody" = some (.ref (t.c 5))
 mTooMany:mg "TooMany" = some (.ref (t.c 6))
 mHeld:mg "Held" = some (.ref (t.c 7))
 mRing:mg "Ring" = some (.ref (t.c 8))
 mAlike:mg "Alike" = some (.ref (t.c 9))
 mNoTerm:mg "NoTerm" = some (.ref (t.c 10))
 mNoLine:mg "NoLine" = some (.ref (t.c 11))
 mFitError:mg "FitError" = some (.ref (t.c 12))
 m0:mg "is_written" = some (.ref t.f0)
 m1:mg "read_number" = some (.ref t.f1)
 m2:mg "show_number" = some (.ref t.f2)
 m3:mg "full" = some (.ref t.f3)
 m4:mg "reaches" = some (.ref t.f4)
 m5:mg "spans_formed" = some (.ref t.f5)
 m6:mg "end_sum" = some (.ref t.f6)
 m7:mg "spans_sum" = some (.ref t.f7)
 m8:mg "_law_cell" = some (.ref t.f8)
 m9:mg "_law_take" = some (.ref t.f9)
 m10:mg "_law_number" = some (.ref t.f10)
 m11:mg "_law_shown" = some (.ref t.f11)
 m12:mg "_law_writes" = some (.ref t.f12)
 m13:mg "_law_spoiled" = some (.ref t.f13)
 m14:mg "_law_word_of" = some (.ref t.f14)
 m15:mg "_law_read" = some (.ref t.f15)
 m16:mg "_law_right" = some (.ref t.f16)
 m17:mg "_law_great" = some (.ref t.f17)
 m18:mg "law" = some (.ref t.f18)
 FIGURES:mg "FIGURES" = some (.str "0123456789" t.uFIGURES)
 MOST_FIGURES:mg "MOST_FIGURES" = some (.int 60 t.uMOST_FIGURES)
 BLOCK_FIGURES:mg "BLOCK_FIGURES" = some (.int 60 t.uBLOCK_FIGURES)
 BLOCK:mg "BLOCK" = some (.int 1000000000000000000000000000000000000000000000000000000000000 t.uBLOCK)
 xRing:XCl K (t.c 8) nx (some t.f19)
 yRing:PySem.W.isFn K (.ref t.f19)=true
 xAlike:XCl K (t.c 9) nx (some t.f20)
 yAlike:PySem.W.isFn K (.ref t.f20)=true
 xNoTerm:XCl K (t.c 10) nx (some t.f21)
 yNoTerm:PySem.W.isFn K (.ref t.f21)=true
 xNoLine:XCl K (t.c 11) nx (some t.f22)
 yNoLine:PySem.W.isFn K (.ref t.f22)=true
 xNoName:XCl K (t.c 0) nx none
 xTaken:XCl K (t.c 1) nx none
 xNoKind:XCl K (t.c 2) nx none
 xNoText:XCl K (t.c 3) nx none
 xNoPlaces:XCl K (t.c 4) nx none
 xNoBody:XCl K (t.c 5) nx none
 xTooMany:XCl K (t.c 6) nx none
 xHeld:XCl K (t.c 7) nx none
 xFitError:XCl K (t.c 12) nx none
 iNoName:Isi K (ks t.c) (.ref (t.c 0)) (fun a=>decide (a=(t.c 0)))
 iTaken:Isi K (ks t.c) (.ref (t.c 1)) (fun a=>decide (a=(t.c 1)))
 iNoKind:Isi K (ks t.c) (.ref (t.c 2)) (fun a=>decide (a=(t.c 2)))
 iNoText:Isi K (ks t.c) (.ref (t.c 3)) (fun a=>decide (a=(t.c 3)))
 iNoPlaces:Isi K (ks t.c) (.ref (t.c 4)) (fun a=>decide (a=(t.c 4)))
 iNoBody:Isi K (ks t.c) (.ref (t.c 5)) (fun a=>decide (a=(t.c 5)))
 iTooMany:Isi K (ks t.c) (.ref (t.c 6)) (fun a=>decide (a=(t.c 6)))
 iHeld:Isi K (ks t.c) (.ref (t.c 7)) (fun a=>decide (a=(t.c 7)))
 iRing:Isi K (ks t.c) (.ref (t.c 8)) (fun a=>decide (a=(t.c 8)))
 iAlike:Isi K (ks t.c) (.ref (t.c 9)) (fun a=>decide (a=(t.c 9)))
 iNoTerm:Isi K (ks t.c) (.ref (t.c 10)) (fun a=>decide (a=(t.c 10)))
 iNoLine:Isi K (ks t.c) (.ref (t.c 11)) (fun a=>decide (a=(t.c 11)))
 iFitError:Isi K (ks t.c) (.ref (t.c 12)) (fun _=>true)
 iValueError:Isi K (ks t.c) (.type "ValueError") (fun _=>true)
 iT:IsiT K (ks t.c) [(t.c 9),(t.c 7),(t.c 5),(t.c 11),(t.c 4),(t.c 10)] (fun a=>decide (a∈[(t.c 9),(t.c 7),(t.c 5),(t.c 11),(t.c 4),(t.c 10)]))
 ct:∀C0,decide (C0∈rs t.c)=true->∃ns ini,XCl K C0 ns ini/\XSub K C0 (t.c 12)
 nd:(ks t.c).Nodup
 F0:Fun K "is_written" "is_written" s0 t.f0 t.d0
 F1:Fun K "read_number" "read_number" s1 t.f1 t.d1
 F2:Fun K "show_number" "show_number" s2 t.f2 t.d2
 F3:Fun K "full" "full" s3 t.f3 t.d3
 F4:Fun K "reaches" "reaches" s4 t.f4 t.d4
 F5:Fun K "spans_formed" "spans_formed" s5 t.f5 t.d5
 F6:Fun K "end_sum" "end_sum" s6 t.f6 t.d6
 F7:Fun K "spans_sum" "spans_sum" s7 t.f7 t.d7
 F8:Fun K "_law_cell" "_law_cell" s8 t.f8 t.d8
 F9:Fun K "_law_take" "_law_take" s9 t.f9 t.d9
 F10:Fun K "_law_number" "_law_number" s10 t.f10 t.d10
 F11:Fun K "_law_shown" "_law_shown" s11 t.f11 t.d11
 F12:Fun K "_law_writes" "_law_writes" s12 t.f12 t.d12
 F13:Fun K "_law_spoiled" "_law_spoiled" s13 t.f13 t.d13
 F14:Fun K "_law_word_of" "_law_word_of" s14 t.f14 t.d14
 F15:Fun K "_law_read" "_law_read" s15 t.f15 t.d15
 F16:Fun K "_law_right" "_law_right" s16 t.f16 t.d16
 F17:Fun K "_law_great" "_law_great" s17 t.f17 t.d17
 F18:Fun K "law" "law" s18 t.f18 t.d18
 F19:Fun K "__init__" "Ring.__init__" s19 t.f19 t.d19
 F20:Fun K "__init__" "Alike.__init__" s20 t.f20 t.d20
 F21:Fun K "__init__" "NoTerm.__init__" s21 t.f21 t.d21
 F22:Fun K "__init__" "NoLine.__init__" s22 t.f22 t.d22
 ValueError:mg "ValueError" = none
 abs:mg "abs" = none
 all:mg "all" = none
 bool:mg "bool" = none
 divmod:mg "divmod" = none
 int:mg "int" = none
 isinstance:mg "isinstance" = none
 len:mg "len" = none
 list:mg "list" = none
 max:mg "max" = none
 min:mg "min" = none
 range:mg "range" = none
 reversed:mg "reversed" = none
 sorted:mg "sorted" = none
 str:mg "str" = none
 tuple:mg "tuple" = none
section
variable {P:Program}{w:World}{K:PySem.W.Frag}{mg:Str->Option Value}{base:Heap}{t:Adr}(T:Txt K mg t)
include T
theorem b0:Binds K t.d0 ["figures"] []:=bd T.F0
theorem b1:Binds K t.d1 ["text"] []:=bd T.F1
theorem b2:Binds K t.d2 ["number"] []:=bd T.F2
theorem b3:Binds K t.d3 ["spans"] []:=bd T.F3
theorem b4:Binds K t.d4 ["high", "low"] []:=bd T.F4
theorem b5:Binds K t.d5 ["spans"] []:=bd T.F5
theorem b6:Binds K t.d6 ["one", "other"] []:=bd T.F6
theorem b7:Binds K t.d7 ["one", "other"] []:=bd T.F7
theorem b8:Binds K t.d8 ["_law_script", "_law_k"] []:=bd T.F8
theorem b9:Binds K t.d9 ["_law_purse", "_law_many"] []:=bd T.F9
theorem b10:Binds K t.d10 ["_law_purse"] []:=bd T.F10
theorem b11:Binds K t.d11 ["_law_number_here"] []:=bd T.F11
theorem b12:Binds K t.d12 ["_law_text"] []:=bd T.F12
theorem b13:Binds K t.d13 ["_law_text", "_law_purse"] []:=bd T.F13
theorem b14:Binds K t.d14 ["_law_e"] []:=bd T.F14
theorem b15:Binds K t.d15 ["_law_text"] []:=bd T.F15
theorem b16:Binds K t.d16 ["_law_text"] []:=bd T.F16
theorem b17:Binds K t.d17 ["_law_number_here", "_law_below"] []:=bd T.F17
theorem q0 : FnOk P w K mg base CX0 1 t.f0 t.d0 ["figures"] (spF K (F_is_written)) := by
 have h := @q_def _ P w mg base _ enP_ok _ _ _ _ _ _ _ 0 _ T.F0 c0 fun cdv A outer s H E hr => (qss_cons rfl (qs_if (QW.qt (qw_or (qt_lt (qe_len rfl T.len (qa_cons (qv 0) qa_nil)) qe_int) (qw_or1 (qt_gt (qe_len rfl T.len (qa_cons (qv 0) qa_nil)) (qe_cst (pe_glob (v := .int 60) rfl T.MOST_FIGURES ⟨_, rfl⟩) fun _ _ => int_rep))))) (qss_one rfl (qs_ret qe_bl)) qss_nil) (qss_cons rfl (qs_if (QW.qt (qw_and (qt_eq hr (qe_item hr (qv 0) qe_int (fun _ _ => rfl)) qe_str) (qw_and1 (qt_ne hr (qv 0) qe_str)))) (qss_one rfl (qs_ret qe_bl)) qss_nil) (qss_one rfl (qs_ret (qe_all rfl rfl T.all (qa_cons (qe_lcD (N := ["sign"]) (n := 1) (js := []) rfl ⟨rfl, rfl, rfl, rfl, rfl, rfl⟩ (qi_any (qv 0)) (fun _ _ _ => (qg_name (i := 0) (show List.Nodup (["sign"] : List Str) from by decide +kernel) rfl (Or.inl rfl))) (fun _ _ _ => qts_nil) (fun _ _ _ => (qe_in hr (qv 0) (qe_cst (pe_glob (v := .str "0123456789") rfl T.FIGURES ⟨_, rfl⟩) fun _ _ => str_rep)))) qa_nil))))))
 exact h
theorem q2 : FnOk P w K mg base CX0 1 t.f2 t.d2 ["number"] (spF K (F_show_number)) := by
 have h := @q_def _ P w mg base _ enP_ok _ _ _ _ _ _ _ 0 _ T.F2 c2 fun cdv A outer s H E hr => (qss_cons rfl (qs_set (i := 1) c2.nd rfl (Or.inl rfl) (qe_C (ql_lst qa_nil))) (qss_cons rfl (qs_set (i := 2) c2.nd rfl (Or.inl rfl) (qe_abs rfl T.abs (qa_cons (qv 0) qa_nil))) (qss_cons rfl (qs_while 5 PassesOwn.never (qt_ge (qv 2) (qe_cst (pe_glob (v := .int 1000000000000000000000000000000000000000000000000000000000000) rfl T.BLOCK ⟨_, rfl⟩) fun _ _ => int_rep)) (qss_cons rfl (qs_asg (qe_dm rfl T.divmod (qa_cons (qv 2) (qa_cons (qe_cst (pe_glob (v := .int 1000000000000000000000000000000000000000000000000000000000000) rfl T.BLOCK ⟨_, rfl⟩) fun _ _ => int_rep) qa_nil))) (qg_tup (n := 2) rfl (qgs_cons (qg_name (i := 2) c2.nd rfl (Or.inl rfl)) (qgs_cons (qg_name (i := 3) c2.nd rfl (Or.inl rfl)) qgs_nil)))) (qss_one rfl (qs_expr (qe_app (qv 1) (qa_cons (qe_zf (qe_strc rfl T.str (qa_cons (qv 3) qa_nil)) (qa_cons (qe_cst (pe_glob (v := .int 60) rfl T.BLOCK_FIGURES ⟨_, rfl⟩) fun _ _ => int_rep) qa_nil)) qa_nil)))))) (qss_cons rfl (qs_expr (qe_app (qv 1) (qa_cons (qe_strc rfl T.str (qa_cons (qv 2) qa_nil)) qa_nil))) (qss_cons rfl (qs_set (i := 4) c2.nd rfl (Or.inl rfl) (qe_ite (qt_lt (qv 0) qe_int) qe_str qe_str)) (qss_one rfl (qs_ret (qe_add (qv 4) (qe_jrev rfl T.reversed qe_str (qv 1))))))))))
 exact h
theorem q3 : FnOk P w K mg base CX0 1 t.f3 t.d3 ["spans"] (spF K (F_full)) := by
 have h := @q_def _ P w mg base _ enP_ok _ _ _ _ _ _ _ 0 _ T.F3 c3 fun cdv A outer s H E hr => (qss_one rfl (qs_ret (qe_lcD (N := ["low", "high"]) (n := 2) (js := []) rfl ⟨rfl, rfl, rfl, rfl, rfl, rfl⟩ (qi_any (qv 0)) (fun _ _ _ => (qg_tup (n := 2) rfl (qgs_cons (qg_name (i := 0) (show List.Nodup (["low", "high"] : List Str) from by decide +kernel) rfl (Or.inl rfl)) (qgs_cons (qg_name (i := 1) (show List.Nodup (["low", "high"] : List Str) from by decide +kernel) rfl (Or.inl rfl)) qgs_nil)))) (fun _ _ _ => (qts_one (QW.qt (qw_or (qt_not (qt_tru (qv 0))) (qw_or (qt_not (qt_tru (qv 1))) (qw_or1 (qt_le (qe_item hr (qv 0) qe_int (fun _ _ => rfl)) (qe_item hr (qv 1) qe_int (fun _ _ => rfl))))))))) (fun _ _ _ => (qe_tup (qa_cons (qv 0) (qa_cons (qv 1) qa_nil)))))))
 exact h
theorem q4 : FnOk P w K mg base CX0 1 t.f4 t.d4 ["high", "low"] (spF K (F_reaches)) := by
 have h := @q_def _ P w mg base _ enP_ok _ _ _ _ _ _ _ 0 _ T.F4 c4 fun cdv A outer s H E hr => (qss_one rfl (qs_ret (qe_or (qe_not (qv 0)) (qe_or (qe_not (qv 1)) (qe_one (qe_le (qe_item hr (qv 1) qe_int (fun _ _ => rfl)) (qe_add (qe_item hr (qv 0) qe_int (fun _ _ => rfl)) qe_int)))))))
 exact h
theorem q6 : FnOk P w K mg base CX0 1 t.f6 t.d6 ["one", "other"] (spF K (F_end_sum)) := by
 have h := @q_def _ P w mg base _ enP_ok _ _ _ _ _ _ _ 0 _ T.F6 c6 fun cdv A outer s H E hr => (qss_one rfl (qs_ret (qe_ite (QW.qt (qw_and (qt_tru (qv 0)) (qw_and1 (qt_tru (qv 1))))) (qe_tup (qa_cons (qe_add (qe_item hr (qv 0) qe_int (fun _ _ => rfl)) (qe_item hr (qv 1) qe_int (fun _ _ => rfl))) qa_nil)) (qe_tup qa_nil))))
 exact h
theorem q8 : FnOk P w K mg base CX0 1 t.f8 t.d8 ["_law_script", "_law_k"] (spF K (F__law_cell)) := by
 have h := @q_def _ P w mg base _ enP_ok _ _ _ _ _ _ _ 0 _ T.F8 c8 fun cdv A outer s H E hr => (qss_one rfl (qs_ret (qe_ite (qt_lt (qv 1) (qe_len rfl T.len (qa_cons (qv 0) qa_nil))) (qe_item hr (qv 0) (qv 1) (fun _ _ => rfl)) qe_int)))
 exact h
theorem q9 : FnOk P w K mg base CX0 1 t.f9 t.d9 ["_law_purse", "_law_many"] (spF K (F__law_take)) := by
 have h := @q_def _ P w mg base _ enP_ok _ _ _ _ _ _ _ 0 _ T.F9 c9 fun cdv A outer s H E hr => (qss_cons rfl (qs_if (qt_eq hr (qe_len rfl T.len (qa_cons (qv 0) qa_nil)) qe_int) (qss_one rfl (qs_expr (qe_app (qv 0) (qa_cons (qe_item hr (qv 0) qe_int (fun _ _ => rfl)) qa_nil)))) qss_nil) (qss_cons rfl (qs_if (QW.qt (qw_and (qt_eq hr (qe_item hr (qv 0) qe_int (fun _ _ => rfl)) qe_int) (qw_and1 (qt_in hr (qe_item hr (qv 0) qe_int (fun _ _ => rfl)) (qe_L (ql_lst (qa_cons qe_int (qa_cons (qe_neg qe_int) qa_nil)))))))) (qss_cons rfl (qs_sub hr (qe_item hr (qv 0) qe_int (fun _ _ => rfl)) (qv 0) qe_int) (qss_one rfl (qs_sub hr qe_int (qv 0) qe_int))) qss_nil) (qss_cons rfl (qs_set (i := 2) c9.nd rfl (Or.inl rfl) (qe_item hr (qv 0) qe_int (fun _ _ => rfl))) (qss_cons rfl (qs_if (qt_eq hr (qe_item hr (qv 0) qe_int (fun _ _ => rfl)) qe_int) (qss_cons rfl (qs_sub hr (qe_fdivB (qv 2) (qv 1)) (qv 0) qe_int) (qss_one rfl (qs_ret (qe_mod (qv 2) (qv 1))))) qss_nil) (qss_cons rfl (qs_sub hr (qe_mod (qe_add (qe_mul (qe_mod (qv 2) qe_int) qe_int) qe_int) qe_int) (qv 0) qe_int) (qss_cons rfl (qs_set (i := 3) c9.nd rfl (Or.inl rfl) (qe_mod (qe_mul (qe_item hr (qv 0) qe_int (fun _ _ => rfl)) (qe_item hr (qv 0) qe_int (fun _ _ => rfl))) qe_int)) (qss_one rfl (qs_ret (qe_mod (qe_fdiv (qe_pow (qv 3) qe_int) qe_int) (qv 1))))))))))
 exact h
theorem q11 : FnOk P w K mg base CX0 1 t.f11 t.d11 ["_law_number_here"] (spF K (F__law_shown)) := by
 have h := @q_def _ P w mg base _ enP_ok _ _ _ _ _ _ _ 0 _ T.F11 c11 fun cdv A outer s H E hr => (qss_cons rfl (qs_set (i := 1) c11.nd rfl (Or.inl rfl) qe_str) (qss_cons rfl (qs_set (i := 2) c11.nd rfl (Or.inl rfl) (qe_abs rfl T.abs (qa_cons (qv 0) qa_nil))) (qss_cons rfl (qs_while 70 PassesOwn.never (QW.qt (qw_or (qt_gt (qv 2) qe_int) (qw_or1 (qt_eq hr (qv 1) qe_str)))) (qss_cons rfl (qs_set (i := 1) c11.nd rfl (Or.inl rfl) (qe_add (qe_item hr qe_str (qe_mod (qv 2) qe_int) (fun _ _ => rfl)) (qv 1))) (qss_one rfl (qs_set (i := 2) c11.nd rfl (Or.inl rfl) (qe_fdiv (qv 2) qe_int))))) (qss_cons rfl (qs_if (qt_lt (qv 0) qe_int) (qss_one rfl (qs_set (i := 1) c11.nd rfl (Or.inl rfl) (qe_add qe_str (qv 1)))) qss_nil) (qss_one rfl (qs_ret (qv 1)))))))
 exact h
theorem q12 : FnOk P w K mg base CX0 1 t.f12 t.d12 ["_law_text"] (spF K (F__law_writes)) := by
 have h := @q_def _ P w mg base _ enP_ok _ _ _ _ _ _ _ 0 _ T.F12 c12 fun cdv A outer s H E hr => (qss_cons rfl (qs_set (i := 1) c12.nd rfl (Or.inl rfl) (qv 0)) (qss_cons rfl (qs_if (qt_eq hr (qe_slice (qv 0) qo_none (qo_some qe_int)) qe_str) (qss_one rfl (qs_set (i := 1) c12.nd rfl (Or.inl rfl) (qe_slice (qv 0) (qo_some qe_int) qo_none))) qss_nil) (qss_cons rfl (qs_if (QW.qt (qw_or (qt_eq hr (qv 1) qe_str) (qw_or (qt_gt (qe_len rfl T.len (qa_cons (qv 1) qa_nil)) qe_int) (qw_or1 (QW.qt (qw_and (qt_eq hr (qe_item hr (qv 1) qe_int (fun _ _ => rfl)) qe_str) (qw_and1 (qt_ne hr (qv 0) qe_str)))))))) (qss_one rfl (qs_ret qe_non)) qss_nil) (qss_cons rfl (qs_set (i := 2) c12.nd rfl (Or.inl rfl) qe_int) (qss_cons rfl (qs_for PassesOwn.never rfl (qi_any (qv 1)) (qg_name (i := 3) c12.nd rfl (Or.inl rfl)) (qss_cons rfl (qs_if (qt_nin hr (qv 3) qe_str) (qss_one rfl (qs_ret qe_non)) qss_nil) (qss_one rfl (qs_set (i := 2) c12.nd rfl (Or.inl rfl) (qe_add (qe_mul qe_int (qv 2)) (qe_six qe_str (qa_cons (qv 3) qa_nil))))))) (qss_cons rfl (qs_if (qt_ne hr (qv 1) (qv 0)) (qss_one rfl (qs_ret (qe_sub qe_int (qv 2)))) qss_nil) (qss_one rfl (qs_ret (qv 2)))))))))
 exact h
theorem q14 : FnOkH P w K mg base 1 t.f14 t.d14 ["_law_e"] (spF K (F__law_word_of t.c)) := by
 have h := @q_defH _ P w mg base _ enP_ok _ _ _ _ _ _ _ 0 _ T.F14 c14 fun cdv A outer s H E hr => (qss_cons rfl (qs_set (i := 1) c14.nd rfl (Or.inl rfl) (qe_L (ql_lst (qa_cons (qe_tup (qa_cons qe_str (qa_cons (qe_isX T.iNoText rfl T.isinstance rfl T.mNoText (qv 0)) qa_nil))) (qa_cons (qe_tup (qa_cons qe_str (qa_cons (qe_isX T.iNoKind rfl T.isinstance rfl T.mNoKind (qv 0)) qa_nil))) (qa_cons (qe_tup (qa_cons qe_str (qa_cons (qe_isX T.iTaken rfl T.isinstance rfl T.mTaken (qv 0)) qa_nil))) qa_nil)))))) (qss_cons rfl (qs_set (i := 1) c14.nd rfl (Or.inl rfl) (qe_L (ql_cat (qv 1) (qe_L (ql_lst (qa_cons (qe_tup (qa_cons qe_str (qa_cons (qe_isX T.iRing rfl T.isinstance rfl T.mRing (qv 0)) qa_nil))) (qa_cons (qe_tup (qa_cons qe_str (qa_cons (qe_isX T.iNoName rfl T.isinstance rfl T.mNoName (qv 0)) qa_nil))) (qa_cons (qe_tup (qa_cons qe_str (qa_cons (qe_isX T.iTooMany rfl T.isinstance rfl T.mTooMany (qv 0)) qa_nil))) qa_nil)))))))) (qss_cons rfl (qs_set (i := 1) c14.nd rfl (Or.inl rfl) (qe_L (ql_cat (qv 1) (qe_L (ql_lst (qa_cons (qe_tup (qa_cons qe_str (qa_cons (qe_isXt T.iT rfl T.isinstance (qa_cons (qv 0) (qa_cons (qe_tup (@qa_cons _ _ _ _ _ (qe_cls T.mAlike) (@qa_cons _ _ _ _ _ (qe_cls T.mHeld) (@qa_cons _ _ _ _ _ (qe_cls T.mNoBody) (@qa_cons _ _ _ _ _ (qe_cls T.mNoLine) (@qa_cons _ _ _ _ _ (qe_cls T.mNoPlaces) (@qa_cons _ _ _ _ _ (qe_cls T.mNoTerm) qa_nil rfl) rfl) rfl) rfl) rfl) rfl)) qa_nil))) qa_nil))) qa_nil)))))) (qss_cons rfl (qs_lcD (i := 2) c14.nd rfl (Or.inl rfl) (N := ["_law_word", "_law_truth"]) (n := 2) (js := []) rfl ⟨rfl, rfl, rfl, rfl, rfl, rfl⟩ (qi_any (qv 1)) (fun _ _ _ => (qg_tup (n := 2) rfl (qgs_cons (qg_name (i := 0) (show List.Nodup (["_law_word", "_law_truth"] : List Str) from by decide +kernel) rfl (Or.inl rfl)) (qgs_cons (qg_name (i := 1) (show List.Nodup (["_law_word", "_law_truth"] : List Str) from by decide +kernel) rfl (Or.inl rfl)) qgs_nil)))) (fun _ _ _ => (qts_one (qt_tru (qv 1)))) (fun _ _ _ => (qv 0))) (qss_cons rfl (qs_if (QW.qt (qw_or (qt_neH hr (qe_len rfl T.len (qa_cons (qv 2) qa_nil)) qe_int) (qw_or1 (qt_not (qt_tru (qe_isT T.iValueError rfl T.isinstance rfl T.ValueError bt_VE (qv 0))))))) (qss_one rfl (qs_ret qe_str)) qss_nil) (qss_one rfl (qs_ret (qe_itemH hr (qv 2) qe_int (fun _ _ => rfl)))))))))
 exact h
theorem q1 : FnOk P w K mg base (CX1 P w) 2 t.f1 t.d1 ["text"] (spX K (F_read_number t.c)) := by
 have h := @q_defX _ P w mg base _ enP_ok enP_nx _ _ _ _ _ _ _ 1 _ T.F1 c1 fun cdv A outer s H E hr => (qss_cons rfl (qs_set (i := 1) c1.nd rfl (Or.inl rfl) (qe_ite (qt_tru (qe_sw (qv 0) (qa_cons qe_str qa_nil))) (qe_slice (qv 0) (qo_some qe_int) qo_none) (qv 0))) (qss_cons rfl (qs_if (QW.qt (qw_or (qt_eq hr (qv 0) qe_str) (qw_or1 (qt_not (qt_tru (qe_call ((q0 T).mono (by decide)) hr rfl T.m0 T.F0.kp (b0 T) (qa_cons (qv 1) qa_nil))))))) (qss_one rfl (qs_raiseS T.xNoText hr.hd rfl T.mNoText (qv 0) (by decide))) qss_nil) (qss_one rfl (qs_ret (qe_intS rfl T.int (qa_cons (qv 0) qa_nil))))))
 exact h
theorem q5 : FnOk P w K mg base CX0 2 t.f5 t.d5 ["spans"] (spF K (F_spans_formed)) := by
 have h := @q_def _ P w mg base _ enP_ok _ _ _ _ _ _ _ 1 _ T.F5 c5 fun cdv A outer s H E hr => (qss_cons rfl (qs_set (i := 1) c5.nd rfl (Or.inl rfl) (qe_C (ql_lst qa_nil))) (qss_cons rfl (qs_for PassesOwn.never rfl (qi_any (qe_L (ql_srt1 rfl T.sorted (qe_call ((q3 T).mono (by decide)) hr rfl T.m3 T.F3.kp (b3 T) (qa_cons (qv 0) qa_nil))))) (qg_tup (n := 2) rfl (qgs_cons (qg_name (i := 2) c5.nd rfl (Or.inl rfl)) (qgs_cons (qg_name (i := 3) c5.nd rfl (Or.inl rfl)) qgs_nil))) (qss_one rfl (qs_if (QW.qt (qw_and (qt_tru (qv 1)) (qw_and1 (qt_tru (qe_call ((q4 T).mono (by decide)) hr rfl T.m4 T.F4.kp (b4 T) (qa_cons (qe_item hr (qe_item hr (qv 1) (qe_neg qe_int) (fun _ _ => rfl)) qe_int (fun _ _ => rfl)) (qa_cons (qv 2) qa_nil))))))) (qss_one rfl qs_no) (qss_one rfl (qs_expr (qe_app (qv 1) (qa_cons (qe_tup (qa_cons (qv 2) (qa_cons (qv 3) qa_nil))) qa_nil))))))) (qss_one rfl (qs_ret (qe_tuple rfl T.tuple (qa_cons (qv 1) qa_nil))))))
 exact h
theorem q10 : FnOk P w K mg base CX0 2 t.f10 t.d10 ["_law_purse"] (spF K (F__law_number)) := by
 have h := @q_def _ P w mg base _ enP_ok _ _ _ _ _ _ _ 1 _ T.F10 c10 fun cdv A outer s H E hr => (qss_cons rfl (qs_if (qt_eq hr (qe_call ((q9 T).mono (by decide)) hr rfl T.m9 T.F9.kp (b9 T) (qa_cons (qv 0) (qa_cons qe_int qa_nil))) qe_int) (qss_one rfl (qs_ret (qe_add (qe_sub (qe_call ((q9 T).mono (by decide)) hr rfl T.m9 T.F9.kp (b9 T) (qa_cons (qv 0) (qa_cons (qe_sub (qe_mul qe_int (qe_pow qe_int qe_int)) qe_int) qa_nil))) (qe_pow qe_int qe_int)) qe_int))) qss_nil) (qss_one rfl (qs_ret (qe_sub (qe_call ((q9 T).mono (by decide)) hr rfl T.m9 T.F9.kp (b9 T) (qa_cons (qv 0) (qa_cons qe_int qa_nil))) qe_int))))
 exact h
theorem q13 : FnOk P w K mg base CX0 2 t.f13 t.d13 ["_law_text", "_law_purse"] (spF K (F__law_spoiled)) := by
 have h := @q_def _ P w mg base _ enP_ok _ _ _ _ _ _ _ 1 _ T.F13 c13 fun cdv A outer s H E hr => (qss_cons rfl (qs_set (i := 2) c13.nd rfl (Or.inl rfl) (qe_call ((q9 T).mono (by decide)) hr rfl T.m9 T.F9.kp (b9 T) (qa_cons (qv 1) (qa_cons qe_int qa_nil)))) (qss_cons rfl (qs_set (i := 3) c13.nd rfl (Or.inl rfl) (qe_call ((q9 T).mono (by decide)) hr rfl T.m9 T.F9.kp (b9 T) (qa_cons (qv 1) (qa_cons (qe_add (qe_len rfl T.len (qa_cons (qv 0) qa_nil)) qe_int) qa_nil)))) (qss_cons rfl (qs_set (i := 4) c13.nd rfl (Or.inl rfl) (qe_item hr qe_str (qe_call ((q9 T).mono (by decide)) hr rfl T.m9 T.F9.kp (b9 T) (qa_cons (qv 1) (qa_cons qe_int qa_nil))) (fun _ _ => rfl))) (qss_cons rfl (qs_if (qt_eq hr (qv 2) qe_int) (qss_one rfl (qs_ret (qe_add (qe_add (qe_slice (qv 0) qo_none (qo_some (qv 3))) (qv 4)) (qe_slice (qv 0) (qo_some (qv 3)) qo_none)))) qss_nil) (qss_cons rfl (qs_if (qt_eq hr (qv 2) qe_int) (qss_one rfl (qs_ret (qe_add (qe_slice (qv 0) qo_none (qo_some (qv 3))) (qe_slice (qv 0) (qo_some (qe_add (qv 3) qe_int)) qo_none)))) qss_nil) (qss_cons rfl (qs_if (qt_eq hr (qv 2) qe_int) (qss_one rfl (qs_ret (qe_add (qe_add (qe_slice (qv 0) qo_none (qo_some (qv 3))) (qv 4)) (qe_slice (qv 0) (qo_some (qe_add (qv 3) qe_int)) qo_none)))) qss_nil) (qss_cons rfl (qs_if (qt_eq hr (qv 2) qe_int) (qss_one rfl (qs_ret (qe_add (qv 0) (qe_mulS qe_str (qe_call ((q9 T).mono (by decide)) hr rfl T.m9 T.F9.kp (b9 T) (qa_cons (qv 1) (qa_cons qe_int qa_nil))))))) qss_nil) (qss_cons rfl (qs_if (qt_eq hr (qv 2) qe_int) (qss_one rfl (qs_ret (qe_add (qe_mulS qe_str (qe_call ((q9 T).mono (by decide)) hr rfl T.m9 T.F9.kp (b9 T) (qa_cons (qv 1) (qa_cons qe_int qa_nil)))) (qv 0)))) qss_nil) (qss_one rfl (qs_ret (qv 0)))))))))))
 exact h
theorem q7 : FnOk P w K mg base CX0 3 t.f7 t.d7 ["one", "other"] (spF K (F_spans_sum)) := by
 have h := @q_def _ P w mg base _ enP_ok _ _ _ _ _ _ _ 2 _ T.F7 c7 fun cdv A outer s H E hr => (qss_one rfl (qs_ret (qe_call ((q5 T).mono (by decide)) hr rfl T.m5 T.F5.kp (b5 T) (qa_cons (qe_lc2D (N := ["low", "high", "least", "most", "other"]) (n := 4) (js := [1]) rfl ⟨rfl, rfl, rfl, rfl, rfl, rfl⟩ (qi_any (qe_call ((q3 T).mono (by decide)) hr rfl T.m3 T.F3.kp (b3 T) (qa_cons (qv 0) qa_nil))) (fun _ _ _ => (qg_tup (n := 2) rfl (qgs_cons (qg_name (i := 0) (show List.Nodup (["low", "high", "least", "most", "other"] : List Str) from by decide +kernel) rfl (Or.inl rfl)) (qgs_cons (qg_name (i := 1) (show List.Nodup (["low", "high", "least", "most", "other"] : List Str) from by decide +kernel) rfl (Or.inl rfl)) qgs_nil)))) (fun _ _ _ => qts_nil) (fun _ _ _ => (qi_any (qe_call ((q3 T).mono (by decide)) hr rfl T.m3 T.F3.kp (b3 T) (qa_cons (qv 4) qa_nil)))) (fun _ _ _ => (qg_tup (n := 2) rfl (qgs_cons (qg_name (i := 2) (show List.Nodup (["low", "high", "least", "most", "other"] : List Str) from by decide +kernel) rfl (Or.inl rfl)) (qgs_cons (qg_name (i := 3) (show List.Nodup (["low", "high", "least", "most", "other"] : List Str) from by decide +kernel) rfl (Or.inl rfl)) qgs_nil)))) (fun _ _ _ => qts_nil) (fun _ _ _ => (qe_tup (qa_cons (qe_call ((q6 T).mono (by decide)) hr rfl T.m6 T.F6.kp (b6 T) (qa_cons (qv 0) (qa_cons (qv 2) qa_nil))) (qa_cons (qe_call ((q6 T).mono (by decide)) hr rfl T.m6 T.F6.kp (b6 T) (qa_cons (qv 1) (qa_cons (qv 3) qa_nil))) qa_nil))))) qa_nil))))
 exact h
theorem q15 : FnOk P w K mg base CX0 3 t.f15 t.d15 ["_law_text"] (spF K (F__law_read t.c)) := by
 have h := @q_def _ P w mg base _ enP_ok _ _ _ _ _ _ _ 2 _ T.F15 c15 fun cdv A outer s H E hr => (qss_cons rfl (qs_set (i := 1) c15.nd rfl (Or.inl rfl) qe_non) (qss_cons rfl (qs_tryFn (isD := fun a => decide (a ∈ rs t.c)) (i := 2) (j := 1) c15.nd rfl rfl rfl (Or.inl rfl) rfl rfl rfl T.mFitError T.xFitError T.ct (fun a oe => (qss_one rfl (qs_set (i := 1) c15.nd rfl (Or.inl rfl) (qe_tup (qa_cons qe_str (qa_cons (qe_callH ((q14 T).mono (by decide)) rfl (hr.h.mark _) rfl T.m14 T.F14.kp (b14 T) (qa_cons (qv 2) qa_nil)) qa_nil)))))) ((q1 T).mono (by decide)) hr rfl T.m1 T.F1.kp (b1 T) (qa_cons (qv 0) qa_nil)) (qss_one rfl (qs_ret (qv 1)))))
 exact h
theorem q16 : FnOk P w K mg base CX0 4 t.f16 t.d16 ["_law_text"] (spF K (F__law_right t.c)) := by
 have h := @q_def _ P w mg base _ enP_ok _ _ _ _ _ _ _ 3 _ T.F16 c16 fun cdv A outer s H E hr => (qss_cons rfl (qs_set (i := 1) c16.nd rfl (Or.inl rfl) (qe_call ((q12 T).mono (by decide)) hr rfl T.m12 T.F12.kp (b12 T) (qa_cons (qv 0) qa_nil))) (qss_cons rfl (qs_set (i := 2) c16.nd rfl (Or.inl rfl) (qe_call ((q15 T).mono (by decide)) hr rfl T.m15 T.F15.kp (b15 T) (qa_cons (qv 0) qa_nil))) (qss_cons rfl (qs_if (qt_isN (qv 1) qe_non) (qss_one rfl (qs_ret (qe_eq hr (qv 2) (qe_tup (qa_cons qe_str (qa_cons qe_str qa_nil)))))) qss_nil) (qss_one rfl (qs_ret (qe_and (qe_eq hr (qv 2) (qe_tup (qa_cons qe_str (qa_cons (qv 1) qa_nil)))) (qe_one (qe_not (qe_isi (Or.inr (Or.inl rfl)) rfl T.isinstance rfl T.bool bt_bool (qe_item hr (qv 2) qe_int (fun _ _ => rfl)))))))))))
 exact h
theorem q17 : FnOk P w K mg base CX0 5 t.f17 t.d17 ["_law_number_here", "_law_below"] (spF K (F__law_great t.c)) := by
 have h := @q_def _ P w mg base _ enP_ok _ _ _ _ _ _ _ 4 _ T.F17 c17 fun cdv A outer s H E hr => (qss_cons rfl (qs_if (qt_eq hr (qv 1) qe_int) (qss_one rfl (qs_set (i := 0) c17.nd rfl (Or.inl rfl) (qe_sub qe_int (qv 0)))) qss_nil) (qss_cons rfl (qs_set (i := 2) c17.nd rfl (Or.inl rfl) (qe_item hr (qe_item hr (qe_item hr (qe_call ((q7 T).mono (by decide)) hr rfl T.m7 T.F7.kp (b7 T) (qa_cons (qe_L (ql_lst (qa_cons (qe_tup (qa_cons (qe_tup (qa_cons (qv 0) qa_nil)) (qa_cons (qe_tup (qa_cons (qv 0) qa_nil)) qa_nil))) qa_nil))) (qa_cons (qe_L (ql_lst (qa_cons (qe_tup (qa_cons (qe_tup (qa_cons (qv 0) qa_nil)) (qa_cons (qe_tup (qa_cons (qv 0) qa_nil)) qa_nil))) qa_nil))) qa_nil))) qe_int (fun _ _ => rfl)) qe_int (fun _ _ => rfl)) qe_int (fun _ _ => rfl))) (qss_cons rfl (qs_set (i := 3) c17.nd rfl (Or.inl rfl) (qe_call ((q2 T).mono (by decide)) hr rfl T.m2 T.F2.kp (b2 T) (qa_cons (qv 2) qa_nil))) (qss_one rfl (qs_ret (qe_and (qe_eq hr (qv 3) (qe_call ((q11 T).mono (by decide)) hr rfl T.m11 T.F11.kp (b11 T) (qa_cons (qe_mul qe_int (qv 0)) qa_nil))) (qe_one (qe_call ((q16 T).mono (by decide)) hr rfl T.m16 T.F16.kp (b16 T) (qa_cons (qv 3) qa_nil)))))))))
 exact h
theorem q18 : FnOk P w K mg base CX0 6 t.f18 t.d18 ["_law_script"] (spF K (F_law t.c)) := by
 have h := @q_def _ P w mg base _ enP_ok _ _ _ _ _ _ _ 5 _ T.F18 c18 fun cdv A outer s H E hr => (qss_cons rfl (qs_for PassesOwn.never rfl (qi_range rfl T.range (qe_max rfl hr rfl T.max (qa_cons qe_int (qa_cons (qe_sub (qe_min rfl hr rfl T.min (qa_cons (qe_len rfl T.len (qa_cons (qv 0) qa_nil)) (qa_cons qe_int qa_nil))) qe_int) qa_nil)))) (qg_name (i := 1) c18.nd rfl (Or.inl rfl)) (qss_cons rfl (qs_set (i := 2) c18.nd rfl (Or.inl rfl) (qe_C (ql_lst (qa_cons (qe_call ((q8 T).mono (by decide)) hr rfl T.m8 T.F8.kp (b8 T) (qa_cons (qv 0) (qa_cons (qe_add qe_int (qv 1)) qa_nil))) (qa_cons (qe_mod (qe_call ((q8 T).mono (by decide)) hr rfl T.m8 T.F8.kp (b8 T) (qa_cons (qv 0) (qa_cons qe_int qa_nil))) qe_int) qa_nil))))) (qss_cons rfl (qs_set (i := 3) c18.nd rfl (Or.inl rfl) (qe_call ((q10 T).mono (by decide)) hr rfl T.m10 T.F10.kp (b10 T) (qa_cons (qv 2) qa_nil))) (qss_cons rfl (qs_set (i := 4) c18.nd rfl (Or.inl rfl) (qe_call ((q2 T).mono (by decide)) hr rfl T.m2 T.F2.kp (b2 T) (qa_cons (qv 3) qa_nil))) (qss_cons rfl (qs_if (QW.qt (qw_or (qt_ne hr (qv 4) (qe_call ((q11 T).mono (by decide)) hr rfl T.m11 T.F11.kp (b11 T) (qa_cons (qv 3) qa_nil))) (qw_or1 (qt_not (qt_tru (qe_call ((q16 T).mono (by decide)) hr rfl T.m16 T.F16.kp (b16 T) (qa_cons (qv 4) qa_nil))))))) (qss_one rfl (qs_ret qe_bl)) qss_nil) (qss_cons rfl (qs_set (i := 5) c18.nd rfl (Or.inl rfl) (qe_call ((q13 T).mono (by decide)) hr rfl T.m13 T.F13.kp (b13 T) (qa_cons (qv 4) (qa_cons (qv 2) qa_nil)))) (qss_cons rfl (qs_if (qt_eq hr (qe_call ((q9 T).mono (by decide)) hr rfl T.m9 T.F9.kp (b9 T) (qa_cons (qv 2) (qa_cons qe_int qa_nil))) qe_int) (qss_one rfl (qs_set (i := 5) c18.nd rfl (Or.inl rfl) (qe_call ((q13 T).mono (by decide)) hr rfl T.m13 T.F13.kp (b13 T) (qa_cons (qv 5) (qa_cons (qv 2) qa_nil))))) qss_nil) (qss_one rfl (qs_if (QW.qt (qw_or (qt_not (qt_tru (qe_call ((q16 T).mono (by decide)) hr rfl T.m16 T.F16.kp (b16 T) (qa_cons (qv 5) qa_nil)))) (qw_or1 (qt_not (qt_tru (qe_call ((q17 T).mono (by decide)) hr rfl T.m17 T.F17.kp (b17 T) (qa_cons (qe_sub (qe_sub (qe_pow qe_int qe_int) qe_int) (qe_call ((q9 T).mono (by decide)) hr rfl T.m9 T.F9.kp (b9 T) (qa_cons (qv 2) (qa_cons qe_int qa_nil)))) (qa_cons (qe_call ((q9 T).mono (by decide)) hr rfl T.m9 T.F9.kp (b9 T) (qa_cons (qv 2) (qa_cons qe_int qa_nil))) qa_nil)))))))) (qss_one rfl (qs_ret qe_bl)) qss_nil))))))))) (qss_one rfl (qs_ret (qe_call ((q16 T).mono (by decide)) hr rfl T.m16 T.F16.kp (b16 T) (qa_cons qe_str qa_nil)))))
 exact h
end
open YH PySem.W
noncomputable def tOf (K:Frag):Adr:=⟨fun i=>gA K ((["NoName", "Taken", "NoKind", "NoText", "NoPlaces", "NoBody", "TooMany", "Held", "Ring", "Alike", "NoTerm", "NoLine", "FitError"]:List Str).getD i ""),gA K "is_written", gA K "read_number", gA K "show_number", gA K "full", gA K "reaches", gA K "spans_formed", gA K "end_sum", gA K "spans_sum", gA K "_law_cell", gA K "_law_take", gA K "_law_number", gA K "_law_shown", gA K "_law_writes", gA K "_law_spoiled", gA K "_law_word_of", gA K "_law_read", gA K "_law_right", gA K "_law_great", gA K "law", mA K (gA K "Ring") "__init__", mA K (gA K "Alike") "__init__", mA K (gA K "NoTerm") "__init__", mA K (gA K "NoLine") "__init__", fdAt K (gA K "is_written"),fdAt K (gA K "read_number"),fdAt K (gA K "show_number"),fdAt K (gA K "full"),fdAt K (gA K "reaches"),fdAt K (gA K "spans_formed"),fdAt K (gA K "end_sum"),fdAt K (gA K "spans_sum"),fdAt K (gA K "_law_cell"),fdAt K (gA K "_law_take"),fdAt K (gA K "_law_number"),fdAt K (gA K "_law_shown"),fdAt K (gA K "_law_writes"),fdAt K (gA K "_law_spoiled"),fdAt K (gA K "_law_word_of"),fdAt K (gA K "_law_read"),fdAt K (gA K "_law_right"),fdAt K (gA K "_law_great"),fdAt K (gA K "law"),fdAt K (mA K (gA K "Ring") "__init__"),fdAt K (mA K (gA K "Alike") "__init__"),fdAt K (mA K (gA K "NoTerm") "__init__"),fdAt K (mA K (gA K "NoLine") "__init__"),strU K "FIGURES", strU K "MOST_FIGURES", strU K "BLOCK_FIGURES", strU K "BLOCK"⟩
theorem txt {K : Frag} {h : Heap} {mg : Str → Option Value} (X : K.In h) (G : h.Ns mainGlobals mg) (e : obs K = (fv, true)) : Txt K mg (tOf K) := by
 have e1 : fl K = fv := congrArg Prod.fst e
 have e2 : (bl K).all id = true := congrArg Prod.snd e
 exact ⟨gl_of X G (pick e2 0 rfl), gl_of X G (pick e2 1 rfl), gl_of X G (pick e2 2 rfl), gl_of X G (pick e2 3 rfl), gl_of X G (pick e2 4 rfl), gl_of X G (pick e2 5 rfl), gl_of X G (pick e2 6 rfl), gl_of X G (pick e2 7 rfl), gl_of X G (pick e2 8 rfl), gl_of X G (pick e2 9 rfl), gl_of X G (pick e2 10 rfl), gl_of X G (pick e2 11 rfl), gl_of X G (pick e2 12 rfl), gl_of X G (pick e2 13 rfl), gl_of X G (pick e2 14 rfl), gl_of X G (pick e2 15 rfl), gl_of X G (pick e2 16 rfl), gl_of X G (pick e2 17 rfl), gl_of X G (pick e2 18 rfl), gl_of X G (pick e2 19 rfl), gl_of X G (pick e2 20 rfl), gl_of X G (pick e2 21 rfl), gl_of X G (pick e2 22 rfl), gl_of X G (pick e2 23 rfl), gl_of X G (pick e2 24 rfl), gl_of X G (pick e2 25 rfl), gl_of X G (pick e2 26 rfl), gl_of X G (pick e2 27 rfl), gl_of X G (pick e2 28 rfl), gl_of X G (pick e2 29 rfl), gl_of X G (pick e2 30 rfl), gl_of X G (pick e2 31 rfl), str_of X G (pick e2 32 rfl), int_of X G (pick e2 33 rfl), int_of X G (pick e2 34 rfl), int_of X G (pick e2 35 rfl), xcl_of (pick e2 36 rfl), (pick e2 37 rfl), xcl_of (pick e2 38 rfl), (pick e2 39 rfl), xcl_of (pick e2 40 rfl), (pick e2 41 rfl), xcl_of (pick e2 42 rfl), (pick e2 43 rfl), xcl_of (pick e2 44 rfl), xcl_of (pick e2 45 rfl), xcl_of (pick e2 46 rfl), xcl_of (pick e2 47 rfl), xcl_of (pick e2 48 rfl), xcl_of (pick e2 49 rfl), xcl_of (pick e2 50 rfl), xcl_of (pick e2 51 rfl), xcl_of (pick e2 52 rfl), isi_of (pick e2 53 rfl) (pick e2 54 rfl) (by decide), isi_of (pick e2 53 rfl) (pick e2 55 rfl) (by decide), isi_of (pick e2 53 rfl) (pick e2 56 rfl) (by decide), isi_of (pick e2 53 rfl) (pick e2 57 rfl) (by decide), isi_of (pick e2 53 rfl) (pick e2 58 rfl) (by decide), isi_of (pick e2 53 rfl) (pick e2 59 rfl) (by decide), isi_of (pick e2 53 rfl) (pick e2 60 rfl) (by decide), isi_of (pick e2 53 rfl) (pick e2 61 rfl) (by decide), isi_of (pick e2 53 rfl) (pick e2 62 rfl) (by decide), isi_of (pick e2 53 rfl) (pick e2 63 rfl) (by decide), isi_of (pick e2 53 rfl) (pick e2 64 rfl) (by decide), isi_of (pick e2 53 rfl) (pick e2 65 rfl) (by decide), isi_of (pick e2 53 rfl) (pick e2 66 rfl) (by decide), isi_of (pick e2 53 rfl) (pick e2 67 rfl) (by decide), isiT_of (pick e2 53 rfl) (pick e2 68 rfl) (by decide), ct_of (pick e2 69 rfl), of_decide_eq_true (pick e2 70 rfl), fun_of (pickF e1 0 rfl rfl) (pick e2 71 rfl), fun_of (pickF e1 1 rfl rfl) (pick e2 72 rfl), fun_of (pickF e1 2 rfl rfl) (pick e2 73 rfl), fun_of (pickF e1 3 rfl rfl) (pick e2 74 rfl), fun_of (pickF e1 4 rfl rfl) (pick e2 75 rfl), fun_of (pickF e1 5 rfl rfl) (pick e2 76 rfl), fun_of (pickF e1 6 rfl rfl) (pick e2 77 rfl), fun_of (pickF e1 7 rfl rfl) (pick e2 78 rfl), fun_of (pickF e1 8 rfl rfl) (pick e2 79 rfl), fun_of (pickF e1 9 rfl rfl) (pick e2 80 rfl), fun_of (pickF e1 10 rfl rfl) (pick e2 81 rfl), fun_of (pickF e1 11 rfl rfl) (pick e2 82 rfl), fun_of (pickF e1 12 rfl rfl) (pick e2 83 rfl), fun_of (pickF e1 13 rfl rfl) (pick e2 84 rfl), fun_of (pickF e1 14 rfl rfl) (pick e2 85 rfl), fun_of (pickF e1 15 rfl rfl) (pick e2 86 rfl), fun_of (pickF e1 16 rfl rfl) (pick e2 87 rfl), fun_of (pickF e1 17 rfl rfl) (pick e2 88 rfl), fun_of (pickF e1 18 rfl rfl) (pick e2 89 rfl), fun_of (pickF e1 19 rfl rfl) (pick e2 90 rfl), fun_of (pickF e1 20 rfl rfl) (pick e2 91 rfl), fun_of (pickF e1 21 rfl rfl) (pick e2 92 rfl), fun_of (pickF e1 22 rfl rfl) (pick e2 93 rfl), no_of X G (pick e2 94 rfl), no_of X G (pick e2 95 rfl), no_of X G (pick e2 96 rfl), no_of X G (pick e2 97 rfl), no_of X G (pick e2 98 rfl), no_of X G (pick e2 99 rfl), no_of X G (pick e2 100 rfl), no_of X G (pick e2 101 rfl), no_of X G (pick e2 102 rfl), no_of X G (pick e2 103 rfl), no_of X G (pick e2 104 rfl), no_of X G (pick e2 105 rfl), no_of X G (pick e2 106 rfl), no_of X G (pick e2 107 rfl), no_of X G (pick e2 108 rfl), no_of X G (pick e2 109 rfl)⟩
theorem walk {q:Program}{loose:List Str}{XP:(Str->Option Value)->Heap->Prop}{d:DefRec}(hdf:d.params.defaults=[]) (hdn:d.name = "law")
  (main:∀(c:Nat->Addr) (ns:List Int),(ks c).Nodup->ns.length<=63->∃S,(F_law c) [.d (.lst (ns.map .int))] []=.ok (.d (.bl true)) S) :
  WalkO q loose XP (Hook.says (hook obs (fv,true))) PySem.Challenge.rw_fitmost_k31_numbers_written.row.toRowW d [] (fun f vs=>PySem.call f vs):=
 walk_ofE (l:=PySem.Challenge.rw_fitmost_k31_numbers_written) (n:=63) (k:=6) (x := "_law_script") (CX:=CX0) (sp:=Z.spLaw) rfl (by decide) hdf ⟨rfl,by decide,by decide,rfl⟩
  (fun w h ⟨K,KX,e⟩=>⟨K,KX,fun mg fa G hmg=>by
   have T:=txt KX G e
   rw [hdn] at hmg
   have z:=Option.some.inj (T.m18.symm.trans hmg)
   injection z with z
   subst z
   exact ⟨(tOf K).d18,fun s u=>bind1 T.F18 s u,fun base kb nb=>Y.law_ok (fun ns hl=>main (tOf K).c ns T.nd hl) (q18 T)⟩⟩) (fun _ _ a ns hl _ hS=>⟨a,ns,rfl,hS,hl,fun _=>rfl⟩) fun _ _ _ _ z=>z
end K31
namespace Y
open PySem L2
open Z (lim)
theorem enP_d (S T:Sto) (x:D):enP S (.d x) (S++T)=.ok (.d x) S:=by
 unfold enP
 rw [if_pos Okk.pre,fin_d]
 simp
theorem enP_d0 (S:Sto) (x:D):enP S (.d x) S=.ok (.d x) S:=by
 have:=enP_d S [] x
 rwa [List.append_nil] at this
section
variable {np nl:Nat}{b:FS}{as:List A}{S S' T:Sto}{x:D}{y:A}{ρ:Rho}{ds:List D}
theorem def_ret (h:b (as.map some++List.replicate (nl-np) none) S=.ok (.rt (.d x)) (S++T)) (hl:as.length=np:=by rfl):defE enP np nl b as S=.ok (.d x) S:=by
 unfold defE
 rw [if_pos hl,h]
 exact enP_d S T x
theorem def_ret0 (h:b (as.map some++List.replicate (nl-np) none) S=.ok (.rt (.d x)) S) (hl:as.length=np:=by rfl):defE enP np nl b as S=.ok (.d x) S:=
 def_ret (T:=[]) (by rw [List.append_nil];exact h) hl
end
theorem for_run {g:FG}{b:FS}{ck:Ck}(J:Nat->Rho->Sto->Prop) (hck:∀i ρ S,J i ρ S->ckOk ck S):∀(xs:List A) (k:Nat) (ρ:Rho) (S:Sto),J k ρ S ->
  (∀i x ρ S,xs[i]?=some x->J (k+i) ρ S->∃ρ1 ρ2 S2,g x ρ=some ρ1/\b ρ1 S=.ok (.nx ρ2) S2/\J (k+i+1) ρ2 S2)->∃ρ' S',forF g b ck xs ρ S=.ok (.nx ρ') S'/\J (k+xs.length) ρ' S'
 |[],k,ρ,S,h0,_=>⟨ρ,S,by unfold forF;rw [if_pos (hck _ _ _ h0)],h0⟩
 |x::xs,k,ρ,S,h0,step=>by
  obtain ⟨ρ1,ρ2,S2,e1,e2,h2⟩:=step 0 x ρ S rfl h0
  obtain ⟨ρ',S',e3,h3⟩:=for_run J hck xs (k+1) ρ2 S2 h2 fun i y ρ S hy hj=>by
   obtain ⟨r1,r2,s2,a,b,c⟩:=step (i+1) y ρ S hy (by rw [show k+(i+1)=k+1+i from by omega];exact hj)
   exact ⟨r1,r2,s2,a,b,by rw [show k+1+i+1=k+(i+1)+1 from by omega];exact c⟩
  refine ⟨ρ',S',?_,by rw [List.length_cons,show k+(xs.length+1)=k+1+xs.length from by omega];exact h3⟩
  unfold forF
  rw [if_pos (hck _ _ _ h0),e1]
  simp only [opt_some,bind_ok,e2]
  exact e3
theorem for_run0 {g:FG}{b:FS}{ck:Ck}(J:Nat->Rho->Sto->Prop) {xs:List A}{ρ:Rho}{S:Sto}(h0:J 0 ρ S) (hck:∀i ρ S,J i ρ S->ckOk ck S)
  (step:∀i x ρ S,xs[i]?=some x->J i ρ S->∃ρ1 ρ2 S2,g x ρ=some ρ1/\b ρ1 S=.ok (.nx ρ2) S2/\J (i+1) ρ2 S2):∃ρ' S',forF g b ck xs ρ S=.ok (.nx ρ') S'/\J xs.length ρ' S':=by
 obtain ⟨ρ',S',e,h⟩:=for_run J hck xs 0 ρ S h0 (by simpa using step)
 exact ⟨ρ',S',e,by simpa using h⟩
theorem push_at (S:Sto) (acc:List D) (y:D) (h:acc.length < lim):push S.length (.d y) (S++[.lst acc])=.ok () (S++[.lst (acc++[y])]):=by
 have e:datas (acc.map A.d++[A.d y])=some (acc++[y]):=by
  rw [show acc.map A.d++[A.d y]=(acc++[y]).map A.d from by simp]
  generalize acc++[y]=l
  induction l with
  |nil=>rfl
  |cons a l ih=>simp only [List.map_cons,datas,ih]
 unfold push
 rw [List.getElem?_append_right (Nat.le_refl _),Nat.sub_self]
 simp only [List.getElem?_cons_zero,Cel.its,List.length_map,if_pos h,mkL,e]
 congr 1
 rw [List.set_append_right _ _ (Nat.le_refl _),Nat.sub_self]
 rfl
theorem lcF_pure {g:FG}{t:FT}{f:FE}{ck:Ck}{S:Sto}(P:Rho->Prop) (keep:A->Bool) (val:A->D) (hck:∀acc,ckOk ck (S++[.lst acc])) :
  ∀(xs:List A) (ρ:Rho) (acc:List D),P ρ->(∀x∈xs,∀ρ',P ρ'->∃ρ1,g x ρ'=some ρ1/\P ρ1/\(∀acc,t ρ1 (S++[.lst acc])=.ok (keep x) (S++[.lst acc]))/\(keep x=true->∀acc,f ρ1 (S++[.lst acc])=.ok (.d (val x)) (S++[.lst acc]))) ->
  acc.length+xs.length<=100000->∃ρ',lcF g t f ck S.length xs ρ (S++[.lst acc])=.ok ρ' (S++[.lst (acc++(xs.filter keep).map val)])
 |[],ρ,acc,_,_,_=>⟨ρ,by unfold lcF;rw [if_pos (hck acc)];simp⟩
 |x::xs,ρ,acc,hp,hb,hl=>by
  rw [List.length_cons] at hl
  obtain ⟨ρ1,e1,p1,e2,e3⟩:=hb x List.mem_cons_self ρ hp
  have ih:=lcF_pure (g:=g) (t:=t) (f:=f) P keep val hck xs ρ1
  cases hk:keep x with
  |true=>
   obtain ⟨ρ',e⟩:=ih (acc++[val x]) p1 (fun y hy=>hb y (List.mem_cons_of_mem _ hy)) (by rw [List.length_append];simp;omega)
   refine ⟨ρ',?_⟩
   unfold lcF
   rw [if_pos (hck acc),e1]
   simp only [opt_some,bindN_ok,e2,hk,if_true,e3 hk acc,push_at S acc (val x) (by show _ < 1000000;omega)]
   rw [e,List.filter_cons_of_pos hk,List.map_cons,List.append_assoc]
   rfl
  |false=>
   obtain ⟨ρ',e⟩:=ih acc p1 (fun y hy=>hb y (List.mem_cons_of_mem _ hy)) (by omega)
   refine ⟨ρ',?_⟩
   unfold lcF
   rw [if_pos (hck acc),e1]
   simp only [opt_some,bindN_ok,e2,hk,Bool.false_eq_true,if_false]
   rw [e,List.filter_cons_of_neg (by rw [hk];simp)]
theorem endD_at (S:Sto) (ds:List D):endD S (S++[.lst ds])=.ok (.d (.lst ds)) S:=by
 unfold endD
 rw [if_pos Okk.pre,List.getElem?_append_right (Nat.le_refl _),Nat.sub_self]
 simp
theorem lcD_pure {fi:FI}{g:FG}{t:FT}{f:FE}{n:Nat}{js:List Nat}{ρ:Rho}{S S1:Sto}{xs:List A}{ck:Ck}(P:Rho->Prop) (keep:A->Bool) (val:A->D) (hi:fi ρ S=.ok (xs,ck) S1) (hck:∀acc,ckOk ck (S1++[.lst acc])) (h0:P (blkR ρ n js))
  (hb:∀x∈xs,∀ρ',P ρ'->∃ρ1,g x ρ'=some ρ1/\P ρ1/\(∀acc,t ρ1 (S1++[.lst acc])=.ok (keep x) (S1++[.lst acc]))/\(keep x=true->∀acc,f ρ1 (S1++[.lst acc])=.ok (.d (val x)) (S1++[.lst acc]))) (hl:xs.length<=100000) :
  lcD fi g t f n js ρ S=thaw ck (.ok (.d (.lst ((xs.filter keep).map val))) S1):=by
 obtain ⟨ρ',e⟩:=lcF_pure P keep val hck xs _ [] h0 hb (by simpa using hl)
 unfold lcD lcE
 rw [hi]
 simp only [bind_ok]
 rw [e]
 simp only [bindN_ok,List.nil_append,endD_at]
end Y
namespace Y
open PySem L2
open Z (lim)
section
variable {f h:FE}{F G:FS}{t u:FT}{fa:FA}{fl:FL}{o:O2}{ρ:Rho}{S:Sto}
noncomputable def kSeq (G:FS) (c:Ctl) (S:Sto):R Ctl:=match c with
 |.nx ρ'=>G ρ' S
 |c=>.ok c S
@[simp] theorem e_seq:sSeq F G ρ S=(F ρ S).bind (kSeq G):=rfl
@[simp] theorem k_seq {ρ':Rho}:kSeq G (.nx ρ') S=G ρ' S:=rfl
@[simp] theorem k_seqR {v:A}:kSeq G (.rt v) S=.ok (.rt v) S:=rfl
noncomputable def kSet (i:Nat) (ρ:Rho) (x:A) (S:Sto):R Ctl:=.ok (.nx (ρ.set i (some x))) S
@[simp] theorem e_set {i:Nat}:sSet i f ρ S=(f ρ S).bind (kSet i ρ):=rfl
@[simp] theorem k_set {i:Nat}{x:A}:kSet i ρ x S=.ok (.nx (ρ.set i (some x))) S:=rfl
noncomputable def kRet (x:A) (S:Sto):R Ctl:=.ok (.rt x) S
@[simp] theorem e_ret:sRet f ρ S=(f ρ S).bind kRet:=rfl
@[simp] theorem k_ret {x:A}:kRet x S=.ok (.rt x) S:=rfl
@[simp] theorem e_nil:sNil ρ S=.ok (.nx ρ) S:=rfl
noncomputable def kIf (F G:FS) (ρ:Rho) (b:Bool) (S:Sto):R Ctl:=if b=true then F ρ S else G ρ S
@[simp] theorem e_if:sIf t F G ρ S=(t ρ S).bind (kIf F G ρ):=rfl
@[simp] theorem k_ifT:kIf F G ρ true S=F ρ S:=rfl
@[simp] theorem k_ifF:kIf F G ρ false S=G ρ S:=rfl
noncomputable def kExpr (ρ:Rho) (x:A) (S:Sto):R Ctl:=.ok (.nx ρ) S
@[simp] theorem e_expr:sExpr f ρ S=(f ρ S).bind (kExpr ρ):=rfl
@[simp] theorem k_expr {x:A}:kExpr ρ x S=.ok (.nx ρ) S:=rfl
noncomputable def kTst (x:A) (S:Sto):R Bool:=match x with
 |.d (.bl b)=>.ok b S
 |_=>.no
@[simp] theorem e_tst:tst f ρ S=(f ρ S).bind kTst:=rfl
@[simp] theorem k_tst {b:Bool}:kTst (.d (.bl b)) S=.ok b S:=rfl
noncomputable def kNot (b:Bool) (S:Sto):R Bool:=.ok (!b) S
@[simp] theorem e_not:notT t ρ S=(t ρ S).bind kNot:=rfl
@[simp] theorem k_not {b:Bool}:kNot b S=.ok (!b) S:=rfl
noncomputable def kAnd (u:FT) (ρ:Rho) (b:Bool) (S:Sto):R Bool:=if b=true then u ρ S else .ok false S
@[simp] theorem e_and:andT t u ρ S=(t ρ S).bind (kAnd u ρ):=rfl
@[simp] theorem k_andT:kAnd u ρ true S=u ρ S:=rfl
@[simp] theorem k_andF:kAnd u ρ false S=.ok false S:=rfl
noncomputable def kOr (u:FT) (ρ:Rho) (b:Bool) (S:Sto):R Bool:=if b=true then .ok true S else u ρ S
@[simp] theorem e_or:orT t u ρ S=(t ρ S).bind (kOr u ρ):=rfl
@[simp] theorem k_orT:kOr u ρ true S=.ok true S:=rfl
@[simp] theorem k_orF:kOr u ρ false S=u ρ S:=rfl
noncomputable def kTru (x:A) (S:Sto):R Bool:=opt (x.tru S) S
@[simp] theorem e_tru:truT f ρ S=(f ρ S).bind kTru:=rfl
@[simp] theorem k_truB {b:Bool}:kTru (.d (.bl b)) S=.ok b S:=rfl
noncomputable def kBin (o:O2) (h:FE) (ρ:Rho) (x:A) (S:Sto):R A:=(h ρ S).bind (o x)
@[simp] theorem e_bin:Y.bin o f h ρ S=(f ρ S).bind (kBin o h ρ):=rfl
@[simp] theorem k_bin {x:A}:kBin o h ρ x S=(h ρ S).bind (o x):=rfl
@[simp] theorem e_un {o1:O1}:un o1 f ρ S=(f ρ S).bind o1:=rfl
@[simp] theorem e_cst {x:D}:cst x ρ S=.ok (.d x) S:=rfl
@[simp] theorem e_anil:aNil ρ S=.ok [] S:=rfl
noncomputable def kA1 (fa:FA) (ρ:Rho) (x:A) (S:Sto):R (List A):=(fa ρ S).bind fun xs S=>.ok (x::xs) S
@[simp] theorem e_acons:aCons f fa ρ S=(f ρ S).bind (kA1 fa ρ):=rfl
@[simp] theorem k_a1 {x:A}:kA1 fa ρ x S=(fa ρ S).bind fun xs S=>.ok (x::xs) S:=rfl
@[simp] theorem e_dL:dL fl ρ S=(fl ρ S).bind fun ds S=>.ok (.d (.lst ds)) S:=rfl
@[simp] theorem e_cL:cL fl ρ S=(fl ρ S).bind fun ds S=>.ok (.p S.length) (S++[.lst ds]):=rfl
noncomputable def kLst (xs:List A) (S:Sto):R (List D):=match datas xs with
 |some ds=>if ds.length<=lim then .ok ds S else .no
 |none=>.no
@[simp] theorem e_lst:lstF fa ρ S=(fa ρ S).bind kLst:=rfl
@[simp] theorem k_lst0:kLst [] S=.ok [] S:=by unfold kLst;simp [datas,lim]
noncomputable def kBL (o:A->A->Sto->Option (List D)) (h:FE) (ρ:Rho) (x:A) (S:Sto):R (List D):=(h ρ S).bind fun y S=>opt (o x y S) S
@[simp] theorem e_binL {o:A->A->Sto->Option (List D)}:binL o f h ρ S=(f ρ S).bind (kBL o h ρ):=rfl
@[simp] theorem k_binL {o:A->A->Sto->Option (List D)}{x:A}:kBL o h ρ x S=(h ρ S).bind fun y S=>opt (o x y S) S:=rfl
@[simp] theorem e_cal {o:List A->Sto->R A}:cal o fa ρ S=(fa ρ S).bind o:=rfl
noncomputable def kTup (xs:List A) (S:Sto):R A:=if xs.length<=lim then .ok (mkT xs) S else .no
@[simp] theorem e_tup:tupF fa ρ S=(fa ρ S).bind kTup:=rfl
@[simp] theorem k_tup2 {x y:A}:kTup [x,y] S=.ok (mkT [x,y]) S:=rfl
@[simp] theorem mkT2 {x y:D}:mkT [.d x,.d y]=.d (.tup [x,y]):=rfl
noncomputable def kCall (F:FF) (as:List A) (S:Sto):R A:=nox (F as S)
@[simp] theorem e_call {F:FF}:callF F fa ρ S=(fa ρ S).bind (kCall F):=rfl
theorem k_call {F:FF}{as:List A}{x:A}{S':Sto}(h:F as S=.ok x S'):kCall F as S=.ok x S':=by unfold kCall;rw [h];rfl
noncomputable def kRg (x:A) (S:Sto):R (List A×Ck):=match x with
 |.d (.int j)=>if -1000000 < j/\j < 1000000 then .ok (rng 0 j.toNat,none) S else .no
 |_=>.no
@[simp] theorem e_rg:iRg f ρ S=(f ρ S).bind kRg:=rfl
theorem k_rg {j:Int}(h:0<=j/\j < 1000000):kRg (.d (.int j)) S=.ok (rng 0 j.toNat,none) S:=by
 show (if _ then _ else _)=_
 rw [if_pos (by omega)]
@[simp] theorem e_sq:iSq f ρ S=(f ρ S).bind iVal:=rfl
@[simp] theorem iv_l {ds:List D}:iVal (.d (.lst ds)) S=.ok (ds.map .d,none) S:=rfl
@[simp] theorem iv_u {ds:List D}:iVal (.d (.tup ds)) S=.ok (ds.map .d,none) S:=rfl
@[simp] theorem iv_s {z:Str}:iVal (.d (.str z)) S=.ok (chrs z,none) S:=rfl
noncomputable def kFor (g:FG) (b:FS) (ρ:Rho) (w:List A×Ck) (S:Sto):R Ctl:=thaw w.2 (forF g b w.2 w.1 ρ S)
@[simp] theorem e_for {fi:FI}{g:FG}{b:FS}:sFor fi g b ρ S=(fi ρ S).bind (kFor g b ρ):=rfl
@[simp] theorem k_for {g:FG}{b:FS}{xs:List A}:kFor g b ρ (xs,none) S=forF g b none xs ρ S:=rfl
noncomputable def kSome (x:A) (S:Sto):R (Option Int):=match x with
 |.d (.int i)=>.ok (some i) S
 |_=>.no
@[simp] theorem e_some:oSome f ρ S=(f ρ S).bind kSome:=rfl
@[simp] theorem k_some {i:Int}:kSome (.d (.int i)) S=.ok (some i) S:=rfl
@[simp] theorem e_none:oNo ρ S=.ok none S:=rfl
noncomputable def kCut2 (x:A) (lo:Option Int) (hi:Option Int) (S:Sto):R A:=oCut x lo hi S
noncomputable def kCut1 (x:A) (l:FO) (ρ:Rho) (lo:Option Int) (S:Sto):R A:=(l ρ S).bind (kCut2 x lo)
noncomputable def kCut (l k:FO) (ρ:Rho) (x:A) (S:Sto):R A:=(l ρ S).bind (kCut1 x k ρ)
@[simp] theorem e_cut {l k:FO}:cutF f l k ρ S=(f ρ S).bind (kCut l k ρ):=rfl
@[simp] theorem k_cut {l k:FO}{x:A}:kCut l k ρ x S=(l ρ S).bind (kCut1 x k ρ):=rfl
@[simp] theorem k_cut1 {l:FO}{x:A}{lo:Option Int}:kCut1 x l ρ lo S=(l ρ S).bind (kCut2 x lo):=rfl
@[simp] theorem k_cut2 {x:A}{lo hi:Option Int}:kCut2 x lo hi S=oCut x lo hi S:=rfl
@[simp] theorem o_I {g:Int->Int->Option D}{i j:Int}:oI g (.d (.int i)) (.d (.int j)) S=(opt (g i j) S).bind fun z S=>.ok (.d z) S:=rfl
@[simp] theorem o_addI {i j:Int}:oAdd (.d (.int i)) (.d (.int j)) S=.ok (.d (.int (i+j))) S:=rfl
theorem o_addS {i j:Str}(h:i.length+j.length<=1000000):oAdd (.d (.str i)) (.d (.str j)) S=.ok (.d (.str (i++j))) S:=by
 show (if _ then _ else _)=_
 exact if_pos h
theorem o_catL {xs ys:List D}(h:xs.length+ys.length<=1000000):oCat (.d (.lst xs)) (.d (.lst ys)) S=some (xs++ys):=by
 show (if _ then _ else _)=_
 exact if_pos h
theorem o_ixL {xs:List D}{i:Int}{x:D}(h:atI xs i=some x):oIx (.d (.lst xs)) (.d (.int i)) S=.ok (.d x) S:=by
 have e:atI (xs.map A.d) i=some (A.d x):=by
  unfold atI at h ⊢
  rw [List.length_map]
  obtain ⟨j,hj,hx⟩:=Option.bind_eq_some_iff.mp h
  rw [hj]
  show (xs.map A.d)[j]?=_
  rw [List.getElem?_map,hx];rfl
 show (opt (atI (xs.map A.d) i) S)=_
 rw [e];rfl
theorem o_ixS {z:Str}{i:Int}{c:Nat}(hl:z.length<=1000000) (h:atI z.cps.toList i=some c):oIx (.d (.str z)) (.d (.int i)) S=.ok (.d (.str ⟨#[c]⟩)) S:=by
 show (if _ then _ else _)=_
 rw [h];exact if_pos hl
@[simp] theorem o_eqI {neg:Bool}{i j:Int}:oEq neg (.d (.int i)) (.d (.int j)) S=.ok (.d (.bl (if neg then !(i==j) else i==j))) S:=by
 unfold oEq
 simp [depD,eqD]
@[simp] theorem o_abs {i:Int}:oAbs [.d (.int i)] S=.ok (.d (.int (if i < 0 then -i else i))) S:=rfl
theorem e_var {i:Nat}{x:A}(h:ρ[i]?=some (some x)):var i ρ S=.ok x S:=by unfold var;rw [h]
end
end Y
namespace Y
open PySem L2
open Z (lim)
section
variable {f h:FE}{F G:FS}{t u:FT}{fa:FA}{fl:FL}{o:O2}{ρ:Rho}{S:Sto}{k:Nat}
noncomputable def kMc (T:String) (o:OM) (fa:FA) (ρ:Rho) (x:A) (S:Sto):R A:=if isT T S x=true then (fa ρ S).bind (o x) else .no
@[simp] theorem e_mc {T:String}{o:OM}:mcF T o f fa ρ S=(f ρ S).bind (kMc T o fa ρ):=rfl
theorem k_mcL {o:OM}{ds:List D}(h:S[k]?=some (.lst ds)):kMc "list" o fa ρ (.p k) S=(fa ρ S).bind (o (.p k)):=by
 unfold kMc isT
 simp [h]
theorem datas_map:∀ds:List D,datas (ds.map A.d)=some ds
 |[]=>rfl
 |d::ds=>by simp only [List.map_cons,datas,datas_map ds]
theorem wr_of {g:List A->List A->Option (List A×A)}{ds:List D}{xs:List A}{ys:List D}(h:S[k]?=some (.lst ds)) (hg:g (ds.map A.d) xs=some (ys.map A.d,.d .non)) (h1:ds.length < lim) (h2:ys.length<=lim):wrL g (.p k) xs S=.ok (.d .non) (S.set k (.lst ys)):=by
 unfold wrL
 simp only [h,Cel.its,hg]
 rw [if_pos ⟨by rw [List.length_map];exact h1,by rw [List.length_map];exact h2⟩]
 unfold mkL
 rw [datas_map]
theorem lim_of {n:Nat}(h:n<=100000):n < lim:=by unfold lim;omega
theorem w_app {ds:List D}{d:D}(h:S[k]?=some (.lst ds)) (hl:ds.length < 10000):wrL gApp (.p k) [.d d] S=.ok (.d .non) (S.set k (.lst (ds++[d]))):=by
 refine wr_of h ?_ (lim_of (by omega)) (Nat.le_of_lt (lim_of (by simp;omega)))
 unfold gApp
 simp
theorem last_at (T:Sto) (c:Cel):(S++c::T)[S.length]?=some c:=by simp
theorem last_set (T:Sto) (c c':Cel):(S++c::T).set S.length c'=S++c'::T:=by
 rw [List.set_append_right _ _ (Nat.le_refl _),Nat.sub_self];rfl
end
end Y
namespace K31
open PySem L2 Y
open Y (bin)
open PySem.NumText
noncomputable def st (l:List Nat):Str:=⟨l.toArray⟩
noncomputable def figs (m:Nat):List Nat:=(Nat.toDigits 10 m).map Char.toNat
theorem digChr:∀d:Nat,d < 10->(Nat.digitChar d).toNat=48+d:=by decide
theorem figs_lt {m:Nat}(h:m < 10):figs m=[48+m]:=by
 unfold figs
 rw [Nat.toDigits_of_lt_base h,List.map_cons,List.map_nil,digChr m h]
theorem figs_ge {m:Nat}(h:10<=m):figs m=figs (m / 10)++[48+m % 10]:=by
 have h2:m % 10 < 10:=Nat.mod_lt _ (by decide)
 have h3:=Nat.toDigits_append_toDigits (b:=10) (n:=m / 10) (d:=m % 10) (by decide) (by omega) h2
 rw [Nat.div_add_mod] at h3
 unfold figs
 rw [<-h3,List.map_append,Nat.toDigits_of_lt_base h2,List.map_cons,List.map_nil,digChr _ h2]
theorem figs_ne (m:Nat):figs m≠[]:=by
 by_cases h:m < 10
 ·rw [figs_lt h];simp
 ·rw [figs_ge (by omega)];simp
theorem figs_all (m:Nat):AllDigits (figs m):=by
 induction m using Nat.strongRecOn with
 |ind m ih=>
  by_cases h:m < 10
  ·rw [figs_lt h]
   intro c hc
   rw [List.mem_singleton] at hc
   omega
  ·rw [figs_ge (by omega)]
   intro c hc
   rcases List.mem_append.mp hc with q | q
   ·exact ih (m / 10) (by omega) c q
   ·rw [List.mem_singleton] at q
    omega
theorem figs_len:∀(k m:Nat),m < 10 ^ (k+1)->(figs m).length<=k+1
 |0,m,h=>by rw [figs_lt (by simpa using h)];simp
 |k+1,m,h=>by
  by_cases h2:m < 10
  ·rw [figs_lt h2];simp
  ·rw [figs_ge (by omega),List.length_append]
   have:=figs_len k (m / 10) (by rw [Nat.pow_succ] at h;omega)
   simp only [List.length_cons,List.length_nil]
   omega
noncomputable def padR:Nat->Nat->List Nat
 |0,_=>[]
 |k+1,b=>padR k (b / 10)++[48+b % 10]
theorem padR_zero:∀k,padR k 0=List.replicate k 48
 |0=>rfl
 |k+1=>by
  unfold padR
  rw [show 0 / 10=0 from rfl,padR_zero k,List.replicate_succ']
theorem padR_figs:∀(k b:Nat),b < 10 ^ (k+1)->padR (k+1) b=List.replicate (k+1-(figs b).length) 48++figs b
 |0,b,h=>by
  have h:b < 10:=by simpa using h
  rw [figs_lt h]
  unfold padR padR
  rw [Nat.mod_eq_of_lt h];rfl
 |k+1,b,h=>by
  unfold padR
  by_cases h2:b < 10
  ·rw [figs_lt h2,Nat.div_eq_of_lt h2,padR_zero,Nat.mod_eq_of_lt h2];rfl
  ·rw [padR_figs k (b / 10) (by rw [Nat.pow_succ] at h;omega),figs_ge (by omega:10<=b),List.length_append,List.append_assoc]
   congr 2
   simp only [List.length_cons,List.length_nil]
   omega
theorem figs_pad {r:Nat}(hr:0 < r):∀(k b:Nat),b < 10 ^ k->figs (r * 10 ^ k+b)=figs r++padR k b
 |0,b,h=>by
  have:b=0:=by simpa using h
  subst this
  simp [padR]
 |k+1,b,h=>by
  have e:(r * 10 ^ (k+1)+b) / 10=r * 10 ^ k+b / 10:=by
   rw [Nat.pow_succ,<-Nat.mul_assoc];omega
  have e2:(r * 10 ^ (k+1)+b) % 10=b % 10:=by
   rw [Nat.pow_succ,<-Nat.mul_assoc];omega
  have h1:10<=r * 10 ^ (k+1)+b:=by
   have:1<=r * 10 ^ k:=Nat.mul_pos hr (Nat.pow_pos (by decide))
   rw [Nat.pow_succ,<-Nat.mul_assoc];omega
  rw [figs_ge h1,e,e2,figs_pad hr k (b / 10) (by rw [Nat.pow_succ] at h;omega)]
  unfold padR
  rw [List.append_assoc]
  cases k with
  |zero=>rfl
  |succ k=>rfl
theorem str_of (m:Nat):(Str.ofString (toString ((m:Nat):Int)))=st (figs m):=by
 have h:=PySem.W.KIN.signs_num m
 unfold st figs
 rw [<-h]
noncomputable def tx (n:Int):Str:=if n < 0 then st (45::figs n.natAbs) else st (figs n.natAbs)
theorem st_app (a b:List Nat):st a++st b=st (a++b):=by
 show (⟨a.toArray++b.toArray⟩:Str)=⟨(a++b).toArray⟩
 simp
theorem st_len (a:List Nat):(st a).length=a.length:=by
 show a.toArray.size=_
 simp
theorem st_eta (z:Str):st z.cps.toList=z:=by
 obtain ⟨⟨l⟩⟩:=z
 rfl
theorem st_inj {a b:List Nat}(h:st a=st b):a=b:=by
 have:=congrArg (fun z:Str=>z.cps.toList) h
 exact this
end K31
namespace K31
open PySem L2 Y
open Y (bin)
open PySem.NumText
open PySem.Builtin.Str
theorem slice_plain (x:Str) {a b:Nat}(hab:a<=b) (hb:b<=x.length) {l u:Option Int}(e:strSliceIndices l u 1 x.length=strSliceIndices (some (a:Int)) (some (b:Int)) 1 x.length):Txt.slice x l u=st ((x.cps.toList.drop a).take (b-a)):=by
 have hx:x.length=x.cps.toList.length:=by simp [Str.length]
 unfold Txt.slice
 rw [e]
 split
 ·rename_i h
  rw [StrLaws.strSliceIndices_plain hab hb] at h
  simp only [List.length_map,List.length_range,Bool.and_eq_true,beq_iff_eq,true_and] at h
  have ha:a=0:=by omega
  have hb2:b-a=x.cps.toList.length:=by omega
  subst ha
  rw [hb2,List.drop_zero,List.take_length,st_eta]
 ·rw [StrLaws.sliced_plain x hab hb];rfl
theorem slice_lo (x:Str) (k:Nat):Txt.slice x (some (k:Int)) none=st (x.cps.toList.drop k):=by
 have hx:x.length=x.cps.toList.length:=by simp [Str.length]
 rw [slice_plain x (a:=min k x.length) (b:=x.length) (by omega) (Nat.le_refl _) (by
  simp only [strSliceIndices,show ((1:Int) > 0)=True from by simp,if_true,show ¬((k:Int) < 0) from by omega,if_false,show ¬(((min k x.length:Nat):Int) < 0) from by omega,show ¬(((x.length:Nat):Int) < 0) from by omega]
  congr 1<;>omega)]
 by_cases h:k<=x.length
 ·rw [Nat.min_eq_left h,List.take_of_length_le (by rw [List.length_drop];omega)]
 ·rw [Nat.min_eq_right (by omega),List.drop_of_length_le (by omega),List.drop_of_length_le (by omega)];simp
theorem slice_hi (x:Str) (k:Nat):Txt.slice x none (some (k:Int))=st (x.cps.toList.take k):=by
 have hx:x.length=x.cps.toList.length:=by simp [Str.length]
 rw [slice_plain x (a:=0) (b:=min k x.length) (by omega) (by omega) (by
  simp only [strSliceIndices,show ((1:Int) > 0)=True from by simp,if_true,show ¬((k:Int) < 0) from by omega,if_false,show ¬(((min k x.length:Nat):Int) < 0) from by omega,show ¬(((0:Nat):Int) < 0) from by omega]
  congr 1<;>omega)]
 rw [List.drop_zero,Nat.sub_zero]
 by_cases h:k<=x.length
 ·rw [Nat.min_eq_left h]
 ·rw [Nat.min_eq_right (by omega),List.take_of_length_le (by omega),List.take_of_length_le (by omega)]
noncomputable def P (l:List Nat):Prop:=∀c∈l,c < 128
theorem occ_fig:∀c:Nat,c < 128->Builtin.Str.occurrences "0123456789" ⟨#[c]⟩ 0 (Str.length "0123456789") 1=if 48<=c/\c<=57 then [c-48] else []:=by decide +kernel
theorem in_fig {c:Nat}(h:c < 128):Z.inS ⟨#[c]⟩ "0123456789" = decide (48<=c/\c<=57):=by
 unfold Z.inS
 rw [occ_fig c h]
 by_cases q:48<=c/\c<=57<;>simp [q]
theorem sw_minus (l:List Nat):Txt.startswith (st l) "-" = (l.head?==some 45):=by
 cases l with
 |nil=>rfl
 |cons c r=>
  unfold Txt.startswith Builtin.Str.subAt
  have e1:Str.length "-" = 1:=by decide
  have e2:Str.cps (Str.ofString "-")=#[45]:=by decide
  rw [e1,e2]
  have e3:(st (c::r)).cps.extract 0 (0+1)=#[c]:=by
   show (c::r).toArray.extract 0 1=_
   simp
  rw [e3,st_len]
  by_cases h:c=45
  ·subst h;simp
  ·simp [h]
theorem cut1 (l:List Nat):(st (l.take 1)==("-" : Str))=(l.head?==some 45):=by
 have e2:("-" : Str)=st [45]:=by decide
 rw [e2,Bool.eq_iff_iff,beq_iff_eq,beq_iff_eq]
 constructor
 ·intro h
  have h:=st_inj h
  cases l with
  |nil=>cases h
  |cons c r=>simp at h;simp [h]
 ·intro h
  cases l with
  |nil=>cases h
  |cons c r=>simp at h;simp [h]
theorem repr_le {l:List Nat}(hp:P l) (hl:l.length<=240):bS (st l)=true:=by
 have:=PySem.StrLaws.reprText_len (st l) (fun c hc=>Nat.lt_trans (hp c hc) (by decide))
 rw [st_len] at this
 exact decide_eq_true (by omega)
end K31
namespace K31
open PySem L2 Y
open Y (bin)
open PySem.NumText
section
variable {S:Sto}{ρ:Rho}
theorem at_nat {α:Type}{xs:List α}{i:Nat}{x:α}(h:xs[i]?=some x):atI xs (i:Int)=some x:=by
 have hi:=(List.getElem?_eq_some_iff.mp h).1
 unfold atI ixN
 rw [if_pos (by omega),if_pos (by omega)]
 exact h
theorem eq_s {neg:Bool}{a b:Str}:oEq neg (.d (.str a)) (.d (.str b)) S=.ok (.d (.bl (if neg then !(a==b) else a==b))) S:=by
 unfold oEq
 simp [depD,eqD]
theorem len_s {z:Str}(h:z.length<=1000):oLen [.d (.str z)] S=.ok (.d (.int z.length)) S:=by
 show (if _ then _ else _)=_
 exact if_pos (Nat.le_trans h (by unfold Z.lim;omega))
theorem ix_s {c:Nat}{r:List Nat}(h:(c::r).length<=1000):oIx (.d (.str (st (c::r)))) (.d (.int 0)) S=.ok (.d (.str (st [c]))) S:=
 o_ixS (z:=st (c::r)) (c:=c) (by rw [st_len];omega) (by show atI (c::r) 0=some c;exact at_nat (i:=0) rfl)
theorem in_s {c:Nat}{neg:Bool}(h:c < 128):oIn neg (.d (.str ⟨#[c]⟩)) (.d (.str "0123456789")) S=.ok (.d (.bl (if neg then !decide (48<=c/\c<=57) else decide (48<=c/\c<=57)))) S:=by
 rw [<-in_fig h]
 rfl
noncomputable def fig (l:List Nat):Bool:=l.all fun c=>decide (48<=c/\c<=57)
noncomputable def okw (l:List Nat):Bool:=decide (1<=l.length/\l.length<=60)&&!(l.head?==some 48&&l != [48])&&fig l
theorem unBls_map:∀bs:List Bool,Z.unBls (bs.map .bl)=some bs
 |[]=>rfl
 |b::bs=>by rw [List.map_cons];unfold Z.unBls;rw [unBls_map bs]
theorem figs_lc {l:List Nat}(hp:P l) (hl:l.length<=1000) (h0:ρ[0]?=some (some (.d (.str (st l))))):lcD (iSq (var 0)) (gN 0) tYs (bin (oIn false) (var 0) (cst (.str "0123456789"))) 1 [] ρ S=.ok (.d (.lst ((l.map fun c=>decide (48<=c/\c<=57)).map .bl))) S:=by
 have key:=lcD_pure (fi:=iSq (var 0)) (g:=gN 0) (t:=tYs) (f:=bin (oIn false) (var 0) (cst (.str "0123456789"))) (n:=1) (js:=[]) (ρ:=ρ) (S:=S) (S1:=S) (xs:=chrs (st l)) (ck:=none)
  (fun ρ=>∃u,ρ=[u]) (fun _=>true) (fun x=>match x with | .d (.str z)=>.bl (match z.cps.toList with | [c]=>decide (48<=c/\c<=57) | _=>false) | _=>.non) (by
   simp -implicitDefEqProofs only [e_sq,e_var h0,bind_ok,iv_s]) (fun acc=>trivial) ⟨none,rfl⟩ (by
   rintro x hx ρ ⟨u,rfl⟩
   obtain ⟨c,hc,rfl⟩:=List.mem_map.mp hx
   refine ⟨_,rfl,⟨_,rfl⟩,fun acc=>rfl,fun _ acc=>?_⟩
   rw [e_bin,e_var (x:=.d (.str ⟨#[c]⟩)) rfl]
   simp -implicitDefEqProofs only [bind_ok,k_bin,e_cst,in_s (hp c hc)]
   rfl) (by
    show (List.map _ _).length<=_
    rw [List.length_map]
    show l.length<=_
    omega)
 rw [key]
 show R.ok _ _=_
 congr 3
 rw [List.filter_eq_self.mpr (by simp)]
 show List.map _ (List.map _ l)=_
 rw [List.map_map,List.map_map]
 rfl
theorem written_ok {l:List Nat}(hp:P l) (hl:l.length<=1000):F_is_written [.d (.str (st l))] S=.ok (.d (.bl (okw l))) S:=by
 refine def_ret0 ?_
 unfold b_is_written
 have h0:(([A.d (.str (st l))].map some++List.replicate (1-1) none:Rho))[0]?=some (some (.d (.str (st l)))):=rfl
 generalize ([A.d (.str (st l))].map some++List.replicate (1-1) none:Rho)=ρ at h0
 have e0:∀S,var 0 ρ S=.ok (.d (.str (st l))) S:=fun S=>e_var h0
 have eL:∀S,oLen [.d (.str (st l))] S=.ok (.d (.int l.length)) S:=fun S=>by rw [len_s (by rw [st_len];exact hl),st_len]
 simp -implicitDefEqProofs only [e_seq,e_if,e_or,e_tst,e_bin,e_cal,e_acons,e_anil,e0,bind_ok,k_a1,eL,k_bin,e_cst,o_I,Z.gLt,Z.gGt,opt_some,k_tst]
 by_cases h1:(l.length:Int) < 1
 ·have:okw l=false:=by unfold okw;rw [decide_eq_false (by omega)];rfl
  rw [this]
  simp -implicitDefEqProofs only [h1,decide_true,k_orT,bind_ok,k_ifT,e_ret,e_cst,k_ret,k_seqR]
 by_cases h2:(60:Int) < l.length
 ·have:okw l=false:=by unfold okw;rw [decide_eq_false (by omega)];rfl
  rw [this]
  simp -implicitDefEqProofs only [h1,h2,decide_true,decide_false,k_orF,e_tst,e_bin,e_cal,e_acons,e_anil,e0,bind_ok,k_a1,eL,k_bin,e_cst,o_I,opt_some,k_tst,Z.gGt,gt_iff_lt,k_ifT,e_ret,e_cst,k_ret,k_seqR]
 have hok:decide (1<=l.length/\l.length<=60)=true:=decide_eq_true (by omega)
 cases l with
 |nil=>simp at h1
 |cons c r=>
  have e48:("0" : Str)=st [48]:=by decide
  have q1:(st [c]==("0" : Str))=((c::r).head?==some 48):=by
   rw [e48,Bool.eq_iff_iff,beq_iff_eq,beq_iff_eq]
   constructor
   ·intro h;have:=st_inj h;simpa using this
   ·intro h;simp at h;rw [h]
  have q2:(st (c::r)==("0" : Str))=(c::r==[48]):=by
   rw [e48,Bool.eq_iff_iff,beq_iff_eq,beq_iff_eq]
   exact ⟨fun h=>st_inj h,fun h=>by rw [h]⟩
  simp -implicitDefEqProofs only [h1,h2,decide_true,decide_false,k_orF,e_tst,e_bin,e_cal,e_acons,e_anil,e0,bind_ok,k_a1,eL,k_bin,e_cst,o_I,opt_some,k_tst,Z.gGt,gt_iff_lt,k_ifF,e_nil,k_seq,e_seq,e_if,e_and,ix_s hl,eq_s,Bool.false_eq_true,if_false,q1]
  have fin:sRet (cal (oAll true) (aCons (lcD (iSq (var 0)) (gN 0) tYs (bin (oIn false) (var 0) (cst (.str "0123456789"))) 1 []) aNil)) ρ S=.ok (.rt (.d (.bl (fig (c::r))))) S:=by
   simp -implicitDefEqProofs only [e_ret,e_cal,e_acons,figs_lc hp hl h0,bind_ok,k_a1,e_anil]
   unfold oAll
   simp only [A.sh,unBls_map,if_true,bind_ok,k_ret]
   congr 4
   unfold fig
   rw [List.all_map]
   rfl
  cases hh:((c::r).head?==some 48) with
  |false=>
   have:okw (c::r)=fig (c::r):=by unfold okw;rw [hok,hh];rfl
   rw [this]
   simp -implicitDefEqProofs only [k_andF,bind_ok,k_ifF,e_nil,k_seq,fin]
  |true=>
   simp -implicitDefEqProofs only [k_andT,e_tst,e_bin,e0,bind_ok,k_bin,e_cst,eq_s,if_true,q2,k_tst]
   cases h3:(c::r==[48]) with
   |false=>
    have:okw (c::r)=false:=by unfold okw;rw [hok,hh,bne,h3];rfl
    rw [this]
    simp -implicitDefEqProofs only [Bool.not_false,bind_ok,k_ifT,e_ret,e_cst,k_ret,k_seqR]
   |true=>
    have:okw (c::r)=fig (c::r):=by unfold okw;rw [hok,hh,bne,h3];rfl
    rw [this]
    simp -implicitDefEqProofs only [Bool.not_true,bind_ok,k_ifF,e_nil,k_seq,fin]
end
end K31
namespace K31
open PySem L2 Y
open Y (bin)
open PySem.NumText
section
variable {S:Sto}{ρ:Rho}
theorem xEx {en:En}{np nl:Nat}{b:FS}{as:List A}{e:Exc}{S':Sto}(h:b (as.map some++List.replicate (nl-np) none) S=.ex e S') (hl:as.length=np:=by rfl):defX en np nl b as S=.ex e S':=by
 unfold defX
 rw [if_pos hl,h]
 rfl
theorem xRt {np nl:Nat}{b:FS}{as:List A}{x:D}(h:b (as.map some++List.replicate (nl-np) none) S=.ok (.rt (.d x)) S) (hl:as.length=np:=by rfl):defX enP np nl b as S=.ok (.d x) S:=by
 unfold defX
 rw [if_pos hl,h]
 exact enP_d0 S x
noncomputable def neg (l:List Nat):Bool:=l.head?==some 45
noncomputable def bd (l:List Nat):List Nat:=if neg l=true then l.drop 1 else l
noncomputable def good (l:List Nat):Bool:=!(l==[45,48])&&okw (bd l)
noncomputable def val (l:List Nat):Int:=if neg l=true then -((digitsVal (bd l):Nat):Int) else ((digitsVal l:Nat):Int)
theorem neg_cons {l:List Nat}(h:neg l=true):l=45::l.drop 1:=by
 unfold neg at h
 cases l with
 |nil=>cases h
 |cons c r=>simp at h;simp [h]
theorem P_bd {l:List Nat}(hp:P l):P (bd l):=by
 unfold bd
 split
 ·exact fun c hc=>hp c (List.mem_of_mem_drop hc)
 ·exact hp
theorem bd_len (l:List Nat):(bd l).length<=l.length:=by
 unfold bd
 split
 ·rw [List.length_drop];omega
 ·exact Nat.le_refl _
theorem fig_all {l:List Nat}(h:fig l=true):AllDigits l:=fun c hc=>of_decide_eq_true (List.all_eq_true.mp h c hc)
theorem int_ok {l:List Nat}(hg:good l=true):oIntS [.d (.str (st l))] S=.ok (.d (.int (val l))) S:=by
 unfold good okw at hg
 simp only [Bool.and_eq_true,decide_eq_true_eq] at hg
 obtain ⟨_,⟨⟨h1,h2⟩,_⟩,h4⟩:=hg
 have ha:=fig_all h4
 have hl:l.length<=61:=by
  unfold bd at h2
  split at h2
  ·rename_i q;rw [neg_cons q];simp only [List.length_cons];omega
  ·omega
 have hlen:(st l).length<=640:=by rw [st_len];omega
 have e:intText? (st l)=some (val l):=by
  unfold val
  cases hn:neg l with
  |true=>
   have hb:bd l=l.drop 1:=by unfold bd;rw [hn];rfl
   rw [if_pos rfl]
   refine intText_neg (cs:=bd l) (x:=st l) ?_ ha ?_ (by omega)
   ·rw [hb];exact neg_cons hn
   ·intro q;rw [q] at h1;simp at h1
  |false=>
   have hb:bd l=l:=by unfold bd;rw [hn];rfl
   rw [hb] at ha h1
   rw [if_neg (by decide)]
   exact intText_digits (x:=st l) ha (by intro q;have q:l=[]:=q;rw [q] at h1;simp at h1) (by omega)
 unfold oIntS
 simp only [e,if_pos hlen]
theorem e_ite {t:FT}{f g:FE}{b:Bool}{S':Sto}(h:t ρ S=.ok b S'):iteV t f g ρ S=if b=true then f ρ S' else g ρ S':=by
 unfold iteV
 rw [h]
 rfl
theorem cut_lo {l:List Nat}(hl:l.length<=1000):oCut (.d (.str (st l))) (some 1) none S=.ok (.d (.str (st (l.drop 1)))) S:=by
 show (if _ then _ else _)=_
 rw [if_pos (by rw [st_len];unfold Z.lim;omega),show (some (1:Int))=some ((1:Nat):Int) from rfl,slice_lo]
 rfl
theorem cut_hi {l:List Nat}(hl:l.length<=1000):oCut (.d (.str (st l))) none (some 1) S=.ok (.d (.str (st (l.take 1)))) S:=by
 show (if _ then _ else _)=_
 rw [if_pos (by rw [st_len];unfold Z.lim;omega),show (some (1:Int))=some ((1:Nat):Int) from rfl,slice_hi]
 rfl
theorem e_mcS {o:OM}{f:FE}{fa:FA}{z:Str}{S':Sto}(h:f ρ S=.ok (.d (.str z)) S'):mcF "str" o f fa ρ S=(fa ρ S').bind fun xs S=>o (.d (.str z)) xs S:=by
 unfold mcF
 rw [h]
 rfl
theorem read_ok (c:Nat->Addr) {l:List Nat}(hp:P l) (hl:l.length<=240):F_read_number c [.d (.str (st l))] S=if good l=true then .ok (.d (.int (val l))) S else .ex ⟨c 3,[]⟩ S:=by
 have h0:(([A.d (.str (st l))].map some++List.replicate (2-1) none:Rho))=[some (.d (.str (st l))),none]:=rfl
 have body:b_read_number c [some (.d (.str (st l))),none] S=if good l=true then .ok (.rt (.d (.int (val l)))) S else .ex ⟨c 3,[]⟩ S:=by
  unfold b_read_number
  have v0:∀x S,var 0 [some (.d (.str (st l))),x] S=.ok (.d (.str (st l))) S:=fun x S=>rfl
  have v1:∀x S,var 1 [some (.d (.str (st l))),some x] S=.ok x S:=fun x S=>rfl
  have t1:truT (mcF "str" oSw (var 0) (aCons (cst (.str "-")) aNil)) [some (.d (.str (st l))),none] S=.ok (neg l) S:=by
   rw [e_tru,e_mcS (v0 _ _)]
   simp -implicitDefEqProofs only [e_acons,e_anil,e_cst,bind_ok,k_a1,oSw,sw_minus,k_truB]
   rfl
  have f1:iteV (truT (mcF "str" oSw (var 0) (aCons (cst (.str "-")) aNil))) (cutF (var 0) (oSome (cst (.int 1))) oNo) (var 0) [some (.d (.str (st l))),none] S=.ok (.d (.str (st (bd l)))) S:=by
   rw [e_ite t1]
   unfold bd
   cases neg l with
   |true=>
    simp -implicitDefEqProofs only [if_true,e_cut,v0,bind_ok,k_cut,e_some,e_cst,k_some,k_cut1,e_none,k_cut2]
    exact cut_lo (by omega)
   |false=>
    simp -implicitDefEqProofs only [Bool.false_eq_true,if_false,v0]
  have e45:("-0" : Str)=st [45,48]:=by decide
  have q2:(st l==("-0" : Str))=(l==[45,48]):=by
   rw [e45,Bool.eq_iff_iff,beq_iff_eq,beq_iff_eq]
   exact ⟨fun h=>st_inj h,fun h=>by rw [h]⟩
  have w:∀S,kCall F_is_written [.d (.str (st (bd l)))] S=.ok (.d (.bl (okw (bd l)))) S:=fun S=>k_call (written_ok (P_bd hp) (Nat.le_trans (bd_len l) (by omega)))
  rw [e_seq,e_set,f1]
  simp -implicitDefEqProofs only [bind_ok,k_set,k_seq,List.set_cons_succ,List.set_cons_zero,e_seq,e_if,e_or,e_tst,e_bin,v0,k_bin,e_cst,eq_s,Bool.false_eq_true,if_false,q2,k_tst]
  have rs:sRaise0 (c 3) bS (var 0) [some (.d (.str (st l))),some (.d (.str (st (bd l))))] S=.ex ⟨c 3,[]⟩ S:=by
   unfold sRaise0
   rw [v0]
   simp only [bind_ok,repr_le hp hl,if_true]
  have rt:sRet (cal oIntS (aCons (var 0) aNil)) [some (.d (.str (st l))),some (.d (.str (st (bd l))))] S=(oIntS [.d (.str (st l))] S).bind kRet:=by
   simp -implicitDefEqProofs only [e_ret,e_cal,e_acons,e_anil,v0,bind_ok,k_a1]
  cases hq:(l==[45,48]) with
  |true=>
   have:good l=false:=by unfold good;rw [hq];rfl
   simp -implicitDefEqProofs only [k_orT,bind_ok,k_ifT,rs,this,Bool.false_eq_true,if_false]
   rfl
  |false=>
   simp -implicitDefEqProofs only [k_orF,e_not,e_tru,e_call,e_acons,e_anil,v1,bind_ok,k_a1,w,k_truB,k_not]
   cases hw:okw (bd l) with
   |false=>
    have:good l=false:=by unfold good;rw [hw,Bool.and_false]
    simp -implicitDefEqProofs only [Bool.not_false,bind_ok,k_ifT,rs,this,Bool.false_eq_true,if_false]
    rfl
   |true=>
    have:good l=true:=by unfold good;rw [hq,hw];rfl
    simp -implicitDefEqProofs only [Bool.not_true,bind_ok,k_ifF,e_nil,k_seq,rt,int_ok this,k_ret,this,if_true]
 cases hg:good l with
 |true=>
  rw [hg,if_pos rfl] at body
  rw [if_pos rfl]
  exact xRt body
 |false=>
  rw [hg,if_neg (by decide)] at body
  rw [if_neg (by decide)]
  exact xEx body
end
end K31
namespace K31
open PySem L2 Y
open Y (bin)
open PySem.NumText
section
variable {S:Sto}{ρ:Rho}
noncomputable abbrev wb:FS:=(sSeq (sIf (tst (bin (oIn true) (var 3) (cst (.str "0123456789")))) (sRet (cst .non)) sNil) (sSet 2 (bin oAdd (bin (oI Z.gMul) (cst (.int 10)) (var 2)) (mcF "str" oSix (cst (.str "0123456789")) (aCons (var 3) aNil)))))
theorem six_ok {c:Nat}(h:48<=c/\c<=57):oSix (.d (.str "0123456789")) [.d (.str ⟨#[c]⟩)] S=.ok (.d (.int ((c-48:Nat):Int))) S:=by
 unfold oSix
 simp only [occ_fig c (by omega),if_pos h]
theorem wb_ok {a b:A}{n:Nat}{c:Nat}(hc:c < 128):wb [some a,some b,some (.d (.int n)),some (.d (.str ⟨#[c]⟩))] S=if 48<=c/\c<=57 then .ok (.nx [some a,some b,some (.d (.int ((n * 10+(c-48):Nat):Int))),some (.d (.str ⟨#[c]⟩))]) S else .ok (.rt (.d .non)) S:=by
 have v3:∀S,var 3 [some a,some b,some (.d (.int n)),some (.d (.str ⟨#[c]⟩))] S=.ok (.d (.str ⟨#[c]⟩)) S:=fun S=>rfl
 have v2:∀S,var 2 [some a,some b,some (.d (.int n)),some (.d (.str ⟨#[c]⟩))] S=.ok (.d (.int n)) S:=fun S=>rfl
 unfold wb
 simp -implicitDefEqProofs only [e_seq,e_if,e_tst,e_bin,v3,bind_ok,k_bin,e_cst,in_s hc,if_true,k_tst]
 by_cases h:48<=c/\c<=57
 ·simp -implicitDefEqProofs only [h,and_self,decide_true,Bool.not_true,k_ifF,e_nil,bind_ok,k_seq,e_set,e_bin,e_cst,k_bin,v2,o_I,Z.gMul,if_true]
  rw [if_pos (Or.inl (by decide))]
  simp -implicitDefEqProofs only [opt_some,bind_ok,k_bin]
  rw [e_mcS (z := "0123456789") rfl]
  simp -implicitDefEqProofs only [e_acons,e_anil,v3,bind_ok,k_a1,six_ok h,o_addI,k_set,List.set_cons_succ,List.set_cons_zero]
  rw [show (10:Int) * (n:Int)+((c-48:Nat):Int)=((n * 10+(c-48):Nat):Int) from by omega]
 ·simp -implicitDefEqProofs only [h,decide_false,Bool.not_false,k_ifT,e_ret,e_cst,bind_ok,k_ret,k_seqR,if_false]
theorem wfor_ok {a b:A}:∀(l:List Nat) (n:Nat) (u:Option A),P l->∃u',forF (gN 3) wb none (l.map fun c=>A.d (.str ⟨#[c]⟩)) [some a,some b,some (.d (.int n)),u] S
  = if fig l=true then .ok (.nx [some a,some b,some (.d (.int ((l.foldl (fun acc c=>acc * 10+(c-48)) n:Nat):Int))),u']) S else .ok (.rt (.d .non)) S
 |[],n,u,_=>⟨u,by
  rw [List.map_nil]
  unfold forF
  rw [if_pos (show ckOk none S from trivial)]
  rfl⟩
 |c::l,n,u,hp=>by
  have hc:=hp c List.mem_cons_self
  have hp':P l:=fun d hd=>hp d (List.mem_cons_of_mem _ hd)
  obtain ⟨u',ih⟩:=wfor_ok (a:=a) (b:=b) l (n * 10+(c-48)) (some (.d (.str ⟨#[c]⟩))) hp'
  refine ⟨u',?_⟩
  rw [List.map_cons]
  unfold forF
  rw [if_pos (show ckOk none S from trivial)]
  rw [show gN 3 (A.d (.str ⟨#[c]⟩)) [some a,some b,some (.d (.int n)),u]=some [some a,some b,some (.d (.int n)),some (.d (.str ⟨#[c]⟩))] from rfl]
  simp only [opt_some,bind_ok,wb_ok hc]
  by_cases h:48<=c/\c<=57
  ·rw [if_pos h]
   simp only [bind_ok]
   rw [ih]
   have:fig (c::l)=fig l:=by unfold fig;rw [List.all_cons,decide_eq_true h];rfl
   rw [this]
   rfl
  ·rw [if_neg h]
   have:fig (c::l)=false:=by unfold fig;rw [List.all_cons,decide_eq_false h];rfl
   rw [this]
   rfl
theorem writes_ok {l:List Nat}(hp:P l) (hl:l.length<=1000):F__law_writes [.d (.str (st l))] S=.ok (.d (if good l=true then .int (val l) else .non)) S:=by
 refine def_ret0 ?_
 show b__law_writes [some (.d (.str (st l))),none,none,none] S=_
 unfold b__law_writes
 have v0:∀x y z S,var 0 [some (.d (.str (st l))),x,y,z] S=.ok (.d (.str (st l))) S:=fun x y z S=>rfl
 have v1:∀x y z S,var 1 [some (.d (.str (st l))),some x,y,z] S=.ok x S:=fun x y z S=>rfl
 have q1:(st (l.take 1)==("-" : Str))=neg l:=cut1 l
 have first:sIf (tst (bin (oEq false) (cutF (var 0) oNo (oSome (cst (.int 1)))) (cst (.str "-")))) (sSet 1 (cutF (var 0) (oSome (cst (.int 1))) oNo)) sNil [some (.d (.str (st l))),some (.d (.str (st l))),none,none] S=.ok (.nx [some (.d (.str (st l))),some (.d (.str (st (bd l)))),none,none]) S:=by
  simp -implicitDefEqProofs only [e_if,e_tst,e_bin,e_cut,v0,bind_ok,k_cut,e_none,k_cut1,e_some,e_cst,k_some,k_cut2,cut_hi hl,k_bin,eq_s,Bool.false_eq_true,if_false,q1,k_tst]
  unfold bd
  cases neg l with
  |true=>
   simp -implicitDefEqProofs only [k_ifT,e_set,e_cut,v0,bind_ok,k_cut,e_none,k_cut1,e_some,e_cst,k_some,k_cut2,cut_lo hl,k_set,List.set_cons_succ,List.set_cons_zero,if_true]
  |false=>
   simp -implicitDefEqProofs only [k_ifF,e_nil,Bool.false_eq_true,if_false]
 have hlb:=Nat.le_trans (bd_len l) hl
 have eL:∀S,oLen [.d (.str (st (bd l)))] S=.ok (.d (.int (bd l).length)) S:=fun S=>by rw [len_s (by rw [st_len];exact hlb),st_len]
 have e48:("0" : Str)=st [48]:=by decide
 have eN:("" : Str)=st []:=by decide
 have q0:(st l==("0" : Str))=(l==[48]):=by
  rw [e48,Bool.eq_iff_iff,beq_iff_eq,beq_iff_eq]
  exact ⟨fun h=>st_inj h,fun h=>by rw [h]⟩
 have q3:(st (bd l)==("" : Str))=(bd l==[]):=by
  rw [eN,Bool.eq_iff_iff,beq_iff_eq,beq_iff_eq]
  exact ⟨fun h=>st_inj h,fun h=>by rw [h]⟩
 have q4:(st (bd l)==st l)=(bd l==l):=by
  rw [Bool.eq_iff_iff,beq_iff_eq,beq_iff_eq]
  exact ⟨fun h=>st_inj h,fun h=>by rw [h]⟩
 have second:orT (tst (bin (oEq false) (var 1) (cst (.str "")))) (orT (tst (bin (oI Z.gGt) (cal oLen (aCons (var 1) aNil)) (cst (.int 60)))) (andT (tst (bin (oEq false) (bin oIx (var 1) (cst (.int 0))) (cst (.str "0")))) (tst (bin (oEq true) (var 0) (cst (.str "0")))))) [some (.d (.str (st l))),some (.d (.str (st (bd l)))),none,none] S
   = .ok (bd l==[]||(decide (60 < (bd l).length)||((bd l).head?==some 48&&!(l==[48])))) S:=by
  simp -implicitDefEqProofs only [e_or,e_tst,e_bin,v1,bind_ok,k_bin,e_cst,eq_s,Bool.false_eq_true,if_false,q3,k_tst]
  cases hb:bd l with
  |nil=>rfl
  |cons d r=>
   have hlb2:(d::r).length<=1000:=by rw [<-hb];exact hlb
   have q5:(st [d]==("0" : Str))=((d::r).head?==some 48):=by
    rw [e48,Bool.eq_iff_iff,beq_iff_eq,beq_iff_eq]
    constructor
    ·intro h;have:=st_inj h;simpa using this
    ·intro h;simp at h;rw [h]
   rw [hb] at eL
   rw [show ((d::r:List Nat)==[])=false from rfl]
   simp -implicitDefEqProofs only [k_orF,e_or,e_tst,e_bin,e_cal,e_acons,e_anil,v1,bind_ok,k_a1,eL,k_bin,e_cst,o_I,Z.gGt,opt_some,k_tst]
   by_cases h:60 < (d::r).length
   ·rw [decide_eq_true (by omega:((d::r).length:Int) > 60),decide_eq_true h]
    rfl
   ·rw [decide_eq_false (by omega:¬((d::r).length:Int) > 60),decide_eq_false h]
    simp -implicitDefEqProofs only [k_orF,e_and,e_tst,e_bin,v1,v0,bind_ok,k_bin,e_cst,ix_s hlb2,eq_s,Bool.false_eq_true,if_false,q5,k_tst,Bool.false_or]
    cases ((d::r).head?==some 48) with
    |false=>rfl
    |true=>
     simp -implicitDefEqProofs only [k_andT,e_tst,e_bin,v0,bind_ok,k_bin,e_cst,eq_s,if_true,q0,k_tst,Bool.true_and]
 rw [e_seq,e_set,v0]
 simp -implicitDefEqProofs only [bind_ok,k_set,k_seq,List.set_cons_succ,List.set_cons_zero]
 rw [e_seq,first]
 simp -implicitDefEqProofs only [bind_ok,k_seq]
 rw [e_seq,e_if,second]
 simp -implicitDefEqProofs only [bind_ok]
 obtain ⟨u',loop⟩:=wfor_ok (S:=S) (a:=.d (.str (st l))) (b:=.d (.str (st (bd l)))) (bd l) 0 none (P_bd hp)
 cases hr:(bd l==[]||(decide (60 < (bd l).length)||((bd l).head?==some 48&&!(l==[48])))) with
 |true=>
  have:good l=false:=by
   unfold good okw
   rcases Bool.or_eq_true_iff.mp hr with h | h
   ·rw [beq_iff_eq.mp h];simp
   rcases Bool.or_eq_true_iff.mp h with h | h
   ·rw [decide_eq_false (by have:=of_decide_eq_true h;omega)];simp
   obtain ⟨h1,h2⟩:=Bool.and_eq_true_iff.mp h
   rw [h1]
   cases hb:(bd l != [48]) with
   |true=>simp
   |false=>
    have hb:bd l=[48]:=by simpa using hb
    have:l=[45,48]:=by
     unfold bd at hb
     split at hb
     ·rename_i q;rw [neg_cons q,hb]
     ·rw [hb] at h2;simp at h2
    rw [this];simp
  rw [this]
  simp -implicitDefEqProofs only [k_ifT,e_ret,e_cst,bind_ok,k_ret,k_seqR,Bool.false_eq_true,if_false]
 |false=>
  obtain ⟨n1,h⟩:=Bool.or_eq_false_iff.mp hr
  obtain ⟨n2,n3⟩:=Bool.or_eq_false_iff.mp h
  have n2:=of_decide_eq_false n2
  have n1:bd l≠[]:=by simpa using n1
  have hg:good l=fig (bd l):=by
   unfold good okw
   have h1:1<=(bd l).length:=by
    cases hb:bd l with
    |nil=>exact absurd hb n1
    |cons d r=>simp
   rw [decide_eq_true (show 1<=(bd l).length/\(bd l).length<=60 by omega)]
   have h2:(!(l==[45,48]))=true:=by
    cases hq:(l==[45,48]) with
    |false=>rfl
    |true=>
     have hq:l=[45,48]:=by simpa using hq
     subst hq
     exact absurd n3 (by decide)
   have h3:(!((bd l).head?==some 48&&bd l != [48]))=true:=by
    cases hh:((bd l).head?==some 48) with
    |false=>rfl
    |true=>
     rw [hh,Bool.true_and] at n3
     have hq:l=[48]:=by simpa using n3
     subst hq
     rfl
   rw [h2,h3];rfl
  simp -implicitDefEqProofs only [k_ifF,e_nil,bind_ok,k_seq]
  rw [e_seq,e_set,e_cst]
  simp -implicitDefEqProofs only [bind_ok,k_set,k_seq,List.set_cons_succ,List.set_cons_zero]
  rw [e_seq,e_for,e_sq,v1]
  simp -implicitDefEqProofs only [bind_ok,iv_s,k_for]
  rw [show chrs (st (bd l))=(bd l).map fun c=>A.d (.str ⟨#[c]⟩) from rfl]
  rw [show ((0:Int))=((0:Nat):Int) from rfl] 
  rw [loop,hg]
  cases hf:fig (bd l) with
  |false=>
   simp -implicitDefEqProofs only [Bool.false_eq_true,if_false,bind_ok,k_seqR]
  |true=>
   simp -implicitDefEqProofs only [if_true,bind_ok,k_seq]
   generalize hd:((bd l).foldl (fun acc c=>acc * 10+(c-48)) 0:Nat)=n
   have hd':digitsVal (bd l)=n:=hd
   have v2:∀S,var 2 [some (.d (.str (st l))),some (.d (.str (st (bd l)))),some (.d (.int n)),u'] S=.ok (.d (.int n)) S:=fun S=>rfl
   simp -implicitDefEqProofs only [e_seq,e_if,e_tst,e_bin,v0,v1,bind_ok,k_bin,eq_s,if_true,q4,k_tst]
   unfold val
   cases hn:neg l with
   |true=>
    have:(bd l==l)=false:=by
     rw [show bd l=l.drop 1 from by unfold bd;rw [hn];rfl]
     rw [beq_eq_false_iff_ne]
     intro q
     have:=congrArg List.length q
     rw [neg_cons hn] at this
     simp at this
    rw [this]
    simp -implicitDefEqProofs only [Bool.not_false,k_ifT,e_ret,e_bin,e_cst,v2,bind_ok,k_bin,o_I,Z.gSub,opt_some,k_ret,k_seqR,if_true,hd']
    rw [show (((0:Nat):Int)-(n:Int))=-(n:Int) from by omega]
   |false=>
    have hb:bd l=l:=by unfold bd;rw [hn];rfl
    rw [show (bd l==l)=true from by rw [hb];simp]
    rw [hb] at hd'
    simp -implicitDefEqProofs only [Bool.not_true,k_ifF,e_nil,k_seq,e_ret,v2,bind_ok,k_ret,Bool.false_eq_true,if_false,hd']
end
end K31
namespace K31
open PySem L2 Y
open Y (bin)
open PySem.NumText
section
variable {S:Sto}{ρ:Rho}{c:Nat->Addr}
theorem ne_of (nd:(ks c).Nodup):∀i j,i < 12->j < 12->(c i=c j↔i=j):=by
 have e:ks c=(List.range 12).map c:=rfl
 rw [e] at nd
 intro i j hi hj
 constructor
 ·intro h
  have h1:((List.range 12).map c)[i]?=some (c i):=by rw [List.getElem?_map,List.getElem?_range (by omega)];rfl
  have h2:((List.range 12).map c)[j]?=some (c i):=by rw [List.getElem?_map,List.getElem?_range (by omega),h];rfl
  exact (List.getElem?_inj (List.getElem?_eq_some_iff.mp h1).1 nd).mp (h1.trans h2.symm)
 ·intro h;rw [h]
theorem isX_ok {k:Nat}{fs:List (Str×A)}(h:S[k]?=some (.exc (c 3) fs)) (isD:Addr->Bool):oIsX (ks c) isD (.p k) S=.ok (.d (.bl (isD (c 3)))) S:=by
 have hm:c 3∈ks c:=by simp [ks]
 unfold oIsX
 simp only [h,if_pos hm]
theorem isT_ok {k:Nat}{fs:List (Str×A)}(h:S[k]?=some (.exc (c 3) fs)) (isD:Addr->Bool):oIsT (ks c) [c 9,c 7,c 5,c 11,c 4,c 10] isD [.p k,.t [.k (.ref (c 9)),.k (.ref (c 7)),.k (.ref (c 5)),.k (.ref (c 11)),.k (.ref (c 4)),.k (.ref (c 10))]] S=.ok (.d (.bl (isD (c 3)))) S:=by
 have hm:c 3∈ks c:=by simp [ks]
 unfold oIsT
 simp only [h]
 rw [if_pos ⟨hm,rfl⟩]
noncomputable def seven:List D:=[.tup [.str "text", .bl true],.tup [.str "kind", .bl false],.tup [.str "taken", .bl false],.tup [.str "ring", .bl false],.tup [.str "name", .bl false],.tup [.str "many", .bl false],.tup [.str "bodies", .bl false]]
theorem seven_ok (h1:ρ[1]?=some (some (.d (.lst seven)))):lcD (iSq (var 1)) (gT 2 (gsCons (gN 0) (gsCons (gN 1) gsNil))) (truT (var 1)) (var 0) 2 [] ρ S=.ok (.d (.lst [.str "text"])) S:=by
 have key:=lcD_pure (fi:=iSq (var 1)) (g:=gT 2 (gsCons (gN 0) (gsCons (gN 1) gsNil))) (t:=truT (var 1)) (f:=var 0) (n:=2) (js:=[]) (ρ:=ρ) (S:=S) (S1:=S) (xs:=seven.map .d) (ck:=none)
  (fun ρ=>∃u v,ρ=[u,v]) (fun x=>match x with | .d (.tup [_,.bl b])=>b | _=>false) (fun x=>match x with | .d (.tup [.str s,_])=>.str s | _=>.non) (by
   rw [e_sq,e_var h1];rfl) (fun acc=>trivial) ⟨none,none,rfl⟩ (by
   rintro x hx ρ ⟨u,v,rfl⟩
   have:∃s b,x=.d (.tup [.str s,.bl b]):=by
    simp [seven] at hx
    rcases hx with h | h | h | h | h | h | h<;>exact ⟨_,_,h⟩
   obtain ⟨s,b,rfl⟩:=this
   exact ⟨_,rfl,⟨_,_,rfl⟩,fun acc=>rfl,fun _ acc=>rfl⟩) (by decide)
 rw [key]
 rfl
theorem lst3 {a b d:D}:kLst [.d a,.d b,.d d] S=.ok [a,b,d] S:=rfl
theorem lst1 {a:D}:kLst [.d a] S=.ok [a] S:=rfl
theorem tup6 {a b d e f g:V}:kTup [.k a,.k b,.k d,.k e,.k f,.k g] S=.ok (.t [.k a,.k b,.k d,.k e,.k f,.k g]) S:=rfl
theorem e_cstA {x:A}:cstA x ρ S=.ok x S:=rfl
theorem word_ok (nd:(ks c).Nodup) {k:Nat}{fs:List (Str×A)}(h:S[k]?=some (.exc (c 3) fs)):F__law_word_of c [.p k] S=.ok (.d (.str "text")) S:=by
 have dc:∀j,j < 12->decide (c 3=c j)=decide (3=j):=fun j h1=>by
  rw [Bool.eq_iff_iff,decide_eq_true_iff,decide_eq_true_iff]
  exact ne_of nd 3 j (by decide) h1
 have dm:decide (c 3∈[c 9,c 7,c 5,c 11,c 4,c 10])=false:=by
  rw [decide_eq_false_iff_not]
  simp only [List.mem_cons,List.not_mem_nil,ne_of nd 3 9 (by decide) (by decide),ne_of nd 3 7 (by decide) (by decide),ne_of nd 3 5 (by decide) (by decide),ne_of nd 3 11 (by decide) (by decide),ne_of nd 3 4 (by decide) (by decide),ne_of nd 3 10 (by decide) (by decide)]
  decide
 refine def_ret0 ?_
 show b__law_word_of c [some (.p k),none,none] S=_
 unfold b__law_word_of
 have iX:=fun isD=>isX_ok (c:=c) h isD
 have iT:=fun isD=>isT_ok (c:=c) h isD
 have v0:∀x y S,var 0 [some (.p k),x,y] S=.ok (.p k) S:=fun x y S=>rfl
 have v1:∀x y S,var 1 [some (.p k),some x,y] S=.ok x S:=fun x y S=>rfl
 have v2:∀x y S,var 2 [some (.p k),x,some y] S=.ok y S:=fun x y S=>rfl
 simp -implicitDefEqProofs only [e_seq,e_set,e_dL,e_lst,e_acons,e_anil,e_un,e_tup,e_cst,v0,bind_ok,iX,k_a1,k_tup2,mkT2,lst3,k_set,k_seq,List.set_cons_succ,List.set_cons_zero,e_binL,k_binL,v1]
 rw [o_catL (by simp)]
 simp -implicitDefEqProofs only [opt_some,bind_ok,k_set,k_seq,e_seq,e_set,e_dL,e_binL,v1,k_binL,e_lst,e_acons,e_anil,e_tup,e_cst,k_a1,e_cal,v0,e_cstA,tup6,iT,k_tup2,mkT2,lst1,List.set_cons_succ,List.set_cons_zero]
 rw [o_catL (by simp)]
 simp -implicitDefEqProofs only [opt_some,bind_ok,k_set,k_seq,e_seq,e_set,List.set_cons_succ,List.set_cons_zero,List.cons_append,List.nil_append,decide_true]
 rw [dc 2 (by decide),dc 1 (by decide),dc 8 (by decide),dc 0 (by decide),dc 6 (by decide),dm]
 rw [show ([D.tup [.str "text", .bl true],.tup [.str "kind", .bl (decide (3=2))],.tup [.str "taken", .bl (decide (3=1))],.tup [.str "ring", .bl (decide (3=8))],.tup [.str "name", .bl (decide (3=0))],.tup [.str "many", .bl (decide (3=6))],.tup [.str "bodies", .bl false]]:List D)=seven from rfl]
 rw [seven_ok rfl]
 simp -implicitDefEqProofs only [bind_ok,k_set,k_seq,e_seq,e_if,e_or,e_tst,e_bin,e_cal,e_acons,e_anil,List.set_cons_succ,List.set_cons_zero,v2,k_a1]
 rw [show oLen [.d (.lst [.str "text"])] S=.ok (.d (.int 1)) S from rfl]
 simp -implicitDefEqProofs only [bind_ok,k_bin,e_cst,o_eqI,if_true,k_tst]
 rw [show (!((1:Int)==1))=false from rfl]
 simp -implicitDefEqProofs only [k_orF,e_not,e_tru,e_un,v0,bind_ok,iX,k_truB,k_not,Bool.not_true,k_ifF,e_nil,k_seq,e_ret,e_bin,v2,k_bin,e_cst]
 rw [show oIx (.d (.lst [.str "text"])) (.d (.int 0)) S=.ok (.d (.str "text")) S from o_ixL (at_nat (xs:=[D.str "text"]) (i:=0) rfl)]
 rfl
noncomputable def tell (l:List Nat):D:=if good l=true then .tup [.str "told", .int (val l)] else .tup [.str "refused", .str "text"]
theorem lread_ok (nd:(ks c).Nodup) {l:List Nat}(hp:P l) (hl:l.length<=240):F__law_read c [.d (.str (st l))] S=.ok (.d (tell l)) S:=by
 have v0:∀x y S,var 0 [some (.d (.str (st l))),x,y] S=.ok (.d (.str (st l))) S:=fun x y S=>rfl
 have v1:∀x y S,var 1 [some (.d (.str (st l))),some x,y] S=.ok x S:=fun x y S=>rfl
 have v2:∀x y S,var 2 [some (.d (.str (st l))),x,some y] S=.ok y S:=fun x y S=>rfl
 unfold tell
 cases hg:good l with
 |true=>
  refine def_ret0 ?_
  show b__law_read c [some (.d (.str (st l))),none,none] S=_
  unfold b__law_read
  rw [e_seq,e_set,e_cst]
  simp -implicitDefEqProofs only [bind_ok,k_set,k_seq,List.set_cons_succ,List.set_cons_zero]
  rw [e_seq]
  unfold sTryFn
  simp -implicitDefEqProofs only [e_acons,e_anil,v0,bind_ok,k_a1,bindN_ok,read_ok c hp hl,hg,if_true,mkT2,List.set_cons_succ,List.set_cons_zero,k_seq,e_ret,v1,k_ret]
 |false=>
  refine def_ret (T:=[.exc (c 3) []]) ?_
  show b__law_read c [some (.d (.str (st l))),none,none] S=_
  unfold b__law_read
  rw [e_seq,e_set,e_cst]
  simp -implicitDefEqProofs only [bind_ok,k_set,k_seq,List.set_cons_succ,List.set_cons_zero]
  rw [e_seq]
  unfold sTryFn
  have wo:kCall (F__law_word_of c) [.p S.length] (S++[.exc (c 3) []])=.ok (.d (.str "text")) (S++[.exc (c 3) []]):=k_call (word_ok nd (fs:=[]) (by simp))
  have hm:decide (c 3∈rs c)=true:=decide_eq_true (by simp [rs])
  simp -implicitDefEqProofs only [e_acons,e_anil,v0,bind_ok,k_a1,bindN_ok,read_ok c hp hl,hg,Bool.false_eq_true,if_false,hm,if_true,List.set_cons_succ,List.set_cons_zero,e_set,e_tup,e_cst,e_call,v2,wo,k_tup2,mkT2,k_set,goneC,k_seq,e_ret,v1,k_ret]
theorem right_ok (nd:(ks c).Nodup) {l:List Nat}(hp:P l) (hl:l.length<=240):F__law_right c [.d (.str (st l))] S=.ok (.d (.bl true)) S:=by
 have v0:∀x y S,var 0 [some (.d (.str (st l))),x,y] S=.ok (.d (.str (st l))) S:=fun x y S=>rfl
 have v1:∀x y S,var 1 [some (.d (.str (st l))),some x,y] S=.ok x S:=fun x y S=>rfl
 have v2:∀x y S,var 2 [some (.d (.str (st l))),x,some y] S=.ok y S:=fun x y S=>rfl
 refine def_ret0 ?_
 show b__law_right c [some (.d (.str (st l))),none,none] S=_
 unfold b__law_right
 have wo:=fun S=>k_call (writes_ok (S:=S) hp (by omega))
 have lo:=fun S=>k_call (lread_ok (S:=S) nd hp hl)
 simp -implicitDefEqProofs only [e_seq,e_set,e_call,e_acons,e_anil,v0,bind_ok,k_a1,wo,lo,k_set,k_seq,List.set_cons_succ,List.set_cons_zero,e_if,e_tst,e_bin,v1,k_bin,e_cst]
 unfold tell
 cases hg:good l with
 |true=>
  simp -implicitDefEqProofs only [if_true]
  rw [show oIsN false (.d (.int (val l))) (.d .non) S=.ok (.d (.bl false)) S from rfl]
  simp -implicitDefEqProofs only [bind_ok,k_tst,k_ifF,e_nil,k_seq,e_ret]
  unfold andV
  simp -implicitDefEqProofs only [e_bin,v2,v1,bind_ok,k_bin,e_tup,e_acons,e_anil,e_cst,k_a1,k_tup2,mkT2]
  rw [show oEq false (.d (.tup [.str "told", .int (val l)])) (.d (.tup [.str "told", .int (val l)])) S=.ok (.d (.bl true)) S from by unfold oEq;simp [depD,depDs,eqD,eqDs]]
  simp -implicitDefEqProofs only [bind_ok]
  rw [show A.tru S (.d (.bl true))=some true from rfl]
  simp -implicitDefEqProofs only [opt_some,bind_ok,if_true]
  rfl
 |false=>
  simp -implicitDefEqProofs only [Bool.false_eq_true,if_false]
  rw [show oIsN false (.d .non) (.d .non) S=.ok (.d (.bl true)) S from rfl]
  simp -implicitDefEqProofs only [bind_ok,k_tst,k_ifT,e_ret,e_bin,v2,k_bin,e_tup,e_acons,e_anil,e_cst,k_a1,k_tup2,mkT2]
  rw [show oEq false (.d (.tup [.str "refused", .str "text"])) (.d (.tup [.str "refused", .str "text"])) S=.ok (.d (.bl true)) S from by unfold oEq;simp [depD,depDs,eqD,eqDs]]
  rfl
end
end K31
namespace K31
open PySem L2 Y
open Y (bin)
open PySem.NumText
section
variable {S:Sto}{ρ:Rho}
noncomputable abbrev shT:FT:=(orT (tst (bin (oI Z.gGt) (var 2) (cst (.int 0)))) (tst (bin (oEq false) (var 1) (cst (.str "")))))
noncomputable abbrev shB:FS:=(sSeq (sSet 1 (bin oAdd (bin oIx (cst (.str "0123456789")) (bin (oI Z.gMod) (var 2) (cst (.int 10)))) (var 1))) (sSet 2 (bin (oI Z.gDiv) (var 2) (cst (.int 10)))))
theorem fig_at:∀d:Nat,d < 10->("0123456789" : Str).cps.toList[d]?=some (48+d):=by decide
theorem shB_ok {a:A}{m:Nat}{acc:List Nat}(hl:acc.length<=1000):shB [some a,some (.d (.str (st acc))),some (.d (.int m))] S=.ok (.nx [some a,some (.d (.str (st ((48+m % 10)::acc)))),some (.d (.int ((m / 10:Nat):Int)))]) S:=by
 have v1:∀x y S,var 1 [some a,some x,y] S=.ok x S:=fun x y S=>rfl
 have v2:∀x y S,var 2 [some a,x,some y] S=.ok y S:=fun x y S=>rfl
 have ix:∀S,oIx (.d (.str "0123456789")) (.d (.int ((m:Int) % 10))) S=.ok (.d (.str (st [48+m % 10]))) S:=fun S=>by
  rw [show ((m:Int) % 10)=((m % 10:Nat):Int) from by omega]
  exact o_ixS (by decide) (at_nat (fig_at _ (Nat.mod_lt _ (by decide))))
 have ad:∀S,oAdd (.d (.str (st [48+m % 10]))) (.d (.str (st acc))) S=.ok (.d (.str (st ((48+m % 10)::acc)))) S:=fun S=>by
  rw [o_addS (by rw [st_len,st_len];simp only [List.length_cons,List.length_nil];omega),st_app];rfl
 unfold shB
 simp -implicitDefEqProofs only [e_seq,e_set,e_bin,e_cst,bind_ok,k_bin,v2,o_I,Z.gMod,Z.gDiv]
 rw [if_pos (by decide)]
 simp -implicitDefEqProofs only [opt_some,bind_ok,ix,k_bin,v1,ad,k_set,k_seq,List.set_cons_succ,List.set_cons_zero,e_set,e_bin,v2,e_cst,o_I,Z.gDiv]
 rw [if_pos (by decide)]
 simp -implicitDefEqProofs only [opt_some,bind_ok,k_set,List.set_cons_succ,List.set_cons_zero]
 rw [show ((m:Int) / 10)=((m / 10:Nat):Int) from by omega]
theorem shT_ok {a:A}{m:Nat}{acc:List Nat}:shT [some a,some (.d (.str (st acc))),some (.d (.int m))] S=.ok (decide (0 < m)||(acc==[])) S:=by
 have v1:∀x y S,var 1 [some a,some x,y] S=.ok x S:=fun x y S=>rfl
 have v2:∀x y S,var 2 [some a,x,some y] S=.ok y S:=fun x y S=>rfl
 have eN:("" : Str)=st []:=by decide
 have q:(st acc==("" : Str))=(acc==[]):=by
  rw [eN,Bool.eq_iff_iff,beq_iff_eq,beq_iff_eq]
  exact ⟨fun h=>st_inj h,fun h=>by rw [h]⟩
 unfold shT
 simp -implicitDefEqProofs only [e_or,e_tst,e_bin,v2,bind_ok,k_bin,e_cst,o_I,Z.gGt,opt_some,k_tst]
 by_cases h:0 < m
 ·rw [decide_eq_true (by omega:(m:Int) > 0),decide_eq_true h];rfl
 ·rw [decide_eq_false (by omega:¬(m:Int) > 0),decide_eq_false h]
  simp -implicitDefEqProofs only [k_orF,e_tst,e_bin,v1,bind_ok,k_bin,e_cst,eq_s,Bool.false_eq_true,if_false,q,k_tst,Bool.false_or]
theorem sh_loop {a:A}:∀(k m:Nat) (acc:List Nat),m < 10 ^ k->acc≠[]->acc.length+k<=1000->whF shT shB (k+1) [some a,some (.d (.str (st acc))),some (.d (.int m))] S=.ok (.nx [some a,some (.d (.str (st (if m=0 then acc else figs m++acc)))),some (.d (.int 0))]) S
 |k,0,acc,_,hn,_=>by
  unfold whF
  rw [shT_ok]
  have:(acc==[])=false:=by simpa using hn
  rw [this]
  rfl
 |0,m+1,acc,h,_,_=>by simp at h
 |k+1,m+1,acc,h,hn,hl=>by
  have ih:=sh_loop (a:=a) k ((m+1) / 10) ((48+(m+1) % 10)::acc) (by rw [Nat.pow_succ] at h;omega) (by simp) (by simp only [List.length_cons];omega)
  unfold whF
  rw [shT_ok,decide_eq_true (Nat.succ_pos m),Bool.true_or]
  simp only [bind_ok,if_true]
  rw [shB_ok (by omega)]
  simp only [bind_ok]
  rw [ih]
  congr 6
  rw [if_neg (Nat.succ_ne_zero m)]
  by_cases h10:m+1 < 10
  ·rw [if_pos (by omega),figs_lt h10,Nat.mod_eq_of_lt h10];rfl
  ·rw [if_neg (by omega),figs_ge (by omega:10<=m+1),List.append_assoc];rfl
theorem shown_ok {n:Int}(h:n.natAbs < 10 ^ 69):F__law_shown [.d (.int n)] S=.ok (.d (.str (tx n))) S:=by
 refine def_ret0 ?_
 show b__law_shown [some (.d (.int n)),none,none] S=_
 unfold b__law_shown
 have v0:∀x y S,var 0 [some (.d (.int n)),x,y] S=.ok (.d (.int n)) S:=fun x y S=>rfl
 have v1:∀x y S,var 1 [some (.d (.int n)),some x,y] S=.ok x S:=fun x y S=>rfl
 have ab:(if n < 0 then -n else n)=((n.natAbs:Nat):Int):=by omega
 simp -implicitDefEqProofs only [e_seq,e_set,e_cst,bind_ok,k_set,k_seq,List.set_cons_succ,List.set_cons_zero,e_cal,e_acons,e_anil,v0,k_a1,o_abs,ab]
 have loop:whF shT shB 70 [some (.d (.int n)),some (.d (.str "")),some (.d (.int (n.natAbs:Int)))] S=.ok (.nx [some (.d (.int n)),some (.d (.str (st (figs n.natAbs)))),some (.d (.int 0))]) S:=by
  rw [show ("" : Str)=st [] from by decide,show 70=69+1 from rfl]
  unfold whF
  rw [shT_ok,show (([]:List Nat)==[])=true from rfl,Bool.or_true]
  simp only [bind_ok,if_true]
  rw [shB_ok (by simp)]
  simp only [bind_ok]
  rw [show 69=68+1 from rfl,sh_loop 68 (n.natAbs / 10) [48+n.natAbs % 10] (by omega) (by simp) (by simp)]
  congr 6
  by_cases h10:n.natAbs < 10
  ·rw [if_pos (by omega),figs_lt h10,Nat.mod_eq_of_lt h10]
  ·rw [if_neg (by omega),figs_ge (by omega:10<=n.natAbs)]
 rw [loop]
 simp -implicitDefEqProofs only [bind_ok,k_seq,e_seq,e_if,e_tst,e_bin,v0,k_bin,e_cst,o_I,Z.gLt,opt_some,k_tst]
 unfold tx
 by_cases hn:n < 0
 ·rw [decide_eq_true hn,if_pos hn]
  simp -implicitDefEqProofs only [k_ifT,e_set,e_bin,e_cst,bind_ok,k_bin,v1]
  rw [show ("-" : Str)=st [45] from by decide,o_addS (by rw [st_len,st_len];have:=figs_len 68 n.natAbs h;simp only [List.length_cons,List.length_nil];omega),st_app]
  rfl
 ·rw [decide_eq_false hn,if_neg hn]
  rfl
theorem dS_ok {m:Nat}(h:m < 10 ^ 120):oStr [.d (.int m)] S=.ok (.d (.str (st (figs m)))) S:=by
 unfold oStr
 have:Nat.log2 ((m:Int).natAbs) < 1920:=by
  rw [Int.natAbs_natCast]
  by_cases h0:m=0
  ·rw [h0];decide
  ·rw [Nat.log2_lt h0]
   refine Nat.lt_of_lt_of_le h (Nat.le_trans (Nat.pow_le_pow_left (show 10<=2 ^ 4 by decide) 120) ?_)
   rw [<-Nat.pow_mul]
   exact Nat.pow_le_pow_right (by decide) (by decide)
 simp only [if_pos this,str_of]
theorem zf_gen {b k:Nat}(hp:PadOk ((k+1:Nat):Int)=true) (h:b < 10 ^ (k+1)):oZf (.d (.str (st (figs b)))) [.d (.int ((k+1:Nat):Int))] S=.ok (.d (.str (st (padR (k+1) b)))) S:=by
 unfold oZf
 simp only [hp,if_true]
 congr 3
 have hl:=figs_len k b h
 rw [padR_figs k b h]
 unfold Txt.zfill
 rw [st_len]
 by_cases h60:((k+1:Nat):Int)<=((figs b).length:Nat)
 ·rw [if_pos h60,show k+1-(figs b).length=0 from by omega];rfl
 ·rw [if_neg h60]
  unfold zfilled
  have hall:=figs_all b
  have h1:(st (figs b)).cps[0]?=(figs b)[0]?:=by show (figs b).toArray[0]?=_;simp
  rw [h1]
  cases hf:figs b with
  |nil=>exact absurd hf (figs_ne b)
  |cons c r=>
   have hc:=hall c (by rw [hf];exact List.mem_cons_self)
   have e:(c::r)[0]?=some c:=rfl
   rw [e]
   split
   ·rename_i q;cases q;omega
   ·rename_i q;cases q;omega
   ·show (⟨_⟩:Str)=⟨_⟩
    unfold st
    congr 1
    simp
theorem zf_ok {b:Nat}(h:b < 10 ^ 60):oZf (.d (.str (st (figs b)))) [.d (.int 60)] S=.ok (.d (.str (st (padR 60 b)))) S:=zf_gen (k:=59) (by decide) h
end
end K31
namespace K31
open PySem L2 Y
open Y (bin)
section
variable {S:Sto}{ρ:Rho}
noncomputable def one (n:Int):D:=.tup [.tup [.int n],.tup [.int n]]
theorem full_ok {n:Int}:F_full [.d (.lst [one n])] S=.ok (.d (.lst [one n])) S:=by
 refine def_ret0 ?_
 show b_full [some (.d (.lst [one n]))] S=_
 unfold b_full
 have key:=lcD_pure (fi:=iSq (var 0)) (g:=gT 2 (gsCons (gN 0) (gsCons (gN 1) gsNil))) (t:=orT (notT (truT (var 0))) (orT (notT (truT (var 1))) (tst (bin (oI Z.gLe) (bin oIx (var 0) (cst (.int 0))) (bin oIx (var 1) (cst (.int 0))))))) (f:=tupF (aCons (var 0) (aCons (var 1) aNil))) (n:=2) (js:=[]) (ρ:=[some (.d (.lst [one n]))]) (S:=S) (S1:=S) (xs:=[.d (one n)]) (ck:=none)
  (fun ρ=>∃u v,ρ=[u,v]) (fun x=>true) (fun x=>one n) rfl (fun acc=>trivial) ⟨none,none,rfl⟩ (by
   rintro x hx ρ ⟨u,v,rfl⟩
   rw [List.mem_singleton] at hx
   subst hx
   refine ⟨[some (.d (.tup [.int n])),some (.d (.tup [.int n]))],rfl,⟨_,_,rfl⟩,fun acc=>?_,fun _ acc=>rfl⟩
   show R.ok (decide (n<=n)) _=_
   rw [decide_eq_true (Int.le_refl n)]) (by simp)
 rw [e_ret,key]
 rfl
theorem ends_ok {m n:Int}:F_end_sum [.d (.tup [.int m]),.d (.tup [.int n])] S=.ok (.d (.tup [.int (m+n)])) S:=by
 refine def_ret0 ?_
 rfl
theorem formed_ok {n:Int}:F_spans_formed [.d (.lst [one n])] S=.ok (.d (.tup [one n])) S:=by
 refine def_ret (T:=[.lst [one n]]) ?_
 show b_spans_formed [some (.d (.lst [one n])),none,none,none] S=_
 unfold b_spans_formed
 rw [e_seq,e_set,e_cL,e_lst,e_anil]
 simp -implicitDefEqProofs only [bind_ok,k_lst0,k_set,k_seq,List.set_cons_succ,List.set_cons_zero]
 have fo:kCall F_full [.d (.lst [one n])] (S++[.lst []])=.ok (.d (.lst [one n])) (S++[.lst []]):=k_call full_ok
 have it:iSq (dL (srt1 (callF F_full (aCons (var 0) aNil)))) [some (.d (.lst [one n])),some (.p S.length),none,none] (S++[.lst []])=.ok ([.d (one n)],none) (S++[.lst []]):=by
  rw [e_sq,e_dL]
  unfold srt1
  rw [e_call,e_acons,e_var (x:=.d (.lst [one n])) rfl]
  simp -implicitDefEqProofs only [bind_ok,k_a1,e_anil,fo]
  rfl
 rw [e_seq,e_for,it]
 simp -implicitDefEqProofs only [bind_ok,k_for]
 have body:(sIf (andT (truT (var 1)) (truT (callF F_reaches (aCons (bin oIx (bin oIx (var 1) (un oNeg (cst (.int 1)))) (cst (.int 1))) (aCons (var 2) aNil))))) nope (sExpr (mcF "list" (wrL gApp) (var 1) (aCons (tupF (aCons (var 2) (aCons (var 3) aNil))) aNil)))) [some (.d (.lst [one n])),some (.p S.length),some (.d (.tup [.int n])),some (.d (.tup [.int n]))] (S++[.lst []])=.ok (.nx [some (.d (.lst [one n])),some (.p S.length),some (.d (.tup [.int n])),some (.d (.tup [.int n]))]) (S++[.lst [one n]]):=by
  have v1:∀S',var 1 [some (.d (.lst [one n])),some (.p S.length),some (.d (.tup [.int n])),some (.d (.tup [.int n]))] S'=.ok (.p S.length) S':=fun _=>rfl
  have v2:∀S',var 2 [some (.d (.lst [one n])),some (.p S.length),some (.d (.tup [.int n])),some (.d (.tup [.int n]))] S'=.ok (.d (.tup [.int n])) S':=fun _=>rfl
  have v3:∀S',var 3 [some (.d (.lst [one n])),some (.p S.length),some (.d (.tup [.int n])),some (.d (.tup [.int n]))] S'=.ok (.d (.tup [.int n])) S':=fun _=>rfl
  have tr:kTru (.p S.length) (S++[.lst []])=.ok false (S++[.lst []]):=by
   unfold kTru
   simp [A.tru]
  simp -implicitDefEqProofs only [e_if,e_and,e_tru,v1,bind_ok,tr,k_andF,k_ifF,e_expr,e_mc,k_mcL (last_at [] (.lst [])),e_acons,e_anil,e_tup,v2,v3,k_a1,k_tup2,mkT2]
  rw [w_app (ds:=[]) (last_at [] (.lst [])) (by decide),last_set]
  rfl
 unfold forF
 rw [if_pos (show ckOk none _ from trivial)]
 rw [show gT 2 (gsCons (gN 2) (gsCons (gN 3) gsNil)) (.d (one n)) [some (.d (.lst [one n])),some (.p S.length),none,none]=some [some (.d (.lst [one n])),some (.p S.length),some (.d (.tup [.int n])),some (.d (.tup [.int n]))] from rfl]
 simp only [opt_some,bind_ok,body]
 unfold forF
 rw [if_pos (show ckOk none _ from trivial)]
 simp -implicitDefEqProofs only [bind_ok,k_seq,e_ret,e_cal,e_acons,e_anil]
 rw [e_var (x:=.p S.length) rfl]
 simp -implicitDefEqProofs only [bind_ok,k_a1,e_anil]
 have:oTuple [.p S.length] (S++[.lst [one n]])=.ok (.d (.tup [one n])) (S++[.lst [one n]]):=by
  unfold oTuple
  simp
  rfl
 rw [this]
 rfl
theorem sum_ok {n:Int}:F_spans_sum [.d (.lst [one n]),.d (.lst [one n])] S=.ok (.d (.tup [one (n+n)])) S:=by
 refine def_ret0 ?_
 show b_spans_sum [some (.d (.lst [one n])),some (.d (.lst [one n]))] S=_
 unfold b_spans_sum
 have f1:iSq (callF F_full (aCons (var 0) aNil)) [some (.d (.lst [one n])),some (.d (.lst [one n]))] S=.ok ([.d (one n)],none) S:=by
  rw [e_sq,e_call,e_acons,e_var (x:=.d (.lst [one n])) rfl]
  simp -implicitDefEqProofs only [bind_ok,k_a1,e_anil,k_call (full_ok (S:=S) (n:=n))]
  rfl
 have L:lc2D (iSq (callF F_full (aCons (var 0) aNil))) (gT 2 (gsCons (gN 0) (gsCons (gN 1) gsNil))) tYs (iSq (callF F_full (aCons (var 4) aNil))) (gT 2 (gsCons (gN 2) (gsCons (gN 3) gsNil))) tYs (tupF (aCons (callF F_end_sum (aCons (var 0) (aCons (var 2) aNil))) (aCons (callF F_end_sum (aCons (var 1) (aCons (var 3) aNil))) aNil))) 4 [1] [some (.d (.lst [one n])),some (.d (.lst [one n]))] S=.ok (.d (.lst [one (n+n)])) S:=by
  unfold lc2D
  rw [f1]
  simp only [bind_ok]
  rw [show blkR [some (A.d (.lst [one n])),some (.d (.lst [one n]))] 4 [1]=[none,none,none,none,some (.d (.lst [one n]))] from rfl]
  unfold lc2F
  rw [if_pos (show ckOk none _ from trivial)]
  rw [show gT 2 (gsCons (gN 0) (gsCons (gN 1) gsNil)) (.d (one n)) [none,none,none,none,some (.d (.lst [one n]))]=some [some (.d (.tup [.int n])),some (.d (.tup [.int n])),none,none,some (.d (.lst [one n]))] from rfl]
  simp only [opt_some,bindN_ok]
  rw [show ∀ρ S,tYs ρ S=.ok true S from fun _ _=>rfl]
  simp only [bindN_ok,if_true]
  have f2:iSq (callF F_full (aCons (var 4) aNil)) [some (.d (.tup [.int n])),some (.d (.tup [.int n])),none,none,some (.d (.lst [one n]))] (S++[.lst []])=.ok ([.d (one n)],none) (S++[.lst []]):=by
   rw [e_sq,e_call,e_acons,e_var (x:=.d (.lst [one n])) rfl]
   simp -implicitDefEqProofs only [bind_ok,k_a1,e_anil,k_call (full_ok (S:=S++[.lst []]) (n:=n))]
   rfl
  rw [f2]
  simp only [bindN_ok]
  rw [if_pos (show noFl none=true from rfl)]
  unfold lcF
  rw [if_pos (show ckOk none _ from trivial)]
  rw [show gT 2 (gsCons (gN 2) (gsCons (gN 3) gsNil)) (.d (one n)) [some (.d (.tup [.int n])),some (.d (.tup [.int n])),none,none,some (.d (.lst [one n]))]=some [some (.d (.tup [.int n])),some (.d (.tup [.int n])),some (.d (.tup [.int n])),some (.d (.tup [.int n])),some (.d (.lst [one n]))] from rfl]
  simp only [opt_some,bindN_ok]
  rw [show ∀ρ S,tYs ρ S=.ok true S from fun _ _=>rfl]
  simp only [bindN_ok,if_true]
  have el:tupF (aCons (callF F_end_sum (aCons (var 0) (aCons (var 2) aNil))) (aCons (callF F_end_sum (aCons (var 1) (aCons (var 3) aNil))) aNil)) [some (.d (.tup [.int n])),some (.d (.tup [.int n])),some (.d (.tup [.int n])),some (.d (.tup [.int n])),some (.d (.lst [one n]))] (S++[.lst []])=.ok (.d (one (n+n))) (S++[.lst []]):=by
   have v:∀i S',i < 4->var i [some (A.d (.tup [.int n])),some (.d (.tup [.int n])),some (.d (.tup [.int n])),some (.d (.tup [.int n])),some (.d (.lst [one n]))] S'=.ok (.d (.tup [.int n])) S':=fun i S' h=>by
    match i,h with
    |0,_=>rfl
    |1,_=>rfl
    |2,_=>rfl
    |3,_=>rfl
   simp -implicitDefEqProofs only [e_tup,e_acons,e_anil,e_call,v 0 _ (by decide),v 1 _ (by decide),v 2 _ (by decide),v 3 _ (by decide),bind_ok,k_a1,k_call (ends_ok (S:=S++[.lst []]) (m:=n) (n:=n)),k_tup2,mkT2]
   rfl
  rw [el]
  simp only [bindN_ok]
  rw [push_at S [] _ (by show 0 < Z.lim;unfold Z.lim;omega)]
  simp only [bindN_ok,List.nil_append]
  unfold lcF
  rw [if_pos (show ckOk none _ from trivial)]
  simp only [bindN_ok]
  unfold lc2F
  rw [if_pos (show ckOk none _ from trivial)]
  simp only [bindN_ok,endD_at]
  rfl
 rw [e_ret,e_call,e_acons,L]
 simp -implicitDefEqProofs only [bind_ok,k_a1,e_anil,k_call (formed_ok (S:=S) (n:=n+n)),k_ret]
end
end K31
namespace K31
open PySem L2 Y
open Y (bin)
open PySem.NumText
section
variable {S:Sto}{ρ:Rho}
noncomputable abbrev noT:FT:=(tst (bin (oI Z.gGe) (var 2) (cst (.int 1000000000000000000000000000000000000000000000000000000000000))))
noncomputable abbrev noS:FS:=(sSeq (sAsg (cal oDm (aCons (var 2) (aCons (cst (.int 1000000000000000000000000000000000000000000000000000000000000)) aNil))) (gT 2 (gsCons (gN 2) (gsCons (gN 3) gsNil)))) (sExpr (mcF "list" (wrL gApp) (var 1) (aCons (mcF "str" oZf (cal oStr (aCons (var 3) aNil)) (aCons (cst (.int 60)) aNil)) aNil))))
theorem B_eq:(1000000000000000000000000000000000000000000000000000000000000:Int)=((10 ^ 60:Nat):Int):=by decide
theorem noT_ok {a:A}{b d e:Option A}{m:Nat}:noT [some a,b,some (.d (.int m)),d,e] S=.ok (decide (10 ^ 60<=m)) S:=by
 have v2:∀S',var 2 [some a,b,some (.d (.int m)),d,e] S'=.ok (.d (.int m)) S':=fun _=>rfl
 unfold noT
 simp -implicitDefEqProofs only [e_tst,e_bin,v2,bind_ok,k_bin,e_cst,o_I,Z.gGe,opt_some,k_tst]
 rw [B_eq]
 congr 1
 rw [decide_eq_decide]
 exact ⟨fun h=>Int.ofNat_le.mp h,fun h=>Int.ofNat_le.mpr h⟩
theorem noS_ok {a:A}{d e:Option A}{m:Nat}(h:m < 10 ^ 120):noS [some a,some (.p S.length),some (.d (.int m)),d,e] (S++[.lst []])=.ok (.nx [some a,some (.p S.length),some (.d (.int ((m / 10 ^ 60:Nat):Int))),some (.d (.int ((m % 10 ^ 60:Nat):Int))),e]) (S++[.lst [.str (st (padR 60 (m % 10 ^ 60)))]]):=by
 have v2:∀S',var 2 [some a,some (.p S.length),some (.d (.int m)),d,e] S'=.ok (.d (.int m)) S':=fun _=>rfl
 have dm:∀S',oDm [.d (.int m),.d (.int 1000000000000000000000000000000000000000000000000000000000000)] S'=.ok (.d (.tup [.int ((m / 10 ^ 60:Nat):Int),.int ((m % 10 ^ 60:Nat):Int)])) S':=fun S'=>by
  unfold oDm
  rw [B_eq]
  simp only
  rw [if_pos ⟨by decide,by decide⟩,Int.natCast_ediv,Int.natCast_emod]
 have hb:m % 10 ^ 60 < 10 ^ 60:=Nat.mod_lt _ (by decide)
 unfold noS
 rw [e_seq]
 unfold sAsg
 simp -implicitDefEqProofs only [e_cal,e_acons,e_anil,v2,bind_ok,k_a1,e_cst,dm]
 rw [show gT 2 (gsCons (gN 2) (gsCons (gN 3) gsNil)) (.d (.tup [.int ((m / 10 ^ 60:Nat):Int),.int ((m % 10 ^ 60:Nat):Int)])) [some a,some (.p S.length),some (.d (.int m)),d,e]=some [some a,some (.p S.length),some (.d (.int ((m / 10 ^ 60:Nat):Int))),some (.d (.int ((m % 10 ^ 60:Nat):Int))),e] from rfl]
 generalize hr:((m / 10 ^ 60:Nat))=r
 generalize hq:((m % 10 ^ 60:Nat))=q at hb
 have v1:∀S',var 1 [some a,some (.p S.length),some (.d (.int (r:Int))),some (.d (.int (q:Int))),e] S'=.ok (.p S.length) S':=fun _=>rfl
 have v3:∀S',var 3 [some a,some (.p S.length),some (.d (.int (r:Int))),some (.d (.int (q:Int))),e] S'=.ok (.d (.int q)) S':=fun _=>rfl
 have sq:cal oStr (aCons (var 3) aNil) [some a,some (.p S.length),some (.d (.int (r:Int))),some (.d (.int (q:Int))),e] (S++[.lst []])=.ok (.d (.str (st (figs q)))) (S++[.lst []]):=by
  rw [e_cal,e_acons,v3]
  simp -implicitDefEqProofs only [bind_ok,k_a1,e_anil]
  exact dS_ok (Nat.lt_trans hb (by decide))
 simp -implicitDefEqProofs only [opt_some,bind_ok,k_seq,e_expr,e_mc,v1,k_mcL (last_at [] (.lst [])),e_acons,e_anil]
 rw [<-e_mc,e_mcS sq]
 simp -implicitDefEqProofs only [e_acons,e_anil,e_cst,bind_ok,k_a1,zf_ok hb]
 rw [w_app (ds:=[]) (last_at [] (.lst [])) (by decide),last_set]
 rfl
theorem join1 (a:List Nat):Txt.join "" [st a]=st a:=by
 show Builtin.Str.glued _ _=_
 rw [StrLaws.glued_eq_join]
 rfl
theorem join2 (a b:List Nat):Txt.join "" [st a,st b]=st (a++b):=by
 rw [<-st_app]
 show Builtin.Str.glued _ _=_
 rw [StrLaws.glued_eq_join]
 show st a ++ "" ++ st b=_
 rw [show ("" : Str)=st [] from by decide,st_app,List.append_nil]
theorem dStrs_map:∀ws:List Str,dStrs (ws.map .str)=some ws
 |[]=>rfl
 |w::ws=>by rw [List.map_cons];unfold dStrs;rw [dStrs_map ws];rfl
theorem tail_ok {n:Int}{r:Nat}{x3 x4:Option A}{ws:List Str}{j:List Nat}(hr:r < 10 ^ 120) (hw:ws.length<=10) (hok:JoinOk "" (ws++[st (figs r)]).reverse=true) (ej:Txt.join "" (ws++[st (figs r)]).reverse=st j) (hj:j.length<=1000) :
  sSeq (sExpr (mcF "list" (wrL gApp) (var 1) (aCons (cal oStr (aCons (var 2) aNil)) aNil))) (sSeq (sSet 4 (iteV (tst (bin (oI Z.gLt) (var 0) (cst (.int 0)))) (cst (.str "-")) (cst (.str "")))) (sRet (bin oAdd (var 4) (jrev (cst (.str "")) (var 1)))))
   [some (.d (.int n)),some (.p S.length),some (.d (.int r)),x3,x4] (S++[.lst (ws.map .str)])=.ok (.rt (.d (.str (st ((if n < 0 then [45] else [])++j))))) (S++[.lst ((ws++[st (figs r)]).map .str)]):=by
 have v0:∀x y z S',var 0 [some (.d (.int n)),some (.p S.length),x,y,z] S'=.ok (.d (.int n)) S':=fun _ _ _ _=>rfl
 have v1:∀x y z S',var 1 [some (.d (.int n)),some (.p S.length),x,y,z] S'=.ok (.p S.length) S':=fun _ _ _ _=>rfl
 have v2:∀x y z S',var 2 [some (.d (.int n)),some (.p S.length),some x,y,z] S'=.ok x S':=fun _ _ _ _=>rfl
 have v4:∀x y z S',var 4 [some (.d (.int n)),some (.p S.length),x,y,some z] S'=.ok z S':=fun _ _ _ _=>rfl
 have la:=last_at (S:=S) [] (.lst (ws.map .str))
 rw [e_seq,e_expr]
 simp -implicitDefEqProofs only [e_mc,v1,bind_ok,k_mcL la,e_acons,e_anil,e_cal,v2,k_a1,dS_ok hr]
 rw [w_app la (by rw [List.length_map];omega),last_set]
 simp -implicitDefEqProofs only [bind_ok,k_expr,k_seq]
 rw [show ws.map D.str++[.str (st (figs r))]=(ws++[st (figs r)]).map .str from by simp]
 generalize hW:ws++[st (figs r)]=W at hok ej
 have t:tst (bin (oI Z.gLt) (var 0) (cst (.int 0))) [some (.d (.int n)),some (.p S.length),some (.d (.int r)),x3,x4] (S++[.lst (W.map .str)])=.ok (decide (n < 0)) (S++[.lst (W.map .str)]):=by
  simp -implicitDefEqProofs only [e_tst,e_bin,v0,bind_ok,k_bin,e_cst,o_I,Z.gLt,opt_some,k_tst]
 have sg:iteV (tst (bin (oI Z.gLt) (var 0) (cst (.int 0)))) (cst (.str "-")) (cst (.str "")) [some (.d (.int n)),some (.p S.length),some (.d (.int r)),x3,x4] (S++[.lst (W.map .str)])=.ok (.d (.str (st (if n < 0 then [45] else [])))) (S++[.lst (W.map .str)]):=by
  rw [e_ite t]
  by_cases h:n < 0
  ·rw [decide_eq_true h,if_pos h,if_pos rfl,e_cst,show ("-" : Str)=st [45] from by decide]
  ·rw [decide_eq_false h,if_neg h,if_neg (by decide),e_cst,show ("" : Str)=st [] from by decide]
 rw [e_seq,e_set,sg]
 simp -implicitDefEqProofs only [bind_ok,k_set,k_seq,List.set_cons_succ,List.set_cons_zero,e_ret,e_bin,v4,k_bin]
 have jr:jrev (cst (.str "")) (var 1) [some (.d (.int n)),some (.p S.length),some (.d (.int r)),x3,some (.d (.str (st (if n < 0 then [45] else []))))] (S++[.lst (W.map .str)])=.ok (.d (.str (st j))) (S++[.lst (W.map .str)]):=by
  unfold jrev
  rw [e_cst]
  simp -implicitDefEqProofs only [bind_ok,v1,A.sh]
  rw [last_at (S:=S) [] (.lst (W.map .str))]
  simp -implicitDefEqProofs only [dStrs_map,hok,if_true,ej]
 rw [jr]
 simp -implicitDefEqProofs only [bind_ok]
 rw [o_addS (by rw [st_len,st_len];split<;>simp only [List.length_cons,List.length_nil]<;>omega),st_app]
 rfl
theorem tx_eq (n:Int):tx n=st ((if n < 0 then [45] else [])++figs n.natAbs):=by
 unfold tx
 split<;>rfl
theorem padR_len:∀k b,(padR k b).length=k
 |0,_=>rfl
 |k+1,b=>by unfold padR;rw [List.length_append,padR_len k];rfl
theorem show_ok {n:Int}(h:n.natAbs < 10 ^ 120):F_show_number [.d (.int n)] S=.ok (.d (.str (tx n))) S:=by
 have ab:(if n < 0 then -n else n)=((n.natAbs:Nat):Int):=by omega
 have v0:∀x y z w S',var 0 [some (.d (.int n)),x,y,z,w] S'=.ok (.d (.int n)) S':=fun _ _ _ _ _=>rfl
 have go:∀(r:Nat) (x3:Option A) (ds:List D) (R:R Ctl),whF noT noS 5 [some (.d (.int n)),some (.p S.length),some (.d (.int (n.natAbs:Int))),none,none] (S++[.lst []])=.ok (.nx [some (.d (.int n)),some (.p S.length),some (.d (.int r)),x3,none]) (S++[.lst ds]) ->
   sSeq (sExpr (mcF "list" (wrL gApp) (var 1) (aCons (cal oStr (aCons (var 2) aNil)) aNil))) (sSeq (sSet 4 (iteV (tst (bin (oI Z.gLt) (var 0) (cst (.int 0)))) (cst (.str "-")) (cst (.str "")))) (sRet (bin oAdd (var 4) (jrev (cst (.str "")) (var 1))))) [some (.d (.int n)),some (.p S.length),some (.d (.int r)),x3,none] (S++[.lst ds])=R ->
   b_show_number [some (.d (.int n)),none,none,none,none] S=R:=by
  intro r x3 ds R e1 e2
  unfold b_show_number
  rw [e_seq,e_set,e_cL,e_lst,e_anil]
  simp -implicitDefEqProofs only [bind_ok,k_lst0,k_set,k_seq,List.set_cons_succ,List.set_cons_zero]
  rw [e_seq,e_set,e_cal,e_acons,v0]
  simp -implicitDefEqProofs only [bind_ok,k_a1,e_anil,o_abs,ab,k_set,k_seq,List.set_cons_succ,List.set_cons_zero]
  rw [e_seq,e1,bind_ok,k_seq,e2]
 by_cases hm:n.natAbs < 10 ^ 60
 ·refine def_ret (T:=[.lst [.str (st (figs n.natAbs))]]) ?_
  have hl:=figs_len 59 _ hm
  refine go n.natAbs none [] _ ?_ ?_
  ·unfold whF
   rw [noT_ok,decide_eq_false (by omega)]
   rfl
  ·rw [tx_eq]
   exact tail_ok (ws:=[]) (j:=figs n.natAbs) h (by decide) (by
    show (!Builtin.Str.tooLong (0+(st (figs n.natAbs)).length+0))=true
    rw [st_len]
    unfold Builtin.Str.tooLong
    rw [decide_eq_false (by have:sizeLine=16777216:=rfl;omega)];rfl) (join1 _) (by omega)
 ·refine def_ret (T:=[.lst [.str (st (padR 60 (n.natAbs % 10 ^ 60))),.str (st (figs (n.natAbs / 10 ^ 60)))]]) ?_
  have hb:n.natAbs % 10 ^ 60 < 10 ^ 60:=Nat.mod_lt _ (by decide)
  have hq:n.natAbs / 10 ^ 60 < 10 ^ 60:=Nat.div_lt_of_lt_mul (by rw [<-Nat.pow_add];exact h)
  have hp:0 < n.natAbs / 10 ^ 60:=Nat.div_pos (by omega) (by decide)
  have hl:=figs_len 59 _ hq
  have ef:figs n.natAbs=figs (n.natAbs / 10 ^ 60)++padR 60 (n.natAbs % 10 ^ 60):=by
   rw [<-figs_pad hp 60 _ hb,Nat.mul_comm,Nat.div_add_mod]
  refine go (n.natAbs / 10 ^ 60) (some (.d (.int ((n.natAbs % 10 ^ 60:Nat):Int)))) [.str (st (padR 60 (n.natAbs % 10 ^ 60)))] _ ?_ ?_
  ·unfold whF
   rw [noT_ok,decide_eq_true (by omega)]
   simp only [bind_ok,if_true]
   rw [noS_ok h]
   simp only [bind_ok]
   unfold whF
   rw [noT_ok,decide_eq_false (by omega)]
   rfl
  ·rw [tx_eq,ef]
   generalize n.natAbs / 10 ^ 60=r at *
   generalize hP:padR 60 (n.natAbs % 10 ^ 60)=p at *
   have hpl:p.length=60:=by rw [<-hP];exact padR_len _ _
   exact tail_ok (ws:=[st p]) (j:=figs r++p) (Nat.lt_trans hq (by decide)) (by simp) (by
    show (!Builtin.Str.tooLong (0+(st (figs r)).length+0+(st p).length+0))=true
    rw [st_len,st_len]
    unfold Builtin.Str.tooLong
    rw [decide_eq_false (by have:sizeLine=16777216:=rfl;omega)];rfl) (join2 _ _) (by rw [List.length_append];omega)
end
end K31
namespace K31
open PySem L2 Y
open Y (bin)
section
variable {S:Sto}{ρ:Rho}{k:Nat}
noncomputable def Sk (S:Sto) (k:Nat) (l:List Int):Sto:=S.set k (.lst (l.map .int))
theorem Sk_at (hk:k < S.length) (l:List Int):(Sk S k l)[k]?=some (.lst (l.map .int)):=by
 unfold Sk
 rw [List.getElem?_set_self hk]
theorem Sk_set (l l':List Int):(Sk S k l).set k (.lst (l'.map .int))=Sk S k l':=by
 unfold Sk
 rw [List.set_set]
theorem ix_p {S':Sto}{ds:List D}{i:Int}{x:D}(h:S'[k]?=some (.lst ds)) (hx:atI ds i=some x):oIx (.p k) (.d (.int i)) S'=.ok (.d x) S':=by
 have e:atI (ds.map A.d) i=some (A.d x):=by
  unfold atI at hx ⊢
  rw [List.length_map]
  obtain ⟨j,hj,hx⟩:=Option.bind_eq_some_iff.mp hx
  rw [hj]
  show (ds.map A.d)[j]?=_
  rw [List.getElem?_map,hx];rfl
 unfold oIx
 simp [A.dct,h,Cel.dct,A.seq,Cel.its,e]
theorem put_p {S':Sto}{ds:List D}{i:Nat}{v:D}(h:S'[k]?=some (.lst ds)) (hi:i < ds.length):oPut (.p k) (.d (.int i)) (.d v) S'=.ok () (S'.set k (.lst (ds.set i v))):=by
 have e:ixN ds.length (i:Int)=some i:=by
  unfold ixN
  rw [if_pos (by omega),if_pos (by omega)]
  rfl
 unfold oPut
 simp only [h,e]
theorem in2 {a:Int}{S':Sto}:∃b,oIn false (.d (.int a)) (.d (.lst [.int 0,.int (-1)])) S'=.ok (.d (.bl b)) S':=⟨_,rfl⟩
theorem enP_k {x:D}(hk:k < S.length) (l:List Int):enP S (.d x) (Sk S k l)=.ok (.d x) (Sk S k l):=by
 have hl:(Sk S k l).length=S.length:=by unfold Sk;rw [List.length_set]
 have ok:Okk S (Sk S k l):=⟨by omega,fun j hj=>by
  by_cases e:j=k
  ·subst e;exact .inr ⟨_,Sk_at hk l,rfl⟩
  ·left;unfold Sk;rw [List.getElem?_set_ne (Ne.symm e)]⟩
 unfold enP
 rw [if_pos ok,fin_d]
 simp only [opt_some,bind_ok]
 rw [<-hl,List.take_length]
theorem def_k {np nl:Nat}{b:FS}{as:List A}{x:D}{l:List Int}(hk:k < S.length) (h:b (as.map some++List.replicate (nl-np) none) S=.ok (.rt (.d x)) (Sk S k l)) (hl:as.length=np:=by rfl):defE enP np nl b as S=.ok (.d x) (Sk S k l):=by
 unfold defE
 rw [if_pos hl,h]
 exact enP_k hk l
end
end K31
namespace K31
open PySem L2 Y
open Y (bin)
section
variable {S:Sto}{ρ:Rho}{k:Nat}
theorem e_put {o:O3}{f g h:FE}{x y z:A}{S1:Sto}(e1:f ρ S=.ok z S) (e2:g ρ S=.ok x S) (e3:h ρ S=.ok y S) (e4:o x y z S=.ok () S1):sPut o f g h ρ S=.ok (.nx ρ) S1:=by
 unfold sPut
 simp only [e1,e2,e3,e4,bind_ok]
noncomputable abbrev tkT:FS:=(sSeq (sSet 2 (bin oIx (var 0) (cst (.int 0)))) (sSeq (sIf (tst (bin (oEq false) (bin oIx (var 0) (cst (.int 1))) (cst (.int 0)))) (sSeq (sPut oPut (bin (oI gDivB) (var 2) (var 1)) (var 0) (cst (.int 0))) (sRet (bin (oI Z.gMod) (var 2) (var 1)))) sNil) (sSeq (sPut oPut (bin (oI Z.gMod) (bin oAdd (bin (oI Z.gMul) (bin (oI Z.gMod) (var 2) (cst (.int 2147483647))) (cst (.int 48271))) (cst (.int 12345))) (cst (.int 2147483629))) (var 0) (cst (.int 0))) (sSeq (sSet 3 (bin (oI Z.gMod) (bin (oI Z.gMul) (bin oIx (var 0) (cst (.int 0))) (bin oIx (var 0) (cst (.int 0)))) (cst (.int 2147483587)))) (sRet (bin (oI Z.gMod) (bin (oI Z.gDiv) (bin (oI Z.gPow) (var 3) (cst (.int 7))) (cst (.int 5))) (var 1)))))))
theorem tkT_ok (hk:k < S.length) {many:Int}(hm:0 < many) (hl:Nat.log2 many.natAbs < 9000) (a b d:Int) :
  ∃v a',0<=v/\v < many/\tkT [some (.p k),some (.d (.int many)),none,none] (Sk S k [a,b,d])=.ok (.rt (.d (.int v))) (Sk S k [a',b,d]):=by
 have v0:∀x y z S',var 0 [some (.p k),x,y,z] S'=.ok (.p k) S':=fun _ _ _ _=>rfl
 have v1:∀y z S',var 1 [some (.p k),some (.d (.int many)),y,z] S'=.ok (.d (.int many)) S':=fun _ _ _=>rfl
 have v2:∀x y z S',var 2 [some (.p k),x,some y,z] S'=.ok y S':=fun _ _ _ _=>rfl
 have v3:∀x y z S',var 3 [some (.p k),x,y,some z] S'=.ok z S':=fun _ _ _ _=>rfl
 have i0:∀a,oIx (.p k) (.d (.int 0)) (Sk S k [a,b,d])=.ok (.d (.int a)) (Sk S k [a,b,d]):=fun a=>ix_p (Sk_at hk _) (at_nat (i:=0) rfl)
 have i1:∀a,oIx (.p k) (.d (.int 1)) (Sk S k [a,b,d])=.ok (.d (.int b)) (Sk S k [a,b,d]):=fun a=>ix_p (Sk_at hk _) (at_nat (i:=1) rfl)
 have p0:∀a x,oPut (.p k) (.d (.int 0)) (.d (.int x)) (Sk S k [a,b,d])=.ok () (Sk S k [x,b,d]):=fun a x=>by
  have:=put_p (i:=0) (v:=.int x) (Sk_at hk [a,b,d]) (by simp)
  rw [show ((0:Nat):Int)=0 from rfl] at this
  rw [this]
  exact congrArg (R.ok ()) (Sk_set [a,b,d] [x,b,d])
 unfold tkT
 rw [e_seq,e_set,e_bin,v0]
 simp -implicitDefEqProofs only [bind_ok,k_bin,e_cst,i0,k_set,k_seq,List.set_cons_succ,List.set_cons_zero,e_seq,e_if,e_tst,e_bin,v0,i1,o_eqI,Bool.false_eq_true,if_false,k_tst]
 cases hb:(b==0) with
 |true=>
  refine ⟨a % many,a / many,Int.emod_nonneg _ (by omega),Int.emod_lt_of_pos _ hm,?_⟩
  simp -implicitDefEqProofs only [k_ifT,e_seq]
  rw [e_put (z:=.d (.int (a / many))) (x:=.p k) (y:=.d (.int 0)) (S1:=Sk S k [a / many,b,d]) (by
   simp -implicitDefEqProofs only [e_bin,v2,bind_ok,k_bin,v1,o_I,gDivB]
   rw [if_pos ⟨hm,hl⟩]
   rfl) (v0 _ _ _ _) rfl (p0 _ _)]
  simp -implicitDefEqProofs only [bind_ok,k_seq,e_ret,e_bin,v2,k_bin,v1,o_I,Z.gMod]
  rw [if_pos hm]
  rfl
 |false=>
  simp -implicitDefEqProofs only [k_ifF,e_nil,bind_ok,k_seq]
  obtain ⟨a',ha⟩:∃a',a'=(a % 2147483647 * 48271+12345) % 2147483629:=⟨_,rfl⟩
  have h1:0<=a'/\a' < 2147483629:=by omega
  obtain ⟨x,hx⟩:∃x,a' * a' % 2147483587=x:=⟨_,rfl⟩
  have h2:0<=x/\x < 2147483587:=by
   rw [<-hx]
   exact ⟨Int.emod_nonneg _ (by decide),Int.emod_lt_of_pos _ (by decide)⟩
  refine ⟨x ^ 7 / 5 % many,a',Int.emod_nonneg _ (by omega),Int.emod_lt_of_pos _ hm,?_⟩
  rw [e_seq,e_put (z:=.d (.int a')) (x:=.p k) (y:=.d (.int 0)) (S1:=Sk S k [a',b,d]) (by
   simp -implicitDefEqProofs only [e_bin,v2,bind_ok,k_bin,e_cst,o_I,Z.gMod,Z.gMul]
   rw [if_pos (by decide)]
   simp -implicitDefEqProofs only [opt_some,bind_ok,k_bin,e_cst,o_I,Z.gMul]
   rw [if_pos (Or.inr (by decide))]
   simp -implicitDefEqProofs only [opt_some,bind_ok,k_bin,e_cst,o_addI,o_I,Z.gMod]
   rw [if_pos (by decide),ha]
   rfl) (v0 _ _ _ _) rfl (p0 _ _)]
  simp -implicitDefEqProofs only [bind_ok,k_seq,e_seq,e_set,e_bin,v0,k_bin,e_cst,i0,o_I,Z.gMul]
  rw [if_pos (Or.inr (by omega))]
  simp -implicitDefEqProofs only [opt_some,bind_ok,k_bin,e_cst,o_I,Z.gMod]
  rw [if_pos (by decide)]
  simp -implicitDefEqProofs only [opt_some,bind_ok,hx,k_set,k_seq,List.set_cons_succ,List.set_cons_zero,e_ret,e_bin,v3,k_bin,e_cst,o_I,Z.gPow]
  rw [if_pos ⟨by decide,by decide,by omega⟩]
  simp -implicitDefEqProofs only [opt_some,bind_ok,k_bin,e_cst,o_I,Z.gDiv]
  rw [if_pos (by decide)]
  simp -implicitDefEqProofs only [opt_some,bind_ok,k_bin,v1,o_I,Z.gMod]
  rw [if_pos hm]
  rfl
theorem ln_p (hk:k < S.length) (l:List Int):oLen [.p k] (Sk S k l)=.ok (.d (.int l.length)) (Sk S k l):=by
 unfold oLen
 simp [A.dct,Sk_at hk,Cel.dct,A.seq,Cel.its]
theorem Sk_len (l:List Int):(Sk S k l).length=S.length:=by unfold Sk;rw [List.length_set]
theorem Sk_Sk (l l':List Int):Sk (Sk S k l) k l'=Sk S k l':=Sk_set l l'
noncomputable abbrev tk1:FS:=(sIf (tst (bin (oEq false) (cal oLen (aCons (var 0) aNil)) (cst (.int 2)))) (sExpr (mcF "list" (wrL gApp) (var 0) (aCons (bin oIx (var 0) (cst (.int 0))) aNil))) sNil)
noncomputable abbrev tk2:FS:=(sIf (andT (tst (bin (oEq false) (bin oIx (var 0) (cst (.int 1))) (cst (.int 0)))) (tst (bin (oIn false) (bin oIx (var 0) (cst (.int 0))) (dL (lstF (aCons (cst (.int 0)) (aCons (un oNeg (cst (.int 1))) aNil))))))) (sSeq (sPut oPut (bin oIx (var 0) (cst (.int 2))) (var 0) (cst (.int 0))) (sPut oPut (cst (.int 1)) (var 0) (cst (.int 1)))) sNil)
theorem tk1_ok (hk:k < S.length) {m:A}(l:List Int) (h23:l.length=2∨l.length=3):∃a b d,tk1 [some (.p k),some m,none,none] (Sk S k l)=.ok (.nx [some (.p k),some m,none,none]) (Sk S k [a,b,d]):=by
 have v0:∀S',var 0 [some (.p k),some m,none,none] S'=.ok (.p k) S':=fun _=>rfl
 have hd:tst (bin (oEq false) (cal oLen (aCons (var 0) aNil)) (cst (.int 2))) [some (.p k),some m,none,none] (Sk S k l)=.ok ((l.length:Int)==2) (Sk S k l):=by
  simp -implicitDefEqProofs only [e_tst,e_bin,e_cal,e_acons,e_anil,v0,bind_ok,k_a1,ln_p hk,k_bin,e_cst,o_eqI,Bool.false_eq_true,if_false,k_tst]
 unfold tk1
 rw [e_if,hd]
 simp only [bind_ok]
 rcases h23 with h | h
 ·match l,h with
  |[a,b],_=>
   refine ⟨a,b,a,?_⟩
   rw [show (((([a,b]:List Int).length:Nat):Int)==2)=true from rfl]
   simp -implicitDefEqProofs only [k_ifT,e_expr,e_mc,v0,bind_ok,k_mcL (Sk_at hk [a,b]),e_acons,e_anil,e_bin,k_bin,e_cst]
   rw [show oIx (.p k) (.d (.int 0)) (Sk S k [a,b])=.ok (.d (.int a)) (Sk S k [a,b]) from ix_p (Sk_at hk [a,b]) (at_nat (xs:=[D.int a,D.int b]) (i:=0) rfl)]
   simp -implicitDefEqProofs only [bind_ok,k_a1,e_anil]
   rw [w_app (Sk_at hk [a,b]) (by simp)]
   simp only [bind_ok,k_expr]
   exact congrArg (R.ok _) (Sk_set [a,b] [a,b,a])
 ·match l,h with
  |[a,b,d],_=>
   refine ⟨a,b,d,?_⟩
   rw [show (((([a,b,d]:List Int).length:Nat):Int)==2)=false from rfl]
   rfl
theorem tk2_ok (hk:k < S.length) {m:A}(a b d:Int):∃a' b' d',tk2 [some (.p k),some m,none,none] (Sk S k [a,b,d])=.ok (.nx [some (.p k),some m,none,none]) (Sk S k [a',b',d']):=by
 have v0:∀S',var 0 [some (.p k),some m,none,none] S'=.ok (.p k) S':=fun _=>rfl
 have i0:∀a b d,oIx (.p k) (.d (.int 0)) (Sk S k [a,b,d])=.ok (.d (.int a)) (Sk S k [a,b,d]):=fun a b d=>ix_p (Sk_at hk _) (at_nat (i:=0) rfl)
 have i1:∀a b d,oIx (.p k) (.d (.int 1)) (Sk S k [a,b,d])=.ok (.d (.int b)) (Sk S k [a,b,d]):=fun a b d=>ix_p (Sk_at hk _) (at_nat (i:=1) rfl)
 have i2:∀a b d,oIx (.p k) (.d (.int 2)) (Sk S k [a,b,d])=.ok (.d (.int d)) (Sk S k [a,b,d]):=fun a b d=>ix_p (Sk_at hk _) (at_nat (i:=2) rfl)
 have p0:∀a b d x,oPut (.p k) (.d (.int 0)) (.d (.int x)) (Sk S k [a,b,d])=.ok () (Sk S k [x,b,d]):=fun a b d x=>by
  have:=put_p (i:=0) (v:=.int x) (Sk_at hk [a,b,d]) (by simp)
  rw [show ((0:Nat):Int)=0 from rfl] at this
  rw [this]
  exact congrArg (R.ok ()) (Sk_set [a,b,d] [x,b,d])
 have p1:∀a b d x,oPut (.p k) (.d (.int 1)) (.d (.int x)) (Sk S k [a,b,d])=.ok () (Sk S k [a,x,d]):=fun a b d x=>by
  have:=put_p (i:=1) (v:=.int x) (Sk_at hk [a,b,d]) (by simp)
  rw [show ((1:Nat):Int)=1 from rfl] at this
  rw [this]
  exact congrArg (R.ok ()) (Sk_set [a,b,d] [a,x,d])
 have tr:∃w,andT (tst (bin (oEq false) (bin oIx (var 0) (cst (.int 1))) (cst (.int 0)))) (tst (bin (oIn false) (bin oIx (var 0) (cst (.int 0))) (dL (lstF (aCons (cst (.int 0)) (aCons (un oNeg (cst (.int 1))) aNil)))))) [some (.p k),some m,none,none] (Sk S k [a,b,d])=.ok w (Sk S k [a,b,d]):=by
  simp -implicitDefEqProofs only [e_and,e_tst,e_bin,v0,bind_ok,k_bin,e_cst,i1,o_eqI,Bool.false_eq_true,if_false,k_tst]
  cases (b==0) with
  |false=>exact ⟨_,rfl⟩
  |true=>
   simp -implicitDefEqProofs only [k_andT,e_tst,e_bin,v0,bind_ok,k_bin,e_cst,i0]
   rw [show dL (lstF (aCons (cst (.int 0)) (aCons (un oNeg (cst (.int 1))) aNil))) [some (.p k),some m,none,none] (Sk S k [a,b,d])=.ok (.d (.lst [.int 0,.int (-1)])) (Sk S k [a,b,d]) from rfl]
   obtain ⟨w,e⟩:=in2 (a:=a) (S':=Sk S k [a,b,d])
   exact ⟨w,by rw [bind_ok,e];rfl⟩
 obtain ⟨w,tr⟩:=tr
 unfold tk2
 rw [e_if,tr]
 simp only [bind_ok]
 cases w with
 |false=>exact ⟨a,b,d,rfl⟩
 |true=>
  refine ⟨d,1,d,?_⟩
  rw [k_ifT,e_seq,e_put (z:=.d (.int d)) (x:=.p k) (y:=.d (.int 0)) (S1:=Sk S k [d,b,d]) (by rw [e_bin,v0,bind_ok,k_bin,e_cst,bind_ok,i2]) (v0 _) rfl (p0 _ _ _ _)]
  simp only [bind_ok,k_seq]
  rw [e_put (z:=.d (.int 1)) (x:=.p k) (y:=.d (.int 1)) (S1:=Sk S k [d,1,d]) rfl (v0 _) rfl (p1 _ _ _ _)]
theorem take_ok (hk:k < S.length) {many:Int}(hm:0 < many) (hl:Nat.log2 many.natAbs < 9000) (l:List Int) (h23:l.length=2∨l.length=3) :
  ∃v l',0<=v/\v < many/\l'.length=3/\kCall F__law_take [.p k,.d (.int many)] (Sk S k l)=.ok (.d (.int v)) (Sk S k l'):=by
 obtain ⟨a,b,d,e1⟩:=tk1_ok hk (m:=.d (.int many)) l h23
 obtain ⟨a,b,d,e2⟩:=tk2_ok hk (m:=.d (.int many)) a b d
 obtain ⟨v,a',h0,h1,e3⟩:=tkT_ok hk hm hl a b d
 refine ⟨v,[a',b,d],h0,h1,rfl,k_call ?_⟩
 have:=def_k (S:=Sk S k l) (k:=k) (np:=2) (nl:=4) (b:=b__law_take) (as:=[.p k,.d (.int many)]) (x:=.int v) (l:=[a',b,d]) (by rw [Sk_len];exact hk) (by
  rw [Sk_Sk]
  show b__law_take [some (.p k),some (.d (.int many)),none,none] (Sk S k l)=_
  show sSeq tk1 (sSeq tk2 tkT) _ _=_
  rw [e_seq,e1,bind_ok,k_seq,e_seq,e2,bind_ok,k_seq,e3])
 rw [Sk_Sk] at this
 exact this
end
end K31
namespace K31
open PySem L2 Y
open Y (bin)
section
variable {S:Sto}{ρ:Rho}{k:Nat}{c:Nat->Addr}
theorem log_lt {n:Int}(h:n.natAbs < 2 ^ 240):Nat.log2 n.natAbs < 9000:=by
 by_cases h0:n.natAbs=0
 ·rw [h0];decide
 ·exact Nat.lt_trans ((Nat.log2_lt h0).mpr h) (by decide)
theorem number_ok (hk:k < S.length) (l:List Int) (h23:l.length=2∨l.length=3) :
  ∃n l',n.natAbs < 10 ^ 60/\l'.length=3/\kCall F__law_number [.p k] (Sk S k l)=.ok (.d (.int n)) (Sk S k l'):=by
 have v0:∀S',var 0 [some (.p k)] S'=.ok (.p k) S':=fun _=>rfl
 obtain ⟨v,l1,h0,h1,h2,e1⟩:=take_ok hk (many:=4) (by decide) (log_lt (by decide)) l h23
 have fin:∀(n:Int) (l':List Int),b__law_number [some (.p k)] (Sk S k l)=.ok (.rt (.d (.int n))) (Sk S k l')->kCall F__law_number [.p k] (Sk S k l)=.ok (.d (.int n)) (Sk S k l'):=fun n l' h=>k_call (by
  have:=def_k (S:=Sk S k l) (k:=k) (np:=1) (nl:=1) (b:=b__law_number) (as:=[.p k]) (x:=.int n) (l:=l') (by rw [Sk_len];exact hk) (by rw [Sk_Sk];exact h)
  rw [Sk_Sk] at this
  exact this)
 have st1:tst (bin (oEq false) (callF F__law_take (aCons (var 0) (aCons (cst (.int 4)) aNil))) (cst (.int 0))) [some (.p k)] (Sk S k l)=.ok (v==0) (Sk S k l1):=by
  simp -implicitDefEqProofs only [e_tst,e_bin,e_call,e_acons,e_anil,v0,bind_ok,k_a1,e_cst,e1,k_bin,o_eqI,Bool.false_eq_true,if_false,k_tst]
 cases hv:(v==0) with
 |true=>
  have pw:∀S',bin (oI Z.gPow) (cst (.int 10)) (cst (.int 60)) [some (.p k)] S'=.ok (.d (.int (10 ^ 60))) S':=fun S'=>by
   simp -implicitDefEqProofs only [e_bin,e_cst,bind_ok,k_bin,o_I,Z.gPow]
   rw [if_pos (by decide)]
   rfl
  obtain ⟨u,l2,g0,g1,g2,e2⟩:=take_ok hk (many:=2 * 10 ^ 60-1) (by decide) (log_lt (by decide)) l1 (Or.inr h2)
  have ag:∀S',bin (oI Z.gSub) (bin (oI Z.gMul) (cst (.int 2)) (bin (oI Z.gPow) (cst (.int 10)) (cst (.int 60)))) (cst (.int 1)) [some (.p k)] S'=.ok (.d (.int (2 * 10 ^ 60-1))) S':=fun S'=>by
   rw [e_bin,e_bin,e_cst,bind_ok,k_bin,pw,bind_ok,o_I]
   unfold Z.gMul
   rw [if_pos (Or.inl (by decide))]
   rfl
  refine ⟨u-10 ^ 60+1,l2,by omega,g2,fin _ _ ?_⟩
  unfold b__law_number
  rw [e_seq,e_if,st1,hv,bind_ok,k_ifT,e_ret,e_bin,e_bin,e_call,e_acons,v0,bind_ok,k_a1,e_acons,ag,bind_ok,k_a1,e_anil]
  simp only [bind_ok]
  rw [e2,bind_ok,k_bin,pw,bind_ok,o_I]
  rfl
 |false=>
  obtain ⟨u,l2,g0,g1,g2,e2⟩:=take_ok hk (many:=25) (by decide) (log_lt (by decide)) l1 (Or.inr h2)
  refine ⟨u-12,l2,by omega,g2,fin _ _ ?_⟩
  unfold b__law_number
  rw [e_seq,e_if,st1,hv,bind_ok,k_ifF,e_nil,bind_ok,k_seq,e_ret,e_bin,e_call,e_acons,v0,bind_ok,k_a1,e_acons,e_cst,bind_ok,k_a1,e_anil]
  simp only [bind_ok]
  rw [e2,bind_ok,k_bin,e_cst,bind_ok,o_I]
  rfl
theorem great_ok (nd:(ks c).Nodup) {n b:Int}(h:n.natAbs < 10 ^ 60):kCall (F__law_great c) [.d (.int n),.d (.int b)] S=.ok (.d (.bl true)) S:=by
 refine k_call (def_ret0 ?_)
 show b__law_great c [some (.d (.int n)),some (.d (.int b)),none,none] S=_
 unfold b__law_great
 have v0:∀m x y z S',var 0 [some (.d (.int m)),x,y,z] S'=.ok (.d (.int m)) S':=fun _ _ _ _ _=>rfl
 have v1:∀m y z S',var 1 [some (.d (.int m)),some (.d (.int b)),y,z] S'=.ok (.d (.int b)) S':=fun _ _ _ _=>rfl
 obtain ⟨m,hm,e⟩:∃m:Int,m.natAbs < 10 ^ 60/\(sIf (tst (bin (oEq false) (var 1) (cst (.int 1)))) (sSet 0 (bin (oI Z.gSub) (cst (.int 0)) (var 0))) sNil) [some (.d (.int n)),some (.d (.int b)),none,none] S=.ok (.nx [some (.d (.int m)),some (.d (.int b)),none,none]) S:=by
  simp -implicitDefEqProofs only [e_if,e_tst,e_bin,v1,bind_ok,k_bin,e_cst,o_eqI,Bool.false_eq_true,if_false,k_tst]
  cases (b==1) with
  |true=>exact ⟨0-n,by omega,rfl⟩
  |false=>exact ⟨n,h,rfl⟩
 rw [e_seq,e,bind_ok,k_seq]
 have hm2:(m+m).natAbs < 10 ^ 120:=by
  have:(10:Nat) ^ 61<=10 ^ 120:=Nat.pow_le_pow_right (by decide) (by decide)
  have:(10:Nat) ^ 61=10 * 10 ^ 60:=by rw [Nat.pow_succ,Nat.mul_comm]
  omega
 have hm3:(2 * m).natAbs < 10 ^ 69:=by
  have:(10:Nat) ^ 61<=10 ^ 69:=Nat.pow_le_pow_right (by decide) (by decide)
  have:(10:Nat) ^ 61=10 * 10 ^ 60:=by rw [Nat.pow_succ,Nat.mul_comm]
  omega
 have l1:∀S',dL (lstF (aCons (tupF (aCons (tupF (aCons (var 0) aNil)) (aCons (tupF (aCons (var 0) aNil)) aNil))) aNil)) [some (.d (.int m)),some (.d (.int b)),none,none] S'=.ok (.d (.lst [one m])) S':=fun _=>rfl
 rw [e_seq,e_set,e_bin,e_bin,e_bin,e_call,e_acons,l1,bind_ok,k_a1,e_acons,l1,bind_ok,k_a1,e_anil]
 simp only [bind_ok]
 rw [k_call sum_ok,bind_ok,k_bin,e_cst,bind_ok]
 rw [show oIx (.d (.tup [one (m+m)])) (.d (.int 0)) S=.ok (.d (one (m+m))) S from rfl,bind_ok,k_bin,e_cst,bind_ok]
 rw [show oIx (.d (one (m+m))) (.d (.int 0)) S=.ok (.d (.tup [.int (m+m)])) S from rfl,bind_ok,k_bin,e_cst,bind_ok]
 rw [show oIx (.d (.tup [.int (m+m)])) (.d (.int 0)) S=.ok (.d (.int (m+m))) S from rfl,bind_ok,k_set,bind_ok,k_seq]
 simp only [List.set_cons_succ,List.set_cons_zero]
 rw [e_seq,e_set,e_call,e_acons,e_var (x:=.d (.int (m+m))) rfl,bind_ok,k_a1,e_anil]
 simp only [bind_ok]
 rw [k_call (show_ok hm2),bind_ok,k_set,bind_ok,k_seq]
 simp only [List.set_cons_succ,List.set_cons_zero]
 have v3:∀S',var 3 [some (.d (.int m)),some (.d (.int b)),some (.d (.int (m+m))),some (.d (.str (tx (m+m))))] S'=.ok (.d (.str (tx (m+m)))) S':=fun _=>rfl
 have ml:bin (oI Z.gMul) (cst (.int 2)) (var 0) [some (.d (.int m)),some (.d (.int b)),some (.d (.int (m+m))),some (.d (.str (tx (m+m))))] S=.ok (.d (.int (2 * m))) S:=by
  rw [e_bin,e_cst,bind_ok,k_bin,v0,bind_ok,o_I]
  unfold Z.gMul
  rw [if_pos (Or.inl (by decide))]
  rfl
 rw [e_ret]
 unfold andV
 rw [e_bin,v3,bind_ok,k_bin,e_call,e_acons,ml,bind_ok,k_a1,e_anil]
 simp only [bind_ok]
 rw [k_call (shown_ok hm3),bind_ok,eq_s,show 2 * m=m+m from by omega]
 simp only [bind_ok,Bool.false_eq_true,if_false,beq_self_eq_true]
 rw [show A.tru S (.d (.bl true))=some true from rfl]
 simp only [opt_some,bind_ok,if_true]
 have hl:P ((if m+m < 0 then [45] else [])++figs (m+m).natAbs)/\((if m+m < 0 then [45] else [])++figs (m+m).natAbs).length<=240:=by
  have hf:=figs_all (m+m).natAbs
  have hn:=figs_len 119 _ hm2
  constructor
  ·intro d hd
   rcases List.mem_append.mp hd with q | q
   ·split at q<;>simp at q;omega
   ·have:=hf d q;omega
  ·rw [List.length_append];split<;>simp only [List.length_cons,List.length_nil]<;>omega
 rw [e_call,e_acons,v3,bind_ok,k_a1,e_anil]
 simp only [bind_ok]
 rw [tx_eq,k_call (right_ok nd hl.1 hl.2)]
 rfl
end
end K31
namespace K31
open PySem L2 Y
open Y (bin)
section
variable {S:Sto}{ρ:Rho}{k:Nat}{c:Nat->Addr}
theorem cutN_lo {t:List Nat}(ht:t.length<=1000) (a:Nat):oCut (.d (.str (st t))) (some (a:Int)) none S=.ok (.d (.str (st (t.drop a)))) S:=by
 show (if _ then _ else _)=_
 rw [if_pos (by rw [st_len];unfold Z.lim;omega),slice_lo]
 rfl
theorem cutN_hi {t:List Nat}(ht:t.length<=1000) (a:Nat):oCut (.d (.str (st t))) none (some (a:Int)) S=.ok (.d (.str (st (t.take a)))) S:=by
 show (if _ then _ else _)=_
 rw [if_pos (by rw [st_len];unfold Z.lim;omega),slice_hi]
 rfl
theorem addS {a b:List Nat}(h:a.length+b.length<=1000):oAdd (.d (.str (st a))) (.d (.str (st b))) S=.ok (.d (.str (st (a++b)))) S:=by
 rw [o_addS (by rw [st_len,st_len];omega),st_app]
theorem letters_lt:∀d∈("0123456789-+_ .,\nae" : Str).cps.toList,d < 128:=by decide
theorem letter_ok {v:Int}(h0:0<=v) (h1:v < 19):∃d,d < 128/\oIx (.d (.str "0123456789-+_ .,\nae")) (.d (.int v)) S=.ok (.d (.str (st [d]))) S:=by
 obtain ⟨n,rfl⟩:=Int.eq_ofNat_of_zero_le h0
 have hl:("0123456789-+_ .,\nae" : Str).cps.toList.length=19:=by decide
 have hn:n < ("0123456789-+_ .,\nae" : Str).cps.toList.length:=by omega
 exact ⟨_,letters_lt _ (List.getElem_mem hn),o_ixS (by decide) (at_nat (List.getElem?_eq_getElem hn))⟩
theorem rep_fold (d:Nat):∀(n:Nat) (acc:Array Nat),(List.replicate n #[d]).foldl (·++·) acc=acc++(List.replicate n d).toArray
 |0,acc=>by simp
 |n+1,acc=>by
  rw [List.replicate_succ,List.foldl_cons,rep_fold d n,List.replicate_succ,Array.append_assoc]
  congr 1
  simp
theorem mulS {d:Nat}{v:Int}(h0:0<=v) (h1:v<=1000):oMulS (.d (.str (st [d]))) (.d (.int v)) S=.ok (.d (.str (st (List.replicate v.toNat d)))) S:=by
 unfold oMulS
 simp only
 rw [if_pos ⟨rfl,h0,h1⟩]
 congr 3
 show (⟨_⟩:Str)=⟨_⟩
 congr 1
 show (List.replicate v.toNat #[d]).foldl (·++·) #[]=_
 rw [rep_fold]
 simp
theorem e_ifq {i w:Int}{E:FE}{G:FS}(h2:ρ[2]?=some (some (.d (.int w)))):sSeq (sIf (tst (bin (oEq false) (var 2) (cst (.int i)))) (sRet E) sNil) G ρ S=if w=i then (E ρ S).bind kRet else G ρ S:=by
 rw [e_seq,e_if,e_tst,e_bin,e_var h2,bind_ok,k_bin,e_cst,bind_ok,o_eqI]
 simp only [Bool.false_eq_true,if_false,bind_ok,k_tst]
 by_cases h:w=i
 ·rw [if_pos h,show (w==i)=true from by simpa using h,k_ifT,e_ret]
  cases E ρ S<;>rfl
 ·rw [if_neg h,show (w==i)=false from by simpa using h]
  rfl
theorem P_app {a b:List Nat}(h1:P a) (h2:P b):P (a++b):=fun d hd=>(List.mem_append.mp hd).elim (h1 d) (h2 d)
theorem P_take {a:List Nat}(h:P a) (n:Nat):P (a.take n):=fun d hd=>h d (List.mem_of_mem_take hd)
theorem P_drop {a:List Nat}(h:P a) (n:Nat):P (a.drop n):=fun d hd=>h d (List.mem_of_mem_drop hd)
theorem spoiled_ok (hk:k < S.length) (l:List Int) (h23:l.length=2∨l.length=3) {t:List Nat}(hp:P t) (ht:t.length<=150) :
  ∃t' l',P t'/\t'.length<=t.length+65/\l'.length=3/\kCall F__law_spoiled [.d (.str (st t)),.p k] (Sk S k l)=.ok (.d (.str (st t'))) (Sk S k l'):=by
 obtain ⟨w,l1,w0,w1,hl1,e1⟩:=take_ok hk (many:=6) (by decide) (log_lt (by decide)) l h23
 obtain ⟨a,l2,a0,a1,hl2,e2⟩:=take_ok hk (many:=(t.length:Int)+1) (by omega) (log_lt (Nat.lt_of_lt_of_le (show ((t.length:Int)+1).natAbs < 1000 by omega) (by decide))) l1 (Or.inr hl1)
 obtain ⟨q,l3,q0,q1,hl3,e3⟩:=take_ok hk (many:=19) (by decide) (log_lt (by decide)) l2 (Or.inr hl2)
 obtain ⟨d,hd,e4⟩:=letter_ok (S:=Sk S k l3) q0 q1
 have fin:∀(t':List Nat) (l':List Int),b__law_spoiled [some (.d (.str (st t))),some (.p k),none,none,none] (Sk S k l)=.ok (.rt (.d (.str (st t')))) (Sk S k l')->kCall F__law_spoiled [.d (.str (st t)),.p k] (Sk S k l)=.ok (.d (.str (st t'))) (Sk S k l'):=fun n l' h=>k_call (by
  have:=def_k (S:=Sk S k l) (k:=k) (np:=2) (nl:=5) (b:=b__law_spoiled) (as:=[.d (.str (st t)),.p k]) (x:=.str (st n)) (l:=l') (by rw [Sk_len];exact hk) (by rw [Sk_Sk];exact h)
  rw [Sk_Sk] at this
  exact this)
 have v0:∀x y z u S',var 0 [some (.d (.str (st t))),x,y,z,u] S'=.ok (.d (.str (st t))) S':=fun _ _ _ _ _=>rfl
 have v1:∀y z u S',var 1 [some (.d (.str (st t))),some (.p k),y,z,u] S'=.ok (.p k) S':=fun _ _ _ _=>rfl
 have v3:∀x y z u S',var 3 [some (.d (.str (st t))),x,y,some z,u] S'=.ok z S':=fun _ _ _ _ _=>rfl
 have v4:∀x y z u S',var 4 [some (.d (.str (st t))),x,y,z,some u] S'=.ok u S':=fun _ _ _ _ _=>rfl
 have eL:∀S,oLen [.d (.str (st t))] S=.ok (.d (.int t.length)) S:=fun S=>by rw [len_s (by rw [st_len];omega),st_len]
 obtain ⟨n,rfl⟩:=Int.eq_ofNat_of_zero_le a0
 have hn:n<=t.length:=by omega
 have start:∀R:R Ctl,(∀G:FS,True)->(sSeq (sIf (tst (bin (oEq false) (var 2) (cst (.int 0)))) (sRet (bin oAdd (bin oAdd (cutF (var 0) oNo (oSome (var 3))) (var 4)) (cutF (var 0) (oSome (var 3)) oNo))) sNil) (sSeq (sIf (tst (bin (oEq false) (var 2) (cst (.int 1)))) (sRet (bin oAdd (cutF (var 0) oNo (oSome (var 3))) (cutF (var 0) (oSome (bin oAdd (var 3) (cst (.int 1)))) oNo))) sNil) (sSeq (sIf (tst (bin (oEq false) (var 2) (cst (.int 2)))) (sRet (bin oAdd (bin oAdd (cutF (var 0) oNo (oSome (var 3))) (var 4)) (cutF (var 0) (oSome (bin oAdd (var 3) (cst (.int 1)))) oNo))) sNil) (sSeq (sIf (tst (bin (oEq false) (var 2) (cst (.int 3)))) (sRet (bin oAdd (var 0) (bin oMulS (cst (.str "7")) (callF F__law_take (aCons (var 1) (aCons (cst (.int 66)) aNil)))))) sNil) (sSeq (sIf (tst (bin (oEq false) (var 2) (cst (.int 4)))) (sRet (bin oAdd (bin oMulS (cst (.str "0")) (callF F__law_take (aCons (var 1) (aCons (cst (.int 3)) aNil)))) (var 0))) sNil) (sRet (var 0))))))) [some (.d (.str (st t))),some (.p k),some (.d (.int w)),some (.d (.int (n:Int))),some (.d (.str (st [d])))] (Sk S k l3)=R->b__law_spoiled [some (.d (.str (st t))),some (.p k),none,none,none] (Sk S k l)=R:=by
  intro R _ h
  rw [<-h]
  unfold b__law_spoiled
  rw [e_seq,e_set,e_call,e_acons,v1,bind_ok,k_a1,e_acons,e_cst,bind_ok,k_a1,e_anil]
  simp only [bind_ok]
  rw [e1,bind_ok,k_set,bind_ok,k_seq]
  simp only [List.set_cons_succ,List.set_cons_zero]
  rw [e_seq,e_set,e_call,e_acons,v1,bind_ok,k_a1,e_acons,e_bin,e_cal,e_acons,v0,bind_ok,k_a1,e_anil]
  simp only [bind_ok]
  rw [eL,bind_ok,k_bin,e_cst,bind_ok,o_addI,bind_ok,k_a1,e_anil]
  simp only [bind_ok]
  rw [e2,bind_ok,k_set,bind_ok,k_seq]
  simp only [List.set_cons_succ,List.set_cons_zero]
  rw [e_seq,e_set,e_bin,e_cst,bind_ok,k_bin,e_call,e_acons,v1,bind_ok,k_a1,e_acons,e_cst,bind_ok,k_a1,e_anil]
  simp only [bind_ok]
  rw [e3,bind_ok,e4,bind_ok,k_set,bind_ok,k_seq]
  simp only [List.set_cons_succ,List.set_cons_zero]
 have cl:=fun S=>cutN_lo (S:=S) (t:=t) (by omega) n
 have ch:=fun S=>cutN_hi (S:=S) (t:=t) (by omega) n
 have cl1:∀S,oCut (.d (.str (st t))) (some ((n:Int)+1)) none S=.ok (.d (.str (st (t.drop (n+1))))) S:=fun S=>cutN_lo (S:=S) (t:=t) (by omega) (n+1)
 have L1:(t.take n).length<=t.length:=by rw [List.length_take];omega
 have L2:(t.drop n).length<=t.length:=by rw [List.length_drop];omega
 have L3:(t.drop (n+1)).length<=t.length:=by rw [List.length_drop];omega
 have LE:(t.take n).length+(t.drop n).length=t.length:=by rw [<-List.length_append,List.take_append_drop]
 have LE2:(t.drop (n+1)).length<=(t.drop n).length:=by rw [List.length_drop,List.length_drop];omega
 have hP1:P [d]:=fun x hx=>by rw [List.mem_singleton] at hx;omega
 by_cases c0:w=0
 ·refine ⟨t.take n++[d]++t.drop n,l3,P_app (P_app (P_take hp n) hP1) (P_drop hp n),by simp only [List.length_append,List.length_cons,List.length_nil];omega,hl3,fin _ _ (start _ (fun _=>trivial) ?_)⟩
  rw [e_ifq rfl,if_pos c0]
  simp -implicitDefEqProofs only [e_bin,e_cut,v0,v3,v4,bind_ok,k_cut,e_none,k_cut1,e_some,k_some,k_cut2,ch,cl,k_bin]
  rw [addS (by simp only [List.length_cons,List.length_nil];omega)]
  simp -implicitDefEqProofs only [bind_ok,k_bin,e_cut,v0,v3,k_cut,e_none,k_cut1,e_some,k_some,k_cut2,cl]
  rw [addS (by simp only [List.length_append,List.length_cons,List.length_nil];omega)]
  rfl
 by_cases c1:w=1
 ·refine ⟨t.take n++t.drop (n+1),l3,P_app (P_take hp n) (P_drop hp _),by simp only [List.length_append];omega,hl3,fin _ _ (start _ (fun _=>trivial) ?_)⟩
  rw [e_ifq rfl,if_neg c0,e_ifq rfl,if_pos c1]
  simp -implicitDefEqProofs only [e_bin,e_cut,v0,v3,v4,bind_ok,k_cut,e_none,k_cut1,e_some,k_some,k_cut2,ch,k_bin,e_cst,o_addI,cl1]
  rw [addS (by omega)]
  rfl
 by_cases c2:w=2
 ·refine ⟨t.take n++[d]++t.drop (n+1),l3,P_app (P_app (P_take hp n) hP1) (P_drop hp _),by simp only [List.length_append,List.length_cons,List.length_nil];omega,hl3,fin _ _ (start _ (fun _=>trivial) ?_)⟩
  rw [e_ifq rfl,if_neg c0,e_ifq rfl,if_neg c1,e_ifq rfl,if_pos c2]
  simp -implicitDefEqProofs only [e_bin,e_cut,v0,v3,v4,bind_ok,k_cut,e_none,k_cut1,e_some,k_some,k_cut2,ch,k_bin]
  rw [addS (by simp only [List.length_cons,List.length_nil];omega)]
  simp -implicitDefEqProofs only [bind_ok,k_bin,e_cut,v0,v3,k_cut,e_none,k_cut1,e_some,k_some,k_cut2,e_bin,e_cst,o_addI,cl1]
  rw [addS (by simp only [List.length_append,List.length_cons,List.length_nil];omega)]
  rfl
 by_cases c3:w=3
 ·obtain ⟨u,l4,u0,u1,hl4,e5⟩:=take_ok hk (many:=66) (by decide) (log_lt (by decide)) l3 (Or.inr hl3)
  refine ⟨t++List.replicate u.toNat 55,l4,P_app hp (fun x hx=>by rw [List.eq_of_mem_replicate hx];decide),by simp only [List.length_append,List.length_replicate];omega,hl4,fin _ _ (start _ (fun _=>trivial) ?_)⟩
  rw [e_ifq rfl,if_neg c0,e_ifq rfl,if_neg c1,e_ifq rfl,if_neg c2,e_ifq rfl,if_pos c3]
  rw [e_bin,v0,bind_ok,k_bin,e_bin,e_cst,bind_ok,k_bin,e_call,e_acons,v1,bind_ok,k_a1,e_acons,e_cst,bind_ok,k_a1,e_anil]
  simp only [bind_ok]
  rw [e5,bind_ok,show ("7" : Str)=st [55] from by decide,mulS u0 (by omega),bind_ok,addS (by rw [List.length_replicate];omega)]
  rfl
 by_cases c4:w=4
 ·obtain ⟨u,l4,u0,u1,hl4,e5⟩:=take_ok hk (many:=3) (by decide) (log_lt (by decide)) l3 (Or.inr hl3)
  refine ⟨List.replicate u.toNat 48++t,l4,P_app (fun x hx=>by rw [List.eq_of_mem_replicate hx];decide) hp,by simp only [List.length_append,List.length_replicate];omega,hl4,fin _ _ (start _ (fun _=>trivial) ?_)⟩
  rw [e_ifq rfl,if_neg c0,e_ifq rfl,if_neg c1,e_ifq rfl,if_neg c2,e_ifq rfl,if_neg c3,e_ifq rfl,if_pos c4]
  rw [e_bin,e_bin,e_cst,bind_ok,k_bin,e_call,e_acons,v1,bind_ok,k_a1,e_acons,e_cst,bind_ok,k_a1,e_anil]
  simp only [bind_ok]
  rw [e5,bind_ok,show ("0" : Str)=st [48] from by decide,mulS u0 (by omega),bind_ok,k_bin,v0,bind_ok,addS (by rw [List.length_replicate];omega)]
  rfl
 ·refine ⟨t,l3,hp,by omega,hl3,fin _ _ (start _ (fun _=>trivial) ?_)⟩
  rw [e_ifq rfl,if_neg c0,e_ifq rfl,if_neg c1,e_ifq rfl,if_neg c2,e_ifq rfl,if_neg c3,e_ifq rfl,if_neg c4]
  rfl
end
end K31
namespace K31
open PySem L2 Y
open Y (bin)
noncomputable abbrev lb (c:Nat->Addr):FS:=(sSeq (sSet 2 (cL (lstF (aCons (callF F__law_cell (aCons (var 0) (aCons (bin oAdd (cst (.int 1)) (var 1)) aNil))) (aCons (bin (oI Z.gMod) (callF F__law_cell (aCons (var 0) (aCons (cst (.int 0)) aNil))) (cst (.int 2))) aNil))))) (sSeq (sSet 3 (callF F__law_number (aCons (var 2) aNil))) (sSeq (sSet 4 (callF F_show_number (aCons (var 3) aNil))) (sSeq (sIf (orT (tst (bin (oEq true) (var 4) (callF F__law_shown (aCons (var 3) aNil)))) (notT (truT (callF (F__law_right c) (aCons (var 4) aNil))))) (sRet (cst (.bl false))) sNil) (sSeq (sSet 5 (callF F__law_spoiled (aCons (var 4) (aCons (var 2) aNil)))) (sSeq (sIf (tst (bin (oEq false) (callF F__law_take (aCons (var 2) (aCons (cst (.int 3)) aNil))) (cst (.int 0)))) (sSet 5 (callF F__law_spoiled (aCons (var 5) (aCons (var 2) aNil)))) sNil) (sIf (orT (notT (truT (callF (F__law_right c) (aCons (var 5) aNil)))) (notT (truT (callF (F__law_great c) (aCons (bin (oI Z.gSub) (bin (oI Z.gSub) (bin (oI Z.gPow) (cst (.int 10)) (cst (.int 60))) (cst (.int 1))) (callF F__law_take (aCons (var 2) (aCons (cst (.int 1000)) aNil)))) (aCons (callF F__law_take (aCons (var 2) (aCons (cst (.int 2)) aNil))) aNil)))))) (sRet (cst (.bl false))) sNil)))))))
noncomputable abbrev li:FI:=(iRg (cal (oMax true) (aCons (cst (.int 1)) (aCons (bin (oI Z.gSub) (cal (oMax false) (aCons (cal oLen (aCons (var 0) aNil)) (aCons (cst (.int 41)) aNil))) (cst (.int 1))) aNil))))
section
variable {S:Sto}{ρ:Rho}{k:Nat}{c:Nat->Addr}
theorem cell_ok (ns:List Int) (i:Nat):∃x,kCall F__law_cell [.d (.lst (ns.map .int)),.d (.int (i:Int))] S=.ok (.d (.int x)) S:=by
 have v0:∀S',var 0 [some (.d (.lst (ns.map .int))),some (.d (.int (i:Int)))] S'=.ok (.d (.lst (ns.map .int))) S':=fun _=>rfl
 have v1:∀S',var 1 [some (.d (.lst (ns.map .int))),some (.d (.int (i:Int)))] S'=.ok (.d (.int (i:Int))) S':=fun _=>rfl
 have ln:oLen [.d (.lst (ns.map .int))] S=.ok (.d (.int ns.length)) S:=by
  unfold oLen
  simp [A.dct,A.seq]
 have t:tst (bin (oI Z.gLt) (var 1) (cal oLen (aCons (var 0) aNil))) [some (.d (.lst (ns.map .int))),some (.d (.int (i:Int)))] S=.ok (decide ((i:Int) < ns.length)) S:=by
  simp -implicitDefEqProofs only [e_tst,e_bin,v1,bind_ok,k_bin,e_cal,e_acons,e_anil,v0,k_a1,ln,o_I,Z.gLt,opt_some,k_tst]
 by_cases h:i < ns.length
 ·refine ⟨ns[i],k_call (def_ret0 ?_)⟩
  show b__law_cell [some (.d (.lst (ns.map .int))),some (.d (.int (i:Int)))] S=_
  unfold b__law_cell
  rw [e_ret,e_ite t,decide_eq_true (by omega),if_pos rfl,e_bin,v0,bind_ok,k_bin,v1,bind_ok,o_ixL (at_nat (i:=i) (x:=.int ns[i]) (by rw [List.getElem?_map,List.getElem?_eq_getElem h];rfl))]
  rfl
 ·refine ⟨0,k_call (def_ret0 ?_)⟩
  show b__law_cell [some (.d (.lst (ns.map .int))),some (.d (.int (i:Int)))] S=_
  unfold b__law_cell
  rw [e_ret,e_ite t,decide_eq_false (by omega),if_neg (by decide)]
  rfl
theorem txP {n:Int}(h:n.natAbs < 10 ^ 60):∃t,P t/\t.length<=61/\tx n=st t:=by
 refine ⟨_,?_,?_,tx_eq n⟩
 ·intro d hd
  rcases List.mem_append.mp hd with q | q
  ·split at q<;>simp at q;omega
  ·have:=figs_all _ d q;omega
 ·have:=figs_len 59 _ h
  rw [List.length_append];split<;>simp only [List.length_cons,List.length_nil]<;>omega
theorem lb_ok (nd:(ks c).Nodup) (ns:List Int) (i:Nat) (u2 u3 u4 u5:Option A) :
  ∃w2 w3 w4 w5 S',lb c [some (.d (.lst (ns.map .int))),some (.d (.int (i:Int))),u2,u3,u4,u5] S=.ok (.nx [some (.d (.lst (ns.map .int))),some (.d (.int (i:Int))),w2,w3,w4,w5]) S':=by
 obtain ⟨x,ex⟩:=cell_ok (S:=S) ns (1+i)
 obtain ⟨y,ey⟩:=cell_ok (S:=S) ns 0
 have v0:∀a b d e f S',var 0 [some (.d (.lst (ns.map .int))),a,b,d,e,f] S'=.ok (.d (.lst (ns.map .int))) S':=fun _ _ _ _ _ _=>rfl
 have v1:∀a b d e f S',var 1 [some (.d (.lst (ns.map .int))),some a,b,d,e,f] S'=.ok a S':=fun _ _ _ _ _ _=>rfl
 have v2:∀a b d e f S',var 2 [some (.d (.lst (ns.map .int))),a,some b,d,e,f] S'=.ok b S':=fun _ _ _ _ _ _=>rfl
 have v3:∀a b d e f S',var 3 [some (.d (.lst (ns.map .int))),a,b,some d,e,f] S'=.ok d S':=fun _ _ _ _ _ _=>rfl
 have v4:∀a b d e f S',var 4 [some (.d (.lst (ns.map .int))),a,b,d,some e,f] S'=.ok e S':=fun _ _ _ _ _ _=>rfl
 have v5:∀a b d e f S',var 5 [some (.d (.lst (ns.map .int))),a,b,d,e,some f] S'=.ok f S':=fun _ _ _ _ _ _=>rfl
 have hk:S.length < (S++[Cel.lst []]).length:=by simp
 have eS:∀l:List Int,S++[Cel.lst (l.map .int)]=Sk (S++[.lst []]) S.length l:=fun l=>by
  unfold Sk
  rw [last_set]
 generalize hB:S++[Cel.lst []]=B at hk eS
 generalize hK:S.length=k at hk eS
 have first:sSet 2 (cL (lstF (aCons (callF F__law_cell (aCons (var 0) (aCons (bin oAdd (cst (.int 1)) (var 1)) aNil))) (aCons (bin (oI Z.gMod) (callF F__law_cell (aCons (var 0) (aCons (cst (.int 0)) aNil))) (cst (.int 2))) aNil)))) [some (.d (.lst (ns.map .int))),some (.d (.int (i:Int))),u2,u3,u4,u5] S=.ok (.nx [some (.d (.lst (ns.map .int))),some (.d (.int (i:Int))),some (.p k),u3,u4,u5]) (Sk B k [x,y % 2]):=by
  rw [e_set,e_cL,e_lst,e_acons,e_call,e_acons,v0,bind_ok,k_a1,e_acons,e_bin,e_cst,bind_ok,k_bin,v1,bind_ok,o_addI,bind_ok,k_a1,e_anil]
  simp only [bind_ok]
  rw [show (1:Int)+(i:Int)=((1+i:Nat):Int) from by omega,ex,bind_ok,k_a1,e_acons,e_bin,e_call,e_acons,v0,bind_ok,k_a1,e_acons,e_cst,bind_ok,k_a1,e_anil]
  simp only [bind_ok]
  rw [show (0:Int)=((0:Nat):Int) from rfl,ey,bind_ok,k_bin,e_cst,bind_ok,o_I]
  unfold Z.gMod
  rw [if_pos (by decide)]
  simp only [opt_some,bind_ok,k_a1,e_anil]
  rw [show kLst [.d (.int x),.d (.int (y % 2))] S=.ok [.int x,.int (y % 2)] S from rfl]
  simp only [bind_ok,k_set,List.set_cons_succ,List.set_cons_zero]
  rw [hK,<-eS]
  rfl
 obtain ⟨n,l1,hn,hl1,e1⟩:=number_ok hk [x,y % 2] (Or.inl rfl)
 obtain ⟨t,hp,ht,et⟩:=txP hn
 have n120:n.natAbs < 10 ^ 120:=Nat.lt_trans hn (by decide)
 have n69:n.natAbs < 10 ^ 69:=Nat.lt_trans hn (by decide)
 obtain ⟨t2,l2,hp2,ht2,hl2,e2⟩:=spoiled_ok hk l1 (Or.inr hl1) hp (by omega)
 obtain ⟨v,l3,_,_,hl3,e3⟩:=take_ok hk (many:=3) (by decide) (log_lt (by decide)) l2 (Or.inr hl2)
 have right:=fun {t:List Nat}(hp:P t) (ht:t.length<=240) (S:Sto)=>k_call (right_ok (S:=S) nd hp ht)
 have last:∀(t4:List Nat) (l4:List Int),P t4->t4.length<=240->l4.length=3->∃S',(sIf (orT (notT (truT (callF (F__law_right c) (aCons (var 5) aNil)))) (notT (truT (callF (F__law_great c) (aCons (bin (oI Z.gSub) (bin (oI Z.gSub) (bin (oI Z.gPow) (cst (.int 10)) (cst (.int 60))) (cst (.int 1))) (callF F__law_take (aCons (var 2) (aCons (cst (.int 1000)) aNil)))) (aCons (callF F__law_take (aCons (var 2) (aCons (cst (.int 2)) aNil))) aNil)))))) (sRet (cst (.bl false))) sNil) [some (.d (.lst (ns.map .int))),some (.d (.int (i:Int))),some (.p k),some (.d (.int n)),some (.d (.str (st t))),some (.d (.str (st t4)))] (Sk B k l4)=.ok (.nx [some (.d (.lst (ns.map .int))),some (.d (.int (i:Int))),some (.p k),some (.d (.int n)),some (.d (.str (st t))),some (.d (.str (st t4)))]) S':=by
  intro t4 l4 hp4 ht4 hl4
  obtain ⟨a,l5,a0,a1,hl5,e5⟩:=take_ok hk (many:=1000) (by decide) (log_lt (by decide)) l4 (Or.inr hl4)
  obtain ⟨b,l6,b0,b1,hl6,e6⟩:=take_ok hk (many:=2) (by decide) (log_lt (by decide)) l5 (Or.inr hl5)
  refine ⟨Sk B k l6,?_⟩
  rw [e_if,e_or,e_not,e_tru,e_call,e_acons,v5,bind_ok,k_a1,e_anil]
  simp only [bind_ok]
  rw [right hp4 ht4,bind_ok,k_truB,bind_ok,k_not,bind_ok,Bool.not_true,k_orF,e_not,e_tru,e_call,e_acons,e_bin,e_bin]
  rw [show ∀ρ S',bin (oI Z.gPow) (cst (.int 10)) (cst (.int 60)) ρ S'=.ok (.d (.int (10 ^ 60))) S' from fun ρ S'=>by
   simp -implicitDefEqProofs only [e_bin,e_cst,bind_ok,k_bin,o_I,Z.gPow]
   rw [if_pos (by decide)]
   rfl]
  rw [bind_ok,k_bin,e_cst,bind_ok,o_I]
  simp only [Z.gSub,opt_some,bind_ok]
  rw [k_bin,e_call,e_acons,v2,bind_ok,k_a1,e_acons,e_cst,bind_ok,k_a1,e_anil]
  simp only [bind_ok]
  rw [e5,bind_ok,o_I]
  simp only [Z.gSub,opt_some,bind_ok]
  rw [k_a1,e_acons,e_call,e_acons,v2,bind_ok,k_a1,e_acons,e_cst,bind_ok,k_a1,e_anil]
  simp only [bind_ok]
  rw [e6,bind_ok,k_a1,e_anil]
  simp only [bind_ok]
  rw [great_ok nd (by omega),bind_ok,k_truB,bind_ok,k_not,bind_ok,Bool.not_true,k_ifF,e_nil]
 have mid:∃t4 l4,P t4/\t4.length<=240/\l4.length=3/\(sIf (tst (bin (oEq false) (callF F__law_take (aCons (var 2) (aCons (cst (.int 3)) aNil))) (cst (.int 0)))) (sSet 5 (callF F__law_spoiled (aCons (var 5) (aCons (var 2) aNil)))) sNil) [some (.d (.lst (ns.map .int))),some (.d (.int (i:Int))),some (.p k),some (.d (.int n)),some (.d (.str (st t))),some (.d (.str (st t2)))] (Sk B k l2)=.ok (.nx [some (.d (.lst (ns.map .int))),some (.d (.int (i:Int))),some (.p k),some (.d (.int n)),some (.d (.str (st t))),some (.d (.str (st t4)))]) (Sk B k l4):=by
  have tt:tst (bin (oEq false) (callF F__law_take (aCons (var 2) (aCons (cst (.int 3)) aNil))) (cst (.int 0))) [some (.d (.lst (ns.map .int))),some (.d (.int (i:Int))),some (.p k),some (.d (.int n)),some (.d (.str (st t))),some (.d (.str (st t2)))] (Sk B k l2)=.ok (v==0) (Sk B k l3):=by
   simp -implicitDefEqProofs only [e_tst,e_bin,e_call,e_acons,e_anil,v2,bind_ok,k_a1,e_cst,e3,k_bin,o_eqI,Bool.false_eq_true,if_false,k_tst]
  cases hv:(v==0) with
  |false=>exact ⟨t2,l3,hp2,by omega,hl3,by rw [e_if,tt,hv];rfl⟩
  |true=>
   obtain ⟨t4,l4,hp4,ht4,hl4,e4⟩:=spoiled_ok hk l3 (Or.inr hl3) hp2 (by omega)
   refine ⟨t4,l4,hp4,by omega,hl4,?_⟩
   rw [e_if,tt,hv,bind_ok,k_ifT,e_set,e_call,e_acons,v5,bind_ok,k_a1,e_acons,v2,bind_ok,k_a1,e_anil]
   simp only [bind_ok]
   rw [e4,bind_ok,k_set]
   rfl
 obtain ⟨t4,l4,hp4,ht4,hl4,e4⟩:=mid
 obtain ⟨S',e5⟩:=last t4 l4 hp4 ht4 hl4
 refine ⟨some (.p k),some (.d (.int n)),some (.d (.str (st t))),some (.d (.str (st t4))),S',?_⟩
 unfold lb
 rw [e_seq,first,bind_ok,k_seq,e_seq,e_set,e_call,e_acons,v2,bind_ok,k_a1,e_anil]
 simp only [bind_ok]
 rw [e1,bind_ok,k_set,bind_ok,k_seq]
 simp only [List.set_cons_succ,List.set_cons_zero]
 rw [e_seq,e_set,e_call,e_acons,v3,bind_ok,k_a1,e_anil]
 simp only [bind_ok]
 rw [k_call (show_ok n120),bind_ok,k_set,bind_ok,k_seq]
 simp only [List.set_cons_succ,List.set_cons_zero]
 rw [e_seq,e_if,e_or,e_tst,e_bin,v4,bind_ok,k_bin,e_call,e_acons,v3,bind_ok,k_a1,e_anil]
 simp only [bind_ok]
 rw [k_call (shown_ok n69),bind_ok,eq_s]
 simp only [if_true,beq_self_eq_true,Bool.not_true,bind_ok,k_tst,k_orF]
 rw [e_not,e_tru,e_call,e_acons,v4,bind_ok,k_a1,e_anil]
 simp only [bind_ok]
 rw [et,right hp (by omega),bind_ok,k_truB,bind_ok,k_not,bind_ok,Bool.not_true,k_ifF,e_nil,bind_ok,k_seq]
 rw [e_seq,e_set,e_call,e_acons,v4,bind_ok,k_a1,e_acons,v2,bind_ok,k_a1,e_anil]
 simp only [bind_ok]
 rw [e2,bind_ok,k_set,bind_ok,k_seq]
 simp only [List.set_cons_succ,List.set_cons_zero]
 rw [e_seq,e4,bind_ok,k_seq,e5]
theorem main (c:Nat->Addr) (ns:List Int) (nd:(ks c).Nodup) (hn:ns.length<=63):∃S,F_law c [.d (.lst (ns.map .int))] []=.ok (.d (.bl true)) S:=by
 have ln:oLen [.d (.lst (ns.map .int))] []=.ok (.d (.int ns.length)) []:=by
  unfold oLen
  simp [A.dct,A.seq]
 obtain ⟨m,hm,it⟩:∃m:Nat,m<=63/\li [some (.d (.lst (ns.map .int))),none,none,none,none,none] []=.ok (rng 0 m,none) []:=by
  unfold li
  have v0:∀S',var 0 [some (.d (.lst (ns.map .int))),none,none,none,none,none] S'=.ok (.d (.lst (ns.map .int))) S':=fun _=>rfl
  have m1:∀a b:Int,oMax false [.d (.int a),.d (.int b)] []=.ok (.d (.int (if b < a then b else a))) []:=fun _ _=>rfl
  have m2:∀a b:Int,oMax true [.d (.int a),.d (.int b)] []=.ok (.d (.int (if b > a then b else a))) []:=fun _ _=>rfl
  simp -implicitDefEqProofs only [e_rg,e_cal,e_acons,e_anil,e_cst,bind_ok,k_a1,e_bin,v0,ln,k_bin,m1,o_I,Z.gSub,opt_some,m2]
  generalize hj:(if (if (41:Int) < (ns.length:Int) then 41 else (ns.length:Int))-1 > 1 then (if (41:Int) < (ns.length:Int) then 41 else (ns.length:Int))-1 else 1)=j
  have hb:0<=j/\j<=63:=by
   rw [<-hj]
   split<;>(try split)<;>omega
  exact ⟨j.toNat,by omega,k_rg ⟨hb.1,by omega⟩⟩
 obtain ⟨ρ',S',e,h⟩:=for_run0 (g:=gN 1) (b:=lb c) (ck:=none) (fun _ ρ _=>∃u1 u2 u3 u4 u5,ρ=[some (.d (.lst (ns.map .int))),u1,u2,u3,u4,u5]) (xs:=rng 0 m) (ρ:=[some (.d (.lst (ns.map .int))),none,none,none,none,none]) (S:=[]) ⟨_,_,_,_,_,rfl⟩ (fun _ _ _ _=>trivial) (by
  rintro i x ρ S hx ⟨u1,u2,u3,u4,u5,rfl⟩
  have hx':x=.d (.int (i:Int)):=by
   unfold rng at hx
   rw [List.getElem?_map] at hx
   obtain ⟨j,hj,rfl⟩:=Option.map_eq_some_iff.mp hx
   have:=(List.getElem?_eq_some_iff.mp hj)
   obtain ⟨h1,h2⟩:=this
   rw [List.getElem_range] at h2
   subst h2
   simp
  subst hx'
  obtain ⟨w2,w3,w4,w5,S',e⟩:=lb_ok (S:=S) nd ns i u2 u3 u4 u5
  exact ⟨_,_,S',rfl,e,_,_,_,_,_,rfl⟩)
 obtain ⟨u1,u2,u3,u4,u5,rfl⟩:=h
 refine ⟨[],def_ret (T:=S') ?_⟩
 show b_law c [some (.d (.lst (ns.map .int))),none,none,none,none,none] []=_
 show sSeq (sFor li (gN 1) (lb c)) (sRet (callF (F__law_right c) (aCons (cst (.str "")) aNil))) _ _=_
 rw [e_seq,e_for,it,bind_ok,k_for,e,bind_ok,k_seq,e_ret,e_call,e_acons,e_cst,bind_ok,k_a1,e_anil]
 simp only [bind_ok]
 rw [show ("" : Str)=st [] from by decide,k_call (right_ok nd (l:=[]) (fun _ h=>by cases h) (by decide))]
 rfl
end
end K31
open PySem PySem.W PyProof.Rows
set_option maxRecDepth 100000 in
set_option maxHeartbeats 0 in
theorem PySem.Challenge.cw_fitmost_k31_numbers_written_holds : PySem.Challenge.rw_fitmost_k31_numbers_written.Holds := by
  w_on; o_law
  refine holds_open (q := K31.Q) (loose := ["BLOCK"]) (Xt := K31.Xt) (XP := XL K31.Q []) (Yf := Hook.obs (YH.hook K31.obs (K31.fv, true))) (Ya := Hook.val (YH.hook K31.obs (K31.fv, true))) (YP := Hook.says (YH.hook K31.obs (K31.fv, true))) (N := 100000) K31.left (Hook.of (YH.hook K31.obs (K31.fv, true))) (Hook.keeps (YH.hook K31.obs (K31.fv, true))) (fun s e => xl_of s (Bool.and_eq_true_iff.mp e).1) XL.keeps (by rfl) (by rfl) (by rfl) (fun s e => recFacts_of (Bool.and_eq_true_iff.mp e).2) (by rfl) (by first | assumption | decide +kernel) (by decide +kernel) ⟨rfl, rfl, rfl, rfl, rfl, by decide +kernel⟩ ?hw ?hc
  case hw => w_witness2
  case hc => exact K31.walk rfl rfl K31.main
