import PyProof.Rows.All
import KE.KFind
import KE.KLam
import KE.KTryMore
import KE.LcSums
import KE.KRevSl
import KE.KUnpack
import Lean
import PyProof.DictCompW
import PyProof.DictTable
import PyProof.IsRules
import PyProof.SetKind
import PyProof.TupleKey
import PySem.SetTable
import PyProof.EnumMake
import PyProof.WalksEnum
import PyProof.Rows.SetFrom
import PyProof.SetRoads
import PySem.Challenge.RW_matefloors_k27_plans_laid_out
set_option Elab.async false
set_option linter.all false
set_option maxRecDepth 100000
set_option maxHeartbeats 4000000
set_option genSizeOf false
set_option compiler.extract_closed false
set_option bootstrap.genMatcherCode false
local macro_rules|`(‹$q›)=>`({nx:=fun _ y=>$q (.v .none) y,rt:=$q})
set_option genInjectivity false
local macro_rules | `(⋯) => `((by decide))
local macro_rules | `(∅) => `((by omega))
local macro_rules | `(nofun) => `((by decide +kernel))
local macro_rules | `(⟨⟩) => `((by kernel_rfl))
local macro_rules | `(tactic| walk_at "s") => `(tactic| exact ⟨rfl, rfl, rfl, by decide +kernel, rfl, by decide +kernel, by decide +kernel⟩)
local macro_rules | `(tactic| walk_at "b") => `(tactic| (intro _ _ _ _ _ _ us hl; first | exact (match us, hl with | [], _ => rfl) | exact (match us, hl with | [_], _ => rfl) | exact (match us, hl with | [_, _], _ => rfl) | exact (match us, hl with | [_, _, _], _ => rfl) | exact (match us, hl with | [_, _, _, _], _ => rfl) | exact (match us, hl with | [_, _, _, _, _], _ => rfl)))
open PySem.W (fnOf nsIn codeIn keepIn excIn exmOne kitOne findIn mroIn clsIn kia_one tabObj kla_fn)
open List (map_append map_map mem_append_left filterMap_cons mem_cons_self mem_cons_of_mem mem_append_right size_toArray append_nil of_mem_zip length_take getElem?_map mem_of_getElem? length_append length_map map_nil map_cons length_cons lookup_cons all_eq_true getElem?_cons_zero cons_append nil_append take_length mem_cons not_mem_nil getElem?_cons_succ length_nil set_cons_zero set_cons_succ getElem_mem sum_cons sum_nil map_congr_left mem_map_of_mem take_succ mem_of_mem_take map_take getElem?_eq_getElem range_succ flatten_append)
open Int (le_of_lt le_of_eq natAbs_mul eq_of_mul_eq_mul_right mul_ne_zero mul_nonneg ne_of_gt ne_of_lt mul_pos)
open Nat (lt_of_lt_of_le le_add_right lt_irrefl le_trans le_refl zero_le mul_le_mul_right add_mul)
open Bool (false_eq_true and_eq_true true_eq_false xor_false false_xor true_xor xor_true)
open PySem.F (plainAttrs_list)
open Option (bind_some map_some join_some bind_none)
open PySem (mem_of_lookup)
namespace L2
open PySem PySem.W
noncomputable def fZ:Sem Fin->Bool
 |.choose ..=>false
 |.os ..=>false
 |_=>true
noncomputable def zj(os:OsState):Step->Step
 |.go s t=>.go {s with os:=os} t
 |.halt o s=>.halt o {s with os:=os}
theorem AA{os:OsState}{e:Outcome}{s:Shared}:finish e {s with os:=os} = zj os (finish e s):=by
 unfold finish
 rw[apply_ite (zj os)];rfl
theorem step_os{den:Code->Sem Fin}{p:Program}{w:World}{os:OsState}{s:Shared}{t:Thread}(h:fZ t.cur=true) :
  step den p w {s with os:=os} t=zj os (step den p ⟨fun _ _=>0,w.params⟩ s t):=by
 obtain⟨heap,gens,drawn,toks,os0⟩:=s
 obtain⟨cur,code,pos,stack⟩:=t
 cases cur with
 |choose=>cases h
 |os=>cases h
 |pure r=>
  cases r with
  |again c=>rfl
  |done f=>
   cases stack with
   |nil=>exact AA (s:=⟨heap,gens,drawn,toks,os0⟩)
   |cons fr rest=>cases fr<;>rfl
 |raise e=>
  cases stack with
  |nil=>exact AA (s:=⟨heap,gens,drawn,toks,os0⟩)
  |cons fr rest=>cases fr<;>rfl
 |load a b k=>
  unfold step
  dsimp only
  cases heap.get? a<;>rfl
 |finish e=>
  unfold step
  dsimp only
  rw[apply_ite (zj os)];rfl
 |update a b f k=>
  unfold step
  dsimp only
  rw[apply_ite (zj os)];rfl
 |resume g r live k=>
  unfold step
  dsimp only
  cases gens[g]? with
  |none=>rfl
  |some x=>cases x<;>first|rfl|(cases r with|send v=>cases v<;>rfl|throw e=>rfl)
 |_=>first|rfl|(unfold step;dsimp only;split<;>rfl)
theorem Ij{den:Code->Sem Fin}{p:Program}{w:World}{os:OsState}{s s':Shared}{t t':Thread}(h:fZ t.cur=true)(e:step den p ⟨fun _ _=>0,w.params⟩ s t = .go s' t') :
  step den p w {s with os:=os} t = .go {s' with os:=os} t':=(step_os h).trans (congrArg (zj os) e)
noncomputable def kP(tb:String->Option Builtin)(p:Program)(P:Params)(ii:Nat)(ann:Option Value):Nat->Shared->Thread->Option Shared
 |0,_,_=>none
 |n+1,s,t=>match through t with
  |true=>some s
  |false=>match stepOk ii ann t&&fZ t.cur with
   |false=>none
   |true=>match step (denote tb) p ⟨fun _ _=>0,P⟩ s t with
    |.go s' t'=>kP tb p P ii ann n s' t'
    |.halt _ _=>none
theorem oq{tb:String->Option Builtin}{p:Program}{w:World}{ii:Nat}{ann:Option Value}{os:OsState}:∀{n:Nat} {s s':Shared} {t:Thread},kP tb p w.params ii ann n s t=some s'->topRun tb p w ii ann n {s with os:=os} t=some {s' with os:=os}
 |0,_,_,_,h=>by cases h
 |n+1,s,s',t,h=>by
  unfold kP at h
  unfold topRun
  cases ht:through t with
  |true=>rw[ht] at h;cases h;rfl
  |false=>
   rw[ht] at h
   cases hk:(stepOk ii ann t&&fZ t.cur) with
   |false=>rw[hk] at h;cases h
   |true=>
    rw[hk] at h
    obtain⟨k1,k2⟩:=Bool.and_eq_true_iff.mp hk
    cases hs:step (denote tb) p ⟨fun _ _=>0,w.params⟩ s t with
    |halt o io=>rw[hs] at h;cases h
    |go io rc=>
     rw[hs] at h
     rw[k1,Ij (os:=os) k2 hs]
     exact oq h
noncomputable def nX(p:Program)(P:Params)(ii:Nat)(ann:Option Value):Nat->Shared->Thread->Option Shared
 |0,_,_=>none
 |n+1,s,t=>match through t with
  |true=>some s
  |false=>match Fast.tw6613529449190102663 ii ann t&&fZ t.cur with
   |false=>none
   |true=>match Fast.tw8437177126325714943 (Fast.tw11892475500146522536 Fast.tw14364793385576792824) p ⟨fun _ _=>0,P⟩ s t with
    |.go s' t'=>nX p P ii ann n s' t'
    |.halt _ _=>none
theorem o7{p:Program}{P:Params}{ii:Nat}{ann:Option Value}:∀(n:Nat) (s:Shared) (t:Thread),nX p P ii ann n s t=kP treeTable p P ii ann n s t
 |0,_,_=>rfl
 |n+1,s,t=>by
  unfold nX kP
  rw[<- Fast.te6613529449190102663,<- Fast.te8437177126325714943,<- Fast.te11892475500146522536,<- Fast.te14364793385576792824]
  cases through t with
  |true=>rfl
  |false=>
   cases (stepOk ii ann t&&fZ t.cur) with
   |false=>rfl
   |true=>
    cases step (denote treeTable) p ⟨fun _ _=>0,P⟩ s t with
    |halt o io=>rfl
    |go io rc=>exact o7 n io rc
end L2
namespace L2
open PySem
noncomputable def cE(s:Stmt):Arguments:=match s with
 |.FunctionDef _ a _ _ _ _ _ _ _ _=>a
 |_=>{posonlyargs:=[],args:=[],vararg:=none,kwonlyargs:=[],kw_defaults:=[],kwarg:=none,defaults:=[]}
noncomputable def bT(s:Stmt):List Stmt:=match s with
 |.FunctionDef _ _ b _ _ _ _ _ _ _=>b
 |_=>[]
noncomputable def aI(s:Stmt):Scope:=match s with
 |.FunctionDef _ _ _ _ _ _ sc _ _ _=>sc
 |_=>{kind:=.function,names:=[],isGenerator:=false,isCoroutine:=false}
end L2
namespace L2.DL
open PySem
noncomputable def vm:List Str:=["law","_law_is_right","_law_is_put","_law_are_refused","_law_is_told","_law_said","_law_is_plan_told"]
noncomputable def zC:Option Value->Bool|some (.str _ _)=>true|_=>false
noncomputable def wz:Option Value->Bool|some (.int _ _)=>true|_=>false
noncomputable def D3:Option Value->Bool|some (.bool _)=>true|_=>false
noncomputable def Hr:Option Value->Bool|some (.ref _)=>true|_=>false
noncomputable def HU:Option Value->Str|some (.str q _)=>q|_=>("":Str)
noncomputable def Lv:Option Value->Addr|some (.ref a)=>a|_=>0
noncomputable def ye(vs:Array Value):Option (Addr×Str):=if (zC vs[1]?&&(Hr vs[11]?&&(wz vs[7]?&&(D3 vs[9]?&&(wz vs[10]?&&(zC vs[18]?&&vm.contains (HU vs[1]?)))))))=true then some (Lv vs[11]?,HU vs[1]?) else none
noncomputable def aU(o:Obj):Option (Addr×Str):=match o.data with
 |.fields vs=>if o.cls = .type "code" then ye vs else none
 |_=>none
noncomputable abbrev bmV:List Value:=[.type "ValueError",.type "Exception",.type "BaseException",.type "object"]
end L2.DL
namespace K27
open PySem L2
noncomputable def top(i:Nat):Stmt:=PySem.Challenge.pw_matefloors_k27_plans_laid_out.main.body.getD i (.Pass ⟨0,0,0,0⟩)
noncomputable def mods:List (Nat×Str):=[(415,"matefloors.numbers"),(542,"matefloors.layings"),(562,"matefloors.plans"),(638,"matefloors.spots"),(764,"law_matefloors_k27_plans_laid_out")]
noncomputable def FL0:List (Nat×Nat×Addr×Addr):=[(17,0,191,190),(18,0,198,197),(19,0,205,204),(20,0,212,211),(21,0,219,218),(22,0,226,225),(23,0,233,232),(24,0,240,239),(25,0,247,246),(26,0,254,253),(27,0,261,260),(28,0,268,267),(29,0,275,274),(30,0,282,281),(34,1,287,286),(35,1,294,293),(41,2,301,300),(42,2,308,307),(43,2,315,314),(44,2,322,321),(45,2,329,328),(46,2,334,333),(47,2,341,340),(48,2,346,345),(50,3,353,352),(51,3,358,357),(52,3,365,364),(53,3,372,371),(54,3,379,378),(55,3,386,385)]
noncomputable def FL1:List (Nat×Nat×Addr×Addr):=[(56,3,393,392),(57,3,400,399),(58,3,407,406),(59,3,414,413),(61,4,421,420),(62,4,428,427),(63,4,435,434),(64,4,442,441),(65,4,449,448),(66,4,454,453),(67,4,461,460),(68,4,468,467),(69,4,475,474),(70,4,482,481),(71,4,489,488),(72,4,494,493),(73,4,501,500),(74,4,508,507),(75,4,513,512),(76,4,520,519),(77,4,527,526),(78,4,532,531),(79,4,539,538),(80,4,544,543),(81,4,549,548),(82,4,554,553),(83,4,559,558),(84,4,564,563),(85,4,569,568),(86,4,574,573)]
noncomputable def FL2:List (Nat×Nat×Addr×Addr):=[(87,4,581,580),(88,4,586,585),(89,4,593,592)]
noncomputable def FL:List (Nat×Nat×Addr×Addr):=FL0++FL1++FL2
noncomputable def GL0:List (Str×Option Value):=[("isinstance",none),("int",none),("bool",none),("abs",none),("tuple",none),("len",none),("all",none),("list",none),("sum",none),("range",none),("zip",none),("ValueError",none),("min",none),("max",none),("MOST_KINDS",some (.int 3 546)),("MOST_WITHIN",some (.int 12 564)),("MOST_PLANS",some (.int 60 566)),("LEAST_PARTS",some (.int 2 568)),("MOST_PARTS",some (.int 8 570)),("MOST_TILES",some (.int 60 544)),("NOUGHT",some (.ref 184)),("FloorError",some (.ref 24)),("NoRoot",some (.ref 37)),("NoNumber",some (.ref 49)),("NoLaying",some (.ref 61)),("NoTile",some (.ref 73)),("NoFit",some (.ref 85)),("NoKinds",some (.ref 97)),("NoPlan",some (.ref 109)),("NoSpot",some (.ref 121))]
noncomputable def GL1:List (Str×Option Value):=[("NoNet",some (.ref 133)),("NoText",some (.ref 145)),("NoSaying",some (.ref 157)),("NoName",some (.ref 169)),("TooMany",some (.ref 181))]
noncomputable def GL:List (Str×Option Value):=GL0++GL1
noncomputable def nameOf:Stmt->Str
 |.FunctionDef n _ _ _ _ _ _ _ _ _=>n
 |_=>Str.empty
noncomputable def zA{α:Type}(p:α->Prop):List α->Prop
 |[]=>True
 |x::r=>p x/\zA p r
noncomputable abbrev fd(n:Str)(s:Stmt)(tk:Tok)(m:Str)(cd:Addr):FuncData:=fnOf n n (cE s) (bT s) (aI s) .none .none .none (.str m tk) none (.ref cd) .none
noncomputable def nm(q:Nat×Nat×Addr×Addr):Str:=nameOf (top q.1)
noncomputable def ps(q:Nat×Nat×Addr×Addr):List Str:=(cE (top q.1)).args.map fun a=>a.arg
noncomputable def md(q:Nat×Nat×Addr×Addr):Nat×Str:=mods.getD q.2.1 (0,"")
noncomputable def FQ(K:PySem.W.Frag)(q:Nat×Nat×Addr×Addr):Prop:=nsIn K mainGlobals (nm q)=some (some (.ref q.2.2.1))/\K.lookup q.2.2.1=some ⟨.type "function",none,.func (fd (nm q) (top q.1) (md q).1 (md q).2 q.2.2.2),#[]⟩/\codeIn K (.ref q.2.2.2) (nm q)=true/\keepIn K (.ref q.2.2.1)=true
noncomputable def gl(i:Nat):Str×Option Value:=GL.getD i ("",none)
noncomputable def wZ(a:Arguments):Bool:=a.posonlyargs.isEmpty&&a.vararg.isNone&&a.kwonlyargs.isEmpty&&a.kwarg.isNone&&decide (a.args.map fun x=>x.arg).Nodup
end K27
namespace K27.H
open PySem PySem.W PyProof.Rows L2 L2.DL
set_option maxHeartbeats 0
noncomputable abbrev R:OpenLaw:=PySem.Challenge.rw_matefloors_k27_plans_laid_out
noncomputable abbrev LO:List Str:=["has_form","has_form_layings","has_form_plans"]
noncomputable def sT(P:Params):Option Shared:=nX R.row.prog P 11 (some (.ref 6)) 20000 {heap:=boot_heap P,gens:=#[],drawn:=boot_drawn,toks:=boot_toks,os:=default} (topStub R.row.prog)
noncomputable def defName:Stmt->Str
 |.FunctionDef n _ _ _ _ _ _ _ _ _=>n
 |_=>Str.empty
noncomputable def yj:Stmt->Int
 |.FunctionDef _ _ _ _ _ _ _ _ _ p=>Int.ofNat p.line
 |_=>0
noncomputable def cn(o:Obj)(r:List Obj):List Obj:=o::r
noncomputable def g(P:Params)(x:Str)(t:Nat)(v:Value):DictEntry:=⟨PyData.keyHash P x,.str x t,v⟩
noncomputable def gf(P:Params)(i t a:Nat):DictEntry:=g P (defName (top i)) t (.ref a)
noncomputable def tb:List (Int×Nat)->List Value
 |[]=>[]
 |(a,b)::l=>.int a 0::.int 0 0::.ref b::tb l
noncomputable def tu(l:List Value):Obj:=⟨.type "tuple",none,.seq l.toArray 0,#[]⟩
noncomputable def nf:Obj:=⟨.none,none,.fields #[],#[]⟩
noncomputable def dp(s:Stmt):List Str:=(cE s).args.map (·.arg)
noncomputable def fd(s:Stmt)(a:Addr)(p c:Value):Data:=.func {name:=defName s,qualname:=defName s,params:=cE s,body:=.stmts (bT s),scope:=aI s,globals:=a,closure:=[],defaults:=.none,kwdefaults:=.none,pyModule:=p,code:=c}
noncomputable def co(s:Stmt)(a t u:Nat)(x y:Value)(d:Nat):Obj:=⟨.type "code",none,.fields #[.str (defName s) t,.str (defName s) (t+1),.str "/claim/cut.py" (t+2),.int (yj s) 0,.int (Int.ofNat (dp s).length) 0,.int 0 0,.int 0 0,.int 3 0,.ref a,.bool true,.int 181 0,.ref (a+1),.none,x,y,.ref (a+d),.int (Int.ofNat u) 0,.int (yj s) 0,.str "/claim/cut.py" (u+1)],#[]⟩
noncomputable def nv:Nat->List Str->List Value
 |_,[]=>[]
 |t,x::l=>.str x t::nv (t+1) l
noncomputable def fB(i a t:Nat)(l:List Str)(p:Value)(r:List Obj):List Obj:=tu []::nf::tu (nv (t+3) (dp (top i)++l))::tu []::⟨.none,none,fd (top i) 0 .none .none,#[]⟩::co (top i) a t (t+3+(dp (top i)++l).length) (.ref (a+2)) (.ref (a+3)) 4::⟨.type "function",none,fd (top i) 3 p (.ref (a+5)),#[]⟩::r
noncomputable def fL(i a t:Nat)(p:Value)(r:List Obj):List Obj:=tu []::nf::⟨.none,none,fd (top i) 0 .none .none,#[]⟩::co (top i) a t (t+3) .none .none 2::⟨.type "function",none,fd (top i) 3 p (.ref (a+3)),#[]⟩::r
noncomputable def me:Value:=.str "matefloors.errors" 187
noncomputable def cB(P:Params)(x:Str)(i t:Nat)(n:Int)(r:List Obj):List Obj:=tu [.ref 24]::⟨.type "builtin_function_or_method",none,.fields #[.builtin "type.__prepare__",.type "type"],#[]⟩::⟨.type "dict",none,.dict #[g P "__module__" (t+5) me,g P "__qualname__" (t+7) (.str x (t+6)),g P "__firstlineno__" (t+9) (.int n (t+8)),g P "__static_attributes__" (t+10) (.ref (i+7))] 4,#[]⟩::tu []::nf::⟨.type "code",none,.fields #[.str x t,.str x (t+1),.str "/claim/cut.py" (t+2),.int n 0,.int 0 0,.int 0 0,.int 0 0,.int 0 0,.ref (i+3),.bool false,.int 181 0,.ref (i+4),.none,.none,.none,.none,.int (Int.ofNat (t+3)) 0,.int n 0,.str "/claim/cut.py" (t+4)],#[]⟩::⟨.type "frame",none,.plain,#[some (.ref (i+5)),some (.ref 3),some (.ref (i+2)),none,some me,none,some (.ref 0)]⟩::tu []::⟨.type "dict",none,.dict #[g P "__module__" (t+5) me,g P "__firstlineno__" (t+9) (.int n (t+8)),g P "__static_attributes__" (t+10) (.ref (i+7)),g P "__doc__" (t+11) .none] 2,#[]⟩::⟨.type "type",none,.cls ⟨x,[.ref 24],[.ref (i+9),.ref 24,.type "ValueError",.type "Exception",.type "BaseException",.type "object"],i+8,x,true,[],[],false,none,false⟩,#[some (.ref i),none,some (.str x (t-2)),some (.str x (t+6)),some (.builtin "ValueError.__new__"),some (.bool true)]⟩::⟨.type "super",none,.fields #[.ref (i+9),.ref (i+9),.ref (i+9)],#[]⟩::⟨.type "builtin_function_or_method",none,.fields #[.builtin "object.__init_subclass__",.ref (i+9)],#[]⟩::r
noncomputable def m0:Value:=.str "matefloors.numbers" 415
noncomputable def m1:Value:=.str "matefloors.layings" 542
noncomputable def m2:Value:=.str "matefloors.plans" 562
noncomputable def m3:Value:=.str "matefloors.spots" 638
noncomputable def m4:Value:=.str "law_matefloors_k27_plans_laid_out" 764
noncomputable def ho0(P:Params)(r:List Obj):List Obj:=cn (boot_o_0 P) <| cn (boot_o_1 P) <| cn (boot_o_2 P) <| cn (⟨.type "dict",none,.dict #[g P "__name__" 165 (.str "law_matefloors_k27_plans_laid_out" 764),g P "__doc__" 166 .none,g P "__package__" 167 .none,g P "__loader__" 168 (.builtin "__main__.__loader__#opaque"),g P "__spec__" 169 .none,g P "__annotations__" 170 (.ref 6),g P "__builtins__" 171 (.ref 4),g P "__file__" 173 (.str "/claim/cut.py" 172),g P "__cached__" 174 .none,g P "FloorError" 206 (.ref 24),g P "NoRoot" 222 (.ref 37),g P "NoNumber" 238 (.ref 49),g P "NoLaying" 254 (.ref 61),g P "NoTile" 270 (.ref 73),g P "NoFit" 286 (.ref 85),g P "NoKinds" 302 (.ref 97),g P "NoPlan" 318 (.ref 109),g P "NoSpot" 334 (.ref 121),g P "NoNet" 350 (.ref 133),g P "NoText" 366 (.ref 145),g P "NoSaying" 382 (.ref 157),g P "NoName" 398 (.ref 169),g P "TooMany" 414 (.ref 181),g P "NOUGHT" 420 (.ref 184),gf P 17 427 191,gf P 18 435 198,gf P 19 445 205,gf P 20 454 212,gf P 21 464 219,gf P 22 472 226,gf P 23 480 233,gf P 24 489 240,gf P 25 498 247,gf P 26 507 254,gf P 27 515 261,gf P 28 525 268,gf P 29 533 275,gf P 30 541 282,g P "MOST_TILES" 545 (.int 60 544),g P "MOST_KINDS" 547 (.int 3 546),gf P 34 553 287,gf P 35 561 294,g P "MOST_WITHIN" 565 (.int 12 564),g P "MOST_PLANS" 567 (.int 60 566),g P "LEAST_PARTS" 569 (.int 2 568),g P "MOST_PARTS" 571 (.int 8 570),gf P 41 584 301,gf P 42 593 308,gf P 43 600 315,gf P 44 608 322,gf P 45 616 329,gf P 46 622 334,gf P 47 631 341,gf P 48 637 346,gf P 50 646 353,gf P 51 652 358,gf P 52 663 365,gf P 53 681 372,gf P 54 693 379,gf P 55 707 386,gf P 56 724 393,gf P 57 736 400,gf P 58 748 407,gf P 59 763 414,gf P 61 777 421,gf P 62 786 428,gf P 63 793 435,gf P 64 801 442,gf P 65 811 449,gf P 66 817 454,gf P 67 825 461,gf P 68 832 468,gf P 69 841 475,gf P 70 849 482,gf P 71 860 489,gf P 72 866 494,gf P 73 878 501,gf P 74 888 508,gf P 75 894 513,gf P 76 907 520,gf P 77 914 527,gf P 78 920 532,gf P 79 929 539,gf P 80 935 544,gf P 81 941 549,gf P 82 947 554,gf P 83 953 559,gf P 84 959 564,gf P 85 965 569,gf P 86 971 574,gf P 87 984 581,gf P 88 990 586,gf P 89 1006 593] 93,#[]⟩) <| cn (boot_o_4 P) <| cn (boot_o_5 P) <| cn (boot_o_6 P) <| cn (boot_o_7 P) <| cn (boot_o_8 P) <| cn (boot_o_9 P) <| cn (boot_o_10 P) <| cn (⟨(.type "tuple"),none,(.seq #[] 0),#[]⟩) <| cn (⟨.none,none,.fields (tb [(2,20),(4,33),(6,45),(8,57),(10,69),(12,81),(14,93),(16,105),(18,117),(20,129),(22,141),(24,153),(26,165),(28,177),(32,190),(34,197),(38,204),(45,211),(47,218),(54,225),(56,232),(58,239),(60,246),(64,253),(67,260),(69,267),(78,274),(80,281),(86,286),(90,293),(98,300),(109,307),(122,314),(124,321),(131,328),(134,333),(146,340),(151,345),(158,352),(160,357),(168,364),(171,371),(183,378),(188,385),(192,392),(200,399),(205,406),(214,413),(229,420),(239,427),(246,434),(248,441),(253,448),(256,453),(260,460),(262,467),(264,474),(266,481),(268,488),(274,493),(279,500),(285,507),(291,512),(301,519),(313,526),(315,531),(340,538),(345,543),(356,548),(364,553),(381,558),(384,563),(390,568),(412,573),(422,580),(430,585),(439,592)]).toArray,#[]⟩) <| cn (⟨(.type "code"),none,(.fields #[(.str "<module>" 182),(.str "<module>" 183),(.str "/claim/cut.py" 184),(.int 1 0),(.int 0 0),(.int 0 0),(.int 0 0),(.int 0 0),(.ref 11),(.bool false),(.int 181 0),(.ref 12),.none,.none,.none,.none,(.int 185 0),(.int 1 0),(.str "/claim/cut.py" 186)]),#[]⟩) <| cn (⟨(.type "frame"),none,.plain,#[some (.ref 13),some (.ref 3),some (.ref 3),none,some (.str "__main__" 164),none,some (.ref 0)]⟩) <| cn (⟨(.type "tuple"),none,(.seq #[(.type "ValueError")] 0),#[]⟩) <| cn (⟨(.type "builtin_function_or_method"),none,(.fields #[(.builtin "type.__prepare__"),(.type "type")]),#[]⟩) <| cn (⟨(.type "dict"),none,(.dict #[⟨PyData.keyHash P "__module__",(.str "__module__" 196),(.str "matefloors.errors" 187)⟩,⟨PyData.keyHash P "__qualname__",(.str "__qualname__" 198),(.str "FloorError" 197)⟩,⟨PyData.keyHash P "__firstlineno__",(.str "__firstlineno__" 200),(.int 2 199)⟩,⟨PyData.keyHash P "__static_attributes__",(.str "__static_attributes__" 201),(.ref 22)⟩] 4),#[]⟩) <| cn (⟨(.type "tuple"),none,(.seq #[] 0),#[]⟩) <| cn (⟨.none,none,(.fields #[]),#[]⟩) <| r
noncomputable def ho1(P:Params)(r:List Obj):List Obj:=cn (⟨(.type "code"),none,(.fields #[(.str "FloorError" 191),(.str "FloorError" 192),(.str "/claim/cut.py" 193),(.int 2 0),(.int 0 0),(.int 0 0),(.int 0 0),(.int 0 0),(.ref 18),(.bool false),(.int 181 0),(.ref 19),.none,.none,.none,.none,(.int 194 0),(.int 2 0),(.str "/claim/cut.py" 195)]),#[]⟩) <| cn (⟨(.type "frame"),none,.plain,#[some (.ref 20),some (.ref 3),some (.ref 17),none,some (.str "matefloors.errors" 187),none,some (.ref 0)]⟩) <| cn (⟨(.type "tuple"),none,(.seq #[] 0),#[]⟩) <| cn (⟨(.type "dict"),none,(.dict #[⟨PyData.keyHash P "__module__",(.str "__module__" 196),(.str "matefloors.errors" 187)⟩,⟨PyData.keyHash P "__firstlineno__",(.str "__firstlineno__" 200),(.int 2 199)⟩,⟨PyData.keyHash P "__static_attributes__",(.str "__static_attributes__" 201),(.ref 22)⟩,⟨PyData.keyHash P "__weakref__",(.str "__weakref__" 203),(.ref 25)⟩,⟨PyData.keyHash P "__doc__",(.str "__doc__" 204),.none⟩] 3),#[]⟩) <| cn (⟨(.type "type"),none,(.cls ⟨"FloorError",[(.type "ValueError")],[(.ref 24),(.type "ValueError"),(.type "Exception"),(.type "BaseException"),(.type "object")],23,"FloorError",true,[],[(.ref 37),(.ref 49),(.ref 61),(.ref 73),(.ref 85),(.ref 97),(.ref 109),(.ref 121),(.ref 133),(.ref 145),(.ref 157),(.ref 169),(.ref 181)],false,none,false⟩),#[some (.ref 15),none,some (.str "FloorError" 189),some (.str "FloorError" 197),some (.builtin "ValueError.__new__"),some (.bool true)]⟩) <| cn (⟨(.type "getset_descriptor"),none,(.fields #[(.str "__weakref__" 202),(.ref 24),(.builtin "ExceptionGroup.__weakref__"),.none]),#[]⟩) <| cn (⟨(.type "super"),none,(.fields #[(.ref 24),(.ref 24),(.ref 24)]),#[]⟩) <| cn (⟨(.type "builtin_function_or_method"),none,(.fields #[(.builtin "object.__init_subclass__"),(.ref 24)]),#[]⟩) <| cB P "NoRoot" 28 209 4 <| cB P "NoNumber" 40 225 6 <| cB P "NoLaying" 52 241 8 <| cB P "NoTile" 64 257 10 <| cB P "NoFit" 76 273 12 <| cB P "NoKinds" 88 289 14 <| cB P "NoPlan" 100 305 16 <| cB P "NoSpot" 112 321 18 <| cB P "NoNet" 124 337 20 <| cB P "NoText" 136 353 22 <| cB P "NoSaying" 148 369 24 <| cB P "NoName" 160 385 26 <| r
noncomputable def ho2(P:Params)(r:List Obj):List Obj:=cB P "TooMany" 172 401 28 <| cn (⟨(.type "tuple"),none,(.seq #[(.int 0 417),(.int 0 418),(.int 1 419)] 0),#[]⟩) <| fB 17 185 421 [] m0 <| fB 18 192 428 [] m0 <| fB 19 199 436 ["a","b","c"] m0 <| fB 20 206 446 [] m0 <| fB 21 213 455 ["divisor"] m0 <| fB 22 220 465 [] m0 <| fB 23 227 473 [] m0 <| fB 24 234 481 [] m0 <| fB 25 241 490 [] m0 <| fB 26 248 499 ["norm"] m0 <| fB 27 255 508 [] m0 <| fB 28 262 516 ["prevailing"] m0 <| fB 29 269 526 [] m0 <| fB 30 276 534 [] m0 <| fL 34 283 548 m1 <| fB 35 288 554 [] m1 <| fB 41 295 572 ["waiting","counted","plan","depth","part"] m2 <| fB 42 302 585 ["word"] m2 <| r
noncomputable def ho3(P:Params)(r:List Obj):List Obj:=fB 43 309 594 [] m2 <| fB 44 316 601 ["word"] m2 <| fB 45 323 609 [] m2 <| fL 46 330 617 m2 <| fB 47 335 623 ["total","shape"] m2 <| fL 48 342 632 m2 <| fB 50 347 640 [] m3 <| fL 51 354 647 m3 <| fB 52 359 653 ["x","y","width","height"] m3 <| fB 53 366 664 ["x","y","width","height","boxes","start","size","high"] m3 <| fB 54 373 682 ["columns","rows"] m3 <| fB 55 380 694 ["right","up"] m3 <| fB 56 387 708 ["width","height","boxes","row","column","across","upward"] m3 <| fB 57 394 725 ["turn"] m3 <| fB 58 401 737 ["height","tiles"] m3 <| fB 59 408 749 ["word","tiles","inner","part"] m3 <| fB 61 415 766 ["_law_cell","_law_great","_law_primes","_law_mixed"] m4 <| fB 62 422 778 ["_law_digit"] m4 <| fB 63 429 787 [] m4 <| fB 64 436 794 [] m4 <| r
noncomputable def ho4(P:Params)(r:List Obj):List Obj:=fB 65 443 802 ["_law_common"] m4 <| fL 66 450 812 m4 <| fB 67 455 818 [] m4 <| fB 68 462 826 [] m4 <| fB 69 469 833 [] m4 <| fB 70 476 842 [] m4 <| fB 71 483 850 ["_law_first","_law_second","_law_sides"] m4 <| fL 72 490 861 m4 <| fB 73 495 867 ["_law_wide","_law_a","_law_b","_law_c","_law_way"] m4 <| fB 74 502 879 ["_law_x","_law_sign_here"] m4 <| fL 75 509 889 m4 <| fB 76 514 895 ["_law_found","_law_turn","_law_way","_law_part","_law_kind"] m4 <| fB 77 521 908 [] m4 <| fL 78 528 915 m4 <| fB 79 533 921 ["_law_found","_law_one"] m4 <| fL 80 540 930 m4 <| fL 81 545 936 m4 <| fL 82 550 942 m4 <| fL 83 555 948 m4 <| fL 84 560 954 m4 <| r
noncomputable def ho5(P:Params)(r:List Obj):List Obj:=fL 85 565 960 m4 <| fL 86 570 966 m4 <| fB 87 575 972 ["_law_found","_law_kind","_law_x"] m4 <| fL 88 582 985 m4 <| fB 89 587 991 ["_law_some","_law_k","_law_bag_here","_law_d","_law_kinds_here","_law_plan_here","_law_width","_law_wide","_law_high"] m4 <| r
noncomputable def hT(P:Params):Heap:=⟨⟨ho0 P <| ho1 P <| ho2 P <| ho3 P <| ho4 P <| ho5 P []⟩,(boot_heap P).life⟩
noncomputable def isNm:Stmt->Bool
 |.Assign [.Name x _] _ _=>x == "__name__"
 |_=>false
noncomputable def V:Program:={R.row.prog with main:={R.row.prog.main with body:=R.row.prog.main.body.filter fun s=>!isNm s}}
noncomputable def as:List Addr:=[3,191,190,198,197,205,204,212,211,219,218,226,225,233,232,240,239,247,246,254,253,261,260,268,267,275,274,282,281,287,286,294,293,301,300,308,307,315,314,322,321,329,328,334,333,341,340,346,345,353,352,358,357,365,364,372,371,379,378,386,385,393,392,400,399,407,406,414,413,421,420,428,427,435,434,442,441,449,448,454,453,461,460,468,467,475,474,482,481,489,488,494,493,501,500,508,507,513,512,520,519,527,526,532,531,539,538,544,543,549,548,554,553,559,558,564,563,569,568,574,573,581,580,586,585,593,592,184,24,23,37,36,49,48,61,60,73,72,85,84,97,96,109,108,121,120,133,132,145,144,157,156,169,168,181,180,4]
noncomputable def tabs:List Addr:=[583,588]
noncomputable def K(P:Params):Frag:=as.map fun a=>(a,((hT P).get? a).getD default)
noncomputable def TF(P:Params):Frag:=tabs.map fun a=>(a,((hT P).get? a).getD default)
noncomputable def KF(P:Params):Frag:=K P++TF P
theorem kAs(P:Params):as++tabs=(KF P).map (·.1):=by
 unfold KF K TF
 rw[map_append,map_map,map_map]
 exact congr (congrArg HAppend.hAppend (List.map_id _).symm) (List.map_id _).symm
noncomputable def HK:Hook:=kHook KF (as++tabs) kAs
noncomputable def posOf:Stmt->Pos
 |.FunctionDef _ _ _ _ _ _ _ _ _ p=>p
 |_=>⟨0,0,0,0⟩
noncomputable def D:DefRec:=⟨"law",cE (K27.top 89),bT (K27.top 89),aI (K27.top 89),posOf (K27.top 89)⟩
noncomputable def Xt:Shared->Bool:=fun s=>xlAt V [] s&&recOk R.row.records s
theorem runC(P:Params):(sT P).map (fun s=>(s.heap,s.gens,s.drawn,s.toks))=some (hT P,#[],{},1007):=⟨⟩
theorem LD{A B C D:Type}{a a':A}{b b':B}{c c':C}{d d':D}(h:(a,b,c,d)=(a',b',c',d')):a=a'/\b=b'/\c=c'/\d=d':=by
 cases h;exact⟨rfl,rfl,rfl,rfl⟩
theorem run(w:World)(os:OsState):topRun treeTable R.row.prog w 11 (some (.ref 6)) 20000 {heap:=boot_heap w.params,gens:=#[],drawn:=boot_drawn,toks:=boot_toks,os:=os} (topStub R.row.prog)=some {heap:=hT w.params,gens:=#[],drawn:={},toks:=1007,os:=os}:=by
 have h:=runC w.params
 cases e:sT w.params with
 |none=>rw[e] at h;cases h
 |some s=>
  rw[e] at h
  obtain⟨heap,gens,drawn,toks,os0⟩:=s
  have h':some (heap,gens,drawn,toks)=some (hT w.params,(#[]:Array GenState),({}:Drawn),1007):=h
  obtain⟨rfl,rfl,rfl,rfl⟩:=LD (Option.some.inj h')
  exact oq (w:=w) (os:=os) ((o7 _ _ _).symm.trans e)
theorem Kj(w:World)(os:OsState):(staticsOk (importedModules R.row.prog.main.body) (boot_heap w.params) (hT w.params)&&namesBound R.row.prog (hT w.params)&&gensDone {heap:=hT w.params,gens:=#[],drawn:={},toks:=1007,os:=os}&&laidKept (boot_heap w.params) (hT w.params))=true:=⟨⟩
theorem GV(w:World)(os:OsState):seen (List.map (fun x=>x.name) (recsOf V)) (ownsOf V) [] {heap:=hT w.params,drawn:={},toks:=1007,os:=os} = expectedOf V:=⟨⟩
theorem GW(w:World)(os:OsState):(hT w.params).bltView=bltViewBooted:=⟨⟩
theorem HF(w:World)(os:OsState):((hT w.params).keysOk (looseW V LO) (List.map (fun x=>x.name) (recsOf V)) (List.map (fun x=>x.fst) (litsOf V)) (List.map (fun x=>x.name) (clssOf V (looseW V LO)))&&(hT w.params).accountedOkI (importedModules R.row.prog.main.body)&&(hT w.params).isNs mainGlobals&&(hT w.params).isNs builtinsNs&&tablesOk V (hT w.params)&&Xt {heap:=hT w.params,gens:=#[],drawn:={},toks:=1007,os:=os}&&(if true=true then (#[]:Array GenState).size==0 else !leftWithCleanup (#[]:Array GenState)))=true:=⟨⟩
theorem GO(w:World)(os:OsState):tabsOk V {heap:=hT w.params,gens:=#[],drawn:={},toks:=1007,os:=os} = true:=⟨⟩
theorem Fo(w:World)(os:OsState):pinSeenD V (drecsOf V) {heap:=hT w.params,gens:=#[],drawn:={},toks:=1007,os:=os} = pinGoodD (drecsOf V):=⟨⟩
theorem HW(w:World)(os:OsState):plainSeenE V (looseW V LO) {heap:=hT w.params,gens:=#[],drawn:={},toks:=1007,os:=os} = plainGoodE V (looseW V LO):=⟨⟩
theorem Ft(w:World)(os:OsState):plainSeenD V LO {heap:=hT w.params,gens:=#[],drawn:={},toks:=1007,os:=os} = plainGoodD V LO:=⟨⟩
theorem Gm(w:World)(os:OsState):wideSeen V {heap:=hT w.params,gens:=#[],drawn:={},toks:=1007,os:=os} = wideGood V:=⟨⟩
theorem He(w:World)(os:OsState):clsSeenW V LO {heap:=hT w.params,gens:=#[],drawn:={},toks:=1007,os:=os} = clsGoodW V LO:=⟨⟩
theorem Ky{A B C D E F G H I:Type}{a a':A}{b b':B}{c c':C}{d d':D}{e e':E}{f f':F}{g g':G}{h h':H}{i i':I}(h0:a=a')(h1:b=b')(h2:c=c')(h3:d=d')(h4:e=e')(h5:f=f')(h6:g=g')(h7:h=h')(h8:i=i'):(a,b,c,d,e,f,g,h,i)=(a',b',c',d',e',f',g',h',i'):=by
 rw[h0,h1,h2,h3,h4,h5,h6,h7,h8]
theorem KA(w:World)(os:OsState):openSeen V LO (importedModules R.row.prog.main.body) Xt true {heap:=hT w.params,gens:=#[],drawn:={},toks:=1007,os:=os} = openGood V LO:=Ky (GV w os) (GW w os) (HF w os) (GO w os) (Fo w os) (HW w os) (Ft w os) (Gm w os) (He w os)
theorem JK(w:World)(os:OsState):HK.obs {heap:=hT w.params,gens:=#[],drawn:={},toks:=1007,os:=os} = HK.val w:=⟨⟩
theorem seen(w:World):(fun os=>(staticsOk (importedModules R.row.prog.main.body) (boot_heap w.params) (hT w.params)&&namesBound R.row.prog (hT w.params)&&gensDone {heap:=hT w.params,gens:=#[],drawn:={},toks:=1007,os:=os}&&laidKept (boot_heap w.params) (hT w.params),
  openSeen V LO (importedModules R.row.prog.main.body) Xt true {heap:=hT w.params,gens:=#[],drawn:={},toks:=1007,os:=os},HK.obs {heap:=hT w.params,gens:=#[],drawn:={},toks:=1007,os:=os}))=fun _:OsState=>(true,openGood V LO,HK.val w):=
 funext fun os=>Prod.ext (Kj w os) (Prod.ext (KA w os) (JK w os))
theorem lkb{a b:Bool}(x:a=true)(y:b=true):(a&&b)=true:=by rw[x,y];rfl
theorem wsA:(sreFenced R.row.prog.main&&((moduleNames R.row.prog.main.body).isEmpty || lookedIntoSs (moduleNames R.row.prog.main.body) R.row.prog.main.body))=true:=⟨⟩
theorem wsB:namesResolve R.row.prog=true:=⟨⟩
theorem wsC:R.row.prog.boundNames.all (fun n=>!worldNames.contains n)=true:=⟨⟩
theorem wsD:noRoadLSs {strict:=!(importedModules R.row.prog.main.body).all cThrough.contains,foot:=none,bare:=(["vars","dir","locals"]:List Str).filter (readsOut R.row.prog R.row.prog.main.body)} R.row.prog.main.body=true:=⟨⟩
theorem wsE:(namesMeet R.row.prog R.row.prog.main.body fun _ n=>attrL n)=true:=⟨⟩
theorem wsF:looksOpen R.row.prog=true:=lkb (lkb (lkb (lkb wsA wsB) wsC) wsD) wsE
theorem wsG:R.row.wellSaid=true:=by
 unfold OpenRow.wellSaid OpenRow.partSaid
 rw[wsF]
 kernel_rfl
theorem wsH:noClassBlock R.prog R.footing=true:=⟨⟩
theorem wsI:noRoadLSs {strict:=true,foot:=some R.bound',writes:=R.writes,may:=R.may} R.footing=true:=⟨⟩
theorem wsJ:R.namesIt=true:=⟨⟩
theorem wsK:R.bound'.all (fun n=>!builtinNamed n || R.about==[n] || !R.reads n)=true:=⟨⟩
theorem wsL:namesMeet R.prog R.footing (fun sc n=>(!(["type","isinstance","issubclass","getattr","hasattr"]:List Str).contains n || sc.names.lookup n==some .globalImplicit)&&(R.may != some n || sc.kind==.module || sc.names.lookup n==some .globalImplicit))=true:=⟨⟩
theorem wsM:namesMeet R.prog R.above (fun _ n=>!R.own.contains n)=true:=⟨⟩
theorem wsN:(namesMeet R.prog R.footing fun sc n=>sc.kind==.module || sc.names.lookup n != some .globalExplicit)=true:=⟨⟩
theorem ws:R.wellSaid=true:=by
 unfold OpenLaw.wellSaid
 rw[wsG,wsH,wsI,wsJ,wsK,wsL,wsM,wsN]
 kernel_rfl
theorem Fn(P:Params):zA (FQ (K P)) FL:=by (repeat' apply And.intro)<;>first|trivial|kernel_rfl
theorem Hf:FL.all (fun q=>wZ (cE (top q.1)))=true:=⟨⟩
theorem Gq(P:Params):GL.map (fun q=>nsIn (K P) mainGlobals q.1)=GL.map fun q=>some q.2:=⟨⟩
theorem Ce(P:Params):(K P).lookup 184=some ⟨.type "tuple",none,.seq #[.int 0 417,.int 0 418,.int 1 419] 0,#[]⟩:=⟨⟩
theorem El(P:Params):excIn (K P) 181 bmV "ValueError.__new__"=true/\exmOne (K P) (.ref 181) (.ref 24)=some true/\kitOne (K P) (.ref 181) (.ref 37)=some false/\kitOne (K P) (.ref 181) (.ref 49)=some false/\kitOne (K P) (.ref 181) (.ref 61)=some false/\kitOne (K P) (.ref 181) (.ref 73)=some false/\kitOne (K P) (.ref 181) (.ref 85)=some false/\kitOne (K P) (.ref 181) (.ref 97)=some false/\kitOne (K P) (.ref 181) (.ref 109)=some false/\kitOne (K P) (.ref 181) (.ref 121)=some false/\kitOne (K P) (.ref 181) (.ref 133)=some false/\kitOne (K P) (.ref 181) (.ref 145)=some false/\kitOne (K P) (.ref 181) (.ref 157)=some false/\kitOne (K P) (.ref 181) (.ref 169)=some false/\kitOne (K P) (.ref 181) (.ref 181)=some true/\kitOne (K P) (.ref 181) (.type "ValueError")=some true:=by (repeat' apply And.intro)<;>kernel_rfl
theorem Dn(P:Params):findIn (K P) (.ref 181) "__getattribute__"=some (some (.builtin "BaseException.__getattribute__"))/\findIn (K P) (.ref 181) "__getattr__"=some none/\findIn (K P) (.ref 181) "__class__"=some (some (.builtin "object.__class__"))/\mroIn (K P) 181 (.type "object")=some true/\mroIn (K P) 181 (.type "BaseException")=some true/\(clsIn (K P) 181).isSome=true:=by (repeat' apply And.intro)<;>kernel_rfl
theorem C3(P:Params):nsIn (K P) mainGlobals "__builtins__"=some (some (.ref 4)):=⟨⟩
theorem Ck(P:Params):(K P).lookup 4=some ⟨.type "module",some builtinsNs,.plain,#[]⟩:=⟨⟩
theorem vR(P:Params):((K P).filterMap fun p=>aU p.2)=[(583,("_law_is_told":Str)),(588,("law":Str))]/\((K P).lookup 585).bind aU=some (583,("_law_is_told":Str))/\((K P).lookup 592).bind aU=some (588,("law":Str))/\(KF P).lookup 583=some (tabObj #[])/\(KF P).lookup 588=some (tabObj #[])/\(K P).lookup 583=none/\(K P).lookup 588=none:=⟨⟨⟩,⟨⟩,⟨⟩,⟨⟩,⟨⟩,⟨⟩,⟨⟩⟩
theorem zI(P:Params):((K P).filterMap fun p=>aU p.2)=[(583,("_law_is_told":Str)),(588,("law":Str))]:=(vR P).1
theorem fw(P:Params):((K P).lookup 585).bind aU=some (583,("_law_is_told":Str)):=(vR P).2.1
theorem kM{q2:Str}(h:((583:Addr),q2)∈([(583,("_law_is_told":Str)),(588,("law":Str))]:List (Addr×Str))):q2 = "_law_is_told":=by simpa using h
theorem AO(P:Params):((K P).lookup 592).bind aU=some (588,("law":Str)):=(vR P).2.2.1
theorem KD{q2:Str}(h:((588:Addr),q2)∈([(583,("_law_is_told":Str)),(588,("law":Str))]:List (Addr×Str))):q2 = "law":=by simpa using h
theorem fV(P:Params):(KF P).lookup 583=some (tabObj #[])/\(K P).lookup 583=none:=⟨(vR P).2.2.2.1,(vR P).2.2.2.2.2.1⟩
theorem wU(P:Params):(KF P).lookup 588=some (tabObj #[])/\(K P).lookup 588=none:=⟨(vR P).2.2.2.2.1,(vR P).2.2.2.2.2.2⟩
theorem left:LeftO R.row.prog V LO Xt HK.obs HK.val 20000:=
 LeftO.of_pieces (H₀:=boot_heap) (H₁:=hT) (gs₀:=#[]) (gs₁:=#[]) (d₀:=boot_drawn) (d₁:={}) (k₀:=boot_toks) (k₁:=1007) (m₀:=11) (ann:=some (.ref 6)) (M:=20000)
  (boot_open ⟨⟩ ⟨⟩ (fun s=>⟨⟩)) (fun w=>⟨⟩) run ⟨⟩ seen
end K27.H
namespace L2
open PySem PySem.Spec PyProof.Rows
noncomputable def dw(A:Around)(h:Heap):Prop:=A.handled=none\/∃(e:Addr) (oe:Obj) (vs:Array Value),A.handled=some (.ref e)/\h.get? e=some oe/\oe.data = .fields vs/\vs[2]? = some .none
theorem pM:entryFor table "proto.unchain"=some Builtin.«proto.unchain»:=entryFor_of_tree ⟨⟩
section
variable {prog:Program}{w:World}{A:Around}{E:Value->Shared->Prop}{s:Shared}
theorem sC{x e:Addr}{oe:Obj}{vs:Array Value}{Q:Value->Shared->Prop}(he:s.heap.get? e=some oe)(hd:oe.data = .fields vs)(h2:vs[2]? = some .none)(h:Q .none s) :
  wpAny (model prog w) A (runValue (.builtin "proto.unchain" ⟨[.ref x,.ref e,.ref e,.bool false],[]⟩)) Q E s:=by
 refine wpAny_runValue (codeAny_builtin pM ?_)
 unfold Builtin.«proto.unchain»
 dsimp only
 refine wpAny_bind (wpAny_field he hd h2 ?_)
 rw[if_pos (by rfl)]
 exact wpAny_pure h
theorem oP{α:Type}{a:Addr}{oa:Obj}{ws:Array Value}{Q:α->Shared->Prop}(q:dw A s.heap)(ha:s.heap.get? a=some oa)(hda:oa.data = .fields ws)(hz:2<ws.size)
  (hnew:∀e oe,A.handled=some (.ref e)->s.heap.get? e=some oe->e≠a)
  (h:∀h',Heap.ExtBut a s.heap h'->(∃o',h'.get? a=some o'/\o'.cls=oa.cls)->E (.ref a) {s with heap:=h'}):wpAny (model prog w) A (raiseNew (.ref a):Sem α) Q E s:=by
 unfold raiseNew
 refine wpAny_bind (wpAny_handled ?_)
 rcases q with q|⟨e,oe,vs,q,he,hd,h2⟩
 ·rw[q]
  exact wpAny_bind (wpAny_pure (wpAny_throw (h s.heap (fun b o _ z=>z) ⟨oa,ha,rfl⟩)))
 ·rw[q]
  have ne:e≠a:=hnew e oe q he
  dsimp only
  rw[if_pos (by simp[ne])]
  refine wpAny_bind (wpAny_holding (sC he hd h2 ?_))
  refine wpAny_bind ?_
  refine wpAny_setField ha hda hz (wpAny_throw ?_)
  have hd':=Obj.data_mapFields hda (·.setIfInBounds 2 (Value.ref e))
  exact h _ (Heap.SameBut.update ..).extBut ⟨_,Heap.get?_update_self _ ha (Obj.isFreed_of_fields hd'),Obj.cls_mapFields ..⟩
theorem oI{it:Addr}{α:Type}{h0:Heap}{Q:α->Shared->Prop}(q:dw A s.heap)(k:Heap.ExtBut it h0 s.heap)(kl:∀e oe,A.handled=some (.ref e)->s.heap.get? e=some oe->True)
  (h:∀h' a,Heap.ExtBut it h0 h'->(∃o',h'.get? a=some o'/\o'.cls = .type "StopIteration")->E (.ref a) {s with heap:=h'}):wpAny (model prog w) A (newExc (.type "StopIteration") []>>=fun e=>(raiseNew e:Sem α)) Q E s:=by
 refine wpAny_bind ?_;simp only[newExc,newTuple]
 refine wpAny_bind (wpAny_newObj_type ?_ (by size_fits));refine wpAny_bind (m:=firstArgMember _ _) (wpAny_of_eq (a:=Value.none) (by first|rfl|(simp only[firstArgMember];rfl)) ?_);refine wpAny_newObj_type ?_ (by size_fits)
 have q':∀o1 o2:Obj,dw A ((s.heap.push o1).push o2):=fun o1 o2=>by
  rcases q with q|⟨e,oe,vs,q,he,r⟩
  ·exact .inl q
  ·exact .inr ⟨e,oe,vs,q,Heap.get?_push_of_some _ (Heap.get?_push_of_some _ he),r⟩
 refine oP (q' _ _) (Heap.get?_push_size _ rfl) rfl (by rw[Array.size_append];exact lt_of_lt_of_le (by decide:2<6) (le_add_right _ _)) (fun e oe hq he z=>?_) fun h' hx ⟨o',ho',hc'⟩=>h h' _ (fun b o hb e=>hx b o ?_ (Heap.get?_push_of_some _ (Heap.get?_push_of_some _ (k b o hb e)))) ⟨o',ho',hc'⟩
 ·rcases q with q|⟨e1,oe1,vs,q,he1,r⟩
  ·rw[q] at hq;cases hq
  ·rw[q] at hq;cases hq
   exact absurd (Heap.lt_size he1) (by rw[z];simp)
 ·exact Nat.ne_of_lt (lt_of_lt_of_le (Heap.lt_size (k b o hb e)) (by simp))
theorem kf{it:Addr}{o:Obj}{ws:Array Value}{f:Array Value->Array Value}(q:dw A s.heap)(ho:s.heap.get? it=some o)(hd:o.data = .fields ws)(hn:∀e,A.handled=some (.ref e)->e≠it):dw A (s.heap.update it (Obj.mapFields f)):=by
 rcases q with q|⟨e,oe,vs,q,he,r⟩
 ·exact .inl q
 ·exact .inr ⟨e,oe,vs,q,by rw[Heap.get?_update_other _ _ (Ne.symm (hn e q))];exact he,r⟩
theorem pN{it l:Addr}{i:Nat}{items}{Q:Option Value->Shared->Prop}(q:dw A s.heap)(hn:∀e,A.handled=some (.ref e)->e≠it)(hit:s.heap.IsListIter it l i)(hl:s.heap.IsList l items)(hx:items[i]? = none)
  (hQ:∀h',Heap.ExtBut it s.heap h'->Q none {s with heap:=h'}):wpAny (model prog w) A (pyNext (.ref it)) Q E s:=by
 obtain⟨o,ho,hc,hd⟩:=id hit
 obtain⟨ol,hol,_,nl,hdl⟩:=hl;unfold pyNext
 refine wpAny_bind (wpAny_attempt (wpAny_callSpecial?_slot (name:=Str.ofString "__next__") hit.typeIs slot_listiter_next (wpAny_call_entry slot_listiter_next hit.typeIs entry_listiter_next ?_ (args_listiter_next _))))
 show wpAny _ _ (field (.ref it) 0>>=_) _ _ s;refine wpAny_bind (wpAny_field ho hd (x:=.ref l) rfl ?_)
 show wpAny _ _ (if (Value.ref l==Value.none)=true then _ else _) _ _ s;rw[if_neg (show ¬ ((Value.ref l==Value.none)=true) from Bool.false_ne_true)]
 show wpAny _ _ (field (.ref it) 1>>=_) _ _ s;refine wpAny_bind (wpAny_field ho hd (x:=.int i 0) rfl ?_)
 show wpAny _ _ (seqItems? (.ref l)>>=_) _ _ s;refine wpAny_bind (wpAny_seqItems hol hdl ?_);simp only[Int.toNat_natCast,hx]
 refine wpAny_bind (wpAny_rule (wpAny_bind (wpAny_setField ho hd (by simp) ?_)))
 refine oI (it:=it) (h0:=s.heap) (A:=A.in1) (kf (A:=A.in1) q ho hd hn) (Heap.SameBut.update ..).extBut (fun _ _ _ _=>trivial) fun h' a hx' hq0=>?_
 obtain⟨o',ho',hc'⟩:=hq0
 refine wpAny_bind (wpAny_isInstance (T:="StopIteration") (b:=true) ⟨_,ho',hc'⟩ isSubtype_stop ?_);exact wpAny_pure (hQ _ hx')
theorem ky{it t:Addr}{i:Nat}{items}{Q:Option Value->Shared->Prop}(q:dw A s.heap)(hn:∀e,A.handled=some (.ref e)->e≠it)(hit:IsTupIter s.heap it t i)(ht:IsTup s.heap t items)(hx:items[i]? = none)
  (hQ:∀h',Heap.ExtBut it s.heap h'->Q none {s with heap:=h'}):wpAny (model prog w) A (pyNext (.ref it)) Q E s:=by
 obtain⟨o,ho,hc,hd⟩:=id hit
 obtain⟨ol,hol,_,nl,hdl⟩:=ht;unfold pyNext
 refine wpAny_bind (wpAny_attempt (wpAny_callSpecial?_slot (name:=Str.ofString "__next__") hit.typeIs slot_tupleiter_next (wpAny_call_entry slot_tupleiter_next hit.typeIs entry_tupleiter_next ?_ (args_tupleiter_next _))))
 show wpAny _ _ (field (.ref it) 0>>=_) _ _ s;refine wpAny_bind (wpAny_field ho hd (x:=.ref t) rfl ?_)
 show wpAny _ _ (if (Value.ref t==Value.none)=true then _ else _) _ _ s;rw[if_neg (show ¬ ((Value.ref t==Value.none)=true) from Bool.false_ne_true)]
 show wpAny _ _ (field (.ref it) 1>>=_) _ _ s;refine wpAny_bind (wpAny_field ho hd (x:=.int i 0) rfl ?_)
 show wpAny _ _ (seqItems? (.ref t)>>=_) _ _ s;refine wpAny_bind (wpAny_seqItems hol hdl ?_);simp only[Int.toNat_natCast,hx]
 refine wpAny_bind (wpAny_rule (wpAny_bind (wpAny_setField ho hd (by simp) ?_)))
 refine oI (it:=it) (h0:=s.heap) (A:=A.in1) (kf (A:=A.in1) q ho hd hn) (Heap.SameBut.update ..).extBut (fun _ _ _ _=>trivial) fun h' a hx' hq0=>?_
 obtain⟨o',ho',hc'⟩:=hq0
 refine wpAny_bind (wpAny_isInstance (T:="StopIteration") (b:=true) ⟨_,ho',hc'⟩ isSubtype_stop ?_);exact wpAny_pure (hQ _ hx')
theorem qj{env:Env}{elts:List Expr}{x1}{pos:Pos}{t:Addr}{items:Array Value}{Q:Unit->Shared->Prop}(q:dw A s.heap)(ht:IsTup s.heap t items)(hn:(assignEach elts env).length=items.size)
  (hstar:(assignEach elts env).findIdx? (·.1)=none) (h:∀h',Heap.ExtBut s.heap.objs.size s.heap h'->wpAny (model prog w) A (assignInOrder ((assignEach elts env).map (·.2)) items.toList) Q E {s with heap:=h'}) :
  wpAny (model prog w) A (assign (.Tuple elts x1 pos) env (.ref t)) Q E s:=by
 rw[assign_Tuple]
 refine wpAny_bind (wpAny_standAt ?_)
 unfold unpack;rw[hn,hstar]
 refine wpAny_bind (wpAny_holding ?_)
 have hlt:t≠s.heap.objs.size:=by obtain⟨o,ho,_⟩:=ht;exact Nat.ne_of_lt (Heap.lt_size ho)
 unfold unpackItems;refine wpAny_bind ?_
 unfold notIterableAtAll;refine wpAny_bind (wpAny_specialOf ht.typeIs slot_tuple_iter.lookup ?_);refine wpAny_pure ?_;simp only[false_eq_true,if_false]
 refine wpAny_bind (wpAny_holding (iter_tuple ht ?_))
 refine wpAny_bind (wpAny_holding (draw_tuple hlt items.size 0 _ _ ⟨_,Heap.get?_push_size _ rfl,rfl,rfl⟩ (ht.push _) ∅ fun j' pd no=>?_))
 rw[show List.take items.size (List.drop 0 items.toList)=items.toList from by rw[List.drop_zero];exact List.take_of_length_le (by simp),if_neg (by simp)]
 have fr:∀e,A.handled=some (.ref e)->e≠s.heap.objs.size:=fun e hq=>by
  rcases q with q|⟨e1,oe1,vs,q,he1,r⟩
  ·rw[q] at hq;cases hq
  ·rw[q] at hq;cases hq;exact Nat.ne_of_lt (Heap.lt_size he1)
 have q1:dw A j':=by
  rcases q with q|⟨e,oe,vs,q,he,r⟩
  ·exact .inl q
  ·exact .inr ⟨e,oe,vs,q,no.extBut e oe (fr e q) (Heap.get?_push_of_some _ he),r⟩
 refine wpAny_bind (wpAny_holding (ky q1 fr pd ((ht.push _).extBut no.extBut hlt) (by simp) fun u8 tj=>?_));simp only[Option.isSome_none,false_eq_true,if_false]
 exact wpAny_pure (h u8 fun b o hb e=>tj b o hb (no.extBut b o hb (Heap.get?_push_of_some _ e)))
end
end L2
namespace L2
open PySem PySem.Spec PyProof.Rows
noncomputable abbrev Key:=Sum Int Str
noncomputable def EE:Key->Value->Bool
 |.inl k,v=>Value.isInt k v
 |.inr x,v=>Value.isStrOf x v
noncomputable def K7(w:World):Key->Int
 |.inl k=>hashInt k
 |.inr x=>hashStr w x
theorem bq:∀{k:Key} {v:Value},EE k v=true->(∃i t,k=Sum.inl i/\v=Value.int i t)\/(∃x t,k=Sum.inr x/\v=Value.str x t)
 |.inl i,v,h=>by
  obtain⟨t,e⟩:=Value.isInt_shape (k:=i) (v:=v) h
  exact .inl ⟨i,t,rfl,e⟩
 |.inr x,v,h=>by
  obtain⟨t,e⟩:=Value.isStrOf_shape (x:=x) (v:=v) h
  exact .inr ⟨x,t,rfl,e⟩
theorem Fl(a b:Int):decide ((Sum.inl a:Key)=Sum.inl b)=(a==b):=by
 by_cases e:a=b
 ·subst e;simp
 ·have h:¬ (Sum.inl a:Key)=Sum.inl b:=fun q=>e (Sum.inl.inj q)
  rw[decide_eq_false h]
  exact (beq_eq_false_iff_ne.mpr e).symm
theorem Iy(a b:Str):decide ((Sum.inr a:Key)=Sum.inr b)=decide (a=b):=by
 by_cases e:a=b
 ·subst e;simp
 ·have h:¬ (Sum.inr a:Key)=Sum.inr b:=fun q=>e (Sum.inr.inj q)
  rw[decide_eq_false h,decide_eq_false e]
theorem HB(a:Int)(b:Str):decide ((Sum.inl a:Key)=Sum.inr b)=false:=decide_eq_false (fun q=>nomatch q)
theorem Gh(a:Str)(b:Int):decide ((Sum.inr a:Key)=Sum.inl b)=false:=decide_eq_false (fun q=>nomatch q)
noncomputable def sE(prog:Program)(w:World):PySem.KeyKind prog w Key where
 is:=EE
 hash:=K7 w
 inj:=fun v a b ha hb=>by
  rcases bq ha with ⟨i,t,rfl,rfl⟩|⟨x,t,rfl,rfl⟩
  ·rcases bq hb with ⟨j,u,rfl,e⟩|⟨y,u,rfl,e⟩
   ·injection e with e1 _;rw[e1]
   ·exact nomatch e
  ·rcases bq hb with ⟨j,u,rfl,e⟩|⟨y,u,rfl,e⟩
   ·exact nomatch e
   ·injection e with e1 _;rw[e1]
 byValue:=fun k v h=>by
  rcases bq h with ⟨i,t,rfl,rfl⟩|⟨x,t,rfl,rfl⟩<;>rfl
 pyHash:=fun hv h=>by
  rcases bq hv with ⟨i,t,rfl,rfl⟩|⟨x,t,rfl,rfl⟩
  ·exact wpAny_pyHash_int h
  ·exact wpAny_pyHash_str h
 eqBool:=fun hu hv h=>by
  rcases bq hu with ⟨i,t,rfl,rfl⟩|⟨x,t,rfl,rfl⟩
  ·rcases bq hv with ⟨j,u,rfl,rfl⟩|⟨y,u,rfl,rfl⟩
   ·rw[Fl] at h;exact wpAny_eqBool_int h
   ·rw[HB] at h;exact SeqAt.EqAt.int_str i t y u _ _ _ _ h
  ·rcases bq hv with ⟨j,u,rfl,rfl⟩|⟨y,u,rfl,rfl⟩
   ·rw[Gh] at h;exact SeqAt.EqAt.str_int x t j u _ _ _ _ h
   ·rw[Iy] at h;exact wpAny_eqBool_str h
 «strs»:=fun k x t v h=>by
  rcases bq h with ⟨i,u,rfl,e⟩|⟨y,u,rfl,e⟩
  ·exact nomatch e
  ·injection e with e1 _
   subst e1
   cases v<;>rfl
end L2
namespace L2
open PySem PySem.Spec PyProof.Rows
inductive V where
 |non|bl (b:Bool)|int (i:Int)|str (x:Str)|byt (b:Array UInt8)|flt (b:UInt64)|ref (a:Addr)|ty (n:String)
 deriving DecidableEq
noncomputable def RelV:V->Value->Prop
 |.non,u=>u=Value.none
 |.bl b,u=>u=Value.bool b
 |.int i,u=>∃t,u=Value.int i t
 |.str x,u=>∃t,u=Value.str x t
 |.byt b,u=>∃t,u=Value.bytes b t
 |.flt b,u=>∃t,u=Value.float b t
 |.ref a,u=>u=Value.ref a
 |.ty n,u=>u=Value.type n
noncomputable abbrev Vals:List V->List Value->Prop:=Paired RelV
theorem Vals.length{xs:List V}{us:List Value}(r:Vals xs us):xs.length=us.length:=Paired.length r
theorem Vals.get:∀{xs:List V} {us:List Value} {i:Nat} {x:V},Vals xs us->xs[i]? = some x->∃u,us[i]? = some u/\RelV x u
 |_,_,_,_,.nil,e=>by simp at e
 |_,_,0,_,.cons r _,e=>by simp at e;subst e;exact⟨_,rfl,r⟩
 |_,_,i+1,x,.cons _ t,e=>by
  obtain⟨u,h1,h2⟩:=Vals.get (i:=i) (x:=x) t (by simpa using e)
  exact⟨u,by simpa using h1,h2⟩
theorem Vals.set{x:V}{u:Value}(r:RelV x u):∀{xs:List V} {us:List Value} (i:Nat),Vals xs us->Vals (xs.set i x) (us.set i u)
 |_,_,_,.nil=>.nil
 |_,_,0,.cons _ t=>.cons r t
 |_,_,i+1,.cons q t=>.cons q (Vals.set r i t)
theorem Vals.append:∀{xs ys:List V} {us ws:List Value},Vals xs us->Vals ys ws->Vals (xs++ys) (us++ws)
 |_,_,_,_,.nil,s=>s
 |_,_,_,_,.cons r t,s=>.cons r (Vals.append t s)
theorem Vals.take:∀{xs:List V} {us:List Value} (n:Nat),Vals xs us->Vals (xs.take n) (us.take n)
 |_,_,0,_=>.nil
 |_,_,_+1,.nil=>.nil
 |_,_,n+1,.cons r t=>.cons r (Vals.take n t)
theorem Vals.drop:∀{xs:List V} {us:List Value} (n:Nat),Vals xs us->Vals (xs.drop n) (us.drop n)
 |_,_,0,r=>r
 |_,_,_+1,.nil=>.nil
 |_,_,n+1,.cons _ t=>Vals.drop n t
noncomputable def JP:Option V->Option Value->Prop
 |some v,some u=>RelV v u
 |none,none=>True
 |_,_=>False
noncomputable def KV{κ:Type}:List (κ×V)->List (κ×Value)->Prop:=Paired fun (p:κ×V) (q:κ×Value)=>p.1=q.1/\RelV p.2 q.2
noncomputable def kV:Key->V
 |.inl i=>.int i
 |.inr x=>.str x
inductive HO where
  /-- a list -/
 |lst (xs:List V)
  /-- a tuple (never changes) -/
 |tup (xs:List V)
  /-- a dict whose keys are ints and texts; one whose keys are tuples of ints and texts (the empty one is both) -/
 |dK (kvs:List (Key×V))|dT (kvs:List (List Key×V))
  /-- a set of ints: its members, its size -/
 |set (S:Int->Bool) (n:Nat)
  /-- an instance of the class at C, its dict at dx, its attributes -/
 |ins (C dx:Addr) (fs:List (Str×V))
  /-- the dict of the instance at x -/
 |own (x:Addr)
  /-- the dict of an exception -/
 |xd (fs:List (Str×V))
  /-- a bound method, f of x -/
 |met (f x:Addr)
  /-- a range object lo, lo + 1, .. below hi -/
 |rng (lo hi:Int)
  /-- a thing that is known to the object (the script; a dict while a loop walks it): read, never written while it is so -/
 |frz (o:Obj) (u:HO)
  /-- a code object's table -/
 |tbl (ps:Array Value)
  /-- any other thing, by what is true of its one object (a def of one's own: SetO a S n := HO.ext fun h => ..) -/
 |ext (φ:Heap->Prop)
  /-- the object itself; it may change -/
 |raw (o:Obj)
noncomputable abbrev Hp:=Addr->Option HO
noncomputable def upd(H:Hp)(a:Addr)(o:HO):Hp:=fun b=>if b=a then some o else H b
theorem bj{H:Hp}{a:Addr}{o:HO}:upd H a o a=some o:=by unfold upd;rw[if_pos rfl]
theorem aG{H:Hp}{a b:Addr}{o:HO}(h:b≠a):upd H a o b=H b:=by unfold upd;rw[if_neg h]
theorem av{H:Hp}{a b:Addr}{o:HO}(h:H a=some o)(h':H b=none):a≠b:=by
 intro e;subst e;rw[h] at h';cases h'
section
variable (P:Program)(w:World)
noncomputable def dQ(H:Hp)(h:Heap)(a:Addr):HO->Prop
 |.lst xs=>xs.length<=sizeLine/\∃(its:List Value) (n:Nat),Vals xs its/\h.get? a=some {cls:=.type "list",data:=.seq its.toArray n}
 |.tup xs=>xs.length<=sizeLine/\∃its:List Value,Vals xs its/\IsTup h a its.toArray
 |.dK kvs=>kvs.length<=sizeLine/\(a==sysModules)=false/\∃vs,KV kvs vs/\h.DictOf (sE P w) a vs
 |.dT kvs=>kvs.length<=sizeLine/\(a==sysModules)=false/\∃xs:List (List Key×Addr×Value),
   Paired (fun (p:List Key×V) (q:List Key×Addr×Value)=>p.1=q.1/\H q.2.1=some (.tup (p.1.map kV))/\RelV p.2 q.2.2) kvs xs /\
   ∃o es ep,h.get? a=some o/\o.ExactDict/\o.data = .dict es ep/\es.toList=xs.map (entryOfKey (tupleKind (sE P w)))/\(xs.map (·.1)).Nodup
 |.set S n=>h.SetOf (intKind P w) a S n
 |.ins C dx fs=>H dx=some (.own a)/\fs.length<=1000/\dx≠a/\h.get? a=some (PySem.W.instObj C dx) /\
   ∃mA,h.Ns1 dx mA/\(∀f,JP (fs.lookup f) (mA f))/\PySem.Within mA (fs.map (·.1))
 |.own _=>∃o,h.get? a=some o
 |.xd fs=>∃mA,h.Ns1 a mA/\∀f,JP (fs.lookup f) (mA f)
 |.rng lo hi=>∃t u v,h.get? a=some {cls:=.type "range",data:=.fields #[.int lo t,.int hi u,.int 1 v]}
 |.frz o u=>h.get? a=some o/\dQ H h a u
 |.tbl ps=>h.get? a=some {cls:=.none,data:=.fields ps}
 |.met f x=>h.get? a=some (PySem.W.methodObj (.ref f) (.ref x))
 |.ext φ=>φ h/\(∃o,h.get? a=some o)/\∀h1 h2:Heap,φ h1->(∀o,h1.get? a=some o->h2.get? a=some o)->φ h2
 |.raw o=>h.get? a=some o
noncomputable def HOk(H:Hp)(h:Heap):Prop:=∀a o,H a=some o->dQ P w H h a o
end
section
variable {P:Program}{w:World}{H H':Hp}{h h':Heap}{a:Addr}{o:HO}
theorem dQ.lt(x:dQ P w H h a o):a<h.objs.size:=by
 cases o with
 |lst xs=>obtain⟨_,_,_,_,e⟩:=x;exact Heap.lt_size e
 |tup xs=>obtain⟨_,_,_,p⟩:=x;exact p.lt
 |dK kvs=>obtain⟨_,_,_,_,o,_,_,e,_⟩:=x;exact Heap.lt_size e
 |dT kvs=>obtain⟨_,_,_,_,o,_,_,e,_⟩:=x;exact Heap.lt_size e
 |set S n=>obtain⟨o,_,_,_,e,_⟩:=x;exact Heap.lt_size e
 |ins C dx fs=>obtain⟨_,_,_,e,_⟩:=x;exact Heap.lt_size e
 |own y=>obtain⟨_,e⟩:=x;exact Heap.lt_size e
 |xd fs=>obtain⟨_,⟨_,_,_,e,_⟩,_⟩:=x;exact Heap.lt_size e
 |rng lo hi=>obtain⟨_,_,_,e⟩:=x;exact Heap.lt_size e
 |frz ob u=>obtain⟨e,_⟩:=x;exact Heap.lt_size e
 |tbl ps=>exact Heap.lt_size (show h.get? a=some _ from x)
 |met f y=>exact Heap.lt_size (show h.get? a=some _ from x)
 |ext φ=>obtain⟨_,⟨_,e⟩,_⟩:=x;exact Heap.lt_size e
 |raw ob=>exact Heap.lt_size (show h.get? a=some ob from x)
theorem Paired.Dq{α β:Type}{F G:α->β->Prop}:∀{sB:List α} {l₂:List β},Paired F sB l₂->(∀a b,F a b->G a b)->Paired G sB l₂
 |_,_,.nil,_=>.nil
 |_,_,.cons r t,f=>.cons (f _ _ r) (Paired.Dq t f)
theorem dQ.nc(x:dQ P w H h a o)(k:∀b u,(b=a\/H b=some (.own a))->h.get? b=some u->h'.get? b=some u)
  (ho:∀b,H b=some (.own a)->H' b=some (.own a)) (ht:∀b xs,H b=some (.tup xs)->H' b=some (.tup xs)):dQ P w H' h' a o:=by
 induction o with
 |lst xs=>obtain⟨z,its,n,r,e⟩:=x;exact⟨z,its,n,r,k _ _ (.inl rfl) e⟩
 |tup xs=>obtain⟨z,its,r,ob,e,c⟩:=x;exact⟨z,its,r,ob,k _ _ (.inl rfl) e,c⟩
 |dK kvs=>obtain⟨z,y,vs,r,ob,es,ep,e,c⟩:=x;exact⟨z,y,vs,r,ob,es,ep,k _ _ (.inl rfl) e,c⟩
 |dT kvs=>
  obtain⟨z,y,xs,r,ob,es,ep,e,c⟩:=x
  exact⟨z,y,xs,Paired.Dq r fun p q z=>⟨z.1,ht _ _ z.2.1,z.2.2⟩,ob,es,ep,k _ _ (.inl rfl) e,c⟩
 |set S n=>obtain⟨ob,es,ep,t,e,c⟩:=x;exact⟨ob,es,ep,t,k _ _ (.inl rfl) e,c⟩
 |ins C dx fs=>
  obtain⟨d,z,ne,e,mA,⟨od,es,ep,e2,c⟩,r⟩:=x
  exact⟨ho _ d,z,ne,k _ _ (.inl rfl) e,mA,⟨od,es,ep,k _ _ (.inr d) e2,c⟩,r⟩
 |own y=>obtain⟨ob,e⟩:=x;exact⟨ob,k _ _ (.inl rfl) e⟩
 |xd fs=>obtain⟨mA,⟨od,es,ep,e,c⟩,r⟩:=x;exact⟨mA,⟨od,es,ep,k _ _ (.inl rfl) e,c⟩,r⟩
 |rng lo hi=>obtain⟨t,u,v,e⟩:=x;exact⟨t,u,v,k _ _ (.inl rfl) e⟩
 |frz ob u ih=>obtain⟨e,q⟩:=x;exact⟨k _ _ (.inl rfl) e,ih q⟩
 |tbl ps=>
  have e:h.get? a=some {cls:=.none,data:=.fields ps}:=x
  show h'.get? a=some {cls:=.none,data:=.fields ps}
  exact k a _ (.inl rfl) e
 |met f y=>
  have e:h.get? a=some (PySem.W.methodObj (.ref f) (.ref y)):=x
  show h'.get? a=some (PySem.W.methodObj (.ref f) (.ref y))
  exact k a _ (.inl rfl) e
 |raw ob=>
  have e:h.get? a=some ob:=x
  show h'.get? a=some ob
  exact k a _ (.inl rfl) e
 |ext φ=>obtain⟨p,⟨o,e⟩,st⟩:=x;exact⟨st _ _ p fun o q=>k _ _ (.inl rfl) q,⟨o,k _ _ (.inl rfl) e⟩,st⟩
theorem HOk.lt(x:HOk P w H h)(e:H a=some o):a<h.objs.size:=(x a o e).lt
theorem HOk.fresh(x:HOk P w H h)(e:h.objs.size<=a):H a=none:=by
 cases q:H a with
 |none=>rfl
 |some u=>exact absurd (lt_of_lt_of_le (x.lt q) e) (lt_irrefl _)
theorem HOk.kept(x:HOk P w H h)(k:∀b u,h.get? b=some u->h'.get? b=some u):HOk P w H h':=fun a o e=>
 (x a o e).nc (fun b u _ q=>k b u q) (fun _ q=>q) fun _ _ q=>q
theorem HOk.laid(x:HOk P w H h)(k:∀b u,h.get? b=some u->h'.get? b=some u)(hp:h.objs.size<=a)(new:dQ P w (upd H a o) h' a o):HOk P w (upd H a o) h':=fun b u e=>by
 have hn:=x.fresh hp
 by_cases hb:b=a
 ·subst hb;rw[bj] at e;cases e;exact new
 ·rw[aG hb] at e
  exact (x b u e).nc (fun c v _ q=>k c v q) (fun c q=>by rw[aG (av q hn)];exact q) fun c xs q=>by rw[aG (av q hn)];exact q
end
noncomputable def Rd(H:Hp)(a:Addr)(u:HO):Prop:=H a=some u\/∃o,H a=some (.frz o u)
theorem Rd.ok{P:Program}{w:World}{H:Hp}{h:Heap}{a:Addr}{u:HO}(r:Rd H a u)(x:HOk P w H h):dQ P w H h a u:=by
 rcases r with r|⟨o,r⟩
 ·exact x a u r
 ·obtain⟨_,q⟩:=x a _ r
  exact q
noncomputable def Mut:Option HO->Prop
 |some (.lst _)=>True
 |some (.dK _)=>True
 |some (.dT _)=>True
 |some (.set _ _)=>True
 |some (.ins _ _ _)=>True
 |some (.ext _)=>True
 |some (.raw _)=>True
 |_=>False
section
variable {P:Program}{w:World}{H:Hp}{h h':Heap}{x e:Addr}{o':HO}
theorem HOk.write(ok:HOk P w H h)(mu:Mut (H x))(he:e=x\/H e=some (.own x))(k:∀b u,b≠e->h.get? b=some u->h'.get? b=some u)(heo:∃u,h'.get? e=some u)
  (new:dQ P w (upd H x o') h' x o'):HOk P w (upd H x o') h':=fun b u q=>by
 have nown:∀c y,H c=some (.own y)->c≠x:=fun c y r z=>by subst z;rw[r] at mu;exact mu
 have ntup:∀c xs,H c=some (.tup xs)->c≠x:=fun c xs r z=>by subst z;rw[r] at mu;exact mu
 by_cases hb:b=x
 ·subst hb;rw[bj] at q;cases q;exact new
 ·rw[aG hb] at q
  by_cases hbe:b=e
  ·have q':H b=some (.own x):=by
    rcases he with z|z
    ·exact absurd (hbe.trans z) hb
    ·rw[hbe];exact z
   rw[q] at q';cases q'
   obtain⟨v,hv⟩:=heo
   exact⟨v,by rw[hbe];exact hv⟩
  ·refine (ok b u q).nc (fun c v hc r=>k c v ?_ r) (fun c r=>by rw[aG (nown c b r)];exact r) fun c xs r=>by rw[aG (ntup c xs r)];exact r
   rcases hc with rfl|hc
   ·exact hbe
   ·rintro rfl
    rcases he with z|z
    ·exact nown c b hc z
    ·rw[hc] at z;cases z;exact hb rfl
end
structure Un(fs ex:List Addr)(H H':Hp)(h h':Heap):Prop where
 keep:∀b o,h.get? b=some o->H b=none->b ∉ fs->b ∉ ex->h'.get? b=some o
 slot:∀b o,h.get? b=some o->H b=none->b∈fs->b ∉ ex->∃sl,h'.get? b=some {o with slots:=sl}
 free:∀b o,h.get? b=some o->H b=none->b ∉ ex->H' b=none
 there:∀b o,h.get? b=some o->b ∉ ex->∃o',h'.get? b=some o'
 jL:∀b xs,H b=some (.tup xs)->H' b=some (.tup xs)
 js:∀b o u,H b=some (.frz o u)->H' b=some (.frz o u)
 jv:∀b ps,H b=some (.tbl ps)->∃more,H' b=some (.tbl (ps++more))
section
variable {fs fs' ex ex':List Addr}{H H1 H2:Hp}{h h1 h2 h':Heap}{a x e:Addr}{o:HO}
theorem Un.any(u:Un fs ex H H1 h h1){b:Addr}{ob:Obj}(q:h.get? b=some ob)(n:H b=none)(hx:b ∉ ex):∃sl,h1.get? b=some {ob with slots:=sl}:=by
 by_cases hb:b∈fs
 ·exact u.slot b ob q n hb hx
 ·exact⟨ob.slots,u.keep b ob q n hb hx⟩
theorem Un.trans(a:Un fs ex H H1 h h1)(b:Un fs ex H1 H2 h1 h2):Un fs ex H H2 h h2 where
 keep:=fun c ob q n hc hx=>b.keep c ob (a.keep c ob q n hc hx) (a.free c ob q n hx) hc hx
 slot:=fun c ob q n hc hx=>by
  obtain⟨sl,e1⟩:=a.slot c ob q n hc hx
  obtain⟨sl',e2⟩:=b.slot c _ e1 (a.free c ob q n hx) hc hx
  exact⟨sl',e2⟩
 free:=fun c ob q n hx=>by
  obtain⟨o',e1⟩:=a.there c ob q hx
  exact b.free c o' e1 (a.free c ob q n hx) hx
 there:=fun c ob q hx=>by
  obtain⟨o',e1⟩:=a.there c ob q hx
  exact b.there c o' e1 hx
 jL:=fun c xs q=>b.jL c xs (a.jL c xs q)
 js:=fun c ob xs q=>b.js c ob xs (a.js c ob xs q)
 jv:=fun c ps q=>by
  obtain⟨m1,e1⟩:=a.jv c ps q
  obtain⟨m2,e2⟩:=b.jv c _ e1
  exact⟨m1++m2,by rw[e2,Array.append_assoc]⟩
theorem Un.kept(k:∀b u,h.get? b=some u->h'.get? b=some u):Un fs ex H H h h':=
 ⟨fun b ob q _ _ _=>k b ob q,fun b ob q _ _ _=>⟨ob.slots,k b ob q⟩,fun _ _ _ n _=>n,fun b ob q _=>⟨ob,k b ob q⟩,fun _ _ q=>q,fun _ _ _ q=>q,fun _ ps q=>⟨#[],by rw[q];simp⟩⟩
theorem Un.refl:Un fs ex H H h h:=Un.kept fun _ _ q=>q
theorem Un.laid(k:∀b u,h.get? b=some u->h'.get? b=some u)(hp:h.objs.size<=a)(hn:H a=none):Un fs ex H (upd H a o) h h' where
 keep:=fun b u q _ _ _=>k b u q
 slot:=fun b u q _ _ _=>⟨u.slots,k b u q⟩
 free:=fun b u q n _=>by rw[aG (Nat.ne_of_lt (lt_of_lt_of_le (Heap.lt_size q) hp))];exact n
 there:=fun b u q _=>⟨u,k b u q⟩
 jL:=fun b xs q=>by rw[aG (av q hn)];exact q
 js:=fun b u xs q=>by rw[aG (av q hn)];exact q
 jv:=fun b ps q=>⟨#[],by rw[aG (av q hn),q];simp⟩
theorem Un.write(mu:Mut (H x))(he:e=x\/H e=some (.own x))(k:∀b u,b≠e->h.get? b=some u->h'.get? b=some u)(heo:∃u,h'.get? e=some u):Un fs ex H (upd H x o) h h':=by
 have hx:∀b,H b=none->b≠x:=fun b n z=>by subst z;rw[n] at mu;exact mu
 have hb:∀b,H b=none->b≠e:=fun b n z=>by
  subst z
  rcases he with r|r
  ·exact hx b n r
  ·rw[n] at r;cases r
 have hm:∀b u,H b=some u->¬ Mut (some u)->b≠x:=fun b u q nm z=>by subst z;rw[q] at mu;exact nm mu
 refine⟨fun b u q n _ _=>k b u (hb b n) q,fun b u q n _ _=>⟨u.slots,k b u (hb b n) q⟩,fun b u q n _=>by rw[aG (hx b n)];exact n,fun b u q _=>?_,
  fun b xs q=>by rw[aG (hm b _ q fun z=>z)];exact q,fun b u xs q=>by rw[aG (hm b _ q fun z=>z)];exact q,fun b ps q=>⟨#[],by rw[aG (hm b _ q fun z=>z),q];simp⟩⟩
 by_cases hbe:b=e
 ·subst hbe;exact heo
 ·exact⟨u,k b u hbe q⟩
end
noncomputable def trk(h:Heap)(H:Hp):List Addr:=(List.range h.objs.size).filter fun a=>(H a).isSome
noncomputable def pZ(h:Heap)(H:Hp):Heap:=PySem.W.hideAll h (trk h H)
theorem yy(h:Heap)(H:Hp):(pZ h H).objs.size=h.objs.size:=PySem.W.hideAll_size _ _
theorem Av{h:Heap}{H:Hp}{b:Addr}{o:Obj}(e:h.get? b=some o)(n:H b=none):(pZ h H).get? b=some o:=
 PySem.W.hideAll_get _ e fun hm=>by
  have q:(H b).isSome=true:=(List.mem_filter.mp hm).2
  rw[n] at q;simp at q
theorem CC{h:Heap}{H:Hp}{b:Addr}{o:Obj}(e:(pZ h H).get? b=some o):h.get? b=some o/\H b=none:=by
 have e':h.get? b=some o:=PySem.W.of_hideAll (trk h H) e
 refine⟨e',?_⟩
 cases q:H b with
 |none=>rfl
 |some x=>
  have hm:b∈trk h H:=List.mem_filter.mpr ⟨List.mem_range.mpr (Heap.lt_size e'),by simp[q]⟩
  have z:(pZ h H).get? b=none:=PySem.W.hideAll_none (trk h H) hm
  rw[z] at e;cases e
noncomputable def Dr(g h:Heap)(L:Addr):List (Addr×Obj):=(List.range h.objs.size).filterMap fun a=>if a=L\/(g.get? a).isSome=true then none else (h.get? a).map fun o=>(a,o)
noncomputable def rest(g h:Heap)(L d:Addr):List (Addr×Obj):=(Dr g h L).filter fun p=>decide (p.1≠d)
end L2
namespace L2
open PySem PySem.Spec PyProof.Rows
structure Mod(K:PySem.W.Frag)(mg:Str->Option Value)(base:Heap):Prop where
 kin:K.In base
 glob:base.Ns mainGlobals mg
 blt:∃mb,base.Ns builtinsNs mb/\∀x:Str,x ≠ "__name__"->mb x=bootBuiltins x
 nolimit:base.NoLimit
structure Cx where
 prog:Program
 w:World
 K:PySem.W.Frag
 mg:Str->Option Value
 base:Heap
 A:Around
 N:List Str
 db:Shared
 H₀:Hp
 env:Env
 outer:List Env
 stack:List Env
 ex:List Addr
 fn:Str->Bool
 calm:Bool
 pn:List (Addr×Obj)
 xe:Value->Shared->Prop
noncomputable def frs(l:List Env):List Addr:=l.filterMap (·.frame)
noncomputable abbrev Cx.fs(X:Cx):List Addr:=frs X.outer
noncomputable def Vis(sc:Scope)(x:Str):Prop:=sc.names.lookup x=some .local\/sc.names.lookup x=some .cell\/sc.names.lookup x=some .free
noncomputable def Loc(sc:Scope)(x:Str):Prop:=sc.names.lookup x=some .local\/sc.names.lookup x=some .cell
noncomputable def Look(env:Env)(h:Heap)(m:Str->Option Value)(x:Str)(u:Value):Prop:=
 (env.kindOf x=some .local/\m x=some u)\/((env.kindOf x=some .cell\/env.kindOf x=some .free)/\∃c,env.cells.lookup x=some c/\h.IsCell c (some u))
structure Cx.Ok(X:Cx):Prop where
 mod:Mod X.K X.mg X.base
 kind:X.env.scope.kind = .function
 glob:X.env.globals=mainGlobals
 blt:X.env.builtins=builtinsNs
 above:X.db.heap.objs.size<=X.env.locals
 inj:∀x y c,X.env.cells.lookup x=some c->X.env.cells.lookup y=some c->x=y
 has:∀x,(X.env.kindOf x=some .cell\/X.env.kindOf x=some .free)->∃c,X.env.cells.lookup x=some c
 cab:∀x c,X.fn x=true->X.env.cells.lookup x=some c->X.db.heap.objs.size<=c
 hd:X.calm=true->X.A.handled=none
 qt:X.A.handled=none\/∃(e:Addr) (oe:Obj) (vs:Array Value),X.A.handled=some (.ref e)/\(e,oe)∈X.pn/\oe.data = .fields vs/\vs[2]? = some .none
 frames:X.A.frames=some X.stack
 stk:X.stack=X.outer\/(X.stack=X.env::X.outer/\X.env.frame=some X.env.locals)
 exf:∀b∈X.ex,b≠X.env.locals/\∀x c,X.env.cells.lookup x=some c->c≠b
 bs:∀b o,X.base.get? b=some o->X.db.heap.get? b=some o/\X.H₀ b=none
 bsz:X.base.objs.size<=X.db.heap.objs.size
 y4:∀b o,X.base.get? b=some o->b ∉ X.ex
 A0:∀b∈X.ex,b ∉ X.fs
 jT:X.db.heap.FunFrames X.base X.outer
 frf:∀b∈X.fs,X.H₀ b=none
structure Inv(X:Cx)(pins:List (Addr×Obj))(Z:List (Option V))(H:Hp)(s:Shared):Prop where
 ok:X.Ok
 os:s.os=X.db.os
 bare:AllBare s.gens
 base:Un X.fs X.ex X.H₀ H X.db.heap s.heap
 loc:∃m,s.heap.Ns X.env.locals m/\∀(i:Nat) (x:Str) (v:V),X.N[i]? = some x->Z[i]? = some (some v)->Vis X.env.scope x->∃u,RelV v u/\Look X.env s.heap m x u
 cell:∀x c,X.env.cells.lookup x=some c->∃v,s.heap.IsCell c v
 free:H X.env.locals=none
 eQ:∀x c,X.env.cells.lookup x=some c->H c=none
 pin:∀p∈X.pn++pins,s.heap.get? p.1=some p.2/\H p.1=none/\p.1≠X.env.locals/\p.1 ∉ X.fs/\∀v,p.2.data≠.cell v
 hok:HOk X.prog X.w H s.heap
 len:Z.length=X.N.length
section
variable {X:Cx}{pins:List (Addr×Obj)}{Z:List (Option V)}{H H':Hp}{s:Shared}{h':Heap}
theorem Inv.wJ(I:Inv X pins Z H s):dw X.A s.heap:=by
 rcases I.ok.qt with q|⟨e,oe,vs,q,hp,r⟩
 ·exact .inl q
 ·exact .inr ⟨e,oe,vs,q,(I.pin (e,oe) (mem_append_left _ hp)).1,r⟩
theorem Inv.hne(I:Inv X pins Z H s){b:Addr}(hb:∀p∈X.pn++pins,p.1≠b):∀e,X.A.handled=some (.ref e)->e≠b:=fun e he=>by
 rcases I.ok.qt with q|⟨e1,oe,vs,q,hp,r⟩
 ·rw[q] at he;cases he
 ·rw[q] at he;cases he;exact hb (e,oe) (mem_append_left _ hp)
theorem Cx.Ok.LS(ok:X.Ok){b:Addr}{o:Obj}(e:X.base.get? b=some o):b ∉ X.fs:=fun hb=>by
 have:=(ok.jT.mem hb).1
 rw[e] at this;cases this
theorem Inv.bs(I:Inv X pins Z H s):∀b o,X.base.get? b=some o->s.heap.get? b=some o/\H b=none:=fun b o e=>
 ⟨I.base.keep b o (I.ok.bs b o e).1 (I.ok.bs b o e).2 (I.ok.LS e) (I.ok.y4 b o e),I.base.free b o (I.ok.bs b o e).1 (I.ok.bs b o e).2 (I.ok.y4 b o e)⟩
theorem Inv.bk(I:Inv X pins Z H s):∀b o,X.base.get? b=some o->s.heap.get? b=some o:=fun b o e=>(I.bs b o e).1
theorem Inv.mod(I:Inv X pins Z H s):Mod X.K X.mg X.base:=I.ok.mod
theorem Inv.kIn(I:Inv X pins Z H s):X.K.In s.heap:=I.ok.mod.kin.keeps I.bk
theorem Inv.nolimit(I:Inv X pins Z H s):s.heap.NoLimit:=I.ok.mod.nolimit.keeps I.bk
theorem Inv.lt(I:Inv X pins Z H s):X.env.locals<s.heap.objs.size:=let ⟨_,hn,_⟩:=I.loc;hn.lt
theorem Inv.sz(I:Inv X pins Z H s):X.db.heap.objs.size<=s.heap.objs.size:=le_trans I.ok.above (Nat.le_of_lt I.lt)
theorem Inv.LB(I:Inv X pins Z H s){a:Addr}(h:s.heap.objs.size<=a):a ∉ X.fs:=fun hb=>by
 obtain⟨_,o,ho,_⟩:=I.ok.jT.mem hb
 exact absurd (lt_of_lt_of_le (Heap.lt_size ho) (le_trans I.sz h)) (lt_irrefl _)
theorem Inv.cne(I:Inv X pins Z H s):∀x c,X.env.cells.lookup x=some c->c≠X.env.locals:=fun x c e z=>by
 obtain⟨v,o,ho,hd⟩:=I.cell x c e
 obtain⟨m,⟨o',es,ep,ho',hd',_⟩,_⟩:=I.loc
 rw[z,ho'] at ho;cases ho;rw[hd'] at hd;cases hd
theorem Inv.jT(I:Inv X pins Z H s):s.heap.FunFrames X.base X.outer:=by
 have all:∀(l:List Env),(∀b∈frs l,b∈X.fs)->X.db.heap.FunFrames X.base l->s.heap.FunFrames X.base l:=by
  intro l
  induction l with
  |nil=>intro _ _;trivial
  |cons env r ih=>
   intro hs hl
   obtain⟨hk,⟨L,o,hf,hn,ho,hd⟩,hr⟩:=hl
   have hL:L∈X.fs:=hs L (by unfold frs;rw[filterMap_cons,hf];exact mem_cons_self)
   obtain⟨sl,e⟩:=I.base.slot L o ho (I.ok.frf L hL) hL fun z=>I.ok.A0 L z hL
   exact⟨hk,⟨L,_,hf,hn,e,hd⟩,ih (fun b hb=>hs b (by unfold frs;rw[filterMap_cons,hf];exact mem_cons_of_mem _ hb)) hr⟩
 exact all X.outer (fun _ hb=>hb) I.ok.jT
theorem Inv.stack(I:Inv X pins Z H s):s.heap.FunFrames X.base X.stack:=by
 rcases I.ok.stk with e|⟨e,hf⟩
 ·rw[e];exact I.jT
 ·rw[e]
  obtain⟨m,hn,_⟩:=I.loc
  refine .cons (by rw[I.ok.kind];decide) hf hn ?_ I.jT
  exact Heap.get?_none_of_le (le_trans I.ok.bsz I.ok.above)
theorem Inv.rN(I:Inv X pins Z H s):∀b∈frs X.stack,b∈X.env.locals::X.fs:=fun b hb=>by
 rcases I.ok.stk with e|⟨e,hf⟩
 ·rw[e] at hb;exact mem_cons_of_mem _ hb
 ·rw[e] at hb
  unfold frs at hb
  rw[filterMap_cons,hf] at hb
  exact hb
theorem Inv.sG(I:Inv X pins Z H s):∀b∈frs X.stack,H b=none:=fun b hb=>by
 rcases List.mem_cons.mp (I.rN b hb) with e|hb
 ·rw[e];exact I.free
 ·obtain⟨_,o,ho,_⟩:=I.ok.jT.mem hb
  exact I.base.free b o ho (I.ok.frf b hb) fun z=>I.ok.A0 b z hb
theorem Inv.step{g':Array GenState}{t':Nat}{d':Drawn}{ch:List Addr}(I:Inv X pins Z H s)
  (hch:∀b∈ch,(b∈X.ex\/X.db.heap.objs.size<=b)/\b≠X.env.locals/\(∀x c,X.env.cells.lookup x=some c->c≠b)/\∀p∈X.pn++pins,p.1≠b)
  (keep:∀b o,b≠X.env.locals->b ∉ X.fs->b ∉ ch->s.heap.get? b=some o->H b=none->h'.get? b=some o)
  (slot:∀b o,b≠X.env.locals->b∈X.fs->b ∉ ch->s.heap.get? b=some o->H b=none->∃sl,h'.get? b=some {o with slots:=sl}) (free:∀b o,b ∉ ch->s.heap.get? b=some o->H b=none->H' b=none)
  (there:∀b o,b ∉ ch->s.heap.get? b=some o->∃o',h'.get? b=some o')
  (jL:∀b xs,H b=some (.tup xs)->H' b=some (.tup xs)) (js:∀b o u,H b=some (.frz o u)->H' b=some (.frz o u)) (jv:∀b ps,H b=some (.tbl ps)->∃more,H' b=some (.tbl (ps++more)))
  (ns:∀m,s.heap.Ns X.env.locals m->h'.Ns X.env.locals m) (hok:HOk X.prog X.w H' h') (hg:AllBare g') :
  Inv X pins Z H' {s with heap:=h',gens:=g',drawn:=d',toks:=t'}:=by
 have neL:∀b o,X.db.heap.get? b=some o->b≠X.env.locals:=fun b o e=>Nat.ne_of_lt (lt_of_lt_of_le (Heap.lt_size e) I.ok.above)
 have neC:∀b o,X.db.heap.get? b=some o->b ∉ X.ex->b ∉ ch:=fun b o e hx hb=>by
  rcases (hch b hb).1 with z|z
  ·exact hx z
  ·exact absurd (lt_of_lt_of_le (Heap.lt_size e) z) (lt_irrefl _)
 have cellK:∀x c,X.env.cells.lookup x=some c->∀v,s.heap.IsCell c v->h'.IsCell c v:=fun x c e v ⟨o,ho,hd⟩=>by
  have nch:c ∉ ch:=fun z=>(hch c z).2.2.1 x c e rfl
  by_cases hc:c∈X.fs
  ·obtain⟨sl,q⟩:=slot c o (I.cne x c e) hc nch ho (I.eQ x c e)
   exact⟨_,q,hd⟩
  ·exact⟨o,keep c o (I.cne x c e) hc nch ho (I.eQ x c e),hd⟩
 refine⟨I.ok,I.os,hg,⟨fun b o e n hb hx=>?_,fun b o e n hb hx=>?_,fun b o e n hx=>?_,fun b o e hx=>?_,fun b xs e=>jL b xs (I.base.jL b xs e),fun b o xs e=>js b o xs (I.base.js b o xs e),fun b ps e=>?_⟩,?_,fun x c e=>?_,?_,fun x c e=>?_,fun p hp=>?_,hok,I.len⟩
 ·exact keep b o (neL b o e) hb (neC b o e hx) (I.base.keep b o e n hb hx) (I.base.free b o e n hx)
 ·obtain⟨sl,e1⟩:=I.base.slot b o e n hb hx
  obtain⟨sl',e2⟩:=slot b _ (neL b o e) hb (neC b o e hx) e1 (I.base.free b o e n hx)
  exact⟨sl',e2⟩
 ·obtain⟨o',e1⟩:=I.base.there b o e hx
  exact free b o' (neC b o e hx) e1 (I.base.free b o e n hx)
 ·obtain⟨o',e1⟩:=I.base.there b o e hx
  exact there b o' (neC b o e hx) e1
 ·obtain⟨m1,e1⟩:=I.base.jv b ps e
  obtain⟨m2,e2⟩:=jv b _ e1
  exact⟨m1++m2,by rw[e2,Array.append_assoc]⟩
 ·obtain⟨m,hn,hl⟩:=I.loc
  refine⟨m,ns m hn,fun i x v e1 e2 e3=>?_⟩
  obtain⟨u,r,l⟩:=hl i x v e1 e2 e3
  refine⟨u,r,?_⟩
  rcases l with l|⟨k,c,e,z⟩
  ·exact .inl l
  ·exact .inr ⟨k,c,e,cellK x c e _ z⟩
 ·obtain⟨v,z⟩:=I.cell x c e
  exact⟨v,cellK x c e v z⟩
 ·obtain⟨m,⟨o,_,_,ho,_⟩,_⟩:=I.loc
  exact free _ o (fun z=>(hch _ z).2.1 rfl) ho I.free
 ·obtain⟨v,o,ho,hd⟩:=I.cell x c e
  exact free c o (fun z=>(hch c z).2.2.1 x c e rfl) ho (I.eQ x c e)
 ·obtain⟨e,n,ne,nf,d⟩:=I.pin p hp
  have nch:p.1 ∉ ch:=fun z=>(hch p.1 z).2.2.2 p hp rfl
  exact⟨keep p.1 p.2 ne nf nch e n,free p.1 p.2 nch e n,ne,nf,d⟩
theorem Inv.un{t':Nat}(I:Inv X pins Z H s)(u:Un X.fs [] H H' s.heap h')(hok:HOk X.prog X.w H' h'):Inv X pins Z H' {s with heap:=h',toks:=t'}:=by
 obtain⟨m,⟨o,es,ep,ho,r⟩,_⟩:=id I.loc
 obtain⟨sl,hL⟩:=u.any ho I.free (by simp)
 exact I.step (g':=s.gens) (d':=s.drawn) (ch:=[]) (fun _ z=>nomatch z) (fun b o _ hb _ e n=>u.keep b o e n hb (by simp)) (fun b o _ hb _ e n=>u.slot b o e n hb (by simp)) (fun b o _ e n=>u.free b o e n (by simp)) (fun b o _ e=>u.there b o e (by simp)) u.jL u.js u.jv (fun m' hm=>by
  obtain⟨o',es',ep',ho',r'⟩:=hm
  rw[ho] at ho';cases ho'
  exact⟨_,es',ep',hL,r'⟩) hok I.bare
theorem Inv.call{g':Array GenState}{t':Nat}{d':Drawn}{ch:List Addr}(I:Inv X pins Z H s)(u:Un (frs X.stack) ch H H' s.heap h')(hok:HOk X.prog X.w H' h')(hg:AllBare g')
  (hch:∀b∈ch,(b∈X.ex\/X.db.heap.objs.size<=b)/\b≠X.env.locals/\(∀x c,X.env.cells.lookup x=some c->c≠b)/\∀p∈X.pn++pins,p.1≠b) :
  Inv X pins Z H' {s with heap:=h',gens:=g',drawn:=d',toks:=t'}:=by
 obtain⟨m,⟨o,es,ep,ho,r⟩,_⟩:=id I.loc
 obtain⟨sl,hL⟩:=u.any ho I.free fun z=>(hch _ z).2.1 rfl
 exact I.step (ch:=ch) hch (fun b o hL hb hc e n=>u.keep b o e n (fun z=>(List.mem_cons.mp (I.rN b z)).elim hL hb) hc) (fun b o _ _ hc e n=>u.any e n hc) (fun b o hc e n=>u.free b o e n hc) (fun b o hc e=>u.there b o e hc) u.jL u.js u.jv (fun m' hm=>by
  obtain⟨o',es',ep',ho',r'⟩:=hm
  rw[ho] at ho';cases ho'
  exact⟨_,es',ep',hL,r'⟩) hok hg
theorem Inv.turned{t':Nat}{it:Addr}(I:Inv X pins Z H s)(k:∀b o,b≠it->s.heap.get? b=some o->h'.get? b=some o)(hn:H it=none)(hL:it≠X.env.locals)
  (h1:it∈X.ex\/X.db.heap.objs.size<=it) (h2:∀x c,X.env.cells.lookup x=some c->c≠it) (h3:∀p∈X.pn++pins,p.1≠it):Inv X pins Z H {s with heap:=h',toks:=t'}:=by
 have nit:∀b u,H b=some u->b≠it:=fun b u e z=>by rw[z,hn] at e;cases e
 refine I.step (g':=s.gens) (d':=s.drawn) (ch:=[it]) (fun b hb=>?_) (fun b o _ _ hc e _=>k b o (fun z=>hc (by simp[z])) e) (fun b o _ _ hc e _=>⟨o.slots,k b o (fun z=>hc (by simp[z])) e⟩) (fun _ _ _ _ n=>n)
  (fun b o hc e=>⟨o,k b o (fun z=>hc (by simp[z])) e⟩) (fun _ _ e=>e) (fun _ _ _ e=>e) (fun b ps e=>⟨#[],by rw[e];simp⟩) (fun m hm=>?_) (fun b u e=>?_) I.bare
 ·have e:b=it:=by simpa using hb
  subst e
  exact⟨h1,hL,h2,h3⟩
 ·obtain⟨o,es,ep,ho,r⟩:=hm
  exact⟨o,es,ep,k _ o (Ne.symm hL) ho,r⟩
 ·refine (I.hok b u e).nc (fun c v hc q=>k c v ?_ q) (fun _ q=>q) fun _ _ q=>q
  rcases hc with z|z
  ·rw[z];exact nit b u e
  ·exact nit c _ z
theorem Inv.tok(I:Inv X pins Z H s)(t:Nat):Inv X pins Z H {s with toks:=t}:=I.un (h':=s.heap) (t':=t) Un.refl I.hok
theorem Inv.kept{t':Nat}(I:Inv X pins Z H s)(k:∀b u,s.heap.get? b=some u->h'.get? b=some u):Inv X pins Z H {s with heap:=h',toks:=t'}:=I.un (Un.kept k) (I.hok.kept k)
theorem Inv.laid{a:Addr}{o:HO}{t':Nat}(I:Inv X pins Z H s)(k:∀b u,s.heap.get? b=some u->h'.get? b=some u)(hp:s.heap.objs.size<=a)(new:dQ X.prog X.w (upd H a o) h' a o) :
  Inv X pins Z (upd H a o) {s with heap:=h',toks:=t'}:=I.un (Un.laid k hp (I.hok.fresh hp)) (I.hok.laid k hp new)
theorem Inv.write{x e:Addr}{o:HO}{t':Nat}(I:Inv X pins Z H s)(mu:Mut (H x))(he:e=x\/H e=some (.own x))(k:∀b u,b≠e->s.heap.get? b=some u->h'.get? b=some u)(heo:∃u,h'.get? e=some u)
  (new:dQ X.prog X.w (upd H x o) h' x o):Inv X pins Z (upd H x o) {s with heap:=h',toks:=t'}:=I.un (Un.write mu he k heo) (I.hok.write mu he k heo new)
theorem Inv.xt{pins':List (Addr×Obj)}(I:Inv X pins Z H s)(h:∀p∈pins',s.heap.get? p.1=some p.2/\H p.1=none/\p.1≠X.env.locals/\p.1 ∉ X.fs/\∀v,p.2.data≠.cell v):Inv X pins' Z H s:=
 ⟨I.ok,I.os,I.bare,I.base,I.loc,I.cell,I.free,I.eQ,fun p hp=>(List.mem_append.mp hp).elim (fun z=>I.pin p (mem_append_left _ z)) (h p),I.hok,I.len⟩
theorem tV{N:List Str}(hN:N.Nodup){i j:Nat}{x:Str}(a:N[i]? = some x)(b:N[j]? = some x):i=j:=by
 obtain⟨h1,e1⟩:=List.getElem?_eq_some_iff.mp a
 obtain⟨h2,e2⟩:=List.getElem?_eq_some_iff.mp b
 exact (List.getElem_inj hN).mp (e1.trans e2.symm)
theorem yt{M:Model}{A:Around}{E:Value->Shared->Prop}{i:Nat}{x:Str}{v:V}{u:Value}{Q:Unit->Shared->Prop}(I:Inv X pins Z H s)(hN:X.N.Nodup)(hi:X.N[i]? = some x)(hx:Loc X.env.scope x)(r:RelV v u)
  (h:∀s',Inv X pins (Z.set i (some v)) H s'->(∃a,Heap.SameBut a s.heap s'.heap/\(a=X.env.locals\/X.env.cells.lookup x=some a))->Q () s') (hf:X.fn x=true\/X.env.scope.names.lookup x=some .local:=by first|exact .inl rfl|exact .inr rfl|assumption):wpAny M A (storeName X.env x u) Q E s:=by
 obtain⟨m,hn,hl⟩:=id I.loc
 have hcls:(X.env.scope.kind==.class || (X.env.scope.kind==.module&&X.env.locals != X.env.globals))=false:=by rw[I.ok.kind];rfl
 have re:i<Z.length:=by rw[I.len];exact (List.getElem?_eq_some_iff.mp hi).1
 have cne:=I.cne
 have tracked:∀{a:Addr} {h':Heap},(∃o,s.heap.get? a=some o/\H a=none)->Heap.SameBut a s.heap h'->HOk X.prog X.w H h':=fun {a h'} ha hs b ob e=>by
  obtain⟨_,_,hfree⟩:=ha
  refine (I.hok b ob e).nc (fun c w' hc q=>(hs.2 c ?_).trans q) (fun _ q=>q) fun _ _ q=>q
  rintro rfl
  rcases hc with rfl|hc
  ·rw[hfree] at e;cases e
  ·rw[hfree] at hc;cases hc
 rcases hx with hk|hk
 ·refine wpAny_storeName_local hk hn (fun h' hn' hs=>?_) hcls
  obtain⟨oL,_,_,hoL,_⟩:=id hn
  refine h _ ⟨I.ok,I.os,I.bare,⟨fun b o e n hb hx=>?_,fun b o e n hb hx=>?_,I.base.free,fun b o e hx=>?_,I.base.jL,I.base.js,I.base.jv⟩,⟨_,hn',fun j y v' e1 e2 e3=>?_⟩,fun y c e=>?_,I.free,I.eQ,fun p hp=>?_,tracked ⟨oL,hoL,I.free⟩ hs,by simpa using I.len⟩ ⟨_,hs,.inl rfl⟩
  ·exact (hs.2 b (Nat.ne_of_lt (lt_of_lt_of_le (Heap.lt_size e) I.ok.above))).trans (I.base.keep b o e n hb hx)
  ·obtain⟨sl,e1⟩:=I.base.slot b o e n hb hx
   exact⟨sl,(hs.2 b (Nat.ne_of_lt (lt_of_lt_of_le (Heap.lt_size e) I.ok.above))).trans e1⟩
  ·obtain⟨o',e1⟩:=I.base.there b o e hx
   exact⟨o',(hs.2 b (Nat.ne_of_lt (lt_of_lt_of_le (Heap.lt_size e) I.ok.above))).trans e1⟩
  ·by_cases hj:j=i
   ·subst hj
    rw[hi] at e1;cases e1
    rw[List.getElem?_set_self re] at e2
    cases e2
    exact⟨u,r,.inl ⟨hk,by simp⟩⟩
   ·rw[List.getElem?_set_ne (Ne.symm hj)] at e2
    obtain⟨u',r',q⟩:=hl j y v' e1 e2 e3
    refine⟨u',r',?_⟩
    rcases q with ⟨k,e⟩|⟨k,c,e,z⟩
    ·refine .inl ⟨k,?_⟩
     have:y≠x:=fun e=>hj (tV hN e1 (e▸hi))
     simp[this,e]
    ·exact .inr ⟨k,c,e,z.sameBut hs (cne y c e)⟩
  ·obtain⟨w',z⟩:=I.cell y c e
   exact⟨w',z.sameBut hs (cne y c e)⟩
  ·obtain⟨e,n,ne,nf,d⟩:=I.pin p hp
   exact⟨(hs.2 p.1 ne).trans e,n,ne,nf,d⟩
 ·have hfn:X.fn x=true:=by
   rcases hf with z|z
   ·exact z
   ·rw[z] at hk;cases hk
  obtain⟨c,hc⟩:=I.ok.has x (.inl hk)
  obtain⟨w',z⟩:=I.cell x c hc
  refine wpAny_storeName_cell I.ok.kind hk hc z (fun h' hc' hs=>?_)
  obtain⟨oc,hoc,hocd⟩:=id z
  refine h {s with heap:=h'} ⟨I.ok,I.os,I.bare,⟨fun b o e n hb hx=>?_,fun b o e n hb hx=>?_,I.base.free,fun b o e hx=>?_,I.base.jL,I.base.js,I.base.jv⟩,⟨m,hn.sameBut hs (Ne.symm (cne x c hc)),fun j y v' e1 e2 e3=>?_⟩,fun y c' e=>?_,I.free,I.eQ,fun p hp=>?_,tracked ⟨oc,hoc,I.eQ x c hc⟩ hs,by simpa using I.len⟩ ⟨c,hs,.inr hc⟩
  ·exact (hs.2 b (Nat.ne_of_lt (lt_of_lt_of_le (Heap.lt_size e) (I.ok.cab x c hfn hc)))).trans (I.base.keep b o e n hb hx)
  ·obtain⟨sl,e1⟩:=I.base.slot b o e n hb hx
   exact⟨sl,(hs.2 b (Nat.ne_of_lt (lt_of_lt_of_le (Heap.lt_size e) (I.ok.cab x c hfn hc)))).trans e1⟩
  ·obtain⟨o',e1⟩:=I.base.there b o e hx
   exact⟨o',(hs.2 b (Nat.ne_of_lt (lt_of_lt_of_le (Heap.lt_size e) (I.ok.cab x c hfn hc)))).trans e1⟩
  ·by_cases hj:j=i
   ·subst hj
    rw[hi] at e1;cases e1
    rw[List.getElem?_set_self re] at e2
    cases e2
    exact⟨u,r,.inr ⟨.inl hk,c,hc,hc'⟩⟩
   ·rw[List.getElem?_set_ne (Ne.symm hj)] at e2
    obtain⟨u',r',q⟩:=hl j y v' e1 e2 e3
    refine⟨u',r',?_⟩
    rcases q with q|⟨k,c',e,z'⟩
    ·exact .inl q
    ·refine .inr ⟨k,c',e,z'.sameBut hs ?_⟩
     rintro rfl
     exact hj (tV hN e1 (I.ok.inj _ _ _ e hc▸hi))
  ·by_cases hcc:c'=c
   ·subst hcc;exact⟨_,hc'⟩
   ·obtain⟨w2,z2⟩:=I.cell y c' e
    exact⟨w2,z2.sameBut hs hcc⟩
  ·obtain⟨e,n,ne,nf,d⟩:=I.pin p hp
   refine⟨(hs.2 p.1 ?_).trans e,n,ne,nf,d⟩
   intro q
   rw[q,hoc] at e
   have q':oc=p.2:=Option.some.inj e
   exact d w' (by rw[<- q'];exact hocd)
theorem eN{M:Model}{A:Around}{E:Value->Shared->Prop}{i:Nat}{x:Str}{v:V}{u:Value}{Q:Unit->Shared->Prop}(I:Inv X pins Z H s)(hN:X.N.Nodup)(hi:X.N[i]? = some x)(hx:Loc X.env.scope x)(r:RelV v u)
  (h:∀s',Inv X pins (Z.set i (some v)) H s'->Q () s') (hf:X.fn x=true\/X.env.scope.names.lookup x=some .local:=by first|exact .inl rfl|exact .inr rfl|assumption):wpAny M A (storeName X.env x u) Q E s:=
 yt I hN hi hx r (fun s' I' _=>h s' I') hf
theorem Inv.xJ{s':Shared}{ch:List Addr}(I:Inv X pins Z H s)(ho:s'.os=s.os)(u:Un (frs X.stack) ch H H' s.heap s'.heap)(hok:HOk X.prog X.w H' s'.heap)(hg:AllBare s'.gens)
  (hch:∀b∈ch,(b∈X.ex\/X.db.heap.objs.size<=b)/\b≠X.env.locals/\(∀x c,X.env.cells.lookup x=some c->c≠b)/\∀p∈X.pn++pins,p.1≠b):Inv X pins Z H' s':=by
 obtain⟨h',g',d',t',o'⟩:=s'
 have e:o'=s.os:=ho
 subst e
 exact I.call (g':=g') (t':=t') (d':=d') u hok hg hch
end
noncomputable abbrev XK:=Value->Option Addr->Hp->Prop
noncomputable abbrev St:=List (Option V)
noncomputable abbrev VK:=V->Hp->Prop
noncomputable abbrev TE:=St->Hp->VK->Prop
noncomputable abbrev TT:=St->Hp->(Bool->Hp->Prop)->Prop
noncomputable abbrev TA:=St->Hp->(List V->Hp->Prop)->Prop
structure Ends where
 nx:St->Hp->Prop
 rt:VK
 bk:St->Hp->Prop:=fun _ _=>False
 ct:St->Hp->Prop:=fun _ _=>False
noncomputable abbrev TS:=Ends->St->Hp->Prop
noncomputable def EP(X:Cx)(pins:List (Addr×Obj))(Z:St)(Q:VK)(u:Value)(s':Shared):Prop:=∃v H',Inv X pins Z H' s'/\RelV v u/\Q v H'
noncomputable def TP(X:Cx)(pins:List (Addr×Obj))(Z:St)(Q:Bool->Hp->Prop)(b:Bool)(s':Shared):Prop:=∃H',Inv X pins Z H' s'/\Q b H'
noncomputable def AP(X:Cx)(pins:List (Addr×Obj))(Z:St)(Q:List V->Hp->Prop)(us:List Value)(s':Shared):Prop:=∃vs H',Inv X pins Z H' s'/\Vals vs us/\Q vs H'
noncomputable def SP(X:Cx)(pins:List (Addr×Obj))(D:Ends)(f:Flow)(s':Shared):Prop:=
 match f with
 |.next=>∃al H',Inv X pins al H' s'/\D.nx al H'
 |.brk=>∃al H',Inv X pins al H' s'/\D.bk al H'
 |.cont=>∃al H',Inv X pins al H' s'/\D.ct al H'
 |.ret u=>∃v al H',Inv X pins al H' s'/\RelV v u/\D.rt v H'
noncomputable def PE(X:Cx)(e:Expr)(t:TE):Prop:=
 ∀(pins:List (Addr×Obj)) (s:Shared) (Z:St) (H:Hp) (Q:VK),Inv X pins Z H s->t Z H Q->wpAny (model X.prog X.w) X.A (eval e X.env) (EP X pins Z Q) X.xe s
noncomputable def PT(X:Cx)(e:Expr)(t:TT):Prop:=
 ∀(pins:List (Addr×Obj)) (s:Shared) (Z:St) (H:Hp) (Q:Bool->Hp->Prop),Inv X pins Z H s->t Z H Q->wpAny (model X.prog X.w) X.A (isTrue e X.env (eval e X.env)) (TP X pins Z Q) X.xe s
noncomputable def PW(X:Cx)(e:Expr)(t:TT):Prop:=
 ∀(whole:Sem Value) (pins:List (Addr×Obj)) (s:Shared) (Z:St) (H:Hp) (Q:Bool->Hp->Prop),Inv X pins Z H s->t Z H Q->wpAny (model X.prog X.w) X.A (isTrue e X.env whole) (TP X pins Z Q) X.xe s
theorem PW.pt{X:Cx}{e:Expr}{t:TT}(h:PW X e t):PT X e t:=h _
noncomputable def PA(X:Cx)(es:List Expr)(t:TA):Prop:=
 ∀(pos:Pos) (pins:List (Addr×Obj)) (s:Shared) (Z:St) (H:Hp) (Q:List V->Hp->Prop),Inv X pins Z H s->t Z H Q->wpAny (model X.prog X.w) X.A (spliced (backTo pos (starEach es X.env))) (AP X pins Z Q) X.xe s
noncomputable def PS(X:Cx)(st:Stmt)(t:TS):Prop:=
 ∀(pins:List (Addr×Obj)) (s:Shared) (Z:St) (H:Hp) (D:Ends),Inv X pins Z H s->t D Z H->wpAny (model X.prog X.w) X.A (exec st X.env) (SP X pins D) X.xe s
noncomputable def PSs(X:Cx)(st:List Stmt)(t:TS):Prop:=
 ∀(pins:List (Addr×Obj)) (s:Shared) (Z:St) (H:Hp) (D:Ends),Inv X pins Z H s->t D Z H->wpAny (model X.prog X.w) X.A (execs st X.env) (SP X pins D) X.xe s
theorem thn{α:Type}{t:Sem α}{Q Q':α->Shared->Prop}{M:Model}{A:Around}{E:Value->Shared->Prop}{s:Shared}(h:wpAny M A t Q E s)(hQ:∀a s,Q a s->Q' a s):wpAny M A t Q' E s:=wpAny_mono h hQ fun _ _ x=>x
end L2
namespace L2
open PySem PySem.Spec PyProof.Rows
section
variable {X:Cx}
theorem bin{a b:Expr}{ta tb:TE}(ha:PE X a ta)(hb:PE X b tb){pins:List (Addr×Obj)}{s:Shared}{Z:St}{H:Hp}{R:V->V->Hp->Prop}(I:Inv X pins Z H s)(h:ta Z H fun x H1=>tb Z H1 fun y H2=>R x y H2)
  {α:Type} {Q:α->Shared->Prop} {f:Value->Value->Sem α}
  (hf:∀v u s2 x y H2,Inv X pins Z H2 s2->RelV x v->RelV y u->R x y H2->wpAny (model X.prog X.w) X.A (f v u) Q X.xe s2) :
  wpAny (model X.prog X.w) X.A (eval a X.env) (fun v bv=>wpAny (model X.prog X.w) X.A (eval b X.env) (fun u io=>wpAny (model X.prog X.w) X.A (f v u) Q X.xe io) X.xe bv) X.xe s:=by
 refine thn (ha pins s Z H _ I h) fun v s1 hq0=>?_
 obtain⟨x,H1,I1,r1,q1⟩:=hq0
 refine thn (hb pins s1 Z H1 _ I1 q1) fun u s2 hq0=>?_
 obtain⟨y,H2,I2,r2,q2⟩:=hq0
 exact hf v u s2 x y H2 I2 r1 r2 q2
noncomputable def Jf(i:Nat):TE:=fun Z H Q=>∃v,Z[i]? = some (some v)/\Q v H
noncomputable def tC(v:V):TE:=fun _ H Q=>Q v H
theorem BJ{i:Nat}{x:Str}{pos:Pos}(hN:X.N[i]? = some x)(hv:Vis X.env.scope x)(hd:(x==("__debug__":Str))=false:=by decide)(hcd:(x==("__classdict__":Str))=false:=by decide):PE X (.Name x pos) (Jf i):=by
 intro pins s Z H Q I h
 obtain⟨v,e,h⟩:=h
 obtain⟨m,hn,hl⟩:=I.loc
 obtain⟨u,r,l⟩:=hl i x v hN e hv
 have fin:EP X pins Z Q u s:=⟨v,H,I,r,h⟩
 rcases l with ⟨hk,hm⟩|⟨hk,c,hc,hcell⟩
 ·exact wpAny_Name (wpAny_loadName_local I.ok.kind hk hn hm fin) hd
 ·rcases hk with hk|hk
  ·exact wpAny_Name (wpAny_loadName_cell I.ok.kind hk hc hcell fin) hd
  ·exact wpAny_Name (wpAny_loadName_free I.ok.kind hk hc hcell fin hcd) hd
theorem FK{i j pos}:PE X (.Constant (.int i) j pos) (tC (.int i)):=fun _ _ _ H _ I h=>wpAny_Constant_int ⟨.int i,H,I.tok _,⟨_,rfl⟩,h⟩
theorem IZ{b j pos}:PE X (.Constant (.bool b) j pos) (tC (.bl b)):=fun _ _ _ H _ I h=>Constant_bool ⟨.bl b,H,I,rfl,h⟩
theorem Bf{x j pos}:PE X (.Constant (.str x) j pos) (tC (.str x)):=fun _ _ _ H _ I h=>Calls.Constant_str ⟨.str x,H,I.tok _,⟨_,rfl⟩,h⟩
noncomputable def Gl(X:Cx)(x:Str):Prop:=X.env.kindOf x=some .globalImplicit
theorem kr{E:Value->Shared->Prop}{pins:List (Addr×Obj)}{s:Shared}{Z:St}{H:Hp}{x:Str}{u:Value}{pos:Pos}{Q:Value->Shared->Prop}(I:Inv X pins Z H s)(hg:Gl X x)(hm:X.mg x=some u)(h:Q u s)
  (hd:(x==("__debug__":Str))=false:=by decide):wpAny (model X.prog X.w) X.A (eval (.Name x pos) X.env) Q E s:=
 Calls.Name_function_global I.ok.kind hg (Calls.loadGlobal_global (by rw[I.ok.glob];exact I.mod.glob.keeps I.bk) hm h) hd
theorem lJ{E:Value->Shared->Prop}{pins:List (Addr×Obj)}{s:Shared}{Z:St}{H:Hp}{x:Str}{u:Value}{pos:Pos}{Q:Value->Shared->Prop}(I:Inv X pins Z H s)(hg:Gl X x)(hm:X.mg x=none)(hv:bootBuiltins x=some u)(h:Q u s)
  (hn:x ≠ "__name__":=by decide) (hd:(x==("__debug__":Str))=false:=by decide):wpAny (model X.prog X.w) X.A (eval (.Name x pos) X.env) Q E s:=by
 obtain⟨mb,h1,h2⟩:=I.mod.blt
 exact Calls.Name_function_global I.ok.kind hg (Calls.loadGlobal_builtin (by rw[I.ok.glob];exact I.mod.glob.keeps I.bk) hm (by rw[I.ok.blt];exact h1.keeps I.bk) ((h2 x hn).trans hv) h) hd
theorem xY{x:Str}{v:V}{u:Value}{pos:Pos}(hg:Gl X x)(hm:X.mg x=some u)(r:RelV v u)(hd:(x==("__debug__":Str))=false:=by decide):PE X (.Name x pos) (tC v):=
 fun _ _ _ H _ I h=>kr I hg hm ⟨v,H,I,r,h⟩ hd
theorem xF{x:Str}{v:V}{u:Value}{pos:Pos}(hg:Gl X x)(hm:X.mg x=none)(hv:bootBuiltins x=some u)(r:RelV v u)(hn:x ≠ "__name__":=by decide)(hd:(x==("__debug__":Str))=false:=by decide):PE X (.Name x pos) (tC v):=
 fun _ _ _ H _ I h=>lJ I hg hm hv ⟨v,H,I,r,h⟩ hn hd
variable {a b:Expr}{ta tb:TE}{pos:Pos}
noncomputable def PC(X:Cx)(op:CmpOp)(a b:Expr)(t:TE):Prop:=
 ∀(pins:List (Addr×Obj)) (s:Shared) (Z:St) (H:Hp) (Q:VK),Inv X pins Z H s->t Z H Q ->
  wpAny (model X.prog X.w) X.A (eval a X.env) (fun v bv=>wpAny (model X.prog X.w) X.A (eval b X.env) (fun u io=>wpAny (model X.prog X.w) X.A (compareOp op v u) (EP X pins Z Q) X.xe io) X.xe bv) X.xe s
theorem BX(b:Expr){op:CmpOp}(h:op≠.In)(h2:op≠.NotIn):behindInMarks op b=false:=by
 have e1:(op==CmpOp.In)=false:=by cases op<;>first|rfl|exact absurd rfl h
 have e2:(op==CmpOp.NotIn)=false:=by cases op<;>first|rfl|exact absurd rfl h2
 cases b<;>simp[behindInMarks,e1,e2]
noncomputable def tB(t:TE):TT:=fun Z H Q=>t Z H fun x H1=>∃c,x = .bl c/\Q c H1
theorem K1{op:CmpOp}{t:TE}(h:PC X op a b t)(h1:behindInMarks op b=false:=by first|exact BX _ ⋯ ⋯|rfl):PT X (.Compare a [op] [b] pos) (tB t):=by
 intro pins s Z H Q I hw
 refine wpAny_isTrue_Compare1 (thn (h pins s Z H _ I hw) fun v s1 h1=>thn h1 fun u s2 h2=>thn h2 fun c s3 hq0=>?_) h1
 obtain⟨x,H1,I1,r1,q1⟩:=hq0
 obtain⟨d,rfl,q⟩:=q1
 cases r1
 exact wpAny_truthy_bool ⟨H1,I1,q⟩
theorem Gp{e:Expr}{t:TE}(h:PE X e t)(he:∀whole,isTrue e X.env whole=(do let v <- whole;standAt e.pos;holding [v] (truthy v)):=by intro _;rfl):PT X e (tB t):=by
 intro pins s Z H Q I hw
 refine isTrue_plain (thn (h pins s Z H _ I hw) fun v s1 hq0=>?_) (he _)
 obtain⟨x,H1,I1,r1,q1⟩:=hq0
 obtain⟨d,rfl,q⟩:=q1
 cases r1
 exact wpAny_truthy_bool ⟨H1,I1,q⟩
variable {tA tB':TT}{rest:List Expr}
noncomputable def L7(t u:TT):TT:=fun Z H Q=>t Z H fun c H1=>if c=true then u Z H1 Q else Q false H1
noncomputable def tOr(t u:TT):TT:=fun Z H Q=>t Z H fun c H1=>if c=true then Q true H1 else u Z H1 Q
noncomputable def L0(t:TT):TT:=fun Z H Q=>t Z H fun c H1=>Q (!c) H1
theorem pw_and1(ha:PT X a tA):PW X (.BoolOp .And [a] pos) tA:=by
 intro wh pins s Z H Q I h
 refine isTrue_and (thn (ha pins s Z H Q I h) fun c s1 e=>?_)
 cases c with
 |true=>exact isTrue_and_nil e
 |false=>exact e
theorem pw_or1(ha:PT X a tA):PW X (.BoolOp .Or [a] pos) tA:=by
 intro wh pins s Z H Q I h
 refine isTrue_or (thn (ha pins s Z H Q I h) fun c s1 e=>?_)
 cases c with
 |false=>exact isTrue_or_nil e
 |true=>exact e
theorem pw_and(ha:PT X a tA)(hb:PW X (.BoolOp .And (b::rest) pos) tB'):PW X (.BoolOp .And (a::b::rest) pos) (L7 tA tB'):=by
 intro wh pins s Z H Q I h
 refine isTrue_and (thn (ha pins s Z H _ I h) fun c s1 hq0=>?_)
 obtain⟨H1,I1,q1⟩:=hq0
 cases c with
 |true=>exact hb wh pins s1 Z H1 Q I1 q1
 |false=>exact⟨H1,I1,q1⟩
theorem pw_or(ha:PT X a tA)(hb:PW X (.BoolOp .Or (b::rest) pos) tB'):PW X (.BoolOp .Or (a::b::rest) pos) (tOr tA tB'):=by
 intro wh pins s Z H Q I h
 refine isTrue_or (thn (ha pins s Z H _ I h) fun c s1 hq0=>?_)
 obtain⟨H1,I1,q1⟩:=hq0
 cases c with
 |true=>exact⟨H1,I1,q1⟩
 |false=>exact hb wh pins s1 Z H1 Q I1 q1
theorem Ih(ha:PT X a tA):PT X (.UnaryOp .Not a pos) (L0 tA):=by
 intro pins s Z H Q I h
 exact isTrue_not (ha pins s Z H (fun c H1=>Q (!c) H1) I h)
noncomputable def Kt(ta tb:TE):TE:=fun Z H Q=>ta Z H fun x H1=>∃c,x = .bl c/\if c=true then tb Z H1 Q else Q (.bl false) H1
noncomputable def Jl(ta:TE):TE:=fun Z H Q=>ta Z H fun x H1=>∃c,x = .bl c/\Q (.bl (!c)) H1
theorem GF{op}{t:TE}(h:PE X a t):PE X (.BoolOp op [a] pos) t:=fun pins s Z H Q I hw=>BoolOp_one (h pins s Z H Q I hw)
theorem FN(ha:PE X a ta)(hb:PE X (.BoolOp .And (b::rest) pos) tb):PE X (.BoolOp .And (a::b::rest) pos) (Kt ta tb):=by
 intro pins s Z H Q I h
 refine BoolOp_and (thn (ha pins s Z H _ I h) fun v s1 hq0=>?_)
 obtain⟨x,H1,I1,r1,q1⟩:=hq0
 obtain⟨c,rfl,q1⟩:=q1
 cases r1
 refine wpAny_truthy_bool ?_
 cases c with
 |true=>exact hb pins s1 Z H1 Q I1 q1
 |false=>exact⟨.bl false,H1,I1,rfl,q1⟩
theorem ID(ha:PE X a ta):PE X (.UnaryOp .Not a pos) (Jl ta):=by
 intro pins s Z H Q I h
 refine UnaryOp_ (thn (ha pins s Z H _ I h) fun v s1 hq0=>?_)
 obtain⟨x,H1,I1,r1,q1⟩:=hq0
 obtain⟨c,rfl,q1⟩:=q1
 cases r1
 exact not_of (wpAny_truthy_bool ⟨.bl (!c),H1,I1,rfl,q1⟩)
noncomputable def tIf(t:TT)(ta tb:TE):TE:=fun Z H Q=>t Z H fun c H1=>if c=true then ta Z H1 Q else tb Z H1 Q
theorem Bt{c:Expr}(hc:PT X c tA)(ha:PE X a ta)(hb:PE X b tb):PE X (.IfExp c a b pos) (tIf tA ta tb):=by
 intro pins s Z H Q I h
 refine wpAny_IfExp (thn (hc pins s Z H _ I h) fun d s1 hq0=>?_)
 obtain⟨H1,I1,q1⟩:=hq0
 cases d with
 |true=>exact ha pins s1 Z H1 Q I1 q1
 |false=>exact hb pins s1 Z H1 Q I1 q1
end
end L2
namespace L2
open PySem PySem.Spec PyProof.Rows
noncomputable def SqL(K:PySem.W.Frag)(H:Hp)(a:Addr)(xs:List V):Prop:=
 Rd H a (.lst xs) \/
  ∃(o:Obj) (its:Array Value) (n:Nat),K.lookup a=some o/\o.cls = .type "list"/\o.dict=none/\o.data = .seq its n/\its.size<=sizeLine/\Vals xs its.toList
noncomputable def SqT(K:PySem.W.Frag)(H:Hp)(a:Addr)(xs:List V):Prop:=
 Rd H a (.tup xs) \/
  ∃(o:Obj) (its:Array Value) (n:Nat),K.lookup a=some o/\o.cls = .type "tuple"/\o.data = .seq its n/\its.size<=sizeLine/\Vals xs its.toList
noncomputable def LV:Value->Option V
 |.none=>some .non
 |.bool b=>some (.bl b)
 |.int i _=>some (.int i)
 |.str x _=>some (.str x)
 |.bytes b _=>some (.byt b)
 |.float b _=>some (.flt b)
 |.ref a=>some (.ref a)
 |.type n=>some (.ty n)
 |_=>none
theorem RelV.abs{x:V}{u:Value}(r:RelV x u):LV u=some x:=by
 cases x with
 |non=>cases r;rfl
 |bl _=>cases r;rfl
 |int _=>obtain⟨t,rfl⟩:=r;rfl
 |str _=>obtain⟨t,rfl⟩:=r;rfl
 |byt _=>obtain⟨t,rfl⟩:=r;rfl
 |flt _=>obtain⟨t,rfl⟩:=r;rfl
 |ref _=>cases r;rfl
 |ty _=>cases r;rfl
theorem RelV.inj{x y:V}{u:Value}(r:RelV x u)(q:RelV y u):x=y:=Option.some.inj (r.abs.symm.trans q.abs)
theorem Vals.inj:∀{xs ys:List V} {us:List Value},Vals xs us->Vals ys us->xs=ys
 |_,_,_,.nil,.nil=>rfl
 |_,_,_,.cons r t,.cons r' t'=>by rw[r.inj r',Vals.inj t t']
section
variable {X:Cx}{pins:List (Addr×Obj)}{Z:St}{H:Hp}{s:Shared}{a:Addr}{xs ys:List V}
theorem SqL.of{K:PySem.W.Frag}(h:H a=some (.lst xs)):SqL K H a xs:=.inl (.inl h)
theorem SqT.of{K:PySem.W.Frag}(h:H a=some (.tup xs)):SqT K H a xs:=.inl (.inl h)
theorem Inv.list(I:Inv X pins Z H s)(h:SqL X.K H a xs):∃its:List Value,Vals xs its/\PlainL s.heap a its.toArray/\xs.length<=sizeLine:=by
 rcases h with h|⟨o,its,n,hk,hc,hd,hs,hz,r⟩
 ·obtain⟨z,its,n,r,e⟩:=h.ok I.hok
  exact⟨its,r,⟨_,n,e,rfl,rfl,rfl⟩,z⟩
 ·refine⟨its.toList,r,⟨o,n,I.kIn a o hk,hc,hd,by simpa using hs⟩,?_⟩
  have e:=r.length
  simp only[Array.length_toList] at e
  omega
theorem Inv.tuple(I:Inv X pins Z H s)(h:SqT X.K H a xs):∃its:List Value,Vals xs its/\IsTup s.heap a its.toArray/\xs.length<=sizeLine:=by
 rcases h with h|⟨o,its,n,hk,hc,hs,hz,r⟩
 ·obtain⟨z,its,r,p⟩:=h.ok I.hok
  exact⟨its,r,p,z⟩
 ·refine⟨its.toList,r,⟨o,I.kIn a o hk,hc,n,by simpa using hs⟩,?_⟩
  have e:=r.length
  simp only[Array.length_toList] at e
  omega
theorem Inv.uN(I:Inv X pins Z H s)(h:SqL X.K H a xs)(h':SqL X.K H a ys):xs=ys:=by
 obtain⟨its,r,⟨o,n,e,_,_,d⟩,_⟩:=I.list h
 obtain⟨its',r',⟨o',n',e',_,_,d'⟩,_⟩:=I.list h'
 rw[e] at e';cases e'
 rw[d] at d'
 injection d' with d1 _
 have:its=its':=by simpa using congrArg Array.toList d1
 subst this
 exact r.inj r'
theorem Inv.rq(I:Inv X pins Z H s)(h:SqT X.K H a xs)(h':SqT X.K H a ys):xs=ys:=by
 obtain⟨its,r,⟨o,e,_,n,d⟩,_⟩:=I.tuple h
 obtain⟨its',r',⟨o',e',_,n',d'⟩,_⟩:=I.tuple h'
 rw[e] at e';cases e'
 rw[d] at d'
 injection d' with d1 _
 have:its=its':=by simpa using congrArg Array.toList d1
 subst this
 exact r.inj r'
end
noncomputable abbrev Cx.oM(X:Cx)(E:Value->Shared->Prop):Cx:={X with xe:=E}
noncomputable abbrev Cx.nox(X:Cx):Cx:=X.oM fun _ _=>False
theorem Cx.Ok.oM{X:Cx}(ok:X.Ok)(E:Value->Shared->Prop):(X.oM E).Ok:=
 ⟨ok.mod,ok.kind,ok.glob,ok.blt,ok.above,ok.inj,ok.has,ok.cab,ok.hd,ok.qt,ok.frames,ok.stk,ok.exf,ok.bs,ok.bsz,ok.y4,ok.A0,ok.jT,ok.frf⟩
theorem Cx.Ok.gO{X:Cx}{E:Value->Shared->Prop}(ok:(X.oM E).Ok):X.Ok:=
 ⟨ok.mod,ok.kind,ok.glob,ok.blt,ok.above,ok.inj,ok.has,ok.cab,ok.hd,ok.qt,ok.frames,ok.stk,ok.exf,ok.bs,ok.bsz,ok.y4,ok.A0,ok.jT,ok.frf⟩
section
variable {X:Cx}{pins:List (Addr×Obj)}{Z:St}{H:Hp}{s:Shared}{E:Value->Shared->Prop}
theorem Inv.oM(I:Inv X pins Z H s)(E:Value->Shared->Prop):Inv (X.oM E) pins Z H s:=⟨I.ok.oM E,I.os,I.bare,I.base,I.loc,I.cell,I.free,I.eQ,I.pin,I.hok,I.len⟩
theorem Inv.gO(I:Inv (X.oM E) pins Z H s):Inv X pins Z H s:=⟨I.ok.gO,I.os,I.bare,I.base,I.loc,I.cell,I.free,I.eQ,I.pin,I.hok,I.len⟩
theorem SP.gO{D:Ends}{f:Flow}{s':Shared}(h:SP (X.oM E) pins D f s'):SP X pins D f s':=by
 cases f with
 |next=>obtain⟨al,H',I,q⟩:=h;exact⟨al,H',I.gO,q⟩
 |brk=>obtain⟨al,H',I,q⟩:=h;exact⟨al,H',I.gO,q⟩
 |cont=>obtain⟨al,H',I,q⟩:=h;exact⟨al,H',I.gO,q⟩
 |ret u=>obtain⟨v,al,H',I,r,q⟩:=h;exact⟨v,al,H',I.gO,r,q⟩
theorem PSs.nox{st:List Stmt}{t:TS}(h:PSs X.nox st t):PSs X st t:=fun pins s Z H D I hw=>
 wpAny_mono (h pins s Z H D (I.oM _) hw) (fun _ _ q=>q.gO) fun _ _ z=>False.elim z
end
section
variable {X:Cx}{st:Stmt}{rest:List Stmt}{t u:TS}{e:Expr}{te:TE}{pos:Pos}
noncomputable def Jb:TS:=fun D Z H=>D.nx Z H
noncomputable def Ko(t u:TS):TS:=fun D Z H=>t {D with nx:=u D} Z H
theorem Ef:PSs X [] Jb:=fun _ _ Z H _ I h=>wpAny_execs_nil ⟨Z,H,I,h⟩
theorem n5(h1:PS X st t)(h2:PSs X rest u):PSs X (st::rest) (Ko t u):=by
 intro pins s Z H D I h
 refine wpAny_execs_cons (thn (h1 pins s Z H {D with nx:=u D} I h) fun f s1 q=>?_)
 cases f with
 |next=>
  obtain⟨al,H',I',q⟩:=q
  exact h2 pins s1 al H' D I' q
 |ret v=>exact q
 |brk=>exact q
 |cont=>exact q
theorem Cq(h1:PS X st t):PSs X [st] t:=by
 intro pins s Z H D I h
 refine wpAny_execs_cons (thn (h1 pins s Z H D I h) fun f s1 q=>?_)
 cases f with
 |next=>exact wpAny_execs_nil q
 |ret v=>exact q
 |brk=>exact q
 |cont=>exact q
theorem Inv.quiet{pins:List (Addr×Obj)}{Z:St}{H:Hp}{s:Shared}(I:Inv X pins Z H s):interactive X.env=false:=by simp[interactive,I.ok.kind]
noncomputable def IU(te:TE):TS:=fun D Z H=>te Z H fun _ H1=>D.nx Z H1
theorem B7(he:PE X e te)(hs:swapsWith e none pos.line X.env=pure false:=by rfl):PS X (.Expr e pos) (IU te):=by
 intro pins s Z H D I h
 exact wpAny_Expr_any (thn (he pins s Z H _ I h) fun v s1 ⟨x,H1,I1,r1,q1⟩=>⟨Z,H1,I1,q1⟩) I.quiet hs
noncomputable def Lw(te:TE):TS:=fun D Z H=>te Z H D.rt
theorem FY(he:PE X e te):PS X (.Return (some e) pos) (Lw te):=by
 intro pins s Z H D I h
 exact wpAny_Return_some (thn (he pins s Z H _ I h) fun v s1 ⟨x,H1,I1,r1,q1⟩=>⟨x,Z,H1,I1,r1,q1⟩)
noncomputable def K3(c:TT)(t u:TS):TS:=fun D Z H=>c Z H fun b H1=>if b=true then t D Z H1 else u D Z H1
theorem ES{c:Expr}{a b:List Stmt}{tc:TT}(hc:PT X c tc)(ha:PSs X a t)(hb:PSs X b u):PS X (.If c a b pos) (K3 tc t u):=by
 intro pins s Z H D I h
 refine wpAny_If (thn (hc pins s Z H _ I h) fun d s1 hq0=>?_)
 obtain⟨H1,I1,q1⟩:=hq0
 cases d with
 |true=>exact ha pins s1 Z H1 D I1 q1
 |false=>exact hb pins s1 Z H1 D I1 q1
noncomputable def FF:TS:=fun _ _ _=>False
theorem qN{sts:List Stmt}:PSs X sts FF:=fun _ _ _ _ _ _ h=>h.elim
end
noncomputable abbrev TG:=V->St->Hp->(St->Hp->Prop)->Prop
noncomputable abbrev TGs:=List V->St->Hp->(St->Hp->Prop)->Prop
noncomputable def PG(X:Cx)(target:Expr)(t:TG):Prop:=
 ∀(pins:List (Addr×Obj)) (s:Shared) (Z:St) (H:Hp) (v:V) (u:Value) (Q:St->Hp->Prop),Inv X pins Z H s->RelV v u->t v Z H Q ->
  wpAny (model X.prog X.w) X.A (assign target X.env u) (fun _ s'=>∃al H',Inv X pins al H' s'/\Q al H') X.xe s
noncomputable def PGs(X:Cx)(ts:List Expr)(t:TGs):Prop:=
 ∀(pins:List (Addr×Obj)) (s:Shared) (Z:St) (H:Hp) (vs:List V) (us:List Value) (Q:St->Hp->Prop),Inv X pins Z H s->Vals vs us->t vs Z H Q ->
  wpAny (model X.prog X.w) X.A (assignInOrder ((assignEach ts X.env).map (·.2)) us) (fun _ s'=>∃al H',Inv X pins al H' s'/\Q al H') X.xe s
noncomputable abbrev Hh:=V->V->V->Hp->(Hp->Prop)->Prop
noncomputable def Jk(X:Cx)(t:Hh):Prop:=
 ∀(pins:List (Addr×Obj)) (s:Shared) (Z:St) (H:Hp) (o i v:V) (ov iv u:Value) (Q:Hp->Prop),Inv X pins Z H s->RelV o ov->RelV i iv->RelV v u->t o i v H Q ->
  wpAny (model X.prog X.w) X.A (setItem ov iv u) (fun _ s'=>∃H',Inv X pins Z H' s'/\Q H') X.xe s
noncomputable abbrev TIp:=V->V->Hp->VK->Prop
noncomputable def PIp(X:Cx)(op:Operator)(t:TIp):Prop:=
 ∀(pins:List (Addr×Obj)) (s:Shared) (Z:St) (H:Hp) (x y:V) (v u:Value) (Q:VK),Inv X pins Z H s->RelV x v->RelV y u->t x y H Q ->
  wpAny (model X.prog X.w) X.A (inplaceOp op v u) (EP X pins Z Q) X.xe s
section
variable {X:Cx}{pos:Pos}
noncomputable def Bc(i:Nat):TG:=fun v Z H Q=>Q (Z.set i (some v)) H
theorem DQ{i:Nat}{x:Str}(hN:X.N.Nodup)(hi:X.N[i]? = some x)(hx:Loc X.env.scope x)(hf:X.fn x=true\/X.env.scope.names.lookup x=some .local:=by first|exact .inl rfl|exact .inr rfl|assumption):PG X (.Name x pos) (Bc i):=by
 intro pins s Z H v u Q I r h
 exact wpAny_assign_Name (eN I hN hi hx r (fun s' I'=>⟨_,H,I',h⟩) hf)
noncomputable def LU:TGs:=fun vs Z H Q=>vs=[]/\Q Z H
noncomputable def J7(t:TG)(u:TGs):TGs:=fun vs Z H Q=>∃v r,vs=v::r/\t v Z H fun al H'=>u r al H' Q
theorem CJ:PGs X [] LU:=by
 intro pins s Z H vs us Q I r h
 obtain⟨e,h⟩:=h
 subst e
 cases r
 exact assignInOrder_nil ⟨Z,H,I,h⟩
theorem Am{e:Expr}{es:List Expr}{t:TG}{u:TGs}(h1:PG X e t)(h2:PGs X es u)
  (hs:(assignEach (e::es) X.env).map (·.2)=assign e X.env::(assignEach es X.env).map (·.2):=by rfl):PGs X (e::es) (J7 t u):=by
 intro pins s Z H vs us Q I r h
 obtain⟨v,vr,e1,h⟩:=h
 subst e1
 cases r with
 |cons r rr=>
  rw[hs]
  refine assignInOrder_cons (thn (h1 pins s Z H _ _ _ I r h) fun _ s1 hq0=>?_)
  obtain⟨ls,H1,I1,q1⟩:=hq0
  exact h2 pins s1 ls H1 _ _ Q I1 rr q1
noncomputable def Lr(K:PySem.W.Frag)(n:Nat)(t:TGs):TG:=fun v Z H Q=>∃a xs,v = .ref a/\SqT K H a xs/\xs.length=n/\t xs Z H Q
theorem HJ{es:List Expr}{k:Nat}{t:TGs}{n:Nat}(hc:X.calm=X.calm)(h:PGs X es t)
  (hn:(assignEach es X.env).length=n:=by rfl) (hst:(assignEach es X.env).findIdx? (·.1)=none:=by rfl):PG X (.Tuple es k pos) (Lr X.K n t):=by
 intro pins s Z H v u Q I r hw
 obtain⟨a,xs,e1,hq,hl,hw⟩:=hw
 subst e1
 cases r
 obtain⟨its,rv,ht,hz⟩:=I.tuple hq
 refine qj I.wJ ht (by simp[hn,<- hl,rv.length]) hst fun h' hx=>?_
 have I1:Inv X pins Z H {s with heap:=h'}:=I.kept (t':=s.toks) fun b o e=>hx b o (Nat.ne_of_lt (Heap.lt_size e)) e
 exact h pins _ Z H xs _ Q I1 (by simpa using rv) hw
noncomputable def LX(to ti:TE)(t:Hh):TG:=fun v Z H Q=>to Z H fun o H1=>ti Z H1 fun i H2=>t o i v H2 fun H3=>Q Z H3
theorem Fq{o i:Expr}{to ti:TE}{t:Hh}(ho:PE X o to)(hi:PE X i ti)(hs:Jk X t)
  (ha:∀v,assign (.Subscript o i pos) X.env v=(do
   let ov <- holding [v] (eval o X.env)
   let iv <- holding [v,ov] (eval i X.env)
   standAt pos
   holding [v,ov,iv] (setItem ov iv v)
   release [v,ov,iv] []):=by intro _;rfl):PG X (.Subscript o i pos) (LX to ti t):=by
 intro pins s Z H v u Q I r h
 rw[ha]
 refine wpAny_bind (wpAny_holding (thn (ho pins s Z H _ I h) fun ov s1 hq0=>?_))
 obtain⟨x,H1,I1,r1,q1⟩:=hq0
 refine wpAny_bind (wpAny_holding (thn (hi pins s1 Z H1 _ I1 q1) fun iv s2 hq0=>?_))
 obtain⟨y,H2,I2,r2,q2⟩:=hq0
 refine wpAny_bind (wpAny_standAt (wpAny_bind (wpAny_holding (thn (hs pins s2 Z H2 x y v ov iv u _ I2 r1 r2 r q2) fun _ s3 hq0=>?_))))
 obtain⟨H3,I3,q3⟩:=hq0
 exact wpAny_release ⟨Z,H3,I3,q3⟩
noncomputable def Fv(te:TE)(g:TG):TS:=fun D Z H=>te Z H fun x H1=>g x Z H1 D.nx
theorem Gb{tg e:Expr}{te:TE}{g:TG}(he:PE X e te)(hg:PG X tg g)(hs:swapsWithSole [tg] e pos.line X.env=pure false:=by rfl)(hw:swappedStores [tg] e X.env=pure none:=by rfl)
  (h1:(assignEach [tg] X.env).map (·.2)=[assign tg X.env]:=by rfl):PS X (.Assign [tg] e pos) (Fv te g):=by
 intro pins s Z H D I h
 refine wpAny_Assign_stores (thn (he pins s Z H _ I h) fun v s1 hq0=>?_) hs hw
 obtain⟨x,H1,I1,r1,q1⟩:=hq0
 rw[h1]
 exact thn (hg pins s1 Z H1 x v _ I1 r1 q1) fun _ s2 q=>q
theorem HZ{i:Nat}{x:Str}{e:Expr}{te:TE}{pos':Pos}(hN:X.N.Nodup)(hi:X.N[i]? = some x)(hx:Loc X.env.scope x)(he:PE X e te)(hs:swapsWith e (some (.Name x pos')) pos.line X.env=pure false:=by rfl)(hf:X.fn x=true\/X.env.scope.names.lookup x=some .local:=by first|exact .inl rfl|exact .inr rfl|assumption) :
  PS X (.Assign [.Name x pos'] e pos) (Fv te (Bc i)):=by
 intro pins s Z H D I h
 refine wpAny_Assign_Name (thn (he pins s Z H _ I h) fun v s1 hq0=>?_) hs
 obtain⟨y,H1,I1,r1,q1⟩:=hq0
 exact eN I1 hN hi hx r1 (fun s2 I2=>⟨_,H1,I2,q1⟩) hf
noncomputable def LN(i j:Nat)(ta:TA):TS:=fun D Z H=>ta Z H fun vs H1=>∃v w,vs=[v,w]/\D.nx ((Z.set i (some v)).set j (some w)) H1
theorem Hj{i j:Nat}{x y:Str}{a b:Expr}{ta:TA}{px py pt:Pos}{kt k2 pt2}(hc:X.calm=true)(hN:X.N.Nodup)(hi:X.N[i]? = some x)(hj:X.N[j]? = some y)(hij:i≠j)
  (hx:X.env.scope.names.lookup x=some .local) (hy:X.env.scope.names.lookup y=some .local) (ha:PA X [a,b] ta)
  (hw:swappedStores [.Tuple [.Name x px,.Name y py] kt pt] (.Tuple [a,b] k2 pt2) X.env=pure (some [x,y]))
  (hs:swapsWithSole [.Tuple [.Name x px,.Name y py] kt pt] (.Tuple [a,b] k2 pt2) pos.line X.env=pure false:=by rfl) :
  PS X (.Assign [.Tuple [.Name x px,.Name y py] kt pt] (.Tuple [a,b] k2 pt2) pos) (LN i j ta):=by
 intro pins s Z H D I h
 rw[exec_Assign_arm]
 refine wpAny_bind (wpAny_standAt ?_)
 rw[hs]
 refine wpAny_bind (wpAny_pure ?_)
 rw[if_neg ⋯]
 refine wpAny_bind (Tuple_ (thn (ha _ pins s Z H _ I h) fun us s1 hq0=>?_))
 obtain⟨vs,H1,I1,r1,q1⟩:=hq0
 obtain⟨v,w,e1,q1⟩:=q1
 subst e1
 obtain⟨u1,u2,rfl,rv,rw'⟩:∃u1 u2,us=[u1,u2]/\RelV v u1/\RelV w u2:=by
  cases r1 with
  |cons p q=>
   cases q with
   |cons p' q'=>
    cases q'
    exact⟨_,_,rfl,p,p'⟩
 refine wpAny_newObj_type ?_ (by show 2<=sizeLine;decide)
 have I2:Inv X pins Z H1 {s1 with heap:=s1.heap.push {cls:=.type "tuple",data:=.seq [u1,u2].toArray}}:=I1.kept (t':=s1.toks) fun b o e=>Heap.get?_push_of_some _ e
 rw[hw]
 refine wpAny_bind (wpAny_pure ?_)
 show wpAny (model X.prog X.w) X.A (do rule "assign.swapped-stores";let items <- unpackItems (.ref s1.heap.objs.size) 2 none;assignInOrder [fun v=>bindName X.env y v,fun v=>bindName X.env x v] items.reverse;pure Flow.next) _ _ _
 refine wpAny_bind (wpAny_rule (wpAny_bind (unpackItems_tuple (items:=#[u1,u2]) (I.ok.hd hc) (IsTup.new s1.heap _) fun h' hx'=>?_)))
 have I3:=I2.kept (h':=h') (t':=s1.toks) fun b o e=>hx' b o (Nat.ne_of_lt (Heap.lt_size e)) e
 show wpAny _ _ (assignInOrder [fun v=>bindName X.env y v,fun v=>bindName X.env x v] [u2,u1]>>=fun _=>pure Flow.next) _ _ _
 refine wpAny_bind (assignInOrder_cons (wpAny_bindName (eN I3 hN hj (.inl hy) rw' (fun s2 I4=>?_) (.inr hy))))
 refine assignInOrder_cons (wpAny_bindName (eN I4 hN hi (.inl hx) rv (fun s3 I5=>assignInOrder_nil (wpAny_pure ?_)) (.inr hx)))
 rw[List.set_comm _ _ (Ne.symm hij)] at I5
 exact⟨_,H1,I5,q1⟩
noncomputable def LI(i:Nat)(te:TE)(ti:TIp):TS:=fun D Z H=>∃x,Z[i]? = some (some x)/\te Z H fun y H1=>ti x y H1 fun z H2=>D.nx (Z.set i (some z)) H2
theorem Iu{i:Nat}{x:Str}{e:Expr}{te:TE}{op:Operator}{ti:TIp}{pos':Pos}(hN:X.N.Nodup)(hi:X.N[i]? = some x)(hx:Loc X.env.scope x)(he:PE X e te)(ho:PIp X op ti)(hf:X.fn x=true\/X.env.scope.names.lookup x=some .local:=by first|exact .inl rfl|exact .inr rfl|assumption) :
  PS X (.AugAssign (.Name x pos') op e pos) (LI i te ti):=by
 intro pins s Z H D I h
 obtain⟨v,e1,h⟩:=h
 obtain⟨m,hn,hl⟩:=I.loc
 have vis:Vis X.env.scope x:=by rcases hx with k|k;exact .inl k;exact .inr (.inl k)
 obtain⟨u,r,l⟩:=hl i x v hi e1 vis
 refine wpAny_AugAssign_Name ?_
 have go:wpAny (model X.prog X.w) X.A (eval e X.env) (fun w io=>wpAny (model X.prog X.w) X.A (inplaceOp op u w) (fun r am=>wpAny (model X.prog X.w) X.A (storeName X.env x r) (fun _=>SP X pins D .next) X.xe am) X.xe io) X.xe s:=by
  refine thn (he pins s Z H _ I h) fun w s1 hq0=>?_
  obtain⟨y,H1,I1,r1,q1⟩:=hq0
  refine thn (ho pins s1 Z H1 v y u w _ I1 r r1 q1) fun z s2 hq0=>?_
  obtain⟨zv,H2,I2,r2,q2⟩:=hq0
  exact eN I2 hN hi hx r2 (fun s3 I3=>⟨_,H2,I3,q2⟩) hf
 rcases l with ⟨hk,hm⟩|⟨hk,c,hc,hcell⟩
 ·exact wpAny_loadName_local I.ok.kind hk hn hm go
 ·rcases hk with hk|hk
  ·exact wpAny_loadName_cell I.ok.kind hk hc hcell go
  ·rcases hx with k|k
   ·have:X.env.scope.names.lookup x=some .free:=hk
    rw[k] at this;cases this
   ·have:X.env.scope.names.lookup x=some .free:=hk
    rw[k] at this;cases this
noncomputable def ipI(f:Int->Int->Int):TIp:=fun x y H Q=>∃i j,x = .int i/\y = .int j/\Q (.int (f i j)) H
theorem Hz:PIp X .Add (ipI fun i j=>i+j):=by
 intro pins s Z H x y v u Q I r1 r2 h
 obtain⟨i,j,e1,e2,q⟩:=h
 subst e1;subst e2
 obtain⟨t,rfl⟩:=r1
 obtain⟨t',rfl⟩:=r2
 exact iadd_int ⟨.int _,H,I.tok _,⟨_,rfl⟩,q⟩
end
section
variable {X:Cx}{pos:Pos}
noncomputable def GN(c:TT)(tb:TS):TS:=fun D Z H=>∃W:Nat->St->Hp->Prop,(∃m,W m Z H)/\∀m Z H,W m Z H ->
 c Z H fun b H1=>if b=true then ∃N:St->Hp->Prop,(∀al H',N al H'->∃m',m'<m/\W m' al H')/\tb {D with nx:=N,ct:=N,bk:=D.nx} Z H1 else D.nx Z H1
theorem zS{c:Expr}{body:List Stmt}{tc:TT}{tb:TS}(hp:PassesOwn (model X.prog X.w) X.A X.env X.xe)(hc:PT X c tc)(hb:PSs X body tb):PS X (.While c body [] pos) (GN tc tb):=by
 intro pins s Z H D I h
 obtain⟨W,⟨m0,w0⟩,turn⟩:=h
 refine wpAny_While (codeAny_whileLoop (fun n s'=>∃al H',Inv X pins al H' s'/\W n al H') ?_ m0 ⟨Z,H,I,w0⟩)
 rintro n s1 ⟨ls,H1,I1,w1⟩
 refine wpAny_passesOwn hp (thn (hc pins s1 ls H1 _ I1 (turn n ls H1 w1)) fun b s2 hq0=>?_)
 obtain⟨H2,I2,q2⟩:=hq0
 cases b with
 |true=>
  obtain⟨N,hN,q2⟩:=q2
  rw[if_pos rfl]
  refine wpAny_passesOwn hp (thn (hb pins s2 ls H2 _ I2 q2) fun f s3 q3=>?_)
  cases f with
  |next=>
   obtain⟨jp,H3,I3,n3⟩:=q3
   obtain⟨m',hm,w3⟩:=hN jp H3 n3
   exact⟨m',hm,jp,H3,I3,w3⟩
  |cont=>
   obtain⟨jp,H3,I3,n3⟩:=q3
   obtain⟨m',hm,w3⟩:=hN jp H3 n3
   exact⟨m',hm,jp,H3,I3,w3⟩
  |brk=>exact q3
  |ret v=>exact q3
 |false=>
  rw[if_neg Bool.false_ne_true]
  exact wpAny_execs_nil ⟨ls,H2,I2,q2⟩
end
structure It where
 go:Nat->Hp->Prop
 yld:Nat->Hp->V->Hp->Prop
 stop:Nat->Hp->Prop
noncomputable def pS(X:Cx)(pins:List (Addr×Obj))(H:Hp)(b:Addr):Prop:=
 H b=none/\b≠X.env.locals/\b ∉ X.fs/\(b∈X.ex\/X.db.heap.objs.size<=b)/\(∀x c,X.env.cells.lookup x=some c->c≠b)/\∀p∈X.pn++pins,p.1≠b
theorem Inv.BD{X:Cx}{pins:List (Addr×Obj)}{Z:St}{H H':Hp}{s:Shared}{b:Addr}(I:Inv X pins Z H s)(hb:s.heap.objs.size<=b)(hn:H' b=none):pS X pins H' b:=by
 refine⟨hn,Nat.ne_of_gt (lt_of_lt_of_le I.lt hb),I.LB hb,.inr (le_trans I.sz hb),fun x c e z=>?_,fun p hp z=>?_⟩
 ·obtain⟨v,q⟩:=I.cell x c e
  exact absurd (lt_of_lt_of_le q.lt (by rw[z];exact hb)) (lt_irrefl _)
 ·exact absurd (lt_of_lt_of_le (Heap.lt_size (I.pin p hp).1) (by rw[z];exact hb)) (lt_irrefl _)
structure Turn(c:Bool)(P:Program)(w:World)(K:PySem.W.Frag)(tg:Expr)(J:It)(fp:List Addr)(it:Addr)(tn:Nat->Heap->Prop):Prop where
 mem:it∈fp
 obj:∀i h,tn i h->∀b∈fp,∃o,h.get? b=some o/\∀v,o.data≠.cell v
 keep:∀i h h',tn i h->(∀b∈fp,∀o,h.get? b=some o->h'.get? b=some o)->tn i h'
 item:∀(X:Cx),X.prog=P->X.w=w->X.K=K->(c=true->X.calm=true)->∀(i:Nat) (pins:List (Addr×Obj)) (s:Shared) (Z:St) (H:Hp) (E:Value->Shared->Prop),Inv X pins Z H s->(∀b∈fp,pS X pins H b)->tn i s.heap->J.go i H ->
  wpAny (model P w) X.A (pyNext (.ref it)) (fun r s1=>∃u,r=some u /\
   wpAny (model P w) X.A (letOwnedTupleGo tg (.ref it) u) (fun _ s2=>∃x H',Inv X pins Z H' s2/\RelV x u/\J.yld i H x H'/\tn (i+1) s2.heap/\∀b∈fp,H' b=none) E s1) E s
 done:∀(X:Cx),X.prog=P->X.w=w->X.K=K->(c=true->X.calm=true)->∀(i:Nat) (pins:List (Addr×Obj)) (s:Shared) (Z:St) (H:Hp) (E:Value->Shared->Prop),Inv X pins Z H s->(∀b∈fp,pS X pins H b)->tn i s.heap->J.stop i H ->
  wpAny (model P w) X.A (pyNext (.ref it)) (fun r s1=>r=none/\Inv X pins Z H s1) E s
 self:∀(A:Around) (i:Nat) (s:Shared) (Q:Value->Shared->Prop) (E:Value->Shared->Prop),tn i s.heap->Q (.ref it) s->wpAny (model P w) A (pyIter (.ref it)) Q E s
theorem Turn.calm{c:Bool}{P:Program}{w:World}{K:PySem.W.Frag}{tg:Expr}{J:It}{fp:List Addr}{it:Addr}{tn:Nat->Heap->Prop}(T:Turn true P w K tg J fp it tn)(h:c=true):Turn c P w K tg J fp it tn:=by subst h;exact T
noncomputable abbrev TI:=St->Hp->(It->Hp->Prop)->Prop
noncomputable def PIE(X:Cx)(pins:List (Addr×Obj))(Z:St)(tg:Expr)(R:It->Hp->Prop)(itv:Value)(s2:Shared):Prop:=
 ∃(it:Addr) (fp:List Addr) (tn:Nat->Heap->Prop) (J:It) (H':Hp),itv = .ref it/\Inv X pins Z H' s2/\Turn X.calm X.prog X.w X.K tg J fp it tn/\tn 0 s2.heap/\(∀b∈fp,pS X pins H' b)/\R J H'
noncomputable def PI(X:Cx)(tg iter:Expr)(wi:TI):Prop:=
 ∀(pins:List (Addr×Obj)) (s:Shared) (Z:St) (H:Hp) (R:It->Hp->Prop),Inv X pins Z H s->wi Z H R ->
  wpAny (model X.prog X.w) X.A (eval iter X.env) (fun v s1=>wpAny (model X.prog X.w) X.A (pyIter v) (PIE X pins Z tg R) X.xe s1) X.xe s
theorem A7{M:Model}{A:Around}{E:Value->Shared->Prop}{s:Shared}{tg:Expr}{it:Addr}{u:Value}{o:Obj}{n:String}{vs:Array Value}{Q:Unit->Shared->Prop}(ho:s.heap.get? it=some o)(hc:o.cls = .type n)(hd:o.data = .fields vs)
  (hn:["enumerate","zip","dict_itemiterator","dict_reverseitemiterator","odict_iterator","itertools.zip_longest","itertools.pairwise"].contains n=false) (hQ:Q () s):wpAny M A (letOwnedTupleGo tg (.ref it) u) Q E s:=by
 unfold letOwnedTupleGo
 cases tg<;>first
  |exact wpAny_pure hQ
  |(cases u<;>first
    |exact wpAny_pure hQ
    |(refine wpAny_bind (wpAny_load ho ?_)
      rw[hc,hd]
      show wpAny M A (if (["enumerate","zip","dict_itemiterator","dict_reverseitemiterator","odict_iterator","itertools.zip_longest","itertools.pairwise"].contains n&&vs[0]?==some (rawInt _))=true then _ else _) Q E s
      rw[if_neg (by intro h;rw[hn,Bool.false_and] at h;cases h)]
      exact wpAny_pure hQ))
noncomputable def Itl(K:PySem.W.Frag)(a:Addr):It:=
 ⟨fun i H=>∃xs x,SqL K H a xs/\xs[i]? = some x,fun i H x H'=>H'=H/\∀xs,SqL K H a xs->xs[i]? = some x,fun i H=>∃xs,SqL K H a xs/\xs.length<=i⟩
noncomputable def Itt(K:PySem.W.Frag)(a:Addr):It:=
 ⟨fun i H=>∃xs x,SqT K H a xs/\xs[i]? = some x,fun i H x H'=>H'=H/\∀xs,SqT K H a xs->xs[i]? = some x,fun i H=>∃xs,SqT K H a xs/\xs.length<=i⟩
noncomputable def Itr(lo:Int)(n:Nat):It:=⟨fun i _=>i<n,fun i H x H'=>H'=H/\x = .int (lo+i),fun i _=>n<=i⟩
theorem yV{c:Bool}{P:Program}{w:World}{K:PySem.W.Frag}{tg:Expr}(a it:Addr):Turn c P w K tg (Itl K a) [it] it (fun i h=>h.IsListIter it a i) where
 mem:=by simp
 obj:=fun i h st b hb=>by
  have e:b=it:=by simpa using hb
  subst e
  obtain⟨o,e,c,d⟩:=st
  exact⟨o,e,fun v z=>by rw[d] at z;cases z⟩
 keep:=fun i h h' st k=>st.at fun o e=>k it (by simp) o e
 item:=by
  intro X hP hw hK hc i pins s Z H E I hf st hg
  subst hP hw hK
  obtain⟨xs,x,hq,hx⟩:=hg
  obtain⟨its,rv,p,hz⟩:=I.list hq
  obtain⟨u,hu,ru⟩:=rv.get hx
  obtain⟨f0,f1,f2,f3,f4,f5⟩:=hf it (by simp)
  refine wpAny_pyNext_list_item st p.isList (x:=u) (by simpa using hu) fun h' st' sb=>?_
  have I1:Inv X pins Z H {s with heap:=h'}:=I.turned (t':=s.toks) (fun b o hb e=>(sb.2 b hb).trans e) f0 f1 f3 f4 f5
  obtain⟨o,e,c,d⟩:=id st'
  exact⟨u,rfl,A7 (s:={s with heap:=h'}) e c d ⋯ ⟨x,H,I1,ru,⟨rfl,fun ys hy=>by rw[I.uN hy hq];exact hx⟩,st',fun b hb=>(hf b hb).1⟩⟩
 done:=by
  intro X hP hw hK hc i pins s Z H E I hf st hg
  subst hP hw hK
  obtain⟨xs,hq,hx⟩:=hg
  obtain⟨its,rv,p,hz⟩:=I.list hq
  obtain⟨f0,f1,f2,f3,f4,f5⟩:=hf it (by simp)
  have hl:=rv.length
  exact pN I.wJ (I.hne f5) st p.isList (by simp;omega) fun h' eb=>⟨rfl,I.turned (t':=s.toks) (fun b o hb e=>eb b o hb e) f0 f1 f3 f4 f5⟩
 self:=fun _ _ _ _ _ st h=>wpAny_pyIter_listiter st h
theorem vC{c:Bool}{P:Program}{w:World}{K:PySem.W.Frag}{tg:Expr}(a it:Addr):Turn c P w K tg (Itt K a) [it] it (fun i h=>h.IsTupleIter it a i) where
 mem:=by simp
 obj:=fun i h st b hb=>by
  have e:b=it:=by simpa using hb
  subst e
  obtain⟨o,e,c,d⟩:=st
  exact⟨o,e,fun v z=>by rw[d] at z;cases z⟩
 keep:=fun i h h' st k=>st.at fun o e=>k it (by simp) o e
 item:=by
  intro X hP hw hK hc i pins s Z H E I hf st hg
  subst hP hw hK
  obtain⟨xs,x,hq,hx⟩:=hg
  obtain⟨its,rv,p,hz⟩:=I.tuple hq
  obtain⟨u,hu,ru⟩:=rv.get hx
  obtain⟨f0,f1,f2,f3,f4,f5⟩:=hf it (by simp)
  refine wpAny_pyNext_tuple_item st (show s.heap.IsTuple a its.toArray from p) (x:=u) (by simpa using hu) fun h' st' sb=>?_
  have I1:Inv X pins Z H {s with heap:=h'}:=I.turned (t':=s.toks) (fun b o hb e=>(sb.2 b hb).trans e) f0 f1 f3 f4 f5
  obtain⟨o,e,c,d⟩:=id st'
  exact⟨u,rfl,A7 (s:={s with heap:=h'}) e c d ⋯ ⟨x,H,I1,ru,⟨rfl,fun ys hy=>by rw[I.rq hy hq];exact hx⟩,st',fun b hb=>(hf b hb).1⟩⟩
 done:=by
  intro X hP hw hK hc i pins s Z H E I hf st hg
  subst hP hw hK
  obtain⟨xs,hq,hx⟩:=hg
  obtain⟨its,rv,p,hz⟩:=I.tuple hq
  obtain⟨f0,f1,f2,f3,f4,f5⟩:=hf it (by simp)
  have hl:=rv.length
  exact ky I.wJ (I.hne f5) st (show s.heap.IsTuple a its.toArray from p) (by simp;omega) fun h' eb=>⟨rfl,I.turned (t':=s.toks) (fun b o hb e=>eb b o hb e) f0 f1 f3 f4 f5⟩
 self:=fun _ _ _ _ _ st h=>wpAny_pyIter_tupleiter st h
theorem vy{P:Program}{w:World}{K:PySem.W.Frag}{tg:Expr}(it:Addr)(lo:Int)(n:Nat):Turn true P w K tg (Itr lo n) [it] it (fun i h=>IsRangeIter h it (lo+(i:Nat)*1) ((n:Int)-(i:Nat)) 1) where
 mem:=by simp
 obj:=fun i h st b hb=>by
  have e:b=it:=by simpa using hb
  subst e
  exact⟨_,st,fun v z=>by
   have z':Data.fields _=Data.cell v:=z
   cases z'⟩
 keep:=fun i h h' st k=>k it (by simp) _ st
 item:=by
  intro X hP hw hK hc i pins s Z H E I hf st hg
  subst hP hw hK
  obtain⟨f0,f1,f2,f3,f4,f5⟩:=hf it (by simp)
  have W:=Walks.range (prog:=X.prog) (w:=X.w) (I.ok.hd (hc rfl)) it lo 1 n
  refine W.item i s _ _ hg st fun v h' tk hv st' kk=>?_
  obtain⟨t,rfl⟩:=hv
  have I1:Inv X pins Z H {s with heap:=h',toks:=tk}:=I.turned (fun b o hb e=>kk b o (by simpa using hb) e) f0 f1 f3 f4 f5
  refine⟨_,rfl,A7 (s:={s with heap:=h',toks:=tk}) (n:="range_iterator") st' rfl rfl ⋯ ⟨.int (lo+i),H,I1,⟨t,?_⟩,⟨rfl,rfl⟩,st',fun b hb=>(hf b hb).1⟩⟩
  rw[Int.mul_one]
 done:=by
  intro X hP hw hK hc i pins s Z H E I hf st hg
  subst hP hw hK
  obtain⟨f0,f1,f2,f3,f4,f5⟩:=hf it (by simp)
  exact wpAny_pyNext_range_end (I.ok.hd (hc rfl)) st (by have:n<=i:=hg;omega) fun h' eb=>⟨rfl,I.turned (t':=s.toks) (fun b o hb e=>eb b o hb e) f0 f1 f3 f4 f5⟩
 self:=fun _ _ _ _ _ st h=>wpAny_pyIter_rangeiter st h
end L2
namespace L2
open PySem PySem.Spec PyProof.Rows
section
variable {X:Cx}{tg:Expr}
noncomputable def Kl(K:PySem.W.Frag)(tl:TE):TI:=fun Z H R=>tl Z H fun x H1=>∃a,x = .ref a/\(∃xs,SqL K H1 a xs)/\R (Itl K a) H1
noncomputable def Lg(K:PySem.W.Frag)(tl:TE):TI:=fun Z H R=>tl Z H fun x H1=>∃a,x = .ref a/\(∃xs,SqT K H1 a xs)/\R (Itt K a) H1
theorem CA{l:Expr}{tl:TE}(hl:PE X l tl):PI X tg l (Kl X.K tl):=by
 intro pins s Z H R I h
 refine thn (hl pins s Z H _ I h) fun v s1 hq0=>?_
 obtain⟨x,H1,I1,r1,q1⟩:=hq0
 obtain⟨a,e,⟨xs,hq⟩,q⟩:=q1
 subst e
 cases r1
 obtain⟨its,rv,p,hz⟩:=I1.list hq
 refine wpAny_pyIter_list p.isList ?_
 refine⟨s1.heap.objs.size,[s1.heap.objs.size],_,_,H1,rfl,I1.kept (t':=s1.toks) fun b o e=>Heap.get?_push_of_some _ e,yV a _,⟨_,Heap.get?_push_size _ rfl,rfl,rfl⟩,fun b hb=>?_,q⟩
 have e:b=s1.heap.objs.size:=by simpa using hb
 subst e
 exact I1.BD (le_refl _) (I1.hok.fresh (le_refl _))
theorem H0{l:Expr}{tl:TE}(hl:PE X l tl):PI X tg l (Lg X.K tl):=by
 intro pins s Z H R I h
 refine thn (hl pins s Z H _ I h) fun v s1 hq0=>?_
 obtain⟨x,H1,I1,r1,q1⟩:=hq0
 obtain⟨a,e,⟨xs,hq⟩,q⟩:=q1
 subst e
 cases r1
 obtain⟨its,rv,p,hz⟩:=I1.tuple hq
 refine wpAny_pyIter_tuple (show s1.heap.IsTuple a its.toArray from p) ?_
 refine⟨s1.heap.objs.size,[s1.heap.objs.size],_,_,H1,rfl,I1.kept (t':=s1.toks) fun b o e=>Heap.get?_push_of_some _ e,vC a _,⟨_,Heap.get?_push_size _ rfl,rfl,rfl⟩,fun b hb=>?_,q⟩
 have e:b=s1.heap.objs.size:=by simpa using hb
 subst e
 exact I1.BD (le_refl _) (I1.hok.fresh (le_refl _))
theorem uM(hc:X.calm=true){pins:List (Addr×Obj)}{Z:St}{H:Hp}{s:Shared}{R:It->Hp->Prop}{E:Value->Shared->Prop}{lo hi:Int}{t u v:Tok}{tk:Nat}(I:Inv X pins Z H s)(h1:-(2 ^ 62)<=lo)(h2:lo<2 ^ 62)(h3:-(2 ^ 62)<=hi)(h4:hi<2 ^ 62)
  (q:R (Itr lo (hi-lo).toNat) H):wpAny (model X.prog X.w) X.A (pyIter (.ref s.heap.objs.size)) (PIE X pins Z tg R) E {s with heap:=s.heap.push {cls:=.type "range",data:=.fields #[.int lo t,.int hi u,.int 1 v]},toks:=tk}:=by
 refine wpAny_pyIter_range (IsRange.new ..) (small_one h1 h2 h3 h4) ?_
 have I1:Inv X pins Z H {s with heap:=s.heap.push {cls:=.type "range",data:=.fields #[.int lo t,.int hi u,.int 1 v]},toks:=tk}:=I.kept fun b o e=>Heap.get?_push_of_some _ e
 refine⟨(s.heap.push {cls:=.type "range",data:=.fields #[.int lo t,.int hi u,.int 1 v]}).objs.size,[(s.heap.push {cls:=.type "range",data:=.fields #[.int lo t,.int hi u,.int 1 v]}).objs.size],_,_,H,rfl,
  I1.kept (t':=tk) fun b o e=>Heap.get?_push_of_some _ e,(vy _ lo (hi-lo).toNat).calm hc,?_,fun b hb=>?_,q⟩
 ·have e1:lo+((0:Nat):Int)*1=lo:=by simp
  have e2:(((hi-lo).toNat:Nat):Int)-((0:Nat):Int)=Builtin.Range.rangeSize lo hi 1:=by rw[rangeSize_one];split<;>omega
  show IsRangeIter _ _ (lo+((0:Nat):Int)*1) ((((hi-lo).toNat:Nat):Int)-((0:Nat):Int)) 1
  rw[e1,e2]
  exact Heap.get?_push_size _ rfl
 ·have e:b=(s.heap.push {cls:=.type "range",data:=.fields #[.int lo t,.int hi u,.int 1 v]}).objs.size:=by simpa using hb
  subst e
  exact I1.BD (le_refl _) (I1.hok.fresh (le_refl _))
noncomputable def Kg(ta:TA):TI:=fun Z H R=>ta Z H fun vs H1=>∃j:Int,vs=[.int j]/\-(2 ^ 62)<=j/\j<2 ^ 62/\R (Itr 0 j.toNat) H1
noncomputable def KH(ta:TA):TI:=fun Z H R=>ta Z H fun vs H1=>∃i j:Int,vs=[.int i,.int j]/\(-(2 ^ 62)<=i/\i<2 ^ 62/\-(2 ^ 62)<=j/\j<2 ^ 62)/\R (Itr i (j-i).toNat) H1
theorem yx{a:Expr}{ta:TA}{p pos:Pos}(hc:X.calm=true)(hg:Gl X "range")(hm:X.mg "range"=none)(ha:PA X [a] ta)(hs:starEach [a] X.env=[(false,eval a X.env)]:=by rfl):PI X tg (.Call (.Name "range" p) [a] [] pos) (Kg ta):=by
 intro pins s Z H R I h
 refine Call_ (lJ I hg hm boot_range (PyProof.Rows.callWith_type1 (thn (ha pos pins s Z H _ I h) fun us s1 hq0=>?_) hs rfl))
 obtain⟨vs,H1,I1,r1,q1⟩:=hq0
 obtain⟨j,e,q1,q2,q⟩:=q1
 subst e
 cases r1 with
 |cons r rr=>
  cases rr
  obtain⟨t,rfl⟩:=r
  exact call_range_1 (uM hc I1 ∅ ∅ q1 q2 (by simpa using q))
theorem yF{a b:Expr}{ta:TA}{p pos:Pos}(hc:X.calm=true)(hg:Gl X "range")(hm:X.mg "range"=none)(ha:PA X [a,b] ta)(hs:starEach [a,b] X.env=[(false,eval a X.env),(false,eval b X.env)]:=by rfl)(hs2:starEach [b] X.env=[(false,eval b X.env)]:=by rfl) :
  PI X tg (.Call (.Name "range" p) [a,b] [] pos) (KH ta):=by
 intro pins s Z H R I h
 refine Call_ (lJ I hg hm boot_range (PyProof.Rows.callWith_type1 (thn (ha pos pins s Z H _ I h) fun us s1 hq0=>?_) (by rw[hs,hs2]) (by rw[hs2];rfl)))
 obtain⟨vs,H1,I1,r1,q1⟩:=hq0
 obtain⟨i,j,e,⟨q1,q2,q3,q4⟩,q⟩:=q1
 subst e
 cases r1 with
 |cons r rr=>
  cases rr with
  |cons r' rr=>
   cases rr
   obtain⟨t,rfl⟩:=r
   obtain⟨t',rfl⟩:=r'
   exact call_range_2 (uM hc I1 q1 q2 q3 q4 q)
noncomputable def Ma(wi:TI)(g:TG)(tb:TS):TS:=fun D Z H=>wi Z H fun J H1=>∃W:Nat->Nat->St->Hp->Prop,(∃m,W 0 m Z H1)/\∀i m Z H,W i m Z H ->
 (J.stop i H/\D.nx Z H)\/(J.go i H/\∃N:St->Hp->Prop,(∀al H',N al H'->∃m',m'<m/\W (i+1) m' al H')/\∀x H',J.yld i H x H'->g x Z H' fun o0 H2=>tb {D with nx:=N,ct:=N,bk:=D.nx} o0 H2)
noncomputable def rG(fp:List Addr)(h:Heap):List (Addr×Obj):=fp.filterMap fun b=>(h.get? b).map fun o=>(b,o)
theorem ff{fp:List Addr}{h:Heap}{b:Addr}{o:Obj}(hb:b∈fp)(e:h.get? b=some o):(b,o)∈rG fp h:=List.mem_filterMap.mpr ⟨b,hb,by rw[e];rfl⟩
theorem yz{fp:List Addr}{h:Heap}{p:Addr×Obj}(hp:p∈rG fp h):p.1∈fp/\h.get? p.1=some p.2:=by
 obtain⟨b,hb,e⟩:=List.mem_filterMap.mp hp
 cases q:h.get? b with
 |none=>rw[q] at e;cases e
 |some o=>
  rw[q] at e
  have e':(b,o)=p:=Option.some.inj e
  subst e'
  exact⟨hb,q⟩
theorem Inv.pinned{pins:List (Addr×Obj)}{Z:St}{H:Hp}{s:Shared}{fp:List Addr}(I:Inv X pins Z H s)(hf:∀b∈fp,pS X pins H b)(ho:∀b∈fp,∃o,s.heap.get? b=some o/\∀v,o.data≠.cell v):Inv X (pins++rG fp s.heap) Z H s:=
 I.xt fun p hp=>(List.mem_append.mp hp).elim (fun z=>I.pin p (mem_append_right _ z)) fun z=>by
  obtain⟨hb,e⟩:=yz z
  obtain⟨f0,f1,f2,_⟩:=hf p.1 hb
  obtain⟨o,e',d⟩:=ho p.1 hb
  rw[e] at e';cases e'
  exact⟨e,f0,f1,f2,d⟩
theorem Inv.iQ{pins pl:List (Addr×Obj)}{Z:St}{H:Hp}{s:Shared}(I:Inv X (pins++pl) Z H s):Inv X pins Z H s:=I.xt fun p hp=>I.pin p (mem_append_right _ (mem_append_left _ hp))
theorem Ib{iter:Expr}{body:List Stmt}{wi:TI}{g:TG}{tb:TS}{pos:Pos}(hp:PassesOwn (model X.prog X.w) X.A X.env X.xe)(hc:X.calm=true)(hi:PI X tg iter wi)(hg:PG X tg g)(hb:PSs X body tb)
  (hs:∀x,foldedSetIterable iter X.env x=pure x:=by intro _;rfl):PS X (.For tg iter body [] pos) (Ma wi g tb):=by
 intro pins s Z H D I h
 refine wpAny_For (thn (hi pins s Z H _ I h) fun v s1 h1=>thn h1 fun itv s2 h2=>?_) hs
 obtain⟨it,fp,tn,J,H2,e,I2,T,st2,f2,W,⟨m0,w0⟩,turn⟩:=h2
 subst e
 have stat:∀{H':Hp},(∀b∈fp,H' b=none)->∀b∈fp,pS X pins H' b:=fun hn b hb=>⟨hn b hb,(f2 b hb).2⟩
 refine codeAny_forLoop_any (fun n s'=>∃i al H',Inv X pins al H' s'/\tn i s'.heap/\(∀b∈fp,H' b=none)/\W i n al H') ?_ m0 ⟨0,Z,H2,I2,st2,fun b hb=>(f2 b hb).1,w0⟩
 rintro n s3 ⟨i,jp,H3,I3,st3,fr3,w3⟩
 rcases turn i n jp H3 w3 with ⟨stop,qn⟩|⟨go,N,hN,step⟩
 ·refine wpAny_passesOwn hp (thn (T.done X rfl rfl rfl (fun z=>z) i pins s3 jp H3 X.xe I3 (stat fr3) st3 stop) fun r s4 hq0=>?_)
  obtain⟨hr,I4⟩:=hq0
  subst hr
  exact wpAny_execs_nil ⟨jp,H3,I4,qn⟩
 ·refine wpAny_passesOwn hp (thn (T.item X rfl rfl rfl (fun z=>z) i pins s3 jp H3 X.xe I3 (stat fr3) st3 go) fun r s4 hq0=>?_)
  obtain⟨u,hr,h4⟩:=hq0
  subst hr
  refine wpAny_passesOwn hp (thn h4 fun _ s5 hq0=>?_)
  obtain⟨x,H5,I5,r5,y5,st5,fr5⟩:=hq0
  have I5':=I5.pinned (stat fr5) (T.obj _ _ st5)
  refine wpAny_passesOwn hp (thn (hg _ s5 jp H5 x u _ I5' r5 (step x H5 y5)) fun _ s6 hq0=>?_)
  obtain⟨tz,H6,I6,q6⟩:=hq0
  refine wpAny_passesOwn hp (thn (hb _ s6 tz H6 _ I6 q6) fun f s7 q7=>?_)
  have again:∀{ld:St} {H7:Hp},Inv X (pins++rG fp s5.heap) ld H7 s7->N ld H7->∃m,m<n/\∃i al H',Inv X pins al H' s7/\tn i s7.heap/\(∀b∈fp,H' b=none)/\W i m al H':=fun {ld H7} I7 n7=>by
   obtain⟨m',hm,w7⟩:=hN ld H7 n7
   refine⟨m',hm,i+1,ld,H7,I7.iQ,T.keep _ _ _ st5 fun b hb o e=>(I7.pin (b,o) (mem_append_right _ (mem_append_right _ (ff hb e)))).1,fun b hb=>?_,w7⟩
   obtain⟨o,e,d⟩:=T.obj _ _ st5 b hb
   exact (I7.pin (b,o) (mem_append_right _ (mem_append_right _ (ff hb e)))).2.1
  cases f with
  |next=>obtain⟨ld,H7,I7,n7⟩:=q7;exact again I7 n7
  |cont=>obtain⟨ld,H7,I7,n7⟩:=q7;exact again I7 n7
  |brk=>obtain⟨ld,H7,I7,q7⟩:=q7;exact⟨ld,H7,I7.iQ,q7⟩
  |ret v=>obtain⟨x7,ld,H7,I7,r7,q7⟩:=q7;exact⟨x7,ld,H7,I7.iQ,r7,q7⟩
end
end L2
namespace L2
open PySem PySem.Spec PyProof.Rows
noncomputable abbrev R2:=V->V->Hp->VK->Prop
noncomputable def OpR(X:Cx)(f:Value->Value->Sem Value)(r:R2):Prop:=
 ∀(pins:List (Addr×Obj)) (s:Shared) (Z:St) (H:Hp) (x y:V) (v u:Value) (Q:VK),Inv X pins Z H s->RelV x v->RelV y u->r x y H Q ->
  wpAny (model X.prog X.w) X.A (f v u) (EP X pins Z Q) X.xe s
noncomputable def UnR(X:Cx)(f:Value->Sem Value)(r:V->Hp->VK->Prop):Prop:=
 ∀(pins:List (Addr×Obj)) (s:Shared) (Z:St) (H:Hp) (x:V) (v:Value) (Q:VK),Inv X pins Z H s->RelV x v->r x H Q ->
  wpAny (model X.prog X.w) X.A (f v) (EP X pins Z Q) X.xe s
noncomputable def dP(X:Cx)(f:Value)(r:List V->Hp->VK->Prop):Prop:=
 ∀(pins:List (Addr×Obj)) (s:Shared) (Z:St) (H:Hp) (xs:List V) (us:List Value) (Q:VK),Inv X pins Z H s->Vals xs us->r xs H Q ->
  wpAny (model X.prog X.w) X.A (call f us) (EP X pins Z Q) X.xe s
noncomputable def Lp(X:Cx)(r:V->Hp->(Bool->Hp->Prop)->Prop):Prop:=
 ∀(pins:List (Addr×Obj)) (s:Shared) (Z:St) (H:Hp) (x:V) (v:Value) (Q:Bool->Hp->Prop),Inv X pins Z H s->RelV x v->r x H Q ->
  wpAny (model X.prog X.w) X.A (truthy v) (TP X pins Z Q) X.xe s
noncomputable def tOp(r:R2)(ta tb:TE):TE:=fun Z H Q=>ta Z H fun x H1=>tb Z H1 fun y H2=>r x y H2 Q
noncomputable def tUn(r:V->Hp->VK->Prop)(ta:TE):TE:=fun Z H Q=>ta Z H fun x H1=>r x H1 Q
noncomputable def rI(C:Int->Int->Prop)(g:Int->Int->V):R2:=fun x y H Q=>∃i j,x = .int i/\y = .int j/\C i j/\Q (g i j) H
noncomputable def rI0(g:Int->Int->V):R2:=fun x y H Q=>∃i j,x = .int i/\y = .int j/\Q (g i j) H
noncomputable def rU(g:Int->V):V->Hp->VK->Prop:=fun x H Q=>∃i,x = .int i/\Q (g i) H
section
variable {X:Cx}{a b c:Expr}{ta tb tc:TE}{pos:Pos}
theorem GJ(ha:PE X a ta)(hb:PE X b tb){pins:List (Addr×Obj)}{s:Shared}{Z:St}{H:Hp}{R:V->V->Hp->Prop}(I:Inv X pins Z H s)
  (h:ta Z H fun x H1=>tb Z H1 fun y H2=>R x y H2) {Q:Value->Shared->Prop} {f:Value->Value->Sem Value}
  (hf:∀v u s2 x y H2,Inv X pins Z H2 s2->RelV x v->RelV y u->R x y H2->wpAny (model X.prog X.w) X.A (f v u) Q X.xe s2) :
  wpAny (model X.prog X.w) X.A (eval a X.env) (fun v bv=>wpAny (model X.prog X.w) X.A (eval b X.env) (fun u io=>wpAny (model X.prog X.w) X.A (f v u) Q X.xe io) X.xe bv) X.xe s:=by
 refine thn (ha pins s Z H _ I h) fun v s1 hq0=>?_
 obtain⟨x,H1,I1,r1,q1⟩:=hq0
 refine thn (hb pins s1 Z H1 _ I1 q1) fun u s2 hq0=>?_
 obtain⟨y,H2,I2,r2,q2⟩:=hq0
 exact hf v u s2 x y H2 I2 r1 r2 q2
theorem JE{op:Operator}{r:R2}(ho:OpR X (binaryOp op) r)(ha:PE X a ta)(hb:PE X b tb):PE X (.BinOp a op b pos) (tOp r ta tb):=by
 intro pins s Z H Q I h
 exact wpAny_BinOp (GJ ha hb I h fun v u s2 x y H2 I2 rx ry q=>ho pins s2 Z H2 x y v u Q I2 rx ry q)
theorem Jz{op:UnaryOp}{r:V->Hp->VK->Prop}(ho:UnR X (unaryOp op) r)(ha:PE X a ta):PE X (.UnaryOp op a pos) (tUn r ta):=by
 intro pins s Z H Q I h
 exact UnaryOp_ (thn (ha pins s Z H _ I h) fun v s1 ⟨x,H1,I1,r1,q1⟩=>ho pins s1 Z H1 x v Q I1 r1 q1)
theorem opI{f:Value->Value->Sem Value}{C:Int->Int->Prop}{g:Int->Int->Int}
  (rule:∀(i j:Int) (t u:Tok) (s:Shared) (Q:Value->Shared->Prop) (E:Value->Shared->Prop),C i j->Q (.int (g i j) s.toks) {s with toks:=s.toks+1}->wpAny (model X.prog X.w) X.A (f (.int i t) (.int j u)) Q E s) :
  OpR X f (rI C fun i j=>.int (g i j)):=by
 intro pins s Z H x y v u Q I rx ry h
 obtain⟨i,j,rfl,rfl,hc,q⟩:=h
 obtain⟨t,rfl⟩:=rx
 obtain⟨t',rfl⟩:=ry
 exact rule i j t t' s _ _ hc ⟨.int (g i j),H,I.tok _,⟨_,rfl⟩,q⟩
theorem J3{f:Value->Value->Sem Value}{g:Int->Int->Int}
  (rule:∀(i j:Int) (t u:Tok) (s:Shared) (Q:Value->Shared->Prop) (E:Value->Shared->Prop),Q (.int (g i j) s.toks) {s with toks:=s.toks+1}->wpAny (model X.prog X.w) X.A (f (.int i t) (.int j u)) Q E s) :
  OpR X f (rI0 fun i j=>.int (g i j)):=by
 intro pins s Z H x y v u Q I rx ry h
 obtain⟨i,j,rfl,rfl,q⟩:=h
 obtain⟨t,rfl⟩:=rx
 obtain⟨t',rfl⟩:=ry
 exact rule i j t t' s _ _ ⟨.int (g i j),H,I.tok _,⟨_,rfl⟩,q⟩
theorem D9{f:Value->Value->Sem Value}{g:Int->Int->Bool}
  (rule:∀(i j:Int) (t u:Tok) (s:Shared) (Q:Value->Shared->Prop) (E:Value->Shared->Prop),Q (.bool (g i j)) s->wpAny (model X.prog X.w) X.A (f (.int i t) (.int j u)) Q E s) :
  OpR X f (rI0 fun i j=>.bl (g i j)):=by
 intro pins s Z H x y v u Q I rx ry h
 obtain⟨i,j,rfl,rfl,q⟩:=h
 obtain⟨t,rfl⟩:=rx
 obtain⟨t',rfl⟩:=ry
 exact rule i j t t' s _ _ ⟨.bl (g i j),H,I,rfl,q⟩
noncomputable def KZ(i j:Int):Prop:=0<=j/\j<=1000000/\i.natAbs<2 ^ 64
noncomputable def Dh(i j:Int):Prop:=(-(2 ^ 64)<i/\i<2 ^ 64)\/(-(2 ^ 64)<j/\j<2 ^ 64)
theorem Dh.ok{i j:Int}(h:Dh i j):IntMulOk i j:=by
 rcases h with ⟨h1,h2⟩|⟨h1,h2⟩
 ·exact .of_left (intBits_le_64 h1 h2)
 ·exact .of_right (intBits_le_64 h1 h2)
theorem Ar:OpR X (binaryOp .Add) (rI0 fun i j=>.int (i+j)):=J3 fun _ _ _ _ _ _ _ q=>add_int q
theorem Fu:OpR X (binaryOp .Sub) (rI0 fun i j=>.int (i-j)):=J3 fun _ _ _ _ _ _ _ q=>sub_int q
theorem Du:OpR X (binaryOp .Mod) (rI (fun _ j=>j≠0) fun i j=>.int (i.fmod j)):=opI fun _ _ _ _ _ _ _ hc q=>mod_int' hc q
theorem E6:OpR X (binaryOp .Pow) (rI KZ fun i j=>.int (i ^ j.toNat)):=opI fun _ _ _ _ _ _ _ hc q=>pow_int_small hc.1 hc.2.1 hc.2.2 q
theorem unI{f:Value->Sem Value}{g:Int->Int}
  (rule:∀(i:Int) (t:Tok) (s:Shared) (Q:Value->Shared->Prop) (E:Value->Shared->Prop),Q (.int (g i) s.toks) {s with toks:=s.toks+1}->wpAny (model X.prog X.w) X.A (f (.int i t)) Q E s) :
  UnR X f (rU fun i=>.int (g i)):=by
 intro pins s Z H x v Q I rx h
 obtain⟨i,rfl,q⟩:=h
 obtain⟨t,rfl⟩:=rx
 exact rule i t s _ _ ⟨.int (g i),H,I.tok _,⟨_,rfl⟩,q⟩
theorem HY:UnR X (unaryOp .USub) (rU fun i=>.int (-i)):=unI fun _ _ _ _ _ q=>neg_int q
end
section
variable {X:Cx}{a b c:Expr}{ta tb tc:TE}{pos:Pos}
theorem AV:OpR X (compareOp .Lt) (rI0 fun i j=>.bl (decide (i<j))):=D9 fun _ _ _ _ _ _ _ q=>lt_int q
theorem ue:OpR X (compareOp .LtE) (rI0 fun i j=>.bl (decide (i<=j))):=D9 fun _ _ _ _ _ _ _ q=>le_int q
theorem EN:OpR X (compareOp .Gt) (rI0 fun i j=>.bl (decide (j<i))):=D9 fun _ _ _ _ _ _ _ q=>gt_int q
theorem EI:OpR X (compareOp .GtE) (rI0 fun i j=>.bl (decide (j<=i))):=D9 fun _ _ _ _ _ _ _ q=>ge_int q
theorem OpR.or{f:Value->Value->Sem Value}{r r':R2}(h:OpR X f r)(h':OpR X f r'):OpR X f (fun x y H Q=>r x y H Q\/r' x y H Q):=by
 intro pins s Z H x y v u Q I rx ry q
 rcases q with q|q
 ·exact h pins s Z H x y v u Q I rx ry q
 ·exact h' pins s Z H x y v u Q I rx ry q
theorem eD(b:Expr){op:CmpOp}(h:op≠.In:=by decide)(h2:op≠.NotIn:=by decide):behindInMarks op b=false:=by
 have e1:(op==CmpOp.In)=false:=by cases op<;>first|rfl|exact absurd rfl h
 have e2:(op==CmpOp.NotIn)=false:=by cases op<;>first|rfl|exact absurd rfl h2
 cases b<;>simp[behindInMarks,e1,e2]
theorem Cr{op:CmpOp}{r:R2}(ho:OpR X (compareOp op) r)(ha:PE X a ta)(hb:PE X b tb)(hm:behindInMarks op b=false):PE X (.Compare a [op] [b] pos) (tOp r ta tb):=by
 intro pins s Z H Q I h
 exact wpAny_Compare1 (GJ ha hb I h fun v u s2 x y H2 I2 rx ry q=>ho pins s2 Z H2 x y v u Q I2 rx ry q) hm
noncomputable def BM(t:TE):TT:=fun Z H Q=>t Z H fun x H'=>∃k,x = .bl k/\Q k H'
theorem CK{op:CmpOp}{r:R2}(ho:OpR X (compareOp op) r)(ha:PE X a ta)(hb:PE X b tb)(hm:behindInMarks op b=false):PT X (.Compare a [op] [b] pos) (BM (tOp r ta tb)):=by
 intro pins s Z H Q I h
 refine wpAny_isTrue_Compare1 (thn (ha pins s Z H _ I h) fun v s1 ⟨x,H1,I1,r1,q1⟩=>thn (hb pins s1 Z H1 _ I1 q1) fun u s2 ⟨y,H2,I2,r2,q2⟩=>
  thn (ho pins s2 Z H2 x y v u _ I2 r1 r2 q2) fun c s3 ⟨z,H3,I3,r3,k,e,q3⟩=>?_) hm
 subst e
 cases r3
 exact wpAny_truthy_bool ⟨H3,I3,q3⟩
noncomputable def BV(r r':R2)(ta tb tc:TE):TE:=fun Z H Q=>ta Z H fun x H1=>tb Z H1 fun y H2=>r x y H2 fun z H3=>∃k,z = .bl k /\
 (if k=true then tc Z H3 fun w' H4=>r' y w' H4 Q else Q (.bl false) H3)
theorem BA{op op':CmpOp}{r r':R2}(ho:OpR X (compareOp op) r)(ho':OpR X (compareOp op') r')(ha:PE X a ta)(hb:PE X b tb)(hc:PE X c tc)
  (hm:lastMarks [op,op'] [b,c]=false:=by with_unfolding_all rfl):PE X (.Compare a [op,op'] [b,c] pos) (BV r r' ta tb tc):=by
 intro pins s Z H Q I h
 refine Compare_chain (thn (ha pins s Z H _ I h) fun v s1 ⟨x,H1,I1,r1,q1⟩=>chain_link (thn (hb pins s1 Z H1 _ I1 q1) fun u s2 ⟨y,H2,I2,r2,q2⟩=>
  thn (ho pins s2 Z H2 x y v u _ I2 r1 r2 q2) fun d s3 ⟨z,H3,I3,r3,k,e,q3⟩=>?_)) hm
 subst e
 cases r3
 refine wpAny_truthy_bool ?_
 cases k with
 |false=>exact ite_ff ⟨.bl false,H3,I3,rfl,q3⟩
 |true=>exact ite_tt (chain_last (thn (hc pins s3 Z H3 _ I3 q3) fun w' s4 ⟨z',H4,I4,r4,q4⟩=>ho' pins s4 Z H4 y z' u w' Q I4 r2 r4 q4))
theorem BS{op op':CmpOp}{r r':R2}(ho:OpR X (compareOp op) r)(ho':OpR X (compareOp op') r')(ha:PE X a ta)(hb:PE X b tb)(hc:PE X c tc)
  (hm:lastMarks [op,op'] [b,c]=false:=by with_unfolding_all rfl):PT X (.Compare a [op,op'] [b,c] pos) (BM (BV r r' ta tb tc)):=by
 intro pins s Z H Q I h
 refine isTrue_chain (thn (ha pins s Z H _ I h) fun v s1 ⟨x,H1,I1,r1,q1⟩=>test_link (thn (hb pins s1 Z H1 _ I1 q1) fun u s2 ⟨y,H2,I2,r2,q2⟩=>
  thn (ho pins s2 Z H2 x y v u _ I2 r1 r2 q2) fun d s3 ⟨z,H3,I3,r3,k,e,q3⟩=>?_)) hm
 subst e
 cases r3
 refine wpAny_truthy_bool ?_
 cases k with
 |false=>
  obtain⟨k',e',q'⟩:=q3
  cases e'
  exact ite_ff ⟨H3,I3,q'⟩
 |true=>
  refine ite_tt (test_last (thn (hc pins s3 Z H3 _ I3 q3) fun w' s4 ⟨z',H4,I4,r4,q4⟩=>thn (ho' pins s4 Z H4 y z' u w' _ I4 r2 r4 q4) fun d' s5 hq0=>?_))
  obtain⟨z2,H5,I5,r5,k2,e2,q5⟩:=hq0
  subst e2
  cases r5
  exact wpAny_truthy_bool ⟨H5,I5,q5⟩
noncomputable def KW(K:PySem.W.Frag)(x:V)(H:Hp)(k:Bool):Prop:=
 match x with
 |.non=>k=false
 |.bl b=>k=b
 |.int i=>k=(i != 0)
 |.str y=>y.length<=sizeLine/\k=((y.length:Int) != 0)
 |.byt y=>y.size<=sizeLine/\k=((y.size:Int) != 0)
 |.ref p=>(∃xs,SqL K H p xs/\k = !xs.isEmpty)\/(∃xs,SqT K H p xs/\k = !xs.isEmpty)\/∃kvs,H p=some (.dK kvs)/\k = !kvs.isEmpty
 |_=>False
theorem vV{κ:Type}{kvs:List (κ×V)}{vs:List (κ×Value)}(r:KV kvs vs):(!vs.isEmpty) = !kvs.isEmpty:=by
 cases r<;>rfl
theorem pE{xs:List V}{its:List Value}(r:Vals xs its):(!its.toArray.isEmpty) = !xs.isEmpty:=by
 cases r<;>simp
theorem lz:(sizeLine:Nat)<2 ^ 63:=by rw[sizeLine_eq];decide
theorem Iq:Lp X (fun x H Q=>∃k,KW X.K x H k/\Q k H):=by
 intro pins s Z H x v Q I rx h
 obtain⟨k,e,q⟩:=h
 have hl:=lz
 have hs:sizeLine=16777216:=sizeLine_eq
 cases x with
 |non=>
  cases rx
  have e':k=false:=e
  subst e'
  exact truthy_none ⟨H,I,q⟩
 |bl b=>
  cases rx
  have e':k=b:=e
  subst e'
  exact wpAny_truthy_bool ⟨H,I,q⟩
 |int i=>
  obtain⟨t,rfl⟩:=rx
  have e':k=(i != 0):=e
  subst e'
  exact PySem.P.truthy_int ⟨H,I,q⟩
 |str y=>
  obtain⟨t,rfl⟩:=rx
  obtain⟨hy,e'⟩:y.length<=sizeLine/\k=((y.length:Int) != 0):=e
  subst e'
  exact PySem.P.truthy_str ∅ ⟨H,I.tok _,q⟩
 |byt y=>
  obtain⟨t,rfl⟩:=rx
  obtain⟨hy,e'⟩:y.size<=sizeLine/\k=((y.size:Int) != 0):=e
  subst e'
  exact PySem.W.truthy_bytes ∅ ⟨H,I.tok _,q⟩
 |ref p=>
  cases rx
  have e':(∃xs,SqL X.K H p xs/\k = !xs.isEmpty)\/(∃xs,SqT X.K H p xs/\k = !xs.isEmpty)\/∃kvs,H p=some (.dK kvs)/\k = !kvs.isEmpty:=e
  rcases e' with ⟨xs,hx,e'⟩|⟨xs,hx,e'⟩|⟨kvs,hx,e'⟩
  ·subst e'
   obtain⟨its,r,pl,hz⟩:=I.list hx
   have hlen:=r.length
   exact wpAny_truthy_list pl.isList (by simp only[size_toArray];omega) ⟨H,I.tok _,by rw[pE r];exact q⟩
  ·subst e'
   obtain⟨its,r,pl,hz⟩:=I.tuple hx
   have hlen:=r.length
   exact truthy_tuple pl (by simp only[size_toArray];omega) ⟨H,I.tok _,by rw[pE r];exact q⟩
  ·subst e'
   obtain⟨hz,hS,vs,r,m⟩:kvs.length<=sizeLine/\(p==sysModules)=false/\∃vs,KV kvs vs/\s.heap.DictOf (sE X.prog X.w) p vs:=I.hok p _ hx
   have hlen:kvs.length=vs.length:=Paired.length r
   exact wpAny_truthy_dict hS m ∅ ⟨H,I.tok _,by rw[vV r];exact q⟩
 |_=>exact (show False from e).elim
theorem zX(ha:PE X a ta)(he:∀whole,isTrue a X.env whole=(do let v <- whole;standAt a.pos;holding [v] (truthy v))) :
  PT X a (fun Z H Q=>ta Z H fun x H'=>∃k,KW X.K x H' k/\Q k H'):=by
 intro pins s Z H Q I h
 exact isTrue_plain (thn (ha pins s Z H _ I h) fun v s1 ⟨x,H1,I1,r1,q1⟩=>Iq pins s1 Z H1 x v Q I1 r1 q1) (he _)
theorem vals1{x:V}{us:List Value}(r:Vals [x] us):∃u,us=[u]/\RelV x u:=by
 cases r with
 |cons r1 r2=>cases r2;exact⟨_,rfl,r1⟩
theorem vals2{x y:V}{us:List Value}(r:Vals [x,y] us):∃u w',us=[u,w']/\RelV x u/\RelV y w':=by
 cases r with
 |cons r1 r2=>
  cases r2 with
  |cons r3 r4=>cases r4;exact⟨_,_,rfl,r1,r3⟩
theorem Bn:dP X (.builtin "abs") (fun xs H Q=>∃i,xs=[.int i]/\Q (.int (if i<0 then -i else i)) H):=by
 intro pins s Z H xs us Q I r h
 obtain⟨i,rfl,q⟩:=h
 obtain⟨u,rfl,t,rfl⟩:=vals1 r
 exact call_abs_int fun u tk=>⟨.int (if i<0 then -i else i),H,I.tok _,⟨_,rfl⟩,q⟩
theorem y6(hc:X.calm=true):dP X (.builtin "max") (fun xs H Q=>∃i j,xs=[.int i,.int j]/\Q (.int (if j>i then j else i)) H):=by
 intro pins s Z H xs us Q I r h
 obtain⟨i,j,rfl,q⟩:=h
 obtain⟨u,w',rfl,⟨t,rfl⟩,⟨t',rfl⟩⟩:=vals2 r
 refine max_two_ints (I.ok.hd hc) fun h' tk k=>⟨_,H,I.kept k,?_,q⟩
 by_cases hj:j>i
 ·rw[if_pos hj,if_pos hj];exact⟨_,rfl⟩
 ·rw[if_neg hj,if_neg hj];exact⟨_,rfl⟩
theorem yL(hc:X.calm=true):dP X (.builtin "min") (fun xs H Q=>∃i j,xs=[.int i,.int j]/\Q (.int (if j<i then j else i)) H):=by
 intro pins s Z H xs us Q I r h
 obtain⟨i,j,rfl,q⟩:=h
 obtain⟨u,w',rfl,⟨t,rfl⟩,⟨t',rfl⟩⟩:=vals2 r
 refine min_two_ints (I.ok.hd hc) fun h' tk k=>⟨_,H,I.kept k,?_,q⟩
 by_cases hj:j<i
 ·rw[if_pos hj,if_pos hj];exact⟨_,rfl⟩
 ·rw[if_neg hj,if_neg hj];exact⟨_,rfl⟩
theorem zo:dP X (.type "int") (fun xs H Q=>(∃i,xs=[.int i]/\Q (.int i) H)\/∃k,xs=[.bl k]/\Q (.int (if k then 1 else 0)) H):=by
 intro pins s Z H xs us Q I r h
 rcases h with ⟨i,rfl,q⟩|⟨k,rfl,q⟩
 ·obtain⟨u,rfl,t,rfl⟩:=vals1 r
  exact call_int_int ⟨.int i,H,I,⟨_,rfl⟩,q⟩
 ·obtain⟨u,rfl,r1⟩:=vals1 r
  cases r1
  exact call_int_bool ⟨.int (if k then 1 else 0),H,I.tok _,⟨_,rfl⟩,q⟩
end
end L2
namespace L2
open PySem PySem.Spec PyProof.Rows
end L2
namespace L2
open PySem PySem.Spec PyProof.Rows
structure bC(k:Nat)(A:Around):Prop where
 hd:A.handled=none
 dp:A.depth+3*k+5<recursionLimit
 un:A.units+16*k+200<cLine
theorem bC.mono{j k:Nat}{A:Around}(r:bC k A)(h:j<=k):bC j A:=⟨r.hd,by have:=r.dp;omega,by have:=r.un;omega⟩
theorem bC.deeper{k:Nat}{A:Around}(r:bC (k+1) A)(env:Env):bC k (A.deeper env):=
 ⟨r.hd,by have:=r.dp;show A.depth+1+3*k+5<_;omega,by have:=r.un;show A.units+3+16*k+200<_;omega⟩
theorem bC.depth{k:Nat}{A:Around}(r:bC k A):A.depth<recursionLimit:=by have:=r.dp;omega
theorem bC.units{k:Nat}{A:Around}(r:bC k A):A.units+64<cLine:=by have:=r.un;omega
noncomputable def Lm:TA:=fun _ H Q=>Q [] H
noncomputable def JM(ta:TE)(tr:TA):TA:=fun Z H Q=>ta Z H fun x H1=>tr Z H1 fun xs H2=>Q (x::xs) H2
section
variable {X:Cx}{e:Expr}{es:List Expr}{te:TE}{t:TA}{pos:Pos}
theorem iz:PA X [] Lm:=fun _ _ _ _ H Q I h=>Calls.spliced_nil ⟨[],H,I,.nil,h⟩
theorem cT(ha:PE X e te)(hr:PA X es t)(hs:starEach (e::es) X.env=(false,eval e X.env)::starEach es X.env:=by rfl):PA X (e::es) (JM te t):=by
 intro pos pins s Z H Q I h
 rw[hs]
 show wpAny _ _ (spliced ((false,eval e X.env)::backTo pos (starEach es X.env))) _ _ s
 refine Calls.spliced_cons (thn (ha pins s Z H _ I h) fun u s1 hq0=>?_)
 obtain⟨x,H1,I1,r1,q1⟩:=hq0
 exact thn (hr pos pins s1 Z H1 _ I1 q1) fun us s2 ⟨xs,H2,I2,r2,q2⟩=>⟨x::xs,H2,I2,.cons r1 r2,q2⟩
noncomputable def Lj(t:TA):TE:=fun Z H Q=>t Z H fun xs H1=>xs.length<=sizeLine/\∀p,H1 p=none->Q (.ref p) (upd H1 p (.tup xs))
noncomputable def LP(t:TA):TE:=fun Z H Q=>t Z H fun xs H1=>xs.length<=sizeLine/\∀p,H1 p=none->Q (.ref p) (upd H1 p (.lst xs))
theorem Hl{x1}(h:PA X es t):PE X (.Tuple es x1 pos) (Lj t):=by
 intro pins s Z H Q I hq
 refine wpAny_Tuple_spliced (thn (h pos pins s Z H _ I hq) fun us s1 ⟨xs,H1,I1,r,z,q⟩=>⟨by rw[<- r.length];exact z,?_⟩)
 have hf:H1 s1.heap.objs.size=none:=I1.hok.fresh (le_refl _)
 refine⟨.ref s1.heap.objs.size,upd H1 s1.heap.objs.size (.tup xs),I1.laid (t':=s1.toks) (fun b u e=>Heap.get?_push_of_some _ e) (le_refl _) ?_,rfl,q _ hf⟩
 exact⟨z,us,r,⟨_,Heap.get?_push_size _ rfl,rfl,_,rfl⟩⟩
theorem E8(h:PA X es t):PE X (.List es pos) (LP t):=by
 intro pins s Z H Q I hq
 refine wpAny_List_spliced (thn (h pos pins s Z H _ I hq) fun us s1 ⟨xs,H1,I1,r,z,q⟩=>⟨by rw[<- r.length];exact z,?_⟩)
 have hf:H1 s1.heap.objs.size=none:=I1.hok.fresh (le_refl _)
 refine⟨.ref s1.heap.objs.size,upd H1 s1.heap.objs.size (.lst xs),I1.laid (t':=s1.toks) (fun b u e=>Heap.get?_push_of_some _ e) (le_refl _) ?_,rfl,q _ hf⟩
 exact⟨z,us,0,r,Heap.get?_push_size _ rfl⟩
end
noncomputable abbrev Sp:=List V->Hp->VK->XK->Prop
noncomputable abbrev CXT:=List Env->Hp->Shared->XK->Value->Shared->Prop
structure uB(P:Program)(w:World)(K:PySem.W.Frag)(mg:Str->Option Value)(base:Heap)(A:Around)(outer:List Env)(s:Shared)(H:Hp):Prop where
 frames:A.frames=some outer
 mod:Mod K mg base
 bs:∀b o,base.get? b=some o->s.heap.get? b=some o/\H b=none
 bsz:base.objs.size<=s.heap.objs.size
 jT:s.heap.FunFrames base outer
 frf:∀b∈frs outer,H b=none
 hok:HOk P w H s.heap
 bare:AllBare s.gens
noncomputable def CE(outer:List Env)(P:Program)(w:World)(H:Hp)(s:Shared)(Q:VK)(u:Value)(s':Shared):Prop:=
 ∃v H',s'.os=s.os/\AllBare s'.gens/\Un (frs outer) [] H H' s.heap s'.heap/\HOk P w H' s'.heap/\RelV v u/\Q v H'
noncomputable def CR(CX:CXT)(outer:List Env)(P:Program)(w:World)(H:Hp)(s:Shared)(Q:VK)(E:XK)(r:Result)(s':Shared):Prop:=
 match r with
 |.ok (.ret u)=>CE outer P w H s Q u s'
 |.ok _=>False
 |.error e=>CX outer H s E e s'
structure dW(P:Program)(w:World)(K:PySem.W.Frag)(mg:Str->Option Value)(base:Heap)(CX:CXT)(k:Nat)(f:Addr)(fd:FuncData)(ps:List Str)(sp:Sp):Prop where
 len:∀vs H Q E,sp vs H Q E->vs.length=ps.length
 run:∀(A:Around) (outer:List Env) (s:Shared) (H:Hp) (args:Args) (us:List Value) (vs:List V) (Q:VK) (E:XK),bC k A->uB P w K mg base A outer s H->BindsTo s fd args (ps.zip us)->Vals vs us->sp vs H Q E ->
  codeAny (model P w) A (.call (.ref f) args) (CR CX outer P w H s Q E) s
theorem dW.imp{P:Program}{w:World}{K:PySem.W.Frag}{mg:Str->Option Value}{base:Heap}{CX:CXT}{k:Nat}{f:Addr}{fd:FuncData}{ps:List Str}{sp sp':Sp}(F:dW P w K mg base CX k f fd ps sp)
  (h:∀vs H Q E,sp' vs H Q E->sp vs H Q E):dW P w K mg base CX k f fd ps sp':=
 ⟨fun vs H Q E q=>F.len vs H Q E (h _ _ _ _ q),fun A outer s H args us vs Q E hr he hb hv hs=>F.run A outer s H args us vs Q E hr he hb hv (h _ _ _ _ hs)⟩
section
variable {X:Cx}{pins:List (Addr×Obj)}{Z:St}{H:Hp}{s s':Shared}
theorem Inv.GC(I:Inv X pins Z H s):uB X.prog X.w X.K X.mg X.base X.A X.stack s H:=
 ⟨I.ok.frames,I.ok.mod,I.bs,le_trans I.ok.bsz I.sz,I.stack,I.sG,I.hok,I.bare⟩
theorem Inv.after{Q:VK}{u:Value}(I:Inv X pins Z H s)(h:CE X.stack X.prog X.w H s Q u s'):EP X pins Z Q u s':=by
 obtain⟨v,H',os,bare,un,hok,r,q⟩:=h
 obtain⟨hh,g,d,t,os'⟩:=s'
 obtain rfl:os'=s.os:=os
 exact⟨v,H',I.call (h':=hh) (g':=g) (d':=d) (t':=t) (ch:=[]) un hok bare (fun b z=>absurd z (by simp)),r,q⟩
end
noncomputable def Kd(sp:Sp)(dvs:List V)(E:XK)(t:TA):TE:=fun Z H Q=>t Z H fun vs H1=>sp (vs++dvs) H1 Q E
noncomputable def Binds(K:PySem.W.Frag)(fd:FuncData)(ps:List Str)(ds:List Value):Prop:=
 ∀(s:Shared) (us:List Value),K.In s.heap->(us++ds).length=ps.length->BindsTo s fd ⟨us,[]⟩ (ps.zip (us++ds))
theorem Binds.all{K:PySem.W.Frag}{fd:FuncData}{ps:List Str}(h:∀us:List Value,us.length=ps.length->bindArgs fd ⟨us,[]⟩=pure (ps.zip us)):Binds K fd ps []:=fun s us _ hl=>by
 rw[append_nil] at hl ⊢
 exact .of_eq (h us hl)
noncomputable def Passes(CX:CXT)(X:Cx)(E:XK):Prop:=∀(pins:List (Addr×Obj)) (Z:St) (H:Hp) (s:Shared) (e:Value) (s':Shared),Inv X pins Z H s->CX X.stack H s E e s'->X.xe e s'
section
variable {X:Cx}{CX:CXT}{k:Nat}{f C:Addr}{fd:FuncData}{ps:List Str}{sp:Sp}{dvs:List V}{ds:List Value}{E:XK}{x m:Str}{p pos apos:Pos}{e o:Expr}{es:List Expr}{ta:TE}{t:TA}
theorem Fb{pins:List (Addr×Obj)}{Z:St}{H:Hp}{s:Shared}{Q:VK}{us:List Value}{vs:List V}(F:dW X.prog X.w X.K X.mg X.base CX k f fd ps sp)(hr:bC k X.A)(hb:Binds X.K fd ps ds)(hd:Vals dvs ds)(hx:Passes CX X E)
  (I:Inv X pins Z H s) (r:Vals vs us) (h:sp (vs++dvs) H Q E):wpAny (model X.prog X.w) X.A (call (.ref f) us) (EP X pins Z Q) X.xe s:=by
 have r2:Vals (vs++dvs) (us++ds):=r.append hd
 have hl:(us++ds).length=ps.length:=by rw[<- r2.length];exact F.len _ _ _ _ h
 refine wpAny_call (codeAny_mono (F.run X.A X.stack s H ⟨us,[]⟩ (us++ds) (vs++dvs) Q E hr I.GC (hb s us I.kIn hl) r2 h) fun r s' hq=>?_)
 cases r with
 |error e=>exact hx pins Z H s e s' I hq
 |ok fl=>
  cases fl with
  |ret u=>exact I.after hq
  |next=>exact False.elim hq
  |brk=>exact False.elim hq
  |cont=>exact False.elim hq
theorem xg(F:dW X.prog X.w X.K X.mg X.base CX k f fd ps sp)(hr:bC k X.A)(hg:Gl X x)(hm:X.mg x=some (.ref f))(hk:keepIn X.K (.ref f)=true)(hb:Binds X.K fd ps ds)(hd:Vals dvs ds)(hx:Passes CX X E)
  (ha:PA X (e::es) t) (hdb:(x==("__debug__":Str))=false:=by decide) (he:starEach (e::es) X.env=(false,eval e X.env)::starEach es X.env:=by rfl) (hpl:(backTo pos (starEach es X.env)).any (·.1)=false:=by rfl) :
  PE X (.Call (.Name x p) (e::es) [] pos) (Kd sp dvs E t):=by
 intro pins s Z H Q I h
 refine wpAny_Call_Name_kw (kr I hg hm ?_ hdb)
 refine PySem.W.callWith_K (h₀:=X.base) I.ok.mod.kin hk (thn (ha pos pins s Z H _ I h) fun us s1 ⟨vs,H1,I1,r,q⟩=>⟨I1.kIn,?_⟩) he hpl
 exact Fb F hr hb hd hx I1 r q
end
structure cP(N P:List Str)(sc:Scope):Prop where
 kind:sc.kind = .function
 co:sc.isCoroutine=false
 gen:sc.isGenerator=false
 nd:N.Nodup
 pre:N.take P.length=P
 par:∀x∈P,sc.names.lookup x=some .local\/sc.names.lookup x=some .cell
 IC:∀y∈sc.names,y.2≠.free
theorem qC{kindOf:Str->Option NameKind}{x:Str}:∀{binds:List (Str×Value)} {m:Str->Option Value},(∀v,(x,v) ∉ binds)->bindL kindOf binds m x=m x
 |[],_,_=>rfl
 |(n,v)::r,m,h=>by
  unfold bindL
  rw[qC fun w hw=>h w (mem_cons_of_mem _ hw)]
  split
  ·have:x≠n:=by rintro rfl;exact h v mem_cons_self
   simp[this]
  ·rfl
theorem rk{kindOf:Str->Option NameKind}{x:Str}:∀{binds:List (Str×Value)} {m:Str->Option Value},(∀v,(x,v) ∉ binds)->bindC kindOf binds m x=m x
 |[],_,_=>rfl
 |(n,v)::r,m,h=>by
  unfold bindC
  rw[rk fun w hw=>h w (mem_cons_of_mem _ hw)]
  split
  ·rfl
  ·have:x≠n:=by rintro rfl;exact h v mem_cons_self
   simp[this]
theorem qO{kindOf:Str->Option NameKind}{x:Str}{v:Value}:∀{P:List Str} {vs:List Value} {i:Nat} {m:Str->Option Value},P.Nodup->P[i]? = some x->vs[i]? = some v->kindOf x=some .local ->
  bindL kindOf (P.zip vs) m x=some v
 |[],_,_,_,_,h,_,_=>by simp at h
 |_::_,[],_,_,_,_,h,_=>by simp at h
 |p::P,w::vs,0,m,nd,h1,h2,hk=>by
  simp at h1 h2;subst h1;subst h2
  show bindL kindOf ((p,w)::P.zip vs) m p=_
  unfold bindL
  rw[qC fun v hv=>(List.nodup_cons.mp nd).1 (of_mem_zip hv).1,if_pos hk]
  simp
 |p::P,w::vs,i+1,m,nd,h1,h2,hk=>by
  show bindL kindOf ((p,w)::P.zip vs) m x=_
  unfold bindL
  exact qO (i:=i) (List.nodup_cons.mp nd).2 (by simpa using h1) (by simpa using h2) hk
theorem qR{kindOf:Str->Option NameKind}{x:Str}{v:Value}:∀{P:List Str} {vs:List Value} {i:Nat} {m:Str->Option Value},P.Nodup->P[i]? = some x->vs[i]? = some v->kindOf x≠some .local ->
  bindC kindOf (P.zip vs) m x=some v
 |[],_,_,_,_,h,_,_=>by simp at h
 |_::_,[],_,_,_,_,h,_=>by simp at h
 |p::P,w::vs,0,m,nd,h1,h2,hk=>by
  simp at h1 h2;subst h1;subst h2
  show bindC kindOf ((p,w)::P.zip vs) m p=_
  unfold bindC
  rw[rk fun v hv=>(List.nodup_cons.mp nd).1 (of_mem_zip hv).1,if_neg hk]
  simp
 |p::P,w::vs,i+1,m,nd,h1,h2,hk=>by
  show bindC kindOf ((p,w)::P.zip vs) m x=_
  unfold bindC
  exact qR (i:=i) (List.nodup_cons.mp nd).2 (by simpa using h1) (by simpa using h2) hk
noncomputable def start(N:List Str)(vs:List V):St:=vs.map some++List.replicate (N.length-vs.length) none
noncomputable def eG(CX:CXT)(P:Program)(w:World)(K:PySem.W.Frag)(mg:Str->Option Value)(base:Heap)(N:List Str)(qual:Str)(scope:Scope)(f:Addr)(cd:Value)(A:Around)(outer:List Env)(s:Shared)(H:Hp)(E:XK):Cx where
 prog:=P
 w:=w
 K:=K
 mg:=mg
 base:=base
 A:=A.deeper (envOfC qual scope s.heap.objs.size f cd)
 N:=N
 db:=s
 H₀:=H
 env:=envOfC qual scope s.heap.objs.size f cd
 outer:=outer
 stack:=envOfC qual scope s.heap.objs.size f cd::outer
 ex:=[]
 calm:=true
 fn:=fun _=>true
 pn:=[]
 xe:=fun e s'=>wpAny (model P w) (A.deeper (envOfC qual scope s.heap.objs.size f cd)) (leaving (envOfC qual scope s.heap.objs.size f cd) e) (fun _ s''=>CX outer H s E e s'') (fun e' s''=>CX outer H s E e' s'') s'
theorem tX{sc:Scope}{n:Nat}{x:Str}(h:sc.names.lookup x=some .cell):∃c,(cellsFrom n sc.names []).lookup x=some c:=by
 have q:=PySem.W.cellsFrom_some sc.names n [] (.inl h)
 exact Option.isSome_iff_exists.mp q
theorem qM{CX:CXT}{P:Program}{w:World}{K:PySem.W.Frag}{mg:Str->Option Value}{base:Heap}{N ps:List Str}{qual:Str}{scope:Scope}{f:Addr}{cd:Value}{A:Around}{outer:List Env}{s s1:Shared}{H:Hp}{E:XK}{us:List Value}{vs:List V}
  (S:cP N ps scope) (hd:A.handled=none) (e0:uB P w K mg base A outer s H) (hl:vs.length=ps.length) (r:Vals vs us)
  (x:InCallC s s.heap.objs.size (bindL (envOfC qual scope s.heap.objs.size f cd).kindOf (ps.zip us) fun _=>none) (cellsFrom (s.heap.objs.size+1) scope.names []) (bindC (envOfC qual scope s.heap.objs.size f cd).kindOf (ps.zip us) fun _=>none) s1) :
  Inv (eG CX P w K mg base N qual scope f cd A outer s H E) [] (start N vs) H s1:=by
 have hpl:ps.length<=N.length:=by have:=congrArg List.length S.pre;rw[length_take] at this;omega
 obtain⟨h1,tk,rfl,hk⟩:=x.done
 have noA:∀b:Addr,b ∉ (eG CX P w K mg base N qual scope f cd A outer s H E).ex:=fun b z=>absurd (show b∈([]:List Addr) from z) (by simp)
 refine⟨⟨e0.mod,S.kind,rfl,rfl,le_refl _,fun y z c h1 h2=>?_,fun y hy=>?_,fun y c _ h=>?_,fun _=>hd,.inl hd,Around.frames_deeper e0.frames,.inr ⟨rfl,rfl⟩,fun b z=>absurd z (noA b),e0.bs,e0.bsz,fun b _ _=>noA b,fun b z=>absurd z (noA b),e0.jT,e0.frf⟩,
  rfl,e0.bare,Un.kept hk,⟨_,x.toInCall.ns,fun i y v h1 h2 h3=>?_⟩,fun y c h=>⟨_,x.cell y c h⟩,e0.hok.fresh (le_refl _),fun y c h=>?_,fun p hp=>absurd (show p∈([]:List (Addr×Obj)) from hp) (by simp),e0.hok.kept hk,?_⟩
 ·exact name_of_addr x.apart (mem_of_lookup h1) (mem_of_lookup h2)
 ·have hy:scope.names.lookup y=some .cell\/scope.names.lookup y=some .free:=hy
  rcases hy with hy|hy
  ·exact tX hy
  ·exact absurd rfl (S.IC _ (mem_of_lookup hy))
 ·exact Nat.le_of_lt (x.above y c (mem_of_lookup h))
 ·have hi:i<vs.length:=by
   unfold start at h2
   by_cases hi:i<vs.length
   ·exact hi
   ·rw[List.getElem?_append_right (by simpa using hi)] at h2
    rw[List.getElem?_replicate] at h2
    split at h2<;>cases h2
  have ha:vs[i]? = some v:=by
   unfold start at h2
   rw[List.getElem?_append_left (by simpa using hi),getElem?_map] at h2
   cases e:vs[i]? with
   |none=>rw[e] at h2;cases h2
   |some a=>rw[e] at h2;cases h2;rfl
  obtain⟨u,hu,rv⟩:=r.get ha
  have hp:ps[i]? = some y:=by
   rw[<- S.pre,List.getElem?_take_of_lt ∅];exact h1
  have ndP:ps.Nodup:=by rw[<- S.pre];exact S.nd.sublist (List.take_sublist _ _)
  refine⟨u,rv,?_⟩
  rcases S.par y (mem_of_getElem? hp) with k|k
  ·exact .inl ⟨k,qO ndP hp hu k⟩
  ·obtain⟨c,e⟩:=tX (n:=s.heap.objs.size+1) k
   refine .inr ⟨.inl k,c,e,?_⟩
   have q:=x.cell y c e
   rw[qR ndP hp hu (by show scope.names.lookup y≠_;rw[k];decide)] at q
   exact q
 ·exact e0.hok.fresh (Nat.le_of_lt (x.above y c (mem_of_lookup h)))
 ·unfold start
  show _=N.length
  rw[length_append,length_map,List.length_replicate]
  omega
theorem Ep{CX:CXT}{P:Program}{w:World}{K:PySem.W.Frag}{mg:Str->Option Value}{base:Heap}{k:Nat}{f:Addr}{name qual:Str}{params:Arguments}{body:List Stmt}{scope:Scope}{dV kV doc pm cdv ct oc:Value}{an od:Option Addr}
  {osl:Array (Option Value)} {N ps:List Str} {sp:Sp} (lk:K.lookup f=some ⟨oc,od,.func (fnOf name qual params body scope dV kV doc pm an cdv ct),osl⟩) (hcd:codeIn K cdv qual=true) (S:cP N ps scope)
  (len:∀vs H Q E,sp vs H Q E->vs.length=ps.length)
  (hbody:∀(A:Around) (outer:List Env) (s:Shared) (H:Hp) (vs:List V) (Q:VK) (E:XK),bC k (A.deeper (envOfC qual scope s.heap.objs.size f cdv))->sp vs H Q E ->
   ∃t,PSs (eG CX P w K mg base N qual scope f cdv A outer s H E) body t/\t {nx:=fun _ H'=>Q .non H',rt:=Q} (start N vs) H) :
  dW P w K mg base CX (k+1) f (fnOf name qual params body scope dV kV doc pm an cdv ct) ps sp:=by
 refine⟨len,fun A outer s H args us vs Q E hr e0 hb r hsp=>?_⟩
 have hl:=len _ _ _ _ hsp
 have KX:K.In s.heap:=e0.mod.kin.keeps fun b o e=>(e0.bs b o e).1
 have lim:s.heap.NoLimit:=e0.mod.nolimit.keeps fun b o e=>(e0.bs b o e).1
 have hkind:∀y∈ps.zip us,scope.names.lookup y.1=some .local\/(scope.names.lookup y.1=some .cell/\((cellsFrom (s.heap.objs.size+1) scope.names []).lookup y.1).isSome=true):=fun ⟨n,v⟩ hy=>by
  rcases S.par n (of_mem_zip hy).1 with q|q
  ·exact .inl q
  ·exact .inr ⟨q,PySem.W.cellsFrom_some _ _ _ (.inl q)⟩
 refine codeAny_call_function hr.depth (KX _ _ lk) rfl S.co S.gen rfl (PySem.W.codeRec_of KX hcd) (hb _ _ _ _ ?_)
 refine wpAny_newFunctionEnv_cells S.kind hkind fun env he s1 x=>?_
 subst he
 refine⟨lim.keeps x.toInCall.keep,codeAny_func ?_⟩
 obtain⟨t,ht,hq⟩:=hbody A outer s H vs Q E (hr.deeper _) hsp
 have I:Inv (eG CX P w K mg base N qual scope f cdv A outer s H E) [] (start N vs) H s1:=qM S hr.hd e0 hl r x
 refine wpAny_mono (ht [] s1 (start N vs) H _ I hq) (fun fl s' hs=>?_) fun e s' hs=>hs
 have fin:∀{al:St} {H':Hp} {v:V} {u:Value},Inv (eG CX P w K mg base N qual scope f cdv A outer s H E) [] al H' s'->RelV v u->Q v H'->CE outer P w H s Q u s':=
  fun {al H' v u} J rv q=>⟨v,H',J.os,J.bare,J.base,J.hok,rv,q⟩
 cases fl with
 |ret u=>
  obtain⟨v,al,H',J,rv,q⟩:=hs
  exact fin J rv q
 |next=>
  obtain⟨al,H',J,q⟩:=hs
  exact fin (v:=V.non) (u:=Value.none) J rfl q
 |brk=>
  obtain⟨_,_,_,q⟩:=hs
  exact False.elim q
 |cont=>
  obtain⟨_,_,_,q⟩:=hs
  exact False.elim q
end L2
namespace L2
open PySem PySem.Spec PyProof.Rows
section
variable {X:Cx}{x:Str}{p pos:Pos}{e:Expr}{es:List Expr}{t:TA}{id T:String}{r:List V->Hp->VK->Prop}
noncomputable def tCB(r:List V->Hp->VK->Prop)(t:TA):TE:=fun Z H Q=>t Z H fun vs H1=>r vs H1 Q
theorem jZ(hc:dP X (.builtin id) r)(hg:Gl X x)(hm:X.mg x=none)(hv:bootBuiltins x=some (.builtin id))(ha:PA X (e::es) t)(hn:x ≠ "__name__":=by decide)(hdb:(x==("__debug__":Str))=false:=by decide)
  (he:starEach (e::es) X.env=(false,eval e X.env)::starEach es X.env:=by rfl) (hpl:(backTo pos (starEach es X.env)).any (·.1)=false:=by rfl):PE X (.Call (.Name x p) (e::es) [] pos) (tCB r t):=by
 intro pins s Z H Q I h
 refine wpAny_Call_Name_kw (lJ I hg hm hv ?_ hn hdb)
 exact PyProof.Rows.callWith_builtin1 (thn (ha pos pins s Z H _ I h) fun us s1 ⟨vs,H1,I1,r1,q1⟩=>hc pins s1 Z H1 vs us Q I1 r1 q1) he hpl
theorem zp(hc:dP X (.type T) r)(hg:Gl X x)(hm:X.mg x=none)(hv:bootBuiltins x=some (.type T))(ha:PA X (e::es) t)(hn:x ≠ "__name__":=by decide)(hdb:(x==("__debug__":Str))=false:=by decide)
  (he:starEach (e::es) X.env=(false,eval e X.env)::starEach es X.env:=by rfl) (hpl:(backTo pos (starEach es X.env)).any (·.1)=false:=by rfl):PE X (.Call (.Name x p) (e::es) [] pos) (tCB r t):=by
 intro pins s Z H Q I h
 refine wpAny_Call_Name_kw (lJ I hg hm hv ?_ hn hdb)
 exact PyProof.Rows.callWith_type1 (thn (ha pos pins s Z H _ I h) fun us s1 ⟨vs,H1,I1,r1,q1⟩=>hc pins s1 Z H1 vs us Q I1 r1 q1) he hpl
end
end L2
namespace HT
open PySem PyProof.Rows
section
open PySem.SeqAt
open PySem.AutoSeq1 (wpAny_loadPart')
open PySem.MeetsSeq PySem.MeetsSeq2 PySem.MeetsSeq3
end
section
variable {prog:Program}{w:World}{A:Around}{E:Value->Shared->Prop}{s:Shared}
theorem DF{t b:Addr}{vs ws:List Value}{Q:Value->Shared->Prop}(ht:IsTup s.heap t vs.toArray)(hb:IsTup s.heap b ws.toArray)(hv:vs≠[])
  (h1:ws=[]->Q (.ref t) s) (h2:ws≠[]->Q (.ref s.heap.objs.size) {s with heap:=s.heap.push {cls:=.type "tuple",data:=.seq (vs++ws).toArray}})
  (hsz:vs.length+ws.length<=sizeLine):wpAny (model prog w) A (binaryOp .Add (.ref t) (.ref b)) Q E s:=by
 obtain⟨⟨cls,dd,data,sl⟩,ho,hc,n,hd⟩:=id ht
 obtain⟨⟨cls2,dd2,data2,sl2⟩,ho2,hc2,n2,hd2⟩:=id hb
 simp only at hc hd hc2 hd2
 subst hc hd hc2 hd2
 have e:vs.toArray++ws.toArray=(vs++ws).toArray:=by simp
 by_cases hw:ws=[]
 ·exact concat_meets ⟨_,ho,rfl⟩ ⟨_,ho2,rfl⟩ noFill_tuple_add seq_tuple_add PySem.F.slot_tuple_add PySem.F.entry_tuple_add (PySem.F.args_tuple_add_2 _ _)
   (tuple_addW1 t b vs.toArray ws.toArray n n2 dd dd2 sl sl2 (by simpa using hv) (by simp[hw])) ⟨ho,ho2,h1 hw⟩
 ·refine concat_meets ⟨_,ho,rfl⟩ ⟨_,ho2,rfl⟩ noFill_tuple_add seq_tuple_add PySem.F.slot_tuple_add PySem.F.entry_tuple_add (PySem.F.args_tuple_add_2 _ _)
   (tuple_addW2 t b vs.toArray ws.toArray n n2 dd dd2 sl sl2 (by simpa using hv) (by simpa using hw) (by rw[size_toArray,size_toArray];exact hsz)) ⟨ho,ho2,?_⟩
  rw[e]
  exact h2 hw
noncomputable def sIx(n d:Nat):Option Int->Nat
 |none=>d
 |some v=>if v<0 then (v+(n:Int)).toNat else min v.toNat n
theorem E7(n d:Nat)(hd:d<=n)(o:Option Int):sIx n d o<=n:=by
 cases o with
 |none=>exact hd
 |some v=>
  show (if v<0 then (v+(n:Int)).toNat else min v.toNat n)<=n
  by_cases hv:v<0
  ·rw[if_pos hv];omega
  ·rw[if_neg hv];exact Nat.min_le_right _ _
theorem nV(v:Int)(n d:Nat):(if v<0 then max (v+(n:Int)) 0 else min v (n:Int))=((sIx n d (some v):Nat):Int):=by
 show _=(((if v<0 then (v+(n:Int)).toNat else min v.toNat n):Nat):Int)
 by_cases hv:v<0
 ·rw[if_pos hv,if_pos hv];exact (Int.toNat_eq_max _).symm
 ·rw[if_neg hv,if_neg hv,Int.min_def,Nat.min_def];obtain⟨k,rfl⟩:=Int.eq_ofNat_of_zero_le (Int.not_lt.mp hv);simp only[Int.toNat_natCast,Int.ofNat_le];split<;>rfl
theorem wk(lo hi:Option Int)(n:Nat):Builtin.Slice.sliceAdjust lo hi 1 (n:Int)=(((sIx n 0 lo:Nat):Int),((sIx n n hi:Nat):Int)):=by
 have h1:¬ ((1:Int)<0):=by omega
 unfold Builtin.Slice.sliceAdjust
 simp only[h1,if_false]
 refine Prod.ext ?_ ?_
 ·cases lo with
  |none=>rfl
  |some v=>exact nV v n 0
 ·cases hi with
  |none=>rfl
  |some v=>exact nV v n n
theorem wG(i j:Nat):Builtin.Slice.slicePlaces (i:Int) (j:Int) 1=j-i:=by
 unfold Builtin.Slice.slicePlaces
 rw[if_pos ⋯,Int.ediv_one]
 by_cases h:i<j
 ·rw[if_pos (Int.ofNat_lt.mpr h),Int.sub_add_cancel];exact Int.toNat_sub j i
 ·rw[if_neg (fun z=>h (Int.ofNat_lt.mp z)),Nat.sub_eq_zero_of_le (Nat.not_lt.mp h)];rfl
theorem pG{v:Value}{o:Option Int}{Q:Option Int->Shared->Prop}(p:IsPart v o)(h:Q o s):wpAny (model prog w) A (Builtin.Slice.slicePartIndex v) Q E s:=by
 cases p with
 |none=>exact slicePart_none h
 |int i t=>exact slicePart_int h
theorem gv{sl:Addr}{vl vu:Value}{lo hi:Option Int}{n:Nat}{Q:Int×Int×Nat->Shared->Prop}(hs:s.heap.IsSliceOf sl vl vu .none)(pl:IsPart vl lo)(pu:IsPart vu hi)
  (h:Q (((sIx n 0 lo:Nat):Int),1,sIx n n hi-sIx n 0 lo) s):wpAny (model prog w) A (Builtin.Slice.sliceApplied (.ref sl) (pure (n:Int))) Q E s:=by
 obtain⟨os,hos,hcs,hds⟩:=id hs
 unfold Builtin.Slice.sliceApplied Builtin.Slice.sliceFields
 refine wpAny_bind (wpAny_bind (wpAny_field hos hds (x:=vl) rfl (wpAny_bind (wpAny_field hos hds (x:=vu) rfl (wpAny_bind (wpAny_field hos hds (x:=.none) rfl (wpAny_pure ?_)))))))
 refine wpAny_bind (slicePart_none ?_)
 show wpAny _ _ (if ((1:Int)==0)=true then _ else _) _ _ s
 rw[if_neg ⋯]
 refine wpAny_bind (pG pl (wpAny_bind (pG pu (wpAny_bind (wpAny_pure ?_)))))
 show wpAny _ _ (match Builtin.Slice.sliceAdjust lo hi 1 (n:Int) with|(lo,hi)=>pure (lo,(1:Int),Builtin.Slice.slicePlaces lo hi 1)) _ _ s
 rw[wk lo hi n]
 show wpAny _ _ (pure (((sIx n 0 lo:Nat):Int),(1:Int),Builtin.Slice.slicePlaces ((sIx n 0 lo:Nat):Int) ((sIx n n hi:Nat):Int) 1)) _ _ s
 rw[wG]
 exact wpAny_pure h
theorem AU(xs:Array Value)(i k:Nat):((List.range k).filterMap fun (m:Nat)=>xs[((i:Int)+(m:Int)*1).toNat]?).toArray=((xs.toList.drop i).take k).toArray:=by
 have e:(fun (m:Nat)=>xs[((i:Int)+(m:Int)*1).toNat]?)=fun m=>xs[i+m]?:=by
  funext m
  have:((i:Int)+(m:Int)*1).toNat=i+m:=by omega
  rw[this]
 rw[e]
 have:=pick_run xs i k
 rw[List.filterMap_map] at this
 have e2:((fun x=>xs[x]?) ∘ fun x=>i+x)=fun m=>xs[i+m]?:=rfl
 rw[e2] at this
 rw[this]
theorem kA{t sl:Addr}{items:Array Value}{vl vu:Value}{lo hi:Option Int}{Q:Value->Shared->Prop}(ht:IsTup s.heap t items)(hs:s.heap.IsSliceOf sl vl vu .none)(pl:IsPart vl lo)(pu:IsPart vu hi)
  (hw:¬ (sIx items.size 0 lo=0/\sIx items.size items.size hi=items.size))
  (h:Q (.ref s.heap.objs.size) {s with heap:=s.heap.push {cls:=.type "tuple",data:=.seq ((items.toList.drop (sIx items.size 0 lo)).take (sIx items.size items.size hi-sIx items.size 0 lo)).toArray}})
  (hsz:items.size<=sizeLine):wpAny (model prog w) A (getItem (.ref t) (.ref sl)) Q E s:=by
 have htake:sizeOk (.seq ((items.toList.drop (sIx items.size 0 lo)).take (sIx items.size items.size hi-sIx items.size 0 lo)).toArray):=by
  show ((items.toList.drop (sIx items.size 0 lo)).take (sIx items.size items.size hi-sIx items.size 0 lo)).toArray.size<=sizeLine
  rw[size_toArray,length_take,List.length_drop,Array.length_toList]
  omega
 have hj:sIx items.size items.size hi<=items.size:=E7 _ _ (le_refl _) hi
 obtain⟨os,hos,hcs,hds⟩:=id hs
 have hTs:s.TypeIs (.ref sl) "slice":=⟨os,hos,hcs⟩
 unfold getItem
 try with_reducible refine wpAny_holding ?_
 first|refine wpAny_bind (wpAny_pure ?_)|skip
 refine wpAny_bind (wpAny_sequenceKey ht.typeIs ⋯ ?_)
 refine wpAny_bind (wpAny_callSpecial?_slot (name:=Str.ofString "__getitem__") ht.typeIs PyProof.Rows.slot_tuple_getitem
  (wpAny_call_entry PyProof.Rows.slot_tuple_getitem ht.typeIs entry_tuple_getitem ?_ (args_tuple_getitem _ _)))
 show wpAny _ _ (Builtin.Tuple.tupleItemsOf (.ref t)>>=_) _ _ s
 refine wpAny_bind (tupleItemsOf_ ht ?_)
 refine wpAny_bind (wpAny_typeOf hTs ?_)
 rw[if_pos ⋯]
 refine wpAny_bind (gv hs pl pu ?_)
 have hno:¬ ((((sIx items.size 0 lo:Nat):Int)==0&&(1:Int)==1&&(sIx items.size items.size hi-sIx items.size 0 lo)==items.size)=true):=by
  intro q
  rw[and_eq_true,and_eq_true] at q
  have q1:((sIx items.size 0 lo:Nat):Int)=0:=eq_of_beq q.1.1
  have q2:sIx items.size items.size hi-sIx items.size 0 lo=items.size:=eq_of_beq q.2
  exact hw ⟨∅,∅⟩
 show wpAny _ _ (if (((sIx items.size 0 lo:Nat):Int)==0&&(1:Int)==1&&(sIx items.size items.size hi-sIx items.size 0 lo)==items.size)=true then _ else _) _ _ s
 rw[if_neg hno,AU]
 first
  |exact wpAny_bind (m:=Builtin.Tuple.tupleExact _) (wpAny_newObj_type (wpAny_pure ⟨_,rfl,wpAny_pure h⟩) htake)
  |exact wpAny_bind (m:=Builtin.Tuple.tupleExact _) (wpAny_newObj_type (wpAny_bind (wpAny_pure (wpAny_pure ⟨_,rfl,wpAny_pure h⟩))) htake)
  |exact wpAny_bind (wpAny_bind (m:=Builtin.Tuple.tupleExact _) (wpAny_newObj_type (wpAny_pure (wpAny_pure ⟨_,rfl,wpAny_pure h⟩)) htake))
  |exact wpAny_bind (wpAny_bind (m:=Builtin.Tuple.tupleExact _) (wpAny_newObj_type (wpAny_pure ⟨_,rfl,wpAny_pure h⟩) htake))
end
end HT
namespace L2
open PySem PySem.Spec PyProof.Rows
noncomputable abbrev TO:=St->Hp->(Option Int->Hp->Prop)->Prop
noncomputable def PO(X:Cx)(e:Option Expr)(t:TO):Prop:=
 ∀(pins:List (Addr×Obj)) (s:Shared) (Z:St) (H:Hp) (Q:Option Int->Hp->Prop),Inv X pins Z H s->t Z H Q ->
  wpAny (model X.prog X.w) X.A (evalPart e X.env) (fun u s'=>∃o H',Inv X pins Z H' s'/\IsPart u o/\Q o H') X.xe s
noncomputable def DN:TO:=fun _ H Q=>Q none H
noncomputable def Jd(t:TE):TO:=fun Z H Q=>t Z H fun x H1=>∃i,x = .int i/\Q (some i) H1
section
variable {X:Cx}{e:Expr}{te:TE}{lo hi:Option Expr}{tl th:TO}{pos p2:Pos}
theorem Ea:PO X none DN:=by
 intro pins s Z H Q I h
 rw[evalPart_none]
 exact wpAny_pure ⟨none,H,I,.none,h⟩
theorem Cf(h:PE X e te):PO X (some e) (Jd te):=by
 intro pins s Z H Q I hw
 rw[evalPart_some]
 refine thn (h pins s Z H _ I hw) fun u s1 hq0=>?_
 obtain⟨x,H1,I1,r1,q1⟩:=hq0
 obtain⟨i,rfl,q⟩:=q1
 obtain⟨t,rfl⟩:=r1
 exact⟨some i,H1,I1,.int i t,q⟩
noncomputable def SlR(X:Cx)(r:V->Option Int->Option Int->Hp->VK->Prop):Prop:=
 ∀(pins:List (Addr×Obj)) (s:Shared) (Z:St) (H:Hp) (x:V) (v vl vu:Value) (lo hi:Option Int) (sl:Addr) (Q:VK),Inv X pins Z H s->RelV x v->s.heap.IsSliceOf sl vl vu .none->IsPart vl lo->IsPart vu hi->r x lo hi H Q ->
  ∃T id,typeLookup (.type T) "__getitem__"=pure (some (.builtin id))/\s.TypeIs v T/\wpAny (model X.prog X.w) X.A (getItem v (.ref sl)) (EP X pins Z Q) X.xe s
theorem SlR.or{r r':V->Option Int->Option Int->Hp->VK->Prop}(h:SlR X r)(h':SlR X r'):SlR X (fun x lo hi H Q=>r x lo hi H Q\/r' x lo hi H Q):=by
 intro pins s Z H x v vl vu lo hi sl Q I rx hs pl pu q
 rcases q with q|q
 ·exact h pins s Z H x v vl vu lo hi sl Q I rx hs pl pu q
 ·exact h' pins s Z H x v vl vu lo hi sl Q I rx hs pl pu q
noncomputable def tSl(r:V->Option Int->Option Int->Hp->VK->Prop)(te:TE)(tl th:TO):TE:=fun Z H Q=>te Z H fun x H1=>tl Z H1 fun l H2=>th Z H2 fun u H3=>r x l u H3 Q
theorem AD{r:V->Option Int->Option Int->Hp->VK->Prop}(hr:SlR X r)(he:PE X e te)(hl:PO X lo tl)(hu:PO X hi th):PE X (.Subscript e (.Slice lo hi none p2) pos) (tSl r te tl th):=by
 intro pins s Z H Q I h
 refine Subscript_ (thn (he pins s Z H _ I h) fun v s1 hq0=>?_)
 obtain⟨x,H1,I1,r1,q1⟩:=hq0
 refine wpAny_Slice (thn (hl pins s1 Z H1 _ I1 q1) fun vl s2 ⟨l,H2,I2,pl,q2⟩=>thn (hu pins s2 Z H2 _ I2 q2) fun vu s3 hq0=>?_)
 obtain⟨u,H3,I3,pu,q3⟩:=hq0
 rw[evalPart_none]
 refine wpAny_pure ?_
 have I4:Inv X pins Z H3 {s3 with heap:=s3.heap.push {cls:=.type "slice",data:=.fields #[vl,vu,.none]}}:=I3.kept (t':=s3.toks) fun b ob q=>Heap.get?_push_of_some _ q
 obtain⟨T,id,hT,ht,hg⟩:=hr pins {s3 with heap:=s3.heap.push {cls:=.type "slice",data:=.fields #[vl,vu,.none]}} Z H3 x v vl vu l u s3.heap.objs.size Q I4 r1 (Heap.IsSliceOf.new ..) pl pu q3
 show wpAny (model X.prog X.w) X.A (subscriptTail e (.Slice lo hi none p2) v (.ref s3.heap.objs.size)) (EP X pins Z Q) X.xe {s3 with heap:=s3.heap.push {cls:=.type "slice",data:=.fields #[vl,vu,.none]}}
 exact tail_any (ops:=[.ref s3.heap.objs.size,v]) ht hT hg (by with_unfolding_all rfl)
noncomputable def sD(xs:List V)(lo hi:Option Int):List V:=(xs.drop (HT.sIx xs.length 0 lo)).take (HT.sIx xs.length xs.length hi-HT.sIx xs.length 0 lo)
theorem mE(xs:List V)(lo hi:Option Int):(sD xs lo hi).length<=xs.length:=by
 unfold sD
 exact le_trans (List.length_take_le' ..) (by rw[List.length_drop];exact Nat.sub_le ..)
noncomputable def K4(K:PySem.W.Frag):V->Option Int->Option Int->Hp->VK->Prop:=fun x lo hi H Q=>∃a xs,x = .ref a/\SqT K H a xs /\
 ¬ (HT.sIx xs.length 0 lo=0/\HT.sIx xs.length xs.length hi=xs.length)/\∀p,H p=none->Q (.ref p) (upd H p (.tup (sD xs lo hi)))
theorem IL:SlR X (K4 X.K):=by
 intro pins s Z H x v vl vu lo hi sl Q I rx hs pl pu h
 obtain⟨a,xs,rfl,hx,hw,q⟩:=h
 cases rx
 obtain⟨its,r,ht,hz⟩:=I.tuple hx
 have hlen:its.toArray.size=xs.length:=by rw[size_toArray];exact r.length.symm
 refine⟨"tuple",_,PyProof.Rows.slot_tuple_getitem.lookup,ht.typeIs,?_⟩
 refine HT.kA ht hs pl pu (by rw[hlen];exact hw) ?_ (by rw[hlen];exact hz)
 rw[hlen]
 refine⟨.ref s.heap.objs.size,_,I.laid (t':=s.toks) (o:=.tup (sD xs lo hi)) (fun b ob q=>Heap.get?_push_of_some _ q) (le_refl _) ?_,rfl,q _ (I.hok.fresh (le_refl _))⟩
 exact⟨le_trans (mE xs lo hi) hz,_,(r.drop (HT.sIx xs.length 0 lo)).take (HT.sIx xs.length xs.length hi-HT.sIx xs.length 0 lo),IsTup.new _ _⟩
noncomputable def Ju(K:PySem.W.Frag):R2:=fun x y H Q=>∃a b xs ys,x = .ref a/\y = .ref b/\SqT K H a xs/\SqT K H b ys/\xs≠[]/\xs.length+ys.length<=sizeLine /\
 (ys=[]->Q (.ref a) H)/\(ys≠[]->∀p,H p=none->Q (.ref p) (upd H p (.tup (xs++ys))))
theorem Vals.si{xs:List V}{us:List Value}(r:Vals xs us):us=[]↔xs=[]:=by
 cases r with
 |nil=>simp
 |cons _ _=>simp
theorem D6:OpR X (binaryOp .Add) (Ju X.K):=by
 intro pins s Z H x y v u Q I rx ry h
 obtain⟨a,b,xs,ys,rfl,rfl,ha,hb,hx,hz,q1,q2⟩:=h
 cases rx
 cases ry
 obtain⟨its,r1,p1,_⟩:=I.tuple ha
 obtain⟨its2,r2,p2,_⟩:=I.tuple hb
 refine HT.DF p1 p2 (fun z=>hx (r1.si.mp z)) (fun z=>⟨.ref a,H,I,rfl,q1 (r2.si.mp z)⟩) (fun z=>?_) (by rw[<- r1.length,<- r2.length];exact hz)
 refine⟨.ref s.heap.objs.size,_,I.laid (t':=s.toks) (o:=.tup (xs++ys)) (fun b ob q=>Heap.get?_push_of_some _ q) (le_refl _) ?_,rfl,q2 (fun w=>z (r2.si.mpr w)) _ (I.hok.fresh (le_refl _))⟩
 exact⟨by rw[length_append];exact hz,_,r1.append r2,IsTup.new _ _⟩
end
end L2
namespace L2
open PySem PySem.Spec PyProof.Rows
noncomputable def ixN(n:Nat)(i:Int):Option Nat:=if 0<=i then (if i<n then some i.toNat else none) else if -(n:Int)<=i then some (i+n).toNat else none
noncomputable def atI{α:Type}(xs:List α)(i:Int):Option α:=(ixN xs.length i).bind fun j=>xs[j]?
theorem wY{n:Nat}{i:Int}{j:Nat}(h:ixN n i=some j):seqIndex? i n=some j/\j<n/\-(n:Int)<=i/\i<n:=by
 unfold ixN at h
 by_cases h0:0<=i
 ·rw[if_pos h0] at h
  by_cases h1:i<n
  ·rw[if_pos h1] at h
   have e:i.toNat=j:=Option.some.inj h
   exact⟨by rw[seqIndex_of h0 h1,e],∅,∅,h1⟩
  ·rw[if_neg h1] at h;cases h
 ·rw[if_neg h0] at h
  by_cases h1:-(n:Int)<=i
  ·rw[if_pos h1] at h
   have e:(i+n).toNat=j:=Option.some.inj h
   exact⟨by rw[seqIndex_neg ∅ h1,e],∅,h1,∅⟩
  ·rw[if_neg h1] at h;cases h
theorem rS{α:Type}{xs:List α}{i:Int}{v:α}(h:atI xs i=some v):∃j,seqIndex? i xs.length=some j/\xs[j]? = some v/\j<xs.length/\-(xs.length:Int)<=i/\i<xs.length:=by
 unfold atI at h
 cases e:ixN xs.length i with
 |none=>rw[e] at h;cases h
 |some j=>
  rw[e] at h
  obtain⟨h1,h2,h3,h4⟩:=wY e
  exact⟨j,h1,h,h2,h3,h4⟩
theorem fA{α:Type}{xs:List α}{j:Nat}{v:α}(h:xs[j]? = some v):atI xs (j:Int)=some v:=by
 have hj:j<xs.length:=(List.getElem?_eq_some_iff.mp h).1
 have e:ixN xs.length (j:Int)=some j:=by
  unfold ixN
  rw[if_pos ∅,if_pos ∅];simp
 unfold atI;rw[e];exact h
noncomputable def xn(b:Expr):Prop:=∀o i,subscripted b false o i=operate [o,i] (getItem o i)
noncomputable def IxR(X:Cx)(r:R2):Prop:=
 ∀(value slice:Expr) (pins:List (Addr×Obj)) (s:Shared) (Z:St) (H:Hp) (x y:V) (v u:Value) (Q:VK),Inv X pins Z H s->RelV x v->RelV y u->r x y H Q ->
  subscripted slice false v u=operate [v,u] (getItem v u)->wpAny (model X.prog X.w) X.A (subscriptTail value slice v u) (EP X pins Z Q) X.xe s
noncomputable def MtR(X:Cx)(id:String)(r:V->List V->Hp->VK->Prop):Prop:=
 ∀(pins:List (Addr×Obj)) (s:Shared) (Z:St) (H:Hp) (x:V) (xs:List V) (v:Value) (us:List Value) (Q:VK),Inv X pins Z H s->RelV x v->Vals xs us->r x xs H Q ->
  wpAny (model X.prog X.w) X.A (call (.builtin id) (v::us)) (EP X pins Z Q) X.xe s
section
variable {X:Cx}{a b:Expr}{ta tb:TE}{pos:Pos}
theorem IxR.or{r r':R2}(h:IxR X r)(h':IxR X r'):IxR X (fun x y H Q=>r x y H Q\/r' x y H Q):=by
 intro value slice pins s Z H x y v u Q I rx ry q hs
 rcases q with q|q
 ·exact h value slice pins s Z H x y v u Q I rx ry q hs
 ·exact h' value slice pins s Z H x y v u Q I rx ry q hs
theorem JA{r:R2}(hr:IxR X r)(ha:PE X a ta)(hb:PE X b tb)(hs:xn b):PE X (.Subscript a b pos) (tOp r ta tb):=by
 intro pins s Z H Q I h
 exact Subscript_ (GJ ha hb I h fun v u s2 x y H2 I2 rx ry q=>hr a b pins s2 Z H2 x y v u Q I2 rx ry q (hs _ _))
noncomputable def JC(K:PySem.W.Frag):R2:=fun x y H Q=>∃p xs i v,x = .ref p/\y = .int i/\SqL K H p xs/\atI xs i=some v/\Q v H
noncomputable def Kk(K:PySem.W.Frag):R2:=fun x y H Q=>∃p xs i v,x = .ref p/\y = .int i/\SqT K H p xs/\atI xs i=some v/\Q v H
noncomputable def Je:R2:=fun x y H Q=>∃z i c,x = .str z/\y = .int i/\z.length<=sizeLine/\atI z.cps.toList i=some c/\Q (.str ⟨#[c]⟩) H
theorem C2:IxR X (JC X.K):=by
 intro value slice pins s Z H x y v u Q I rx ry h hs
 obtain⟨p,xs,i,z,rfl,rfl,hq,he,q⟩:=h
 cases rx
 obtain⟨t,rfl⟩:=ry
 obtain⟨its,r,pl,hz⟩:=I.list hq
 obtain⟨j,h1,h2,h3,h4,h5⟩:=rS he
 obtain⟨w,ew,rw'⟩:=r.get h2
 have hl:=r.length
 have hn:=lz
 have fin:EP X pins Z Q w s:=⟨z,H,I,rw',q⟩
 by_cases h0:0<=i
 ·have hj:i.toNat=j:=by
   rw[seqIndex_of h0 h5] at h1
   exact Option.some.inj h1
  exact item_listR pl.isList h0 ∅ (by rw[hj];simpa using ew) fin hs
 ·have hj:(i+(its.toArray.size:Int)).toNat=j:=by
   rw[seqIndex_neg ∅ h4] at h1
   rw[size_toArray,<- hl]
   exact Option.some.inj h1
  exact subscriptTail_builtinR (x:=w) pl.isList.typeIs slot_list_getitem.lookup
   (wpAny_getItem_list_neg (Q:=fun r s'=>r=w/\EP X pins Z Q r s') pl.isList ∅ (by rw[size_toArray]<;>omega) ∅ (by rw[hj];simpa using ew) ⟨rfl,fin⟩) hs
theorem GQ:IxR X (Kk X.K):=by
 intro value slice pins s Z H x y v u Q I rx ry h hs
 obtain⟨p,xs,i,z,rfl,rfl,hq,he,q⟩:=h
 cases rx
 obtain⟨t,rfl⟩:=ry
 obtain⟨its,r,pl,hz⟩:=I.tuple hq
 obtain⟨j,h1,h2,h3,h4,h5⟩:=rS he
 obtain⟨w,ew,rw'⟩:=r.get h2
 have hl:=r.length
 have hn:=lz
 have fin:EP X pins Z Q w s:=⟨z,H,I,rw',q⟩
 exact subscriptTail_builtinR (x:=w) pl.typeIs slot_tuple_getitem.lookup
  (getItem_tuple (j:=j) (Q:=fun r s'=>r=w/\EP X pins Z Q r s') pl ∅ ∅ (by rw[size_toArray,<- hl];exact h1) (by simpa using ew) ⟨rfl,fin⟩) hs
theorem FC:IxR X Je:=by
 intro value slice pins s Z H x y v u Q I rx ry h hs
 obtain⟨z,i,c,rfl,rfl,hz,he,q⟩:=h
 obtain⟨t,rfl⟩:=rx
 obtain⟨t',rfl⟩:=ry
 obtain⟨j,h1,h2,h3,h4,h5⟩:=rS he
 have hl:z.cps.toList.length=z.length:=by simp[Str.length]
 rw[hl] at h1 h4 h5
 have hn:=lz
 exact tail_any (typeIs_str s z t) slot_str_getitem.lookup (getItem_str (c:=c) (by
  have e1:decide (i < -(2 ^ 63:Int))=false:=decide_eq_false ∅
  have e2:decide (i ≥ 2 ^ 63)=false:=decide_eq_false ∅
  rw[e1,e2,Bool.or_false]) (by rw[h1];simpa using h2) ⟨.str ⟨#[c]⟩,H,I.tok _,⟨_,rfl⟩,q⟩) hs
noncomputable def rIx(K:PySem.W.Frag):R2:=fun x y H Q=>JC K x y H Q\/Kk K x y H Q\/Je x y H Q
theorem rL:IxR X (rIx X.K):=C2.or (GQ.or FC)
theorem vp(its:List Value)(n j:Nat)(u:Value):Obj.mapSeq (·.setIfInBounds j u) {cls:=.type "list",data:=.seq its.toArray n} = {cls:=.type "list",data:=.seq (its.set j u).toArray n}:=by
 simp[Obj.mapSeq]
theorem Inv.lst{pins:List (Addr×Obj)}{Z:St}{H:Hp}{s:Shared}{p:Addr}{xs:List V}(I:Inv X pins Z H s)(h:H p=some (.lst xs)) :
  ∃(its:List Value) (n:Nat),Vals xs its/\s.heap.get? p=some {cls:=.type "list",data:=.seq its.toArray n}/\xs.length<=sizeLine:=by
 obtain⟨z,its,n,r,e⟩:=I.hok p _ h
 exact⟨its,n,r,e,z⟩
theorem Inv.Gj{pins:List (Addr×Obj)}{Z:St}{H:Hp}{s:Shared}{p:Addr}{xs ys:List V}{its its':List Value}{n n':Nat}{f:Obj->Obj}(I:Inv X pins Z H s)(h:H p=some (.lst xs))
  (ho:s.heap.get? p=some {cls:=.type "list",data:=.seq its.toArray n}) (hf:f {cls:=.type "list",data:=.seq its.toArray n} = {cls:=.type "list",data:=.seq its'.toArray n'}) (r:Vals ys its') (hz:ys.length<=sizeLine) (t:Nat) :
  Inv X pins Z (upd H p (.lst ys)) {s with heap:=s.heap.update p f,toks:=t}:=by
 have e:(s.heap.update p f).get? p=some {cls:=.type "list",data:=.seq its'.toArray n'}:=by
  rw[Heap.get?_update_self f ho (by rw[hf]<;>rfl),hf]
 refine I.write (x:=p) (e:=p) (by rw[h];trivial) (.inl rfl) (fun b u hb q=>(Heap.get?_update_other _ _ (Ne.symm hb)).trans q) ⟨_,e⟩ ?_
 exact⟨hz,its',n',r,e⟩
noncomputable def Kr:V->V->V->Hp->(Hp->Prop)->Prop:=fun o i v H Q=>∃p xs k j,o = .ref p/\i = .int k/\H p=some (.lst xs)/\ixN xs.length k=some j/\Q (upd H p (.lst (xs.set j v)))
theorem set_list:Jk X Kr:=by
 intro pins s Z H o i v ov iv u Q I ro ri rv h
 obtain⟨p,xs,k,j,rfl,rfl,hp,hj,q⟩:=h
 cases ro
 obtain⟨t,rfl⟩:=ri
 obtain⟨its,n,r,ho,hz⟩:=I.lst hp
 obtain⟨h1,h2,h3,h4⟩:=wY hj
 have hl:=r.length
 have hn:=lz
 have I':Inv X pins Z (upd H p (.lst (xs.set j v))) {s with heap:=s.heap.update p (Obj.mapSeq (·.setIfInBounds j u))}:=
  I.Gj hp ho (vp its n j u) (r.set rv j) (by rw[List.length_set];exact hz) s.toks
 by_cases h0:0<=k
 ·have hk:k.toNat=j:=by
   rw[seqIndex_of h0 h4] at h1
   exact Option.some.inj h1
  exact PySem.W.ki_setAt ho h0 ∅ (by rw[size_toArray,<- hl];exact h4) (by rw[hk];exact⟨_,I',q⟩)
 ·have hk:(k+(its.toArray.size:Int)).toNat=j:=by
   rw[seqIndex_neg ∅ h3] at h1
   rw[size_toArray,<- hl]
   exact Option.some.inj h1
  exact PySem.W.ki_setBack ho ∅ (by rw[size_toArray,<- hl];exact h3) ∅ (by rw[hk];exact⟨_,I',q⟩)
theorem Et(v:Int)(n:Nat):max 0 (min (if v<0 then v+(n:Int) else v) (n:Int))=(if v<0 then max (v+(n:Int)) 0 else min v (n:Int)):=by
 by_cases hv:v<0
 ·rw[if_pos hv,if_pos hv,Int.min_eq_left (Int.le_trans (Int.add_le_add_right (le_of_lt hv) n) (le_of_eq (Int.zero_add _))),Int.max_comm]
 ·rw[if_neg hv,if_neg hv,Int.max_eq_right (Int.le_min.mpr ⟨Int.not_lt.mp hv,Int.natCast_nonneg n⟩)]
theorem sW(lo hi:Option Int)(n:Nat):(sliceBounds lo hi none n).1=((HT.sIx n 0 lo:Nat):Int)/\(sliceBounds lo hi none n).2.1=((HT.sIx n n hi:Nat):Int)/\(sliceBounds lo hi none n).2.2=1:=by
 refine⟨?_,?_,rfl⟩
 ·cases lo with
  |none=>rfl
  |some i=>
   simp only[sliceBounds,Option.getD_none,show (1:Int)>0 by decide,if_true]
   exact (Et i n).trans (HT.nV i n 0)
 ·cases hi with
  |none=>rfl
  |some i=>
   simp only[sliceBounds,Option.getD_none,show (1:Int)>0 by decide,if_true]
   exact (Et i n).trans (HT.nV i n n)
theorem pY(its:List Value)(lo hi:Option Int):slicePick its.toArray lo hi none=((its.drop (HT.sIx its.length 0 lo)).take (HT.sIx its.length its.length hi-HT.sIx its.length 0 lo)).toArray:=by
 obtain⟨h1,h2,h3⟩:=sW lo hi its.toArray.size
 unfold slicePick
 rw[h1,h2,h3]
 simp only[sliceRange_one,pick_run,size_toArray]<;>rfl
noncomputable def La(K:PySem.W.Frag):V->Option Int->Option Int->Hp->VK->Prop:=fun x lo hi H Q=>∃a xs,x = .ref a/\SqL K H a xs/\∀p,H p=none->Q (.ref p) (upd H p (.lst (sD xs lo hi)))
theorem DM:SlR X (La X.K):=by
 intro pins s Z H x v vl vu lo hi sl Q I rx hs pl pu h
 obtain⟨a,xs,rfl,hx,q⟩:=h
 cases rx
 obtain⟨its,r,ht,hz⟩:=I.list hx
 have hlen:=r.length
 refine⟨"list",_,slot_list_getitem.lookup,ht.isList.typeIs,?_⟩
 refine wpAny_getItem_list_slice ht.isList hs pl pu .none (by simp) ?_ (by rw[size_toArray]<;>omega)
 rw[pY,<- hlen]
 refine⟨.ref s.heap.objs.size,_,I.laid (t':=s.toks) (o:=.lst (sD xs lo hi)) (fun b ob q=>Heap.get?_push_of_some _ q) (le_refl _) ?_,rfl,q _ (I.hok.fresh (le_refl _))⟩
 exact⟨le_trans (mE xs lo hi) hz,_,0,(r.drop (HT.sIx xs.length 0 lo)).take (HT.sIx xs.length xs.length hi-HT.sIx xs.length 0 lo),Heap.get?_push_size _ rfl⟩
theorem sd:dP X (.builtin "len") (fun xs H Q=>∃p ys,xs=[.ref p]/\(SqL X.K H p ys\/SqT X.K H p ys)/\Q (.int ys.length) H):=by
 intro pins s Z H xs us Q I r h
 obtain⟨p,ys,rfl,hq,q⟩:=h
 obtain⟨u,rfl,rx⟩:=vals1 r
 cases rx
 have hn:=lz
 rcases hq with hq|hq
 ·obtain⟨its,r',pl,hz⟩:=I.list hq
  have hlen:=r'.length
  exact Calls.call_len_list pl.isList (by simp only[size_toArray]<;>omega) ⟨.int ys.length,H,I.tok _,⟨s.toks+1,by rw[size_toArray,hlen]⟩,q⟩
 ·obtain⟨its,r',pl,hz⟩:=I.tuple hq
  have hlen:=r'.length
  exact len_tuple pl (by simp only[size_toArray]<;>omega) ⟨.int ys.length,H,I.tok _,⟨s.toks+1,by rw[size_toArray,hlen]⟩,q⟩
theorem rD:dP X (.type "list") (fun xs H Q=>∃p ys,xs=[.ref p]/\(SqL X.K H p ys\/SqT X.K H p ys)/\∀l,H l=none->Q (.ref l) (upd H l (.lst ys))):=by
 intro pins s Z H xs us Q I r h
 obtain⟨p,ys,rfl,hq,q⟩:=h
 obtain⟨u,rfl,rx⟩:=vals1 r
 cases rx
 have fin:∀(its:List Value),Vals ys its->ys.length<=sizeLine->∀(h':Heap) (c':Nat),(∀b o',s.heap.get? b=some o'->h'.get? b=some o') ->
   h'.get? s.heap.objs.size=some {cls:=.type "list",dict:=none,data:=.seq its.toArray c',slots:=#[]}->EP X pins Z Q (.ref s.heap.objs.size) {s with heap:=h'}:=fun its r' hz h' c' kp e=>
  ⟨.ref s.heap.objs.size,_,I.laid (t':=s.toks) kp (le_refl _) (show dQ X.prog X.w _ h' _ (.lst ys) from ⟨hz,its,c',r',e⟩),rfl,q _ (I.hok.fresh (le_refl _))⟩
 rcases hq with hq|hq
 ·obtain⟨its,r',pl,hz⟩:=I.list hq
  have hlen:=r'.length
  obtain⟨o,ho,hc,n,hd⟩:=pl.isList
  exact call_list_seq p (.inl rfl) ho hc hd (fun h' c' kp e=>fin its r' hz h' c' kp e) (by simp only[size_toArray]<;>omega)
 ·obtain⟨its,r',pl,hz⟩:=I.tuple hq
  have hlen:=r'.length
  obtain⟨o,ho,hc,n,hd⟩:=pl
  exact call_list_seq p (.inr rfl) ho hc hd (fun h' c' kp e=>fin its r' hz h' c' kp e) (by simp only[size_toArray]<;>omega)
theorem qh:dP X (.type "tuple") (fun xs H Q=>∃p ys,xs=[.ref p]/\((SqL X.K H p ys/\∀l,H l=none->Q (.ref l) (upd H l (.tup ys)))\/(SqT X.K H p ys/\Q (.ref p) H))):=by
 intro pins s Z H xs us Q I r h
 obtain⟨p,ys,rfl,h⟩:=h
 obtain⟨u,rfl,rx⟩:=vals1 r
 cases rx
 rcases h with ⟨hq,q⟩|⟨hq,q⟩
 ·obtain⟨its,r',pl,hz⟩:=I.list hq
  have hlen:=r'.length
  refine call_tuple_list pl.isList (fun h' kp=>?_) (by simp only[size_toArray]<;>omega)
  have I1:Inv X pins Z H {s with heap:=h'}:=I.kept (t':=s.toks) kp
  have I2:Inv X pins Z (upd H h'.objs.size (.tup ys)) {s with heap:=h'.push {cls:=.type "tuple",data:=.seq its.toArray}}:=
   I1.laid (t':=s.toks) (fun b o e=>Heap.get?_push_of_some _ e) (le_refl _) (show dQ X.prog X.w _ _ _ (.tup ys) from ⟨hz,its,r',IsTup.new _ _⟩)
  exact⟨.ref h'.objs.size,_,I2,rfl,q _ (I1.hok.fresh (le_refl _))⟩
 ·obtain⟨its,r',pl,hz⟩:=I.tuple hq
  exact call_tuple_same pl ⟨.ref p,H,I,rfl,q⟩
noncomputable def tyV(K:PySem.W.Frag)(T:String)(x:V)(H:Hp):Prop:=match x with
 |.str _=>T = "str"
 |.int _=>T = "int"
 |.ref p=>(T = "list"/\∃xs,SqL K H p xs)\/(T = "tuple"/\∃o,K.lookup p=some o/\o.cls = .type "tuple"/\o.dict=none) \/
   (T = "dict"/\((∃kvs,H p=some (.dK kvs))\/∃kvs,H p=some (.dT kvs)))\/(T = "set"/\∃S n,H p=some (.set S n))
 |_=>False
theorem Ba{pins:List (Addr×Obj)}{Z:St}{H:Hp}{s:Shared}{T:String}{x:V}{v:Value}(I:Inv X pins Z H s)(r:RelV x v)(ty:tyV X.K T x H) :
  s.TypeIs v T/\∀a,v = .ref a->∃ob,s.heap.get? a=some ob/\ob.dict=none:=by
 cases x with
 |str z=>
  obtain⟨t,rfl⟩:=r
  cases (show T = "str" from ty)
  exact⟨typeIs_str s z t,fun _ e=>nomatch e⟩
 |int i=>
  obtain⟨t,rfl⟩:=r
  cases (show T = "int" from ty)
  exact⟨typeIs_int s i t,fun _ e=>nomatch e⟩
 |ref p=>
  cases r
  rcases ty with ⟨rfl,xs,hq⟩|⟨rfl,o,hk,hc,hd⟩|⟨rfl,hk⟩|⟨rfl,S,n,hk⟩
  ·obtain⟨its,_,pl,_⟩:=I.list hq
   refine⟨pl.isList.typeIs,fun a e=>?_⟩
   cases e
   obtain⟨o,n,e,c,hd,_⟩:=pl
   exact⟨o,e,hd⟩
  ·refine⟨⟨o,I.kIn p o hk,hc⟩,fun a e=>?_⟩
   cases e
   exact⟨o,I.kIn _ o hk,hd⟩
  ·have z:∃o,s.heap.get? p=some o/\o.ExactDict:=by
    rcases hk with ⟨kvs,hk⟩|⟨kvs,hk⟩
    ·obtain⟨_,_,_,_,o,_,_,e,ex,_⟩:=I.hok p _ hk
     exact⟨o,e,ex⟩
    ·obtain⟨_,_,_,_,o,_,_,e,ex,_⟩:=I.hok p _ hk
     exact⟨o,e,ex⟩
   obtain⟨o,e,ex⟩:=z
   refine⟨⟨o,e,ex.1⟩,fun a e2=>?_⟩
   cases e2
   exact⟨o,e,ex.2.1⟩
  ·obtain⟨o,_,_,_,e,ex,_⟩:=I.hok p _ hk
   refine⟨⟨o,e,ex.1⟩,fun a e2=>?_⟩
   cases e2
   exact⟨o,e,ex.2.1⟩
 |_=>exact False.elim ty
noncomputable def LL(K:PySem.W.Frag)(T:String)(r:V->List V->Hp->VK->Prop)(to:TE):TE:=fun Z H Q=>to Z H fun x H1=>tyV K T x H1/\r x [] H1 Q
noncomputable def tBM(K:PySem.W.Frag)(T:String)(r:V->List V->Hp->VK->Prop)(to:TE)(t:TA):TE:=fun Z H Q=>to Z H fun x H1=>tyV K T x H1/\t Z H1 fun xs H2=>r x xs H2 Q
variable {o e:Expr}{es:List Expr}{to:TE}{t:TA}{name:Str}{apos cpos:Pos}{T id:String}{r:V->List V->Hp->VK->Prop}
theorem FP(pa:PlainAttrs T)(slot:Slot T name id)(hty:typeOf (.builtin id)=pure (.type "method_descriptor"))(hm:MtR X id r)(ho:PE X o to)
  (hbase:attributeBase o name X.env (eval o X.env)=eval o X.env:=by rfl) (hline:(apos.endLine==cpos.line)=true:=by rfl):PE X (.Call (.Attribute o name apos) [] [] cpos) (LL X.K T r to):=by
 intro pins s Z H Q I h
 refine wpAny_Call_method0_late hbase hline (thn (ho pins s Z H _ I h) fun v s1 hq0=>?_)
 obtain⟨x,H1,I1,r1,ty,q1⟩:=hq0
 obtain⟨h1,h2⟩:=Ba I1 r1 ty
 exact⟨T,id,pa,slot,hty,h1,h2,Calls.callWith_builtin rfl (PySem.evalArgs_none (hm pins s1 Z H1 x [] v [] Q I1 r1 .nil q1))⟩
theorem z9(pa:PlainAttrs T)(slot:Slot T name id)(hty:typeOf (.builtin id)=pure (.type "method_descriptor"))(hm:MtR X id r)(ho:PE X o to)(ha:PA X (e::es) t)
  (hbase:attributeBase o name X.env (eval o X.env)=eval o X.env:=by rfl)
  (hfew:((backTo cpos (starEach (e::es) X.env)).all (fun x=>!x.1)&&(backToKw cpos (keywordEach [] X.env)).all (fun x=>x.1.isSome)
   && decide ((e::es).length+([]:List Keyword).length+(if ([]:List Keyword).isEmpty then 0 else 1)<30))=true:=by rfl)
  (hline:(apos.endLine==cpos.line)=true:=by rfl) (hs:starEach (e::es) X.env=(false,eval e X.env)::starEach es X.env:=by rfl) (hplain:(backTo cpos (starEach es X.env)).any (·.1)=false:=by rfl) :
  PE X (.Call (.Attribute o name apos) (e::es) [] cpos) (tBM X.K T r to t):=by
 intro pins s Z H Q I h
 refine wpAny_Call_method_late hbase hfew hline rfl (thn (ho pins s Z H _ I h) fun v s1 hq0=>?_)
 obtain⟨x,H1,I1,r1,ty,q1⟩:=hq0
 obtain⟨h1,h2⟩:=Ba I1 r1 ty
 refine⟨T,id,pa,slot,hty,h1,h2,?_⟩
 have hA:=ha cpos pins s1 Z H1 _ I1 q1
 rw[hs] at hA ⊢
 refine Calls.callWith_builtin (by show (false || (backTo cpos (starEach es X.env)).any (·.1))=false;rw[hplain]<;>rfl) (Calls.evalArgs_plain ?_)
 exact thn hA fun us s2 ⟨vs,H2,I2,r2,q2⟩=>hm pins s2 Z H2 x vs v us Q I2 r1 r2 q2
end
end L2
namespace L2
open PySem PySem.Spec PyProof.Rows
noncomputable def MtM(X:Cx)(id:String)(r:V->List V->Hp->VK->Prop):Prop:=
 ∀(pins:List (Addr×Obj)) (s:Shared) (Z:St) (H:Hp) (x:V) (xs:List V) (v:Value) (us:List Value) (Q:VK),Inv X pins Z H s->RelV x v->Vals xs us->r x xs H Q ->
  wpAny (model X.prog X.w) X.A (call (.builtin id) (v::us)) (EP X pins Z Q) X.xe s
theorem Vals.one:∀{x:V} {us:List Value},Vals [x] us->∃u,us=[u]/\RelV x u
 |_,_,.cons r .nil=>⟨_,rfl,r⟩
theorem Vals.zero:∀{us:List Value},Vals [] us->us=[]
 |_,.nil=>rfl
theorem Vals.dropLast{xs:List V}{us:List Value}(h:Vals xs us):Vals xs.dropLast us.dropLast:=by
 induction h with
 |nil=>exact .nil
 |cons r t ih=>
  cases t with
  |nil=>exact .nil
  |cons q t'=>exact .cons r ih
theorem Vals.eraseIdx:∀{xs:List V} {us:List Value} (i:Nat),Vals xs us->Vals (xs.eraseIdx i) (us.eraseIdx i)
 |_,_,_,.nil=>.nil
 |_,_,0,.cons _ t=>t
 |_,_,i+1,.cons r t=>.cons r (Vals.eraseIdx i t)
theorem v9{α:Type}(l:List α):l.eraseIdx (l.length-1)=l.dropLast:=by
 induction l with
 |nil=>rfl
 |cons a r ih=>
  cases r with
  |nil=>rfl
  |cons b r=>exact congrArg (a::·) ih
theorem qJ{α:Type}:∀(l:List α) (i:Nat),(l.eraseIdx i).length<=l.length
 |[],_=>le_refl _
 |_::_,0=>Nat.le_succ _
 |_::r,i+1=>Nat.succ_le_succ (qJ r i)
section
variable {X:Cx}{pins:List (Addr×Obj)}{Z:St}{H:Hp}{s:Shared}{l b:Addr}{xs ys zs:List V}
theorem Inv.Cn{its its':List Value}{n:Nat}{f:Array Value->Array Value}{t':Nat}(I:Inv X pins Z H s)(hH:H l=some (.lst xs))
  (e:s.heap.get? l=some {cls:=.type "list",data:=.seq its.toArray n}) (hf:f its.toArray=its'.toArray) (hv:Vals ys its') (hz:ys.length<=sizeLine) :
  Inv X pins Z (upd H l (.lst ys)) {s with heap:=s.heap.update l (Obj.mapSeq f),toks:=t'}:=by
 have q:=PySem.IsL.update e f
 rw[hf] at q
 refine I.write (x:=l) (e:=l) (by rw[hH];exact trivial) (.inl rfl) (fun b' u hb hu=>(Heap.get?_update_other s.heap (Obj.mapSeq f) (Ne.symm hb)).trans hu) ⟨_,q⟩ ?_
 exact⟨hz,its',_,hv,q⟩
theorem Inv.LR{its:List Value}{t':Nat}(I:Inv X pins Z H s)(hv:Vals ys its)(hz:ys.length<=sizeLine) :
  Inv X pins Z (upd H s.heap.objs.size (.lst ys)) {s with heap:=s.heap.push {cls:=.type "list",data:=.seq its.toArray},toks:=t'}:=
 I.laid (fun _ _ q=>Heap.get?_push_of_some _ q) (le_refl _) ⟨hz,its,0,hv,Heap.get?_push_size _ rfl⟩
theorem Inv.fresh(I:Inv X pins Z H s):H s.heap.objs.size=none:=I.hok.fresh (le_refl _)
theorem Inv.wC(I:Inv X pins Z H s)(hH:H l=some (.lst xs)):xs.length<=sizeLine/\∃(its:List Value) (n:Nat),Vals xs its/\xs.length=its.length/\s.heap.get? l=some {cls:=.type "list",data:=.seq its.toArray n}:=by
 obtain⟨z,its,n,r,e⟩:=I.hok l _ hH
 exact⟨z,its,n,r,r.length,e⟩
theorem A5{n:Nat}(h:n<=sizeLine):Builtin.List.listTooLong n=false:=by
 unfold Builtin.List.listTooLong
 exact decide_eq_false ∅
end
section
variable {X:Cx}
noncomputable def CQ:V->List V->Hp->VK->Prop:=fun x vs H Q=>∃l xs y,x = .ref l/\vs=[y]/\H l=some (.lst xs)/\xs.length<sizeLine/\Q .non (upd H l (.lst (xs++[y])))
theorem qQ:MtM X "list.append" CQ:=by
 intro pins s Z H x vs v us Q I rx rv h
 obtain⟨l,xs,y,rfl,rfl,hH,hz,q⟩:=h
 cases rx
 obtain⟨u,rfl,ru⟩:=rv.one
 obtain⟨z,its,n,r,hl,e⟩:=I.wC hH
 refine call_meets F.slot_list_append ⟨_,e,rfl⟩ F.entry_list_append (F.args_list_append_2 _ _) (PySem.list_append l its.toArray n u (by rw[size_toArray];omega)) ⟨e,?_⟩
 refine⟨.non,_,I.Cn (its':=its++[u]) hH e (by simp) (r.append (.cons ru .nil)) ?_,rfl,q⟩
 rw[length_append,List.length_singleton]
 omega
noncomputable def Dj:V->List V->Hp->VK->Prop:=fun x vs H Q=>∃l b xs zs,x = .ref l/\vs=[.ref b]/\H l=some (.lst xs)/\H b=some (.lst zs)/\xs.length+zs.length<=sizeLine/\Q .non (upd H l (.lst (xs++zs)))
theorem yH:MtM X "list.extend" Dj:=by
 intro pins s Z H x vs v us Q I rx rv h
 obtain⟨l,b,xs,zs,rfl,rfl,hH,hB,hz,q⟩:=h
 cases rx
 obtain⟨u,rfl,ru⟩:=rv.one
 cases ru
 obtain⟨z,its,n,r,hl,e⟩:=I.wC hH
 obtain⟨z2,its2,n2,r2,hl2,e2⟩:=I.wC hB
 have hsz:its.toArray.size+its2.toArray.size<=sizeLine:=by rw[size_toArray,size_toArray];omega
 have hlong:¬ (!its.toArray.isEmpty&&Builtin.List.listTooLong (its.toArray.size+its2.toArray.size))=true:=by
  rw[A5 hsz,Bool.and_false]
  exact Bool.false_ne_true
 refine call_meets F.slot_list_extend ⟨_,e,rfl⟩ F.entry_list_extend (F.args_list_extend_2 _ _)
  (AutoSeq1.list_extend_list_list_0 l its.toArray n b its2.toArray n2 hlong (by rw[size_toArray];omega) ∅) ⟨e,e2,?_⟩
 refine⟨.non,_,I.Cn (its':=its++its2) hH e (by simp) (r.append r2) ?_,rfl,q⟩
 rw[length_append]
 omega
noncomputable def Lb:V->List V->Hp->VK->Prop:=fun x vs H Q=>∃l xs y,x = .ref l/\vs=[]/\H l=some (.lst xs)/\xs[xs.length-1]? = some y/\Q y (upd H l (.lst xs.dropLast))
theorem Hu:MtM X "list.pop" Lb:=by
 intro pins s Z H x vs v us Q I rx rv h
 obtain⟨l,xs,y,rfl,rfl,hH,hy,q⟩:=h
 cases rx
 have hus:=rv.zero
 subst hus
 obtain⟨z,its,n,r,hl,e⟩:=I.wC hH
 obtain⟨u,hu,ru⟩:=r.get hy
 have hy':its.toArray[its.toArray.size-1]? = some u:=by
  show its.toArray[its.length-1]? = some u
  rw[<- Array.getElem?_toList,<- hl]
  exact hu
 refine call_meets F.slot_list_pop ⟨_,e,rfl⟩ F.entry_list_pop (F.args_list_pop_1 _) (MeetsSeq.list_pop_last l its.toArray n u hy' (by rw[size_toArray];omega)) ⟨e,?_⟩
 refine⟨y,_,I.Cn (its':=its.dropLast) hH e ?_ r.dropLast ?_,ru,q⟩
 ·show its.toArray.eraseIdxIfInBounds (its.toArray.size-1)=its.dropLast.toArray
  rw[size_toArray,List.eraseIdxIfInBounds_toArray,v9]
 ·rw[List.length_dropLast]
  omega
noncomputable def GD:V->List V->Hp->VK->Prop:=fun x vs H Q=>∃l xs i k y,x = .ref l/\vs=[.int i]/\H l=some (.lst xs)/\-(2 ^ 63)<=i/\i<2 ^ 63/\seqIndex? i xs.length=some k/\xs[k]? = some y/\Q y (upd H l (.lst (xs.eraseIdx k)))
theorem Bu:MtM X "list.pop" GD:=by
 intro pins s Z H x vs v us Q I rx rv h
 obtain⟨l,xs,i,k,y,rfl,rfl,hH,h1,h2,hk,hy,q⟩:=h
 cases rx
 obtain⟨u,rfl,ru⟩:=rv.one
 obtain⟨t,rfl⟩:=ru
 obtain⟨z,its,n,r,hl,e⟩:=I.wC hH
 obtain⟨w,hw,rw'⟩:=r.get hy
 refine call_meets F.slot_list_pop ⟨_,e,rfl⟩ F.entry_list_pop (F.args_list_pop_2 _ _)
  (MeetsSeq.list_pop_at l its.toArray n i t k w (fitsIndex_both h1 h2) (by rw[size_toArray,<- hl];exact hk) (by rw[<- Array.getElem?_toList];exact hw) (by rw[size_toArray];omega)) ⟨e,?_⟩
 refine⟨y,_,I.Cn (its':=its.eraseIdx k) hH e ?_ (r.eraseIdx k) ?_,rw',q⟩
 ·show its.toArray.eraseIdxIfInBounds k=(its.eraseIdx k).toArray
  rw[List.eraseIdxIfInBounds_toArray]
 ·have:=qJ xs k
  omega
noncomputable def Gy:R2:=fun x y H Q=>∃l b xs zs,x = .ref l/\y = .ref b/\H l=some (.lst xs)/\H b=some (.lst zs)/\xs.length+zs.length<=sizeLine/\∀p,H p=none->Q (.ref p) (upd H p (.lst (xs++zs)))
theorem Gr:OpR X (binaryOp .Add) Gy:=by
 intro pins s Z H x y v u Q I rx ry h
 obtain⟨l,b,xs,zs,rfl,rfl,hH,hB,hz,q⟩:=h
 cases rx
 cases ry
 obtain⟨z,its,n,r,hl,e⟩:=I.wC hH
 obtain⟨z2,its2,n2,r2,hl2,e2⟩:=I.wC hB
 refine PySem.P.add_list e e2 ?_ (by rw[size_toArray,size_toArray];omega)
 have ea:its.toArray++its2.toArray=(its++its2).toArray:=by simp
 rw[ea]
 exact⟨.ref _,_,I.LR (t':=s.toks) (r.append r2) (by rw[length_append];omega),rfl,q _ I.fresh⟩
end
end L2
namespace Att
open PySem PySem.W PySem.Calls PyProof.Rows
theorem nr{P:Params}{h:Heap}:∀(ns:List Int) (vs:List Value),WellAll P h vs (ns.map WData.int)->IntsAre vs ns:=by
 intro ns
 induction ns with
 |nil=>
  intro vs w
  rw[map_nil] at w
  cases w
  exact .nil
 |cons n ns ih=>
  intro vs w
  rw[map_cons] at w
  cases w with
  |cons a b=>
   cases a
   exact .cons _ _ (ih _ b)
theorem yQ{l:OpenLaw}{n:Nat}(hn:l.most=some n){P:Params}{h:Heap}{args:List WData}{vals:List Value}
  (hpre:l.row.toRowW.claim.pre args=true) (hwl:WellAll P h vals args) :
  ∃a vs ns,vals=[Value.ref a]/\args=[WData.list (ns.map WData.int)]/\h.get? a=some {cls:=.type "list",data:=.seq vs.toArray}/\IntsAre vs ns/\ns.length<=n:=by
 have hsh:WShape.hasAll [] args [.list .int]=true:=(pre_splitW hpre).1
 have hc:l.pre.holds [] {args:=args} = true:=(pre_splitW hpre).2
 obtain⟨d,r,rfl,h1,h2⟩:=hasAllW_cons hsh
 obtain rfl:=hasAllW_nil h2
 obtain⟨xs,rfl,h3⟩:=hasW_list h1
 obtain⟨ns,rfl⟩:=items_int h3
 have hlen:ns.length<=n:=by
  unfold OpenLaw.pre at hc
  have h4:(WTm.not (.lt (.lit (.int (n:Int))) (.len (.arg 0)))).holds [] {args:=[.list (ns.map .int)]} = true:=by
   have h4:=(holds_andW hc).1
   rw[hn] at h4
   exact h4
  have h5:=condW_of h4 (w_not (w_lt w_lit (w_len_list (w_arg rfl))))
  rw[length_map] at h5
  refine Nat.le_of_not_lt fun q=>?_
  have q':(n:Int)<((ns.length:Nat):Int):=by omega
  first
   |(rw[decide_eq_true q'] at h5;exact absurd h5 ⋯)
   |(simp at h5;omega)
 cases hwl with
 |cons w1 w2=>
  cases w2
  cases w1 with
  |list ho hall=>exact⟨_,_,ns,rfl,rfl,ho,nr ns _ hall,hlen⟩
theorem zx(l:OpenLaw)(args:List WData):l.row.toRowW.claim.post args (.bool true) args=true:=
 postW_of (r:=l.row.toRowW) (X:=(true==true))
  (show WShape.has [] (.bool true) .bool=true by first|rfl|decide|simp[WShape.has,WShape.arms,WShape.armsAll])
  (show (WTm.eq .res (.lit (.bool true))).value [] {args:=args,res:=some (.bool true),after:=args} = some (.bool (true==true)) from w_eq_bool (w_res rfl) w_lit) rfl
theorem uC{l:OpenLaw}{n:Nat}{q:Program}{loose:List Str}{XP:(Str->Option Value)->Heap->Prop}{YP:World->Heap->Prop}{d:DefRec}
  (hn:l.most=some n) (hdf:d.params.defaults=[])
  (call:∀(w:World) (db bv:Shared) (mg mb:Str->Option Value) (fa:Addr) (o:Obj) (pm cd doc:Value) (a:Addr) (vs:List Value) (ns:List Int),
   Ground q loose [] XP w db mg mb bv.heap->YP w bv.heap ->
   bv.heap.get? fa=some o->o.data = .func (docDef d.name d.params d.body d.scope pm cd doc)->bv.heap.CodeRec cd d.name->mg d.name=some (.ref fa) ->
   bv.heap.get? a=some {cls:=.type "list",data:=.seq vs.toArray}->IntsAre vs ns->ns.length<=n->bv.gens = #[] ->
   codeAny (model l.prog w) callerA (.call (.ref fa) ⟨[.ref a],[]⟩) (fun r s'=>r = .ok (.ret (.bool true))/\OldK bv.heap s'.heap/\s'.os=bv.os/\AllBare s'.gens) bv) :
  WalkO q loose XP YP l.row.toRowW d [] (fun f vs=>PySem.call f vs):=by
 intro w db bv mg mb G ZZ fa o pm cd doc dV kV ho hd hcd hD hmg hg args vals as hpre hlay hrd hwl hlo
 obtain rfl:dV = .none:=Dflts.none hD hdf
 obtain rfl:kV = .none:=Dflts.noKw hD
 obtain⟨a,vs,ns,rfl,rfl,hobj,hints,hlen⟩:=yQ hn hpre hwl
 refine enter_call (codeAny_mono (call w db bv mg mb fa o pm cd doc a vs ns G ZZ ho (fd_plain hd) hcd hmg hobj hints hlen hg) fun r s' hq=>?_)
 obtain⟨rfl,h2,h3,h4⟩:=hq
 exact⟨.inl ⟨.bool true,.bool true,[],rfl,fun _=>rfl,.bool true,zx l _,fun _=>⟨List.Pairwise.nil,fun _ hm=>(nomatch hm)⟩⟩,h2,h3,h4⟩
end Att
namespace L2
open PySem PySem.Spec PyProof.Rows
theorem qB:∀{vs:List Value} {ns:List Int},IntsAre vs ns->Vals (ns.map V.int) vs
 |_,_,.nil=>.nil
 |_,_,.cons n t h=>.cons ⟨t,rfl⟩ (qB h)
end L2
namespace L2
open PySem PySem.Spec PyProof.Rows
end L2
namespace L2
open PySem PySem.Spec PyProof.Rows
noncomputable abbrev CX0:CXT:=fun _ _ _ _ _ _=>False
noncomputable abbrev E0:XK:=fun _ _ _=>False
theorem Jp{X:Cx}:Passes CX0 X E0:=fun _ _ _ _ _ _ _ h=>h.elim
structure Fun(K:PySem.W.Frag)(x qual:Str)(st:Stmt)(f:Addr)(fd:FuncData):Prop where
 ex:∃(oc:Value) (od:Option Addr) (kV doc pm:Value) (an:Option Addr) (cdv ct:Value) (osl:Array (Option Value)),
  fd=fnOf x qual (cE st) (bT st) (aI st) .none kV doc pm an cdv ct/\K.lookup f=some ⟨oc,od,.func fd,osl⟩/\codeIn K cdv qual=true
 kp:keepIn K (.ref f)=true
section
variable {P:Program}{w:World}{K:PySem.W.Frag}{mg:Str->Option Value}{base:Heap}
theorem Fun.binds{x qual:Str}{st:Stmt}{f:Addr}{fd:FuncData}{ps:List Str}(F:Fun K x qual st f fd)
  (h:∀(kV doc pm:Value) (an:Option Addr) (cdv ct:Value) (us:List Value),us.length=ps.length->bindArgs (fnOf x qual (cE st) (bT st) (aI st) .none kV doc pm an cdv ct) ⟨us,[]⟩=pure (ps.zip us)):Binds K fd ps []:=by
 obtain⟨oc,od,kV,doc,pm,an,cdv,ct,osl,rfl,lk,hcd⟩:=F.ex
 exact .all (h kV doc pm an cdv ct)
theorem FW{x qual:Str}{st:Stmt}{f:Addr}{oc:Value}{od an:Option Addr}{osl:Array (Option Value)}{kV doc pm cdv ct:Value}(l:K.lookup f=some ⟨oc,od,.func (fnOf x qual (cE st) (bT st) (aI st) .none kV doc pm an cdv ct),osl⟩)
  (c:codeIn K cdv qual=true) (k:keepIn K (.ref f)=true):Fun K x qual st f (fnOf x qual (cE st) (bT st) (aI st) .none kV doc pm an cdv ct):=⟨⟨oc,od,kV,doc,pm,an,cdv,ct,osl,rfl,l,c⟩,k⟩
end
theorem eu{n:Nat}(h:n<=1000):n<sizeLine:=Nat.lt_of_le_of_lt h ⋯
theorem rE{A B:Prop}(h:B):if false=true then A else B:=by
 rw[if_neg Bool.false_ne_true]
 exact h
theorem rO{A B:Prop}(h:A):if true=true then A else B:=by
 rw[if_pos rfl]
 exact h
noncomputable def tw(H H':Hp):Prop:=∀b o,H b=some o->H' b=some o
theorem tw.refl(H:Hp):tw H H:=fun _ _ h=>h
end L2
namespace ST
open PySem PySem.SetTable
noncomputable def adv(m:Nat)(p:Probe):Probe:=
 if p.more>0 then {p with j:=p.j+1,more:=p.more-1} else
 {p with j:=(leap m p.i p.perturb).1,more:=runEnd m (leap m p.i p.perturb).1-(leap m p.i p.perturb).1,i:=(leap m p.i p.perturb).1,perturb:=(leap m p.i p.perturb).2}
noncomputable def st(m:Nat)(s:Nat×Nat):Probe:={j:=s.1,more:=runEnd m s.1-s.1,i:=s.1,perturb:=s.2,dummy:=none}
noncomputable def sth(m:Nat)(h:Int):Probe:=st m (bits h % (m+1),bits h)
inductive On(m:Nat)(O:Nat->Prop):Probe->Nat->Prop
 |here {p:Probe}:On m O p p.j
 |step {p:Probe} {j:Nat}:O p.j->On m O (adv m p) j->On m O p j
end ST
namespace ST
open PySem PySem.SetTable
section
variable {β:Type}
noncomputable abbrev Ln(β:Type):=List (Nat×Int×β)
noncomputable def Occ(L:Ln β)(j:Nat):Prop:=j∈L.map (·.1)
structure Tab(t:SetTable)(L:Ln β):Prop where
 place:t.place=(L.map (·.1)).toArray
 ris:L.Pairwise fun a b=>a.1<b.1
 le:∀x∈L,x.1<=t.mask
 dum:t.dummies = #[]
 two:∃k,t.mask+1=2 ^ k/\3<=k
 on:∀x∈L,On t.mask (Occ L) (sth t.mask x.2.1) x.1
end
end ST
namespace ST
open PySem PySem.SetTable
end ST
set_option maxHeartbeats 1000000
namespace ST
open PySem PySem.SetTable
end ST
namespace ST
open PySem PySem.SetTable
end ST
set_option maxHeartbeats 4000000
namespace NM
@[irreducible] def Sz (n:Nat) (i:Int):Prop:=i.natAbs<2 ^ n
theorem Sz.mono{n m:Nat}{i:Int}(h:Sz n i)(l:n<=m):Sz m i:=by unfold Sz at *;exact lt_of_lt_of_le h (Nat.pow_le_pow_right ⋯ l)
theorem Sz.mul{n m:Nat}{i j:Int}(h:Sz n i)(g:Sz m j):Sz (n+m) (i*j):=by
 unfold Sz at *
 rw[natAbs_mul,Nat.pow_add]
 exact Nat.mul_lt_mul'' h g
theorem Sz.add{n:Nat}{i j:Int}(h:Sz n i)(g:Sz n j):Sz (n+1) (i+j):=by
 unfold Sz at *
 have:=Int.natAbs_add_le i j
 rw[Nat.pow_succ]
 omega
theorem Sz.neg{n:Nat}{i:Int}(h:Sz n i):Sz n (-i):=by unfold Sz at *;rw[Int.natAbs_neg];exact h
theorem Sz.sub{n:Nat}{i j:Int}(h:Sz n i)(g:Sz n j):Sz (n+1) (i-j):=by rw[Int.sub_eq_add_neg];exact h.add g.neg
theorem Sz.le{n:Nat}{i j:Int}(h:Sz n i)(g:j.natAbs<=i.natAbs):Sz n j:=by unfold Sz at *;exact Nat.lt_of_le_of_lt g h
theorem Sz.of{n:Nat}{i:Int}(h:i.natAbs<2 ^ n):Sz n i:=by unfold Sz;exact h
theorem Sz.lt{n:Nat}{i:Int}(h:Sz n i):i.natAbs<2 ^ n:=by unfold Sz at h;exact h
noncomputable def g3(a b c:Int):Nat:=Int.gcd (Int.gcd a b:Nat) c
theorem D8(a b c:Int):Int.gcd (Int.gcd c a:Nat) b=g3 a b c:=by
 unfold g3
 simp only[Int.gcd,Int.natAbs_natCast]
 rw[Nat.gcd_assoc,Nat.gcd_comm]
theorem AG(a b c:Int):((g3 a b c:Nat):Int) ∣ a/\((g3 a b c:Nat):Int) ∣ b/\((g3 a b c:Nat):Int) ∣ c:=by
 have h:((g3 a b c:Nat):Int) ∣ ((Int.gcd a b:Nat):Int):=Int.gcd_dvd_left ..
 exact⟨Int.dvd_trans h (Int.gcd_dvd_left ..),Int.dvd_trans h (Int.gcd_dvd_right ..),Int.gcd_dvd_right ..⟩
theorem FD{a b c:Int}{k:Nat}(h1:(k:Int) ∣ a)(h2:(k:Int) ∣ b)(h3:(k:Int) ∣ c):k ∣ g3 a b c:=by
 unfold g3
 exact Int.dvd_gcd (Int.natCast_dvd_natCast.mpr (Int.dvd_gcd h1 h2)) h3
theorem tH{a b c:Int}(h:c≠0):0<g3 a b c:=by
 unfold g3
 exact Int.gcd_pos_of_ne_zero_right _ h
theorem Ab(a b c k:Int):g3 (a*k) (b*k) (c*k)=g3 a b c*k.natAbs:=by
 unfold g3
 simp only[Int.gcd,Int.natAbs_natCast,natAbs_mul,Nat.gcd_mul_right]
theorem AL(a b c:Int):g3 a (-b) c=g3 a b c:=by
 unfold g3
 rw[Int.gcd_neg]
theorem Ah(a b c:Int):g3 (-a) b c=g3 a b c:=by
 unfold g3
 rw[Int.neg_gcd]
structure N3 where
 a:Int
 b:Int
 c:Int
deriving DecidableEq
theorem N3.ext'{x y:N3}(h1:x.a=y.a)(h2:x.b=y.b)(h3:x.c=y.c):x=y:=by cases x;cases y;simp_all
structure Ok(x:N3):Prop where
 c:0<x.c
 g:g3 x.a x.b x.c=1
noncomputable def dv(a b c:Int):Int:=if c<0 then -(g3 a b c:Nat) else (g3 a b c:Nat)
noncomputable def low(a b c:Int):N3:=⟨a.fdiv (dv a b c),b.fdiv (dv a b c),c.fdiv (dv a b c)⟩
theorem sf{a k q:Int}(hk:k≠0)(h:a=k*q):a.fdiv k=q:=by
 subst h
 exact Int.mul_fdiv_cancel_left q hk
theorem IT{a b c:Int}(h:c≠0):dv a b c≠0:=by
 have:=tH (a:=a) (b:=b) h
 unfold dv
 split<;>omega
theorem GP(a b c:Int):dv a b c ∣ a/\dv a b c ∣ b/\dv a b c ∣ c:=by
 obtain⟨h1,h2,h3⟩:=AG a b c
 unfold dv
 split
 ·exact⟨Int.neg_dvd.mpr h1,Int.neg_dvd.mpr h2,Int.neg_dvd.mpr h3⟩
 ·exact⟨h1,h2,h3⟩
theorem eO(a b:Int){c:Int}(h:c≠0):∃k:Int,k≠0/\(0<k↔0<c)/\a=k*(low a b c).a/\b=k*(low a b c).b/\c=k*(low a b c).c/\Ok (low a b c):=by
 have hk:=IT (a:=a) (b:=b) h
 obtain⟨⟨p,hp⟩,⟨q,hq⟩,⟨r,hr⟩⟩:=GP a b c
 have ep:(low a b c).a=p:=sf hk hp
 have eq:(low a b c).b=q:=sf hk hq
 have er:(low a b c).c=r:=sf hk hr
 have hg:=tH (a:=a) (b:=b) h
 have hs:0<dv a b c↔0<c:=by unfold dv;split<;>omega
 have hr0:0<r:=by
  have hr':r≠0:=fun z=>h (by rw[hr,z,Int.mul_zero])
  rcases Int.lt_trichotomy 0 (dv a b c) with z|z|z
  ·have:=hs.mp z
   rw[hr] at this
   rw[Int.mul_comm] at this
   exact Int.pos_of_mul_pos_left this z |> fun t=>t
  ·exact absurd z.symm hk
  ·have:c<0:=by omega
   rcases Int.lt_trichotomy 0 r with w|w|w
   ·exact w
   ·exact absurd w.symm hr'
   ·have:=Int.mul_pos_of_neg_of_neg z w
    rw[<- hr] at this
    omega
 refine⟨dv a b c,hk,hs,by rw[ep];exact hp,by rw[eq];exact hq,by rw[er];exact hr,by rw[er];exact hr0,?_⟩
 rw[ep,eq,er]
 have e:=Ab p q r (dv a b c)
 rw[Int.mul_comm p,Int.mul_comm q,Int.mul_comm r,<- hp,<- hq,<- hr] at e
 have e2:(dv a b c).natAbs=g3 a b c:=by unfold dv;split<;>simp
 rw[e2] at e
 have:g3 p q r*g3 a b c=1*g3 a b c:=by omega
 exact Nat.eq_of_mul_eq_mul_right hg this
theorem dX(a b:Int){c:Int}(h:c≠0):Ok (low a b c):=(eO a b h).choose_spec.2.2.2.2.2
theorem Ok.same{x y:N3}(hx:Ok x)(hy:Ok y)(h1:x.a*y.c=y.a*x.c)(h2:x.b*y.c=y.b*x.c):x=y:=by
 have key:∀{u v:N3},Ok u->Ok v->u.a*v.c=v.a*u.c->u.b*v.c=v.b*u.c->u.c ∣ v.c:=fun {u v} hu hv e1 e2=>by
  have hd:u.c.natAbs ∣ g3 (u.a*v.c) (u.b*v.c) (u.c*v.c):=FD
   (by rw[Int.natAbs_of_nonneg (le_of_lt hu.c),e1];exact Int.dvd_mul_left _ _) (by rw[Int.natAbs_of_nonneg (le_of_lt hu.c),e2];exact Int.dvd_mul_left _ _) (by rw[Int.natAbs_of_nonneg (le_of_lt hu.c)];exact Int.dvd_mul_right _ _)
  rw[Ab,hu.g,Nat.one_mul] at hd
  exact Int.natAbs_dvd_natAbs.mp hd
 have hc:x.c=y.c:=Int.dvd_antisymm (le_of_lt hx.c) (le_of_lt hy.c) (key hx hy h1 h2) (key hy hx h1.symm h2.symm)
 have hn:y.c≠0:=by have:=hy.c;omega
 rw[hc] at h1 h2
 exact N3.ext' (eq_of_mul_eq_mul_right hn h1) (eq_of_mul_eq_mul_right hn h2) hc
theorem FZ{a b c a' b' c':Int}(h:c≠0)(h':c'≠0)(e1:a*c'=a'*c)(e2:b*c'=b'*c):low a b c=low a' b' c':=by
 obtain⟨k,hk,_,p1,p2,p3,o⟩:=eO a b h
 obtain⟨l,hl,_,q1,q2,q3,o'⟩:=eO a' b' h'
 generalize low a b c=x at *
 generalize low a' b' c'=y at *
 subst p1 p2 p3 q1 q2 q3
 have hkl:k*l≠0:=mul_ne_zero hk hl
 refine o.same o' (Int.eq_of_mul_eq_mul_left hkl (by grind)) (Int.eq_of_mul_eq_mul_left hkl (by grind))
theorem Ok.low{x:N3}(h:Ok x):low x.a x.b x.c=x:=by
 have hc:x.c≠0:=by have:=h.c;omega
 obtain⟨k,hk,_,p1,p2,p3,o⟩:=eO x.a x.b hc
 refine o.same h ?_ ?_
 ·exact Int.eq_of_mul_eq_mul_left hk (by grind)
 ·exact Int.eq_of_mul_eq_mul_left hk (by grind)
theorem Ok.HD{x:N3}{a b c:Int}(h:Ok x)(hc:c≠0)(e1:x.a*c=a*x.c)(e2:x.b*c=b*x.c):x=NM.low a b c:=by
 have q:=FZ (by have:=h.c;omega) hc e1 e2
 rw[h.low] at q
 exact q
theorem GB(a b:Int){c:Int}(h:c≠0):(low a b c).a.natAbs<=a.natAbs/\(low a b c).b.natAbs<=b.natAbs/\(low a b c).c.natAbs<=c.natAbs:=by
 obtain⟨k,hk,_,p1,p2,p3,_⟩:=eO a b h
 have hk':1<=k.natAbs:=by omega
 have le:∀{u v:Int},u=k*v->v.natAbs<=u.natAbs:=fun {u v} e=>by
  rw[e,natAbs_mul]
  exact Nat.le_mul_of_pos_left _ hk'
 exact⟨le p1,le p2,le p3⟩
structure Bd(n:Nat)(x:N3):Prop where
 a:Sz n x.a
 b:Sz n x.b
 c:Sz n x.c
theorem Bd.mono{n m:Nat}{x:N3}(h:Bd n x)(l:n<=m):Bd m x:=⟨h.a.mono l,h.b.mono l,h.c.mono l⟩
theorem eM{a b c:Int}{n:Nat}(h:c≠0)(ha:Sz n a)(hb:Sz n b)(hc:Sz n c):Bd n (low a b c):=by
 obtain⟨h1,h2,h3⟩:=GB a b h
 exact⟨ha.le h1,hb.le h2,hc.le h3⟩
noncomputable def plus(x y:N3):N3:=low (x.a*y.c+y.a*x.c) (x.b*y.c+y.b*x.c) (x.c*y.c)
noncomputable def less(x y:N3):N3:=low (x.a*y.c-y.a*x.c) (x.b*y.c-y.b*x.c) (x.c*y.c)
noncomputable def times(d:Int)(x y:N3):N3:=low (x.a*y.a+d*x.b*y.b) (x.a*y.b+x.b*y.a) (x.c*y.c)
noncomputable def norm(d:Int)(x:N3):Int:=x.a*x.a-d*x.b*x.b
noncomputable def aB(d:Int)(x:N3):N3:=low (x.c*x.a) (-x.c*x.b) (norm d x)
noncomputable def DB(x:N3):N3:=⟨x.a,-x.b,x.c⟩
noncomputable def minus(x:N3):N3:=⟨-x.a,-x.b,x.c⟩
noncomputable def cy:N3:=⟨0,0,1⟩
noncomputable def one:N3:=⟨1,0,1⟩
theorem Ok.cn{x:N3}(h:Ok x):x.c≠0:=by have:=h.c;omega
theorem j6{x y:N3}(h:Ok x)(g:Ok y):x.c*y.c≠0:=mul_ne_zero h.cn g.cn
theorem dH{x:N3}(h:Ok x):Ok (minus x):=⟨h.c,by show g3 (-x.a) (-x.b) x.c=1;rw[Ah,AL];exact h.g⟩
theorem a6{x y:N3}(h:Ok x)(g:Ok y):Ok (plus x y):=dX _ _ (j6 h g)
theorem xZ{x y:N3}(h:Ok x)(g:Ok y):Ok (less x y):=dX _ _ (j6 h g)
theorem aN{d:Int}{x y:N3}(h:Ok x)(g:Ok y):Ok (times d x y):=dX _ _ (j6 h g)
theorem gy:Ok cy:=⟨⋯,⋯⟩
theorem vQ:Ok one:=⟨⋯,⋯⟩
theorem j3{n:Nat}{x:N3}(h:Bd n x):Bd n (minus x):=⟨h.a.neg,h.b.neg,h.c⟩
theorem DV{n m:Nat}{x y:N3}(hx:Ok x)(hy:Ok y)(h:Bd n x)(g:Bd m y):Bd (n+m+1) (plus x y):=
 eM (j6 hx hy) ((h.a.mul g.c).add ((g.a.mul h.c).mono ∅)) ((h.b.mul g.c).add ((g.b.mul h.c).mono ∅)) ((h.c.mul g.c).mono ∅)
theorem Cz{n m:Nat}{x y:N3}(hx:Ok x)(hy:Ok y)(h:Bd n x)(g:Bd m y):Bd (n+m+1) (less x y):=
 eM (j6 hx hy) ((h.a.mul g.c).sub ((g.a.mul h.c).mono ∅)) ((h.b.mul g.c).sub ((g.b.mul h.c).mono ∅)) ((h.c.mul g.c).mono ∅)
theorem fP{d:Int}(h:2<=d)(h':d<=30):Sz 5 d:=by unfold Sz;omega
theorem t6{n m:Nat}{d:Int}{x y:N3}(hd:Sz 5 d)(hx:Ok x)(hy:Ok y)(h:Bd n x)(g:Bd m y):Bd (n+m+6) (times d x y):=
 eM (j6 hx hy) (((h.a.mul g.a).mono ∅).add (((hd.mul h.b).mul g.b).mono ∅)) ((((h.a.mul g.b).mono (by omega:n+m<=n+m)).add ((h.b.mul g.a).mono ∅)).mono ∅) ((h.c.mul g.c).mono ∅)
theorem sJ{n:Nat}{d:Int}{x:N3}(hd:Sz 5 d)(h:Bd n x):Sz (2*n+6) (norm d x):=by
 have e1:=h.a.mul h.a
 have e2:=(hd.mul h.b).mul h.b
 exact ((e1.mono (by omega:n+n<=5+n+n)).sub e2).mono ∅
theorem i8{n:Nat}{d:Int}{x:N3}(hd:Sz 5 d)(hn:norm d x≠0)(h:Bd n x):Bd (2*n+6) (aB d x):=
 eM hn ((h.c.mul h.a).mono ∅) ((h.c.neg.mul h.b).mono ∅) (sJ hd h)
noncomputable def aj(d:Int):Prop:=2<=d/\d<=30/\d≠4/\d≠9/\d≠16/\d≠25
theorem yZ{d:Nat}(h:∀m:Nat,m*m≠d):∀{a b:Nat},a*a=d*(b*b)->b=0:=fun {a b} e=>by
 rcases Nat.eq_zero_or_pos b with hb|hb
 ·exact hb
 exfalso
 obtain⟨g,p,q,hg,hc,rfl,rfl⟩:=Nat.exists_coprime' (m:=a) (n:=b) (Nat.gcd_pos_of_pos_right _ hb)
 have e2:(p*p)*(g*g)=(d*(q*q))*(g*g):=by grind
 have e3:p*p=d*(q*q):=Nat.eq_of_mul_eq_mul_right (Nat.mul_pos hg hg) e2
 have hq:q ∣ p*p:=⟨d*q,by rw[e3];grind⟩
 have hq1:q ∣ p:=hc.symm.dvd_of_dvd_mul_left hq
 have hq2:q=1:=by
  have:=Nat.dvd_gcd hq1 (Nat.dvd_refl q)
  rw[hc] at this
  exact Nat.dvd_one.mp this
 subst hq2
 exact h p (by rw[e3];simp)
theorem aj.nat{d:Int}(h:aj d):∀m:Nat,m*m≠d.toNat:=fun m e=>by
 have e':d=((m*m:Nat):Int):=by rw[e];exact (Int.toNat_of_nonneg (Int.le_trans ⋯ h.1)).symm
 clear e
 obtain⟨h1,h2,h3,h4,h5,h6⟩:=h
 match m,e' with
 |0,e'=>rw[e'] at h1;exact absurd h1 ⋯
 |1,e'=>rw[e'] at h1;exact absurd h1 ⋯
 |2,e'=>exact h3 e'
 |3,e'=>exact h4 e'
 |4,e'=>exact h5 e'
 |5,e'=>exact h6 e'
 |m+6,e'=>
  rw[e'] at h2
  exact absurd (le_trans (Nat.mul_le_mul (Nat.le_add_left 6 m) (Nat.le_add_left 6 m)) (Int.ofNat_le.mp (show ((_:Nat):Int)<=((30:Nat):Int) from h2))) ⋯
theorem aj.wa{d a b:Int}(h:aj d)(e:a*a=d*b*b):a=0/\b=0:=by
 have hd:d=((d.toNat:Nat):Int):=by have:=h.1;omega
 have e1:a.natAbs*a.natAbs=d.toNat*(b.natAbs*b.natAbs):=by
  have e2:=congrArg Int.natAbs e
  rw[natAbs_mul,natAbs_mul,natAbs_mul] at e2
  rw[e2,Nat.mul_assoc]
  congr 1
  omega
 have hb:=yZ h.nat e1
 have hb':b=0:=by omega
 subst hb'
 have:a*a=0:=by rw[e];simp
 exact⟨by rcases Int.mul_eq_zero.mp this with z|z<;>exact z,rfl⟩
theorem aj.norm{d:Int}{x:N3}(h:aj d)(ok:Ok x)(hx:x≠cy):norm d x≠0:=fun e=>by
 have e':x.a*x.a=d*x.b*x.b:=by unfold NM.norm at e;omega
 obtain⟨h1,h2⟩:=h.wa e'
 apply hx
 have hg:=ok.g
 rw[h1,h2] at hg
 have hc:=ok.c
 have:x.c=1:=by
  unfold g3 at hg
  simp[Int.gcd] at hg
  omega
 exact N3.ext' h1 h2 this
theorem cJ{d:Int}{x:N3}(h:NM.norm d x≠0):Ok (aB d x):=dX _ _ h
noncomputable def sg(d a b:Int):Int:=
 if a=0/\b=0 then 0 else if 0<=a/\0<=b then 1 else if a<=0/\b<=0 then -1 else if (if d*b*b<a*a then a else b)>0 then 1 else -1
theorem EW{u v:Int}(hu:0<=u)(h:u*u<=v*v)(hv:0<=v):u<=v:=by
 rcases Int.lt_or_le v u with z|z
 ·have:=Int.mul_lt_mul_of_pos_left z (show 0<u by omega)
  have:=Int.mul_le_mul_of_nonneg_right (le_of_lt z) hv
  omega
 ·exact z
theorem sq_nonneg(u:Int):0<=u*u:=by
 rcases Int.le_total 0 u with h|h
 ·exact mul_nonneg h h
 ·exact Int.mul_nonneg_of_nonpos_of_nonpos h h
noncomputable def P(d a b:Int):Prop:=(0<=a/\0<=b/\¬ (a=0/\b=0))\/(0<a/\b<0/\d*b*b<a*a)\/(a<0/\0<b/\a*a<d*b*b)
theorem lI{d a b:Int}(h:P d a b):sg d a b=1:=by
 unfold sg
 rcases h with ⟨h1,h2,h3⟩|⟨h1,h2,h3⟩|⟨h1,h2,h3⟩
 ·rw[if_neg h3,if_pos ⟨h1,h2⟩]
 ·rw[if_neg fun z=>absurd z.1 (ne_of_gt h1),if_neg fun z=>absurd z.2 (Int.not_le.mpr h2),if_neg fun z=>absurd z.1 (Int.not_le.mpr h1),if_pos h3,if_pos h1]
 ·rw[if_neg fun z=>absurd z.1 (ne_of_lt h1),if_neg fun z=>absurd z.1 (Int.not_le.mpr h1),if_neg fun z=>absurd z.2 (Int.not_le.mpr h2),if_neg (Int.not_lt.mpr (le_of_lt h3)),if_pos h2]
theorem kO{d a b:Int}:P d (-a) (-b)↔(a<=0/\b<=0/\¬ (a=0/\b=0))\/(a<0/\0<b/\d*b*b<a*a)\/(0<a/\b<0/\a*a<d*b*b):=by
 unfold P
 have e2:d * -b * -b=d*b*b:=by rw[Int.mul_neg d b,Int.neg_mul_neg]
 rw[Int.neg_mul_neg a a,e2,Int.neg_nonneg,Int.neg_nonneg,Int.neg_eq_zero,Int.neg_eq_zero,Int.neg_pos,Int.neg_pos,Int.neg_neg_iff_pos,Int.neg_neg_iff_pos]
theorem lD{d a b:Int}(h:P d (-a) (-b)):sg d a b = -1:=by
 unfold sg
 rcases kO.mp h with ⟨h1,h2,h3⟩|⟨h1,h2,h3⟩|⟨h1,h2,h3⟩
 ·rw[if_neg h3,if_neg fun z=>h3 ⟨Int.le_antisymm h1 z.1,Int.le_antisymm h2 z.2⟩,if_pos ⟨h1,h2⟩]
 ·rw[if_neg fun z=>absurd z.1 (ne_of_lt h1),if_neg fun z=>absurd z.1 (Int.not_le.mpr h1),if_neg fun z=>absurd z.2 (Int.not_le.mpr h2),if_pos h3,if_neg (Int.not_lt.mpr (le_of_lt h1))]
 ·rw[if_neg fun z=>absurd z.1 (ne_of_gt h1),if_neg fun z=>absurd z.2 (Int.not_le.mpr h2),if_neg fun z=>absurd z.1 (Int.not_le.mpr h1),if_neg (Int.not_lt.mpr (le_of_lt h3)),if_neg (Int.not_lt.mpr (le_of_lt h2))]
theorem my{d a b:Int}(h:aj d):(a=0/\b=0)\/P d a b\/P d (-a) (-b):=by
 by_cases z:a=0/\b=0
 ·exact .inl z
 refine .inr ?_
 rw[kO]
 rcases Int.le_total 0 a with ha|ha<;>rcases Int.le_total 0 b with hb|hb
 ·exact .inl (.inl ⟨ha,hb,z⟩)
 ·rcases Int.lt_or_eq_of_le ha with ha'|ha'
  ·rcases Int.lt_or_eq_of_le hb with hb'|hb'
   ·rcases Int.lt_trichotomy (d*b*b) (a*a) with c|c|c
    ·exact .inl (.inr (.inl ⟨ha',hb',c⟩))
    ·exact absurd (h.wa c.symm) z
    ·exact .inr (.inr (.inr ⟨ha',hb',c⟩))
   ·exact .inl (.inl ⟨ha,le_of_eq hb'.symm,z⟩)
  ·exact .inr (.inl ⟨le_of_eq ha'.symm,hb,z⟩)
 ·rcases Int.lt_or_eq_of_le ha with ha'|ha'
  ·rcases Int.lt_or_eq_of_le hb with hb'|hb'
   ·rcases Int.lt_trichotomy (d*b*b) (a*a) with c|c|c
    ·exact .inr (.inr (.inl ⟨ha',hb',c⟩))
    ·exact absurd (h.wa c.symm) z
    ·exact .inl (.inr (.inr ⟨ha',hb',c⟩))
   ·exact .inr (.inl ⟨ha,le_of_eq hb'.symm,z⟩)
  ·exact .inl (.inl ⟨le_of_eq ha'.symm,hb,z⟩)
 ·exact .inr (.inl ⟨ha,hb,z⟩)
theorem lK{d a b:Int}(h:aj d):sg d a b=1↔P d a b:=by
 refine⟨fun e=>?_,lI⟩
 rcases my (a:=a) (b:=b) h with z|z|z
 ·obtain⟨rfl,rfl⟩:=z;exact absurd (show (0:Int)=1 from e) ⋯
 ·exact z
 ·rw[lD z] at e;exact absurd e ⋯
theorem rR{d a b:Int}(h:aj d):sg d (-a) (-b) = - sg d a b:=by
 rcases my (a:=a) (b:=b) h with z|z|z
 ·obtain⟨rfl,rfl⟩:=z;rfl
 ·rw[lI z];exact lD (by rwa [Int.neg_neg,Int.neg_neg])
 ·rw[lD z];exact lI z
theorem nP{d a b:Int}:sg d a b=0↔a=0/\b=0:=by
 refine⟨fun e=>Classical.byContradiction fun c=>?_,fun c=>if_pos c⟩
 unfold sg at e
 rw[if_neg c] at e
 by_cases c2:0<=a/\0<=b
 ·rw[if_pos c2] at e;exact absurd e ⋯
 ·rw[if_neg c2] at e
  by_cases c3:a<=0/\b<=0
  ·rw[if_pos c3] at e;exact absurd e ⋯
  ·rw[if_neg c3] at e
   by_cases c4:(if d*b*b<a*a then a else b)>0
   ·rw[if_pos c4] at e;exact absurd e ⋯
   ·rw[if_neg c4] at e;exact absurd e ⋯
theorem wu(d a b:Int):sg d a b=0\/sg d a b=1\/sg d a b = -1:=by
 unfold sg
 by_cases c:a=0/\b=0
 ·exact .inl (if_pos c)
 rw[if_neg c]
 by_cases c2:0<=a/\0<=b
 ·exact .inr (.inl (if_pos c2))
 rw[if_neg c2]
 by_cases c3:a<=0/\b<=0
 ·exact .inr (.inr (if_pos c3))
 rw[if_neg c3]
 by_cases c4:(if d*b*b<a*a then a else b)>0
 ·exact .inr (.inl (if_pos c4))
 ·exact .inr (.inr (if_neg c4))
theorem jh{d a b:Int}(h:aj d)(n:d*b*b<a*a):P d a b↔0<a:=by
 refine⟨fun z=>?_,fun ha=>?_⟩
 ·rcases z with ⟨h1,_,h3⟩|⟨h1,_,_⟩|⟨_,_,h3⟩
  ·rcases Int.lt_or_eq_of_le h1 with z|z
   ·exact z
   ·subst z
    have h0:0<=d*b*b:=by rw[Int.mul_assoc];exact mul_nonneg (Int.le_trans ⋯ h.1) (sq_nonneg b)
    exact absurd (Int.lt_of_le_of_lt h0 n) ⋯
  ·exact h1
  ·exact absurd (Int.lt_trans h3 n) (Int.lt_irrefl _)
 ·rcases Int.lt_or_le b 0 with hb|hb
  ·exact .inr (.inl ⟨ha,hb,n⟩)
  ·exact .inl ⟨le_of_lt ha,hb,fun z=>absurd z.1 (ne_of_gt ha)⟩
theorem gz{d a b:Int}(h:aj d)(n:a*a<d*b*b):P d a b↔0<b:=by
 refine⟨fun z=>?_,fun hb=>?_⟩
 ·rcases z with ⟨_,h1,h3⟩|⟨_,_,h3⟩|⟨_,h1,_⟩
  ·rcases Int.lt_or_eq_of_le h1 with z|z
   ·exact z
   ·subst z
    rw[Int.mul_zero] at n
    exact absurd (Int.lt_of_le_of_lt (sq_nonneg a) n) ⋯
  ·exact absurd (Int.lt_trans h3 n) (Int.lt_irrefl _)
  ·exact h1
 ·rcases Int.lt_or_le a 0 with ha|ha
  ·exact .inr (.inr ⟨ha,hb,n⟩)
  ·exact .inl ⟨ha,le_of_lt hb,fun z=>absurd z.2 (ne_of_gt hb)⟩
theorem kE{u v:Int}(h:v*v<u*u):0<u+v↔0<u:=by
 have hu:u≠0:=fun z=>by subst z;have:=sq_nonneg v;simp at h;omega
 have l:v.natAbs<u.natAbs:=by
  rcases Nat.lt_or_ge v.natAbs u.natAbs with z|z
  ·exact z
  ·have:=Nat.mul_le_mul z z
   have e1:((u.natAbs*u.natAbs:Nat):Int)=u*u:=Int.natAbs_mul_self
   have e2:((v.natAbs*v.natAbs:Nat):Int)=v*v:=Int.natAbs_mul_self
   omega
 omega
theorem mul_pos_iff{u v:Int}(hu:u≠0)(hv:v≠0):0<u*v↔(0<u↔0<v):=by
 rcases Int.lt_or_gt_of_ne hu with h|h<;>rcases Int.lt_or_gt_of_ne hv with g|g
 ·have:=Int.mul_pos_of_neg_of_neg h g;omega
 ·have:=Int.mul_neg_of_neg_of_pos h g;omega
 ·have:=Int.mul_neg_of_pos_of_neg h g;omega
 ·have:=mul_pos h g;omega
theorem oU{u v s t:Int}(hu:0<=u)(h:u<v)(hs:0<=s)(g:s<t):u*s<v*t:=by
 have e1:u*s<=v*s:=Int.mul_le_mul_of_nonneg_right (le_of_lt h) hs
 have e2:v*s<v*t:=Int.mul_lt_mul_of_pos_left g ∅
 omega
theorem dsq{d b:Int}(hd:0<d):0<=d*b*b:=by rw[Int.mul_assoc];exact mul_nonneg (le_of_lt hd) (sq_nonneg b)
theorem Jy{d a b p q:Int}(h:aj d)(h1:¬ (a=0/\b=0))(h2:¬ (p=0/\q=0)):P d (a*p+d*b*q) (a*q+b*p)↔(P d a b↔P d p q):=by
 have hd:0<d:=by have:=h.1;omega
 have n1:a*a≠d*b*b:=fun e=>h1 (h.wa e)
 have n2:p*p≠d*q*q:=fun e=>h2 (h.wa e)
 have pz:∀{u v:Int},d*v*v<u*u->u≠0:=fun {u v} e z=>by subst z;have:=dsq (b:=v) hd;simp at e;omega
 have qz:∀{u v:Int},u*u<d*v*v->v≠0:=fun {u v} e z=>by subst z;have:=sq_nonneg u;simp at e;omega
 have id1:(a*p+d*b*q)*(a*p+d*b*q)-d*(a*q+b*p)*(a*q+b*p)=(a*a-d*b*b)*(p*p-d*q*q):=by grind
 rcases Int.lt_or_gt_of_ne n1 with c1|c1<;>rcases Int.lt_or_gt_of_ne n2 with c2|c2
 ·have pp:=Int.mul_pos_of_neg_of_neg (show a*a-d*b*b<0 by omega) (show p*p-d*q*q<0 by omega)
  rw[jh h ∅,gz h c1,gz h c2]
  have sq:(a*p)*(a*p)<(d*b*q)*(d*b*q):=by
   have e2:=oU (sq_nonneg a) c1 (sq_nonneg p) c2
   grind
  rw[Int.add_comm,kE sq,Int.mul_assoc,mul_pos_iff ∅ (mul_ne_zero (qz c1) (qz c2)),mul_pos_iff (qz c1) (qz c2)]
  omega
 ·have pp:=Int.mul_neg_of_neg_of_pos (show a*a-d*b*b<0 by omega) (show 0<p*p-d*q*q by omega)
  rw[gz h ∅,gz h c1,jh h c2]
  have sq:(a*q)*(a*q)<(b*p)*(b*p):=by
   have e2:=oU (sq_nonneg a) c1 (dsq (b:=q) hd) c2
   have e3:d*((a*q)*(a*q))<d*((b*p)*(b*p)):=by grind
   exact Int.lt_of_mul_lt_mul_left e3 (le_of_lt hd)
  rw[Int.add_comm,kE sq,mul_pos_iff (qz c1) (pz c2)]
 ·have pp:=Int.mul_neg_of_pos_of_neg (show 0<a*a-d*b*b by omega) (show p*p-d*q*q<0 by omega)
  rw[gz h ∅,jh h c1,gz h c2]
  have sq:(b*p)*(b*p)<(a*q)*(a*q):=by
   have e2:=oU (dsq (b:=b) hd) c1 (sq_nonneg p) c2
   have e3:d*((b*p)*(b*p))<d*((a*q)*(a*q)):=by grind
   exact Int.lt_of_mul_lt_mul_left e3 (le_of_lt hd)
  rw[kE sq,mul_pos_iff (pz c1) (qz c2)]
 ·have pp:=mul_pos (show 0<a*a-d*b*b by omega) (show 0<p*p-d*q*q by omega)
  rw[jh h ∅,jh h c1,jh h c2]
  have sq:(d*b*q)*(d*b*q)<(a*p)*(a*p):=by
   have e2:=oU (dsq (b:=b) hd) c1 (dsq (b:=q) hd) c2
   grind
  rw[kE sq,mul_pos_iff (pz c1) (pz c2)]
theorem J6{d A x B y:Int}(hd:0<d)(hA:0<=A)(hx:0<=x)(hB:0<=B)(hy:0<=y)(h1:A*A<=d*B*B)(h2:x*x<=d*y*y):A*x<=d*(B*y):=by
 refine EW (mul_nonneg hA hx) ?_ (mul_nonneg (le_of_lt hd) (mul_nonneg hB hy))
 have:=Int.mul_le_mul h1 h2 (sq_nonneg x) (dsq hd)
 grind
theorem T1{d A x B y:Int}(hd:0<d)(hA:0<=A)(hx:0<=x)(hB:0<=B)(hy:0<=y)(h1:A*A<d*B*B)(h2:x*x<d*y*y):(A+x)*(A+x)<d*(B+y)*(B+y):=by
 have:=J6 hd hA hx hB hy (le_of_lt h1) (le_of_lt h2)
 grind
theorem T2{d A x B y:Int}(hd:0<d)(hA:0<=A)(hx:0<=x)(hB:0<=B)(hy:0<=y)(h1:d*B*B<A*A)(h2:d*y*y<x*x):d*(B+y)*(B+y)<(A+x)*(A+x):=by
 have:d*(B*y)<=A*x:=by
  refine EW (mul_nonneg (le_of_lt hd) (mul_nonneg hB hy)) ?_ (mul_nonneg hA hx)
  have:=oU (dsq (b:=B) hd) h1 (dsq (b:=y) hd) h2
  grind
 grind
theorem Z1{d x1 y1 x2 y2:Int}(hd:0<d)(h1:x1*x1<d*y1*y1)(h2:d*y2*y2<x2*x2)(a1:0<=x2)(a2:x2<=x1)(a3:0<=y1)(a4:y1<=y2):False:=by
 have e1:=Int.mul_le_mul a2 a2 a1 (Int.le_trans a1 a2)
 have e2:=Int.mul_le_mul_of_nonneg_left (Int.mul_le_mul a4 a4 a3 (Int.le_trans a3 a4)) (le_of_lt hd)
 grind
theorem Z2{d x1 y1 x2 y2 x3 y3:Int}(hd:0<d)(h1:x1*x1<d*y1*y1)(h2:d*y2*y2<x2*x2)(h3:d*y3*y3<x3*x3)(a1:0<=x2)(a2:0<=y2)(a3:0<=x3)(a4:0<=y3)(e1:x1=x2+x3)(e2:y1=y2+y3):False:=by
 subst e1 e2
 have:=T2 hd a1 a3 a2 a4 h2 h3
 omega
theorem Z3{d x1 y1 x2 y2 x3 y3:Int}(hd:0<d)(h1:d*y1*y1<x1*x1)(h2:x2*x2<d*y2*y2)(h3:x3*x3<d*y3*y3)(a1:0<=x2)(a2:0<=y2)(a3:0<=x3)(a4:0<=y3)(e1:x1=x2+x3)(e2:y1=y2+y3):False:=by
 subst e1 e2
 have:=T1 hd a1 a3 a2 a4 h2 h3
 omega
theorem JW{d a b p q u v:Int}(h:aj d)(h1:P d a b)(h2:P d p q)(h3:P d u v)(e1:a+p+u=0)(e2:b+q+v=0):False:=by
 have hd:0<d:=by have:=h.1;omega
 unfold P at h1 h2 h3
 have x1:∀{u c:Int},u*u<c->-u * -u<c:=fun {u c} e=>by grind
 have x2:∀{u c:Int},c<u*u->c < -u * -u:=fun {u c} e=>by grind
 have x3:∀{u c:Int},c<d*u*u->c<d * -u * -u:=fun {u c} e=>by grind
 have x4:∀{u c:Int},d*u*u<c->d * -u * -u<c:=fun {u c} e=>by grind
 rcases h1 with ⟨u1,u2,u3⟩|⟨u1,u2,u3⟩|⟨u1,u2,u3⟩<;>rcases h2 with ⟨v1,v2,v3⟩|⟨v1,v2,v3⟩|⟨v1,v2,v3⟩<;>rcases h3 with ⟨w1,w2,w3⟩|⟨w1,w2,w3⟩|⟨w1,w2,w3⟩<;>(try omega)
 all_goals first
  |exact Z1 hd (x1 u3) (x4 v3) ∅ ∅ ∅ ∅
  |exact Z1 hd (x1 v3) (x4 u3) ∅ ∅ ∅ ∅
  |exact Z1 hd (x1 u3) (x4 w3) ∅ ∅ ∅ ∅
  |exact Z1 hd (x1 w3) (x4 u3) ∅ ∅ ∅ ∅
  |exact Z1 hd (x1 v3) (x4 w3) ∅ ∅ ∅ ∅
  |exact Z1 hd (x1 w3) (x4 v3) ∅ ∅ ∅ ∅
  |exact Z2 hd (x1 u3) (x4 v3) (x4 w3) ∅ ∅ ∅ ∅ ∅ ∅
  |exact Z2 hd (x1 v3) (x4 u3) (x4 w3) ∅ ∅ ∅ ∅ ∅ ∅
  |exact Z2 hd (x1 w3) (x4 u3) (x4 v3) ∅ ∅ ∅ ∅ ∅ ∅
  |exact Z3 hd (x4 u3) (x1 v3) (x1 w3) ∅ ∅ ∅ ∅ ∅ ∅
  |exact Z3 hd (x4 v3) (x1 u3) (x1 w3) ∅ ∅ ∅ ∅ ∅ ∅
  |exact Z3 hd (x4 w3) (x1 u3) (x1 v3) ∅ ∅ ∅ ∅ ∅ ∅
theorem IP{d a b p q:Int}(h:aj d)(h1:P d a b)(h2:P d p q):P d (a+p) (b+q):=by
 rcases my (a:=a+p) (b:=b+q) h with ⟨e1,e2⟩|e|e
 ·have ea:p = -a:=by omega
  have eb:q = -b:=by omega
  subst ea eb
  have s1:=(lK h).mpr h1
  have s2:=(lK h).mpr h2
  rw[rR h,s1] at s2
  omega
 ·exact e
 ·exact (JW h h1 h2 e ∅ ∅).elim
theorem wB{d a b p q:Int}(h:aj d):sg d (a*p+d*b*q) (a*q+b*p)=sg d a b*sg d p q:=by
 by_cases h1:a=0/\b=0
 ·obtain⟨rfl,rfl⟩:=h1
  rw[show sg d (0:Int) 0=0 from rfl,Int.zero_mul,Int.zero_mul,Int.mul_zero,Int.zero_mul,Int.zero_mul];rfl
 by_cases h2:p=0/\q=0
 ·obtain⟨rfl,rfl⟩:=h2
  rw[show sg d (0:Int) 0=0 from rfl,Int.mul_zero,Int.mul_zero,Int.mul_zero,Int.mul_zero];rfl
 have k:=Jy h h1 h2
 have h3:¬ (a*p+d*b*q=0/\a*q+b*p=0):=fun ⟨e1,e2⟩=>by
  have id1:(a*p+d*b*q)*(a*p+d*b*q)-d*(a*q+b*p)*(a*q+b*p)=(a*a-d*b*b)*(p*p-d*q*q):=by grind
  rw[e1,e2,Int.mul_zero,Int.mul_zero,Int.sub_self] at id1
  rcases Int.mul_eq_zero.mp id1.symm with z|z
  ·exact h1 (h.wa (Int.eq_of_sub_eq_zero z))
  ·exact h2 (h.wa (Int.eq_of_sub_eq_zero z))
 have pn:∀{x y:Int},P d (-x) (-y)->¬ P d x y:=fun h g=>absurd ((lD h).symm.trans (lI g)) ⋯
 rcases my (a:=a) (b:=b) h with z|z|z
 ·exact absurd z h1
 ·rcases my (a:=p) (b:=q) h with w|w|w
  ·exact absurd w h2
  ·rw[lI z,lI w];exact lI (k.mpr ⟨fun _=>w,fun _=>z⟩)
  ·rw[lI z,lD w]
   rcases my (a:=a*p+d*b*q) (b:=a*q+b*p) h with v|v|v
   ·exact absurd v h3
   ·exact absurd ((k.mp v).mp z) (pn w)
   ·exact lD v
 ·rcases my (a:=p) (b:=q) h with w|w|w
  ·exact absurd w h2
  ·rw[lD z,lI w]
   rcases my (a:=a*p+d*b*q) (b:=a*q+b*p) h with v|v|v
   ·exact absurd v h3
   ·exact absurd ((k.mp v).mpr w) (pn z)
   ·exact lD v
  ·rw[lD z,lD w];exact lI (k.mpr ⟨fun v=>absurd v (pn z),fun v=>absurd v (pn w)⟩)
theorem iE{d a b k:Int}(h:aj d)(hk:0<k):sg d (k*a) (k*b)=sg d a b:=by
 have e:=wB (a:=k) (b:=0) (p:=a) (q:=b) h
 have e1:sg d k 0=1:=by unfold sg;rw[if_neg ∅,if_pos ∅]
 rw[e1] at e
 simpa using e
end NM
namespace L2
open PySem PySem.Spec PyProof.Rows
section
variable {X:Cx}{pins:List (Addr×Obj)}{Z:St}{H:Hp}{s:Shared}{a:Addr}{y v:V}{u r:Value}{o:Option V}{A:Around}{E:Value->Shared->Prop}
theorem Inv.big(I:Inv X pins Z H s):sysModules<s.heap.objs.size:=by
 have h:mainGlobals<s.heap.objs.size:=(I.mod.glob.keeps I.bk).lt
 exact Nat.lt_trans ⋯ h
end
end L2
namespace NM
structure Rep(x:N3)(A B C:Int):Prop where
 c:C≠0
 a:x.a*C=A*x.c
 b:x.b*C=B*x.c
section
variable {x y:N3}{A B C A' B' C' d:Int}
theorem ax(h:Ok x):Rep x x.a x.b x.c:=⟨h.cn,rfl,rfl⟩
theorem fh{a b c:Int}(h:c≠0):Rep (low a b c) a b c:=by
 obtain⟨k,hk,_,p1,p2,p3,_⟩:=eO a b h
 generalize low a b c=z at *
 exact⟨h,by grind,by grind⟩
theorem Rep.eq(ox:Ok x)(oy:Ok y)(h:Rep x A B C)(g:Rep y A' B' C')(e1:A*C'=A'*C)(e2:B*C'=B'*C):x=y:=by
 have hc:C*C'≠0:=mul_ne_zero h.c g.c
 obtain⟨_,h1,h2⟩:=h
 obtain⟨_,g1,g2⟩:=g
 exact ox.same oy (eq_of_mul_eq_mul_right hc (by grind)) (eq_of_mul_eq_mul_right hc (by grind))
theorem Rep.minus(h:Rep x A B C):Rep (minus x) (-A) (-B) C:=⟨h.c,by show -x.a*C = -A*x.c;have:=h.a;grind,by show -x.b*C = -B*x.c;have:=h.b;grind⟩
theorem Rep.plus(ox:Ok x)(oy:Ok y)(h:Rep x A B C)(g:Rep y A' B' C'):Rep (plus x y) (A*C'+A'*C) (B*C'+B'*C) (C*C'):=by
 have hc:=j6 ox oy
 obtain⟨_,q1,q2⟩:=fh (a:=x.a*y.c+y.a*x.c) (b:=x.b*y.c+y.b*x.c) hc
 obtain⟨hc1,h1,h2⟩:=h
 obtain⟨hc2,g1,g2⟩:=g
 change (NM.plus x y).a*(x.c*y.c)=_*(NM.plus x y).c at q1
 change (NM.plus x y).b*(x.c*y.c)=_*(NM.plus x y).c at q2
 generalize NM.plus x y=z at *
 exact⟨mul_ne_zero hc1 hc2,eq_of_mul_eq_mul_right hc (by grind),eq_of_mul_eq_mul_right hc (by grind)⟩
theorem Rep.less(ox:Ok x)(oy:Ok y)(h:Rep x A B C)(g:Rep y A' B' C'):Rep (less x y) (A*C'-A'*C) (B*C'-B'*C) (C*C'):=by
 have hc:=j6 ox oy
 obtain⟨_,q1,q2⟩:=fh (a:=x.a*y.c-y.a*x.c) (b:=x.b*y.c-y.b*x.c) hc
 obtain⟨hc1,h1,h2⟩:=h
 obtain⟨hc2,g1,g2⟩:=g
 change (NM.less x y).a*(x.c*y.c)=_*(NM.less x y).c at q1
 change (NM.less x y).b*(x.c*y.c)=_*(NM.less x y).c at q2
 generalize NM.less x y=z at *
 exact⟨mul_ne_zero hc1 hc2,eq_of_mul_eq_mul_right hc (by grind),eq_of_mul_eq_mul_right hc (by grind)⟩
theorem Rep.times(ox:Ok x)(oy:Ok y)(h:Rep x A B C)(g:Rep y A' B' C'):Rep (times d x y) (A*A'+d*B*B') (A*B'+B*A') (C*C'):=by
 have hc:=j6 ox oy
 obtain⟨_,q1,q2⟩:=fh (a:=x.a*y.a+d*x.b*y.b) (b:=x.a*y.b+x.b*y.a) hc
 obtain⟨hc1,h1,h2⟩:=h
 obtain⟨hc2,g1,g2⟩:=g
 change (NM.times d x y).a*(x.c*y.c)=_*(NM.times d x y).c at q1
 change (NM.times d x y).b*(x.c*y.c)=_*(NM.times d x y).c at q2
 generalize NM.times d x y=z at *
 exact⟨mul_ne_zero hc1 hc2,eq_of_mul_eq_mul_right hc (by grind),eq_of_mul_eq_mul_right hc (by grind)⟩
theorem Rep.norm(h:Rep x A B C):NM.norm d x*(C*C)=(A*A-d*B*B)*(x.c*x.c):=by
 obtain⟨_,h1,h2⟩:=h
 unfold NM.norm
 have e1:x.a*x.a*(C*C)=A*A*(x.c*x.c):=by
  have:(x.a*C)*(x.a*C)=(A*x.c)*(A*x.c):=by rw[h1]
  grind
 have e2:x.b*x.b*(C*C)=B*B*(x.c*x.c):=by
  have:(x.b*C)*(x.b*C)=(B*x.c)*(B*x.c):=by rw[h2]
  grind
 grind
theorem Rep.aB(ox:Ok x)(hn:NM.norm d x≠0)(h:Rep x A B C):Rep (aB d x) (C*A) (-C*B) (A*A-d*B*B):=by
 have hN:=h.norm (d:=d)
 have hcc:x.c*x.c≠0:=mul_ne_zero ox.cn ox.cn
 have hN0:A*A-d*B*B≠0:=fun z=>by
  rw[z,Int.zero_mul] at hN
  rcases Int.mul_eq_zero.mp hN with w|w
  ·exact hn w
  ·rcases Int.mul_eq_zero.mp w with w|w<;>exact h.c w
 obtain⟨_,q1,q2⟩:=fh (a:=x.c*x.a) (b:=-x.c*x.b) hn
 change (NM.aB d x).a*NM.norm d x=_*(NM.aB d x).c at q1
 change (NM.aB d x).b*NM.norm d x=_*(NM.aB d x).c at q2
 obtain⟨hc1,h1,h2⟩:=h
 generalize NM.aB d x=z at *
 generalize NM.norm d x=n at *
 generalize A*A-d*B*B=m at *
 refine⟨hN0,?_,?_⟩
 ·have e:z.a*m*(x.c*x.c)=C*A*z.c*(x.c*x.c):=by grind
  exact eq_of_mul_eq_mul_right hcc e
 ·have e:z.b*m*(x.c*x.c) = -C*B*z.c*(x.c*x.c):=by grind
  exact eq_of_mul_eq_mul_right hcc e
theorem Rep.sg(hd:aj d)(ox:Ok x)(h:Rep x A B C)(hC:0<C):sg d x.a x.b=NM.sg d A B:=by
 have e1:=iE (a:=x.a) (b:=x.b) hd hC
 have e2:=iE (a:=A) (b:=B) hd ox.c
 rw[show C*x.a=x.c*A by have:=h.a;grind,show C*x.b=x.c*B by have:=h.b;grind] at e1
 rw[<- e1,e2]
end
end NM
namespace NM
noncomputable def yh(d:Int)(x:N3):N3:=times d (times d (plus x (DB x)) (plus x (DB x))) (aB d (times d x (DB x)))
section
variable {d:Int}{x y z:N3}
theorem nU{a b c:Int}(h:aj d)(hc:0<c):sg d (low a b c).a (low a b c).b=sg d a b:=(fh (show c≠0 by omega)).sg h (dX _ _ ∅) hc
theorem ll(h:aj d)(ox:Ok x)(oy:Ok y):sg d (times d x y).a (times d x y).b=sg d x.a x.b*sg d y.a y.b:=by
 unfold times
 rw[nU h (mul_pos ox.c oy.c),wB h]
theorem xK:sg d one.a one.b=1:=by
 unfold one sg
 rw[if_neg (by simp),if_pos (by simp)]
theorem gq(h:aj d)(ox:Ok x)(hx:sg d x.a x.b=1):norm d x≠0:=h.norm ox (fun e=>by subst e;have:sg d cy.a cy.b=0:=nP.mpr ⟨rfl,rfl⟩;omega)
theorem iM(ox:Ok x)(hn:norm d x≠0):times d x (aB d x)=one:=by
 have oc:=cJ hn
 exact ((ax ox).times ox oc ((ax ox).aB ox hn)).eq (aN ox oc) vQ (ax vQ) (by simp only[one];grind) (by simp only[one];grind)
theorem iV(h:aj d)(ox:Ok x)(hx:sg d x.a x.b=1):sg d (aB d x).a (aB d x).b=1:=by
 have hn:=gq h ox hx
 have e:=ll h ox (cJ hn)
 rw[iM ox hn,xK,hx] at e
 omega
theorem Ff{n:Int}:sg d n 0=if n=0 then 0 else if 0<n then 1 else -1:=by
 unfold sg
 by_cases h:n=0
 ·simp[h]
 ·rcases Int.lt_or_gt_of_ne h with z|z
  ·rw[if_neg ∅,if_neg ∅,if_pos ∅,if_neg h,if_neg ∅]
  ·rw[if_neg ∅,if_pos ∅,if_neg h,if_pos ∅]
noncomputable def W(x y:N3):Int:=x.b*y.a-x.a*y.b
end
end NM
namespace NM
noncomputable def Ht(d:Int)(n:Nat)(x:N3):Prop:=∃a b e f:Int,Sz n a/\Sz n b/\Sz n e/\Sz n f/\e*e-d*f*f≠0/\x.a*e+d*x.b*f=a*x.c/\x.a*f+x.b*e=b*x.c
section
variable {d:Int}{n m:Nat}{x y:N3}
theorem Ht.mono(h:Ht d n x)(l:n<=m):Ht d m x:=by
 obtain⟨a,b,e,f,h1,h2,h3,h4,r⟩:=h
 exact⟨a,b,e,f,h1.mono l,h2.mono l,h3.mono l,h4.mono l,r⟩
theorem sz0:Sz n 0:=Sz.of (by simp;exact Nat.pos_of_ne_zero (by simp))
theorem xb(ox:Ok x)(h:Bd n x):Ht d n x:=by
 refine⟨x.a,x.b,x.c,0,h.a,h.b,h.c,sz0,?_,by grind,by grind⟩
 have:=mul_ne_zero ox.cn ox.cn
 grind
theorem uk(ox:Ok x)(hn:norm d x≠0)(h:Ht d n x):Ht d n (aB d x):=by
 obtain⟨a,b,e,f,h1,h2,h3,h4,hN,q1,q2⟩:=h
 have r:=(ax ox).aB (d:=d) ox hn
 have oc:=ox.cn
 refine⟨e,f,a,b,h3,h4,h1,h2,?_,?_,?_⟩
 ·intro z
  have:(x.a*x.a-d*x.b*x.b)*(e*e-d*f*f)=(a*a-d*b*b)*(x.c*x.c):=by
   have e1:(a*x.c)*(a*x.c)-d*((b*x.c)*(b*x.c))=(x.a*x.a-d*x.b*x.b)*(e*e-d*f*f):=by rw[<- q1,<- q2];grind
   grind
  rw[z,Int.zero_mul] at this
  rcases Int.mul_eq_zero.mp this with w|w
  ·exact hn w
  ·exact hN w
 ·have hc:=r.c
  generalize aB d x=y at *
  obtain⟨_,r1,r2⟩:=r
  have hk:(x.a*x.a-d*x.b*x.b)*x.c≠0:=mul_ne_zero hc oc
  apply eq_of_mul_eq_mul_right hk
  have s1:(y.a*a+d*y.b*b)*((x.a*x.a-d*x.b*x.b)*x.c)=(y.a*(x.a*x.a-d*x.b*x.b))*(a*x.c)+d*(y.b*(x.a*x.a-d*x.b*x.b))*(b*x.c):=by grind
  rw[s1,r1,r2,<- q1,<- q2]
  grind
 ·have hc:=r.c
  generalize aB d x=y at *
  obtain⟨_,r1,r2⟩:=r
  have hk:(x.a*x.a-d*x.b*x.b)*x.c≠0:=mul_ne_zero hc oc
  apply eq_of_mul_eq_mul_right hk
  have s1:(y.a*b+y.b*a)*((x.a*x.a-d*x.b*x.b)*x.c)=(y.a*(x.a*x.a-d*x.b*x.b))*(b*x.c)+(y.b*(x.a*x.a-d*x.b*x.b))*(a*x.c):=by grind
  rw[s1,r1,r2,<- q1,<- q2]
  grind
theorem AS(d e f e' f':Int):(e*e'+d*f*f')*(e*e'+d*f*f')-d*(e*f'+f*e')*(e*f'+f*e')=(e*e-d*f*f)*(e'*e'-d*f'*f'):=by grind
theorem szm(hd:Sz 5 d){p q r s:Int}(hp:Sz n p)(hq:Sz n q)(hr:Sz m r)(hs:Sz m s):Sz (n+m+6) (p*r+d*q*s):=by
 have e1:=(hp.mul hr).mono (m:=n+m+5) ∅
 have e2:=((hd.mul hq).mul hs).mono (m:=n+m+5) ∅
 exact e1.add e2
theorem szx{p q r s:Int}(hp:Sz n p)(hq:Sz n q)(hr:Sz m r)(hs:Sz m s):Sz (n+m+6) (p*s+q*r):=((hp.mul hs).add (hq.mul hr)).mono ∅
theorem Ej(hd:Sz 5 d)(ox:Ok x)(oy:Ok y)(h:Ht d n x)(g:Ht d m y):Ht d (n+m+7) (plus x y):=by
 obtain⟨a,b,e,f,h1,h2,h3,h4,hN,p1,p2⟩:=h
 obtain⟨a',b',e',f',g1,g2,g3,g4,gN,q1,q2⟩:=g
 have hc:=j6 ox oy
 obtain⟨_,r1,r2⟩:=fh (a:=x.a*y.c+y.a*x.c) (b:=x.b*y.c+y.b*x.c) hc
 change (plus x y).a*(x.c*y.c)=_*(plus x y).c at r1
 change (plus x y).b*(x.c*y.c)=_*(plus x y).c at r2
 generalize plus x y=z at *
 refine⟨(a*e'+d*b*f')+(a'*e+d*b'*f),(a*f'+b*e')+(a'*f+b'*e),e*e'+d*f*f',e*f'+f*e',(szm hd h1 h2 g3 g4).add ((szm hd g1 g2 h3 h4).mono ∅),(szx h1 h2 g3 g4).add ((szx g1 g2 h3 h4).mono ∅),(szm hd h3 h4 g3 g4).mono ∅,(szx h3 h4 g3 g4).mono ∅,?_,?_,?_⟩
 ·rw[AS];exact mul_ne_zero hN gN
 ·apply eq_of_mul_eq_mul_right hc
  have s1:(z.a*(e*e'+d*f*f')+d*z.b*(e*f'+f*e'))*(x.c*y.c)=(z.a*(x.c*y.c))*(e*e'+d*f*f')+d*(z.b*(x.c*y.c))*(e*f'+f*e'):=by grind
  have s2:(a*e'+d*b*f'+(a'*e+d*b'*f))*z.c*(x.c*y.c)=((a*x.c)*e'*y.c+d*(b*x.c)*f'*y.c+((a'*y.c)*e*x.c+d*(b'*y.c)*f*x.c))*z.c:=by grind
  rw[s1,s2,r1,r2,<- p1,<- p2,<- q1,<- q2]
  grind
 ·apply eq_of_mul_eq_mul_right hc
  have s1:(z.a*(e*f'+f*e')+z.b*(e*e'+d*f*f'))*(x.c*y.c)=(z.a*(x.c*y.c))*(e*f'+f*e')+(z.b*(x.c*y.c))*(e*e'+d*f*f'):=by grind
  have s2:(a*f'+b*e'+(a'*f+b'*e))*z.c*(x.c*y.c)=((a*x.c)*f'*y.c+(b*x.c)*e'*y.c+((a'*y.c)*f*x.c+(b'*y.c)*e*x.c))*z.c:=by grind
  rw[s1,s2,r1,r2,<- p1,<- p2,<- q1,<- q2]
  grind
theorem BR(hd:Sz 5 d)(ox:Ok x)(oy:Ok y)(h:Ht d n x)(g:Ht d m y):Ht d (n+m+6) (times d x y):=by
 obtain⟨a,b,e,f,h1,h2,h3,h4,hN,p1,p2⟩:=h
 obtain⟨a',b',e',f',g1,g2,g3,g4,gN,q1,q2⟩:=g
 have hc:=j6 ox oy
 obtain⟨_,r1,r2⟩:=fh (a:=x.a*y.a+d*x.b*y.b) (b:=x.a*y.b+x.b*y.a) hc
 change (times d x y).a*(x.c*y.c)=_*(times d x y).c at r1
 change (times d x y).b*(x.c*y.c)=_*(times d x y).c at r2
 generalize times d x y=z at *
 refine⟨a*a'+d*b*b',a*b'+b*a',e*e'+d*f*f',e*f'+f*e',szm hd h1 h2 g1 g2,szx h1 h2 g1 g2,szm hd h3 h4 g3 g4,szx h3 h4 g3 g4,?_,?_,?_⟩
 ·rw[AS];exact mul_ne_zero hN gN
 ·apply eq_of_mul_eq_mul_right hc
  have s1:(z.a*(e*e'+d*f*f')+d*z.b*(e*f'+f*e'))*(x.c*y.c)=(z.a*(x.c*y.c))*(e*e'+d*f*f')+d*(z.b*(x.c*y.c))*(e*f'+f*e'):=by grind
  have s2:(a*a'+d*b*b')*z.c*(x.c*y.c)=((a*x.c)*(a'*y.c)+d*(b*x.c)*(b'*y.c))*z.c:=by grind
  rw[s1,s2,r1,r2,<- p1,<- p2,<- q1,<- q2]
  grind
 ·apply eq_of_mul_eq_mul_right hc
  have s1:(z.a*(e*f'+f*e')+z.b*(e*e'+d*f*f'))*(x.c*y.c)=(z.a*(x.c*y.c))*(e*f'+f*e')+(z.b*(x.c*y.c))*(e*e'+d*f*f'):=by grind
  have s2:(a*b'+b*a')*z.c*(x.c*y.c)=((a*x.c)*(b'*y.c)+(b*x.c)*(a'*y.c))*z.c:=by grind
  rw[s1,s2,r1,r2,<- p1,<- p2,<- q1,<- q2]
  grind
theorem A4(hd:Sz 5 d)(ox:Ok x)(h:Ht d n x):Bd (2*n+6) x:=by
 obtain⟨a,b,e,f,h1,h2,h3,h4,hN,p1,p2⟩:=h
 have ex:x=NM.low (a*e-d*b*f) (b*e-a*f) (e*e-d*f*f):=by
  refine ox.HD hN ?_ ?_
  ·have s1:(a*e-d*b*f)*x.c=(a*x.c)*e-d*(b*x.c)*f:=by grind
   rw[s1,<- p1,<- p2];grind
  ·have s1:(b*e-a*f)*x.c=(b*x.c)*e-(a*x.c)*f:=by grind
   rw[s1,<- p1,<- p2];grind
 have sub:∀{p q r s:Int},Sz n p->Sz n q->Sz n r->Sz n s->Sz (2*n+6) (p*r-d*q*s):=fun hp hq hr hs=>by
  have e1:=(hp.mul hr).mono (m:=2*n+5) ∅
  have e2:=((hd.mul hq).mul hs).mono (m:=2*n+5) ∅
  exact e1.sub e2
 rw[ex]
 exact eM hN (sub h1 h2 h3 h4) (((h2.mul h3).sub ((h1.mul h4).mono ∅)).mono ∅) (sub h3 h4 h3 h4)
theorem pA(h:aj d)(ox:Ok x)(oy:Ok y)(hx:x=cy\/sg d x.a x.b=1)(hy:sg d y.a y.b=1):sg d (plus x y).a (plus x y).b=1:=by
 have e:sg d (plus x y).a (plus x y).b=sg d (x.a*y.c+y.a*x.c) (x.b*y.c+y.b*x.c):=nU h (mul_pos ox.c oy.c)
 rw[e]
 rcases hx with rfl|hx
 ·have e1:cy.a*y.c+y.a*cy.c=y.a:=by show 0*y.c+y.a*1=y.a;omega
  have e2:cy.b*y.c+y.b*cy.c=y.b:=by show 0*y.c+y.b*1=y.b;omega
  rw[e1,e2];exact hy
 ·have p1:P d (y.c*x.a) (y.c*x.b):=(lK h).mp (by rw[iE h oy.c];exact hx)
  have p2:P d (x.c*y.a) (x.c*y.b):=(lK h).mp (by rw[iE h ox.c];exact hy)
  have:=(lK h).mpr (IP h p1 p2)
  have e1:x.a*y.c+y.a*x.c=y.c*x.a+x.c*y.a:=by grind
  have e2:x.b*y.c+y.b*x.c=y.c*x.b+x.c*y.b:=by grind
  rw[e1,e2];exact this
end
end NM
set_option maxHeartbeats 1000000
namespace NM
end NM
set_option maxHeartbeats 4000000
namespace NM
end NM
set_option maxHeartbeats 400000
namespace NM
end NM
namespace NM
end NM
set_option maxHeartbeats 4000000
namespace NM
section
variable {d:Int}{x y z u p q s t w h p' q' s' t' w' h':N3}
noncomputable def hf(d:Int)(p q h:N3):N3:=plus (times d p h) (times d q (DB h))
end
end NM
namespace NM
section
variable {d:Int}{x y z:N3}
noncomputable def gtL(d:Int)(k o:N3):Prop:=((yh d o).a.natAbs:Int)*(yh d k).c<((yh d k).a.natAbs:Int)*(yh d o).c
noncomputable instance:Decidable (gtL d x y):=by unfold gtL;infer_instance
end
end NM
set_option maxHeartbeats 400000
namespace NM
section
variable {d:Int}{x y z k s o f u v:N3}
theorem lA(ox:Ok x)(oy:Ok y):times d x y=times d y x:=
 Rep.eq (aN ox oy) (aN oy ox) (Rep.times ox oy (ax ox) (ax oy)) (Rep.times oy ox (ax oy) (ax ox)) (by grind) (by grind)
theorem C0(ox:Ok x)(oy:Ok y)(oz:Ok z):times d (times d x y) z=times d x (times d y z):=
 Rep.eq (aN (aN ox oy) oz) (aN ox (aN oy oz)) (Rep.times (aN ox oy) oz (Rep.times ox oy (ax ox) (ax oy)) (ax oz)) (Rep.times ox (aN oy oz) (ax ox) (Rep.times oy oz (ax oy) (ax oz))) (by grind) (by grind)
end
end NM
set_option maxHeartbeats 4000000
namespace NM
section
variable {d:Int}{x y z:N3}
theorem Fe(ox:Ok x)(oy:Ok y):plus x y=plus y x:=
 Rep.eq (a6 ox oy) (a6 oy ox) (Rep.plus ox oy (ax ox) (ax oy)) (Rep.plus oy ox (ax oy) (ax ox)) (by grind) (by grind)
theorem Ie(ox:Ok x)(oy:Ok y)(oz:Ok z):plus (plus x y) z=plus x (plus y z):=
 Rep.eq (a6 (a6 ox oy) oz) (a6 ox (a6 oy oz)) (Rep.plus (a6 ox oy) oz (Rep.plus ox oy (ax ox) (ax oy)) (ax oz)) (Rep.plus ox (a6 oy oz) (ax ox) (Rep.plus oy oz (ax oy) (ax oz))) (by grind) (by grind)
theorem AM(ox:Ok x)(oy:Ok y)(oz:Ok z):times d x (plus y z)=plus (times d x y) (times d x z):=
 Rep.eq (aN ox (a6 oy oz)) (a6 (aN ox oy) (aN ox oz)) (Rep.times ox (a6 oy oz) (ax ox) (Rep.plus oy oz (ax oy) (ax oz))) (Rep.plus (aN ox oy) (aN ox oz) (Rep.times ox oy (ax ox) (ax oy)) (Rep.times ox oz (ax ox) (ax oz))) (by grind) (by grind)
noncomputable def oN(n:Int):N3:=⟨n,0,1⟩
theorem bg(n:Int):Ok (oN n):=⟨Int.le_refl 1,by show g3 n 0 1=1;unfold g3;simp⟩
theorem dR(n:Int):Rep (oN n) n 0 1:=ax (bg n)
theorem HI(ox:Ok x):plus x (oN 0)=x:=
 Rep.eq (a6 ox (bg 0)) ox (Rep.plus ox (bg 0) (ax ox) (dR 0)) (ax ox) (by grind) (by grind)
theorem AK(ox:Ok x):times d (oN 0) x=oN 0:=
 Rep.eq (aN (bg 0) ox) (bg 0) (Rep.times (bg 0) ox (dR 0) (ax ox)) (dR 0) (by grind) (by grind)
theorem A9(ox:Ok x):times d x (oN 1)=x:=
 Rep.eq (aN ox (bg 1)) ox (Rep.times ox (bg 1) (ax ox) (dR 1)) (ax ox) (by grind) (by grind)
theorem JF(ox:Ok x):plus (minus x) x=oN 0:=
 Rep.eq (a6 (dH ox) ox) (bg 0) (Rep.plus (dH ox) ox (Rep.minus (ax ox)) (ax ox)) (dR 0) (by grind) (by grind)
theorem KR(ox:Ok x)(oy:Ok y):less x y=plus x (minus y):=
 Rep.eq (xZ ox oy) (a6 ox (dH oy)) (Rep.less ox oy (ax ox) (ax oy)) (Rep.plus ox (dH oy) (ax ox) (Rep.minus (ax oy))) (by grind) (by grind)
theorem E5(n:Int)(ox:Ok x):times d (oN (-n)) x=minus (times d (oN n) x):=
 Rep.eq (aN (bg (-n)) ox) (dH (aN (bg n) ox)) (Rep.times (bg _) ox (dR _) (ax ox)) (Rep.minus (Rep.times (bg n) ox (dR n) (ax ox))) (by grind) (by grind)
theorem Fm(n:Nat):oN ((n+1:Nat):Int)=plus (oN (n:Int)) (oN 1):=
 Rep.eq (bg _) (a6 (bg _) (bg _)) (dR _) (Rep.plus (bg _) (bg _) (dR _) (dR _)) (by push_cast;grind) (by grind)
end
structure RN(d:Int) where
 v:N3
 ok:Ok v
theorem RN.ext{d:Int}{x y:RN d}(h:x.v=y.v):x=y:=by cases x;cases y;cases h;rfl
noncomputable def GG(d:Int)(a:RN d):Nat->RN d
 |0=>⟨oN 1,bg 1⟩
 |n+1=>⟨times d (GG d a n).v a.v,aN (GG d a n).ok a.ok⟩
section
variable {d:Int}
noncomputable instance:Add (RN d):=⟨fun a b=>⟨plus a.v b.v,a6 a.ok b.ok⟩⟩
noncomputable instance:Mul (RN d):=⟨fun a b=>⟨times d a.v b.v,aN a.ok b.ok⟩⟩
noncomputable instance:Neg (RN d):=⟨fun a=>⟨minus a.v,dH a.ok⟩⟩
noncomputable instance:Sub (RN d):=⟨fun a b=>⟨less a.v b.v,xZ a.ok b.ok⟩⟩
noncomputable instance:NatCast (RN d):=⟨fun n=>⟨oN n,bg n⟩⟩
noncomputable instance:IntCast (RN d):=⟨fun n=>⟨oN n,bg n⟩⟩
noncomputable instance (n:Nat):OfNat (RN d) n:=⟨⟨oN n,bg n⟩⟩
noncomputable instance:SMul Nat (RN d):=⟨fun n a=>⟨times d (oN n) a.v,aN (bg n) a.ok⟩⟩
noncomputable instance:SMul Int (RN d):=⟨fun n a=>⟨times d (oN n) a.v,aN (bg n) a.ok⟩⟩
noncomputable instance:HPow (RN d) Nat (RN d):=⟨GG d⟩
noncomputable instance:Lean.Grind.CommRing (RN d) where
 add_zero a:=RN.ext (HI a.ok)
 add_comm a b:=RN.ext (Fe a.ok b.ok)
 add_assoc a b c:=RN.ext (Ie a.ok b.ok c.ok)
 mul_assoc a b c:=RN.ext (C0 a.ok b.ok c.ok)
 mul_one a:=RN.ext (A9 a.ok)
 one_mul a:=RN.ext ((lA (bg 1) a.ok).trans (A9 a.ok))
 left_distrib a b c:=RN.ext (AM a.ok b.ok c.ok)
 right_distrib a b c:=RN.ext ((lA (a6 a.ok b.ok) c.ok).trans ((AM c.ok a.ok b.ok).trans (by rw[lA c.ok a.ok,lA c.ok b.ok];rfl)))
 zero_mul a:=RN.ext (AK a.ok)
 mul_zero a:=RN.ext ((lA a.ok (bg 0)).trans (AK a.ok))
 mul_comm a b:=RN.ext (lA a.ok b.ok)
 pow_zero a:=rfl
 pow_succ a n:=rfl
 ofNat_succ n:=RN.ext (Fm n)
 ofNat_eq_natCast n:=rfl
 nsmul_eq_natCast_mul n a:=rfl
 neg_add_cancel a:=RN.ext (JF a.ok)
 sub_eq_add_neg a b:=RN.ext (KR a.ok b.ok)
 neg_zsmul i a:=RN.ext (E5 i a.ok)
 zsmul_natCast_eq_nsmul n a:=rfl
 intCast_ofNat n:=rfl
 intCast_neg i:=RN.ext rfl
end
section
variable {d:Int}{a b c:RN d}
noncomputable def ps(a:RN d):Prop:=sg d a.v.a a.v.b=1
noncomputable def nn(a:RN d):Prop:=¬ ps (-a)
theorem Jn(hd:aj d)(a:RN d):sg d (-a).v.a (-a).v.b = - sg d a.v.a a.v.b:=rR hd
theorem HX(hd:aj d)(ha:ps a)(hb:ps b):ps (a+b):=pA hd a.ok b.ok (.inr ha) hb
theorem gR(hd:aj d)(ha:ps a)(hb:ps b):ps (a*b):=by
 show sg d (times d a.v b.v).a (times d a.v b.v).b=1
 rw[ll hd a.ok b.ok,show sg d a.v.a a.v.b=1 from ha,show sg d b.v.a b.v.b=1 from hb];rfl
theorem J4:¬ ps (0:RN d):=fun h=>by
 have:sg d (0:Int) 0=1:=h
 rw[nP.mpr ⟨rfl,rfl⟩] at this;omega
theorem Hn(hd:aj d)(h:ps a):¬ ps (-a):=fun g=>by
 have e:=Jn hd a
 rw[show sg d a.v.a a.v.b=1 from h,show sg d (-a).v.a (-a).v.b=1 from g] at e;omega
theorem HR(hd:aj d)(a:RN d):a=0\/ps a\/ps (-a):=by
 rcases wu d a.v.a a.v.b with e|e|e
 ·obtain⟨h1,h2⟩:=nP.mp e
  exact .inl (RN.ext (a.ok.same (bg 0) (by rw[h1];show 0*_=0*_;omega) (by rw[h2];show 0*_=0*_;omega)))
 ·exact .inr (.inl e)
 ·exact .inr (.inr (by show sg d (-a).v.a (-a).v.b=1;rw[Jn hd a,e];rfl))
theorem Ez(hd:aj d)(h:ps a):nn a:=Hn hd h
theorem LJ:nn (0:RN d):=fun h=>J4 ((show -(0:RN d)=0 by grind)▸h)
theorem Ex(hd:aj d)(h:nn a):a=0\/ps a:=by
 rcases HR hd a with e|e|e
 ·exact .inl e
 ·exact .inr e
 ·exact absurd e h
theorem EB(hd:aj d)(ha:ps a)(hb:nn b):ps (a+b):=by
 rcases Ex hd hb with e|e
 ·rw[e,show a+0=a by grind];exact ha
 ·exact HX hd ha e
theorem GI(hd:aj d)(ha:nn a)(hb:nn b):nn (a+b):=by
 rcases Ex hd ha with e|e
 ·rw[e,show 0+b=b by grind];exact hb
 ·exact Ez hd (EB hd e hb)
theorem bb(h:0<(n:Int)):ps ((n:Int):RN d):=by
 show sg d n 0=1
 rw[Ff,if_neg ∅,if_pos h]
theorem um(m n:Int):((m-n:Int):RN d)=(m:RN d)-(n:RN d):=Lean.Grind.Ring.intCast_sub m n
theorem B3:((1:Int):RN d)=1:=rfl
noncomputable def inv(a:RN d):RN d:=if h:norm d a.v≠0 then ⟨aB d a.v,cJ h⟩ else 0
theorem gD(hd:aj d)(h:ps a):norm d a.v≠0:=gq hd a.ok h
theorem iZ(hd:aj d)(h:ps a):(inv a).v=aB d a.v:=by unfold inv;rw[dif_pos (gD hd h)]
theorem inv_mul(hd:aj d)(h:ps a):a*inv a=1:=RN.ext (by
 show times d a.v (inv a).v=_
 rw[iZ hd h];exact iM a.ok (gD hd h))
theorem jU(hd:aj d)(h:ps a):ps (inv a):=by
 show sg d (inv a).v.a (inv a).v.b=1
 rw[iZ hd h];exact iV hd a.ok h
theorem kD(hd:aj d){m n:Int}(hn:0<n):low m 0 n=((m:RN d)*inv (n:RN d)).v:=by
 have r:=Rep.times (d:=d) (bg m) (inv (n:RN d)).ok (dR m) (by
  rw[iZ hd (bb hn)]
  exact (dR n).aB (bg n) (gD hd (bb (d:=d) hn)))
 exact Rep.eq (dX _ _ ∅) ((m:RN d)*inv (n:RN d)).ok (fh ∅) r (by grind) (by grind)
end
end NM
namespace L2.DL
open PySem PySem.Spec PyProof.Rows
inductive Box where
 |dict (kvs:List (List Int×PyData))
 |set (ks:List (List Int))
structure Mu where
 l:Addr->Option (List PyData)
 b:Addr->Option Box
noncomputable instance:CoeFun Mu fun _=>Addr->Option (List PyData):=⟨Mu.l⟩
noncomputable abbrev PQ:=PySem.W.Frag->V->Mu->Hp->Prop
inductive D where
 |v (x:PyData)
 |m (a:Addr)
 |s (ns:List Int)
  /-- an object that is handed on -/
 |o (a:Addr)
  /-- a dict or a set -/
 |b (a:Addr)
  /-- a thing of which something is known that stays -/
 |q (P:PQ)
noncomputable abbrev Rho:=List (Option D)
noncomputable def aE(U:Mu)(a:Addr)(ds:List PyData):Mu:=⟨fun b=>if b=a then some ds else U b,U.b⟩
theorem aq{U:Mu}{a:Addr}{ds}:aE U a ds a=some ds:=if_pos rfl
theorem au{U:Mu}{a b:Addr}{ds}(h:b≠a):aE U a ds b=U b:=if_neg h
noncomputable def mJ(U:Mu)(a:Addr)(c:Box):Mu:=⟨U.l,fun b=>if b=a then some c else U.b b⟩
theorem Mu.eq{U ν:Mu}(h1:∀b,U b=ν b)(h2:∀b,U.b b=ν.b b):U=ν:=by
 obtain⟨l,b⟩:=U;obtain⟨l',b'⟩:=ν
 cases (funext h1:l=l');cases (funext h2:b=b');rfl
theorem bL{U:Mu}{a:Addr}{ds es}:aE (aE U a ds) a es=aE U a es:=Mu.eq (fun b=>by
 by_cases h:b=a
 ·subst h;rw[aq,aq]
 ·rw[au h,au h,au h]) fun _=>rfl
mutual
inductive Rp(K:PySem.W.Frag)(U:Mu)(H:Hp):PyData->V->Prop
 |none:Rp K U H .none .non
 |bool (b:Bool):Rp K U H (.bool b) (.bl b)
 |int (i:Int):Rp K U H (.int i) (.int i)
 |str (x:Str):Rp K U H (.str x) (.str x)
 |list {a:Addr} {xs:List V} {ds:List PyData}:H a=some (.lst xs)->U a=Option.none->RpL K U H ds xs->Rp K U H (.list ds) (.ref a)
 |tuple {a:Addr} {xs:List V} {ds:List PyData}:SqT K H a xs->RpL K U H ds xs->Rp K U H (.tuple ds) (.ref a)
inductive RpL(K:PySem.W.Frag)(U:Mu)(H:Hp):List PyData->List V->Prop
 |nil:RpL K U H [] []
 |cons {d:PyData} {v:V} {ds:List PyData} {vs:List V}:Rp K U H d v->RpL K U H ds vs->RpL K U H (d::ds) (v::vs)
end
noncomputable def NT:HO->Prop
 |.tbl _=>False
 |.raw _=>False
 |_=>True
structure Ext(K:PySem.W.Frag)(U:Mu)(H:Hp)(Y:Mu)(H':Hp):Prop where
 keep:∀b o,H b=some o->U b=none->NT o->H' b=some o
 tb:∀b ps,H b=some (.tbl ps)->U b=none->∃ps',H' b=some (.tbl ps')
 dom:∀b ds,U b=some ds->∃es,Y b=some es
 fresh:∀b,U b=none->(H b≠none\/K.lookup b≠none)->Y b=none
 st:∀b o,H b=some o->U b=none->∃o',H' b=some o'
 bx:∀b c,U.b b=some c->∃c',Y.b b=some c'
noncomputable def RpD(K:PySem.W.Frag)(U:Mu)(H:Hp):D->V->Prop
 |.v x,u=>Rp K U H x u
 |.m a,u=>u = .ref a/\∃ds,U a=some ds
 |.s ns,u=>∃a,u = .ref a/\SqL K H a (ns.map V.int)/\U a=none
 |.o a,u=>u = .ref a
 |.b a,u=>u = .ref a/\∃c,U.b a=some c
 |.q P,u=>∀Y H',Ext K U H Y H'->P K u Y H'
noncomputable def codeAt(c:Addr)(q:Str)(h:Heap):Prop:=∃o vs t,h.get? c=some o/\o.data = .fields vs/\vs[1]? = some (.str q t)
noncomputable abbrev aX(q:Str):Str:=(q ++ ".<locals>.") ++ "<lambda>"
noncomputable def Lz(H:Hp)(P:Addr)(q:Str):Prop:=∃ps:Array Value,H P=some (.tbl ps)/\TriplesOk ps.toList/\∀pos cv,codeAmong pos ps.toList=some cv->∃c,cv = .ref c/\H c=some (.ext (codeAt c (aX q)))
noncomputable def pR(K:PySem.W.Frag)(H:Hp):Prop:=∀c o P q,K.lookup c=some o->aU o=some (P,q)->Lz H P q
noncomputable abbrev hI(ks:List Int):Int:=reduceHash (Builtin.Tuple.tupleHashOf (ks.map hashInt))
noncomputable def Fw(K:PySem.W.Frag)(U:Mu)(H:Hp)(kvs:List (List Int×PyData))(xs:List (List Int×Addr×Value)):Prop:=
 Paired (fun (p:List Int×PyData) (q:List Int×Addr×Value)=>p.1=q.1/\SqT K H q.2.1 (p.1.map V.int)/\∃v,Rp K U H p.2 v/\RelV v q.2.2) kvs xs
noncomputable def o8(K:PySem.W.Frag)(U:Mu)(H:Hp):Box->Obj->Prop
 |.dict kvs,o=>kvs.length<=sizeLine/\o.ExactDict/\∃es ep,∃xs:List (List Int×Addr×Value),o.data = .dict es ep/\es.toList=xs.map (fun x=>⟨hI x.1,.ref x.2.1,x.2.2⟩)/\(xs.map (·.1)).Nodup/\Fw K U H kvs xs
 |.set ks,o=>o.ExactSet/\∃(L:ST.Ln Value) (ep:Nat) (t:SetTable),o.data = .set (L.map (·.2)).toArray ep t/\ST.Tab t L/\L.length*5<t.mask*3/\L.length=ks.length /\
   (∀x∈L,∃k q,x.2.2 = .ref q/\SqT K H q (k.map V.int)/\x.2.1=hI k/\k∈ks)/\∀k∈ks,∃x∈L,∃q,x.2.2 = .ref q/\SqT K H q (k.map V.int)
structure aV(K:PySem.W.Frag)(U:Mu)(H:Hp):Prop where
 lst:∀a ds,U a=some ds->∃xs,H a=some (.lst xs)/\RpL K U H ds xs
 tab:pR K H
 box:∀a c,U.b a=some c->(a==sysModules)=false/\∃o,H a=some (.raw o)/\o8 K U H c o
noncomputable instance {K:PySem.W.Frag} {U:Mu} {H:Hp}:CoeFun (aV K U H) fun _=>∀a ds,U a=some ds->∃xs,H a=some (.lst xs)/\RpL K U H ds xs:=⟨aV.lst⟩
theorem pR.of{K:PySem.W.Frag}{H H1:Hp}(t:pR K H)(s:∀b o,H b=some o->(∀xs,o≠.lst xs)->(∀ob,o≠.raw ob)->H1 b=some o):pR K H1:=fun c o P q h1 h2=>by
 obtain⟨ps,a1,a2,a3⟩:=t c o P q h1 h2
 exact⟨ps,s _ _ a1 (fun _ z=>nomatch z) (fun _ z=>nomatch z),a2,fun pos cv e=>let ⟨c,q1,q2⟩:=a3 pos cv e;⟨c,q1,s _ _ q2 (fun _ z=>nomatch z) (fun _ z=>nomatch z)⟩⟩
noncomputable def fD(K:PySem.W.Frag)(U:Mu)(H:Hp)(ρ:Rho)(Z:St):Prop:=
 ρ.length=Z.length/\∀(i:Nat) (d:D),ρ[i]? = some (some d)->∃u,Z[i]? = some (some u)/\RpD K U H d u
structure St0(K:PySem.W.Frag)(H:Hp)(ρ:Rho)(U:Mu)(Z:St):Prop where
 mu:aV K U H
 rho:fD K U H ρ Z
section
variable {K:PySem.W.Frag}{U ac ad:Mu}{H H1 H2:Hp}
theorem Ext.refl:Ext K U H U H:=⟨fun _ _ h _ _=>h,fun _ ps h _=>⟨ps,h⟩,fun _ ds h=>⟨ds,h⟩,fun _ h _=>h,fun _ o h _=>⟨o,h⟩,fun _ c h=>⟨c,h⟩⟩
theorem Ext.trans(a:Ext K U H ac H1)(b:Ext K ac H1 ad H2):Ext K U H ad H2 where
 keep:=fun c o h n t=>b.keep c o (a.keep c o h n t) (a.fresh c n (.inl (by rw[h];exact fun z=>nomatch z))) t
 tb:=fun c ps h n=>by
  obtain⟨ps1,h1⟩:=a.tb c ps h n
  exact b.tb c ps1 h1 (a.fresh c n (.inl (by rw[h];exact fun z=>nomatch z)))
 dom:=fun c ds h=>let ⟨es,q⟩:=a.dom c ds h;b.dom c es q
 fresh:=fun c n h=>by
  refine b.fresh c (a.fresh c n h) ?_
  rcases h with h|h
  ·cases q:H c with
   |none=>exact absurd q h
   |some o=>
    obtain⟨o',h'⟩:=a.st c o q n
    exact .inl (by rw[h'];exact fun z=>nomatch z)
  ·exact .inr h
 st:=fun c o h n=>by
  obtain⟨o',h'⟩:=a.st c o h n
  exact b.st c o' h' (a.fresh c n (.inl (by rw[h];exact fun z=>nomatch z)))
 bx:=fun c x h=>let ⟨x',q⟩:=a.bx c x h;b.bx c x' q
theorem Ext.of_same(s:tw H H1):Ext K U H U H1:=⟨fun b o h _ _=>s b o h,fun b ps h _=>⟨ps,s b _ h⟩,fun _ ds h=>⟨ds,h⟩,fun _ h _=>h,fun b o h _=>⟨o,s b o h⟩,fun _ c h=>⟨c,h⟩⟩
theorem aV.not{a:Addr}{o:HO}(ok:aV K U H)(h:H a=some o)(n:∀xs,o≠.lst xs):U a=none:=by
 cases q:U a with
 |none=>rfl
 |some ds=>
  obtain⟨ys,e,_⟩:=ok a ds q
  rw[h] at e
  exact absurd (Option.some.inj e) (n ys)
theorem aV.free{a:Addr}(ok:aV K U H)(h:H a=none):U a=none:=by
 cases q:U a with
 |none=>rfl
 |some ds=>
  obtain⟨ys,e,_⟩:=ok a ds q
  rw[h] at e;cases e
theorem fm{a:Addr}{xs:List V}(ok:aV K U H)(e:Ext K U H ac H1)(h:SqT K H a xs):SqT K H1 a xs:=by
 rcases h with (h|⟨o,h⟩)|h
 ·exact .inl (.inl (e.keep _ _ h (ok.not h fun _ z=>nomatch z) trivial))
 ·exact .inl (.inr ⟨o,e.keep _ _ h (ok.not h fun _ z=>nomatch z) trivial⟩)
 ·exact .inr h
theorem xG{a:Addr}{xs:List V}(e:Ext K U H ac H1)(h:SqL K H a xs)(n:U a=none):SqL K H1 a xs/\ac a=none:=by
 rcases h with (h|⟨o,h⟩)|h
 ·exact⟨.inl (.inl (e.keep _ _ h n trivial)),e.fresh _ n (.inl (by rw[h];exact fun z=>nomatch z))⟩
 ·exact⟨.inl (.inr ⟨o,e.keep _ _ h n trivial⟩),e.fresh _ n (.inl (by rw[h];exact fun z=>nomatch z))⟩
 ·obtain⟨o,its,k,hk,r⟩:=id h
  exact⟨.inr h,e.fresh _ n (.inr (by rw[hk];exact fun z=>nomatch z))⟩
mutual
theorem Rp.ext{d:PyData}{u:V}(ok:aV K U H)(e:Ext K U H ac H1):Rp K U H d u->Rp K ac H1 d u
 |.none=>.none
 |.bool b=>.bool b
 |.int i=>.int i
 |.str x=>.str x
 |.list h n r=>.list (e.keep _ _ h n trivial) (e.fresh _ n (.inl (by rw[h];exact fun z=>nomatch z))) (RpL.ext ok e r)
 |.tuple h r=>.tuple (fm ok e h) (RpL.ext ok e r)
theorem RpL.ext{ds:List PyData}{us:List V}(ok:aV K U H)(e:Ext K U H ac H1):RpL K U H ds us->RpL K ac H1 ds us
 |.nil=>.nil
 |.cons h r=>.cons (Rp.ext ok e h) (RpL.ext ok e r)
end
theorem RpD.ext{d:D}{u:V}(ok:aV K U H)(e:Ext K U H ac H1)(r:RpD K U H d u):RpD K ac H1 d u:=by
 cases d with
 |v x=>exact Rp.ext ok e r
 |m a=>obtain⟨h,ds,q⟩:=r;exact⟨h,e.dom a ds q⟩
 |s ns=>obtain⟨a,h,q,n⟩:=r;exact⟨a,h,(xG e q n).1,(xG e q n).2⟩
 |o a=>exact r
 |b a=>obtain⟨h,c,q⟩:=r;exact⟨h,e.bx a c q⟩
 |q P=>exact fun Y H' e'=>r Y H' (e.trans e')
theorem o8.ext{c:Box}{o:Obj}(ok:aV K U H)(e:Ext K U H ac H1)(r:o8 K U H c o):o8 K ac H1 c o:=by
 cases c with
 |dict kvs=>
  obtain⟨h1,h2,es,ep,xs,h3,h4,h5,h6⟩:=r
  exact⟨h1,h2,es,ep,xs,h3,h4,h5,Paired.Dq h6 fun p q ⟨z1,z2,v,z3,z4⟩=>⟨z1,fm ok e z2,v,Rp.ext ok e z3,z4⟩⟩
 |set ks=>
  obtain⟨h1,L,ep,t,h2,h3,h4,h5,h6,h7⟩:=r
  exact⟨h1,L,ep,t,h2,h3,h4,h5,fun x hx=>let ⟨k,q,z1,z2,z3⟩:=h6 x hx;⟨k,q,z1,fm ok e z2,z3⟩,fun k hk=>let ⟨x,hx,q,z1,z2⟩:=h7 k hk;⟨x,hx,q,z1,fm ok e z2⟩⟩
theorem aV.KQ{a:Addr}(ok:aV K U H)(h:H a=none):U.b a=none:=by
 cases q:U.b a with
 |none=>rfl
 |some c=>
  obtain⟨_,ob,e,_⟩:=ok.box a c q
  rw[h] at e;cases e
theorem fD.ext{ρ:Rho}{Z:St}(ok:aV K U H)(e:Ext K U H ac H1)(r:fD K U H ρ Z):fD K ac H1 ρ Z:=
 ⟨r.1,fun i d h=>let ⟨u,h1,h2⟩:=r.2 i d h;⟨u,h1,h2.ext ok e⟩⟩
theorem RpL.length{ds:List PyData}{us:List V}:RpL K U H ds us->ds.length=us.length
 |.nil=>rfl
 |.cons _ r=>congrArg (· + 1) (RpL.length r)
theorem RpL.get{ds:List PyData}{us:List V}:∀{i:Nat} {d:PyData},RpL K U H ds us->ds[i]? = some d->∃u,us[i]? = some u/\Rp K U H d u
 |_,_,.nil,h=>by simp at h
 |0,_,.cons r _,h=>by simp at h;subst h;exact⟨_,rfl,r⟩
 |i+1,d,.cons _ t,h=>by
  obtain⟨u,h1,h2⟩:=RpL.get (i:=i) (d:=d) t (by simpa using h)
  exact⟨u,by simpa using h1,h2⟩
theorem RpL.append{ds es:List PyData}{us ws:List V}:RpL K U H ds us->RpL K U H es ws->RpL K U H (ds++es) (us++ws)
 |.nil,s=>s
 |.cons r t,s=>.cons r (RpL.append t s)
theorem RpL.take{ds:List PyData}{us:List V}:∀(n:Nat),RpL K U H ds us->RpL K U H (ds.take n) (us.take n)
 |0,_=>by simp;exact .nil
 |_+1,.nil=>by simp;exact .nil
 |n+1,.cons r t=>.cons r (RpL.take n t)
theorem RpL.drop{ds:List PyData}{us:List V}:∀(n:Nat),RpL K U H ds us->RpL K U H (ds.drop n) (us.drop n)
 |0,r=>r
 |_+1,.nil=>by simp;exact .nil
 |n+1,.cons _ t=>RpL.drop n t
theorem RpL.set{ds:List PyData}{us:List V}{d:PyData}{u:V}(q:Rp K U H d u):∀(i:Nat),RpL K U H ds us->RpL K U H (ds.set i d) (us.set i u)
 |_,.nil=>.nil
 |0,.cons _ t=>.cons q t
 |i+1,.cons r t=>.cons r (RpL.set q i t)
theorem wI{ds:List PyData}{us:List V}{i:Int}{d:PyData}(r:RpL K U H ds us)(h:atI ds i=some d):∃u,atI us i=some u/\Rp K U H d u:=by
 unfold atI at h ⊢
 rw[<- r.length]
 cases q:ixN ds.length i with
 |none=>rw[q] at h;cases h
 |some j=>
  rw[q] at h
  exact r.get h
noncomputable abbrev DK:=D->Mu->Prop
noncomputable abbrev DTE:=Rho->Mu->DK->Prop
noncomputable abbrev DTT:=Rho->Mu->(Bool->Mu->Prop)->Prop
noncomputable abbrev DTA:=Rho->Mu->(List D->Mu->Prop)->Prop
structure gZ where
 nx:Rho->Mu->Prop
 rt:DK
 bk:Rho->Mu->Prop:=fun _ _=>False
 ct:Rho->Mu->Prop:=fun _ _=>False
noncomputable abbrev DTS:=gZ->Rho->Mu->Prop
inductive fg(K:PySem.W.Frag)(U:Mu)(H:Hp):List D->List V->Prop
 |nil:fg K U H [] []
 |cons {d:D} {u:V} {ds:List D} {us:List V}:RpD K U H d u->fg K U H ds us->fg K U H (d::ds) (u::us)
theorem fg.ext{ds:List D}{us:List V}(ok:aV K U H)(e:Ext K U H ac H1):fg K U H ds us->fg K ac H1 ds us
 |.nil=>.nil
 |.cons h r=>.cons (h.ext ok e) (fg.ext ok e r)
theorem fg.length{ds:List D}{us:List V}:fg K U H ds us->ds.length=us.length
 |.nil=>rfl
 |.cons _ r=>congrArg (· + 1) (fg.length r)
end
noncomputable def kb(K:PySem.W.Frag)(t:TE)(td:DTE):Prop:=∀(Z:St) (H:Hp) (ρ:Rho) (U:Mu) (Qd:DK) (Q:VK),St0 K H ρ U Z->td ρ U Qd ->
 (∀d u Y H',Ext K U H Y H'->St0 K H' ρ Y Z->RpD K Y H' d u->Qd d Y->Q u H')->t Z H Q
noncomputable def AE(K:PySem.W.Frag)(t:TT)(td:DTT):Prop:=∀(Z:St) (H:Hp) (ρ:Rho) (U:Mu) (Qd:Bool->Mu->Prop) (Q:Bool->Hp->Prop),St0 K H ρ U Z->td ρ U Qd ->
 (∀b Y H',Ext K U H Y H'->St0 K H' ρ Y Z->Qd b Y->Q b H')->t Z H Q
noncomputable def EV(K:PySem.W.Frag)(n:Nat)(t:TA)(td:DTA):Prop:=∀(Z:St) (H:Hp) (ρ:Rho) (U:Mu) (Qd:List D->Mu->Prop) (Q:List V->Hp->Prop),St0 K H ρ U Z->td ρ U Qd ->
 (∀ds us Y H',Ext K U H Y H'->St0 K H' ρ Y Z->fg K Y H' ds us->ds.length=n->Qd ds Y->Q us H')->t Z H Q
noncomputable def qS(K:PySem.W.Frag)(t:TS)(td:DTS):Prop:=∀(Z:St) (H:Hp) (ρ:Rho) (U:Mu) (Dd:gZ) (De:Ends),St0 K H ρ U Z->td Dd ρ U ->
 (∀al ap Y H',Ext K U H Y H'->St0 K H' ap Y al->Dd.nx ap Y->De.nx al H') ->
 (∀d u Y H',Ext K U H Y H'->aV K Y H'->RpD K Y H' d u->Dd.rt d Y->De.rt u H') ->
 (∀al ap Y H',Ext K U H Y H'->St0 K H' ap Y al->Dd.bk ap Y->De.bk al H') ->
 (∀al ap Y H',Ext K U H Y H'->St0 K H' ap Y al->Dd.ct ap Y->De.ct al H')->t De Z H
inductive DE(X:Cx)(e:Expr)(td:DTE):Prop|mk0 (t:TE) (p:PE X e t) (l:kb X.K t td):DE X e td
inductive DT(X:Cx)(e:Expr)(td:DTT):Prop|mk0 (t:TT) (p:PT X e t) (l:AE X.K t td):DT X e td
inductive DA(X:Cx)(es:List Expr)(td:DTA):Prop|mk0 (t:TA) (p:PA X es t) (l:EV X.K es.length t td):DA X es td
inductive DS(X:Cx)(st:Stmt)(td:DTS):Prop|mk0 (t:TS) (p:PS X st t) (l:qS X.K t td):DS X st td
inductive DSs(X:Cx)(st:List Stmt)(td:DTS):Prop|mk0 (t:TS) (p:PSs X st t) (l:qS X.K t td):DSs X st td
section
variable {X:Cx}{a b c:Expr}{ta tb tc:DTE}{pos:Pos}
noncomputable def ae(i:Nat):DTE:=fun ρ U Q=>match ρ[i]? with
 |some (some d)=>Q d U
 |_=>False
noncomputable def dC(x:PyData):DTE:=fun _ U Q=>Q (.v x) U
theorem Br{K:PySem.W.Frag}(i:Nat):kb K (Jf i) (ae i):=by
 intro Z H ρ U Qd Q S h k
 unfold ae at h
 split at h
 ·rename_i d e
  obtain⟨u,h1,h2⟩:=S.rho.2 i d e
  exact⟨u,h1,k d u U H .refl S h2 h⟩
 ·exact h.elim
theorem dv(i:Nat){x:Str}{pos:Pos}(hN:X.N[i]? = some x:=by rfl)(hv:Vis X.env.scope x:=by first|exact Or.inl rfl|exact Or.inr (Or.inl rfl)|exact Or.inr (Or.inr rfl))(hd:(x==("__debug__":Str))=false:=by decide)
  (hcd:(x==("__classdict__":Str))=false:=by decide):DE X (.Name x pos) (ae i):=⟨_,BJ hN hv hd hcd,Br i⟩
theorem sr{K:PySem.W.Frag}{x:PyData}{u:V}(h:∀U H,aV K U H->Rp K U H x u):kb K (tC u) (dC x):=fun Z H ρ U Qd Q S q k=>k (.v x) u U H .refl S (h U H S.mu) q
theorem IF{i j pos}:DE X (.Constant (.int i) j pos) (dC (.int i)):=⟨_,FK,sr fun _ _ _=>.int i⟩
theorem KS{i j pos}:DE X (.Constant (.bool i) j pos) (dC (.bool i)):=⟨_,IZ,sr fun _ _ _=>.bool i⟩
theorem HQ{x j pos}:DE X (.Constant (.str x) j pos) (dC (.str x)):=⟨_,Bf,sr fun _ _ _=>.str x⟩
theorem xH{x:Str}{d:PyData}{u:V}{w:Value}{pos:Pos}(hg:Gl X x)(hm:X.mg x=some w)(r:RelV u w)(h:∀U H,aV X.K U H->Rp X.K U H d u)(hd:(x==("__debug__":Str))=false:=by decide):DE X (.Name x pos) (dC d):=
 ⟨_,xY hg hm r hd,sr h⟩
noncomputable def c7(K:PySem.W.Frag)(rr:R2)(r:D->D->Mu->DK->Prop):Prop:=∀(x y:D) (ux uy:V) (H:Hp) (U:Mu) (Qd:DK) (Q:VK),aV K U H->RpD K U H x ux->RpD K U H y uy->r x y U Qd ->
 (∀d u Y H',Ext K U H Y H'->aV K Y H'->RpD K Y H' d u->Qd d Y->Q u H')->rr ux uy H Q
noncomputable def dOp(r:D->D->Mu->DK->Prop)(ta tb:DTE):DTE:=fun ρ U Q=>ta ρ U fun x ac=>tb ρ ac fun y ad=>r x y ad Q
theorem nI{K:PySem.W.Frag}{rr:R2}{r}{t1 t2:TE}(lo:c7 K rr r)(la:kb K t1 ta)(lb:kb K t2 tb):kb K (tOp rr t1 t2) (dOp r ta tb):=by
 intro Z H ρ U Qd Q S h k
 refine la Z H ρ U _ _ S h fun x ux ac H1 e1 S1 rx h1=>?_
 refine lb Z H1 ρ ac _ _ S1 h1 fun y uy ad H2 e2 S2 ry h2=>?_
 exact lo x y ux uy H2 ad _ _ S2.mu (rx.ext S1.mu e2) ry h2 fun d u Y H' e3 ok r q=>k d u Y H' (e1.trans (e2.trans e3)) ⟨ok,S2.rho.ext S2.mu e3⟩ r q
theorem pD{op:Operator}{rr:R2}{r}(ho:OpR X (binaryOp op) rr)(lo:c7 X.K rr r)(ha:DE X a ta)(hb:DE X b tb):DE X (.BinOp a op b pos) (dOp r ta tb):=by
 obtain⟨t1,p1,l1⟩:=ha
 obtain⟨t2,p2,l2⟩:=hb
 exact⟨_,JE ho p1 p2,nI lo l1 l2⟩
theorem lQ{op:CmpOp}{rr:R2}{r}(ho:OpR X (compareOp op) rr)(lo:c7 X.K rr r)(ha:DE X a ta)(hb:DE X b tb)(hm:behindInMarks op b=false):DE X (.Compare a [op] [b] pos) (dOp r ta tb):=by
 obtain⟨t1,p1,l1⟩:=ha
 obtain⟨t2,p2,l2⟩:=hb
 exact⟨_,Cr ho p1 p2 hm,nI lo l1 l2⟩
noncomputable def dB(t:DTE):DTT:=fun ρ U Q=>t ρ U fun d ac=>match d with
 |.v (.bool k)=>Q k ac
 |_=>False
theorem lp{K:PySem.W.Frag}{t:TE}{td:DTE}(l:kb K t td):AE K (BM t) (dB td):=by
 intro Z H ρ U Qd Q S h k
 refine l Z H ρ U _ _ S h fun d u ac H1 e1 S1 r q=>?_
 split at q
 ·rename_i b
  cases r
  exact⟨b,rfl,k b ac H1 e1 S1 q⟩
 ·exact q.elim
theorem il{op:CmpOp}{rr:R2}{r}(ho:OpR X (compareOp op) rr)(lo:c7 X.K rr r)(ha:DE X a ta)(hb:DE X b tb)(hm:behindInMarks op b=false):DT X (.Compare a [op] [b] pos) (dB (dOp r ta tb)):=by
 obtain⟨t1,p1,l1⟩:=ha
 obtain⟨t2,p2,l2⟩:=hb
 exact⟨_,CK ho p1 p2 hm,lp (nI lo l1 l2)⟩
theorem GU{e:Expr}{td:DTE}(h:DE X e td)(he:∀whole,isTrue e X.env whole=(do let v <- whole;standAt e.pos;holding [v] (truthy v)):=by intro _;rfl):DT X e (dB td):=by
 obtain⟨t,p,l⟩:=h
 exact⟨_,Gp p he,lp l⟩
noncomputable def rII(C:Int->Int->Prop)(g:Int->Int->PyData):D->D->Mu->DK->Prop:=fun x y U Q=>match x,y with
 |.v (.int i),.v (.int j)=>C i j/\Q (.v (g i j)) U
 |_,_=>False
theorem Eg{K:PySem.W.Frag}{C:Int->Int->Prop}{g:Int->Int->V}{gd:Int->Int->PyData}(hg:∀U H i j,Rp K U H (gd i j) (g i j)):c7 K (rI C g) (rII C gd):=by
 intro x y ux uy H U Qd Q ok rx ry h k
 unfold rII at h
 split at h
 ·rename_i i j
  cases rx;cases ry
  exact⟨i,j,rfl,rfl,h.1,k (.v _) _ U H .refl ok (hg U H i j) h.2⟩
 ·exact h.elim
noncomputable def pT(g:Int->Int->PyData):D->D->Mu->DK->Prop:=fun x y U Q=>match x,y with
 |.v (.int i),.v (.int j)=>Q (.v (g i j)) U
 |_,_=>False
theorem xE{K:PySem.W.Frag}{g:Int->Int->V}{gd:Int->Int->PyData}(hg:∀U H i j,Rp K U H (gd i j) (g i j)):c7 K (rI0 g) (pT gd):=by
 intro x y ux uy H U Qd Q ok rx ry h k
 unfold pT at h
 split at h
 ·rename_i i j
  cases rx;cases ry
  exact⟨i,j,rfl,rfl,k (.v _) _ U H .refl ok (hg U H i j) h⟩
 ·exact h.elim
noncomputable abbrev cM(ta tb:DTE):DTE:=dOp (pT fun i j=>.int (i+j)) ta tb
noncomputable abbrev ib(ta tb:DTE):DTE:=dOp (pT fun i j=>.int (i-j)) ta tb
noncomputable abbrev MulOk(i j:Int):Prop:=IntMulOk i j
noncomputable abbrev aY(ta tb:DTE):DTE:=dOp (rII MulOk fun i j=>.int (i*j)) ta tb
noncomputable abbrev jr(ta tb:DTE):DTE:=dOp (rII (fun _ j=>j≠0) fun i j=>.int (i.fmod j)) ta tb
noncomputable abbrev B4(ta tb:DTE):DTE:=dOp (rII KZ fun i j=>.int (i ^ j.toNat)) ta tb
theorem CT:OpR X (binaryOp .Mult) (rI MulOk fun i j=>.int (i*j)):=opI fun _ _ _ _ _ _ _ hc q=>mul_int q hc
theorem Iw(ha:DE X a ta)(hb:DE X b tb):DE X (.BinOp a .Add b pos) (cM ta tb):=pD Ar (xE fun _ _ _ _=>.int _) ha hb
theorem Hq(ha:DE X a ta)(hb:DE X b tb):DE X (.BinOp a .Sub b pos) (ib ta tb):=pD Fu (xE fun _ _ _ _=>.int _) ha hb
theorem IB(ha:DE X a ta)(hb:DE X b tb):DE X (.BinOp a .Mult b pos) (aY ta tb):=pD CT (Eg fun _ _ _ _=>.int _) ha hb
theorem HV(ha:DE X a ta)(hb:DE X b tb):DE X (.BinOp a .Mod b pos) (jr ta tb):=pD Du (Eg fun _ _ _ _=>.int _) ha hb
theorem Fi(ha:DE X a ta)(hb:DE X b tb):DE X (.BinOp a .Pow b pos) (B4 ta tb):=pD E6 (Eg fun _ _ _ _=>.int _) ha hb
noncomputable abbrev rLt:=pT fun i j=>.bool (decide (i<j))
noncomputable abbrev rLe:=pT fun i j=>.bool (decide (i<=j))
noncomputable abbrev rGt:=pT fun i j=>.bool (decide (j<i))
noncomputable abbrev rGe:=pT fun i j=>.bool (decide (j<=i))
theorem m5{K:PySem.W.Frag}{p:Int->Int->Bool}:c7 K (rI0 fun i j=>.bl (p i j)) (pT fun i j=>.bool (p i j)):=xE fun _ _ _ _=>.bool _
noncomputable def u6(ta:DTE):DTE:=fun ρ U Q=>ta ρ U fun x ac=>match x with
 |.v (.int i)=>Q (.v (.int (-i))) ac
 |_=>False
theorem Iv(ha:DE X a ta):DE X (.UnaryOp .USub a pos) (u6 ta):=by
 obtain⟨t1,p1,l1⟩:=ha
 refine⟨_,Jz HY p1,fun Z H ρ U Qd Q S h k=>?_⟩
 refine l1 Z H ρ U _ _ S h fun x ux ac H1 e1 S1 rx h1=>?_
 split at h1
 ·rename_i i
  cases rx
  exact⟨i,rfl,k (.v _) _ ac H1 e1 S1 (Rp.int _) h1⟩
 ·exact h1.elim
noncomputable def gk(t u:DTT):DTT:=fun ρ U Q=>t ρ U fun c ac=>if c=true then u ρ ac Q else Q false ac
noncomputable def gQ(t u:DTT):DTT:=fun ρ U Q=>t ρ U fun c ac=>if c=true then Q true ac else u ρ ac Q
noncomputable def c6(t:DTT):DTT:=fun ρ U Q=>t ρ U fun c ac=>Q (!c) ac
inductive DW(X:Cx)(e:Expr)(td:DTT):Prop|mk0 (t:TT) (p:PW X e t) (l:AE X.K t td):DW X e td
theorem DW.dt{e:Expr}{td:DTT}(h:DW X e td):DT X e td:=let ⟨t,p,l⟩:=h;⟨t,p.pt,l⟩
variable {tA tB':DTT}{rest:List Expr}
theorem CP(ha:DT X a tA):DW X (.BoolOp .And [a] pos) tA:=let ⟨t,p,l⟩:=ha;⟨t,pw_and1 p,l⟩
theorem GA(ha:DT X a tA):DW X (.BoolOp .Or [a] pos) tA:=let ⟨t,p,l⟩:=ha;⟨t,pw_or1 p,l⟩
theorem II(ha:DT X a tA)(hb:DW X (.BoolOp .And (b::rest) pos) tB'):DW X (.BoolOp .And (a::b::rest) pos) (gk tA tB'):=by
 obtain⟨t1,p1,l1⟩:=ha
 obtain⟨t2,p2,l2⟩:=hb
 refine⟨_,pw_and p1 p2,fun Z H ρ U Qd Q S h k=>?_⟩
 refine l1 Z H ρ U _ _ S h fun c ac H1 e1 S1 h1=>?_
 cases c with
 |true=>
  refine rO (l2 Z H1 ρ ac _ _ S1 (by simpa using h1) fun c ad H2 e2 S2 h2=>k c ad H2 (e1.trans e2) S2 h2)
 |false=>exact rE (k false ac H1 e1 S1 (by simpa using h1))
theorem Js(ha:DT X a tA)(hb:DW X (.BoolOp .Or (b::rest) pos) tB'):DW X (.BoolOp .Or (a::b::rest) pos) (gQ tA tB'):=by
 obtain⟨t1,p1,l1⟩:=ha
 obtain⟨t2,p2,l2⟩:=hb
 refine⟨_,pw_or p1 p2,fun Z H ρ U Qd Q S h k=>?_⟩
 refine l1 Z H ρ U _ _ S h fun c ac H1 e1 S1 h1=>?_
 cases c with
 |true=>exact rO (k true ac H1 e1 S1 (by simpa using h1))
 |false=>
  refine rE (l2 Z H1 ρ ac _ _ S1 (by simpa using h1) fun c ad H2 e2 S2 h2=>k c ad H2 (e1.trans e2) S2 h2)
theorem Fy(ha:DT X a tA):DT X (.UnaryOp .Not a pos) (c6 tA):=by
 obtain⟨t1,p1,l1⟩:=ha
 refine⟨_,Ih p1,fun Z H ρ U Qd Q S h k=>?_⟩
 exact l1 Z H ρ U _ _ S h fun c ac H1 e1 S1 h1=>k _ ac H1 e1 S1 h1
noncomputable def dD(ta tb:DTE):DTE:=fun ρ U Q=>ta ρ U fun x ac=>match x with
 |.v (.bool c)=>if c=true then tb ρ ac Q else Q (.v (.bool false)) ac
 |_=>False
noncomputable def xI(ta:DTE):DTE:=fun ρ U Q=>ta ρ U fun x ac=>match x with
 |.v (.bool c)=>Q (.v (.bool (!c))) ac
 |_=>False
theorem Im{op}(h:DE X a ta):DE X (.BoolOp op [a] pos) ta:=let ⟨t,p,l⟩:=h;⟨t,GF p,l⟩
theorem Fz(ha:DE X a ta)(hb:DE X (.BoolOp .And (b::rest) pos) tb):DE X (.BoolOp .And (a::b::rest) pos) (dD ta tb):=by
 obtain⟨t1,p1,l1⟩:=ha
 obtain⟨t2,p2,l2⟩:=hb
 refine⟨_,FN p1 p2,fun Z H ρ U Qd Q S h k=>?_⟩
 refine l1 Z H ρ U _ _ S h fun x ux ac H1 e1 S1 rx h1=>?_
 split at h1
 ·rename_i c
  cases rx
  refine⟨c,rfl,?_⟩
  cases c with
  |true=>exact rO (l2 Z H1 ρ ac _ _ S1 (by simpa using h1) fun d u ad H2 e2 S2 r2 h2=>k d u ad H2 (e1.trans e2) S2 r2 h2)
  |false=>exact rE (k (.v _) _ ac H1 e1 S1 (Rp.bool false) (by simpa using h1))
 ·exact h1.elim
theorem Iz(ha:DE X a ta):DE X (.UnaryOp .Not a pos) (xI ta):=by
 obtain⟨t1,p1,l1⟩:=ha
 refine⟨_,ID p1,fun Z H ρ U Qd Q S h k=>?_⟩
 refine l1 Z H ρ U _ _ S h fun x ux ac H1 e1 S1 rx h1=>?_
 split at h1
 ·rename_i c
  cases rx
  exact⟨c,rfl,k (.v _) _ ac H1 e1 S1 (Rp.bool _) h1⟩
 ·exact h1.elim
noncomputable def dIf(t:DTT)(ta tb:DTE):DTE:=fun ρ U Q=>t ρ U fun c ac=>if c=true then ta ρ ac Q else tb ρ ac Q
theorem Ji{c:Expr}(hc:DT X c tA)(ha:DE X a ta)(hb:DE X b tb):DE X (.IfExp c a b pos) (dIf tA ta tb):=by
 obtain⟨t0,p0,l0⟩:=hc
 obtain⟨t1,p1,l1⟩:=ha
 obtain⟨t2,p2,l2⟩:=hb
 refine⟨_,Bt p0 p1 p2,fun Z H ρ U Qd Q S h k=>?_⟩
 refine l0 Z H ρ U _ _ S h fun c ac H1 e1 S1 h1=>?_
 cases c with
 |true=>exact rO (l1 Z H1 ρ ac _ _ S1 (by simpa using h1) fun d u ad H2 e2 S2 r2 h2=>k d u ad H2 (e1.trans e2) S2 r2 h2)
 |false=>exact rE (l2 Z H1 ρ ac _ _ S1 (by simpa using h1) fun d u ad H2 e2 S2 r2 h2=>k d u ad H2 (e1.trans e2) S2 r2 h2)
end
section
variable {K:PySem.W.Frag}{U ac:Mu}{H H1:Hp}{p:Addr}
theorem bG{o:HO}(h:H p=none):Ext K U H U (upd H p o):=
 ⟨fun b u e _ _=>by rw[aG (av e h)];exact e,fun b ps e _=>⟨ps,by rw[aG (av e h)];exact e⟩,fun _ ds q=>⟨ds,q⟩,fun _ q _=>q,fun b o e _=>⟨o,by rw[aG (av e h)];exact e⟩,fun _ c q=>⟨c,q⟩⟩
theorem aV.IE(ok:aV K U H)(e:Ext K U H U H1)(s:tw H H1):aV K U H1:=⟨fun a ds q=>by
 obtain⟨xs,h1,h2⟩:=ok a ds q
 exact⟨xs,s _ _ h1,h2.ext ok e⟩,ok.tab.of fun b o h _ _=>s b o h,fun a c q=>by
 obtain⟨z,o,h1,h2⟩:=ok.box a c q
 exact⟨z,o,s _ _ h1,h2.ext ok e⟩⟩
theorem u7{o:HO}(h:H p=none):tw H (upd H p o):=fun b u q=>by rw[aG (av q h)];exact q
theorem aV.new{o:HO}(ok:aV K U H)(h:H p=none):aV K U (upd H p o):=ok.IE (bG h) (u7 h)
theorem St0.new{o:HO}{ρ:Rho}{Z:St}(S:St0 K H ρ U Z)(h:H p=none):St0 K (upd H p o) ρ U Z:=⟨S.mu.new h,S.rho.ext S.mu (bG h)⟩
theorem dm{us:List V}{ds:List PyData}(ok:aV K U H)(r:RpL K U H ds us)(h:H p=none):Rp K U (upd H p (.tup us)) (.tuple ds) (.ref p):=
 .tuple (SqT.of bj) (r.ext ok (bG h))
theorem da{us:List V}{ds:List PyData}(ok:aV K U H)(r:RpL K U H ds us)(h:H p=none):Rp K U (upd H p (.lst us)) (.list ds) (.ref p):=
 .list bj (ok.free h) (r.ext ok (bG h))
theorem nJ{o:HO}{ds:List PyData}(ok:aV K U H)(h:H p=none)(hk:K.lookup p=none):Ext K U H (aE U p ds) (upd H p o) where
 keep:=fun b u e _ _=>by rw[aG (av e h)];exact e
 tb:=fun b ps e _=>⟨ps,by rw[aG (av e h)];exact e⟩
 dom:=fun b es q=>by
  have:b≠p:=fun z=>by rw[z,ok.free h] at q;cases q
  exact⟨es,by rw[au this];exact q⟩
 fresh:=fun b n q=>by
  have:b≠p:=fun z=>by
   rcases q with q|q
   ·exact q (by rw[z];exact h)
   ·exact q (by rw[z];exact hk)
  rw[au this];exact n
 st:=fun b o e _=>⟨o,by rw[aG (av e h)];exact e⟩
 bx:=fun b c q=>⟨c,q⟩
theorem aV.mut{us:List V}{ds:List PyData}(ok:aV K U H)(r:RpL K U H ds us)(h:H p=none)(hk:K.lookup p=none):aV K (aE U p ds) (upd H p (.lst us)):=⟨fun a es q=>by
 have e:=nJ (o:=.lst us) (ds:=ds) ok h hk
 by_cases ha:a=p
 ·subst ha
  rw[aq] at q
  cases q
  exact⟨us,bj,r.ext ok e⟩
 ·rw[au ha] at q
  obtain⟨xs,h1,h2⟩:=ok a es q
  exact⟨xs,by rw[aG ha];exact h1,h2.ext ok e⟩,ok.tab.of fun b o e _ _=>by rw[aG (av e h)];exact e,fun a c q=>by
 obtain⟨z,o,h1,h2⟩:=ok.box a c q
 exact⟨z,o,by rw[aG (av h1 h)];exact h1,h2.ext ok (nJ ok h hk)⟩⟩
theorem fI{o:HO}{ds es:List PyData}(h:U p=some ds):Ext K U H (aE U p es) (upd H p o) where
 keep:=fun b u e n _=>by
  have:b≠p:=fun z=>by rw[z,h] at n;cases n
  rw[aG this];exact e
 tb:=fun b ps e n=>by
  have:b≠p:=fun z=>by rw[z,h] at n;cases n
  exact⟨ps,by rw[aG this];exact e⟩
 dom:=fun b fs q=>by
  by_cases hb:b=p
  ·subst hb;exact⟨es,aq⟩
  ·exact⟨fs,by rw[au hb];exact q⟩
 fresh:=fun b n q=>by
  have:b≠p:=fun z=>by rw[z,h] at n;cases n
  rw[au this];exact n
 st:=fun b o e n=>by
  have:b≠p:=fun z=>by rw[z,h] at n;cases n
  exact⟨o,by rw[aG this];exact e⟩
 bx:=fun b c q=>⟨c,q⟩
theorem aV.set{us:List V}{ds es:List PyData}(ok:aV K U H)(h:U p=some ds)(r:RpL K U H es us):aV K (aE U p es) (upd H p (.lst us)):=⟨fun a fs q=>by
 have e:Ext K U H (aE U p es) (upd H p (.lst us)):=fI h
 by_cases ha:a=p
 ·subst ha
  rw[aq] at q
  cases q
  exact⟨us,bj,r.ext ok e⟩
 ·rw[au ha] at q
  obtain⟨xs,h1,h2⟩:=ok a fs q
  exact⟨xs,by rw[aG ha];exact h1,h2.ext ok e⟩,by
 obtain⟨ys,hy,_⟩:=ok p ds h
 exact ok.tab.of fun b o e n _=>by
  have:b≠p:=fun z=>by rw[z,hy] at e;exact n ys (Option.some.inj e).symm
  rw[aG this];exact e,fun a c q=>by
 obtain⟨ys,hy,_⟩:=ok p ds h
 obtain⟨z,o,h1,h2⟩:=ok.box a c q
 have:a≠p:=fun w=>by rw[w,hy] at h1;cases h1
 exact⟨z,o,by rw[aG this];exact h1,h2.ext ok (fI h)⟩⟩
end
noncomputable def bB:List D->Option (List PyData)
 |[]=>some []
 |.v x::r=>(bB r).map (x::·)
 |_::_=>none
theorem fg.data{K:PySem.W.Frag}{U:Mu}{H:Hp}:∀{ds:List D} {us:List V} {xs:List PyData},fg K U H ds us->bB ds=some xs->RpL K U H xs us
 |_,_,_,.nil,e=>by cases e;exact .nil
 |.v x::r,_,xs,.cons h t,e=>by
  simp only[bB] at e
  cases q:bB r with
  |none=>rw[q] at e;cases e
  |some ys=>rw[q] at e;cases e;exact .cons h (fg.data t q)
 |.m _::_,_,_,.cons _ _,e=>by simp[bB] at e
 |.s _::_,_,_,.cons _ _,e=>by simp[bB] at e
 |.o _::_,_,_,.cons _ _,e=>by simp[bB] at e
section
variable {X:Cx}{e:Expr}{es:List Expr}{te:DTE}{t:DTA}{pos:Pos}
noncomputable def ag:DTA:=fun _ U Q=>Q [] U
noncomputable def aa(ta:DTE)(tr:DTA):DTA:=fun ρ U Q=>ta ρ U fun x ac=>tr ρ ac fun xs ad=>Q (x::xs) ad
theorem Fd:DA X [] ag:=⟨_,iz,fun Z H ρ U Qd Q S h k=>k [] [] U H .refl S .nil rfl h⟩
theorem Cg(ha:DE X e te)(hr:DA X es t)(hs:starEach (e::es) X.env=(false,eval e X.env)::starEach es X.env:=by rfl):DA X (e::es) (aa te t):=by
 obtain⟨t1,p1,l1⟩:=ha
 obtain⟨t2,p2,l2⟩:=hr
 refine⟨_,cT p1 p2 hs,fun Z H ρ U Qd Q S h k=>?_⟩
 refine l1 Z H ρ U _ _ S h fun x ux ac H1 e1 S1 rx h1=>?_
 refine l2 Z H1 ρ ac _ _ S1 h1 fun xs us ad H2 e2 S2 rs len h2=>?_
 exact k (x::xs) (ux::us) ad H2 (e1.trans e2) S2 (.cons (rx.ext S1.mu e2) rs) (by rw[length_cons,length_cons,len]) h2
noncomputable def aO(t:DTA):DTE:=fun ρ U Q=>t ρ U fun ds ac=>match bB ds with
 |some xs=>Q (.v (.tuple xs)) ac
 |none=>False
noncomputable def cL(t:DTA):DTE:=fun ρ U Q=>t ρ U fun ds ac=>match bB ds with
 |some xs=>Q (.v (.list xs)) ac
 |none=>False
noncomputable def gY(t:DTA):DTE:=fun ρ U Q=>t ρ U fun ds ac=>match bB ds with
 |some xs=>∀p,ac p=none->Q (.m p) (aE ac p xs)
 |none=>False
theorem IA{x1}(h:DA X es t)(hl:es.length<=1000:=by decide):DE X (.Tuple es x1 pos) (aO t):=by
 obtain⟨t1,p1,l1⟩:=h
 refine⟨_,Hl p1,fun Z H ρ U Qd Q S h k=>?_⟩
 refine l1 Z H ρ U _ _ S h fun ds us ac H1 e1 S1 rs len h1=>?_
 cases q:bB ds with
 |none=>rw[q] at h1;exact h1.elim
 |some xs=>
  rw[q] at h1
  refine⟨Nat.le_of_lt (eu (by rw[<- rs.length,len];exact hl)),fun p hp=>?_⟩
  exact k (.v (.tuple xs)) _ ac _ (e1.trans (bG hp)) (S1.new hp) (dm S1.mu (rs.data q) hp) h1
theorem GS(h:DA X es t)(hl:es.length<=1000:=by decide):DE X (.List es pos) (cL t):=by
 obtain⟨t1,p1,l1⟩:=h
 refine⟨_,E8 p1,fun Z H ρ U Qd Q S h k=>?_⟩
 refine l1 Z H ρ U _ _ S h fun ds us ac H1 e1 S1 rs len h1=>?_
 cases q:bB ds with
 |none=>rw[q] at h1;exact h1.elim
 |some xs=>
  rw[q] at h1
  refine⟨Nat.le_of_lt (eu (by rw[<- rs.length,len];exact hl)),fun p hp=>?_⟩
  exact k (.v (.list xs)) _ ac _ (e1.trans (bG hp)) (S1.new hp) (da S1.mu (rs.data q) hp) h1
noncomputable def Ks(K:PySem.W.Frag)(t:TA):TE:=fun Z H Q=>t Z H fun xs H1=>xs.length<=sizeLine/\∀p,H1 p=none->K.lookup p=none->Q (.ref p) (upd H1 p (.lst xs))
theorem CW{t:TA}(h:PA X es t):PE X (.List es pos) (Ks X.K t):=by
 intro pins s Z H Q I hq
 refine wpAny_List_spliced (thn (h pos pins s Z H _ I hq) fun us s1 ⟨xs,H1,I1,r,z,q⟩=>⟨by rw[<- r.length];exact z,?_⟩)
 have hf:H1 s1.heap.objs.size=none:=I1.hok.fresh (le_refl _)
 have hk:X.K.lookup s1.heap.objs.size=none:=by
  cases c:X.K.lookup s1.heap.objs.size with
  |none=>rfl
  |some o=>exact absurd (Heap.lt_size (I1.kIn _ _ c)) (lt_irrefl _)
 refine⟨.ref s1.heap.objs.size,upd H1 s1.heap.objs.size (.lst xs),I1.laid (t':=s1.toks) (fun b u e=>Heap.get?_push_of_some _ e) (le_refl _) ?_,rfl,q _ hf hk⟩
 exact⟨z,us,0,r,Heap.get?_push_size _ rfl⟩
theorem D0(h:DA X es t)(hl:es.length<=1000:=by decide):DE X (.List es pos) (gY t):=by
 obtain⟨t1,p1,l1⟩:=h
 refine⟨_,CW p1,fun Z H ρ U Qd Q S h k=>?_⟩
 refine l1 Z H ρ U _ _ S h fun ds us ac H1 e1 S1 rs len h1=>?_
 cases q:bB ds with
 |none=>rw[q] at h1;exact h1.elim
 |some xs=>
  rw[q] at h1
  refine⟨Nat.le_of_lt (eu (by rw[<- rs.length,len];exact hl)),fun p hp hk=>?_⟩
  have ex:=nJ (o:=.lst us) (ds:=xs) S1.mu hp hk
  exact k (.m p) _ (aE ac p xs) _ (e1.trans ex) ⟨S1.mu.mut (rs.data q) hp hk,S1.rho.ext S1.mu ex⟩ ⟨rfl,xs,aq⟩ (h1 p (S1.mu.free hp))
end
section
variable {X:Cx}{pins:List (Addr×Obj)}{Z:St}{H:Hp}{s:Shared}{U:Mu}
mutual
theorem bZ(I:Inv X pins Z H s):∀{d:PyData} {x:V} {u:Value},Rp X.K U H d x->RelV x u->∃as,Reads s.heap u d as
 |_,_,_,.none,r=>by cases r;exact⟨_,.none⟩
 |_,_,_,.bool b,r=>by cases r;exact⟨_,.bool b⟩
 |_,_,_,.int i,r=>by obtain⟨t,rfl⟩:=r;exact⟨_,.int i t⟩
 |_,_,_,.str y,r=>by obtain⟨t,rfl⟩:=r;exact⟨_,.str y t⟩
 |_,_,_,.list h _ q,r=>by
  cases r
  obtain⟨its,rv,⟨o,n,ho,hc,_,hd⟩,_⟩:=I.list (SqL.of h)
  obtain⟨as,ra⟩:=ja I q rv
  exact⟨_,.list ho hc hd (by simpa using ra)⟩
 |_,_,_,.tuple h q,r=>by
  cases r
  obtain⟨its,rv,⟨o,ho,hc,n,hd⟩,_⟩:=I.tuple h
  obtain⟨as,ra⟩:=ja I q rv
  exact⟨_,.tuple ho hc hd (by simpa using ra)⟩
theorem ja(I:Inv X pins Z H s):∀{ds:List PyData} {xs:List V} {us:List Value},RpL X.K U H ds xs->Vals xs us->∃as,ReadsAll s.heap us ds as
 |_,_,_,.nil,.nil=>⟨_,.nil⟩
 |_,_,_,.cons h t,.cons r q=>by
  obtain⟨as,ra⟩:=bZ I h r
  obtain⟨bs,rb⟩:=ja I t q
  exact⟨_,.cons ra rb⟩
end
end
section
variable {X:Cx}
noncomputable def FH(K:PySem.W.Frag)(neg:Bool):R2:=fun x y H Q=>∃U a b,Rp K U H a x/\Rp K U H b y/\SeqAt.shaped a=true/\SeqAt.shaped b=true/\Q (.bl (neg ^^ PyData.eqv a b)) H
theorem Az(hu:X.A.units+64<cLine):OpR X (compareOp .Eq) (FH X.K false):=by
 intro pins s Z H x y v u Q I rx ry h
 obtain⟨U,a,b,ha,hb,sa,sb,q⟩:=h
 obtain⟨as,ra⟩:=bZ I ha rx
 obtain⟨bs,rb⟩:=bZ I hb ry
 exact eq_dataH ra rb sa sb hu ⟨.bl (PyData.eqv a b),H,I,rfl,by simpa using q⟩
theorem Fc(hu:X.A.units+64<cLine):OpR X (compareOp .NotEq) (FH X.K true):=by
 intro pins s Z H x y v u Q I rx ry h
 obtain⟨U,a,b,ha,hb,sa,sb,q⟩:=h
 obtain⟨as,ra⟩:=bZ I ha rx
 obtain⟨bs,rb⟩:=bZ I hb ry
 exact ne_dataH ra rb sa sb hu ⟨.bl (!PyData.eqv a b),H,I,rfl,by simpa using q⟩
noncomputable def aJ(neg:Bool):D->D->Mu->DK->Prop:=fun x y U Q=>match x,y with
 |.v a,.v b=>SeqAt.shaped a=true/\SeqAt.shaped b=true/\Q (.v (.bool (neg ^^ PyData.eqv a b))) U
 |_,_=>False
theorem wN{K:PySem.W.Frag}{neg:Bool}:c7 K (FH K neg) (aJ neg):=by
 intro x y ux uy H U Qd Q ok rx ry h k
 unfold aJ at h
 split at h
 ·rename_i a b
  exact⟨U,a,b,rx,ry,h.1,h.2.1,k (.v _) _ U H .refl ok (Rp.bool _) h.2.2⟩
 ·exact h.elim
noncomputable def Hv(K:PySem.W.Frag)(neg:Bool):R2:=fun x y H Q=>∃U a bs,Rp K U H a x/\Rp K U H (.list bs) y/\PyData.canLayAll0 bs=true/\a.canLay0=true/\PyData.depth a<=60/\Q (.bl (neg ^^ bs.any fun b=>PyData.eqv b a)) H
theorem GY(hu:X.A.units+64<cLine):OpR X (compareOp .In) (Hv X.K false):=by
 intro pins s Z H x y v u Q I rx ry h
 obtain⟨U,a,b,ha,hb,sb,sa,dp,q⟩:=h
 obtain⟨as,ra⟩:=bZ I ha rx
 obtain⟨bs,rb⟩:=bZ I hb ry
 refine SeqAt.in_list_reads rb ra sb sa ∅ ⟨.bl (b.any fun z=>PyData.eqv z a),H,I,rfl,by simpa using q⟩
theorem yY(hu:X.A.units+64<cLine):OpR X (compareOp .NotIn) (Hv X.K true):=by
 intro pins s Z H x y v u Q I rx ry h
 obtain⟨U,a,b,ha,hb,sb,sa,dp,q⟩:=h
 obtain⟨as,ra⟩:=bZ I ha rx
 obtain⟨bs,rb⟩:=bZ I hb ry
 refine SeqAt.notIn_list_reads rb ra sb sa ∅ ⟨.bl (!b.any fun z=>PyData.eqv z a),H,I,rfl,by simpa using q⟩
noncomputable def vW(neg:Bool):D->D->Mu->DK->Prop:=fun x y U Q=>match x,y with
 |.v a,.v (.list bs)=>PyData.canLayAll0 bs=true/\a.canLay0=true/\PyData.depth a<=60/\Q (.v (.bool (neg ^^ bs.any fun b=>PyData.eqv b a))) U
 |_,_=>False
theorem BF{K:PySem.W.Frag}{neg:Bool}:c7 K (Hv K neg) (vW neg):=by
 intro x y ux uy H U Qd Q ok rx ry h k
 unfold vW at h
 split at h
 ·rename_i a b
  exact⟨U,a,b,rx,ry,h.1,h.2.1,h.2.2.1,k (.v _) _ U H .refl ok (Rp.bool _) h.2.2.2⟩
 ·exact h.elim
end
section
variable {X:Cx}{a b e:Expr}{es:List Expr}{ta tb te:DTE}{t:DTA}{p pos:Pos}
noncomputable def ai:D->D->Mu->DK->Prop:=fun x y U Q=>match x,y with
 |.v (.list xs),.v (.int i)=>(match atI xs i with|some d=>Q (.v d) U|none=>False)
 |.v (.tuple xs),.v (.int i)=>(match atI xs i with|some d=>Q (.v d) U|none=>False)
 |.m l,.v (.int i)=>(match U l with
  |some xs=>(match atI xs i with|some d=>Q (.v d) U|none=>False)
  |none=>False)
 |.s ns,.v (.int i)=>(match atI ns i with|some d=>Q (.v (.int d)) U|none=>False)
 |_,_=>False
theorem Ja{K:PySem.W.Frag}:c7 K (rIx K) ai:=by
 intro x y ux uy H U Qd Q ok rx ry h k
 unfold ai at h
 split at h
 ·rename_i xs i
  cases ry
  cases q:atI xs i with
  |none=>rw[q] at h;exact h.elim
  |some d=>
   rw[q] at h
   cases rx with
   |list hs hn r=>
    obtain⟨u,e1,e2⟩:=wI r q
    exact .inl ⟨_,_,i,u,rfl,rfl,SqL.of hs,e1,k (.v d) u U H .refl ok e2 h⟩
 ·rename_i xs i
  cases ry
  cases q:atI xs i with
  |none=>rw[q] at h;exact h.elim
  |some d=>
   rw[q] at h
   cases rx with
   |tuple hs r=>
    obtain⟨u,e1,e2⟩:=wI r q
    exact .inr (.inl ⟨_,_,i,u,rfl,rfl,hs,e1,k (.v d) u U H .refl ok e2 h⟩)
 ·rename_i l i
  cases ry
  obtain⟨rfl,ds,hm⟩:=rx
  rw[hm] at h
  simp only at h
  cases q:atI ds i with
  |none=>rw[q] at h;exact h.elim
  |some d=>
   rw[q] at h
   obtain⟨us,hl,r⟩:=ok l ds hm
   obtain⟨u,e1,e2⟩:=wI r q
   exact .inl ⟨_,_,i,u,rfl,rfl,SqL.of hl,e1,k (.v d) u U H .refl ok e2 h⟩
 ·rename_i ns i
  cases ry
  obtain⟨a,rfl,hs,hn⟩:=rx
  cases q:atI ns i with
  |none=>rw[q] at h;exact h.elim
  |some d=>
   rw[q] at h
   have e1:atI (ns.map V.int) i=some (.int d):=by
    unfold atI at q ⊢
    rw[length_map]
    cases z:ixN ns.length i with
    |none=>rw[z] at q;cases q
    |some j=>
     rw[z] at q
     simp only[bind_some,getElem?_map] at q ⊢
     rw[q]<;>rfl
   exact .inl ⟨_,_,i,_,rfl,rfl,hs,e1,k (.v (.int d)) _ U H .refl ok (Rp.int d) h⟩
 ·exact h.elim
theorem K0(ha:DE X a ta)(hb:DE X b tb)(hs:xn b:=by exact fun _ _=>rfl):DE X (.Subscript a b pos) (dOp ai ta tb):=by
 obtain⟨t1,p1,l1⟩:=ha
 obtain⟨t2,p2,l2⟩:=hb
 exact⟨_,JA rL p1 p2 hs,nI Ja l1 l2⟩
theorem A8{prog:Program}{w:World}{A:Around}{E:Value->Shared->Prop}{s:Shared}{t b:Addr}{ws:List Value}{Q:Value->Shared->Prop}(ht:IsTup s.heap t #[])(hb:IsTup s.heap b ws.toArray)
  (h1:Q (.ref b) s):wpAny (model prog w) A (binaryOp .Add (.ref t) (.ref b)) Q E s:=by
 obtain⟨⟨cls,dd,data,sl⟩,ho,hc,n,hd⟩:=id ht
 obtain⟨⟨cls2,dd2,data2,sl2⟩,ho2,hc2,n2,hd2⟩:=id hb
 simp only at hc hd hc2 hd2
 subst hc hd hc2 hd2
 exact concat_meets ⟨_,ho,rfl⟩ ⟨_,ho2,rfl⟩ noFill_tuple_add seq_tuple_add PySem.F.slot_tuple_add PySem.F.entry_tuple_add (PySem.F.args_tuple_add_2 _ _)
  (tuple_addW0 t b #[] ws.toArray n n2 dd dd2 sl sl2 rfl) ⟨ho,ho2,h1⟩
noncomputable def fz(U:Mu):D->Option (List PyData)
 |.v (.list xs)=>some xs
 |.m l=>U l
 |_=>none
theorem ve{K:PySem.W.Frag}{U:Mu}{H:Hp}{x:D}{u:V}{xs:List PyData}(ok:aV K U H)(r:RpD K U H x u)(h:fz U x=some xs):∃a us,u = .ref a/\H a=some (.lst us)/\RpL K U H xs us:=by
 cases x with
 |v d=>
  cases d<;>simp only[fz] at h<;>try cases h
  cases r with
  |list hs _ q=>exact⟨_,_,rfl,hs,q⟩
 |m l=>
  obtain⟨rfl,ds,hm⟩:=r
  obtain⟨us,hl,q⟩:=ok l xs h
  exact⟨l,us,rfl,hl,q⟩
 |s ns=>cases h
 |o a=>cases h
 |b a=>cases h
 |q P=>cases h
noncomputable def t9:D->D->Mu->DK->Prop:=fun x y U Q=>match fz U x,fz U y with
 |some xs,some ys=>xs.length+ys.length<=1000/\Q (.v (.list (xs++ys))) U
 |_,_=>False
theorem tF{n:Nat}(h:n<=1000):n<=sizeLine:=Nat.le_of_lt (eu h)
theorem Hb{K:PySem.W.Frag}:c7 K Gy t9:=by
 intro x y ux uy H U Qd Q ok rx ry h k
 unfold t9 at h
 split at h
 ·rename_i xs ys hx hy
  obtain⟨a,us,rfl,ha,ra⟩:=ve ok rx hx
  obtain⟨b,ws,rfl,hb,rb⟩:=ve ok ry hy
  refine⟨a,b,us,ws,rfl,rfl,ha,hb,tF (by rw[<- ra.length,<- rb.length];exact h.1),fun p hp=>?_⟩
  exact k (.v _) _ U _ (bG hp) (ok.new hp) (da ok (ra.append rb) hp) h.2
 ·exact h.elim
noncomputable def vA(K:PySem.W.Frag):R2:=fun x y H Q=>∃a b xs ys,x = .ref a/\y = .ref b/\SqT K H a xs/\SqT K H b ys/\xs.length+ys.length<=sizeLine /\
 (xs=[]->Q (.ref b) H)/\(ys=[]->Q (.ref a) H)/\(∀p,H p=none->Q (.ref p) (upd H p (.tup (xs++ys))))
theorem zH:OpR X (binaryOp .Add) (vA X.K):=by
 intro pins s Z H x y v u Q I rx ry h
 obtain⟨a,b,xs,ys,rfl,rfl,ha,hb,hz,q0,q1,q2⟩:=h
 by_cases hx:xs=[]
 ·subst hx
  cases rx
  cases ry
  obtain⟨its,r1,p1,_⟩:=I.tuple ha
  obtain⟨its2,r2,p2,_⟩:=I.tuple hb
  cases r1
  exact A8 p1 p2 ⟨.ref b,H,I,rfl,q0 rfl⟩
 ·exact D6 pins s Z H _ _ v u Q I rx ry ⟨a,b,xs,ys,rfl,rfl,ha,hb,hx,hz,q1,fun _=>q2⟩
noncomputable def BG:D->D->Mu->DK->Prop:=fun x y U Q=>match x,y with
 |.v (.tuple xs),.v (.tuple ys)=>xs.length+ys.length<=1000/\Q (.v (.tuple (xs++ys))) U
 |_,_=>False
theorem B5{K:PySem.W.Frag}:c7 K (vA K) BG:=by
 intro x y ux uy H U Qd Q ok rx ry h k
 unfold BG at h
 split at h
 ·rename_i xs ys
  cases id rx with
  |@tuple a us _ ha ra=>
   cases id ry with
   |@tuple b ws _ hb rb=>
    refine⟨a,b,us,ws,rfl,rfl,ha,hb,tF (by rw[<- ra.length,<- rb.length];exact h.1),fun z=>?_,fun z=>?_,fun p hp=>?_⟩
    ·subst z
     cases ra
     exact k (.v _) _ U H .refl ok ry (by simpa using h.2)
    ·subst z
     cases rb
     exact k (.v _) _ U H .refl ok rx (by simpa using h.2)
    ·exact k (.v _) _ U _ (bG hp) (ok.new hp) (dm ok (ra.append rb) hp) h.2
 ·exact h.elim
end
end L2.DL
namespace HT
open PySem PyProof.Rows
section
variable {prog:Program}{w:World}{A:Around}{E:Value->Shared->Prop}{s:Shared}
theorem kj{t sl:Addr}{items:Array Value}{vl vu:Value}{lo hi:Option Int}{Q:Value->Shared->Prop}(ht:IsTup s.heap t items)(hs:s.heap.IsSliceOf sl vl vu .none)(pl:IsPart vl lo)(pu:IsPart vu hi)
  (hw:sIx items.size 0 lo=0/\sIx items.size items.size hi=items.size) (h:Q (.ref t) s):wpAny (model prog w) A (getItem (.ref t) (.ref sl)) Q E s:=by
 obtain⟨os,hos,hcs,hds⟩:=id hs
 have hTs:s.TypeIs (.ref sl) "slice":=⟨os,hos,hcs⟩
 unfold getItem
 try with_reducible refine wpAny_holding ?_
 first|refine wpAny_bind (wpAny_pure ?_)|skip
 refine wpAny_bind (wpAny_sequenceKey ht.typeIs ⋯ ?_)
 refine wpAny_bind (wpAny_callSpecial?_slot (name:=Str.ofString "__getitem__") ht.typeIs PyProof.Rows.slot_tuple_getitem
  (wpAny_call_entry PyProof.Rows.slot_tuple_getitem ht.typeIs entry_tuple_getitem ?_ (args_tuple_getitem _ _)))
 show wpAny _ _ (Builtin.Tuple.tupleItemsOf (.ref t)>>=_) _ _ s
 refine wpAny_bind (tupleItemsOf_ ht ?_)
 refine wpAny_bind (wpAny_typeOf hTs ?_)
 rw[if_pos ⋯]
 refine wpAny_bind (gv hs pl pu ?_)
 have hno:((((sIx items.size 0 lo:Nat):Int)==0&&(1:Int)==1&&(sIx items.size items.size hi-sIx items.size 0 lo)==items.size)=true):=by
  rw[hw.1,hw.2]
  simp
 show wpAny _ _ (if (((sIx items.size 0 lo:Nat):Int)==0&&(1:Int)==1&&(sIx items.size items.size hi-sIx items.size 0 lo)==items.size)=true then _ else _) _ _ s
 rw[if_pos hno]
 refine wpAny_bind ?_
 unfold Builtin.Tuple.tupleIsExact
 refine wpAny_bind (wpAny_typeOf ht.typeIs (wpAny_pure ?_))
 rw[if_pos ⋯]
 refine wpAny_bind (wpAny_rule ?_)
 exact wpAny_pure ⟨_,rfl,wpAny_pure h⟩
end
end HT
namespace L2.DL
open PySem PySem.Spec PyProof.Rows
section
variable {X:Cx}{a b e:Expr}{lo hi:Option Expr}{ta tb te:DTE}{pos p2:Pos}
noncomputable def kW{α:Type}(xs:List α)(lo hi:Option Int):List α:=(xs.drop (HT.sIx xs.length 0 lo)).take (HT.sIx xs.length xs.length hi-HT.sIx xs.length 0 lo)
theorem RpL.cut{K:PySem.W.Frag}{U:Mu}{H:Hp}{ds:List PyData}{us:List V}{lo hi:Option Int}(r:RpL K U H ds us):RpL K U H (kW ds lo hi) (sD us lo hi):=by
 unfold kW sD
 rw[r.length]
 exact (r.drop _).take _
theorem D5{α:Type}{xs:List α}{lo hi:Option Int}(h:HT.sIx xs.length 0 lo=0/\HT.sIx xs.length xs.length hi=xs.length):kW xs lo hi=xs:=by
 unfold kW
 rw[h.1,h.2]
 simp
noncomputable def KN(K:PySem.W.Frag):V->Option Int->Option Int->Hp->VK->Prop:=fun x lo hi H Q=>∃a xs,x = .ref a/\SqT K H a xs /\
 (HT.sIx xs.length 0 lo=0/\HT.sIx xs.length xs.length hi=xs.length->Q (.ref a) H)/\∀p,H p=none->Q (.ref p) (upd H p (.tup (sD xs lo hi)))
theorem Cu:SlR X (KN X.K):=by
 intro pins s Z H x v vl vu lo hi sl Q I rx hs pl pu h
 obtain⟨a,xs,rfl,hx,q1,q⟩:=h
 by_cases hw:HT.sIx xs.length 0 lo=0/\HT.sIx xs.length xs.length hi=xs.length
 ·cases rx
  obtain⟨its,r,ht,hz⟩:=I.tuple hx
  have hlen:its.toArray.size=xs.length:=by rw[size_toArray];exact r.length.symm
  refine⟨"tuple",_,PyProof.Rows.slot_tuple_getitem.lookup,ht.typeIs,?_⟩
  exact HT.kj ht hs pl pu (by rw[hlen];exact hw) ⟨.ref a,H,I,rfl,q1 hw⟩
 ·exact IL pins s Z H _ v vl vu lo hi sl Q I rx hs pl pu ⟨a,xs,rfl,hx,hw,q⟩
noncomputable abbrev DTO:=Rho->Mu->(Option Int->Mu->Prop)->Prop
noncomputable def Kv(K:PySem.W.Frag)(t:TO)(td:DTO):Prop:=∀(Z:St) (H:Hp) (ρ:Rho) (U:Mu) (Qd:Option Int->Mu->Prop) (Q:Option Int->Hp->Prop),St0 K H ρ U Z->td ρ U Qd ->
 (∀o Y H',Ext K U H Y H'->St0 K H' ρ Y Z->Qd o Y->Q o H')->t Z H Q
inductive DO(X:Cx)(e:Option Expr)(td:DTO):Prop|mk0 (t:TO) (p:PO X e t) (l:Kv X.K t td):DO X e td
noncomputable def fu:DTO:=fun _ U Q=>Q none U
noncomputable def jJ(t:DTE):DTO:=fun ρ U Q=>t ρ U fun x ac=>match x with
 |.v (.int i)=>Q (some i) ac
 |_=>False
theorem DR:DO X none fu:=⟨_,Ea,fun Z H ρ U Qd Q S h k=>k none U H .refl S h⟩
theorem Co(h:DE X e te):DO X (some e) (jJ te):=by
 obtain⟨t1,p1,l1⟩:=h
 refine⟨_,Cf p1,fun Z H ρ U Qd Q S h k=>?_⟩
 refine l1 Z H ρ U _ _ S h fun x ux ac H1 e1 S1 rx h1=>?_
 split at h1
 ·cases rx
  exact⟨_,rfl,k _ ac H1 e1 S1 h1⟩
 ·exact h1.elim
noncomputable def Ay(x:D)(lo hi:Option Int)(U:Mu)(Q:DK):Prop:=match x with
 |.v (.tuple xs)=>Q (.v (.tuple (kW xs lo hi))) U
 |.v (.list xs)=>Q (.v (.list (kW xs lo hi))) U
 |.m l=>(match U l with|some xs=>Q (.v (.list (kW xs lo hi))) U|none=>False)
 |_=>False
noncomputable def dSl(te:DTE)(tl th:DTO):DTE:=fun ρ U Q=>te ρ U fun x ac=>tl ρ ac fun l ad=>th ρ ad fun u bn=>Ay x l u bn Q
theorem BE{tl th:DTO}(he:DE X e te)(hl:DO X lo tl)(hu:DO X hi th):DE X (.Subscript e (.Slice lo hi none p2) pos) (dSl te tl th):=by
 obtain⟨t1,p1,l1⟩:=he
 obtain⟨t2,p2,l2⟩:=hl
 obtain⟨t3,p3,l3⟩:=hu
 refine⟨_,AD (DM.or Cu) p1 p2 p3,fun Z H ρ U Qd Q S h k=>?_⟩
 refine l1 Z H ρ U _ _ S h fun x ux ac H1 e1 S1 rx h1=>?_
 refine l2 Z H1 ρ ac _ _ S1 h1 fun l ad H2 e2 S2 h2=>?_
 refine l3 Z H2 ρ ad _ _ S2 h2 fun u bn H3 e3 S3 h3=>?_
 have rx3:=(rx.ext S1.mu e2).ext S2.mu e3
 have ee:=e1.trans (e2.trans e3)
 unfold Ay at h3
 split at h3
 ·rename_i xs
  cases id rx3 with
  |@tuple a us _ ha ra=>
   refine .inr ⟨a,us,rfl,ha,fun hw=>?_,fun p hp=>?_⟩
   ·refine k (.v _) _ bn H3 ee S3 (show Rp _ _ _ (.tuple (kW xs l u)) _ from ?_) h3
    rw[D5 (by rw[ra.length];exact hw)]
    exact rx3
   ·exact k (.v _) _ bn _ (ee.trans (bG hp)) (S3.new hp) (dm S3.mu ra.cut hp) h3
 ·rename_i xs
  cases id rx3 with
  |@list a us _ ha hn ra=>exact .inl ⟨a,us,rfl,SqL.of ha,fun p hp=>k (.v _) _ bn _ (ee.trans (bG hp)) (S3.new hp) (da S3.mu ra.cut hp) h3⟩
 ·rename_i a
  obtain⟨rfl,ds,hm⟩:=rx3
  rw[hm] at h3
  obtain⟨us,ha,ra⟩:=S3.mu a ds hm
  exact .inl ⟨a,us,rfl,SqL.of ha,fun p hp=>k (.v _) _ bn _ (ee.trans (bG hp)) (S3.new hp) (da S3.mu ra.cut hp) h3⟩
 ·exact h3.elim
end
section
variable {X:Cx}{a b e:Expr}{es:List Expr}{ta tb te:DTE}{t:DTA}{p pos:Pos}{x:Str}{bid T:String}
noncomputable def gh(K:PySem.W.Frag)(r:List V->Hp->VK->Prop)(rd:List D->Mu->DK->Prop):Prop:=∀(xs:List D) (us:List V) (H:Hp) (U:Mu) (Qd:DK) (Q:VK),aV K U H->fg K U H xs us->rd xs U Qd ->
 (∀d u Y H',Ext K U H Y H'->aV K Y H'->RpD K Y H' d u->Qd d Y->Q u H')->r us H Q
noncomputable def dCB(rd:List D->Mu->DK->Prop)(t:DTA):DTE:=fun ρ U Q=>t ρ U fun ds ac=>rd ds ac Q
theorem yb{K:PySem.W.Frag}{n:Nat}{r:List V->Hp->VK->Prop}{rd:List D->Mu->DK->Prop}{t1:TA}(lc:gh K r rd)(l1:EV K n t1 t):kb K (tCB r t1) (dCB rd t):=by
 intro Z H ρ U Qd Q S h k
 refine l1 Z H ρ U _ _ S h fun xs us ac H1 e1 S1 rs len h1=>?_
 exact lc xs us H1 ac _ _ S1.mu rs h1 fun d u Y H' e2 ok r q=>k d u Y H' (e1.trans e2) ⟨ok,S1.rho.ext S1.mu e2⟩ r q
theorem dy{r:List V->Hp->VK->Prop}{rd:List D->Mu->DK->Prop}(hc:dP X (.builtin bid) r)(lc:gh X.K r rd)(hg:Gl X x)(hm:X.mg x=none)(hv:bootBuiltins x=some (.builtin bid))(ha:DA X (e::es) t)(hn:x ≠ "__name__":=by decide)(hdb:(x==("__debug__":Str))=false:=by decide)
  (he:starEach (e::es) X.env=(false,eval e X.env)::starEach es X.env:=by rfl) (hpl:(backTo pos (starEach es X.env)).any (·.1)=false:=by rfl):DE X (.Call (.Name x p) (e::es) [] pos) (dCB rd t):=by
 obtain⟨t1,p1,l1⟩:=ha
 exact⟨_,jZ hc hg hm hv p1 hn hdb he hpl,yb lc l1⟩
theorem lE{r:List V->Hp->VK->Prop}{rd:List D->Mu->DK->Prop}(hc:dP X (.type T) r)(lc:gh X.K r rd)(hg:Gl X x)(hm:X.mg x=none)(hv:bootBuiltins x=some (.type T))(ha:DA X (e::es) t)(hn:x ≠ "__name__":=by decide)(hdb:(x==("__debug__":Str))=false:=by decide)
  (he:starEach (e::es) X.env=(false,eval e X.env)::starEach es X.env:=by rfl) (hpl:(backTo pos (starEach es X.env)).any (·.1)=false:=by rfl):DE X (.Call (.Name x p) (e::es) [] pos) (dCB rd t):=by
 obtain⟨t1,p1,l1⟩:=ha
 exact⟨_,zp hc hg hm hv p1 hn hdb he hpl,yb lc l1⟩
noncomputable def a0:List D->Mu->DK->Prop:=fun xs U Q=>match xs with
 |[.v (.list ys)]=>Q (.v (.int (ys.length:Nat))) U
 |[.v (.tuple ys)]=>Q (.v (.int (ys.length:Nat))) U
 |[.m l]=>(match U l with|some ys=>Q (.v (.int (ys.length:Nat))) U|none=>False)
 |[.s ns]=>Q (.v (.int (ns.length:Nat))) U
 |_=>False
theorem HE{K:PySem.W.Frag}:gh K (fun xs H Q=>∃p ys,xs=[.ref p]/\(SqL K H p ys\/SqT K H p ys)/\Q (.int ys.length) H) a0:=by
 intro xs us H U Qd Q ok rs h k
 unfold a0 at h
 split at h
 ·cases rs with
  |cons r1 r2=>
   cases r2
   cases r1 with
   |list hs hn r=>exact⟨_,_,rfl,.inl (SqL.of hs),k (.v _) _ U H .refl ok (by rw[<- r.length];exact Rp.int _) h⟩
 ·cases rs with
  |cons r1 r2=>
   cases r2
   cases r1 with
   |tuple hs r=>exact⟨_,_,rfl,.inr hs,k (.v _) _ U H .refl ok (by rw[<- r.length];exact Rp.int _) h⟩
 ·cases rs with
  |cons r1 r2=>
   cases r2
   obtain⟨rfl,ds,hm⟩:=r1
   rw[hm] at h
   obtain⟨us,hl,r⟩:=ok _ ds hm
   exact⟨_,_,rfl,.inl (SqL.of hl),k (.v _) _ U H .refl ok (by rw[<- r.length];exact Rp.int _) h⟩
 ·cases rs with
  |cons r1 r2=>
   cases r2
   obtain⟨a,rfl,hs,hn⟩:=r1
   exact⟨_,_,rfl,.inl hs,k (.v _) _ U H .refl ok (by rw[length_map];exact Rp.int _) h⟩
 ·exact h.elim
theorem GH(hg:Gl X "len")(hm:X.mg "len"=none)(ha:DA X (e::es) t)
  (he:starEach (e::es) X.env=(false,eval e X.env)::starEach es X.env:=by rfl) (hpl:(backTo pos (starEach es X.env)).any (·.1)=false:=by rfl):DE X (.Call (.Name "len" p) (e::es) [] pos) (dCB a0 t):=
 dy sd HE hg hm PySem.boot_len ha ⋯ ⋯ he hpl
noncomputable def jY:List D->Mu->DK->Prop:=fun xs U Q=>match xs with
 |[.v (.int i)]=>Q (.v (.int (i.natAbs:Nat))) U
 |_=>False
theorem Gk{K:PySem.W.Frag}:gh K (fun xs H Q=>∃i,xs=[.int i]/\Q (.int (if i<0 then -i else i)) H) jY:=by
 intro xs us H U Qd Q ok rs h k
 unfold jY at h
 split at h
 ·rename_i i
  cases rs with
  |cons r1 r2=>
   cases r2
   cases r1
   refine⟨i,rfl,k (.v (.int (i.natAbs:Nat))) _ U H .refl ok ?_ h⟩
   have:(if i<0 then -i else i)=((i.natAbs:Nat):Int):=by split<;>omega
   rw[this]
   exact Rp.int _
 ·exact h.elim
theorem Gf(hg:Gl X "abs")(hm:X.mg "abs"=none)(ha:DA X (e::es) t)
  (he:starEach (e::es) X.env=(false,eval e X.env)::starEach es X.env:=by rfl) (hpl:(backTo pos (starEach es X.env)).any (·.1)=false:=by rfl):DE X (.Call (.Name "abs" p) (e::es) [] pos) (dCB jY t):=
 dy Bn Gk hg hm PyProof.Rows.Boot.«abs» ha ⋯ ⋯ he hpl
noncomputable def vf(g:Int->Int->Int):List D->Mu->DK->Prop:=fun xs U Q=>match xs with
 |[.v (.int i),.v (.int j)]=>Q (.v (.int (g i j))) U
 |_=>False
theorem ET{K:PySem.W.Frag}{g g':Int->Int->Int}(hg:∀i j,g i j=g' i j):gh K (fun xs H Q=>∃i j,xs=[.int i,.int j]/\Q (.int (g i j)) H) (vf g'):=by
 intro xs us H U Qd Q ok rs h k
 unfold vf at h
 split at h
 ·rename_i i j
  cases rs with
  |cons r1 r2=>
   cases r2 with
   |cons r2 r3=>
    cases r3
    cases r1
    cases r2
    exact⟨i,j,rfl,k (.v _) _ U H .refl ok (by rw[hg];exact Rp.int _) h⟩
 ·exact h.elim
theorem Ig(hc:X.calm=true)(hg:Gl X "max")(hm:X.mg "max"=none)(ha:DA X (e::es) t)
  (he:starEach (e::es) X.env=(false,eval e X.env)::starEach es X.env:=by rfl) (hpl:(backTo pos (starEach es X.env)).any (·.1)=false:=by rfl):DE X (.Call (.Name "max" p) (e::es) [] pos) (dCB (vf max) t):=
 dy (y6 hc) (ET (fun i j=>by show (if j>i then j else i)=max i j;simp only[Int.max_def];split<;>split<;>omega)) hg hm PyProof.Rows.Boot.«max» ha ⋯ ⋯ he hpl
theorem Ik(hc:X.calm=true)(hg:Gl X "min")(hm:X.mg "min"=none)(ha:DA X (e::es) t)
  (he:starEach (e::es) X.env=(false,eval e X.env)::starEach es X.env:=by rfl) (hpl:(backTo pos (starEach es X.env)).any (·.1)=false:=by rfl):DE X (.Call (.Name "min" p) (e::es) [] pos) (dCB (vf min) t):=
 dy (yL hc) (ET (fun i j=>by show (if j<i then j else i)=min i j;simp only[Int.min_def];split<;>split<;>omega)) hg hm PyProof.Rows.Boot.«min» ha ⋯ ⋯ he hpl
noncomputable def jF:List D->Mu->DK->Prop:=fun xs U Q=>match xs with
 |[.v (.int i)]=>Q (.v (.int i)) U
 |[.v (.bool k)]=>Q (.v (.int (if k then 1 else 0))) U
 |_=>False
theorem Ge{K:PySem.W.Frag}:gh K (fun xs H Q=>(∃i,xs=[.int i]/\Q (.int i) H)\/∃k,xs=[.bl k]/\Q (.int (if k then 1 else 0)) H) jF:=by
 intro xs us H U Qd Q ok rs h k
 unfold jF at h
 split at h
 ·rename_i i
  cases rs with
  |cons r1 r2=>cases r2;cases r1;exact .inl ⟨i,rfl,k (.v _) _ U H .refl ok (Rp.int _) h⟩
 ·rename_i b
  cases rs with
  |cons r1 r2=>cases r2;cases r1;exact .inr ⟨b,rfl,k (.v _) _ U H .refl ok (Rp.int _) h⟩
 ·exact h.elim
theorem Bl(hg:Gl X "int")(hm:X.mg "int"=none)(ha:DA X (e::es) t)
  (he:starEach (e::es) X.env=(false,eval e X.env)::starEach es X.env:=by rfl) (hpl:(backTo pos (starEach es X.env)).any (·.1)=false:=by rfl):DE X (.Call (.Name "int" p) (e::es) [] pos) (dCB jF t):=
 lE zo Ge hg hm PyProof.Rows.Boot.«int» ha ⋯ ⋯ he hpl
noncomputable def ly:List D->Mu->DK->Prop:=fun xs U Q=>match xs with
 |[.v (.list ys)]=>Q (.v (.list ys)) U
 |[.v (.tuple ys)]=>Q (.v (.list ys)) U
 |_=>False
theorem Eh{K:PySem.W.Frag}:gh K (fun xs H Q=>∃p ys,xs=[.ref p]/\(SqL K H p ys\/SqT K H p ys)/\∀l,H l=none->Q (.ref l) (upd H l (.lst ys))) ly:=by
 intro xs us H U Qd Q ok rs h k
 unfold ly at h
 split at h
 ·cases rs with
  |cons r1 r2=>
   cases r2
   cases r1 with
   |list hs hn r=>exact⟨_,_,rfl,.inl (SqL.of hs),fun p hp=>k (.v _) _ U _ (bG hp) (ok.new hp) (da ok r hp) h⟩
 ·cases rs with
  |cons r1 r2=>
   cases r2
   cases r1 with
   |tuple hs r=>exact⟨_,_,rfl,.inr hs,fun p hp=>k (.v _) _ U _ (bG hp) (ok.new hp) (da ok r hp) h⟩
 ·exact h.elim
theorem DH(hg:Gl X "list")(hm:X.mg "list"=none)(ha:DA X (e::es) t)
  (he:starEach (e::es) X.env=(false,eval e X.env)::starEach es X.env:=by rfl) (hpl:(backTo pos (starEach es X.env)).any (·.1)=false:=by rfl):DE X (.Call (.Name "list" p) (e::es) [] pos) (dCB ly t):=
 lE rD Eh hg hm PyProof.Rows.Boot.«list» ha ⋯ ⋯ he hpl
theorem ua:∀{bs:List Bool} {us:List Value},Vals (bs.map V.bl) us->us=bs.map Value.bool
 |[],_,.nil=>rfl
 |b::r,_,.cons h t=>by cases h;rw[ua t];rfl
theorem zh(hc:X.calm=true):dP X (.builtin "all") (fun xs H Q=>∃(p:Addr) (bs:List Bool),xs=[.ref p]/\H p=some (.lst (bs.map V.bl))/\Q (.bl (bs.all id)) H):=by
 intro pins s Z H xs us Q I r h
 obtain⟨l,bs,rfl,hl,q⟩:=h
 obtain⟨u,rfl,rx⟩:=vals1 r
 cases rx
 obtain⟨its,rv,pl,_⟩:=I.list (SqL.of hl)
 have eb:=ua rv
 subst eb
 have hL:=pl.isList
 have hlt:=pl.lt
 refine call_all_walk (wpAny_pyIter_list hL ?_)
 refine⟨s.heap.objs.size,[s.heap.objs.size,l],[s.heap.objs.size],(bs.map Value.bool).toArray.size,_,_,fun i=>(bs[i]?).getD true,rfl,Walks.list (A:=X.A.in1) (by exact I.ok.hd hc) _ l (Nat.ne_of_lt hlt) (bs.map Value.bool).toArray,
  ⟨⟨_,Heap.get?_push_size _ rfl,rfl,rfl⟩,hL.push _⟩,fun i v s' Q' E' hP hQ=>?_,fun h' tk hk=>?_⟩
 ·have hP':(bs.map Value.bool)[i]? = some v:=by simpa using hP
  rw[getElem?_map] at hP'
  cases z:bs[i]? with
  |none=>rw[z] at hP';cases hP'
  |some b=>
   rw[z] at hP'
   cases hP'
   simp only[z,Option.getD_some] at hQ
   exact wpAny_truthy_bool hQ
 ·have e:((List.range (bs.map Value.bool).toArray.size).all fun i=>(bs[i]?).getD true)=bs.all id:=by
   rw[size_toArray,length_map];exact PyProof.Rows.LSm.range_all bs
  rw[e]
  exact⟨.bl (bs.all id),H,I.kept (PyProof.Rows.LSm.kept_iter hk),rfl,q⟩
noncomputable def a9:List PyData->Option (List Bool)
 |[]=>some []
 |.bool b::r=>(a9 r).map (b::·)
 |_::_=>none
theorem oQ{K:PySem.W.Frag}{U:Mu}{H:Hp}:∀{xs:List PyData} {us:List V} {bs:List Bool},RpL K U H xs us->a9 xs=some bs->us=bs.map V.bl
 |_,_,_,.nil,e=>by cases e;rfl
 |.bool b::r,_,bs,.cons h t,e=>by
  simp only[a9] at e
  cases q:a9 r with
  |none=>rw[q] at e;cases e
  |some cs=>rw[q] at e;cases e;cases h;rw[oQ t q];rfl
 |.none::r,_,bs,.cons h t,e=>by simp[a9] at e
 |.int _::r,_,bs,.cons h t,e=>by simp[a9] at e
 |.str _::r,_,bs,.cons h t,e=>by simp[a9] at e
 |.list _::r,_,bs,.cons h t,e=>by simp[a9] at e
 |.tuple _::r,_,bs,.cons h t,e=>by simp[a9] at e
 |.dict _::r,_,bs,.cons h t,e=>by simp[a9] at e
noncomputable def kG:List D->Mu->DK->Prop:=fun xs U Q=>match xs with
 |[.v (.list ys)]=>(match a9 ys with|some bs=>Q (.v (.bool (bs.all id))) U|none=>False)
 |_=>False
theorem Ha{K:PySem.W.Frag}:gh K (fun xs H Q=>∃(p:Addr) (bs:List Bool),xs=[.ref p]/\H p=some (.lst (bs.map V.bl))/\Q (.bl (bs.all id)) H) kG:=by
 intro xs us H U Qd Q ok rs h k
 unfold kG at h
 split at h
 ·rename_i ys
  cases q:a9 ys with
  |none=>rw[q] at h;exact h.elim
  |some bs=>
   rw[q] at h
   cases rs with
   |cons r1 r2=>
    cases r2
    cases r1 with
    |list hs hn r=>exact⟨_,bs,rfl,by rw[hs,oQ r q],k (.v _) _ U H .refl ok (Rp.bool _) h⟩
 ·exact h.elim
theorem Gg(hc:X.calm=true)(hg:Gl X "all")(hm:X.mg "all"=none)(ha:DA X (e::es) t)
  (he:starEach (e::es) X.env=(false,eval e X.env)::starEach es X.env:=by rfl) (hpl:(backTo pos (starEach es X.env)).any (·.1)=false:=by rfl):DE X (.Call (.Name "all" p) (e::es) [] pos) (dCB kG t):=
 dy (zh hc) Ha hg hm PyProof.Rows.Boot.«all» ha ⋯ ⋯ he hpl
noncomputable def tyD:PyData->String
 |.none=>"NoneType"
 |.bool _=>"bool"
 |.int _=>"int"
 |.str _=>"str"
 |.list _=>"list"
 |.tuple _=>"tuple"
 |.dict _=>"dict"
noncomputable def isT(T:String)(d:PyData):Bool:=tyD d==T || (T == "int"&&tyD d == "bool")
theorem yM{pins:List (Addr×Obj)}{Z:St}{H:Hp}{s:Shared}{U:Mu}{d:PyData}{u:V}{v:Value}{k:Bool}{A:Around}{E:Value->Shared->Prop}{Q:Value->Shared->Prop}(I:Inv X pins Z H s)(r:Rp X.K U H d u)(rx:RelV u v)
  (ek:kitOne X.K (.type (tyD d)) (.type T)=some k) (h:∀tk,Q (.bool k) {s with toks:=tk}):wpAny (model X.prog X.w) A (call (.builtin "isinstance") [v,.type T]) Q E s:=by
 cases r with
 |none=>cases rx;exact kia_one PySem.W.kitx_none I.kIn True.intro ek (fun z=>nomatch z) h
 |bool b=>cases rx;exact kia_one PySem.W.kitx_bool I.kIn True.intro ek (fun z=>nomatch z) h
 |int i=>obtain⟨t,rfl⟩:=rx;exact kia_one PySem.W.kitx_int I.kIn True.intro ek (fun z=>nomatch z) h
 |str y=>obtain⟨t,rfl⟩:=rx;exact kia_one PySem.W.kitx_str I.kIn True.intro ek (fun z=>nomatch z) h
 |list hs hn q=>
  cases rx
  obtain⟨its,rv,⟨o,n,h1,h2,_⟩,_⟩:=I.list (SqL.of hs)
  exact kia_one PySem.W.kitx_list I.kIn ⟨o,h1,h2⟩ ek (fun z=>nomatch z) h
 |tuple hs q=>
  cases rx
  obtain⟨its,rv,⟨o,h1,h2,_⟩,_⟩:=I.tuple hs
  exact kia_one PySem.W.kitx_tuple I.kIn ⟨o,h1,h2⟩ ek (fun z=>nomatch z) h
theorem DJ(K:PySem.W.Frag)(d:PyData):kitOne K (.type (tyD d)) (.type "int")=some (isT "int" d):=by cases d<;>rfl
theorem Aw(K:PySem.W.Frag)(d:PyData):kitOne K (.type (tyD d)) (.type "bool")=some (isT "bool" d):=by cases d<;>rfl
theorem kit_tuple(K:PySem.W.Frag)(d:PyData):kitOne K (.type (tyD d)) (.type "tuple")=some (isT "tuple" d):=by cases d<;>rfl
theorem uH(kt:∀d,kitOne X.K (.type (tyD d)) (.type T)=some (isT T d)):dP X (.builtin "isinstance") (fun xs H Q=>∃U d u,xs=[u,.ty T]/\Rp X.K U H d u/\Q (.bl (isT T d)) H):=by
 intro pins s Z H xs us Q I r h
 obtain⟨U,d,u,rfl,rd,q⟩:=h
 obtain⟨v,w',rfl,r1,r2⟩:=vals2 r
 cases r2
 exact yM I rd r1 (kt d) fun tk=>⟨.bl (isT T d),H,I.tok _,rfl,q⟩
noncomputable def o6(T:String)(te:DTE):DTE:=fun ρ U Q=>te ρ U fun x ac=>match x with
 |.v d=>Q (.v (.bool (isT T d))) ac
 |_=>False
theorem vL{y:Str}{py:Pos}(kt:∀d,kitOne X.K (.type (tyD d)) (.type T)=some (isT T d))(hg:Gl X "isinstance")(hm:X.mg "isinstance"=none)(hgy:Gl X y)(hmy:X.mg y=none)(hvy:bootBuiltins y=some (.type T))(ha:DE X e te)
  (hny:y ≠ "__name__":=by decide) (hdy:(y==("__debug__":Str))=false:=by decide)
  (he:starEach [e,.Name y py] X.env=(false,eval e X.env)::starEach [.Name y py] X.env:=by rfl) (he2:starEach [.Name y py] X.env=[(false,eval (.Name y py) X.env)]:=by rfl) (hpl:(backTo pos (starEach [.Name y py] X.env)).any (·.1)=false:=by rfl):DE X (.Call (.Name "isinstance" p) [e,.Name y py] [] pos) (o6 T te):=by
 obtain⟨t1,p1,l1⟩:=ha
 refine⟨_,jZ (uH kt) hg hm PyProof.Rows.Boot.«isinstance» (cT p1 (cT (xF (v:=.ty T) hgy hmy hvy rfl hny hdy) iz he2) he) ⋯ ⋯ he hpl,fun Z H ρ U Qd Q S h k=>?_⟩
 refine l1 Z H ρ U _ _ S h fun x ux ac H1 e1 S1 rx h1=>?_
 split at h1
 ·exact⟨ac,_,ux,rfl,rx,k (.v _) _ ac H1 e1 S1 (Rp.bool _) h1⟩
 ·exact h1.elim
end
section
variable {X:Cx}{a b e:Expr}{es:List Expr}{ta tb te:DTE}{t:DTA}{p pos:Pos}{st:Stmt}{rest sts:List Stmt}{td ud:DTS}{tc:DTT}
noncomputable def aF:DTS:=fun Dd ρ U=>Dd.nx ρ U
noncomputable def ak(t u:DTS):DTS:=fun Dd ρ U=>t {Dd with nx:=u Dd} ρ U
noncomputable def aC(te:DTE):DTS:=fun Dd ρ U=>te ρ U Dd.rt
noncomputable def cA(te:DTE):DTS:=fun Dd ρ U=>te ρ U fun _ ac=>Dd.nx ρ ac
noncomputable def aL(c:DTT)(t u:DTS):DTS:=fun Dd ρ U=>c ρ U fun b ac=>if b=true then t Dd ρ ac else u Dd ρ ac
theorem DX:DSs X [] aF:=⟨_,Ef,fun Z H ρ U Dd De S h k1 k2 k3 k4=>k1 Z ρ U H .refl S h⟩
theorem Dg(h:DS X st td):DSs X [st] td:=let ⟨t,p,l⟩:=h;⟨t,Cq p,l⟩
theorem lift_seq{K:PySem.W.Frag}{t u:TS}(l1:qS K t td)(l2:qS K u ud):qS K (Ko t u) (ak td ud):=by
 intro Z H ρ U Dd De S h k1 k2 k3 k4
 refine l1 Z H ρ U _ _ S h (fun al ap Y H' e' S' h'=>?_) k2 k3 k4
 exact l2 al H' ap Y Dd De S' h' (fun a b c d e2=>k1 a b c d (e'.trans e2)) (fun a b c d e2=>k2 a b c d (e'.trans e2)) (fun a b c d e2=>k3 a b c d (e'.trans e2)) (fun a b c d e2=>k4 a b c d (e'.trans e2))
theorem Be(h1:DS X st td)(h2:DSs X rest ud):DSs X (st::rest) (ak td ud):=by
 obtain⟨t1,p1,l1⟩:=h1
 obtain⟨t2,p2,l2⟩:=h2
 exact⟨_,n5 p1 p2,lift_seq l1 l2⟩
theorem Ii(he:DE X e te):DS X (.Return (some e) pos) (aC te):=by
 obtain⟨t1,p1,l1⟩:=he
 exact⟨_,FY p1,fun Z H ρ U Dd De S h k1 k2 k3 k4=>l1 Z H ρ U _ _ S h fun d u Y H' e' S' r q=>k2 d u Y H' e' S'.mu r q⟩
theorem Dl(he:DE X e te)(hs:swapsWith e none pos.line X.env=pure false:=by rfl):DS X (.Expr e pos) (cA te):=by
 obtain⟨t1,p1,l1⟩:=he
 exact⟨_,B7 p1 hs,fun Z H ρ U Dd De S h k1 k2 k3 k4=>l1 Z H ρ U _ _ S h fun d u Y H' e' S' r q=>k1 Z ρ Y H' e' S' q⟩
theorem JO{c:Expr}{x y:List Stmt}(hc:DT X c tc)(ha:DSs X x td)(hb:DSs X y ud):DS X (.If c x y pos) (aL tc td ud):=by
 obtain⟨t0,p0,l0⟩:=hc
 obtain⟨t1,p1,l1⟩:=ha
 obtain⟨t2,p2,l2⟩:=hb
 refine⟨_,ES p0 p1 p2,fun Z H ρ U Dd De S h k1 k2 k3 k4=>?_⟩
 refine l0 Z H ρ U _ _ S h fun c ac H1 e1 S1 h1=>?_
 cases c with
 |true=>exact rO (l1 Z H1 ρ ac Dd De S1 (by simpa using h1) (fun a b c d e2=>k1 a b c d (e1.trans e2)) (fun a b c d e2=>k2 a b c d (e1.trans e2)) (fun a b c d e2=>k3 a b c d (e1.trans e2)) (fun a b c d e2=>k4 a b c d (e1.trans e2)))
 |false=>exact rE (l2 Z H1 ρ ac Dd De S1 (by simpa using h1) (fun a b c d e2=>k1 a b c d (e1.trans e2)) (fun a b c d e2=>k2 a b c d (e1.trans e2)) (fun a b c d e2=>k3 a b c d (e1.trans e2)) (fun a b c d e2=>k4 a b c d (e1.trans e2)))
noncomputable abbrev DTG:=D->Rho->Mu->(Rho->Mu->Prop)->Prop
noncomputable abbrev lr:=List PyData->Rho->Mu->(Rho->Mu->Prop)->Prop
noncomputable def BO(K:PySem.W.Frag)(g:TG)(gd:DTG):Prop:=∀(Z:St) (H:Hp) (ρ:Rho) (U:Mu) (d:D) (u:V) (Qd:Rho->Mu->Prop) (Q:St->Hp->Prop),St0 K H ρ U Z->RpD K U H d u->gd d ρ U Qd ->
 (∀al ap Y H',Ext K U H Y H'->St0 K H' ap Y al->Qd ap Y->Q al H')->g u Z H Q
noncomputable def FR(K:PySem.W.Frag)(g:TGs)(gd:lr):Prop:=∀(Z:St) (H:Hp) (ρ:Rho) (U:Mu) (ds:List PyData) (us:List V) (Qd:Rho->Mu->Prop) (Q:St->Hp->Prop),St0 K H ρ U Z->RpL K U H ds us->gd ds ρ U Qd ->
 (∀al ap Y H',Ext K U H Y H'->St0 K H' ap Y al->Qd ap Y->Q al H')->g us Z H Q
inductive DG(X:Cx)(tg:Expr)(gd:DTG):Prop|mk0 (g:TG) (p:PG X tg g) (l:BO X.K g gd):DG X tg gd
inductive DGs(X:Cx)(tg:List Expr)(gd:lr):Prop|mk0 (g:TGs) (p:PGs X tg g) (l:FR X.K g gd):DGs X tg gd
theorem fD.set{K:PySem.W.Frag}{U:Mu}{H:Hp}{ρ:Rho}{Z:St}{i:Nat}{d:D}{u:V}(r:fD K U H ρ Z)(h:RpD K U H d u):fD K U H (ρ.set i (some d)) (Z.set i (some u)):=by
 refine⟨by rw[List.length_set,List.length_set];exact r.1,fun j d' e=>?_⟩
 by_cases hj:i=j
 ·subst hj
  have hl:i<ρ.length:=by
   have:=(List.getElem?_eq_some_iff.mp e).1
   rw[List.length_set] at this
   exact this
  rw[List.getElem?_set_self hl] at e
  cases e
  exact⟨u,List.getElem?_set_self (by rw[<- r.1];exact hl),h⟩
 ·rw[List.getElem?_set_ne hj] at e
  obtain⟨w,e1,e2⟩:=r.2 j d' e
  exact⟨w,by rw[List.getElem?_set_ne hj];exact e1,e2⟩
noncomputable def af(i:Nat):DTG:=fun d ρ U Q=>Q (ρ.set i (some d)) U
theorem pB{K:PySem.W.Frag}{i:Nat}:BO K (Bc i) (af i):=fun Z H ρ U d u Qd Q S r h k=>k _ _ U H .refl ⟨S.mu,S.rho.set r⟩ h
theorem rH{i:Nat}{x:Str}(hN:X.N.Nodup)(hi:X.N[i]? = some x)(hx:Loc X.env.scope x)(hf:X.fn x=true\/X.env.scope.names.lookup x=some .local:=by first|exact .inl rfl|exact .inr rfl|assumption):DG X (.Name x pos) (af i):=⟨_,DQ hN hi hx hf,pB⟩
noncomputable def bY:lr:=fun ds ρ U Q=>match ds with
 |[]=>Q ρ U
 |_=>False
noncomputable def aA(g:DTG)(gs:lr):lr:=fun ds ρ U Q=>match ds with
 |d::r=>g (.v d) ρ U fun ms ac=>gs r ms ac Q
 |_=>False
theorem Cj:DGs X [] bY:=⟨_,CJ,fun Z H ρ U ds us Qd Q S r h k=>by
 cases r with
 |nil=>exact⟨rfl,k Z ρ U H .refl S h⟩
 |cons _ _=>exact h.elim⟩
theorem Bj{g:DTG}{gs:lr}(h1:DG X e g)(h2:DGs X es gs)(hs:(assignEach (e::es) X.env).map (·.2)=assign e X.env::(assignEach es X.env).map (·.2):=by rfl):DGs X (e::es) (aA g gs):=by
 obtain⟨t1,p1,l1⟩:=h1
 obtain⟨t2,p2,l2⟩:=h2
 refine⟨_,Am p1 p2 hs,fun Z H ρ U ds us Qd Q S r h k=>?_⟩
 cases r with
 |nil=>exact h.elim
 |@cons d u ds us r1 r2=>
  refine⟨u,us,rfl,l1 Z H ρ U (.v d) u _ _ S r1 h fun al ap Y H' e1 S' h1=>?_⟩
  exact l2 al H' ap Y ds us _ _ S' (r2.ext S.mu e1) h1 fun a b c d e2=>k a b c d (e1.trans e2)
noncomputable def cj(n:Nat)(gs:lr):DTG:=fun d ρ U Q=>match d with
 |.v (.tuple xs)=>xs.length=n/\gs xs ρ U Q
 |_=>False
theorem Ho{k n:Nat}{gs:lr}(hc:X.calm=X.calm)(h:DGs X es gs)
  (hn:(assignEach es X.env).length=n:=by rfl) (hst:(assignEach es X.env).findIdx? (·.1)=none:=by rfl):DG X (.Tuple es k pos) (cj n gs):=by
 obtain⟨t1,p1,l1⟩:=h
 refine⟨_,HJ hc p1 hn hst,fun Z H ρ U d u Qd Q S r h k=>?_⟩
 unfold cj at h
 split at h
 ·cases r with
  |@tuple a us _ ha ra=>exact⟨a,us,rfl,ha,by rw[<- ra.length];exact h.1,l1 Z H ρ U _ us _ _ S ra h.2 k⟩
 ·exact h.elim
noncomputable def xD(to ti:DTE):DTG:=fun d ρ U Q=>to ρ U fun o ac=>ti ρ ac fun i ad=>match o,i,d with
 |.m l,.v (.int k),.v x=>(match ad l with
  |some xs=>(match ixN xs.length k with
   |some j=>Q ρ (aE ad l (xs.set j x))
   |none=>False)
  |none=>False)
 |_,_,_=>False
theorem FT{o i:Expr}{to ti:DTE}(ho:DE X o to)(hi:DE X i ti)
  (ha:∀v,assign (.Subscript o i pos) X.env v=(do
   let ov <- holding [v] (eval o X.env)
   let iv <- holding [v,ov] (eval i X.env)
   standAt pos
   holding [v,ov,iv] (setItem ov iv v)
   release [v,ov,iv] []):=by intro _;rfl):DG X (.Subscript o i pos) (xD to ti):=by
 obtain⟨t1,p1,l1⟩:=ho
 obtain⟨t2,p2,l2⟩:=hi
 refine⟨_,Fq p1 p2 set_list ha,fun Z H ρ U d u Qd Q S r h k=>?_⟩
 refine l1 Z H ρ U _ _ S h fun x ux ac H1 e1 S1 rx h1=>?_
 refine l2 Z H1 ρ ac _ _ S1 h1 fun y uy ad H2 e2 S2 ry h2=>?_
 have r2:=(r.ext S.mu e1).ext S1.mu e2
 have rx2:=rx.ext S1.mu e2
 split at h2
 ·rename_i l kk xv
  obtain⟨rfl,ds,hm⟩:=rx2
  cases ry
  rw[hm] at h2
  obtain⟨us,hl,rl⟩:=S2.mu l ds hm
  simp only at h2
  cases q:ixN ds.length kk with
  |none=>rw[q] at h2;exact h2.elim
  |some j=>
   rw[q] at h2
   refine⟨l,us,kk,j,rfl,rfl,hl,by rw[<- rl.length];exact q,?_⟩
   have ex:Ext X.K ad H2 (aE ad l (ds.set j xv)) (upd H2 l (.lst (us.set j u))):=fI hm
   exact k Z ρ _ _ (e1.trans (e2.trans ex)) ⟨S2.mu.set hm (rl.set r2 j),S2.rho.ext S2.mu ex⟩ h2
 ·exact h2.elim
noncomputable def az(te:DTE)(g:DTG):DTS:=fun Dd ρ U=>te ρ U fun d ac=>g d ρ ac Dd.nx
theorem uL{K:PySem.W.Frag}{t:TE}{g:TG}{gd:DTG}(l1:kb K t te)(l2:BO K g gd):qS K (Fv t g) (az te gd):=by
 intro Z H ρ U Dd De S h k1 k2 k3 k4
 refine l1 Z H ρ U _ _ S h fun d u ac H1 e1 S1 r h1=>?_
 exact l2 Z H1 ρ ac d u _ _ S1 r h1 fun a b c d e2=>k1 a b c d (e1.trans e2)
theorem IJ{tg:Expr}{g:DTG}(he:DE X e te)(hg:DG X tg g)(hs:swapsWithSole [tg] e pos.line X.env=pure false:=by rfl)(hw:swappedStores [tg] e X.env=pure none:=by rfl)
  (h1:(assignEach [tg] X.env).map (·.2)=[assign tg X.env]:=by rfl):DS X (.Assign [tg] e pos) (az te g):=by
 obtain⟨t1,p1,l1⟩:=he
 obtain⟨t2,p2,l2⟩:=hg
 exact⟨_,Gb p1 p2 hs hw h1,uL l1 l2⟩
theorem BN{i:Nat}{x:Str}{pos':Pos}(hN:X.N.Nodup)(hi:X.N[i]? = some x)(hx:Loc X.env.scope x)(he:DE X e te)(hs:swapsWith e (some (.Name x pos')) pos.line X.env=pure false:=by rfl)(hf:X.fn x=true\/X.env.scope.names.lookup x=some .local:=by first|exact .inl rfl|exact .inr rfl|assumption) :
  DS X (.Assign [.Name x pos'] e pos) (az te (af i)):=by
 obtain⟨t1,p1,l1⟩:=he
 exact⟨_,HZ hN hi hx p1 hs hf,uL l1 pB⟩
noncomputable def nh(i j:Nat)(t:DTA):DTS:=fun Dd ρ U=>t ρ U fun ds ac=>match ds with
 |[v,w]=>Dd.nx ((ρ.set i (some v)).set j (some w)) ac
 |_=>False
theorem Ga{i j:Nat}{x y:Str}{a b:Expr}{t:DTA}{px py pt:Pos}{kt k2 pt2}(hc:X.calm=true)(hN:X.N.Nodup)(hi:X.N[i]? = some x)(hj:X.N[j]? = some y)(hij:i≠j)
  (hx:X.env.scope.names.lookup x=some .local) (hy:X.env.scope.names.lookup y=some .local) (ha:DA X [a,b] t)
  (hw:swappedStores [.Tuple [.Name x px,.Name y py] kt pt] (.Tuple [a,b] k2 pt2) X.env=pure (some [x,y]))
  (hs:swapsWithSole [.Tuple [.Name x px,.Name y py] kt pt] (.Tuple [a,b] k2 pt2) pos.line X.env=pure false:=by rfl) :
  DS X (.Assign [.Tuple [.Name x px,.Name y py] kt pt] (.Tuple [a,b] k2 pt2) pos) (nh i j t):=by
 obtain⟨t1,p1,l1⟩:=ha
 refine⟨_,Hj hc hN hi hj hij hx hy p1 hw hs,fun Z H ρ U Dd De S h k1 k2 k3 k4=>?_⟩
 refine l1 Z H ρ U _ _ S h fun ds us ac H1 e1 S1 rs len h1=>?_
 split at h1
 ·cases rs with
  |cons r1 r2=>
   cases r2 with
   |cons r2 r3=>
    cases r3
    exact⟨_,_,rfl,k1 _ _ ac H1 e1 ⟨S1.mu,(S1.rho.set r1).set r2⟩ h1⟩
 ·exact h1.elim
noncomputable def oB(c:DTT)(tb:DTS):DTS:=fun Dd ρ U=>∃W:Nat->Rho->Mu->Prop,(∃m,W m ρ U)/\∀m ρ U,W m ρ U ->
 c ρ U fun b ac=>if b=true then tb {Dd with nx:=fun ap Y=>∃m',m'<m/\W m' ap Y,ct:=fun ap Y=>∃m',m'<m/\W m' ap Y,bk:=Dd.nx} ρ ac else Dd.nx ρ ac
theorem A3{c:Expr}{body:List Stmt}(hp:PassesOwn (model X.prog X.w) X.A X.env X.xe)(hc:DT X c tc)(hb:DSs X body td):DS X (.While c body [] pos) (oB tc td):=by
 obtain⟨t0,p0,l0⟩:=hc
 obtain⟨t1,p1,l1⟩:=hb
 refine⟨_,zS hp p0 p1,fun Z H ρ U Dd De S h k1 k2 k3 k4=>?_⟩
 obtain⟨W,⟨m,w0⟩,turn⟩:=h
 refine⟨fun m al H'=>∃ap Y,Ext X.K U H Y H'/\St0 X.K H' ap Y al/\W m ap Y,⟨m,ρ,U,.refl,S,w0⟩,?_⟩
 rintro m ls H1 ⟨ms,ac,e1,S1,w1⟩
 refine l0 ls H1 ms ac _ _ S1 (turn m ms ac w1) fun b ad H2 e2 S2 h2=>?_
 cases b with
 |true=>
  refine rO ⟨fun al H'=>∃m',m'<m/\∃ap Y,Ext X.K U H Y H'/\St0 X.K H' ap Y al/\W m' ap Y,fun al H' ⟨m',hm,q⟩=>⟨m',hm,q⟩,?_⟩
  have nxt:∀al ap Y H',Ext X.K ad H2 Y H'->St0 X.K H' ap Y al->(∃m',m'<m/\W m' ap Y)->∃m',m'<m/\∃ap Y,Ext X.K U H Y H'/\St0 X.K H' ap Y al/\W m' ap Y:=
   fun al ap Y H' e3 S3 ⟨m',hm,q⟩=>⟨m',hm,ap,Y,e1.trans (e2.trans e3),S3,q⟩
  rw[if_pos rfl] at h2
  exact l1 ls H2 ms ad _ _ S2 h2 nxt (fun a b c d e3=>k2 a b c d (e1.trans (e2.trans e3))) (fun a b c d e3=>k1 a b c d (e1.trans (e2.trans e3))) nxt
 |false=>exact rE (k1 ls ms ad H2 (e1.trans e2) S2 (by simpa using h2))
noncomputable abbrev DTI:=Rho->Mu->(List PyData->Mu->Prop)->Prop
noncomputable def IK(K:PySem.W.Frag)(J:It)(xs:List PyData)(ac:Mu)(H1:Hp):Prop:=∀ad H2,Ext K ac H1 ad H2->aV K ad H2->∀i,(i<xs.length->J.go i H2/\∀x H',J.yld i H2 x H'->∃d,xs[i]? = some d/\tw H2 H'/\Rp K ad H' d x)/\(i=xs.length->J.stop i H2)
noncomputable def Kq(K:PySem.W.Frag)(wi:TI)(src:DTI):Prop:=∀(Z:St) (H:Hp) (ρ:Rho) (U:Mu) (Qd:List PyData->Mu->Prop) (R:It->Hp->Prop),St0 K H ρ U Z->src ρ U Qd ->
 (∀xs ac H1 J,Ext K U H ac H1->St0 K H1 ρ ac Z->IK K J xs ac H1->Qd xs ac->R J H1)->wi Z H R
inductive DI(X:Cx)(tg iter:Expr)(src:DTI):Prop|mk0 (wi:TI) (p:PI X tg iter wi) (l:Kq X.K wi src):DI X tg iter src
variable {tg:Expr}
noncomputable def aZ(te:DTE):DTI:=fun ρ U Q=>te ρ U fun d ac=>match d with
 |.v (.list xs)=>Q xs ac
 |_=>False
noncomputable def fK(te:DTE):DTI:=fun ρ U Q=>te ρ U fun d ac=>match d with
 |.v (.tuple xs)=>Q xs ac
 |_=>False
theorem B9(h:DE X e te):DI X tg e (aZ te):=by
 obtain⟨t1,p1,l1⟩:=h
 refine⟨_,CA p1,fun Z H ρ U Qd R S h k=>?_⟩
 refine l1 Z H ρ U _ _ S h fun d u ac H1 e1 S1 r h1=>?_
 split at h1
 ·rename_i xs
  cases r with
  |@list a us _ ha hn ra=>
   refine⟨a,rfl,⟨us,SqL.of ha⟩,k xs ac H1 _ e1 S1 (fun ad H2 e2 ok2 i=>⟨fun hi=>?_,fun hi=>?_⟩) h1⟩
   ·have ha2:=e2.keep _ _ ha hn trivial
    have hiu:i<us.length:=by rw[<- ra.length];exact hi
    refine⟨⟨us,us[i],SqL.of ha2,by simp[hiu]⟩,fun x H' hq0=>?_⟩
    obtain⟨eH,hx⟩:=hq0
    subst eH
    obtain⟨u',h1',h2'⟩:=ra.get (i:=i) (d:=xs[i]) (by simp[hi])
    have:=hx us (SqL.of ha2)
    rw[h1'] at this
    cases this
    exact⟨xs[i],by simp[hi],tw.refl _,h2'.ext S1.mu e2⟩
   ·exact⟨us,SqL.of (e2.keep _ _ ha hn trivial),by rw[<- ra.length];omega⟩
 ·exact h1.elim
theorem GK(h:DE X e te):DI X tg e (fK te):=by
 obtain⟨t1,p1,l1⟩:=h
 refine⟨_,H0 p1,fun Z H ρ U Qd R S h k=>?_⟩
 refine l1 Z H ρ U _ _ S h fun d u ac H1 e1 S1 r h1=>?_
 split at h1
 ·rename_i xs
  cases r with
  |@tuple a us _ ha ra=>
   refine⟨a,rfl,⟨us,ha⟩,k xs ac H1 _ e1 S1 (fun ad H2 e2 ok2 i=>⟨fun hi=>?_,fun hi=>?_⟩) h1⟩
   ·have ha2:=fm S1.mu e2 ha
    have hiu:i<us.length:=by rw[<- ra.length];exact hi
    refine⟨⟨us,us[i],ha2,by simp[hiu]⟩,fun x H' hq0=>?_⟩
    obtain⟨eH,hx⟩:=hq0
    subst eH
    obtain⟨u',h1',h2'⟩:=ra.get (i:=i) (d:=xs[i]) (by simp[hi])
    have:=hx us ha2
    rw[h1'] at this
    cases this
    exact⟨xs[i],by simp[hi],tw.refl _,h2'.ext S1.mu e2⟩
   ·exact⟨us,fm S1.mu e2 ha,by rw[<- ra.length];omega⟩
 ·exact h1.elim
noncomputable def iU(lo:Int)(n:Nat):List PyData:=(List.range n).map fun (i:Nat)=>PyData.int (lo+(i:Int))
theorem Bb{K:PySem.W.Frag}{lo:Int}{n:Nat}{U:Mu}{H:Hp}:IK K (Itr lo n) (iU lo n) U H:=fun ad H2 e2 ok2 i=>by
 have hl:(iU lo n).length=n:=by unfold iU;simp
 refine⟨fun hi=>?_,fun hi=>?_⟩
 ·rw[hl] at hi
  refine⟨hi,fun x H' hq0=>?_⟩
  obtain⟨eH,hx⟩:=hq0
  subst eH hx
  exact⟨.int (lo+i),by unfold iU;simp[hi],tw.refl _,.int _⟩
 ·show n<=i
  omega
noncomputable def dj(t:DTA):DTI:=fun ρ U Q=>t ρ U fun ds ac=>match ds with
 |[.v (.int j)]=>(-(2 ^ 62)<=j/\j<2 ^ 62)/\Q (iU 0 j.toNat) ac
 |_=>False
noncomputable def wK(t:DTA):DTI:=fun ρ U Q=>t ρ U fun ds ac=>match ds with
 |[.v (.int i),.v (.int j)]=>(-(2 ^ 62)<=i/\i<2 ^ 62/\-(2 ^ 62)<=j/\j<2 ^ 62)/\Q (iU i (j-i).toNat) ac
 |_=>False
theorem Dp{a:Expr}{t:DTA}{p pos:Pos}(hg:Gl X "range")(hm:X.mg "range"=none)(ha:DA X [a] t)(hs:starEach [a] X.env=[(false,eval a X.env)]:=by rfl)(hc:X.calm=true:=by rfl):DI X tg (.Call (.Name "range" p) [a] [] pos) (dj t):=by
 obtain⟨t1,p1,l1⟩:=ha
 refine⟨_,yx hc hg hm p1 hs,fun Z H ρ U Qd R S h k=>?_⟩
 refine l1 Z H ρ U _ _ S h fun ds us ac H1 e1 S1 rs len h1=>?_
 split at h1
 ·rename_i j
  cases rs with
  |cons r1 r2=>cases r2;cases r1;exact⟨j,rfl,h1.1.1,h1.1.2,k _ ac H1 _ e1 S1 Bb h1.2⟩
 ·exact h1.elim
theorem CG{a b:Expr}{t:DTA}{p pos:Pos}(hg:Gl X "range")(hm:X.mg "range"=none)(ha:DA X [a,b] t)(hs:starEach [a,b] X.env=[(false,eval a X.env),(false,eval b X.env)]:=by rfl)(hs2:starEach [b] X.env=[(false,eval b X.env)]:=by rfl)(hc:X.calm=true:=by rfl):DI X tg (.Call (.Name "range" p) [a,b] [] pos) (wK t):=by
 obtain⟨t1,p1,l1⟩:=ha
 refine⟨_,yF hc hg hm p1 hs hs2,fun Z H ρ U Qd R S h k=>?_⟩
 refine l1 Z H ρ U _ _ S h fun ds us ac H1 e1 S1 rs len h1=>?_
 split at h1
 ·rename_i i j
  cases rs with
  |cons r1 r2=>
   cases r2 with
   |cons r2 r3=>cases r3;cases r1;cases r2;exact⟨i,j,rfl,h1.1,k _ ac H1 _ e1 S1 Bb h1.2⟩
 ·exact h1.elim
noncomputable def gA(src:DTI)(g:DTG)(tb:DTS):DTS:=fun Dd ρ U=>src ρ U fun xs ac=>∃Pv:Nat->Rho->Mu->Prop,Pv 0 ρ ac /\
 (∀i x ap Y,xs[i]? = some x->Pv i ap Y->g (.v x) ap Y fun cr ad=>tb {Dd with nx:=Pv (i+1),ct:=Pv (i+1),bk:=Dd.nx} cr ad)/\(∀ap Y,Pv xs.length ap Y->Dd.nx ap Y)
theorem Fs{iter:Expr}{body:List Stmt}{src:DTI}{g:DTG}(hp:PassesOwn (model X.prog X.w) X.A X.env X.xe)(hc:X.calm=true)(hi:DI X tg iter src)(hg:DG X tg g)(hb:DSs X body td)
  (hs:∀x,foldedSetIterable iter X.env x=pure x:=by intro _;rfl):DS X (.For tg iter body [] pos) (gA src g td):=by
 obtain⟨t0,p0,l0⟩:=hi
 obtain⟨t1,p1,l1⟩:=hg
 obtain⟨t2,p2,l2⟩:=hb
 refine⟨_,Ib hp hc p0 p1 p2 hs,fun Z H ρ U Dd De S h k1 k2 k3 k4=>?_⟩
 refine l0 Z H ρ U _ _ S h fun xs ac H1 J e1 S1 it h1=>?_
 obtain⟨Pv,pv0,turn,fin⟩:=h1
 refine⟨fun i m al H'=>m=xs.length-i/\i<=xs.length/\∃ap Y,Ext X.K ac H1 Y H'/\St0 X.K H' ap Y al/\Pv i ap Y,⟨xs.length,by simp,zero_le _,ρ,ac,.refl,S1,pv0⟩,?_⟩
 rintro i m al H' ⟨rfl,hi,ap,Y,e2,S2,pv⟩
 obtain⟨go,stop⟩:=it Y H' e2 S2.mu i
 by_cases hlt:i<xs.length
 ·obtain⟨g1,y1⟩:=go hlt
  refine .inr ⟨g1,fun o0 H2=>∃cr ad,Ext X.K ac H1 ad H2/\St0 X.K H2 cr ad o0/\Pv (i+1) cr ad,fun o0 H2 q=>⟨xs.length-(i+1),∅,rfl,hlt,q⟩,fun x H2 yl=>?_⟩
  obtain⟨d,hd,sm,rd⟩:=y1 x H2 yl
  have e3:Ext X.K Y H' Y H2:=.of_same sm
  have S3:St0 X.K H2 ap Y al:=⟨S2.mu.IE e3 sm,S2.rho.ext S2.mu e3⟩
  refine l1 al H2 ap Y (.v d) x _ _ S3 rd (turn i d ap Y hd pv) fun wf wp ce H4 e4 S4 h4=>?_
  have nxt:∀a b c dd,Ext X.K ce H4 c dd->St0 X.K dd b c a->Pv (i+1) b c->∃cr ad,Ext X.K ac H1 ad dd/\St0 X.K dd cr ad a/\Pv (i+1) cr ad:=fun a b c dd e5 S5 q=>⟨b,c,e2.trans (e3.trans (e4.trans e5)),S5,q⟩
  have ee:=e1.trans (e2.trans (e3.trans e4))
  exact l2 wf H4 wp ce _ _ S4 h4 nxt (fun a b c d e5=>k2 a b c d (ee.trans e5)) (fun a b c d e5=>k1 a b c d (ee.trans e5)) nxt
 ·have ei:i=xs.length:=by omega
  subst ei
  exact .inl ⟨stop rfl,k1 al ap Y H' (e1.trans e2) S2 (fin ap Y pv)⟩
end
noncomputable abbrev DSp:=List D->Mu->DK->Prop
noncomputable def spD(K:PySem.W.Frag)(dsp:DSp):Sp:=fun vs H Q _=>∃(ds:List D) (U:Mu) (Qd:DK),aV K U H/\fg K U H ds vs/\dsp ds U Qd /\
 (∀d u Y H',Ext K U H Y H'->aV K Y H'->RpD K Y H' d u->Qd d Y->Q u H')
noncomputable def ao(N:List Str)(ds:List D):Rho:=ds.map some++List.replicate (N.length-ds.length) none
theorem fg.get{K:PySem.W.Frag}{U:Mu}{H:Hp}{ds:List D}{us:List V}:∀{i:Nat} {d:D},fg K U H ds us->ds[i]? = some d->∃u,us[i]? = some u/\RpD K U H d u
 |_,_,.nil,h=>by simp at h
 |0,_,.cons r _,h=>by simp at h;subst h;exact⟨_,rfl,r⟩
 |i+1,d,.cons _ t,h=>by
  obtain⟨u,h1,h2⟩:=fg.get (i:=i) (d:=d) t (by simpa using h)
  exact⟨u,by simpa using h1,h2⟩
theorem rj{K:PySem.W.Frag}{U:Mu}{H:Hp}{N:List Str}{ds:List D}{vs:List V}(r:fg K U H ds vs):fD K U H (ao N ds) (start N vs):=by
 have hl:=r.length
 refine⟨by unfold ao start;simp[hl],fun i d e=>?_⟩
 unfold ao at e
 by_cases hi:i<ds.length
 ·rw[List.getElem?_append_left (by simpa using hi),getElem?_map] at e
  unfold start
  rw[List.getElem?_append_left (by simpa [hl] using hi),getElem?_map]
  cases q:ds[i]? with
  |none=>rw[q] at e;cases e
  |some d'=>
   rw[q] at e
   cases e
   obtain⟨u,h1,h2⟩:=r.get q
   exact⟨u,by rw[h1];rfl,h2⟩
 ·rw[List.getElem?_append_right (by simpa using hi),List.getElem?_replicate] at e
  split at e<;>cases e
section
variable {X:Cx}{e:Expr}{es:List Expr}{t:DTA}{p pos:Pos}{x:Str}{k:Nat}{f:Addr}{fd:FuncData}{ps:List Str}{dsp:DSp}
noncomputable def ah(dsp:DSp)(t:DTA):DTE:=fun ρ U Q=>t ρ U fun ds ac=>dsp ds ac Q
theorem D1(F:dW X.prog X.w X.K X.mg X.base CX0 k f fd ps (spD X.K dsp))(hr:bC k X.A)(hg:Gl X x)(hm:X.mg x=some (.ref f))(hk:keepIn X.K (.ref f)=true)(hb:Binds X.K fd ps [])
  (ha:DA X (e::es) t) (hdb:(x==("__debug__":Str))=false:=by decide) (he:starEach (e::es) X.env=(false,eval e X.env)::starEach es X.env:=by rfl) (hpl:(backTo pos (starEach es X.env)).any (·.1)=false:=by rfl) :
  DE X (.Call (.Name x p) (e::es) [] pos) (ah dsp t):=by
 obtain⟨t1,p1,l1⟩:=ha
 refine⟨_,xg F hr hg hm hk hb .nil Jp p1 hdb he hpl,fun Z H ρ U Qd Q S h kk=>?_⟩
 refine l1 Z H ρ U _ _ S h fun ds us ac H1 e1 S1 rs len h1=>?_
 refine⟨ds,ac,Qd,S1.mu,by rw[append_nil];exact rs,h1,fun d u Y H' e2 ok r q=>?_⟩
 exact kk d u Y H' (e1.trans e2) ⟨ok,S1.rho.ext S1.mu e2⟩ r q
end
section
variable {X:Cx}{o e:Expr}{to te:DTE}{apos cpos:Pos}
noncomputable def nk(to te:DTE):DTE:=fun ρ U Q=>to ρ U fun x ac=>match x with
 |.m l=>te ρ ac fun y ad=>(match y,ad l with
  |.v d,some xs=>xs.length<1000/\Q (.v .none) (aE ad l (xs++[d]))
  |_,_=>False)
 |_=>False
theorem zk(ho:DE X o to)(ha:DE X e te)(hbase:attributeBase o "append" X.env (eval o X.env)=eval o X.env:=by rfl)
  (hfew:((backTo cpos (starEach [e] X.env)).all (fun x=>!x.1)&&(backToKw cpos (keywordEach [] X.env)).all (fun x=>x.1.isSome)
   && decide ([e].length+([]:List Keyword).length+(if ([]:List Keyword).isEmpty then 0 else 1)<30))=true:=by rfl)
  (hline:(apos.endLine==cpos.line)=true:=by rfl) (hs:starEach [e] X.env=(false,eval e X.env)::starEach [] X.env:=by rfl) (hplain:(backTo cpos (starEach [] X.env)).any (·.1)=false:=by rfl) :
  DE X (.Call (.Attribute o "append" apos) [e] [] cpos) (nk to te):=by
 obtain⟨t1,p1,l1⟩:=ho
 obtain⟨t2,p2,l2⟩:=ha
 refine⟨_,z9 plainAttrs_list PySem.F.slot_list_append PySem.F.type_list_append qQ p1 (cT p2 iz hs) hbase hfew hline hs hplain,fun Z H ρ U Qd Q S h k=>?_⟩
 refine l1 Z H ρ U _ _ S h fun x ux ac H1 e1 S1 rx h1=>?_
 cases x with
 |m l=>
  obtain⟨rfl,ds,hm⟩:=id rx
  obtain⟨us,hl,rl⟩:=S1.mu l ds hm
  refine⟨.inl ⟨rfl,us,SqL.of hl⟩,?_⟩
  refine l2 Z H1 ρ ac _ _ S1 h1 fun y uy ad H2 e2 S2 ry h2=>?_
  obtain⟨_,ds2,hm2⟩:=rx.ext S1.mu e2
  obtain⟨us2,hl2,rl2⟩:=S2.mu l ds2 hm2
  rw[hm2] at h2
  cases y with
  |v d=>
   have h3:ds2.length<1000/\Qd (.v .none) (aE ad l (ds2++[d])):=h2
   refine⟨l,us2,uy,rfl,rfl,hl2,by rw[<- rl2.length];exact eu (Nat.le_of_lt h3.1),?_⟩
   have ex:Ext X.K ad H2 (aE ad l (ds2++[d])) (upd H2 l (.lst (us2++[uy]))):=fI hm2
   exact k (.v .none) .non _ _ (e1.trans (e2.trans ex)) ⟨S2.mu.set hm2 (rl2.append (.cons ry .nil)),S2.rho.ext S2.mu ex⟩ Rp.none h3.2
  |m _=>exact h2.elim
  |s _=>exact h2.elim
  |o _=>exact h2.elim
  |b _=>exact h2.elim
  |q _=>exact h2.elim
 |v d=>exact h1.elim
 |s ns=>exact h1.elim
 |o _=>exact h1.elim
 |b _=>exact h1.elim
 |q _=>exact h1.elim
noncomputable def yR(to te:DTE):DTE:=fun ρ U Q=>to ρ U fun x ac=>match x with
 |.m l=>te ρ ac fun y ad=>(match y,ad l with
  |.v (.list ys),some xs=>xs.length+ys.length<=1000/\Q (.v .none) (aE ad l (xs++ys))
  |_,_=>False)
 |_=>False
theorem ze(ho:DE X o to)(ha:DE X e te)(hbase:attributeBase o "extend" X.env (eval o X.env)=eval o X.env:=by rfl)
  (hfew:((backTo cpos (starEach [e] X.env)).all (fun x=>!x.1)&&(backToKw cpos (keywordEach [] X.env)).all (fun x=>x.1.isSome)
   && decide ([e].length+([]:List Keyword).length+(if ([]:List Keyword).isEmpty then 0 else 1)<30))=true:=by rfl)
  (hline:(apos.endLine==cpos.line)=true:=by rfl) (hs:starEach [e] X.env=(false,eval e X.env)::starEach [] X.env:=by rfl) (hplain:(backTo cpos (starEach [] X.env)).any (·.1)=false:=by rfl) :
  DE X (.Call (.Attribute o "extend" apos) [e] [] cpos) (yR to te):=by
 obtain⟨t1,p1,l1⟩:=ho
 obtain⟨t2,p2,l2⟩:=ha
 refine⟨_,z9 plainAttrs_list PySem.F.slot_list_extend PySem.F.type_list_extend yH p1 (cT p2 iz hs) hbase hfew hline hs hplain,fun Z H ρ U Qd Q S h k=>?_⟩
 refine l1 Z H ρ U _ _ S h fun x ux ac H1 e1 S1 rx h1=>?_
 cases x with
 |m l=>
  obtain⟨rfl,ds,hm⟩:=id rx
  obtain⟨us,hl,rl⟩:=S1.mu l ds hm
  refine⟨.inl ⟨rfl,us,SqL.of hl⟩,?_⟩
  refine l2 Z H1 ρ ac _ _ S1 h1 fun y uy ad H2 e2 S2 ry h2=>?_
  obtain⟨_,ds2,hm2⟩:=rx.ext S1.mu e2
  obtain⟨us2,hl2,rl2⟩:=S2.mu l ds2 hm2
  rw[hm2] at h2
  cases y with
  |v d=>
   cases d with
   |list ys=>
    have h3:ds2.length+ys.length<=1000/\Qd (.v .none) (aE ad l (ds2++ys)):=h2
    cases ry with
    |@list b ws _ hb hn rb=>
     refine⟨l,b,us2,ws,rfl,rfl,hl2,hb,tF (by rw[<- rl2.length,<- rb.length];exact h3.1),?_⟩
     have ex:Ext X.K ad H2 (aE ad l (ds2++ys)) (upd H2 l (.lst (us2++ws))):=fI hm2
     exact k (.v .none) .non _ _ (e1.trans (e2.trans ex)) ⟨S2.mu.set hm2 (rl2.append rb),S2.rho.ext S2.mu ex⟩ Rp.none h3.2
   |_=>exact h2.elim
  |m _=>exact h2.elim
  |s _=>exact h2.elim
  |o _=>exact h2.elim
  |b _=>exact h2.elim
  |q _=>exact h2.elim
 |v d=>exact h1.elim
 |s ns=>exact h1.elim
 |o _=>exact h1.elim
 |b _=>exact h1.elim
 |q _=>exact h1.elim
end
section
variable {K:PySem.W.Frag}{U Y:Mu}{H:Hp}
mutual
theorem Rp.shrink{d:PyData}{u:V}(sub:∀a,Y a=none->U a=none):Rp K Y H d u->Rp K U H d u
 |.none=>.none
 |.bool b=>.bool b
 |.int i=>.int i
 |.str x=>.str x
 |.list h n r=>.list h (sub _ n) (RpL.shrink sub r)
 |.tuple h r=>.tuple h (RpL.shrink sub r)
theorem RpL.shrink{ds:List PyData}{us:List V}(sub:∀a,Y a=none->U a=none):RpL K Y H ds us->RpL K U H ds us
 |.nil=>.nil
 |.cons h r=>.cons (Rp.shrink sub h) (RpL.shrink sub r)
end
theorem o8.shrink{c:Box}{o:Obj}(sub:∀a,Y a=none->U a=none)(r:o8 K Y H c o):o8 K U H c o:=by
 cases c with
 |dict kvs=>
  obtain⟨h1,h2,es,ep,xs,h3,h4,h5,h6⟩:=r
  exact⟨h1,h2,es,ep,xs,h3,h4,h5,Paired.Dq h6 fun p q ⟨z1,z2,v,z3,z4⟩=>⟨z1,z2,v,Rp.shrink sub z3,z4⟩⟩
 |set ks=>exact r
end
theorem EM{X:Cx}{e:Expr}{td:DTE}(h:∀(pins:List (Addr×Obj)) (s:Shared) (Z:St) (H:Hp) (ρ:Rho) (U:Mu) (Qd:DK) (Q:VK),Inv X pins Z H s->St0 X.K H ρ U Z->td ρ U Qd ->
  (∀d u Y H',Ext X.K U H Y H'->St0 X.K H' ρ Y Z->RpD X.K Y H' d u->Qd d Y->Q u H')->wpAny (model X.prog X.w) X.A (eval e X.env) (EP X pins Z Q) X.xe s):DE X e td:=
 ⟨fun Z H Q=>∃ρ U Qd,St0 X.K H ρ U Z/\td ρ U Qd/\(∀d u Y H',Ext X.K U H Y H'->St0 X.K H' ρ Y Z->RpD X.K Y H' d u->Qd d Y->Q u H'),
  fun pins s Z H Q I ⟨ρ,U,Qd,S,q,k⟩=>h pins s Z H ρ U Qd Q I S q k,fun Z H ρ U Qd Q S q k=>⟨ρ,U,Qd,S,q,k⟩⟩
noncomputable def aD(X:Cx)(N':List Str)(scope:Scope)(cl:List (Str×Addr))(fp:List Addr)(am:Shared)(bi:Hp):Cx:=
 {X with N:=N',db:=am,H₀:=bi,env:=compEnvC scope cl am.heap.objs.size X.env,outer:=X.stack,stack:=X.stack,ex:=fp,fn:=fun _=>false,pn:=X.pn,xe:=fun _ _=>False}
noncomputable def Le:Rho->Rho->Prop
 |[],[]=>True
 |none::r,_::r'=>Le r r'
 |some d::r,some d'::r'=>d=d'/\Le r r'
 |_,_=>False
theorem Le.get:∀{ρ ap:Rho},Le ρ ap->ρ.length=ap.length/\∀(i:Nat) d,ρ[i]? = some (some d)->ap[i]? = some (some d)
 |[],[],_=>⟨rfl,fun _ _ h=>h⟩
 |none::r,x::r',h=>by
  obtain⟨h1,h2⟩:=Le.get (ρ:=r) (ap:=r') h
  refine⟨congrArg (· + 1) h1,fun i d e=>?_⟩
  cases i with
  |zero=>simp at e
  |succ j=>exact h2 j d (by simpa using e)
 |some d::r,some d'::r',h=>by
  obtain⟨rfl,h⟩:=h
  obtain⟨h1,h2⟩:=Le.get (ρ:=r) (ap:=r') h
  refine⟨congrArg (· + 1) h1,fun i d e=>?_⟩
  cases i with
  |zero=>simpa using e
  |succ j=>exact h2 j d (by simpa using e)
 |some d::r,none::r',h=>h.elim
 |[],_::_,h=>h.elim
 |none::_,[],h=>h.elim
 |some _::_,[],h=>h.elim
noncomputable def bD{α:Type}(cap:List (Option Nat))(ρ:List (Option α)):List (Option α):=cap.map fun o=>o.bind fun j=>(ρ[j]?).join
noncomputable def fY(cap:List (Option Nat))(src:DTI)(g:DTG)(c:DTT)(elt:DTE):DTE:=fun ρ U Q=>src ρ U fun xs ac=>xs.length<=1000/\∃f:PyData->Option PyData,
 (∀x∈xs,∀Y:Mu,(∀a ds,ac a=some ds->Y a=some ds)->g (.v x) (bD cap ρ) Y fun cr ad=>Le (bD cap ρ) cr/\c cr ad fun b bn=>
  if b=true then elt cr bn fun d ce=>ce=Y/\(match d with|.v y=>f x=some y|_=>False) else bn=Y/\f x=none)/\Q (.v (.list (xs.filterMap f))) ac
noncomputable def jQ(X:Cx)(ifs:List Expr)(c:DTT):Prop:=∀(pins:List (Addr×Obj)) (s:Shared) (Z:St) (H:Hp) (ρ:Rho) (U:Mu) (Qd:Bool->Mu->Prop) (Q:Bool->Hp->Prop),Inv X pins Z H s->St0 X.K H ρ U Z->c ρ U Qd ->
 (∀b Y H',Ext X.K U H Y H'->St0 X.K H' ρ Y Z->Qd b Y->Q b H') ->
 wpAny (model X.prog X.w) X.A (forIn ifs true fun c r=>if r=true then do let ok <- isTrue c X.env (eval c X.env);pure (ForInStep.yield ok) else pure (ForInStep.yield r)) (TP X pins Z Q) X.xe s
noncomputable def aW:DTT:=fun _ U Q=>Q true U
theorem zO{X:Cx}:jQ X [] aW:=fun pins s Z H ρ U Qd Q I S h k=>wpAny_tests_nil ⟨H,I,k true U H .refl S h⟩
theorem AW{X:Cx}{c:Expr}{tc:DTT}(h:DT X c tc):jQ X [c] tc:=by
 obtain⟨t,p,l⟩:=h
 exact fun pins s Z H ρ U Qd Q I S h k=>wpAny_tests_one (p pins s Z H _ I (l Z H ρ U _ _ S h k))
theorem Un.after{fs ex:List Addr}{H H1:Hp}{h h1 h':Heap}(u:Un fs ex H H1 h h1)(k:∀b o,b<h.objs.size->h1.get? b=some o->h'.get? b=some o):Un fs ex H H1 h h':=
 ⟨fun b o e n hb hx=>k b o (Heap.lt_size e) (u.keep b o e n hb hx),fun b o e n hb hx=>let ⟨sl,q⟩:=u.slot b o e n hb hx;⟨sl,k b _ (Heap.lt_size e) q⟩,u.free,fun b o e hx=>let ⟨o',q⟩:=u.there b o e hx;⟨o',k b _ (Heap.lt_size e) q⟩,u.jL,u.js,u.jv⟩
theorem oJ{α:Type}{cap:List (Option Nat)}{ρ:List (Option α)}{i:Nat}{d:α}(h:(bD cap ρ)[i]? = some (some d)):∃j,cap[i]? = some (some j)/\ρ[j]? = some (some d):=by
 unfold bD at h
 rw[getElem?_map] at h
 cases q:cap[i]? with
 |none=>rw[q] at h;cases h
 |some o=>
  rw[q] at h
  cases o with
  |none=>cases h
  |some j=>
   refine⟨j,rfl,?_⟩
   simp only[map_some,bind_some,Option.some.injEq] at h
   cases z:ρ[j]? with
   |none=>rw[z] at h;cases h
   |some y=>rw[z] at h;simp only[join_some] at h;rw[h]
theorem AY{α:Type}{cap:List (Option Nat)}{ρ:List (Option α)}{i j:Nat}{d:α}(h:cap[i]? = some (some j))(e:ρ[j]? = some (some d)):(bD cap ρ)[i]? = some (some d):=by
 unfold bD
 rw[getElem?_map,h]
 simp[e]
theorem fD.cap{K:PySem.W.Frag}{U:Mu}{H:Hp}{ρ:Rho}{Z:St}{cap:List (Option Nat)}(r:fD K U H ρ Z):fD K U H (bD cap ρ) (bD cap Z):=by
 refine⟨by unfold bD;simp,fun i d e=>?_⟩
 obtain⟨j,h1,h2⟩:=oJ e
 obtain⟨u,h3,h4⟩:=r.2 j d h2
 exact⟨u,AY h1 h3,h4⟩
theorem fD.le{K:PySem.W.Frag}{U:Mu}{H:Hp}{ρ ap:Rho}{Z:St}(r:fD K U H ap Z)(l:Le ρ ap):fD K U H ρ Z:=
 ⟨l.get.1.trans r.1,fun i d e=>r.2 i d (l.get.2 i d e)⟩
theorem xS{xs:List PyData}{f:PyData->Option PyData}{i:Nat}{d:PyData}(h:xs[i]? = some d):(xs.take (i+1)).filterMap f=(xs.take i).filterMap f++(f d).toList:=by
 obtain⟨hi,e⟩:=List.getElem?_eq_some_iff.mp h
 rw[List.take_succ_eq_append_getElem hi,List.filterMap_append,e]
 cases q:f d<;>simp[q]
section
variable {X:Cx}{a b c:Expr}{ta tb tc:DTE}{pos:Pos}
noncomputable def jR(r r':D->D->Mu->DK->Prop)(ta tb tc:DTE):DTE:=fun ρ U Q=>ta ρ U fun x ac=>tb ρ ac fun y ad=>r x y ad fun z bn=>match z with
 |.v (.bool k)=>if k=true then tc ρ bn fun w ce=>r' y w ce Q else Q (.v (.bool false)) bn
 |_=>False
theorem Ax{op op':CmpOp}{rr rr':R2}{r r':D->D->Mu->DK->Prop}(ho:OpR X (compareOp op) rr)(lo:c7 X.K rr r)(ho':OpR X (compareOp op') rr')(lo':c7 X.K rr' r')(ha:DE X a ta)(hb:DE X b tb)(hc:DE X c tc)
  (hm:lastMarks [op,op'] [b,c]=false:=by with_unfolding_all rfl):DE X (.Compare a [op,op'] [b,c] pos) (jR r r' ta tb tc):=by
 obtain⟨t1,p1,l1⟩:=ha
 obtain⟨t2,p2,l2⟩:=hb
 obtain⟨t3,p3,l3⟩:=hc
 refine⟨_,BA ho ho' p1 p2 p3 hm,fun Z H ρ U Qd Q S h k=>?_⟩
 refine l1 Z H ρ U _ _ S h fun x ux ac H1 e1 S1 rx h1=>?_
 refine l2 Z H1 ρ ac _ _ S1 h1 fun y uy ad H2 e2 S2 ry h2=>?_
 refine lo x y ux uy H2 ad _ _ S2.mu (rx.ext S1.mu e2) ry h2 fun z uz bn H3 e3 ok3 rz h3=>?_
 have S3:St0 X.K H3 ρ bn Z:=⟨ok3,S2.rho.ext S2.mu e3⟩
 split at h3
 ·rename_i kk
  cases rz
  refine⟨kk,rfl,?_⟩
  cases kk with
  |true=>
   refine rO ?_
   refine l3 Z H3 ρ bn _ _ S3 (by simpa using h3) fun w uw ce H4 e4 S4 rw' h4=>?_
   exact lo' y w uy uw H4 ce _ _ S4.mu ((ry.ext S2.mu e3).ext S3.mu e4) rw' h4 fun d u Y H' e5 ok r q=>k d u Y H' (e1.trans (e2.trans (e3.trans (e4.trans e5)))) ⟨ok,S4.rho.ext S4.mu e5⟩ r q
  |false=>exact rE (k (.v (.bool false)) _ bn H3 (e1.trans (e2.trans e3)) S3 (Rp.bool false) (by simpa using h3))
 ·exact h3.elim
end
theorem ia{α:Type}{x:α}{xs:List α}:atI (x::xs) 0=some x:=by unfold atI ixN;simp
theorem i4{α:Type}{x y:α}{xs:List α}:atI (x::y::xs) 1=some y:=by
 have h:=fA (xs:=x::y::xs) (j:=1) (v:=y) rfl
 exact h
theorem jw{α:Type}{x y z:α}{xs:List α}:atI (x::y::z::xs) 2=some z:=by
 have h:=fA (xs:=x::y::z::xs) (j:=2) (v:=z) rfl
 exact h
theorem kJ{α:Type}{x y z u:α}{xs:List α}:atI (x::y::z::u::xs) 3=some u:=by
 have h:=fA (xs:=x::y::z::u::xs) (j:=3) (v:=u) rfl
 exact h
noncomputable def iR:D->D->Mu->DK->Prop:=fun x y U Q=>match x,y with
 |.v (.int i),.v (.int j)=>Q (.v (.int (i+j))) U
 |.v (.tuple xs),.v (.tuple ys)=>xs.length+ys.length<=1000/\Q (.v (.tuple (xs++ys))) U
 |_,_=>t9 x y U Q
theorem HM{K:PySem.W.Frag}:c7 K (fun x y H Q=>(rI0 fun i j=>.int (i+j)) x y H Q\/((vA K) x y H Q\/Gy x y H Q)) iR:=by
 intro x y ux uy H U Qd Q ok rx ry h k
 unfold iR at h
 split at h
 ·exact .inl (xE (K:=K) (gd:=fun i j=>.int (i+j)) (fun _ _ _ _=>.int _) _ _ ux uy H U Qd Q ok rx ry h k)
 ·exact .inr (.inl (B5 _ _ ux uy H U Qd Q ok rx ry h k))
 ·exact .inr (.inr (Hb _ _ ux uy H U Qd Q ok rx ry h k))
theorem DU{X:Cx}{a b:Expr}{ta tb:DTE}{pos:Pos}(ha:DE X a ta)(hb:DE X b tb):DE X (.BinOp a .Add b pos) (dOp iR ta tb):=pD (Ar.or (zH.or Gr)) HM ha hb
section
variable {ρ:Rho}{U:Mu}{Q:DK}{QT:Bool->Mu->Prop}{QA:List D->Mu->Prop}{QG:Rho->Mu->Prop}{QI:List PyData->Mu->Prop}{QO:Option Int->Mu->Prop}{Dd:gZ}{ta tb tc:DTE}{t u:DTT}{tA:DTA}{s1 s2:DTS}{i j:Int}{x y:PyData}{xs ys:List PyData}{d e:D}
noncomputable def iO:DTS:=fun _ _ _=>False
theorem Bx{X:Cx}{st:Stmt}:DS X st iO:=⟨fun _ _ _=>False,fun _ _ _ _ _ _ h=>h.elim,fun _ _ _ _ _ _ _ h=>h.elim⟩
theorem cm{o:Rho}:ae 0 (some d::o) U Q=Q d U:=propext Iff.rfl
theorem cw{a}{o:Rho}:ae 1 (a::some d::o) U Q=Q d U:=propext Iff.rfl
theorem cG{a b}{o:Rho}:ae 2 (a::b::some d::o) U Q=Q d U:=propext Iff.rfl
theorem dY{a b c}{o:Rho}:ae 3 (a::b::c::some d::o) U Q=Q d U:=propext Iff.rfl
theorem fO{a b c f}{o:Rho}:ae 4 (a::b::c::f::some d::o) U Q=Q d U:=propext Iff.rfl
theorem jc{a b c f g}{o:Rho}:ae 5 (a::b::c::f::g::some d::o) U Q=Q d U:=propext Iff.rfl
theorem i9{a b c f g h}{o:Rho}:ae 6 (a::b::c::f::g::h::some d::o) U Q=Q d U:=propext Iff.rfl
theorem iw{a b c f g h k}{o:Rho}:ae 7 (a::b::c::f::g::h::k::some d::o) U Q=Q d U:=propext Iff.rfl
theorem iJ{a b c f g h k l}{o:Rho}:ae 8 (a::b::c::f::g::h::k::l::some d::o) U Q=Q d U:=propext Iff.rfl
theorem iy{a b c f g h k l m}{o:Rho}:ae 9 (a::b::c::f::g::h::k::l::m::some d::o) U Q=Q d U:=propext Iff.rfl
theorem fv{a b c f g h k l m n}{o:Rho}:ae 10 (a::b::c::f::g::h::k::l::m::n::some d::o) U Q=Q d U:=propext Iff.rfl
theorem q_c:dC x ρ U Q=Q (.v x) U:=propext Iff.rfl
theorem zz{r}:dOp r ta tb ρ U Q=ta ρ U fun x ac=>tb ρ ac fun y ad=>r x y ad Q:=propext Iff.rfl
theorem q_B:dB ta ρ U QT=ta ρ U fun d ac=>match d with|.v (.bool k)=>QT k ac|_=>False:=propext Iff.rfl
theorem ur{C:Int->Int->Prop}{g:Int->Int->PyData}:rII C g (.v (.int i)) (.v (.int j)) U Q=(C i j/\Q (.v (g i j)) U):=propext Iff.rfl
theorem mK{g:Int->Int->PyData}:pT g (.v (.int i)) (.v (.int j)) U Q=Q (.v (g i j)) U:=propext Iff.rfl
theorem mX:u6 ta ρ U Q=ta ρ U fun x ac=>match x with|.v (.int i)=>Q (.v (.int (-i))) ac|_=>False:=propext Iff.rfl
theorem lR:gk t u ρ U QT=t ρ U fun c ac=>if c=true then u ρ ac QT else QT false ac:=propext Iff.rfl
theorem t5:gQ t u ρ U QT=t ρ U fun c ac=>if c=true then QT true ac else u ρ ac QT:=propext Iff.rfl
theorem iN:c6 t ρ U QT=t ρ U fun c ac=>QT (!c) ac:=propext Iff.rfl
theorem oi:dD ta tb ρ U Q=ta ρ U fun x ac=>match x with|.v (.bool c)=>if c=true then tb ρ ac Q else Q (.v (.bool false)) ac|_=>False:=propext Iff.rfl
theorem jf:xI ta ρ U Q=ta ρ U fun x ac=>match x with|.v (.bool c)=>Q (.v (.bool (!c))) ac|_=>False:=propext Iff.rfl
theorem Af:dIf t ta tb ρ U Q=t ρ U fun c ac=>if c=true then ta ρ ac Q else tb ρ ac Q:=propext Iff.rfl
theorem cO:ag ρ U QA=QA [] U:=propext Iff.rfl
theorem bI:aa ta tA ρ U QA=ta ρ U fun x ac=>tA ρ ac fun xs ad=>QA (x::xs) ad:=propext Iff.rfl
theorem kX:aO tA ρ U Q=tA ρ U fun ds ac=>match bB ds with|some xs=>Q (.v (.tuple xs)) ac|none=>False:=propext Iff.rfl
theorem j7:cL tA ρ U Q=tA ρ U fun ds ac=>match bB ds with|some xs=>Q (.v (.list xs)) ac|none=>False:=propext Iff.rfl
theorem jd:gY tA ρ U Q=tA ρ U fun ds ac=>match bB ds with|some xs=>∀p,ac p=none->Q (.m p) (aE ac p xs)|none=>False:=propext Iff.rfl
theorem km:bB []=some []:=by rw[bB]
theorem k9{r:List D}:bB (.v x::r)=(bB r).map (x::·):=by rw[bB]
theorem Bs{neg:Bool}:aJ neg (.v x) (.v y) U Q=(SeqAt.shaped x=true/\SeqAt.shaped y=true/\Q (.v (.bool (neg ^^ PyData.eqv x y))) U):=propext Iff.rfl
theorem kQ{neg:Bool}:aJ neg (.v (.int i)) (.v (.int j)) U Q=Q (.v (.bool (neg ^^ decide (i=j)))) U:=by
 have e:PyData.eqv (.int i) (.int j)=decide (i=j):=by simp[PyData.eqv];rfl
 rw[Bs,e]
 exact propext ⟨fun h=>h.2.2,fun h=>⟨rfl,rfl,h⟩⟩
theorem mz{neg:Bool}:aJ neg (.v (.tuple xs)) (.v (.tuple ys)) U Q=(SeqAt.shaped (.tuple xs)=true/\SeqAt.shaped (.tuple ys)=true/\Q (.v (.bool (neg ^^ PyData.eqv (.tuple xs) (.tuple ys)))) U):=propext Iff.rfl
theorem l4{neg:Bool}:aJ neg (.v (.list xs)) (.v (.list ys)) U Q=(SeqAt.shaped (.list xs)=true/\SeqAt.shaped (.list ys)=true/\Q (.v (.bool (neg ^^ PyData.eqv (.list xs) (.list ys)))) U):=propext Iff.rfl
theorem mB{neg a b:Bool}:aJ neg (.v (.bool a)) (.v (.bool b)) U Q=Q (.v (.bool (neg ^^ (a==b)))) U:=by
 have e:PyData.eqv (.bool a) (.bool b)=(a==b):=by cases a<;>cases b<;>simp[PyData.eqv]<;>rfl
 rw[Bs,e]
 exact propext ⟨fun h=>h.2.2,fun h=>⟨rfl,rfl,h⟩⟩
theorem mq{neg:Bool}:vW neg (.v x) (.v (.list ys)) U Q=(PyData.canLayAll0 ys=true/\x.canLay0=true/\PyData.depth x<=60/\Q (.v (.bool (neg ^^ ys.any fun b=>PyData.eqv b x))) U):=propext Iff.rfl
theorem hV:ai (.v (.list xs)) (.v (.int i)) U Q=(match atI xs i with|some d=>Q (.v d) U|none=>False):=propext Iff.rfl
theorem gn:ai (.v (.tuple xs)) (.v (.int i)) U Q=(match atI xs i with|some d=>Q (.v d) U|none=>False):=propext Iff.rfl
theorem mT{l:Addr}:ai (.m l) (.v (.int i)) U Q=(match U l with|some xs=>(match atI xs i with|some d=>Q (.v d) U|none=>False)|none=>False):=propext Iff.rfl
theorem mV{ns:List Int}:ai (.s ns) (.v (.int i)) U Q=(match atI ns i with|some d=>Q (.v (.int d)) U|none=>False):=propext Iff.rfl
theorem eK:ai (.v (.list (x::xs))) (.v (.int 0)) U Q=Q (.v x) U:=by rw[hV,ia]
theorem gB:ai (.v (.tuple (x::xs))) (.v (.int 0)) U Q=Q (.v x) U:=by rw[gn,ia]
theorem iS{z}:ai (.v (.list (z::x::xs))) (.v (.int 1)) U Q=Q (.v x) U:=by rw[hV,i4]
theorem fQ{z}:ai (.v (.tuple (z::x::xs))) (.v (.int 1)) U Q=Q (.v x) U:=by rw[gn,i4]
theorem iD{z w}:ai (.v (.list (z::w::x::xs))) (.v (.int 2)) U Q=Q (.v x) U:=by rw[hV,jw]
theorem gU{z w}:ai (.v (.tuple (z::w::x::xs))) (.v (.int 2)) U Q=Q (.v x) U:=by rw[gn,jw]
theorem iP{z w v}:ai (.v (.tuple (z::w::v::x::xs))) (.v (.int 3)) U Q=Q (.v x) U:=by rw[gn,kJ]
theorem mY:t9 d e U Q=(match fz U d,fz U e with|some xs,some ys=>xs.length+ys.length<=1000/\Q (.v (.list (xs++ys))) U|_,_=>False):=propext Iff.rfl
theorem i6:iR (.v (.tuple xs)) (.v (.tuple ys)) U Q=(xs.length+ys.length<=1000/\Q (.v (.tuple (xs++ys))) U):=propext Iff.rfl
theorem i5:iR (.v (.list xs)) (.v (.list ys)) U Q=(xs.length+ys.length<=1000/\Q (.v (.list (xs++ys))) U):=propext Iff.rfl
theorem ij{a:Addr}:iR (.m a) e U Q=t9 (.m a) e U Q:=propext Iff.rfl
theorem sV{tl th:DTO}:dSl ta tl th ρ U Q=ta ρ U fun x ac=>tl ρ ac fun l ad=>th ρ ad fun u bn=>Ay x l u bn Q:=propext Iff.rfl
theorem cW:fu ρ U QO=QO none U:=propext Iff.rfl
theorem gE:jJ ta ρ U QO=ta ρ U fun x ac=>match x with|.v (.int i)=>QO (some i) ac|_=>False:=propext Iff.rfl
theorem mG{lo hi:Option Int}:Ay (.v (.tuple xs)) lo hi U Q=Q (.v (.tuple (kW xs lo hi))) U:=propext Iff.rfl
theorem wj{rd}:dCB rd tA ρ U Q=tA ρ U fun ds ac=>rd ds ac Q:=propext Iff.rfl
theorem gK:a0 [.v (.list ys)] U Q=Q (.v (.int (ys.length:Nat))) U:=propext Iff.rfl
theorem iG:a0 [.v (.tuple ys)] U Q=Q (.v (.int (ys.length:Nat))) U:=propext Iff.rfl
theorem iI{ns:List Int}:a0 [.s ns] U Q=Q (.v (.int (ns.length:Nat))) U:=propext Iff.rfl
theorem gM{l:Addr}:a0 [.m l] U Q=(match U l with|some ys=>Q (.v (.int (ys.length:Nat))) U|none=>False):=propext Iff.rfl
theorem l7:jY [.v (.int i)] U Q=Q (.v (.int (i.natAbs:Nat))) U:=propext Iff.rfl
theorem u9{g:Int->Int->Int}:vf g [.v (.int i),.v (.int j)] U Q=Q (.v (.int (g i j))) U:=propext Iff.rfl
theorem iT{k:Bool}:jF [.v (.bool k)] U Q=Q (.v (.int (if k then 1 else 0))) U:=propext Iff.rfl
theorem fj:ly [.v (.tuple ys)] U Q=Q (.v (.list ys)) U:=propext Iff.rfl
theorem mI:kG [.v (.list ys)] U Q=(match a9 ys with|some bs=>Q (.v (.bool (bs.all id))) U|none=>False):=propext Iff.rfl
theorem mx{T:String}:o6 T ta ρ U Q=ta ρ U fun x ac=>match x with|.v d=>Q (.v (.bool (isT T d))) ac|_=>False:=propext Iff.rfl
theorem a8{n:Nat}:af n d ρ U QG=QG (ρ.set n (some d)) U:=propext Iff.rfl
theorem gH:bY [] ρ U QG=QG ρ U:=propext Iff.rfl
theorem d8{g:DTG}{gs:lr}:aA g gs (x::xs) ρ U QG=g (.v x) ρ U fun ms ac=>gs xs ms ac QG:=propext Iff.rfl
theorem gI{n:Nat}{gs:lr}:cj n gs (.v (.tuple xs)) ρ U QG=(xs.length=n/\gs xs ρ U QG):=propext Iff.rfl
theorem jb:xD ta tb d ρ U QG=ta ρ U fun o ac=>tb ρ ac fun i ad=>match o,i,d with
 |.m l,.v (.int k),.v x=>(match ad l with
  |some xs=>(match ixN xs.length k with
   |some j=>QG ρ (aE ad l (xs.set j x))
   |none=>False)
  |none=>False)
 |_,_,_=>False:=propext Iff.rfl
theorem qw{g:DTG}:az ta g Dd ρ U=ta ρ U fun d ac=>g d ρ ac Dd.nx:=propext Iff.rfl
theorem mi{i j:Nat}:nh i j tA Dd ρ U=tA ρ U fun ds ac=>match ds with|[v,w]=>Dd.nx ((ρ.set i (some v)).set j (some w)) ac|_=>False:=propext Iff.rfl
theorem iF:aF Dd ρ U=Dd.nx ρ U:=propext Iff.rfl
theorem hJ:ak s1 s2 Dd ρ U=s1 {Dd with nx:=s2 Dd} ρ U:=propext Iff.rfl
theorem kK:aC ta Dd ρ U=ta ρ U Dd.rt:=propext Iff.rfl
theorem i7:cA ta Dd ρ U=ta ρ U fun _ ac=>Dd.nx ρ ac:=propext Iff.rfl
theorem qT:aL t s1 s2 Dd ρ U=t ρ U fun b ac=>if b=true then s1 Dd ρ ac else s2 Dd ρ ac:=propext Iff.rfl
theorem fF:iO Dd ρ U=False:=propext Iff.rfl
theorem dq{dsp:DSp}:ah dsp tA ρ U Q=tA ρ U fun ds ac=>dsp ds ac Q:=propext Iff.rfl
theorem mM:nk ta tb ρ U Q=ta ρ U fun x ac=>match x with
 |.m l=>tb ρ ac fun y ad=>(match y,ad l with
  |.v d,some xs=>xs.length<1000/\Q (.v .none) (aE ad l (xs++[d]))
  |_,_=>False)
 |_=>False:=propext Iff.rfl
theorem mj:yR ta tb ρ U Q=ta ρ U fun x ac=>match x with
 |.m l=>tb ρ ac fun y ad=>(match y,ad l with
  |.v (.list ys),some xs=>xs.length+ys.length<=1000/\Q (.v .none) (aE ad l (xs++ys))
  |_,_=>False)
 |_=>False:=propext Iff.rfl
theorem b9:aW ρ U QT=QT true U:=propext Iff.rfl
theorem cN:aZ ta ρ U QI=ta ρ U fun d ac=>match d with|.v (.list xs)=>QI xs ac|_=>False:=propext Iff.rfl
theorem fJ:fK ta ρ U QI=ta ρ U fun d ac=>match d with|.v (.tuple xs)=>QI xs ac|_=>False:=propext Iff.rfl
theorem cX:dj tA ρ U QI=tA ρ U fun ds ac=>match ds with|[.v (.int j)]=>(-(2 ^ 62)<=j/\j<2 ^ 62)/\QI (iU 0 j.toNat) ac|_=>False:=propext Iff.rfl
theorem dE:wK tA ρ U QI=tA ρ U fun ds ac=>match ds with|[.v (.int i),.v (.int j)]=>(-(2 ^ 62)<=i/\i<2 ^ 62/\-(2 ^ 62)<=j/\j<2 ^ 62)/\QI (iU i (j-i).toNat) ac|_=>False:=propext Iff.rfl
theorem d6{src:DTI}{g:DTG}:gA src g s1 Dd ρ U=src ρ U fun xs ac=>∃Pv:Nat->Rho->Mu->Prop,Pv 0 ρ ac /\
 (∀i x ap Y,xs[i]? = some x->Pv i ap Y->g (.v x) ap Y fun cr ad=>s1 {Dd with nx:=Pv (i+1),ct:=Pv (i+1),bk:=Dd.nx} cr ad)/\(∀ap Y,Pv xs.length ap Y->Dd.nx ap Y):=propext Iff.rfl
theorem fM{cap:List (Option Nat)}{src:DTI}{g:DTG}:fY cap src g t ta ρ U Q=src ρ U fun xs ac=>xs.length<=1000/\∃f:PyData->Option PyData,
 (∀x∈xs,∀Y:Mu,(∀a ds,ac a=some ds->Y a=some ds)->g (.v x) (bD cap ρ) Y fun cr ad=>Le (bD cap ρ) cr/\t cr ad fun b bn=>
  if b=true then ta cr bn fun d ce=>ce=Y/\(match d with|.v y=>f x=some y|_=>False) else bn=Y/\f x=none)/\Q (.v (.list (xs.filterMap f))) ac:=propext Iff.rfl
theorem b0{α:Type}{r:List (Option α)}:bD [] r=[]:=rfl
theorem bU{α:Type}{o:Option Nat}{c:List (Option Nat)}{r:List (Option α)}:bD (o::c) r=(o.bind fun j=>(r[j]?).join)::bD c r:=rfl
theorem dz:Le [] []=True:=propext ⟨fun _=>trivial,fun h=>h⟩
theorem dG{r r':Rho}{o:Option D}:Le (none::r) (o::r')=Le r r':=propext Iff.rfl
theorem d7{r r':Rho}{d d':D}:Le (some d::r) (some d'::r')=(d=d'/\Le r r'):=propext Iff.rfl
theorem fk{α:Type}(p:α->Bool):∀xs:List α,a9 (xs.map fun x=>PyData.bool (p x))=some (xs.map p)
 |[]=>rfl
 |x::r=>by rw[map_cons,a9,fk p r];rfl
theorem d9{α β:Type}(p:α->β):∀xs:List α,xs.filterMap (fun x=>some (p x))=xs.map p
 |[]=>rfl
 |x::r=>by rw[filterMap_cons,d9 p r];rfl
theorem C1:oB t s1 Dd ρ U=(∃W:Nat->Rho->Mu->Prop,(∃m,W m ρ U)/\∀m ρ U,W m ρ U ->
 t ρ U fun b ac=>if b=true then s1 {Dd with nx:=fun ap Y=>∃m',m'<m/\W m' ap Y,ct:=fun ap Y=>∃m',m'<m/\W m' ap Y,bk:=Dd.nx} ρ ac else Dd.nx ρ ac):=propext Iff.rfl
end
theorem AF{α β:Type}[BEq α][LawfulBEq α]{x:α}{k:β}:∀{l:List (α×β)},l.lookup x=some k->(x,k)∈l
 |[],h=>by cases h
 |(y,j)::r,h=>by
  rw[lookup_cons] at h
  cases e:x==y with
  |true=>
   rw[e] at h
   simp only[Option.some.injEq] at h
   have:x=y:=eq_of_beq e
   subst this h
   exact mem_cons_self
  |false=>
   rw[e] at h
   exact mem_cons_of_mem _ (AF h)
noncomputable def cfK:NameKind->Bool
 |.cell=>true
 |.free=>true
 |_=>false
theorem An{names:List (Str×NameKind)}{cl:List (Str×Addr)}(h:(names.all fun y=>!(cfK y.2) || (cl.lookup y.1).isSome)=true)(x:Str)(hx:names.lookup x=some .cell\/names.lookup x=some .free):∃a,cl.lookup x=some a:=by
 rw[all_eq_true] at h
 have key:∀k,cfK k=true->names.lookup x=some k->∃a,cl.lookup x=some a:=fun k hk e=>by
  have q:=h _ (AF e)
  simp only[hk,Bool.not_true,Bool.false_or] at q
  exact Option.isSome_iff_exists.mp q
 rcases hx with e|e
 ·exact key _ rfl e
 ·exact key _ rfl e
noncomputable def Ak(X:Cx)(sc:Scope):List (Option Nat)->List Str->Prop
 |none::c,_::n=>Ak X sc c n
 |some j::c,x::n=>(X.N[j]? = some x/\Vis X.env.scope x/\X.env.kindOf x≠some .local/\((relabel sc X.env).names.lookup x=some .cell\/(relabel sc X.env).names.lookup x=some .free))/\Ak X sc c n
 |_,_=>True
theorem vE{X:Cx}{sc:Scope}:∀{c:List (Option Nat)} {n:List Str},Ak X sc c n->∀(i j:Nat) (x:Str),c[i]? = some (some j)->n[i]? = some x ->
  X.N[j]? = some x/\Vis X.env.scope x/\X.env.kindOf x≠some .local/\((relabel sc X.env).names.lookup x=some .cell\/(relabel sc X.env).names.lookup x=some .free)
 |[],_,_,i,j,x,h,_=>by simp at h
 |_::_,[],_,i,j,x,_,h=>by simp at h
 |none::c,y::n,k,0,j,x,h,_=>by simp at h
 |none::c,y::n,k,i+1,j,x,h,g=>vE (c:=c) (n:=n) k i j x (by simpa using h) (by simpa using g)
 |some l::c,y::n,k,0,j,x,h,g=>by
  simp only[getElem?_cons_zero,Option.some.injEq] at h g
  subst h g
  exact k.1
 |some l::c,y::n,k,i+1,j,x,h,g=>vE (c:=c) (n:=n) k.2 i j x (by simpa using h) (by simpa using g)
theorem LA{X:Cx}{sc:Scope}{j:Nat}{x:Str}(h1:X.N[j]? = some x:=by rfl)(h2:Vis X.env.scope x:=by first|exact Or.inl rfl|exact Or.inr (Or.inl rfl)|exact Or.inr (Or.inr rfl))(h3:X.env.kindOf x≠some .local:=by first|(intro z;cases z)|exact (fun z=>nomatch z))
  (h4:(relabel sc X.env).names.lookup x=some .cell\/(relabel sc X.env).names.lookup x=some .free:=by first|exact Or.inl rfl|exact Or.inr rfl):X.N[j]? = some x/\Vis X.env.scope x/\X.env.kindOf x≠some .local/\((relabel sc X.env).names.lookup x=some .cell\/(relabel sc X.env).names.lookup x=some .free):=⟨h1,h2,h3,h4⟩
noncomputable def eI(U:Mu)(p:Addr):Mu:=⟨fun b=>if b=p then none else U b,U.b⟩
theorem bV{U:Mu}{p b:Addr}(h:b≠p):eI U p b=U b:=if_neg h
theorem eJ{U:Mu}{p:Addr}:eI U p p=none:=if_pos rfl
noncomputable def aP(cap:List (Option Nat))(src:DTI)(g:DTG)(c:DTT)(elt:DTE):DTE:=fun ρ U Q=>src ρ U fun xs ac=>xs.length<=1000/\∀p,ac p=none->∃Pv:Nat->List PyData->Mu->Prop,Pv 0 [] (aE ac p []) /\
 (∀i x acc Y,xs[i]? = some x->Y p=some acc->Pv i acc Y->g (.v x) (bD cap ρ) Y fun cr ad=>Le (bD cap ρ) cr/\c cr ad fun b bn=>
  if b=true then elt cr bn fun d ce=>ce p=some acc/\(match d with|.v y=>Pv (i+1) (acc++[y]) (aE ce p (acc++[y]))|_=>False) else bn p=some acc/\Pv (i+1) acc bn) /\
 (∀acc Y,Pv xs.length acc Y->Y p=some acc->Q (.v (.list acc)) (eI Y p))
theorem ns_obj{h:Heap}{C:Addr}{m:Str->Option Value}(hn:h.Ns C m):∃o,h.get? C=some o/\∀v,o.data≠.cell v:=let ⟨o,es,ep,ho,hd,_⟩:=hn;⟨o,ho,fun v z=>by rw[hd] at z;cases z⟩
theorem DC{h h':Heap}{C:Addr}{m:Str->Option Value}(hn:h.Ns C m)(e:h'.get? C=h.get? C):h'.Ns C m:=let ⟨o,es,ep,ho,r⟩:=hn;⟨o,es,ep,e.trans ho,r⟩
theorem bF{cap:List (Option Nat)}{src:DTI}{g:DTG}{t:DTT}{ta:DTE}{ρ:Rho}{U:Mu}{Q:DK}:aP cap src g t ta ρ U Q=src ρ U fun xs ac=>xs.length<=1000/\∀p,ac p=none->∃Pv:Nat->List PyData->Mu->Prop,Pv 0 [] (aE ac p []) /\
 (∀i x acc Y,xs[i]? = some x->Y p=some acc->Pv i acc Y->g (.v x) (bD cap ρ) Y fun cr ad=>Le (bD cap ρ) cr/\t cr ad fun b bn=>
  if b=true then ta cr bn fun d ce=>ce p=some acc/\(match d with|.v y=>Pv (i+1) (acc++[y]) (aE ce p (acc++[y]))|_=>False) else bn p=some acc/\Pv (i+1) acc bn) /\
 (∀acc Y,Pv xs.length acc Y->Y p=some acc->Q (.v (.list acc)) (eI Y p)):=propext Iff.rfl
theorem cf{U:Mu}{p:Addr}{ds:List PyData}(h:U p=none):eI (aE U p ds) p=U:=Mu.eq (fun b=>by
 by_cases e:b=p
 ·rw[e,eJ,h]
 ·rw[bV e,au e]) fun _=>rfl
theorem E2{xs:List PyData}{f:PyData->Option PyData}{i:Nat}{d:PyData}(h:xs[i]? = some d):(xs.take (i+1)).filterMap f=(xs.take i).filterMap f++(f d).toList:=xS h
theorem Inv.vF{X:Cx}{pins:List (Addr×Obj)}{Z:St}{H:Hp}{s:Shared}{h':Heap}{t':Nat}{ch:List Addr}{a:Addr}{o:HO}(I:Inv X pins Z H s)(hc:∀b∈ch,pS X pins H b)
  (k:∀b u,b ∉ ch->s.heap.get? b=some u->h'.get? b=some u) (hp:s.heap.objs.size<=a) (new:dQ X.prog X.w (upd H a o) h' a o):Inv X pins Z (upd H a o) {s with heap:=h',toks:=t'}:=by
 have hn:=I.hok.fresh hp
 have nin:∀b u,H b=some u->b ∉ ch:=fun b u e z=>by rw[(hc b z).1] at e;cases e
 refine I.call (g':=s.gens) (d':=s.drawn) (t':=t') (ch:=ch) ?_ ?_ I.bare fun b hb=>?_
 ·exact⟨fun b u q _ _ x=>k b u x q,fun b u q _ _ x=>⟨u.slots,k b u x q⟩,fun b u q n _=>by rw[aG (Nat.ne_of_lt (lt_of_lt_of_le (Heap.lt_size q) hp))];exact n,fun b u q x=>⟨u,k b u x q⟩,
   fun b xs q=>by rw[aG (av q hn)];exact q,fun b u xs q=>by rw[aG (av q hn)];exact q,fun b ps q=>⟨#[],by rw[aG (av q hn),q];simp⟩⟩
 ·intro b u e
  by_cases hb:b=a
  ·subst hb;rw[bj] at e;cases e;exact new
  ·rw[aG hb] at e
   refine (I.hok b u e).nc (fun c v hcv q=>k c v ?_ q) (fun c q=>by rw[aG (av q hn)];exact q) fun c xs q=>by rw[aG (av q hn)];exact q
   rcases hcv with z|z
   ·rw[z];exact nin b u e
   ·exact nin c _ z
 ·obtain⟨_,f1,f2,f3,f4,f5⟩:=hc b hb
  exact⟨f3,f1,f4,f5⟩
theorem Inv.C5{X:Cx}{pins:List (Addr×Obj)}{Z:St}{H:Hp}{s:Shared}{h':Heap}{t':Nat}{ch:List Addr}(I:Inv X pins Z H s)(hc:∀b∈ch,pS X pins H b)
  (k:∀b u,b ∉ ch->s.heap.get? b=some u->h'.get? b=some u):Inv X pins Z H {s with heap:=h',toks:=t'}:=by
 have nin:∀b u,H b=some u->b ∉ ch:=fun b u e z=>by rw[(hc b z).1] at e;cases e
 refine I.call (g':=s.gens) (d':=s.drawn) (t':=t') (ch:=ch) ?_ ?_ I.bare fun b hb=>?_
 ·exact⟨fun b u q _ _ x=>k b u x q,fun b u q _ _ x=>⟨u.slots,k b u x q⟩,fun b u q n _=>n,fun b u q x=>⟨u,k b u x q⟩,fun b xs q=>q,fun b u xs q=>q,fun b ps q=>⟨#[],by rw[q];simp⟩⟩
 ·intro b u e
  refine (I.hok b u e).nc (fun c v hcv q=>k c v ?_ q) (fun c q=>q) fun c xs q=>q
  rcases hcv with z|z
  ·rw[z];exact nin b u e
  ·exact nin c _ z
 ·obtain⟨_,f1,f2,f3,f4,f5⟩:=hc b hb
  exact⟨f3,f1,f4,f5⟩
section
variable {X:Cx}{es:List Expr}{x1:Nat}{tpos:Pos}
noncomputable def fX:List PyData->List PyData->List PyData
 |x::xs,y::ys=>.tuple [x,y]::fX xs ys
 |_,_=>[]
theorem vk:∀{xs ys:List PyData} {i:Nat} {x y:PyData},xs[i]? = some x->ys[i]? = some y->(fX xs ys)[i]? = some (.tuple [x,y])
 |_::_,_::_,0,x,y,h,g=>by simp at h g;subst h g;rfl
 |_::xs,_::ys,i+1,x,y,h,g=>vk (xs:=xs) (ys:=ys) (i:=i) (by simpa using h) (by simpa using g)
 |[],_,i,x,y,h,_=>by simp at h
 |_::_,[],i,x,y,_,h=>by simp at h
theorem j4:∀(xs ys:List PyData),(fX xs ys).length=min xs.length ys.length
 |[],_=>by simp[fX]
 |_::_,[]=>by simp[fX]
 |_::xs,_::ys=>by simp[fX,j4 xs ys]
end
section
variable {X:Cx}{a b e:Expr}{es:List Expr}{ta tb te:DTE}{t:DTA}{p pos:Pos}
noncomputable def cQ:List D->Mu->DK->Prop:=fun xs U Q=>match xs with
 |[.v (.list ys)]=>Q (.v (.tuple ys)) U
 |[.v (.tuple ys)]=>Q (.v (.tuple ys)) U
 |[.m l]=>(match U l with|some ys=>Q (.v (.tuple ys)) U|none=>False)
 |_=>False
theorem A2{K:PySem.W.Frag}:gh K (fun xs H Q=>∃p ys,xs=[.ref p]/\((SqL K H p ys/\∀l,H l=none->Q (.ref l) (upd H l (.tup ys)))\/(SqT K H p ys/\Q (.ref p) H))) cQ:=by
 intro xs us H U Qd Q ok rs h k
 unfold cQ at h
 split at h
 ·cases rs with
  |cons r1 r2=>
   cases r2
   cases r1 with
   |list hs hn r=>exact⟨_,_,rfl,.inl ⟨SqL.of hs,fun l hl=>k (.v _) _ U _ (bG hl) (ok.new hl) (dm ok r hl) h⟩⟩
 ·cases rs with
  |cons r1 r2=>
   cases r2
   cases id r1 with
   |tuple hs r=>exact⟨_,_,rfl,.inr ⟨hs,k (.v _) _ U H .refl ok r1 h⟩⟩
 ·cases rs with
  |cons r1 r2=>
   cases r2
   obtain⟨rfl,ds,hm⟩:=r1
   rw[hm] at h
   obtain⟨us,hl,r⟩:=ok _ ds hm
   exact⟨_,_,rfl,.inl ⟨SqL.of hl,fun l hl'=>k (.v _) _ U _ (bG hl') (ok.new hl') (dm ok r hl') h⟩⟩
 ·exact h.elim
theorem Aj(hg:Gl X "tuple")(hm:X.mg "tuple"=none)(ha:DA X (e::es) t)
  (he:starEach (e::es) X.env=(false,eval e X.env)::starEach es X.env:=by rfl) (hpl:(backTo pos (starEach es X.env)).any (·.1)=false:=by rfl):DE X (.Call (.Name "tuple" p) (e::es) [] pos) (dCB cQ t):=
 lE qh A2 hg hm PyProof.Rows.Boot.«tuple» ha ⋯ ⋯ he hpl
theorem dJ{ys:List PyData}{U:Mu}{Q:DK}:cQ [.v (.list ys)] U Q=Q (.v (.tuple ys)) U:=propext Iff.rfl
theorem dF{l:Addr}{U:Mu}{Q:DK}:cQ [.m l] U Q=(match U l with|some ys=>Q (.v (.tuple ys)) U|none=>False):=propext Iff.rfl
end
section
variable {prog:Program}{w:World}{A:Around}{E:Value->Shared->Prop}{s:Shared}
theorem vB{it t:Addr}{i:Nat}{items:Array Value}{x:Value}{Q:Value->Shared->Prop}(hit:IsTupIter s.heap it t i)(ht:IsTup s.heap t items)(hx:items[i]? = some x)
  (k:∀h',IsTupIter h' it t (i+1)->Heap.SameBut it s.heap h'->Q x {s with heap:=h'}):wpAny (model prog w) A (Builtin.SmallTypes.nextOf (.ref it)) Q E s:=by
 obtain⟨o,ho,hc,hd⟩:=id hit
 obtain⟨ol,hol,_,nl,hdl⟩:=ht
 unfold Builtin.SmallTypes.nextOf
 refine wpAny_bind (wpAny_callSpecial?_slot (name:=Str.ofString "__next__") hit.typeIs slot_tupleiter_next (wpAny_call_entry slot_tupleiter_next hit.typeIs entry_tupleiter_next ?_ (args_tupleiter_next _)))
 show wpAny _ _ (field (.ref it) 0>>=_) _ _ s
 refine wpAny_bind (wpAny_field ho hd (x:=.ref t) rfl ?_)
 show wpAny _ _ (if (Value.ref t==Value.none)=true then _ else _) _ _ s
 rw[if_neg (show ¬ ((Value.ref t==Value.none)=true) from Bool.false_ne_true)]
 refine wpAny_bind (wpAny_field ho hd (x:=.int i 0) rfl (wpAny_bind (m:=seqItems? (.ref t)) (wpAny_seqItems hol hdl ?_)))
 simp only[Int.toNat_natCast,hx]
 refine wpAny_bind (wpAny_setField ho hd (by simp) (wpAny_pure ⟨x,rfl,wpAny_pure (k _ ⟨_,Heap.get?_update_self _ ho (Obj.isFreed_of_fields (Obj.data_mapFields hd _)),(Obj.cls_mapFields ..).trans hc,?_⟩ (Heap.SameBut.update ..))⟩))
 rw[Obj.data_mapFields hd]
 simp[rawInt]
theorem uX{it t:Addr}{i:Nat}{items:Array Value}{Q:Value->Shared->Prop}(hh:A.handled=none)(hit:IsTupIter s.heap it t i)(ht:IsTup s.heap t items)(hx:items[i]? = none)
  (k:∀h' e,Heap.ExtBut it s.heap h'->(∃o,h'.get? e=some o/\o.cls = .type "StopIteration")->E (.ref e) {s with heap:=h'}):wpAny (model prog w) A (Builtin.SmallTypes.nextOf (.ref it)) Q E s:=by
 obtain⟨o,ho,hc,hd⟩:=id hit
 obtain⟨ol,hol,_,nl,hdl⟩:=ht
 unfold Builtin.SmallTypes.nextOf
 refine wpAny_bind (wpAny_callSpecial?_slot (name:=Str.ofString "__next__") hit.typeIs slot_tupleiter_next (wpAny_call_entry slot_tupleiter_next hit.typeIs entry_tupleiter_next ?_ (args_tupleiter_next _)))
 show wpAny _ _ (field (.ref it) 0>>=_) _ _ s
 refine wpAny_bind (wpAny_field ho hd (x:=.ref t) rfl ?_)
 show wpAny _ _ (if (Value.ref t==Value.none)=true then _ else _) _ _ s
 rw[if_neg (show ¬ ((Value.ref t==Value.none)=true) from Bool.false_ne_true)]
 refine wpAny_bind (wpAny_field ho hd (x:=.int i 0) rfl (wpAny_bind (m:=seqItems? (.ref t)) (wpAny_seqItems hol hdl ?_)))
 simp only[Int.toNat_natCast,hx]
 refine wpAny_bind (wpAny_rule (wpAny_bind (wpAny_setField ho hd (by simp) ?_)))
 show wpAny _ _ (newExc (.type "StopIteration") []>>=_) _ _ _
 refine wpAny_bind ?_
 simp only[newExc,newTuple]
 refine wpAny_bind (wpAny_newObj_type ?_ (by size_fits))
 refine wpAny_bind (m:=firstArgMember _ _) (wpAny_of_eq (a:=Value.none) (by first|rfl|(simp only[firstArgMember];rfl)) ?_)
 refine wpAny_newObj_type ?_ (by size_fits)
 simp only[raiseNew]
 refine wpAny_bind (wpAny_handled ?_)
 first|rw[show A.in1.handled=none from hh]|rw[hh]
 refine wpAny_bind (wpAny_pure (wpAny_throw ?_))
 refine k _ _ (fun c o hc' e=>?_) ⟨_,Heap.get?_push_size _ rfl,rfl⟩
 exact Heap.get?_push_of_some _ (Heap.get?_push_of_some _ ((Heap.SameBut.update ..).extBut _ _ hc' e))
theorem BQ{z TI TO i1 i2:Addr}{x y a b:Value}{st1 st2:Heap->Prop}{Q:Value->Shared->Prop}(TIz:TI≠z)(TOz:TO≠z)(i1z:i1≠z)(i2z:i2≠z)(TOi1:TO≠i1)(TOi2:TO≠i2)
  (hz:IsZip s.heap z TI TO .none) (hTI:IsPair s.heap TI (.ref i1) (.ref i2)) (hTO:IsPair s.heap TO a b)
  (n1:∀h,Heap.SameBut z s.heap h->∀(R:Value->Shared->Prop) (E':Value->Shared->Prop),(∀h',st1 h'->Heap.SameBut i1 h h'->R x {s with heap:=h'})->wpAny (model prog w) A (Builtin.SmallTypes.nextOf (.ref i1)) R E' {s with heap:=h})
  (n2:∀h h1,st1 h1->Heap.SameBut z s.heap h->Heap.SameBut i1 h h1->∀h2,Heap.SameBut TO h1 h2->∀(R:Value->Shared->Prop) (E':Value->Shared->Prop),(∀h',st2 h'->Heap.SameBut i2 h2 h'->R y {s with heap:=h'})->wpAny (model prog w) A (Builtin.SmallTypes.nextOf (.ref i2)) R E' {s with heap:=h2})
  (k:∀h1 h2 h3 h4 h',st1 h1->Heap.SameBut TO h1 h2->Heap.SameBut i2 h2 h3->st2 h3->Heap.SameBut TO h3 h4->(∀c o,c≠z->h4.get? c=some o->h'.get? c=some o)->IsZip h' z TI TO (rawInt s.heap.objs.size)->IsPair h' TO x y->IsPair h' s.heap.objs.size x y->h'.objs.size=s.heap.objs.size+1 ->
   (∀c o,c≠z->c≠TO->c≠i1->c≠i2->s.heap.get? c=some o->h'.get? c=some o)->Q (.ref s.heap.objs.size) {s with heap:=h'}) :
  wpAny (model prog w) A (Builtin.«zip.__next__» ⟨[.ref z],[]⟩) (fun fin s'=>∃v,fin = .done (.ret v)/\Q v s') E s:=by
 show wpAny _ _ (field (.ref z) 2>>=_) _ _ _
 refine wpAny_bind (wpAny_field hz rfl (x:=.bool false) rfl ?_)
 show wpAny _ _ (field (.ref z) 3>>=_) _ _ _
 refine wpAny_bind (wpAny_field hz rfl (x:=.ref TI) rfl (wpAny_bind (wpAny_seqItems hTI rfl ?_)))
 show wpAny _ _ (Builtin.SmallTypes.ownedTupleIsFree (.ref z)>>=_) _ _ _
 refine wpAny_bind ?_
 unfold Builtin.SmallTypes.ownedTupleIsFree
 refine wpAny_bind (wpAny_field hz rfl (x:=.none) rfl (wpAny_pure ?_))
 simp only[if_true]
 refine wpAny_bind (wpAny_rule (wpAny_bind (wpAny_field hz rfl (x:=.ref TO) rfl (wpAny_bind (wpAny_setField_rec hz (by simp) fun h1 z1 b1=>wpAny_bind ?_)))))
 simp only[List.zipIdx_cons,List.zipIdx_nil,List.forIn_cons,List.forIn_nil]
 refine wpAny_bind (wpAny_bind (wpAny_onRaise ?_))
 show wpAny _ _ (Builtin.SmallTypes.nextOf (.ref i1)>>=_) _ _ _
 refine wpAny_bind (n1 h1 b1 _ _ fun h2 s2 b2=>wpAny_pure ?_)
 have o2:IsPair h2 TO a b:=b2.extBut _ _ TOi1 (b1.extBut _ _ TOz hTO)
 refine wpAny_bind (wpAny_seqItems o2 rfl (wpAny_bind (wpAny_updateSeq_pair o2 fun h3 o3 b3=>wpAny_bind (wpAny_letGo (wpAny_pure ?_)))))
 replace o3:IsPair h3 TO x b:=o3
 refine wpAny_bind (wpAny_bind (wpAny_onRaise ?_))
 show wpAny _ _ (Builtin.SmallTypes.nextOf (.ref i2)>>=_) _ _ _
 refine wpAny_bind (n2 h1 h2 s2 b1 b2 h3 b3 _ _ fun h4 s4 b4=>wpAny_pure ?_)
 have o4:IsPair h4 TO x b:=b4.extBut _ _ TOi2 o3
 refine wpAny_bind (wpAny_seqItems o4 rfl (wpAny_bind (wpAny_updateSeq_pair o4 fun h5 o5 b5=>wpAny_bind (wpAny_letGo (wpAny_pure (wpAny_pure ?_))))))
 replace o5:IsPair h5 TO x y:=o5
 refine wpAny_bind (wpAny_seqItems o5 rfl (wpAny_bind (wpAny_newTuple ?_)))
 have sz:h5.objs.size=s.heap.objs.size:=by rw[b5.1,b4.1,b3.1,b2.1,b1.1]
 have z5:IsZip h5 z TI TO .ellipsis:=b5.extBut _ _ TOz.symm (b4.extBut _ _ i2z.symm (b3.extBut _ _ TOz.symm (b2.extBut _ _ i1z.symm z1)))
 have zl:z<h5.objs.size:=Heap.lt_size z5
 show wpAny _ _ (Builtin.SmallTypes.ownedTupleHandOut (.ref z) (.ref h5.objs.size)>>=_) _ _ _
 refine wpAny_bind ?_
 unfold Builtin.SmallTypes.ownedTupleHandOut
 refine wpAny_bind (wpAny_setField_rec (show IsZip (h5.push {cls:=.type "tuple",data:=.seq #[x,y]}) z TI TO .ellipsis from Heap.get?_push_of_some _ z5) (by simp) fun h7 z7 b7=>?_)
 replace z7:IsZip h7 z TI TO (rawInt h5.objs.size):=z7
 refine wpAny_setField_rec z7 (by simp) fun h8 z8 b8=>?_
 replace z8:IsZip h8 z TI TO (rawInt h5.objs.size):=z8
 have up:∀c o,c≠z->h5.get? c=some o->h8.get? c=some o:=fun c o c1 e=>b8.extBut _ _ c1 (b7.extBut _ _ c1 (Heap.get?_push_of_some _ e))
 have t8:IsPair h8 h5.objs.size x y:=b8.extBut _ _ (Nat.ne_of_gt zl) (b7.extBut _ _ (Nat.ne_of_gt zl) (Heap.get?_push_size _ rfl))
 have l8:h8.objs.size=h5.objs.size+1:=by rw[b8.1,b7.1,Heap.size_push]
 rw[sz] at z8 t8 l8
 refine wpAny_pure ⟨_,rfl,?_⟩
 show Q (.ref h5.objs.size) _
 rw[sz]
 exact k h2 h3 h4 h5 h8 s2 b3 b4 s4 b5 up z8 (up _ _ TOz o5) t8 l8 fun c o c1 c2 c3 c4 e=>up c o c1 (b5.extBut _ _ c2 (b4.extBut _ _ c4 (b3.extBut _ _ c2 (b2.extBut _ _ c3 (b1.extBut _ _ c1 e)))))
theorem oK{h h':Heap}{a t:Addr}{i:Nat}(x:IsTupIter h a t i)(e:∀o,h.get? a=some o->h'.get? a=some o):IsTupIter h' a t i:=let ⟨o,ho,r⟩:=x;⟨o,e _ ho,r⟩
end
section
variable {X:Cx}{es:List Expr}{x1:Nat}{tpos:Pos}
noncomputable def Lk(t:DTA):DTI:=fun ρ U Q=>t ρ U fun ds ac=>match ds with
 |[.v (.tuple xs),.v (.tuple ys)]=>Q (fX xs ys) ac
 |_=>False
end
section
variable {X:Cx}{es:List Expr}{pos:Pos}
noncomputable def K5(K:PySem.W.Frag)(n:Nat)(t:TGs):TG:=fun v Z H Q=>∃a xs,v = .ref a/\SqL K H a xs/\xs.length=n/\t xs Z H Q
theorem Io{k:Nat}{t:TGs}{n:Nat}(hc:X.calm=true)(h:PGs X es t)
  (hn:(assignEach es X.env).length=n:=by rfl) (hst:(assignEach es X.env).findIdx? (·.1)=none:=by rfl):PG X (.Tuple es k pos) (K5 X.K n t):=by
 intro pins s Z H v u Q I r hw
 obtain⟨a,xs,e1,hq,hl,hw⟩:=hw
 subst e1
 cases r
 obtain⟨its,rv,p,_⟩:=I.list hq
 rw[assign_Tuple]
 refine wpAny_bind (wpAny_standAt ?_)
 unfold unpack
 rw[hst,show (assignEach es X.env).length=its.toArray.size by simp[hn,<- hl,rv.length]]
 refine wpAny_bind (wpAny_holding (PySem.W.kun_itemsOf (I.ok.hd hc) p.isList fun h' hx=>?_))
 have I1:Inv X pins Z H {s with heap:=h'}:=I.kept (t':=s.toks) fun b o e=>hx b o (Nat.ne_of_lt (Heap.lt_size e)) e
 exact h pins _ Z H xs _ Q I1 (by simpa using rv) hw
noncomputable def yf(n:Nat)(gs:lr):DTG:=fun d ρ U Q=>match d with
 |.v (.list xs)=>xs.length=n/\gs xs ρ U Q
 |_=>False
theorem Fh{k n:Nat}{gs:lr}(hc:X.calm=true)(h:DGs X es gs)
  (hn:(assignEach es X.env).length=n:=by rfl) (hst:(assignEach es X.env).findIdx? (·.1)=none:=by rfl):DG X (.Tuple es k pos) (yf n gs):=by
 obtain⟨t1,p1,l1⟩:=h
 refine⟨_,Io hc p1 hn hst,fun Z H ρ U d u Qd Q S r h k=>?_⟩
 unfold yf at h
 split at h
 ·cases r with
  |@list a us _ ha hn' ra=>exact⟨a,us,rfl,SqL.of ha,by rw[<- ra.length];exact h.1,l1 Z H ρ U _ us _ _ S ra h.2 k⟩
 ·exact h.elim
theorem j9{n:Nat}{gs:lr}{xs:List PyData}{ρ:Rho}{U:Mu}{Q:Rho->Mu->Prop}:yf n gs (.v (.list xs)) ρ U Q=(xs.length=n/\gs xs ρ U Q):=propext Iff.rfl
end
theorem cl1{k:Str}{v:Addr}{r:List (Str×Addr)}{x:Str}{a:Addr}(h:List.lookup x [(k,v)]=some a):List.lookup x ((k,v)::r)=some a:=by
 simp only[lookup_cons] at h ⊢
 cases e:x==k with
 |true=>rw[e] at h;exact h
 |false=>rw[e] at h;exact absurd h (by simp)
theorem cl2{k k':Str}{v v':Addr}{r:List (Str×Addr)}{x:Str}{a:Addr}(n:(k==k')=false)(h:List.lookup x [(k,v)]=some a):List.lookup x ((k',v')::(k,v)::r)=some a:=by
 have g:=cl1 (r:=r) h
 simp only[lookup_cons] at h
 cases e:x==k with
 |true=>
  have e':x=k:=by simpa using e
  subst e'
  rw[lookup_cons,n]
  exact g
 |false=>rw[e] at h;exact absurd h (by simp)
section
variable {X:Cx}{e:Expr}{es:List Expr}{t:DTA}{p pos:Pos}
theorem nM:∀{ns:List Int} {us:List Value},Vals (ns.map V.int) us->PyProof.Rows.IntsAre us ns
 |[],_,.nil=>.nil
 |n::r,_,.cons h t=>by obtain⟨tk,rfl⟩:=h;exact .cons n tk (nM t)
theorem yJ(hc:X.calm=true):dP X (.builtin "sum") (fun xs H Q=>∃(p:Addr) (ns:List Int),xs=[.ref p]/\H p=some (.lst (ns.map V.int))/\Q (.int ns.sum) H):=by
 intro pins s Z H xs us Q I r h
 obtain⟨l,ns,rfl,hl,q⟩:=h
 obtain⟨u,rfl,rx⟩:=vals1 r
 cases rx
 obtain⟨its,rv,pl,_⟩:=I.list (SqL.of hl)
 have hi:=nM rv
 have hL:=pl.isList
 obtain⟨xs,hx⟩:=hi.allInts.items
 have hn:numsOf its.toArray.toList=ns:=by rw[show its.toArray.toList=its from rfl,hi.numsOf]
 rw[hx] at hL hn
 rw[nums_intItems] at hn
 refine sum_intListG (I.ok.hd hc) hL fun h' tk t' hk=>?_
 rw[preSum_eq,List.take_of_length_le (by simp),hn]
 exact⟨.int ns.sum,H,I.kept hk,⟨_,rfl⟩,q⟩
noncomputable def aT:List PyData->Option (List Int)
 |[]=>some []
 |.int b::r=>(aT r).map (b::·)
 |_::_=>none
theorem jl{K:PySem.W.Frag}{U:Mu}{H:Hp}:∀{xs:List PyData} {us:List V} {bs:List Int},RpL K U H xs us->aT xs=some bs->us=bs.map V.int
 |_,_,_,.nil,e=>by cases e;rfl
 |.int b::r,_,bs,.cons h t,e=>by
  simp only[aT] at e
  cases q:aT r with
  |none=>rw[q] at e;cases e
  |some cs=>rw[q] at e;cases e;cases h;rw[jl t q];rfl
 |.none::r,_,bs,.cons h t,e=>by simp[aT] at e
 |.bool _::r,_,bs,.cons h t,e=>by simp[aT] at e
 |.str _::r,_,bs,.cons h t,e=>by simp[aT] at e
 |.list _::r,_,bs,.cons h t,e=>by simp[aT] at e
 |.tuple _::r,_,bs,.cons h t,e=>by simp[aT] at e
 |.dict _::r,_,bs,.cons h t,e=>by simp[aT] at e
noncomputable def mQ:List D->Mu->DK->Prop:=fun xs U Q=>match xs with
 |[.v (.list ys)]=>(match aT ys with|some bs=>Q (.v (.int bs.sum)) U|none=>False)
 |_=>False
theorem HC{K:PySem.W.Frag}:gh K (fun xs H Q=>∃(p:Addr) (ns:List Int),xs=[.ref p]/\H p=some (.lst (ns.map V.int))/\Q (.int ns.sum) H) mQ:=by
 intro xs us H U Qd Q ok rs h k
 unfold mQ at h
 split at h
 ·rename_i ys
  cases q:aT ys with
  |none=>rw[q] at h;exact h.elim
  |some bs=>
   rw[q] at h
   cases rs with
   |cons r1 r2=>
    cases r2
    cases r1 with
    |list hs hn r=>exact⟨_,bs,rfl,by rw[hs,jl r q],k (.v _) _ U H .refl ok (Rp.int _) h⟩
 ·exact h.elim
theorem HS(hc:X.calm=true)(hg:Gl X "sum")(hm:X.mg "sum"=none)(ha:DA X (e::es) t)
  (he:starEach (e::es) X.env=(false,eval e X.env)::starEach es X.env:=by rfl) (hpl:(backTo pos (starEach es X.env)).any (·.1)=false:=by rfl):DE X (.Call (.Name "sum" p) (e::es) [] pos) (dCB mQ t):=
 dy (yJ hc) HC hg hm PyProof.Rows.Boot.«sum» ha ⋯ ⋯ he hpl
theorem u5{ys:List PyData}{U:Mu}{Q:DK}:mQ [.v (.list ys)] U Q=(match aT ys with|some bs=>Q (.v (.int bs.sum)) U|none=>False):=propext Iff.rfl
end
section
variable {X:Cx}{a b c:Expr}{ta tb tc:DTE}{pos:Pos}
theorem zY{op op':CmpOp}{rr rr':R2}{r r':D->D->Mu->DK->Prop}(ho:OpR X (compareOp op) rr)(lo:c7 X.K rr r)(ho':OpR X (compareOp op') rr')(lo':c7 X.K rr' r')(ha:DE X a ta)(hb:DE X b tb)(hc:DE X c tc)
  (hm:lastMarks [op,op'] [b,c]=false:=by with_unfolding_all rfl):DT X (.Compare a [op,op'] [b,c] pos) (dB (jR r r' ta tb tc)):=by
 obtain⟨t1,p1,l1⟩:=ha
 obtain⟨t2,p2,l2⟩:=hb
 obtain⟨t3,p3,l3⟩:=hc
 refine⟨_,BS ho ho' p1 p2 p3 hm,lp (fun Z H ρ U Qd Q S h k=>?_)⟩
 refine l1 Z H ρ U _ _ S h fun x ux ac H1 e1 S1 rx h1=>?_
 refine l2 Z H1 ρ ac _ _ S1 h1 fun y uy ad H2 e2 S2 ry h2=>?_
 refine lo x y ux uy H2 ad _ _ S2.mu (rx.ext S1.mu e2) ry h2 fun z uz bn H3 e3 ok3 rz h3=>?_
 have S3:St0 X.K H3 ρ bn Z:=⟨ok3,S2.rho.ext S2.mu e3⟩
 split at h3
 ·rename_i kk
  cases rz
  refine⟨kk,rfl,?_⟩
  cases kk with
  |true=>
   refine rO ?_
   refine l3 Z H3 ρ bn _ _ S3 (by simpa using h3) fun w uw ce H4 e4 S4 rw' h4=>?_
   exact lo' y w uy uw H4 ce _ _ S4.mu ((ry.ext S2.mu e3).ext S3.mu e4) rw' h4 fun d u Y H' e5 ok r q=>k d u Y H' (e1.trans (e2.trans (e3.trans (e4.trans e5)))) ⟨ok,S4.rho.ext S4.mu e5⟩ r q
  |false=>exact rE (k (.v (.bool false)) _ bn H3 (e1.trans (e2.trans e3)) S3 (Rp.bool false) (by simpa using h3))
 ·exact h3.elim
theorem cl3{k k':Str}{v v':Addr}{x:Str}{a:Addr}(n:(k==k')=false)(h:List.lookup x [(k,v),(k',v')]=some a):List.lookup x [(k',v'),(k,v)]=some a:=by
 simp only[lookup_cons,List.lookup_nil] at h ⊢
 cases e:x==k with
 |true=>
  have e':x=k:=by simpa using e
  subst e'
  rw[e] at h
  rw[n]
  exact h
 |false=>
  rw[e] at h
  cases e2:x==k' with
  |true=>rw[e2] at h;exact h
  |false=>rw[e2] at h;exact absurd h (by simp)
end
section
variable {X:Cx}{o e:Expr}{to te:DTE}{apos cpos pos:Pos}
noncomputable def Hk(to:DTE):DTE:=fun ρ U Q=>to ρ U fun x ac=>match x with
 |.m l=>(match ac l with
  |some xs=>∃d,xs[xs.length-1]? = some d/\Q (.v d) (aE ac l xs.dropLast)
  |none=>False)
 |_=>False
theorem RpL.dropLast{K:PySem.W.Frag}{U:Mu}{H:Hp}:∀{ds:List PyData} {us:List V},RpL K U H ds us->RpL K U H ds.dropLast us.dropLast
 |_,_,.nil=>.nil
 |_,_,.cons h .nil=>.nil
 |_,_,.cons h (.cons h2 t)=>.cons h (RpL.dropLast (.cons h2 t))
theorem RpL.eraseIdx{K:PySem.W.Frag}{U:Mu}{H:Hp}:∀{ds:List PyData} {us:List V} (i:Nat),RpL K U H ds us->RpL K U H (ds.eraseIdx i) (us.eraseIdx i)
 |_,_,_,.nil=>.nil
 |_,_,0,.cons _ t=>t
 |_,_,i+1,.cons h t=>.cons h (RpL.eraseIdx i t)
theorem HA(ho:DE X o to)(hbase:attributeBase o "pop" X.env (eval o X.env)=eval o X.env:=by rfl)(hline:(apos.endLine==cpos.line)=true:=by rfl) :
  DE X (.Call (.Attribute o "pop" apos) [] [] cpos) (Hk to):=by
 obtain⟨t1,p1,l1⟩:=ho
 refine⟨_,FP plainAttrs_list PySem.F.slot_list_pop PySem.F.type_list_pop Hu p1 hbase hline,fun Z H ρ U Qd Q S h k=>?_⟩
 refine l1 Z H ρ U _ _ S h fun x ux ac H1 e1 S1 rx h1=>?_
 cases x with
 |m l=>
  obtain⟨rfl,ds,hm⟩:=id rx
  obtain⟨us,hl,rl⟩:=S1.mu l ds hm
  refine⟨.inl ⟨rfl,us,SqL.of hl⟩,?_⟩
  dsimp only at h1
  rw[hm] at h1
  obtain⟨d,hd,q⟩:=h1
  obtain⟨u,hu,ru⟩:=rl.get hd
  have ex:Ext X.K ac H1 (aE ac l ds.dropLast) (upd H1 l (.lst us.dropLast)):=fI hm
  exact⟨l,us,u,rfl,rfl,hl,by rw[<- rl.length];exact hu,k (.v d) u _ _ (e1.trans ex) ⟨S1.mu.set hm rl.dropLast,S1.rho.ext S1.mu ex⟩ (ru.ext S1.mu ex) q⟩
 |v d=>exact h1.elim
 |s ns=>exact h1.elim
 |o _=>exact h1.elim
 |b _=>exact h1.elim
 |q _=>exact h1.elim
noncomputable def lu(to te:DTE):DTE:=fun ρ U Q=>to ρ U fun x ac=>match x with
 |.m l=>te ρ ac fun y ad=>(match y,ad l with
  |.v (.int i),some xs=>(0<=i/\i<1000)/\∃d,xs[i.toNat]? = some d/\Q (.v d) (aE ad l (xs.eraseIdx i.toNat))
  |_,_=>False)
 |_=>False
theorem JJ{i:Int}{n:Nat}(h0:0<=i)(h:i.toNat<n):seqIndex? i n=some i.toNat:=by
 unfold seqIndex?
 simp only[Option.ite_none_right_eq_some,Option.some.injEq]<;>first|(split<;>(try split)<;>simp_all<;>omega)|(constructor<;>omega)|omega
theorem As(ho:DE X o to)(ha:DE X e te)(hbase:attributeBase o "pop" X.env (eval o X.env)=eval o X.env:=by rfl)
  (hfew:((backTo cpos (starEach [e] X.env)).all (fun x=>!x.1)&&(backToKw cpos (keywordEach [] X.env)).all (fun x=>x.1.isSome)
   && decide ([e].length+([]:List Keyword).length+(if ([]:List Keyword).isEmpty then 0 else 1)<30))=true:=by rfl)
  (hline:(apos.endLine==cpos.line)=true:=by rfl) (hs:starEach [e] X.env=(false,eval e X.env)::starEach [] X.env:=by rfl) (hplain:(backTo cpos (starEach [] X.env)).any (·.1)=false:=by rfl) :
  DE X (.Call (.Attribute o "pop" apos) [e] [] cpos) (lu to te):=by
 obtain⟨t1,p1,l1⟩:=ho
 obtain⟨t2,p2,l2⟩:=ha
 refine⟨_,z9 plainAttrs_list PySem.F.slot_list_pop PySem.F.type_list_pop Bu p1 (cT p2 iz hs) hbase hfew hline hs hplain,fun Z H ρ U Qd Q S h k=>?_⟩
 refine l1 Z H ρ U _ _ S h fun x ux ac H1 e1 S1 rx h1=>?_
 cases x with
 |m l=>
  obtain⟨rfl,ds,hm⟩:=id rx
  obtain⟨us,hl,rl⟩:=S1.mu l ds hm
  refine⟨.inl ⟨rfl,us,SqL.of hl⟩,?_⟩
  refine l2 Z H1 ρ ac _ _ S1 h1 fun y uy ad H2 e2 S2 ry h2=>?_
  obtain⟨_,ds2,hm2⟩:=rx.ext S1.mu e2
  obtain⟨us2,hl2,rl2⟩:=S2.mu l ds2 hm2
  rw[hm2] at h2
  split at h2
  ·rename_i i ds3 e3
   cases e3
   obtain⟨⟨i0,i1⟩,d,hd,q⟩:=h2
   cases ry
   obtain⟨u,hu,ru⟩:=rl2.get hd
   have hlt:i.toNat<us2.length:=by
    rcases Nat.lt_or_ge i.toNat us2.length with z|z
    ·exact z
    ·rw[List.getElem?_eq_none z] at hu;cases hu
   have ex:Ext X.K ad H2 (aE ad l (ds2.eraseIdx i.toNat)) (upd H2 l (.lst (us2.eraseIdx i.toNat))):=fI hm2
   exact⟨l,us2,i,i.toNat,u,rfl,rfl,hl2,∅,∅,JJ i0 hlt,hu,k (.v d) u _ _ (e1.trans (e2.trans ex)) ⟨S2.mu.set hm2 (rl2.eraseIdx _),S2.rho.ext S2.mu ex⟩ (ru.ext S2.mu ex) q⟩
  ·exact h2.elim
 |v d=>exact h1.elim
 |s ns=>exact h1.elim
 |o _=>exact h1.elim
 |b _=>exact h1.elim
 |q _=>exact h1.elim
noncomputable def BY(to:DTE):DTT:=fun ρ U Q=>to ρ U fun x ac=>match x with
 |.m l=>(match ac l with|some xs=>Q (!xs.isEmpty) ac|none=>False)
 |_=>False
theorem CI(ho:DE X o to)(he:∀whole,isTrue o X.env whole=(do let v <- whole;standAt o.pos;holding [v] (truthy v)):=by intro _;rfl):DT X o (BY to):=by
 obtain⟨t1,p1,l1⟩:=ho
 refine⟨_,zX p1 he,fun Z H ρ U Qd Q S h k=>?_⟩
 refine l1 Z H ρ U _ _ S h fun x ux ac H1 e1 S1 rx h1=>?_
 cases x with
 |m l=>
  obtain⟨rfl,ds,hm⟩:=id rx
  obtain⟨us,hl,rl⟩:=S1.mu l ds hm
  dsimp only at h1
  rw[hm] at h1
  refine⟨!us.isEmpty,.inl ⟨us,SqL.of hl,rfl⟩,?_⟩
  have:us.isEmpty=ds.isEmpty:=by cases rl<;>rfl
  rw[this]
  exact k _ ac H1 e1 S1 h1
 |v d=>exact h1.elim
 |s ns=>exact h1.elim
 |o _=>exact h1.elim
 |b _=>exact h1.elim
 |q _=>exact h1.elim
noncomputable def Fj(i:Nat)(te:DTE):DTS:=fun Dd ρ U=>∃a:Int,ρ[i]? = some (some (.v (.int a)))/\te ρ U fun y ac=>match y with
 |.v (.int b)=>Dd.nx (ρ.set i (some (.v (.int (a+b))))) ac
 |_=>False
theorem Fp{i:Nat}{x:Str}{pos':Pos}(hN:X.N.Nodup)(hi:X.N[i]? = some x)(hx:Loc X.env.scope x)(ha:DE X e te)(hf:X.fn x=true\/X.env.scope.names.lookup x=some .local:=by first|exact .inl rfl|exact .inr rfl|assumption) :
  DS X (.AugAssign (.Name x pos') .Add e pos) (Fj i te):=by
 obtain⟨t1,p1,l1⟩:=ha
 refine⟨_,Iu hN hi hx p1 Hz hf,fun Z H ρ U Dd De S h k1 k2 k3 k4=>?_⟩
 obtain⟨a,ea,h⟩:=h
 obtain⟨u,hu,ru⟩:=S.rho.2 i _ ea
 cases ru
 refine⟨_,hu,l1 Z H ρ U _ _ S h fun y uy ac H1 e1 S1 ry h1=>?_⟩
 split at h1
 ·cases ry
  exact⟨_,_,rfl,rfl,k1 _ _ ac H1 e1 ⟨S1.mu,S1.rho.set (d:=.v (.int _)) (Rp.int _)⟩ h1⟩
 ·exact h1.elim
end
section
variable {X:Cx}{e:Expr}{es:List Expr}{t:DTA}{p pos:Pos}
theorem zB(hc:X.calm=true):dP X (.builtin "min") (fun xs H Q=>∃(p:Addr) (ns:List Int),xs=[.ref p]/\H p=some (.lst (ns.map V.int))/\0<ns.length/\∀M∈ns,(∀a∈ns,M<=a)->Q (.int M) H):=by
 intro pins s Z H xs us Q I r h
 obtain⟨l,ns,rfl,hl,hne,q⟩:=h
 obtain⟨u,rfl,rx⟩:=vals1 r
 cases rx
 obtain⟨its,rv,pl,_⟩:=I.list (SqL.of hl)
 have hi:=nM rv
 obtain⟨xs,e⟩:=hi.allInts.items
 have hns:ns=xs.toList.map (·.1):=by rw[<- hi.numsOf,<- nums_intItems,<- e]
 have hsz:0<xs.size:=by have h3:=hne;rw[hns,length_map,Array.length_toList] at h3;exact h3
 have hL:=pl.isList
 rw[e] at hL
 refine min_intList (I.ok.hd hc) hL hsz fun v h' tk hv hk=>?_
 obtain⟨t,rfl⟩:=intItems_at hv
 obtain⟨h1,h2⟩:=argBest_lt (numAt xs) (xs.size-1)
 refine⟨.int _,H,I.kept hk,⟨_,rfl⟩,q _ ?_ fun a ha=>?_⟩
 ·rw[hns,numAt_eq];exact getD_mem (by rw[length_map,Array.length_toList];omega)
 ·rw[hns] at ha
  obtain⟨j,hj,rfl⟩:=mem_getD ha
  rw[length_map,Array.length_toList] at hj
  rw[<- numAt_eq];exact h2 j ∅
theorem y7(hc:X.calm=true):dP X (.builtin "max") (fun xs H Q=>∃(p:Addr) (ns:List Int),xs=[.ref p]/\H p=some (.lst (ns.map V.int))/\0<ns.length/\∀M∈ns,(∀a∈ns,a<=M)->Q (.int M) H):=by
 intro pins s Z H xs us Q I r h
 obtain⟨l,ns,rfl,hl,hne,q⟩:=h
 obtain⟨u,rfl,rx⟩:=vals1 r
 cases rx
 obtain⟨its,rv,pl,_⟩:=I.list (SqL.of hl)
 have hi:=nM rv
 obtain⟨xs,e⟩:=hi.allInts.items
 have hns:ns=xs.toList.map (·.1):=by rw[<- hi.numsOf,<- nums_intItems,<- e]
 have hsz:0<xs.size:=by have h3:=hne;rw[hns,length_map,Array.length_toList] at h3;exact h3
 have hL:=pl.isList
 rw[e] at hL
 refine max_intList (I.ok.hd hc) hL hsz fun v h' tk hv hk=>?_
 obtain⟨t,rfl⟩:=intItems_at hv
 obtain⟨h1,h2⟩:=argBest_gt (numAt xs) (xs.size-1)
 refine⟨.int _,H,I.kept hk,⟨_,rfl⟩,q _ ?_ fun a ha=>?_⟩
 ·rw[hns,numAt_eq];exact getD_mem (by rw[length_map,Array.length_toList];omega)
 ·rw[hns] at ha
  obtain⟨j,hj,rfl⟩:=mem_getD ha
  rw[length_map,Array.length_toList] at hj
  rw[<- numAt_eq];exact h2 j ∅
noncomputable def uZ:List D->Mu->DK->Prop:=fun xs U Q=>match xs with
 |[.v (.list ys)]=>(match aT ys with|some ns=>0<ns.length/\∀M∈ns,(∀a∈ns,M<=a)->Q (.v (.int M)) U|none=>False)
 |_=>False
noncomputable def tU:List D->Mu->DK->Prop:=fun xs U Q=>match xs with
 |[.v (.list ys)]=>(match aT ys with|some ns=>0<ns.length/\∀M∈ns,(∀a∈ns,a<=M)->Q (.v (.int M)) U|none=>False)
 |_=>False
theorem Cc{K:PySem.W.Frag}:gh K (fun xs H Q=>∃(p:Addr) (ns:List Int),xs=[.ref p]/\H p=some (.lst (ns.map V.int))/\0<ns.length/\∀M∈ns,(∀a∈ns,M<=a)->Q (.int M) H) uZ:=by
 intro xs us H U Qd Q ok rs h k
 unfold uZ at h
 split at h
 ·rename_i ys
  cases q:aT ys with
  |none=>rw[q] at h;exact h.elim
  |some ns=>
   rw[q] at h
   cases rs with
   |cons r1 r2=>
    cases r2
    cases r1 with
    |list hs hn r=>exact⟨_,ns,rfl,by rw[hs,jl r q],h.1,fun M hM hle=>k (.v _) _ U H .refl ok (Rp.int _) (h.2 M hM hle)⟩
 ·exact h.elim
theorem CL{K:PySem.W.Frag}:gh K (fun xs H Q=>∃(p:Addr) (ns:List Int),xs=[.ref p]/\H p=some (.lst (ns.map V.int))/\0<ns.length/\∀M∈ns,(∀a∈ns,a<=M)->Q (.int M) H) tU:=by
 intro xs us H U Qd Q ok rs h k
 unfold tU at h
 split at h
 ·rename_i ys
  cases q:aT ys with
  |none=>rw[q] at h;exact h.elim
  |some ns=>
   rw[q] at h
   cases rs with
   |cons r1 r2=>
    cases r2
    cases r1 with
    |list hs hn r=>exact⟨_,ns,rfl,by rw[hs,jl r q],h.1,fun M hM hle=>k (.v _) _ U H .refl ok (Rp.int _) (h.2 M hM hle)⟩
 ·exact h.elim
theorem CZ(hc:X.calm=true)(hg:Gl X "min")(hm:X.mg "min"=none)(ha:DA X (e::es) t)
  (he:starEach (e::es) X.env=(false,eval e X.env)::starEach es X.env:=by rfl) (hpl:(backTo pos (starEach es X.env)).any (·.1)=false:=by rfl):DE X (.Call (.Name "min" p) (e::es) [] pos) (dCB uZ t):=
 dy (zB hc) Cc hg hm PyProof.Rows.Boot.«min» ha ⋯ ⋯ he hpl
theorem Di(hc:X.calm=true)(hg:Gl X "max")(hm:X.mg "max"=none)(ha:DA X (e::es) t)
  (he:starEach (e::es) X.env=(false,eval e X.env)::starEach es X.env:=by rfl) (hpl:(backTo pos (starEach es X.env)).any (·.1)=false:=by rfl):DE X (.Call (.Name "max" p) (e::es) [] pos) (dCB tU t):=
 dy (y7 hc) CL hg hm PyProof.Rows.Boot.«max» ha ⋯ ⋯ he hpl
end
noncomputable def pj(cap:List (Option Nat))(src:DTI)(g:DTG)(c:DTT)(elt:DTE):DTE:=fun ρ U Q=>src ρ U fun xs ac=>xs.length<=1000/\∀p,ac p=none->∃Pv:Nat->List PyData->Mu->Prop,Pv 0 [] (aE ac p []) /\
 (∀i x acc Y,xs[i]? = some x->Y p=some acc->Pv i acc Y->g (.v x) (bD cap ρ) Y fun cr ad=>Le (bD cap ρ) cr/\c cr ad fun b bn=>
  if b=true then elt cr bn fun d ce=>ce p=some acc/\(match d with|.v y=>Pv (i+1) (acc++[y]) (aE ce p (acc++[y]))|_=>False) else bn p=some acc/\Pv (i+1) acc bn) /\
 (∀acc Y,Pv xs.length acc Y->Y p=some acc->Q (.m p) Y)
theorem DZ{cap:List (Option Nat)}{src:DTI}{g:DTG}{t:DTT}{ta:DTE}{ρ:Rho}{U:Mu}{Q:DK}:pj cap src g t ta ρ U Q=src ρ U fun xs ac=>xs.length<=1000/\∀p,ac p=none->∃Pv:Nat->List PyData->Mu->Prop,Pv 0 [] (aE ac p []) /\
 (∀i x acc Y,xs[i]? = some x->Y p=some acc->Pv i acc Y->g (.v x) (bD cap ρ) Y fun cr ad=>Le (bD cap ρ) cr/\t cr ad fun b bn=>
  if b=true then ta cr bn fun d ce=>ce p=some acc/\(match d with|.v y=>Pv (i+1) (acc++[y]) (aE ce p (acc++[y]))|_=>False) else bn p=some acc/\Pv (i+1) acc bn) /\
 (∀acc Y,Pv xs.length acc Y->Y p=some acc->Q (.m p) Y):=propext Iff.rfl
noncomputable def Ap(cells:List (Str×Addr)):List (Str×Addr)->Prop
 |[]=>True
 |(k,v)::r=>cells.lookup k=some v/\Ap cells r
theorem nq{cells:List (Str×Addr)}:Ap cells []:=trivial
theorem cK{cells r:List (Str×Addr)}{k:Str}{v:Addr}(h:cells.lookup k=some v)(t:Ap cells r):Ap cells ((k,v)::r):=⟨h,t⟩
theorem fU{cells:List (Str×Addr)}:∀{cl:List (Str×Addr)},Ap cells cl->∀x a,cl.lookup x=some a->cells.lookup x=some a
 |[],_,_,_,h=>by simp at h
 |(k,v)::r,c,x,a,h=>by
  rw[lookup_cons] at h
  cases e:x==k with
  |true=>
   have e':x=k:=by simpa using e
   rw[e] at h
   subst e'
   rw[c.1];exact h
  |false=>
   rw[e] at h
   exact fU c.2 x a h
noncomputable def Fly(O:Addr->Prop)(h:Heap)(e:Addr)(cls fl:Value):Prop:=(∀b,O b->b<h.objs.size)/\∃oe vs T oT ts,h.get? e=some oe/\oe.cls=cls/\oe.data = .fields vs/\vs[1]? = some (.ref T)/\vs[2]? = some .none/\¬ O e/\¬ O T/\T≠e/\h.get? T=some oT/\oT.data = .fields ts/\ts[3]? = some fl
structure Kp(O:Addr->Prop)(fs:List Addr)(h h':Heap):Prop where
 keep:∀b o,h.get? b=some o->O b->b ∉ fs->h'.get? b=some o
 slot:∀b o,h.get? b=some o->(∀vs,o.data≠.fields vs)->∃sl,h'.get? b=some {o with slots:=sl}
section
variable {O:Addr->Prop}{fs:List Addr}{h h1 h2:Heap}
theorem Kp.trans(a:Kp O fs h h1)(b:Kp O fs h1 h2):Kp O fs h h2:=⟨fun c o e l f=>b.keep c o (a.keep c o e l f) l f,fun c o e d=>let ⟨_,e1⟩:=a.slot c o e d;let ⟨sl,e2⟩:=b.slot c _ e1 d;⟨sl,e2⟩⟩
theorem Kp.of(k:∀b o,h.get? b=some o->h1.get? b=some o):Kp O fs h h1:=⟨fun b o e _ _=>k b o e,fun b o e _=>⟨o.slots,k b o e⟩⟩
theorem Kp.frames{base:Heap}{l:List Env}(a:Kp O fs h h1)(k:h.FunFrames base l):h1.FunFrames base l:=k.of_keeps fun b o e d=>let ⟨_,e1⟩:=a.slot b o e d;⟨_,e1,rfl⟩
end
section
variable {M:Model}{A:Around}{E:Value->Shared->Prop}{s:Shared}{O:Addr->Prop}{e L:Addr}{cls fl:Value}{env:Env}{outer:List Env}{base:Heap}{Q:Unit->Shared->Prop}
theorem uo{oe:Obj}{vs:Array Value}{head:Value}{hadNext:Bool}(hfr:A.frames=some (env::outer))(hl:s.heap.FunFrames base (env::outer))(hf:env.frame=some L)
  (he:s.heap.get? e=some oe) (hc:oe.cls=cls) (hd:oe.data = .fields vs) (hz:1<vs.size) (h2:vs[2]? = some .none) (hO:∀b,O b->b<s.heap.objs.size) (hn:¬ O e)
  (k:∀h',Kp O (frs (env::outer)) s.heap h'->Fly O h' e cls (rawInt L)->Q () {s with heap:=h'}) :
  wpAny M A (do let a <- frameOf env;let pl <- entryPlaceOf L hadNext;let b <- EntryCells.newEntry head a .none (rawInt L) .none pl;setField (.ref e) 1 b) Q E s:=by
 have ene:e ∉ frs (env::outer):=fun hm=>by
  obtain⟨_,o,ho,hnf⟩:=hl.mem hm
  rw[he] at ho
  exact hnf vs (by rw[<- Option.some.inj ho];exact hd)
 refine wpAny_bind (wpAny_frameOf_fun hfr hl hf fun g1 s1=>wpAny_bind (wpAny_entryPlaceOf fun pl hpl=>?_))
 unfold EntryCells.newEntry newFields;refine wpAny_bind (wpAny_newObj_type ?_ (hpl.sizeOk5 _ _ _ _ _))
 generalize hob:({cls:=.type "traceback",dict:=none,data:=.fields ([head,.ref L,.none,rawInt L,.none]++(if pl.isEmpty then List.replicate 6 Value.none else pl)).toArray}:Obj)=ob
 have e1:g1.get? e=some oe:=(s1.2.1 e ene).trans he
 have e2:(g1.push ob).get? e=some oe:=Heap.get?_push_of_some ob e1
 have neT:g1.objs.size≠e:=Nat.ne_of_gt (Heap.lt_size e1)
 have d3:=Obj.data_mapFields hd (·.setIfInBounds 1 (Value.ref g1.objs.size))
 have szs:¬ O g1.objs.size:=fun z=>absurd (hO _ z) (by rw[s1.1];exact lt_irrefl _)
 refine wpAny_setField e2 hd hz (k _ ⟨fun b o q l f=>?_,fun b o q d=>?_⟩ ?_)
 ·have bne:e≠b:=fun z=>hn (by rw[z];exact l)
  rw[Heap.get?_update_other _ _ bne]
  exact Heap.get?_push_of_some _ ((s1.2.1 b f).trans q)
 ·have bne:e≠b:=fun z=>by rw[<- z,he] at q;exact d vs (by rw[<- Option.some.inj q];exact hd)
  obtain⟨sl,q1⟩:=s1.2.2 b o q
  exact⟨sl,by rw[Heap.get?_update_other _ _ bne];exact Heap.get?_push_of_some _ q1⟩
 ·refine⟨fun b z=>lt_of_lt_of_le (hO b z) (by rw[Heap.size_after_update,Heap.size_push,s1.1];exact Nat.le_succ _),_,_,g1.objs.size,ob,_,Heap.get?_update_self _ e2 (Obj.isFreed_of_fields d3),(Obj.cls_mapFields ..).trans hc,d3,by simp[hz],by rw[Array.getElem?_setIfInBounds_ne ⋯];exact h2,hn,szs,neT,?_,by rw[<- hob],?_⟩
  ·rw[Heap.get?_update_other _ _ (Ne.symm neT)]
   exact Heap.get?_push_size g1 (by rw[<- hob];rfl)
  ·rcases hpl with z|⟨_,_,_,_,_,_,_,z⟩<;>(rw[z];rfl)
theorem vZ{oe:Obj}{vs:Array Value}(hfr:A.frames=some (env::outer))(hl:s.heap.FunFrames base (env::outer))(hf:env.frame=some L)
  (he:s.heap.get? e=some oe) (hc:oe.cls=cls) (hd:oe.data = .fields vs) (h1:vs[1]? = some .none) (h2:vs[2]? = some .none) (hO:∀b,O b->b<s.heap.objs.size) (hn:¬ O e)
  (k:∀h',Kp O (frs (env::outer)) s.heap h'->Fly O h' e cls (rawInt L)->Q () {s with heap:=h'}):wpAny M A (noteFrame (.ref e) env) Q E s:=by
 unfold noteFrame;simp only[hf]
 refine wpAny_bind (wpAny_field he hd h1 ?_)
 rw[if_neg ⋯]
 exact uo hfr hl hf he hc hd (Array.getElem?_eq_some_iff.mp h1).1 h2 hO hn k
theorem qV(hfr:A.frames=some (env::outer))(hl:s.heap.FunFrames base (env::outer))(hf:env.frame=some L)(F:Fly O s.heap e cls .none)
  (k:∀h',Kp O (frs (env::outer)) s.heap h'->Fly O h' e cls (rawInt L)->Q () {s with heap:=h'}):wpAny M A (noteFrame (.ref e) env) Q E s:=by
 obtain⟨hO,oe,vs,T,oT,ts,he,hc,hd,h1,h2,hn,hT,nT,gT,dT,h3⟩:=F
 unfold noteFrame;simp only[hf]
 refine wpAny_bind (wpAny_field he hd h1 ?_)
 rw[if_pos (by simp)]
 refine wpAny_bind (wpAny_field gT dT h3 ?_)
 rw[if_neg (by simp[rawInt])]
 have oth:∀b,b≠T->(s.heap.update T (Obj.mapFields (·.setIfInBounds 3 Value.none))).get? b=s.heap.get? b:=fun b hb=>Heap.get?_update_other _ _ (Ne.symm hb)
 have kp:Kp O (frs (env::outer)) s.heap (s.heap.update T (Obj.mapFields (·.setIfInBounds 3 Value.none))):=
  ⟨fun b o q l _=>(oth b fun z=>hT (by rw[<- z];exact l)).trans q,fun b o q d=>⟨o.slots,(oth b fun z=>by rw[z,gT] at q;exact d ts (by rw[<- Option.some.inj q];exact dT)).trans q⟩⟩
 refine wpAny_bind (wpAny_setField gT dT (Array.getElem?_eq_some_iff.mp h3).1 ?_)
 exact uo (s:={s with heap:=s.heap.update T (Obj.mapFields (·.setIfInBounds 3 Value.none))}) hfr (kp.frames hl) hf ((oth e (Ne.symm nT)).trans he) hc hd (Array.getElem?_eq_some_iff.mp h1).1 h2 (fun b z=>by rw[Heap.size_after_update];exact hO b z) hn fun h' a b=>k h' (kp.trans a) b
theorem fE{fs:List Addr}(F:Fly O s.heap e cls fl)(k:∀h',Kp O fs s.heap h'->Fly O h' e cls .none->Q () {s with heap:=h'}):wpAny M A (setFlight (.ref e) none) Q E s:=by
 obtain⟨hO,oe,vs,T,oT,ts,he,hc,hd,h1,h2,hn,hT,nT,gT,dT,h3⟩:=F
 have z3:3<ts.size:=(Array.getElem?_eq_some_iff.mp h3).1
 unfold setFlight
 refine wpAny_bind (wpAny_field he hd h1 ?_)
 rw[if_pos (by simp)]
 have oth:∀b,b≠T->(s.heap.update T (Obj.mapFields (·.setIfInBounds 3 ((none:Option Addr).elim Value.none fun f=>rawInt f)))).get? b=s.heap.get? b:=fun b hb=>Heap.get?_update_other _ _ (Ne.symm hb)
 refine wpAny_setField gT dT z3 (k _ ⟨fun b o q l _=>(oth b fun z=>hT (by rw[<- z];exact l)).trans q,fun b o q d=>⟨o.slots,(oth b fun z=>by rw[z,gT] at q;exact d ts (by rw[<- Option.some.inj q];exact dT)).trans q⟩⟩ ?_)
 exact⟨fun b z=>by rw[Heap.size_after_update];exact hO b z,oe,vs,T,_,_,(oth e (Ne.symm nT)).trans he,hc,hd,h1,h2,hn,hT,nT,Heap.get?_update_self _ gT (Obj.isFreed_of_fields (Obj.data_mapFields dT _)),Obj.data_mapFields dT _,by simp[z3]⟩
theorem vn{oe:Obj}{vs:Array Value}(hfr:A.frames=some (env::outer))(hl:s.heap.FunFrames base (env::outer))(hf:env.frame=some L)
  (he:s.heap.get? e=some oe) (hc:oe.cls=cls) (hd:oe.data = .fields vs) (h1:vs[1]? = some .none) (h2:vs[2]? = some .none) (hO:∀b,O b->b<s.heap.objs.size) (hn:¬ O e)
  (k:∀h',Kp O (frs (env::outer)) s.heap h'->Fly O h' e cls .none->Q () {s with heap:=h'}):wpAny M A (leaving env (.ref e)) Q E s:=by
 unfold leaving
 exact wpAny_bind (vZ hfr hl hf he hc hd h1 h2 hO hn fun h' a b=>fE (s:={s with heap:=h'}) b fun h'' a' b'=>k h'' (a.trans a') b')
theorem vS(hfr:A.frames=some (env::outer))(hl:s.heap.FunFrames base (env::outer))(hf:env.frame=some L)(F:Fly O s.heap e cls .none)
  (k:∀h',Kp O (frs (env::outer)) s.heap h'->Fly O h' e cls .none->Q () {s with heap:=h'}):wpAny M A (leaving env (.ref e)) Q E s:=by
 unfold leaving
 exact wpAny_bind (qV hfr hl hf F fun h' a b=>fE (s:={s with heap:=h'}) b fun h'' a' b'=>k h'' (a.trans a') b')
end
noncomputable def CX1(P:Program)(w:World):CXT:=fun outer H s E e s'=>∃(O:Addr->Prop) (ea:Addr) (cls:Value) (H':Hp),e = .ref ea/\s'.os=s.os/\AllBare s'.gens/\Un (frs outer) [] H H' s.heap s'.heap/\HOk P w H' s'.heap /\
 (∀b o,s.heap.get? b=some o->O b)/\(∀b,H' b≠none->O b)/\Fly O s'.heap ea cls .none/\E cls none H'
theorem Un.fly{fs:List Addr}{L:Addr}{H H':Hp}{h h1 h2:Heap}{O:Addr->Prop}(u:Un fs [] H H' h h1)(k:Kp O (L::fs) h1 h2)(hO:∀b o,h.get? b=some o->O b)(hL:∀o,h.get? L≠some o)(hd:∀b∈fs,∀o,h1.get? b=some o->∀vs,o.data≠.fields vs):Un fs [] H H' h h2 where
 keep:=fun b o e n f x=>k.keep b o (u.keep b o e n f x) (hO b o e) fun z=>by
  rcases List.mem_cons.mp z with z|z
  ·exact hL o (by rw[<- z];exact e)
  ·exact f z
 slot:=fun b o e n f x=>by
  obtain⟨sl,e1⟩:=u.slot b o e n f x
  obtain⟨sl',e2⟩:=k.slot b _ e1 (hd b f _ e1)
  exact⟨sl',e2⟩
 free:=u.free
 there:=fun b o e x=>by
  obtain⟨o1,e1⟩:=u.there b o e x
  by_cases f:b∈fs
  ·obtain⟨sl,e2⟩:=k.slot b _ e1 (hd b f _ e1)
   exact⟨_,e2⟩
  ·exact⟨o1,k.keep b o1 e1 (hO b o e) fun z=>by
    rcases List.mem_cons.mp z with z|z
    ·exact hL o (by rw[<- z];exact e)
    ·exact f z⟩
 jL:=u.jL
 js:=u.js
 jv:=u.jv
theorem HOk.fly{P:Program}{w:World}{H:Hp}{h h1:Heap}{O:Addr->Prop}{fs:List Addr}(x:HOk P w H h)(k:Kp O fs h h1)(hO:∀b,H b≠none->O b)(hf:∀b∈fs,H b=none):HOk P w H h1:=fun a o e=>by
 refine (x a o e).nc (fun b u hb q=>?_) (fun _ q=>q) fun _ _ q=>q
 have hb':H b≠none:=by
  rcases hb with rfl|hb
  ·rw[e];exact fun z=>nomatch z
  ·rw[hb];exact fun z=>nomatch z
 exact k.keep b u q (hO b hb') fun z=>hb' (hf b z)
theorem yE{P:Program}{w:World}{H:Hp}{h:Heap}{a:Addr}{o:HO}(x:dQ P w H h a o):∃u,h.get? a=some u:=by
 cases o with
 |lst xs=>obtain⟨_,_,_,_,e⟩:=x;exact⟨_,e⟩
 |tup xs=>obtain⟨_,_,_,_,e,_⟩:=x;exact⟨_,e⟩
 |dK kvs=>obtain⟨_,_,_,_,_,_,_,e,_⟩:=x;exact⟨_,e⟩
 |dT kvs=>obtain⟨_,_,_,_,_,_,_,e,_⟩:=x;exact⟨_,e⟩
 |set S n=>obtain⟨_,_,_,_,e,_⟩:=x;exact⟨_,e⟩
 |ins C dx fs=>obtain⟨_,_,_,e,_⟩:=x;exact⟨_,e⟩
 |own y=>exact x
 |xd fs=>obtain⟨_,⟨_,_,_,e,_⟩,_⟩:=x;exact⟨_,e⟩
 |rng lo hi=>obtain⟨_,_,_,e⟩:=x;exact⟨_,e⟩
 |frz ob u=>obtain⟨e,_⟩:=x;exact⟨_,e⟩
 |tbl ps=>exact⟨_,(show h.get? a=some _ from x)⟩
 |met f y=>exact⟨_,(show h.get? a=some _ from x)⟩
 |raw ob=>exact⟨ob,x⟩
 |ext φ=>obtain⟨_,e,_⟩:=x;exact e
section
variable {X:Cx}{pins:List (Addr×Obj)}{Z:St}{H:Hp}{s:Shared}{O:Addr->Prop}{ea:Addr}{cls:Value}{E:XK}{base:Heap}
structure Frm(X:Cx):Prop where
 stk:X.stack=X.env::X.outer
 fr:X.env.frame=some X.env.locals
 ex:X.ex=[]
theorem j5(hF:Frm X):frs (X.env::X.outer)=X.env.locals::X.fs:=by
 unfold Cx.fs frs
 rw[filterMap_cons,hF.fr]
theorem sL(I:Inv X pins Z H s):∀b∈X.fs,∀o,s.heap.get? b=some o->∀vs,o.data≠.fields vs:=fun b hb o e vs=>by
 obtain⟨_,o',e',d⟩:=I.jT.mem hb
 rw[e] at e'
 rw[Option.some.inj e']
 exact d vs
theorem yg(I:Inv X pins Z H s):∀o,X.db.heap.get? X.env.locals≠some o:=fun o e=>absurd (Heap.lt_size e) (Nat.not_lt.mpr I.ok.above)
theorem uc(hF:Frm X)(I:Inv X pins Z H s):∀b∈frs (X.env::X.outer),H b=none:=fun b hb=>by
 rw[j5 hF] at hb
 rcases List.mem_cons.mp hb with e|hb
 ·rw[e];exact I.free
 ·exact I.sG b (by rw[hF.stk,j5 hF];exact mem_cons_of_mem _ hb)
theorem lC(hF:Frm X)(I:Inv X pins Z H s):s.heap.FunFrames X.base (X.env::X.outer):=by
 have:=I.stack
 rw[hF.stk] at this
 exact this
theorem BZ(hF:Frm X)(I:Inv X pins Z H s)(hO:∀b o,X.db.heap.get? b=some o->O b)(ht:∀b,H b≠none->O b){h':Heap}(k:Kp O (frs (X.env::X.outer)) s.heap h')(F:Fly O h' ea cls .none)(q:E cls none H) :
  CX1 X.prog X.w X.outer X.H₀ X.db E (.ref ea) {s with heap:=h'}:=by
 refine⟨O,ea,cls,H,rfl,I.os,I.bare,?_,HOk.fly I.hok k ht (uc hF I),hO,ht,F,q⟩
 rw[j5 hF] at k
 have u:=I.base
 rw[hF.ex] at u
 exact Un.fly u k hO (yg I) (sL I)
theorem leave_new{vs:List Value}{h1:Heap}{Qe:Value->Shared->Prop}(hF:Frm X)(I:Inv X pins Z H s)(hx:Heap.MadeExcOf s.heap h1 ea cls vs)(q:E cls none H) :
  wpAny (model X.prog X.w) X.A (leaving X.env (.ref ea)) (fun _ s''=>CX1 X.prog X.w X.outer X.H₀ X.db E (.ref ea) s'') Qe {s with heap:=h1}:=by
 obtain⟨t,he,_,_⟩:=hx.there
 have I1:Inv X pins Z H {s with heap:=h1}:=I.kept (t':=s.toks) hx.keeps
 have fr:X.A.frames=some (X.env::X.outer):=by rw[<- hF.stk];exact I.ok.frames
 have kp:Kp (fun b=>∃o,s.heap.get? b=some o) (frs (X.env::X.outer)) s.heap h1:=.of hx.keeps
 refine vn (O:=fun b=>∃o,s.heap.get? b=some o) (s:={s with heap:=h1}) fr (lC hF I1) hF.fr he rfl rfl rfl rfl (fun b ⟨o,e⟩=>Heap.lt_size (hx.keeps b o e)) (fun ⟨o,e⟩=>by rw[hx.new] at e;cases e) fun h' k F=>?_
 have e:=BZ (s:=s) (X:=X) hF I (fun b o e=>I.base.there b o e (by rw[hF.ex];exact fun z=>nomatch z)) (fun b hb=>by
  cases z:H b with
  |none=>exact absurd z hb
  |some o=>exact yE (I.hok b o z)) (kp.trans k) F q
 exact e
end
structure XOk(X:Cx)(E:XK):Prop where
 new:∀(pins:List (Addr×Obj)) (Z:St) (H:Hp) (s:Shared) (ea:Addr) (cls:Value) (vs:List Value) (h1:Heap),Inv X pins Z H s->Heap.MadeExcOf s.heap h1 ea cls vs->E cls none H->X.xe (.ref ea) {s with heap:=h1}
 pas:Passes (CX1 X.prog X.w) X E
theorem rh{X:Cx}{pins:List (Addr×Obj)}{Z:St}{H:Hp}{s s':Shared}{E:XK}{e:Value}{Qe:Value->Shared->Prop}(hF:Frm X)(I:Inv X pins Z H s)(h:CX1 X.prog X.w X.stack H s E e s') :
  wpAny (model X.prog X.w) X.A (leaving X.env e) (fun _ s''=>CX1 X.prog X.w X.outer X.H₀ X.db E e s'') Qe s':=by
 obtain⟨O,ea,cls,H',rfl,os,bare,un,hok,hO,ht,F,q⟩:=h
 have I':Inv X pins Z H' s':=I.xJ (ch:=[]) os un hok bare (fun b z=>nomatch z)
 have fr:X.A.frames=some (X.env::X.outer):=by rw[<- hF.stk];exact I.ok.frames
 refine vS (s:=s') fr (lC hF I') hF.fr F fun h' k F'=>?_
 exact BZ (s:=s') hF I' (fun b o e=>by
  obtain⟨o',e'⟩:=I.base.there b o e (by rw[hF.ex];exact fun z=>nomatch z)
  exact hO b o' e') ht k F' q
theorem CU{P:Program}{w:World}{K:PySem.W.Frag}{mg:Str->Option Value}{base:Heap}{N:List Str}{qual:Str}{scope:Scope}{f:Addr}{cd:Value}{A:Around}{outer:List Env}{s:Shared}{H:Hp}{E:XK} :
  XOk (eG (CX1 P w) P w K mg base N qual scope f cd A outer s H E) E where
 new:=fun pins Z H1 s1 ea cls vs h1 I hx q=>leave_new (X:=eG (CX1 P w) P w K mg base N qual scope f cd A outer s H E) ⟨rfl,rfl,rfl⟩ I hx q
 pas:=fun pins Z H1 s1 e s' I h=>rh (X:=eG (CX1 P w) P w K mg base N qual scope f cd A outer s H E) ⟨rfl,rfl,rfl⟩ I h
noncomputable abbrev DTX:=Rho->Mu->(Mu->Prop)->Prop
noncomputable abbrev XSp:=List D->Mu->(Mu->Prop)->Prop
noncomputable def vU(K:PySem.W.Frag)(E:XK)(C:Value)(U:Mu)(H:Hp)(Xk:Mu->Prop):Prop:=∀Y H',Ext K U H Y H'->aV K Y H'->Xk Y->E C none H'
theorem vU.on{K:PySem.W.Frag}{E:XK}{C:Value}{U ac:Mu}{H H1:Hp}{Xk:Mu->Prop}(w:vU K E C U H Xk)(e:Ext K U H ac H1):vU K E C ac H1 Xk:=fun Y H' e'=>w Y H' (e.trans e')
inductive XE(X:Cx)(E:XK)(C:Value)(e:Expr)(tx:DTX):Prop|mk0 (t:TE) (p:PE X e t) (l:∀Z H ρ U Xk Q,St0 X.K H ρ U Z->tx ρ U Xk->vU X.K E C U H Xk->t Z H Q):XE X E C e tx
inductive XS(X:Cx)(E:XK)(C:Value)(st:Stmt)(tx:DTX):Prop|mk0 (t:TS) (p:PS X st t) (l:∀Z H ρ U Xk D,St0 X.K H ρ U Z->tx ρ U Xk->vU X.K E C U H Xk->t D Z H):XS X E C st tx
inductive XSs(X:Cx)(E:XK)(C:Value)(st:List Stmt)(tx:DTX):Prop|mk0 (t:TS) (p:PSs X st t) (l:∀Z H ρ U Xk D,St0 X.K H ρ U Z->tx ρ U Xk->vU X.K E C U H Xk->t D Z H):XSs X E C st tx
noncomputable def spX(K:PySem.W.Frag)(C:Value)(dsp:XSp):Sp:=fun vs H _ E=>∃(ds:List D) (U:Mu) (Xk:Mu->Prop),aV K U H/\fg K U H ds vs/\dsp ds U Xk/\vU K E C U H Xk
section
variable {X:Cx}{E:XK}{C:Value}{e:Expr}{es:List Expr}{t:DTA}{te:DTE}{tx ty:DTX}{p pos:Pos}{x:Str}{k:Nat}{f:Addr}{fd:FuncData}{ps:List Str}{dsp:XSp}{st:Stmt}{sts:List Stmt}
noncomputable def yc(dsp:XSp)(t:DTA):DTX:=fun ρ U Xk=>t ρ U fun ds ac=>dsp ds ac Xk
theorem Ee(F:dW X.prog X.w X.K X.mg X.base (CX1 X.prog X.w) k f fd ps (spX X.K C dsp))(hr:bC k X.A)(hg:Gl X x)(hm:X.mg x=some (.ref f))(hk:keepIn X.K (.ref f)=true)(hb:Binds X.K fd ps [])(hx:XOk X E)
  (ha:DA X (e::es) t) (hdb:(x==("__debug__":Str))=false:=by decide) (he:starEach (e::es) X.env=(false,eval e X.env)::starEach es X.env:=by rfl) (hpl:(backTo pos (starEach es X.env)).any (·.1)=false:=by rfl) :
  XE X E C (.Call (.Name x p) (e::es) [] pos) (yc dsp t):=by
 obtain⟨t1,p1,l1⟩:=ha
 refine⟨_,xg F hr hg hm hk hb .nil hx.pas p1 hdb he hpl,fun Z H ρ U Xk Q S h wsh=>?_⟩
 refine l1 Z H ρ U _ _ S h fun ds us ac H1 e1 S1 rs len h1=>?_
 exact⟨ds,ac,Xk,S1.mu,by rw[append_nil];exact rs,h1,wsh.on e1⟩
noncomputable def B2:DTX:=fun _ _ _=>False
theorem yO:XSs X E C sts B2:=⟨_,qN,fun _ _ _ _ _ _ _ h _=>h.elim⟩
noncomputable def xIf(tc:DTT)(tx ty:DTX):DTX:=fun ρ U Xk=>tc ρ U fun b ac=>if b=true then tx ρ ac Xk else ty ρ ac Xk
theorem JD{c:Expr}{a b:List Stmt}{tc:DTT}(hc:DT X c tc)(ha:XSs X E C a tx)(hb:XSs X E C b ty):XS X E C (.If c a b pos) (xIf tc tx ty):=by
 obtain⟨t0,p0,l0⟩:=hc
 obtain⟨t1,p1,l1⟩:=ha
 obtain⟨t2,p2,l2⟩:=hb
 refine⟨_,ES p0 p1 p2,fun Z H ρ U Xk D S h wsh=>?_⟩
 refine l0 Z H ρ U _ _ S h fun c ac H1 e1 S1 h1=>?_
 cases c with
 |true=>exact rO (l1 Z H1 ρ ac Xk D S1 (by simpa using h1) (wsh.on e1))
 |false=>exact rE (l2 Z H1 ρ ac Xk D S1 (by simpa using h1) (wsh.on e1))
theorem AQ(h:XS X E C st tx):XSs X E C (st::sts) tx:=by
 obtain⟨t1,p1,l1⟩:=h
 exact⟨_,n5 p1 qN,fun Z H ρ U Xk D S h wsh=>l1 Z H ρ U Xk _ S h wsh⟩
noncomputable def Bg(td:DTS)(tx:DTX):DTX:=fun ρ U Xk=>td {nx:=fun ap Y=>tx ap Y Xk,rt:=fun _ _=>False} ρ U
theorem zP{td:DTS}(h:DS X st td)(hr:XSs X E C sts tx):XSs X E C (st::sts) (Bg td tx):=by
 obtain⟨t1,p1,l1⟩:=h
 obtain⟨t2,p2,l2⟩:=hr
 refine⟨_,n5 p1 p2,fun Z H ρ U Xk D S h wsh=>?_⟩
 refine l1 Z H ρ U _ _ S h (fun al ap Y H' e' S' q=>?_) (fun d u Y H' e' ok r q=>q.elim) (fun al ap Y H' e' S' q=>q.elim) (fun al ap Y H' e' S' q=>q.elim)
 exact l2 al H' ap Y Xk D S' q (wsh.on e')
end
theorem _root_.L2.Fun.okX{P:Program}{w:World}{K:PySem.W.Frag}{mg:Str->Option Value}{base:Heap}{x qual:Str}{st:Stmt}{f:Addr}{fd:FuncData}{N ps:List Str}{k:Nat}{C:Value}{dsp:XSp}(F:Fun K x qual st f fd)(S:cP N ps (aI st))(len:∀ds U Xk,dsp ds U Xk->ds.length=ps.length)
  (hbody:∀(cdv:Value) (A:Around) (outer:List Env) (s:Shared) (H:Hp) (E:XK),bC k (A.deeper (envOfC qual (aI st) s.heap.objs.size f cdv)) ->
   ∃tx,XSs (eG (CX1 P w) P w K mg base N qual (aI st) f cdv A outer s H E) E C (bT st) tx/\∀ds U Xk,dsp ds U Xk->tx (ao N ds) U Xk):dW P w K mg base (CX1 P w) (k+1) f fd ps (spX K C dsp):=by
 obtain⟨oc,od,kV,doc,pm,an,cdv,ct,osl,rfl,lk,hcd⟩:=F.ex
 refine Ep lk hcd S (fun vs H Q E h=>?_) fun A outer s H vs Q E hr hsp=>?_
 ·obtain⟨ds,U,Xk,_,r,h,_⟩:=h
  rw[<- r.length];exact len ds U Xk h
 ·obtain⟨tx,⟨t,p,l⟩,q⟩:=hbody cdv A outer s H E hr
  obtain⟨ds,U,Xk,ok,r,h,wsh⟩:=hsp
  exact⟨t,p,l (start N vs) H (ao N ds) U Xk _ ⟨ok,rj r⟩ (q ds U Xk h) wsh⟩
theorem CY{K:PySem.W.Frag}{h:Heap}{C:Addr}{bmB:List Value}{newId:String}(X:K.In h)(q:excIn K C bmB newId=true) :
  ∃bm N nm q bs hdct sn sub ab col dd k0 k1 k2 k3 k5 mN,h.get? C=some (excClassObj nm q C N bs bm hdct sn sub ab col dd k0 k1 k2 k3 k5 newId)/\h.Ns N mN/\mN "__init__"=none/\OwnTail h bmB bm:=by
 unfold excIn at q
 split at q;rotate_left;· cases q
 rename_i dd cd sl ho;split at q;rotate_left;· cases q
 rename_i C' bm k0 k1 k2 k3 n k5 hm hs
 simp only[and_eq_true,beq_iff_eq,Bool.not_eq_true'] at q;obtain⟨⟨⟨⟨⟨rfl,rfl⟩,hdel⟩,ht⟩,hok⟩,hni⟩:=q
 obtain⟨nm,bs,mro,ns,qn,hd,sn,sub,ab,col,del⟩:=cd;dsimp only at hm hdel hok hni;subst hm hdel
 obtain rfl:sl = #[k0,k1,k2,k3,some (.builtin n),k5]:=by obtain⟨l⟩:=sl;exact congrArg Array.mk hs
 exact⟨bm,ns,nm,qn,bs,hd,sn,sub,ab,col,dd,k0,k1,k2,k3,k5,_,X _ _ ho,.of_isNs (PySem.W.isNs_of_in X hok),PySem.W.nsMap_none_of_in X hok hni,PySem.W.tail_of_in X ht⟩
section
variable {X:Cx}{E:XK}{x:Str}{C:Addr}
theorem Al{txt:Str}{j}{np kp cpos pos:Pos}(hx:XOk X E)(hg:Gl X x)(hm:X.mg x=some (.ref C))(hq:excIn X.K C bmV "ValueError.__new__"=true)(hc:X.calm=true:=by rfl)(hdb:(x==("__debug__":Str))=false:=by decide)
  (hs:starEach [.Constant (.str txt) j kp] X.env=[(false,eval (.Constant (.str txt) j kp) X.env)]:=by rfl) :
  XS X E (.ref C) (.Raise (some (.Call (.Name x np) [.Constant (.str txt) j kp] [] cpos)) none pos) (fun _ U Xk=>Xk U):=by
 refine⟨fun D Z H=>E (.ref C) none H,fun pins s Z H D I h=>?_,fun Z H ρ U Xk D S h wsh=>wsh U H .refl S.mu h⟩
 obtain⟨tl,N,nm,q,bs,hdct,sn,sub,ab,col,dd,k0,k1,k2,k3,k5,mN,hC,hN,hni,T⟩:=CY I.mod.kin hq
 refine wpAny_Raise_call_subT (C:=C) (nm:=nm) (q:=q) (N:=N) (bs:=bs) (bm:=tl) (hdct:=hdct) (sn:=sn) (sub:=sub) (ab:=ab) (col:=col) (dd:=dd) (k0:=k0) (k1:=k1) (k2:=k2) (k3:=k3) (k5:=k5)
  PySem.F.excBase_ValueError (mN:=mN) (T.hasType PySem.F.excBase_ValueError.hasBase) (I.ok.hd hc) (by rw[hs];rfl) hni (kr I hg hm ⟨rfl,?_⟩ hdb)
 have pa:=cT (X:=X) (es:=[]) (Bf (x:=txt) (j:=j) (pos:=kp)) iz (by rw[hs];rfl) cpos pins s Z H (fun vs H1=>vs.length=1/\H1=H) I ⟨rfl,rfl⟩
 rw[hs] at pa ⊢
 refine Calls.evalArgs_plain (thn pa fun us s2 hq0=>?_)
 obtain⟨vs,H1,I1,r,l,e1⟩:=hq0
 subst e1
 exact⟨rfl,by rw[<- r.length,l];decide,I1.bk _ _ hC,hN.keeps I1.bk,T.keeps I1.bk,fun h' e hm'=>hx.new pins Z H1 s2 e _ _ h' I1 hm' h⟩
end
structure ny(K:PySem.W.Frag)(C:Addr):Prop where
 ga:findIn K (.ref C) "__getattribute__"=some (some (.builtin "BaseException.__getattribute__"))
 gx:findIn K (.ref C) "__getattr__"=some none
 cl:findIn K (.ref C) "__class__"=some (some (.builtin "object.__class__"))
 ob:mroIn K C (.type "object")=some true
 be:mroIn K C (.type "BaseException")=some true
 ci:(clsIn K C).isSome=true
section
variable {prog:Program}{w:World}{A:Around}{E:Value->Shared->Prop}{h:Heap}{g:Array GenState}{d:Drawn}{t:Nat}{os:OsState}{a C:Addr}{o:Obj}{K:PySem.W.Frag}
theorem Ds{R:Result->Shared->Prop}(X:K.In h)(ZY:ny K C)(hx:h.get? a=some o)(hc:o.cls = .ref C)(hq:R (.ok (.ret (.ref C))) ⟨h,g,d,t,os⟩) :
  codeAny (model prog w) A (.call (.builtin "getset_descriptor.__get__") ⟨[.builtin "object.__class__",.ref a,.ref C],[]⟩) R ⟨h,g,d,t,os⟩:=by
 have hT5:(⟨h,g,d,t,os⟩:Shared).TypeIs (.builtin "object.__class__") "getset_descriptor":=F.typeOf_object_class
 have sub:∀{A':Around} {Q':Bool->Shared->Prop} {E':Value->Shared->Prop} {g' d' t' os'},Q' true ⟨h,g',d',t',os'⟩->wpAny (model prog w) A' (isSubtype (.ref C) (.type (".".intercalate ("object.__class__".cutAt '.').dropLast))) Q' E' ⟨h,g',d',t',os'⟩:=fun q=>by
  rw[F.owner_object_class];exact (PySem.W.looks_mroIn X ZY.ob).here q
 refine codeAny_call_builtin F.slot_gs_get.plain F.entry_gs_get (F.slot_gs_get.check _ _ _ _ _ _ _ _ hT5 (F.args_gs_get _ _ _) ?_)
 repeat (any_goals (first|assumption|(with_reducible refine wpAny_loadPart_at hx ?_;rw[hc])|with_reducible refine sub ?_|wp_step))
 refine⟨Code.quiet_builtin _ nofun,codeAny_builtin F.entry_object_class ?_⟩
 repeat (any_goals (first|assumption|(with_reducible refine wpAny_loadPart_at hx ?_;rw[hc])|wp_step))
theorem yX{tk:Tok}{Q:Fin->Shared->Prop}(X:K.In h)(ZY:ny K C)(hx:h.get? a=some o)(hc:o.cls = .ref C)(hq:Q (.done (.ret (.ref C))) ⟨h,g,d,t,os⟩) :
  wpAny (model prog w) A (Builtin.«object.__getattribute__» ⟨[.ref a,.str "__class__" tk],[]⟩) Q E ⟨h,g,d,t,os⟩:=by
 have hT5:(⟨h,g,d,t,os⟩:Shared).TypeIs (.builtin "object.__class__") "getset_descriptor":=F.typeOf_object_class
 have f5:=F.typeOf_object_class;have f6:=F.slot_gs_get.lookup;have f7:=F.slot_gs_set.lookup
 have lk:∀{A':Around} {Q':Option Value->Shared->Prop} {E':Value->Shared->Prop} {g' d' t' os'},Q' (some (.builtin "object.__class__")) ⟨h,g',d',t',os'⟩->wpAny (model prog w) A' (typeLookup (.ref C) "__class__") Q' E' ⟨h,g',d',t',os'⟩:=fun q=>(PySem.W.looks_findIn X ZY.cl).here q
 repeat (any_goals (first|assumption|(with_reducible refine wpAny_loadPart_at hx ?_;rw[hc])|with_reducible refine lk ?_|wp_step))
 refine Ds X ZY hx hc ?_
 repeat (any_goals (first|assumption|wp_step))
theorem yS{nv:Value}{Q:Unit->Shared->Prop}(X:K.In h)(ZY:ny K C)(hx:h.get? a=some o)(hc:o.cls = .ref C)(hq:Q () ⟨h,g,d,t,os⟩):wpAny (model prog w) A (checkBuiltinCall "BaseException.__getattribute__" ⟨[.ref a,nv],[]⟩) Q E ⟨h,g,d,t,os⟩:=by
 have hk:builtinKind "BaseException.__getattribute__"=some .slot:=nofun
 have hsp:splitId "BaseException.__getattribute__"=some ("BaseException","__getattribute__"):=nofun
 have ha:=F.args_bexc_ga (.ref a) nv
 have sub:∀{A':Around} {Q':Bool->Shared->Prop} {E':Value->Shared->Prop} {g' d' t' os'},Q' true ⟨h,g',d',t',os'⟩->wpAny (model prog w) A' (isSubtype (.ref C) (.type "BaseException")) Q' E' ⟨h,g',d',t',os'⟩:=fun q=>(PySem.W.looks_mroIn X ZY.be).here q
 simp only[checkBuiltinCall,hk,hsp]
 refine wpAny_bind ?_
 unfold isInstance
 repeat (first|(with_reducible refine wpAny_loadPart_at hx ?_;rw[hc])|with_reducible refine sub ?_|wp_step)
 exact hq
theorem zE{tk:Tok}{R:Result->Shared->Prop}(X:K.In h)(ZY:ny K C)(hx:h.get? a=some o)(hc:o.cls = .ref C)(hq:R (.ok (.ret (.ref C))) ⟨h,g,d,t,os⟩) :
  codeAny (model prog w) A (.call (.builtin "BaseException.__getattribute__") ⟨[.ref a,.str "__class__" tk],[]⟩) R ⟨h,g,d,t,os⟩:=
 codeAny_call_builtin F.attr_ValueError.ga.plain F.entry_bexc_ga (yS X ZY hx hc (yX X ZY hx hc hq))
theorem GR{tk:Tok}{Q:Value->Shared->Prop}(X:K.In h)(ZY:ny K C)(hx:h.get? a=some o)(hc:o.cls = .ref C)(hq:Q (.ref C) ⟨h,g,d,t,os⟩):wpAny (model prog w) A (getAttrBy (.ref a) (.str "__class__" tk) false) Q E ⟨h,g,d,t,os⟩:=by
 have f3:=F.attr_ValueError.ga.bind (.ref a)
 have hx2:(Value.builtin "BaseException.__getattribute__"==Value.builtin "object.__getattribute__")=false:=nofun
 have hx1:(onTheHeap (Value.ref C)&&Value.builtin "BaseException.__getattribute__"==Value.builtin "object.__getattribute__")=false:=by rw[hx2];rfl
 have lk:∀{A':Around} {Q':Option Value->Shared->Prop} {E':Value->Shared->Prop} {g' d' t' os'},Q' (some (.builtin "BaseException.__getattribute__")) ⟨h,g',d',t',os'⟩->wpAny (model prog w) A' (typeLookup (.ref C) "__getattribute__") Q' E' ⟨h,g',d',t',os'⟩:=fun q=>(PySem.W.looks_findIn X ZY.ga).here q
 have lx:∀{A':Around} {Q':Option Value->Shared->Prop} {E':Value->Shared->Prop} {g' d' t' os'},Q' none ⟨h,g',d',t',os'⟩->wpAny (model prog w) A' (typeLookup (.ref C) "__getattr__") Q' E' ⟨h,g',d',t',os'⟩:=fun q=>(PySem.W.looks_findIn X ZY.gx).here q
 repeat (any_goals (first|assumption|(with_reducible refine wpAny_loadPart_at hx ?_;rw[hc])|with_reducible refine lk ?_|with_reducible refine lx ?_|wp_step))
 refine zE X ZY hx hc ?_
 repeat (any_goals (first|assumption|wp_step))
theorem zQ{Q:Option Value->Shared->Prop}(X:K.In h)(ZY:ny K C)(hx:h.get? a=some o)(hc:o.cls = .ref C)(hq:Q (some (.ref C)) ⟨h,g,d,t+1,os⟩):wpAny (model prog w) A (getAttr? (.ref a) "__class__") Q E ⟨h,g,d,t,os⟩:=by
 unfold getAttr? getAttrBy?
 repeat (any_goals (first|assumption|with_reducible apply GR X ZY hx hc|wp_step))
theorem zK(ZY:ny K C):PySem.W.KitX K (.ref a) (.ref C) (fun h=>∃o,h.get? a=some o/\o.cls = .ref C) where
 ty:=fun M h X ⟨o,e,c⟩=>by
  intro A' Q' E' s' k q
  unfold typeOf
  refine wpAny_bind (wpAny_loadPart (k _ _ e) ?_)
  rw[c]
  exact wpAny_pure q
 it:=fun M h X _=>by
  have z:=ZY.ci
  unfold clsIn at z
  split at z
  ·rename_i ho
   intro A' Q' E' s' k q
   unfold isType loadHead
   exact wpAny_bind (wpAny_loadPart (k _ _ (X _ _ ho)) (wpAny_pure q))
  ·cases z
 ne:=fun h tp dd its n sl X htp=>by
  refine Bool.eq_false_iff.mpr fun q=>?_
  obtain rfl:C=tp:=Value.ref.inj (beq_iff_eq.mp q)
  have z:=ZY.ci
  unfold clsIn at z
  split at z
  ·rename_i ho;have z':=(X _ _ ho).symm.trans htp;cases z'
  ·cases z
 ca:=fun {_ _ _ _ _ s} X ⟨o,e,c⟩ k=>by obtain⟨h,g,d,t,os⟩:=s;exact zQ X ZY e c k
end
theorem xo:∀{x:Option Value},zC x=true->∃a b,x=some (.str a b)
 |some (.str a b),_=>⟨a,b,rfl⟩
theorem xq:∀{x:Option Value},wz x=true->∃a b,x=some (.int a b)
 |some (.int a b),_=>⟨a,b,rfl⟩
theorem CD:∀{x:Option Value},D3 x=true->∃a,x=some (.bool a)
 |some (.bool a),_=>⟨a,rfl⟩
theorem pC{o:Obj}{r:Addr×Str}(e:aU o=some r):∃vs,o.data = .fields vs/\o.cls = .type "code"/\ye vs=some r:=by
 obtain⟨c,d,f,sl⟩:=o
 cases f with
 |fields vs=>
  by_cases h:c = .type "code"
  ·exact⟨vs,rfl,h,(if_pos (c:=(c=Value.type "code")) h).symm.trans e⟩
  ·exact nomatch (if_neg (c:=(c=Value.type "code")) h).symm.trans e
 |_=>exact nomatch e
theorem CO:∀{x:Option Value},Hr x=true->∃a,x=some (.ref a)
 |some (.ref a),_=>⟨a,rfl⟩
theorem tT{vs:Array Value}{r:Addr×Str}(e:ye vs=some r):∃q t P,vs[1]? = some (.str q t)/\vs[11]? = some (.ref P)/\wz vs[7]? = true/\D3 vs[9]? = true/\wz vs[10]? = true/\zC vs[18]? = true/\r=(P,q):=by
 unfold ye at e
 generalize vs[1]? = v1 at e ⊢
 generalize vs[11]? = v2 at e ⊢
 generalize vs[7]? = v3 at e ⊢
 generalize vs[9]? = v4 at e ⊢
 generalize vs[10]? = v5 at e ⊢
 generalize vs[18]? = v6 at e ⊢
 generalize hb:(zC v1&&(Hr v2&&(wz v3&&(D3 v4&&(wz v5&&(zC v6&&vm.contains (HU v1)))))))=b at e
 cases b with
 |false=>exact nomatch e
 |true=>
  have a1:=(Bool.and_eq_true_iff.mp hb)
  have a2:=(Bool.and_eq_true_iff.mp a1.2)
  have a3:=(Bool.and_eq_true_iff.mp a2.2)
  have a4:=(Bool.and_eq_true_iff.mp a3.2)
  have a5:=(Bool.and_eq_true_iff.mp a4.2)
  obtain⟨q,t,rfl⟩:=xo a1.1
  obtain⟨P,rfl⟩:=CO a2.1
  exact⟨q,t,P,rfl,rfl,a3.1,a4.1,a5.1,(Bool.and_eq_true_iff.mp a5.2).1,(Option.some.inj e).symm⟩
theorem Ct{K:PySem.W.Frag}{h:Heap}{c P:Addr}{o:Obj}{q:Str}(X:K.In h)(l:K.lookup c=some o)(e:aU o=some (P,q))(ne:c≠P):PySem.W.CodeHd h c P:=by
 obtain⟨vs,hd,hcls,e⟩:=pC e
 obtain⟨q',t',P',e1,e11,e7,e9,e10,e18,z⟩:=tT e
 cases z
 obtain⟨f2,f3,e7⟩:=xq e7
 obtain⟨f4,e9⟩:=CD e9
 obtain⟨f5,f6,e10⟩:=xq e10
 obtain⟨f7,f8,e18⟩:=xo e18
 refine⟨o,vs,f7,f8,f2,f3,f4,f5,f6,X _ _ l,hcls,hd,e11,?_,?_,?_,?_,?_,ne⟩
 ·rw[Array.getD_eq_getD_getElem?,e11];rfl
 ·rw[Array.getD_eq_getD_getElem?,e18];rfl
 ·rw[Array.getD_eq_getD_getElem?,e7];rfl
 ·rw[Array.getD_eq_getD_getElem?,e9];rfl
 ·rw[Array.getD_eq_getD_getElem?,e10];rfl
noncomputable def Gn(K:PySem.W.Frag)(mg:Str->Option Value):Prop:=∃bm ob,mg "__builtins__"=some (.ref bm)/\bm≠builtinsNs/\K.lookup bm=some ob/\ob.cls = .type "module"/\ob.dict=some builtinsNs/\ob.data = .plain
theorem zq{pos:Pos}{w:Value}{l3:List Value}:∀{l:List Value},TriplesOk l->codeAmong pos l=some w->codeAmong pos (l++l3)=some w:=by
 intro l
 fun_induction TriplesOk l with
 |case1=>intro _ e;simp[codeAmong] at e
 |case2 a t b u x rest ih=>
  intro h e
  simp only[cons_append,codeAmong] at e ⊢
  split at e
  ·rename_i hc;rw[if_pos hc];exact e
  ·rename_i hc;rw[if_neg hc];exact ih h e
 |case3 l h1 h2=>intro h;exact h.elim
theorem ym{pos lpos:Pos}{cv:Value}{c:Value}:∀{l:List Value},TriplesOk l->codeAmong pos l=none->codeAmong pos (l++[rawInt lpos.line,rawInt lpos.col,c])=some cv->cv=c:=by
 intro l
 fun_induction TriplesOk l with
 |case1=>
  intro _ _ e
  simp only[nil_append,codeAmong,rawInt] at e
  split at e
  ·exact (Option.some.inj e).symm
  ·cases e
 |case2 a t b u x rest ih=>
  intro h n e
  simp only[cons_append,codeAmong] at n e
  split at n
  ·cases n
  ·rename_i hc;rw[if_neg hc] at e;exact ih h n e
 |case3 l h1 h2=>intro h;exact h.elim
section
variable {X:Cx}{pins:List (Addr×Obj)}{Z:St}{H:Hp}{s:Shared}
theorem yo{P c':Addr}{ps:Array Value}{l3:List Value}{h':Heap}{tk:Nat}{φ:Heap->Prop}(I:Inv X pins Z H s)(hP:H P=some (.tbl ps))(hx:Heap.ExtBut P s.heap h')(ht:h'.get? P=some (tabObj (ps++l3.toArray)))(hc:s.heap.objs.size<=c')(wl:φ h')(hc':∃o,h'.get? c'=some o)(hst:∀h1 h2:Heap,φ h1->(∀o,h1.get? c'=some o->h2.get? c'=some o)->φ h2) :
  Inv X pins Z (upd (upd H P (.tbl (ps++l3.toArray))) c' (.ext φ)) {s with heap:=h',toks:=tk}:=by
 have fc:H c'=none:=I.hok.fresh hc
 have nPc:P≠c':=av hP fc
 have low:∀b o,s.heap.get? b=some o->b≠c':=fun b o e z=>absurd (Heap.lt_size e) (by rw[z];exact Nat.not_lt.mpr hc)
 have old:∀b,b≠P->b≠c'->upd (upd H P (.tbl (ps++l3.toArray))) c' (.ext φ) b=H b:=fun b h1 h2=>by rw[aG h2,aG h1]
 have atP:upd (upd H P (.tbl (ps++l3.toArray))) c' (.ext φ) P=some (.tbl (ps++l3.toArray)):=by rw[aG nPc];exact bj
 refine I.un (t':=tk) ⟨fun b o e n _ _=>hx b o (fun z=>by rw[z,hP] at n;cases n) e,fun b o e n _ _=>⟨o.slots,hx b o (fun z=>by rw[z,hP] at n;cases n) e⟩,fun b o e n _=>?_,fun b o e _=>?_,fun b xs e=>?_,fun b o u e=>?_,fun b qs e=>?_⟩ fun b o e=>?_
 ·rw[old b (fun z=>by rw[z,hP] at n;cases n) (low b o e)];exact n
 ·by_cases z:b=P
  ·exact⟨_,by rw[z];exact ht⟩
  ·exact⟨o,hx b o z e⟩
 ·rw[old b (fun z=>by rw[z,hP] at e;cases e) (av e fc)];exact e
 ·rw[old b (fun z=>by rw[z,hP] at e;cases e) (av e fc)];exact e
 ·by_cases z:b=P
  ·rw[z] at e;rw[hP] at e;cases e
   exact⟨l3.toArray,by rw[z];exact atP⟩
  ·exact⟨#[],by rw[old b z (av e fc)];simpa using e⟩
 ·by_cases zc:b=c'
  ·subst zc
   rw[bj] at e;cases e
   exact⟨wl,hc',hst⟩
  ·by_cases z:b=P
   ·subst z
    rw[atP] at e;cases e
    exact ht
   ·rw[old b z zc] at e
    refine (I.hok b o e).nc (fun d u hd q=>hx d u ?_ q) (fun d q=>?_) fun d xs q=>?_
    ·rcases hd with rfl|hd
     ·exact z
     ·exact fun y=>by rw[y,hP] at hd;cases hd
    ·rw[old d (fun y=>by rw[y,hP] at q;cases q) (av q fc)];exact q
    ·rw[old d (fun y=>by rw[y,hP] at q;cases q) (av q fc)];exact q
theorem zG{K:PySem.W.Frag}{P c':Addr}{ps:Array Value}{q:Str}{lpos:Pos}(t:pR K H)(hP:H P=some (.tbl ps))(htr:TriplesOk ps.toList)(hcs:∀pos cv,codeAmong pos ps.toList=some cv->∃c,cv = .ref c/\H c=some (.ext (codeAt c (aX q))))(hf:codeAmong lpos ps.toList=none)(fc:H c'=none)
  (hu:∀c2 o2 q2,K.lookup c2=some o2->aU o2=some (P,q2)->q2=q) :
  pR K (upd (upd H P (.tbl (ps++[rawInt lpos.line,rawInt lpos.col,.ref c'].toArray))) c' (.ext (codeAt c' (aX q)))):=fun c2 o2 P2 q2 l2 e2=>by
 have nPc:P≠c':=av hP fc
 have old:∀b,b≠P->b≠c'->upd (upd H P (.tbl (ps++[rawInt lpos.line,rawInt lpos.col,.ref c'].toArray))) c' (.ext (codeAt c' (aX q))) b=H b:=fun b h1 h2=>by rw[aG h2,aG h1]
 have cold:∀c qq,H c=some (.ext (codeAt c qq))->upd (upd H P (.tbl (ps++[rawInt lpos.line,rawInt lpos.col,.ref c'].toArray))) c' (.ext (codeAt c' (aX q))) c=some (.ext (codeAt c qq)):=fun c qq h=>by rw[old c (fun z=>by rw[z,hP] at h;cases h) (av h fc)];exact h
 by_cases z:P2=P
 ·subst z
  obtain rfl:=hu c2 o2 q2 l2 e2
  refine⟨_,by rw[aG nPc];exact bj,by rw[Array.toList_append];exact TriplesOk_snoc _ _ _ _ htr,fun pos cv e=>?_⟩
  rw[Array.toList_append] at e
  cases hp:codeAmong pos ps.toList with
  |some w=>
   obtain⟨c,hw,hc⟩:=hcs pos w hp
   have:codeAmong pos (ps.toList++[rawInt lpos.line,rawInt lpos.col,.ref c'])=some w:=zq htr hp
   have e':some w=some cv:=this.symm.trans e
   cases e'
   exact⟨c,hw,cold c _ hc⟩
  |none=>
   have:=ym htr hp (show codeAmong pos (ps.toList++[rawInt lpos.line,rawInt lpos.col,.ref c'])=some cv from e)
   exact⟨c',this,bj⟩
 ·obtain⟨qs,a1,a2,a3⟩:=t c2 o2 P2 q2 l2 e2
  exact⟨qs,by rw[old P2 z (av a1 fc)];exact a1,a2,fun pos cv e=>let ⟨c,w1,w2⟩:=a3 pos cv e;⟨c,w1,cold c _ w2⟩⟩
theorem Ia{U:Mu}{params:Arguments}{body:Expr}{lsc:Scope}{lpos:Pos}{cl:List (Str×Addr)}{c P:Addr}{o:Obj}{q:Str}{Qd:Value->Shared->Prop}(I:Inv X pins Z H s)(ok:aV X.K U H)(hcode:X.env.code = .ref c)(hl:X.K.lookup c=some o)
  (hlc:aU o=some (P,q)) (hu:∀c2 o2 q2,X.K.lookup c2=some o2->aU o2=some (P,q2)->q2=q) (hq:X.env.qual=q ++ ".<locals>.") (hB:Gn X.K X.mg) (hcl:closureFor lsc X.env=pure cl) (hdef:defaultsOf params X.env=([],[]))
  (k:∀(fa c1:Addr) (ctv pm:Value) (H1:Hp) (s1:Shared),Inv X pins Z H1 s1->Ext X.K U H U H1->aV X.K U H1->s1.heap.get? fa=some {cls:=.type "function",data:=.func (kla_fn "<lambda>" (aX q) params body lsc cl pm (.ref c1) ctv)}->H1 fa=none->fa ∉ frs X.stack->H1 c1=some (.ext (codeAt c1 (aX q)))->Qd (.ref fa) s1) :
  wpAny (model X.prog X.w) X.A (eval (.Lambda params body lsc lpos) X.env) Qd X.xe s:=by
 refine PySem.W.kla_eval hdef ?_
 rw[hq]
 obtain⟨ps,hP,htr,hcs⟩:=ok.tab c o P q hl hlc
 have getP:s.heap.get? P=some (tabObj ps):=I.hok P _ hP
 have nK:∀b ob,X.K.lookup b=some ob->b≠P:=fun b ob e z=>by
  have:=(I.bs b ob (I.mod.kin b ob e)).2
  rw[z,hP] at this;cases this
 have C:=Ct I.kIn hl hlc (nK c o hl)
 have hg:s.heap.Ns mainGlobals X.mg:=I.mod.glob.keeps I.bk
 have hgP:mainGlobals≠P:=fun z=>by
  obtain⟨og,es,ep,e,d,_⟩:=hg
  rw[z,getP] at e;cases e;cases d
 have hb:s.heap.BuiltinsAt X.mg P:=by
  obtain⟨bm,ob,b1,b2,b3,b4,b5,b6⟩:=hB
  refine⟨bm,ob,b1,b2,fun z=>?_,nK bm ob b3,I.kIn _ _ b3,b4,b5,b6⟩
  obtain⟨og,es,ep,e,d,_⟩:=hg
  rw[<- z,I.kIn _ _ b3] at e;cases e;rw[b6] at d;cases d
 have stk:∀b,s.heap.objs.size<=b->b ∉ frs X.stack:=fun b hb hm=>by
  obtain⟨_,ob,e,_⟩:=I.stack.mem hm
  exact absurd (Heap.lt_size e) (Nat.not_lt.mpr hb)
 cases hf:codeAmong lpos ps.toList with
 |some cv=>
  obtain⟨c1,rfl,hc1⟩:=hcs lpos cv hf
  refine PySem.W.kla_makeFunctionHit hcl I.ok.glob hg hcode C getP htr hf hb fun ctv h' tk hk hsz=>?_
  have I2:Inv X pins Z H {s with heap:=h'.push {cls:=.type "function",data:=.func (kla_fn "<lambda>" (aX q) params body lsc cl ((X.mg "__name__").getD .none) (.ref c1) ctv)},toks:=tk}:=I.kept (t':=tk) fun b u e=>Heap.get?_push_of_some _ (hk b u e)
  exact k h'.objs.size c1 ctv _ H _ I2 .refl ok (Heap.get?_push_size _ rfl) (I.hok.fresh hsz) (stk _ hsz) hc1
 |none=>
  refine PySem.W.kla_makeFunction hcl I.ok.glob hg hcode C getP htr hf hgP hb fun c' ctv h' tk hx hge hlt hrec htb=>?_
  have hca:codeAt c' (aX q) h':=by
   obtain⟨c2,oc,vs,t,e2,g2,d2,v2⟩:=hrec
   cases e2
   exact⟨oc,vs,t,g2,d2,v2⟩
  have fc:H c'=none:=I.hok.fresh hge
  have I1:Inv X pins Z (upd (upd H P (.tbl (ps++[rawInt lpos.line,rawInt lpos.col,.ref c'].toArray))) c' (.ext (codeAt c' (aX q)))) {s with heap:=h',toks:=tk}:=yo (φ:=codeAt c' (aX q)) I hP hx htb hge hca (let ⟨oc,_,_,g2,_⟩:=hca;⟨oc,g2⟩) (fun h1 h2 ⟨oc,vs,t,g2,d2,v2⟩ kk=>⟨oc,vs,t,kk _ g2,d2,v2⟩)
  have I2:Inv X pins Z (upd (upd H P (.tbl (ps++[rawInt lpos.line,rawInt lpos.col,.ref c'].toArray))) c' (.ext (codeAt c' (aX q)))) {s with heap:=h'.push {cls:=.type "function",data:=.func (kla_fn "<lambda>" (aX q) params body lsc cl ((X.mg "__name__").getD .none) (.ref c') ctv)},toks:=tk}:=I1.kept (t':=tk) fun b u e=>Heap.get?_push_of_some _ e
  have old:∀b,b≠P->b≠c'->upd (upd H P (.tbl (ps++[rawInt lpos.line,rawInt lpos.col,.ref c'].toArray))) c' (.ext (codeAt c' (aX q))) b=H b:=fun b h1 h2=>by rw[aG h2,aG h1]
  have nPc:P≠c':=av hP fc
  have ex:Ext X.K U H U (upd (upd H P (.tbl (ps++[rawInt lpos.line,rawInt lpos.col,.ref c'].toArray))) c' (.ext (codeAt c' (aX q)))):=⟨fun b u e n nt=>by rw[old b (fun z=>by rw[z,hP] at e;cases e;exact nt) (av e fc)];exact e,fun b qs e n=>by
   by_cases z:b=P
   ·exact⟨_,by rw[z,aG nPc];exact bj⟩
   ·exact⟨qs,by rw[old b z (av e fc)];exact e⟩,fun _ ds e=>⟨ds,e⟩,fun _ e _=>e,fun b o e _=>by
   by_cases z:b=P
   ·exact⟨_,by rw[z,aG nPc];exact bj⟩
   ·exact⟨o,by rw[old b z (av e fc)];exact e⟩,fun _ c e=>⟨c,e⟩⟩
  have mu:aV X.K U (upd (upd H P (.tbl (ps++[rawInt lpos.line,rawInt lpos.col,.ref c'].toArray))) c' (.ext (codeAt c' (aX q)))):=⟨fun a ds e=>by
   obtain⟨xs,h1,h2⟩:=ok a ds e
   exact⟨xs,by rw[old a (fun z=>by rw[z,hP] at h1;cases h1) (av h1 fc)];exact h1,h2.ext ok ex⟩,zG ok.tab hP htr hcs hf fc hu,fun a c e=>by
   obtain⟨y,o,h1,h2⟩:=ok.box a c e
   exact⟨y,o,by rw[old a (fun z=>by rw[z,hP] at h1;cases h1) (av h1 fc)];exact h1,h2.ext ok ex⟩⟩
  have hfr:s.heap.objs.size<=h'.objs.size:=le_trans hge (Nat.le_of_lt hlt)
  refine k h'.objs.size c' ctv _ _ _ I2 ex mu (Heap.get?_push_size _ rfl) ?_ (stk _ hfr) bj
  have:h'.objs.size≠c':=Nat.ne_of_gt hlt
  by_cases z:h'.objs.size=P
  ·exact absurd (Heap.lt_size getP) (by rw[<- z];exact Nat.not_lt.mpr hfr)
  ·rw[old _ z this];exact I.hok.fresh hfr
end
noncomputable def lT(lsc:Scope)(cl:List (Str×Addr))(q:Str)(fa c1 L:Addr):Env:={scope:=lsc,locals:=L,globals:=mainGlobals,cells:=cl,qual:=q ++ ".<locals>.",func:=some fa,code:=.ref c1,frame:=some L,builtins:=builtinsNs}
noncomputable def jE(P:Program)(w:World)(K:PySem.W.Frag)(mg:Str->Option Value)(base:Heap)(N:List Str)(lsc:Scope)(cl:List (Str×Addr))(q:Str)(fa c1:Addr)(A:Around)(outer:List Env)(s:Shared)(H:Hp)(E:XK):Cx where
 prog:=P
 w:=w
 K:=K
 mg:=mg
 base:=base
 A:=A.deeper (lT lsc cl q fa c1 s.heap.objs.size)
 N:=N
 db:=s
 H₀:=H
 env:=lT lsc cl q fa c1 s.heap.objs.size
 outer:=outer
 stack:=lT lsc cl q fa c1 s.heap.objs.size::outer
 ex:=[]
 calm:=true
 fn:=fun _=>false
 pn:=[]
 xe:=fun e s'=>wpAny (model P w) (A.deeper (lT lsc cl q fa c1 s.heap.objs.size)) (leaving (lT lsc cl q fa c1 s.heap.objs.size) e) (fun _ s''=>CX1 P w outer H s E e s'') (fun e' s''=>CX1 P w outer H s E e' s'') s'
section
variable {P:Program}{w:World}{K:PySem.W.Frag}{mg:Str->Option Value}{base:Heap}{N:List Str}{lsc:Scope}{cl:List (Str×Addr)}{q:Str}{fa c1:Addr}{A:Around}{outer:List Env}{s:Shared}{H:Hp}{E:XK}{Z:St}{k:Nat}{params:Arguments}{body:Expr}{pm ctv:Value}{t:TE}
theorem Ed:XOk (jE P w K mg base N lsc cl q fa c1 A outer s H E) E where
 new:=fun pins Z H1 s1 ea cls vs h1 I hx qq=>leave_new (X:=jE P w K mg base N lsc cl q fa c1 A outer s H E) ⟨rfl,rfl,rfl⟩ I hx qq
 pas:=fun pins Z H1 s1 e s' I h=>rh (X:=jE P w K mg base N lsc cl q fa c1 A outer s H E) ⟨rfl,rfl,rfl⟩ I h
structure Clo(lsc:Scope)(cl:List (Str×Addr))(N:List Str)(Z:St)(h:Heap)(H:Hp):Prop where
 cell:∀x c,cl.lookup x=some c->∃v,h.IsCell c v
 free:∀x c,cl.lookup x=some c->H c=none
 inj:∀x y c,cl.lookup x=some c->cl.lookup y=some c->x=y
 has:∀x,lsc.names.lookup x=some .cell\/lsc.names.lookup x=some .free->∃a,cl.lookup x=some a
 vals:∀(i:Nat) (x:Str) (v:V),N[i]? = some x->Z[i]? = some (some v)->Vis lsc x->∃u c,RelV v u/\lsc.names.lookup x=some .free/\cl.lookup x=some c/\h.IsCell c (some u)
 len:Z.length=N.length
theorem AN{Q:VK}(hk:lsc.kind = .function)(hco:lsc.isCoroutine=false)(hgen:lsc.isGenerator=false)(hcell:∀y∈lsc.names,y.2≠.cell)(hr:bC (k+1) A)(e0:uB P w K mg base A outer s H)
  (ho:s.heap.get? fa=some {cls:=.type "function",data:=.func (kla_fn "<lambda>" q params body lsc cl pm (.ref c1) ctv)}) (hcd:H c1=some (.ext (codeAt c1 q))) (hbind:bindArgs (kla_fn "<lambda>" q params body lsc cl pm (.ref c1) ctv) ⟨[],[]⟩=pure [])
  (C:Clo lsc cl N Z s.heap H) (pe:PE (jE P w K mg base N lsc cl q fa c1 A outer s H E) body t) (ht:t Z H Q) :
  codeAny (model P w) A (.call (.ref fa) ⟨[],[]⟩) (CR (CX1 P w) outer P w H s Q E) s:=by
 have crec:s.heap.CodeRec (.ref c1) q:=by
  obtain⟨⟨o,vs,t,g,d,v⟩,_,_⟩:=e0.hok c1 _ hcd
  exact⟨c1,o,vs,t,rfl,g,d,v⟩
 refine PySem.W.kla_callFunE hr.depth ho rfl hco hgen rfl crec ?_
 rw[hbind]
 refine wpAny_pure (wpAny_newFunctionEnv hcell (fun y hy=>nomatch hy) (fun j' hns hsb=>?_) hk)
 have lv:∀b o,s.heap.get? b=some o->j'.get? b=some o:=fun b o e=>hsb.extBut b o (Nat.ne_of_lt (Heap.lt_size e)) (Heap.get?_push_of_some _ e)
 have lim:j'.NoLimit:=e0.mod.nolimit.keeps fun b o e=>lv b o (e0.bs b o e).1
 refine⟨lim,?_⟩
 have noA:∀b:Addr,b ∉ (jE P w K mg base N lsc cl q fa c1 A outer s H E).ex:=fun b z=>nomatch z
 have I:Inv (jE P w K mg base N lsc cl q fa c1 A outer s H E) [] Z H {s with heap:=j',toks:=s.toks+([]:List (Str×Value)).length}:=by
  refine⟨⟨e0.mod,hk,rfl,rfl,le_refl _,C.inj,C.has,fun _ _ z=>(nomatch z),fun _=>hr.hd,.inl hr.hd,Around.frames_deeper e0.frames,.inr ⟨rfl,rfl⟩,fun b z=>absurd z (noA b),e0.bs,e0.bsz,fun b _ _=>noA b,fun b z=>absurd z (noA b),e0.jT,e0.frf⟩,
   rfl,e0.bare,Un.kept lv,⟨_,hns,fun i x v h1 h2 h3=>?_⟩,fun x c h=>?_,e0.hok.fresh (le_refl _),C.free,fun p hp=>(nomatch hp),e0.hok.kept lv,C.len⟩
  ·obtain⟨u,c,r,f1,f2,o,f3,f4⟩:=C.vals i x v h1 h2 h3
   exact⟨u,r,.inr ⟨.inr f1,c,f2,o,lv _ _ f3,f4⟩⟩
  ·obtain⟨v,o,f3,f4⟩:=C.cell x c h
   exact⟨v,o,lv _ _ f3,f4⟩
 show codeAny _ _ (.expr body (lT lsc cl q fa c1 s.heap.objs.size)) _ _
 refine PySem.W.kla_codeExpr (wpAny_mono (pe [] _ Z H Q I ht) (fun v s' hv=>?_) fun e s' hs=>hs)
 obtain⟨x,H',J,r,qq⟩:=hv
 exact⟨x,H',J.os,J.bare,J.base,J.hok,r,qq⟩
end
noncomputable def cxH(X:Cx)(ea:Addr)(oe:Obj):Cx:={X with A:=X.A.mark (some (.ref ea)),calm:=false,pn:=(ea,oe)::X.pn,xe:=fun _ _=>False}
section
variable {X:Cx}{pins:List (Addr×Obj)}{Z:St}{H:Hp}{s:Shared}{O:Addr->Prop}{ea:Addr}{oe:Obj}{vs:Array Value}
theorem rX{h':Heap}(hF:Frm X)(I:Inv X pins Z H s)(k:Kp O (frs (X.env::X.outer)) s.heap h')(hO:∀b o,X.db.heap.get? b=some o->O b)(ht:∀b,H b≠none->O b)(hp:∀p∈X.pn++pins,O p.1):Inv X pins Z H {s with heap:=h'}:=by
 have cellK:∀c v,s.heap.IsCell c v->h'.IsCell c v:=fun c v ⟨o,e,d⟩=>by
  obtain⟨sl,e'⟩:=k.slot c o e fun vs z=>by rw[d] at z;cases z
  exact⟨_,e',d⟩
 refine⟨I.ok,I.os,I.bare,?_,?_,fun x c e=>let ⟨v,q⟩:=I.cell x c e;⟨v,cellK c v q⟩,I.free,I.eQ,fun p hp'=>?_,HOk.fly I.hok k ht (uc hF I),I.len⟩
 ·have k':=k
  rw[j5 hF] at k'
  have u:=I.base
  rw[hF.ex] at u ⊢
  exact Un.fly u k' hO (yg I) (sL I)
 ·obtain⟨m,⟨o,es,ep,e,d,r⟩,hl⟩:=I.loc
  obtain⟨sl,e'⟩:=k.slot _ o e fun vs z=>by rw[d] at z;cases z
  refine⟨m,⟨_,es,ep,e',d,r⟩,fun i x v h1 h2 h3=>?_⟩
  obtain⟨u,ru,lk⟩:=hl i x v h1 h2 h3
  refine⟨u,ru,?_⟩
  rcases lk with z|⟨z,c,z1,z2⟩
  ·exact .inl z
  ·exact .inr ⟨z,c,z1,cellK _ _ z2⟩
 ·obtain⟨a1,a2,a3,a4,a5⟩:=I.pin p hp'
  exact⟨k.keep _ _ a1 (hp p hp') fun z=>by
   rw[j5 hF] at z
   rcases List.mem_cons.mp z with z|z
   ·exact a3 z
   ·exact a4 z,a2,a3,a4,a5⟩
theorem KG(I:Inv X pins Z H s)(he:s.heap.get? ea=some oe)(hH:H ea=none)(hL:ea≠X.env.locals)(hfs:ea ∉ X.fs)(hd:oe.data = .fields vs)(h2:vs[2]? = some .none):Inv (cxH X ea oe) pins Z H s:=
 ⟨⟨I.ok.mod,I.ok.kind,I.ok.glob,I.ok.blt,I.ok.above,I.ok.inj,I.ok.has,I.ok.cab,fun z=>(nomatch z),.inr ⟨ea,oe,vs,rfl,mem_cons_self,hd,h2⟩,I.ok.frames,I.ok.stk,I.ok.exf,I.ok.bs,I.ok.bsz,I.ok.y4,I.ok.A0,I.ok.jT,I.ok.frf⟩,
  I.os,I.bare,I.base,I.loc,I.cell,I.free,I.eQ,fun p hp=>by
   rcases List.mem_cons.mp (show p∈(ea,oe)::(X.pn++pins) from hp) with z|z
   ·rw[z];exact⟨he,hH,hL,hfs,fun v y=>by rw[hd] at y;cases y⟩
   ·exact I.pin p z,I.hok,I.len⟩
theorem A1{h':Heap}{m':Str->Option Value}{tk:Nat}(ok:X.Ok)(I:Inv (cxH X ea oe) pins Z H s)(hn:h'.Ns X.env.locals m')(hs:Heap.SameBut X.env.locals s.heap h')(hx:X.ex=[]):Inv X pins (List.replicate X.N.length none) H {s with heap:=h',toks:=tk}:=by
 have kp:∀b o,b≠X.env.locals->s.heap.get? b=some o->h'.get? b=some o:=fun b o hb e=>(hs.2 b hb).trans e
 have low:∀b o,X.db.heap.get? b=some o->b≠X.env.locals:=fun b o e=>Nat.ne_of_lt (lt_of_lt_of_le (Heap.lt_size e) ok.above)
 have cne:∀x c,X.env.cells.lookup x=some c->c≠X.env.locals:=I.cne
 have u:Un X.fs X.ex X.H₀ H X.db.heap s.heap:=I.base
 have hneL:∀b∈X.fs,b≠X.env.locals:=fun b hb z=>by
  obtain⟨_,o,e,_⟩:=ok.jT.mem hb
  exact low b o e z
 refine⟨ok,I.os,I.bare,⟨fun b o e n f x=>kp b o (low b o e) (u.keep b o e n f x),fun b o e n f x=>?_,u.free,fun b o e x=>?_,u.jL,u.js,u.jv⟩,⟨m',hn,fun i x v h1 h2 h3=>?_⟩,fun x c e=>?_,I.free,I.eQ,fun p hp=>?_,fun b o e=>?_,by simp⟩
 ·obtain⟨sl,e1⟩:=u.slot b o e n f x
  exact⟨sl,kp b _ (low b o e) e1⟩
 ·obtain⟨o1,e1⟩:=u.there b o e x
  exact⟨o1,kp b o1 (low b o e) e1⟩
 ·rw[List.getElem?_replicate] at h2
  split at h2<;>cases h2
 ·obtain⟨v,o,e1,d⟩:=I.cell x c e
  exact⟨v,o,kp c o (cne x c e) e1,d⟩
 ·obtain⟨a1,a2,a3,a4,a5⟩:=I.pin p (mem_cons_of_mem _ hp)
  exact⟨kp _ _ a3 a1,a2,a3,a4,a5⟩
 ·refine (I.hok b o e).nc (fun d v hd q=>kp d v ?_ q) (fun _ q=>q) fun _ _ q=>q
  have fr:H X.env.locals=none:=I.free
  rintro rfl
  rcases hd with z|z
  ·rw[<- z,fr] at e;cases e
  ·rw[fr] at z;cases z
noncomputable def LZ(X:Cx)(di ni:Nat)(C:Value)(tS:Addr->Obj->TS):TS:=fun D Z H=>∃(fa:Addr) (Good:Hp->Prop),Z[di]? = some (some (.ref fa)) /\
 (∀s1,Inv X [] Z H s1->PySem.W.FnAt fa s1.heap/\codeAny (model X.prog X.w) X.A (.call (.ref fa) ⟨[],[]⟩) (CR (CX1 X.prog X.w) X.stack X.prog X.w H s1 (fun _ _=>False) (fun cls _ H'=>cls=C/\Good H')) s1) /\
 ∀H' ea oe,Good H'->oe.cls=C->H' ea=none->tS ea oe {nx:=fun _ _=>False,rt:=D.rt} (Z.set ni (some (.ref ea))) H'
theorem Hx{dn x n:Str}{dp cp ep np hp pos:Pos}{di ni:Nat}{mo:Stmt}{suite:List Stmt}{C FE:Addr}{tS:Addr->Obj->TS}(hF:Frm X)(hpn:X.pn=[])(hNd:X.N.Nodup)(hd:X.N[di]? = some dn)(hv:Vis X.env.scope dn)(hn:X.N[ni]? = some n)(hl:X.env.kindOf n=some .local)(hg:Gl X x)(hm:X.mg x=some (.ref FE))
  (hex:exmOne X.K (.ref C) (.ref FE)=some true) (hs:∀ea oe,PSs (cxH X ea oe) (mo::suite) (tS ea oe)) (hdb:(dn==("__debug__":Str))=false:=by decide) (hdc:(dn==("__classdict__":Str))=false:=by decide) (hxb:(x==("__debug__":Str))=false:=by decide)
  (hsw:swapsWith (.Call (.Name dn dp) [] [] cp) none ep.line X.env=pure false:=by rfl) (pins0:List (Addr×Obj)) (s:Shared) (Z:St) (H:Hp) (D:Ends) (hp0:pins0=[]) (I0:Inv X pins0 Z H s) (h:LZ X di ni (.ref C) tS D Z H) :
  wpAny (model X.prog X.w) X.A (exec (.Try [.Expr (.Call (.Name dn dp) [] [] cp) ep] [.ExceptHandler (some (.Name x np)) (some n) (mo::suite) hp] [] [] pos) X.env) (SP X pins0 D) X.xe s:=by
 subst hp0
 obtain⟨fa,Good,wr,deed,good⟩:=h
 refine wpAny_Try_except (wpAny_execs_cons (wpAny_Expr_any (wpAny_Call_Name_kw (wpAny_mono (BJ (X:=X.nox) hd hv hdb hdc [] s Z H (fun v H1=>v = .ref fa/\H1=H) (I0.oM _) ⟨.ref fa,wr,rfl,rfl⟩) (fun v s1 hv1=>?_) fun _ _ z=>z.elim)) I0.quiet hsw))
 obtain⟨y,H1,I1,r,e1,e2⟩:=hv1
 subst e1 e2
 cases r
 have I1:=I1.gO
 obtain⟨fn,code⟩:=deed s1 I1
 refine PySem.W.callWith_F0 fn (wpAny_call (codeAny_mono code fun r s' hr=>?_))
 cases r with
 |ok fl=>
  cases fl with
  |ret u=>obtain⟨_,_,_,_,_,_,_,z⟩:=hr;exact z.elim
  |next=>exact hr.elim
  |brk=>exact hr.elim
  |cont=>exact hr.elim
 |error e=>
  obtain⟨O,ea,cls,H',rfl,os,bare,un,hok,hO,ht,F,rfl,gd⟩:=hr
  have I':Inv X [] Z H' s':=I1.xJ (ch:=[]) os un hok bare (fun b z=>nomatch z)
  have fr:X.A.frames=some (X.env::X.outer):=by rw[<- hF.stk];exact I0.ok.frames
  have hO0:∀b o,X.db.heap.get? b=some o->O b:=fun b o e=>by
   obtain⟨o',e'⟩:=I1.base.there b o e (by rw[hF.ex];exact fun z=>nomatch z)
   exact hO b o' e'
  have hpp:∀p∈X.pn++([]:List (Addr×Obj)),O p.1:=fun p hp=>by rw[hpn] at hp;exact nomatch hp
  have hLO:O X.env.locals:=by
   obtain⟨m,⟨o,es,ep,e,_⟩,_⟩:=I1.loc
   exact hO _ o e
  refine qV (s:=s') fr (lC hF I') hF.fr F fun h2 k2 F2=>?_
  have I2:=rX hF I' k2 hO0 ht hpp
  refine fE (s:={s' with heap:=h2}) (fs:=frs (X.env::X.outer)) F2 fun h3 k3 F3=>?_
  have I3:=rX hF I2 k3 hO0 ht hpp
  have keyE:∀{h:Heap} {fl:Value},Fly O h ea (.ref C) fl->∀{s4:Shared},s4.heap=h->Inv X [] Z H' s4->∃oe,oe.cls = .ref C/\s4.heap.get? ea=some oe/\H' ea=none/\Inv (cxH X ea oe) [] Z H' s4:=fun {h fl} G {s4} e4 I4=>by
   obtain⟨_,oe,vs,T,oT,ts,g1,g2,g3,g4,g5,g6,_⟩:=G
   have hH:H' ea=none:=by
    cases z:H' ea with
    |none=>rfl
    |some o=>exact absurd (ht ea (by rw[z];exact fun y=>nomatch y)) g6
   refine⟨oe,g2,by rw[e4];exact g1,hH,KG I4 (by rw[e4];exact g1) hH (fun z=>g6 (by rw[z];exact hLO)) (fun z=>?_) g3 g5⟩
   exact sL I4 ea z oe (by rw[e4];exact g1) vs g3
  obtain⟨oe3,c3,g3,n3,H3⟩:=keyE F3 rfl I3
  refine wpAny_handleBy_cons (codeAny_handlers_test (kr (X:=cxH X ea oe3) H3 hg hm ?_ hxb)) (by intro z;cases z)
  refine (PySem.W.exm_one (M:=model X.prog X.w) (K:=X.K) (h:=h3) I3.kIn (fun A' Q' E' s4 kk q=>?_) hex).here ?_
  ·have e3:=kk _ _ g3
   unfold typeOf
   refine wpAny_bind (wpAny_loadPart e3 ?_)
   rw[c3]
   exact wpAny_pure q
  ·refine codeAny_handlers_suite_as (fE (s:={s' with heap:=h3}) (fs:=frs (X.env::X.outer)) F3 fun h4 k4 F4=>?_)
   have I4:=rX hF I3 k4 hO0 ht hpp
   obtain⟨oe,c4,g4,n4,H4⟩:=keyE F4 rfl I4
   refine eN (X:=cxH X ea oe) (v:=.ref ea) H4 hNd hn (Or.inl hl) rfl (fun s5 I5=>?_) (Or.inr hl)
   refine wpAny_mono (hs ea oe [] s5 _ H' {nx:=fun _ _=>False,rt:=D.rt} I5 (good H' ea oe gd c4 n4)) (fun f s6 h6=>?_) fun e s6 z=>z.elim
   cases f with
   |next=>obtain⟨_,_,_,z⟩:=h6;exact z.elim
   |brk=>obtain⟨_,_,_,z⟩:=h6;exact z.elim
   |cont=>obtain⟨_,_,_,z⟩:=h6;exact z.elim
   |ret u=>
    obtain⟨v,al,H6,I6,r6,q6⟩:=h6
    obtain⟨m6,hn6,_⟩:=I6.loc
    refine wpAny_nameGoes (env:=X.env) hl hn6 (by rw[I0.ok.kind];rfl) fun h7 m7 hn7 hs7=>?_
    exact⟨v,_,H6,A1 I0.ok I6 hn7 hs7 hF.ex,r6,q6⟩
end
theorem J2{CX:CXT}{P:Program}{w:World}{K:PySem.W.Frag}{mg:Str->Option Value}{base:Heap}{k:Nat}{f:Addr}{name qual:Str}{params:Arguments}{body:List Stmt}{scope:Scope}{dV kV doc pm cdv ct oc:Value}{an od:Option Addr}{osl:Array (Option Value)}{N ps:List Str}
  {A:Around} {outer:List Env} {s:Shared} {H:Hp} {args:Args} {us:List Value} {vs:List V} {Q:VK} {E:XK} (lk:K.lookup f=some ⟨oc,od,.func (fnOf name qual params body scope dV kV doc pm an cdv ct),osl⟩) (hcd:codeIn K cdv qual=true) (S:cP N ps scope)
  (hl:vs.length=ps.length) (hr:bC (k+1) A) (e0:uB P w K mg base A outer s H) (hb:BindsTo s (fnOf name qual params body scope dV kV doc pm an cdv ct) args (ps.zip us)) (r:Vals vs us)
  (hq:∀s1,Inv (eG CX P w K mg base N qual scope f cdv A outer s H E) [] (start N vs) H s1->wpAny (model P w) (A.deeper (envOfC qual scope s.heap.objs.size f cdv)) (execs body (envOfC qual scope s.heap.objs.size f cdv)) (SP (eG CX P w K mg base N qual scope f cdv A outer s H E) [] {nx:=fun _ H'=>Q .non H',rt:=Q}) (eG CX P w K mg base N qual scope f cdv A outer s H E).xe s1) :
  codeAny (model P w) A (.call (.ref f) args) (CR CX outer P w H s Q E) s:=by
 have KX:K.In s.heap:=e0.mod.kin.keeps fun b o e=>(e0.bs b o e).1
 have lim:s.heap.NoLimit:=e0.mod.nolimit.keeps fun b o e=>(e0.bs b o e).1
 have hkind:∀y∈ps.zip us,scope.names.lookup y.1=some .local\/(scope.names.lookup y.1=some .cell/\((cellsFrom (s.heap.objs.size+1) scope.names []).lookup y.1).isSome=true):=fun ⟨n,v⟩ hy=>by
  rcases S.par n (of_mem_zip hy).1 with q|q
  ·exact .inl q
  ·exact .inr ⟨q,PySem.W.cellsFrom_some _ _ _ (.inl q)⟩
 refine codeAny_call_function hr.depth (KX _ _ lk) rfl S.co S.gen rfl (PySem.W.codeRec_of KX hcd) (hb _ _ _ _ ?_)
 refine wpAny_newFunctionEnv_cells S.kind hkind fun env he s1 x=>?_
 subst he
 refine⟨lim.keeps x.toInCall.keep,codeAny_func ?_⟩
 have I:Inv (eG CX P w K mg base N qual scope f cdv A outer s H E) [] (start N vs) H s1:=qM S hr.hd e0 hl r x
 refine wpAny_mono (hq s1 I) (fun fl s' hs=>?_) fun e s' hs=>hs
 have fin:∀{al:St} {H':Hp} {v:V} {u:Value},Inv (eG CX P w K mg base N qual scope f cdv A outer s H E) [] al H' s'->RelV v u->Q v H'->CE outer P w H s Q u s':=
  fun {al H' v u} J rv q=>⟨v,H',J.os,J.bare,J.base,J.hok,rv,q⟩
 cases fl with
 |ret u=>obtain⟨v,al,H',J,rv,q⟩:=hs;exact fin J rv q
 |next=>obtain⟨al,H',J,q⟩:=hs;exact fin (v:=V.non) (u:=Value.none) J rfl q
 |brk=>obtain⟨_,_,_,q⟩:=hs;exact False.elim q
 |cont=>obtain⟨_,_,_,q⟩:=hs;exact False.elim q
structure xw(P:Program)(w:World)(K:PySem.W.Frag)(mg:Str->Option Value)(base:Heap)(k:Nat)(f:Addr)(fd:FuncData)(dn:Str)(C:Value)(nm:Str):Prop where
 run:∀(A:Around) (outer:List Env) (s:Shared) (H:Hp) (fa:Addr) (Good:Hp->Prop) (Q:VK),bC (k+1) A->uB P w K mg base A outer s H->BindsTo s fd ⟨[.ref fa],[]⟩ ([dn].zip [.ref fa]) ->
  (∀(A':Around) (outer':List Env) (s':Shared),bC k A'->uB P w K mg base A' outer' s' H->Un (frs outer) [] H H s.heap s'.heap->PySem.W.FnAt fa s'.heap/\codeAny (model P w) A' (.call (.ref fa) ⟨[],[]⟩) (CR (CX1 P w) outer' P w H s' (fun _ _=>False) (fun cls _ H'=>cls=C/\Good H')) s') ->
  (∀H',Good H'->∃U,aV K U H'/\∀H'',Ext K U H' U H''->aV K U H''->Q (.str nm) H'') ->
  codeAny (model P w) A (.call (.ref f) ⟨[.ref fa],[]⟩) (CR CX0 outer P w H s Q E0) s
theorem E9{P:Program}{w:World}{K:PySem.W.Frag}{mg:Str->Option Value}{base:Heap}{k:Nat}{f:Addr}{fd:FuncData}{fx qual:Str}{st:Stmt}{dn n y1 y2 x:Str}{dp cp ep np hp pos:Pos}{mo:Stmt}{suite rest:List Stmt}{C FE:Addr}{nm:Str}{td:Addr->DTS}
  (F:Fun K fx qual st f fd) (S:cP [dn,n,y1,y2] [dn] (aI st))
  (hbody:bT st = .Try [.Expr (.Call (.Name dn dp) [] [] cp) ep] [.ExceptHandler (some (.Name x np)) (some n) (mo::suite) hp] [] [] pos::rest)
  (hv:(aI st).names.lookup dn=some .local) (hl:(aI st).names.lookup n=some .local) (hg:(aI st).names.lookup x=some .globalImplicit) (hm:mg x=some (.ref FE)) (hex:exmOne K (.ref C) (.ref FE)=some true)
  (hdb:(dn==("__debug__":Str))=false) (hdc:(dn==("__classdict__":Str))=false) (hxb:(x==("__debug__":Str))=false)
  (hsw:∀env:Env,swapsWith (.Call (.Name dn dp) [] [] cp) none ep.line env=pure false)
  (hs:∀(cdv:Value) (A:Around) (outer:List Env) (s:Shared) (H:Hp) (ea:Addr) (oe:Obj),oe.cls = .ref C->bC k (eG CX0 P w K mg base [dn,n,y1,y2] qual (aI st) f cdv A outer s H E0).A->DSs (cxH (eG CX0 P w K mg base [dn,n,y1,y2] qual (aI st) f cdv A outer s H E0) ea oe) (mo::suite) (td ea))
  (hrd:∀(ea fa:Addr) (U:Mu) (Qd:DK),Qd (.v (.str nm)) U->td ea {nx:=fun _ _=>False,rt:=Qd} [some (.o fa),some (.o ea),none,none] U):xw P w K mg base (k+1) f fd dn (.ref C) nm where
 run:=fun A outer s H fa Good Q hr e0 hb deed fin=>by
  obtain⟨oc,od,kV,doc,pm,an,cdv,ct,osl,rfl,lk,hcd⟩:=F.ex
  refine J2 (k:=k+1) (vs:=[.ref fa]) (us:=[.ref fa]) lk hcd S rfl hr e0 hb (.cons rfl .nil) fun s1 I=>?_
  show wpAny _ _ (execs (bT st) _) _ _ _
  rw[hbody]
  have hX:∀ea oe,PSs (cxH (eG CX0 P w K mg base [dn,n,y1,y2] qual (aI st) f cdv A outer s H E0) ea oe) (mo::suite) (fun D al H'=>oe.cls = .ref C/\H' ea=none/\al=(start [dn,n,y1,y2] [V.ref fa]).set 1 (some (.ref ea))/\∃U,aV K U H'/\∀H'',Ext K U H' U H''->aV K U H''->D.rt (.str nm) H''):=fun ea oe pins' s' al H' D I' h=>by
   obtain⟨hc,hH,rfl,U,ok,q⟩:=h
   obtain⟨t,p,l⟩:=hs cdv A outer s H ea oe hc ((hr.deeper _).mono (Nat.le_succ _))
   refine p pins' s' _ H' D I' (l _ H' [some (.o fa),some (.o ea),none,none] U {nx:=fun _ _=>False,rt:=fun d Y=>d = .v (.str nm)/\Y=U} D ⟨ok,rfl,fun i d e=>?_⟩ (hrd ea fa U _ ⟨rfl,rfl⟩) (fun _ _ _ _ _ _ z=>z.elim) (fun d u Y H'' e' ok' r ⟨z1,z2⟩=>?_) (fun _ _ _ _ _ _ z=>z.elim) (fun _ _ _ _ _ _ z=>z.elim))
   ·match i,e with
    |0,e=>cases e;exact⟨.ref fa,rfl,rfl⟩
    |1,e=>cases e;exact⟨.ref ea,rfl,rfl⟩
    |2,e=>cases e
    |3,e=>cases e
   ·subst z1 z2
    cases r
    exact q H'' e' ok'
  refine wpAny_execs_cons (wpAny_mono (Hx (X:=eG CX0 P w K mg base [dn,n,y1,y2] qual (aI st) f cdv A outer s H E0) (C:=C) (FE:=FE) (di:=0) (ni:=1) ⟨rfl,rfl,rfl⟩ rfl S.nd rfl (Or.inl hv) rfl hl hg hm hex hX hdb hdc hxb (hsw _) [] s1 _ H {nx:=fun _ _=>False,rt:=Q} rfl I
   ⟨fa,Good,rfl,fun s2 I2=>deed _ _ s2 (hr.deeper _) I2.GC I2.base,fun H' ea oe gd c hn=>⟨c,hn,rfl,fin H' gd⟩⟩) (fun fl s' hs'=>?_) fun _ _ z=>z)
  cases fl with
  |ret u=>exact hs'
  |next=>obtain⟨_,_,_,z⟩:=hs';exact z.elim
  |brk=>obtain⟨_,_,_,z⟩:=hs';exact z.elim
  |cont=>obtain⟨_,_,_,z⟩:=hs';exact z.elim
section
variable {X:Cx}{e:Expr}{te:DTE}{p py pos:Pos}{y:Str}{C:Addr}{b:Bool}{ea:Addr}{oe:Obj}
noncomputable def fR(ea:Addr)(b:Bool)(te:DTE):DTE:=fun ρ U Q=>te ρ U fun x ac=>match x with
 |.o a=>a=ea/\Q (.v (.bool b)) ac
 |_=>False
theorem uD{cv:V}{w:Value}(ZY:ny X.K C)(hp:(ea,oe)∈X.pn)(hc:oe.cls = .ref C)(r:RelV cv w)(hw:∀u,RelV cv u->u=w)(ek:kitOne X.K (.ref C) w=some b):dP X (.builtin "isinstance") (fun xs H Q=>xs=[.ref ea,cv]/\Q (.bl b) H):=by
 intro pins s Z H xs us Q I rr h
 obtain⟨rfl,q⟩:=h
 obtain⟨v,w',rfl,r1,r2⟩:=vals2 rr
 cases r1
 obtain rfl:=hw w' r2
 exact kia_one (zK ZY) I.kIn ⟨oe,(I.pin (ea,oe) (mem_append_left _ hp)).1,hc⟩ ek (fun z=>nomatch z) fun tk=>⟨.bl b,H,I.tok _,rfl,q⟩
theorem Hs{C':Addr}(ZY:ny X.K C)(hp:(ea,oe)∈X.pn)(hc:oe.cls = .ref C)(ek:kitOne X.K (.ref C) (.ref C')=some b)(hg:Gl X "isinstance")(hm:X.mg "isinstance"=none)(hgy:Gl X y)(hmy:X.mg y=some (.ref C'))(ha:DE X e te)(hdy:(y==("__debug__":Str))=false:=by decide)
  (he:starEach [e,.Name y py] X.env=(false,eval e X.env)::starEach [.Name y py] X.env:=by rfl) (he2:starEach [.Name y py] X.env=[(false,eval (.Name y py) X.env)]:=by rfl) (hpl:(backTo pos (starEach [.Name y py] X.env)).any (·.1)=false:=by rfl):DE X (.Call (.Name "isinstance" p) [e,.Name y py] [] pos) (fR ea b te):=by
 obtain⟨t1,p1,l1⟩:=ha
 refine⟨_,jZ (uD (cv:=.ref C') ZY hp hc rfl (fun u h=>h) ek) hg hm PyProof.Rows.Boot.«isinstance» (cT p1 (cT (xY (v:=.ref C') hgy hmy rfl hdy) iz he2) he) ⋯ ⋯ he hpl,fun Z H ρ U Qd Q S h k=>?_⟩
 refine l1 Z H ρ U _ _ S h fun x ux ac H1 e1 S1 rx h1=>?_
 split at h1
 ·obtain⟨rfl,h1⟩:=h1
  obtain rfl:ux = .ref _:=rx
  exact⟨rfl,k (.v _) _ ac H1 e1 S1 (Rp.bool _) h1⟩
 ·exact h1.elim
theorem Cv{T:String}(ZY:ny X.K C)(hp:(ea,oe)∈X.pn)(hc:oe.cls = .ref C)(ek:kitOne X.K (.ref C) (.type T)=some b)(hg:Gl X "isinstance")(hm:X.mg "isinstance"=none)(hgy:Gl X y)(hmy:X.mg y=none)(hvy:bootBuiltins y=some (.type T))(ha:DE X e te)(hny:y ≠ "__name__":=by decide)(hdy:(y==("__debug__":Str))=false:=by decide)
  (he:starEach [e,.Name y py] X.env=(false,eval e X.env)::starEach [.Name y py] X.env:=by rfl) (he2:starEach [.Name y py] X.env=[(false,eval (.Name y py) X.env)]:=by rfl) (hpl:(backTo pos (starEach [.Name y py] X.env)).any (·.1)=false:=by rfl):DE X (.Call (.Name "isinstance" p) [e,.Name y py] [] pos) (fR ea b te):=by
 obtain⟨t1,p1,l1⟩:=ha
 refine⟨_,jZ (uD (cv:=.ty T) ZY hp hc rfl (fun u h=>h) ek) hg hm PyProof.Rows.Boot.«isinstance» (cT p1 (cT (xF (v:=.ty T) hgy hmy hvy rfl hny hdy) iz he2) he) ⋯ ⋯ he hpl,fun Z H ρ U Qd Q S h k=>?_⟩
 refine l1 Z H ρ U _ _ S h fun x ux ac H1 e1 S1 rx h1=>?_
 split at h1
 ·obtain⟨rfl,h1⟩:=h1
  obtain rfl:ux = .ref _:=rx
  exact⟨rfl,k (.v _) _ ac H1 e1 S1 (Rp.bool _) h1⟩
 ·exact h1.elim
end
structure Ip(K:PySem.W.Frag)(mg:Str->Option Value)(c P:Addr)(q:Str):Prop where
 obj:∃o,K.lookup c=some o/\aU o=some (P,q)
 one:∀c2 o2 q2,K.lookup c2=some o2->aU o2=some (P,q2)->q2=q
 blt:Gn K mg
noncomputable def nQ(cap:List (Option Nat))(tx:DTX)(nm:Str):DTE:=fun ρ U Qd=>tx (bD cap ρ) U fun Y=>Qd (.v (.str nm)) Y
theorem yw{X:Cx}{k:Nat}{f c P:Addr}{fd:FuncData}{dn rn q nm:Str}{C:Value}{params:Arguments}{body:Expr}{lsc:Scope}{lpos p pos:Pos}{cl:List (Str×Addr)}{N':List Str}{cap:List (Option Nat)}{tx:DTX}
  (R:xw X.prog X.w X.K X.mg X.base k f fd dn C nm) (hr:bC (k+1) X.A) (hg:Gl X rn) (hm:X.mg rn=some (.ref f)) (hk:keepIn X.K (.ref f)=true) (hb:Binds X.K fd [dn] []) (L:Ip X.K X.mg c P q) (hcode:X.env.code = .ref c) (hq:X.env.qual=q ++ ".<locals>.")
  (hk0:0<k) (he:∀(A':Around) (outer':List Env) (s':Shared) (H':Hp) (fa c1:Addr) (E:XK),bC (k-1) (jE X.prog X.w X.K X.mg X.base N' lsc cl (aX q) fa c1 A' outer' s' H' E).A->XE (jE X.prog X.w X.K X.mg X.base N' lsc cl (aX q) fa c1 A' outer' s' H' E) E C body tx)
  (hdef:defaultsOf params X.env=([],[])) (hclos:closureFor lsc X.env=pure cl) (hbind:∀(pm ctv:Value) (c1:Addr),bindArgs (kla_fn "<lambda>" (aX q) params body lsc cl pm (.ref c1) ctv) ⟨[],[]⟩=pure [])
  (hkind:lsc.kind = .function) (hco:lsc.isCoroutine=false) (hgen:lsc.isGenerator=false) (hcell:∀y∈lsc.names,y.2≠.cell) (hcl:∀x a,cl.lookup x=some a->X.env.cells.lookup x=some a) (hhas:∀x,lsc.names.lookup x=some .cell\/lsc.names.lookup x=some .free->∃a,cl.lookup x=some a)
  (hlen:cap.length=N'.length) (hcap:∀(i j:Nat) (x:Str),cap[i]? = some (some j)->N'[i]? = some x->X.N[j]? = some x/\Vis X.env.scope x/\X.env.kindOf x≠some .local/\lsc.names.lookup x=some .free)
  (hdb:(rn==("__debug__":Str))=false:=by decide) (hst:starEach [.Lambda params body lsc lpos] X.env=[(false,eval (.Lambda params body lsc lpos) X.env)]:=by rfl) :
  DE X (.Call (.Name rn p) [.Lambda params body lsc lpos] [] pos) (nQ cap tx nm):=by
 refine EM fun pins s Z H ρ U Qd Q I S h kk=>?_
 obtain⟨o,hl,hlc⟩:=L.obj
 refine wpAny_Call_Name_kw (kr I hg hm ?_ hdb)
 refine PySem.W.callWith_K (h₀:=X.base) I.ok.mod.kin hk (spliced_more (Ia I S.mu hcode hl hlc L.one hq L.blt hclos hdef fun fa c1 ctv pm H1 s1 I1 ex mu ho hfa hfr hc1=>spliced_none ⟨I1.kIn,?_⟩) (by rw[hst];rfl)) (by rw[hst];rfl) rfl
 have S1:St0 X.K H1 ρ U Z:=⟨mu,S.rho.ext S.mu ex⟩
 refine wpAny_call (codeAny_mono (R.run X.A X.stack s1 H1 fa (fun H'=>∃Y,Ext X.K U H1 Y H'/\aV X.K Y H'/\Qd (.v (.str nm)) Y) Q hr I1.GC (hb s1 [.ref fa] I1.kIn rfl) (fun A' outer' s' hr' e0' un=>?_) fun H' ⟨Y,e',ok',q'⟩=>?_) fun r s' hq'=>?_)
 ·have ho':=un.keep fa _ ho hfa hfr (fun z=>nomatch z)
  refine⟨⟨_,_,_,_,ho'⟩,?_⟩
  obtain⟨k',rfl⟩:∃k',k=k'+1:=⟨k-1,∅⟩
  obtain⟨t,pe,l⟩:=he A' outer' s' H1 fa c1 (fun cls _ H'=>cls=C/\∃Y,Ext X.K U H1 Y H'/\aV X.K Y H'/\Qd (.v (.str nm)) Y) (hr'.deeper _)
  have cellK:∀x cc v,X.env.cells.lookup x=some cc->s1.heap.IsCell cc v->s'.heap.IsCell cc v:=fun x cc v hx ⟨oc,ec,dc⟩=>by
   obtain⟨sl,e2⟩:=un.any ec (I1.eQ x cc hx) (fun z=>nomatch z)
   exact⟨_,e2,dc⟩
  refine AN (Z:=bD cap Z) (N:=N') hkind hco hgen hcell hr' e0' ho' hc1 (hbind pm ctv c1) ⟨fun x cc hx=>?_,fun x cc hx=>I1.eQ x cc (hcl x cc hx),fun x y cc h1 h2=>I1.ok.inj x y cc (hcl x cc h1) (hcl y cc h2),hhas,fun i x v h1 h2 h3=>?_,?_⟩ pe (l _ H1 (bD cap ρ) U (fun Y=>Qd (.v (.str nm)) Y) _ ⟨mu,S1.rho.cap⟩ h fun Y H' e' ok' q'=>⟨rfl,Y,e',ok',q'⟩)
  ·obtain⟨v,hv⟩:=I1.cell x cc (hcl x cc hx)
   exact⟨v,cellK x cc v (hcl x cc hx) hv⟩
  ·obtain⟨j,j1,j2⟩:=oJ h2
   obtain⟨hN,hv,hnl,hfree⟩:=hcap i j x j1 h1
   obtain⟨m,_,hll⟩:=I1.loc
   obtain⟨u,ru,lk⟩:=hll j x v hN j2 hv
   obtain⟨a,ha⟩:=hhas x (.inr hfree)
   rcases lk with ⟨z,_⟩|⟨_,a',z1,z2⟩
   ·exact absurd z hnl
   ·obtain rfl:a'=a:=by have qq:=hcl x a ha;rw[z1] at qq;exact Option.some.inj qq
    exact⟨u,a',ru,hfree,ha,cellK x a' _ z1 z2⟩
  ·unfold bD;rw[length_map];exact hlen
 ·exact⟨Y,ok',fun H'' e'' ok''=>kk (.v (.str nm)) (.str nm) Y H'' (ex.trans (e'.trans e'')) ⟨ok'',S1.rho.ext mu (e'.trans e'')⟩ (Rp.str nm) q'⟩
 ·cases r with
  |error e=>exact hq'.elim
  |ok fl=>
   cases fl with
   |ret u=>exact I1.after hq'
   |next=>exact hq'.elim
   |brk=>exact hq'.elim
   |cont=>exact hq'.elim
end L2.DL
namespace L2
open PySem PySem.Spec PyProof.Rows DL
noncomputable def Jh(tabs:List Addr)(H:Hp):Prop:=∀b,H b=none\/(∃o xs,H b=some (.frz o (.lst xs)))\/(b∈tabs/\H b=some (.tbl #[]))
end L2
namespace L2.DL
open PySem PySem.Spec PyProof.Rows
theorem _root_.L2.Fun.Lu{P:Program}{w:World}{K:PySem.W.Frag}{mg:Str->Option Value}{base:Heap}{x qual:Str}{st:Stmt}{f:Addr}{fd:FuncData}{N ps:List Str}{k:Nat}{dsp:DSp}(F:Fun K x qual st f fd)(S:cP N ps (aI st))(len:∀ds U Q,dsp ds U Q->ds.length=ps.length)
  (hbody:∀(cdv:Value),fd.code=cdv->∀(A:Around) (outer:List Env) (s:Shared) (H:Hp) (E:XK),bC k (A.deeper (envOfC qual (aI st) s.heap.objs.size f cdv)) ->
   ∃td,DSs (eG CX0 P w K mg base N qual (aI st) f cdv A outer s H E).nox (bT st) td/\∀ds U Qd,dsp ds U Qd->td ‹Qd› (ao N ds) U):dW P w K mg base CX0 (k+1) f fd ps (spD K dsp):=by
 obtain⟨oc,od,kV,doc,pm,an,cdv,ct,osl,rfl,lk,hcd⟩:=F.ex
 refine Ep lk hcd S (fun vs H Q E h=>?_) fun A outer s H vs Q E hr h=>?_
 ·obtain⟨ds,U,Qd,_,r,h,_⟩:=h
  rw[<- r.length];exact len ds U Qd h
 ·obtain⟨ds,U,Qd,ok,r,h,fin⟩:=h
  obtain⟨td,⟨t,p,l⟩,rd⟩:=hbody cdv rfl A outer s H E hr
  exact⟨t,p.nox,l (start N vs) H (ao N ds) U _ _ ⟨ok,rj r⟩ (rd ds U Qd h) (fun al ap Y H' e' S' q=>fin (.v .none) .non Y H' e' S'.mu Rp.none q) (fun d u Y H' e' ok' r' q=>fin d u Y H' e' ok' r' q) (fun _ _ _ _ _ _ q=>q) (fun _ _ _ _ _ _ q=>q)⟩
noncomputable def Ew(X:Cx)(lsc:Scope):Option Nat->Str->Prop
 |some j,x=>X.N[j]? = some x/\Vis X.env.scope x/\X.env.kindOf x≠some .local/\lsc.names.lookup x=some .free
 |none,_=>True
noncomputable def Jg(X:Cx)(lsc:Scope):List (Option Nat)->List Str->Prop
 |c::r,x::r'=>Ew X lsc c x/\Jg X lsc r r'
 |_,_=>True
theorem xc{X:Cx}{lsc:Scope}:∀{cap:List (Option Nat)} {N':List Str},Jg X lsc cap N'->∀(i j:Nat) (x:Str),cap[i]? = some (some j)->N'[i]? = some x->X.N[j]? = some x/\Vis X.env.scope x/\X.env.kindOf x≠some .local/\lsc.names.lookup x=some .free
 |[],_,_,i,j,x,h,_=>by simp at h
 |_::_,[],_,i,j,x,_,h=>by simp at h
 |c::r,y::r',h,0,j,x,h1,h2=>by
  simp at h1 h2;subst h1 h2;exact h.1
 |c::r,y::r',h,i+1,j,x,h1,h2=>xc h.2 i j x (by simpa using h1) (by simpa using h2)
theorem KP{X:Cx}{lsc:Scope}{j:Nat}{x:Str}(h1:X.N[j]? = some x:=by rfl)(h2:X.env.kindOf x=some .cell:=by rfl)(h3:lsc.names.lookup x=some .free:=by rfl):Ew X lsc (some j) x:=
 ⟨h1,.inr (.inl h2),(by rw[h2];decide),h3⟩
theorem wV{K:PySem.W.Frag}{l:List (Addr×Str)}(h:(K.filterMap fun p=>aU p.2)=l){c:Addr}{o:Obj}{P:Addr}{q:Str}(e:K.lookup c=some o)(e2:aU o=some (P,q)):(P,q)∈l:=by
 rw[<- h]
 have mem:∀(L:List (Addr×Obj)),List.lookup c L=some o->(c,o)∈L:=fun L=>by
  induction L with
  |nil=>intro z;cases z
  |cons a r ih=>
   intro z
   rw[lookup_cons] at z
   by_cases y:c=a.1
   ·rw[y] at z ⊢;simp at z;rw[<- z];exact mem_cons_self
   ·rw[show (c==a.1)=false from by simpa using y] at z
    exact mem_cons_of_mem _ (ih z)
 exact List.mem_filterMap.mpr ⟨(c,o),mem K e,e2⟩
theorem rg{K:PySem.W.Frag}{h:Heap}{c P:Addr}{o:Obj}{q:Str}(X:K.In h)(l:K.lookup c=some o)(e:aU o=some (P,q)):isCodeTable h P:=by
 obtain⟨vs,hd,hcls,e⟩:=pC e
 obtain⟨q',t',P',e1,e11,e7,e9,e10,e18,z⟩:=tT e
 cases z
 exact⟨c,o,vs,X _ _ l,hcls,hd,e11⟩
theorem sR{K:PySem.W.Frag}{c P:Addr}{q:Str}(h:(K.lookup c).bind aU=some (P,q)):∃o,K.lookup c=some o/\aU o=some (P,q):=Option.bind_eq_some_iff.mp h
theorem sQ{K T:PySem.W.Frag}{h:Heap}(X:PySem.W.Frag.In (K++T) h):K.In h:=fun b o e=>X b o (by
 show List.lookup b (K++T)=some o
 rw[List.lookup_append,show List.lookup b K=some o from e];rfl)
theorem GX{K:PySem.W.Frag}{mg:Str->Option Value}{bm:Addr}{sl:Array (Option Value)}(h1:mg "__builtins__"=some (.ref bm))(h2:bm≠builtinsNs)(h3:K.lookup bm=some ⟨.type "module",some builtinsNs,.plain,sl⟩):Gn K mg:=⟨bm,_,h1,h2,h3,rfl,rfl,rfl⟩
theorem Ae{cap:List (Option Nat)}{tx:DTX}{nm:Str}{ρ:Rho}{U:Mu}{Q:DK}:nQ cap tx nm ρ U Q=tx (bD cap ρ) U (fun Y=>Q (.v (.str nm)) Y):=propext Iff.rfl
theorem DP{dsp:XSp}{t:DTA}{ρ:Rho}{U:Mu}{Xk:Mu->Prop}:yc dsp t ρ U Xk=t ρ U (fun ds ac=>dsp ds ac Xk):=propext Iff.rfl
theorem JZ{tc:DTT}{tx ty:DTX}{ρ:Rho}{U:Mu}{Xk:Mu->Prop}:xIf tc tx ty ρ U Xk=tc ρ U (fun b ac=>if b=true then tx ρ ac Xk else ty ρ ac Xk):=propext Iff.rfl
theorem wy{td:DTS}{tx:DTX}{ρ:Rho}{U:Mu}{Xk:Mu->Prop}:Bg td tx ρ U Xk=td {nx:=fun ap Y=>tx ap Y Xk,rt:=fun _ _=>False} ρ U:=propext Iff.rfl
theorem J8{ea:Addr}{b:Bool}{i:Nat}{ρ:Rho}{U:Mu}{Q:DK}(h:ρ[i]? = some (some (.o ea))):fR ea b (ae i) ρ U Q=Q (.v (.bool b)) U:=by
 unfold fR ae
 rw[h]
 exact propext ⟨fun z=>z.2,fun z=>⟨rfl,z⟩⟩
theorem Aq{ea:Addr}{b:Bool}{x:Option D}{r:Rho}{U:Mu}{Q:DK}:fR ea b (ae 1) (x::some (.o ea)::r) U Q=Q (.v (.bool b)) U:=J8 rfl
noncomputable def BL:PyData->Option PyData
 |.tuple [.str n,.bool b]=>if b=true then some (.str n) else none
 |_=>none
theorem zV{r:Rho}{U:Mu}{Q:DK}{ns:List (Str×Bool)}{i:Nat}(hi:r[i]? = some (some (.v (.list (ns.map fun n=>.tuple [.str n.1,.bool n.2])))))(hl:ns.length<=1000)(q:Q (.v (.list ((ns.map fun n=>(.tuple [.str n.1,.bool n.2]:PyData)).filterMap BL))) U) :
  aP [none,none] (aZ (ae i)) (cj 2 (aA (af 0) (aA (af 1) bY))) (dB (ae 1)) (ae 0) r U Q:=by
 rw[bF]
 show (match r[i]? with|some (some d)=>_|_=>False)
 rw[hi]
 refine⟨by rw[length_map];exact hl,fun p hp=>⟨fun i acc Y=>acc=((ns.map fun n=>(.tuple [.str n.1,.bool n.2]:PyData)).take i).filterMap BL/\Y=aE U p acc,⟨rfl,rfl⟩,?_,?_⟩⟩
 ·rintro i x acc Y hx hpa ⟨e0,e1⟩
  obtain⟨n,hn,rfl⟩:=List.mem_map.mp (mem_of_getElem? hx)
  have st:=xS (f:=BL) hx
  obtain⟨n,b⟩:=n
  refine⟨rfl,⟨trivial,?_⟩⟩
  show if b=true then _ else _
  cases b with
  |true=>
   rw[if_pos rfl]
   refine⟨hpa,?_,?_⟩
   ·rw[st,<- e0];rfl
   ·rw[e1,bL]
  |false=>
   rw[if_neg ⋯]
   refine⟨hpa,?_,e1⟩
   rw[st,<- e0];simp[BL]
 ·rintro acc Y ⟨e0,e1⟩ hpa
  rw[take_length] at e0
  rw[e1,e0,cf hp]
  exact q
noncomputable def QT(ds:List D):PQ:=fun K u U H=>∃a us,u = .ref a/\H a=some (.tup us)/\fg K U H ds us
mutual
theorem Rp.sub{K:PySem.W.Frag}{U ac:Mu}{H:Hp}(h:∀a,ac a=none->U a=none):∀{d:PyData} {u:V},Rp K ac H d u->Rp K U H d u
 |_,_,.none=>.none
 |_,_,.bool b=>.bool b
 |_,_,.int i=>.int i
 |_,_,.str x=>.str x
 |_,_,.list a b c=>.list a (h _ b) (RpL.sub h c)
 |_,_,.tuple a c=>.tuple a (RpL.sub h c)
theorem RpL.sub{K:PySem.W.Frag}{U ac:Mu}{H:Hp}(h:∀a,ac a=none->U a=none):∀{ds:List PyData} {us:List V},RpL K ac H ds us->RpL K U H ds us
 |_,_,.nil=>.nil
 |_,_,.cons a b=>.cons (Rp.sub h a) (RpL.sub h b)
end
structure ic(U Y:Mu):Prop where
 l:∀b ds,U b=some ds->Y b=some ds
 b:∀b c,U.b b=some c->Y.b b=some c
noncomputable instance {U Y:Mu}:CoeFun (ic U Y) fun _=>∀b ds,U b=some ds->Y b=some ds:=⟨ic.l⟩
theorem ic.refl{U:Mu}:ic U U:=⟨fun _ _ e=>e,fun _ _ e=>e⟩
theorem ic.none{U Y:Mu}(h:ic U Y){b:Addr}(e:Y b=none):U b=none:=by
 cases z:U b with
 |none=>rfl
 |some ds=>rw[h b ds z] at e;cases e
theorem om{K:PySem.W.Frag}{U Y:Mu}{H:Hp}(ok:aV K Y H)(s:ic U Y):aV K U H:=⟨fun a ds z=>by
 obtain⟨xs,h1,h2⟩:=ok.lst a ds (s a ds z)
 exact⟨xs,h1,h2.sub fun b hb=>s.none hb⟩,ok.tab,fun a c z=>by
 obtain⟨y,o,h1,h2⟩:=ok.box a c (s.b a c z)
 exact⟨y,o,h1,h2.shrink fun b hb=>s.none hb⟩⟩
theorem ic.set{U Y:Mu}{p:Addr}{ds:List PyData}(h:ic U Y)(n:U p=Option.none):ic U (aE Y p ds):=⟨fun b es e=>by
 have:b≠p:=fun z=>by rw[z,n] at e;cases e
 rw[au this];exact h b es e,h.b⟩
noncomputable def frz(U:Mu)(Qd:DK):DK:=fun d Y=>match d with
 |.v x=>ic U Y/\Qd (.v x) U
 |.m a=>(U a=none/\ic U Y)/\∃es,Y a=some es/\Qd (.v (.list es)) U
 |_=>False
theorem Il{P:Program}{w:World}{K:PySem.W.Frag}{mg:Str->Option Value}{base:Heap}{CX:CXT}{k:Nat}{f:Addr}{fd:FuncData}{ps:List Str}{sp sp':DSp}(F:dW P w K mg base CX k f fd ps (spD K sp))
  (h:∀ds U Qd,sp' ds U Qd->sp ds U (frz U Qd)):dW P w K mg base CX k f fd ps (spD K sp'):=by
 refine F.imp fun vs H Q E h'=>?_
 obtain⟨ds,U,Qd,ok,r,s,kk⟩:=h'
 refine⟨ds,U,_,ok,r,h _ _ _ s,fun d u Y H' e ok' rd q=>?_⟩
 cases d with
 |v x=>
  obtain⟨sb,q⟩:=q
  exact kk (.v x) u U H' ⟨e.keep,e.tb,fun b ds z=>⟨ds,z⟩,fun _ z _=>z,e.st,fun _ c z=>⟨c,z⟩⟩ (om ok' sb) (show Rp K U H' x u from (show Rp K Y H' x u from rd).sub fun b hb=>sb.none hb) q
 |m a=>
  obtain⟨⟨n,sb⟩,es,he,q⟩:=q
  obtain⟨rfl,_⟩:=rd
  obtain⟨xs,h1,h2⟩:=ok'.lst a es he
  exact kk (.v (.list es)) (.ref a) U H' ⟨e.keep,e.tb,fun b ds z=>⟨ds,z⟩,fun _ z _=>z,e.st,fun _ c z=>⟨c,z⟩⟩ (om ok' sb) (show Rp K U H' (.list es) (.ref a) from .list h1 n (h2.sub fun b hb=>sb.none hb)) q
 |s ns=>exact q.elim
 |o a=>exact q.elim
 |b a=>exact q.elim
 |q p=>exact q.elim
end L2.DL
namespace L2
open PySem PySem.W PyProof.Rows
end L2
namespace L2.DL
open PySem PySem.Spec PyProof.Rows
end L2.DL
namespace L2
open PySem PySem.W PyProof.Rows
end L2
namespace L2.DL
open PySem PySem.Spec PyProof.Rows
end L2.DL
namespace L2
open PySem PySem.Spec PyProof.Rows
end L2
namespace L2.DL
open PySem PySem.W PyProof.Rows
open PySem PySem.Spec PyProof.Rows
noncomputable def qX(U:Mu)(a:Addr):Mu:=⟨fun b=>if b=a then none else U b,U.b⟩
theorem n6{U:Mu}{a:Addr}:qX U a a=none:=if_pos rfl
theorem eE{U:Mu}{a b:Addr}(h:b≠a):qX U a b=U b:=if_neg h
noncomputable def yr(U:Mu)(Qd:DK):DK:=fun d Y=>match d with
 |.v x=>Qd (.v x) Y
 |.m a=>U a=none/\∃es,Y a=some es/\Qd (.v (.list es)) (qX Y a)
 |_=>False
theorem nE{P:Program}{w:World}{K:PySem.W.Frag}{mg:Str->Option Value}{base:Heap}{CX:CXT}{k:Nat}{f:Addr}{fd:FuncData}{ps:List Str}{sp sp':DSp}(F:dW P w K mg base CX k f fd ps (spD K sp))
  (h:∀ds U Qd,sp' ds U Qd->sp ds U (yr U Qd)):dW P w K mg base CX k f fd ps (spD K sp'):=by
 refine F.imp fun vs H Q E h'=>?_
 obtain⟨ds,U,Qd,ok,r,s,kk⟩:=h'
 refine⟨ds,U,_,ok,r,h _ _ _ s,fun d u Y H' e ok' rd q=>?_⟩
 cases d with
 |v x=>exact kk (.v x) u Y H' e ok' rd q
 |m a=>
  obtain⟨n,es,he,q⟩:=q
  obtain⟨rfl,_⟩:=rd
  obtain⟨xs,h1,h2⟩:=ok'.lst a es he
  have sb:ic (qX Y a) Y:=⟨fun b ds z=>by
   by_cases c:b=a
   ·rw[c,n6] at z;cases z
   ·rw[eE c] at z;exact z,fun _ _ z=>z⟩
  refine kk (.v (.list es)) (.ref a) (qX Y a) H' ⟨e.keep,e.tb,fun b ds z=>?_,fun b z g=>?_,e.st,e.bx⟩ (om ok' sb) (show Rp K (qX Y a) H' (.list es) (.ref a) from .list h1 n6 (h2.sub fun b hb=>sb.none hb)) q
  ·have c:b≠a:=fun c=>by rw[c,n] at z;cases z
   rw[eE c];exact e.dom b ds z
  ·exact sb.none (e.fresh b z g)
 |s ns=>exact q.elim
 |o a=>exact q.elim
 |b _=>exact q.elim
 |q p=>exact q.elim
end L2.DL
namespace L2
open PySem PySem.Spec PyProof.Rows
end L2
namespace L2.DL
open PySem PySem.Spec PyProof.Rows
end L2.DL
namespace L2
open PySem PySem.Spec PyProof.Rows
end L2
namespace L2.DL
open PySem PySem.Spec PyProof.Rows
end L2.DL
namespace L2
open PySem PySem.Spec PyProof.Rows
section
variable {X:Cx}
noncomputable def FI(x y:Str):Int:=match Builtin.Str.lastOccurrence x y 0 x.length with|some i=>(i:Nat)|none=>-1
end
end L2
namespace L2
open PySem PySem.Spec PyProof.Rows
end L2
namespace L2
open PySem PySem.Spec PyProof.Rows
end L2
namespace L2.DL
open PySem PySem.Spec PyProof.Rows
section
variable {X:Cx}{a b e e1 e2 o:Expr}{es:List Expr}{ta tb te to:DTE}{t:DTA}{pos p p2 apos cpos:Pos}{lo hi:Option Expr}
noncomputable def Dk(x y:Str):Bool:=decide (0+y.length<=x.length)&&Builtin.Str.subAt x y 0
noncomputable def Jt(x y:Str):Bool:=decide (0+y.length<=x.length)&&Builtin.Str.subAt x y (x.length-y.length)
end
section
variable {X:Cx}{a b e e1 e2 o tg:Expr}{es:List Expr}{ta tb te to:DTE}{t:DTA}{pos p p2 apos cpos:Pos}{lo hi:Option Expr}
noncomputable abbrev DTJ:=Str->Rho->Mu->(Str->Mu->Prop)->Prop
end
section
variable {X:Cx}{e o:Expr}{te to:DTE}{apos cpos:Pos}
noncomputable def CS(x y:Str):PyData:=.bool (Dk x y)
noncomputable def JT(x y:Str):PyData:=.bool (Jt x y)
noncomputable def Hw(x y:Str):PyData:=.int (FI x y)
end
end L2.DL
namespace L2
open PySem PySem.W PyProof.Rows
structure Big(X:Cx):Prop where
 ns:X.base.NoSeer
 tr:X.prog.given.tree=none
 st:X.stack=X.env::X.outer
 g:X.env.scope.isGenerator=false
 c:X.env.scope.isCoroutine=false
 dp:X.A.depth+Builtin.pylongFrames<recursionLimit
section
variable {X:Cx}{pins:List (Addr×Obj)}{Z:St}{H:Hp}{s:Shared}
theorem Big.room(b:Big X)(I:Inv X pins Z H s):PySem.PylongRoom (model X.prog X.w) X.A s:=
 PySem.PylongRoom.of I.nolimit b.dp (PySem.SeerAt.of (b.ns.keeps I.bk) b.tr (by rw[I.ok.frames,b.st]) b.g b.c I.ok.blt I.ok.glob)
theorem DD(b:Big X):OpR X (binaryOp .FloorDiv) (rI (fun _ j=>j≠0) fun i j=>.int (i.fdiv j)):=by
 intro pins s Z H x y v u Q I rx ry h
 obtain⟨i,j,rfl,rfl,hc,q⟩:=h
 obtain⟨t,rfl⟩:=rx
 obtain⟨t',rfl⟩:=ry
 exact floordiv_int hc ⟨.int (i.fdiv j),H,I.tok _,⟨_,rfl⟩,q⟩ (.inr (b.room I))
theorem Ir{P:Program}{w:World}{K:PySem.W.Frag}{mg:Str->Option Value}{base:Heap}{N:List Str}{qual:Str}{scope:Scope}{f:Addr}{cd:Value}{A:Around}{outer:List Env}{s:Shared}{H:Hp}{E:XK}{k:Nat}{CX:CXT}
  (hs:base.NoSeer) (ht:P.given.tree=none) (hr:bC k (A.deeper (envOfC qual scope s.heap.objs.size f cd))) (hk:32<=k:=by decide) (hg:scope.isGenerator=false:=by rfl) (hc:scope.isCoroutine=false:=by rfl) :
  Big (eG CX P w K mg base N qual scope f cd A outer s H E).nox:=
 ⟨hs,ht,rfl,hg,hc,by have:=hr.dp;show (A.deeper (envOfC qual scope s.heap.objs.size f cd)).depth+100<1000;have e:recursionLimit=1000:=rfl;omega⟩
end
end L2
namespace L2.DL
open PySem PySem.Spec PyProof.Rows
section
variable {X:Cx}{a b:Expr}{ta tb:DTE}{pos:Pos}
noncomputable abbrev iB(ta tb:DTE):DTE:=dOp (rII (fun _ j=>j≠0) fun i j=>.int (i.fdiv j)) ta tb
theorem Cs(g:Big X)(ha:DE X a ta)(hb:DE X b tb):DE X (.BinOp a .FloorDiv b pos) (iB ta tb):=pD (DD g) (Eg fun _ _ _ _=>.int _) ha hb
end
end L2.DL
namespace L2
open PySem PySem.Spec PyProof.Rows DL
theorem yU{P:Program}{w:World}{K:PySem.W.Frag}{mg mb:Str->Option Value}{CX:CXT}{k:Nat}{fa a:Addr}{fd:FuncData}{x:Str}{sp:Sp}{bv:Shared}{vs:List Value}{ns:List Int}(tabs:List Addr)
  (hT:∀p∈tabs,bv.heap.get? p=some (tabObj #[])/\K.lookup p=none) (hA2:∀c o p q,K.lookup c=some o->aU o=some (p,q)->p∈tabs) (hC:∀p∈tabs,isCodeTable bv.heap p)
  (KX:K.In bv.heap) (hns:bv.heap.Ns mainGlobals mg) (hb:bv.heap.Ns builtinsNs mb) (hbb:∀x:Str,x ≠ "__name__"->mb x=bootBuiltins x) (hlim:bv.heap.NoLimit) (hse:bv.heap.NoSeer) (hg:bv.gens = #[])
  (ha:bv.heap.get? a=some {cls:=.type "list",data:=.seq vs.toArray}) (hi:IntsAre vs ns) (hl:ns.length<=sizeLine) (hr:bC k callerA)
  (F:∀base:Heap,K.In base->base.Ns mainGlobals mg->base.NoSeer->dW P w K mg base CX k fa fd [x] sp) (hbind:∀(s:Shared) (u:Value),BindsTo s fd ⟨[u],[]⟩ [(x,u)])
  (hsp:∀H:Hp,pR K H->SqL K H a (ns.map V.int)->sp [.ref a] H (fun v _=>v = .bl true) fun _ _ _=>False)
  (hCX:∀H e s',CX [] H bv (fun _ _ _=>False) e s'->False) :
  codeAny (model P w) callerA (.call (.ref fa) ⟨[.ref a],[]⟩) (fun r s'=>r = .ok (.ret (.bool true))/\OldK bv.heap s'.heap/\s'.os=bv.os/\AllBare s'.gens) bv:=by
 have rv:=qB hi
 have lenV:=hi.length
 have ant:a ∉ tabs:=fun z=>by have:=(hT a z).1;rw[ha] at this;cases this
 have core:∀H:Hp,Jh tabs H->SqL K H a (ns.map V.int)->HOk P w H bv.heap->(∀b,H b≠none->b=a\/b∈tabs)->(H a≠none->K.lookup a=none)->(∀p∈tabs,H p=some (.tbl #[])) ->
   codeAny (model P w) callerA (.call (.ref fa) ⟨[.ref a],[]⟩) (fun r s'=>r = .ok (.ret (.bool true))/\OldK bv.heap s'.heap/\s'.os=bv.os/\AllBare s'.gens) bv:=by
  intro H hO hS hok hA hK hP
  have base_of:∀{b:Addr} {o:Obj},bv.heap.get? b=some o->H b=none->(pZ bv.heap H).get? b=some o:=fun e n=>Av e n
  have noA:∀{b:Addr} {o:Obj} {es:Array DictEntry} {ep:Nat},bv.heap.get? b=some o->o.data = .dict es ep->H b=none:=fun {b o es ep} e d=>by
   cases q:H b with
   |none=>rfl
   |some u=>
    rcases hA b (by rw[q];simp) with e'|e'
    ·subst e'
     rw[ha] at e;cases e
     have d':Data.seq vs.toArray _=Data.dict es ep:=d
     cases d'
    ·rw[(hT b e').1] at e;cases e
     have d':Data.fields #[]=Data.dict es ep:=d
     cases d'
  have nsK:∀{b:Addr} {m:Str->Option Value},bv.heap.Ns b m->(pZ bv.heap H).Ns b m:=fun {b m} ⟨o,es,ep,e,d,r⟩=>⟨o,es,ep,base_of e (noA e d),d,r⟩
  have hKb:K.In (pZ bv.heap H):=fun b o e=>base_of (KX b o e) (by
   cases q:H b with
   |none=>rfl
   |some u=>
    rcases hA b (by rw[q];simp) with e'|e'
    ·subst e'
     rw[hK (by rw[q];simp)] at e;cases e
    ·have e2:=e;rw[show K.lookup b=none from (hT b e').2] at e2;cases e2)
  have hM:Mod K mg (pZ bv.heap H):=⟨hKb,nsK hns,⟨mb,nsK hb,hbb⟩,let ⟨mc,h1,h2⟩:=hlim;⟨mc,nsK h1,h2⟩⟩
  have sK:(pZ bv.heap H).NoSeer:=by
   obtain⟨⟨mc,c1,c2⟩,⟨mm,m1,m2⟩,⟨mb',b1,b2⟩,mg',bm,ob,g1,g2,g3,g4,g5⟩:=hse
   refine⟨⟨mc,nsK c1,c2⟩,⟨mm,nsK m1,m2⟩,⟨mb',nsK b1,b2⟩,mg',bm,ob,nsK g1,g2,base_of g3 ?_,g4,g5⟩
   cases q:H bm with
   |none=>rfl
   |some u=>
    rcases hA bm (by rw[q];simp) with e'|e'
    ·subst e';rw[ha] at g3;cases g3;simp at g4
    ·rw[(hT bm e').1] at g3;cases g3;simp at g4
  have e0:uB P w K mg (pZ bv.heap H) callerA [] bv H:=⟨rfl,hM,fun b o e=>CC e,Nat.le_of_eq (yy _ _),trivial,fun b hb=>absurd (show b∈([]:List Addr) from hb) (by simp),hok,.of_eq hg⟩
  have tb:pR K H:=fun c o p q h1 h2=>⟨#[],hP p (hA2 c o p q h1 h2),trivial,fun pos cv e=>by simp[codeAmong] at e⟩
  refine codeAny_mono ((F _ hKb (nsK hns) sK).run callerA [] bv H ⟨[.ref a],[]⟩ [.ref a] [.ref a] _ _ hr e0 (hbind bv (.ref a)) (.cons rfl .nil) (hsp H tb hS)) fun r s' h=>?_
  cases r with
  |error e=>exact (hCX H e s' h).elim
  |ok fl=>
   cases fl with
   |next=>exact False.elim h
   |brk=>exact False.elim h
   |cont=>exact False.elim h
   |ret u=>
    obtain⟨v,H',os,bare,un,hok',r',q⟩:=h
    have q':v = .bl true:=q
    subst q'
    obtain rfl:u=Value.bool true:=r'
    refine⟨rfl,⟨fun b o e=>?_,fun b o e=>un.there b o e (by simp)⟩,os,bare⟩
    cases q:H b with
    |none=>exact .inl (un.keep b o e q (by intro z;exact absurd (show b∈([]:List Addr) from z) (by simp)) (by simp))
    |some u=>
     rcases hO b with z|⟨ob,xs,z⟩|⟨zt,z⟩
     ·rw[q] at z;cases z
     ·have z2:=un.js b ob _ z
      obtain⟨e1,_⟩:=hok b _ z
      obtain⟨e2,_⟩:=hok' b _ z2
      rw[e] at e1;cases e1
      exact .inl e2
     ·obtain⟨more,z2⟩:=un.jv b _ z
      have e2:s'.heap.get? b=some {cls:=.none,data:=.fields (#[]++more)}:=hok' b _ z2
      have e1:=(hT b zt).1
      rw[e] at e1;cases e1
      exact .inr (.inl ⟨hC b zt,rfl,#[],more,rfl,e2⟩)
 have okT:∀p∈tabs,bv.heap.get? p=some {cls:=.none,data:=.fields #[]}:=fun p hp=>(hT p hp).1
 cases hk:K.lookup a with
 |some o=>
  have e:=KX a o hk
  rw[ha] at e
  cases e
  refine core (fun b=>if b∈tabs then some (.tbl #[]) else none) (fun b=>?_) (.inr ⟨_,vs.toArray,_,hk,rfl,rfl,rfl,by rw[size_toArray,lenV];exact hl,by simpa using rv⟩) (fun b u z=>?_) (fun b z=>?_) (fun z=>absurd (if_neg ant) z) (fun p hp=>if_pos hp)
  ·by_cases hb:b∈tabs
   ·exact .inr (.inr ⟨hb,if_pos hb⟩)
   ·exact .inl (if_neg hb)
  ·by_cases hb:b∈tabs
   ·have z':=(if_pos hb).symm.trans z;cases z';exact okT b hb
   ·have z':=(if_neg hb).symm.trans z;cases z'
  ·by_cases hb:b∈tabs
   ·exact .inr hb
   ·exact absurd (if_neg hb) z
 |none=>
  refine core (fun b=>if b=a then some (.frz {cls:=.type "list",data:=.seq vs.toArray} (.lst (ns.map V.int))) else if b∈tabs then some (.tbl #[]) else none) (fun b=>?_) (.inl (.inr ⟨{cls:=.type "list",data:=.seq vs.toArray},if_pos rfl⟩)) (fun b u z=>?_) (fun b z=>?_) (fun _=>hk) (fun p hp=>by
   have:p≠a:=fun y=>ant (by rw[<- y];exact hp)
   exact (if_neg this).trans (if_pos hp))
  ·by_cases hb:b=a
   ·exact .inr (.inl ⟨_,_,if_pos hb⟩)
   ·by_cases hb2:b∈tabs
    ·exact .inr (.inr ⟨hb2,(if_neg hb).trans (if_pos hb2)⟩)
    ·exact .inl ((if_neg hb).trans (if_neg hb2))
  ·by_cases hb:b=a
   ·have z':=(if_pos hb).symm.trans z
    cases z'
    subst hb
    exact⟨ha,by rw[length_map];exact hl,vs,_,rv,ha⟩
   ·by_cases hb2:b∈tabs
    ·have z':=((if_neg hb).trans (if_pos hb2)).symm.trans z;cases z';exact okT b hb2
    ·have z':=((if_neg hb).trans (if_neg hb2)).symm.trans z;cases z'
  ·by_cases hb:b=a
   ·exact .inl hb
   ·by_cases hb2:b∈tabs
    ·exact .inr hb2
    ·exact absurd ((if_neg hb).trans (if_neg hb2)) z
theorem AH{l:PySem.W.OpenLaw}{n k:Nat}{q:Program}{loose:List Str}{XP:(Str->Option Value)->Heap->Prop}{YP:World->Heap->Prop}{d:DefRec}{K:Params->PySem.W.Frag}{CX:World->CXT}{sp:World->Sp}{x:Str}(tabs:List Addr)
  (him:importsNone q=true) (hn:l.most=some n) (hn2:n<=sizeLine) (hdf:d.params.defaults=[]) (hr:bC k callerA)
  (hY:∀(w:World) (h:Heap),YP w h->(K w.params).In h/\(∀p∈tabs,h.get? p=some (tabObj #[])/\(K w.params).lookup p=none)/\(∀p∈tabs,isCodeTable h p))
  (hA2:∀(w:World) c o p q,(K w.params).lookup c=some o->aU o=some (p,q)->p∈tabs)
  (F:∀(w:World) (mg:Str->Option Value) (fa:Addr) (h:Heap),(K w.params).In h->h.Ns mainGlobals mg->mg d.name=some (.ref fa) ->
   ∃fd:FuncData,(∀(s:Shared) (u:Value),BindsTo s fd ⟨[u],[]⟩ [(x,u)]) /\
    ∀base:Heap,(K w.params).In base->base.Ns mainGlobals mg->base.NoSeer->dW l.prog w (K w.params) mg base (CX w) k fa fd [x] (sp w))
  (hsp:∀(w:World) (H:Hp) (a:Addr) (ns:List Int),ns.length<=n->pR (K w.params) H->SqL (K w.params) H a (ns.map V.int)->sp w [.ref a] H (fun v _=>v = .bl true) fun _ _ _=>False)
  (hCX:∀(w:World) (H:Hp) (s:Shared) (e:Value) (s':Shared),CX w [] H s (fun _ _ _=>False) e s'->False) :
  PySem.W.WalkO q loose XP YP l.row.toRowW d [] (fun f vs=>PySem.call f vs):=by
 refine Att.uC hn hdf fun w db bv mg mb fa o pm cd doc a vs ns G ZZ ho hd hcd hmg hobj hints hlen hg=>?_
 obtain⟨KX,hT,hC⟩:=hY w _ ZZ
 obtain⟨fd,hb,hF⟩:=F w mg fa _ KX G.T.g hmg
 exact yU tabs hT (hA2 w) hC KX G.T.g G.T.b G.T.builtins G.T.nolimit (G.T.seer him) hg hobj hints (le_trans hlen hn2) hr hF hb (fun H hO hS=>hsp w H a ns hlen hO hS) fun H e s'=>hCX w H bv e s'
end L2
namespace L2.DL
open PySem PySem.Spec PyProof.Rows
section
variable {prog:Program}{w:World}{A:Around}{E:Value->Shared->Prop}{s:Shared}
theorem yW{z TI TO i1 i2 l1 l2:Addr}{k1 k2:Nat}{xs ys:Array Value}{x y a b:Value}{Q:Option Value->Shared->Prop}(D:ZipApart z TI TO i1 i2 l1 l2)
  (hz:IsZip s.heap z TI TO .none) (hTI:IsPair s.heap TI (.ref i1) (.ref i2)) (hTO:IsPair s.heap TO a b)
  (h1:IsTupIter s.heap i1 l1 k1) (h2:s.heap.IsListIter i2 l2 k2) (hl1:IsTup s.heap l1 xs) (hl2:s.heap.IsList l2 ys) (hx:xs[k1]? = some x) (hy:ys[k2]? = some y)
  (k:∀h',IsZip h' z TI TO (rawInt s.heap.objs.size)->IsPair h' TO x y->IsTupIter h' i1 l1 (k1+1)->h'.IsListIter i2 l2 (k2+1)->IsPair h' s.heap.objs.size x y->h'.objs.size=s.heap.objs.size+1 ->
   (∀c o,c≠z->c≠TO->c≠i1->c≠i2->s.heap.get? c=some o->h'.get? c=some o)->Q (some (.ref s.heap.objs.size)) {s with heap:=h'}) :
  wpAny (model prog w) A (pyNext (.ref z)) Q E s:=by
 have hT:s.TypeIs (.ref z) "zip":=⟨_,hz,rfl⟩
 unfold pyNext
 refine wpAny_bind (wpAny_attempt (wpAny_callSpecial?_slot (name:=Str.ofString "__next__") hT F.slot_zip_next (wpAny_call_entry F.slot_zip_next hT F.entry_zip_next ?_ (F.args_zip_next_1 _))))
 refine BQ (st1:=fun h=>IsTupIter h i1 l1 (k1+1)) (st2:=fun h=>h.IsListIter i2 l2 (k2+1)) D.TIz D.TOz D.i1z D.i2z D.TOi1 D.TOi2 hz hTI hTO
  (fun h b R E' kk=>vB (s:={s with heap:=h}) (h1.extBut b.extBut D.i1z) (IsTup.extBut hl1 b.extBut D.l1z) hx kk)
  (fun h h1 _ b b' h2' b'' R E' kk=>wpAny_nextOf_list_item (s:={s with heap:=h2'}) (h2.at fun o e=>b''.extBut _ _ D.TOi2.symm (b'.extBut _ _ D.i12.symm (b.extBut _ _ D.i2z e))) (let ⟨o,e,r⟩:=hl2;⟨o,b''.extBut _ _ D.l2TO (b'.extBut _ _ D.l2i1 (b.extBut _ _ D.l2z e)),r⟩) hy kk)
  fun g1 g2 g3 g4 h' s1 c1 c2 s3 c3 up a1 a2 a3 a4 a5=>wpAny_pure (k h' a1 a2 ?_ ?_ a3 a4 a5)
 ·exact oK (((s1.extBut c1.extBut D.TOi1.symm).extBut c2.extBut D.i12).extBut c3.extBut D.TOi1.symm) fun o e=>up _ o D.i1z e
 ·exact s3.at fun o e=>up _ o D.i2z (c3.extBut _ _ D.TOi2.symm e)
theorem zg{z TI TO i1 i2 l1 l2:Addr}{k1:Nat}{xs:Array Value}{Q:Option Value->Shared->Prop}(hh:A.handled=none)(D:ZipApart z TI TO i1 i2 l1 l2)
  (hz:IsZip s.heap z TI TO .none) (hTI:IsPair s.heap TI (.ref i1) (.ref i2))
  (h1:IsTupIter s.heap i1 l1 k1) (hl1:IsTup s.heap l1 xs) (hx:xs[k1]? = none)
  (k:∀h',(∀c o,c≠z->c≠TO->c≠i1->c≠i2->s.heap.get? c=some o->h'.get? c=some o)->Q none {s with heap:=h'}):wpAny (model prog w) A (pyNext (.ref z)) Q E s:=by
 have hT:s.TypeIs (.ref z) "zip":=⟨_,hz,rfl⟩
 unfold pyNext
 refine wpAny_bind (wpAny_attempt (wpAny_callSpecial?_slot (name:=Str.ofString "__next__") hT F.slot_zip_next (wpAny_call_entry F.slot_zip_next hT F.entry_zip_next ?_ (F.args_zip_next_1 _))))
 show wpAny _ _ (field (.ref z) 2>>=_) _ _ _
 refine wpAny_bind (wpAny_field hz rfl (x:=.bool false) rfl ?_)
 show wpAny _ _ (field (.ref z) 3>>=_) _ _ _
 refine wpAny_bind (wpAny_field hz rfl (x:=.ref TI) rfl (wpAny_bind (wpAny_seqItems hTI rfl ?_)))
 show wpAny _ _ (Builtin.SmallTypes.ownedTupleIsFree (.ref z)>>=_) _ _ _
 refine wpAny_bind ?_
 unfold Builtin.SmallTypes.ownedTupleIsFree
 refine wpAny_bind (wpAny_field hz rfl (x:=.none) rfl (wpAny_pure ?_))
 simp only[if_true]
 refine wpAny_bind (wpAny_rule (wpAny_bind (wpAny_field hz rfl (x:=.ref TO) rfl (wpAny_bind (wpAny_setField_rec hz (by simp) fun g1 z1 b1=>wpAny_bind ?_)))))
 simp only[List.zipIdx_cons,List.zipIdx_nil,List.forIn_cons,List.forIn_nil]
 refine wpAny_bind (wpAny_bind (wpAny_onRaise ?_))
 show wpAny _ _ (Builtin.SmallTypes.nextOf (.ref i1)>>=_) _ _ _
 refine wpAny_bind (uX (s:={s with heap:=g1}) hh (h1.extBut b1.extBut D.i1z) (IsTup.extBut hl1 b1.extBut D.l1z) hx fun g2 e b2 hq0=>?_)
 obtain⟨oe,hoe,hce⟩:=hq0
 have z2:IsZip g2 z TI TO .ellipsis:=b2 _ _ D.i1z.symm z1
 have ez:e≠z:=fun q=>by subst q;rw[z2] at hoe;cases hoe;simp at hce
 exact wpAny_setField_rec z2 (by simp) fun g3 _ b3=>wpAny_bind (wpAny_isInstance (T:="StopIteration") (b:=true) ⟨oe,b3.extBut _ _ ez hoe,hce⟩ isSubtype_stop (wpAny_pure (k _ fun c o c1 _ c3 _ q=>b3.extBut _ _ c1 (b2 _ _ c3 (b1.extBut _ _ c1 q)))))
noncomputable abbrev zm1(h:Heap)(l:Addr):Heap:=h.push {cls:=.type "tuple_iterator",data:=.fields #[.ref l,.int 0 0]}
noncomputable abbrev zm2(h:Heap)(l1 l2:Addr):Heap:=(zm1 h l1).push {cls:=.type "list_iterator",data:=.fields #[.ref l2,.int 0 0]}
noncomputable abbrev zm3(h:Heap)(l1 l2:Addr):Heap:=(zm2 h l1 l2).push {cls:=.type "tuple",data:=.seq #[.ref h.objs.size,.ref (zm1 h l1).objs.size]}
noncomputable abbrev zm4(h:Heap)(l1 l2:Addr):Heap:=(zm3 h l1 l2).push {cls:=.type "tuple",data:=.seq #[.none,.none]}
noncomputable abbrev zm5(h:Heap)(l1 l2:Addr):Heap:=(zm4 h l1 l2).push {cls:=.type "zip",data:=.fields #[.none,.bool false,.bool false,.ref (zm2 h l1 l2).objs.size,.ref (zm3 h l1 l2).objs.size]}
theorem vO(l1 l2:Addr)(xs ys:Array Value):Meets (Builtin.«zip.__new__» ⟨[.type "zip",.ref l1,.ref l2],[]⟩) (fun _ R s=>IsTup s.heap l1 xs/\s.heap.IsList l2 ys/\R (.ok (.ret (.ref (zm4 s.heap l1 l2).objs.size))) {s with heap:=zm5 s.heap l1 l2}):=
 .of_wp fun prog w A R s h=>by
  obtain⟨hp,g,d,tk,os⟩:=s
  obtain⟨t1,t2,h⟩:=h
  have hsub:=sub_zip
  have T1:IsTup (Shared.heap ⟨hp,g,d,tk,os⟩) l1 xs:=t1
  have T2:(Shared.heap ⟨hp.push {cls:=.type "tuple_iterator",data:=.fields #[.ref l1,.int 0 0]},g,d,tk,os⟩).IsList l2 ys:=let ⟨o,ho,r⟩:=t2;⟨o,Heap.get?_push_of_some _ ho,r⟩
  wp_walk using iter_tuple T1,wpAny_pyIter_list T2
  exact⟨_,rfl,h⟩
theorem yK{l1 l2:Addr}{xs ys:Array Value}{Q:Value->Shared->Prop}(t1:IsTup s.heap l1 xs)(t2:s.heap.IsList l2 ys)
  (k:∀h',IsZip h' (s.heap.objs.size+4) (s.heap.objs.size+2) (s.heap.objs.size+3) .none->IsPair h' (s.heap.objs.size+2) (.ref s.heap.objs.size) (.ref (s.heap.objs.size+1)) ->
   IsPair h' (s.heap.objs.size+3) .none .none->IsTupIter h' s.heap.objs.size l1 0->h'.IsListIter (s.heap.objs.size+1) l2 0 ->
   (∀c o,s.heap.get? c=some o->h'.get? c=some o)->Q (.ref (s.heap.objs.size+4)) {s with heap:=h'}) :
  wpAny (model prog w) A (call (.type "zip") [.ref l1,.ref l2]) Q E s:=by
 refine callType_new F.called_zip ⋯ (F.typeCall_zip_2 _ _) (F.newCall_zip_2 _ _) (fun obj=>F.args_object_init_3 obj _ _) F.entry_zip_new (vO l1 l2 xs ys) ⟨t1,t2,?_⟩
 have e1:(zm1 s.heap l1).objs.size=s.heap.objs.size+1:=Heap.size_push ..
 have e2:(zm2 s.heap l1 l2).objs.size=s.heap.objs.size+2:=by rw[Heap.size_push,e1]
 have e3:(zm3 s.heap l1 l2).objs.size=s.heap.objs.size+3:=by rw[Heap.size_push,e2]
 have e4:(zm4 s.heap l1 l2).objs.size=s.heap.objs.size+4:=by rw[Heap.size_push,e3]
 have up:∀{h:Heap} {c:Addr} {o u:Obj},h.get? c=some o->(h.push u).get? c=some o:=fun e=>Heap.get?_push_of_some _ e
 have g5:(zm5 s.heap l1 l2).get? (zm4 s.heap l1 l2).objs.size=some _:=Heap.get?_push_size _ rfl
 have g4:(zm5 s.heap l1 l2).get? (zm3 s.heap l1 l2).objs.size=some _:=up (Heap.get?_push_size _ rfl)
 have g3:(zm5 s.heap l1 l2).get? (zm2 s.heap l1 l2).objs.size=some _:=up (up (Heap.get?_push_size _ rfl))
 have g2:(zm5 s.heap l1 l2).get? (zm1 s.heap l1).objs.size=some _:=up (up (up (Heap.get?_push_size _ rfl)))
 have g1:(zm5 s.heap l1 l2).get? s.heap.objs.size=some _:=up (up (up (up (Heap.get?_push_size _ rfl))))
 show _/\_
 rw[e2,e3,e4] at g5
 rw[e1,e2] at g3
 rw[e3] at g4
 rw[e1] at g2
 rw[e4]
 exact⟨⟨_,g5,rfl⟩,k _ g5 g3 g4 ⟨_,g1,rfl,rfl⟩ ⟨_,g2,rfl,rfl⟩ fun c o x=>up (up (up (up (up x))))⟩
end
noncomputable def Kf(K:PySem.W.Frag)(l1 l2:Addr):It:=
 ⟨fun i H=>∃xs ys x y,SqT K H l1 xs/\SqL K H l2 ys/\xs[i]? = some x/\ys[i]? = some y,
  fun i H v H'=>∃p x y,v = .ref p/\H p=none/\H'=upd H p (.tup [x,y])/\(∀xs,SqT K H l1 xs->xs[i]? = some x)/\(∀ys,SqL K H l2 ys->ys[i]? = some y),
  fun i H=>∃xs,SqT K H l1 xs/\xs.length<=i⟩
noncomputable def IM(z TI TO i1 i2 l1 l2:Addr)(i:Nat)(h:Heap):Prop:=IsZip h z TI TO .none/\IsPair h TI (.ref i1) (.ref i2)/\(∃a b,IsPair h TO a b)/\IsTupIter h i1 l1 i/\h.IsListIter i2 l2 i
theorem zw{P:Program}{w:World}{K:PySem.W.Frag}{es:List Expr}{x1:Nat}{pos:Pos}(z TI TO i1 i2 l1 l2:Addr)(D:ZipApart z TI TO i1 i2 l1 l2) :
  Turn true P w K (.Tuple es x1 pos) (Kf K l1 l2) [z,TI,TO,i1,i2] z (IM z TI TO i1 i2 l1 l2) where
 mem:=by simp
 obj:=fun i h st b hb=>by
  obtain⟨a1,a2,⟨u,v,a3⟩,⟨o4,a4,c4,d4⟩,⟨o5,a5,c5,d5⟩⟩:=st
  simp only[mem_cons,not_mem_nil,or_false] at hb
  rcases hb with rfl|rfl|rfl|rfl|rfl
  ·exact⟨_,a1,fun v z=>by cases z⟩
  ·exact⟨_,a2,fun v z=>by cases z⟩
  ·exact⟨_,a3,fun v z=>by cases z⟩
  ·exact⟨_,a4,fun v z=>by rw[d4] at z;cases z⟩
  ·exact⟨_,a5,fun v z=>by rw[d5] at z;cases z⟩
 keep:=fun i h h' st k=>by
  obtain⟨a1,a2,⟨u,v,a3⟩,a4,a5⟩:=st
  exact⟨k z (by simp) _ a1,k TI (by simp) _ a2,⟨u,v,k TO (by simp) _ a3⟩,oK a4 fun o e=>k i1 (by simp) o e,a5.at fun o e=>k i2 (by simp) o e⟩
 item:=by
  intro X hP hw hK hc i pins s Z H E I hf st hg
  subst hP hw hK
  obtain⟨xs,ys,x,y,hq1,hq2,hx,hy⟩:=hg
  obtain⟨its1,rv1,p1,_⟩:=I.tuple hq1
  obtain⟨its2,rv2,p2,_⟩:=I.list hq2
  obtain⟨u,hu,ru⟩:=rv1.get hx
  obtain⟨v,hv,rv⟩:=rv2.get hy
  obtain⟨a1,a2,⟨c,d,a3⟩,a4,a5⟩:=id st
  refine yW D a1 a2 a3 a4 a5 p1 p2.isList (x:=u) (y:=v) (by simpa using hu) (by simpa using hv) fun h' b1 b2 b3 b4 b5 b6 b7=>?_
  refine⟨.ref s.heap.objs.size,rfl,wpAny_letOwnedTupleGo_zip (s:={s with heap:=h'}) b1 fun h2 c1 sb=>?_⟩
  have hT:h2.get? s.heap.objs.size=some {cls:=.type "tuple",data:=.seq #[u,v]}:=sb.extBut _ _ (Nat.ne_of_gt (Heap.lt_size a1)) b5
  refine⟨.ref s.heap.objs.size,upd H s.heap.objs.size (.tup [x,y]),?_,rfl,⟨s.heap.objs.size,x,y,rfl,I.hok.fresh (le_refl _),rfl,fun zs hz=>by rw[I.rq hz hq1];exact hx,fun zs hz=>by rw[I.uN hz hq2];exact hy⟩,?_,fun b hb=>?_⟩
  ·refine Inv.vF (s:=s) (h':=h2) (t':=s.toks) (ch:=[z,TI,TO,i1,i2]) I hf (fun b o hb e=>?_) (le_refl _) ⟨by show 2<=sizeLine;decide,[u,v],.cons ru (.cons rv .nil),_,hT,rfl,0,rfl⟩
   simp only[mem_cons,not_mem_nil,or_false,not_or] at hb
   exact sb.extBut _ _ hb.1 (b7 b o hb.1 hb.2.2.1 hb.2.2.2.1 hb.2.2.2.2 e)
  ·have k2:∀b o,b≠z->h'.get? b=some o->h2.get? b=some o:=fun b o hb e=>sb.extBut _ _ hb e
   exact⟨c1,k2 _ _ D.TIz (b7 _ _ D.TIz D.TITO D.TIi1 D.TIi2 a2),⟨_,_,k2 _ _ D.TOz b2⟩,oK b3 fun o e=>k2 _ o D.i1z e,b4.at fun o e=>k2 _ o D.i2z e⟩
  ·have hb':b<s.heap.objs.size:=by
    simp only[mem_cons,not_mem_nil,or_false] at hb
    obtain⟨o4,e4,_⟩:=a4
    obtain⟨o5,e5,_⟩:=a5
    rcases hb with rfl|rfl|rfl|rfl|rfl
    ·exact Heap.lt_size a1
    ·exact Heap.lt_size a2
    ·exact Heap.lt_size a3
    ·exact Heap.lt_size e4
    ·exact Heap.lt_size e5
   rw[aG (Nat.ne_of_lt hb')]
   exact (hf b hb).1
 done:=by
  intro X hP hw hK hc i pins s Z H E I hf st hg
  subst hP hw hK
  obtain⟨xs,hq1,hx⟩:=hg
  obtain⟨its1,rv1,p1,_⟩:=I.tuple hq1
  obtain⟨a1,a2,⟨c,d,a3⟩,a4,a5⟩:=id st
  have hl1:=rv1.length
  refine zg (I.ok.hd (hc rfl)) D a1 a2 a4 p1 (by simp;omega) fun h' b7=>⟨rfl,?_⟩
  ·refine Inv.C5 (t':=s.toks) (ch:=[z,TI,TO,i1,i2]) I hf fun b o hb e=>?_
   simp only[mem_cons,not_mem_nil,or_false,not_or] at hb
   exact b7 b o hb.1 hb.2.2.1 hb.2.2.2.1 hb.2.2.2.2 e
 self:=fun _ _ _ _ _ st h=>wpAny_pyIter_zip st.1 h
section
variable {X:Cx}{es:List Expr}{x1:Nat}{tpos:Pos}
noncomputable def Jv(K:PySem.W.Frag)(ta:TA):TI:=fun Z H R=>ta Z H fun vs H1=>∃l1 l2,vs=[.ref l1,.ref l2]/\(∃xs,SqT K H1 l1 xs)/\(∃ys,SqL K H1 l2 ys)/\R (Kf K l1 l2) H1
theorem Eb{a b:Expr}{ta:TA}{p pos:Pos}(hc:X.calm=true)(hg:Gl X "zip")(hm:X.mg "zip"=none)(ha:PA X [a,b] ta)(hs:starEach [a,b] X.env=[(false,eval a X.env),(false,eval b X.env)]:=by rfl)(hs2:starEach [b] X.env=[(false,eval b X.env)]:=by rfl) :
  PI X (.Tuple es x1 tpos) (.Call (.Name "zip" p) [a,b] [] pos) (Jv X.K ta):=by
 intro pins s Z H R I h
 refine Call_ (lJ I hg hm PyProof.Rows.Boot.«zip» (PyProof.Rows.callWith_type1 (thn (ha pos pins s Z H _ I h) fun us s1 hq0=>?_) (by rw[hs,hs2]) (by rw[hs2];rfl)))
 obtain⟨vs,H1,I1,r1,q1⟩:=hq0
 obtain⟨l1,l2,e,⟨xs,hq1⟩,⟨ys,hq2⟩,q⟩:=q1
 subst e
 cases r1 with
 |cons r rr=>
  cases rr with
  |cons r' rr=>
   cases rr
   cases r
   cases r'
   obtain⟨its1,rv1,p1,_⟩:=I1.tuple hq1
   obtain⟨its2,rv2,p2,_⟩:=I1.list hq2
   have n1:l1<s1.heap.objs.size:=by obtain⟨_,e,_⟩:=id p1;exact Heap.lt_size e
   have n2:l2<s1.heap.objs.size:=by obtain⟨_,e,_⟩:=p2.isList;exact Heap.lt_size e
   refine yK p1 p2.isList fun h' hz hTI hTO hi1 hi2 hk=>?_
   refine wpAny_pyIter_zip (s:={s1 with heap:=h'}) hz ?_
   refine⟨s1.heap.objs.size+4,[s1.heap.objs.size+4,s1.heap.objs.size+2,s1.heap.objs.size+3,s1.heap.objs.size,s1.heap.objs.size+1],_,_,H1,rfl,I1.kept (t':=s1.toks) hk,(zw _ _ _ _ _ l1 l2 (zipApart_new n1 n2)).calm hc,⟨hz,hTI,⟨_,_,hTO⟩,hi1,hi2⟩,fun b hb=>?_,q⟩
   have hb':s1.heap.objs.size<=b:=by
    simp only[mem_cons,not_mem_nil,or_false] at hb
    rcases hb with rfl|rfl|rfl|rfl|rfl
    ·exact le_add_right _ 4
    ·exact le_add_right _ 2
    ·exact le_add_right _ 3
    ·exact le_refl _
    ·exact le_add_right _ 1
   exact I1.BD hb' (I1.hok.fresh hb')
noncomputable def we(t:DTA):DTI:=fun ρ U Q=>t ρ U fun ds ac=>∃xs ys,ds=[.v (.tuple xs),.v (.list ys)]/\xs.length=ys.length/\Q (fX xs ys) ac
theorem Ci{a b:Expr}{t:DTA}{p pos:Pos}(hg:Gl X "zip")(hm:X.mg "zip"=none)(ha:DA X [a,b] t)(hs:starEach [a,b] X.env=[(false,eval a X.env),(false,eval b X.env)]:=by rfl)(hs2:starEach [b] X.env=[(false,eval b X.env)]:=by rfl)(hc:X.calm=true:=by rfl) :
  DI X (.Tuple es x1 tpos) (.Call (.Name "zip" p) [a,b] [] pos) (we t):=by
 obtain⟨t1,p1,l1⟩:=ha
 refine⟨_,Eb hc hg hm p1 hs hs2,fun Z H ρ U Qd R S h k=>?_⟩
 refine l1 Z H ρ U _ _ S h fun ds us ac H1 e1 S1 rs len h1=>?_
 obtain⟨xs,ys,rfl,hl,h1⟩:=h1
 cases rs with
 |cons r1 r2=>
  cases r2 with
  |cons r2 r3=>
   cases r3
   cases r1 with
   |@tuple a us _ ha ra=>
    cases r2 with
    |@list b ws _ hb hnb rb=>
     refine⟨a,b,rfl,⟨us,ha⟩,⟨ws,SqL.of hb⟩,k (fX xs ys) ac H1 _ e1 S1 (fun ad H2 e2 ok2 i=>⟨fun hi=>?_,fun hi=>?_⟩) h1⟩
     ·rw[j4] at hi
      have ha2:=fm S1.mu e2 ha
      have hb2:SqL X.K H2 b ws:=SqL.of (e2.keep _ _ hb hnb trivial)
      have i1:i<us.length:=by rw[<- ra.length];omega
      have i2:i<ws.length:=by rw[<- rb.length];omega
      refine⟨⟨us,ws,us[i],ws[i],ha2,hb2,by simp[i1],by simp[i2]⟩,?_⟩
      rintro v H' ⟨p,x,y,rfl,hp,rfl,hx,hy⟩
      obtain⟨u',h1',h2'⟩:=ra.get (i:=i) (d:=xs[i]'∅) (by simp)
      obtain⟨w',g1',g2'⟩:=rb.get (i:=i) (d:=ys[i]'∅) (by simp)
      have z1:=hx us ha2
      have z2:=hy ws hb2
      rw[h1'] at z1
      rw[g1'] at z2
      cases z1
      cases z2
      refine⟨.tuple [xs[i]'∅,ys[i]'∅],vk (by simp) (by simp),u7 hp,?_⟩
      exact dm ok2 (.cons (h2'.ext S1.mu e2) (.cons (g2'.ext S1.mu e2) .nil)) hp
     ·rw[j4] at hi
      have l1:=ra.length
      exact⟨us,fm S1.mu e2 ha,∅⟩
theorem zN{t:DTA}{ρ:Rho}{U:Mu}{Q:List PyData->Mu->Prop}:we t ρ U Q=t ρ U fun ds ac=>∃xs ys,ds=[.v (.tuple xs),.v (.list ys)]/\xs.length=ys.length/\Q (fX xs ys) ac:=rfl
end
open PySem PySem.Spec PyProof.Rows NM
theorem cC{n m:Nat}{i j:Int}(h:Sz n i)(g:Sz m j)(l:n+m<=120000000):IntMulOk i j:=by
 have b1:∀{k:Nat} {z:Int},Sz k z->Builtin.Int.intBits z<=k:=fun {k z} hz=>by
  unfold Builtin.Int.intBits
  split
  ·exact zero_le _
  ·rename_i q
   have hz':z.natAbs≠0:=by simp at q;omega
   have:=(Nat.log2_lt hz').mpr hz.lt
   omega
 have e1:=b1 h
 have e2:=b1 g
 unfold IntMulOk
 intro z
 simp only[and_eq_true] at z
 have z3:=z.2
 unfold Builtin.Int.intTooBig at z3
 simp only[decide_eq_true_eq] at z3
 have:(120000000:Int)<=bitsLine:=by decide
 omega
theorem mulL{i j:Int}(h:i.natAbs<2 ^ 64):IntMulOk i j:=Dh.ok (.inl ∅)
theorem mulR{i j:Int}(h:j.natAbs<2 ^ 64):IntMulOk i j:=Dh.ok (.inr ∅)
noncomputable def dN(x:N3):PyData:=.tuple [.int x.a,.int x.b,.int x.c]
noncomputable def isWhole(d:PyData):Bool:=isT "int" d&&!isT "bool" d
noncomputable def isNum:PyData->Bool
 |.tuple [.int a,.int b,.int c]=>decide (1<=c)&&(g3 a b c==1)
 |_=>false
noncomputable def cg:DSp:=fun ds U Q=>∃d,ds=[.v d]/\Q (.v (.bool (isWhole d))) U
noncomputable def ip:DSp:=fun ds U Q=>∃a b:Int,ds=[.v (.int a),.v (.int b)]/\Q (.v (.int (Int.gcd a b:Nat))) U
noncomputable def nY:DSp:=fun ds U Q=>∃a b c:Int,ds=[.v (.int a),.v (.int b),.v (.int c)]/\Q (.v (.int (g3 a b c:Nat))) U
noncomputable def Few:PyData->Prop
 |.tuple xs=>xs.length<=1000
 |_=>True
noncomputable def jS:DSp:=fun ds U Q=>∃d,ds=[.v d]/\Few d/\Q (.v (.bool (isNum d))) U
noncomputable def aR:DSp:=fun ds U Q=>∃a b c:Int,ds=[.v (.int a),.v (.int b),.v (.int c)]/\c≠0/\Sz 44000000 c/\Q (.v (dN (low a b c))) U
noncomputable def jn:DSp:=fun ds U Q=>∃x:N3,ds=[.v (dN x)]/\Q (.v (dN (minus x))) U
noncomputable def sp2(f:N3->N3->N3):DSp:=fun ds U Q=>∃x y:N3,ds=[.v (dN x),.v (dN y)]/\Ok x/\Ok y/\Bd 21500000 x/\Bd 21500000 y/\Q (.v (dN (f x y))) U
noncomputable abbrev bQ:DSp:=sp2 plus
noncomputable abbrev pb:DSp:=sp2 less
noncomputable def a7:DSp:=fun ds U Q=>∃(d:Int) (x y:N3),ds=[.v (.int d),.v (dN x),.v (dN y)]/\Sz 5 d/\Ok x/\Ok y/\Bd 21500000 x/\Bd 21500000 y/\Q (.v (dN (times d x y))) U
noncomputable def aM:DSp:=fun ds U Q=>∃(d:Int) (x:N3),ds=[.v (.int d),.v (dN x)]/\Sz 5 d/\norm d x≠0/\Bd 21500000 x/\Q (.v (dN (aB d x))) U
noncomputable def jK:DSp:=fun ds U Q=>∃(d:Int) (x y:N3),ds=[.v (.int d),.v (dN x),.v (dN y)]/\aj d/\Ok x/\Ok y/\y≠cy/\Bd 21500000 x/\Bd 10500000 y/\Q (.v (dN (times d x (aB d y)))) U
noncomputable def nW:DSp:=fun ds U Q=>∃d a b:Int,ds=[.v (.int d),.v (.int a),.v (.int b)]/\Sz 5 d/\Sz 49500000 a/\Sz 49500000 b/\Q (.v (.int (sg d a b))) U
noncomputable def iX:DSp:=fun ds U Q=>∃(d:Int) (x:N3),ds=[.v (.int d),.v (dN x)]/\aj d/\Bd 44500000 x/\Q (.v (.int (sg d x.a x.b))) U
noncomputable def Bag(U:Mu)(a:Addr):Prop:=∃g m:Int,U a=some [.int g,.int m]/\0<=g/\0<=m/\m<2147483648
noncomputable def Step(a:Addr)(U Y:Mu):Prop:=Bag Y a/\∀b,b≠a->Y b=U b
noncomputable def xy:DSp:=fun ds U Q=>∃(ns:List Int) (k:Int),ds=[.s ns,.v (.int k)]/\0<=k/\k<=1000/\∀p Y,U p=none->Step p U Y->Q (.m p) Y
noncomputable def aQ:DSp:=fun ds U Q=>∃(a:Addr) (n:Int),ds=[.m a,.v (.int n)]/\1<=n/\n<=1000000000/\Bag U a/\∀r Y,0<=r->r<n->Step a U Y->Q (.v (.int r)) Y
noncomputable def jm:DSp:=fun ds U Q=>∃a:Addr,ds=[.m a]/\Bag U a/\∀x Y,Ok x->Bd 20 x->Step a U Y->Q (.v (dN x)) Y
noncomputable def nF:DSp:=fun ds U Q=>∃a:Addr,ds=[.m a]/\Bag U a/\∀d Y,aj d->Step a U Y->Q (.v (.int d)) Y
theorem Step.trans{a:Addr}{U ac ad:Mu}(h:Step a U ac)(g:Step a ac ad):Step a U ad:=⟨g.1,fun b n=>(g.2 b n).trans (h.2 b n)⟩
theorem Step.set{a:Addr}{U:Mu}{g m:Int}(h1:0<=g)(h2:0<=m)(h3:m<2147483648):Step a U (aE U a [.int g,.int m]):=⟨⟨g,m,aq,h1,h2,h3⟩,fun b n=>au n⟩
def mkW(s:String):Lean.MacroM (Lean.TSyntax `tactic):=do let a<-(s.splitOn " ").toArray.mapM fun t=>if t.front=='↓' then `(Lean.Parser.Tactic.simpLemma|↓$(Lean.mkIdent (t.drop 1).toName):term) else `(Lean.Parser.Tactic.simpLemma|$(Lean.mkIdent t.toName):term);`(tactic|simp only[$a,*])
local macro_rules|`(tactic| walk_at "rd")=>mkW "↓cm ↓cw ↓cG ↓dY ↓fO ↓jc ↓i9 ↓iw ↓iJ ↓iy ↓fv ↓q_c ↓zz ↓q_B ↓ur ↓mK ↓mX ↓lR ↓t5 ↓iN ↓oi ↓jf ↓Af ↓cO ↓bI ↓kX ↓j7 ↓jd ↓km ↓k9 ↓kQ ↓mz ↓l4 ↓mB ↓mq ↓eK ↓iS ↓iD ↓gB ↓fQ ↓gU ↓iP ↓hV ↓gn ↓mT ↓mV ↓mY ↓i6 ↓i5 ↓ij ↓sV ↓cW ↓gE ↓mG ↓wj ↓gK ↓iG ↓iI ↓gM ↓l7 ↓u9 ↓iT ↓fj ↓mI ↓mx ↓a8 ↓gH ↓d8 ↓gI ↓jb ↓qw ↓mi ↓iF ↓hJ ↓kK ↓i7 ↓qT ↓fF ↓dq ↓mM ↓mj ↓b9 ↓cN ↓fJ ↓cX ↓dE ↓dJ ↓dF fX ↓fM ↓bF b0 bU dz dG d7 bind_none bind_some join_some getElem?_cons_zero getElem?_cons_succ ao dN fz ia i4 jw kJ List.map List.append List.replicate length_cons length_nil Nat.reduceAdd Nat.reduceSub nil_append cons_append set_cons_zero set_cons_succ map_some ↓reduceIte Bool.not_true Bool.not_false false_eq_true true_eq_false xor_false false_xor"
noncomputable def iA:DTS:=
 (aC (dD (o6 "int" (ae 0)) (xI (o6 "bool" (ae 0)))))
noncomputable def fo:DTS:=
 (ak (oB (dB (dOp (aJ true) (ae 1) (dC (.int 0)))) (nh 0 1 (aa (ae 1) (aa (jr (ae 0) (ae 1)) ag))))
 (aC (dCB jY (aa (ae 0) ag))))
noncomputable def fy:DTS:=
 (aC (ah ip (aa (ah ip (aa (ae 2) (aa (ae 0) ag))) (aa (ae 1) ag))))
noncomputable def ir:DTS:=
 (ak (nh 0 1 (aa (dCB jY (aa (ae 0) ag)) (aa (dCB jY (aa (ae 1) ag)) ag)))
 (ak (oB (dB (dOp rGt (ae 1) (dC (.int 0)))) (nh 0 1 (aa (ae 1) (aa (jr (ae 0) (ae 1)) ag))))
 (aC (ae 0))))
section
theorem yi(x:Int){y:Int}(h:y≠0):(x.fmod y).natAbs<y.natAbs:=by
 have e:=Int.mul_fdiv_add_fmod x y
 have:=Int.fmod_def x y
 rcases Int.lt_or_gt_of_ne h with h|h
 ·have k:=Int.neg_fmod_neg (a:=x) (b:=y)
  have h1:=Int.fmod_nonneg_of_pos (-x) (show 0 < -y by omega)
  have h2:=Int.fmod_lt_of_pos (-x) (show 0 < -y by omega)
  omega
 ·have h1:=Int.fmod_nonneg_of_pos x h
  have h2:=Int.fmod_lt_of_pos x h
  omega
theorem tZ(x y:Int):Int.gcd y (x.fmod y)=Int.gcd x y:=by
 have e:=Int.mul_fdiv_add_fmod x y
 have e':x.fmod y=x+y*(-(x.fdiv y)):=by rw[Int.mul_neg];omega
 rw[e',Int.gcd_add_mul_left_right,Int.gcd_comm]
theorem mP{U Qd ds}(h:cg ds U Qd):iA ‹Qd› (ao ["thing"] ds) U:=by
 obtain⟨d,rfl,q⟩:=h
 unfold iA
 walk_at "rd"
 unfold isWhole at q
 cases hb:isT "int" d<;>simp_all
theorem kz{U Qd ds}(h:ip ds U Qd):fo ‹Qd› (ao ["a","b"] ds) U:=by
 obtain⟨a,b,rfl,q⟩:=h
 unfold fo
 walk_at "rd"
 refine⟨fun m ρ Y=>∃x y:Int,ρ=[some (.v (.int x)),some (.v (.int y))]/\m=y.natAbs/\Int.gcd x y=Int.gcd a b/\Y=U,⟨_,a,b,rfl,rfl,rfl,rfl⟩,?_⟩
 rintro m ρ Y ⟨x,y,rfl,rfl,hg,rfl⟩
 walk_at "rd"
 by_cases hy:y=0
 ·subst hy
  have e:Int.gcd x 0=x.natAbs:=Int.gcd_zero_right x
  rw[<- hg,e] at q
  simpa using q
 ·have z:(true ^^ decide (y=0))=true:=by simp[hy]
  rw[if_pos z]
  exact⟨hy,_,yi x hy,y,x.fmod y,rfl,rfl,(tZ x y).trans hg,trivial⟩
theorem ow{U Qd ds}(h:ip ds U Qd):ir ‹Qd› (ao ["_law_one","_law_other"] ds) U:=by
 obtain⟨a,b,rfl,q⟩:=h
 unfold ir
 walk_at "rd"
 refine⟨fun m ρ Y=>∃x y:Int,ρ=[some (.v (.int x)),some (.v (.int y))]/\m=y.natAbs/\0<=x/\0<=y/\Int.gcd x y=Int.gcd a b/\Y=U,⟨_,_,_,rfl,rfl,∅,∅,by simp[Int.gcd],rfl⟩,?_⟩
 rintro m ρ Y ⟨x,y,rfl,rfl,hx,hy,hg,rfl⟩
 walk_at "rd"
 by_cases h0:0<y
 ·rw[if_pos (by simpa using h0)]
  have hy':y≠0:=by omega
  exact⟨hy',_,yi x hy',y,x.fmod y,rfl,rfl,∅,Int.fmod_nonneg_of_pos x h0,(tZ x y).trans hg,trivial⟩
 ·rw[if_neg (by simpa using h0)]
  have e:y=0:=by omega
  subst e
  rw[Int.gcd_zero_right] at hg
  have:x=((Int.gcd a b:Nat):Int):=by omega
  rw[this]
  exact q
theorem kN{U Qd ds}(h:nY ds U Qd):fy ‹Qd› (ao ["a","b","c"] ds) U:=by
 obtain⟨a,b,c,rfl,q⟩:=h
 unfold fy
 walk_at "rd"
 rw[<- D8] at q
 exact⟨c,a,rfl,_,b,rfl,q⟩
end
noncomputable def qK:DTS:=
 (ak (aL (dB (dOp (aJ false) (ae 2) (dC (.int 0)))) iO aF)
 (ak (az (ah nY (aa (ae 0) (aa (ae 1) (aa (ae 2) ag)))) (af 3))
 (ak (aL (dB (dOp rLt (ae 2) (dC (.int 0)))) (az (u6 (ae 3)) (af 3)) aF)
 (aC (aO (aa (iB (ae 0) (ae 3)) (aa (iB (ae 1) (ae 3)) (aa (iB (ae 2) (ae 3)) ag))))))))
noncomputable def mR:DTS:=
 (ak (az (aY (ah ip (aa (ah ip (aa (ae 0) (aa (ae 1) ag))) (aa (ae 2) ag))) (dOp ai (cL (aa (dC (.int 1)) (aa (u6 (dC (.int 1))) ag))) (dCB jF (aa (dOp rLt (ae 2) (dC (.int 0))) ag)))) (af 3))
 (aC (aO (aa (iB (ae 0) (ae 3)) (aa (iB (ae 1) (ae 3)) (aa (iB (ae 2) (ae 3)) ag))))))
noncomputable def jI:DTS:=
 (aC (aO (aa (ib (dC (.int 0)) (dOp ai (ae 0) (dC (.int 0)))) (aa (ib (dC (.int 0)) (dOp ai (ae 0) (dC (.int 1)))) (aa (dOp ai (ae 0) (dC (.int 2))) ag)))))
noncomputable def xX:DTS:=
 (aC (ah aR (aa (cM (aY (dOp ai (ae 0) (dC (.int 0))) (dOp ai (ae 1) (dC (.int 2)))) (aY (dOp ai (ae 1) (dC (.int 0))) (dOp ai (ae 0) (dC (.int 2))))) (aa (cM (aY (dOp ai (ae 0) (dC (.int 1))) (dOp ai (ae 1) (dC (.int 2)))) (aY (dOp ai (ae 1) (dC (.int 1))) (dOp ai (ae 0) (dC (.int 2))))) (aa (aY (dOp ai (ae 0) (dC (.int 2))) (dOp ai (ae 1) (dC (.int 2)))) ag)))))
noncomputable def tO:DTS:=
 (aC (ah aR (aa (cM (aY (dOp ai (ae 0) (dC (.int 0))) (dOp ai (ae 1) (dC (.int 2)))) (aY (dOp ai (ae 1) (dC (.int 0))) (dOp ai (ae 0) (dC (.int 2))))) (aa (cM (aY (dOp ai (ae 0) (dC (.int 1))) (dOp ai (ae 1) (dC (.int 2)))) (aY (dOp ai (ae 1) (dC (.int 1))) (dOp ai (ae 0) (dC (.int 2))))) (aa (aY (dOp ai (ae 0) (dC (.int 2))) (dOp ai (ae 1) (dC (.int 2)))) ag)))))
noncomputable def xu:DTS:=
 (aC (ah aR (aa (ib (aY (dOp ai (ae 0) (dC (.int 0))) (dOp ai (ae 1) (dC (.int 2)))) (aY (dOp ai (ae 1) (dC (.int 0))) (dOp ai (ae 0) (dC (.int 2))))) (aa (ib (aY (dOp ai (ae 0) (dC (.int 1))) (dOp ai (ae 1) (dC (.int 2)))) (aY (dOp ai (ae 1) (dC (.int 1))) (dOp ai (ae 0) (dC (.int 2))))) (aa (aY (dOp ai (ae 0) (dC (.int 2))) (dOp ai (ae 1) (dC (.int 2)))) ag)))))
noncomputable def ug:DTS:=
 (aC (ah aR (aa (cM (aY (dOp ai (ae 1) (dC (.int 0))) (dOp ai (ae 2) (dC (.int 0)))) (aY (aY (ae 0) (dOp ai (ae 1) (dC (.int 1)))) (dOp ai (ae 2) (dC (.int 1))))) (aa (cM (aY (dOp ai (ae 1) (dC (.int 0))) (dOp ai (ae 2) (dC (.int 1)))) (aY (dOp ai (ae 1) (dC (.int 1))) (dOp ai (ae 2) (dC (.int 0))))) (aa (aY (dOp ai (ae 1) (dC (.int 2))) (dOp ai (ae 2) (dC (.int 2)))) ag)))))
noncomputable def pQ:DTS:=
 (aC (ah aR (aa (cM (aY (dOp ai (ae 1) (dC (.int 0))) (dOp ai (ae 2) (dC (.int 0)))) (aY (aY (ae 0) (dOp ai (ae 1) (dC (.int 1)))) (dOp ai (ae 2) (dC (.int 1))))) (aa (cM (aY (dOp ai (ae 1) (dC (.int 0))) (dOp ai (ae 2) (dC (.int 1)))) (aY (dOp ai (ae 1) (dC (.int 1))) (dOp ai (ae 2) (dC (.int 0))))) (aa (aY (dOp ai (ae 1) (dC (.int 2))) (dOp ai (ae 2) (dC (.int 2)))) ag)))))
noncomputable def ma:DTS:=
 (ak (az (ib (aY (dOp ai (ae 1) (dC (.int 0))) (dOp ai (ae 1) (dC (.int 0)))) (aY (aY (ae 0) (dOp ai (ae 1) (dC (.int 1)))) (dOp ai (ae 1) (dC (.int 1))))) (af 2))
 (aC (ah aR (aa (aY (dOp ai (ae 1) (dC (.int 2))) (dOp ai (ae 1) (dC (.int 0)))) (aa (aY (u6 (dOp ai (ae 1) (dC (.int 2)))) (dOp ai (ae 1) (dC (.int 1)))) (aa (ae 2) ag))))))
noncomputable def gw:DTS:=
 (aC (ah aR (aa (aY (dOp ai (ae 1) (dC (.int 0))) (dOp ai (ae 1) (dC (.int 2)))) (aa (ib (dC (.int 0)) (aY (dOp ai (ae 1) (dC (.int 1))) (dOp ai (ae 1) (dC (.int 2))))) (aa (ib (aY (dOp ai (ae 1) (dC (.int 0))) (dOp ai (ae 1) (dC (.int 0)))) (aY (aY (ae 0) (dOp ai (ae 1) (dC (.int 1)))) (dOp ai (ae 1) (dC (.int 1))))) ag)))))
noncomputable def wR:DTS:=
 (ak (aL (dB (dOp (aJ false) (ae 2) (dC (.tuple [.int 0,.int 0,.int 1])))) iO aF)
 (aC (ah a7 (aa (ae 0) (aa (ae 1) (aa (ah aM (aa (ae 0) (aa (ae 2) ag))) ag))))))
section
variable {U:Mu}{Qd:DK}{ds:List D}
theorem LK(i j:Int):PyData.eqv (.int i) (.int j)=decide (i=j):=by simp[PyData.eqv];rfl
theorem gdv{a b c:Int}(h:Sz 44000000 c)(hc:c≠0):Sz 44000000 ((g3 a b c:Nat):Int):=by
 have h1:=(AG a b c).2.2
 have h2:=Int.natAbs_dvd_natAbs.mpr h1
 exact h.le (Nat.le_of_dvd ∅ h2)
theorem zy(h:aR ds U Qd):qK ‹Qd› (ao ["a","b","c","divisor"] ds) U:=by
 obtain⟨a,b,c,rfl,hc,hz,q⟩:=h
 unfold qK
 walk_at "rd"
 rw[decide_eq_false hc]
 simp only[xor_false,false_eq_true,↓reduceIte]
 refine⟨a,b,c,rfl,?_⟩
 walk_at "rd"
 have hp:=tH (a:=a) (b:=b) hc
 have hg:=gdv (a:=a) (b:=b) hz hc
 unfold low NM.dv dN at q
 simp only at q
 by_cases hn:c<0
 ·rw[if_pos (by simpa using hn)]
  rw[if_pos hn] at q
  have o:(-((g3 a b c:Nat):Int))≠0:=by omega
  exact⟨o,o,o,q⟩
 ·rw[if_neg (by simpa using hn)]
  rw[if_neg hn] at q
  have o:((g3 a b c:Nat):Int)≠0:=by omega
  exact⟨o,o,o,q⟩
theorem uI(h:aR ds U Qd):mR ‹Qd› (ao ["_law_a","_law_b","_law_c","_law_common"] ds) U:=by
 obtain⟨a,b,c,rfl,hc,hz,q⟩:=h
 unfold mR
 walk_at "rd"
 refine⟨a,b,rfl,_,c,rfl,?_⟩
 walk_at "rd"
 have hp:=tH (a:=a) (b:=b) hc
 have hg:=gdv (a:=a) (b:=b) hz hc
 unfold low NM.dv dN at q
 simp only at q
 by_cases hn:c<0
 ·simp only[hn,decide_true,↓reduceIte,i4]
  rw[if_pos hn] at q
  have e:((Int.gcd (Int.gcd a b:Nat) c:Nat):Int) * -1 = -((g3 a b c:Nat):Int):=by unfold g3;omega
  walk_at "rd"
  rw[e]
  have o:(-((g3 a b c:Nat):Int))≠0:=by omega
  exact⟨mulR ⋯,o,o,o,q⟩
 ·simp only[hn,decide_false,false_eq_true,↓reduceIte,ia]
  rw[if_neg hn] at q
  have e:((Int.gcd (Int.gcd a b:Nat) c:Nat):Int)*1=((g3 a b c:Nat):Int):=by unfold g3;omega
  walk_at "rd"
  rw[e]
  have o:((g3 a b c:Nat):Int)≠0:=by omega
  exact⟨mulR ⋯,o,o,o,q⟩
theorem ql(h:jn ds U Qd):jI ‹Qd› (ao ["_law_x"] ds) U:=by
 obtain⟨x,rfl,q⟩:=h
 unfold jI
 walk_at "rd"
 simp only[Int.zero_sub]
 exact q
theorem w4(h:bQ ds U Qd):xX ‹Qd› (ao ["x","y"] ds) U:=by
 obtain⟨x,y,rfl,ox,oy,bx,by',q⟩:=h
 unfold xX
 walk_at "rd"
 have m:∀{i j:Int},Sz 21500000 i->Sz 21500000 j->IntMulOk i j:=fun h g=>cC h g ⋯
 exact⟨m bx.a by'.c,m by'.a bx.c,m bx.b by'.c,m by'.b bx.c,m bx.c by'.c,_,_,_,rfl,j6 ox oy,(bx.c.mul by'.c).mono ⋯,q⟩
theorem rT(h:bQ ds U Qd):tO ‹Qd› (ao ["_law_x","_law_y"] ds) U:=w4 h
theorem Cy(h:pb ds U Qd):xu ‹Qd› (ao ["x","y"] ds) U:=by
 obtain⟨x,y,rfl,ox,oy,bx,by',q⟩:=h
 unfold xu
 walk_at "rd"
 have m:∀{i j:Int},Sz 21500000 i->Sz 21500000 j->IntMulOk i j:=fun h g=>cC h g ⋯
 exact⟨m bx.a by'.c,m by'.a bx.c,m bx.b by'.c,m by'.b bx.c,m bx.c by'.c,_,_,_,rfl,j6 ox oy,(bx.c.mul by'.c).mono ⋯,q⟩
theorem t4(h:a7 ds U Qd):ug ‹Qd› (ao ["d","x","y"] ds) U:=by
 obtain⟨d,x,y,rfl,hd,ox,oy,bx,by',q⟩:=h
 unfold ug
 walk_at "rd"
 have m:∀{i j:Int},Sz 21500000 i->Sz 21500000 j->IntMulOk i j:=fun h g=>cC h g ⋯
 exact⟨m bx.a by'.a,cC hd bx.b ⋯,cC (hd.mul bx.b) by'.b ⋯,m bx.a by'.b,m bx.b by'.a,m bx.c by'.c,_,_,_,rfl,j6 ox oy,(bx.c.mul by'.c).mono ⋯,q⟩
theorem p6(h:a7 ds U Qd):pQ ‹Qd› (ao ["_law_d","_law_x","_law_y"] ds) U:=t4 h
theorem tQ(h:aM ds U Qd):ma ‹Qd› (ao ["d","x","norm"] ds) U:=by
 obtain⟨d,x,rfl,hd,hn,bx,q⟩:=h
 unfold ma
 walk_at "rd"
 have m:∀{i j:Int},Sz 21500000 i->Sz 21500000 j->IntMulOk i j:=fun h g=>cC h g ⋯
 exact⟨m bx.a bx.a,cC hd bx.b ⋯,cC (hd.mul bx.b) bx.b ⋯,m bx.c bx.a,m bx.c.neg bx.b,_,_,_,rfl,hn,(sJ hd bx).mono ⋯,q⟩
theorem lH(h:aM ds U Qd):gw ‹Qd› (ao ["_law_d","_law_x"] ds) U:=by
 obtain⟨d,x,rfl,hd,hn,bx,q⟩:=h
 unfold gw
 walk_at "rd"
 have m:∀{i j:Int},Sz 21500000 i->Sz 21500000 j->IntMulOk i j:=fun h g=>cC h g ⋯
 refine⟨m bx.a bx.c,m bx.b bx.c,m bx.a bx.a,cC hd bx.b ⋯,cC (hd.mul bx.b) bx.b ⋯,_,_,_,rfl,hn,(sJ hd bx).mono ⋯,?_⟩
 have e1:x.a*x.c=x.c*x.a:=Int.mul_comm ..
 have e2:0-x.b*x.c = -x.c*x.b:=by grind
 rw[e1,e2]
 exact q
theorem Ld(a b c a' b' c':Int):PyData.eqv (.tuple [.int a,.int b,.int c]) (.tuple [.int a',.int b',.int c'])=decide (a=a'/\b=b'/\c=c'):=by
 simp[PyData.eqv,PyData.eqvAll]
 rfl
theorem C4(h:jK ds U Qd):wR ‹Qd› (ao ["d","x","y"] ds) U:=by
 obtain⟨d,x,y,rfl,hd,ox,oy,hy,bx,by',q⟩:=h
 unfold wR
 walk_at "rd"
 refine⟨rfl,rfl,?_⟩
 have hn:¬ (y.a=0/\y.b=0/\y.c=1):=fun z=>hy (N3.ext' z.1 z.2.1 z.2.2)
 rw[Ld,decide_eq_false hn]
 simp only[xor_false,false_eq_true,↓reduceIte]
 have s5:=fP hd.1 hd.2.1
 have nz:=hd.norm oy hy
 exact⟨d,y,rfl,s5,nz,by'.mono ⋯,d,x,_,rfl,s5,ox,cJ nz,bx.mono ⋯,(i8 s5 nz by').mono ⋯,q⟩
end
theorem JH{α:Type}{P:α->Prop}:∀x∈([]:List α),P x:=fun _ h=>nomatch h
theorem ER{α:Type}{P:α->Prop}{a:α}{l:List α}(h:P a)(t:∀x∈l,P x):∀x∈a::l,P x:=List.forall_mem_cons.mpr ⟨h,t⟩
structure Tg{α:Sort u}(x:α):Type where
noncomputable def hd{α:Sort u}(x:α)(_:Tg x):α:=x
section
variable {ρ:Rho}{U:Mu}{Q:DK}{QT:Bool->Mu->Prop}{Dd:gZ}{ta tb tc:DTE}{t u:DTT}{tA:DTA}{s1 s2:DTS}{d:D}{A B:Prop}{p:Tg A}{q:Tg B}
theorem HL{w:Tg Q}:hd Q w d U=Q d U:=propext Iff.rfl
theorem l_T{i:Decidable True}:(if True then hd A p else hd B q)=A:=if_pos trivial
theorem l_F{i:Decidable False}:(if False then hd A p else hd B q)=B:=if_neg id
theorem l_t{i:Decidable (true=true)}:(if true=true then hd A p else hd B q)=A:=if_pos rfl
theorem l_f{i:Decidable (false=true)}:(if false=true then hd A p else hd B q)=B:=if_neg Bool.false_ne_true
theorem gj{c:Prop}{i:Decidable c}(h:c):(if c then hd A p else hd B q)=A:=if_pos h
theorem ey{c:Prop}{i:Decidable c}(h:¬ c):(if c then hd A p else hd B q)=B:=if_neg h
theorem En{c:Prop}{i:Decidable c}(h:c->A)(g:¬ c->B):if c then hd A p else hd B q:=by split<;>rename_i z<;>first|exact h z|exact g z
theorem J9{i j:Int}{k:Decidable True}:(if True then i else j)=i:=if_pos trivial
theorem KJ{i j:Int}{k:Decidable False}:(if False then i else j)=j:=if_neg id
theorem Em{r}:dOp r ta tb ρ U Q=ta ρ U fun x ac=>tb ρ ac fun y ad=>r x y ad (hd Q .mk):=propext Iff.rfl
theorem BW{g:DTG}:az ta g Dd ρ U=ta ρ U (hd (fun d ac=>g d ρ ac Dd.nx) .mk):=propext Iff.rfl
theorem IG{rd}:dCB rd tA ρ U Q=tA ρ U fun ds ac=>rd ds ac (hd Q .mk):=propext Iff.rfl
theorem vK{dsp:DSp}:ah dsp tA ρ U Q=tA ρ U fun ds ac=>dsp ds ac (hd Q .mk):=propext Iff.rfl
theorem wL:gk t u ρ U QT=t ρ U fun c ac=>if c=true then hd (u ρ ac QT) .mk else hd (QT false ac) .mk:=propext Iff.rfl
theorem Bk:gQ t u ρ U QT=t ρ U fun c ac=>if c=true then hd (QT true ac) .mk else hd (u ρ ac QT) .mk:=propext Iff.rfl
theorem wF:dD ta tb ρ U Q=ta ρ U fun x ac=>match x with|.v (.bool c)=>if c=true then hd (tb ρ ac Q) .mk else hd (Q (.v (.bool false)) ac) .mk|_=>False:=propext Iff.rfl
theorem FU:dIf t ta tb ρ U Q=t ρ U fun c ac=>if c=true then hd (ta ρ ac Q) .mk else hd (tb ρ ac Q) .mk:=propext Iff.rfl
theorem Bi:aL t s1 s2 Dd ρ U=t ρ U fun b ac=>if b=true then hd (s1 Dd ρ ac) .mk else hd (s2 Dd ρ ac) .mk:=propext Iff.rfl
theorem sO{r r'}:jR r r' ta tb tc ρ U Q=ta ρ U fun x ac=>tb ρ ac fun y ad=>r x y ad fun z bn=>match z with
 |.v (.bool k)=>if k=true then hd (tc ρ bn fun w ce=>r' y w ce Q) .mk else hd (Q (.v (.bool false)) bn) .mk
 |_=>False:=propext Iff.rfl
end
local macro_rules|`(tactic| walk_at "rs")=>mkW "↓HL ↓l_t ↓l_f l_T l_F ↓cm ↓cw ↓cG ↓dY ↓fO ↓jc ↓i9 ↓iw ↓iJ ↓iy ↓fv ↓q_c ↓Em ↓q_B ↓ur ↓mK ↓mX ↓wL ↓Bk ↓iN ↓wF ↓jf ↓FU ↓cO ↓bI ↓kX ↓j7 ↓jd ↓km ↓k9 ↓kQ ↓mz ↓l4 ↓mB ↓mq ↓eK ↓iS ↓iD ↓gB ↓fQ ↓gU ↓iP ↓hV ↓gn ↓mT ↓mV ↓mY ↓i6 ↓i5 ↓ij ↓sV ↓cW ↓gE ↓mG ↓IG ↓gK ↓iG ↓iI ↓gM ↓l7 ↓u9 ↓iT ↓fj ↓mI ↓mx ↓a8 ↓gH ↓d8 ↓gI ↓jb ↓BW ↓mi ↓iF ↓hJ ↓kK ↓i7 ↓Bi ↓fF ↓vK ↓mM ↓mj ↓sO ↓b9 ↓cN ↓fJ ↓cX ↓dE ↓dJ ↓dF fX ↓fM ↓bF b0 bU dz dG d7 bind_none bind_some join_some getElem?_cons_zero getElem?_cons_succ ao dN fz ia i4 jw kJ List.map List.append List.replicate length_cons length_nil Nat.reduceAdd Nat.reduceSub nil_append cons_append set_cons_zero set_cons_succ map_some ↓reduceIte Bool.not_true Bool.not_false false_eq_true true_eq_false xor_false false_xor"
noncomputable def gm:DTS:=
 (ak (aL (gk (dB (dOp (aJ false) (ae 1) (dC (.int 0)))) (dB (dOp (aJ false) (ae 2) (dC (.int 0))))) (aC (dC (.int 0))) aF)
 (ak (aL (gk (dB (dOp rGe (ae 1) (dC (.int 0)))) (dB (dOp rGe (ae 2) (dC (.int 0))))) (aC (dC (.int 1))) aF)
 (ak (aL (gk (dB (dOp rLe (ae 1) (dC (.int 0)))) (dB (dOp rLe (ae 2) (dC (.int 0))))) (aC (u6 (dC (.int 1)))) aF)
 (ak (az (dIf (dB (dOp rGt (aY (ae 1) (ae 1)) (aY (aY (ae 0) (ae 2)) (ae 2)))) (ae 1) (ae 2)) (af 3))
 (aC (dIf (dB (dOp rGt (ae 3) (dC (.int 0)))) (dC (.int 1)) (u6 (dC (.int 1)))))))))
noncomputable def oS:DTS:=
 (aC (ah nW (aa (ae 0) (aa (dOp ai (ae 1) (dC (.int 0))) (aa (dOp ai (ae 1) (dC (.int 1))) ag)))))
noncomputable def jW:DTS:=
 (ak (nh 2 3 (aa (aY (dOp ai (ae 1) (dC (.int 0))) (dOp ai (ae 1) (dC (.int 0)))) (aa (aY (aY (ae 0) (dOp ai (ae 1) (dC (.int 1)))) (dOp ai (ae 1) (dC (.int 1)))) ag)))
 (ak (az (cL (aa (ib (dCB jF (aa (dOp rGt (dOp ai (ae 1) (dC (.int 0))) (dC (.int 0))) ag)) (dCB jF (aa (dOp rLt (dOp ai (ae 1) (dC (.int 0))) (dC (.int 0))) ag))) (aa (ib (dCB jF (aa (dOp rGt (dOp ai (ae 1) (dC (.int 1))) (dC (.int 0))) ag)) (dCB jF (aa (dOp rLt (dOp ai (ae 1) (dC (.int 1))) (dC (.int 0))) ag))) ag))) (af 4))
 (ak (aL (dB (dOp rGe (aY (dOp ai (ae 4) (dC (.int 0))) (dOp ai (ae 4) (dC (.int 1)))) (dC (.int 0)))) (aC (dIf (dB (dOp (aJ true) (dOp ai (ae 4) (dC (.int 0))) (dC (.int 0)))) (dOp ai (ae 4) (dC (.int 0))) (dOp ai (ae 4) (dC (.int 1))))) aF)
 (aC (dIf (dB (dOp rGt (ae 2) (ae 3))) (dOp ai (ae 4) (dC (.int 0))) (dOp ai (ae 4) (dC (.int 1))))))))
section
variable {U:Mu}{Qd:DK}{ds:List D}
theorem HP{c:Prop}{_:Decidable c}{A B G:Prop}{p:Tg A}{q:Tg B}(g:G)(ha:c->G->A)(hb:¬ c->G->B):if c then hd A p else hd B q:=by
 by_cases h:c
 ·rw[gj h];exact ha h g
 ·rw[ey h];exact hb h g
theorem wo{c:Prop}{_:Decidable c}{A B:Prop}{p:Tg A}{q:Tg B}(ha:c->A)(hb:¬ c->B):if decide c=true then hd A p else hd B q:=by
 by_cases h:c
 ·rw[gj (decide_eq_true h)];exact ha h
 ·rw[ey (fun z=>h (of_decide_eq_true z))];exact hb h
theorem lU(h:nW ds U Qd):gm ‹Qd› (ao ["d","a","b","prevailing"] ds) U:=by
 obtain⟨d,a,b,rfl,hd,ha,hb,q⟩:=h
 unfold gm
 walk_at "rs"
 by_cases n1:a=0/\b=0
 ·rw[show sg d a b=0 by unfold sg;rw[if_pos n1]] at q
  rw[gj (decide_eq_true n1.1)]
  walk_at "rs"
  rw[gj (decide_eq_true n1.2)]
  walk_at "rs"
  exact q
 refine HP (G:=?G1) ?g1 (fun h g=>?a1) (fun h g=>?b1)
 case a1=>walk_at "rs";rw[ey fun z=>n1 ⟨of_decide_eq_true h,of_decide_eq_true z⟩];walk_at "rs";exact g
 case b1=>walk_at "rs";exact g
 by_cases n2:0<=a/\0<=b
 ·rw[show sg d a b=1 by unfold sg;rw[if_neg n1,if_pos n2]] at q
  rw[gj (decide_eq_true n2.1)]
  walk_at "rs"
  rw[gj (decide_eq_true n2.2)]
  walk_at "rs"
  exact q
 refine HP (G:=?G2) ?g2 (fun h g=>?a2) (fun h g=>?b2)
 case a2=>walk_at "rs";rw[ey fun z=>n2 ⟨of_decide_eq_true h,of_decide_eq_true z⟩];walk_at "rs";exact g
 case b2=>walk_at "rs";exact g
 by_cases n3:a<=0/\b<=0
 ·rw[show sg d a b = -1 by unfold sg;rw[if_neg n1,if_neg n2,if_pos n3]] at q
  rw[gj (decide_eq_true n3.1)]
  walk_at "rs"
  rw[gj (decide_eq_true n3.2)]
  walk_at "rs"
  exact q
 refine HP (G:=?G3) ?g3 (fun h g=>?a3) (fun h g=>?b3)
 case a3=>walk_at "rs";rw[ey fun z=>n3 ⟨of_decide_eq_true h,of_decide_eq_true z⟩];walk_at "rs";exact g
 case b3=>walk_at "rs";exact g
 refine⟨cC ha ha ⋯,cC hd hb ⋯,cC (hd.mul hb) hb ⋯,?_⟩
 unfold sg at q
 rw[if_neg n1,if_neg n2,if_neg n3] at q
 refine wo (fun c=>?_) fun c=>?_
 ·rw[if_pos c] at q
  walk_at "rs"
  refine wo (fun z=>?_) fun z=>?_
  ·rw[if_pos z] at q;walk_at "rs";exact q
  ·rw[if_neg z] at q;walk_at "rs";exact q
 ·rw[if_neg c] at q
  walk_at "rs"
  refine wo (fun z=>?_) fun z=>?_
  ·rw[if_pos z] at q;walk_at "rs";exact q
  ·rw[if_neg z] at q;walk_at "rs";exact q
theorem vP(h:iX ds U Qd):oS ‹Qd› (ao ["d","x"] ds) U:=by
 obtain⟨d,x,rfl,hd,bx,q⟩:=h
 unfold oS
 walk_at "rd"
 exact⟨d,x.a,x.b,rfl,fP hd.1 hd.2.1,bx.a.mono ⋯,bx.b.mono ⋯,q⟩
theorem E4{d a b sa sb:Int}(ha:(a<0/\sa = -1)\/(a=0/\sa=0)\/(0<a/\sa=1))(hb:(b<0/\sb = -1)\/(b=0/\sb=0)\/(0<b/\sb=1)) :
  sg d a b=if 0<=sa*sb then (if sa≠0 then sa else sb) else if d*b*b<a*a then sa else sb:=by
 rcases ha with ⟨h1,rfl⟩|⟨h1,rfl⟩|⟨h1,rfl⟩<;>rcases hb with ⟨h2,rfl⟩|⟨h2,rfl⟩|⟨h2,rfl⟩
 ·exact (lD (kO.mpr (.inl ⟨le_of_lt h1,le_of_lt h2,fun z=>absurd z.1 (ne_of_lt h1)⟩))).trans rfl
 ·exact (lD (kO.mpr (.inl ⟨le_of_lt h1,le_of_eq h2,fun z=>absurd z.1 (ne_of_lt h1)⟩))).trans rfl
 ·rw[if_neg ⋯]
  unfold sg
  rw[if_neg fun z=>absurd z.1 (ne_of_lt h1),if_neg fun z=>absurd z.1 (Int.not_le.mpr h1),if_neg fun z=>absurd z.2 (Int.not_le.mpr h2)]
  by_cases c:d*b*b<a*a
  ·rw[if_pos c,if_pos c,if_neg (Int.not_lt.mpr (le_of_lt h1))]
  ·rw[if_neg c,if_neg c,if_pos h2]
 ·exact (lD (kO.mpr (.inl ⟨le_of_eq h1,le_of_lt h2,fun z=>absurd z.2 (ne_of_lt h2)⟩))).trans rfl
 ·exact (nP.mpr ⟨h1,h2⟩).trans rfl
 ·exact (lI (.inl ⟨le_of_eq h1.symm,le_of_lt h2,fun z=>absurd z.2 (ne_of_gt h2)⟩)).trans rfl
 ·rw[if_neg ⋯]
  unfold sg
  rw[if_neg fun z=>absurd z.1 (ne_of_gt h1),if_neg fun z=>absurd z.2 (Int.not_le.mpr h2),if_neg fun z=>absurd z.1 (Int.not_le.mpr h1)]
  by_cases c:d*b*b<a*a
  ·rw[if_pos c,if_pos c,if_pos h1]
  ·rw[if_neg c,if_neg c,if_neg (Int.not_lt.mpr (le_of_lt h2))]
 ·exact (lI (.inl ⟨le_of_lt h1,le_of_eq h2.symm,fun z=>absurd z.1 (ne_of_gt h1)⟩)).trans rfl
 ·exact (lI (.inl ⟨le_of_lt h1,le_of_lt h2,fun z=>absurd z.1 (ne_of_gt h1)⟩)).trans rfl
theorem EC(u:Int):(u<0/\((if decide (0<u)=true then 1 else 0)-if decide (u<0)=true then 1 else 0:Int) = -1)\/(u=0/\((if decide (0<u)=true then 1 else 0)-if decide (u<0)=true then 1 else 0:Int)=0)\/(0<u/\((if decide (0<u)=true then 1 else 0)-if decide (u<0)=true then 1 else 0:Int)=1):=by
 rcases Int.lt_trichotomy u 0 with z|z|z
 ·exact .inl ⟨z,by rw[decide_eq_false (Int.not_lt.mpr (le_of_lt z)),decide_eq_true z];rfl⟩
 ·exact .inr (.inl ⟨z,by rw[z];rfl⟩)
 ·exact .inr (.inr ⟨z,by rw[decide_eq_true z,decide_eq_false (Int.not_lt.mpr (le_of_lt z))];rfl⟩)
theorem rC(h:iX ds U Qd):jW ‹Qd› (ao ["_law_d","_law_x","_law_first","_law_second","_law_sides"] ds) U:=by
 obtain⟨d,x,rfl,hd,bx,q⟩:=h
 unfold jW
 walk_at "rs"
 have s5:=fP hd.1 hd.2.1
 refine⟨cC bx.a bx.a ⋯,cC s5 bx.b ⋯,cC (s5.mul bx.b) bx.b ⋯,?_⟩
 have ha:=EC x.a
 have hb:=EC x.b
 generalize ((if decide (0<x.a)=true then 1 else 0)-if decide (x.a<0)=true then 1 else 0:Int)=sa at ha ⊢
 generalize ((if decide (0<x.b)=true then 1 else 0)-if decide (x.b<0)=true then 1 else 0:Int)=sb at hb ⊢
 rw[E4 ha hb] at q
 refine⟨mulL (by clear q;omega),wo (fun c1=>?_) fun c1=>?_⟩
 ·rw[if_pos c1] at q
  walk_at "rs"
  by_cases c2:sa=0
  ·rw[decide_eq_true c2]
   rw[if_neg (fun z=>z c2)] at q
   exact q
  ·rw[decide_eq_false c2]
   rw[if_pos c2] at q
   walk_at "rs"
   exact q
 ·rw[if_neg c1] at q
  walk_at "rs"
  refine wo (fun c=>?_) fun c=>?_
  ·rw[if_pos c] at q;walk_at "rs";exact q
  ·rw[if_neg c] at q;walk_at "rs";exact q
end
noncomputable def mr:DTS:=
 (ak (az (dC (.int 0)) (af 2))
 (ak (aL (dB (dOp rLt (ae 1) (dCB a0 (aa (ae 0) ag)))) (az (dOp ai (ae 0) (ae 1)) (af 2)) aF)
 (ak (az (dC (.int 0)) (af 3))
 (ak (aL (dB (dOp rGe (dCB jY (aa (ae 2) ag)) (B4 (dC (.int 10)) (dC (.int 18))))) (az (dCB jY (aa (ae 2) ag)) (af 3)) aF)
 (ak (az (cL (aa (dC (.int 2147483647)) (aa (dC (.int 2147483629)) (aa (dC (.int 2147483587)) (aa (dC (.int 2147483579)) (aa (dC (.int 2147483563)) (aa (dC (.int 2147483549)) (aa (dC (.int 2147483543)) (aa (dC (.int 2147483497)) ag))))))))) (af 4))
 (ak (az (cM (cM (cM (aY (jr (ae 2) (dC (.int 2147483647))) (dC (.int 69623))) (aY (aY (dC (.int 104729)) (ae 1)) (ae 1))) (aY (dC (.int 7919)) (ae 1))) (dC (.int 12345))) (af 5))
 (aC (gY (aa (ae 3) (aa (jr (ae 5) (dOp ai (ae 4) (jr (ae 1) (dC (.int 8))))) ag))))))))))
noncomputable def ke:DTS:=
 (ak (aL (dB (dOp rGt (dOp ai (ae 0) (dC (.int 0))) (dC (.int 0)))) (ak (az (jr (dOp ai (ae 0) (dC (.int 0))) (ae 1)) (af 2))
 (ak (az (iB (dOp ai (ae 0) (dC (.int 0))) (ae 1)) (xD (ae 0) (dC (.int 0))))
 (aC (ae 2)))) aF)
 (ak (az (jr (cM (aY (dOp ai (ae 0) (dC (.int 1))) (dC (.int 48271))) (dC (.int 2531011))) (dC (.int 2147483647))) (xD (ae 0) (dC (.int 1))))
 (aC (jr (iB (jr (B4 (dOp ai (ae 0) (dC (.int 1))) (dC (.int 3))) (dC (.int 2147483629))) (dC (.int 64))) (ae 1)))))
section
variable {U:Mu}{Qd:DK}{ds:List D}
theorem sZ{α:Type}{xs:List α}{i:Int}(h0:0<=i)(h:i<(xs.length:Nat)):∃d,atI xs i=some d/\d∈xs:=by
 have hj:i.toNat<xs.length:=by omega
 have e:=fA (xs:=xs) (j:=i.toNat) (v:=xs[i.toNat]) (by simp[hj])
 rw[show ((i.toNat:Nat):Int)=i by omega] at e
 exact⟨_,e,getElem_mem _⟩
theorem fW(x:Int){y:Int}(h:0<y):0<=x.fmod y/\x.fmod y<y:=⟨Int.fmod_nonneg_of_pos x h,Int.fmod_lt_of_pos x h⟩
theorem Dw{x y:Int}(hx:0<=x)(hy:0<y):0<=x.fdiv y:=by rw[Int.fdiv_eq_ediv_of_nonneg _ ∅];exact Int.ediv_nonneg hx ∅
noncomputable def jk:List PyData:=[.int 2147483647,.int 2147483629,.int 2147483587,.int 2147483579,.int 2147483563,.int 2147483549,.int 2147483543,.int 2147483497]
theorem via{α:Sort u}{P:α->Prop}{G:Prop}(prf:∀c,P c)(use:(∀c,P c)->G):G:=use prf
theorem Lx{P:Int->Prop}{G:Prop}(prf:∀c,0<=c->P c)(use:(∀c,0<=c->P c)->G):G:=use prf
theorem tW(h:xy ds U Qd):mr ‹Qd› (ao ["_law_script","_law_at","_law_cell","_law_great","_law_primes","_law_mixed"] ds) U:=by
 obtain⟨ns,k,rfl,h0,h1,q⟩:=h
 unfold mr
 have hp:∃pr:Int,atI jk (k.fmod 8)=some (.int pr)/\0<pr/\pr<2147483648:=by
  obtain⟨h2,h3⟩:=fW k (show (0:Int)<8 by decide)
  obtain⟨p,e,hm⟩:=sZ (xs:=jk) h2 (by exact h3)
  simp only[jk,mem_cons,not_mem_nil,or_false] at hm
  rcases hm with rfl|rfl|rfl|rfl|rfl|rfl|rfl|rfl<;>exact⟨_,e,⋯,⋯⟩
 obtain⟨pr,hpe,hp0,hp1⟩:=hp
 unfold jk at hpe
 have fin:∀G x:Int,0<=G->∀p,U p=none->Qd (.m p) (aE U p [.int G,.int (x.fmod pr)]):=fun G x hG p hp=>by
  obtain⟨h2,h3⟩:=fW x hp0
  exact q p _ hp (Step.set hG h2 ∅)
 walk_at "rs"
 refine via (α:=Int) (P:=?P) ?prf fun T=>?use
 case use=>
  refine wo (fun hk=>?_) fun hk=>?_
  ·obtain⟨c,hc,_⟩:=sZ h0 hk
   walk_at "rs"
   rw[hc]
   walk_at "rs"
   exact T c
  ·walk_at "rs"
   exact T 0
 intro c
 refine⟨⟨⋯,⋯,⋯⟩,?_⟩
 refine Lx (P:=?P2) ?prf2 fun T=>?use2
 case use2=>
  refine wo (fun hk=>?_) fun hk=>?_
  ·walk_at "rs"
   have hG:=Int.natCast_nonneg c.natAbs
   generalize (c.natAbs:Int)=G at hG ⊢
   exact T G hG
  ·walk_at "rs"
   exact T 0 ⋯
 intro G hG
 rw[hpe]
 walk_at "rs"
 have z3:pr≠0:=by omega
 exact⟨⋯,mulR ⋯,mulL ⋯,mulR ∅,mulL ⋯,⋯,z3,fin _ _ hG⟩
theorem rZ(h:aQ ds U Qd):ke ‹Qd› (ao ["_law_bag_here","_law_many","_law_digit"] ds) U:=by
 obtain⟨a,n,rfl,h0,h1,⟨g,m,hb,hg,hm,hm'⟩,q⟩:=h
 unfold ke
 walk_at "rd"
 rw[hb]
 walk_at "rd"
 rw[hb]
 walk_at "rd"
 have n0:n≠0:=by omega
 have i0:ixN 2 0=some 0:=by rfl
 have i1:ixN 2 1=some 1:=by rfl
 by_cases hg0:0<g
 ·rw[if_pos (by simpa using hg0)]
  simp only[hb]
  walk_at "rd"
  obtain⟨r0,r1⟩:=fW g (show 0<n by omega)
  refine⟨n0,?_⟩
  simp only[hb]
  walk_at "rd"
  refine⟨n0,?_⟩
  simp only[hb,length_cons,length_nil,Nat.reduceAdd,i0,set_cons_zero]
  exact q _ _ r0 r1 (Step.set (Dw hg ∅) hm hm')
 ·rw[if_neg (by simpa using hg0)]
  simp only[hb,i1,aq]
  walk_at "rd"
  obtain⟨s0,s1⟩:=fW (m*48271+2531011) (show (0:Int)<2147483647 by decide)
  generalize (m*48271+2531011).fmod 2147483647=w at s0 s1 ⊢
  obtain⟨r0,r1⟩:=fW ((((w ^ Int.toNat 3).fmod 2147483629).fdiv 64)) (show 0<n by omega)
  refine⟨mulL ∅,⋯,?_⟩
  refine⟨⟨⋯,⋯,∅⟩,(by show (2147483629:Int)≠0;decide),(by simp),n0,?_⟩
  exact q _ _ r0 r1 (Step.set hg s0 ∅)
end
noncomputable def kg:DTS:=
 (ak (aL (gQ (c6 (dB (o6 "tuple" (ae 0)))) (dB (dOp (aJ true) (dCB a0 (aa (ae 0) ag)) (dC (.int 3))))) (aC (dC (.bool false))) aF)
 (ak (az (ae 0) (cj 3 (aA (af 1) (aA (af 2) (aA (af 3) bY)))))
 (ak (aL (gQ (c6 (dB (ah cg (aa (ae 1) ag)))) (gQ (c6 (dB (ah cg (aa (ae 2) ag)))) (c6 (dB (ah cg (aa (ae 3) ag)))))) (aC (dC (.bool false))) aF)
 (aC (dD (dOp rGe (ae 3) (dC (.int 1))) (dOp (aJ false) (ah nY (aa (ae 1) (aa (ae 2) (aa (ae 3) ag)))) (dC (.int 1))))))))
section
variable {U:Mu}{Qd:DK}{ds:List D}
noncomputable def xr(i:Int):Bool:=decide (2<=i)&&decide (i<=30)&&!(decide (i=4) || decide (i=9) || decide (i=16) || decide (i=25))
theorem bO(d:PyData):(∃i,d = .int i/\isWhole d=true)\/((∀i,d≠.int i)/\isWhole d=false):=by
 cases d<;>first|exact .inl ⟨_,rfl,rfl⟩|exact .inr ⟨fun _ z=>(by cases z),rfl⟩
theorem jj(d:PyData):(∃xs,d = .tuple xs/\isT "tuple" d=true)\/((∀xs,d≠.tuple xs)/\isT "tuple" d=false):=by
 cases d<;>first|exact .inl ⟨_,rfl,rfl⟩|exact .inr ⟨fun _ z=>(by cases z),rfl⟩
theorem qI{d:PyData}(h:∀xs,d≠.tuple xs):isNum d=false:=by cases d<;>first|rfl|exact absurd rfl (h _)
theorem rf{xs:List PyData}(h:xs.length≠3):isNum (.tuple xs)=false:=by
 unfold isNum
 split
 ·rename_i e;cases e;exact absurd rfl h
 ·rfl
theorem three{α:Type}{xs:List α}(h:xs.length=3):∃a b c,xs=[a,b,c]:=by
 match xs,h with
 |[a,b,c],_=>exact⟨a,b,c,rfl⟩
theorem tK(h:jS ds U Qd):kg ‹Qd› (ao ["thing","a","b","c"] ds) U:=by
 obtain⟨d,rfl,_,q⟩:=h
 unfold kg
 walk_at "rd"
 rcases jj d with ⟨xs,rfl,e⟩|⟨hn,e⟩
 ·rw[e]
  walk_at "rd"
  by_cases hl:xs.length=3
  ·obtain⟨a,b,c,rfl⟩:=three hl
   have e3:decide ((([a,b,c].length:Nat):Int)=3)=true:=rfl
   have e3':[a,b,c].length=3:=rfl
   simp only[e3,Bool.xor_self,false_eq_true,↓reduceIte]
   refine⟨rfl,?_⟩
   walk_at "rd"
   refine⟨a,rfl,?_⟩
   rcases bO a with ⟨i,rfl,e⟩|⟨hn,e⟩
   ·rw[e]
    walk_at "rd"
    refine⟨b,rfl,?_⟩
    rcases bO b with ⟨j,rfl,e⟩|⟨hn,e⟩
    ·rw[e]
     walk_at "rd"
     refine⟨c,rfl,?_⟩
     rcases bO c with ⟨k,rfl,e⟩|⟨hn,e⟩
     ·rw[e]
      walk_at "rd"
      have q':Qd (.v (.bool (decide (1<=k)&&(g3 i j k==1)))) U:=q
      by_cases hk:1<=k
      ·rw[if_pos (by simpa using hk)]
       refine⟨i,j,k,rfl,?_⟩
       walk_at "rd"
       have ee:decide (((g3 i j k:Nat):Int)=1)=(decide (1<=k)&&(g3 i j k==1)):=by
        rw[decide_eq_true hk,Bool.true_and,Bool.eq_iff_iff];simp;omega
       rw[ee]
       exact q'
      ·rw[if_neg (by simpa using hk)]
       rw[decide_eq_false hk] at q'
       exact q'
     ·rw[e]
      walk_at "rd"
      have:isNum (.tuple [.int i,.int j,c])=false:=by cases c<;>first|rfl|exact absurd rfl (hn _)
      rw[this] at q
      exact q
    ·rw[e]
     walk_at "rd"
     have:isNum (.tuple [.int i,b,c])=false:=by cases b<;>first|rfl|exact absurd rfl (hn _)
     rw[this] at q
     exact q
   ·rw[e]
    walk_at "rd"
    have:isNum (.tuple [a,b,c])=false:=by cases a<;>first|rfl|exact absurd rfl (hn _)
    rw[this] at q
    exact q
  ·rw[rf hl] at q
   have:decide (((xs.length:Nat):Int)=3)=false:=by simp;omega
   rw[this]
   simp only[xor_false,↓reduceIte]
   exact q
 ·rw[e]
  rw[qI hn] at q
  walk_at "rd"
  exact q
end
noncomputable def fG:DTS:=
 (ak (aL (gQ (c6 (dB (o6 "tuple" (ae 0)))) (gQ (dB (dOp (aJ true) (dCB a0 (aa (ae 0) ag)) (dC (.int 3)))) (c6 (dB (dCB kG (aa (fY [none] (fK (ae 0)) (af 0) aW (ah cg (aa (ae 0) ag))) ag)))))) (aC (dC (.bool false))) aF)
 (aC (dD (dOp rGt (dOp ai (ae 0) (dC (.int 2))) (dC (.int 0))) (dOp (aJ false) (ah ip (aa (ah ip (aa (dOp ai (ae 0) (dC (.int 0))) (aa (dOp ai (ae 0) (dC (.int 1))) ag))) (aa (dOp ai (ae 0) (dC (.int 2))) ag))) (dC (.int 1))))))
noncomputable def je:DTS:=
 (ak (az (dOp ai (cL (aa (dC (.int 4)) (aa (dC (.int 10)) (aa (dC (.int 100)) (aa (dC (.int 1000000)) ag))))) (ah aQ (aa (ae 0) (aa (dC (.int 4)) ag)))) (af 1))
 (ak (nh 2 3 (aa (ib (ah aQ (aa (ae 0) (aa (ae 1) ag))) (iB (ae 1) (dC (.int 2)))) (aa (ib (ah aQ (aa (ae 0) (aa (ae 1) ag))) (iB (ae 1) (dC (.int 2)))) ag)))
 (ak (az (cM (dC (.int 1)) (ah aQ (aa (ae 0) (aa (ib (ae 1) (dC (.int 1))) ag)))) (af 4))
 (ak (az (ah aQ (aa (ae 0) (aa (dC (.int 8)) ag))) (af 5))
 (aC (ah aR (aa (dOp ai (cL (aa (ae 2) (aa (ae 2) (aa (ae 2) (aa (ae 2) (aa (ae 2) (aa (ae 2) (aa (ae 2) (aa (dC (.int 0)) ag))))))))) (ae 5)) (aa (dOp ai (cL (aa (ae 3) (aa (ae 3) (aa (ae 3) (aa (ae 3) (aa (ae 3) (aa (dC (.int 0)) (aa (dC (.int 0)) (aa (ae 3) ag))))))))) (ae 5)) (aa (dOp ai (cL (aa (ae 4) (aa (ae 4) (aa (dC (.int 1)) (aa (ae 4) (aa (dC (.int 1)) (aa (ae 4) (aa (dC (.int 1)) (aa (ae 4) ag))))))))) (ae 5)) ag)))))))))
section
variable {U:Mu}{Qd:DK}{ds:List D}
theorem k8(h:jS ds U Qd):fG ‹Qd› (ao ["_law_thing"] ds) U:=by
 obtain⟨d,rfl,few,q⟩:=h
 unfold fG
 walk_at "rd"
 rcases jj d with ⟨xs,rfl,e⟩|⟨hn,e⟩
 ·rw[e]
  walk_at "rd"
  by_cases hl:xs.length=3
  ·obtain⟨a,b,c,rfl⟩:=three hl
   have e3:decide ((([a,b,c].length:Nat):Int)=3)=true:=rfl
   simp only[e3,Bool.xor_self,false_eq_true,↓reduceIte]
   refine⟨by simp,fun x=>some (.bool (isWhole x)),fun x hx Y hs=>⟨trivial,x,rfl,rfl,rfl⟩,?_⟩
   rw[d9 (fun x=>PyData.bool (isWhole x)),fk]
   simp only[map_cons,map_nil,List.all_cons,List.all_nil,id,Bool.and_true]
   rcases bO a with ⟨i,rfl,ea⟩|⟨hn,ea⟩
   ·rcases bO b with ⟨j,rfl,e1⟩|⟨hn,e1⟩
    ·rcases bO c with ⟨k,rfl,e2⟩|⟨hn,e2⟩
     ·rw[ea,e1,e2]
      simp only[Bool.and_self]
      walk_at "rd"
      have q':Qd (.v (.bool (decide (1<=k)&&(g3 i j k==1)))) U:=q
      by_cases hk:1<=k
      ·rw[if_pos (by simp;omega)]
       refine⟨i,j,rfl,_,k,rfl,?_⟩
       walk_at "rd"
       have ee:decide (((Int.gcd (Int.gcd i j:Nat) k:Nat):Int)=1)=(decide (1<=k)&&(g3 i j k==1)):=by
        unfold g3
        rw[decide_eq_true hk,Bool.true_and,Bool.eq_iff_iff];simp;omega
       rw[ee]
       exact q'
      ·rw[if_neg (by simp;omega)]
       rw[decide_eq_false hk] at q'
       exact q'
     ·rw[ea,e1,e2]
      simp only[Bool.and_false]
      walk_at "rd"
      have:isNum (.tuple [.int i,.int j,c])=false:=by cases c<;>first|rfl|exact absurd rfl (hn _)
      rw[this] at q
      exact q
    ·rw[ea,e1]
     simp only[Bool.and_false,Bool.false_and]
     walk_at "rd"
     have:isNum (.tuple [.int i,b,c])=false:=by cases b<;>first|rfl|exact absurd rfl (hn _)
     rw[this] at q
     exact q
   ·rw[ea]
    simp only[Bool.and_false,Bool.false_and]
    walk_at "rd"
    have:isNum (.tuple [a,b,c])=false:=by cases a<;>first|rfl|exact absurd rfl (hn _)
    rw[this] at q
    exact q
  ·rw[rf hl] at q
   have:decide (((xs.length:Nat):Int)=3)=false:=by simp;omega
   rw[this]
   simp only[xor_false,↓reduceIte]
   exact q
 ·rw[e]
  rw[qI hn] at q
  walk_at "rd"
  exact q
theorem pick{P:PyData->Prop}{xs:List PyData}{i:Int}(h0:0<=i)(h1:i<(xs.length:Nat))(h:∀x∈xs,P x):∃d,atI xs i=some d/\P d:=let ⟨d,e,m⟩:=sZ h0 h1;⟨d,e,h d m⟩
theorem Step.refl{a:Addr}(h:Bag U a):Step a U U:=⟨h,fun _ _=>rfl⟩
theorem ub{i:Int}(h1:-1048576<i)(h2:i<1048576):Sz 20 i:=Sz.of (by show i.natAbs<1048576;omega)
theorem pH(h:jm ds U Qd):je ‹Qd› (ao ["_law_bag_here","_law_wide","_law_a","_law_b","_law_c","_law_way"] ds) U:=by
 obtain⟨a,rfl,hb,q⟩:=h
 unfold je
 walk_at "rd"
 refine⟨a,4,rfl,⋯,⋯,hb,fun r0 ac h0 h1 s1=>?_⟩
 walk_at "rd"
 obtain⟨w,e,i,rfl,w0,w1⟩:=pick (P:=fun d=>∃i:Int,d = .int i/\4<=i/\i<=1000000) (xs:=[PyData.int 4,PyData.int 10,PyData.int 100,PyData.int 1000000]) h0 (by exact h1) (by
  intro x hx
  simp only[mem_cons,not_mem_nil,or_false] at hx
  rcases hx with rfl|rfl|rfl|rfl<;>exact⟨_,rfl,⋯,⋯⟩)
 rw[e]
 walk_at "rd"
 refine⟨a,i,rfl,∅,∅,s1.1,fun r1 ad h2 h3 s2=>?_⟩
 walk_at "rd"
 refine⟨(by simp),a,i,rfl,∅,∅,s2.1,fun r2 bn h4 h5 s3=>?_⟩
 walk_at "rd"
 refine⟨(by simp),a,i-1,rfl,∅,∅,s3.1,fun r3 ce h6 h7 s4=>?_⟩
 walk_at "rd"
 refine⟨a,8,rfl,⋯,⋯,s4.1,fun r4 im h8 h9 s5=>?_⟩
 walk_at "rd"
 have ef:i.fdiv 2=i / 2:=Int.fdiv_eq_ediv_of_nonneg _ ∅
 rw[ef]
 have za:Sz 20 (r1-i / 2):=ub ∅ ∅
 have zb:Sz 20 (r2-i / 2):=ub ∅ ∅
 have zc:Sz 20 (1+r3):=ub ∅ ∅
 have z0:Sz 20 0:=ub ∅ ∅
 have z1:Sz 20 1:=ub ∅ ∅
 obtain⟨d1,e1,i1,rfl,b1⟩:=pick (P:=fun d=>∃i:Int,d = .int i/\Sz 20 i) (xs:=[PyData.int (r1-i / 2),PyData.int (r1-i / 2),PyData.int (r1-i / 2),PyData.int (r1-i / 2),PyData.int (r1-i / 2),PyData.int (r1-i / 2),PyData.int (r1-i / 2),PyData.int 0]) h8 (by exact h9) (by
  intro x hx
  simp only[mem_cons,not_mem_nil,or_false] at hx
  rcases hx with rfl|rfl|rfl|rfl|rfl|rfl|rfl|rfl<;>exact⟨_,rfl,by assumption⟩)
 rw[e1]
 walk_at "rd"
 obtain⟨d2,e2,i2,rfl,b2⟩:=pick (P:=fun d=>∃i:Int,d = .int i/\Sz 20 i) (xs:=[PyData.int (r2-i / 2),PyData.int (r2-i / 2),PyData.int (r2-i / 2),PyData.int (r2-i / 2),PyData.int (r2-i / 2),PyData.int 0,PyData.int 0,PyData.int (r2-i / 2)]) h8 (by exact h9) (by
  intro x hx
  simp only[mem_cons,not_mem_nil,or_false] at hx
  rcases hx with rfl|rfl|rfl|rfl|rfl|rfl|rfl|rfl<;>exact⟨_,rfl,by assumption⟩)
 rw[e2]
 walk_at "rd"
 obtain⟨d3,e3,i3,rfl,b3,p3⟩:=pick (P:=fun d=>∃i:Int,d = .int i/\Sz 20 i/\0<i) (xs:=[PyData.int (1+r3),PyData.int (1+r3),PyData.int 1,PyData.int (1+r3),PyData.int 1,PyData.int (1+r3),PyData.int 1,PyData.int (1+r3)]) h8 (by exact h9) (by
  intro x hx
  simp only[mem_cons,not_mem_nil,or_false] at hx
  rcases hx with rfl|rfl|rfl|rfl|rfl|rfl|rfl|rfl<;>exact⟨_,rfl,by assumption,∅⟩)
 rw[e3]
 walk_at "rd"
 have n3:i3≠0:=by omega
 exact⟨i1,i2,i3,rfl,n3,b3.mono ⋯,q _ _ (dX _ _ n3) (eM n3 b1 b2 b3) (s1.trans (s2.trans (s3.trans (s4.trans s5))))⟩
end
noncomputable def j8:DTS:=
 (ak (aL (dB (dOp (aJ false) (ah aQ (aa (ae 0) (aa (dC (.int 2)) ag))) (dC (.int 0)))) (aC (dOp ai (cL (aa (dC (.int 2)) (aa (dC (.int 3)) (aa (dC (.int 5)) ag)))) (ah aQ (aa (ae 0) (aa (dC (.int 3)) ag))))) aF)
 (ak (az (aP [none] (wK (aa (dC (.int 2)) (aa (dC (.int 31)) ag))) (af 0) (dB (dOp (vW true) (ae 0) (cL (aa (dC (.int 4)) (aa (dC (.int 9)) (aa (dC (.int 16)) (aa (dC (.int 25)) ag))))))) (ae 0)) (af 1))
 (aC (dOp ai (ae 1) (ah aQ (aa (ae 0) (aa (dC (.int 25)) ag)))))))
noncomputable def jC:DTS:=
 (ak (az (ah jm (aa (ae 0) ag)) (af 2))
 (ak (az (ah iX (aa (ae 1) (aa (ae 2) ag))) (af 3))
 (ak (aL (dB (dOp (aJ false) (ae 3) (dC (.int 0)))) (aC (aO (aa (cM (dC (.int 1)) (ah aQ (aa (ae 0) (aa (dC (.int 5)) ag)))) (aa (dC (.int 0)) (aa (dC (.int 1)) ag))))) aF)
 (aC (dIf (dB (dOp rGt (ae 3) (dC (.int 0)))) (ae 2) (ah jn (aa (ae 2) ag)))))))
section
variable {U:Mu}{Qd:DK}{ds:List D}
theorem C6{lo:Int}{n:Nat}{x:PyData}(h:x∈iU lo n):∃i:Int,x = .int i/\lo<=i/\i<lo+n:=by
 unfold iU at h
 obtain⟨k,hk,rfl⟩:=List.mem_map.mp h
 have:=List.mem_range.mp hk
 exact⟨_,rfl,∅,∅⟩
noncomputable def tR:PyData->Option PyData
 |.int i=>if xr i then some (.int i) else none
 |_=>none
noncomputable def rW:List PyData:=[2,3,5,6,7,8,10,11,12,13,14,15,17,18,19,20,21,22,23,24,26,27,28,29,30].map PyData.int
theorem in4(i:Int):(List.any [PyData.int 4,PyData.int 9,PyData.int 16,PyData.int 25] fun b=>PyData.eqv b (.int i))=(decide (i=4) || decide (i=9) || decide (i=16) || decide (i=25)):=by
 have ev:∀j:Int,PyData.eqv (.int j) (.int i)=decide (i=j):=fun j=>by rw[LK];simp[eq_comm]
 simp only[List.any_cons,List.any_nil,ev,Bool.or_false,Bool.or_assoc]
theorem rK(h:nF ds U Qd):j8 ‹Qd› (ao ["_law_bag_here","_law_some"] ds) U:=by
 obtain⟨a,rfl,hb,q⟩:=h
 unfold j8
 walk_at "rd"
 refine⟨a,2,rfl,⋯,⋯,hb,fun r0 ac h0 h1 s1=>?_⟩
 walk_at "rd"
 by_cases hr:r0=0
 ·rw[if_pos (by simpa using hr)]
  refine⟨a,3,rfl,⋯,⋯,s1.1,fun r1 ad h2 h3 s2=>?_⟩
  walk_at "rd"
  obtain⟨w,e,i,rfl,w0⟩:=pick (P:=fun d=>∃i:Int,d = .int i/\aj i) (xs:=[PyData.int 2,PyData.int 3,PyData.int 5]) h2 (by exact h3) (by
   intro x hx
   simp only[mem_cons,not_mem_nil,or_false] at hx
   rcases hx with rfl|rfl|rfl<;>exact⟨_,rfl,by unfold aj;omega⟩)
  rw[e]
  exact q _ _ w0 (s1.trans s2)
 ·rw[if_neg (by simpa using hr)]
  refine⟨⟨⋯,⋯,⋯,⋯⟩,⋯,fun p hp=>⟨fun i acc Y=>acc=((iU 2 29).take i).filterMap tR/\Y=aE ac p acc,⟨rfl,rfl⟩,?_,?_⟩⟩
  ·rintro i x acc Y hx hpa ⟨e0,e1⟩
   obtain⟨k,rfl,i0,i1⟩:=C6 (mem_of_getElem? hx)
   refine⟨trivial,rfl,rfl,by show 0<=60;decide,?_⟩
   rw[in4]
   have i1':k<31:=by simpa using i1
   have e:tR (.int k)=if xr k then some (.int k) else none:=rfl
   have e2:xr k = !(decide (k=4) || decide (k=9) || decide (k=16) || decide (k=25)):=by
    unfold xr
    rw[decide_eq_true i0,decide_eq_true (show k<=30 by omega)]
    rfl
   have ft:((iU 2 29).take (i+1)).filterMap tR=((iU 2 29).take i).filterMap tR++(tR (.int k)).toList:=E2 hx
   rw[e,e2] at ft
   cases hh:(decide (k=4) || decide (k=9) || decide (k=16) || decide (k=25))
   ·rw[hh] at ft
    simp only[true_xor,Bool.not_false,↓reduceIte] at ft ⊢
    refine⟨hpa,?_,?_⟩
    ·rw[ft,e0];rfl
    ·rw[e1,bL]
   ·rw[hh] at ft
    simp only[true_xor,Bool.not_true,↓reduceIte,false_eq_true] at ft ⊢
    refine⟨hpa,?_,e1⟩
    rw[ft,e0];simp
  rintro acc Y ⟨e0,e1⟩ _
  have ed:eI Y p=ac:=by rw[e1];exact cf hp
  rw[ed]
  have e0':acc=rW:=by rw[e0];rfl
  rw[e0']
  refine⟨a,25,rfl,⋯,⋯,s1.1,fun r1 ad h2 h3 s2=>?_⟩
  walk_at "rd"
  obtain⟨w,e,i,rfl,w0⟩:=pick (P:=fun d=>∃i:Int,d = .int i/\aj i) (xs:=rW) h2 (by exact h3) (by
   intro x hx
   unfold rW at hx
   obtain⟨k,hk,rfl⟩:=List.mem_map.mp hx
   exact⟨_,rfl,(show ∀k∈([2,3,5,6,7,8,10,11,12,13,14,15,17,18,19,20,21,22,23,24,26,27,28,29,30]:List Int),aj k by unfold aj;decide) k hk⟩)
  rw[e]
  exact q _ _ w0 (s1.trans s2)
noncomputable def gu:DSp:=fun ds U Q=>∃(a:Addr) (d:Int),ds=[.m a,.v (.int d)]/\aj d/\Bag U a/\∀x Y,Ok x->Bd 20 x->sg d x.a x.b=1->Step a U Y->Q (.v (dN x)) Y
theorem qa(h:gu ds U Qd):jC ‹Qd› (ao ["_law_bag_here","_law_d","_law_x","_law_sign_here"] ds) U:=by
 obtain⟨a,d,rfl,hd,hb,q⟩:=h
 unfold jC
 walk_at "rd"
 refine⟨a,rfl,hb,fun x ac ox bx s1=>?_⟩
 walk_at "rd"
 refine⟨d,x,rfl,hd,bx.mono ⋯,?_⟩
 walk_at "rd"
 have t:=wu d x.a x.b
 by_cases h0:sg d x.a x.b=0
 ·rw[if_pos (by simpa using h0)]
  refine⟨a,5,rfl,⋯,⋯,s1.1,fun r ad r0 r1 s2=>?_⟩
  walk_at "rd"
  have ok:Ok ⟨1+r,0,1⟩:=⟨by show (0:Int)<1;decide,by unfold g3;simp⟩
  refine q ⟨1+r,0,1⟩ ad ok ⟨ub (by show -1048576<1+r;omega) (by show 1+r<1048576;omega),ub (by show -1048576<(0:Int);decide) (by show (0:Int)<1048576;decide),ub (by show -1048576<(1:Int);decide) (by show (1:Int)<1048576;decide)⟩ ?_ (s1.trans s2)
  show sg d (1+r) 0=1
  unfold sg
  rw[if_neg ∅,if_pos ∅]
 ·rw[if_neg (by simpa using h0)]
  by_cases h1:0<sg d x.a x.b
  ·rw[if_pos (by simpa using h1)]
   exact q x ac ox bx ∅ s1
  ·rw[if_neg (by simpa using h1)]
   refine⟨x,rfl,?_⟩
   refine q (minus x) ac (dH ox) (j3 bx) ?_ s1
   show sg d (-x.a) (-x.b)=1
   rw[rR hd]
   omega
end
section
variable {U:Mu}{Q:DK}{ds:List D}
noncomputable def oh:DSp:=fun ds U Q=>∃ns:List Int,ds=[.s ns]/\ns.length<=63/\∀Y,Q (.v (.bool true)) Y
theorem mn(h:cg ds U Q):ds.length=1:=by obtain⟨_,rfl,_⟩:=h;rfl
theorem qx(h:ip ds U Q):ds.length=2:=by obtain⟨_,_,rfl,_⟩:=h;rfl
theorem wH(h:nY ds U Q):ds.length=3:=by obtain⟨_,_,_,rfl,_⟩:=h;rfl
theorem n9(h:jS ds U Q):ds.length=1:=by obtain⟨_,rfl,_⟩:=h;rfl
theorem kC(h:aR ds U Q):ds.length=3:=by obtain⟨_,_,_,rfl,_⟩:=h;rfl
theorem uU(h:jn ds U Q):ds.length=1:=by obtain⟨_,rfl,_⟩:=h;rfl
theorem oO(h:bQ ds U Q):ds.length=2:=by obtain⟨_,_,rfl,_⟩:=h;rfl
theorem vJ(h:pb ds U Q):ds.length=2:=by obtain⟨_,_,rfl,_⟩:=h;rfl
theorem mW(h:a7 ds U Q):ds.length=3:=by obtain⟨_,_,_,rfl,_⟩:=h;rfl
theorem iC(h:aM ds U Q):ds.length=2:=by obtain⟨_,_,rfl,_⟩:=h;rfl
theorem vv(h:jK ds U Q):ds.length=3:=by obtain⟨_,_,_,rfl,_⟩:=h;rfl
theorem vg(h:nW ds U Q):ds.length=3:=by obtain⟨_,_,_,rfl,_⟩:=h;rfl
theorem oo(h:iX ds U Q):ds.length=2:=by obtain⟨_,_,rfl,_⟩:=h;rfl
theorem y9(h:xy ds U Q):ds.length=2:=by obtain⟨_,_,rfl,_⟩:=h;rfl
theorem wg(h:aQ ds U Q):ds.length=2:=by obtain⟨_,_,rfl,_⟩:=h;rfl
theorem qp(h:jm ds U Q):ds.length=1:=by obtain⟨_,rfl,_⟩:=h;rfl
theorem uQ(h:nF ds U Q):ds.length=1:=by obtain⟨_,rfl,_⟩:=h;rfl
theorem rP(h:gu ds U Q):ds.length=2:=by obtain⟨_,_,rfl,_⟩:=h;rfl
theorem yp(h:oh ds U Q):ds.length=1:=by obtain⟨_,rfl,_⟩:=h;rfl
end
noncomputable def lX:DTS:=iA
theorem lh{U Qd ds}(h:cg ds U Qd):lX ‹Qd› (ao ["_law_thing"] ds) U:=mP h
structure Jx(K:PySem.W.Frag)(mg:Str->Option Value)(x:Str)(g:Addr)(a b c:Int):Prop where
 m:mg x=some (.ref g)
 l:∃(od:Option Addr) (n:Nat) (sl:Array (Option Value)) (t u v:Tok),K.lookup g=some ⟨.type "tuple",od,.seq #[.int a t,.int b u,.int c v] n,sl⟩
theorem By{X:Cx}{x:Str}{g:Addr}{a b c:Int}{pos:Pos}(hg:Gl X x)(h:Jx X.K X.mg x g a b c)(hd:(x==("__debug__":Str))=false:=by decide):DE X (.Name x pos) (dC (.tuple [.int a,.int b,.int c])):=by
 obtain⟨od,n,sl,t,u,v,e⟩:=h.l
 refine xH (u:=.ref g) hg h.m rfl (fun U H _=>Rp.tuple (xs:=[.int a,.int b,.int c]) (.inr ⟨_,_,_,e,rfl,rfl,(by show 3<=sizeLine;decide),.cons ⟨t,rfl⟩ (.cons ⟨u,rfl⟩ (.cons ⟨v,rfl⟩ .nil))⟩) (.cons (.int a) (.cons (.int b) (.cons (.int c) .nil)))) hd
theorem yk{K:PySem.W.Frag}{H:Hp}{a:Addr}{ns:List Int}(hl:ns.length<=63)(hT:pR K H)(hS:SqL K H a (ns.map V.int)):spD K oh [.ref a] H (fun v _=>v = .bl true) fun _ _ _=>False:=by
 refine⟨[.s ns],⟨fun _=>none,fun _=>none⟩,fun d _=>d = .v (.bool true),⟨fun a ds h=>(by cases h),hT,fun a c h=>(by cases h)⟩,.cons ⟨a,rfl,hS,rfl⟩ .nil,⟨ns,rfl,hl,fun _=>rfl⟩,fun d u Y H' _ _ r q=>?_⟩
 subst q
 cases r
 rfl
end L2.DL
namespace L2
open PySem PySem.Spec PyProof.Rows
section
variable {X:Cx}
noncomputable def Jj(x y:Str)(i:Int):Int:=match Builtin.Str.occurrences x y (fromIndex x.length i) x.length 1 with|k::_=>(k:Nat)|[]=>-1
end
end L2
namespace L2.DL
open PySem PySem.Spec PyProof.Rows
section
variable {X:Cx}{a b e i o:Expr}{ta tb te ti to:DTE}{pos apos cpos:Pos}
noncomputable def LC(to te ti:DTE):DTE:=fun ρ U Q=>to ρ U fun x ac=>match x with
 |.v (.str z)=>te ρ ac fun y ad=>ti ρ ad fun k bn=>(match y,k with
  |.v (.str w),.v (.int n)=>Q (.v (.int (Jj z w n))) bn
  |_,_=>False)
 |_=>False
noncomputable def EL(K:PySem.W.Frag):R2:=fun x y H Q=>∃U a bs,Rp K U H a x/\Rp K U H (.tuple bs) y/\PyData.canLayAll0 bs=true/\a.canLay0=true/\PyData.depth a<=60/\Q (.bl (bs.any fun b=>PyData.eqv b a)) H
theorem Gi(hu:X.A.units+64<cLine):OpR X (compareOp .In) (EL X.K):=by
 intro pins s Z H x y v u Q I rx ry h
 obtain⟨U,a,b,ha,hb,sb,sa,dp,q⟩:=h
 obtain⟨as,ra⟩:=bZ I ha rx
 obtain⟨bs,rb⟩:=bZ I hb ry
 exact SeqAt.in_tuple_reads rb ra sb sa ∅ ⟨.bl (b.any fun z=>PyData.eqv z a),H,I,rfl,q⟩
noncomputable def u4:D->D->Mu->DK->Prop:=fun x y U Q=>match x,y with
 |.v a,.v (.tuple bs)=>PyData.canLayAll0 bs=true/\a.canLay0=true/\PyData.depth a<=60/\Q (.v (.bool (bs.any fun b=>PyData.eqv b a))) U
 |_,_=>False
theorem Hm{K:PySem.W.Frag}:c7 K (EL K) u4:=by
 intro x y ux uy H U Qd Q ok rx ry h k
 unfold u4 at h
 split at h
 ·exact⟨U,_,_,rx,ry,h.1,h.2.1,h.2.2.1,k (.v _) _ U H .refl ok (.bool _) h.2.2.2⟩
 ·exact h.elim
end
section
variable {ρ:Rho}{U:Mu}{Q:DK}{te ti to:DTE}{d:PyData}{xs:List PyData}
theorem EK:u4 (.v d) (.v (.tuple xs)) U Q=(PyData.canLayAll0 xs=true/\d.canLay0=true/\PyData.depth d<=60/\Q (.v (.bool (xs.any fun b=>PyData.eqv b d))) U):=propext Iff.rfl
end
end L2.DL
namespace L2
open PySem PySem.Spec PyProof.Rows
end L2
namespace L2.DL
open PySem PySem.Spec PyProof.Rows
end L2.DL
namespace L2
open PySem PySem.Spec PyProof.Rows
end L2
namespace L2.DL
open PySem PySem.Spec PyProof.Rows
end L2.DL
namespace L2
open PySem PySem.Spec PyProof.Rows
end L2
namespace L2
open PySem PySem.Spec PyProof.Rows
end L2
namespace L2.DL
open PySem PySem.Spec PyProof.Rows
noncomputable def intsOf:List PyData->Option (List Int)
 |[]=>some []
 |.int i::r=>(intsOf r).map (i::·)
 |_=>none
section
variable {α:Type}
noncomputable def zT(kvs:List (List Int×α))(k:List Int):Option α:=(kvs.find? fun x=>decide (x.1=k)).map (·.2)
noncomputable def KI(kvs:List (List Int×α))(k:List Int)(v:α):List (List Int×α):=if (zT kvs k).isSome=true then kvs.map (fun x=>if x.1=k then (x.1,v) else x) else kvs++[(k,v)]
end
section
variable {X:Cx}{a b e o:Expr}{ta tb te to:DTE}{pos p apos cpos:Pos}
theorem DE.use{td:DTE}(h:DE X e td){pins:List (Addr×Obj)}{s:Shared}{Z:St}{H:Hp}{ρ:Rho}{U:Mu}{Qd:DK}(I:Inv X pins Z H s)(S:St0 X.K H ρ U Z)(q:td ρ U Qd) :
  wpAny (model X.prog X.w) X.A (eval e X.env) (fun v s'=>∃d u Y H',Inv X pins Z H' s'/\RelV u v/\Ext X.K U H Y H'/\St0 X.K H' ρ Y Z/\RpD X.K Y H' d u/\Qd d Y) X.xe s:=by
 obtain⟨t,p,l⟩:=h
 exact wpAny_mono (p pins s Z H (fun u H'=>∃d Y,Ext X.K U H Y H'/\St0 X.K H' ρ Y Z/\RpD X.K Y H' d u/\Qd d Y) I (l Z H ρ U Qd _ S q fun d u Y H' ex S' r z=>⟨d,Y,ex,S',r,z⟩))
  (fun v s' ⟨u,H',I',rv,d,Y,ex,S',r,z⟩=>⟨d,u,Y,H',I',rv,ex,S',r,z⟩) fun _ _ z=>z
noncomputable def Dz:DTE:=fun _ U Q=>∀p,U.b p=none->Q (.b p) (mJ U p (.set []))
noncomputable def B6:DTE:=fun _ U Q=>∀p,U.b p=none->Q (.b p) (mJ U p (.dict []))
theorem AI{ρ:Rho}{U:Mu}{Q:DK}:Dz ρ U Q = ∀p,U.b p=none->Q (.b p) (mJ U p (.set [])):=rfl
theorem Ao{ρ:Rho}{U:Mu}{Q:DK}:B6 ρ U Q = ∀p,U.b p=none->Q (.b p) (mJ U p (.dict [])):=rfl
theorem HG{pins:List (Addr×Obj)}{s:Shared}{Z:St}{H:Hp}(I:Inv X pins Z H s):(s.heap.objs.size==sysModules)=false:=beq_eq_false_iff_ne.mpr (Ne.symm (Nat.ne_of_lt I.big))
noncomputable def zi:D->Option (List Int)
 |.v (.tuple ds)=>intsOf ds
 |_=>none
end
section
variable {X:Cx}{a b e o i value:Expr}{ta tb te to ti tv:DTE}{pos pos' p apos cpos:Pos}
noncomputable def Jm(to te:DTE):DTE:=fun ρ U Q=>to ρ U fun x ac=>∃a ks0,x = .b a/\ac.b a=some (.set ks0)/\te ρ ac fun y ad=>∃k ks,zi y=some k/\ad.b a=some (.set ks)/\ks.length<=9800/\k ∉ ks/\Q (.v .none) (mJ ad a (.set (ks++[k])))
theorem Gv{ρ:Rho}{U:Mu}{Q:DK}:Jm to te ρ U Q=to ρ U fun x ac=>∃a ks0,x = .b a/\ac.b a=some (.set ks0)/\te ρ ac fun y ad=>∃k ks,zi y=some k/\ad.b a=some (.set ks)/\ks.length<=9800/\k ∉ ks/\Q (.v .none) (mJ ad a (.set (ks++[k]))):=rfl
noncomputable def Ly(to ti:DTE):DTE:=fun ρ U Q=>to ρ U fun x ac=>ti ρ ac fun y ad=>∃a kvs k d,x = .b a/\zi y=some k/\ad.b a=some (.dict kvs)/\zT kvs k=some d/\Q (.v d) ad
theorem Ku{ρ:Rho}{U:Mu}{Q:DK}:Ly to ti ρ U Q=to ρ U fun x ac=>ti ρ ac fun y ad=>∃a kvs k d,x = .b a/\zi y=some k/\ad.b a=some (.dict kvs)/\zT kvs k=some d/\Q (.v d) ad:=rfl
noncomputable def JY(to ti tv:DTE):DTS:=fun D ρ U=>tv ρ U fun v ac=>to ρ ac fun x ad=>ti ρ ad fun y bn=>∃a kvs k d,v = .v d/\x = .b a/\zi y=some k/\bn.b a=some (.dict kvs)/\kvs.length<=9800/\D.nx ρ (mJ bn a (.dict (KI kvs k d)))
theorem FJ{D:gZ}{ρ:Rho}{U:Mu}:JY to ti tv D ρ U=tv ρ U fun v ac=>to ρ ac fun x ad=>ti ρ ad fun y bn=>∃a kvs k d,v = .v d/\x = .b a/\zi y=some k/\bn.b a=some (.dict kvs)/\kvs.length<=9800/\D.nx ρ (mJ bn a (.dict (KI kvs k d))):=rfl
end
noncomputable def upE(te:DTE):DTE:=fun ρ U Q=>∃Q',te ρ U Q'/\∀d Y,Q' d Y->Q d Y
noncomputable def upG(g:DTG):DTG:=fun d ρ U Q=>∃Q',g d ρ U Q'/\∀ap Y,Q' ap Y->Q ap Y
noncomputable def upT(c:DTT):DTT:=fun ρ U Q=>∃Q',c ρ U Q'/\∀b Y,Q' b Y->Q b Y
noncomputable def upI(c:DTI):DTI:=fun ρ U Q=>∃Q',c ρ U Q'/\∀b Y,Q' b Y->Q b Y
theorem Es{X:Cx}{e:Expr}{te:DTE}(h:DE X e te):DE X e (upE te):=
 let ⟨t,p,l⟩:=h
 ⟨t,p,fun Z H ρ U _ Q S ⟨Q',h,z⟩ k=>l Z H ρ U Q' Q S h fun d u Y H' a b c q=>k d u Y H' a b c (z _ _ q)⟩
theorem EF{X:Cx}{e:Expr}{g:DTG}(h:DG X e g):DG X e (upG g):=
 let ⟨t,p,l⟩:=h
 ⟨t,p,fun Z H ρ U d u _ Q S r ⟨Q',h,z⟩ k=>l Z H ρ U d u Q' Q S r h fun al ap Y H' a b q=>k al ap Y H' a b (z _ _ q)⟩
theorem wX{X:Cx}{es:List Expr}{c:DTT}(h:jQ X es c):jQ X es (upT c):=
 fun pins s Z H ρ U _ Q I S ⟨Q',h',z⟩ k=>h pins s Z H ρ U Q' Q I S h' fun b Y H' x y q=>k b Y H' x y (z _ _ q)
theorem ED{X:Cx}{tg e:Expr}{c:DTI}(h:DI X tg e c):DI X tg e (upI c):=
 let ⟨t,p,l⟩:=h
 ⟨t,p,fun Z H ρ U _ R S ⟨Q',h,z⟩ k=>l Z H ρ U Q' R S h fun xs ac H1 J a b c q=>k xs ac H1 J a b c (z _ _ q)⟩
theorem JU{X:Cx}{e:Expr}{te te':DTE}(h:DE X e te)(w:∀ρ U Q,te' ρ U Q->te ρ U Q):DE X e te':=
 let ⟨t,p,l⟩:=h
 ⟨t,p,fun Z H ρ U Qd Q S h k=>l Z H ρ U Qd Q S (w _ _ _ h) k⟩
theorem CN{U:Mu}{p:Addr}{l:List PyData}(h:U p=none):eI (aE U p l) p=U:=Mu.eq (fun b=>by
 by_cases e:b=p
 ·rw[e,eJ,h]
 ·rw[bV e,au e]) fun _=>rfl
theorem yA{cap:List (Option Nat)}{src:DTI}{g:DTG}{c:DTT}{te:DTE}{ρ:Rho}{U:Mu}{Q:DK}(h:fY cap src g c te ρ U Q):aP cap (upI src) (upG g) (upT c) (upE te) ρ U Q:=by
 refine⟨_,h,fun xs ac ⟨hl,f,body,q⟩=>⟨hl,fun p hp=>⟨fun i acc Y=>acc=(xs.take i).filterMap f/\Y=aE ac p acc,⟨rfl,rfl⟩,fun i x acc Y hx _ P=>?_,fun acc Y P _=>?_⟩⟩⟩
 ·obtain⟨e,rfl⟩:=P
  have tk:∀o,f x=o->(xs.take (i+1)).filterMap f=acc++o.toList:=fun o z=>by
   rw[List.take_add_one,hx,List.filterMap_append,e]
   show _++List.filterMap f [x]=_
   rw[filterMap_cons,z]
   cases o<;>rfl
  refine⟨_,body x (mem_of_getElem? hx) _ (fun a ds z=>by rw[au (fun w=>by rw[w,hp] at z;cases z),z]),fun cr ad ⟨l,cc⟩=>⟨l,_,cc,fun b bn r=>?_⟩⟩
  cases b with
  |true=>
   rw[if_pos rfl] at r ⊢
   refine⟨_,r,fun d ce hq0=>?_⟩
   obtain⟨e4,m⟩:=hq0
   subst e4
   refine⟨aq,?_⟩
   split at m
   ·exact⟨(tk _ m).symm,bL⟩
   ·exact m.elim
  |false=>
   rw[if_neg ⋯] at r ⊢
   obtain⟨rfl,z⟩:=r
   exact⟨aq,by rw[tk _ z];exact (append_nil _).symm,rfl⟩
 ·obtain⟨rfl,rfl⟩:=P
  rw[take_length,CN hp]
  exact q
structure Cal(K:PySem.W.Frag)(mg:Str->Option Value)(n:Str)(ps:List Str)(st:Stmt)(a:Addr)(d:FuncData):Prop where
 f:Fun K n n st a d
 m:mg n=some (.ref a)
 k:keepIn K (.ref a)=true
 b:Binds K d ps []
theorem BH{X:Cx}{k j:Nat}{f:Addr}{fd:FuncData}{x:Str}{p pos:Pos}{e:Expr}{es:List Expr}{ps:List Str}{st:Stmt}{dsp:DSp}{t:DTA}(F:dW X.prog X.w X.K X.mg X.base CX0 k f fd ps (spD X.K dsp))(hr:bC j X.A)(C:Cal X.K X.mg x ps st f fd)
  (ha:DA X (e::es) t) (h:k<=j:=by decide) (hg:Gl X x:=by rfl) (hdb:(x==("__debug__":Str))=false:=by decide) (he:starEach (e::es) X.env=(false,eval e X.env)::starEach es X.env:=by rfl) (hpl:(backTo pos (starEach es X.env)).any (·.1)=false:=by rfl) :
  DE X (.Call (.Name x p) (e::es) [] pos) (ah dsp t):=D1 F (hr.mono h) hg C.m C.k C.b ha hdb he hpl
theorem IX{X:Cx}{pos:Pos}{i:Nat}{x:Str}(hN:X.N.Nodup)(hi:X.N[i]? = some x:=by rfl)(hx:Loc X.env.scope x:=by exact Or.inl rfl)(hf:X.fn x=true\/X.env.scope.names.lookup x=some .local:=by first|exact .inl rfl|exact .inr rfl|assumption):DG X (.Name x pos) (af i):=rH hN hi hx hf
theorem JQ{X:Cx}{N':List Str}{scope:Scope}{cl:List (Str×Addr)}{fp:List Addr}{s:Shared}{H:Hp}{pos:Pos}(i:Nat){x:Str}(hN:N'.Nodup:=by decide +kernel)(hi:N'[i]? = some x:=by rfl)(hx:Loc (aD X N' scope cl fp s H).env.scope x:=by exact Or.inl rfl)(hf:(aD X N' scope cl fp s H).fn x=true\/(aD X N' scope cl fp s H).env.scope.names.lookup x=some .local:=by first|exact .inl rfl|exact .inr rfl|assumption):DG (aD X N' scope cl fp s H) (.Name x pos) (af i):=rH hN hi hx hf
theorem Jr{X:Cx}{e:Expr}{te:DTE}{pos:Pos}{i:Nat}{x:Str}{pos':Pos}(hN:X.N.Nodup)(he:DE X e te)(hi:X.N[i]? = some x:=by rfl)(hx:Loc X.env.scope x:=by exact Or.inl rfl)(hs:swapsWith e (some (.Name x pos')) pos.line X.env=pure false:=by rfl)(hf:X.fn x=true\/X.env.scope.names.lookup x=some .local:=by first|exact .inl rfl|exact .inr rfl|assumption) :
  DS X (.Assign [.Name x pos'] e pos) (az te (af i)):=BN hN hi hx he hs hf
theorem Dy{N P:List Str}{sc:Scope}(h1:sc.kind = .function:=by rfl)(h2:sc.isCoroutine=false:=by rfl)(h3:sc.isGenerator=false:=by rfl)(h4:N.Nodup:=by decide +kernel)(h5:N.take P.length=P:=by rfl)
  (h6:∀x∈P,sc.names.lookup x=some .local\/sc.names.lookup x=some .cell:=by decide +kernel) (h7:∀y∈sc.names,y.2≠.free:=by decide +kernel):cP N P sc:=⟨h1,h2,h3,h4,h5,h6,h7⟩
structure CH(X:Cx)(N':List Str)(scope:Scope)(cl:List (Str×Addr))(cap:List (Option Nat)):Prop where
 cell:∀y∈scope.names,y.2≠.cell
 kind:scope.kind = .function
 nms:∀y∈scope.names,y.2 = .local->scope.names.lookup y.1=some .local
 sub:∀x a,cl.lookup x=some a->X.env.cells.lookup x=some a
 has:∀x,(relabel scope X.env).names.lookup x=some .cell\/(relabel scope X.env).names.lookup x=some .free->∃a,cl.lookup x=some a
 len:cap.length=N'.length
 cap:∀(i j:Nat) (x:Str),cap[i]? = some (some j)->N'[i]? = some x->X.N[j]? = some x/\Vis X.env.scope x/\X.env.kindOf x≠some .local/\((relabel scope X.env).names.lookup x=some .cell\/(relabel scope X.env).names.lookup x=some .free)
noncomputable def Core(X:Cx)(E:Expr)(scope:Scope)(mk:Sem Value)(iter:Expr)(te:DTE):Prop:=∀(pos:Pos) (use:Option (Value->Sem Unit)) (QQ:Value->Shared->Prop) (pins:List (Addr×Obj)) (s:Shared) (Z:St) (H:Hp) (ρ:Rho) (U:Mu) (Qd:DK),Inv X pins Z H s->St0 X.K H ρ U Z->te ρ U Qd ->
 (∀(s4:Shared) (Hc:Hp) (C pa:Addr) (m:Str->Option Value) (d:D) (gV:Mu),s4.heap.Ns C m->pS X pins Hc C->(∀h',Heap.SameBut C s4.heap h'->Inv X pins Z Hc {s4 with heap:=h'}) ->
  Ext X.K U H gV Hc->St0 X.K Hc ρ gV Z->RpD X.K gV Hc d (.ref pa)->Qd d gV->compPost (model X.prog X.w) X.A X.xe use QQ (.ref pa) C (.ok .next) s4) ->
 wpAny (model X.prog X.w) X.A (comprehension E scope X.env pos mk false (eval iter X.env) use) QQ X.xe s
theorem ya{X:Cx}{E iter:Expr}{scope:Scope}{mk:Sem Value}{te:DTE}{pos:Pos}(h:Core X E scope mk iter te)(e:eval E X.env=comprehension E scope X.env pos mk false (eval iter X.env)):DE X E te:=
 EM fun pins s Z H ρ U Qd Q I S q k=>by
  rw[e]
  exact h _ _ _ _ _ _ _ _ _ _ I S q fun s4 Hc C pa m d gV hn _ hI e1 S1 r q=>⟨m,hn,fun h' hs'=>⟨.ref pa,Hc,hI h' hs',rfl,k d _ gV Hc e1 S1 r q⟩⟩
theorem D2{X:Cx}{i:Nat}{x:Str}{pos' spos pos:Pos}{E iter:Expr}{scope:Scope}{mk:Sem Value}{te:DTE}(h:Core X E scope mk iter te)(hN:X.N.Nodup)(hix:X.N[i]? = some x)(hx:X.env.scope.names.lookup x=some .local)
  (hsw:swapsWith E (some (.Name x pos')) spos.line X.env=pure true) (e:evalThenUse E X.env (assign (.Name x pos') X.env)=comprehension E scope X.env pos mk false (eval iter X.env) (some (assign (.Name x pos') X.env))>>=fun _=>pure ()):DS X (.Assign [.Name x pos'] E spos) (az te (af i)):=by
 refine⟨fun D Z H=>∃ρ U Dd,St0 X.K H ρ U Z/\az te (af i) Dd ρ U/\(∀al ap Y H',Ext X.K U H Y H'->St0 X.K H' ap Y al->Dd.nx ap Y->D.nx al H'),?_,fun Z H ρ U Dd De S h k1 k2 k3 k4=>⟨ρ,U,Dd,S,h,k1⟩⟩
 intro pins s Z H D I hq
 obtain⟨ρ,U,Dd,S,q,k1⟩:=hq
 rw[exec_Assign_Name_used _ _ _ _ hsw,e]
 refine wpAny_bind (wpAny_standAt (wpAny_bind (wpAny_bind (h _ _ _ pins s Z H ρ U (fun d ac=>af i d ρ ac Dd.nx) I S q fun s4 Hc C pa m d gV hn fC hI e1 S1 r q=>?_))))
 obtain⟨oC,hoC,hdC⟩:=ns_obj hn
 have I5:=(hI s4.heap (Heap.SameBut.refl _ _)).pinned (fp:=[C]) (fun b hb=>by rw[List.mem_singleton.mp hb];exact fC) (fun b hb=>by rw[List.mem_singleton.mp hb];exact⟨oC,hoC,hdC⟩)
 show wpAny _ _ (assign (.Name x pos') X.env (.ref pa)) _ _ s4
 refine wpAny_assign_Name (eN I5 hN hix (Or.inl hx) (show RelV (.ref pa) (.ref pa) from rfl) (fun s' I'=>?_) (.inr hx))
 have keepC:s'.heap.get? C=some oC:=(I'.pin (C,oC) (mem_append_right _ (mem_append_right _ (ff (List.mem_singleton.mpr rfl) hoC)))).1
 refine⟨m,DC hn (by rw[keepC,hoC]),fun h' hs'=>wpAny_pure (wpAny_pure ⟨Z.set i (some (.ref pa)),Hc,?_,k1 _ _ _ _ e1 ⟨S1.mu,S1.rho.set r⟩ q⟩)⟩
 refine I'.iQ.xJ (ch:=[C]) rfl ⟨fun b o e n hb hx=>?_,fun b o e n hb hx=>?_,fun b o e n hx=>n,fun b o e hx=>?_,fun b xs e=>e,fun b o u e=>e,fun b ps e=>⟨#[],by rw[Array.append_empty];exact e⟩⟩ ?_ I'.bare fun b hb=>?_
 ·exact hs'.extBut b o (fun z=>hx (List.mem_singleton.mpr z)) e
 ·exact⟨o.slots,hs'.extBut b o (fun z=>hx (List.mem_singleton.mpr z)) e⟩
 ·exact⟨o,hs'.extBut b o (fun z=>hx (List.mem_singleton.mpr z)) e⟩
 ·exact fun b ob e=>by
   refine (I'.hok b ob e).nc (fun cc v hcc q=>hs'.extBut cc v ?_ q) (fun _ q=>q) fun _ _ q=>q
   rintro rfl
   rcases hcc with z|z
   ·rw[<- z,fC.1] at e;cases e
   ·rw[fC.1] at z;cases z
 ·rw[List.mem_singleton.mp hb]
  exact⟨fC.2.2.2.1,fC.2.1,fC.2.2.2.2.1,fC.2.2.2.2.2⟩
theorem FG{X:Cx}{N':List Str}{scope:Scope}{cl:List (Str×Addr)}{cap:List (Option Nat)}{E tg:Expr}{gc:Comprehension}{gs:List Comprehension}{src:DTI}{g:DTG}{te:DTE}
  {T0:String} {dt:Data} {oH:HO} {mk0:Mu->Addr->Mu} {rest:Value->Addr->Env->Sem PySem.Fin} {Kb:Addr->PyData->Rho->Mu->(Mu->Prop)->Prop} {fin:DK->Mu->Addr->Mu->Prop}
  (hclos:closureFor scope X.env=pure cl) (hC:CH X N' scope cl cap) (hi:DI X tg gc.iter src) (hg:∀fp am bi,DG (aD X N' scope cl fp am bi) tg g)
  (hE:clausesOf E=gc::gs) (hs:∀x,foldedSetIterable gc.iter X.env x=pure x)
  (hst:∀{R:Result->Shared->Prop} {s:Shared} {it acc:Value} {env:Env},codeAny (model X.prog X.w) X.A (.compLoop E 0 it acc env) R s->wpAny (model X.prog X.w) X.A (pyIter it) (fun it' s'=>codeAny (model X.prog X.w) X.A (.compLoop E 0 it' acc env) R s') (notedBy (model X.prog X.w) X.A env fun x s'=>R (.error x) s') s->codeAny (model X.prog X.w) X.A (.compStart E 0 it acc env) R s)
  (hT:∀(it:Value) (D:Addr) (env:Env),compTurn E 0 it (.ref D) env=(standAt gc.iter.pos>>=fun _=>pyNext it>>=fun r=>match r with
   |none=>pure (.done .next)
   |some v=>letOwnedTupleGo tg it v>>=fun _=>assign tg env v>>=fun _=>rest it D env))
  (hU:∀{it:Value} {D:Addr} {env:Env} {Q:PySem.Fin->Shared->Prop} {Er:Value->Shared->Prop} {s:Shared},wpAny (model X.prog X.w) X.A ((compTurn E 0 it (.ref D) env).onRaise fun x=>do noteFrame x env;theTreesLotGoes x) Q Er s->wpAny (model X.prog X.w) (X.A.under (.compLoop E 0 it (.ref D) env)) ((model X.prog X.w).den (.compLoop E 0 it (.ref D) env)) Q Er s)
  (hsz:sizeOk dt) (hob:∀(H:Hp) (h:Heap),dQ X.prog X.w (upd H h.objs.size oH) (h.push {cls:=.type T0,dict:=none,data:=dt}) h.objs.size oH)
  (hm0:∀{ac:Mu} {H2:Hp} {p:Addr},aV X.K ac H2->H2 p=none->X.K.lookup p=none->(p==sysModules)=false->aV X.K (mk0 ac p) (upd H2 p oH)/\Ext X.K ac H2 (mk0 ac p) (upd H2 p oH))
  (hbd:∀{fp:List Addr} {s3:Shared} {H3:Hp} {pins:List (Addr×Obj)} {s:Shared} {Z:St} {H:Hp} {ρ:Rho} {U:Mu} {p:Addr} {d:PyData} {it:Value} {Qm:Mu->Prop} {Q:Shared->Prop},Inv (aD X N' scope cl fp s3 H3) pins Z H s->St0 X.K H ρ U Z->Kb p d ρ U Qm ->
   (∀s' al H' Y,Inv (aD X N' scope cl fp s3 H3) pins al H' s'->St0 X.K H' ρ Y al->Ext X.K U H Y H'->Qm Y->Q s') ->
   wpAny (model X.prog X.w) X.A (rest it p (aD X N' scope cl fp s3 H3).env) (fun r s'=>r = .again (.compLoop E 0 it (.ref p) (aD X N' scope cl fp s3 H3).env)/\Q s') (fun _ _=>False) s)
  (hte:∀ρ U Qd,te ρ U Qd->src ρ U fun xs ac=>∀p,ac p=none->ac.b p=none->∃P:Nat->Mu->Prop,P 0 (mk0 ac p)/\(∀i x Y,xs[i]? = some x->P i Y->g (.v x) (bD cap ρ) Y fun cr ad=>Le (bD cap ρ) cr/\Kb p x cr ad (P (i+1)))/\∀Y,P xs.length Y->fin Qd ac p Y)
  (hend:∀{Qd:DK} {Z:St} {ρ:Rho} {p:Addr} {U ac dL:Mu} {H H1 Hc:Hp},ac p=none->ac.b p=none->Ext X.K U H ac H1->St0 X.K H1 ρ ac Z->Ext X.K ac H1 dL Hc->aV X.K dL Hc->fin Qd ac p dL->∃d gV,Ext X.K U H gV Hc/\St0 X.K Hc ρ gV Z/\RpD X.K gV Hc d (.ref p)/\Qd d gV) :
  Core X E scope (newObj (.type T0) dt) gc.iter te:=by
 intro pos use QQ pins s Z H ρ U Qd I S h hd0
 obtain⟨wi,pw,li⟩:=hi
 refine wpAny_comprehension_free hE hs hclos hC.kind hC.nms (thn (pw pins s Z H _ I (li Z H ρ U _ (fun J H1=>∃xs ac,Ext X.K U H ac H1/\St0 X.K H1 ρ ac Z/\IK X.K J xs ac H1/\∀p,ac p=none->ac.b p=none->∃P:Nat->Mu->Prop,P 0 (mk0 ac p)/\(∀i x Y,xs[i]? = some x->P i Y->g (.v x) (bD cap ρ) Y fun cr ad=>Le (bD cap ρ) cr/\Kb p x cr ad (P (i+1)))/\∀Y,P xs.length Y->fin Qd ac p Y) S (hte _ _ _ h) (fun xs ac H1 J e1 S1 it q=>⟨xs,ac,e1,S1,it,q⟩)))
  fun v s1 h1=>thn h1 fun itv s2 h2=>?_)
 obtain⟨it,fp,tn,J,H2,rfl,I2,T,st2,f2,xs,ac,e1,S1,itok,allp⟩:=h2
 refine wpAny_newObj_type (wpAny_newFunctionEnv hC.cell (by intro y hy;simp at hy) (fun j' nb na=>?_) hC.kind) hsz
 dsimp only at nb na ⊢
 have hfree2:H2 s2.heap.objs.size=none:=I2.hok.fresh (le_refl _)
 have hK2:X.K.lookup s2.heap.objs.size=none:=by
  cases z:X.K.lookup s2.heap.objs.size with
  |none=>rfl
  |some o=>exact absurd (Heap.lt_size (I2.kIn _ _ z)) (lt_irrefl _)
 have I3:Inv X pins Z (upd H2 s2.heap.objs.size oH) {s2 with heap:=s2.heap.push {cls:=.type T0,dict:=none,data:=dt}}:=
  I2.laid (t':=s2.toks) (fun b u e=>Heap.get?_push_of_some _ e) (le_refl _) (hob _ _)
 generalize hH:s2.heap.push {cls:=.type T0,dict:=none,data:=dt} = hp3 at nb na I3 ⊢
 have hsz3:hp3.objs.size=s2.heap.objs.size+1:=by rw[<- hH,Heap.size_push]
 have kept3:∀b o,hp3.get? b=some o->j'.get? b=some o:=fun b o e=>na.extBut b o (Nat.ne_of_lt (Heap.lt_size e)) (Heap.get?_push_of_some _ e)
 have old3:∀b o,s2.heap.get? b=some o->hp3.get? b=some o:=fun b o e=>by rw[<- hH];exact Heap.get?_push_of_some _ e
 have fplt:∀b∈fp,b<s2.heap.objs.size:=fun b hb=>by obtain⟨o,e,_⟩:=T.obj 0 _ st2 b hb;exact Heap.lt_size e
 have fpst:∀b∈fp,b ∉ frs X.stack:=fun b hb hz=>by
  rcases List.mem_cons.mp (I2.rN b hz) with e|e
  ·exact (f2 b hb).2.1 e
  ·exact (f2 b hb).2.2.1 e
 obtain⟨s3,hs3⟩:∃s3:Shared,s3={s2 with heap:=hp3}:=⟨_,rfl⟩
 obtain⟨H3,hH3⟩:∃H3:Hp,H3=upd H2 s2.heap.objs.size oH:=⟨_,rfl⟩
 have heap3:s3.heap=hp3:=by rw[hs3]
 rw[<- hH3] at I3
 have I3':Inv X pins Z H3 s3:=by rw[hs3];exact I3
 have hloc:H3 hp3.objs.size=none:=by have:=I3'.hok.fresh (a:=hp3.objs.size) (by rw[heap3];exact le_refl _);exact this
 have okc:(aD X N' scope cl fp s3 H3).Ok:=by
  refine⟨I3.ok.mod,?_,I3.ok.glob,I3.ok.blt,le_refl _,fun x y a h1 h2=>I3.ok.inj x y a (hC.sub x a h1) (hC.sub y a h2),fun x hx=>hC.has x hx,fun x a h=>(nomatch h),I3.ok.hd,I3.ok.qt,I3.ok.frames,.inl rfl,fun b hb=>⟨?_,fun x a h=>(f2 b hb).2.2.2.2.1 x a (hC.sub x a h)⟩,
   I3'.bs,le_trans I3.ok.bsz I3'.sz,fun b o e hb=>?_,fun b hb=>fpst b hb,I3'.stack,I3'.sG⟩
  ·exact hC.kind
  ·show b≠s3.heap.objs.size
   rw[heap3,hsz3]
   exact Nat.ne_of_lt (Nat.lt_succ_of_lt (fplt b hb))
  ·rcases (f2 b hb).2.2.2.1 with z|z
   ·exact I3.ok.y4 b o e z
   ·exact absurd (lt_of_lt_of_le (Heap.lt_size (I3.ok.bs b o e).1) z) (lt_irrefl _)
 have I4:Inv (aD X N' scope cl fp s3 H3) [] (bD cap Z) H3 {s2 with heap:=j',toks:=s2.toks+([]:List (Str×Value)).length}:=by
  refine⟨okc,by show s2.os=s3.os;rw[hs3],I3.bare,Un.kept (by show ∀b o,s3.heap.get? b=some o->_;rw[heap3];exact kept3),⟨_,(by show j'.Ns s3.heap.objs.size _;rw[heap3];exact nb),fun i x v e1 e2 e3=>?_⟩,fun x a h=>?_,(by show H3 s3.heap.objs.size=none;rw[heap3];exact hloc),fun x a h=>I3.eQ x a (hC.sub x a h),fun p hp=>?_,I3.hok.kept kept3,?_⟩
  ·obtain⟨j,h1,h2⟩:=oJ e2
   obtain⟨hN,hv,hnl,hk⟩:=hC.cap i j x h1 e1
   obtain⟨m,_,hl⟩:=I3.loc
   obtain⟨u,r,lk⟩:=hl j x v hN h2 hv
   refine⟨u,r,.inr ⟨hk,?_⟩⟩
   obtain⟨a,ha⟩:=hC.has x hk
   rcases lk with ⟨z,_⟩|⟨_,a',z1,z2⟩
   ·exact absurd z hnl
   ·have:a'=a:=by have q:=hC.sub x a ha;rw[z1] at q;exact Option.some.inj q
    subst this
    obtain⟨o,ho,hd⟩:=z2
    exact⟨a',ha,o,kept3 _ _ ho,hd⟩
  ·obtain⟨v,o,ho,hd⟩:=I3.cell x a (hC.sub x a h)
   exact⟨v,o,kept3 _ _ ho,hd⟩
  ·have hp':p∈X.pn++pins:=mem_append_left _ (by simpa using (show p∈X.pn++[] from hp))
   obtain⟨z1,z2,z3,z4,z5⟩:=I3'.pin p hp'
   refine⟨kept3 _ _ (by rw[<- heap3];exact z1),z2,(show p.1≠s3.heap.objs.size from Nat.ne_of_lt (Heap.lt_size z1)),fun z=>?_,z5⟩
   rcases List.mem_cons.mp (I3'.rN p.1 z) with e|e
   ·exact z3 e
   ·exact z4 e
  ·show (bD cap Z).length=N'.length
   unfold bD
   rw[length_map]
   exact hC.len
 have nw:ac s2.heap.objs.size=none:=S1.mu.free hfree2
 have tf:ac.b s2.heap.objs.size=none:=S1.mu.KQ hfree2
 obtain⟨P,p0,body,hfin⟩:=allp s2.heap.objs.size nw tf
 obtain⟨m0,x0⟩:=hm0 S1.mu hfree2 hK2 (HG I2)
 have loop:codeAny (model X.prog X.w) X.A (.compLoop E 0 (.ref it) (.ref s2.heap.objs.size) (aD X N' scope cl fp s3 H3).env)
   (compPost (model X.prog X.w) X.A X.xe use QQ (.ref s2.heap.objs.size) hp3.objs.size) {s2 with heap:=j',toks:=s2.toks+([]:List (Str×Value)).length}:=by
  refine codeAny_loop rfl (fun n s'=>∃(i:Nat) (lm:St) (Hc:Hp) (dL:Mu),n=xs.length-i/\i<=xs.length/\Inv (aD X N' scope cl fp s3 H3) [] lm Hc s'/\tn i s'.heap/\(∀b∈fp,Hc b=none) /\
   P i dL/\St0 X.K Hc (bD cap ρ) dL lm/\Ext X.K ac H2 dL Hc) (fun n s' hI=>?_) xs.length
   ⟨0,bD cap Z,H3,mk0 ac s2.heap.objs.size,by simp,zero_le _,I4,T.keep 0 _ _ st2 (fun b hb o e=>kept3 b o (old3 b o e)),fun b hb=>?_,p0,?_,?_⟩
  ·obtain⟨i,lm,Hc,dL,rfl,hi,Ic,tc,frc,pvi,Sc,Ec⟩:=hI
   refine hU ?_
   refine wpAny_noted ?_
   rw[hT]
   have stat:∀{Hd:Hp},(∀b∈fp,Hd b=none)->∀b∈fp,pS (aD X N' scope cl fp s3 H3) [] Hd b:=fun hn b hb=>
    ⟨hn b hb,(okc.exf b hb).1,fpst b hb,.inl hb,fun x a h=>(okc.exf b hb).2 x a h,fun p hp=>(f2 b hb).2.2.2.2.2 p (mem_append_left _ (by simpa using (show p∈X.pn++[] from hp)))⟩
   obtain⟨go,stop⟩:=itok _ Hc Ec Sc.mu i
   refine wpAny_bind (wpAny_standAt (wpAny_bind ?_))
   by_cases hlt:i<xs.length
   ·obtain⟨g1,y1⟩:=go hlt
    refine wpAny_mono (T.item (aD X N' scope cl fp s3 H3) rfl rfl rfl (fun z=>z) i [] s' lm Hc (fun _ _=>False) Ic (stat frc) tc g1) (fun r s4 hr=>?_) fun _ _ h'=>h'.elim
    obtain⟨u,rfl,h4⟩:=hr
    refine wpAny_bind (wpAny_mono h4 (fun _ s5 h5=>?_) fun _ _ h'=>h'.elim)
    obtain⟨x,H5,I5,r5,y5,st5,fr5⟩:=h5
    obtain⟨d,hd,sm,rd⟩:=y1 x H5 y5
    have I5':=I5.pinned (stat fr5) (T.obj _ _ st5)
    have e5:Ext X.K _ Hc _ H5:=.of_same (U:=dL) sm
    have S5:St0 X.K H5 (bD cap ρ) dL lm:=⟨Sc.mu.IE e5 sm,Sc.rho.ext Sc.mu e5⟩
    obtain⟨gt,pg,lg⟩:=hg fp s3 H3
    refine wpAny_bind (wpAny_mono (pg _ s5 lm H5 x u (fun al H'=>∃ap Y,Ext X.K dL H5 Y H'/\St0 X.K H' ap Y al/\Le (bD cap ρ) ap/\Kb s2.heap.objs.size d ap Y (P (i+1))) I5' r5
     (lg lm H5 (bD cap ρ) _ (.v d) x _ _ S5 rd (body i d dL hd pvi) fun al ap Y H' e' S' q=>⟨ap,Y,e',S',q⟩)) (fun _ s6 h6=>?_) fun _ _ h'=>h'.elim)
    obtain⟨tz,H6,I6,wv,lw,e6,S6,le6,q6⟩:=h6
    refine wpAny_mono (hbd (it:=.ref it) (Q:=fun s9=>∃m,m<xs.length-i/\∃(i:Nat) (lm:St) (Hc:Hp) (dL:Mu),m=xs.length-i/\i<=xs.length/\Inv (aD X N' scope cl fp s3 H3) [] lm Hc s9/\tn i s9.heap/\(∀b∈fp,Hc b=none) /\
     P i dL/\St0 X.K Hc (bD cap ρ) dL lm/\Ext X.K ac H2 dL Hc) I6 S6 q6 fun s9 ut H9 wn I9 S9 e9 p9=>?_) (fun r s9 hr=>?_) fun _ _ h'=>h'.elim
    ·refine⟨xs.length-(i+1),∅,i+1,ut,H9,wn,rfl,hlt,I9.iQ,T.keep _ _ _ st5 fun b hb o e=>(I9.pin (b,o) (mem_append_right _ (mem_append_right _ (ff hb e)))).1,fun b hb=>?_,p9,⟨S9.mu,S9.rho.le le6⟩,Ec.trans (e5.trans (e6.trans e9))⟩
     obtain⟨o,e,_⟩:=T.obj _ _ st5 b hb
     exact (I9.pin (b,o) (mem_append_right _ (mem_append_right _ (ff hb e)))).2.1
    ·obtain⟨rfl,q⟩:=hr
     exact⟨rfl,q⟩
   ·have ei:i=xs.length:=by omega
    subst ei
    refine wpAny_mono (T.done (aD X N' scope cl fp s3 H3) rfl rfl rfl (fun z=>z) _ [] s' lm Hc (fun _ _=>False) Ic (stat frc) tc (stop rfl)) (fun r s4 hr=>?_) fun _ _ h'=>h'.elim
    obtain⟨rfl,I5⟩:=hr
    refine wpAny_pure ?_
    obtain⟨m,hn,_⟩:=I5.loc
    have hcC:Hc hp3.objs.size=none:=by have z:Hc s3.heap.objs.size=none:=I5.free;rw[heap3] at z;exact z
    obtain⟨d,gV,eF,SF,rF,qF⟩:=hend nw tf e1 S1 Ec Sc.mu (hfin _ pvi)
    refine hd0 s4 Hc hp3.objs.size s2.heap.objs.size m d gV (by have z:s4.heap.Ns s3.heap.objs.size m:=hn;rw[heap3] at z;exact z) (I2.BD (by rw[hsz3];exact Nat.le_succ _) hcC) (fun h' hs'=>?_) eF SF rF qF
    have kp:∀b o,b<s2.heap.objs.size->s4.heap.get? b=some o->h'.get? b=some o:=fun b o hb e=>hs'.extBut b o (by rw[hsz3];exact Nat.ne_of_lt (Nat.lt_succ_of_lt hb)) e
    have hok':HOk X.prog X.w Hc h':=fun b ob e=>by
     refine (I5.hok b ob e).nc (fun cc v hcc q=>hs'.extBut cc v ?_ q) (fun _ q=>q) fun _ _ q=>q
     rintro rfl
     rcases hcc with z|z
     ·rw[<- z,hcC] at e;cases e
     ·rw[hcC] at z;cases z
    have u1:Un (frs X.stack) fp H2 H3 s2.heap s3.heap:=by rw[heap3,hH3];exact Un.laid old3 (le_refl _) hfree2
    have u2:Un (frs X.stack) fp H3 Hc s3.heap s4.heap:=I5.base
    exact I2.xJ (ch:=fp) (by show s4.os=s2.os;have z:s4.os=s3.os:=I5.os;rw[z,hs3]) (Un.after (u1.trans u2) kp) hok' I5.bare fun b hb=>⟨(f2 b hb).2.2.2.1,(f2 b hb).2.1,(f2 b hb).2.2.2.2.1,(f2 b hb).2.2.2.2.2⟩
  ·have z:b≠s2.heap.objs.size:=Nat.ne_of_lt (fplt b hb)
   rw[hH3,aG z]
   exact (f2 b hb).1
  ·rw[hH3]
   exact⟨m0,(S1.rho.ext S1.mu x0).cap⟩
  ·rw[hH3]
   exact x0
 have envE:(aD X N' scope cl fp s3 H3).env=compEnvC scope cl hp3.objs.size X.env:=by show compEnvC scope cl s3.heap.objs.size X.env=_;rw[heap3]
 rw[envE] at loop
 exact hst loop (T.self X.A 0 _ _ _ (T.keep 0 _ _ st2 (fun b hb o e=>kept3 b o (old3 b o e))) loop)
theorem mD{X:Cx}{N':List Str}{scope:Scope}{cl:List (Str×Addr)}{cap:List (Option Nat)}
  (h1:∀y∈scope.names,y.2≠.cell:=by decide +kernel) (h2:scope.kind = .function:=by rfl) (h3:∀y∈scope.names,y.2 = .local->scope.names.lookup y.1=some .local:=by decide +kernel)
  (h4:∀x a,cl.lookup x=some a->X.env.cells.lookup x=some a:=by intro _ _ h;first|exact h|exact cl1 h|exact cl2 nofun h|exact cl3 nofun h|exact fU (cK rfl nq) _ _ h|exact fU (cK rfl (cK rfl nq)) _ _ h|exact fU (cK rfl (cK rfl (cK rfl nq))) _ _ h|exact fU (cK rfl (cK rfl (cK rfl (cK rfl nq)))) _ _ h|exact fU (cK rfl (cK rfl (cK rfl (cK rfl (cK rfl nq))))) _ _ h|exact fU nq _ _ h|cases h)
  (h5:∀x,(relabel scope X.env).names.lookup x=some .cell\/(relabel scope X.env).names.lookup x=some .free->∃a,cl.lookup x=some a:=by exact An rfl) (h6:cap.length=N'.length:=by rfl)
  (h7:∀(i j:Nat) (x:Str),cap[i]? = some (some j)->N'[i]? = some x->X.N[j]? = some x/\Vis X.env.scope x/\X.env.kindOf x≠some .local/\((relabel scope X.env).names.lookup x=some .cell\/(relabel scope X.env).names.lookup x=some .free):=by exact vE (by repeat' first|exact trivial|refine⟨LA,?_⟩)):CH X N' scope cl cap:=⟨h1,h2,h3,h4,h5,h6,h7⟩
section
variable {X:Cx}{N':List Str}{scope:Scope}{cl:List (Str×Addr)}{iter tg:Expr}{ifs:List Expr}{pos:Pos}{cap:List (Option Nat)}{src:DTI}{g:DTG}{c:DTT}
theorem vo{elt:Expr}{te te0:DTE}{fin:DK->Addr->List PyData->Mu->Prop}(hclos:closureFor scope X.env=pure cl)(hi:DI X tg iter src)(hg:∀fp am bi,DG (aD X N' scope cl fp am bi) tg g)(hif:∀fp am bi,jQ (aD X N' scope cl fp am bi) ifs c)(he:∀fp am bi,DE (aD X N' scope cl fp am bi) elt te)
  (hC:CH X N' scope cl cap) (hs:∀x,foldedSetIterable iter X.env x=pure x)
  (hte0:∀ρ U Qd,te0 ρ U Qd->src ρ U fun xs ac=>xs.length<=1000/\∀p,ac p=none->∃Pv:Nat->List PyData->Mu->Prop,Pv 0 [] (aE ac p []) /\
   (∀i x acc Y,xs[i]? = some x->Y p=some acc->Pv i acc Y->g (.v x) (bD cap ρ) Y fun cr ad=>Le (bD cap ρ) cr/\c cr ad fun b bn=>
    if b=true then te cr bn fun d ce=>ce p=some acc/\(match d with|.v y=>Pv (i+1) (acc++[y]) (aE ce p (acc++[y]))|_=>False) else bn p=some acc/\Pv (i+1) acc bn) /\
   (∀acc Y,Pv xs.length acc Y->Y p=some acc->fin Qd p acc Y))
  (hend:∀{Qd:DK} {Z:St} {ρ:Rho} {p:Addr} {acc:List PyData} {U ac dL:Mu} {H H1 Hc:Hp},ac p=none->Ext X.K U H ac H1->St0 X.K H1 ρ ac Z->Ext X.K ac H1 dL Hc->aV X.K dL Hc->dL p=some acc->fin Qd p acc dL->∃d gV,Ext X.K U H gV Hc/\St0 X.K Hc ρ gV Z/\RpD X.K gV Hc d (.ref p)/\Qd d gV) :
  Core X (.ListComp elt [⟨tg,iter,ifs,0⟩] scope pos) scope (newList []) iter te0:=by
 refine FG (gc:=⟨tg,iter,ifs,0⟩) (oH:=.lst []) (mk0:=fun U p=>aE U p [])
  (Kb:=fun p _ ρ U R=>upT c ρ U fun b bn=>if b=true then upE te ρ bn fun d ce=>∃acc y,ce p=some acc/\acc.length<=1000/\d = .v y/\R (aE ce p (acc++[y])) else R bn)
  (fin:=fun Qd _ p Y=>∃acc,Y p=some acc/\fin Qd p acc Y)
  hclos hC (ED hi) (fun a b c=>EF (hg a b c)) rfl hs codeAny_compStart_list (fun it D env=>compTurn_list elt tg iter ifs scope pos it (.ref D) env) (fun h=>h) (zero_le _) (fun H h=>⟨zero_le _,[],0,.nil,Heap.get?_push_size _ rfl⟩)
  (fun m f k _=>⟨m.mut .nil f k,nJ m f k⟩) ?_ ?_ (fun h1 _ e1 S1 Ec Sc hF=>let ⟨_,hp,q⟩:=hF;hend h1 e1 S1 Ec Sc hp q)
 ·intro fp s3 H3 pins s Z H ρ U p d it Qm Q I S q k
  refine wpAny_bind (wpAny_mono (wX (hif fp s3 H3) pins s Z H ρ U _ (fun b H'=>∃Y,Ext X.K U H Y H'/\St0 X.K H' ρ Y Z/\if b=true then upE te ρ Y fun d ce=>∃acc y,ce p=some acc/\acc.length<=1000/\d = .v y/\Qm (aE ce p (acc++[y])) else Qm Y) I S q fun b Y H' e' S' q=>⟨Y,e',S',q⟩)
   (fun ok s7 h7=>?_) fun _ _ h'=>h'.elim)
  obtain⟨H7,I7,mt,e7,S7,q7⟩:=h7
  cases ok with
  |false=>
   rw[if_neg ⋯] at q7
   exact wpAny_pure ⟨rfl,k _ _ _ _ I7 S7 e7 q7⟩
  |true=>
   rw[if_pos rfl] at q7
   refine wpAny_bind (wpAny_bind (wpAny_mono ((Es (he fp s3 H3)).use I7 S7 q7) (fun v s8 h8=>?_) fun _ _ h'=>h'.elim))
   obtain⟨d',v8,pc,H8,I8,r8,e8,S8,ry,acc,y,pa,hle,rfl,q8⟩:=h8
   obtain⟨us,hacc,rus⟩:=S8.mu.lst p _ pa
   refine wpAny_bind (wpAny_mono (qQ (X:=aD X N' scope cl fp s3 H3) _ s8 Z H8 (.ref p) [v8] (.ref p) [v] (fun _ H'=>H'=upd H8 p (.lst (us++[v8]))) I8 rfl (.cons r8 .nil) ⟨_,us,v8,rfl,rfl,hacc,by rw[<- rus.length];exact eu hle,rfl⟩) (fun _ s9 h9=>?_) fun _ _ h'=>h'.elim)
   obtain⟨_,H9,I9,_,e9⟩:=h9
   subst e9
   have ex:Ext X.K pc H8 (aE pc p (acc++[y])) (upd H8 p (.lst (us++[v8]))):=fI pa
   exact wpAny_pure (wpAny_pure ⟨rfl,k _ _ _ _ I9 ⟨S8.mu.set pa (rus.append (.cons ry .nil)),S8.rho.ext S8.mu ex⟩ (e7.trans (e8.trans ex)) q8⟩)
 ·intro ρ U Qd h
  refine⟨_,hte0 _ _ _ h,fun xs ac hx p hp _=>?_⟩
  obtain⟨hl,f⟩:=hx
  obtain⟨Pv,p0,body,fin⟩:=f p hp
  refine⟨fun i Y=>∃acc,Y p=some acc/\acc.length<=i/\Pv i acc Y,⟨[],aq,le_refl _,p0⟩,fun i x Y hx hP=>?_,fun Y hP=>?_⟩
  ·obtain⟨acc,e,l,v⟩:=hP
   have li:i<xs.length:=(List.getElem?_eq_some_iff.mp hx).1
   refine⟨_,body i x acc Y hx e v,fun cr ad hq=>⟨hq.1,_,hq.2,fun b bn r=>?_⟩⟩
   cases b with
   |false=>
    rw[if_neg ⋯] at r ⊢
    exact⟨acc,r.1,Nat.le_succ_of_le l,r.2⟩
   |true=>
    rw[if_pos rfl] at r ⊢
    refine⟨_,r,fun d ce hm=>?_⟩
    obtain⟨e4,m⟩:=hm
    split at m
    ·exact⟨acc,_,e4,∅,rfl,_,aq,by rw[length_append];exact Nat.succ_le_succ l,m⟩
    ·exact m.elim
  ·obtain⟨acc,e,_,v⟩:=hP
   exact⟨acc,e,fin acc Y v e⟩
theorem q9{elt:Expr}{te:DTE}(hclos:closureFor scope X.env=pure cl)(hi:DI X tg iter src)(hg:∀fp am bi,DG (aD X N' scope cl fp am bi) tg g)(hif:∀fp am bi,jQ (aD X N' scope cl fp am bi) ifs c)(he:∀fp am bi,DE (aD X N' scope cl fp am bi) elt te)
  (hC:CH X N' scope cl cap) (hs:∀x,foldedSetIterable iter X.env x=pure x):Core X (.ListComp elt [⟨tg,iter,ifs,0⟩] scope pos) scope (newList []) iter (aP cap src g c te):=by
 refine vo (fin:=fun Qd p acc Y=>Qd (.v (.list acc)) (eI Y p)) hclos hi hg hif he hC hs (fun _ _ _ h=>h) ?_
 intro Qd Z ρ p acc U ac dL H H1 Hc nw e1 S1 Ec Sc hpa q
 obtain⟨us,hacc,rus⟩:=Sc.lst p _ hpa
 have shr:∀a,dL a=none->eI dL p a=none:=fun a e=>by
  by_cases z:a=p
  ·rw[z];exact eJ
  ·rw[bV z];exact e
 have dne:∀a ds,eI dL p a=some ds->dL a=some ds:=fun a ds e=>by
  by_cases z:a=p
  ·rw[z,eJ] at e;cases e
  ·rw[bV z] at e;exact e
 have eF:Ext X.K ac H1 (eI dL p) Hc:=by
  refine⟨Ec.keep,Ec.tb,fun b ds q=>?_,fun b q z=>shr b (Ec.fresh b q z),Ec.st,fun b c q=>Ec.bx b c q⟩
  obtain⟨es,q2⟩:=Ec.dom b ds q
  have:b≠p:=fun z=>by rw[z,nw] at q;cases q
  exact⟨es,by rw[bV this];exact q2⟩
 have mF:aV X.K (eI dL p) Hc:=⟨fun a ds q=>by
  obtain⟨ys,z1,z2⟩:=Sc.lst a ds (dne a ds q)
  exact⟨ys,z1,z2.shrink shr⟩,Sc.tab,fun a c q=>let ⟨z,o,w1,w2⟩:=Sc.box a c q;⟨z,o,w1,w2.shrink shr⟩⟩
 exact⟨.v (.list acc),_,e1.trans eF,⟨mF,S1.rho.ext S1.mu eF⟩,Rp.list hacc eJ (rus.shrink shr),q⟩
theorem wM{elt:Expr}{te:DTE}(hclos:closureFor scope X.env=pure cl)(hi:DI X tg iter src)(hg:∀fp am bi,DG (aD X N' scope cl fp am bi) tg g)(hif:∀fp am bi,jQ (aD X N' scope cl fp am bi) ifs c)(he:∀fp am bi,DE (aD X N' scope cl fp am bi) elt te)
  (hC:CH X N' scope cl cap) (hs:∀x,foldedSetIterable iter X.env x=pure x):Core X (.ListComp elt [⟨tg,iter,ifs,0⟩] scope pos) scope (newList []) iter (pj cap src g c te):=
 vo (fin:=fun Qd p acc Y=>Qd (.m p) Y) hclos hi hg hif he hC hs (fun _ _ _ h=>h) fun {_ _ _ p acc _ _ _ _ _ _} _ e1 S1 Ec Sc hp q=>⟨.m p,_,e1.trans Ec,⟨Sc,S1.rho.ext S1.mu Ec⟩,⟨rfl,acc,hp⟩,q⟩
end
section
variable {X:Cx}{N':List Str}{scope:Scope}{cl:List (Str×Addr)}{iter tg:Expr}{ifs:List Expr}{pos:Pos}{cap:List (Option Nat)}{src:DTI}{g:DTG}{c:DTT}
theorem EH{elt:Expr}{te:DTE}(hclos:closureFor scope X.env=pure cl)(hi:DI X tg iter src)(hg:∀fp am bi,DG (aD X N' scope cl fp am bi) tg g)(hif:∀fp am bi,jQ (aD X N' scope cl fp am bi) ifs c)(he:∀fp am bi,DE (aD X N' scope cl fp am bi) elt te)
  (hC:CH X N' scope cl cap:=by exact mD) (hs:∀x,foldedSetIterable iter X.env x=pure x:=by intro _;rfl):DE X (.ListComp elt [⟨tg,iter,ifs,0⟩] scope pos) (aP cap src g c te):=ya (q9 hclos hi hg hif he hC hs) (eval_ListComp _ _ _ _)
theorem KO{elt:Expr}{te:DTE}(hclos:closureFor scope X.env=pure cl)(hi:DI X tg iter src)(hg:∀fp am bi,DG (aD X N' scope cl fp am bi) tg g)(hif:∀fp am bi,jQ (aD X N' scope cl fp am bi) ifs c)(he:∀fp am bi,DE (aD X N' scope cl fp am bi) elt te)
  (hC:CH X N' scope cl cap:=by exact mD) (hs:∀x,foldedSetIterable iter X.env x=pure x:=by intro _;rfl):DE X (.ListComp elt [⟨tg,iter,ifs,0⟩] scope pos) (fY cap src g c te):=
 JU (EH hclos (ED hi) (fun a b c=>EF (hg a b c)) (fun a b c=>wX (hif a b c)) (fun a b c=>Es (he a b c)) hC hs) fun _ _ _=>yA
theorem JL{i:Nat}{x:Str}{pos' spos:Pos}{elt:Expr}{te:DTE}(hN:X.N.Nodup)(hix:X.N[i]? = some x)(hx:X.env.scope.names.lookup x=some .local)(hclos:closureFor scope X.env=pure cl)(hi:DI X tg iter src)(hg:∀fp am bi,DG (aD X N' scope cl fp am bi) tg g)(hif:∀fp am bi,jQ (aD X N' scope cl fp am bi) ifs c)(he:∀fp am bi,DE (aD X N' scope cl fp am bi) elt te)
  (hC:CH X N' scope cl cap:=by exact mD) (hs:∀x,foldedSetIterable iter X.env x=pure x:=by intro _;rfl) (hsw:swapsWith (.ListComp elt [⟨tg,iter,ifs,0⟩] scope pos) (some (.Name x pos')) spos.line X.env=pure true:=by rfl):DS X (.Assign [.Name x pos'] (.ListComp elt [⟨tg,iter,ifs,0⟩] scope pos) spos) (az (aP cap src g c te) (af i)):=
 D2 (q9 hclos hi hg hif he hC hs) hN hix hx hsw rfl
theorem IS{elt:Expr}{te:DTE}(hclos:closureFor scope X.env=pure cl)(hi:DI X tg iter src)(hg:∀fp am bi,DG (aD X N' scope cl fp am bi) tg g)(hif:∀fp am bi,jQ (aD X N' scope cl fp am bi) ifs c)(he:∀fp am bi,DE (aD X N' scope cl fp am bi) elt te)
  (hC:CH X N' scope cl cap:=by exact mD) (hs:∀x,foldedSetIterable iter X.env x=pure x:=by intro _;rfl):DE X (.ListComp elt [⟨tg,iter,ifs,0⟩] scope pos) (pj cap src g c te):=ya (wM hclos hi hg hif he hC hs) (eval_ListComp _ _ _ _)
end
open PySem PySem.W PyProof.Rows
open PySem PySem.W PySem.Calls PyProof.Rows
noncomputable abbrev T3:=Int×Int×Int
structure EQ where
 P:Program
 w:World
 K:PySem.W.Frag
 mg:Str->Option Value
 base:Heap
noncomputable abbrev eqX(X:Cx):EQ:=⟨X.prog,X.w,X.K,X.mg,X.base⟩
inductive FO(e:EQ)(k:Nat)(n:Str)(sp:DSp):Prop
 |mk {ps:List Str} {st:Stmt} {a:Addr} {d:FuncData} (C:Cal e.K e.mg n ps st a d) (F:dW e.P e.w e.K e.mg e.base CX0 k a d ps (spD e.K sp)):FO e k n sp
inductive FX(e:EQ)(k:Nat)(n:Str)(c:Addr)(sp:XSp):Prop
 |mk {ps:List Str} {st:Stmt} {a:Addr} {d:FuncData} (C:Cal e.K e.mg n ps st a d) (F:dW e.P e.w e.K e.mg e.base (CX1 e.P e.w) k a d ps (spX e.K (.ref c) sp)):FX e k n c sp
inductive RO(e:EQ)(k:Nat)(n:Str)(c:Addr)(nm:Str):Prop
 |mk {dn:Str} {st:Stmt} {a:Addr} {d:FuncData} (C:Cal e.K e.mg n [dn] st a d) (F:xw e.P e.w e.K e.mg e.base k a d dn (.ref c) nm):RO e k n c nm
section
variable {e:EQ}{n:Str}{ps N:List Str}{st:Stmt}{k:Nat}{sp sp':DSp}{td:DTS}
theorem FO.okC{a c:Addr}{d:FuncData}(C:Cal e.K e.mg n ps st a d)(z:d.code = .ref c)(N:List Str)(len:∀ds U Q,sp ds U Q->ds.length=ps.length)(rd:∀ds U Qd,sp ds U Qd->td ‹Qd› (ao N ds) U)
  (D:∀(A:Around) (outer:List Env) (s:Shared) (H:Hp) (E:XK),N.Nodup->bC k (A.deeper (envOfC n (aI st) s.heap.objs.size a (.ref c)))->DSs (eG CX0 e.P e.w e.K e.mg e.base N n (aI st) a (.ref c) A outer s H E).nox (bT st) td)
  (S:cP N ps (aI st):=by exact Dy):dW e.P e.w e.K e.mg e.base CX0 (k+1) a d ps (spD e.K sp):=
 C.f.Lu S len fun cdv hc A outer s H E hr=>by
  obtain rfl:cdv = .ref c:=hc.symm.trans z
  exact⟨td,D A outer s H E S.nd hr,rd⟩
theorem FO.ok{a c:Addr}(C:∃d,Cal e.K e.mg n ps st a d/\d.code = .ref c)(N:List Str)(len:∀ds U Q,sp ds U Q->ds.length=ps.length)(rd:∀ds U Qd,sp ds U Qd->td ‹Qd› (ao N ds) U)
  (D:∀(A:Around) (outer:List Env) (s:Shared) (H:Hp) (E:XK),N.Nodup->bC k (A.deeper (envOfC n (aI st) s.heap.objs.size a (.ref c)))->DSs (eG CX0 e.P e.w e.K e.mg e.base N n (aI st) a (.ref c) A outer s H E).nox (bT st) td)
  (S:cP N ps (aI st):=by exact Dy):FO e (k+1) n sp:=
 let ⟨_,C,z⟩:=C
 ⟨C,FO.okC C z N len rd D S⟩
theorem FX.ok{a c cx:Addr}{sp:XSp}{tx:DTX}(C:∃d,Cal e.K e.mg n ps st a d/\d.code = .ref c)(N:List Str)(len:∀ds U Q,sp ds U Q->ds.length=ps.length)(rd:∀ds U Xk,sp ds U Xk->tx (ao N ds) U Xk)
  (D:∀(cdv:Value) (A:Around) (outer:List Env) (s:Shared) (H:Hp) (E:XK),N.Nodup->bC k (A.deeper (envOfC n (aI st) s.heap.objs.size a cdv))->XSs (eG (CX1 e.P e.w) e.P e.w e.K e.mg e.base N n (aI st) a cdv A outer s H E) E (.ref cx) (bT st) tx)
  (S:cP N ps (aI st):=by exact Dy):FX e (k+1) n cx sp:=
 let ⟨_,C,_⟩:=C
 ⟨C,C.f.okX S len fun cdv A outer s H E hr=>⟨tx,D cdv A outer s H E S.nd hr,rd⟩⟩
theorem RO.ok{dn nm:Str}{a c cd:Addr}(C:∃d,Cal e.K e.mg n [dn] st a d/\d.code = .ref cd)(h:∀a d,Fun e.K n n st a d->xw e.P e.w e.K e.mg e.base k a d dn (.ref c) nm):RO e k n c nm:=
 let ⟨_,C,_⟩:=C
 ⟨C,h _ _ C.f⟩
theorem FO.zero{a c:Addr}(C:∃d,Cal e.K e.mg n ps st a d/\d.code = .ref c)(h:∀ds U Q,¬ sp ds U Q):FO e k n sp:=
 let ⟨_,C,_⟩:=C
 ⟨C,fun vs H Q E g=>by obtain⟨ds,U,Qd,_,r,z,_⟩:=g;exact (h _ _ _ z).elim,fun A outer s H args us vs Q E hr e0 hb hv g=>by obtain⟨ds,U,Qd,_,r,z,_⟩:=g;exact (h _ _ _ z).elim⟩
theorem FO.yn{sp:Nat->DSp}(k0 m:Nat)(z:FO e k0 n (sp 0))(h:∀i k,k0<=k->FO e k n (sp i)->FO e (k+1) n (sp (i+1))):FO e (k0+m) n (sp m):=by
 induction m with
 |zero=>exact z
 |succ i ih=>exact h i (k0+i) (le_add_right _ _) ih
theorem FO.L3{sp:Nat->DSp}(k0 m:Nat)(z:FO e k0 n (sp 0))(h:∀i k,k0<=k->FO e k n (sp i)->FO e (k+2) n (sp (i+1))):FO e (k0+2*m) n (sp m):=by
 induction m with
 |zero=>exact z
 |succ i ih=>exact h i (k0+2*i) (le_add_right _ _) ih
theorem FO.imp(F:FO e k n sp)(h:∀{w U Q},sp' w U Q->sp w U Q):FO e k n sp':=
 let ⟨C,F⟩:=F
 ⟨C,F.imp fun _ _ _ _ ⟨_,_,_,ok,r,s,kk⟩=>⟨_,_,_,ok,r,h s,kk⟩⟩
theorem FO.map(F:FO e k n sp)(h:∀{a d ps},dW e.P e.w e.K e.mg e.base CX0 k a d ps (spD e.K sp)->dW e.P e.w e.K e.mg e.base CX0 k a d ps (spD e.K sp')):FO e k n sp':=
 let ⟨C,F⟩:=F
 ⟨C,h F⟩
end
section
variable {X:Cx}{k j:Nat}{x:Str}{p pos:Pos}{e:Expr}{es:List Expr}{t:DTA}{q:EQ}
theorem Bq{dsp:DSp}(F:FO q k x dsp)(hr:bC j X.A)(ha:DA X (e::es) t)(hX:eqX X=q:=by rfl)(h:k<=j:=by first|exact Nat.le_of_ble_eq_true rfl|omega)(hg:Gl X x:=by rfl)(hdb:(x==("__debug__":Str))=false:=by decide)(he:starEach (e::es) X.env=(false,eval e X.env)::starEach es X.env:=by rfl)(hpl:(backTo pos (starEach es X.env)).any (·.1)=false:=by rfl) :
  DE X (.Call (.Name x p) (e::es) [] pos) (ah dsp t):=by
 subst hX
 exact let ⟨C,F⟩:=F;BH F hr C ha h hg hdb he hpl
theorem zJ{c:Addr}{dsp:XSp}{E:XK}(F:FX q k x c dsp)(hr:bC j X.A)(hx:XOk X E)(ha:DA X (e::es) t)(hX:eqX X=q:=by rfl)(h:k<=j:=by first|exact Nat.le_of_ble_eq_true rfl|omega)(hg:Gl X x:=by rfl)(hdb:(x==("__debug__":Str))=false:=by decide)(he:starEach (e::es) X.env=(false,eval e X.env)::starEach es X.env:=by rfl)(hpl:(backTo pos (starEach es X.env)).any (·.1)=false:=by rfl) :
  XE X E (.ref c) (.Call (.Name x p) (e::es) [] pos) (yc dsp t):=by
 subst hX
 exact let ⟨C,F⟩:=F;Ee F (hr.mono h) hg C.m C.k C.b hx ha hdb he hpl
theorem mgx{n:Str}{v:Option Value}(h:q.mg n=v)(hX:eqX X=q:=by rfl):X.mg n=v:=by
 subst hX;exact h
theorem Cm{op:BoolOp}{td:DTT}(h:DW X (.BoolOp op es pos) td):DT X (.BoolOp op es pos) td:=h.dt
theorem Gz{N':List Str}{scope:Scope}{cl:List (Str×Addr)}{fp:List Addr}{s:Shared}{H:Hp}{i:Nat}(hN:decide N'.Nodup=true:=by first|kernel_rfl)(hi:N'[i]? = some x:=by rfl)(hx:Loc (aD X N' scope cl fp s H).env.scope x:=by exact Or.inl rfl)(hf:(aD X N' scope cl fp s H).fn x=true\/(aD X N' scope cl fp s H).env.scope.names.lookup x=some .local:=by first|exact .inl rfl|exact .inr rfl|assumption):DG (aD X N' scope cl fp s H) (.Name x pos) (af i):=JQ i (of_decide_eq_true hN) hi hx hf
end
theorem qG{n:Str}:∀{ns:List Str} {us:List Value},n∈ns->us.length=ns.length->((ns.zip us).lookup n).isSome=true
 |[],_,h,_=>nomatch h
 |m::r,[],_,h=>nomatch h
 |m::r,u::v,h,hl=>by
  rw[List.zip_cons_cons,lookup_cons]
  cases e:n==m with
  |true=>rfl
  |false=>exact qG ((List.mem_cons.mp h).resolve_left fun z=>by rw[z] at e;simp at e) (Nat.succ.inj hl)
theorem zM:∀{ns:List Str} {us:List Value},ns.Nodup->us.length=ns.length->(ns.filterMap fun n=>((ns.zip us).lookup n).map (n,·))=ns.zip us
 |[],_,_,_=>by simp
 |m::r,[],_,h=>nomatch h
 |m::r,u::v,hn,hl=>by
  have ih:=zM (List.nodup_cons.mp hn).2 (Nat.succ.inj hl)
  have hm:=(List.nodup_cons.mp hn).1
  rw[List.filterMap_cons_some (b:=(m,u)) (by simp),List.zip_cons_cons]
  refine congrArg (List.cons _) (Eq.trans ?_ ih)
  have g:∀l:List Str,(∀n∈l,n≠m)->(l.filterMap fun n=>(((m,u)::r.zip v).lookup n).map (n,·))=l.filterMap fun n=>((r.zip v).lookup n).map (n,·):=fun l=>by
   induction l with
   |nil=>intro _;rfl
   |cons n t ih=>
    intro h
    have:(n==m)=false:=by simpa using h n (by simp)
    rw[filterMap_cons,filterMap_cons,ih fun k hk=>h k (by simp[hk]),lookup_cons,this]
  exact g r fun n h z=>hm (z▸h)
theorem Au{x:Str}{a:Arguments}{b:List Stmt}{sc:Scope}{kV doc pm cdv ct:Value}{an:Option Addr}(h1:a.posonlyargs=[])(h2:a.vararg=none)(h3:a.kwonlyargs=[])(h4:a.kwarg=none)(hn:(a.args.map (·.arg)).Nodup)(us:List Value)(hl:us.length=(a.args.map (·.arg)).length) :
  bindArgs (fnOf x x a b sc .none kV doc pm an cdv ct) ⟨us,[]⟩=pure ((a.args.map (·.arg)).zip us):=by
 obtain⟨po,ar,va,ko,kd,kw,df⟩:=a
 cases h1;cases h2;cases h3;cases h4
 simp only[bindArgs,fnOf,map_nil,nil_append] at hn hl ⊢
 generalize ar.map (fun x=>x.arg)=ns at hn hl ⊢
 have e1:(ns.filter fun n=>((ns.zip us).lookup n).isNone)=[]:=List.filter_eq_nil_iff.mpr fun n h=>by
  have:=qG (n:=n) h hl
  cases e:List.lookup n (ns.zip us) with
  |none=>rw[e] at this;cases this
  |some _=>simp
 have e2:=zM hn hl
 simp[seqItems?,notAStandIn,e1,e2,hl]
noncomputable def tg0:Expr->List Str
 |.Name x _=>[x]
 |_=>[]
noncomputable def tg1:Expr->List Str
 |.Tuple es _ _=>es.flatMap tg0
 |e=>tg0 e
noncomputable def tgN:Expr->List Str
 |.Tuple es _ _=>es.flatMap tg1
 |e=>tg0 e
noncomputable def uS:List Str->List (Option Nat)->List Str->List Str
 |t::ts,none::c,N=>t::uS ts c N
 |[],none::c,N=>""::uS [] c N
 |ts,some j::c,N=>(N[j]?.getD "")::uS ts c N
 |_,[],_=>[]
noncomputable abbrev nC(X:Cx)(tg:Expr)(cap:List (Option Nat)):List Str:=uS (tgN tg) cap X.N
section
variable {X:Cx}{scope:Scope}{cl:List (Str×Addr)}{iter tg:Expr}{ifs:List Expr}{pos:Pos}{cap:List (Option Nat)}{src:DTI}{g:DTG}{c:DTT}
theorem Gx{elt:Expr}{te:DTE} (hi:DI X tg iter src)(hg:∀fp am bi,DG (aD X (nC X tg cap) scope cl fp am bi) tg g)(hif:∀fp am bi,jQ (aD X (nC X tg cap) scope cl fp am bi) ifs c)(he:∀fp am bi,DE (aD X (nC X tg cap) scope cl fp am bi) elt te)
  (hclos:closureFor scope X.env=pure cl:=by rfl) (hC:CH X (nC X tg cap) scope cl cap:=by exact mD) (hs:∀x,foldedSetIterable iter X.env x=pure x:=by intro _;rfl):DE X (.ListComp elt [⟨tg,iter,ifs,0⟩] scope pos) (aP cap src g c te):=EH hclos hi hg hif he hC hs
theorem Gu{elt:Expr}{te:DTE} (hi:DI X tg iter src)(hg:∀fp am bi,DG (aD X (nC X tg cap) scope cl fp am bi) tg g)(hif:∀fp am bi,jQ (aD X (nC X tg cap) scope cl fp am bi) ifs c)(he:∀fp am bi,DE (aD X (nC X tg cap) scope cl fp am bi) elt te)
  (hclos:closureFor scope X.env=pure cl:=by rfl) (hC:CH X (nC X tg cap) scope cl cap:=by exact mD) (hs:∀x,foldedSetIterable iter X.env x=pure x:=by intro _;rfl):DE X (.ListComp elt [⟨tg,iter,ifs,0⟩] scope pos) (fY cap src g c te):=KO hclos hi hg hif he hC hs
theorem Hi{i:Nat}{x:Str}{pos' spos:Pos}{elt:Expr}{te:DTE}(hN:X.N.Nodup)(hi:DI X tg iter src)(hg:∀fp am bi,DG (aD X (nC X tg cap) scope cl fp am bi) tg g)(hif:∀fp am bi,jQ (aD X (nC X tg cap) scope cl fp am bi) ifs c)(he:∀fp am bi,DE (aD X (nC X tg cap) scope cl fp am bi) elt te)
  (hclos:closureFor scope X.env=pure cl:=by rfl) (hix:X.N[i]? = some x:=by rfl) (hx:X.env.scope.names.lookup x=some .local:=by rfl) (hC:CH X (nC X tg cap) scope cl cap:=by exact mD) (hs:∀x,foldedSetIterable iter X.env x=pure x:=by intro _;rfl) (hsw:swapsWith (.ListComp elt [⟨tg,iter,ifs,0⟩] scope pos) (some (.Name x pos')) spos.line X.env=pure true:=by rfl):DS X (.Assign [.Name x pos'] (.ListComp elt [⟨tg,iter,ifs,0⟩] scope pos) spos) (az (aP cap src g c te) (af i)):=JL hN hix hx hclos hi hg hif he hC hs hsw
theorem FA{elt:Expr}{te:DTE} (hi:DI X tg iter src)(hg:∀fp am bi,DG (aD X (nC X tg cap) scope cl fp am bi) tg g)(hif:∀fp am bi,jQ (aD X (nC X tg cap) scope cl fp am bi) ifs c)(he:∀fp am bi,DE (aD X (nC X tg cap) scope cl fp am bi) elt te)
  (hclos:closureFor scope X.env=pure cl:=by rfl) (hC:CH X (nC X tg cap) scope cl cap:=by exact mD) (hs:∀x,foldedSetIterable iter X.env x=pure x:=by intro _;rfl):DE X (.ListComp elt [⟨tg,iter,ifs,0⟩] scope pos) (pj cap src g c te):=IS hclos hi hg hif he hC hs
end
theorem fS{X:Cx}{x:Str}{n:Int}{t:Tok}{pos:Pos}(h:X.mg x=some (.int n t))(hg:Gl X x:=by rfl)(hd:(x==("__debug__":Str))=false:=by decide):DE X (.Name x pos) (dC (.int n)):=xH (u:=.int n) hg h ⟨_,rfl⟩ (fun _ _ _=>Rp.int n) hd
theorem Cp{X:Cx}{C C' ea:Addr}{oe:Obj}{b:Bool}{y:Str}{e:Expr}{te:DTE}{pos p1 p2:Pos}(hmy:X.mg y=some (.ref C'))(ZY:ny X.K C)(hp:(ea,oe)∈X.pn)(hc:oe.cls = .ref C)(ek:kitOne X.K (.ref C) (.ref C')=some b)(hm:X.mg "isinstance"=none)(ha:DE X e te)
  (hg:Gl X "isinstance":=by rfl) (hgy:Gl X y:=by rfl) (hdy:(y==("__debug__":Str))=false:=by decide)
  (he:starEach [e,.Name y p2] X.env=(false,eval e X.env)::starEach [.Name y p2] X.env:=by rfl) (he2:starEach [.Name y p2] X.env=[(false,eval (.Name y p2) X.env)]:=by rfl) (hpl:(backTo pos (starEach [.Name y p2] X.env)).any (·.1)=false:=by rfl):DE X (.Call (.Name "isinstance" p1) [e,.Name y p2] [] pos) (fR ea b te):=Hs ZY hp hc ek hg hm hgy hmy ha hdy he he2 hpl
theorem vT{X:Cx}{k j:Nat}{c P cx:Addr}{rn q nm:Str}{params:Arguments}{body:Expr}{lsc:Scope}{lpos p pos:Pos}{cl:List (Str×Addr)}{cap:List (Option Nat)}{tx:DTX}
  {e:EQ} (R:RO e k rn cx nm) (hr:bC j X.A) (L:Ip X.K X.mg c P q)
  (he:∀(A':Around) (outer':List Env) (s':Shared) (H':Hp) (fa c1:Addr) (E:XK),bC (k-1) (jE X.prog X.w X.K X.mg X.base (uS [] cap X.N) lsc cl (aX q) fa c1 A' outer' s' H' E).A->XE (jE X.prog X.w X.K X.mg X.base (uS [] cap X.N) lsc cl (aX q) fa c1 A' outer' s' H' E) E (.ref cx) body tx)
  (hX:eqX X=e:=by rfl) (hk0:k+1<=j:=by first|exact Nat.le_of_ble_eq_true rfl|omega) (hk1:0<k:=by first|exact Nat.le_of_ble_eq_true rfl|omega) (hg:Gl X rn:=by rfl) (hcode:X.env.code = .ref c:=by rfl) (hq:X.env.qual=q ++ ".<locals>.":=by rfl)
  (hdef:defaultsOf params X.env=([],[]):=by rfl) (hclos:closureFor lsc X.env=pure cl:=by rfl) (hbind:∀(pm ctv:Value) (c1:Addr),bindArgs (kla_fn "<lambda>" (aX q) params body lsc cl pm (.ref c1) ctv) ⟨[],[]⟩=pure []:=by exact fun _ _ _=>rfl)
  (hkind:lsc.kind = .function:=by rfl) (hco:lsc.isCoroutine=false:=by rfl) (hgen:lsc.isGenerator=false:=by rfl) (hcell:∀y∈lsc.names,y.2≠.cell:=by decide +kernel)
  (hcl:∀x a,cl.lookup x=some a->X.env.cells.lookup x=some a:=by intro _ _ h;first|exact h|exact cl1 h|exact cl2 nofun h|exact cl3 nofun h|exact fU (cK rfl nq) _ _ h|exact fU (cK rfl (cK rfl nq)) _ _ h|exact fU (cK rfl (cK rfl (cK rfl nq))) _ _ h|exact fU (cK rfl (cK rfl (cK rfl (cK rfl nq)))) _ _ h|exact fU (cK rfl (cK rfl (cK rfl (cK rfl (cK rfl nq))))) _ _ h|exact fU nq _ _ h|cases h)
  (hhas:∀x,lsc.names.lookup x=some .cell\/lsc.names.lookup x=some .free->∃a,cl.lookup x=some a:=by exact An rfl)
  (hlen:cap.length=(uS [] cap X.N).length:=by rfl) (hcap:∀(i j:Nat) (x:Str),cap[i]? = some (some j)->(uS [] cap X.N)[i]? = some x->X.N[j]? = some x/\Vis X.env.scope x/\X.env.kindOf x≠some .local/\lsc.names.lookup x=some .free:=by exact xc (by repeat' first|exact trivial|refine⟨KP,?_⟩))
  (hdb:(rn==("__debug__":Str))=false:=by decide) (hst:starEach [.Lambda params body lsc lpos] X.env=[(false,eval (.Lambda params body lsc lpos) X.env)]:=by rfl) :
  DE X (.Call (.Name rn p) [.Lambda params body lsc lpos] [] pos) (nQ cap tx nm):=by
 subst hX
 obtain⟨C,R⟩:=R
 exact yw R (hr.mono hk0) hg C.m C.k C.b L hcode hq hk1 he hdef hclos hbind hkind hco hgen hcell hcl hhas hlen hcap hdb hst
open PySem PySem.Spec PyProof.Rows NM
section
variable {U:Mu}{Q:DK}{ds:List D}{x y:N3}
theorem qL(a b c:Int):PyData.tuple [.int a,.int b,.int c]=dN ⟨a,b,c⟩:=rfl
theorem lP:ai (.v (dN x)) (.v (.int 0)) U Q=Q (.v (.int x.a)) U:=by unfold dN;rw[gB]
theorem lS:ai (.v (dN x)) (.v (.int 1)) U Q=Q (.v (.int x.b)) U:=by unfold dN;rw[fQ]
theorem lF:ai (.v (dN x)) (.v (.int 2)) U Q=Q (.v (.int x.c)) U:=by unfold dN;rw[gU]
theorem Bh(h:Ok x):isNum (dN x)=true:=by
 have:=h.c
 show (decide (1<=x.c)&&(g3 x.a x.b x.c==1))=true
 rw[h.g]
 simp;omega
theorem A6:Few (dN x):=by simp[dN,Few]
theorem HH{d a b c:Int}(h:aj d)(hc:0<c):sg d (low a b c).a (low a b c).b=sg d a b:=by
 obtain⟨k,hk,hs,p1,p2,p3,_⟩:=eO a b (show c≠0 by omega)
 have e:=iE (a:=(low a b c).a) (b:=(low a b c).b) h (hs.mpr hc)
 rw[<- p1,<- p2] at e
 exact e.symm
theorem zW{d:Int}(h:aj d)(ox:Ok x)(oy:Ok y):sg d (times d x y).a (times d x y).b=sg d x.a x.b*sg d y.a y.b:=by
 unfold times
 rw[HH h (mul_pos ox.c oy.c),wB h]
theorem oD{lo:Int}{n i:Nat}{x:PyData}(h:(iU lo n)[i]? = some x):x = .int (lo+i)/\i<n:=by
 unfold iU at h
 rw[getElem?_map] at h
 by_cases hi:i<n
 ·rw[List.getElem?_range hi] at h
  cases h
  exact⟨rfl,hi⟩
 ·rw[List.getElem?_eq_none (by simpa using hi)] at h
  cases h
theorem eT{lo:Int}{n:Nat}:(iU lo n).length=n:=by unfold iU;simp
end
local macro_rules|`(tactic| walk_at "rn")=>mkW "↓cm ↓cw ↓cG ↓dY ↓fO ↓jc ↓i9 ↓iw ↓iJ ↓iy ↓fv ↓q_c ↓zz ↓q_B ↓ur ↓mK ↓mX ↓lR ↓t5 ↓iN ↓oi ↓jf ↓Af ↓cO ↓bI ↓kX ↓j7 ↓jd ↓km ↓k9 ↓kQ ↓mz ↓l4 ↓mB ↓mq ↓eK ↓iS ↓iD ↓gB ↓fQ ↓gU ↓iP ↓hV ↓gn ↓mT ↓mV ↓mY ↓i6 ↓i5 ↓ij ↓sV ↓cW ↓gE ↓mG ↓wj ↓gK ↓iG ↓iI ↓gM ↓l7 ↓u9 ↓iT ↓fj ↓mI ↓mx ↓a8 ↓gH ↓d8 ↓gI ↓jb ↓qw ↓mi ↓iF ↓hJ ↓kK ↓i7 ↓qT ↓fF ↓dq ↓mM ↓mj ↓b9 ↓cN ↓fJ ↓cX ↓dE ↓dJ ↓dF fX ↓fM ↓bF b0 bU dz dG d7 bind_none bind_some join_some getElem?_cons_zero getElem?_cons_succ ao qL lP lS lF fz ia i4 jw kJ List.map List.append List.replicate length_cons length_nil Nat.reduceAdd Nat.reduceSub nil_append cons_append set_cons_zero set_cons_succ map_some ↓reduceIte Bool.not_true Bool.not_false false_eq_true true_eq_false xor_false false_xor"
theorem gC{a b c f g h k l m n n11}{o:Rho}:ae 11 (a::b::c::f::g::h::k::l::m::n::n11::some d::o) U Q=Q d U:=propext Iff.rfl
theorem nS{a b c f g h k l m n n11 n12}{o:Rho}:ae 12 (a::b::c::f::g::h::k::l::m::n::n11::n12::some d::o) U Q=Q d U:=propext Iff.rfl
theorem nN{a b c f g h k l m n n11 n12 n13}{o:Rho}:ae 13 (a::b::c::f::g::h::k::l::m::n::n11::n12::n13::some d::o) U Q=Q d U:=propext Iff.rfl
theorem nH{a b c f g h k l m n n11 n12 n13 n14}{o:Rho}:ae 14 (a::b::c::f::g::h::k::l::m::n::n11::n12::n13::n14::some d::o) U Q=Q d U:=propext Iff.rfl
theorem w5{to:DTE}{ρ:Rho}{U:Mu}{Q:DK}:Hk to ρ U Q=to ρ U fun x ac=>match x with
 |.m l=>(match ac l with
  |some xs=>∃d,xs[xs.length-1]? = some d/\Q (.v d) (aE ac l xs.dropLast)
  |none=>False)
 |_=>False:=propext Iff.rfl
theorem x9{to te:DTE}{ρ:Rho}{U:Mu}{Q:DK}:lu to te ρ U Q=to ρ U fun x ac=>match x with
 |.m l=>te ρ ac fun y ad=>(match y,ad l with
  |.v (.int i),some xs=>(0<=i/\i<1000)/\∃d,xs[i.toNat]? = some d/\Q (.v d) (aE ad l (xs.eraseIdx i.toNat))
  |_,_=>False)
 |_=>False:=propext Iff.rfl
theorem tq{to:DTE}{ρ:Rho}{U:Mu}{Q:Bool->Mu->Prop}:BY to ρ U Q=to ρ U fun x ac=>match x with
 |.m l=>(match ac l with|some xs=>Q (!xs.isEmpty) ac|none=>False)
 |_=>False:=propext Iff.rfl
theorem JB{i:Nat}{te:DTE}{Dd:gZ}{ρ:Rho}{U:Mu}:Fj i te Dd ρ U = ∃a:Int,ρ[i]? = some (some (.v (.int a)))/\te ρ U fun y ac=>match y with
 |.v (.int b)=>Dd.nx (ρ.set i (some (.v (.int (a+b))))) ac
 |_=>False:=propext Iff.rfl
theorem xk{ys:List PyData}{U:Mu}{Q:DK}:uZ [.v (.list ys)] U Q=(match aT ys with|some ns=>0<ns.length/\∀M∈ns,(∀a∈ns,M<=a)->Q (.v (.int M)) U|none=>False):=propext Iff.rfl
theorem xp{ys:List PyData}{U:Mu}{Q:DK}:tU [.v (.list ys)] U Q=(match aT ys with|some ns=>0<ns.length/\∀M∈ns,(∀a∈ns,a<=M)->Q (.v (.int M)) U|none=>False):=propext Iff.rfl
noncomputable def ay(s:Str):PyData->Bool
 |.str x=>decide (x=s)
 |_=>false
theorem Dt(x:PyData)(s:Str):PyData.eqv x (.str s)=ay s x:=by
 cases x<;>first|rfl|(simp[PyData.eqv,ay];done)|(simp[PyData.eqv,ay];rfl)
noncomputable def intD:PyData->Int
 |.int i=>i
 |_=>0
structure Sh(t:PyData):Prop where
 lay:t.canLay0=true
 dep:t.depth<=60
theorem Sh.shaped{t:PyData}(h:Sh t):SeqAt.shaped t=true:=by
 unfold SeqAt.shaped
 rw[h.lay,Bool.true_and,decide_eq_true_eq]
 have:=h.dep;omega
theorem xx:∀{xs:List PyData},PyData.canLayAll0 xs=true->∀x∈xs,x.canLay0=true
 |[],_,_,h=>nomatch h
 |y::r,e,x,h=>by
  rw[PyData.canLayAll0,and_eq_true] at e
  rcases List.mem_cons.mp h with z|z
  ·rw[z];exact e.1
  ·exact xx e.2 x z
theorem qA:∀{xs:List PyData} {n:Nat},PyData.depthAll xs<=n->∀x∈xs,x.depth<=n
 |[],_,_,_,h=>nomatch h
 |y::r,n,e,x,h=>by
  rw[PyData.depthAll] at e
  rcases List.mem_cons.mp h with z|z
  ·rw[z];omega
  ·exact qA ∅ x z
theorem Sh.mem{xs:List PyData}(h:Sh (.tuple xs)):∀x∈xs,Sh x:=fun x hx=>⟨xx (by have:=h.lay;rw[PyData.canLay0] at this;exact this) x hx,by
 have:=h.dep
 rw[PyData.depth] at this
 exact qA (n:=60) ∅ x hx⟩
theorem aw{w:PyData}{s:Str}{neg:Bool}{U:Mu}{Q:DK}(hw:SeqAt.shaped w=true)(hs:SeqAt.shaped (.str s)=true):aJ neg (.v w) (.v (.str s)) U Q=Q (.v (.bool (neg ^^ ay s w))) U:=by
 rw[Bs,Dt]
 exact propext ⟨fun h=>h.2.2,fun h=>⟨hw,hs,h⟩⟩
theorem bJ:SeqAt.shaped (.str "kind")=true:=nofun
theorem cb:SeqAt.shaped (.str "turn")=true:=nofun
theorem bh:SeqAt.shaped (.str "grid")=true:=nofun
theorem dU:SeqAt.shaped (.str "upon")=true:=nofun
theorem gW:SeqAt.shaped (.str "beside")=true:=nofun
noncomputable def bu(m:Int)(w x:PyData):Option (List PyData):=
 if ay "kind" w=true then (if (isWhole x&&(decide (0<=intD x)&&decide (intD x<m)))=true then some [] else none)
 else if ay "turn" w=true then some [x]
 else if (ay "upon" w || ay "beside" w)=true then (match x with|.tuple xs=>if 2<=xs.length/\xs.length<=8 then some xs else none|_=>none)
 else none
noncomputable def fq(w u v x:PyData):Option (List PyData):=
 if ay "grid" w=true then (if ((isWhole u&&decide (1<=intD u))&&(isWhole v&&decide (1<=intD v)))=true then some [x] else none) else none
noncomputable def dS(m:Int):PyData->Option (List PyData)
 |.tuple [w,x]=>bu m w x
 |.tuple [w,u,v,x]=>fq w u v x
 |_=>none
noncomputable def cnt(m:Int):Nat->PyData->Nat
 |0,_=>0
 |n+1,t=>match dS m t with
  |none=>0
  |some ps=>if (ps.map (cnt m n)).all (fun c=>decide (0<c))=true then 1+(ps.map (cnt m n)).sum else 0
noncomputable def okN(c:Nat):Bool:=decide (0<c)&&decide (c<=60)
noncomputable def kF:DSp:=fun ds U Q=>∃t,ds=[.v t]/\Q (.v (.bool (isWhole t&&decide (1<=intD t)))) U
theorem vh{U:Mu}{Q:DK}{ds:List D}(h:kF ds U Q):ds.length=1:=by obtain⟨_,rfl,_⟩:=h;rfl
noncomputable def sy:DSp:=fun ds U Q=>∃(t:PyData) (m:Int),ds=[.v t,.v (.int m)]/\Sh t/\Q (.v (.bool (dS m t).isSome)) U
theorem wb{U:Mu}{Q:DK}{ds:List D}(h:sy ds U Q):ds.length=2:=by obtain⟨_,_,rfl,_⟩:=h;rfl
noncomputable def jo:DSp:=fun ds U Q=>∃(t:PyData) (m:Int) (ps:List PyData),ds=[.v t]/\Sh t/\dS m t=some ps/\Q (.v (.list ps)) U
theorem uu{U:Mu}{Q:DK}{ds:List D}(h:jo ds U Q):ds.length=1:=by obtain⟨_,_,_,rfl,_⟩:=h;rfl
noncomputable def ji:DSp:=fun ds U Q=>∃(t:PyData) (m:Int),ds=[.v t,.v (.int m)]/\Sh t/\∀Y,(∀b ds,U b=some ds->Y b=some ds)->Q (.v (.bool (okN (cnt m 12 t)))) Y
theorem qg{U:Mu}{Q:DK}{ds:List D}(h:ji ds U Q):ds.length=2:=by obtain⟨_,_,rfl,_⟩:=h;rfl
theorem xV{x:Str}:isT "str" (.str x)=true:=rfl
theorem xB{xs:List PyData}:isT "tuple" (.tuple xs)=true:=rfl
theorem Df{u:Int}:isWhole (.int u)=true:=rfl
theorem xm:decide (((2:Nat):Int)<2)=false:=rfl
theorem xh:decide (((0:Nat):Int)<2)=true:=rfl
theorem xl:decide (((1:Nat):Int)<2)=true:=rfl
theorem xA:decide (((3:Nat):Int)<2)=false:=rfl
theorem xN:decide (((4:Nat):Int)<2)=false:=rfl
theorem CV:decide (((2:Nat):Int)=2)=true:=rfl
theorem Ei:decide (((3:Nat):Int)=2)=false:=rfl
theorem CM:decide (((4:Nat):Int)=2)=false:=rfl
theorem Cw:decide (((2:Nat):Int)=4)=false:=rfl
theorem B8:decide (((3:Nat):Int)=4)=false:=rfl
theorem D7:decide (((4:Nat):Int)=4)=true:=rfl
theorem xa{n:Nat}:decide (((n+1+1+1+1+1:Nat):Int)<2)=false:=decide_eq_false ∅
theorem Dx{n:Nat}:decide (((n+1+1+1+1+1:Nat):Int)=2)=false:=decide_eq_false ∅
theorem Cb{n:Nat}:decide (((n+1+1+1+1+1:Nat):Int)=4)=false:=decide_eq_false ∅
theorem sj{m:Nat}:decide (((m+1:Nat):Int)=0)=false:=decide_eq_false ∅
theorem Dc{m:Nat}:decide ((0:Int)<=(m:Int))=true:=decide_eq_true ∅
theorem Lc:ay "upon" (.str "kind")=false:=by decide
theorem L1:ay "turn" (.str "kind")=false:=by decide
theorem yC:ay "turn" (.str "upon")=false:=by decide
theorem yq:ay "turn" (.str "beside")=false:=by decide
theorem zm:ay "turn" (.str "grid")=false:=by decide
theorem tJ:ay "turn" (.str "turn")=true:=by decide
theorem JI:ay "grid" (.str "turn")=false:=by decide
theorem wc:ay "grid" (.str "upon")=false:=by decide
theorem vq:ay "grid" (.str "beside")=false:=by decide
theorem oV:ay "grid" (.str "grid")=true:=by decide
theorem J0:ay "beside" (.str "upon")=false:=by decide
theorem qc:ay "kind" (.str "turn")=false:=by decide
theorem wm:ay "kind" (.str "upon")=false:=by decide
theorem vI:ay "kind" (.str "beside")=false:=by decide
theorem wx:ay "kind" (.str "grid")=false:=by decide
theorem uY:ay "kind" (.str "kind")=true:=by decide
theorem AR:ay "upon" (.str "upon")=true:=by decide
theorem Ai:ay "upon" (.str "beside")=false:=by decide
theorem K8:ay "upon" (.str "turn")=false:=by decide
theorem IY:ay "upon" (.str "grid")=false:=by decide
theorem JN:ay "beside" (.str "beside")=true:=by decide
theorem K2:ay "beside" (.str "turn")=false:=by decide
theorem KY:ay "beside" (.str "grid")=false:=by decide
local macro_rules|`(tactic| walk_at "rl")=>mkW "↓aw bJ cb bh dU gW uY L1 Lc qc tJ K8 K2 JI wm yC wc AR J0 vI yq vq Ai JN wx zm IY KY oV ↓HL ↓l_t ↓l_f l_T l_F J9 KJ ↓u5 ↓j9 aT xV xB Df xm xh xl xA xN CV Ei CM Cw B8 D7 xa Dx Cb sj Dc decide_true decide_false xor_true true_xor ↓gC ↓nS ↓nN ↓nH ↓w5 ↓tq ↓xk ↓xp ↓cm ↓cw ↓cG ↓dY ↓fO ↓jc ↓i9 ↓iw ↓iJ ↓iy ↓fv ↓q_c ↓Em ↓q_B ↓ur ↓mK ↓mX ↓wL ↓Bk ↓iN ↓wF ↓jf ↓FU ↓cO ↓bI ↓kX ↓j7 ↓jd ↓km ↓k9 ↓kQ ↓mz ↓l4 ↓mB ↓mq ↓eK ↓iS ↓iD ↓gB ↓fQ ↓gU ↓iP ↓hV ↓gn ↓mT ↓mV ↓mY ↓i6 ↓i5 ↓ij ↓sV ↓cW ↓gE ↓mG ↓IG ↓gK ↓iG ↓iI ↓gM ↓l7 ↓u9 ↓iT ↓fj ↓mI ↓mx ↓a8 ↓gH ↓d8 ↓gI ↓jb ↓BW ↓mi ↓iF ↓hJ ↓kK ↓i7 ↓Bi ↓fF ↓vK ↓mM ↓mj ↓sO ↓b9 ↓cN ↓fJ ↓cX ↓dE ↓dJ ↓dF fX b0 bU dz dG d7 bind_none bind_some join_some getElem?_cons_zero getElem?_cons_succ ao qL lP lS lF fz ia i4 jw kJ map_cons map_nil List.append List.replicate length_cons length_nil Nat.reduceAdd Nat.reduceSub nil_append cons_append set_cons_zero set_cons_succ map_some Bool.not_true Bool.not_false false_eq_true true_eq_false xor_false false_xor"
local macro_rules|`(tactic| walk_at "rt")=>mkW "↓u5 ↓j9 aT xV xB Df xm xh xl xA xN CV Ei CM Cw B8 D7 xa Dx Cb sj Dc decide_true decide_false xor_true true_xor ↓gC ↓nS ↓nN ↓nH ↓w5 ↓x9 ↓tq ↓xk ↓xp ↓cm ↓cw ↓cG ↓dY ↓fO ↓jc ↓i9 ↓iw ↓iJ ↓iy ↓fv ↓q_c ↓zz ↓q_B ↓ur ↓mK ↓mX ↓lR ↓t5 ↓iN ↓oi ↓jf ↓Af ↓cO ↓bI ↓kX ↓j7 ↓jd ↓km ↓k9 ↓kQ ↓mz ↓l4 ↓mB ↓mq ↓eK ↓iS ↓iD ↓gB ↓fQ ↓gU ↓iP ↓hV ↓gn ↓mT ↓mV ↓mY ↓i6 ↓i5 ↓ij ↓sV ↓cW ↓gE ↓mG ↓wj ↓gK ↓iG ↓iI ↓gM ↓l7 ↓u9 ↓iT ↓fj ↓mI ↓mx ↓a8 ↓gH ↓d8 ↓gI ↓jb ↓qw ↓mi ↓iF ↓hJ ↓kK ↓i7 ↓qT ↓fF ↓dq ↓mM ↓mj ↓b9 ↓cN ↓fJ ↓cX ↓dE ↓dJ ↓dF fX ↓fM ↓bF b0 bU dz dG d7 bind_none bind_some join_some getElem?_cons_zero getElem?_cons_succ ao qL lP lS lF fz ia i4 jw kJ List.map List.append List.replicate length_cons length_nil Nat.reduceAdd Nat.reduceSub nil_append cons_append set_cons_zero set_cons_succ map_some ↓reduceIte Bool.not_true Bool.not_false false_eq_true true_eq_false xor_false false_xor"
noncomputable def mH:DTS:=
 (aC (dD (ah cg (aa (ae 0) ag)) (dOp rGe (ae 0) (dC (.int 1)))))
noncomputable def l5:DTS:=
 (ak (aL (gQ (c6 (dB (o6 "tuple" (ae 0)))) (dB (dOp rLt (dCB a0 (aa (ae 0) ag)) (dC (.int 2))))) (aC (dC (.bool false))) aF)
 (ak (az (dOp ai (ae 0) (dC (.int 0))) (af 2))
 (ak (aL (dB (dOp (aJ false) (ae 2) (dC (.str "grid")))) (aC (dD (dOp (aJ false) (dCB a0 (aa (ae 0) ag)) (dC (.int 4))) (dD (ah kF (aa (dOp ai (ae 0) (dC (.int 1))) ag)) (ah kF (aa (dOp ai (ae 0) (dC (.int 2))) ag))))) aF)
 (ak (aL (dB (dOp (aJ true) (dCB a0 (aa (ae 0) ag)) (dC (.int 2)))) (aC (dC (.bool false))) aF)
 (ak (aL (dB (dOp (aJ false) (ae 2) (dC (.str "kind")))) (aC (dD (ah cg (aa (dOp ai (ae 0) (dC (.int 1))) ag)) (dD (dOp rGe (dOp ai (ae 0) (dC (.int 1))) (dC (.int 0))) (dOp rLt (dOp ai (ae 0) (dC (.int 1))) (ae 1))))) aF)
 (ak (aL (gQ (dB (dOp (aJ false) (ae 2) (dC (.str "upon")))) (dB (dOp (aJ false) (ae 2) (dC (.str "beside"))))) (aC (dD (o6 "tuple" (dOp ai (ae 0) (dC (.int 1)))) (dD (dOp rGe (dCB a0 (aa (dOp ai (ae 0) (dC (.int 1))) ag)) (dC (.int 2))) (dOp rLe (dCB a0 (aa (dOp ai (ae 0) (dC (.int 1))) ag)) (dC (.int 8)))))) aF)
 (aC (dOp (aJ false) (ae 2) (dC (.str "turn"))))))))))
noncomputable def mL:DTS:=
 (ak (az (dOp ai (ae 0) (dC (.int 0))) (af 1))
 (ak (aL (dB (dOp (aJ false) (ae 1) (dC (.str "kind")))) (aC (cL ag)) aF)
 (ak (aL (gQ (dB (dOp (aJ false) (ae 1) (dC (.str "upon")))) (dB (dOp (aJ false) (ae 1) (dC (.str "beside"))))) (aC (dCB ly (aa (dOp ai (ae 0) (dC (.int 1))) ag))) aF)
 (aC (cL (aa (dOp ai (ae 0) (u6 (dC (.int 1)))) ag))))))
noncomputable def o9:DTS:=
 (ak (az (gY (aa (aO (aa (ae 0) (aa (dC (.int 1)) ag))) ag)) (af 2))
 (ak (az (dC (.int 0)) (af 3))
 (ak (oB (BY (ae 2)) (ak (az (Hk (ae 2)) (cj 2 (aA (af 4) (aA (af 5) bY))))
 (ak (Fj 3 (dC (.int 1)))
 (ak (aL (gQ (dB (dOp rGt (ae 3) (dC (.int 60)))) (gQ (dB (dOp rGt (ae 5) (dC (.int 12)))) (c6 (dB (ah sy (aa (ae 4) (aa (ae 1) ag))))))) (aC (dC (.bool false))) aF)
 (gA (aZ (ah jo (aa (ae 4) ag))) (af 6) (cA (nk (ae 2) (aO (aa (ae 6) (aa (cM (ae 5) (dC (.int 1))) ag))))))))))
 (aC (dC (.bool true))))))
section
variable {U:Mu}{Qd:DK}{ds:List D}
theorem gF{t:PyData}(h:isWhole t=true):∃i,t = .int i:=by
 cases t<;>first|exact⟨_,rfl⟩|(exfalso;exact Bool.false_ne_true h)
theorem uG(h:kF ds U Qd):mH ‹Qd› (ao ["thing"] ds) U:=by
 obtain⟨t,rfl,q⟩:=h
 unfold mH
 walk_at "rt"
 refine⟨t,rfl,?_⟩
 walk_at "rt"
 cases e:isWhole t with
 |true=>
  obtain⟨i,rfl⟩:=gF e
  walk_at "rt"
  exact q
 |false=>
  rw[e] at q
  walk_at "rt"
  exact q
theorem gJ{s:Str}{w:PyData}(h:ay s w=true):w = .str s:=by
 cases w<;>first|(exfalso;exact Bool.false_ne_true h)|(rename_i x;have:x=s:=of_decide_eq_true h;rw[this])
theorem Cd{m:Int}{x:PyData}:bu m (.str "grid") x=none:=by
 unfold bu
 rw[if_neg ⋯,if_neg ⋯,if_neg ⋯]
noncomputable def l9:PyData->Option (List PyData)
 |.tuple xs=>if 2<=xs.length/\xs.length<=8 then some xs else none
 |_=>none
theorem xT{m:Int}{x:PyData}:bu m (.str "upon") x=l9 x:=by
 unfold bu
 rw[if_neg ⋯,if_neg ⋯,if_pos ⋯]
 unfold l9
 cases x<;>rfl
theorem qy{m:Int}{x:PyData}:bu m (.str "beside") x=l9 x:=by
 unfold bu
 rw[if_neg ⋯,if_neg ⋯,if_pos ⋯]
 unfold l9
 cases x<;>rfl
theorem t7{x:PyData}(q':Qd (.v (.bool (l9 x).isSome)) U):if isT "tuple" x=true then
   a0 [.v x] U fun x_1 ac=>rGe x_1 (.v (.int 2)) ac fun x_2 ac=>match x_2 with
    |.v (.bool c)=>if c=true then a0 [.v x] ac fun x ac=>rLe x (.v (.int 8)) ac Qd else Qd (.v (.bool false)) ac
    |_=>False
  else Qd (.v (.bool false)) U:=by
 rcases jj x with ⟨xs,rfl,e⟩|⟨hn,e⟩
 ·rw[e]
  walk_at "rt"
  have q2:Qd (.v (.bool (if 2<=xs.length/\xs.length<=8 then some xs else none).isSome)) U:=q'
  by_cases c1:2<=xs.length
  ·rw[decide_eq_true (by omega:(2:Int)<=(xs.length:Nat))]
   simp only[↓reduceIte]
   by_cases c2:xs.length<=8
   ·rw[decide_eq_true (by omega:((xs.length:Nat):Int)<=8)]
    rw[if_pos ⟨c1,c2⟩] at q2
    exact q2
   ·rw[decide_eq_false (by omega:¬ ((xs.length:Nat):Int)<=8)]
    rw[if_neg (fun z=>c2 z.2)] at q2
    exact q2
  ·rw[decide_eq_false (by omega:¬ (2:Int)<=(xs.length:Nat))]
   simp only[false_eq_true,↓reduceIte]
   rw[if_neg (fun z=>c1 z.1)] at q2
   exact q2
 ·rw[e]
  have:l9 x=none:=by cases x<;>first|rfl|exact absurd rfl (hn _)
  rw[this] at q'
  simp only[false_eq_true,↓reduceIte]
  exact q'
theorem uE(h:sy ds U Qd):l5 ‹Qd› (ao ["thing","many","word"] ds) U:=by
 obtain⟨t,m,rfl,hs,q⟩:=h
 unfold l5
 rcases jj t with ⟨xs,rfl,e⟩|⟨hn,e⟩
 ·have hw:=hs.mem
  rcases xs with _|⟨w,_|⟨x,_|⟨y,_|⟨z,_|⟨r,rs⟩⟩⟩⟩⟩
  ·walk_at "rl";exact q
  ·walk_at "rl";exact q
  ·have sw:=(hw w (by simp)).shaped
   have q':Qd (.v (.bool (bu m w x).isSome)) U:=q
   walk_at "rl"
   simp only[aw sw bh,false_xor]
   cases e1:ay "grid" w with
   |true=>
    have ew:=gJ e1
    subst ew
    rw[Cd] at q'
    walk_at "rl"
    exact q'
   |false=>
    walk_at "rl"
    simp only[aw sw bJ,false_xor]
    cases e2:ay "kind" w with
    |true=>
     unfold bu at q'
     rw[if_pos e2] at q'
     walk_at "rl"
     refine⟨x,rfl,?_⟩
     cases ex:isWhole x with
     |true=>
      obtain⟨i,rfl⟩:=gF ex
      walk_at "rl"
      have q2:Qd (.v (.bool (if (true&&(decide (0<=i)&&decide (i<m)))=true then some ([]:List PyData) else none).isSome)) U:=q'
      by_cases c1:0<=i
      ·rw[decide_eq_true c1] at q2 ⊢
       simp only[Bool.true_and] at q2
       walk_at "rl"
       cases c2:decide (i<m)<;>rw[c2] at q2<;>exact q2
      ·rw[decide_eq_false c1] at q2 ⊢
       simp only[Bool.true_and,Bool.false_and,false_eq_true,↓reduceIte] at q2
       walk_at "rl"
       exact q2
     |false=>
      rw[ex] at q'
      walk_at "rl"
      exact q'
    |false=>
     walk_at "rl"
     simp only[aw sw dU,false_xor]
     cases e3:ay "upon" w with
     |true=>
      have ew:=gJ e3
      subst ew
      rw[xT] at q'
      walk_at "rl"
      exact t7 q'
     |false=>
      walk_at "rl"
      simp only[aw sw gW,false_xor]
      cases e4:ay "beside" w with
      |true=>
       have ew:=gJ e4
       subst ew
       rw[qy] at q'
       walk_at "rl"
       exact t7 q'
      |false=>
       walk_at "rl"
       simp only[aw sw cb,false_xor]
       unfold bu at q'
       rw[if_neg (by rw[e2];decide),e3,e4] at q'
       cases e5:ay "turn" w with
       |true=>rw[if_pos e5] at q';exact q'
       |false=>rw[if_neg (by rw[e5];decide),if_neg ⋯] at q';exact q'
  ·have sw:=(hw w (by simp)).shaped
   walk_at "rl"
   simp only[aw sw bh,false_xor]
   cases e1:ay "grid" w<;>walk_at "rl"<;>exact q
  ·have sw:=(hw w (by simp)).shaped
   have q':Qd (.v (.bool (fq w x y z).isSome)) U:=q
   walk_at "rl"
   simp only[aw sw bh,false_xor]
   unfold fq at q'
   cases e1:ay "grid" w with
   |true=>
    rw[if_pos e1] at q'
    walk_at "rl"
    refine⟨x,rfl,?_⟩
    cases c1:(isWhole x&&decide (1<=intD x)) with
    |true=>
     walk_at "rl"
     refine⟨y,rfl,?_⟩
     rw[c1] at q'
     cases c2:(isWhole y&&decide (1<=intD y))<;>rw[c2] at q'<;>exact q'
    |false=>
     rw[c1] at q'
     walk_at "rl"
     exact q'
   |false=>rw[if_neg (by rw[e1];decide)] at q';walk_at "rl";exact q'
  ·have sw:=(hw w (by simp)).shaped
   walk_at "rl"
   simp only[aw sw bh,false_xor]
   cases e1:ay "grid" w<;>walk_at "rl"<;>exact q
 ·walk_at "rl"
  rw[e]
  walk_at "rl"
  have:dS m t=none:=by cases t<;>first|rfl|exact absurd rfl (hn _)
  rw[this] at q
  exact q
theorem pf{m:Int}{t:PyData}{ps:List PyData}(h:dS m t=some ps):(∃x,t = .tuple [.str "kind",x]/\ps=[])\/(∃x,t = .tuple [.str "turn",x]/\ps=[x])\/((∃xs,t = .tuple [.str "upon",.tuple xs]/\ps=xs/\2<=xs.length/\xs.length<=8)\/(∃xs,t = .tuple [.str "beside",.tuple xs]/\ps=xs/\2<=xs.length/\xs.length<=8))\/(∃u v x,t = .tuple [.str "grid",u,v,x]/\ps=[x]):=by
 unfold dS at h
 split at h
 ·rename_i w x
  unfold bu at h
  split at h
  ·rename_i e
   rw[gJ e]
   split at h
   ·cases h;exact .inl ⟨x,rfl,rfl⟩
   ·cases h
  ·split at h
   ·rename_i e
    rw[gJ e]
    cases h;exact .inr (.inl ⟨x,rfl,rfl⟩)
   ·split at h
    ·rename_i e
     have hx:∃xs,x = .tuple xs/\(2<=xs.length/\xs.length<=8)/\ps=xs:=by
      split at h
      ·rename_i xs
       split at h
       ·rename_i c;cases h;exact⟨_,rfl,c,rfl⟩
       ·cases h
      ·cases h
     obtain⟨xs,rfl,c,rfl⟩:=hx
     rw[Bool.or_eq_true] at e
     rcases e with e|e
     ·rw[gJ e];exact .inr (.inr (.inl (.inl ⟨_,rfl,rfl,c.1,c.2⟩)))
     ·rw[gJ e];exact .inr (.inr (.inl (.inr ⟨_,rfl,rfl,c.1,c.2⟩)))
    ·cases h
 ·rename_i w u v x
  unfold fq at h
  split at h
  ·rename_i e
   rw[gJ e]
   split at h
   ·cases h;exact .inr (.inr (.inr ⟨u,v,x,rfl,rfl⟩))
   ·cases h
  ·cases h
 ·cases h
theorem rQ{m:Int}{t:PyData}{ps:List PyData}(h:dS m t=some ps)(hs:Sh t):(∀p∈ps,Sh p)/\ps.length<=8:=by
 rcases pf h with ⟨x,rfl,rfl⟩|⟨x,rfl,rfl⟩|(⟨xs,rfl,rfl,c1,c2⟩|⟨xs,rfl,rfl,c1,c2⟩)|⟨u,v,x,rfl,rfl⟩
 ·exact⟨fun _ z=>(nomatch z),by simp⟩
 ·exact⟨fun p z=>by rw[List.mem_singleton.mp z];exact hs.mem x (by simp),by simp⟩
 ·exact⟨(hs.mem (.tuple ps) (by simp)).mem,c2⟩
 ·exact⟨(hs.mem (.tuple ps) (by simp)).mem,c2⟩
 ·exact⟨fun p z=>by rw[List.mem_singleton.mp z];exact hs.mem x (by simp),by simp⟩
theorem uW(h:jo ds U Qd):mL ‹Qd› (ao ["plan","word"] ds) U:=by
 obtain⟨t,m,ps,rfl,hs,hf,q⟩:=h
 unfold mL
 rcases pf hf with ⟨x,rfl,rfl⟩|⟨x,rfl,rfl⟩|(⟨xs,rfl,rfl,c1,c2⟩|⟨xs,rfl,rfl,c1,c2⟩)|⟨u,v,x,rfl,rfl⟩
 ·walk_at "rl"
  exact q
 ·walk_at "rl"
  exact q
 ·walk_at "rl"
  exact q
 ·walk_at "rl"
  exact q
 ·walk_at "rl"
  exact q
noncomputable def ent(e:PyData×Nat):PyData:=.tuple [e.1,.int (e.2:Nat)]
noncomputable def wt(m:Int)(e:PyData×Nat):Nat:=cnt m (13-e.2) e.1
noncomputable def Good(m:Int)(S:List (PyData×Nat))(c:Nat):Prop:=(∀e∈S,0<wt m e)/\c+(S.map (wt m)).sum<=60
theorem se(xs ys:List Nat):(xs++ys).sum=xs.sum+ys.sum:=List.sum_append
theorem pL{m:Int}{L:List (PyData×Nat)}{e:PyData×Nat}{c:Nat}(h:Good m (L++[e]) c):0<wt m e/\c+1<=60:=by
 have p:=h.1 e (by simp)
 have s:=h.2
 rw[map_append,se] at s
 simp only[map_cons,map_nil,sum_cons,sum_nil] at s
 exact⟨p,∅⟩
theorem cnt_none{m:Int}{n:Nat}{t:PyData}(h:dS m t=none):cnt m n t=0:=by
 cases n with
 |zero=>rfl
 |succ n=>simp only[cnt,h]
theorem ik{m:Int}{n:Nat}{t:PyData}{ps:List PyData}(h:dS m t=some ps):cnt m (n+1) t=if (ps.map (cnt m n)).all (fun c=>decide (0<c))=true then 1+(ps.map (cnt m n)).sum else 0:=by
 simp only[cnt,h]
theorem yP{m:Int}{L:List (PyData×Nat)}{t:PyData}{d c:Nat}{ps:List PyData}(hd:d<=12)(hf:dS m t=some ps):Good m (L++ps.map (fun p=>(p,d+1))) (c+1)↔Good m (L++[(t,d)]) c:=by
 obtain⟨n,hn⟩:∃n,13-d=n+1:=⟨12-d,∅⟩
 have e1:wt m (t,d)=if (ps.map (cnt m n)).all (fun c=>decide (0<c))=true then 1+(ps.map (cnt m n)).sum else 0:=by
  show cnt m (13-d) t=_
  rw[hn,ik hf]
 have e2:∀p,wt m (p,d+1)=cnt m n p:=fun p=>by show cnt m (13-(d+1)) p=_;congr 1;omega
 have e3:(ps.map (fun p=>(p,d+1))).map (wt m)=ps.map (cnt m n):=by
  rw[map_map];exact map_congr_left fun p _=>e2 p
 unfold Good
 rw[map_append,map_append,se,se,e3]
 simp only[map_cons,map_nil,sum_cons,sum_nil,Nat.add_zero]
 rw[e1]
 by_cases ha:(ps.map (cnt m n)).all (fun c=>decide (0<c))=true
 ·rw[if_pos ha]
  have hp:∀p∈ps,0<cnt m n p:=fun p hp=>by
   have:=List.all_eq_true.mp ha (cnt m n p) (mem_map_of_mem hp)
   exact of_decide_eq_true this
  constructor
  ·rintro ⟨h1,h2⟩
   refine⟨fun e he=>?_,∅⟩
   rcases List.mem_append.mp he with z|z
   ·exact h1 e (mem_append_left _ z)
   ·rw[List.mem_singleton.mp z,e1,if_pos ha];omega
  ·rintro ⟨h1,h2⟩
   refine⟨fun e he=>?_,∅⟩
   rcases List.mem_append.mp he with z|z
   ·exact h1 e (mem_append_left _ z)
   ·obtain⟨p,hp',rfl⟩:=List.mem_map.mp z
    rw[e2];exact hp p hp'
 ·rw[if_neg ha]
  constructor
  ·rintro ⟨h1,h2⟩
   exfalso
   apply ha
   rw[all_eq_true]
   intro x hx
   obtain⟨p,hp',rfl⟩:=List.mem_map.mp hx
   have:=h1 (p,d+1) (mem_append_right _ (mem_map_of_mem hp'))
   rw[e2] at this
   exact decide_eq_true this
  ·rintro ⟨h1,h2⟩
   exfalso
   have:=h1 (t,d) (by simp)
   rw[e1,if_neg ha] at this
   omega
theorem vD{m:Int}{t:PyData}:Good m [(t,1)] 0↔okN (cnt m 12 t)=true:=by
 unfold Good okN
 have:wt m (t,1)=cnt m 12 t:=rfl
 simp only[List.mem_singleton,forall_eq,map_cons,map_nil,sum_cons,sum_nil,this,and_eq_true,decide_eq_true_eq]
 omega
theorem vN(h:ji ds U Qd):o9 ‹Qd› (ao ["thing","many","waiting","counted","plan","depth","part"] ds) U:=by
 obtain⟨t,m,rfl,hs,q⟩:=h
 unfold o9
 walk_at "rt"
 intro pw hpw
 rw[C1]
 refine⟨fun k ρ Y=>∃(S:List (PyData×Nat)) (c:Nat) (r4 r5 r6:Option D),ρ=[some (.v t),some (.v (.int m)),some (.m pw),some (.v (.int c)),r4,r5,r6]/\Y pw=some (S.map ent)/\(∀b ds,b≠pw->U b=some ds->Y b=some ds)/\(∀e∈S,Sh e.1)/\S.length<=1+8*c/\c<=60/\k=61-c/\(Good m S c↔okN (cnt m 12 t)=true),
  ⟨61,[(t,1)],0,none,none,none,rfl,aq,fun b ds hb e=>by rw[au hb];exact e,fun e he=>by rw[List.mem_singleton.mp he];exact hs,by simp,∅,rfl,vD⟩,?_⟩
 rintro k ρ Y ⟨S,c,r4,r5,r6,rfl,hm,hk,hS,hl,hc,rfl,hg⟩
 have keep:∀b ds,U b=some ds->Y b=some ds:=fun b ds e=>hk b ds (fun z=>by rw[z,hpw] at e;cases e) e
 walk_at "rt"
 rw[hm]
 rcases List.eq_nil_or_concat S with rfl|⟨L,e,rfl⟩
 ·have:okN (cnt m 12 t)=true:=hg.mp ⟨fun _ z=>(nomatch z),by simpa using hc⟩
  have q':=q Y keep
  rw[this] at q'
  exact q'
 ·obtain⟨t',d⟩:=e
  rw[List.concat_eq_append] at hm hS hl hg
  have nok:¬ Good m (L++[(t',d)]) c->okN (cnt m 12 t)=false:=fun h=>by
   cases z:okN (cnt m 12 t) with
   |true=>exact absurd (hg.mpr z) h
   |false=>rfl
  have hemp:(List.map ent (L++[(t',d)])).isEmpty=false:=by simp
  rw[List.concat_eq_append]
  dsimp only
  rw[hemp]
  simp only[Bool.not_false,↓reduceIte]
  have hkw:∀b ds,U b=some ds->aE Y pw (List.map ent L) b=some ds:=fun b ds e=>by
   have hb:b≠pw:=fun z=>by rw[z,hpw] at e;cases e
   rw[au hb];exact hk b ds hb e
  refine⟨ent (t',d),by simp,?_⟩
  have edl:(List.map ent (L++[(t',d)])).dropLast=List.map ent L:=by simp
  rw[edl]
  show cj 2 (aA (af 4) (aA (af 5) bY)) (.v (.tuple [t',.int (d:Nat)])) _ _ _
  have q0:okN (cnt m 12 t)=false->Qd (.v (.bool false)) (aE Y pw (List.map ent L)):=fun z=>by
   have:=q _ hkw
   rw[z] at this
   exact this
  have st':Sh t':=hS (t',d) (by simp)
  walk_at "rt"
  refine⟨trivial,?_⟩
  rw[JB]
  refine⟨c,rfl,?_⟩
  walk_at "rl"
  by_cases c1:60<(c:Int)+1
  ·rw[gj (by simpa using c1)]
   exact q0 (nok fun g=>by have:=pL g;omega)
  ·rw[ey (by simpa using c1)]
   walk_at "rl"
   by_cases c2:12<(d:Int)
   ·rw[gj (by simpa using c2)]
    refine q0 (nok fun g=>?_)
    have h0:wt m (t',d)=0:=by show cnt m (13-d) t'=0;rw[show 13-d=0 by omega];rfl
    have:=pL g;omega
   ·rw[ey (by simpa using c2)]
    walk_at "rl"
    refine⟨t',m,rfl,st',?_⟩
    walk_at "rl"
    cases hf:dS m t' with
    |none=>
     simp only[Option.isSome_none]
     walk_at "rl"
     refine q0 (nok fun g=>?_)
     have h0:wt m (t',d)=0:=cnt_none hf
     have:=pL g;omega
    |some ps=>
     simp only[Option.isSome_some]
     walk_at "rl"
     obtain⟨hps,lps⟩:=rQ hf st'
     rw[d6]
     walk_at "rt"
     refine⟨t',m,ps,rfl,st',hf,?_⟩
     rw[length_append,List.length_singleton] at hl
     refine⟨fun i ρ ad=>∃r6,ρ=[some (.v t),some (.v (.int m)),some (.m pw),some (.v (.int ((c:Int)+1))),some (.v t'),some (.v (.int (d:Nat))),r6]/\ad pw=some (List.map ent (L++(ps.take i).map (fun p=>(p,d+1))))/\∀b,b≠pw->ad b=Y b,⟨_,rfl,by rw[aq];simp,fun b hb=>au hb⟩,?_,?_⟩
     ·rintro i x ρ ad hx ⟨r6,rfl,hm2,hk2⟩
      have hi:i<ps.length:=by
       rcases Nat.lt_or_ge i ps.length with z|z
       ·exact z
       ·rw[List.getElem?_eq_none z] at hx;cases hx
      walk_at "rt"
      simp only[hm2]
      refine⟨?_,_,rfl,?_,fun b hb=>by rw[au hb];exact hk2 b hb⟩
      ·rw[length_map,length_append,length_map,length_take];omega
      ·rw[aq,take_succ,hx]
       simp[ent]
     ·rintro ρ ad ⟨r6,rfl,hm2,hk2⟩
      rw[take_length] at hm2
      refine⟨61-(c+1),∅,L++ps.map (fun p=>(p,d+1)),c+1,_,_,_,rfl,hm2,fun b ds hb e=>by rw[hk2 b hb];exact hk b ds hb e,fun e he=>?_,?_,∅,rfl,(yP ∅ hf).trans hg⟩
      ·rcases List.mem_append.mp he with z|z
       ·exact hS e (mem_append_left _ z)
       ·obtain⟨p,hp,rfl⟩:=List.mem_map.mp z
        exact hps p hp
      ·rw[length_append,length_map];omega
end
noncomputable def de(n:Nat):DSp:=fun ds U Q=>∃(t:PyData) (m:Int) (deep:Nat),ds=[.v t,.v (.int m),.v (.int deep)]/\deep<n/\Sh t/\∀Y,(∀b ds,U b=some ds->Y b=some ds)->Q (.v (.int (cnt m deep t))) Y
theorem pX{n:Nat}{U:Mu}{Q:DK}{ds:List D}(h:de n ds U Q):ds.length=3:=by obtain⟨_,_,_,rfl,_⟩:=h;rfl
theorem vM{U:Mu}{Q:DK}{ds:List D}(h:de 0 ds U Q):False:=by obtain⟨_,_,_,_,h,_⟩:=h;omega
noncomputable def pK:DSp:=fun ds U Q=>∃a:Addr,ds=[.m a]/\Bag U a/\∀g Y,1<=g->g<=1000000->Step a U Y->Q (.v (.int g)) Y
theorem wq{U:Mu}{Q:DK}{ds:List D}(h:pK ds U Q):ds.length=1:=by obtain⟨_,rfl,_⟩:=h;rfl
theorem vb(s:Str)(x:PyData):PyData.eqv (.str s) x=ay s x:=by
 cases x with
 |str y=>
  have e:PyData.eqv (.str s) (.str y)=decide (s=y):=by simp[PyData.eqv];rfl
  rw[e]
  show decide (s=y)=decide (y=s)
  rw[Bool.eq_iff_iff,decide_eq_true_eq,decide_eq_true_eq]
  exact eq_comm
 |_=>first|rfl|simp[PyData.eqv,ay]
theorem Ca:PyData.canLayAll0 [.str "upon",.str "beside"]=true:=nofun
noncomputable def tot(cs:List Nat):Nat:=if cs=[] then 0 else if cs.all (fun c=>decide (0<c))=true then 1+cs.sum else 0
noncomputable def ba(n:Nat):DTS:=
 (ak (az (aP [none,some 1,some 2] (aZ (ae 5)) (af 0) aW (ah (de n) (aa (ae 0) (aa (ae 1) (aa (ib (ae 2) (dC (.int 1))) ag))))) (af 6))
 (ak (aL (gQ (dB (dOp (aJ false) (ae 6) (cL ag))) (dB (dOp (aJ false) (dCB uZ (aa (ae 6) ag)) (dC (.int 0))))) (aC (dC (.int 0))) aF)
 (aC (cM (dC (.int 1)) (dCB mQ (aa (ae 6) ag))))))
noncomputable def gr(n:Nat):DTS:=
 (ak (aL (gQ (dB (dOp (aJ false) (ae 2) (dC (.int 0)))) (gQ (c6 (dB (o6 "tuple" (ae 0)))) (dB (dOp rLt (dCB a0 (aa (ae 0) ag)) (dC (.int 2)))))) (aC (dC (.int 0))) aF)
 (ak (nh 3 4 (aa (dOp ai (ae 0) (dC (.int 0))) (aa (dCB a0 (aa (ae 0) ag)) ag)))
 (ak (aL (dB (dOp (aJ false) (ae 3) (dC (.str "kind")))) (aC (dCB jF (aa (dD (dOp (aJ false) (ae 4) (dC (.int 2))) (dD (ah cg (aa (dOp ai (ae 0) (dC (.int 1))) ag)) (jR rLe rLt (dC (.int 0)) (dOp ai (ae 0) (dC (.int 1))) (ae 1)))) ag))) aF)
 (ak (az (cL ag) (af 5))
 (ak (aL (gk (dB (dOp (aJ false) (ae 3) (dC (.str "turn")))) (dB (dOp (aJ false) (ae 4) (dC (.int 2))))) (az (cL (aa (dOp ai (ae 0) (dC (.int 1))) ag)) (af 5)) (aL (gk (dB (dOp (vW false) (ae 3) (cL (aa (dC (.str "upon")) (aa (dC (.str "beside")) ag))))) (gk (dB (dOp (aJ false) (ae 4) (dC (.int 2)))) (dB (o6 "tuple" (dOp ai (ae 0) (dC (.int 1))))))) (az (dIf (dB (jR rLe rLe (dC (.int 2)) (dCB a0 (aa (dOp ai (ae 0) (dC (.int 1))) ag)) (dC (.int 8)))) (dCB ly (aa (dOp ai (ae 0) (dC (.int 1))) ag)) (cL ag)) (af 5)) (aL (gk (dB (dOp (aJ false) (ae 3) (dC (.str "grid")))) (gk (dB (dOp (aJ false) (ae 4) (dC (.int 4)))) (dB (dCB kG (aa (fY [none] (fK (dSl (ae 0) (jJ (dC (.int 1))) (jJ (dC (.int 3))))) (af 0) aW (dD (ah cg (aa (ae 0) ag)) (dOp rGt (ae 0) (dC (.int 0))))) ag))))) (az (cL (aa (dOp ai (ae 0) (dC (.int 3))) ag)) (af 5)) aF)))
 (ba n))))))
noncomputable def fi:DTS:=
 (aC (cM (dC (.int 1)) (ah aQ (aa (ae 0) (aa (dOp ai (cL (aa (dC (.int 2)) (aa (dC (.int 3)) (aa (dC (.int 5)) (aa (dC (.int 3)) (aa (dC (.int 2)) (aa (dC (.int 9)) (aa (dC (.int 4)) (aa (B4 (dC (.int 10)) (dC (.int 6))) ag))))))))) (ah aQ (aa (ae 0) (aa (dC (.int 8)) ag)))) ag)))))
section
variable {U:Mu}{Qd:DK}{ds:List D}
theorem C8(cs:List Nat):aT (cs.map fun (c:Nat)=>PyData.int (c:Int))=some (cs.map fun (c:Nat)=>(c:Int)):=by
 induction cs with
 |nil=>rfl
 |cons c r ih=>simp only[map_cons,aT,ih,map_some]
theorem zU(cs:List Nat):(cs.map fun (c:Nat)=>(c:Int)).sum=((cs.sum:Nat):Int):=by
 induction cs with
 |nil=>rfl
 |cons c r ih=>simp only[map_cons,sum_cons,ih];omega
theorem min_zero{cs:List Nat}{M:Int}(h1:M∈cs.map fun (c:Nat)=>(c:Int))(h2:∀a∈cs.map fun (c:Nat)=>(c:Int),M<=a):M=0↔cs.all (fun c=>decide (0<c))=false:=by
 obtain⟨c,hc,rfl⟩:=List.mem_map.mp h1
 constructor
 ·intro z
  rw[Bool.eq_false_iff]
  intro ha
  have:=List.all_eq_true.mp ha c hc
  have:=of_decide_eq_true this
  omega
 ·intro hf
  have:∃x∈cs,¬ 0<x:=by
   rcases Classical.em (∃x∈cs,¬ 0<x) with z|z
   ·exact z
   ·exfalso
    rw[Bool.eq_false_iff] at hf
    apply hf
    rw[all_eq_true]
    intro x hx
    rcases Nat.lt_or_ge 0 x with w|w
    ·exact decide_eq_true w
    ·exact absurd ⟨x,hx,∅⟩ z
  obtain⟨x,hx,hx0⟩:=this
  have:=h2 (x:Int) (mem_map_of_mem hx)
  omega
theorem shaped_ints(cs:List Nat):SeqAt.shaped (.list (cs.map fun (c:Nat)=>PyData.int (c:Int)))=true:=by
 have h1:PyData.canLayAll0 (cs.map fun (c:Nat)=>PyData.int (c:Int))=true:=by
  induction cs with
  |nil=>rfl
  |cons c r ih=>simp only[map_cons,PyData.canLayAll0,PyData.canLay0,ih,Bool.and_true]
 have h2:PyData.depthAll (cs.map fun (c:Nat)=>PyData.int (c:Int))=0:=by
  induction cs with
  |nil=>rfl
  |cons c r ih=>simp only[map_cons,PyData.depthAll,PyData.depth,PyData.canLayAll0,PyData.canLay0,and_eq_true] at *;rw[ih (by simpa [PyData.canLayAll0,PyData.canLay0] using h1)];rfl
 unfold SeqAt.shaped
 rw[PyData.canLay0,h1,PyData.depth,h2]
 rfl
theorem oj{n k:Nat}{t w s:D}{m:Int}{ps:List PyData}{r6:Option D}{Dd:gZ}(hk:k<n)(hps:∀p∈ps,Sh p)(lps:ps.length<=8)
  (q:∀Y,(∀b ds,U b=some ds->Y b=some ds)->Dd.rt (.v (.int (tot (ps.map (cnt m k))))) Y) :
  ba n Dd [some t,some (.v (.int m)),some (.v (.int ((k+1:Nat):Int))),some w,some s,some (.v (.list ps)),r6] U:=by
 unfold ba
 walk_at "rt"
 refine⟨∅,fun a ha=>⟨fun i acc Y=>acc=((ps.take i).map fun p=>PyData.int (cnt m k p:Nat))/\∀b ds,b≠a->U b=some ds->Y b=some ds,⟨by simp,fun b ds hb e=>by rw[au hb];exact e⟩,?_,?_⟩⟩
 ·rintro i x acc Y hx hacc ⟨rfl,hk'⟩
  refine⟨⟨trivial,trivial,trivial⟩,x,m,k,?_,hk,hps x (mem_of_getElem? hx),fun ce h4=>⟨h4 _ _ hacc,?_,fun b ds hb e=>by rw[au hb];exact h4 b ds (hk' b ds hb e)⟩⟩
  ·congr 1;congr 1;congr 1;congr 1;congr 1;omega
  ·rw[take_succ,hx];simp
 ·rintro acc Y ⟨rfl,hk'⟩ hacc
  have q':=q (eI Y a) fun b ds e=>by
   have hb:b≠a:=fun z=>by rw[z,ha] at e;cases e
   rw[bV hb];exact hk' b ds hb e
  rw[take_length]
  have em:(ps.map fun p=>PyData.int (cnt m k p:Nat))=(ps.map (cnt m k)).map fun (c:Nat)=>PyData.int (c:Int):=by rw[map_map];rfl
  rw[em]
  generalize ps.map (cnt m k)=cs at q'
  refine⟨shaped_ints cs,rfl,?_⟩
  cases cs with
  |nil=>exact q'
  |cons c r=>
   have e0:PyData.eqv (.list ((c::r).map fun (c:Nat)=>PyData.int (c:Int))) (.list [])=false:=by simp[PyData.eqv,PyData.eqvAll]
   rw[e0,C8]
   simp only[false_eq_true,↓reduceIte]
   refine⟨by simp,fun M h1 h2=>?_⟩
   have hz:=min_zero h1 h2
   have q2:Dd.rt (.v (.int ((if (c::r).all (fun c=>decide (0<c))=true then 1+(c::r).sum else 0:Nat):Int))) (eI Y a):=q'
   cases ea:(c::r).all (fun c=>decide (0<c)) with
   |true=>
    rw[if_pos ea] at q2
    rw[decide_eq_false (fun z=>by rw[hz,ea] at z;cases z)]
    simp only[false_eq_true,↓reduceIte]
    rw[zU]
    have e1:(1:Int)+(((c::r).sum:Nat):Int)=((1+(c::r).sum:Nat):Int):=by omega
    rw[e1]
    exact q2
   |false=>
    rw[if_neg (by rw[ea];decide)] at q2
    rw[decide_eq_true (hz.mpr ea)]
    exact q2
theorem HN{m:Int}{k:Nat}{t:PyData}{ps:List PyData}(h:dS m t=some ps)(hne:ps≠[]):cnt m (k+1) t=tot (ps.map (cnt m k)):=by
 rw[ik h]
 unfold tot
 rw[if_neg (fun z=>hne (List.map_eq_nil_iff.mp z))]
theorem Jo{c:Prop}{_:Decidable c}{A B G:Prop}{p:Tg A}{q:Tg B}(g:G)(ha:G->A)(hb:G->B):if c then hd A p else hd B q:=by
 by_cases h:c
 ·rw[gj h];exact ha g
 ·rw[ey h];exact hb g
theorem lj(n:Nat)(h:de (n+1) ds U Qd):gr n ‹Qd› (ao ["_law_thing","_law_many","_law_deep","_law_word","_law_size","_law_parts","_law_counts"] ds) U:=by
 obtain⟨t,m,deep,rfl,hn,hs,q⟩:=h
 unfold gr
 cases deep with
 |zero=>
  walk_at "rl"
  exact q U fun _ _ e=>e
 |succ k=>
  have q0:dS m t=none->Qd (.v (.int 0)) U:=fun z=>by
   have:=q U fun _ _ e=>e
   rw[cnt_none z] at this
   exact this
  have kn:k<n:=by omega
  have tail0:∀{w s:D} {r6:Option D},dS m t=none->ba n ‹Qd› [some (.v t),some (.v (.int m)),some (.v (.int ((k+1:Nat):Int))),some w,some s,some (.v (.list [])),r6] U:=fun {w s r6} z=>
   oj kn (fun _ z=>(nomatch z)) (by simp) fun Y h=>by
    have:=q Y h
    rw[cnt_none z] at this
    exact this
  have tail1:∀{w s:D} {r6:Option D} {ps:List PyData},dS m t=some ps->ps≠[]->ba n ‹Qd› [some (.v t),some (.v (.int m)),some (.v (.int ((k+1:Nat):Int))),some w,some s,some (.v (.list ps)),r6] U:=fun {w s r6 ps} z hne=>
   oj kn (rQ z hs).1 (rQ z hs).2 fun Y h=>by
    have:=q Y h
    rw[HN z hne] at this
    exact this
  rcases jj t with ⟨xs,rfl,e⟩|⟨hn',e⟩
  ·have hw:=hs.mem
   rcases xs with _|⟨w,_|⟨x,_|⟨y,r⟩⟩⟩
   ·walk_at "rl";exact q0 rfl
   ·walk_at "rl";exact q0 rfl
   ·have sw:=hw w (by simp)
    walk_at "rl"
    simp only[aw sw.shaped bJ,false_xor]
    have f0:dS m (.tuple [w,x])=bu m w x:=rfl
    have eany:([PyData.str "upon",.str "beside"].any fun b=>PyData.eqv b w)=(ay "upon" w || ay "beside" w):=by simp only[List.any_cons,List.any_nil,vb,Bool.or_false]
    cases e1:ay "kind" w with
    |true=>
     walk_at "rl"
     have f1:bu m w x=if (isWhole x&&(decide (0<=intD x)&&decide (intD x<m)))=true then some [] else none:=by unfold bu;rw[if_pos e1]
     have qk:=q U fun _ _ e=>e
     refine⟨x,rfl,?_⟩
     cases ex:isWhole x with
     |true=>
      obtain⟨i,rfl⟩:=gF ex
      have f2:bu m w (.int i)=if (decide (0<=i)&&decide (i<m))=true then some [] else none:=f1
      walk_at "rl"
      by_cases c1:0<=i
      ·rw[decide_eq_true c1] at f2 ⊢
       simp only[Bool.true_and] at f2
       walk_at "rl"
       by_cases c2:i<m
       ·rw[decide_eq_true c2] at f2 ⊢
        rw[ik (f0.trans f2)] at qk
        exact qk
       ·rw[decide_eq_false c2] at f2 ⊢
        exact q0 (f0.trans f2)
      ·rw[decide_eq_false c1] at f2 ⊢
       simp only[Bool.false_and,false_eq_true,↓reduceIte] at f2
       walk_at "rl"
       exact q0 (f0.trans f2)
     |false=>
      walk_at "rl"
      exact q0 (by rw[f0,f1,ex];rfl)
    |false=>
     walk_at "rl"
     simp only[aw sw.shaped cb,false_xor]
     cases e2:ay "turn" w with
     |true=>
      walk_at "rl"
      exact tail1 (by rw[f0];unfold bu;rw[if_neg (by rw[e1];decide),if_pos e2]) (by simp)
     |false=>
      walk_at "rl"
      refine⟨Ca,sw.lay,sw.dep,?_⟩
      rw[eany]
      have f3:bu m w x=if (ay "upon" w || ay "beside" w)=true then l9 x else none:=by
       unfold bu
       rw[if_neg (by rw[e1];decide),if_neg (by rw[e2];decide)]
       unfold l9
       cases x<;>rfl
      cases e3:(ay "upon" w || ay "beside" w) with
      |true=>
       rw[e3] at f3
       simp only[↓reduceIte] at f3
       walk_at "rl"
       rcases jj x with ⟨xs,rfl,et⟩|⟨hx,et⟩
       ·rw[et]
        walk_at "rl"
        have f4:bu m w (.tuple xs)=if 2<=xs.length/\xs.length<=8 then some xs else none:=f3
        by_cases c1:2<=xs.length
        ·rw[decide_eq_true (by omega:(2:Int)<=(xs.length:Nat))]
         walk_at "rl"
         by_cases c2:xs.length<=8
         ·rw[decide_eq_true (by omega:((xs.length:Nat):Int)<=8)]
          walk_at "rl"
          exact tail1 (by rw[f0,f4,if_pos ⟨c1,c2⟩]) (fun z=>by rw[z] at c1;simp at c1)
         ·rw[decide_eq_false (by omega:¬ ((xs.length:Nat):Int)<=8)]
          walk_at "rl"
          exact tail0 (by rw[f0,f4,if_neg (fun z=>c2 z.2)])
        ·rw[decide_eq_false (by omega:¬ (2:Int)<=(xs.length:Nat))]
         walk_at "rl"
         exact tail0 (by rw[f0,f4,if_neg (fun z=>c1 z.1)])
       ·rw[et]
        walk_at "rl"
        have fn:dS m (.tuple [w,x])=none:=by rw[f0,f3];cases x<;>first|rfl|exact absurd rfl (hx _)
        simp only[aw sw.shaped bh,false_xor]
        cases ay "grid" w<;>walk_at "rl"<;>exact tail0 fn
      |false=>
       rw[e3] at f3
       simp only[false_eq_true,↓reduceIte] at f3
       walk_at "rl"
       simp only[aw sw.shaped bh,false_xor]
       cases ay "grid" w<;>walk_at "rl"<;>exact tail0 (f0.trans f3)
   ·by_cases hr:r.length=1
    ·obtain⟨z,rfl⟩:=List.length_eq_one_iff.mp hr
     have sw:=hw w (by simp)
     walk_at "rl"
     have f0:dS m (.tuple [w,x,y,z])=fq w x y z:=rfl
     cases eg:ay "grid" w with
     |true=>
      have ew:=gJ eg
      subst ew
      have f1:fq (.str "grid") x y z=if ((isWhole x&&decide (1<=intD x))&&(isWhole y&&decide (1<=intD y)))=true then some [z] else none:=by unfold fq;rw[if_pos oV]
      have eany:([PyData.str "upon",.str "beside"].any fun b=>PyData.eqv b (.str "grid"))=false:=by simp only[List.any_cons,List.any_nil,vb,IY,KY,Bool.or_false]
      walk_at "rl"
      refine⟨Ca,sw.lay,sw.dep,?_⟩
      rw[eany]
      walk_at "rl"
      rw[fM]
      walk_at "rl"
      have ec:kW [PyData.str "grid",x,y,z] (some 1) (some 3)=[x,y]:=rfl
      rw[ec]
      refine⟨(by show 2<=1000;decide),fun t=>some (.bool (isWhole t&&decide (1<=intD t))),fun t ht Y _=>⟨trivial,t,rfl,?_⟩,?_⟩
      ·cases et:isWhole t with
       |true=>
        obtain⟨i,rfl⟩:=gF et
        walk_at "rl"
        refine⟨trivial,?_⟩
        have:decide (0<i)=decide (1<=i):=by rw[Bool.eq_iff_iff,decide_eq_true_eq,decide_eq_true_eq];omega
        rw[this]
        rfl
       |false=>
        walk_at "rl"
        exact⟨trivial,by rw[et];rfl⟩
      ·rw[d9 (fun t=>PyData.bool (isWhole t&&decide (1<=intD t))),fk]
       simp only[map_cons,map_nil,List.all_cons,List.all_nil,id,Bool.and_true]
       cases ea:((isWhole x&&decide (1<=intD x))&&(isWhole y&&decide (1<=intD y))) with
       |true=>
        rw[ea] at f1
        walk_at "rl"
        exact tail1 (f0.trans f1) (by simp)
       |false=>
        rw[ea] at f1
        walk_at "rl"
        exact tail0 (f0.trans f1)
     |false=>
      have f1:dS m (.tuple [w,x,y,z])=none:=by rw[f0];unfold fq;rw[if_neg (by rw[eg];decide)]
      simp only[aw sw.shaped bJ,false_xor]
      cases ay "kind" w with
      |true=>walk_at "rl";exact q0 f1
      |false=>
       walk_at "rl"
       simp only[aw sw.shaped cb,false_xor]
       cases ay "turn" w<;>walk_at "rl"<;>refine⟨Ca,sw.lay,sw.dep,?_⟩<;>cases (List.any _ _)<;>walk_at "rl"<;>simp only[aw sw.shaped bh,false_xor,eg]<;>walk_at "rl"<;>exact tail0 f1
    ·have sw:=hw w (by simp)
     walk_at "rl"
     have n2:¬ decide (((r.length+1+1+1:Nat):Int)=2)=true:=fun z=>absurd (of_decide_eq_true z) ∅
     have n4:¬ decide (((r.length+1+1+1:Nat):Int)=4)=true:=fun z=>absurd (of_decide_eq_true z) ∅
     have fr:dS m (.tuple (w::x::y::r))=none:=by
      rcases r with _|⟨a,_|⟨b,r⟩⟩
      ·rfl
      ·exact absurd rfl hr
      ·rfl
     rw[ey fun z=>absurd (of_decide_eq_true z) ∅]
     walk_at "rl"
     simp only[aw sw.shaped bJ,false_xor]
     cases ay "kind" w with
     |true=>
      walk_at "rl"
      rw[ey n2]
      walk_at "rl"
      exact q0 fr
     |false=>
      walk_at "rl"
      simp only[aw sw.shaped cb,false_xor]
      refine Jo (G:=?G) ?g (fun g=>?a) (fun g=>?b)
      case a=>walk_at "rl";rw[ey n2];walk_at "rl";exact g
      case b=>walk_at "rl";exact g
      refine⟨Ca,sw.lay,sw.dep,?_⟩
      refine Jo (G:=?G2) ?g2 (fun g=>?a2) (fun g=>?b2)
      case a2=>walk_at "rl";rw[ey n2];walk_at "rl";simp only[aw sw.shaped bh,false_xor];exact g
      case b2=>walk_at "rl";simp only[aw sw.shaped bh,false_xor];exact g
      cases ay "grid" w<;>walk_at "rl"<;>(try (rw[ey n4];walk_at "rl"))<;>exact tail0 fr
  ·walk_at "rl"
   rw[e]
   walk_at "rl"
   exact q0 (by cases t<;>first|rfl|exact absurd rfl (hn' _))
theorem kx(h:pK ds U Qd):fi ‹Qd› (ao ["_law_bag_here"] ds) U:=by
 obtain⟨a,rfl,hb,q⟩:=h
 unfold fi
 walk_at "rt"
 refine⟨⟨⋯,⋯,⋯⟩,a,8,rfl,⋯,⋯,hb,fun r ac r0 r1 s1=>?_⟩
 have e6:(10:Int) ^ Int.toNat 6=1000000:=by decide
 rw[e6]
 obtain⟨_,e1,w,rfl,w0,w1⟩:=pick (P:=fun v=>∃w:Int,v = .int w/\1<=w/\w<=1000000) (xs:=[.int 2,.int 3,.int 5,.int 3,.int 2,.int 9,.int 4,.int 1000000]) r0 (by exact r1) (by
  intro v hv
  simp only[mem_cons,not_mem_nil,or_false] at hv
  rcases hv with rfl|rfl|rfl|rfl|rfl|rfl|rfl|rfl<;>exact⟨_,rfl,⋯,⋯⟩)
 walk_at "rt"
 rw[e1]
 refine⟨a,w,rfl,∅,∅,s1.1,fun u ad u0 u1 s2=>?_⟩
 walk_at "rt"
 exact q _ ad ∅ ∅ (s1.trans s2)
end
inductive IsP(m:Int):Nat->Nat->PyData->Prop
 |kind (i:Int):0<=i->i<m->IsP m 1 1 (.tuple [.str "kind",.int i])
 |turn {d c:Nat} {t:PyData}:IsP m d c t->IsP m (d+1) (c+1) (.tuple [.str "turn",t])
 |grid {d c:Nat} {t:PyData} (u v:Int):1<=u->1<=v->u<=1000000->v<=1000000->IsP m d c t->IsP m (d+1) (c+1) (.tuple [.str "grid",.int u,.int v,t])
 |upon {d:Nat} (es:List (Nat×Nat×PyData)):2<=es.length->es.length<=8->(∀e∈es,e.1<=d)->(∀e∈es,IsP m e.1 e.2.1 e.2.2)->IsP m (d+1) ((es.map (·.2.1)).sum+1) (.tuple [.str "upon",.tuple (es.map (·.2.2))])
 |beside {d:Nat} (es:List (Nat×Nat×PyData)):2<=es.length->es.length<=8->(∀e∈es,e.1<=d)->(∀e∈es,IsP m e.1 e.2.1 e.2.2)->IsP m (d+1) ((es.map (·.2.1)).sum+1) (.tuple [.str "beside",.tuple (es.map (·.2.2))])
structure Lt(n:Nat)(t:PyData):Prop where
 lay:t.canLay0=true
 dep:t.depth<=n
theorem Lt.sh{n:Nat}{t:PyData}(h:Lt n t)(hn:n<=60):Sh t:=⟨h.lay,le_trans h.dep hn⟩
theorem Lt.mono{n k:Nat}{t:PyData}(h:Lt n t)(hn:n<=k):Lt k t:=⟨h.lay,le_trans h.dep hn⟩
theorem C9{xs:List PyData}(h:∀x∈xs,x.canLay0=true):PyData.canLayAll0 xs=true:=by
 induction xs with
 |nil=>rfl
 |cons x r ih=>rw[PyData.canLayAll0,h x (by simp),ih (fun y hy=>h y (by simp[hy]))];rfl
theorem yD{xs:List PyData}{n:Nat}(h:∀x∈xs,x.depth<=n):PyData.depthAll xs<=n:=by
 induction xs with
 |nil=>exact zero_le _
 |cons x r ih=>
  rw[PyData.depthAll]
  have h1:=h x (by simp)
  have h2:=ih (fun y hy=>h y (by simp[hy]))
  omega
theorem eR{xs:List PyData}{n:Nat}(h:∀x∈xs,Lt n x):Lt (n+1) (.tuple xs):=
 ⟨by rw[PyData.canLay0];exact C9 fun x hx=>(h x hx).lay,by rw[PyData.depth];have:=yD (n:=n) fun x hx=>(h x hx).dep;omega⟩
theorem lt_int{n:Nat}{i:Int}:Lt n (.int i):=⟨rfl,zero_le _⟩
theorem LY{n:Nat}:Lt n (.str "kind"):=⟨nofun,zero_le _⟩
theorem L6{n:Nat}:Lt n (.str "turn"):=⟨nofun,zero_le _⟩
theorem LW{n:Nat}:Lt n (.str "grid"):=⟨nofun,zero_le _⟩
theorem LF{n:Nat}:Lt n (.str "upon"):=⟨nofun,zero_le _⟩
theorem LG{n:Nat}:Lt n (.str "beside"):=⟨nofun,zero_le _⟩
theorem all2{P:PyData->Prop}{a b:PyData}(ha:P a)(hb:P b):∀x∈[a,b],P x:=fun x hx=>by
 simp only[mem_cons,not_mem_nil,or_false] at hx
 rcases hx with rfl|rfl<;>assumption
theorem Lf{P:PyData->Prop}{a b c d:PyData}(ha:P a)(hb:P b)(hc:P c)(hd:P d):∀x∈[a,b,c,d],P x:=fun x hx=>by
 simp only[mem_cons,not_mem_nil,or_false] at hx
 rcases hx with rfl|rfl|rfl|rfl<;>assumption
theorem IsP.pos{m:Int}{d c:Nat}{t:PyData}(h:IsP m d c t):1<=d/\1<=c:=by cases h<;>exact⟨∅,∅⟩
theorem IsP.lt{m:Int}{d c:Nat}{t:PyData}(h:IsP m d c t):Lt (2*d) t:=by
 induction h with
 |kind i h0 h1=>exact (eR (n:=0) (all2 LY lt_int)).mono ∅
 |turn _ ih=>exact (eR (all2 L6 ih)).mono ∅
 |grid u v _ _ _ _ _ ih=>exact (eR (Lf LW lt_int lt_int ih)).mono ∅
 |@upon d es _ _ hd _ ih=>exact (eR (all2 LF (eR (n:=2*d) fun x hx=>by obtain⟨e,he,rfl⟩:=List.mem_map.mp hx;exact (ih e he).mono (by have:=hd e he;omega)))).mono ∅
 |@beside d es _ _ hd _ ih=>exact (eR (all2 LG (eR (n:=2*d) fun x hx=>by obtain⟨e,he,rfl⟩:=List.mem_map.mp hx;exact (ih e he).mono (by have:=hd e he;omega)))).mono ∅
theorem eo{m:Int}{w:Str}{xs:List PyData}(hw:w = "upon"\/w = "beside")(h2:2<=xs.length)(h8:xs.length<=8):dS m (.tuple [.str w,.tuple xs])=some xs:=by
 rcases hw with rfl|rfl
 ·show bu m (.str "upon") (.tuple xs)=_
  rw[xT]
  show (if 2<=xs.length/\xs.length<=8 then some xs else none)=some xs
  rw[if_pos ⟨h2,h8⟩]
 ·show bu m (.str "beside") (.tuple xs)=_
  rw[qy]
  show (if 2<=xs.length/\xs.length<=8 then some xs else none)=some xs
  rw[if_pos ⟨h2,h8⟩]
theorem jX{m:Int}{n:Nat}{t:PyData}{es:List (Nat×Nat×PyData)}(hf:dS m t=some (es.map (·.2.2)))(h:∀e∈es,cnt m n e.2.2=e.2.1/\1<=e.2.1):cnt m (n+1) t=(es.map (·.2.1)).sum+1:=by
 have e1:(es.map (·.2.2)).map (cnt m n)=es.map (·.2.1):=by rw[map_map];exact map_congr_left fun e he=>(h e he).1
 rw[ik hf,e1,if_pos,Nat.add_comm]
 rw[all_eq_true]
 intro x hx
 obtain⟨e,he,rfl⟩:=List.mem_map.mp hx
 exact decide_eq_true (h e he).2
theorem IsP.cnt{m:Int}{d c:Nat}{t:PyData}(h:IsP m d c t):∀n,d<=n->cnt m n t=c:=by
 induction h with
 |kind i h0 h1=>
  intro n hn
  obtain⟨k,rfl⟩:∃k,n=k+1:=⟨n-1,∅⟩
  have hf:dS m (.tuple [.str "kind",.int i])=some []:=by
   show bu m (.str "kind") (.int i)=_
   unfold bu
   rw[if_pos uY,if_pos]
   show (true&&(decide (0<=i)&&decide (i<m)))=true
   rw[decide_eq_true h0,decide_eq_true h1];rfl
  rw[ik hf];rfl
 |@turn d c t hh ih=>
  intro n hn
  obtain⟨k,rfl⟩:∃k,n=k+1:=⟨n-1,∅⟩
  have hf:dS m (.tuple [.str "turn",t])=some [t]:=by
   show bu m (.str "turn") t=_
   unfold bu
   rw[if_neg (by rw[qc];decide),if_pos tJ]
  have:=jX (n:=k) (es:=[(d,c,t)]) hf fun e he=>by rw[List.mem_singleton.mp he];exact⟨ih k ∅,hh.pos.2⟩
  exact this
 |@grid d c t u v hu hv _ _ hh ih=>
  intro n hn
  obtain⟨k,rfl⟩:∃k,n=k+1:=⟨n-1,∅⟩
  have hf:dS m (.tuple [.str "grid",.int u,.int v,t])=some [t]:=by
   show fq (.str "grid") (.int u) (.int v) t=_
   unfold fq
   rw[if_pos oV,if_pos]
   show ((true&&decide (1<=u))&&(true&&decide (1<=v)))=true
   rw[decide_eq_true hu,decide_eq_true hv];rfl
  have:=jX (n:=k) (es:=[(d,c,t)]) hf fun e he=>by rw[List.mem_singleton.mp he];exact⟨ih k ∅,hh.pos.2⟩
  exact this
 |upon es h2 h8 hd hh ih=>
  intro n hn
  obtain⟨k,rfl⟩:∃k,n=k+1:=⟨n-1,∅⟩
  exact jX (eo (.inl rfl) (by simpa using h2) (by simpa using h8)) fun e he=>⟨ih e he k (by have:=hd e he;omega),(hh e he).pos.2⟩
 |beside es h2 h8 hd hh ih=>
  intro n hn
  obtain⟨k,rfl⟩:∃k,n=k+1:=⟨n-1,∅⟩
  exact jX (eo (.inr rfl) (by simpa using h2) (by simpa using h8)) fun e he=>⟨ih e he k (by have:=hd e he;omega),(hh e he).pos.2⟩
noncomputable def gp(a:Addr)(U Y:Mu):Prop:=Bag Y a/\∀b,b≠a->∀ds,U b=some ds->Y b=some ds
theorem gp.trans{a:Addr}{U ac ad:Mu}(h:gp a U ac)(g:gp a ac ad):gp a U ad:=⟨g.1,fun b n ds e=>g.2 b n ds (h.2 b n ds e)⟩
theorem Step.w{a:Addr}{U Y:Mu}(h:Step a U Y):gp a U Y:=⟨h.1,fun b n ds e=>by rw[h.2 b n];exact e⟩
theorem gp.of{a:Addr}{U Y:Mu}(hb:Bag U a)(h:∀b ds,U b=some ds->Y b=some ds):gp a U Y:=⟨by obtain⟨g,m,e,z⟩:=hb;exact⟨g,m,h _ _ e,z⟩,fun b _ ds e=>h b ds e⟩
noncomputable def nB:DSp:=fun ds U Q=>∃(a:Addr) (m:Int),ds=[.m a,.v (.int m)]/\1<=m/\m<=3/\Bag U a/\∀d c t Y,IsP m d c t->d<=12->c<=60->gp a U Y->Q (.v t) Y
theorem vc{U:Mu}{Q:DK}{ds:List D}(h:nB ds U Q):ds.length=2:=by obtain⟨_,_,rfl,_⟩:=h;rfl
noncomputable abbrev E3:=Nat×Nat×PyData
noncomputable def eP(e:E3):PyData:=.tuple [.int (e.1:Nat),.int (e.2.1:Nat),e.2.2]
noncomputable def Gd(m:Int)(e:E3):Prop:=IsP m e.1 e.2.1 e.2.2/\e.1<=12/\e.2.1<=60
structure Pl(a l:Addr)(m:Int)(dl U:Mu)(es:List E3):Prop where
 ne:l≠a
 bag:Bag U a
 at_:U l=some (es.map eP)
 gd:∀e∈es,Gd m e
 kept:∀b,b≠a->b≠l->∀ds,dl b=some ds->U b=some ds
local macro_rules|`(tactic| walk_at "ru")=>mkW "↓u5 ↓j9 aT xV xB Df xm xh xl xA xN CV Ei CM Cw B8 D7 xa Dx Cb sj Dc decide_true decide_false xor_true true_xor ↓gC ↓nS ↓nN ↓nH ↓w5 ↓tq ↓xk ↓xp ↓cm ↓cw ↓cG ↓dY ↓fO ↓jc ↓i9 ↓iw ↓iJ ↓iy ↓fv ↓q_c ↓zz ↓q_B ↓ur ↓mK ↓mX ↓lR ↓t5 ↓iN ↓oi ↓jf ↓Af ↓cO ↓bI ↓kX ↓j7 ↓jd ↓km ↓k9 ↓kQ ↓mz ↓l4 ↓mB ↓mq ↓eK ↓iS ↓iD ↓gB ↓fQ ↓gU ↓iP ↓hV ↓gn ↓mT ↓mV ↓mY ↓i6 ↓i5 ↓ij ↓sV ↓cW ↓gE ↓mG ↓wj ↓gK ↓iG ↓iI ↓gM ↓l7 ↓u9 ↓iT ↓fj ↓mI ↓mx ↓a8 ↓gH ↓d8 ↓gI ↓jb ↓qw ↓mi ↓iF ↓hJ ↓kK ↓i7 ↓qT ↓fF ↓dq ↓mM ↓mj ↓b9 ↓cN ↓fJ ↓cX ↓dE ↓dJ ↓dF fX b0 bU dz dG d7 bind_none bind_some join_some getElem?_cons_zero getElem?_cons_succ ao qL lP lS lF fz ia i4 jw kJ List.append List.replicate length_cons length_nil Nat.reduceAdd Nat.reduceSub nil_append cons_append set_cons_zero set_cons_succ map_some ↓reduceIte Bool.not_true Bool.not_false false_eq_true true_eq_false xor_false false_xor"
noncomputable def cS:DTS:=
 (ak (az (dCB cQ (aa (aP [none,none,none] (aZ (ae 11)) (cj 3 (aA (af 0) (aA (af 1) (aA (af 2) bY)))) aW (ae 2)) ag)) (af 12))
 (ak (az (aP [none,none,none] (aZ (ae 11)) (cj 3 (aA (af 0) (aA (af 1) (aA (af 2) bY)))) aW (ae 1)) (af 13))
 (ak (az (cM (dC (.int 1)) (dCB tU (aa (aP [none,none,none] (aZ (ae 11)) (cj 3 (aA (af 0) (aA (af 1) (aA (af 2) bY)))) aW (ae 0)) ag))) (af 14))
 (az (aO (aa (ae 14) (aa (cM (dC (.int 1)) (dCB mQ (aa (ae 13) ag))) (aa (aO (aa (dOp ai (cL (aa (dC (.str "upon")) (aa (dC (.str "beside")) ag))) (jr (ae 8) (dC (.int 2)))) (aa (ae 12) ag))) ag)))) (af 9)))))
noncomputable def fe:DTS:=
 (ak (az (dCB (vf min) (aa (dCB a0 (aa (ae 3) ag)) (aa (cM (dC (.int 1)) (ah aQ (aa (ae 0) (aa (dOp ai (cL (aa (dC (.int 1)) (aa (dC (.int 1)) (aa (dC (.int 2)) (aa (dC (.int 7)) ag))))) (ah aQ (aa (ae 0) (aa (dC (.int 4)) ag)))) ag)))) ag))) (af 10))
 (ak (az (dOp iR (cL (aa (aO (aa (ae 5) (aa (ae 6) (aa (ae 7) ag)))) ag)) (aP [none,some 3,some 0] (dj (aa (ae 10) ag)) (af 0) aW (lu (ae 1) (ah aQ (aa (ae 2) (aa (dCB a0 (aa (ae 1) ag)) ag)))))) (af 11))
 (ak (aL (dB (dOp (aJ false) (dCB a0 (aa (ae 11) ag)) (dC (.int 1)))) (az (dOp iR (ae 11) (ae 11)) (af 11)) aF)
 (cS))))
noncomputable def cR:DTS:=
 (ak (aL (gQ (dB (dOp rGt (dOp ai (ae 9) (dC (.int 0))) (dC (.int 12)))) (dB (dOp rGt (dOp ai (ae 9) (dC (.int 1))) (dC (.int 60))))) (aC (ae 7)) aF)
 (ak (cA (nk (ae 3) (ae 9)))
 (aL (gk (dB (dOp (aJ false) (dCB a0 (aa (ae 3) ag)) (dC (.int 1)))) (dB (dOp (aJ false) (ah aQ (aa (ae 0) (aa (dC (.int 3)) ag))) (dC (.int 0))))) (aC (dOp ai (ae 9) (dC (.int 2)))) aF)))
noncomputable def eV:DTS:=
 (ak (gA (dj (aa (dC (.int 30)) ag)) (af 4) (ak (az (lu (ae 3) (ah aQ (aa (ae 0) (aa (dCB a0 (aa (ae 3) ag)) ag)))) (cj 3 (aA (af 5) (aA (af 6) (aA (af 7) bY)))))
 (ak (az (ah aQ (aa (ae 0) (aa (dC (.int 6)) ag))) (af 8))
 (ak (aL (dB (dOp (aJ false) (ae 8) (dC (.int 0)))) (az (aO (aa (cM (ae 5) (dC (.int 1))) (aa (cM (ae 6) (dC (.int 1))) (aa (aO (aa (dC (.str "turn")) (aa (ae 7) ag))) ag)))) (af 9)) (aL (dB (dOp (aJ false) (ae 8) (dC (.int 1)))) (az (aO (aa (cM (ae 5) (dC (.int 1))) (aa (cM (ae 6) (dC (.int 1))) (aa (aO (aa (dC (.str "grid")) (aa (ah pK (aa (ae 0) ag)) (aa (ah pK (aa (ae 0) ag)) (aa (ae 7) ag))))) ag)))) (af 9)) (fe)))
 (cR)))))
 (aC (dOp ai (dOp ai (ae 3) (dC (.int 0))) (dC (.int 2)))))
noncomputable def kY:DTS:=
 (ak (az (cM (dC (.int 1)) (ah aQ (aa (ae 0) (aa (dOp ai (cL (aa (dC (.int 2)) (aa (dC (.int 4)) (aa (dC (.int 12)) ag)))) (ah aQ (aa (ae 0) (aa (dC (.int 3)) ag)))) ag)))) (af 2))
 (ak (az (pj [none,some 0,some 1] (dj (aa (ae 2) ag)) (af 0) aW (aO (aa (dC (.int 1)) (aa (dC (.int 1)) (aa (aO (aa (dC (.str "kind")) (aa (ah aQ (aa (ae 1) (aa (ae 2) ag))) ag))) ag))))) (af 3))
 (eV)))
section
variable {U dl:Mu}{Qd:DK}{ds:List D}{a l:Addr}{m:Int}{es:List E3}{ρ:Rho}{i j:Nat}
theorem Gs{d:D}(h:ρ[i]? = some (some d)):ae i ρ U Qd=Qd d U:=by unfold ae;rw[h]
theorem zL{α β:Type}(f:α->β):∀(xs:List α) (i:Nat),(xs.map f).eraseIdx i=(xs.eraseIdx i).map f
 |[],_=>rfl
 |_::_,0=>rfl
 |x::r,i+1=>by simp only[map_cons,List.eraseIdx_cons_succ,zL f r i]
theorem Pl.step{Y:Mu}(h:Pl a l m dl U es)(s:Step a U Y):Pl a l m dl Y es:=⟨h.ne,s.1,by rw[s.2 l h.ne];exact h.at_,h.gd,fun b n1 n2 ds e=>by rw[s.2 b n1];exact h.kept b n1 n2 ds e⟩
theorem Bag.set{x:List PyData}(h:Bag U a)(n:l≠a):Bag (aE U l x) a:=by
 obtain⟨g,k,e,z⟩:=h
 exact⟨g,k,by rw[au (Ne.symm n)];exact e,z⟩
theorem Pl.set{fs:List E3}(h:Pl a l m dl U es)(g:∀e∈fs,Gd m e):Pl a l m dl (aE U l (fs.map eP)) fs:=
 ⟨h.ne,h.bag.set h.ne,aq,g,fun b n1 n2 ds e=>by rw[au n2];exact h.kept b n1 n2 ds e⟩
theorem Pl.off{p:Addr}{x:List PyData}(h:Pl a l m dl U es)(pa:p≠a)(pl:p≠l)(p0:dl p=none):Pl a l m dl (aE U p x) es:=
 ⟨h.ne,h.bag.set pa,by rw[au (Ne.symm pl)];exact h.at_,h.gd,fun b n1 n2 ds e=>by
  have hb:b≠p:=fun z=>by rw[z,p0] at e;cases e
  rw[au hb];exact h.kept b n1 n2 ds e⟩
theorem Pl.del{p:Addr}(h:Pl a l m dl U es)(pa:p≠a)(pl:p≠l)(p0:dl p=none):Pl a l m dl (eI U p) es:=
 ⟨h.ne,by obtain⟨g,k,e,z⟩:=h.bag;exact⟨g,k,by rw[bV (Ne.symm pa)];exact e,z⟩,by rw[bV (Ne.symm pl)];exact h.at_,h.gd,fun b n1 n2 ds e=>by
  have hb:b≠p:=fun z=>by rw[z,p0] at e;cases e
  rw[bV hb];exact h.kept b n1 n2 ds e⟩
theorem Pl.fresh{p:Addr}(h:Pl a l m dl U es)(hp:U p=none):p≠a/\p≠l/\dl p=none:=by
 have h1:p≠a:=fun z=>by obtain⟨g,k,e,_⟩:=h.bag;rw[z,e] at hp;cases hp
 have h2:p≠l:=fun z=>by rw[z,h.at_] at hp;cases hp
 refine⟨h1,h2,?_⟩
 cases e:dl p with
 |none=>rfl
 |some ds=>rw[h.kept p h1 h2 ds e] at hp;cases hp
theorem Pl.w(h:Pl a l m dl U es)(hl:dl l=none):gp a dl U:=⟨h.bag,fun b n ds e=>h.kept b n (fun z=>by rw[z,hl] at e;cases e) ds e⟩
theorem w9(h:Pl a l m dl U es)(h1:1<=es.length)(h2:es.length<=100)(hi:ρ[i]? = some (some (.m l)))(hj:ρ[j]? = some (some (.m a)))
  (q:∀(e:E3) (fs:List E3) (Y:Mu),Gd m e->fs.length+1=es.length->Pl a l m dl Y fs->(∀b,b≠a->b≠l->Y b=U b)->Qd (.v (eP e)) Y) :
  lu (ae i) (ah aQ (aa (ae j) (aa (dCB a0 (aa (ae i) ag)) ag))) ρ U Qd:=by
 simp only[x9,dq,bI,cO,wj,Gs hi,Gs hj,gM,h.at_,length_map]
 refine⟨a,_,rfl,∅,∅,h.bag,fun r ac r0 r1 s1=>?_⟩
 have h':=h.step s1
 simp only[h'.at_]
 obtain⟨k,rfl⟩:∃k:Nat,r=k:=⟨r.toNat,∅⟩
 have hk:k<es.length:=by omega
 refine⟨⟨∅,∅⟩,eP es[k],by simp[hk],?_⟩
 rw[zL]
 have hs:=h'.set (fs:=es.eraseIdx k) fun e he=>h.gd e (List.mem_of_mem_eraseIdx he)
 refine q es[k] _ _ (h.gd _ (getElem_mem hk)) (by rw[List.length_eraseIdx_of_lt hk];omega) hs fun b n1 n2=>?_
 rw[au n2,s1.2 b n1]
theorem Lh{k:Nat}(h:Pl a l m dl U es)(hk:k<=es.length)(h2:es.length<=100)(h3:ρ[3]? = some (some (.m l)))(h0:ρ[0]? = some (some (.m a)))(h10:ρ[10]? = some (some (.v (.int (k:Nat)))))
  (q:∀(gs fs:List E3) (Y:Mu),(∀e∈gs,Gd m e)->gs.length=k->fs.length<=es.length->Pl a l m dl Y fs->Qd (.v (.list (gs.map eP))) Y) :
  aP [none,some 3,some 0] (dj (aa (ae 10) ag)) (af 0) aW (lu (ae 1) (ah aQ (aa (ae 2) (aa (dCB a0 (aa (ae 1) ag)) ag)))) ρ U Qd:=by
 rw[bF]
 simp only[cX,bI,cO,Gs h10]
 refine⟨⟨∅,∅⟩,by rw[eT];omega,fun p hp=>?_⟩
 obtain⟨pa,pl,p0⟩:=h.fresh hp
 refine⟨fun i acc Y=>∃gs fs:List E3,acc=gs.map eP/\gs.length=i/\fs.length+i=es.length/\(∀e∈gs,Gd m e)/\Pl a l m dl Y fs,⟨[],es,rfl,rfl,rfl,(fun _ z=>nomatch z),h.off pa pl p0⟩,?_,?_⟩
 ·rintro i x acc Y hx hacc ⟨gs,fs,rfl,hg,hf,gd,hP⟩
  obtain⟨rfl,hi⟩:=oD hx
  simp only[a8,bU,b0,h3,h0,bind_some,bind_none,join_some,set_cons_zero,b9,↓reduceIte,dG,d7,dz,true_and,and_true]
  refine w9 hP ∅ ∅ rfl rfl fun e fs' ac he hl P1 kp=>?_
  refine⟨by rw[kp p pa pl];exact hacc,gs++[e],fs',by simp,by simp[hg],∅,fun e' he'=>?_,P1.off pa pl p0⟩
  rcases List.mem_append.mp he' with z|z
  ·exact gd e' z
  ·rw[List.mem_singleton.mp z];exact he
 ·rintro acc Y ⟨gs,fs,rfl,hg,hf,gd,hP⟩ hacc
  rw[eT] at hg hf
  exact q gs fs _ gd ∅ ∅ (hP.del pa pl p0)
theorem B1{k:Nat}{f:E3->PyData}{te:DTE}(hs:∀Q,te ρ U Q=Q (.v (.list (es.map eP))) U)(hl:es.length<=100)(hf:∀(e:E3) (Y:Mu) (Q:DK),ae k [some (.v (.int (e.1:Nat))),some (.v (.int (e.2.1:Nat))),some (.v e.2.2)] Y Q=Q (.v (f e)) Y)
  (q:Qd (.v (.list (es.map f))) U):aP [none,none,none] (aZ te) (cj 3 (aA (af 0) (aA (af 1) (aA (af 2) bY)))) aW (ae k) ρ U Qd:=by
 rw[bF,cN,hs]
 refine⟨by rw[length_map];omega,fun p hp=>⟨fun i acc Y=>acc=(es.take i).map f/\Y=aE U p acc,⟨by simp,rfl⟩,?_,?_⟩⟩
 ·rintro i x acc Y hx hacc ⟨rfl,rfl⟩
  rw[getElem?_map] at hx
  obtain⟨e,he,rfl⟩:∃e,es[i]? = some e/\eP e=x:=by
   cases z:es[i]? with
   |none=>rw[z] at hx;cases hx
   |some e=>rw[z] at hx;exact⟨e,rfl,by simpa using hx⟩
  unfold eP
  simp only[gI,d8,gH,a8,bU,b0,bind_none,set_cons_zero,set_cons_succ,b9,↓reduceIte,dG,dz,true_and,hf,length_cons,length_nil]
  refine⟨hacc,?_,?_⟩
  ·rw[take_succ,he];simp
  ·rw[bL]
 ·rintro acc Y ⟨rfl,rfl⟩ hacc
  rw[cf hp,length_map,take_length]
  exact q
theorem ou(es:List E3)(f:E3->Nat):aT (es.map fun e=>PyData.int (f e:Nat))=some (es.map fun e=>((f e:Nat):Int)):=by
 induction es with
 |nil=>rfl
 |cons c r ih=>simp only[map_cons,aT,ih,map_some]
theorem Dv(es:List E3):(es.map fun e=>((e.2.1:Nat):Int)).sum=(((es.map (·.2.1)).sum:Nat):Int):=by
 induction es with
 |nil=>rfl
 |cons c r ih=>simp only[map_cons,sum_cons,ih];omega
theorem yu{r0 r1 r2 r3 r4 r5 r6 r7 r9 r10 r12 r13 r14:Option D}{Dd:gZ}{w:Int}(h2:2<=es.length)(h8:es.length<=8)(gd:∀e∈es,Gd m e)
  (q:∀(e:E3) (s12 s13 s14:Option D),IsP m e.1 e.2.1 e.2.2->Dd.nx [r0,r1,r2,r3,r4,r5,r6,r7,some (.v (.int w)),some (.v (eP e)),r10,some (.v (.list (es.map eP))),s12,s13,s14] U) :
  cS Dd [r0,r1,r2,r3,r4,r5,r6,r7,some (.v (.int w)),r9,r10,some (.v (.list (es.map eP))),r12,r13,r14] U:=by
 unfold cS
 walk_at "rl"
 refine B1 (f:=fun e=>e.2.2) (fun Q=>gC) ∅ (fun e Y Q=>cG) ?_
 walk_at "rl"
 refine B1 (f:=fun e=>.int (e.2.1:Nat)) (fun Q=>gC) ∅ (fun e Y Q=>cw) ?_
 walk_at "rl"
 refine B1 (f:=fun e=>.int (e.1:Nat)) (fun Q=>gC) ∅ (fun e Y Q=>cm) ?_
 walk_at "rl"
 simp only[ou]
 refine⟨by rw[length_map];omega,fun M h1 hM=>?_⟩
 simp only[ou,Dv]
 refine⟨⋯,?_⟩
 obtain⟨e,he,rfl⟩:=List.mem_map.mp h1
 obtain⟨_,e1,ws,rfl,hws⟩:=pick (P:=fun v=>∃w:Str,v = .str w/\(w = "upon"\/w = "beside")) (xs:=[.str "upon",.str "beside"]) (i:=w.fmod 2) (Int.fmod_nonneg_of_pos _ ⋯) (Int.fmod_lt_of_pos _ ⋯) (by
  refine ER ?_ <| ER ?_ <| JH
  ·exact⟨_,rfl,.inl rfl⟩
  ·exact⟨_,rfl,.inr rfl⟩)
 rw[e1]
 walk_at "rl"
 have hd:∀x∈es,x.1<=e.1:=fun x hx=>by have:=hM (x.1:Int) (List.mem_map.mpr ⟨x,hx,rfl⟩);omega
 have hp:∀x∈es,IsP m x.1 x.2.1 x.2.2:=fun x hx=>(gd x hx).1
 have eA:(1:Int)+(e.1:Nat)=((e.1+1:Nat):Int):=by omega
 have eB:(1:Int)+((es.map (·.2.1)).sum:Nat)=(((es.map (·.2.1)).sum+1:Nat):Int):=by omega
 rcases hws with rfl|rfl
 ·have hN:=IsP.upon (d:=e.1) es h2 h8 hd hp
  have:=q (e.1+1,(es.map (·.2.1)).sum+1,_) (some (.v (.tuple (es.map fun e=>e.2.2)))) (some (.v (.list (es.map fun e=>PyData.int (e.2.1:Nat))))) (some (.v (.int ((e.1+1:Nat):Int)))) hN
  rw[eA,eB]
  exact this
 ·have hN:=IsP.beside (d:=e.1) es h2 h8 hd hp
  have:=q (e.1+1,(es.map (·.2.1)).sum+1,_) (some (.v (.tuple (es.map fun e=>e.2.2)))) (some (.v (.list (es.map fun e=>PyData.int (e.2.1:Nat))))) (some (.v (.int ((e.1+1:Nat):Int)))) hN
  rw[eA,eB]
  exact this
theorem y8{r2 r4 r9 r10 r11 r12 r13 r14:Option D}{Dd:gZ}{e0:E3}{w:Int}(h:Pl a l m dl U es)(h2:es.length<=20)(g0:Gd m e0)
  (q:∀(e:E3) (fs:List E3) (Y:Mu) (s10 s11 s12 s13 s14:Option D),IsP m e.1 e.2.1 e.2.2->fs.length<=es.length->Pl a l m dl Y fs->Dd.nx [some (.m a),some (.v (.int m)),r2,some (.m l),r4,some (.v (.int (e0.1:Nat))),some (.v (.int (e0.2.1:Nat))),some (.v e0.2.2),some (.v (.int w)),some (.v (eP e)),s10,s11,s12,s13,s14] Y) :
  fe Dd [some (.m a),some (.v (.int m)),r2,some (.m l),r4,some (.v (.int (e0.1:Nat))),some (.v (.int (e0.2.1:Nat))),some (.v e0.2.2),some (.v (.int w)),r9,r10,r11,r12,r13,r14] U:=by
 unfold fe
 walk_at "rl"
 simp only[h.at_,length_map]
 refine⟨a,4,rfl,⋯,⋯,h.bag,fun r ac r0 r1 s1=>?_⟩
 walk_at "rl"
 obtain⟨_,e1,n,rfl,n1,n7⟩:=pick (P:=fun v=>∃n:Int,v = .int n/\1<=n/\n<=7) (xs:=[.int 1,.int 1,.int 2,.int 7]) r0 (by exact r1) (by
  intro v hv
  simp only[mem_cons,not_mem_nil,or_false] at hv
  rcases hv with rfl|rfl|rfl|rfl<;>exact⟨_,rfl,⋯,⋯⟩)
 rw[e1]
 refine⟨a,n,rfl,n1,∅,s1.1,fun u ad u0 u1 s2=>?_⟩
 walk_at "rl"
 rw[length_map]
 have P2:=(h.step s1).step s2
 obtain⟨k,hk⟩:∃k:Nat,min (es.length:Int) (1+u)=k:=⟨(min (es.length:Int) (1+u)).toNat,∅⟩
 rw[hk]
 have hk7:k<=7/\k<=es.length:=by omega
 refine Lh P2 hk7.2 ∅ rfl rfl rfl fun gs fs bn gg hg hf P3=>?_
 walk_at "rl"
 refine⟨by rw[length_map];omega,?_⟩
 have fin:∀(xs:List E3),2<=xs.length->xs.length<=8->(∀e∈xs,Gd m e)->cS Dd [some (.m a),some (.v (.int m)),r2,some (.m l),r4,some (.v (.int (e0.1:Nat))),some (.v (.int (e0.2.1:Nat))),some (.v e0.2.2),some (.v (.int w)),r9,some (.v (.int (k:Nat))),some (.v (.list (xs.map eP))),r12,r13,r14] bn:=fun xs x2 x8 gx=>
  yu x2 x8 gx fun e s12 s13 s14 he=>q e fs bn _ _ _ _ _ he hf P3
 have g0':∀e∈e0::gs,Gd m e:=fun e he=>by
  rcases List.mem_cons.mp he with z|z
  ·rw[z];exact g0
  ·exact gg e z
 by_cases c:gs.length=0
 ·rw[if_pos (decide_eq_true (by rw[length_map,c];rfl))]
  have:gs=[]:=List.length_eq_zero_iff.mp c
  subst this
  refine⟨by show 2<=1000;decide,fin [e0,e0] (by simp) (by simp) fun e he=>?_⟩
  simp only[mem_cons,not_mem_nil,or_false,or_self] at he
  rw[he];exact g0
 ·rw[if_neg (by rw[decide_eq_true_eq,length_map];omega)]
  exact fin (e0::gs) (by rw[length_cons];omega) (by rw[length_cons];omega) g0'
theorem yN{r2 r4 r5 r6 r8 r10 r11 r12 r13 r14:Option D}{Dd:gZ}{e0 e:E3}(h:Pl a l m dl U es)(h2:es.length<=20)(g0:Gd m e0)(he:IsP m e.1 e.2.1 e.2.2)
  (qr:∀(e:E3) (fs:List E3) (Y:Mu),Gd m e->Pl a l m dl Y fs->Dd.rt (.v e.2.2) Y)
  (qn:∀Y,Pl a l m dl Y (es++[e])->Dd.nx [some (.m a),some (.v (.int m)),r2,some (.m l),r4,r5,r6,some (.v e0.2.2),r8,some (.v (eP e)),r10,r11,r12,r13,r14] Y) :
  cR Dd [some (.m a),some (.v (.int m)),r2,some (.m l),r4,r5,r6,some (.v e0.2.2),r8,some (.v (eP e)),r10,r11,r12,r13,r14] U:=by
 unfold cR
 have ee:eP e = .tuple [.int (e.1:Nat),.int (e.2.1:Nat),e.2.2]:=rfl
 rw[ee] at qn ⊢
 walk_at "rl"
 by_cases c1:(12:Int)<(e.1:Nat)
 ·rw[decide_eq_true c1]
  walk_at "rl"
  exact qr e0 es U g0 h
 ·rw[decide_eq_false c1]
  walk_at "rl"
  by_cases c2:(60:Int)<(e.2.1:Nat)
  ·rw[decide_eq_true c2]
   walk_at "rl"
   exact qr e0 es U g0 h
  ·rw[decide_eq_false c2]
   walk_at "rl"
   simp only[h.at_]
   have ge:Gd m e:=⟨he,∅,∅⟩
   refine⟨by rw[length_map];omega,?_⟩
   have P1:Pl a l m dl (aE U l (es.map eP++[eP e])) (es++[e]):=by
    have:=h.set (fs:=es++[e]) fun x hx=>by
     rcases List.mem_append.mp hx with z|z
     ·exact h.gd x z
     ·rw[List.mem_singleton.mp z];exact ge
    rw[map_append] at this
    exact this
   rw[ee] at P1
   simp only[P1.at_]
   refine En (fun _=>?_) fun _=>?_
   ·walk_at "rl"
    refine⟨a,3,rfl,⋯,⋯,P1.bag,fun r ac r0 r1 s1=>?_⟩
    walk_at "rl"
    refine En (fun _=>?_) fun _=>?_<;>walk_at "rl"
    ·exact qr e _ ac ge (P1.step s1)
    ·exact qn ac (P1.step s1)
   ·walk_at "rl"
    exact qn _ P1
theorem zd{r2 r4 r5 r6 r7 r8 r9 r10 r11 r12 r13 r14:Option D}{Dd:gZ}(h:Pl a l m dl U es)(h1:1<=es.length)(h2:es.length<=20)
  (qr:∀(e:E3) (fs:List E3) (Y:Mu),Gd m e->Pl a l m dl Y fs->Dd.rt (.v e.2.2) Y) :
  eV Dd [some (.m a),some (.v (.int m)),r2,some (.m l),r4,r5,r6,r7,r8,r9,r10,r11,r12,r13,r14] U:=by
 unfold eV
 rw[hJ,d6]
 walk_at "rl"
 refine⟨⋯,fun i ρ Y=>∃(fs:List E3) (s4 s5 s6 s7 s8 s9 s10 s11 s12 s13 s14:Option D),ρ=[some (.m a),some (.v (.int m)),r2,some (.m l),s4,s5,s6,s7,s8,s9,s10,s11,s12,s13,s14]/\Pl a l m dl Y fs/\1<=fs.length/\fs.length<=20,⟨es,_,_,_,_,_,_,_,_,_,_,_,rfl,h,h1,h2⟩,?_,?_⟩
 ·rintro i x ρ ac hx ⟨fs,s4,s5,s6,s7,s8,s9,s10,s11,s12,s13,s14,rfl,P1,l1,l2⟩
  walk_at "rl"
  refine w9 P1 l1 ∅ rfl rfl fun e gs ad ge hl P2 _=>?_
  have ee:eP e = .tuple [.int (e.1:Nat),.int (e.2.1:Nat),e.2.2]:=rfl
  rw[ee]
  walk_at "rl"
  refine⟨trivial,a,6,rfl,⋯,⋯,P2.bag,fun w bn w0 w1 s3=>?_⟩
  have P3:=P2.step s3
  have tail:∀{e':E3} {hs:List E3} {ce:Mu} {t8 t10 t11 t12 t13 t14:Option D},Pl a l m dl ce hs->hs.length<=gs.length->IsP m e'.1 e'.2.1 e'.2.2->cR {nx:=fun ρ Y=>∃(fs:List E3) (s4 s5 s6 s7 s8 s9 s10 s11 s12 s13 s14:Option D),ρ=[some (.m a),some (.v (.int m)),r2,some (.m l),s4,s5,s6,s7,s8,s9,s10,s11,s12,s13,s14]/\Pl a l m dl Y fs/\1<=fs.length/\fs.length<=20,rt:=Dd.rt,bk:=aC (dOp ai (dOp ai (ae 3) (dC (.int 0))) (dC (.int 2))) Dd,ct:=fun ρ Y=>∃(fs:List E3) (s4 s5 s6 s7 s8 s9 s10 s11 s12 s13 s14:Option D),ρ=[some (.m a),some (.v (.int m)),r2,some (.m l),s4,s5,s6,s7,s8,s9,s10,s11,s12,s13,s14]/\Pl a l m dl Y fs/\1<=fs.length/\fs.length<=20}
    [some (.m a),some (.v (.int m)),r2,some (.m l),some (.v x),some (.v (.int (e.1:Nat))),some (.v (.int (e.2.1:Nat))),some (.v e.2.2),t8,some (.v (eP e')),t10,t11,t12,t13,t14] ce:=fun P4 hh he'=>
   yN P4 ∅ ge he' (fun e fs Y g P=>qr e fs Y g P) fun Y P'=>⟨_,_,_,_,_,_,_,_,_,_,_,_,rfl,P',by rw[length_append,List.length_singleton];omega,by rw[length_append,List.length_singleton];omega⟩
  walk_at "rl"
  by_cases c0:w=0
  ·rw[gj (decide_eq_true c0)]
   walk_at "rl"
   exact tail (e':=(e.1+1,e.2.1+1,_)) P3 (le_refl _) (.turn ge.1)
  ·rw[ey (by rw[decide_eq_true_eq];exact c0)]
   walk_at "rl"
   by_cases c1:w=1
   ·rw[gj (decide_eq_true c1)]
    walk_at "rl"
    refine⟨a,rfl,P3.bag,fun g ce g1 g2 s4=>?_⟩
    walk_at "rl"
    refine⟨a,rfl,s4.1,fun g' im g1' g2' s5=>?_⟩
    walk_at "rl"
    exact tail (e':=(e.1+1,e.2.1+1,_)) ((P3.step s4).step s5) (le_refl _) (.grid g g' g1 g1' g2 g2' ge.1)
   ·rw[ey (by rw[decide_eq_true_eq];exact c1)]
    exact y8 P3 ∅ ge fun e' hs ce s10 s11 s12 s13 s14 he' hl' P4=>tail P4 hl' he'
 ·rintro ρ ac ⟨fs,s4,s5,s6,s7,s8,s9,s10,s11,s12,s13,s14,rfl,P1,l1,l2⟩
  walk_at "rl"
  simp only[P1.at_]
  cases fs with
  |nil=>simp at l1
  |cons e r=>
   rw[map_cons,ia]
   have ee:eP e = .tuple [.int (e.1:Nat),.int (e.2.1:Nat),e.2.2]:=rfl
   simp only[ee]
   walk_at "rl"
   exact qr e _ ac (P1.gd e (by simp)) P1
theorem rA(h:nB ds U Qd):kY ‹Qd› (ao ["_law_bag_here","_law_many","_law_leaves","_law_parts","_law_turn","_law_deep","_law_size","_law_plan_here","_law_way","_law_whole","_law_count","_law_some","_law_inner","_law_sizes","_law_most"] ds) U:=by
 obtain⟨a,m,rfl,m1,m3,hb,q⟩:=h
 unfold kY
 walk_at "rl"
 refine⟨a,3,rfl,⋯,⋯,hb,fun r ac r0 r1 s1=>?_⟩
 walk_at "rl"
 obtain⟨_,e1,n,rfl,n1,n7⟩:=pick (P:=fun v=>∃n:Int,v = .int n/\1<=n/\n<=12) (xs:=[.int 2,.int 4,.int 12]) r0 (by exact r1) (by
  intro v hv
  simp only[mem_cons,not_mem_nil,or_false] at hv
  rcases hv with rfl|rfl|rfl<;>exact⟨_,rfl,⋯,⋯⟩)
 rw[e1]
 refine⟨a,n,rfl,n1,∅,s1.1,fun u ad u0 u1 s2=>?_⟩
 walk_at "rl"
 have s12:=s1.trans s2
 obtain⟨k,hk⟩:∃k:Nat,1+u=k:=⟨(1+u).toNat,∅⟩
 rw[hk,DZ]
 walk_at "rl"
 refine⟨⟨∅,∅⟩,by rw[eT];omega,fun p hp=>?_⟩
 have pa:p≠a:=fun z=>by obtain⟨g,k,e,_⟩:=s12.1;rw[z,e] at hp;cases hp
 have p0:U p=none:=by rw[<- s12.2 p pa];exact hp
 refine⟨fun i acc Y=>∃fs:List E3,acc=fs.map eP/\fs.length=i/\(∀b,b≠a->b≠p->∀ds,U b=some ds->Y b=some ds)/\Bag Y a/\(∀e∈fs,Gd m e),⟨[],rfl,rfl,fun b n1 n2 ds e=>by rw[au n2,s12.2 b n1];exact e,s12.1.set pa,(fun _ z=>nomatch z)⟩,?_,?_⟩
 ·rintro i x acc Y hx hacc ⟨fs,rfl,hf,kp,hb',gd⟩
  refine⟨⟨trivial,trivial,trivial⟩,a,m,rfl,m1,∅,hb',fun v bn v0 v1 s3=>?_⟩
  walk_at "rl"
  refine⟨by rw[s3.2 p pa];exact hacc,fs++[(1,1,.tuple [.str "kind",.int v])],by rw[map_append];rfl,by simp[hf],fun b n1 n2 ds e=>by rw[au n2,s3.2 b n1];exact kp b n1 n2 ds e,s3.1.set pa,fun e he=>?_⟩
  rcases List.mem_append.mp he with z|z
  ·exact gd e z
  ·rw[List.mem_singleton.mp z];exact⟨.kind v v0 v1,by show 1<=12;decide,by show 1<=60;decide⟩
 ·rintro acc Y ⟨fs,rfl,hf,kp,hb',gd⟩ hacc
  rw[eT] at hf
  have P:Pl a p m U Y fs:=⟨pa,hb',hacc,gd,kp⟩
  exact zd P ∅ ∅ fun e gs ul ge P'=>q e.1 e.2.1 e.2.2 ul ge.1 ge.2.1 ge.2.2 (P'.w p0)
end
noncomputable def tI(d:Int):PyData->Bool
 |.tuple [.int a,.int b,.int c]=>isNum (.tuple [.int a,.int b,.int c])&&decide (sg d a b=1)
 |_=>false
noncomputable def iH:DSp:=fun ds U Q=>∃(d:Int) (t:PyData),ds=[.v (.int d),.v t]/\aj d/\Few t/\(∀x,t=dN x->Bd 44500000 x)/\Q (.v (.bool (tI d t))) U
theorem tE{U:Mu}{Q:DK}{ds:List D}(h:iH ds U Q):ds.length=2:=by obtain⟨_,_,rfl,_⟩:=h;rfl
noncomputable def kI:DSp:=fun ds U Q=>∃(d:Int) (ks:List N3),ds=[.v (.int d),.v (.tuple (ks.map dN))]/\aj d/\1<=ks.length/\ks.length<=3/\(∀k∈ks,Ok k/\Bd 60 k/\sg d k.a k.b=1)/\Q (.v (.bool true)) U
theorem sN{U:Mu}{Q:DK}{ds:List D}(h:kI ds U Q):ds.length=2:=by obtain⟨_,_,rfl,_⟩:=h;rfl
noncomputable def dA:DSp:=fun ds U Q=>∃(d:Int) (ks:List N3),ds=[.v (.int d),.v (.tuple (ks.map dN))]/\aj d/\1<=ks.length/\ks.length<=3/\(∀k∈ks,Ok k/\Bd 60 k/\sg d k.a k.b=1)/\Q (.v .none) U
theorem m8{U:Mu}{Q:DK}{ds:List D}(h:dA ds U Q):ds.length=2:=by obtain⟨_,_,rfl,_⟩:=h;rfl
structure KindsOk(d:Int)(ks:List N3):Prop where
 l1:1<=ks.length
 l3:ks.length<=3
 ok:∀k∈ks,Ok k/\Bd 60 k/\sg d k.a k.b=1
noncomputable def j0:DSp:=fun ds U Q=>∃(a:Addr) (d:Int),ds=[.m a,.v (.int d)]/\aj d/\Bag U a/\∀ks Y,KindsOk d ks->gp a U Y->Q (.v (.tuple (ks.map dN))) Y
theorem rY{U:Mu}{Q:DK}{ds:List D}(h:j0 ds U Q):ds.length=2:=by obtain⟨_,_,rfl,_⟩:=h;rfl
noncomputable def jP(l:List N3):N3:=l.foldl plus cy
noncomputable def C7(l:List N3):Prop:=(∀x∈l,Ok x/\Bd 21500000 x)/\∀j,Bd 21500000 (jP (l.take j))
noncomputable def eU:DSp:=fun ds U Q=>∃(t:PyData) (m:Int),ds=[.v t,.v (.int m)]/\Sh t/\okN (cnt m 12 t)=true/\∀Y,(∀b ds,U b=some ds->Y b=some ds)->Q (.v .none) Y
theorem pq{U:Mu}{Q:DK}{ds:List D}(h:eU ds U Q):ds.length=2:=by obtain⟨_,_,rfl,_⟩:=h;rfl
noncomputable def kB:DSp:=fun ds U Q=>∃l:List N3,ds=[.v (.list (l.map dN))]/\l.length<=100/\C7 l/\Q (.v (dN (jP l))) U
theorem qW{U:Mu}{Q:DK}{ds:List D}(h:kB ds U Q):ds.length=1:=by obtain⟨_,rfl,_⟩:=h;rfl
local macro_rules|`(tactic| walk_at "ru")=>mkW "↓u5 ↓j9 aT xV xB Df xm xh xl xA xN CV Ei CM Cw B8 D7 xa Dx Cb sj Dc decide_true decide_false xor_true true_xor ↓gC ↓nS ↓nN ↓nH ↓w5 ↓tq ↓xk ↓xp ↓cm ↓cw ↓cG ↓dY ↓fO ↓jc ↓i9 ↓iw ↓iJ ↓iy ↓fv ↓q_c ↓zz ↓q_B ↓ur ↓mK ↓mX ↓lR ↓t5 ↓iN ↓oi ↓jf ↓Af ↓cO ↓bI ↓kX ↓j7 ↓jd ↓km ↓k9 ↓kQ ↓mz ↓l4 ↓mB ↓mq ↓eK ↓iS ↓iD ↓gB ↓fQ ↓gU ↓iP ↓hV ↓gn ↓mT ↓mV ↓mY ↓i6 ↓i5 ↓ij ↓sV ↓cW ↓gE ↓mG ↓wj ↓gK ↓iG ↓iI ↓gM ↓l7 ↓u9 ↓iT ↓fj ↓mI ↓mx ↓a8 ↓gH ↓d8 ↓gI ↓jb ↓qw ↓mi ↓iF ↓hJ ↓kK ↓i7 ↓qT ↓fF ↓dq ↓mM ↓mj ↓b9 ↓cN ↓fJ ↓cX ↓dE ↓dJ ↓dF fX b0 bU dz dG d7 bind_none bind_some join_some getElem?_cons_zero getElem?_cons_succ ao qL lP lS lF fz ia i4 jw kJ map_cons map_nil List.append List.replicate length_cons length_nil Nat.reduceAdd Nat.reduceSub nil_append cons_append set_cons_zero set_cons_succ map_some ↓reduceIte Bool.not_true Bool.not_false false_eq_true true_eq_false xor_false false_xor"
noncomputable def eS:DTS:=
 (aC (dD (ah jS (aa (ae 1) ag)) (dOp (aJ false) (ah iX (aa (ae 0) (aa (ae 1) ag))) (dC (.int 1)))))
noncomputable def l6:DTS:=
 (ak (aL (gQ (c6 (dB (o6 "tuple" (ae 1)))) (gQ (dB (dOp rLt (dCB a0 (aa (ae 1) ag)) (dC (.int 1)))) (dB (dOp rGt (dCB a0 (aa (ae 1) ag)) (dC (.int 3)))))) (aC (dC (.bool false))) aF)
 (aC (dCB kG (aa (fY [none,some 0] (fK (ae 1)) (af 0) aW (ah iH (aa (ae 1) (aa (ae 0) ag)))) ag))))
noncomputable def fT:DTS:=
 (aL (c6 (dB (ah kI (aa (ae 0) (aa (ae 1) ag))))) iO aF)
noncomputable def jH:DTS:=
 (ak (az (gY (aa (ah gu (aa (ae 0) (aa (ae 1) ag))) ag)) (af 2))
 (ak (gA (dj (aa (ah aQ (aa (ae 0) (aa (dC (.int 3)) ag))) ag)) (af 3) (ak (az (ah aQ (aa (ae 0) (aa (dC (.int 6)) ag))) (af 4))
 (ak (az (aO (aa (cM (dC (.int 1)) (ah aQ (aa (ae 0) (aa (dC (.int 9)) ag)))) (aa (dC (.int 0)) (aa (cM (dC (.int 1)) (ah aQ (aa (ae 0) (aa (dC (.int 9)) ag)))) ag)))) (af 5))
 (ak (az (dOp ai (cL (aa (dOp ai (ae 2) (dC (.int 0))) (aa (ah aM (aa (ae 1) (aa (dOp ai (ae 2) (dC (.int 0))) ag))) ag))) (jr (ae 4) (dC (.int 2)))) (af 6))
 (ak (aL (dB (dOp rGt (ae 4) (dC (.int 3)))) (az (ah gu (aa (ae 0) (aa (ae 1) ag))) (af 6)) (aL (dB (dOp rGt (ae 4) (dC (.int 1)))) (az (ah a7 (aa (ae 1) (aa (ae 6) (aa (ah aR (aa (dOp ai (ae 5) (dC (.int 0))) (aa (dOp ai (ae 5) (dC (.int 1))) (aa (dOp ai (ae 5) (dC (.int 2))) ag)))) ag)))) (af 6)) aF))
 (cA (nk (ae 2) (ae 6))))))))
 (aC (dCB cQ (aa (ae 2) ag)))))
noncomputable def hZ:DTS:=
 (aL (c6 (dB (ah ji (aa (ae 0) (aa (ae 1) ag))))) iO aF)
noncomputable def qY:DTS:=
 (ak (az (dC (.tuple [.int 0,.int 0,.int 1])) (af 1))
 (ak (gA (aZ (ae 0)) (af 2) (az (ah bQ (aa (ae 1) (aa (ae 2) ag))) (af 1)))
 (aC (ae 1))))
noncomputable def uT:DTS:=
 (ak (az (aO (aa (dC (.int 0)) (aa (dC (.int 0)) (aa (dC (.int 1)) ag)))) (af 1))
 (ak (gA (aZ (ae 0)) (af 2) (az (ah bQ (aa (ae 1) (aa (ae 2) ag))) (af 1)))
 (aC (ae 1))))
section
variable {U:Mu}{Qd:DK}{ds:List D}
theorem ph{d:Int}{x:N3}(ox:Ok x):tI d (dN x)=decide (sg d x.a x.b=1):=by
 show (isNum (dN x)&&decide (sg d x.a x.b=1))=_
 rw[Bh ox,Bool.true_and]
theorem vH{d:Int}{t:PyData}(h:isNum t=false):tI d t=false:=by
 unfold tI
 split
 ·rw[h,Bool.false_and]
 ·rfl
theorem wQ{t:PyData}(h:isNum t=true):∃x:N3,t=dN x/\Ok x:=by
 unfold isNum at h
 split at h
 ·rename_i a b c
  simp only[and_eq_true,decide_eq_true_eq,beq_iff_eq] at h
  exact⟨⟨a,b,c⟩,rfl,by show 0<c;omega,h.2⟩
 ·cases h
theorem jM(h:iH ds U Qd):eS ‹Qd› (ao ["d","thing"] ds) U:=by
 obtain⟨d,t,rfl,hd,ft,bt,q⟩:=h
 unfold eS
 walk_at "rn"
 refine⟨t,rfl,ft,?_⟩
 walk_at "rn"
 cases e:isNum t with
 |true=>
  walk_at "rn"
  obtain⟨x,rfl,ox⟩:=wQ e
  refine⟨d,x,rfl,hd,bt x rfl,?_⟩
  walk_at "rn"
  rw[ph ox] at q
  exact q
 |false=>
  walk_at "rn"
  rw[vH e] at q
  exact q
theorem Ac{x y:N3}(e:dN x=dN y):x=y:=by
 simp only[dN,PyData.tuple.injEq,List.cons.injEq,PyData.int.injEq,and_true] at e
 exact N3.ext' e.1 e.2.1 e.2.2
theorem uK(h:kI ds U Qd):l6 ‹Qd› (ao ["d","thing"] ds) U:=by
 obtain⟨d,ks,rfl,hd,l1,l3,hk,q⟩:=h
 unfold l6
 have e0:isT "tuple" (.tuple (ks.map dN))=true:=rfl
 walk_at "rn"
 rw[e0]
 walk_at "rn"
 have c1:decide ((((ks.map dN).length:Nat):Int)<1)=false:=by rw[length_map];simp;omega
 have c2:decide ((3:Int)<(((ks.map dN).length:Nat):Int))=false:=by rw[length_map];simp;omega
 rw[c1,c2]
 simp only[false_eq_true,↓reduceIte]
 refine⟨by rw[length_map];omega,fun _=>some (.bool true),fun t ht Y _=>⟨⟨trivial,trivial⟩,?_⟩,?_⟩
 ·obtain⟨k,hk',rfl⟩:=List.mem_map.mp ht
  obtain⟨ok,bk,sk⟩:=hk k hk'
  refine⟨d,dN k,rfl,hd,A6,fun x e=>by rw[<- Ac e];exact bk.mono ⋯,rfl,?_⟩
  rw[ph ok,sk];rfl
 ·rw[d9 (fun _=>PyData.bool true),fk (fun _=>true)]
  have:((ks.map dN).map fun _=>true).all id=true:=by rw[all_eq_true];intro x hx;obtain⟨_,_,rfl⟩:=List.mem_map.mp hx;rfl
  dsimp only
  rw[this]
  exact q
theorem lV(h:dA ds U Qd):fT ‹Qd› (ao ["d","thing"] ds) U:=by
 obtain⟨d,ks,rfl,hd,l1,l3,hk,q⟩:=h
 unfold fT
 walk_at "rn"
 refine⟨d,ks,rfl,hd,l1,l3,hk,?_⟩
 walk_at "rn"
 exact q
noncomputable def uP(a p:Addr)(d:Int)(x:N3)(U:Mu)(i:Nat)(ρ:Rho)(Y:Mu):Prop:=∃(ks:List N3) (r3 r4 r5 r6:Option D),ρ=[some (.m a),some (.v (.int d)),some (.m p),r3,r4,r5,r6]/\Bag Y a/\(∀b,b≠a->∀ds,U b=some ds->Y b=some ds)/\Y p=some ((x::ks).map dN)/\ks.length=i/\(∀k∈x::ks,Ok k/\Bd 60 k/\sg d k.a k.b=1)
theorem qb(h:j0 ds U Qd):jH ‹Qd› (ao ["_law_bag_here","_law_d","_law_found","_law_turn","_law_way","_law_part","_law_kind"] ds) U:=by
 obtain⟨a,d,rfl,hd,hb,q⟩:=h
 have s5:=fP hd.1 hd.2.1
 unfold jH
 walk_at "rn"
 refine⟨a,d,rfl,hd,hb,fun x ac ox bx sx s1=>?_⟩
 walk_at "rn"
 intro p hp
 have hap:a≠p:=fun z=>by obtain⟨g,m,e,_⟩:=s1.1;rw[z,hp] at e;cases e
 have sb:Bag (aE ac p [dN x]) a:=by obtain⟨g,m,e,z⟩:=s1.1;exact⟨g,m,by rw[au hap];exact e,z⟩
 rw[d6]
 walk_at "rn"
 refine⟨a,3,rfl,⋯,⋯,sb,fun n ad n0 n1 s2=>?_⟩
 walk_at "rn"
 have keep2:∀b,b≠a->∀ds,U b=some ds->ad b=some ds:=fun b hb' ds e=>by
  have e1:=(s1.2 b hb').trans e
  have:b≠p:=fun z=>by rw[z,hp] at e1;cases e1
  rw[s2.2 b hb',au this];exact e1
 have hp2:ad p=some ([x].map dN):=by rw[s2.2 p (fun z=>hap z.symm)];exact aq
 refine⟨⟨∅,∅⟩,uP a p d x U,⟨[],_,_,_,_,rfl,s2.1,keep2,hp2,rfl,fun k hk=>by rw[List.mem_singleton.mp hk];exact⟨ox,bx.mono ⋯,sx⟩⟩,?_,?_⟩
 ·rintro i v ρ bn hv ⟨ks,r3,r4,r5,r6,rfl,hb3,kp,hpk,hl,hok⟩
  obtain⟨rfl,hi⟩:=oD hv
  have hi2:i<2:=by omega
  walk_at "rn"
  refine⟨a,6,rfl,⋯,⋯,hb3,fun way ce w0 w1 s4=>?_⟩
  walk_at "rn"
  refine⟨a,9,rfl,⋯,⋯,s4.1,fun t im t0 t1 s5'=>?_⟩
  walk_at "rn"
  refine⟨a,9,rfl,⋯,⋯,s5'.1,fun u lw u0 u1 s6=>?_⟩
  walk_at "rn"
  have s46:=s4.trans (s5'.trans s6)
  have hp6:lw p=some (dN x::ks.map dN):=by rw[s46.2 p (fun z=>hap z.symm)];exact hpk
  simp only[hp6]
  walk_at "rn"
  have nx:=gq hd ox sx
  have ocx:=cJ nx
  have bcx:=i8 s5 nx bx
  refine⟨d,x,rfl,s5,nx,bx.mono ⋯,?_⟩
  walk_at "rn"
  obtain⟨m0,m1⟩:=fW way (show (0:Int)<2 by decide)
  obtain⟨_,e1,k1,rfl,ok1,bk1,sk1⟩:=pick (P:=fun v=>∃k,v=dN k/\Ok k/\Bd 46 k/\sg d k.a k.b=1) (xs:=[dN x,dN (aB d x)]) m0 (by exact m1) (by
   intro v hv
   simp only[mem_cons,not_mem_nil,or_false] at hv
   rcases hv with rfl|rfl
   ·exact⟨_,rfl,ox,bx.mono ⋯,sx⟩
   ·exact⟨_,rfl,ocx,bcx.mono ⋯,iV hd ox sx⟩)
  rw[e1]
  refine⟨⋯,?_⟩
  walk_at "rn"
  have fin:∀(mt:Mu) (k:N3) (r3 r4 r5:Option D),Step a lw mt->Ok k->Bd 60 k->sg d k.a k.b=1->nk (ae 2) (ae 6) [some (.m a),some (.v (.int d)),some (.m p),r3,r4,r5,some (.v (dN k))] mt (fun _ Y=>uP a p d x U (i+1) [some (.m a),some (.v (.int d)),some (.m p),r3,r4,r5,some (.v (dN k))] Y):=fun mt k r3 r4 r5 s7 ok bk sk=>by
   have s47:=s46.trans s7
   have hp7:mt p=some (dN x::ks.map dN):=by rw[s47.2 p (fun z=>hap z.symm)];exact hpk
   walk_at "rn"
   simp only[hp7]
   refine⟨by simp;omega,ks++[k],_,_,_,_,rfl,?_,fun b hb' ds e=>?_,?_,by simp[hl],fun z hz=>?_⟩
   ·obtain⟨g,m,e,z⟩:=s47.1;exact⟨g,m,by rw[au hap];exact e,z⟩
   ·have h3:=kp b hb' ds e
    by_cases hbp:b=p
    ·subst hbp
     exfalso
     have e1:=(s1.2 b hb').trans e
     rw[hp] at e1;cases e1
    ·rw[au hbp,s47.2 b hb'];exact h3
   ·rw[aq];simp
   ·rcases List.mem_cons.mp hz with z'|z'
    ·exact hok z (by rw[z'];exact mem_cons_self)
    ·rcases List.mem_append.mp z' with z''|z''
     ·exact hok z (mem_cons_of_mem _ z'')
     ·rw[List.mem_singleton.mp z''];exact⟨ok,bk,sk⟩
  by_cases c1:3<way
  ·rw[if_pos (by simpa using c1)]
   refine⟨a,d,rfl,hd,s6.1,fun k mt ok bk sk s7=>?_⟩
   have:=fin mt k (some (.v (.int (0+(i:Int))))) (some (.v (.int way))) (some (.v (dN ⟨1+t,0,1+u⟩))) s7 ok (bk.mono ⋯) sk
   walk_at "rn"
   exact this
  ·rw[if_neg (by simpa using c1)]
   by_cases c2:1<way
   ·rw[if_pos (by simpa using c2)]
    have un:1+u≠0:=by omega
    have z4:∀v:Int,0<=v->v<9->Sz 4 (1+v):=fun v h1 h2=>Sz.of (by show (1+v).natAbs<16;omega)
    have op:=dX (1+t) 0 un
    have bp:Bd 4 (low (1+t) 0 (1+u)):=eM un (z4 t t0 t1) (Sz.of (by show (0:Int).natAbs<16;decide)) (z4 u u0 u1)
    have hp':sg d (low (1+t) 0 (1+u)).a (low (1+t) 0 (1+u)).b=1:=by
     rw[nU hd ∅]
     unfold sg
     rw[if_neg ∅,if_pos ∅]
    refine⟨_,_,_,rfl,un,(z4 u u0 u1).mono ⋯,d,k1,_,rfl,s5,ok1,op,bk1.mono ⋯,bp.mono ⋯,?_⟩
    exact fin lw _ _ _ _ (Step.refl s6.1) (aN ok1 op) ((t6 s5 ok1 op bk1 bp).mono ⋯) (by rw[zW hd ok1 op,sk1,hp'];rfl)
   ·rw[if_neg (by simpa using c2)]
    exact fin lw k1 _ _ _ (Step.refl s6.1) ok1 (bk1.mono ⋯) sk1
 ·rintro ρ bn ⟨ks,r3,r4,r5,r6,rfl,hb3,kp,hpk,hl,hok⟩
  rw[eT] at hl
  walk_at "rn"
  simp only[hpk]
  exact q (x::ks) bn ⟨by simp,by simp;omega,hok⟩ ⟨hb3,kp⟩
theorem nu(h:eU ds U Qd):hZ ‹Qd› (ao ["thing","many"] ds) U:=by
 obtain⟨t,m,rfl,hs,ho,q⟩:=h
 unfold hZ
 walk_at "ru"
 refine⟨t,m,rfl,hs,fun Y k=>?_⟩
 walk_at "ru"
 rw[ho]
 simp only[Bool.not_true,false_eq_true,↓reduceIte]
 exact q Y k
theorem Aa{l:List N3}{i:Nat}{x:N3}(h:l[i]? = some x):jP (l.take (i+1))=plus (jP (l.take i)) x:=by
 unfold jP
 rw[take_succ,h]
 simp
theorem tN{l:List N3}(h:∀x∈l,Ok x):Ok (jP l):=by
 unfold jP
 have key:∀(l:List N3) (a:N3),Ok a->(∀x∈l,Ok x)->Ok (l.foldl plus a):=fun l=>by
  induction l with
  |nil=>exact fun a oa _=>oa
  |cons x r ih=>exact fun a oa h=>ih _ (a6 oa (h x (by simp))) fun y hy=>h y (by simp[hy])
 exact key l _ gy h
theorem C7.ok{l:List N3}(h:C7 l)(j:Nat):Ok (jP (l.take j)):=tN fun x hx=>(h.1 x (mem_of_mem_take hx)).1
theorem JG{l:List N3}{i:Nat}{x:PyData}(h:(l.map dN)[i]? = some x):∃y,l[i]? = some y/\x=dN y:=by
 rw[getElem?_map] at h
 cases e:l[i]? with
 |none=>rw[e] at h;cases h
 |some y=>rw[e] at h;exact⟨y,rfl,by simpa using h.symm⟩
theorem qH(h:kB ds U Qd):qY ‹Qd› (ao ["shapes","total","shape"] ds) U:=by
 obtain⟨l,rfl,hl,hs,q⟩:=h
 unfold qY
 walk_at "ru"
 rw[d6]
 walk_at "ru"
 refine⟨fun i ρ Y=>∃r2,ρ=[some (.v (.list (l.map dN))),some (.v (dN (jP (l.take i)))),r2]/\Y=U,⟨_,rfl,rfl⟩,?_,?_⟩
 ·rintro i x ρ Y hx ⟨r2,rfl,rfl⟩
  obtain⟨y,hy,rfl⟩:=JG hx
  have hm:=hs.1 y (mem_of_getElem? hy)
  walk_at "ru"
  refine⟨_,y,rfl,hs.ok i,hm.1,(hs.2 i).mono ⋯,hm.2.mono ⋯,?_⟩
  exact⟨_,by rw[Aa hy],rfl⟩
 ·rintro ρ Y ⟨r2,rfl,rfl⟩
  walk_at "ru"
  rw[length_map,take_length]
  exact q
theorem vj(h:kB ds U Qd):uT ‹Qd› (ao ["_law_some","_law_found","_law_one"] ds) U:=qH h
end
noncomputable def uO(l:List N3):Prop:=(∀x∈l,Ok x/\Bd 4300 x)/\∀j,Bd 4300 (jP (l.take j))
theorem uO.big{l:List N3}(h:uO l):C7 l:=⟨fun x hx=>⟨(h.1 x hx).1,(h.1 x hx).2.mono ⋯⟩,fun j=>(h.2 j).mono ⋯⟩
noncomputable def G(d:Int)(x:N3):Prop:=Ok x/\norm d x≠0/\Bd 4300 x
inductive SP(d:Int)(ks:List N3):Nat->PyData->N3->Prop
 |kind {n:Nat} (i:Int) (k:N3):0<=i->i<(ks.length:Nat)->ks[i.toNat]? = some k->SP d ks (n+1) (.tuple [.str "kind",.int i]) k
 |turn {n:Nat} {t:PyData} {x:N3}:SP d ks n t x->G d x->SP d ks (n+1) (.tuple [.str "turn",t]) (aB d x)
 |grid {n:Nat} {t:PyData} {x:N3} (u v:Int):1<=u->1<=v->u<=1000000->v<=1000000->SP d ks n t x->Ok x->Bd 4300 x->SP d ks (n+1) (.tuple [.str "grid",.int u,.int v,t]) (times d x (low v 0 u))
 |upon {n:Nat} (es:List (PyData×N3)):2<=es.length->es.length<=8->(∀e∈es,SP d ks n e.1 e.2)->uO (es.map (·.2))->SP d ks (n+1) (.tuple [.str "upon",.tuple (es.map (·.1))]) (jP (es.map (·.2)))
 |beside {n:Nat} (es:List (PyData×N3)):2<=es.length->es.length<=8->(∀e∈es,SP d ks n e.1 e.2)->(∀e∈es,G d e.2)->uO ((es.map (·.2)).map (aB d))->G d (jP ((es.map (·.2)).map (aB d))) ->
   SP d ks (n+1) (.tuple [.str "beside",.tuple (es.map (·.1))]) (aB d (jP ((es.map (·.2)).map (aB d))))
section
variable {d:Int}{ks:List N3}{n:Nat}{t:PyData}{x:N3}
theorem sU(hd:Sz 5 d){w:Nat}:∀(ys:List (Nat×N3)) (a:N3) (k:Nat),Ok a->Ht d k a->(∀y∈ys,Ok y.2/\1<=y.1/\Ht d (y.1*w-7) y.2)->26<=w->Ht d (k+(ys.map (·.1)).sum*w) ((ys.map (·.2)).foldl plus a)
 |[],a,k,_,h,_,_=>h.mono (by simp)
 |y::r,a,k,oa,h,g,hw=>by
  obtain⟨oy,c1,hy⟩:=g y (by simp)
  have h1:Ht d (k+y.1*w) (plus a y.2):=(Ej hd oa oy h hy).mono (by have:7<=y.1*w:=le_trans (by omega:7<=1*w) (mul_le_mul_right w c1);omega)
  have:=sU hd r (plus a y.2) _ (a6 oa oy) h1 (fun z hz=>g z (by simp[hz])) hw
  rw[map_cons,map_cons,sum_cons,List.foldl_cons,add_mul,<- Nat.add_assoc]
  exact this
theorem uj(h:aj d):∀(l:List N3) (a:N3),Ok a->(a=cy\/sg d a.a a.b=1)->(∀x∈l,Ok x/\sg d x.a x.b=1)->l≠[]->sg d (l.foldl plus a).a (l.foldl plus a).b=1
 |[],_,_,_,_,n=>absurd rfl n
 |[x],a,oa,ha,g,_=>pA h oa (g x (by simp)).1 ha (g x (by simp)).2
 |x::y::r,a,oa,ha,g,_=>uj h (y::r) (plus a x) (a6 oa (g x (by simp)).1) (.inr (pA h oa (g x (by simp)).1 ha (g x (by simp)).2)) (fun z hz=>g z (by simp[hz])) (by simp)
theorem gP{α β:Type}{R:α->β->Prop}:∀(l:List α),(∀e∈l,∃x,R e x)->∃ys:List (α×β),ys.map (·.1)=l/\∀y∈ys,R y.1 y.2
 |[],_=>⟨[],rfl,fun _ z=>nomatch z⟩
 |e::r,h=>by
  obtain⟨x,hx⟩:=h e (by simp)
  obtain⟨ys,h1,h2⟩:=gP r fun e' he'=>h e' (by simp[he'])
  refine⟨(e,x)::ys,by rw[map_cons,h1],fun y hy=>?_⟩
  rcases List.mem_cons.mp hy with z|z
  ·rw[z];exact hx
  ·exact h2 y z
structure lO(d:Int)(w c:Nat)(x:N3):Prop where
 ok:Ok x
 pos:sg d x.a x.b=1
 ht:Ht d (c*w-7) x
theorem lO.g{w c:Nat}(h:aj d)(f:lO d w c x)(hc:c*w<=2140):G d x:=⟨f.ok,gq h f.ok f.pos,(A4 (fP h.1 h.2.1) f.ok f.ht).mono ∅⟩
theorem lO.con{w c:Nat}(h:aj d)(f:lO d w c x):lO d w c (aB d x):=⟨cJ (gq h f.ok f.pos),iV h f.ok f.pos,uk f.ok (gq h f.ok f.pos) f.ht⟩
theorem uf(h:aj d){w:Nat}(hw:26<=w)(ys:List (Nat×N3))(hy:∀y∈ys,1<=y.1/\lO d w y.1 y.2)(hc:((ys.map (·.1)).sum+1)*w<=2140)(hne:ys≠[]) :
  uO (ys.map (·.2))/\lO d w ((ys.map (·.1)).sum+1) (jP (ys.map (·.2))):=by
 have hd:Sz 5 d:=fP h.1 h.2.1
 have ht0:Ht d 1 cy:=xb gy ⟨Sz.of ⋯,Sz.of ⋯,Sz.of ⋯⟩
 have all:∀y∈ys,Ok y.2/\1<=y.1/\Ht d (y.1*w-7) y.2:=fun y z=>⟨(hy y z).2.ok,(hy y z).1,(hy y z).2.ht⟩
 have tot:=sU hd ys cy 1 gy ht0 all hw
 have e1:((ys.map (·.1)).sum+1)*w=(ys.map (·.1)).sum*w+w:=by rw[add_mul,Nat.one_mul]
 have oks:∀x∈ys.map (·.2),Ok x:=fun x hx=>by obtain⟨y,z,rfl⟩:=List.mem_map.mp hx;exact (hy y z).2.ok
 have jN:∀(l:List (Nat×N3)) y,y∈l->y.1<=(l.map (·.1)).sum:=fun l=>by
  induction l with
  |nil=>exact fun y z=>(nomatch z)
  |cons a r ih=>
    intro y z
    rw[map_cons,sum_cons]
    rcases List.mem_cons.mp z with q|q
    ·rw[q];omega
    ·have:=ih y q;omega
 have take_le:∀(l:List (Nat×N3)) (j:Nat),((l.take j).map (·.1)).sum<=(l.map (·.1)).sum:=fun l=>by
  induction l with
  |nil=>intro j;simp
  |cons a r ih=>intro j;cases j with
   |zero=>simp
   |succ j=>rw[List.take_succ_cons,map_cons,map_cons,sum_cons,sum_cons];have:=ih j;omega
 refine⟨⟨fun x hx=>?_,fun j=>?_⟩,tN oks,uj h _ _ gy (.inl rfl) (fun x hx=>?_) (by simpa using hne),tot.mono ∅⟩
 ·obtain⟨y,z,rfl⟩:=List.mem_map.mp hx
  have:=jN ys y z
  have m1:y.1*w<=(ys.map (·.1)).sum*w:=mul_le_mul_right w this
  exact⟨(hy y z).2.ok,(A4 hd (hy y z).2.ok (hy y z).2.ht).mono ∅⟩
 ·have t1:=sU hd (ys.take j) cy 1 gy ht0 (fun y z=>all y (mem_of_mem_take z)) hw
  have m1:((ys.take j).map (·.1)).sum*w<=(ys.map (·.1)).sum*w:=mul_le_mul_right w (take_le ys j)
  rw[<- map_take]
  exact (A4 hd (tN fun x hx=>oks x (by rw[map_take] at hx;exact mem_of_mem_take hx)) t1).mono ∅
 ·obtain⟨y,z,rfl⟩:=List.mem_map.mp hx
  exact⟨(hy y z).2.ok,(hy y z).2.pos⟩
theorem qE{α β γ:Type}{f:α->β}{g:α->γ}{zs:List α}(h:2<=(zs.map f).length):zs.map g≠[]:=fun q=>by
 have:zs=[]:=by simpa using q
 subst this
 simp at h
theorem Kh(h:aj d){w:Nat}(hw:26<=w)(hk:∀k∈ks,lO d w 1 k){dd c:Nat}(p:IsP (ks.length:Nat) dd c t):c*w<=2140->∀n,dd<=n->∃x,SP d ks n t x/\lO d w c x:=by
 have hd:Sz 5 d:=fP h.1 h.2.1
 have many:∀{n:Nat} (es:List (Nat×Nat×PyData)) (d0:Nat),2<=es.length->(∀e∈es,e.1<=d0)->(∀e∈es,IsP (ks.length:Nat) e.1 e.2.1 e.2.2)->(∀e∈es,e.2.1*w<=2140->∀n,e.1<=n->∃x,SP d ks n e.2.2 x/\lO d w e.2.1 x)->((es.map (·.2.1)).sum+1)*w<=2140->d0<=n ->
   ∃zs:List ((Nat×Nat×PyData)×N3),zs.map (·.1)=es/\∀z∈zs,SP d ks n z.1.2.2 z.2/\lO d w z.1.2.1 z.2/\1<=z.1.2.1:=fun {n} es d0 _ he hp ih hc hn=>by
  have jN:∀(l:List (Nat×Nat×PyData)) e,e∈l->e.2.1<=(l.map (·.2.1)).sum:=fun l=>by
   induction l with
   |nil=>exact fun y z=>(nomatch z)
   |cons a r ih=>
     intro y z
     rw[map_cons,sum_cons]
     rcases List.mem_cons.mp z with q|q
     ·rw[q];omega
     ·have:=ih y q;omega
  refine gP (R:=fun e x=>SP d ks n e.2.2 x/\lO d w e.2.1 x/\1<=e.2.1) es fun e hee=>?_
  have m1:e.2.1*w<=((es.map (·.2.1)).sum+1)*w:=mul_le_mul_right w (by have:=jN es e hee;omega)
  obtain⟨x,h1,h2⟩:=ih e hee ∅ n (by have:=he e hee;omega)
  exact⟨x,h1,h2,(hp e hee).pos.2⟩
 induction p with
 |kind i i0 i1=>
  intro _ n hn
  obtain⟨n,rfl⟩:∃m,n=m+1:=⟨n-1,∅⟩
  have hi:i.toNat<ks.length:=by omega
  exact⟨ks[i.toNat],.kind i _ i0 i1 (by simp[hi]),hk _ (getElem_mem hi)⟩
 |@turn dd c t hh ih=>
  intro hc n hn
  obtain⟨n,rfl⟩:∃m,n=m+1:=⟨n-1,∅⟩
  have e1:(c+1)*w=c*w+w:=by rw[add_mul,Nat.one_mul]
  obtain⟨x,h1,h2⟩:=ih ∅ n ∅
  have f:=h2.con h
  exact⟨_,.turn h1 (h2.g h ∅),f.ok,f.pos,f.ht.mono ∅⟩
 |@grid dd c t u v hu hv hu' hv' hh ih=>
  intro hc n hn
  obtain⟨n,rfl⟩:∃m,n=m+1:=⟨n-1,∅⟩
  have e1:(c+1)*w=c*w+w:=by rw[add_mul,Nat.one_mul]
  obtain⟨x,h1,h2⟩:=ih ∅ n ∅
  have g:=h2.g h ∅
  have of:Ok (low v 0 u):=dX _ _ ∅
  have bf:Bd 20 (low v 0 u):=eM ∅ (Sz.of (by show v.natAbs<1048576;omega)) sz0 (Sz.of (by show u.natAbs<1048576;omega))
  have c1:7<=c*w:=le_trans (by omega:7<=1*w) (mul_le_mul_right w hh.pos.2)
  refine⟨_,.grid u v hu hv hu' hv' h1 g.1 g.2.2,aN g.1 of,?_,(BR hd g.1 of h2.ht (xb of bf)).mono ∅⟩
  rw[ll h g.1 of,h2.pos,nU h ∅]
  have:sg d v 0=1:=(lK h).mpr (.inl ⟨∅,∅,∅⟩)
  rw[this];rfl
 |@upon d0 es h2 h8 he hp ih=>
  intro hc n hn
  obtain⟨n,rfl⟩:∃m,n=m+1:=⟨n-1,∅⟩
  obtain⟨zs,rfl,hz⟩:=many es d0 h2 he hp ih hc (by omega:d0<=n)
  have es1:(zs.map fun z=>(z.1.2.1,z.2)).map (·.1)=(zs.map (·.1)).map (·.2.1):=by rw[map_map,map_map];rfl
  have es2:(zs.map fun z=>(z.1.2.1,z.2)).map (·.2)=zs.map (·.2):=by rw[map_map];rfl
  obtain⟨s1,s2⟩:=uf h hw (zs.map fun z=>(z.1.2.1,z.2)) (fun y hy=>by obtain⟨z,q,rfl⟩:=List.mem_map.mp hy;exact⟨(hz z q).2.2,(hz z q).2.1⟩) (by rw[es1];exact hc) (qE h2)
  rw[es1,es2] at s2
  rw[es2] at s1
  refine⟨_,?_,s2⟩
  have:=SP.upon (d:=d) (ks:=ks) (n:=n) (zs.map fun z=>(z.1.2.2,z.2)) (by simpa using h2) (by simpa using h8) (fun e q=>by obtain⟨z,qz,rfl⟩:=List.mem_map.mp q;exact (hz z qz).1) (by rw[map_map];exact s1)
  rw[map_map,map_map] at this
  rw[map_map]
  exact this
 |@beside d0 es h2 h8 he hp ih=>
  intro hc n hn
  obtain⟨n,rfl⟩:∃m,n=m+1:=⟨n-1,∅⟩
  obtain⟨zs,rfl,hz⟩:=many es d0 h2 he hp ih hc (by omega:d0<=n)
  have jN:∀(l:List ((Nat×Nat×PyData)×N3)) z,z∈l->z.1.2.1<=((l.map (·.1)).map (·.2.1)).sum:=fun l=>by
   induction l with
   |nil=>exact fun y z=>(nomatch z)
   |cons a r ih=>
     intro y z
     rw[map_cons,map_cons,sum_cons]
     rcases List.mem_cons.mp z with q|q
     ·rw[q];omega
     ·have:=ih y q;omega
  have es1:(zs.map fun z=>(z.1.2.1,aB d z.2)).map (·.1)=(zs.map (·.1)).map (·.2.1):=by rw[map_map,map_map];rfl
  have es2:(zs.map fun z=>(z.1.2.1,aB d z.2)).map (·.2)=(zs.map (·.2)).map (aB d):=by rw[map_map,map_map];rfl
  obtain⟨s1,s2⟩:=uf h hw (zs.map fun z=>(z.1.2.1,aB d z.2)) (fun y hy=>by obtain⟨z,q,rfl⟩:=List.mem_map.mp hy;exact⟨(hz z q).2.2,(hz z q).2.1.con h⟩) (by rw[es1];exact hc) (qE h2)
  rw[es1,es2] at s2
  rw[es2] at s1
  refine⟨_,?_,s2.con h⟩
  have em:(zs.map fun z=>(z.1.2.2,z.2)).map (·.2)=zs.map (·.2):=by rw[map_map];rfl
  have:=SP.beside (d:=d) (ks:=ks) (n:=n) (zs.map fun z=>(z.1.2.2,z.2)) (by simpa using h2) (by simpa using h8) (fun e q=>by obtain⟨z,qz,rfl⟩:=List.mem_map.mp q;exact (hz z qz).1)
   (fun e q=>by
    obtain⟨z,qz,rfl⟩:=List.mem_map.mp q
    have m1:z.1.2.1*w<=(((zs.map (·.1)).map (·.2.1)).sum+1)*w:=mul_le_mul_right w (by have:=jN zs z qz;omega)
    exact (hz z qz).2.1.g h ∅) (by rw[em];exact s1) (by rw[em];exact s2.g h hc)
  rw[em,map_map] at this
  rw[map_map]
  exact this
end
structure Bo(d:Int) where
 x:RN d
 y:RN d
 w:RN d
 h:RN d
section
variable {d:Int}
noncomputable def mv(f a b:RN d)(B:Bo d):Bo d:=⟨B.x*f+a,B.y*f+b,B.w*f,B.h*f⟩
noncomputable def qt(c:RN d)(B:Bo d):Bo d:=⟨c-(B.y+B.h),B.x,B.h,B.w⟩
noncomputable def swp(B:Bo d):Bo d:=⟨B.y,B.x,B.h,B.w⟩
noncomputable def aH(q:Nat)(u v:Int):Int:=if q % 2=1 then v else u
noncomputable def dI(q:Nat)(u v:Int)(B:Bo d)(c r:Int):Bo d:=
 ⟨B.x+(c:RN d)*(B.w*inv (aH q u v:RN d)),B.y+(r:RN d)*(B.h*inv (aH q v u:RN d)),B.w*inv (aH q u v:RN d),B.h*inv (aH q v u:RN d)⟩
noncomputable def ck(x w:RN d):RN d->List (RN d)->List (Bo d)
 |_,[]=>[]
 |s,z::l=>⟨x,s,w,z*w⟩::ck x w (s+z*w) l
noncomputable def bR(x w:RN d):RN d->List (RN d)->List (Bo d)
 |_,[]=>[]
 |s,z::l=>⟨x,s-z*w,w,z*w⟩::bR x w (s-z*w) l
noncomputable def rise(b:Bool)(B:Bo d)(zs:List (RN d)):List (Bo d):=if b=true then bR B.x B.w (B.y+B.h) zs else ck B.x B.w B.y zs
noncomputable def kH(q:Nat)(up:Bool):Bool:=up==(q % 2==0)
noncomputable def bck(q:Nat)(up:Bool):Bool:=if up=true then q % 4==1 || q % 4==2 else q % 4==2 || q % 4==3
noncomputable def aS(q:Nat)(up:Bool)(B:Bo d)(zs:List (RN d)):List (Bo d):=if kH q up=true then rise (bck q up) B zs else (rise (bck q up) (swp B) zs).map swp
noncomputable def cV(l:List (RN d)):RN d:=l.foldl (· + ·) 0
noncomputable def aK(up:Bool)(es:List (PyData×RN d)):List (RN d):=es.map fun e=>if up=true then e.2 else inv e.2
noncomputable def whole(up:Bool)(es:List (PyData×RN d)):RN d:=if up=true then cV (aK up es) else inv (cV (aK up es))
noncomputable def wd(up:Bool):Str:=if up=true then "upon" else "beside"
inductive Go(d:Int)(ks:List N3):Nat->Nat->PyData->RN d->Bo d->Bo d->Int->Nat->Prop
 |kind {n q:Nat} {B:Bo d} (i:Int) (k:RN d):0<=i->i<(ks.length:Nat)->ks[i.toNat]? = some k.v->ps k->Go d ks (n+1) q (.tuple [.str "kind",.int i]) k B B i q
 |turn {n q q':Nat} {t:PyData} {x:RN d} {B T:Bo d} {i:Int}:SP d ks n t x.v->ps x->Bd 4300 x.v->Go d ks n (q+1) t x B T i q'->Go d ks (n+1) q (.tuple [.str "turn",t]) (inv x) B T i q'
 |grid {n q q':Nat} {t:PyData} {x:RN d} {B T:Bo d} {i:Int} (u v c r:Int):1<=u->1<=v->u<=1000000->v<=1000000->SP d ks n t x.v->ps x->Bd 4300 x.v->0<=c->c<aH q u v->0<=r->r<aH q v u ->
   Go d ks n q t x (dI q u v B c r) T i q'->Go d ks (n+1) q (.tuple [.str "grid",.int u,.int v,t]) (x*((v:RN d)*inv (u:RN d))) B T i q'
 |strip {n q q':Nat} {B T B':Bo d} {i:Int} (up:Bool) (es:List (PyData×RN d)) (j:Nat) (e:PyData×RN d):2<=es.length->es.length<=8->(∀e∈es,SP d ks n e.1 e.2.v/\ps e.2/\Bd 4300 e.2.v)->(∀z∈aK up es,Bd 4300 z.v) ->
   es[j]? = some e->(aS q up B (aK up es))[j]? = some B'->Go d ks n q e.1 e.2 B' T i q'->Go d ks (n+1) q (.tuple [.str (wd up),.tuple (es.map (·.1))]) (whole up es) B T i q'
theorem vi(f a b x w:RN d):∀(zs:List (RN d)) (s:RN d),ck (x*f+a) (w*f) (s*f+b) zs=(ck x w s zs).map (mv f a b)
 |[],_=>rfl
 |z::l,s=>by
  unfold ck
  rw[map_cons,<- vi f a b x w l (s+z*w)]
  have e1:s*f+b+z*(w*f)=(s+z*w)*f+b:=by grind
  have e2:z*(w*f)=z*w*f:=by grind
  rw[e1,e2];rfl
theorem uJ(f a b x w:RN d):∀(zs:List (RN d)) (s:RN d),bR (x*f+a) (w*f) (s*f+b) zs=(bR x w s zs).map (mv f a b)
 |[],_=>rfl
 |z::l,s=>by
  unfold bR
  rw[map_cons,<- uJ f a b x w l (s-z*w)]
  have e1:s*f+b-z*(w*f)=(s-z*w)*f+b:=by grind
  have e2:z*(w*f)=z*w*f:=by grind
  rw[e1,e2];rfl
theorem xj(bk:Bool)(f a b:RN d)(B:Bo d)(zs:List (RN d)):rise bk (mv f a b B) zs=(rise bk B zs).map (mv f a b):=by
 unfold rise
 cases bk
 ·exact vi f a b B.x B.w zs B.y
 ·have e:(mv f a b B).y+(mv f a b B).h=(B.y+B.h)*f+b:=by show B.y*f+b+B.h*f=_;grind
  show bR _ _ ((mv f a b B).y+(mv f a b B).h) zs=(bR B.x B.w (B.y+B.h) zs).map _
  rw[e];exact uJ f a b B.x B.w zs _
theorem yT(q:Nat)(up:Bool)(f a b:RN d)(B:Bo d)(zs:List (RN d)):aS q up (mv f a b B) zs=(aS q up B zs).map (mv f a b):=by
 unfold aS
 cases kH q up
 ·show (rise _ (mv f b a (swp B)) zs).map swp=((rise _ (swp B) zs).map swp).map _
  rw[xj,map_map,map_map];rfl
 ·exact xj _ f a b B zs
theorem Ad(q:Nat)(u v c r:Int)(f a b:RN d)(B:Bo d):dI q u v (mv f a b B) c r=mv f a b (dI q u v B c r):=by
 unfold dI mv
 congr 1<;>dsimp only<;>grind
theorem EY(x w:RN d)(c h:RN d):∀(zs:List (RN d)) (s:RN d),((ck x w s zs).map swp).map (qt c)=ck (c-(x+w)) w s zs
 |[],_=>rfl
 |z::l,s=>by
  unfold ck
  rw[map_cons,map_cons,EY x w c h l _];rfl
theorem Eo(x w:RN d)(c h:RN d):∀(zs:List (RN d)) (s:RN d),((bR x w s zs).map swp).map (qt c)=bR (c-(x+w)) w s zs
 |[],_=>rfl
 |z::l,s=>by
  unfold bR
  rw[map_cons,map_cons,Eo x w c h l _];rfl
theorem Ey(x w:RN d)(c:RN d):∀(zs:List (RN d)) (s:RN d),(ck x w s zs).map (qt c)=(bR x w (c-s) zs).map swp
 |[],_=>rfl
 |z::l,s=>by
  unfold ck bR
  have e:c-(s+z*w)=c-s-z*w:=by grind
  rw[map_cons,map_cons,Ey x w c l _,e]
  congr 1
  unfold qt swp
  rw[e]
theorem EU(x w:RN d)(c:RN d):∀(zs:List (RN d)) (s:RN d),(bR x w s zs).map (qt c)=(ck x w (c-s) zs).map swp
 |[],_=>rfl
 |z::l,s=>by
  unfold ck bR
  have e:c-(s-z*w)=c-s+z*w:=by grind
  have e2:c-(s-z*w+z*w)=c-s:=by grind
  rw[map_cons,map_cons,EU x w c l _,e]
  congr 1
  unfold qt swp
  rw[e2]
theorem FV(q:Nat)(up:Bool):kH (q+1) up = !kH q up:=by
 unfold kH
 rcases (by omega:q % 2=0\/q % 2=1) with e|e
 ·rw[show (q+1) % 2=1 by omega,e];cases up<;>rfl
 ·rw[show (q+1) % 2=0 by omega,e];cases up<;>rfl
theorem Km(q:Nat)(up:Bool):bck (q+1) up=(bck q up ^^ kH q up):=by
 unfold bck kH
 rcases (by omega:q % 4=0\/q % 4=1\/q % 4=2\/q % 4=3) with e|e|e|e
 ·rw[show (q+1) % 4=1 by omega,e,show q % 2=0 by omega];cases up<;>rfl
 ·rw[show (q+1) % 4=2 by omega,e,show q % 2=1 by omega];cases up<;>rfl
 ·rw[show (q+1) % 4=3 by omega,e,show q % 2=0 by omega];cases up<;>rfl
 ·rw[show (q+1) % 4=0 by omega,e,show q % 2=1 by omega];cases up<;>rfl
theorem yv(q:Nat)(up:Bool)(c:RN d)(B:Bo d)(zs:List (RN d)):aS (q+1) up (qt c B) zs=(aS q up B zs).map (qt c):=by
 unfold aS
 rw[FV,Km]
 cases kH q up
 ·show rise (bck q up ^^ false) (qt c B) zs=((rise (bck q up) (swp B) zs).map swp).map (qt c)
  rw[xor_false]
  unfold rise
  cases bck q up
  ·exact (EY B.y B.h c B.x zs B.x).symm
  ·exact (Eo B.y B.h c B.x zs (B.x+B.w)).symm
 ·show (rise (bck q up ^^ true) (swp (qt c B)) zs).map swp=(rise (bck q up) B zs).map (qt c)
  unfold rise
  cases bck q up
  ·show (bR B.x B.w (c-(B.y+B.h)+B.h) zs).map swp=(ck B.x B.w B.y zs).map (qt c)
   rw[Ey,show c-(B.y+B.h)+B.h=c-B.y by grind]
  ·show (ck B.x B.w (c-(B.y+B.h)) zs).map swp=(bR B.x B.w (B.y+B.h) zs).map (qt c)
   rw[EU]
theorem en(q:Nat)(u v:Int):aH (q+1) u v=aH q v u:=by unfold aH;split<;>split<;>first|rfl|omega
theorem zD(hd:aj d){q:Nat}{u v r:Int}(a:RN d)(B:Bo d)(c:Int)(h:0<aH q v u):dI (q+1) u v (qt a B) (aH q v u-1-r) c=qt a (dI q u v B c r):=by
 have hv:=inv_mul hd (bb (d:=d) (n:=aH q v u) h)
 unfold dI
 rw[en,en,um,um,B3]
 unfold qt
 congr 1
 dsimp only
 generalize inv ((aH q v u:Int):RN d)=iv at *
 generalize ((aH q v u:Int):RN d)=v' at *
 grind
end
section
variable {d:Int}
structure In(T:Bo d)(a b:RN d):Prop where
 x0:nn (a-T.x)
 x1:ps (T.x+T.w-a)
 y0:nn (b-T.y)
 y1:ps (T.y+T.h-b)
structure Rat(q:Nat)(x:RN d)(B:Bo d):Prop where
 w:ps B.w
 h:ps B.h
 r0:q % 2=0->B.h=x*B.w
 r1:q % 2=1->B.w=x*B.h
theorem foldl_add:∀(l:List (RN d)) (a:RN d),l.foldl (· + ·) a=a+cV l
 |[],a=>by unfold cV;simp only[List.foldl_nil];grind
 |z::l,a=>by
  unfold cV
  rw[List.foldl_cons,List.foldl_cons,foldl_add l (a+z),foldl_add l (0+z)]
  grind
theorem oZ:cV ([]:List (RN d))=0:=rfl
theorem dk(z:RN d)(l:List (RN d)):cV (z::l)=z+cV l:=by
 unfold cV;rw[List.foldl_cons,foldl_add];unfold cV;grind
theorem Bm(hd:aj d):∀{l:List (RN d)},(∀z∈l,ps z)->nn (cV l)
 |[],_=>LJ
 |z::l,h=>by rw[dk];exact GI hd (Ez hd (h z (by simp))) (Bm hd fun y hy=>h y (by simp[hy]))
theorem BC(hd:aj d){l:List (RN d)}(h:∀z∈l,ps z)(hn:l≠[]):ps (cV l):=by
 cases l with
 |nil=>exact absurd rfl hn
 |cons z l=>rw[dk];exact EB hd (h z (by simp)) (Bm hd fun y hy=>h y (by simp[hy]))
theorem qv{x w:RN d}:∀{zs:List (RN d)} {s:RN d} {j:Nat} {B:Bo d},(ck x w s zs)[j]? = some B->∃z,zs[j]? = some z/\B=⟨x,s+cV (zs.take j)*w,w,z*w⟩
 |[],_,_,_,h=>by simp[ck] at h
 |z::l,s,0,B,h=>by
  simp only[ck,getElem?_cons_zero,Option.some.injEq] at h
  refine⟨z,rfl,?_⟩
  rw[<- h,List.take_zero,oZ]
  congr 1;grind
 |z::l,s,j+1,B,h=>by
  simp only[ck,getElem?_cons_succ] at h
  obtain⟨z',h1,h2⟩:=qv h
  refine⟨z',by simpa using h1,?_⟩
  rw[h2,List.take_succ_cons,dk]
  congr 1;grind
theorem qU{x w:RN d}:∀{zs:List (RN d)} {s:RN d} {j:Nat} {B:Bo d},(bR x w s zs)[j]? = some B->∃z,zs[j]? = some z/\B=⟨x,s-cV (zs.take j)*w-z*w,w,z*w⟩
 |[],_,_,_,h=>by simp[bR] at h
 |z::l,s,0,B,h=>by
  simp only[bR,getElem?_cons_zero,Option.some.injEq] at h
  refine⟨z,rfl,?_⟩
  rw[<- h,List.take_zero,oZ]
  congr 1;grind
 |z::l,s,j+1,B,h=>by
  simp only[bR,getElem?_cons_succ] at h
  obtain⟨z',h1,h2⟩:=qU h
  refine⟨z',by simpa using h1,?_⟩
  rw[h2,List.take_succ_cons,dk]
  congr 1;grind
theorem qZ{x w:RN d}:∀{zs:List (RN d)} {s:RN d},(ck x w s zs).length=zs.length
 |[],_=>rfl
 |_::l,_=>by simp only[ck,length_cons,qZ]
theorem qP{x w:RN d}:∀{zs:List (RN d)} {s:RN d},(bR x w s zs).length=zs.length
 |[],_=>rfl
 |_::l,_=>by simp only[bR,length_cons,qP]
theorem iL{bk:Bool}{B:Bo d}{zs:List (RN d)}:(rise bk B zs).length=zs.length:=by
 unfold rise;split
 ·exact qP
 ·exact qZ
theorem gS{q:Nat}{up:Bool}{B:Bo d}{zs:List (RN d)}:(aS q up B zs).length=zs.length:=by
 unfold aS;split
 ·exact iL
 ·rw[length_map];exact iL
theorem ka{bk:Bool}{B:Bo d}{zs:List (RN d)}{j:Nat}{C:Bo d}(h:(rise bk B zs)[j]? = some C):∃z,zs[j]? = some z/\C=⟨B.x,if bk=true then B.y+B.h-cV (zs.take j)*B.w-z*B.w else B.y+cV (zs.take j)*B.w,B.w,z*B.w⟩:=by
 unfold rise at h
 cases bk
 ·exact qv h
 ·exact qU h
theorem oX(hd:aj d){up:Bool}{es:List (PyData×RN d)}(h:∀e∈es,ps e.2):∀z∈aK up es,ps z:=fun z hz=>by
 obtain⟨e,he,rfl⟩:=List.mem_map.mp hz
 split
 ·exact h e he
 ·exact jU hd (h e he)
theorem vx(hd:aj d){q:Nat}{up:Bool}{es:List (PyData×RN d)}{B C:Bo d}{j:Nat}{e:PyData×RN d}(hw:ps B.w)(hh:ps B.h)(hp:∀e∈es,ps e.2)(he:es[j]? = some e)(h:(aS q up B (aK up es))[j]? = some C):Rat q e.2 C:=by
 have hz:=oX hd (up:=up) hp
 have pe:=hp e (mem_of_getElem? he)
 have ie:=inv_mul hd pe
 have pi:=jU hd pe
 have sz:(aK up es)[j]? = some (if up=true then e.2 else inv e.2):=by unfold aK;rw[getElem?_map,he];rfl
 unfold aS at h
 cases hv:kH q up
 ·rw[hv,if_neg ⋯,getElem?_map] at h
  obtain⟨C',h1,rfl⟩:=Option.map_eq_some_iff.mp h
  obtain⟨z,h2,rfl⟩:=ka h1
  rw[sz] at h2;cases h2
  unfold kH at hv
  rcases (by omega:q % 2=0\/q % 2=1) with e|e
  ·rw[e] at hv
   cases up
   ·exact⟨gR hd pi hh,hh,fun _=>by show B.h=_*(inv _*B.h);grind,fun z=>by omega⟩
   ·exact nomatch hv
  ·rw[e] at hv
   cases up
   ·exact nomatch hv
   ·exact⟨gR hd pe hh,hh,fun z=>by omega,fun _=>rfl⟩
 ·rw[hv,if_pos rfl] at h
  obtain⟨z,h2,rfl⟩:=ka h
  rw[sz] at h2;cases h2
  unfold kH at hv
  rcases (by omega:q % 2=0\/q % 2=1) with e|e
  ·rw[e] at hv
   cases up
   ·exact nomatch hv
   ·exact⟨hw,gR hd pe hw,fun _=>rfl,fun z=>by omega⟩
  ·rw[e] at hv
   cases up
   ·exact⟨hw,gR hd pi hw,fun z=>by omega,fun _=>by show B.w=_*(inv _*B.w);grind⟩
   ·exact nomatch hv
theorem Bz(hd:aj d){q:Nat}{x:RN d}{B:Bo d}(hx:ps x)(r:Rat q (inv x) B):Rat (q+1) x B:=by
 have ix:=inv_mul hd hx
 refine⟨r.w,r.h,fun z=>?_,fun z=>?_⟩
 ·have:=r.r1 ∅;generalize inv x=iv at *;grind
 ·have:=r.r0 ∅;generalize inv x=iv at *;grind
theorem cY{q:Nat}{u v:Int}(hu:1<=u)(hv:1<=v):0<aH q u v:=by unfold aH;split<;>omega
theorem B0(hd:aj d){q:Nat}{x:RN d}{B:Bo d}{u v:Int}(c r':Int)(hu:1<=u)(hv:1<=v)(r:Rat q (x*((v:RN d)*inv (u:RN d))) B):Rat q x (dI q u v B c r'):=by
 have p1:=bb (d:=d) (n:=u) ∅
 have p2:=bb (d:=d) (n:=v) ∅
 have i1:=inv_mul hd p1
 have i2:=inv_mul hd p2
 have p3:=jU hd (bb (d:=d) (cY (q:=q) hu hv))
 have p4:=jU hd (bb (d:=d) (cY (q:=q) hv hu))
 refine⟨gR hd r.w p3,gR hd r.h p4,fun z=>?_,fun z=>?_⟩
 ·have:=r.r0 z
  unfold dI
  dsimp only
  rw[show aH q u v=u by unfold aH;rw[if_neg ∅],show aH q v u=v by unfold aH;rw[if_neg ∅],this]
  generalize inv (u:RN d)=iu at *
  generalize inv (v:RN d)=iv at *
  generalize (u:RN d)=u' at *
  generalize (v:RN d)=v' at *
  grind
 ·have:=r.r1 z
  unfold dI
  dsimp only
  rw[show aH q u v=v by unfold aH;rw[if_pos z],show aH q v u=u by unfold aH;rw[if_pos z],this]
  generalize inv (u:RN d)=iu at *
  generalize inv (v:RN d)=iv at *
  generalize (u:RN d)=u' at *
  generalize (v:RN d)=v' at *
  grind
end
section
variable {d:Int}
structure Bw(S P:Nat)(B:Bo d):Prop where
 x:Bd P B.x.v
 y:Bd P B.y.v
 w:Bd S B.w.v
 h:Bd S B.h.v
theorem Bw.mono{S P S' P':Nat}{B:Bo d}(h:Bw S P B)(l1:S<=S')(l2:P<=P'):Bw S' P' B:=⟨h.x.mono l2,h.y.mono l2,h.w.mono l1,h.h.mono l1⟩
theorem Bw.swp{S P:Nat}{B:Bo d}(h:Bw S P B):Bw S P (swp B):=⟨h.y,h.x,h.h,h.w⟩
theorem bdA{n m:Nat}{a b:RN d}(h:Bd n a.v)(g:Bd m b.v):Bd (n+m+1) (a+b).v:=DV a.ok b.ok h g
theorem bdS{n m:Nat}{a b:RN d}(h:Bd n a.v)(g:Bd m b.v):Bd (n+m+1) (a-b).v:=Cz a.ok b.ok h g
theorem bdM{n m:Nat}{a b:RN d}(hd:aj d)(h:Bd n a.v)(g:Bd m b.v):Bd (n+m+6) (a*b).v:=t6 (fP hd.1 hd.2.1) a.ok b.ok h g
theorem bdI{n:Nat}{a:RN d}(hd:aj d)(p:ps a)(h:Bd n a.v):Bd (2*n+6) (inv a).v:=by rw[iZ hd p];exact i8 (fP hd.1 hd.2.1) (gD hd p) h
theorem bdC{n:Int}(h0:0<=n)(h1:n<=1000000):Bd 20 ((n:Int):RN d).v:=⟨Sz.of (by show n.natAbs<1048576;omega),Sz.of (by show (0:Int).natAbs<1048576;decide),Sz.of (by show (1:Int).natAbs<1048576;decide)⟩
theorem nO{q:Nat}{u v:Int}(hu:u<=1000000)(hv:v<=1000000):aH q u v<=1000000:=by unfold aH;split<;>omega
theorem xU(hd:aj d){S P q:Nat}{B:Bo d}{u v c r:Int}(hu:1<=u)(hv:1<=v)(hu':u<=1000000)(hv':v<=1000000)(c0:0<=c)(c1:c<aH q u v)(r0:0<=r)(r1:r<aH q v u)(h:Bw S P B):Bw (S+60) (P+S+100) (dI q u v B c r):=by
 have l1:=nO (q:=q) hu' hv'
 have l2:=nO (q:=q) hv' hu'
 have w1:=cY (q:=q) hu hv
 have w2:=cY (q:=q) hv hu
 have i1:=bdI hd (bb (d:=d) w1) (bdC ∅ l1)
 have i2:=bdI hd (bb (d:=d) w2) (bdC ∅ l2)
 have W:=bdM hd h.w i1
 have H:=bdM hd h.h i2
 have X:=bdA h.x (bdM hd (bdC (d:=d) c0 ∅) W)
 have ZZ:=bdA h.y (bdM hd (bdC (d:=d) r0 ∅) H)
 exact⟨X.mono ∅,ZZ.mono ∅,W.mono ∅,H.mono ∅⟩
theorem nD(hd:aj d){S P:Nat}{x w:RN d}(hx:Bd P x.v)(hw:Bd S w.v):∀{zs:List (RN d)} {s:RN d} {R:Nat},(∀z∈zs,Bd 4300 z.v)->Bd R s.v->P<=R ->
  (∀C∈ck x w s zs,Bw (S+4306) (R+zs.length*(S+4307)) C)/\(∀C∈bR x w s zs,Bw (S+4306) (R+zs.length*(S+4307)) C)
 |[],s,R,_,_,_=>⟨fun _ h=>(nomatch h),fun _ h=>(nomatch h)⟩
 |z::l,s,R,hz,hs,le=>by
  have bz:=bdM hd (hz z (by simp)) hw
  have e:(z::l).length*(S+4307)=S+4307+l.length*(S+4307):=by rw[length_cons,add_mul,Nat.one_mul,Nat.add_comm]
  have b1:Bd (R+(S+4307)) (s+z*w).v:=(bdA hs bz).mono ∅
  have b2:Bd (R+(S+4307)) (s-z*w).v:=(bdS hs bz).mono ∅
  obtain⟨h1,_⟩:=nD (zs:=l) hd hx hw (fun y hy=>hz y (by simp[hy])) b1 ∅
  obtain⟨_,h2⟩:=nD (zs:=l) hd hx hw (fun y hy=>hz y (by simp[hy])) b2 ∅
  refine⟨fun C hC=>?_,fun C hC=>?_⟩
  ·rcases List.mem_cons.mp hC with q|q
   ·rw[q];exact⟨hx.mono ∅,hs.mono ∅,hw.mono ∅,bz.mono ∅⟩
   ·exact (h1 C q).mono (le_refl _) ∅
  ·rcases List.mem_cons.mp hC with q|q
   ·rw[q];exact⟨hx.mono ∅,b2.mono ∅,hw.mono ∅,bz.mono ∅⟩
   ·exact (h2 C q).mono (le_refl _) ∅
theorem qD(hd:aj d){S P q:Nat}{up:Bool}{B:Bo d}{zs:List (RN d)}(h:Bw S P B)(hz:∀z∈zs,Bd 4300 z.v)(hl:zs.length<=8):∀C∈aS q up B zs,Bw (S+4306) (P+9*S+40000) C:=by
 have one:∀(bk:Bool) (B:Bo d),Bw S P B->∀C∈rise bk B zs,Bw (S+4306) (P+9*S+40000) C:=fun bk B h C hC=>by
  have ml:zs.length*(S+4307)<=8*(S+4307):=mul_le_mul_right _ hl
  unfold rise at hC
  cases bk
  ·exact ((nD hd h.x h.w hz h.y (le_refl _)).1 C hC).mono (le_refl _) ∅
  ·exact ((nD hd h.x h.w hz (bdA h.y h.h) ∅).2 C hC).mono (le_refl _) ∅
 intro C hC
 unfold aS at hC
 split at hC
 ·exact one _ _ h C hC
 ·obtain⟨C',h1,rfl⟩:=List.mem_map.mp hC
  exact (one _ _ h.swp C' h1).swp
noncomputable def bS(m:Nat):Nat:=4400+4306*m
noncomputable def bP(m:Nat):Nat:=4400+600000*m
theorem Go.bw(hd:aj d){ks:List N3}{n q q':Nat}{t:PyData}{x:RN d}{B T:Bo d}{i:Int}(g:Go d ks n q t x B T i q'):∀{m:Nat},n+m<=13->Bw (bS m) (bP m) B->Bw (bS 13) (bP 13) T:=by
 induction g with
 |@kind n q B i k h0 h1 h2 h3=>exact fun {m} l h=>h.mono (by unfold bS;omega) (by unfold bP;omega)
 |@turn n q q' t x B T i h1 h2 h3 _ ih=>exact fun {m} l h=>ih (m:=m) ∅ h
 |@grid n q q' t x B T i u v c r h1 h2 h3 h4 h5 h6 h7 h8 h9 h10 h11 _ ih=>
  exact fun {m} l h=>ih (m:=m+1) ∅ ((xU hd h1 h2 h3 h4 h8 h9 h10 h11 h).mono (by unfold bS;omega) (by unfold bS bP;omega))
 |@strip n q q' B T B' i up es j e h1 h2 h3 h4 h5 h6 _ ih=>
  exact fun {m} l h=>ih (m:=m+1) ∅ ((qD hd h h4 (by unfold aK;rw[length_map];exact h2) _ (mem_of_getElem? h6)).mono (by unfold bS;omega) (by unfold bS bP;omega))
noncomputable def fl(x:RN d):Bo d:=⟨0,0,1,x⟩
theorem zZ(hd:aj d){x:RN d}(h:ps x):mv (inv x) 0 0 (qt x (fl x))=fl (inv x):=by
 have i:=inv_mul hd h
 unfold mv qt fl
 generalize inv x=y at *
 congr 1<;>dsimp only<;>grind
theorem zR(hd:aj d){x:RN d}{u v c r:Int}(hu:1<=u)(hv:1<=v):mv (inv (u:RN d)) ((c:RN d)*inv (u:RN d)) (x*((r:RN d)*inv (u:RN d))) (fl x)=dI 0 u v (fl (x*((v:RN d)*inv (u:RN d)))) c r:=by
 have i2:=inv_mul hd (bb (d:=d) (n:=v) ∅)
 unfold mv dI fl
 rw[show aH 0 u v=u from rfl,show aH 0 v u=v from rfl]
 generalize inv (u:RN d)=iu at *
 generalize inv (v:RN d)=iv at *
 generalize (v:RN d)=v' at *
 congr 1<;>dsimp only<;>grind
theorem rp{q:Nat}{up:Bool}{B:Bo d}{zs:List (RN d)}{j:Nat}(h:j<zs.length):∃C,(aS q up B zs)[j]? = some C:=by
 have:j<(aS q up B zs).length:=by rw[gS];exact h
 exact⟨_,getElem?_eq_getElem this⟩
theorem BU{X:RN d}{zs:List (RN d)}{j:Nat}{z:RN d}(h:zs[j]? = some z):(aS 0 true (fl X) zs)[j]? = some (mv 1 0 (cV (zs.take j)) (fl z)):=by
 obtain⟨C,hC⟩:=rp (q:=0) (up:=true) (B:=fl X) (List.getElem?_eq_some_iff.mp h).1
 have hC':(rise false (fl X) zs)[j]? = some C:=hC
 obtain⟨z',h1,h2⟩:=ka hC'
 rw[h] at h1;cases h1
 rw[hC,h2]
 unfold mv fl
 congr 2<;>simp only[false_eq_true,↓reduceIte]<;>grind
theorem xQ(f:RN d):∀(l:List (RN d)),cV (l.map (f * ·))=f*cV l
 |[]=>by rw[map_nil,oZ];grind
 |z::l=>by rw[map_cons,dk,dk,xQ f l];grind
theorem wD(hd:aj d){X x:RN d}{zs:List (RN d)}{j:Nat}(hx:ps x)(h:zs[j]? = some (inv x)):(aS 0 false (fl X) zs)[j]? = some (mv (X*inv x) (cV ((zs.take j).map (X * ·))) 0 (fl x)):=by
 have i:=inv_mul hd hx
 obtain⟨C,hC⟩:=rp (q:=0) (up:=false) (B:=fl X) (List.getElem?_eq_some_iff.mp h).1
 have hC':((rise false (swp (fl X)) zs).map swp)[j]? = some C:=hC
 rw[getElem?_map] at hC'
 obtain⟨C',h0,rfl⟩:=Option.map_eq_some_iff.mp hC'
 obtain⟨z',h1,rfl⟩:=ka h0
 rw[h] at h1;cases h1
 rw[hC,xQ]
 unfold mv fl swp
 generalize inv x=y at *
 congr 2<;>simp only[false_eq_true,↓reduceIte]<;>grind
end
noncomputable def BK(b:Bool)(ks:List N3):PyData:=if b=true then .list (ks.map dN) else .tuple (ks.map dN)
noncomputable def fN(n:Nat):DSp:=fun ds U Q=>∃(d:Int) (ks:List N3) (b:Bool) (t:PyData) (x:N3),ds=[.v (.int d),.v (BK b ks),.v t]/\aj d/\Sh t/\SP d ks n t x/\∀Y,(∀b ds,U b=some ds->Y b=some ds)->Q (.v (dN x)) Y
theorem nZ{n:Nat}{U:Mu}{Q:DK}{ds:List D}(h:fN n ds U Q):ds.length=3:=by obtain⟨_,_,_,_,_,rfl,_⟩:=h;rfl
theorem xM{U:Mu}{Q:DK}{ds:List D}(h:fN 0 ds U Q):False:=by obtain⟨_,_,_,_,_,_,_,_,h,_⟩:=h;cases h
noncomputable abbrev bE(n:Nat):DSp:=fN n
theorem sP{n:Nat}{U:Mu}{Q:DK}{ds:List D}(h:bE n ds U Q):ds.length=3:=nZ h
theorem yB{U:Mu}{Q:DK}{ds:List D}(h:bE 0 ds U Q):False:=xM h
noncomputable def xP:DSp:=fun ds U Q=>∃(a:Addr) (d:Int) (ks:List N3) (t:PyData) (dd c:Nat),ds=[.m a,.v (.int d),.v (.tuple (ks.map dN)),.v t]/\aj d/\KindsOk d ks/\IsP (ks.length:Nat) dd c t/\dd<=12/\Bag U a /\
 ∀ks' Y,KindsOk d ks'->ks'.length=ks.length->(c<=12\/∀k∈ks',Bd 4 k)->gp a U Y->Q (.v (.tuple (ks'.map dN))) Y
theorem yI{U:Mu}{Q:DK}{ds:List D}(h:xP ds U Q):ds.length=4:=by obtain⟨_,_,_,_,_,_,rfl,_⟩:=h;rfl
noncomputable def pF(n:Nat):DTS:=
 (ak (az (dOp ai (ae 2) (dC (.int 0))) (af 3))
 (ak (aL (dB (dOp (aJ false) (ae 3) (dC (.str "kind")))) (aC (dOp ai (ae 1) (dOp ai (ae 2) (dC (.int 1))))) aF)
 (ak (az (aP [none,some 0,some 1] (aZ (ah jo (aa (ae 2) ag))) (af 0) aW (ah (fN n) (aa (ae 1) (aa (ae 2) (aa (ae 0) ag))))) (af 4))
 (ak (aL (dB (dOp (aJ false) (ae 3) (dC (.str "turn")))) (aC (ah aM (aa (ae 0) (aa (dOp ai (ae 4) (dC (.int 0))) ag)))) aF)
 (ak (aL (dB (dOp (aJ false) (ae 3) (dC (.str "grid")))) (aC (ah a7 (aa (ae 0) (aa (dOp ai (ae 4) (dC (.int 0))) (aa (ah aR (aa (dOp ai (ae 2) (dC (.int 2))) (aa (dC (.int 0)) (aa (dOp ai (ae 2) (dC (.int 1))) ag)))) ag))))) aF)
 (ak (aL (dB (dOp (aJ false) (ae 3) (dC (.str "upon")))) (aC (ah kB (aa (ae 4) ag))) aF)
 (aC (ah aM (aa (ae 0) (aa (ah kB (aa (aP [none,some 0] (aZ (ae 4)) (af 0) aW (ah aM (aa (ae 1) (aa (ae 0) ag)))) ag)) ag))))))))))
noncomputable def jD(n:Nat):DTS:=
 (ak (aL (dB (dOp (aJ false) (dOp ai (ae 2) (dC (.int 0))) (dC (.str "kind")))) (aC (dOp ai (ae 1) (dOp ai (ae 2) (dC (.int 1))))) aF)
 (ak (aL (dB (dOp (aJ false) (dOp ai (ae 2) (dC (.int 0))) (dC (.str "turn")))) (aC (ah aM (aa (ae 0) (aa (ah (bE n) (aa (ae 0) (aa (ae 1) (aa (dOp ai (ae 2) (dC (.int 1))) ag)))) ag)))) aF)
 (ak (aL (dB (dOp (aJ false) (dOp ai (ae 2) (dC (.int 0))) (dC (.str "grid")))) (aC (ah a7 (aa (ae 0) (aa (ah (bE n) (aa (ae 0) (aa (ae 1) (aa (dOp ai (ae 2) (dC (.int 3))) ag)))) (aa (ah aR (aa (dOp ai (ae 2) (dC (.int 2))) (aa (dC (.int 0)) (aa (dOp ai (ae 2) (dC (.int 1))) ag)))) ag))))) aF)
 (ak (az (aP [none,some 0,some 1] (fK (dOp ai (ae 2) (dC (.int 1)))) (af 0) aW (ah (bE n) (aa (ae 1) (aa (ae 2) (aa (ae 0) ag))))) (af 3))
 (ak (aL (dB (dOp (aJ false) (dOp ai (ae 2) (dC (.int 0))) (dC (.str "upon")))) (aC (ah kB (aa (ae 3) ag))) aF)
 (aC (ah aM (aa (ae 0) (aa (ah kB (aa (aP [none,some 0] (aZ (ae 3)) (af 0) aW (ah aM (aa (ae 1) (aa (ae 0) ag)))) ag)) ag)))))))))
section
variable {U:Mu}{Qd:DK}{ds:List D}{ρ:Rho}{d:Int}{ks:List N3}{n:Nat}{b:Bool}
theorem rL{i:Int}{k:N3}(i0:0<=i)(h:ks[i.toNat]? = some k)(q:Qd (.v (dN k)) U):ai (.v (BK b ks)) (.v (.int i)) U Qd:=by
 have e:atI (ks.map dN) i=some (dN k):=by
  have:=fA (xs:=ks.map dN) (j:=i.toNat) (v:=dN k) (by rw[getElem?_map,h];rfl)
  rw[show ((i.toNat:Nat):Int)=i by omega] at this
  exact this
 cases b with
 |true=>show ai (.v (.list (ks.map dN))) _ _ _;rw[hV,e];exact q
 |false=>show ai (.v (.tuple (ks.map dN))) _ _ _;rw[gn,e];exact q
theorem dg{src:DTI}{es:List (PyData×N3)}(hs:∀QI:List PyData->Mu->Prop,QI (es.map (·.1)) U->src ρ U QI)(hl:es.length<=8)(hd:aj d)(h0:ρ[0]? = some (some (.v (.int d))))(h1:ρ[1]? = some (some (.v (BK b ks))))
  (hh:∀e∈es,Sh e.1/\SP d ks n e.1 e.2) (q:∀Y,(∀b ds,U b=some ds->Y b=some ds)->Qd (.v (.list ((es.map (·.2)).map dN))) Y) :
  aP [none,some 0,some 1] src (af 0) aW (ah (fN n) (aa (ae 1) (aa (ae 2) (aa (ae 0) ag)))) ρ U Qd:=by
 rw[bF]
 refine hs _ ⟨by rw[length_map];omega,fun p hp=>⟨fun i acc Y=>acc=((es.take i).map (·.2)).map dN/\∀b ds,b≠p->U b=some ds->Y b=some ds,⟨by simp,fun b ds hb e=>by rw[au hb];exact e⟩,?_,?_⟩⟩
 ·rintro i x acc Y hx hacc ⟨rfl,hk⟩
  rw[getElem?_map] at hx
  obtain⟨e,he,rfl⟩:∃e,es[i]? = some e/\e.1=x:=by
   cases z:es[i]? with
   |none=>rw[z] at hx;cases hx
   |some e=>rw[z] at hx;exact⟨e,rfl,by simpa using hx⟩
  have hm:=hh e (mem_of_getElem? he)
  simp only[a8,bU,b0,h0,h1,bind_some,bind_none,join_some,set_cons_zero,b9,↓reduceIte,dG,d7,dz,true_and,and_true,dq,bI,cO,cm,cw,cG]
  refine⟨d,ks,b,e.1,e.2,rfl,hd,hm.1,hm.2,fun ce h4=>⟨h4 _ _ hacc,?_,fun b ds hb e'=>by rw[au hb];exact h4 b ds (hk b ds hb e')⟩⟩
  rw[take_succ,he];simp
 ·rintro acc Y ⟨rfl,hk⟩ hacc
  rw[length_map,take_length]
  exact q _ fun b ds e=>by
   have hb:b≠p:=fun z=>by rw[z,hp] at e;cases e
   rw[bV hb];exact hk b ds hb e
theorem uA{src:DTI}{xs:List N3}(hs:∀QI:List PyData->Mu->Prop,QI (xs.map dN) U->src ρ U QI)(hl:xs.length<=8)(hd:aj d)(h0:ρ[0]? = some (some (.v (.int d))))(hh:∀x∈xs,G d x)
  (q:Qd (.v (.list ((xs.map (aB d)).map dN))) U):aP [none,some 0] src (af 0) aW (ah aM (aa (ae 1) (aa (ae 0) ag))) ρ U Qd:=by
 rw[bF]
 refine hs _ ⟨by rw[length_map];omega,fun p hp=>⟨fun i acc Y=>acc=((xs.take i).map (aB d)).map dN/\Y=aE U p acc,⟨by simp,rfl⟩,?_,?_⟩⟩
 ·rintro i x acc Y hx hacc ⟨rfl,rfl⟩
  obtain⟨y,hy,rfl⟩:=JG hx
  have g:=hh y (mem_of_getElem? hy)
  simp only[a8,bU,b0,h0,bind_some,bind_none,join_some,set_cons_zero,b9,↓reduceIte,dG,d7,dz,true_and,and_true,dq,bI,cO,cm,cw]
  refine⟨d,y,rfl,fP hd.1 hd.2.1,g.2.1,g.2.2.mono ⋯,hacc,?_,?_⟩
  ·rw[take_succ,hy];simp
  ·rw[bL]
 ·rintro acc Y ⟨rfl,rfl⟩ hacc
  rw[cf hp,length_map,take_length]
  exact q
theorem jg{es:List (PyData×N3)}:(es.map (·.2)).length=es.length:=length_map _
theorem wO(n:Nat)(h:fN (n+1) ds U Qd):pF n ‹Qd› (ao ["d","shapes","plan","word","inner"] ds) U:=by
 obtain⟨d,ks,b,t,x,rfl,hd,hs,sp,q⟩:=h
 have hz:=fP hd.1 hd.2.1
 unfold pF
 cases sp with
 |kind i k i0 i1 hk=>
  walk_at "ru"
  simp only[aw bJ bJ,uY,false_xor,↓reduceIte]
  exact rL i0 hk (q U fun _ _ e=>e)
 |@turn _ t' y h1 g=>
  walk_at "ru"
  simp only[aw cb bJ,qc,false_xor,false_eq_true,↓reduceIte]
  refine dg (es:=[(t',y)]) (fun QI hq=>?_) (by simp) hd rfl rfl (fun e he=>by rw[List.mem_singleton.mp he];exact⟨hs.mem t' (by simp),h1⟩) fun ac k1=>?_
  ·walk_at "ru"
   exact⟨_,1,[t'],rfl,hs,by show bu 1 (.str "turn") t'=_;unfold bu;rw[if_neg (by rw[qc];decide),if_pos tJ],hq⟩
  walk_at "ru"
  simp only[map_cons,map_nil,aw cb cb,tJ,false_xor,↓reduceIte,eK]
  exact⟨d,y,rfl,hz,g.2.1,g.2.2.mono ⋯,q ac k1⟩
 |@grid _ t' y u v hu hv hu' hv' h1 oy by_=>
  walk_at "ru"
  simp only[aw bh bJ,wx,false_xor,false_eq_true,↓reduceIte]
  refine dg (es:=[(t',y)]) (fun QI hq=>?_) (by simp) hd rfl rfl (fun e he=>by rw[List.mem_singleton.mp he];exact⟨hs.mem t' (by simp),h1⟩) fun ac k1=>?_
  ·walk_at "ru"
   refine⟨_,1,[t'],rfl,hs,?_,hq⟩
   show fq (.str "grid") (.int u) (.int v) t'=_
   unfold fq
   rw[if_pos oV,if_pos]
   show ((true&&decide (1<=u))&&(true&&decide (1<=v)))=true
   rw[decide_eq_true hu,decide_eq_true hv];rfl
  walk_at "ru"
  simp only[map_cons,map_nil,aw bh cb,aw bh bh,zm,oV,false_xor,false_eq_true,↓reduceIte,eK]
  have bf:Bd 20 (low v 0 u):=eM ∅ (Sz.of (by show v.natAbs<1048576;omega)) sz0 (Sz.of (by show u.natAbs<1048576;omega))
  refine⟨v,0,u,rfl,∅,(Sz.of (n:=20) (by show u.natAbs<1048576;omega)).mono ⋯,?_⟩
  exact⟨d,y,low v 0 u,rfl,hz,oy,dX _ _ ∅,by_.mono ⋯,bf.mono ⋯,q ac k1⟩
 |@upon _ es h2 h8 hh ss=>
  walk_at "ru"
  simp only[aw dU bJ,wm,false_xor,false_eq_true,↓reduceIte]
  have hp:∀e∈es,Sh e.1:=fun e he=>(hs.mem (.tuple (es.map (·.1))) (by simp)).mem e.1 (mem_map_of_mem he)
  refine dg (es:=es) (fun QI hq=>?_) h8 hd rfl rfl (fun e he=>⟨hp e he,hh e he⟩) fun ac k1=>?_
  ·walk_at "ru"
   exact⟨_,1,_,rfl,hs,eo (.inl rfl) (by simpa using h2) (by simpa using h8),hq⟩
  walk_at "ru"
  simp only[aw dU cb,aw dU bh,aw dU dU,yC,wc,AR,false_xor,false_eq_true,↓reduceIte]
  exact⟨_,rfl,by rw[jg];omega,ss.big,q ac k1⟩
 |@beside _ es h2 h8 hh hg ss g=>
  walk_at "ru"
  simp only[aw gW bJ,vI,false_xor,false_eq_true,↓reduceIte]
  have hp:∀e∈es,Sh e.1:=fun e he=>(hs.mem (.tuple (es.map (·.1))) (by simp)).mem e.1 (mem_map_of_mem he)
  refine dg (es:=es) (fun QI hq=>?_) h8 hd rfl rfl (fun e he=>⟨hp e he,hh e he⟩) fun ac k1=>?_
  ·walk_at "ru"
   exact⟨_,1,_,rfl,hs,eo (.inr rfl) (by simpa using h2) (by simpa using h8),hq⟩
  walk_at "ru"
  simp only[aw gW cb,aw gW bh,aw gW dU,yq,vq,Ai,false_xor,false_eq_true,↓reduceIte]
  refine uA (xs:=es.map (·.2)) (fun QI hq=>by walk_at "ru";exact hq) (by rw[jg];exact h8) hd rfl (fun x hx=>by obtain⟨e,he,rfl⟩:=List.mem_map.mp hx;exact hg e he) ?_
  refine⟨_,rfl,by rw[length_map,jg];omega,ss.big,?_⟩
  exact⟨d,_,rfl,hz,g.2.1,g.2.2.mono ⋯,q ac k1⟩
theorem qe(n:Nat)(h:bE (n+1) ds U Qd):jD n ‹Qd› (ao ["_law_d","_law_kinds_here","_law_plan_here","_law_shapes"] ds) U:=by
 obtain⟨d,ks,b,t,x,rfl,hd,hs,sp,q⟩:=h
 have hz:=fP hd.1 hd.2.1
 unfold jD
 cases sp with
 |kind i k i0 i1 hk=>
  walk_at "ru"
  simp only[aw bJ bJ,uY,false_xor,↓reduceIte]
  exact rL i0 hk (q U fun _ _ e=>e)
 |@turn _ t' y h1 g=>
  walk_at "ru"
  simp only[aw cb bJ,aw cb cb,qc,tJ,false_xor,false_eq_true,↓reduceIte]
  refine⟨d,ks,b,t',y,rfl,hd,hs.mem t' (by simp),h1,fun ac k1=>?_⟩
  exact⟨d,y,rfl,hz,g.2.1,g.2.2.mono ⋯,q ac k1⟩
 |@grid _ t' y u v hu hv hu' hv' h1 oy by_=>
  walk_at "ru"
  simp only[aw bh bJ,aw bh cb,aw bh bh,wx,zm,oV,false_xor,false_eq_true,↓reduceIte]
  refine⟨d,ks,b,t',y,rfl,hd,hs.mem t' (by simp),h1,fun ac k1=>?_⟩
  have bf:Bd 20 (low v 0 u):=eM ∅ (Sz.of (by show v.natAbs<1048576;omega)) sz0 (Sz.of (by show u.natAbs<1048576;omega))
  refine⟨v,0,u,rfl,∅,(Sz.of (n:=20) (by show u.natAbs<1048576;omega)).mono ⋯,?_⟩
  exact⟨d,y,low v 0 u,rfl,hz,oy,dX _ _ ∅,by_.mono ⋯,bf.mono ⋯,q ac k1⟩
 |@upon _ es h2 h8 hh ss=>
  walk_at "ru"
  simp only[aw dU bJ,aw dU cb,aw dU bh,wm,yC,wc,false_xor,false_eq_true,↓reduceIte]
  have hp:∀e∈es,Sh e.1:=fun e he=>(hs.mem (.tuple (es.map (·.1))) (by simp)).mem e.1 (mem_map_of_mem he)
  refine dg (es:=es) (fun QI hq=>by walk_at "ru";exact hq) h8 hd rfl rfl (fun e he=>⟨hp e he,hh e he⟩) fun ac k1=>?_
  simp only[aw dU dU,AR,false_xor,false_eq_true,↓reduceIte]
  exact⟨_,rfl,by rw[jg];omega,ss.big,q ac k1⟩
 |@beside _ es h2 h8 hh hg ss g=>
  walk_at "ru"
  simp only[aw gW bJ,aw gW cb,aw gW bh,vI,yq,vq,false_xor,false_eq_true,↓reduceIte]
  have hp:∀e∈es,Sh e.1:=fun e he=>(hs.mem (.tuple (es.map (·.1))) (by simp)).mem e.1 (mem_map_of_mem he)
  refine dg (es:=es) (fun QI hq=>by walk_at "ru";exact hq) h8 hd rfl rfl (fun e he=>⟨hp e he,hh e he⟩) fun ac k1=>?_
  simp only[aw gW dU,Ai,false_xor,false_eq_true,↓reduceIte]
  refine uA (xs:=es.map (·.2)) (fun QI hq=>by walk_at "ru";exact hq) (by rw[jg];exact h8) hd rfl (fun x hx=>by obtain⟨e,he,rfl⟩:=List.mem_map.mp hx;exact hg e he) ?_
  refine⟨_,rfl,by rw[length_map,jg];omega,ss.big,?_⟩
  exact⟨d,_,rfl,hz,g.2.1,g.2.2.mono ⋯,q ac k1⟩
end
noncomputable def dZ:DTS:=
 (ak (aL (dB (dOp rLe (ah (de 31) (aa (ae 3) (aa (dCB a0 (aa (ae 2) ag)) (aa (dC (.int 12)) ag)))) (dC (.int 12)))) (aC (ae 2)) aF)
 (ak (az (gY ag) (af 4))
 (ak (gA (fK (ae 2)) (af 5) (ak (az (ah aR (aa (ib (ah aQ (aa (ae 0) (aa (dC (.int 9)) ag))) (dC (.int 4))) (aa (ib (ah aQ (aa (ae 0) (aa (dC (.int 5)) ag))) (dC (.int 2))) (aa (cM (dC (.int 1)) (ah aQ (aa (ae 0) (aa (dC (.int 3)) ag)))) ag)))) (af 6))
 (cA (nk (ae 4) (dOp ai (cL (aa (aO (aa (dC (.int 1)) (aa (dC (.int 0)) (aa (dC (.int 1)) ag)))) (aa (ae 6) (aa (ah jn (aa (ae 6) ag)) ag)))) (ah iX (aa (ae 1) (aa (ae 6) ag))))))))
 (aC (dCB cQ (aa (ae 4) ag))))))
section
variable {U:Mu}{Qd:DK}{ds:List D}
theorem jt(h:xP ds U Qd):dZ ‹Qd› (ao ["_law_bag_here","_law_d","_law_kinds_here","_law_plan_here","_law_found","_law_kind","_law_x"] ds) U:=by
 obtain⟨a,d,ks,t,dd,c,rfl,hd,hk,hp,hdd,hb,q⟩:=h
 unfold dZ
 walk_at "ru"
 rw[length_map]
 refine⟨t,_,12,rfl,⋯,hp.lt.sh ∅,fun ac k1=>?_⟩
 rw[hp.cnt 12 hdd]
 walk_at "ru"
 have s1:gp a U ac:=.of hb k1
 by_cases c12:c<=12
 ·rw[if_pos (decide_eq_true ∅)]
  exact q ks ac hk rfl (.inl c12) s1
 ·rw[if_neg (by rw[decide_eq_true_eq];omega)]
  intro p hp1
  have pa:p≠a:=fun z=>by obtain⟨g,k,e,_⟩:=s1.1;rw[z,e] at hp1;cases hp1
  have p0:U p=none:=by
   cases e:U p with
   |none=>rfl
   |some ds=>rw[s1.2 p pa ds e] at hp1;cases hp1
  rw[d6]
  walk_at "ru"
  refine⟨fun i ρ Y=>∃(ks':List N3) (r5 r6:Option D),ρ=[some (.m a),some (.v (.int d)),some (.v (.tuple (ks.map dN))),some (.v t),some (.m p),r5,r6]/\ks'.length=i/\(∀k∈ks',Ok k/\Bd 4 k/\sg d k.a k.b=1)/\Y p=some (ks'.map dN)/\Bag Y a/\(∀b,b≠a->b≠p->∀ds,U b=some ds->Y b=some ds),
   ⟨[],_,_,rfl,rfl,(fun _ z=>nomatch z),aq,s1.1.set pa,fun b n1 n2 ds e=>by rw[au n2];exact s1.2 b n1 ds e⟩,?_,?_⟩
  ·rintro i y ρ ad hy ⟨ks',r5,r6,rfl,hl,hk',hp2,hb2,kp⟩
   walk_at "ru"
   refine⟨a,9,rfl,⋯,⋯,hb2,fun r1 bn r10 r11 s3=>?_⟩
   walk_at "ru"
   refine⟨a,5,rfl,⋯,⋯,s3.1,fun r2 ce r20 r21 s4=>?_⟩
   walk_at "ru"
   refine⟨a,3,rfl,⋯,⋯,s4.1,fun r3 im r30 r31 s5=>?_⟩
   walk_at "ru"
   have sz:∀{z:Int},-16<z->z<16->Sz 4 z:=fun h1 h2=>Sz.of (by show _<16;omega)
   have c0:(1+r3:Int)≠0:=by omega
   refine⟨r1-4,r2-2,1+r3,rfl,c0,(sz ∅ ∅).mono ⋯,?_⟩
   have ox:Ok (low (r1-4) (r2-2) (1+r3)):=dX _ _ c0
   have bx:Bd 4 (low (r1-4) (r2-2) (1+r3)):=eM c0 (sz ∅ ∅) (sz ∅ ∅) (sz ∅ ∅)
   generalize low (r1-4) (r2-2) (1+r3)=x at ox bx
   have s35:=(s3.trans s4).trans s5
   have hp5:im p=some (ks'.map dN):=by rw[s35.2 p pa];exact hp2
   have fin:∀k:N3,Ok k->Bd 4 k->sg d k.a k.b=1->(match D.v (dN k),im p with|.v d',some xs=>xs.length<1000/\∃(ks'':List N3) (r5' r6':Option D),[some (.m a),some (.v (.int d)),some (.v (.tuple (ks.map dN))),some (.v t),some (.m p),some (.v y),some (.v (dN x))]=[some (.m a),some (.v (.int d)),some (.v (.tuple (ks.map dN))),some (.v t),some (.m p),r5',r6']/\ks''.length=i+1/\(∀k∈ks'',Ok k/\Bd 4 k/\sg d k.a k.b=1)/\aE im p (xs++[d']) p=some (ks''.map dN)/\Bag (aE im p (xs++[d'])) a/\(∀b,b≠a->b≠p->∀ds,U b=some ds->aE im p (xs++[d']) b=some ds)|_,_=>False):=fun k ok bk sk=>by
    rw[hp5]
    have hi:i<ks.length:=by have:=List.getElem?_eq_some_iff.mp hy;obtain⟨z,_⟩:=this;rw[length_map] at z;exact z
    have l3:=hk.l3
    refine⟨by rw[length_map];omega,ks'++[k],_,_,rfl,by simp[hl],fun k' hk''=>?_,by rw[aq];simp,s35.1.set pa,fun b n1 n2 ds e=>by rw[au n2,s35.2 b n1];exact kp b n1 n2 ds e⟩
    rcases List.mem_append.mp hk'' with z|z
    ·exact hk' k' z
    ·rw[List.mem_singleton.mp z];exact⟨ok,bk,sk⟩
   walk_at "ru"
   refine⟨x,rfl,?_⟩
   refine⟨d,x,rfl,hd,bx.mono ⋯,?_⟩
   rcases wu d x.a x.b with e|e|e
   ·rw[e]
    exact fin one vQ ⟨Sz.of ⋯,Sz.of ⋯,Sz.of ⋯⟩ xK
   ·rw[e]
    exact fin x ox bx e
   ·rw[e]
    exact fin (minus x) (dH ox) (j3 bx) (by show sg d (-x.a) (-x.b)=1;rw[rR hd,e];rfl)
  ·rintro ρ ad ⟨ks',r5,r6,rfl,hl,hk',hp2,hb2,kp⟩
   rw[length_map] at hl
   walk_at "ru"
   rw[hp2]
   exact q ks' ad ⟨by rw[hl];exact hk.l1,by rw[hl];exact hk.l3,fun k z=>⟨(hk' k z).1,(hk' k z).2.1.mono ⋯,(hk' k z).2.2⟩⟩ hl (.inr fun k z=>(hk' k z).2.1) ⟨hb2,fun b n ds e=>kp b n (fun z=>by rw[z,p0] at e;cases e) ds e⟩
end
section
variable {U:Mu}{d:D}{Q:DK}
theorem CB{a b c f g h k l m n n11}{o:Rho}:ae 11 (a::b::c::f::g::h::k::l::m::n::n11::some d::o) U Q=Q d U:=propext Iff.rfl
end
local macro_rules|`(tactic| walk_at "rb")=>mkW "CS JT Hw ↓HL ↓l_t ↓l_f l_T l_F J9 KJ ↓u5 ↓j9 aT decide_true decide_false xor_true true_xor ↓cm ↓cw ↓cG ↓dY ↓fO ↓jc ↓i9 ↓iw ↓iJ ↓iy ↓fv ↓q_c ↓Em ↓q_B ↓ur ↓mK ↓mX ↓wL ↓Bk ↓iN ↓wF ↓jf ↓FU ↓cO ↓bI ↓kX ↓j7 ↓jd ↓km ↓k9 ↓kQ ↓mz ↓l4 ↓mB ↓mq ↓eK ↓iS ↓iD ↓gB ↓fQ ↓gU ↓iP ↓hV ↓gn ↓mT ↓mV ↓mY ↓i6 ↓i5 ↓ij ↓sV ↓cW ↓gE ↓mG ↓IG ↓gK ↓iG ↓iI ↓gM ↓l7 ↓u9 ↓iT ↓fj ↓mI ↓mx ↓a8 ↓gH ↓d8 ↓gI ↓jb ↓BW ↓mi ↓iF ↓hJ ↓kK ↓i7 ↓Bi ↓fF ↓vK ↓mM ↓mj ↓sO ↓b9 ↓cN ↓fJ ↓cX ↓dE ↓dJ ↓dF fX b0 bU dz dG d7 bind_none bind_some join_some getElem?_cons_zero getElem?_cons_succ ao qL lP lS lF fz ia i4 jw kJ map_cons map_nil List.append List.replicate length_cons length_nil Nat.reduceAdd Nat.reduceSub nil_append cons_append set_cons_zero set_cons_succ map_some Bool.not_true Bool.not_false false_eq_true true_eq_false xor_false false_xor ↓CB ↓AI ↓Ao ↓Gv ↓Ku ↓FJ"
noncomputable def bo{d:Int}(B:Bo d):PyData:=.tuple [dN B.x.v,dN B.y.v,dN B.w.v,dN B.h.v]
noncomputable def rV:DSp:=fun ds U Q=>∃q:Nat,ds=[.v (.int (q % 4:Nat))]/\Q (.v (.int ((q+1) % 4:Nat))) U
theorem vX{ds:List D}{U:Mu}{Q:DK}(h:rV ds U Q):ds.length=1:=by obtain⟨_,rfl,_⟩:=h;rfl
noncomputable def cF:DSp:=fun ds U Q=>∃(d:Int) (B:Bo d),ds=[.v (bo B)]/\Q (.v (bo (swp B))) U
theorem n8{ds:List D}{U:Mu}{Q:DK}(h:cF ds U Q):ds.length=1:=by obtain⟨_,_,rfl,_⟩:=h;rfl
noncomputable def KL(d:Int)(zs:List (RN d))(B:Bo d):Prop:=aj d/\Bw 70000 8000000 B/\(∀z∈zs,Bd 4300 z.v)/\zs.length<=8
noncomputable def c8:DSp:=fun ds U Q=>∃(d:Int) (zs:List (RN d)) (B:Bo d) (bk:Bool),ds=[.v (.int d),.v (.list (zs.map fun z=>dN z.v)),.v (bo B),.v (.bool bk)]/\KL d zs B/\Q (.v (.list ((rise bk B zs).map bo))) U
noncomputable def iY:DSp:=fun ds U Q=>∃(d:Int) (zs:List (RN d)) (B:Bo d) (bk:Bool),ds=[.v (.int d),.v (.list (zs.map fun z=>dN z.v)),.v (bo B),.v (.bool bk)]/\KL d zs B /\
 ∀p Y,U p=none->ic U Y->Y p=some ((rise bk B zs).map bo)->Q (.m p) Y
theorem m9{ds:List D}{U:Mu}{Q:DK}(h:iY ds U Q):ds.length=4:=by obtain⟨_,_,_,_,rfl,_⟩:=h;rfl
theorem lZ{ds:List D}{U:Mu}{Qd:DK}(h:c8 ds U Qd):iY ds U (frz U Qd):=by
 obtain⟨d,zs,B,bk,rfl,g,q⟩:=h
 exact⟨d,zs,B,bk,rfl,g,fun p Y hp sb hm=>⟨⟨hp,sb⟩,_,hm,q⟩⟩
noncomputable def GrP(u v:Int):Prop:=1<=u/\1<=v/\u<=1000000/\v<=1000000
noncomputable def nR:DSp:=fun ds U Q=>∃(d:Int) (u v:Int) (t:PyData) (q:Nat) (B:Bo d),ds=[.v (.int d),.v (.tuple [.str "grid",.int u,.int v,t]),.v (.int (q % 4:Nat)),.v (bo B)]/\aj d/\GrP u v/\Bw 70000 8000000 B /\
 Q (.v (.tuple [dN (B.w*inv (aH q u v:RN d)).v,dN (B.h*inv (aH q v u:RN d)).v])) U
theorem uR{ds:List D}{U:Mu}{Q:DK}(h:nR ds U Q):ds.length=4:=by obtain⟨_,_,_,_,_,_,rfl,_⟩:=h;rfl
noncomputable def kc:DSp:=fun ds U Q=>∃(d:Int) (B:Bo d) (W H:RN d) (c r:Int),ds=[.v (.int d),.v (bo B),.v (dN W.v),.v (dN H.v),.v (.int c),.v (.int r)]/\aj d/\Bw 70000 8000000 B/\Bd 80000 W.v/\Bd 80000 H.v/\0<=c/\c<=1000000/\0<=r/\r<=1000000 /\
 Q (.v (bo ⟨B.x+(c:RN d)*W,B.y+(r:RN d)*H,W,H⟩)) U
theorem rJ{ds:List D}{U:Mu}{Q:DK}(h:kc ds U Q):ds.length=6:=by obtain⟨_,_,_,_,_,_,rfl,_⟩:=h;rfl
noncomputable def kZ:DTS:=
 (aC (jr (cM (ae 0) (dC (.int 1))) (dC (.int 4))))
noncomputable def pk:DTS:=
 (ak (az (ae 0) (cj 4 (aA (af 1) (aA (af 2) (aA (af 3) (aA (af 4) bY))))))
 (aC (aO (aa (ae 2) (aa (ae 1) (aa (ae 4) (aa (ae 3) ag)))))))
section
variable {U:Mu}{Qd:DK}{ds:List D}
theorem z6{d:Int}(x:RN d):isNum (dN x.v)=true:=by
 show (decide (1<=x.v.c)&&(g3 x.v.a x.v.b x.v.c==1))=true
 rw[decide_eq_true (show 1<=x.v.c from x.ok.c),x.ok.g];rfl
theorem tm(h:rV ds U Qd):kZ ‹Qd› (ao ["quarters"] ds) U:=by
 obtain⟨n,rfl,q⟩:=h
 unfold kZ
 walk_at "rb"
 refine⟨⋯,?_⟩
 have e:(((n % 4:Nat):Int)+1).fmod 4=((n+1) % 4:Nat):=by rw[Int.fmod_eq_emod_of_nonneg _ ⋯];omega
 rw[e];exact q
theorem vY(h:cF ds U Qd):pk ‹Qd› (ao ["box","x","y","width","height"] ds) U:=by
 obtain⟨d,B,rfl,q⟩:=h
 unfold pk bo
 walk_at "rb"
 exact⟨trivial,q⟩
end
section
variable {d:Int}{ks:List N3}
theorem sM(l:List (RN d)):(cV l).v=jP (l.map (·.v)):=by
 have key:∀(l:List (RN d)) (a:RN d),(l.foldl (· + ·) a).v=(l.map (·.v)).foldl plus a.v:=fun l=>by
  induction l with
  |nil=>exact fun a=>rfl
  |cons z l ih=>exact fun a=>ih (a+z)
 exact key l 0
theorem xO{es:List (PyData×N3)}(h:∀e∈es,∃X:RN d,X.v=e.2/\ps X):∃es':List (PyData×RN d),(es'.map fun e=>(e.1,e.2.v))=es/\∀e∈es',ps e.2:=by
 induction es with
 |nil=>exact⟨[],rfl,fun _ z=>nomatch z⟩
 |cons e r ih=>
  obtain⟨X,h1,h2⟩:=h e (by simp)
  obtain⟨r',h3,h4⟩:=ih fun y hy=>h y (by simp[hy])
  refine⟨(e.1,X)::r',by rw[map_cons,h3,h1],fun y hy=>?_⟩
  rcases List.mem_cons.mp hy with z|z
  ·rw[z];exact h2
  ·exact h4 y z
inductive Vw(d:Int)(ks:List N3)(n:Nat):PyData->RN d->Prop
 |kind (i:Int) (k:RN d):0<=i->i<(ks.length:Nat)->ks[i.toNat]? = some k.v->ps k->Vw d ks n (.tuple [.str "kind",.int i]) k
 |turn (t:PyData) (x:RN d):SP d ks n t x.v->ps x->Bd 4300 x.v->Vw d ks n (.tuple [.str "turn",t]) (inv x)
 |grid (t:PyData) (x:RN d) (u v:Int):1<=u->1<=v->u<=1000000->v<=1000000->SP d ks n t x.v->ps x->Bd 4300 x.v->Vw d ks n (.tuple [.str "grid",.int u,.int v,t]) (x*((v:RN d)*inv (u:RN d)))
 |strip (up:Bool) (es:List (PyData×RN d)):2<=es.length->es.length<=8->(∀e∈es,SP d ks n e.1 e.2.v/\ps e.2/\Bd 4300 e.2.v)->(∀z∈aK up es,Bd 4300 z.v)->(∀j,Bd 4300 (cV ((aK up es).take j)).v)->Vw d ks n (.tuple [.str (wd up),.tuple (es.map (·.1))]) (whole up es)
theorem BP(hd:aj d){up:Bool}{es:List (PyData×RN d)}(h2:2<=es.length)(hp:∀e∈es,ps e.2):ps (whole up es):=by
 have s:=BC hd (oX hd (up:=up) hp) (by unfold aK;intro z;rw[List.map_eq_nil_iff] at z;rw[z] at h2;simp at h2)
 unfold whole
 cases up
 ·exact jU hd s
 ·exact s
theorem Vw.pos(hd:aj d){n:Nat}{t:PyData}{X:RN d}(h:Vw d ks n t X):ps X:=by
 cases h with
 |kind i _ _ _ _ h=>exact h
 |turn t x _ h _=>exact jU hd h
 |grid t x u v hu hv _ _ _ h _=>exact gR hd h (gR hd (bb ∅) (jU hd (bb ∅)))
 |strip up es h2 _ h3 _ _=>exact BP hd h2 fun e he=>(h3 e he).2.1
theorem SP.vw(hd:aj d)(hk:∀k∈ks,Ok k/\sg d k.a k.b=1){n:Nat}{t:PyData}{x:N3}(h:SP d ks n t x):∃m,n=m+1/\∃X:RN d,X.v=x/\Vw d ks m t X:=by
 induction h with
 |@kind n i k h0 h1 h2=>
  obtain⟨ok,sk⟩:=hk k (mem_of_getElem? h2)
  exact⟨n,rfl,⟨k,ok⟩,rfl,.kind i ⟨k,ok⟩ h0 h1 h2 sk⟩
 |@turn n t x h1 g ih=>
  obtain⟨m,rfl,X,e,w⟩:=ih
  subst e
  exact⟨m+1,rfl,inv X,iZ hd (w.pos hd),.turn t X h1 (w.pos hd) g.2.2⟩
 |@grid n t x u v hu hv hu' hv' h1 ox bx ih=>
  obtain⟨m,rfl,X,e,w⟩:=ih
  subst e
  refine⟨m+1,rfl,X*((v:RN d)*inv (u:RN d)),?_,.grid t X u v hu hv hu' hv' h1 (w.pos hd) bx⟩
  rw[kD hd ∅];rfl
 |@upon n es h2 h8 h1 ss ih=>
  obtain⟨es',e,hp⟩:=xO (d:=d) fun e he=>let ⟨m,_,X,h,w⟩:=ih e he;⟨X,h,w.pos hd⟩
  subst e
  have e1:(es'.map fun e=>(e.1,e.2.v)).map (·.2)=(aK true es').map (·.v):=by unfold aK;rw[map_map,map_map];rfl
  have e2:(es'.map fun e=>(e.1,e.2.v)).map (·.1)=es'.map (·.1):=by rw[map_map];rfl
  rw[e1] at ss ⊢
  rw[e2]
  refine⟨n,rfl,whole true es',sM _,.strip true es' (by simpa using h2) (by simpa using h8) (fun e he=>⟨h1 _ (mem_map_of_mem he),hp e he,?_⟩) (fun z hz=>(ss.1 _ (mem_map_of_mem hz)).2) fun j=>?_⟩
  ·exact (ss.1 e.2.v (mem_map_of_mem (by unfold aK;exact List.mem_map.mpr ⟨e,he,rfl⟩))).2
  ·rw[sM,map_take];exact ss.2 j
 |@beside n es h2 h8 h1 hg ss g ih=>
  obtain⟨es',e,hp⟩:=xO (d:=d) fun e he=>let ⟨m,_,X,h,w⟩:=ih e he;⟨X,h,w.pos hd⟩
  subst e
  have e1:((es'.map fun e=>(e.1,e.2.v)).map (·.2)).map (aB d)=(aK false es').map (·.v):=by
   unfold aK
   rw[map_map,map_map,map_map]
   exact map_congr_left fun e he=>(iZ hd (hp e he)).symm
  have e2:(es'.map fun e=>(e.1,e.2.v)).map (·.1)=es'.map (·.1):=by rw[map_map];rfl
  rw[e1] at ss g ⊢
  rw[e2]
  have ne:aK false es'≠[]:=by unfold aK;intro z;rw[List.map_eq_nil_iff] at z;rw[z] at h2;simp at h2
  have sp:=BC hd (oX hd (up:=false) hp) ne
  refine⟨n,rfl,whole false es',?_,.strip false es' (by simpa using h2) (by simpa using h8) (fun e he=>⟨h1 _ (mem_map_of_mem he),hp e he,(hg _ (mem_map_of_mem he)).2.2⟩) (fun z hz=>(ss.1 _ (mem_map_of_mem hz)).2) fun j=>?_⟩
  ·show (inv (cV (aK false es'))).v=_
   rw[iZ hd sp,sM]
  ·rw[sM,map_take];exact ss.2 j
end
section
variable {d:Int}{ks:List N3}
theorem Bp{up up':Bool}(h:wd up=wd up'):up=up':=by cases up<;>cases up'<;>first|rfl|(exact absurd h ⋯)
noncomputable def tg:PyData->Str
 |.tuple (.str w::_)=>w
 |_=>"kind"
theorem tgE{w w':Str}{a b:List PyData}(h:PyData.tuple (.str w::a) = .tuple (.str w'::b)):w=w':=congrArg tg h
theorem eZ{up:Bool}{w:Str}(h:w=wd up)(n1:w ≠ "upon")(n2:w ≠ "beside"):False:=by
 cases up
 ·exact n2 h
 ·exact n1 h
theorem BB{es es':List (PyData×RN d)}(h:es.map (·.1)=es'.map (·.1))(hl:∀(i:Nat) e y,es[i]? = some e->es'[i]? = some (e.1,y)->e.2=y):es=es':=by
 have len:es.length=es'.length:=by have:=congrArg List.length h;rwa [length_map,length_map] at this
 refine List.ext_getElem len fun i h1 h2=>?_
 have e1:(es[i]).1=(es'[i]).1:=by
  have:=congrArg (fun l=>l[i]?) h
  simp only[getElem?_map,getElem?_eq_getElem h1,getElem?_eq_getElem h2,map_some,Option.some.injEq] at this
  exact this
 exact Prod.ext e1 (hl i es[i] (es'[i]).2 (getElem?_eq_getElem h1) (by rw[getElem?_eq_getElem h2,e1]))
theorem SP.fn(hd:aj d)(hk:∀k∈ks,Ok k/\sg d k.a k.b=1):∀(n:Nat) {n':Nat} {t:PyData} {x y:RN d},SP d ks n t x.v->SP d ks n' t y.v->x=y:=by
 intro n
 induction n with
 |zero=>intro n' t x y sp;obtain⟨m,e,_⟩:=SP.vw hd hk sp;exact absurd e ∅
 |succ n ih=>
  intro n' t x y sp sp'
  obtain⟨m,em,X,eX,vw⟩:=SP.vw hd hk sp
  obtain rfl:m=n:=by omega
  obtain rfl:X=x:=RN.ext eX
  obtain⟨m',em',ZZ,eY,vw'⟩:=SP.vw hd hk sp'
  obtain rfl:ZZ=y:=RN.ext eY
  clear sp sp' eX eY
  cases vw with
  |kind i _ h0 h1 h2 h3=>
   generalize ht:PyData.tuple [.str "kind",.int i]=t at vw'
   cases vw' with
   |kind j _ g0 g1 g2 g3=>injection ht with ht;injection ht with _ ht;injection ht with ht;injection ht with ht;subst ht;exact RN.ext (by rw[h2] at g2;exact Option.some.inj g2)
   |turn _ _ _ _ _=>exact absurd (tgE ht) ⋯
   |grid _ _ _ _ _ _ _ _ _ _ _=>exact absurd (tgE ht) ⋯
   |strip up' es' k1 k2 k3 k4 k5=>exact (eZ (tgE ht) ⋯ ⋯).elim
  |turn t x h1 h2 h3=>
   generalize ht:PyData.tuple [.str "turn",t]=t' at vw'
   cases vw' with
   |kind j _ g0 g1 g2 g3=>exact absurd (tgE ht) ⋯
   |turn _ y g1 g2 g3=>injection ht with ht;injection ht with _ ht;injection ht with ht;subst ht;rw[ih h1 g1]
   |grid _ _ _ _ _ _ _ _ _ _ _=>exact absurd (tgE ht) ⋯
   |strip up' es' k1 k2 k3 k4 k5=>exact (eZ (tgE ht) ⋯ ⋯).elim
  |grid t x u v h1 h2 h3 h4 h5 h6 h7=>
   generalize ht:PyData.tuple [.str "grid",.int u,.int v,t]=t' at vw'
   cases vw' with
   |kind j _ g0 g1 g2 g3=>exact absurd (tgE ht) ⋯
   |turn _ _ _ _ _=>exact absurd (tgE ht) ⋯
   |grid _ y u' v' g1 g2 g3 g4 g5 g6 g7=>
    injection ht with ht;injection ht with _ ht;injection ht with e1 ht;injection ht with e2 ht;injection ht with e3 ht
    injection e1 with e1;injection e2 with e2
    subst e1 e2 e3;rw[ih h5 g5]
   |strip up' es' k1 k2 k3 k4 k5=>exact (eZ (tgE ht) ⋯ ⋯).elim
  |strip up es h1 h2 h3 h4 h5=>
   generalize ht:PyData.tuple [.str (wd up),.tuple (es.map (·.1))]=t' at vw'
   cases vw' with
   |kind j _ g0 g1 g2 g3=>exact (eZ (tgE ht).symm ⋯ ⋯).elim
   |turn _ _ _ _ _=>exact (eZ (tgE ht).symm ⋯ ⋯).elim
   |grid _ _ _ _ _ _ _ _ _ _ _=>exact (eZ (tgE ht).symm ⋯ ⋯).elim
   |strip up' es' k1 k2 k3 k4 k5=>
    obtain rfl:=Bp (tgE ht)
    injection ht with ht;injection ht with _ ht;injection ht with ht;injection ht with ht
    have:es=es':=BB ht fun i e y he hy=>ih (h3 e (mem_of_getElem? he)).1 (k3 _ (mem_of_getElem? hy)).1
    rw[this]
end
section
variable {d:Int}{ks:List N3}
noncomputable def tpl(u v:Int):Nat->Int×Int->Int×Int
 |0,p=>p
 |q+1,p=>(aH q v u-1-(tpl u v q p).2,(tpl u v q p).1)
noncomputable def gIx(u v:Int):List (Int×Int):=(List.range v.toNat).flatMap fun r:Nat=>(List.range u.toNat).map fun c:Nat=>((c:Int),(r:Int))
noncomputable def dh(q:Nat)(u v:Int)(B:Bo d):List (Bo d):=(gIx u v).map fun p=>dI q u v B (tpl u v q p).1 (tpl u v q p).2
inductive TL(d:Int)(ks:List N3):Nat->Nat->PyData->RN d->Bo d->List (Bo d×Int×Nat)->Prop
 |kind {n q:Nat} {B:Bo d} (i:Int) (k:RN d):0<=i->i<(ks.length:Nat)->ks[i.toNat]? = some k.v->ps k->TL d ks (n+1) q (.tuple [.str "kind",.int i]) k B [(B,i,q)]
 |turn {n q:Nat} {t:PyData} {x:RN d} {B:Bo d} {L:List (Bo d×Int×Nat)}:SP d ks n t x.v->ps x->Bd 4300 x.v->TL d ks n (q+1) t x B L->TL d ks (n+1) q (.tuple [.str "turn",t]) (inv x) B L
 |grid {n q:Nat} {t:PyData} {x:RN d} {B:Bo d} (u v:Int) (Ls:List (Bo d×List (Bo d×Int×Nat))):1<=u->1<=v->u<=1000000->v<=1000000->SP d ks n t x.v->ps x->Bd 4300 x.v->Ls.map (·.1)=dh q u v B->(∀p∈Ls,TL d ks n q t x p.1 p.2) ->
   TL d ks (n+1) q (.tuple [.str "grid",.int u,.int v,t]) (x*((v:RN d)*inv (u:RN d))) B (Ls.map (·.2)).flatten
 |strip {n q:Nat} {B:Bo d} (up:Bool) (es:List (PyData×RN d)) (Ls:List (((PyData×RN d)×Bo d)×List (Bo d×Int×Nat))):2<=es.length->es.length<=8->(∀e∈es,SP d ks n e.1 e.2.v/\ps e.2/\Bd 4300 e.2.v)->(∀z∈aK up es,Bd 4300 z.v) ->
   Ls.map (·.1)=es.zip (aS q up B (aK up es))->(∀p∈Ls,TL d ks n q p.1.1.1 p.1.1.2 p.1.2 p.2)->TL d ks (n+1) q (.tuple [.str (wd up),.tuple (es.map (·.1))]) (whole up es) B (Ls.map (·.2)).flatten
theorem tD{u v:Int}{p:Int×Int}(h:p∈gIx u v):∀q:Nat,0<=(tpl u v q p).1/\(tpl u v q p).1<aH q u v/\0<=(tpl u v q p).2/\(tpl u v q p).2<aH q v u
 |0=>by
  unfold gIx at h
  simp only[List.mem_flatMap,List.mem_range,List.mem_map] at h
  obtain⟨r,hr,c,hc,rfl⟩:=h
  show 0<=(c:Int)/\(c:Int)<u/\0<=(r:Int)/\(r:Int)<v
  omega
 |q+1=>by
  have ih:=tD h q
  rw[en,en]
  show 0<=aH q v u-1-(tpl u v q p).2/\aH q v u-1-(tpl u v q p).2<aH q v u/\0<=(tpl u v q p).1/\(tpl u v q p).1<aH q u v
  omega
theorem w6{u v:Int}:∀(q:Nat) {c r:Int},0<=c->c<aH q u v->0<=r->r<aH q v u->∃p∈gIx u v,tpl u v q p=(c,r)
 |0,c,r,h1,h2,h3,h4=>by
  have h2':c<u:=h2
  have h4':r<v:=h4
  refine⟨(c,r),?_,rfl⟩
  unfold gIx
  simp only[List.mem_flatMap,List.mem_range,List.mem_map]
  exact⟨r.toNat,∅,c.toNat,∅,by rw[show ((c.toNat:Nat):Int)=c by omega,show ((r.toNat:Nat):Int)=r by omega]⟩
 |q+1,c,r,h1,h2,h3,h4=>by
  rw[en] at h2 h4
  obtain⟨p,hp,e⟩:=w6 (u:=u) (v:=v) q (c:=r) (r:=aH q v u-1-c) h3 h4 ∅ ∅
  refine⟨p,hp,?_⟩
  show (aH q v u-1-(tpl u v q p).2,(tpl u v q p).1)=_
  rw[e]
  show (aH q v u-1-(aH q v u-1-c),r)=(c,r)
  rw[show aH q v u-1-(aH q v u-1-c)=c by omega]
theorem TL.go{n q:Nat}{t:PyData}{x:RN d}{B:Bo d}{L:List (Bo d×Int×Nat)}(h:TL d ks n q t x B L):∀e∈L,Go d ks n q t x B e.1 e.2.1 e.2.2:=by
 induction h with
 |kind i k h0 h1 h2 h3=>
  intro e he
  rw[List.mem_singleton.mp he]
  exact .kind i k h0 h1 h2 h3
 |turn h1 h2 h3 _ ih=>exact fun e he=>.turn h1 h2 h3 (ih e he)
 |@grid n q t x B u v Ls h1 h2 h3 h4 h5 h6 h7 hL _ ih=>
  intro e he
  obtain⟨l,hl,hel⟩:=List.mem_flatten.mp he
  obtain⟨p,hp,rfl⟩:=List.mem_map.mp hl
  have hc:p.1∈dh q u v B:=by rw[<- hL];exact mem_map_of_mem hp
  obtain⟨ix,hix,e1⟩:=List.mem_map.mp hc
  obtain⟨c0,c1,r0,r1⟩:=tD hix q
  have g:=ih p hp e hel
  rw[<- e1] at g
  exact .grid u v _ _ h1 h2 h3 h4 h5 h6 h7 c0 c1 r0 r1 g
 |@strip n q B up es Ls h1 h2 h3 h4 hL _ ih=>
  intro e he
  obtain⟨l,hl,hel⟩:=List.mem_flatten.mp he
  obtain⟨p,hp,rfl⟩:=List.mem_map.mp hl
  have hc:p.1∈es.zip (aS q up B (aK up es)):=by rw[<- hL];exact mem_map_of_mem hp
  obtain⟨j,hj⟩:=List.getElem?_of_mem hc
  obtain⟨k1,k2⟩:=List.getElem?_zip_eq_some.mp hj
  exact .strip up es j p.1.1 h1 h2 h3 h4 k1 k2 (ih p hp e hel)
noncomputable def mvT(f a b:RN d)(e:Bo d×Int×Nat):Bo d×Int×Nat:=(mv f a b e.1,e.2)
noncomputable def qtT(a:RN d)(e:Bo d×Int×Nat):Bo d×Int×Nat:=(qt a e.1,e.2.1,e.2.2+1)
theorem kv{α β γ:Type}(f:γ->List α)(g:α->β)(Ls:List γ):((Ls.map f).flatten).map g=(Ls.map fun p=>(f p).map g).flatten:=by
 rw[List.map_flatten,map_map];rfl
theorem TL.mv{n q:Nat}{t:PyData}{x:RN d}{B:Bo d}{L:List (Bo d×Int×Nat)}(h:TL d ks n q t x B L)(f a b:RN d):TL d ks n q t x (mv f a b B) (L.map (mvT f a b)):=by
 induction h with
 |kind i k h0 h1 h2 h3=>exact .kind i k h0 h1 h2 h3
 |turn h1 h2 h3 _ ih=>exact .turn h1 h2 h3 ih
 |@grid n q t x B u v Ls h1 h2 h3 h4 h5 h6 h7 hL _ ih=>
  rw[kv]
  have:=TL.grid (d:=d) (ks:=ks) (n:=n) (q:=q) (t:=t) (x:=x) (B:=L2.DL.mv f a b B) u v (Ls.map fun p=>(L2.DL.mv f a b p.1,p.2.map (mvT f a b))) h1 h2 h3 h4 h5 h6 h7 ?_ fun p hp=>?_
  ·rw[map_map] at this;exact this
  ·rw[map_map]
   show Ls.map (fun p=>L2.DL.mv f a b p.1)=_
   rw[show (fun p:Bo d×List (Bo d×Int×Nat)=>L2.DL.mv f a b p.1)=L2.DL.mv f a b ∘ (·.1) from rfl,<- map_map,hL]
   unfold dh
   rw[map_map]
   exact map_congr_left fun p _=>(Ad q u v _ _ f a b B).symm
  ·obtain⟨p',hp',rfl⟩:=List.mem_map.mp hp
   exact ih p' hp'
 |@strip n q B up es Ls h1 h2 h3 h4 hL _ ih=>
  rw[kv]
  have:=TL.strip (d:=d) (ks:=ks) (n:=n) (q:=q) (B:=L2.DL.mv f a b B) up es (Ls.map fun p=>((p.1.1,L2.DL.mv f a b p.1.2),p.2.map (mvT f a b))) h1 h2 h3 h4 ?_ fun p hp=>?_
  ·rw[map_map] at this;exact this
  ·rw[map_map]
   show Ls.map (fun p=>(p.1.1,L2.DL.mv f a b p.1.2))=_
   rw[show (fun p:((PyData×RN d)×Bo d)×List (Bo d×Int×Nat)=>(p.1.1,L2.DL.mv f a b p.1.2))=(fun p:(PyData×RN d)×Bo d=>(p.1,L2.DL.mv f a b p.2)) ∘ (·.1) from rfl,<- map_map,hL,yT]
   rw[List.zip_map_right]
   rfl
  ·obtain⟨p',hp',rfl⟩:=List.mem_map.mp hp
   exact ih p' hp'
theorem TL.qt(hd:aj d){n q:Nat}{t:PyData}{x:RN d}{B:Bo d}{L:List (Bo d×Int×Nat)}(h:TL d ks n q t x B L)(a:RN d):TL d ks n (q+1) t x (qt a B) (L.map (qtT a)):=by
 induction h with
 |kind i k h0 h1 h2 h3=>exact .kind i k h0 h1 h2 h3
 |turn h1 h2 h3 _ ih=>exact .turn h1 h2 h3 ih
 |@grid n q t x B u v Ls h1 h2 h3 h4 h5 h6 h7 hL _ ih=>
  rw[kv]
  have:=TL.grid (d:=d) (ks:=ks) (n:=n) (q:=q+1) (t:=t) (x:=x) (B:=L2.DL.qt a B) u v (Ls.map fun p=>(L2.DL.qt a p.1,p.2.map (qtT a))) h1 h2 h3 h4 h5 h6 h7 ?_ fun p hp=>?_
  ·rw[map_map] at this;exact this
  ·rw[map_map]
   show Ls.map (fun p=>L2.DL.qt a p.1)=_
   rw[show (fun p:Bo d×List (Bo d×Int×Nat)=>L2.DL.qt a p.1)=L2.DL.qt a ∘ (·.1) from rfl,<- map_map,hL]
   unfold dh
   rw[map_map]
   exact map_congr_left fun p _=>(zD hd a B _ (cY h2 h1)).symm
  ·obtain⟨p',hp',rfl⟩:=List.mem_map.mp hp
   exact ih p' hp'
 |@strip n q B up es Ls h1 h2 h3 h4 hL _ ih=>
  rw[kv]
  have:=TL.strip (d:=d) (ks:=ks) (n:=n) (q:=q+1) (B:=L2.DL.qt a B) up es (Ls.map fun p=>((p.1.1,L2.DL.qt a p.1.2),p.2.map (qtT a))) h1 h2 h3 h4 ?_ fun p hp=>?_
  ·rw[map_map] at this;exact this
  ·rw[map_map]
   show Ls.map (fun p=>(p.1.1,L2.DL.qt a p.1.2))=_
   rw[show (fun p:((PyData×RN d)×Bo d)×List (Bo d×Int×Nat)=>(p.1.1,L2.DL.qt a p.1.2))=(fun p:(PyData×RN d)×Bo d=>(p.1,L2.DL.qt a p.2)) ∘ (·.1) from rfl,<- map_map,hL,yv]
   rw[List.zip_map_right]
   rfl
  ·obtain⟨p',hp',rfl⟩:=List.mem_map.mp hp
   exact ih p' hp'
end
noncomputable def jz:DTS:=
 (ak (nh 4 5 (aa (dOp ai (ae 1) (dC (.int 1))) (aa (dOp ai (ae 1) (dC (.int 2))) ag)))
 (ak (aL (dB (dOp (aJ false) (jr (ae 2) (dC (.int 2))) (dC (.int 1)))) (nh 4 5 (aa (ae 5) (aa (ae 4) ag))) aF)
 (aC (aO (aa (ah jK (aa (ae 0) (aa (dOp ai (ae 3) (dC (.int 2))) (aa (aO (aa (ae 4) (aa (dC (.int 0)) (aa (dC (.int 1)) ag)))) ag)))) (aa (ah jK (aa (ae 0) (aa (dOp ai (ae 3) (dC (.int 3))) (aa (aO (aa (ae 5) (aa (dC (.int 0)) (aa (dC (.int 1)) ag)))) ag)))) ag))))))
noncomputable def mS:DTS:=
 (ak (az (ah a7 (aa (ae 0) (aa (aO (aa (ae 4) (aa (dC (.int 0)) (aa (dC (.int 1)) ag)))) (aa (ae 2) ag)))) (af 6))
 (ak (az (ah a7 (aa (ae 0) (aa (aO (aa (ae 5) (aa (dC (.int 0)) (aa (dC (.int 1)) ag)))) (aa (ae 3) ag)))) (af 7))
 (aC (aO (aa (ah bQ (aa (dOp ai (ae 1) (dC (.int 0))) (aa (ae 6) ag))) (aa (ah bQ (aa (dOp ai (ae 1) (dC (.int 1))) (aa (ae 7) ag))) (aa (ae 2) (aa (ae 3) ag))))))))
section
variable {U:Mu}{Qd:DK}{ds:List D}
theorem w8{d:Int}(hd:aj d){a b:RN d}(hb:ps b):times d a.v (aB d b.v)=(a*inv b).v:=by show _=times d a.v (inv b).v;rw[iZ hd hb]
theorem EX{d:Int}{b:RN d}(hb:ps b):b.v≠cy:=fun e=>by
 have:b=0:=RN.ext e
 exact J4 (this▸hb)
theorem xi(q:Nat)(u v:Int):(if (((q % 4:Nat):Int).fmod 2=1) then v else u)=aH q u v:=by
 unfold aH
 rw[Int.fmod_eq_emod_of_nonneg _ ⋯]
 split<;>split<;>first|rfl|omega
theorem qu(h:nR ds U Qd):jz ‹Qd› (ao ["d","plan","quarters","box","columns","rows"] ds) U:=by
 obtain⟨d,u,v,t,q,B,rfl,hd,⟨hu,hv,hu',hv'⟩,bw,qd⟩:=h
 have key:∀{cu cv:Int},1<=cu->1<=cv->cu<=1000000->cv<=1000000->aH q u v=cu->aH q v u=cv ->
   aC (aO (aa (ah jK (aa (ae 0) (aa (dOp ai (ae 3) (dC (.int 2))) (aa (aO (aa (ae 4) (aa (dC (.int 0)) (aa (dC (.int 1)) ag)))) ag)))) (aa (ah jK (aa (ae 0) (aa (dOp ai (ae 3) (dC (.int 3))) (aa (aO (aa (ae 5) (aa (dC (.int 0)) (aa (dC (.int 1)) ag)))) ag)))) ag)))
    ‹Qd› [some (.v (.int d)),some (.v (.tuple [.str "grid",.int u,.int v,t])),some (.v (.int (q % 4:Nat))),some (.v (bo B)),some (.v (.int cu)),some (.v (.int cv))] U:=fun {cu cv} h1 h2 h3 h4 e1 e2=>by
  have p1:=bb (d:=d) (n:=cu) ∅
  have p2:=bb (d:=d) (n:=cv) ∅
  unfold bo
  walk_at "rb"
  refine⟨d,B.w.v,(cu:RN d).v,rfl,hd,B.w.ok,(cu:RN d).ok,EX p1,bw.w.mono ⋯,(bdC (d:=d) ∅ h3).mono ⋯,?_⟩
  walk_at "rb"
  refine⟨d,B.h.v,(cv:RN d).v,rfl,hd,B.h.ok,(cv:RN d).ok,EX p2,bw.h.mono ⋯,(bdC (d:=d) ∅ h4).mono ⋯,?_⟩
  rw[w8 hd p1,w8 hd p2,<- e1,<- e2]
  exact qd
 have cq:=xi q u v
 have cq':=xi q v u
 unfold jz
 walk_at "rb"
 refine⟨⋯,?_⟩
 by_cases c:((q % 4:Nat):Int).fmod 2=1
 ·rw[if_pos c] at cq cq'
  rw[if_pos (decide_eq_true c)]
  exact key hv hu hv' hu' cq.symm cq'.symm
 ·rw[if_neg c] at cq cq'
  rw[if_neg (by rw[decide_eq_true_eq];exact c)]
  exact key hu hv hu' hv' cq.symm cq'.symm
theorem uV(h:kc ds U Qd):mS ‹Qd› (ao ["d","box","width","height","column","row","right","up"] ds) U:=by
 obtain⟨d,B,W,H,c,r,rfl,hd,bw,bW,bH,c0,c1,r0,r1,q⟩:=h
 have s5:=fP hd.1 hd.2.1
 have bc:=bdC (d:=d) c0 c1
 have br:=bdC (d:=d) r0 r1
 unfold mS
 walk_at "rb"
 refine⟨d,(c:RN d).v,W.v,rfl,s5,(c:RN d).ok,W.ok,bc.mono ⋯,bW.mono ⋯,?_⟩
 walk_at "rb"
 refine⟨d,(r:RN d).v,H.v,rfl,s5,(r:RN d).ok,H.ok,br.mono ⋯,bH.mono ⋯,?_⟩
 unfold bo
 walk_at "rb"
 refine⟨B.x.v,((c:RN d)*W).v,rfl,B.x.ok,((c:RN d)*W).ok,bw.x.mono ⋯,(bdM hd bc bW).mono ⋯,?_⟩
 walk_at "rb"
 refine⟨B.y.v,((r:RN d)*H).v,rfl,B.y.ok,((r:RN d)*H).ok,bw.y.mono ⋯,(bdM hd br bH).mono ⋯,?_⟩
 exact q
end
noncomputable def hW:DTS:=
 (ak (az (ae 2) (cj 4 (aA (af 4) (aA (af 5) (aA (af 6) (aA (af 7) bY))))))
 (ak (az (gY ag) (af 8))
 (ak (az (dIf (dB (ae 3)) (ah bQ (aa (ae 5) (aa (ae 7) ag))) (ae 5)) (af 9))
 (ak (gA (aZ (ae 1)) (af 10) (ak (az (ah a7 (aa (ae 0) (aa (ae 10) (aa (ae 6) ag)))) (af 11))
 (ak (aL (dB (ae 3)) (az (ah pb (aa (ae 9) (aa (ae 11) ag))) (af 9)) aF)
 (ak (cA (nk (ae 8) (aO (aa (ae 4) (aa (ae 9) (aa (ae 6) (aa (ae 11) ag)))))))
 (aL (c6 (dB (ae 3))) (az (ah bQ (aa (ae 9) (aa (ae 11) ag))) (af 9)) aF)))))
 (aC (ae 8))))))
section
variable {U:Mu}{Qd:DK}{ds:List D}
theorem drop_cons{α:Type}{L:List α}{i:Nat}{a:α}{r:List α}(h:L.drop i=a::r):L.take (i+1)=L.take i++[a]/\L.drop (i+1)=r:=by
 have e:L[i]? = some a:=by rw[<- List.head?_drop,h];rfl
 refine⟨?_,?_⟩
 ·rw[List.take_add_one,e];rfl
 ·rw[<- List.tail_drop,h];rfl
noncomputable def Kz{d:Int}(bk:Bool)(x w s:RN d)(zs:List (RN d)):List (Bo d):=if bk=true then bR x w s zs else ck x w s zs
theorem ng(h:iY ds U Qd):hW ‹Qd› (ao ["d","sizes","box","backward","x","y","width","height","boxes","start","size","high"] ds) U:=by
 obtain⟨d,zs,B,bk,rfl,⟨hd,bw,bz,hl⟩,q⟩:=h
 have s5:=fP hd.1 hd.2.1
 have loop:∀(p:Addr) (s:RN d) ac,U p=none->ic U ac->ac p=some []->Bd 8070001 s.v->Kz bk B.x B.w s zs=rise bk B zs ->
   (ak (gA (aZ (ae 1)) (af 10) (ak (az (ah a7 (aa (ae 0) (aa (ae 10) (aa (ae 6) ag)))) (af 11))
 (ak (aL (dB (ae 3)) (az (ah pb (aa (ae 9) (aa (ae 11) ag))) (af 9)) aF)
 (ak (cA (nk (ae 8) (aO (aa (ae 4) (aa (ae 9) (aa (ae 6) (aa (ae 11) ag)))))))
 (aL (c6 (dB (ae 3))) (az (ah bQ (aa (ae 9) (aa (ae 11) ag))) (af 9)) aF)))))
 (aC (ae 8))) ‹Qd› [some (.v (.int d)),some (.v (.list (zs.map fun z=>dN z.v))),some (.v (bo B)),some (.v (.bool bk)),some (.v (dN B.x.v)),some (.v (dN B.y.v)),some (.v (dN B.w.v)),some (.v (dN B.h.v)),some (.m p),some (.v (dN s.v)),none,none] ac:=fun p s ac hp sb hm bs hr=>by
  rw[hJ,d6]
  walk_at "rb"
  refine⟨fun i ρ Y=>∃(s:RN d) (r1 r2:Option D),ρ=[some (.v (.int d)),some (.v (.list (zs.map fun z=>dN z.v))),some (.v (bo B)),some (.v (.bool bk)),some (.v (dN B.x.v)),some (.v (dN B.y.v)),some (.v (dN B.w.v)),some (.v (dN B.h.v)),some (.m p),some (.v (dN s.v)),r1,r2] /\
   Kz bk B.x B.w s (zs.drop i)=(rise bk B zs).drop i/\Bd (8070001+i*75000) s.v/\ic U Y/\Y p=some (((rise bk B zs).take i).map bo),⟨s,_,_,rfl,hr,bs,sb,hm⟩,?_,?_⟩
  ·rintro i y ρ ad hy ⟨s,r1,r2,rfl,hr,bs,sb,hm⟩
   rw[getElem?_map] at hy
   obtain⟨z,hz,rfl⟩:=Option.map_eq_some_iff.mp hy
   have hi:=(List.getElem?_eq_some_iff.mp hz).1
   have dr:zs.drop i=z::zs.drop (i+1):=by rw[List.drop_eq_getElem_cons hi,(List.getElem?_eq_some_iff.mp hz).2]
   have zb:=bz z (mem_of_getElem? hz)
   have bM:=bdM hd zb bw.w
   rw[dr] at hr
   walk_at "rb"
   refine⟨d,z.v,B.w.v,rfl,s5,z.ok,B.w.ok,zb.mono ⋯,bw.w.mono ⋯,?_⟩
   have hlen:(List.map bo (List.take i (rise bk B zs))).length<1000:=by rw[length_map,length_take,iL];omega
   cases bk
   ·obtain⟨t1,t2⟩:=drop_cons hr.symm
    walk_at "rb"
    rw[hm]
    refine⟨hlen,?_⟩
    refine⟨s.v,(z*B.w).v,rfl,s.ok,RN.ok _,bs.mono ∅,bM.mono ⋯,?_⟩
    refine⟨s+z*B.w,_,_,rfl,t2.symm,(bdA bs bM).mono ∅,sb.set hp,?_⟩
    rw[aq,t1,map_append];rfl
   ·obtain⟨t1,t2⟩:=drop_cons hr.symm
    walk_at "rb"
    refine⟨s.v,(z*B.w).v,rfl,s.ok,RN.ok _,bs.mono ∅,bM.mono ⋯,?_⟩
    walk_at "rb"
    rw[hm]
    refine⟨hlen,?_⟩
    refine⟨s-z*B.w,_,_,rfl,t2.symm,(bdS bs bM).mono ∅,sb.set hp,?_⟩
    rw[aq,t1,map_append];rfl
  ·rintro ρ ad ⟨s,r1,r2,rfl,hr,bs,sb,hm⟩
   walk_at "rb"
   refine q p ad hp sb ?_
   rw[hm,length_map,<- iL (bk:=bk) (B:=B) (zs:=zs),take_length]
 unfold hW bo
 walk_at "rb"
 refine⟨trivial,fun p hp=>?_⟩
 cases bk
 ·exact loop p B.y _ hp (ic.refl.set hp) aq (bw.y.mono ⋯) rfl
 ·refine⟨B.y.v,B.h.v,rfl,B.y.ok,B.h.ok,bw.y.mono ⋯,bw.h.mono ⋯,?_⟩
  exact loop p (B.y+B.h) _ hp (ic.refl.set hp) aq (bdA bw.y bw.h) rfl
end
theorem SP.up{d:Int}{ks:List N3}{n:Nat}{t:PyData}{x:N3}(h:SP d ks n t x):∀{m:Nat},n<=m->SP d ks m t x:=by
 induction h with
 |kind i k a b c=>intro m l;obtain⟨m,rfl⟩:∃k,m=k+1:=⟨m-1,∅⟩;exact .kind i k a b c
 |turn _ g ih=>intro m l;obtain⟨m,rfl⟩:∃k,m=k+1:=⟨m-1,∅⟩;exact .turn (ih ∅) g
 |grid u v a b c e _ f g ih=>intro m l;obtain⟨m,rfl⟩:∃k,m=k+1:=⟨m-1,∅⟩;exact .grid u v a b c e (ih ∅) f g
 |upon es a b _ s ih=>intro m l;obtain⟨m,rfl⟩:∃k,m=k+1:=⟨m-1,∅⟩;exact .upon es a b (fun e he=>ih e he ∅) s
 |beside es a b _ s1 s2 s3 ih=>intro m l;obtain⟨m,rfl⟩:∃k,m=k+1:=⟨m-1,∅⟩;exact .beside es a b (fun e he=>ih e he ∅) s1 s2 s3
structure StP(d:Int)(ks:List N3)(up:Bool)(es:List (PyData×RN d)):Prop where
 l2:2<=es.length
 l8:es.length<=8
 sp:∀e∈es,Sh e.1/\SP d ks 13 e.1 e.2.v/\ps e.2/\Bd 4300 e.2.v
 sz:∀z∈aK up es,Bd 4300 z.v
noncomputable def kR:DSp:=fun ds U Q=>∃(d:Int) (ks:List N3) (up:Bool) (es:List (PyData×RN d)) (q:Nat) (B:Bo d),ds=[.v (.int d),.v (.tuple (ks.map dN)),.v (.tuple [.str (wd up),.tuple (es.map (·.1))]),.v (.int (q % 4:Nat)),.v (bo B)]/\aj d/\StP d ks up es/\Bw 70000 8000000 B /\
 ∀Y,(∀b ds,U b=some ds->Y b=some ds)->Q (.v (.list ((aS q up B (aK up es)).map bo))) Y
theorem rM{ds:List D}{U:Mu}{Q:DK}(h:kR ds U Q):ds.length=5:=by obtain⟨_,_,_,_,_,_,rfl,_⟩:=h;rfl
noncomputable def iq:DTS:=
 (ak (az (aP [none,some 0,some 1] (fK (dOp ai (ae 2) (dC (.int 1)))) (af 0) aW (ah (fN 13) (aa (ae 1) (aa (ae 2) (aa (ae 0) ag))))) (af 5))
 (ak (az (dOp (aJ false) (dOp ai (ae 2) (dC (.int 0))) (dC (.str "upon"))) (af 6))
 (ak (az (dIf (dB (ae 6)) (ae 5) (fY [none,some 0] (aZ (ae 5)) (af 0) aW (ah aM (aa (ae 1) (aa (ae 0) ag))))) (af 7))
 (ak (az (dOp u4 (ae 3) (dIf (dB (ae 6)) (aO (aa (dC (.int 1)) (aa (dC (.int 2)) ag))) (aO (aa (dC (.int 2)) (aa (dC (.int 3)) ag))))) (af 8))
 (ak (aL (dB (dOp (aJ false) (ae 6) (dOp (aJ false) (jr (ae 3) (dC (.int 2))) (dC (.int 0))))) (aC (ah c8 (aa (ae 0) (aa (ae 7) (aa (ae 4) (aa (ae 8) ag)))))) aF)
 (aC (fY [none] (aZ (ah c8 (aa (ae 0) (aa (ae 7) (aa (ah cF (aa (ae 4) ag)) (aa (ae 8) ag)))))) (af 0) aW (ah cF (aa (ae 0) ag)))))))))
section
variable {U:Mu}{Qd:DK}{ds:List D}
noncomputable def L8:PyData->PyData
 |.tuple [a,b,c,e]=>.tuple [b,a,e,c]
 |t=>t
theorem GZ(q:Nat)(up:Bool):(up==(((q % 4:Nat):Int).fmod 2==0))=kH q up:=by
 unfold kH
 rw[Int.fmod_eq_emod_of_nonneg _ ⋯]
 rcases (by omega:q % 2=0\/q % 2=1) with e|e
 ·rw[show (((q % 4:Nat):Int) % 2)=0 by omega,e];cases up<;>rfl
 ·rw[show (((q % 4:Nat):Int) % 2)=1 by omega,e];cases up<;>rfl
theorem dpI(i:Int):PyData.depth (.int i)<=60:=by show (0:Nat)<=60;decide
noncomputable def Ke(d:Int):PyData->PyData
 |.tuple [.int a,.int b,.int c]=>dN (aB d ⟨a,b,c⟩)
 |t=>t
theorem EO(q:Nat)(up:Bool):((if up=true then [PyData.int 1,.int 2] else [.int 2,.int 3]).any fun b=>PyData.eqv b (.int ((q % 4:Nat):Int)))=bck q up:=by
 unfold bck
 have:q % 4<4:=Nat.mod_lt _ ⋯
 generalize q % 4=k at *
 rcases (by omega:k=0\/k=1\/k=2\/k=3) with e|e|e|e<;>subst e<;>cases up<;>rfl
theorem mU{d:Int}{ks:List N3}{up:Bool}{q:Nat}{B:Bo d}{zs:List (RN d)}{r1 r2:PyData}(hd:aj d)(bw:Bw 70000 8000000 B)(bz:∀z∈zs,Bd 4300 z.v)(hl:zs.length<=8)(qd:Qd (.v (.list ((aS q up B zs).map bo))) U) :
  (ak (aL (dB (dOp (aJ false) (ae 6) (dOp (aJ false) (jr (ae 3) (dC (.int 2))) (dC (.int 0))))) (aC (ah c8 (aa (ae 0) (aa (ae 7) (aa (ae 4) (aa (ae 8) ag)))))) aF)
 (aC (fY [none] (aZ (ah c8 (aa (ae 0) (aa (ae 7) (aa (ah cF (aa (ae 4) ag)) (aa (ae 8) ag)))))) (af 0) aW (ah cF (aa (ae 0) ag)))))
   ‹Qd› [some (.v (.int d)),some (.v (.tuple (ks.map dN))),some (.v r1),some (.v (.int (q % 4:Nat))),some (.v (bo B)),some (.v r2),some (.v (.bool up)),some (.v (.list (zs.map fun z=>dN z.v))),some (.v (.bool (bck q up)))] U:=by
 walk_at "rb"
 have e:=GZ q up
 have eb:(((q % 4:Nat):Int).fmod 2==0)=decide (((q % 4:Nat):Int).fmod 2=0):=rfl
 refine⟨⋯,?_⟩
 rw[<- eb,e]
 unfold aS at qd
 cases hv:kH q up
 ·rw[hv,if_neg ⋯,map_map] at qd
  rw[if_neg ⋯]
  unfold DL.hd
  walk_at "rb"
  rw[fM]
  walk_at "rb"
  refine⟨d,B,rfl,?_⟩
  walk_at "rb"
  refine⟨d,zs,swp B,bck q up,rfl,⟨hd,bw.swp,bz,hl⟩,?_⟩
  walk_at "rb"
  refine⟨by rw[length_map,iL];omega,fun t=>some (L8 t),fun t ht Y _=>?_,?_⟩
  ·obtain⟨C,hC,rfl⟩:=List.mem_map.mp ht
   exact⟨trivial,d,C,rfl,rfl,rfl⟩
  ·rw[d9,map_map]
   exact qd
 ·rw[hv,if_pos rfl] at qd
  rw[if_pos rfl]
  exact⟨d,zs,B,bck q up,rfl,⟨hd,bw,bz,hl⟩,qd⟩
theorem oF(h:kR ds U Qd):iq ‹Qd› (ao ["d","kinds","plan","quarters","box","shapes","upon","sizes","backward"] ds) U:=by
 obtain⟨d,ks,up,es,q,B,rfl,hd,st,bw,qd⟩:=h
 have sl:(aK up es).length<=8:=by unfold aK;rw[length_map];exact st.l8
 unfold iq
 walk_at "rb"
 refine dg (b:=false) (es:=es.map fun e=>(e.1,e.2.v)) (fun QI hq=>?_) (by rw[length_map];exact st.l8) hd rfl rfl (fun e he=>by obtain⟨e',h',rfl⟩:=List.mem_map.mp he;exact⟨(st.sp e' h').1,(st.sp e' h').2.1⟩) fun ac k1=>?_
 ·walk_at "rb"
  rw[map_map] at hq
  exact hq
 walk_at "rb"
 have sh:(es.map fun e=>(e.1,e.2.v)).map (·.2)=es.map fun e=>e.2.v:=by rw[map_map];rfl
 rw[sh]
 cases up
 ·rw[show wd false = "beside" from rfl]
  simp only[aw gW dU,Ai,false_xor,false_eq_true,↓reduceIte]
  walk_at "rb"
  rw[fM]
  walk_at "rb"
  refine⟨by rw[length_map,length_map];have:=st.l8;omega,fun t=>some (Ke d t),fun t ht Y _=>?_,?_⟩
  ·obtain⟨k,hk',rfl⟩:=List.mem_map.mp ht
   obtain⟨e,he,rfl⟩:=List.mem_map.mp hk'
   have g:=st.sp e he
   exact⟨⟨trivial,trivial⟩,d,e.2.v,rfl,fP hd.1 hd.2.1,gD hd g.2.2.1,g.2.2.2.mono ⋯,rfl,rfl⟩
  ·rw[d9,map_map,map_map]
   have e:es.map (Ke d ∘ dN ∘ fun e=>e.2.v)=(aK false es).map fun z=>dN z.v:=by
    unfold aK
    rw[map_map]
    refine map_congr_left fun e he=>?_
    show dN (aB d e.2.v)=dN (inv e.2).v
    rw[iZ hd (st.sp e he).2.2.1]
   rw[e,EK]
   refine⟨rfl,rfl,dpI _,?_⟩
   rw[show [PyData.int 2,PyData.int 3]=if false=true then [PyData.int 1,.int 2] else [.int 2,.int 3] from rfl,EO q false]
   exact mU hd bw st.sz sl (qd ac k1)
 ·rw[show wd true = "upon" from rfl]
  simp only[aw dU dU,AR,false_xor,↓reduceIte]
  walk_at "rb"
  rw[EK]
  refine⟨rfl,rfl,dpI _,?_⟩
  rw[show [PyData.int 1,PyData.int 2]=if true=true then [PyData.int 1,.int 2] else [.int 2,.int 3] from rfl,EO q true]
  have e:(es.map fun e=>e.2.v).map dN=(aK true es).map fun z=>dN z.v:=by unfold aK;rw[map_map,map_map];rfl
  rw[e]
  exact mU hd bw st.sz sl (qd ac k1)
end
section
variable {U:Mu}{Qd:DK}{ds:List D}
theorem x6:∀{xs ys:List PyData} {i:Nat} {y:PyData},(fX xs ys)[i]? = some y->∃a b,xs[i]? = some a/\ys[i]? = some b/\y = .tuple [a,b]
 |x::xs,z::ys,0,y,h=>⟨x,z,rfl,rfl,(Option.some.inj h).symm⟩
 |x::xs,z::ys,i+1,y,h=>x6 (xs:=xs) (ys:=ys) (i:=i) h
 |[],_,_,_,h=>nomatch h
 |_::_,[],_,_,h=>nomatch h
end
noncomputable def tl6{d:Int}(T:Bo d)(i:Int)(q:Nat):PyData:=.tuple [dN T.x.v,dN T.y.v,dN T.w.v,dN T.h.v,.int i,.bool (q % 2==1)]
section
variable {U:Mu}{Qd:DK}{ds:List D}
theorem b01{d:Int}:Bd 1 (1:RN d).v/\Bd 1 (0:RN d).v:=⟨⟨Sz.of (by show (1:Int).natAbs<2;decide),Sz.of (by show (0:Int).natAbs<2;decide),Sz.of (by show (1:Int).natAbs<2;decide)⟩,⟨Sz.of (by show (0:Int).natAbs<2;decide),Sz.of (by show (0:Int).natAbs<2;decide),Sz.of (by show (1:Int).natAbs<2;decide)⟩⟩
theorem Jw{d:Int}{x:RN d}(h:Bd 4300 x.v):Bw (bS 0) (bP 0) (fl x):=⟨b01.2.mono ⋯,b01.2.mono ⋯,b01.1.mono ⋯,h.mono ⋯⟩
end
noncomputable def eh:DSp:=fun ds U Q=>∃(d:Int) (T:Bo d) (i:Int) (q:Nat) (f l o:RN d),ds=[.v (.int d),.v (tl6 T i q),.v (dN f.v),.v (dN l.v),.v (dN o.v)]/\aj d/\Bw 70000 8000000 T/\Bd 70000 f.v/\Bd 1000000 l.v/\Bd 1000000 o.v/\Q (.v (tl6 (mv f l o T) i q)) U
theorem tP{ds:List D}{U:Mu}{Q:DK}(h:eh ds U Q):ds.length=5:=by obtain⟨_,_,_,_,_,_,_,rfl,_⟩:=h;rfl
noncomputable def gi:DSp:=fun ds U Q=>∃(d:Int) (T:Bo d) (i:Int) (q:Nat) (x:RN d),ds=[.v (.int d),.v (tl6 T i q),.v (dN x.v)]/\aj d/\Bw 70000 8000000 T/\ps x/\Bd 4300 x.v/\Q (.v (tl6 (mv (inv x) 0 0 (qt x T)) i (q+1))) U
theorem pO{ds:List D}{U:Mu}{Q:DK}(h:gi ds U Q):ds.length=3:=by obtain⟨_,_,_,_,_,rfl,_⟩:=h;rfl
noncomputable def jG:DTS:=
 (ak (az (fY [none,some 0,some 2] (fK (dSl (ae 1) fu (jJ (dC (.int 4))))) (af 0) aW (ah a7 (aa (ae 1) (aa (ae 0) (aa (ae 2) ag))))) (yf 4 (aA (af 5) (aA (af 6) (aA (af 7) (aA (af 8) bY))))))
 (aC (dOp iR (aO (aa (ah bQ (aa (ae 5) (aa (ae 3) ag))) (aa (ah bQ (aa (ae 6) (aa (ae 4) ag))) (aa (ae 7) (aa (ae 8) ag))))) (dSl (ae 1) (jJ (dC (.int 4))) fu))))
noncomputable def hR:DTS:=
 (ak (az (dSl (ae 1) fu (jJ (dC (.int 4)))) (cj 4 (aA (af 3) (aA (af 4) (aA (af 5) (aA (af 6) bY))))))
 (ak (az (ah bQ (aa (ae 2) (aa (ah jn (aa (ah bQ (aa (ae 4) (aa (ae 6) ag))) ag)) ag))) (af 7))
 (ak (az (ah aM (aa (ae 0) (aa (ae 2) ag))) (af 8))
 (ak (az (dCB cQ (aa (fY [none,some 0,some 8] (fK (aO (aa (ae 7) (aa (ae 3) (aa (ae 6) (aa (ae 5) ag)))))) (af 0) aW (ah a7 (aa (ae 1) (aa (ae 0) (aa (ae 2) ag))))) ag)) (af 9))
 (aC (dOp iR (ae 9) (aO (aa (dOp ai (ae 1) (dC (.int 4))) (aa (xI (dOp ai (ae 1) (dC (.int 5)))) ag)))))))))
section
variable {U:Mu}{Qd:DK}{ds:List D}
noncomputable def JX(d:Int)(f:N3):PyData->PyData
 |.tuple [.int a,.int b,.int c]=>dN (times d ⟨a,b,c⟩ f)
 |t=>t
theorem J5{a b c e f g:PyData}:atI [a,b,c,e,f,g] 4=some f:=fA (j:=4) rfl
theorem JV{a b c e f g:PyData}:atI [a,b,c,e,f,g] 5=some g:=fA (j:=5) rfl
theorem Kx{a b c e f g:PyData}:kW [a,b,c,e,f,g] none (some 4)=[a,b,c,e]:=rfl
theorem LH{a b c e f g:PyData}:kW [a,b,c,e,f,g] (some 4) none=[f,g]:=rfl
theorem four{d:Int}{T:Bo d}(bw:Bw 70000 8000000 T)(t:PyData)(ht:t∈[dN T.x.v,dN T.y.v,dN T.w.v,dN T.h.v]):∃s:RN d,t=dN s.v/\Bd 8000000 s.v:=by
 simp only[mem_cons,not_mem_nil,or_false] at ht
 rcases ht with e|e|e|e
 ·exact⟨T.x,e,bw.x⟩
 ·exact⟨T.y,e,bw.y⟩
 ·exact⟨T.w,e,bw.w.mono ⋯⟩
 ·exact⟨T.h,e,bw.h.mono ⋯⟩
theorem pV(h:eh ds U Qd):jG ‹Qd› (ao ["_law_d","_law_tile","_law_factor","_law_left","_law_low_here","_law_x","_law_y","_law_width","_law_height"] ds) U:=by
 obtain⟨d,T,i,q,f,l,o,rfl,hd,bw,bf,bl,bo',qd⟩:=h
 have s5:=fP hd.1 hd.2.1
 unfold jG tl6
 walk_at "rb"
 rw[fM]
 walk_at "rb"
 rw[Kx]
 refine⟨by show 4<=1000;decide,fun t=>some (JX d f.v t),fun t ht Y _=>⟨⟨trivial,trivial,trivial⟩,?_⟩,rfl,?_⟩
 ·obtain⟨s,rfl,bs⟩:=four bw t ht
  rw[if_pos trivial]
  exact⟨d,s.v,f.v,rfl,s5,s.ok,f.ok,bs.mono ⋯,bf.mono ⋯,rfl,rfl⟩
 ·rw[d9]
  show aA (af 5) (aA (af 6) (aA (af 7) (aA (af 8) bY))) [dN (T.x*f).v,dN (T.y*f).v,dN (T.w*f).v,dN (T.h*f).v] _ _ _
  walk_at "rb"
  refine⟨(T.x*f).v,l.v,rfl,RN.ok _,l.ok,(bdM hd bw.x bf).mono ⋯,bl.mono ⋯,?_⟩
  walk_at "rb"
  refine⟨(T.y*f).v,o.v,rfl,RN.ok _,o.ok,(bdM hd bw.y bf).mono ⋯,bo'.mono ⋯,?_⟩
  walk_at "rb"
  rw[LH]
  exact⟨by show 6<=1000;decide,qd⟩
theorem nA(h:gi ds U Qd):hR ‹Qd› (ao ["_law_d","_law_tile","_law_shape_here","_law_x","_law_y","_law_width","_law_height","_law_left","_law_contrary_here","_law_sides"] ds) U:=by
 obtain⟨d,T,i,q,x,rfl,hd,bw,px,bx,qd⟩:=h
 have s5:=fP hd.1 hd.2.1
 have ix:=bdI hd px bx
 unfold hR tl6
 walk_at "rb"
 rw[Kx]
 refine⟨rfl,?_⟩
 walk_at "rb"
 refine⟨T.y.v,T.h.v,rfl,T.y.ok,T.h.ok,bw.y.mono ⋯,bw.h.mono ⋯,?_⟩
 walk_at "rb"
 refine⟨(T.y+T.h).v,rfl,?_⟩
 walk_at "rb"
 have bA:=bdA bw.y bw.h
 refine⟨x.v,(-(T.y+T.h)).v,rfl,x.ok,RN.ok _,bx.mono ⋯,(j3 bA).mono ⋯,?_⟩
 walk_at "rb"
 refine⟨d,x.v,rfl,s5,gD hd px,bx.mono ⋯,?_⟩
 walk_at "rb"
 rw[<- iZ hd px,fM]
 walk_at "rb"
 have bN:Bd (8000000+70000+1) (-(T.y+T.h)).v:=j3 bA
 have L:=bdA bx bN
 have all:∀t∈[dN (x + -(T.y+T.h)).v,dN T.x.v,dN T.h.v,dN T.w.v],∃s:RN d,t=dN s.v/\Bd 9000000 s.v:=fun t ht=>by
  simp only[mem_cons,not_mem_nil,or_false] at ht
  rcases ht with e|e|e|e
  ·exact⟨_,e,L.mono ⋯⟩
  ·exact⟨T.x,e,bw.x.mono ⋯⟩
  ·exact⟨T.h,e,bw.h.mono ⋯⟩
  ·exact⟨T.w,e,bw.w.mono ⋯⟩
 refine⟨by show 4<=1000;decide,fun t=>some (JX d (inv x).v t),fun t ht Y _=>⟨⟨trivial,trivial,trivial⟩,?_⟩,?_⟩
 ·obtain⟨s,rfl,bs⟩:=all t ht
  rw[if_pos trivial]
  exact⟨d,s.v,(inv x).v,rfl,s5,s.ok,RN.ok _,bs.mono ⋯,ix.mono ⋯,rfl,rfl⟩
 ·rw[d9]
  walk_at "rb"
  have e:mv (inv x) 0 0 (qt x T)=⟨(x + -(T.y+T.h))*inv x,T.x*inv x,T.h*inv x,T.w*inv x⟩:=by
   unfold mv qt
   generalize inv x=y
   congr 1<;>dsimp only<;>grind
  have eb:((q+1) % 2==1) = !(q % 2==1):=by
   rcases (by omega:q % 2=0\/q % 2=1) with z|z
   ·rw[z,show (q+1) % 2=1 by omega];rfl
   ·rw[z,show (q+1) % 2=0 by omega];rfl
  rw[J5,JV]
  rw[e] at qd
  unfold tl6 at qd
  rw[eb] at qd
  exact⟨⋯,qd⟩
end
noncomputable def KsP(d:Int)(ks:List N3):Prop:=∀k∈ks,Ok k/\sg d k.a k.b=1
section
variable {U:Mu}{Qd:DK}{ds:List D}{ρ:Rho}{d:Int}{ks:List N3}
theorem AX{m:Nat}(l:List (RN d))(h:∀z∈l,Bd m z.v):Bd (1+l.length*(m+1)) (cV l).v:=by
 induction l with
 |nil=>exact (b01.2:Bd 1 (0:RN d).v).mono ∅
 |cons z l ih=>
  have e:(z::l).length*(m+1)=m+1+l.length*(m+1):=by rw[length_cons,add_mul,Nat.one_mul,Nat.add_comm]
  rw[dk]
  exact (bdA (h z (by simp)) (ih fun y hy=>h y (by simp[hy]))).mono ∅
end
section
variable {U:Mu}{Qd:DK}{ds:List D}
theorem Bv{x:PyData}(h:SeqAt.shaped x=true):x.eqv x=true:=SeqAt.eqv_refl _ (SeqAt.canLay_of_shaped h)
end
inductive TP:Nat->PyData->Int->Prop
 |kind {n:Nat} (i:Int):TP (n+1) (.tuple [.str "kind",.int i]) 1
 |turn {n:Nat} {t:PyData} {x:Int}:TP n t x->TP (n+1) (.tuple [.str "turn",t]) x
 |grid {n:Nat} {t:PyData} {x:Int} (u v:Int):1<=u->1<=v->Sz 110 u->Sz 110 v->n<=12->TP n t x->TP (n+1) (.tuple [.str "grid",.int u,.int v,t]) (u*v*x)
 |upon {n:Nat} (es:List (PyData×Int)):2<=es.length->es.length<=8->(∀e∈es,TP n e.1 e.2)->TP (n+1) (.tuple [.str "upon",.tuple (es.map (·.1))]) ((es.map (·.2)).sum)
 |beside {n:Nat} (es:List (PyData×Int)):2<=es.length->es.length<=8->(∀e∈es,TP n e.1 e.2)->TP (n+1) (.tuple [.str "beside",.tuple (es.map (·.1))]) ((es.map (·.2)).sum)
theorem vt{k:Nat}:∀(l:List Int) (m:Nat),l.length<=m->(∀x∈l,Sz k x)->Sz (k+m) l.sum
 |[],m,_,_=>Sz.of (by simp;exact Nat.pow_pos ⋯)
 |x::l,m,h,hx=>by
  obtain⟨m,rfl⟩:∃m',m=m'+1:=⟨m-1,by have:=h;simp at this;omega⟩
  rw[sum_cons]
  have ih:=vt l m (by simpa using h) fun y hy=>hx y (mem_cons_of_mem _ hy)
  exact ((hx x mem_cons_self).mono (le_add_right _ _)).add ih
theorem TP.sz{n:Nat}{t:PyData}{x:Int}(h:TP n t x):Sz (230*n) x:=by
 induction h with
 |kind i=>exact (Sz.of (n:=1) ⋯).mono ∅
 |turn _ ih=>exact ih.mono ∅
 |grid u v _ _ hu hv _ _ ih=>exact ((hu.mul hv).mul ih).mono ∅
 |upon es _ h8 _ ih=>exact (vt _ 8 (by rw[length_map];exact h8) (fun x hx=>by obtain⟨e,he,rfl⟩:=List.mem_map.mp hx;exact ih e he)).mono ∅
 |beside es _ h8 _ ih=>exact (vt _ 8 (by rw[length_map];exact h8) (fun x hx=>by obtain⟨e,he,rfl⟩:=List.mem_map.mp hx;exact ih e he)).mono ∅
theorem lq{n:Nat}:∀(l:List PyData),(∀e∈l,∃x,TP n e x)->∃ys:List (PyData×Int),ys.map (·.1)=l/\∀y∈ys,TP n y.1 y.2
 |[],_=>⟨[],rfl,fun _ h=>nomatch h⟩
 |e::l,h=>by
  obtain⟨x,hx⟩:=h e mem_cons_self
  obtain⟨ys,h1,h2⟩:=lq l fun e he=>h e (mem_cons_of_mem _ he)
  refine⟨(e,x)::ys,by rw[map_cons,h1],fun y hy=>?_⟩
  rcases List.mem_cons.mp hy with rfl|hy
  ·exact hx
  ·exact h2 y hy
theorem JS{m:Int}{d c:Nat}{t:PyData}(h:IsP m d c t):∀n,d<=n->n<=13->∃x,TP n t x:=by
 induction h with
 |kind i _ _=>intro n hn hn';obtain⟨n,rfl⟩:∃k,n=k+1:=⟨n-1,∅⟩;exact⟨_,.kind i⟩
 |turn _ ih=>intro n hn hn';obtain⟨n,rfl⟩:∃k,n=k+1:=⟨n-1,∅⟩;obtain⟨x,hx⟩:=ih n ∅ ∅;exact⟨_,.turn hx⟩
 |grid u v u0 v0 u1 v1 _ ih=>
  intro n hn hn';obtain⟨n,rfl⟩:∃k,n=k+1:=⟨n-1,∅⟩;obtain⟨x,hx⟩:=ih n ∅ ∅
  exact⟨_,.grid u v u0 v0 ((Sz.of (n:=20) (by show u.natAbs<1048576;omega)).mono ⋯) ((Sz.of (n:=20) (by show v.natAbs<1048576;omega)).mono ⋯) ∅ hx⟩
 |upon es h2 h8 hd _ ih=>
  intro n hn hn';obtain⟨n,rfl⟩:∃k,n=k+1:=⟨n-1,∅⟩
  obtain⟨ys,h1,h3⟩:=lq (n:=n) (es.map (·.2.2)) fun e he=>by obtain⟨f,hf,rfl⟩:=List.mem_map.mp he;exact ih f hf n (by have:=hd f hf;omega) ∅
  have hl:ys.length=es.length:=by have:=congrArg List.length h1;simpa using this
  exact⟨_,by rw[<- h1];exact .upon ys ∅ ∅ h3⟩
 |beside es h2 h8 hd _ ih=>
  intro n hn hn';obtain⟨n,rfl⟩:∃k,n=k+1:=⟨n-1,∅⟩
  obtain⟨ys,h1,h3⟩:=lq (n:=n) (es.map (·.2.2)) fun e he=>by obtain⟨f,hf,rfl⟩:=List.mem_map.mp he;exact ih f hf n (by have:=hd f hf;omega) ∅
  have hl:ys.length=es.length:=by have:=congrArg List.length h1;simpa using this
  exact⟨_,by rw[<- h1];exact .beside ys ∅ ∅ h3⟩
noncomputable def du(n:Nat):DSp:=fun ds U Q=>∃(t:PyData) (x:Int),ds=[.v t]/\Sh t/\TP n t x/\∀Y,(∀b ds,U b=some ds->Y b=some ds)->Q (.v (.int x)) Y
theorem mh{n:Nat}{U:Mu}{Q:DK}{ds:List D}(h:du n ds U Q):ds.length=1:=by obtain⟨_,_,rfl,_⟩:=h;rfl
theorem vd{U:Mu}{Q:DK}{ds:List D}(h:du 0 ds U Q):False:=by obtain⟨_,_,_,_,h,_⟩:=h;cases h
noncomputable abbrev cZ(n:Nat):DSp:=du n
theorem sX{n:Nat}{U:Mu}{Q:DK}{ds:List D}(h:cZ n ds U Q):ds.length=1:=mh h
theorem zf{U:Mu}{Q:DK}{ds:List D}(h:cZ 0 ds U Q):False:=vd h
theorem yd(es:List (PyData×Int))(h2:2<=es.length)(h:∀e∈es,1<=e.2):1<=(es.map (·.2)).sum:=by
 have key:∀l:List (PyData×Int),(∀e∈l,1<=e.2)->(l.length:Int)<=(l.map (·.2)).sum:=fun l=>by
  induction l with
  |nil=>intro _;simp
  |cons e l ih=>intro h;rw[map_cons,sum_cons,length_cons];have:=ih fun y hy=>h y (by simp[hy]);have:=h e (by simp);omega
 have:=key es h
 omega
theorem TP.pos{n:Nat}{t:PyData}{x:Int}(h:TP n t x):1<=x:=by
 induction h with
 |kind i=>decide
 |turn _ ih=>exact ih
 |@grid n t x u v hu hv _ _ _ _ ih=>have:=mul_pos (mul_pos (by omega:0<u) (by omega:0<v)) (by omega:0<x);omega
 |upon es h2 _ _ ih=>exact yd es h2 ih
 |beside es h2 _ _ ih=>exact yd es h2 ih
theorem TP.Eu{n:Nat}{t:PyData}{c:Int}(h:TP (n+1) (.tuple [.str "turn",t]) c):TP n t c:=by
 generalize ht:PyData.tuple [.str "turn",t]=t' at h
 cases h with
 |turn h=>injection ht with ht;injection ht with _ ht;injection ht with ht;subst ht;exact h
 |kind _=>exact absurd (tgE ht) ⋯
 |grid _ _ _ _ _ _ _ _=>exact absurd (tgE ht) ⋯
 |upon _ _ _ _=>exact absurd (tgE ht) ⋯
 |beside _ _ _ _=>exact absurd (tgE ht) ⋯
theorem TP.IW{n:Nat}{i c:Int}(h:TP (n+1) (.tuple [.str "kind",.int i]) c):c=1:=by
 generalize ht:PyData.tuple [.str "kind",.int i]=t' at h
 cases h with
 |kind _=>rfl
 |turn _=>exact absurd (tgE ht) ⋯
 |grid _ _ _ _ _ _ _ _=>exact absurd (tgE ht) ⋯
 |upon _ _ _ _=>exact absurd (tgE ht) ⋯
 |beside _ _ _ _=>exact absurd (tgE ht) ⋯
theorem TP.E1{n:Nat}{t:PyData}{u v c:Int}(h:TP (n+1) (.tuple [.str "grid",.int u,.int v,t]) c):∃y,TP n t y/\c=u*v*y:=by
 generalize ht:PyData.tuple [.str "grid",.int u,.int v,t]=t' at h
 cases h with
 |grid u' v' _ _ _ _ _ h=>
  injection ht with ht;injection ht with _ ht;injection ht with e1 ht;injection ht with e2 ht;injection ht with e3 ht
  injection e1 with e1;injection e2 with e2
  subst e1 e2 e3;exact⟨_,h,rfl⟩
 |kind _=>exact absurd (tgE ht) ⋯
 |turn _=>exact absurd (tgE ht) ⋯
 |upon _ _ _ _=>exact absurd (tgE ht) ⋯
 |beside _ _ _ _=>exact absurd (tgE ht) ⋯
theorem TP.zF{n:Nat}{ps:List PyData}{up:Bool}{c:Int}(h:TP (n+1) (.tuple [.str (wd up),.tuple ps]) c):∃es:List (PyData×Int),es.map (·.1)=ps/\c=(es.map (·.2)).sum/\∀e∈es,TP n e.1 e.2:=by
 generalize ht:PyData.tuple [.str (wd up),.tuple ps]=t' at h
 cases h with
 |grid _ _ _ _ _ _ _ _=>exact (eZ (tgE ht).symm ⋯ ⋯).elim
 |kind _=>exact (eZ (tgE ht).symm ⋯ ⋯).elim
 |turn _=>exact (eZ (tgE ht).symm ⋯ ⋯).elim
 |upon es _ _ h=>injection ht with ht;injection ht with _ ht;injection ht with ht;injection ht with ht;subst ht;exact⟨es,rfl,rfl,h⟩
 |beside es _ _ h=>injection ht with ht;injection ht with _ ht;injection ht with ht;injection ht with ht;subst ht;exact⟨es,rfl,rfl,h⟩
theorem ot{α β:Type}(f:β->List α):∀(l:List β),(((l.map f).flatten.length:Nat):Int)=(l.map fun p=>((f p).length:Int)).sum
 |[]=>rfl
 |p::l=>by rw[map_cons,List.flatten_cons,length_append,map_cons,sum_cons,<- ot f l];omega
theorem sI(u v:Int):(gIx u v).length=v.toNat*u.toNat:=by
 have key:∀k,((List.range k).flatMap fun r:Nat=>(List.range u.toNat).map fun c:Nat=>((c:Int),(r:Int))).length=k*u.toNat:=fun k=>by
  induction k with
  |zero=>simp
  |succ k ih=>rw[range_succ,List.flatMap_append,length_append,ih];simp[Nat.succ_mul]
 exact key v.toNat
theorem TL.len{d:Int}{ks:List N3}{n q:Nat}{t:PyData}{x:RN d}{B:Bo d}{L:List (Bo d×Int×Nat)}(h:TL d ks n q t x B L):∀{c:Int},TP n t c->(L.length:Int)=c:=by
 induction h with
 |kind i k h0 h1 h2 h3=>exact fun h=>h.IW.symm
 |turn h1 h2 h3 _ ih=>exact fun h=>ih h.Eu
 |@grid n q t x B u v Ls h1 h2 h3 h4 h5 h6 h7 hL hT ih=>
  intro c h
  obtain⟨y,hy,rfl⟩:=h.E1
  rw[ot]
  have e:Ls.map (fun p=>(p.2.length:Int))=Ls.map fun _=>y:=map_congr_left fun p hp=>ih p hp hy
  have el:Ls.length=v.toNat*u.toNat:=by have:=congrArg List.length hL;rw[length_map] at this;rw[this];unfold dh;rw[length_map,sI]
  have sm:∀(l:List (Bo d×List (Bo d×Int×Nat))),(l.map fun _=>y).sum=(l.length:Int)*y:=fun l=>by
   induction l with
   |nil=>simp
   |cons p l ih=>rw[map_cons,sum_cons,ih,length_cons,show ((l.length+1:Nat):Int)=(l.length:Int)+1 by omega,Int.add_mul,Int.one_mul,Int.add_comm]
  rw[e,sm,el,Int.natCast_mul,show ((v.toNat:Nat):Int)=v by omega,show ((u.toNat:Nat):Int)=u by omega,Int.mul_comm v u]
 |@strip n q B up es Ls h1 h2 h3 h4 hL hT ih=>
  intro c h
  obtain⟨es',e1,rfl,hh⟩:=h.zF
  rw[ot]
  have sl:(aS q up B (aK up es)).length=es.length:=by rw[gS];unfold aK;rw[length_map]
  have l1:Ls.length=es.length:=by have:=congrArg List.length hL;rw[length_map,List.length_zip,sl,Nat.min_self] at this;exact this
  have l2:es'.length=es.length:=by have:=congrArg List.length e1;rwa [length_map,length_map] at this
  congr 1
  refine List.ext_getElem (by rw[length_map,length_map];omega) fun i k1 k2=>?_
  rw[length_map] at k1 k2
  rw[List.getElem_map,List.getElem_map]
  have m1:=getElem_mem k1
  refine ih _ m1 ?_
  have e2:(Ls.map (·.1))[i]? = some (Ls[i]).1:=by rw[getElem?_map,getElem?_eq_getElem k1];rfl
  rw[hL] at e2
  have e3:=(List.getElem?_zip_eq_some.mp e2).1
  have e4:(es'.map (·.1))[i]? = some (es'[i]).1:=by rw[getElem?_map,getElem?_eq_getElem k2];rfl
  rw[e1,getElem?_map,e3] at e4
  have e5:(Ls[i]).1.1.1=(es'[i]).1:=Option.some.inj e4
  rw[e5]
  exact hh _ (getElem_mem k2)
noncomputable def ej{d:Int}(e:Bo d×Int×Nat):PyData:=tl6 e.1 e.2.1 e.2.2
structure PlP(d:Int)(ks:List N3)(n:Nat)(t:PyData)(X:RN d)(c:Int):Prop where
 ln:n<=13
 hd:aj d
 hk:KsP d ks
 sh:Sh t
 sp:SP d ks n t X.v
 bd:Bd 4300 X.v
 tp:TP n t c
 few:c<=60
noncomputable def cD(n:Nat):DSp:=fun ds U Q=>∃(d:Int) (ks:List N3) (t:PyData) (X:RN d) (c:Int),ds=[.v (.int d),.v (.tuple (ks.map dN)),.v t]/\PlP d ks n t X c /\
 ∀L Y,TL d ks n 0 t X (fl X) L->(∀b ds,U b=some ds->Y b=some ds)->Q (.v (.list (L.map ej))) Y
theorem tM{n:Nat}{U:Mu}{Q:DK}{ds:List D}(h:cD n ds U Q):ds.length=3:=by obtain⟨_,_,_,_,_,rfl,_⟩:=h;rfl
theorem yG{U:Mu}{Q:DK}{ds:List D}(h:cD 0 ds U Q):False:=by obtain⟨_,_,_,_,_,_,h,_⟩:=h;cases h.tp
noncomputable def kh(n:Nat):DSp:=fun ds U Q=>∃(d:Int) (ks:List N3) (t:PyData) (x:RN d) (u v c:Int),ds=[.v (.int d),.v (.tuple (ks.map dN)),.v (.tuple [.str "grid",.int u,.int v,t])]/\PlP d ks n t x c/\GrP u v/\u*v*c<=60 /\
 ∀L Y,TL d ks (n+1) 0 (.tuple [.str "grid",.int u,.int v,t]) (x*((v:RN d)*inv (u:RN d))) (fl (x*((v:RN d)*inv (u:RN d)))) L->(∀b ds,U b=some ds->Y b=some ds)->Q (.v (.list (L.map ej))) Y
theorem uh{n:Nat}{U:Mu}{Q:DK}{ds:List D}(h:kh n ds U Q):ds.length=3:=by obtain⟨_,_,_,_,_,_,_,rfl,_⟩:=h;rfl
noncomputable def Dm(sp:DSp):DSp:=fun ds U Q=>∃Q',sp ds U Q'/\∀d Y,yr U Q' d Y->Q d Y
noncomputable abbrev lM(n:Nat):DSp:=Dm (cD n)
noncomputable abbrev oR(n:Nat):DSp:=Dm (kh n)
theorem pP{n:Nat}{U:Mu}{Q:DK}{ds:List D}(h:lM n ds U Q):ds.length=3:=tM h.choose_spec.1
theorem rB{n:Nat}{U:Mu}{Q:DK}{ds:List D}(h:oR n ds U Q):ds.length=3:=uh h.choose_spec.1
theorem oE{n:Nat}{ds:List D}{U:Mu}{Qd:DK}(h:cD n ds U Qd):lM n ds U (yr U Qd):=⟨Qd,h,fun _ _ z=>z⟩
theorem ju{n:Nat}{ds:List D}{U:Mu}{Qd:DK}(h:kh n ds U Qd):oR n ds U (yr U Qd):=⟨Qd,h,fun _ _ z=>z⟩
noncomputable def jy(n:Nat):DTS:=
 (ak (aL (dB (dOp (aJ false) (dOp ai (ae 0) (dC (.int 0))) (dC (.str "kind")))) (aC (dC (.int 1))) aF)
 (ak (aL (dB (dOp (aJ false) (dOp ai (ae 0) (dC (.int 0))) (dC (.str "turn")))) (aC (ah (cZ n) (aa (dOp ai (ae 0) (dC (.int 1))) ag))) aF)
 (ak (aL (dB (dOp (aJ false) (dOp ai (ae 0) (dC (.int 0))) (dC (.str "grid")))) (aC (aY (aY (dOp ai (ae 0) (dC (.int 1))) (dOp ai (ae 0) (dC (.int 2)))) (ah (cZ n) (aa (dOp ai (ae 0) (dC (.int 3))) ag)))) aF)
 (aC (dCB mQ (aa (aP [none] (fK (dOp ai (ae 0) (dC (.int 1)))) (af 0) aW (ah (cZ n) (aa (ae 0) ag))) ag))))))
noncomputable def jA(n:Nat):DTS:=
 (ak (aL (dB (dOp (aJ false) (dOp ai (ae 2) (dC (.int 0))) (dC (.str "kind")))) (aC (cL (aa (aO (aa (aO (aa (dC (.int 0)) (aa (dC (.int 0)) (aa (dC (.int 1)) ag)))) (aa (aO (aa (dC (.int 0)) (aa (dC (.int 0)) (aa (dC (.int 1)) ag)))) (aa (aO (aa (dC (.int 1)) (aa (dC (.int 0)) (aa (dC (.int 1)) ag)))) (aa (dOp ai (ae 1) (dOp ai (ae 2) (dC (.int 1)))) (aa (dOp ai (ae 2) (dC (.int 1))) (aa (dC (.bool false)) ag))))))) ag))) aF)
 (ak (aL (dB (dOp (aJ false) (dOp ai (ae 2) (dC (.int 0))) (dC (.str "turn")))) (ak (az (ah (bE 13) (aa (ae 0) (aa (ae 1) (aa (dOp ai (ae 2) (dC (.int 1))) ag)))) (af 3))
 (aC (aP [none,some 0,some 3] (aZ (ah (cD n) (aa (ae 0) (aa (ae 1) (aa (dOp ai (ae 2) (dC (.int 1))) ag))))) (af 0) aW (ah gi (aa (ae 1) (aa (ae 0) (aa (ae 2) ag))))))) aF)
 (ak (aL (dB (dOp (aJ false) (dOp ai (ae 2) (dC (.int 0))) (dC (.str "grid")))) (aC (ah (kh n) (aa (ae 0) (aa (ae 1) (aa (ae 2) ag))))) aF)
 (ak (az (ah (bE 13) (aa (ae 0) (aa (ae 1) (aa (ae 2) ag)))) (af 4))
 (ak (az (gY ag) (af 5))
 (ak (az (aO (aa (aO (aa (dC (.int 0)) (aa (dC (.int 0)) (aa (dC (.int 1)) ag)))) (aa (aO (aa (dC (.int 0)) (aa (dC (.int 0)) (aa (dC (.int 1)) ag)))) ag))) (cj 2 (aA (af 6) (aA (af 7) bY))))
 (ak (gA (fK (dOp ai (ae 2) (dC (.int 1)))) (af 8) (ak (az (ah (bE 13) (aa (ae 0) (aa (ae 1) (aa (ae 8) ag)))) (af 3))
 (ak (az (aO (aa (dC (.int 1)) (aa (dC (.int 0)) (aa (dC (.int 1)) ag)))) (af 9))
 (ak (aL (dB (dOp (aJ false) (dOp ai (ae 2) (dC (.int 0))) (dC (.str "beside")))) (az (ah a7 (aa (ae 0) (aa (ae 4) (aa (ah aM (aa (ae 0) (aa (ae 3) ag))) ag)))) (af 9)) aF)
 (ak (cA (yR (ae 5) (aP [none,some 0,some 9,some 6,some 7] (aZ (ah (cD n) (aa (ae 0) (aa (ae 1) (aa (ae 8) ag))))) (af 0) aW (ah eh (aa (ae 1) (aa (ae 0) (aa (ae 2) (aa (ae 3) (aa (ae 4) ag)))))))))
 (aL (dB (dOp (aJ false) (dOp ai (ae 2) (dC (.int 0))) (dC (.str "upon")))) (az (ah bQ (aa (ae 7) (aa (ae 3) ag))) (af 7)) (az (ah bQ (aa (ae 6) (aa (ae 9) ag))) (af 6))))))))
 (aC (ae 5)))))))))
noncomputable def fb(n:Nat):DTS:=
 (ak (az (ah (cD n) (aa (ae 0) (aa (ae 1) (aa (dOp ai (ae 2) (dC (.int 3))) ag)))) (af 3))
 (ak (az (ah (bE 13) (aa (ae 0) (aa (ae 1) (aa (dOp ai (ae 2) (dC (.int 3))) ag)))) (af 4))
 (ak (az (gY ag) (af 5))
 (ak (gA (dj (aa (dOp ai (ae 2) (dC (.int 2))) ag)) (af 6) (ak (az (ah a7 (aa (ae 0) (aa (ae 4) (aa (ah aR (aa (ae 6) (aa (dC (.int 0)) (aa (dOp ai (ae 2) (dC (.int 1))) ag)))) ag)))) (af 7))
 (gA (dj (aa (dOp ai (ae 2) (dC (.int 1))) ag)) (af 8) (ak (az (ah aR (aa (ae 8) (aa (dC (.int 0)) (aa (dOp ai (ae 2) (dC (.int 1))) ag)))) (af 9))
 (cA (yR (ae 5) (aP [none,some 0,some 9,some 7,some 2] (aZ (ae 3)) (af 0) aW (ah eh (aa (ae 1) (aa (ae 0) (aa (ah aR (aa (dC (.int 1)) (aa (dC (.int 0)) (aa (dOp ai (ae 4) (dC (.int 1))) ag)))) (aa (ae 2) (aa (ae 3) ag)))))))))))))
 (aC (ae 5))))))
section
variable {U:Mu}{Qd:DK}{ds:List D}{ρ:Rho}{n:Nat}
theorem iW:∀(l:List Int),aT (l.map PyData.int)=some l
 |[]=>rfl
 |x::l=>by
  rw[map_cons]
  show aT (PyData.int x::_)=_
  unfold aT
  rw[iW l]
  rfl
theorem c9{src:DTI}{es:List (PyData×Int)}(hs:∀QI:List PyData->Mu->Prop,QI (es.map (·.1)) U->src ρ U QI)(hl:es.length<=8)
  (hh:∀e∈es,Sh e.1/\TP n e.1 e.2) (q:∀Y,(∀b ds,U b=some ds->Y b=some ds)->Qd (.v (.list ((es.map (·.2)).map .int))) Y) :
  aP [none] src (af 0) aW (ah (du n) (aa (ae 0) ag)) ρ U Qd:=by
 rw[bF]
 refine hs _ ⟨by rw[length_map];omega,fun p hp=>⟨fun i acc Y=>acc=((es.take i).map (·.2)).map .int/\∀b ds,b≠p->U b=some ds->Y b=some ds,⟨by simp,fun b ds hb e=>by rw[au hb];exact e⟩,?_,?_⟩⟩
 ·rintro i x acc Y hx hacc ⟨rfl,hk⟩
  rw[getElem?_map] at hx
  obtain⟨e,he,rfl⟩:∃e,es[i]? = some e/\e.1=x:=by
   cases z:es[i]? with
   |none=>rw[z] at hx;cases hx
   |some e=>rw[z] at hx;exact⟨e,rfl,by simpa using hx⟩
  have hm:=hh e (mem_of_getElem? he)
  simp only[a8,bU,b0,bind_some,bind_none,join_some,set_cons_zero,b9,↓reduceIte,dG,d7,dz,true_and,and_true,dq,bI,cO,cm,cw,cG]
  refine⟨e.1,e.2,rfl,hm.1,hm.2,fun ce h4=>⟨h4 _ _ hacc,?_,fun b ds hb e'=>by rw[au hb];exact h4 b ds (hk b ds hb e')⟩⟩
  rw[take_succ,he];simp
 ·rintro acc Y ⟨rfl,hk⟩ hacc
  rw[length_map,take_length]
  exact q _ fun b ds e=>by
   have hb:b≠p:=fun z=>by rw[z,hp] at e;cases e
   rw[bV hb];exact hk b ds hb e
theorem p5(n:Nat)(h:cZ (n+1) ds U Qd):jy n ‹Qd› (ao ["_law_plan_here"] ds) U:=by
 obtain⟨t,x,rfl,hs,tp,q⟩:=h
 unfold jy
 cases tp with
 |kind i=>
  walk_at "ru"
  simp only[aw bJ bJ,uY,false_xor,↓reduceIte]
  exact q U fun _ _ e=>e
 |@turn _ t' y h1=>
  walk_at "ru"
  simp only[aw cb bJ,aw cb cb,qc,tJ,false_xor,false_eq_true,↓reduceIte]
  exact⟨t',x,rfl,hs.mem t' (by simp),h1,q⟩
 |@grid _ t' y u v hu hv hu' hv' hn h1=>
  walk_at "ru"
  simp only[aw bh bJ,aw bh cb,aw bh bh,wx,zm,oV,false_xor,false_eq_true,↓reduceIte]
  refine⟨cC hu' hv' ⋯,t',y,rfl,hs.mem t' (by simp),h1,fun ac k1=>?_⟩
  walk_at "ru"
  exact⟨cC (hu'.mul hv') h1.sz ∅,q ac k1⟩
 |@upon _ es h2 h8 hh=>
  walk_at "ru"
  simp only[aw dU bJ,aw dU cb,aw dU bh,wm,yC,wc,false_xor,false_eq_true,↓reduceIte]
  have hp:∀e∈es,Sh e.1:=fun e he=>(hs.mem (.tuple (es.map (·.1))) (by simp)).mem e.1 (mem_map_of_mem he)
  refine c9 (es:=es) (fun QI hq=>by walk_at "ru";exact hq) h8 (fun e he=>⟨hp e he,hh e he⟩) fun ac k1=>?_
  walk_at "ru"
  simp only[iW]
  exact q ac k1
 |@beside _ es h2 h8 hh=>
  walk_at "ru"
  simp only[aw gW bJ,aw gW cb,aw gW bh,vI,yq,vq,false_xor,false_eq_true,↓reduceIte]
  have hp:∀e∈es,Sh e.1:=fun e he=>(hs.mem (.tuple (es.map (·.1))) (by simp)).mem e.1 (mem_map_of_mem he)
  refine c9 (es:=es) (fun QI hq=>by walk_at "ru";exact hq) h8 (fun e he=>⟨hp e he,hh e he⟩) fun ac k1=>?_
  walk_at "ru"
  simp only[iW]
  exact q ac k1
end
section
variable {U:Mu}{Qd:DK}{ds:List D}{ρ:Rho}{d:Int}{ks:List N3}
theorem TL.bw(hd:aj d){n:Nat}{t:PyData}{x:RN d}{L:List (Bo d×Int×Nat)}(h:TL d ks n 0 t x (fl x) L)(hn:n<=13)(bx:Bd 4300 x.v):∀e∈L,Bw 70000 8000000 e.1:=fun e he=>
 ((h.go e he).bw hd (m:=0) ∅ (Jw bx)).mono ⋯ ⋯
theorem acc_step{α:Type}{L:List α}{g:α->PyData}{i:Nat}{e:α}(he:L[i]? = some e):(L.take i).map g++[g e]=(L.take (i+1)).map g:=by
 rw[take_succ,he];simp
theorem D4{src:DTI}(C:List (Bo d×Int×Nat)->Mu->Prop)(hs:∀QI:List PyData->Mu->Prop,(∀L Y,C L Y->QI (L.map ej) Y)->src ρ U QI){f l o:RN d}{i0 i1 i2 i3:Nat}(hl:∀L Y,C L Y->L.length<=60)(hd:aj d)(h0:ρ[i0]? = some (some (.v (.int d))))(h1:ρ[i1]? = some (some (.v (dN f.v))))(h2:ρ[i2]? = some (some (.v (dN l.v))))(h3:ρ[i3]? = some (some (.v (dN o.v))))
  (bw:∀L Y,C L Y->∀e∈L,Bw 70000 8000000 e.1) (bf:Bd 70000 f.v) (bl:Bd 1000000 l.v) (bo:Bd 1000000 o.v) (q:∀L Y,C L Y->Qd (.v (.list ((L.map (mvT f l o)).map ej))) Y) :
  aP [none,some i0,some i1,some i2,some i3] src (af 0) aW (ah eh (aa (ae 1) (aa (ae 0) (aa (ae 2) (aa (ae 3) (aa (ae 4) ag)))))) ρ U Qd:=by
 rw[bF]
 refine hs _ fun L ac hC=>⟨by rw[length_map];have:=hl L ac hC;omega,fun p hp=>⟨fun i acc Y=>acc=(L.take i).map (fun e=>ej (mvT f l o e))/\Y=aE ac p acc,⟨by simp,rfl⟩,?_,?_⟩⟩
 ·rintro i x acc Y hx hacc ⟨rfl,rfl⟩
  rw[getElem?_map] at hx
  obtain⟨e,he,rfl⟩:=Option.map_eq_some_iff.mp hx
  simp only[a8,bU,b0,h0,h1,h2,h3,bind_some,bind_none,join_some,set_cons_zero,b9,↓reduceIte,dG,d7,dz,true_and,and_true,dq,bI,cO,cm,cw,cG,dY,fO]
  refine⟨d,e.1,e.2.1,e.2.2,f,l,o,rfl,hd,bw L ac hC e (mem_of_getElem? he),bf,bl,bo,hacc,acc_step (g:=fun e=>ej (mvT f l o e)) he,?_⟩
  rw[bL]
 ·rintro acc Y ⟨rfl,rfl⟩ hacc
  rw[cf hp,length_map,take_length]
  have:=q L ac hC
  rwa [map_map] at this
theorem BI{src:DTI}(C:List (Bo d×Int×Nat)->Mu->Prop)(hs:∀QI:List PyData->Mu->Prop,(∀L Y,C L Y->QI (L.map ej) Y)->src ρ U QI){u v:Int}{t:PyData}{l o:RN d}{i0 i1 i2 i3:Nat}(hl:∀L Y,C L Y->L.length<=60)(hd:aj d)(h0:ρ[i0]? = some (some (.v (.int d))))(h1:ρ[i1]? = some (some (.v (dN l.v))))(h2:ρ[i2]? = some (some (.v (dN o.v))))(h3:ρ[i3]? = some (some (.v (.tuple [.str "grid",.int u,.int v,t]))))
  (bw:∀L Y,C L Y->∀e∈L,Bw 70000 8000000 e.1) (u1:1<=u) (u2:u<=1000000) (bl:Bd 1000000 l.v) (bo:Bd 1000000 o.v) (q:∀L Y,C L Y->Qd (.v (.list ((L.map (mvT (inv (u:RN d)) l o)).map ej))) Y) :
  aP [none,some i0,some i1,some i2,some i3] src (af 0) aW (ah eh (aa (ae 1) (aa (ae 0) (aa (ah aR (aa (dC (.int 1)) (aa (dC (.int 0)) (aa (dOp ai (ae 4) (dC (.int 1))) ag)))) (aa (ae 2) (aa (ae 3) ag)))))) ρ U Qd:=by
 have pu:=bb (d:=d) (n:=u) ∅
 have biu:=bdI hd pu (bdC ∅ u2)
 have e1:(1:Int)*inv (u:RN d)=inv (u:RN d):=by rw[B3];grind
 rw[bF]
 refine hs _ fun L ac hC=>⟨by rw[length_map];have:=hl L ac hC;omega,fun p hp=>⟨fun i acc Y=>acc=(L.take i).map (fun e=>ej (mvT (inv (u:RN d)) l o e))/\Y=aE ac p acc,⟨by simp,rfl⟩,?_,?_⟩⟩
 ·rintro i x acc Y hx hacc ⟨rfl,rfl⟩
  rw[getElem?_map] at hx
  obtain⟨e,he,rfl⟩:=Option.map_eq_some_iff.mp hx
  simp only[a8,bU,b0,h0,h1,h2,h3,bind_some,bind_none,join_some,set_cons_zero,b9,↓reduceIte,dG,d7,dz,true_and,and_true,dq,bI,cO,cm,cw,cG,dY,fO,q_c,Em,fQ]
  refine⟨1,0,u,rfl,∅,(Sz.of (n:=20) (by show u.natAbs<1048576;omega)).mono ⋯,?_⟩
  simp only[kD hd (show 0<u by omega),e1]
  refine⟨d,e.1,e.2.1,e.2.2,inv (u:RN d),l,o,rfl,hd,bw L ac hC e (mem_of_getElem? he),biu.mono ⋯,bl,bo,hacc,acc_step (g:=fun e=>ej (mvT (inv (u:RN d)) l o e)) he,?_⟩
  rw[bL]
 ·rintro acc Y ⟨rfl,rfl⟩ hacc
  rw[cf hp,length_map,take_length]
  have:=q L ac hC
  rwa [map_map] at this
theorem DY{src:DTI}(C:List (Bo d×Int×Nat)->Mu->Prop)(hs:∀QI:List PyData->Mu->Prop,(∀L Y,C L Y->QI (L.map ej) Y)->src ρ U QI){x:RN d}{i0 i1:Nat}(hl:∀L Y,C L Y->L.length<=60)(hd:aj d)(h0:ρ[i0]? = some (some (.v (.int d))))(h1:ρ[i1]? = some (some (.v (dN x.v))))
  (bw:∀L Y,C L Y->∀e∈L,Bw 70000 8000000 e.1) (px:ps x) (bx:Bd 4300 x.v) (q:∀L Y,C L Y->Qd (.v (.list (((L.map (qtT x)).map (mvT (inv x) 0 0)).map ej))) Y) :
  aP [none,some i0,some i1] src (af 0) aW (ah gi (aa (ae 1) (aa (ae 0) (aa (ae 2) ag)))) ρ U Qd:=by
 rw[bF]
 refine hs _ fun L ac hC=>⟨by rw[length_map];have:=hl L ac hC;omega,fun p hp=>⟨fun i acc Y=>acc=(L.take i).map (fun e=>ej (mvT (inv x) 0 0 (qtT x e)))/\Y=aE ac p acc,⟨by simp,rfl⟩,?_,?_⟩⟩
 ·rintro i y acc Y hx hacc ⟨rfl,rfl⟩
  rw[getElem?_map] at hx
  obtain⟨e,he,rfl⟩:=Option.map_eq_some_iff.mp hx
  simp only[a8,bU,b0,h0,h1,bind_some,bind_none,join_some,set_cons_zero,b9,↓reduceIte,dG,d7,dz,true_and,and_true,dq,bI,cO,cm,cw,cG]
  refine⟨d,e.1,e.2.1,e.2.2,x,rfl,hd,bw L ac hC e (mem_of_getElem? he),px,bx,hacc,acc_step (g:=fun e=>ej (mvT (inv x) 0 0 (qtT x e))) he,?_⟩
  rw[bL]
 ·rintro acc Y ⟨rfl,rfl⟩ hacc
  rw[cf hp,length_map,take_length]
  have:=q L ac hC
  rw[map_map,map_map] at this
  exact this
noncomputable def wdF{d:Int}(up:Bool)(X:RN d)(e:PyData×RN d):RN d:=if up=true then 1 else X*inv e.2
noncomputable def lfF{d:Int}(up:Bool)(X:RN d)(l:List (PyData×RN d)):RN d:=if up=true then 0 else cV (l.map fun e=>X*inv e.2)
noncomputable def lwF{d:Int}(up:Bool)(l:List (PyData×RN d)):RN d:=if up=true then cV (l.map (·.2)) else 0
theorem zr(hd:aj d){X:RN d}{up:Bool}{es:List (PyData×RN d)}{j:Nat}{e:PyData×RN d}(hp:ps e.2)(he:es[j]? = some e):(aS 0 up (fl X) (aK up es))[j]? = some (mv (wdF up X e) (lfF up X (es.take j)) (lwF up (es.take j)) (fl e.2)):=by
 unfold wdF lfF lwF
 cases up
 ·have w:=wD hd (X:=X) (x:=e.2) (zs:=aK false es) (j:=j) hp (by unfold aK;rw[getElem?_map,he];rfl)
  rw[show ((aK false es).take j).map (X * ·)=(es.take j).map fun e=>X*inv e.2 by unfold aK;rw[<- map_take,map_map];rfl] at w
  exact w
 ·have w:=BU (X:=X) (zs:=aK true es) (j:=j) (z:=e.2) (by unfold aK;rw[getElem?_map,he];rfl)
  rw[show (aK true es).take j=(es.take j).map (·.2) by unfold aK;rw[<- map_take];rfl] at w
  exact w
theorem jN(cs:List (PyData×Int))(h:∀z∈cs,1<=z.2):∀y∈cs,y.2<=(cs.map (·.2)).sum:=by
 have key:∀l:List (PyData×Int),(∀z∈l,1<=z.2)->0<=(l.map (·.2)).sum/\∀y∈l,y.2<=(l.map (·.2)).sum:=fun l=>by
  induction l with
  |nil=>exact fun _=>⟨by simp,fun _ z=>(nomatch z)⟩
  |cons e l ih=>
   intro h
   obtain⟨h1,h2⟩:=ih fun y hy=>h y (by simp[hy])
   have h3:=h e (by simp)
   rw[map_cons,sum_cons]
   refine⟨∅,fun y hy=>?_⟩
   rcases List.mem_cons.mp hy with z|z
   ·rw[z];omega
   ·have:=h2 y z;omega
 exact (key cs h).2
theorem PlP.len{n:Nat}{t:PyData}{x:RN d}{c:Int}{L:List (Bo d×Int×Nat)}(P:PlP d ks n t x c)(h:TL d ks n 0 t x (fl x) L):L.length<=60:=by
 have:=h.len P.tp
 have:=P.few
 omega
theorem qm(n:Nat)(h:lM (n+1) ds U Qd):jA n ‹Qd› (ao ["_law_d","_law_kinds_here","_law_plan_here","_law_shape_here","_law_whole","_law_found","_law_left","_law_low_here","_law_part","_law_wide"] ds) U:=by
 obtain⟨Q',⟨d,ks,t,X,c,rfl,P,qd⟩,kq⟩:=h
 have hd:=P.hd
 have s5:=fP hd.1 hd.2.1
 have hn:=P.ln
 obtain⟨m,em,X',eX,vw⟩:=SP.vw hd P.hk P.sp
 obtain rfl:m=n:=by omega
 obtain rfl:X'=X:=RN.ext eX
 unfold jA
 cases vw with
 |kind i _ h0 h1 h2 h3=>
  walk_at "rb"
  simp only[aw bJ bJ,uY,false_xor,↓reduceIte]
  walk_at "rb"
  have e:atI (ks.map dN) i=some (dN X'.v):=by
   have:=fA (xs:=ks.map dN) (j:=i.toNat) (v:=dN X'.v) (by rw[getElem?_map,h2];rfl)
   rw[show ((i.toNat:Nat):Int)=i by omega] at this
   exact this
  rw[e]
  exact kq _ _ (qd [(fl X',i,0)] U (.kind i X' h0 h1 h2 h3) fun _ _ z=>z)
 |turn t x h1 h2 h3=>
  walk_at "rb"
  simp only[aw cb bJ,qc,false_xor]
  walk_at "rb"
  simp only[aw cb cb,tJ,false_xor]
  walk_at "rb"
  have st:=P.sh.mem t (by simp)
  refine⟨d,ks,false,t,x.v,rfl,hd,st,h1.up ∅,fun ac k1=>?_⟩
  walk_at "rb"
  have P':PlP d ks m t x c:=⟨∅,hd,P.hk,st,h1,h3,P.tp.Eu,P.few⟩
  refine DY (fun L Y=>TL d ks m 0 t x (fl x) L/\∀b ds,ac b=some ds->Y b=some ds) (i0:=0) (i1:=3) (fun QI hq=>?_) (fun L Y h=>P'.len h.1) hd rfl rfl (fun L Y h=>h.1.bw hd ∅ h3) h2 h3 fun L ad ⟨hT,k2⟩=>?_
  ·walk_at "rb"
   exact⟨d,ks,t,x,c,rfl,P',fun L ad hT k2=>hq L ad ⟨hT,k2⟩⟩
  have g':=(hT.qt hd x).mv (inv x) 0 0
  rw[zZ hd h2] at g'
  exact kq _ _ (qd _ _ (.turn h1 h2 h3 g') fun b ds z=>k2 b ds (k1 b ds z))
 |grid t x u v h1 h2 h3 h4 h5 h6 h7=>
  walk_at "rb"
  simp only[aw bh bJ,wx,false_xor]
  walk_at "rb"
  simp only[aw bh cb,zm,false_xor]
  walk_at "rb"
  simp only[aw bh bh,oV,false_xor]
  walk_at "rb"
  have st:=P.sh.mem t (by simp)
  obtain⟨y,hy,ec⟩:=P.tp.E1
  have few:=P.few
  have y1:=hy.pos
  have uv:1<=u*v:=by have:=mul_pos (by omega:0<u) (by omega:0<v);omega
  have le:1*y<=u*v*y:=Int.mul_le_mul_of_nonneg_right uv ∅
  exact⟨d,ks,t,x,u,v,y,rfl,⟨∅,hd,P.hk,st,h5,h7,hy,∅⟩,⟨h1,h2,h3,h4⟩,∅,fun L ac hT k1=>kq _ _ (qd L ac hT k1)⟩
 |strip up es h1 h2 h3 h4 h5=>
  have hp:∀e∈es,ps e.2:=fun e he=>(h3 e he).2.1
  have shs:∀e∈es,Sh e.1:=fun e he=>(P.sh.mem (.tuple (es.map (·.1))) (by simp)).mem e.1 (mem_map_of_mem he)
  obtain⟨cs,ecs,ec,hcs⟩:=P.tp.zF
  have few:∀e∈es,∃y,TP m e.1 y/\y<=60:=fun e he=>by
   have:e.1∈cs.map (·.1):=by rw[ecs];exact mem_map_of_mem he
   obtain⟨y,hy,e1⟩:=List.mem_map.mp this
   have l:=jN cs (fun z hz=>(hcs z hz).pos) y hy
   have:=P.few
   exact⟨y.2,by rw[<- e1];exact hcs y hy,∅⟩
  have swd:SeqAt.shaped (.str (wd up))=true:=by cases up;exact gW;exact dU
  have tk:ay "kind" (.str (wd up))=false:=by cases up;exact vI;exact wm
  have tt:ay "turn" (.str (wd up))=false:=by cases up;exact yq;exact yC
  have tg:ay "grid" (.str (wd up))=false:=by cases up;exact vq;exact wc
  have tb:ay "beside" (.str (wd up)) = !up:=by cases up;exact JN;exact J0
  have tu:ay "upon" (.str (wd up))=up:=by cases up;exact Ai;exact AR
  walk_at "rb"
  simp only[aw swd bJ,tk,false_xor]
  walk_at "rb"
  simp only[aw swd cb,tt,false_xor]
  walk_at "rb"
  simp only[aw swd bh,tg,false_xor]
  walk_at "rb"
  refine⟨d,ks,false,_,(whole up es).v,rfl,hd,P.sh,P.sp.up hn,fun ac k1=>?_⟩
  walk_at "rb"
  intro p hp1
  have hp0:U p=none:=by
   cases z:U p with
   |none=>rfl
   |some es=>have:=k1 p es z;rw[hp1] at this;cases this
  rw[d6]
  walk_at "rb"
  refine⟨trivial,fun i ρ Y=>∃(r3 r8 r9:Option D) (Ls:List (((PyData×RN d)×Bo d)×List (Bo d×Int×Nat))),ρ=[some (.v (.int d)),some (.v (.tuple (ks.map dN))),some (.v (.tuple [.str (wd up),.tuple (es.map (·.1))])),r3,some (.v (dN (whole up es).v)),some (.m p),some (.v (dN (lfF up (whole up es) (es.take i)).v)),some (.v (dN (lwF up (es.take i)).v)),r8,r9] /\
   Y p=some ((Ls.map (·.2)).flatten.map ej)/\(∀b ds,U b=some ds->Y b=some ds)/\Ls.map (·.1)=(es.zip (aS 0 up (fl (whole up es)) (aK up es))).take i/\(∀q∈Ls,TL d ks m 0 q.1.1.1 q.1.1.2 q.1.2 q.2)/\(Ls.map (·.2)).flatten.length<=60*i,
   ⟨_,_,_,[],by cases up<;>rfl,aq,fun b ds z=>by rw[au fun y=>by rw[y,hp0] at z;cases z];exact k1 b ds z,rfl,fun _ z=>(nomatch z),le_refl _⟩,?_,?_⟩
  ·rintro i x ρ ad hx ⟨r3,r8,r9,Ls,rfl,hL,kk,eL,tL,nL⟩
   rw[getElem?_map] at hx
   obtain⟨e,he,rfl⟩:=Option.map_eq_some_iff.mp hx
   have em:=mem_of_getElem? he
   obtain⟨h3a,h3b,h3c⟩:=h3 e em
   have he8:i<es.length:=(List.getElem?_eq_some_iff.mp he).1
   walk_at "rb"
   refine⟨d,ks,false,e.1,e.2.v,rfl,hd,shs e em,h3a.up ∅,fun bn k3=>?_⟩
   walk_at "rb"
   simp only[aw swd gW,tb,false_xor]
   unfold DL.hd
   dsimp only
   have fork:∀(Dd:gZ) (a b:Option D),Dd.nx [some (.v (.int d)),some (.v (.tuple (ks.map dN))),some (.v (.tuple [.str (wd up),.tuple (es.map (·.1))])),some (.v (dN e.2.v)),some (.v (dN (whole up es).v)),some (.m p),a,b,some (.v e.1),some (.v (dN (wdF up (whole up es) e).v))] bn->(if (!up)=true then az (ah a7 (aa (ae 0) (aa (ae 4) (aa (ah aM (aa (ae 0) (aa (ae 3) ag))) ag)))) (af 9) Dd [some (.v (.int d)),some (.v (.tuple (ks.map dN))),some (.v (.tuple [.str (wd up),.tuple (es.map (·.1))])),some (.v (dN e.2.v)),some (.v (dN (whole up es).v)),some (.m p),a,b,some (.v e.1),some (.v (dN (1:RN d).v))] bn else
    aF Dd [some (.v (.int d)),some (.v (.tuple (ks.map dN))),some (.v (.tuple [.str (wd up),.tuple (es.map (·.1))])),some (.v (dN e.2.v)),some (.v (dN (whole up es).v)),some (.m p),a,b,some (.v e.1),some (.v (dN (1:RN d).v))] bn):=fun Dd a b k=>by
    cases up
    ·rw[if_pos ⋯]
     walk_at "rb"
     refine⟨d,e.2.v,rfl,s5,gD hd h3b,h3c.mono ⋯,?_⟩
     rw[<- iZ hd h3b]
     refine⟨d,_,(inv e.2).v,rfl,s5,RN.ok _,RN.ok _,P.bd.mono ⋯,(bdI hd h3b h3c).mono ⋯,?_⟩
     walk_at "rb"
     exact k
    ·rw[if_neg ⋯]
     exact k
   refine fork _ _ _ ?_
   walk_at "rb"
   obtain⟨y,hy,y60⟩:=few e em
   have P':PlP d ks m e.1 e.2 y:=⟨∅,hd,P.hk,shs e em,h3a,h3c,hy,y60⟩
   have bs:=fun (e':PyData×RN d) (h':e'∈es)=>bdM hd P.bd (bdI hd (hp e' h') (h3 e' h').2.2)
   have bwd:∀e'∈es,Bd 18000 (wdF up (whole up es) e').v:=fun e' h'=>by
    unfold wdF;split
    ·exact b01.1.mono ⋯
    ·exact (bs e' h').mono ⋯
   have blf:Bd 200000 (lfF up (whole up es) (es.take i)).v:=by
    unfold lfF;split
    ·exact b01.2.mono ⋯
    ·have:=AX (m:=4300+(2*4300+6)+6) ((es.take i).map fun e=>whole up es*inv e.2) fun z hz=>by
      obtain⟨e',h',rfl⟩:=List.mem_map.mp hz
      exact bs e' (mem_of_mem_take h')
     refine this.mono ?_
     have ml:((es.take i).map fun e=>whole up es*inv e.2).length<=8:=by rw[length_map,length_take];omega
     have:=mul_le_mul_right (4300+(2*4300+6)+6+1) ml
     omega
   have blw:Bd 50000 (lwF up (es.take i)).v:=by
    unfold lwF;split
    ·have:=AX (m:=4300) ((es.take i).map (·.2)) fun z hz=>by
      obtain⟨e',h',rfl⟩:=List.mem_map.mp hz
      exact (h3 e' (mem_of_mem_take h')).2.2
     refine this.mono ?_
     have ml:((es.take i).map (·.2)).length<=8:=by rw[length_map,length_take];omega
     have:=mul_le_mul_right (4300+1) ml
     omega
    ·exact b01.2.mono ⋯
   refine D4 (fun L Y=>TL d ks m 0 e.1 e.2 (fl e.2) L/\∀b ds,bn b=some ds->Y b=some ds) (i0:=0) (i1:=9) (i2:=6) (i3:=7) (fun QI hq=>?_) (fun L Y h=>P'.len h.1) hd rfl rfl rfl rfl (fun L Y h=>h.1.bw hd ∅ h3c) ((bwd e em).mono ⋯) (blf.mono ⋯) (blw.mono ⋯) fun L ce ⟨hT,k4⟩=>?_
   ·walk_at "rb"
    exact⟨d,ks,e.1,e.2,y,rfl,P',fun L ce hT k4=>hq L ce ⟨hT,k4⟩⟩
   have hL4:=k4 _ _ (k3 _ _ hL)
   rw[hL4]
   dsimp only
   have lL:=P'.len hT
   refine⟨by rw[length_map,length_map,length_map];omega,?_⟩
   have w:=zr hd (X:=whole up es) (up:=up) h3b he
   have hT':=hT.mv (wdF up (whole up es) e) (lfF up (whole up es) (es.take i)) (lwF up (es.take i))
   obtain⟨L',eL'⟩:∃L',L'=L.map (mvT (wdF up (whole up es) e) (lfF up (whole up es) (es.take i)) (lwF up (es.take i))):=⟨_,rfl⟩
   rw[<- eL'] at hT' ⊢
   generalize mv (wdF up (whole up es) e) (lfF up (whole up es) (es.take i)) (lwF up (es.take i)) (fl e.2)=B' at w hT'
   have lL':L'.length=L.length:=by rw[eL',length_map]
   have t1:es.take (i+1)=es.take i++[e]:=by rw[take_succ,he];rfl
   have sS:∀(l:List (RN d)) (z:RN d),cV (l++[z])=cV l+z:=fun l z=>by unfold cV;rw[List.foldl_append];rfl
   have fin:∀im,im=aE ce p ((Ls.map (·.2)).flatten.map ej++L'.map ej)->∃Ls':List (((PyData×RN d)×Bo d)×List (Bo d×Int×Nat)),im p=some ((Ls'.map (·.2)).flatten.map ej)/\(∀b ds,U b=some ds->im b=some ds)/\Ls'.map (·.1)=(es.zip (aS 0 up (fl (whole up es)) (aK up es))).take (i+1)/\(∀q∈Ls',TL d ks m 0 q.1.1.1 q.1.1.2 q.1.2 q.2)/\(Ls'.map (·.2)).flatten.length<=60*(i+1):=fun im e5=>by
    refine⟨Ls++[((e,B'),L')],?_,?_,?_,?_,?_⟩
    ·rw[e5,aq];simp
    ·intro b ds z
     rw[e5,au fun y=>by rw[y,hp0] at z;cases z]
     exact k4 _ _ (k3 _ _ (kk b ds z))
    ·rw[map_append,eL,take_succ,(List.getElem?_zip_eq_some (z:=(e,B'))).mpr ⟨he,w⟩];rfl
    ·intro q hq
     rcases List.mem_append.mp hq with z|z
     ·exact tL q z
     ·rw[List.mem_singleton.mp z];exact hT'
    ·rw[map_append,flatten_append,length_append];simp only[map_cons,map_nil,List.flatten_cons,List.flatten_nil,append_nil];omega
   obtain⟨Ls',f1,f2,f3,f4,f5⟩:=fin _ rfl
   clear fork
   simp only[aw swd dU,tu,false_xor]
   unfold DL.hd
   dsimp only
   cases up
   ·rw[if_neg ⋯]
    walk_at "rb"
    refine⟨_,(wdF false (whole false es) e).v,rfl,RN.ok _,RN.ok _,blf.mono ⋯,(bwd e em).mono ⋯,?_⟩
    walk_at "rb"
    rw[show dN (plus (lfF false (whole false es) (es.take i)).v (wdF false (whole false es) e).v)=dN (lfF false (whole false es) (es.take (i+1))).v by
     rw[show lfF false (whole false es) (es.take (i+1))=lfF false (whole false es) (es.take i)+wdF false (whole false es) e by unfold lfF wdF;rw[t1,map_append];exact sS _ _];rfl]
    exact⟨_,_,_,Ls',rfl,f1,f2,f3,f4,f5⟩
   ·rw[if_pos rfl]
    walk_at "rb"
    refine⟨_,e.2.v,rfl,RN.ok _,RN.ok _,blw.mono ⋯,h3c.mono ⋯,?_⟩
    walk_at "rb"
    rw[show dN (plus (lwF true (es.take i)).v e.2.v)=dN (lwF true (es.take (i+1))).v by
     rw[show lwF true (es.take (i+1))=lwF true (es.take i)+e.2 by unfold lwF;rw[t1,map_append];exact sS _ _];rfl]
    exact⟨_,_,_,Ls',rfl,f1,f2,f3,f4,f5⟩
  ·rintro ρ ad ⟨r3,r8,r9,Ls,rfl,hL,kk,eL,tL,nL⟩
   walk_at "rb"
   rw[List.take_of_length_le (by rw[List.length_zip,length_map];omega)] at eL
   refine kq _ _ ⟨hp0,_,hL,qd _ _ (.strip up es Ls h1 h2 h3 h4 eL tL) fun b ds z=>?_⟩
   rw[eE fun y=>by rw[y,hp0] at z;cases z]
   exact kk b ds z
noncomputable def ig{d:Int}(x:RN d)(u v:Int)(L:List (Bo d×Int×Nat))(r k:Nat):List (Bo d×List (Bo d×Int×Nat)):=(List.range k).map fun c:Nat=>(dI 0 u v (fl (x*((v:RN d)*inv (u:RN d)))) (c:Int) (r:Int),L.map (mvT (inv (u:RN d)) (((c:Int):RN d)*inv (u:RN d)) (x*(((r:Int):RN d)*inv (u:RN d)))))
noncomputable def gLs{d:Int}(x:RN d)(u v:Int)(L:List (Bo d×Int×Nat))(r:Nat):List (Bo d×List (Bo d×Int×Nat)):=(List.range r).flatMap fun r:Nat=>ig x u v L r u.toNat
theorem uF{x:RN d}{u v:Int}{L:List (Bo d×Int×Nat)}{r:Nat}:gLs x u v L (r+1)=gLs x u v L r++ig x u v L r u.toNat:=by unfold gLs;rw[range_succ,List.flatMap_append];simp
theorem oY{x:RN d}{u v:Int}{L:List (Bo d×Int×Nat)}{r k:Nat}:ig x u v L r (k+1)=ig x u v L r k++[(dI 0 u v (fl (x*((v:RN d)*inv (u:RN d)))) (k:Int) (r:Int),L.map (mvT (inv (u:RN d)) (((k:Int):RN d)*inv (u:RN d)) (x*(((r:Int):RN d)*inv (u:RN d)))))]:=by unfold ig;rw[range_succ,map_append];rfl
theorem lW{x:RN d}{u v:Int}{L:List (Bo d×Int×Nat)}{r:Nat}:∀k,(((ig x u v L r k).map (·.2)).flatten).length=k*L.length
 |0=>by simp[ig]
 |k+1=>by rw[oY,map_append,flatten_append,length_append,lW k,Nat.succ_mul];simp
theorem wW{x:RN d}{u v:Int}{L:List (Bo d×Int×Nat)}:∀r,(((gLs x u v L r).map (·.2)).flatten).length=r*u.toNat*L.length
 |0=>by simp[gLs]
 |r+1=>by rw[uF,map_append,flatten_append,length_append,wW r,lW,Nat.succ_mul,add_mul]
theorem Fx(hd:aj d){n:Nat}{t:PyData}{x:RN d}{u v:Int}{L:List (Bo d×Int×Nat)}(hu:1<=u)(hv:1<=v)(hu':u<=1000000)(hv':v<=1000000)(sp:SP d ks n t x.v)(px:ps x)(bx:Bd 4300 x.v)(h:TL d ks n 0 t x (fl x) L) :
  TL d ks (n+1) 0 (.tuple [.str "grid",.int u,.int v,t]) (x*((v:RN d)*inv (u:RN d))) (fl (x*((v:RN d)*inv (u:RN d)))) (((gLs x u v L v.toNat).map (·.2)).flatten):=by
 refine .grid u v _ hu hv hu' hv' sp px bx ?_ fun p hp=>?_
 ·unfold gLs ig dh gIx
  simp only[List.map_flatMap,map_map]
  rfl
 ·unfold gLs ig at hp
  obtain⟨r,_,hp⟩:=List.mem_flatMap.mp hp
  obtain⟨c,_,rfl⟩:=List.mem_map.mp hp
  rw[<- zR hd hu hv]
  exact h.mv _ _ _
theorem jO(n:Nat)(h:oR n ds U Qd):fb n ‹Qd› (ao ["_law_d","_law_kinds_here","_law_plan_here","_law_inner","_law_shape_here","_law_found","_law_row","_law_low_here","_law_column","_law_left"] ds) U:=by
 obtain⟨Q',⟨d,ks,t,x,u,v,c,rfl,P,⟨g1,g2,g3,g4⟩,few,qd⟩,kq⟩:=h
 have hd:=P.hd
 have s5:=fP hd.1 hd.2.1
 obtain⟨m,em,X',eX,vw⟩:=SP.vw hd P.hk P.sp
 obtain rfl:X'=x:=RN.ext eX
 have px:=vw.pos hd
 have u0:0<u:=by omega
 have zu:Sz 44000000 u:=(Sz.of (n:=20) (by show u.natAbs<1048576;omega)).mono ⋯
 have pu:=bb (d:=d) u0
 have biu:=bdI hd pu (bdC ∅ g3)
 unfold fb
 walk_at "rb"
 refine⟨d,ks,t,X',c,rfl,P,fun L ac hT k1=>?_⟩
 have lL:=hT.len P.tp
 walk_at "rb"
 refine⟨d,ks,false,t,X'.v,rfl,hd,P.sh,P.sp.up P.ln,fun ad k2=>?_⟩
 walk_at "rb"
 intro p hp2
 have k12:∀b ds,U b=some ds->ad b=some ds:=fun b ds z=>k2 b ds (k1 b ds z)
 have hp0:U p=none:=by
  cases z:U p with
  |none=>rfl
  |some es=>have:=k12 p es z;rw[hp2] at this;cases this
 rw[d6]
 walk_at "rb"
 refine⟨⟨∅,∅⟩,fun r ρ Y=>∃r6 r7 r8 r9:Option D,ρ=[some (.v (.int d)),some (.v (.tuple (ks.map dN))),some (.v (.tuple [.str "grid",.int u,.int v,t])),some (.v (.list (L.map ej))),some (.v (dN X'.v)),some (.m p),r6,r7,r8,r9]/\Y p=some (((gLs X' u v L r).map (·.2)).flatten.map ej)/\(∀b ds,U b=some ds->Y b=some ds),
  ⟨_,_,_,_,rfl,aq,fun b ds z=>by rw[au fun y=>by rw[y,hp0] at z;cases z];exact k12 b ds z⟩,?_,?_⟩
 ·rintro r y ρ bn hy ⟨r6,r7,r8,r9,rfl,hL,kk⟩
  obtain⟨rfl,hr⟩:=oD hy
  walk_at "rb"
  rw[Int.zero_add]
  refine⟨r,0,u,rfl,∅,zu,?_⟩
  simp only[kD hd u0]
  have br:=bdM hd (bdC (d:=d) (n:=(r:Int)) ∅ ∅) biu
  have bo:=bdM hd P.bd br
  refine⟨d,X'.v,_,rfl,s5,X'.ok,RN.ok _,P.bd.mono ⋯,br.mono ⋯,?_⟩
  walk_at "rb"
  rw[d6]
  walk_at "rb"
  refine⟨⟨∅,∅⟩,fun k ρ Y=>∃r8 r9:Option D,ρ=[some (.v (.int d)),some (.v (.tuple (ks.map dN))),some (.v (.tuple [.str "grid",.int u,.int v,t])),some (.v (.list (L.map ej))),some (.v (dN X'.v)),some (.m p),some (.v (.int (r:Int))),some (.v (dN (X'*(((r:Int):RN d)*inv (u:RN d))).v)),r8,r9]/\Y p=some (((gLs X' u v L r++ig X' u v L r k).map (·.2)).flatten.map ej)/\(∀b ds,U b=some ds->Y b=some ds),
   ⟨_,_,rfl,by rw[hL];unfold ig;simp,kk⟩,?_,?_⟩
  ·rintro k y ρ ce hy ⟨r8,r9,rfl,hL4,kk4⟩
   obtain⟨rfl,hk⟩:=oD hy
   walk_at "rb"
   rw[Int.zero_add]
   refine⟨k,0,u,rfl,∅,zu,?_⟩
   simp only[kD hd u0]
   have bk:=bdM hd (bdC (d:=d) (n:=(k:Int)) ∅ ∅) biu
   walk_at "rb"
   refine BI (fun L' Y=>L'=L/\Y=ce) (i0:=0) (i1:=9) (i2:=7) (i3:=2) (fun QI hq=>?_) (fun L' Y h=>by rw[h.1];exact P.len hT) hd rfl rfl rfl rfl (fun L' Y h=>by rw[h.1];exact hT.bw hd P.ln P.bd) g1 g3 (bk.mono ⋯) (bo.mono ⋯) fun L' im ⟨e1,e2⟩=>?_
   ·walk_at "rb"
    exact hq L ce ⟨rfl,rfl⟩
   subst e1 e2
   rw[hL4]
   dsimp only
   refine⟨?_,_,_,rfl,?_,fun b ds z=>?_⟩
   ·rw[length_map,map_append,flatten_append,length_append,wW,lW,length_map,length_map]
    have h1:r*u.toNat+k+1<=v.toNat*u.toNat:=by
     have:=mul_le_mul_right u.toNat (show r+1<=v.toNat by omega)
     rw[Nat.succ_mul] at this
     omega
    have h2:=mul_le_mul_right L'.length h1
    rw[add_mul,add_mul,Nat.one_mul] at h2
    have h3:((v.toNat*u.toNat*L'.length:Nat):Int)=u*v*c:=by rw[Int.natCast_mul,Int.natCast_mul,lL,show ((v.toNat:Nat):Int)=v by omega,show ((u.toNat:Nat):Int)=u by omega,Int.mul_comm v u]
    omega
   ·rw[aq,oY,<- List.append_assoc,map_append (l₂:=[_]),flatten_append,map_append (f:=ej)]
    simp
   ·rw[au fun y=>by rw[y,hp0] at z;cases z];exact kk4 b ds z
  ·rintro ρ ce ⟨r8,r9,rfl,hL4,kk4⟩
   rw[eT,<- uF] at hL4
   exact⟨_,_,_,_,rfl,hL4,kk4⟩
 ·rintro ρ bn ⟨r6,r7,r8,r9,rfl,hL,kk⟩
  rw[eT] at hL
  walk_at "rb"
  refine kq _ _ ⟨hp0,_,hL,qd _ _ (Fx hd g1 g2 g3 g4 P.sp px P.bd hT) fun b ds z=>?_⟩
  rw[eE fun y=>by rw[y,hp0] at z;cases z]
  exact kk b ds z
end
section
variable {d:Int}{ks:List N3}
theorem vz{α β:Type}:∀{l m:List (α×β)},l.map (·.1)=m.map (·.1)->(∀p∈l,∀p'∈m,p.1=p'.1->p.2=p'.2)->l=m
 |[],[],_,_=>rfl
 |[],_::_,h,_=>by simp at h
 |_::_,[],h,_=>by simp at h
 |p::l,p'::m,h,g=>by
  rw[map_cons,map_cons] at h
  have h1:=(List.cons.inj h).1
  rw[vz (List.cons.inj h).2 fun q hq q' hq'=>g q (by simp[hq]) q' (by simp[hq'])]
  rw[show p=p' from Prod.ext h1 (g p (by simp) p' (by simp) h1)]
theorem TL.fn(hd:aj d)(hk:∀k∈ks,Ok k/\sg d k.a k.b=1){n q:Nat}{t:PyData}{x:RN d}{B:Bo d}{L:List (Bo d×Int×Nat)}(h:TL d ks n q t x B L):∀{n2:Nat} {x2:RN d} {L2:List (Bo d×Int×Nat)},TL d ks n2 q t x2 B L2->L=L2:=by
 induction h with
 |@kind n q B i k h0 h1 h2 h3=>
  intro n2 x2 L2 g
  generalize ht:PyData.tuple [.str "kind",.int i]=t at g
  cases g with
  |kind j _ g0 g1 g2 g3=>injection ht with ht;injection ht with _ ht;injection ht with ht;injection ht with ht;subst ht;rfl
  |turn _ _ _ _=>exact absurd (tgE ht) ⋯
  |grid _ _ _ _ _ _ _ _ _ _ _=>exact absurd (tgE ht) ⋯
  |strip up' es' _ _ _ _ _ _ _=>exact (eZ (tgE ht) ⋯ ⋯).elim
 |@turn n q t x B L h1 h2 h3 h ih=>
  intro n2 x2 L2 g
  generalize ht:PyData.tuple [.str "turn",t]=t' at g
  cases g with
  |kind j _ g0 g1 g2 g3=>exact absurd (tgE ht) ⋯
  |turn _ _ _ g=>injection ht with ht;injection ht with _ ht;injection ht with ht;subst ht;exact ih g
  |grid _ _ _ _ _ _ _ _ _ _ _=>exact absurd (tgE ht) ⋯
  |strip up' es' _ _ _ _ _ _ _=>exact (eZ (tgE ht) ⋯ ⋯).elim
 |@grid n q t x B u v Ls h1 h2 h3 h4 h5 h6 h7 hL _ ih=>
  intro n2 x2 L2 g
  generalize ht:PyData.tuple [.str "grid",.int u,.int v,t]=t' at g
  cases g with
  |kind j _ g0 g1 g2 g3=>exact absurd (tgE ht) ⋯
  |turn _ _ _ _=>exact absurd (tgE ht) ⋯
  |grid u' v' Ls' k1 k2 k3 k4 k5 k6 k7 kL kT=>
   injection ht with ht;injection ht with _ ht;injection ht with e1 ht;injection ht with e2 ht;injection ht with e3 ht
   injection e1 with e1;injection e2 with e2
   subst e1 e2 e3
   have e:Ls=Ls':=vz (hL.trans kL.symm) fun p hp p' hp' e=>by
    have:=kT p' hp'
    rw[<- e] at this
    exact ih p hp this
   rw[e]
  |strip up' es' _ _ _ _ _ _ _=>exact (eZ (tgE ht) ⋯ ⋯).elim
 |@strip n q B up es Ls h1 h2 h3 h4 hL _ ih=>
  intro n2 x2 L2 g
  generalize ht:PyData.tuple [.str (wd up),.tuple (es.map (·.1))]=t' at g
  cases g with
  |kind j _ g0 g1 g2 g3=>exact (eZ (tgE ht).symm ⋯ ⋯).elim
  |turn _ _ _ _=>exact (eZ (tgE ht).symm ⋯ ⋯).elim
  |grid _ _ _ _ _ _ _ _ _ _ _=>exact (eZ (tgE ht).symm ⋯ ⋯).elim
  |strip up' es' Ls' k1 k2 k3 k4 kL kT=>
   obtain rfl:=Bp (tgE ht)
   injection ht with ht;injection ht with _ ht;injection ht with ht;injection ht with ht
   have ee:es=es':=BB ht fun i e y he hy=>SP.fn hd hk _ (h3 e (mem_of_getElem? he)).1 (k3 _ (mem_of_getElem? hy)).1
   subst ee
   have e:Ls=Ls':=vz (hL.trans kL.symm) fun p hp p' hp' e=>by
    have:=kT p' hp'
    rw[<- e] at this
    exact ih p hp this
   rw[e]
theorem TL.ex(hd:aj d)(hk:∀k∈ks,Ok k/\sg d k.a k.b=1):∀(n:Nat) {q:Nat} {t:PyData} {x:RN d} {B:Bo d},SP d ks n t x.v->∃L,TL d ks n q t x B L:=by
 intro n
 induction n with
 |zero=>intro q t x B sp;obtain⟨m,e,_⟩:=SP.vw hd hk sp;exact absurd e ∅
 |succ n ih=>
  intro q t x B sp
  obtain⟨m,em,X,eX,vw⟩:=SP.vw hd hk sp
  obtain rfl:m=n:=by omega
  obtain rfl:X=x:=RN.ext eX
  cases vw with
  |kind i _ h0 h1 h2 h3=>exact⟨_,.kind i _ h0 h1 h2 h3⟩
  |turn t x h1 h2 h3=>
   obtain⟨L,h⟩:=ih (q:=q+1) (B:=B) h1
   exact⟨L,.turn h1 h2 h3 h⟩
  |grid t x u v h1 h2 h3 h4 h5 h6 h7=>
   obtain⟨Ls,e,h⟩:=gP (R:=fun C L=>TL d ks m q t x C L) (dh q u v B) fun C _=>ih h5
   exact⟨_,.grid u v Ls h1 h2 h3 h4 h5 h6 h7 e h⟩
  |strip up es h1 h2 h3 h4 h5=>
   obtain⟨Ls,e,h⟩:=gP (R:=fun (p:(PyData×RN d)×Bo d) L=>TL d ks m q p.1.1 p.1.2 p.2 L) (es.zip (aS q up B (aK up es))) fun p hp=>ih (h3 p.1 (of_mem_zip hp).1).1
   exact⟨_,.strip up es Ls h1 h2 h3 h4 e h⟩
theorem nG{α β:Type}{f:β->List α}:∀{l:List β},(∀p∈l,1<=(f p).length)->l.length<=(l.map f).flatten.length
 |[],_=>le_refl _
 |p::l,h=>by
  rw[map_cons,List.flatten_cons,length_append,length_cons]
  have h1:=h p (by simp)
  have h2:=nG (f:=f) (l:=l) fun q hq=>h q (by simp[hq])
  omega
theorem TL.ne{n q:Nat}{t:PyData}{x:RN d}{B:Bo d}{L:List (Bo d×Int×Nat)}(h:TL d ks n q t x B L):1<=L.length:=by
 induction h with
 |kind i k h0 h1 h2 h3=>exact le_refl _
 |turn h1 h2 h3 _ ih=>exact ih
 |@grid n q t x B u v Ls h1 h2 h3 h4 h5 h6 h7 hL _ ih=>
  have:=nG (f:=(·.2)) (l:=Ls) ih
  obtain⟨p,hp,_⟩:=w6 (u:=u) (v:=v) 0 (c:=0) (r:=0) (Int.le_refl 0) (by show 0<u;omega) (Int.le_refl 0) (by show 0<v;omega)
  have l1:Ls.length=(gIx u v).length:=by have:=congrArg List.length hL;unfold dh at this;simpa using this
  have:=List.length_pos_of_mem hp
  omega
 |@strip n q B up es Ls h1 h2 h3 h4 hL _ ih=>
  have:=nG (f:=(·.2)) (l:=Ls) ih
  have sl:(aS q up B (aK up es)).length=es.length:=by rw[gS];unfold aK;rw[length_map]
  have l1:Ls.length=es.length:=by have:=congrArg List.length hL;rw[length_map,List.length_zip,sl,Nat.min_self] at this;exact this
  omega
theorem xC(q:Nat)(u v:Int):aH (q+2) u v=aH q u v:=by rw[en,en]
theorem Ka(u v:Int)(q:Nat)(p:Int×Int):tpl u v (q+4) p=tpl u v q p:=by
 show (aH (q+3) v u-1-(aH (q+1) v u-1-(tpl u v q p).1),aH (q+2) v u-1-(aH q v u-1-(tpl u v q p).2))=tpl u v q p
 rw[xC (q+1),xC q]
 exact Prod.ext (by dsimp only;omega) (by dsimp only;omega)
theorem Ek(u v:Int)(p:Int×Int)(q:Nat):tpl u v (q % 4) p=tpl u v q p:=by
 have key:∀k r,tpl u v (r+4*k) p=tpl u v r p:=fun k=>by
  induction k with
  |zero=>intro r;rfl
  |succ k ih=>intro r;rw[show r+4*(k+1)=(r+4*k)+4 by omega,Ka,ih]
 rw[<- key (q / 4) (q % 4),show q % 4+4*(q / 4)=q by omega]
end
noncomputable def cz:DSp:=fun ds U Q=>∃(d:Int) (x:N3),ds=[.v (.int d),.v (dN x)]/\aj d/\Ok x/\Bd 8900 x/\sg d x.a x.b=1/\Q (.v .none) U
theorem ki{ds:List D}{U:Mu}{Q:DK}(h:cz ds U Q):ds.length=2:=by obtain⟨_,_,rfl,_⟩:=h;rfl
noncomputable def gG:DSp:=fun ds U Q=>∃(u v c r:Int) (q:Nat),ds=[.v (.int u),.v (.int v),.v (.int c),.v (.int r),.v (.int (q % 4:Nat))]/\Q (.v (.tuple [.int (tpl u v q (c,r)).1,.int (tpl u v q (c,r)).2])) U
theorem oA{ds:List D}{U:Mu}{Q:DK}(h:gG ds U Q):ds.length=5:=by obtain⟨_,_,_,_,_,rfl,_⟩:=h;rfl
noncomputable def dM:DSp:=fun ds U Q=>∃(d:Int) (u v:Int) (t:PyData) (q:Nat) (B:Bo d),ds=[.v (.int d),.v (.tuple [.str "grid",.int u,.int v,t]),.v (.int (q % 4:Nat)),.v (bo B)]/\aj d/\GrP u v/\(gIx u v).length<=60/\Bw 70000 8000000 B /\
 ∀Y,(∀b ds,U b=some ds->Y b=some ds)->Q (.v (.list ((dh q u v B).map bo))) Y
theorem mZ{ds:List D}{U:Mu}{Q:DK}(h:dM ds U Q):ds.length=4:=by obtain⟨_,_,_,_,_,_,rfl,_⟩:=h;rfl
noncomputable abbrev gL:DSp:=Dm dM
theorem lY{ds:List D}{U:Mu}{Q:DK}(h:gL ds U Q):ds.length=4:=mZ h.choose_spec.1
theorem oG{ds:List D}{U:Mu}{Qd:DK}(h:dM ds U Qd):gL ds U (yr U Qd):=⟨Qd,h,fun _ _ z=>z⟩
noncomputable def boT{d:Int}(e:Bo d×Int×Nat):PyData:=bo e.1
noncomputable def bK(n:Nat):DSp:=fun ds U Q=>∃(d:Int) (ks:List N3) (t:PyData) (x:RN d) (q k:Nat) (B:Bo d) (L:List (Bo d×Int×Nat)),ds=[.v (.int d),.v (.tuple (ks.map dN)),.v t,.v (.int (q % 4:Nat)),.v (bo B)]/\aj d/\Sh t/\TL d ks n q t x B L/\L.length<=60/\Rat q x B/\n+k<=13/\Bw (bS k) (bP k) B /\
 ∀Y,(∀b ds,U b=some ds->Y b=some ds)->Q (.v (.list (L.map boT))) Y
theorem qf{n:Nat}{ds:List D}{U:Mu}{Q:DK}(h:bK n ds U Q):ds.length=5:=by obtain⟨_,_,_,_,_,_,_,_,rfl,_⟩:=h;rfl
theorem vG{ds:List D}{U:Mu}{Q:DK}(h:bK 0 ds U Q):False:=by obtain⟨_,_,_,_,_,_,_,_,_,_,_,h,_⟩:=h;cases h
noncomputable abbrev jV(n:Nat):DSp:=Dm (bK n)
theorem pI{n:Nat}{ds:List D}{U:Mu}{Q:DK}(h:jV n ds U Q):ds.length=5:=qf h.choose_spec.1
theorem sv{n:Nat}{ds:List D}{U:Mu}{Qd:DK}(h:bK n ds U Qd):jV n ds U (yr U Qd):=⟨Qd,h,fun _ _ z=>z⟩
noncomputable def cH:DTS:=
 (aL (c6 (dB (ah iH (aa (ae 0) (aa (ae 1) ag))))) iO aF)
noncomputable def gX:DTS:=
 (ak (gA (dj (aa (ae 4) ag)) (af 5) (ak (nh 2 3 (aa (ib (ib (ae 1) (dC (.int 1))) (ae 3)) (aa (ae 2) ag)))
 (nh 0 1 (aa (ae 1) (aa (ae 0) ag)))))
 (aC (aO (aa (ae 2) (aa (ae 3) ag)))))
noncomputable def jx:DTS:=
 (ak (az (ah nR (aa (ae 0) (aa (ae 1) (aa (ae 2) (aa (ae 3) ag))))) (cj 2 (aA (af 4) (aA (af 5) bY))))
 (ak (az (gY ag) (af 6))
 (ak (gA (dj (aa (dOp ai (ae 1) (dC (.int 2))) ag)) (af 7) (gA (dj (aa (dOp ai (ae 1) (dC (.int 1))) ag)) (af 8) (ak (az (ah gG (aa (dOp ai (ae 1) (dC (.int 1))) (aa (dOp ai (ae 1) (dC (.int 2))) (aa (ae 8) (aa (ae 7) (aa (ae 2) ag)))))) (cj 2 (aA (af 9) (aA (af 10) bY))))
 (cA (nk (ae 6) (ah kc (aa (ae 0) (aa (ae 3) (aa (ae 4) (aa (ae 5) (aa (ae 9) (aa (ae 10) ag))))))))))))
 (aC (ae 6)))))
noncomputable def mO(n:Nat):DTS:=
 (ak (az (dOp ai (ae 2) (dC (.int 0))) (af 5))
 (ak (aL (dB (dOp (aJ false) (ae 5) (dC (.str "kind")))) (aC (cL (aa (ae 4) ag))) aF)
 (ak (aL (dB (dOp (aJ false) (ae 5) (dC (.str "turn")))) (aC (ah (bK n) (aa (ae 0) (aa (ae 1) (aa (dOp ai (ae 2) (dC (.int 1))) (aa (ah rV (aa (ae 3) ag)) (aa (ae 4) ag))))))) aF)
 (ak (az (gY ag) (af 6))
 (ak (aL (dB (dOp (aJ false) (ae 5) (dC (.str "grid")))) (ak (gA (aZ (ah dM (aa (ae 0) (aa (ae 2) (aa (ae 3) (aa (ae 4) ag)))))) (af 7) (cA (yR (ae 6) (ah (bK n) (aa (ae 0) (aa (ae 1) (aa (dOp ai (ae 2) (dC (.int 3))) (aa (ae 3) (aa (ae 7) ag)))))))))
 (aC (ae 6))) aF)
 (ak (gA (we (aa (dOp ai (ae 2) (dC (.int 1))) (aa (ah kR (aa (ae 0) (aa (ae 1) (aa (ae 2) (aa (ae 3) (aa (ae 4) ag)))))) ag))) (cj 2 (aA (af 8) (aA (af 7) bY))) (cA (yR (ae 6) (ah (bK n) (aa (ae 0) (aa (ae 1) (aa (ae 8) (aa (ae 3) (aa (ae 7) ag)))))))))
 (aC (ae 6))))))))
section
variable {U:Mu}{Qd:DK}{ds:List D}
theorem gb(h:cz ds U Qd):cH ‹Qd› (ao ["d","thing"] ds) U:=by
 obtain⟨d,x,rfl,hd,ox,bx,px,q⟩:=h
 unfold cH
 walk_at "rb"
 refine⟨d,dN x,rfl,hd,A6,fun y e=>by rw[<- Ac e];exact bx.mono ⋯,?_⟩
 unfold DL.hd
 dsimp only
 rw[ph ox,px,if_neg ⋯]
 exact q
theorem nj(h:gG ds U Qd):gX ‹Qd› (ao ["columns","rows","column","row","quarters","turn"] ds) U:=by
 obtain⟨u,v,c,r,q,rfl,qd⟩:=h
 unfold gX
 walk_at "rb"
 rw[d6]
 walk_at "rb"
 refine⟨⟨∅,∅⟩,fun i ρ Y=>∃r5:Option D,ρ=[some (.v (.int (aH i u v))),some (.v (.int (aH i v u))),some (.v (.int (tpl u v i (c,r)).1)),some (.v (.int (tpl u v i (c,r)).2)),some (.v (.int (q % 4:Nat))),r5]/\Y=U,⟨_,rfl,rfl⟩,?_,?_⟩
 ·rintro i y ρ ac hy ⟨r5,rfl,rfl⟩
  walk_at "rb"
  refine⟨some (.v y),?_,trivial⟩
  rw[en,en]
  rfl
 ·rintro ρ ac ⟨r5,rfl,rfl⟩
  rw[eT,show ((q % 4:Nat):Int).toNat=q % 4 from rfl,Ek]
  walk_at "rb"
  exact qd
noncomputable def jB(r k:Nat):List (Int×Int):=(List.range k).map fun c:Nat=>((c:Int),(r:Int))
noncomputable def ixG(u:Int)(r:Nat):List (Int×Int):=(List.range r).flatMap fun r:Nat=>jB r u.toNat
noncomputable def cbx{d:Int}(q:Nat)(u v:Int)(B:Bo d)(p:Int×Int):PyData:=bo (dI q u v B (tpl u v q p).1 (tpl u v q p).2)
theorem AB{u:Int}{r:Nat}:ixG u (r+1)=ixG u r++jB r u.toNat:=by unfold ixG;rw[range_succ,List.flatMap_append];simp
theorem wA{r k:Nat}:jB r (k+1)=jB r k++[((k:Int),(r:Int))]:=by unfold jB;rw[range_succ,map_append];rfl
theorem qo(h:gL ds U Qd):jx ‹Qd› (ao ["d","plan","quarters","box","width","height","boxes","row","column","across","upward"] ds) U:=by
 obtain⟨Q',⟨d,u,v,t,q,B,rfl,hd,G,few,bw,qd⟩,kq⟩:=h
 obtain⟨g1,g2,g3,g4⟩:=G
 unfold jx
 walk_at "rb"
 refine⟨d,u,v,t,q,B,rfl,hd,⟨g1,g2,g3,g4⟩,bw,?_⟩
 walk_at "rb"
 refine⟨trivial,fun p hp=>?_⟩
 rw[d6]
 walk_at "rb"
 have lG:=sI u v
 refine⟨⟨∅,∅⟩,fun r ρ Y=>∃r7 r8 r9 r10:Option D,ρ=[some (.v (.int d)),some (.v (.tuple [.str "grid",.int u,.int v,t])),some (.v (.int (q % 4:Nat))),some (.v (bo B)),some (.v (dN (B.w*inv (aH q u v:RN d)).v)),some (.v (dN (B.h*inv (aH q v u:RN d)).v)),some (.m p),r7,r8,r9,r10]/\Y p=some ((ixG u r).map (cbx q u v B))/\(∀b ds,U b=some ds->Y b=some ds),
  ⟨_,_,_,_,rfl,aq,fun b ds z=>by rw[au fun y=>by rw[y,hp] at z;cases z];exact z⟩,?_,?_⟩
 ·rintro r y ρ ac hy ⟨r7,r8,r9,r10,rfl,hL,kk⟩
  obtain⟨rfl,hr⟩:=oD hy
  walk_at "rb"
  rw[d6]
  walk_at "rb"
  refine⟨⟨∅,∅⟩,fun k ρ Y=>∃r8 r9 r10:Option D,ρ=[some (.v (.int d)),some (.v (.tuple [.str "grid",.int u,.int v,t])),some (.v (.int (q % 4:Nat))),some (.v (bo B)),some (.v (dN (B.w*inv (aH q u v:RN d)).v)),some (.v (dN (B.h*inv (aH q v u:RN d)).v)),some (.m p),some (.v (.int (0+(r:Int)))),r8,r9,r10]/\Y p=some ((ixG u r++jB r k).map (cbx q u v B))/\(∀b ds,U b=some ds->Y b=some ds),
   ⟨_,_,_,rfl,by rw[hL];unfold jB;simp,kk⟩,?_,?_⟩
  ·rintro k y ρ ad hy ⟨r8,r9,r10,rfl,hL2,kk2⟩
   obtain⟨rfl,hk⟩:=oD hy
   have hin:((k:Int),(r:Int))∈gIx u v:=by
    unfold gIx
    simp only[List.mem_flatMap,List.mem_range,List.mem_map]
    exact⟨r,hr,k,hk,rfl⟩
   obtain⟨c0,c1,r0,r1⟩:=tD hin q
   have l1:=nO (q:=q) g3 g4
   have l2:=nO (q:=q) g4 g3
   have i1:=bdI hd (bb (d:=d) (cY (q:=q) g1 g2)) (bdC (le_of_lt (cY g1 g2)) l1)
   have i2:=bdI hd (bb (d:=d) (cY (q:=q) g2 g1)) (bdC (le_of_lt (cY g2 g1)) l2)
   walk_at "rb"
   rw[Int.zero_add,Int.zero_add]
   refine⟨u,v,k,r,q,rfl,?_⟩
   walk_at "rb"
   refine⟨trivial,d,B,_,_,_,_,rfl,hd,bw,(bdM hd bw.w i1).mono ⋯,(bdM hd bw.h i2).mono ⋯,c0,∅,r0,∅,?_⟩
   unfold DL.hd
   dsimp only
   rw[hL2]
   dsimp only
   have ln:(ixG u r++jB r k).length<60:=by
    have a1:(ixG u r).length=r*u.toNat:=by have:=sI u (r:Int);rw[show ((r:Int)).toNat=r from rfl] at this;exact this
    have a2:(jB r k).length=k:=by unfold jB;rw[length_map,List.length_range]
    rw[length_append,a1,a2]
    have h1:=mul_le_mul_right u.toNat (show r+1<=v.toNat by omega)
    rw[Nat.succ_mul] at h1
    omega
   refine⟨by rw[length_map];omega,_,_,_,rfl,?_,fun b ds z=>?_⟩
   ·rw[aq,wA,<- List.append_assoc,map_append (l₂:=[_])]
    rfl
   ·rw[au fun y=>by rw[y,hp] at z;cases z];exact kk2 b ds z
  ·rintro ρ ad ⟨r8,r9,r10,rfl,hL2,kk2⟩
   rw[eT,<- AB] at hL2
   exact⟨_,_,_,_,rfl,hL2,kk2⟩
 ·rintro ρ ac ⟨r7,r8,r9,r10,rfl,hL,kk⟩
  rw[eT] at hL
  walk_at "rb"
  refine kq _ _ ⟨hp,_,hL,?_⟩
  have e:(ixG u v.toNat).map (cbx q u v B)=(dh q u v B).map bo:=by unfold dh;rw[map_map];rfl
  rw[e]
  refine qd _ fun b ds z=>?_
  rw[eE fun y=>by rw[y,hp] at z;cases z]
  exact kk b ds z
theorem rm{α β:Type}{f:β->List α}{l:List β}(i:Nat):(((l.take i).map f).flatten).length<=((l.map f).flatten).length:=by
 have:l=l.take i++l.drop i:=(List.take_append_drop i l).symm
 have e:(l.map f).flatten.length=((l.take i).map f).flatten.length+((l.drop i).map f).flatten.length:=by
  conv=>lhs;rw[this]
  rw[map_append,flatten_append,length_append]
 omega
theorem uq(n:Nat)(h:jV (n+1) ds U Qd):mO n ‹Qd› (ao ["d","kinds","plan","quarters","box","word","tiles","inner","part"] ds) U:=by
 obtain⟨Q',⟨d,ks,t,x,q,k,B,L,rfl,hd,hs,hT,few,rt,hn,bw,qd⟩,kq⟩:=h
 have bw':Bw 70000 8000000 B:=bw.mono (by unfold bS;omega) (by unfold bP;omega)
 unfold mO
 cases hT with
 |kind i _ h0 h1 h2 h3=>
  walk_at "rb"
  simp only[aw bJ bJ,uY,false_xor,↓reduceIte]
  walk_at "rb"
  exact kq _ _ (qd U fun _ _ z=>z)
 |@turn _ _ t y _ _ h1 h2 h3 hT=>
  walk_at "rb"
  simp only[aw cb bJ,qc,false_xor]
  walk_at "rb"
  simp only[aw cb cb,tJ,false_xor]
  walk_at "rb"
  refine⟨q,rfl,?_⟩
  walk_at "rb"
  exact⟨d,ks,t,y,q+1,k,B,L,rfl,hd,hs.mem t (by simp),hT,few,Bz hd h2 rt,∅,bw,fun Y k'=>kq _ _ (qd Y k')⟩
 |@grid _ _ t y _ u v Ls h1 h2 h3 h4 h5 h6 h7 hL hT=>
  walk_at "rb"
  simp only[aw bh bJ,wx,false_xor]
  walk_at "rb"
  simp only[aw bh cb,zm,false_xor]
  walk_at "rb"
  intro p hp
  simp only[aw bh bh,oV,false_xor]
  walk_at "rb"
  have lL:Ls.length=(gIx u v).length:=by have:=congrArg List.length hL;unfold dh at this;simpa using this
  have lf:=nG (f:=(·.2)) (l:=Ls) fun p hp=>(hT p hp).ne
  rw[d6]
  walk_at "rb"
  refine⟨d,u,v,t,q,B,rfl,hd,⟨h1,h2,h3,h4⟩,∅,bw',fun ac k1=>?_⟩
  walk_at "rb"
  rw[<- hL,map_map]
  refine⟨fun i ρ Y=>∃r7 r8:Option D,ρ=[some (.v (.int d)),some (.v (.tuple (ks.map dN))),some (.v (.tuple [.str "grid",.int u,.int v,t])),some (.v (.int (q % 4:Nat))),some (.v (bo B)),some (.v (.str "grid")),some (.m p),r7,r8]/\Y p=some ((((Ls.take i).map (·.2)).flatten).map boT)/\(∀b ds,U b=some ds->Y b=some ds),
   ⟨_,_,rfl,k1 _ _ aq,fun b ds z=>k1 b ds (by rw[au fun y=>by rw[y,hp] at z;cases z];exact z)⟩,?_,?_⟩
  ·rintro i z ρ ad hz ⟨r7,r8,rfl,hM,kk⟩
   rw[getElem?_map] at hz
   obtain⟨C,hC,rfl⟩:=Option.map_eq_some_iff.mp hz
   have mC:=mem_of_getElem? hC
   have:C.1∈dh q u v B:=by rw[<- hL];exact mem_map_of_mem mC
   obtain⟨ix,hix,e1⟩:=List.mem_map.mp this
   obtain⟨c0,c1,r0,r1⟩:=tD hix q
   have rt':Rat q y C.1:=by rw[<- e1];exact B0 hd _ _ h1 h2 rt
   have bw2:Bw (bS (k+1)) (bP (k+1)) C.1:=by rw[<- e1];exact (xU hd h1 h2 h3 h4 c0 c1 r0 r1 bw).mono (by unfold bS;omega) (by unfold bS bP;omega)
   have ft:=rm (f:=(·.2)) (l:=Ls) (i+1)
   rw[take_succ,hC] at ft
   have t1:(((Ls.take i++(some C).toList).map (·.2)).flatten)=((Ls.take i).map (·.2)).flatten++C.2:=by simp
   rw[t1,length_append] at ft
   walk_at "rb"
   refine⟨d,ks,t,y,q,k+1,C.1,C.2,rfl,hd,hs.mem t (by simp),hT C mC,∅,rt',∅,bw2,fun bn k3=>?_⟩
   unfold DL.hd
   dsimp only
   rw[k3 _ _ hM]
   dsimp only
   refine⟨by rw[length_map,length_map];omega,_,_,rfl,?_,fun b ds z=>?_⟩
   ·rw[aq,take_succ,hC,t1,map_append]
   ·rw[au fun y=>by rw[y,hp] at z;cases z];exact k3 _ _ (kk b ds z)
  ·rintro ρ ad ⟨r7,r8,rfl,hM,kk⟩
   rw[length_map,take_length] at hM
   walk_at "rb"
   refine kq _ _ ⟨hp,_,hM,qd _ fun b ds z=>?_⟩
   rw[eE fun y=>by rw[y,hp] at z;cases z]
   exact kk b ds z
 |strip up es Ls h1 h2 h3 h4 hL hT=>
  have shs:∀e∈es,Sh e.1:=fun e he=>(hs.mem (.tuple (es.map (·.1))) (by simp)).mem e.1 (mem_map_of_mem he)
  have hp':∀e∈es,ps e.2:=fun e he=>(h3 e he).2.1
  have st:StP d ks up es:=⟨h1,h2,fun e he=>⟨shs e he,(h3 e he).1.up ∅,(h3 e he).2.1,(h3 e he).2.2⟩,h4⟩
  have swd:SeqAt.shaped (.str (wd up))=true:=by cases up;exact gW;exact dU
  have tk:ay "kind" (.str (wd up))=false:=by cases up;exact vI;exact wm
  have tt:ay "turn" (.str (wd up))=false:=by cases up;exact yq;exact yC
  have tg:ay "grid" (.str (wd up))=false:=by cases up;exact vq;exact wc
  walk_at "rb"
  simp only[aw swd bJ,tk,false_xor]
  walk_at "rb"
  simp only[aw swd cb,tt,false_xor]
  walk_at "rb"
  intro p hp
  simp only[aw swd bh,tg,false_xor]
  walk_at "rb"
  have sl:(aS q up B (aK up es)).length=es.length:=by rw[gS];unfold aK;rw[length_map]
  have bl:((aS q up B (aK up es)).map bo).length=es.length:=by rw[length_map];exact sl
  have lL:Ls.length=es.length:=by have:=congrArg List.length hL;rw[length_map,List.length_zip,sl,Nat.min_self] at this;exact this
  rw[d6]
  walk_at "rb"
  rw[zN]
  walk_at "rb"
  refine⟨d,ks,up,es,q,B,rfl,hd,st,bw',fun ac k1=>?_⟩
  walk_at "rb"
  refine⟨_,_,rfl,by rw[length_map,bl],?_⟩
  have rl:(fX (List.map (fun x=>x.fst) es) (List.map bo (aS q up B (aK up es)))).length=es.length:=by rw[j4,length_map,bl,Nat.min_self]
  refine⟨fun i ρ Y=>∃r7 r8:Option D,ρ=[some (.v (.int d)),some (.v (.tuple (ks.map dN))),some (.v (.tuple [.str (wd up),.tuple (es.map (·.1))])),some (.v (.int (q % 4:Nat))),some (.v (bo B)),some (.v (.str (wd up))),some (.m p),r7,r8]/\Y p=some ((((Ls.take i).map (·.2)).flatten).map boT)/\(∀b ds,U b=some ds->Y b=some ds),
   ⟨_,_,rfl,k1 _ _ aq,fun b ds z=>k1 b ds (by rw[au fun y=>by rw[y,hp] at z;cases z];exact z)⟩,?_,?_⟩
  ·rintro i z ρ ad hz ⟨r7,r8,rfl,hM,kk⟩
   obtain⟨u1,u2,g1,g2,rfl⟩:=x6 hz
   have hlt:i<es.length:=by have:=(List.getElem?_eq_some_iff.mp hz).1;rw[rl] at this;exact this
   have hC:=getElem?_eq_getElem (show i<Ls.length by omega)
   generalize Ls[i]=C at hC
   have mC:=mem_of_getElem? hC
   have eC:(Ls.map (·.1))[i]? = some C.1:=by rw[getElem?_map,hC];rfl
   rw[hL] at eC
   obtain⟨e1,e2⟩:=List.getElem?_zip_eq_some.mp eC
   rw[getElem?_map,e1] at g1
   rw[getElem?_map,e2] at g2
   cases g1
   cases g2
   have em:=mem_of_getElem? e1
   have rt':=vx hd rt.w rt.h hp' e1 e2
   have bw2:Bw (bS (k+1)) (bP (k+1)) C.1.2:=(qD hd bw h4 (by unfold aK;rw[length_map];exact h2) _ (mem_of_getElem? e2)).mono (by unfold bS;omega) (by unfold bS bP;omega)
   have ft:=rm (f:=(·.2)) (l:=Ls) (i+1)
   rw[take_succ,hC] at ft
   have t1:(((Ls.take i++(some C).toList).map (·.2)).flatten)=((Ls.take i).map (·.2)).flatten++C.2:=by simp
   rw[t1,length_append] at ft
   walk_at "rb"
   refine⟨trivial,d,ks,C.1.1.1,C.1.1.2,q,k+1,C.1.2,C.2,rfl,hd,shs _ em,hT C mC,∅,rt',∅,bw2,fun bn k3=>?_⟩
   unfold DL.hd
   dsimp only
   rw[k3 _ _ hM]
   dsimp only
   refine⟨by rw[length_map,length_map];omega,_,_,rfl,?_,fun b ds z=>?_⟩
   ·rw[aq,take_succ,hC,t1,map_append]
   ·rw[au fun y=>by rw[y,hp] at z;cases z];exact k3 _ _ (kk b ds z)
  ·rintro ρ ad ⟨r7,r8,rfl,hM,kk⟩
   rw[rl,<- lL,take_length] at hM
   walk_at "rb"
   refine kq _ _ ⟨hp,_,hM,qd _ fun b ds z=>?_⟩
   rw[eE fun y=>by rw[y,hp] at z;cases z]
   exact kk b ds z
end
structure PkP(d:Int)(ks:List N3)(t:PyData)(X W:RN d)(c:Int):Prop where
 hd:aj d
 hk:KindsOk d ks
 sh:Sh t
 ok:okN (cnt (ks.length:Nat) 12 t)=true
 sp:SP d ks 13 t X.v
 px:ps X
 bx:Bd 4300 X.v
 pw:ps W
 bw:Bd 30 W.v
 tp:TP 13 t c
theorem PkP.ks{d:Int}{ks:List N3}{t:PyData}{X W:RN d}{c:Int}(P:PkP d ks t X W c):KsP d ks:=fun k hk=>⟨(P.hk.ok k hk).1,(P.hk.ok k hk).2.2⟩
noncomputable def jq:DSp:=fun ds U Q=>∃(d:Int) (ks:List N3) (t:PyData) (X W:RN d) (c:Int) (L:List (Bo d×Int×Nat)),ds=[.v (.int d),.v (.tuple (ks.map dN)),.v t,.v (dN W.v)]/\PkP d ks t X W c/\c<=60/\TL d ks 13 0 t X (mv W 0 0 (fl X)) L /\
 ∀Y,(∀b ds,U b=some ds->Y b=some ds)->Q (.v (.tuple [dN W.v,dN (X*W).v,.tuple (L.map boT)])) Y
theorem p8{ds:List D}{U:Mu}{Q:DK}(h:jq ds U Q):ds.length=4:=by obtain⟨_,_,_,_,_,_,_,rfl,_⟩:=h;rfl
noncomputable def kU:XSp:=fun ds U Xk=>∃(d:Int) (ks:List N3) (t:PyData) (X W:RN d) (c:Int),ds=[.v (.int d),.v (.tuple (ks.map dN)),.v t,.v (dN W.v)]/\PkP d ks t X W c/\60<c/\∀Y,(∀b ds,U b=some ds->Y b=some ds)->Xk Y
theorem qi{ds:List D}{U:Mu}{Xk:Mu->Prop}(h:kU ds U Xk):ds.length=4:=by obtain⟨_,_,_,_,_,_,rfl,_⟩:=h;rfl
noncomputable def ku:DSp:=fun ds U Q=>∃(d:Int) (ks:List N3) (t:PyData) (X W:RN d) (c:Int),ds=[.v (.int d),.v (.tuple (ks.map dN)),.v t,.v (dN W.v)]/\PkP d ks t X W c /\
 ∀Y,(∀b ds,U b=some ds->Y b=some ds)->Q (.v (.bool true)) Y
theorem sA{U:Mu}{Q:DK}{ds:List D}(h:ku ds U Q):ds.length=4:=by obtain⟨_,_,_,_,_,_,rfl,_⟩:=h;rfl
noncomputable def mf(n:Nat):DTS:=
 (ak (az (dOp ai (ae 0) (dC (.int 0))) (af 1))
 (ak (aL (dB (dOp (aJ false) (ae 1) (dC (.str "kind")))) (aC (dC (.int 1))) aF)
 (ak (az (dCB mQ (aa (aP [none] (aZ (ah jo (aa (ae 0) ag))) (af 0) aW (ah (du n) (aa (ae 0) ag))) ag)) (af 2))
 (aC (dIf (dB (dOp (aJ false) (ae 1) (dC (.str "grid")))) (aY (aY (dOp ai (ae 0) (dC (.int 1))) (dOp ai (ae 0) (dC (.int 2)))) (ae 2)) (ae 2))))))
noncomputable def mw:DTS:=
 (ak (cA (ah dA (aa (ae 0) (aa (ae 1) ag))))
 (ak (cA (ah eU (aa (ae 2) (aa (dCB a0 (aa (ae 1) ag)) ag))))
 (ak (cA (ah cz (aa (ae 0) (aa (ae 3) ag))))
 (ak (aL (dB (dOp rGt (ah (du 13) (aa (ae 2) ag)) (dC (.int 60)))) iO aF)
 (ak (az (ah a7 (aa (ae 0) (aa (ah (fN 13) (aa (ae 0) (aa (ae 1) (aa (ae 2) ag)))) (aa (ae 3) ag)))) (af 4))
 (ak (az (ah (bK 13) (aa (ae 0) (aa (ae 1) (aa (ae 2) (aa (dC (.int 0)) (aa (aO (aa (dC (.tuple [.int 0,.int 0,.int 1])) (aa (dC (.tuple [.int 0,.int 0,.int 1])) (aa (ae 3) (aa (ae 4) ag))))) ag)))))) (af 5))
 (aC (aO (aa (ae 3) (aa (ae 4) (aa (dCB cQ (aa (ae 5) ag)) ag)))))))))))
noncomputable def dO:DTX:=
 (Bg (cA (ah dA (aa (ae 0) (aa (ae 1) ag))))
 (Bg (cA (ah eU (aa (ae 2) (aa (dCB a0 (aa (ae 1) ag)) ag))))
 (Bg (cA (ah cz (aa (ae 0) (aa (ae 3) ag))))
 (xIf (dB (dOp rGt (ah (du 13) (aa (ae 2) ag)) (dC (.int 60)))) (fun _ U Xk=>Xk U) B2))))
noncomputable def cI(ea:Addr):DTS:=
 (ak (az (cL (aa (aO (aa (dC (.str "NoRoot")) (aa (fR ea false (ae 1)) ag))) (aa (aO (aa (dC (.str "NoNumber")) (aa (fR ea false (ae 1)) ag))) (aa (aO (aa (dC (.str "NoLaying")) (aa (fR ea false (ae 1)) ag))) (aa (aO (aa (dC (.str "NoTile")) (aa (fR ea false (ae 1)) ag))) (aa (aO (aa (dC (.str "NoFit")) (aa (fR ea false (ae 1)) ag))) (aa (aO (aa (dC (.str "NoKinds")) (aa (fR ea false (ae 1)) ag))) (aa (aO (aa (dC (.str "NoPlan")) (aa (fR ea false (ae 1)) ag))) (aa (aO (aa (dC (.str "NoSpot")) (aa (fR ea false (ae 1)) ag))) (aa (aO (aa (dC (.str "NoNet")) (aa (fR ea false (ae 1)) ag))) (aa (aO (aa (dC (.str "NoText")) (aa (fR ea false (ae 1)) ag))) (aa (aO (aa (dC (.str "NoSaying")) (aa (fR ea false (ae 1)) ag))) (aa (aO (aa (dC (.str "NoName")) (aa (fR ea false (ae 1)) ag))) (aa (aO (aa (dC (.str "TooMany")) (aa (fR ea true (ae 1)) ag))) ag)))))))))))))) (af 2))
 (ak (az (aP [none,none] (aZ (ae 2)) (cj 2 (aA (af 0) (aA (af 1) bY))) (dB (ae 1)) (ae 0)) (af 3))
 (ak (aL (gk (dB (dOp (aJ false) (dCB a0 (aa (ae 3) ag)) (dC (.int 1)))) (dB (fR ea true (ae 1)))) (aC (dOp ai (ae 3) (dC (.int 0)))) aF)
 (aC (dC (.str "several"))))))
noncomputable def fH:DTS:=
 (ak (aL (dB (dOp rGt (ah (cZ 13) (aa (ae 2) ag)) (dC (.int 60)))) (aC (dOp (aJ false) (nQ [some 0,some 1,some 2,some 3] (yc kU (aa (ae 0) (aa (ae 1) (aa (ae 2) (aa (ae 3) ag))))) "TooMany") (dC (.str "TooMany")))) aF)
 (ak (az (ah jq (aa (ae 0) (aa (ae 1) (aa (ae 2) (aa (ae 3) ag))))) (af 4))
 (ak (az (aO (aa (dC (.int 0)) (aa (dC (.int 0)) (aa (dC (.int 1)) ag)))) (af 5))
 (ak (az (aP [none,some 0,some 3,some 5] (aZ (ah (cD 13) (aa (ae 0) (aa (ae 1) (aa (ae 2) ag))))) (af 0) aW (dSl (ah eh (aa (ae 1) (aa (ae 0) (aa (ae 2) (aa (ae 3) (aa (ae 3) ag)))))) fu (jJ (dC (.int 4))))) (af 6))
 (ak (aL (dB (dOp (aJ true) (ae 4) (aO (aa (ae 3) (aa (ah a7 (aa (ae 0) (aa (ae 3) (aa (ah (bE 13) (aa (ae 0) (aa (ae 1) (aa (ae 2) ag)))) ag)))) (aa (dCB cQ (aa (ae 6) ag)) ag)))))) (aC (dC (.bool false))) aF)
 (aC (dCB kG (aa (aP [none] (fK (dOp ai (ae 4) (dC (.int 2)))) (af 0) aW (dCB kG (aa (fY [none] (fK (ae 0)) (af 0) aW (ah jS (aa (ae 0) ag))) ag))) ag))))))))
section
variable {U:Mu}{Qd:DK}{ds:List D}{ρ:Rho}
theorem tY(n:Nat)(h:du (n+1) ds U Qd):mf n ‹Qd› (ao ["plan","word","inner"] ds) U:=by
 obtain⟨t,x,rfl,hs,tp,q⟩:=h
 unfold mf
 cases tp with
 |kind i=>
  walk_at "ru"
  simp only[aw bJ bJ,uY,false_xor,↓reduceIte]
  exact q U fun _ _ e=>e
 |@turn _ t' y h1=>
  walk_at "ru"
  simp only[aw cb bJ,qc,false_xor,false_eq_true,↓reduceIte]
  refine c9 (es:=[(t',x)]) (fun QI hq=>?_) (by simp) (fun e he=>by rw[List.mem_singleton.mp he];exact⟨hs.mem t' (by simp),h1⟩) fun ac k1=>?_
  ·walk_at "ru"
   exact⟨_,1,[t'],rfl,hs,by show bu 1 (.str "turn") t'=_;unfold bu;rw[if_neg (by rw[qc];decide),if_pos tJ],hq⟩
  walk_at "ru"
  simp only[aw cb bh,JI,false_xor,false_eq_true,↓reduceIte,sum_cons,sum_nil,Int.add_zero]
  exact q ac k1
 |@grid _ t' y u v hu hv hu' hv' hn h1=>
  walk_at "ru"
  simp only[aw bh bJ,wx,false_xor,false_eq_true,↓reduceIte]
  refine c9 (es:=[(t',y)]) (fun QI hq=>?_) (by simp) (fun e he=>by rw[List.mem_singleton.mp he];exact⟨hs.mem t' (by simp),h1⟩) fun ac k1=>?_
  ·walk_at "ru"
   refine⟨_,1,[t'],rfl,hs,?_,hq⟩
   show fq (.str "grid") (.int u) (.int v) t'=_
   unfold fq
   rw[if_pos oV,if_pos]
   show ((true&&decide (1<=u))&&(true&&decide (1<=v)))=true
   rw[decide_eq_true hu,decide_eq_true hv];rfl
  walk_at "ru"
  simp only[aw bh bh,oV,false_xor,↓reduceIte,sum_cons,sum_nil,Int.add_zero]
  exact⟨cC hu' hv' ⋯,cC (hu'.mul hv') h1.sz ∅,q ac k1⟩
 |@upon _ es h2 h8 hh=>
  walk_at "ru"
  simp only[aw dU bJ,wm,false_xor,false_eq_true,↓reduceIte]
  have hp:∀e∈es,Sh e.1:=fun e he=>(hs.mem (.tuple (es.map (·.1))) (by simp)).mem e.1 (mem_map_of_mem he)
  refine c9 (es:=es) (fun QI hq=>?_) h8 (fun e he=>⟨hp e he,hh e he⟩) fun ac k1=>?_
  ·walk_at "ru"
   exact⟨_,1,_,rfl,hs,eo (.inl rfl) (by simpa using h2) (by simpa using h8),hq⟩
  walk_at "ru"
  simp only[iW,aw dU bh,wc,false_xor,false_eq_true,↓reduceIte]
  exact q ac k1
 |@beside _ es h2 h8 hh=>
  walk_at "ru"
  simp only[aw gW bJ,vI,false_xor,false_eq_true,↓reduceIte]
  have hp:∀e∈es,Sh e.1:=fun e he=>(hs.mem (.tuple (es.map (·.1))) (by simp)).mem e.1 (mem_map_of_mem he)
  refine c9 (es:=es) (fun QI hq=>?_) h8 (fun e he=>⟨hp e he,hh e he⟩) fun ac k1=>?_
  ·walk_at "ru"
   exact⟨_,1,_,rfl,hs,eo (.inr rfl) (by simpa using h2) (by simpa using h8),hq⟩
  walk_at "ru"
  simp only[iW,aw gW bh,vq,false_xor,false_eq_true,↓reduceIte]
  exact q ac k1
end
theorem f9{U:Mu}{Qd:DK}{ea fa:Addr}(q:Qd (.v (.str "TooMany")) U):cI ea {nx:=fun _ _=>False,rt:=Qd} [some (.o fa),some (.o ea),none,none] U:=by
 unfold cI
 simp only[↓hJ,↓qw,↓j7,↓kX,↓bI,↓cO,↓q_c,↓Aq,↓km,↓k9,↓a8,map_some,set_cons_zero,set_cons_succ]
 refine zV (ns:=[("NoRoot",false),("NoNumber",false),("NoLaying",false),("NoTile",false),("NoFit",false),("NoKinds",false),("NoPlan",false),("NoSpot",false),("NoNet",false),("NoText",false),("NoSaying",false),("NoName",false),("TooMany",true)]) rfl ⋯ ?_
 simp only[↓a8,↓hJ,set_cons_zero,set_cons_succ,map_cons,map_nil,filterMap_cons,List.filterMap_nil,BL,false_eq_true,↓reduceIte]
 simp only[↓qT,↓lR,↓q_B,↓zz,↓wj,↓bI,↓cO,↓dY,↓gK,↓q_c,↓kQ,↓Aq,↓kK,↓eK,getElem?_cons_zero,getElem?_cons_succ,length_cons,length_nil]
 exact q
section
variable {U:Mu}{Qd:DK}{ds:List D}{ρ:Rho}
theorem AZ{d:Int}(W X:RN d):mv W 0 0 (fl X)=⟨0,0,W,X*W⟩:=by unfold mv fl;congr 1<;>dsimp only<;>grind
theorem iK{Xk:Mu->Prop}(h:kU ds U Xk):dO (ao ["d","kinds","plan","width","height","tiles"] ds) U Xk:=by
 obtain⟨d,ks,t,X,W,c,rfl,P,hc,q⟩:=h
 unfold dO
 rw[wy]
 walk_at "rb"
 refine⟨d,ks,rfl,P.hd,P.hk.l1,P.hk.l3,P.hk.ok,?_⟩
 walk_at "rb"
 rw[wy]
 walk_at "rb"
 rw[length_map]
 refine⟨t,_,rfl,P.sh,P.ok,fun ac k1=>?_⟩
 walk_at "rb"
 rw[wy]
 walk_at "rb"
 refine⟨d,W.v,rfl,P.hd,W.ok,P.bw.mono ⋯,P.pw,?_⟩
 walk_at "rb"
 rw[JZ]
 walk_at "rb"
 refine⟨t,c,rfl,P.sh,P.tp,fun ad k2=>?_⟩
 walk_at "rb"
 rw[if_pos (by simpa using hc)]
 exact q _ fun b ds e=>k2 b ds (k1 b ds e)
theorem ui(h:jq ds U Qd):mw ‹Qd› (ao ["d","kinds","plan","width","height","tiles"] ds) U:=by
 obtain⟨d,ks,t,X,W,c,L,rfl,P,hc,hT,q⟩:=h
 have hd:=P.hd
 have s5:=fP hd.1 hd.2.1
 unfold mw
 walk_at "rb"
 refine⟨d,ks,rfl,P.hd,P.hk.l1,P.hk.l3,P.hk.ok,?_⟩
 walk_at "rb"
 rw[length_map]
 refine⟨t,_,rfl,P.sh,P.ok,fun ac k1=>?_⟩
 walk_at "rb"
 refine⟨d,W.v,rfl,P.hd,W.ok,P.bw.mono ⋯,P.pw,?_⟩
 walk_at "rb"
 refine⟨t,c,rfl,P.sh,P.tp,fun ad k2=>?_⟩
 walk_at "rb"
 rw[if_neg (by simpa using hc)]
 unfold DL.hd
 walk_at "rb"
 refine⟨d,ks,false,t,X.v,rfl,hd,P.sh,P.sp,fun bn k3=>?_⟩
 refine⟨d,X.v,W.v,rfl,s5,X.ok,W.ok,P.bx.mono ⋯,P.bw.mono ⋯,?_⟩
 walk_at "rb"
 have lL:(L.length:Int)=c:=hT.len P.tp
 have bXW:=bdM hd P.bx P.bw
 have eb:bo (mv W 0 0 (fl X)) = .tuple [dN ⟨0,0,1⟩,dN ⟨0,0,1⟩,dN W.v,dN (times d X.v W.v)]:=by rw[AZ];rfl
 rw[<- eb]
 refine⟨d,ks,t,X,0,0,mv W 0 0 (fl X),L,rfl,hd,P.sh,hT,∅,?_,⋯,?_,fun ce k4=>?_⟩
 ·rw[AZ];exact⟨P.pw,gR hd P.px P.pw,fun _=>rfl,fun z=>by omega⟩
 ·rw[AZ];exact⟨b01.2.mono ⋯,b01.2.mono ⋯,P.bw.mono ⋯,bXW.mono ⋯⟩
 walk_at "rb"
 exact q _ fun b ds z=>k4 _ _ (k3 _ _ (k2 _ _ (k1 _ _ z)))
theorem AJ{d:Int}{src:DTI}(C:List (Bo d×Int×Nat)->Mu->Prop)(hs:∀QI:List PyData->Mu->Prop,(∀L Y,C L Y->QI (L.map ej) Y)->src ρ U QI){W:RN d}{i0 i1 i2:Nat}(hl:∀L Y,C L Y->L.length<=60)(hd:aj d)(h0:ρ[i0]? = some (some (.v (.int d))))(h1:ρ[i1]? = some (some (.v (dN W.v))))(h2:ρ[i2]? = some (some (.v (dN (0:RN d).v))))
  (bw:∀L Y,C L Y->∀e∈L,Bw 70000 8000000 e.1) (bf:Bd 70000 W.v) (q:∀L Y,C L Y->Qd (.v (.list (L.map fun e=>boT (mvT W 0 0 e)))) Y) :
  aP [none,some i0,some i1,some i2] src (af 0) aW (dSl (ah eh (aa (ae 1) (aa (ae 0) (aa (ae 2) (aa (ae 3) (aa (ae 3) ag)))))) fu (jJ (dC (.int 4)))) ρ U Qd:=by
 rw[bF]
 refine hs _ fun L ac hC=>⟨by rw[length_map];have:=hl L ac hC;omega,fun p hp=>⟨fun i acc Y=>acc=(L.take i).map (fun e=>boT (mvT W 0 0 e))/\Y=aE ac p acc,⟨by simp,rfl⟩,?_,?_⟩⟩
 ·rintro i x acc Y hx hacc ⟨rfl,rfl⟩
  rw[getElem?_map] at hx
  obtain⟨e,he,rfl⟩:=Option.map_eq_some_iff.mp hx
  simp only[a8,bU,b0,h0,h1,h2,bind_some,bind_none,join_some,set_cons_zero,b9,↓reduceIte,dG,d7,dz,true_and,and_true,dq,bI,cO,cm,cw,cG,dY,sV,cW,gE,q_c]
  refine⟨d,e.1,e.2.1,e.2.2,W,0,0,rfl,hd,bw L ac hC e (mem_of_getElem? he),bf,b01.2.mono ⋯,b01.2.mono ⋯,?_⟩
  refine⟨hacc,acc_step (g:=fun e=>boT (mvT W 0 0 e)) he,?_⟩
  rw[bL]
 ·rintro acc Y ⟨rfl,rfl⟩ hacc
  rw[cf hp,length_map,take_length]
  exact q L ac hC
theorem xR{α:Type}:∀l:List α,a9 (l.map fun _=>PyData.bool true)=some (l.map fun _=>true)
 |[]=>rfl
 |x::l=>by rw[map_cons];show a9 (PyData.bool true::_)=_;unfold a9;rw[xR l];rfl
theorem all_true{α:Type}(l:List α):(l.map fun _=>true).all id=true:=by simp
theorem kS(h:ku ds U Qd):fH ‹Qd› (ao ["_law_d","_law_kinds_here","_law_plan_here","_law_width","_law_told","_law_nought","_law_tiles_here"] ds) U:=by
 obtain⟨d,ks,t,X,W,c,rfl,P,qd⟩:=h
 have hd:=P.hd
 have s5:=fP hd.1 hd.2.1
 unfold fH
 walk_at "rb"
 refine⟨t,c,rfl,P.sh,P.tp,fun ac k1=>?_⟩
 walk_at "rb"
 by_cases c60:60<c
 ·rw[if_pos (by simpa using c60)]
  unfold DL.hd
  walk_at "rb"
  rw[Ae,DP]
  walk_at "rb"
  refine⟨d,ks,t,X,W,c,rfl,P,c60,fun ad k2=>?_⟩
  dsimp only
  rw[aw (w:=.str "TooMany") (s:="TooMany") nofun nofun]
  exact qd ad fun b ds z=>k2 _ _ (k1 _ _ z)
 ·rw[if_neg (by simpa using c60)]
  unfold DL.hd
  walk_at "rb"
  obtain⟨L,hT⟩:=TL.ex hd P.ks 13 (q:=0) (B:=mv W 0 0 (fl X)) P.sp
  refine⟨d,ks,t,X,W,c,L,rfl,P,∅,hT,fun ad k2=>?_⟩
  walk_at "rb"
  have PL:PlP d ks 13 t X c:=⟨⋯,hd,P.ks,P.sh,P.sp,P.bx,P.tp,∅⟩
  refine AJ (fun L' Y=>TL d ks 13 0 t X (fl X) L'/\∀b ds,ad b=some ds->Y b=some ds) (W:=W) (i0:=0) (i1:=3) (i2:=5) (fun QI hq=>?_) (fun L' Y h=>PL.len h.1) hd rfl rfl rfl (fun L' Y h=>h.1.bw hd ⋯ P.bx) (P.bw.mono ⋯) fun L' bn ⟨hT',k3⟩=>?_
  ·walk_at "rb"
   exact⟨d,ks,t,X,c,rfl,PL,fun L' bn hT k3=>hq L' bn ⟨hT,k3⟩⟩
  have eL:L'.map (mvT W 0 0)=L:=(hT'.mv W 0 0).fn hd P.ks hT
  rw[show L'.map (fun e=>boT (mvT W 0 0 e))=L.map boT by rw[<- eL,map_map];rfl]
  walk_at "rb"
  refine⟨d,ks,false,t,X.v,rfl,hd,P.sh,P.sp,fun ce k4=>?_⟩
  walk_at "rb"
  refine⟨d,W.v,X.v,rfl,s5,W.ok,X.ok,P.bw.mono ⋯,P.bx.mono ⋯,?_⟩
  rw[show times d W.v X.v=(X*W).v from congrArg RN.v (show W*X=X*W by grind)]
  walk_at "rb"
  have lN:∀(x:N3) (n:Nat),Lt (n+1) (dN x):=fun x n=>eR fun y hy=>by
   simp only[mem_cons,not_mem_nil,or_false] at hy
   rcases hy with z|z|z<;>rw[z]<;>exact lt_int
  have lB:∀e:Bo d×Int×Nat,Lt 2 (boT e):=fun e=>eR fun y hy=>by
   simp only[mem_cons,not_mem_nil,or_false] at hy
   rcases hy with z|z|z|z<;>rw[z]<;>exact lN _ 0
  have shT:SeqAt.shaped (.tuple [dN W.v,dN (X*W).v,.tuple (L.map boT)])=true:=(Lt.sh (n:=4) (eR fun y hy=>by
   simp only[mem_cons,not_mem_nil,or_false] at hy
   rcases hy with z|z|z<;>rw[z]
   ·exact lN _ 2
   ·exact lN _ 2
   ·exact eR fun z hz=>by obtain⟨e,_,rfl⟩:=List.mem_map.mp hz;exact lB e) ⋯).shaped
  refine⟨shT,shT,?_⟩
  rw[Bv shT,if_neg ⋯]
  unfold DL.hd
  walk_at "rb"
  have lL:(L.length:Int)=c:=hT.len P.tp
  rw[bF]
  walk_at "rb"
  refine⟨by rw[length_map];omega,fun p hp=>⟨fun i acc Y=>acc=(L.take i).map (fun _=>PyData.bool true)/\Y=aE ce p acc,⟨by simp,rfl⟩,?_,?_⟩⟩
  ·rintro i x acc im hx hacc ⟨rfl,rfl⟩
   rw[getElem?_map] at hx
   obtain⟨e,he,rfl⟩:=Option.map_eq_some_iff.mp hx
   walk_at "rb"
   refine⟨trivial,?_⟩
   rw[fM]
   unfold boT bo
   walk_at "rb"
   refine⟨by show 4<=1000;decide,fun t=>some (.bool true),fun t ht Y _=>⟨trivial,?_⟩,?_⟩
   ·obtain⟨s,rfl⟩:∃s:RN d,t=dN s.v:=by
     simp only[mem_cons,not_mem_nil,or_false] at ht
     rcases ht with z|z|z|z<;>exact⟨_,z⟩
    rw[if_pos trivial]
    refine⟨_,rfl,A6,?_⟩
    rw[z6]
    exact⟨rfl,rfl⟩
   rw[d9]
   walk_at "rb"
   rw[show a9 [PyData.bool true,PyData.bool true,PyData.bool true,PyData.bool true]=some [true,true,true,true] from rfl]
   dsimp only
   refine⟨hacc,acc_step (g:=fun _=>PyData.bool true) he,?_⟩
   rw[bL]
  ·rintro acc im ⟨rfl,rfl⟩ hacc
   rw[cf hp,length_map,take_length]
   rw[xR]
   dsimp only
   rw[all_true]
   exact qd _ fun b ds z=>k4 _ _ (k3 _ _ (k2 _ _ (k1 _ _ z)))
end
noncomputable def Ag:DTS:=
 (ak (az (gY ag) (af 1))
 (ak (gA (dj (aa (dCB (vf max) (aa (dC (.int 2)) (aa (dCB (vf min) (aa (dC (.int 4)) (aa (dCB a0 (aa (ae 0) ag)) ag))) ag))) ag)) (af 2) (ak (az (ah xy (aa (ae 0) (aa (ae 2) ag))) (af 3))
 (ak (az (ah nF (aa (ae 3) ag)) (af 4))
 (ak (az (ah j0 (aa (ae 3) (aa (ae 4) ag))) (af 5))
 (ak (az (ah nB (aa (ae 3) (aa (dCB a0 (aa (ae 5) ag)) ag))) (af 6))
 (ak (az (ah xP (aa (ae 3) (aa (ae 4) (aa (ae 5) (aa (ae 6) ag))))) (af 5))
 (ak (az (ah gu (aa (ae 3) (aa (ae 4) ag))) (af 7))
 (ak (cA (nk (ae 1) (aO (aa (ae 4) (aa (ae 5) (aa (ae 6) (aa (ae 7) ag)))))))
 (ak (az (dOp ai (cL (aa (aO (aa (dC (.int 6)) (aa (dC (.int 10)) ag))) (aa (aO (aa (dC (.int 10)) (aa (dC (.int 6)) ag))) (aa (aO (aa (dC (.int 1)) (aa (dC (.int 60)) ag))) (aa (aO (aa (dC (.int 61)) (aa (dC (.int 1)) ag))) (aa (aO (aa (dC (.int 1)) (aa (dC (.int 61)) ag))) (aa (aO (aa (dC (.int 7)) (aa (dC (.int 9)) ag))) ag))))))) (ah aQ (aa (ae 3) (aa (dC (.int 6)) ag)))) (cj 2 (aA (af 8) (aA (af 9) bY))))
 (cA (nk (ae 1) (aO (aa (ae 4) (aa (ae 5) (aa (aO (aa (dC (.str "grid")) (aa (ae 8) (aa (ae 9) (aa (aO (aa (dC (.str "turn")) (aa (aO (aa (dC (.str "kind")) (aa (ah aQ (aa (ae 3) (aa (dCB a0 (aa (ae 5) ag)) ag))) ag))) ag))) ag))))) (aa (ae 7) ag))))))))))))))))
 (ak (gA (aZ (dOp iR (ae 1) (dSl (ae 1) fu (jJ (dC (.int 2)))))) (cj 4 (aA (af 4) (aA (af 5) (aA (af 6) (aA (af 7) bY))))) (aL (c6 (dB (ah ku (aa (ae 4) (aa (ae 5) (aa (ae 6) (aa (ae 7) ag))))))) (aC (dC (.bool false))) aF))
 (aC (dC (.bool true))))))
section
variable {U:Mu}{Qd:DK}{ds:List D}
theorem L5{d:Int}{ks:List N3}{t:PyData}{dd c:Nat}(hd:aj d)(hk:KindsOk d ks)(hp:IsP (ks.length:Nat) dd c t)(hdd:dd<=12)(hc:c<=60)(h:c<=12\/∀k∈ks,Ht d 19 k):∃X:RN d,SP d ks 13 t X.v/\Bd 4300 X.v:=by
 have key:∃w,26<=w/\c*w<=2140/\∀k∈ks,lO d w 1 k:=by
  rcases h with h|h
  ·exact⟨67,⋯,∅,fun k z=>⟨(hk.ok k z).1,(hk.ok k z).2.2,xb (hk.ok k z).1 (hk.ok k z).2.1⟩⟩
  ·exact⟨26,⋯,∅,fun k z=>⟨(hk.ok k z).1,(hk.ok k z).2.2,h k z⟩⟩
 obtain⟨w,h26,hcw,hf⟩:=key
 obtain⟨x,h1,h2⟩:=Kh hd h26 hf hp hcw 13 ∅
 exact⟨⟨x,h2.ok⟩,h1,(h2.g hd hcw).2.2⟩
noncomputable def itD{d:Int}(ks:List N3)(t:PyData)(W:RN d):PyData:=.tuple [.int d,.tuple (ks.map dN),t,dN W.v]
noncomputable def ItP(z:PyData):Prop:=∃(d:Int) (ks:List N3) (t:PyData) (X W:RN d) (c:Int),z=itD ks t W/\PkP d ks t X W c
theorem KC{d:Int}{ks:List N3}{t:PyData}{W:RN d}{dd c:Nat}(hd:aj d)(hk:KindsOk d ks)(hp:IsP (ks.length:Nat) dd c t)(hdd:dd<=12)(hc:c<=60)(h:c<=12\/∀k∈ks,Bd 4 k)(pw:ps W)(bw:Bd 30 W.v):∃(X:RN d) (y:Int),PkP d ks t X W y:=by
 obtain⟨X,sp,bX⟩:=L5 hd hk hp hdd hc (h.imp id fun z k hk0=>(xb (hk.ok k hk0).1 (z k hk0)).mono ⋯)
 obtain⟨y,ht⟩:=JS hp 13 ∅ ∅
 have ho:okN (cnt (ks.length:Nat) 12 t)=true:=by
  have c1:=hp.pos.2
  rw[hp.cnt 12 hdd];unfold okN;rw[decide_eq_true (by omega:0<c),decide_eq_true hc];rfl
 obtain⟨m,em,X',eX,vw⟩:=SP.vw hd (fun k hk0=>⟨(hk.ok k hk0).1,(hk.ok k hk0).2.2⟩) sp
 obtain rfl:X'=X:=RN.ext eX
 exact⟨X',y,hd,hk,hp.lt.sh ∅,ho,sp,vw.pos hd,bX,pw,bw,ht⟩
theorem Hy(h:oh ds U Qd):Ag ‹Qd› (ao ["_law_script","_law_some","_law_k","_law_bag_here","_law_d","_law_kinds_here","_law_plan_here","_law_width","_law_wide","_law_high"] ds) U:=by
 obtain⟨ns,rfl,hns,q⟩:=h
 unfold Ag
 walk_at "rb"
 intro p hp0
 rw[d6]
 walk_at "rb"
 refine⟨∅,fun i ρ Y=>∃(r2 r3 r4 r5 r6 r7 r8 r9:Option D) (zs:List PyData),ρ=[some (.s ns),some (.m p),r2,r3,r4,r5,r6,r7,r8,r9]/\Y p=some zs/\(∀z∈zs,ItP z)/\zs.length<=2*i,⟨_,_,_,_,_,_,_,_,[],rfl,aq,fun _ z=>(nomatch z),le_refl _⟩,?_,?_⟩
 ·rintro i x ρ dl hx ⟨r2,r3,r4,r5,r6,r7,r8,r9,zs,rfl,hz,hI,hl⟩
  obtain⟨rfl,hi⟩:=oD hx
  walk_at "rb"
  refine⟨ns,_,rfl,∅,∅,fun a ac ha s1=>?_⟩
  have pa:p≠a:=fun y=>by rw[y,ha] at hz;cases hz
  walk_at "rb"
  refine⟨a,rfl,s1.1,fun d ad hd s2=>?_⟩
  walk_at "rb"
  refine⟨a,d,rfl,hd,s2.1,fun ks bn hk s3=>?_⟩
  walk_at "rb"
  rw[length_map]
  have l1:=hk.l1
  have l3:=hk.l3
  refine⟨a,_,rfl,∅,∅,s3.1,fun dd c t ce hp hdd hc s4=>?_⟩
  walk_at "rb"
  refine⟨a,d,ks,t,dd,c,rfl,hd,hk,hp,hdd,s4.1,fun ks' im hk' hl' hb5 s5=>?_⟩
  rw[<- hl'] at hp
  walk_at "rb"
  refine⟨a,d,rfl,hd,s5.1,fun W lw oW bW pW s6=>?_⟩
  obtain⟨W',eW⟩:∃W':RN d,W'.v=W:=⟨⟨W,oW⟩,rfl⟩
  subst eW
  have st6:gp a ac lw:=((((s2.w).trans s3).trans s4).trans s5).trans s6.w
  have h6:lw p=some zs:=st6.2 p pa _ (by rw[s1.2 p pa];exact hz)
  obtain⟨X,y,P⟩:=KC hd hk' hp hdd hc hb5 pW (bW.mono ⋯)
  walk_at "rb"
  rw[h6]
  dsimp only
  have hl4:zs.length<=6:=by omega
  have bag7:∀es,Bag (aE lw p es) a:=fun es=>by
   obtain⟨g,m,e,z⟩:=s6.1
   exact⟨g,m,by rw[au fun y=>pa y.symm];exact e,z⟩
  refine⟨∅,a,6,rfl,⋯,⋯,bag7 _,fun r mt r0 r1 s7=>?_⟩
  walk_at "rb"
  obtain⟨_,e,wd,hg,rfl,w1,w2,g1,g2⟩:=pick (P:=fun v=>∃w h:Int,v = .tuple [.int w,.int h]/\1<=w/\w<=61/\1<=h/\h<=61) (xs:=[.tuple [.int 6,.int 10],.tuple [.int 10,.int 6],.tuple [.int 1,.int 60],.tuple [.int 61,.int 1],.tuple [.int 1,.int 61],.tuple [.int 7,.int 9]]) r0 (by exact r1) (by
   intro v hv
   simp only[mem_cons,not_mem_nil,or_false] at hv
   rcases hv with rfl|rfl|rfl|rfl|rfl|rfl<;>exact⟨_,_,rfl,⋯,⋯,⋯,⋯⟩)
  rw[e]
  walk_at "rb"
  rw[length_map]
  have l1':=hk'.l1
  have l3':=hk'.l3
  refine⟨trivial,a,_,rfl,∅,∅,s7.1,fun kk pc k0 k1 s8=>?_⟩
  walk_at "rb"
  have h8:pc p=some (zs++[.tuple [.int d,.tuple (ks'.map dN),t,dN W'.v]]):=by rw[s8.2 p pa,s7.2 p pa];exact aq
  rw[h8]
  dsimp only
  obtain⟨X2,y2,P2⟩:=KC (t:=.tuple [.str "grid",.int wd,.int hg,.tuple [.str "turn",.tuple [.str "kind",.int kk]]]) hd hk' (.grid wd hg w1 g1 ∅ ∅ (.turn (.kind kk k0 k1))) ⋯ ⋯ (.inl ⋯) pW (bW.mono ⋯)
  refine⟨by rw[length_append];show zs.length+1<1000;omega,_,_,_,_,_,_,_,_,_,rfl,aq,fun z hz=>?_,by rw[length_append,length_append];show zs.length+1+1<=_;omega⟩
  rcases List.mem_append.mp hz with z|z
  ·rcases List.mem_append.mp z with z|z
   ·exact hI _ z
   ·rw[List.mem_singleton.mp z];exact⟨d,ks',t,X,W',y,rfl,P⟩
  ·rw[List.mem_singleton.mp z];exact⟨d,ks',_,X2,W',y2,rfl,P2⟩
 ·rintro ρ Y ⟨r2,r3,r4,r5,r6,r7,r8,r9,zs,rfl,hz,hI,hl⟩
  rw[eT] at hl
  rw[d6]
  walk_at "rb"
  have few:zs.length<=8:=by omega
  have cl:(kW zs none (some 2)).length<=zs.length:=by unfold kW;rw[length_take,List.length_drop];omega
  unfold Ay
  dsimp only
  rw[hz]
  dsimp only
  refine⟨∅,fun k ρ Y=>∃v4 v5 v6 v7:Option D,ρ=[some (.s ns),some (.m p),r2,r3,v4,v5,v6,v7,r8,r9],⟨_,_,_,_,rfl⟩,?_,?_⟩
  ·rintro k z ρ ad hz' ⟨v4,v5,v6,v7,rfl⟩
   have hzz:z∈zs:=by
    rcases List.mem_append.mp (mem_of_getElem? hz') with w|w
    ·exact w
    ·exact List.mem_of_mem_drop (mem_of_mem_take w)
   obtain⟨d,ks,t,X,W,c,rfl,P⟩:=hI z hzz
   unfold itD
   walk_at "rb"
   refine⟨trivial,d,ks,t,X,W,c,rfl,P,fun bn _=>?_⟩
   walk_at "rb"
   exact⟨_,_,_,_,rfl⟩
  ·rintro ρ ad ⟨v4,v5,v6,v7,rfl⟩
   exact q _
end
end L2.DL
namespace K27
open PySem L2 L2.DL
noncomputable def CF(K:PySem.W.Frag)(mg:Str->Option Value):Prop:=mg "FloorError"=some (.ref 24)/\mg "NoRoot"=some (.ref 37)/\mg "NoNumber"=some (.ref 49)/\mg "NoLaying"=some (.ref 61)/\mg "NoTile"=some (.ref 73)/\mg "NoFit"=some (.ref 85)/\mg "NoKinds"=some (.ref 97)/\mg "NoPlan"=some (.ref 109)/\mg "NoSpot"=some (.ref 121)/\mg "NoNet"=some (.ref 133)/\mg "NoText"=some (.ref 145)/\mg "NoSaying"=some (.ref 157)/\mg "NoName"=some (.ref 169)/\mg "TooMany"=some (.ref 181)/\excIn K 181 bmV "ValueError.__new__"=true/\exmOne K (.ref 181) (.ref 24)=some true/\kitOne K (.ref 181) (.ref 37)=some false/\kitOne K (.ref 181) (.ref 49)=some false/\kitOne K (.ref 181) (.ref 61)=some false/\kitOne K (.ref 181) (.ref 73)=some false/\kitOne K (.ref 181) (.ref 85)=some false/\kitOne K (.ref 181) (.ref 97)=some false/\kitOne K (.ref 181) (.ref 109)=some false/\kitOne K (.ref 181) (.ref 121)=some false/\kitOne K (.ref 181) (.ref 133)=some false/\kitOne K (.ref 181) (.ref 145)=some false/\kitOne K (.ref 181) (.ref 157)=some false/\kitOne K (.ref 181) (.ref 169)=some false/\kitOne K (.ref 181) (.ref 181)=some true/\kitOne K (.ref 181) (.type "ValueError")=some true/\ny K 181/\Ip K mg 585 583 "_law_is_told"/\True
theorem zA.get{α:Type}{p:α->Prop}{x:α}:∀{l:List α},zA p l->x∈l->p x
 |_::_,h,m=>match List.mem_cons.mp m with
  |.inl e=>e▸h.1
  |.inr m=>zA.get h.2 m
theorem EZ{K:PySem.W.Frag}{h:Heap}{mg:Str->Option Value}(X:K.In h)(G:h.Ns mainGlobals mg):∀{l:List (Str×Option Value)} {i:Nat},l.map (fun q=>nsIn K mainGlobals q.1)=l.map (fun q=>some q.2)->i<l.length->mg (l.getD i ("",none)).1=(l.getD i ("",none)).2
 |[],_,_,h=>absurd h (Nat.not_lt_zero _)
 |(n,v)::_,0,e,_=>by
  have z:nsIn K mainGlobals n=some v:=(List.cons.inj e).1
  cases v with
  |none=>exact PySem.W.mg_none_of X G z
  |some u=>exact PySem.W.mg_of X G z
 |_::r,i+1,e,k=>EZ (l:=r) (i:=i) X G (List.cons.inj e).2 (Nat.lt_of_succ_lt_succ k)
noncomputable def Cld(e:EQ)(q:Nat×Nat×Addr×Addr):Prop:=∃d,Cal e.K e.mg (nm q) (ps q) (top q.1) q.2.2.1 d/\d.code = .ref q.2.2.2
structure TX(e:EQ):Prop where
 f:∀q,FL.contains q=true->Cld e q
 g:∀i,i<GL.length->e.mg (gl i).1=(gl i).2
 c:CF e.K e.mg
 cU:e.mg "isinstance"=none
 EA:e.mg "int"=none
 IH:e.mg "bool"=none
 J1:e.mg "abs"=none
 x5:e.mg "tuple"=none
 Ki:e.mg "len"=none
 Kw:e.mg "all"=none
 Fg:e.mg "list"=none
 Jq:e.mg "sum"=none
 xW:e.mg "range"=none
 KU:e.mg "zip"=none
 sH:e.mg "ValueError"=none
 EG:e.mg "min"=none
 EJ:e.mg "max"=none
 sF:e.mg "MOST_KINDS"=some (.int 3 546)
 p7:e.mg "MOST_WITHIN"=some (.int 12 564)
 su:e.mg "MOST_PLANS"=some (.int 60 566)
 pU:e.mg "LEAST_PARTS"=some (.int 2 568)
 tG:e.mg "MOST_PARTS"=some (.int 8 570)
 sY:e.mg "MOST_TILES"=some (.int 60 544)
 pJ:Jx e.K e.mg "NOUGHT" 184 0 0 1
 ns:e.base.NoSeer
 tr:e.P.given.tree=none
theorem K6{X:Cx}{a b:Expr}{ta tb:DTE}{pos:Pos}(hu:X.A.units+64<cLine)(ha:DE X a ta)(hb:DE X b tb):DT X (.Compare a [.NotEq] [b] pos) (dB (dOp (aJ true) ta tb)):=il (Fc hu) wN ha hb (eD _)
theorem Ll{X:Cx}{a b:Expr}{ta tb:DTE}{pos:Pos}(hu:X.A.units+64<cLine)(ha:DE X a ta)(hb:DE X b tb):DT X (.Compare a [.Eq] [b] pos) (dB (dOp (aJ false) ta tb)):=il (Az hu) wN ha hb (eD _)
theorem L4{X:Cx}{a b:Expr}{ta tb:DTE}{pos:Pos}(ha:DE X a ta)(hb:DE X b tb):DT X (.Compare a [.GtE] [b] pos) (dB (dOp rGe ta tb)):=il EI m5 ha hb (eD _)
theorem LQ{X:Cx}{a b:Expr}{ta tb:DTE}{pos:Pos}(ha:DE X a ta)(hb:DE X b tb):DT X (.Compare a [.LtE] [b] pos) (dB (dOp rLe ta tb)):=il ue m5 ha hb (eD _)
theorem Lq{X:Cx}{a b:Expr}{ta tb:DTE}{pos:Pos}(ha:DE X a ta)(hb:DE X b tb):DT X (.Compare a [.Gt] [b] pos) (dB (dOp rGt ta tb)):=il EN m5 ha hb (eD _)
theorem Lo{X:Cx}{a b:Expr}{ta tb:DTE}{pos:Pos}(ha:DE X a ta)(hb:DE X b tb):DT X (.Compare a [.Lt] [b] pos) (dB (dOp rLt ta tb)):=il AV m5 ha hb (eD _)
theorem K9{X:Cx}{a b:Expr}{ta tb:DTE}{pos:Pos}(ha:DE X a ta)(hb:DE X b tb):DE X (.Compare a [.Gt] [b] pos) (dOp rGt ta tb):=lQ EN m5 ha hb (eD _)
theorem L9{X:Cx}{a b:Expr}{ta tb:DTE}{pos:Pos}(ha:DE X a ta)(hb:DE X b tb):DE X (.Compare a [.Lt] [b] pos) (dOp rLt ta tb):=lQ AV m5 ha hb (eD _)
theorem LM{X:Cx}{a b:Expr}{ta tb:DTE}{pos:Pos}(ha:DE X a ta)(hb:DE X b tb):DE X (.Compare a [.GtE] [b] pos) (dOp rGe ta tb):=lQ EI m5 ha hb (eD _)
theorem Li{X:Cx}{a b:Expr}{ta tb:DTE}{pos:Pos}(hu:X.A.units+64<cLine)(ha:DE X a ta)(hb:DE X b tb):DE X (.Compare a [.Eq] [b] pos) (dOp (aJ false) ta tb):=lQ (Az hu) wN ha hb (eD _)
theorem Kn{X:Cx}{a b:Expr}{ta tb:DTE}{pos:Pos}(hu:X.A.units+64<cLine)(ha:DE X a ta)(hb:DE X b tb)(hm:behindInMarks .NotIn b=false:=by with_unfolding_all rfl):DT X (.Compare a [.NotIn] [b] pos) (dB (dOp (vW true) ta tb)):=il (yY hu) BF ha hb hm
theorem IV{X:Cx}{a b:Expr}{ta tb:DTE}{pos:Pos}(ha:DE X a ta)(hb:DE X b tb):DE X (.Compare a [.LtE] [b] pos) (dOp rLe ta tb):=lQ ue m5 ha hb (eD _)
theorem JR{X:Cx}{a b:Expr}{ta tb:DTE}{pos:Pos}(hu:X.A.units+64<cLine)(ha:DE X a ta)(hb:DE X b tb)(hm:behindInMarks .In b=false:=by with_unfolding_all rfl):DE X (.Compare a [.In] [b] pos) (dOp u4 ta tb):=lQ (Gi hu) Hm ha hb hm
theorem Kc{X:Cx}{a b c:Expr}{ta tb tc:DTE}{pos:Pos}(ha:DE X a ta)(hb:DE X b tb)(hc:DE X c tc)(hm:lastMarks [.LtE,.Lt] [b,c]=false:=by rfl):DE X (.Compare a [.LtE,.Lt] [b,c] pos) (jR rLe rLt ta tb tc):=Ax ue m5 AV m5 ha hb hc (hm:=hm)
theorem IQ{X:Cx}{a b:Expr}{ta tb:DTE}{pos:Pos}(hu:X.A.units+64<cLine)(ha:DE X a ta)(hb:DE X b tb)(hm:behindInMarks .In b=false:=by with_unfolding_all rfl):DT X (.Compare a [.In] [b] pos) (dB (dOp (vW false) ta tb)):=il (GY hu) BF ha hb hm
theorem Jc{X:Cx}{a b c:Expr}{ta tb tc:DTE}{pos:Pos}(ha:DE X a ta)(hb:DE X b tb)(hc:DE X c tc)(hm:lastMarks [.LtE,.LtE] [b,c]=false:=by rfl):DT X (.Compare a [.LtE,.LtE] [b,c] pos) (dB (jR rLe rLe ta tb tc)):=zY ue m5 ue m5 ha hb hc (hm:=hm)
def mkT(t:String)(st:List Lean.Term):Lean.MacroM (List Lean.Term):=do
 let q:Option (Lean.MacroM Lean.Term):=match t with
  |"?"=>some `(?_)
  |"a"=>some `((by assumption))
  |"R"=>some `((by with_reducible assumption))
  |"u"=>some `((by first|exact $(Lean.mkIdent `bC.units) (by assumption)|assumption))
  |"f"=>some `((fun _ _ _=>?_))
  |"g"=>some `((fun _ _=>rfl))
  |"h"=>some `((fun _ _ _ _ _ _ _=>?_))
  |"d"=>some `((by decide))
  |"_"=>some `(_)
  |_=>none
 if let some m:=q then return (<-m)::st
 let k:=(t.splitOn "/").getLastD ""
 let n:=k.toNat!
 let h:Lean.Term:=Lean.mkIdent ((t.splitOn "/").headD "").toName
 if n=0 then return h::st
 return Lean.Syntax.mkApp h (st.take n).toArray::st.drop n
def mkO(s:String):Lean.MacroM (Lean.TSyntax `Lean.Parser.Tactic.tacticSeq):=do
 let ts<-(s.splitOn "|").toArray.mapM fun x=>do
  let st<-(x.splitOn " ").foldrM mkT []
  `(tacticSeq|refine $(st.headD (Lean.mkIdent `x)))
 `(tacticSeq|first $[| $ts]*)
local macro_rules|`(tactic| walk_at "o")=>do let a<-mkO "dv/1 _|Cg/2 ? ?|IF/0|Fd/0|K0/3 ? ? g|Bq/3 R a ?|Dg/1 ?|Ii/1 ?|Jr/2 a ?|JO/3 ? ? ?|IA/1 ?|DX/0|HQ/0|IB/2 ? ?|Ll/3 u ? ?|IX/1 a|Bj/2 ? ?|Iw/2 ? ?|GS/1 ?|zO/0|GH/3 rfl/0 mgx/1 TX.Ki/1 a ?|B9/1 ?|Cm/1 ?|Dl/1 ?|Cj/0|Hq/2 ? ?|Fs/5 PassesOwn.never/0 rfl/0 ? ? ?|Lq/2 ? ?|Js/2 ? ?|Ho/2 rfl/0 ?|Fz/2 ? ?|Fy/1 ?|HV/2 ? ?|Cp/7 mgx/1 R a mem_cons_self/0 a a mgx/1 TX.cU/1 a ?|GK/1 ?|KS/0|Im/1 ?|GA/1 ?|Gx/4 ? f f f|Ga/9 rfl/0 a rfl/0 rfl/0 d rfl/0 rfl/0 ? rfl/0|II/2 ? ?|Ji/3 ? ? ?|Dp/3 rfl/0 mgx/1 TX.xW/1 a ?|D0/1 ?|Cs/3 Ir/3 TX.ns/1 a TX.tr/1 a a ? ?|Li/3 u ? ?|CP/1 ?|Gu/4 ? f f f|Hi/5 a ? f f f|zk/2 ? ?|vL/7 kit_tuple/1 _ rfl/0 mgx/1 TX.cU/1 a rfl/0 mgx/1 TX.x5/1 a PyProof.Rows.Boot.«tuple»/0 ?|Co/1 ?|K6/3 u ? ?|Iv/1 ?|Bl/3 rfl/0 mgx/1 TX.EA/1 a ?|Bx/0|Aj/3 rfl/0 mgx/1 TX.x5/1 a ?|BE/3 ? ? ?|Gf/3 rfl/0 mgx/1 TX.J1/1 a ?|Lo/2 ? ?|Gg/4 rfl/0 rfl/0 mgx/1 TX.Kw/1 a ?|DU/2 ? ?|DR/0|L4/2 ? ?|K9/2 ? ?|L9/2 ? ?|LM/2 ? ?|HS/4 rfl/0 rfl/0 mgx/1 TX.Jq/1 a ?|By/2 rfl/0 TX.pJ/1 a|ze/2 ? ?|Iz/1 ?|A3/3 PassesOwn.never/0 ? ?|LQ/2 ? ?|Fi/2 ? ?|zP/2 ? ?|vL/7 DJ/1 _ rfl/0 mgx/1 TX.cU/1 a rfl/0 mgx/1 TX.EA/1 a PyProof.Rows.Boot.«int»/0 ?|vL/7 Aw/1 _ rfl/0 mgx/1 TX.cU/1 a rfl/0 mgx/1 TX.IH/1 a PyProof.Rows.Boot.«bool»/0 ?|DH/3 rfl/0 mgx/1 TX.Fg/1 a ?|AW/1 ?|As/2 ? ?|Ik/4 rfl/0 rfl/0 mgx/1 TX.EG/1 a ?|fS/1 mgx/1 TX.sY/1 a|AQ/1 ?|CG/3 rfl/0 mgx/1 TX.xW/1 a ?|Kn/3 u ? ?|fS/1 mgx/1 TX.pU/1 a|IV/2 ? ?|fS/1 mgx/1 TX.tG/1 a|FA/4 ? f f f|Di/4 rfl/0 rfl/0 mgx/1 TX.EJ/1 a ?|HA/1 ?|Fp/4 a rfl/0 Or.inl/1 rfl/0 ?|fS/1 mgx/1 TX.su/1 a|fS/1 mgx/1 TX.p7/1 a|Fh/2 rfl/0 ?|fS/1 mgx/1 TX.sF/1 a|JR/3 u ? ?|Kc/3 ? ? ?|IQ/3 u ? ?|Jc/3 ? ? ?|CZ/4 rfl/0 rfl/0 mgx/1 TX.EG/1 a ?|Ci/3 rfl/0 mgx/1 TX.KU/1 a ?|Al/4 CU/0 rfl/0 mgx/1 R a|yO/0|JD/3 ? ? ?|Cv/10 a mem_cons_self/0 a a rfl/0 mgx/1 TX.cU/1 a rfl/0 mgx/1 TX.sH/1 a PyProof.Rows.Boot.«ValueError»/0 ?|zJ/4 R a Ed/0 ?|Ig/4 rfl/0 rfl/0 mgx/1 TX.EJ/1 a ?|Gz/0|Be/2 ? ?|IJ/2 ? ?|BN/4 a rfl/0 Or.inr/1 rfl/0 ?|rH/3 a rfl/0 Or.inr/1 rfl/0|CI/1 ?|GU/1 ?|FT/2 ? ?";`(tactic|(intros;repeat' first|$a|refine vT (by with_reducible assumption) (by assumption) (by assumption) (fun _ _ _ _ _ _ _ hrL=>?_)|fail))
noncomputable abbrev G0(e:EQ):Prop:=FO e 41 "is_whole" cg
noncomputable abbrev G1(e:EQ):Prop:=FO e 41 "common_divisor" ip
noncomputable abbrev G2(e:EQ):Prop:=FO e 41 "sign_of_parts" nW
noncomputable abbrev G3(e:EQ):Prop:=FO e 41 "parts_of" jo
noncomputable abbrev G4(e:EQ):Prop:=FO e 41 "once_more" rV
noncomputable abbrev G5(e:EQ):Prop:=FO e 41 "swapped" cF
noncomputable abbrev G6(e:EQ):Prop:=FO e 41 "turned_place" gG
noncomputable abbrev G7(e:EQ):Prop:=FO e 41 "_law_bag" xy
noncomputable abbrev G8(e:EQ):Prop:=FO e 41 "_law_take" aQ
noncomputable abbrev G9(e:EQ):Prop:=FO e 41 "_law_is_whole" cg
noncomputable abbrev G10(e:EQ):Prop:=FO e 41 "_law_shared" ip
noncomputable abbrev G11(e:EQ):Prop:=FO e 41 "_law_minus" jn
noncomputable abbrev G12(e:EQ):Prop:=FO e 41 "_law_sign" iX
noncomputable abbrev G13(e:EQ):Prop:=FO e 42 "divisor_of_all" nY
noncomputable abbrev G14(e:EQ):Prop:=FO e 42 "sign_of" iX
noncomputable abbrev G15(e:EQ):Prop:=FO e 42 "is_count" kF
noncomputable abbrev G16(e:EQ):Prop:=FO e 42 "_law_low" aR
noncomputable abbrev G17(e:EQ):Prop:=FO e 42 "_law_is_number" jS
noncomputable abbrev G18(e:EQ):Prop:=FO e 42 "_law_root" nF
noncomputable abbrev G19(e:EQ):Prop:=FO e 42 "_law_grid_size" pK
noncomputable abbrev G20(e:EQ):Prop:=FO e 43 "is_number" jS
noncomputable abbrev G21(e:EQ):Prop:=FO e 43 "number" aR
noncomputable abbrev G22(e:EQ):Prop:=FO e 43 "has_form" sy
noncomputable abbrev G23(e:EQ):Prop:=FO e 43 "_law_plus" bQ
noncomputable abbrev G24(e:EQ):Prop:=FO e 43 "_law_times" a7
noncomputable abbrev G25(e:EQ):Prop:=FO e 43 "_law_contrary" aM
noncomputable abbrev G26(e:EQ):Prop:=FO e 43 "_law_number" jm
noncomputable abbrev G27(e:EQ):Prop:=FO e 43 "_law_plan" nB
noncomputable abbrev G28(e:EQ):Prop:=FO e 44 "plus" bQ
noncomputable abbrev G29(e:EQ):Prop:=FO e 44 "less" pb
noncomputable abbrev G30(e:EQ):Prop:=FO e 44 "times" a7
noncomputable abbrev G31(e:EQ):Prop:=FO e 44 "contrary" aM
noncomputable abbrev G32(e:EQ):Prop:=FO e 44 "is_above_nought" iH
noncomputable abbrev G33(e:EQ):Prop:=FO e 44 "is_plan" ji
noncomputable abbrev G34(e:EQ):Prop:=FO e 44 "_law_above" gu
noncomputable abbrev G35(e:EQ):Prop:=FO e 44 "_law_sum" kB
noncomputable abbrev G36(e:EQ):Prop:=FO e 44 "_law_moved" eh
noncomputable abbrev G37(e:EQ):Prop:=FO e 44 "_law_quarter" gi
noncomputable abbrev G38(e:EQ):Prop:=FO e 45 "over" jK
noncomputable abbrev G39(e:EQ):Prop:=FO e 45 "must_be_above_nought" cz
noncomputable abbrev G40(e:EQ):Prop:=FO e 45 "is_kinds" kI
noncomputable abbrev G41(e:EQ):Prop:=FO e 45 "must_be_plan" eU
noncomputable abbrev G42(e:EQ):Prop:=FO e 45 "sum_of" kB
noncomputable abbrev G43(e:EQ):Prop:=FO e 45 "rising_boxes" c8
noncomputable abbrev G44(e:EQ):Prop:=FO e 45 "cell_box" kc
noncomputable abbrev G45(e:EQ):Prop:=FO e 45 "_law_kinds" j0
noncomputable abbrev G46(e:EQ):Prop:=FO e 46 "must_be_kinds" dA
noncomputable abbrev G47(e:EQ):Prop:=FO e 46 "cell_sides" nR
noncomputable abbrev G48(e:EQ):Prop:=FO e 47 "cell_boxes" dM
noncomputable abbrev G49(e:EQ):Prop:=FO e 54 "_law_count" (cZ 13)
noncomputable abbrev G50(e:EQ):Prop:=FO e 55 "tiles_in" (du 13)
noncomputable abbrev G51(e:EQ):Prop:=FO e 58 "_law_shape" (bE 13)
noncomputable abbrev G52(e:EQ):Prop:=FO e 59 "made_of" (fN 13)
noncomputable abbrev G53(e:EQ):Prop:=FO e 60 "strip_boxes" kR
noncomputable abbrev G54(e:EQ):Prop:=FO e 73 "_law_plans_in" (de 31)
noncomputable abbrev G55(e:EQ):Prop:=FO e 74 "tiles_of" (bK 13)
noncomputable abbrev G56(e:EQ):Prop:=FO e 74 "_law_few_figures" xP
noncomputable abbrev G57(e:EQ):Prop:=FX e 75 "laid_out" 181 kU
noncomputable abbrev G58(e:EQ):Prop:=FO e 75 "laid_out" jq
noncomputable abbrev G59(e:EQ):Prop:=RO e 76 "_law_refusal" 181 "TooMany"
noncomputable abbrev G60(e:EQ):Prop:=FO e 85 "_law_tiles" (cD 13)
noncomputable abbrev G61(e:EQ):Prop:=FO e 86 "_law_is_told" ku
section
variable {e:EQ}(T:TX e)
include T
set_option maxHeartbeats 0
theorem F0:G0 e:=FO.ok (T.f (17,0,191,190) rfl) ["thing"] (fun _ _ _ h=>mn h) (fun _ _ _ h=>mP h) (by walk_at "o")
theorem F1:G1 e:=FO.ok (T.f (18,0,198,197) rfl) ["a","b"] (fun _ _ _ h=>qx h) (fun _ _ _ h=>kz h) (by walk_at "o")
theorem F2:G2 e:=FO.ok (T.f (28,0,268,267) rfl) ["d","a","b","prevailing"] (fun _ _ _ h=>vg h) (fun _ _ _ h=>lU h) (by walk_at "o")
theorem F3:G3 e:=FO.ok (T.f (44,2,322,321) rfl) ["plan","word"] (fun _ _ _ h=>uu h) (fun _ _ _ h=>uW h) (by walk_at "o")
theorem F4:G4 e:=FO.ok (T.f (50,3,353,352) rfl) ["quarters"] (fun _ _ _ h=>vX h) (fun _ _ _ h=>tm h) (by walk_at "o")
theorem F5:G5 e:=FO.ok (T.f (52,3,365,364) rfl) ["box","x","y","width","height"] (fun _ _ _ h=>n8 h) (fun _ _ _ h=>vY h) (by walk_at "o")
theorem F6:G6 e:=FO.ok (T.f (57,3,400,399) rfl) ["columns","rows","column","row","quarters","turn"] (fun _ _ _ h=>oA h) (fun _ _ _ h=>nj h) (by walk_at "o")
theorem F7:G7 e:=FO.ok (T.f (61,4,421,420) rfl) ["_law_script","_law_at","_law_cell","_law_great","_law_primes","_law_mixed"] (fun _ _ _ h=>y9 h) (fun _ _ _ h=>tW h) (by walk_at "o")
theorem F8:G8 e:=FO.ok (T.f (62,4,428,427) rfl) ["_law_bag_here","_law_many","_law_digit"] (fun _ _ _ h=>wg h) (fun _ _ _ h=>rZ h) (by walk_at "o")
theorem F9:G9 e:=FO.ok (T.f (63,4,435,434) rfl) ["_law_thing"] (fun _ _ _ h=>mn h) (fun _ _ _ h=>lh h) (by walk_at "o")
theorem F10:G10 e:=FO.ok (T.f (64,4,442,441) rfl) ["_law_one","_law_other"] (fun _ _ _ h=>qx h) (fun _ _ _ h=>ow h) (by walk_at "o")
theorem F11:G11 e:=FO.ok (T.f (68,4,468,467) rfl) ["_law_x"] (fun _ _ _ h=>uU h) (fun _ _ _ h=>ql h) (by walk_at "o")
theorem F12:G12 e:=FO.ok (T.f (71,4,489,488) rfl) ["_law_d","_law_x","_law_first","_law_second","_law_sides"] (fun _ _ _ h=>oo h) (fun _ _ _ h=>rC h) (by walk_at "o")
theorem F13(_:G1 e):G13 e:=FO.ok (T.f (20,0,212,211) rfl) ["a","b","c"] (fun _ _ _ h=>wH h) (fun _ _ _ h=>kN h) (by walk_at "o")
theorem F14(_:G2 e):G14 e:=FO.ok (T.f (27,0,261,260) rfl) ["d","x"] (fun _ _ _ h=>oo h) (fun _ _ _ h=>vP h) (by walk_at "o")
theorem F15(_:G0 e):G15 e:=FO.ok (T.f (43,2,315,314) rfl) ["thing"] (fun _ _ _ h=>vh h) (fun _ _ _ h=>uG h) (by walk_at "o")
theorem F16(_:G10 e):G16 e:=FO.ok (T.f (65,4,449,448) rfl) ["_law_a","_law_b","_law_c","_law_common"] (fun _ _ _ h=>kC h) (fun _ _ _ h=>uI h) (by walk_at "o")
theorem F17(_:G9 e)(_:G10 e):G17 e:=FO.ok (T.f (66,4,454,453) rfl) ["_law_thing"] (fun _ _ _ h=>n9 h) (fun _ _ _ h=>k8 h) (by walk_at "o")
theorem F18(_:G8 e):G18 e:=FO.ok (T.f (72,4,494,493) rfl) ["_law_bag_here","_law_some"] (fun _ _ _ h=>uQ h) (fun _ _ _ h=>rK h) (by walk_at "o")
theorem F19(_:G8 e):G19 e:=FO.ok (T.f (77,4,527,526) rfl) ["_law_bag_here"] (fun _ _ _ h=>wq h) (fun _ _ _ h=>kx h) (by walk_at "o")
theorem F20(_:G0 e)(_:G13 e):G20 e:=FO.ok (T.f (19,0,205,204) rfl) ["thing","a","b","c"] (fun _ _ _ h=>n9 h) (fun _ _ _ h=>tK h) (by walk_at "o")
theorem F21(_:G13 e):G21 e:=FO.ok (T.f (21,0,219,218) rfl) ["a","b","c","divisor"] (fun _ _ _ h=>kC h) (fun _ _ _ h=>zy h) (by walk_at "o")
theorem F22(_:G15 e)(_:G0 e):G22 e:=FO.ok (T.f (42,2,308,307) rfl) ["thing","many","word"] (fun _ _ _ h=>wb h) (fun _ _ _ h=>uE h) (by walk_at "o")
theorem F23(_:G16 e):G23 e:=FO.ok (T.f (67,4,461,460) rfl) ["_law_x","_law_y"] (fun _ _ _ h=>oO h) (fun _ _ _ h=>rT h) (by walk_at "o")
theorem F24(_:G16 e):G24 e:=FO.ok (T.f (69,4,475,474) rfl) ["_law_d","_law_x","_law_y"] (fun _ _ _ h=>mW h) (fun _ _ _ h=>p6 h) (by walk_at "o")
theorem F25(_:G16 e):G25 e:=FO.ok (T.f (70,4,482,481) rfl) ["_law_d","_law_x"] (fun _ _ _ h=>iC h) (fun _ _ _ h=>lH h) (by walk_at "o")
theorem F26(_:G8 e)(_:G16 e):G26 e:=FO.ok (T.f (73,4,501,500) rfl) ["_law_bag_here","_law_wide","_law_a","_law_b","_law_c","_law_way"] (fun _ _ _ h=>qp h) (fun _ _ _ h=>pH h) (by walk_at "o")
theorem F27(_:G8 e)(_:G19 e):G27 e:=FO.ok (T.f (78,4,532,531) rfl) ["_law_bag_here","_law_many","_law_leaves","_law_parts","_law_turn","_law_deep","_law_size","_law_plan_here","_law_way","_law_whole","_law_count_here","_law_some","_law_inner","_law_sizes","_law_most"] (fun _ _ _ h=>vc h) (fun _ _ _ h=>rA h) (by walk_at "o")
theorem F28(_:G21 e):G28 e:=FO.ok (T.f (22,0,226,225) rfl) ["x","y"] (fun _ _ _ h=>oO h) (fun _ _ _ h=>w4 h) (by walk_at "o")
theorem F29(_:G21 e):G29 e:=FO.ok (T.f (23,0,233,232) rfl) ["x","y"] (fun _ _ _ h=>vJ h) (fun _ _ _ h=>Cy h) (by walk_at "o")
theorem F30(_:G21 e):G30 e:=FO.ok (T.f (24,0,240,239) rfl) ["d","x","y"] (fun _ _ _ h=>mW h) (fun _ _ _ h=>t4 h) (by walk_at "o")
theorem F31(_:G21 e):G31 e:=FO.ok (T.f (26,0,254,253) rfl) ["d","x","norm"] (fun _ _ _ h=>iC h) (fun _ _ _ h=>tQ h) (by walk_at "o")
theorem F32(_:G20 e)(_:G14 e):G32 e:=FO.ok (T.f (29,0,275,274) rfl) ["d","thing"] (fun _ _ _ h=>tE h) (fun _ _ _ h=>jM h) (by walk_at "o")
theorem F33(_:G22 e)(_:G3 e):G33 e:=FO.ok (T.f (41,2,301,300) rfl) ["thing","many","waiting","counted","plan","depth","part"] (fun _ _ _ h=>qg h) (fun _ _ _ h=>vN h) (by walk_at "o")
theorem F34(_:G26 e)(_:G12 e)(_:G8 e)(_:G11 e):G34 e:=FO.ok (T.f (74,4,508,507) rfl) ["_law_bag_here","_law_d","_law_x","_law_sign_here"] (fun _ _ _ h=>rP h) (fun _ _ _ h=>qa h) (by walk_at "o")
theorem F35(_:G23 e):G35 e:=FO.ok (T.f (79,4,539,538) rfl) ["_law_some","_law_found","_law_one"] (fun _ _ _ h=>qW h) (fun _ _ _ h=>vj h) (by walk_at "o")
theorem F36(_:G24 e)(_:G23 e):G36 e:=FO.ok (T.f (83,4,559,558) rfl) ["_law_d","_law_tile","_law_factor","_law_left","_law_low_here","_law_x","_law_y","_law_width","_law_height"] (fun _ _ _ h=>tP h) (fun _ _ _ h=>pV h) (by walk_at "o")
theorem F37(_:G23 e)(_:G11 e)(_:G25 e)(_:G24 e):G37 e:=FO.ok (T.f (84,4,564,563) rfl) ["_law_d","_law_tile","_law_shape_here","_law_x","_law_y","_law_width","_law_height","_law_left","_law_contrary_here","_law_sides"] (fun _ _ _ h=>pO h) (fun _ _ _ h=>nA h) (by walk_at "o")
theorem F38(_:G30 e)(_:G31 e):G38 e:=FO.ok (T.f (25,0,247,246) rfl) ["d","x","y"] (fun _ _ _ h=>vv h) (fun _ _ _ h=>C4 h) (by walk_at "o")
theorem F39(_:G32 e):G39 e:=FO.ok (T.f (30,0,282,281) rfl) ["d","thing"] (fun _ _ _ h=>ki h) (fun _ _ _ h=>gb h) (by walk_at "o")
theorem F40(_:G32 e):G40 e:=FO.ok (T.f (34,1,287,286) rfl) ["d","thing"] (fun _ _ _ h=>sN h) (fun _ _ _ h=>uK h) (by walk_at "o")
theorem F41(_:G33 e):G41 e:=FO.ok (T.f (45,2,329,328) rfl) ["thing","many"] (fun _ _ _ h=>pq h) (fun _ _ _ h=>nu h) (by walk_at "o")
theorem F42(_:G28 e):G42 e:=FO.ok (T.f (47,2,341,340) rfl) ["shapes","total","shape"] (fun _ _ _ h=>qW h) (fun _ _ _ h=>qH h) (by walk_at "o")
theorem F43(_:G28 e)(_:G30 e)(_:G29 e):G43 e:=FO.map (FO.ok (T.f (53,3,372,371) rfl) ["d","sizes","box","backward","x","y","width","height","boxes","start","size","high"] (fun _ _ _ h=>m9 h) (fun _ _ _ h=>ng h) (by walk_at "o")) fun F=>Il F fun _ _ _ h=>lZ h
theorem F44(_:G30 e)(_:G28 e):G44 e:=FO.ok (T.f (55,3,386,385) rfl) ["d","box","width","height","column","row","right","up"] (fun _ _ _ h=>rJ h) (fun _ _ _ h=>uV h) (by walk_at "o")
theorem F45(_:G34 e)(_:G8 e)(_:G25 e)(_:G24 e)(_:G16 e):G45 e:=FO.ok (T.f (76,4,520,519) rfl) ["_law_bag_here","_law_d","_law_found","_law_turn","_law_way","_law_part","_law_kind"] (fun _ _ _ h=>rY h) (fun _ _ _ h=>qb h) (by walk_at "o")
theorem F46(_:G40 e):G46 e:=FO.ok (T.f (35,1,294,293) rfl) ["d","thing"] (fun _ _ _ h=>m8 h) (fun _ _ _ h=>lV h) (by walk_at "o")
theorem F47(_:G38 e):G47 e:=FO.ok (T.f (54,3,379,378) rfl) ["d","plan","quarters","box","columns","rows"] (fun _ _ _ h=>uR h) (fun _ _ _ h=>qu h) (by walk_at "o")
theorem F48(_:G47 e)(_:G6 e)(_:G44 e):G48 e:=FO.map (FO.ok (T.f (56,3,393,392) rfl) ["d","plan","quarters","box","width","height","boxes","row","column","across","upward"] (fun _ _ _ h=>lY h) (fun _ _ _ h=>qo h) (by walk_at "o")) fun F=>nE F fun _ _ _ h=>oG h
theorem F49:G49 e:=FO.yn (sp:=cZ) 41 13 (FO.zero (T.f (81,4,549,548) rfl) fun _ _ _ z=>zf z) fun n k hk _=>FO.ok (T.f (81,4,549,548) rfl) ["_law_plan_here"] (fun _ _ _ h=>sX h) (fun _ _ _ h=>p5 n h) (by walk_at "o")
theorem F50(_:G3 e):G50 e:=FO.yn (sp:=du) 42 13 (FO.zero (T.f (48,2,346,345) rfl) fun _ _ _ z=>vd z) fun n k hk _=>FO.ok (T.f (48,2,346,345) rfl) ["plan","word","inner"] (fun _ _ _ h=>mh h) (fun _ _ _ h=>tY n h) (by walk_at "o")
theorem F51(_:G25 e)(_:G24 e)(_:G16 e)(_:G35 e):G51 e:=FO.yn (sp:=bE) 45 13 (FO.zero (T.f (80,4,544,543) rfl) fun _ _ _ z=>yB z) fun n k hk _=>FO.ok (T.f (80,4,544,543) rfl) ["_law_d","_law_kinds_here","_law_plan_here","_law_shapes"] (fun _ _ _ h=>sP h) (fun _ _ _ h=>qe n h) (by walk_at "o")
theorem F52(_:G3 e)(_:G31 e)(_:G30 e)(_:G21 e)(_:G42 e):G52 e:=FO.yn (sp:=fN) 46 13 (FO.zero (T.f (46,2,334,333) rfl) fun _ _ _ z=>xM z) fun n k hk _=>FO.ok (T.f (46,2,334,333) rfl) ["d","shapes","plan","word","inner"] (fun _ _ _ h=>nZ h) (fun _ _ _ h=>wO n h) (by walk_at "o")
theorem F53(_:G52 e)(_:G31 e)(_:G43 e)(_:G5 e):G53 e:=FO.ok (T.f (51,3,358,357) rfl) ["d","kinds","plan","quarters","box","shapes","upon","sizes","backward"] (fun _ _ _ h=>rM h) (fun _ _ _ h=>oF h) (by walk_at "o")
theorem F54(_:G9 e):G54 e:=FO.yn (sp:=de) 42 31 (FO.zero (T.f (82,4,554,553) rfl) fun _ _ _ z=>vM z) fun n k hk _=>FO.ok (T.f (82,4,554,553) rfl) ["_law_thing","_law_many","_law_deep","_law_word","_law_size","_law_parts","_law_counts"] (fun _ _ _ h=>pX h) (fun _ _ _ h=>lj n h) (by walk_at "o")
theorem F55(_:G4 e)(_:G48 e)(_:G53 e):G55 e:=FO.yn (sp:=bK) 61 13 (FO.zero (T.f (59,3,414,413) rfl) fun _ _ _ z=>vG z) fun n k hk _=>FO.map (FO.ok (T.f (59,3,414,413) rfl) ["d","kinds","plan","quarters","box","word","tiles","inner","part"] (fun _ _ _ h=>pI h) (fun _ _ _ h=>uq n h) (by walk_at "o")) fun F=>nE F fun _ _ _ h=>sv h
theorem F56(_:G54 e)(_:G16 e)(_:G8 e)(_:G11 e)(_:G12 e):G56 e:=FO.ok (T.f (87,4,581,580) rfl) ["_law_bag_here","_law_d","_law_kinds_here","_law_plan_here","_law_found","_law_kind","_law_x"] (fun _ _ _ h=>yI h) (fun _ _ _ h=>jt h) (by walk_at "o")
theorem F57(_:G46 e)(_:G41 e)(_:G39 e)(_:G50 e):G57 e:=by
 obtain⟨_,_,_,_,_,_,_,_,_,_,_,_,_,_,_,_,_,_,_,_,_,_,_,_,_,_,_,_,_,_,_,_,_⟩:=T.c
 exact FX.ok (T.f (58,3,407,406) rfl) ["d","kinds","plan","width","height","tiles"] (fun _ _ _ h=>qi h) (fun _ _ _ h=>iK h) (by walk_at "o")
theorem F58(_:G46 e)(_:G41 e)(_:G39 e)(_:G50 e)(_:G30 e)(_:G52 e)(_:G55 e):G58 e:=FO.ok (T.f (58,3,407,406) rfl) ["d","kinds","plan","width","height","tiles"] (fun _ _ _ h=>p8 h) (fun _ _ _ h=>ui h) (by walk_at "o")
theorem F59:G59 e:=by
 obtain⟨_,_,_,_,_,_,_,_,_,_,_,_,_,_,_,_,_,_,_,_,_,_,_,_,_,_,_,_,_,_,_,_,_⟩:=T.c
 exact RO.ok (dn:="_law_deed") (T.f (75,4,513,512) rfl) fun a d F=>E9 (k:=75) F (show cP ["_law_deed","e","_law_some","_law_names"] ["_law_deed"] _ from Dy) rfl rfl rfl rfl (by assumption) (by assumption) ⋯ ⋯ ⋯ (fun _=>rfl) (fun cdv A outer s H ea oe hc hr=>by
  have nd:List.Nodup (["_law_deed","e","_law_some","_law_names"]:List Str):=nofun
  have:=hr.units
  walk_at "o") (fun ea fa U Qd h=>f9 h)
theorem F60(_:G51 e)(_:G37 e)(_:G24 e)(_:G25 e)(_:G36 e)(_:G23 e)(_:G16 e):G60 e:=FO.L3 (sp:=cD) 59 13 (FO.zero (T.f (85,4,569,568) rfl) fun _ _ _ z=>yG z) fun n k hk _=>by
  have:FO e (k+1) "_law_grid_tiles" (kh n):=FO.map (FO.ok (T.f (86,4,574,573) rfl) ["_law_d","_law_kinds_here","_law_plan_here","_law_inner","_law_shape_here","_law_found","_law_row","_law_low_here","_law_column","_law_left"] (fun _ _ _ h=>rB h) (fun _ _ _ h=>jO n h) (by walk_at "o")) fun F=>nE F fun _ _ _ h=>ju h
  exact FO.map (FO.ok (T.f (85,4,569,568) rfl) ["_law_d","_law_kinds_here","_law_plan_here","_law_shape_here","_law_whole","_law_found","_law_left","_law_low_here","_law_part","_law_wide"] (fun _ _ _ h=>pP h) (fun _ _ _ h=>qm n h) (by walk_at "o")) fun F=>nE F fun _ _ _ h=>oE h
theorem F61(_:G49 e)(_:G59 e)(_:G57 e)(_:G58 e)(_:G60 e)(_:G36 e)(_:G24 e)(_:G51 e)(_:G17 e):G61 e:=by
 obtain⟨_,_,_,_,_,_,_,_,_,_,_,_,_,_,_,_,_,_,_,_,_,_,_,_,_,_,_,_,_,_,_,_,_⟩:=T.c
 exact FO.ok (T.f (88,4,586,585) rfl) ["_law_d","_law_kinds_here","_law_plan_here","_law_width","_law_told","_law_nought","_law_tiles_here"] (fun _ _ _ h=>sA h) (fun _ _ _ h=>kS h) (by walk_at "o")
theorem Gw{d:FuncData}(C:Cal e.K e.mg "law" ["_law_script"] (top 89) 593 d)(z:d.code = .ref 592):dW e.P e.w e.K e.mg e.base CX0 87 593 d ["_law_script"] (spD e.K oh):=by
 have g0:=F0 T
 have g1:=F1 T
 have g2:=F2 T
 have g3:=F3 T
 have g4:=F4 T
 have g5:=F5 T
 have g6:=F6 T
 have g7:=F7 T
 have g8:=F8 T
 have g9:=F9 T
 have g10:=F10 T
 have g11:=F11 T
 have g12:=F12 T
 have g13:=F13 T g1
 have g14:=F14 T g2
 have g15:=F15 T g0
 have g16:=F16 T g10
 have g17:=F17 T g9 g10
 have g18:=F18 T g8
 have g19:=F19 T g8
 have g20:=F20 T g0 g13
 have g21:=F21 T g13
 have g22:=F22 T g15 g0
 have g23:=F23 T g16
 have g24:=F24 T g16
 have g25:=F25 T g16
 have g26:=F26 T g8 g16
 have g27:=F27 T g8 g19
 have g28:=F28 T g21
 have g29:=F29 T g21
 have g30:=F30 T g21
 have g31:=F31 T g21
 have g32:=F32 T g20 g14
 have g33:=F33 T g22 g3
 have g34:=F34 T g26 g12 g8 g11
 have g35:=F35 T g23
 have g36:=F36 T g24 g23
 have g37:=F37 T g23 g11 g25 g24
 have g38:=F38 T g30 g31
 have g39:=F39 T g32
 have g40:=F40 T g32
 have g41:=F41 T g33
 have g42:=F42 T g28
 have g43:=F43 T g28 g30 g29
 have g44:=F44 T g30 g28
 have g45:=F45 T g34 g8 g25 g24 g16
 have g46:=F46 T g40
 have g47:=F47 T g38
 have g48:=F48 T g47 g6 g44
 have g49:=F49 T
 have g50:=F50 T g3
 have g51:=F51 T g25 g24 g16 g35
 have g52:=F52 T g3 g31 g30 g21 g42
 have g53:=F53 T g52 g31 g43 g5
 have g54:=F54 T g9
 have g55:=F55 T g4 g48 g53
 have g56:=F56 T g54 g16 g8 g11 g12
 have g57:=F57 T g46 g41 g39 g50
 have g58:=F58 T g46 g41 g39 g50 g30 g52 g55
 have g59:=F59 T
 have g60:=F60 T g51 g37 g24 g25 g36 g23 g16
 have g61:=F61 T g49 g59 g57 g58 g60 g36 g24 g51 g17
 exact FO.okC C z ["_law_script","_law_some","_law_k","_law_bag_here","_law_d","_law_kinds_here","_law_plan_here","_law_width","_law_wide","_law_high"] (fun _ _ _ h=>yp h) (fun _ _ _ h=>Hy h) (by walk_at "o")
end
theorem Hg{K:PySem.W.Frag}{h:Heap}{mg:Str->Option Value}{q:Nat×Nat×Addr×Addr}(X:K.In h)(G:h.Ns mainGlobals mg)(a:FQ K q)(b:wZ (cE (top q.1))=true):Cal K mg (nm q) (ps q) (top q.1) q.2.2.1 (fd (nm q) (top q.1) (md q).1 (md q).2 q.2.2.2):=
 have F:=FW (st:=top q.1) a.2.1 a.2.2.1 a.2.2.2
 ⟨F,PySem.W.mg_of X G a.1,a.2.2.2,F.binds fun _ _ _ _ _ _ us hl=>by
  simp only[wZ,and_eq_true,List.isEmpty_iff,Option.isNone_iff_eq_none,decide_eq_true_eq] at b
  exact Au b.1.1.1.1 b.1.1.1.2 b.1.1.2 b.1.2 b.2 us hl⟩
theorem all_mk{l:PySem.W.OpenLaw}{w:World}{K:PySem.W.Frag}{h:Heap}{mg:Str->Option Value}{fa:Addr}(X:K.In h)(G:h.Ns mainGlobals mg)(hfa:mg "law"=some (.ref fa))(ht:l.prog.given.tree=none)
  (f:zA (FQ K) FL)
  (b:FL.all (fun q=>wZ (cE (top q.1)))=true)
  (g:GL.map (fun q=>nsIn K mainGlobals q.1)=GL.map fun q=>some q.2)
  (pJ:K.lookup 184=some ⟨.type "tuple",none,.seq #[.int 0 417,.int 0 418,.int 1 419] 0,#[]⟩)
  (xf:excIn K 181 bmV "ValueError.__new__"=true/\exmOne K (.ref 181) (.ref 24)=some true/\kitOne K (.ref 181) (.ref 37)=some false/\kitOne K (.ref 181) (.ref 49)=some false/\kitOne K (.ref 181) (.ref 61)=some false/\kitOne K (.ref 181) (.ref 73)=some false/\kitOne K (.ref 181) (.ref 85)=some false/\kitOne K (.ref 181) (.ref 97)=some false/\kitOne K (.ref 181) (.ref 109)=some false/\kitOne K (.ref 181) (.ref 121)=some false/\kitOne K (.ref 181) (.ref 133)=some false/\kitOne K (.ref 181) (.ref 145)=some false/\kitOne K (.ref 181) (.ref 157)=some false/\kitOne K (.ref 181) (.ref 169)=some false/\kitOne K (.ref 181) (.ref 181)=some true/\kitOne K (.ref 181) (.type "ValueError")=some true)
  (z_TooMany:findIn K (.ref 181) "__getattribute__"=some (some (.builtin "BaseException.__getattribute__"))/\findIn K (.ref 181) "__getattr__"=some none/\findIn K (.ref 181) "__class__"=some (some (.builtin "object.__class__"))/\mroIn K 181 (.type "object")=some true/\mroIn K 181 (.type "BaseException")=some true/\(clsIn K 181).isSome=true)
  (bb1:nsIn K mainGlobals "__builtins__"=some (some (.ref 4))) (bb2:(4:Addr)≠builtinsNs) (bb3:K.lookup 4=some ⟨.type "module",some builtinsNs,.plain,#[]⟩)
  (lo__law_is_told:(K.lookup 585).bind aU=some (583,("_law_is_told":Str))) (l1__law_is_told:∀c2 o2 q2,K.lookup c2=some o2->aU o2=some (583,q2)->q2 = "_law_is_told") :
  ∃fd:FuncData,(∀(s:Shared) (v:Value),BindsTo s fd ⟨[v],[]⟩ [("_law_script",v)])/\∀base:Heap,K.In base->base.Ns mainGlobals mg->base.NoSeer->dW l.prog w K mg base CX0 87 fa fd ["_law_script"] (spD K oh):=by
 have cal:∀q,q∈FL->Cal K mg (nm q) (ps q) (top q.1) q.2.2.1 (fd (nm q) (top q.1) (md q).1 (md q).2 q.2.2.2):=fun q hi=>Hg X G (f.get hi) (List.all_eq_true.mp b q hi)
 have gg:∀i,i<GL.length->mg (gl i).1=(gl i).2:=fun i hi=>EZ X G g hi
 have C:Cal K mg "law" ["_law_script"] (top 89) 593 (fd "law" (top 89) 764 "law_matefloors_k27_plans_laid_out" 592):=cal (89,4,593,592) ⋯
 cases hfa.symm.trans C.m
 exact⟨_,fun s v=>.of_eq rfl,fun base _ _ hs=>Gw (e:=⟨l.prog,w,K,mg,base⟩) ⟨fun q hi=>⟨_,cal q (by simpa using hi),rfl⟩,gg,⟨gg 21 ⋯,gg 22 ⋯,gg 23 ⋯,gg 24 ⋯,gg 25 ⋯,gg 26 ⋯,gg 27 ⋯,gg 28 ⋯,gg 29 ⋯,gg 30 ⋯,gg 31 ⋯,gg 32 ⋯,gg 33 ⋯,gg 34 ⋯,xf.1,xf.2.1,xf.2.2.1,xf.2.2.2.1,xf.2.2.2.2.1,xf.2.2.2.2.2.1,xf.2.2.2.2.2.2.1,xf.2.2.2.2.2.2.2.1,xf.2.2.2.2.2.2.2.2.1,xf.2.2.2.2.2.2.2.2.2.1,xf.2.2.2.2.2.2.2.2.2.2.1,xf.2.2.2.2.2.2.2.2.2.2.2.1,xf.2.2.2.2.2.2.2.2.2.2.2.2.1,xf.2.2.2.2.2.2.2.2.2.2.2.2.2.1,xf.2.2.2.2.2.2.2.2.2.2.2.2.2.2.1,xf.2.2.2.2.2.2.2.2.2.2.2.2.2.2.2,⟨z_TooMany.1,z_TooMany.2.1,z_TooMany.2.2.1,z_TooMany.2.2.2.1,z_TooMany.2.2.2.2.1,z_TooMany.2.2.2.2.2⟩,⟨sR lo__law_is_told,l1__law_is_told,GX (PySem.W.mg_of X G bb1) bb2 bb3⟩,trivial⟩,gg 0 ⋯,gg 1 ⋯,gg 2 ⋯,gg 3 ⋯,gg 4 ⋯,gg 5 ⋯,gg 6 ⋯,gg 7 ⋯,gg 8 ⋯,gg 9 ⋯,gg 10 ⋯,gg 11 ⋯,gg 12 ⋯,gg 13 ⋯,gg 14 ⋯,gg 15 ⋯,gg 16 ⋯,gg 17 ⋯,gg 18 ⋯,gg 19 ⋯,⟨gg 20 ⋯,⟨_,_,_,_,_,_,pJ⟩⟩,hs,ht⟩ C rfl⟩
theorem walk{l:PySem.W.OpenLaw}{q:Program}{loose:List Str}{XP:(Str->Option Value)->Heap->Prop}{YP:World->Heap->Prop}{d:DefRec}{K:Params->PySem.W.Frag}(tabs:List Addr)(him:PyProof.Rows.importsNone q=true)(hn:l.most=some 63)(hdf:d.params.defaults=[])
  (hY:∀(w:World) (h:Heap),YP w h->(K w.params).In h/\(∀p∈tabs,h.get? p=some (tabObj #[])/\(K w.params).lookup p=none)/\(∀p∈tabs,isCodeTable h p))
  (hA2:∀(w:World) c o p q,(K w.params).lookup c=some o->aU o=some (p,q)->p∈tabs)
  (F:∀(w:World) (mg:Str->Option Value) (fa:Addr) (h:Heap),(K w.params).In h->h.Ns mainGlobals mg->mg d.name=some (.ref fa) ->
   ∃fd:FuncData,(∀(s:Shared) (u:Value),BindsTo s fd ⟨[u],[]⟩ [("_law_script",u)])/\∀base:Heap,(K w.params).In base->base.Ns mainGlobals mg->base.NoSeer->dW l.prog w (K w.params) mg base CX0 87 fa fd ["_law_script"] (spD (K w.params) oh)) :
  PySem.W.WalkO q loose XP YP l.row.toRowW d [] (fun f vs=>PySem.call f vs):=
 L2.AH (n:=63) (k:=87) (x:="_law_script") (CX:=fun _=>CX0) (sp:=fun w=>spD (K w.params) oh) tabs him hn ⋯ hdf ⟨rfl,⋯,⋯⟩ hY hA2 F (fun w H a ns hl hT hS=>yk hl hT hS) fun _ _ _ _ _ z=>z
end K27
open PySem PySem.W PyProof.Rows L2.DL in
set_option maxRecDepth 100000 in
set_option maxHeartbeats 0 in
theorem PySem.Challenge.cw_matefloors_k27_plans_laid_out_holds : PySem.Challenge.rw_matefloors_k27_plans_laid_out.Holds :=
 holds_law K27.H.ws fun said=>holds_open (XP:=XL K27.H.V []) (YP:=K27.H.HK.says) (d:=K27.H.D) (kwd:=[]) K27.H.left K27.H.HK.of K27.H.HK.keeps (fun s e=>xl_of s (Bool.and_eq_true_iff.mp e).1) XL.keeps ⟨⟩ ⟨⟩ ⟨⟩
  (fun s e=>recFacts_of (Bool.and_eq_true_iff.mp e).2) ⟨⟩ said ⟨⟩ ⟨⟨⟩,⟨⟩,⟨⟩,⟨⟩,⟨⟩,⟨⟩⟩ ⟨[.list []],⟨⟩,⟨⟩⟩
  (K27.walk (l:=PySem.Challenge.rw_matefloors_k27_plans_laid_out) (K:=K27.H.K) K27.H.tabs ⟨⟩ ⟨⟩ ⟨⟩ (fun w h ZZ=>by
   have ZZ:(K27.H.KF w.params).In h:=ZZ
   refine⟨sQ ZZ,fun p hp=>?_,fun p hp=>?_⟩
   ·rcases List.mem_cons.mp hp with rfl|hp
    ·exact⟨ZZ _ _ (K27.H.fV w.params).1,(K27.H.fV w.params).2⟩
    rcases List.mem_cons.mp hp with rfl|hp
    ·exact⟨ZZ _ _ (K27.H.wU w.params).1,(K27.H.wU w.params).2⟩
    exact nomatch hp
   ·rcases List.mem_cons.mp hp with rfl|hp
    ·obtain⟨o,e1,e2⟩:=sR (K27.H.fw w.params);exact rg (sQ ZZ) e1 e2
    rcases List.mem_cons.mp hp with rfl|hp
    ·obtain⟨o,e1,e2⟩:=sR (K27.H.AO w.params);exact rg (sQ ZZ) e1 e2
    exact nomatch hp) (fun w c o p q e e2=>by
   have h:=wV (K27.H.zI w.params) e e2
   have h2:=mem_map_of_mem (f:=fun x:Addr×Str=>x.1) h
   exact h2) fun w mg fa h KX G hmg=>by
   exact K27.all_mk KX G hmg ⟨⟩ (K27.H.Fn w.params) K27.H.Hf (K27.H.Gq w.params) (K27.H.Ce w.params) (K27.H.El w.params) (K27.H.Dn w.params) (K27.H.C3 w.params) ⋯ (K27.H.Ck w.params) (K27.H.fw w.params) (fun c2 o2 q2 e e2=>K27.H.kM (wV (K27.H.zI w.params) e e2)))
