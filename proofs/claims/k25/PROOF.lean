import PyProof.Rows.All
import KE.KFind
import KE.KLam
import KE.KTryMore
import KE.LcSums
import KE.KRevSl
import KE.KUnpack
import Lean
import PyProof.DictCompW
import PyProof.DictTable
import PyProof.IsRules
import PyProof.SetKind
import PyProof.TupleKey
import PySem.SetTable
import PyProof.EnumMake
import PyProof.WalksEnum
import PyProof.Rows.SetFrom
import PyProof.SetRoads
import PySem.Challenge.RW_matefloors_k25_tiles_at_spots
set_option Elab.async false
set_option linter.all false
set_option maxRecDepth 100000
set_option maxHeartbeats 4000000
set_option genSizeOf false
set_option compiler.extract_closed false
set_option bootstrap.genMatcherCode false
local macro_rules|`(‹$q›)=>`({nx:=fun _ y=>$q (.v .none) y,rt:=$q})
set_option genInjectivity false
local macro_rules | `(⋯) => `((by decide))
local macro_rules | `(∅) => `((by omega))
local macro_rules | `(nofun) => `((by decide +kernel))
local macro_rules | `(⟨⟩) => `((by kernel_rfl))
local macro_rules | `(tactic| walk_at "s") => `(tactic| exact ⟨rfl, rfl, rfl, by decide +kernel, rfl, by decide +kernel, by decide +kernel⟩)
local macro_rules | `(tactic| walk_at "b") => `(tactic| (intro _ _ _ _ _ _ us hl; first | exact (match us, hl with | [], _ => rfl) | exact (match us, hl with | [_], _ => rfl) | exact (match us, hl with | [_, _], _ => rfl) | exact (match us, hl with | [_, _, _], _ => rfl) | exact (match us, hl with | [_, _, _, _], _ => rfl) | exact (match us, hl with | [_, _, _, _, _], _ => rfl)))
open PySem.W (fnOf nsIn codeIn keepIn kitOne kia_one)
open List (map_append map_map mem_append_left filterMap_cons mem_cons_self mem_cons_of_mem mem_append_right size_toArray length_take getElem?_map mem_of_getElem? length_append length_map map_nil map_cons length_cons lookup_cons all_eq_true getElem?_cons_zero mem_cons not_mem_nil getElem?_cons_succ length_nil nil_append cons_append set_cons_zero set_cons_succ getElem_mem take_length sum_cons map_congr_left mem_map_of_mem take_succ mem_of_mem_take take_succ_cons map_take getElem?_of_mem flatten_append)
open Int (le_of_lt natAbs_mul eq_of_mul_eq_mul_right mul_ne_zero lt_or_le mul_nonneg lt_or_eq_of_le neg_neg lt_or_gt_of_ne mul_pos)
open Nat (lt_of_lt_of_le le_add_right ne_of_lt lt_irrefl le_trans le_refl zero_le mul_le_mul_right add_mul)
open Bool (false_eq_true and_eq_true true_eq_false xor_false false_xor xor_true true_xor)
open PySem.F (plainAttrs_list)
open Option (bind_some map_some join_some bind_none)
open PySem (mem_of_lookup)
namespace L2
open PySem PySem.W
noncomputable def fy:Sem Fin->Bool
 |.choose ..=>false
 |.os ..=>false
 |_=>true
noncomputable def zg(os:OsState):Step->Step
 |.go s t=>.go {s with os:=os} t
 |.halt o s=>.halt o {s with os:=os}
theorem Bc{os:OsState}{e:Outcome}{s:Shared}:finish e {s with os:=os} = zg os (finish e s):=by
 unfold finish
 rw[apply_ite (zg os)];rfl
theorem step_os{den:Code->Sem Fin}{p:Program}{w:World}{os:OsState}{s:Shared}{t:Thread}(h:fy t.cur=true) :
  step den p w {s with os:=os} t=zg os (step den p ⟨fun _ _=>0,w.params⟩ s t):=by
 obtain⟨heap,gens,drawn,toks,os0⟩:=s
 obtain⟨cur,code,pos,stack⟩:=t
 cases cur with
 |choose=>cases h
 |os=>cases h
 |pure r=>
  cases r with
  |again c=>rfl
  |done f=>
   cases stack with
   |nil=>exact Bc (s:=⟨heap,gens,drawn,toks,os0⟩)
   |cons fr rest=>cases fr<;>rfl
 |raise e=>
  cases stack with
  |nil=>exact Bc (s:=⟨heap,gens,drawn,toks,os0⟩)
  |cons fr rest=>cases fr<;>rfl
 |load a b k=>
  unfold step
  dsimp only
  cases heap.get? a<;>rfl
 |finish e=>
  unfold step
  dsimp only
  rw[apply_ite (zg os)];rfl
 |update a b f k=>
  unfold step
  dsimp only
  rw[apply_ite (zg os)];rfl
 |resume g r live k=>
  unfold step
  dsimp only
  cases gens[g]? with
  |none=>rfl
  |some x=>cases x<;>first|rfl|(cases r with|send v=>cases v<;>rfl|throw e=>rfl)
 |_=>first|rfl|(unfold step;dsimp only;split<;>rfl)
theorem Fs{den:Code->Sem Fin}{p:Program}{w:World}{os:OsState}{s s':Shared}{t t':Thread}(h:fy t.cur=true)(e:step den p ⟨fun _ _=>0,w.params⟩ s t = .go s' t') :
  step den p w {s with os:=os} t = .go {s' with os:=os} t':=(step_os h).trans (congrArg (zg os) e)
noncomputable def j8(tb:String->Option Builtin)(p:Program)(P:Params)(db:Nat)(ann:Option Value):Nat->Shared->Thread->Option Shared
 |0,_,_=>none
 |n+1,s,t=>match through t with
  |true=>some s
  |false=>match stepOk db ann t&&fy t.cur with
   |false=>none
   |true=>match step (denote tb) p ⟨fun _ _=>0,P⟩ s t with
    |.go s' t'=>j8 tb p P db ann n s' t'
    |.halt _ _=>none
theorem oI{tb:String->Option Builtin}{p:Program}{w:World}{db:Nat}{ann:Option Value}{os:OsState}:∀{n:Nat} {s s':Shared} {t:Thread},j8 tb p w.params db ann n s t=some s'->topRun tb p w db ann n {s with os:=os} t=some {s' with os:=os}
 |0,_,_,_,h=>by cases h
 |n+1,s,s',t,h=>by
  unfold j8 at h
  unfold topRun
  cases ht:through t with
  |true=>rw[ht] at h;cases h;rfl
  |false=>
   rw[ht] at h
   cases hk:(stepOk db ann t&&fy t.cur) with
   |false=>rw[hk] at h;cases h
   |true=>
    rw[hk] at h
    obtain⟨k1,k2⟩:=Bool.and_eq_true_iff.mp hk
    cases hs:step (denote tb) p ⟨fun _ _=>0,w.params⟩ s t with
    |halt o dl=>rw[hs] at h;cases h
    |go dl nb=>
     rw[hs] at h
     rw[k1,Fs (os:=os) k2 hs]
     exact oI h
noncomputable def mM(p:Program)(P:Params)(db:Nat)(ann:Option Value):Nat->Shared->Thread->Option Shared
 |0,_,_=>none
 |n+1,s,t=>match through t with
  |true=>some s
  |false=>match Fast.tw6613529449190102663 db ann t&&fy t.cur with
   |false=>none
   |true=>match Fast.tw8437177126325714943 (Fast.tw11892475500146522536 Fast.tw14364793385576792824) p ⟨fun _ _=>0,P⟩ s t with
    |.go s' t'=>mM p P db ann n s' t'
    |.halt _ _=>none
theorem pA{p:Program}{P:Params}{db:Nat}{ann:Option Value}:∀(n:Nat) (s:Shared) (t:Thread),mM p P db ann n s t=j8 treeTable p P db ann n s t
 |0,_,_=>rfl
 |n+1,s,t=>by
  unfold mM j8
  rw[<- Fast.te6613529449190102663,<- Fast.te8437177126325714943,<- Fast.te11892475500146522536,<- Fast.te14364793385576792824]
  cases through t with
  |true=>rfl
  |false=>
   cases (stepOk db ann t&&fy t.cur) with
   |false=>rfl
   |true=>
    cases step (denote treeTable) p ⟨fun _ _=>0,P⟩ s t with
    |halt o dl=>rfl
    |go dl nb=>exact pA n dl nb
end L2
namespace L2
open PySem
noncomputable def cE(s:Stmt):Arguments:=match s with
 |.FunctionDef _ a _ _ _ _ _ _ _ _=>a
 |_=>{posonlyargs:=[],args:=[],vararg:=none,kwonlyargs:=[],kw_defaults:=[],kwarg:=none,defaults:=[]}
noncomputable def da(s:Stmt):List Stmt:=match s with
 |.FunctionDef _ _ b _ _ _ _ _ _ _=>b
 |_=>[]
noncomputable def a0(s:Stmt):Scope:=match s with
 |.FunctionDef _ _ _ _ _ _ sc _ _ _=>sc
 |_=>{kind:=.function,names:=[],isGenerator:=false,isCoroutine:=false}
end L2
namespace L2.DL
open PySem
noncomputable def uC:List Str:=["law","_law_is_right","_law_is_put","_law_are_refused","_law_is_told","_law_said","_law_is_plan_told"]
noncomputable def yN:Option Value->Bool|some (.str _ _)=>true|_=>false
noncomputable def yY:Option Value->Bool|some (.int _ _)=>true|_=>false
noncomputable def EL:Option Value->Bool|some (.bool _)=>true|_=>false
noncomputable def ES:Option Value->Bool|some (.ref _)=>true|_=>false
noncomputable def FA:Option Value->Str|some (.str q _)=>q|_=>("":Str)
noncomputable def KI:Option Value->Addr|some (.ref a)=>a|_=>0
noncomputable def xt(vs:Array Value):Option (Addr×Str):=if (yN vs[1]?&&(ES vs[11]?&&(yY vs[7]?&&(EL vs[9]?&&(yY vs[10]?&&(yN vs[18]?&&uC.contains (FA vs[1]?)))))))=true then some (KI vs[11]?,FA vs[1]?) else none
noncomputable def bu(o:Obj):Option (Addr×Str):=match o.data with
 |.fields vs=>if o.cls = .type "code" then xt vs else none
 |_=>none
end L2.DL
namespace K25
open PySem L2
noncomputable def top(i:Nat):Stmt:=PySem.Challenge.pw_matefloors_k25_tiles_at_spots.main.body.getD i (.Pass ⟨0,0,0,0⟩)
noncomputable def mods:List (Nat×Str):=[(271,"matefloors.numbers"),(425,"matefloors.layings"),(454,"matefloors.plans"),(524,"matefloors.spots"),(654,"law_matefloors_k25_tiles_at_spots")]
noncomputable def FL0:List (Nat×Nat×Addr×Addr):=[(9,0,84,83),(10,0,91,90),(11,0,98,97),(12,0,105,104),(13,0,112,111),(14,0,119,118),(15,0,126,125),(16,0,133,132),(17,0,140,139),(18,0,147,146),(19,0,154,153),(20,0,161,160),(21,0,168,167),(22,0,175,174),(23,0,182,181),(24,0,189,188),(27,1,196,195),(28,1,201,200),(29,1,208,207),(35,2,215,214),(36,2,222,221),(37,2,229,228),(38,2,236,235),(39,2,243,242),(40,2,248,247),(41,2,255,254),(43,3,262,261),(44,3,269,268),(45,3,276,275),(46,3,283,282)]
noncomputable def FL1:List (Nat×Nat×Addr×Addr):=[(47,3,288,287),(48,3,293,292),(49,3,300,299),(50,3,307,306),(51,3,314,313),(52,3,321,320),(53,3,328,327),(55,4,335,334),(56,4,342,341),(57,4,349,348),(58,4,356,355),(59,4,363,362),(60,4,368,367),(61,4,375,374),(62,4,382,381),(63,4,389,388),(64,4,396,395),(65,4,403,402),(66,4,410,409),(67,4,415,414),(68,4,422,421),(69,4,429,428),(70,4,436,435),(71,4,443,442),(72,4,448,447),(73,4,455,454),(74,4,460,459),(75,4,465,464),(76,4,470,469),(77,4,475,474)]
noncomputable def FL2:List (Nat×Nat×Addr×Addr):=[(78,4,480,479),(79,4,485,484),(80,4,490,489),(81,4,497,496),(82,4,504,503),(83,4,511,510),(84,4,518,517),(85,4,525,524),(86,4,530,529),(87,4,537,536)]
noncomputable def FL:List (Nat×Nat×Addr×Addr):=FL0++FL1++FL2
noncomputable def GL0:List (Str×Option Value):=[("isinstance",none),("int",none),("bool",none),("abs",none),("tuple",none),("len",none),("all",none),("list",none),("zip",none),("range",none),("min",none),("max",none),("sum",none),("MOST_KINDS",some (.int 3 427)),("MOST_WITHIN",some (.int 12 456)),("MOST_PLANS",some (.int 60 458)),("LEAST_PARTS",some (.int 2 460)),("MOST_PARTS",some (.int 8 462)),("NOUGHT",some (.ref 76)),("ONE",some (.ref 77))]
noncomputable def GL:List (Str×Option Value):=GL0
noncomputable def nameOf:Stmt->Str
 |.FunctionDef n _ _ _ _ _ _ _ _ _=>n
 |_=>Str.empty
noncomputable def zf{α:Type}(p:α->Prop):List α->Prop
 |[]=>True
 |x::r=>p x/\zf p r
noncomputable abbrev fd(n:Str)(s:Stmt)(tk:Tok)(m:Str)(cd:Addr):FuncData:=fnOf n n (cE s) (da s) (a0 s) .none .none .none (.str m tk) none (.ref cd) .none
noncomputable def nm(q:Nat×Nat×Addr×Addr):Str:=nameOf (top q.1)
noncomputable def ps(q:Nat×Nat×Addr×Addr):List Str:=(cE (top q.1)).args.map fun a=>a.arg
noncomputable def md(q:Nat×Nat×Addr×Addr):Nat×Str:=mods.getD q.2.1 (0,"")
noncomputable def FQ(K:PySem.W.Frag)(q:Nat×Nat×Addr×Addr):Prop:=nsIn K mainGlobals (nm q)=some (some (.ref q.2.2.1))/\K.lookup q.2.2.1=some ⟨.type "function",none,.func (fd (nm q) (top q.1) (md q).1 (md q).2 q.2.2.2),#[]⟩/\codeIn K (.ref q.2.2.2) (nm q)=true/\keepIn K (.ref q.2.2.1)=true
noncomputable def gl(i:Nat):Str×Option Value:=GL.getD i ("",none)
noncomputable def wO(a:Arguments):Bool:=a.posonlyargs.isEmpty&&a.vararg.isNone&&a.kwonlyargs.isEmpty&&a.kwarg.isNone&&decide (a.args.map fun x=>x.arg).Nodup
end K25
namespace K25.H
open PySem PySem.W PyProof.Rows L2 L2.DL
set_option maxHeartbeats 0
noncomputable abbrev R:OpenLaw:=PySem.Challenge.rw_matefloors_k25_tiles_at_spots
noncomputable abbrev LO:List Str:=["has_form","has_form_layings","has_form_plans"]
noncomputable def sT(P:Params):Option Shared:=mM R.row.prog P 11 (some (.ref 6)) 20000 {heap:=boot_heap P,gens:=#[],drawn:=boot_drawn,toks:=boot_toks,os:=default} (topStub R.row.prog)
noncomputable def defName:Stmt->Str
 |.FunctionDef n _ _ _ _ _ _ _ _ _=>n
 |_=>Str.empty
noncomputable def x5:Stmt->Int
 |.FunctionDef _ _ _ _ _ _ _ _ _ p=>Int.ofNat p.line
 |_=>0
noncomputable def cn(o:Obj)(r:List Obj):List Obj:=o::r
noncomputable def g(P:Params)(x:Str)(t:Nat)(v:Value):DictEntry:=⟨PyData.keyHash P x,.str x t,v⟩
noncomputable def gf(P:Params)(i t a:Nat):DictEntry:=g P (defName (top i)) t (.ref a)
noncomputable def tb:List (Int×Nat)->List Value
 |[]=>[]
 |(a,b)::l=>.int a 0::.int 0 0::.ref b::tb l
noncomputable def tu(l:List Value):Obj:=⟨.type "tuple",none,.seq l.toArray 0,#[]⟩
noncomputable def nf:Obj:=⟨.none,none,.fields #[],#[]⟩
noncomputable def dp(s:Stmt):List Str:=(cE s).args.map (·.arg)
noncomputable def fd(s:Stmt)(a:Addr)(p c:Value):Data:=.func {name:=defName s,qualname:=defName s,params:=cE s,body:=.stmts (da s),scope:=a0 s,globals:=a,closure:=[],defaults:=.none,kwdefaults:=.none,pyModule:=p,code:=c}
noncomputable def co(s:Stmt)(a t u:Nat)(x y:Value)(d:Nat):Obj:=⟨.type "code",none,.fields #[.str (defName s) t,.str (defName s) (t+1),.str "/claim/cut.py" (t+2),.int (x5 s) 0,.int (Int.ofNat (dp s).length) 0,.int 0 0,.int 0 0,.int 3 0,.ref a,.bool true,.int 181 0,.ref (a+1),.none,x,y,.ref (a+d),.int (Int.ofNat u) 0,.int (x5 s) 0,.str "/claim/cut.py" (u+1)],#[]⟩
noncomputable def nv:Nat->List Str->List Value
 |_,[]=>[]
 |t,x::l=>.str x t::nv (t+1) l
noncomputable def fB(i a t:Nat)(l:List Str)(p:Value)(r:List Obj):List Obj:=tu []::nf::tu (nv (t+3) (dp (top i)++l))::tu []::⟨.none,none,fd (top i) 0 .none .none,#[]⟩::co (top i) a t (t+3+(dp (top i)++l).length) (.ref (a+2)) (.ref (a+3)) 4::⟨.type "function",none,fd (top i) 3 p (.ref (a+5)),#[]⟩::r
noncomputable def fL(i a t:Nat)(p:Value)(r:List Obj):List Obj:=tu []::nf::⟨.none,none,fd (top i) 0 .none .none,#[]⟩::co (top i) a t (t+3) .none .none 2::⟨.type "function",none,fd (top i) 3 p (.ref (a+3)),#[]⟩::r
noncomputable def me:Value:=.str "matefloors.errors" 187
noncomputable def cB(P:Params)(x:Str)(i t:Nat)(n:Int)(r:List Obj):List Obj:=tu [.ref 24]::⟨.type "builtin_function_or_method",none,.fields #[.builtin "type.__prepare__",.type "type"],#[]⟩::⟨.type "dict",none,.dict #[g P "__module__" (t+5) me,g P "__qualname__" (t+7) (.str x (t+6)),g P "__firstlineno__" (t+9) (.int n (t+8)),g P "__static_attributes__" (t+10) (.ref (i+7))] 4,#[]⟩::tu []::nf::⟨.type "code",none,.fields #[.str x t,.str x (t+1),.str "/claim/cut.py" (t+2),.int n 0,.int 0 0,.int 0 0,.int 0 0,.int 0 0,.ref (i+3),.bool false,.int 181 0,.ref (i+4),.none,.none,.none,.none,.int (Int.ofNat (t+3)) 0,.int n 0,.str "/claim/cut.py" (t+4)],#[]⟩::⟨.type "frame",none,.plain,#[some (.ref (i+5)),some (.ref 3),some (.ref (i+2)),none,some me,none,some (.ref 0)]⟩::tu []::⟨.type "dict",none,.dict #[g P "__module__" (t+5) me,g P "__firstlineno__" (t+9) (.int n (t+8)),g P "__static_attributes__" (t+10) (.ref (i+7)),g P "__doc__" (t+11) .none] 2,#[]⟩::⟨.type "type",none,.cls ⟨x,[.ref 24],[.ref (i+9),.ref 24,.type "ValueError",.type "Exception",.type "BaseException",.type "object"],i+8,x,true,[],[],false,none,false⟩,#[some (.ref i),none,some (.str x (t-2)),some (.str x (t+6)),some (.builtin "ValueError.__new__"),some (.bool true)]⟩::⟨.type "super",none,.fields #[.ref (i+9),.ref (i+9),.ref (i+9)],#[]⟩::⟨.type "builtin_function_or_method",none,.fields #[.builtin "object.__init_subclass__",.ref (i+9)],#[]⟩::r
noncomputable def m0:Value:=.str "matefloors.numbers" 271
noncomputable def m1:Value:=.str "matefloors.layings" 425
noncomputable def m2:Value:=.str "matefloors.plans" 454
noncomputable def m3:Value:=.str "matefloors.spots" 524
noncomputable def m4:Value:=.str "law_matefloors_k25_tiles_at_spots" 654
noncomputable def ho0(P:Params)(r:List Obj):List Obj:=cn (boot_o_0 P) <| cn (boot_o_1 P) <| cn (boot_o_2 P) <| cn (⟨.type "dict",none,.dict #[g P "__name__" 165 (.str "law_matefloors_k25_tiles_at_spots" 654),g P "__doc__" 166 .none,g P "__package__" 167 .none,g P "__loader__" 168 (.builtin "__main__.__loader__#opaque"),g P "__spec__" 169 .none,g P "__annotations__" 170 (.ref 6),g P "__builtins__" 171 (.ref 4),g P "__file__" 173 (.str "/claim/cut.py" 172),g P "__cached__" 174 .none,g P "FloorError" 206 (.ref 24),g P "NoNumber" 222 (.ref 37),g P "NoKinds" 238 (.ref 49),g P "NoPlan" 254 (.ref 61),g P "NoSpot" 270 (.ref 73),g P "NOUGHT" 276 (.ref 76),g P "ONE" 280 (.ref 77),gf P 9 287 84,gf P 10 295 91,gf P 11 303 98,gf P 12 313 105,gf P 13 322 112,gf P 14 332 119,gf P 15 340 126,gf P 16 348 133,gf P 17 357 140,gf P 18 366 147,gf P 19 375 154,gf P 20 383 161,gf P 21 393 168,gf P 22 404 175,gf P 23 412 182,gf P 24 424 189,g P "MOST_KINDS" 428 (.int 3 427),gf P 27 439 196,gf P 28 445 201,gf P 29 453 208,g P "MOST_WITHIN" 457 (.int 12 456),g P "MOST_PLANS" 459 (.int 60 458),g P "LEAST_PARTS" 461 (.int 2 460),g P "MOST_PARTS" 463 (.int 8 462),gf P 35 476 215,gf P 36 485 222,gf P 37 492 229,gf P 38 500 236,gf P 39 508 243,gf P 40 514 248,gf P 41 523 255,gf P 43 539 262,gf P 44 549 269,gf P 45 563 276,gf P 46 570 283,gf P 47 576 288,gf P 48 582 293,gf P 49 593 300,gf P 50 611 307,gf P 51 627 314,gf P 52 639 321,gf P 53 653 328,gf P 55 667 335,gf P 56 676 342,gf P 57 683 349,gf P 58 691 356,gf P 59 701 363,gf P 60 707 368,gf P 61 715 375,gf P 62 722 382,gf P 63 731 389,gf P 64 739 396,gf P 65 750 403,gf P 66 759 410,gf P 67 765 415,gf P 68 777 422,gf P 69 787 429,gf P 70 800 436,gf P 71 807 443,gf P 72 813 448,gf P 73 822 455,gf P 74 828 460,gf P 75 834 465,gf P 76 840 470,gf P 77 846 475,gf P 78 852 480,gf P 79 858 485,gf P 80 864 490,gf P 81 874 497,gf P 82 884 504,gf P 83 897 511,gf P 84 907 518,gf P 85 922 525,gf P 86 928 530,gf P 87 943 537] 91,#[]⟩) <| cn (boot_o_4 P) <| cn (boot_o_5 P) <| cn (boot_o_6 P) <| cn (boot_o_7 P) <| cn (boot_o_8 P) <| cn (boot_o_9 P) <| cn (boot_o_10 P) <| cn (⟨(.type "tuple"),none,(.seq #[] 0),#[]⟩) <| cn (⟨.none,none,.fields (tb [(2,20),(4,33),(6,45),(8,57),(10,69),(15,83),(17,90),(21,97),(26,104),(33,111),(35,118),(42,125),(44,132),(46,139),(48,146),(52,153),(55,160),(57,167),(66,174),(70,181),(72,188),(80,195),(83,200),(87,207),(95,214),(106,221),(119,228),(121,235),(128,242),(131,247),(143,254),(149,261),(166,268),(169,275),(174,282),(176,287),(180,292),(188,299),(191,306),(203,313),(208,320),(213,327),(218,334),(228,341),(235,348),(237,355),(242,362),(245,367),(249,374),(251,381),(253,388),(255,395),(257,402),(263,409),(265,414),(270,421),(276,428),(282,435),(294,442),(296,447),(321,454),(326,459),(337,464),(345,469),(362,474),(365,479),(371,484),(393,489),(403,496),(407,503),(410,510),(418,517),(424,524),(434,529),(442,536)]).toArray,#[]⟩) <| cn (⟨(.type "code"),none,(.fields #[(.str "<module>" 182),(.str "<module>" 183),(.str "/claim/cut.py" 184),(.int 1 0),(.int 0 0),(.int 0 0),(.int 0 0),(.int 0 0),(.ref 11),(.bool false),(.int 181 0),(.ref 12),.none,.none,.none,.none,(.int 185 0),(.int 1 0),(.str "/claim/cut.py" 186)]),#[]⟩) <| cn (⟨(.type "frame"),none,.plain,#[some (.ref 13),some (.ref 3),some (.ref 3),none,some (.str "__main__" 164),none,some (.ref 0)]⟩) <| cn (⟨(.type "tuple"),none,(.seq #[(.type "ValueError")] 0),#[]⟩) <| cn (⟨(.type "builtin_function_or_method"),none,(.fields #[(.builtin "type.__prepare__"),(.type "type")]),#[]⟩) <| cn (⟨(.type "dict"),none,(.dict #[⟨PyData.keyHash P "__module__",(.str "__module__" 196),(.str "matefloors.errors" 187)⟩,⟨PyData.keyHash P "__qualname__",(.str "__qualname__" 198),(.str "FloorError" 197)⟩,⟨PyData.keyHash P "__firstlineno__",(.str "__firstlineno__" 200),(.int 2 199)⟩,⟨PyData.keyHash P "__static_attributes__",(.str "__static_attributes__" 201),(.ref 22)⟩] 4),#[]⟩) <| cn (⟨(.type "tuple"),none,(.seq #[] 0),#[]⟩) <| cn (⟨.none,none,(.fields #[]),#[]⟩) <| r
noncomputable def ho1(P:Params)(r:List Obj):List Obj:=cn (⟨(.type "code"),none,(.fields #[(.str "FloorError" 191),(.str "FloorError" 192),(.str "/claim/cut.py" 193),(.int 2 0),(.int 0 0),(.int 0 0),(.int 0 0),(.int 0 0),(.ref 18),(.bool false),(.int 181 0),(.ref 19),.none,.none,.none,.none,(.int 194 0),(.int 2 0),(.str "/claim/cut.py" 195)]),#[]⟩) <| cn (⟨(.type "frame"),none,.plain,#[some (.ref 20),some (.ref 3),some (.ref 17),none,some (.str "matefloors.errors" 187),none,some (.ref 0)]⟩) <| cn (⟨(.type "tuple"),none,(.seq #[] 0),#[]⟩) <| cn (⟨(.type "dict"),none,(.dict #[⟨PyData.keyHash P "__module__",(.str "__module__" 196),(.str "matefloors.errors" 187)⟩,⟨PyData.keyHash P "__firstlineno__",(.str "__firstlineno__" 200),(.int 2 199)⟩,⟨PyData.keyHash P "__static_attributes__",(.str "__static_attributes__" 201),(.ref 22)⟩,⟨PyData.keyHash P "__weakref__",(.str "__weakref__" 203),(.ref 25)⟩,⟨PyData.keyHash P "__doc__",(.str "__doc__" 204),.none⟩] 3),#[]⟩) <| cn (⟨(.type "type"),none,(.cls ⟨"FloorError",[(.type "ValueError")],[(.ref 24),(.type "ValueError"),(.type "Exception"),(.type "BaseException"),(.type "object")],23,"FloorError",true,[],[(.ref 37),(.ref 49),(.ref 61),(.ref 73)],false,none,false⟩),#[some (.ref 15),none,some (.str "FloorError" 189),some (.str "FloorError" 197),some (.builtin "ValueError.__new__"),some (.bool true)]⟩) <| cn (⟨(.type "getset_descriptor"),none,(.fields #[(.str "__weakref__" 202),(.ref 24),(.builtin "ExceptionGroup.__weakref__"),.none]),#[]⟩) <| cn (⟨(.type "super"),none,(.fields #[(.ref 24),(.ref 24),(.ref 24)]),#[]⟩) <| cn (⟨(.type "builtin_function_or_method"),none,(.fields #[(.builtin "object.__init_subclass__"),(.ref 24)]),#[]⟩) <| cB P "NoNumber" 28 209 4 <| cB P "NoKinds" 40 225 6 <| cB P "NoPlan" 52 241 8 <| cB P "NoSpot" 64 257 10 <| cn (⟨(.type "tuple"),none,(.seq #[(.int 0 273),(.int 0 274),(.int 1 275)] 0),#[]⟩) <| cn (⟨(.type "tuple"),none,(.seq #[(.int 1 277),(.int 0 278),(.int 1 279)] 0),#[]⟩) <| fB 9 78 281 [] m0 <| fB 10 85 288 [] m0 <| fB 11 92 296 ["guess"] m0 <| fB 12 99 304 ["a","b","c"] m0 <| fB 13 106 314 [] m0 <| fB 14 113 323 ["divisor"] m0 <| r
noncomputable def ho2(P:Params)(r:List Obj):List Obj:=fB 15 120 333 [] m0 <| fB 16 127 341 [] m0 <| fB 17 134 349 [] m0 <| fB 18 141 358 [] m0 <| fB 19 148 367 ["norm"] m0 <| fB 20 155 376 [] m0 <| fB 21 162 384 ["prevailing"] m0 <| fB 22 169 394 ["a","b"] m0 <| fB 23 176 405 [] m0 <| fB 24 183 413 ["a","b","c","beneath"] m0 <| fB 27 190 429 ["x","y","width","height"] m1 <| fL 28 197 440 m1 <| fB 29 202 446 [] m1 <| fB 35 209 464 ["waiting","counted","plan","depth","part"] m2 <| fB 36 216 477 ["word"] m2 <| fB 37 223 486 [] m2 <| fB 38 230 493 ["word"] m2 <| fB 39 237 501 [] m2 <| fL 40 244 509 m2 <| fB 41 249 515 ["total","shape"] m2 <| r
noncomputable def ho3(P:Params)(r:List Obj):List Obj:=fB 43 256 526 ["shape","box","quarters"] m3 <| fB 44 263 540 [] m3 <| fB 45 270 550 ["left","right","bottom","top"] m3 <| fB 46 277 564 [] m3 <| fL 47 284 571 m3 <| fL 48 289 577 m3 <| fB 49 294 583 ["x","y","width","height"] m3 <| fB 50 301 594 ["x","y","width","height","boxes","start","size","high"] m3 <| fB 51 308 612 ["width","height","column","row"] m3 <| fB 52 315 628 ["columns","rows"] m3 <| fB 53 322 640 ["right","up"] m3 <| fB 55 329 656 ["_law_cell","_law_great","_law_primes","_law_mixed"] m4 <| fB 56 336 668 ["_law_digit"] m4 <| fB 57 343 677 [] m4 <| fB 58 350 684 [] m4 <| fB 59 357 692 ["_law_common"] m4 <| fL 60 364 702 m4 <| fB 61 369 708 [] m4 <| fB 62 376 716 [] m4 <| fB 63 383 723 [] m4 <| r
noncomputable def ho4(P:Params)(r:List Obj):List Obj:=fB 64 390 732 [] m4 <| fB 65 397 740 ["_law_first","_law_second","_law_sides"] m4 <| fB 66 404 751 [] m4 <| fL 67 411 760 m4 <| fB 68 416 766 ["_law_wide","_law_a","_law_b","_law_c","_law_way"] m4 <| fB 69 423 778 ["_law_x","_law_sign_here"] m4 <| fB 70 430 788 ["_law_found","_law_turn","_law_way","_law_part","_law_kind"] m4 <| fB 71 437 801 [] m4 <| fL 72 444 808 m4 <| fB 73 449 814 ["_law_found","_law_one"] m4 <| fL 74 456 823 m4 <| fL 75 461 829 m4 <| fL 76 466 835 m4 <| fL 77 471 841 m4 <| fL 78 476 847 m4 <| fL 79 481 853 m4 <| fL 80 486 859 m4 <| fB 81 491 865 [] m4 <| fB 82 498 875 ["_law_wide"] m4 <| fB 83 505 885 ["_law_found","_law_kind","_law_x"] m4 <| r
noncomputable def ho5(P:Params)(r:List Obj):List Obj:=fB 84 512 898 ["_law_turn","_law_plan_here"] m4 <| fB 85 519 908 ["_law_found","_law_turn","_law_tile","_law_x","_law_y"] m4 <| fL 86 526 923 m4 <| fB 87 531 929 ["_law_k","_law_bag_here","_law_d","_law_kinds_here","_law_plan_here","_law_tiles_here","_law_spots_here","_law_spot"] m4 <| r
noncomputable def hT(P:Params):Heap:=⟨⟨ho0 P <| ho1 P <| ho2 P <| ho3 P <| ho4 P <| ho5 P []⟩,(boot_heap P).life⟩
noncomputable def isNm:Stmt->Bool
 |.Assign [.Name x _] _ _=>x == "__name__"
 |_=>false
noncomputable def V:Program:={R.row.prog with main:={R.row.prog.main with body:=R.row.prog.main.body.filter fun s=>!isNm s}}
noncomputable def as:List Addr:=[3,84,83,91,90,98,97,105,104,112,111,119,118,126,125,133,132,140,139,147,146,154,153,161,160,168,167,175,174,182,181,189,188,196,195,201,200,208,207,215,214,222,221,229,228,236,235,243,242,248,247,255,254,262,261,269,268,276,275,283,282,288,287,293,292,300,299,307,306,314,313,321,320,328,327,335,334,342,341,349,348,356,355,363,362,368,367,375,374,382,381,389,388,396,395,403,402,410,409,415,414,422,421,429,428,436,435,443,442,448,447,455,454,460,459,465,464,470,469,475,474,480,479,485,484,490,489,497,496,504,503,511,510,518,517,525,524,530,529,537,536,76,77]
noncomputable def tabs:List Addr:=[527,532]
noncomputable def K(P:Params):Frag:=as.map fun a=>(a,((hT P).get? a).getD default)
noncomputable def TF(P:Params):Frag:=tabs.map fun a=>(a,((hT P).get? a).getD default)
noncomputable def KF(P:Params):Frag:=K P++TF P
theorem kAs(P:Params):as++tabs=(KF P).map (·.1):=by
 unfold KF K TF
 rw[map_append,map_map,map_map]
 exact congr (congrArg HAppend.hAppend (List.map_id _).symm) (List.map_id _).symm
noncomputable def HK:Hook:=kHook KF (as++tabs) kAs
noncomputable def posOf:Stmt->Pos
 |.FunctionDef _ _ _ _ _ _ _ _ _ p=>p
 |_=>⟨0,0,0,0⟩
noncomputable def D:DefRec:=⟨"law",cE (K25.top 87),da (K25.top 87),a0 (K25.top 87),posOf (K25.top 87)⟩
noncomputable def Xt:Shared->Bool:=fun s=>xlAt V [] s&&recOk R.row.records s
theorem runC(P:Params):(sT P).map (fun s=>(s.heap,s.gens,s.drawn,s.toks))=some (hT P,#[],{},944):=⟨⟩
theorem KN{A B C D:Type}{a a':A}{b b':B}{c c':C}{d d':D}(h:(a,b,c,d)=(a',b',c',d')):a=a'/\b=b'/\c=c'/\d=d':=by
 cases h;exact⟨rfl,rfl,rfl,rfl⟩
theorem run(w:World)(os:OsState):topRun treeTable R.row.prog w 11 (some (.ref 6)) 20000 {heap:=boot_heap w.params,gens:=#[],drawn:=boot_drawn,toks:=boot_toks,os:=os} (topStub R.row.prog)=some {heap:=hT w.params,gens:=#[],drawn:={},toks:=944,os:=os}:=by
 have h:=runC w.params
 cases e:sT w.params with
 |none=>rw[e] at h;cases h
 |some s=>
  rw[e] at h
  obtain⟨heap,gens,drawn,toks,os0⟩:=s
  have h':some (heap,gens,drawn,toks)=some (hT w.params,(#[]:Array GenState),({}:Drawn),944):=h
  obtain⟨rfl,rfl,rfl,rfl⟩:=KN (Option.some.inj h')
  exact oI (w:=w) (os:=os) ((pA _ _ _).symm.trans e)
theorem J3(w:World)(os:OsState):(staticsOk (importedModules R.row.prog.main.body) (boot_heap w.params) (hT w.params)&&namesBound R.row.prog (hT w.params)&&gensDone {heap:=hT w.params,gens:=#[],drawn:={},toks:=944,os:=os}&&laidKept (boot_heap w.params) (hT w.params))=true:=⟨⟩
theorem Fd(w:World)(os:OsState):seen (List.map (fun x=>x.name) (recsOf V)) (ownsOf V) [] {heap:=hT w.params,drawn:={},toks:=944,os:=os} = expectedOf V:=⟨⟩
theorem EJ(w:World)(os:OsState):(hT w.params).bltView=bltViewBooted:=⟨⟩
theorem Gk(w:World)(os:OsState):((hT w.params).keysOk (looseW V LO) (List.map (fun x=>x.name) (recsOf V)) (List.map (fun x=>x.fst) (litsOf V)) (List.map (fun x=>x.name) (clssOf V (looseW V LO)))&&(hT w.params).accountedOkI (importedModules R.row.prog.main.body)&&(hT w.params).isNs mainGlobals&&(hT w.params).isNs builtinsNs&&tablesOk V (hT w.params)&&Xt {heap:=hT w.params,gens:=#[],drawn:={},toks:=944,os:=os}&&(if true=true then (#[]:Array GenState).size==0 else !leftWithCleanup (#[]:Array GenState)))=true:=⟨⟩
theorem Gx(w:World)(os:OsState):tabsOk V {heap:=hT w.params,gens:=#[],drawn:={},toks:=944,os:=os} = true:=⟨⟩
theorem Fl(w:World)(os:OsState):pinSeenD V (drecsOf V) {heap:=hT w.params,gens:=#[],drawn:={},toks:=944,os:=os} = pinGoodD (drecsOf V):=⟨⟩
theorem HR(w:World)(os:OsState):plainSeenE V (looseW V LO) {heap:=hT w.params,gens:=#[],drawn:={},toks:=944,os:=os} = plainGoodE V (looseW V LO):=⟨⟩
theorem GJ(w:World)(os:OsState):plainSeenD V LO {heap:=hT w.params,gens:=#[],drawn:={},toks:=944,os:=os} = plainGoodD V LO:=⟨⟩
theorem Gz(w:World)(os:OsState):wideSeen V {heap:=hT w.params,gens:=#[],drawn:={},toks:=944,os:=os} = wideGood V:=⟨⟩
theorem E1(w:World)(os:OsState):clsSeenW V LO {heap:=hT w.params,gens:=#[],drawn:={},toks:=944,os:=os} = clsGoodW V LO:=⟨⟩
theorem JI{A B C D E F G H I:Type}{a a':A}{b b':B}{c c':C}{d d':D}{e e':E}{f f':F}{g g':G}{h h':H}{i i':I}(h0:a=a')(h1:b=b')(h2:c=c')(h3:d=d')(h4:e=e')(h5:f=f')(h6:g=g')(h7:h=h')(h8:i=i'):(a,b,c,d,e,f,g,h,i)=(a',b',c',d',e',f',g',h',i'):=by
 rw[h0,h1,h2,h3,h4,h5,h6,h7,h8]
theorem JF(w:World)(os:OsState):openSeen V LO (importedModules R.row.prog.main.body) Xt true {heap:=hT w.params,gens:=#[],drawn:={},toks:=944,os:=os} = openGood V LO:=JI (Fd w os) (EJ w os) (Gk w os) (Gx w os) (Fl w os) (HR w os) (GJ w os) (Gz w os) (E1 w os)
theorem I0(w:World)(os:OsState):HK.obs {heap:=hT w.params,gens:=#[],drawn:={},toks:=944,os:=os} = HK.val w:=⟨⟩
theorem seen(w:World):(fun os=>(staticsOk (importedModules R.row.prog.main.body) (boot_heap w.params) (hT w.params)&&namesBound R.row.prog (hT w.params)&&gensDone {heap:=hT w.params,gens:=#[],drawn:={},toks:=944,os:=os}&&laidKept (boot_heap w.params) (hT w.params),
  openSeen V LO (importedModules R.row.prog.main.body) Xt true {heap:=hT w.params,gens:=#[],drawn:={},toks:=944,os:=os},HK.obs {heap:=hT w.params,gens:=#[],drawn:={},toks:=944,os:=os}))=fun _:OsState=>(true,openGood V LO,HK.val w):=
 funext fun os=>Prod.ext (J3 w os) (Prod.ext (JF w os) (I0 w os))
theorem lkb{a b:Bool}(x:a=true)(y:b=true):(a&&b)=true:=by rw[x,y];rfl
theorem wsA:(sreFenced R.row.prog.main&&((moduleNames R.row.prog.main.body).isEmpty || lookedIntoSs (moduleNames R.row.prog.main.body) R.row.prog.main.body))=true:=⟨⟩
theorem wsB:namesResolve R.row.prog=true:=⟨⟩
theorem wsC:R.row.prog.boundNames.all (fun n=>!worldNames.contains n)=true:=⟨⟩
theorem wsD:noRoadLSs {strict:=!(importedModules R.row.prog.main.body).all cThrough.contains,foot:=none,bare:=(["vars","dir","locals"]:List Str).filter (readsOut R.row.prog R.row.prog.main.body)} R.row.prog.main.body=true:=⟨⟩
theorem wsE:(namesMeet R.row.prog R.row.prog.main.body fun _ n=>attrL n)=true:=⟨⟩
theorem wsF:looksOpen R.row.prog=true:=lkb (lkb (lkb (lkb wsA wsB) wsC) wsD) wsE
theorem wsG:R.row.wellSaid=true:=by
 unfold OpenRow.wellSaid OpenRow.partSaid
 rw[wsF]
 kernel_rfl
theorem wsH:noClassBlock R.prog R.footing=true:=⟨⟩
theorem wsI:noRoadLSs {strict:=true,foot:=some R.bound',writes:=R.writes,may:=R.may} R.footing=true:=⟨⟩
theorem wsJ:R.namesIt=true:=⟨⟩
theorem wsK:R.bound'.all (fun n=>!builtinNamed n || R.about==[n] || !R.reads n)=true:=⟨⟩
theorem wsL:namesMeet R.prog R.footing (fun sc n=>(!(["type","isinstance","issubclass","getattr","hasattr"]:List Str).contains n || sc.names.lookup n==some .globalImplicit)&&(R.may != some n || sc.kind==.module || sc.names.lookup n==some .globalImplicit))=true:=⟨⟩
theorem wsM:namesMeet R.prog R.above (fun _ n=>!R.own.contains n)=true:=⟨⟩
theorem wsN:(namesMeet R.prog R.footing fun sc n=>sc.kind==.module || sc.names.lookup n != some .globalExplicit)=true:=⟨⟩
theorem ws:R.wellSaid=true:=by
 unfold OpenLaw.wellSaid
 rw[wsG,wsH,wsI,wsJ,wsK,wsL,wsM,wsN]
 kernel_rfl
theorem Hk(P:Params):zf (FQ (K P)) FL:=by (repeat' apply And.intro)<;>first|trivial|kernel_rfl
theorem Hh:FL.all (fun q=>wO (cE (top q.1)))=true:=⟨⟩
theorem Hy(P:Params):GL.map (fun q=>nsIn (K P) mainGlobals q.1)=GL.map fun q=>some q.2:=⟨⟩
theorem Ct(P:Params):(K P).lookup 76=some ⟨.type "tuple",none,.seq #[.int 0 273,.int 0 274,.int 1 275] 0,#[]⟩:=⟨⟩
theorem DQ(P:Params):(K P).lookup 77=some ⟨.type "tuple",none,.seq #[.int 1 277,.int 0 278,.int 1 279] 0,#[]⟩:=⟨⟩
theorem wq(P:Params):((K P).filterMap fun p=>bu p.2)=[(527,("_law_is_told":Str)),(532,("law":Str))]/\((K P).lookup 529).bind bu=some (527,("_law_is_told":Str))/\((K P).lookup 536).bind bu=some (532,("law":Str))/\(KF P).lookup 527=some (tabObj #[])/\(KF P).lookup 532=some (tabObj #[])/\(K P).lookup 527=none/\(K P).lookup 532=none:=⟨⟨⟩,⟨⟩,⟨⟩,⟨⟩,⟨⟩,⟨⟩,⟨⟩⟩
theorem GF(P:Params):((K P).filterMap fun p=>bu p.2)=[(527,("_law_is_told":Str)),(532,("law":Str))]:=(wq P).1
theorem kF(P:Params):((K P).lookup 529).bind bu=some (527,("_law_is_told":Str)):=(wq P).2.1
theorem xR{q2:Str}(h:((527:Addr),q2)∈([(527,("_law_is_told":Str)),(532,("law":Str))]:List (Addr×Str))):q2 = "_law_is_told":=by simpa using h
theorem Bh(P:Params):((K P).lookup 536).bind bu=some (532,("law":Str)):=(wq P).2.2.1
theorem Kd{q2:Str}(h:((532:Addr),q2)∈([(527,("_law_is_told":Str)),(532,("law":Str))]:List (Addr×Str))):q2 = "law":=by simpa using h
theorem fM(P:Params):(KF P).lookup 527=some (tabObj #[])/\(K P).lookup 527=none:=⟨(wq P).2.2.2.1,(wq P).2.2.2.2.2.1⟩
theorem xo(P:Params):(KF P).lookup 532=some (tabObj #[])/\(K P).lookup 532=none:=⟨(wq P).2.2.2.2.1,(wq P).2.2.2.2.2.2⟩
theorem left:LeftO R.row.prog V LO Xt HK.obs HK.val 20000:=
 LeftO.of_pieces (H₀:=boot_heap) (H₁:=hT) (gs₀:=#[]) (gs₁:=#[]) (d₀:=boot_drawn) (d₁:={}) (k₀:=boot_toks) (k₁:=944) (m₀:=11) (ann:=some (.ref 6)) (M:=20000)
  (boot_open ⟨⟩ ⟨⟩ (fun s=>⟨⟩)) (fun w=>⟨⟩) run ⟨⟩ seen
end K25.H
namespace L2
open PySem PySem.Spec PyProof.Rows
noncomputable def dc(A:Around)(h:Heap):Prop:=A.handled=none\/∃(e:Addr) (oe:Obj) (vs:Array Value),A.handled=some (.ref e)/\h.get? e=some oe/\oe.data = .fields vs/\vs[2]? = some .none
theorem pY:entryFor table "proto.unchain"=some Builtin.«proto.unchain»:=entryFor_of_tree ⟨⟩
section
variable {prog:Program}{w:World}{A:Around}{E:Value->Shared->Prop}{s:Shared}
theorem se{x e:Addr}{oe:Obj}{vs:Array Value}{Q:Value->Shared->Prop}(he:s.heap.get? e=some oe)(hd:oe.data = .fields vs)(h2:vs[2]? = some .none)(h:Q .none s) :
  wpAny (model prog w) A (runValue (.builtin "proto.unchain" ⟨[.ref x,.ref e,.ref e,.bool false],[]⟩)) Q E s:=by
 refine wpAny_runValue (codeAny_builtin pY ?_)
 unfold Builtin.«proto.unchain»
 dsimp only
 refine wpAny_bind (wpAny_field he hd h2 ?_)
 rw[if_pos (by rfl)]
 exact wpAny_pure h
theorem oP{α:Type}{a:Addr}{oa:Obj}{ws:Array Value}{Q:α->Shared->Prop}(q:dc A s.heap)(ha:s.heap.get? a=some oa)(hda:oa.data = .fields ws)(hz:2<ws.size)
  (hnew:∀e oe,A.handled=some (.ref e)->s.heap.get? e=some oe->e≠a)
  (h:∀h',Heap.ExtBut a s.heap h'->(∃o',h'.get? a=some o'/\o'.cls=oa.cls)->E (.ref a) {s with heap:=h'}):wpAny (model prog w) A (raiseNew (.ref a):Sem α) Q E s:=by
 unfold raiseNew
 refine wpAny_bind (wpAny_handled ?_)
 rcases q with q|⟨e,oe,vs,q,he,hd,h2⟩
 ·rw[q]
  exact wpAny_bind (wpAny_pure (wpAny_throw (h s.heap (fun b o _ z=>z) ⟨oa,ha,rfl⟩)))
 ·rw[q]
  have ne:e≠a:=hnew e oe q he
  dsimp only
  rw[if_pos (by simp[ne])]
  refine wpAny_bind (wpAny_holding (se he hd h2 ?_))
  refine wpAny_bind ?_
  refine wpAny_setField ha hda hz (wpAny_throw ?_)
  have hd':=Obj.data_mapFields hda (·.setIfInBounds 2 (Value.ref e))
  exact h _ (Heap.SameBut.update ..).extBut ⟨_,Heap.get?_update_self _ ha (Obj.isFreed_of_fields hd'),Obj.cls_mapFields ..⟩
theorem pq{it:Addr}{α:Type}{h0:Heap}{Q:α->Shared->Prop}(q:dc A s.heap)(k:Heap.ExtBut it h0 s.heap)(kl:∀e oe,A.handled=some (.ref e)->s.heap.get? e=some oe->True)
  (h:∀h' a,Heap.ExtBut it h0 h'->(∃o',h'.get? a=some o'/\o'.cls = .type "StopIteration")->E (.ref a) {s with heap:=h'}):wpAny (model prog w) A (newExc (.type "StopIteration") []>>=fun e=>(raiseNew e:Sem α)) Q E s:=by
 refine wpAny_bind ?_;simp only[newExc,newTuple]
 refine wpAny_bind (wpAny_newObj_type ?_ (by size_fits));refine wpAny_bind (m:=firstArgMember _ _) (wpAny_of_eq (a:=Value.none) (by first|rfl|(simp only[firstArgMember];rfl)) ?_);refine wpAny_newObj_type ?_ (by size_fits)
 have q':∀o1 o2:Obj,dc A ((s.heap.push o1).push o2):=fun o1 o2=>by
  rcases q with q|⟨e,oe,vs,q,he,r⟩
  ·exact .inl q
  ·exact .inr ⟨e,oe,vs,q,Heap.get?_push_of_some _ (Heap.get?_push_of_some _ he),r⟩
 refine oP (q' _ _) (Heap.get?_push_size _ rfl) rfl (by rw[Array.size_append];exact lt_of_lt_of_le (by decide:2<6) (le_add_right _ _)) (fun e oe hq he z=>?_) fun h' hx ⟨o',ho',hc'⟩=>h h' _ (fun b o hb e=>hx b o ?_ (Heap.get?_push_of_some _ (Heap.get?_push_of_some _ (k b o hb e)))) ⟨o',ho',hc'⟩
 ·rcases q with q|⟨e1,oe1,vs,q,he1,r⟩
  ·rw[q] at hq;cases hq
  ·rw[q] at hq;cases hq
   exact absurd (Heap.lt_size he1) (by rw[z];simp)
 ·exact ne_of_lt (lt_of_lt_of_le (Heap.lt_size (k b o hb e)) (by simp))
theorem kG{it:Addr}{o:Obj}{ws:Array Value}{f:Array Value->Array Value}(q:dc A s.heap)(ho:s.heap.get? it=some o)(hd:o.data = .fields ws)(hn:∀e,A.handled=some (.ref e)->e≠it):dc A (s.heap.update it (Obj.mapFields f)):=by
 rcases q with q|⟨e,oe,vs,q,he,r⟩
 ·exact .inl q
 ·exact .inr ⟨e,oe,vs,q,by rw[Heap.get?_update_other _ _ (Ne.symm (hn e q))];exact he,r⟩
theorem pV{it l:Addr}{i:Nat}{items}{Q:Option Value->Shared->Prop}(q:dc A s.heap)(hn:∀e,A.handled=some (.ref e)->e≠it)(hit:s.heap.IsListIter it l i)(hl:s.heap.IsList l items)(hx:items[i]? = none)
  (hQ:∀h',Heap.ExtBut it s.heap h'->Q none {s with heap:=h'}):wpAny (model prog w) A (pyNext (.ref it)) Q E s:=by
 obtain⟨o,ho,hc,hd⟩:=id hit
 obtain⟨ol,hol,_,nl,hdl⟩:=hl;unfold pyNext
 refine wpAny_bind (wpAny_attempt (wpAny_callSpecial?_slot (name:=Str.ofString "__next__") hit.typeIs slot_listiter_next (wpAny_call_entry slot_listiter_next hit.typeIs entry_listiter_next ?_ (args_listiter_next _))))
 show wpAny _ _ (field (.ref it) 0>>=_) _ _ s;refine wpAny_bind (wpAny_field ho hd (x:=.ref l) rfl ?_)
 show wpAny _ _ (if (Value.ref l==Value.none)=true then _ else _) _ _ s;rw[if_neg (show ¬ ((Value.ref l==Value.none)=true) from Bool.false_ne_true)]
 show wpAny _ _ (field (.ref it) 1>>=_) _ _ s;refine wpAny_bind (wpAny_field ho hd (x:=.int i 0) rfl ?_)
 show wpAny _ _ (seqItems? (.ref l)>>=_) _ _ s;refine wpAny_bind (wpAny_seqItems hol hdl ?_);simp only[Int.toNat_natCast,hx]
 refine wpAny_bind (wpAny_rule (wpAny_bind (wpAny_setField ho hd (by simp) ?_)))
 refine pq (it:=it) (h0:=s.heap) (A:=A.in1) (kG (A:=A.in1) q ho hd hn) (Heap.SameBut.update ..).extBut (fun _ _ _ _=>trivial) fun h' a hx' hq0=>?_
 obtain⟨o',ho',hc'⟩:=hq0
 refine wpAny_bind (wpAny_isInstance (T:="StopIteration") (b:=true) ⟨_,ho',hc'⟩ isSubtype_stop ?_);exact wpAny_pure (hQ _ hx')
theorem ki{it t:Addr}{i:Nat}{items}{Q:Option Value->Shared->Prop}(q:dc A s.heap)(hn:∀e,A.handled=some (.ref e)->e≠it)(hit:IsTupIter s.heap it t i)(ht:IsTup s.heap t items)(hx:items[i]? = none)
  (hQ:∀h',Heap.ExtBut it s.heap h'->Q none {s with heap:=h'}):wpAny (model prog w) A (pyNext (.ref it)) Q E s:=by
 obtain⟨o,ho,hc,hd⟩:=id hit
 obtain⟨ol,hol,_,nl,hdl⟩:=ht;unfold pyNext
 refine wpAny_bind (wpAny_attempt (wpAny_callSpecial?_slot (name:=Str.ofString "__next__") hit.typeIs slot_tupleiter_next (wpAny_call_entry slot_tupleiter_next hit.typeIs entry_tupleiter_next ?_ (args_tupleiter_next _))))
 show wpAny _ _ (field (.ref it) 0>>=_) _ _ s;refine wpAny_bind (wpAny_field ho hd (x:=.ref t) rfl ?_)
 show wpAny _ _ (if (Value.ref t==Value.none)=true then _ else _) _ _ s;rw[if_neg (show ¬ ((Value.ref t==Value.none)=true) from Bool.false_ne_true)]
 show wpAny _ _ (field (.ref it) 1>>=_) _ _ s;refine wpAny_bind (wpAny_field ho hd (x:=.int i 0) rfl ?_)
 show wpAny _ _ (seqItems? (.ref t)>>=_) _ _ s;refine wpAny_bind (wpAny_seqItems hol hdl ?_);simp only[Int.toNat_natCast,hx]
 refine wpAny_bind (wpAny_rule (wpAny_bind (wpAny_setField ho hd (by simp) ?_)))
 refine pq (it:=it) (h0:=s.heap) (A:=A.in1) (kG (A:=A.in1) q ho hd hn) (Heap.SameBut.update ..).extBut (fun _ _ _ _=>trivial) fun h' a hx' hq0=>?_
 obtain⟨o',ho',hc'⟩:=hq0
 refine wpAny_bind (wpAny_isInstance (T:="StopIteration") (b:=true) ⟨_,ho',hc'⟩ isSubtype_stop ?_);exact wpAny_pure (hQ _ hx')
theorem qc{env:Env}{elts:List Expr}{x1}{pos:Pos}{t:Addr}{items:Array Value}{Q:Unit->Shared->Prop}(q:dc A s.heap)(ht:IsTup s.heap t items)(hn:(assignEach elts env).length=items.size)
  (hstar:(assignEach elts env).findIdx? (·.1)=none) (h:∀h',Heap.ExtBut s.heap.objs.size s.heap h'->wpAny (model prog w) A (assignInOrder ((assignEach elts env).map (·.2)) items.toList) Q E {s with heap:=h'}) :
  wpAny (model prog w) A (assign (.Tuple elts x1 pos) env (.ref t)) Q E s:=by
 rw[assign_Tuple]
 refine wpAny_bind (wpAny_standAt ?_)
 unfold unpack;rw[hn,hstar]
 refine wpAny_bind (wpAny_holding ?_)
 have hlt:t≠s.heap.objs.size:=by obtain⟨o,ho,_⟩:=ht;exact ne_of_lt (Heap.lt_size ho)
 unfold unpackItems;refine wpAny_bind ?_
 unfold notIterableAtAll;refine wpAny_bind (wpAny_specialOf ht.typeIs slot_tuple_iter.lookup ?_);refine wpAny_pure ?_;simp only[false_eq_true,if_false]
 refine wpAny_bind (wpAny_holding (iter_tuple ht ?_))
 refine wpAny_bind (wpAny_holding (draw_tuple hlt items.size 0 _ _ ⟨_,Heap.get?_push_size _ rfl,rfl,rfl⟩ (ht.push _) ∅ fun io o0 mo=>?_))
 rw[show List.take items.size (List.drop 0 items.toList)=items.toList from by rw[List.drop_zero];exact List.take_of_length_le (by simp),if_neg (by simp)]
 have fr:∀e,A.handled=some (.ref e)->e≠s.heap.objs.size:=fun e hq=>by
  rcases q with q|⟨e1,oe1,vs,q,he1,r⟩
  ·rw[q] at hq;cases hq
  ·rw[q] at hq;cases hq;exact ne_of_lt (Heap.lt_size he1)
 have q1:dc A io:=by
  rcases q with q|⟨e,oe,vs,q,he,r⟩
  ·exact .inl q
  ·exact .inr ⟨e,oe,vs,q,mo.extBut e oe (fr e q) (Heap.get?_push_of_some _ he),r⟩
 refine wpAny_bind (wpAny_holding (ki q1 fr o0 ((ht.push _).extBut mo.extBut hlt) (by simp) fun sn pd=>?_));simp only[Option.isSome_none,false_eq_true,if_false]
 exact wpAny_pure (h sn fun b o hb e=>pd b o hb (mo.extBut b o hb (Heap.get?_push_of_some _ e)))
end
end L2
namespace L2
open PySem PySem.Spec PyProof.Rows
noncomputable abbrev Key:=Sum Int Str
noncomputable def D5:Key->Value->Bool
 |.inl k,v=>Value.isInt k v
 |.inr x,v=>Value.isStrOf x v
noncomputable def K3(w:World):Key->Int
 |.inl k=>hashInt k
 |.inr x=>hashStr w x
theorem bh:∀{k:Key} {v:Value},D5 k v=true->(∃i t,k=Sum.inl i/\v=Value.int i t)\/(∃x t,k=Sum.inr x/\v=Value.str x t)
 |.inl i,v,h=>by
  obtain⟨t,e⟩:=Value.isInt_shape (k:=i) (v:=v) h
  exact .inl ⟨i,t,rfl,e⟩
 |.inr x,v,h=>by
  obtain⟨t,e⟩:=Value.isStrOf_shape (x:=x) (v:=v) h
  exact .inr ⟨x,t,rfl,e⟩
theorem Hi(a b:Int):decide ((Sum.inl a:Key)=Sum.inl b)=(a==b):=by
 by_cases e:a=b
 ·subst e;simp
 ·have h:¬ (Sum.inl a:Key)=Sum.inl b:=fun q=>e (Sum.inl.inj q)
  rw[decide_eq_false h]
  exact (beq_eq_false_iff_ne.mpr e).symm
theorem FC(a b:Str):decide ((Sum.inr a:Key)=Sum.inr b)=decide (a=b):=by
 by_cases e:a=b
 ·subst e;simp
 ·have h:¬ (Sum.inr a:Key)=Sum.inr b:=fun q=>e (Sum.inr.inj q)
  rw[decide_eq_false h,decide_eq_false e]
theorem HQ(a:Int)(b:Str):decide ((Sum.inl a:Key)=Sum.inr b)=false:=decide_eq_false (fun q=>nomatch q)
theorem HZ(a:Str)(b:Int):decide ((Sum.inr a:Key)=Sum.inl b)=false:=decide_eq_false (fun q=>nomatch q)
noncomputable def tm(prog:Program)(w:World):PySem.KeyKind prog w Key where
 is:=D5
 hash:=K3 w
 inj:=fun v a b ha hb=>by
  rcases bh ha with ⟨i,t,rfl,rfl⟩|⟨x,t,rfl,rfl⟩
  ·rcases bh hb with ⟨j,u,rfl,e⟩|⟨y,u,rfl,e⟩
   ·injection e with e1 _;rw[e1]
   ·exact nomatch e
  ·rcases bh hb with ⟨j,u,rfl,e⟩|⟨y,u,rfl,e⟩
   ·exact nomatch e
   ·injection e with e1 _;rw[e1]
 byValue:=fun k v h=>by
  rcases bh h with ⟨i,t,rfl,rfl⟩|⟨x,t,rfl,rfl⟩<;>rfl
 pyHash:=fun hv h=>by
  rcases bh hv with ⟨i,t,rfl,rfl⟩|⟨x,t,rfl,rfl⟩
  ·exact wpAny_pyHash_int h
  ·exact wpAny_pyHash_str h
 eqBool:=fun hu hv h=>by
  rcases bh hu with ⟨i,t,rfl,rfl⟩|⟨x,t,rfl,rfl⟩
  ·rcases bh hv with ⟨j,u,rfl,rfl⟩|⟨y,u,rfl,rfl⟩
   ·rw[Hi] at h;exact wpAny_eqBool_int h
   ·rw[HQ] at h;exact SeqAt.EqAt.int_str i t y u _ _ _ _ h
  ·rcases bh hv with ⟨j,u,rfl,rfl⟩|⟨y,u,rfl,rfl⟩
   ·rw[HZ] at h;exact SeqAt.EqAt.str_int x t j u _ _ _ _ h
   ·rw[FC] at h;exact wpAny_eqBool_str h
 «strs»:=fun k x t v h=>by
  rcases bh h with ⟨i,u,rfl,e⟩|⟨y,u,rfl,e⟩
  ·exact nomatch e
  ·injection e with e1 _
   subst e1
   cases v<;>rfl
end L2
namespace L2
open PySem PySem.Spec PyProof.Rows
inductive V where
 |non|bl (b:Bool)|int (i:Int)|str (x:Str)|byt (b:Array UInt8)|flt (b:UInt64)|ref (a:Addr)|ty (n:String)
 deriving DecidableEq
noncomputable def RelV:V->Value->Prop
 |.non,u=>u=Value.none
 |.bl b,u=>u=Value.bool b
 |.int i,u=>∃t,u=Value.int i t
 |.str x,u=>∃t,u=Value.str x t
 |.byt b,u=>∃t,u=Value.bytes b t
 |.flt b,u=>∃t,u=Value.float b t
 |.ref a,u=>u=Value.ref a
 |.ty n,u=>u=Value.type n
noncomputable abbrev Vals:List V->List Value->Prop:=Paired RelV
theorem Vals.length{xs:List V}{us:List Value}(r:Vals xs us):xs.length=us.length:=Paired.length r
theorem Vals.get:∀{xs:List V} {us:List Value} {i:Nat} {x:V},Vals xs us->xs[i]? = some x->∃u,us[i]? = some u/\RelV x u
 |_,_,_,_,.nil,e=>by simp at e
 |_,_,0,_,.cons r _,e=>by simp at e;subst e;exact⟨_,rfl,r⟩
 |_,_,i+1,x,.cons _ t,e=>by
  obtain⟨u,h1,h2⟩:=Vals.get (i:=i) (x:=x) t (by simpa using e)
  exact⟨u,by simpa using h1,h2⟩
theorem Vals.set{x:V}{u:Value}(r:RelV x u):∀{xs:List V} {us:List Value} (i:Nat),Vals xs us->Vals (xs.set i x) (us.set i u)
 |_,_,_,.nil=>.nil
 |_,_,0,.cons _ t=>.cons r t
 |_,_,i+1,.cons q t=>.cons q (Vals.set r i t)
theorem Vals.append:∀{xs ys:List V} {us ws:List Value},Vals xs us->Vals ys ws->Vals (xs++ys) (us++ws)
 |_,_,_,_,.nil,s=>s
 |_,_,_,_,.cons r t,s=>.cons r (Vals.append t s)
theorem Vals.take:∀{xs:List V} {us:List Value} (n:Nat),Vals xs us->Vals (xs.take n) (us.take n)
 |_,_,0,_=>.nil
 |_,_,_+1,.nil=>.nil
 |_,_,n+1,.cons r t=>.cons r (Vals.take n t)
theorem Vals.drop:∀{xs:List V} {us:List Value} (n:Nat),Vals xs us->Vals (xs.drop n) (us.drop n)
 |_,_,0,r=>r
 |_,_,_+1,.nil=>.nil
 |_,_,n+1,.cons _ t=>Vals.drop n t
noncomputable def IW:Option V->Option Value->Prop
 |some v,some u=>RelV v u
 |none,none=>True
 |_,_=>False
noncomputable def KV{κ:Type}:List (κ×V)->List (κ×Value)->Prop:=Paired fun (p:κ×V) (q:κ×Value)=>p.1=q.1/\RelV p.2 q.2
noncomputable def kV:Key->V
 |.inl i=>.int i
 |.inr x=>.str x
inductive HO where
  /-- a list -/
 |lst (xs:List V)
  /-- a tuple (never changes) -/
 |tup (xs:List V)
  /-- a dict whose keys are ints and texts; one whose keys are tuples of ints and texts (the empty one is both) -/
 |dK (kvs:List (Key×V))|dT (kvs:List (List Key×V))
  /-- a set of ints: its members, its size -/
 |set (S:Int->Bool) (n:Nat)
  /-- an instance of the class at C, its dict at dx, its attributes -/
 |ins (C dx:Addr) (fs:List (Str×V))
  /-- the dict of the instance at x -/
 |own (x:Addr)
  /-- the dict of an exception -/
 |xd (fs:List (Str×V))
  /-- a bound method, f of x -/
 |met (f x:Addr)
  /-- a range object lo, lo + 1, .. below hi -/
 |rng (lo hi:Int)
  /-- a thing that is known to the object (the script; a dict while a loop walks it): read, never written while it is so -/
 |frz (o:Obj) (u:HO)
  /-- a code object's table -/
 |tbl (ps:Array Value)
  /-- any other thing, by what is true of its one object (a def of one's own: SetO a S n := HO.ext fun h => ..) -/
 |ext (φ:Heap->Prop)
  /-- the object itself; it may change -/
 |raw (o:Obj)
noncomputable abbrev Hp:=Addr->Option HO
noncomputable def upd(H:Hp)(a:Addr)(o:HO):Hp:=fun b=>if b=a then some o else H b
theorem dO{H:Hp}{a:Addr}{o:HO}:upd H a o a=some o:=by unfold upd;rw[if_pos rfl]
theorem aH{H:Hp}{a b:Addr}{o:HO}(h:b≠a):upd H a o b=H b:=by unfold upd;rw[if_neg h]
theorem aI{H:Hp}{a b:Addr}{o:HO}(h:H a=some o)(h':H b=none):a≠b:=by
 intro e;subst e;rw[h] at h';cases h'
section
variable (P:Program)(w:World)
noncomputable def dD(H:Hp)(h:Heap)(a:Addr):HO->Prop
 |.lst xs=>xs.length<=sizeLine/\∃(its:List Value) (n:Nat),Vals xs its/\h.get? a=some {cls:=.type "list",data:=.seq its.toArray n}
 |.tup xs=>xs.length<=sizeLine/\∃its:List Value,Vals xs its/\IsTup h a its.toArray
 |.dK kvs=>kvs.length<=sizeLine/\(a==sysModules)=false/\∃vs,KV kvs vs/\h.DictOf (tm P w) a vs
 |.dT kvs=>kvs.length<=sizeLine/\(a==sysModules)=false/\∃xs:List (List Key×Addr×Value),
   Paired (fun (p:List Key×V) (q:List Key×Addr×Value)=>p.1=q.1/\H q.2.1=some (.tup (p.1.map kV))/\RelV p.2 q.2.2) kvs xs /\
   ∃o es ep,h.get? a=some o/\o.ExactDict/\o.data = .dict es ep/\es.toList=xs.map (entryOfKey (tupleKind (tm P w)))/\(xs.map (·.1)).Nodup
 |.set S n=>h.SetOf (intKind P w) a S n
 |.ins C dx fs=>H dx=some (.own a)/\fs.length<=1000/\dx≠a/\h.get? a=some (PySem.W.instObj C dx) /\
   ∃mA,h.Ns1 dx mA/\(∀f,IW (fs.lookup f) (mA f))/\PySem.Within mA (fs.map (·.1))
 |.own _=>∃o,h.get? a=some o
 |.xd fs=>∃mA,h.Ns1 a mA/\∀f,IW (fs.lookup f) (mA f)
 |.rng lo hi=>∃t u v,h.get? a=some {cls:=.type "range",data:=.fields #[.int lo t,.int hi u,.int 1 v]}
 |.frz o u=>h.get? a=some o/\dD H h a u
 |.tbl ps=>h.get? a=some {cls:=.none,data:=.fields ps}
 |.met f x=>h.get? a=some (PySem.W.methodObj (.ref f) (.ref x))
 |.ext φ=>φ h/\(∃o,h.get? a=some o)/\∀h1 h2:Heap,φ h1->(∀o,h1.get? a=some o->h2.get? a=some o)->φ h2
 |.raw o=>h.get? a=some o
noncomputable def HOk(H:Hp)(h:Heap):Prop:=∀a o,H a=some o->dD P w H h a o
end
section
variable {P:Program}{w:World}{H H':Hp}{h h':Heap}{a:Addr}{o:HO}
theorem dD.lt(x:dD P w H h a o):a<h.objs.size:=by
 cases o with
 |lst xs=>obtain⟨_,_,_,_,e⟩:=x;exact Heap.lt_size e
 |tup xs=>obtain⟨_,_,_,p⟩:=x;exact p.lt
 |dK kvs=>obtain⟨_,_,_,_,o,_,_,e,_⟩:=x;exact Heap.lt_size e
 |dT kvs=>obtain⟨_,_,_,_,o,_,_,e,_⟩:=x;exact Heap.lt_size e
 |set S n=>obtain⟨o,_,_,_,e,_⟩:=x;exact Heap.lt_size e
 |ins C dx fs=>obtain⟨_,_,_,e,_⟩:=x;exact Heap.lt_size e
 |own y=>obtain⟨_,e⟩:=x;exact Heap.lt_size e
 |xd fs=>obtain⟨_,⟨_,_,_,e,_⟩,_⟩:=x;exact Heap.lt_size e
 |rng lo hi=>obtain⟨_,_,_,e⟩:=x;exact Heap.lt_size e
 |frz ob u=>obtain⟨e,_⟩:=x;exact Heap.lt_size e
 |tbl ps=>exact Heap.lt_size (show h.get? a=some _ from x)
 |met f y=>exact Heap.lt_size (show h.get? a=some _ from x)
 |ext φ=>obtain⟨_,⟨_,e⟩,_⟩:=x;exact Heap.lt_size e
 |raw ob=>exact Heap.lt_size (show h.get? a=some ob from x)
theorem Paired.B5{α β:Type}{F G:α->β->Prop}:∀{np:List α} {l₂:List β},Paired F np l₂->(∀a b,F a b->G a b)->Paired G np l₂
 |_,_,.nil,_=>.nil
 |_,_,.cons r t,f=>.cons (f _ _ r) (Paired.B5 t f)
theorem dD.sr(x:dD P w H h a o)(k:∀b u,(b=a\/H b=some (.own a))->h.get? b=some u->h'.get? b=some u)
  (ho:∀b,H b=some (.own a)->H' b=some (.own a)) (ht:∀b xs,H b=some (.tup xs)->H' b=some (.tup xs)):dD P w H' h' a o:=by
 induction o with
 |lst xs=>obtain⟨z,its,n,r,e⟩:=x;exact⟨z,its,n,r,k _ _ (.inl rfl) e⟩
 |tup xs=>obtain⟨z,its,r,ob,e,c⟩:=x;exact⟨z,its,r,ob,k _ _ (.inl rfl) e,c⟩
 |dK kvs=>obtain⟨z,y,vs,r,ob,es,ep,e,c⟩:=x;exact⟨z,y,vs,r,ob,es,ep,k _ _ (.inl rfl) e,c⟩
 |dT kvs=>
  obtain⟨z,y,xs,r,ob,es,ep,e,c⟩:=x
  exact⟨z,y,xs,Paired.B5 r fun p q z=>⟨z.1,ht _ _ z.2.1,z.2.2⟩,ob,es,ep,k _ _ (.inl rfl) e,c⟩
 |set S n=>obtain⟨ob,es,ep,t,e,c⟩:=x;exact⟨ob,es,ep,t,k _ _ (.inl rfl) e,c⟩
 |ins C dx fs=>
  obtain⟨d,z,ne,e,mA,⟨od,es,ep,e2,c⟩,r⟩:=x
  exact⟨ho _ d,z,ne,k _ _ (.inl rfl) e,mA,⟨od,es,ep,k _ _ (.inr d) e2,c⟩,r⟩
 |own y=>obtain⟨ob,e⟩:=x;exact⟨ob,k _ _ (.inl rfl) e⟩
 |xd fs=>obtain⟨mA,⟨od,es,ep,e,c⟩,r⟩:=x;exact⟨mA,⟨od,es,ep,k _ _ (.inl rfl) e,c⟩,r⟩
 |rng lo hi=>obtain⟨t,u,v,e⟩:=x;exact⟨t,u,v,k _ _ (.inl rfl) e⟩
 |frz ob u ih=>obtain⟨e,q⟩:=x;exact⟨k _ _ (.inl rfl) e,ih q⟩
 |tbl ps=>
  have e:h.get? a=some {cls:=.none,data:=.fields ps}:=x
  show h'.get? a=some {cls:=.none,data:=.fields ps}
  exact k a _ (.inl rfl) e
 |met f y=>
  have e:h.get? a=some (PySem.W.methodObj (.ref f) (.ref y)):=x
  show h'.get? a=some (PySem.W.methodObj (.ref f) (.ref y))
  exact k a _ (.inl rfl) e
 |raw ob=>
  have e:h.get? a=some ob:=x
  show h'.get? a=some ob
  exact k a _ (.inl rfl) e
 |ext φ=>obtain⟨p,⟨o,e⟩,st⟩:=x;exact⟨st _ _ p fun o q=>k _ _ (.inl rfl) q,⟨o,k _ _ (.inl rfl) e⟩,st⟩
theorem HOk.lt(x:HOk P w H h)(e:H a=some o):a<h.objs.size:=(x a o e).lt
theorem HOk.fresh(x:HOk P w H h)(e:h.objs.size<=a):H a=none:=by
 cases q:H a with
 |none=>rfl
 |some u=>exact absurd (lt_of_lt_of_le (x.lt q) e) (lt_irrefl _)
theorem HOk.kept(x:HOk P w H h)(k:∀b u,h.get? b=some u->h'.get? b=some u):HOk P w H h':=fun a o e=>
 (x a o e).sr (fun b u _ q=>k b u q) (fun _ q=>q) fun _ _ q=>q
theorem HOk.laid(x:HOk P w H h)(k:∀b u,h.get? b=some u->h'.get? b=some u)(hp:h.objs.size<=a)(new:dD P w (upd H a o) h' a o):HOk P w (upd H a o) h':=fun b u e=>by
 have hn:=x.fresh hp
 by_cases hb:b=a
 ·subst hb;rw[dO] at e;cases e;exact new
 ·rw[aH hb] at e
  exact (x b u e).sr (fun c v _ q=>k c v q) (fun c q=>by rw[aH (aI q hn)];exact q) fun c xs q=>by rw[aH (aI q hn)];exact q
end
noncomputable def Rd(H:Hp)(a:Addr)(u:HO):Prop:=H a=some u\/∃o,H a=some (.frz o u)
theorem Rd.ok{P:Program}{w:World}{H:Hp}{h:Heap}{a:Addr}{u:HO}(r:Rd H a u)(x:HOk P w H h):dD P w H h a u:=by
 rcases r with r|⟨o,r⟩
 ·exact x a u r
 ·obtain⟨_,q⟩:=x a _ r
  exact q
noncomputable def Mut:Option HO->Prop
 |some (.lst _)=>True
 |some (.dK _)=>True
 |some (.dT _)=>True
 |some (.set _ _)=>True
 |some (.ins _ _ _)=>True
 |some (.ext _)=>True
 |some (.raw _)=>True
 |_=>False
section
variable {P:Program}{w:World}{H:Hp}{h h':Heap}{x e:Addr}{o':HO}
theorem HOk.write(ok:HOk P w H h)(mu:Mut (H x))(he:e=x\/H e=some (.own x))(k:∀b u,b≠e->h.get? b=some u->h'.get? b=some u)(heo:∃u,h'.get? e=some u)
  (new:dD P w (upd H x o') h' x o'):HOk P w (upd H x o') h':=fun b u q=>by
 have nown:∀c y,H c=some (.own y)->c≠x:=fun c y r z=>by subst z;rw[r] at mu;exact mu
 have ntup:∀c xs,H c=some (.tup xs)->c≠x:=fun c xs r z=>by subst z;rw[r] at mu;exact mu
 by_cases hb:b=x
 ·subst hb;rw[dO] at q;cases q;exact new
 ·rw[aH hb] at q
  by_cases hbe:b=e
  ·have q':H b=some (.own x):=by
    rcases he with z|z
    ·exact absurd (hbe.trans z) hb
    ·rw[hbe];exact z
   rw[q] at q';cases q'
   obtain⟨v,hv⟩:=heo
   exact⟨v,by rw[hbe];exact hv⟩
  ·refine (ok b u q).sr (fun c v hc r=>k c v ?_ r) (fun c r=>by rw[aH (nown c b r)];exact r) fun c xs r=>by rw[aH (ntup c xs r)];exact r
   rcases hc with rfl|hc
   ·exact hbe
   ·rintro rfl
    rcases he with z|z
    ·exact nown c b hc z
    ·rw[hc] at z;cases z;exact hb rfl
end
structure Un(fs ex:List Addr)(H H':Hp)(h h':Heap):Prop where
 keep:∀b o,h.get? b=some o->H b=none->b ∉ fs->b ∉ ex->h'.get? b=some o
 slot:∀b o,h.get? b=some o->H b=none->b∈fs->b ∉ ex->∃sl,h'.get? b=some {o with slots:=sl}
 free:∀b o,h.get? b=some o->H b=none->b ∉ ex->H' b=none
 there:∀b o,h.get? b=some o->b ∉ ex->∃o',h'.get? b=some o'
 mC:∀b xs,H b=some (.tup xs)->H' b=some (.tup xs)
 lF:∀b o u,H b=some (.frz o u)->H' b=some (.frz o u)
 lK:∀b ps,H b=some (.tbl ps)->∃more,H' b=some (.tbl (ps++more))
section
variable {fs fs' ex ex':List Addr}{H H1 H2:Hp}{h h1 h2 h':Heap}{a x e:Addr}{o:HO}
theorem Un.any(u:Un fs ex H H1 h h1){b:Addr}{ob:Obj}(q:h.get? b=some ob)(n:H b=none)(hx:b ∉ ex):∃sl,h1.get? b=some {ob with slots:=sl}:=by
 by_cases hb:b∈fs
 ·exact u.slot b ob q n hb hx
 ·exact⟨ob.slots,u.keep b ob q n hb hx⟩
theorem Un.trans(a:Un fs ex H H1 h h1)(b:Un fs ex H1 H2 h1 h2):Un fs ex H H2 h h2 where
 keep:=fun c ob q n hc hx=>b.keep c ob (a.keep c ob q n hc hx) (a.free c ob q n hx) hc hx
 slot:=fun c ob q n hc hx=>by
  obtain⟨sl,e1⟩:=a.slot c ob q n hc hx
  obtain⟨sl',e2⟩:=b.slot c _ e1 (a.free c ob q n hx) hc hx
  exact⟨sl',e2⟩
 free:=fun c ob q n hx=>by
  obtain⟨o',e1⟩:=a.there c ob q hx
  exact b.free c o' e1 (a.free c ob q n hx) hx
 there:=fun c ob q hx=>by
  obtain⟨o',e1⟩:=a.there c ob q hx
  exact b.there c o' e1 hx
 mC:=fun c xs q=>b.mC c xs (a.mC c xs q)
 lF:=fun c ob xs q=>b.lF c ob xs (a.lF c ob xs q)
 lK:=fun c ps q=>by
  obtain⟨m1,e1⟩:=a.lK c ps q
  obtain⟨m2,e2⟩:=b.lK c _ e1
  exact⟨m1++m2,by rw[e2,Array.append_assoc]⟩
theorem Un.kept(k:∀b u,h.get? b=some u->h'.get? b=some u):Un fs ex H H h h':=
 ⟨fun b ob q _ _ _=>k b ob q,fun b ob q _ _ _=>⟨ob.slots,k b ob q⟩,fun _ _ _ n _=>n,fun b ob q _=>⟨ob,k b ob q⟩,fun _ _ q=>q,fun _ _ _ q=>q,fun _ ps q=>⟨#[],by rw[q];simp⟩⟩
theorem Un.refl:Un fs ex H H h h:=Un.kept fun _ _ q=>q
theorem Un.laid(k:∀b u,h.get? b=some u->h'.get? b=some u)(hp:h.objs.size<=a)(hn:H a=none):Un fs ex H (upd H a o) h h' where
 keep:=fun b u q _ _ _=>k b u q
 slot:=fun b u q _ _ _=>⟨u.slots,k b u q⟩
 free:=fun b u q n _=>by rw[aH (ne_of_lt (lt_of_lt_of_le (Heap.lt_size q) hp))];exact n
 there:=fun b u q _=>⟨u,k b u q⟩
 mC:=fun b xs q=>by rw[aH (aI q hn)];exact q
 lF:=fun b u xs q=>by rw[aH (aI q hn)];exact q
 lK:=fun b ps q=>⟨#[],by rw[aH (aI q hn),q];simp⟩
theorem Un.write(mu:Mut (H x))(he:e=x\/H e=some (.own x))(k:∀b u,b≠e->h.get? b=some u->h'.get? b=some u)(heo:∃u,h'.get? e=some u):Un fs ex H (upd H x o) h h':=by
 have hx:∀b,H b=none->b≠x:=fun b n z=>by subst z;rw[n] at mu;exact mu
 have hb:∀b,H b=none->b≠e:=fun b n z=>by
  subst z
  rcases he with r|r
  ·exact hx b n r
  ·rw[n] at r;cases r
 have hm:∀b u,H b=some u->¬ Mut (some u)->b≠x:=fun b u q nm z=>by subst z;rw[q] at mu;exact nm mu
 refine⟨fun b u q n _ _=>k b u (hb b n) q,fun b u q n _ _=>⟨u.slots,k b u (hb b n) q⟩,fun b u q n _=>by rw[aH (hx b n)];exact n,fun b u q _=>?_,
  fun b xs q=>by rw[aH (hm b _ q fun z=>z)];exact q,fun b u xs q=>by rw[aH (hm b _ q fun z=>z)];exact q,fun b ps q=>⟨#[],by rw[aH (hm b _ q fun z=>z),q];simp⟩⟩
 by_cases hbe:b=e
 ·subst hbe;exact heo
 ·exact⟨u,k b u hbe q⟩
end
noncomputable def trk(h:Heap)(H:Hp):List Addr:=(List.range h.objs.size).filter fun a=>(H a).isSome
noncomputable def qm(h:Heap)(H:Hp):Heap:=PySem.W.hideAll h (trk h H)
theorem ym(h:Heap)(H:Hp):(qm h H).objs.size=h.objs.size:=PySem.W.hideAll_size _ _
theorem A0{h:Heap}{H:Hp}{b:Addr}{o:Obj}(e:h.get? b=some o)(n:H b=none):(qm h H).get? b=some o:=
 PySem.W.hideAll_get _ e fun hm=>by
  have q:(H b).isSome=true:=(List.mem_filter.mp hm).2
  rw[n] at q;simp at q
theorem Dy{h:Heap}{H:Hp}{b:Addr}{o:Obj}(e:(qm h H).get? b=some o):h.get? b=some o/\H b=none:=by
 have e':h.get? b=some o:=PySem.W.of_hideAll (trk h H) e
 refine⟨e',?_⟩
 cases q:H b with
 |none=>rfl
 |some x=>
  have hm:b∈trk h H:=List.mem_filter.mpr ⟨List.mem_range.mpr (Heap.lt_size e'),by simp[q]⟩
  have z:(qm h H).get? b=none:=PySem.W.hideAll_none (trk h H) hm
  rw[z] at e;cases e
noncomputable def C1(g h:Heap)(L:Addr):List (Addr×Obj):=(List.range h.objs.size).filterMap fun a=>if a=L\/(g.get? a).isSome=true then none else (h.get? a).map fun o=>(a,o)
noncomputable def rest(g h:Heap)(L d:Addr):List (Addr×Obj):=(C1 g h L).filter fun p=>decide (p.1≠d)
end L2
namespace L2
open PySem PySem.Spec PyProof.Rows
structure Mod(K:PySem.W.Frag)(mg:Str->Option Value)(base:Heap):Prop where
 kin:K.In base
 glob:base.Ns mainGlobals mg
 blt:∃mb,base.Ns builtinsNs mb/\∀x:Str,x ≠ "__name__"->mb x=bootBuiltins x
 nolimit:base.NoLimit
structure Cx where
 prog:Program
 w:World
 K:PySem.W.Frag
 mg:Str->Option Value
 base:Heap
 A:Around
 N:List Str
 ce:Shared
 H₀:Hp
 env:Env
 outer:List Env
 stack:List Env
 ex:List Addr
 fn:Str->Bool
 calm:Bool
 pn:List (Addr×Obj)
 xe:Value->Shared->Prop
noncomputable def frs(l:List Env):List Addr:=l.filterMap (·.frame)
noncomputable abbrev Cx.fs(X:Cx):List Addr:=frs X.outer
noncomputable def Vis(sc:Scope)(x:Str):Prop:=sc.names.lookup x=some .local\/sc.names.lookup x=some .cell\/sc.names.lookup x=some .free
noncomputable def Loc(sc:Scope)(x:Str):Prop:=sc.names.lookup x=some .local\/sc.names.lookup x=some .cell
noncomputable def Look(env:Env)(h:Heap)(m:Str->Option Value)(x:Str)(u:Value):Prop:=
 (env.kindOf x=some .local/\m x=some u)\/((env.kindOf x=some .cell\/env.kindOf x=some .free)/\∃c,env.cells.lookup x=some c/\h.IsCell c (some u))
structure Cx.Ok(X:Cx):Prop where
 mod:Mod X.K X.mg X.base
 kind:X.env.scope.kind = .function
 glob:X.env.globals=mainGlobals
 blt:X.env.builtins=builtinsNs
 above:X.ce.heap.objs.size<=X.env.locals
 inj:∀x y c,X.env.cells.lookup x=some c->X.env.cells.lookup y=some c->x=y
 has:∀x,(X.env.kindOf x=some .cell\/X.env.kindOf x=some .free)->∃c,X.env.cells.lookup x=some c
 cab:∀x c,X.fn x=true->X.env.cells.lookup x=some c->X.ce.heap.objs.size<=c
 hd:X.calm=true->X.A.handled=none
 qt:X.A.handled=none\/∃(e:Addr) (oe:Obj) (vs:Array Value),X.A.handled=some (.ref e)/\(e,oe)∈X.pn/\oe.data = .fields vs/\vs[2]? = some .none
 frames:X.A.frames=some X.stack
 stk:X.stack=X.outer\/(X.stack=X.env::X.outer/\X.env.frame=some X.env.locals)
 exf:∀b∈X.ex,b≠X.env.locals/\∀x c,X.env.cells.lookup x=some c->c≠b
 bs:∀b o,X.base.get? b=some o->X.ce.heap.get? b=some o/\X.H₀ b=none
 bsz:X.base.objs.size<=X.ce.heap.objs.size
 Bk:∀b o,X.base.get? b=some o->b ∉ X.ex
 BO:∀b∈X.ex,b ∉ X.fs
 oW:X.ce.heap.FunFrames X.base X.outer
 frf:∀b∈X.fs,X.H₀ b=none
structure Inv(X:Cx)(pins:List (Addr×Obj))(O:List (Option V))(H:Hp)(s:Shared):Prop where
 ok:X.Ok
 os:s.os=X.ce.os
 bare:AllBare s.gens
 base:Un X.fs X.ex X.H₀ H X.ce.heap s.heap
 loc:∃m,s.heap.Ns X.env.locals m/\∀(i:Nat) (x:Str) (v:V),X.N[i]? = some x->O[i]? = some (some v)->Vis X.env.scope x->∃u,RelV v u/\Look X.env s.heap m x u
 cell:∀x c,X.env.cells.lookup x=some c->∃v,s.heap.IsCell c v
 free:H X.env.locals=none
 je:∀x c,X.env.cells.lookup x=some c->H c=none
 pin:∀p∈X.pn++pins,s.heap.get? p.1=some p.2/\H p.1=none/\p.1≠X.env.locals/\p.1 ∉ X.fs/\∀v,p.2.data≠.cell v
 hok:HOk X.prog X.w H s.heap
 len:O.length=X.N.length
section
variable {X:Cx}{pins:List (Addr×Obj)}{O:List (Option V)}{H H':Hp}{s:Shared}{h':Heap}
theorem Inv.vB(I:Inv X pins O H s):dc X.A s.heap:=by
 rcases I.ok.qt with q|⟨e,oe,vs,q,hp,r⟩
 ·exact .inl q
 ·exact .inr ⟨e,oe,vs,q,(I.pin (e,oe) (mem_append_left _ hp)).1,r⟩
theorem Inv.hne(I:Inv X pins O H s){b:Addr}(hb:∀p∈X.pn++pins,p.1≠b):∀e,X.A.handled=some (.ref e)->e≠b:=fun e he=>by
 rcases I.ok.qt with q|⟨e1,oe,vs,q,hp,r⟩
 ·rw[q] at he;cases he
 ·rw[q] at he;cases he;exact hb (e,oe) (mem_append_left _ hp)
theorem Cx.Ok.KG(ok:X.Ok){b:Addr}{o:Obj}(e:X.base.get? b=some o):b ∉ X.fs:=fun hb=>by
 have:=(ok.oW.mem hb).1
 rw[e] at this;cases this
theorem Inv.bs(I:Inv X pins O H s):∀b o,X.base.get? b=some o->s.heap.get? b=some o/\H b=none:=fun b o e=>
 ⟨I.base.keep b o (I.ok.bs b o e).1 (I.ok.bs b o e).2 (I.ok.KG e) (I.ok.Bk b o e),I.base.free b o (I.ok.bs b o e).1 (I.ok.bs b o e).2 (I.ok.Bk b o e)⟩
theorem Inv.bk(I:Inv X pins O H s):∀b o,X.base.get? b=some o->s.heap.get? b=some o:=fun b o e=>(I.bs b o e).1
theorem Inv.mod(I:Inv X pins O H s):Mod X.K X.mg X.base:=I.ok.mod
theorem Inv.kIn(I:Inv X pins O H s):X.K.In s.heap:=I.ok.mod.kin.keeps I.bk
theorem Inv.nolimit(I:Inv X pins O H s):s.heap.NoLimit:=I.ok.mod.nolimit.keeps I.bk
theorem Inv.lt(I:Inv X pins O H s):X.env.locals<s.heap.objs.size:=let ⟨_,hn,_⟩:=I.loc;hn.lt
theorem Inv.sz(I:Inv X pins O H s):X.ce.heap.objs.size<=s.heap.objs.size:=le_trans I.ok.above (Nat.le_of_lt I.lt)
theorem Inv.K5(I:Inv X pins O H s){a:Addr}(h:s.heap.objs.size<=a):a ∉ X.fs:=fun hb=>by
 obtain⟨_,o,ho,_⟩:=I.ok.oW.mem hb
 exact absurd (lt_of_lt_of_le (Heap.lt_size ho) (le_trans I.sz h)) (lt_irrefl _)
theorem Inv.cne(I:Inv X pins O H s):∀x c,X.env.cells.lookup x=some c->c≠X.env.locals:=fun x c e z=>by
 obtain⟨v,o,ho,hd⟩:=I.cell x c e
 obtain⟨m,⟨o',es,ep,ho',hd',_⟩,_⟩:=I.loc
 rw[z,ho'] at ho;cases ho;rw[hd'] at hd;cases hd
theorem Inv.oW(I:Inv X pins O H s):s.heap.FunFrames X.base X.outer:=by
 have all:∀(l:List Env),(∀b∈frs l,b∈X.fs)->X.ce.heap.FunFrames X.base l->s.heap.FunFrames X.base l:=by
  intro l
  induction l with
  |nil=>intro _ _;trivial
  |cons env r ih=>
   intro hs hl
   obtain⟨hk,⟨L,o,hf,hn,ho,hd⟩,hr⟩:=hl
   have hL:L∈X.fs:=hs L (by unfold frs;rw[filterMap_cons,hf];exact mem_cons_self)
   obtain⟨sl,e⟩:=I.base.slot L o ho (I.ok.frf L hL) hL fun z=>I.ok.BO L z hL
   exact⟨hk,⟨L,_,hf,hn,e,hd⟩,ih (fun b hb=>hs b (by unfold frs;rw[filterMap_cons,hf];exact mem_cons_of_mem _ hb)) hr⟩
 exact all X.outer (fun _ hb=>hb) I.ok.oW
theorem Inv.stack(I:Inv X pins O H s):s.heap.FunFrames X.base X.stack:=by
 rcases I.ok.stk with e|⟨e,hf⟩
 ·rw[e];exact I.oW
 ·rw[e]
  obtain⟨m,hn,_⟩:=I.loc
  refine .cons (by rw[I.ok.kind];decide) hf hn ?_ I.oW
  exact Heap.get?_none_of_le (le_trans I.ok.bsz I.ok.above)
theorem Inv.sU(I:Inv X pins O H s):∀b∈frs X.stack,b∈X.env.locals::X.fs:=fun b hb=>by
 rcases I.ok.stk with e|⟨e,hf⟩
 ·rw[e] at hb;exact mem_cons_of_mem _ hb
 ·rw[e] at hb
  unfold frs at hb
  rw[filterMap_cons,hf] at hb
  exact hb
theorem Inv.xP(I:Inv X pins O H s):∀b∈frs X.stack,H b=none:=fun b hb=>by
 rcases List.mem_cons.mp (I.sU b hb) with e|hb
 ·rw[e];exact I.free
 ·obtain⟨_,o,ho,_⟩:=I.ok.oW.mem hb
  exact I.base.free b o ho (I.ok.frf b hb) fun z=>I.ok.BO b z hb
theorem Inv.step{g':Array GenState}{t':Nat}{d':Drawn}{ch:List Addr}(I:Inv X pins O H s)
  (hch:∀b∈ch,(b∈X.ex\/X.ce.heap.objs.size<=b)/\b≠X.env.locals/\(∀x c,X.env.cells.lookup x=some c->c≠b)/\∀p∈X.pn++pins,p.1≠b)
  (keep:∀b o,b≠X.env.locals->b ∉ X.fs->b ∉ ch->s.heap.get? b=some o->H b=none->h'.get? b=some o)
  (slot:∀b o,b≠X.env.locals->b∈X.fs->b ∉ ch->s.heap.get? b=some o->H b=none->∃sl,h'.get? b=some {o with slots:=sl}) (free:∀b o,b ∉ ch->s.heap.get? b=some o->H b=none->H' b=none)
  (there:∀b o,b ∉ ch->s.heap.get? b=some o->∃o',h'.get? b=some o')
  (mC:∀b xs,H b=some (.tup xs)->H' b=some (.tup xs)) (lF:∀b o u,H b=some (.frz o u)->H' b=some (.frz o u)) (lK:∀b ps,H b=some (.tbl ps)->∃more,H' b=some (.tbl (ps++more)))
  (ns:∀m,s.heap.Ns X.env.locals m->h'.Ns X.env.locals m) (hok:HOk X.prog X.w H' h') (hg:AllBare g') :
  Inv X pins O H' {s with heap:=h',gens:=g',drawn:=d',toks:=t'}:=by
 have neL:∀b o,X.ce.heap.get? b=some o->b≠X.env.locals:=fun b o e=>ne_of_lt (lt_of_lt_of_le (Heap.lt_size e) I.ok.above)
 have neC:∀b o,X.ce.heap.get? b=some o->b ∉ X.ex->b ∉ ch:=fun b o e hx hb=>by
  rcases (hch b hb).1 with z|z
  ·exact hx z
  ·exact absurd (lt_of_lt_of_le (Heap.lt_size e) z) (lt_irrefl _)
 have cellK:∀x c,X.env.cells.lookup x=some c->∀v,s.heap.IsCell c v->h'.IsCell c v:=fun x c e v ⟨o,ho,hd⟩=>by
  have nch:c ∉ ch:=fun z=>(hch c z).2.2.1 x c e rfl
  by_cases hc:c∈X.fs
  ·obtain⟨sl,q⟩:=slot c o (I.cne x c e) hc nch ho (I.je x c e)
   exact⟨_,q,hd⟩
  ·exact⟨o,keep c o (I.cne x c e) hc nch ho (I.je x c e),hd⟩
 refine⟨I.ok,I.os,hg,⟨fun b o e n hb hx=>?_,fun b o e n hb hx=>?_,fun b o e n hx=>?_,fun b o e hx=>?_,fun b xs e=>mC b xs (I.base.mC b xs e),fun b o xs e=>lF b o xs (I.base.lF b o xs e),fun b ps e=>?_⟩,?_,fun x c e=>?_,?_,fun x c e=>?_,fun p hp=>?_,hok,I.len⟩
 ·exact keep b o (neL b o e) hb (neC b o e hx) (I.base.keep b o e n hb hx) (I.base.free b o e n hx)
 ·obtain⟨sl,e1⟩:=I.base.slot b o e n hb hx
  obtain⟨sl',e2⟩:=slot b _ (neL b o e) hb (neC b o e hx) e1 (I.base.free b o e n hx)
  exact⟨sl',e2⟩
 ·obtain⟨o',e1⟩:=I.base.there b o e hx
  exact free b o' (neC b o e hx) e1 (I.base.free b o e n hx)
 ·obtain⟨o',e1⟩:=I.base.there b o e hx
  exact there b o' (neC b o e hx) e1
 ·obtain⟨m1,e1⟩:=I.base.lK b ps e
  obtain⟨m2,e2⟩:=lK b _ e1
  exact⟨m1++m2,by rw[e2,Array.append_assoc]⟩
 ·obtain⟨m,hn,hl⟩:=I.loc
  refine⟨m,ns m hn,fun i x v e1 e2 e3=>?_⟩
  obtain⟨u,r,l⟩:=hl i x v e1 e2 e3
  refine⟨u,r,?_⟩
  rcases l with l|⟨k,c,e,z⟩
  ·exact .inl l
  ·exact .inr ⟨k,c,e,cellK x c e _ z⟩
 ·obtain⟨v,z⟩:=I.cell x c e
  exact⟨v,cellK x c e v z⟩
 ·obtain⟨m,⟨o,_,_,ho,_⟩,_⟩:=I.loc
  exact free _ o (fun z=>(hch _ z).2.1 rfl) ho I.free
 ·obtain⟨v,o,ho,hd⟩:=I.cell x c e
  exact free c o (fun z=>(hch c z).2.2.1 x c e rfl) ho (I.je x c e)
 ·obtain⟨e,n,ne,nf,d⟩:=I.pin p hp
  have nch:p.1 ∉ ch:=fun z=>(hch p.1 z).2.2.2 p hp rfl
  exact⟨keep p.1 p.2 ne nf nch e n,free p.1 p.2 nch e n,ne,nf,d⟩
theorem Inv.un{t':Nat}(I:Inv X pins O H s)(u:Un X.fs [] H H' s.heap h')(hok:HOk X.prog X.w H' h'):Inv X pins O H' {s with heap:=h',toks:=t'}:=by
 obtain⟨m,⟨o,es,ep,ho,r⟩,_⟩:=id I.loc
 obtain⟨sl,hL⟩:=u.any ho I.free (by simp)
 exact I.step (g':=s.gens) (d':=s.drawn) (ch:=[]) (fun _ z=>nomatch z) (fun b o _ hb _ e n=>u.keep b o e n hb (by simp)) (fun b o _ hb _ e n=>u.slot b o e n hb (by simp)) (fun b o _ e n=>u.free b o e n (by simp)) (fun b o _ e=>u.there b o e (by simp)) u.mC u.lF u.lK (fun m' hm=>by
  obtain⟨o',es',ep',ho',r'⟩:=hm
  rw[ho] at ho';cases ho'
  exact⟨_,es',ep',hL,r'⟩) hok I.bare
theorem Inv.call{g':Array GenState}{t':Nat}{d':Drawn}{ch:List Addr}(I:Inv X pins O H s)(u:Un (frs X.stack) ch H H' s.heap h')(hok:HOk X.prog X.w H' h')(hg:AllBare g')
  (hch:∀b∈ch,(b∈X.ex\/X.ce.heap.objs.size<=b)/\b≠X.env.locals/\(∀x c,X.env.cells.lookup x=some c->c≠b)/\∀p∈X.pn++pins,p.1≠b) :
  Inv X pins O H' {s with heap:=h',gens:=g',drawn:=d',toks:=t'}:=by
 obtain⟨m,⟨o,es,ep,ho,r⟩,_⟩:=id I.loc
 obtain⟨sl,hL⟩:=u.any ho I.free fun z=>(hch _ z).2.1 rfl
 exact I.step (ch:=ch) hch (fun b o hL hb hc e n=>u.keep b o e n (fun z=>(List.mem_cons.mp (I.sU b z)).elim hL hb) hc) (fun b o _ _ hc e n=>u.any e n hc) (fun b o hc e n=>u.free b o e n hc) (fun b o hc e=>u.there b o e hc) u.mC u.lF u.lK (fun m' hm=>by
  obtain⟨o',es',ep',ho',r'⟩:=hm
  rw[ho] at ho';cases ho'
  exact⟨_,es',ep',hL,r'⟩) hok hg
theorem Inv.turned{t':Nat}{it:Addr}(I:Inv X pins O H s)(k:∀b o,b≠it->s.heap.get? b=some o->h'.get? b=some o)(hn:H it=none)(hL:it≠X.env.locals)
  (h1:it∈X.ex\/X.ce.heap.objs.size<=it) (h2:∀x c,X.env.cells.lookup x=some c->c≠it) (h3:∀p∈X.pn++pins,p.1≠it):Inv X pins O H {s with heap:=h',toks:=t'}:=by
 have nit:∀b u,H b=some u->b≠it:=fun b u e z=>by rw[z,hn] at e;cases e
 refine I.step (g':=s.gens) (d':=s.drawn) (ch:=[it]) (fun b hb=>?_) (fun b o _ _ hc e _=>k b o (fun z=>hc (by simp[z])) e) (fun b o _ _ hc e _=>⟨o.slots,k b o (fun z=>hc (by simp[z])) e⟩) (fun _ _ _ _ n=>n)
  (fun b o hc e=>⟨o,k b o (fun z=>hc (by simp[z])) e⟩) (fun _ _ e=>e) (fun _ _ _ e=>e) (fun b ps e=>⟨#[],by rw[e];simp⟩) (fun m hm=>?_) (fun b u e=>?_) I.bare
 ·have e:b=it:=by simpa using hb
  subst e
  exact⟨h1,hL,h2,h3⟩
 ·obtain⟨o,es,ep,ho,r⟩:=hm
  exact⟨o,es,ep,k _ o (Ne.symm hL) ho,r⟩
 ·refine (I.hok b u e).sr (fun c v hc q=>k c v ?_ q) (fun _ q=>q) fun _ _ q=>q
  rcases hc with z|z
  ·rw[z];exact nit b u e
  ·exact nit c _ z
theorem Inv.tok(I:Inv X pins O H s)(t:Nat):Inv X pins O H {s with toks:=t}:=I.un (h':=s.heap) (t':=t) Un.refl I.hok
theorem Inv.kept{t':Nat}(I:Inv X pins O H s)(k:∀b u,s.heap.get? b=some u->h'.get? b=some u):Inv X pins O H {s with heap:=h',toks:=t'}:=I.un (Un.kept k) (I.hok.kept k)
theorem Inv.laid{a:Addr}{o:HO}{t':Nat}(I:Inv X pins O H s)(k:∀b u,s.heap.get? b=some u->h'.get? b=some u)(hp:s.heap.objs.size<=a)(new:dD X.prog X.w (upd H a o) h' a o) :
  Inv X pins O (upd H a o) {s with heap:=h',toks:=t'}:=I.un (Un.laid k hp (I.hok.fresh hp)) (I.hok.laid k hp new)
theorem Inv.write{x e:Addr}{o:HO}{t':Nat}(I:Inv X pins O H s)(mu:Mut (H x))(he:e=x\/H e=some (.own x))(k:∀b u,b≠e->s.heap.get? b=some u->h'.get? b=some u)(heo:∃u,h'.get? e=some u)
  (new:dD X.prog X.w (upd H x o) h' x o):Inv X pins O (upd H x o) {s with heap:=h',toks:=t'}:=I.un (Un.write mu he k heo) (I.hok.write mu he k heo new)
theorem Inv.xX{pins':List (Addr×Obj)}(I:Inv X pins O H s)(h:∀p∈pins',s.heap.get? p.1=some p.2/\H p.1=none/\p.1≠X.env.locals/\p.1 ∉ X.fs/\∀v,p.2.data≠.cell v):Inv X pins' O H s:=
 ⟨I.ok,I.os,I.bare,I.base,I.loc,I.cell,I.free,I.je,fun p hp=>(List.mem_append.mp hp).elim (fun z=>I.pin p (mem_append_left _ z)) (h p),I.hok,I.len⟩
theorem tR{N:List Str}(hN:N.Nodup){i j:Nat}{x:Str}(a:N[i]? = some x)(b:N[j]? = some x):i=j:=by
 obtain⟨h1,e1⟩:=List.getElem?_eq_some_iff.mp a
 obtain⟨h2,e2⟩:=List.getElem?_eq_some_iff.mp b
 exact (List.getElem_inj hN).mp (e1.trans e2.symm)
theorem yB{M:Model}{A:Around}{E:Value->Shared->Prop}{i:Nat}{x:Str}{v:V}{u:Value}{Q:Unit->Shared->Prop}(I:Inv X pins O H s)(hN:X.N.Nodup)(hi:X.N[i]? = some x)(hx:Loc X.env.scope x)(r:RelV v u)
  (h:∀s',Inv X pins (O.set i (some v)) H s'->(∃a,Heap.SameBut a s.heap s'.heap/\(a=X.env.locals\/X.env.cells.lookup x=some a))->Q () s') (hf:X.fn x=true\/X.env.scope.names.lookup x=some .local:=by first|exact .inl rfl|exact .inr rfl|assumption):wpAny M A (storeName X.env x u) Q E s:=by
 obtain⟨m,hn,hl⟩:=id I.loc
 have hcls:(X.env.scope.kind==.class || (X.env.scope.kind==.module&&X.env.locals != X.env.globals))=false:=by rw[I.ok.kind];rfl
 have na:i<O.length:=by rw[I.len];exact (List.getElem?_eq_some_iff.mp hi).1
 have cne:=I.cne
 have tracked:∀{a:Addr} {h':Heap},(∃o,s.heap.get? a=some o/\H a=none)->Heap.SameBut a s.heap h'->HOk X.prog X.w H h':=fun {a h'} ha hs b ob e=>by
  obtain⟨_,_,hfree⟩:=ha
  refine (I.hok b ob e).sr (fun c w' hc q=>(hs.2 c ?_).trans q) (fun _ q=>q) fun _ _ q=>q
  rintro rfl
  rcases hc with rfl|hc
  ·rw[hfree] at e;cases e
  ·rw[hfree] at hc;cases hc
 rcases hx with hk|hk
 ·refine wpAny_storeName_local hk hn (fun h' hn' hs=>?_) hcls
  obtain⟨oL,_,_,hoL,_⟩:=id hn
  refine h _ ⟨I.ok,I.os,I.bare,⟨fun b o e n hb hx=>?_,fun b o e n hb hx=>?_,I.base.free,fun b o e hx=>?_,I.base.mC,I.base.lF,I.base.lK⟩,⟨_,hn',fun j y v' e1 e2 e3=>?_⟩,fun y c e=>?_,I.free,I.je,fun p hp=>?_,tracked ⟨oL,hoL,I.free⟩ hs,by simpa using I.len⟩ ⟨_,hs,.inl rfl⟩
  ·exact (hs.2 b (ne_of_lt (lt_of_lt_of_le (Heap.lt_size e) I.ok.above))).trans (I.base.keep b o e n hb hx)
  ·obtain⟨sl,e1⟩:=I.base.slot b o e n hb hx
   exact⟨sl,(hs.2 b (ne_of_lt (lt_of_lt_of_le (Heap.lt_size e) I.ok.above))).trans e1⟩
  ·obtain⟨o',e1⟩:=I.base.there b o e hx
   exact⟨o',(hs.2 b (ne_of_lt (lt_of_lt_of_le (Heap.lt_size e) I.ok.above))).trans e1⟩
  ·by_cases hj:j=i
   ·subst hj
    rw[hi] at e1;cases e1
    rw[List.getElem?_set_self na] at e2
    cases e2
    exact⟨u,r,.inl ⟨hk,by simp⟩⟩
   ·rw[List.getElem?_set_ne (Ne.symm hj)] at e2
    obtain⟨u',r',q⟩:=hl j y v' e1 e2 e3
    refine⟨u',r',?_⟩
    rcases q with ⟨k,e⟩|⟨k,c,e,z⟩
    ·refine .inl ⟨k,?_⟩
     have:y≠x:=fun e=>hj (tR hN e1 (e▸hi))
     simp[this,e]
    ·exact .inr ⟨k,c,e,z.sameBut hs (cne y c e)⟩
  ·obtain⟨w',z⟩:=I.cell y c e
   exact⟨w',z.sameBut hs (cne y c e)⟩
  ·obtain⟨e,n,ne,nf,d⟩:=I.pin p hp
   exact⟨(hs.2 p.1 ne).trans e,n,ne,nf,d⟩
 ·have hfn:X.fn x=true:=by
   rcases hf with z|z
   ·exact z
   ·rw[z] at hk;cases hk
  obtain⟨c,hc⟩:=I.ok.has x (.inl hk)
  obtain⟨w',z⟩:=I.cell x c hc
  refine wpAny_storeName_cell I.ok.kind hk hc z (fun h' hc' hs=>?_)
  obtain⟨oc,hoc,hocd⟩:=id z
  refine h {s with heap:=h'} ⟨I.ok,I.os,I.bare,⟨fun b o e n hb hx=>?_,fun b o e n hb hx=>?_,I.base.free,fun b o e hx=>?_,I.base.mC,I.base.lF,I.base.lK⟩,⟨m,hn.sameBut hs (Ne.symm (cne x c hc)),fun j y v' e1 e2 e3=>?_⟩,fun y c' e=>?_,I.free,I.je,fun p hp=>?_,tracked ⟨oc,hoc,I.je x c hc⟩ hs,by simpa using I.len⟩ ⟨c,hs,.inr hc⟩
  ·exact (hs.2 b (ne_of_lt (lt_of_lt_of_le (Heap.lt_size e) (I.ok.cab x c hfn hc)))).trans (I.base.keep b o e n hb hx)
  ·obtain⟨sl,e1⟩:=I.base.slot b o e n hb hx
   exact⟨sl,(hs.2 b (ne_of_lt (lt_of_lt_of_le (Heap.lt_size e) (I.ok.cab x c hfn hc)))).trans e1⟩
  ·obtain⟨o',e1⟩:=I.base.there b o e hx
   exact⟨o',(hs.2 b (ne_of_lt (lt_of_lt_of_le (Heap.lt_size e) (I.ok.cab x c hfn hc)))).trans e1⟩
  ·by_cases hj:j=i
   ·subst hj
    rw[hi] at e1;cases e1
    rw[List.getElem?_set_self na] at e2
    cases e2
    exact⟨u,r,.inr ⟨.inl hk,c,hc,hc'⟩⟩
   ·rw[List.getElem?_set_ne (Ne.symm hj)] at e2
    obtain⟨u',r',q⟩:=hl j y v' e1 e2 e3
    refine⟨u',r',?_⟩
    rcases q with q|⟨k,c',e,z'⟩
    ·exact .inl q
    ·refine .inr ⟨k,c',e,z'.sameBut hs ?_⟩
     rintro rfl
     exact hj (tR hN e1 (I.ok.inj _ _ _ e hc▸hi))
  ·by_cases hcc:c'=c
   ·subst hcc;exact⟨_,hc'⟩
   ·obtain⟨w2,z2⟩:=I.cell y c' e
    exact⟨w2,z2.sameBut hs hcc⟩
  ·obtain⟨e,n,ne,nf,d⟩:=I.pin p hp
   refine⟨(hs.2 p.1 ?_).trans e,n,ne,nf,d⟩
   intro q
   rw[q,hoc] at e
   have q':oc=p.2:=Option.some.inj e
   exact d w' (by rw[<- q'];exact hocd)
theorem fx{M:Model}{A:Around}{E:Value->Shared->Prop}{i:Nat}{x:Str}{v:V}{u:Value}{Q:Unit->Shared->Prop}(I:Inv X pins O H s)(hN:X.N.Nodup)(hi:X.N[i]? = some x)(hx:Loc X.env.scope x)(r:RelV v u)
  (h:∀s',Inv X pins (O.set i (some v)) H s'->Q () s') (hf:X.fn x=true\/X.env.scope.names.lookup x=some .local:=by first|exact .inl rfl|exact .inr rfl|assumption):wpAny M A (storeName X.env x u) Q E s:=
 yB I hN hi hx r (fun s' I' _=>h s' I') hf
theorem Inv.D0{s':Shared}{ch:List Addr}(I:Inv X pins O H s)(ho:s'.os=s.os)(u:Un (frs X.stack) ch H H' s.heap s'.heap)(hok:HOk X.prog X.w H' s'.heap)(hg:AllBare s'.gens)
  (hch:∀b∈ch,(b∈X.ex\/X.ce.heap.objs.size<=b)/\b≠X.env.locals/\(∀x c,X.env.cells.lookup x=some c->c≠b)/\∀p∈X.pn++pins,p.1≠b):Inv X pins O H' s':=by
 obtain⟨h',g',d',t',o'⟩:=s'
 have e:o'=s.os:=ho
 subst e
 exact I.call (g':=g') (t':=t') (d':=d') u hok hg hch
end
noncomputable abbrev XK:=Value->Option Addr->Hp->Prop
noncomputable abbrev St:=List (Option V)
noncomputable abbrev VK:=V->Hp->Prop
noncomputable abbrev TE:=St->Hp->VK->Prop
noncomputable abbrev TT:=St->Hp->(Bool->Hp->Prop)->Prop
noncomputable abbrev TA:=St->Hp->(List V->Hp->Prop)->Prop
structure Ends where
 nx:St->Hp->Prop
 rt:VK
 bk:St->Hp->Prop:=fun _ _=>False
 ct:St->Hp->Prop:=fun _ _=>False
noncomputable abbrev TS:=Ends->St->Hp->Prop
noncomputable def EP(X:Cx)(pins:List (Addr×Obj))(O:St)(Q:VK)(u:Value)(s':Shared):Prop:=∃v H',Inv X pins O H' s'/\RelV v u/\Q v H'
noncomputable def TP(X:Cx)(pins:List (Addr×Obj))(O:St)(Q:Bool->Hp->Prop)(b:Bool)(s':Shared):Prop:=∃H',Inv X pins O H' s'/\Q b H'
noncomputable def AP(X:Cx)(pins:List (Addr×Obj))(O:St)(Q:List V->Hp->Prop)(us:List Value)(s':Shared):Prop:=∃vs H',Inv X pins O H' s'/\Vals vs us/\Q vs H'
noncomputable def SP(X:Cx)(pins:List (Addr×Obj))(D:Ends)(f:Flow)(s':Shared):Prop:=
 match f with
 |.next=>∃al H',Inv X pins al H' s'/\D.nx al H'
 |.brk=>∃al H',Inv X pins al H' s'/\D.bk al H'
 |.cont=>∃al H',Inv X pins al H' s'/\D.ct al H'
 |.ret u=>∃v al H',Inv X pins al H' s'/\RelV v u/\D.rt v H'
noncomputable def PE(X:Cx)(e:Expr)(t:TE):Prop:=
 ∀(pins:List (Addr×Obj)) (s:Shared) (O:St) (H:Hp) (Q:VK),Inv X pins O H s->t O H Q->wpAny (model X.prog X.w) X.A (eval e X.env) (EP X pins O Q) X.xe s
noncomputable def PT(X:Cx)(e:Expr)(t:TT):Prop:=
 ∀(pins:List (Addr×Obj)) (s:Shared) (O:St) (H:Hp) (Q:Bool->Hp->Prop),Inv X pins O H s->t O H Q->wpAny (model X.prog X.w) X.A (isTrue e X.env (eval e X.env)) (TP X pins O Q) X.xe s
noncomputable def PW(X:Cx)(e:Expr)(t:TT):Prop:=
 ∀(whole:Sem Value) (pins:List (Addr×Obj)) (s:Shared) (O:St) (H:Hp) (Q:Bool->Hp->Prop),Inv X pins O H s->t O H Q->wpAny (model X.prog X.w) X.A (isTrue e X.env whole) (TP X pins O Q) X.xe s
theorem PW.pt{X:Cx}{e:Expr}{t:TT}(h:PW X e t):PT X e t:=h _
noncomputable def PA(X:Cx)(es:List Expr)(t:TA):Prop:=
 ∀(pos:Pos) (pins:List (Addr×Obj)) (s:Shared) (O:St) (H:Hp) (Q:List V->Hp->Prop),Inv X pins O H s->t O H Q->wpAny (model X.prog X.w) X.A (spliced (backTo pos (starEach es X.env))) (AP X pins O Q) X.xe s
noncomputable def PS(X:Cx)(st:Stmt)(t:TS):Prop:=
 ∀(pins:List (Addr×Obj)) (s:Shared) (O:St) (H:Hp) (D:Ends),Inv X pins O H s->t D O H->wpAny (model X.prog X.w) X.A (exec st X.env) (SP X pins D) X.xe s
noncomputable def PSs(X:Cx)(st:List Stmt)(t:TS):Prop:=
 ∀(pins:List (Addr×Obj)) (s:Shared) (O:St) (H:Hp) (D:Ends),Inv X pins O H s->t D O H->wpAny (model X.prog X.w) X.A (execs st X.env) (SP X pins D) X.xe s
theorem thn{α:Type}{t:Sem α}{Q Q':α->Shared->Prop}{M:Model}{A:Around}{E:Value->Shared->Prop}{s:Shared}(h:wpAny M A t Q E s)(hQ:∀a s,Q a s->Q' a s):wpAny M A t Q' E s:=wpAny_mono h hQ fun _ _ x=>x
end L2
namespace L2
open PySem PySem.Spec PyProof.Rows
section
variable {X:Cx}
theorem bin{a b:Expr}{ta tb:TE}(ha:PE X a ta)(hb:PE X b tb){pins:List (Addr×Obj)}{s:Shared}{O:St}{H:Hp}{R:V->V->Hp->Prop}(I:Inv X pins O H s)(h:ta O H fun x H1=>tb O H1 fun y H2=>R x y H2)
  {α:Type} {Q:α->Shared->Prop} {f:Value->Value->Sem α}
  (hf:∀v u s2 x y H2,Inv X pins O H2 s2->RelV x v->RelV y u->R x y H2->wpAny (model X.prog X.w) X.A (f v u) Q X.xe s2) :
  wpAny (model X.prog X.w) X.A (eval a X.env) (fun v bi=>wpAny (model X.prog X.w) X.A (eval b X.env) (fun u dl=>wpAny (model X.prog X.w) X.A (f v u) Q X.xe dl) X.xe bi) X.xe s:=by
 refine thn (ha pins s O H _ I h) fun v s1 hq0=>?_
 obtain⟨x,H1,I1,r1,q1⟩:=hq0
 refine thn (hb pins s1 O H1 _ I1 q1) fun u s2 hq0=>?_
 obtain⟨y,H2,I2,r2,q2⟩:=hq0
 exact hf v u s2 x y H2 I2 r1 r2 q2
noncomputable def Jb(i:Nat):TE:=fun O H Q=>∃v,O[i]? = some (some v)/\Q v H
noncomputable def tC(v:V):TE:=fun _ H Q=>Q v H
theorem EM{i:Nat}{x:Str}{pos:Pos}(hN:X.N[i]? = some x)(hv:Vis X.env.scope x)(hd:(x==("__debug__":Str))=false:=by decide)(hcd:(x==("__classdict__":Str))=false:=by decide):PE X (.Name x pos) (Jb i):=by
 intro pins s O H Q I h
 obtain⟨v,e,h⟩:=h
 obtain⟨m,hn,hl⟩:=I.loc
 obtain⟨u,r,l⟩:=hl i x v hN e hv
 have fin:EP X pins O Q u s:=⟨v,H,I,r,h⟩
 rcases l with ⟨hk,hm⟩|⟨hk,c,hc,hcell⟩
 ·exact wpAny_Name (wpAny_loadName_local I.ok.kind hk hn hm fin) hd
 ·rcases hk with hk|hk
  ·exact wpAny_Name (wpAny_loadName_cell I.ok.kind hk hc hcell fin) hd
  ·exact wpAny_Name (wpAny_loadName_free I.ok.kind hk hc hcell fin hcd) hd
theorem Gr{i j pos}:PE X (.Constant (.int i) j pos) (tC (.int i)):=fun _ _ _ H _ I h=>wpAny_Constant_int ⟨.int i,H,I.tok _,⟨_,rfl⟩,h⟩
theorem JX{b j pos}:PE X (.Constant (.bool b) j pos) (tC (.bl b)):=fun _ _ _ H _ I h=>Constant_bool ⟨.bl b,H,I,rfl,h⟩
theorem FD{x j pos}:PE X (.Constant (.str x) j pos) (tC (.str x)):=fun _ _ _ H _ I h=>Calls.Constant_str ⟨.str x,H,I.tok _,⟨_,rfl⟩,h⟩
noncomputable def Gl(X:Cx)(x:Str):Prop:=X.env.kindOf x=some .globalImplicit
theorem wL{E:Value->Shared->Prop}{pins:List (Addr×Obj)}{s:Shared}{O:St}{H:Hp}{x:Str}{u:Value}{pos:Pos}{Q:Value->Shared->Prop}(I:Inv X pins O H s)(hg:Gl X x)(hm:X.mg x=some u)(h:Q u s)
  (hd:(x==("__debug__":Str))=false:=by decide):wpAny (model X.prog X.w) X.A (eval (.Name x pos) X.env) Q E s:=
 Calls.Name_function_global I.ok.kind hg (Calls.loadGlobal_global (by rw[I.ok.glob];exact I.mod.glob.keeps I.bk) hm h) hd
theorem lI{E:Value->Shared->Prop}{pins:List (Addr×Obj)}{s:Shared}{O:St}{H:Hp}{x:Str}{u:Value}{pos:Pos}{Q:Value->Shared->Prop}(I:Inv X pins O H s)(hg:Gl X x)(hm:X.mg x=none)(hv:bootBuiltins x=some u)(h:Q u s)
  (hn:x ≠ "__name__":=by decide) (hd:(x==("__debug__":Str))=false:=by decide):wpAny (model X.prog X.w) X.A (eval (.Name x pos) X.env) Q E s:=by
 obtain⟨mb,h1,h2⟩:=I.mod.blt
 exact Calls.Name_function_global I.ok.kind hg (Calls.loadGlobal_builtin (by rw[I.ok.glob];exact I.mod.glob.keeps I.bk) hm (by rw[I.ok.blt];exact h1.keeps I.bk) ((h2 x hn).trans hv) h) hd
theorem BL{x:Str}{v:V}{u:Value}{pos:Pos}(hg:Gl X x)(hm:X.mg x=some u)(r:RelV v u)(hd:(x==("__debug__":Str))=false:=by decide):PE X (.Name x pos) (tC v):=
 fun _ _ _ H _ I h=>wL I hg hm ⟨v,H,I,r,h⟩ hd
theorem Dx{x:Str}{v:V}{u:Value}{pos:Pos}(hg:Gl X x)(hm:X.mg x=none)(hv:bootBuiltins x=some u)(r:RelV v u)(hn:x ≠ "__name__":=by decide)(hd:(x==("__debug__":Str))=false:=by decide):PE X (.Name x pos) (tC v):=
 fun _ _ _ H _ I h=>lI I hg hm hv ⟨v,H,I,r,h⟩ hn hd
variable {a b:Expr}{ta tb:TE}{pos:Pos}
noncomputable def PC(X:Cx)(op:CmpOp)(a b:Expr)(t:TE):Prop:=
 ∀(pins:List (Addr×Obj)) (s:Shared) (O:St) (H:Hp) (Q:VK),Inv X pins O H s->t O H Q ->
  wpAny (model X.prog X.w) X.A (eval a X.env) (fun v bi=>wpAny (model X.prog X.w) X.A (eval b X.env) (fun u dl=>wpAny (model X.prog X.w) X.A (compareOp op v u) (EP X pins O Q) X.xe dl) X.xe bi) X.xe s
theorem Bj(b:Expr){op:CmpOp}(h:op≠.In)(h2:op≠.NotIn):behindInMarks op b=false:=by
 have e1:(op==CmpOp.In)=false:=by cases op<;>first|rfl|exact absurd rfl h
 have e2:(op==CmpOp.NotIn)=false:=by cases op<;>first|rfl|exact absurd rfl h2
 cases b<;>simp[behindInMarks,e1,e2]
noncomputable def tB(t:TE):TT:=fun O H Q=>t O H fun x H1=>∃c,x = .bl c/\Q c H1
theorem KW{op:CmpOp}{t:TE}(h:PC X op a b t)(h1:behindInMarks op b=false:=by first|exact Bj _ ⋯ ⋯|rfl):PT X (.Compare a [op] [b] pos) (tB t):=by
 intro pins s O H Q I hw
 refine wpAny_isTrue_Compare1 (thn (h pins s O H _ I hw) fun v s1 h1=>thn h1 fun u s2 h2=>thn h2 fun c s3 hq0=>?_) h1
 obtain⟨x,H1,I1,r1,q1⟩:=hq0
 obtain⟨d,rfl,q⟩:=q1
 cases r1
 exact wpAny_truthy_bool ⟨H1,I1,q⟩
theorem Fv{e:Expr}{t:TE}(h:PE X e t)(he:∀whole,isTrue e X.env whole=(do let v <- whole;standAt e.pos;holding [v] (truthy v)):=by intro _;rfl):PT X e (tB t):=by
 intro pins s O H Q I hw
 refine isTrue_plain (thn (h pins s O H _ I hw) fun v s1 hq0=>?_) (he _)
 obtain⟨x,H1,I1,r1,q1⟩:=hq0
 obtain⟨d,rfl,q⟩:=q1
 cases r1
 exact wpAny_truthy_bool ⟨H1,I1,q⟩
variable {tA tB':TT}{rest:List Expr}
noncomputable def Kv(t u:TT):TT:=fun O H Q=>t O H fun c H1=>if c=true then u O H1 Q else Q false H1
noncomputable def tOr(t u:TT):TT:=fun O H Q=>t O H fun c H1=>if c=true then Q true H1 else u O H1 Q
noncomputable def La(t:TT):TT:=fun O H Q=>t O H fun c H1=>Q (!c) H1
theorem pw_and1(ha:PT X a tA):PW X (.BoolOp .And [a] pos) tA:=by
 intro wh pins s O H Q I h
 refine isTrue_and (thn (ha pins s O H Q I h) fun c s1 e=>?_)
 cases c with
 |true=>exact isTrue_and_nil e
 |false=>exact e
theorem pw_or1(ha:PT X a tA):PW X (.BoolOp .Or [a] pos) tA:=by
 intro wh pins s O H Q I h
 refine isTrue_or (thn (ha pins s O H Q I h) fun c s1 e=>?_)
 cases c with
 |false=>exact isTrue_or_nil e
 |true=>exact e
theorem pw_and(ha:PT X a tA)(hb:PW X (.BoolOp .And (b::rest) pos) tB'):PW X (.BoolOp .And (a::b::rest) pos) (Kv tA tB'):=by
 intro wh pins s O H Q I h
 refine isTrue_and (thn (ha pins s O H _ I h) fun c s1 hq0=>?_)
 obtain⟨H1,I1,q1⟩:=hq0
 cases c with
 |true=>exact hb wh pins s1 O H1 Q I1 q1
 |false=>exact⟨H1,I1,q1⟩
theorem pw_or(ha:PT X a tA)(hb:PW X (.BoolOp .Or (b::rest) pos) tB'):PW X (.BoolOp .Or (a::b::rest) pos) (tOr tA tB'):=by
 intro wh pins s O H Q I h
 refine isTrue_or (thn (ha pins s O H _ I h) fun c s1 hq0=>?_)
 obtain⟨H1,I1,q1⟩:=hq0
 cases c with
 |true=>exact⟨H1,I1,q1⟩
 |false=>exact hb wh pins s1 O H1 Q I1 q1
theorem E5(ha:PT X a tA):PT X (.UnaryOp .Not a pos) (La tA):=by
 intro pins s O H Q I h
 exact isTrue_not (ha pins s O H (fun c H1=>Q (!c) H1) I h)
noncomputable def IC(ta tb:TE):TE:=fun O H Q=>ta O H fun x H1=>∃c,x = .bl c/\if c=true then tb O H1 Q else Q (.bl false) H1
noncomputable def IH(ta:TE):TE:=fun O H Q=>ta O H fun x H1=>∃c,x = .bl c/\Q (.bl (!c)) H1
theorem Hu{op}{t:TE}(h:PE X a t):PE X (.BoolOp op [a] pos) t:=fun pins s O H Q I hw=>BoolOp_one (h pins s O H Q I hw)
theorem HA(ha:PE X a ta)(hb:PE X (.BoolOp .And (b::rest) pos) tb):PE X (.BoolOp .And (a::b::rest) pos) (IC ta tb):=by
 intro pins s O H Q I h
 refine BoolOp_and (thn (ha pins s O H _ I h) fun v s1 hq0=>?_)
 obtain⟨x,H1,I1,r1,q1⟩:=hq0
 obtain⟨c,rfl,q1⟩:=q1
 cases r1
 refine wpAny_truthy_bool ?_
 cases c with
 |true=>exact hb pins s1 O H1 Q I1 q1
 |false=>exact⟨.bl false,H1,I1,rfl,q1⟩
theorem E7(ha:PE X a ta):PE X (.UnaryOp .Not a pos) (IH ta):=by
 intro pins s O H Q I h
 refine UnaryOp_ (thn (ha pins s O H _ I h) fun v s1 hq0=>?_)
 obtain⟨x,H1,I1,r1,q1⟩:=hq0
 obtain⟨c,rfl,q1⟩:=q1
 cases r1
 exact not_of (wpAny_truthy_bool ⟨.bl (!c),H1,I1,rfl,q1⟩)
noncomputable def tIf(t:TT)(ta tb:TE):TE:=fun O H Q=>t O H fun c H1=>if c=true then ta O H1 Q else tb O H1 Q
theorem BB{c:Expr}(hc:PT X c tA)(ha:PE X a ta)(hb:PE X b tb):PE X (.IfExp c a b pos) (tIf tA ta tb):=by
 intro pins s O H Q I h
 refine wpAny_IfExp (thn (hc pins s O H _ I h) fun d s1 hq0=>?_)
 obtain⟨H1,I1,q1⟩:=hq0
 cases d with
 |true=>exact ha pins s1 O H1 Q I1 q1
 |false=>exact hb pins s1 O H1 Q I1 q1
end
end L2
namespace L2
open PySem PySem.Spec PyProof.Rows
noncomputable def SqL(K:PySem.W.Frag)(H:Hp)(a:Addr)(xs:List V):Prop:=
 Rd H a (.lst xs) \/
  ∃(o:Obj) (its:Array Value) (n:Nat),K.lookup a=some o/\o.cls = .type "list"/\o.dict=none/\o.data = .seq its n/\its.size<=sizeLine/\Vals xs its.toList
noncomputable def SqT(K:PySem.W.Frag)(H:Hp)(a:Addr)(xs:List V):Prop:=
 Rd H a (.tup xs) \/
  ∃(o:Obj) (its:Array Value) (n:Nat),K.lookup a=some o/\o.cls = .type "tuple"/\o.data = .seq its n/\its.size<=sizeLine/\Vals xs its.toList
noncomputable def K6:Value->Option V
 |.none=>some .non
 |.bool b=>some (.bl b)
 |.int i _=>some (.int i)
 |.str x _=>some (.str x)
 |.bytes b _=>some (.byt b)
 |.float b _=>some (.flt b)
 |.ref a=>some (.ref a)
 |.type n=>some (.ty n)
 |_=>none
theorem RelV.abs{x:V}{u:Value}(r:RelV x u):K6 u=some x:=by
 cases x with
 |non=>cases r;rfl
 |bl _=>cases r;rfl
 |int _=>obtain⟨t,rfl⟩:=r;rfl
 |str _=>obtain⟨t,rfl⟩:=r;rfl
 |byt _=>obtain⟨t,rfl⟩:=r;rfl
 |flt _=>obtain⟨t,rfl⟩:=r;rfl
 |ref _=>cases r;rfl
 |ty _=>cases r;rfl
theorem RelV.inj{x y:V}{u:Value}(r:RelV x u)(q:RelV y u):x=y:=Option.some.inj (r.abs.symm.trans q.abs)
theorem Vals.inj:∀{xs ys:List V} {us:List Value},Vals xs us->Vals ys us->xs=ys
 |_,_,_,.nil,.nil=>rfl
 |_,_,_,.cons r t,.cons r' t'=>by rw[r.inj r',Vals.inj t t']
section
variable {X:Cx}{pins:List (Addr×Obj)}{O:St}{H:Hp}{s:Shared}{a:Addr}{xs ys:List V}
theorem SqL.of{K:PySem.W.Frag}(h:H a=some (.lst xs)):SqL K H a xs:=.inl (.inl h)
theorem SqT.of{K:PySem.W.Frag}(h:H a=some (.tup xs)):SqT K H a xs:=.inl (.inl h)
theorem Inv.list(I:Inv X pins O H s)(h:SqL X.K H a xs):∃its:List Value,Vals xs its/\PlainL s.heap a its.toArray/\xs.length<=sizeLine:=by
 rcases h with h|⟨o,its,n,hk,hc,hd,hs,hz,r⟩
 ·obtain⟨z,its,n,r,e⟩:=h.ok I.hok
  exact⟨its,r,⟨_,n,e,rfl,rfl,rfl⟩,z⟩
 ·refine⟨its.toList,r,⟨o,n,I.kIn a o hk,hc,hd,by simpa using hs⟩,?_⟩
  have e:=r.length
  simp only[Array.length_toList] at e
  omega
theorem Inv.tuple(I:Inv X pins O H s)(h:SqT X.K H a xs):∃its:List Value,Vals xs its/\IsTup s.heap a its.toArray/\xs.length<=sizeLine:=by
 rcases h with h|⟨o,its,n,hk,hc,hs,hz,r⟩
 ·obtain⟨z,its,r,p⟩:=h.ok I.hok
  exact⟨its,r,p,z⟩
 ·refine⟨its.toList,r,⟨o,I.kIn a o hk,hc,n,by simpa using hs⟩,?_⟩
  have e:=r.length
  simp only[Array.length_toList] at e
  omega
theorem Inv.tU(I:Inv X pins O H s)(h:SqL X.K H a xs)(h':SqL X.K H a ys):xs=ys:=by
 obtain⟨its,r,⟨o,n,e,_,_,d⟩,_⟩:=I.list h
 obtain⟨its',r',⟨o',n',e',_,_,d'⟩,_⟩:=I.list h'
 rw[e] at e';cases e'
 rw[d] at d'
 injection d' with d1 _
 have:its=its':=by simpa using congrArg Array.toList d1
 subst this
 exact r.inj r'
theorem Inv.qQ(I:Inv X pins O H s)(h:SqT X.K H a xs)(h':SqT X.K H a ys):xs=ys:=by
 obtain⟨its,r,⟨o,e,_,n,d⟩,_⟩:=I.tuple h
 obtain⟨its',r',⟨o',e',_,n',d'⟩,_⟩:=I.tuple h'
 rw[e] at e';cases e'
 rw[d] at d'
 injection d' with d1 _
 have:its=its':=by simpa using congrArg Array.toList d1
 subst this
 exact r.inj r'
end
noncomputable abbrev Cx.qe(X:Cx)(E:Value->Shared->Prop):Cx:={X with xe:=E}
noncomputable abbrev Cx.nox(X:Cx):Cx:=X.qe fun _ _=>False
theorem Cx.Ok.qe{X:Cx}(ok:X.Ok)(E:Value->Shared->Prop):(X.qe E).Ok:=
 ⟨ok.mod,ok.kind,ok.glob,ok.blt,ok.above,ok.inj,ok.has,ok.cab,ok.hd,ok.qt,ok.frames,ok.stk,ok.exf,ok.bs,ok.bsz,ok.Bk,ok.BO,ok.oW,ok.frf⟩
theorem Cx.Ok.iH{X:Cx}{E:Value->Shared->Prop}(ok:(X.qe E).Ok):X.Ok:=
 ⟨ok.mod,ok.kind,ok.glob,ok.blt,ok.above,ok.inj,ok.has,ok.cab,ok.hd,ok.qt,ok.frames,ok.stk,ok.exf,ok.bs,ok.bsz,ok.Bk,ok.BO,ok.oW,ok.frf⟩
section
variable {X:Cx}{pins:List (Addr×Obj)}{O:St}{H:Hp}{s:Shared}{E:Value->Shared->Prop}
theorem Inv.qe(I:Inv X pins O H s)(E:Value->Shared->Prop):Inv (X.qe E) pins O H s:=⟨I.ok.qe E,I.os,I.bare,I.base,I.loc,I.cell,I.free,I.je,I.pin,I.hok,I.len⟩
theorem Inv.iH(I:Inv (X.qe E) pins O H s):Inv X pins O H s:=⟨I.ok.iH,I.os,I.bare,I.base,I.loc,I.cell,I.free,I.je,I.pin,I.hok,I.len⟩
theorem SP.iH{D:Ends}{f:Flow}{s':Shared}(h:SP (X.qe E) pins D f s'):SP X pins D f s':=by
 cases f with
 |next=>obtain⟨al,H',I,q⟩:=h;exact⟨al,H',I.iH,q⟩
 |brk=>obtain⟨al,H',I,q⟩:=h;exact⟨al,H',I.iH,q⟩
 |cont=>obtain⟨al,H',I,q⟩:=h;exact⟨al,H',I.iH,q⟩
 |ret u=>obtain⟨v,al,H',I,r,q⟩:=h;exact⟨v,al,H',I.iH,r,q⟩
theorem PSs.nox{st:List Stmt}{t:TS}(h:PSs X.nox st t):PSs X st t:=fun pins s O H D I hw=>
 wpAny_mono (h pins s O H D (I.qe _) hw) (fun _ _ q=>q.iH) fun _ _ z=>False.elim z
end
section
variable {X:Cx}{st:Stmt}{rest:List Stmt}{t u:TS}{e:Expr}{te:TE}{pos:Pos}
noncomputable def Io:TS:=fun D O H=>D.nx O H
noncomputable def JM(t u:TS):TS:=fun D O H=>t {D with nx:=u D} O H
theorem C8:PSs X [] Io:=fun _ _ O H _ I h=>wpAny_execs_nil ⟨O,H,I,h⟩
theorem A8(h1:PS X st t)(h2:PSs X rest u):PSs X (st::rest) (JM t u):=by
 intro pins s O H D I h
 refine wpAny_execs_cons (thn (h1 pins s O H {D with nx:=u D} I h) fun f s1 q=>?_)
 cases f with
 |next=>
  obtain⟨al,H',I',q⟩:=q
  exact h2 pins s1 al H' D I' q
 |ret v=>exact q
 |brk=>exact q
 |cont=>exact q
theorem DJ(h1:PS X st t):PSs X [st] t:=by
 intro pins s O H D I h
 refine wpAny_execs_cons (thn (h1 pins s O H D I h) fun f s1 q=>?_)
 cases f with
 |next=>exact wpAny_execs_nil q
 |ret v=>exact q
 |brk=>exact q
 |cont=>exact q
theorem Inv.quiet{pins:List (Addr×Obj)}{O:St}{H:Hp}{s:Shared}(I:Inv X pins O H s):interactive X.env=false:=by simp[interactive,I.ok.kind]
noncomputable def Jd(te:TE):TS:=fun D O H=>te O H fun _ H1=>D.nx O H1
theorem CZ(he:PE X e te)(hs:swapsWith e none pos.line X.env=pure false:=by rfl):PS X (.Expr e pos) (Jd te):=by
 intro pins s O H D I h
 exact wpAny_Expr_any (thn (he pins s O H _ I h) fun v s1 ⟨x,H1,I1,r1,q1⟩=>⟨O,H1,I1,q1⟩) I.quiet hs
noncomputable def Lg(te:TE):TS:=fun D O H=>te O H D.rt
theorem EX(he:PE X e te):PS X (.Return (some e) pos) (Lg te):=by
 intro pins s O H D I h
 exact wpAny_Return_some (thn (he pins s O H _ I h) fun v s1 ⟨x,H1,I1,r1,q1⟩=>⟨x,O,H1,I1,r1,q1⟩)
noncomputable def KR(c:TT)(t u:TS):TS:=fun D O H=>c O H fun b H1=>if b=true then t D O H1 else u D O H1
theorem Ir{c:Expr}{a b:List Stmt}{tc:TT}(hc:PT X c tc)(ha:PSs X a t)(hb:PSs X b u):PS X (.If c a b pos) (KR tc t u):=by
 intro pins s O H D I h
 refine wpAny_If (thn (hc pins s O H _ I h) fun d s1 hq0=>?_)
 obtain⟨H1,I1,q1⟩:=hq0
 cases d with
 |true=>exact ha pins s1 O H1 D I1 q1
 |false=>exact hb pins s1 O H1 D I1 q1
end
noncomputable abbrev TG:=V->St->Hp->(St->Hp->Prop)->Prop
noncomputable abbrev TGs:=List V->St->Hp->(St->Hp->Prop)->Prop
noncomputable def PG(X:Cx)(target:Expr)(t:TG):Prop:=
 ∀(pins:List (Addr×Obj)) (s:Shared) (O:St) (H:Hp) (v:V) (u:Value) (Q:St->Hp->Prop),Inv X pins O H s->RelV v u->t v O H Q ->
  wpAny (model X.prog X.w) X.A (assign target X.env u) (fun _ s'=>∃al H',Inv X pins al H' s'/\Q al H') X.xe s
noncomputable def PGs(X:Cx)(ts:List Expr)(t:TGs):Prop:=
 ∀(pins:List (Addr×Obj)) (s:Shared) (O:St) (H:Hp) (vs:List V) (us:List Value) (Q:St->Hp->Prop),Inv X pins O H s->Vals vs us->t vs O H Q ->
  wpAny (model X.prog X.w) X.A (assignInOrder ((assignEach ts X.env).map (·.2)) us) (fun _ s'=>∃al H',Inv X pins al H' s'/\Q al H') X.xe s
noncomputable abbrev FF:=V->V->V->Hp->(Hp->Prop)->Prop
noncomputable def JD(X:Cx)(t:FF):Prop:=
 ∀(pins:List (Addr×Obj)) (s:Shared) (O:St) (H:Hp) (o i v:V) (ov iv u:Value) (Q:Hp->Prop),Inv X pins O H s->RelV o ov->RelV i iv->RelV v u->t o i v H Q ->
  wpAny (model X.prog X.w) X.A (setItem ov iv u) (fun _ s'=>∃H',Inv X pins O H' s'/\Q H') X.xe s
noncomputable abbrev TIp:=V->V->Hp->VK->Prop
noncomputable def PIp(X:Cx)(op:Operator)(t:TIp):Prop:=
 ∀(pins:List (Addr×Obj)) (s:Shared) (O:St) (H:Hp) (x y:V) (v u:Value) (Q:VK),Inv X pins O H s->RelV x v->RelV y u->t x y H Q ->
  wpAny (model X.prog X.w) X.A (inplaceOp op v u) (EP X pins O Q) X.xe s
section
variable {X:Cx}{pos:Pos}
noncomputable def Bn(i:Nat):TG:=fun v O H Q=>Q (O.set i (some v)) H
theorem CK{i:Nat}{x:Str}(hN:X.N.Nodup)(hi:X.N[i]? = some x)(hx:Loc X.env.scope x)(hf:X.fn x=true\/X.env.scope.names.lookup x=some .local:=by first|exact .inl rfl|exact .inr rfl|assumption):PG X (.Name x pos) (Bn i):=by
 intro pins s O H v u Q I r h
 exact wpAny_assign_Name (fx I hN hi hx r (fun s' I'=>⟨_,H,I',h⟩) hf)
noncomputable def K0:TGs:=fun vs O H Q=>vs=[]/\Q O H
noncomputable def Jx(t:TG)(u:TGs):TGs:=fun vs O H Q=>∃v r,vs=v::r/\t v O H fun al H'=>u r al H' Q
theorem BR:PGs X [] K0:=by
 intro pins s O H vs us Q I r h
 obtain⟨e,h⟩:=h
 subst e
 cases r
 exact assignInOrder_nil ⟨O,H,I,h⟩
theorem Am{e:Expr}{es:List Expr}{t:TG}{u:TGs}(h1:PG X e t)(h2:PGs X es u)
  (hs:(assignEach (e::es) X.env).map (·.2)=assign e X.env::(assignEach es X.env).map (·.2):=by rfl):PGs X (e::es) (Jx t u):=by
 intro pins s O H vs us Q I r h
 obtain⟨v,vr,e1,h⟩:=h
 subst e1
 cases r with
 |cons r rr=>
  rw[hs]
  refine assignInOrder_cons (thn (h1 pins s O H _ _ _ I r h) fun _ s1 hq0=>?_)
  obtain⟨ii,H1,I1,q1⟩:=hq0
  exact h2 pins s1 ii H1 _ _ Q I1 rr q1
noncomputable def Kx(K:PySem.W.Frag)(n:Nat)(t:TGs):TG:=fun v O H Q=>∃a xs,v = .ref a/\SqT K H a xs/\xs.length=n/\t xs O H Q
theorem Hn{es:List Expr}{k:Nat}{t:TGs}{n:Nat}(hc:X.calm=X.calm)(h:PGs X es t)
  (hn:(assignEach es X.env).length=n:=by rfl) (hst:(assignEach es X.env).findIdx? (·.1)=none:=by rfl):PG X (.Tuple es k pos) (Kx X.K n t):=by
 intro pins s O H v u Q I r hw
 obtain⟨a,xs,e1,hq,hl,hw⟩:=hw
 subst e1
 cases r
 obtain⟨its,rv,ht,hz⟩:=I.tuple hq
 refine qc I.vB ht (by simp[hn,<- hl,rv.length]) hst fun h' hx=>?_
 have I1:Inv X pins O H {s with heap:=h'}:=I.kept (t':=s.toks) fun b o e=>hx b o (ne_of_lt (Heap.lt_size e)) e
 exact h pins _ O H xs _ Q I1 (by simpa using rv) hw
noncomputable def Lk(to ti:TE)(t:FF):TG:=fun v O H Q=>to O H fun o H1=>ti O H1 fun i H2=>t o i v H2 fun H3=>Q O H3
theorem Gi{o i:Expr}{to ti:TE}{t:FF}(ho:PE X o to)(hi:PE X i ti)(hs:JD X t)
  (ha:∀v,assign (.Subscript o i pos) X.env v=(do
   let ov <- holding [v] (eval o X.env)
   let iv <- holding [v,ov] (eval i X.env)
   standAt pos
   holding [v,ov,iv] (setItem ov iv v)
   release [v,ov,iv] []):=by intro _;rfl):PG X (.Subscript o i pos) (Lk to ti t):=by
 intro pins s O H v u Q I r h
 rw[ha]
 refine wpAny_bind (wpAny_holding (thn (ho pins s O H _ I h) fun ov s1 hq0=>?_))
 obtain⟨x,H1,I1,r1,q1⟩:=hq0
 refine wpAny_bind (wpAny_holding (thn (hi pins s1 O H1 _ I1 q1) fun iv s2 hq0=>?_))
 obtain⟨y,H2,I2,r2,q2⟩:=hq0
 refine wpAny_bind (wpAny_standAt (wpAny_bind (wpAny_holding (thn (hs pins s2 O H2 x y v ov iv u _ I2 r1 r2 r q2) fun _ s3 hq0=>?_))))
 obtain⟨H3,I3,q3⟩:=hq0
 exact wpAny_release ⟨O,H3,I3,q3⟩
noncomputable def Gf(te:TE)(g:TG):TS:=fun D O H=>te O H fun x H1=>g x O H1 D.nx
theorem Fy{tg e:Expr}{te:TE}{g:TG}(he:PE X e te)(hg:PG X tg g)(hs:swapsWithSole [tg] e pos.line X.env=pure false:=by rfl)(hw:swappedStores [tg] e X.env=pure none:=by rfl)
  (h1:(assignEach [tg] X.env).map (·.2)=[assign tg X.env]:=by rfl):PS X (.Assign [tg] e pos) (Gf te g):=by
 intro pins s O H D I h
 refine wpAny_Assign_stores (thn (he pins s O H _ I h) fun v s1 hq0=>?_) hs hw
 obtain⟨x,H1,I1,r1,q1⟩:=hq0
 rw[h1]
 exact thn (hg pins s1 O H1 x v _ I1 r1 q1) fun _ s2 q=>q
theorem HD{i:Nat}{x:Str}{e:Expr}{te:TE}{pos':Pos}(hN:X.N.Nodup)(hi:X.N[i]? = some x)(hx:Loc X.env.scope x)(he:PE X e te)(hs:swapsWith e (some (.Name x pos')) pos.line X.env=pure false:=by rfl)(hf:X.fn x=true\/X.env.scope.names.lookup x=some .local:=by first|exact .inl rfl|exact .inr rfl|assumption) :
  PS X (.Assign [.Name x pos'] e pos) (Gf te (Bn i)):=by
 intro pins s O H D I h
 refine wpAny_Assign_Name (thn (he pins s O H _ I h) fun v s1 hq0=>?_) hs
 obtain⟨y,H1,I1,r1,q1⟩:=hq0
 exact fx I1 hN hi hx r1 (fun s2 I2=>⟨_,H1,I2,q1⟩) hf
noncomputable def Kj(i j:Nat)(ta:TA):TS:=fun D O H=>ta O H fun vs H1=>∃v w,vs=[v,w]/\D.nx ((O.set i (some v)).set j (some w)) H1
theorem HW{i j:Nat}{x y:Str}{a b:Expr}{ta:TA}{px py pt:Pos}{kt k2 pt2}(hc:X.calm=true)(hN:X.N.Nodup)(hi:X.N[i]? = some x)(hj:X.N[j]? = some y)(hij:i≠j)
  (hx:X.env.scope.names.lookup x=some .local) (hy:X.env.scope.names.lookup y=some .local) (ha:PA X [a,b] ta)
  (hw:swappedStores [.Tuple [.Name x px,.Name y py] kt pt] (.Tuple [a,b] k2 pt2) X.env=pure (some [x,y]))
  (hs:swapsWithSole [.Tuple [.Name x px,.Name y py] kt pt] (.Tuple [a,b] k2 pt2) pos.line X.env=pure false:=by rfl) :
  PS X (.Assign [.Tuple [.Name x px,.Name y py] kt pt] (.Tuple [a,b] k2 pt2) pos) (Kj i j ta):=by
 intro pins s O H D I h
 rw[exec_Assign_arm]
 refine wpAny_bind (wpAny_standAt ?_)
 rw[hs]
 refine wpAny_bind (wpAny_pure ?_)
 rw[if_neg ⋯]
 refine wpAny_bind (Tuple_ (thn (ha _ pins s O H _ I h) fun us s1 hq0=>?_))
 obtain⟨vs,H1,I1,r1,q1⟩:=hq0
 obtain⟨v,w,e1,q1⟩:=q1
 subst e1
 obtain⟨u1,u2,rfl,rv,rw'⟩:∃u1 u2,us=[u1,u2]/\RelV v u1/\RelV w u2:=by
  cases r1 with
  |cons p q=>
   cases q with
   |cons p' q'=>
    cases q'
    exact⟨_,_,rfl,p,p'⟩
 refine wpAny_newObj_type ?_ (by show 2<=sizeLine;decide)
 have I2:Inv X pins O H1 {s1 with heap:=s1.heap.push {cls:=.type "tuple",data:=.seq [u1,u2].toArray}}:=I1.kept (t':=s1.toks) fun b o e=>Heap.get?_push_of_some _ e
 rw[hw]
 refine wpAny_bind (wpAny_pure ?_)
 show wpAny (model X.prog X.w) X.A (do rule "assign.swapped-stores";let items <- unpackItems (.ref s1.heap.objs.size) 2 none;assignInOrder [fun v=>bindName X.env y v,fun v=>bindName X.env x v] items.reverse;pure Flow.next) _ _ _
 refine wpAny_bind (wpAny_rule (wpAny_bind (unpackItems_tuple (items:=#[u1,u2]) (I.ok.hd hc) (IsTup.new s1.heap _) fun h' hx'=>?_)))
 have I3:=I2.kept (h':=h') (t':=s1.toks) fun b o e=>hx' b o (ne_of_lt (Heap.lt_size e)) e
 show wpAny _ _ (assignInOrder [fun v=>bindName X.env y v,fun v=>bindName X.env x v] [u2,u1]>>=fun _=>pure Flow.next) _ _ _
 refine wpAny_bind (assignInOrder_cons (wpAny_bindName (fx I3 hN hj (.inl hy) rw' (fun s2 I4=>?_) (.inr hy))))
 refine assignInOrder_cons (wpAny_bindName (fx I4 hN hi (.inl hx) rv (fun s3 I5=>assignInOrder_nil (wpAny_pure ?_)) (.inr hx)))
 rw[List.set_comm _ _ (Ne.symm hij)] at I5
 exact⟨_,H1,I5,q1⟩
noncomputable def K7(i:Nat)(te:TE)(ti:TIp):TS:=fun D O H=>∃x,O[i]? = some (some x)/\te O H fun y H1=>ti x y H1 fun z H2=>D.nx (O.set i (some z)) H2
theorem Ig{i:Nat}{x:Str}{e:Expr}{te:TE}{op:Operator}{ti:TIp}{pos':Pos}(hN:X.N.Nodup)(hi:X.N[i]? = some x)(hx:Loc X.env.scope x)(he:PE X e te)(ho:PIp X op ti)(hf:X.fn x=true\/X.env.scope.names.lookup x=some .local:=by first|exact .inl rfl|exact .inr rfl|assumption) :
  PS X (.AugAssign (.Name x pos') op e pos) (K7 i te ti):=by
 intro pins s O H D I h
 obtain⟨v,e1,h⟩:=h
 obtain⟨m,hn,hl⟩:=I.loc
 have vis:Vis X.env.scope x:=by rcases hx with k|k;exact .inl k;exact .inr (.inl k)
 obtain⟨u,r,l⟩:=hl i x v hi e1 vis
 refine wpAny_AugAssign_Name ?_
 have go:wpAny (model X.prog X.w) X.A (eval e X.env) (fun w dl=>wpAny (model X.prog X.w) X.A (inplaceOp op u w) (fun r ad=>wpAny (model X.prog X.w) X.A (storeName X.env x r) (fun _=>SP X pins D .next) X.xe ad) X.xe dl) X.xe s:=by
  refine thn (he pins s O H _ I h) fun w s1 hq0=>?_
  obtain⟨y,H1,I1,r1,q1⟩:=hq0
  refine thn (ho pins s1 O H1 v y u w _ I1 r r1 q1) fun z s2 hq0=>?_
  obtain⟨zv,H2,I2,r2,q2⟩:=hq0
  exact fx I2 hN hi hx r2 (fun s3 I3=>⟨_,H2,I3,q2⟩) hf
 rcases l with ⟨hk,hm⟩|⟨hk,c,hc,hcell⟩
 ·exact wpAny_loadName_local I.ok.kind hk hn hm go
 ·rcases hk with hk|hk
  ·exact wpAny_loadName_cell I.ok.kind hk hc hcell go
  ·rcases hx with k|k
   ·have:X.env.scope.names.lookup x=some .free:=hk
    rw[k] at this;cases this
   ·have:X.env.scope.names.lookup x=some .free:=hk
    rw[k] at this;cases this
noncomputable def ipI(f:Int->Int->Int):TIp:=fun x y H Q=>∃i j,x = .int i/\y = .int j/\Q (.int (f i j)) H
theorem HU:PIp X .Add (ipI fun i j=>i+j):=by
 intro pins s O H x y v u Q I r1 r2 h
 obtain⟨i,j,e1,e2,q⟩:=h
 subst e1;subst e2
 obtain⟨t,rfl⟩:=r1
 obtain⟨t',rfl⟩:=r2
 exact iadd_int ⟨.int _,H,I.tok _,⟨_,rfl⟩,q⟩
end
section
variable {X:Cx}{pos:Pos}
noncomputable def Gv(c:TT)(tb:TS):TS:=fun D O H=>∃W:Nat->St->Hp->Prop,(∃m,W m O H)/\∀m O H,W m O H ->
 c O H fun b H1=>if b=true then ∃N:St->Hp->Prop,(∀al H',N al H'->∃m',m'<m/\W m' al H')/\tb {D with nx:=N,ct:=N,bk:=D.nx} O H1 else D.nx O H1
theorem Ak{c:Expr}{body:List Stmt}{tc:TT}{tb:TS}(hp:PassesOwn (model X.prog X.w) X.A X.env X.xe)(hc:PT X c tc)(hb:PSs X body tb):PS X (.While c body [] pos) (Gv tc tb):=by
 intro pins s O H D I h
 obtain⟨W,⟨m0,w0⟩,turn⟩:=h
 refine wpAny_While (codeAny_whileLoop (fun n s'=>∃al H',Inv X pins al H' s'/\W n al H') ?_ m0 ⟨O,H,I,w0⟩)
 rintro n s1 ⟨ii,H1,I1,w1⟩
 refine wpAny_passesOwn hp (thn (hc pins s1 ii H1 _ I1 (turn n ii H1 w1)) fun b s2 hq0=>?_)
 obtain⟨H2,I2,q2⟩:=hq0
 cases b with
 |true=>
  obtain⟨N,hN,q2⟩:=q2
  rw[if_pos rfl]
  refine wpAny_passesOwn hp (thn (hb pins s2 ii H2 _ I2 q2) fun f s3 q3=>?_)
  cases f with
  |next=>
   obtain⟨gV,H3,I3,n3⟩:=q3
   obtain⟨m',hm,w3⟩:=hN gV H3 n3
   exact⟨m',hm,gV,H3,I3,w3⟩
  |cont=>
   obtain⟨gV,H3,I3,n3⟩:=q3
   obtain⟨m',hm,w3⟩:=hN gV H3 n3
   exact⟨m',hm,gV,H3,I3,w3⟩
  |brk=>exact q3
  |ret v=>exact q3
 |false=>
  rw[if_neg Bool.false_ne_true]
  exact wpAny_execs_nil ⟨ii,H2,I2,q2⟩
end
structure It where
 go:Nat->Hp->Prop
 yld:Nat->Hp->V->Hp->Prop
 stop:Nat->Hp->Prop
noncomputable def pO(X:Cx)(pins:List (Addr×Obj))(H:Hp)(b:Addr):Prop:=
 H b=none/\b≠X.env.locals/\b ∉ X.fs/\(b∈X.ex\/X.ce.heap.objs.size<=b)/\(∀x c,X.env.cells.lookup x=some c->c≠b)/\∀p∈X.pn++pins,p.1≠b
theorem Inv.AS{X:Cx}{pins:List (Addr×Obj)}{O:St}{H H':Hp}{s:Shared}{b:Addr}(I:Inv X pins O H s)(hb:s.heap.objs.size<=b)(hn:H' b=none):pO X pins H' b:=by
 refine⟨hn,Nat.ne_of_gt (lt_of_lt_of_le I.lt hb),I.K5 hb,.inr (le_trans I.sz hb),fun x c e z=>?_,fun p hp z=>?_⟩
 ·obtain⟨v,q⟩:=I.cell x c e
  exact absurd (lt_of_lt_of_le q.lt (by rw[z];exact hb)) (lt_irrefl _)
 ·exact absurd (lt_of_lt_of_le (Heap.lt_size (I.pin p hp).1) (by rw[z];exact hb)) (lt_irrefl _)
structure Turn(c:Bool)(P:Program)(w:World)(K:PySem.W.Frag)(tg:Expr)(J:It)(fp:List Addr)(it:Addr)(tn:Nat->Heap->Prop):Prop where
 mem:it∈fp
 obj:∀i h,tn i h->∀b∈fp,∃o,h.get? b=some o/\∀v,o.data≠.cell v
 keep:∀i h h',tn i h->(∀b∈fp,∀o,h.get? b=some o->h'.get? b=some o)->tn i h'
 item:∀(X:Cx),X.prog=P->X.w=w->X.K=K->(c=true->X.calm=true)->∀(i:Nat) (pins:List (Addr×Obj)) (s:Shared) (O:St) (H:Hp) (E:Value->Shared->Prop),Inv X pins O H s->(∀b∈fp,pO X pins H b)->tn i s.heap->J.go i H ->
  wpAny (model P w) X.A (pyNext (.ref it)) (fun r s1=>∃u,r=some u /\
   wpAny (model P w) X.A (letOwnedTupleGo tg (.ref it) u) (fun _ s2=>∃x H',Inv X pins O H' s2/\RelV x u/\J.yld i H x H'/\tn (i+1) s2.heap/\∀b∈fp,H' b=none) E s1) E s
 done:∀(X:Cx),X.prog=P->X.w=w->X.K=K->(c=true->X.calm=true)->∀(i:Nat) (pins:List (Addr×Obj)) (s:Shared) (O:St) (H:Hp) (E:Value->Shared->Prop),Inv X pins O H s->(∀b∈fp,pO X pins H b)->tn i s.heap->J.stop i H ->
  wpAny (model P w) X.A (pyNext (.ref it)) (fun r s1=>r=none/\Inv X pins O H s1) E s
 self:∀(A:Around) (i:Nat) (s:Shared) (Q:Value->Shared->Prop) (E:Value->Shared->Prop),tn i s.heap->Q (.ref it) s->wpAny (model P w) A (pyIter (.ref it)) Q E s
theorem Turn.calm{c:Bool}{P:Program}{w:World}{K:PySem.W.Frag}{tg:Expr}{J:It}{fp:List Addr}{it:Addr}{tn:Nat->Heap->Prop}(T:Turn true P w K tg J fp it tn)(h:c=true):Turn c P w K tg J fp it tn:=by subst h;exact T
noncomputable abbrev TI:=St->Hp->(It->Hp->Prop)->Prop
noncomputable def PIE(X:Cx)(pins:List (Addr×Obj))(O:St)(tg:Expr)(R:It->Hp->Prop)(itv:Value)(s2:Shared):Prop:=
 ∃(it:Addr) (fp:List Addr) (tn:Nat->Heap->Prop) (J:It) (H':Hp),itv = .ref it/\Inv X pins O H' s2/\Turn X.calm X.prog X.w X.K tg J fp it tn/\tn 0 s2.heap/\(∀b∈fp,pO X pins H' b)/\R J H'
noncomputable def PI(X:Cx)(tg iter:Expr)(wi:TI):Prop:=
 ∀(pins:List (Addr×Obj)) (s:Shared) (O:St) (H:Hp) (R:It->Hp->Prop),Inv X pins O H s->wi O H R ->
  wpAny (model X.prog X.w) X.A (eval iter X.env) (fun v s1=>wpAny (model X.prog X.w) X.A (pyIter v) (PIE X pins O tg R) X.xe s1) X.xe s
theorem AO{M:Model}{A:Around}{E:Value->Shared->Prop}{s:Shared}{tg:Expr}{it:Addr}{u:Value}{o:Obj}{n:String}{vs:Array Value}{Q:Unit->Shared->Prop}(ho:s.heap.get? it=some o)(hc:o.cls = .type n)(hd:o.data = .fields vs)
  (hn:["enumerate","zip","dict_itemiterator","dict_reverseitemiterator","odict_iterator","itertools.zip_longest","itertools.pairwise"].contains n=false) (hQ:Q () s):wpAny M A (letOwnedTupleGo tg (.ref it) u) Q E s:=by
 unfold letOwnedTupleGo
 cases tg<;>first
  |exact wpAny_pure hQ
  |(cases u<;>first
    |exact wpAny_pure hQ
    |(refine wpAny_bind (wpAny_load ho ?_)
      rw[hc,hd]
      show wpAny M A (if (["enumerate","zip","dict_itemiterator","dict_reverseitemiterator","odict_iterator","itertools.zip_longest","itertools.pairwise"].contains n&&vs[0]?==some (rawInt _))=true then _ else _) Q E s
      rw[if_neg (by intro h;rw[hn,Bool.false_and] at h;cases h)]
      exact wpAny_pure hQ))
noncomputable def Itl(K:PySem.W.Frag)(a:Addr):It:=
 ⟨fun i H=>∃xs x,SqL K H a xs/\xs[i]? = some x,fun i H x H'=>H'=H/\∀xs,SqL K H a xs->xs[i]? = some x,fun i H=>∃xs,SqL K H a xs/\xs.length<=i⟩
noncomputable def Itt(K:PySem.W.Frag)(a:Addr):It:=
 ⟨fun i H=>∃xs x,SqT K H a xs/\xs[i]? = some x,fun i H x H'=>H'=H/\∀xs,SqT K H a xs->xs[i]? = some x,fun i H=>∃xs,SqT K H a xs/\xs.length<=i⟩
noncomputable def Itr(lo:Int)(n:Nat):It:=⟨fun i _=>i<n,fun i H x H'=>H'=H/\x = .int (lo+i),fun i _=>n<=i⟩
theorem yk{c:Bool}{P:Program}{w:World}{K:PySem.W.Frag}{tg:Expr}(a it:Addr):Turn c P w K tg (Itl K a) [it] it (fun i h=>h.IsListIter it a i) where
 mem:=by simp
 obj:=fun i h st b hb=>by
  have e:b=it:=by simpa using hb
  subst e
  obtain⟨o,e,c,d⟩:=st
  exact⟨o,e,fun v z=>by rw[d] at z;cases z⟩
 keep:=fun i h h' st k=>st.at fun o e=>k it (by simp) o e
 item:=by
  intro X hP hw hK hc i pins s O H E I hf st hg
  subst hP hw hK
  obtain⟨xs,x,hq,hx⟩:=hg
  obtain⟨its,rv,p,hz⟩:=I.list hq
  obtain⟨u,hu,ru⟩:=rv.get hx
  obtain⟨f0,f1,f2,f3,f4,f5⟩:=hf it (by simp)
  refine wpAny_pyNext_list_item st p.isList (x:=u) (by simpa using hu) fun h' st' sb=>?_
  have I1:Inv X pins O H {s with heap:=h'}:=I.turned (t':=s.toks) (fun b o hb e=>(sb.2 b hb).trans e) f0 f1 f3 f4 f5
  obtain⟨o,e,c,d⟩:=id st'
  exact⟨u,rfl,AO (s:={s with heap:=h'}) e c d ⋯ ⟨x,H,I1,ru,⟨rfl,fun ys hy=>by rw[I.tU hy hq];exact hx⟩,st',fun b hb=>(hf b hb).1⟩⟩
 done:=by
  intro X hP hw hK hc i pins s O H E I hf st hg
  subst hP hw hK
  obtain⟨xs,hq,hx⟩:=hg
  obtain⟨its,rv,p,hz⟩:=I.list hq
  obtain⟨f0,f1,f2,f3,f4,f5⟩:=hf it (by simp)
  have hl:=rv.length
  exact pV I.vB (I.hne f5) st p.isList (by simp;omega) fun h' eb=>⟨rfl,I.turned (t':=s.toks) (fun b o hb e=>eb b o hb e) f0 f1 f3 f4 f5⟩
 self:=fun _ _ _ _ _ st h=>wpAny_pyIter_listiter st h
theorem vV{c:Bool}{P:Program}{w:World}{K:PySem.W.Frag}{tg:Expr}(a it:Addr):Turn c P w K tg (Itt K a) [it] it (fun i h=>h.IsTupleIter it a i) where
 mem:=by simp
 obj:=fun i h st b hb=>by
  have e:b=it:=by simpa using hb
  subst e
  obtain⟨o,e,c,d⟩:=st
  exact⟨o,e,fun v z=>by rw[d] at z;cases z⟩
 keep:=fun i h h' st k=>st.at fun o e=>k it (by simp) o e
 item:=by
  intro X hP hw hK hc i pins s O H E I hf st hg
  subst hP hw hK
  obtain⟨xs,x,hq,hx⟩:=hg
  obtain⟨its,rv,p,hz⟩:=I.tuple hq
  obtain⟨u,hu,ru⟩:=rv.get hx
  obtain⟨f0,f1,f2,f3,f4,f5⟩:=hf it (by simp)
  refine wpAny_pyNext_tuple_item st (show s.heap.IsTuple a its.toArray from p) (x:=u) (by simpa using hu) fun h' st' sb=>?_
  have I1:Inv X pins O H {s with heap:=h'}:=I.turned (t':=s.toks) (fun b o hb e=>(sb.2 b hb).trans e) f0 f1 f3 f4 f5
  obtain⟨o,e,c,d⟩:=id st'
  exact⟨u,rfl,AO (s:={s with heap:=h'}) e c d ⋯ ⟨x,H,I1,ru,⟨rfl,fun ys hy=>by rw[I.qQ hy hq];exact hx⟩,st',fun b hb=>(hf b hb).1⟩⟩
 done:=by
  intro X hP hw hK hc i pins s O H E I hf st hg
  subst hP hw hK
  obtain⟨xs,hq,hx⟩:=hg
  obtain⟨its,rv,p,hz⟩:=I.tuple hq
  obtain⟨f0,f1,f2,f3,f4,f5⟩:=hf it (by simp)
  have hl:=rv.length
  exact ki I.vB (I.hne f5) st (show s.heap.IsTuple a its.toArray from p) (by simp;omega) fun h' eb=>⟨rfl,I.turned (t':=s.toks) (fun b o hb e=>eb b o hb e) f0 f1 f3 f4 f5⟩
 self:=fun _ _ _ _ _ st h=>wpAny_pyIter_tupleiter st h
theorem vG{P:Program}{w:World}{K:PySem.W.Frag}{tg:Expr}(it:Addr)(lo:Int)(n:Nat):Turn true P w K tg (Itr lo n) [it] it (fun i h=>IsRangeIter h it (lo+(i:Nat)*1) ((n:Int)-(i:Nat)) 1) where
 mem:=by simp
 obj:=fun i h st b hb=>by
  have e:b=it:=by simpa using hb
  subst e
  exact⟨_,st,fun v z=>by
   have z':Data.fields _=Data.cell v:=z
   cases z'⟩
 keep:=fun i h h' st k=>k it (by simp) _ st
 item:=by
  intro X hP hw hK hc i pins s O H E I hf st hg
  subst hP hw hK
  obtain⟨f0,f1,f2,f3,f4,f5⟩:=hf it (by simp)
  have W:=Walks.range (prog:=X.prog) (w:=X.w) (I.ok.hd (hc rfl)) it lo 1 n
  refine W.item i s _ _ hg st fun v h' tk hv st' kk=>?_
  obtain⟨t,rfl⟩:=hv
  have I1:Inv X pins O H {s with heap:=h',toks:=tk}:=I.turned (fun b o hb e=>kk b o (by simpa using hb) e) f0 f1 f3 f4 f5
  refine⟨_,rfl,AO (s:={s with heap:=h',toks:=tk}) (n:="range_iterator") st' rfl rfl ⋯ ⟨.int (lo+i),H,I1,⟨t,?_⟩,⟨rfl,rfl⟩,st',fun b hb=>(hf b hb).1⟩⟩
  rw[Int.mul_one]
 done:=by
  intro X hP hw hK hc i pins s O H E I hf st hg
  subst hP hw hK
  obtain⟨f0,f1,f2,f3,f4,f5⟩:=hf it (by simp)
  exact wpAny_pyNext_range_end (I.ok.hd (hc rfl)) st (by have:n<=i:=hg;omega) fun h' eb=>⟨rfl,I.turned (t':=s.toks) (fun b o hb e=>eb b o hb e) f0 f1 f3 f4 f5⟩
 self:=fun _ _ _ _ _ st h=>wpAny_pyIter_rangeiter st h
end L2
namespace L2
open PySem PySem.Spec PyProof.Rows
section
variable {X:Cx}{tg:Expr}
noncomputable def JH(K:PySem.W.Frag)(tl:TE):TI:=fun O H R=>tl O H fun x H1=>∃a,x = .ref a/\(∃xs,SqL K H1 a xs)/\R (Itl K a) H1
noncomputable def Kr(K:PySem.W.Frag)(tl:TE):TI:=fun O H R=>tl O H fun x H1=>∃a,x = .ref a/\(∃xs,SqT K H1 a xs)/\R (Itt K a) H1
theorem DH{l:Expr}{tl:TE}(hl:PE X l tl):PI X tg l (JH X.K tl):=by
 intro pins s O H R I h
 refine thn (hl pins s O H _ I h) fun v s1 hq0=>?_
 obtain⟨x,H1,I1,r1,q1⟩:=hq0
 obtain⟨a,e,⟨xs,hq⟩,q⟩:=q1
 subst e
 cases r1
 obtain⟨its,rv,p,hz⟩:=I1.list hq
 refine wpAny_pyIter_list p.isList ?_
 refine⟨s1.heap.objs.size,[s1.heap.objs.size],_,_,H1,rfl,I1.kept (t':=s1.toks) fun b o e=>Heap.get?_push_of_some _ e,yk a _,⟨_,Heap.get?_push_size _ rfl,rfl,rfl⟩,fun b hb=>?_,q⟩
 have e:b=s1.heap.objs.size:=by simpa using hb
 subst e
 exact I1.AS (le_refl _) (I1.hok.fresh (le_refl _))
theorem GI{l:Expr}{tl:TE}(hl:PE X l tl):PI X tg l (Kr X.K tl):=by
 intro pins s O H R I h
 refine thn (hl pins s O H _ I h) fun v s1 hq0=>?_
 obtain⟨x,H1,I1,r1,q1⟩:=hq0
 obtain⟨a,e,⟨xs,hq⟩,q⟩:=q1
 subst e
 cases r1
 obtain⟨its,rv,p,hz⟩:=I1.tuple hq
 refine wpAny_pyIter_tuple (show s1.heap.IsTuple a its.toArray from p) ?_
 refine⟨s1.heap.objs.size,[s1.heap.objs.size],_,_,H1,rfl,I1.kept (t':=s1.toks) fun b o e=>Heap.get?_push_of_some _ e,vV a _,⟨_,Heap.get?_push_size _ rfl,rfl,rfl⟩,fun b hb=>?_,q⟩
 have e:b=s1.heap.objs.size:=by simpa using hb
 subst e
 exact I1.AS (le_refl _) (I1.hok.fresh (le_refl _))
theorem ua(hc:X.calm=true){pins:List (Addr×Obj)}{O:St}{H:Hp}{s:Shared}{R:It->Hp->Prop}{E:Value->Shared->Prop}{lo hi:Int}{t u v:Tok}{tk:Nat}(I:Inv X pins O H s)(h1:-(2 ^ 62)<=lo)(h2:lo<2 ^ 62)(h3:-(2 ^ 62)<=hi)(h4:hi<2 ^ 62)
  (q:R (Itr lo (hi-lo).toNat) H):wpAny (model X.prog X.w) X.A (pyIter (.ref s.heap.objs.size)) (PIE X pins O tg R) E {s with heap:=s.heap.push {cls:=.type "range",data:=.fields #[.int lo t,.int hi u,.int 1 v]},toks:=tk}:=by
 refine wpAny_pyIter_range (IsRange.new ..) (small_one h1 h2 h3 h4) ?_
 have I1:Inv X pins O H {s with heap:=s.heap.push {cls:=.type "range",data:=.fields #[.int lo t,.int hi u,.int 1 v]},toks:=tk}:=I.kept fun b o e=>Heap.get?_push_of_some _ e
 refine⟨(s.heap.push {cls:=.type "range",data:=.fields #[.int lo t,.int hi u,.int 1 v]}).objs.size,[(s.heap.push {cls:=.type "range",data:=.fields #[.int lo t,.int hi u,.int 1 v]}).objs.size],_,_,H,rfl,
  I1.kept (t':=tk) fun b o e=>Heap.get?_push_of_some _ e,(vG _ lo (hi-lo).toNat).calm hc,?_,fun b hb=>?_,q⟩
 ·have e1:lo+((0:Nat):Int)*1=lo:=by simp
  have e2:(((hi-lo).toNat:Nat):Int)-((0:Nat):Int)=Builtin.Range.rangeSize lo hi 1:=by rw[rangeSize_one];split<;>omega
  show IsRangeIter _ _ (lo+((0:Nat):Int)*1) ((((hi-lo).toNat:Nat):Int)-((0:Nat):Int)) 1
  rw[e1,e2]
  exact Heap.get?_push_size _ rfl
 ·have e:b=(s.heap.push {cls:=.type "range",data:=.fields #[.int lo t,.int hi u,.int 1 v]}).objs.size:=by simpa using hb
  subst e
  exact I1.AS (le_refl _) (I1.hok.fresh (le_refl _))
noncomputable def Jc(ta:TA):TI:=fun O H R=>ta O H fun vs H1=>∃j:Int,vs=[.int j]/\-(2 ^ 62)<=j/\j<2 ^ 62/\R (Itr 0 j.toNat) H1
noncomputable def Jt(ta:TA):TI:=fun O H R=>ta O H fun vs H1=>∃i j:Int,vs=[.int i,.int j]/\(-(2 ^ 62)<=i/\i<2 ^ 62/\-(2 ^ 62)<=j/\j<2 ^ 62)/\R (Itr i (j-i).toNat) H1
theorem ze{a:Expr}{ta:TA}{p pos:Pos}(hc:X.calm=true)(hg:Gl X "range")(hm:X.mg "range"=none)(ha:PA X [a] ta)(hs:starEach [a] X.env=[(false,eval a X.env)]:=by rfl):PI X tg (.Call (.Name "range" p) [a] [] pos) (Jc ta):=by
 intro pins s O H R I h
 refine Call_ (lI I hg hm boot_range (PyProof.Rows.callWith_type1 (thn (ha pos pins s O H _ I h) fun us s1 hq0=>?_) hs rfl))
 obtain⟨vs,H1,I1,r1,q1⟩:=hq0
 obtain⟨j,e,q1,q2,q⟩:=q1
 subst e
 cases r1 with
 |cons r rr=>
  cases rr
  obtain⟨t,rfl⟩:=r
  exact call_range_1 (ua hc I1 ∅ ∅ q1 q2 (by simpa using q))
theorem zp{a b:Expr}{ta:TA}{p pos:Pos}(hc:X.calm=true)(hg:Gl X "range")(hm:X.mg "range"=none)(ha:PA X [a,b] ta)(hs:starEach [a,b] X.env=[(false,eval a X.env),(false,eval b X.env)]:=by rfl)(hs2:starEach [b] X.env=[(false,eval b X.env)]:=by rfl) :
  PI X tg (.Call (.Name "range" p) [a,b] [] pos) (Jt ta):=by
 intro pins s O H R I h
 refine Call_ (lI I hg hm boot_range (PyProof.Rows.callWith_type1 (thn (ha pos pins s O H _ I h) fun us s1 hq0=>?_) (by rw[hs,hs2]) (by rw[hs2];rfl)))
 obtain⟨vs,H1,I1,r1,q1⟩:=hq0
 obtain⟨i,j,e,⟨q1,q2,q3,q4⟩,q⟩:=q1
 subst e
 cases r1 with
 |cons r rr=>
  cases rr with
  |cons r' rr=>
   cases rr
   obtain⟨t,rfl⟩:=r
   obtain⟨t',rfl⟩:=r'
   exact call_range_2 (ua hc I1 q1 q2 q3 q4 q)
noncomputable def Ky(wi:TI)(g:TG)(tb:TS):TS:=fun D O H=>wi O H fun J H1=>∃W:Nat->Nat->St->Hp->Prop,(∃m,W 0 m O H1)/\∀i m O H,W i m O H ->
 (J.stop i H/\D.nx O H)\/(J.go i H/\∃N:St->Hp->Prop,(∀al H',N al H'->∃m',m'<m/\W (i+1) m' al H')/\∀x H',J.yld i H x H'->g x O H' fun ms H2=>tb {D with nx:=N,ct:=N,bk:=D.nx} ms H2)
noncomputable def sG(fp:List Addr)(h:Heap):List (Addr×Obj):=fp.filterMap fun b=>(h.get? b).map fun o=>(b,o)
theorem eG{fp:List Addr}{h:Heap}{b:Addr}{o:Obj}(hb:b∈fp)(e:h.get? b=some o):(b,o)∈sG fp h:=List.mem_filterMap.mpr ⟨b,hb,by rw[e];rfl⟩
theorem yU{fp:List Addr}{h:Heap}{p:Addr×Obj}(hp:p∈sG fp h):p.1∈fp/\h.get? p.1=some p.2:=by
 obtain⟨b,hb,e⟩:=List.mem_filterMap.mp hp
 cases q:h.get? b with
 |none=>rw[q] at e;cases e
 |some o=>
  rw[q] at e
  have e':(b,o)=p:=Option.some.inj e
  subst e'
  exact⟨hb,q⟩
theorem Inv.pinned{pins:List (Addr×Obj)}{O:St}{H:Hp}{s:Shared}{fp:List Addr}(I:Inv X pins O H s)(hf:∀b∈fp,pO X pins H b)(ho:∀b∈fp,∃o,s.heap.get? b=some o/\∀v,o.data≠.cell v):Inv X (pins++sG fp s.heap) O H s:=
 I.xX fun p hp=>(List.mem_append.mp hp).elim (fun z=>I.pin p (mem_append_right _ z)) fun z=>by
  obtain⟨hb,e⟩:=yU z
  obtain⟨f0,f1,f2,_⟩:=hf p.1 hb
  obtain⟨o,e',d⟩:=ho p.1 hb
  rw[e] at e';cases e'
  exact⟨e,f0,f1,f2,d⟩
theorem Inv.iA{pins pl:List (Addr×Obj)}{O:St}{H:Hp}{s:Shared}(I:Inv X (pins++pl) O H s):Inv X pins O H s:=I.xX fun p hp=>I.pin p (mem_append_right _ (mem_append_left _ hp))
theorem He{iter:Expr}{body:List Stmt}{wi:TI}{g:TG}{tb:TS}{pos:Pos}(hp:PassesOwn (model X.prog X.w) X.A X.env X.xe)(hc:X.calm=true)(hi:PI X tg iter wi)(hg:PG X tg g)(hb:PSs X body tb)
  (hs:∀x,foldedSetIterable iter X.env x=pure x:=by intro _;rfl):PS X (.For tg iter body [] pos) (Ky wi g tb):=by
 intro pins s O H D I h
 refine wpAny_For (thn (hi pins s O H _ I h) fun v s1 h1=>thn h1 fun itv s2 h2=>?_) hs
 obtain⟨it,fp,tn,J,H2,e,I2,T,st2,f2,W,⟨m0,w0⟩,turn⟩:=h2
 subst e
 have stat:∀{H':Hp},(∀b∈fp,H' b=none)->∀b∈fp,pO X pins H' b:=fun hn b hb=>⟨hn b hb,(f2 b hb).2⟩
 refine codeAny_forLoop_any (fun n s'=>∃i al H',Inv X pins al H' s'/\tn i s'.heap/\(∀b∈fp,H' b=none)/\W i n al H') ?_ m0 ⟨0,O,H2,I2,st2,fun b hb=>(f2 b hb).1,w0⟩
 rintro n s3 ⟨i,gV,H3,I3,st3,fr3,w3⟩
 rcases turn i n gV H3 w3 with ⟨stop,qn⟩|⟨go,N,hN,step⟩
 ·refine wpAny_passesOwn hp (thn (T.done X rfl rfl rfl (fun z=>z) i pins s3 gV H3 X.xe I3 (stat fr3) st3 stop) fun r s4 hq0=>?_)
  obtain⟨hr,I4⟩:=hq0
  subst hr
  exact wpAny_execs_nil ⟨gV,H3,I4,qn⟩
 ·refine wpAny_passesOwn hp (thn (T.item X rfl rfl rfl (fun z=>z) i pins s3 gV H3 X.xe I3 (stat fr3) st3 go) fun r s4 hq0=>?_)
  obtain⟨u,hr,h4⟩:=hq0
  subst hr
  refine wpAny_passesOwn hp (thn h4 fun _ s5 hq0=>?_)
  obtain⟨x,H5,I5,r5,y5,st5,fr5⟩:=hq0
  have I5':=I5.pinned (stat fr5) (T.obj _ _ st5)
  refine wpAny_passesOwn hp (thn (hg _ s5 gV H5 x u _ I5' r5 (step x H5 y5)) fun _ s6 hq0=>?_)
  obtain⟨rc,H6,I6,q6⟩:=hq0
  refine wpAny_passesOwn hp (thn (hb _ s6 rc H6 _ I6 q6) fun f s7 q7=>?_)
  have again:∀{ga:St} {H7:Hp},Inv X (pins++sG fp s5.heap) ga H7 s7->N ga H7->∃m,m<n/\∃i al H',Inv X pins al H' s7/\tn i s7.heap/\(∀b∈fp,H' b=none)/\W i m al H':=fun {ga H7} I7 n7=>by
   obtain⟨m',hm,w7⟩:=hN ga H7 n7
   refine⟨m',hm,i+1,ga,H7,I7.iA,T.keep _ _ _ st5 fun b hb o e=>(I7.pin (b,o) (mem_append_right _ (mem_append_right _ (eG hb e)))).1,fun b hb=>?_,w7⟩
   obtain⟨o,e,d⟩:=T.obj _ _ st5 b hb
   exact (I7.pin (b,o) (mem_append_right _ (mem_append_right _ (eG hb e)))).2.1
  cases f with
  |next=>obtain⟨ga,H7,I7,n7⟩:=q7;exact again I7 n7
  |cont=>obtain⟨ga,H7,I7,n7⟩:=q7;exact again I7 n7
  |brk=>obtain⟨ga,H7,I7,q7⟩:=q7;exact⟨ga,H7,I7.iA,q7⟩
  |ret v=>obtain⟨x7,ga,H7,I7,r7,q7⟩:=q7;exact⟨x7,ga,H7,I7.iA,r7,q7⟩
end
end L2
namespace L2
open PySem PySem.Spec PyProof.Rows
noncomputable abbrev R2:=V->V->Hp->VK->Prop
noncomputable def OpR(X:Cx)(f:Value->Value->Sem Value)(r:R2):Prop:=
 ∀(pins:List (Addr×Obj)) (s:Shared) (O:St) (H:Hp) (x y:V) (v u:Value) (Q:VK),Inv X pins O H s->RelV x v->RelV y u->r x y H Q ->
  wpAny (model X.prog X.w) X.A (f v u) (EP X pins O Q) X.xe s
noncomputable def UnR(X:Cx)(f:Value->Sem Value)(r:V->Hp->VK->Prop):Prop:=
 ∀(pins:List (Addr×Obj)) (s:Shared) (O:St) (H:Hp) (x:V) (v:Value) (Q:VK),Inv X pins O H s->RelV x v->r x H Q ->
  wpAny (model X.prog X.w) X.A (f v) (EP X pins O Q) X.xe s
noncomputable def dE(X:Cx)(f:Value)(r:List V->Hp->VK->Prop):Prop:=
 ∀(pins:List (Addr×Obj)) (s:Shared) (O:St) (H:Hp) (xs:List V) (us:List Value) (Q:VK),Inv X pins O H s->Vals xs us->r xs H Q ->
  wpAny (model X.prog X.w) X.A (call f us) (EP X pins O Q) X.xe s
noncomputable def Ki(X:Cx)(r:V->Hp->(Bool->Hp->Prop)->Prop):Prop:=
 ∀(pins:List (Addr×Obj)) (s:Shared) (O:St) (H:Hp) (x:V) (v:Value) (Q:Bool->Hp->Prop),Inv X pins O H s->RelV x v->r x H Q ->
  wpAny (model X.prog X.w) X.A (truthy v) (TP X pins O Q) X.xe s
noncomputable def tOp(r:R2)(ta tb:TE):TE:=fun O H Q=>ta O H fun x H1=>tb O H1 fun y H2=>r x y H2 Q
noncomputable def tUn(r:V->Hp->VK->Prop)(ta:TE):TE:=fun O H Q=>ta O H fun x H1=>r x H1 Q
noncomputable def rI(C:Int->Int->Prop)(g:Int->Int->V):R2:=fun x y H Q=>∃i j,x = .int i/\y = .int j/\C i j/\Q (g i j) H
noncomputable def rI0(g:Int->Int->V):R2:=fun x y H Q=>∃i j,x = .int i/\y = .int j/\Q (g i j) H
noncomputable def rU(g:Int->V):V->Hp->VK->Prop:=fun x H Q=>∃i,x = .int i/\Q (g i) H
section
variable {X:Cx}{a b c:Expr}{ta tb tc:TE}{pos:Pos}
theorem EU(ha:PE X a ta)(hb:PE X b tb){pins:List (Addr×Obj)}{s:Shared}{O:St}{H:Hp}{R:V->V->Hp->Prop}(I:Inv X pins O H s)
  (h:ta O H fun x H1=>tb O H1 fun y H2=>R x y H2) {Q:Value->Shared->Prop} {f:Value->Value->Sem Value}
  (hf:∀v u s2 x y H2,Inv X pins O H2 s2->RelV x v->RelV y u->R x y H2->wpAny (model X.prog X.w) X.A (f v u) Q X.xe s2) :
  wpAny (model X.prog X.w) X.A (eval a X.env) (fun v bi=>wpAny (model X.prog X.w) X.A (eval b X.env) (fun u dl=>wpAny (model X.prog X.w) X.A (f v u) Q X.xe dl) X.xe bi) X.xe s:=by
 refine thn (ha pins s O H _ I h) fun v s1 hq0=>?_
 obtain⟨x,H1,I1,r1,q1⟩:=hq0
 refine thn (hb pins s1 O H1 _ I1 q1) fun u s2 hq0=>?_
 obtain⟨y,H2,I2,r2,q2⟩:=hq0
 exact hf v u s2 x y H2 I2 r1 r2 q2
theorem Jz{op:Operator}{r:R2}(ho:OpR X (binaryOp op) r)(ha:PE X a ta)(hb:PE X b tb):PE X (.BinOp a op b pos) (tOp r ta tb):=by
 intro pins s O H Q I h
 exact wpAny_BinOp (EU ha hb I h fun v u s2 x y H2 I2 rx ry q=>ho pins s2 O H2 x y v u Q I2 rx ry q)
theorem IB{op:UnaryOp}{r:V->Hp->VK->Prop}(ho:UnR X (unaryOp op) r)(ha:PE X a ta):PE X (.UnaryOp op a pos) (tUn r ta):=by
 intro pins s O H Q I h
 exact UnaryOp_ (thn (ha pins s O H _ I h) fun v s1 ⟨x,H1,I1,r1,q1⟩=>ho pins s1 O H1 x v Q I1 r1 q1)
theorem opI{f:Value->Value->Sem Value}{C:Int->Int->Prop}{g:Int->Int->Int}
  (rule:∀(i j:Int) (t u:Tok) (s:Shared) (Q:Value->Shared->Prop) (E:Value->Shared->Prop),C i j->Q (.int (g i j) s.toks) {s with toks:=s.toks+1}->wpAny (model X.prog X.w) X.A (f (.int i t) (.int j u)) Q E s) :
  OpR X f (rI C fun i j=>.int (g i j)):=by
 intro pins s O H x y v u Q I rx ry h
 obtain⟨i,j,rfl,rfl,hc,q⟩:=h
 obtain⟨t,rfl⟩:=rx
 obtain⟨t',rfl⟩:=ry
 exact rule i j t t' s _ _ hc ⟨.int (g i j),H,I.tok _,⟨_,rfl⟩,q⟩
theorem IQ{f:Value->Value->Sem Value}{g:Int->Int->Int}
  (rule:∀(i j:Int) (t u:Tok) (s:Shared) (Q:Value->Shared->Prop) (E:Value->Shared->Prop),Q (.int (g i j) s.toks) {s with toks:=s.toks+1}->wpAny (model X.prog X.w) X.A (f (.int i t) (.int j u)) Q E s) :
  OpR X f (rI0 fun i j=>.int (g i j)):=by
 intro pins s O H x y v u Q I rx ry h
 obtain⟨i,j,rfl,rfl,q⟩:=h
 obtain⟨t,rfl⟩:=rx
 obtain⟨t',rfl⟩:=ry
 exact rule i j t t' s _ _ ⟨.int (g i j),H,I.tok _,⟨_,rfl⟩,q⟩
theorem Ds{f:Value->Value->Sem Value}{g:Int->Int->Bool}
  (rule:∀(i j:Int) (t u:Tok) (s:Shared) (Q:Value->Shared->Prop) (E:Value->Shared->Prop),Q (.bool (g i j)) s->wpAny (model X.prog X.w) X.A (f (.int i t) (.int j u)) Q E s) :
  OpR X f (rI0 fun i j=>.bl (g i j)):=by
 intro pins s O H x y v u Q I rx ry h
 obtain⟨i,j,rfl,rfl,q⟩:=h
 obtain⟨t,rfl⟩:=rx
 obtain⟨t',rfl⟩:=ry
 exact rule i j t t' s _ _ ⟨.bl (g i j),H,I,rfl,q⟩
noncomputable def Ge(i j:Int):Prop:=0<=j/\j<=1000000/\i.natAbs<2 ^ 64
noncomputable def Cb(i j:Int):Prop:=(-(2 ^ 64)<i/\i<2 ^ 64)\/(-(2 ^ 64)<j/\j<2 ^ 64)
theorem Cb.ok{i j:Int}(h:Cb i j):IntMulOk i j:=by
 rcases h with ⟨h1,h2⟩|⟨h1,h2⟩
 ·exact .of_left (intBits_le_64 h1 h2)
 ·exact .of_right (intBits_le_64 h1 h2)
theorem AD:OpR X (binaryOp .Add) (rI0 fun i j=>.int (i+j)):=IQ fun _ _ _ _ _ _ _ q=>add_int q
theorem EK:OpR X (binaryOp .Sub) (rI0 fun i j=>.int (i-j)):=IQ fun _ _ _ _ _ _ _ q=>sub_int q
theorem BV:OpR X (binaryOp .Mod) (rI (fun _ j=>j≠0) fun i j=>.int (i.fmod j)):=opI fun _ _ _ _ _ _ _ hc q=>mod_int' hc q
theorem HV:OpR X (binaryOp .Pow) (rI Ge fun i j=>.int (i ^ j.toNat)):=opI fun _ _ _ _ _ _ _ hc q=>pow_int_small hc.1 hc.2.1 hc.2.2 q
theorem unI{f:Value->Sem Value}{g:Int->Int}
  (rule:∀(i:Int) (t:Tok) (s:Shared) (Q:Value->Shared->Prop) (E:Value->Shared->Prop),Q (.int (g i) s.toks) {s with toks:=s.toks+1}->wpAny (model X.prog X.w) X.A (f (.int i t)) Q E s) :
  UnR X f (rU fun i=>.int (g i)):=by
 intro pins s O H x v Q I rx h
 obtain⟨i,rfl,q⟩:=h
 obtain⟨t,rfl⟩:=rx
 exact rule i t s _ _ ⟨.int (g i),H,I.tok _,⟨_,rfl⟩,q⟩
theorem Fi:UnR X (unaryOp .USub) (rU fun i=>.int (-i)):=unI fun _ _ _ _ _ q=>neg_int q
end
section
variable {X:Cx}{a b c:Expr}{ta tb tc:TE}{pos:Pos}
theorem z6:OpR X (compareOp .Lt) (rI0 fun i j=>.bl (decide (i<j))):=Ds fun _ _ _ _ _ _ _ q=>lt_int q
theorem uh:OpR X (compareOp .LtE) (rI0 fun i j=>.bl (decide (i<=j))):=Ds fun _ _ _ _ _ _ _ q=>le_int q
theorem Eg:OpR X (compareOp .Gt) (rI0 fun i j=>.bl (decide (j<i))):=Ds fun _ _ _ _ _ _ _ q=>gt_int q
theorem Eo:OpR X (compareOp .GtE) (rI0 fun i j=>.bl (decide (j<=i))):=Ds fun _ _ _ _ _ _ _ q=>ge_int q
theorem OpR.or{f:Value->Value->Sem Value}{r r':R2}(h:OpR X f r)(h':OpR X f r'):OpR X f (fun x y H Q=>r x y H Q\/r' x y H Q):=by
 intro pins s O H x y v u Q I rx ry q
 rcases q with q|q
 ·exact h pins s O H x y v u Q I rx ry q
 ·exact h' pins s O H x y v u Q I rx ry q
theorem dZ(b:Expr){op:CmpOp}(h:op≠.In:=by decide)(h2:op≠.NotIn:=by decide):behindInMarks op b=false:=by
 have e1:(op==CmpOp.In)=false:=by cases op<;>first|rfl|exact absurd rfl h
 have e2:(op==CmpOp.NotIn)=false:=by cases op<;>first|rfl|exact absurd rfl h2
 cases b<;>simp[behindInMarks,e1,e2]
theorem CJ{op:CmpOp}{r:R2}(ho:OpR X (compareOp op) r)(ha:PE X a ta)(hb:PE X b tb)(hm:behindInMarks op b=false):PE X (.Compare a [op] [b] pos) (tOp r ta tb):=by
 intro pins s O H Q I h
 exact wpAny_Compare1 (EU ha hb I h fun v u s2 x y H2 I2 rx ry q=>ho pins s2 O H2 x y v u Q I2 rx ry q) hm
noncomputable def Bl(t:TE):TT:=fun O H Q=>t O H fun x H'=>∃k,x = .bl k/\Q k H'
theorem DP{op:CmpOp}{r:R2}(ho:OpR X (compareOp op) r)(ha:PE X a ta)(hb:PE X b tb)(hm:behindInMarks op b=false):PT X (.Compare a [op] [b] pos) (Bl (tOp r ta tb)):=by
 intro pins s O H Q I h
 refine wpAny_isTrue_Compare1 (thn (ha pins s O H _ I h) fun v s1 ⟨x,H1,I1,r1,q1⟩=>thn (hb pins s1 O H1 _ I1 q1) fun u s2 ⟨y,H2,I2,r2,q2⟩=>
  thn (ho pins s2 O H2 x y v u _ I2 r1 r2 q2) fun c s3 ⟨z,H3,I3,r3,k,e,q3⟩=>?_) hm
 subst e
 cases r3
 exact wpAny_truthy_bool ⟨H3,I3,q3⟩
noncomputable def Be(r r':R2)(ta tb tc:TE):TE:=fun O H Q=>ta O H fun x H1=>tb O H1 fun y H2=>r x y H2 fun z H3=>∃k,z = .bl k /\
 (if k=true then tc O H3 fun w' H4=>r' y w' H4 Q else Q (.bl false) H3)
theorem AB{op op':CmpOp}{r r':R2}(ho:OpR X (compareOp op) r)(ho':OpR X (compareOp op') r')(ha:PE X a ta)(hb:PE X b tb)(hc:PE X c tc)
  (hm:lastMarks [op,op'] [b,c]=false:=by with_unfolding_all rfl):PE X (.Compare a [op,op'] [b,c] pos) (Be r r' ta tb tc):=by
 intro pins s O H Q I h
 refine Compare_chain (thn (ha pins s O H _ I h) fun v s1 ⟨x,H1,I1,r1,q1⟩=>chain_link (thn (hb pins s1 O H1 _ I1 q1) fun u s2 ⟨y,H2,I2,r2,q2⟩=>
  thn (ho pins s2 O H2 x y v u _ I2 r1 r2 q2) fun d s3 ⟨z,H3,I3,r3,k,e,q3⟩=>?_)) hm
 subst e
 cases r3
 refine wpAny_truthy_bool ?_
 cases k with
 |false=>exact ite_ff ⟨.bl false,H3,I3,rfl,q3⟩
 |true=>exact ite_tt (chain_last (thn (hc pins s3 O H3 _ I3 q3) fun w' s4 ⟨z',H4,I4,r4,q4⟩=>ho' pins s4 O H4 y z' u w' Q I4 r2 r4 q4))
theorem Bv{op op':CmpOp}{r r':R2}(ho:OpR X (compareOp op) r)(ho':OpR X (compareOp op') r')(ha:PE X a ta)(hb:PE X b tb)(hc:PE X c tc)
  (hm:lastMarks [op,op'] [b,c]=false:=by with_unfolding_all rfl):PT X (.Compare a [op,op'] [b,c] pos) (Bl (Be r r' ta tb tc)):=by
 intro pins s O H Q I h
 refine isTrue_chain (thn (ha pins s O H _ I h) fun v s1 ⟨x,H1,I1,r1,q1⟩=>test_link (thn (hb pins s1 O H1 _ I1 q1) fun u s2 ⟨y,H2,I2,r2,q2⟩=>
  thn (ho pins s2 O H2 x y v u _ I2 r1 r2 q2) fun d s3 ⟨z,H3,I3,r3,k,e,q3⟩=>?_)) hm
 subst e
 cases r3
 refine wpAny_truthy_bool ?_
 cases k with
 |false=>
  obtain⟨k',e',q'⟩:=q3
  cases e'
  exact ite_ff ⟨H3,I3,q'⟩
 |true=>
  refine ite_tt (test_last (thn (hc pins s3 O H3 _ I3 q3) fun w' s4 ⟨z',H4,I4,r4,q4⟩=>thn (ho' pins s4 O H4 y z' u w' _ I4 r2 r4 q4) fun d' s5 hq0=>?_))
  obtain⟨z2,H5,I5,r5,k2,e2,q5⟩:=hq0
  subst e2
  cases r5
  exact wpAny_truthy_bool ⟨H5,I5,q5⟩
noncomputable def IF(K:PySem.W.Frag)(x:V)(H:Hp)(k:Bool):Prop:=
 match x with
 |.non=>k=false
 |.bl b=>k=b
 |.int i=>k=(i != 0)
 |.str y=>y.length<=sizeLine/\k=((y.length:Int) != 0)
 |.byt y=>y.size<=sizeLine/\k=((y.size:Int) != 0)
 |.ref p=>(∃xs,SqL K H p xs/\k = !xs.isEmpty)\/(∃xs,SqT K H p xs/\k = !xs.isEmpty)\/∃kvs,H p=some (.dK kvs)/\k = !kvs.isEmpty
 |_=>False
theorem wB{κ:Type}{kvs:List (κ×V)}{vs:List (κ×Value)}(r:KV kvs vs):(!vs.isEmpty) = !kvs.isEmpty:=by
 cases r<;>rfl
theorem nZ{xs:List V}{its:List Value}(r:Vals xs its):(!its.toArray.isEmpty) = !xs.isEmpty:=by
 cases r<;>simp
theorem kY:(sizeLine:Nat)<2 ^ 63:=by rw[sizeLine_eq];decide
theorem Hb:Ki X (fun x H Q=>∃k,IF X.K x H k/\Q k H):=by
 intro pins s O H x v Q I rx h
 obtain⟨k,e,q⟩:=h
 have hl:=kY
 have hs:sizeLine=16777216:=sizeLine_eq
 cases x with
 |non=>
  cases rx
  have e':k=false:=e
  subst e'
  exact truthy_none ⟨H,I,q⟩
 |bl b=>
  cases rx
  have e':k=b:=e
  subst e'
  exact wpAny_truthy_bool ⟨H,I,q⟩
 |int i=>
  obtain⟨t,rfl⟩:=rx
  have e':k=(i != 0):=e
  subst e'
  exact PySem.P.truthy_int ⟨H,I,q⟩
 |str y=>
  obtain⟨t,rfl⟩:=rx
  obtain⟨hy,e'⟩:y.length<=sizeLine/\k=((y.length:Int) != 0):=e
  subst e'
  exact PySem.P.truthy_str ∅ ⟨H,I.tok _,q⟩
 |byt y=>
  obtain⟨t,rfl⟩:=rx
  obtain⟨hy,e'⟩:y.size<=sizeLine/\k=((y.size:Int) != 0):=e
  subst e'
  exact PySem.W.truthy_bytes ∅ ⟨H,I.tok _,q⟩
 |ref p=>
  cases rx
  have e':(∃xs,SqL X.K H p xs/\k = !xs.isEmpty)\/(∃xs,SqT X.K H p xs/\k = !xs.isEmpty)\/∃kvs,H p=some (.dK kvs)/\k = !kvs.isEmpty:=e
  rcases e' with ⟨xs,hx,e'⟩|⟨xs,hx,e'⟩|⟨kvs,hx,e'⟩
  ·subst e'
   obtain⟨its,r,pl,hz⟩:=I.list hx
   have hlen:=r.length
   exact wpAny_truthy_list pl.isList (by simp only[size_toArray];omega) ⟨H,I.tok _,by rw[nZ r];exact q⟩
  ·subst e'
   obtain⟨its,r,pl,hz⟩:=I.tuple hx
   have hlen:=r.length
   exact truthy_tuple pl (by simp only[size_toArray];omega) ⟨H,I.tok _,by rw[nZ r];exact q⟩
  ·subst e'
   obtain⟨hz,hS,vs,r,m⟩:kvs.length<=sizeLine/\(p==sysModules)=false/\∃vs,KV kvs vs/\s.heap.DictOf (tm X.prog X.w) p vs:=I.hok p _ hx
   have hlen:kvs.length=vs.length:=Paired.length r
   exact wpAny_truthy_dict hS m ∅ ⟨H,I.tok _,by rw[wB r];exact q⟩
 |_=>exact (show False from e).elim
theorem AE(ha:PE X a ta)(he:∀whole,isTrue a X.env whole=(do let v <- whole;standAt a.pos;holding [v] (truthy v))) :
  PT X a (fun O H Q=>ta O H fun x H'=>∃k,IF X.K x H' k/\Q k H'):=by
 intro pins s O H Q I h
 exact isTrue_plain (thn (ha pins s O H _ I h) fun v s1 ⟨x,H1,I1,r1,q1⟩=>Hb pins s1 O H1 x v Q I1 r1 q1) (he _)
theorem vals1{x:V}{us:List Value}(r:Vals [x] us):∃u,us=[u]/\RelV x u:=by
 cases r with
 |cons r1 r2=>cases r2;exact⟨_,rfl,r1⟩
theorem vals2{x y:V}{us:List Value}(r:Vals [x,y] us):∃u w',us=[u,w']/\RelV x u/\RelV y w':=by
 cases r with
 |cons r1 r2=>
  cases r2 with
  |cons r3 r4=>cases r4;exact⟨_,_,rfl,r1,r3⟩
theorem A7:dE X (.builtin "abs") (fun xs H Q=>∃i,xs=[.int i]/\Q (.int (if i<0 then -i else i)) H):=by
 intro pins s O H xs us Q I r h
 obtain⟨i,rfl,q⟩:=h
 obtain⟨u,rfl,t,rfl⟩:=vals1 r
 exact call_abs_int fun u tk=>⟨.int (if i<0 then -i else i),H,I.tok _,⟨_,rfl⟩,q⟩
theorem yo(hc:X.calm=true):dE X (.builtin "max") (fun xs H Q=>∃i j,xs=[.int i,.int j]/\Q (.int (if j>i then j else i)) H):=by
 intro pins s O H xs us Q I r h
 obtain⟨i,j,rfl,q⟩:=h
 obtain⟨u,w',rfl,⟨t,rfl⟩,⟨t',rfl⟩⟩:=vals2 r
 refine max_two_ints (I.ok.hd hc) fun h' tk k=>⟨_,H,I.kept k,?_,q⟩
 by_cases hj:j>i
 ·rw[if_pos hj,if_pos hj];exact⟨_,rfl⟩
 ·rw[if_neg hj,if_neg hj];exact⟨_,rfl⟩
theorem yf(hc:X.calm=true):dE X (.builtin "min") (fun xs H Q=>∃i j,xs=[.int i,.int j]/\Q (.int (if j<i then j else i)) H):=by
 intro pins s O H xs us Q I r h
 obtain⟨i,j,rfl,q⟩:=h
 obtain⟨u,w',rfl,⟨t,rfl⟩,⟨t',rfl⟩⟩:=vals2 r
 refine min_two_ints (I.ok.hd hc) fun h' tk k=>⟨_,H,I.kept k,?_,q⟩
 by_cases hj:j<i
 ·rw[if_pos hj,if_pos hj];exact⟨_,rfl⟩
 ·rw[if_neg hj,if_neg hj];exact⟨_,rfl⟩
theorem yP:dE X (.type "int") (fun xs H Q=>(∃i,xs=[.int i]/\Q (.int i) H)\/∃k,xs=[.bl k]/\Q (.int (if k then 1 else 0)) H):=by
 intro pins s O H xs us Q I r h
 rcases h with ⟨i,rfl,q⟩|⟨k,rfl,q⟩
 ·obtain⟨u,rfl,t,rfl⟩:=vals1 r
  exact call_int_int ⟨.int i,H,I,⟨_,rfl⟩,q⟩
 ·obtain⟨u,rfl,r1⟩:=vals1 r
  cases r1
  exact call_int_bool ⟨.int (if k then 1 else 0),H,I.tok _,⟨_,rfl⟩,q⟩
end
end L2
namespace L2
open PySem PySem.Spec PyProof.Rows
end L2
namespace L2
open PySem PySem.Spec PyProof.Rows
structure cR(k:Nat)(A:Around):Prop where
 hd:A.handled=none
 dp:A.depth+3*k+5<recursionLimit
 un:A.units+16*k+200<cLine
theorem cR.mono{j k:Nat}{A:Around}(r:cR k A)(h:j<=k):cR j A:=⟨r.hd,by have:=r.dp;omega,by have:=r.un;omega⟩
theorem cR.deeper{k:Nat}{A:Around}(r:cR (k+1) A)(env:Env):cR k (A.deeper env):=
 ⟨r.hd,by have:=r.dp;show A.depth+1+3*k+5<_;omega,by have:=r.un;show A.units+3+16*k+200<_;omega⟩
theorem cR.depth{k:Nat}{A:Around}(r:cR k A):A.depth<recursionLimit:=by have:=r.dp;omega
theorem cR.units{k:Nat}{A:Around}(r:cR k A):A.units+64<cLine:=by have:=r.un;omega
noncomputable def Lm:TA:=fun _ H Q=>Q [] H
noncomputable def J4(ta:TE)(tr:TA):TA:=fun O H Q=>ta O H fun x H1=>tr O H1 fun xs H2=>Q (x::xs) H2
section
variable {X:Cx}{e:Expr}{es:List Expr}{te:TE}{t:TA}{pos:Pos}
theorem nX:PA X [] Lm:=fun _ _ _ _ H Q I h=>Calls.spliced_nil ⟨[],H,I,.nil,h⟩
theorem iK(ha:PE X e te)(hr:PA X es t)(hs:starEach (e::es) X.env=(false,eval e X.env)::starEach es X.env:=by rfl):PA X (e::es) (J4 te t):=by
 intro pos pins s O H Q I h
 rw[hs]
 show wpAny _ _ (spliced ((false,eval e X.env)::backTo pos (starEach es X.env))) _ _ s
 refine Calls.spliced_cons (thn (ha pins s O H _ I h) fun u s1 hq0=>?_)
 obtain⟨x,H1,I1,r1,q1⟩:=hq0
 exact thn (hr pos pins s1 O H1 _ I1 q1) fun us s2 ⟨xs,H2,I2,r2,q2⟩=>⟨x::xs,H2,I2,.cons r1 r2,q2⟩
noncomputable def KS(t:TA):TE:=fun O H Q=>t O H fun xs H1=>xs.length<=sizeLine/\∀p,H1 p=none->Q (.ref p) (upd H1 p (.tup xs))
noncomputable def Kw(t:TA):TE:=fun O H Q=>t O H fun xs H1=>xs.length<=sizeLine/\∀p,H1 p=none->Q (.ref p) (upd H1 p (.lst xs))
theorem ET{x1}(h:PA X es t):PE X (.Tuple es x1 pos) (KS t):=by
 intro pins s O H Q I hq
 refine wpAny_Tuple_spliced (thn (h pos pins s O H _ I hq) fun us s1 ⟨xs,H1,I1,r,z,q⟩=>⟨by rw[<- r.length];exact z,?_⟩)
 have hf:H1 s1.heap.objs.size=none:=I1.hok.fresh (le_refl _)
 refine⟨.ref s1.heap.objs.size,upd H1 s1.heap.objs.size (.tup xs),I1.laid (t':=s1.toks) (fun b u e=>Heap.get?_push_of_some _ e) (le_refl _) ?_,rfl,q _ hf⟩
 exact⟨z,us,r,⟨_,Heap.get?_push_size _ rfl,rfl,_,rfl⟩⟩
theorem Ie(h:PA X es t):PE X (.List es pos) (Kw t):=by
 intro pins s O H Q I hq
 refine wpAny_List_spliced (thn (h pos pins s O H _ I hq) fun us s1 ⟨xs,H1,I1,r,z,q⟩=>⟨by rw[<- r.length];exact z,?_⟩)
 have hf:H1 s1.heap.objs.size=none:=I1.hok.fresh (le_refl _)
 refine⟨.ref s1.heap.objs.size,upd H1 s1.heap.objs.size (.lst xs),I1.laid (t':=s1.toks) (fun b u e=>Heap.get?_push_of_some _ e) (le_refl _) ?_,rfl,q _ hf⟩
 exact⟨z,us,0,r,Heap.get?_push_size _ rfl⟩
end
noncomputable abbrev Sp:=List V->Hp->VK->XK->Prop
noncomputable abbrev CXT:=List Env->Hp->Shared->XK->Value->Shared->Prop
structure Cp(P:Program)(w:World)(K:PySem.W.Frag)(mg:Str->Option Value)(base:Heap)(A:Around)(outer:List Env)(s:Shared)(H:Hp):Prop where
 frames:A.frames=some outer
 mod:Mod K mg base
 bs:∀b o,base.get? b=some o->s.heap.get? b=some o/\H b=none
 bsz:base.objs.size<=s.heap.objs.size
 oW:s.heap.FunFrames base outer
 frf:∀b∈frs outer,H b=none
 hok:HOk P w H s.heap
 bare:AllBare s.gens
noncomputable def CE(outer:List Env)(P:Program)(w:World)(H:Hp)(s:Shared)(Q:VK)(u:Value)(s':Shared):Prop:=
 ∃v H',s'.os=s.os/\AllBare s'.gens/\Un (frs outer) [] H H' s.heap s'.heap/\HOk P w H' s'.heap/\RelV v u/\Q v H'
noncomputable def CR(CX:CXT)(outer:List Env)(P:Program)(w:World)(H:Hp)(s:Shared)(Q:VK)(E:XK)(r:Result)(s':Shared):Prop:=
 match r with
 |.ok (.ret u)=>CE outer P w H s Q u s'
 |.ok _=>False
 |.error e=>CX outer H s E e s'
structure eJ(P:Program)(w:World)(K:PySem.W.Frag)(mg:Str->Option Value)(base:Heap)(CX:CXT)(k:Nat)(f:Addr)(fd:FuncData)(ps:List Str)(sp:Sp):Prop where
 len:∀vs H Q E,sp vs H Q E->vs.length=ps.length
 run:∀(A:Around) (outer:List Env) (s:Shared) (H:Hp) (args:Args) (us:List Value) (vs:List V) (Q:VK) (E:XK),cR k A->Cp P w K mg base A outer s H->BindsTo s fd args (ps.zip us)->Vals vs us->sp vs H Q E ->
  codeAny (model P w) A (.call (.ref f) args) (CR CX outer P w H s Q E) s
theorem eJ.imp{P:Program}{w:World}{K:PySem.W.Frag}{mg:Str->Option Value}{base:Heap}{CX:CXT}{k:Nat}{f:Addr}{fd:FuncData}{ps:List Str}{sp sp':Sp}(F:eJ P w K mg base CX k f fd ps sp)
  (h:∀vs H Q E,sp' vs H Q E->sp vs H Q E):eJ P w K mg base CX k f fd ps sp':=
 ⟨fun vs H Q E q=>F.len vs H Q E (h _ _ _ _ q),fun A outer s H args us vs Q E hr he hb hv hs=>F.run A outer s H args us vs Q E hr he hb hv (h _ _ _ _ hs)⟩
section
variable {X:Cx}{pins:List (Addr×Obj)}{O:St}{H:Hp}{s s':Shared}
theorem Inv.Lr(I:Inv X pins O H s):Cp X.prog X.w X.K X.mg X.base X.A X.stack s H:=
 ⟨I.ok.frames,I.ok.mod,I.bs,le_trans I.ok.bsz I.sz,I.stack,I.xP,I.hok,I.bare⟩
theorem Inv.after{Q:VK}{u:Value}(I:Inv X pins O H s)(h:CE X.stack X.prog X.w H s Q u s'):EP X pins O Q u s':=by
 obtain⟨v,H',os,bare,un,hok,r,q⟩:=h
 obtain⟨hh,g,d,t,os'⟩:=s'
 obtain rfl:os'=s.os:=os
 exact⟨v,H',I.call (h':=hh) (g':=g) (d':=d) (t':=t) (ch:=[]) un hok bare (fun b z=>absurd z (by simp)),r,q⟩
end
noncomputable def Je(sp:Sp)(dvs:List V)(E:XK)(t:TA):TE:=fun O H Q=>t O H fun vs H1=>sp (vs++dvs) H1 Q E
noncomputable def Binds(K:PySem.W.Frag)(fd:FuncData)(ps:List Str)(ds:List Value):Prop:=
 ∀(s:Shared) (us:List Value),K.In s.heap->(us++ds).length=ps.length->BindsTo s fd ⟨us,[]⟩ (ps.zip (us++ds))
theorem Binds.all{K:PySem.W.Frag}{fd:FuncData}{ps:List Str}(h:∀us:List Value,us.length=ps.length->bindArgs fd ⟨us,[]⟩=pure (ps.zip us)):Binds K fd ps []:=fun s us _ hl=>by
 rw[List.append_nil] at hl ⊢
 exact .of_eq (h us hl)
noncomputable def Passes(CX:CXT)(X:Cx)(E:XK):Prop:=∀(pins:List (Addr×Obj)) (O:St) (H:Hp) (s:Shared) (e:Value) (s':Shared),Inv X pins O H s->CX X.stack H s E e s'->X.xe e s'
section
variable {X:Cx}{CX:CXT}{k:Nat}{f C:Addr}{fd:FuncData}{ps:List Str}{sp:Sp}{dvs:List V}{ds:List Value}{E:XK}{x m:Str}{p pos apos:Pos}{e o:Expr}{es:List Expr}{ta:TE}{t:TA}
theorem FP{pins:List (Addr×Obj)}{O:St}{H:Hp}{s:Shared}{Q:VK}{us:List Value}{vs:List V}(F:eJ X.prog X.w X.K X.mg X.base CX k f fd ps sp)(hr:cR k X.A)(hb:Binds X.K fd ps ds)(hd:Vals dvs ds)(hx:Passes CX X E)
  (I:Inv X pins O H s) (r:Vals vs us) (h:sp (vs++dvs) H Q E):wpAny (model X.prog X.w) X.A (call (.ref f) us) (EP X pins O Q) X.xe s:=by
 have r2:Vals (vs++dvs) (us++ds):=r.append hd
 have hl:(us++ds).length=ps.length:=by rw[<- r2.length];exact F.len _ _ _ _ h
 refine wpAny_call (codeAny_mono (F.run X.A X.stack s H ⟨us,[]⟩ (us++ds) (vs++dvs) Q E hr I.Lr (hb s us I.kIn hl) r2 h) fun r s' hq=>?_)
 cases r with
 |error e=>exact hx pins O H s e s' I hq
 |ok fl=>
  cases fl with
  |ret u=>exact I.after hq
  |next=>exact False.elim hq
  |brk=>exact False.elim hq
  |cont=>exact False.elim hq
theorem Dm(F:eJ X.prog X.w X.K X.mg X.base CX k f fd ps sp)(hr:cR k X.A)(hg:Gl X x)(hm:X.mg x=some (.ref f))(hk:keepIn X.K (.ref f)=true)(hb:Binds X.K fd ps ds)(hd:Vals dvs ds)(hx:Passes CX X E)
  (ha:PA X (e::es) t) (hdb:(x==("__debug__":Str))=false:=by decide) (he:starEach (e::es) X.env=(false,eval e X.env)::starEach es X.env:=by rfl) (hpl:(backTo pos (starEach es X.env)).any (·.1)=false:=by rfl) :
  PE X (.Call (.Name x p) (e::es) [] pos) (Je sp dvs E t):=by
 intro pins s O H Q I h
 refine wpAny_Call_Name_kw (wL I hg hm ?_ hdb)
 refine PySem.W.callWith_K (h₀:=X.base) I.ok.mod.kin hk (thn (ha pos pins s O H _ I h) fun us s1 ⟨vs,H1,I1,r,q⟩=>⟨I1.kIn,?_⟩) he hpl
 exact FP F hr hb hd hx I1 r q
end
structure iP(N P:List Str)(sc:Scope):Prop where
 kind:sc.kind = .function
 co:sc.isCoroutine=false
 gen:sc.isGenerator=false
 nd:N.Nodup
 pre:N.take P.length=P
 par:∀x∈P,sc.names.lookup x=some .local\/sc.names.lookup x=some .cell
 ER:∀y∈sc.names,y.2≠.free
theorem qJ{kindOf:Str->Option NameKind}{x:Str}:∀{binds:List (Str×Value)} {m:Str->Option Value},(∀v,(x,v) ∉ binds)->bindL kindOf binds m x=m x
 |[],_,_=>rfl
 |(n,v)::r,m,h=>by
  unfold bindL
  rw[qJ fun w hw=>h w (mem_cons_of_mem _ hw)]
  split
  ·have:x≠n:=by rintro rfl;exact h v mem_cons_self
   simp[this]
  ·rfl
theorem qD{kindOf:Str->Option NameKind}{x:Str}:∀{binds:List (Str×Value)} {m:Str->Option Value},(∀v,(x,v) ∉ binds)->bindC kindOf binds m x=m x
 |[],_,_=>rfl
 |(n,v)::r,m,h=>by
  unfold bindC
  rw[qD fun w hw=>h w (mem_cons_of_mem _ hw)]
  split
  ·rfl
  ·have:x≠n:=by rintro rfl;exact h v mem_cons_self
   simp[this]
theorem qS{kindOf:Str->Option NameKind}{x:Str}{v:Value}:∀{P:List Str} {vs:List Value} {i:Nat} {m:Str->Option Value},P.Nodup->P[i]? = some x->vs[i]? = some v->kindOf x=some .local ->
  bindL kindOf (P.zip vs) m x=some v
 |[],_,_,_,_,h,_,_=>by simp at h
 |_::_,[],_,_,_,_,h,_=>by simp at h
 |p::P,w::vs,0,m,nd,h1,h2,hk=>by
  simp at h1 h2;subst h1;subst h2
  show bindL kindOf ((p,w)::P.zip vs) m p=_
  unfold bindL
  rw[qJ fun v hv=>(List.nodup_cons.mp nd).1 (List.of_mem_zip hv).1,if_pos hk]
  simp
 |p::P,w::vs,i+1,m,nd,h1,h2,hk=>by
  show bindL kindOf ((p,w)::P.zip vs) m x=_
  unfold bindL
  exact qS (i:=i) (List.nodup_cons.mp nd).2 (by simpa using h1) (by simpa using h2) hk
theorem qO{kindOf:Str->Option NameKind}{x:Str}{v:Value}:∀{P:List Str} {vs:List Value} {i:Nat} {m:Str->Option Value},P.Nodup->P[i]? = some x->vs[i]? = some v->kindOf x≠some .local ->
  bindC kindOf (P.zip vs) m x=some v
 |[],_,_,_,_,h,_,_=>by simp at h
 |_::_,[],_,_,_,_,h,_=>by simp at h
 |p::P,w::vs,0,m,nd,h1,h2,hk=>by
  simp at h1 h2;subst h1;subst h2
  show bindC kindOf ((p,w)::P.zip vs) m p=_
  unfold bindC
  rw[qD fun v hv=>(List.nodup_cons.mp nd).1 (List.of_mem_zip hv).1,if_neg hk]
  simp
 |p::P,w::vs,i+1,m,nd,h1,h2,hk=>by
  show bindC kindOf ((p,w)::P.zip vs) m x=_
  unfold bindC
  exact qO (i:=i) (List.nodup_cons.mp nd).2 (by simpa using h1) (by simpa using h2) hk
noncomputable def start(N:List Str)(vs:List V):St:=vs.map some++List.replicate (N.length-vs.length) none
noncomputable def rR(CX:CXT)(P:Program)(w:World)(K:PySem.W.Frag)(mg:Str->Option Value)(base:Heap)(N:List Str)(qual:Str)(scope:Scope)(f:Addr)(cd:Value)(A:Around)(outer:List Env)(s:Shared)(H:Hp)(E:XK):Cx where
 prog:=P
 w:=w
 K:=K
 mg:=mg
 base:=base
 A:=A.deeper (envOfC qual scope s.heap.objs.size f cd)
 N:=N
 ce:=s
 H₀:=H
 env:=envOfC qual scope s.heap.objs.size f cd
 outer:=outer
 stack:=envOfC qual scope s.heap.objs.size f cd::outer
 ex:=[]
 calm:=true
 fn:=fun _=>true
 pn:=[]
 xe:=fun e s'=>wpAny (model P w) (A.deeper (envOfC qual scope s.heap.objs.size f cd)) (leaving (envOfC qual scope s.heap.objs.size f cd) e) (fun _ s''=>CX outer H s E e s'') (fun e' s''=>CX outer H s E e' s'') s'
theorem tP{sc:Scope}{n:Nat}{x:Str}(h:sc.names.lookup x=some .cell):∃c,(cellsFrom n sc.names []).lookup x=some c:=by
 have q:=PySem.W.cellsFrom_some sc.names n [] (.inl h)
 exact Option.isSome_iff_exists.mp q
theorem yi{CX:CXT}{P:Program}{w:World}{K:PySem.W.Frag}{mg:Str->Option Value}{base:Heap}{N ps:List Str}{qual:Str}{scope:Scope}{f:Addr}{cd:Value}{A:Around}{outer:List Env}{s s1:Shared}{H:Hp}{E:XK}{us:List Value}{vs:List V}
  (S:iP N ps scope) (hd:A.handled=none) (e0:Cp P w K mg base A outer s H) (hl:vs.length=ps.length) (r:Vals vs us)
  (x:InCallC s s.heap.objs.size (bindL (envOfC qual scope s.heap.objs.size f cd).kindOf (ps.zip us) fun _=>none) (cellsFrom (s.heap.objs.size+1) scope.names []) (bindC (envOfC qual scope s.heap.objs.size f cd).kindOf (ps.zip us) fun _=>none) s1) :
  Inv (rR CX P w K mg base N qual scope f cd A outer s H E) [] (start N vs) H s1:=by
 have hpl:ps.length<=N.length:=by have:=congrArg List.length S.pre;rw[length_take] at this;omega
 obtain⟨h1,tk,rfl,hk⟩:=x.done
 have noA:∀b:Addr,b ∉ (rR CX P w K mg base N qual scope f cd A outer s H E).ex:=fun b z=>absurd (show b∈([]:List Addr) from z) (by simp)
 refine⟨⟨e0.mod,S.kind,rfl,rfl,le_refl _,fun y z c h1 h2=>?_,fun y hy=>?_,fun y c _ h=>?_,fun _=>hd,.inl hd,Around.frames_deeper e0.frames,.inr ⟨rfl,rfl⟩,fun b z=>absurd z (noA b),e0.bs,e0.bsz,fun b _ _=>noA b,fun b z=>absurd z (noA b),e0.oW,e0.frf⟩,
  rfl,e0.bare,Un.kept hk,⟨_,x.toInCall.ns,fun i y v h1 h2 h3=>?_⟩,fun y c h=>⟨_,x.cell y c h⟩,e0.hok.fresh (le_refl _),fun y c h=>?_,fun p hp=>absurd (show p∈([]:List (Addr×Obj)) from hp) (by simp),e0.hok.kept hk,?_⟩
 ·exact name_of_addr x.apart (mem_of_lookup h1) (mem_of_lookup h2)
 ·have hy:scope.names.lookup y=some .cell\/scope.names.lookup y=some .free:=hy
  rcases hy with hy|hy
  ·exact tP hy
  ·exact absurd rfl (S.ER _ (mem_of_lookup hy))
 ·exact Nat.le_of_lt (x.above y c (mem_of_lookup h))
 ·have hi:i<vs.length:=by
   unfold start at h2
   by_cases hi:i<vs.length
   ·exact hi
   ·rw[List.getElem?_append_right (by simpa using hi)] at h2
    rw[List.getElem?_replicate] at h2
    split at h2<;>cases h2
  have ha:vs[i]? = some v:=by
   unfold start at h2
   rw[List.getElem?_append_left (by simpa using hi),getElem?_map] at h2
   cases e:vs[i]? with
   |none=>rw[e] at h2;cases h2
   |some a=>rw[e] at h2;cases h2;rfl
  obtain⟨u,hu,rv⟩:=r.get ha
  have hp:ps[i]? = some y:=by
   rw[<- S.pre,List.getElem?_take_of_lt ∅];exact h1
  have ndP:ps.Nodup:=by rw[<- S.pre];exact S.nd.sublist (List.take_sublist _ _)
  refine⟨u,rv,?_⟩
  rcases S.par y (mem_of_getElem? hp) with k|k
  ·exact .inl ⟨k,qS ndP hp hu k⟩
  ·obtain⟨c,e⟩:=tP (n:=s.heap.objs.size+1) k
   refine .inr ⟨.inl k,c,e,?_⟩
   have q:=x.cell y c e
   rw[qO ndP hp hu (by show scope.names.lookup y≠_;rw[k];decide)] at q
   exact q
 ·exact e0.hok.fresh (Nat.le_of_lt (x.above y c (mem_of_lookup h)))
 ·unfold start
  show _=N.length
  rw[length_append,length_map,List.length_replicate]
  omega
theorem Ij{CX:CXT}{P:Program}{w:World}{K:PySem.W.Frag}{mg:Str->Option Value}{base:Heap}{k:Nat}{f:Addr}{name qual:Str}{params:Arguments}{body:List Stmt}{scope:Scope}{dV kV doc pm cdv ct oc:Value}{an od:Option Addr}
  {osl:Array (Option Value)} {N ps:List Str} {sp:Sp} (lk:K.lookup f=some ⟨oc,od,.func (fnOf name qual params body scope dV kV doc pm an cdv ct),osl⟩) (hcd:codeIn K cdv qual=true) (S:iP N ps scope)
  (len:∀vs H Q E,sp vs H Q E->vs.length=ps.length)
  (hbody:∀(A:Around) (outer:List Env) (s:Shared) (H:Hp) (vs:List V) (Q:VK) (E:XK),cR k (A.deeper (envOfC qual scope s.heap.objs.size f cdv))->sp vs H Q E ->
   ∃t,PSs (rR CX P w K mg base N qual scope f cdv A outer s H E) body t/\t {nx:=fun _ H'=>Q .non H',rt:=Q} (start N vs) H) :
  eJ P w K mg base CX (k+1) f (fnOf name qual params body scope dV kV doc pm an cdv ct) ps sp:=by
 refine⟨len,fun A outer s H args us vs Q E hr e0 hb r hsp=>?_⟩
 have hl:=len _ _ _ _ hsp
 have KX:K.In s.heap:=e0.mod.kin.keeps fun b o e=>(e0.bs b o e).1
 have lim:s.heap.NoLimit:=e0.mod.nolimit.keeps fun b o e=>(e0.bs b o e).1
 have hkind:∀y∈ps.zip us,scope.names.lookup y.1=some .local\/(scope.names.lookup y.1=some .cell/\((cellsFrom (s.heap.objs.size+1) scope.names []).lookup y.1).isSome=true):=fun ⟨n,v⟩ hy=>by
  rcases S.par n (List.of_mem_zip hy).1 with q|q
  ·exact .inl q
  ·exact .inr ⟨q,PySem.W.cellsFrom_some _ _ _ (.inl q)⟩
 refine codeAny_call_function hr.depth (KX _ _ lk) rfl S.co S.gen rfl (PySem.W.codeRec_of KX hcd) (hb _ _ _ _ ?_)
 refine wpAny_newFunctionEnv_cells S.kind hkind fun env he s1 x=>?_
 subst he
 refine⟨lim.keeps x.toInCall.keep,codeAny_func ?_⟩
 obtain⟨t,ht,hq⟩:=hbody A outer s H vs Q E (hr.deeper _) hsp
 have I:Inv (rR CX P w K mg base N qual scope f cdv A outer s H E) [] (start N vs) H s1:=yi S hr.hd e0 hl r x
 refine wpAny_mono (ht [] s1 (start N vs) H _ I hq) (fun fl s' hs=>?_) fun e s' hs=>hs
 have fin:∀{al:St} {H':Hp} {v:V} {u:Value},Inv (rR CX P w K mg base N qual scope f cdv A outer s H E) [] al H' s'->RelV v u->Q v H'->CE outer P w H s Q u s':=
  fun {al H' v u} J rv q=>⟨v,H',J.os,J.bare,J.base,J.hok,rv,q⟩
 cases fl with
 |ret u=>
  obtain⟨v,al,H',J,rv,q⟩:=hs
  exact fin J rv q
 |next=>
  obtain⟨al,H',J,q⟩:=hs
  exact fin (v:=V.non) (u:=Value.none) J rfl q
 |brk=>
  obtain⟨_,_,_,q⟩:=hs
  exact False.elim q
 |cont=>
  obtain⟨_,_,_,q⟩:=hs
  exact False.elim q
end L2
namespace L2
open PySem PySem.Spec PyProof.Rows
section
variable {X:Cx}{x:Str}{p pos:Pos}{e:Expr}{es:List Expr}{t:TA}{id T:String}{r:List V->Hp->VK->Prop}
noncomputable def tCB(r:List V->Hp->VK->Prop)(t:TA):TE:=fun O H Q=>t O H fun vs H1=>r vs H1 Q
theorem uZ(hc:dE X (.builtin id) r)(hg:Gl X x)(hm:X.mg x=none)(hv:bootBuiltins x=some (.builtin id))(ha:PA X (e::es) t)(hn:x ≠ "__name__":=by decide)(hdb:(x==("__debug__":Str))=false:=by decide)
  (he:starEach (e::es) X.env=(false,eval e X.env)::starEach es X.env:=by rfl) (hpl:(backTo pos (starEach es X.env)).any (·.1)=false:=by rfl):PE X (.Call (.Name x p) (e::es) [] pos) (tCB r t):=by
 intro pins s O H Q I h
 refine wpAny_Call_Name_kw (lI I hg hm hv ?_ hn hdb)
 exact PyProof.Rows.callWith_builtin1 (thn (ha pos pins s O H _ I h) fun us s1 ⟨vs,H1,I1,r1,q1⟩=>hc pins s1 O H1 vs us Q I1 r1 q1) he hpl
theorem yy(hc:dE X (.type T) r)(hg:Gl X x)(hm:X.mg x=none)(hv:bootBuiltins x=some (.type T))(ha:PA X (e::es) t)(hn:x ≠ "__name__":=by decide)(hdb:(x==("__debug__":Str))=false:=by decide)
  (he:starEach (e::es) X.env=(false,eval e X.env)::starEach es X.env:=by rfl) (hpl:(backTo pos (starEach es X.env)).any (·.1)=false:=by rfl):PE X (.Call (.Name x p) (e::es) [] pos) (tCB r t):=by
 intro pins s O H Q I h
 refine wpAny_Call_Name_kw (lI I hg hm hv ?_ hn hdb)
 exact PyProof.Rows.callWith_type1 (thn (ha pos pins s O H _ I h) fun us s1 ⟨vs,H1,I1,r1,q1⟩=>hc pins s1 O H1 vs us Q I1 r1 q1) he hpl
end
end L2
namespace HT
open PySem PyProof.Rows
section
open PySem.SeqAt
open PySem.AutoSeq1 (wpAny_loadPart')
open PySem.MeetsSeq PySem.MeetsSeq2 PySem.MeetsSeq3
end
section
variable {prog:Program}{w:World}{A:Around}{E:Value->Shared->Prop}{s:Shared}
theorem DN{t b:Addr}{vs ws:List Value}{Q:Value->Shared->Prop}(ht:IsTup s.heap t vs.toArray)(hb:IsTup s.heap b ws.toArray)(hv:vs≠[])
  (h1:ws=[]->Q (.ref t) s) (h2:ws≠[]->Q (.ref s.heap.objs.size) {s with heap:=s.heap.push {cls:=.type "tuple",data:=.seq (vs++ws).toArray}})
  (hsz:vs.length+ws.length<=sizeLine):wpAny (model prog w) A (binaryOp .Add (.ref t) (.ref b)) Q E s:=by
 obtain⟨⟨cls,dd,data,sl⟩,ho,hc,n,hd⟩:=id ht
 obtain⟨⟨cls2,dd2,data2,sl2⟩,ho2,hc2,n2,hd2⟩:=id hb
 simp only at hc hd hc2 hd2
 subst hc hd hc2 hd2
 have e:vs.toArray++ws.toArray=(vs++ws).toArray:=by simp
 by_cases hw:ws=[]
 ·exact concat_meets ⟨_,ho,rfl⟩ ⟨_,ho2,rfl⟩ noFill_tuple_add seq_tuple_add PySem.F.slot_tuple_add PySem.F.entry_tuple_add (PySem.F.args_tuple_add_2 _ _)
   (tuple_addW1 t b vs.toArray ws.toArray n n2 dd dd2 sl sl2 (by simpa using hv) (by simp[hw])) ⟨ho,ho2,h1 hw⟩
 ·refine concat_meets ⟨_,ho,rfl⟩ ⟨_,ho2,rfl⟩ noFill_tuple_add seq_tuple_add PySem.F.slot_tuple_add PySem.F.entry_tuple_add (PySem.F.args_tuple_add_2 _ _)
   (tuple_addW2 t b vs.toArray ws.toArray n n2 dd dd2 sl sl2 (by simpa using hv) (by simpa using hw) (by rw[size_toArray,size_toArray];exact hsz)) ⟨ho,ho2,?_⟩
  rw[e]
  exact h2 hw
noncomputable def sIx(n d:Nat):Option Int->Nat
 |none=>d
 |some v=>if v<0 then (v+(n:Int)).toNat else min v.toNat n
theorem Ff(n d:Nat)(hd:d<=n)(o:Option Int):sIx n d o<=n:=by
 cases o with
 |none=>exact hd
 |some v=>
  show (if v<0 then (v+(n:Int)).toNat else min v.toNat n)<=n
  by_cases hv:v<0
  ·rw[if_pos hv];omega
  ·rw[if_neg hv];exact Nat.min_le_right _ _
theorem mO(v:Int)(n d:Nat):(if v<0 then max (v+(n:Int)) 0 else min v (n:Int))=((sIx n d (some v):Nat):Int):=by
 show _=(((if v<0 then (v+(n:Int)).toNat else min v.toNat n):Nat):Int)
 by_cases hv:v<0
 ·rw[if_pos hv,if_pos hv];exact (Int.toNat_eq_max _).symm
 ·rw[if_neg hv,if_neg hv,Int.min_def,Nat.min_def];obtain⟨k,rfl⟩:=Int.eq_ofNat_of_zero_le (Int.not_lt.mp hv);simp only[Int.toNat_natCast,Int.ofNat_le];split<;>rfl
theorem vI(lo hi:Option Int)(n:Nat):Builtin.Slice.sliceAdjust lo hi 1 (n:Int)=(((sIx n 0 lo:Nat):Int),((sIx n n hi:Nat):Int)):=by
 have h1:¬ ((1:Int)<0):=by omega
 unfold Builtin.Slice.sliceAdjust
 simp only[h1,if_false]
 refine Prod.ext ?_ ?_
 ·cases lo with
  |none=>rfl
  |some v=>exact mO v n 0
 ·cases hi with
  |none=>rfl
  |some v=>exact mO v n n
theorem vt(i j:Nat):Builtin.Slice.slicePlaces (i:Int) (j:Int) 1=j-i:=by
 unfold Builtin.Slice.slicePlaces
 rw[if_pos ⋯,Int.ediv_one]
 by_cases h:i<j
 ·rw[if_pos (Int.ofNat_lt.mpr h),Int.sub_add_cancel];exact Int.toNat_sub j i
 ·rw[if_neg (fun z=>h (Int.ofNat_lt.mp z)),Nat.sub_eq_zero_of_le (Nat.not_lt.mp h)];rfl
theorem nW{v:Value}{o:Option Int}{Q:Option Int->Shared->Prop}(p:IsPart v o)(h:Q o s):wpAny (model prog w) A (Builtin.Slice.slicePartIndex v) Q E s:=by
 cases p with
 |none=>exact slicePart_none h
 |int i t=>exact slicePart_int h
theorem fI{sl:Addr}{vl vu:Value}{lo hi:Option Int}{n:Nat}{Q:Int×Int×Nat->Shared->Prop}(hs:s.heap.IsSliceOf sl vl vu .none)(pl:IsPart vl lo)(pu:IsPart vu hi)
  (h:Q (((sIx n 0 lo:Nat):Int),1,sIx n n hi-sIx n 0 lo) s):wpAny (model prog w) A (Builtin.Slice.sliceApplied (.ref sl) (pure (n:Int))) Q E s:=by
 obtain⟨os,hos,hcs,hds⟩:=id hs
 unfold Builtin.Slice.sliceApplied Builtin.Slice.sliceFields
 refine wpAny_bind (wpAny_bind (wpAny_field hos hds (x:=vl) rfl (wpAny_bind (wpAny_field hos hds (x:=vu) rfl (wpAny_bind (wpAny_field hos hds (x:=.none) rfl (wpAny_pure ?_)))))))
 refine wpAny_bind (slicePart_none ?_)
 show wpAny _ _ (if ((1:Int)==0)=true then _ else _) _ _ s
 rw[if_neg ⋯]
 refine wpAny_bind (nW pl (wpAny_bind (nW pu (wpAny_bind (wpAny_pure ?_)))))
 show wpAny _ _ (match Builtin.Slice.sliceAdjust lo hi 1 (n:Int) with|(lo,hi)=>pure (lo,(1:Int),Builtin.Slice.slicePlaces lo hi 1)) _ _ s
 rw[vI lo hi n]
 show wpAny _ _ (pure (((sIx n 0 lo:Nat):Int),(1:Int),Builtin.Slice.slicePlaces ((sIx n 0 lo:Nat):Int) ((sIx n n hi:Nat):Int) 1)) _ _ s
 rw[vt]
 exact wpAny_pure h
theorem Ac(xs:Array Value)(i k:Nat):((List.range k).filterMap fun (m:Nat)=>xs[((i:Int)+(m:Int)*1).toNat]?).toArray=((xs.toList.drop i).take k).toArray:=by
 have e:(fun (m:Nat)=>xs[((i:Int)+(m:Int)*1).toNat]?)=fun m=>xs[i+m]?:=by
  funext m
  have:((i:Int)+(m:Int)*1).toNat=i+m:=by omega
  rw[this]
 rw[e]
 have:=pick_run xs i k
 rw[List.filterMap_map] at this
 have e2:((fun x=>xs[x]?) ∘ fun x=>i+x)=fun m=>xs[i+m]?:=rfl
 rw[e2] at this
 rw[this]
theorem kN{t sl:Addr}{items:Array Value}{vl vu:Value}{lo hi:Option Int}{Q:Value->Shared->Prop}(ht:IsTup s.heap t items)(hs:s.heap.IsSliceOf sl vl vu .none)(pl:IsPart vl lo)(pu:IsPart vu hi)
  (hw:¬ (sIx items.size 0 lo=0/\sIx items.size items.size hi=items.size))
  (h:Q (.ref s.heap.objs.size) {s with heap:=s.heap.push {cls:=.type "tuple",data:=.seq ((items.toList.drop (sIx items.size 0 lo)).take (sIx items.size items.size hi-sIx items.size 0 lo)).toArray}})
  (hsz:items.size<=sizeLine):wpAny (model prog w) A (getItem (.ref t) (.ref sl)) Q E s:=by
 have htake:sizeOk (.seq ((items.toList.drop (sIx items.size 0 lo)).take (sIx items.size items.size hi-sIx items.size 0 lo)).toArray):=by
  show ((items.toList.drop (sIx items.size 0 lo)).take (sIx items.size items.size hi-sIx items.size 0 lo)).toArray.size<=sizeLine
  rw[size_toArray,length_take,List.length_drop,Array.length_toList]
  omega
 have hj:sIx items.size items.size hi<=items.size:=Ff _ _ (le_refl _) hi
 obtain⟨os,hos,hcs,hds⟩:=id hs
 have hTs:s.TypeIs (.ref sl) "slice":=⟨os,hos,hcs⟩
 unfold getItem
 try with_reducible refine wpAny_holding ?_
 first|refine wpAny_bind (wpAny_pure ?_)|skip
 refine wpAny_bind (wpAny_sequenceKey ht.typeIs ⋯ ?_)
 refine wpAny_bind (wpAny_callSpecial?_slot (name:=Str.ofString "__getitem__") ht.typeIs PyProof.Rows.slot_tuple_getitem
  (wpAny_call_entry PyProof.Rows.slot_tuple_getitem ht.typeIs entry_tuple_getitem ?_ (args_tuple_getitem _ _)))
 show wpAny _ _ (Builtin.Tuple.tupleItemsOf (.ref t)>>=_) _ _ s
 refine wpAny_bind (tupleItemsOf_ ht ?_)
 refine wpAny_bind (wpAny_typeOf hTs ?_)
 rw[if_pos ⋯]
 refine wpAny_bind (fI hs pl pu ?_)
 have hno:¬ ((((sIx items.size 0 lo:Nat):Int)==0&&(1:Int)==1&&(sIx items.size items.size hi-sIx items.size 0 lo)==items.size)=true):=by
  intro q
  rw[and_eq_true,and_eq_true] at q
  have q1:((sIx items.size 0 lo:Nat):Int)=0:=eq_of_beq q.1.1
  have q2:sIx items.size items.size hi-sIx items.size 0 lo=items.size:=eq_of_beq q.2
  exact hw ⟨∅,∅⟩
 show wpAny _ _ (if (((sIx items.size 0 lo:Nat):Int)==0&&(1:Int)==1&&(sIx items.size items.size hi-sIx items.size 0 lo)==items.size)=true then _ else _) _ _ s
 rw[if_neg hno,Ac]
 first
  |exact wpAny_bind (m:=Builtin.Tuple.tupleExact _) (wpAny_newObj_type (wpAny_pure ⟨_,rfl,wpAny_pure h⟩) htake)
  |exact wpAny_bind (m:=Builtin.Tuple.tupleExact _) (wpAny_newObj_type (wpAny_bind (wpAny_pure (wpAny_pure ⟨_,rfl,wpAny_pure h⟩))) htake)
  |exact wpAny_bind (wpAny_bind (m:=Builtin.Tuple.tupleExact _) (wpAny_newObj_type (wpAny_pure (wpAny_pure ⟨_,rfl,wpAny_pure h⟩)) htake))
  |exact wpAny_bind (wpAny_bind (m:=Builtin.Tuple.tupleExact _) (wpAny_newObj_type (wpAny_pure ⟨_,rfl,wpAny_pure h⟩) htake))
end
end HT
namespace L2
open PySem PySem.Spec PyProof.Rows
noncomputable abbrev TO:=St->Hp->(Option Int->Hp->Prop)->Prop
noncomputable def PO(X:Cx)(e:Option Expr)(t:TO):Prop:=
 ∀(pins:List (Addr×Obj)) (s:Shared) (O:St) (H:Hp) (Q:Option Int->Hp->Prop),Inv X pins O H s->t O H Q ->
  wpAny (model X.prog X.w) X.A (evalPart e X.env) (fun u s'=>∃o H',Inv X pins O H' s'/\IsPart u o/\Q o H') X.xe s
noncomputable def B1:TO:=fun _ H Q=>Q none H
noncomputable def IU(t:TE):TO:=fun O H Q=>t O H fun x H1=>∃i,x = .int i/\Q (some i) H1
section
variable {X:Cx}{e:Expr}{te:TE}{lo hi:Option Expr}{tl th:TO}{pos p2:Pos}
theorem C5:PO X none B1:=by
 intro pins s O H Q I h
 rw[evalPart_none]
 exact wpAny_pure ⟨none,H,I,.none,h⟩
theorem Cs(h:PE X e te):PO X (some e) (IU te):=by
 intro pins s O H Q I hw
 rw[evalPart_some]
 refine thn (h pins s O H _ I hw) fun u s1 hq0=>?_
 obtain⟨x,H1,I1,r1,q1⟩:=hq0
 obtain⟨i,rfl,q⟩:=q1
 obtain⟨t,rfl⟩:=r1
 exact⟨some i,H1,I1,.int i t,q⟩
noncomputable def SlR(X:Cx)(r:V->Option Int->Option Int->Hp->VK->Prop):Prop:=
 ∀(pins:List (Addr×Obj)) (s:Shared) (O:St) (H:Hp) (x:V) (v vl vu:Value) (lo hi:Option Int) (sl:Addr) (Q:VK),Inv X pins O H s->RelV x v->s.heap.IsSliceOf sl vl vu .none->IsPart vl lo->IsPart vu hi->r x lo hi H Q ->
  ∃T id,typeLookup (.type T) "__getitem__"=pure (some (.builtin id))/\s.TypeIs v T/\wpAny (model X.prog X.w) X.A (getItem v (.ref sl)) (EP X pins O Q) X.xe s
theorem SlR.or{r r':V->Option Int->Option Int->Hp->VK->Prop}(h:SlR X r)(h':SlR X r'):SlR X (fun x lo hi H Q=>r x lo hi H Q\/r' x lo hi H Q):=by
 intro pins s O H x v vl vu lo hi sl Q I rx hs pl pu q
 rcases q with q|q
 ·exact h pins s O H x v vl vu lo hi sl Q I rx hs pl pu q
 ·exact h' pins s O H x v vl vu lo hi sl Q I rx hs pl pu q
noncomputable def tSl(r:V->Option Int->Option Int->Hp->VK->Prop)(te:TE)(tl th:TO):TE:=fun O H Q=>te O H fun x H1=>tl O H1 fun l H2=>th O H2 fun u H3=>r x l u H3 Q
theorem BH{r:V->Option Int->Option Int->Hp->VK->Prop}(hr:SlR X r)(he:PE X e te)(hl:PO X lo tl)(hu:PO X hi th):PE X (.Subscript e (.Slice lo hi none p2) pos) (tSl r te tl th):=by
 intro pins s O H Q I h
 refine Subscript_ (thn (he pins s O H _ I h) fun v s1 hq0=>?_)
 obtain⟨x,H1,I1,r1,q1⟩:=hq0
 refine wpAny_Slice (thn (hl pins s1 O H1 _ I1 q1) fun vl s2 ⟨l,H2,I2,pl,q2⟩=>thn (hu pins s2 O H2 _ I2 q2) fun vu s3 hq0=>?_)
 obtain⟨u,H3,I3,pu,q3⟩:=hq0
 rw[evalPart_none]
 refine wpAny_pure ?_
 have I4:Inv X pins O H3 {s3 with heap:=s3.heap.push {cls:=.type "slice",data:=.fields #[vl,vu,.none]}}:=I3.kept (t':=s3.toks) fun b ob q=>Heap.get?_push_of_some _ q
 obtain⟨T,id,hT,ht,hg⟩:=hr pins {s3 with heap:=s3.heap.push {cls:=.type "slice",data:=.fields #[vl,vu,.none]}} O H3 x v vl vu l u s3.heap.objs.size Q I4 r1 (Heap.IsSliceOf.new ..) pl pu q3
 show wpAny (model X.prog X.w) X.A (subscriptTail e (.Slice lo hi none p2) v (.ref s3.heap.objs.size)) (EP X pins O Q) X.xe {s3 with heap:=s3.heap.push {cls:=.type "slice",data:=.fields #[vl,vu,.none]}}
 exact tail_any (ops:=[.ref s3.heap.objs.size,v]) ht hT hg (by with_unfolding_all rfl)
noncomputable def tq(xs:List V)(lo hi:Option Int):List V:=(xs.drop (HT.sIx xs.length 0 lo)).take (HT.sIx xs.length xs.length hi-HT.sIx xs.length 0 lo)
theorem mn(xs:List V)(lo hi:Option Int):(tq xs lo hi).length<=xs.length:=by
 unfold tq
 exact le_trans (List.length_take_le' ..) (by rw[List.length_drop];exact Nat.sub_le ..)
noncomputable def Li(K:PySem.W.Frag):V->Option Int->Option Int->Hp->VK->Prop:=fun x lo hi H Q=>∃a xs,x = .ref a/\SqT K H a xs /\
 ¬ (HT.sIx xs.length 0 lo=0/\HT.sIx xs.length xs.length hi=xs.length)/\∀p,H p=none->Q (.ref p) (upd H p (.tup (tq xs lo hi)))
theorem Gw:SlR X (Li X.K):=by
 intro pins s O H x v vl vu lo hi sl Q I rx hs pl pu h
 obtain⟨a,xs,rfl,hx,hw,q⟩:=h
 cases rx
 obtain⟨its,r,ht,hz⟩:=I.tuple hx
 have hlen:its.toArray.size=xs.length:=by rw[size_toArray];exact r.length.symm
 refine⟨"tuple",_,PyProof.Rows.slot_tuple_getitem.lookup,ht.typeIs,?_⟩
 refine HT.kN ht hs pl pu (by rw[hlen];exact hw) ?_ (by rw[hlen];exact hz)
 rw[hlen]
 refine⟨.ref s.heap.objs.size,_,I.laid (t':=s.toks) (o:=.tup (tq xs lo hi)) (fun b ob q=>Heap.get?_push_of_some _ q) (le_refl _) ?_,rfl,q _ (I.hok.fresh (le_refl _))⟩
 exact⟨le_trans (mn xs lo hi) hz,_,(r.drop (HT.sIx xs.length 0 lo)).take (HT.sIx xs.length xs.length hi-HT.sIx xs.length 0 lo),IsTup.new _ _⟩
noncomputable def JP(K:PySem.W.Frag):R2:=fun x y H Q=>∃a b xs ys,x = .ref a/\y = .ref b/\SqT K H a xs/\SqT K H b ys/\xs≠[]/\xs.length+ys.length<=sizeLine /\
 (ys=[]->Q (.ref a) H)/\(ys≠[]->∀p,H p=none->Q (.ref p) (upd H p (.tup (xs++ys))))
theorem Vals.rB{xs:List V}{us:List Value}(r:Vals xs us):us=[]↔xs=[]:=by
 cases r with
 |nil=>simp
 |cons _ _=>simp
theorem BK:OpR X (binaryOp .Add) (JP X.K):=by
 intro pins s O H x y v u Q I rx ry h
 obtain⟨a,b,xs,ys,rfl,rfl,ha,hb,hx,hz,q1,q2⟩:=h
 cases rx
 cases ry
 obtain⟨its,r1,p1,_⟩:=I.tuple ha
 obtain⟨its2,r2,p2,_⟩:=I.tuple hb
 refine HT.DN p1 p2 (fun z=>hx (r1.rB.mp z)) (fun z=>⟨.ref a,H,I,rfl,q1 (r2.rB.mp z)⟩) (fun z=>?_) (by rw[<- r1.length,<- r2.length];exact hz)
 refine⟨.ref s.heap.objs.size,_,I.laid (t':=s.toks) (o:=.tup (xs++ys)) (fun b ob q=>Heap.get?_push_of_some _ q) (le_refl _) ?_,rfl,q2 (fun w=>z (r2.rB.mpr w)) _ (I.hok.fresh (le_refl _))⟩
 exact⟨by rw[length_append];exact hz,_,r1.append r2,IsTup.new _ _⟩
end
end L2
namespace L2
open PySem PySem.Spec PyProof.Rows
noncomputable def ixN(n:Nat)(i:Int):Option Nat:=if 0<=i then (if i<n then some i.toNat else none) else if -(n:Int)<=i then some (i+n).toNat else none
noncomputable def atI{α:Type}(xs:List α)(i:Int):Option α:=(ixN xs.length i).bind fun j=>xs[j]?
theorem xx{n:Nat}{i:Int}{j:Nat}(h:ixN n i=some j):seqIndex? i n=some j/\j<n/\-(n:Int)<=i/\i<n:=by
 unfold ixN at h
 by_cases h0:0<=i
 ·rw[if_pos h0] at h
  by_cases h1:i<n
  ·rw[if_pos h1] at h
   have e:i.toNat=j:=Option.some.inj h
   exact⟨by rw[seqIndex_of h0 h1,e],∅,∅,h1⟩
  ·rw[if_neg h1] at h;cases h
 ·rw[if_neg h0] at h
  by_cases h1:-(n:Int)<=i
  ·rw[if_pos h1] at h
   have e:(i+n).toNat=j:=Option.some.inj h
   exact⟨by rw[seqIndex_neg ∅ h1,e],∅,h1,∅⟩
  ·rw[if_neg h1] at h;cases h
theorem sM{α:Type}{xs:List α}{i:Int}{v:α}(h:atI xs i=some v):∃j,seqIndex? i xs.length=some j/\xs[j]? = some v/\j<xs.length/\-(xs.length:Int)<=i/\i<xs.length:=by
 unfold atI at h
 cases e:ixN xs.length i with
 |none=>rw[e] at h;cases h
 |some j=>
  rw[e] at h
  obtain⟨h1,h2,h3,h4⟩:=xx e
  exact⟨j,h1,h,h2,h3,h4⟩
theorem c9{α:Type}{xs:List α}{j:Nat}{v:α}(h:xs[j]? = some v):atI xs (j:Int)=some v:=by
 have hj:j<xs.length:=(List.getElem?_eq_some_iff.mp h).1
 have e:ixN xs.length (j:Int)=some j:=by
  unfold ixN
  rw[if_pos ∅,if_pos ∅];simp
 unfold atI;rw[e];exact h
noncomputable def xr(b:Expr):Prop:=∀o i,subscripted b false o i=operate [o,i] (getItem o i)
noncomputable def IxR(X:Cx)(r:R2):Prop:=
 ∀(value slice:Expr) (pins:List (Addr×Obj)) (s:Shared) (O:St) (H:Hp) (x y:V) (v u:Value) (Q:VK),Inv X pins O H s->RelV x v->RelV y u->r x y H Q ->
  subscripted slice false v u=operate [v,u] (getItem v u)->wpAny (model X.prog X.w) X.A (subscriptTail value slice v u) (EP X pins O Q) X.xe s
noncomputable def MtR(X:Cx)(id:String)(r:V->List V->Hp->VK->Prop):Prop:=
 ∀(pins:List (Addr×Obj)) (s:Shared) (O:St) (H:Hp) (x:V) (xs:List V) (v:Value) (us:List Value) (Q:VK),Inv X pins O H s->RelV x v->Vals xs us->r x xs H Q ->
  wpAny (model X.prog X.w) X.A (call (.builtin id) (v::us)) (EP X pins O Q) X.xe s
section
variable {X:Cx}{a b:Expr}{ta tb:TE}{pos:Pos}
theorem IxR.or{r r':R2}(h:IxR X r)(h':IxR X r'):IxR X (fun x y H Q=>r x y H Q\/r' x y H Q):=by
 intro value slice pins s O H x y v u Q I rx ry q hs
 rcases q with q|q
 ·exact h value slice pins s O H x y v u Q I rx ry q hs
 ·exact h' value slice pins s O H x y v u Q I rx ry q hs
theorem Il{r:R2}(hr:IxR X r)(ha:PE X a ta)(hb:PE X b tb)(hs:xr b):PE X (.Subscript a b pos) (tOp r ta tb):=by
 intro pins s O H Q I h
 exact Subscript_ (EU ha hb I h fun v u s2 x y H2 I2 rx ry q=>hr a b pins s2 O H2 x y v u Q I2 rx ry q (hs _ _))
noncomputable def Iv(K:PySem.W.Frag):R2:=fun x y H Q=>∃p xs i v,x = .ref p/\y = .int i/\SqL K H p xs/\atI xs i=some v/\Q v H
noncomputable def IZ(K:PySem.W.Frag):R2:=fun x y H Q=>∃p xs i v,x = .ref p/\y = .int i/\SqT K H p xs/\atI xs i=some v/\Q v H
noncomputable def J0:R2:=fun x y H Q=>∃z i c,x = .str z/\y = .int i/\z.length<=sizeLine/\atI z.cps.toList i=some c/\Q (.str ⟨#[c]⟩) H
theorem CA:IxR X (Iv X.K):=by
 intro value slice pins s O H x y v u Q I rx ry h hs
 obtain⟨p,xs,i,z,rfl,rfl,hq,he,q⟩:=h
 cases rx
 obtain⟨t,rfl⟩:=ry
 obtain⟨its,r,pl,hz⟩:=I.list hq
 obtain⟨j,h1,h2,h3,h4,h5⟩:=sM he
 obtain⟨w,ew,rw'⟩:=r.get h2
 have hl:=r.length
 have hn:=kY
 have fin:EP X pins O Q w s:=⟨z,H,I,rw',q⟩
 by_cases h0:0<=i
 ·have hj:i.toNat=j:=by
   rw[seqIndex_of h0 h5] at h1
   exact Option.some.inj h1
  exact item_listR pl.isList h0 ∅ (by rw[hj];simpa using ew) fin hs
 ·have hj:(i+(its.toArray.size:Int)).toNat=j:=by
   rw[seqIndex_neg ∅ h4] at h1
   rw[size_toArray,<- hl]
   exact Option.some.inj h1
  exact subscriptTail_builtinR (x:=w) pl.isList.typeIs slot_list_getitem.lookup
   (wpAny_getItem_list_neg (Q:=fun r s'=>r=w/\EP X pins O Q r s') pl.isList ∅ (by rw[size_toArray]<;>omega) ∅ (by rw[hj];simpa using ew) ⟨rfl,fin⟩) hs
theorem EI:IxR X (IZ X.K):=by
 intro value slice pins s O H x y v u Q I rx ry h hs
 obtain⟨p,xs,i,z,rfl,rfl,hq,he,q⟩:=h
 cases rx
 obtain⟨t,rfl⟩:=ry
 obtain⟨its,r,pl,hz⟩:=I.tuple hq
 obtain⟨j,h1,h2,h3,h4,h5⟩:=sM he
 obtain⟨w,ew,rw'⟩:=r.get h2
 have hl:=r.length
 have hn:=kY
 have fin:EP X pins O Q w s:=⟨z,H,I,rw',q⟩
 exact subscriptTail_builtinR (x:=w) pl.typeIs slot_tuple_getitem.lookup
  (getItem_tuple (j:=j) (Q:=fun r s'=>r=w/\EP X pins O Q r s') pl ∅ ∅ (by rw[size_toArray,<- hl];exact h1) (by simpa using ew) ⟨rfl,fin⟩) hs
theorem Hr:IxR X J0:=by
 intro value slice pins s O H x y v u Q I rx ry h hs
 obtain⟨z,i,c,rfl,rfl,hz,he,q⟩:=h
 obtain⟨t,rfl⟩:=rx
 obtain⟨t',rfl⟩:=ry
 obtain⟨j,h1,h2,h3,h4,h5⟩:=sM he
 have hl:z.cps.toList.length=z.length:=by simp[Str.length]
 rw[hl] at h1 h4 h5
 have hn:=kY
 exact tail_any (typeIs_str s z t) slot_str_getitem.lookup (getItem_str (c:=c) (by
  have e1:decide (i < -(2 ^ 63:Int))=false:=decide_eq_false ∅
  have e2:decide (i ≥ 2 ^ 63)=false:=decide_eq_false ∅
  rw[e1,e2,Bool.or_false]) (by rw[h1];simpa using h2) ⟨.str ⟨#[c]⟩,H,I.tok _,⟨_,rfl⟩,q⟩) hs
noncomputable def rIx(K:PySem.W.Frag):R2:=fun x y H Q=>Iv K x y H Q\/IZ K x y H Q\/J0 x y H Q
theorem sW:IxR X (rIx X.K):=CA.or (EI.or Hr)
theorem wA(its:List Value)(n j:Nat)(u:Value):Obj.mapSeq (·.setIfInBounds j u) {cls:=.type "list",data:=.seq its.toArray n} = {cls:=.type "list",data:=.seq (its.set j u).toArray n}:=by
 simp[Obj.mapSeq]
theorem Inv.lst{pins:List (Addr×Obj)}{O:St}{H:Hp}{s:Shared}{p:Addr}{xs:List V}(I:Inv X pins O H s)(h:H p=some (.lst xs)) :
  ∃(its:List Value) (n:Nat),Vals xs its/\s.heap.get? p=some {cls:=.type "list",data:=.seq its.toArray n}/\xs.length<=sizeLine:=by
 obtain⟨z,its,n,r,e⟩:=I.hok p _ h
 exact⟨its,n,r,e,z⟩
theorem Inv.GG{pins:List (Addr×Obj)}{O:St}{H:Hp}{s:Shared}{p:Addr}{xs ys:List V}{its its':List Value}{n n':Nat}{f:Obj->Obj}(I:Inv X pins O H s)(h:H p=some (.lst xs))
  (ho:s.heap.get? p=some {cls:=.type "list",data:=.seq its.toArray n}) (hf:f {cls:=.type "list",data:=.seq its.toArray n} = {cls:=.type "list",data:=.seq its'.toArray n'}) (r:Vals ys its') (hz:ys.length<=sizeLine) (t:Nat) :
  Inv X pins O (upd H p (.lst ys)) {s with heap:=s.heap.update p f,toks:=t}:=by
 have e:(s.heap.update p f).get? p=some {cls:=.type "list",data:=.seq its'.toArray n'}:=by
  rw[Heap.get?_update_self f ho (by rw[hf]<;>rfl),hf]
 refine I.write (x:=p) (e:=p) (by rw[h];trivial) (.inl rfl) (fun b u hb q=>(Heap.get?_update_other _ _ (Ne.symm hb)).trans q) ⟨_,e⟩ ?_
 exact⟨hz,its',n',r,e⟩
noncomputable def Jf:V->V->V->Hp->(Hp->Prop)->Prop:=fun o i v H Q=>∃p xs k j,o = .ref p/\i = .int k/\H p=some (.lst xs)/\ixN xs.length k=some j/\Q (upd H p (.lst (xs.set j v)))
theorem set_list:JD X Jf:=by
 intro pins s O H o i v ov iv u Q I ro ri rv h
 obtain⟨p,xs,k,j,rfl,rfl,hp,hj,q⟩:=h
 cases ro
 obtain⟨t,rfl⟩:=ri
 obtain⟨its,n,r,ho,hz⟩:=I.lst hp
 obtain⟨h1,h2,h3,h4⟩:=xx hj
 have hl:=r.length
 have hn:=kY
 have I':Inv X pins O (upd H p (.lst (xs.set j v))) {s with heap:=s.heap.update p (Obj.mapSeq (·.setIfInBounds j u))}:=
  I.GG hp ho (wA its n j u) (r.set rv j) (by rw[List.length_set];exact hz) s.toks
 by_cases h0:0<=k
 ·have hk:k.toNat=j:=by
   rw[seqIndex_of h0 h4] at h1
   exact Option.some.inj h1
  exact PySem.W.ki_setAt ho h0 ∅ (by rw[size_toArray,<- hl];exact h4) (by rw[hk];exact⟨_,I',q⟩)
 ·have hk:(k+(its.toArray.size:Int)).toNat=j:=by
   rw[seqIndex_neg ∅ h3] at h1
   rw[size_toArray,<- hl]
   exact Option.some.inj h1
  exact PySem.W.ki_setBack ho ∅ (by rw[size_toArray,<- hl];exact h3) ∅ (by rw[hk];exact⟨_,I',q⟩)
theorem D1(v:Int)(n:Nat):max 0 (min (if v<0 then v+(n:Int) else v) (n:Int))=(if v<0 then max (v+(n:Int)) 0 else min v (n:Int)):=by
 by_cases hv:v<0
 ·rw[if_pos hv,if_pos hv,Int.min_eq_left (Int.le_trans (Int.add_le_add_right (le_of_lt hv) n) (Int.le_of_eq (Int.zero_add _))),Int.max_comm]
 ·rw[if_neg hv,if_neg hv,Int.max_eq_right (Int.le_min.mpr ⟨Int.not_lt.mp hv,Int.natCast_nonneg n⟩)]
theorem rV(lo hi:Option Int)(n:Nat):(sliceBounds lo hi none n).1=((HT.sIx n 0 lo:Nat):Int)/\(sliceBounds lo hi none n).2.1=((HT.sIx n n hi:Nat):Int)/\(sliceBounds lo hi none n).2.2=1:=by
 refine⟨?_,?_,rfl⟩
 ·cases lo with
  |none=>rfl
  |some i=>
   simp only[sliceBounds,Option.getD_none,show (1:Int)>0 by decide,if_true]
   exact (D1 i n).trans (HT.mO i n 0)
 ·cases hi with
  |none=>rfl
  |some i=>
   simp only[sliceBounds,Option.getD_none,show (1:Int)>0 by decide,if_true]
   exact (D1 i n).trans (HT.mO i n n)
theorem p6(its:List Value)(lo hi:Option Int):slicePick its.toArray lo hi none=((its.drop (HT.sIx its.length 0 lo)).take (HT.sIx its.length its.length hi-HT.sIx its.length 0 lo)).toArray:=by
 obtain⟨h1,h2,h3⟩:=rV lo hi its.toArray.size
 unfold slicePick
 rw[h1,h2,h3]
 simp only[sliceRange_one,pick_run,size_toArray]<;>rfl
noncomputable def Lq(K:PySem.W.Frag):V->Option Int->Option Int->Hp->VK->Prop:=fun x lo hi H Q=>∃a xs,x = .ref a/\SqL K H a xs/\∀p,H p=none->Q (.ref p) (upd H p (.lst (tq xs lo hi)))
theorem DC:SlR X (Lq X.K):=by
 intro pins s O H x v vl vu lo hi sl Q I rx hs pl pu h
 obtain⟨a,xs,rfl,hx,q⟩:=h
 cases rx
 obtain⟨its,r,ht,hz⟩:=I.list hx
 have hlen:=r.length
 refine⟨"list",_,slot_list_getitem.lookup,ht.isList.typeIs,?_⟩
 refine wpAny_getItem_list_slice ht.isList hs pl pu .none (by simp) ?_ (by rw[size_toArray]<;>omega)
 rw[p6,<- hlen]
 refine⟨.ref s.heap.objs.size,_,I.laid (t':=s.toks) (o:=.lst (tq xs lo hi)) (fun b ob q=>Heap.get?_push_of_some _ q) (le_refl _) ?_,rfl,q _ (I.hok.fresh (le_refl _))⟩
 exact⟨le_trans (mn xs lo hi) hz,_,0,(r.drop (HT.sIx xs.length 0 lo)).take (HT.sIx xs.length xs.length hi-HT.sIx xs.length 0 lo),Heap.get?_push_size _ rfl⟩
theorem rp:dE X (.builtin "len") (fun xs H Q=>∃p ys,xs=[.ref p]/\(SqL X.K H p ys\/SqT X.K H p ys)/\Q (.int ys.length) H):=by
 intro pins s O H xs us Q I r h
 obtain⟨p,ys,rfl,hq,q⟩:=h
 obtain⟨u,rfl,rx⟩:=vals1 r
 cases rx
 have hn:=kY
 rcases hq with hq|hq
 ·obtain⟨its,r',pl,hz⟩:=I.list hq
  have hlen:=r'.length
  exact Calls.call_len_list pl.isList (by simp only[size_toArray]<;>omega) ⟨.int ys.length,H,I.tok _,⟨s.toks+1,by rw[size_toArray,hlen]⟩,q⟩
 ·obtain⟨its,r',pl,hz⟩:=I.tuple hq
  have hlen:=r'.length
  exact len_tuple pl (by simp only[size_toArray]<;>omega) ⟨.int ys.length,H,I.tok _,⟨s.toks+1,by rw[size_toArray,hlen]⟩,q⟩
theorem tH:dE X (.type "list") (fun xs H Q=>∃p ys,xs=[.ref p]/\(SqL X.K H p ys\/SqT X.K H p ys)/\∀l,H l=none->Q (.ref l) (upd H l (.lst ys))):=by
 intro pins s O H xs us Q I r h
 obtain⟨p,ys,rfl,hq,q⟩:=h
 obtain⟨u,rfl,rx⟩:=vals1 r
 cases rx
 have fin:∀(its:List Value),Vals ys its->ys.length<=sizeLine->∀(h':Heap) (c':Nat),(∀b o',s.heap.get? b=some o'->h'.get? b=some o') ->
   h'.get? s.heap.objs.size=some {cls:=.type "list",dict:=none,data:=.seq its.toArray c',slots:=#[]}->EP X pins O Q (.ref s.heap.objs.size) {s with heap:=h'}:=fun its r' hz h' c' kp e=>
  ⟨.ref s.heap.objs.size,_,I.laid (t':=s.toks) kp (le_refl _) (show dD X.prog X.w _ h' _ (.lst ys) from ⟨hz,its,c',r',e⟩),rfl,q _ (I.hok.fresh (le_refl _))⟩
 rcases hq with hq|hq
 ·obtain⟨its,r',pl,hz⟩:=I.list hq
  have hlen:=r'.length
  obtain⟨o,ho,hc,n,hd⟩:=pl.isList
  exact call_list_seq p (.inl rfl) ho hc hd (fun h' c' kp e=>fin its r' hz h' c' kp e) (by simp only[size_toArray]<;>omega)
 ·obtain⟨its,r',pl,hz⟩:=I.tuple hq
  have hlen:=r'.length
  obtain⟨o,ho,hc,n,hd⟩:=pl
  exact call_list_seq p (.inr rfl) ho hc hd (fun h' c' kp e=>fin its r' hz h' c' kp e) (by simp only[size_toArray]<;>omega)
theorem pR:dE X (.type "tuple") (fun xs H Q=>∃p ys,xs=[.ref p]/\((SqL X.K H p ys/\∀l,H l=none->Q (.ref l) (upd H l (.tup ys)))\/(SqT X.K H p ys/\Q (.ref p) H))):=by
 intro pins s O H xs us Q I r h
 obtain⟨p,ys,rfl,h⟩:=h
 obtain⟨u,rfl,rx⟩:=vals1 r
 cases rx
 rcases h with ⟨hq,q⟩|⟨hq,q⟩
 ·obtain⟨its,r',pl,hz⟩:=I.list hq
  have hlen:=r'.length
  refine call_tuple_list pl.isList (fun h' kp=>?_) (by simp only[size_toArray]<;>omega)
  have I1:Inv X pins O H {s with heap:=h'}:=I.kept (t':=s.toks) kp
  have I2:Inv X pins O (upd H h'.objs.size (.tup ys)) {s with heap:=h'.push {cls:=.type "tuple",data:=.seq its.toArray}}:=
   I1.laid (t':=s.toks) (fun b o e=>Heap.get?_push_of_some _ e) (le_refl _) (show dD X.prog X.w _ _ _ (.tup ys) from ⟨hz,its,r',IsTup.new _ _⟩)
  exact⟨.ref h'.objs.size,_,I2,rfl,q _ (I1.hok.fresh (le_refl _))⟩
 ·obtain⟨its,r',pl,hz⟩:=I.tuple hq
  exact call_tuple_same pl ⟨.ref p,H,I,rfl,q⟩
noncomputable def tyV(K:PySem.W.Frag)(T:String)(x:V)(H:Hp):Prop:=match x with
 |.str _=>T = "str"
 |.int _=>T = "int"
 |.ref p=>(T = "list"/\∃xs,SqL K H p xs)\/(T = "tuple"/\∃o,K.lookup p=some o/\o.cls = .type "tuple"/\o.dict=none) \/
   (T = "dict"/\((∃kvs,H p=some (.dK kvs))\/∃kvs,H p=some (.dT kvs)))\/(T = "set"/\∃S n,H p=some (.set S n))
 |_=>False
theorem zG{pins:List (Addr×Obj)}{O:St}{H:Hp}{s:Shared}{T:String}{x:V}{v:Value}(I:Inv X pins O H s)(r:RelV x v)(ty:tyV X.K T x H) :
  s.TypeIs v T/\∀a,v = .ref a->∃ob,s.heap.get? a=some ob/\ob.dict=none:=by
 cases x with
 |str z=>
  obtain⟨t,rfl⟩:=r
  cases (show T = "str" from ty)
  exact⟨typeIs_str s z t,fun _ e=>nomatch e⟩
 |int i=>
  obtain⟨t,rfl⟩:=r
  cases (show T = "int" from ty)
  exact⟨typeIs_int s i t,fun _ e=>nomatch e⟩
 |ref p=>
  cases r
  rcases ty with ⟨rfl,xs,hq⟩|⟨rfl,o,hk,hc,hd⟩|⟨rfl,hk⟩|⟨rfl,S,n,hk⟩
  ·obtain⟨its,_,pl,_⟩:=I.list hq
   refine⟨pl.isList.typeIs,fun a e=>?_⟩
   cases e
   obtain⟨o,n,e,c,hd,_⟩:=pl
   exact⟨o,e,hd⟩
  ·refine⟨⟨o,I.kIn p o hk,hc⟩,fun a e=>?_⟩
   cases e
   exact⟨o,I.kIn _ o hk,hd⟩
  ·have z:∃o,s.heap.get? p=some o/\o.ExactDict:=by
    rcases hk with ⟨kvs,hk⟩|⟨kvs,hk⟩
    ·obtain⟨_,_,_,_,o,_,_,e,ex,_⟩:=I.hok p _ hk
     exact⟨o,e,ex⟩
    ·obtain⟨_,_,_,_,o,_,_,e,ex,_⟩:=I.hok p _ hk
     exact⟨o,e,ex⟩
   obtain⟨o,e,ex⟩:=z
   refine⟨⟨o,e,ex.1⟩,fun a e2=>?_⟩
   cases e2
   exact⟨o,e,ex.2.1⟩
  ·obtain⟨o,_,_,_,e,ex,_⟩:=I.hok p _ hk
   refine⟨⟨o,e,ex.1⟩,fun a e2=>?_⟩
   cases e2
   exact⟨o,e,ex.2.1⟩
 |_=>exact False.elim ty
noncomputable def Kz(K:PySem.W.Frag)(T:String)(r:V->List V->Hp->VK->Prop)(to:TE):TE:=fun O H Q=>to O H fun x H1=>tyV K T x H1/\r x [] H1 Q
noncomputable def tBM(K:PySem.W.Frag)(T:String)(r:V->List V->Hp->VK->Prop)(to:TE)(t:TA):TE:=fun O H Q=>to O H fun x H1=>tyV K T x H1/\t O H1 fun xs H2=>r x xs H2 Q
variable {o e:Expr}{es:List Expr}{to:TE}{t:TA}{name:Str}{apos cpos:Pos}{T id:String}{r:V->List V->Hp->VK->Prop}
theorem A1(pa:PlainAttrs T)(slot:Slot T name id)(hty:typeOf (.builtin id)=pure (.type "method_descriptor"))(hm:MtR X id r)(ho:PE X o to)
  (hbase:attributeBase o name X.env (eval o X.env)=eval o X.env:=by rfl) (hline:(apos.endLine==cpos.line)=true:=by rfl):PE X (.Call (.Attribute o name apos) [] [] cpos) (Kz X.K T r to):=by
 intro pins s O H Q I h
 refine wpAny_Call_method0_late hbase hline (thn (ho pins s O H _ I h) fun v s1 hq0=>?_)
 obtain⟨x,H1,I1,r1,ty,q1⟩:=hq0
 obtain⟨h1,h2⟩:=zG I1 r1 ty
 exact⟨T,id,pa,slot,hty,h1,h2,Calls.callWith_builtin rfl (PySem.evalArgs_none (hm pins s1 O H1 x [] v [] Q I1 r1 .nil q1))⟩
theorem AN(pa:PlainAttrs T)(slot:Slot T name id)(hty:typeOf (.builtin id)=pure (.type "method_descriptor"))(hm:MtR X id r)(ho:PE X o to)(ha:PA X (e::es) t)
  (hbase:attributeBase o name X.env (eval o X.env)=eval o X.env:=by rfl)
  (hfew:((backTo cpos (starEach (e::es) X.env)).all (fun x=>!x.1)&&(backToKw cpos (keywordEach [] X.env)).all (fun x=>x.1.isSome)
   && decide ((e::es).length+([]:List Keyword).length+(if ([]:List Keyword).isEmpty then 0 else 1)<30))=true:=by rfl)
  (hline:(apos.endLine==cpos.line)=true:=by rfl) (hs:starEach (e::es) X.env=(false,eval e X.env)::starEach es X.env:=by rfl) (hplain:(backTo cpos (starEach es X.env)).any (·.1)=false:=by rfl) :
  PE X (.Call (.Attribute o name apos) (e::es) [] cpos) (tBM X.K T r to t):=by
 intro pins s O H Q I h
 refine wpAny_Call_method_late hbase hfew hline rfl (thn (ho pins s O H _ I h) fun v s1 hq0=>?_)
 obtain⟨x,H1,I1,r1,ty,q1⟩:=hq0
 obtain⟨h1,h2⟩:=zG I1 r1 ty
 refine⟨T,id,pa,slot,hty,h1,h2,?_⟩
 have hA:=ha cpos pins s1 O H1 _ I1 q1
 rw[hs] at hA ⊢
 refine Calls.callWith_builtin (by show (false || (backTo cpos (starEach es X.env)).any (·.1))=false;rw[hplain]<;>rfl) (Calls.evalArgs_plain ?_)
 exact thn hA fun us s2 ⟨vs,H2,I2,r2,q2⟩=>hm pins s2 O H2 x vs v us Q I2 r1 r2 q2
end
end L2
namespace L2
open PySem PySem.Spec PyProof.Rows
noncomputable def MtM(X:Cx)(id:String)(r:V->List V->Hp->VK->Prop):Prop:=
 ∀(pins:List (Addr×Obj)) (s:Shared) (O:St) (H:Hp) (x:V) (xs:List V) (v:Value) (us:List Value) (Q:VK),Inv X pins O H s->RelV x v->Vals xs us->r x xs H Q ->
  wpAny (model X.prog X.w) X.A (call (.builtin id) (v::us)) (EP X pins O Q) X.xe s
theorem Vals.one:∀{x:V} {us:List Value},Vals [x] us->∃u,us=[u]/\RelV x u
 |_,_,.cons r .nil=>⟨_,rfl,r⟩
theorem Vals.zero:∀{us:List Value},Vals [] us->us=[]
 |_,.nil=>rfl
theorem Vals.dropLast{xs:List V}{us:List Value}(h:Vals xs us):Vals xs.dropLast us.dropLast:=by
 induction h with
 |nil=>exact .nil
 |cons r t ih=>
  cases t with
  |nil=>exact .nil
  |cons q t'=>exact .cons r ih
theorem Vals.eraseIdx:∀{xs:List V} {us:List Value} (i:Nat),Vals xs us->Vals (xs.eraseIdx i) (us.eraseIdx i)
 |_,_,_,.nil=>.nil
 |_,_,0,.cons _ t=>t
 |_,_,i+1,.cons r t=>.cons r (Vals.eraseIdx i t)
theorem wu{α:Type}(l:List α):l.eraseIdx (l.length-1)=l.dropLast:=by
 induction l with
 |nil=>rfl
 |cons a r ih=>
  cases r with
  |nil=>rfl
  |cons b r=>exact congrArg (a::·) ih
theorem qT{α:Type}:∀(l:List α) (i:Nat),(l.eraseIdx i).length<=l.length
 |[],_=>le_refl _
 |_::_,0=>Nat.le_succ _
 |_::r,i+1=>Nat.succ_le_succ (qT r i)
section
variable {X:Cx}{pins:List (Addr×Obj)}{O:St}{H:Hp}{s:Shared}{l b:Addr}{xs ys zs:List V}
theorem Inv.C4{its its':List Value}{n:Nat}{f:Array Value->Array Value}{t':Nat}(I:Inv X pins O H s)(hH:H l=some (.lst xs))
  (e:s.heap.get? l=some {cls:=.type "list",data:=.seq its.toArray n}) (hf:f its.toArray=its'.toArray) (hv:Vals ys its') (hz:ys.length<=sizeLine) :
  Inv X pins O (upd H l (.lst ys)) {s with heap:=s.heap.update l (Obj.mapSeq f),toks:=t'}:=by
 have q:=PySem.IsL.update e f
 rw[hf] at q
 refine I.write (x:=l) (e:=l) (by rw[hH];exact trivial) (.inl rfl) (fun b' u hb hu=>(Heap.get?_update_other s.heap (Obj.mapSeq f) (Ne.symm hb)).trans hu) ⟨_,q⟩ ?_
 exact⟨hz,its',_,hv,q⟩
theorem Inv.Kt{its:List Value}{t':Nat}(I:Inv X pins O H s)(hv:Vals ys its)(hz:ys.length<=sizeLine) :
  Inv X pins O (upd H s.heap.objs.size (.lst ys)) {s with heap:=s.heap.push {cls:=.type "list",data:=.seq its.toArray},toks:=t'}:=
 I.laid (fun _ _ q=>Heap.get?_push_of_some _ q) (le_refl _) ⟨hz,its,0,hv,Heap.get?_push_size _ rfl⟩
theorem Inv.fresh(I:Inv X pins O H s):H s.heap.objs.size=none:=I.hok.fresh (le_refl _)
theorem Inv.vz(I:Inv X pins O H s)(hH:H l=some (.lst xs)):xs.length<=sizeLine/\∃(its:List Value) (n:Nat),Vals xs its/\xs.length=its.length/\s.heap.get? l=some {cls:=.type "list",data:=.seq its.toArray n}:=by
 obtain⟨z,its,n,r,e⟩:=I.hok l _ hH
 exact⟨z,its,n,r,r.length,e⟩
theorem By{n:Nat}(h:n<=sizeLine):Builtin.List.listTooLong n=false:=by
 unfold Builtin.List.listTooLong
 exact decide_eq_false ∅
end
section
variable {X:Cx}
noncomputable def C7:V->List V->Hp->VK->Prop:=fun x vs H Q=>∃l xs y,x = .ref l/\vs=[y]/\H l=some (.lst xs)/\xs.length<sizeLine/\Q .non (upd H l (.lst (xs++[y])))
theorem qN:MtM X "list.append" C7:=by
 intro pins s O H x vs v us Q I rx rv h
 obtain⟨l,xs,y,rfl,rfl,hH,hz,q⟩:=h
 cases rx
 obtain⟨u,rfl,ru⟩:=rv.one
 obtain⟨z,its,n,r,hl,e⟩:=I.vz hH
 refine call_meets F.slot_list_append ⟨_,e,rfl⟩ F.entry_list_append (F.args_list_append_2 _ _) (PySem.list_append l its.toArray n u (by rw[size_toArray];omega)) ⟨e,?_⟩
 refine⟨.non,_,I.C4 (its':=its++[u]) hH e (by simp) (r.append (.cons ru .nil)) ?_,rfl,q⟩
 rw[length_append,List.length_singleton]
 omega
noncomputable def BZ:V->List V->Hp->VK->Prop:=fun x vs H Q=>∃l b xs zs,x = .ref l/\vs=[.ref b]/\H l=some (.lst xs)/\H b=some (.lst zs)/\xs.length+zs.length<=sizeLine/\Q .non (upd H l (.lst (xs++zs)))
theorem zx:MtM X "list.extend" BZ:=by
 intro pins s O H x vs v us Q I rx rv h
 obtain⟨l,b,xs,zs,rfl,rfl,hH,hB,hz,q⟩:=h
 cases rx
 obtain⟨u,rfl,ru⟩:=rv.one
 cases ru
 obtain⟨z,its,n,r,hl,e⟩:=I.vz hH
 obtain⟨z2,its2,n2,r2,hl2,e2⟩:=I.vz hB
 have hsz:its.toArray.size+its2.toArray.size<=sizeLine:=by rw[size_toArray,size_toArray];omega
 have hlong:¬ (!its.toArray.isEmpty&&Builtin.List.listTooLong (its.toArray.size+its2.toArray.size))=true:=by
  rw[By hsz,Bool.and_false]
  exact Bool.false_ne_true
 refine call_meets F.slot_list_extend ⟨_,e,rfl⟩ F.entry_list_extend (F.args_list_extend_2 _ _)
  (AutoSeq1.list_extend_list_list_0 l its.toArray n b its2.toArray n2 hlong (by rw[size_toArray];omega) ∅) ⟨e,e2,?_⟩
 refine⟨.non,_,I.C4 (its':=its++its2) hH e (by simp) (r.append r2) ?_,rfl,q⟩
 rw[length_append]
 omega
noncomputable def Lh:V->List V->Hp->VK->Prop:=fun x vs H Q=>∃l xs y,x = .ref l/\vs=[]/\H l=some (.lst xs)/\xs[xs.length-1]? = some y/\Q y (upd H l (.lst xs.dropLast))
theorem EG:MtM X "list.pop" Lh:=by
 intro pins s O H x vs v us Q I rx rv h
 obtain⟨l,xs,y,rfl,rfl,hH,hy,q⟩:=h
 cases rx
 have hus:=rv.zero
 subst hus
 obtain⟨z,its,n,r,hl,e⟩:=I.vz hH
 obtain⟨u,hu,ru⟩:=r.get hy
 have hy':its.toArray[its.toArray.size-1]? = some u:=by
  show its.toArray[its.length-1]? = some u
  rw[<- Array.getElem?_toList,<- hl]
  exact hu
 refine call_meets F.slot_list_pop ⟨_,e,rfl⟩ F.entry_list_pop (F.args_list_pop_1 _) (MeetsSeq.list_pop_last l its.toArray n u hy' (by rw[size_toArray];omega)) ⟨e,?_⟩
 refine⟨y,_,I.C4 (its':=its.dropLast) hH e ?_ r.dropLast ?_,ru,q⟩
 ·show its.toArray.eraseIdxIfInBounds (its.toArray.size-1)=its.dropLast.toArray
  rw[size_toArray,List.eraseIdxIfInBounds_toArray,wu]
 ·rw[List.length_dropLast]
  omega
noncomputable def Gg:V->List V->Hp->VK->Prop:=fun x vs H Q=>∃l xs i k y,x = .ref l/\vs=[.int i]/\H l=some (.lst xs)/\-(2 ^ 63)<=i/\i<2 ^ 63/\seqIndex? i xs.length=some k/\xs[k]? = some y/\Q y (upd H l (.lst (xs.eraseIdx k)))
theorem zE:MtM X "list.pop" Gg:=by
 intro pins s O H x vs v us Q I rx rv h
 obtain⟨l,xs,i,k,y,rfl,rfl,hH,h1,h2,hk,hy,q⟩:=h
 cases rx
 obtain⟨u,rfl,ru⟩:=rv.one
 obtain⟨t,rfl⟩:=ru
 obtain⟨z,its,n,r,hl,e⟩:=I.vz hH
 obtain⟨w,hw,rw'⟩:=r.get hy
 refine call_meets F.slot_list_pop ⟨_,e,rfl⟩ F.entry_list_pop (F.args_list_pop_2 _ _)
  (MeetsSeq.list_pop_at l its.toArray n i t k w (fitsIndex_both h1 h2) (by rw[size_toArray,<- hl];exact hk) (by rw[<- Array.getElem?_toList];exact hw) (by rw[size_toArray];omega)) ⟨e,?_⟩
 refine⟨y,_,I.C4 (its':=its.eraseIdx k) hH e ?_ (r.eraseIdx k) ?_,rw',q⟩
 ·show its.toArray.eraseIdxIfInBounds k=(its.eraseIdx k).toArray
  rw[List.eraseIdxIfInBounds_toArray]
 ·have:=qT xs k
  omega
noncomputable def GV:R2:=fun x y H Q=>∃l b xs zs,x = .ref l/\y = .ref b/\H l=some (.lst xs)/\H b=some (.lst zs)/\xs.length+zs.length<=sizeLine/\∀p,H p=none->Q (.ref p) (upd H p (.lst (xs++zs)))
theorem E6:OpR X (binaryOp .Add) GV:=by
 intro pins s O H x y v u Q I rx ry h
 obtain⟨l,b,xs,zs,rfl,rfl,hH,hB,hz,q⟩:=h
 cases rx
 cases ry
 obtain⟨z,its,n,r,hl,e⟩:=I.vz hH
 obtain⟨z2,its2,n2,r2,hl2,e2⟩:=I.vz hB
 refine PySem.P.add_list e e2 ?_ (by rw[size_toArray,size_toArray];omega)
 have ea:its.toArray++its2.toArray=(its++its2).toArray:=by simp
 rw[ea]
 exact⟨.ref _,_,I.Kt (t':=s.toks) (r.append r2) (by rw[length_append];omega),rfl,q _ I.fresh⟩
end
end L2
namespace Att
open PySem PySem.W PySem.Calls PyProof.Rows
theorem mH{P:Params}{h:Heap}:∀(ns:List Int) (vs:List Value),WellAll P h vs (ns.map WData.int)->IntsAre vs ns:=by
 intro ns
 induction ns with
 |nil=>
  intro vs w
  rw[map_nil] at w
  cases w
  exact .nil
 |cons n ns ih=>
  intro vs w
  rw[map_cons] at w
  cases w with
  |cons a b=>
   cases a
   exact .cons _ _ (ih _ b)
theorem zi{l:OpenLaw}{n:Nat}(hn:l.most=some n){P:Params}{h:Heap}{args:List WData}{vals:List Value}
  (hpre:l.row.toRowW.claim.pre args=true) (hwl:WellAll P h vals args) :
  ∃a vs ns,vals=[Value.ref a]/\args=[WData.list (ns.map WData.int)]/\h.get? a=some {cls:=.type "list",data:=.seq vs.toArray}/\IntsAre vs ns/\ns.length<=n:=by
 have hsh:WShape.hasAll [] args [.list .int]=true:=(pre_splitW hpre).1
 have hc:l.pre.holds [] {args:=args} = true:=(pre_splitW hpre).2
 obtain⟨d,r,rfl,h1,h2⟩:=hasAllW_cons hsh
 obtain rfl:=hasAllW_nil h2
 obtain⟨xs,rfl,h3⟩:=hasW_list h1
 obtain⟨ns,rfl⟩:=items_int h3
 have hlen:ns.length<=n:=by
  unfold OpenLaw.pre at hc
  have h4:(WTm.not (.lt (.lit (.int (n:Int))) (.len (.arg 0)))).holds [] {args:=[.list (ns.map .int)]} = true:=by
   have h4:=(holds_andW hc).1
   rw[hn] at h4
   exact h4
  have h5:=condW_of h4 (w_not (w_lt w_lit (w_len_list (w_arg rfl))))
  rw[length_map] at h5
  refine Nat.le_of_not_lt fun q=>?_
  have q':(n:Int)<((ns.length:Nat):Int):=by omega
  first
   |(rw[decide_eq_true q'] at h5;exact absurd h5 ⋯)
   |(simp at h5;omega)
 cases hwl with
 |cons w1 w2=>
  cases w2
  cases w1 with
  |list ho hall=>exact⟨_,_,ns,rfl,rfl,ho,mH ns _ hall,hlen⟩
theorem yJ(l:OpenLaw)(args:List WData):l.row.toRowW.claim.post args (.bool true) args=true:=
 postW_of (r:=l.row.toRowW) (X:=(true==true))
  (show WShape.has [] (.bool true) .bool=true by first|rfl|decide|simp[WShape.has,WShape.arms,WShape.armsAll])
  (show (WTm.eq .res (.lit (.bool true))).value [] {args:=args,res:=some (.bool true),after:=args} = some (.bool (true==true)) from w_eq_bool (w_res rfl) w_lit) rfl
theorem ve{l:OpenLaw}{n:Nat}{q:Program}{loose:List Str}{XP:(Str->Option Value)->Heap->Prop}{YP:World->Heap->Prop}{d:DefRec}
  (hn:l.most=some n) (hdf:d.params.defaults=[])
  (call:∀(w:World) (ce bi:Shared) (mg mb:Str->Option Value) (fa:Addr) (o:Obj) (pm cd doc:Value) (a:Addr) (vs:List Value) (ns:List Int),
   Ground q loose [] XP w ce mg mb bi.heap->YP w bi.heap ->
   bi.heap.get? fa=some o->o.data = .func (docDef d.name d.params d.body d.scope pm cd doc)->bi.heap.CodeRec cd d.name->mg d.name=some (.ref fa) ->
   bi.heap.get? a=some {cls:=.type "list",data:=.seq vs.toArray}->IntsAre vs ns->ns.length<=n->bi.gens = #[] ->
   codeAny (model l.prog w) callerA (.call (.ref fa) ⟨[.ref a],[]⟩) (fun r s'=>r = .ok (.ret (.bool true))/\OldK bi.heap s'.heap/\s'.os=bi.os/\AllBare s'.gens) bi) :
  WalkO q loose XP YP l.row.toRowW d [] (fun f vs=>PySem.call f vs):=by
 intro w ce bi mg mb G ZY fa o pm cd doc dV kV ho hd hcd hD hmg hg args vals as hpre hlay hrd hwl hlo
 obtain rfl:dV = .none:=Dflts.none hD hdf
 obtain rfl:kV = .none:=Dflts.noKw hD
 obtain⟨a,vs,ns,rfl,rfl,hobj,hints,hlen⟩:=zi hn hpre hwl
 refine enter_call (codeAny_mono (call w ce bi mg mb fa o pm cd doc a vs ns G ZY ho (fd_plain hd) hcd hmg hobj hints hlen hg) fun r s' hq=>?_)
 obtain⟨rfl,h2,h3,h4⟩:=hq
 exact⟨.inl ⟨.bool true,.bool true,[],rfl,fun _=>rfl,.bool true,yJ l _,fun _=>⟨List.Pairwise.nil,fun _ hm=>(nomatch hm)⟩⟩,h2,h3,h4⟩
end Att
namespace L2
open PySem PySem.Spec PyProof.Rows
theorem qK:∀{vs:List Value} {ns:List Int},IntsAre vs ns->Vals (ns.map V.int) vs
 |_,_,.nil=>.nil
 |_,_,.cons n t h=>.cons ⟨t,rfl⟩ (qK h)
end L2
namespace L2
open PySem PySem.Spec PyProof.Rows
end L2
namespace L2
open PySem PySem.Spec PyProof.Rows
noncomputable abbrev CX0:CXT:=fun _ _ _ _ _ _=>False
noncomputable abbrev E0:XK:=fun _ _ _=>False
theorem J8{X:Cx}:Passes CX0 X E0:=fun _ _ _ _ _ _ _ h=>h.elim
structure Fun(K:PySem.W.Frag)(x qual:Str)(st:Stmt)(f:Addr)(fd:FuncData):Prop where
 ex:∃(oc:Value) (od:Option Addr) (kV doc pm:Value) (an:Option Addr) (cdv ct:Value) (osl:Array (Option Value)),
  fd=fnOf x qual (cE st) (da st) (a0 st) .none kV doc pm an cdv ct/\K.lookup f=some ⟨oc,od,.func fd,osl⟩/\codeIn K cdv qual=true
 kp:keepIn K (.ref f)=true
section
variable {P:Program}{w:World}{K:PySem.W.Frag}{mg:Str->Option Value}{base:Heap}
theorem Fun.binds{x qual:Str}{st:Stmt}{f:Addr}{fd:FuncData}{ps:List Str}(F:Fun K x qual st f fd)
  (h:∀(kV doc pm:Value) (an:Option Addr) (cdv ct:Value) (us:List Value),us.length=ps.length->bindArgs (fnOf x qual (cE st) (da st) (a0 st) .none kV doc pm an cdv ct) ⟨us,[]⟩=pure (ps.zip us)):Binds K fd ps []:=by
 obtain⟨oc,od,kV,doc,pm,an,cdv,ct,osl,rfl,lk,hcd⟩:=F.ex
 exact .all (h kV doc pm an cdv ct)
theorem EO{x qual:Str}{st:Stmt}{f:Addr}{oc:Value}{od an:Option Addr}{osl:Array (Option Value)}{kV doc pm cdv ct:Value}(l:K.lookup f=some ⟨oc,od,.func (fnOf x qual (cE st) (da st) (a0 st) .none kV doc pm an cdv ct),osl⟩)
  (c:codeIn K cdv qual=true) (k:keepIn K (.ref f)=true):Fun K x qual st f (fnOf x qual (cE st) (da st) (a0 st) .none kV doc pm an cdv ct):=⟨⟨oc,od,kV,doc,pm,an,cdv,ct,osl,rfl,l,c⟩,k⟩
end
theorem dI{n:Nat}(h:n<=1000):n<sizeLine:=Nat.lt_of_le_of_lt h ⋯
theorem uP{A B:Prop}(h:B):if false=true then A else B:=by
 rw[if_neg Bool.false_ne_true]
 exact h
theorem vf{A B:Prop}(h:A):if true=true then A else B:=by
 rw[if_pos rfl]
 exact h
noncomputable def sv(H H':Hp):Prop:=∀b o,H b=some o->H' b=some o
theorem sv.refl(H:Hp):sv H H:=fun _ _ h=>h
end L2
namespace ST
open PySem PySem.SetTable
noncomputable def adv(m:Nat)(p:Probe):Probe:=
 if p.more>0 then {p with j:=p.j+1,more:=p.more-1} else
 {p with j:=(leap m p.i p.perturb).1,more:=runEnd m (leap m p.i p.perturb).1-(leap m p.i p.perturb).1,i:=(leap m p.i p.perturb).1,perturb:=(leap m p.i p.perturb).2}
noncomputable def st(m:Nat)(s:Nat×Nat):Probe:={j:=s.1,more:=runEnd m s.1-s.1,i:=s.1,perturb:=s.2,dummy:=none}
noncomputable def sth(m:Nat)(h:Int):Probe:=st m (bits h % (m+1),bits h)
inductive On(m:Nat)(ZZ:Nat->Prop):Probe->Nat->Prop
 |here {p:Probe}:On m ZZ p p.j
 |step {p:Probe} {j:Nat}:ZZ p.j->On m ZZ (adv m p) j->On m ZZ p j
end ST
namespace ST
open PySem PySem.SetTable
section
variable {β:Type}
noncomputable abbrev Ln(β:Type):=List (Nat×Int×β)
noncomputable def Occ(L:Ln β)(j:Nat):Prop:=j∈L.map (·.1)
structure Tab(t:SetTable)(L:Ln β):Prop where
 place:t.place=(L.map (·.1)).toArray
 ris:L.Pairwise fun a b=>a.1<b.1
 le:∀x∈L,x.1<=t.mask
 dum:t.dummies = #[]
 two:∃k,t.mask+1=2 ^ k/\3<=k
 on:∀x∈L,On t.mask (Occ L) (sth t.mask x.2.1) x.1
end
end ST
namespace ST
open PySem PySem.SetTable
end ST
set_option maxHeartbeats 1000000
namespace ST
open PySem PySem.SetTable
end ST
namespace ST
open PySem PySem.SetTable
end ST
set_option maxHeartbeats 4000000
namespace NM
@[irreducible] def Sz (n:Nat) (i:Int):Prop:=i.natAbs<2 ^ n
theorem Sz.mono{n m:Nat}{i:Int}(h:Sz n i)(l:n<=m):Sz m i:=by unfold Sz at *;exact lt_of_lt_of_le h (Nat.pow_le_pow_right ⋯ l)
theorem Sz.mul{n m:Nat}{i j:Int}(h:Sz n i)(g:Sz m j):Sz (n+m) (i*j):=by
 unfold Sz at *
 rw[natAbs_mul,Nat.pow_add]
 exact Nat.mul_lt_mul'' h g
theorem Sz.add{n:Nat}{i j:Int}(h:Sz n i)(g:Sz n j):Sz (n+1) (i+j):=by
 unfold Sz at *
 have:=Int.natAbs_add_le i j
 rw[Nat.pow_succ]
 omega
theorem Sz.neg{n:Nat}{i:Int}(h:Sz n i):Sz n (-i):=by unfold Sz at *;rw[Int.natAbs_neg];exact h
theorem Sz.sub{n:Nat}{i j:Int}(h:Sz n i)(g:Sz n j):Sz (n+1) (i-j):=by rw[Int.sub_eq_add_neg];exact h.add g.neg
theorem Sz.le{n:Nat}{i j:Int}(h:Sz n i)(g:j.natAbs<=i.natAbs):Sz n j:=by unfold Sz at *;exact Nat.lt_of_le_of_lt g h
theorem Sz.of{n:Nat}{i:Int}(h:i.natAbs<2 ^ n):Sz n i:=by unfold Sz;exact h
theorem Sz.lt{n:Nat}{i:Int}(h:Sz n i):i.natAbs<2 ^ n:=by unfold Sz at h;exact h
noncomputable def g3(a b c:Int):Nat:=Int.gcd (Int.gcd a b:Nat) c
theorem Du(a b c:Int):Int.gcd (Int.gcd c a:Nat) b=g3 a b c:=by
 unfold g3
 simp only[Int.gcd,Int.natAbs_natCast]
 rw[Nat.gcd_assoc,Nat.gcd_comm]
theorem zX(a b c:Int):((g3 a b c:Nat):Int) ∣ a/\((g3 a b c:Nat):Int) ∣ b/\((g3 a b c:Nat):Int) ∣ c:=by
 have h:((g3 a b c:Nat):Int) ∣ ((Int.gcd a b:Nat):Int):=Int.gcd_dvd_left ..
 exact⟨Int.dvd_trans h (Int.gcd_dvd_left ..),Int.dvd_trans h (Int.gcd_dvd_right ..),Int.gcd_dvd_right ..⟩
theorem GN{a b c:Int}{k:Nat}(h1:(k:Int) ∣ a)(h2:(k:Int) ∣ b)(h3:(k:Int) ∣ c):k ∣ g3 a b c:=by
 unfold g3
 exact Int.dvd_gcd (Int.natCast_dvd_natCast.mpr (Int.dvd_gcd h1 h2)) h3
theorem rY{a b c:Int}(h:c≠0):0<g3 a b c:=by
 unfold g3
 exact Int.gcd_pos_of_ne_zero_right _ h
theorem Ai(a b c k:Int):g3 (a*k) (b*k) (c*k)=g3 a b c*k.natAbs:=by
 unfold g3
 simp only[Int.gcd,Int.natAbs_natCast,natAbs_mul,Nat.gcd_mul_right]
theorem zJ(a b c:Int):g3 a (-b) c=g3 a b c:=by
 unfold g3
 rw[Int.gcd_neg]
theorem Ap(a b c:Int):g3 (-a) b c=g3 a b c:=by
 unfold g3
 rw[Int.neg_gcd]
structure N3 where
 a:Int
 b:Int
 c:Int
deriving DecidableEq
theorem N3.ext'{x y:N3}(h1:x.a=y.a)(h2:x.b=y.b)(h3:x.c=y.c):x=y:=by cases x;cases y;simp_all
structure Ok(x:N3):Prop where
 c:0<x.c
 g:g3 x.a x.b x.c=1
noncomputable def dv(a b c:Int):Int:=if c<0 then -(g3 a b c:Nat) else (g3 a b c:Nat)
noncomputable def low(a b c:Int):N3:=⟨a.fdiv (dv a b c),b.fdiv (dv a b c),c.fdiv (dv a b c)⟩
theorem sA{a k q:Int}(hk:k≠0)(h:a=k*q):a.fdiv k=q:=by
 subst h
 exact Int.mul_fdiv_cancel_left q hk
theorem Ji{a b c:Int}(h:c≠0):dv a b c≠0:=by
 have:=rY (a:=a) (b:=b) h
 unfold dv
 split<;>omega
theorem Ho(a b c:Int):dv a b c ∣ a/\dv a b c ∣ b/\dv a b c ∣ c:=by
 obtain⟨h1,h2,h3⟩:=zX a b c
 unfold dv
 split
 ·exact⟨Int.neg_dvd.mpr h1,Int.neg_dvd.mpr h2,Int.neg_dvd.mpr h3⟩
 ·exact⟨h1,h2,h3⟩
theorem dk(a b:Int){c:Int}(h:c≠0):∃k:Int,k≠0/\(0<k↔0<c)/\a=k*(low a b c).a/\b=k*(low a b c).b/\c=k*(low a b c).c/\Ok (low a b c):=by
 have hk:=Ji (a:=a) (b:=b) h
 obtain⟨⟨p,hp⟩,⟨q,hq⟩,⟨r,hr⟩⟩:=Ho a b c
 have ep:(low a b c).a=p:=sA hk hp
 have eq:(low a b c).b=q:=sA hk hq
 have er:(low a b c).c=r:=sA hk hr
 have hg:=rY (a:=a) (b:=b) h
 have hs:0<dv a b c↔0<c:=by unfold dv;split<;>omega
 have hr0:0<r:=by
  have hr':r≠0:=fun z=>h (by rw[hr,z,Int.mul_zero])
  rcases Int.lt_trichotomy 0 (dv a b c) with z|z|z
  ·have:=hs.mp z
   rw[hr] at this
   rw[Int.mul_comm] at this
   exact Int.pos_of_mul_pos_left this z |> fun t=>t
  ·exact absurd z.symm hk
  ·have:c<0:=by omega
   rcases Int.lt_trichotomy 0 r with w|w|w
   ·exact w
   ·exact absurd w.symm hr'
   ·have:=Int.mul_pos_of_neg_of_neg z w
    rw[<- hr] at this
    omega
 refine⟨dv a b c,hk,hs,by rw[ep];exact hp,by rw[eq];exact hq,by rw[er];exact hr,by rw[er];exact hr0,?_⟩
 rw[ep,eq,er]
 have e:=Ai p q r (dv a b c)
 rw[Int.mul_comm p,Int.mul_comm q,Int.mul_comm r,<- hp,<- hq,<- hr] at e
 have e2:(dv a b c).natAbs=g3 a b c:=by unfold dv;split<;>simp
 rw[e2] at e
 have:g3 p q r*g3 a b c=1*g3 a b c:=by omega
 exact Nat.eq_of_mul_eq_mul_right hg this
theorem dn(a b:Int){c:Int}(h:c≠0):Ok (low a b c):=(dk a b h).choose_spec.2.2.2.2.2
theorem Ok.same{x y:N3}(hx:Ok x)(hy:Ok y)(h1:x.a*y.c=y.a*x.c)(h2:x.b*y.c=y.b*x.c):x=y:=by
 have key:∀{u v:N3},Ok u->Ok v->u.a*v.c=v.a*u.c->u.b*v.c=v.b*u.c->u.c ∣ v.c:=fun {u v} hu hv e1 e2=>by
  have hd:u.c.natAbs ∣ g3 (u.a*v.c) (u.b*v.c) (u.c*v.c):=GN
   (by rw[Int.natAbs_of_nonneg (le_of_lt hu.c),e1];exact Int.dvd_mul_left _ _) (by rw[Int.natAbs_of_nonneg (le_of_lt hu.c),e2];exact Int.dvd_mul_left _ _) (by rw[Int.natAbs_of_nonneg (le_of_lt hu.c)];exact Int.dvd_mul_right _ _)
  rw[Ai,hu.g,Nat.one_mul] at hd
  exact Int.natAbs_dvd_natAbs.mp hd
 have hc:x.c=y.c:=Int.dvd_antisymm (le_of_lt hx.c) (le_of_lt hy.c) (key hx hy h1 h2) (key hy hx h1.symm h2.symm)
 have hn:y.c≠0:=by have:=hy.c;omega
 rw[hc] at h1 h2
 exact N3.ext' (eq_of_mul_eq_mul_right hn h1) (eq_of_mul_eq_mul_right hn h2) hc
theorem EV{a b c a' b' c':Int}(h:c≠0)(h':c'≠0)(e1:a*c'=a'*c)(e2:b*c'=b'*c):low a b c=low a' b' c':=by
 obtain⟨k,hk,_,p1,p2,p3,o⟩:=dk a b h
 obtain⟨l,hl,_,q1,q2,q3,o'⟩:=dk a' b' h'
 generalize low a b c=x at *
 generalize low a' b' c'=y at *
 subst p1 p2 p3 q1 q2 q3
 have hkl:k*l≠0:=mul_ne_zero hk hl
 refine o.same o' (Int.eq_of_mul_eq_mul_left hkl (by grind)) (Int.eq_of_mul_eq_mul_left hkl (by grind))
theorem Ok.low{x:N3}(h:Ok x):low x.a x.b x.c=x:=by
 have hc:x.c≠0:=by have:=h.c;omega
 obtain⟨k,hk,_,p1,p2,p3,o⟩:=dk x.a x.b hc
 refine o.same h ?_ ?_
 ·exact Int.eq_of_mul_eq_mul_left hk (by grind)
 ·exact Int.eq_of_mul_eq_mul_left hk (by grind)
theorem Ok.Gm{x:N3}{a b c:Int}(h:Ok x)(hc:c≠0)(e1:x.a*c=a*x.c)(e2:x.b*c=b*x.c):x=NM.low a b c:=by
 have q:=EV (by have:=h.c;omega) hc e1 e2
 rw[h.low] at q
 exact q
theorem E2(a b:Int){c:Int}(h:c≠0):(low a b c).a.natAbs<=a.natAbs/\(low a b c).b.natAbs<=b.natAbs/\(low a b c).c.natAbs<=c.natAbs:=by
 obtain⟨k,hk,_,p1,p2,p3,_⟩:=dk a b h
 have hk':1<=k.natAbs:=by omega
 have le:∀{u v:Int},u=k*v->v.natAbs<=u.natAbs:=fun {u v} e=>by
  rw[e,natAbs_mul]
  exact Nat.le_mul_of_pos_left _ hk'
 exact⟨le p1,le p2,le p3⟩
structure Bd(n:Nat)(x:N3):Prop where
 a:Sz n x.a
 b:Sz n x.b
 c:Sz n x.c
theorem Bd.mono{n m:Nat}{x:N3}(h:Bd n x)(l:n<=m):Bd m x:=⟨h.a.mono l,h.b.mono l,h.c.mono l⟩
theorem dy{a b c:Int}{n:Nat}(h:c≠0)(ha:Sz n a)(hb:Sz n b)(hc:Sz n c):Bd n (low a b c):=by
 obtain⟨h1,h2,h3⟩:=E2 a b h
 exact⟨ha.le h1,hb.le h2,hc.le h3⟩
noncomputable def plus(x y:N3):N3:=low (x.a*y.c+y.a*x.c) (x.b*y.c+y.b*x.c) (x.c*y.c)
noncomputable def less(x y:N3):N3:=low (x.a*y.c-y.a*x.c) (x.b*y.c-y.b*x.c) (x.c*y.c)
noncomputable def times(d:Int)(x y:N3):N3:=low (x.a*y.a+d*x.b*y.b) (x.a*y.b+x.b*y.a) (x.c*y.c)
noncomputable def norm(d:Int)(x:N3):Int:=x.a*x.a-d*x.b*x.b
noncomputable def aA(d:Int)(x:N3):N3:=low (x.c*x.a) (-x.c*x.b) (norm d x)
noncomputable def B2(x:N3):N3:=⟨x.a,-x.b,x.c⟩
noncomputable def minus(x:N3):N3:=⟨-x.a,-x.b,x.c⟩
noncomputable def cy:N3:=⟨0,0,1⟩
noncomputable def one:N3:=⟨1,0,1⟩
theorem Ok.cn{x:N3}(h:Ok x):x.c≠0:=by have:=h.c;omega
theorem jW{x y:N3}(h:Ok x)(g:Ok y):x.c*y.c≠0:=mul_ne_zero h.cn g.cn
theorem bQ{x:N3}(h:Ok x):Ok (minus x):=⟨h.c,by show g3 (-x.a) (-x.b) x.c=1;rw[Ap,zJ];exact h.g⟩
theorem aY{x y:N3}(h:Ok x)(g:Ok y):Ok (plus x y):=dn _ _ (jW h g)
theorem yc{x y:N3}(h:Ok x)(g:Ok y):Ok (less x y):=dn _ _ (jW h g)
theorem aM{d:Int}{x y:N3}(h:Ok x)(g:Ok y):Ok (times d x y):=dn _ _ (jW h g)
theorem fN:Ok cy:=⟨⋯,⋯⟩
theorem vY:Ok one:=⟨⋯,⋯⟩
theorem fi{n:Nat}{x:N3}(h:Bd n x):Bd n (minus x):=⟨h.a.neg,h.b.neg,h.c⟩
theorem xj{n m:Nat}{x y:N3}(hx:Ok x)(hy:Ok y)(h:Bd n x)(g:Bd m y):Bd (n+m+1) (plus x y):=
 dy (jW hx hy) ((h.a.mul g.c).add ((g.a.mul h.c).mono ∅)) ((h.b.mul g.c).add ((g.b.mul h.c).mono ∅)) ((h.c.mul g.c).mono ∅)
theorem Dk{n m:Nat}{x y:N3}(hx:Ok x)(hy:Ok y)(h:Bd n x)(g:Bd m y):Bd (n+m+1) (less x y):=
 dy (jW hx hy) ((h.a.mul g.c).sub ((g.a.mul h.c).mono ∅)) ((h.b.mul g.c).sub ((g.b.mul h.c).mono ∅)) ((h.c.mul g.c).mono ∅)
theorem eI{d:Int}(h:2<=d)(h':d<=30):Sz 5 d:=by unfold Sz;omega
theorem u7{n m:Nat}{d:Int}{x y:N3}(hd:Sz 5 d)(hx:Ok x)(hy:Ok y)(h:Bd n x)(g:Bd m y):Bd (n+m+6) (times d x y):=
 dy (jW hx hy) (((h.a.mul g.a).mono ∅).add (((hd.mul h.b).mul g.b).mono ∅)) ((((h.a.mul g.b).mono (by omega:n+m<=n+m)).add ((h.b.mul g.a).mono ∅)).mono ∅) ((h.c.mul g.c).mono ∅)
theorem rT{n:Nat}{d:Int}{x:N3}(hd:Sz 5 d)(h:Bd n x):Sz (2*n+6) (norm d x):=by
 have e1:=h.a.mul h.a
 have e2:=(hd.mul h.b).mul h.b
 exact ((e1.mono (by omega:n+n<=5+n+n)).sub e2).mono ∅
theorem gR{n:Nat}{d:Int}{x:N3}(hd:Sz 5 d)(hn:norm d x≠0)(h:Bd n x):Bd (2*n+6) (aA d x):=
 dy hn ((h.c.mul h.a).mono ∅) ((h.c.neg.mul h.b).mono ∅) (rT hd h)
noncomputable def ah(d:Int):Prop:=2<=d/\d<=30/\d≠4/\d≠9/\d≠16/\d≠25
theorem yQ{d:Nat}(h:∀m:Nat,m*m≠d):∀{a b:Nat},a*a=d*(b*b)->b=0:=fun {a b} e=>by
 rcases Nat.eq_zero_or_pos b with hb|hb
 ·exact hb
 exfalso
 obtain⟨g,p,q,hg,hc,rfl,rfl⟩:=Nat.exists_coprime' (m:=a) (n:=b) (Nat.gcd_pos_of_pos_right _ hb)
 have e2:(p*p)*(g*g)=(d*(q*q))*(g*g):=by grind
 have e3:p*p=d*(q*q):=Nat.eq_of_mul_eq_mul_right (Nat.mul_pos hg hg) e2
 have hq:q ∣ p*p:=⟨d*q,by rw[e3];grind⟩
 have hq1:q ∣ p:=hc.symm.dvd_of_dvd_mul_left hq
 have hq2:q=1:=by
  have:=Nat.dvd_gcd hq1 (Nat.dvd_refl q)
  rw[hc] at this
  exact Nat.dvd_one.mp this
 subst hq2
 exact h p (by rw[e3];simp)
theorem ah.nat{d:Int}(h:ah d):∀m:Nat,m*m≠d.toNat:=fun m e=>by
 have e':d=((m*m:Nat):Int):=by rw[e];exact (Int.toNat_of_nonneg (Int.le_trans ⋯ h.1)).symm
 clear e
 obtain⟨h1,h2,h3,h4,h5,h6⟩:=h
 match m,e' with
 |0,e'=>rw[e'] at h1;exact absurd h1 ⋯
 |1,e'=>rw[e'] at h1;exact absurd h1 ⋯
 |2,e'=>exact h3 e'
 |3,e'=>exact h4 e'
 |4,e'=>exact h5 e'
 |5,e'=>exact h6 e'
 |m+6,e'=>
  rw[e'] at h2
  exact absurd (le_trans (Nat.mul_le_mul (Nat.le_add_left 6 m) (Nat.le_add_left 6 m)) (Int.ofNat_le.mp (show ((_:Nat):Int)<=((30:Nat):Int) from h2))) ⋯
theorem ah.rm{d a b:Int}(h:ah d)(e:a*a=d*b*b):a=0/\b=0:=by
 have hd:d=((d.toNat:Nat):Int):=by have:=h.1;omega
 have e1:a.natAbs*a.natAbs=d.toNat*(b.natAbs*b.natAbs):=by
  have e2:=congrArg Int.natAbs e
  rw[natAbs_mul,natAbs_mul,natAbs_mul] at e2
  rw[e2,Nat.mul_assoc]
  congr 1
  omega
 have hb:=yQ h.nat e1
 have hb':b=0:=by omega
 subst hb'
 have:a*a=0:=by rw[e];simp
 exact⟨by rcases Int.mul_eq_zero.mp this with z|z<;>exact z,rfl⟩
theorem ah.norm{d:Int}{x:N3}(h:ah d)(ok:Ok x)(hx:x≠cy):norm d x≠0:=fun e=>by
 have e':x.a*x.a=d*x.b*x.b:=by unfold NM.norm at e;omega
 obtain⟨h1,h2⟩:=h.rm e'
 apply hx
 have hg:=ok.g
 rw[h1,h2] at hg
 have hc:=ok.c
 have:x.c=1:=by
  unfold g3 at hg
  simp[Int.gcd] at hg
  omega
 exact N3.ext' h1 h2 this
theorem cM{d:Int}{x:N3}(h:NM.norm d x≠0):Ok (aA d x):=dn _ _ h
noncomputable def sg(d a b:Int):Int:=
 if a=0/\b=0 then 0 else if 0<=a/\0<=b then 1 else if a<=0/\b<=0 then -1 else if (if d*b*b<a*a then a else b)>0 then 1 else -1
theorem Ek{u v:Int}(hu:0<=u)(h:u*u<=v*v)(hv:0<=v):u<=v:=by
 rcases lt_or_le v u with z|z
 ·have:=Int.mul_lt_mul_of_pos_left z (show 0<u by omega)
  have:=Int.mul_le_mul_of_nonneg_right (le_of_lt z) hv
  omega
 ·exact z
theorem sq_nonneg(u:Int):0<=u*u:=by
 rcases Int.le_total 0 u with h|h
 ·exact mul_nonneg h h
 ·exact Int.mul_nonneg_of_nonpos_of_nonpos h h
noncomputable def P(d a b:Int):Prop:=(0<=a/\0<=b/\¬ (a=0/\b=0))\/(0<a/\b<0/\d*b*b<a*a)\/(a<0/\0<b/\a*a<d*b*b)
theorem qb{d a b:Int}(h:P d a b):sg d a b=1:=by
 unfold sg
 rcases h with ⟨h1,h2,h3⟩|⟨h1,h2,h3⟩|⟨h1,h2,h3⟩
 ·rw[if_neg h3,if_pos ⟨h1,h2⟩]
 ·rw[if_neg fun z=>absurd z.1 (Int.ne_of_gt h1),if_neg fun z=>absurd z.2 (Int.not_le.mpr h2),if_neg fun z=>absurd z.1 (Int.not_le.mpr h1),if_pos h3,if_pos h1]
 ·rw[if_neg fun z=>absurd z.1 (Int.ne_of_lt h1),if_neg fun z=>absurd z.1 (Int.not_le.mpr h1),if_neg fun z=>absurd z.2 (Int.not_le.mpr h2),if_neg (Int.not_lt.mpr (le_of_lt h3)),if_pos h2]
theorem xA{d a b:Int}:P d (-a) (-b)↔(a<=0/\b<=0/\¬ (a=0/\b=0))\/(a<0/\0<b/\d*b*b<a*a)\/(0<a/\b<0/\a*a<d*b*b):=by
 unfold P
 have e2:d * -b * -b=d*b*b:=by rw[Int.mul_neg d b,Int.neg_mul_neg]
 rw[Int.neg_mul_neg a a,e2,Int.neg_nonneg,Int.neg_nonneg,Int.neg_eq_zero,Int.neg_eq_zero,Int.neg_pos,Int.neg_pos,Int.neg_neg_iff_pos,Int.neg_neg_iff_pos]
theorem p7{d a b:Int}(h:P d (-a) (-b)):sg d a b = -1:=by
 unfold sg
 rcases xA.mp h with ⟨h1,h2,h3⟩|⟨h1,h2,h3⟩|⟨h1,h2,h3⟩
 ·rw[if_neg h3,if_neg fun z=>h3 ⟨Int.le_antisymm h1 z.1,Int.le_antisymm h2 z.2⟩,if_pos ⟨h1,h2⟩]
 ·rw[if_neg fun z=>absurd z.1 (Int.ne_of_lt h1),if_neg fun z=>absurd z.1 (Int.not_le.mpr h1),if_neg fun z=>absurd z.2 (Int.not_le.mpr h2),if_pos h3,if_neg (Int.not_lt.mpr (le_of_lt h1))]
 ·rw[if_neg fun z=>absurd z.1 (Int.ne_of_gt h1),if_neg fun z=>absurd z.2 (Int.not_le.mpr h2),if_neg fun z=>absurd z.1 (Int.not_le.mpr h1),if_neg (Int.not_lt.mpr (le_of_lt h3)),if_neg (Int.not_lt.mpr (le_of_lt h2))]
theorem lV{d a b:Int}(h:ah d):(a=0/\b=0)\/P d a b\/P d (-a) (-b):=by
 by_cases z:a=0/\b=0
 ·exact .inl z
 refine .inr ?_
 rw[xA]
 rcases Int.le_total 0 a with ha|ha<;>rcases Int.le_total 0 b with hb|hb
 ·exact .inl (.inl ⟨ha,hb,z⟩)
 ·rcases lt_or_eq_of_le ha with ha'|ha'
  ·rcases lt_or_eq_of_le hb with hb'|hb'
   ·rcases Int.lt_trichotomy (d*b*b) (a*a) with c|c|c
    ·exact .inl (.inr (.inl ⟨ha',hb',c⟩))
    ·exact absurd (h.rm c.symm) z
    ·exact .inr (.inr (.inr ⟨ha',hb',c⟩))
   ·exact .inl (.inl ⟨ha,Int.le_of_eq hb'.symm,z⟩)
  ·exact .inr (.inl ⟨Int.le_of_eq ha'.symm,hb,z⟩)
 ·rcases lt_or_eq_of_le ha with ha'|ha'
  ·rcases lt_or_eq_of_le hb with hb'|hb'
   ·rcases Int.lt_trichotomy (d*b*b) (a*a) with c|c|c
    ·exact .inr (.inr (.inl ⟨ha',hb',c⟩))
    ·exact absurd (h.rm c.symm) z
    ·exact .inl (.inr (.inr ⟨ha',hb',c⟩))
   ·exact .inr (.inl ⟨ha,Int.le_of_eq hb'.symm,z⟩)
  ·exact .inl (.inl ⟨Int.le_of_eq ha'.symm,hb,z⟩)
 ·exact .inr (.inl ⟨ha,hb,z⟩)
theorem cO{d a b:Int}(h:ah d):sg d a b=1↔P d a b:=by
 refine⟨fun e=>?_,qb⟩
 rcases lV (a:=a) (b:=b) h with z|z|z
 ·obtain⟨rfl,rfl⟩:=z;exact absurd (show (0:Int)=1 from e) ⋯
 ·exact z
 ·rw[p7 z] at e;exact absurd e ⋯
theorem k5{d a b:Int}(h:ah d):sg d (-a) (-b) = - sg d a b:=by
 rcases lV (a:=a) (b:=b) h with z|z|z
 ·obtain⟨rfl,rfl⟩:=z;rfl
 ·rw[qb z];exact p7 (by rwa [neg_neg,neg_neg])
 ·rw[p7 z];exact qb z
theorem iV{d a b:Int}:sg d a b=0↔a=0/\b=0:=by
 refine⟨fun e=>Classical.byContradiction fun c=>?_,fun c=>if_pos c⟩
 unfold sg at e
 rw[if_neg c] at e
 by_cases c2:0<=a/\0<=b
 ·rw[if_pos c2] at e;exact absurd e ⋯
 ·rw[if_neg c2] at e
  by_cases c3:a<=0/\b<=0
  ·rw[if_pos c3] at e;exact absurd e ⋯
  ·rw[if_neg c3] at e
   by_cases c4:(if d*b*b<a*a then a else b)>0
   ·rw[if_pos c4] at e;exact absurd e ⋯
   ·rw[if_neg c4] at e;exact absurd e ⋯
theorem oT(d a b:Int):sg d a b=0\/sg d a b=1\/sg d a b = -1:=by
 unfold sg
 by_cases c:a=0/\b=0
 ·exact .inl (if_pos c)
 rw[if_neg c]
 by_cases c2:0<=a/\0<=b
 ·exact .inr (.inl (if_pos c2))
 rw[if_neg c2]
 by_cases c3:a<=0/\b<=0
 ·exact .inr (.inr (if_pos c3))
 rw[if_neg c3]
 by_cases c4:(if d*b*b<a*a then a else b)>0
 ·exact .inr (.inl (if_pos c4))
 ·exact .inr (.inr (if_neg c4))
theorem iQ{d a b:Int}(h:ah d)(n:d*b*b<a*a):P d a b↔0<a:=by
 refine⟨fun z=>?_,fun ha=>?_⟩
 ·rcases z with ⟨h1,_,h3⟩|⟨h1,_,_⟩|⟨_,_,h3⟩
  ·rcases lt_or_eq_of_le h1 with z|z
   ·exact z
   ·subst z
    have h0:0<=d*b*b:=by rw[Int.mul_assoc];exact mul_nonneg (Int.le_trans ⋯ h.1) (sq_nonneg b)
    exact absurd (Int.lt_of_le_of_lt h0 n) ⋯
  ·exact h1
  ·exact absurd (Int.lt_trans h3 n) (Int.lt_irrefl _)
 ·rcases lt_or_le b 0 with hb|hb
  ·exact .inr (.inl ⟨ha,hb,n⟩)
  ·exact .inl ⟨le_of_lt ha,hb,fun z=>absurd z.1 (Int.ne_of_gt ha)⟩
theorem fA{d a b:Int}(h:ah d)(n:a*a<d*b*b):P d a b↔0<b:=by
 refine⟨fun z=>?_,fun hb=>?_⟩
 ·rcases z with ⟨_,h1,h3⟩|⟨_,_,h3⟩|⟨_,h1,_⟩
  ·rcases lt_or_eq_of_le h1 with z|z
   ·exact z
   ·subst z
    rw[Int.mul_zero] at n
    exact absurd (Int.lt_of_le_of_lt (sq_nonneg a) n) ⋯
  ·exact absurd (Int.lt_trans h3 n) (Int.lt_irrefl _)
  ·exact h1
 ·rcases lt_or_le a 0 with ha|ha
  ·exact .inr (.inr ⟨ha,hb,n⟩)
  ·exact .inl ⟨ha,le_of_lt hb,fun z=>absurd z.2 (Int.ne_of_gt hb)⟩
theorem kK{u v:Int}(h:v*v<u*u):0<u+v↔0<u:=by
 have hu:u≠0:=fun z=>by subst z;have:=sq_nonneg v;simp at h;omega
 have l:v.natAbs<u.natAbs:=by
  rcases Nat.lt_or_ge v.natAbs u.natAbs with z|z
  ·exact z
  ·have:=Nat.mul_le_mul z z
   have e1:((u.natAbs*u.natAbs:Nat):Int)=u*u:=Int.natAbs_mul_self
   have e2:((v.natAbs*v.natAbs:Nat):Int)=v*v:=Int.natAbs_mul_self
   omega
 omega
theorem mul_pos_iff{u v:Int}(hu:u≠0)(hv:v≠0):0<u*v↔(0<u↔0<v):=by
 rcases lt_or_gt_of_ne hu with h|h<;>rcases lt_or_gt_of_ne hv with g|g
 ·have:=Int.mul_pos_of_neg_of_neg h g;omega
 ·have:=Int.mul_neg_of_neg_of_pos h g;omega
 ·have:=Int.mul_neg_of_pos_of_neg h g;omega
 ·have:=mul_pos h g;omega
theorem ny{u v s t:Int}(hu:0<=u)(h:u<v)(hs:0<=s)(g:s<t):u*s<v*t:=by
 have e1:u*s<=v*s:=Int.mul_le_mul_of_nonneg_right (le_of_lt h) hs
 have e2:v*s<v*t:=Int.mul_lt_mul_of_pos_left g ∅
 omega
theorem dsq{d b:Int}(hd:0<d):0<=d*b*b:=by rw[Int.mul_assoc];exact mul_nonneg (le_of_lt hd) (sq_nonneg b)
theorem JT{d a b p q:Int}(h:ah d)(h1:¬ (a=0/\b=0))(h2:¬ (p=0/\q=0)):P d (a*p+d*b*q) (a*q+b*p)↔(P d a b↔P d p q):=by
 have hd:0<d:=by have:=h.1;omega
 have n1:a*a≠d*b*b:=fun e=>h1 (h.rm e)
 have n2:p*p≠d*q*q:=fun e=>h2 (h.rm e)
 have pz:∀{u v:Int},d*v*v<u*u->u≠0:=fun {u v} e z=>by subst z;have:=dsq (b:=v) hd;simp at e;omega
 have qz:∀{u v:Int},u*u<d*v*v->v≠0:=fun {u v} e z=>by subst z;have:=sq_nonneg u;simp at e;omega
 have id1:(a*p+d*b*q)*(a*p+d*b*q)-d*(a*q+b*p)*(a*q+b*p)=(a*a-d*b*b)*(p*p-d*q*q):=by grind
 rcases lt_or_gt_of_ne n1 with c1|c1<;>rcases lt_or_gt_of_ne n2 with c2|c2
 ·have pp:=Int.mul_pos_of_neg_of_neg (show a*a-d*b*b<0 by omega) (show p*p-d*q*q<0 by omega)
  rw[iQ h ∅,fA h c1,fA h c2]
  have sq:(a*p)*(a*p)<(d*b*q)*(d*b*q):=by
   have e2:=ny (sq_nonneg a) c1 (sq_nonneg p) c2
   grind
  rw[Int.add_comm,kK sq,Int.mul_assoc,mul_pos_iff ∅ (mul_ne_zero (qz c1) (qz c2)),mul_pos_iff (qz c1) (qz c2)]
  omega
 ·have pp:=Int.mul_neg_of_neg_of_pos (show a*a-d*b*b<0 by omega) (show 0<p*p-d*q*q by omega)
  rw[fA h ∅,fA h c1,iQ h c2]
  have sq:(a*q)*(a*q)<(b*p)*(b*p):=by
   have e2:=ny (sq_nonneg a) c1 (dsq (b:=q) hd) c2
   have e3:d*((a*q)*(a*q))<d*((b*p)*(b*p)):=by grind
   exact Int.lt_of_mul_lt_mul_left e3 (le_of_lt hd)
  rw[Int.add_comm,kK sq,mul_pos_iff (qz c1) (pz c2)]
 ·have pp:=Int.mul_neg_of_pos_of_neg (show 0<a*a-d*b*b by omega) (show p*p-d*q*q<0 by omega)
  rw[fA h ∅,iQ h c1,fA h c2]
  have sq:(b*p)*(b*p)<(a*q)*(a*q):=by
   have e2:=ny (dsq (b:=b) hd) c1 (sq_nonneg p) c2
   have e3:d*((b*p)*(b*p))<d*((a*q)*(a*q)):=by grind
   exact Int.lt_of_mul_lt_mul_left e3 (le_of_lt hd)
  rw[kK sq,mul_pos_iff (pz c1) (qz c2)]
 ·have pp:=mul_pos (show 0<a*a-d*b*b by omega) (show 0<p*p-d*q*q by omega)
  rw[iQ h ∅,iQ h c1,iQ h c2]
  have sq:(d*b*q)*(d*b*q)<(a*p)*(a*p):=by
   have e2:=ny (dsq (b:=b) hd) c1 (dsq (b:=q) hd) c2
   grind
  rw[kK sq,mul_pos_iff (pz c1) (pz c2)]
theorem J9{d A x B y:Int}(hd:0<d)(hA:0<=A)(hx:0<=x)(hB:0<=B)(hy:0<=y)(h1:A*A<=d*B*B)(h2:x*x<=d*y*y):A*x<=d*(B*y):=by
 refine Ek (mul_nonneg hA hx) ?_ (mul_nonneg (le_of_lt hd) (mul_nonneg hB hy))
 have:=Int.mul_le_mul h1 h2 (sq_nonneg x) (dsq hd)
 grind
theorem T1{d A x B y:Int}(hd:0<d)(hA:0<=A)(hx:0<=x)(hB:0<=B)(hy:0<=y)(h1:A*A<d*B*B)(h2:x*x<d*y*y):(A+x)*(A+x)<d*(B+y)*(B+y):=by
 have:=J9 hd hA hx hB hy (le_of_lt h1) (le_of_lt h2)
 grind
theorem T2{d A x B y:Int}(hd:0<d)(hA:0<=A)(hx:0<=x)(hB:0<=B)(hy:0<=y)(h1:d*B*B<A*A)(h2:d*y*y<x*x):d*(B+y)*(B+y)<(A+x)*(A+x):=by
 have:d*(B*y)<=A*x:=by
  refine Ek (mul_nonneg (le_of_lt hd) (mul_nonneg hB hy)) ?_ (mul_nonneg hA hx)
  have:=ny (dsq (b:=B) hd) h1 (dsq (b:=y) hd) h2
  grind
 grind
theorem Z1{d x1 y1 x2 y2:Int}(hd:0<d)(h1:x1*x1<d*y1*y1)(h2:d*y2*y2<x2*x2)(a1:0<=x2)(a2:x2<=x1)(a3:0<=y1)(a4:y1<=y2):False:=by
 have e1:=Int.mul_le_mul a2 a2 a1 (Int.le_trans a1 a2)
 have e2:=Int.mul_le_mul_of_nonneg_left (Int.mul_le_mul a4 a4 a3 (Int.le_trans a3 a4)) (le_of_lt hd)
 grind
theorem Z2{d x1 y1 x2 y2 x3 y3:Int}(hd:0<d)(h1:x1*x1<d*y1*y1)(h2:d*y2*y2<x2*x2)(h3:d*y3*y3<x3*x3)(a1:0<=x2)(a2:0<=y2)(a3:0<=x3)(a4:0<=y3)(e1:x1=x2+x3)(e2:y1=y2+y3):False:=by
 subst e1 e2
 have:=T2 hd a1 a3 a2 a4 h2 h3
 omega
theorem Z3{d x1 y1 x2 y2 x3 y3:Int}(hd:0<d)(h1:d*y1*y1<x1*x1)(h2:x2*x2<d*y2*y2)(h3:x3*x3<d*y3*y3)(a1:0<=x2)(a2:0<=y2)(a3:0<=x3)(a4:0<=y3)(e1:x1=x2+x3)(e2:y1=y2+y3):False:=by
 subst e1 e2
 have:=T1 hd a1 a3 a2 a4 h2 h3
 omega
theorem IA{d a b p q u v:Int}(h:ah d)(h1:P d a b)(h2:P d p q)(h3:P d u v)(e1:a+p+u=0)(e2:b+q+v=0):False:=by
 have hd:0<d:=by have:=h.1;omega
 unfold P at h1 h2 h3
 have x1:∀{u c:Int},u*u<c->-u * -u<c:=fun {u c} e=>by grind
 have x2:∀{u c:Int},c<u*u->c < -u * -u:=fun {u c} e=>by grind
 have x3:∀{u c:Int},c<d*u*u->c<d * -u * -u:=fun {u c} e=>by grind
 have x4:∀{u c:Int},d*u*u<c->d * -u * -u<c:=fun {u c} e=>by grind
 rcases h1 with ⟨u1,u2,u3⟩|⟨u1,u2,u3⟩|⟨u1,u2,u3⟩<;>rcases h2 with ⟨v1,v2,v3⟩|⟨v1,v2,v3⟩|⟨v1,v2,v3⟩<;>rcases h3 with ⟨w1,w2,w3⟩|⟨w1,w2,w3⟩|⟨w1,w2,w3⟩<;>(try omega)
 all_goals first
  |exact Z1 hd (x1 u3) (x4 v3) ∅ ∅ ∅ ∅
  |exact Z1 hd (x1 v3) (x4 u3) ∅ ∅ ∅ ∅
  |exact Z1 hd (x1 u3) (x4 w3) ∅ ∅ ∅ ∅
  |exact Z1 hd (x1 w3) (x4 u3) ∅ ∅ ∅ ∅
  |exact Z1 hd (x1 v3) (x4 w3) ∅ ∅ ∅ ∅
  |exact Z1 hd (x1 w3) (x4 v3) ∅ ∅ ∅ ∅
  |exact Z2 hd (x1 u3) (x4 v3) (x4 w3) ∅ ∅ ∅ ∅ ∅ ∅
  |exact Z2 hd (x1 v3) (x4 u3) (x4 w3) ∅ ∅ ∅ ∅ ∅ ∅
  |exact Z2 hd (x1 w3) (x4 u3) (x4 v3) ∅ ∅ ∅ ∅ ∅ ∅
  |exact Z3 hd (x4 u3) (x1 v3) (x1 w3) ∅ ∅ ∅ ∅ ∅ ∅
  |exact Z3 hd (x4 v3) (x1 u3) (x1 w3) ∅ ∅ ∅ ∅ ∅ ∅
  |exact Z3 hd (x4 w3) (x1 u3) (x1 v3) ∅ ∅ ∅ ∅ ∅ ∅
theorem En{d a b p q:Int}(h:ah d)(h1:P d a b)(h2:P d p q):P d (a+p) (b+q):=by
 rcases lV (a:=a+p) (b:=b+q) h with ⟨e1,e2⟩|e|e
 ·have ea:p = -a:=by omega
  have eb:q = -b:=by omega
  subst ea eb
  have s1:=(cO h).mpr h1
  have s2:=(cO h).mpr h2
  rw[k5 h,s1] at s2
  omega
 ·exact e
 ·exact (IA h h1 h2 e ∅ ∅).elim
theorem vy{d a b p q:Int}(h:ah d):sg d (a*p+d*b*q) (a*q+b*p)=sg d a b*sg d p q:=by
 by_cases h1:a=0/\b=0
 ·obtain⟨rfl,rfl⟩:=h1
  rw[show sg d (0:Int) 0=0 from rfl,Int.zero_mul,Int.zero_mul,Int.mul_zero,Int.zero_mul,Int.zero_mul];rfl
 by_cases h2:p=0/\q=0
 ·obtain⟨rfl,rfl⟩:=h2
  rw[show sg d (0:Int) 0=0 from rfl,Int.mul_zero,Int.mul_zero,Int.mul_zero,Int.mul_zero];rfl
 have k:=JT h h1 h2
 have h3:¬ (a*p+d*b*q=0/\a*q+b*p=0):=fun ⟨e1,e2⟩=>by
  have id1:(a*p+d*b*q)*(a*p+d*b*q)-d*(a*q+b*p)*(a*q+b*p)=(a*a-d*b*b)*(p*p-d*q*q):=by grind
  rw[e1,e2,Int.mul_zero,Int.mul_zero,Int.sub_self] at id1
  rcases Int.mul_eq_zero.mp id1.symm with z|z
  ·exact h1 (h.rm (Int.eq_of_sub_eq_zero z))
  ·exact h2 (h.rm (Int.eq_of_sub_eq_zero z))
 have pn:∀{x y:Int},P d (-x) (-y)->¬ P d x y:=fun h g=>absurd ((p7 h).symm.trans (qb g)) ⋯
 rcases lV (a:=a) (b:=b) h with z|z|z
 ·exact absurd z h1
 ·rcases lV (a:=p) (b:=q) h with w|w|w
  ·exact absurd w h2
  ·rw[qb z,qb w];exact qb (k.mpr ⟨fun _=>w,fun _=>z⟩)
  ·rw[qb z,p7 w]
   rcases lV (a:=a*p+d*b*q) (b:=a*q+b*p) h with v|v|v
   ·exact absurd v h3
   ·exact absurd ((k.mp v).mp z) (pn w)
   ·exact p7 v
 ·rcases lV (a:=p) (b:=q) h with w|w|w
  ·exact absurd w h2
  ·rw[p7 z,qb w]
   rcases lV (a:=a*p+d*b*q) (b:=a*q+b*p) h with v|v|v
   ·exact absurd v h3
   ·exact absurd ((k.mp v).mpr w) (pn z)
   ·exact p7 v
  ·rw[p7 z,p7 w];exact qb (k.mpr ⟨fun v=>absurd v (pn z),fun v=>absurd v (pn w)⟩)
theorem fF{d a b k:Int}(h:ah d)(hk:0<k):sg d (k*a) (k*b)=sg d a b:=by
 have e:=vy (a:=k) (b:=0) (p:=a) (q:=b) h
 have e1:sg d k 0=1:=by unfold sg;rw[if_neg ∅,if_pos ∅]
 rw[e1] at e
 simpa using e
end NM
namespace L2
open PySem PySem.Spec PyProof.Rows
section
variable {X:Cx}{pins:List (Addr×Obj)}{O:St}{H:Hp}{s:Shared}{a:Addr}{y v:V}{u r:Value}{o:Option V}{A:Around}{E:Value->Shared->Prop}
theorem Inv.big(I:Inv X pins O H s):sysModules<s.heap.objs.size:=by
 have h:mainGlobals<s.heap.objs.size:=(I.mod.glob.keeps I.bk).lt
 exact Nat.lt_trans ⋯ h
end
end L2
namespace NM
structure Rep(x:N3)(A B C:Int):Prop where
 c:C≠0
 a:x.a*C=A*x.c
 b:x.b*C=B*x.c
section
variable {x y:N3}{A B C A' B' C' d:Int}
theorem au(h:Ok x):Rep x x.a x.b x.c:=⟨h.cn,rfl,rfl⟩
theorem eR{a b c:Int}(h:c≠0):Rep (low a b c) a b c:=by
 obtain⟨k,hk,_,p1,p2,p3,_⟩:=dk a b h
 generalize low a b c=z at *
 exact⟨h,by grind,by grind⟩
theorem Rep.eq(ox:Ok x)(oy:Ok y)(h:Rep x A B C)(g:Rep y A' B' C')(e1:A*C'=A'*C)(e2:B*C'=B'*C):x=y:=by
 have hc:C*C'≠0:=mul_ne_zero h.c g.c
 obtain⟨_,h1,h2⟩:=h
 obtain⟨_,g1,g2⟩:=g
 exact ox.same oy (eq_of_mul_eq_mul_right hc (by grind)) (eq_of_mul_eq_mul_right hc (by grind))
theorem Rep.minus(h:Rep x A B C):Rep (minus x) (-A) (-B) C:=⟨h.c,by show -x.a*C = -A*x.c;have:=h.a;grind,by show -x.b*C = -B*x.c;have:=h.b;grind⟩
theorem Rep.plus(ox:Ok x)(oy:Ok y)(h:Rep x A B C)(g:Rep y A' B' C'):Rep (plus x y) (A*C'+A'*C) (B*C'+B'*C) (C*C'):=by
 have hc:=jW ox oy
 obtain⟨_,q1,q2⟩:=eR (a:=x.a*y.c+y.a*x.c) (b:=x.b*y.c+y.b*x.c) hc
 obtain⟨hc1,h1,h2⟩:=h
 obtain⟨hc2,g1,g2⟩:=g
 change (NM.plus x y).a*(x.c*y.c)=_*(NM.plus x y).c at q1
 change (NM.plus x y).b*(x.c*y.c)=_*(NM.plus x y).c at q2
 generalize NM.plus x y=z at *
 exact⟨mul_ne_zero hc1 hc2,eq_of_mul_eq_mul_right hc (by grind),eq_of_mul_eq_mul_right hc (by grind)⟩
theorem Rep.less(ox:Ok x)(oy:Ok y)(h:Rep x A B C)(g:Rep y A' B' C'):Rep (less x y) (A*C'-A'*C) (B*C'-B'*C) (C*C'):=by
 have hc:=jW ox oy
 obtain⟨_,q1,q2⟩:=eR (a:=x.a*y.c-y.a*x.c) (b:=x.b*y.c-y.b*x.c) hc
 obtain⟨hc1,h1,h2⟩:=h
 obtain⟨hc2,g1,g2⟩:=g
 change (NM.less x y).a*(x.c*y.c)=_*(NM.less x y).c at q1
 change (NM.less x y).b*(x.c*y.c)=_*(NM.less x y).c at q2
 generalize NM.less x y=z at *
 exact⟨mul_ne_zero hc1 hc2,eq_of_mul_eq_mul_right hc (by grind),eq_of_mul_eq_mul_right hc (by grind)⟩
theorem Rep.times(ox:Ok x)(oy:Ok y)(h:Rep x A B C)(g:Rep y A' B' C'):Rep (times d x y) (A*A'+d*B*B') (A*B'+B*A') (C*C'):=by
 have hc:=jW ox oy
 obtain⟨_,q1,q2⟩:=eR (a:=x.a*y.a+d*x.b*y.b) (b:=x.a*y.b+x.b*y.a) hc
 obtain⟨hc1,h1,h2⟩:=h
 obtain⟨hc2,g1,g2⟩:=g
 change (NM.times d x y).a*(x.c*y.c)=_*(NM.times d x y).c at q1
 change (NM.times d x y).b*(x.c*y.c)=_*(NM.times d x y).c at q2
 generalize NM.times d x y=z at *
 exact⟨mul_ne_zero hc1 hc2,eq_of_mul_eq_mul_right hc (by grind),eq_of_mul_eq_mul_right hc (by grind)⟩
theorem Rep.norm(h:Rep x A B C):NM.norm d x*(C*C)=(A*A-d*B*B)*(x.c*x.c):=by
 obtain⟨_,h1,h2⟩:=h
 unfold NM.norm
 have e1:x.a*x.a*(C*C)=A*A*(x.c*x.c):=by
  have:(x.a*C)*(x.a*C)=(A*x.c)*(A*x.c):=by rw[h1]
  grind
 have e2:x.b*x.b*(C*C)=B*B*(x.c*x.c):=by
  have:(x.b*C)*(x.b*C)=(B*x.c)*(B*x.c):=by rw[h2]
  grind
 grind
theorem Rep.aA(ox:Ok x)(hn:NM.norm d x≠0)(h:Rep x A B C):Rep (aA d x) (C*A) (-C*B) (A*A-d*B*B):=by
 have hN:=h.norm (d:=d)
 have hcc:x.c*x.c≠0:=mul_ne_zero ox.cn ox.cn
 have hN0:A*A-d*B*B≠0:=fun z=>by
  rw[z,Int.zero_mul] at hN
  rcases Int.mul_eq_zero.mp hN with w|w
  ·exact hn w
  ·rcases Int.mul_eq_zero.mp w with w|w<;>exact h.c w
 obtain⟨_,q1,q2⟩:=eR (a:=x.c*x.a) (b:=-x.c*x.b) hn
 change (NM.aA d x).a*NM.norm d x=_*(NM.aA d x).c at q1
 change (NM.aA d x).b*NM.norm d x=_*(NM.aA d x).c at q2
 obtain⟨hc1,h1,h2⟩:=h
 generalize NM.aA d x=z at *
 generalize NM.norm d x=n at *
 generalize A*A-d*B*B=m at *
 refine⟨hN0,?_,?_⟩
 ·have e:z.a*m*(x.c*x.c)=C*A*z.c*(x.c*x.c):=by grind
  exact eq_of_mul_eq_mul_right hcc e
 ·have e:z.b*m*(x.c*x.c) = -C*B*z.c*(x.c*x.c):=by grind
  exact eq_of_mul_eq_mul_right hcc e
theorem Rep.sg(hd:ah d)(ox:Ok x)(h:Rep x A B C)(hC:0<C):sg d x.a x.b=NM.sg d A B:=by
 have e1:=fF (a:=x.a) (b:=x.b) hd hC
 have e2:=fF (a:=A) (b:=B) hd ox.c
 rw[show C*x.a=x.c*A by have:=h.a;grind,show C*x.b=x.c*B by have:=h.b;grind] at e1
 rw[<- e1,e2]
end
end NM
namespace NM
noncomputable def ya(d:Int)(x:N3):N3:=times d (times d (plus x (B2 x)) (plus x (B2 x))) (aA d (times d x (B2 x)))
section
variable {d:Int}{x y z:N3}
theorem kE{a b c:Int}(h:ah d)(hc:0<c):sg d (low a b c).a (low a b c).b=sg d a b:=(eR (show c≠0 by omega)).sg h (dn _ _ ∅) hc
theorem lN(h:ah d)(ox:Ok x)(oy:Ok y):sg d (times d x y).a (times d x y).b=sg d x.a x.b*sg d y.a y.b:=by
 unfold times
 rw[kE h (mul_pos ox.c oy.c),vy h]
theorem w5:sg d one.a one.b=1:=by
 unfold one sg
 rw[if_neg (by simp),if_pos (by simp)]
theorem fJ(h:ah d)(ox:Ok x)(hx:sg d x.a x.b=1):norm d x≠0:=h.norm ox (fun e=>by subst e;have:sg d cy.a cy.b=0:=iV.mpr ⟨rfl,rfl⟩;omega)
theorem ig(ox:Ok x)(hn:norm d x≠0):times d x (aA d x)=one:=by
 have oc:=cM hn
 exact ((au ox).times ox oc ((au ox).aA ox hn)).eq (aM ox oc) vY (au vY) (by simp only[one];grind) (by simp only[one];grind)
theorem hZ(h:ah d)(ox:Ok x)(hx:sg d x.a x.b=1):sg d (aA d x).a (aA d x).b=1:=by
 have hn:=fJ h ox hx
 have e:=lN h ox (cM hn)
 rw[ig ox hn,w5,hx] at e
 omega
theorem FG{n:Int}:sg d n 0=if n=0 then 0 else if 0<n then 1 else -1:=by
 unfold sg
 by_cases h:n=0
 ·simp[h]
 ·rcases lt_or_gt_of_ne h with z|z
  ·rw[if_neg ∅,if_neg ∅,if_pos ∅,if_neg h,if_neg ∅]
  ·rw[if_neg ∅,if_pos ∅,if_neg h,if_pos ∅]
noncomputable def W(x y:N3):Int:=x.b*y.a-x.a*y.b
noncomputable def CD(d:Int)(x y:N3):Int:=sg d (x.a*y.c-y.a*x.c) (x.b*y.c-y.b*x.c)
theorem uO(h:ah d)(ox:Ok x)(oy:Ok y):sg d (less x y).a (less x y).b=CD d x y:=by
 unfold less CD
 rw[kE h (mul_pos ox.c oy.c)]
end
end NM
namespace NM
noncomputable def Ht(d:Int)(n:Nat)(x:N3):Prop:=∃a b e f:Int,Sz n a/\Sz n b/\Sz n e/\Sz n f/\e*e-d*f*f≠0/\x.a*e+d*x.b*f=a*x.c/\x.a*f+x.b*e=b*x.c
section
variable {d:Int}{n m:Nat}{x y:N3}
theorem Ht.mono(h:Ht d n x)(l:n<=m):Ht d m x:=by
 obtain⟨a,b,e,f,h1,h2,h3,h4,r⟩:=h
 exact⟨a,b,e,f,h1.mono l,h2.mono l,h3.mono l,h4.mono l,r⟩
theorem sz0:Sz n 0:=Sz.of (by simp;exact Nat.pos_of_ne_zero (by simp))
theorem xE(ox:Ok x)(h:Bd n x):Ht d n x:=by
 refine⟨x.a,x.b,x.c,0,h.a,h.b,h.c,sz0,?_,by grind,by grind⟩
 have:=mul_ne_zero ox.cn ox.cn
 grind
theorem vq(ox:Ok x)(hn:norm d x≠0)(h:Ht d n x):Ht d n (aA d x):=by
 obtain⟨a,b,e,f,h1,h2,h3,h4,hN,q1,q2⟩:=h
 have r:=(au ox).aA (d:=d) ox hn
 have oc:=ox.cn
 refine⟨e,f,a,b,h3,h4,h1,h2,?_,?_,?_⟩
 ·intro z
  have:(x.a*x.a-d*x.b*x.b)*(e*e-d*f*f)=(a*a-d*b*b)*(x.c*x.c):=by
   have e1:(a*x.c)*(a*x.c)-d*((b*x.c)*(b*x.c))=(x.a*x.a-d*x.b*x.b)*(e*e-d*f*f):=by rw[<- q1,<- q2];grind
   grind
  rw[z,Int.zero_mul] at this
  rcases Int.mul_eq_zero.mp this with w|w
  ·exact hn w
  ·exact hN w
 ·have hc:=r.c
  generalize aA d x=y at *
  obtain⟨_,r1,r2⟩:=r
  have hk:(x.a*x.a-d*x.b*x.b)*x.c≠0:=mul_ne_zero hc oc
  apply eq_of_mul_eq_mul_right hk
  have s1:(y.a*a+d*y.b*b)*((x.a*x.a-d*x.b*x.b)*x.c)=(y.a*(x.a*x.a-d*x.b*x.b))*(a*x.c)+d*(y.b*(x.a*x.a-d*x.b*x.b))*(b*x.c):=by grind
  rw[s1,r1,r2,<- q1,<- q2]
  grind
 ·have hc:=r.c
  generalize aA d x=y at *
  obtain⟨_,r1,r2⟩:=r
  have hk:(x.a*x.a-d*x.b*x.b)*x.c≠0:=mul_ne_zero hc oc
  apply eq_of_mul_eq_mul_right hk
  have s1:(y.a*b+y.b*a)*((x.a*x.a-d*x.b*x.b)*x.c)=(y.a*(x.a*x.a-d*x.b*x.b))*(b*x.c)+(y.b*(x.a*x.a-d*x.b*x.b))*(a*x.c):=by grind
  rw[s1,r1,r2,<- q1,<- q2]
  grind
theorem Aq(d e f e' f':Int):(e*e'+d*f*f')*(e*e'+d*f*f')-d*(e*f'+f*e')*(e*f'+f*e')=(e*e-d*f*f)*(e'*e'-d*f'*f'):=by grind
theorem szm(hd:Sz 5 d){p q r s:Int}(hp:Sz n p)(hq:Sz n q)(hr:Sz m r)(hs:Sz m s):Sz (n+m+6) (p*r+d*q*s):=by
 have e1:=(hp.mul hr).mono (m:=n+m+5) ∅
 have e2:=((hd.mul hq).mul hs).mono (m:=n+m+5) ∅
 exact e1.add e2
theorem szx{p q r s:Int}(hp:Sz n p)(hq:Sz n q)(hr:Sz m r)(hs:Sz m s):Sz (n+m+6) (p*s+q*r):=((hp.mul hs).add (hq.mul hr)).mono ∅
theorem CG(hd:Sz 5 d)(ox:Ok x)(oy:Ok y)(h:Ht d n x)(g:Ht d m y):Ht d (n+m+7) (plus x y):=by
 obtain⟨a,b,e,f,h1,h2,h3,h4,hN,p1,p2⟩:=h
 obtain⟨a',b',e',f',g1,g2,g3,g4,gN,q1,q2⟩:=g
 have hc:=jW ox oy
 obtain⟨_,r1,r2⟩:=eR (a:=x.a*y.c+y.a*x.c) (b:=x.b*y.c+y.b*x.c) hc
 change (plus x y).a*(x.c*y.c)=_*(plus x y).c at r1
 change (plus x y).b*(x.c*y.c)=_*(plus x y).c at r2
 generalize plus x y=z at *
 refine⟨(a*e'+d*b*f')+(a'*e+d*b'*f),(a*f'+b*e')+(a'*f+b'*e),e*e'+d*f*f',e*f'+f*e',(szm hd h1 h2 g3 g4).add ((szm hd g1 g2 h3 h4).mono ∅),(szx h1 h2 g3 g4).add ((szx g1 g2 h3 h4).mono ∅),(szm hd h3 h4 g3 g4).mono ∅,(szx h3 h4 g3 g4).mono ∅,?_,?_,?_⟩
 ·rw[Aq];exact mul_ne_zero hN gN
 ·apply eq_of_mul_eq_mul_right hc
  have s1:(z.a*(e*e'+d*f*f')+d*z.b*(e*f'+f*e'))*(x.c*y.c)=(z.a*(x.c*y.c))*(e*e'+d*f*f')+d*(z.b*(x.c*y.c))*(e*f'+f*e'):=by grind
  have s2:(a*e'+d*b*f'+(a'*e+d*b'*f))*z.c*(x.c*y.c)=((a*x.c)*e'*y.c+d*(b*x.c)*f'*y.c+((a'*y.c)*e*x.c+d*(b'*y.c)*f*x.c))*z.c:=by grind
  rw[s1,s2,r1,r2,<- p1,<- p2,<- q1,<- q2]
  grind
 ·apply eq_of_mul_eq_mul_right hc
  have s1:(z.a*(e*f'+f*e')+z.b*(e*e'+d*f*f'))*(x.c*y.c)=(z.a*(x.c*y.c))*(e*f'+f*e')+(z.b*(x.c*y.c))*(e*e'+d*f*f'):=by grind
  have s2:(a*f'+b*e'+(a'*f+b'*e))*z.c*(x.c*y.c)=((a*x.c)*f'*y.c+(b*x.c)*e'*y.c+((a'*y.c)*f*x.c+(b'*y.c)*e*x.c))*z.c:=by grind
  rw[s1,s2,r1,r2,<- p1,<- p2,<- q1,<- q2]
  grind
theorem BA(hd:Sz 5 d)(ox:Ok x)(oy:Ok y)(h:Ht d n x)(g:Ht d m y):Ht d (n+m+6) (times d x y):=by
 obtain⟨a,b,e,f,h1,h2,h3,h4,hN,p1,p2⟩:=h
 obtain⟨a',b',e',f',g1,g2,g3,g4,gN,q1,q2⟩:=g
 have hc:=jW ox oy
 obtain⟨_,r1,r2⟩:=eR (a:=x.a*y.a+d*x.b*y.b) (b:=x.a*y.b+x.b*y.a) hc
 change (times d x y).a*(x.c*y.c)=_*(times d x y).c at r1
 change (times d x y).b*(x.c*y.c)=_*(times d x y).c at r2
 generalize times d x y=z at *
 refine⟨a*a'+d*b*b',a*b'+b*a',e*e'+d*f*f',e*f'+f*e',szm hd h1 h2 g1 g2,szx h1 h2 g1 g2,szm hd h3 h4 g3 g4,szx h3 h4 g3 g4,?_,?_,?_⟩
 ·rw[Aq];exact mul_ne_zero hN gN
 ·apply eq_of_mul_eq_mul_right hc
  have s1:(z.a*(e*e'+d*f*f')+d*z.b*(e*f'+f*e'))*(x.c*y.c)=(z.a*(x.c*y.c))*(e*e'+d*f*f')+d*(z.b*(x.c*y.c))*(e*f'+f*e'):=by grind
  have s2:(a*a'+d*b*b')*z.c*(x.c*y.c)=((a*x.c)*(a'*y.c)+d*(b*x.c)*(b'*y.c))*z.c:=by grind
  rw[s1,s2,r1,r2,<- p1,<- p2,<- q1,<- q2]
  grind
 ·apply eq_of_mul_eq_mul_right hc
  have s1:(z.a*(e*f'+f*e')+z.b*(e*e'+d*f*f'))*(x.c*y.c)=(z.a*(x.c*y.c))*(e*f'+f*e')+(z.b*(x.c*y.c))*(e*e'+d*f*f'):=by grind
  have s2:(a*b'+b*a')*z.c*(x.c*y.c)=((a*x.c)*(b'*y.c)+(b*x.c)*(a'*y.c))*z.c:=by grind
  rw[s1,s2,r1,r2,<- p1,<- p2,<- q1,<- q2]
  grind
theorem Aa(hd:Sz 5 d)(ox:Ok x)(h:Ht d n x):Bd (2*n+6) x:=by
 obtain⟨a,b,e,f,h1,h2,h3,h4,hN,p1,p2⟩:=h
 have ex:x=NM.low (a*e-d*b*f) (b*e-a*f) (e*e-d*f*f):=by
  refine ox.Gm hN ?_ ?_
  ·have s1:(a*e-d*b*f)*x.c=(a*x.c)*e-d*(b*x.c)*f:=by grind
   rw[s1,<- p1,<- p2];grind
  ·have s1:(b*e-a*f)*x.c=(b*x.c)*e-(a*x.c)*f:=by grind
   rw[s1,<- p1,<- p2];grind
 have sub:∀{p q r s:Int},Sz n p->Sz n q->Sz n r->Sz n s->Sz (2*n+6) (p*r-d*q*s):=fun hp hq hr hs=>by
  have e1:=(hp.mul hr).mono (m:=2*n+5) ∅
  have e2:=((hd.mul hq).mul hs).mono (m:=2*n+5) ∅
  exact e1.sub e2
 rw[ex]
 exact dy hN (sub h1 h2 h3 h4) (((h2.mul h3).sub ((h1.mul h4).mono ∅)).mono ∅) (sub h3 h4 h3 h4)
theorem n4(h:ah d)(ox:Ok x)(oy:Ok y)(hx:x=cy\/sg d x.a x.b=1)(hy:sg d y.a y.b=1):sg d (plus x y).a (plus x y).b=1:=by
 have e:sg d (plus x y).a (plus x y).b=sg d (x.a*y.c+y.a*x.c) (x.b*y.c+y.b*x.c):=kE h (mul_pos ox.c oy.c)
 rw[e]
 rcases hx with rfl|hx
 ·have e1:cy.a*y.c+y.a*cy.c=y.a:=by show 0*y.c+y.a*1=y.a;omega
  have e2:cy.b*y.c+y.b*cy.c=y.b:=by show 0*y.c+y.b*1=y.b;omega
  rw[e1,e2];exact hy
 ·have p1:P d (y.c*x.a) (y.c*x.b):=(cO h).mp (by rw[fF h oy.c];exact hx)
  have p2:P d (x.c*y.a) (x.c*y.b):=(cO h).mp (by rw[fF h ox.c];exact hy)
  have:=(cO h).mpr (En h p1 p2)
  have e1:x.a*y.c+y.a*x.c=y.c*x.a+x.c*y.a:=by grind
  have e2:x.b*y.c+y.b*x.c=y.c*x.b+x.c*y.b:=by grind
  rw[e1,e2];exact this
end
end NM
set_option maxHeartbeats 1000000
namespace NM
end NM
set_option maxHeartbeats 4000000
namespace NM
end NM
set_option maxHeartbeats 400000
namespace NM
end NM
namespace NM
end NM
set_option maxHeartbeats 4000000
namespace NM
section
variable {d:Int}{x y z u p q s t w h p' q' s' t' w' h':N3}
noncomputable def hf(d:Int)(p q h:N3):N3:=plus (times d p h) (times d q (B2 h))
end
end NM
namespace NM
section
variable {d:Int}{x y z:N3}
noncomputable def gtL(d:Int)(k o:N3):Prop:=((ya d o).a.natAbs:Int)*(ya d k).c<((ya d k).a.natAbs:Int)*(ya d o).c
noncomputable instance:Decidable (gtL d x y):=by unfold gtL;infer_instance
end
end NM
set_option maxHeartbeats 400000
namespace NM
section
variable {d:Int}{x y z k s o f u v:N3}
theorem lD(ox:Ok x)(oy:Ok y):times d x y=times d y x:=
 Rep.eq (aM ox oy) (aM oy ox) (Rep.times ox oy (au ox) (au oy)) (Rep.times oy ox (au oy) (au ox)) (by grind) (by grind)
theorem Cn(ox:Ok x)(oy:Ok y)(oz:Ok z):times d (times d x y) z=times d x (times d y z):=
 Rep.eq (aM (aM ox oy) oz) (aM ox (aM oy oz)) (Rep.times (aM ox oy) oz (Rep.times ox oy (au ox) (au oy)) (au oz)) (Rep.times ox (aM oy oz) (au ox) (Rep.times oy oz (au oy) (au oz))) (by grind) (by grind)
end
end NM
set_option maxHeartbeats 4000000
namespace NM
section
variable {d:Int}{x y z:N3}
theorem Gn(ox:Ok x)(oy:Ok y):plus x y=plus y x:=
 Rep.eq (aY ox oy) (aY oy ox) (Rep.plus ox oy (au ox) (au oy)) (Rep.plus oy ox (au oy) (au ox)) (by grind) (by grind)
theorem Ha(ox:Ok x)(oy:Ok y)(oz:Ok z):plus (plus x y) z=plus x (plus y z):=
 Rep.eq (aY (aY ox oy) oz) (aY ox (aY oy oz)) (Rep.plus (aY ox oy) oz (Rep.plus ox oy (au ox) (au oy)) (au oz)) (Rep.plus ox (aY oy oz) (au ox) (Rep.plus oy oz (au oy) (au oz))) (by grind) (by grind)
theorem Ab(ox:Ok x)(oy:Ok y)(oz:Ok z):times d x (plus y z)=plus (times d x y) (times d x z):=
 Rep.eq (aM ox (aY oy oz)) (aY (aM ox oy) (aM ox oz)) (Rep.times ox (aY oy oz) (au ox) (Rep.plus oy oz (au oy) (au oz))) (Rep.plus (aM ox oy) (aM ox oz) (Rep.times ox oy (au ox) (au oy)) (Rep.times ox oz (au ox) (au oz))) (by grind) (by grind)
noncomputable def oN(n:Int):N3:=⟨n,0,1⟩
theorem bg(n:Int):Ok (oN n):=⟨Int.le_refl 1,by show g3 n 0 1=1;unfold g3;simp⟩
theorem dq(n:Int):Rep (oN n) n 0 1:=au (bg n)
theorem Fm(ox:Ok x):plus x (oN 0)=x:=
 Rep.eq (aY ox (bg 0)) ox (Rep.plus ox (bg 0) (au ox) (dq 0)) (au ox) (by grind) (by grind)
theorem Ag(ox:Ok x):times d (oN 0) x=oN 0:=
 Rep.eq (aM (bg 0) ox) (bg 0) (Rep.times (bg 0) ox (dq 0) (au ox)) (dq 0) (by grind) (by grind)
theorem Bt(ox:Ok x):times d x (oN 1)=x:=
 Rep.eq (aM ox (bg 1)) ox (Rep.times ox (bg 1) (au ox) (dq 1)) (au ox) (by grind) (by grind)
theorem Jw(ox:Ok x):plus (minus x) x=oN 0:=
 Rep.eq (aY (bQ ox) ox) (bg 0) (Rep.plus (bQ ox) ox (Rep.minus (au ox)) (au ox)) (dq 0) (by grind) (by grind)
theorem IM(ox:Ok x)(oy:Ok y):less x y=plus x (minus y):=
 Rep.eq (yc ox oy) (aY ox (bQ oy)) (Rep.less ox oy (au ox) (au oy)) (Rep.plus ox (bQ oy) (au ox) (Rep.minus (au oy))) (by grind) (by grind)
theorem Ia(n:Int)(ox:Ok x):times d (oN (-n)) x=minus (times d (oN n) x):=
 Rep.eq (aM (bg (-n)) ox) (bQ (aM (bg n) ox)) (Rep.times (bg _) ox (dq _) (au ox)) (Rep.minus (Rep.times (bg n) ox (dq n) (au ox))) (by grind) (by grind)
theorem Ih(n:Nat):oN ((n+1:Nat):Int)=plus (oN (n:Int)) (oN 1):=
 Rep.eq (bg _) (aY (bg _) (bg _)) (dq _) (Rep.plus (bg _) (bg _) (dq _) (dq _)) (by push_cast;grind) (by grind)
end
structure RN(d:Int) where
 v:N3
 ok:Ok v
theorem RN.ext{d:Int}{x y:RN d}(h:x.v=y.v):x=y:=by cases x;cases y;cases h;rfl
noncomputable def EW(d:Int)(a:RN d):Nat->RN d
 |0=>⟨oN 1,bg 1⟩
 |n+1=>⟨times d (EW d a n).v a.v,aM (EW d a n).ok a.ok⟩
section
variable {d:Int}
noncomputable instance:Add (RN d):=⟨fun a b=>⟨plus a.v b.v,aY a.ok b.ok⟩⟩
noncomputable instance:Mul (RN d):=⟨fun a b=>⟨times d a.v b.v,aM a.ok b.ok⟩⟩
noncomputable instance:Neg (RN d):=⟨fun a=>⟨minus a.v,bQ a.ok⟩⟩
noncomputable instance:Sub (RN d):=⟨fun a b=>⟨less a.v b.v,yc a.ok b.ok⟩⟩
noncomputable instance:NatCast (RN d):=⟨fun n=>⟨oN n,bg n⟩⟩
noncomputable instance:IntCast (RN d):=⟨fun n=>⟨oN n,bg n⟩⟩
noncomputable instance (n:Nat):OfNat (RN d) n:=⟨⟨oN n,bg n⟩⟩
noncomputable instance:SMul Nat (RN d):=⟨fun n a=>⟨times d (oN n) a.v,aM (bg n) a.ok⟩⟩
noncomputable instance:SMul Int (RN d):=⟨fun n a=>⟨times d (oN n) a.v,aM (bg n) a.ok⟩⟩
noncomputable instance:HPow (RN d) Nat (RN d):=⟨EW d⟩
noncomputable instance:Lean.Grind.CommRing (RN d) where
 add_zero a:=RN.ext (Fm a.ok)
 add_comm a b:=RN.ext (Gn a.ok b.ok)
 add_assoc a b c:=RN.ext (Ha a.ok b.ok c.ok)
 mul_assoc a b c:=RN.ext (Cn a.ok b.ok c.ok)
 mul_one a:=RN.ext (Bt a.ok)
 one_mul a:=RN.ext ((lD (bg 1) a.ok).trans (Bt a.ok))
 left_distrib a b c:=RN.ext (Ab a.ok b.ok c.ok)
 right_distrib a b c:=RN.ext ((lD (aY a.ok b.ok) c.ok).trans ((Ab c.ok a.ok b.ok).trans (by rw[lD c.ok a.ok,lD c.ok b.ok];rfl)))
 zero_mul a:=RN.ext (Ag a.ok)
 mul_zero a:=RN.ext ((lD a.ok (bg 0)).trans (Ag a.ok))
 mul_comm a b:=RN.ext (lD a.ok b.ok)
 pow_zero a:=rfl
 pow_succ a n:=rfl
 ofNat_succ n:=RN.ext (Ih n)
 ofNat_eq_natCast n:=rfl
 nsmul_eq_natCast_mul n a:=rfl
 neg_add_cancel a:=RN.ext (Jw a.ok)
 sub_eq_add_neg a b:=RN.ext (IM a.ok b.ok)
 neg_zsmul i a:=RN.ext (Ia i a.ok)
 zsmul_natCast_eq_nsmul n a:=rfl
 intCast_ofNat n:=rfl
 intCast_neg i:=RN.ext rfl
end
section
variable {d:Int}{a b c:RN d}
noncomputable def ps(a:RN d):Prop:=sg d a.v.a a.v.b=1
noncomputable def nn(a:RN d):Prop:=¬ ps (-a)
theorem FZ(hd:ah d)(a:RN d):sg d (-a).v.a (-a).v.b = - sg d a.v.a a.v.b:=k5 hd
theorem GX(hd:ah d)(ha:ps a)(hb:ps b):ps (a+b):=n4 hd a.ok b.ok (.inr ha) hb
theorem bL(hd:ah d)(ha:ps a)(hb:ps b):ps (a*b):=by
 show sg d (times d a.v b.v).a (times d a.v b.v).b=1
 rw[lN hd a.ok b.ok,show sg d a.v.a a.v.b=1 from ha,show sg d b.v.a b.v.b=1 from hb];rfl
theorem IY:¬ ps (0:RN d):=fun h=>by
 have:sg d (0:Int) 0=1:=h
 rw[iV.mpr ⟨rfl,rfl⟩] at this;omega
theorem GH(hd:ah d)(h:ps a):¬ ps (-a):=fun g=>by
 have e:=FZ hd a
 rw[show sg d a.v.a a.v.b=1 from h,show sg d (-a).v.a (-a).v.b=1 from g] at e;omega
theorem Hw(hd:ah d)(a:RN d):a=0\/ps a\/ps (-a):=by
 rcases oT d a.v.a a.v.b with e|e|e
 ·obtain⟨h1,h2⟩:=iV.mp e
  exact .inl (RN.ext (a.ok.same (bg 0) (by rw[h1];show 0*_=0*_;omega) (by rw[h2];show 0*_=0*_;omega)))
 ·exact .inr (.inl e)
 ·exact .inr (.inr (by show sg d (-a).v.a (-a).v.b=1;rw[FZ hd a,e];rfl))
theorem fh(hd:ah d)(h:ps a):nn a:=GH hd h
theorem wj:nn (0:RN d):=fun h=>IY ((show -(0:RN d)=0 by grind)▸h)
theorem uI(hd:ah d)(h:nn a):a=0\/ps a:=by
 rcases Hw hd a with e|e|e
 ·exact .inl e
 ·exact .inr e
 ·exact absurd e h
theorem qC(hd:ah d)(ha:ps a)(hb:nn b):ps (a+b):=by
 rcases uI hd hb with e|e
 ·rw[e,show a+0=a by grind];exact ha
 ·exact GX hd ha e
theorem jR(hd:ah d)(ha:nn a)(hb:nn b):nn (a+b):=by
 rcases uI hd ha with e|e
 ·rw[e,show 0+b=b by grind];exact hb
 ·exact fh hd (qC hd e hb)
theorem dQ(hd:ah d)(ha:nn a)(hb:nn b):nn (a*b):=by
 rcases uI hd ha with e|e
 ·rw[e,show 0*b=0 by grind];exact wj
 ·rcases uI hd hb with e'|e'
  ·rw[e',show a*0=0 by grind];exact wj
  ·exact fh hd (bL hd e e')
theorem ur(h:ps a)(g:nn b)(e:a+b=0):False:=g (by rwa [show -b=a by grind])
theorem aN(h:0<(n:Int)):ps ((n:Int):RN d):=by
 show sg d n 0=1
 rw[FG,if_neg ∅,if_pos h]
theorem kX(hd:ah d)(h:0<=(n:Int)):nn ((n:Int):RN d):=by
 rcases lt_or_eq_of_le h with z|z
 ·exact fh hd (aN z)
 ·rw[<- z];exact wj
theorem tW(m n:Int):((m+n:Int):RN d)=(m:RN d)+(n:RN d):=Lean.Grind.Ring.intCast_add m n
theorem gU(m n:Int):((m-n:Int):RN d)=(m:RN d)-(n:RN d):=Lean.Grind.Ring.intCast_sub m n
theorem nE:((1:Int):RN d)=1:=rfl
noncomputable def inv(a:RN d):RN d:=if h:norm d a.v≠0 then ⟨aA d a.v,cM h⟩ else 0
theorem f7(hd:ah d)(h:ps a):norm d a.v≠0:=fJ hd a.ok h
theorem iE(hd:ah d)(h:ps a):(inv a).v=aA d a.v:=by unfold inv;rw[dif_pos (f7 hd h)]
theorem inv_mul(hd:ah d)(h:ps a):a*inv a=1:=RN.ext (by
 show times d a.v (inv a).v=_
 rw[iE hd h];exact ig a.ok (f7 hd h))
theorem cA(hd:ah d)(h:ps a):ps (inv a):=by
 show sg d (inv a).v.a (inv a).v.b=1
 rw[iE hd h];exact hZ hd a.ok h
theorem iy(hd:ah d){m n:Int}(hn:0<n):low m 0 n=((m:RN d)*inv (n:RN d)).v:=by
 have r:=Rep.times (d:=d) (bg m) (inv (n:RN d)).ok (dq m) (by
  rw[iE hd (aN hn)]
  exact (dq n).aA (bg n) (f7 hd (aN (d:=d) hn)))
 exact Rep.eq (dn _ _ ∅) ((m:RN d)*inv (n:RN d)).ok (eR ∅) r (by grind) (by grind)
end
end NM
namespace L2.DL
open PySem PySem.Spec PyProof.Rows
inductive Box where
 |dict (kvs:List (List Int×PyData))
 |set (ks:List (List Int))
structure Mu where
 l:Addr->Option (List PyData)
 b:Addr->Option Box
noncomputable instance:CoeFun Mu fun _=>Addr->Option (List PyData):=⟨Mu.l⟩
noncomputable abbrev PQ:=PySem.W.Frag->V->Mu->Hp->Prop
inductive D where
 |v (x:PyData)
 |m (a:Addr)
 |s (ns:List Int)
  /-- an object that is handed on -/
 |o (a:Addr)
  /-- a dict or a set -/
 |b (a:Addr)
  /-- a thing of which something is known that stays -/
 |q (P:PQ)
noncomputable abbrev Rho:=List (Option D)
noncomputable def aD(U:Mu)(a:Addr)(ds:List PyData):Mu:=⟨fun b=>if b=a then some ds else U b,U.b⟩
theorem av{U:Mu}{a:Addr}{ds}:aD U a ds a=some ds:=if_pos rfl
theorem ao{U:Mu}{a b:Addr}{ds}(h:b≠a):aD U a ds b=U b:=if_neg h
noncomputable def ma(U:Mu)(a:Addr)(c:Box):Mu:=⟨U.l,fun b=>if b=a then some c else U.b b⟩
theorem Mu.eq{U ν:Mu}(h1:∀b,U b=ν b)(h2:∀b,U.b b=ν.b b):U=ν:=by
 obtain⟨l,b⟩:=U;obtain⟨l',b'⟩:=ν
 cases (funext h1:l=l');cases (funext h2:b=b');rfl
theorem bU{U:Mu}{a:Addr}{ds es}:aD (aD U a ds) a es=aD U a es:=Mu.eq (fun b=>by
 by_cases h:b=a
 ·subst h;rw[av,av]
 ·rw[ao h,ao h,ao h]) fun _=>rfl
mutual
inductive Rp(K:PySem.W.Frag)(U:Mu)(H:Hp):PyData->V->Prop
 |none:Rp K U H .none .non
 |bool (b:Bool):Rp K U H (.bool b) (.bl b)
 |int (i:Int):Rp K U H (.int i) (.int i)
 |str (x:Str):Rp K U H (.str x) (.str x)
 |list {a:Addr} {xs:List V} {ds:List PyData}:H a=some (.lst xs)->U a=Option.none->RpL K U H ds xs->Rp K U H (.list ds) (.ref a)
 |tuple {a:Addr} {xs:List V} {ds:List PyData}:SqT K H a xs->RpL K U H ds xs->Rp K U H (.tuple ds) (.ref a)
inductive RpL(K:PySem.W.Frag)(U:Mu)(H:Hp):List PyData->List V->Prop
 |nil:RpL K U H [] []
 |cons {d:PyData} {v:V} {ds:List PyData} {vs:List V}:Rp K U H d v->RpL K U H ds vs->RpL K U H (d::ds) (v::vs)
end
noncomputable def NT:HO->Prop
 |.tbl _=>False
 |.raw _=>False
 |_=>True
structure Ext(K:PySem.W.Frag)(U:Mu)(H:Hp)(Z:Mu)(H':Hp):Prop where
 keep:∀b o,H b=some o->U b=none->NT o->H' b=some o
 tb:∀b ps,H b=some (.tbl ps)->U b=none->∃ps',H' b=some (.tbl ps')
 dom:∀b ds,U b=some ds->∃es,Z b=some es
 fresh:∀b,U b=none->(H b≠none\/K.lookup b≠none)->Z b=none
 st:∀b o,H b=some o->U b=none->∃o',H' b=some o'
 bx:∀b c,U.b b=some c->∃c',Z.b b=some c'
noncomputable def RpD(K:PySem.W.Frag)(U:Mu)(H:Hp):D->V->Prop
 |.v x,u=>Rp K U H x u
 |.m a,u=>u = .ref a/\∃ds,U a=some ds
 |.s ns,u=>∃a,u = .ref a/\SqL K H a (ns.map V.int)/\U a=none
 |.o a,u=>u = .ref a
 |.b a,u=>u = .ref a/\∃c,U.b a=some c
 |.q P,u=>∀Z H',Ext K U H Z H'->P K u Z H'
noncomputable def codeAt(c:Addr)(q:Str)(h:Heap):Prop:=∃o vs t,h.get? c=some o/\o.data = .fields vs/\vs[1]? = some (.str q t)
noncomputable abbrev BW(q:Str):Str:=(q ++ ".<locals>.") ++ "<lambda>"
noncomputable def KA(H:Hp)(P:Addr)(q:Str):Prop:=∃ps:Array Value,H P=some (.tbl ps)/\TriplesOk ps.toList/\∀pos cv,codeAmong pos ps.toList=some cv->∃c,cv = .ref c/\H c=some (.ext (codeAt c (BW q)))
noncomputable def vb(K:PySem.W.Frag)(H:Hp):Prop:=∀c o P q,K.lookup c=some o->bu o=some (P,q)->KA H P q
noncomputable abbrev hI(ks:List Int):Int:=reduceHash (Builtin.Tuple.tupleHashOf (ks.map hashInt))
noncomputable def Fw(K:PySem.W.Frag)(U:Mu)(H:Hp)(kvs:List (List Int×PyData))(xs:List (List Int×Addr×Value)):Prop:=
 Paired (fun (p:List Int×PyData) (q:List Int×Addr×Value)=>p.1=q.1/\SqT K H q.2.1 (p.1.map V.int)/\∃v,Rp K U H p.2 v/\RelV v q.2.2) kvs xs
noncomputable def oD(K:PySem.W.Frag)(U:Mu)(H:Hp):Box->Obj->Prop
 |.dict kvs,o=>kvs.length<=sizeLine/\o.ExactDict/\∃es ep,∃xs:List (List Int×Addr×Value),o.data = .dict es ep/\es.toList=xs.map (fun x=>⟨hI x.1,.ref x.2.1,x.2.2⟩)/\(xs.map (·.1)).Nodup/\Fw K U H kvs xs
 |.set ks,o=>o.ExactSet/\∃(L:ST.Ln Value) (ep:Nat) (t:SetTable),o.data = .set (L.map (·.2)).toArray ep t/\ST.Tab t L/\L.length*5<t.mask*3/\L.length=ks.length /\
   (∀x∈L,∃k q,x.2.2 = .ref q/\SqT K H q (k.map V.int)/\x.2.1=hI k/\k∈ks)/\∀k∈ks,∃x∈L,∃q,x.2.2 = .ref q/\SqT K H q (k.map V.int)
structure a6(K:PySem.W.Frag)(U:Mu)(H:Hp):Prop where
 lst:∀a ds,U a=some ds->∃xs,H a=some (.lst xs)/\RpL K U H ds xs
 tab:vb K H
 box:∀a c,U.b a=some c->(a==sysModules)=false/\∃o,H a=some (.raw o)/\oD K U H c o
noncomputable instance {K:PySem.W.Frag} {U:Mu} {H:Hp}:CoeFun (a6 K U H) fun _=>∀a ds,U a=some ds->∃xs,H a=some (.lst xs)/\RpL K U H ds xs:=⟨a6.lst⟩
theorem vb.of{K:PySem.W.Frag}{H H1:Hp}(t:vb K H)(s:∀b o,H b=some o->(∀xs,o≠.lst xs)->(∀ob,o≠.raw ob)->H1 b=some o):vb K H1:=fun c o P q h1 h2=>by
 obtain⟨ps,a1,a2,a3⟩:=t c o P q h1 h2
 exact⟨ps,s _ _ a1 (fun _ z=>nomatch z) (fun _ z=>nomatch z),a2,fun pos cv e=>let ⟨c,q1,q2⟩:=a3 pos cv e;⟨c,q1,s _ _ q2 (fun _ z=>nomatch z) (fun _ z=>nomatch z)⟩⟩
noncomputable def eT(K:PySem.W.Frag)(U:Mu)(H:Hp)(ρ:Rho)(O:St):Prop:=
 ρ.length=O.length/\∀(i:Nat) (d:D),ρ[i]? = some (some d)->∃u,O[i]? = some (some u)/\RpD K U H d u
structure St0(K:PySem.W.Frag)(H:Hp)(ρ:Rho)(U:Mu)(O:St):Prop where
 mu:a6 K U H
 rho:eT K U H ρ O
section
variable {K:PySem.W.Frag}{U Y ac:Mu}{H H1 H2:Hp}
theorem Ext.refl:Ext K U H U H:=⟨fun _ _ h _ _=>h,fun _ ps h _=>⟨ps,h⟩,fun _ ds h=>⟨ds,h⟩,fun _ h _=>h,fun _ o h _=>⟨o,h⟩,fun _ c h=>⟨c,h⟩⟩
theorem Ext.trans(a:Ext K U H Y H1)(b:Ext K Y H1 ac H2):Ext K U H ac H2 where
 keep:=fun c o h n t=>b.keep c o (a.keep c o h n t) (a.fresh c n (.inl (by rw[h];exact fun z=>nomatch z))) t
 tb:=fun c ps h n=>by
  obtain⟨ps1,h1⟩:=a.tb c ps h n
  exact b.tb c ps1 h1 (a.fresh c n (.inl (by rw[h];exact fun z=>nomatch z)))
 dom:=fun c ds h=>let ⟨es,q⟩:=a.dom c ds h;b.dom c es q
 fresh:=fun c n h=>by
  refine b.fresh c (a.fresh c n h) ?_
  rcases h with h|h
  ·cases q:H c with
   |none=>exact absurd q h
   |some o=>
    obtain⟨o',h'⟩:=a.st c o q n
    exact .inl (by rw[h'];exact fun z=>nomatch z)
  ·exact .inr h
 st:=fun c o h n=>by
  obtain⟨o',h'⟩:=a.st c o h n
  exact b.st c o' h' (a.fresh c n (.inl (by rw[h];exact fun z=>nomatch z)))
 bx:=fun c x h=>let ⟨x',q⟩:=a.bx c x h;b.bx c x' q
theorem Ext.of_same(s:sv H H1):Ext K U H U H1:=⟨fun b o h _ _=>s b o h,fun b ps h _=>⟨ps,s b _ h⟩,fun _ ds h=>⟨ds,h⟩,fun _ h _=>h,fun b o h _=>⟨o,s b o h⟩,fun _ c h=>⟨c,h⟩⟩
theorem a6.not{a:Addr}{o:HO}(ok:a6 K U H)(h:H a=some o)(n:∀xs,o≠.lst xs):U a=none:=by
 cases q:U a with
 |none=>rfl
 |some ds=>
  obtain⟨ys,e,_⟩:=ok a ds q
  rw[h] at e
  exact absurd (Option.some.inj e) (n ys)
theorem a6.free{a:Addr}(ok:a6 K U H)(h:H a=none):U a=none:=by
 cases q:U a with
 |none=>rfl
 |some ds=>
  obtain⟨ys,e,_⟩:=ok a ds q
  rw[h] at e;cases e
theorem eM{a:Addr}{xs:List V}(ok:a6 K U H)(e:Ext K U H Y H1)(h:SqT K H a xs):SqT K H1 a xs:=by
 rcases h with (h|⟨o,h⟩)|h
 ·exact .inl (.inl (e.keep _ _ h (ok.not h fun _ z=>nomatch z) trivial))
 ·exact .inl (.inr ⟨o,e.keep _ _ h (ok.not h fun _ z=>nomatch z) trivial⟩)
 ·exact .inr h
theorem xh{a:Addr}{xs:List V}(e:Ext K U H Y H1)(h:SqL K H a xs)(n:U a=none):SqL K H1 a xs/\Y a=none:=by
 rcases h with (h|⟨o,h⟩)|h
 ·exact⟨.inl (.inl (e.keep _ _ h n trivial)),e.fresh _ n (.inl (by rw[h];exact fun z=>nomatch z))⟩
 ·exact⟨.inl (.inr ⟨o,e.keep _ _ h n trivial⟩),e.fresh _ n (.inl (by rw[h];exact fun z=>nomatch z))⟩
 ·obtain⟨o,its,k,hk,r⟩:=id h
  exact⟨.inr h,e.fresh _ n (.inr (by rw[hk];exact fun z=>nomatch z))⟩
mutual
theorem Rp.ext{d:PyData}{u:V}(ok:a6 K U H)(e:Ext K U H Y H1):Rp K U H d u->Rp K Y H1 d u
 |.none=>.none
 |.bool b=>.bool b
 |.int i=>.int i
 |.str x=>.str x
 |.list h n r=>.list (e.keep _ _ h n trivial) (e.fresh _ n (.inl (by rw[h];exact fun z=>nomatch z))) (RpL.ext ok e r)
 |.tuple h r=>.tuple (eM ok e h) (RpL.ext ok e r)
theorem RpL.ext{ds:List PyData}{us:List V}(ok:a6 K U H)(e:Ext K U H Y H1):RpL K U H ds us->RpL K Y H1 ds us
 |.nil=>.nil
 |.cons h r=>.cons (Rp.ext ok e h) (RpL.ext ok e r)
end
theorem RpD.ext{d:D}{u:V}(ok:a6 K U H)(e:Ext K U H Y H1)(r:RpD K U H d u):RpD K Y H1 d u:=by
 cases d with
 |v x=>exact Rp.ext ok e r
 |m a=>obtain⟨h,ds,q⟩:=r;exact⟨h,e.dom a ds q⟩
 |s ns=>obtain⟨a,h,q,n⟩:=r;exact⟨a,h,(xh e q n).1,(xh e q n).2⟩
 |o a=>exact r
 |b a=>obtain⟨h,c,q⟩:=r;exact⟨h,e.bx a c q⟩
 |q P=>exact fun Z H' e'=>r Z H' (e.trans e')
theorem oD.ext{c:Box}{o:Obj}(ok:a6 K U H)(e:Ext K U H Y H1)(r:oD K U H c o):oD K Y H1 c o:=by
 cases c with
 |dict kvs=>
  obtain⟨h1,h2,es,ep,xs,h3,h4,h5,h6⟩:=r
  exact⟨h1,h2,es,ep,xs,h3,h4,h5,Paired.B5 h6 fun p q ⟨z1,z2,v,z3,z4⟩=>⟨z1,eM ok e z2,v,Rp.ext ok e z3,z4⟩⟩
 |set ks=>
  obtain⟨h1,L,ep,t,h2,h3,h4,h5,h6,h7⟩:=r
  exact⟨h1,L,ep,t,h2,h3,h4,h5,fun x hx=>let ⟨k,q,z1,z2,z3⟩:=h6 x hx;⟨k,q,z1,eM ok e z2,z3⟩,fun k hk=>let ⟨x,hx,q,z1,z2⟩:=h7 k hk;⟨x,hx,q,z1,eM ok e z2⟩⟩
theorem a6.JK{a:Addr}(ok:a6 K U H)(h:H a=none):U.b a=none:=by
 cases q:U.b a with
 |none=>rfl
 |some c=>
  obtain⟨_,ob,e,_⟩:=ok.box a c q
  rw[h] at e;cases e
theorem eT.ext{ρ:Rho}{O:St}(ok:a6 K U H)(e:Ext K U H Y H1)(r:eT K U H ρ O):eT K Y H1 ρ O:=
 ⟨r.1,fun i d h=>let ⟨u,h1,h2⟩:=r.2 i d h;⟨u,h1,h2.ext ok e⟩⟩
theorem RpL.length{ds:List PyData}{us:List V}:RpL K U H ds us->ds.length=us.length
 |.nil=>rfl
 |.cons _ r=>congrArg (· + 1) (RpL.length r)
theorem RpL.get{ds:List PyData}{us:List V}:∀{i:Nat} {d:PyData},RpL K U H ds us->ds[i]? = some d->∃u,us[i]? = some u/\Rp K U H d u
 |_,_,.nil,h=>by simp at h
 |0,_,.cons r _,h=>by simp at h;subst h;exact⟨_,rfl,r⟩
 |i+1,d,.cons _ t,h=>by
  obtain⟨u,h1,h2⟩:=RpL.get (i:=i) (d:=d) t (by simpa using h)
  exact⟨u,by simpa using h1,h2⟩
theorem RpL.append{ds es:List PyData}{us ws:List V}:RpL K U H ds us->RpL K U H es ws->RpL K U H (ds++es) (us++ws)
 |.nil,s=>s
 |.cons r t,s=>.cons r (RpL.append t s)
theorem RpL.take{ds:List PyData}{us:List V}:∀(n:Nat),RpL K U H ds us->RpL K U H (ds.take n) (us.take n)
 |0,_=>by simp;exact .nil
 |_+1,.nil=>by simp;exact .nil
 |n+1,.cons r t=>.cons r (RpL.take n t)
theorem RpL.drop{ds:List PyData}{us:List V}:∀(n:Nat),RpL K U H ds us->RpL K U H (ds.drop n) (us.drop n)
 |0,r=>r
 |_+1,.nil=>by simp;exact .nil
 |n+1,.cons _ t=>RpL.drop n t
theorem RpL.set{ds:List PyData}{us:List V}{d:PyData}{u:V}(q:Rp K U H d u):∀(i:Nat),RpL K U H ds us->RpL K U H (ds.set i d) (us.set i u)
 |_,.nil=>.nil
 |0,.cons _ t=>.cons q t
 |i+1,.cons r t=>.cons r (RpL.set q i t)
theorem vO{ds:List PyData}{us:List V}{i:Int}{d:PyData}(r:RpL K U H ds us)(h:atI ds i=some d):∃u,atI us i=some u/\Rp K U H d u:=by
 unfold atI at h ⊢
 rw[<- r.length]
 cases q:ixN ds.length i with
 |none=>rw[q] at h;cases h
 |some j=>
  rw[q] at h
  exact r.get h
noncomputable abbrev DK:=D->Mu->Prop
noncomputable abbrev DTE:=Rho->Mu->DK->Prop
noncomputable abbrev DTT:=Rho->Mu->(Bool->Mu->Prop)->Prop
noncomputable abbrev DTA:=Rho->Mu->(List D->Mu->Prop)->Prop
structure gJ where
 nx:Rho->Mu->Prop
 rt:DK
 bk:Rho->Mu->Prop:=fun _ _=>False
 ct:Rho->Mu->Prop:=fun _ _=>False
noncomputable abbrev DTS:=gJ->Rho->Mu->Prop
inductive fb(K:PySem.W.Frag)(U:Mu)(H:Hp):List D->List V->Prop
 |nil:fb K U H [] []
 |cons {d:D} {u:V} {ds:List D} {us:List V}:RpD K U H d u->fb K U H ds us->fb K U H (d::ds) (u::us)
theorem fb.ext{ds:List D}{us:List V}(ok:a6 K U H)(e:Ext K U H Y H1):fb K U H ds us->fb K Y H1 ds us
 |.nil=>.nil
 |.cons h r=>.cons (h.ext ok e) (fb.ext ok e r)
theorem fb.length{ds:List D}{us:List V}:fb K U H ds us->ds.length=us.length
 |.nil=>rfl
 |.cons _ r=>congrArg (· + 1) (fb.length r)
end
noncomputable def kU(K:PySem.W.Frag)(t:TE)(td:DTE):Prop:=∀(O:St) (H:Hp) (ρ:Rho) (U:Mu) (Qd:DK) (Q:VK),St0 K H ρ U O->td ρ U Qd ->
 (∀d u Z H',Ext K U H Z H'->St0 K H' ρ Z O->RpD K Z H' d u->Qd d Z->Q u H')->t O H Q
noncomputable def A6(K:PySem.W.Frag)(t:TT)(td:DTT):Prop:=∀(O:St) (H:Hp) (ρ:Rho) (U:Mu) (Qd:Bool->Mu->Prop) (Q:Bool->Hp->Prop),St0 K H ρ U O->td ρ U Qd ->
 (∀b Z H',Ext K U H Z H'->St0 K H' ρ Z O->Qd b Z->Q b H')->t O H Q
noncomputable def Eb(K:PySem.W.Frag)(n:Nat)(t:TA)(td:DTA):Prop:=∀(O:St) (H:Hp) (ρ:Rho) (U:Mu) (Qd:List D->Mu->Prop) (Q:List V->Hp->Prop),St0 K H ρ U O->td ρ U Qd ->
 (∀ds us Z H',Ext K U H Z H'->St0 K H' ρ Z O->fb K Z H' ds us->ds.length=n->Qd ds Z->Q us H')->t O H Q
noncomputable def qy(K:PySem.W.Frag)(t:TS)(td:DTS):Prop:=∀(O:St) (H:Hp) (ρ:Rho) (U:Mu) (Dd:gJ) (De:Ends),St0 K H ρ U O->td Dd ρ U ->
 (∀al ap Z H',Ext K U H Z H'->St0 K H' ap Z al->Dd.nx ap Z->De.nx al H') ->
 (∀d u Z H',Ext K U H Z H'->a6 K Z H'->RpD K Z H' d u->Dd.rt d Z->De.rt u H') ->
 (∀al ap Z H',Ext K U H Z H'->St0 K H' ap Z al->Dd.bk ap Z->De.bk al H') ->
 (∀al ap Z H',Ext K U H Z H'->St0 K H' ap Z al->Dd.ct ap Z->De.ct al H')->t De O H
inductive DE(X:Cx)(e:Expr)(td:DTE):Prop|mk0 (t:TE) (p:PE X e t) (l:kU X.K t td):DE X e td
inductive DT(X:Cx)(e:Expr)(td:DTT):Prop|mk0 (t:TT) (p:PT X e t) (l:A6 X.K t td):DT X e td
inductive DA(X:Cx)(es:List Expr)(td:DTA):Prop|mk0 (t:TA) (p:PA X es t) (l:Eb X.K es.length t td):DA X es td
inductive DS(X:Cx)(st:Stmt)(td:DTS):Prop|mk0 (t:TS) (p:PS X st t) (l:qy X.K t td):DS X st td
inductive DSs(X:Cx)(st:List Stmt)(td:DTS):Prop|mk0 (t:TS) (p:PSs X st t) (l:qy X.K t td):DSs X st td
section
variable {X:Cx}{a b c:Expr}{ta tb tc:DTE}{pos:Pos}
noncomputable def ab(i:Nat):DTE:=fun ρ U Q=>match ρ[i]? with
 |some (some d)=>Q d U
 |_=>False
noncomputable def dC(x:PyData):DTE:=fun _ U Q=>Q (.v x) U
theorem Bx{K:PySem.W.Frag}(i:Nat):kU K (Jb i) (ab i):=by
 intro O H ρ U Qd Q S h k
 unfold ab at h
 split at h
 ·rename_i d e
  obtain⟨u,h1,h2⟩:=S.rho.2 i d e
  exact⟨u,h1,k d u U H .refl S h2 h⟩
 ·exact h.elim
theorem dv(i:Nat){x:Str}{pos:Pos}(hN:X.N[i]? = some x:=by rfl)(hv:Vis X.env.scope x:=by first|exact Or.inl rfl|exact Or.inr (Or.inl rfl)|exact Or.inr (Or.inr rfl))(hd:(x==("__debug__":Str))=false:=by decide)
  (hcd:(x==("__classdict__":Str))=false:=by decide):DE X (.Name x pos) (ab i):=⟨_,EM hN hv hd hcd,Bx i⟩
theorem sQ{K:PySem.W.Frag}{x:PyData}{u:V}(h:∀U H,a6 K U H->Rp K U H x u):kU K (tC u) (dC x):=fun O H ρ U Qd Q S q k=>k (.v x) u U H .refl S (h U H S.mu) q
theorem FR{i j pos}:DE X (.Constant (.int i) j pos) (dC (.int i)):=⟨_,Gr,sQ fun _ _ _=>.int i⟩
theorem Jh{i j pos}:DE X (.Constant (.bool i) j pos) (dC (.bool i)):=⟨_,JX,sQ fun _ _ _=>.bool i⟩
theorem FK{x j pos}:DE X (.Constant (.str x) j pos) (dC (.str x)):=⟨_,FD,sQ fun _ _ _=>.str x⟩
theorem xp{x:Str}{d:PyData}{u:V}{w:Value}{pos:Pos}(hg:Gl X x)(hm:X.mg x=some w)(r:RelV u w)(h:∀U H,a6 X.K U H->Rp X.K U H d u)(hd:(x==("__debug__":Str))=false:=by decide):DE X (.Name x pos) (dC d):=
 ⟨_,BL hg hm r hd,sQ h⟩
noncomputable def cV(K:PySem.W.Frag)(rr:R2)(r:D->D->Mu->DK->Prop):Prop:=∀(x y:D) (ux uy:V) (H:Hp) (U:Mu) (Qd:DK) (Q:VK),a6 K U H->RpD K U H x ux->RpD K U H y uy->r x y U Qd ->
 (∀d u Z H',Ext K U H Z H'->a6 K Z H'->RpD K Z H' d u->Qd d Z->Q u H')->rr ux uy H Q
noncomputable def dOp(r:D->D->Mu->DK->Prop)(ta tb:DTE):DTE:=fun ρ U Q=>ta ρ U fun x Y=>tb ρ Y fun y ac=>r x y ac Q
theorem mZ{K:PySem.W.Frag}{rr:R2}{r}{t1 t2:TE}(lo:cV K rr r)(la:kU K t1 ta)(lb:kU K t2 tb):kU K (tOp rr t1 t2) (dOp r ta tb):=by
 intro O H ρ U Qd Q S h k
 refine la O H ρ U _ _ S h fun x ux Y H1 e1 S1 rx h1=>?_
 refine lb O H1 ρ Y _ _ S1 h1 fun y uy ac H2 e2 S2 ry h2=>?_
 exact lo x y ux uy H2 ac _ _ S2.mu (rx.ext S1.mu e2) ry h2 fun d u Z H' e3 ok r q=>k d u Z H' (e1.trans (e2.trans e3)) ⟨ok,S2.rho.ext S2.mu e3⟩ r q
theorem l4{op:Operator}{rr:R2}{r}(ho:OpR X (binaryOp op) rr)(lo:cV X.K rr r)(ha:DE X a ta)(hb:DE X b tb):DE X (.BinOp a op b pos) (dOp r ta tb):=by
 obtain⟨t1,p1,l1⟩:=ha
 obtain⟨t2,p2,l2⟩:=hb
 exact⟨_,Jz ho p1 p2,mZ lo l1 l2⟩
theorem lE{op:CmpOp}{rr:R2}{r}(ho:OpR X (compareOp op) rr)(lo:cV X.K rr r)(ha:DE X a ta)(hb:DE X b tb)(hm:behindInMarks op b=false):DE X (.Compare a [op] [b] pos) (dOp r ta tb):=by
 obtain⟨t1,p1,l1⟩:=ha
 obtain⟨t2,p2,l2⟩:=hb
 exact⟨_,CJ ho p1 p2 hm,mZ lo l1 l2⟩
noncomputable def dB(t:DTE):DTT:=fun ρ U Q=>t ρ U fun d Y=>match d with
 |.v (.bool k)=>Q k Y
 |_=>False
theorem lH{K:PySem.W.Frag}{t:TE}{td:DTE}(l:kU K t td):A6 K (Bl t) (dB td):=by
 intro O H ρ U Qd Q S h k
 refine l O H ρ U _ _ S h fun d u Y H1 e1 S1 r q=>?_
 split at q
 ·rename_i b
  cases r
  exact⟨b,rfl,k b Y H1 e1 S1 q⟩
 ·exact q.elim
theorem iG{op:CmpOp}{rr:R2}{r}(ho:OpR X (compareOp op) rr)(lo:cV X.K rr r)(ha:DE X a ta)(hb:DE X b tb)(hm:behindInMarks op b=false):DT X (.Compare a [op] [b] pos) (dB (dOp r ta tb)):=by
 obtain⟨t1,p1,l1⟩:=ha
 obtain⟨t2,p2,l2⟩:=hb
 exact⟨_,DP ho p1 p2 hm,lH (mZ lo l1 l2)⟩
theorem HE{e:Expr}{td:DTE}(h:DE X e td)(he:∀whole,isTrue e X.env whole=(do let v <- whole;standAt e.pos;holding [v] (truthy v)):=by intro _;rfl):DT X e (dB td):=by
 obtain⟨t,p,l⟩:=h
 exact⟨_,Fv p he,lH l⟩
noncomputable def rII(C:Int->Int->Prop)(g:Int->Int->PyData):D->D->Mu->DK->Prop:=fun x y U Q=>match x,y with
 |.v (.int i),.v (.int j)=>C i j/\Q (.v (g i j)) U
 |_,_=>False
theorem BG{K:PySem.W.Frag}{C:Int->Int->Prop}{g:Int->Int->V}{gd:Int->Int->PyData}(hg:∀U H i j,Rp K U H (gd i j) (g i j)):cV K (rI C g) (rII C gd):=by
 intro x y ux uy H U Qd Q ok rx ry h k
 unfold rII at h
 split at h
 ·rename_i i j
  cases rx;cases ry
  exact⟨i,j,rfl,rfl,h.1,k (.v _) _ U H .refl ok (hg U H i j) h.2⟩
 ·exact h.elim
noncomputable def qj(g:Int->Int->PyData):D->D->Mu->DK->Prop:=fun x y U Q=>match x,y with
 |.v (.int i),.v (.int j)=>Q (.v (g i j)) U
 |_,_=>False
theorem ye{K:PySem.W.Frag}{g:Int->Int->V}{gd:Int->Int->PyData}(hg:∀U H i j,Rp K U H (gd i j) (g i j)):cV K (rI0 g) (qj gd):=by
 intro x y ux uy H U Qd Q ok rx ry h k
 unfold qj at h
 split at h
 ·rename_i i j
  cases rx;cases ry
  exact⟨i,j,rfl,rfl,k (.v _) _ U H .refl ok (hg U H i j) h⟩
 ·exact h.elim
noncomputable abbrev cz(ta tb:DTE):DTE:=dOp (qj fun i j=>.int (i+j)) ta tb
noncomputable abbrev fu(ta tb:DTE):DTE:=dOp (qj fun i j=>.int (i-j)) ta tb
noncomputable abbrev MulOk(i j:Int):Prop:=IntMulOk i j
noncomputable abbrev aU(ta tb:DTE):DTE:=dOp (rII MulOk fun i j=>.int (i*j)) ta tb
noncomputable abbrev ia(ta tb:DTE):DTE:=dOp (rII (fun _ j=>j≠0) fun i j=>.int (i.fmod j)) ta tb
noncomputable abbrev Bg(ta tb:DTE):DTE:=dOp (rII Ge fun i j=>.int (i ^ j.toNat)) ta tb
theorem CI:OpR X (binaryOp .Mult) (rI MulOk fun i j=>.int (i*j)):=opI fun _ _ _ _ _ _ _ hc q=>mul_int q hc
theorem FJ(ha:DE X a ta)(hb:DE X b tb):DE X (.BinOp a .Add b pos) (cz ta tb):=l4 AD (ye fun _ _ _ _=>.int _) ha hb
theorem Hx(ha:DE X a ta)(hb:DE X b tb):DE X (.BinOp a .Sub b pos) (fu ta tb):=l4 EK (ye fun _ _ _ _=>.int _) ha hb
theorem HG(ha:DE X a ta)(hb:DE X b tb):DE X (.BinOp a .Mult b pos) (aU ta tb):=l4 CI (BG fun _ _ _ _=>.int _) ha hb
theorem Gb(ha:DE X a ta)(hb:DE X b tb):DE X (.BinOp a .Mod b pos) (ia ta tb):=l4 BV (BG fun _ _ _ _=>.int _) ha hb
theorem HC(ha:DE X a ta)(hb:DE X b tb):DE X (.BinOp a .Pow b pos) (Bg ta tb):=l4 HV (BG fun _ _ _ _=>.int _) ha hb
noncomputable abbrev rLt:=qj fun i j=>.bool (decide (i<j))
noncomputable abbrev rLe:=qj fun i j=>.bool (decide (i<=j))
noncomputable abbrev rGt:=qj fun i j=>.bool (decide (j<i))
noncomputable abbrev rGe:=qj fun i j=>.bool (decide (j<=i))
theorem mI{K:PySem.W.Frag}{p:Int->Int->Bool}:cV K (rI0 fun i j=>.bl (p i j)) (qj fun i j=>.bool (p i j)):=ye fun _ _ _ _=>.bool _
noncomputable def sF(ta:DTE):DTE:=fun ρ U Q=>ta ρ U fun x Y=>match x with
 |.v (.int i)=>Q (.v (.int (-i))) Y
 |_=>False
theorem EZ(ha:DE X a ta):DE X (.UnaryOp .USub a pos) (sF ta):=by
 obtain⟨t1,p1,l1⟩:=ha
 refine⟨_,IB Fi p1,fun O H ρ U Qd Q S h k=>?_⟩
 refine l1 O H ρ U _ _ S h fun x ux Y H1 e1 S1 rx h1=>?_
 split at h1
 ·rename_i i
  cases rx
  exact⟨i,rfl,k (.v _) _ Y H1 e1 S1 (Rp.int _) h1⟩
 ·exact h1.elim
noncomputable def gI(t u:DTT):DTT:=fun ρ U Q=>t ρ U fun c Y=>if c=true then u ρ Y Q else Q false Y
noncomputable def du(t u:DTT):DTT:=fun ρ U Q=>t ρ U fun c Y=>if c=true then Q true Y else u ρ Y Q
noncomputable def cx(t:DTT):DTT:=fun ρ U Q=>t ρ U fun c Y=>Q (!c) Y
inductive DW(X:Cx)(e:Expr)(td:DTT):Prop|mk0 (t:TT) (p:PW X e t) (l:A6 X.K t td):DW X e td
theorem DW.dt{e:Expr}{td:DTT}(h:DW X e td):DT X e td:=let ⟨t,p,l⟩:=h;⟨t,p.pt,l⟩
variable {tA tB':DTT}{rest:List Expr}
theorem Ca(ha:DT X a tA):DW X (.BoolOp .And [a] pos) tA:=let ⟨t,p,l⟩:=ha;⟨t,pw_and1 p,l⟩
theorem HY(ha:DT X a tA):DW X (.BoolOp .Or [a] pos) tA:=let ⟨t,p,l⟩:=ha;⟨t,pw_or1 p,l⟩
theorem GC(ha:DT X a tA)(hb:DW X (.BoolOp .And (b::rest) pos) tB'):DW X (.BoolOp .And (a::b::rest) pos) (gI tA tB'):=by
 obtain⟨t1,p1,l1⟩:=ha
 obtain⟨t2,p2,l2⟩:=hb
 refine⟨_,pw_and p1 p2,fun O H ρ U Qd Q S h k=>?_⟩
 refine l1 O H ρ U _ _ S h fun c Y H1 e1 S1 h1=>?_
 cases c with
 |true=>
  refine vf (l2 O H1 ρ Y _ _ S1 (by simpa using h1) fun c ac H2 e2 S2 h2=>k c ac H2 (e1.trans e2) S2 h2)
 |false=>exact uP (k false Y H1 e1 S1 (by simpa using h1))
theorem JY(ha:DT X a tA)(hb:DW X (.BoolOp .Or (b::rest) pos) tB'):DW X (.BoolOp .Or (a::b::rest) pos) (du tA tB'):=by
 obtain⟨t1,p1,l1⟩:=ha
 obtain⟨t2,p2,l2⟩:=hb
 refine⟨_,pw_or p1 p2,fun O H ρ U Qd Q S h k=>?_⟩
 refine l1 O H ρ U _ _ S h fun c Y H1 e1 S1 h1=>?_
 cases c with
 |true=>exact vf (k true Y H1 e1 S1 (by simpa using h1))
 |false=>
  refine uP (l2 O H1 ρ Y _ _ S1 (by simpa using h1) fun c ac H2 e2 S2 h2=>k c ac H2 (e1.trans e2) S2 h2)
theorem GZ(ha:DT X a tA):DT X (.UnaryOp .Not a pos) (cx tA):=by
 obtain⟨t1,p1,l1⟩:=ha
 refine⟨_,E5 p1,fun O H ρ U Qd Q S h k=>?_⟩
 exact l1 O H ρ U _ _ S h fun c Y H1 e1 S1 h1=>k _ Y H1 e1 S1 h1
noncomputable def cL(ta tb:DTE):DTE:=fun ρ U Q=>ta ρ U fun x Y=>match x with
 |.v (.bool c)=>if c=true then tb ρ Y Q else Q (.v (.bool false)) Y
 |_=>False
noncomputable def x6(ta:DTE):DTE:=fun ρ U Q=>ta ρ U fun x Y=>match x with
 |.v (.bool c)=>Q (.v (.bool (!c))) Y
 |_=>False
theorem HF{op}(h:DE X a ta):DE X (.BoolOp op [a] pos) ta:=let ⟨t,p,l⟩:=h;⟨t,Hu p,l⟩
theorem FN(ha:DE X a ta)(hb:DE X (.BoolOp .And (b::rest) pos) tb):DE X (.BoolOp .And (a::b::rest) pos) (cL ta tb):=by
 obtain⟨t1,p1,l1⟩:=ha
 obtain⟨t2,p2,l2⟩:=hb
 refine⟨_,HA p1 p2,fun O H ρ U Qd Q S h k=>?_⟩
 refine l1 O H ρ U _ _ S h fun x ux Y H1 e1 S1 rx h1=>?_
 split at h1
 ·rename_i c
  cases rx
  refine⟨c,rfl,?_⟩
  cases c with
  |true=>exact vf (l2 O H1 ρ Y _ _ S1 (by simpa using h1) fun d u ac H2 e2 S2 r2 h2=>k d u ac H2 (e1.trans e2) S2 r2 h2)
  |false=>exact uP (k (.v _) _ Y H1 e1 S1 (Rp.bool false) (by simpa using h1))
 ·exact h1.elim
theorem Fc(ha:DE X a ta):DE X (.UnaryOp .Not a pos) (x6 ta):=by
 obtain⟨t1,p1,l1⟩:=ha
 refine⟨_,E7 p1,fun O H ρ U Qd Q S h k=>?_⟩
 refine l1 O H ρ U _ _ S h fun x ux Y H1 e1 S1 rx h1=>?_
 split at h1
 ·rename_i c
  cases rx
  exact⟨c,rfl,k (.v _) _ Y H1 e1 S1 (Rp.bool _) h1⟩
 ·exact h1.elim
noncomputable def dIf(t:DTT)(ta tb:DTE):DTE:=fun ρ U Q=>t ρ U fun c Y=>if c=true then ta ρ Y Q else tb ρ Y Q
theorem JS{c:Expr}(hc:DT X c tA)(ha:DE X a ta)(hb:DE X b tb):DE X (.IfExp c a b pos) (dIf tA ta tb):=by
 obtain⟨t0,p0,l0⟩:=hc
 obtain⟨t1,p1,l1⟩:=ha
 obtain⟨t2,p2,l2⟩:=hb
 refine⟨_,BB p0 p1 p2,fun O H ρ U Qd Q S h k=>?_⟩
 refine l0 O H ρ U _ _ S h fun c Y H1 e1 S1 h1=>?_
 cases c with
 |true=>exact vf (l1 O H1 ρ Y _ _ S1 (by simpa using h1) fun d u ac H2 e2 S2 r2 h2=>k d u ac H2 (e1.trans e2) S2 r2 h2)
 |false=>exact uP (l2 O H1 ρ Y _ _ S1 (by simpa using h1) fun d u ac H2 e2 S2 r2 h2=>k d u ac H2 (e1.trans e2) S2 r2 h2)
end
section
variable {K:PySem.W.Frag}{U Y:Mu}{H H1:Hp}{p:Addr}
theorem bK{o:HO}(h:H p=none):Ext K U H U (upd H p o):=
 ⟨fun b u e _ _=>by rw[aH (aI e h)];exact e,fun b ps e _=>⟨ps,by rw[aH (aI e h)];exact e⟩,fun _ ds q=>⟨ds,q⟩,fun _ q _=>q,fun b o e _=>⟨o,by rw[aH (aI e h)];exact e⟩,fun _ c q=>⟨c,q⟩⟩
theorem a6.Fn(ok:a6 K U H)(e:Ext K U H U H1)(s:sv H H1):a6 K U H1:=⟨fun a ds q=>by
 obtain⟨xs,h1,h2⟩:=ok a ds q
 exact⟨xs,s _ _ h1,h2.ext ok e⟩,ok.tab.of fun b o h _ _=>s b o h,fun a c q=>by
 obtain⟨z,o,h1,h2⟩:=ok.box a c q
 exact⟨z,o,s _ _ h1,h2.ext ok e⟩⟩
theorem tM{o:HO}(h:H p=none):sv H (upd H p o):=fun b u q=>by rw[aH (aI q h)];exact q
theorem a6.new{o:HO}(ok:a6 K U H)(h:H p=none):a6 K U (upd H p o):=ok.Fn (bK h) (tM h)
theorem St0.new{o:HO}{ρ:Rho}{O:St}(S:St0 K H ρ U O)(h:H p=none):St0 K (upd H p o) ρ U O:=⟨S.mu.new h,S.rho.ext S.mu (bK h)⟩
theorem c6{us:List V}{ds:List PyData}(ok:a6 K U H)(r:RpL K U H ds us)(h:H p=none):Rp K U (upd H p (.tup us)) (.tuple ds) (.ref p):=
 .tuple (SqT.of dO) (r.ext ok (bK h))
theorem cW{us:List V}{ds:List PyData}(ok:a6 K U H)(r:RpL K U H ds us)(h:H p=none):Rp K U (upd H p (.lst us)) (.list ds) (.ref p):=
 .list dO (ok.free h) (r.ext ok (bK h))
theorem mN{o:HO}{ds:List PyData}(ok:a6 K U H)(h:H p=none)(hk:K.lookup p=none):Ext K U H (aD U p ds) (upd H p o) where
 keep:=fun b u e _ _=>by rw[aH (aI e h)];exact e
 tb:=fun b ps e _=>⟨ps,by rw[aH (aI e h)];exact e⟩
 dom:=fun b es q=>by
  have:b≠p:=fun z=>by rw[z,ok.free h] at q;cases q
  exact⟨es,by rw[ao this];exact q⟩
 fresh:=fun b n q=>by
  have:b≠p:=fun z=>by
   rcases q with q|q
   ·exact q (by rw[z];exact h)
   ·exact q (by rw[z];exact hk)
  rw[ao this];exact n
 st:=fun b o e _=>⟨o,by rw[aH (aI e h)];exact e⟩
 bx:=fun b c q=>⟨c,q⟩
theorem a6.mut{us:List V}{ds:List PyData}(ok:a6 K U H)(r:RpL K U H ds us)(h:H p=none)(hk:K.lookup p=none):a6 K (aD U p ds) (upd H p (.lst us)):=⟨fun a es q=>by
 have e:=mN (o:=.lst us) (ds:=ds) ok h hk
 by_cases ha:a=p
 ·subst ha
  rw[av] at q
  cases q
  exact⟨us,dO,r.ext ok e⟩
 ·rw[ao ha] at q
  obtain⟨xs,h1,h2⟩:=ok a es q
  exact⟨xs,by rw[aH ha];exact h1,h2.ext ok e⟩,ok.tab.of fun b o e _ _=>by rw[aH (aI e h)];exact e,fun a c q=>by
 obtain⟨z,o,h1,h2⟩:=ok.box a c q
 exact⟨z,o,by rw[aH (aI h1 h)];exact h1,h2.ext ok (mN ok h hk)⟩⟩
theorem eU{o:HO}{ds es:List PyData}(h:U p=some ds):Ext K U H (aD U p es) (upd H p o) where
 keep:=fun b u e n _=>by
  have:b≠p:=fun z=>by rw[z,h] at n;cases n
  rw[aH this];exact e
 tb:=fun b ps e n=>by
  have:b≠p:=fun z=>by rw[z,h] at n;cases n
  exact⟨ps,by rw[aH this];exact e⟩
 dom:=fun b fs q=>by
  by_cases hb:b=p
  ·subst hb;exact⟨es,av⟩
  ·exact⟨fs,by rw[ao hb];exact q⟩
 fresh:=fun b n q=>by
  have:b≠p:=fun z=>by rw[z,h] at n;cases n
  rw[ao this];exact n
 st:=fun b o e n=>by
  have:b≠p:=fun z=>by rw[z,h] at n;cases n
  exact⟨o,by rw[aH this];exact e⟩
 bx:=fun b c q=>⟨c,q⟩
theorem a6.set{us:List V}{ds es:List PyData}(ok:a6 K U H)(h:U p=some ds)(r:RpL K U H es us):a6 K (aD U p es) (upd H p (.lst us)):=⟨fun a fs q=>by
 have e:Ext K U H (aD U p es) (upd H p (.lst us)):=eU h
 by_cases ha:a=p
 ·subst ha
  rw[av] at q
  cases q
  exact⟨us,dO,r.ext ok e⟩
 ·rw[ao ha] at q
  obtain⟨xs,h1,h2⟩:=ok a fs q
  exact⟨xs,by rw[aH ha];exact h1,h2.ext ok e⟩,by
 obtain⟨ys,hy,_⟩:=ok p ds h
 exact ok.tab.of fun b o e n _=>by
  have:b≠p:=fun z=>by rw[z,hy] at e;exact n ys (Option.some.inj e).symm
  rw[aH this];exact e,fun a c q=>by
 obtain⟨ys,hy,_⟩:=ok p ds h
 obtain⟨z,o,h1,h2⟩:=ok.box a c q
 have:a≠p:=fun w=>by rw[w,hy] at h1;cases h1
 exact⟨z,o,by rw[aH this];exact h1,h2.ext ok (eU h)⟩⟩
end
noncomputable def bj:List D->Option (List PyData)
 |[]=>some []
 |.v x::r=>(bj r).map (x::·)
 |_::_=>none
theorem fb.data{K:PySem.W.Frag}{U:Mu}{H:Hp}:∀{ds:List D} {us:List V} {xs:List PyData},fb K U H ds us->bj ds=some xs->RpL K U H xs us
 |_,_,_,.nil,e=>by cases e;exact .nil
 |.v x::r,_,xs,.cons h t,e=>by
  simp only[bj] at e
  cases q:bj r with
  |none=>rw[q] at e;cases e
  |some ys=>rw[q] at e;cases e;exact .cons h (fb.data t q)
 |.m _::_,_,_,.cons _ _,e=>by simp[bj] at e
 |.s _::_,_,_,.cons _ _,e=>by simp[bj] at e
 |.o _::_,_,_,.cons _ _,e=>by simp[bj] at e
section
variable {X:Cx}{e:Expr}{es:List Expr}{te:DTE}{t:DTA}{pos:Pos}
noncomputable def af:DTA:=fun _ U Q=>Q [] U
noncomputable def aa(ta:DTE)(tr:DTA):DTA:=fun ρ U Q=>ta ρ U fun x Y=>tr ρ Y fun xs ac=>Q (x::xs) ac
theorem Hg:DA X [] af:=⟨_,nX,fun O H ρ U Qd Q S h k=>k [] [] U H .refl S .nil rfl h⟩
theorem CO(ha:DE X e te)(hr:DA X es t)(hs:starEach (e::es) X.env=(false,eval e X.env)::starEach es X.env:=by rfl):DA X (e::es) (aa te t):=by
 obtain⟨t1,p1,l1⟩:=ha
 obtain⟨t2,p2,l2⟩:=hr
 refine⟨_,iK p1 p2 hs,fun O H ρ U Qd Q S h k=>?_⟩
 refine l1 O H ρ U _ _ S h fun x ux Y H1 e1 S1 rx h1=>?_
 refine l2 O H1 ρ Y _ _ S1 h1 fun xs us ac H2 e2 S2 rs len h2=>?_
 exact k (x::xs) (ux::us) ac H2 (e1.trans e2) S2 (.cons (rx.ext S1.mu e2) rs) (by rw[length_cons,length_cons,len]) h2
noncomputable def aT(t:DTA):DTE:=fun ρ U Q=>t ρ U fun ds Y=>match bj ds with
 |some xs=>Q (.v (.tuple xs)) Y
 |none=>False
noncomputable def cU(t:DTA):DTE:=fun ρ U Q=>t ρ U fun ds Y=>match bj ds with
 |some xs=>Q (.v (.list xs)) Y
 |none=>False
noncomputable def i4(t:DTA):DTE:=fun ρ U Q=>t ρ U fun ds Y=>match bj ds with
 |some xs=>∀p,Y p=none->Q (.m p) (aD Y p xs)
 |none=>False
theorem FY{x1}(h:DA X es t)(hl:es.length<=1000:=by decide):DE X (.Tuple es x1 pos) (aT t):=by
 obtain⟨t1,p1,l1⟩:=h
 refine⟨_,ET p1,fun O H ρ U Qd Q S h k=>?_⟩
 refine l1 O H ρ U _ _ S h fun ds us Y H1 e1 S1 rs len h1=>?_
 cases q:bj ds with
 |none=>rw[q] at h1;exact h1.elim
 |some xs=>
  rw[q] at h1
  refine⟨Nat.le_of_lt (dI (by rw[<- rs.length,len];exact hl)),fun p hp=>?_⟩
  exact k (.v (.tuple xs)) _ Y _ (e1.trans (bK hp)) (S1.new hp) (c6 S1.mu (rs.data q) hp) h1
theorem GA(h:DA X es t)(hl:es.length<=1000:=by decide):DE X (.List es pos) (cU t):=by
 obtain⟨t1,p1,l1⟩:=h
 refine⟨_,Ie p1,fun O H ρ U Qd Q S h k=>?_⟩
 refine l1 O H ρ U _ _ S h fun ds us Y H1 e1 S1 rs len h1=>?_
 cases q:bj ds with
 |none=>rw[q] at h1;exact h1.elim
 |some xs=>
  rw[q] at h1
  refine⟨Nat.le_of_lt (dI (by rw[<- rs.length,len];exact hl)),fun p hp=>?_⟩
  exact k (.v (.list xs)) _ Y _ (e1.trans (bK hp)) (S1.new hp) (cW S1.mu (rs.data q) hp) h1
noncomputable def J7(K:PySem.W.Frag)(t:TA):TE:=fun O H Q=>t O H fun xs H1=>xs.length<=sizeLine/\∀p,H1 p=none->K.lookup p=none->Q (.ref p) (upd H1 p (.lst xs))
theorem BS{t:TA}(h:PA X es t):PE X (.List es pos) (J7 X.K t):=by
 intro pins s O H Q I hq
 refine wpAny_List_spliced (thn (h pos pins s O H _ I hq) fun us s1 ⟨xs,H1,I1,r,z,q⟩=>⟨by rw[<- r.length];exact z,?_⟩)
 have hf:H1 s1.heap.objs.size=none:=I1.hok.fresh (le_refl _)
 have hk:X.K.lookup s1.heap.objs.size=none:=by
  cases c:X.K.lookup s1.heap.objs.size with
  |none=>rfl
  |some o=>exact absurd (Heap.lt_size (I1.kIn _ _ c)) (lt_irrefl _)
 refine⟨.ref s1.heap.objs.size,upd H1 s1.heap.objs.size (.lst xs),I1.laid (t':=s1.toks) (fun b u e=>Heap.get?_push_of_some _ e) (le_refl _) ?_,rfl,q _ hf hk⟩
 exact⟨z,us,0,r,Heap.get?_push_size _ rfl⟩
theorem B4(h:DA X es t)(hl:es.length<=1000:=by decide):DE X (.List es pos) (i4 t):=by
 obtain⟨t1,p1,l1⟩:=h
 refine⟨_,BS p1,fun O H ρ U Qd Q S h k=>?_⟩
 refine l1 O H ρ U _ _ S h fun ds us Y H1 e1 S1 rs len h1=>?_
 cases q:bj ds with
 |none=>rw[q] at h1;exact h1.elim
 |some xs=>
  rw[q] at h1
  refine⟨Nat.le_of_lt (dI (by rw[<- rs.length,len];exact hl)),fun p hp hk=>?_⟩
  have ex:=mN (o:=.lst us) (ds:=xs) S1.mu hp hk
  exact k (.m p) _ (aD Y p xs) _ (e1.trans ex) ⟨S1.mu.mut (rs.data q) hp hk,S1.rho.ext S1.mu ex⟩ ⟨rfl,xs,av⟩ (h1 p (S1.mu.free hp))
end
section
variable {X:Cx}{pins:List (Addr×Obj)}{O:St}{H:Hp}{s:Shared}{U:Mu}
mutual
theorem ck(I:Inv X pins O H s):∀{d:PyData} {x:V} {u:Value},Rp X.K U H d x->RelV x u->∃as,Reads s.heap u d as
 |_,_,_,.none,r=>by cases r;exact⟨_,.none⟩
 |_,_,_,.bool b,r=>by cases r;exact⟨_,.bool b⟩
 |_,_,_,.int i,r=>by obtain⟨t,rfl⟩:=r;exact⟨_,.int i t⟩
 |_,_,_,.str y,r=>by obtain⟨t,rfl⟩:=r;exact⟨_,.str y t⟩
 |_,_,_,.list h _ q,r=>by
  cases r
  obtain⟨its,rv,⟨o,n,ho,hc,_,hd⟩,_⟩:=I.list (SqL.of h)
  obtain⟨as,ra⟩:=iJ I q rv
  exact⟨_,.list ho hc hd (by simpa using ra)⟩
 |_,_,_,.tuple h q,r=>by
  cases r
  obtain⟨its,rv,⟨o,ho,hc,n,hd⟩,_⟩:=I.tuple h
  obtain⟨as,ra⟩:=iJ I q rv
  exact⟨_,.tuple ho hc hd (by simpa using ra)⟩
theorem iJ(I:Inv X pins O H s):∀{ds:List PyData} {xs:List V} {us:List Value},RpL X.K U H ds xs->Vals xs us->∃as,ReadsAll s.heap us ds as
 |_,_,_,.nil,.nil=>⟨_,.nil⟩
 |_,_,_,.cons h t,.cons r q=>by
  obtain⟨as,ra⟩:=ck I h r
  obtain⟨bs,rb⟩:=iJ I t q
  exact⟨_,.cons ra rb⟩
end
end
section
variable {X:Cx}
noncomputable def E8(K:PySem.W.Frag)(neg:Bool):R2:=fun x y H Q=>∃U a b,Rp K U H a x/\Rp K U H b y/\SeqAt.shaped a=true/\SeqAt.shaped b=true/\Q (.bl (neg ^^ PyData.eqv a b)) H
theorem AV(hu:X.A.units+64<cLine):OpR X (compareOp .Eq) (E8 X.K false):=by
 intro pins s O H x y v u Q I rx ry h
 obtain⟨U,a,b,ha,hb,sa,sb,q⟩:=h
 obtain⟨as,ra⟩:=ck I ha rx
 obtain⟨bs,rb⟩:=ck I hb ry
 exact eq_dataH ra rb sa sb hu ⟨.bl (PyData.eqv a b),H,I,rfl,by simpa using q⟩
theorem Gu(hu:X.A.units+64<cLine):OpR X (compareOp .NotEq) (E8 X.K true):=by
 intro pins s O H x y v u Q I rx ry h
 obtain⟨U,a,b,ha,hb,sa,sb,q⟩:=h
 obtain⟨as,ra⟩:=ck I ha rx
 obtain⟨bs,rb⟩:=ck I hb ry
 exact ne_dataH ra rb sa sb hu ⟨.bl (!PyData.eqv a b),H,I,rfl,by simpa using q⟩
noncomputable def aJ(neg:Bool):D->D->Mu->DK->Prop:=fun x y U Q=>match x,y with
 |.v a,.v b=>SeqAt.shaped a=true/\SeqAt.shaped b=true/\Q (.v (.bool (neg ^^ PyData.eqv a b))) U
 |_,_=>False
theorem vT{K:PySem.W.Frag}{neg:Bool}:cV K (E8 K neg) (aJ neg):=by
 intro x y ux uy H U Qd Q ok rx ry h k
 unfold aJ at h
 split at h
 ·rename_i a b
  exact⟨U,a,b,rx,ry,h.1,h.2.1,k (.v _) _ U H .refl ok (Rp.bool _) h.2.2⟩
 ·exact h.elim
noncomputable def Fe(K:PySem.W.Frag)(neg:Bool):R2:=fun x y H Q=>∃U a bs,Rp K U H a x/\Rp K U H (.list bs) y/\PyData.canLayAll0 bs=true/\a.canLay0=true/\PyData.depth a<=60/\Q (.bl (neg ^^ bs.any fun b=>PyData.eqv b a)) H
theorem GB(hu:X.A.units+64<cLine):OpR X (compareOp .In) (Fe X.K false):=by
 intro pins s O H x y v u Q I rx ry h
 obtain⟨U,a,b,ha,hb,sb,sa,dp,q⟩:=h
 obtain⟨as,ra⟩:=ck I ha rx
 obtain⟨bs,rb⟩:=ck I hb ry
 refine SeqAt.in_list_reads rb ra sb sa ∅ ⟨.bl (b.any fun z=>PyData.eqv z a),H,I,rfl,by simpa using q⟩
theorem yg(hu:X.A.units+64<cLine):OpR X (compareOp .NotIn) (Fe X.K true):=by
 intro pins s O H x y v u Q I rx ry h
 obtain⟨U,a,b,ha,hb,sb,sa,dp,q⟩:=h
 obtain⟨as,ra⟩:=ck I ha rx
 obtain⟨bs,rb⟩:=ck I hb ry
 refine SeqAt.notIn_list_reads rb ra sb sa ∅ ⟨.bl (!b.any fun z=>PyData.eqv z a),H,I,rfl,by simpa using q⟩
noncomputable def vS(neg:Bool):D->D->Mu->DK->Prop:=fun x y U Q=>match x,y with
 |.v a,.v (.list bs)=>PyData.canLayAll0 bs=true/\a.canLay0=true/\PyData.depth a<=60/\Q (.v (.bool (neg ^^ bs.any fun b=>PyData.eqv b a))) U
 |_,_=>False
theorem An{K:PySem.W.Frag}{neg:Bool}:cV K (Fe K neg) (vS neg):=by
 intro x y ux uy H U Qd Q ok rx ry h k
 unfold vS at h
 split at h
 ·rename_i a b
  exact⟨U,a,b,rx,ry,h.1,h.2.1,h.2.2.1,k (.v _) _ U H .refl ok (Rp.bool _) h.2.2.2⟩
 ·exact h.elim
end
section
variable {X:Cx}{a b e:Expr}{es:List Expr}{ta tb te:DTE}{t:DTA}{p pos:Pos}
noncomputable def ai:D->D->Mu->DK->Prop:=fun x y U Q=>match x,y with
 |.v (.list xs),.v (.int i)=>(match atI xs i with|some d=>Q (.v d) U|none=>False)
 |.v (.tuple xs),.v (.int i)=>(match atI xs i with|some d=>Q (.v d) U|none=>False)
 |.m l,.v (.int i)=>(match U l with
  |some xs=>(match atI xs i with|some d=>Q (.v d) U|none=>False)
  |none=>False)
 |.s ns,.v (.int i)=>(match atI ns i with|some d=>Q (.v (.int d)) U|none=>False)
 |_,_=>False
theorem IV{K:PySem.W.Frag}:cV K (rIx K) ai:=by
 intro x y ux uy H U Qd Q ok rx ry h k
 unfold ai at h
 split at h
 ·rename_i xs i
  cases ry
  cases q:atI xs i with
  |none=>rw[q] at h;exact h.elim
  |some d=>
   rw[q] at h
   cases rx with
   |list hs hn r=>
    obtain⟨u,e1,e2⟩:=vO r q
    exact .inl ⟨_,_,i,u,rfl,rfl,SqL.of hs,e1,k (.v d) u U H .refl ok e2 h⟩
 ·rename_i xs i
  cases ry
  cases q:atI xs i with
  |none=>rw[q] at h;exact h.elim
  |some d=>
   rw[q] at h
   cases rx with
   |tuple hs r=>
    obtain⟨u,e1,e2⟩:=vO r q
    exact .inr (.inl ⟨_,_,i,u,rfl,rfl,hs,e1,k (.v d) u U H .refl ok e2 h⟩)
 ·rename_i l i
  cases ry
  obtain⟨rfl,ds,hm⟩:=rx
  rw[hm] at h
  simp only at h
  cases q:atI ds i with
  |none=>rw[q] at h;exact h.elim
  |some d=>
   rw[q] at h
   obtain⟨us,hl,r⟩:=ok l ds hm
   obtain⟨u,e1,e2⟩:=vO r q
   exact .inl ⟨_,_,i,u,rfl,rfl,SqL.of hl,e1,k (.v d) u U H .refl ok e2 h⟩
 ·rename_i ns i
  cases ry
  obtain⟨a,rfl,hs,hn⟩:=rx
  cases q:atI ns i with
  |none=>rw[q] at h;exact h.elim
  |some d=>
   rw[q] at h
   have e1:atI (ns.map V.int) i=some (.int d):=by
    unfold atI at q ⊢
    rw[length_map]
    cases z:ixN ns.length i with
    |none=>rw[z] at q;cases q
    |some j=>
     rw[z] at q
     simp only[bind_some,getElem?_map] at q ⊢
     rw[q]<;>rfl
   exact .inl ⟨_,_,i,_,rfl,rfl,hs,e1,k (.v (.int d)) _ U H .refl ok (Rp.int d) h⟩
 ·exact h.elim
theorem Jp(ha:DE X a ta)(hb:DE X b tb)(hs:xr b:=by exact fun _ _=>rfl):DE X (.Subscript a b pos) (dOp ai ta tb):=by
 obtain⟨t1,p1,l1⟩:=ha
 obtain⟨t2,p2,l2⟩:=hb
 exact⟨_,Il sW p1 p2 hs,mZ IV l1 l2⟩
theorem Bs{prog:Program}{w:World}{A:Around}{E:Value->Shared->Prop}{s:Shared}{t b:Addr}{ws:List Value}{Q:Value->Shared->Prop}(ht:IsTup s.heap t #[])(hb:IsTup s.heap b ws.toArray)
  (h1:Q (.ref b) s):wpAny (model prog w) A (binaryOp .Add (.ref t) (.ref b)) Q E s:=by
 obtain⟨⟨cls,dd,data,sl⟩,ho,hc,n,hd⟩:=id ht
 obtain⟨⟨cls2,dd2,data2,sl2⟩,ho2,hc2,n2,hd2⟩:=id hb
 simp only at hc hd hc2 hd2
 subst hc hd hc2 hd2
 exact concat_meets ⟨_,ho,rfl⟩ ⟨_,ho2,rfl⟩ noFill_tuple_add seq_tuple_add PySem.F.slot_tuple_add PySem.F.entry_tuple_add (PySem.F.args_tuple_add_2 _ _)
  (tuple_addW0 t b #[] ws.toArray n n2 dd dd2 sl sl2 rfl) ⟨ho,ho2,h1⟩
noncomputable def fH(U:Mu):D->Option (List PyData)
 |.v (.list xs)=>some xs
 |.m l=>U l
 |_=>none
theorem uE{K:PySem.W.Frag}{U:Mu}{H:Hp}{x:D}{u:V}{xs:List PyData}(ok:a6 K U H)(r:RpD K U H x u)(h:fH U x=some xs):∃a us,u = .ref a/\H a=some (.lst us)/\RpL K U H xs us:=by
 cases x with
 |v d=>
  cases d<;>simp only[fH] at h<;>try cases h
  cases r with
  |list hs _ q=>exact⟨_,_,rfl,hs,q⟩
 |m l=>
  obtain⟨rfl,ds,hm⟩:=r
  obtain⟨us,hl,q⟩:=ok l xs h
  exact⟨l,us,rfl,hl,q⟩
 |s ns=>cases h
 |o a=>cases h
 |b a=>cases h
 |q P=>cases h
noncomputable def xN:D->D->Mu->DK->Prop:=fun x y U Q=>match fH U x,fH U y with
 |some xs,some ys=>xs.length+ys.length<=1000/\Q (.v (.list (xs++ys))) U
 |_,_=>False
theorem tJ{n:Nat}(h:n<=1000):n<=sizeLine:=Nat.le_of_lt (dI h)
theorem GU{K:PySem.W.Frag}:cV K GV xN:=by
 intro x y ux uy H U Qd Q ok rx ry h k
 unfold xN at h
 split at h
 ·rename_i xs ys hx hy
  obtain⟨a,us,rfl,ha,ra⟩:=uE ok rx hx
  obtain⟨b,ws,rfl,hb,rb⟩:=uE ok ry hy
  refine⟨a,b,us,ws,rfl,rfl,ha,hb,tJ (by rw[<- ra.length,<- rb.length];exact h.1),fun p hp=>?_⟩
  exact k (.v _) _ U _ (bK hp) (ok.new hp) (cW ok (ra.append rb) hp) h.2
 ·exact h.elim
noncomputable def vE(K:PySem.W.Frag):R2:=fun x y H Q=>∃a b xs ys,x = .ref a/\y = .ref b/\SqT K H a xs/\SqT K H b ys/\xs.length+ys.length<=sizeLine /\
 (xs=[]->Q (.ref b) H)/\(ys=[]->Q (.ref a) H)/\(∀p,H p=none->Q (.ref p) (upd H p (.tup (xs++ys))))
theorem A4:OpR X (binaryOp .Add) (vE X.K):=by
 intro pins s O H x y v u Q I rx ry h
 obtain⟨a,b,xs,ys,rfl,rfl,ha,hb,hz,q0,q1,q2⟩:=h
 by_cases hx:xs=[]
 ·subst hx
  cases rx
  cases ry
  obtain⟨its,r1,p1,_⟩:=I.tuple ha
  obtain⟨its2,r2,p2,_⟩:=I.tuple hb
  cases r1
  exact Bs p1 p2 ⟨.ref b,H,I,rfl,q0 rfl⟩
 ·exact BK pins s O H _ _ v u Q I rx ry ⟨a,b,xs,ys,rfl,rfl,ha,hb,hx,hz,q1,fun _=>q2⟩
noncomputable def BE:D->D->Mu->DK->Prop:=fun x y U Q=>match x,y with
 |.v (.tuple xs),.v (.tuple ys)=>xs.length+ys.length<=1000/\Q (.v (.tuple (xs++ys))) U
 |_,_=>False
theorem BJ{K:PySem.W.Frag}:cV K (vE K) BE:=by
 intro x y ux uy H U Qd Q ok rx ry h k
 unfold BE at h
 split at h
 ·rename_i xs ys
  cases id rx with
  |@tuple a us _ ha ra=>
   cases id ry with
   |@tuple b ws _ hb rb=>
    refine⟨a,b,us,ws,rfl,rfl,ha,hb,tJ (by rw[<- ra.length,<- rb.length];exact h.1),fun z=>?_,fun z=>?_,fun p hp=>?_⟩
    ·subst z
     cases ra
     exact k (.v _) _ U H .refl ok ry (by simpa using h.2)
    ·subst z
     cases rb
     exact k (.v _) _ U H .refl ok rx (by simpa using h.2)
    ·exact k (.v _) _ U _ (bK hp) (ok.new hp) (c6 ok (ra.append rb) hp) h.2
 ·exact h.elim
end
end L2.DL
namespace HT
open PySem PyProof.Rows
section
variable {prog:Program}{w:World}{A:Around}{E:Value->Shared->Prop}{s:Shared}
theorem kj{t sl:Addr}{items:Array Value}{vl vu:Value}{lo hi:Option Int}{Q:Value->Shared->Prop}(ht:IsTup s.heap t items)(hs:s.heap.IsSliceOf sl vl vu .none)(pl:IsPart vl lo)(pu:IsPart vu hi)
  (hw:sIx items.size 0 lo=0/\sIx items.size items.size hi=items.size) (h:Q (.ref t) s):wpAny (model prog w) A (getItem (.ref t) (.ref sl)) Q E s:=by
 obtain⟨os,hos,hcs,hds⟩:=id hs
 have hTs:s.TypeIs (.ref sl) "slice":=⟨os,hos,hcs⟩
 unfold getItem
 try with_reducible refine wpAny_holding ?_
 first|refine wpAny_bind (wpAny_pure ?_)|skip
 refine wpAny_bind (wpAny_sequenceKey ht.typeIs ⋯ ?_)
 refine wpAny_bind (wpAny_callSpecial?_slot (name:=Str.ofString "__getitem__") ht.typeIs PyProof.Rows.slot_tuple_getitem
  (wpAny_call_entry PyProof.Rows.slot_tuple_getitem ht.typeIs entry_tuple_getitem ?_ (args_tuple_getitem _ _)))
 show wpAny _ _ (Builtin.Tuple.tupleItemsOf (.ref t)>>=_) _ _ s
 refine wpAny_bind (tupleItemsOf_ ht ?_)
 refine wpAny_bind (wpAny_typeOf hTs ?_)
 rw[if_pos ⋯]
 refine wpAny_bind (fI hs pl pu ?_)
 have hno:((((sIx items.size 0 lo:Nat):Int)==0&&(1:Int)==1&&(sIx items.size items.size hi-sIx items.size 0 lo)==items.size)=true):=by
  rw[hw.1,hw.2]
  simp
 show wpAny _ _ (if (((sIx items.size 0 lo:Nat):Int)==0&&(1:Int)==1&&(sIx items.size items.size hi-sIx items.size 0 lo)==items.size)=true then _ else _) _ _ s
 rw[if_pos hno]
 refine wpAny_bind ?_
 unfold Builtin.Tuple.tupleIsExact
 refine wpAny_bind (wpAny_typeOf ht.typeIs (wpAny_pure ?_))
 rw[if_pos ⋯]
 refine wpAny_bind (wpAny_rule ?_)
 exact wpAny_pure ⟨_,rfl,wpAny_pure h⟩
end
end HT
namespace L2.DL
open PySem PySem.Spec PyProof.Rows
section
variable {X:Cx}{a b e:Expr}{lo hi:Option Expr}{ta tb te:DTE}{pos p2:Pos}
noncomputable def jn{α:Type}(xs:List α)(lo hi:Option Int):List α:=(xs.drop (HT.sIx xs.length 0 lo)).take (HT.sIx xs.length xs.length hi-HT.sIx xs.length 0 lo)
theorem RpL.cut{K:PySem.W.Frag}{U:Mu}{H:Hp}{ds:List PyData}{us:List V}{lo hi:Option Int}(r:RpL K U H ds us):RpL K U H (jn ds lo hi) (tq us lo hi):=by
 unfold jn tq
 rw[r.length]
 exact (r.drop _).take _
theorem Dt{α:Type}{xs:List α}{lo hi:Option Int}(h:HT.sIx xs.length 0 lo=0/\HT.sIx xs.length xs.length hi=xs.length):jn xs lo hi=xs:=by
 unfold jn
 rw[h.1,h.2]
 simp
noncomputable def Jm(K:PySem.W.Frag):V->Option Int->Option Int->Hp->VK->Prop:=fun x lo hi H Q=>∃a xs,x = .ref a/\SqT K H a xs /\
 (HT.sIx xs.length 0 lo=0/\HT.sIx xs.length xs.length hi=xs.length->Q (.ref a) H)/\∀p,H p=none->Q (.ref p) (upd H p (.tup (tq xs lo hi)))
theorem CS:SlR X (Jm X.K):=by
 intro pins s O H x v vl vu lo hi sl Q I rx hs pl pu h
 obtain⟨a,xs,rfl,hx,q1,q⟩:=h
 by_cases hw:HT.sIx xs.length 0 lo=0/\HT.sIx xs.length xs.length hi=xs.length
 ·cases rx
  obtain⟨its,r,ht,hz⟩:=I.tuple hx
  have hlen:its.toArray.size=xs.length:=by rw[size_toArray];exact r.length.symm
  refine⟨"tuple",_,PyProof.Rows.slot_tuple_getitem.lookup,ht.typeIs,?_⟩
  exact HT.kj ht hs pl pu (by rw[hlen];exact hw) ⟨.ref a,H,I,rfl,q1 hw⟩
 ·exact Gw pins s O H _ v vl vu lo hi sl Q I rx hs pl pu ⟨a,xs,rfl,hx,hw,q⟩
noncomputable abbrev DTO:=Rho->Mu->(Option Int->Mu->Prop)->Prop
noncomputable def IK(K:PySem.W.Frag)(t:TO)(td:DTO):Prop:=∀(O:St) (H:Hp) (ρ:Rho) (U:Mu) (Qd:Option Int->Mu->Prop) (Q:Option Int->Hp->Prop),St0 K H ρ U O->td ρ U Qd ->
 (∀o Z H',Ext K U H Z H'->St0 K H' ρ Z O->Qd o Z->Q o H')->t O H Q
inductive DO(X:Cx)(e:Option Expr)(td:DTO):Prop|mk0 (t:TO) (p:PO X e t) (l:IK X.K t td):DO X e td
noncomputable def fW:DTO:=fun _ U Q=>Q none U
noncomputable def j3(t:DTE):DTO:=fun ρ U Q=>t ρ U fun x Y=>match x with
 |.v (.int i)=>Q (some i) Y
 |_=>False
theorem B0:DO X none fW:=⟨_,C5,fun O H ρ U Qd Q S h k=>k none U H .refl S h⟩
theorem Ci(h:DE X e te):DO X (some e) (j3 te):=by
 obtain⟨t1,p1,l1⟩:=h
 refine⟨_,Cs p1,fun O H ρ U Qd Q S h k=>?_⟩
 refine l1 O H ρ U _ _ S h fun x ux Y H1 e1 S1 rx h1=>?_
 split at h1
 ·cases rx
  exact⟨_,rfl,k _ Y H1 e1 S1 h1⟩
 ·exact h1.elim
noncomputable def Bu(x:D)(lo hi:Option Int)(U:Mu)(Q:DK):Prop:=match x with
 |.v (.tuple xs)=>Q (.v (.tuple (jn xs lo hi))) U
 |.v (.list xs)=>Q (.v (.list (jn xs lo hi))) U
 |.m l=>(match U l with|some xs=>Q (.v (.list (jn xs lo hi))) U|none=>False)
 |_=>False
noncomputable def dSl(te:DTE)(tl th:DTO):DTE:=fun ρ U Q=>te ρ U fun x Y=>tl ρ Y fun l ac=>th ρ ac fun u be=>Bu x l u be Q
theorem zI{tl th:DTO}(he:DE X e te)(hl:DO X lo tl)(hu:DO X hi th):DE X (.Subscript e (.Slice lo hi none p2) pos) (dSl te tl th):=by
 obtain⟨t1,p1,l1⟩:=he
 obtain⟨t2,p2,l2⟩:=hl
 obtain⟨t3,p3,l3⟩:=hu
 refine⟨_,BH (DC.or CS) p1 p2 p3,fun O H ρ U Qd Q S h k=>?_⟩
 refine l1 O H ρ U _ _ S h fun x ux Y H1 e1 S1 rx h1=>?_
 refine l2 O H1 ρ Y _ _ S1 h1 fun l ac H2 e2 S2 h2=>?_
 refine l3 O H2 ρ ac _ _ S2 h2 fun u be H3 e3 S3 h3=>?_
 have rx3:=(rx.ext S1.mu e2).ext S2.mu e3
 have ee:=e1.trans (e2.trans e3)
 unfold Bu at h3
 split at h3
 ·rename_i xs
  cases id rx3 with
  |@tuple a us _ ha ra=>
   refine .inr ⟨a,us,rfl,ha,fun hw=>?_,fun p hp=>?_⟩
   ·refine k (.v _) _ be H3 ee S3 (show Rp _ _ _ (.tuple (jn xs l u)) _ from ?_) h3
    rw[Dt (by rw[ra.length];exact hw)]
    exact rx3
   ·exact k (.v _) _ be _ (ee.trans (bK hp)) (S3.new hp) (c6 S3.mu ra.cut hp) h3
 ·rename_i xs
  cases id rx3 with
  |@list a us _ ha hn ra=>exact .inl ⟨a,us,rfl,SqL.of ha,fun p hp=>k (.v _) _ be _ (ee.trans (bK hp)) (S3.new hp) (cW S3.mu ra.cut hp) h3⟩
 ·rename_i a
  obtain⟨rfl,ds,hm⟩:=rx3
  rw[hm] at h3
  obtain⟨us,ha,ra⟩:=S3.mu a ds hm
  exact .inl ⟨a,us,rfl,SqL.of ha,fun p hp=>k (.v _) _ be _ (ee.trans (bK hp)) (S3.new hp) (cW S3.mu ra.cut hp) h3⟩
 ·exact h3.elim
end
section
variable {X:Cx}{a b e:Expr}{es:List Expr}{ta tb te:DTE}{t:DTA}{p pos:Pos}{x:Str}{bid T:String}
noncomputable def fO(K:PySem.W.Frag)(r:List V->Hp->VK->Prop)(rd:List D->Mu->DK->Prop):Prop:=∀(xs:List D) (us:List V) (H:Hp) (U:Mu) (Qd:DK) (Q:VK),a6 K U H->fb K U H xs us->rd xs U Qd ->
 (∀d u Z H',Ext K U H Z H'->a6 K Z H'->RpD K Z H' d u->Qd d Z->Q u H')->r us H Q
noncomputable def dCB(rd:List D->Mu->DK->Prop)(t:DTA):DTE:=fun ρ U Q=>t ρ U fun ds Y=>rd ds Y Q
theorem xJ{K:PySem.W.Frag}{n:Nat}{r:List V->Hp->VK->Prop}{rd:List D->Mu->DK->Prop}{t1:TA}(lc:fO K r rd)(l1:Eb K n t1 t):kU K (tCB r t1) (dCB rd t):=by
 intro O H ρ U Qd Q S h k
 refine l1 O H ρ U _ _ S h fun xs us Y H1 e1 S1 rs len h1=>?_
 exact lc xs us H1 Y _ _ S1.mu rs h1 fun d u Z H' e2 ok r q=>k d u Z H' (e1.trans e2) ⟨ok,S1.rho.ext S1.mu e2⟩ r q
theorem dg{r:List V->Hp->VK->Prop}{rd:List D->Mu->DK->Prop}(hc:dE X (.builtin bid) r)(lc:fO X.K r rd)(hg:Gl X x)(hm:X.mg x=none)(hv:bootBuiltins x=some (.builtin bid))(ha:DA X (e::es) t)(hn:x ≠ "__name__":=by decide)(hdb:(x==("__debug__":Str))=false:=by decide)
  (he:starEach (e::es) X.env=(false,eval e X.env)::starEach es X.env:=by rfl) (hpl:(backTo pos (starEach es X.env)).any (·.1)=false:=by rfl):DE X (.Call (.Name x p) (e::es) [] pos) (dCB rd t):=by
 obtain⟨t1,p1,l1⟩:=ha
 exact⟨_,uZ hc hg hm hv p1 hn hdb he hpl,xJ lc l1⟩
theorem kZ{r:List V->Hp->VK->Prop}{rd:List D->Mu->DK->Prop}(hc:dE X (.type T) r)(lc:fO X.K r rd)(hg:Gl X x)(hm:X.mg x=none)(hv:bootBuiltins x=some (.type T))(ha:DA X (e::es) t)(hn:x ≠ "__name__":=by decide)(hdb:(x==("__debug__":Str))=false:=by decide)
  (he:starEach (e::es) X.env=(false,eval e X.env)::starEach es X.env:=by rfl) (hpl:(backTo pos (starEach es X.env)).any (·.1)=false:=by rfl):DE X (.Call (.Name x p) (e::es) [] pos) (dCB rd t):=by
 obtain⟨t1,p1,l1⟩:=ha
 exact⟨_,yy hc hg hm hv p1 hn hdb he hpl,xJ lc l1⟩
noncomputable def aX:List D->Mu->DK->Prop:=fun xs U Q=>match xs with
 |[.v (.list ys)]=>Q (.v (.int (ys.length:Nat))) U
 |[.v (.tuple ys)]=>Q (.v (.int (ys.length:Nat))) U
 |[.m l]=>(match U l with|some ys=>Q (.v (.int (ys.length:Nat))) U|none=>False)
 |[.s ns]=>Q (.v (.int (ns.length:Nat))) U
 |_=>False
theorem Gp{K:PySem.W.Frag}:fO K (fun xs H Q=>∃p ys,xs=[.ref p]/\(SqL K H p ys\/SqT K H p ys)/\Q (.int ys.length) H) aX:=by
 intro xs us H U Qd Q ok rs h k
 unfold aX at h
 split at h
 ·cases rs with
  |cons r1 r2=>
   cases r2
   cases r1 with
   |list hs hn r=>exact⟨_,_,rfl,.inl (SqL.of hs),k (.v _) _ U H .refl ok (by rw[<- r.length];exact Rp.int _) h⟩
 ·cases rs with
  |cons r1 r2=>
   cases r2
   cases r1 with
   |tuple hs r=>exact⟨_,_,rfl,.inr hs,k (.v _) _ U H .refl ok (by rw[<- r.length];exact Rp.int _) h⟩
 ·cases rs with
  |cons r1 r2=>
   cases r2
   obtain⟨rfl,ds,hm⟩:=r1
   rw[hm] at h
   obtain⟨us,hl,r⟩:=ok _ ds hm
   exact⟨_,_,rfl,.inl (SqL.of hl),k (.v _) _ U H .refl ok (by rw[<- r.length];exact Rp.int _) h⟩
 ·cases rs with
  |cons r1 r2=>
   cases r2
   obtain⟨a,rfl,hs,hn⟩:=r1
   exact⟨_,_,rfl,.inl hs,k (.v _) _ U H .refl ok (by rw[length_map];exact Rp.int _) h⟩
 ·exact h.elim
theorem Fq(hg:Gl X "len")(hm:X.mg "len"=none)(ha:DA X (e::es) t)
  (he:starEach (e::es) X.env=(false,eval e X.env)::starEach es X.env:=by rfl) (hpl:(backTo pos (starEach es X.env)).any (·.1)=false:=by rfl):DE X (.Call (.Name "len" p) (e::es) [] pos) (dCB aX t):=
 dg rp Gp hg hm PySem.boot_len ha ⋯ ⋯ he hpl
noncomputable def kf:List D->Mu->DK->Prop:=fun xs U Q=>match xs with
 |[.v (.int i)]=>Q (.v (.int (i.natAbs:Nat))) U
 |_=>False
theorem EY{K:PySem.W.Frag}:fO K (fun xs H Q=>∃i,xs=[.int i]/\Q (.int (if i<0 then -i else i)) H) kf:=by
 intro xs us H U Qd Q ok rs h k
 unfold kf at h
 split at h
 ·rename_i i
  cases rs with
  |cons r1 r2=>
   cases r2
   cases r1
   refine⟨i,rfl,k (.v (.int (i.natAbs:Nat))) _ U H .refl ok ?_ h⟩
   have:(if i<0 then -i else i)=((i.natAbs:Nat):Int):=by split<;>omega
   rw[this]
   exact Rp.int _
 ·exact h.elim
theorem GW(hg:Gl X "abs")(hm:X.mg "abs"=none)(ha:DA X (e::es) t)
  (he:starEach (e::es) X.env=(false,eval e X.env)::starEach es X.env:=by rfl) (hpl:(backTo pos (starEach es X.env)).any (·.1)=false:=by rfl):DE X (.Call (.Name "abs" p) (e::es) [] pos) (dCB kf t):=
 dg A7 EY hg hm PyProof.Rows.Boot.«abs» ha ⋯ ⋯ he hpl
noncomputable def uB(g:Int->Int->Int):List D->Mu->DK->Prop:=fun xs U Q=>match xs with
 |[.v (.int i),.v (.int j)]=>Q (.v (.int (g i j))) U
 |_=>False
theorem Ej{K:PySem.W.Frag}{g g':Int->Int->Int}(hg:∀i j,g i j=g' i j):fO K (fun xs H Q=>∃i j,xs=[.int i,.int j]/\Q (.int (g i j)) H) (uB g'):=by
 intro xs us H U Qd Q ok rs h k
 unfold uB at h
 split at h
 ·rename_i i j
  cases rs with
  |cons r1 r2=>
   cases r2 with
   |cons r2 r3=>
    cases r3
    cases r1
    cases r2
    exact⟨i,j,rfl,k (.v _) _ U H .refl ok (by rw[hg];exact Rp.int _) h⟩
 ·exact h.elim
theorem FX(hc:X.calm=true)(hg:Gl X "max")(hm:X.mg "max"=none)(ha:DA X (e::es) t)
  (he:starEach (e::es) X.env=(false,eval e X.env)::starEach es X.env:=by rfl) (hpl:(backTo pos (starEach es X.env)).any (·.1)=false:=by rfl):DE X (.Call (.Name "max" p) (e::es) [] pos) (dCB (uB max) t):=
 dg (yo hc) (Ej (fun i j=>by show (if j>i then j else i)=max i j;simp only[Int.max_def];split<;>split<;>omega)) hg hm PyProof.Rows.Boot.«max» ha ⋯ ⋯ he hpl
theorem FW(hc:X.calm=true)(hg:Gl X "min")(hm:X.mg "min"=none)(ha:DA X (e::es) t)
  (he:starEach (e::es) X.env=(false,eval e X.env)::starEach es X.env:=by rfl) (hpl:(backTo pos (starEach es X.env)).any (·.1)=false:=by rfl):DE X (.Call (.Name "min" p) (e::es) [] pos) (dCB (uB min) t):=
 dg (yf hc) (Ej (fun i j=>by show (if j<i then j else i)=min i j;simp only[Int.min_def];split<;>split<;>omega)) hg hm PyProof.Rows.Boot.«min» ha ⋯ ⋯ he hpl
noncomputable def jg:List D->Mu->DK->Prop:=fun xs U Q=>match xs with
 |[.v (.int i)]=>Q (.v (.int i)) U
 |[.v (.bool k)]=>Q (.v (.int (if k then 1 else 0))) U
 |_=>False
theorem Gy{K:PySem.W.Frag}:fO K (fun xs H Q=>(∃i,xs=[.int i]/\Q (.int i) H)\/∃k,xs=[.bl k]/\Q (.int (if k then 1 else 0)) H) jg:=by
 intro xs us H U Qd Q ok rs h k
 unfold jg at h
 split at h
 ·rename_i i
  cases rs with
  |cons r1 r2=>cases r2;cases r1;exact .inl ⟨i,rfl,k (.v _) _ U H .refl ok (Rp.int _) h⟩
 ·rename_i b
  cases rs with
  |cons r1 r2=>cases r2;cases r1;exact .inr ⟨b,rfl,k (.v _) _ U H .refl ok (Rp.int _) h⟩
 ·exact h.elim
theorem As(hg:Gl X "int")(hm:X.mg "int"=none)(ha:DA X (e::es) t)
  (he:starEach (e::es) X.env=(false,eval e X.env)::starEach es X.env:=by rfl) (hpl:(backTo pos (starEach es X.env)).any (·.1)=false:=by rfl):DE X (.Call (.Name "int" p) (e::es) [] pos) (dCB jg t):=
 kZ yP Gy hg hm PyProof.Rows.Boot.«int» ha ⋯ ⋯ he hpl
noncomputable def ll:List D->Mu->DK->Prop:=fun xs U Q=>match xs with
 |[.v (.list ys)]=>Q (.v (.list ys)) U
 |[.v (.tuple ys)]=>Q (.v (.list ys)) U
 |_=>False
theorem Dz{K:PySem.W.Frag}:fO K (fun xs H Q=>∃p ys,xs=[.ref p]/\(SqL K H p ys\/SqT K H p ys)/\∀l,H l=none->Q (.ref l) (upd H l (.lst ys))) ll:=by
 intro xs us H U Qd Q ok rs h k
 unfold ll at h
 split at h
 ·cases rs with
  |cons r1 r2=>
   cases r2
   cases r1 with
   |list hs hn r=>exact⟨_,_,rfl,.inl (SqL.of hs),fun p hp=>k (.v _) _ U _ (bK hp) (ok.new hp) (cW ok r hp) h⟩
 ·cases rs with
  |cons r1 r2=>
   cases r2
   cases r1 with
   |tuple hs r=>exact⟨_,_,rfl,.inr hs,fun p hp=>k (.v _) _ U _ (bK hp) (ok.new hp) (cW ok r hp) h⟩
 ·exact h.elim
theorem Cg(hg:Gl X "list")(hm:X.mg "list"=none)(ha:DA X (e::es) t)
  (he:starEach (e::es) X.env=(false,eval e X.env)::starEach es X.env:=by rfl) (hpl:(backTo pos (starEach es X.env)).any (·.1)=false:=by rfl):DE X (.Call (.Name "list" p) (e::es) [] pos) (dCB ll t):=
 kZ tH Dz hg hm PyProof.Rows.Boot.«list» ha ⋯ ⋯ he hpl
theorem vg:∀{bs:List Bool} {us:List Value},Vals (bs.map V.bl) us->us=bs.map Value.bool
 |[],_,.nil=>rfl
 |b::r,_,.cons h t=>by cases h;rw[vg t];rfl
theorem y9(hc:X.calm=true):dE X (.builtin "all") (fun xs H Q=>∃(p:Addr) (bs:List Bool),xs=[.ref p]/\H p=some (.lst (bs.map V.bl))/\Q (.bl (bs.all id)) H):=by
 intro pins s O H xs us Q I r h
 obtain⟨l,bs,rfl,hl,q⟩:=h
 obtain⟨u,rfl,rx⟩:=vals1 r
 cases rx
 obtain⟨its,rv,pl,_⟩:=I.list (SqL.of hl)
 have eb:=vg rv
 subst eb
 have hL:=pl.isList
 have hlt:=pl.lt
 refine call_all_walk (wpAny_pyIter_list hL ?_)
 refine⟨s.heap.objs.size,[s.heap.objs.size,l],[s.heap.objs.size],(bs.map Value.bool).toArray.size,_,_,fun i=>(bs[i]?).getD true,rfl,Walks.list (A:=X.A.in1) (by exact I.ok.hd hc) _ l (ne_of_lt hlt) (bs.map Value.bool).toArray,
  ⟨⟨_,Heap.get?_push_size _ rfl,rfl,rfl⟩,hL.push _⟩,fun i v s' Q' E' hP hQ=>?_,fun h' tk hk=>?_⟩
 ·have hP':(bs.map Value.bool)[i]? = some v:=by simpa using hP
  rw[getElem?_map] at hP'
  cases z:bs[i]? with
  |none=>rw[z] at hP';cases hP'
  |some b=>
   rw[z] at hP'
   cases hP'
   simp only[z,Option.getD_some] at hQ
   exact wpAny_truthy_bool hQ
 ·have e:((List.range (bs.map Value.bool).toArray.size).all fun i=>(bs[i]?).getD true)=bs.all id:=by
   rw[size_toArray,length_map];exact PyProof.Rows.LSm.range_all bs
  rw[e]
  exact⟨.bl (bs.all id),H,I.kept (PyProof.Rows.LSm.kept_iter hk),rfl,q⟩
noncomputable def bq:List PyData->Option (List Bool)
 |[]=>some []
 |.bool b::r=>(bq r).map (b::·)
 |_::_=>none
theorem nj{K:PySem.W.Frag}{U:Mu}{H:Hp}:∀{xs:List PyData} {us:List V} {bs:List Bool},RpL K U H xs us->bq xs=some bs->us=bs.map V.bl
 |_,_,_,.nil,e=>by cases e;rfl
 |.bool b::r,_,bs,.cons h t,e=>by
  simp only[bq] at e
  cases q:bq r with
  |none=>rw[q] at e;cases e
  |some cs=>rw[q] at e;cases e;cases h;rw[nj t q];rfl
 |.none::r,_,bs,.cons h t,e=>by simp[bq] at e
 |.int _::r,_,bs,.cons h t,e=>by simp[bq] at e
 |.str _::r,_,bs,.cons h t,e=>by simp[bq] at e
 |.list _::r,_,bs,.cons h t,e=>by simp[bq] at e
 |.tuple _::r,_,bs,.cons h t,e=>by simp[bq] at e
 |.dict _::r,_,bs,.cons h t,e=>by simp[bq] at e
noncomputable def lU:List D->Mu->DK->Prop:=fun xs U Q=>match xs with
 |[.v (.list ys)]=>(match bq ys with|some bs=>Q (.v (.bool (bs.all id))) U|none=>False)
 |_=>False
theorem Hj{K:PySem.W.Frag}:fO K (fun xs H Q=>∃(p:Addr) (bs:List Bool),xs=[.ref p]/\H p=some (.lst (bs.map V.bl))/\Q (.bl (bs.all id)) H) lU:=by
 intro xs us H U Qd Q ok rs h k
 unfold lU at h
 split at h
 ·rename_i ys
  cases q:bq ys with
  |none=>rw[q] at h;exact h.elim
  |some bs=>
   rw[q] at h
   cases rs with
   |cons r1 r2=>
    cases r2
    cases r1 with
    |list hs hn r=>exact⟨_,bs,rfl,by rw[hs,nj r q],k (.v _) _ U H .refl ok (Rp.bool _) h⟩
 ·exact h.elim
theorem Fz(hc:X.calm=true)(hg:Gl X "all")(hm:X.mg "all"=none)(ha:DA X (e::es) t)
  (he:starEach (e::es) X.env=(false,eval e X.env)::starEach es X.env:=by rfl) (hpl:(backTo pos (starEach es X.env)).any (·.1)=false:=by rfl):DE X (.Call (.Name "all" p) (e::es) [] pos) (dCB lU t):=
 dg (y9 hc) Hj hg hm PyProof.Rows.Boot.«all» ha ⋯ ⋯ he hpl
noncomputable def tyD:PyData->String
 |.none=>"NoneType"
 |.bool _=>"bool"
 |.int _=>"int"
 |.str _=>"str"
 |.list _=>"list"
 |.tuple _=>"tuple"
 |.dict _=>"dict"
noncomputable def isT(T:String)(d:PyData):Bool:=tyD d==T || (T == "int"&&tyD d == "bool")
theorem yw{pins:List (Addr×Obj)}{O:St}{H:Hp}{s:Shared}{U:Mu}{d:PyData}{u:V}{v:Value}{k:Bool}{A:Around}{E:Value->Shared->Prop}{Q:Value->Shared->Prop}(I:Inv X pins O H s)(r:Rp X.K U H d u)(rx:RelV u v)
  (ek:kitOne X.K (.type (tyD d)) (.type T)=some k) (h:∀tk,Q (.bool k) {s with toks:=tk}):wpAny (model X.prog X.w) A (call (.builtin "isinstance") [v,.type T]) Q E s:=by
 cases r with
 |none=>cases rx;exact kia_one PySem.W.kitx_none I.kIn True.intro ek (fun z=>nomatch z) h
 |bool b=>cases rx;exact kia_one PySem.W.kitx_bool I.kIn True.intro ek (fun z=>nomatch z) h
 |int i=>obtain⟨t,rfl⟩:=rx;exact kia_one PySem.W.kitx_int I.kIn True.intro ek (fun z=>nomatch z) h
 |str y=>obtain⟨t,rfl⟩:=rx;exact kia_one PySem.W.kitx_str I.kIn True.intro ek (fun z=>nomatch z) h
 |list hs hn q=>
  cases rx
  obtain⟨its,rv,⟨o,n,h1,h2,_⟩,_⟩:=I.list (SqL.of hs)
  exact kia_one PySem.W.kitx_list I.kIn ⟨o,h1,h2⟩ ek (fun z=>nomatch z) h
 |tuple hs q=>
  cases rx
  obtain⟨its,rv,⟨o,h1,h2,_⟩,_⟩:=I.tuple hs
  exact kia_one PySem.W.kitx_tuple I.kIn ⟨o,h1,h2⟩ ek (fun z=>nomatch z) h
theorem Dq(K:PySem.W.Frag)(d:PyData):kitOne K (.type (tyD d)) (.type "int")=some (isT "int" d):=by cases d<;>rfl
theorem AQ(K:PySem.W.Frag)(d:PyData):kitOne K (.type (tyD d)) (.type "bool")=some (isT "bool" d):=by cases d<;>rfl
theorem kit_tuple(K:PySem.W.Frag)(d:PyData):kitOne K (.type (tyD d)) (.type "tuple")=some (isT "tuple" d):=by cases d<;>rfl
theorem uN(kt:∀d,kitOne X.K (.type (tyD d)) (.type T)=some (isT T d)):dE X (.builtin "isinstance") (fun xs H Q=>∃U d u,xs=[u,.ty T]/\Rp X.K U H d u/\Q (.bl (isT T d)) H):=by
 intro pins s O H xs us Q I r h
 obtain⟨U,d,u,rfl,rd,q⟩:=h
 obtain⟨v,w',rfl,r1,r2⟩:=vals2 r
 cases r2
 exact yw I rd r1 (kt d) fun tk=>⟨.bl (isT T d),H,I.tok _,rfl,q⟩
noncomputable def lA(T:String)(te:DTE):DTE:=fun ρ U Q=>te ρ U fun x Y=>match x with
 |.v d=>Q (.v (.bool (isT T d))) Y
 |_=>False
theorem vx{y:Str}{py:Pos}(kt:∀d,kitOne X.K (.type (tyD d)) (.type T)=some (isT T d))(hg:Gl X "isinstance")(hm:X.mg "isinstance"=none)(hgy:Gl X y)(hmy:X.mg y=none)(hvy:bootBuiltins y=some (.type T))(ha:DE X e te)
  (hny:y ≠ "__name__":=by decide) (hdy:(y==("__debug__":Str))=false:=by decide)
  (he:starEach [e,.Name y py] X.env=(false,eval e X.env)::starEach [.Name y py] X.env:=by rfl) (he2:starEach [.Name y py] X.env=[(false,eval (.Name y py) X.env)]:=by rfl) (hpl:(backTo pos (starEach [.Name y py] X.env)).any (·.1)=false:=by rfl):DE X (.Call (.Name "isinstance" p) [e,.Name y py] [] pos) (lA T te):=by
 obtain⟨t1,p1,l1⟩:=ha
 refine⟨_,uZ (uN kt) hg hm PyProof.Rows.Boot.«isinstance» (iK p1 (iK (Dx (v:=.ty T) hgy hmy hvy rfl hny hdy) nX he2) he) ⋯ ⋯ he hpl,fun O H ρ U Qd Q S h k=>?_⟩
 refine l1 O H ρ U _ _ S h fun x ux Y H1 e1 S1 rx h1=>?_
 split at h1
 ·exact⟨Y,_,ux,rfl,rx,k (.v _) _ Y H1 e1 S1 (Rp.bool _) h1⟩
 ·exact h1.elim
end
section
variable {X:Cx}{a b e:Expr}{es:List Expr}{ta tb te:DTE}{t:DTA}{p pos:Pos}{st:Stmt}{rest sts:List Stmt}{td ud:DTS}{tc:DTT}
noncomputable def aE:DTS:=fun Dd ρ U=>Dd.nx ρ U
noncomputable def aj(t u:DTS):DTS:=fun Dd ρ U=>t {Dd with nx:=u Dd} ρ U
noncomputable def aB(te:DTE):DTS:=fun Dd ρ U=>te ρ U Dd.rt
noncomputable def dj(te:DTE):DTS:=fun Dd ρ U=>te ρ U fun _ Y=>Dd.nx ρ Y
noncomputable def aK(c:DTT)(t u:DTS):DTS:=fun Dd ρ U=>c ρ U fun b Y=>if b=true then t Dd ρ Y else u Dd ρ Y
theorem DF:DSs X [] aE:=⟨_,C8,fun O H ρ U Dd De S h k1 k2 k3 k4=>k1 O ρ U H .refl S h⟩
theorem BX(h:DS X st td):DSs X [st] td:=let ⟨t,p,l⟩:=h;⟨t,DJ p,l⟩
theorem lift_seq{K:PySem.W.Frag}{t u:TS}(l1:qy K t td)(l2:qy K u ud):qy K (JM t u) (aj td ud):=by
 intro O H ρ U Dd De S h k1 k2 k3 k4
 refine l1 O H ρ U _ _ S h (fun al ap Z H' e' S' h'=>?_) k2 k3 k4
 exact l2 al H' ap Z Dd De S' h' (fun a b c d e2=>k1 a b c d (e'.trans e2)) (fun a b c d e2=>k2 a b c d (e'.trans e2)) (fun a b c d e2=>k3 a b c d (e'.trans e2)) (fun a b c d e2=>k4 a b c d (e'.trans e2))
theorem zK(h1:DS X st td)(h2:DSs X rest ud):DSs X (st::rest) (aj td ud):=by
 obtain⟨t1,p1,l1⟩:=h1
 obtain⟨t2,p2,l2⟩:=h2
 exact⟨_,A8 p1 p2,lift_seq l1 l2⟩
theorem Hf(he:DE X e te):DS X (.Return (some e) pos) (aB te):=by
 obtain⟨t1,p1,l1⟩:=he
 exact⟨_,EX p1,fun O H ρ U Dd De S h k1 k2 k3 k4=>l1 O H ρ U _ _ S h fun d u Z H' e' S' r q=>k2 d u Z H' e' S'.mu r q⟩
theorem Cr(he:DE X e te)(hs:swapsWith e none pos.line X.env=pure false:=by rfl):DS X (.Expr e pos) (dj te):=by
 obtain⟨t1,p1,l1⟩:=he
 exact⟨_,CZ p1 hs,fun O H ρ U Dd De S h k1 k2 k3 k4=>l1 O H ρ U _ _ S h fun d u Z H' e' S' r q=>k1 O ρ Z H' e' S' q⟩
theorem JR{c:Expr}{x y:List Stmt}(hc:DT X c tc)(ha:DSs X x td)(hb:DSs X y ud):DS X (.If c x y pos) (aK tc td ud):=by
 obtain⟨t0,p0,l0⟩:=hc
 obtain⟨t1,p1,l1⟩:=ha
 obtain⟨t2,p2,l2⟩:=hb
 refine⟨_,Ir p0 p1 p2,fun O H ρ U Dd De S h k1 k2 k3 k4=>?_⟩
 refine l0 O H ρ U _ _ S h fun c Y H1 e1 S1 h1=>?_
 cases c with
 |true=>exact vf (l1 O H1 ρ Y Dd De S1 (by simpa using h1) (fun a b c d e2=>k1 a b c d (e1.trans e2)) (fun a b c d e2=>k2 a b c d (e1.trans e2)) (fun a b c d e2=>k3 a b c d (e1.trans e2)) (fun a b c d e2=>k4 a b c d (e1.trans e2)))
 |false=>exact uP (l2 O H1 ρ Y Dd De S1 (by simpa using h1) (fun a b c d e2=>k1 a b c d (e1.trans e2)) (fun a b c d e2=>k2 a b c d (e1.trans e2)) (fun a b c d e2=>k3 a b c d (e1.trans e2)) (fun a b c d e2=>k4 a b c d (e1.trans e2)))
noncomputable abbrev DTG:=D->Rho->Mu->(Rho->Mu->Prop)->Prop
noncomputable abbrev lC:=List PyData->Rho->Mu->(Rho->Mu->Prop)->Prop
noncomputable def Aj(K:PySem.W.Frag)(g:TG)(gd:DTG):Prop:=∀(O:St) (H:Hp) (ρ:Rho) (U:Mu) (d:D) (u:V) (Qd:Rho->Mu->Prop) (Q:St->Hp->Prop),St0 K H ρ U O->RpD K U H d u->gd d ρ U Qd ->
 (∀al ap Z H',Ext K U H Z H'->St0 K H' ap Z al->Qd ap Z->Q al H')->g u O H Q
noncomputable def Ga(K:PySem.W.Frag)(g:TGs)(gd:lC):Prop:=∀(O:St) (H:Hp) (ρ:Rho) (U:Mu) (ds:List PyData) (us:List V) (Qd:Rho->Mu->Prop) (Q:St->Hp->Prop),St0 K H ρ U O->RpL K U H ds us->gd ds ρ U Qd ->
 (∀al ap Z H',Ext K U H Z H'->St0 K H' ap Z al->Qd ap Z->Q al H')->g us O H Q
inductive DG(X:Cx)(tg:Expr)(gd:DTG):Prop|mk0 (g:TG) (p:PG X tg g) (l:Aj X.K g gd):DG X tg gd
inductive DGs(X:Cx)(tg:List Expr)(gd:lC):Prop|mk0 (g:TGs) (p:PGs X tg g) (l:Ga X.K g gd):DGs X tg gd
theorem eT.set{K:PySem.W.Frag}{U:Mu}{H:Hp}{ρ:Rho}{O:St}{i:Nat}{d:D}{u:V}(r:eT K U H ρ O)(h:RpD K U H d u):eT K U H (ρ.set i (some d)) (O.set i (some u)):=by
 refine⟨by rw[List.length_set,List.length_set];exact r.1,fun j d' e=>?_⟩
 by_cases hj:i=j
 ·subst hj
  have hl:i<ρ.length:=by
   have:=(List.getElem?_eq_some_iff.mp e).1
   rw[List.length_set] at this
   exact this
  rw[List.getElem?_set_self hl] at e
  cases e
  exact⟨u,List.getElem?_set_self (by rw[<- r.1];exact hl),h⟩
 ·rw[List.getElem?_set_ne hj] at e
  obtain⟨w,e1,e2⟩:=r.2 j d' e
  exact⟨w,by rw[List.getElem?_set_ne hj];exact e1,e2⟩
noncomputable def ae(i:Nat):DTG:=fun d ρ U Q=>Q (ρ.set i (some d)) U
theorem nk{K:PySem.W.Frag}{i:Nat}:Aj K (Bn i) (ae i):=fun O H ρ U d u Qd Q S r h k=>k _ _ U H .refl ⟨S.mu,S.rho.set r⟩ h
theorem sJ{i:Nat}{x:Str}(hN:X.N.Nodup)(hi:X.N[i]? = some x)(hx:Loc X.env.scope x)(hf:X.fn x=true\/X.env.scope.names.lookup x=some .local:=by first|exact .inl rfl|exact .inr rfl|assumption):DG X (.Name x pos) (ae i):=⟨_,CK hN hi hx hf,nk⟩
noncomputable def cw:lC:=fun ds ρ U Q=>match ds with
 |[]=>Q ρ U
 |_=>False
noncomputable def ay(g:DTG)(gs:lC):lC:=fun ds ρ U Q=>match ds with
 |d::r=>g (.v d) ρ U fun j' Y=>gs r j' Y Q
 |_=>False
theorem B6:DGs X [] cw:=⟨_,BR,fun O H ρ U ds us Qd Q S r h k=>by
 cases r with
 |nil=>exact⟨rfl,k O ρ U H .refl S h⟩
 |cons _ _=>exact h.elim⟩
theorem Ad{g:DTG}{gs:lC}(h1:DG X e g)(h2:DGs X es gs)(hs:(assignEach (e::es) X.env).map (·.2)=assign e X.env::(assignEach es X.env).map (·.2):=by rfl):DGs X (e::es) (ay g gs):=by
 obtain⟨t1,p1,l1⟩:=h1
 obtain⟨t2,p2,l2⟩:=h2
 refine⟨_,Am p1 p2 hs,fun O H ρ U ds us Qd Q S r h k=>?_⟩
 cases r with
 |nil=>exact h.elim
 |@cons d u ds us r1 r2=>
  refine⟨u,us,rfl,l1 O H ρ U (.v d) u _ _ S r1 h fun al ap Z H' e1 S' h1=>?_⟩
  exact l2 al H' ap Z ds us _ _ S' (r2.ext S.mu e1) h1 fun a b c d e2=>k a b c d (e1.trans e2)
noncomputable def cC(n:Nat)(gs:lC):DTG:=fun d ρ U Q=>match d with
 |.v (.tuple xs)=>xs.length=n/\gs xs ρ U Q
 |_=>False
theorem FH{k n:Nat}{gs:lC}(hc:X.calm=X.calm)(h:DGs X es gs)
  (hn:(assignEach es X.env).length=n:=by rfl) (hst:(assignEach es X.env).findIdx? (·.1)=none:=by rfl):DG X (.Tuple es k pos) (cC n gs):=by
 obtain⟨t1,p1,l1⟩:=h
 refine⟨_,Hn hc p1 hn hst,fun O H ρ U d u Qd Q S r h k=>?_⟩
 unfold cC at h
 split at h
 ·cases r with
  |@tuple a us _ ha ra=>exact⟨a,us,rfl,ha,by rw[<- ra.length];exact h.1,l1 O H ρ U _ us _ _ S ra h.2 k⟩
 ·exact h.elim
noncomputable def xB(to ti:DTE):DTG:=fun d ρ U Q=>to ρ U fun o Y=>ti ρ Y fun i ac=>match o,i,d with
 |.m l,.v (.int k),.v x=>(match ac l with
  |some xs=>(match ixN xs.length k with
   |some j=>Q ρ (aD ac l (xs.set j x))
   |none=>False)
  |none=>False)
 |_,_,_=>False
theorem EF{o i:Expr}{to ti:DTE}(ho:DE X o to)(hi:DE X i ti)
  (ha:∀v,assign (.Subscript o i pos) X.env v=(do
   let ov <- holding [v] (eval o X.env)
   let iv <- holding [v,ov] (eval i X.env)
   standAt pos
   holding [v,ov,iv] (setItem ov iv v)
   release [v,ov,iv] []):=by intro _;rfl):DG X (.Subscript o i pos) (xB to ti):=by
 obtain⟨t1,p1,l1⟩:=ho
 obtain⟨t2,p2,l2⟩:=hi
 refine⟨_,Gi p1 p2 set_list ha,fun O H ρ U d u Qd Q S r h k=>?_⟩
 refine l1 O H ρ U _ _ S h fun x ux Y H1 e1 S1 rx h1=>?_
 refine l2 O H1 ρ Y _ _ S1 h1 fun y uy ac H2 e2 S2 ry h2=>?_
 have r2:=(r.ext S.mu e1).ext S1.mu e2
 have rx2:=rx.ext S1.mu e2
 split at h2
 ·rename_i l kk xv
  obtain⟨rfl,ds,hm⟩:=rx2
  cases ry
  rw[hm] at h2
  obtain⟨us,hl,rl⟩:=S2.mu l ds hm
  simp only at h2
  cases q:ixN ds.length kk with
  |none=>rw[q] at h2;exact h2.elim
  |some j=>
   rw[q] at h2
   refine⟨l,us,kk,j,rfl,rfl,hl,by rw[<- rl.length];exact q,?_⟩
   have ex:Ext X.K ac H2 (aD ac l (ds.set j xv)) (upd H2 l (.lst (us.set j u))):=eU hm
   exact k O ρ _ _ (e1.trans (e2.trans ex)) ⟨S2.mu.set hm (rl.set r2 j),S2.rho.ext S2.mu ex⟩ h2
 ·exact h2.elim
noncomputable def aq(te:DTE)(g:DTG):DTS:=fun Dd ρ U=>te ρ U fun d Y=>g d ρ Y Dd.nx
theorem t7{K:PySem.W.Frag}{t:TE}{g:TG}{gd:DTG}(l1:kU K t te)(l2:Aj K g gd):qy K (Gf t g) (aq te gd):=by
 intro O H ρ U Dd De S h k1 k2 k3 k4
 refine l1 O H ρ U _ _ S h fun d u Y H1 e1 S1 r h1=>?_
 exact l2 O H1 ρ Y d u _ _ S1 r h1 fun a b c d e2=>k1 a b c d (e1.trans e2)
theorem HH{tg:Expr}{g:DTG}(he:DE X e te)(hg:DG X tg g)(hs:swapsWithSole [tg] e pos.line X.env=pure false:=by rfl)(hw:swappedStores [tg] e X.env=pure none:=by rfl)
  (h1:(assignEach [tg] X.env).map (·.2)=[assign tg X.env]:=by rfl):DS X (.Assign [tg] e pos) (aq te g):=by
 obtain⟨t1,p1,l1⟩:=he
 obtain⟨t2,p2,l2⟩:=hg
 exact⟨_,Fy p1 p2 hs hw h1,t7 l1 l2⟩
theorem AM{i:Nat}{x:Str}{pos':Pos}(hN:X.N.Nodup)(hi:X.N[i]? = some x)(hx:Loc X.env.scope x)(he:DE X e te)(hs:swapsWith e (some (.Name x pos')) pos.line X.env=pure false:=by rfl)(hf:X.fn x=true\/X.env.scope.names.lookup x=some .local:=by first|exact .inl rfl|exact .inr rfl|assumption) :
  DS X (.Assign [.Name x pos'] e pos) (aq te (ae i)):=by
 obtain⟨t1,p1,l1⟩:=he
 exact⟨_,HD hN hi hx p1 hs hf,t7 l1 nk⟩
noncomputable def oi(i j:Nat)(t:DTA):DTS:=fun Dd ρ U=>t ρ U fun ds Y=>match ds with
 |[v,w]=>Dd.nx ((ρ.set i (some v)).set j (some w)) Y
 |_=>False
theorem H0{i j:Nat}{x y:Str}{a b:Expr}{t:DTA}{px py pt:Pos}{kt k2 pt2}(hc:X.calm=true)(hN:X.N.Nodup)(hi:X.N[i]? = some x)(hj:X.N[j]? = some y)(hij:i≠j)
  (hx:X.env.scope.names.lookup x=some .local) (hy:X.env.scope.names.lookup y=some .local) (ha:DA X [a,b] t)
  (hw:swappedStores [.Tuple [.Name x px,.Name y py] kt pt] (.Tuple [a,b] k2 pt2) X.env=pure (some [x,y]))
  (hs:swapsWithSole [.Tuple [.Name x px,.Name y py] kt pt] (.Tuple [a,b] k2 pt2) pos.line X.env=pure false:=by rfl) :
  DS X (.Assign [.Tuple [.Name x px,.Name y py] kt pt] (.Tuple [a,b] k2 pt2) pos) (oi i j t):=by
 obtain⟨t1,p1,l1⟩:=ha
 refine⟨_,HW hc hN hi hj hij hx hy p1 hw hs,fun O H ρ U Dd De S h k1 k2 k3 k4=>?_⟩
 refine l1 O H ρ U _ _ S h fun ds us Y H1 e1 S1 rs len h1=>?_
 split at h1
 ·cases rs with
  |cons r1 r2=>
   cases r2 with
   |cons r2 r3=>
    cases r3
    exact⟨_,_,rfl,k1 _ _ Y H1 e1 ⟨S1.mu,(S1.rho.set r1).set r2⟩ h1⟩
 ·exact h1.elim
noncomputable def jE(c:DTT)(tb:DTS):DTS:=fun Dd ρ U=>∃W:Nat->Rho->Mu->Prop,(∃m,W m ρ U)/\∀m ρ U,W m ρ U ->
 c ρ U fun b Y=>if b=true then tb {Dd with nx:=fun ap Z=>∃m',m'<m/\W m' ap Z,ct:=fun ap Z=>∃m',m'<m/\W m' ap Z,bk:=Dd.nx} ρ Y else Dd.nx ρ Y
theorem zB{c:Expr}{body:List Stmt}(hp:PassesOwn (model X.prog X.w) X.A X.env X.xe)(hc:DT X c tc)(hb:DSs X body td):DS X (.While c body [] pos) (jE tc td):=by
 obtain⟨t0,p0,l0⟩:=hc
 obtain⟨t1,p1,l1⟩:=hb
 refine⟨_,Ak hp p0 p1,fun O H ρ U Dd De S h k1 k2 k3 k4=>?_⟩
 obtain⟨W,⟨m,w0⟩,turn⟩:=h
 refine⟨fun m al H'=>∃ap Z,Ext X.K U H Z H'/\St0 X.K H' ap Z al/\W m ap Z,⟨m,ρ,U,.refl,S,w0⟩,?_⟩
 rintro m ii H1 ⟨j',Y,e1,S1,w1⟩
 refine l0 ii H1 j' Y _ _ S1 (turn m j' Y w1) fun b ac H2 e2 S2 h2=>?_
 cases b with
 |true=>
  refine vf ⟨fun al H'=>∃m',m'<m/\∃ap Z,Ext X.K U H Z H'/\St0 X.K H' ap Z al/\W m' ap Z,fun al H' ⟨m',hm,q⟩=>⟨m',hm,q⟩,?_⟩
  have nxt:∀al ap Z H',Ext X.K ac H2 Z H'->St0 X.K H' ap Z al->(∃m',m'<m/\W m' ap Z)->∃m',m'<m/\∃ap Z,Ext X.K U H Z H'/\St0 X.K H' ap Z al/\W m' ap Z:=
   fun al ap Z H' e3 S3 ⟨m',hm,q⟩=>⟨m',hm,ap,Z,e1.trans (e2.trans e3),S3,q⟩
  rw[if_pos rfl] at h2
  exact l1 ii H2 j' ac _ _ S2 h2 nxt (fun a b c d e3=>k2 a b c d (e1.trans (e2.trans e3))) (fun a b c d e3=>k1 a b c d (e1.trans (e2.trans e3))) nxt
 |false=>exact uP (k1 ii j' ac H2 (e1.trans e2) S2 (by simpa using h2))
noncomputable abbrev DTI:=Rho->Mu->(List PyData->Mu->Prop)->Prop
noncomputable def HL(K:PySem.W.Frag)(J:It)(xs:List PyData)(Y:Mu)(H1:Hp):Prop:=∀ac H2,Ext K Y H1 ac H2->a6 K ac H2->∀i,(i<xs.length->J.go i H2/\∀x H',J.yld i H2 x H'->∃d,xs[i]? = some d/\sv H2 H'/\Rp K ac H' d x)/\(i=xs.length->J.stop i H2)
noncomputable def Ju(K:PySem.W.Frag)(wi:TI)(src:DTI):Prop:=∀(O:St) (H:Hp) (ρ:Rho) (U:Mu) (Qd:List PyData->Mu->Prop) (R:It->Hp->Prop),St0 K H ρ U O->src ρ U Qd ->
 (∀xs Y H1 J,Ext K U H Y H1->St0 K H1 ρ Y O->HL K J xs Y H1->Qd xs Y->R J H1)->wi O H R
inductive DI(X:Cx)(tg iter:Expr)(src:DTI):Prop|mk0 (wi:TI) (p:PI X tg iter wi) (l:Ju X.K wi src):DI X tg iter src
variable {tg:Expr}
noncomputable def a9(te:DTE):DTI:=fun ρ U Q=>te ρ U fun d Y=>match d with
 |.v (.list xs)=>Q xs Y
 |_=>False
noncomputable def fw(te:DTE):DTI:=fun ρ U Q=>te ρ U fun d Y=>match d with
 |.v (.tuple xs)=>Q xs Y
 |_=>False
theorem BN(h:DE X e te):DI X tg e (a9 te):=by
 obtain⟨t1,p1,l1⟩:=h
 refine⟨_,DH p1,fun O H ρ U Qd R S h k=>?_⟩
 refine l1 O H ρ U _ _ S h fun d u Y H1 e1 S1 r h1=>?_
 split at h1
 ·rename_i xs
  cases r with
  |@list a us _ ha hn ra=>
   refine⟨a,rfl,⟨us,SqL.of ha⟩,k xs Y H1 _ e1 S1 (fun ac H2 e2 ok2 i=>⟨fun hi=>?_,fun hi=>?_⟩) h1⟩
   ·have ha2:=e2.keep _ _ ha hn trivial
    have hiu:i<us.length:=by rw[<- ra.length];exact hi
    refine⟨⟨us,us[i],SqL.of ha2,by simp[hiu]⟩,fun x H' hq0=>?_⟩
    obtain⟨eH,hx⟩:=hq0
    subst eH
    obtain⟨u',h1',h2'⟩:=ra.get (i:=i) (d:=xs[i]) (by simp[hi])
    have:=hx us (SqL.of ha2)
    rw[h1'] at this
    cases this
    exact⟨xs[i],by simp[hi],sv.refl _,h2'.ext S1.mu e2⟩
   ·exact⟨us,SqL.of (e2.keep _ _ ha hn trivial),by rw[<- ra.length];omega⟩
 ·exact h1.elim
theorem Fp(h:DE X e te):DI X tg e (fw te):=by
 obtain⟨t1,p1,l1⟩:=h
 refine⟨_,GI p1,fun O H ρ U Qd R S h k=>?_⟩
 refine l1 O H ρ U _ _ S h fun d u Y H1 e1 S1 r h1=>?_
 split at h1
 ·rename_i xs
  cases r with
  |@tuple a us _ ha ra=>
   refine⟨a,rfl,⟨us,ha⟩,k xs Y H1 _ e1 S1 (fun ac H2 e2 ok2 i=>⟨fun hi=>?_,fun hi=>?_⟩) h1⟩
   ·have ha2:=eM S1.mu e2 ha
    have hiu:i<us.length:=by rw[<- ra.length];exact hi
    refine⟨⟨us,us[i],ha2,by simp[hiu]⟩,fun x H' hq0=>?_⟩
    obtain⟨eH,hx⟩:=hq0
    subst eH
    obtain⟨u',h1',h2'⟩:=ra.get (i:=i) (d:=xs[i]) (by simp[hi])
    have:=hx us ha2
    rw[h1'] at this
    cases this
    exact⟨xs[i],by simp[hi],sv.refl _,h2'.ext S1.mu e2⟩
   ·exact⟨us,eM S1.mu e2 ha,by rw[<- ra.length];omega⟩
 ·exact h1.elim
noncomputable def hR(lo:Int)(n:Nat):List PyData:=(List.range n).map fun (i:Nat)=>PyData.int (lo+(i:Int))
theorem AH{K:PySem.W.Frag}{lo:Int}{n:Nat}{U:Mu}{H:Hp}:HL K (Itr lo n) (hR lo n) U H:=fun ac H2 e2 ok2 i=>by
 have hl:(hR lo n).length=n:=by unfold hR;simp
 refine⟨fun hi=>?_,fun hi=>?_⟩
 ·rw[hl] at hi
  refine⟨hi,fun x H' hq0=>?_⟩
  obtain⟨eH,hx⟩:=hq0
  subst eH hx
  exact⟨.int (lo+i),by unfold hR;simp[hi],sv.refl _,.int _⟩
 ·show n<=i
  omega
noncomputable def dm(t:DTA):DTI:=fun ρ U Q=>t ρ U fun ds Y=>match ds with
 |[.v (.int j)]=>(-(2 ^ 62)<=j/\j<2 ^ 62)/\Q (hR 0 j.toNat) Y
 |_=>False
noncomputable def vW(t:DTA):DTI:=fun ρ U Q=>t ρ U fun ds Y=>match ds with
 |[.v (.int i),.v (.int j)]=>(-(2 ^ 62)<=i/\i<2 ^ 62/\-(2 ^ 62)<=j/\j<2 ^ 62)/\Q (hR i (j-i).toNat) Y
 |_=>False
theorem BU{a:Expr}{t:DTA}{p pos:Pos}(hg:Gl X "range")(hm:X.mg "range"=none)(ha:DA X [a] t)(hs:starEach [a] X.env=[(false,eval a X.env)]:=by rfl)(hc:X.calm=true:=by rfl):DI X tg (.Call (.Name "range" p) [a] [] pos) (dm t):=by
 obtain⟨t1,p1,l1⟩:=ha
 refine⟨_,ze hc hg hm p1 hs,fun O H ρ U Qd R S h k=>?_⟩
 refine l1 O H ρ U _ _ S h fun ds us Y H1 e1 S1 rs len h1=>?_
 split at h1
 ·rename_i j
  cases rs with
  |cons r1 r2=>cases r2;cases r1;exact⟨j,rfl,h1.1.1,h1.1.2,k _ Y H1 _ e1 S1 AH h1.2⟩
 ·exact h1.elim
theorem Co{a b:Expr}{t:DTA}{p pos:Pos}(hg:Gl X "range")(hm:X.mg "range"=none)(ha:DA X [a,b] t)(hs:starEach [a,b] X.env=[(false,eval a X.env),(false,eval b X.env)]:=by rfl)(hs2:starEach [b] X.env=[(false,eval b X.env)]:=by rfl)(hc:X.calm=true:=by rfl):DI X tg (.Call (.Name "range" p) [a,b] [] pos) (vW t):=by
 obtain⟨t1,p1,l1⟩:=ha
 refine⟨_,zp hc hg hm p1 hs hs2,fun O H ρ U Qd R S h k=>?_⟩
 refine l1 O H ρ U _ _ S h fun ds us Y H1 e1 S1 rs len h1=>?_
 split at h1
 ·rename_i i j
  cases rs with
  |cons r1 r2=>
   cases r2 with
   |cons r2 r3=>cases r3;cases r1;cases r2;exact⟨i,j,rfl,h1.1,k _ Y H1 _ e1 S1 AH h1.2⟩
 ·exact h1.elim
noncomputable def ik(src:DTI)(g:DTG)(tb:DTS):DTS:=fun Dd ρ U=>src ρ U fun xs Y=>∃Pv:Nat->Rho->Mu->Prop,Pv 0 ρ Y /\
 (∀i x ap Z,xs[i]? = some x->Pv i ap Z->g (.v x) ap Z fun bv ac=>tb {Dd with nx:=Pv (i+1),ct:=Pv (i+1),bk:=Dd.nx} bv ac)/\(∀ap Z,Pv xs.length ap Z->Dd.nx ap Z)
theorem GY{iter:Expr}{body:List Stmt}{src:DTI}{g:DTG}(hp:PassesOwn (model X.prog X.w) X.A X.env X.xe)(hc:X.calm=true)(hi:DI X tg iter src)(hg:DG X tg g)(hb:DSs X body td)
  (hs:∀x,foldedSetIterable iter X.env x=pure x:=by intro _;rfl):DS X (.For tg iter body [] pos) (ik src g td):=by
 obtain⟨t0,p0,l0⟩:=hi
 obtain⟨t1,p1,l1⟩:=hg
 obtain⟨t2,p2,l2⟩:=hb
 refine⟨_,He hp hc p0 p1 p2 hs,fun O H ρ U Dd De S h k1 k2 k3 k4=>?_⟩
 refine l0 O H ρ U _ _ S h fun xs Y H1 J e1 S1 it h1=>?_
 obtain⟨Pv,pv0,turn,fin⟩:=h1
 refine⟨fun i m al H'=>m=xs.length-i/\i<=xs.length/\∃ap Z,Ext X.K Y H1 Z H'/\St0 X.K H' ap Z al/\Pv i ap Z,⟨xs.length,by simp,zero_le _,ρ,Y,.refl,S1,pv0⟩,?_⟩
 rintro i m al H' ⟨rfl,hi,ap,Z,e2,S2,pv⟩
 obtain⟨go,stop⟩:=it Z H' e2 S2.mu i
 by_cases hlt:i<xs.length
 ·obtain⟨g1,y1⟩:=go hlt
  refine .inr ⟨g1,fun ms H2=>∃bv ac,Ext X.K Y H1 ac H2/\St0 X.K H2 bv ac ms/\Pv (i+1) bv ac,fun ms H2 q=>⟨xs.length-(i+1),∅,rfl,hlt,q⟩,fun x H2 yl=>?_⟩
  obtain⟨d,hd,sm,rd⟩:=y1 x H2 yl
  have e3:Ext X.K Z H' Z H2:=.of_same sm
  have S3:St0 X.K H2 ap Z al:=⟨S2.mu.Fn e3 sm,S2.rho.ext S2.mu e3⟩
  refine l1 al H2 ap Z (.v d) x _ _ S3 rd (turn i d ap Z hd pv) fun sB tj bn H4 e4 S4 h4=>?_
  have nxt:∀a b c dd,Ext X.K bn H4 c dd->St0 X.K dd b c a->Pv (i+1) b c->∃bv ac,Ext X.K Y H1 ac dd/\St0 X.K dd bv ac a/\Pv (i+1) bv ac:=fun a b c dd e5 S5 q=>⟨b,c,e2.trans (e3.trans (e4.trans e5)),S5,q⟩
  have ee:=e1.trans (e2.trans (e3.trans e4))
  exact l2 sB H4 tj bn _ _ S4 h4 nxt (fun a b c d e5=>k2 a b c d (ee.trans e5)) (fun a b c d e5=>k1 a b c d (ee.trans e5)) nxt
 ·have ei:i=xs.length:=by omega
  subst ei
  exact .inl ⟨stop rfl,k1 al ap Z H' (e1.trans e2) S2 (fin ap Z pv)⟩
end
noncomputable abbrev DSp:=List D->Mu->DK->Prop
noncomputable def spD(K:PySem.W.Frag)(dsp:DSp):Sp:=fun vs H Q _=>∃(ds:List D) (U:Mu) (Qd:DK),a6 K U H/\fb K U H ds vs/\dsp ds U Qd /\
 (∀d u Z H',Ext K U H Z H'->a6 K Z H'->RpD K Z H' d u->Qd d Z->Q u H')
noncomputable def ak(N:List Str)(ds:List D):Rho:=ds.map some++List.replicate (N.length-ds.length) none
theorem fb.get{K:PySem.W.Frag}{U:Mu}{H:Hp}{ds:List D}{us:List V}:∀{i:Nat} {d:D},fb K U H ds us->ds[i]? = some d->∃u,us[i]? = some u/\RpD K U H d u
 |_,_,.nil,h=>by simp at h
 |0,_,.cons r _,h=>by simp at h;subst h;exact⟨_,rfl,r⟩
 |i+1,d,.cons _ t,h=>by
  obtain⟨u,h1,h2⟩:=fb.get (i:=i) (d:=d) t (by simpa using h)
  exact⟨u,by simpa using h1,h2⟩
theorem yM{K:PySem.W.Frag}{U:Mu}{H:Hp}{N:List Str}{ds:List D}{vs:List V}(r:fb K U H ds vs):eT K U H (ak N ds) (start N vs):=by
 have hl:=r.length
 refine⟨by unfold ak start;simp[hl],fun i d e=>?_⟩
 unfold ak at e
 by_cases hi:i<ds.length
 ·rw[List.getElem?_append_left (by simpa using hi),getElem?_map] at e
  unfold start
  rw[List.getElem?_append_left (by simpa [hl] using hi),getElem?_map]
  cases q:ds[i]? with
  |none=>rw[q] at e;cases e
  |some d'=>
   rw[q] at e
   cases e
   obtain⟨u,h1,h2⟩:=r.get q
   exact⟨u,by rw[h1];rfl,h2⟩
 ·rw[List.getElem?_append_right (by simpa using hi),List.getElem?_replicate] at e
  split at e<;>cases e
section
variable {X:Cx}{e:Expr}{es:List Expr}{t:DTA}{p pos:Pos}{x:Str}{k:Nat}{f:Addr}{fd:FuncData}{ps:List Str}{dsp:DSp}
noncomputable def ag(dsp:DSp)(t:DTA):DTE:=fun ρ U Q=>t ρ U fun ds Y=>dsp ds Y Q
theorem CW(F:eJ X.prog X.w X.K X.mg X.base CX0 k f fd ps (spD X.K dsp))(hr:cR k X.A)(hg:Gl X x)(hm:X.mg x=some (.ref f))(hk:keepIn X.K (.ref f)=true)(hb:Binds X.K fd ps [])
  (ha:DA X (e::es) t) (hdb:(x==("__debug__":Str))=false:=by decide) (he:starEach (e::es) X.env=(false,eval e X.env)::starEach es X.env:=by rfl) (hpl:(backTo pos (starEach es X.env)).any (·.1)=false:=by rfl) :
  DE X (.Call (.Name x p) (e::es) [] pos) (ag dsp t):=by
 obtain⟨t1,p1,l1⟩:=ha
 refine⟨_,Dm F hr hg hm hk hb .nil J8 p1 hdb he hpl,fun O H ρ U Qd Q S h kk=>?_⟩
 refine l1 O H ρ U _ _ S h fun ds us Y H1 e1 S1 rs len h1=>?_
 refine⟨ds,Y,Qd,S1.mu,by rw[List.append_nil];exact rs,h1,fun d u Z H' e2 ok r q=>?_⟩
 exact kk d u Z H' (e1.trans e2) ⟨ok,S1.rho.ext S1.mu e2⟩ r q
end
section
variable {X:Cx}{o e:Expr}{to te:DTE}{apos cpos:Pos}
noncomputable def lp(to te:DTE):DTE:=fun ρ U Q=>to ρ U fun x Y=>match x with
 |.m l=>te ρ Y fun y ac=>(match y,ac l with
  |.v d,some xs=>xs.length<1000/\Q (.v .none) (aD ac l (xs++[d]))
  |_,_=>False)
 |_=>False
theorem yn(ho:DE X o to)(ha:DE X e te)(hbase:attributeBase o "append" X.env (eval o X.env)=eval o X.env:=by rfl)
  (hfew:((backTo cpos (starEach [e] X.env)).all (fun x=>!x.1)&&(backToKw cpos (keywordEach [] X.env)).all (fun x=>x.1.isSome)
   && decide ([e].length+([]:List Keyword).length+(if ([]:List Keyword).isEmpty then 0 else 1)<30))=true:=by rfl)
  (hline:(apos.endLine==cpos.line)=true:=by rfl) (hs:starEach [e] X.env=(false,eval e X.env)::starEach [] X.env:=by rfl) (hplain:(backTo cpos (starEach [] X.env)).any (·.1)=false:=by rfl) :
  DE X (.Call (.Attribute o "append" apos) [e] [] cpos) (lp to te):=by
 obtain⟨t1,p1,l1⟩:=ho
 obtain⟨t2,p2,l2⟩:=ha
 refine⟨_,AN plainAttrs_list PySem.F.slot_list_append PySem.F.type_list_append qN p1 (iK p2 nX hs) hbase hfew hline hs hplain,fun O H ρ U Qd Q S h k=>?_⟩
 refine l1 O H ρ U _ _ S h fun x ux Y H1 e1 S1 rx h1=>?_
 cases x with
 |m l=>
  obtain⟨rfl,ds,hm⟩:=id rx
  obtain⟨us,hl,rl⟩:=S1.mu l ds hm
  refine⟨.inl ⟨rfl,us,SqL.of hl⟩,?_⟩
  refine l2 O H1 ρ Y _ _ S1 h1 fun y uy ac H2 e2 S2 ry h2=>?_
  obtain⟨_,ds2,hm2⟩:=rx.ext S1.mu e2
  obtain⟨us2,hl2,rl2⟩:=S2.mu l ds2 hm2
  rw[hm2] at h2
  cases y with
  |v d=>
   have h3:ds2.length<1000/\Qd (.v .none) (aD ac l (ds2++[d])):=h2
   refine⟨l,us2,uy,rfl,rfl,hl2,by rw[<- rl2.length];exact dI (Nat.le_of_lt h3.1),?_⟩
   have ex:Ext X.K ac H2 (aD ac l (ds2++[d])) (upd H2 l (.lst (us2++[uy]))):=eU hm2
   exact k (.v .none) .non _ _ (e1.trans (e2.trans ex)) ⟨S2.mu.set hm2 (rl2.append (.cons ry .nil)),S2.rho.ext S2.mu ex⟩ Rp.none h3.2
  |m _=>exact h2.elim
  |s _=>exact h2.elim
  |o _=>exact h2.elim
  |b _=>exact h2.elim
  |q _=>exact h2.elim
 |v d=>exact h1.elim
 |s ns=>exact h1.elim
 |o _=>exact h1.elim
 |b _=>exact h1.elim
 |q _=>exact h1.elim
noncomputable def Dj(to te:DTE):DTE:=fun ρ U Q=>to ρ U fun x Y=>match x with
 |.m l=>te ρ Y fun y ac=>(match y,ac l with
  |.v (.list ys),some xs=>xs.length+ys.length<=1000/\Q (.v .none) (aD ac l (xs++ys))
  |_,_=>False)
 |_=>False
theorem yC(ho:DE X o to)(ha:DE X e te)(hbase:attributeBase o "extend" X.env (eval o X.env)=eval o X.env:=by rfl)
  (hfew:((backTo cpos (starEach [e] X.env)).all (fun x=>!x.1)&&(backToKw cpos (keywordEach [] X.env)).all (fun x=>x.1.isSome)
   && decide ([e].length+([]:List Keyword).length+(if ([]:List Keyword).isEmpty then 0 else 1)<30))=true:=by rfl)
  (hline:(apos.endLine==cpos.line)=true:=by rfl) (hs:starEach [e] X.env=(false,eval e X.env)::starEach [] X.env:=by rfl) (hplain:(backTo cpos (starEach [] X.env)).any (·.1)=false:=by rfl) :
  DE X (.Call (.Attribute o "extend" apos) [e] [] cpos) (Dj to te):=by
 obtain⟨t1,p1,l1⟩:=ho
 obtain⟨t2,p2,l2⟩:=ha
 refine⟨_,AN plainAttrs_list PySem.F.slot_list_extend PySem.F.type_list_extend zx p1 (iK p2 nX hs) hbase hfew hline hs hplain,fun O H ρ U Qd Q S h k=>?_⟩
 refine l1 O H ρ U _ _ S h fun x ux Y H1 e1 S1 rx h1=>?_
 cases x with
 |m l=>
  obtain⟨rfl,ds,hm⟩:=id rx
  obtain⟨us,hl,rl⟩:=S1.mu l ds hm
  refine⟨.inl ⟨rfl,us,SqL.of hl⟩,?_⟩
  refine l2 O H1 ρ Y _ _ S1 h1 fun y uy ac H2 e2 S2 ry h2=>?_
  obtain⟨_,ds2,hm2⟩:=rx.ext S1.mu e2
  obtain⟨us2,hl2,rl2⟩:=S2.mu l ds2 hm2
  rw[hm2] at h2
  cases y with
  |v d=>
   cases d with
   |list ys=>
    have h3:ds2.length+ys.length<=1000/\Qd (.v .none) (aD ac l (ds2++ys)):=h2
    cases ry with
    |@list b ws _ hb hn rb=>
     refine⟨l,b,us2,ws,rfl,rfl,hl2,hb,tJ (by rw[<- rl2.length,<- rb.length];exact h3.1),?_⟩
     have ex:Ext X.K ac H2 (aD ac l (ds2++ys)) (upd H2 l (.lst (us2++ws))):=eU hm2
     exact k (.v .none) .non _ _ (e1.trans (e2.trans ex)) ⟨S2.mu.set hm2 (rl2.append rb),S2.rho.ext S2.mu ex⟩ Rp.none h3.2
   |_=>exact h2.elim
  |m _=>exact h2.elim
  |s _=>exact h2.elim
  |o _=>exact h2.elim
  |b _=>exact h2.elim
  |q _=>exact h2.elim
 |v d=>exact h1.elim
 |s ns=>exact h1.elim
 |o _=>exact h1.elim
 |b _=>exact h1.elim
 |q _=>exact h1.elim
noncomputable def zy(to:DTE):DTE:=fun ρ U Q=>to ρ U fun x Y=>match x with
 |.v (.int i)=>Q (.v (.int (Builtin.Int.intBits i:Nat))) Y
 |_=>False
theorem Dp:MtR X "int.bit_length" (fun x xs H Q=>∃i,x = .int i/\xs=[]/\Q (.int (Builtin.Int.intBits i:Nat)) H):=by
 intro pins s O H x xs v us Q I rx rv h
 obtain⟨i,rfl,rfl,q⟩:=h
 obtain⟨t,rfl⟩:=rx
 cases rv
 exact call_int_bit_length ⟨.int _,H,I.tok _,⟨_,rfl⟩,q⟩
theorem DU(ho:DE X o to)(hbase:attributeBase o "bit_length" X.env (eval o X.env)=eval o X.env:=by rfl)(hline:(apos.endLine==cpos.line)=true:=by rfl):DE X (.Call (.Attribute o "bit_length" apos) [] [] cpos) (zy to):=by
 obtain⟨t1,p1,l1⟩:=ho
 refine⟨_,A1 PySem.F.plainAttrs_int PySem.F.slot_int_bit_length PySem.F.type_int_bit_length Dp p1 hbase hline,fun O H ρ U Qd Q S h k=>?_⟩
 refine l1 O H ρ U _ _ S h fun x ux Y H1 e1 S1 rx h1=>?_
 split at h1
 ·cases rx
  exact⟨rfl,_,rfl,rfl,k (.v _) _ Y H1 e1 S1 (Rp.int _) h1⟩
 ·exact h1.elim
end
section
variable {K:PySem.W.Frag}{U Z:Mu}{H:Hp}
mutual
theorem Rp.shrink{d:PyData}{u:V}(sub:∀a,Z a=none->U a=none):Rp K Z H d u->Rp K U H d u
 |.none=>.none
 |.bool b=>.bool b
 |.int i=>.int i
 |.str x=>.str x
 |.list h n r=>.list h (sub _ n) (RpL.shrink sub r)
 |.tuple h r=>.tuple h (RpL.shrink sub r)
theorem RpL.shrink{ds:List PyData}{us:List V}(sub:∀a,Z a=none->U a=none):RpL K Z H ds us->RpL K U H ds us
 |.nil=>.nil
 |.cons h r=>.cons (Rp.shrink sub h) (RpL.shrink sub r)
end
theorem oD.shrink{c:Box}{o:Obj}(sub:∀a,Z a=none->U a=none)(r:oD K Z H c o):oD K U H c o:=by
 cases c with
 |dict kvs=>
  obtain⟨h1,h2,es,ep,xs,h3,h4,h5,h6⟩:=r
  exact⟨h1,h2,es,ep,xs,h3,h4,h5,Paired.B5 h6 fun p q ⟨z1,z2,v,z3,z4⟩=>⟨z1,z2,v,Rp.shrink sub z3,z4⟩⟩
 |set ks=>exact r
end
theorem Jo{X:Cx}{e:Expr}{td:DTE}(h:∀(pins:List (Addr×Obj)) (s:Shared) (O:St) (H:Hp) (ρ:Rho) (U:Mu) (Qd:DK) (Q:VK),Inv X pins O H s->St0 X.K H ρ U O->td ρ U Qd ->
  (∀d u Z H',Ext X.K U H Z H'->St0 X.K H' ρ Z O->RpD X.K Z H' d u->Qd d Z->Q u H')->wpAny (model X.prog X.w) X.A (eval e X.env) (EP X pins O Q) X.xe s):DE X e td:=
 ⟨fun O H Q=>∃ρ U Qd,St0 X.K H ρ U O/\td ρ U Qd/\(∀d u Z H',Ext X.K U H Z H'->St0 X.K H' ρ Z O->RpD X.K Z H' d u->Qd d Z->Q u H'),
  fun pins s O H Q I ⟨ρ,U,Qd,S,q,k⟩=>h pins s O H ρ U Qd Q I S q k,fun O H ρ U Qd Q S q k=>⟨ρ,U,Qd,S,q,k⟩⟩
noncomputable def aC(X:Cx)(N':List Str)(scope:Scope)(cl:List (Str×Addr))(fp:List Addr)(ad:Shared)(am:Hp):Cx:=
 {X with N:=N',ce:=ad,H₀:=am,env:=compEnvC scope cl ad.heap.objs.size X.env,outer:=X.stack,stack:=X.stack,ex:=fp,fn:=fun _=>false,pn:=X.pn,xe:=fun _ _=>False}
noncomputable def Le:Rho->Rho->Prop
 |[],[]=>True
 |none::r,_::r'=>Le r r'
 |some d::r,some d'::r'=>d=d'/\Le r r'
 |_,_=>False
theorem Le.get:∀{ρ ap:Rho},Le ρ ap->ρ.length=ap.length/\∀(i:Nat) d,ρ[i]? = some (some d)->ap[i]? = some (some d)
 |[],[],_=>⟨rfl,fun _ _ h=>h⟩
 |none::r,x::r',h=>by
  obtain⟨h1,h2⟩:=Le.get (ρ:=r) (ap:=r') h
  refine⟨congrArg (· + 1) h1,fun i d e=>?_⟩
  cases i with
  |zero=>simp at e
  |succ j=>exact h2 j d (by simpa using e)
 |some d::r,some d'::r',h=>by
  obtain⟨rfl,h⟩:=h
  obtain⟨h1,h2⟩:=Le.get (ρ:=r) (ap:=r') h
  refine⟨congrArg (· + 1) h1,fun i d e=>?_⟩
  cases i with
  |zero=>simpa using e
  |succ j=>exact h2 j d (by simpa using e)
 |some d::r,none::r',h=>h.elim
 |[],_::_,h=>h.elim
 |none::_,[],h=>h.elim
 |some _::_,[],h=>h.elim
noncomputable def bZ{α:Type}(cap:List (Option Nat))(ρ:List (Option α)):List (Option α):=cap.map fun o=>o.bind fun j=>(ρ[j]?).join
noncomputable def fj(cap:List (Option Nat))(src:DTI)(g:DTG)(c:DTT)(elt:DTE):DTE:=fun ρ U Q=>src ρ U fun xs Y=>xs.length<=1000/\∃f:PyData->Option PyData,
 (∀x∈xs,∀Z:Mu,(∀a ds,Y a=some ds->Z a=some ds)->g (.v x) (bZ cap ρ) Z fun bv ac=>Le (bZ cap ρ) bv/\c bv ac fun b be=>
  if b=true then elt bv be fun d bn=>bn=Z/\(match d with|.v y=>f x=some y|_=>False) else be=Z/\f x=none)/\Q (.v (.list (xs.filterMap f))) Y
noncomputable def jJ(X:Cx)(ifs:List Expr)(c:DTT):Prop:=∀(pins:List (Addr×Obj)) (s:Shared) (O:St) (H:Hp) (ρ:Rho) (U:Mu) (Qd:Bool->Mu->Prop) (Q:Bool->Hp->Prop),Inv X pins O H s->St0 X.K H ρ U O->c ρ U Qd ->
 (∀b Z H',Ext X.K U H Z H'->St0 X.K H' ρ Z O->Qd b Z->Q b H') ->
 wpAny (model X.prog X.w) X.A (forIn ifs true fun c r=>if r=true then do let ok <- isTrue c X.env (eval c X.env);pure (ForInStep.yield ok) else pure (ForInStep.yield r)) (TP X pins O Q) X.xe s
noncomputable def aZ:DTT:=fun _ U Q=>Q true U
theorem Ay{X:Cx}:jJ X [] aZ:=fun pins s O H ρ U Qd Q I S h k=>wpAny_tests_nil ⟨H,I,k true U H .refl S h⟩
theorem Bq{X:Cx}{c:Expr}{tc:DTT}(h:DT X c tc):jJ X [c] tc:=by
 obtain⟨t,p,l⟩:=h
 exact fun pins s O H ρ U Qd Q I S h k=>wpAny_tests_one (p pins s O H _ I (l O H ρ U _ _ S h k))
theorem Un.after{fs ex:List Addr}{H H1:Hp}{h h1 h':Heap}(u:Un fs ex H H1 h h1)(k:∀b o,b<h.objs.size->h1.get? b=some o->h'.get? b=some o):Un fs ex H H1 h h':=
 ⟨fun b o e n hb hx=>k b o (Heap.lt_size e) (u.keep b o e n hb hx),fun b o e n hb hx=>let ⟨sl,q⟩:=u.slot b o e n hb hx;⟨sl,k b _ (Heap.lt_size e) q⟩,u.free,fun b o e hx=>let ⟨o',q⟩:=u.there b o e hx;⟨o',k b _ (Heap.lt_size e) q⟩,u.mC,u.lF,u.lK⟩
theorem tQ{α:Type}{cap:List (Option Nat)}{ρ:List (Option α)}{i:Nat}{d:α}(h:(bZ cap ρ)[i]? = some (some d)):∃j,cap[i]? = some (some j)/\ρ[j]? = some (some d):=by
 unfold bZ at h
 rw[getElem?_map] at h
 cases q:cap[i]? with
 |none=>rw[q] at h;cases h
 |some o=>
  rw[q] at h
  cases o with
  |none=>cases h
  |some j=>
   refine⟨j,rfl,?_⟩
   simp only[map_some,bind_some,Option.some.injEq] at h
   cases z:ρ[j]? with
   |none=>rw[z] at h;cases h
   |some y=>rw[z] at h;simp only[join_some] at h;rw[h]
theorem Ah{α:Type}{cap:List (Option Nat)}{ρ:List (Option α)}{i j:Nat}{d:α}(h:cap[i]? = some (some j))(e:ρ[j]? = some (some d)):(bZ cap ρ)[i]? = some (some d):=by
 unfold bZ
 rw[getElem?_map,h]
 simp[e]
theorem eT.cap{K:PySem.W.Frag}{U:Mu}{H:Hp}{ρ:Rho}{O:St}{cap:List (Option Nat)}(r:eT K U H ρ O):eT K U H (bZ cap ρ) (bZ cap O):=by
 refine⟨by unfold bZ;simp,fun i d e=>?_⟩
 obtain⟨j,h1,h2⟩:=tQ e
 obtain⟨u,h3,h4⟩:=r.2 j d h2
 exact⟨u,Ah h1 h3,h4⟩
theorem eT.le{K:PySem.W.Frag}{U:Mu}{H:Hp}{ρ ap:Rho}{O:St}(r:eT K U H ap O)(l:Le ρ ap):eT K U H ρ O:=
 ⟨l.get.1.trans r.1,fun i d e=>r.2 i d (l.get.2 i d e)⟩
theorem Cj{xs:List PyData}{f:PyData->Option PyData}{i:Nat}{d:PyData}(h:xs[i]? = some d):(xs.take (i+1)).filterMap f=(xs.take i).filterMap f++(f d).toList:=by
 obtain⟨hi,e⟩:=List.getElem?_eq_some_iff.mp h
 rw[List.take_succ_eq_append_getElem hi,List.filterMap_append,e]
 cases q:f d<;>simp[q]
section
variable {X:Cx}{a b c:Expr}{ta tb tc:DTE}{pos:Pos}
noncomputable def jX(r r':D->D->Mu->DK->Prop)(ta tb tc:DTE):DTE:=fun ρ U Q=>ta ρ U fun x Y=>tb ρ Y fun y ac=>r x y ac fun z be=>match z with
 |.v (.bool k)=>if k=true then tc ρ be fun w bn=>r' y w bn Q else Q (.v (.bool false)) be
 |_=>False
theorem zC{op op':CmpOp}{rr rr':R2}{r r':D->D->Mu->DK->Prop}(ho:OpR X (compareOp op) rr)(lo:cV X.K rr r)(ho':OpR X (compareOp op') rr')(lo':cV X.K rr' r')(ha:DE X a ta)(hb:DE X b tb)(hc:DE X c tc)
  (hm:lastMarks [op,op'] [b,c]=false:=by with_unfolding_all rfl):DE X (.Compare a [op,op'] [b,c] pos) (jX r r' ta tb tc):=by
 obtain⟨t1,p1,l1⟩:=ha
 obtain⟨t2,p2,l2⟩:=hb
 obtain⟨t3,p3,l3⟩:=hc
 refine⟨_,AB ho ho' p1 p2 p3 hm,fun O H ρ U Qd Q S h k=>?_⟩
 refine l1 O H ρ U _ _ S h fun x ux Y H1 e1 S1 rx h1=>?_
 refine l2 O H1 ρ Y _ _ S1 h1 fun y uy ac H2 e2 S2 ry h2=>?_
 refine lo x y ux uy H2 ac _ _ S2.mu (rx.ext S1.mu e2) ry h2 fun z uz be H3 e3 ok3 rz h3=>?_
 have S3:St0 X.K H3 ρ be O:=⟨ok3,S2.rho.ext S2.mu e3⟩
 split at h3
 ·rename_i kk
  cases rz
  refine⟨kk,rfl,?_⟩
  cases kk with
  |true=>
   refine vf ?_
   refine l3 O H3 ρ be _ _ S3 (by simpa using h3) fun w uw bn H4 e4 S4 rw' h4=>?_
   exact lo' y w uy uw H4 bn _ _ S4.mu ((ry.ext S2.mu e3).ext S3.mu e4) rw' h4 fun d u Z H' e5 ok r q=>k d u Z H' (e1.trans (e2.trans (e3.trans (e4.trans e5)))) ⟨ok,S4.rho.ext S4.mu e5⟩ r q
  |false=>exact uP (k (.v (.bool false)) _ be H3 (e1.trans (e2.trans e3)) S3 (Rp.bool false) (by simpa using h3))
 ·exact h3.elim
end
theorem gS{α:Type}{x:α}{xs:List α}:atI (x::xs) 0=some x:=by unfold atI ixN;simp
theorem ji{α:Type}{x y:α}{xs:List α}:atI (x::y::xs) 1=some y:=by
 have h:=c9 (xs:=x::y::xs) (j:=1) (v:=y) rfl
 exact h
theorem j9{α:Type}{x y z:α}{xs:List α}:atI (x::y::z::xs) 2=some z:=by
 have h:=c9 (xs:=x::y::z::xs) (j:=2) (v:=z) rfl
 exact h
theorem lY{α:Type}{x y z u:α}{xs:List α}:atI (x::y::z::u::xs) 3=some u:=by
 have h:=c9 (xs:=x::y::z::u::xs) (j:=3) (v:=u) rfl
 exact h
noncomputable def ip:D->D->Mu->DK->Prop:=fun x y U Q=>match x,y with
 |.v (.int i),.v (.int j)=>Q (.v (.int (i+j))) U
 |.v (.tuple xs),.v (.tuple ys)=>xs.length+ys.length<=1000/\Q (.v (.tuple (xs++ys))) U
 |_,_=>xN x y U Q
theorem FE{K:PySem.W.Frag}:cV K (fun x y H Q=>(rI0 fun i j=>.int (i+j)) x y H Q\/((vE K) x y H Q\/GV x y H Q)) ip:=by
 intro x y ux uy H U Qd Q ok rx ry h k
 unfold ip at h
 split at h
 ·exact .inl (ye (K:=K) (gd:=fun i j=>.int (i+j)) (fun _ _ _ _=>.int _) _ _ ux uy H U Qd Q ok rx ry h k)
 ·exact .inr (.inl (BJ _ _ ux uy H U Qd Q ok rx ry h k))
 ·exact .inr (.inr (GU _ _ ux uy H U Qd Q ok rx ry h k))
theorem C2{X:Cx}{a b:Expr}{ta tb:DTE}{pos:Pos}(ha:DE X a ta)(hb:DE X b tb):DE X (.BinOp a .Add b pos) (dOp ip ta tb):=l4 (AD.or (A4.or E6)) FE ha hb
section
variable {ρ:Rho}{U:Mu}{Q:DK}{QT:Bool->Mu->Prop}{QA:List D->Mu->Prop}{QG:Rho->Mu->Prop}{QI:List PyData->Mu->Prop}{QO:Option Int->Mu->Prop}{Dd:gJ}{ta tb tc:DTE}{t u:DTT}{tA:DTA}{s1 s2:DTS}{i j:Int}{x y:PyData}{xs ys:List PyData}{d e:D}
noncomputable def jH:DTS:=fun _ _ _=>False
theorem AR{X:Cx}{st:Stmt}:DS X st jH:=⟨fun _ _ _=>False,fun _ _ _ _ _ _ h=>h.elim,fun _ _ _ _ _ _ _ h=>h.elim⟩
theorem cT{o:Rho}:ab 0 (some d::o) U Q=Q d U:=propext Iff.rfl
theorem cP{a}{o:Rho}:ab 1 (a::some d::o) U Q=Q d U:=propext Iff.rfl
theorem c8{a b}{o:Rho}:ab 2 (a::b::some d::o) U Q=Q d U:=propext Iff.rfl
theorem fQ{a b c}{o:Rho}:ab 3 (a::b::c::some d::o) U Q=Q d U:=propext Iff.rfl
theorem gE{a b c f}{o:Rho}:ab 4 (a::b::c::f::some d::o) U Q=Q d U:=propext Iff.rfl
theorem jq{a b c f g}{o:Rho}:ab 5 (a::b::c::f::g::some d::o) U Q=Q d U:=propext Iff.rfl
theorem jB{a b c f g h}{o:Rho}:ab 6 (a::b::c::f::g::h::some d::o) U Q=Q d U:=propext Iff.rfl
theorem jv{a b c f g h k}{o:Rho}:ab 7 (a::b::c::f::g::h::k::some d::o) U Q=Q d U:=propext Iff.rfl
theorem jN{a b c f g h k l}{o:Rho}:ab 8 (a::b::c::f::g::h::k::l::some d::o) U Q=Q d U:=propext Iff.rfl
theorem jC{a b c f g h k l m}{o:Rho}:ab 9 (a::b::c::f::g::h::k::l::m::some d::o) U Q=Q d U:=propext Iff.rfl
theorem gh{a b c f g h k l m n}{o:Rho}:ab 10 (a::b::c::f::g::h::k::l::m::n::some d::o) U Q=Q d U:=propext Iff.rfl
theorem q_c:dC x ρ U Q=Q (.v x) U:=propext Iff.rfl
theorem z9{r}:dOp r ta tb ρ U Q=ta ρ U fun x Y=>tb ρ Y fun y ac=>r x y ac Q:=propext Iff.rfl
theorem q_B:dB ta ρ U QT=ta ρ U fun d Y=>match d with|.v (.bool k)=>QT k Y|_=>False:=propext Iff.rfl
theorem vZ{C:Int->Int->Prop}{g:Int->Int->PyData}:rII C g (.v (.int i)) (.v (.int j)) U Q=(C i j/\Q (.v (g i j)) U):=propext Iff.rfl
theorem nH{g:Int->Int->PyData}:qj g (.v (.int i)) (.v (.int j)) U Q=Q (.v (g i j)) U:=propext Iff.rfl
theorem n9:sF ta ρ U Q=ta ρ U fun x Y=>match x with|.v (.int i)=>Q (.v (.int (-i))) Y|_=>False:=propext Iff.rfl
theorem n8:gI t u ρ U QT=t ρ U fun c Y=>if c=true then u ρ Y QT else QT false Y:=propext Iff.rfl
theorem tV:du t u ρ U QT=t ρ U fun c Y=>if c=true then QT true Y else u ρ Y QT:=propext Iff.rfl
theorem jM:cx t ρ U QT=t ρ U fun c Y=>QT (!c) Y:=propext Iff.rfl
theorem pE:cL ta tb ρ U Q=ta ρ U fun x Y=>match x with|.v (.bool c)=>if c=true then tb ρ Y Q else Q (.v (.bool false)) Y|_=>False:=propext Iff.rfl
theorem jF:x6 ta ρ U Q=ta ρ U fun x Y=>match x with|.v (.bool c)=>Q (.v (.bool (!c))) Y|_=>False:=propext Iff.rfl
theorem zS:dIf t ta tb ρ U Q=t ρ U fun c Y=>if c=true then ta ρ Y Q else tb ρ Y Q:=propext Iff.rfl
theorem dR:af ρ U QA=QA [] U:=propext Iff.rfl
theorem cI:aa ta tA ρ U QA=ta ρ U fun x Y=>tA ρ Y fun xs ac=>QA (x::xs) ac:=propext Iff.rfl
theorem oF:aT tA ρ U Q=tA ρ U fun ds Y=>match bj ds with|some xs=>Q (.v (.tuple xs)) Y|none=>False:=propext Iff.rfl
theorem pD:cU tA ρ U Q=tA ρ U fun ds Y=>match bj ds with|some xs=>Q (.v (.list xs)) Y|none=>False:=propext Iff.rfl
theorem jG:i4 tA ρ U Q=tA ρ U fun ds Y=>match bj ds with|some xs=>∀p,Y p=none->Q (.m p) (aD Y p xs)|none=>False:=propext Iff.rfl
theorem pC:bj []=some []:=by rw[bj]
theorem nD{r:List D}:bj (.v x::r)=(bj r).map (x::·):=by rw[bj]
theorem zH{neg:Bool}:aJ neg (.v x) (.v y) U Q=(SeqAt.shaped x=true/\SeqAt.shaped y=true/\Q (.v (.bool (neg ^^ PyData.eqv x y))) U):=propext Iff.rfl
theorem oh{neg:Bool}:aJ neg (.v (.int i)) (.v (.int j)) U Q=Q (.v (.bool (neg ^^ decide (i=j)))) U:=by
 have e:PyData.eqv (.int i) (.int j)=decide (i=j):=by simp[PyData.eqv];rfl
 rw[zH,e]
 exact propext ⟨fun h=>h.2.2,fun h=>⟨rfl,rfl,h⟩⟩
theorem nK{neg:Bool}:aJ neg (.v (.tuple xs)) (.v (.tuple ys)) U Q=(SeqAt.shaped (.tuple xs)=true/\SeqAt.shaped (.tuple ys)=true/\Q (.v (.bool (neg ^^ PyData.eqv (.tuple xs) (.tuple ys)))) U):=propext Iff.rfl
theorem pb{neg:Bool}:aJ neg (.v (.list xs)) (.v (.list ys)) U Q=(SeqAt.shaped (.list xs)=true/\SeqAt.shaped (.list ys)=true/\Q (.v (.bool (neg ^^ PyData.eqv (.list xs) (.list ys)))) U):=propext Iff.rfl
theorem nc{neg a b:Bool}:aJ neg (.v (.bool a)) (.v (.bool b)) U Q=Q (.v (.bool (neg ^^ (a==b)))) U:=by
 have e:PyData.eqv (.bool a) (.bool b)=(a==b):=by cases a<;>cases b<;>simp[PyData.eqv]<;>rfl
 rw[zH,e]
 exact propext ⟨fun h=>h.2.2,fun h=>⟨rfl,rfl,h⟩⟩
theorem oo{neg:Bool}:vS neg (.v x) (.v (.list ys)) U Q=(PyData.canLayAll0 ys=true/\x.canLay0=true/\PyData.depth x<=60/\Q (.v (.bool (neg ^^ ys.any fun b=>PyData.eqv b x))) U):=propext Iff.rfl
theorem ir:ai (.v (.list xs)) (.v (.int i)) U Q=(match atI xs i with|some d=>Q (.v d) U|none=>False):=propext Iff.rfl
theorem gL:ai (.v (.tuple xs)) (.v (.int i)) U Q=(match atI xs i with|some d=>Q (.v d) U|none=>False):=propext Iff.rfl
theorem nI{l:Addr}:ai (.m l) (.v (.int i)) U Q=(match U l with|some xs=>(match atI xs i with|some d=>Q (.v d) U|none=>False)|none=>False):=propext Iff.rfl
theorem ou{ns:List Int}:ai (.s ns) (.v (.int i)) U Q=(match atI ns i with|some d=>Q (.v (.int d)) U|none=>False):=propext Iff.rfl
theorem fS:ai (.v (.list (x::xs))) (.v (.int 0)) U Q=Q (.v x) U:=by rw[ir,gS]
theorem iB:ai (.v (.tuple (x::xs))) (.v (.int 0)) U Q=Q (.v x) U:=by rw[gL,gS]
theorem jI{z}:ai (.v (.list (z::x::xs))) (.v (.int 1)) U Q=Q (.v x) U:=by rw[ir,ji]
theorem gm{z}:ai (.v (.tuple (z::x::xs))) (.v (.int 1)) U Q=Q (.v x) U:=by rw[gL,ji]
theorem jw{z w}:ai (.v (.list (z::w::x::xs))) (.v (.int 2)) U Q=Q (.v x) U:=by rw[ir,j9]
theorem ib{z w}:ai (.v (.tuple (z::w::x::xs))) (.v (.int 2)) U Q=Q (.v x) U:=by rw[gL,j9]
theorem jQ{z w v}:ai (.v (.tuple (z::w::v::x::xs))) (.v (.int 3)) U Q=Q (.v x) U:=by rw[gL,lY]
theorem m8:xN d e U Q=(match fH U d,fH U e with|some xs,some ys=>xs.length+ys.length<=1000/\Q (.v (.list (xs++ys))) U|_,_=>False):=propext Iff.rfl
theorem jt:ip (.v (.tuple xs)) (.v (.tuple ys)) U Q=(xs.length+ys.length<=1000/\Q (.v (.tuple (xs++ys))) U):=propext Iff.rfl
theorem jz:ip (.v (.list xs)) (.v (.list ys)) U Q=(xs.length+ys.length<=1000/\Q (.v (.list (xs++ys))) U):=propext Iff.rfl
theorem vD{tl th:DTO}:dSl ta tl th ρ U Q=ta ρ U fun x Y=>tl ρ Y fun l ac=>th ρ ac fun u be=>Bu x l u be Q:=propext Iff.rfl
theorem d9:fW ρ U QO=QO none U:=propext Iff.rfl
theorem jP:j3 ta ρ U QO=ta ρ U fun x Y=>match x with|.v (.int i)=>QO (some i) Y|_=>False:=propext Iff.rfl
theorem n6{lo hi:Option Int}:Bu (.v (.tuple xs)) lo hi U Q=Q (.v (.tuple (jn xs lo hi))) U:=propext Iff.rfl
theorem o8{lo hi:Option Int}:Bu (.v (.list xs)) lo hi U Q=Q (.v (.list (jn xs lo hi))) U:=propext Iff.rfl
theorem yv{rd}:dCB rd tA ρ U Q=tA ρ U fun ds Y=>rd ds Y Q:=propext Iff.rfl
theorem jr:aX [.v (.list ys)] U Q=Q (.v (.int (ys.length:Nat))) U:=propext Iff.rfl
theorem jV:aX [.v (.tuple ys)] U Q=Q (.v (.int (ys.length:Nat))) U:=propext Iff.rfl
theorem jA{ns:List Int}:aX [.s ns] U Q=Q (.v (.int (ns.length:Nat))) U:=propext Iff.rfl
theorem gQ{l:Addr}:aX [.m l] U Q=(match U l with|some ys=>Q (.v (.int (ys.length:Nat))) U|none=>False):=propext Iff.rfl
theorem m9:kf [.v (.int i)] U Q=Q (.v (.int (i.natAbs:Nat))) U:=propext Iff.rfl
theorem wg{g:Int->Int->Int}:uB g [.v (.int i),.v (.int j)] U Q=Q (.v (.int (g i j))) U:=propext Iff.rfl
theorem jD{k:Bool}:jg [.v (.bool k)] U Q=Q (.v (.int (if k then 1 else 0))) U:=propext Iff.rfl
theorem gA:ll [.v (.tuple ys)] U Q=Q (.v (.list ys)) U:=propext Iff.rfl
theorem oR:lU [.v (.list ys)] U Q=(match bq ys with|some bs=>Q (.v (.bool (bs.all id))) U|none=>False):=propext Iff.rfl
theorem nA{T:String}:lA T ta ρ U Q=ta ρ U fun x Y=>match x with|.v d=>Q (.v (.bool (isT T d))) Y|_=>False:=propext Iff.rfl
theorem bJ{n:Nat}:ae n d ρ U QG=QG (ρ.set n (some d)) U:=propext Iff.rfl
theorem iI:cw [] ρ U QG=QG ρ U:=propext Iff.rfl
theorem eW{g:DTG}{gs:lC}:ay g gs (x::xs) ρ U QG=g (.v x) ρ U fun j' Y=>gs xs j' Y QG:=propext Iff.rfl
theorem hV{n:Nat}{gs:lC}:cC n gs (.v (.tuple xs)) ρ U QG=(xs.length=n/\gs xs ρ U QG):=propext Iff.rfl
theorem ju:xB ta tb d ρ U QG=ta ρ U fun o Y=>tb ρ Y fun i ac=>match o,i,d with
 |.m l,.v (.int k),.v x=>(match ac l with
  |some xs=>(match ixN xs.length k with
   |some j=>QG ρ (aD ac l (xs.set j x))
   |none=>False)
  |none=>False)
 |_,_,_=>False:=propext Iff.rfl
theorem vm{g:DTG}:aq ta g Dd ρ U=ta ρ U fun d Y=>g d ρ Y Dd.nx:=propext Iff.rfl
theorem n5{i j:Nat}:oi i j tA Dd ρ U=tA ρ U fun ds Y=>match ds with|[v,w]=>Dd.nx ((ρ.set i (some v)).set j (some w)) Y|_=>False:=propext Iff.rfl
theorem js:aE Dd ρ U=Dd.nx ρ U:=propext Iff.rfl
theorem jd:aj s1 s2 Dd ρ U=s1 {Dd with nx:=s2 Dd} ρ U:=propext Iff.rfl
theorem nO:aB ta Dd ρ U=ta ρ U Dd.rt:=propext Iff.rfl
theorem jU:dj ta Dd ρ U=ta ρ U fun _ Y=>Dd.nx ρ Y:=propext Iff.rfl
theorem uk:aK t s1 s2 Dd ρ U=t ρ U fun b Y=>if b=true then s1 Dd ρ Y else s2 Dd ρ Y:=propext Iff.rfl
theorem gv:jH Dd ρ U=False:=propext Iff.rfl
theorem dz{dsp:DSp}:ag dsp tA ρ U Q=tA ρ U fun ds Y=>dsp ds Y Q:=propext Iff.rfl
theorem nJ:lp ta tb ρ U Q=ta ρ U fun x Y=>match x with
 |.m l=>tb ρ Y fun y ac=>(match y,ac l with
  |.v d,some xs=>xs.length<1000/\Q (.v .none) (aD ac l (xs++[d]))
  |_,_=>False)
 |_=>False:=propext Iff.rfl
theorem nq:Dj ta tb ρ U Q=ta ρ U fun x Y=>match x with
 |.m l=>tb ρ Y fun y ac=>(match y,ac l with
  |.v (.list ys),some xs=>xs.length+ys.length<=1000/\Q (.v .none) (aD ac l (xs++ys))
  |_,_=>False)
 |_=>False:=propext Iff.rfl
theorem jL:zy ta ρ U Q=ta ρ U fun x Y=>match x with|.v (.int i)=>Q (.v (.int (Builtin.Int.intBits i:Nat))) Y|_=>False:=propext Iff.rfl
theorem cJ:aZ ρ U QT=QT true U:=propext Iff.rfl
theorem di:a9 ta ρ U QI=ta ρ U fun d Y=>match d with|.v (.list xs)=>QI xs Y|_=>False:=propext Iff.rfl
theorem gq:fw ta ρ U QI=ta ρ U fun d Y=>match d with|.v (.tuple xs)=>QI xs Y|_=>False:=propext Iff.rfl
theorem dh:dm tA ρ U QI=tA ρ U fun ds Y=>match ds with|[.v (.int j)]=>(-(2 ^ 62)<=j/\j<2 ^ 62)/\QI (hR 0 j.toNat) Y|_=>False:=propext Iff.rfl
theorem dS:vW tA ρ U QI=tA ρ U fun ds Y=>match ds with|[.v (.int i),.v (.int j)]=>(-(2 ^ 62)<=i/\i<2 ^ 62/\-(2 ^ 62)<=j/\j<2 ^ 62)/\QI (hR i (j-i).toNat) Y|_=>False:=propext Iff.rfl
theorem fK{src:DTI}{g:DTG}:ik src g s1 Dd ρ U=src ρ U fun xs Y=>∃Pv:Nat->Rho->Mu->Prop,Pv 0 ρ Y /\
 (∀i x ap Z,xs[i]? = some x->Pv i ap Z->g (.v x) ap Z fun bv ac=>s1 {Dd with nx:=Pv (i+1),ct:=Pv (i+1),bk:=Dd.nx} bv ac)/\(∀ap Z,Pv xs.length ap Z->Dd.nx ap Z):=propext Iff.rfl
theorem fV{cap:List (Option Nat)}{src:DTI}{g:DTG}:fj cap src g t ta ρ U Q=src ρ U fun xs Y=>xs.length<=1000/\∃f:PyData->Option PyData,
 (∀x∈xs,∀Z:Mu,(∀a ds,Y a=some ds->Z a=some ds)->g (.v x) (bZ cap ρ) Z fun bv ac=>Le (bZ cap ρ) bv/\t bv ac fun b be=>
  if b=true then ta bv be fun d bn=>bn=Z/\(match d with|.v y=>f x=some y|_=>False) else be=Z/\f x=none)/\Q (.v (.list (xs.filterMap f))) Y:=propext Iff.rfl
theorem cF{α:Type}{r:List (Option α)}:bZ [] r=[]:=rfl
theorem cK{α:Type}{o:Option Nat}{c:List (Option Nat)}{r:List (Option α)}:bZ (o::c) r=(o.bind fun j=>(r[j]?).join)::bZ c r:=rfl
theorem dJ:Le [] []=True:=propext ⟨fun _=>trivial,fun h=>h⟩
theorem ey{r r':Rho}{o:Option D}:Le (none::r) (o::r')=Le r r':=propext Iff.rfl
theorem eN{r r':Rho}{d d':D}:Le (some d::r) (some d'::r')=(d=d'/\Le r r'):=propext Iff.rfl
theorem eQ{α:Type}(p:α->Bool):∀xs:List α,bq (xs.map fun x=>PyData.bool (p x))=some (xs.map p)
 |[]=>rfl
 |x::r=>by rw[map_cons,bq,eQ p r];rfl
theorem dF{α β:Type}(p:α->β):∀xs:List α,xs.filterMap (fun x=>some (p x))=xs.map p
 |[]=>rfl
 |x::r=>by rw[filterMap_cons,dF p r];rfl
theorem xu:jE t s1 Dd ρ U=(∃W:Nat->Rho->Mu->Prop,(∃m,W m ρ U)/\∀m ρ U,W m ρ U ->
 t ρ U fun b Y=>if b=true then s1 {Dd with nx:=fun ap Z=>∃m',m'<m/\W m' ap Z,ct:=fun ap Z=>∃m',m'<m/\W m' ap Z,bk:=Dd.nx} ρ Y else Dd.nx ρ Y):=propext Iff.rfl
end
theorem AX{α β:Type}[BEq α][LawfulBEq α]{x:α}{k:β}:∀{l:List (α×β)},l.lookup x=some k->(x,k)∈l
 |[],h=>by cases h
 |(y,j)::r,h=>by
  rw[lookup_cons] at h
  cases e:x==y with
  |true=>
   rw[e] at h
   simp only[Option.some.injEq] at h
   have:x=y:=eq_of_beq e
   subst this h
   exact mem_cons_self
  |false=>
   rw[e] at h
   exact mem_cons_of_mem _ (AX h)
noncomputable def cfK:NameKind->Bool
 |.cell=>true
 |.free=>true
 |_=>false
theorem Hs{names:List (Str×NameKind)}{cl:List (Str×Addr)}(h:(names.all fun y=>!(cfK y.2) || (cl.lookup y.1).isSome)=true)(x:Str)(hx:names.lookup x=some .cell\/names.lookup x=some .free):∃a,cl.lookup x=some a:=by
 rw[all_eq_true] at h
 have key:∀k,cfK k=true->names.lookup x=some k->∃a,cl.lookup x=some a:=fun k hk e=>by
  have q:=h _ (AX e)
  simp only[hk,Bool.not_true,Bool.false_or] at q
  exact Option.isSome_iff_exists.mp q
 rcases hx with e|e
 ·exact key _ rfl e
 ·exact key _ rfl e
noncomputable def Bi(X:Cx)(sc:Scope):List (Option Nat)->List Str->Prop
 |none::c,_::n=>Bi X sc c n
 |some j::c,x::n=>(X.N[j]? = some x/\Vis X.env.scope x/\X.env.kindOf x≠some .local/\((relabel sc X.env).names.lookup x=some .cell\/(relabel sc X.env).names.lookup x=some .free))/\Bi X sc c n
 |_,_=>True
theorem vX{X:Cx}{sc:Scope}:∀{c:List (Option Nat)} {n:List Str},Bi X sc c n->∀(i j:Nat) (x:Str),c[i]? = some (some j)->n[i]? = some x ->
  X.N[j]? = some x/\Vis X.env.scope x/\X.env.kindOf x≠some .local/\((relabel sc X.env).names.lookup x=some .cell\/(relabel sc X.env).names.lookup x=some .free)
 |[],_,_,i,j,x,h,_=>by simp at h
 |_::_,[],_,i,j,x,_,h=>by simp at h
 |none::c,y::n,k,0,j,x,h,_=>by simp at h
 |none::c,y::n,k,i+1,j,x,h,g=>vX (c:=c) (n:=n) k i j x (by simpa using h) (by simpa using g)
 |some l::c,y::n,k,0,j,x,h,g=>by
  simp only[getElem?_cons_zero,Option.some.injEq] at h g
  subst h g
  exact k.1
 |some l::c,y::n,k,i+1,j,x,h,g=>vX (c:=c) (n:=n) k.2 i j x (by simpa using h) (by simpa using g)
theorem Lj{X:Cx}{sc:Scope}{j:Nat}{x:Str}(h1:X.N[j]? = some x:=by rfl)(h2:Vis X.env.scope x:=by first|exact Or.inl rfl|exact Or.inr (Or.inl rfl)|exact Or.inr (Or.inr rfl))(h3:X.env.kindOf x≠some .local:=by first|(intro z;cases z)|exact (fun z=>nomatch z))
  (h4:(relabel sc X.env).names.lookup x=some .cell\/(relabel sc X.env).names.lookup x=some .free:=by first|exact Or.inl rfl|exact Or.inr rfl):X.N[j]? = some x/\Vis X.env.scope x/\X.env.kindOf x≠some .local/\((relabel sc X.env).names.lookup x=some .cell\/(relabel sc X.env).names.lookup x=some .free):=⟨h1,h2,h3,h4⟩
noncomputable def dP(U:Mu)(p:Addr):Mu:=⟨fun b=>if b=p then none else U b,U.b⟩
theorem bO{U:Mu}{p b:Addr}(h:b≠p):dP U p b=U b:=if_neg h
theorem d8{U:Mu}{p:Addr}:dP U p p=none:=if_pos rfl
noncomputable def aQ(cap:List (Option Nat))(src:DTI)(g:DTG)(c:DTT)(elt:DTE):DTE:=fun ρ U Q=>src ρ U fun xs Y=>xs.length<=1000/\∀p,Y p=none->∃Pv:Nat->List PyData->Mu->Prop,Pv 0 [] (aD Y p []) /\
 (∀i x acc Z,xs[i]? = some x->Z p=some acc->Pv i acc Z->g (.v x) (bZ cap ρ) Z fun bv ac=>Le (bZ cap ρ) bv/\c bv ac fun b be=>
  if b=true then elt bv be fun d bn=>bn p=some acc/\(match d with|.v y=>Pv (i+1) (acc++[y]) (aD bn p (acc++[y]))|_=>False) else be p=some acc/\Pv (i+1) acc be) /\
 (∀acc Z,Pv xs.length acc Z->Z p=some acc->Q (.v (.list acc)) (dP Z p))
theorem ns_obj{h:Heap}{C:Addr}{m:Str->Option Value}(hn:h.Ns C m):∃o,h.get? C=some o/\∀v,o.data≠.cell v:=let ⟨o,es,ep,ho,hd,_⟩:=hn;⟨o,ho,fun v z=>by rw[hd] at z;cases z⟩
theorem DR{h h':Heap}{C:Addr}{m:Str->Option Value}(hn:h.Ns C m)(e:h'.get? C=h.get? C):h'.Ns C m:=let ⟨o,es,ep,ho,r⟩:=hn;⟨o,es,ep,e.trans ho,r⟩
theorem cp{cap:List (Option Nat)}{src:DTI}{g:DTG}{t:DTT}{ta:DTE}{ρ:Rho}{U:Mu}{Q:DK}:aQ cap src g t ta ρ U Q=src ρ U fun xs Y=>xs.length<=1000/\∀p,Y p=none->∃Pv:Nat->List PyData->Mu->Prop,Pv 0 [] (aD Y p []) /\
 (∀i x acc Z,xs[i]? = some x->Z p=some acc->Pv i acc Z->g (.v x) (bZ cap ρ) Z fun bv ac=>Le (bZ cap ρ) bv/\t bv ac fun b be=>
  if b=true then ta bv be fun d bn=>bn p=some acc/\(match d with|.v y=>Pv (i+1) (acc++[y]) (aD bn p (acc++[y]))|_=>False) else be p=some acc/\Pv (i+1) acc be) /\
 (∀acc Z,Pv xs.length acc Z->Z p=some acc->Q (.v (.list acc)) (dP Z p)):=propext Iff.rfl
theorem cY{U:Mu}{p:Addr}{ds:List PyData}(h:U p=none):dP (aD U p ds) p=U:=Mu.eq (fun b=>by
 by_cases e:b=p
 ·rw[e,d8,h]
 ·rw[bO e,ao e]) fun _=>rfl
theorem FV{xs:List PyData}{f:PyData->Option PyData}{i:Nat}{d:PyData}(h:xs[i]? = some d):(xs.take (i+1)).filterMap f=(xs.take i).filterMap f++(f d).toList:=Cj h
theorem Inv.vM{X:Cx}{pins:List (Addr×Obj)}{O:St}{H:Hp}{s:Shared}{h':Heap}{t':Nat}{ch:List Addr}{a:Addr}{o:HO}(I:Inv X pins O H s)(hc:∀b∈ch,pO X pins H b)
  (k:∀b u,b ∉ ch->s.heap.get? b=some u->h'.get? b=some u) (hp:s.heap.objs.size<=a) (new:dD X.prog X.w (upd H a o) h' a o):Inv X pins O (upd H a o) {s with heap:=h',toks:=t'}:=by
 have hn:=I.hok.fresh hp
 have nin:∀b u,H b=some u->b ∉ ch:=fun b u e z=>by rw[(hc b z).1] at e;cases e
 refine I.call (g':=s.gens) (d':=s.drawn) (t':=t') (ch:=ch) ?_ ?_ I.bare fun b hb=>?_
 ·exact⟨fun b u q _ _ x=>k b u x q,fun b u q _ _ x=>⟨u.slots,k b u x q⟩,fun b u q n _=>by rw[aH (ne_of_lt (lt_of_lt_of_le (Heap.lt_size q) hp))];exact n,fun b u q x=>⟨u,k b u x q⟩,
   fun b xs q=>by rw[aH (aI q hn)];exact q,fun b u xs q=>by rw[aH (aI q hn)];exact q,fun b ps q=>⟨#[],by rw[aH (aI q hn),q];simp⟩⟩
 ·intro b u e
  by_cases hb:b=a
  ·subst hb;rw[dO] at e;cases e;exact new
  ·rw[aH hb] at e
   refine (I.hok b u e).sr (fun c v hcv q=>k c v ?_ q) (fun c q=>by rw[aH (aI q hn)];exact q) fun c xs q=>by rw[aH (aI q hn)];exact q
   rcases hcv with z|z
   ·rw[z];exact nin b u e
   ·exact nin c _ z
 ·obtain⟨_,f1,f2,f3,f4,f5⟩:=hc b hb
  exact⟨f3,f1,f4,f5⟩
theorem Inv.DV{X:Cx}{pins:List (Addr×Obj)}{O:St}{H:Hp}{s:Shared}{h':Heap}{t':Nat}{ch:List Addr}(I:Inv X pins O H s)(hc:∀b∈ch,pO X pins H b)
  (k:∀b u,b ∉ ch->s.heap.get? b=some u->h'.get? b=some u):Inv X pins O H {s with heap:=h',toks:=t'}:=by
 have nin:∀b u,H b=some u->b ∉ ch:=fun b u e z=>by rw[(hc b z).1] at e;cases e
 refine I.call (g':=s.gens) (d':=s.drawn) (t':=t') (ch:=ch) ?_ ?_ I.bare fun b hb=>?_
 ·exact⟨fun b u q _ _ x=>k b u x q,fun b u q _ _ x=>⟨u.slots,k b u x q⟩,fun b u q n _=>n,fun b u q x=>⟨u,k b u x q⟩,fun b xs q=>q,fun b u xs q=>q,fun b ps q=>⟨#[],by rw[q];simp⟩⟩
 ·intro b u e
  refine (I.hok b u e).sr (fun c v hcv q=>k c v ?_ q) (fun c q=>q) fun c xs q=>q
  rcases hcv with z|z
  ·rw[z];exact nin b u e
  ·exact nin c _ z
 ·obtain⟨_,f1,f2,f3,f4,f5⟩:=hc b hb
  exact⟨f3,f1,f4,f5⟩
section
variable {X:Cx}{es:List Expr}{x1:Nat}{tpos:Pos}
noncomputable def gj:List PyData->List PyData->List PyData
 |x::xs,y::ys=>.tuple [x,y]::gj xs ys
 |_,_=>[]
theorem uJ:∀{xs ys:List PyData} {i:Nat} {x y:PyData},xs[i]? = some x->ys[i]? = some y->(gj xs ys)[i]? = some (.tuple [x,y])
 |_::_,_::_,0,x,y,h,g=>by simp at h g;subst h g;rfl
 |_::xs,_::ys,i+1,x,y,h,g=>uJ (xs:=xs) (ys:=ys) (i:=i) (by simpa using h) (by simpa using g)
 |[],_,i,x,y,h,_=>by simp at h
 |_::_,[],i,x,y,_,h=>by simp at h
theorem kS:∀(xs ys:List PyData),(gj xs ys).length=min xs.length ys.length
 |[],_=>by simp[gj]
 |_::_,[]=>by simp[gj]
 |_::xs,_::ys=>by simp[gj,kS xs ys]
end
section
variable {X:Cx}{a b e:Expr}{es:List Expr}{ta tb te:DTE}{t:DTA}{p pos:Pos}
noncomputable def dG:List D->Mu->DK->Prop:=fun xs U Q=>match xs with
 |[.v (.list ys)]=>Q (.v (.tuple ys)) U
 |[.v (.tuple ys)]=>Q (.v (.tuple ys)) U
 |[.m l]=>(match U l with|some ys=>Q (.v (.tuple ys)) U|none=>False)
 |_=>False
theorem AZ{K:PySem.W.Frag}:fO K (fun xs H Q=>∃p ys,xs=[.ref p]/\((SqL K H p ys/\∀l,H l=none->Q (.ref l) (upd H l (.tup ys)))\/(SqT K H p ys/\Q (.ref p) H))) dG:=by
 intro xs us H U Qd Q ok rs h k
 unfold dG at h
 split at h
 ·cases rs with
  |cons r1 r2=>
   cases r2
   cases r1 with
   |list hs hn r=>exact⟨_,_,rfl,.inl ⟨SqL.of hs,fun l hl=>k (.v _) _ U _ (bK hl) (ok.new hl) (c6 ok r hl) h⟩⟩
 ·cases rs with
  |cons r1 r2=>
   cases r2
   cases id r1 with
   |tuple hs r=>exact⟨_,_,rfl,.inr ⟨hs,k (.v _) _ U H .refl ok r1 h⟩⟩
 ·cases rs with
  |cons r1 r2=>
   cases r2
   obtain⟨rfl,ds,hm⟩:=r1
   rw[hm] at h
   obtain⟨us,hl,r⟩:=ok _ ds hm
   exact⟨_,_,rfl,.inl ⟨SqL.of hl,fun l hl'=>k (.v _) _ U _ (bK hl') (ok.new hl') (c6 ok r hl') h⟩⟩
 ·exact h.elim
theorem AF(hg:Gl X "tuple")(hm:X.mg "tuple"=none)(ha:DA X (e::es) t)
  (he:starEach (e::es) X.env=(false,eval e X.env)::starEach es X.env:=by rfl) (hpl:(backTo pos (starEach es X.env)).any (·.1)=false:=by rfl):DE X (.Call (.Name "tuple" p) (e::es) [] pos) (dCB dG t):=
 kZ pR AZ hg hm PyProof.Rows.Boot.«tuple» ha ⋯ ⋯ he hpl
theorem eu{ys:List PyData}{U:Mu}{Q:DK}:dG [.v (.list ys)] U Q=Q (.v (.tuple ys)) U:=propext Iff.rfl
theorem eE{l:Addr}{U:Mu}{Q:DK}:dG [.m l] U Q=(match U l with|some ys=>Q (.v (.tuple ys)) U|none=>False):=propext Iff.rfl
end
section
variable {prog:Program}{w:World}{A:Around}{E:Value->Shared->Prop}{s:Shared}
theorem wC{it t:Addr}{i:Nat}{items:Array Value}{x:Value}{Q:Value->Shared->Prop}(hit:IsTupIter s.heap it t i)(ht:IsTup s.heap t items)(hx:items[i]? = some x)
  (k:∀h',IsTupIter h' it t (i+1)->Heap.SameBut it s.heap h'->Q x {s with heap:=h'}):wpAny (model prog w) A (Builtin.SmallTypes.nextOf (.ref it)) Q E s:=by
 obtain⟨o,ho,hc,hd⟩:=id hit
 obtain⟨ol,hol,_,nl,hdl⟩:=ht
 unfold Builtin.SmallTypes.nextOf
 refine wpAny_bind (wpAny_callSpecial?_slot (name:=Str.ofString "__next__") hit.typeIs slot_tupleiter_next (wpAny_call_entry slot_tupleiter_next hit.typeIs entry_tupleiter_next ?_ (args_tupleiter_next _)))
 show wpAny _ _ (field (.ref it) 0>>=_) _ _ s
 refine wpAny_bind (wpAny_field ho hd (x:=.ref t) rfl ?_)
 show wpAny _ _ (if (Value.ref t==Value.none)=true then _ else _) _ _ s
 rw[if_neg (show ¬ ((Value.ref t==Value.none)=true) from Bool.false_ne_true)]
 refine wpAny_bind (wpAny_field ho hd (x:=.int i 0) rfl (wpAny_bind (m:=seqItems? (.ref t)) (wpAny_seqItems hol hdl ?_)))
 simp only[Int.toNat_natCast,hx]
 refine wpAny_bind (wpAny_setField ho hd (by simp) (wpAny_pure ⟨x,rfl,wpAny_pure (k _ ⟨_,Heap.get?_update_self _ ho (Obj.isFreed_of_fields (Obj.data_mapFields hd _)),(Obj.cls_mapFields ..).trans hc,?_⟩ (Heap.SameBut.update ..))⟩))
 rw[Obj.data_mapFields hd]
 simp[rawInt]
theorem tK{it t:Addr}{i:Nat}{items:Array Value}{Q:Value->Shared->Prop}(hh:A.handled=none)(hit:IsTupIter s.heap it t i)(ht:IsTup s.heap t items)(hx:items[i]? = none)
  (k:∀h' e,Heap.ExtBut it s.heap h'->(∃o,h'.get? e=some o/\o.cls = .type "StopIteration")->E (.ref e) {s with heap:=h'}):wpAny (model prog w) A (Builtin.SmallTypes.nextOf (.ref it)) Q E s:=by
 obtain⟨o,ho,hc,hd⟩:=id hit
 obtain⟨ol,hol,_,nl,hdl⟩:=ht
 unfold Builtin.SmallTypes.nextOf
 refine wpAny_bind (wpAny_callSpecial?_slot (name:=Str.ofString "__next__") hit.typeIs slot_tupleiter_next (wpAny_call_entry slot_tupleiter_next hit.typeIs entry_tupleiter_next ?_ (args_tupleiter_next _)))
 show wpAny _ _ (field (.ref it) 0>>=_) _ _ s
 refine wpAny_bind (wpAny_field ho hd (x:=.ref t) rfl ?_)
 show wpAny _ _ (if (Value.ref t==Value.none)=true then _ else _) _ _ s
 rw[if_neg (show ¬ ((Value.ref t==Value.none)=true) from Bool.false_ne_true)]
 refine wpAny_bind (wpAny_field ho hd (x:=.int i 0) rfl (wpAny_bind (m:=seqItems? (.ref t)) (wpAny_seqItems hol hdl ?_)))
 simp only[Int.toNat_natCast,hx]
 refine wpAny_bind (wpAny_rule (wpAny_bind (wpAny_setField ho hd (by simp) ?_)))
 show wpAny _ _ (newExc (.type "StopIteration") []>>=_) _ _ _
 refine wpAny_bind ?_
 simp only[newExc,newTuple]
 refine wpAny_bind (wpAny_newObj_type ?_ (by size_fits))
 refine wpAny_bind (m:=firstArgMember _ _) (wpAny_of_eq (a:=Value.none) (by first|rfl|(simp only[firstArgMember];rfl)) ?_)
 refine wpAny_newObj_type ?_ (by size_fits)
 simp only[raiseNew]
 refine wpAny_bind (wpAny_handled ?_)
 first|rw[show A.in1.handled=none from hh]|rw[hh]
 refine wpAny_bind (wpAny_pure (wpAny_throw ?_))
 refine k _ _ (fun c o hc' e=>?_) ⟨_,Heap.get?_push_size _ rfl,rfl⟩
 exact Heap.get?_push_of_some _ (Heap.get?_push_of_some _ ((Heap.SameBut.update ..).extBut _ _ hc' e))
theorem Br{z TI TO i1 i2:Addr}{x y a b:Value}{st1 st2:Heap->Prop}{Q:Value->Shared->Prop}(TIz:TI≠z)(TOz:TO≠z)(i1z:i1≠z)(i2z:i2≠z)(TOi1:TO≠i1)(TOi2:TO≠i2)
  (hz:IsZip s.heap z TI TO .none) (hTI:IsPair s.heap TI (.ref i1) (.ref i2)) (hTO:IsPair s.heap TO a b)
  (n1:∀h,Heap.SameBut z s.heap h->∀(R:Value->Shared->Prop) (E':Value->Shared->Prop),(∀h',st1 h'->Heap.SameBut i1 h h'->R x {s with heap:=h'})->wpAny (model prog w) A (Builtin.SmallTypes.nextOf (.ref i1)) R E' {s with heap:=h})
  (n2:∀h h1,st1 h1->Heap.SameBut z s.heap h->Heap.SameBut i1 h h1->∀h2,Heap.SameBut TO h1 h2->∀(R:Value->Shared->Prop) (E':Value->Shared->Prop),(∀h',st2 h'->Heap.SameBut i2 h2 h'->R y {s with heap:=h'})->wpAny (model prog w) A (Builtin.SmallTypes.nextOf (.ref i2)) R E' {s with heap:=h2})
  (k:∀h1 h2 h3 h4 h',st1 h1->Heap.SameBut TO h1 h2->Heap.SameBut i2 h2 h3->st2 h3->Heap.SameBut TO h3 h4->(∀c o,c≠z->h4.get? c=some o->h'.get? c=some o)->IsZip h' z TI TO (rawInt s.heap.objs.size)->IsPair h' TO x y->IsPair h' s.heap.objs.size x y->h'.objs.size=s.heap.objs.size+1 ->
   (∀c o,c≠z->c≠TO->c≠i1->c≠i2->s.heap.get? c=some o->h'.get? c=some o)->Q (.ref s.heap.objs.size) {s with heap:=h'}) :
  wpAny (model prog w) A (Builtin.«zip.__next__» ⟨[.ref z],[]⟩) (fun fin s'=>∃v,fin = .done (.ret v)/\Q v s') E s:=by
 show wpAny _ _ (field (.ref z) 2>>=_) _ _ _
 refine wpAny_bind (wpAny_field hz rfl (x:=.bool false) rfl ?_)
 show wpAny _ _ (field (.ref z) 3>>=_) _ _ _
 refine wpAny_bind (wpAny_field hz rfl (x:=.ref TI) rfl (wpAny_bind (wpAny_seqItems hTI rfl ?_)))
 show wpAny _ _ (Builtin.SmallTypes.ownedTupleIsFree (.ref z)>>=_) _ _ _
 refine wpAny_bind ?_
 unfold Builtin.SmallTypes.ownedTupleIsFree
 refine wpAny_bind (wpAny_field hz rfl (x:=.none) rfl (wpAny_pure ?_))
 simp only[if_true]
 refine wpAny_bind (wpAny_rule (wpAny_bind (wpAny_field hz rfl (x:=.ref TO) rfl (wpAny_bind (wpAny_setField_rec hz (by simp) fun h1 z1 b1=>wpAny_bind ?_)))))
 simp only[List.zipIdx_cons,List.zipIdx_nil,List.forIn_cons,List.forIn_nil]
 refine wpAny_bind (wpAny_bind (wpAny_onRaise ?_))
 show wpAny _ _ (Builtin.SmallTypes.nextOf (.ref i1)>>=_) _ _ _
 refine wpAny_bind (n1 h1 b1 _ _ fun h2 s2 b2=>wpAny_pure ?_)
 have o2:IsPair h2 TO a b:=b2.extBut _ _ TOi1 (b1.extBut _ _ TOz hTO)
 refine wpAny_bind (wpAny_seqItems o2 rfl (wpAny_bind (wpAny_updateSeq_pair o2 fun h3 o3 b3=>wpAny_bind (wpAny_letGo (wpAny_pure ?_)))))
 replace o3:IsPair h3 TO x b:=o3
 refine wpAny_bind (wpAny_bind (wpAny_onRaise ?_))
 show wpAny _ _ (Builtin.SmallTypes.nextOf (.ref i2)>>=_) _ _ _
 refine wpAny_bind (n2 h1 h2 s2 b1 b2 h3 b3 _ _ fun h4 s4 b4=>wpAny_pure ?_)
 have o4:IsPair h4 TO x b:=b4.extBut _ _ TOi2 o3
 refine wpAny_bind (wpAny_seqItems o4 rfl (wpAny_bind (wpAny_updateSeq_pair o4 fun h5 o5 b5=>wpAny_bind (wpAny_letGo (wpAny_pure (wpAny_pure ?_))))))
 replace o5:IsPair h5 TO x y:=o5
 refine wpAny_bind (wpAny_seqItems o5 rfl (wpAny_bind (wpAny_newTuple ?_)))
 have sz:h5.objs.size=s.heap.objs.size:=by rw[b5.1,b4.1,b3.1,b2.1,b1.1]
 have z5:IsZip h5 z TI TO .ellipsis:=b5.extBut _ _ TOz.symm (b4.extBut _ _ i2z.symm (b3.extBut _ _ TOz.symm (b2.extBut _ _ i1z.symm z1)))
 have zl:z<h5.objs.size:=Heap.lt_size z5
 show wpAny _ _ (Builtin.SmallTypes.ownedTupleHandOut (.ref z) (.ref h5.objs.size)>>=_) _ _ _
 refine wpAny_bind ?_
 unfold Builtin.SmallTypes.ownedTupleHandOut
 refine wpAny_bind (wpAny_setField_rec (show IsZip (h5.push {cls:=.type "tuple",data:=.seq #[x,y]}) z TI TO .ellipsis from Heap.get?_push_of_some _ z5) (by simp) fun h7 z7 b7=>?_)
 replace z7:IsZip h7 z TI TO (rawInt h5.objs.size):=z7
 refine wpAny_setField_rec z7 (by simp) fun h8 z8 b8=>?_
 replace z8:IsZip h8 z TI TO (rawInt h5.objs.size):=z8
 have up:∀c o,c≠z->h5.get? c=some o->h8.get? c=some o:=fun c o c1 e=>b8.extBut _ _ c1 (b7.extBut _ _ c1 (Heap.get?_push_of_some _ e))
 have t8:IsPair h8 h5.objs.size x y:=b8.extBut _ _ (Nat.ne_of_gt zl) (b7.extBut _ _ (Nat.ne_of_gt zl) (Heap.get?_push_size _ rfl))
 have l8:h8.objs.size=h5.objs.size+1:=by rw[b8.1,b7.1,Heap.size_push]
 rw[sz] at z8 t8 l8
 refine wpAny_pure ⟨_,rfl,?_⟩
 show Q (.ref h5.objs.size) _
 rw[sz]
 exact k h2 h3 h4 h5 h8 s2 b3 b4 s4 b5 up z8 (up _ _ TOz o5) t8 l8 fun c o c1 c2 c3 c4 e=>up c o c1 (b5.extBut _ _ c2 (b4.extBut _ _ c4 (b3.extBut _ _ c2 (b2.extBut _ _ c3 (b1.extBut _ _ c1 e)))))
theorem nP{h h':Heap}{a t:Addr}{i:Nat}(x:IsTupIter h a t i)(e:∀o,h.get? a=some o->h'.get? a=some o):IsTupIter h' a t i:=let ⟨o,ho,r⟩:=x;⟨o,e _ ho,r⟩
end
section
variable {X:Cx}{es:List Expr}{x1:Nat}{tpos:Pos}
noncomputable def KL(t:DTA):DTI:=fun ρ U Q=>t ρ U fun ds Y=>match ds with
 |[.v (.tuple xs),.v (.tuple ys)]=>Q (gj xs ys) Y
 |_=>False
end
section
variable {X:Cx}{es:List Expr}{pos:Pos}
noncomputable def KD(K:PySem.W.Frag)(n:Nat)(t:TGs):TG:=fun v O H Q=>∃a xs,v = .ref a/\SqL K H a xs/\xs.length=n/\t xs O H Q
theorem Gj{k:Nat}{t:TGs}{n:Nat}(hc:X.calm=true)(h:PGs X es t)
  (hn:(assignEach es X.env).length=n:=by rfl) (hst:(assignEach es X.env).findIdx? (·.1)=none:=by rfl):PG X (.Tuple es k pos) (KD X.K n t):=by
 intro pins s O H v u Q I r hw
 obtain⟨a,xs,e1,hq,hl,hw⟩:=hw
 subst e1
 cases r
 obtain⟨its,rv,p,_⟩:=I.list hq
 rw[assign_Tuple]
 refine wpAny_bind (wpAny_standAt ?_)
 unfold unpack
 rw[hst,show (assignEach es X.env).length=its.toArray.size by simp[hn,<- hl,rv.length]]
 refine wpAny_bind (wpAny_holding (PySem.W.kun_itemsOf (I.ok.hd hc) p.isList fun h' hx=>?_))
 have I1:Inv X pins O H {s with heap:=h'}:=I.kept (t':=s.toks) fun b o e=>hx b o (ne_of_lt (Heap.lt_size e)) e
 exact h pins _ O H xs _ Q I1 (by simpa using rv) hw
noncomputable def w9(n:Nat)(gs:lC):DTG:=fun d ρ U Q=>match d with
 |.v (.list xs)=>xs.length=n/\gs xs ρ U Q
 |_=>False
theorem HP{k n:Nat}{gs:lC}(hc:X.calm=true)(h:DGs X es gs)
  (hn:(assignEach es X.env).length=n:=by rfl) (hst:(assignEach es X.env).findIdx? (·.1)=none:=by rfl):DG X (.Tuple es k pos) (w9 n gs):=by
 obtain⟨t1,p1,l1⟩:=h
 refine⟨_,Gj hc p1 hn hst,fun O H ρ U d u Qd Q S r h k=>?_⟩
 unfold w9 at h
 split at h
 ·cases r with
  |@list a us _ ha hn' ra=>exact⟨a,us,rfl,SqL.of ha,by rw[<- ra.length];exact h.1,l1 O H ρ U _ us _ _ S ra h.2 k⟩
 ·exact h.elim
theorem jY{n:Nat}{gs:lC}{xs:List PyData}{ρ:Rho}{U:Mu}{Q:Rho->Mu->Prop}:w9 n gs (.v (.list xs)) ρ U Q=(xs.length=n/\gs xs ρ U Q):=propext Iff.rfl
end
theorem cl1{k:Str}{v:Addr}{r:List (Str×Addr)}{x:Str}{a:Addr}(h:List.lookup x [(k,v)]=some a):List.lookup x ((k,v)::r)=some a:=by
 simp only[lookup_cons] at h ⊢
 cases e:x==k with
 |true=>rw[e] at h;exact h
 |false=>rw[e] at h;exact absurd h (by simp)
theorem cl2{k k':Str}{v v':Addr}{r:List (Str×Addr)}{x:Str}{a:Addr}(n:(k==k')=false)(h:List.lookup x [(k,v)]=some a):List.lookup x ((k',v')::(k,v)::r)=some a:=by
 have g:=cl1 (r:=r) h
 simp only[lookup_cons] at h
 cases e:x==k with
 |true=>
  have e':x=k:=by simpa using e
  subst e'
  rw[lookup_cons,n]
  exact g
 |false=>rw[e] at h;exact absurd h (by simp)
section
variable {X:Cx}{e:Expr}{es:List Expr}{t:DTA}{p pos:Pos}
theorem mQ:∀{ns:List Int} {us:List Value},Vals (ns.map V.int) us->PyProof.Rows.IntsAre us ns
 |[],_,.nil=>.nil
 |n::r,_,.cons h t=>by obtain⟨tk,rfl⟩:=h;exact .cons n tk (mQ t)
theorem zr(hc:X.calm=true):dE X (.builtin "sum") (fun xs H Q=>∃(p:Addr) (ns:List Int),xs=[.ref p]/\H p=some (.lst (ns.map V.int))/\Q (.int ns.sum) H):=by
 intro pins s O H xs us Q I r h
 obtain⟨l,ns,rfl,hl,q⟩:=h
 obtain⟨u,rfl,rx⟩:=vals1 r
 cases rx
 obtain⟨its,rv,pl,_⟩:=I.list (SqL.of hl)
 have hi:=mQ rv
 have hL:=pl.isList
 obtain⟨xs,hx⟩:=hi.allInts.items
 have hn:numsOf its.toArray.toList=ns:=by rw[show its.toArray.toList=its from rfl,hi.numsOf]
 rw[hx] at hL hn
 rw[nums_intItems] at hn
 refine sum_intListG (I.ok.hd hc) hL fun h' tk t' hk=>?_
 rw[preSum_eq,List.take_of_length_le (by simp),hn]
 exact⟨.int ns.sum,H,I.kept hk,⟨_,rfl⟩,q⟩
noncomputable def aS:List PyData->Option (List Int)
 |[]=>some []
 |.int b::r=>(aS r).map (b::·)
 |_::_=>none
theorem iU{K:PySem.W.Frag}{U:Mu}{H:Hp}:∀{xs:List PyData} {us:List V} {bs:List Int},RpL K U H xs us->aS xs=some bs->us=bs.map V.int
 |_,_,_,.nil,e=>by cases e;rfl
 |.int b::r,_,bs,.cons h t,e=>by
  simp only[aS] at e
  cases q:aS r with
  |none=>rw[q] at e;cases e
  |some cs=>rw[q] at e;cases e;cases h;rw[iU t q];rfl
 |.none::r,_,bs,.cons h t,e=>by simp[aS] at e
 |.bool _::r,_,bs,.cons h t,e=>by simp[aS] at e
 |.str _::r,_,bs,.cons h t,e=>by simp[aS] at e
 |.list _::r,_,bs,.cons h t,e=>by simp[aS] at e
 |.tuple _::r,_,bs,.cons h t,e=>by simp[aS] at e
 |.dict _::r,_,bs,.cons h t,e=>by simp[aS] at e
noncomputable def oK:List D->Mu->DK->Prop:=fun xs U Q=>match xs with
 |[.v (.list ys)]=>(match aS ys with|some bs=>Q (.v (.int bs.sum)) U|none=>False)
 |_=>False
theorem GO{K:PySem.W.Frag}:fO K (fun xs H Q=>∃(p:Addr) (ns:List Int),xs=[.ref p]/\H p=some (.lst (ns.map V.int))/\Q (.int ns.sum) H) oK:=by
 intro xs us H U Qd Q ok rs h k
 unfold oK at h
 split at h
 ·rename_i ys
  cases q:aS ys with
  |none=>rw[q] at h;exact h.elim
  |some bs=>
   rw[q] at h
   cases rs with
   |cons r1 r2=>
    cases r2
    cases r1 with
    |list hs hn r=>exact⟨_,bs,rfl,by rw[hs,iU r q],k (.v _) _ U H .refl ok (Rp.int _) h⟩
 ·exact h.elim
theorem HN(hc:X.calm=true)(hg:Gl X "sum")(hm:X.mg "sum"=none)(ha:DA X (e::es) t)
  (he:starEach (e::es) X.env=(false,eval e X.env)::starEach es X.env:=by rfl) (hpl:(backTo pos (starEach es X.env)).any (·.1)=false:=by rfl):DE X (.Call (.Name "sum" p) (e::es) [] pos) (dCB oK t):=
 dg (zr hc) GO hg hm PyProof.Rows.Boot.«sum» ha ⋯ ⋯ he hpl
theorem uM{ys:List PyData}{U:Mu}{Q:DK}:oK [.v (.list ys)] U Q=(match aS ys with|some bs=>Q (.v (.int bs.sum)) U|none=>False):=propext Iff.rfl
end
section
variable {X:Cx}{a b c:Expr}{ta tb tc:DTE}{pos:Pos}
theorem zP{op op':CmpOp}{rr rr':R2}{r r':D->D->Mu->DK->Prop}(ho:OpR X (compareOp op) rr)(lo:cV X.K rr r)(ho':OpR X (compareOp op') rr')(lo':cV X.K rr' r')(ha:DE X a ta)(hb:DE X b tb)(hc:DE X c tc)
  (hm:lastMarks [op,op'] [b,c]=false:=by with_unfolding_all rfl):DT X (.Compare a [op,op'] [b,c] pos) (dB (jX r r' ta tb tc)):=by
 obtain⟨t1,p1,l1⟩:=ha
 obtain⟨t2,p2,l2⟩:=hb
 obtain⟨t3,p3,l3⟩:=hc
 refine⟨_,Bv ho ho' p1 p2 p3 hm,lH (fun O H ρ U Qd Q S h k=>?_)⟩
 refine l1 O H ρ U _ _ S h fun x ux Y H1 e1 S1 rx h1=>?_
 refine l2 O H1 ρ Y _ _ S1 h1 fun y uy ac H2 e2 S2 ry h2=>?_
 refine lo x y ux uy H2 ac _ _ S2.mu (rx.ext S1.mu e2) ry h2 fun z uz be H3 e3 ok3 rz h3=>?_
 have S3:St0 X.K H3 ρ be O:=⟨ok3,S2.rho.ext S2.mu e3⟩
 split at h3
 ·rename_i kk
  cases rz
  refine⟨kk,rfl,?_⟩
  cases kk with
  |true=>
   refine vf ?_
   refine l3 O H3 ρ be _ _ S3 (by simpa using h3) fun w uw bn H4 e4 S4 rw' h4=>?_
   exact lo' y w uy uw H4 bn _ _ S4.mu ((ry.ext S2.mu e3).ext S3.mu e4) rw' h4 fun d u Z H' e5 ok r q=>k d u Z H' (e1.trans (e2.trans (e3.trans (e4.trans e5)))) ⟨ok,S4.rho.ext S4.mu e5⟩ r q
  |false=>exact uP (k (.v (.bool false)) _ be H3 (e1.trans (e2.trans e3)) S3 (Rp.bool false) (by simpa using h3))
 ·exact h3.elim
theorem cl3{k k':Str}{v v':Addr}{x:Str}{a:Addr}(n:(k==k')=false)(h:List.lookup x [(k,v),(k',v')]=some a):List.lookup x [(k',v'),(k,v)]=some a:=by
 simp only[lookup_cons,List.lookup_nil] at h ⊢
 cases e:x==k with
 |true=>
  have e':x=k:=by simpa using e
  subst e'
  rw[e] at h
  rw[n]
  exact h
 |false=>
  rw[e] at h
  cases e2:x==k' with
  |true=>rw[e2] at h;exact h
  |false=>rw[e2] at h;exact absurd h (by simp)
end
section
variable {X:Cx}{o e:Expr}{to te:DTE}{apos cpos pos:Pos}
noncomputable def Hm(to:DTE):DTE:=fun ρ U Q=>to ρ U fun x Y=>match x with
 |.m l=>(match Y l with
  |some xs=>∃d,xs[xs.length-1]? = some d/\Q (.v d) (aD Y l xs.dropLast)
  |none=>False)
 |_=>False
theorem RpL.dropLast{K:PySem.W.Frag}{U:Mu}{H:Hp}:∀{ds:List PyData} {us:List V},RpL K U H ds us->RpL K U H ds.dropLast us.dropLast
 |_,_,.nil=>.nil
 |_,_,.cons h .nil=>.nil
 |_,_,.cons h (.cons h2 t)=>.cons h (RpL.dropLast (.cons h2 t))
theorem RpL.eraseIdx{K:PySem.W.Frag}{U:Mu}{H:Hp}:∀{ds:List PyData} {us:List V} (i:Nat),RpL K U H ds us->RpL K U H (ds.eraseIdx i) (us.eraseIdx i)
 |_,_,_,.nil=>.nil
 |_,_,0,.cons _ t=>t
 |_,_,i+1,.cons h t=>.cons h (RpL.eraseIdx i t)
theorem GK(ho:DE X o to)(hbase:attributeBase o "pop" X.env (eval o X.env)=eval o X.env:=by rfl)(hline:(apos.endLine==cpos.line)=true:=by rfl) :
  DE X (.Call (.Attribute o "pop" apos) [] [] cpos) (Hm to):=by
 obtain⟨t1,p1,l1⟩:=ho
 refine⟨_,A1 plainAttrs_list PySem.F.slot_list_pop PySem.F.type_list_pop EG p1 hbase hline,fun O H ρ U Qd Q S h k=>?_⟩
 refine l1 O H ρ U _ _ S h fun x ux Y H1 e1 S1 rx h1=>?_
 cases x with
 |m l=>
  obtain⟨rfl,ds,hm⟩:=id rx
  obtain⟨us,hl,rl⟩:=S1.mu l ds hm
  refine⟨.inl ⟨rfl,us,SqL.of hl⟩,?_⟩
  dsimp only at h1
  rw[hm] at h1
  obtain⟨d,hd,q⟩:=h1
  obtain⟨u,hu,ru⟩:=rl.get hd
  have ex:Ext X.K Y H1 (aD Y l ds.dropLast) (upd H1 l (.lst us.dropLast)):=eU hm
  exact⟨l,us,u,rfl,rfl,hl,by rw[<- rl.length];exact hu,k (.v d) u _ _ (e1.trans ex) ⟨S1.mu.set hm rl.dropLast,S1.rho.ext S1.mu ex⟩ (ru.ext S1.mu ex) q⟩
 |v d=>exact h1.elim
 |s ns=>exact h1.elim
 |o _=>exact h1.elim
 |b _=>exact h1.elim
 |q _=>exact h1.elim
noncomputable def lO(to te:DTE):DTE:=fun ρ U Q=>to ρ U fun x Y=>match x with
 |.m l=>te ρ Y fun y ac=>(match y,ac l with
  |.v (.int i),some xs=>(0<=i/\i<1000)/\∃d,xs[i.toNat]? = some d/\Q (.v d) (aD ac l (xs.eraseIdx i.toNat))
  |_,_=>False)
 |_=>False
theorem Jy{i:Int}{n:Nat}(h0:0<=i)(h:i.toNat<n):seqIndex? i n=some i.toNat:=by
 unfold seqIndex?
 simp only[Option.ite_none_right_eq_some,Option.some.injEq]<;>first|(split<;>(try split)<;>simp_all<;>omega)|(constructor<;>omega)|omega
theorem AA(ho:DE X o to)(ha:DE X e te)(hbase:attributeBase o "pop" X.env (eval o X.env)=eval o X.env:=by rfl)
  (hfew:((backTo cpos (starEach [e] X.env)).all (fun x=>!x.1)&&(backToKw cpos (keywordEach [] X.env)).all (fun x=>x.1.isSome)
   && decide ([e].length+([]:List Keyword).length+(if ([]:List Keyword).isEmpty then 0 else 1)<30))=true:=by rfl)
  (hline:(apos.endLine==cpos.line)=true:=by rfl) (hs:starEach [e] X.env=(false,eval e X.env)::starEach [] X.env:=by rfl) (hplain:(backTo cpos (starEach [] X.env)).any (·.1)=false:=by rfl) :
  DE X (.Call (.Attribute o "pop" apos) [e] [] cpos) (lO to te):=by
 obtain⟨t1,p1,l1⟩:=ho
 obtain⟨t2,p2,l2⟩:=ha
 refine⟨_,AN plainAttrs_list PySem.F.slot_list_pop PySem.F.type_list_pop zE p1 (iK p2 nX hs) hbase hfew hline hs hplain,fun O H ρ U Qd Q S h k=>?_⟩
 refine l1 O H ρ U _ _ S h fun x ux Y H1 e1 S1 rx h1=>?_
 cases x with
 |m l=>
  obtain⟨rfl,ds,hm⟩:=id rx
  obtain⟨us,hl,rl⟩:=S1.mu l ds hm
  refine⟨.inl ⟨rfl,us,SqL.of hl⟩,?_⟩
  refine l2 O H1 ρ Y _ _ S1 h1 fun y uy ac H2 e2 S2 ry h2=>?_
  obtain⟨_,ds2,hm2⟩:=rx.ext S1.mu e2
  obtain⟨us2,hl2,rl2⟩:=S2.mu l ds2 hm2
  rw[hm2] at h2
  split at h2
  ·rename_i i ds3 e3
   cases e3
   obtain⟨⟨i0,i1⟩,d,hd,q⟩:=h2
   cases ry
   obtain⟨u,hu,ru⟩:=rl2.get hd
   have hlt:i.toNat<us2.length:=by
    rcases Nat.lt_or_ge i.toNat us2.length with z|z
    ·exact z
    ·rw[List.getElem?_eq_none z] at hu;cases hu
   have ex:Ext X.K ac H2 (aD ac l (ds2.eraseIdx i.toNat)) (upd H2 l (.lst (us2.eraseIdx i.toNat))):=eU hm2
   exact⟨l,us2,i,i.toNat,u,rfl,rfl,hl2,∅,∅,Jy i0 hlt,hu,k (.v d) u _ _ (e1.trans (e2.trans ex)) ⟨S2.mu.set hm2 (rl2.eraseIdx _),S2.rho.ext S2.mu ex⟩ (ru.ext S2.mu ex) q⟩
  ·exact h2.elim
 |v d=>exact h1.elim
 |s ns=>exact h1.elim
 |o _=>exact h1.elim
 |b _=>exact h1.elim
 |q _=>exact h1.elim
noncomputable def zY(to:DTE):DTT:=fun ρ U Q=>to ρ U fun x Y=>match x with
 |.m l=>(match Y l with|some xs=>Q (!xs.isEmpty) Y|none=>False)
 |_=>False
theorem Cz(ho:DE X o to)(he:∀whole,isTrue o X.env whole=(do let v <- whole;standAt o.pos;holding [v] (truthy v)):=by intro _;rfl):DT X o (zY to):=by
 obtain⟨t1,p1,l1⟩:=ho
 refine⟨_,AE p1 he,fun O H ρ U Qd Q S h k=>?_⟩
 refine l1 O H ρ U _ _ S h fun x ux Y H1 e1 S1 rx h1=>?_
 cases x with
 |m l=>
  obtain⟨rfl,ds,hm⟩:=id rx
  obtain⟨us,hl,rl⟩:=S1.mu l ds hm
  dsimp only at h1
  rw[hm] at h1
  refine⟨!us.isEmpty,.inl ⟨us,SqL.of hl,rfl⟩,?_⟩
  have:us.isEmpty=ds.isEmpty:=by cases rl<;>rfl
  rw[this]
  exact k _ Y H1 e1 S1 h1
 |v d=>exact h1.elim
 |s ns=>exact h1.elim
 |o _=>exact h1.elim
 |b _=>exact h1.elim
 |q _=>exact h1.elim
noncomputable def FT(i:Nat)(te:DTE):DTS:=fun Dd ρ U=>∃a:Int,ρ[i]? = some (some (.v (.int a)))/\te ρ U fun y Y=>match y with
 |.v (.int b)=>Dd.nx (ρ.set i (some (.v (.int (a+b))))) Y
 |_=>False
theorem Fo{i:Nat}{x:Str}{pos':Pos}(hN:X.N.Nodup)(hi:X.N[i]? = some x)(hx:Loc X.env.scope x)(ha:DE X e te)(hf:X.fn x=true\/X.env.scope.names.lookup x=some .local:=by first|exact .inl rfl|exact .inr rfl|assumption) :
  DS X (.AugAssign (.Name x pos') .Add e pos) (FT i te):=by
 obtain⟨t1,p1,l1⟩:=ha
 refine⟨_,Ig hN hi hx p1 HU hf,fun O H ρ U Dd De S h k1 k2 k3 k4=>?_⟩
 obtain⟨a,ea,h⟩:=h
 obtain⟨u,hu,ru⟩:=S.rho.2 i _ ea
 cases ru
 refine⟨_,hu,l1 O H ρ U _ _ S h fun y uy Y H1 e1 S1 ry h1=>?_⟩
 split at h1
 ·cases ry
  exact⟨_,_,rfl,rfl,k1 _ _ Y H1 e1 ⟨S1.mu,S1.rho.set (d:=.v (.int _)) (Rp.int _)⟩ h1⟩
 ·exact h1.elim
end
section
variable {X:Cx}{e:Expr}{es:List Expr}{t:DTA}{p pos:Pos}
theorem yz(hc:X.calm=true):dE X (.builtin "min") (fun xs H Q=>∃(p:Addr) (ns:List Int),xs=[.ref p]/\H p=some (.lst (ns.map V.int))/\0<ns.length/\∀M∈ns,(∀a∈ns,M<=a)->Q (.int M) H):=by
 intro pins s O H xs us Q I r h
 obtain⟨l,ns,rfl,hl,hne,q⟩:=h
 obtain⟨u,rfl,rx⟩:=vals1 r
 cases rx
 obtain⟨its,rv,pl,_⟩:=I.list (SqL.of hl)
 have hi:=mQ rv
 obtain⟨xs,e⟩:=hi.allInts.items
 have hns:ns=xs.toList.map (·.1):=by rw[<- hi.numsOf,<- nums_intItems,<- e]
 have hsz:0<xs.size:=by have h3:=hne;rw[hns,length_map,Array.length_toList] at h3;exact h3
 have hL:=pl.isList
 rw[e] at hL
 refine min_intList (I.ok.hd hc) hL hsz fun v h' tk hv hk=>?_
 obtain⟨t,rfl⟩:=intItems_at hv
 obtain⟨h1,h2⟩:=argBest_lt (numAt xs) (xs.size-1)
 refine⟨.int _,H,I.kept hk,⟨_,rfl⟩,q _ ?_ fun a ha=>?_⟩
 ·rw[hns,numAt_eq];exact getD_mem (by rw[length_map,Array.length_toList];omega)
 ·rw[hns] at ha
  obtain⟨j,hj,rfl⟩:=mem_getD ha
  rw[length_map,Array.length_toList] at hj
  rw[<- numAt_eq];exact h2 j ∅
theorem yK(hc:X.calm=true):dE X (.builtin "max") (fun xs H Q=>∃(p:Addr) (ns:List Int),xs=[.ref p]/\H p=some (.lst (ns.map V.int))/\0<ns.length/\∀M∈ns,(∀a∈ns,a<=M)->Q (.int M) H):=by
 intro pins s O H xs us Q I r h
 obtain⟨l,ns,rfl,hl,hne,q⟩:=h
 obtain⟨u,rfl,rx⟩:=vals1 r
 cases rx
 obtain⟨its,rv,pl,_⟩:=I.list (SqL.of hl)
 have hi:=mQ rv
 obtain⟨xs,e⟩:=hi.allInts.items
 have hns:ns=xs.toList.map (·.1):=by rw[<- hi.numsOf,<- nums_intItems,<- e]
 have hsz:0<xs.size:=by have h3:=hne;rw[hns,length_map,Array.length_toList] at h3;exact h3
 have hL:=pl.isList
 rw[e] at hL
 refine max_intList (I.ok.hd hc) hL hsz fun v h' tk hv hk=>?_
 obtain⟨t,rfl⟩:=intItems_at hv
 obtain⟨h1,h2⟩:=argBest_gt (numAt xs) (xs.size-1)
 refine⟨.int _,H,I.kept hk,⟨_,rfl⟩,q _ ?_ fun a ha=>?_⟩
 ·rw[hns,numAt_eq];exact getD_mem (by rw[length_map,Array.length_toList];omega)
 ·rw[hns] at ha
  obtain⟨j,hj,rfl⟩:=mem_getD ha
  rw[length_map,Array.length_toList] at hj
  rw[<- numAt_eq];exact h2 j ∅
noncomputable def vj:List D->Mu->DK->Prop:=fun xs U Q=>match xs with
 |[.v (.list ys)]=>(match aS ys with|some ns=>0<ns.length/\∀M∈ns,(∀a∈ns,M<=a)->Q (.v (.int M)) U|none=>False)
 |_=>False
noncomputable def vh:List D->Mu->DK->Prop:=fun xs U Q=>match xs with
 |[.v (.list ys)]=>(match aS ys with|some ns=>0<ns.length/\∀M∈ns,(∀a∈ns,a<=M)->Q (.v (.int M)) U|none=>False)
 |_=>False
theorem Cy{K:PySem.W.Frag}:fO K (fun xs H Q=>∃(p:Addr) (ns:List Int),xs=[.ref p]/\H p=some (.lst (ns.map V.int))/\0<ns.length/\∀M∈ns,(∀a∈ns,M<=a)->Q (.int M) H) vj:=by
 intro xs us H U Qd Q ok rs h k
 unfold vj at h
 split at h
 ·rename_i ys
  cases q:aS ys with
  |none=>rw[q] at h;exact h.elim
  |some ns=>
   rw[q] at h
   cases rs with
   |cons r1 r2=>
    cases r2
    cases r1 with
    |list hs hn r=>exact⟨_,ns,rfl,by rw[hs,iU r q],h.1,fun M hM hle=>k (.v _) _ U H .refl ok (Rp.int _) (h.2 M hM hle)⟩
 ·exact h.elim
theorem B7{K:PySem.W.Frag}:fO K (fun xs H Q=>∃(p:Addr) (ns:List Int),xs=[.ref p]/\H p=some (.lst (ns.map V.int))/\0<ns.length/\∀M∈ns,(∀a∈ns,a<=M)->Q (.int M) H) vh:=by
 intro xs us H U Qd Q ok rs h k
 unfold vh at h
 split at h
 ·rename_i ys
  cases q:aS ys with
  |none=>rw[q] at h;exact h.elim
  |some ns=>
   rw[q] at h
   cases rs with
   |cons r1 r2=>
    cases r2
    cases r1 with
    |list hs hn r=>exact⟨_,ns,rfl,by rw[hs,iU r q],h.1,fun M hM hle=>k (.v _) _ U H .refl ok (Rp.int _) (h.2 M hM hle)⟩
 ·exact h.elim
theorem DY(hc:X.calm=true)(hg:Gl X "min")(hm:X.mg "min"=none)(ha:DA X (e::es) t)
  (he:starEach (e::es) X.env=(false,eval e X.env)::starEach es X.env:=by rfl) (hpl:(backTo pos (starEach es X.env)).any (·.1)=false:=by rfl):DE X (.Call (.Name "min" p) (e::es) [] pos) (dCB vj t):=
 dg (yz hc) Cy hg hm PyProof.Rows.Boot.«min» ha ⋯ ⋯ he hpl
theorem C0(hc:X.calm=true)(hg:Gl X "max")(hm:X.mg "max"=none)(ha:DA X (e::es) t)
  (he:starEach (e::es) X.env=(false,eval e X.env)::starEach es X.env:=by rfl) (hpl:(backTo pos (starEach es X.env)).any (·.1)=false:=by rfl):DE X (.Call (.Name "max" p) (e::es) [] pos) (dCB vh t):=
 dg (yK hc) B7 hg hm PyProof.Rows.Boot.«max» ha ⋯ ⋯ he hpl
end
noncomputable def oj(cap:List (Option Nat))(src:DTI)(g:DTG)(c:DTT)(elt:DTE):DTE:=fun ρ U Q=>src ρ U fun xs Y=>xs.length<=1000/\∀p,Y p=none->∃Pv:Nat->List PyData->Mu->Prop,Pv 0 [] (aD Y p []) /\
 (∀i x acc Z,xs[i]? = some x->Z p=some acc->Pv i acc Z->g (.v x) (bZ cap ρ) Z fun bv ac=>Le (bZ cap ρ) bv/\c bv ac fun b be=>
  if b=true then elt bv be fun d bn=>bn p=some acc/\(match d with|.v y=>Pv (i+1) (acc++[y]) (aD bn p (acc++[y]))|_=>False) else be p=some acc/\Pv (i+1) acc be) /\
 (∀acc Z,Pv xs.length acc Z->Z p=some acc->Q (.m p) Z)
theorem Cf{cap:List (Option Nat)}{src:DTI}{g:DTG}{t:DTT}{ta:DTE}{ρ:Rho}{U:Mu}{Q:DK}:oj cap src g t ta ρ U Q=src ρ U fun xs Y=>xs.length<=1000/\∀p,Y p=none->∃Pv:Nat->List PyData->Mu->Prop,Pv 0 [] (aD Y p []) /\
 (∀i x acc Z,xs[i]? = some x->Z p=some acc->Pv i acc Z->g (.v x) (bZ cap ρ) Z fun bv ac=>Le (bZ cap ρ) bv/\t bv ac fun b be=>
  if b=true then ta bv be fun d bn=>bn p=some acc/\(match d with|.v y=>Pv (i+1) (acc++[y]) (aD bn p (acc++[y]))|_=>False) else be p=some acc/\Pv (i+1) acc be) /\
 (∀acc Z,Pv xs.length acc Z->Z p=some acc->Q (.m p) Z):=propext Iff.rfl
noncomputable def Az(cells:List (Str×Addr)):List (Str×Addr)->Prop
 |[]=>True
 |(k,v)::r=>cells.lookup k=some v/\Az cells r
theorem zm{cells:List (Str×Addr)}:Az cells []:=trivial
theorem jy{cells r:List (Str×Addr)}{k:Str}{v:Addr}(h:cells.lookup k=some v)(t:Az cells r):Az cells ((k,v)::r):=⟨h,t⟩
theorem oV{cells:List (Str×Addr)}:∀{cl:List (Str×Addr)},Az cells cl->∀x a,cl.lookup x=some a->cells.lookup x=some a
 |[],_,_,_,h=>by simp at h
 |(k,v)::r,c,x,a,h=>by
  rw[lookup_cons] at h
  cases e:x==k with
  |true=>
   have e':x=k:=by simpa using e
   rw[e] at h
   subst e'
   rw[c.1];exact h
  |false=>
   rw[e] at h
   exact oV c.2 x a h
noncomputable abbrev DTX:=Rho->Mu->(Mu->Prop)->Prop
noncomputable abbrev XSp:=List D->Mu->(Mu->Prop)->Prop
theorem Df:∀{x:Option Value},yN x=true->∃a b,x=some (.str a b)
 |some (.str a b),_=>⟨a,b,rfl⟩
theorem vJ{o:Obj}{r:Addr×Str}(e:bu o=some r):∃vs,o.data = .fields vs/\o.cls = .type "code"/\xt vs=some r:=by
 obtain⟨c,d,f,sl⟩:=o
 cases f with
 |fields vs=>
  by_cases h:c = .type "code"
  ·exact⟨vs,rfl,h,(if_pos (c:=(c=Value.type "code")) h).symm.trans e⟩
  ·exact nomatch (if_neg (c:=(c=Value.type "code")) h).symm.trans e
 |_=>exact nomatch e
theorem Cd:∀{x:Option Value},ES x=true->∃a,x=some (.ref a)
 |some (.ref a),_=>⟨a,rfl⟩
theorem Ae{vs:Array Value}{r:Addr×Str}(e:xt vs=some r):∃q t P,vs[1]? = some (.str q t)/\vs[11]? = some (.ref P)/\yY vs[7]? = true/\EL vs[9]? = true/\yY vs[10]? = true/\yN vs[18]? = true/\r=(P,q):=by
 unfold xt at e
 generalize vs[1]? = v1 at e ⊢
 generalize vs[11]? = v2 at e ⊢
 generalize vs[7]? = v3 at e ⊢
 generalize vs[9]? = v4 at e ⊢
 generalize vs[10]? = v5 at e ⊢
 generalize vs[18]? = v6 at e ⊢
 generalize hb:(yN v1&&(ES v2&&(yY v3&&(EL v4&&(yY v5&&(yN v6&&uC.contains (FA v1)))))))=b at e
 cases b with
 |false=>exact nomatch e
 |true=>
  have a1:=(Bool.and_eq_true_iff.mp hb)
  have a2:=(Bool.and_eq_true_iff.mp a1.2)
  have a3:=(Bool.and_eq_true_iff.mp a2.2)
  have a4:=(Bool.and_eq_true_iff.mp a3.2)
  have a5:=(Bool.and_eq_true_iff.mp a4.2)
  obtain⟨q,t,rfl⟩:=Df a1.1
  obtain⟨P,rfl⟩:=Cd a2.1
  exact⟨q,t,P,rfl,rfl,a3.1,a4.1,a5.1,(Bool.and_eq_true_iff.mp a5.2).1,(Option.some.inj e).symm⟩
end L2.DL
namespace L2
open PySem PySem.Spec PyProof.Rows DL
noncomputable def Jq(tabs:List Addr)(H:Hp):Prop:=∀b,H b=none\/(∃o xs,H b=some (.frz o (.lst xs)))\/(b∈tabs/\H b=some (.tbl #[]))
end L2
namespace L2.DL
open PySem PySem.Spec PyProof.Rows
theorem _root_.L2.Fun.Ku{P:Program}{w:World}{K:PySem.W.Frag}{mg:Str->Option Value}{base:Heap}{x qual:Str}{st:Stmt}{f:Addr}{fd:FuncData}{N ps:List Str}{k:Nat}{dsp:DSp}(F:Fun K x qual st f fd)(S:iP N ps (a0 st))(len:∀ds U Q,dsp ds U Q->ds.length=ps.length)
  (hbody:∀(cdv:Value),fd.code=cdv->∀(A:Around) (outer:List Env) (s:Shared) (H:Hp) (E:XK),cR k (A.deeper (envOfC qual (a0 st) s.heap.objs.size f cdv)) ->
   ∃td,DSs (rR CX0 P w K mg base N qual (a0 st) f cdv A outer s H E).nox (da st) td/\∀ds U Qd,dsp ds U Qd->td ‹Qd› (ak N ds) U):eJ P w K mg base CX0 (k+1) f fd ps (spD K dsp):=by
 obtain⟨oc,od,kV,doc,pm,an,cdv,ct,osl,rfl,lk,hcd⟩:=F.ex
 refine Ij lk hcd S (fun vs H Q E h=>?_) fun A outer s H vs Q E hr h=>?_
 ·obtain⟨ds,U,Qd,_,r,h,_⟩:=h
  rw[<- r.length];exact len ds U Qd h
 ·obtain⟨ds,U,Qd,ok,r,h,fin⟩:=h
  obtain⟨td,⟨t,p,l⟩,rd⟩:=hbody cdv rfl A outer s H E hr
  exact⟨t,p.nox,l (start N vs) H (ak N ds) U _ _ ⟨ok,yM r⟩ (rd ds U Qd h) (fun al ap Z H' e' S' q=>fin (.v .none) .non Z H' e' S'.mu Rp.none q) (fun d u Z H' e' ok' r' q=>fin d u Z H' e' ok' r' q) (fun _ _ _ _ _ _ q=>q) (fun _ _ _ _ _ _ q=>q)⟩
theorem C9{K:PySem.W.Frag}{l:List (Addr×Str)}(h:(K.filterMap fun p=>bu p.2)=l){c:Addr}{o:Obj}{P:Addr}{q:Str}(e:K.lookup c=some o)(e2:bu o=some (P,q)):(P,q)∈l:=by
 rw[<- h]
 have mem:∀(L:List (Addr×Obj)),List.lookup c L=some o->(c,o)∈L:=fun L=>by
  induction L with
  |nil=>intro z;cases z
  |cons a r ih=>
   intro z
   rw[lookup_cons] at z
   by_cases y:c=a.1
   ·rw[y] at z ⊢;simp at z;rw[<- z];exact mem_cons_self
   ·rw[show (c==a.1)=false from by simpa using y] at z
    exact mem_cons_of_mem _ (ih z)
 exact List.mem_filterMap.mpr ⟨(c,o),mem K e,e2⟩
theorem qI{K:PySem.W.Frag}{h:Heap}{c P:Addr}{o:Obj}{q:Str}(X:K.In h)(l:K.lookup c=some o)(e:bu o=some (P,q)):isCodeTable h P:=by
 obtain⟨vs,hd,hcls,e⟩:=vJ e
 obtain⟨q',t',P',e1,e11,e7,e9,e10,e18,z⟩:=Ae e
 cases z
 exact⟨c,o,vs,X _ _ l,hcls,hd,e11⟩
theorem wJ{K:PySem.W.Frag}{c P:Addr}{q:Str}(h:(K.lookup c).bind bu=some (P,q)):∃o,K.lookup c=some o/\bu o=some (P,q):=Option.bind_eq_some_iff.mp h
theorem sY{K T:PySem.W.Frag}{h:Heap}(X:PySem.W.Frag.In (K++T) h):K.In h:=fun b o e=>X b o (by
 show List.lookup b (K++T)=some o
 rw[List.lookup_append,show List.lookup b K=some o from e];rfl)
noncomputable def QT(ds:List D):PQ:=fun K u U H=>∃a us,u = .ref a/\H a=some (.tup us)/\fb K U H ds us
mutual
theorem Rp.sub{K:PySem.W.Frag}{U Y:Mu}{H:Hp}(h:∀a,Y a=none->U a=none):∀{d:PyData} {u:V},Rp K Y H d u->Rp K U H d u
 |_,_,.none=>.none
 |_,_,.bool b=>.bool b
 |_,_,.int i=>.int i
 |_,_,.str x=>.str x
 |_,_,.list a b c=>.list a (h _ b) (RpL.sub h c)
 |_,_,.tuple a c=>.tuple a (RpL.sub h c)
theorem RpL.sub{K:PySem.W.Frag}{U Y:Mu}{H:Hp}(h:∀a,Y a=none->U a=none):∀{ds:List PyData} {us:List V},RpL K Y H ds us->RpL K U H ds us
 |_,_,.nil=>.nil
 |_,_,.cons a b=>.cons (Rp.sub h a) (RpL.sub h b)
end
structure gP(U Z:Mu):Prop where
 l:∀b ds,U b=some ds->Z b=some ds
 b:∀b c,U.b b=some c->Z.b b=some c
noncomputable instance {U Z:Mu}:CoeFun (gP U Z) fun _=>∀b ds,U b=some ds->Z b=some ds:=⟨gP.l⟩
theorem gP.refl{U:Mu}:gP U U:=⟨fun _ _ e=>e,fun _ _ e=>e⟩
theorem gP.none{U Z:Mu}(h:gP U Z){b:Addr}(e:Z b=none):U b=none:=by
 cases z:U b with
 |none=>rfl
 |some ds=>rw[h b ds z] at e;cases e
theorem nY{K:PySem.W.Frag}{U Z:Mu}{H:Hp}(ok:a6 K Z H)(s:gP U Z):a6 K U H:=⟨fun a ds z=>by
 obtain⟨xs,h1,h2⟩:=ok.lst a ds (s a ds z)
 exact⟨xs,h1,h2.sub fun b hb=>s.none hb⟩,ok.tab,fun a c z=>by
 obtain⟨y,o,h1,h2⟩:=ok.box a c (s.b a c z)
 exact⟨y,o,h1,h2.shrink fun b hb=>s.none hb⟩⟩
theorem gP.set{U Z:Mu}{p:Addr}{ds:List PyData}(h:gP U Z)(n:U p=Option.none):gP U (aD Z p ds):=⟨fun b es e=>by
 have:b≠p:=fun z=>by rw[z,n] at e;cases e
 rw[ao this];exact h b es e,h.b⟩
noncomputable def frz(U:Mu)(Qd:DK):DK:=fun d Z=>match d with
 |.v x=>gP U Z/\Qd (.v x) U
 |.m a=>(U a=none/\gP U Z)/\∃es,Z a=some es/\Qd (.v (.list es)) U
 |_=>False
theorem HJ{P:Program}{w:World}{K:PySem.W.Frag}{mg:Str->Option Value}{base:Heap}{CX:CXT}{k:Nat}{f:Addr}{fd:FuncData}{ps:List Str}{sp sp':DSp}(F:eJ P w K mg base CX k f fd ps (spD K sp))
  (h:∀ds U Qd,sp' ds U Qd->sp ds U (frz U Qd)):eJ P w K mg base CX k f fd ps (spD K sp'):=by
 refine F.imp fun vs H Q E h'=>?_
 obtain⟨ds,U,Qd,ok,r,s,kk⟩:=h'
 refine⟨ds,U,_,ok,r,h _ _ _ s,fun d u Z H' e ok' rd q=>?_⟩
 cases d with
 |v x=>
  obtain⟨sb,q⟩:=q
  exact kk (.v x) u U H' ⟨e.keep,e.tb,fun b ds z=>⟨ds,z⟩,fun _ z _=>z,e.st,fun _ c z=>⟨c,z⟩⟩ (nY ok' sb) (show Rp K U H' x u from (show Rp K Z H' x u from rd).sub fun b hb=>sb.none hb) q
 |m a=>
  obtain⟨⟨n,sb⟩,es,he,q⟩:=q
  obtain⟨rfl,_⟩:=rd
  obtain⟨xs,h1,h2⟩:=ok'.lst a es he
  exact kk (.v (.list es)) (.ref a) U H' ⟨e.keep,e.tb,fun b ds z=>⟨ds,z⟩,fun _ z _=>z,e.st,fun _ c z=>⟨c,z⟩⟩ (nY ok' sb) (show Rp K U H' (.list es) (.ref a) from .list h1 n (h2.sub fun b hb=>sb.none hb)) q
 |s ns=>exact q.elim
 |o a=>exact q.elim
 |b a=>exact q.elim
 |q p=>exact q.elim
end L2.DL
namespace L2
open PySem PySem.W PyProof.Rows
end L2
namespace L2.DL
open PySem PySem.Spec PyProof.Rows
end L2.DL
namespace L2
open PySem PySem.W PyProof.Rows
end L2
namespace L2.DL
open PySem PySem.Spec PyProof.Rows
end L2.DL
namespace L2
open PySem PySem.Spec PyProof.Rows
end L2
namespace L2.DL
open PySem PySem.W PyProof.Rows
open PySem PySem.Spec PyProof.Rows
noncomputable def qH(U:Mu)(a:Addr):Mu:=⟨fun b=>if b=a then none else U b,U.b⟩
theorem o6{U:Mu}{a:Addr}:qH U a a=none:=if_pos rfl
theorem fE{U:Mu}{a b:Addr}(h:b≠a):qH U a b=U b:=if_neg h
noncomputable def AU(U:Mu)(Qd:DK):DK:=fun d Z=>match d with
 |.v x=>Qd (.v x) Z
 |.m a=>U a=none/\∃es,Z a=some es/\Qd (.v (.list es)) (qH Z a)
 |_=>False
theorem tD{P:Program}{w:World}{K:PySem.W.Frag}{mg:Str->Option Value}{base:Heap}{CX:CXT}{k:Nat}{f:Addr}{fd:FuncData}{ps:List Str}{sp sp':DSp}(F:eJ P w K mg base CX k f fd ps (spD K sp))
  (h:∀ds U Qd,sp' ds U Qd->sp ds U (AU U Qd)):eJ P w K mg base CX k f fd ps (spD K sp'):=by
 refine F.imp fun vs H Q E h'=>?_
 obtain⟨ds,U,Qd,ok,r,s,kk⟩:=h'
 refine⟨ds,U,_,ok,r,h _ _ _ s,fun d u Z H' e ok' rd q=>?_⟩
 cases d with
 |v x=>exact kk (.v x) u Z H' e ok' rd q
 |m a=>
  obtain⟨n,es,he,q⟩:=q
  obtain⟨rfl,_⟩:=rd
  obtain⟨xs,h1,h2⟩:=ok'.lst a es he
  have sb:gP (qH Z a) Z:=⟨fun b ds z=>by
   by_cases c:b=a
   ·rw[c,o6] at z;cases z
   ·rw[fE c] at z;exact z,fun _ _ z=>z⟩
  refine kk (.v (.list es)) (.ref a) (qH Z a) H' ⟨e.keep,e.tb,fun b ds z=>?_,fun b z g=>?_,e.st,e.bx⟩ (nY ok' sb) (show Rp K (qH Z a) H' (.list es) (.ref a) from .list h1 o6 (h2.sub fun b hb=>sb.none hb)) q
  ·have c:b≠a:=fun c=>by rw[c,n] at z;cases z
   rw[fE c];exact e.dom b ds z
  ·exact sb.none (e.fresh b z g)
 |s ns=>exact q.elim
 |o a=>exact q.elim
 |b _=>exact q.elim
 |q p=>exact q.elim
end L2.DL
namespace L2
open PySem PySem.Spec PyProof.Rows
end L2
namespace L2.DL
open PySem PySem.Spec PyProof.Rows
end L2.DL
namespace L2
open PySem PySem.Spec PyProof.Rows
end L2
namespace L2.DL
open PySem PySem.Spec PyProof.Rows
end L2.DL
namespace L2
open PySem PySem.Spec PyProof.Rows
section
variable {X:Cx}
noncomputable def EN(x y:Str):Int:=match Builtin.Str.lastOccurrence x y 0 x.length with|some i=>(i:Nat)|none=>-1
end
end L2
namespace L2
open PySem PySem.Spec PyProof.Rows
end L2
namespace L2
open PySem PySem.Spec PyProof.Rows
end L2
namespace L2.DL
open PySem PySem.Spec PyProof.Rows
section
variable {X:Cx}{a b e e1 e2 o:Expr}{es:List Expr}{ta tb te to:DTE}{t:DTA}{pos p p2 apos cpos:Pos}{lo hi:Option Expr}
noncomputable def CP(x y:Str):Bool:=decide (0+y.length<=x.length)&&Builtin.Str.subAt x y 0
noncomputable def JL(x y:Str):Bool:=decide (0+y.length<=x.length)&&Builtin.Str.subAt x y (x.length-y.length)
end
section
variable {X:Cx}{a b e e1 e2 o tg:Expr}{es:List Expr}{ta tb te to:DTE}{t:DTA}{pos p p2 apos cpos:Pos}{lo hi:Option Expr}
noncomputable abbrev DTJ:=Str->Rho->Mu->(Str->Mu->Prop)->Prop
end
section
variable {X:Cx}{e o:Expr}{te to:DTE}{apos cpos:Pos}
noncomputable def Dh(x y:Str):PyData:=.bool (CP x y)
noncomputable def IJ(x y:Str):PyData:=.bool (JL x y)
noncomputable def GS(x y:Str):PyData:=.int (EN x y)
end
end L2.DL
namespace L2
open PySem PySem.W PyProof.Rows
structure Big(X:Cx):Prop where
 ns:X.base.NoSeer
 tr:X.prog.given.tree=none
 st:X.stack=X.env::X.outer
 g:X.env.scope.isGenerator=false
 c:X.env.scope.isCoroutine=false
 dp:X.A.depth+Builtin.pylongFrames<recursionLimit
section
variable {X:Cx}{pins:List (Addr×Obj)}{O:St}{H:Hp}{s:Shared}
theorem Big.room(b:Big X)(I:Inv X pins O H s):PySem.PylongRoom (model X.prog X.w) X.A s:=
 PySem.PylongRoom.of I.nolimit b.dp (PySem.SeerAt.of (b.ns.keeps I.bk) b.tr (by rw[I.ok.frames,b.st]) b.g b.c I.ok.blt I.ok.glob)
theorem Cw(b:Big X):OpR X (binaryOp .FloorDiv) (rI (fun _ j=>j≠0) fun i j=>.int (i.fdiv j)):=by
 intro pins s O H x y v u Q I rx ry h
 obtain⟨i,j,rfl,rfl,hc,q⟩:=h
 obtain⟨t,rfl⟩:=rx
 obtain⟨t',rfl⟩:=ry
 exact floordiv_int hc ⟨.int (i.fdiv j),H,I.tok _,⟨_,rfl⟩,q⟩ (.inr (b.room I))
theorem Ib{P:Program}{w:World}{K:PySem.W.Frag}{mg:Str->Option Value}{base:Heap}{N:List Str}{qual:Str}{scope:Scope}{f:Addr}{cd:Value}{A:Around}{outer:List Env}{s:Shared}{H:Hp}{E:XK}{k:Nat}{CX:CXT}
  (hs:base.NoSeer) (ht:P.given.tree=none) (hr:cR k (A.deeper (envOfC qual scope s.heap.objs.size f cd))) (hk:32<=k:=by decide) (hg:scope.isGenerator=false:=by rfl) (hc:scope.isCoroutine=false:=by rfl) :
  Big (rR CX P w K mg base N qual scope f cd A outer s H E).nox:=
 ⟨hs,ht,rfl,hg,hc,by have:=hr.dp;show (A.deeper (envOfC qual scope s.heap.objs.size f cd)).depth+100<1000;have e:recursionLimit=1000:=rfl;omega⟩
end
end L2
namespace L2.DL
open PySem PySem.Spec PyProof.Rows
section
variable {X:Cx}{a b:Expr}{ta tb:DTE}{pos:Pos}
noncomputable abbrev eo(ta tb:DTE):DTE:=dOp (rII (fun _ j=>j≠0) fun i j=>.int (i.fdiv j)) ta tb
theorem C6(g:Big X)(ha:DE X a ta)(hb:DE X b tb):DE X (.BinOp a .FloorDiv b pos) (eo ta tb):=l4 (Cw g) (BG fun _ _ _ _=>.int _) ha hb
noncomputable def JU(i j:Int):Prop:=0<=j/\(Builtin.Int.intBits i:Int)+j<=2 ^ 27
theorem CL:OpR X (binaryOp .LShift) (rI JU fun i j=>.int (i*2 ^ j.toNat)):=opI fun _ _ _ _ _ _ _ hc q=>lshift_int hc.1 hc.2 q
noncomputable abbrev Ex(ta tb:DTE):DTE:=dOp (rII JU fun i j=>.int (i*2 ^ j.toNat)) ta tb
theorem CU(ha:DE X a ta)(hb:DE X b tb):DE X (.BinOp a .LShift b pos) (Ex ta tb):=l4 CL (BG fun _ _ _ _=>.int _) ha hb
end
end L2.DL
namespace L2
open PySem PySem.Spec PyProof.Rows DL
theorem yR{P:Program}{w:World}{K:PySem.W.Frag}{mg mb:Str->Option Value}{CX:CXT}{k:Nat}{fa a:Addr}{fd:FuncData}{x:Str}{sp:Sp}{bi:Shared}{vs:List Value}{ns:List Int}(tabs:List Addr)
  (hT:∀p∈tabs,bi.heap.get? p=some (PySem.W.tabObj #[])/\K.lookup p=none) (hA2:∀c o p q,K.lookup c=some o->bu o=some (p,q)->p∈tabs) (hC:∀p∈tabs,isCodeTable bi.heap p)
  (KX:K.In bi.heap) (hns:bi.heap.Ns mainGlobals mg) (hb:bi.heap.Ns builtinsNs mb) (hbb:∀x:Str,x ≠ "__name__"->mb x=bootBuiltins x) (hlim:bi.heap.NoLimit) (hse:bi.heap.NoSeer) (hg:bi.gens = #[])
  (ha:bi.heap.get? a=some {cls:=.type "list",data:=.seq vs.toArray}) (hi:IntsAre vs ns) (hl:ns.length<=sizeLine) (hr:cR k callerA)
  (F:∀base:Heap,K.In base->base.Ns mainGlobals mg->base.NoSeer->eJ P w K mg base CX k fa fd [x] sp) (hbind:∀(s:Shared) (u:Value),BindsTo s fd ⟨[u],[]⟩ [(x,u)])
  (hsp:∀H:Hp,vb K H->SqL K H a (ns.map V.int)->sp [.ref a] H (fun v _=>v = .bl true) fun _ _ _=>False)
  (hCX:∀H e s',CX [] H bi (fun _ _ _=>False) e s'->False) :
  codeAny (model P w) callerA (.call (.ref fa) ⟨[.ref a],[]⟩) (fun r s'=>r = .ok (.ret (.bool true))/\OldK bi.heap s'.heap/\s'.os=bi.os/\AllBare s'.gens) bi:=by
 have rv:=qK hi
 have lenV:=hi.length
 have ant:a ∉ tabs:=fun z=>by have:=(hT a z).1;rw[ha] at this;cases this
 have core:∀H:Hp,Jq tabs H->SqL K H a (ns.map V.int)->HOk P w H bi.heap->(∀b,H b≠none->b=a\/b∈tabs)->(H a≠none->K.lookup a=none)->(∀p∈tabs,H p=some (.tbl #[])) ->
   codeAny (model P w) callerA (.call (.ref fa) ⟨[.ref a],[]⟩) (fun r s'=>r = .ok (.ret (.bool true))/\OldK bi.heap s'.heap/\s'.os=bi.os/\AllBare s'.gens) bi:=by
  intro H hO hS hok hA hK hP
  have base_of:∀{b:Addr} {o:Obj},bi.heap.get? b=some o->H b=none->(qm bi.heap H).get? b=some o:=fun e n=>A0 e n
  have noA:∀{b:Addr} {o:Obj} {es:Array DictEntry} {ep:Nat},bi.heap.get? b=some o->o.data = .dict es ep->H b=none:=fun {b o es ep} e d=>by
   cases q:H b with
   |none=>rfl
   |some u=>
    rcases hA b (by rw[q];simp) with e'|e'
    ·subst e'
     rw[ha] at e;cases e
     have d':Data.seq vs.toArray _=Data.dict es ep:=d
     cases d'
    ·rw[(hT b e').1] at e;cases e
     have d':Data.fields #[]=Data.dict es ep:=d
     cases d'
  have nsK:∀{b:Addr} {m:Str->Option Value},bi.heap.Ns b m->(qm bi.heap H).Ns b m:=fun {b m} ⟨o,es,ep,e,d,r⟩=>⟨o,es,ep,base_of e (noA e d),d,r⟩
  have hKb:K.In (qm bi.heap H):=fun b o e=>base_of (KX b o e) (by
   cases q:H b with
   |none=>rfl
   |some u=>
    rcases hA b (by rw[q];simp) with e'|e'
    ·subst e'
     rw[hK (by rw[q];simp)] at e;cases e
    ·have e2:=e;rw[show K.lookup b=none from (hT b e').2] at e2;cases e2)
  have hM:Mod K mg (qm bi.heap H):=⟨hKb,nsK hns,⟨mb,nsK hb,hbb⟩,let ⟨mc,h1,h2⟩:=hlim;⟨mc,nsK h1,h2⟩⟩
  have sK:(qm bi.heap H).NoSeer:=by
   obtain⟨⟨mc,c1,c2⟩,⟨mm,m1,m2⟩,⟨mb',b1,b2⟩,mg',bm,ob,g1,g2,g3,g4,g5⟩:=hse
   refine⟨⟨mc,nsK c1,c2⟩,⟨mm,nsK m1,m2⟩,⟨mb',nsK b1,b2⟩,mg',bm,ob,nsK g1,g2,base_of g3 ?_,g4,g5⟩
   cases q:H bm with
   |none=>rfl
   |some u=>
    rcases hA bm (by rw[q];simp) with e'|e'
    ·subst e';rw[ha] at g3;cases g3;simp at g4
    ·rw[(hT bm e').1] at g3;cases g3;simp at g4
  have e0:Cp P w K mg (qm bi.heap H) callerA [] bi H:=⟨rfl,hM,fun b o e=>Dy e,Nat.le_of_eq (ym _ _),trivial,fun b hb=>absurd (show b∈([]:List Addr) from hb) (by simp),hok,.of_eq hg⟩
  have tb:vb K H:=fun c o p q h1 h2=>⟨#[],hP p (hA2 c o p q h1 h2),trivial,fun pos cv e=>by simp[codeAmong] at e⟩
  refine codeAny_mono ((F _ hKb (nsK hns) sK).run callerA [] bi H ⟨[.ref a],[]⟩ [.ref a] [.ref a] _ _ hr e0 (hbind bi (.ref a)) (.cons rfl .nil) (hsp H tb hS)) fun r s' h=>?_
  cases r with
  |error e=>exact (hCX H e s' h).elim
  |ok fl=>
   cases fl with
   |next=>exact False.elim h
   |brk=>exact False.elim h
   |cont=>exact False.elim h
   |ret u=>
    obtain⟨v,H',os,bare,un,hok',r',q⟩:=h
    have q':v = .bl true:=q
    subst q'
    obtain rfl:u=Value.bool true:=r'
    refine⟨rfl,⟨fun b o e=>?_,fun b o e=>un.there b o e (by simp)⟩,os,bare⟩
    cases q:H b with
    |none=>exact .inl (un.keep b o e q (by intro z;exact absurd (show b∈([]:List Addr) from z) (by simp)) (by simp))
    |some u=>
     rcases hO b with z|⟨ob,xs,z⟩|⟨zt,z⟩
     ·rw[q] at z;cases z
     ·have z2:=un.lF b ob _ z
      obtain⟨e1,_⟩:=hok b _ z
      obtain⟨e2,_⟩:=hok' b _ z2
      rw[e] at e1;cases e1
      exact .inl e2
     ·obtain⟨more,z2⟩:=un.lK b _ z
      have e2:s'.heap.get? b=some {cls:=.none,data:=.fields (#[]++more)}:=hok' b _ z2
      have e1:=(hT b zt).1
      rw[e] at e1;cases e1
      exact .inr (.inl ⟨hC b zt,rfl,#[],more,rfl,e2⟩)
 have okT:∀p∈tabs,bi.heap.get? p=some {cls:=.none,data:=.fields #[]}:=fun p hp=>(hT p hp).1
 cases hk:K.lookup a with
 |some o=>
  have e:=KX a o hk
  rw[ha] at e
  cases e
  refine core (fun b=>if b∈tabs then some (.tbl #[]) else none) (fun b=>?_) (.inr ⟨_,vs.toArray,_,hk,rfl,rfl,rfl,by rw[size_toArray,lenV];exact hl,by simpa using rv⟩) (fun b u z=>?_) (fun b z=>?_) (fun z=>absurd (if_neg ant) z) (fun p hp=>if_pos hp)
  ·by_cases hb:b∈tabs
   ·exact .inr (.inr ⟨hb,if_pos hb⟩)
   ·exact .inl (if_neg hb)
  ·by_cases hb:b∈tabs
   ·have z':=(if_pos hb).symm.trans z;cases z';exact okT b hb
   ·have z':=(if_neg hb).symm.trans z;cases z'
  ·by_cases hb:b∈tabs
   ·exact .inr hb
   ·exact absurd (if_neg hb) z
 |none=>
  refine core (fun b=>if b=a then some (.frz {cls:=.type "list",data:=.seq vs.toArray} (.lst (ns.map V.int))) else if b∈tabs then some (.tbl #[]) else none) (fun b=>?_) (.inl (.inr ⟨{cls:=.type "list",data:=.seq vs.toArray},if_pos rfl⟩)) (fun b u z=>?_) (fun b z=>?_) (fun _=>hk) (fun p hp=>by
   have:p≠a:=fun y=>ant (by rw[<- y];exact hp)
   exact (if_neg this).trans (if_pos hp))
  ·by_cases hb:b=a
   ·exact .inr (.inl ⟨_,_,if_pos hb⟩)
   ·by_cases hb2:b∈tabs
    ·exact .inr (.inr ⟨hb2,(if_neg hb).trans (if_pos hb2)⟩)
    ·exact .inl ((if_neg hb).trans (if_neg hb2))
  ·by_cases hb:b=a
   ·have z':=(if_pos hb).symm.trans z
    cases z'
    subst hb
    exact⟨ha,by rw[length_map];exact hl,vs,_,rv,ha⟩
   ·by_cases hb2:b∈tabs
    ·have z':=((if_neg hb).trans (if_pos hb2)).symm.trans z;cases z';exact okT b hb2
    ·have z':=((if_neg hb).trans (if_neg hb2)).symm.trans z;cases z'
  ·by_cases hb:b=a
   ·exact .inl hb
   ·by_cases hb2:b∈tabs
    ·exact .inr hb2
    ·exact absurd ((if_neg hb).trans (if_neg hb2)) z
theorem A3{l:PySem.W.OpenLaw}{n k:Nat}{q:Program}{loose:List Str}{XP:(Str->Option Value)->Heap->Prop}{YP:World->Heap->Prop}{d:DefRec}{K:Params->PySem.W.Frag}{CX:World->CXT}{sp:World->Sp}{x:Str}(tabs:List Addr)
  (him:importsNone q=true) (hn:l.most=some n) (hn2:n<=sizeLine) (hdf:d.params.defaults=[]) (hr:cR k callerA)
  (hY:∀(w:World) (h:Heap),YP w h->(K w.params).In h/\(∀p∈tabs,h.get? p=some (PySem.W.tabObj #[])/\(K w.params).lookup p=none)/\(∀p∈tabs,isCodeTable h p))
  (hA2:∀(w:World) c o p q,(K w.params).lookup c=some o->bu o=some (p,q)->p∈tabs)
  (F:∀(w:World) (mg:Str->Option Value) (fa:Addr) (h:Heap),(K w.params).In h->h.Ns mainGlobals mg->mg d.name=some (.ref fa) ->
   ∃fd:FuncData,(∀(s:Shared) (u:Value),BindsTo s fd ⟨[u],[]⟩ [(x,u)]) /\
    ∀base:Heap,(K w.params).In base->base.Ns mainGlobals mg->base.NoSeer->eJ l.prog w (K w.params) mg base (CX w) k fa fd [x] (sp w))
  (hsp:∀(w:World) (H:Hp) (a:Addr) (ns:List Int),ns.length<=n->vb (K w.params) H->SqL (K w.params) H a (ns.map V.int)->sp w [.ref a] H (fun v _=>v = .bl true) fun _ _ _=>False)
  (hCX:∀(w:World) (H:Hp) (s:Shared) (e:Value) (s':Shared),CX w [] H s (fun _ _ _=>False) e s'->False) :
  PySem.W.WalkO q loose XP YP l.row.toRowW d [] (fun f vs=>PySem.call f vs):=by
 refine Att.ve hn hdf fun w ce bi mg mb fa o pm cd doc a vs ns G ZY ho hd hcd hmg hobj hints hlen hg=>?_
 obtain⟨KX,hT,hC⟩:=hY w _ ZY
 obtain⟨fd,hb,hF⟩:=F w mg fa _ KX G.T.g hmg
 exact yR tabs hT (hA2 w) hC KX G.T.g G.T.b G.T.builtins G.T.nolimit (G.T.seer him) hg hobj hints (le_trans hlen hn2) hr hF hb (fun H hO hS=>hsp w H a ns hlen hO hS) fun H e s'=>hCX w H bi e s'
end L2
namespace L2.DL
open PySem PySem.Spec PyProof.Rows
section
variable {prog:Program}{w:World}{A:Around}{E:Value->Shared->Prop}{s:Shared}
theorem yA{z TI TO i1 i2 l1 l2:Addr}{k1 k2:Nat}{xs ys:Array Value}{x y a b:Value}{Q:Option Value->Shared->Prop}(D:ZipApart z TI TO i1 i2 l1 l2)
  (hz:IsZip s.heap z TI TO .none) (hTI:IsPair s.heap TI (.ref i1) (.ref i2)) (hTO:IsPair s.heap TO a b)
  (h1:IsTupIter s.heap i1 l1 k1) (h2:s.heap.IsListIter i2 l2 k2) (hl1:IsTup s.heap l1 xs) (hl2:s.heap.IsList l2 ys) (hx:xs[k1]? = some x) (hy:ys[k2]? = some y)
  (k:∀h',IsZip h' z TI TO (rawInt s.heap.objs.size)->IsPair h' TO x y->IsTupIter h' i1 l1 (k1+1)->h'.IsListIter i2 l2 (k2+1)->IsPair h' s.heap.objs.size x y->h'.objs.size=s.heap.objs.size+1 ->
   (∀c o,c≠z->c≠TO->c≠i1->c≠i2->s.heap.get? c=some o->h'.get? c=some o)->Q (some (.ref s.heap.objs.size)) {s with heap:=h'}) :
  wpAny (model prog w) A (pyNext (.ref z)) Q E s:=by
 have hT:s.TypeIs (.ref z) "zip":=⟨_,hz,rfl⟩
 unfold pyNext
 refine wpAny_bind (wpAny_attempt (wpAny_callSpecial?_slot (name:=Str.ofString "__next__") hT F.slot_zip_next (wpAny_call_entry F.slot_zip_next hT F.entry_zip_next ?_ (F.args_zip_next_1 _))))
 refine Br (st1:=fun h=>IsTupIter h i1 l1 (k1+1)) (st2:=fun h=>h.IsListIter i2 l2 (k2+1)) D.TIz D.TOz D.i1z D.i2z D.TOi1 D.TOi2 hz hTI hTO
  (fun h b R E' kk=>wC (s:={s with heap:=h}) (h1.extBut b.extBut D.i1z) (IsTup.extBut hl1 b.extBut D.l1z) hx kk)
  (fun h h1 _ b b' h2' b'' R E' kk=>wpAny_nextOf_list_item (s:={s with heap:=h2'}) (h2.at fun o e=>b''.extBut _ _ D.TOi2.symm (b'.extBut _ _ D.i12.symm (b.extBut _ _ D.i2z e))) (let ⟨o,e,r⟩:=hl2;⟨o,b''.extBut _ _ D.l2TO (b'.extBut _ _ D.l2i1 (b.extBut _ _ D.l2z e)),r⟩) hy kk)
  fun g1 g2 g3 g4 h' s1 c1 c2 s3 c3 up a1 a2 a3 a4 a5=>wpAny_pure (k h' a1 a2 ?_ ?_ a3 a4 a5)
 ·exact nP (((s1.extBut c1.extBut D.TOi1.symm).extBut c2.extBut D.i12).extBut c3.extBut D.TOi1.symm) fun o e=>up _ o D.i1z e
 ·exact s3.at fun o e=>up _ o D.i2z (c3.extBut _ _ D.TOi2.symm e)
theorem zo{z TI TO i1 i2 l1 l2:Addr}{k1:Nat}{xs:Array Value}{Q:Option Value->Shared->Prop}(hh:A.handled=none)(D:ZipApart z TI TO i1 i2 l1 l2)
  (hz:IsZip s.heap z TI TO .none) (hTI:IsPair s.heap TI (.ref i1) (.ref i2))
  (h1:IsTupIter s.heap i1 l1 k1) (hl1:IsTup s.heap l1 xs) (hx:xs[k1]? = none)
  (k:∀h',(∀c o,c≠z->c≠TO->c≠i1->c≠i2->s.heap.get? c=some o->h'.get? c=some o)->Q none {s with heap:=h'}):wpAny (model prog w) A (pyNext (.ref z)) Q E s:=by
 have hT:s.TypeIs (.ref z) "zip":=⟨_,hz,rfl⟩
 unfold pyNext
 refine wpAny_bind (wpAny_attempt (wpAny_callSpecial?_slot (name:=Str.ofString "__next__") hT F.slot_zip_next (wpAny_call_entry F.slot_zip_next hT F.entry_zip_next ?_ (F.args_zip_next_1 _))))
 show wpAny _ _ (field (.ref z) 2>>=_) _ _ _
 refine wpAny_bind (wpAny_field hz rfl (x:=.bool false) rfl ?_)
 show wpAny _ _ (field (.ref z) 3>>=_) _ _ _
 refine wpAny_bind (wpAny_field hz rfl (x:=.ref TI) rfl (wpAny_bind (wpAny_seqItems hTI rfl ?_)))
 show wpAny _ _ (Builtin.SmallTypes.ownedTupleIsFree (.ref z)>>=_) _ _ _
 refine wpAny_bind ?_
 unfold Builtin.SmallTypes.ownedTupleIsFree
 refine wpAny_bind (wpAny_field hz rfl (x:=.none) rfl (wpAny_pure ?_))
 simp only[if_true]
 refine wpAny_bind (wpAny_rule (wpAny_bind (wpAny_field hz rfl (x:=.ref TO) rfl (wpAny_bind (wpAny_setField_rec hz (by simp) fun g1 z1 b1=>wpAny_bind ?_)))))
 simp only[List.zipIdx_cons,List.zipIdx_nil,List.forIn_cons,List.forIn_nil]
 refine wpAny_bind (wpAny_bind (wpAny_onRaise ?_))
 show wpAny _ _ (Builtin.SmallTypes.nextOf (.ref i1)>>=_) _ _ _
 refine wpAny_bind (tK (s:={s with heap:=g1}) hh (h1.extBut b1.extBut D.i1z) (IsTup.extBut hl1 b1.extBut D.l1z) hx fun g2 e b2 hq0=>?_)
 obtain⟨oe,hoe,hce⟩:=hq0
 have z2:IsZip g2 z TI TO .ellipsis:=b2 _ _ D.i1z.symm z1
 have ez:e≠z:=fun q=>by subst q;rw[z2] at hoe;cases hoe;simp at hce
 exact wpAny_setField_rec z2 (by simp) fun g3 _ b3=>wpAny_bind (wpAny_isInstance (T:="StopIteration") (b:=true) ⟨oe,b3.extBut _ _ ez hoe,hce⟩ isSubtype_stop (wpAny_pure (k _ fun c o c1 _ c3 _ q=>b3.extBut _ _ c1 (b2 _ _ c3 (b1.extBut _ _ c1 q)))))
noncomputable abbrev zm1(h:Heap)(l:Addr):Heap:=h.push {cls:=.type "tuple_iterator",data:=.fields #[.ref l,.int 0 0]}
noncomputable abbrev zm2(h:Heap)(l1 l2:Addr):Heap:=(zm1 h l1).push {cls:=.type "list_iterator",data:=.fields #[.ref l2,.int 0 0]}
noncomputable abbrev zm3(h:Heap)(l1 l2:Addr):Heap:=(zm2 h l1 l2).push {cls:=.type "tuple",data:=.seq #[.ref h.objs.size,.ref (zm1 h l1).objs.size]}
noncomputable abbrev zm4(h:Heap)(l1 l2:Addr):Heap:=(zm3 h l1 l2).push {cls:=.type "tuple",data:=.seq #[.none,.none]}
noncomputable abbrev zm5(h:Heap)(l1 l2:Addr):Heap:=(zm4 h l1 l2).push {cls:=.type "zip",data:=.fields #[.none,.bool false,.bool false,.ref (zm2 h l1 l2).objs.size,.ref (zm3 h l1 l2).objs.size]}
theorem wy(l1 l2:Addr)(xs ys:Array Value):Meets (Builtin.«zip.__new__» ⟨[.type "zip",.ref l1,.ref l2],[]⟩) (fun _ R s=>IsTup s.heap l1 xs/\s.heap.IsList l2 ys/\R (.ok (.ret (.ref (zm4 s.heap l1 l2).objs.size))) {s with heap:=zm5 s.heap l1 l2}):=
 .of_wp fun prog w A R s h=>by
  obtain⟨hp,g,d,tk,os⟩:=s
  obtain⟨t1,t2,h⟩:=h
  have hsub:=sub_zip
  have T1:IsTup (Shared.heap ⟨hp,g,d,tk,os⟩) l1 xs:=t1
  have T2:(Shared.heap ⟨hp.push {cls:=.type "tuple_iterator",data:=.fields #[.ref l1,.int 0 0]},g,d,tk,os⟩).IsList l2 ys:=let ⟨o,ho,r⟩:=t2;⟨o,Heap.get?_push_of_some _ ho,r⟩
  wp_walk using iter_tuple T1,wpAny_pyIter_list T2
  exact⟨_,rfl,h⟩
theorem y8{l1 l2:Addr}{xs ys:Array Value}{Q:Value->Shared->Prop}(t1:IsTup s.heap l1 xs)(t2:s.heap.IsList l2 ys)
  (k:∀h',IsZip h' (s.heap.objs.size+4) (s.heap.objs.size+2) (s.heap.objs.size+3) .none->IsPair h' (s.heap.objs.size+2) (.ref s.heap.objs.size) (.ref (s.heap.objs.size+1)) ->
   IsPair h' (s.heap.objs.size+3) .none .none->IsTupIter h' s.heap.objs.size l1 0->h'.IsListIter (s.heap.objs.size+1) l2 0 ->
   (∀c o,s.heap.get? c=some o->h'.get? c=some o)->Q (.ref (s.heap.objs.size+4)) {s with heap:=h'}) :
  wpAny (model prog w) A (call (.type "zip") [.ref l1,.ref l2]) Q E s:=by
 refine callType_new F.called_zip ⋯ (F.typeCall_zip_2 _ _) (F.newCall_zip_2 _ _) (fun obj=>F.args_object_init_3 obj _ _) F.entry_zip_new (wy l1 l2 xs ys) ⟨t1,t2,?_⟩
 have e1:(zm1 s.heap l1).objs.size=s.heap.objs.size+1:=Heap.size_push ..
 have e2:(zm2 s.heap l1 l2).objs.size=s.heap.objs.size+2:=by rw[Heap.size_push,e1]
 have e3:(zm3 s.heap l1 l2).objs.size=s.heap.objs.size+3:=by rw[Heap.size_push,e2]
 have e4:(zm4 s.heap l1 l2).objs.size=s.heap.objs.size+4:=by rw[Heap.size_push,e3]
 have up:∀{h:Heap} {c:Addr} {o u:Obj},h.get? c=some o->(h.push u).get? c=some o:=fun e=>Heap.get?_push_of_some _ e
 have g5:(zm5 s.heap l1 l2).get? (zm4 s.heap l1 l2).objs.size=some _:=Heap.get?_push_size _ rfl
 have g4:(zm5 s.heap l1 l2).get? (zm3 s.heap l1 l2).objs.size=some _:=up (Heap.get?_push_size _ rfl)
 have g3:(zm5 s.heap l1 l2).get? (zm2 s.heap l1 l2).objs.size=some _:=up (up (Heap.get?_push_size _ rfl))
 have g2:(zm5 s.heap l1 l2).get? (zm1 s.heap l1).objs.size=some _:=up (up (up (Heap.get?_push_size _ rfl)))
 have g1:(zm5 s.heap l1 l2).get? s.heap.objs.size=some _:=up (up (up (up (Heap.get?_push_size _ rfl))))
 show _/\_
 rw[e2,e3,e4] at g5
 rw[e1,e2] at g3
 rw[e3] at g4
 rw[e1] at g2
 rw[e4]
 exact⟨⟨_,g5,rfl⟩,k _ g5 g3 g4 ⟨_,g1,rfl,rfl⟩ ⟨_,g2,rfl,rfl⟩ fun c o x=>up (up (up (up (up x))))⟩
end
noncomputable def JA(K:PySem.W.Frag)(l1 l2:Addr):It:=
 ⟨fun i H=>∃xs ys x y,SqT K H l1 xs/\SqL K H l2 ys/\xs[i]? = some x/\ys[i]? = some y,
  fun i H v H'=>∃p x y,v = .ref p/\H p=none/\H'=upd H p (.tup [x,y])/\(∀xs,SqT K H l1 xs->xs[i]? = some x)/\(∀ys,SqL K H l2 ys->ys[i]? = some y),
  fun i H=>∃xs,SqT K H l1 xs/\xs.length<=i⟩
noncomputable def GP(z TI TO i1 i2 l1 l2:Addr)(i:Nat)(h:Heap):Prop:=IsZip h z TI TO .none/\IsPair h TI (.ref i1) (.ref i2)/\(∃a b,IsPair h TO a b)/\IsTupIter h i1 l1 i/\h.IsListIter i2 l2 i
theorem yI{P:Program}{w:World}{K:PySem.W.Frag}{es:List Expr}{x1:Nat}{pos:Pos}(z TI TO i1 i2 l1 l2:Addr)(D:ZipApart z TI TO i1 i2 l1 l2) :
  Turn true P w K (.Tuple es x1 pos) (JA K l1 l2) [z,TI,TO,i1,i2] z (GP z TI TO i1 i2 l1 l2) where
 mem:=by simp
 obj:=fun i h st b hb=>by
  obtain⟨a1,a2,⟨u,v,a3⟩,⟨o4,a4,c4,d4⟩,⟨o5,a5,c5,d5⟩⟩:=st
  simp only[mem_cons,not_mem_nil,or_false] at hb
  rcases hb with rfl|rfl|rfl|rfl|rfl
  ·exact⟨_,a1,fun v z=>by cases z⟩
  ·exact⟨_,a2,fun v z=>by cases z⟩
  ·exact⟨_,a3,fun v z=>by cases z⟩
  ·exact⟨_,a4,fun v z=>by rw[d4] at z;cases z⟩
  ·exact⟨_,a5,fun v z=>by rw[d5] at z;cases z⟩
 keep:=fun i h h' st k=>by
  obtain⟨a1,a2,⟨u,v,a3⟩,a4,a5⟩:=st
  exact⟨k z (by simp) _ a1,k TI (by simp) _ a2,⟨u,v,k TO (by simp) _ a3⟩,nP a4 fun o e=>k i1 (by simp) o e,a5.at fun o e=>k i2 (by simp) o e⟩
 item:=by
  intro X hP hw hK hc i pins s O H E I hf st hg
  subst hP hw hK
  obtain⟨xs,ys,x,y,hq1,hq2,hx,hy⟩:=hg
  obtain⟨its1,rv1,p1,_⟩:=I.tuple hq1
  obtain⟨its2,rv2,p2,_⟩:=I.list hq2
  obtain⟨u,hu,ru⟩:=rv1.get hx
  obtain⟨v,hv,rv⟩:=rv2.get hy
  obtain⟨a1,a2,⟨c,d,a3⟩,a4,a5⟩:=id st
  refine yA D a1 a2 a3 a4 a5 p1 p2.isList (x:=u) (y:=v) (by simpa using hu) (by simpa using hv) fun h' b1 b2 b3 b4 b5 b6 b7=>?_
  refine⟨.ref s.heap.objs.size,rfl,wpAny_letOwnedTupleGo_zip (s:={s with heap:=h'}) b1 fun h2 c1 sb=>?_⟩
  have hT:h2.get? s.heap.objs.size=some {cls:=.type "tuple",data:=.seq #[u,v]}:=sb.extBut _ _ (Nat.ne_of_gt (Heap.lt_size a1)) b5
  refine⟨.ref s.heap.objs.size,upd H s.heap.objs.size (.tup [x,y]),?_,rfl,⟨s.heap.objs.size,x,y,rfl,I.hok.fresh (le_refl _),rfl,fun zs hz=>by rw[I.qQ hz hq1];exact hx,fun zs hz=>by rw[I.tU hz hq2];exact hy⟩,?_,fun b hb=>?_⟩
  ·refine Inv.vM (s:=s) (h':=h2) (t':=s.toks) (ch:=[z,TI,TO,i1,i2]) I hf (fun b o hb e=>?_) (le_refl _) ⟨by show 2<=sizeLine;decide,[u,v],.cons ru (.cons rv .nil),_,hT,rfl,0,rfl⟩
   simp only[mem_cons,not_mem_nil,or_false,not_or] at hb
   exact sb.extBut _ _ hb.1 (b7 b o hb.1 hb.2.2.1 hb.2.2.2.1 hb.2.2.2.2 e)
  ·have k2:∀b o,b≠z->h'.get? b=some o->h2.get? b=some o:=fun b o hb e=>sb.extBut _ _ hb e
   exact⟨c1,k2 _ _ D.TIz (b7 _ _ D.TIz D.TITO D.TIi1 D.TIi2 a2),⟨_,_,k2 _ _ D.TOz b2⟩,nP b3 fun o e=>k2 _ o D.i1z e,b4.at fun o e=>k2 _ o D.i2z e⟩
  ·have hb':b<s.heap.objs.size:=by
    simp only[mem_cons,not_mem_nil,or_false] at hb
    obtain⟨o4,e4,_⟩:=a4
    obtain⟨o5,e5,_⟩:=a5
    rcases hb with rfl|rfl|rfl|rfl|rfl
    ·exact Heap.lt_size a1
    ·exact Heap.lt_size a2
    ·exact Heap.lt_size a3
    ·exact Heap.lt_size e4
    ·exact Heap.lt_size e5
   rw[aH (ne_of_lt hb')]
   exact (hf b hb).1
 done:=by
  intro X hP hw hK hc i pins s O H E I hf st hg
  subst hP hw hK
  obtain⟨xs,hq1,hx⟩:=hg
  obtain⟨its1,rv1,p1,_⟩:=I.tuple hq1
  obtain⟨a1,a2,⟨c,d,a3⟩,a4,a5⟩:=id st
  have hl1:=rv1.length
  refine zo (I.ok.hd (hc rfl)) D a1 a2 a4 p1 (by simp;omega) fun h' b7=>⟨rfl,?_⟩
  ·refine Inv.DV (t':=s.toks) (ch:=[z,TI,TO,i1,i2]) I hf fun b o hb e=>?_
   simp only[mem_cons,not_mem_nil,or_false,not_or] at hb
   exact b7 b o hb.1 hb.2.2.1 hb.2.2.2.1 hb.2.2.2.2 e
 self:=fun _ _ _ _ _ st h=>wpAny_pyIter_zip st.1 h
section
variable {X:Cx}{es:List Expr}{x1:Nat}{tpos:Pos}
noncomputable def Kc(K:PySem.W.Frag)(ta:TA):TI:=fun O H R=>ta O H fun vs H1=>∃l1 l2,vs=[.ref l1,.ref l2]/\(∃xs,SqT K H1 l1 xs)/\(∃ys,SqL K H1 l2 ys)/\R (JA K l1 l2) H1
theorem Dw{a b:Expr}{ta:TA}{p pos:Pos}(hc:X.calm=true)(hg:Gl X "zip")(hm:X.mg "zip"=none)(ha:PA X [a,b] ta)(hs:starEach [a,b] X.env=[(false,eval a X.env),(false,eval b X.env)]:=by rfl)(hs2:starEach [b] X.env=[(false,eval b X.env)]:=by rfl) :
  PI X (.Tuple es x1 tpos) (.Call (.Name "zip" p) [a,b] [] pos) (Kc X.K ta):=by
 intro pins s O H R I h
 refine Call_ (lI I hg hm PyProof.Rows.Boot.«zip» (PyProof.Rows.callWith_type1 (thn (ha pos pins s O H _ I h) fun us s1 hq0=>?_) (by rw[hs,hs2]) (by rw[hs2];rfl)))
 obtain⟨vs,H1,I1,r1,q1⟩:=hq0
 obtain⟨l1,l2,e,⟨xs,hq1⟩,⟨ys,hq2⟩,q⟩:=q1
 subst e
 cases r1 with
 |cons r rr=>
  cases rr with
  |cons r' rr=>
   cases rr
   cases r
   cases r'
   obtain⟨its1,rv1,p1,_⟩:=I1.tuple hq1
   obtain⟨its2,rv2,p2,_⟩:=I1.list hq2
   have n1:l1<s1.heap.objs.size:=by obtain⟨_,e,_⟩:=id p1;exact Heap.lt_size e
   have n2:l2<s1.heap.objs.size:=by obtain⟨_,e,_⟩:=p2.isList;exact Heap.lt_size e
   refine y8 p1 p2.isList fun h' hz hTI hTO hi1 hi2 hk=>?_
   refine wpAny_pyIter_zip (s:={s1 with heap:=h'}) hz ?_
   refine⟨s1.heap.objs.size+4,[s1.heap.objs.size+4,s1.heap.objs.size+2,s1.heap.objs.size+3,s1.heap.objs.size,s1.heap.objs.size+1],_,_,H1,rfl,I1.kept (t':=s1.toks) hk,(yI _ _ _ _ _ l1 l2 (zipApart_new n1 n2)).calm hc,⟨hz,hTI,⟨_,_,hTO⟩,hi1,hi2⟩,fun b hb=>?_,q⟩
   have hb':s1.heap.objs.size<=b:=by
    simp only[mem_cons,not_mem_nil,or_false] at hb
    rcases hb with rfl|rfl|rfl|rfl|rfl
    ·exact le_add_right _ 4
    ·exact le_add_right _ 2
    ·exact le_add_right _ 3
    ·exact le_refl _
    ·exact le_add_right _ 1
   exact I1.AS hb' (I1.hok.fresh hb')
noncomputable def wG(t:DTA):DTI:=fun ρ U Q=>t ρ U fun ds Y=>∃xs ys,ds=[.v (.tuple xs),.v (.list ys)]/\xs.length=ys.length/\Q (gj xs ys) Y
theorem B3{a b:Expr}{t:DTA}{p pos:Pos}(hg:Gl X "zip")(hm:X.mg "zip"=none)(ha:DA X [a,b] t)(hs:starEach [a,b] X.env=[(false,eval a X.env),(false,eval b X.env)]:=by rfl)(hs2:starEach [b] X.env=[(false,eval b X.env)]:=by rfl)(hc:X.calm=true:=by rfl) :
  DI X (.Tuple es x1 tpos) (.Call (.Name "zip" p) [a,b] [] pos) (wG t):=by
 obtain⟨t1,p1,l1⟩:=ha
 refine⟨_,Dw hc hg hm p1 hs hs2,fun O H ρ U Qd R S h k=>?_⟩
 refine l1 O H ρ U _ _ S h fun ds us Y H1 e1 S1 rs len h1=>?_
 obtain⟨xs,ys,rfl,hl,h1⟩:=h1
 cases rs with
 |cons r1 r2=>
  cases r2 with
  |cons r2 r3=>
   cases r3
   cases r1 with
   |@tuple a us _ ha ra=>
    cases r2 with
    |@list b ws _ hb hnb rb=>
     refine⟨a,b,rfl,⟨us,ha⟩,⟨ws,SqL.of hb⟩,k (gj xs ys) Y H1 _ e1 S1 (fun ac H2 e2 ok2 i=>⟨fun hi=>?_,fun hi=>?_⟩) h1⟩
     ·rw[kS] at hi
      have ha2:=eM S1.mu e2 ha
      have hb2:SqL X.K H2 b ws:=SqL.of (e2.keep _ _ hb hnb trivial)
      have i1:i<us.length:=by rw[<- ra.length];omega
      have i2:i<ws.length:=by rw[<- rb.length];omega
      refine⟨⟨us,ws,us[i],ws[i],ha2,hb2,by simp[i1],by simp[i2]⟩,?_⟩
      rintro v H' ⟨p,x,y,rfl,hp,rfl,hx,hy⟩
      obtain⟨u',h1',h2'⟩:=ra.get (i:=i) (d:=xs[i]'∅) (by simp)
      obtain⟨w',g1',g2'⟩:=rb.get (i:=i) (d:=ys[i]'∅) (by simp)
      have z1:=hx us ha2
      have z2:=hy ws hb2
      rw[h1'] at z1
      rw[g1'] at z2
      cases z1
      cases z2
      refine⟨.tuple [xs[i]'∅,ys[i]'∅],uJ (by simp) (by simp),tM hp,?_⟩
      exact c6 ok2 (.cons (h2'.ext S1.mu e2) (.cons (g2'.ext S1.mu e2) .nil)) hp
     ·rw[kS] at hi
      have l1:=ra.length
      exact⟨us,eM S1.mu e2 ha,∅⟩
theorem zD{t:DTA}{ρ:Rho}{U:Mu}{Q:List PyData->Mu->Prop}:wG t ρ U Q=t ρ U fun ds Y=>∃xs ys,ds=[.v (.tuple xs),.v (.list ys)]/\xs.length=ys.length/\Q (gj xs ys) Y:=rfl
end
open PySem PySem.Spec PyProof.Rows NM
theorem cg{n m:Nat}{i j:Int}(h:Sz n i)(g:Sz m j)(l:n+m<=120000000):IntMulOk i j:=by
 have b1:∀{k:Nat} {z:Int},Sz k z->Builtin.Int.intBits z<=k:=fun {k z} hz=>by
  unfold Builtin.Int.intBits
  split
  ·exact zero_le _
  ·rename_i q
   have hz':z.natAbs≠0:=by simp at q;omega
   have:=(Nat.log2_lt hz').mpr hz.lt
   omega
 have e1:=b1 h
 have e2:=b1 g
 unfold IntMulOk
 intro z
 simp only[and_eq_true] at z
 have z3:=z.2
 unfold Builtin.Int.intTooBig at z3
 simp only[decide_eq_true_eq] at z3
 have:(120000000:Int)<=bitsLine:=by decide
 omega
theorem mulL{i j:Int}(h:i.natAbs<2 ^ 64):IntMulOk i j:=Cb.ok (.inl ∅)
theorem mulR{i j:Int}(h:j.natAbs<2 ^ 64):IntMulOk i j:=Cb.ok (.inr ∅)
noncomputable def dN(x:N3):PyData:=.tuple [.int x.a,.int x.b,.int x.c]
noncomputable def isWhole(d:PyData):Bool:=isT "int" d&&!isT "bool" d
noncomputable def isNum:PyData->Bool
 |.tuple [.int a,.int b,.int c]=>decide (1<=c)&&(g3 a b c==1)
 |_=>false
noncomputable def cf:DSp:=fun ds U Q=>∃d,ds=[.v d]/\Q (.v (.bool (isWhole d))) U
noncomputable def iz:DSp:=fun ds U Q=>∃a b:Int,ds=[.v (.int a),.v (.int b)]/\Q (.v (.int (Int.gcd a b:Nat))) U
noncomputable def ni:DSp:=fun ds U Q=>∃a b c:Int,ds=[.v (.int a),.v (.int b),.v (.int c)]/\Q (.v (.int (g3 a b c:Nat))) U
noncomputable def Few:PyData->Prop
 |.tuple xs=>xs.length<=1000
 |_=>True
noncomputable def gD:DSp:=fun ds U Q=>∃d,ds=[.v d]/\Few d/\Q (.v (.bool (isNum d))) U
noncomputable def aP:DSp:=fun ds U Q=>∃a b c:Int,ds=[.v (.int a),.v (.int b),.v (.int c)]/\c≠0/\Sz 44000000 c/\Q (.v (dN (low a b c))) U
noncomputable def gn:DSp:=fun ds U Q=>∃x:N3,ds=[.v (dN x)]/\Q (.v (dN (minus x))) U
noncomputable def sp2(f:N3->N3->N3):DSp:=fun ds U Q=>∃x y:N3,ds=[.v (dN x),.v (dN y)]/\Ok x/\Ok y/\Bd 21500000 x/\Bd 21500000 y/\Q (.v (dN (f x y))) U
noncomputable abbrev aW:DSp:=sp2 plus
noncomputable abbrev jK:DSp:=sp2 less
noncomputable def a7:DSp:=fun ds U Q=>∃(d:Int) (x y:N3),ds=[.v (.int d),.v (dN x),.v (dN y)]/\Sz 5 d/\Ok x/\Ok y/\Bd 21500000 x/\Bd 21500000 y/\Q (.v (dN (times d x y))) U
noncomputable def aL:DSp:=fun ds U Q=>∃(d:Int) (x:N3),ds=[.v (.int d),.v (dN x)]/\Sz 5 d/\norm d x≠0/\Bd 21500000 x/\Q (.v (dN (aA d x))) U
noncomputable def gy:DSp:=fun ds U Q=>∃(d:Int) (x y:N3),ds=[.v (.int d),.v (dN x),.v (dN y)]/\ah d/\Ok x/\Ok y/\y≠cy/\Bd 21500000 x/\Bd 10500000 y/\Q (.v (dN (times d x (aA d y)))) U
noncomputable def j5:DSp:=fun ds U Q=>∃d a b:Int,ds=[.v (.int d),.v (.int a),.v (.int b)]/\Sz 5 d/\Sz 49500000 a/\Sz 49500000 b/\Q (.v (.int (sg d a b))) U
noncomputable def fR:DSp:=fun ds U Q=>∃(d:Int) (x:N3),ds=[.v (.int d),.v (dN x)]/\ah d/\Bd 44500000 x/\Q (.v (.int (sg d x.a x.b))) U
noncomputable def dif(d:Int)(x y:N3):Int:=sg d (x.a*y.c-y.a*x.c) (x.b*y.c-y.b*x.c)
noncomputable def f9:DSp:=fun ds U Q=>∃(d:Int) (x y:N3),ds=[.v (.int d),.v (dN x),.v (dN y)]/\ah d/\Bd 22000000 x/\Bd 22000000 y/\Q (.v (.bool (decide (dif d x y=1)))) U
noncomputable def gb:DSp:=fun ds U Q=>∃(d:Int) (x y:N3),ds=[.v (.int d),.v (dN x),.v (dN y)]/\ah d/\Ok x/\Ok y/\Bd 21500000 x/\Bd 21500000 y/\Q (.v (.bool (decide (dif d y x=1)))) U
noncomputable def Bag(U:Mu)(a:Addr):Prop:=∃g m:Int,U a=some [.int g,.int m]/\0<=g/\0<=m/\m<2147483648
noncomputable def Step(a:Addr)(U Z:Mu):Prop:=Bag Z a/\∀b,b≠a->Z b=U b
noncomputable def xG:DSp:=fun ds U Q=>∃(ns:List Int) (k:Int),ds=[.s ns,.v (.int k)]/\0<=k/\k<=1000/\∀p Z,U p=none->Step p U Z->Q (.m p) Z
noncomputable def aO:DSp:=fun ds U Q=>∃(a:Addr) (n:Int),ds=[.m a,.v (.int n)]/\1<=n/\n<=1000000000/\Bag U a/\∀r Z,0<=r->r<n->Step a U Z->Q (.v (.int r)) Z
noncomputable def iM:DSp:=fun ds U Q=>∃a:Addr,ds=[.m a]/\Bag U a/\∀x Z,Ok x->Bd 20 x->Step a U Z->Q (.v (dN x)) Z
noncomputable def mS:DSp:=fun ds U Q=>∃a:Addr,ds=[.m a]/\Bag U a/\∀d Z,ah d->Step a U Z->Q (.v (.int d)) Z
theorem Step.trans{a:Addr}{U Y ac:Mu}(h:Step a U Y)(g:Step a Y ac):Step a U ac:=⟨g.1,fun b n=>(g.2 b n).trans (h.2 b n)⟩
theorem Step.set{a:Addr}{U:Mu}{g m:Int}(h1:0<=g)(h2:0<=m)(h3:m<2147483648):Step a U (aD U a [.int g,.int m]):=⟨⟨g,m,av,h1,h2,h3⟩,fun b n=>ao n⟩
def mkW(s:String):Lean.MacroM (Lean.TSyntax `tactic):=do let a<-(s.splitOn " ").toArray.mapM fun t=>if t.front=='↓' then `(Lean.Parser.Tactic.simpLemma|↓$(Lean.mkIdent (t.drop 1).toName):term) else `(Lean.Parser.Tactic.simpLemma|$(Lean.mkIdent t.toName):term);`(tactic|simp only[$a,*])
local macro_rules|`(tactic| walk_at "rd")=>mkW "↓cT ↓cP ↓c8 ↓fQ ↓gE ↓jq ↓jB ↓jv ↓jN ↓jC ↓gh ↓q_c ↓z9 ↓q_B ↓vZ ↓nH ↓n9 ↓n8 ↓tV ↓jM ↓pE ↓jF ↓zS ↓dR ↓cI ↓oF ↓pD ↓jG ↓pC ↓nD ↓oh ↓nK ↓pb ↓nc ↓oo ↓fS ↓jI ↓jw ↓iB ↓gm ↓ib ↓jQ ↓ir ↓gL ↓nI ↓ou ↓m8 ↓jt ↓jz ↓vD ↓d9 ↓jP ↓n6 ↓o8 ↓yv ↓jr ↓jV ↓jA ↓gQ ↓m9 ↓wg ↓jD ↓gA ↓oR ↓nA ↓bJ ↓iI ↓eW ↓hV ↓ju ↓vm ↓n5 ↓js ↓jd ↓nO ↓jU ↓uk ↓gv ↓dz ↓nJ ↓nq ↓jL ↓cJ ↓di ↓gq ↓dh ↓dS ↓eu ↓eE gj ↓fV ↓cp cF cK dJ ey eN bind_none bind_some join_some getElem?_cons_zero getElem?_cons_succ ak dN fH gS ji j9 lY List.map List.append List.replicate length_cons length_nil Nat.reduceAdd Nat.reduceSub nil_append cons_append set_cons_zero set_cons_succ map_some ↓reduceIte Bool.not_true Bool.not_false false_eq_true true_eq_false xor_false false_xor"
noncomputable def gT:DTS:=
 (aB (cL (lA "int" (ab 0)) (x6 (lA "bool" (ab 0)))))
noncomputable def eY:DTS:=
 (aj (jE (dB (dOp (aJ true) (ab 1) (dC (.int 0)))) (oi 0 1 (aa (ab 1) (aa (ia (ab 0) (ab 1)) af))))
 (aB (dCB kf (aa (ab 0) af))))
noncomputable def eK:DTS:=
 (aB (ag iz (aa (ag iz (aa (ab 2) (aa (ab 0) af))) (aa (ab 1) af))))
noncomputable def gW:DTS:=
 (aj (oi 0 1 (aa (dCB kf (aa (ab 0) af)) (aa (dCB kf (aa (ab 1) af)) af)))
 (aj (jE (dB (dOp rGt (ab 1) (dC (.int 0)))) (oi 0 1 (aa (ab 1) (aa (ia (ab 0) (ab 1)) af))))
 (aB (ab 0))))
section
theorem xc(x:Int){y:Int}(h:y≠0):(x.fmod y).natAbs<y.natAbs:=by
 have e:=Int.mul_fdiv_add_fmod x y
 have:=Int.fmod_def x y
 rcases lt_or_gt_of_ne h with h|h
 ·have k:=Int.neg_fmod_neg (a:=x) (b:=y)
  have h1:=Int.fmod_nonneg_of_pos (-x) (show 0 < -y by omega)
  have h2:=Int.fmod_lt_of_pos (-x) (show 0 < -y by omega)
  omega
 ·have h1:=Int.fmod_nonneg_of_pos x h
  have h2:=Int.fmod_lt_of_pos x h
  omega
theorem uS(x y:Int):Int.gcd y (x.fmod y)=Int.gcd x y:=by
 have e:=Int.mul_fdiv_add_fmod x y
 have e':x.fmod y=x+y*(-(x.fdiv y)):=by rw[Int.mul_neg];omega
 rw[e',Int.gcd_add_mul_left_right,Int.gcd_comm]
theorem mz{U Qd ds}(h:cf ds U Qd):gT ‹Qd› (ak ["thing"] ds) U:=by
 obtain⟨d,rfl,q⟩:=h
 unfold gT
 walk_at "rd"
 unfold isWhole at q
 cases hb:isT "int" d<;>simp_all
theorem kC{U Qd ds}(h:iz ds U Qd):eY ‹Qd› (ak ["a","b"] ds) U:=by
 obtain⟨a,b,rfl,q⟩:=h
 unfold eY
 walk_at "rd"
 refine⟨fun m ρ Z=>∃x y:Int,ρ=[some (.v (.int x)),some (.v (.int y))]/\m=y.natAbs/\Int.gcd x y=Int.gcd a b/\Z=U,⟨_,a,b,rfl,rfl,rfl,rfl⟩,?_⟩
 rintro m ρ Z ⟨x,y,rfl,rfl,hg,rfl⟩
 walk_at "rd"
 by_cases hy:y=0
 ·subst hy
  have e:Int.gcd x 0=x.natAbs:=Int.gcd_zero_right x
  rw[<- hg,e] at q
  simpa using q
 ·have z:(true ^^ decide (y=0))=true:=by simp[hy]
  rw[if_pos z]
  exact⟨hy,_,xc x hy,y,x.fmod y,rfl,rfl,(uS x y).trans hg,trivial⟩
theorem om{U Qd ds}(h:iz ds U Qd):gW ‹Qd› (ak ["_law_one","_law_other"] ds) U:=by
 obtain⟨a,b,rfl,q⟩:=h
 unfold gW
 walk_at "rd"
 refine⟨fun m ρ Z=>∃x y:Int,ρ=[some (.v (.int x)),some (.v (.int y))]/\m=y.natAbs/\0<=x/\0<=y/\Int.gcd x y=Int.gcd a b/\Z=U,⟨_,_,_,rfl,rfl,∅,∅,by simp[Int.gcd],rfl⟩,?_⟩
 rintro m ρ Z ⟨x,y,rfl,rfl,hx,hy,hg,rfl⟩
 walk_at "rd"
 by_cases h0:0<y
 ·rw[if_pos (by simpa using h0)]
  have hy':y≠0:=by omega
  exact⟨hy',_,xc x hy',y,x.fmod y,rfl,rfl,∅,Int.fmod_nonneg_of_pos x h0,(uS x y).trans hg,trivial⟩
 ·rw[if_neg (by simpa using h0)]
  have e:y=0:=by omega
  subst e
  rw[Int.gcd_zero_right] at hg
  have:x=((Int.gcd a b:Nat):Int):=by omega
  rw[this]
  exact q
theorem kR{U Qd ds}(h:ni ds U Qd):eK ‹Qd› (ak ["a","b","c"] ds) U:=by
 obtain⟨a,b,c,rfl,q⟩:=h
 unfold eK
 walk_at "rd"
 rw[<- Du] at q
 exact⟨c,a,rfl,_,b,rfl,q⟩
end
noncomputable def qU:DTS:=
 (aj (aK (dB (dOp (aJ false) (ab 2) (dC (.int 0)))) jH aE)
 (aj (aq (ag ni (aa (ab 0) (aa (ab 1) (aa (ab 2) af)))) (ae 3))
 (aj (aK (dB (dOp rLt (ab 2) (dC (.int 0)))) (aq (sF (ab 3)) (ae 3)) aE)
 (aB (aT (aa (eo (ab 0) (ab 3)) (aa (eo (ab 1) (ab 3)) (aa (eo (ab 2) (ab 3)) af))))))))
noncomputable def lX:DTS:=
 (aj (aq (aU (ag iz (aa (ag iz (aa (ab 0) (aa (ab 1) af))) (aa (ab 2) af))) (dOp ai (cU (aa (dC (.int 1)) (aa (sF (dC (.int 1))) af))) (dCB jg (aa (dOp rLt (ab 2) (dC (.int 0))) af)))) (ae 3))
 (aB (aT (aa (eo (ab 0) (ab 3)) (aa (eo (ab 1) (ab 3)) (aa (eo (ab 2) (ab 3)) af))))))
noncomputable def i6:DTS:=
 (aB (aT (aa (fu (dC (.int 0)) (dOp ai (ab 0) (dC (.int 0)))) (aa (fu (dC (.int 0)) (dOp ai (ab 0) (dC (.int 1)))) (aa (dOp ai (ab 0) (dC (.int 2))) af)))))
noncomputable def wZ:DTS:=
 (aB (ag aP (aa (cz (aU (dOp ai (ab 0) (dC (.int 0))) (dOp ai (ab 1) (dC (.int 2)))) (aU (dOp ai (ab 1) (dC (.int 0))) (dOp ai (ab 0) (dC (.int 2))))) (aa (cz (aU (dOp ai (ab 0) (dC (.int 1))) (dOp ai (ab 1) (dC (.int 2)))) (aU (dOp ai (ab 1) (dC (.int 1))) (dOp ai (ab 0) (dC (.int 2))))) (aa (aU (dOp ai (ab 0) (dC (.int 2))) (dOp ai (ab 1) (dC (.int 2)))) af)))))
noncomputable def rN:DTS:=
 (aB (ag aP (aa (cz (aU (dOp ai (ab 0) (dC (.int 0))) (dOp ai (ab 1) (dC (.int 2)))) (aU (dOp ai (ab 1) (dC (.int 0))) (dOp ai (ab 0) (dC (.int 2))))) (aa (cz (aU (dOp ai (ab 0) (dC (.int 1))) (dOp ai (ab 1) (dC (.int 2)))) (aU (dOp ai (ab 1) (dC (.int 1))) (dOp ai (ab 0) (dC (.int 2))))) (aa (aU (dOp ai (ab 0) (dC (.int 2))) (dOp ai (ab 1) (dC (.int 2)))) af)))))
noncomputable def xg:DTS:=
 (aB (ag aP (aa (fu (aU (dOp ai (ab 0) (dC (.int 0))) (dOp ai (ab 1) (dC (.int 2)))) (aU (dOp ai (ab 1) (dC (.int 0))) (dOp ai (ab 0) (dC (.int 2))))) (aa (fu (aU (dOp ai (ab 0) (dC (.int 1))) (dOp ai (ab 1) (dC (.int 2)))) (aU (dOp ai (ab 1) (dC (.int 1))) (dOp ai (ab 0) (dC (.int 2))))) (aa (aU (dOp ai (ab 0) (dC (.int 2))) (dOp ai (ab 1) (dC (.int 2)))) af)))))
noncomputable def uq:DTS:=
 (aB (ag aP (aa (cz (aU (dOp ai (ab 1) (dC (.int 0))) (dOp ai (ab 2) (dC (.int 0)))) (aU (aU (ab 0) (dOp ai (ab 1) (dC (.int 1)))) (dOp ai (ab 2) (dC (.int 1))))) (aa (cz (aU (dOp ai (ab 1) (dC (.int 0))) (dOp ai (ab 2) (dC (.int 1)))) (aU (dOp ai (ab 1) (dC (.int 1))) (dOp ai (ab 2) (dC (.int 0))))) (aa (aU (dOp ai (ab 1) (dC (.int 2))) (dOp ai (ab 2) (dC (.int 2)))) af)))))
noncomputable def pL:DTS:=
 (aB (ag aP (aa (cz (aU (dOp ai (ab 1) (dC (.int 0))) (dOp ai (ab 2) (dC (.int 0)))) (aU (aU (ab 0) (dOp ai (ab 1) (dC (.int 1)))) (dOp ai (ab 2) (dC (.int 1))))) (aa (cz (aU (dOp ai (ab 1) (dC (.int 0))) (dOp ai (ab 2) (dC (.int 1)))) (aU (dOp ai (ab 1) (dC (.int 1))) (dOp ai (ab 2) (dC (.int 0))))) (aa (aU (dOp ai (ab 1) (dC (.int 2))) (dOp ai (ab 2) (dC (.int 2)))) af)))))
noncomputable def my:DTS:=
 (aj (aq (fu (aU (dOp ai (ab 1) (dC (.int 0))) (dOp ai (ab 1) (dC (.int 0)))) (aU (aU (ab 0) (dOp ai (ab 1) (dC (.int 1)))) (dOp ai (ab 1) (dC (.int 1))))) (ae 2))
 (aB (ag aP (aa (aU (dOp ai (ab 1) (dC (.int 2))) (dOp ai (ab 1) (dC (.int 0)))) (aa (aU (sF (dOp ai (ab 1) (dC (.int 2)))) (dOp ai (ab 1) (dC (.int 1)))) (aa (ab 2) af))))))
noncomputable def fP:DTS:=
 (aB (ag aP (aa (aU (dOp ai (ab 1) (dC (.int 0))) (dOp ai (ab 1) (dC (.int 2)))) (aa (fu (dC (.int 0)) (aU (dOp ai (ab 1) (dC (.int 1))) (dOp ai (ab 1) (dC (.int 2))))) (aa (fu (aU (dOp ai (ab 1) (dC (.int 0))) (dOp ai (ab 1) (dC (.int 0)))) (aU (aU (ab 0) (dOp ai (ab 1) (dC (.int 1)))) (dOp ai (ab 1) (dC (.int 1))))) af)))))
noncomputable def xS:DTS:=
 (aj (aK (dB (dOp (aJ false) (ab 2) (dC (.tuple [.int 0,.int 0,.int 1])))) jH aE)
 (aB (ag a7 (aa (ab 0) (aa (ab 1) (aa (ag aL (aa (ab 0) (aa (ab 2) af))) af))))))
section
variable {U:Mu}{Qd:DK}{ds:List D}
theorem Kh(i j:Int):PyData.eqv (.int i) (.int j)=decide (i=j):=by simp[PyData.eqv];rfl
theorem gdv{a b c:Int}(h:Sz 44000000 c)(hc:c≠0):Sz 44000000 ((g3 a b c:Nat):Int):=by
 have h1:=(zX a b c).2.2
 have h2:=Int.natAbs_dvd_natAbs.mpr h1
 exact h.le (Nat.le_of_dvd ∅ h2)
theorem zj(h:aP ds U Qd):qU ‹Qd› (ak ["a","b","c","divisor"] ds) U:=by
 obtain⟨a,b,c,rfl,hc,hz,q⟩:=h
 unfold qU
 walk_at "rd"
 rw[decide_eq_false hc]
 simp only[xor_false,false_eq_true,↓reduceIte]
 refine⟨a,b,c,rfl,?_⟩
 walk_at "rd"
 have hp:=rY (a:=a) (b:=b) hc
 have hg:=gdv (a:=a) (b:=b) hz hc
 unfold low NM.dv dN at q
 simp only at q
 by_cases hn:c<0
 ·rw[if_pos (by simpa using hn)]
  rw[if_pos hn] at q
  have o:(-((g3 a b c:Nat):Int))≠0:=by omega
  exact⟨o,o,o,q⟩
 ·rw[if_neg (by simpa using hn)]
  rw[if_neg hn] at q
  have o:((g3 a b c:Nat):Int)≠0:=by omega
  exact⟨o,o,o,q⟩
theorem uQ(h:aP ds U Qd):lX ‹Qd› (ak ["_law_a","_law_b","_law_c","_law_common"] ds) U:=by
 obtain⟨a,b,c,rfl,hc,hz,q⟩:=h
 unfold lX
 walk_at "rd"
 refine⟨a,b,rfl,_,c,rfl,?_⟩
 walk_at "rd"
 have hp:=rY (a:=a) (b:=b) hc
 have hg:=gdv (a:=a) (b:=b) hz hc
 unfold low NM.dv dN at q
 simp only at q
 by_cases hn:c<0
 ·simp only[hn,decide_true,↓reduceIte,ji]
  rw[if_pos hn] at q
  have e:((Int.gcd (Int.gcd a b:Nat) c:Nat):Int) * -1 = -((g3 a b c:Nat):Int):=by unfold g3;omega
  walk_at "rd"
  rw[e]
  have o:(-((g3 a b c:Nat):Int))≠0:=by omega
  exact⟨mulR ⋯,o,o,o,q⟩
 ·simp only[hn,decide_false,false_eq_true,↓reduceIte,gS]
  rw[if_neg hn] at q
  have e:((Int.gcd (Int.gcd a b:Nat) c:Nat):Int)*1=((g3 a b c:Nat):Int):=by unfold g3;omega
  walk_at "rd"
  rw[e]
  have o:((g3 a b c:Nat):Int)≠0:=by omega
  exact⟨mulR ⋯,o,o,o,q⟩
theorem qi(h:gn ds U Qd):i6 ‹Qd› (ak ["_law_x"] ds) U:=by
 obtain⟨x,rfl,q⟩:=h
 unfold i6
 walk_at "rd"
 simp only[Int.zero_sub]
 exact q
theorem xW(h:aW ds U Qd):wZ ‹Qd› (ak ["x","y"] ds) U:=by
 obtain⟨x,y,rfl,ox,oy,bx,by',q⟩:=h
 unfold wZ
 walk_at "rd"
 have m:∀{i j:Int},Sz 21500000 i->Sz 21500000 j->IntMulOk i j:=fun h g=>cg h g ⋯
 exact⟨m bx.a by'.c,m by'.a bx.c,m bx.b by'.c,m by'.b bx.c,m bx.c by'.c,_,_,_,rfl,jW ox oy,(bx.c.mul by'.c).mono ⋯,q⟩
theorem sH(h:aW ds U Qd):rN ‹Qd› (ak ["_law_x","_law_y"] ds) U:=xW h
theorem Ck(h:jK ds U Qd):xg ‹Qd› (ak ["x","y"] ds) U:=by
 obtain⟨x,y,rfl,ox,oy,bx,by',q⟩:=h
 unfold xg
 walk_at "rd"
 have m:∀{i j:Int},Sz 21500000 i->Sz 21500000 j->IntMulOk i j:=fun h g=>cg h g ⋯
 exact⟨m bx.a by'.c,m by'.a bx.c,m bx.b by'.c,m by'.b bx.c,m bx.c by'.c,_,_,_,rfl,jW ox oy,(bx.c.mul by'.c).mono ⋯,q⟩
theorem u5(h:a7 ds U Qd):uq ‹Qd› (ak ["d","x","y"] ds) U:=by
 obtain⟨d,x,y,rfl,hd,ox,oy,bx,by',q⟩:=h
 unfold uq
 walk_at "rd"
 have m:∀{i j:Int},Sz 21500000 i->Sz 21500000 j->IntMulOk i j:=fun h g=>cg h g ⋯
 exact⟨m bx.a by'.a,cg hd bx.b ⋯,cg (hd.mul bx.b) by'.b ⋯,m bx.a by'.b,m bx.b by'.a,m bx.c by'.c,_,_,_,rfl,jW ox oy,(bx.c.mul by'.c).mono ⋯,q⟩
theorem pQ(h:a7 ds U Qd):pL ‹Qd› (ak ["_law_d","_law_x","_law_y"] ds) U:=u5 h
theorem vc(h:aL ds U Qd):my ‹Qd› (ak ["d","x","norm"] ds) U:=by
 obtain⟨d,x,rfl,hd,hn,bx,q⟩:=h
 unfold my
 walk_at "rd"
 have m:∀{i j:Int},Sz 21500000 i->Sz 21500000 j->IntMulOk i j:=fun h g=>cg h g ⋯
 exact⟨m bx.a bx.a,cg hd bx.b ⋯,cg (hd.mul bx.b) bx.b ⋯,m bx.c bx.a,m bx.c.neg bx.b,_,_,_,rfl,hn,(rT hd bx).mono ⋯,q⟩
theorem lx(h:aL ds U Qd):fP ‹Qd› (ak ["_law_d","_law_x"] ds) U:=by
 obtain⟨d,x,rfl,hd,hn,bx,q⟩:=h
 unfold fP
 walk_at "rd"
 have m:∀{i j:Int},Sz 21500000 i->Sz 21500000 j->IntMulOk i j:=fun h g=>cg h g ⋯
 refine⟨m bx.a bx.c,m bx.b bx.c,m bx.a bx.a,cg hd bx.b ⋯,cg (hd.mul bx.b) bx.b ⋯,_,_,_,rfl,hn,(rT hd bx).mono ⋯,?_⟩
 have e1:x.a*x.c=x.c*x.a:=Int.mul_comm ..
 have e2:0-x.b*x.c = -x.c*x.b:=by grind
 rw[e1,e2]
 exact q
theorem KC(a b c a' b' c':Int):PyData.eqv (.tuple [.int a,.int b,.int c]) (.tuple [.int a',.int b',.int c'])=decide (a=a'/\b=b'/\c=c'):=by
 simp[PyData.eqv,PyData.eqvAll]
 rfl
theorem Cm(h:gy ds U Qd):xS ‹Qd› (ak ["d","x","y"] ds) U:=by
 obtain⟨d,x,y,rfl,hd,ox,oy,hy,bx,by',q⟩:=h
 unfold xS
 walk_at "rd"
 refine⟨rfl,rfl,?_⟩
 have hn:¬ (y.a=0/\y.b=0/\y.c=1):=fun z=>hy (N3.ext' z.1 z.2.1 z.2.2)
 rw[KC,decide_eq_false hn]
 simp only[xor_false,false_eq_true,↓reduceIte]
 have s5:=eI hd.1 hd.2.1
 have nz:=hd.norm oy hy
 exact⟨d,y,rfl,s5,nz,by'.mono ⋯,d,x,_,rfl,s5,ox,cM nz,bx.mono ⋯,(gR s5 nz by').mono ⋯,q⟩
end
noncomputable def fm:DTS:=
 (aj (aK (gI (dB (dOp (aJ false) (ab 1) (dC (.int 0)))) (dB (dOp (aJ false) (ab 2) (dC (.int 0))))) (aB (dC (.int 0))) aE)
 (aj (aK (gI (dB (dOp rGe (ab 1) (dC (.int 0)))) (dB (dOp rGe (ab 2) (dC (.int 0))))) (aB (dC (.int 1))) aE)
 (aj (aK (gI (dB (dOp rLe (ab 1) (dC (.int 0)))) (dB (dOp rLe (ab 2) (dC (.int 0))))) (aB (sF (dC (.int 1)))) aE)
 (aj (aq (dIf (dB (dOp rGt (aU (ab 1) (ab 1)) (aU (aU (ab 0) (ab 2)) (ab 2)))) (ab 1) (ab 2)) (ae 3))
 (aB (dIf (dB (dOp rGt (ab 3) (dC (.int 0)))) (dC (.int 1)) (sF (dC (.int 1)))))))))
noncomputable def pf:DTS:=
 (aB (ag j5 (aa (ab 0) (aa (dOp ai (ab 1) (dC (.int 0))) (aa (dOp ai (ab 1) (dC (.int 1))) af)))))
noncomputable def mj:DTS:=
 (aj (aq (fu (aU (dOp ai (ab 1) (dC (.int 0))) (dOp ai (ab 2) (dC (.int 2)))) (aU (dOp ai (ab 2) (dC (.int 0))) (dOp ai (ab 1) (dC (.int 2))))) (ae 3))
 (aj (aq (fu (aU (dOp ai (ab 1) (dC (.int 1))) (dOp ai (ab 2) (dC (.int 2)))) (aU (dOp ai (ab 2) (dC (.int 1))) (dOp ai (ab 1) (dC (.int 2))))) (ae 4))
 (aB (dOp (aJ false) (ag j5 (aa (ab 0) (aa (ab 3) (aa (ab 4) af)))) (dC (.int 1))))))
noncomputable def ky:DTS:=
 (aj (oi 2 3 (aa (aU (dOp ai (ab 1) (dC (.int 0))) (dOp ai (ab 1) (dC (.int 0)))) (aa (aU (aU (ab 0) (dOp ai (ab 1) (dC (.int 1)))) (dOp ai (ab 1) (dC (.int 1)))) af)))
 (aj (aq (cU (aa (fu (dCB jg (aa (dOp rGt (dOp ai (ab 1) (dC (.int 0))) (dC (.int 0))) af)) (dCB jg (aa (dOp rLt (dOp ai (ab 1) (dC (.int 0))) (dC (.int 0))) af))) (aa (fu (dCB jg (aa (dOp rGt (dOp ai (ab 1) (dC (.int 1))) (dC (.int 0))) af)) (dCB jg (aa (dOp rLt (dOp ai (ab 1) (dC (.int 1))) (dC (.int 0))) af))) af))) (ae 4))
 (aj (aK (dB (dOp rGe (aU (dOp ai (ab 4) (dC (.int 0))) (dOp ai (ab 4) (dC (.int 1)))) (dC (.int 0)))) (aB (dIf (dB (dOp (aJ true) (dOp ai (ab 4) (dC (.int 0))) (dC (.int 0)))) (dOp ai (ab 4) (dC (.int 0))) (dOp ai (ab 4) (dC (.int 1))))) aE)
 (aB (dIf (dB (dOp rGt (ab 2) (ab 3))) (dOp ai (ab 4) (dC (.int 0))) (dOp ai (ab 4) (dC (.int 1))))))))
noncomputable def jh:DTS:=
 (aB (dOp rGt (ag fR (aa (ab 0) (aa (ag aW (aa (ab 2) (aa (ag gn (aa (ab 1) af)) af))) af))) (dC (.int 0))))
section
variable {U:Mu}{Qd:DK}{ds:List D}
theorem lG(h:j5 ds U Qd):fm ‹Qd› (ak ["d","a","b","prevailing"] ds) U:=by
 obtain⟨d,a,b,rfl,hd,ha,hb,q⟩:=h
 unfold fm
 walk_at "rd"
 have m1:MulOk a a:=cg ha ha ⋯
 have m2:MulOk d b:=cg hd hb ⋯
 have m3:MulOk (d*b) b:=cg (hd.mul hb) hb ⋯
 unfold sg at q
 by_cases h1:a=0
 ·by_cases h2:b=0
  ·subst h1 h2;simpa using q
  ·subst h1
   rcases lt_or_gt_of_ne h2 with h3|h3
   ·have e:¬ (0<=b):=by omega
    have e':b<=0:=by omega
    simp only[h2,e,e',and_false,true_and,if_true,if_false,decide_true,decide_false,Int.le_refl,↓reduceIte,false_eq_true] at q ⊢
    exact q
   ·have e:(0<=b):=by omega
    simp only[h2,e,and_false,true_and,if_true,if_false,decide_true,decide_false,Int.le_refl,↓reduceIte,false_eq_true] at q ⊢
    exact q
 ·by_cases h3:0<=a<;>by_cases h4:0<=b<;>by_cases h5:a<=0<;>by_cases h6:b<=0<;>by_cases h7:d*b*b<a*a<;>(try (exfalso;omega))<;>
   simp only[h1,h3,h4,h5,h6,h7,and_false,false_and,and_true,true_and,if_true,if_false,decide_true,decide_false,↓reduceIte,false_eq_true,and_self,m1,m2,m3,gt_iff_lt] at q ⊢<;>(try exact q)
  all_goals
   first
   |(by_cases h8:0<a<;>simp only[h8,if_true,if_false,decide_true,decide_false,↓reduceIte,false_eq_true] at q ⊢<;>exact q)
   |(by_cases h8:0<b<;>simp only[h8,if_true,if_false,decide_true,decide_false,↓reduceIte,false_eq_true] at q ⊢<;>exact q)
theorem wo(h:fR ds U Qd):pf ‹Qd› (ak ["d","x"] ds) U:=by
 obtain⟨d,x,rfl,hd,bx,q⟩:=h
 unfold pf
 walk_at "rd"
 exact⟨d,x.a,x.b,rfl,eI hd.1 hd.2.1,bx.a.mono ⋯,bx.b.mono ⋯,q⟩
theorem vk(h:f9 ds U Qd):mj ‹Qd› (ak ["d","x","y","a","b"] ds) U:=by
 obtain⟨d,x,y,rfl,hd,bx,by',q⟩:=h
 unfold mj
 walk_at "rd"
 have m:∀{i j:Int},Sz 22000000 i->Sz 22000000 j->IntMulOk i j:=fun h g=>cg h g ⋯
 refine⟨m bx.a by'.c,m by'.a bx.c,m bx.b by'.c,m by'.b bx.c,d,_,_,rfl,eI hd.1 hd.2.1,((bx.a.mul by'.c).sub (by'.a.mul bx.c)).mono ⋯,((bx.b.mul by'.c).sub (by'.b.mul bx.c)).mono ⋯,?_⟩
 walk_at "rd"
 exact q
theorem Hl{d a b sa sb:Int}(ha:(a<0/\sa = -1)\/(a=0/\sa=0)\/(0<a/\sa=1))(hb:(b<0/\sb = -1)\/(b=0/\sb=0)\/(0<b/\sb=1)) :
  sg d a b=if 0<=sa*sb then (if sa≠0 then sa else sb) else if d*b*b<a*a then sa else sb:=by
 unfold sg
 by_cases h7:d*b*b<a*a<;>rcases ha with ⟨h1,rfl⟩|⟨h1,rfl⟩|⟨h1,rfl⟩<;>rcases hb with ⟨h2,rfl⟩|⟨h2,rfl⟩|⟨h2,rfl⟩<;>simp only[h7,↓reduceIte]<;>(repeat' split)<;>omega
theorem tF(h:fR ds U Qd):ky ‹Qd› (ak ["_law_d","_law_x","_law_first","_law_second","_law_sides"] ds) U:=by
 obtain⟨d,x,rfl,hd,bx,q⟩:=h
 unfold ky
 walk_at "rd"
 have s5:=eI hd.1 hd.2.1
 refine⟨cg bx.a bx.a ⋯,cg s5 bx.b ⋯,cg (s5.mul bx.b) bx.b ⋯,?_⟩
 have sd:∀u:Int,(u<0/\((if decide (0<u)=true then 1 else 0)-if decide (u<0)=true then 1 else 0:Int) = -1)\/(u=0/\((if decide (0<u)=true then 1 else 0)-if decide (u<0)=true then 1 else 0:Int)=0)\/(0<u/\((if decide (0<u)=true then 1 else 0)-if decide (u<0)=true then 1 else 0:Int)=1):=fun u=>by
  simp only[decide_eq_true_eq]
  split<;>split<;>omega
 have ha:=sd x.a
 have hb:=sd x.b
 generalize ((if decide (0<x.a)=true then 1 else 0)-if decide (x.a<0)=true then 1 else 0:Int)=sa at ha ⊢
 generalize ((if decide (0<x.b)=true then 1 else 0)-if decide (x.b<0)=true then 1 else 0:Int)=sb at hb ⊢
 rw[Hl ha hb] at q
 refine⟨mulL ∅,?_⟩
 by_cases c1:0<=sa*sb<;>by_cases c2:sa=0<;>by_cases c3:d*x.b*x.b<x.a*x.a<;>simp only[c1,c2,c3,decide_true,decide_false,↓reduceIte,false_eq_true,xor_false,xor_true,Bool.not_true,ne_eq,not_true_eq_false,not_false_eq_true,Int.zero_mul,Int.le_refl] at q ⊢<;>exact q
theorem ql(h:gb ds U Qd):jh ‹Qd› (ak ["_law_d","_law_x","_law_y"] ds) U:=by
 obtain⟨d,x,y,rfl,hd,ox,oy,bx,by',q⟩:=h
 unfold jh
 walk_at "rd"
 refine⟨x,rfl,y,minus x,rfl,oy,bQ ox,by'.mono ⋯,(fi bx).mono ⋯,d,plus y (minus x),rfl,hd,(xj oy (bQ ox) by' (fi bx)).mono ⋯,?_⟩
 walk_at "rd"
 have e:sg d (plus y (minus x)).a (plus y (minus x)).b=dif d y x:=by
  obtain⟨k,hk,hs,p1,p2,p3,_⟩:=dk (y.a*(minus x).c+(minus x).a*y.c) (y.b*(minus x).c+(minus x).b*y.c) (jW oy (bQ ox))
  have hk0:0<k:=hs.mpr (mul_pos oy.c (bQ ox).c)
  unfold dif
  have e1:y.a*x.c-x.a*y.c=k*(plus y (minus x)).a:=by rw[show k*(plus y (minus x)).a=_ from p1.symm];show _=y.a*x.c + -x.a*y.c;grind
  have e2:y.b*x.c-x.b*y.c=k*(plus y (minus x)).b:=by rw[show k*(plus y (minus x)).b=_ from p2.symm];show _=y.b*x.c + -x.b*y.c;grind
  rw[e1,e2,fF hd hk0]
 rw[e]
 have t:=oT d (y.a*x.c-x.a*y.c) (y.b*x.c-x.b*y.c)
 have f:decide (0<dif d y x)=decide (dif d y x=1):=by unfold dif;rcases t with z|z|z<;>rw[z]<;>decide
 rw[f]
 exact q
end
noncomputable def l9:DTS:=
 (aj (aq (dC (.int 0)) (ae 2))
 (aj (aK (dB (dOp rLt (ab 1) (dCB aX (aa (ab 0) af)))) (aq (dOp ai (ab 0) (ab 1)) (ae 2)) aE)
 (aj (aq (dC (.int 0)) (ae 3))
 (aj (aK (dB (dOp rGe (dCB kf (aa (ab 2) af)) (Bg (dC (.int 10)) (dC (.int 18))))) (aq (dCB kf (aa (ab 2) af)) (ae 3)) aE)
 (aj (aq (cU (aa (dC (.int 2147483647)) (aa (dC (.int 2147483629)) (aa (dC (.int 2147483587)) (aa (dC (.int 2147483579)) (aa (dC (.int 2147483563)) (aa (dC (.int 2147483549)) (aa (dC (.int 2147483543)) (aa (dC (.int 2147483497)) af))))))))) (ae 4))
 (aj (aq (cz (cz (cz (aU (ia (ab 2) (dC (.int 2147483647))) (dC (.int 69623))) (aU (aU (dC (.int 104729)) (ab 1)) (ab 1))) (aU (dC (.int 7919)) (ab 1))) (dC (.int 12345))) (ae 5))
 (aB (i4 (aa (ab 3) (aa (ia (ab 5) (dOp ai (ab 4) (ia (ab 1) (dC (.int 8))))) af))))))))))
noncomputable def ka:DTS:=
 (aj (aK (dB (dOp rGt (dOp ai (ab 0) (dC (.int 0))) (dC (.int 0)))) (aj (aq (ia (dOp ai (ab 0) (dC (.int 0))) (ab 1)) (ae 2))
 (aj (aq (eo (dOp ai (ab 0) (dC (.int 0))) (ab 1)) (xB (ab 0) (dC (.int 0))))
 (aB (ab 2)))) aE)
 (aj (aq (ia (cz (aU (dOp ai (ab 0) (dC (.int 1))) (dC (.int 48271))) (dC (.int 2531011))) (dC (.int 2147483647))) (xB (ab 0) (dC (.int 1))))
 (aB (ia (eo (ia (Bg (dOp ai (ab 0) (dC (.int 1))) (dC (.int 3))) (dC (.int 2147483629))) (dC (.int 64))) (ab 1)))))
section
variable {U:Mu}{Qd:DK}{ds:List D}
theorem sI{α:Type}{xs:List α}{i:Int}(h0:0<=i)(h:i<(xs.length:Nat)):∃d,atI xs i=some d/\d∈xs:=by
 have hj:i.toNat<xs.length:=by omega
 have e:=c9 (xs:=xs) (j:=i.toNat) (v:=xs[i.toNat]) (by simp[hj])
 rw[show ((i.toNat:Nat):Int)=i by omega] at e
 exact⟨_,e,getElem_mem _⟩
theorem fq(x:Int){y:Int}(h:0<y):0<=x.fmod y/\x.fmod y<y:=⟨Int.fmod_nonneg_of_pos x h,Int.fmod_lt_of_pos x h⟩
theorem DM{x y:Int}(hx:0<=x)(hy:0<y):0<=x.fdiv y:=by rw[Int.fdiv_eq_ediv_of_nonneg _ ∅];exact Int.ediv_nonneg hx ∅
noncomputable def iL:List PyData:=[.int 2147483647,.int 2147483629,.int 2147483587,.int 2147483579,.int 2147483563,.int 2147483549,.int 2147483543,.int 2147483497]
theorem tS(h:xG ds U Qd):l9 ‹Qd› (ak ["_law_script","_law_at","_law_cell","_law_great","_law_primes","_law_mixed"] ds) U:=by
 obtain⟨ns,k,rfl,h0,h1,q⟩:=h
 unfold l9
 have hp:∃pr:Int,atI iL (k.fmod 8)=some (.int pr)/\0<pr/\pr<2147483648:=by
  obtain⟨h2,h3⟩:=fq k (show (0:Int)<8 by decide)
  obtain⟨p,e,hm⟩:=sI (xs:=iL) h2 (by exact h3)
  simp only[iL,mem_cons,not_mem_nil,or_false] at hm
  rcases hm with rfl|rfl|rfl|rfl|rfl|rfl|rfl|rfl<;>exact⟨_,e,⋯,⋯⟩
 obtain⟨pr,hpe,hp0,hp1⟩:=hp
 unfold iL at hpe
 walk_at "rd"
 rw[hpe]
 walk_at "rd"
 have c1:Ge 10 18:=⟨⋯,⋯,⋯⟩
 have z1:(2147483647:Int)≠0:=by decide
 have z2:(8:Int)≠0:=by decide
 have m1:∀i:Int,MulOk i 69623:=fun i=>mulR ⋯
 have m2:MulOk 104729 k:=mulL ⋯
 have m3:MulOk (104729*k) k:=mulR ∅
 have m4:MulOk 7919 k:=mulL ⋯
 have z3:pr≠0:=by omega
 have fin:∀G x:Int,0<=G->∀p,U p=none->Qd (.m p) (aD U p [.int G,.int (x.fmod pr)]):=fun G x hG p hp=>by
  obtain⟨h2,h3⟩:=fq x hp0
  exact q p _ hp (Step.set hG h2 ∅)
 by_cases hk:k<(ns.length:Nat)
 ·rw[if_pos (by simpa using hk)]
  obtain⟨c,hc,_⟩:=sI h0 hk
  rw[hc]
  walk_at "rd"
  refine⟨c1,?_⟩
  split
  ·exact⟨z1,m1 _,m2,m3,m4,z2,z3,fin _ _ ∅⟩
  ·exact⟨z1,m1 _,m2,m3,m4,z2,z3,fin _ _ ∅⟩
 ·rw[if_neg (by simpa using hk)]
  refine⟨c1,?_⟩
  split
  ·exact⟨z1,m1 _,m2,m3,m4,z2,z3,fin _ _ ∅⟩
  ·exact⟨z1,m1 _,m2,m3,m4,z2,z3,fin _ _ ∅⟩
theorem rH(h:aO ds U Qd):ka ‹Qd› (ak ["_law_bag_here","_law_many","_law_digit"] ds) U:=by
 obtain⟨a,n,rfl,h0,h1,⟨g,m,hb,hg,hm,hm'⟩,q⟩:=h
 unfold ka
 walk_at "rd"
 rw[hb]
 walk_at "rd"
 rw[hb]
 walk_at "rd"
 have n0:n≠0:=by omega
 have i0:ixN 2 0=some 0:=by rfl
 have i1:ixN 2 1=some 1:=by rfl
 by_cases hg0:0<g
 ·rw[if_pos (by simpa using hg0)]
  simp only[hb]
  walk_at "rd"
  obtain⟨r0,r1⟩:=fq g (show 0<n by omega)
  refine⟨n0,?_⟩
  simp only[hb]
  walk_at "rd"
  refine⟨n0,?_⟩
  simp only[hb,length_cons,length_nil,Nat.reduceAdd,i0,set_cons_zero]
  exact q _ _ r0 r1 (Step.set (DM hg ∅) hm hm')
 ·rw[if_neg (by simpa using hg0)]
  simp only[hb,i1,av]
  walk_at "rd"
  obtain⟨s0,s1⟩:=fq (m*48271+2531011) (show (0:Int)<2147483647 by decide)
  generalize (m*48271+2531011).fmod 2147483647=w at s0 s1 ⊢
  obtain⟨r0,r1⟩:=fq ((((w ^ Int.toNat 3).fmod 2147483629).fdiv 64)) (show 0<n by omega)
  refine⟨mulL ∅,⋯,?_⟩
  refine⟨⟨⋯,⋯,∅⟩,(by show (2147483629:Int)≠0;decide),(by simp),n0,?_⟩
  exact q _ _ r0 r1 (Step.set hg s0 ∅)
end
noncomputable def i5:DTS:=
 (aj (aq (Ex (dC (.int 1)) (eo (cz (zy (ab 0)) (dC (.int 1))) (dC (.int 2)))) (ae 1))
 (aj (jE (dB (dOp rGt (aU (ab 1) (ab 1)) (ab 0))) (aq (eo (cz (ab 1) (eo (ab 0) (ab 1))) (dC (.int 2))) (ae 1)))
 (aB (ab 1))))
section
variable {U:Mu}{Qd:DK}{ds:List D}
theorem Dv(k:Int):k.natAbs<2 ^ (Builtin.Int.intBits k):=by
 unfold Builtin.Int.intBits
 split
 ·rename_i h;simp at h;subst h;decide
 ·exact Nat.lt_log2_self
theorem bits_le{n:Nat}{z:Int}(hz:Sz n z):Builtin.Int.intBits z<=n:=by
 unfold Builtin.Int.intBits
 split
 ·exact zero_le _
 ·rename_i q
  have hz':z.natAbs≠0:=by simp at q;omega
  have:=(Nat.log2_lt hz').mpr hz.lt
  omega
noncomputable def mW:DSp:=fun ds U Q=>∃k:Int,ds=[.v (.int k)]/\0<=k/\Sz 90000000 k/\∀r:Int,0<=r->r*r<=k->k<(r+1)*(r+1)->Q (.v (.int r)) U
theorem EH{k g:Int}(hk:0<=k)(hg:0<g)(h1:k<g*g):0<=(g+k.fdiv g).fdiv 2/\(g+k.fdiv g).fdiv 2<g/\k<((g+k.fdiv g).fdiv 2+1)*((g+k.fdiv g).fdiv 2+1):=by
 rw[Int.fdiv_eq_ediv_of_nonneg _ (by omega:(0:Int)<=2),Int.fdiv_eq_ediv_of_nonneg _ (by omega:0<=g)]
 have e1:=Int.emod_add_mul_ediv k g
 have e2:=Int.emod_nonneg k (by omega:g≠0)
 have e3:=Int.emod_lt_of_pos k hg
 have e4:=Int.ediv_nonneg hk (by omega:0<=g)
 generalize k % g=r at *
 generalize k / g=q at *
 have lt:q<g:=by
  rcases lt_or_le q g with z|z
  ·exact z
  ·have:=Int.mul_le_mul_of_nonneg_left z (by omega:0<=g)
   omega
 have f1:0<=(g+q) / 2:=by omega
 have f2:(g+q) / 2<g:=by omega
 refine⟨f1,f2,?_⟩
 have f3:g+q+1<=2*((g+q) / 2+1):=by omega
 generalize (g+q) / 2+1=t at f3 ⊢
 have f4:=Int.mul_le_mul f3 f3 ∅ ∅
 have f5:=sq_nonneg (g-(q+1))
 have f6:k<g*(q+1):=by grind
 grind
theorem Ip:Builtin.Int.intBits 1=1:=by decide
@[irreducible] def wrB:Nat:=45000001
theorem A9:wrB=45000001:=by unfold wrB;rfl
theorem pG(h:mW ds U Qd):i5 ‹Qd› (ak ["k","guess"] ds) U:=by
 obtain⟨k,rfl,h0,hz,q⟩:=h
 unfold i5
 walk_at "rd"
 have b1:=Dv k
 have b2:=bits_le hz
 generalize Builtin.Int.intBits k=n at b1 b2 ⊢
 have ef:((n:Nat)+1:Int).fdiv 2=(((n+1) / 2:Nat):Int):=by
  rw[Int.fdiv_eq_ediv_of_nonneg _ ∅];omega
 rw[ef]
 refine⟨by simp,⟨∅,by rw[Ip];omega⟩,?_⟩
 have es:((1:Int)*2 ^ ((((n+1) / 2:Nat):Int)).toNat)=((2 ^ ((n+1) / 2):Nat):Int):=by rw[Int.toNat_natCast,Int.one_mul,Int.natCast_pow];rfl
 rw[es]
 have hp:(2 ^ n:Nat)<=2 ^ ((n+1) / 2)*2 ^ ((n+1) / 2):=by rw[<- Nat.pow_add];exact Nat.pow_le_pow_right ⋯ ∅
 have hup:(2 ^ ((n+1) / 2):Nat)<2 ^ wrB:=Nat.pow_lt_pow_right ⋯ (by have:=A9;omega)
 generalize (2 ^ ((n+1) / 2):Nat)=G at hp hup ⊢
 have st:k<((G:Int)+1)*((G:Int)+1):=by
  have:(k.natAbs:Int)<((G*G:Nat):Int):=by exact_mod_cast lt_of_lt_of_le b1 hp
  rw[Int.natCast_mul] at this
  grind
 refine⟨fun m ρ Z=>∃g:Int,ρ=[some (.v (.int k)),some (.v (.int g))]/\m=g.toNat/\0<=g/\Sz wrB g/\k<(g+1)*(g+1)/\Z=U,⟨_,_,rfl,rfl,∅,Sz.of (by simpa using hup),st,rfl⟩,?_⟩
 rintro m ρ Z ⟨g,rfl,rfl,g0,gz,gk,rfl⟩
 walk_at "rd"
 refine⟨cg gz gz (by have:=A9;omega),?_⟩
 by_cases hc:k<g*g
 ·rw[if_pos (by simpa using hc)]
  have gp:0<g:=by
   rcases lt_or_le 0 g with z|z
   ·exact z
   ·have:g=0:=by omega
    subst this;omega
  obtain⟨t1,t2,t3⟩:=EH h0 gp hc
  refine⟨∅,by simp,_,?_,_,rfl,rfl,t1,gz.le ∅,t3,trivial⟩
  omega
 ·rw[if_neg (by simpa using hc)]
  exact q g g0 ∅ gk
end
noncomputable def kv:DTS:=
 (aj (aK (du (cx (dB (lA "tuple" (ab 0)))) (dB (dOp (aJ true) (dCB aX (aa (ab 0) af)) (dC (.int 3))))) (aB (dC (.bool false))) aE)
 (aj (aq (ab 0) (cC 3 (ay (ae 1) (ay (ae 2) (ay (ae 3) cw)))))
 (aj (aK (du (cx (dB (ag cf (aa (ab 1) af)))) (du (cx (dB (ag cf (aa (ab 2) af)))) (cx (dB (ag cf (aa (ab 3) af)))))) (aB (dC (.bool false))) aE)
 (aB (cL (dOp rGe (ab 3) (dC (.int 1))) (dOp (aJ false) (ag ni (aa (ab 1) (aa (ab 2) (aa (ab 3) af)))) (dC (.int 1))))))))
section
variable {U:Mu}{Qd:DK}{ds:List D}
noncomputable def xy(i:Int):Bool:=decide (2<=i)&&decide (i<=30)&&!(decide (i=4) || decide (i=9) || decide (i=16) || decide (i=25))
theorem bV(d:PyData):(∃i,d = .int i/\isWhole d=true)\/((∀i,d≠.int i)/\isWhole d=false):=by
 cases d<;>first|exact .inl ⟨_,rfl,rfl⟩|exact .inr ⟨fun _ z=>(by cases z),rfl⟩
theorem iO(d:PyData):(∃xs,d = .tuple xs/\isT "tuple" d=true)\/((∀xs,d≠.tuple xs)/\isT "tuple" d=false):=by
 cases d<;>first|exact .inl ⟨_,rfl,rfl⟩|exact .inr ⟨fun _ z=>(by cases z),rfl⟩
theorem qR{d:PyData}(h:∀xs,d≠.tuple xs):isNum d=false:=by cases d<;>first|rfl|exact absurd rfl (h _)
theorem qw{xs:List PyData}(h:xs.length≠3):isNum (.tuple xs)=false:=by
 unfold isNum
 split
 ·rename_i e;cases e;exact absurd rfl h
 ·rfl
theorem three{α:Type}{xs:List α}(h:xs.length=3):∃a b c,xs=[a,b,c]:=by
 match xs,h with
 |[a,b,c],_=>exact⟨a,b,c,rfl⟩
theorem sy(h:gD ds U Qd):kv ‹Qd› (ak ["thing","a","b","c"] ds) U:=by
 obtain⟨d,rfl,_,q⟩:=h
 unfold kv
 walk_at "rd"
 rcases iO d with ⟨xs,rfl,e⟩|⟨hn,e⟩
 ·rw[e]
  walk_at "rd"
  by_cases hl:xs.length=3
  ·obtain⟨a,b,c,rfl⟩:=three hl
   have e3:decide ((([a,b,c].length:Nat):Int)=3)=true:=rfl
   have e3':[a,b,c].length=3:=rfl
   simp only[e3,Bool.xor_self,false_eq_true,↓reduceIte]
   refine⟨rfl,?_⟩
   walk_at "rd"
   refine⟨a,rfl,?_⟩
   rcases bV a with ⟨i,rfl,e⟩|⟨hn,e⟩
   ·rw[e]
    walk_at "rd"
    refine⟨b,rfl,?_⟩
    rcases bV b with ⟨j,rfl,e⟩|⟨hn,e⟩
    ·rw[e]
     walk_at "rd"
     refine⟨c,rfl,?_⟩
     rcases bV c with ⟨k,rfl,e⟩|⟨hn,e⟩
     ·rw[e]
      walk_at "rd"
      have q':Qd (.v (.bool (decide (1<=k)&&(g3 i j k==1)))) U:=q
      by_cases hk:1<=k
      ·rw[if_pos (by simpa using hk)]
       refine⟨i,j,k,rfl,?_⟩
       walk_at "rd"
       have ee:decide (((g3 i j k:Nat):Int)=1)=(decide (1<=k)&&(g3 i j k==1)):=by
        rw[decide_eq_true hk,Bool.true_and,Bool.eq_iff_iff];simp;omega
       rw[ee]
       exact q'
      ·rw[if_neg (by simpa using hk)]
       rw[decide_eq_false hk] at q'
       exact q'
     ·rw[e]
      walk_at "rd"
      have:isNum (.tuple [.int i,.int j,c])=false:=by cases c<;>first|rfl|exact absurd rfl (hn _)
      rw[this] at q
      exact q
    ·rw[e]
     walk_at "rd"
     have:isNum (.tuple [.int i,b,c])=false:=by cases b<;>first|rfl|exact absurd rfl (hn _)
     rw[this] at q
     exact q
   ·rw[e]
    walk_at "rd"
    have:isNum (.tuple [a,b,c])=false:=by cases a<;>first|rfl|exact absurd rfl (hn _)
    rw[this] at q
    exact q
  ·rw[qw hl] at q
   have:decide (((xs.length:Nat):Int)=3)=false:=by simp;omega
   rw[this]
   simp only[xor_false,↓reduceIte]
   exact q
 ·rw[e]
  rw[qR hn] at q
  walk_at "rd"
  exact q
end
noncomputable def eV:DTS:=
 (aj (aK (du (cx (dB (lA "tuple" (ab 0)))) (du (dB (dOp (aJ true) (dCB aX (aa (ab 0) af)) (dC (.int 3)))) (cx (dB (dCB lU (aa (fj [none] (fw (ab 0)) (ae 0) aZ (ag cf (aa (ab 0) af))) af)))))) (aB (dC (.bool false))) aE)
 (aB (cL (dOp rGt (dOp ai (ab 0) (dC (.int 2))) (dC (.int 0))) (dOp (aJ false) (ag iz (aa (ag iz (aa (dOp ai (ab 0) (dC (.int 0))) (aa (dOp ai (ab 0) (dC (.int 1))) af))) (aa (dOp ai (ab 0) (dC (.int 2))) af))) (dC (.int 1))))))
noncomputable def ic:DTS:=
 (aj (aq (dOp ai (cU (aa (dC (.int 4)) (aa (dC (.int 10)) (aa (dC (.int 100)) (aa (dC (.int 1000000)) af))))) (ag aO (aa (ab 0) (aa (dC (.int 4)) af)))) (ae 1))
 (aj (oi 2 3 (aa (fu (ag aO (aa (ab 0) (aa (ab 1) af))) (eo (ab 1) (dC (.int 2)))) (aa (fu (ag aO (aa (ab 0) (aa (ab 1) af))) (eo (ab 1) (dC (.int 2)))) af)))
 (aj (aq (cz (dC (.int 1)) (ag aO (aa (ab 0) (aa (fu (ab 1) (dC (.int 1))) af)))) (ae 4))
 (aj (aq (ag aO (aa (ab 0) (aa (dC (.int 8)) af))) (ae 5))
 (aB (ag aP (aa (dOp ai (cU (aa (ab 2) (aa (ab 2) (aa (ab 2) (aa (ab 2) (aa (ab 2) (aa (ab 2) (aa (ab 2) (aa (dC (.int 0)) af))))))))) (ab 5)) (aa (dOp ai (cU (aa (ab 3) (aa (ab 3) (aa (ab 3) (aa (ab 3) (aa (ab 3) (aa (dC (.int 0)) (aa (dC (.int 0)) (aa (ab 3) af))))))))) (ab 5)) (aa (dOp ai (cU (aa (ab 4) (aa (ab 4) (aa (dC (.int 1)) (aa (ab 4) (aa (dC (.int 1)) (aa (ab 4) (aa (dC (.int 1)) (aa (ab 4) af))))))))) (ab 5)) af)))))))))
section
variable {U:Mu}{Qd:DK}{ds:List D}
theorem ke(h:gD ds U Qd):eV ‹Qd› (ak ["_law_thing"] ds) U:=by
 obtain⟨d,rfl,few,q⟩:=h
 unfold eV
 walk_at "rd"
 rcases iO d with ⟨xs,rfl,e⟩|⟨hn,e⟩
 ·rw[e]
  walk_at "rd"
  by_cases hl:xs.length=3
  ·obtain⟨a,b,c,rfl⟩:=three hl
   have e3:decide ((([a,b,c].length:Nat):Int)=3)=true:=rfl
   simp only[e3,Bool.xor_self,false_eq_true,↓reduceIte]
   refine⟨by simp,fun x=>some (.bool (isWhole x)),fun x hx Z hs=>⟨trivial,x,rfl,rfl,rfl⟩,?_⟩
   rw[dF (fun x=>PyData.bool (isWhole x)),eQ]
   simp only[map_cons,map_nil,List.all_cons,List.all_nil,id,Bool.and_true]
   rcases bV a with ⟨i,rfl,ea⟩|⟨hn,ea⟩
   ·rcases bV b with ⟨j,rfl,e1⟩|⟨hn,e1⟩
    ·rcases bV c with ⟨k,rfl,e2⟩|⟨hn,e2⟩
     ·rw[ea,e1,e2]
      simp only[Bool.and_self]
      walk_at "rd"
      have q':Qd (.v (.bool (decide (1<=k)&&(g3 i j k==1)))) U:=q
      by_cases hk:1<=k
      ·rw[if_pos (by simp;omega)]
       refine⟨i,j,rfl,_,k,rfl,?_⟩
       walk_at "rd"
       have ee:decide (((Int.gcd (Int.gcd i j:Nat) k:Nat):Int)=1)=(decide (1<=k)&&(g3 i j k==1)):=by
        unfold g3
        rw[decide_eq_true hk,Bool.true_and,Bool.eq_iff_iff];simp;omega
       rw[ee]
       exact q'
      ·rw[if_neg (by simp;omega)]
       rw[decide_eq_false hk] at q'
       exact q'
     ·rw[ea,e1,e2]
      simp only[Bool.and_false]
      walk_at "rd"
      have:isNum (.tuple [.int i,.int j,c])=false:=by cases c<;>first|rfl|exact absurd rfl (hn _)
      rw[this] at q
      exact q
    ·rw[ea,e1]
     simp only[Bool.and_false,Bool.false_and]
     walk_at "rd"
     have:isNum (.tuple [.int i,b,c])=false:=by cases b<;>first|rfl|exact absurd rfl (hn _)
     rw[this] at q
     exact q
   ·rw[ea]
    simp only[Bool.and_false,Bool.false_and]
    walk_at "rd"
    have:isNum (.tuple [a,b,c])=false:=by cases a<;>first|rfl|exact absurd rfl (hn _)
    rw[this] at q
    exact q
  ·rw[qw hl] at q
   have:decide (((xs.length:Nat):Int)=3)=false:=by simp;omega
   rw[this]
   simp only[xor_false,↓reduceIte]
   exact q
 ·rw[e]
  rw[qR hn] at q
  walk_at "rd"
  exact q
theorem pick{P:PyData->Prop}{xs:List PyData}{i:Int}(h0:0<=i)(h1:i<(xs.length:Nat))(h:∀x∈xs,P x):∃d,atI xs i=some d/\P d:=let ⟨d,e,m⟩:=sI h0 h1;⟨d,e,h d m⟩
theorem Step.refl{a:Addr}(h:Bag U a):Step a U U:=⟨h,fun _ _=>rfl⟩
theorem ue{i:Int}(h1:-1048576<i)(h2:i<1048576):Sz 20 i:=Sz.of (by show i.natAbs<1048576;omega)
theorem oq(h:iM ds U Qd):ic ‹Qd› (ak ["_law_bag_here","_law_wide","_law_a","_law_b","_law_c","_law_way"] ds) U:=by
 obtain⟨a,rfl,hb,q⟩:=h
 unfold ic
 walk_at "rd"
 refine⟨a,4,rfl,⋯,⋯,hb,fun r0 Y h0 h1 s1=>?_⟩
 walk_at "rd"
 obtain⟨w,e,i,rfl,w0,w1⟩:=pick (P:=fun d=>∃i:Int,d = .int i/\4<=i/\i<=1000000) (xs:=[PyData.int 4,PyData.int 10,PyData.int 100,PyData.int 1000000]) h0 (by exact h1) (by
  intro x hx
  simp only[mem_cons,not_mem_nil,or_false] at hx
  rcases hx with rfl|rfl|rfl|rfl<;>exact⟨_,rfl,⋯,⋯⟩)
 rw[e]
 walk_at "rd"
 refine⟨a,i,rfl,∅,∅,s1.1,fun r1 ac h2 h3 s2=>?_⟩
 walk_at "rd"
 refine⟨(by simp),a,i,rfl,∅,∅,s2.1,fun r2 be h4 h5 s3=>?_⟩
 walk_at "rd"
 refine⟨(by simp),a,i-1,rfl,∅,∅,s3.1,fun r3 bn h6 h7 s4=>?_⟩
 walk_at "rd"
 refine⟨a,8,rfl,⋯,⋯,s4.1,fun r4 dL h8 h9 s5=>?_⟩
 walk_at "rd"
 have ef:i.fdiv 2=i / 2:=Int.fdiv_eq_ediv_of_nonneg _ ∅
 rw[ef]
 have za:Sz 20 (r1-i / 2):=ue ∅ ∅
 have zb:Sz 20 (r2-i / 2):=ue ∅ ∅
 have zc:Sz 20 (1+r3):=ue ∅ ∅
 have z0:Sz 20 0:=ue ∅ ∅
 have z1:Sz 20 1:=ue ∅ ∅
 obtain⟨d1,e1,i1,rfl,b1⟩:=pick (P:=fun d=>∃i:Int,d = .int i/\Sz 20 i) (xs:=[PyData.int (r1-i / 2),PyData.int (r1-i / 2),PyData.int (r1-i / 2),PyData.int (r1-i / 2),PyData.int (r1-i / 2),PyData.int (r1-i / 2),PyData.int (r1-i / 2),PyData.int 0]) h8 (by exact h9) (by
  intro x hx
  simp only[mem_cons,not_mem_nil,or_false] at hx
  rcases hx with rfl|rfl|rfl|rfl|rfl|rfl|rfl|rfl<;>exact⟨_,rfl,by assumption⟩)
 rw[e1]
 walk_at "rd"
 obtain⟨d2,e2,i2,rfl,b2⟩:=pick (P:=fun d=>∃i:Int,d = .int i/\Sz 20 i) (xs:=[PyData.int (r2-i / 2),PyData.int (r2-i / 2),PyData.int (r2-i / 2),PyData.int (r2-i / 2),PyData.int (r2-i / 2),PyData.int 0,PyData.int 0,PyData.int (r2-i / 2)]) h8 (by exact h9) (by
  intro x hx
  simp only[mem_cons,not_mem_nil,or_false] at hx
  rcases hx with rfl|rfl|rfl|rfl|rfl|rfl|rfl|rfl<;>exact⟨_,rfl,by assumption⟩)
 rw[e2]
 walk_at "rd"
 obtain⟨d3,e3,i3,rfl,b3,p3⟩:=pick (P:=fun d=>∃i:Int,d = .int i/\Sz 20 i/\0<i) (xs:=[PyData.int (1+r3),PyData.int (1+r3),PyData.int 1,PyData.int (1+r3),PyData.int 1,PyData.int (1+r3),PyData.int 1,PyData.int (1+r3)]) h8 (by exact h9) (by
  intro x hx
  simp only[mem_cons,not_mem_nil,or_false] at hx
  rcases hx with rfl|rfl|rfl|rfl|rfl|rfl|rfl|rfl<;>exact⟨_,rfl,by assumption,∅⟩)
 rw[e3]
 walk_at "rd"
 have n3:i3≠0:=by omega
 exact⟨i1,i2,i3,rfl,n3,b3.mono ⋯,q _ _ (dn _ _ n3) (dy n3 b1 b2 b3) (s1.trans (s2.trans (s3.trans (s4.trans s5))))⟩
end
noncomputable def j7:DTS:=
 (aj (aK (dB (dOp (aJ false) (ag aO (aa (ab 0) (aa (dC (.int 2)) af))) (dC (.int 0)))) (aB (dOp ai (cU (aa (dC (.int 2)) (aa (dC (.int 3)) (aa (dC (.int 5)) af)))) (ag aO (aa (ab 0) (aa (dC (.int 3)) af))))) aE)
 (aj (aq (aQ [none] (vW (aa (dC (.int 2)) (aa (dC (.int 31)) af))) (ae 0) (dB (dOp (vS true) (ab 0) (cU (aa (dC (.int 4)) (aa (dC (.int 9)) (aa (dC (.int 16)) (aa (dC (.int 25)) af))))))) (ab 0)) (ae 1))
 (aB (dOp ai (ab 1) (ag aO (aa (ab 0) (aa (dC (.int 25)) af)))))))
noncomputable def ja:DTS:=
 (aj (aq (ag iM (aa (ab 0) af)) (ae 2))
 (aj (aq (ag fR (aa (ab 1) (aa (ab 2) af))) (ae 3))
 (aj (aK (dB (dOp (aJ false) (ab 3) (dC (.int 0)))) (aB (aT (aa (cz (dC (.int 1)) (ag aO (aa (ab 0) (aa (dC (.int 5)) af)))) (aa (dC (.int 0)) (aa (dC (.int 1)) af))))) aE)
 (aB (dIf (dB (dOp rGt (ab 3) (dC (.int 0)))) (ab 2) (ag gn (aa (ab 2) af)))))))
section
variable {U:Mu}{Qd:DK}{ds:List D}
theorem Dg{lo:Int}{n:Nat}{x:PyData}(h:x∈hR lo n):∃i:Int,x = .int i/\lo<=i/\i<lo+n:=by
 unfold hR at h
 obtain⟨k,hk,rfl⟩:=List.mem_map.mp h
 have:=List.mem_range.mp hk
 exact⟨_,rfl,∅,∅⟩
noncomputable def vi:PyData->Option PyData
 |.int i=>if xy i then some (.int i) else none
 |_=>none
noncomputable def sO:List PyData:=[2,3,5,6,7,8,10,11,12,13,14,15,17,18,19,20,21,22,23,24,26,27,28,29,30].map PyData.int
theorem in4(i:Int):(List.any [PyData.int 4,PyData.int 9,PyData.int 16,PyData.int 25] fun b=>PyData.eqv b (.int i))=(decide (i=4) || decide (i=9) || decide (i=16) || decide (i=25)):=by
 have ev:∀j:Int,PyData.eqv (.int j) (.int i)=decide (i=j):=fun j=>by rw[Kh];simp[eq_comm]
 simp only[List.any_cons,List.any_nil,ev,Bool.or_false,Bool.or_assoc]
theorem rf(h:mS ds U Qd):j7 ‹Qd› (ak ["_law_bag_here","_law_some"] ds) U:=by
 obtain⟨a,rfl,hb,q⟩:=h
 unfold j7
 walk_at "rd"
 refine⟨a,2,rfl,⋯,⋯,hb,fun r0 Y h0 h1 s1=>?_⟩
 walk_at "rd"
 by_cases hr:r0=0
 ·rw[if_pos (by simpa using hr)]
  refine⟨a,3,rfl,⋯,⋯,s1.1,fun r1 ac h2 h3 s2=>?_⟩
  walk_at "rd"
  obtain⟨w,e,i,rfl,w0⟩:=pick (P:=fun d=>∃i:Int,d = .int i/\ah i) (xs:=[PyData.int 2,PyData.int 3,PyData.int 5]) h2 (by exact h3) (by
   intro x hx
   simp only[mem_cons,not_mem_nil,or_false] at hx
   rcases hx with rfl|rfl|rfl<;>exact⟨_,rfl,by unfold ah;omega⟩)
  rw[e]
  exact q _ _ w0 (s1.trans s2)
 ·rw[if_neg (by simpa using hr)]
  refine⟨⟨⋯,⋯,⋯,⋯⟩,⋯,fun p hp=>⟨fun i acc Z=>acc=((hR 2 29).take i).filterMap vi/\Z=aD Y p acc,⟨rfl,rfl⟩,?_,?_⟩⟩
  ·rintro i x acc Z hx hpa ⟨e0,e1⟩
   obtain⟨k,rfl,i0,i1⟩:=Dg (mem_of_getElem? hx)
   refine⟨trivial,rfl,rfl,by show 0<=60;decide,?_⟩
   rw[in4]
   have i1':k<31:=by simpa using i1
   have e:vi (.int k)=if xy k then some (.int k) else none:=rfl
   have e2:xy k = !(decide (k=4) || decide (k=9) || decide (k=16) || decide (k=25)):=by
    unfold xy
    rw[decide_eq_true i0,decide_eq_true (show k<=30 by omega)]
    rfl
   have ft:((hR 2 29).take (i+1)).filterMap vi=((hR 2 29).take i).filterMap vi++(vi (.int k)).toList:=FV hx
   rw[e,e2] at ft
   cases hh:(decide (k=4) || decide (k=9) || decide (k=16) || decide (k=25))
   ·rw[hh] at ft
    simp only[true_xor,Bool.not_false,↓reduceIte] at ft ⊢
    refine⟨hpa,?_,?_⟩
    ·rw[ft,e0];rfl
    ·rw[e1,bU]
   ·rw[hh] at ft
    simp only[true_xor,Bool.not_true,↓reduceIte,false_eq_true] at ft ⊢
    refine⟨hpa,?_,e1⟩
    rw[ft,e0];simp
  rintro acc Z ⟨e0,e1⟩ _
  have ed:dP Z p=Y:=by rw[e1];exact cY hp
  rw[ed]
  have e0':acc=sO:=by rw[e0];rfl
  rw[e0']
  refine⟨a,25,rfl,⋯,⋯,s1.1,fun r1 ac h2 h3 s2=>?_⟩
  walk_at "rd"
  obtain⟨w,e,i,rfl,w0⟩:=pick (P:=fun d=>∃i:Int,d = .int i/\ah i) (xs:=sO) h2 (by exact h3) (by
   intro x hx
   unfold sO at hx
   obtain⟨k,hk,rfl⟩:=List.mem_map.mp hx
   exact⟨_,rfl,(show ∀k∈([2,3,5,6,7,8,10,11,12,13,14,15,17,18,19,20,21,22,23,24,26,27,28,29,30]:List Int),ah k by unfold ah;decide) k hk⟩)
  rw[e]
  exact q _ _ w0 (s1.trans s2)
noncomputable def iq:DSp:=fun ds U Q=>∃(a:Addr) (d:Int),ds=[.m a,.v (.int d)]/\ah d/\Bag U a/\∀x Z,Ok x->Bd 20 x->sg d x.a x.b=1->Step a U Z->Q (.v (dN x)) Z
theorem pK(h:iq ds U Qd):ja ‹Qd› (ak ["_law_bag_here","_law_d","_law_x","_law_sign_here"] ds) U:=by
 obtain⟨a,d,rfl,hd,hb,q⟩:=h
 unfold ja
 walk_at "rd"
 refine⟨a,rfl,hb,fun x Y ox bx s1=>?_⟩
 walk_at "rd"
 refine⟨d,x,rfl,hd,bx.mono ⋯,?_⟩
 walk_at "rd"
 have t:=oT d x.a x.b
 by_cases h0:sg d x.a x.b=0
 ·rw[if_pos (by simpa using h0)]
  refine⟨a,5,rfl,⋯,⋯,s1.1,fun r ac r0 r1 s2=>?_⟩
  walk_at "rd"
  have ok:Ok ⟨1+r,0,1⟩:=⟨by show (0:Int)<1;decide,by unfold g3;simp⟩
  refine q ⟨1+r,0,1⟩ ac ok ⟨ue (by show -1048576<1+r;omega) (by show 1+r<1048576;omega),ue (by show -1048576<(0:Int);decide) (by show (0:Int)<1048576;decide),ue (by show -1048576<(1:Int);decide) (by show (1:Int)<1048576;decide)⟩ ?_ (s1.trans s2)
  show sg d (1+r) 0=1
  unfold sg
  rw[if_neg ∅,if_pos ∅]
 ·rw[if_neg (by simpa using h0)]
  by_cases h1:0<sg d x.a x.b
  ·rw[if_pos (by simpa using h1)]
   exact q x Y ox bx ∅ s1
  ·rw[if_neg (by simpa using h1)]
   refine⟨x,rfl,?_⟩
   refine q (minus x) Y (bQ ox) (fi bx) ?_ s1
   show sg d (-x.a) (-x.b)=1
   rw[k5 hd]
   omega
end
section
variable {U:Mu}{Q:DK}{ds:List D}
noncomputable def nV:DSp:=fun ds U Q=>∃ns:List Int,ds=[.s ns]/\ns.length<=63/\∀Z,Q (.v (.bool true)) Z
theorem mq(h:cf ds U Q):ds.length=1:=by obtain⟨_,rfl,_⟩:=h;rfl
theorem qW(h:iz ds U Q):ds.length=2:=by obtain⟨_,_,rfl,_⟩:=h;rfl
theorem wz(h:ni ds U Q):ds.length=3:=by obtain⟨_,_,_,rfl,_⟩:=h;rfl
theorem oG(h:gD ds U Q):ds.length=1:=by obtain⟨_,rfl,_⟩:=h;rfl
theorem kL(h:aP ds U Q):ds.length=3:=by obtain⟨_,_,_,rfl,_⟩:=h;rfl
theorem vd(h:gn ds U Q):ds.length=1:=by obtain⟨_,rfl,_⟩:=h;rfl
theorem oU(h:aW ds U Q):ds.length=2:=by obtain⟨_,_,rfl,_⟩:=h;rfl
theorem v7(h:jK ds U Q):ds.length=2:=by obtain⟨_,_,rfl,_⟩:=h;rfl
theorem lT(h:a7 ds U Q):ds.length=3:=by obtain⟨_,_,_,rfl,_⟩:=h;rfl
theorem gX(h:aL ds U Q):ds.length=2:=by obtain⟨_,_,rfl,_⟩:=h;rfl
theorem vH(h:gy ds U Q):ds.length=3:=by obtain⟨_,_,_,rfl,_⟩:=h;rfl
theorem t9(h:j5 ds U Q):ds.length=3:=by obtain⟨_,_,_,rfl,_⟩:=h;rfl
theorem nu(h:fR ds U Q):ds.length=2:=by obtain⟨_,_,rfl,_⟩:=h;rfl
theorem u6(h:f9 ds U Q):ds.length=3:=by obtain⟨_,_,_,rfl,_⟩:=h;rfl
theorem uD(h:gb ds U Q):ds.length=3:=by obtain⟨_,_,_,rfl,_⟩:=h;rfl
theorem zk(h:xG ds U Q):ds.length=2:=by obtain⟨_,_,rfl,_⟩:=h;rfl
theorem wc(h:aO ds U Q):ds.length=2:=by obtain⟨_,_,rfl,_⟩:=h;rfl
theorem pI(h:iM ds U Q):ds.length=1:=by obtain⟨_,rfl,_⟩:=h;rfl
theorem um(h:mS ds U Q):ds.length=1:=by obtain⟨_,rfl,_⟩:=h;rfl
theorem sL(h:iq ds U Q):ds.length=2:=by obtain⟨_,_,rfl,_⟩:=h;rfl
theorem ug(h:mW ds U Q):ds.length=1:=by obtain⟨_,rfl,_⟩:=h;rfl
theorem yX(h:nV ds U Q):ds.length=1:=by obtain⟨_,rfl,_⟩:=h;rfl
end
noncomputable def lj:DTS:=gT
theorem lR{U Qd ds}(h:cf ds U Qd):lj ‹Qd› (ak ["_law_thing"] ds) U:=mz h
structure HM(K:PySem.W.Frag)(mg:Str->Option Value)(x:Str)(g:Addr)(a b c:Int):Prop where
 m:mg x=some (.ref g)
 l:∃(od:Option Addr) (n:Nat) (sl:Array (Option Value)) (t u v:Tok),K.lookup g=some ⟨.type "tuple",od,.seq #[.int a t,.int b u,.int c v] n,sl⟩
theorem ui{X:Cx}{x:Str}{g:Addr}{a b c:Int}{pos:Pos}(hg:Gl X x)(h:HM X.K X.mg x g a b c)(hd:(x==("__debug__":Str))=false:=by decide):DE X (.Name x pos) (dC (.tuple [.int a,.int b,.int c])):=by
 obtain⟨od,n,sl,t,u,v,e⟩:=h.l
 refine xp (u:=.ref g) hg h.m rfl (fun U H _=>Rp.tuple (xs:=[.int a,.int b,.int c]) (.inr ⟨_,_,_,e,rfl,rfl,(by show 3<=sizeLine;decide),.cons ⟨t,rfl⟩ (.cons ⟨u,rfl⟩ (.cons ⟨v,rfl⟩ .nil))⟩) (.cons (.int a) (.cons (.int b) (.cons (.int c) .nil)))) hd
theorem yT{K:PySem.W.Frag}{H:Hp}{a:Addr}{ns:List Int}(hl:ns.length<=63)(hT:vb K H)(hS:SqL K H a (ns.map V.int)):spD K nV [.ref a] H (fun v _=>v = .bl true) fun _ _ _=>False:=by
 refine⟨[.s ns],⟨fun _=>none,fun _=>none⟩,fun d _=>d = .v (.bool true),⟨fun a ds h=>(by cases h),hT,fun a c h=>(by cases h)⟩,.cons ⟨a,rfl,hS,rfl⟩ .nil,⟨ns,rfl,hl,fun _=>rfl⟩,fun d u Z H' _ _ r q=>?_⟩
 subst q
 cases r
 rfl
end L2.DL
namespace L2
open PySem PySem.Spec PyProof.Rows
section
variable {X:Cx}
noncomputable def II(x y:Str)(i:Int):Int:=match Builtin.Str.occurrences x y (fromIndex x.length i) x.length 1 with|k::_=>(k:Nat)|[]=>-1
end
end L2
namespace L2.DL
open PySem PySem.Spec PyProof.Rows
section
variable {X:Cx}{a b e i o:Expr}{ta tb te ti to:DTE}{pos apos cpos:Pos}
noncomputable def K2(to te ti:DTE):DTE:=fun ρ U Q=>to ρ U fun x Y=>match x with
 |.v (.str z)=>te ρ Y fun y ac=>ti ρ ac fun k be=>(match y,k with
  |.v (.str w),.v (.int n)=>Q (.v (.int (II z w n))) be
  |_,_=>False)
 |_=>False
noncomputable def El(K:PySem.W.Frag):R2:=fun x y H Q=>∃U a bs,Rp K U H a x/\Rp K U H (.tuple bs) y/\PyData.canLayAll0 bs=true/\a.canLay0=true/\PyData.depth a<=60/\Q (.bl (bs.any fun b=>PyData.eqv b a)) H
theorem E9(hu:X.A.units+64<cLine):OpR X (compareOp .In) (El X.K):=by
 intro pins s O H x y v u Q I rx ry h
 obtain⟨U,a,b,ha,hb,sb,sa,dp,q⟩:=h
 obtain⟨as,ra⟩:=ck I ha rx
 obtain⟨bs,rb⟩:=ck I hb ry
 exact SeqAt.in_tuple_reads rb ra sb sa ∅ ⟨.bl (b.any fun z=>PyData.eqv z a),H,I,rfl,q⟩
noncomputable def uu:D->D->Mu->DK->Prop:=fun x y U Q=>match x,y with
 |.v a,.v (.tuple bs)=>PyData.canLayAll0 bs=true/\a.canLay0=true/\PyData.depth a<=60/\Q (.v (.bool (bs.any fun b=>PyData.eqv b a))) U
 |_,_=>False
theorem Fb{K:PySem.W.Frag}:cV K (El K) uu:=by
 intro x y ux uy H U Qd Q ok rx ry h k
 unfold uu at h
 split at h
 ·exact⟨U,_,_,rx,ry,h.1,h.2.1,h.2.2.1,k (.v _) _ U H .refl ok (.bool _) h.2.2.2⟩
 ·exact h.elim
end
section
variable {ρ:Rho}{U:Mu}{Q:DK}{te ti to:DTE}{d:PyData}{xs:List PyData}
theorem D4:uu (.v d) (.v (.tuple xs)) U Q=(PyData.canLayAll0 xs=true/\d.canLay0=true/\PyData.depth d<=60/\Q (.v (.bool (xs.any fun b=>PyData.eqv b d))) U):=propext Iff.rfl
end
end L2.DL
namespace L2
open PySem PySem.Spec PyProof.Rows
end L2
namespace L2.DL
open PySem PySem.Spec PyProof.Rows
end L2.DL
namespace L2
open PySem PySem.Spec PyProof.Rows
end L2
namespace L2.DL
open PySem PySem.Spec PyProof.Rows
end L2.DL
namespace L2
open PySem PySem.Spec PyProof.Rows
end L2
namespace L2
open PySem PySem.Spec PyProof.Rows
end L2
namespace L2.DL
open PySem PySem.Spec PyProof.Rows
noncomputable def intsOf:List PyData->Option (List Int)
 |[]=>some []
 |.int i::r=>(intsOf r).map (i::·)
 |_=>none
section
variable {α:Type}
noncomputable def zT(kvs:List (List Int×α))(k:List Int):Option α:=(kvs.find? fun x=>decide (x.1=k)).map (·.2)
noncomputable def Jl(kvs:List (List Int×α))(k:List Int)(v:α):List (List Int×α):=if (zT kvs k).isSome=true then kvs.map (fun x=>if x.1=k then (x.1,v) else x) else kvs++[(k,v)]
end
section
variable {X:Cx}{a b e o:Expr}{ta tb te to:DTE}{pos p apos cpos:Pos}
theorem DE.use{td:DTE}(h:DE X e td){pins:List (Addr×Obj)}{s:Shared}{O:St}{H:Hp}{ρ:Rho}{U:Mu}{Qd:DK}(I:Inv X pins O H s)(S:St0 X.K H ρ U O)(q:td ρ U Qd) :
  wpAny (model X.prog X.w) X.A (eval e X.env) (fun v s'=>∃d u Z H',Inv X pins O H' s'/\RelV u v/\Ext X.K U H Z H'/\St0 X.K H' ρ Z O/\RpD X.K Z H' d u/\Qd d Z) X.xe s:=by
 obtain⟨t,p,l⟩:=h
 exact wpAny_mono (p pins s O H (fun u H'=>∃d Z,Ext X.K U H Z H'/\St0 X.K H' ρ Z O/\RpD X.K Z H' d u/\Qd d Z) I (l O H ρ U Qd _ S q fun d u Z H' ex S' r z=>⟨d,Z,ex,S',r,z⟩))
  (fun v s' ⟨u,H',I',rv,d,Z,ex,S',r,z⟩=>⟨d,u,Z,H',I',rv,ex,S',r,z⟩) fun _ _ z=>z
noncomputable def CV:DTE:=fun _ U Q=>∀p,U.b p=none->Q (.b p) (ma U p (.set []))
noncomputable def Dr:DTE:=fun _ U Q=>∀p,U.b p=none->Q (.b p) (ma U p (.dict []))
theorem Bm{ρ:Rho}{U:Mu}{Q:DK}:CV ρ U Q = ∀p,U.b p=none->Q (.b p) (ma U p (.set [])):=rfl
theorem Al{ρ:Rho}{U:Mu}{Q:DK}:Dr ρ U Q = ∀p,U.b p=none->Q (.b p) (ma U p (.dict [])):=rfl
theorem Hv{pins:List (Addr×Obj)}{s:Shared}{O:St}{H:Hp}(I:Inv X pins O H s):(s.heap.objs.size==sysModules)=false:=beq_eq_false_iff_ne.mpr (Ne.symm (ne_of_lt I.big))
noncomputable def yZ:D->Option (List Int)
 |.v (.tuple ds)=>intsOf ds
 |_=>none
end
section
variable {X:Cx}{a b e o i value:Expr}{ta tb te to ti tv:DTE}{pos pos' p apos cpos:Pos}
noncomputable def JC(to te:DTE):DTE:=fun ρ U Q=>to ρ U fun x Y=>∃a ks0,x = .b a/\Y.b a=some (.set ks0)/\te ρ Y fun y ac=>∃k ks,yZ y=some k/\ac.b a=some (.set ks)/\ks.length<=9800/\k ∉ ks/\Q (.v .none) (ma ac a (.set (ks++[k])))
theorem Fu{ρ:Rho}{U:Mu}{Q:DK}:JC to te ρ U Q=to ρ U fun x Y=>∃a ks0,x = .b a/\Y.b a=some (.set ks0)/\te ρ Y fun y ac=>∃k ks,yZ y=some k/\ac.b a=some (.set ks)/\ks.length<=9800/\k ∉ ks/\Q (.v .none) (ma ac a (.set (ks++[k]))):=rfl
noncomputable def Ko(to ti:DTE):DTE:=fun ρ U Q=>to ρ U fun x Y=>ti ρ Y fun y ac=>∃a kvs k d,x = .b a/\yZ y=some k/\ac.b a=some (.dict kvs)/\zT kvs k=some d/\Q (.v d) ac
theorem Kf{ρ:Rho}{U:Mu}{Q:DK}:Ko to ti ρ U Q=to ρ U fun x Y=>ti ρ Y fun y ac=>∃a kvs k d,x = .b a/\yZ y=some k/\ac.b a=some (.dict kvs)/\zT kvs k=some d/\Q (.v d) ac:=rfl
noncomputable def IX(to ti tv:DTE):DTS:=fun D ρ U=>tv ρ U fun v Y=>to ρ Y fun x ac=>ti ρ ac fun y be=>∃a kvs k d,v = .v d/\x = .b a/\yZ y=some k/\be.b a=some (.dict kvs)/\kvs.length<=9800/\D.nx ρ (ma be a (.dict (Jl kvs k d)))
theorem Hz{D:gJ}{ρ:Rho}{U:Mu}:IX to ti tv D ρ U=tv ρ U fun v Y=>to ρ Y fun x ac=>ti ρ ac fun y be=>∃a kvs k d,v = .v d/\x = .b a/\yZ y=some k/\be.b a=some (.dict kvs)/\kvs.length<=9800/\D.nx ρ (ma be a (.dict (Jl kvs k d))):=rfl
end
noncomputable def upE(te:DTE):DTE:=fun ρ U Q=>∃Q',te ρ U Q'/\∀d Z,Q' d Z->Q d Z
noncomputable def upG(g:DTG):DTG:=fun d ρ U Q=>∃Q',g d ρ U Q'/\∀ap Z,Q' ap Z->Q ap Z
noncomputable def upT(c:DTT):DTT:=fun ρ U Q=>∃Q',c ρ U Q'/\∀b Z,Q' b Z->Q b Z
noncomputable def upI(c:DTI):DTI:=fun ρ U Q=>∃Q',c ρ U Q'/\∀b Z,Q' b Z->Q b Z
theorem Ea{X:Cx}{e:Expr}{te:DTE}(h:DE X e te):DE X e (upE te):=
 let ⟨t,p,l⟩:=h
 ⟨t,p,fun O H ρ U _ Q S ⟨Q',h,z⟩ k=>l O H ρ U Q' Q S h fun d u Z H' a b c q=>k d u Z H' a b c (z _ _ q)⟩
theorem Ei{X:Cx}{e:Expr}{g:DTG}(h:DG X e g):DG X e (upG g):=
 let ⟨t,p,l⟩:=h
 ⟨t,p,fun O H ρ U d u _ Q S r ⟨Q',h,z⟩ k=>l O H ρ U d u Q' Q S r h fun al ap Z H' a b q=>k al ap Z H' a b (z _ _ q)⟩
theorem yd{X:Cx}{es:List Expr}{c:DTT}(h:jJ X es c):jJ X es (upT c):=
 fun pins s O H ρ U _ Q I S ⟨Q',h',z⟩ k=>h pins s O H ρ U Q' Q I S h' fun b Z H' x y q=>k b Z H' x y (z _ _ q)
theorem D3{X:Cx}{tg e:Expr}{c:DTI}(h:DI X tg e c):DI X tg e (upI c):=
 let ⟨t,p,l⟩:=h
 ⟨t,p,fun O H ρ U _ R S ⟨Q',h,z⟩ k=>l O H ρ U Q' R S h fun xs Y H1 J a b c q=>k xs Y H1 J a b c (z _ _ q)⟩
theorem JG{X:Cx}{e:Expr}{te te':DTE}(h:DE X e te)(w:∀ρ U Q,te' ρ U Q->te ρ U Q):DE X e te':=
 let ⟨t,p,l⟩:=h
 ⟨t,p,fun O H ρ U Qd Q S h k=>l O H ρ U Qd Q S (w _ _ _ h) k⟩
theorem Dl{U:Mu}{p:Addr}{l:List PyData}(h:U p=none):dP (aD U p l) p=U:=Mu.eq (fun b=>by
 by_cases e:b=p
 ·rw[e,d8,h]
 ·rw[bO e,ao e]) fun _=>rfl
theorem yp{cap:List (Option Nat)}{src:DTI}{g:DTG}{c:DTT}{te:DTE}{ρ:Rho}{U:Mu}{Q:DK}(h:fj cap src g c te ρ U Q):aQ cap (upI src) (upG g) (upT c) (upE te) ρ U Q:=by
 refine⟨_,h,fun xs Y ⟨hl,f,body,q⟩=>⟨hl,fun p hp=>⟨fun i acc Z=>acc=(xs.take i).filterMap f/\Z=aD Y p acc,⟨rfl,rfl⟩,fun i x acc Z hx _ P=>?_,fun acc Z P _=>?_⟩⟩⟩
 ·obtain⟨e,rfl⟩:=P
  have tk:∀o,f x=o->(xs.take (i+1)).filterMap f=acc++o.toList:=fun o z=>by
   rw[List.take_add_one,hx,List.filterMap_append,e]
   show _++List.filterMap f [x]=_
   rw[filterMap_cons,z]
   cases o<;>rfl
  refine⟨_,body x (mem_of_getElem? hx) _ (fun a ds z=>by rw[ao (fun w=>by rw[w,hp] at z;cases z),z]),fun bv ac ⟨l,cc⟩=>⟨l,_,cc,fun b be r=>?_⟩⟩
  cases b with
  |true=>
   rw[if_pos rfl] at r ⊢
   refine⟨_,r,fun d bn hq0=>?_⟩
   obtain⟨e4,m⟩:=hq0
   subst e4
   refine⟨av,?_⟩
   split at m
   ·exact⟨(tk _ m).symm,bU⟩
   ·exact m.elim
  |false=>
   rw[if_neg ⋯] at r ⊢
   obtain⟨rfl,z⟩:=r
   exact⟨av,by rw[tk _ z];exact (List.append_nil _).symm,rfl⟩
 ·obtain⟨rfl,rfl⟩:=P
  rw[take_length,Dl hp]
  exact q
structure Cal(K:PySem.W.Frag)(mg:Str->Option Value)(n:Str)(ps:List Str)(st:Stmt)(a:Addr)(d:FuncData):Prop where
 f:Fun K n n st a d
 m:mg n=some (.ref a)
 k:keepIn K (.ref a)=true
 b:Binds K d ps []
theorem Bz{X:Cx}{k j:Nat}{f:Addr}{fd:FuncData}{x:Str}{p pos:Pos}{e:Expr}{es:List Expr}{ps:List Str}{st:Stmt}{dsp:DSp}{t:DTA}(F:eJ X.prog X.w X.K X.mg X.base CX0 k f fd ps (spD X.K dsp))(hr:cR j X.A)(C:Cal X.K X.mg x ps st f fd)
  (ha:DA X (e::es) t) (h:k<=j:=by decide) (hg:Gl X x:=by rfl) (hdb:(x==("__debug__":Str))=false:=by decide) (he:starEach (e::es) X.env=(false,eval e X.env)::starEach es X.env:=by rfl) (hpl:(backTo pos (starEach es X.env)).any (·.1)=false:=by rfl) :
  DE X (.Call (.Name x p) (e::es) [] pos) (ag dsp t):=CW F (hr.mono h) hg C.m C.k C.b ha hdb he hpl
theorem Iw{X:Cx}{pos:Pos}{i:Nat}{x:Str}(hN:X.N.Nodup)(hi:X.N[i]? = some x:=by rfl)(hx:Loc X.env.scope x:=by exact Or.inl rfl)(hf:X.fn x=true\/X.env.scope.names.lookup x=some .local:=by first|exact .inl rfl|exact .inr rfl|assumption):DG X (.Name x pos) (ae i):=sJ hN hi hx hf
theorem Iy{X:Cx}{N':List Str}{scope:Scope}{cl:List (Str×Addr)}{fp:List Addr}{s:Shared}{H:Hp}{pos:Pos}(i:Nat){x:Str}(hN:N'.Nodup:=by decide +kernel)(hi:N'[i]? = some x:=by rfl)(hx:Loc (aC X N' scope cl fp s H).env.scope x:=by exact Or.inl rfl)(hf:(aC X N' scope cl fp s H).fn x=true\/(aC X N' scope cl fp s H).env.scope.names.lookup x=some .local:=by first|exact .inl rfl|exact .inr rfl|assumption):DG (aC X N' scope cl fp s H) (.Name x pos) (ae i):=sJ hN hi hx hf
theorem JB{X:Cx}{e:Expr}{te:DTE}{pos:Pos}{i:Nat}{x:Str}{pos':Pos}(hN:X.N.Nodup)(he:DE X e te)(hi:X.N[i]? = some x:=by rfl)(hx:Loc X.env.scope x:=by exact Or.inl rfl)(hs:swapsWith e (some (.Name x pos')) pos.line X.env=pure false:=by rfl)(hf:X.fn x=true\/X.env.scope.names.lookup x=some .local:=by first|exact .inl rfl|exact .inr rfl|assumption) :
  DS X (.Assign [.Name x pos'] e pos) (aq te (ae i)):=AM hN hi hx he hs hf
theorem Ii{N P:List Str}{sc:Scope}(h1:sc.kind = .function:=by rfl)(h2:sc.isCoroutine=false:=by rfl)(h3:sc.isGenerator=false:=by rfl)(h4:N.Nodup:=by decide +kernel)(h5:N.take P.length=P:=by rfl)
  (h6:∀x∈P,sc.names.lookup x=some .local\/sc.names.lookup x=some .cell:=by decide +kernel) (h7:∀y∈sc.names,y.2≠.free:=by decide +kernel):iP N P sc:=⟨h1,h2,h3,h4,h5,h6,h7⟩
structure CH(X:Cx)(N':List Str)(scope:Scope)(cl:List (Str×Addr))(cap:List (Option Nat)):Prop where
 cell:∀y∈scope.names,y.2≠.cell
 kind:scope.kind = .function
 nms:∀y∈scope.names,y.2 = .local->scope.names.lookup y.1=some .local
 sub:∀x a,cl.lookup x=some a->X.env.cells.lookup x=some a
 has:∀x,(relabel scope X.env).names.lookup x=some .cell\/(relabel scope X.env).names.lookup x=some .free->∃a,cl.lookup x=some a
 len:cap.length=N'.length
 cap:∀(i j:Nat) (x:Str),cap[i]? = some (some j)->N'[i]? = some x->X.N[j]? = some x/\Vis X.env.scope x/\X.env.kindOf x≠some .local/\((relabel scope X.env).names.lookup x=some .cell\/(relabel scope X.env).names.lookup x=some .free)
noncomputable def Core(X:Cx)(E:Expr)(scope:Scope)(mk:Sem Value)(iter:Expr)(te:DTE):Prop:=∀(pos:Pos) (use:Option (Value->Sem Unit)) (QQ:Value->Shared->Prop) (pins:List (Addr×Obj)) (s:Shared) (O:St) (H:Hp) (ρ:Rho) (U:Mu) (Qd:DK),Inv X pins O H s->St0 X.K H ρ U O->te ρ U Qd ->
 (∀(s4:Shared) (Hc:Hp) (C pa:Addr) (m:Str->Option Value) (d:D) (cr:Mu),s4.heap.Ns C m->pO X pins Hc C->(∀h',Heap.SameBut C s4.heap h'->Inv X pins O Hc {s4 with heap:=h'}) ->
  Ext X.K U H cr Hc->St0 X.K Hc ρ cr O->RpD X.K cr Hc d (.ref pa)->Qd d cr->compPost (model X.prog X.w) X.A X.xe use QQ (.ref pa) C (.ok .next) s4) ->
 wpAny (model X.prog X.w) X.A (comprehension E scope X.env pos mk false (eval iter X.env) use) QQ X.xe s
theorem xO{X:Cx}{E iter:Expr}{scope:Scope}{mk:Sem Value}{te:DTE}{pos:Pos}(h:Core X E scope mk iter te)(e:eval E X.env=comprehension E scope X.env pos mk false (eval iter X.env)):DE X E te:=
 Jo fun pins s O H ρ U Qd Q I S q k=>by
  rw[e]
  exact h _ _ _ _ _ _ _ _ _ _ I S q fun s4 Hc C pa m d cr hn _ hI e1 S1 r q=>⟨m,hn,fun h' hs'=>⟨.ref pa,Hc,hI h' hs',rfl,k d _ cr Hc e1 S1 r q⟩⟩
theorem B9{X:Cx}{i:Nat}{x:Str}{pos' spos pos:Pos}{E iter:Expr}{scope:Scope}{mk:Sem Value}{te:DTE}(h:Core X E scope mk iter te)(hN:X.N.Nodup)(hix:X.N[i]? = some x)(hx:X.env.scope.names.lookup x=some .local)
  (hsw:swapsWith E (some (.Name x pos')) spos.line X.env=pure true) (e:evalThenUse E X.env (assign (.Name x pos') X.env)=comprehension E scope X.env pos mk false (eval iter X.env) (some (assign (.Name x pos') X.env))>>=fun _=>pure ()):DS X (.Assign [.Name x pos'] E spos) (aq te (ae i)):=by
 refine⟨fun D O H=>∃ρ U Dd,St0 X.K H ρ U O/\aq te (ae i) Dd ρ U/\(∀al ap Z H',Ext X.K U H Z H'->St0 X.K H' ap Z al->Dd.nx ap Z->D.nx al H'),?_,fun O H ρ U Dd De S h k1 k2 k3 k4=>⟨ρ,U,Dd,S,h,k1⟩⟩
 intro pins s O H D I hq
 obtain⟨ρ,U,Dd,S,q,k1⟩:=hq
 rw[exec_Assign_Name_used _ _ _ _ hsw,e]
 refine wpAny_bind (wpAny_standAt (wpAny_bind (wpAny_bind (h _ _ _ pins s O H ρ U (fun d Y=>ae i d ρ Y Dd.nx) I S q fun s4 Hc C pa m d cr hn fC hI e1 S1 r q=>?_))))
 obtain⟨oC,hoC,hdC⟩:=ns_obj hn
 have I5:=(hI s4.heap (Heap.SameBut.refl _ _)).pinned (fp:=[C]) (fun b hb=>by rw[List.mem_singleton.mp hb];exact fC) (fun b hb=>by rw[List.mem_singleton.mp hb];exact⟨oC,hoC,hdC⟩)
 show wpAny _ _ (assign (.Name x pos') X.env (.ref pa)) _ _ s4
 refine wpAny_assign_Name (fx I5 hN hix (Or.inl hx) (show RelV (.ref pa) (.ref pa) from rfl) (fun s' I'=>?_) (.inr hx))
 have keepC:s'.heap.get? C=some oC:=(I'.pin (C,oC) (mem_append_right _ (mem_append_right _ (eG (List.mem_singleton.mpr rfl) hoC)))).1
 refine⟨m,DR hn (by rw[keepC,hoC]),fun h' hs'=>wpAny_pure (wpAny_pure ⟨O.set i (some (.ref pa)),Hc,?_,k1 _ _ _ _ e1 ⟨S1.mu,S1.rho.set r⟩ q⟩)⟩
 refine I'.iA.D0 (ch:=[C]) rfl ⟨fun b o e n hb hx=>?_,fun b o e n hb hx=>?_,fun b o e n hx=>n,fun b o e hx=>?_,fun b xs e=>e,fun b o u e=>e,fun b ps e=>⟨#[],by rw[Array.append_empty];exact e⟩⟩ ?_ I'.bare fun b hb=>?_
 ·exact hs'.extBut b o (fun z=>hx (List.mem_singleton.mpr z)) e
 ·exact⟨o.slots,hs'.extBut b o (fun z=>hx (List.mem_singleton.mpr z)) e⟩
 ·exact⟨o,hs'.extBut b o (fun z=>hx (List.mem_singleton.mpr z)) e⟩
 ·exact fun b ob e=>by
   refine (I'.hok b ob e).sr (fun cc v hcc q=>hs'.extBut cc v ?_ q) (fun _ q=>q) fun _ _ q=>q
   rintro rfl
   rcases hcc with z|z
   ·rw[<- z,fC.1] at e;cases e
   ·rw[fC.1] at z;cases z
 ·rw[List.mem_singleton.mp hb]
  exact⟨fC.2.2.2.1,fC.2.1,fC.2.2.2.2.1,fC.2.2.2.2.2⟩
theorem ED{X:Cx}{N':List Str}{scope:Scope}{cl:List (Str×Addr)}{cap:List (Option Nat)}{E tg:Expr}{gc:Comprehension}{gs:List Comprehension}{src:DTI}{g:DTG}{te:DTE}
  {T0:String} {dt:Data} {oH:HO} {mk0:Mu->Addr->Mu} {rest:Value->Addr->Env->Sem PySem.Fin} {Kb:Addr->PyData->Rho->Mu->(Mu->Prop)->Prop} {fin:DK->Mu->Addr->Mu->Prop}
  (hclos:closureFor scope X.env=pure cl) (hC:CH X N' scope cl cap) (hi:DI X tg gc.iter src) (hg:∀fp ad am,DG (aC X N' scope cl fp ad am) tg g)
  (hE:clausesOf E=gc::gs) (hs:∀x,foldedSetIterable gc.iter X.env x=pure x)
  (hst:∀{R:Result->Shared->Prop} {s:Shared} {it acc:Value} {env:Env},codeAny (model X.prog X.w) X.A (.compLoop E 0 it acc env) R s->wpAny (model X.prog X.w) X.A (pyIter it) (fun it' s'=>codeAny (model X.prog X.w) X.A (.compLoop E 0 it' acc env) R s') (notedBy (model X.prog X.w) X.A env fun x s'=>R (.error x) s') s->codeAny (model X.prog X.w) X.A (.compStart E 0 it acc env) R s)
  (hT:∀(it:Value) (D:Addr) (env:Env),compTurn E 0 it (.ref D) env=(standAt gc.iter.pos>>=fun _=>pyNext it>>=fun r=>match r with
   |none=>pure (.done .next)
   |some v=>letOwnedTupleGo tg it v>>=fun _=>assign tg env v>>=fun _=>rest it D env))
  (hU:∀{it:Value} {D:Addr} {env:Env} {Q:PySem.Fin->Shared->Prop} {Er:Value->Shared->Prop} {s:Shared},wpAny (model X.prog X.w) X.A ((compTurn E 0 it (.ref D) env).onRaise fun x=>do noteFrame x env;theTreesLotGoes x) Q Er s->wpAny (model X.prog X.w) (X.A.under (.compLoop E 0 it (.ref D) env)) ((model X.prog X.w).den (.compLoop E 0 it (.ref D) env)) Q Er s)
  (hsz:sizeOk dt) (hob:∀(H:Hp) (h:Heap),dD X.prog X.w (upd H h.objs.size oH) (h.push {cls:=.type T0,dict:=none,data:=dt}) h.objs.size oH)
  (hm0:∀{Y:Mu} {H2:Hp} {p:Addr},a6 X.K Y H2->H2 p=none->X.K.lookup p=none->(p==sysModules)=false->a6 X.K (mk0 Y p) (upd H2 p oH)/\Ext X.K Y H2 (mk0 Y p) (upd H2 p oH))
  (hbd:∀{fp:List Addr} {s3:Shared} {H3:Hp} {pins:List (Addr×Obj)} {s:Shared} {O:St} {H:Hp} {ρ:Rho} {U:Mu} {p:Addr} {d:PyData} {it:Value} {Qm:Mu->Prop} {Q:Shared->Prop},Inv (aC X N' scope cl fp s3 H3) pins O H s->St0 X.K H ρ U O->Kb p d ρ U Qm ->
   (∀s' al H' Z,Inv (aC X N' scope cl fp s3 H3) pins al H' s'->St0 X.K H' ρ Z al->Ext X.K U H Z H'->Qm Z->Q s') ->
   wpAny (model X.prog X.w) X.A (rest it p (aC X N' scope cl fp s3 H3).env) (fun r s'=>r = .again (.compLoop E 0 it (.ref p) (aC X N' scope cl fp s3 H3).env)/\Q s') (fun _ _=>False) s)
  (hte:∀ρ U Qd,te ρ U Qd->src ρ U fun xs Y=>∀p,Y p=none->Y.b p=none->∃P:Nat->Mu->Prop,P 0 (mk0 Y p)/\(∀i x Z,xs[i]? = some x->P i Z->g (.v x) (bZ cap ρ) Z fun bv ac=>Le (bZ cap ρ) bv/\Kb p x bv ac (P (i+1)))/\∀Z,P xs.length Z->fin Qd Y p Z)
  (hend:∀{Qd:DK} {O:St} {ρ:Rho} {p:Addr} {U Y ci:Mu} {H H1 Hc:Hp},Y p=none->Y.b p=none->Ext X.K U H Y H1->St0 X.K H1 ρ Y O->Ext X.K Y H1 ci Hc->a6 X.K ci Hc->fin Qd Y p ci->∃d cr,Ext X.K U H cr Hc/\St0 X.K Hc ρ cr O/\RpD X.K cr Hc d (.ref p)/\Qd d cr) :
  Core X E scope (newObj (.type T0) dt) gc.iter te:=by
 intro pos use QQ pins s O H ρ U Qd I S h hd0
 obtain⟨wi,pw,li⟩:=hi
 refine wpAny_comprehension_free hE hs hclos hC.kind hC.nms (thn (pw pins s O H _ I (li O H ρ U _ (fun J H1=>∃xs Y,Ext X.K U H Y H1/\St0 X.K H1 ρ Y O/\HL X.K J xs Y H1/\∀p,Y p=none->Y.b p=none->∃P:Nat->Mu->Prop,P 0 (mk0 Y p)/\(∀i x Z,xs[i]? = some x->P i Z->g (.v x) (bZ cap ρ) Z fun bv ac=>Le (bZ cap ρ) bv/\Kb p x bv ac (P (i+1)))/\∀Z,P xs.length Z->fin Qd Y p Z) S (hte _ _ _ h) (fun xs Y H1 J e1 S1 it q=>⟨xs,Y,e1,S1,it,q⟩)))
  fun v s1 h1=>thn h1 fun itv s2 h2=>?_)
 obtain⟨it,fp,tn,J,H2,rfl,I2,T,st2,f2,xs,Y,e1,S1,itok,allp⟩:=h2
 refine wpAny_newObj_type (wpAny_newFunctionEnv hC.cell (by intro y hy;simp at hy) (fun io ls lf=>?_) hC.kind) hsz
 dsimp only at ls lf ⊢
 have hfree2:H2 s2.heap.objs.size=none:=I2.hok.fresh (le_refl _)
 have hK2:X.K.lookup s2.heap.objs.size=none:=by
  cases z:X.K.lookup s2.heap.objs.size with
  |none=>rfl
  |some o=>exact absurd (Heap.lt_size (I2.kIn _ _ z)) (lt_irrefl _)
 have I3:Inv X pins O (upd H2 s2.heap.objs.size oH) {s2 with heap:=s2.heap.push {cls:=.type T0,dict:=none,data:=dt}}:=
  I2.laid (t':=s2.toks) (fun b u e=>Heap.get?_push_of_some _ e) (le_refl _) (hob _ _)
 generalize hH:s2.heap.push {cls:=.type T0,dict:=none,data:=dt} = hp3 at ls lf I3 ⊢
 have hsz3:hp3.objs.size=s2.heap.objs.size+1:=by rw[<- hH,Heap.size_push]
 have kept3:∀b o,hp3.get? b=some o->io.get? b=some o:=fun b o e=>lf.extBut b o (ne_of_lt (Heap.lt_size e)) (Heap.get?_push_of_some _ e)
 have old3:∀b o,s2.heap.get? b=some o->hp3.get? b=some o:=fun b o e=>by rw[<- hH];exact Heap.get?_push_of_some _ e
 have fplt:∀b∈fp,b<s2.heap.objs.size:=fun b hb=>by obtain⟨o,e,_⟩:=T.obj 0 _ st2 b hb;exact Heap.lt_size e
 have fpst:∀b∈fp,b ∉ frs X.stack:=fun b hb hz=>by
  rcases List.mem_cons.mp (I2.sU b hz) with e|e
  ·exact (f2 b hb).2.1 e
  ·exact (f2 b hb).2.2.1 e
 obtain⟨s3,hs3⟩:∃s3:Shared,s3={s2 with heap:=hp3}:=⟨_,rfl⟩
 obtain⟨H3,hH3⟩:∃H3:Hp,H3=upd H2 s2.heap.objs.size oH:=⟨_,rfl⟩
 have heap3:s3.heap=hp3:=by rw[hs3]
 rw[<- hH3] at I3
 have I3':Inv X pins O H3 s3:=by rw[hs3];exact I3
 have hloc:H3 hp3.objs.size=none:=by have:=I3'.hok.fresh (a:=hp3.objs.size) (by rw[heap3];exact le_refl _);exact this
 have okc:(aC X N' scope cl fp s3 H3).Ok:=by
  refine⟨I3.ok.mod,?_,I3.ok.glob,I3.ok.blt,le_refl _,fun x y a h1 h2=>I3.ok.inj x y a (hC.sub x a h1) (hC.sub y a h2),fun x hx=>hC.has x hx,fun x a h=>(nomatch h),I3.ok.hd,I3.ok.qt,I3.ok.frames,.inl rfl,fun b hb=>⟨?_,fun x a h=>(f2 b hb).2.2.2.2.1 x a (hC.sub x a h)⟩,
   I3'.bs,le_trans I3.ok.bsz I3'.sz,fun b o e hb=>?_,fun b hb=>fpst b hb,I3'.stack,I3'.xP⟩
  ·exact hC.kind
  ·show b≠s3.heap.objs.size
   rw[heap3,hsz3]
   exact ne_of_lt (Nat.lt_succ_of_lt (fplt b hb))
  ·rcases (f2 b hb).2.2.2.1 with z|z
   ·exact I3.ok.Bk b o e z
   ·exact absurd (lt_of_lt_of_le (Heap.lt_size (I3.ok.bs b o e).1) z) (lt_irrefl _)
 have I4:Inv (aC X N' scope cl fp s3 H3) [] (bZ cap O) H3 {s2 with heap:=io,toks:=s2.toks+([]:List (Str×Value)).length}:=by
  refine⟨okc,by show s2.os=s3.os;rw[hs3],I3.bare,Un.kept (by show ∀b o,s3.heap.get? b=some o->_;rw[heap3];exact kept3),⟨_,(by show io.Ns s3.heap.objs.size _;rw[heap3];exact ls),fun i x v e1 e2 e3=>?_⟩,fun x a h=>?_,(by show H3 s3.heap.objs.size=none;rw[heap3];exact hloc),fun x a h=>I3.je x a (hC.sub x a h),fun p hp=>?_,I3.hok.kept kept3,?_⟩
  ·obtain⟨j,h1,h2⟩:=tQ e2
   obtain⟨hN,hv,hnl,hk⟩:=hC.cap i j x h1 e1
   obtain⟨m,_,hl⟩:=I3.loc
   obtain⟨u,r,lk⟩:=hl j x v hN h2 hv
   refine⟨u,r,.inr ⟨hk,?_⟩⟩
   obtain⟨a,ha⟩:=hC.has x hk
   rcases lk with ⟨z,_⟩|⟨_,a',z1,z2⟩
   ·exact absurd z hnl
   ·have:a'=a:=by have q:=hC.sub x a ha;rw[z1] at q;exact Option.some.inj q
    subst this
    obtain⟨o,ho,hd⟩:=z2
    exact⟨a',ha,o,kept3 _ _ ho,hd⟩
  ·obtain⟨v,o,ho,hd⟩:=I3.cell x a (hC.sub x a h)
   exact⟨v,o,kept3 _ _ ho,hd⟩
  ·have hp':p∈X.pn++pins:=mem_append_left _ (by simpa using (show p∈X.pn++[] from hp))
   obtain⟨z1,z2,z3,z4,z5⟩:=I3'.pin p hp'
   refine⟨kept3 _ _ (by rw[<- heap3];exact z1),z2,(show p.1≠s3.heap.objs.size from ne_of_lt (Heap.lt_size z1)),fun z=>?_,z5⟩
   rcases List.mem_cons.mp (I3'.sU p.1 z) with e|e
   ·exact z3 e
   ·exact z4 e
  ·show (bZ cap O).length=N'.length
   unfold bZ
   rw[length_map]
   exact hC.len
 have lw:Y s2.heap.objs.size=none:=S1.mu.free hfree2
 have nw:Y.b s2.heap.objs.size=none:=S1.mu.JK hfree2
 obtain⟨P,p0,body,hfin⟩:=allp s2.heap.objs.size lw nw
 obtain⟨m0,x0⟩:=hm0 S1.mu hfree2 hK2 (Hv I2)
 have loop:codeAny (model X.prog X.w) X.A (.compLoop E 0 (.ref it) (.ref s2.heap.objs.size) (aC X N' scope cl fp s3 H3).env)
   (compPost (model X.prog X.w) X.A X.xe use QQ (.ref s2.heap.objs.size) hp3.objs.size) {s2 with heap:=io,toks:=s2.toks+([]:List (Str×Value)).length}:=by
  refine codeAny_loop rfl (fun n s'=>∃(i:Nat) (f8:St) (Hc:Hp) (ci:Mu),n=xs.length-i/\i<=xs.length/\Inv (aC X N' scope cl fp s3 H3) [] f8 Hc s'/\tn i s'.heap/\(∀b∈fp,Hc b=none) /\
   P i ci/\St0 X.K Hc (bZ cap ρ) ci f8/\Ext X.K Y H2 ci Hc) (fun n s' hI=>?_) xs.length
   ⟨0,bZ cap O,H3,mk0 Y s2.heap.objs.size,by simp,zero_le _,I4,T.keep 0 _ _ st2 (fun b hb o e=>kept3 b o (old3 b o e)),fun b hb=>?_,p0,?_,?_⟩
  ·obtain⟨i,f8,Hc,ci,rfl,hi,Ic,tc,frc,pvi,Sc,Ec⟩:=hI
   refine hU ?_
   refine wpAny_noted ?_
   rw[hT]
   have stat:∀{Hd:Hp},(∀b∈fp,Hd b=none)->∀b∈fp,pO (aC X N' scope cl fp s3 H3) [] Hd b:=fun hn b hb=>
    ⟨hn b hb,(okc.exf b hb).1,fpst b hb,.inl hb,fun x a h=>(okc.exf b hb).2 x a h,fun p hp=>(f2 b hb).2.2.2.2.2 p (mem_append_left _ (by simpa using (show p∈X.pn++[] from hp)))⟩
   obtain⟨go,stop⟩:=itok _ Hc Ec Sc.mu i
   refine wpAny_bind (wpAny_standAt (wpAny_bind ?_))
   by_cases hlt:i<xs.length
   ·obtain⟨g1,y1⟩:=go hlt
    refine wpAny_mono (T.item (aC X N' scope cl fp s3 H3) rfl rfl rfl (fun z=>z) i [] s' f8 Hc (fun _ _=>False) Ic (stat frc) tc g1) (fun r s4 hr=>?_) fun _ _ h'=>h'.elim
    obtain⟨u,rfl,h4⟩:=hr
    refine wpAny_bind (wpAny_mono h4 (fun _ s5 h5=>?_) fun _ _ h'=>h'.elim)
    obtain⟨x,H5,I5,r5,y5,st5,fr5⟩:=h5
    obtain⟨d,hd,sm,rd⟩:=y1 x H5 y5
    have I5':=I5.pinned (stat fr5) (T.obj _ _ st5)
    have e5:Ext X.K _ Hc _ H5:=.of_same (U:=ci) sm
    have S5:St0 X.K H5 (bZ cap ρ) ci f8:=⟨Sc.mu.Fn e5 sm,Sc.rho.ext Sc.mu e5⟩
    obtain⟨gt,pg,lg⟩:=hg fp s3 H3
    refine wpAny_bind (wpAny_mono (pg _ s5 f8 H5 x u (fun al H'=>∃ap Z,Ext X.K ci H5 Z H'/\St0 X.K H' ap Z al/\Le (bZ cap ρ) ap/\Kb s2.heap.objs.size d ap Z (P (i+1))) I5' r5
     (lg f8 H5 (bZ cap ρ) _ (.v d) x _ _ S5 rd (body i d ci hd pvi) fun al ap Z H' e' S' q=>⟨ap,Z,e',S',q⟩)) (fun _ s6 h6=>?_) fun _ _ h'=>h'.elim)
    obtain⟨rc,H6,I6,tz,jp,e6,S6,le6,q6⟩:=h6
    refine wpAny_mono (hbd (it:=.ref it) (Q:=fun s9=>∃m,m<xs.length-i/\∃(i:Nat) (f8:St) (Hc:Hp) (ci:Mu),m=xs.length-i/\i<=xs.length/\Inv (aC X N' scope cl fp s3 H3) [] f8 Hc s9/\tn i s9.heap/\(∀b∈fp,Hc b=none) /\
     P i ci/\St0 X.K Hc (bZ cap ρ) ci f8/\Ext X.K Y H2 ci Hc) I6 S6 q6 fun s9 tf H9 mt I9 S9 e9 p9=>?_) (fun r s9 hr=>?_) fun _ _ h'=>h'.elim
    ·refine⟨xs.length-(i+1),∅,i+1,tf,H9,mt,rfl,hlt,I9.iA,T.keep _ _ _ st5 fun b hb o e=>(I9.pin (b,o) (mem_append_right _ (mem_append_right _ (eG hb e)))).1,fun b hb=>?_,p9,⟨S9.mu,S9.rho.le le6⟩,Ec.trans (e5.trans (e6.trans e9))⟩
     obtain⟨o,e,_⟩:=T.obj _ _ st5 b hb
     exact (I9.pin (b,o) (mem_append_right _ (mem_append_right _ (eG hb e)))).2.1
    ·obtain⟨rfl,q⟩:=hr
     exact⟨rfl,q⟩
   ·have ei:i=xs.length:=by omega
    subst ei
    refine wpAny_mono (T.done (aC X N' scope cl fp s3 H3) rfl rfl rfl (fun z=>z) _ [] s' f8 Hc (fun _ _=>False) Ic (stat frc) tc (stop rfl)) (fun r s4 hr=>?_) fun _ _ h'=>h'.elim
    obtain⟨rfl,I5⟩:=hr
    refine wpAny_pure ?_
    obtain⟨m,hn,_⟩:=I5.loc
    have hcC:Hc hp3.objs.size=none:=by have z:Hc s3.heap.objs.size=none:=I5.free;rw[heap3] at z;exact z
    obtain⟨d,cr,eF,SF,rF,qF⟩:=hend lw nw e1 S1 Ec Sc.mu (hfin _ pvi)
    refine hd0 s4 Hc hp3.objs.size s2.heap.objs.size m d cr (by have z:s4.heap.Ns s3.heap.objs.size m:=hn;rw[heap3] at z;exact z) (I2.AS (by rw[hsz3];exact Nat.le_succ _) hcC) (fun h' hs'=>?_) eF SF rF qF
    have kp:∀b o,b<s2.heap.objs.size->s4.heap.get? b=some o->h'.get? b=some o:=fun b o hb e=>hs'.extBut b o (by rw[hsz3];exact ne_of_lt (Nat.lt_succ_of_lt hb)) e
    have hok':HOk X.prog X.w Hc h':=fun b ob e=>by
     refine (I5.hok b ob e).sr (fun cc v hcc q=>hs'.extBut cc v ?_ q) (fun _ q=>q) fun _ _ q=>q
     rintro rfl
     rcases hcc with z|z
     ·rw[<- z,hcC] at e;cases e
     ·rw[hcC] at z;cases z
    have u1:Un (frs X.stack) fp H2 H3 s2.heap s3.heap:=by rw[heap3,hH3];exact Un.laid old3 (le_refl _) hfree2
    have u2:Un (frs X.stack) fp H3 Hc s3.heap s4.heap:=I5.base
    exact I2.D0 (ch:=fp) (by show s4.os=s2.os;have z:s4.os=s3.os:=I5.os;rw[z,hs3]) (Un.after (u1.trans u2) kp) hok' I5.bare fun b hb=>⟨(f2 b hb).2.2.2.1,(f2 b hb).2.1,(f2 b hb).2.2.2.2.1,(f2 b hb).2.2.2.2.2⟩
  ·have z:b≠s2.heap.objs.size:=ne_of_lt (fplt b hb)
   rw[hH3,aH z]
   exact (f2 b hb).1
  ·rw[hH3]
   exact⟨m0,(S1.rho.ext S1.mu x0).cap⟩
  ·rw[hH3]
   exact x0
 have envE:(aC X N' scope cl fp s3 H3).env=compEnvC scope cl hp3.objs.size X.env:=by show compEnvC scope cl s3.heap.objs.size X.env=_;rw[heap3]
 rw[envE] at loop
 exact hst loop (T.self X.A 0 _ _ _ (T.keep 0 _ _ st2 (fun b hb o e=>kept3 b o (old3 b o e))) loop)
theorem mi{X:Cx}{N':List Str}{scope:Scope}{cl:List (Str×Addr)}{cap:List (Option Nat)}
  (h1:∀y∈scope.names,y.2≠.cell:=by decide +kernel) (h2:scope.kind = .function:=by rfl) (h3:∀y∈scope.names,y.2 = .local->scope.names.lookup y.1=some .local:=by decide +kernel)
  (h4:∀x a,cl.lookup x=some a->X.env.cells.lookup x=some a:=by intro _ _ h;first|exact h|exact cl1 h|exact cl2 nofun h|exact cl3 nofun h|exact oV (jy rfl zm) _ _ h|exact oV (jy rfl (jy rfl zm)) _ _ h|exact oV (jy rfl (jy rfl (jy rfl zm))) _ _ h|exact oV (jy rfl (jy rfl (jy rfl (jy rfl zm)))) _ _ h|exact oV (jy rfl (jy rfl (jy rfl (jy rfl (jy rfl zm))))) _ _ h|exact oV zm _ _ h|cases h)
  (h5:∀x,(relabel scope X.env).names.lookup x=some .cell\/(relabel scope X.env).names.lookup x=some .free->∃a,cl.lookup x=some a:=by exact Hs rfl) (h6:cap.length=N'.length:=by rfl)
  (h7:∀(i j:Nat) (x:Str),cap[i]? = some (some j)->N'[i]? = some x->X.N[j]? = some x/\Vis X.env.scope x/\X.env.kindOf x≠some .local/\((relabel scope X.env).names.lookup x=some .cell\/(relabel scope X.env).names.lookup x=some .free):=by exact vX (by repeat' first|exact trivial|refine⟨Lj,?_⟩)):CH X N' scope cl cap:=⟨h1,h2,h3,h4,h5,h6,h7⟩
section
variable {X:Cx}{N':List Str}{scope:Scope}{cl:List (Str×Addr)}{iter tg:Expr}{ifs:List Expr}{pos:Pos}{cap:List (Option Nat)}{src:DTI}{g:DTG}{c:DTT}
theorem vo{elt:Expr}{te te0:DTE}{fin:DK->Addr->List PyData->Mu->Prop}(hclos:closureFor scope X.env=pure cl)(hi:DI X tg iter src)(hg:∀fp ad am,DG (aC X N' scope cl fp ad am) tg g)(hif:∀fp ad am,jJ (aC X N' scope cl fp ad am) ifs c)(he:∀fp ad am,DE (aC X N' scope cl fp ad am) elt te)
  (hC:CH X N' scope cl cap) (hs:∀x,foldedSetIterable iter X.env x=pure x)
  (hte0:∀ρ U Qd,te0 ρ U Qd->src ρ U fun xs Y=>xs.length<=1000/\∀p,Y p=none->∃Pv:Nat->List PyData->Mu->Prop,Pv 0 [] (aD Y p []) /\
   (∀i x acc Z,xs[i]? = some x->Z p=some acc->Pv i acc Z->g (.v x) (bZ cap ρ) Z fun bv ac=>Le (bZ cap ρ) bv/\c bv ac fun b be=>
    if b=true then te bv be fun d bn=>bn p=some acc/\(match d with|.v y=>Pv (i+1) (acc++[y]) (aD bn p (acc++[y]))|_=>False) else be p=some acc/\Pv (i+1) acc be) /\
   (∀acc Z,Pv xs.length acc Z->Z p=some acc->fin Qd p acc Z))
  (hend:∀{Qd:DK} {O:St} {ρ:Rho} {p:Addr} {acc:List PyData} {U Y ci:Mu} {H H1 Hc:Hp},Y p=none->Ext X.K U H Y H1->St0 X.K H1 ρ Y O->Ext X.K Y H1 ci Hc->a6 X.K ci Hc->ci p=some acc->fin Qd p acc ci->∃d cr,Ext X.K U H cr Hc/\St0 X.K Hc ρ cr O/\RpD X.K cr Hc d (.ref p)/\Qd d cr) :
  Core X (.ListComp elt [⟨tg,iter,ifs,0⟩] scope pos) scope (newList []) iter te0:=by
 refine ED (gc:=⟨tg,iter,ifs,0⟩) (oH:=.lst []) (mk0:=fun U p=>aD U p [])
  (Kb:=fun p _ ρ U R=>upT c ρ U fun b be=>if b=true then upE te ρ be fun d bn=>∃acc y,bn p=some acc/\acc.length<=1000/\d = .v y/\R (aD bn p (acc++[y])) else R be)
  (fin:=fun Qd _ p Z=>∃acc,Z p=some acc/\fin Qd p acc Z)
  hclos hC (D3 hi) (fun a b c=>Ei (hg a b c)) rfl hs codeAny_compStart_list (fun it D env=>compTurn_list elt tg iter ifs scope pos it (.ref D) env) (fun h=>h) (zero_le _) (fun H h=>⟨zero_le _,[],0,.nil,Heap.get?_push_size _ rfl⟩)
  (fun m f k _=>⟨m.mut .nil f k,mN m f k⟩) ?_ ?_ (fun h1 _ e1 S1 Ec Sc hF=>let ⟨_,hp,q⟩:=hF;hend h1 e1 S1 Ec Sc hp q)
 ·intro fp s3 H3 pins s O H ρ U p d it Qm Q I S q k
  refine wpAny_bind (wpAny_mono (yd (hif fp s3 H3) pins s O H ρ U _ (fun b H'=>∃Z,Ext X.K U H Z H'/\St0 X.K H' ρ Z O/\if b=true then upE te ρ Z fun d bn=>∃acc y,bn p=some acc/\acc.length<=1000/\d = .v y/\Qm (aD bn p (acc++[y])) else Qm Z) I S q fun b Z H' e' S' q=>⟨Z,e',S',q⟩)
   (fun ok s7 h7=>?_) fun _ _ h'=>h'.elim)
  obtain⟨H7,I7,ld,e7,S7,q7⟩:=h7
  cases ok with
  |false=>
   rw[if_neg ⋯] at q7
   exact wpAny_pure ⟨rfl,k _ _ _ _ I7 S7 e7 q7⟩
  |true=>
   rw[if_pos rfl] at q7
   refine wpAny_bind (wpAny_bind (wpAny_mono ((Ea (he fp s3 H3)).use I7 S7 q7) (fun v s8 h8=>?_) fun _ _ h'=>h'.elim))
   obtain⟨d',v8,pc,H8,I8,r8,e8,S8,ry,acc,y,pa,hle,rfl,q8⟩:=h8
   obtain⟨us,hacc,rus⟩:=S8.mu.lst p _ pa
   refine wpAny_bind (wpAny_mono (qN (X:=aC X N' scope cl fp s3 H3) _ s8 O H8 (.ref p) [v8] (.ref p) [v] (fun _ H'=>H'=upd H8 p (.lst (us++[v8]))) I8 rfl (.cons r8 .nil) ⟨_,us,v8,rfl,rfl,hacc,by rw[<- rus.length];exact dI hle,rfl⟩) (fun _ s9 h9=>?_) fun _ _ h'=>h'.elim)
   obtain⟨_,H9,I9,_,e9⟩:=h9
   subst e9
   have ex:Ext X.K pc H8 (aD pc p (acc++[y])) (upd H8 p (.lst (us++[v8]))):=eU pa
   exact wpAny_pure (wpAny_pure ⟨rfl,k _ _ _ _ I9 ⟨S8.mu.set pa (rus.append (.cons ry .nil)),S8.rho.ext S8.mu ex⟩ (e7.trans (e8.trans ex)) q8⟩)
 ·intro ρ U Qd h
  refine⟨_,hte0 _ _ _ h,fun xs Y hx p hp _=>?_⟩
  obtain⟨hl,f⟩:=hx
  obtain⟨Pv,p0,body,fin⟩:=f p hp
  refine⟨fun i Z=>∃acc,Z p=some acc/\acc.length<=i/\Pv i acc Z,⟨[],av,le_refl _,p0⟩,fun i x Z hx hP=>?_,fun Z hP=>?_⟩
  ·obtain⟨acc,e,l,v⟩:=hP
   have li:i<xs.length:=(List.getElem?_eq_some_iff.mp hx).1
   refine⟨_,body i x acc Z hx e v,fun bv ac hq=>⟨hq.1,_,hq.2,fun b be r=>?_⟩⟩
   cases b with
   |false=>
    rw[if_neg ⋯] at r ⊢
    exact⟨acc,r.1,Nat.le_succ_of_le l,r.2⟩
   |true=>
    rw[if_pos rfl] at r ⊢
    refine⟨_,r,fun d bn hm=>?_⟩
    obtain⟨e4,m⟩:=hm
    split at m
    ·exact⟨acc,_,e4,∅,rfl,_,av,by rw[length_append];exact Nat.succ_le_succ l,m⟩
    ·exact m.elim
  ·obtain⟨acc,e,_,v⟩:=hP
   exact⟨acc,e,fin acc Z v e⟩
theorem qB{elt:Expr}{te:DTE}(hclos:closureFor scope X.env=pure cl)(hi:DI X tg iter src)(hg:∀fp ad am,DG (aC X N' scope cl fp ad am) tg g)(hif:∀fp ad am,jJ (aC X N' scope cl fp ad am) ifs c)(he:∀fp ad am,DE (aC X N' scope cl fp ad am) elt te)
  (hC:CH X N' scope cl cap) (hs:∀x,foldedSetIterable iter X.env x=pure x):Core X (.ListComp elt [⟨tg,iter,ifs,0⟩] scope pos) scope (newList []) iter (aQ cap src g c te):=by
 refine vo (fin:=fun Qd p acc Z=>Qd (.v (.list acc)) (dP Z p)) hclos hi hg hif he hC hs (fun _ _ _ h=>h) ?_
 intro Qd O ρ p acc U Y ci H H1 Hc lw e1 S1 Ec Sc hpa q
 obtain⟨us,hacc,rus⟩:=Sc.lst p _ hpa
 have shr:∀a,ci a=none->dP ci p a=none:=fun a e=>by
  by_cases z:a=p
  ·rw[z];exact d8
  ·rw[bO z];exact e
 have dne:∀a ds,dP ci p a=some ds->ci a=some ds:=fun a ds e=>by
  by_cases z:a=p
  ·rw[z,d8] at e;cases e
  ·rw[bO z] at e;exact e
 have eF:Ext X.K Y H1 (dP ci p) Hc:=by
  refine⟨Ec.keep,Ec.tb,fun b ds q=>?_,fun b q z=>shr b (Ec.fresh b q z),Ec.st,fun b c q=>Ec.bx b c q⟩
  obtain⟨es,q2⟩:=Ec.dom b ds q
  have:b≠p:=fun z=>by rw[z,lw] at q;cases q
  exact⟨es,by rw[bO this];exact q2⟩
 have mF:a6 X.K (dP ci p) Hc:=⟨fun a ds q=>by
  obtain⟨ys,z1,z2⟩:=Sc.lst a ds (dne a ds q)
  exact⟨ys,z1,z2.shrink shr⟩,Sc.tab,fun a c q=>let ⟨z,o,w1,w2⟩:=Sc.box a c q;⟨z,o,w1,w2.shrink shr⟩⟩
 exact⟨.v (.list acc),_,e1.trans eF,⟨mF,S1.rho.ext S1.mu eF⟩,Rp.list hacc d8 (rus.shrink shr),q⟩
theorem wF{elt:Expr}{te:DTE}(hclos:closureFor scope X.env=pure cl)(hi:DI X tg iter src)(hg:∀fp ad am,DG (aC X N' scope cl fp ad am) tg g)(hif:∀fp ad am,jJ (aC X N' scope cl fp ad am) ifs c)(he:∀fp ad am,DE (aC X N' scope cl fp ad am) elt te)
  (hC:CH X N' scope cl cap) (hs:∀x,foldedSetIterable iter X.env x=pure x):Core X (.ListComp elt [⟨tg,iter,ifs,0⟩] scope pos) scope (newList []) iter (oj cap src g c te):=
 vo (fin:=fun Qd p acc Z=>Qd (.m p) Z) hclos hi hg hif he hC hs (fun _ _ _ h=>h) fun {_ _ _ p acc _ _ _ _ _ _} _ e1 S1 Ec Sc hp q=>⟨.m p,_,e1.trans Ec,⟨Sc,S1.rho.ext S1.mu Ec⟩,⟨rfl,acc,hp⟩,q⟩
end
section
variable {X:Cx}{N':List Str}{scope:Scope}{cl:List (Str×Addr)}{iter tg:Expr}{ifs:List Expr}{pos:Pos}{cap:List (Option Nat)}{src:DTI}{g:DTG}{c:DTT}
theorem Eh{elt:Expr}{te:DTE}(hclos:closureFor scope X.env=pure cl)(hi:DI X tg iter src)(hg:∀fp ad am,DG (aC X N' scope cl fp ad am) tg g)(hif:∀fp ad am,jJ (aC X N' scope cl fp ad am) ifs c)(he:∀fp ad am,DE (aC X N' scope cl fp ad am) elt te)
  (hC:CH X N' scope cl cap:=by exact mi) (hs:∀x,foldedSetIterable iter X.env x=pure x:=by intro _;rfl):DE X (.ListComp elt [⟨tg,iter,ifs,0⟩] scope pos) (aQ cap src g c te):=xO (qB hclos hi hg hif he hC hs) (eval_ListComp _ _ _ _)
theorem J6{elt:Expr}{te:DTE}(hclos:closureFor scope X.env=pure cl)(hi:DI X tg iter src)(hg:∀fp ad am,DG (aC X N' scope cl fp ad am) tg g)(hif:∀fp ad am,jJ (aC X N' scope cl fp ad am) ifs c)(he:∀fp ad am,DE (aC X N' scope cl fp ad am) elt te)
  (hC:CH X N' scope cl cap:=by exact mi) (hs:∀x,foldedSetIterable iter X.env x=pure x:=by intro _;rfl):DE X (.ListComp elt [⟨tg,iter,ifs,0⟩] scope pos) (fj cap src g c te):=
 JG (Eh hclos (D3 hi) (fun a b c=>Ei (hg a b c)) (fun a b c=>yd (hif a b c)) (fun a b c=>Ea (he a b c)) hC hs) fun _ _ _=>yp
theorem IS{i:Nat}{x:Str}{pos' spos:Pos}{elt:Expr}{te:DTE}(hN:X.N.Nodup)(hix:X.N[i]? = some x)(hx:X.env.scope.names.lookup x=some .local)(hclos:closureFor scope X.env=pure cl)(hi:DI X tg iter src)(hg:∀fp ad am,DG (aC X N' scope cl fp ad am) tg g)(hif:∀fp ad am,jJ (aC X N' scope cl fp ad am) ifs c)(he:∀fp ad am,DE (aC X N' scope cl fp ad am) elt te)
  (hC:CH X N' scope cl cap:=by exact mi) (hs:∀x,foldedSetIterable iter X.env x=pure x:=by intro _;rfl) (hsw:swapsWith (.ListComp elt [⟨tg,iter,ifs,0⟩] scope pos) (some (.Name x pos')) spos.line X.env=pure true:=by rfl):DS X (.Assign [.Name x pos'] (.ListComp elt [⟨tg,iter,ifs,0⟩] scope pos) spos) (aq (aQ cap src g c te) (ae i)):=
 B9 (qB hclos hi hg hif he hC hs) hN hix hx hsw rfl
theorem J5{elt:Expr}{te:DTE}(hclos:closureFor scope X.env=pure cl)(hi:DI X tg iter src)(hg:∀fp ad am,DG (aC X N' scope cl fp ad am) tg g)(hif:∀fp ad am,jJ (aC X N' scope cl fp ad am) ifs c)(he:∀fp ad am,DE (aC X N' scope cl fp ad am) elt te)
  (hC:CH X N' scope cl cap:=by exact mi) (hs:∀x,foldedSetIterable iter X.env x=pure x:=by intro _;rfl):DE X (.ListComp elt [⟨tg,iter,ifs,0⟩] scope pos) (oj cap src g c te):=xO (wF hclos hi hg hif he hC hs) (eval_ListComp _ _ _ _)
end
open PySem PySem.W PyProof.Rows
open PySem PySem.W PySem.Calls PyProof.Rows
noncomputable abbrev T3:=Int×Int×Int
structure EQ where
 P:Program
 w:World
 K:PySem.W.Frag
 mg:Str->Option Value
 base:Heap
noncomputable abbrev eqX(X:Cx):EQ:=⟨X.prog,X.w,X.K,X.mg,X.base⟩
inductive FO(e:EQ)(k:Nat)(n:Str)(sp:DSp):Prop
 |mk {ps:List Str} {st:Stmt} {a:Addr} {d:FuncData} (C:Cal e.K e.mg n ps st a d) (F:eJ e.P e.w e.K e.mg e.base CX0 k a d ps (spD e.K sp)):FO e k n sp
section
variable {e:EQ}{n:Str}{ps N:List Str}{st:Stmt}{k:Nat}{sp sp':DSp}{td:DTS}
theorem FO.okC{a c:Addr}{d:FuncData}(C:Cal e.K e.mg n ps st a d)(z:d.code = .ref c)(N:List Str)(len:∀ds U Q,sp ds U Q->ds.length=ps.length)(rd:∀ds U Qd,sp ds U Qd->td ‹Qd› (ak N ds) U)
  (D:∀(A:Around) (outer:List Env) (s:Shared) (H:Hp) (E:XK),N.Nodup->cR k (A.deeper (envOfC n (a0 st) s.heap.objs.size a (.ref c)))->DSs (rR CX0 e.P e.w e.K e.mg e.base N n (a0 st) a (.ref c) A outer s H E).nox (da st) td)
  (S:iP N ps (a0 st):=by exact Ii):eJ e.P e.w e.K e.mg e.base CX0 (k+1) a d ps (spD e.K sp):=
 C.f.Ku S len fun cdv hc A outer s H E hr=>by
  obtain rfl:cdv = .ref c:=hc.symm.trans z
  exact⟨td,D A outer s H E S.nd hr,rd⟩
theorem FO.ok{a c:Addr}(C:∃d,Cal e.K e.mg n ps st a d/\d.code = .ref c)(N:List Str)(len:∀ds U Q,sp ds U Q->ds.length=ps.length)(rd:∀ds U Qd,sp ds U Qd->td ‹Qd› (ak N ds) U)
  (D:∀(A:Around) (outer:List Env) (s:Shared) (H:Hp) (E:XK),N.Nodup->cR k (A.deeper (envOfC n (a0 st) s.heap.objs.size a (.ref c)))->DSs (rR CX0 e.P e.w e.K e.mg e.base N n (a0 st) a (.ref c) A outer s H E).nox (da st) td)
  (S:iP N ps (a0 st):=by exact Ii):FO e (k+1) n sp:=
 let ⟨_,C,z⟩:=C
 ⟨C,FO.okC C z N len rd D S⟩
theorem FO.zero{a c:Addr}(C:∃d,Cal e.K e.mg n ps st a d/\d.code = .ref c)(h:∀ds U Q,¬ sp ds U Q):FO e k n sp:=
 let ⟨_,C,_⟩:=C
 ⟨C,fun vs H Q E g=>by obtain⟨ds,U,Qd,_,r,z,_⟩:=g;exact (h _ _ _ z).elim,fun A outer s H args us vs Q E hr e0 hb hv g=>by obtain⟨ds,U,Qd,_,r,z,_⟩:=g;exact (h _ _ _ z).elim⟩
theorem FO.CN{sp:Nat->DSp}(k0 m:Nat)(z:FO e k0 n (sp 0))(h:∀i k,k0<=k->FO e k n (sp i)->FO e (k+1) n (sp (i+1))):FO e (k0+m) n (sp m):=by
 induction m with
 |zero=>exact z
 |succ i ih=>exact h i (k0+i) (le_add_right _ _) ih
theorem FO.Km{sp:Nat->DSp}(k0 m:Nat)(z:FO e k0 n (sp 0))(h:∀i k,k0<=k->FO e k n (sp i)->FO e (k+2) n (sp (i+1))):FO e (k0+2*m) n (sp m):=by
 induction m with
 |zero=>exact z
 |succ i ih=>exact h i (k0+2*i) (le_add_right _ _) ih
theorem FO.imp(F:FO e k n sp)(h:∀{w U Q},sp' w U Q->sp w U Q):FO e k n sp':=
 let ⟨C,F⟩:=F
 ⟨C,F.imp fun _ _ _ _ ⟨_,_,_,ok,r,s,kk⟩=>⟨_,_,_,ok,r,h s,kk⟩⟩
theorem FO.map(F:FO e k n sp)(h:∀{a d ps},eJ e.P e.w e.K e.mg e.base CX0 k a d ps (spD e.K sp)->eJ e.P e.w e.K e.mg e.base CX0 k a d ps (spD e.K sp')):FO e k n sp':=
 let ⟨C,F⟩:=F
 ⟨C,h F⟩
end
section
variable {X:Cx}{k j:Nat}{x:Str}{p pos:Pos}{e:Expr}{es:List Expr}{t:DTA}{q:EQ}
theorem BF{dsp:DSp}(F:FO q k x dsp)(hr:cR j X.A)(ha:DA X (e::es) t)(hX:eqX X=q:=by rfl)(h:k<=j:=by first|exact Nat.le_of_ble_eq_true rfl|omega)(hg:Gl X x:=by rfl)(hdb:(x==("__debug__":Str))=false:=by decide)(he:starEach (e::es) X.env=(false,eval e X.env)::starEach es X.env:=by rfl)(hpl:(backTo pos (starEach es X.env)).any (·.1)=false:=by rfl) :
  DE X (.Call (.Name x p) (e::es) [] pos) (ag dsp t):=by
 subst hX
 exact let ⟨C,F⟩:=F;Bz F hr C ha h hg hdb he hpl
theorem mgx{n:Str}{v:Option Value}(h:q.mg n=v)(hX:eqX X=q:=by rfl):X.mg n=v:=by
 subst hX;exact h
theorem DD{op:BoolOp}{td:DTT}(h:DW X (.BoolOp op es pos) td):DT X (.BoolOp op es pos) td:=h.dt
theorem Ft{N':List Str}{scope:Scope}{cl:List (Str×Addr)}{fp:List Addr}{s:Shared}{H:Hp}{i:Nat}(hN:decide N'.Nodup=true:=by first|kernel_rfl)(hi:N'[i]? = some x:=by rfl)(hx:Loc (aC X N' scope cl fp s H).env.scope x:=by exact Or.inl rfl)(hf:(aC X N' scope cl fp s H).fn x=true\/(aC X N' scope cl fp s H).env.scope.names.lookup x=some .local:=by first|exact .inl rfl|exact .inr rfl|assumption):DG (aC X N' scope cl fp s H) (.Name x pos) (ae i):=Iy i (of_decide_eq_true hN) hi hx hf
end
theorem qE{n:Str}:∀{ns:List Str} {us:List Value},n∈ns->us.length=ns.length->((ns.zip us).lookup n).isSome=true
 |[],_,h,_=>nomatch h
 |m::r,[],_,h=>nomatch h
 |m::r,u::v,h,hl=>by
  rw[List.zip_cons_cons,lookup_cons]
  cases e:n==m with
  |true=>rfl
  |false=>exact qE ((List.mem_cons.mp h).resolve_left fun z=>by rw[z] at e;simp at e) (Nat.succ.inj hl)
theorem zW:∀{ns:List Str} {us:List Value},ns.Nodup->us.length=ns.length->(ns.filterMap fun n=>((ns.zip us).lookup n).map (n,·))=ns.zip us
 |[],_,_,_=>by simp
 |m::r,[],_,h=>nomatch h
 |m::r,u::v,hn,hl=>by
  have ih:=zW (List.nodup_cons.mp hn).2 (Nat.succ.inj hl)
  have hm:=(List.nodup_cons.mp hn).1
  rw[List.filterMap_cons_some (b:=(m,u)) (by simp),List.zip_cons_cons]
  refine congrArg (List.cons _) (Eq.trans ?_ ih)
  have g:∀l:List Str,(∀n∈l,n≠m)->(l.filterMap fun n=>(((m,u)::r.zip v).lookup n).map (n,·))=l.filterMap fun n=>((r.zip v).lookup n).map (n,·):=fun l=>by
   induction l with
   |nil=>intro _;rfl
   |cons n t ih=>
    intro h
    have:(n==m)=false:=by simpa using h n (by simp)
    rw[filterMap_cons,filterMap_cons,ih fun k hk=>h k (by simp[hk]),lookup_cons,this]
  exact g r fun n h z=>hm (z▸h)
theorem zQ{x:Str}{a:Arguments}{b:List Stmt}{sc:Scope}{kV doc pm cdv ct:Value}{an:Option Addr}(h1:a.posonlyargs=[])(h2:a.vararg=none)(h3:a.kwonlyargs=[])(h4:a.kwarg=none)(hn:(a.args.map (·.arg)).Nodup)(us:List Value)(hl:us.length=(a.args.map (·.arg)).length) :
  bindArgs (fnOf x x a b sc .none kV doc pm an cdv ct) ⟨us,[]⟩=pure ((a.args.map (·.arg)).zip us):=by
 obtain⟨po,ar,va,ko,kd,kw,df⟩:=a
 cases h1;cases h2;cases h3;cases h4
 simp only[bindArgs,fnOf,map_nil,nil_append] at hn hl ⊢
 generalize ar.map (fun x=>x.arg)=ns at hn hl ⊢
 have e1:(ns.filter fun n=>((ns.zip us).lookup n).isNone)=[]:=List.filter_eq_nil_iff.mpr fun n h=>by
  have:=qE (n:=n) h hl
  cases e:List.lookup n (ns.zip us) with
  |none=>rw[e] at this;cases this
  |some _=>simp
 have e2:=zW hn hl
 simp[seqItems?,notAStandIn,e1,e2,hl]
noncomputable def tg0:Expr->List Str
 |.Name x _=>[x]
 |_=>[]
noncomputable def tg1:Expr->List Str
 |.Tuple es _ _=>es.flatMap tg0
 |e=>tg0 e
noncomputable def tgN:Expr->List Str
 |.Tuple es _ _=>es.flatMap tg1
 |e=>tg0 e
noncomputable def Cc:List Str->List (Option Nat)->List Str->List Str
 |t::ts,none::c,N=>t::Cc ts c N
 |[],none::c,N=>""::Cc [] c N
 |ts,some j::c,N=>(N[j]?.getD "")::Cc ts c N
 |_,[],_=>[]
noncomputable abbrev nC(X:Cx)(tg:Expr)(cap:List (Option Nat)):List Str:=Cc (tgN tg) cap X.N
section
variable {X:Cx}{scope:Scope}{cl:List (Str×Addr)}{iter tg:Expr}{ifs:List Expr}{pos:Pos}{cap:List (Option Nat)}{src:DTI}{g:DTG}{c:DTT}
theorem EE{elt:Expr}{te:DTE} (hi:DI X tg iter src)(hg:∀fp ad am,DG (aC X (nC X tg cap) scope cl fp ad am) tg g)(hif:∀fp ad am,jJ (aC X (nC X tg cap) scope cl fp ad am) ifs c)(he:∀fp ad am,DE (aC X (nC X tg cap) scope cl fp ad am) elt te)
  (hclos:closureFor scope X.env=pure cl:=by rfl) (hC:CH X (nC X tg cap) scope cl cap:=by exact mi) (hs:∀x,foldedSetIterable iter X.env x=pure x:=by intro _;rfl):DE X (.ListComp elt [⟨tg,iter,ifs,0⟩] scope pos) (aQ cap src g c te):=Eh hclos hi hg hif he hC hs
theorem HS{elt:Expr}{te:DTE} (hi:DI X tg iter src)(hg:∀fp ad am,DG (aC X (nC X tg cap) scope cl fp ad am) tg g)(hif:∀fp ad am,jJ (aC X (nC X tg cap) scope cl fp ad am) ifs c)(he:∀fp ad am,DE (aC X (nC X tg cap) scope cl fp ad am) elt te)
  (hclos:closureFor scope X.env=pure cl:=by rfl) (hC:CH X (nC X tg cap) scope cl cap:=by exact mi) (hs:∀x,foldedSetIterable iter X.env x=pure x:=by intro _;rfl):DE X (.ListComp elt [⟨tg,iter,ifs,0⟩] scope pos) (fj cap src g c te):=J6 hclos hi hg hif he hC hs
theorem Fh{i:Nat}{x:Str}{pos' spos:Pos}{elt:Expr}{te:DTE}(hN:X.N.Nodup)(hi:DI X tg iter src)(hg:∀fp ad am,DG (aC X (nC X tg cap) scope cl fp ad am) tg g)(hif:∀fp ad am,jJ (aC X (nC X tg cap) scope cl fp ad am) ifs c)(he:∀fp ad am,DE (aC X (nC X tg cap) scope cl fp ad am) elt te)
  (hclos:closureFor scope X.env=pure cl:=by rfl) (hix:X.N[i]? = some x:=by rfl) (hx:X.env.scope.names.lookup x=some .local:=by rfl) (hC:CH X (nC X tg cap) scope cl cap:=by exact mi) (hs:∀x,foldedSetIterable iter X.env x=pure x:=by intro _;rfl) (hsw:swapsWith (.ListComp elt [⟨tg,iter,ifs,0⟩] scope pos) (some (.Name x pos')) spos.line X.env=pure true:=by rfl):DS X (.Assign [.Name x pos'] (.ListComp elt [⟨tg,iter,ifs,0⟩] scope pos) spos) (aq (aQ cap src g c te) (ae i)):=IS hN hix hx hclos hi hg hif he hC hs hsw
theorem FI{elt:Expr}{te:DTE} (hi:DI X tg iter src)(hg:∀fp ad am,DG (aC X (nC X tg cap) scope cl fp ad am) tg g)(hif:∀fp ad am,jJ (aC X (nC X tg cap) scope cl fp ad am) ifs c)(he:∀fp ad am,DE (aC X (nC X tg cap) scope cl fp ad am) elt te)
  (hclos:closureFor scope X.env=pure cl:=by rfl) (hC:CH X (nC X tg cap) scope cl cap:=by exact mi) (hs:∀x,foldedSetIterable iter X.env x=pure x:=by intro _;rfl):DE X (.ListComp elt [⟨tg,iter,ifs,0⟩] scope pos) (oj cap src g c te):=J5 hclos hi hg hif he hC hs
end
theorem iD{X:Cx}{x:Str}{n:Int}{t:Tok}{pos:Pos}(h:X.mg x=some (.int n t))(hg:Gl X x:=by rfl)(hd:(x==("__debug__":Str))=false:=by decide):DE X (.Name x pos) (dC (.int n)):=xp (u:=.int n) hg h ⟨_,rfl⟩ (fun _ _ _=>Rp.int n) hd
open PySem PySem.Spec PyProof.Rows NM
section
variable {U:Mu}{Q:DK}{ds:List D}{x y:N3}
theorem qM(a b c:Int):PyData.tuple [.int a,.int b,.int c]=dN ⟨a,b,c⟩:=rfl
theorem lr:ai (.v (dN x)) (.v (.int 0)) U Q=Q (.v (.int x.a)) U:=by unfold dN;rw[iB]
theorem lM:ai (.v (dN x)) (.v (.int 1)) U Q=Q (.v (.int x.b)) U:=by unfold dN;rw[gm]
theorem lJ:ai (.v (dN x)) (.v (.int 2)) U Q=Q (.v (.int x.c)) U:=by unfold dN;rw[ib]
theorem Bb(h:Ok x):isNum (dN x)=true:=by
 have:=h.c
 show (decide (1<=x.c)&&(g3 x.a x.b x.c==1))=true
 rw[h.g]
 simp;omega
theorem wY:Few (dN x):=by simp[dN,Few]
theorem HX{d a b c:Int}(h:ah d)(hc:0<c):sg d (low a b c).a (low a b c).b=sg d a b:=by
 obtain⟨k,hk,hs,p1,p2,p3,_⟩:=dk a b (show c≠0 by omega)
 have e:=fF (a:=(low a b c).a) (b:=(low a b c).b) h (hs.mpr hc)
 rw[<- p1,<- p2] at e
 exact e.symm
theorem zL{d:Int}(h:ah d)(ox:Ok x)(oy:Ok y):sg d (times d x y).a (times d x y).b=sg d x.a x.b*sg d y.a y.b:=by
 unfold times
 rw[HX h (mul_pos ox.c oy.c),vy h]
theorem qv{lo:Int}{n i:Nat}{x:PyData}(h:(hR lo n)[i]? = some x):x = .int (lo+i)/\i<n:=by
 unfold hR at h
 rw[getElem?_map] at h
 by_cases hi:i<n
 ·rw[List.getElem?_range hi] at h
  cases h
  exact⟨rfl,hi⟩
 ·rw[List.getElem?_eq_none (by simpa using hi)] at h
  cases h
theorem ij{lo:Int}{n:Nat}:(hR lo n).length=n:=by unfold hR;simp
end
theorem D8{α:Type}{P:α->Prop}:∀x∈([]:List α),P x:=fun _ h=>nomatch h
theorem nB{α:Type}{P:α->Prop}{a:α}{l:List α}(h:P a)(t:∀x∈l,P x):∀x∈a::l,P x:=List.forall_mem_cons.mpr ⟨h,t⟩
structure Tg{α:Sort u}(x:α):Type where
noncomputable def hd{α:Sort u}(x:α)(_:Tg x):α:=x
section
variable {ρ:Rho}{U:Mu}{Q:DK}{QT:Bool->Mu->Prop}{Dd:gJ}{ta tb tc:DTE}{t u:DTT}{tA:DTA}{s1 s2:DTS}{d:D}{A B:Prop}{p:Tg A}{q:Tg B}
theorem IL{w:Tg Q}:hd Q w d U=Q d U:=propext Iff.rfl
theorem l_T{i:Decidable True}:(if True then hd A p else hd B q)=A:=if_pos trivial
theorem l_F{i:Decidable False}:(if False then hd A p else hd B q)=B:=if_neg id
theorem l_t{i:Decidable (true=true)}:(if true=true then hd A p else hd B q)=A:=if_pos rfl
theorem l_f{i:Decidable (false=true)}:(if false=true then hd A p else hd B q)=B:=if_neg Bool.false_ne_true
theorem wQ{c:Prop}{i:Decidable c}(h:c):(if c then hd A p else hd B q)=A:=if_pos h
theorem wU{c:Prop}{i:Decidable c}(h:¬ c):(if c then hd A p else hd B q)=B:=if_neg h
theorem DZ{c:Prop}{i:Decidable c}(h:c->A)(g:¬ c->B):if c then hd A p else hd B q:=by split<;>rename_i z<;>first|exact h z|exact g z
theorem IG{i j:Int}{k:Decidable True}:(if True then i else j)=i:=if_pos trivial
theorem Jg{i j:Int}{k:Decidable False}:(if False then i else j)=j:=if_neg id
theorem EC{r}:dOp r ta tb ρ U Q=ta ρ U fun x Y=>tb ρ Y fun y ac=>r x y ac (hd Q .mk):=propext Iff.rfl
theorem Ed{g:DTG}:aq ta g Dd ρ U=ta ρ U (hd (fun d Y=>g d ρ Y Dd.nx) .mk):=propext Iff.rfl
theorem IE{rd}:dCB rd tA ρ U Q=tA ρ U fun ds Y=>rd ds Y (hd Q .mk):=propext Iff.rfl
theorem Ba{dsp:DSp}:ag dsp tA ρ U Q=tA ρ U fun ds Y=>dsp ds Y (hd Q .mk):=propext Iff.rfl
theorem zF:gI t u ρ U QT=t ρ U fun c Y=>if c=true then hd (u ρ Y QT) .mk else hd (QT false Y) .mk:=propext Iff.rfl
theorem Ew:du t u ρ U QT=t ρ U fun c Y=>if c=true then hd (QT true Y) .mk else hd (u ρ Y QT) .mk:=propext Iff.rfl
theorem zO:cL ta tb ρ U Q=ta ρ U fun x Y=>match x with|.v (.bool c)=>if c=true then hd (tb ρ Y Q) .mk else hd (Q (.v (.bool false)) Y) .mk|_=>False:=propext Iff.rfl
theorem Js:dIf t ta tb ρ U Q=t ρ U fun c Y=>if c=true then hd (ta ρ Y Q) .mk else hd (tb ρ Y Q) .mk:=propext Iff.rfl
theorem Ee:aK t s1 s2 Dd ρ U=t ρ U fun b Y=>if b=true then hd (s1 Dd ρ Y) .mk else hd (s2 Dd ρ Y) .mk:=propext Iff.rfl
theorem xl{r r'}:jX r r' ta tb tc ρ U Q=ta ρ U fun x Y=>tb ρ Y fun y ac=>r x y ac fun z be=>match z with
 |.v (.bool k)=>if k=true then hd (tc ρ be fun w bn=>r' y w bn Q) .mk else hd (Q (.v (.bool false)) be) .mk
 |_=>False:=propext Iff.rfl
end
local macro_rules|`(tactic| walk_at "rn")=>mkW "↓cT ↓cP ↓c8 ↓fQ ↓gE ↓jq ↓jB ↓jv ↓jN ↓jC ↓gh ↓q_c ↓z9 ↓q_B ↓vZ ↓nH ↓n9 ↓n8 ↓tV ↓jM ↓pE ↓jF ↓zS ↓dR ↓cI ↓oF ↓pD ↓jG ↓pC ↓nD ↓oh ↓nK ↓pb ↓nc ↓oo ↓fS ↓jI ↓jw ↓iB ↓gm ↓ib ↓jQ ↓ir ↓gL ↓nI ↓ou ↓m8 ↓jt ↓jz ↓vD ↓d9 ↓jP ↓n6 ↓o8 ↓yv ↓jr ↓jV ↓jA ↓gQ ↓m9 ↓wg ↓jD ↓gA ↓oR ↓nA ↓bJ ↓iI ↓eW ↓hV ↓ju ↓vm ↓n5 ↓js ↓jd ↓nO ↓jU ↓uk ↓gv ↓dz ↓nJ ↓nq ↓jL ↓cJ ↓di ↓gq ↓dh ↓dS ↓eu ↓eE gj ↓fV ↓cp cF cK dJ ey eN bind_none bind_some join_some getElem?_cons_zero getElem?_cons_succ ak qM lr lM lJ fH gS ji j9 lY List.map List.append List.replicate length_cons length_nil Nat.reduceAdd Nat.reduceSub nil_append cons_append set_cons_zero set_cons_succ map_some ↓reduceIte Bool.not_true Bool.not_false false_eq_true true_eq_false xor_false false_xor"
theorem gi{a b c f g h k l m n n11}{o:Rho}:ab 11 (a::b::c::f::g::h::k::l::m::n::n11::some d::o) U Q=Q d U:=propext Iff.rfl
theorem mV{a b c f g h k l m n n11 n12}{o:Rho}:ab 12 (a::b::c::f::g::h::k::l::m::n::n11::n12::some d::o) U Q=Q d U:=propext Iff.rfl
theorem m5{a b c f g h k l m n n11 n12 n13}{o:Rho}:ab 13 (a::b::c::f::g::h::k::l::m::n::n11::n12::n13::some d::o) U Q=Q d U:=propext Iff.rfl
theorem mT{a b c f g h k l m n n11 n12 n13 n14}{o:Rho}:ab 14 (a::b::c::f::g::h::k::l::m::n::n11::n12::n13::n14::some d::o) U Q=Q d U:=propext Iff.rfl
theorem xK{to:DTE}{ρ:Rho}{U:Mu}{Q:DK}:Hm to ρ U Q=to ρ U fun x Y=>match x with
 |.m l=>(match Y l with
  |some xs=>∃d,xs[xs.length-1]? = some d/\Q (.v d) (aD Y l xs.dropLast)
  |none=>False)
 |_=>False:=propext Iff.rfl
theorem xf{to te:DTE}{ρ:Rho}{U:Mu}{Q:DK}:lO to te ρ U Q=to ρ U fun x Y=>match x with
 |.m l=>te ρ Y fun y ac=>(match y,ac l with
  |.v (.int i),some xs=>(0<=i/\i<1000)/\∃d,xs[i.toNat]? = some d/\Q (.v d) (aD ac l (xs.eraseIdx i.toNat))
  |_,_=>False)
 |_=>False:=propext Iff.rfl
theorem rj{to:DTE}{ρ:Rho}{U:Mu}{Q:Bool->Mu->Prop}:zY to ρ U Q=to ρ U fun x Y=>match x with
 |.m l=>(match Y l with|some xs=>Q (!xs.isEmpty) Y|none=>False)
 |_=>False:=propext Iff.rfl
theorem Jj{i:Nat}{te:DTE}{Dd:gJ}{ρ:Rho}{U:Mu}:FT i te Dd ρ U = ∃a:Int,ρ[i]? = some (some (.v (.int a)))/\te ρ U fun y Y=>match y with
 |.v (.int b)=>Dd.nx (ρ.set i (some (.v (.int (a+b))))) Y
 |_=>False:=propext Iff.rfl
theorem xT{ys:List PyData}{U:Mu}{Q:DK}:vj [.v (.list ys)] U Q=(match aS ys with|some ns=>0<ns.length/\∀M∈ns,(∀a∈ns,M<=a)->Q (.v (.int M)) U|none=>False):=propext Iff.rfl
theorem xi{ys:List PyData}{U:Mu}{Q:DK}:vh [.v (.list ys)] U Q=(match aS ys with|some ns=>0<ns.length/\∀M∈ns,(∀a∈ns,a<=M)->Q (.v (.int M)) U|none=>False):=propext Iff.rfl
noncomputable def aw(s:Str):PyData->Bool
 |.str x=>decide (x=s)
 |_=>false
theorem DB(x:PyData)(s:Str):PyData.eqv x (.str s)=aw s x:=by
 cases x<;>first|rfl|(simp[PyData.eqv,aw];done)|(simp[PyData.eqv,aw];rfl)
noncomputable def intD:PyData->Int
 |.int i=>i
 |_=>0
structure Sh(t:PyData):Prop where
 lay:t.canLay0=true
 dep:t.depth<=60
theorem Sh.shaped{t:PyData}(h:Sh t):SeqAt.shaped t=true:=by
 unfold SeqAt.shaped
 rw[h.lay,Bool.true_and,decide_eq_true_eq]
 have:=h.dep;omega
theorem xm:∀{xs:List PyData},PyData.canLayAll0 xs=true->∀x∈xs,x.canLay0=true
 |[],_,_,h=>nomatch h
 |y::r,e,x,h=>by
  rw[PyData.canLayAll0,and_eq_true] at e
  rcases List.mem_cons.mp h with z|z
  ·rw[z];exact e.1
  ·exact xm e.2 x z
theorem q9:∀{xs:List PyData} {n:Nat},PyData.depthAll xs<=n->∀x∈xs,x.depth<=n
 |[],_,_,_,h=>nomatch h
 |y::r,n,e,x,h=>by
  rw[PyData.depthAll] at e
  rcases List.mem_cons.mp h with z|z
  ·rw[z];omega
  ·exact q9 ∅ x z
theorem Sh.mem{xs:List PyData}(h:Sh (.tuple xs)):∀x∈xs,Sh x:=fun x hx=>⟨xm (by have:=h.lay;rw[PyData.canLay0] at this;exact this) x hx,by
 have:=h.dep
 rw[PyData.depth] at this
 exact q9 (n:=60) ∅ x hx⟩
theorem ax{w:PyData}{s:Str}{neg:Bool}{U:Mu}{Q:DK}(hw:SeqAt.shaped w=true)(hs:SeqAt.shaped (.str s)=true):aJ neg (.v w) (.v (.str s)) U Q=Q (.v (.bool (neg ^^ aw s w))) U:=by
 rw[zH,DB]
 exact propext ⟨fun h=>h.2.2,fun h=>⟨hw,hs,h⟩⟩
theorem cj:SeqAt.shaped (.str "kind")=true:=nofun
theorem cm:SeqAt.shaped (.str "turn")=true:=nofun
theorem bI:SeqAt.shaped (.str "grid")=true:=nofun
theorem dw:SeqAt.shaped (.str "upon")=true:=nofun
theorem fU:SeqAt.shaped (.str "beside")=true:=nofun
noncomputable def bF(m:Int)(w x:PyData):Option (List PyData):=
 if aw "kind" w=true then (if (isWhole x&&(decide (0<=intD x)&&decide (intD x<m)))=true then some [] else none)
 else if aw "turn" w=true then some [x]
 else if (aw "upon" w || aw "beside" w)=true then (match x with|.tuple xs=>if 2<=xs.length/\xs.length<=8 then some xs else none|_=>none)
 else none
noncomputable def gH(w u v x:PyData):Option (List PyData):=
 if aw "grid" w=true then (if ((isWhole u&&decide (1<=intD u))&&(isWhole v&&decide (1<=intD v)))=true then some [x] else none) else none
noncomputable def dH(m:Int):PyData->Option (List PyData)
 |.tuple [w,x]=>bF m w x
 |.tuple [w,u,v,x]=>gH w u v x
 |_=>none
noncomputable def cnt(m:Int):Nat->PyData->Nat
 |0,_=>0
 |n+1,t=>match dH m t with
  |none=>0
  |some ps=>if (ps.map (cnt m n)).all (fun c=>decide (0<c))=true then 1+(ps.map (cnt m n)).sum else 0
noncomputable def okN(c:Nat):Bool:=decide (0<c)&&decide (c<=60)
noncomputable def kM:DSp:=fun ds U Q=>∃t,ds=[.v t]/\Q (.v (.bool (isWhole t&&decide (1<=intD t)))) U
theorem uX{U:Mu}{Q:DK}{ds:List D}(h:kM ds U Q):ds.length=1:=by obtain⟨_,rfl,_⟩:=h;rfl
noncomputable def rW:DSp:=fun ds U Q=>∃(t:PyData) (m:Int),ds=[.v t,.v (.int m)]/\Sh t/\Q (.v (.bool (dH m t).isSome)) U
theorem wa{U:Mu}{Q:DK}{ds:List D}(h:rW ds U Q):ds.length=2:=by obtain⟨_,_,rfl,_⟩:=h;rfl
noncomputable def kc:DSp:=fun ds U Q=>∃(t:PyData) (m:Int) (ps:List PyData),ds=[.v t]/\Sh t/\dH m t=some ps/\Q (.v (.list ps)) U
theorem t6{U:Mu}{Q:DK}{ds:List D}(h:kc ds U Q):ds.length=1:=by obtain⟨_,_,_,rfl,_⟩:=h;rfl
noncomputable def iR:DSp:=fun ds U Q=>∃(t:PyData) (m:Int),ds=[.v t,.v (.int m)]/\Sh t/\∀Z,(∀b ds,U b=some ds->Z b=some ds)->Q (.v (.bool (okN (cnt m 12 t)))) Z
theorem qp{U:Mu}{Q:DK}{ds:List D}(h:iR ds U Q):ds.length=2:=by obtain⟨_,_,rfl,_⟩:=h;rfl
theorem wR{x:Str}:isT "str" (.str x)=true:=rfl
theorem wV{xs:List PyData}:isT "tuple" (.tuple xs)=true:=rfl
theorem Dc{u:Int}:isWhole (.int u)=true:=rfl
theorem wK:decide (((2:Nat):Int)<2)=false:=rfl
theorem w8:decide (((0:Nat):Int)<2)=true:=rfl
theorem wX:decide (((1:Nat):Int)<2)=true:=rfl
theorem xa:decide (((3:Nat):Int)<2)=false:=rfl
theorem xQ:decide (((4:Nat):Int)<2)=false:=rfl
theorem C3:decide (((2:Nat):Int)=2)=true:=rfl
theorem Dn:decide (((3:Nat):Int)=2)=false:=rfl
theorem BM:decide (((4:Nat):Int)=2)=false:=rfl
theorem CT:decide (((2:Nat):Int)=4)=false:=rfl
theorem CQ:decide (((3:Nat):Int)=4)=false:=rfl
theorem CY:decide (((4:Nat):Int)=4)=true:=rfl
theorem xZ{n:Nat}:decide (((n+1+1+1+1+1:Nat):Int)<2)=false:=decide_eq_false ∅
theorem Ce{n:Nat}:decide (((n+1+1+1+1+1:Nat):Int)=2)=false:=decide_eq_false ∅
theorem BQ{n:Nat}:decide (((n+1+1+1+1+1:Nat):Int)=4)=false:=decide_eq_false ∅
theorem rP{m:Nat}:decide (((m+1:Nat):Int)=0)=false:=decide_eq_false ∅
theorem BY{m:Nat}:decide ((0:Int)<=(m:Int))=true:=decide_eq_true ∅
theorem Lb:aw "upon" (.str "kind")=false:=by decide
theorem Kl:aw "turn" (.str "kind")=false:=by decide
theorem yx:aw "turn" (.str "upon")=false:=by decide
theorem yh:aw "turn" (.str "beside")=false:=by decide
theorem yD:aw "turn" (.str "grid")=false:=by decide
theorem uU:aw "turn" (.str "turn")=true:=by decide
theorem K4:aw "grid" (.str "turn")=false:=by decide
theorem yO:aw "grid" (.str "upon")=false:=by decide
theorem yS:aw "grid" (.str "beside")=false:=by decide
theorem rE:aw "grid" (.str "grid")=true:=by decide
theorem ID:aw "beside" (.str "upon")=false:=by decide
theorem uW:aw "kind" (.str "turn")=false:=by decide
theorem yj:aw "kind" (.str "upon")=false:=by decide
theorem yq:aw "kind" (.str "beside")=false:=by decide
theorem yV:aw "kind" (.str "grid")=false:=by decide
theorem vR:aw "kind" (.str "kind")=true:=by decide
theorem Av:aw "upon" (.str "upon")=true:=by decide
theorem zU:aw "upon" (.str "beside")=false:=by decide
theorem Ll:aw "upon" (.str "turn")=false:=by decide
theorem Im:aw "upon" (.str "grid")=false:=by decide
theorem JV:aw "beside" (.str "beside")=true:=by decide
theorem Kn:aw "beside" (.str "turn")=false:=by decide
theorem J2:aw "beside" (.str "grid")=false:=by decide
local macro_rules|`(tactic| walk_at "rl")=>mkW "↓ax cj cm bI dw fU vR Kl Lb uW uU Ll Kn K4 yj yx yO Av ID yq yh yS zU JV yV yD Im J2 rE ↓IL ↓l_t ↓l_f l_T l_F IG Jg ↓uM ↓jY aS wR wV Dc wK w8 wX xa xQ C3 Dn BM CT CQ CY xZ Ce BQ rP BY decide_true decide_false xor_true true_xor ↓gi ↓mV ↓m5 ↓mT ↓xK ↓rj ↓xT ↓xi ↓cT ↓cP ↓c8 ↓fQ ↓gE ↓jq ↓jB ↓jv ↓jN ↓jC ↓gh ↓q_c ↓EC ↓q_B ↓vZ ↓nH ↓n9 ↓zF ↓Ew ↓jM ↓zO ↓jF ↓Js ↓dR ↓cI ↓oF ↓pD ↓jG ↓pC ↓nD ↓oh ↓nK ↓pb ↓nc ↓oo ↓fS ↓jI ↓jw ↓iB ↓gm ↓ib ↓jQ ↓ir ↓gL ↓nI ↓ou ↓m8 ↓jt ↓jz ↓vD ↓d9 ↓jP ↓n6 ↓o8 ↓IE ↓jr ↓jV ↓jA ↓gQ ↓m9 ↓wg ↓jD ↓gA ↓oR ↓nA ↓bJ ↓iI ↓eW ↓hV ↓ju ↓Ed ↓n5 ↓js ↓jd ↓nO ↓jU ↓Ee ↓gv ↓Ba ↓nJ ↓nq ↓jL ↓xl ↓cJ ↓di ↓gq ↓dh ↓dS ↓eu ↓eE gj cF cK dJ ey eN bind_none bind_some join_some getElem?_cons_zero getElem?_cons_succ ak qM lr lM lJ fH gS ji j9 lY map_cons map_nil List.append List.replicate length_cons length_nil Nat.reduceAdd Nat.reduceSub nil_append cons_append set_cons_zero set_cons_succ map_some Bool.not_true Bool.not_false false_eq_true true_eq_false xor_false false_xor"
local macro_rules|`(tactic| walk_at "rt")=>mkW "↓uM ↓jY aS wR wV Dc wK w8 wX xa xQ C3 Dn BM CT CQ CY xZ Ce BQ rP BY decide_true decide_false xor_true true_xor ↓gi ↓mV ↓m5 ↓mT ↓xK ↓xf ↓rj ↓xT ↓xi ↓cT ↓cP ↓c8 ↓fQ ↓gE ↓jq ↓jB ↓jv ↓jN ↓jC ↓gh ↓q_c ↓z9 ↓q_B ↓vZ ↓nH ↓n9 ↓n8 ↓tV ↓jM ↓pE ↓jF ↓zS ↓dR ↓cI ↓oF ↓pD ↓jG ↓pC ↓nD ↓oh ↓nK ↓pb ↓nc ↓oo ↓fS ↓jI ↓jw ↓iB ↓gm ↓ib ↓jQ ↓ir ↓gL ↓nI ↓ou ↓m8 ↓jt ↓jz ↓vD ↓d9 ↓jP ↓n6 ↓o8 ↓yv ↓jr ↓jV ↓jA ↓gQ ↓m9 ↓wg ↓jD ↓gA ↓oR ↓nA ↓bJ ↓iI ↓eW ↓hV ↓ju ↓vm ↓n5 ↓js ↓jd ↓nO ↓jU ↓uk ↓gv ↓dz ↓nJ ↓nq ↓jL ↓cJ ↓di ↓gq ↓dh ↓dS ↓eu ↓eE gj ↓fV ↓cp cF cK dJ ey eN bind_none bind_some join_some getElem?_cons_zero getElem?_cons_succ ak qM lr lM lJ fH gS ji j9 lY List.map List.append List.replicate length_cons length_nil Nat.reduceAdd Nat.reduceSub nil_append cons_append set_cons_zero set_cons_succ map_some ↓reduceIte Bool.not_true Bool.not_false false_eq_true true_eq_false xor_false false_xor"
noncomputable def lZ:DTS:=
 (aB (cL (ag cf (aa (ab 0) af)) (dOp rGe (ab 0) (dC (.int 1)))))
noncomputable def l7:DTS:=
 (aj (aK (du (cx (dB (lA "tuple" (ab 0)))) (dB (dOp rLt (dCB aX (aa (ab 0) af)) (dC (.int 2))))) (aB (dC (.bool false))) aE)
 (aj (aq (dOp ai (ab 0) (dC (.int 0))) (ae 2))
 (aj (aK (dB (dOp (aJ false) (ab 2) (dC (.str "grid")))) (aB (cL (dOp (aJ false) (dCB aX (aa (ab 0) af)) (dC (.int 4))) (cL (ag kM (aa (dOp ai (ab 0) (dC (.int 1))) af)) (ag kM (aa (dOp ai (ab 0) (dC (.int 2))) af))))) aE)
 (aj (aK (dB (dOp (aJ true) (dCB aX (aa (ab 0) af)) (dC (.int 2)))) (aB (dC (.bool false))) aE)
 (aj (aK (dB (dOp (aJ false) (ab 2) (dC (.str "kind")))) (aB (cL (ag cf (aa (dOp ai (ab 0) (dC (.int 1))) af)) (cL (dOp rGe (dOp ai (ab 0) (dC (.int 1))) (dC (.int 0))) (dOp rLt (dOp ai (ab 0) (dC (.int 1))) (ab 1))))) aE)
 (aj (aK (du (dB (dOp (aJ false) (ab 2) (dC (.str "upon")))) (dB (dOp (aJ false) (ab 2) (dC (.str "beside"))))) (aB (cL (lA "tuple" (dOp ai (ab 0) (dC (.int 1)))) (cL (dOp rGe (dCB aX (aa (dOp ai (ab 0) (dC (.int 1))) af)) (dC (.int 2))) (dOp rLe (dCB aX (aa (dOp ai (ab 0) (dC (.int 1))) af)) (dC (.int 8)))))) aE)
 (aB (dOp (aJ false) (ab 2) (dC (.str "turn"))))))))))
noncomputable def mh:DTS:=
 (aj (aq (dOp ai (ab 0) (dC (.int 0))) (ae 1))
 (aj (aK (dB (dOp (aJ false) (ab 1) (dC (.str "kind")))) (aB (cU af)) aE)
 (aj (aK (du (dB (dOp (aJ false) (ab 1) (dC (.str "upon")))) (dB (dOp (aJ false) (ab 1) (dC (.str "beside"))))) (aB (dCB ll (aa (dOp ai (ab 0) (dC (.int 1))) af))) aE)
 (aB (cU (aa (dOp ai (ab 0) (sF (dC (.int 1)))) af))))))
noncomputable def o7:DTS:=
 (aj (aq (i4 (aa (aT (aa (ab 0) (aa (dC (.int 1)) af))) af)) (ae 2))
 (aj (aq (dC (.int 0)) (ae 3))
 (aj (jE (zY (ab 2)) (aj (aq (Hm (ab 2)) (cC 2 (ay (ae 4) (ay (ae 5) cw))))
 (aj (FT 3 (dC (.int 1)))
 (aj (aK (du (dB (dOp rGt (ab 3) (dC (.int 60)))) (du (dB (dOp rGt (ab 5) (dC (.int 12)))) (cx (dB (ag rW (aa (ab 4) (aa (ab 1) af))))))) (aB (dC (.bool false))) aE)
 (ik (a9 (ag kc (aa (ab 4) af))) (ae 6) (dj (lp (ab 2) (aT (aa (ab 6) (aa (cz (ab 5) (dC (.int 1))) af))))))))))
 (aB (dC (.bool true))))))
section
variable {U:Mu}{Qd:DK}{ds:List D}
theorem gr{t:PyData}(h:isWhole t=true):∃i,t = .int i:=by
 cases t<;>first|exact⟨_,rfl⟩|(exfalso;exact Bool.false_ne_true h)
theorem tX(h:kM ds U Qd):lZ ‹Qd› (ak ["thing"] ds) U:=by
 obtain⟨t,rfl,q⟩:=h
 unfold lZ
 walk_at "rt"
 refine⟨t,rfl,?_⟩
 walk_at "rt"
 cases e:isWhole t with
 |true=>
  obtain⟨i,rfl⟩:=gr e
  walk_at "rt"
  exact q
 |false=>
  rw[e] at q
  walk_at "rt"
  exact q
theorem fX{s:Str}{w:PyData}(h:aw s w=true):w = .str s:=by
 cases w<;>first|(exfalso;exact Bool.false_ne_true h)|(rename_i x;have:x=s:=of_decide_eq_true h;rw[this])
theorem Cv{m:Int}{x:PyData}:bF m (.str "grid") x=none:=by
 unfold bF
 rw[if_neg ⋯,if_neg ⋯,if_neg ⋯]
noncomputable def mr:PyData->Option (List PyData)
 |.tuple xs=>if 2<=xs.length/\xs.length<=8 then some xs else none
 |_=>none
theorem w6{m:Int}{x:PyData}:bF m (.str "upon") x=mr x:=by
 unfold bF
 rw[if_neg ⋯,if_neg ⋯,if_pos ⋯]
 unfold mr
 cases x<;>rfl
theorem qG{m:Int}{x:PyData}:bF m (.str "beside") x=mr x:=by
 unfold bF
 rw[if_neg ⋯,if_neg ⋯,if_pos ⋯]
 unfold mr
 cases x<;>rfl
theorem ub{x:PyData}(q':Qd (.v (.bool (mr x).isSome)) U):if isT "tuple" x=true then
   aX [.v x] U fun x_1 Y=>rGe x_1 (.v (.int 2)) Y fun x_2 Y=>match x_2 with
    |.v (.bool c)=>if c=true then aX [.v x] Y fun x Y=>rLe x (.v (.int 8)) Y Qd else Qd (.v (.bool false)) Y
    |_=>False
  else Qd (.v (.bool false)) U:=by
 rcases iO x with ⟨xs,rfl,e⟩|⟨hn,e⟩
 ·rw[e]
  walk_at "rt"
  have q2:Qd (.v (.bool (if 2<=xs.length/\xs.length<=8 then some xs else none).isSome)) U:=q'
  by_cases c1:2<=xs.length
  ·rw[decide_eq_true (by omega:(2:Int)<=(xs.length:Nat))]
   simp only[↓reduceIte]
   by_cases c2:xs.length<=8
   ·rw[decide_eq_true (by omega:((xs.length:Nat):Int)<=8)]
    rw[if_pos ⟨c1,c2⟩] at q2
    exact q2
   ·rw[decide_eq_false (by omega:¬ ((xs.length:Nat):Int)<=8)]
    rw[if_neg (fun z=>c2 z.2)] at q2
    exact q2
  ·rw[decide_eq_false (by omega:¬ (2:Int)<=(xs.length:Nat))]
   simp only[false_eq_true,↓reduceIte]
   rw[if_neg (fun z=>c1 z.1)] at q2
   exact q2
 ·rw[e]
  have:mr x=none:=by cases x<;>first|rfl|exact absurd rfl (hn _)
  rw[this] at q'
  simp only[false_eq_true,↓reduceIte]
  exact q'
theorem uc(h:rW ds U Qd):l7 ‹Qd› (ak ["thing","many","word"] ds) U:=by
 obtain⟨t,m,rfl,hs,q⟩:=h
 unfold l7
 rcases iO t with ⟨xs,rfl,e⟩|⟨hn,e⟩
 ·have hw:=hs.mem
  rcases xs with _|⟨w,_|⟨x,_|⟨y,_|⟨z,_|⟨r,rs⟩⟩⟩⟩⟩
  ·walk_at "rl";exact q
  ·walk_at "rl";exact q
  ·have sw:=(hw w (by simp)).shaped
   have q':Qd (.v (.bool (bF m w x).isSome)) U:=q
   walk_at "rl"
   simp only[ax sw bI,false_xor]
   cases e1:aw "grid" w with
   |true=>
    have ew:=fX e1
    subst ew
    rw[Cv] at q'
    walk_at "rl"
    exact q'
   |false=>
    walk_at "rl"
    simp only[ax sw cj,false_xor]
    cases e2:aw "kind" w with
    |true=>
     unfold bF at q'
     rw[if_pos e2] at q'
     walk_at "rl"
     refine⟨x,rfl,?_⟩
     cases ex:isWhole x with
     |true=>
      obtain⟨i,rfl⟩:=gr ex
      walk_at "rl"
      have q2:Qd (.v (.bool (if (true&&(decide (0<=i)&&decide (i<m)))=true then some ([]:List PyData) else none).isSome)) U:=q'
      by_cases c1:0<=i
      ·rw[decide_eq_true c1] at q2 ⊢
       simp only[Bool.true_and] at q2
       walk_at "rl"
       cases c2:decide (i<m)<;>rw[c2] at q2<;>exact q2
      ·rw[decide_eq_false c1] at q2 ⊢
       simp only[Bool.true_and,Bool.false_and,false_eq_true,↓reduceIte] at q2
       walk_at "rl"
       exact q2
     |false=>
      rw[ex] at q'
      walk_at "rl"
      exact q'
    |false=>
     walk_at "rl"
     simp only[ax sw dw,false_xor]
     cases e3:aw "upon" w with
     |true=>
      have ew:=fX e3
      subst ew
      rw[w6] at q'
      walk_at "rl"
      exact ub q'
     |false=>
      walk_at "rl"
      simp only[ax sw fU,false_xor]
      cases e4:aw "beside" w with
      |true=>
       have ew:=fX e4
       subst ew
       rw[qG] at q'
       walk_at "rl"
       exact ub q'
      |false=>
       walk_at "rl"
       simp only[ax sw cm,false_xor]
       unfold bF at q'
       rw[if_neg (by rw[e2];decide),e3,e4] at q'
       cases e5:aw "turn" w with
       |true=>rw[if_pos e5] at q';exact q'
       |false=>rw[if_neg (by rw[e5];decide),if_neg ⋯] at q';exact q'
  ·have sw:=(hw w (by simp)).shaped
   walk_at "rl"
   simp only[ax sw bI,false_xor]
   cases e1:aw "grid" w<;>walk_at "rl"<;>exact q
  ·have sw:=(hw w (by simp)).shaped
   have q':Qd (.v (.bool (gH w x y z).isSome)) U:=q
   walk_at "rl"
   simp only[ax sw bI,false_xor]
   unfold gH at q'
   cases e1:aw "grid" w with
   |true=>
    rw[if_pos e1] at q'
    walk_at "rl"
    refine⟨x,rfl,?_⟩
    cases c1:(isWhole x&&decide (1<=intD x)) with
    |true=>
     walk_at "rl"
     refine⟨y,rfl,?_⟩
     rw[c1] at q'
     cases c2:(isWhole y&&decide (1<=intD y))<;>rw[c2] at q'<;>exact q'
    |false=>
     rw[c1] at q'
     walk_at "rl"
     exact q'
   |false=>rw[if_neg (by rw[e1];decide)] at q';walk_at "rl";exact q'
  ·have sw:=(hw w (by simp)).shaped
   walk_at "rl"
   simp only[ax sw bI,false_xor]
   cases e1:aw "grid" w<;>walk_at "rl"<;>exact q
 ·walk_at "rl"
  rw[e]
  walk_at "rl"
  have:dH m t=none:=by cases t<;>first|rfl|exact absurd rfl (hn _)
  rw[this] at q
  exact q
theorem nS{m:Int}{t:PyData}{ps:List PyData}(h:dH m t=some ps):(∃x,t = .tuple [.str "kind",x]/\ps=[])\/(∃x,t = .tuple [.str "turn",x]/\ps=[x])\/((∃xs,t = .tuple [.str "upon",.tuple xs]/\ps=xs/\2<=xs.length/\xs.length<=8)\/(∃xs,t = .tuple [.str "beside",.tuple xs]/\ps=xs/\2<=xs.length/\xs.length<=8))\/(∃u v x,t = .tuple [.str "grid",u,v,x]/\ps=[x]):=by
 unfold dH at h
 split at h
 ·rename_i w x
  unfold bF at h
  split at h
  ·rename_i e
   rw[fX e]
   split at h
   ·cases h;exact .inl ⟨x,rfl,rfl⟩
   ·cases h
  ·split at h
   ·rename_i e
    rw[fX e]
    cases h;exact .inr (.inl ⟨x,rfl,rfl⟩)
   ·split at h
    ·rename_i e
     have hx:∃xs,x = .tuple xs/\(2<=xs.length/\xs.length<=8)/\ps=xs:=by
      split at h
      ·rename_i xs
       split at h
       ·rename_i c;cases h;exact⟨_,rfl,c,rfl⟩
       ·cases h
      ·cases h
     obtain⟨xs,rfl,c,rfl⟩:=hx
     rw[Bool.or_eq_true] at e
     rcases e with e|e
     ·rw[fX e];exact .inr (.inr (.inl (.inl ⟨_,rfl,rfl,c.1,c.2⟩)))
     ·rw[fX e];exact .inr (.inr (.inl (.inr ⟨_,rfl,rfl,c.1,c.2⟩)))
    ·cases h
 ·rename_i w u v x
  unfold gH at h
  split at h
  ·rename_i e
   rw[fX e]
   split at h
   ·cases h;exact .inr (.inr (.inr ⟨u,v,x,rfl,rfl⟩))
   ·cases h
  ·cases h
 ·cases h
theorem rn{m:Int}{t:PyData}{ps:List PyData}(h:dH m t=some ps)(hs:Sh t):(∀p∈ps,Sh p)/\ps.length<=8:=by
 rcases nS h with ⟨x,rfl,rfl⟩|⟨x,rfl,rfl⟩|(⟨xs,rfl,rfl,c1,c2⟩|⟨xs,rfl,rfl,c1,c2⟩)|⟨u,v,x,rfl,rfl⟩
 ·exact⟨fun _ z=>(nomatch z),by simp⟩
 ·exact⟨fun p z=>by rw[List.mem_singleton.mp z];exact hs.mem x (by simp),by simp⟩
 ·exact⟨(hs.mem (.tuple ps) (by simp)).mem,c2⟩
 ·exact⟨(hs.mem (.tuple ps) (by simp)).mem,c2⟩
 ·exact⟨fun p z=>by rw[List.mem_singleton.mp z];exact hs.mem x (by simp),by simp⟩
theorem uY(h:kc ds U Qd):mh ‹Qd› (ak ["plan","word"] ds) U:=by
 obtain⟨t,m,ps,rfl,hs,hf,q⟩:=h
 unfold mh
 rcases nS hf with ⟨x,rfl,rfl⟩|⟨x,rfl,rfl⟩|(⟨xs,rfl,rfl,c1,c2⟩|⟨xs,rfl,rfl,c1,c2⟩)|⟨u,v,x,rfl,rfl⟩
 ·walk_at "rl"
  exact q
 ·walk_at "rl"
  exact q
 ·walk_at "rl"
  exact q
 ·walk_at "rl"
  exact q
 ·walk_at "rl"
  exact q
noncomputable def ent(e:PyData×Nat):PyData:=.tuple [e.1,.int (e.2:Nat)]
noncomputable def wt(m:Int)(e:PyData×Nat):Nat:=cnt m (13-e.2) e.1
noncomputable def Good(m:Int)(S:List (PyData×Nat))(c:Nat):Prop:=(∀e∈S,0<wt m e)/\c+(S.map (wt m)).sum<=60
theorem tI(xs ys:List Nat):(xs++ys).sum=xs.sum+ys.sum:=List.sum_append
theorem pj{m:Int}{L:List (PyData×Nat)}{e:PyData×Nat}{c:Nat}(h:Good m (L++[e]) c):0<wt m e/\c+1<=60:=by
 have p:=h.1 e (by simp)
 have s:=h.2
 rw[map_append,tI] at s
 simp only[map_cons,map_nil,sum_cons,List.sum_nil] at s
 exact⟨p,∅⟩
theorem cnt_none{m:Int}{n:Nat}{t:PyData}(h:dH m t=none):cnt m n t=0:=by
 cases n with
 |zero=>rfl
 |succ n=>simp only[cnt,h]
theorem il{m:Int}{n:Nat}{t:PyData}{ps:List PyData}(h:dH m t=some ps):cnt m (n+1) t=if (ps.map (cnt m n)).all (fun c=>decide (0<c))=true then 1+(ps.map (cnt m n)).sum else 0:=by
 simp only[cnt,h]
theorem zh{m:Int}{L:List (PyData×Nat)}{t:PyData}{d c:Nat}{ps:List PyData}(hd:d<=12)(hf:dH m t=some ps):Good m (L++ps.map (fun p=>(p,d+1))) (c+1)↔Good m (L++[(t,d)]) c:=by
 obtain⟨n,hn⟩:∃n,13-d=n+1:=⟨12-d,∅⟩
 have e1:wt m (t,d)=if (ps.map (cnt m n)).all (fun c=>decide (0<c))=true then 1+(ps.map (cnt m n)).sum else 0:=by
  show cnt m (13-d) t=_
  rw[hn,il hf]
 have e2:∀p,wt m (p,d+1)=cnt m n p:=fun p=>by show cnt m (13-(d+1)) p=_;congr 1;omega
 have e3:(ps.map (fun p=>(p,d+1))).map (wt m)=ps.map (cnt m n):=by
  rw[map_map];exact map_congr_left fun p _=>e2 p
 unfold Good
 rw[map_append,map_append,tI,tI,e3]
 simp only[map_cons,map_nil,sum_cons,List.sum_nil,Nat.add_zero]
 rw[e1]
 by_cases ha:(ps.map (cnt m n)).all (fun c=>decide (0<c))=true
 ·rw[if_pos ha]
  have hp:∀p∈ps,0<cnt m n p:=fun p hp=>by
   have:=List.all_eq_true.mp ha (cnt m n p) (mem_map_of_mem hp)
   exact of_decide_eq_true this
  constructor
  ·rintro ⟨h1,h2⟩
   refine⟨fun e he=>?_,∅⟩
   rcases List.mem_append.mp he with z|z
   ·exact h1 e (mem_append_left _ z)
   ·rw[List.mem_singleton.mp z,e1,if_pos ha];omega
  ·rintro ⟨h1,h2⟩
   refine⟨fun e he=>?_,∅⟩
   rcases List.mem_append.mp he with z|z
   ·exact h1 e (mem_append_left _ z)
   ·obtain⟨p,hp',rfl⟩:=List.mem_map.mp z
    rw[e2];exact hp p hp'
 ·rw[if_neg ha]
  constructor
  ·rintro ⟨h1,h2⟩
   exfalso
   apply ha
   rw[all_eq_true]
   intro x hx
   obtain⟨p,hp',rfl⟩:=List.mem_map.mp hx
   have:=h1 (p,d+1) (mem_append_right _ (mem_map_of_mem hp'))
   rw[e2] at this
   exact decide_eq_true this
  ·rintro ⟨h1,h2⟩
   exfalso
   have:=h1 (t,d) (by simp)
   rw[e1,if_neg ha] at this
   omega
theorem wH{m:Int}{t:PyData}:Good m [(t,1)] 0↔okN (cnt m 12 t)=true:=by
 unfold Good okN
 have:wt m (t,1)=cnt m 12 t:=rfl
 simp only[List.mem_singleton,forall_eq,map_cons,map_nil,sum_cons,List.sum_nil,this,and_eq_true,decide_eq_true_eq]
 omega
theorem vL(h:iR ds U Qd):o7 ‹Qd› (ak ["thing","many","waiting","counted","plan","depth","part"] ds) U:=by
 obtain⟨t,m,rfl,hs,q⟩:=h
 unfold o7
 walk_at "rt"
 intro pw hpw
 rw[xu]
 refine⟨fun k ρ Z=>∃(S:List (PyData×Nat)) (c:Nat) (r4 r5 r6:Option D),ρ=[some (.v t),some (.v (.int m)),some (.m pw),some (.v (.int c)),r4,r5,r6]/\Z pw=some (S.map ent)/\(∀b ds,b≠pw->U b=some ds->Z b=some ds)/\(∀e∈S,Sh e.1)/\S.length<=1+8*c/\c<=60/\k=61-c/\(Good m S c↔okN (cnt m 12 t)=true),
  ⟨61,[(t,1)],0,none,none,none,rfl,av,fun b ds hb e=>by rw[ao hb];exact e,fun e he=>by rw[List.mem_singleton.mp he];exact hs,by simp,∅,rfl,wH⟩,?_⟩
 rintro k ρ Z ⟨S,c,r4,r5,r6,rfl,hm,hk,hS,hl,hc,rfl,hg⟩
 have keep:∀b ds,U b=some ds->Z b=some ds:=fun b ds e=>hk b ds (fun z=>by rw[z,hpw] at e;cases e) e
 walk_at "rt"
 rw[hm]
 rcases List.eq_nil_or_concat S with rfl|⟨L,e,rfl⟩
 ·have:okN (cnt m 12 t)=true:=hg.mp ⟨fun _ z=>(nomatch z),by simpa using hc⟩
  have q':=q Z keep
  rw[this] at q'
  exact q'
 ·obtain⟨t',d⟩:=e
  rw[List.concat_eq_append] at hm hS hl hg
  have nok:¬ Good m (L++[(t',d)]) c->okN (cnt m 12 t)=false:=fun h=>by
   cases z:okN (cnt m 12 t) with
   |true=>exact absurd (hg.mpr z) h
   |false=>rfl
  have hemp:(List.map ent (L++[(t',d)])).isEmpty=false:=by simp
  rw[List.concat_eq_append]
  dsimp only
  rw[hemp]
  simp only[Bool.not_false,↓reduceIte]
  have hkw:∀b ds,U b=some ds->aD Z pw (List.map ent L) b=some ds:=fun b ds e=>by
   have hb:b≠pw:=fun z=>by rw[z,hpw] at e;cases e
   rw[ao hb];exact hk b ds hb e
  refine⟨ent (t',d),by simp,?_⟩
  have edl:(List.map ent (L++[(t',d)])).dropLast=List.map ent L:=by simp
  rw[edl]
  show cC 2 (ay (ae 4) (ay (ae 5) cw)) (.v (.tuple [t',.int (d:Nat)])) _ _ _
  have q0:okN (cnt m 12 t)=false->Qd (.v (.bool false)) (aD Z pw (List.map ent L)):=fun z=>by
   have:=q _ hkw
   rw[z] at this
   exact this
  have st':Sh t':=hS (t',d) (by simp)
  walk_at "rt"
  refine⟨trivial,?_⟩
  rw[Jj]
  refine⟨c,rfl,?_⟩
  walk_at "rl"
  by_cases c1:60<(c:Int)+1
  ·rw[wQ (by simpa using c1)]
   exact q0 (nok fun g=>by have:=pj g;omega)
  ·rw[wU (by simpa using c1)]
   walk_at "rl"
   by_cases c2:12<(d:Int)
   ·rw[wQ (by simpa using c2)]
    refine q0 (nok fun g=>?_)
    have h0:wt m (t',d)=0:=by show cnt m (13-d) t'=0;rw[show 13-d=0 by omega];rfl
    have:=pj g;omega
   ·rw[wU (by simpa using c2)]
    walk_at "rl"
    refine⟨t',m,rfl,st',?_⟩
    walk_at "rl"
    cases hf:dH m t' with
    |none=>
     simp only[Option.isSome_none]
     walk_at "rl"
     refine q0 (nok fun g=>?_)
     have h0:wt m (t',d)=0:=cnt_none hf
     have:=pj g;omega
    |some ps=>
     simp only[Option.isSome_some]
     walk_at "rl"
     obtain⟨hps,lps⟩:=rn hf st'
     rw[fK]
     walk_at "rt"
     refine⟨t',m,ps,rfl,st',hf,?_⟩
     rw[length_append,List.length_singleton] at hl
     refine⟨fun i ρ ac=>∃r6,ρ=[some (.v t),some (.v (.int m)),some (.m pw),some (.v (.int ((c:Int)+1))),some (.v t'),some (.v (.int (d:Nat))),r6]/\ac pw=some (List.map ent (L++(ps.take i).map (fun p=>(p,d+1))))/\∀b,b≠pw->ac b=Z b,⟨_,rfl,by rw[av];simp,fun b hb=>ao hb⟩,?_,?_⟩
     ·rintro i x ρ ac hx ⟨r6,rfl,hm2,hk2⟩
      have hi:i<ps.length:=by
       rcases Nat.lt_or_ge i ps.length with z|z
       ·exact z
       ·rw[List.getElem?_eq_none z] at hx;cases hx
      walk_at "rt"
      simp only[hm2]
      refine⟨?_,_,rfl,?_,fun b hb=>by rw[ao hb];exact hk2 b hb⟩
      ·rw[length_map,length_append,length_map,length_take];omega
      ·rw[av,take_succ,hx]
       simp[ent]
     ·rintro ρ ac ⟨r6,rfl,hm2,hk2⟩
      rw[take_length] at hm2
      refine⟨61-(c+1),∅,L++ps.map (fun p=>(p,d+1)),c+1,_,_,_,rfl,hm2,fun b ds hb e=>by rw[hk2 b hb];exact hk b ds hb e,fun e he=>?_,?_,∅,rfl,(zh ∅ hf).trans hg⟩
      ·rcases List.mem_append.mp he with z|z
       ·exact hS e (mem_append_left _ z)
       ·obtain⟨p,hp,rfl⟩:=List.mem_map.mp z
        exact hps p hp
      ·rw[length_append,length_map];omega
end
noncomputable def c7(n:Nat):DSp:=fun ds U Q=>∃(t:PyData) (m:Int) (deep:Nat),ds=[.v t,.v (.int m),.v (.int deep)]/\deep<n/\Sh t/\∀Z,(∀b ds,U b=some ds->Z b=some ds)->Q (.v (.int (cnt m deep t))) Z
theorem pZ{n:Nat}{U:Mu}{Q:DK}{ds:List D}(h:c7 n ds U Q):ds.length=3:=by obtain⟨_,_,_,rfl,_⟩:=h;rfl
theorem wk{U:Mu}{Q:DK}{ds:List D}(h:c7 0 ds U Q):False:=by obtain⟨_,_,_,_,h,_⟩:=h;omega
noncomputable def nR:DSp:=fun ds U Q=>∃a:Addr,ds=[.m a]/\Bag U a/\∀g Z,1<=g->g<=1000000->Step a U Z->Q (.v (.int g)) Z
theorem vv{U:Mu}{Q:DK}{ds:List D}(h:nR ds U Q):ds.length=1:=by obtain⟨_,rfl,_⟩:=h;rfl
theorem tY(s:Str)(x:PyData):PyData.eqv (.str s) x=aw s x:=by
 cases x with
 |str y=>
  have e:PyData.eqv (.str s) (.str y)=decide (s=y):=by simp[PyData.eqv];rfl
  rw[e]
  show decide (s=y)=decide (y=s)
  rw[Bool.eq_iff_iff,decide_eq_true_eq,decide_eq_true_eq]
  exact eq_comm
 |_=>first|rfl|simp[PyData.eqv,aw]
theorem zN:PyData.canLayAll0 [.str "upon",.str "beside"]=true:=nofun
noncomputable def tot(cs:List Nat):Nat:=if cs=[] then 0 else if cs.all (fun c=>decide (0<c))=true then 1+cs.sum else 0
noncomputable def a8(n:Nat):DTS:=
 (aj (aq (aQ [none,some 1,some 2] (a9 (ab 5)) (ae 0) aZ (ag (c7 n) (aa (ab 0) (aa (ab 1) (aa (fu (ab 2) (dC (.int 1))) af))))) (ae 6))
 (aj (aK (du (dB (dOp (aJ false) (ab 6) (cU af))) (dB (dOp (aJ false) (dCB vj (aa (ab 6) af)) (dC (.int 0))))) (aB (dC (.int 0))) aE)
 (aB (cz (dC (.int 1)) (dCB oK (aa (ab 6) af))))))
noncomputable def fD(n:Nat):DTS:=
 (aj (aK (du (dB (dOp (aJ false) (ab 2) (dC (.int 0)))) (du (cx (dB (lA "tuple" (ab 0)))) (dB (dOp rLt (dCB aX (aa (ab 0) af)) (dC (.int 2)))))) (aB (dC (.int 0))) aE)
 (aj (oi 3 4 (aa (dOp ai (ab 0) (dC (.int 0))) (aa (dCB aX (aa (ab 0) af)) af)))
 (aj (aK (dB (dOp (aJ false) (ab 3) (dC (.str "kind")))) (aB (dCB jg (aa (cL (dOp (aJ false) (ab 4) (dC (.int 2))) (cL (ag cf (aa (dOp ai (ab 0) (dC (.int 1))) af)) (jX rLe rLt (dC (.int 0)) (dOp ai (ab 0) (dC (.int 1))) (ab 1)))) af))) aE)
 (aj (aq (cU af) (ae 5))
 (aj (aK (gI (dB (dOp (aJ false) (ab 3) (dC (.str "turn")))) (dB (dOp (aJ false) (ab 4) (dC (.int 2))))) (aq (cU (aa (dOp ai (ab 0) (dC (.int 1))) af)) (ae 5)) (aK (gI (dB (dOp (vS false) (ab 3) (cU (aa (dC (.str "upon")) (aa (dC (.str "beside")) af))))) (gI (dB (dOp (aJ false) (ab 4) (dC (.int 2)))) (dB (lA "tuple" (dOp ai (ab 0) (dC (.int 1))))))) (aq (dIf (dB (jX rLe rLe (dC (.int 2)) (dCB aX (aa (dOp ai (ab 0) (dC (.int 1))) af)) (dC (.int 8)))) (dCB ll (aa (dOp ai (ab 0) (dC (.int 1))) af)) (cU af)) (ae 5)) (aK (gI (dB (dOp (aJ false) (ab 3) (dC (.str "grid")))) (gI (dB (dOp (aJ false) (ab 4) (dC (.int 4)))) (dB (dCB lU (aa (fj [none] (fw (dSl (ab 0) (j3 (dC (.int 1))) (j3 (dC (.int 3))))) (ae 0) aZ (cL (ag cf (aa (ab 0) af)) (dOp rGt (ab 0) (dC (.int 0))))) af))))) (aq (cU (aa (dOp ai (ab 0) (dC (.int 3))) af)) (ae 5)) aE)))
 (a8 n))))))
noncomputable def eS:DTS:=
 (aB (cz (dC (.int 1)) (ag aO (aa (ab 0) (aa (dOp ai (cU (aa (dC (.int 2)) (aa (dC (.int 3)) (aa (dC (.int 5)) (aa (dC (.int 3)) (aa (dC (.int 2)) (aa (dC (.int 9)) (aa (dC (.int 4)) (aa (Bg (dC (.int 10)) (dC (.int 6))) af))))))))) (ag aO (aa (ab 0) (aa (dC (.int 8)) af)))) af)))))
section
variable {U:Mu}{Qd:DK}{ds:List D}
theorem Di(cs:List Nat):aS (cs.map fun (c:Nat)=>PyData.int (c:Int))=some (cs.map fun (c:Nat)=>(c:Int)):=by
 induction cs with
 |nil=>rfl
 |cons c r ih=>simp only[map_cons,aS,ih,map_some]
theorem Af(cs:List Nat):(cs.map fun (c:Nat)=>(c:Int)).sum=((cs.sum:Nat):Int):=by
 induction cs with
 |nil=>rfl
 |cons c r ih=>simp only[map_cons,sum_cons,ih];omega
theorem min_zero{cs:List Nat}{M:Int}(h1:M∈cs.map fun (c:Nat)=>(c:Int))(h2:∀a∈cs.map fun (c:Nat)=>(c:Int),M<=a):M=0↔cs.all (fun c=>decide (0<c))=false:=by
 obtain⟨c,hc,rfl⟩:=List.mem_map.mp h1
 constructor
 ·intro z
  rw[Bool.eq_false_iff]
  intro ha
  have:=List.all_eq_true.mp ha c hc
  have:=of_decide_eq_true this
  omega
 ·intro hf
  have:∃x∈cs,¬ 0<x:=by
   rcases Classical.em (∃x∈cs,¬ 0<x) with z|z
   ·exact z
   ·exfalso
    rw[Bool.eq_false_iff] at hf
    apply hf
    rw[all_eq_true]
    intro x hx
    rcases Nat.lt_or_ge 0 x with w|w
    ·exact decide_eq_true w
    ·exact absurd ⟨x,hx,∅⟩ z
  obtain⟨x,hx,hx0⟩:=this
  have:=h2 (x:Int) (mem_map_of_mem hx)
  omega
theorem shaped_ints(cs:List Nat):SeqAt.shaped (.list (cs.map fun (c:Nat)=>PyData.int (c:Int)))=true:=by
 have h1:PyData.canLayAll0 (cs.map fun (c:Nat)=>PyData.int (c:Int))=true:=by
  induction cs with
  |nil=>rfl
  |cons c r ih=>simp only[map_cons,PyData.canLayAll0,PyData.canLay0,ih,Bool.and_true]
 have h2:PyData.depthAll (cs.map fun (c:Nat)=>PyData.int (c:Int))=0:=by
  induction cs with
  |nil=>rfl
  |cons c r ih=>simp only[map_cons,PyData.depthAll,PyData.depth,PyData.canLayAll0,PyData.canLay0,and_eq_true] at *;rw[ih (by simpa [PyData.canLayAll0,PyData.canLay0] using h1)];rfl
 unfold SeqAt.shaped
 rw[PyData.canLay0,h1,PyData.depth,h2]
 rfl
theorem oY{n k:Nat}{t w s:D}{m:Int}{ps:List PyData}{r6:Option D}{Dd:gJ}(hk:k<n)(hps:∀p∈ps,Sh p)(lps:ps.length<=8)
  (q:∀Z,(∀b ds,U b=some ds->Z b=some ds)->Dd.rt (.v (.int (tot (ps.map (cnt m k))))) Z) :
  a8 n Dd [some t,some (.v (.int m)),some (.v (.int ((k+1:Nat):Int))),some w,some s,some (.v (.list ps)),r6] U:=by
 unfold a8
 walk_at "rt"
 refine⟨∅,fun a ha=>⟨fun i acc Z=>acc=((ps.take i).map fun p=>PyData.int (cnt m k p:Nat))/\∀b ds,b≠a->U b=some ds->Z b=some ds,⟨by simp,fun b ds hb e=>by rw[ao hb];exact e⟩,?_,?_⟩⟩
 ·rintro i x acc Z hx hacc ⟨rfl,hk'⟩
  refine⟨⟨trivial,trivial,trivial⟩,x,m,k,?_,hk,hps x (mem_of_getElem? hx),fun bn h4=>⟨h4 _ _ hacc,?_,fun b ds hb e=>by rw[ao hb];exact h4 b ds (hk' b ds hb e)⟩⟩
  ·congr 1;congr 1;congr 1;congr 1;congr 1;omega
  ·rw[take_succ,hx];simp
 ·rintro acc Z ⟨rfl,hk'⟩ hacc
  have q':=q (dP Z a) fun b ds e=>by
   have hb:b≠a:=fun z=>by rw[z,ha] at e;cases e
   rw[bO hb];exact hk' b ds hb e
  rw[take_length]
  have em:(ps.map fun p=>PyData.int (cnt m k p:Nat))=(ps.map (cnt m k)).map fun (c:Nat)=>PyData.int (c:Int):=by rw[map_map];rfl
  rw[em]
  generalize ps.map (cnt m k)=cs at q'
  refine⟨shaped_ints cs,rfl,?_⟩
  cases cs with
  |nil=>exact q'
  |cons c r=>
   have e0:PyData.eqv (.list ((c::r).map fun (c:Nat)=>PyData.int (c:Int))) (.list [])=false:=by simp[PyData.eqv,PyData.eqvAll]
   rw[e0,Di]
   simp only[false_eq_true,↓reduceIte]
   refine⟨by simp,fun M h1 h2=>?_⟩
   have hz:=min_zero h1 h2
   have q2:Dd.rt (.v (.int ((if (c::r).all (fun c=>decide (0<c))=true then 1+(c::r).sum else 0:Nat):Int))) (dP Z a):=q'
   cases ea:(c::r).all (fun c=>decide (0<c)) with
   |true=>
    rw[if_pos ea] at q2
    rw[decide_eq_false (fun z=>by rw[hz,ea] at z;cases z)]
    simp only[false_eq_true,↓reduceIte]
    rw[Af]
    have e1:(1:Int)+(((c::r).sum:Nat):Int)=((1+(c::r).sum:Nat):Int):=by omega
    rw[e1]
    exact q2
   |false=>
    rw[if_neg (by rw[ea];decide)] at q2
    rw[decide_eq_true (hz.mpr ea)]
    exact q2
theorem Fg{m:Int}{k:Nat}{t:PyData}{ps:List PyData}(h:dH m t=some ps)(hne:ps≠[]):cnt m (k+1) t=tot (ps.map (cnt m k)):=by
 rw[il h]
 unfold tot
 rw[if_neg (fun z=>hne (List.map_eq_nil_iff.mp z))]
theorem lP(n:Nat)(h:c7 (n+1) ds U Qd):fD n ‹Qd› (ak ["_law_thing","_law_many","_law_deep","_law_word","_law_size","_law_parts","_law_counts"] ds) U:=by
 obtain⟨t,m,deep,rfl,hn,hs,q⟩:=h
 unfold fD
 cases deep with
 |zero=>
  walk_at "rl"
  exact q U fun _ _ e=>e
 |succ k=>
  have q0:dH m t=none->Qd (.v (.int 0)) U:=fun z=>by
   have:=q U fun _ _ e=>e
   rw[cnt_none z] at this
   exact this
  have kn:k<n:=by omega
  have tail0:∀{w s:D} {r6:Option D},dH m t=none->a8 n ‹Qd› [some (.v t),some (.v (.int m)),some (.v (.int ((k+1:Nat):Int))),some w,some s,some (.v (.list [])),r6] U:=fun {w s r6} z=>
   oY kn (fun _ z=>(nomatch z)) (by simp) fun Z h=>by
    have:=q Z h
    rw[cnt_none z] at this
    exact this
  have tail1:∀{w s:D} {r6:Option D} {ps:List PyData},dH m t=some ps->ps≠[]->a8 n ‹Qd› [some (.v t),some (.v (.int m)),some (.v (.int ((k+1:Nat):Int))),some w,some s,some (.v (.list ps)),r6] U:=fun {w s r6 ps} z hne=>
   oY kn (rn z hs).1 (rn z hs).2 fun Z h=>by
    have:=q Z h
    rw[Fg z hne] at this
    exact this
  rcases iO t with ⟨xs,rfl,e⟩|⟨hn',e⟩
  ·have hw:=hs.mem
   rcases xs with _|⟨w,_|⟨x,_|⟨y,_|⟨z,_|⟨r,rs⟩⟩⟩⟩⟩
   ·walk_at "rl";exact q0 rfl
   ·walk_at "rl";exact q0 rfl
   ·have sw:=hw w (by simp)
    walk_at "rl"
    simp only[ax sw.shaped cj,false_xor]
    have f0:dH m (.tuple [w,x])=bF m w x:=rfl
    have eany:([PyData.str "upon",.str "beside"].any fun b=>PyData.eqv b w)=(aw "upon" w || aw "beside" w):=by simp only[List.any_cons,List.any_nil,tY,Bool.or_false]
    cases e1:aw "kind" w with
    |true=>
     walk_at "rl"
     have f1:bF m w x=if (isWhole x&&(decide (0<=intD x)&&decide (intD x<m)))=true then some [] else none:=by unfold bF;rw[if_pos e1]
     have qk:=q U fun _ _ e=>e
     refine⟨x,rfl,?_⟩
     cases ex:isWhole x with
     |true=>
      obtain⟨i,rfl⟩:=gr ex
      have f2:bF m w (.int i)=if (decide (0<=i)&&decide (i<m))=true then some [] else none:=f1
      walk_at "rl"
      by_cases c1:0<=i
      ·rw[decide_eq_true c1] at f2 ⊢
       simp only[Bool.true_and] at f2
       walk_at "rl"
       by_cases c2:i<m
       ·rw[decide_eq_true c2] at f2 ⊢
        rw[il (f0.trans f2)] at qk
        exact qk
       ·rw[decide_eq_false c2] at f2 ⊢
        exact q0 (f0.trans f2)
      ·rw[decide_eq_false c1] at f2 ⊢
       simp only[Bool.false_and,false_eq_true,↓reduceIte] at f2
       walk_at "rl"
       exact q0 (f0.trans f2)
     |false=>
      walk_at "rl"
      exact q0 (by rw[f0,f1,ex];rfl)
    |false=>
     walk_at "rl"
     simp only[ax sw.shaped cm,false_xor]
     cases e2:aw "turn" w with
     |true=>
      walk_at "rl"
      exact tail1 (by rw[f0];unfold bF;rw[if_neg (by rw[e1];decide),if_pos e2]) (by simp)
     |false=>
      walk_at "rl"
      refine⟨zN,sw.lay,sw.dep,?_⟩
      rw[eany]
      have f3:bF m w x=if (aw "upon" w || aw "beside" w)=true then mr x else none:=by
       unfold bF
       rw[if_neg (by rw[e1];decide),if_neg (by rw[e2];decide)]
       unfold mr
       cases x<;>rfl
      cases e3:(aw "upon" w || aw "beside" w) with
      |true=>
       rw[e3] at f3
       simp only[↓reduceIte] at f3
       walk_at "rl"
       rcases iO x with ⟨xs,rfl,et⟩|⟨hx,et⟩
       ·rw[et]
        walk_at "rl"
        have f4:bF m w (.tuple xs)=if 2<=xs.length/\xs.length<=8 then some xs else none:=f3
        by_cases c1:2<=xs.length
        ·rw[decide_eq_true (by omega:(2:Int)<=(xs.length:Nat))]
         walk_at "rl"
         by_cases c2:xs.length<=8
         ·rw[decide_eq_true (by omega:((xs.length:Nat):Int)<=8)]
          walk_at "rl"
          exact tail1 (by rw[f0,f4,if_pos ⟨c1,c2⟩]) (fun z=>by rw[z] at c1;simp at c1)
         ·rw[decide_eq_false (by omega:¬ ((xs.length:Nat):Int)<=8)]
          walk_at "rl"
          exact tail0 (by rw[f0,f4,if_neg (fun z=>c2 z.2)])
        ·rw[decide_eq_false (by omega:¬ (2:Int)<=(xs.length:Nat))]
         walk_at "rl"
         exact tail0 (by rw[f0,f4,if_neg (fun z=>c1 z.1)])
       ·rw[et]
        walk_at "rl"
        have fn:dH m (.tuple [w,x])=none:=by rw[f0,f3];cases x<;>first|rfl|exact absurd rfl (hx _)
        simp only[ax sw.shaped bI,false_xor]
        cases aw "grid" w<;>walk_at "rl"<;>exact tail0 fn
      |false=>
       rw[e3] at f3
       simp only[false_eq_true,↓reduceIte] at f3
       walk_at "rl"
       simp only[ax sw.shaped bI,false_xor]
       cases aw "grid" w<;>walk_at "rl"<;>exact tail0 (f0.trans f3)
   ·have sw:=hw w (by simp)
    walk_at "rl"
    simp only[ax sw.shaped cj,false_xor]
    cases aw "kind" w with
    |true=>walk_at "rl";exact q0 rfl
    |false=>
     walk_at "rl"
     simp only[ax sw.shaped cm,false_xor]
     cases aw "turn" w<;>walk_at "rl"<;>refine⟨zN,sw.lay,sw.dep,?_⟩<;>cases (List.any _ _)<;>walk_at "rl"<;>simp only[ax sw.shaped bI,false_xor]<;>cases aw "grid" w<;>walk_at "rl"<;>exact tail0 rfl
   ·have sw:=hw w (by simp)
    walk_at "rl"
    have f0:dH m (.tuple [w,x,y,z])=gH w x y z:=rfl
    cases eg:aw "grid" w with
    |true=>
     have ew:=fX eg
     subst ew
     have f1:gH (.str "grid") x y z=if ((isWhole x&&decide (1<=intD x))&&(isWhole y&&decide (1<=intD y)))=true then some [z] else none:=by unfold gH;rw[if_pos rE]
     have eany:([PyData.str "upon",.str "beside"].any fun b=>PyData.eqv b (.str "grid"))=false:=by simp only[List.any_cons,List.any_nil,tY,Im,J2,Bool.or_false]
     walk_at "rl"
     refine⟨zN,sw.lay,sw.dep,?_⟩
     rw[eany]
     walk_at "rl"
     rw[fV]
     walk_at "rl"
     have ec:jn [PyData.str "grid",x,y,z] (some 1) (some 3)=[x,y]:=rfl
     rw[ec]
     refine⟨(by show 2<=1000;decide),fun t=>some (.bool (isWhole t&&decide (1<=intD t))),fun t ht Z _=>⟨trivial,t,rfl,?_⟩,?_⟩
     ·cases et:isWhole t with
      |true=>
       obtain⟨i,rfl⟩:=gr et
       walk_at "rl"
       refine⟨trivial,?_⟩
       have:decide (0<i)=decide (1<=i):=by rw[Bool.eq_iff_iff,decide_eq_true_eq,decide_eq_true_eq];omega
       rw[this]
       rfl
      |false=>
       walk_at "rl"
       exact⟨trivial,by rw[et];rfl⟩
     ·rw[dF (fun t=>PyData.bool (isWhole t&&decide (1<=intD t))),eQ]
      simp only[map_cons,map_nil,List.all_cons,List.all_nil,id,Bool.and_true]
      cases ea:((isWhole x&&decide (1<=intD x))&&(isWhole y&&decide (1<=intD y))) with
      |true=>
       rw[ea] at f1
       walk_at "rl"
       exact tail1 (f0.trans f1) (by simp)
      |false=>
       rw[ea] at f1
       walk_at "rl"
       exact tail0 (f0.trans f1)
    |false=>
     have f1:dH m (.tuple [w,x,y,z])=none:=by rw[f0];unfold gH;rw[if_neg (by rw[eg];decide)]
     simp only[ax sw.shaped cj,false_xor]
     cases aw "kind" w with
     |true=>walk_at "rl";exact q0 f1
     |false=>
      walk_at "rl"
      simp only[ax sw.shaped cm,false_xor]
      cases aw "turn" w<;>walk_at "rl"<;>refine⟨zN,sw.lay,sw.dep,?_⟩<;>cases (List.any _ _)<;>walk_at "rl"<;>simp only[ax sw.shaped bI,false_xor,eg]<;>walk_at "rl"<;>exact tail0 f1
   ·have sw:=hw w (by simp)
    walk_at "rl"
    simp only[ax sw.shaped cj,false_xor]
    cases aw "kind" w with
    |true=>walk_at "rl";exact q0 rfl
    |false=>
     walk_at "rl"
     simp only[ax sw.shaped cm,false_xor]
     cases aw "turn" w<;>walk_at "rl"<;>refine⟨zN,sw.lay,sw.dep,?_⟩<;>cases (List.any _ _)<;>walk_at "rl"<;>simp only[ax sw.shaped bI,false_xor]<;>cases aw "grid" w<;>walk_at "rl"<;>exact tail0 rfl
  ·walk_at "rl"
   rw[e]
   walk_at "rl"
   exact q0 (by cases t<;>first|rfl|exact absurd rfl (hn' _))
theorem kB(h:nR ds U Qd):eS ‹Qd› (ak ["_law_bag_here"] ds) U:=by
 obtain⟨a,rfl,hb,q⟩:=h
 unfold eS
 walk_at "rt"
 refine⟨⟨⋯,⋯,⋯⟩,a,8,rfl,⋯,⋯,hb,fun r Y r0 r1 s1=>?_⟩
 have e6:(10:Int) ^ Int.toNat 6=1000000:=by decide
 rw[e6]
 obtain⟨_,e1,w,rfl,w0,w1⟩:=pick (P:=fun v=>∃w:Int,v = .int w/\1<=w/\w<=1000000) (xs:=[.int 2,.int 3,.int 5,.int 3,.int 2,.int 9,.int 4,.int 1000000]) r0 (by exact r1) (by
  intro v hv
  simp only[mem_cons,not_mem_nil,or_false] at hv
  rcases hv with rfl|rfl|rfl|rfl|rfl|rfl|rfl|rfl<;>exact⟨_,rfl,⋯,⋯⟩)
 walk_at "rt"
 rw[e1]
 refine⟨a,w,rfl,∅,∅,s1.1,fun u ac u0 u1 s2=>?_⟩
 walk_at "rt"
 exact q _ ac ∅ ∅ (s1.trans s2)
end
inductive IsP(m:Int):Nat->Nat->PyData->Prop
 |kind (i:Int):0<=i->i<m->IsP m 1 1 (.tuple [.str "kind",.int i])
 |turn {d c:Nat} {t:PyData}:IsP m d c t->IsP m (d+1) (c+1) (.tuple [.str "turn",t])
 |grid {d c:Nat} {t:PyData} (u v:Int):1<=u->1<=v->u<=1000000->v<=1000000->IsP m d c t->IsP m (d+1) (c+1) (.tuple [.str "grid",.int u,.int v,t])
 |upon {d:Nat} (es:List (Nat×Nat×PyData)):2<=es.length->es.length<=8->(∀e∈es,e.1<=d)->(∀e∈es,IsP m e.1 e.2.1 e.2.2)->IsP m (d+1) ((es.map (·.2.1)).sum+1) (.tuple [.str "upon",.tuple (es.map (·.2.2))])
 |beside {d:Nat} (es:List (Nat×Nat×PyData)):2<=es.length->es.length<=8->(∀e∈es,e.1<=d)->(∀e∈es,IsP m e.1 e.2.1 e.2.2)->IsP m (d+1) ((es.map (·.2.1)).sum+1) (.tuple [.str "beside",.tuple (es.map (·.2.2))])
structure Lt(n:Nat)(t:PyData):Prop where
 lay:t.canLay0=true
 dep:t.depth<=n
theorem Lt.sh{n:Nat}{t:PyData}(h:Lt n t)(hn:n<=60):Sh t:=⟨h.lay,le_trans h.dep hn⟩
theorem Lt.mono{n k:Nat}{t:PyData}(h:Lt n t)(hn:n<=k):Lt k t:=⟨h.lay,le_trans h.dep hn⟩
theorem Cq{xs:List PyData}(h:∀x∈xs,x.canLay0=true):PyData.canLayAll0 xs=true:=by
 induction xs with
 |nil=>rfl
 |cons x r ih=>rw[PyData.canLayAll0,h x (by simp),ih (fun y hy=>h y (by simp[hy]))];rfl
theorem yu{xs:List PyData}{n:Nat}(h:∀x∈xs,x.depth<=n):PyData.depthAll xs<=n:=by
 induction xs with
 |nil=>exact zero_le _
 |cons x r ih=>
  rw[PyData.depthAll]
  have h1:=h x (by simp)
  have h2:=ih (fun y hy=>h y (by simp[hy]))
  omega
theorem jm{xs:List PyData}{n:Nat}(h:∀x∈xs,Lt n x):Lt (n+1) (.tuple xs):=
 ⟨by rw[PyData.canLay0];exact Cq fun x hx=>(h x hx).lay,by rw[PyData.depth];have:=yu (n:=n) fun x hx=>(h x hx).dep;omega⟩
theorem lt_int{n:Nat}{i:Int}:Lt n (.int i):=⟨rfl,zero_le _⟩
theorem KQ{n:Nat}:Lt n (.str "kind"):=⟨nofun,zero_le _⟩
theorem Kq{n:Nat}:Lt n (.str "turn"):=⟨nofun,zero_le _⟩
theorem K1{n:Nat}:Lt n (.str "grid"):=⟨nofun,zero_le _⟩
theorem KH{n:Nat}:Lt n (.str "upon"):=⟨nofun,zero_le _⟩
theorem Kk{n:Nat}:Lt n (.str "beside"):=⟨nofun,zero_le _⟩
theorem all2{P:PyData->Prop}{a b:PyData}(ha:P a)(hb:P b):∀x∈[a,b],P x:=fun x hx=>by
 simp only[mem_cons,not_mem_nil,or_false] at hx
 rcases hx with rfl|rfl<;>assumption
theorem KO{P:PyData->Prop}{a b c d:PyData}(ha:P a)(hb:P b)(hc:P c)(hd:P d):∀x∈[a,b,c,d],P x:=fun x hx=>by
 simp only[mem_cons,not_mem_nil,or_false] at hx
 rcases hx with rfl|rfl|rfl|rfl<;>assumption
theorem IsP.pos{m:Int}{d c:Nat}{t:PyData}(h:IsP m d c t):1<=d/\1<=c:=by cases h<;>exact⟨∅,∅⟩
theorem IsP.lt{m:Int}{d c:Nat}{t:PyData}(h:IsP m d c t):Lt (2*d) t:=by
 induction h with
 |kind i h0 h1=>exact (jm (n:=0) (all2 KQ lt_int)).mono ∅
 |turn _ ih=>exact (jm (all2 Kq ih)).mono ∅
 |grid u v _ _ _ _ _ ih=>exact (jm (KO K1 lt_int lt_int ih)).mono ∅
 |@upon d es _ _ hd _ ih=>exact (jm (all2 KH (jm (n:=2*d) fun x hx=>by obtain⟨e,he,rfl⟩:=List.mem_map.mp hx;exact (ih e he).mono (by have:=hd e he;omega)))).mono ∅
 |@beside d es _ _ hd _ ih=>exact (jm (all2 Kk (jm (n:=2*d) fun x hx=>by obtain⟨e,he,rfl⟩:=List.mem_map.mp hx;exact (ih e he).mono (by have:=hd e he;omega)))).mono ∅
theorem iS{m:Int}{w:Str}{xs:List PyData}(hw:w = "upon"\/w = "beside")(h2:2<=xs.length)(h8:xs.length<=8):dH m (.tuple [.str w,.tuple xs])=some xs:=by
 rcases hw with rfl|rfl
 ·show bF m (.str "upon") (.tuple xs)=_
  rw[w6]
  show (if 2<=xs.length/\xs.length<=8 then some xs else none)=some xs
  rw[if_pos ⟨h2,h8⟩]
 ·show bF m (.str "beside") (.tuple xs)=_
  rw[qG]
  show (if 2<=xs.length/\xs.length<=8 then some xs else none)=some xs
  rw[if_pos ⟨h2,h8⟩]
theorem kD{m:Int}{n:Nat}{t:PyData}{es:List (Nat×Nat×PyData)}(hf:dH m t=some (es.map (·.2.2)))(h:∀e∈es,cnt m n e.2.2=e.2.1/\1<=e.2.1):cnt m (n+1) t=(es.map (·.2.1)).sum+1:=by
 have e1:(es.map (·.2.2)).map (cnt m n)=es.map (·.2.1):=by rw[map_map];exact map_congr_left fun e he=>(h e he).1
 rw[il hf,e1,if_pos,Nat.add_comm]
 rw[all_eq_true]
 intro x hx
 obtain⟨e,he,rfl⟩:=List.mem_map.mp hx
 exact decide_eq_true (h e he).2
theorem IsP.cnt{m:Int}{d c:Nat}{t:PyData}(h:IsP m d c t):∀n,d<=n->cnt m n t=c:=by
 induction h with
 |kind i h0 h1=>
  intro n hn
  obtain⟨k,rfl⟩:∃k,n=k+1:=⟨n-1,∅⟩
  have hf:dH m (.tuple [.str "kind",.int i])=some []:=by
   show bF m (.str "kind") (.int i)=_
   unfold bF
   rw[if_pos vR,if_pos]
   show (true&&(decide (0<=i)&&decide (i<m)))=true
   rw[decide_eq_true h0,decide_eq_true h1];rfl
  rw[il hf];rfl
 |@turn d c t hh ih=>
  intro n hn
  obtain⟨k,rfl⟩:∃k,n=k+1:=⟨n-1,∅⟩
  have hf:dH m (.tuple [.str "turn",t])=some [t]:=by
   show bF m (.str "turn") t=_
   unfold bF
   rw[if_neg (by rw[uW];decide),if_pos uU]
  have:=kD (n:=k) (es:=[(d,c,t)]) hf fun e he=>by rw[List.mem_singleton.mp he];exact⟨ih k ∅,hh.pos.2⟩
  exact this
 |@grid d c t u v hu hv _ _ hh ih=>
  intro n hn
  obtain⟨k,rfl⟩:∃k,n=k+1:=⟨n-1,∅⟩
  have hf:dH m (.tuple [.str "grid",.int u,.int v,t])=some [t]:=by
   show gH (.str "grid") (.int u) (.int v) t=_
   unfold gH
   rw[if_pos rE,if_pos]
   show ((true&&decide (1<=u))&&(true&&decide (1<=v)))=true
   rw[decide_eq_true hu,decide_eq_true hv];rfl
  have:=kD (n:=k) (es:=[(d,c,t)]) hf fun e he=>by rw[List.mem_singleton.mp he];exact⟨ih k ∅,hh.pos.2⟩
  exact this
 |upon es h2 h8 hd hh ih=>
  intro n hn
  obtain⟨k,rfl⟩:∃k,n=k+1:=⟨n-1,∅⟩
  exact kD (iS (.inl rfl) (by simpa using h2) (by simpa using h8)) fun e he=>⟨ih e he k (by have:=hd e he;omega),(hh e he).pos.2⟩
 |beside es h2 h8 hd hh ih=>
  intro n hn
  obtain⟨k,rfl⟩:∃k,n=k+1:=⟨n-1,∅⟩
  exact kD (iS (.inr rfl) (by simpa using h2) (by simpa using h8)) fun e he=>⟨ih e he k (by have:=hd e he;omega),(hh e he).pos.2⟩
noncomputable def de(a:Addr)(U Z:Mu):Prop:=Bag Z a/\∀b,b≠a->∀ds,U b=some ds->Z b=some ds
theorem de.trans{a:Addr}{U Y ac:Mu}(h:de a U Y)(g:de a Y ac):de a U ac:=⟨g.1,fun b n ds e=>g.2 b n ds (h.2 b n ds e)⟩
theorem Step.w{a:Addr}{U Z:Mu}(h:Step a U Z):de a U Z:=⟨h.1,fun b n ds e=>by rw[h.2 b n];exact e⟩
theorem de.of{a:Addr}{U Z:Mu}(hb:Bag U a)(h:∀b ds,U b=some ds->Z b=some ds):de a U Z:=⟨by obtain⟨g,m,e,z⟩:=hb;exact⟨g,m,h _ _ e,z⟩,fun b _ ds e=>h b ds e⟩
noncomputable def mP:DSp:=fun ds U Q=>∃(a:Addr) (m:Int),ds=[.m a,.v (.int m)]/\1<=m/\m<=3/\Bag U a/\∀d c t Z,IsP m d c t->d<=12->c<=60->de a U Z->Q (.v t) Z
theorem uf{U:Mu}{Q:DK}{ds:List D}(h:mP ds U Q):ds.length=2:=by obtain⟨_,_,rfl,_⟩:=h;rfl
noncomputable abbrev E3:=Nat×Nat×PyData
noncomputable def dM(e:E3):PyData:=.tuple [.int (e.1:Nat),.int (e.2.1:Nat),e.2.2]
noncomputable def Gd(m:Int)(e:E3):Prop:=IsP m e.1 e.2.1 e.2.2/\e.1<=12/\e.2.1<=60
structure Pl(a l:Addr)(m:Int)(ca U:Mu)(es:List E3):Prop where
 ne:l≠a
 bag:Bag U a
 at_:U l=some (es.map dM)
 gd:∀e∈es,Gd m e
 kept:∀b,b≠a->b≠l->∀ds,ca b=some ds->U b=some ds
local macro_rules|`(tactic| walk_at "ru")=>mkW "↓uM ↓jY aS wR wV Dc wK w8 wX xa xQ C3 Dn BM CT CQ CY xZ Ce BQ rP BY decide_true decide_false xor_true true_xor ↓gi ↓mV ↓m5 ↓mT ↓xK ↓rj ↓xT ↓xi ↓cT ↓cP ↓c8 ↓fQ ↓gE ↓jq ↓jB ↓jv ↓jN ↓jC ↓gh ↓q_c ↓z9 ↓q_B ↓vZ ↓nH ↓n9 ↓n8 ↓tV ↓jM ↓pE ↓jF ↓zS ↓dR ↓cI ↓oF ↓pD ↓jG ↓pC ↓nD ↓oh ↓nK ↓pb ↓nc ↓oo ↓fS ↓jI ↓jw ↓iB ↓gm ↓ib ↓jQ ↓ir ↓gL ↓nI ↓ou ↓m8 ↓jt ↓jz ↓vD ↓d9 ↓jP ↓n6 ↓o8 ↓yv ↓jr ↓jV ↓jA ↓gQ ↓m9 ↓wg ↓jD ↓gA ↓oR ↓nA ↓bJ ↓iI ↓eW ↓hV ↓ju ↓vm ↓n5 ↓js ↓jd ↓nO ↓jU ↓uk ↓gv ↓dz ↓nJ ↓nq ↓jL ↓cJ ↓di ↓gq ↓dh ↓dS ↓eu ↓eE gj cF cK dJ ey eN bind_none bind_some join_some getElem?_cons_zero getElem?_cons_succ ak qM lr lM lJ fH gS ji j9 lY List.append List.replicate length_cons length_nil Nat.reduceAdd Nat.reduceSub nil_append cons_append set_cons_zero set_cons_succ map_some ↓reduceIte Bool.not_true Bool.not_false false_eq_true true_eq_false xor_false false_xor"
noncomputable def cQ:DTS:=
 (aj (aq (dCB dG (aa (aQ [none,none,none] (a9 (ab 11)) (cC 3 (ay (ae 0) (ay (ae 1) (ay (ae 2) cw)))) aZ (ab 2)) af)) (ae 12))
 (aj (aq (aQ [none,none,none] (a9 (ab 11)) (cC 3 (ay (ae 0) (ay (ae 1) (ay (ae 2) cw)))) aZ (ab 1)) (ae 13))
 (aj (aq (cz (dC (.int 1)) (dCB vh (aa (aQ [none,none,none] (a9 (ab 11)) (cC 3 (ay (ae 0) (ay (ae 1) (ay (ae 2) cw)))) aZ (ab 0)) af))) (ae 14))
 (aq (aT (aa (ab 14) (aa (cz (dC (.int 1)) (dCB oK (aa (ab 13) af))) (aa (aT (aa (dOp ai (cU (aa (dC (.str "upon")) (aa (dC (.str "beside")) af))) (ia (ab 8) (dC (.int 2)))) (aa (ab 12) af))) af)))) (ae 9)))))
noncomputable def d6:DTS:=
 (aj (aq (dCB (uB min) (aa (dCB aX (aa (ab 3) af)) (aa (cz (dC (.int 1)) (ag aO (aa (ab 0) (aa (dOp ai (cU (aa (dC (.int 1)) (aa (dC (.int 1)) (aa (dC (.int 2)) (aa (dC (.int 7)) af))))) (ag aO (aa (ab 0) (aa (dC (.int 4)) af)))) af)))) af))) (ae 10))
 (aj (aq (dOp ip (cU (aa (aT (aa (ab 5) (aa (ab 6) (aa (ab 7) af)))) af)) (aQ [none,some 3,some 0] (dm (aa (ab 10) af)) (ae 0) aZ (lO (ab 1) (ag aO (aa (ab 2) (aa (dCB aX (aa (ab 1) af)) af)))))) (ae 11))
 (aj (aK (dB (dOp (aJ false) (dCB aX (aa (ab 11) af)) (dC (.int 1)))) (aq (dOp ip (ab 11) (ab 11)) (ae 11)) aE)
 (cQ))))
noncomputable def cN:DTS:=
 (aj (aK (du (dB (dOp rGt (dOp ai (ab 9) (dC (.int 0))) (dC (.int 12)))) (dB (dOp rGt (dOp ai (ab 9) (dC (.int 1))) (dC (.int 60))))) (aB (ab 7)) aE)
 (aj (dj (lp (ab 3) (ab 9)))
 (aK (gI (dB (dOp (aJ false) (dCB aX (aa (ab 3) af)) (dC (.int 1)))) (dB (dOp (aJ false) (ag aO (aa (ab 0) (aa (dC (.int 3)) af))) (dC (.int 0))))) (aB (dOp ai (ab 9) (dC (.int 2)))) aE)))
noncomputable def dU:DTS:=
 (aj (ik (dm (aa (dC (.int 30)) af)) (ae 4) (aj (aq (lO (ab 3) (ag aO (aa (ab 0) (aa (dCB aX (aa (ab 3) af)) af)))) (cC 3 (ay (ae 5) (ay (ae 6) (ay (ae 7) cw)))))
 (aj (aq (ag aO (aa (ab 0) (aa (dC (.int 6)) af))) (ae 8))
 (aj (aK (dB (dOp (aJ false) (ab 8) (dC (.int 0)))) (aq (aT (aa (cz (ab 5) (dC (.int 1))) (aa (cz (ab 6) (dC (.int 1))) (aa (aT (aa (dC (.str "turn")) (aa (ab 7) af))) af)))) (ae 9)) (aK (dB (dOp (aJ false) (ab 8) (dC (.int 1)))) (aq (aT (aa (cz (ab 5) (dC (.int 1))) (aa (cz (ab 6) (dC (.int 1))) (aa (aT (aa (dC (.str "grid")) (aa (ag nR (aa (ab 0) af)) (aa (ag nR (aa (ab 0) af)) (aa (ab 7) af))))) af)))) (ae 9)) (d6)))
 (cN)))))
 (aB (dOp ai (dOp ai (ab 3) (dC (.int 0))) (dC (.int 2)))))
noncomputable def kI:DTS:=
 (aj (aq (cz (dC (.int 1)) (ag aO (aa (ab 0) (aa (dOp ai (cU (aa (dC (.int 2)) (aa (dC (.int 4)) (aa (dC (.int 12)) af)))) (ag aO (aa (ab 0) (aa (dC (.int 3)) af)))) af)))) (ae 2))
 (aj (aq (oj [none,some 0,some 1] (dm (aa (ab 2) af)) (ae 0) aZ (aT (aa (dC (.int 1)) (aa (dC (.int 1)) (aa (aT (aa (dC (.str "kind")) (aa (ag aO (aa (ab 1) (aa (ab 2) af))) af))) af))))) (ae 3))
 (dU)))
section
variable {U ca:Mu}{Qd:DK}{ds:List D}{a l:Addr}{m:Int}{es:List E3}{ρ:Rho}{i j:Nat}
theorem FU{d:D}(h:ρ[i]? = some (some d)):ab i ρ U Qd=Qd d U:=by unfold ab;rw[h]
theorem Bf{α β:Type}(f:α->β):∀(xs:List α) (i:Nat),(xs.map f).eraseIdx i=(xs.eraseIdx i).map f
 |[],_=>rfl
 |_::_,0=>rfl
 |x::r,i+1=>by simp only[map_cons,List.eraseIdx_cons_succ,Bf f r i]
theorem Pl.step{Z:Mu}(h:Pl a l m ca U es)(s:Step a U Z):Pl a l m ca Z es:=⟨h.ne,s.1,by rw[s.2 l h.ne];exact h.at_,h.gd,fun b n1 n2 ds e=>by rw[s.2 b n1];exact h.kept b n1 n2 ds e⟩
theorem Bag.set{x:List PyData}(h:Bag U a)(n:l≠a):Bag (aD U l x) a:=by
 obtain⟨g,k,e,z⟩:=h
 exact⟨g,k,by rw[ao (Ne.symm n)];exact e,z⟩
theorem Pl.set{fs:List E3}(h:Pl a l m ca U es)(g:∀e∈fs,Gd m e):Pl a l m ca (aD U l (fs.map dM)) fs:=
 ⟨h.ne,h.bag.set h.ne,av,g,fun b n1 n2 ds e=>by rw[ao n2];exact h.kept b n1 n2 ds e⟩
theorem Pl.off{p:Addr}{x:List PyData}(h:Pl a l m ca U es)(pa:p≠a)(pl:p≠l)(p0:ca p=none):Pl a l m ca (aD U p x) es:=
 ⟨h.ne,h.bag.set pa,by rw[ao (Ne.symm pl)];exact h.at_,h.gd,fun b n1 n2 ds e=>by
  have hb:b≠p:=fun z=>by rw[z,p0] at e;cases e
  rw[ao hb];exact h.kept b n1 n2 ds e⟩
theorem Pl.del{p:Addr}(h:Pl a l m ca U es)(pa:p≠a)(pl:p≠l)(p0:ca p=none):Pl a l m ca (dP U p) es:=
 ⟨h.ne,by obtain⟨g,k,e,z⟩:=h.bag;exact⟨g,k,by rw[bO (Ne.symm pa)];exact e,z⟩,by rw[bO (Ne.symm pl)];exact h.at_,h.gd,fun b n1 n2 ds e=>by
  have hb:b≠p:=fun z=>by rw[z,p0] at e;cases e
  rw[bO hb];exact h.kept b n1 n2 ds e⟩
theorem Pl.fresh{p:Addr}(h:Pl a l m ca U es)(hp:U p=none):p≠a/\p≠l/\ca p=none:=by
 have h1:p≠a:=fun z=>by obtain⟨g,k,e,_⟩:=h.bag;rw[z,e] at hp;cases hp
 have h2:p≠l:=fun z=>by rw[z,h.at_] at hp;cases hp
 refine⟨h1,h2,?_⟩
 cases e:ca p with
 |none=>rfl
 |some ds=>rw[h.kept p h1 h2 ds e] at hp;cases hp
theorem Pl.w(h:Pl a l m ca U es)(hl:ca l=none):de a ca U:=⟨h.bag,fun b n ds e=>h.kept b n (fun z=>by rw[z,hl] at e;cases e) ds e⟩
theorem xD(h:Pl a l m ca U es)(h1:1<=es.length)(h2:es.length<=100)(hi:ρ[i]? = some (some (.m l)))(hj:ρ[j]? = some (some (.m a)))
  (q:∀(e:E3) (fs:List E3) (Z:Mu),Gd m e->fs.length+1=es.length->Pl a l m ca Z fs->(∀b,b≠a->b≠l->Z b=U b)->Qd (.v (dM e)) Z) :
  lO (ab i) (ag aO (aa (ab j) (aa (dCB aX (aa (ab i) af)) af))) ρ U Qd:=by
 simp only[xf,dz,cI,dR,yv,FU hi,FU hj,gQ,h.at_,length_map]
 refine⟨a,_,rfl,∅,∅,h.bag,fun r Y r0 r1 s1=>?_⟩
 have h':=h.step s1
 simp only[h'.at_]
 obtain⟨k,rfl⟩:∃k:Nat,r=k:=⟨r.toNat,∅⟩
 have hk:k<es.length:=by omega
 refine⟨⟨∅,∅⟩,dM es[k],by simp[hk],?_⟩
 rw[Bf]
 have hs:=h'.set (fs:=es.eraseIdx k) fun e he=>h.gd e (List.mem_of_mem_eraseIdx he)
 refine q es[k] _ _ (h.gd _ (getElem_mem hk)) (by rw[List.length_eraseIdx_of_lt hk];omega) hs fun b n1 n2=>?_
 rw[ao n2,s1.2 b n1]
theorem KY{k:Nat}(h:Pl a l m ca U es)(hk:k<=es.length)(h2:es.length<=100)(h3:ρ[3]? = some (some (.m l)))(h0:ρ[0]? = some (some (.m a)))(h10:ρ[10]? = some (some (.v (.int (k:Nat)))))
  (q:∀(gs fs:List E3) (Z:Mu),(∀e∈gs,Gd m e)->gs.length=k->fs.length<=es.length->Pl a l m ca Z fs->Qd (.v (.list (gs.map dM))) Z) :
  aQ [none,some 3,some 0] (dm (aa (ab 10) af)) (ae 0) aZ (lO (ab 1) (ag aO (aa (ab 2) (aa (dCB aX (aa (ab 1) af)) af)))) ρ U Qd:=by
 rw[cp]
 simp only[dh,cI,dR,FU h10]
 refine⟨⟨∅,∅⟩,by rw[ij];omega,fun p hp=>?_⟩
 obtain⟨pa,pl,p0⟩:=h.fresh hp
 refine⟨fun i acc Z=>∃gs fs:List E3,acc=gs.map dM/\gs.length=i/\fs.length+i=es.length/\(∀e∈gs,Gd m e)/\Pl a l m ca Z fs,⟨[],es,rfl,rfl,rfl,(fun _ z=>nomatch z),h.off pa pl p0⟩,?_,?_⟩
 ·rintro i x acc Z hx hacc ⟨gs,fs,rfl,hg,hf,gd,hP⟩
  obtain⟨rfl,hi⟩:=qv hx
  simp only[bJ,cK,cF,h3,h0,bind_some,bind_none,join_some,set_cons_zero,cJ,↓reduceIte,ey,eN,dJ,true_and,and_true]
  refine xD hP ∅ ∅ rfl rfl fun e fs' Y he hl P1 kp=>?_
  refine⟨by rw[kp p pa pl];exact hacc,gs++[e],fs',by simp,by simp[hg],∅,fun e' he'=>?_,P1.off pa pl p0⟩
  rcases List.mem_append.mp he' with z|z
  ·exact gd e' z
  ·rw[List.mem_singleton.mp z];exact he
 ·rintro acc Z ⟨gs,fs,rfl,hg,hf,gd,hP⟩ hacc
  rw[ij] at hg hf
  exact q gs fs _ gd ∅ ∅ (hP.del pa pl p0)
theorem zV{k:Nat}{f:E3->PyData}{te:DTE}(hs:∀Q,te ρ U Q=Q (.v (.list (es.map dM))) U)(hl:es.length<=100)(hf:∀(e:E3) (Z:Mu) (Q:DK),ab k [some (.v (.int (e.1:Nat))),some (.v (.int (e.2.1:Nat))),some (.v e.2.2)] Z Q=Q (.v (f e)) Z)
  (q:Qd (.v (.list (es.map f))) U):aQ [none,none,none] (a9 te) (cC 3 (ay (ae 0) (ay (ae 1) (ay (ae 2) cw)))) aZ (ab k) ρ U Qd:=by
 rw[cp,di,hs]
 refine⟨by rw[length_map];omega,fun p hp=>⟨fun i acc Z=>acc=(es.take i).map f/\Z=aD U p acc,⟨by simp,rfl⟩,?_,?_⟩⟩
 ·rintro i x acc Z hx hacc ⟨rfl,rfl⟩
  rw[getElem?_map] at hx
  obtain⟨e,he,rfl⟩:∃e,es[i]? = some e/\dM e=x:=by
   cases z:es[i]? with
   |none=>rw[z] at hx;cases hx
   |some e=>rw[z] at hx;exact⟨e,rfl,by simpa using hx⟩
  unfold dM
  simp only[hV,eW,iI,bJ,cK,cF,bind_none,set_cons_zero,set_cons_succ,cJ,↓reduceIte,ey,dJ,true_and,hf,length_cons,length_nil]
  refine⟨hacc,?_,?_⟩
  ·rw[take_succ,he];simp
  ·rw[bU]
 ·rintro acc Z ⟨rfl,rfl⟩ hacc
  rw[cY hp,length_map,take_length]
  exact q
theorem oJ(es:List E3)(f:E3->Nat):aS (es.map fun e=>PyData.int (f e:Nat))=some (es.map fun e=>((f e:Nat):Int)):=by
 induction es with
 |nil=>rfl
 |cons c r ih=>simp only[map_cons,aS,ih,map_some]
theorem CC(es:List E3):(es.map fun e=>((e.2.1:Nat):Int)).sum=(((es.map (·.2.1)).sum:Nat):Int):=by
 induction es with
 |nil=>rfl
 |cons c r ih=>simp only[map_cons,sum_cons,ih];omega
theorem yF{r0 r1 r2 r3 r4 r5 r6 r7 r9 r10 r12 r13 r14:Option D}{Dd:gJ}{w:Int}(h2:2<=es.length)(h8:es.length<=8)(gd:∀e∈es,Gd m e)
  (q:∀(e:E3) (s12 s13 s14:Option D),IsP m e.1 e.2.1 e.2.2->Dd.nx [r0,r1,r2,r3,r4,r5,r6,r7,some (.v (.int w)),some (.v (dM e)),r10,some (.v (.list (es.map dM))),s12,s13,s14] U) :
  cQ Dd [r0,r1,r2,r3,r4,r5,r6,r7,some (.v (.int w)),r9,r10,some (.v (.list (es.map dM))),r12,r13,r14] U:=by
 unfold cQ
 walk_at "rl"
 refine zV (f:=fun e=>e.2.2) (fun Q=>gi) ∅ (fun e Z Q=>c8) ?_
 walk_at "rl"
 refine zV (f:=fun e=>.int (e.2.1:Nat)) (fun Q=>gi) ∅ (fun e Z Q=>cP) ?_
 walk_at "rl"
 refine zV (f:=fun e=>.int (e.1:Nat)) (fun Q=>gi) ∅ (fun e Z Q=>cT) ?_
 walk_at "rl"
 simp only[oJ]
 refine⟨by rw[length_map];omega,fun M h1 hM=>?_⟩
 simp only[oJ,CC]
 refine⟨⋯,?_⟩
 obtain⟨e,he,rfl⟩:=List.mem_map.mp h1
 obtain⟨_,e1,ws,rfl,hws⟩:=pick (P:=fun v=>∃w:Str,v = .str w/\(w = "upon"\/w = "beside")) (xs:=[.str "upon",.str "beside"]) (i:=w.fmod 2) (Int.fmod_nonneg_of_pos _ ⋯) (Int.fmod_lt_of_pos _ ⋯) (by
  refine nB ?_ <| nB ?_ <| D8
  ·exact⟨_,rfl,.inl rfl⟩
  ·exact⟨_,rfl,.inr rfl⟩)
 rw[e1]
 walk_at "rl"
 have hd:∀x∈es,x.1<=e.1:=fun x hx=>by have:=hM (x.1:Int) (List.mem_map.mpr ⟨x,hx,rfl⟩);omega
 have hp:∀x∈es,IsP m x.1 x.2.1 x.2.2:=fun x hx=>(gd x hx).1
 have eA:(1:Int)+(e.1:Nat)=((e.1+1:Nat):Int):=by omega
 have eB:(1:Int)+((es.map (·.2.1)).sum:Nat)=(((es.map (·.2.1)).sum+1:Nat):Int):=by omega
 rcases hws with rfl|rfl
 ·have hN:=IsP.upon (d:=e.1) es h2 h8 hd hp
  have:=q (e.1+1,(es.map (·.2.1)).sum+1,_) (some (.v (.tuple (es.map fun e=>e.2.2)))) (some (.v (.list (es.map fun e=>PyData.int (e.2.1:Nat))))) (some (.v (.int ((e.1+1:Nat):Int)))) hN
  rw[eA,eB]
  exact this
 ·have hN:=IsP.beside (d:=e.1) es h2 h8 hd hp
  have:=q (e.1+1,(es.map (·.2.1)).sum+1,_) (some (.v (.tuple (es.map fun e=>e.2.2)))) (some (.v (.list (es.map fun e=>PyData.int (e.2.1:Nat))))) (some (.v (.int ((e.1+1:Nat):Int)))) hN
  rw[eA,eB]
  exact this
theorem y7{r2 r4 r9 r10 r11 r12 r13 r14:Option D}{Dd:gJ}{e0:E3}{w:Int}(h:Pl a l m ca U es)(h2:es.length<=20)(g0:Gd m e0)
  (q:∀(e:E3) (fs:List E3) (Z:Mu) (s10 s11 s12 s13 s14:Option D),IsP m e.1 e.2.1 e.2.2->fs.length<=es.length->Pl a l m ca Z fs->Dd.nx [some (.m a),some (.v (.int m)),r2,some (.m l),r4,some (.v (.int (e0.1:Nat))),some (.v (.int (e0.2.1:Nat))),some (.v e0.2.2),some (.v (.int w)),some (.v (dM e)),s10,s11,s12,s13,s14] Z) :
  d6 Dd [some (.m a),some (.v (.int m)),r2,some (.m l),r4,some (.v (.int (e0.1:Nat))),some (.v (.int (e0.2.1:Nat))),some (.v e0.2.2),some (.v (.int w)),r9,r10,r11,r12,r13,r14] U:=by
 unfold d6
 walk_at "rl"
 simp only[h.at_,length_map]
 refine⟨a,4,rfl,⋯,⋯,h.bag,fun r Y r0 r1 s1=>?_⟩
 walk_at "rl"
 obtain⟨_,e1,n,rfl,n1,n7⟩:=pick (P:=fun v=>∃n:Int,v = .int n/\1<=n/\n<=7) (xs:=[.int 1,.int 1,.int 2,.int 7]) r0 (by exact r1) (by
  intro v hv
  simp only[mem_cons,not_mem_nil,or_false] at hv
  rcases hv with rfl|rfl|rfl|rfl<;>exact⟨_,rfl,⋯,⋯⟩)
 rw[e1]
 refine⟨a,n,rfl,n1,∅,s1.1,fun u ac u0 u1 s2=>?_⟩
 walk_at "rl"
 rw[length_map]
 have P2:=(h.step s1).step s2
 obtain⟨k,hk⟩:∃k:Nat,min (es.length:Int) (1+u)=k:=⟨(min (es.length:Int) (1+u)).toNat,∅⟩
 rw[hk]
 have hk7:k<=7/\k<=es.length:=by omega
 refine KY P2 hk7.2 ∅ rfl rfl rfl fun gs fs be gg hg hf P3=>?_
 walk_at "rl"
 refine⟨by rw[length_map];omega,?_⟩
 have fin:∀(xs:List E3),2<=xs.length->xs.length<=8->(∀e∈xs,Gd m e)->cQ Dd [some (.m a),some (.v (.int m)),r2,some (.m l),r4,some (.v (.int (e0.1:Nat))),some (.v (.int (e0.2.1:Nat))),some (.v e0.2.2),some (.v (.int w)),r9,some (.v (.int (k:Nat))),some (.v (.list (xs.map dM))),r12,r13,r14] be:=fun xs x2 x8 gx=>
  yF x2 x8 gx fun e s12 s13 s14 he=>q e fs be _ _ _ _ _ he hf P3
 have g0':∀e∈e0::gs,Gd m e:=fun e he=>by
  rcases List.mem_cons.mp he with z|z
  ·rw[z];exact g0
  ·exact gg e z
 by_cases c:gs.length=0
 ·rw[if_pos (decide_eq_true (by rw[length_map,c];rfl))]
  have:gs=[]:=List.length_eq_zero_iff.mp c
  subst this
  refine⟨by show 2<=1000;decide,fin [e0,e0] (by simp) (by simp) fun e he=>?_⟩
  simp only[mem_cons,not_mem_nil,or_false,or_self] at he
  rw[he];exact g0
 ·rw[if_neg (by rw[decide_eq_true_eq,length_map];omega)]
  exact fin (e0::gs) (by rw[length_cons];omega) (by rw[length_cons];omega) g0'
theorem yt{r2 r4 r5 r6 r8 r10 r11 r12 r13 r14:Option D}{Dd:gJ}{e0 e:E3}(h:Pl a l m ca U es)(h2:es.length<=20)(g0:Gd m e0)(he:IsP m e.1 e.2.1 e.2.2)
  (qr:∀(e:E3) (fs:List E3) (Z:Mu),Gd m e->Pl a l m ca Z fs->Dd.rt (.v e.2.2) Z)
  (qn:∀Z,Pl a l m ca Z (es++[e])->Dd.nx [some (.m a),some (.v (.int m)),r2,some (.m l),r4,r5,r6,some (.v e0.2.2),r8,some (.v (dM e)),r10,r11,r12,r13,r14] Z) :
  cN Dd [some (.m a),some (.v (.int m)),r2,some (.m l),r4,r5,r6,some (.v e0.2.2),r8,some (.v (dM e)),r10,r11,r12,r13,r14] U:=by
 unfold cN
 have ee:dM e = .tuple [.int (e.1:Nat),.int (e.2.1:Nat),e.2.2]:=rfl
 rw[ee] at qn ⊢
 walk_at "rl"
 by_cases c1:(12:Int)<(e.1:Nat)
 ·rw[decide_eq_true c1]
  walk_at "rl"
  exact qr e0 es U g0 h
 ·rw[decide_eq_false c1]
  walk_at "rl"
  by_cases c2:(60:Int)<(e.2.1:Nat)
  ·rw[decide_eq_true c2]
   walk_at "rl"
   exact qr e0 es U g0 h
  ·rw[decide_eq_false c2]
   walk_at "rl"
   simp only[h.at_]
   have ge:Gd m e:=⟨he,∅,∅⟩
   refine⟨by rw[length_map];omega,?_⟩
   have P1:Pl a l m ca (aD U l (es.map dM++[dM e])) (es++[e]):=by
    have:=h.set (fs:=es++[e]) fun x hx=>by
     rcases List.mem_append.mp hx with z|z
     ·exact h.gd x z
     ·rw[List.mem_singleton.mp z];exact ge
    rw[map_append] at this
    exact this
   rw[ee] at P1
   simp only[P1.at_]
   refine DZ (fun _=>?_) fun _=>?_
   ·walk_at "rl"
    refine⟨a,3,rfl,⋯,⋯,P1.bag,fun r Y r0 r1 s1=>?_⟩
    walk_at "rl"
    refine DZ (fun _=>?_) fun _=>?_<;>walk_at "rl"
    ·exact qr e _ Y ge (P1.step s1)
    ·exact qn Y (P1.step s1)
   ·walk_at "rl"
    exact qn _ P1
theorem zq{r2 r4 r5 r6 r7 r8 r9 r10 r11 r12 r13 r14:Option D}{Dd:gJ}(h:Pl a l m ca U es)(h1:1<=es.length)(h2:es.length<=20)
  (qr:∀(e:E3) (fs:List E3) (Z:Mu),Gd m e->Pl a l m ca Z fs->Dd.rt (.v e.2.2) Z) :
  dU Dd [some (.m a),some (.v (.int m)),r2,some (.m l),r4,r5,r6,r7,r8,r9,r10,r11,r12,r13,r14] U:=by
 unfold dU
 rw[jd,fK]
 walk_at "rl"
 refine⟨⋯,fun i ρ Z=>∃(fs:List E3) (s4 s5 s6 s7 s8 s9 s10 s11 s12 s13 s14:Option D),ρ=[some (.m a),some (.v (.int m)),r2,some (.m l),s4,s5,s6,s7,s8,s9,s10,s11,s12,s13,s14]/\Pl a l m ca Z fs/\1<=fs.length/\fs.length<=20,⟨es,_,_,_,_,_,_,_,_,_,_,_,rfl,h,h1,h2⟩,?_,?_⟩
 ·rintro i x ρ Y hx ⟨fs,s4,s5,s6,s7,s8,s9,s10,s11,s12,s13,s14,rfl,P1,l1,l2⟩
  walk_at "rl"
  refine xD P1 l1 ∅ rfl rfl fun e gs ac ge hl P2 _=>?_
  have ee:dM e = .tuple [.int (e.1:Nat),.int (e.2.1:Nat),e.2.2]:=rfl
  rw[ee]
  walk_at "rl"
  refine⟨trivial,a,6,rfl,⋯,⋯,P2.bag,fun w be w0 w1 s3=>?_⟩
  have P3:=P2.step s3
  have tail:∀{e':E3} {hs:List E3} {bn:Mu} {t8 t10 t11 t12 t13 t14:Option D},Pl a l m ca bn hs->hs.length<=gs.length->IsP m e'.1 e'.2.1 e'.2.2->cN {nx:=fun ρ Z=>∃(fs:List E3) (s4 s5 s6 s7 s8 s9 s10 s11 s12 s13 s14:Option D),ρ=[some (.m a),some (.v (.int m)),r2,some (.m l),s4,s5,s6,s7,s8,s9,s10,s11,s12,s13,s14]/\Pl a l m ca Z fs/\1<=fs.length/\fs.length<=20,rt:=Dd.rt,bk:=aB (dOp ai (dOp ai (ab 3) (dC (.int 0))) (dC (.int 2))) Dd,ct:=fun ρ Z=>∃(fs:List E3) (s4 s5 s6 s7 s8 s9 s10 s11 s12 s13 s14:Option D),ρ=[some (.m a),some (.v (.int m)),r2,some (.m l),s4,s5,s6,s7,s8,s9,s10,s11,s12,s13,s14]/\Pl a l m ca Z fs/\1<=fs.length/\fs.length<=20}
    [some (.m a),some (.v (.int m)),r2,some (.m l),some (.v x),some (.v (.int (e.1:Nat))),some (.v (.int (e.2.1:Nat))),some (.v e.2.2),t8,some (.v (dM e')),t10,t11,t12,t13,t14] bn:=fun P4 hh he'=>
   yt P4 ∅ ge he' (fun e fs Z g P=>qr e fs Z g P) fun Z P'=>⟨_,_,_,_,_,_,_,_,_,_,_,_,rfl,P',by rw[length_append,List.length_singleton];omega,by rw[length_append,List.length_singleton];omega⟩
  walk_at "rl"
  by_cases c0:w=0
  ·rw[wQ (decide_eq_true c0)]
   walk_at "rl"
   exact tail (e':=(e.1+1,e.2.1+1,_)) P3 (le_refl _) (.turn ge.1)
  ·rw[wU (by rw[decide_eq_true_eq];exact c0)]
   walk_at "rl"
   by_cases c1:w=1
   ·rw[wQ (decide_eq_true c1)]
    walk_at "rl"
    refine⟨a,rfl,P3.bag,fun g bn g1 g2 s4=>?_⟩
    walk_at "rl"
    refine⟨a,rfl,s4.1,fun g' dL g1' g2' s5=>?_⟩
    walk_at "rl"
    exact tail (e':=(e.1+1,e.2.1+1,_)) ((P3.step s4).step s5) (le_refl _) (.grid g g' g1 g1' g2 g2' ge.1)
   ·rw[wU (by rw[decide_eq_true_eq];exact c1)]
    exact y7 P3 ∅ ge fun e' hs bn s10 s11 s12 s13 s14 he' hl' P4=>tail P4 hl' he'
 ·rintro ρ Y ⟨fs,s4,s5,s6,s7,s8,s9,s10,s11,s12,s13,s14,rfl,P1,l1,l2⟩
  walk_at "rl"
  simp only[P1.at_]
  cases fs with
  |nil=>simp at l1
  |cons e r=>
   rw[map_cons,gS]
   have ee:dM e = .tuple [.int (e.1:Nat),.int (e.2.1:Nat),e.2.2]:=rfl
   simp only[ee]
   walk_at "rl"
   exact qr e _ Y (P1.gd e (by simp)) P1
theorem sZ(h:mP ds U Qd):kI ‹Qd› (ak ["_law_bag_here","_law_many","_law_leaves","_law_parts","_law_turn","_law_deep","_law_size","_law_plan_here","_law_way","_law_whole","_law_count","_law_some","_law_inner","_law_sizes","_law_most"] ds) U:=by
 obtain⟨a,m,rfl,m1,m3,hb,q⟩:=h
 unfold kI
 walk_at "rl"
 refine⟨a,3,rfl,⋯,⋯,hb,fun r Y r0 r1 s1=>?_⟩
 walk_at "rl"
 obtain⟨_,e1,n,rfl,n1,n7⟩:=pick (P:=fun v=>∃n:Int,v = .int n/\1<=n/\n<=12) (xs:=[.int 2,.int 4,.int 12]) r0 (by exact r1) (by
  intro v hv
  simp only[mem_cons,not_mem_nil,or_false] at hv
  rcases hv with rfl|rfl|rfl<;>exact⟨_,rfl,⋯,⋯⟩)
 rw[e1]
 refine⟨a,n,rfl,n1,∅,s1.1,fun u ac u0 u1 s2=>?_⟩
 walk_at "rl"
 have s12:=s1.trans s2
 obtain⟨k,hk⟩:∃k:Nat,1+u=k:=⟨(1+u).toNat,∅⟩
 rw[hk,Cf]
 walk_at "rl"
 refine⟨⟨∅,∅⟩,by rw[ij];omega,fun p hp=>?_⟩
 have pa:p≠a:=fun z=>by obtain⟨g,k,e,_⟩:=s12.1;rw[z,e] at hp;cases hp
 have p0:U p=none:=by rw[<- s12.2 p pa];exact hp
 refine⟨fun i acc Z=>∃fs:List E3,acc=fs.map dM/\fs.length=i/\(∀b,b≠a->b≠p->∀ds,U b=some ds->Z b=some ds)/\Bag Z a/\(∀e∈fs,Gd m e),⟨[],rfl,rfl,fun b n1 n2 ds e=>by rw[ao n2,s12.2 b n1];exact e,s12.1.set pa,(fun _ z=>nomatch z)⟩,?_,?_⟩
 ·rintro i x acc Z hx hacc ⟨fs,rfl,hf,kp,hb',gd⟩
  refine⟨⟨trivial,trivial,trivial⟩,a,m,rfl,m1,∅,hb',fun v be v0 v1 s3=>?_⟩
  walk_at "rl"
  refine⟨by rw[s3.2 p pa];exact hacc,fs++[(1,1,.tuple [.str "kind",.int v])],by rw[map_append];rfl,by simp[hf],fun b n1 n2 ds e=>by rw[ao n2,s3.2 b n1];exact kp b n1 n2 ds e,s3.1.set pa,fun e he=>?_⟩
  rcases List.mem_append.mp he with z|z
  ·exact gd e z
  ·rw[List.mem_singleton.mp z];exact⟨.kind v v0 v1,by show 1<=12;decide,by show 1<=60;decide⟩
 ·rintro acc Z ⟨fs,rfl,hf,kp,hb',gd⟩ hacc
  rw[ij] at hf
  have P:Pl a p m U Z fs:=⟨pa,hb',hacc,gd,kp⟩
  exact zq P ∅ ∅ fun e gs re ge P'=>q e.1 e.2.1 e.2.2 re ge.1 ge.2.1 ge.2.2 (P'.w p0)
end
noncomputable def rA(d:Int):PyData->Bool
 |.tuple [.int a,.int b,.int c]=>isNum (.tuple [.int a,.int b,.int c])&&decide (sg d a b=1)
 |_=>false
noncomputable def kO:DSp:=fun ds U Q=>∃(d:Int) (t:PyData),ds=[.v (.int d),.v t]/\ah d/\Few t/\(∀x,t=dN x->Bd 44500000 x)/\Q (.v (.bool (rA d t))) U
theorem su{U:Mu}{Q:DK}{ds:List D}(h:kO ds U Q):ds.length=2:=by obtain⟨_,_,rfl,_⟩:=h;rfl
noncomputable def kQ:DSp:=fun ds U Q=>∃(d:Int) (ks:List N3),ds=[.v (.int d),.v (.tuple (ks.map dN))]/\ah d/\1<=ks.length/\ks.length<=3/\(∀k∈ks,Ok k/\Bd 60 k/\sg d k.a k.b=1)/\Q (.v (.bool true)) U
theorem rO{U:Mu}{Q:DK}{ds:List D}(h:kQ ds U Q):ds.length=2:=by obtain⟨_,_,rfl,_⟩:=h;rfl
noncomputable def eO:DSp:=fun ds U Q=>∃(d:Int) (ks:List N3),ds=[.v (.int d),.v (.tuple (ks.map dN))]/\ah d/\1<=ks.length/\ks.length<=3/\(∀k∈ks,Ok k/\Bd 60 k/\sg d k.a k.b=1)/\Q (.v .none) U
theorem mB{U:Mu}{Q:DK}{ds:List D}(h:eO ds U Q):ds.length=2:=by obtain⟨_,_,rfl,_⟩:=h;rfl
structure KindsOk(d:Int)(ks:List N3):Prop where
 l1:1<=ks.length
 l3:ks.length<=3
 ok:∀k∈ks,Ok k/\Bd 60 k/\sg d k.a k.b=1
noncomputable def kr:DSp:=fun ds U Q=>∃(a:Addr) (d:Int),ds=[.m a,.v (.int d)]/\ah d/\Bag U a/\∀ks Z,KindsOk d ks->de a U Z->Q (.v (.tuple (ks.map dN))) Z
theorem rg{U:Mu}{Q:DK}{ds:List D}(h:kr ds U Q):ds.length=2:=by obtain⟨_,_,rfl,_⟩:=h;rfl
noncomputable def jx(l:List N3):N3:=l.foldl plus cy
noncomputable def BP(l:List N3):Prop:=(∀x∈l,Ok x/\Bd 21500000 x)/\∀j,Bd 21500000 (jx (l.take j))
noncomputable def gu:DSp:=fun ds U Q=>∃(t:PyData) (m:Int),ds=[.v t,.v (.int m)]/\Sh t/\okN (cnt m 12 t)=true/\∀Z,(∀b ds,U b=some ds->Z b=some ds)->Q (.v .none) Z
theorem nG{U:Mu}{Q:DK}{ds:List D}(h:gu ds U Q):ds.length=2:=by obtain⟨_,_,rfl,_⟩:=h;rfl
noncomputable def kg:DSp:=fun ds U Q=>∃l:List N3,ds=[.v (.list (l.map dN))]/\l.length<=100/\BP l/\Q (.v (dN (jx l))) U
theorem qX{U:Mu}{Q:DK}{ds:List D}(h:kg ds U Q):ds.length=1:=by obtain⟨_,rfl,_⟩:=h;rfl
local macro_rules|`(tactic| walk_at "ru")=>mkW "↓uM ↓jY aS wR wV Dc wK w8 wX xa xQ C3 Dn BM CT CQ CY xZ Ce BQ rP BY decide_true decide_false xor_true true_xor ↓gi ↓mV ↓m5 ↓mT ↓xK ↓rj ↓xT ↓xi ↓cT ↓cP ↓c8 ↓fQ ↓gE ↓jq ↓jB ↓jv ↓jN ↓jC ↓gh ↓q_c ↓z9 ↓q_B ↓vZ ↓nH ↓n9 ↓n8 ↓tV ↓jM ↓pE ↓jF ↓zS ↓dR ↓cI ↓oF ↓pD ↓jG ↓pC ↓nD ↓oh ↓nK ↓pb ↓nc ↓oo ↓fS ↓jI ↓jw ↓iB ↓gm ↓ib ↓jQ ↓ir ↓gL ↓nI ↓ou ↓m8 ↓jt ↓jz ↓vD ↓d9 ↓jP ↓n6 ↓o8 ↓yv ↓jr ↓jV ↓jA ↓gQ ↓m9 ↓wg ↓jD ↓gA ↓oR ↓nA ↓bJ ↓iI ↓eW ↓hV ↓ju ↓vm ↓n5 ↓js ↓jd ↓nO ↓jU ↓uk ↓gv ↓dz ↓nJ ↓nq ↓jL ↓cJ ↓di ↓gq ↓dh ↓dS ↓eu ↓eE gj cF cK dJ ey eN bind_none bind_some join_some getElem?_cons_zero getElem?_cons_succ ak qM lr lM lJ fH gS ji j9 lY map_cons map_nil List.append List.replicate length_cons length_nil Nat.reduceAdd Nat.reduceSub nil_append cons_append set_cons_zero set_cons_succ map_some ↓reduceIte Bool.not_true Bool.not_false false_eq_true true_eq_false xor_false false_xor"
noncomputable def eC:DTS:=
 (aB (cL (ag gD (aa (ab 1) af)) (dOp (aJ false) (ag fR (aa (ab 0) (aa (ab 1) af))) (dC (.int 1)))))
noncomputable def mf:DTS:=
 (aj (aK (du (cx (dB (lA "tuple" (ab 1)))) (du (dB (dOp rLt (dCB aX (aa (ab 1) af)) (dC (.int 1)))) (dB (dOp rGt (dCB aX (aa (ab 1) af)) (dC (.int 3)))))) (aB (dC (.bool false))) aE)
 (aB (dCB lU (aa (fj [none,some 0] (fw (ab 1)) (ae 0) aZ (ag kO (aa (ab 1) (aa (ab 0) af)))) af))))
noncomputable def fo:DTS:=
 (aK (cx (dB (ag kQ (aa (ab 0) (aa (ab 1) af))))) jH aE)
noncomputable def iZ:DTS:=
 (aj (aq (i4 (aa (ag iq (aa (ab 0) (aa (ab 1) af))) af)) (ae 2))
 (aj (ik (dm (aa (ag aO (aa (ab 0) (aa (dC (.int 3)) af))) af)) (ae 3) (aj (aq (ag aO (aa (ab 0) (aa (dC (.int 6)) af))) (ae 4))
 (aj (aq (aT (aa (cz (dC (.int 1)) (ag aO (aa (ab 0) (aa (dC (.int 9)) af)))) (aa (dC (.int 0)) (aa (cz (dC (.int 1)) (ag aO (aa (ab 0) (aa (dC (.int 9)) af)))) af)))) (ae 5))
 (aj (aq (dOp ai (cU (aa (dOp ai (ab 2) (dC (.int 0))) (aa (ag aL (aa (ab 1) (aa (dOp ai (ab 2) (dC (.int 0))) af))) af))) (ia (ab 4) (dC (.int 2)))) (ae 6))
 (aj (aK (dB (dOp rGt (ab 4) (dC (.int 3)))) (aq (ag iq (aa (ab 0) (aa (ab 1) af))) (ae 6)) (aK (dB (dOp rGt (ab 4) (dC (.int 1)))) (aq (ag a7 (aa (ab 1) (aa (ab 6) (aa (ag aP (aa (dOp ai (ab 5) (dC (.int 0))) (aa (dOp ai (ab 5) (dC (.int 1))) (aa (dOp ai (ab 5) (dC (.int 2))) af)))) af)))) (ae 6)) aE))
 (dj (lp (ab 2) (ab 6))))))))
 (aB (dCB dG (aa (ab 2) af)))))
noncomputable def gF:DTS:=
 (aK (cx (dB (ag iR (aa (ab 0) (aa (ab 1) af))))) jH aE)
noncomputable def qZ:DTS:=
 (aj (aq (dC (.tuple [.int 0,.int 0,.int 1])) (ae 1))
 (aj (ik (a9 (ab 0)) (ae 2) (aq (ag aW (aa (ab 1) (aa (ab 2) af))) (ae 1)))
 (aB (ab 1))))
noncomputable def u4:DTS:=
 (aj (aq (aT (aa (dC (.int 0)) (aa (dC (.int 0)) (aa (dC (.int 1)) af)))) (ae 1))
 (aj (ik (a9 (ab 0)) (ae 2) (aq (ag aW (aa (ab 1) (aa (ab 2) af))) (ae 1)))
 (aB (ab 1))))
section
variable {U:Mu}{Qd:DK}{ds:List D}
theorem uA{d:Int}{x:N3}(ox:Ok x):rA d (dN x)=decide (sg d x.a x.b=1):=by
 show (isNum (dN x)&&decide (sg d x.a x.b=1))=_
 rw[Bb ox,Bool.true_and]
theorem wx{d:Int}{t:PyData}(h:isNum t=false):rA d t=false:=by
 unfold rA
 split
 ·rw[h,Bool.false_and]
 ·rfl
theorem vQ{t:PyData}(h:isNum t=true):∃x:N3,t=dN x/\Ok x:=by
 unfold isNum at h
 split at h
 ·rename_i a b c
  simp only[and_eq_true,decide_eq_true_eq,beq_iff_eq] at h
  exact⟨⟨a,b,c⟩,rfl,by show 0<c;omega,h.2⟩
 ·cases h
theorem jj(h:kO ds U Qd):eC ‹Qd› (ak ["d","thing"] ds) U:=by
 obtain⟨d,t,rfl,hd,ft,bt,q⟩:=h
 unfold eC
 walk_at "rn"
 refine⟨t,rfl,ft,?_⟩
 walk_at "rn"
 cases e:isNum t with
 |true=>
  walk_at "rn"
  obtain⟨x,rfl,ox⟩:=vQ e
  refine⟨d,x,rfl,hd,bt x rfl,?_⟩
  walk_at "rn"
  rw[uA ox] at q
  exact q
 |false=>
  walk_at "rn"
  rw[wx e] at q
  exact q
theorem GR{x y:N3}(e:dN x=dN y):x=y:=by
 simp only[dN,PyData.tuple.injEq,List.cons.injEq,PyData.int.injEq,and_true] at e
 exact N3.ext' e.1 e.2.1 e.2.2
theorem t5(h:kQ ds U Qd):mf ‹Qd› (ak ["d","thing"] ds) U:=by
 obtain⟨d,ks,rfl,hd,l1,l3,hk,q⟩:=h
 unfold mf
 have e0:isT "tuple" (.tuple (ks.map dN))=true:=rfl
 walk_at "rn"
 rw[e0]
 walk_at "rn"
 have c1:decide ((((ks.map dN).length:Nat):Int)<1)=false:=by rw[length_map];simp;omega
 have c2:decide ((3:Int)<(((ks.map dN).length:Nat):Int))=false:=by rw[length_map];simp;omega
 rw[c1,c2]
 simp only[false_eq_true,↓reduceIte]
 refine⟨by rw[length_map];omega,fun _=>some (.bool true),fun t ht Z _=>⟨⟨trivial,trivial⟩,?_⟩,?_⟩
 ·obtain⟨k,hk',rfl⟩:=List.mem_map.mp ht
  obtain⟨ok,bk,sk⟩:=hk k hk'
  refine⟨d,dN k,rfl,hd,wY,fun x e=>by rw[<- GR e];exact bk.mono ⋯,rfl,?_⟩
  rw[uA ok,sk];rfl
 ·rw[dF (fun _=>PyData.bool true),eQ (fun _=>true)]
  have:((ks.map dN).map fun _=>true).all id=true:=by rw[all_eq_true];intro x hx;obtain⟨_,_,rfl⟩:=List.mem_map.mp hx;rfl
  dsimp only
  rw[this]
  exact q
theorem lh(h:eO ds U Qd):fo ‹Qd› (ak ["d","thing"] ds) U:=by
 obtain⟨d,ks,rfl,hd,l1,l3,hk,q⟩:=h
 unfold fo
 walk_at "rn"
 refine⟨d,ks,rfl,hd,l1,l3,hk,?_⟩
 walk_at "rn"
 exact q
noncomputable def u9(a p:Addr)(d:Int)(x:N3)(U:Mu)(i:Nat)(ρ:Rho)(Z:Mu):Prop:=∃(ks:List N3) (r3 r4 r5 r6:Option D),ρ=[some (.m a),some (.v (.int d)),some (.m p),r3,r4,r5,r6]/\Bag Z a/\(∀b,b≠a->∀ds,U b=some ds->Z b=some ds)/\Z p=some ((x::ks).map dN)/\ks.length=i/\(∀k∈x::ks,Ok k/\Bd 60 k/\sg d k.a k.b=1)
theorem pU(h:kr ds U Qd):iZ ‹Qd› (ak ["_law_bag_here","_law_d","_law_found","_law_turn","_law_way","_law_part","_law_kind"] ds) U:=by
 obtain⟨a,d,rfl,hd,hb,q⟩:=h
 have s5:=eI hd.1 hd.2.1
 unfold iZ
 walk_at "rn"
 refine⟨a,d,rfl,hd,hb,fun x Y ox bx sx s1=>?_⟩
 walk_at "rn"
 intro p hp
 have hap:a≠p:=fun z=>by obtain⟨g,m,e,_⟩:=s1.1;rw[z,hp] at e;cases e
 have sb:Bag (aD Y p [dN x]) a:=by obtain⟨g,m,e,z⟩:=s1.1;exact⟨g,m,by rw[ao hap];exact e,z⟩
 rw[fK]
 walk_at "rn"
 refine⟨a,3,rfl,⋯,⋯,sb,fun n ac n0 n1 s2=>?_⟩
 walk_at "rn"
 have keep2:∀b,b≠a->∀ds,U b=some ds->ac b=some ds:=fun b hb' ds e=>by
  have e1:=(s1.2 b hb').trans e
  have:b≠p:=fun z=>by rw[z,hp] at e1;cases e1
  rw[s2.2 b hb',ao this];exact e1
 have hp2:ac p=some ([x].map dN):=by rw[s2.2 p (fun z=>hap z.symm)];exact av
 refine⟨⟨∅,∅⟩,u9 a p d x U,⟨[],_,_,_,_,rfl,s2.1,keep2,hp2,rfl,fun k hk=>by rw[List.mem_singleton.mp hk];exact⟨ox,bx.mono ⋯,sx⟩⟩,?_,?_⟩
 ·rintro i v ρ be hv ⟨ks,r3,r4,r5,r6,rfl,hb3,kp,hpk,hl,hok⟩
  obtain⟨rfl,hi⟩:=qv hv
  have hi2:i<2:=by omega
  walk_at "rn"
  refine⟨a,6,rfl,⋯,⋯,hb3,fun way bn w0 w1 s4=>?_⟩
  walk_at "rn"
  refine⟨a,9,rfl,⋯,⋯,s4.1,fun t dL t0 t1 s5'=>?_⟩
  walk_at "rn"
  refine⟨a,9,rfl,⋯,⋯,s5'.1,fun u jp u0 u1 s6=>?_⟩
  walk_at "rn"
  have s46:=s4.trans (s5'.trans s6)
  have hp6:jp p=some (dN x::ks.map dN):=by rw[s46.2 p (fun z=>hap z.symm)];exact hpk
  simp only[hp6]
  walk_at "rn"
  have nx:=fJ hd ox sx
  have ocx:=cM nx
  have bcx:=gR s5 nx bx
  refine⟨d,x,rfl,s5,nx,bx.mono ⋯,?_⟩
  walk_at "rn"
  obtain⟨m0,m1⟩:=fq way (show (0:Int)<2 by decide)
  obtain⟨_,e1,k1,rfl,ok1,bk1,sk1⟩:=pick (P:=fun v=>∃k,v=dN k/\Ok k/\Bd 46 k/\sg d k.a k.b=1) (xs:=[dN x,dN (aA d x)]) m0 (by exact m1) (by
   intro v hv
   simp only[mem_cons,not_mem_nil,or_false] at hv
   rcases hv with rfl|rfl
   ·exact⟨_,rfl,ox,bx.mono ⋯,sx⟩
   ·exact⟨_,rfl,ocx,bcx.mono ⋯,hZ hd ox sx⟩)
  rw[e1]
  refine⟨⋯,?_⟩
  walk_at "rn"
  have fin:∀(ld:Mu) (k:N3) (r3 r4 r5:Option D),Step a jp ld->Ok k->Bd 60 k->sg d k.a k.b=1->lp (ab 2) (ab 6) [some (.m a),some (.v (.int d)),some (.m p),r3,r4,r5,some (.v (dN k))] ld (fun _ Z=>u9 a p d x U (i+1) [some (.m a),some (.v (.int d)),some (.m p),r3,r4,r5,some (.v (dN k))] Z):=fun ld k r3 r4 r5 s7 ok bk sk=>by
   have s47:=s46.trans s7
   have hp7:ld p=some (dN x::ks.map dN):=by rw[s47.2 p (fun z=>hap z.symm)];exact hpk
   walk_at "rn"
   simp only[hp7]
   refine⟨by simp;omega,ks++[k],_,_,_,_,rfl,?_,fun b hb' ds e=>?_,?_,by simp[hl],fun z hz=>?_⟩
   ·obtain⟨g,m,e,z⟩:=s47.1;exact⟨g,m,by rw[ao hap];exact e,z⟩
   ·have h3:=kp b hb' ds e
    by_cases hbp:b=p
    ·subst hbp
     exfalso
     have e1:=(s1.2 b hb').trans e
     rw[hp] at e1;cases e1
    ·rw[ao hbp,s47.2 b hb'];exact h3
   ·rw[av];simp
   ·rcases List.mem_cons.mp hz with z'|z'
    ·exact hok z (by rw[z'];exact mem_cons_self)
    ·rcases List.mem_append.mp z' with z''|z''
     ·exact hok z (mem_cons_of_mem _ z'')
     ·rw[List.mem_singleton.mp z''];exact⟨ok,bk,sk⟩
  by_cases c1:3<way
  ·rw[if_pos (by simpa using c1)]
   refine⟨a,d,rfl,hd,s6.1,fun k ld ok bk sk s7=>?_⟩
   have:=fin ld k (some (.v (.int (0+(i:Int))))) (some (.v (.int way))) (some (.v (dN ⟨1+t,0,1+u⟩))) s7 ok (bk.mono ⋯) sk
   walk_at "rn"
   exact this
  ·rw[if_neg (by simpa using c1)]
   by_cases c2:1<way
   ·rw[if_pos (by simpa using c2)]
    have un:1+u≠0:=by omega
    have z4:∀v:Int,0<=v->v<9->Sz 4 (1+v):=fun v h1 h2=>Sz.of (by show (1+v).natAbs<16;omega)
    have op:=dn (1+t) 0 un
    have bp:Bd 4 (low (1+t) 0 (1+u)):=dy un (z4 t t0 t1) (Sz.of (by show (0:Int).natAbs<16;decide)) (z4 u u0 u1)
    have hp':sg d (low (1+t) 0 (1+u)).a (low (1+t) 0 (1+u)).b=1:=by
     rw[kE hd ∅]
     unfold sg
     rw[if_neg ∅,if_pos ∅]
    refine⟨_,_,_,rfl,un,(z4 u u0 u1).mono ⋯,d,k1,_,rfl,s5,ok1,op,bk1.mono ⋯,bp.mono ⋯,?_⟩
    exact fin jp _ _ _ _ (Step.refl s6.1) (aM ok1 op) ((u7 s5 ok1 op bk1 bp).mono ⋯) (by rw[zL hd ok1 op,sk1,hp'];rfl)
   ·rw[if_neg (by simpa using c2)]
    exact fin jp k1 _ _ _ (Step.refl s6.1) ok1 (bk1.mono ⋯) sk1
 ·rintro ρ be ⟨ks,r3,r4,r5,r6,rfl,hb3,kp,hpk,hl,hok⟩
  rw[ij] at hl
  walk_at "rn"
  simp only[hpk]
  exact q (x::ks) be ⟨by simp,by simp;omega,hok⟩ ⟨hb3,kp⟩
theorem mD(h:gu ds U Qd):gF ‹Qd› (ak ["thing","many"] ds) U:=by
 obtain⟨t,m,rfl,hs,ho,q⟩:=h
 unfold gF
 walk_at "ru"
 refine⟨t,m,rfl,hs,fun Z k=>?_⟩
 walk_at "ru"
 rw[ho]
 simp only[Bool.not_true,false_eq_true,↓reduceIte]
 exact q Z k
theorem zA{l:List N3}{i:Nat}{x:N3}(h:l[i]? = some x):jx (l.take (i+1))=plus (jx (l.take i)) x:=by
 unfold jx
 rw[take_succ,h]
 simp
theorem rK{l:List N3}(h:∀x∈l,Ok x):Ok (jx l):=by
 unfold jx
 have key:∀(l:List N3) (a:N3),Ok a->(∀x∈l,Ok x)->Ok (l.foldl plus a):=fun l=>by
  induction l with
  |nil=>exact fun a oa _=>oa
  |cons x r ih=>exact fun a oa h=>ih _ (aY oa (h x (by simp))) fun y hy=>h y (by simp[hy])
 exact key l _ fN h
theorem BP.ok{l:List N3}(h:BP l)(j:Nat):Ok (jx (l.take j)):=rK fun x hx=>(h.1 x (mem_of_mem_take hx)).1
theorem Jn{l:List N3}{i:Nat}{x:PyData}(h:(l.map dN)[i]? = some x):∃y,l[i]? = some y/\x=dN y:=by
 rw[getElem?_map] at h
 cases e:l[i]? with
 |none=>rw[e] at h;cases h
 |some y=>rw[e] at h;exact⟨y,rfl,by simpa using h.symm⟩
theorem qx(h:kg ds U Qd):qZ ‹Qd› (ak ["shapes","total","shape"] ds) U:=by
 obtain⟨l,rfl,hl,hs,q⟩:=h
 unfold qZ
 walk_at "ru"
 rw[fK]
 walk_at "ru"
 refine⟨fun i ρ Z=>∃r2,ρ=[some (.v (.list (l.map dN))),some (.v (dN (jx (l.take i)))),r2]/\Z=U,⟨_,rfl,rfl⟩,?_,?_⟩
 ·rintro i x ρ Z hx ⟨r2,rfl,rfl⟩
  obtain⟨y,hy,rfl⟩:=Jn hx
  have hm:=hs.1 y (mem_of_getElem? hy)
  walk_at "ru"
  refine⟨_,y,rfl,hs.ok i,hm.1,(hs.2 i).mono ⋯,hm.2.mono ⋯,?_⟩
  exact⟨_,by rw[zA hy],rfl⟩
 ·rintro ρ Z ⟨r2,rfl,rfl⟩
  walk_at "ru"
  rw[length_map,take_length]
  exact q
theorem vp(h:kg ds U Qd):u4 ‹Qd› (ak ["_law_some","_law_found","_law_one"] ds) U:=qx h
end
noncomputable def tZ(l:List N3):Prop:=(∀x∈l,Ok x/\Bd 4300 x)/\∀j,Bd 4300 (jx (l.take j))
theorem tZ.big{l:List N3}(h:tZ l):BP l:=⟨fun x hx=>⟨(h.1 x hx).1,(h.1 x hx).2.mono ⋯⟩,fun j=>(h.2 j).mono ⋯⟩
noncomputable def G(d:Int)(x:N3):Prop:=Ok x/\norm d x≠0/\Bd 4300 x
inductive SP(d:Int)(ks:List N3):Nat->PyData->N3->Prop
 |kind {n:Nat} (i:Int) (k:N3):0<=i->i<(ks.length:Nat)->ks[i.toNat]? = some k->SP d ks (n+1) (.tuple [.str "kind",.int i]) k
 |turn {n:Nat} {t:PyData} {x:N3}:SP d ks n t x->G d x->SP d ks (n+1) (.tuple [.str "turn",t]) (aA d x)
 |grid {n:Nat} {t:PyData} {x:N3} (u v:Int):1<=u->1<=v->u<=1000000->v<=1000000->SP d ks n t x->Ok x->Bd 4300 x->SP d ks (n+1) (.tuple [.str "grid",.int u,.int v,t]) (times d x (low v 0 u))
 |upon {n:Nat} (es:List (PyData×N3)):2<=es.length->es.length<=8->(∀e∈es,SP d ks n e.1 e.2)->tZ (es.map (·.2))->SP d ks (n+1) (.tuple [.str "upon",.tuple (es.map (·.1))]) (jx (es.map (·.2)))
 |beside {n:Nat} (es:List (PyData×N3)):2<=es.length->es.length<=8->(∀e∈es,SP d ks n e.1 e.2)->(∀e∈es,G d e.2)->tZ ((es.map (·.2)).map (aA d))->G d (jx ((es.map (·.2)).map (aA d))) ->
   SP d ks (n+1) (.tuple [.str "beside",.tuple (es.map (·.1))]) (aA d (jx ((es.map (·.2)).map (aA d))))
section
variable {d:Int}{ks:List N3}{n:Nat}{t:PyData}{x:N3}
theorem tw(hd:Sz 5 d){w:Nat}:∀(ys:List (Nat×N3)) (a:N3) (k:Nat),Ok a->Ht d k a->(∀y∈ys,Ok y.2/\1<=y.1/\Ht d (y.1*w-7) y.2)->26<=w->Ht d (k+(ys.map (·.1)).sum*w) ((ys.map (·.2)).foldl plus a)
 |[],a,k,_,h,_,_=>h.mono (by simp)
 |y::r,a,k,oa,h,g,hw=>by
  obtain⟨oy,c1,hy⟩:=g y (by simp)
  have h1:Ht d (k+y.1*w) (plus a y.2):=(CG hd oa oy h hy).mono (by have:7<=y.1*w:=le_trans (by omega:7<=1*w) (mul_le_mul_right w c1);omega)
  have:=tw hd r (plus a y.2) _ (aY oa oy) h1 (fun z hz=>g z (by simp[hz])) hw
  rw[map_cons,map_cons,sum_cons,List.foldl_cons,add_mul,<- Nat.add_assoc]
  exact this
theorem tN(h:ah d):∀(l:List N3) (a:N3),Ok a->(a=cy\/sg d a.a a.b=1)->(∀x∈l,Ok x/\sg d x.a x.b=1)->l≠[]->sg d (l.foldl plus a).a (l.foldl plus a).b=1
 |[],_,_,_,_,n=>absurd rfl n
 |[x],a,oa,ha,g,_=>n4 h oa (g x (by simp)).1 ha (g x (by simp)).2
 |x::y::r,a,oa,ha,g,_=>tN h (y::r) (plus a x) (aY oa (g x (by simp)).1) (.inr (n4 h oa (g x (by simp)).1 ha (g x (by simp)).2)) (fun z hz=>g z (by simp[hz])) (by simp)
theorem oZ{α β:Type}{R:α->β->Prop}:∀(l:List α),(∀e∈l,∃x,R e x)->∃ys:List (α×β),ys.map (·.1)=l/\∀y∈ys,R y.1 y.2
 |[],_=>⟨[],rfl,fun _ z=>nomatch z⟩
 |e::r,h=>by
  obtain⟨x,hx⟩:=h e (by simp)
  obtain⟨ys,h1,h2⟩:=oZ r fun e' he'=>h e' (by simp[he'])
  refine⟨(e,x)::ys,by rw[map_cons,h1],fun y hy=>?_⟩
  rcases List.mem_cons.mp hy with z|z
  ·rw[z];exact hx
  ·exact h2 y z
structure ly(d:Int)(w c:Nat)(x:N3):Prop where
 ok:Ok x
 pos:sg d x.a x.b=1
 ht:Ht d (c*w-7) x
theorem ly.g{w c:Nat}(h:ah d)(f:ly d w c x)(hc:c*w<=2140):G d x:=⟨f.ok,fJ h f.ok f.pos,(Aa (eI h.1 h.2.1) f.ok f.ht).mono ∅⟩
theorem ly.con{w c:Nat}(h:ah d)(f:ly d w c x):ly d w c (aA d x):=⟨cM (fJ h f.ok f.pos),hZ h f.ok f.pos,vq f.ok (fJ h f.ok f.pos) f.ht⟩
theorem uT(h:ah d){w:Nat}(hw:26<=w)(ys:List (Nat×N3))(hy:∀y∈ys,1<=y.1/\ly d w y.1 y.2)(hc:((ys.map (·.1)).sum+1)*w<=2140)(hne:ys≠[]) :
  tZ (ys.map (·.2))/\ly d w ((ys.map (·.1)).sum+1) (jx (ys.map (·.2))):=by
 have hd:Sz 5 d:=eI h.1 h.2.1
 have ht0:Ht d 1 cy:=xE fN ⟨Sz.of ⋯,Sz.of ⋯,Sz.of ⋯⟩
 have all:∀y∈ys,Ok y.2/\1<=y.1/\Ht d (y.1*w-7) y.2:=fun y z=>⟨(hy y z).2.ok,(hy y z).1,(hy y z).2.ht⟩
 have tot:=tw hd ys cy 1 fN ht0 all hw
 have e1:((ys.map (·.1)).sum+1)*w=(ys.map (·.1)).sum*w+w:=by rw[add_mul,Nat.one_mul]
 have oks:∀x∈ys.map (·.2),Ok x:=fun x hx=>by obtain⟨y,z,rfl⟩:=List.mem_map.mp hx;exact (hy y z).2.ok
 have jO:∀(l:List (Nat×N3)) y,y∈l->y.1<=(l.map (·.1)).sum:=fun l=>by
  induction l with
  |nil=>exact fun y z=>(nomatch z)
  |cons a r ih=>
    intro y z
    rw[map_cons,sum_cons]
    rcases List.mem_cons.mp z with q|q
    ·rw[q];omega
    ·have:=ih y q;omega
 have take_le:∀(l:List (Nat×N3)) (j:Nat),((l.take j).map (·.1)).sum<=(l.map (·.1)).sum:=fun l=>by
  induction l with
  |nil=>intro j;simp
  |cons a r ih=>intro j;cases j with
   |zero=>simp
   |succ j=>rw[take_succ_cons,map_cons,map_cons,sum_cons,sum_cons];have:=ih j;omega
 refine⟨⟨fun x hx=>?_,fun j=>?_⟩,rK oks,tN h _ _ fN (.inl rfl) (fun x hx=>?_) (by simpa using hne),tot.mono ∅⟩
 ·obtain⟨y,z,rfl⟩:=List.mem_map.mp hx
  have:=jO ys y z
  have m1:y.1*w<=(ys.map (·.1)).sum*w:=mul_le_mul_right w this
  exact⟨(hy y z).2.ok,(Aa hd (hy y z).2.ok (hy y z).2.ht).mono ∅⟩
 ·have t1:=tw hd (ys.take j) cy 1 fN ht0 (fun y z=>all y (mem_of_mem_take z)) hw
  have m1:((ys.take j).map (·.1)).sum*w<=(ys.map (·.1)).sum*w:=mul_le_mul_right w (take_le ys j)
  rw[<- map_take]
  exact (Aa hd (rK fun x hx=>oks x (by rw[map_take] at hx;exact mem_of_mem_take hx)) t1).mono ∅
 ·obtain⟨y,z,rfl⟩:=List.mem_map.mp hx
  exact⟨(hy y z).2.ok,(hy y z).2.pos⟩
theorem qY{α β γ:Type}{f:α->β}{g:α->γ}{zs:List α}(h:2<=(zs.map f).length):zs.map g≠[]:=fun q=>by
 have:zs=[]:=by simpa using q
 subst this
 simp at h
theorem Jr(h:ah d){w:Nat}(hw:26<=w)(hk:∀k∈ks,ly d w 1 k){dd c:Nat}(p:IsP (ks.length:Nat) dd c t):c*w<=2140->∀n,dd<=n->∃x,SP d ks n t x/\ly d w c x:=by
 have hd:Sz 5 d:=eI h.1 h.2.1
 have many:∀{n:Nat} (es:List (Nat×Nat×PyData)) (d0:Nat),2<=es.length->(∀e∈es,e.1<=d0)->(∀e∈es,IsP (ks.length:Nat) e.1 e.2.1 e.2.2)->(∀e∈es,e.2.1*w<=2140->∀n,e.1<=n->∃x,SP d ks n e.2.2 x/\ly d w e.2.1 x)->((es.map (·.2.1)).sum+1)*w<=2140->d0<=n ->
   ∃zs:List ((Nat×Nat×PyData)×N3),zs.map (·.1)=es/\∀z∈zs,SP d ks n z.1.2.2 z.2/\ly d w z.1.2.1 z.2/\1<=z.1.2.1:=fun {n} es d0 _ he hp ih hc hn=>by
  have jO:∀(l:List (Nat×Nat×PyData)) e,e∈l->e.2.1<=(l.map (·.2.1)).sum:=fun l=>by
   induction l with
   |nil=>exact fun y z=>(nomatch z)
   |cons a r ih=>
     intro y z
     rw[map_cons,sum_cons]
     rcases List.mem_cons.mp z with q|q
     ·rw[q];omega
     ·have:=ih y q;omega
  refine oZ (R:=fun e x=>SP d ks n e.2.2 x/\ly d w e.2.1 x/\1<=e.2.1) es fun e hee=>?_
  have m1:e.2.1*w<=((es.map (·.2.1)).sum+1)*w:=mul_le_mul_right w (by have:=jO es e hee;omega)
  obtain⟨x,h1,h2⟩:=ih e hee ∅ n (by have:=he e hee;omega)
  exact⟨x,h1,h2,(hp e hee).pos.2⟩
 induction p with
 |kind i i0 i1=>
  intro _ n hn
  obtain⟨n,rfl⟩:∃m,n=m+1:=⟨n-1,∅⟩
  have hi:i.toNat<ks.length:=by omega
  exact⟨ks[i.toNat],.kind i _ i0 i1 (by simp[hi]),hk _ (getElem_mem hi)⟩
 |@turn dd c t hh ih=>
  intro hc n hn
  obtain⟨n,rfl⟩:∃m,n=m+1:=⟨n-1,∅⟩
  have e1:(c+1)*w=c*w+w:=by rw[add_mul,Nat.one_mul]
  obtain⟨x,h1,h2⟩:=ih ∅ n ∅
  have f:=h2.con h
  exact⟨_,.turn h1 (h2.g h ∅),f.ok,f.pos,f.ht.mono ∅⟩
 |@grid dd c t u v hu hv hu' hv' hh ih=>
  intro hc n hn
  obtain⟨n,rfl⟩:∃m,n=m+1:=⟨n-1,∅⟩
  have e1:(c+1)*w=c*w+w:=by rw[add_mul,Nat.one_mul]
  obtain⟨x,h1,h2⟩:=ih ∅ n ∅
  have g:=h2.g h ∅
  have of:Ok (low v 0 u):=dn _ _ ∅
  have bf:Bd 20 (low v 0 u):=dy ∅ (Sz.of (by show v.natAbs<1048576;omega)) sz0 (Sz.of (by show u.natAbs<1048576;omega))
  have c1:7<=c*w:=le_trans (by omega:7<=1*w) (mul_le_mul_right w hh.pos.2)
  refine⟨_,.grid u v hu hv hu' hv' h1 g.1 g.2.2,aM g.1 of,?_,(BA hd g.1 of h2.ht (xE of bf)).mono ∅⟩
  rw[lN h g.1 of,h2.pos,kE h ∅]
  have:sg d v 0=1:=(cO h).mpr (.inl ⟨∅,∅,∅⟩)
  rw[this];rfl
 |@upon d0 es h2 h8 he hp ih=>
  intro hc n hn
  obtain⟨n,rfl⟩:∃m,n=m+1:=⟨n-1,∅⟩
  obtain⟨zs,rfl,hz⟩:=many es d0 h2 he hp ih hc (by omega:d0<=n)
  have es1:(zs.map fun z=>(z.1.2.1,z.2)).map (·.1)=(zs.map (·.1)).map (·.2.1):=by rw[map_map,map_map];rfl
  have es2:(zs.map fun z=>(z.1.2.1,z.2)).map (·.2)=zs.map (·.2):=by rw[map_map];rfl
  obtain⟨s1,s2⟩:=uT h hw (zs.map fun z=>(z.1.2.1,z.2)) (fun y hy=>by obtain⟨z,q,rfl⟩:=List.mem_map.mp hy;exact⟨(hz z q).2.2,(hz z q).2.1⟩) (by rw[es1];exact hc) (qY h2)
  rw[es1,es2] at s2
  rw[es2] at s1
  refine⟨_,?_,s2⟩
  have:=SP.upon (d:=d) (ks:=ks) (n:=n) (zs.map fun z=>(z.1.2.2,z.2)) (by simpa using h2) (by simpa using h8) (fun e q=>by obtain⟨z,qz,rfl⟩:=List.mem_map.mp q;exact (hz z qz).1) (by rw[map_map];exact s1)
  rw[map_map,map_map] at this
  rw[map_map]
  exact this
 |@beside d0 es h2 h8 he hp ih=>
  intro hc n hn
  obtain⟨n,rfl⟩:∃m,n=m+1:=⟨n-1,∅⟩
  obtain⟨zs,rfl,hz⟩:=many es d0 h2 he hp ih hc (by omega:d0<=n)
  have jO:∀(l:List ((Nat×Nat×PyData)×N3)) z,z∈l->z.1.2.1<=((l.map (·.1)).map (·.2.1)).sum:=fun l=>by
   induction l with
   |nil=>exact fun y z=>(nomatch z)
   |cons a r ih=>
     intro y z
     rw[map_cons,map_cons,sum_cons]
     rcases List.mem_cons.mp z with q|q
     ·rw[q];omega
     ·have:=ih y q;omega
  have es1:(zs.map fun z=>(z.1.2.1,aA d z.2)).map (·.1)=(zs.map (·.1)).map (·.2.1):=by rw[map_map,map_map];rfl
  have es2:(zs.map fun z=>(z.1.2.1,aA d z.2)).map (·.2)=(zs.map (·.2)).map (aA d):=by rw[map_map,map_map];rfl
  obtain⟨s1,s2⟩:=uT h hw (zs.map fun z=>(z.1.2.1,aA d z.2)) (fun y hy=>by obtain⟨z,q,rfl⟩:=List.mem_map.mp hy;exact⟨(hz z q).2.2,(hz z q).2.1.con h⟩) (by rw[es1];exact hc) (qY h2)
  rw[es1,es2] at s2
  rw[es2] at s1
  refine⟨_,?_,s2.con h⟩
  have em:(zs.map fun z=>(z.1.2.2,z.2)).map (·.2)=zs.map (·.2):=by rw[map_map];rfl
  have:=SP.beside (d:=d) (ks:=ks) (n:=n) (zs.map fun z=>(z.1.2.2,z.2)) (by simpa using h2) (by simpa using h8) (fun e q=>by obtain⟨z,qz,rfl⟩:=List.mem_map.mp q;exact (hz z qz).1)
   (fun e q=>by
    obtain⟨z,qz,rfl⟩:=List.mem_map.mp q
    have m1:z.1.2.1*w<=(((zs.map (·.1)).map (·.2.1)).sum+1)*w:=mul_le_mul_right w (by have:=jO zs z qz;omega)
    exact (hz z qz).2.1.g h ∅) (by rw[em];exact s1) (by rw[em];exact s2.g h hc)
  rw[em,map_map] at this
  rw[map_map]
  exact this
end
structure Bo(d:Int) where
 x:RN d
 y:RN d
 w:RN d
 h:RN d
section
variable {d:Int}
noncomputable def mv(f a b:RN d)(B:Bo d):Bo d:=⟨B.x*f+a,B.y*f+b,B.w*f,B.h*f⟩
noncomputable def qt(c:RN d)(B:Bo d):Bo d:=⟨c-(B.y+B.h),B.x,B.h,B.w⟩
noncomputable def swp(B:Bo d):Bo d:=⟨B.y,B.x,B.h,B.w⟩
noncomputable def az(q:Nat)(u v:Int):Int:=if q % 2=1 then v else u
noncomputable def bR(q:Nat)(u v:Int)(B:Bo d)(c r:Int):Bo d:=
 ⟨B.x+(c:RN d)*(B.w*inv (az q u v:RN d)),B.y+(r:RN d)*(B.h*inv (az q v u:RN d)),B.w*inv (az q u v:RN d),B.h*inv (az q v u:RN d)⟩
noncomputable def cb(x w:RN d):RN d->List (RN d)->List (Bo d)
 |_,[]=>[]
 |s,z::l=>⟨x,s,w,z*w⟩::cb x w (s+z*w) l
noncomputable def bG(x w:RN d):RN d->List (RN d)->List (Bo d)
 |_,[]=>[]
 |s,z::l=>⟨x,s-z*w,w,z*w⟩::bG x w (s-z*w) l
noncomputable def rise(b:Bool)(B:Bo d)(zs:List (RN d)):List (Bo d):=if b=true then bG B.x B.w (B.y+B.h) zs else cb B.x B.w B.y zs
noncomputable def fe(q:Nat)(up:Bool):Bool:=up==(q % 2==0)
noncomputable def bck(q:Nat)(up:Bool):Bool:=if up=true then q % 4==1 || q % 4==2 else q % 4==2 || q % 4==3
noncomputable def aG(q:Nat)(up:Bool)(B:Bo d)(zs:List (RN d)):List (Bo d):=if fe q up=true then rise (bck q up) B zs else (rise (bck q up) (swp B) zs).map swp
noncomputable def aR(l:List (RN d)):RN d:=l.foldl (· + ·) 0
noncomputable def aF(up:Bool)(es:List (PyData×RN d)):List (RN d):=es.map fun e=>if up=true then e.2 else inv e.2
noncomputable def whole(up:Bool)(es:List (PyData×RN d)):RN d:=if up=true then aR (aF up es) else inv (aR (aF up es))
noncomputable def wd(up:Bool):Str:=if up=true then "upon" else "beside"
inductive Go(d:Int)(ks:List N3):Nat->Nat->PyData->RN d->Bo d->Bo d->Int->Nat->Prop
 |kind {n q:Nat} {B:Bo d} (i:Int) (k:RN d):0<=i->i<(ks.length:Nat)->ks[i.toNat]? = some k.v->ps k->Go d ks (n+1) q (.tuple [.str "kind",.int i]) k B B i q
 |turn {n q q':Nat} {t:PyData} {x:RN d} {B T:Bo d} {i:Int}:SP d ks n t x.v->ps x->Bd 4300 x.v->Go d ks n (q+1) t x B T i q'->Go d ks (n+1) q (.tuple [.str "turn",t]) (inv x) B T i q'
 |grid {n q q':Nat} {t:PyData} {x:RN d} {B T:Bo d} {i:Int} (u v c r:Int):1<=u->1<=v->u<=1000000->v<=1000000->SP d ks n t x.v->ps x->Bd 4300 x.v->0<=c->c<az q u v->0<=r->r<az q v u ->
   Go d ks n q t x (bR q u v B c r) T i q'->Go d ks (n+1) q (.tuple [.str "grid",.int u,.int v,t]) (x*((v:RN d)*inv (u:RN d))) B T i q'
 |strip {n q q':Nat} {B T B':Bo d} {i:Int} (up:Bool) (es:List (PyData×RN d)) (j:Nat) (e:PyData×RN d):2<=es.length->es.length<=8->(∀e∈es,SP d ks n e.1 e.2.v/\ps e.2/\Bd 4300 e.2.v)->(∀z∈aF up es,Bd 4300 z.v) ->
   es[j]? = some e->(aG q up B (aF up es))[j]? = some B'->Go d ks n q e.1 e.2 B' T i q'->Go d ks (n+1) q (.tuple [.str (wd up),.tuple (es.map (·.1))]) (whole up es) B T i q'
theorem vn(f a b x w:RN d):∀(zs:List (RN d)) (s:RN d),cb (x*f+a) (w*f) (s*f+b) zs=(cb x w s zs).map (mv f a b)
 |[],_=>rfl
 |z::l,s=>by
  unfold cb
  rw[map_cons,<- vn f a b x w l (s+z*w)]
  have e1:s*f+b+z*(w*f)=(s+z*w)*f+b:=by grind
  have e2:z*(w*f)=z*w*f:=by grind
  rw[e1,e2];rfl
theorem uK(f a b x w:RN d):∀(zs:List (RN d)) (s:RN d),bG (x*f+a) (w*f) (s*f+b) zs=(bG x w s zs).map (mv f a b)
 |[],_=>rfl
 |z::l,s=>by
  unfold bG
  rw[map_cons,<- uK f a b x w l (s-z*w)]
  have e1:s*f+b-z*(w*f)=(s-z*w)*f+b:=by grind
  have e2:z*(w*f)=z*w*f:=by grind
  rw[e1,e2];rfl
theorem yb(bk:Bool)(f a b:RN d)(B:Bo d)(zs:List (RN d)):rise bk (mv f a b B) zs=(rise bk B zs).map (mv f a b):=by
 unfold rise
 cases bk
 ·exact vn f a b B.x B.w zs B.y
 ·have e:(mv f a b B).y+(mv f a b B).h=(B.y+B.h)*f+b:=by show B.y*f+b+B.h*f=_;grind
  show bG _ _ ((mv f a b B).y+(mv f a b B).h) zs=(bG B.x B.w (B.y+B.h) zs).map _
  rw[e];exact uK f a b B.x B.w zs _
theorem yr(q:Nat)(up:Bool)(f a b:RN d)(B:Bo d)(zs:List (RN d)):aG q up (mv f a b B) zs=(aG q up B zs).map (mv f a b):=by
 unfold aG
 cases fe q up
 ·show (rise _ (mv f b a (swp B)) zs).map swp=((rise _ (swp B) zs).map swp).map _
  rw[yb,map_map,map_map];rfl
 ·exact yb _ f a b B zs
theorem zR(q:Nat)(u v c r:Int)(f a b:RN d)(B:Bo d):bR q u v (mv f a b B) c r=mv f a b (bR q u v B c r):=by
 unfold bR mv
 congr 1<;>dsimp only<;>grind
theorem Em(x w:RN d)(c h:RN d):∀(zs:List (RN d)) (s:RN d),((cb x w s zs).map swp).map (qt c)=cb (c-(x+w)) w s zs
 |[],_=>rfl
 |z::l,s=>by
  unfold cb
  rw[map_cons,map_cons,Em x w c h l _];rfl
theorem Ez(x w:RN d)(c h:RN d):∀(zs:List (RN d)) (s:RN d),((bG x w s zs).map swp).map (qt c)=bG (c-(x+w)) w s zs
 |[],_=>rfl
 |z::l,s=>by
  unfold bG
  rw[map_cons,map_cons,Ez x w c h l _];rfl
theorem Et(x w:RN d)(c:RN d):∀(zs:List (RN d)) (s:RN d),(cb x w s zs).map (qt c)=(bG x w (c-s) zs).map swp
 |[],_=>rfl
 |z::l,s=>by
  unfold cb bG
  have e:c-(s+z*w)=c-s-z*w:=by grind
  rw[map_cons,map_cons,Et x w c l _,e]
  congr 1
  unfold qt swp
  rw[e]
theorem EB(x w:RN d)(c:RN d):∀(zs:List (RN d)) (s:RN d),(bG x w s zs).map (qt c)=(cb x w (c-s) zs).map swp
 |[],_=>rfl
 |z::l,s=>by
  unfold cb bG
  have e:c-(s-z*w)=c-s+z*w:=by grind
  have e2:c-(s-z*w+z*w)=c-s:=by grind
  rw[map_cons,map_cons,EB x w c l _,e]
  congr 1
  unfold qt swp
  rw[e2]
theorem GQ(q:Nat)(up:Bool):fe (q+1) up = !fe q up:=by
 unfold fe
 rcases (by omega:q % 2=0\/q % 2=1) with e|e
 ·rw[show (q+1) % 2=1 by omega,e];cases up<;>rfl
 ·rw[show (q+1) % 2=0 by omega,e];cases up<;>rfl
theorem JQ(q:Nat)(up:Bool):bck (q+1) up=(bck q up ^^ fe q up):=by
 unfold bck fe
 rcases (by omega:q % 4=0\/q % 4=1\/q % 4=2\/q % 4=3) with e|e|e|e
 ·rw[show (q+1) % 4=1 by omega,e,show q % 2=0 by omega];cases up<;>rfl
 ·rw[show (q+1) % 4=2 by omega,e,show q % 2=1 by omega];cases up<;>rfl
 ·rw[show (q+1) % 4=3 by omega,e,show q % 2=0 by omega];cases up<;>rfl
 ·rw[show (q+1) % 4=0 by omega,e,show q % 2=1 by omega];cases up<;>rfl
theorem yW(q:Nat)(up:Bool)(c:RN d)(B:Bo d)(zs:List (RN d)):aG (q+1) up (qt c B) zs=(aG q up B zs).map (qt c):=by
 unfold aG
 rw[GQ,JQ]
 cases fe q up
 ·show rise (bck q up ^^ false) (qt c B) zs=((rise (bck q up) (swp B) zs).map swp).map (qt c)
  rw[xor_false]
  unfold rise
  cases bck q up
  ·exact (Em B.y B.h c B.x zs B.x).symm
  ·exact (Ez B.y B.h c B.x zs (B.x+B.w)).symm
 ·show (rise (bck q up ^^ true) (swp (qt c B)) zs).map swp=(rise (bck q up) B zs).map (qt c)
  unfold rise
  cases bck q up
  ·show (bG B.x B.w (c-(B.y+B.h)+B.h) zs).map swp=(cb B.x B.w B.y zs).map (qt c)
   rw[Et,show c-(B.y+B.h)+B.h=c-B.y by grind]
  ·show (cb B.x B.w (c-(B.y+B.h)) zs).map swp=(bG B.x B.w (B.y+B.h) zs).map (qt c)
   rw[EB]
theorem j4(q:Nat)(u v:Int):az (q+1) u v=az q v u:=by unfold az;split<;>split<;>first|rfl|omega
theorem AJ(hd:ah d){q:Nat}{u v r:Int}(a:RN d)(B:Bo d)(c:Int)(h:0<az q v u):bR (q+1) u v (qt a B) (az q v u-1-r) c=qt a (bR q u v B c r):=by
 have hv:=inv_mul hd (aN (d:=d) (n:=az q v u) h)
 unfold bR
 rw[j4,j4,gU,gU,nE]
 unfold qt
 congr 1
 dsimp only
 generalize inv ((az q v u:Int):RN d)=iv at *
 generalize ((az q v u:Int):RN d)=v' at *
 grind
end
section
variable {d:Int}
structure In(T:Bo d)(a b:RN d):Prop where
 x0:nn (a-T.x)
 x1:ps (T.x+T.w-a)
 y0:nn (b-T.y)
 y1:ps (T.y+T.h-b)
theorem In.swp{T:Bo d}{a b:RN d}(h:In T a b):In (swp T) b a:=⟨h.y0,h.y1,h.x0,h.x1⟩
theorem rq{T:Bo d}{a b:RN d}:In (swp T) b a↔In T a b:=⟨fun h=>h.swp,fun h=>h.swp⟩
structure Rat(q:Nat)(x:RN d)(B:Bo d):Prop where
 w:ps B.w
 h:ps B.h
 r0:q % 2=0->B.h=x*B.w
 r1:q % 2=1->B.w=x*B.h
theorem foldl_add:∀(l:List (RN d)) (a:RN d),l.foldl (· + ·) a=a+aR l
 |[],a=>by unfold aR;simp only[List.foldl_nil];grind
 |z::l,a=>by
  unfold aR
  rw[List.foldl_cons,List.foldl_cons,foldl_add l (a+z),foldl_add l (0+z)]
  grind
theorem dW:aR ([]:List (RN d))=0:=rfl
theorem aV(z:RN d)(l:List (RN d)):aR (z::l)=z+aR l:=by
 unfold aR;rw[List.foldl_cons,foldl_add];unfold aR;grind
theorem nQ(hd:ah d):∀{l:List (RN d)},(∀z∈l,ps z)->nn (aR l)
 |[],_=>wj
 |z::l,h=>by rw[aV];exact jR hd (fh hd (h z (by simp))) (nQ hd fun y hy=>h y (by simp[hy]))
theorem rQ(hd:ah d){l:List (RN d)}(h:∀z∈l,ps z)(hn:l≠[]):ps (aR l):=by
 cases l with
 |nil=>exact absurd rfl hn
 |cons z l=>rw[aV];exact qC hd (h z (by simp)) (nQ hd fun y hy=>h y (by simp[hy]))
theorem qq{x w:RN d}:∀{zs:List (RN d)} {s:RN d} {j:Nat} {B:Bo d},(cb x w s zs)[j]? = some B->∃z,zs[j]? = some z/\B=⟨x,s+aR (zs.take j)*w,w,z*w⟩
 |[],_,_,_,h=>by simp[cb] at h
 |z::l,s,0,B,h=>by
  simp only[cb,getElem?_cons_zero,Option.some.injEq] at h
  refine⟨z,rfl,?_⟩
  rw[<- h,List.take_zero,dW]
  congr 1;grind
 |z::l,s,j+1,B,h=>by
  simp only[cb,getElem?_cons_succ] at h
  obtain⟨z',h1,h2⟩:=qq h
  refine⟨z',by simpa using h1,?_⟩
  rw[h2,take_succ_cons,aV]
  congr 1;grind
theorem qs{x w:RN d}:∀{zs:List (RN d)} {s:RN d} {j:Nat} {B:Bo d},(bG x w s zs)[j]? = some B->∃z,zs[j]? = some z/\B=⟨x,s-aR (zs.take j)*w-z*w,w,z*w⟩
 |[],_,_,_,h=>by simp[bG] at h
 |z::l,s,0,B,h=>by
  simp only[bG,getElem?_cons_zero,Option.some.injEq] at h
  refine⟨z,rfl,?_⟩
  rw[<- h,List.take_zero,dW]
  congr 1;grind
 |z::l,s,j+1,B,h=>by
  simp only[bG,getElem?_cons_succ] at h
  obtain⟨z',h1,h2⟩:=qs h
  refine⟨z',by simpa using h1,?_⟩
  rw[h2,take_succ_cons,aV]
  congr 1;grind
theorem qA{x w:RN d}:∀{zs:List (RN d)} {s:RN d},(cb x w s zs).length=zs.length
 |[],_=>rfl
 |_::l,_=>by simp only[cb,length_cons,qA]
theorem qL{x w:RN d}:∀{zs:List (RN d)} {s:RN d},(bG x w s zs).length=zs.length
 |[],_=>rfl
 |_::l,_=>by simp only[bG,length_cons,qL]
theorem fg{bk:Bool}{B:Bo d}{zs:List (RN d)}:(rise bk B zs).length=zs.length:=by
 unfold rise;split
 ·exact qL
 ·exact qA
theorem gC{q:Nat}{up:Bool}{B:Bo d}{zs:List (RN d)}:(aG q up B zs).length=zs.length:=by
 unfold aG;split
 ·exact fg
 ·rw[length_map];exact fg
theorem qu:∀{zs:List (RN d)} {j:Nat} {z:RN d},zs[j]? = some z->aR zs=aR (zs.take j)+z+aR (zs.drop (j+1))
 |[],_,_,h=>by simp at h
 |y::l,0,z,h=>by
  simp only[getElem?_cons_zero,Option.some.injEq] at h
  rw[List.take_zero,dW,aV,h]
  show z+aR l=0+z+aR l
  grind
 |y::l,j+1,z,h=>by
  simp only[getElem?_cons_succ] at h
  rw[take_succ_cons,aV,aV,qu h,List.drop_succ_cons]
  grind
theorem en{bk:Bool}{B:Bo d}{zs:List (RN d)}{j:Nat}{C:Bo d}(h:(rise bk B zs)[j]? = some C):∃z,zs[j]? = some z/\C=⟨B.x,if bk=true then B.y+B.h-aR (zs.take j)*B.w-z*B.w else B.y+aR (zs.take j)*B.w,B.w,z*B.w⟩:=by
 unfold rise at h
 cases bk
 ·exact qq h
 ·exact qs h
theorem xq(hd:ah d){bk:Bool}{B C:Bo d}{zs:List (RN d)}{j:Nat}(h:(rise bk B zs)[j]? = some C)(hw:ps B.w)(hz:∀z∈zs,ps z)(ht:B.h=aR zs*B.w){a b:RN d}(g:In C a b):In B a b:=by
 obtain⟨z,h1,rfl⟩:=en h
 have sp:=qu h1
 have s1:nn (aR (zs.take j)*B.w):=dQ hd (nQ hd fun y hy=>hz y (mem_of_mem_take hy)) (fh hd hw)
 have s2:nn (aR (zs.drop (j+1))*B.w):=dQ hd (nQ hd fun y hy=>hz y (List.mem_of_mem_drop hy)) (fh hd hw)
 obtain⟨g1,g2,g3,g4⟩:=g
 refine⟨g1,g2,?_,?_⟩
 ·cases bk
  ·have:=jR hd g3 s1
   simp only[false_eq_true,↓reduceIte] at this
   rwa [show b-(B.y+aR (zs.take j)*B.w)+aR (zs.take j)*B.w=b-B.y by grind] at this
  ·have:=jR hd g3 s2
   simp only[↓reduceIte] at this
   rwa [show b-(B.y+B.h-aR (zs.take j)*B.w-z*B.w)+aR (zs.drop (j+1))*B.w=b-B.y by rw[ht,sp];grind] at this
 ·cases bk
  ·have:=qC hd g4 s2
   simp only[false_eq_true,↓reduceIte] at this
   rwa [show B.y+aR (zs.take j)*B.w+z*B.w-b+aR (zs.drop (j+1))*B.w=B.y+B.h-b by rw[ht,sp];grind] at this
  ·have:=qC hd g4 s1
   simp only[↓reduceIte] at this
   rwa [show B.y+B.h-aR (zs.take j)*B.w-z*B.w+z*B.w-b+aR (zs.take j)*B.w=B.y+B.h-b by grind] at this
theorem xV:∀{zs:List (RN d)} {i j:Nat} {z:RN d},i<j->j<=zs.length->zs[i]? = some z->∃m,(∀y∈m,y∈zs)/\aR (zs.take j)=aR (zs.take i)+z+aR m
 |[],_,_,_,_,_,h=>by simp at h
 |_::_,_,0,_,h,_,_=>absurd h (Nat.not_lt_zero _)
 |y::l,0,j+1,z,_,hj,h=>by
  simp only[getElem?_cons_zero,Option.some.injEq] at h
  refine⟨l.take j,fun y' hy=>by simp[mem_of_mem_take hy],?_⟩
  rw[take_succ_cons,aV,List.take_zero,dW,h];grind
 |y::l,i+1,j+1,z,lt,hj,h=>by
  simp only[getElem?_cons_succ] at h
  obtain⟨m,h1,h2⟩:=xV (show i<j by omega) (by simpa using hj) h
  refine⟨m,fun y' hy=>by simp[h1 y' hy],?_⟩
  rw[take_succ_cons,take_succ_cons,aV,aV,h2];grind
theorem oX(hd:ah d){bk:Bool}{B C C':Bo d}{zs:List (RN d)}{i j:Nat}(hj:(rise bk B zs)[j]? = some C)(hi:(rise bk B zs)[i]? = some C')(lt:i<j)(hw:ps B.w)(hz:∀z∈zs,ps z){a b:RN d}(g:In C a b):¬ In C' a b:=fun g'=>by
 have hl:j<zs.length:=by rw[<- fg (bk:=bk) (B:=B)];exact (List.getElem?_eq_some_iff.mp hj).1
 obtain⟨z,h1,rfl⟩:=en hj
 obtain⟨z',h2,rfl⟩:=en hi
 obtain⟨m,m1,m2⟩:=xV lt ∅ h2
 have s1:nn (aR m*B.w):=dQ hd (nQ hd fun y hy=>hz y (m1 y hy)) (fh hd hw)
 cases bk
 ·have g1:=g.y0
  have g2:=g'.y1
  simp only[false_eq_true,↓reduceIte] at g1 g2
  exact ur g2 (jR hd g1 s1) (by rw[m2];grind)
 ·have g1:=g.y1
  have g2:=g'.y0
  simp only[↓reduceIte] at g1 g2
  exact ur g1 (jR hd g2 s1) (by rw[m2];grind)
theorem fz(hd:ah d){up:Bool}{es:List (PyData×RN d)}(h:∀e∈es,ps e.2):∀z∈aF up es,ps z:=fun z hz=>by
 obtain⟨e,he,rfl⟩:=List.mem_map.mp hz
 split
 ·exact h e he
 ·exact cA hd (h e he)
theorem wN(hd:ah d){q:Nat}{up:Bool}{es:List (PyData×RN d)}{B:Bo d}(r:Rat q (whole up es) B)(hs:ps (aR (aF up es))):(fe q up=true->B.h=aR (aF up es)*B.w)/\(fe q up=false->B.w=aR (aF up es)*B.h):=by
 have e1:=inv_mul hd hs
 have r0:=r.r0
 have r1:=r.r1
 unfold fe whole at *
 rcases (by omega:q % 2=0\/q % 2=1) with e|e
 ·have k:=r0 e
  rw[e]
  cases up
  ·refine⟨fun z=>(nomatch z),fun _=>?_⟩
   simp only[false_eq_true,↓reduceIte] at k
   rw[k];generalize inv (aR (aF false es))=iv at *;grind
  ·exact⟨fun _=>k,fun z=>(nomatch z)⟩
 ·have k:=r1 e
  rw[e]
  cases up
  ·refine⟨fun _=>?_,fun z=>(nomatch z)⟩
   simp only[false_eq_true,↓reduceIte] at k
   rw[k];generalize inv (aR (aF false es))=iv at *;grind
  ·exact⟨fun z=>(nomatch z),fun _=>k⟩
theorem yL(hd:ah d){q:Nat}{up:Bool}{es:List (PyData×RN d)}{B C:Bo d}{j:Nat}(r:Rat q (whole up es) B)(hp:∀e∈es,ps e.2)(hn:es≠[])(h:(aG q up B (aF up es))[j]? = some C){a b:RN d}(g:In C a b):In B a b:=by
 have hz:=fz hd (up:=up) hp
 obtain⟨t1,t2⟩:=wN hd r (rQ hd hz (by unfold aF;simpa using hn))
 unfold aG at h
 cases hv:fe q up
 ·rw[hv,if_neg ⋯,getElem?_map] at h
  obtain⟨C',h1,rfl⟩:=Option.map_eq_some_iff.mp h
  exact rq.mp (xq hd h1 r.h hz (t2 hv) (rq.mp g))
 ·rw[hv,if_pos rfl] at h
  exact xq hd h r.w hz (t1 hv) g
theorem gB(hd:ah d){q:Nat}{up:Bool}{es:List (PyData×RN d)}{B C C':Bo d}{i j:Nat}(hw:ps B.w)(hh:ps B.h)(hp:∀e∈es,ps e.2)(hj:(aG q up B (aF up es))[j]? = some C)(hi:(aG q up B (aF up es))[i]? = some C')(lt:i<j){a b:RN d}(g:In C a b):¬ In C' a b:=by
 have hz:=fz hd (up:=up) hp
 unfold aG at hj hi
 cases hv:fe q up
 ·rw[hv,if_neg ⋯,getElem?_map] at hj hi
  obtain⟨D,h1,rfl⟩:=Option.map_eq_some_iff.mp hj
  obtain⟨D',h2,rfl⟩:=Option.map_eq_some_iff.mp hi
  exact fun g'=>oX hd h1 h2 lt hh hz (rq.mp g) (rq.mp g')
 ·rw[hv,if_pos rfl] at hj hi
  exact oX hd hj hi lt hw hz g
theorem fY(hd:ah d){q:Nat}{up:Bool}{es:List (PyData×RN d)}{B C:Bo d}{j:Nat}{e:PyData×RN d}(hw:ps B.w)(hh:ps B.h)(hp:∀e∈es,ps e.2)(he:es[j]? = some e)(h:(aG q up B (aF up es))[j]? = some C):Rat q e.2 C:=by
 have hz:=fz hd (up:=up) hp
 have pe:=hp e (mem_of_getElem? he)
 have ie:=inv_mul hd pe
 have pi:=cA hd pe
 have sz:(aF up es)[j]? = some (if up=true then e.2 else inv e.2):=by unfold aF;rw[getElem?_map,he];rfl
 unfold aG at h
 cases hv:fe q up
 ·rw[hv,if_neg ⋯,getElem?_map] at h
  obtain⟨C',h1,rfl⟩:=Option.map_eq_some_iff.mp h
  obtain⟨z,h2,rfl⟩:=en h1
  rw[sz] at h2;cases h2
  unfold fe at hv
  rcases (by omega:q % 2=0\/q % 2=1) with e|e
  ·rw[e] at hv
   cases up
   ·exact⟨bL hd pi hh,hh,fun _=>by show B.h=_*(inv _*B.h);grind,fun z=>by omega⟩
   ·exact nomatch hv
  ·rw[e] at hv
   cases up
   ·exact nomatch hv
   ·exact⟨bL hd pe hh,hh,fun z=>by omega,fun _=>rfl⟩
 ·rw[hv,if_pos rfl] at h
  obtain⟨z,h2,rfl⟩:=en h
  rw[sz] at h2;cases h2
  unfold fe at hv
  rcases (by omega:q % 2=0\/q % 2=1) with e|e
  ·rw[e] at hv
   cases up
   ·exact nomatch hv
   ·exact⟨hw,bL hd pe hw,fun _=>rfl,fun z=>by omega⟩
  ·rw[e] at hv
   cases up
   ·exact⟨hw,bL hd pi hw,fun z=>by omega,fun _=>by show B.w=_*(inv _*B.w);grind⟩
   ·exact nomatch hv
theorem kP(hd:ah d){q:Nat}{x:RN d}{B:Bo d}(hx:ps x)(r:Rat q (inv x) B):Rat (q+1) x B:=by
 have ix:=inv_mul hd hx
 refine⟨r.w,r.h,fun z=>?_,fun z=>?_⟩
 ·have:=r.r1 ∅;generalize inv x=iv at *;grind
 ·have:=r.r0 ∅;generalize inv x=iv at *;grind
theorem bD{q:Nat}{u v:Int}(hu:1<=u)(hv:1<=v):0<az q u v:=by unfold az;split<;>omega
theorem gZ(hd:ah d){q:Nat}{x:RN d}{B:Bo d}{u v:Int}(c r':Int)(hu:1<=u)(hv:1<=v)(r:Rat q (x*((v:RN d)*inv (u:RN d))) B):Rat q x (bR q u v B c r'):=by
 have p1:=aN (d:=d) (n:=u) ∅
 have p2:=aN (d:=d) (n:=v) ∅
 have i1:=inv_mul hd p1
 have i2:=inv_mul hd p2
 have p3:=cA hd (aN (d:=d) (bD (q:=q) hu hv))
 have p4:=cA hd (aN (d:=d) (bD (q:=q) hv hu))
 refine⟨bL hd r.w p3,bL hd r.h p4,fun z=>?_,fun z=>?_⟩
 ·have:=r.r0 z
  unfold bR
  dsimp only
  rw[show az q u v=u by unfold az;rw[if_neg ∅],show az q v u=v by unfold az;rw[if_neg ∅],this]
  generalize inv (u:RN d)=iu at *
  generalize inv (v:RN d)=iv at *
  generalize (u:RN d)=u' at *
  generalize (v:RN d)=v' at *
  grind
 ·have:=r.r1 z
  unfold bR
  dsimp only
  rw[show az q u v=v by unfold az;rw[if_pos z],show az q v u=u by unfold az;rw[if_pos z],this]
  generalize inv (u:RN d)=iu at *
  generalize inv (v:RN d)=iv at *
  generalize (u:RN d)=u' at *
  generalize (v:RN d)=v' at *
  grind
theorem cell_in(hd:ah d){q:Nat}{B:Bo d}{u v c r:Int}(hu:1<=u)(hv:1<=v)(hw:ps B.w)(hh:ps B.h)(c0:0<=c)(c1:c<az q u v)(r0:0<=r)(r1:r<az q v u){a b:RN d}(g:In (bR q u v B c r) a b):In B a b:=by
 obtain⟨g1,g2,g3,g4⟩:=g
 unfold bR at g1 g2 g3 g4
 dsimp only at g1 g2 g3 g4
 have p1:=aN (d:=d) (bD (q:=q) hu hv)
 have p2:=aN (d:=d) (bD (q:=q) hv hu)
 have i1:=inv_mul hd p1
 have i2:=inv_mul hd p2
 have q1:=fh hd (bL hd hw (cA hd p1))
 have q2:=fh hd (bL hd hh (cA hd p2))
 have k1:=dQ hd (kX hd c0) q1
 have k2:=dQ hd (kX hd (show 0<=az q u v-1-c by omega)) q1
 have k3:=dQ hd (kX hd r0) q2
 have k4:=dQ hd (kX hd (show 0<=az q v u-1-r by omega)) q2
 rw[gU,gU,nE] at k2 k4
 generalize inv (az q u v:RN d)=iu at *
 generalize inv (az q v u:RN d)=iv at *
 generalize (az q u v:RN d)=u' at *
 generalize (az q v u:RN d)=v' at *
 generalize (c:RN d)=c' at *
 generalize (r:RN d)=r' at *
 have z1:=jR hd g1 k1
 have z2:=qC hd g2 k2
 have z3:=jR hd g3 k3
 have z4:=qC hd g4 k4
 refine⟨?_,?_,?_,?_⟩
 ·rwa [show a-(B.x+c'*(B.w*iu))+c'*(B.w*iu)=a-B.x by grind] at z1
 ·rwa [show B.x+c'*(B.w*iu)+B.w*iu-a+(u'-1-c')*(B.w*iu)=B.x+B.w-a by grind] at z2
 ·rwa [show b-(B.y+r'*(B.h*iv))+r'*(B.h*iv)=b-B.y by grind] at z3
 ·rwa [show B.y+r'*(B.h*iv)+B.h*iv-b+(v'-1-r')*(B.h*iv)=B.y+B.h-b by grind] at z4
theorem Go.sub(hd:ah d){ks:List N3}{n q q':Nat}{t:PyData}{x:RN d}{B T:Bo d}{i:Int}(g:Go d ks n q t x B T i q'){a b:RN d}:Rat q x B->In T a b->In B a b:=by
 induction g with
 |kind i k h0 h1 h2 h3=>exact fun _ h=>h
 |turn h1 h2 h3 _ ih=>exact fun r h=>ih (kP hd h2 r) h
 |@grid n q q' t x B T i u v c r h1 h2 h3 h4 h5 h6 h7 h8 h9 h10 h11 _ ih=>
  exact fun rr h=>cell_in hd h1 h2 rr.w rr.h h8 h9 h10 h11 (ih (gZ hd c r h1 h2 rr) h)
 |@strip n q q' B T B' i up es j e h1 h2 h3 h4 h5 h6 _ ih=>
  intro r h
  have hp:∀e∈es,ps e.2:=fun e he=>(h3 e he).2.1
  exact yL hd r hp (fun z=>by rw[z] at h1;simp at h1) h6 (ih (fY hd r.w r.h hp h5 h6) h)
theorem Go.tile(hd:ah d){ks:List N3}{n q q':Nat}{t:PyData}{x:RN d}{B T:Bo d}{i:Int}(g:Go d ks n q t x B T i q'):Rat q x B->ps T.w/\ps T.h:=by
 induction g with
 |kind i k h0 h1 h2 h3=>exact fun r=>⟨r.w,r.h⟩
 |turn h1 h2 h3 _ ih=>exact fun r=>ih (kP hd h2 r)
 |@grid n q q' t x B T i u v c r h1 h2 h3 h4 h5 h6 h7 h8 h9 h10 h11 _ ih=>exact fun rr=>ih (gZ hd c r h1 h2 rr)
 |@strip n q q' B T B' i up es j e h1 h2 h3 h4 h5 h6 _ ih=>exact fun r=>ih (fY hd r.w r.h (fun e he=>(h3 e he).2.1) h5 h6)
end
noncomputable def b9(d:Int)(x:N3)(w:Int):Prop:=0<=sg d (x.a-w*x.c) x.b/\sg d (x.a-(w+1)*x.c) x.b<0
section
variable {d:Int}
theorem Au(hd:ah d)(x:RN d)(n:Int):sg d (x-(n:RN d)).v.a (x-(n:RN d)).v.b=sg d (x.v.a-n*x.v.c) x.v.b:=by
 have e:=uO hd x.ok (bg n)
 refine e.trans ?_
 unfold CD oN
 congr 1<;>dsimp only<;>omega
theorem mx(hd:ah d){x:RN d}{c:Int}(h1:nn (x-(c:RN d)))(h2:ps ((c:RN d)+1-x)):b9 d x.v c:=by
 constructor
 ·rw[<- Au hd]
  rcases uI hd h1 with e|e
  ·rw[e];show 0<=sg d (0:Int) 0;rw[iV.mpr ⟨rfl,rfl⟩];decide
  ·rw[show sg d _ _=1 from e];decide
 ·rw[<- Au hd,tW,nE,show x-((c:RN d)+1) = -((c:RN d)+1-x) by grind,FZ hd,show sg d _ _=1 from h2];decide
theorem qP(hd:ah d){a X W c':RN d}(hw:ps W)(g1:nn (a-(X+c'*W)))(g2:ps (X+c'*W+W-a)):nn ((a-X)*inv W-c')/\ps (c'+1-(a-X)*inv W):=by
 have i:=inv_mul hd hw
 have p:=cA hd hw
 have k1:=dQ hd g1 (fh hd p)
 have k2:=bL hd g2 p
 generalize inv W=iw at *
 refine⟨?_,?_⟩
 ·rwa [show (a-(X+c'*W))*iw=(a-X)*iw-c' by grind] at k1
 ·rwa [show (X+c'*W+W-a)*iw=c'+1-(a-X)*iw by grind] at k2
theorem jk(hd:ah d){q:Nat}{B:Bo d}{u v c r:Int}(hu:1<=u)(hv:1<=v)(hw:ps B.w)(hh:ps B.h){a b:RN d}(g:In (bR q u v B c r) a b) :
  b9 d ((a-B.x)*inv (B.w*inv (az q u v:RN d))).v c/\b9 d ((b-B.y)*inv (B.h*inv (az q v u:RN d))).v r:=by
 have p1:=bL hd hw (cA hd (aN (d:=d) (bD (q:=q) hu hv)))
 have p2:=bL hd hh (cA hd (aN (d:=d) (bD (q:=q) hv hu)))
 obtain⟨k1,k2⟩:=qP hd p1 g.x0 g.x1
 obtain⟨k3,k4⟩:=qP hd p2 g.y0 g.y1
 exact⟨mx hd k1 k2,mx hd k3 k4⟩
structure Bw(S P:Nat)(B:Bo d):Prop where
 x:Bd P B.x.v
 y:Bd P B.y.v
 w:Bd S B.w.v
 h:Bd S B.h.v
theorem Bw.mono{S P S' P':Nat}{B:Bo d}(h:Bw S P B)(l1:S<=S')(l2:P<=P'):Bw S' P' B:=⟨h.x.mono l2,h.y.mono l2,h.w.mono l1,h.h.mono l1⟩
theorem Bw.swp{S P:Nat}{B:Bo d}(h:Bw S P B):Bw S P (swp B):=⟨h.y,h.x,h.h,h.w⟩
theorem bdA{n m:Nat}{a b:RN d}(h:Bd n a.v)(g:Bd m b.v):Bd (n+m+1) (a+b).v:=xj a.ok b.ok h g
theorem bdS{n m:Nat}{a b:RN d}(h:Bd n a.v)(g:Bd m b.v):Bd (n+m+1) (a-b).v:=Dk a.ok b.ok h g
theorem bdM{n m:Nat}{a b:RN d}(hd:ah d)(h:Bd n a.v)(g:Bd m b.v):Bd (n+m+6) (a*b).v:=u7 (eI hd.1 hd.2.1) a.ok b.ok h g
theorem bdI{n:Nat}{a:RN d}(hd:ah d)(p:ps a)(h:Bd n a.v):Bd (2*n+6) (inv a).v:=by rw[iE hd p];exact gR (eI hd.1 hd.2.1) (f7 hd p) h
theorem bdC{n:Int}(h0:0<=n)(h1:n<=1000000):Bd 20 ((n:Int):RN d).v:=⟨Sz.of (by show n.natAbs<1048576;omega),Sz.of (by show (0:Int).natAbs<1048576;decide),Sz.of (by show (1:Int).natAbs<1048576;decide)⟩
theorem mY{q:Nat}{u v:Int}(hu:u<=1000000)(hv:v<=1000000):az q u v<=1000000:=by unfold az;split<;>omega
theorem xH(hd:ah d){S P q:Nat}{B:Bo d}{u v c r:Int}(hu:1<=u)(hv:1<=v)(hu':u<=1000000)(hv':v<=1000000)(c0:0<=c)(c1:c<az q u v)(r0:0<=r)(r1:r<az q v u)(h:Bw S P B):Bw (S+60) (P+S+100) (bR q u v B c r):=by
 have l1:=mY (q:=q) hu' hv'
 have l2:=mY (q:=q) hv' hu'
 have w1:=bD (q:=q) hu hv
 have w2:=bD (q:=q) hv hu
 have i1:=bdI hd (aN (d:=d) w1) (bdC ∅ l1)
 have i2:=bdI hd (aN (d:=d) w2) (bdC ∅ l2)
 have W:=bdM hd h.w i1
 have H:=bdM hd h.h i2
 have X:=bdA h.x (bdM hd (bdC (d:=d) c0 ∅) W)
 have ZY:=bdA h.y (bdM hd (bdC (d:=d) r0 ∅) H)
 exact⟨X.mono ∅,ZY.mono ∅,W.mono ∅,H.mono ∅⟩
theorem mR(hd:ah d){S P:Nat}{x w:RN d}(hx:Bd P x.v)(hw:Bd S w.v):∀{zs:List (RN d)} {s:RN d} {R:Nat},(∀z∈zs,Bd 4300 z.v)->Bd R s.v->P<=R ->
  (∀C∈cb x w s zs,Bw (S+4306) (R+zs.length*(S+4307)) C)/\(∀C∈bG x w s zs,Bw (S+4306) (R+zs.length*(S+4307)) C)
 |[],s,R,_,_,_=>⟨fun _ h=>(nomatch h),fun _ h=>(nomatch h)⟩
 |z::l,s,R,hz,hs,le=>by
  have bz:=bdM hd (hz z (by simp)) hw
  have e:(z::l).length*(S+4307)=S+4307+l.length*(S+4307):=by rw[length_cons,add_mul,Nat.one_mul,Nat.add_comm]
  have b1:Bd (R+(S+4307)) (s+z*w).v:=(bdA hs bz).mono ∅
  have b2:Bd (R+(S+4307)) (s-z*w).v:=(bdS hs bz).mono ∅
  obtain⟨h1,_⟩:=mR (zs:=l) hd hx hw (fun y hy=>hz y (by simp[hy])) b1 ∅
  obtain⟨_,h2⟩:=mR (zs:=l) hd hx hw (fun y hy=>hz y (by simp[hy])) b2 ∅
  refine⟨fun C hC=>?_,fun C hC=>?_⟩
  ·rcases List.mem_cons.mp hC with q|q
   ·rw[q];exact⟨hx.mono ∅,hs.mono ∅,hw.mono ∅,bz.mono ∅⟩
   ·exact (h1 C q).mono (le_refl _) ∅
  ·rcases List.mem_cons.mp hC with q|q
   ·rw[q];exact⟨hx.mono ∅,b2.mono ∅,hw.mono ∅,bz.mono ∅⟩
   ·exact (h2 C q).mono (le_refl _) ∅
theorem lQ(hd:ah d){S P q:Nat}{up:Bool}{B:Bo d}{zs:List (RN d)}(h:Bw S P B)(hz:∀z∈zs,Bd 4300 z.v)(hl:zs.length<=8):∀C∈aG q up B zs,Bw (S+4306) (P+9*S+40000) C:=by
 have one:∀(bk:Bool) (B:Bo d),Bw S P B->∀C∈rise bk B zs,Bw (S+4306) (P+9*S+40000) C:=fun bk B h C hC=>by
  have ml:zs.length*(S+4307)<=8*(S+4307):=mul_le_mul_right _ hl
  unfold rise at hC
  cases bk
  ·exact ((mR hd h.x h.w hz h.y (le_refl _)).1 C hC).mono (le_refl _) ∅
  ·exact ((mR hd h.x h.w hz (bdA h.y h.h) ∅).2 C hC).mono (le_refl _) ∅
 intro C hC
 unfold aG at hC
 split at hC
 ·exact one _ _ h C hC
 ·obtain⟨C',h1,rfl⟩:=List.mem_map.mp hC
  exact (one _ _ h.swp C' h1).swp
noncomputable def bS(m:Nat):Nat:=4400+4306*m
noncomputable def bP(m:Nat):Nat:=4400+600000*m
theorem Go.bw(hd:ah d){ks:List N3}{n q q':Nat}{t:PyData}{x:RN d}{B T:Bo d}{i:Int}(g:Go d ks n q t x B T i q'):∀{m:Nat},n+m<=13->Bw (bS m) (bP m) B->Bw (bS 13) (bP 13) T:=by
 induction g with
 |@kind n q B i k h0 h1 h2 h3=>exact fun {m} l h=>h.mono (by unfold bS;omega) (by unfold bP;omega)
 |@turn n q q' t x B T i h1 h2 h3 _ ih=>exact fun {m} l h=>ih (m:=m) ∅ h
 |@grid n q q' t x B T i u v c r h1 h2 h3 h4 h5 h6 h7 h8 h9 h10 h11 _ ih=>
  exact fun {m} l h=>ih (m:=m+1) ∅ ((xH hd h1 h2 h3 h4 h8 h9 h10 h11 h).mono (by unfold bS;omega) (by unfold bS bP;omega))
 |@strip n q q' B T B' i up es j e h1 h2 h3 h4 h5 h6 _ ih=>
  exact fun {m} l h=>ih (m:=m+1) ∅ ((lQ hd h h4 (by unfold aF;rw[length_map];exact h2) _ (mem_of_getElem? h6)).mono (by unfold bS;omega) (by unfold bS bP;omega))
noncomputable def fl(x:RN d):Bo d:=⟨0,0,1,x⟩
theorem si(x:RN d)(h:ps x):Rat 0 x (fl x):=⟨aN (d:=d) (n:=1) ⋯,h,fun _=>by show x=x*1;grind,fun z=>by omega⟩
theorem Aw(hd:ah d){x:RN d}(h:ps x):mv (inv x) 0 0 (qt x (fl x))=fl (inv x):=by
 have i:=inv_mul hd h
 unfold mv qt fl
 generalize inv x=y at *
 congr 1<;>dsimp only<;>grind
theorem Ax(hd:ah d){x:RN d}{u v c r:Int}(hu:1<=u)(hv:1<=v):mv (inv (u:RN d)) ((c:RN d)*inv (u:RN d)) (x*((r:RN d)*inv (u:RN d))) (fl x)=bR 0 u v (fl (x*((v:RN d)*inv (u:RN d)))) c r:=by
 have i2:=inv_mul hd (aN (d:=d) (n:=v) ∅)
 unfold mv bR fl
 rw[show az 0 u v=u from rfl,show az 0 v u=v from rfl]
 generalize inv (u:RN d)=iu at *
 generalize inv (v:RN d)=iv at *
 generalize (v:RN d)=v' at *
 congr 1<;>dsimp only<;>grind
theorem qV{q:Nat}{up:Bool}{B:Bo d}{zs:List (RN d)}{j:Nat}(h:j<zs.length):∃C,(aG q up B zs)[j]? = some C:=by
 have:j<(aG q up B zs).length:=by rw[gC];exact h
 exact⟨_,List.getElem?_eq_getElem this⟩
theorem zZ{X:RN d}{zs:List (RN d)}{j:Nat}{z:RN d}(h:zs[j]? = some z):(aG 0 true (fl X) zs)[j]? = some (mv 1 0 (aR (zs.take j)) (fl z)):=by
 obtain⟨C,hC⟩:=qV (q:=0) (up:=true) (B:=fl X) (List.getElem?_eq_some_iff.mp h).1
 have hC':(rise false (fl X) zs)[j]? = some C:=hC
 obtain⟨z',h1,h2⟩:=en hC'
 rw[h] at h1;cases h1
 rw[hC,h2]
 unfold mv fl
 congr 2<;>simp only[false_eq_true,↓reduceIte]<;>grind
theorem wM(f:RN d):∀(l:List (RN d)),aR (l.map (f * ·))=f*aR l
 |[]=>by rw[map_nil,dW];grind
 |z::l=>by rw[map_cons,aV,aV,wM f l];grind
theorem wb(hd:ah d){X x:RN d}{zs:List (RN d)}{j:Nat}(hx:ps x)(h:zs[j]? = some (inv x)):(aG 0 false (fl X) zs)[j]? = some (mv (X*inv x) (aR ((zs.take j).map (X * ·))) 0 (fl x)):=by
 have i:=inv_mul hd hx
 obtain⟨C,hC⟩:=qV (q:=0) (up:=false) (B:=fl X) (List.getElem?_eq_some_iff.mp h).1
 have hC':((rise false (swp (fl X)) zs).map swp)[j]? = some C:=hC
 rw[getElem?_map] at hC'
 obtain⟨C',h0,rfl⟩:=Option.map_eq_some_iff.mp hC'
 obtain⟨z',h1,rfl⟩:=en h0
 rw[h] at h1;cases h1
 rw[hC,wM]
 unfold mv fl swp
 generalize inv x=y at *
 congr 2<;>simp only[false_eq_true,↓reduceIte]<;>grind
end
noncomputable def Ar(b:Bool)(ks:List N3):PyData:=if b=true then .list (ks.map dN) else .tuple (ks.map dN)
noncomputable def eZ(n:Nat):DSp:=fun ds U Q=>∃(d:Int) (ks:List N3) (b:Bool) (t:PyData) (x:N3),ds=[.v (.int d),.v (Ar b ks),.v t]/\ah d/\Sh t/\SP d ks n t x/\∀Z,(∀b ds,U b=some ds->Z b=some ds)->Q (.v (dN x)) Z
theorem oB{n:Nat}{U:Mu}{Q:DK}{ds:List D}(h:eZ n ds U Q):ds.length=3:=by obtain⟨_,_,_,_,_,rfl,_⟩:=h;rfl
theorem xI{U:Mu}{Q:DK}{ds:List D}(h:eZ 0 ds U Q):False:=by obtain⟨_,_,_,_,_,_,_,_,h,_⟩:=h;cases h
noncomputable abbrev bE(n:Nat):DSp:=eZ n
theorem sP{n:Nat}{U:Mu}{Q:DK}{ds:List D}(h:bE n ds U Q):ds.length=3:=oB h
theorem y4{U:Mu}{Q:DK}{ds:List D}(h:bE 0 ds U Q):False:=xI h
noncomputable def w4:DSp:=fun ds U Q=>∃(a:Addr) (d:Int) (ks:List N3) (t:PyData) (dd c:Nat),ds=[.m a,.v (.int d),.v (.tuple (ks.map dN)),.v t]/\ah d/\KindsOk d ks/\IsP (ks.length:Nat) dd c t/\dd<=12/\Bag U a /\
 ∀ks' Z,KindsOk d ks'->ks'.length=ks.length->(c<=12\/∀k∈ks',Bd 4 k)->de a U Z->Q (.v (.tuple (ks'.map dN))) Z
theorem y6{U:Mu}{Q:DK}{ds:List D}(h:w4 ds U Q):ds.length=4:=by obtain⟨_,_,_,_,_,_,rfl,_⟩:=h;rfl
noncomputable def o9(n:Nat):DTS:=
 (aj (aq (dOp ai (ab 2) (dC (.int 0))) (ae 3))
 (aj (aK (dB (dOp (aJ false) (ab 3) (dC (.str "kind")))) (aB (dOp ai (ab 1) (dOp ai (ab 2) (dC (.int 1))))) aE)
 (aj (aq (aQ [none,some 0,some 1] (a9 (ag kc (aa (ab 2) af))) (ae 0) aZ (ag (eZ n) (aa (ab 1) (aa (ab 2) (aa (ab 0) af))))) (ae 4))
 (aj (aK (dB (dOp (aJ false) (ab 3) (dC (.str "turn")))) (aB (ag aL (aa (ab 0) (aa (dOp ai (ab 4) (dC (.int 0))) af)))) aE)
 (aj (aK (dB (dOp (aJ false) (ab 3) (dC (.str "grid")))) (aB (ag a7 (aa (ab 0) (aa (dOp ai (ab 4) (dC (.int 0))) (aa (ag aP (aa (dOp ai (ab 2) (dC (.int 2))) (aa (dC (.int 0)) (aa (dOp ai (ab 2) (dC (.int 1))) af)))) af))))) aE)
 (aj (aK (dB (dOp (aJ false) (ab 3) (dC (.str "upon")))) (aB (ag kg (aa (ab 4) af))) aE)
 (aB (ag aL (aa (ab 0) (aa (ag kg (aa (aQ [none,some 0] (a9 (ab 4)) (ae 0) aZ (ag aL (aa (ab 1) (aa (ab 0) af)))) af)) af))))))))))
noncomputable def jf(n:Nat):DTS:=
 (aj (aK (dB (dOp (aJ false) (dOp ai (ab 2) (dC (.int 0))) (dC (.str "kind")))) (aB (dOp ai (ab 1) (dOp ai (ab 2) (dC (.int 1))))) aE)
 (aj (aK (dB (dOp (aJ false) (dOp ai (ab 2) (dC (.int 0))) (dC (.str "turn")))) (aB (ag aL (aa (ab 0) (aa (ag (bE n) (aa (ab 0) (aa (ab 1) (aa (dOp ai (ab 2) (dC (.int 1))) af)))) af)))) aE)
 (aj (aK (dB (dOp (aJ false) (dOp ai (ab 2) (dC (.int 0))) (dC (.str "grid")))) (aB (ag a7 (aa (ab 0) (aa (ag (bE n) (aa (ab 0) (aa (ab 1) (aa (dOp ai (ab 2) (dC (.int 3))) af)))) (aa (ag aP (aa (dOp ai (ab 2) (dC (.int 2))) (aa (dC (.int 0)) (aa (dOp ai (ab 2) (dC (.int 1))) af)))) af))))) aE)
 (aj (aq (aQ [none,some 0,some 1] (fw (dOp ai (ab 2) (dC (.int 1)))) (ae 0) aZ (ag (bE n) (aa (ab 1) (aa (ab 2) (aa (ab 0) af))))) (ae 3))
 (aj (aK (dB (dOp (aJ false) (dOp ai (ab 2) (dC (.int 0))) (dC (.str "upon")))) (aB (ag kg (aa (ab 3) af))) aE)
 (aB (ag aL (aa (ab 0) (aa (ag kg (aa (aQ [none,some 0] (a9 (ab 3)) (ae 0) aZ (ag aL (aa (ab 1) (aa (ab 0) af)))) af)) af)))))))))
section
variable {U:Mu}{Qd:DK}{ds:List D}{ρ:Rho}{d:Int}{ks:List N3}{n:Nat}{b:Bool}
theorem sW{i:Int}{k:N3}(i0:0<=i)(h:ks[i.toNat]? = some k)(q:Qd (.v (dN k)) U):ai (.v (Ar b ks)) (.v (.int i)) U Qd:=by
 have e:atI (ks.map dN) i=some (dN k):=by
  have:=c9 (xs:=ks.map dN) (j:=i.toNat) (v:=dN k) (by rw[getElem?_map,h];rfl)
  rw[show ((i.toNat:Nat):Int)=i by omega] at this
  exact this
 cases b with
 |true=>show ai (.v (.list (ks.map dN))) _ _ _;rw[ir,e];exact q
 |false=>show ai (.v (.tuple (ks.map dN))) _ _ _;rw[gL,e];exact q
theorem cX{src:DTI}{es:List (PyData×N3)}(hs:∀QI:List PyData->Mu->Prop,QI (es.map (·.1)) U->src ρ U QI)(hl:es.length<=8)(hd:ah d)(h0:ρ[0]? = some (some (.v (.int d))))(h1:ρ[1]? = some (some (.v (Ar b ks))))
  (hh:∀e∈es,Sh e.1/\SP d ks n e.1 e.2) (q:∀Z,(∀b ds,U b=some ds->Z b=some ds)->Qd (.v (.list ((es.map (·.2)).map dN))) Z) :
  aQ [none,some 0,some 1] src (ae 0) aZ (ag (eZ n) (aa (ab 1) (aa (ab 2) (aa (ab 0) af)))) ρ U Qd:=by
 rw[cp]
 refine hs _ ⟨by rw[length_map];omega,fun p hp=>⟨fun i acc Z=>acc=((es.take i).map (·.2)).map dN/\∀b ds,b≠p->U b=some ds->Z b=some ds,⟨by simp,fun b ds hb e=>by rw[ao hb];exact e⟩,?_,?_⟩⟩
 ·rintro i x acc Z hx hacc ⟨rfl,hk⟩
  rw[getElem?_map] at hx
  obtain⟨e,he,rfl⟩:∃e,es[i]? = some e/\e.1=x:=by
   cases z:es[i]? with
   |none=>rw[z] at hx;cases hx
   |some e=>rw[z] at hx;exact⟨e,rfl,by simpa using hx⟩
  have hm:=hh e (mem_of_getElem? he)
  simp only[bJ,cK,cF,h0,h1,bind_some,bind_none,join_some,set_cons_zero,cJ,↓reduceIte,ey,eN,dJ,true_and,and_true,dz,cI,dR,cT,cP,c8]
  refine⟨d,ks,b,e.1,e.2,rfl,hd,hm.1,hm.2,fun bn h4=>⟨h4 _ _ hacc,?_,fun b ds hb e'=>by rw[ao hb];exact h4 b ds (hk b ds hb e')⟩⟩
  rw[take_succ,he];simp
 ·rintro acc Z ⟨rfl,hk⟩ hacc
  rw[length_map,take_length]
  exact q _ fun b ds e=>by
   have hb:b≠p:=fun z=>by rw[z,hp] at e;cases e
   rw[bO hb];exact hk b ds hb e
theorem uH{src:DTI}{xs:List N3}(hs:∀QI:List PyData->Mu->Prop,QI (xs.map dN) U->src ρ U QI)(hl:xs.length<=8)(hd:ah d)(h0:ρ[0]? = some (some (.v (.int d))))(hh:∀x∈xs,G d x)
  (q:Qd (.v (.list ((xs.map (aA d)).map dN))) U):aQ [none,some 0] src (ae 0) aZ (ag aL (aa (ab 1) (aa (ab 0) af))) ρ U Qd:=by
 rw[cp]
 refine hs _ ⟨by rw[length_map];omega,fun p hp=>⟨fun i acc Z=>acc=((xs.take i).map (aA d)).map dN/\Z=aD U p acc,⟨by simp,rfl⟩,?_,?_⟩⟩
 ·rintro i x acc Z hx hacc ⟨rfl,rfl⟩
  obtain⟨y,hy,rfl⟩:=Jn hx
  have g:=hh y (mem_of_getElem? hy)
  simp only[bJ,cK,cF,h0,bind_some,bind_none,join_some,set_cons_zero,cJ,↓reduceIte,ey,eN,dJ,true_and,and_true,dz,cI,dR,cT,cP]
  refine⟨d,y,rfl,eI hd.1 hd.2.1,g.2.1,g.2.2.mono ⋯,hacc,?_,?_⟩
  ·rw[take_succ,hy];simp
  ·rw[bU]
 ·rintro acc Z ⟨rfl,rfl⟩ hacc
  rw[cY hp,length_map,take_length]
  exact q
theorem iT{es:List (PyData×N3)}:(es.map (·.2)).length=es.length:=length_map _
theorem wD(n:Nat)(h:eZ (n+1) ds U Qd):o9 n ‹Qd› (ak ["d","shapes","plan","word","inner"] ds) U:=by
 obtain⟨d,ks,b,t,x,rfl,hd,hs,sp,q⟩:=h
 have hz:=eI hd.1 hd.2.1
 unfold o9
 cases sp with
 |kind i k i0 i1 hk=>
  walk_at "ru"
  simp only[ax cj cj,vR,false_xor,↓reduceIte]
  exact sW i0 hk (q U fun _ _ e=>e)
 |@turn _ t' y h1 g=>
  walk_at "ru"
  simp only[ax cm cj,uW,false_xor,false_eq_true,↓reduceIte]
  refine cX (es:=[(t',y)]) (fun QI hq=>?_) (by simp) hd rfl rfl (fun e he=>by rw[List.mem_singleton.mp he];exact⟨hs.mem t' (by simp),h1⟩) fun Y k1=>?_
  ·walk_at "ru"
   exact⟨_,1,[t'],rfl,hs,by show bF 1 (.str "turn") t'=_;unfold bF;rw[if_neg (by rw[uW];decide),if_pos uU],hq⟩
  walk_at "ru"
  simp only[map_cons,map_nil,ax cm cm,uU,false_xor,↓reduceIte,fS]
  exact⟨d,y,rfl,hz,g.2.1,g.2.2.mono ⋯,q Y k1⟩
 |@grid _ t' y u v hu hv hu' hv' h1 oy by_=>
  walk_at "ru"
  simp only[ax bI cj,yV,false_xor,false_eq_true,↓reduceIte]
  refine cX (es:=[(t',y)]) (fun QI hq=>?_) (by simp) hd rfl rfl (fun e he=>by rw[List.mem_singleton.mp he];exact⟨hs.mem t' (by simp),h1⟩) fun Y k1=>?_
  ·walk_at "ru"
   refine⟨_,1,[t'],rfl,hs,?_,hq⟩
   show gH (.str "grid") (.int u) (.int v) t'=_
   unfold gH
   rw[if_pos rE,if_pos]
   show ((true&&decide (1<=u))&&(true&&decide (1<=v)))=true
   rw[decide_eq_true hu,decide_eq_true hv];rfl
  walk_at "ru"
  simp only[map_cons,map_nil,ax bI cm,ax bI bI,yD,rE,false_xor,false_eq_true,↓reduceIte,fS]
  have bf:Bd 20 (low v 0 u):=dy ∅ (Sz.of (by show v.natAbs<1048576;omega)) sz0 (Sz.of (by show u.natAbs<1048576;omega))
  refine⟨v,0,u,rfl,∅,(Sz.of (n:=20) (by show u.natAbs<1048576;omega)).mono ⋯,?_⟩
  exact⟨d,y,low v 0 u,rfl,hz,oy,dn _ _ ∅,by_.mono ⋯,bf.mono ⋯,q Y k1⟩
 |@upon _ es h2 h8 hh ss=>
  walk_at "ru"
  simp only[ax dw cj,yj,false_xor,false_eq_true,↓reduceIte]
  have hp:∀e∈es,Sh e.1:=fun e he=>(hs.mem (.tuple (es.map (·.1))) (by simp)).mem e.1 (mem_map_of_mem he)
  refine cX (es:=es) (fun QI hq=>?_) h8 hd rfl rfl (fun e he=>⟨hp e he,hh e he⟩) fun Y k1=>?_
  ·walk_at "ru"
   exact⟨_,1,_,rfl,hs,iS (.inl rfl) (by simpa using h2) (by simpa using h8),hq⟩
  walk_at "ru"
  simp only[ax dw cm,ax dw bI,ax dw dw,yx,yO,Av,false_xor,false_eq_true,↓reduceIte]
  exact⟨_,rfl,by rw[iT];omega,ss.big,q Y k1⟩
 |@beside _ es h2 h8 hh hg ss g=>
  walk_at "ru"
  simp only[ax fU cj,yq,false_xor,false_eq_true,↓reduceIte]
  have hp:∀e∈es,Sh e.1:=fun e he=>(hs.mem (.tuple (es.map (·.1))) (by simp)).mem e.1 (mem_map_of_mem he)
  refine cX (es:=es) (fun QI hq=>?_) h8 hd rfl rfl (fun e he=>⟨hp e he,hh e he⟩) fun Y k1=>?_
  ·walk_at "ru"
   exact⟨_,1,_,rfl,hs,iS (.inr rfl) (by simpa using h2) (by simpa using h8),hq⟩
  walk_at "ru"
  simp only[ax fU cm,ax fU bI,ax fU dw,yh,yS,zU,false_xor,false_eq_true,↓reduceIte]
  refine uH (xs:=es.map (·.2)) (fun QI hq=>by walk_at "ru";exact hq) (by rw[iT];exact h8) hd rfl (fun x hx=>by obtain⟨e,he,rfl⟩:=List.mem_map.mp hx;exact hg e he) ?_
  refine⟨_,rfl,by rw[length_map,iT];omega,ss.big,?_⟩
  exact⟨d,_,rfl,hz,g.2.1,g.2.2.mono ⋯,q Y k1⟩
theorem qa(n:Nat)(h:bE (n+1) ds U Qd):jf n ‹Qd› (ak ["_law_d","_law_kinds_here","_law_plan_here","_law_shapes"] ds) U:=by
 obtain⟨d,ks,b,t,x,rfl,hd,hs,sp,q⟩:=h
 have hz:=eI hd.1 hd.2.1
 unfold jf
 cases sp with
 |kind i k i0 i1 hk=>
  walk_at "ru"
  simp only[ax cj cj,vR,false_xor,↓reduceIte]
  exact sW i0 hk (q U fun _ _ e=>e)
 |@turn _ t' y h1 g=>
  walk_at "ru"
  simp only[ax cm cj,ax cm cm,uW,uU,false_xor,false_eq_true,↓reduceIte]
  refine⟨d,ks,b,t',y,rfl,hd,hs.mem t' (by simp),h1,fun Y k1=>?_⟩
  exact⟨d,y,rfl,hz,g.2.1,g.2.2.mono ⋯,q Y k1⟩
 |@grid _ t' y u v hu hv hu' hv' h1 oy by_=>
  walk_at "ru"
  simp only[ax bI cj,ax bI cm,ax bI bI,yV,yD,rE,false_xor,false_eq_true,↓reduceIte]
  refine⟨d,ks,b,t',y,rfl,hd,hs.mem t' (by simp),h1,fun Y k1=>?_⟩
  have bf:Bd 20 (low v 0 u):=dy ∅ (Sz.of (by show v.natAbs<1048576;omega)) sz0 (Sz.of (by show u.natAbs<1048576;omega))
  refine⟨v,0,u,rfl,∅,(Sz.of (n:=20) (by show u.natAbs<1048576;omega)).mono ⋯,?_⟩
  exact⟨d,y,low v 0 u,rfl,hz,oy,dn _ _ ∅,by_.mono ⋯,bf.mono ⋯,q Y k1⟩
 |@upon _ es h2 h8 hh ss=>
  walk_at "ru"
  simp only[ax dw cj,ax dw cm,ax dw bI,yj,yx,yO,false_xor,false_eq_true,↓reduceIte]
  have hp:∀e∈es,Sh e.1:=fun e he=>(hs.mem (.tuple (es.map (·.1))) (by simp)).mem e.1 (mem_map_of_mem he)
  refine cX (es:=es) (fun QI hq=>by walk_at "ru";exact hq) h8 hd rfl rfl (fun e he=>⟨hp e he,hh e he⟩) fun Y k1=>?_
  simp only[ax dw dw,Av,false_xor,false_eq_true,↓reduceIte]
  exact⟨_,rfl,by rw[iT];omega,ss.big,q Y k1⟩
 |@beside _ es h2 h8 hh hg ss g=>
  walk_at "ru"
  simp only[ax fU cj,ax fU cm,ax fU bI,yq,yh,yS,false_xor,false_eq_true,↓reduceIte]
  have hp:∀e∈es,Sh e.1:=fun e he=>(hs.mem (.tuple (es.map (·.1))) (by simp)).mem e.1 (mem_map_of_mem he)
  refine cX (es:=es) (fun QI hq=>by walk_at "ru";exact hq) h8 hd rfl rfl (fun e he=>⟨hp e he,hh e he⟩) fun Y k1=>?_
  simp only[ax fU dw,zU,false_xor,false_eq_true,↓reduceIte]
  refine uH (xs:=es.map (·.2)) (fun QI hq=>by walk_at "ru";exact hq) (by rw[iT];exact h8) hd rfl (fun x hx=>by obtain⟨e,he,rfl⟩:=List.mem_map.mp hx;exact hg e he) ?_
  refine⟨_,rfl,by rw[length_map,iT];omega,ss.big,?_⟩
  exact⟨d,_,rfl,hz,g.2.1,g.2.2.mono ⋯,q Y k1⟩
end
noncomputable def dA:DTS:=
 (aj (aK (dB (dOp rLe (ag (c7 31) (aa (ab 3) (aa (dCB aX (aa (ab 2) af)) (aa (dC (.int 12)) af)))) (dC (.int 12)))) (aB (ab 2)) aE)
 (aj (aq (i4 af) (ae 4))
 (aj (ik (fw (ab 2)) (ae 5) (aj (aq (ag aP (aa (fu (ag aO (aa (ab 0) (aa (dC (.int 9)) af))) (dC (.int 4))) (aa (fu (ag aO (aa (ab 0) (aa (dC (.int 5)) af))) (dC (.int 2))) (aa (cz (dC (.int 1)) (ag aO (aa (ab 0) (aa (dC (.int 3)) af)))) af)))) (ae 6))
 (dj (lp (ab 4) (dOp ai (cU (aa (aT (aa (dC (.int 1)) (aa (dC (.int 0)) (aa (dC (.int 1)) af)))) (aa (ab 6) (aa (ag gn (aa (ab 6) af)) af)))) (ag fR (aa (ab 1) (aa (ab 6) af))))))))
 (aB (dCB dG (aa (ab 4) af))))))
section
variable {U:Mu}{Qd:DK}{ds:List D}
theorem iX(h:w4 ds U Qd):dA ‹Qd› (ak ["_law_bag_here","_law_d","_law_kinds_here","_law_plan_here","_law_found","_law_kind","_law_x"] ds) U:=by
 obtain⟨a,d,ks,t,dd,c,rfl,hd,hk,hp,hdd,hb,q⟩:=h
 unfold dA
 walk_at "ru"
 rw[length_map]
 refine⟨t,_,12,rfl,⋯,hp.lt.sh ∅,fun Y k1=>?_⟩
 rw[hp.cnt 12 hdd]
 walk_at "ru"
 have s1:de a U Y:=.of hb k1
 by_cases c12:c<=12
 ·rw[if_pos (decide_eq_true ∅)]
  exact q ks Y hk rfl (.inl c12) s1
 ·rw[if_neg (by rw[decide_eq_true_eq];omega)]
  intro p hp1
  have pa:p≠a:=fun z=>by obtain⟨g,k,e,_⟩:=s1.1;rw[z,e] at hp1;cases hp1
  have p0:U p=none:=by
   cases e:U p with
   |none=>rfl
   |some ds=>rw[s1.2 p pa ds e] at hp1;cases hp1
  rw[fK]
  walk_at "ru"
  refine⟨fun i ρ Z=>∃(ks':List N3) (r5 r6:Option D),ρ=[some (.m a),some (.v (.int d)),some (.v (.tuple (ks.map dN))),some (.v t),some (.m p),r5,r6]/\ks'.length=i/\(∀k∈ks',Ok k/\Bd 4 k/\sg d k.a k.b=1)/\Z p=some (ks'.map dN)/\Bag Z a/\(∀b,b≠a->b≠p->∀ds,U b=some ds->Z b=some ds),
   ⟨[],_,_,rfl,rfl,(fun _ z=>nomatch z),av,s1.1.set pa,fun b n1 n2 ds e=>by rw[ao n2];exact s1.2 b n1 ds e⟩,?_,?_⟩
  ·rintro i y ρ ac hy ⟨ks',r5,r6,rfl,hl,hk',hp2,hb2,kp⟩
   walk_at "ru"
   refine⟨a,9,rfl,⋯,⋯,hb2,fun r1 be r10 r11 s3=>?_⟩
   walk_at "ru"
   refine⟨a,5,rfl,⋯,⋯,s3.1,fun r2 bn r20 r21 s4=>?_⟩
   walk_at "ru"
   refine⟨a,3,rfl,⋯,⋯,s4.1,fun r3 dL r30 r31 s5=>?_⟩
   walk_at "ru"
   have sz:∀{z:Int},-16<z->z<16->Sz 4 z:=fun h1 h2=>Sz.of (by show _<16;omega)
   have c0:(1+r3:Int)≠0:=by omega
   refine⟨r1-4,r2-2,1+r3,rfl,c0,(sz ∅ ∅).mono ⋯,?_⟩
   have ox:Ok (low (r1-4) (r2-2) (1+r3)):=dn _ _ c0
   have bx:Bd 4 (low (r1-4) (r2-2) (1+r3)):=dy c0 (sz ∅ ∅) (sz ∅ ∅) (sz ∅ ∅)
   generalize low (r1-4) (r2-2) (1+r3)=x at ox bx
   have s35:=(s3.trans s4).trans s5
   have hp5:dL p=some (ks'.map dN):=by rw[s35.2 p pa];exact hp2
   have fin:∀k:N3,Ok k->Bd 4 k->sg d k.a k.b=1->(match D.v (dN k),dL p with|.v d',some xs=>xs.length<1000/\∃(ks'':List N3) (r5' r6':Option D),[some (.m a),some (.v (.int d)),some (.v (.tuple (ks.map dN))),some (.v t),some (.m p),some (.v y),some (.v (dN x))]=[some (.m a),some (.v (.int d)),some (.v (.tuple (ks.map dN))),some (.v t),some (.m p),r5',r6']/\ks''.length=i+1/\(∀k∈ks'',Ok k/\Bd 4 k/\sg d k.a k.b=1)/\aD dL p (xs++[d']) p=some (ks''.map dN)/\Bag (aD dL p (xs++[d'])) a/\(∀b,b≠a->b≠p->∀ds,U b=some ds->aD dL p (xs++[d']) b=some ds)|_,_=>False):=fun k ok bk sk=>by
    rw[hp5]
    have hi:i<ks.length:=by have:=List.getElem?_eq_some_iff.mp hy;obtain⟨z,_⟩:=this;rw[length_map] at z;exact z
    have l3:=hk.l3
    refine⟨by rw[length_map];omega,ks'++[k],_,_,rfl,by simp[hl],fun k' hk''=>?_,by rw[av];simp,s35.1.set pa,fun b n1 n2 ds e=>by rw[ao n2,s35.2 b n1];exact kp b n1 n2 ds e⟩
    rcases List.mem_append.mp hk'' with z|z
    ·exact hk' k' z
    ·rw[List.mem_singleton.mp z];exact⟨ok,bk,sk⟩
   walk_at "ru"
   refine⟨x,rfl,?_⟩
   refine⟨d,x,rfl,hd,bx.mono ⋯,?_⟩
   rcases oT d x.a x.b with e|e|e
   ·rw[e]
    exact fin one vY ⟨Sz.of ⋯,Sz.of ⋯,Sz.of ⋯⟩ w5
   ·rw[e]
    exact fin x ox bx e
   ·rw[e]
    exact fin (minus x) (bQ ox) (fi bx) (by show sg d (-x.a) (-x.b)=1;rw[k5 hd,e];rfl)
  ·rintro ρ ac ⟨ks',r5,r6,rfl,hl,hk',hp2,hb2,kp⟩
   rw[length_map] at hl
   walk_at "ru"
   rw[hp2]
   exact q ks' ac ⟨by rw[hl];exact hk.l1,by rw[hl];exact hk.l3,fun k z=>⟨(hk' k z).1,(hk' k z).2.1.mono ⋯,(hk' k z).2.2⟩⟩ hl (.inr fun k z=>(hk' k z).2.1) ⟨hb2,fun b n ds e=>kp b n (fun z=>by rw[z,p0] at e;cases e) ds e⟩
end
section
variable {U:Mu}{d:D}{Q:DK}
theorem Cu{a b c f g h k l m n n11}{o:Rho}:ab 11 (a::b::c::f::g::h::k::l::m::n::n11::some d::o) U Q=Q d U:=propext Iff.rfl
end
local macro_rules|`(tactic| walk_at "rb")=>mkW "Dh IJ GS ↓IL ↓l_t ↓l_f l_T l_F IG Jg ↓uM ↓jY aS decide_true decide_false xor_true true_xor ↓cT ↓cP ↓c8 ↓fQ ↓gE ↓jq ↓jB ↓jv ↓jN ↓jC ↓gh ↓q_c ↓EC ↓q_B ↓vZ ↓nH ↓n9 ↓zF ↓Ew ↓jM ↓zO ↓jF ↓Js ↓dR ↓cI ↓oF ↓pD ↓jG ↓pC ↓nD ↓oh ↓nK ↓pb ↓nc ↓oo ↓fS ↓jI ↓jw ↓iB ↓gm ↓ib ↓jQ ↓ir ↓gL ↓nI ↓ou ↓m8 ↓jt ↓jz ↓vD ↓d9 ↓jP ↓n6 ↓o8 ↓IE ↓jr ↓jV ↓jA ↓gQ ↓m9 ↓wg ↓jD ↓gA ↓oR ↓nA ↓bJ ↓iI ↓eW ↓hV ↓ju ↓Ed ↓n5 ↓js ↓jd ↓nO ↓jU ↓Ee ↓gv ↓Ba ↓nJ ↓nq ↓jL ↓xl ↓cJ ↓di ↓gq ↓dh ↓dS ↓eu ↓eE gj cF cK dJ ey eN bind_none bind_some join_some getElem?_cons_zero getElem?_cons_succ ak qM lr lM lJ fH gS ji j9 lY map_cons map_nil List.append List.replicate length_cons length_nil Nat.reduceAdd Nat.reduceSub nil_append cons_append set_cons_zero set_cons_succ map_some Bool.not_true Bool.not_false false_eq_true true_eq_false xor_false false_xor ↓Cu ↓Bm ↓Al ↓Fu ↓Kf ↓Hz"
noncomputable def bo{d:Int}(B:Bo d):PyData:=.tuple [dN B.x.v,dN B.y.v,dN B.w.v,dN B.h.v]
noncomputable def fG:DSp:=fun ds U Q=>∃(d:Int) (x:N3) (c:Int),ds=[.v (.int d),.v (dN x)]/\ah d/\Ok x/\Bd 20000000 x/\b9 d x c/\Q (.v (.int c)) U
theorem qh{ds:List D}{U:Mu}{Q:DK}(h:fG ds U Q):ds.length=2:=by obtain⟨_,_,_,rfl,_⟩:=h;rfl
noncomputable def j2:DSp:=fun ds U Q=>∃(d:Int) (B:Bo d),ds=[.v (bo B)]/\Bw 80000 9000000 B/\Q (.v (.tuple [dN B.x.v,dN (B.x+B.w).v,dN B.y.v,dN (B.y+B.h).v])) U
theorem rZ{ds:List D}{U:Mu}{Q:DK}(h:j2 ds U Q):ds.length=1:=by obtain⟨_,_,rfl,_⟩:=h;rfl
noncomputable def iF:DSp:=fun ds U Q=>∃(d:Int) (B:Bo d) (a b:RN d) (β:Bool),ds=[.v (.int d),.v (bo B),.v (dN a.v),.v (dN b.v)]/\ah d/\Bw 80000 9000000 B/\Bd 10000000 a.v/\Bd 10000000 b.v/\(β=true↔In B a b)/\Q (.v (.bool β)) U
theorem rG{ds:List D}{U:Mu}{Q:DK}(h:iF ds U Q):ds.length=4:=by obtain⟨_,_,_,_,_,rfl,_⟩:=h;rfl
noncomputable def gw:DSp:=fun ds U Q=>∃(d:Int) (x a b:RN d),ds=[.v (.int d),.v (dN x.v),.v (dN a.v),.v (dN b.v)]/\ah d/\Bd 80000 x.v/\Bd 10000000 a.v/\Bd 10000000 b.v/\In (fl x) a b/\Q (.v .none) U
theorem nF{ds:List D}{U:Mu}{Q:DK}(h:gw ds U Q):ds.length=4:=by obtain⟨_,_,_,_,rfl,_⟩:=h;rfl
noncomputable def sj:DSp:=fun ds U Q=>∃q:Nat,ds=[.v (.int (q % 4:Nat))]/\Q (.v (.int ((q+1) % 4:Nat))) U
theorem v9{ds:List D}{U:Mu}{Q:DK}(h:sj ds U Q):ds.length=1:=by obtain⟨_,rfl,_⟩:=h;rfl
noncomputable def cG:DSp:=fun ds U Q=>∃(d:Int) (B:Bo d),ds=[.v (bo B)]/\Q (.v (bo (swp B))) U
theorem oM{ds:List D}{U:Mu}{Q:DK}(h:cG ds U Q):ds.length=1:=by obtain⟨_,_,rfl,_⟩:=h;rfl
noncomputable def Iz(d:Int)(zs:List (RN d))(B:Bo d):Prop:=ah d/\Bw 70000 8000000 B/\(∀z∈zs,Bd 4300 z.v)/\zs.length<=8
noncomputable def cZ:DSp:=fun ds U Q=>∃(d:Int) (zs:List (RN d)) (B:Bo d) (bk:Bool),ds=[.v (.int d),.v (.list (zs.map fun z=>dN z.v)),.v (bo B),.v (.bool bk)]/\Iz d zs B/\Q (.v (.list ((rise bk B zs).map bo))) U
noncomputable def hW:DSp:=fun ds U Q=>∃(d:Int) (zs:List (RN d)) (B:Bo d) (bk:Bool),ds=[.v (.int d),.v (.list (zs.map fun z=>dN z.v)),.v (bo B),.v (.bool bk)]/\Iz d zs B /\
 ∀p Z,U p=none->gP U Z->Z p=some ((rise bk B zs).map bo)->Q (.m p) Z
theorem mK{ds:List D}{U:Mu}{Q:DK}(h:hW ds U Q):ds.length=4:=by obtain⟨_,_,_,_,rfl,_⟩:=h;rfl
theorem lz{ds:List D}{U:Mu}{Qd:DK}(h:cZ ds U Qd):hW ds U (frz U Qd):=by
 obtain⟨d,zs,B,bk,rfl,g,q⟩:=h
 exact⟨d,zs,B,bk,rfl,g,fun p Z hp sb hm=>⟨⟨hp,sb⟩,_,hm,q⟩⟩
noncomputable def GrP(u v:Int):Prop:=1<=u/\1<=v/\u<=1000000/\v<=1000000
noncomputable def m6:DSp:=fun ds U Q=>∃(d:Int) (u v:Int) (t:PyData) (q:Nat) (B:Bo d),ds=[.v (.int d),.v (.tuple [.str "grid",.int u,.int v,t]),.v (.int (q % 4:Nat)),.v (bo B)]/\ah d/\GrP u v/\Bw 70000 8000000 B /\
 Q (.v (.tuple [dN (B.w*inv (az q u v:RN d)).v,dN (B.h*inv (az q v u:RN d)).v])) U
theorem uj{ds:List D}{U:Mu}{Q:DK}(h:m6 ds U Q):ds.length=4:=by obtain⟨_,_,_,_,_,_,rfl,_⟩:=h;rfl
noncomputable def km:DSp:=fun ds U Q=>∃(d:Int) (B:Bo d) (W H:RN d) (c r:Int),ds=[.v (.int d),.v (bo B),.v (dN W.v),.v (dN H.v),.v (.int c),.v (.int r)]/\ah d/\Bw 70000 8000000 B/\Bd 80000 W.v/\Bd 80000 H.v/\0<=c/\c<=1000000/\0<=r/\r<=1000000 /\
 Q (.v (bo ⟨B.x+(c:RN d)*W,B.y+(r:RN d)*H,W,H⟩)) U
theorem sV{ds:List D}{U:Mu}{Q:DK}(h:km ds U Q):ds.length=6:=by obtain⟨_,_,_,_,_,_,rfl,_⟩:=h;rfl
noncomputable def kh:DSp:=fun ds U Q=>∃(d:Int) (u v:Int) (t:PyData) (q:Nat) (B:Bo d) (a b:RN d) (c r:Int),ds=[.v (.int d),.v (.tuple [.str "grid",.int u,.int v,t]),.v (.int (q % 4:Nat)),.v (bo B),.v (dN a.v),.v (dN b.v)]/\ah d/\GrP u v/\Bw 70000 8000000 B/\ps B.w/\ps B.h/\Bd 10000000 a.v/\Bd 10000000 b.v /\
 0<=c/\c<az q u v/\0<=r/\r<az q v u/\In (bR q u v B c r) a b/\Q (.v (bo (bR q u v B c r))) U
theorem tE{ds:List D}{U:Mu}{Q:DK}(h:kh ds U Q):ds.length=6:=by obtain⟨_,_,_,_,_,_,_,_,_,_,rfl,_⟩:=h;rfl
noncomputable def fv:DTS:=
 (aj (aq (ab 1) (cC 3 (ay (ae 2) (ay (ae 3) (ay (ae 4) cw)))))
 (aj (aq (ag mW (aa (aU (aU (ab 0) (ab 3)) (ab 3)) af)) (ae 5))
 (aj (aK (dB (dOp rLt (ab 3) (dC (.int 0)))) (aq (fu (sF (ab 5)) (dC (.int 1))) (ae 5)) aE)
 (aB (eo (cz (ab 2) (ab 5)) (ab 4))))))
noncomputable def kz:DTS:=
 (aj (aq (ab 0) (cC 4 (ay (ae 1) (ay (ae 2) (ay (ae 3) (ay (ae 4) cw))))))
 (aB (aT (aa (ab 1) (aa (ag aW (aa (ab 1) (aa (ab 3) af))) (aa (ab 2) (aa (ag aW (aa (ab 2) (aa (ab 4) af))) af)))))))
noncomputable def j6:DTS:=
 (aj (aq (ag j2 (aa (ab 1) af)) (cC 4 (ay (ae 4) (ay (ae 5) (ay (ae 6) (ay (ae 7) cw))))))
 (aj (aK (du (dB (ag f9 (aa (ab 0) (aa (ab 4) (aa (ab 2) af))))) (dB (ag f9 (aa (ab 0) (aa (ab 6) (aa (ab 3) af)))))) (aB (dC (.bool false))) aE)
 (aB (cL (ag f9 (aa (ab 0) (aa (ab 5) (aa (ab 2) af)))) (ag f9 (aa (ab 0) (aa (ab 7) (aa (ab 3) af))))))))
noncomputable def gK:DTS:=
 (aK (du (cx (dB (ag gD (aa (ab 2) af)))) (du (cx (dB (ag gD (aa (ab 3) af)))) (cx (dB (ag iF (aa (ab 0) (aa (aT (aa (dC (.tuple [.int 0,.int 0,.int 1])) (aa (dC (.tuple [.int 0,.int 0,.int 1])) (aa (dC (.tuple [.int 1,.int 0,.int 1])) (aa (ab 1) af))))) (aa (ab 2) (aa (ab 3) af))))))))) jH aE)
noncomputable def kx:DTS:=
 (aB (ia (cz (ab 0) (dC (.int 1))) (dC (.int 4))))
noncomputable def ot:DTS:=
 (aj (aq (ab 0) (cC 4 (ay (ae 1) (ay (ae 2) (ay (ae 3) (ay (ae 4) cw))))))
 (aB (aT (aa (ab 2) (aa (ab 1) (aa (ab 4) (aa (ab 3) af)))))))
theorem rD{d a b k:Int}(h:ah d)(h0:0<=sg d a b)(hk:0<=k):0<=sg d (a+k) b:=by
 by_cases h1:sg d a b=0
 ·obtain⟨rfl,rfl⟩:=iV.mp h1
  unfold sg
  split
  ·omega
  ·rw[if_pos ∅];omega
 ·have t:=oT d a b
  have p:=(cO h).mp (show sg d a b=1 by omega)
  rcases lt_or_eq_of_le hk with z|z
  ·have pk:P d k 0:=.inl ⟨∅,∅,∅⟩
   have q:=(cO h).mpr (En h p pk)
   rw[Int.add_zero] at q
   omega
  ·rw[<- z,Int.add_zero];omega
theorem b9.unique{d:Int}{x:N3}{u v:Int}(h:ah d)(ox:Ok x)(a:b9 d x u)(b:b9 d x v):u=v:=by
 have key:∀{p q:Int},b9 d x p->b9 d x q->¬ p<q:=fun {p q} hp hq l=>by
  have e:=Int.mul_le_mul_of_nonneg_right (show p+1<=q by omega) (le_of_lt ox.c)
  have m:=rD (k:=q*x.c-(p+1)*x.c) h hq.1 ∅
  rw[show x.a-q*x.c+(q*x.c-(p+1)*x.c)=x.a-(p+1)*x.c by omega] at m
  have:=hp.2
  omega
 have:=key a b
 have:=key b a
 omega
theorem AY{d b r:Int}(h:ah d)(hb:0<=b)(r0:0<=r)(h1:r*r<=d*b*b)(h2:d*b*b<(r+1)*(r+1)):0<=sg d (-r) b/\sg d (-(r+1)) b<0:=by
 by_cases hb0:b=0
 ·subst hb0
  simp only[Int.mul_zero] at h1
  have:r=0:=by
   rcases lt_or_eq_of_le r0 with z|z
   ·have:=mul_pos z z;omega
   ·omega
  subst this
  exact⟨by rw[show sg d (-0) 0=0 from iV.mpr ⟨rfl,rfl⟩];omega,by unfold sg;simp⟩
 ·have ne:r*r≠d*b*b:=fun e=>hb0 (h.rm e).2
  constructor
  ·by_cases hr:r=0
   ·subst hr
    rw[(cO h).mpr (.inl ⟨∅,hb,∅⟩)];omega
   ·rw[(cO h).mpr (.inr (.inr ⟨∅,∅,by rw[show -r * -r=r*r by grind];omega⟩))];omega
  ·have e:=k5 (d:=d) (a:=r+1) (b:=-b) h
   rw[neg_neg] at e
   rw[e,(cO h).mpr (.inr (.inl ⟨∅,∅,by rw[show d * -b * -b=d*b*b by grind];omega⟩))];omega
theorem Ao{d b r:Int}(h:ah d)(hb:b<0)(r0:0<=r)(h1:r*r<=d*b*b)(h2:d*b*b<(r+1)*(r+1)):0<=sg d (r+1) b/\sg d r b<0:=by
 have ne:r*r≠d*b*b:=fun e=>by have:=(h.rm e).2;omega
 constructor
 ·rw[(cO h).mpr (.inr (.inl ⟨∅,hb,h2⟩))];omega
 ·have e:=k5 (d:=d) (a:=-r) (b:=-b) h
  rw[neg_neg,neg_neg] at e
  by_cases hr:r=0
  ·subst hr
   rw[e,(cO h).mpr (.inl ⟨∅,∅,∅⟩)];omega
  ·rw[e,(cO h).mpr (.inr (.inr ⟨∅,∅,by rw[show -r * -r=r*r by grind,show d * -b * -b=d*b*b by grind];omega⟩))];omega
theorem uV{d B:Int}{x:N3}(h:ah d)(ox:Ok x)(h1:0<=sg d (-B) x.b)(h2:sg d (-(B+1)) x.b<0):b9 d x ((x.a+B).fdiv x.c):=by
 rw[Int.fdiv_eq_ediv_of_nonneg _ (le_of_lt ox.c)]
 have e1:=Int.emod_add_mul_ediv (x.a+B) x.c
 have e2:=Int.emod_nonneg (x.a+B) ox.cn
 have e3:=Int.emod_lt_of_pos (x.a+B) ox.c
 generalize (x.a+B) / x.c=w at *
 generalize (x.a+B) % x.c=r at *
 have ew:w*x.c=x.c*w:=Int.mul_comm ..
 have ew1:(w+1)*x.c=x.c*w+x.c:=by grind
 constructor
 ·have m:=rD (k:=r) h h1 e2
  rw[show -B+r=x.a-w*x.c by omega] at m
  exact m
 ·rw[ew1]
  rcases lt_or_le (sg d (x.a-(x.c*w+x.c)) x.b) 0 with z|z
  ·exact z
  ·have m:=rD (k:=x.c-r-1) h z ∅
   rw[show x.a-(x.c*w+x.c)+(x.c-r-1) = -(B+1) by omega] at m
   omega
section
variable {U:Mu}{Qd:DK}{ds:List D}
theorem k9(h:fG ds U Qd):fv ‹Qd› (ak ["d","x","a","b","c","beneath"] ds) U:=by
 obtain⟨d,x,c,rfl,hd,ox,bx,fc,q⟩:=h
 have s5:=eI hd.1 hd.2.1
 unfold fv
 walk_at "rb"
 refine⟨rfl,cg s5 bx.b ⋯,cg (s5.mul bx.b) bx.b ⋯,_,rfl,dsq (by have:=hd.1;omega),((s5.mul bx.b).mul bx.b).mono ⋯,fun r r0 r1 r2=>?_⟩
 walk_at "rb"
 have cn:=ox.cn
 by_cases hb:x.b<0
 ·rw[if_pos (by simpa using hb)]
  obtain⟨t1,t2⟩:=Ao hd hb r0 r1 r2
  refine⟨cn,?_⟩
  dsimp only
  rw[b9.unique hd ox (uV hd ox (by rw[show -(-r-1)=r+1 by omega];exact t1) (by rw[show -(-r-1+1)=r by omega];exact t2)) fc]
  exact q
 ·rw[if_neg (by simpa using hb)]
  obtain⟨t1,t2⟩:=AY hd ∅ r0 r1 r2
  refine⟨cn,?_⟩
  dsimp only
  rw[b9.unique hd ox (uV hd ox t1 t2) fc]
  exact q
theorem rC(h:j2 ds U Qd):kz ‹Qd› (ak ["tile","x","y","width","height"] ds) U:=by
 obtain⟨d,B,rfl,bw,q⟩:=h
 unfold kz bo
 walk_at "rb"
 refine⟨trivial,B.x.v,B.w.v,rfl,B.x.ok,B.w.ok,bw.x.mono ⋯,bw.w.mono ⋯,?_⟩
 walk_at "rb"
 exact⟨B.y.v,B.h.v,rfl,B.y.ok,B.h.ok,bw.y.mono ⋯,bw.h.mono ⋯,q⟩
theorem zM{d:Int}(hd:ah d)(x y:RN d):dif d x.v y.v=1↔ps (x-y):=by
 have e:=uO hd x.ok y.ok
 show CD d x.v y.v=1↔_
 rw[<- e];rfl
theorem l6{d:Int}(hd:ah d){x y:RN d}(h:ps (x-y)):decide (dif d x.v y.v=1)=true:=decide_eq_true ((zM hd x y).mpr h)
theorem lW{d:Int}(hd:ah d){x y:RN d}(h:¬ ps (x-y)):decide (dif d x.v y.v=1)=false:=decide_eq_false fun z=>h ((zM hd x y).mp z)
theorem sN(h:iF ds U Qd):j6 ‹Qd› (ak ["d","box","x","y","left","right","bottom","top"] ds) U:=by
 obtain⟨d,B,a,b,β,rfl,hd,bw,ba,bb,lm,q⟩:=h
 unfold j6
 walk_at "rb"
 refine⟨d,B,rfl,bw,?_⟩
 walk_at "rb"
 have ng:∀{u v:RN d},¬ ps (u-v)↔nn (v-u):=fun {u v}=>by unfold nn;rw[show -(v-u)=u-v by grind]
 have fin:∀{im:Bool},(im=true↔In B a b)->Qd (.v (.bool im)) U:=fun {im} h=>by
  have:im=β:=by rw[Bool.eq_iff_iff,h,lm]
  rw[this];exact q
 refine⟨trivial,d,_,_,rfl,hd,bw.x.mono ⋯,ba.mono ⋯,?_⟩
 by_cases c1:ps (B.x-a)
 ·rw[l6 hd c1]
  walk_at "rb"
  exact fin ⟨fun z=>(nomatch z),fun z=>absurd c1 (ng.mpr z.x0)⟩
 ·rw[lW hd c1]
  walk_at "rb"
  refine⟨d,_,_,rfl,hd,bw.y.mono ⋯,bb.mono ⋯,?_⟩
  by_cases c2:ps (B.y-b)
  ·rw[l6 hd c2]
   walk_at "rb"
   exact fin ⟨fun z=>(nomatch z),fun z=>absurd c2 (ng.mpr z.y0)⟩
  ·rw[lW hd c2]
   walk_at "rb"
   refine⟨d,_,_,rfl,hd,(bdA bw.x bw.w).mono ⋯,ba.mono ⋯,?_⟩
   by_cases c3:ps (B.x+B.w-a)
   ·rw[l6 hd c3]
    walk_at "rb"
    refine⟨d,_,_,rfl,hd,(bdA bw.y bw.h).mono ⋯,bb.mono ⋯,?_⟩
    by_cases c4:ps (B.y+B.h-b)
    ·rw[l6 hd c4]
     exact fin ⟨fun _=>⟨ng.mp c1,c3,ng.mp c2,c4⟩,fun _=>rfl⟩
    ·rw[lW hd c4]
     exact fin ⟨fun z=>(nomatch z),fun z=>absurd z.y1 c4⟩
   ·rw[lW hd c3]
    walk_at "rb"
    exact fin ⟨fun z=>(nomatch z),fun z=>absurd z.x1 c3⟩
theorem nT{d:Int}(x:RN d):isNum (dN x.v)=true:=by
 show (decide (1<=x.v.c)&&(g3 x.v.a x.v.b x.v.c==1))=true
 rw[decide_eq_true (show 1<=x.v.c from x.ok.c),x.ok.g];rfl
theorem mJ(h:gw ds U Qd):gK ‹Qd› (ak ["d","shape","x","y"] ds) U:=by
 obtain⟨d,x,a,b,rfl,hd,bx,ba,bb,hi,q⟩:=h
 unfold gK
 walk_at "rb"
 refine⟨_,rfl,wY,?_⟩
 rw[nT a]
 walk_at "rb"
 refine⟨_,rfl,wY,?_⟩
 rw[nT b]
 walk_at "rb"
 have b1:Bd 1 (1:RN d).v:=⟨Sz.of (by show (1:Int).natAbs<2;decide),Sz.of (by show (0:Int).natAbs<2;decide),Sz.of (by show (1:Int).natAbs<2;decide)⟩
 have b0:Bd 1 (0:RN d).v:=⟨Sz.of (by show (0:Int).natAbs<2;decide),Sz.of (by show (0:Int).natAbs<2;decide),Sz.of (by show (1:Int).natAbs<2;decide)⟩
 refine⟨d,fl x,a,b,true,rfl,hd,⟨b0.mono ⋯,b0.mono ⋯,b1.mono ⋯,bx⟩,ba,bb,⟨fun _=>hi,fun _=>rfl⟩,?_⟩
 walk_at "rb"
 exact q
theorem sX(h:sj ds U Qd):kx ‹Qd› (ak ["quarters"] ds) U:=by
 obtain⟨n,rfl,q⟩:=h
 unfold kx
 walk_at "rb"
 refine⟨⋯,?_⟩
 have e:(((n % 4:Nat):Int)+1).fmod 4=((n+1) % 4:Nat):=by rw[Int.fmod_eq_emod_of_nonneg _ ⋯];omega
 rw[e];exact q
theorem vC(h:cG ds U Qd):ot ‹Qd› (ak ["box","x","y","width","height"] ds) U:=by
 obtain⟨d,B,rfl,q⟩:=h
 unfold ot bo
 walk_at "rb"
 exact⟨trivial,q⟩
end
section
variable {d:Int}{ks:List N3}
theorem sR(l:List (RN d)):(aR l).v=jx (l.map (·.v)):=by
 have key:∀(l:List (RN d)) (a:RN d),(l.foldl (· + ·) a).v=(l.map (·.v)).foldl plus a.v:=fun l=>by
  induction l with
  |nil=>exact fun a=>rfl
  |cons z l ih=>exact fun a=>ih (a+z)
 exact key l 0
theorem xC{es:List (PyData×N3)}(h:∀e∈es,∃X:RN d,X.v=e.2/\ps X):∃es':List (PyData×RN d),(es'.map fun e=>(e.1,e.2.v))=es/\∀e∈es',ps e.2:=by
 induction es with
 |nil=>exact⟨[],rfl,fun _ z=>nomatch z⟩
 |cons e r ih=>
  obtain⟨X,h1,h2⟩:=h e (by simp)
  obtain⟨r',h3,h4⟩:=ih fun y hy=>h y (by simp[hy])
  refine⟨(e.1,X)::r',by rw[map_cons,h3,h1],fun y hy=>?_⟩
  rcases List.mem_cons.mp hy with z|z
  ·rw[z];exact h2
  ·exact h4 y z
inductive Vw(d:Int)(ks:List N3)(n:Nat):PyData->RN d->Prop
 |kind (i:Int) (k:RN d):0<=i->i<(ks.length:Nat)->ks[i.toNat]? = some k.v->ps k->Vw d ks n (.tuple [.str "kind",.int i]) k
 |turn (t:PyData) (x:RN d):SP d ks n t x.v->ps x->Bd 4300 x.v->Vw d ks n (.tuple [.str "turn",t]) (inv x)
 |grid (t:PyData) (x:RN d) (u v:Int):1<=u->1<=v->u<=1000000->v<=1000000->SP d ks n t x.v->ps x->Bd 4300 x.v->Vw d ks n (.tuple [.str "grid",.int u,.int v,t]) (x*((v:RN d)*inv (u:RN d)))
 |strip (up:Bool) (es:List (PyData×RN d)):2<=es.length->es.length<=8->(∀e∈es,SP d ks n e.1 e.2.v/\ps e.2/\Bd 4300 e.2.v)->(∀z∈aF up es,Bd 4300 z.v)->(∀j,Bd 4300 (aR ((aF up es).take j)).v)->Vw d ks n (.tuple [.str (wd up),.tuple (es.map (·.1))]) (whole up es)
theorem AL(hd:ah d){up:Bool}{es:List (PyData×RN d)}(h2:2<=es.length)(hp:∀e∈es,ps e.2):ps (whole up es):=by
 have s:=rQ hd (fz hd (up:=up) hp) (by unfold aF;intro z;rw[List.map_eq_nil_iff] at z;rw[z] at h2;simp at h2)
 unfold whole
 cases up
 ·exact cA hd s
 ·exact s
theorem Vw.pos(hd:ah d){n:Nat}{t:PyData}{X:RN d}(h:Vw d ks n t X):ps X:=by
 cases h with
 |kind i _ _ _ _ h=>exact h
 |turn t x _ h _=>exact cA hd h
 |grid t x u v hu hv _ _ _ h _=>exact bL hd h (bL hd (aN ∅) (cA hd (aN ∅)))
 |strip up es h2 _ h3 _ _=>exact AL hd h2 fun e he=>(h3 e he).2.1
theorem SP.vw(hd:ah d)(hk:∀k∈ks,Ok k/\sg d k.a k.b=1){n:Nat}{t:PyData}{x:N3}(h:SP d ks n t x):∃m,n=m+1/\∃X:RN d,X.v=x/\Vw d ks m t X:=by
 induction h with
 |@kind n i k h0 h1 h2=>
  obtain⟨ok,sk⟩:=hk k (mem_of_getElem? h2)
  exact⟨n,rfl,⟨k,ok⟩,rfl,.kind i ⟨k,ok⟩ h0 h1 h2 sk⟩
 |@turn n t x h1 g ih=>
  obtain⟨m,rfl,X,e,w⟩:=ih
  subst e
  exact⟨m+1,rfl,inv X,iE hd (w.pos hd),.turn t X h1 (w.pos hd) g.2.2⟩
 |@grid n t x u v hu hv hu' hv' h1 ox bx ih=>
  obtain⟨m,rfl,X,e,w⟩:=ih
  subst e
  refine⟨m+1,rfl,X*((v:RN d)*inv (u:RN d)),?_,.grid t X u v hu hv hu' hv' h1 (w.pos hd) bx⟩
  rw[iy hd ∅];rfl
 |@upon n es h2 h8 h1 ss ih=>
  obtain⟨es',e,hp⟩:=xC (d:=d) fun e he=>let ⟨m,_,X,h,w⟩:=ih e he;⟨X,h,w.pos hd⟩
  subst e
  have e1:(es'.map fun e=>(e.1,e.2.v)).map (·.2)=(aF true es').map (·.v):=by unfold aF;rw[map_map,map_map];rfl
  have e2:(es'.map fun e=>(e.1,e.2.v)).map (·.1)=es'.map (·.1):=by rw[map_map];rfl
  rw[e1] at ss ⊢
  rw[e2]
  refine⟨n,rfl,whole true es',sR _,.strip true es' (by simpa using h2) (by simpa using h8) (fun e he=>⟨h1 _ (mem_map_of_mem he),hp e he,?_⟩) (fun z hz=>(ss.1 _ (mem_map_of_mem hz)).2) fun j=>?_⟩
  ·exact (ss.1 e.2.v (mem_map_of_mem (by unfold aF;exact List.mem_map.mpr ⟨e,he,rfl⟩))).2
  ·rw[sR,map_take];exact ss.2 j
 |@beside n es h2 h8 h1 hg ss g ih=>
  obtain⟨es',e,hp⟩:=xC (d:=d) fun e he=>let ⟨m,_,X,h,w⟩:=ih e he;⟨X,h,w.pos hd⟩
  subst e
  have e1:((es'.map fun e=>(e.1,e.2.v)).map (·.2)).map (aA d)=(aF false es').map (·.v):=by
   unfold aF
   rw[map_map,map_map,map_map]
   exact map_congr_left fun e he=>(iE hd (hp e he)).symm
  have e2:(es'.map fun e=>(e.1,e.2.v)).map (·.1)=es'.map (·.1):=by rw[map_map];rfl
  rw[e1] at ss g ⊢
  rw[e2]
  have ne:aF false es'≠[]:=by unfold aF;intro z;rw[List.map_eq_nil_iff] at z;rw[z] at h2;simp at h2
  have sp:=rQ hd (fz hd (up:=false) hp) ne
  refine⟨n,rfl,whole false es',?_,.strip false es' (by simpa using h2) (by simpa using h8) (fun e he=>⟨h1 _ (mem_map_of_mem he),hp e he,(hg _ (mem_map_of_mem he)).2.2⟩) (fun z hz=>(ss.1 _ (mem_map_of_mem hz)).2) fun j=>?_⟩
  ·show (inv (aR (aF false es'))).v=_
   rw[iE hd sp,sR]
  ·rw[sR,map_take];exact ss.2 j
end
section
variable {d:Int}{ks:List N3}
theorem vA(hd:ah d){a X W:RN d}(h0:nn (a-X)):∀n:Nat,ps (X+((n:Int):RN d)*W-a)->∃c:Int,0<=c/\c<n/\nn (a-(X+(c:RN d)*W))/\ps (X+(c:RN d)*W+W-a)
 |0,h=>absurd h0 (by
   have e:-(a-X)=X+(((0:Nat):Int):RN d)*W-a:=by rw[show (((0:Nat):Int):RN d)=0 from rfl];grind
   intro z;apply z;rw[e];exact h)
 |n+1,h=>by
  rcases Classical.em (ps (X+((n:Int):RN d)*W-a)) with z|z
  ·obtain⟨c,h1,h2,h3⟩:=vA hd h0 n z
   exact⟨c,h1,∅,h3⟩
  ·refine⟨n,∅,∅,?_,?_⟩
   ·intro y;apply z;rwa [show -(a-(X+((n:Int):RN d)*W))=X+((n:Int):RN d)*W-a by grind] at y
   ·rw[show ((n+1:Nat):Int)=(n:Int)+1 by omega,tW,nE] at h
    rwa [show X+(((n:Int):RN d)+1)*W-a=X+((n:Int):RN d)*W+W-a by grind] at h
theorem DX(hd:ah d){q:Nat}{B:Bo d}{u v:Int}(hu:1<=u)(hv:1<=v){a b:RN d}(g:In B a b):∃c r,0<=c/\c<az q u v/\0<=r/\r<az q v u/\In (bR q u v B c r) a b:=by
 have p1:=bD (q:=q) hu hv
 have p2:=bD (q:=q) hv hu
 have i1:=inv_mul hd (aN (d:=d) p1)
 have i2:=inv_mul hd (aN (d:=d) p2)
 have e1:((az q u v).toNat:Int)=az q u v:=by omega
 have e2:((az q v u).toNat:Int)=az q v u:=by omega
 obtain⟨c,c0,c1,k1,k2⟩:=vA hd (W:=B.w*inv (az q u v:RN d)) g.x0 (az q u v).toNat (by
  have:=g.x1
  rw[e1]
  generalize inv (az q u v:RN d)=iu at *
  generalize (az q u v:RN d)=u' at *
  rwa [show B.x+u'*(B.w*iu)-a=B.x+B.w-a by grind])
 obtain⟨r,r0,r1,k3,k4⟩:=vA hd (W:=B.h*inv (az q v u:RN d)) g.y0 (az q v u).toNat (by
  have:=g.y1
  rw[e2]
  generalize inv (az q v u:RN d)=iu at *
  generalize (az q v u:RN d)=u' at *
  rwa [show B.y+u'*(B.h*iu)-b=B.y+B.h-b by grind])
 exact⟨c,r,c0,∅,r0,∅,k1,k2,k3,k4⟩
theorem uR(hd:ah d){x w a b:RN d}(x0:nn (a-x))(x1:ps (x+w-a)):∀{zs:List (RN d)} {s:RN d},nn (b-s)->ps (s+aR zs*w-b)->∃(j:Nat) (C:Bo d),(cb x w s zs)[j]? = some C/\In C a b
 |[],s,h0,h1=>absurd h0 (fun z=>z (by rw[dW] at h1;rwa [show s+0*w-b = -(b-s) by grind] at h1))
 |z::l,s,h0,h1=>by
  rcases Classical.em (ps (s+z*w-b)) with y|y
  ·exact⟨0,_,rfl,x0,x1,h0,y⟩
  ·have h0':nn (b-(s+z*w)):=fun k=>y (by rwa [show -(b-(s+z*w))=s+z*w-b by grind] at k)
   have h1':ps (s+z*w+aR l*w-b):=by rw[aV] at h1;rwa [show s+(z+aR l)*w-b=s+z*w+aR l*w-b by grind] at h1
   obtain⟨j,C,e,g⟩:=uR hd x0 x1 h0' h1'
   exact⟨j+1,C,by rw[cb,getElem?_cons_succ];exact e,g⟩
theorem uL(hd:ah d){x w a b:RN d}(x0:nn (a-x))(x1:ps (x+w-a)):∀{zs:List (RN d)} {s:RN d},ps (s-b)->nn (b-(s-aR zs*w))->∃(j:Nat) (C:Bo d),(bG x w s zs)[j]? = some C/\In C a b
 |[],s,h0,h1=>absurd h1 (fun z=>z (by rw[dW];rwa [show -(b-(s-0*w))=s-b by grind]))
 |z::l,s,h0,h1=>by
  rcases Classical.em (ps (s-z*w-b)) with y|y
  ·have h1':nn (b-(s-z*w-aR l*w)):=by rw[aV] at h1;rwa [show s-(z+aR l)*w=s-z*w-aR l*w by grind] at h1
   obtain⟨j,C,e,g⟩:=uL hd x0 x1 y h1'
   exact⟨j+1,C,by rw[bG,getElem?_cons_succ];exact e,g⟩
  ·refine⟨0,_,rfl,x0,x1,?_,?_⟩
   ·intro k;apply y;rwa [show -(b-(s-z*w))=s-z*w-b by grind] at k
   ·show ps (s-z*w+z*w-b);rwa [show s-z*w+z*w-b=s-b by grind]
theorem xb(hd:ah d){bk:Bool}{B:Bo d}{zs:List (RN d)}(ht:B.h=aR zs*B.w){a b:RN d}(g:In B a b):∃(j:Nat) (C:Bo d),(rise bk B zs)[j]? = some C/\In C a b:=by
 have g1:=g.y0
 have g2:=g.y1
 rw[ht] at g2
 unfold rise
 cases bk
 ·exact uR hd g.x0 g.x1 g1 g2
 ·refine uL hd g.x0 g.x1 (by rw[ht];exact g2) ?_
  rw[ht];rwa [show B.y+aR zs*B.w-aR zs*B.w=B.y by grind]
theorem yH(hd:ah d){q:Nat}{up:Bool}{es:List (PyData×RN d)}{B:Bo d}(r:Rat q (whole up es) B)(hp:∀e∈es,ps e.2)(hn:es≠[]){a b:RN d}(g:In B a b):∃(j:Nat) (C:Bo d),(aG q up B (aF up es))[j]? = some C/\In C a b:=by
 obtain⟨t1,t2⟩:=wN hd r (rQ hd (fz hd (up:=up) hp) (by unfold aF;simpa using hn))
 unfold aG
 cases hv:fe q up
 ·rw[if_neg ⋯]
  obtain⟨j,C,e,k⟩:=xb hd (bk:=bck q up) (B:=swp B) (t2 hv) g.swp
  exact⟨j,swp C,by rw[getElem?_map,e];rfl,k.swp⟩
 ·rw[if_pos rfl];exact xb hd (t1 hv) g
end
section
variable {d:Int}{ks:List N3}
noncomputable def tg:PyData->Str
 |.tuple (.str w::_)=>w
 |_=>"kind"
theorem tgE{w w':Str}{a b:List PyData}(h:PyData.tuple (.str w::a) = .tuple (.str w'::b)):w=w':=congrArg tg h
theorem AG{up:Bool}{w:Str}(h:w=wd up)(n1:w ≠ "upon")(n2:w ≠ "beside"):False:=by
 cases up
 ·exact n2 h
 ·exact n1 h
theorem AW(hd:ah d){q:Nat}{B:Bo d}{u v c r c' r':Int}(hu:1<=u)(hv:1<=v)(hw:ps B.w)(hh:ps B.h){a b:RN d}(g:In (bR q u v B c r) a b)(g':In (bR q u v B c' r') a b):c=c'/\r=r':=by
 obtain⟨f1,f2⟩:=jk hd hu hv hw hh g
 obtain⟨f3,f4⟩:=jk hd hu hv hw hh g'
 exact⟨b9.unique hd (RN.ok _) f1 f3,b9.unique hd (RN.ok _) f2 f4⟩
theorem wm(hd:ah d){q:Nat}{up:Bool}{es:List (PyData×RN d)}{B C C':Bo d}{i j:Nat}(hw:ps B.w)(hh:ps B.h)(hp:∀e∈es,ps e.2)(hj:(aG q up B (aF up es))[j]? = some C)(hi:(aG q up B (aF up es))[i]? = some C'){a b:RN d}(g:In C a b)(g':In C' a b):i=j:=by
 rcases Nat.lt_trichotomy i j with z|z|z
 ·exact absurd g' (gB hd hw hh hp hj hi z g)
 ·exact z
 ·exact absurd g (gB hd hw hh hp hi hj z g')
end
section
variable {d:Int}{ks:List N3}
noncomputable def tpl(u v:Int):Nat->Int×Int->Int×Int
 |0,p=>p
 |q+1,p=>(az q v u-1-(tpl u v q p).2,(tpl u v q p).1)
noncomputable def gIx(u v:Int):List (Int×Int):=(List.range v.toNat).flatMap fun r:Nat=>(List.range u.toNat).map fun c:Nat=>((c:Int),(r:Int))
noncomputable def hJ(q:Nat)(u v:Int)(B:Bo d):List (Bo d):=(gIx u v).map fun p=>bR q u v B (tpl u v q p).1 (tpl u v q p).2
inductive TL(d:Int)(ks:List N3):Nat->Nat->PyData->RN d->Bo d->List (Bo d×Int×Nat)->Prop
 |kind {n q:Nat} {B:Bo d} (i:Int) (k:RN d):0<=i->i<(ks.length:Nat)->ks[i.toNat]? = some k.v->ps k->TL d ks (n+1) q (.tuple [.str "kind",.int i]) k B [(B,i,q)]
 |turn {n q:Nat} {t:PyData} {x:RN d} {B:Bo d} {L:List (Bo d×Int×Nat)}:SP d ks n t x.v->ps x->Bd 4300 x.v->TL d ks n (q+1) t x B L->TL d ks (n+1) q (.tuple [.str "turn",t]) (inv x) B L
 |grid {n q:Nat} {t:PyData} {x:RN d} {B:Bo d} (u v:Int) (Ls:List (Bo d×List (Bo d×Int×Nat))):1<=u->1<=v->u<=1000000->v<=1000000->SP d ks n t x.v->ps x->Bd 4300 x.v->Ls.map (·.1)=hJ q u v B->(∀p∈Ls,TL d ks n q t x p.1 p.2) ->
   TL d ks (n+1) q (.tuple [.str "grid",.int u,.int v,t]) (x*((v:RN d)*inv (u:RN d))) B (Ls.map (·.2)).flatten
 |strip {n q:Nat} {B:Bo d} (up:Bool) (es:List (PyData×RN d)) (Ls:List (((PyData×RN d)×Bo d)×List (Bo d×Int×Nat))):2<=es.length->es.length<=8->(∀e∈es,SP d ks n e.1 e.2.v/\ps e.2/\Bd 4300 e.2.v)->(∀z∈aF up es,Bd 4300 z.v) ->
   Ls.map (·.1)=es.zip (aG q up B (aF up es))->(∀p∈Ls,TL d ks n q p.1.1.1 p.1.1.2 p.1.2 p.2)->TL d ks (n+1) q (.tuple [.str (wd up),.tuple (es.map (·.1))]) (whole up es) B (Ls.map (·.2)).flatten
theorem AK{u v:Int}{p:Int×Int}(h:p∈gIx u v):∀q:Nat,0<=(tpl u v q p).1/\(tpl u v q p).1<az q u v/\0<=(tpl u v q p).2/\(tpl u v q p).2<az q v u
 |0=>by
  unfold gIx at h
  simp only[List.mem_flatMap,List.mem_range,List.mem_map] at h
  obtain⟨r,hr,c,hc,rfl⟩:=h
  show 0<=(c:Int)/\(c:Int)<u/\0<=(r:Int)/\(r:Int)<v
  omega
 |q+1=>by
  have ih:=AK h q
  rw[j4,j4]
  show 0<=az q v u-1-(tpl u v q p).2/\az q v u-1-(tpl u v q p).2<az q v u/\0<=(tpl u v q p).1/\(tpl u v q p).1<az q u v
  omega
theorem wW{u v:Int}{p p':Int×Int}:∀q:Nat,tpl u v q p=tpl u v q p'->p=p'
 |0,h=>h
 |q+1,h=>by
  have h1:az q v u-1-(tpl u v q p).2=az q v u-1-(tpl u v q p').2:=congrArg Prod.fst h
  have h2:(tpl u v q p).1=(tpl u v q p').1:=congrArg Prod.snd h
  exact wW q (Prod.ext h2 ∅)
theorem xM{u v:Int}:∀(q:Nat) {c r:Int},0<=c->c<az q u v->0<=r->r<az q v u->∃p∈gIx u v,tpl u v q p=(c,r)
 |0,c,r,h1,h2,h3,h4=>by
  have h2':c<u:=h2
  have h4':r<v:=h4
  refine⟨(c,r),?_,rfl⟩
  unfold gIx
  simp only[List.mem_flatMap,List.mem_range,List.mem_map]
  exact⟨r.toNat,∅,c.toNat,∅,by rw[show ((c.toNat:Nat):Int)=c by omega,show ((r.toNat:Nat):Int)=r by omega]⟩
 |q+1,c,r,h1,h2,h3,h4=>by
  rw[j4] at h2 h4
  obtain⟨p,hp,e⟩:=xM (u:=u) (v:=v) q (c:=r) (r:=az q v u-1-c) h3 h4 ∅ ∅
  refine⟨p,hp,?_⟩
  show (az q v u-1-(tpl u v q p).2,(tpl u v q p).1)=_
  rw[e]
  show (az q v u-1-(az q v u-1-c),r)=(c,r)
  rw[show az q v u-1-(az q v u-1-c)=c by omega]
theorem zd(u v:Int):(gIx u v).Pairwise (·≠·):=by
 unfold gIx
 rw[List.pairwise_flatMap]
 refine⟨fun r _=>?_,?_⟩
 ·rw[List.pairwise_map]
  have nd:(List.range u.toNat).Pairwise (·≠·):=List.nodup_range
  refine nd.imp ?_
  intro a b h z
  exact h (Int.ofNat.inj (congrArg Prod.fst z))
 ·refine List.Pairwise.imp (R:=(·≠·)) (fun {a b} h x hx y hy z=>h ?_) List.nodup_range
  obtain⟨c,_,rfl⟩:=List.mem_map.mp hx
  obtain⟨c',_,rfl⟩:=List.mem_map.mp hy
  have:=congrArg Prod.snd z
  exact Int.ofNat.inj this
theorem TL.go{n q:Nat}{t:PyData}{x:RN d}{B:Bo d}{L:List (Bo d×Int×Nat)}(h:TL d ks n q t x B L):∀e∈L,Go d ks n q t x B e.1 e.2.1 e.2.2:=by
 induction h with
 |kind i k h0 h1 h2 h3=>
  intro e he
  rw[List.mem_singleton.mp he]
  exact .kind i k h0 h1 h2 h3
 |turn h1 h2 h3 _ ih=>exact fun e he=>.turn h1 h2 h3 (ih e he)
 |@grid n q t x B u v Ls h1 h2 h3 h4 h5 h6 h7 hL _ ih=>
  intro e he
  obtain⟨l,hl,hel⟩:=List.mem_flatten.mp he
  obtain⟨p,hp,rfl⟩:=List.mem_map.mp hl
  have hc:p.1∈hJ q u v B:=by rw[<- hL];exact mem_map_of_mem hp
  obtain⟨ix,hix,e1⟩:=List.mem_map.mp hc
  obtain⟨c0,c1,r0,r1⟩:=AK hix q
  have g:=ih p hp e hel
  rw[<- e1] at g
  exact .grid u v _ _ h1 h2 h3 h4 h5 h6 h7 c0 c1 r0 r1 g
 |@strip n q B up es Ls h1 h2 h3 h4 hL _ ih=>
  intro e he
  obtain⟨l,hl,hel⟩:=List.mem_flatten.mp he
  obtain⟨p,hp,rfl⟩:=List.mem_map.mp hl
  have hc:p.1∈es.zip (aG q up B (aF up es)):=by rw[<- hL];exact mem_map_of_mem hp
  obtain⟨j,hj⟩:=getElem?_of_mem hc
  obtain⟨k1,k2⟩:=List.getElem?_zip_eq_some.mp hj
  exact .strip up es j p.1.1 h1 h2 h3 h4 k1 k2 (ih p hp e hel)
noncomputable def J1{α:Type}(P:α->Prop)(L:List α):Prop:=∃pre e post,L=pre++e::post/\P e/\(∀z∈pre,¬ P z)/\∀z∈post,¬ P z
theorem J1.ix{α:Type}{P:α->Prop}{L:List α}{j:Nat}{e:α}(h:L[j]? = some e)(he:P e)(u:∀(i:Nat) (z:α),L[i]? = some z->P z->i=j):J1 P L:=by
 obtain⟨hj,ej⟩:=List.getElem?_eq_some_iff.mp h
 refine⟨L.take j,e,L.drop (j+1),?_,he,fun z hz pz=>?_,fun z hz pz=>?_⟩
 ·rw[<- ej,List.getElem_cons_drop,List.take_append_drop]
 ·obtain⟨i,hi⟩:=getElem?_of_mem hz
  rw[List.getElem?_take] at hi
  split at hi
  ·have:=u i z hi pz;omega
  ·cases hi
 ·obtain⟨i,hi⟩:=getElem?_of_mem hz
  rw[List.getElem?_drop] at hi
  have:=u _ z hi pz;omega
theorem J1.flat{α β:Type}{P:α->Prop}{f:β->List α}{R:β->Prop}{Ls:List β}(h:J1 R Ls)(g:∀p∈Ls,R p->J1 P (f p))(n:∀p∈Ls,∀z∈f p,P z->R p):J1 P (Ls.map f).flatten:=by
 obtain⟨pre,p,post,rfl,hp,h1,h2⟩:=h
 obtain⟨a,e,b,ea,he,k1,k2⟩:=g p (by simp) hp
 refine⟨(pre.map f).flatten++a,e,b++(post.map f).flatten,?_,he,fun z hz pz=>?_,fun z hz pz=>?_⟩
 ·rw[map_append,map_cons,flatten_append,List.flatten_cons,ea];simp only[List.append_assoc,cons_append]
 ·rcases List.mem_append.mp hz with y|y
  ·obtain⟨l,hl,hzl⟩:=List.mem_flatten.mp y
   obtain⟨p',hp',rfl⟩:=List.mem_map.mp hl
   exact h1 p' hp' (n p' (by simp[hp']) z hzl pz)
  ·exact k1 z y pz
 ·rcases List.mem_append.mp hz with y|y
  ·exact k2 z y pz
  ·obtain⟨l,hl,hzl⟩:=List.mem_flatten.mp y
   obtain⟨p',hp',rfl⟩:=List.mem_map.mp hl
   exact h2 p' hp' (n p' (by simp[hp']) z hzl pz)
theorem Fx{α:Type}{l:List α}(h:l.Pairwise (·≠·)){i j:Nat}{a:α}(hi:l[i]? = some a)(hj:l[j]? = some a):i=j:=by
 obtain⟨i1,e1⟩:=List.getElem?_eq_some_iff.mp hi
 obtain⟨j1,e2⟩:=List.getElem?_eq_some_iff.mp hj
 rcases Nat.lt_trichotomy i j with z|z|z
 ·exact absurd (e1.trans e2.symm) (List.pairwise_iff_getElem.mp h i j i1 j1 z)
 ·exact z
 ·exact absurd (e2.trans e1.symm) (List.pairwise_iff_getElem.mp h j i j1 i1 z)
theorem TL.one(hd:ah d){n q:Nat}{t:PyData}{x:RN d}{B:Bo d}{L:List (Bo d×Int×Nat)}(h:TL d ks n q t x B L){a b:RN d}:Rat q x B->In B a b->J1 (fun e=>In e.1 a b) L:=by
 induction h with
 |kind i k h0 h1 h2 h3=>exact fun _ g=>⟨[],_,[],rfl,g,fun _ z=>(nomatch z),fun _ z=>(nomatch z)⟩
 |turn h1 h2 h3 _ ih=>exact fun r g=>ih (kP hd h2 r) g
 |@grid n q t x B u v Ls h1 h2 h3 h4 h5 h6 h7 hL hT ih=>
  intro rr g
  obtain⟨c,r,c0,c1,r0,r1,k⟩:=DX hd (q:=q) h1 h2 g
  obtain⟨ix,hix,eix⟩:=xM q c0 c1 r0 r1
  obtain⟨j,hj⟩:=getElem?_of_mem hix
  have cell:∀{i:Nat} {p},Ls[i]? = some p->∃ix',(gIx u v)[i]? = some ix'/\p.1=bR q u v B (tpl u v q ix').1 (tpl u v q ix').2:=fun {i p} hi=>by
   have e:(Ls.map (·.1))[i]? = some p.1:=by rw[getElem?_map,hi];rfl
   rw[hL] at e
   unfold hJ at e
   rw[getElem?_map] at e
   obtain⟨ix',e1,e2⟩:=Option.map_eq_some_iff.mp e
   exact⟨ix',e1,e2.symm⟩
  have len:Ls.length=(gIx u v).length:=by have:=congrArg List.length hL;unfold hJ at this;simpa using this
  have jl:j<Ls.length:=by rw[len];exact (List.getElem?_eq_some_iff.mp hj).1
  have hLj:=List.getElem?_eq_getElem jl
  generalize Ls[j]=p at hLj
  have one:J1 (fun p:Bo d×List (Bo d×Int×Nat)=>In p.1 a b) Ls:=by
   refine J1.ix hLj ?_ fun i z hi pz=>?_
   ·obtain⟨ix',e1,e2⟩:=cell hLj
    rw[hj] at e1;cases e1
    rw[e2,eix];exact k
   ·obtain⟨ix',e1,e2⟩:=cell hi
    rw[e2] at pz
    obtain⟨y1,y2⟩:=AW hd h1 h2 rr.w rr.h pz k
    have:ix'=ix:=wW q (by rw[eix];exact Prod.ext y1 y2)
    rw[this] at e1
    exact Fx (zd u v) e1 hj
  have rat:∀p∈Ls,Rat q x p.1:=fun p hp=>by
   obtain⟨i,hi⟩:=getElem?_of_mem hp
   obtain⟨ix',e1,e2⟩:=cell hi
   rw[e2];exact gZ hd _ _ h1 h2 rr
  exact one.flat (fun p hp k=>ih p hp (rat p hp) k) fun p hp z hz pz=>((hT p hp).go z hz).sub hd (rat p hp) pz
 |@strip n q B up es Ls h1 h2 h3 h4 hL hT ih=>
  intro rr g
  have hp:∀e∈es,ps e.2:=fun e he=>(h3 e he).2.1
  obtain⟨j,C,e,k⟩:=yH hd rr hp (fun z=>by rw[z] at h1;simp at h1) g
  have at_:∀{i:Nat} {p},Ls[i]? = some p->es[i]? = some p.1.1/\(aG q up B (aF up es))[i]? = some p.1.2:=fun {i p} hi=>by
   have e:(Ls.map (·.1))[i]? = some p.1:=by rw[getElem?_map,hi];rfl
   rw[hL] at e
   exact List.getElem?_zip_eq_some.mp e
  have sl:(aG q up B (aF up es)).length=es.length:=by rw[gC];unfold aF;rw[length_map]
  have len:Ls.length=es.length:=by have:=congrArg List.length hL;rw[length_map,List.length_zip,sl,Nat.min_self] at this;exact this
  have jl:j<Ls.length:=by rw[len,<- sl];exact (List.getElem?_eq_some_iff.mp e).1
  have hLj:=List.getElem?_eq_getElem jl
  generalize Ls[j]=p at hLj
  have one:J1 (fun p:((PyData×RN d)×Bo d)×List (Bo d×Int×Nat)=>In p.1.2 a b) Ls:=by
   refine J1.ix hLj ?_ fun i z hi pz=>?_
   ·have:=(at_ hLj).2
    rw[e] at this;cases this;exact k
   ·exact wm hd rr.w rr.h hp e (at_ hi).2 k pz
  have rat:∀p∈Ls,Rat q p.1.1.2 p.1.2:=fun p hp'=>by
   obtain⟨i,hi⟩:=getElem?_of_mem hp'
   exact fY hd rr.w rr.h hp (at_ hi).1 (at_ hi).2
  exact one.flat (fun p hp k=>ih p hp (rat p hp) k) fun p hp z hz pz=>((hT p hp).go z hz).sub hd (rat p hp) pz
noncomputable def mvT(f a b:RN d)(e:Bo d×Int×Nat):Bo d×Int×Nat:=(mv f a b e.1,e.2)
noncomputable def qtT(a:RN d)(e:Bo d×Int×Nat):Bo d×Int×Nat:=(qt a e.1,e.2.1,e.2.2+1)
theorem ku{α β γ:Type}(f:γ->List α)(g:α->β)(Ls:List γ):((Ls.map f).flatten).map g=(Ls.map fun p=>(f p).map g).flatten:=by
 rw[List.map_flatten,map_map];rfl
theorem TL.mv{n q:Nat}{t:PyData}{x:RN d}{B:Bo d}{L:List (Bo d×Int×Nat)}(h:TL d ks n q t x B L)(f a b:RN d):TL d ks n q t x (mv f a b B) (L.map (mvT f a b)):=by
 induction h with
 |kind i k h0 h1 h2 h3=>exact .kind i k h0 h1 h2 h3
 |turn h1 h2 h3 _ ih=>exact .turn h1 h2 h3 ih
 |@grid n q t x B u v Ls h1 h2 h3 h4 h5 h6 h7 hL _ ih=>
  rw[ku]
  have:=TL.grid (d:=d) (ks:=ks) (n:=n) (q:=q) (t:=t) (x:=x) (B:=L2.DL.mv f a b B) u v (Ls.map fun p=>(L2.DL.mv f a b p.1,p.2.map (mvT f a b))) h1 h2 h3 h4 h5 h6 h7 ?_ fun p hp=>?_
  ·rw[map_map] at this;exact this
  ·rw[map_map]
   show Ls.map (fun p=>L2.DL.mv f a b p.1)=_
   rw[show (fun p:Bo d×List (Bo d×Int×Nat)=>L2.DL.mv f a b p.1)=L2.DL.mv f a b ∘ (·.1) from rfl,<- map_map,hL]
   unfold hJ
   rw[map_map]
   exact map_congr_left fun p _=>(zR q u v _ _ f a b B).symm
  ·obtain⟨p',hp',rfl⟩:=List.mem_map.mp hp
   exact ih p' hp'
 |@strip n q B up es Ls h1 h2 h3 h4 hL _ ih=>
  rw[ku]
  have:=TL.strip (d:=d) (ks:=ks) (n:=n) (q:=q) (B:=L2.DL.mv f a b B) up es (Ls.map fun p=>((p.1.1,L2.DL.mv f a b p.1.2),p.2.map (mvT f a b))) h1 h2 h3 h4 ?_ fun p hp=>?_
  ·rw[map_map] at this;exact this
  ·rw[map_map]
   show Ls.map (fun p=>(p.1.1,L2.DL.mv f a b p.1.2))=_
   rw[show (fun p:((PyData×RN d)×Bo d)×List (Bo d×Int×Nat)=>(p.1.1,L2.DL.mv f a b p.1.2))=(fun p:(PyData×RN d)×Bo d=>(p.1,L2.DL.mv f a b p.2)) ∘ (·.1) from rfl,<- map_map,hL,yr]
   rw[List.zip_map_right]
   rfl
  ·obtain⟨p',hp',rfl⟩:=List.mem_map.mp hp
   exact ih p' hp'
theorem TL.qt(hd:ah d){n q:Nat}{t:PyData}{x:RN d}{B:Bo d}{L:List (Bo d×Int×Nat)}(h:TL d ks n q t x B L)(a:RN d):TL d ks n (q+1) t x (qt a B) (L.map (qtT a)):=by
 induction h with
 |kind i k h0 h1 h2 h3=>exact .kind i k h0 h1 h2 h3
 |turn h1 h2 h3 _ ih=>exact .turn h1 h2 h3 ih
 |@grid n q t x B u v Ls h1 h2 h3 h4 h5 h6 h7 hL _ ih=>
  rw[ku]
  have:=TL.grid (d:=d) (ks:=ks) (n:=n) (q:=q+1) (t:=t) (x:=x) (B:=L2.DL.qt a B) u v (Ls.map fun p=>(L2.DL.qt a p.1,p.2.map (qtT a))) h1 h2 h3 h4 h5 h6 h7 ?_ fun p hp=>?_
  ·rw[map_map] at this;exact this
  ·rw[map_map]
   show Ls.map (fun p=>L2.DL.qt a p.1)=_
   rw[show (fun p:Bo d×List (Bo d×Int×Nat)=>L2.DL.qt a p.1)=L2.DL.qt a ∘ (·.1) from rfl,<- map_map,hL]
   unfold hJ
   rw[map_map]
   exact map_congr_left fun p _=>(AJ hd a B _ (bD h2 h1)).symm
  ·obtain⟨p',hp',rfl⟩:=List.mem_map.mp hp
   exact ih p' hp'
 |@strip n q B up es Ls h1 h2 h3 h4 hL _ ih=>
  rw[ku]
  have:=TL.strip (d:=d) (ks:=ks) (n:=n) (q:=q+1) (B:=L2.DL.qt a B) up es (Ls.map fun p=>((p.1.1,L2.DL.qt a p.1.2),p.2.map (qtT a))) h1 h2 h3 h4 ?_ fun p hp=>?_
  ·rw[map_map] at this;exact this
  ·rw[map_map]
   show Ls.map (fun p=>(p.1.1,L2.DL.qt a p.1.2))=_
   rw[show (fun p:((PyData×RN d)×Bo d)×List (Bo d×Int×Nat)=>(p.1.1,L2.DL.qt a p.1.2))=(fun p:(PyData×RN d)×Bo d=>(p.1,L2.DL.qt a p.2)) ∘ (·.1) from rfl,<- map_map,hL,yW]
   rw[List.zip_map_right]
   rfl
  ·obtain⟨p',hp',rfl⟩:=List.mem_map.mp hp
   exact ih p' hp'
end
noncomputable def i7:DTS:=
 (aj (oi 4 5 (aa (dOp ai (ab 1) (dC (.int 1))) (aa (dOp ai (ab 1) (dC (.int 2))) af)))
 (aj (aK (dB (dOp (aJ false) (ia (ab 2) (dC (.int 2))) (dC (.int 1)))) (oi 4 5 (aa (ab 5) (aa (ab 4) af))) aE)
 (aB (aT (aa (ag gy (aa (ab 0) (aa (dOp ai (ab 3) (dC (.int 2))) (aa (aT (aa (ab 4) (aa (dC (.int 0)) (aa (dC (.int 1)) af)))) af)))) (aa (ag gy (aa (ab 0) (aa (dOp ai (ab 3) (dC (.int 3))) (aa (aT (aa (ab 5) (aa (dC (.int 0)) (aa (dC (.int 1)) af)))) af)))) af))))))
noncomputable def l5:DTS:=
 (aj (aq (ag a7 (aa (ab 0) (aa (aT (aa (ab 4) (aa (dC (.int 0)) (aa (dC (.int 1)) af)))) (aa (ab 2) af)))) (ae 6))
 (aj (aq (ag a7 (aa (ab 0) (aa (aT (aa (ab 5) (aa (dC (.int 0)) (aa (dC (.int 1)) af)))) (aa (ab 3) af)))) (ae 7))
 (aB (aT (aa (ag aW (aa (dOp ai (ab 1) (dC (.int 0))) (aa (ab 6) af))) (aa (ag aW (aa (dOp ai (ab 1) (dC (.int 1))) (aa (ab 7) af))) (aa (ab 2) (aa (ab 3) af))))))))
noncomputable def oO:DTS:=
 (aj (aq (ag m6 (aa (ab 0) (aa (ab 1) (aa (ab 2) (aa (ab 3) af))))) (cC 2 (ay (ae 6) (ay (ae 7) cw))))
 (aj (aq (ag fG (aa (ab 0) (aa (ag gy (aa (ab 0) (aa (ag jK (aa (ab 4) (aa (dOp ai (ab 3) (dC (.int 0))) af))) (aa (ab 6) af)))) af))) (ae 8))
 (aj (aq (ag fG (aa (ab 0) (aa (ag gy (aa (ab 0) (aa (ag jK (aa (ab 5) (aa (dOp ai (ab 3) (dC (.int 1))) af))) (aa (ab 7) af)))) af))) (ae 9))
 (aB (ag km (aa (ab 0) (aa (ab 3) (aa (ab 6) (aa (ab 7) (aa (ab 8) (aa (ab 9) af)))))))))))
section
variable {U:Mu}{Qd:DK}{ds:List D}
theorem mU{d:Int}(hd:ah d){a b:RN d}(hb:ps b):times d a.v (aA d b.v)=(a*inv b).v:=by show _=times d a.v (inv b).v;rw[iE hd hb]
theorem xU{d:Int}{b:RN d}(hb:ps b):b.v≠cy:=fun e=>by
 have:b=0:=RN.ext e
 exact IY (this▸hb)
theorem x9(q:Nat)(u v:Int):(if (((q % 4:Nat):Int).fmod 2=1) then v else u)=az q u v:=by
 unfold az
 rw[Int.fmod_eq_emod_of_nonneg _ ⋯]
 split<;>split<;>first|rfl|omega
theorem qg(h:m6 ds U Qd):i7 ‹Qd› (ak ["d","plan","quarters","box","columns","rows"] ds) U:=by
 obtain⟨d,u,v,t,q,B,rfl,hd,⟨hu,hv,hu',hv'⟩,bw,qd⟩:=h
 have key:∀{cu cv:Int},1<=cu->1<=cv->cu<=1000000->cv<=1000000->az q u v=cu->az q v u=cv ->
   aB (aT (aa (ag gy (aa (ab 0) (aa (dOp ai (ab 3) (dC (.int 2))) (aa (aT (aa (ab 4) (aa (dC (.int 0)) (aa (dC (.int 1)) af)))) af)))) (aa (ag gy (aa (ab 0) (aa (dOp ai (ab 3) (dC (.int 3))) (aa (aT (aa (ab 5) (aa (dC (.int 0)) (aa (dC (.int 1)) af)))) af)))) af)))
    ‹Qd› [some (.v (.int d)),some (.v (.tuple [.str "grid",.int u,.int v,t])),some (.v (.int (q % 4:Nat))),some (.v (bo B)),some (.v (.int cu)),some (.v (.int cv))] U:=fun {cu cv} h1 h2 h3 h4 e1 e2=>by
  have p1:=aN (d:=d) (n:=cu) ∅
  have p2:=aN (d:=d) (n:=cv) ∅
  unfold bo
  walk_at "rb"
  refine⟨d,B.w.v,(cu:RN d).v,rfl,hd,B.w.ok,(cu:RN d).ok,xU p1,bw.w.mono ⋯,(bdC (d:=d) ∅ h3).mono ⋯,?_⟩
  walk_at "rb"
  refine⟨d,B.h.v,(cv:RN d).v,rfl,hd,B.h.ok,(cv:RN d).ok,xU p2,bw.h.mono ⋯,(bdC (d:=d) ∅ h4).mono ⋯,?_⟩
  rw[mU hd p1,mU hd p2,<- e1,<- e2]
  exact qd
 have cq:=x9 q u v
 have cq':=x9 q v u
 unfold i7
 walk_at "rb"
 refine⟨⋯,?_⟩
 by_cases c:((q % 4:Nat):Int).fmod 2=1
 ·rw[if_pos c] at cq cq'
  rw[if_pos (decide_eq_true c)]
  exact key hv hu hv' hu' cq.symm cq'.symm
 ·rw[if_neg c] at cq cq'
  rw[if_neg (by rw[decide_eq_true_eq];exact c)]
  exact key hu hv hu' hv' cq.symm cq'.symm
theorem uG(h:km ds U Qd):l5 ‹Qd› (ak ["d","box","width","height","column","row","right","up"] ds) U:=by
 obtain⟨d,B,W,H,c,r,rfl,hd,bw,bW,bH,c0,c1,r0,r1,q⟩:=h
 have s5:=eI hd.1 hd.2.1
 have bc:=bdC (d:=d) c0 c1
 have br:=bdC (d:=d) r0 r1
 unfold l5
 walk_at "rb"
 refine⟨d,(c:RN d).v,W.v,rfl,s5,(c:RN d).ok,W.ok,bc.mono ⋯,bW.mono ⋯,?_⟩
 walk_at "rb"
 refine⟨d,(r:RN d).v,H.v,rfl,s5,(r:RN d).ok,H.ok,br.mono ⋯,bH.mono ⋯,?_⟩
 unfold bo
 walk_at "rb"
 refine⟨B.x.v,((c:RN d)*W).v,rfl,B.x.ok,((c:RN d)*W).ok,bw.x.mono ⋯,(bdM hd bc bW).mono ⋯,?_⟩
 walk_at "rb"
 refine⟨B.y.v,((r:RN d)*H).v,rfl,B.y.ok,((r:RN d)*H).ok,bw.y.mono ⋯,(bdM hd br bH).mono ⋯,?_⟩
 exact q
theorem vU(h:kh ds U Qd):oO ‹Qd› (ak ["d","plan","quarters","box","x","y","width","height","column","row"] ds) U:=by
 obtain⟨d,u,v,t,q,B,a,b,c,r,rfl,hd,g,bw,hw,hh,ba,bb,c0,c1,r0,r1,hi,qd⟩:=h
 obtain⟨f1,f2⟩:=jk hd g.1 g.2.1 hw hh hi
 have cu:=bD (q:=q) g.1 g.2.1
 have cv:=bD (q:=q) g.2.1 g.1
 have lu:=mY (q:=q) g.2.2.1 g.2.2.2
 have lv:=mY (q:=q) g.2.2.2 g.2.2.1
 have pu:=aN (d:=d) cu
 have pv:=aN (d:=d) cv
 have W:=bdM hd bw.w (bdI hd pu (bdC ∅ lu))
 have H:=bdM hd bw.h (bdI hd pv (bdC ∅ lv))
 have pW:=bL hd hw (cA hd pu)
 have pH:=bL hd hh (cA hd pv)
 unfold oO
 walk_at "rb"
 refine⟨d,u,v,t,q,B,rfl,hd,g,bw,?_⟩
 walk_at "rb"
 unfold bo
 walk_at "rb"
 refine⟨trivial,a.v,B.x.v,rfl,a.ok,B.x.ok,ba.mono ⋯,bw.x.mono ⋯,?_⟩
 walk_at "rb"
 have dX:=bdS ba bw.x
 have dY:=bdS bb bw.y
 refine⟨d,(a-B.x).v,(B.w*inv (az q u v:RN d)).v,rfl,hd,(a-B.x).ok,RN.ok _,xU pW,dX.mono ⋯,W.mono ⋯,?_⟩
 walk_at "rb"
 rw[mU hd pW]
 refine⟨d,_,c,rfl,hd,RN.ok _,(bdM hd dX (bdI hd pW W)).mono ⋯,f1,?_⟩
 walk_at "rb"
 refine⟨b.v,B.y.v,rfl,b.ok,B.y.ok,bb.mono ⋯,bw.y.mono ⋯,?_⟩
 walk_at "rb"
 refine⟨d,(b-B.y).v,(B.h*inv (az q v u:RN d)).v,rfl,hd,(b-B.y).ok,RN.ok _,xU pH,dY.mono ⋯,H.mono ⋯,?_⟩
 walk_at "rb"
 rw[mU hd pH]
 refine⟨d,_,r,rfl,hd,RN.ok _,(bdM hd dY (bdI hd pH H)).mono ⋯,f2,?_⟩
 walk_at "rb"
 exact⟨d,B,_,_,c,r,rfl,hd,bw,W.mono ⋯,H.mono ⋯,c0,∅,r0,∅,qd⟩
end
noncomputable def gG:DTS:=
 (aj (aq (ab 2) (cC 4 (ay (ae 4) (ay (ae 5) (ay (ae 6) (ay (ae 7) cw))))))
 (aj (aq (i4 af) (ae 8))
 (aj (aq (dIf (dB (ab 3)) (ag aW (aa (ab 5) (aa (ab 7) af))) (ab 5)) (ae 9))
 (aj (ik (a9 (ab 1)) (ae 10) (aj (aq (ag a7 (aa (ab 0) (aa (ab 10) (aa (ab 6) af)))) (ae 11))
 (aj (aK (dB (ab 3)) (aq (ag jK (aa (ab 9) (aa (ab 11) af))) (ae 9)) aE)
 (aj (dj (lp (ab 8) (aT (aa (ab 4) (aa (ab 9) (aa (ab 6) (aa (ab 11) af)))))))
 (aK (cx (dB (ab 3))) (aq (ag aW (aa (ab 9) (aa (ab 11) af))) (ae 9)) aE)))))
 (aB (ab 8))))))
section
variable {U:Mu}{Qd:DK}{ds:List D}
theorem drop_cons{α:Type}{L:List α}{i:Nat}{a:α}{r:List α}(h:L.drop i=a::r):L.take (i+1)=L.take i++[a]/\L.drop (i+1)=r:=by
 have e:L[i]? = some a:=by rw[<- List.head?_drop,h];rfl
 refine⟨?_,?_⟩
 ·rw[List.take_add_one,e];rfl
 ·rw[<- List.tail_drop,h];rfl
noncomputable def Ja{d:Int}(bk:Bool)(x w s:RN d)(zs:List (RN d)):List (Bo d):=if bk=true then bG x w s zs else cb x w s zs
theorem mL(h:hW ds U Qd):gG ‹Qd› (ak ["d","sizes","box","backward","x","y","width","height","boxes","start","size","high"] ds) U:=by
 obtain⟨d,zs,B,bk,rfl,⟨hd,bw,bz,hl⟩,q⟩:=h
 have s5:=eI hd.1 hd.2.1
 have loop:∀(p:Addr) (s:RN d) Y,U p=none->gP U Y->Y p=some []->Bd 8070001 s.v->Ja bk B.x B.w s zs=rise bk B zs ->
   (aj (ik (a9 (ab 1)) (ae 10) (aj (aq (ag a7 (aa (ab 0) (aa (ab 10) (aa (ab 6) af)))) (ae 11))
 (aj (aK (dB (ab 3)) (aq (ag jK (aa (ab 9) (aa (ab 11) af))) (ae 9)) aE)
 (aj (dj (lp (ab 8) (aT (aa (ab 4) (aa (ab 9) (aa (ab 6) (aa (ab 11) af)))))))
 (aK (cx (dB (ab 3))) (aq (ag aW (aa (ab 9) (aa (ab 11) af))) (ae 9)) aE)))))
 (aB (ab 8))) ‹Qd› [some (.v (.int d)),some (.v (.list (zs.map fun z=>dN z.v))),some (.v (bo B)),some (.v (.bool bk)),some (.v (dN B.x.v)),some (.v (dN B.y.v)),some (.v (dN B.w.v)),some (.v (dN B.h.v)),some (.m p),some (.v (dN s.v)),none,none] Y:=fun p s Y hp sb hm bs hr=>by
  rw[jd,fK]
  walk_at "rb"
  refine⟨fun i ρ Z=>∃(s:RN d) (r1 r2:Option D),ρ=[some (.v (.int d)),some (.v (.list (zs.map fun z=>dN z.v))),some (.v (bo B)),some (.v (.bool bk)),some (.v (dN B.x.v)),some (.v (dN B.y.v)),some (.v (dN B.w.v)),some (.v (dN B.h.v)),some (.m p),some (.v (dN s.v)),r1,r2] /\
   Ja bk B.x B.w s (zs.drop i)=(rise bk B zs).drop i/\Bd (8070001+i*75000) s.v/\gP U Z/\Z p=some (((rise bk B zs).take i).map bo),⟨s,_,_,rfl,hr,bs,sb,hm⟩,?_,?_⟩
  ·rintro i y ρ ac hy ⟨s,r1,r2,rfl,hr,bs,sb,hm⟩
   rw[getElem?_map] at hy
   obtain⟨z,hz,rfl⟩:=Option.map_eq_some_iff.mp hy
   have hi:=(List.getElem?_eq_some_iff.mp hz).1
   have dr:zs.drop i=z::zs.drop (i+1):=by rw[List.drop_eq_getElem_cons hi,(List.getElem?_eq_some_iff.mp hz).2]
   have zb:=bz z (mem_of_getElem? hz)
   have bM:=bdM hd zb bw.w
   rw[dr] at hr
   walk_at "rb"
   refine⟨d,z.v,B.w.v,rfl,s5,z.ok,B.w.ok,zb.mono ⋯,bw.w.mono ⋯,?_⟩
   have hlen:(List.map bo (List.take i (rise bk B zs))).length<1000:=by rw[length_map,length_take,fg];omega
   cases bk
   ·obtain⟨t1,t2⟩:=drop_cons hr.symm
    walk_at "rb"
    rw[hm]
    refine⟨hlen,?_⟩
    refine⟨s.v,(z*B.w).v,rfl,s.ok,RN.ok _,bs.mono ∅,bM.mono ⋯,?_⟩
    refine⟨s+z*B.w,_,_,rfl,t2.symm,(bdA bs bM).mono ∅,sb.set hp,?_⟩
    rw[av,t1,map_append];rfl
   ·obtain⟨t1,t2⟩:=drop_cons hr.symm
    walk_at "rb"
    refine⟨s.v,(z*B.w).v,rfl,s.ok,RN.ok _,bs.mono ∅,bM.mono ⋯,?_⟩
    walk_at "rb"
    rw[hm]
    refine⟨hlen,?_⟩
    refine⟨s-z*B.w,_,_,rfl,t2.symm,(bdS bs bM).mono ∅,sb.set hp,?_⟩
    rw[av,t1,map_append];rfl
  ·rintro ρ ac ⟨s,r1,r2,rfl,hr,bs,sb,hm⟩
   walk_at "rb"
   refine q p ac hp sb ?_
   rw[hm,length_map,<- fg (bk:=bk) (B:=B) (zs:=zs),take_length]
 unfold gG bo
 walk_at "rb"
 refine⟨trivial,fun p hp=>?_⟩
 cases bk
 ·exact loop p B.y _ hp (gP.refl.set hp) av (bw.y.mono ⋯) rfl
 ·refine⟨B.y.v,B.h.v,rfl,B.y.ok,B.h.ok,bw.y.mono ⋯,bw.h.mono ⋯,?_⟩
  exact loop p (B.y+B.h) _ hp (gP.refl.set hp) av (bdA bw.y bw.h) rfl
end
theorem SP.up{d:Int}{ks:List N3}{n:Nat}{t:PyData}{x:N3}(h:SP d ks n t x):∀{m:Nat},n<=m->SP d ks m t x:=by
 induction h with
 |kind i k a b c=>intro m l;obtain⟨m,rfl⟩:∃k,m=k+1:=⟨m-1,∅⟩;exact .kind i k a b c
 |turn _ g ih=>intro m l;obtain⟨m,rfl⟩:∃k,m=k+1:=⟨m-1,∅⟩;exact .turn (ih ∅) g
 |grid u v a b c e _ f g ih=>intro m l;obtain⟨m,rfl⟩:∃k,m=k+1:=⟨m-1,∅⟩;exact .grid u v a b c e (ih ∅) f g
 |upon es a b _ s ih=>intro m l;obtain⟨m,rfl⟩:∃k,m=k+1:=⟨m-1,∅⟩;exact .upon es a b (fun e he=>ih e he ∅) s
 |beside es a b _ s1 s2 s3 ih=>intro m l;obtain⟨m,rfl⟩:∃k,m=k+1:=⟨m-1,∅⟩;exact .beside es a b (fun e he=>ih e he ∅) s1 s2 s3
structure StP(d:Int)(ks:List N3)(up:Bool)(es:List (PyData×RN d)):Prop where
 l2:2<=es.length
 l8:es.length<=8
 sp:∀e∈es,Sh e.1/\SP d ks 13 e.1 e.2.v/\ps e.2/\Bd 4300 e.2.v
 sz:∀z∈aF up es,Bd 4300 z.v
noncomputable def kT:DSp:=fun ds U Q=>∃(d:Int) (ks:List N3) (up:Bool) (es:List (PyData×RN d)) (q:Nat) (B:Bo d),ds=[.v (.int d),.v (.tuple (ks.map dN)),.v (.tuple [.str (wd up),.tuple (es.map (·.1))]),.v (.int (q % 4:Nat)),.v (bo B)]/\ah d/\StP d ks up es/\Bw 70000 8000000 B /\
 ∀Z,(∀b ds,U b=some ds->Z b=some ds)->Q (.v (.list ((aG q up B (aF up es)).map bo))) Z
theorem tG{ds:List D}{U:Mu}{Q:DK}(h:kT ds U Q):ds.length=5:=by obtain⟨_,_,_,_,_,_,rfl,_⟩:=h;rfl
noncomputable def kJ:DSp:=fun ds U Q=>∃(d:Int) (ks:List N3) (up:Bool) (es:List (PyData×RN d)) (q:Nat) (B C:Bo d) (a b:RN d) (j:Nat) (e:PyData×RN d),ds=[.v (.int d),.v (.tuple (ks.map dN)),.v (.tuple [.str (wd up),.tuple (es.map (·.1))]),.v (.int (q % 4:Nat)),.v (bo B),.v (dN a.v),.v (dN b.v)]/\ah d/\StP d ks up es/\Bw 70000 8000000 B /\
 ps B.w/\ps B.h/\Bd 10000000 a.v/\Bd 10000000 b.v/\es[j]? = some e/\(aG q up B (aF up es))[j]? = some C/\In C a b/\∀Z,(∀b ds,U b=some ds->Z b=some ds)->Q (.v (.tuple [e.1,bo C])) Z
theorem sD{ds:List D}{U:Mu}{Q:DK}(h:kJ ds U Q):ds.length=7:=by obtain⟨_,_,_,_,_,_,_,_,_,_,_,rfl,_⟩:=h;rfl
noncomputable def gY:DTS:=
 (aj (aq (aQ [none,some 0,some 1] (fw (dOp ai (ab 2) (dC (.int 1)))) (ae 0) aZ (ag (eZ 13) (aa (ab 1) (aa (ab 2) (aa (ab 0) af))))) (ae 5))
 (aj (aq (dOp (aJ false) (dOp ai (ab 2) (dC (.int 0))) (dC (.str "upon"))) (ae 6))
 (aj (aq (dIf (dB (ab 6)) (ab 5) (fj [none,some 0] (a9 (ab 5)) (ae 0) aZ (ag aL (aa (ab 1) (aa (ab 0) af))))) (ae 7))
 (aj (aq (dOp uu (ab 3) (dIf (dB (ab 6)) (aT (aa (dC (.int 1)) (aa (dC (.int 2)) af))) (aT (aa (dC (.int 2)) (aa (dC (.int 3)) af))))) (ae 8))
 (aj (aK (dB (dOp (aJ false) (ab 6) (dOp (aJ false) (ia (ab 3) (dC (.int 2))) (dC (.int 0))))) (aB (ag cZ (aa (ab 0) (aa (ab 7) (aa (ab 4) (aa (ab 8) af)))))) aE)
 (aB (fj [none] (a9 (ag cZ (aa (ab 0) (aa (ab 7) (aa (ag cG (aa (ab 4) af)) (aa (ab 8) af)))))) (ae 0) aZ (ag cG (aa (ab 0) af)))))))))
section
variable {U:Mu}{Qd:DK}{ds:List D}
noncomputable def Kp:PyData->PyData
 |.tuple [a,b,c,e]=>.tuple [b,a,e,c]
 |t=>t
theorem Hq(q:Nat)(up:Bool):(up==(((q % 4:Nat):Int).fmod 2==0))=fe q up:=by
 unfold fe
 rw[Int.fmod_eq_emod_of_nonneg _ ⋯]
 rcases (by omega:q % 2=0\/q % 2=1) with e|e
 ·rw[show (((q % 4:Nat):Int) % 2)=0 by omega,e];cases up<;>rfl
 ·rw[show (((q % 4:Nat):Int) % 2)=1 by omega,e];cases up<;>rfl
theorem dpI(i:Int):PyData.depth (.int i)<=60:=by show (0:Nat)<=60;decide
noncomputable def JN(d:Int):PyData->PyData
 |.tuple [.int a,.int b,.int c]=>dN (aA d ⟨a,b,c⟩)
 |t=>t
theorem Ey(q:Nat)(up:Bool):((if up=true then [PyData.int 1,.int 2] else [.int 2,.int 3]).any fun b=>PyData.eqv b (.int ((q % 4:Nat):Int)))=bck q up:=by
 unfold bck
 have:q % 4<4:=Nat.mod_lt _ ⋯
 generalize q % 4=k at *
 rcases (by omega:k=0\/k=1\/k=2\/k=3) with e|e|e|e<;>subst e<;>cases up<;>rfl
theorem mw{d:Int}{ks:List N3}{up:Bool}{q:Nat}{B:Bo d}{zs:List (RN d)}{r1 r2:PyData}(hd:ah d)(bw:Bw 70000 8000000 B)(bz:∀z∈zs,Bd 4300 z.v)(hl:zs.length<=8)(qd:Qd (.v (.list ((aG q up B zs).map bo))) U) :
  (aj (aK (dB (dOp (aJ false) (ab 6) (dOp (aJ false) (ia (ab 3) (dC (.int 2))) (dC (.int 0))))) (aB (ag cZ (aa (ab 0) (aa (ab 7) (aa (ab 4) (aa (ab 8) af)))))) aE)
 (aB (fj [none] (a9 (ag cZ (aa (ab 0) (aa (ab 7) (aa (ag cG (aa (ab 4) af)) (aa (ab 8) af)))))) (ae 0) aZ (ag cG (aa (ab 0) af)))))
   ‹Qd› [some (.v (.int d)),some (.v (.tuple (ks.map dN))),some (.v r1),some (.v (.int (q % 4:Nat))),some (.v (bo B)),some (.v r2),some (.v (.bool up)),some (.v (.list (zs.map fun z=>dN z.v))),some (.v (.bool (bck q up)))] U:=by
 walk_at "rb"
 have e:=Hq q up
 have eb:(((q % 4:Nat):Int).fmod 2==0)=decide (((q % 4:Nat):Int).fmod 2=0):=rfl
 refine⟨⋯,?_⟩
 rw[<- eb,e]
 unfold aG at qd
 cases hv:fe q up
 ·rw[hv,if_neg ⋯,map_map] at qd
  rw[if_neg ⋯]
  unfold DL.hd
  walk_at "rb"
  rw[fV]
  walk_at "rb"
  refine⟨d,B,rfl,?_⟩
  walk_at "rb"
  refine⟨d,zs,swp B,bck q up,rfl,⟨hd,bw.swp,bz,hl⟩,?_⟩
  walk_at "rb"
  refine⟨by rw[length_map,fg];omega,fun t=>some (Kp t),fun t ht Z _=>?_,?_⟩
  ·obtain⟨C,hC,rfl⟩:=List.mem_map.mp ht
   exact⟨trivial,d,C,rfl,rfl,rfl⟩
  ·rw[dF,map_map]
   exact qd
 ·rw[hv,if_pos rfl] at qd
  rw[if_pos rfl]
  exact⟨d,zs,B,bck q up,rfl,⟨hd,bw,bz,hl⟩,qd⟩
theorem ow(h:kT ds U Qd):gY ‹Qd› (ak ["d","kinds","plan","quarters","box","shapes","upon","sizes","backward"] ds) U:=by
 obtain⟨d,ks,up,es,q,B,rfl,hd,st,bw,qd⟩:=h
 have sl:(aF up es).length<=8:=by unfold aF;rw[length_map];exact st.l8
 unfold gY
 walk_at "rb"
 refine cX (b:=false) (es:=es.map fun e=>(e.1,e.2.v)) (fun QI hq=>?_) (by rw[length_map];exact st.l8) hd rfl rfl (fun e he=>by obtain⟨e',h',rfl⟩:=List.mem_map.mp he;exact⟨(st.sp e' h').1,(st.sp e' h').2.1⟩) fun Y k1=>?_
 ·walk_at "rb"
  rw[map_map] at hq
  exact hq
 walk_at "rb"
 have sh:(es.map fun e=>(e.1,e.2.v)).map (·.2)=es.map fun e=>e.2.v:=by rw[map_map];rfl
 rw[sh]
 cases up
 ·rw[show wd false = "beside" from rfl]
  simp only[ax fU dw,zU,false_xor,false_eq_true,↓reduceIte]
  walk_at "rb"
  rw[fV]
  walk_at "rb"
  refine⟨by rw[length_map,length_map];have:=st.l8;omega,fun t=>some (JN d t),fun t ht Z _=>?_,?_⟩
  ·obtain⟨k,hk',rfl⟩:=List.mem_map.mp ht
   obtain⟨e,he,rfl⟩:=List.mem_map.mp hk'
   have g:=st.sp e he
   exact⟨⟨trivial,trivial⟩,d,e.2.v,rfl,eI hd.1 hd.2.1,f7 hd g.2.2.1,g.2.2.2.mono ⋯,rfl,rfl⟩
  ·rw[dF,map_map,map_map]
   have e:es.map (JN d ∘ dN ∘ fun e=>e.2.v)=(aF false es).map fun z=>dN z.v:=by
    unfold aF
    rw[map_map]
    refine map_congr_left fun e he=>?_
    show dN (aA d e.2.v)=dN (inv e.2).v
    rw[iE hd (st.sp e he).2.2.1]
   rw[e,D4]
   refine⟨rfl,rfl,dpI _,?_⟩
   rw[show [PyData.int 2,PyData.int 3]=if false=true then [PyData.int 1,.int 2] else [.int 2,.int 3] from rfl,Ey q false]
   exact mw hd bw st.sz sl (qd Y k1)
 ·rw[show wd true = "upon" from rfl]
  simp only[ax dw dw,Av,false_xor,↓reduceIte]
  walk_at "rb"
  rw[D4]
  refine⟨rfl,rfl,dpI _,?_⟩
  rw[show [PyData.int 1,PyData.int 2]=if true=true then [PyData.int 1,.int 2] else [.int 2,.int 3] from rfl,Ey q true]
  have e:(es.map fun e=>e.2.v).map dN=(aF true es).map fun z=>dN z.v:=by unfold aF;rw[map_map,map_map];rfl
  rw[e]
  exact mw hd bw st.sz sl (qd Y k1)
end
noncomputable def m7:DTS:=
 (aj (aq (ag kT (aa (ab 0) (aa (ab 1) (aa (ab 2) (aa (ab 3) (aa (ab 4) af)))))) (ae 7))
 (aj (aq (aQ [none,none,some 0,some 5,some 6] (wG (aa (dOp ai (ab 2) (dC (.int 1))) (aa (ab 7) af))) (cC 2 (ay (ae 0) (ay (ae 1) cw))) (dB (ag iF (aa (ab 2) (aa (ab 1) (aa (ab 3) (aa (ab 4) af)))))) (aT (aa (ab 0) (aa (ab 1) af)))) (ae 8))
 (aB (dOp ai (ab 8) (dC (.int 0))))))
section
variable {U:Mu}{Qd:DK}{ds:List D}
theorem xw:∀{xs ys:List PyData} {i:Nat} {y:PyData},(gj xs ys)[i]? = some y->∃a b,xs[i]? = some a/\ys[i]? = some b/\y = .tuple [a,b]
 |x::xs,z::ys,0,y,h=>⟨x,z,rfl,rfl,(Option.some.inj h).symm⟩
 |x::xs,z::ys,i+1,y,h=>xw (xs:=xs) (ys:=ys) (i:=i) h
 |[],_,_,_,h=>nomatch h
 |_::_,[],_,_,h=>nomatch h
theorem vF(h:kJ ds U Qd):m7 ‹Qd› (ak ["d","kinds","plan","quarters","box","x","y","boxes","found"] ds) U:=by
 obtain⟨d,ks,up,es,q,B,C,a,b,j,e,rfl,hd,st,bw,hw,hh,ba,bb,he,hC,hi,qd⟩:=h
 have sl:(aF up es).length=es.length:=by unfold aF;rw[length_map]
 have bl:((aG q up B (aF up es)).map bo).length=es.length:=by rw[length_map,gC,sl]
 have l8:=st.l8
 unfold m7
 walk_at "rb"
 refine⟨d,ks,up,es,q,B,rfl,hd,st,bw,fun Y k1=>?_⟩
 walk_at "rb"
 rw[cp]
 walk_at "rb"
 rw[zD]
 walk_at "rb"
 refine⟨_,_,rfl,by rw[length_map,bl],?_⟩
 have rl:(gj (List.map (fun x=>x.fst) es) (List.map bo (aG q up B (aF up es)))).length=es.length:=by rw[kS,length_map,bl,Nat.min_self]
 refine⟨by rw[rl];omega,fun p hp=>⟨fun i acc Z=>((i<=j/\acc=[])\/(j<i/\acc.head? = some (.tuple [e.1,bo C])))/\∀b ds,b≠p->Y b=some ds->Z b=some ds,⟨.inl ⟨∅,rfl⟩,fun b ds hb z=>by rw[ao hb];exact z⟩,?_,?_⟩⟩
 ·rintro i x acc Z hx hacc ⟨ha,hk⟩
  obtain⟨u1,u2,g1,g2,rfl⟩:=xw hx
  rw[getElem?_map] at g1 g2
  obtain⟨e',he',rfl⟩:=Option.map_eq_some_iff.mp g1
  obtain⟨C',hC',rfl⟩:=Option.map_eq_some_iff.mp g2
  have bC:=lQ hd bw st.sz (by rw[sl];exact l8) C' (mem_of_getElem? hC')
  have hp':∀e∈es,ps e.2:=fun e he=>(st.sp e he).2.2.1
  walk_at "rb"
  refine⟨trivial,?_⟩
  have cl:∃β:Bool,β=true↔In C' a b:=by
   rcases Classical.em (In C' a b) with z|z
   ·exact⟨true,fun _=>z,fun _=>rfl⟩
   ·exact⟨false,fun w=>(nomatch w),fun w=>absurd w z⟩
  obtain⟨β,lm⟩:=cl
  refine⟨⟨trivial,trivial,trivial,trivial⟩,d,C',a,b,β,rfl,hd,bC.mono ⋯ ⋯,ba,bb,lm,?_⟩
  cases β
  ·have no:¬ In C' a b:=fun z=>nomatch lm.mpr z
   walk_at "rb"
   refine⟨hacc,?_,hk⟩
   rcases ha with ⟨z1,z2⟩|⟨z1,z2⟩
   ·rcases Nat.lt_or_eq_of_le z1 with w|w
    ·exact .inl ⟨w,z2⟩
    ·subst w
     rw[hC] at hC'
     cases hC'
     exact absurd hi no
   ·exact .inr ⟨∅,z2⟩
  ·have yes:=lm.mp rfl
   walk_at "rb"
   refine⟨hacc,?_,fun b ds hb z=>by rw[ao hb];exact hk b ds hb z⟩
   rcases ha with ⟨z1,z2⟩|⟨z1,z2⟩
   ·rcases Nat.lt_or_eq_of_le z1 with w|w
    ·exact absurd yes (gB hd hw hh hp' hC hC' w hi)
    ·subst w
     rw[hC] at hC'
     cases hC'
     rw[he'] at he
     cases he
     exact .inr ⟨∅,by rw[z2];rfl⟩
   ·refine .inr ⟨∅,?_⟩
    rw[List.head?_append,z2];rfl
 ·rintro acc Z ⟨ha,hk⟩ hacc
  have jl:j<es.length:=(List.getElem?_eq_some_iff.mp he).1
  rw[rl] at ha
  rcases ha with ⟨z1,z2⟩|⟨z1,z2⟩
  ·omega
  ·cases acc with
   |nil=>cases z2
   |cons y acc=>
    cases z2
    rw[show atI (PyData.tuple [e.1,bo C]::acc) 0=some (PyData.tuple [e.1,bo C]) from c9 (j:=0) rfl]
    refine qd _ fun b ds z=>?_
    have z':=k1 b ds z
    have hb:b≠p:=fun w=>by rw[w,hp] at z';cases z'
    rw[bO hb];exact hk b ds hb z'
end
noncomputable def tl6{d:Int}(T:Bo d)(i:Int)(q:Nat):PyData:=.tuple [dN T.x.v,dN T.y.v,dN T.w.v,dN T.h.v,.int i,.bool (q % 2==1)]
noncomputable def jZ:DSp:=fun ds U Q=>∃(d:Int) (ks:List N3) (t:PyData) (x a b:RN d) (T:Bo d) (i:Int) (q':Nat),ds=[.v (.int d),.v (.tuple (ks.map dN)),.v t,.v (dN a.v),.v (dN b.v)]/\ah d/\KindsOk d ks/\Sh t/\okN (cnt (ks.length:Nat) 12 t)=true/\SP d ks 13 t x.v/\ps x/\Bd 4300 x.v /\
 Go d ks 13 0 t x (fl x) T i q'/\In T a b/\Bd 10000000 a.v/\Bd 10000000 b.v/\∀Z,(∀b ds,U b=some ds->Z b=some ds)->Q (.v (tl6 T i q')) Z
theorem rL{ds:List D}{U:Mu}{Q:DK}(h:jZ ds U Q):ds.length=5:=by obtain⟨_,_,_,_,_,_,_,_,_,rfl,_⟩:=h;rfl
noncomputable def nh:DTS:=
 (aj (dj (ag eO (aa (ab 0) (aa (ab 1) af))))
 (aj (dj (ag gu (aa (ab 2) (aa (dCB aX (aa (ab 1) af)) af))))
 (aj (aq (ag (eZ 13) (aa (ab 0) (aa (ab 1) (aa (ab 2) af)))) (ae 5))
 (aj (dj (ag gw (aa (ab 0) (aa (ab 5) (aa (ab 3) (aa (ab 4) af))))))
 (aj (aq (aT (aa (dC (.tuple [.int 0,.int 0,.int 1])) (aa (dC (.tuple [.int 0,.int 0,.int 1])) (aa (dC (.tuple [.int 1,.int 0,.int 1])) (aa (ab 5) af))))) (ae 6))
 (aj (aq (dC (.int 0)) (ae 7))
 (aj (jE (dB (dOp (aJ true) (dOp ai (ab 2) (dC (.int 0))) (dC (.str "kind")))) (aK (dB (dOp (aJ false) (dOp ai (ab 2) (dC (.int 0))) (dC (.str "turn")))) (aj (aq (ag sj (aa (ab 7) af)) (ae 7))
 (aq (dOp ai (ab 2) (dC (.int 1))) (ae 2))) (aK (dB (dOp (aJ false) (dOp ai (ab 2) (dC (.int 0))) (dC (.str "grid")))) (aj (aq (ag kh (aa (ab 0) (aa (ab 2) (aa (ab 7) (aa (ab 6) (aa (ab 3) (aa (ab 4) af))))))) (ae 6))
 (aq (dOp ai (ab 2) (dC (.int 3))) (ae 2))) (aq (ag kJ (aa (ab 0) (aa (ab 1) (aa (ab 2) (aa (ab 7) (aa (ab 6) (aa (ab 3) (aa (ab 4) af)))))))) (cC 2 (ay (ae 2) (ay (ae 6) cw)))))))
 (aB (dOp ip (ab 6) (aT (aa (dOp ai (ab 2) (dC (.int 1))) (aa (dOp (aJ false) (ia (ab 7) (dC (.int 2))) (dC (.int 1))) af))))))))))))
section
variable {U:Mu}{Qd:DK}{ds:List D}
theorem b01{d:Int}:Bd 1 (1:RN d).v/\Bd 1 (0:RN d).v:=⟨⟨Sz.of (by show (1:Int).natAbs<2;decide),Sz.of (by show (0:Int).natAbs<2;decide),Sz.of (by show (1:Int).natAbs<2;decide)⟩,⟨Sz.of (by show (0:Int).natAbs<2;decide),Sz.of (by show (0:Int).natAbs<2;decide),Sz.of (by show (1:Int).natAbs<2;decide)⟩⟩
theorem Ep{d:Int}{x:RN d}(h:Bd 4300 x.v):Bw (bS 0) (bP 0) (fl x):=⟨b01.2.mono ⋯,b01.2.mono ⋯,b01.1.mono ⋯,h.mono ⋯⟩
theorem Iq(q:Nat):decide (((q % 4:Nat):Int).fmod 2=1)=(q % 2==1):=by
 rw[Int.fmod_eq_emod_of_nonneg _ ⋯]
 rcases (by omega:q % 2=0\/q % 2=1) with e|e
 ·rw[show (((q % 4:Nat):Int) % 2)=0 by omega,e];rfl
 ·rw[show (((q % 4:Nat):Int) % 2)=1 by omega,e];rfl
theorem vK(h:jZ ds U Qd):nh ‹Qd› (ak ["d","kinds","plan","x","y","shape","box","quarters"] ds) U:=by
 obtain⟨d,ks,t,x,a,b,T,i,q',rfl,hd,hk,hs,ho,sp,px,bx,g,hi,ba,bb,qd⟩:=h
 have inF:=g.sub hd (si x px) hi
 unfold nh
 walk_at "rb"
 refine⟨d,ks,rfl,hd,hk.l1,hk.l3,hk.ok,?_⟩
 walk_at "rb"
 rw[length_map]
 refine⟨t,_,rfl,hs,ho,fun Y k1=>?_⟩
 walk_at "rb"
 refine⟨d,ks,false,t,x.v,rfl,hd,hs,sp,fun ac k2=>?_⟩
 walk_at "rb"
 refine⟨d,x,a,b,rfl,hd,bx.mono ⋯,ba,bb,inF,?_⟩
 walk_at "rb"
 rw[xu]
 walk_at "rb"
 refine⟨fun m ρ Z=>∃(n k q:Nat) (t:PyData) (x:RN d) (B:Bo d) (r:Option D),ρ=[some (.v (.int d)),some (.v (.tuple (ks.map dN))),some (.v t),some (.v (dN a.v)),some (.v (dN b.v)),r,some (.v (bo B)),some (.v (.int (q % 4:Nat)))]/\Sh t/\Go d ks n q t x B T i q'/\Rat q x B/\n+k<=13/\Bw (bS k) (bP k) B/\m=n/\∀b ds,U b=some ds->Z b=some ds,⟨13,13,0,0,t,x,fl x,_,rfl,hs,g,si x px,⋯,Ep bx,rfl,fun b ds e=>k2 b ds (k1 b ds e)⟩,?_⟩
 rintro m ρ be ⟨n,k,q,t,x,B,r,rfl,hs,g,rt,hn,bw,rfl,k3⟩
 have bw':Bw 70000 8000000 B:=bw.mono (by unfold bS;omega) (by unfold bP;omega)
 have inB:=g.sub hd rt hi
 have lt:∀{c:Nat},c<c+1:=fun {c}=>Nat.lt_succ_self c
 cases g with
 |@kind n q B i0 k0 h0 h1 h2 h3=>
  walk_at "rb"
  simp only[ax cj cj,vR,true_xor,Bool.not_true]
  unfold bo
  walk_at "rb"
  rw[if_neg id,Iq]
  exact⟨⋯,⋯,qd be k3⟩
 |@turn n q q' t x B T i h1 h2 h3 g=>
  walk_at "rb"
  simp only[ax cm cj,uW,true_xor,Bool.not_false]
  walk_at "rb"
  simp only[ax cm cm,uU,false_xor]
  walk_at "rb"
  rw[if_pos trivial]
  refine⟨q,rfl,?_⟩
  walk_at "rb"
  exact⟨n,lt,n,k,q+1,t,x,B,r,rfl,hs.mem t (by simp),g,kP hd h2 rt,∅,bw,rfl,k3⟩
 |@grid n q q' t x B T i u v c r' h1 h2 h3 h4 h5 h6 h7 h8 h9 h10 h11 g=>
  walk_at "rb"
  simp only[ax bI cj,yV,true_xor,Bool.not_false]
  walk_at "rb"
  simp only[ax bI cm,yD,false_xor]
  walk_at "rb"
  simp only[ax bI bI,rE,false_xor]
  walk_at "rb"
  rw[if_pos trivial]
  refine⟨d,u,v,t,q,B,a,b,c,r',rfl,hd,⟨h1,h2,h3,h4⟩,bw',rt.w,rt.h,ba,bb,h8,h9,h10,h11,g.sub hd (gZ hd c r' h1 h2 rt) hi,?_⟩
  walk_at "rb"
  exact⟨n,lt,n,k+1,q,t,x,_,r,rfl,hs.mem t (by simp),g,gZ hd c r' h1 h2 rt,∅,(xH hd h1 h2 h3 h4 h8 h9 h10 h11 bw).mono (by unfold bS;omega) (by unfold bS bP;omega),rfl,k3⟩
 |@strip n q q' B T B' i up es j e h1 h2 h3 h4 h5 h6 g=>
  have hp':∀e∈es,ps e.2:=fun e he=>(h3 e he).2.1
  have shs:∀e∈es,Sh e.1:=fun e he=>(hs.mem (.tuple (es.map (·.1))) (by simp)).mem e.1 (mem_map_of_mem he)
  have st:StP d ks up es:=⟨h1,h2,fun e he=>⟨shs e he,(h3 e he).1.up ∅,(h3 e he).2.1,(h3 e he).2.2⟩,h4⟩
  have rt':=fY hd rt.w rt.h hp' h5 h6
  have inB':=g.sub hd rt' hi
  have bw2:Bw (bS (k+1)) (bP (k+1)) B':=(lQ hd bw h4 (by unfold aF;rw[length_map];exact h2) _ (mem_of_getElem? h6)).mono (by unfold bS;omega) (by unfold bS bP;omega)
  cases up
  ·rw[show wd false = "beside" from rfl]
   walk_at "rb"
   simp only[ax fU cj,yq,true_xor,Bool.not_false]
   walk_at "rb"
   simp only[ax fU cm,yh,false_xor]
   walk_at "rb"
   simp only[ax fU bI,yS,false_xor]
   walk_at "rb"
   rw[if_pos trivial]
   refine⟨d,ks,false,es,q,B,B',a,b,j,e,rfl,hd,st,bw',rt.w,rt.h,ba,bb,h5,h6,inB',fun bn k4=>?_⟩
   walk_at "rb"
   exact⟨trivial,n,lt,n,k+1,q,e.1,e.2,B',r,rfl,shs e (mem_of_getElem? h5),g,rt',∅,bw2,rfl,fun b ds z=>k4 b ds (k3 b ds z)⟩
  ·rw[show wd true = "upon" from rfl]
   walk_at "rb"
   simp only[ax dw cj,yj,true_xor,Bool.not_false]
   walk_at "rb"
   simp only[ax dw cm,yx,false_xor]
   walk_at "rb"
   simp only[ax dw bI,yO,false_xor]
   walk_at "rb"
   rw[if_pos trivial]
   refine⟨d,ks,true,es,q,B,B',a,b,j,e,rfl,hd,st,bw',rt.w,rt.h,ba,bb,h5,h6,inB',fun bn k4=>?_⟩
   walk_at "rb"
   exact⟨trivial,n,lt,n,k+1,q,e.1,e.2,B',r,rfl,shs e (mem_of_getElem? h5),g,rt',∅,bw2,rfl,fun b ds z=>k4 b ds (k3 b ds z)⟩
end
noncomputable def fZ:DSp:=fun ds U Q=>∃(d:Int) (T:Bo d) (i:Int) (q:Nat) (f l o:RN d),ds=[.v (.int d),.v (tl6 T i q),.v (dN f.v),.v (dN l.v),.v (dN o.v)]/\ah d/\Bw 70000 8000000 T/\Bd 70000 f.v/\Bd 1000000 l.v/\Bd 1000000 o.v/\Q (.v (tl6 (mv f l o T) i q)) U
theorem tO{ds:List D}{U:Mu}{Q:DK}(h:fZ ds U Q):ds.length=5:=by obtain⟨_,_,_,_,_,_,_,rfl,_⟩:=h;rfl
noncomputable def ff:DSp:=fun ds U Q=>∃(d:Int) (T:Bo d) (i:Int) (q:Nat) (x:RN d),ds=[.v (.int d),.v (tl6 T i q),.v (dN x.v)]/\ah d/\Bw 70000 8000000 T/\ps x/\Bd 4300 x.v/\Q (.v (tl6 (mv (inv x) 0 0 (qt x T)) i (q+1))) U
theorem pJ{ds:List D}{U:Mu}{Q:DK}(h:ff ds U Q):ds.length=3:=by obtain⟨_,_,_,_,_,rfl,_⟩:=h;rfl
noncomputable def eD:DSp:=fun ds U Q=>∃(a:Addr) (d:Int) (x:RN d),ds=[.m a,.v (.int d),.v (dN x.v)]/\ah d/\Bd 70000 x.v/\Bag U a/\∀(p:RN d) Z,Bd 20 p.v->nn p->ps (1-p)->Step a U Z->Q (.v (dN (x*p).v)) Z
theorem rM{ds:List D}{U:Mu}{Q:DK}(h:eD ds U Q):ds.length=3:=by obtain⟨_,_,_,rfl,_⟩:=h;rfl
noncomputable def jc:DTS:=
 (aj (aq (fj [none,some 0,some 2] (fw (dSl (ab 1) fW (j3 (dC (.int 4))))) (ae 0) aZ (ag a7 (aa (ab 1) (aa (ab 0) (aa (ab 2) af))))) (w9 4 (ay (ae 5) (ay (ae 6) (ay (ae 7) (ay (ae 8) cw))))))
 (aB (dOp ip (aT (aa (ag aW (aa (ab 5) (aa (ab 3) af))) (aa (ag aW (aa (ab 6) (aa (ab 4) af))) (aa (ab 7) (aa (ab 8) af))))) (dSl (ab 1) (j3 (dC (.int 4))) fW))))
noncomputable def gM:DTS:=
 (aj (aq (dSl (ab 1) fW (j3 (dC (.int 4)))) (cC 4 (ay (ae 3) (ay (ae 4) (ay (ae 5) (ay (ae 6) cw))))))
 (aj (aq (ag aW (aa (ab 2) (aa (ag gn (aa (ag aW (aa (ab 4) (aa (ab 6) af))) af)) af))) (ae 7))
 (aj (aq (ag aL (aa (ab 0) (aa (ab 2) af))) (ae 8))
 (aj (aq (dCB dG (aa (fj [none,some 0,some 8] (fw (aT (aa (ab 7) (aa (ab 3) (aa (ab 6) (aa (ab 5) af)))))) (ae 0) aZ (ag a7 (aa (ab 1) (aa (ab 0) (aa (ab 2) af))))) af)) (ae 9))
 (aB (dOp ip (ab 9) (aT (aa (dOp ai (ab 1) (dC (.int 4))) (aa (x6 (dOp ai (ab 1) (dC (.int 5)))) af)))))))))
noncomputable def gO:DTS:=
 (aj (aq (dOp ai (cU (aa (dC (.int 2)) (aa (dC (.int 3)) (aa (dC (.int 7)) (aa (dC (.int 60)) (aa (Bg (dC (.int 10)) (dC (.int 6))) af)))))) (ag aO (aa (ab 0) (aa (dC (.int 5)) af)))) (ae 3))
 (aB (ag a7 (aa (ab 1) (aa (ab 2) (aa (ag aP (aa (ag aO (aa (ab 0) (aa (ab 3) af))) (aa (dC (.int 0)) (aa (ab 3) af)))) af))))))
section
variable {U:Mu}{Qd:DK}{ds:List D}
noncomputable def Ik(d:Int)(f:N3):PyData->PyData
 |.tuple [.int a,.int b,.int c]=>dN (times d ⟨a,b,c⟩ f)
 |t=>t
theorem D9{a b c e f g:PyData}:atI [a,b,c,e,f,g] 4=some f:=c9 (j:=4) rfl
theorem EA{a b c e f g:PyData}:atI [a,b,c,e,f,g] 5=some g:=c9 (j:=5) rfl
theorem Gs{a b c e f g:PyData}:jn [a,b,c,e,f,g] none (some 4)=[a,b,c,e]:=rfl
theorem KU{a b c e f g:PyData}:jn [a,b,c,e,f,g] (some 4) none=[f,g]:=rfl
theorem four{d:Int}{T:Bo d}(bw:Bw 70000 8000000 T)(t:PyData)(ht:t∈[dN T.x.v,dN T.y.v,dN T.w.v,dN T.h.v]):∃s:RN d,t=dN s.v/\Bd 8000000 s.v:=by
 simp only[mem_cons,not_mem_nil,or_false] at ht
 rcases ht with e|e|e|e
 ·exact⟨T.x,e,bw.x⟩
 ·exact⟨T.y,e,bw.y⟩
 ·exact⟨T.w,e,bw.w.mono ⋯⟩
 ·exact⟨T.h,e,bw.h.mono ⋯⟩
theorem qf(h:fZ ds U Qd):jc ‹Qd› (ak ["_law_d","_law_tile","_law_factor","_law_left","_law_low_here","_law_x","_law_y","_law_width","_law_height"] ds) U:=by
 obtain⟨d,T,i,q,f,l,o,rfl,hd,bw,bf,bl,bo',qd⟩:=h
 have s5:=eI hd.1 hd.2.1
 unfold jc tl6
 walk_at "rb"
 rw[fV]
 walk_at "rb"
 rw[Gs]
 refine⟨by show 4<=1000;decide,fun t=>some (Ik d f.v t),fun t ht Z _=>⟨⟨trivial,trivial,trivial⟩,?_⟩,rfl,?_⟩
 ·obtain⟨s,rfl,bs⟩:=four bw t ht
  rw[if_pos trivial]
  exact⟨d,s.v,f.v,rfl,s5,s.ok,f.ok,bs.mono ⋯,bf.mono ⋯,rfl,rfl⟩
 ·rw[dF]
  show ay (ae 5) (ay (ae 6) (ay (ae 7) (ay (ae 8) cw))) [dN (T.x*f).v,dN (T.y*f).v,dN (T.w*f).v,dN (T.h*f).v] _ _ _
  walk_at "rb"
  refine⟨(T.x*f).v,l.v,rfl,RN.ok _,l.ok,(bdM hd bw.x bf).mono ⋯,bl.mono ⋯,?_⟩
  walk_at "rb"
  refine⟨(T.y*f).v,o.v,rfl,RN.ok _,o.ok,(bdM hd bw.y bf).mono ⋯,bo'.mono ⋯,?_⟩
  walk_at "rb"
  rw[KU]
  exact⟨by show 6<=1000;decide,qd⟩
theorem mG(h:ff ds U Qd):gM ‹Qd› (ak ["_law_d","_law_tile","_law_shape_here","_law_x","_law_y","_law_width","_law_height","_law_left","_law_contrary_here","_law_sides"] ds) U:=by
 obtain⟨d,T,i,q,x,rfl,hd,bw,px,bx,qd⟩:=h
 have s5:=eI hd.1 hd.2.1
 have ix:=bdI hd px bx
 unfold gM tl6
 walk_at "rb"
 rw[Gs]
 refine⟨rfl,?_⟩
 walk_at "rb"
 refine⟨T.y.v,T.h.v,rfl,T.y.ok,T.h.ok,bw.y.mono ⋯,bw.h.mono ⋯,?_⟩
 walk_at "rb"
 refine⟨(T.y+T.h).v,rfl,?_⟩
 walk_at "rb"
 have bA:=bdA bw.y bw.h
 refine⟨x.v,(-(T.y+T.h)).v,rfl,x.ok,RN.ok _,bx.mono ⋯,(fi bA).mono ⋯,?_⟩
 walk_at "rb"
 refine⟨d,x.v,rfl,s5,f7 hd px,bx.mono ⋯,?_⟩
 walk_at "rb"
 rw[<- iE hd px,fV]
 walk_at "rb"
 have bN:Bd (8000000+70000+1) (-(T.y+T.h)).v:=fi bA
 have L:=bdA bx bN
 have all:∀t∈[dN (x + -(T.y+T.h)).v,dN T.x.v,dN T.h.v,dN T.w.v],∃s:RN d,t=dN s.v/\Bd 9000000 s.v:=fun t ht=>by
  simp only[mem_cons,not_mem_nil,or_false] at ht
  rcases ht with e|e|e|e
  ·exact⟨_,e,L.mono ⋯⟩
  ·exact⟨T.x,e,bw.x.mono ⋯⟩
  ·exact⟨T.h,e,bw.h.mono ⋯⟩
  ·exact⟨T.w,e,bw.w.mono ⋯⟩
 refine⟨by show 4<=1000;decide,fun t=>some (Ik d (inv x).v t),fun t ht Z _=>⟨⟨trivial,trivial,trivial⟩,?_⟩,?_⟩
 ·obtain⟨s,rfl,bs⟩:=all t ht
  rw[if_pos trivial]
  exact⟨d,s.v,(inv x).v,rfl,s5,s.ok,RN.ok _,bs.mono ⋯,ix.mono ⋯,rfl,rfl⟩
 ·rw[dF]
  walk_at "rb"
  have e:mv (inv x) 0 0 (qt x T)=⟨(x + -(T.y+T.h))*inv x,T.x*inv x,T.h*inv x,T.w*inv x⟩:=by
   unfold mv qt
   generalize inv x=y
   congr 1<;>dsimp only<;>grind
  have eb:((q+1) % 2==1) = !(q % 2==1):=by
   rcases (by omega:q % 2=0\/q % 2=1) with z|z
   ·rw[z,show (q+1) % 2=1 by omega];rfl
   ·rw[z,show (q+1) % 2=0 by omega];rfl
  rw[D9,EA]
  rw[e] at qd
  unfold tl6 at qd
  rw[eb] at qd
  exact⟨⋯,qd⟩
theorem mE(h:eD ds U Qd):gO ‹Qd› (ak ["_law_bag_here","_law_d","_law_x","_law_wide"] ds) U:=by
 obtain⟨a,d,x,rfl,hd,bx,hb,q⟩:=h
 unfold gO
 walk_at "rb"
 refine⟨⟨⋯,⋯,⋯⟩,a,5,rfl,⋯,⋯,hb,fun r Y r0 r1 s1=>?_⟩
 walk_at "rb"
 obtain⟨_,e,w,rfl,w1,w2⟩:=pick (P:=fun v=>∃w:Int,v = .int w/\2<=w/\w<=1000000) (xs:=[.int 2,.int 3,.int 7,.int 60,.int (10 ^ Int.toNat 6)]) r0 (by exact r1) (by
  refine nB ?_ <| nB ?_ <| nB ?_ <| nB ?_ <| nB ?_ <| D8
  ·exact⟨_,rfl,⋯,⋯⟩
  ·exact⟨_,rfl,⋯,⋯⟩
  ·exact⟨_,rfl,⋯,⋯⟩
  ·exact⟨_,rfl,⋯,⋯⟩
  ·exact⟨_,rfl,nofun,nofun⟩)
 rw[e]
 walk_at "rb"
 refine⟨a,w,rfl,∅,∅,s1.1,fun t ac t0 t1 s2=>?_⟩
 have wn:w≠0:=by omega
 have pw:=aN (d:=d) (n:=w) ∅
 have zz:∀{i:Int},0<=i->i<=1000000->Sz 20 i:=fun h1 h2=>Sz.of (by show _<1048576;omega)
 refine⟨t,0,w,rfl,wn,(zz ∅ w2).mono ⋯,?_⟩
 have bp:Bd 20 (low t 0 w):=dy wn (zz t0 ∅) sz0 (zz ∅ w2)
 rw[iy hd ∅] at bp ⊢
 refine⟨d,x.v,_,rfl,eI hd.1 hd.2.1,x.ok,RN.ok _,bx.mono ⋯,bp.mono ⋯,q _ ac bp ?_ ?_ (s1.trans s2)⟩
 ·exact dQ hd (kX hd t0) (fh hd (cA hd pw))
 ·have k:=bL hd (aN (d:=d) (n:=w-t) ∅) (cA hd pw)
  have i:=inv_mul hd pw
  rw[gU] at k
  generalize inv (w:RN d)=iw at *
  generalize (w:RN d)=w' at *
  rwa [show (w'-(t:RN d))*iw=1-(t:RN d)*iw by grind] at k
end
noncomputable def KsP(d:Int)(ks:List N3):Prop:=∀k∈ks,Ok k/\sg d k.a k.b=1
section
variable {U:Mu}{Qd:DK}{ds:List D}{ρ:Rho}{d:Int}{ks:List N3}
theorem A5{m:Nat}(l:List (RN d))(h:∀z∈l,Bd m z.v):Bd (1+l.length*(m+1)) (aR l).v:=by
 induction l with
 |nil=>exact (b01.2:Bd 1 (0:RN d).v).mono ∅
 |cons z l ih=>
  have e:(z::l).length*(m+1)=m+1+l.length*(m+1):=by rw[length_cons,add_mul,Nat.one_mul,Nat.add_comm]
  rw[aV]
  exact (bdA (h z (by simp)) (ih fun y hy=>h y (by simp[hy]))).mono ∅
end
section
variable {U:Mu}{Qd:DK}{ds:List D}
theorem AI{x:PyData}(h:SeqAt.shaped x=true):x.eqv x=true:=SeqAt.eqv_refl _ (SeqAt.canLay_of_shaped h)
end
noncomputable def iN:DSp:=fun ds U Q=>∃(d:Int) (T:Bo d) (i:Int) (q:Nat) (a b:RN d) (β:Bool),ds=[.v (.int d),.v (tl6 T i q),.v (dN a.v),.v (dN b.v)]/\ah d/\Bw 70000 8000000 T/\Bd 10000000 a.v/\Bd 10000000 b.v/\(β=true↔In T a b)/\Q (.v (.bool β)) U
theorem pN{ds:List D}{U:Mu}{Q:DK}(h:iN ds U Q):ds.length=4:=by obtain⟨_,_,_,_,_,_,_,rfl,_⟩:=h;rfl
noncomputable def iY:DTS:=
 (aj (aK (du (dB (ag gb (aa (ab 0) (aa (ab 2) (aa (dOp ai (ab 1) (dC (.int 0))) af))))) (dB (ag gb (aa (ab 0) (aa (ab 3) (aa (dOp ai (ab 1) (dC (.int 1))) af)))))) (aB (dC (.bool false))) aE)
 (aB (cL (ag gb (aa (ab 0) (aa (ab 2) (aa (ag aW (aa (dOp ai (ab 1) (dC (.int 0))) (aa (dOp ai (ab 1) (dC (.int 2))) af))) af)))) (ag gb (aa (ab 0) (aa (ab 3) (aa (ag aW (aa (dOp ai (ab 1) (dC (.int 1))) (aa (dOp ai (ab 1) (dC (.int 3))) af))) af)))))))
section
variable {U:Mu}{Qd:DK}{ds:List D}
theorem qo(h:iN ds U Qd):iY ‹Qd› (ak ["_law_d","_law_tile","_law_x","_law_y"] ds) U:=by
 obtain⟨d,T,i,q,a,b,β,rfl,hd,bw,ba,bb,lm,qd⟩:=h
 have ng:∀{u v:RN d},¬ ps (u-v)↔nn (v-u):=fun {u v}=>by unfold nn;rw[show -(v-u)=u-v by grind]
 have fin:∀{im:Bool},(im=true↔In T a b)->Qd (.v (.bool im)) U:=fun {im} h=>by
  have:im=β:=by rw[Bool.eq_iff_iff,h,lm]
  rw[this];exact qd
 unfold iY tl6
 walk_at "rb"
 refine⟨d,_,_,rfl,hd,a.ok,T.x.ok,ba.mono ⋯,bw.x.mono ⋯,?_⟩
 by_cases c1:ps (T.x-a)
 ·rw[l6 hd c1]
  walk_at "rb"
  exact fin ⟨fun z=>(nomatch z),fun z=>absurd c1 (ng.mpr z.x0)⟩
 ·rw[lW hd c1]
  walk_at "rb"
  refine⟨d,_,_,rfl,hd,b.ok,T.y.ok,bb.mono ⋯,bw.y.mono ⋯,?_⟩
  by_cases c2:ps (T.y-b)
  ·rw[l6 hd c2]
   walk_at "rb"
   exact fin ⟨fun z=>(nomatch z),fun z=>absurd c2 (ng.mpr z.y0)⟩
  ·rw[lW hd c2]
   walk_at "rb"
   refine⟨_,_,rfl,T.x.ok,T.w.ok,bw.x.mono ⋯,bw.w.mono ⋯,?_⟩
   refine⟨d,a.v,(T.x+T.w).v,rfl,hd,a.ok,RN.ok _,ba.mono ⋯,(bdA bw.x bw.w).mono ⋯,?_⟩
   by_cases c3:ps (T.x+T.w-a)
   ·rw[l6 hd c3]
    walk_at "rb"
    refine⟨_,_,rfl,T.y.ok,T.h.ok,bw.y.mono ⋯,bw.h.mono ⋯,?_⟩
    refine⟨d,b.v,(T.y+T.h).v,rfl,hd,b.ok,RN.ok _,bb.mono ⋯,(bdA bw.y bw.h).mono ⋯,?_⟩
    by_cases c4:ps (T.y+T.h-b)
    ·rw[l6 hd c4]
     exact fin ⟨fun _=>⟨ng.mp c1,c3,ng.mp c2,c4⟩,fun _=>rfl⟩
    ·rw[lW hd c4]
     exact fin ⟨fun z=>(nomatch z),fun z=>absurd z.y1 c4⟩
   ·rw[lW hd c3]
    walk_at "rb"
    exact fin ⟨fun z=>(nomatch z),fun z=>absurd z.x1 c3⟩
end
inductive TP:Nat->PyData->Int->Prop
 |kind {n:Nat} (i:Int):TP (n+1) (.tuple [.str "kind",.int i]) 1
 |turn {n:Nat} {t:PyData} {x:Int}:TP n t x->TP (n+1) (.tuple [.str "turn",t]) x
 |grid {n:Nat} {t:PyData} {x:Int} (u v:Int):1<=u->1<=v->Sz 110 u->Sz 110 v->n<=12->TP n t x->TP (n+1) (.tuple [.str "grid",.int u,.int v,t]) (u*v*x)
 |upon {n:Nat} (es:List (PyData×Int)):2<=es.length->es.length<=8->(∀e∈es,TP n e.1 e.2)->TP (n+1) (.tuple [.str "upon",.tuple (es.map (·.1))]) ((es.map (·.2)).sum)
 |beside {n:Nat} (es:List (PyData×Int)):2<=es.length->es.length<=8->(∀e∈es,TP n e.1 e.2)->TP (n+1) (.tuple [.str "beside",.tuple (es.map (·.1))]) ((es.map (·.2)).sum)
theorem vP{k:Nat}:∀(l:List Int) (m:Nat),l.length<=m->(∀x∈l,Sz k x)->Sz (k+m) l.sum
 |[],m,_,_=>Sz.of (by simp;exact Nat.pow_pos ⋯)
 |x::l,m,h,hx=>by
  obtain⟨m,rfl⟩:∃m',m=m'+1:=⟨m-1,by have:=h;simp at this;omega⟩
  rw[sum_cons]
  have ih:=vP l m (by simpa using h) fun y hy=>hx y (mem_cons_of_mem _ hy)
  exact ((hx x mem_cons_self).mono (le_add_right _ _)).add ih
theorem TP.sz{n:Nat}{t:PyData}{x:Int}(h:TP n t x):Sz (230*n) x:=by
 induction h with
 |kind i=>exact (Sz.of (n:=1) ⋯).mono ∅
 |turn _ ih=>exact ih.mono ∅
 |grid u v _ _ hu hv _ _ ih=>exact ((hu.mul hv).mul ih).mono ∅
 |upon es _ h8 _ ih=>exact (vP _ 8 (by rw[length_map];exact h8) (fun x hx=>by obtain⟨e,he,rfl⟩:=List.mem_map.mp hx;exact ih e he)).mono ∅
 |beside es _ h8 _ ih=>exact (vP _ 8 (by rw[length_map];exact h8) (fun x hx=>by obtain⟨e,he,rfl⟩:=List.mem_map.mp hx;exact ih e he)).mono ∅
theorem lq{n:Nat}:∀(l:List PyData),(∀e∈l,∃x,TP n e x)->∃ys:List (PyData×Int),ys.map (·.1)=l/\∀y∈ys,TP n y.1 y.2
 |[],_=>⟨[],rfl,fun _ h=>nomatch h⟩
 |e::l,h=>by
  obtain⟨x,hx⟩:=h e mem_cons_self
  obtain⟨ys,h1,h2⟩:=lq l fun e he=>h e (mem_cons_of_mem _ he)
  refine⟨(e,x)::ys,by rw[map_cons,h1],fun y hy=>?_⟩
  rcases List.mem_cons.mp hy with rfl|hy
  ·exact hx
  ·exact h2 y hy
theorem Jk{m:Int}{d c:Nat}{t:PyData}(h:IsP m d c t):∀n,d<=n->n<=13->∃x,TP n t x:=by
 induction h with
 |kind i _ _=>intro n hn hn';obtain⟨n,rfl⟩:∃k,n=k+1:=⟨n-1,∅⟩;exact⟨_,.kind i⟩
 |turn _ ih=>intro n hn hn';obtain⟨n,rfl⟩:∃k,n=k+1:=⟨n-1,∅⟩;obtain⟨x,hx⟩:=ih n ∅ ∅;exact⟨_,.turn hx⟩
 |grid u v u0 v0 u1 v1 _ ih=>
  intro n hn hn';obtain⟨n,rfl⟩:∃k,n=k+1:=⟨n-1,∅⟩;obtain⟨x,hx⟩:=ih n ∅ ∅
  exact⟨_,.grid u v u0 v0 ((Sz.of (n:=20) (by show u.natAbs<1048576;omega)).mono ⋯) ((Sz.of (n:=20) (by show v.natAbs<1048576;omega)).mono ⋯) ∅ hx⟩
 |upon es h2 h8 hd _ ih=>
  intro n hn hn';obtain⟨n,rfl⟩:∃k,n=k+1:=⟨n-1,∅⟩
  obtain⟨ys,h1,h3⟩:=lq (n:=n) (es.map (·.2.2)) fun e he=>by obtain⟨f,hf,rfl⟩:=List.mem_map.mp he;exact ih f hf n (by have:=hd f hf;omega) ∅
  have hl:ys.length=es.length:=by have:=congrArg List.length h1;simpa using this
  exact⟨_,by rw[<- h1];exact .upon ys ∅ ∅ h3⟩
 |beside es h2 h8 hd _ ih=>
  intro n hn hn';obtain⟨n,rfl⟩:∃k,n=k+1:=⟨n-1,∅⟩
  obtain⟨ys,h1,h3⟩:=lq (n:=n) (es.map (·.2.2)) fun e he=>by obtain⟨f,hf,rfl⟩:=List.mem_map.mp he;exact ih f hf n (by have:=hd f hf;omega) ∅
  have hl:ys.length=es.length:=by have:=congrArg List.length h1;simpa using this
  exact⟨_,by rw[<- h1];exact .beside ys ∅ ∅ h3⟩
noncomputable def mX(n:Nat):DSp:=fun ds U Q=>∃(t:PyData) (x:Int),ds=[.v t]/\Sh t/\TP n t x/\∀Z,(∀b ds,U b=some ds->Z b=some ds)->Q (.v (.int x)) Z
theorem uF{n:Nat}{U:Mu}{Q:DK}{ds:List D}(h:mX n ds U Q):ds.length=1:=by obtain⟨_,_,rfl,_⟩:=h;rfl
theorem BI{U:Mu}{Q:DK}{ds:List D}(h:mX 0 ds U Q):False:=by obtain⟨_,_,_,_,h,_⟩:=h;cases h
noncomputable abbrev cS(n:Nat):DSp:=mX n
theorem rJ{n:Nat}{U:Mu}{Q:DK}{ds:List D}(h:cS n ds U Q):ds.length=1:=uF h
theorem zw{U:Mu}{Q:DK}{ds:List D}(h:cS 0 ds U Q):False:=BI h
theorem xk(es:List (PyData×Int))(h2:2<=es.length)(h:∀e∈es,1<=e.2):1<=(es.map (·.2)).sum:=by
 have key:∀l:List (PyData×Int),(∀e∈l,1<=e.2)->(l.length:Int)<=(l.map (·.2)).sum:=fun l=>by
  induction l with
  |nil=>intro _;simp
  |cons e l ih=>intro h;rw[map_cons,sum_cons,length_cons];have:=ih fun y hy=>h y (by simp[hy]);have:=h e (by simp);omega
 have:=key es h
 omega
theorem TP.pos{n:Nat}{t:PyData}{x:Int}(h:TP n t x):1<=x:=by
 induction h with
 |kind i=>decide
 |turn _ ih=>exact ih
 |@grid n t x u v hu hv _ _ _ _ ih=>have:=mul_pos (mul_pos (by omega:0<u) (by omega:0<v)) (by omega:0<x);omega
 |upon es h2 _ _ ih=>exact xk es h2 ih
 |beside es h2 _ _ ih=>exact xk es h2 ih
theorem TP.D7{n:Nat}{t:PyData}{c:Int}(h:TP (n+1) (.tuple [.str "turn",t]) c):TP n t c:=by
 generalize ht:PyData.tuple [.str "turn",t]=t' at h
 cases h with
 |turn h=>injection ht with ht;injection ht with _ ht;injection ht with ht;subst ht;exact h
 |kind _=>exact absurd (tgE ht) ⋯
 |grid _ _ _ _ _ _ _ _=>exact absurd (tgE ht) ⋯
 |upon _ _ _ _=>exact absurd (tgE ht) ⋯
 |beside _ _ _ _=>exact absurd (tgE ht) ⋯
theorem TP.Ke{n:Nat}{i c:Int}(h:TP (n+1) (.tuple [.str "kind",.int i]) c):c=1:=by
 generalize ht:PyData.tuple [.str "kind",.int i]=t' at h
 cases h with
 |kind _=>rfl
 |turn _=>exact absurd (tgE ht) ⋯
 |grid _ _ _ _ _ _ _ _=>exact absurd (tgE ht) ⋯
 |upon _ _ _ _=>exact absurd (tgE ht) ⋯
 |beside _ _ _ _=>exact absurd (tgE ht) ⋯
theorem TP.Ef{n:Nat}{t:PyData}{u v c:Int}(h:TP (n+1) (.tuple [.str "grid",.int u,.int v,t]) c):∃y,TP n t y/\c=u*v*y:=by
 generalize ht:PyData.tuple [.str "grid",.int u,.int v,t]=t' at h
 cases h with
 |grid u' v' _ _ _ _ _ h=>
  injection ht with ht;injection ht with _ ht;injection ht with e1 ht;injection ht with e2 ht;injection ht with e3 ht
  injection e1 with e1;injection e2 with e2
  subst e1 e2 e3;exact⟨_,h,rfl⟩
 |kind _=>exact absurd (tgE ht) ⋯
 |turn _=>exact absurd (tgE ht) ⋯
 |upon _ _ _ _=>exact absurd (tgE ht) ⋯
 |beside _ _ _ _=>exact absurd (tgE ht) ⋯
theorem TP.BD{n:Nat}{ps:List PyData}{up:Bool}{c:Int}(h:TP (n+1) (.tuple [.str (wd up),.tuple ps]) c):∃es:List (PyData×Int),es.map (·.1)=ps/\c=(es.map (·.2)).sum/\∀e∈es,TP n e.1 e.2:=by
 generalize ht:PyData.tuple [.str (wd up),.tuple ps]=t' at h
 cases h with
 |grid _ _ _ _ _ _ _ _=>exact (AG (tgE ht).symm ⋯ ⋯).elim
 |kind _=>exact (AG (tgE ht).symm ⋯ ⋯).elim
 |turn _=>exact (AG (tgE ht).symm ⋯ ⋯).elim
 |upon es _ _ h=>injection ht with ht;injection ht with _ ht;injection ht with ht;injection ht with ht;subst ht;exact⟨es,rfl,rfl,h⟩
 |beside es _ _ h=>injection ht with ht;injection ht with _ ht;injection ht with ht;injection ht with ht;subst ht;exact⟨es,rfl,rfl,h⟩
theorem nN{α β:Type}(f:β->List α):∀(l:List β),(((l.map f).flatten.length:Nat):Int)=(l.map fun p=>((f p).length:Int)).sum
 |[]=>rfl
 |p::l=>by rw[map_cons,List.flatten_cons,length_append,map_cons,sum_cons,<- nN f l];omega
theorem CM(u v:Int):(gIx u v).length=v.toNat*u.toNat:=by
 have key:∀k,((List.range k).flatMap fun r:Nat=>(List.range u.toNat).map fun c:Nat=>((c:Int),(r:Int))).length=k*u.toNat:=fun k=>by
  induction k with
  |zero=>simp
  |succ k ih=>rw[List.range_succ,List.flatMap_append,length_append,ih];simp[Nat.succ_mul]
 exact key v.toNat
theorem TL.len{d:Int}{ks:List N3}{n q:Nat}{t:PyData}{x:RN d}{B:Bo d}{L:List (Bo d×Int×Nat)}(h:TL d ks n q t x B L):∀{c:Int},TP n t c->(L.length:Int)=c:=by
 induction h with
 |kind i k h0 h1 h2 h3=>exact fun h=>h.Ke.symm
 |turn h1 h2 h3 _ ih=>exact fun h=>ih h.D7
 |@grid n q t x B u v Ls h1 h2 h3 h4 h5 h6 h7 hL hT ih=>
  intro c h
  obtain⟨y,hy,rfl⟩:=h.Ef
  rw[nN]
  have e:Ls.map (fun p=>(p.2.length:Int))=Ls.map fun _=>y:=map_congr_left fun p hp=>ih p hp hy
  have el:Ls.length=v.toNat*u.toNat:=by have:=congrArg List.length hL;rw[length_map] at this;rw[this];unfold hJ;rw[length_map,CM]
  have sm:∀(l:List (Bo d×List (Bo d×Int×Nat))),(l.map fun _=>y).sum=(l.length:Int)*y:=fun l=>by
   induction l with
   |nil=>simp
   |cons p l ih=>rw[map_cons,sum_cons,ih,length_cons,show ((l.length+1:Nat):Int)=(l.length:Int)+1 by omega,Int.add_mul,Int.one_mul,Int.add_comm]
  rw[e,sm,el,Int.natCast_mul,show ((v.toNat:Nat):Int)=v by omega,show ((u.toNat:Nat):Int)=u by omega,Int.mul_comm v u]
 |@strip n q B up es Ls h1 h2 h3 h4 hL hT ih=>
  intro c h
  obtain⟨es',e1,rfl,hh⟩:=h.BD
  rw[nN]
  have sl:(aG q up B (aF up es)).length=es.length:=by rw[gC];unfold aF;rw[length_map]
  have l1:Ls.length=es.length:=by have:=congrArg List.length hL;rw[length_map,List.length_zip,sl,Nat.min_self] at this;exact this
  have l2:es'.length=es.length:=by have:=congrArg List.length e1;rwa [length_map,length_map] at this
  congr 1
  refine List.ext_getElem (by rw[length_map,length_map];omega) fun i k1 k2=>?_
  rw[length_map] at k1 k2
  rw[List.getElem_map,List.getElem_map]
  have m1:=getElem_mem k1
  refine ih _ m1 ?_
  have e2:(Ls.map (·.1))[i]? = some (Ls[i]).1:=by rw[getElem?_map,List.getElem?_eq_getElem k1];rfl
  rw[hL] at e2
  have e3:=(List.getElem?_zip_eq_some.mp e2).1
  have e4:(es'.map (·.1))[i]? = some (es'[i]).1:=by rw[getElem?_map,List.getElem?_eq_getElem k2];rfl
  rw[e1,getElem?_map,e3] at e4
  have e5:(Ls[i]).1.1.1=(es'[i]).1:=Option.some.inj e4
  rw[e5]
  exact hh _ (getElem_mem k2)
noncomputable def cH{d:Int}(e:Bo d×Int×Nat):PyData:=tl6 e.1 e.2.1 e.2.2
structure PlP(d:Int)(ks:List N3)(n:Nat)(t:PyData)(X:RN d)(c:Int):Prop where
 ln:n<=13
 hd:ah d
 hk:KsP d ks
 sh:Sh t
 sp:SP d ks n t X.v
 bd:Bd 4300 X.v
 tp:TP n t c
 few:c<=60
noncomputable def cD(n:Nat):DSp:=fun ds U Q=>∃(d:Int) (ks:List N3) (t:PyData) (X:RN d) (c:Int),ds=[.v (.int d),.v (.tuple (ks.map dN)),.v t]/\PlP d ks n t X c /\
 ∀L Z,TL d ks n 0 t X (fl X) L->(∀b ds,U b=some ds->Z b=some ds)->Q (.v (.list (L.map cH))) Z
theorem rS{n:Nat}{U:Mu}{Q:DK}{ds:List D}(h:cD n ds U Q):ds.length=3:=by obtain⟨_,_,_,_,_,rfl,_⟩:=h;rfl
theorem yE{U:Mu}{Q:DK}{ds:List D}(h:cD 0 ds U Q):False:=by obtain⟨_,_,_,_,_,_,h,_⟩:=h;cases h.tp
noncomputable def kH(n:Nat):DSp:=fun ds U Q=>∃(d:Int) (ks:List N3) (t:PyData) (x:RN d) (u v c:Int),ds=[.v (.int d),.v (.tuple (ks.map dN)),.v (.tuple [.str "grid",.int u,.int v,t])]/\PlP d ks n t x c/\GrP u v/\u*v*c<=60 /\
 ∀L Z,TL d ks (n+1) 0 (.tuple [.str "grid",.int u,.int v,t]) (x*((v:RN d)*inv (u:RN d))) (fl (x*((v:RN d)*inv (u:RN d)))) L->(∀b ds,U b=some ds->Z b=some ds)->Q (.v (.list (L.map cH))) Z
theorem uo{n:Nat}{U:Mu}{Q:DK}{ds:List D}(h:kH n ds U Q):ds.length=3:=by obtain⟨_,_,_,_,_,_,_,rfl,_⟩:=h;rfl
noncomputable def Fj(sp:DSp):DSp:=fun ds U Q=>∃Q',sp ds U Q'/\∀d Z,AU U Q' d Z->Q d Z
noncomputable abbrev k8(n:Nat):DSp:=Fj (cD n)
noncomputable abbrev oQ(n:Nat):DSp:=Fj (kH n)
theorem p5{n:Nat}{U:Mu}{Q:DK}{ds:List D}(h:k8 n ds U Q):ds.length=3:=rS h.choose_spec.1
theorem rk{n:Nat}{U:Mu}{Q:DK}{ds:List D}(h:oQ n ds U Q):ds.length=3:=uo h.choose_spec.1
theorem nt{n:Nat}{ds:List D}{U:Mu}{Qd:DK}(h:cD n ds U Qd):k8 n ds U (AU U Qd):=⟨Qd,h,fun _ _ z=>z⟩
theorem iW{n:Nat}{ds:List D}{U:Mu}{Qd:DK}(h:kH n ds U Qd):oQ n ds U (AU U Qd):=⟨Qd,h,fun _ _ z=>z⟩
noncomputable def jb(n:Nat):DTS:=
 (aj (aK (dB (dOp (aJ false) (dOp ai (ab 0) (dC (.int 0))) (dC (.str "kind")))) (aB (dC (.int 1))) aE)
 (aj (aK (dB (dOp (aJ false) (dOp ai (ab 0) (dC (.int 0))) (dC (.str "turn")))) (aB (ag (cS n) (aa (dOp ai (ab 0) (dC (.int 1))) af))) aE)
 (aj (aK (dB (dOp (aJ false) (dOp ai (ab 0) (dC (.int 0))) (dC (.str "grid")))) (aB (aU (aU (dOp ai (ab 0) (dC (.int 1))) (dOp ai (ab 0) (dC (.int 2)))) (ag (cS n) (aa (dOp ai (ab 0) (dC (.int 3))) af)))) aE)
 (aB (dCB oK (aa (aQ [none] (fw (dOp ai (ab 0) (dC (.int 1)))) (ae 0) aZ (ag (cS n) (aa (ab 0) af))) af))))))
noncomputable def i8(n:Nat):DTS:=
 (aj (aK (dB (dOp (aJ false) (dOp ai (ab 2) (dC (.int 0))) (dC (.str "kind")))) (aB (cU (aa (aT (aa (aT (aa (dC (.int 0)) (aa (dC (.int 0)) (aa (dC (.int 1)) af)))) (aa (aT (aa (dC (.int 0)) (aa (dC (.int 0)) (aa (dC (.int 1)) af)))) (aa (aT (aa (dC (.int 1)) (aa (dC (.int 0)) (aa (dC (.int 1)) af)))) (aa (dOp ai (ab 1) (dOp ai (ab 2) (dC (.int 1)))) (aa (dOp ai (ab 2) (dC (.int 1))) (aa (dC (.bool false)) af))))))) af))) aE)
 (aj (aK (dB (dOp (aJ false) (dOp ai (ab 2) (dC (.int 0))) (dC (.str "turn")))) (aj (aq (ag (bE 13) (aa (ab 0) (aa (ab 1) (aa (dOp ai (ab 2) (dC (.int 1))) af)))) (ae 3))
 (aB (aQ [none,some 0,some 3] (a9 (ag (cD n) (aa (ab 0) (aa (ab 1) (aa (dOp ai (ab 2) (dC (.int 1))) af))))) (ae 0) aZ (ag ff (aa (ab 1) (aa (ab 0) (aa (ab 2) af))))))) aE)
 (aj (aK (dB (dOp (aJ false) (dOp ai (ab 2) (dC (.int 0))) (dC (.str "grid")))) (aB (ag (kH n) (aa (ab 0) (aa (ab 1) (aa (ab 2) af))))) aE)
 (aj (aq (ag (bE 13) (aa (ab 0) (aa (ab 1) (aa (ab 2) af)))) (ae 4))
 (aj (aq (i4 af) (ae 5))
 (aj (aq (aT (aa (aT (aa (dC (.int 0)) (aa (dC (.int 0)) (aa (dC (.int 1)) af)))) (aa (aT (aa (dC (.int 0)) (aa (dC (.int 0)) (aa (dC (.int 1)) af)))) af))) (cC 2 (ay (ae 6) (ay (ae 7) cw))))
 (aj (ik (fw (dOp ai (ab 2) (dC (.int 1)))) (ae 8) (aj (aq (ag (bE 13) (aa (ab 0) (aa (ab 1) (aa (ab 8) af)))) (ae 3))
 (aj (aq (aT (aa (dC (.int 1)) (aa (dC (.int 0)) (aa (dC (.int 1)) af)))) (ae 9))
 (aj (aK (dB (dOp (aJ false) (dOp ai (ab 2) (dC (.int 0))) (dC (.str "beside")))) (aq (ag a7 (aa (ab 0) (aa (ab 4) (aa (ag aL (aa (ab 0) (aa (ab 3) af))) af)))) (ae 9)) aE)
 (aj (dj (Dj (ab 5) (aQ [none,some 0,some 9,some 6,some 7] (a9 (ag (cD n) (aa (ab 0) (aa (ab 1) (aa (ab 8) af))))) (ae 0) aZ (ag fZ (aa (ab 1) (aa (ab 0) (aa (ab 2) (aa (ab 3) (aa (ab 4) af)))))))))
 (aK (dB (dOp (aJ false) (dOp ai (ab 2) (dC (.int 0))) (dC (.str "upon")))) (aq (ag aW (aa (ab 7) (aa (ab 3) af))) (ae 7)) (aq (ag aW (aa (ab 6) (aa (ab 9) af))) (ae 6))))))))
 (aB (ab 5)))))))))
noncomputable def eh(n:Nat):DTS:=
 (aj (aq (ag (cD n) (aa (ab 0) (aa (ab 1) (aa (dOp ai (ab 2) (dC (.int 3))) af)))) (ae 3))
 (aj (aq (ag (bE 13) (aa (ab 0) (aa (ab 1) (aa (dOp ai (ab 2) (dC (.int 3))) af)))) (ae 4))
 (aj (aq (i4 af) (ae 5))
 (aj (ik (dm (aa (dOp ai (ab 2) (dC (.int 2))) af)) (ae 6) (aj (aq (ag a7 (aa (ab 0) (aa (ab 4) (aa (ag aP (aa (ab 6) (aa (dC (.int 0)) (aa (dOp ai (ab 2) (dC (.int 1))) af)))) af)))) (ae 7))
 (ik (dm (aa (dOp ai (ab 2) (dC (.int 1))) af)) (ae 8) (aj (aq (ag aP (aa (ab 8) (aa (dC (.int 0)) (aa (dOp ai (ab 2) (dC (.int 1))) af)))) (ae 9))
 (dj (Dj (ab 5) (aQ [none,some 0,some 9,some 7,some 2] (a9 (ab 3)) (ae 0) aZ (ag fZ (aa (ab 1) (aa (ab 0) (aa (ag aP (aa (dC (.int 1)) (aa (dC (.int 0)) (aa (dOp ai (ab 4) (dC (.int 1))) af)))) (aa (ab 2) (aa (ab 3) af)))))))))))))
 (aB (ab 5))))))
section
variable {U:Mu}{Qd:DK}{ds:List D}{ρ:Rho}{n:Nat}
theorem og:∀(l:List Int),aS (l.map PyData.int)=some l
 |[]=>rfl
 |x::l=>by
  rw[map_cons]
  show aS (PyData.int x::_)=_
  unfold aS
  rw[og l]
  rfl
theorem nU{src:DTI}{es:List (PyData×Int)}(hs:∀QI:List PyData->Mu->Prop,QI (es.map (·.1)) U->src ρ U QI)(hl:es.length<=8)
  (hh:∀e∈es,Sh e.1/\TP n e.1 e.2) (q:∀Z,(∀b ds,U b=some ds->Z b=some ds)->Qd (.v (.list ((es.map (·.2)).map .int))) Z) :
  aQ [none] src (ae 0) aZ (ag (mX n) (aa (ab 0) af)) ρ U Qd:=by
 rw[cp]
 refine hs _ ⟨by rw[length_map];omega,fun p hp=>⟨fun i acc Z=>acc=((es.take i).map (·.2)).map .int/\∀b ds,b≠p->U b=some ds->Z b=some ds,⟨by simp,fun b ds hb e=>by rw[ao hb];exact e⟩,?_,?_⟩⟩
 ·rintro i x acc Z hx hacc ⟨rfl,hk⟩
  rw[getElem?_map] at hx
  obtain⟨e,he,rfl⟩:∃e,es[i]? = some e/\e.1=x:=by
   cases z:es[i]? with
   |none=>rw[z] at hx;cases hx
   |some e=>rw[z] at hx;exact⟨e,rfl,by simpa using hx⟩
  have hm:=hh e (mem_of_getElem? he)
  simp only[bJ,cK,cF,bind_some,bind_none,join_some,set_cons_zero,cJ,↓reduceIte,ey,eN,dJ,true_and,and_true,dz,cI,dR,cT,cP,c8]
  refine⟨e.1,e.2,rfl,hm.1,hm.2,fun bn h4=>⟨h4 _ _ hacc,?_,fun b ds hb e'=>by rw[ao hb];exact h4 b ds (hk b ds hb e')⟩⟩
  rw[take_succ,he];simp
 ·rintro acc Z ⟨rfl,hk⟩ hacc
  rw[length_map,take_length]
  exact q _ fun b ds e=>by
   have hb:b≠p:=fun z=>by rw[z,hp] at e;cases e
   rw[bO hb];exact hk b ds hb e
theorem pF(n:Nat)(h:cS (n+1) ds U Qd):jb n ‹Qd› (ak ["_law_plan_here"] ds) U:=by
 obtain⟨t,x,rfl,hs,tp,q⟩:=h
 unfold jb
 cases tp with
 |kind i=>
  walk_at "ru"
  simp only[ax cj cj,vR,false_xor,↓reduceIte]
  exact q U fun _ _ e=>e
 |@turn _ t' y h1=>
  walk_at "ru"
  simp only[ax cm cj,ax cm cm,uW,uU,false_xor,false_eq_true,↓reduceIte]
  exact⟨t',x,rfl,hs.mem t' (by simp),h1,q⟩
 |@grid _ t' y u v hu hv hu' hv' hn h1=>
  walk_at "ru"
  simp only[ax bI cj,ax bI cm,ax bI bI,yV,yD,rE,false_xor,false_eq_true,↓reduceIte]
  refine⟨cg hu' hv' ⋯,t',y,rfl,hs.mem t' (by simp),h1,fun Y k1=>?_⟩
  walk_at "ru"
  exact⟨cg (hu'.mul hv') h1.sz ∅,q Y k1⟩
 |@upon _ es h2 h8 hh=>
  walk_at "ru"
  simp only[ax dw cj,ax dw cm,ax dw bI,yj,yx,yO,false_xor,false_eq_true,↓reduceIte]
  have hp:∀e∈es,Sh e.1:=fun e he=>(hs.mem (.tuple (es.map (·.1))) (by simp)).mem e.1 (mem_map_of_mem he)
  refine nU (es:=es) (fun QI hq=>by walk_at "ru";exact hq) h8 (fun e he=>⟨hp e he,hh e he⟩) fun Y k1=>?_
  walk_at "ru"
  simp only[og]
  exact q Y k1
 |@beside _ es h2 h8 hh=>
  walk_at "ru"
  simp only[ax fU cj,ax fU cm,ax fU bI,yq,yh,yS,false_xor,false_eq_true,↓reduceIte]
  have hp:∀e∈es,Sh e.1:=fun e he=>(hs.mem (.tuple (es.map (·.1))) (by simp)).mem e.1 (mem_map_of_mem he)
  refine nU (es:=es) (fun QI hq=>by walk_at "ru";exact hq) h8 (fun e he=>⟨hp e he,hh e he⟩) fun Y k1=>?_
  walk_at "ru"
  simp only[og]
  exact q Y k1
end
section
variable {U:Mu}{Qd:DK}{ds:List D}{ρ:Rho}{d:Int}{ks:List N3}
theorem TL.bw(hd:ah d){n:Nat}{t:PyData}{x:RN d}{L:List (Bo d×Int×Nat)}(h:TL d ks n 0 t x (fl x) L)(hn:n<=13)(bx:Bd 4300 x.v):∀e∈L,Bw 70000 8000000 e.1:=fun e he=>
 ((h.go e he).bw hd (m:=0) ∅ (Ep bx)).mono ⋯ ⋯
theorem acc_step{α:Type}{L:List α}{g:α->PyData}{i:Nat}{e:α}(he:L[i]? = some e):(L.take i).map g++[g e]=(L.take (i+1)).map g:=by
 rw[take_succ,he];simp
theorem CB{src:DTI}(C:List (Bo d×Int×Nat)->Mu->Prop)(hs:∀QI:List PyData->Mu->Prop,(∀L Z,C L Z->QI (L.map cH) Z)->src ρ U QI){f l o:RN d}{i0 i1 i2 i3:Nat}(hl:∀L Z,C L Z->L.length<=60)(hd:ah d)(h0:ρ[i0]? = some (some (.v (.int d))))(h1:ρ[i1]? = some (some (.v (dN f.v))))(h2:ρ[i2]? = some (some (.v (dN l.v))))(h3:ρ[i3]? = some (some (.v (dN o.v))))
  (bw:∀L Z,C L Z->∀e∈L,Bw 70000 8000000 e.1) (bf:Bd 70000 f.v) (bl:Bd 1000000 l.v) (bo:Bd 1000000 o.v) (q:∀L Z,C L Z->Qd (.v (.list ((L.map (mvT f l o)).map cH))) Z) :
  aQ [none,some i0,some i1,some i2,some i3] src (ae 0) aZ (ag fZ (aa (ab 1) (aa (ab 0) (aa (ab 2) (aa (ab 3) (aa (ab 4) af)))))) ρ U Qd:=by
 rw[cp]
 refine hs _ fun L Y hC=>⟨by rw[length_map];have:=hl L Y hC;omega,fun p hp=>⟨fun i acc Z=>acc=(L.take i).map (fun e=>cH (mvT f l o e))/\Z=aD Y p acc,⟨by simp,rfl⟩,?_,?_⟩⟩
 ·rintro i x acc Z hx hacc ⟨rfl,rfl⟩
  rw[getElem?_map] at hx
  obtain⟨e,he,rfl⟩:=Option.map_eq_some_iff.mp hx
  simp only[bJ,cK,cF,h0,h1,h2,h3,bind_some,bind_none,join_some,set_cons_zero,cJ,↓reduceIte,ey,eN,dJ,true_and,and_true,dz,cI,dR,cT,cP,c8,fQ,gE]
  refine⟨d,e.1,e.2.1,e.2.2,f,l,o,rfl,hd,bw L Y hC e (mem_of_getElem? he),bf,bl,bo,hacc,acc_step (g:=fun e=>cH (mvT f l o e)) he,?_⟩
  rw[bU]
 ·rintro acc Z ⟨rfl,rfl⟩ hacc
  rw[cY hp,length_map,take_length]
  have:=q L Y hC
  rwa [map_map] at this
theorem A2{src:DTI}(C:List (Bo d×Int×Nat)->Mu->Prop)(hs:∀QI:List PyData->Mu->Prop,(∀L Z,C L Z->QI (L.map cH) Z)->src ρ U QI){u v:Int}{t:PyData}{l o:RN d}{i0 i1 i2 i3:Nat}(hl:∀L Z,C L Z->L.length<=60)(hd:ah d)(h0:ρ[i0]? = some (some (.v (.int d))))(h1:ρ[i1]? = some (some (.v (dN l.v))))(h2:ρ[i2]? = some (some (.v (dN o.v))))(h3:ρ[i3]? = some (some (.v (.tuple [.str "grid",.int u,.int v,t]))))
  (bw:∀L Z,C L Z->∀e∈L,Bw 70000 8000000 e.1) (u1:1<=u) (u2:u<=1000000) (bl:Bd 1000000 l.v) (bo:Bd 1000000 o.v) (q:∀L Z,C L Z->Qd (.v (.list ((L.map (mvT (inv (u:RN d)) l o)).map cH))) Z) :
  aQ [none,some i0,some i1,some i2,some i3] src (ae 0) aZ (ag fZ (aa (ab 1) (aa (ab 0) (aa (ag aP (aa (dC (.int 1)) (aa (dC (.int 0)) (aa (dOp ai (ab 4) (dC (.int 1))) af)))) (aa (ab 2) (aa (ab 3) af)))))) ρ U Qd:=by
 have pu:=aN (d:=d) (n:=u) ∅
 have biu:=bdI hd pu (bdC ∅ u2)
 have e1:(1:Int)*inv (u:RN d)=inv (u:RN d):=by rw[nE];grind
 rw[cp]
 refine hs _ fun L Y hC=>⟨by rw[length_map];have:=hl L Y hC;omega,fun p hp=>⟨fun i acc Z=>acc=(L.take i).map (fun e=>cH (mvT (inv (u:RN d)) l o e))/\Z=aD Y p acc,⟨by simp,rfl⟩,?_,?_⟩⟩
 ·rintro i x acc Z hx hacc ⟨rfl,rfl⟩
  rw[getElem?_map] at hx
  obtain⟨e,he,rfl⟩:=Option.map_eq_some_iff.mp hx
  simp only[bJ,cK,cF,h0,h1,h2,h3,bind_some,bind_none,join_some,set_cons_zero,cJ,↓reduceIte,ey,eN,dJ,true_and,and_true,dz,cI,dR,cT,cP,c8,fQ,gE,q_c,EC,gm]
  refine⟨1,0,u,rfl,∅,(Sz.of (n:=20) (by show u.natAbs<1048576;omega)).mono ⋯,?_⟩
  simp only[iy hd (show 0<u by omega),e1]
  refine⟨d,e.1,e.2.1,e.2.2,inv (u:RN d),l,o,rfl,hd,bw L Y hC e (mem_of_getElem? he),biu.mono ⋯,bl,bo,hacc,acc_step (g:=fun e=>cH (mvT (inv (u:RN d)) l o e)) he,?_⟩
  rw[bU]
 ·rintro acc Z ⟨rfl,rfl⟩ hacc
  rw[cY hp,length_map,take_length]
  have:=q L Y hC
  rwa [map_map] at this
theorem B8{src:DTI}(C:List (Bo d×Int×Nat)->Mu->Prop)(hs:∀QI:List PyData->Mu->Prop,(∀L Z,C L Z->QI (L.map cH) Z)->src ρ U QI){x:RN d}{i0 i1:Nat}(hl:∀L Z,C L Z->L.length<=60)(hd:ah d)(h0:ρ[i0]? = some (some (.v (.int d))))(h1:ρ[i1]? = some (some (.v (dN x.v))))
  (bw:∀L Z,C L Z->∀e∈L,Bw 70000 8000000 e.1) (px:ps x) (bx:Bd 4300 x.v) (q:∀L Z,C L Z->Qd (.v (.list (((L.map (qtT x)).map (mvT (inv x) 0 0)).map cH))) Z) :
  aQ [none,some i0,some i1] src (ae 0) aZ (ag ff (aa (ab 1) (aa (ab 0) (aa (ab 2) af)))) ρ U Qd:=by
 rw[cp]
 refine hs _ fun L Y hC=>⟨by rw[length_map];have:=hl L Y hC;omega,fun p hp=>⟨fun i acc Z=>acc=(L.take i).map (fun e=>cH (mvT (inv x) 0 0 (qtT x e)))/\Z=aD Y p acc,⟨by simp,rfl⟩,?_,?_⟩⟩
 ·rintro i y acc Z hx hacc ⟨rfl,rfl⟩
  rw[getElem?_map] at hx
  obtain⟨e,he,rfl⟩:=Option.map_eq_some_iff.mp hx
  simp only[bJ,cK,cF,h0,h1,bind_some,bind_none,join_some,set_cons_zero,cJ,↓reduceIte,ey,eN,dJ,true_and,and_true,dz,cI,dR,cT,cP,c8]
  refine⟨d,e.1,e.2.1,e.2.2,x,rfl,hd,bw L Y hC e (mem_of_getElem? he),px,bx,hacc,acc_step (g:=fun e=>cH (mvT (inv x) 0 0 (qtT x e))) he,?_⟩
  rw[bU]
 ·rintro acc Z ⟨rfl,rfl⟩ hacc
  rw[cY hp,length_map,take_length]
  have:=q L Y hC
  rw[map_map,map_map] at this
  exact this
noncomputable def wdF{d:Int}(up:Bool)(X:RN d)(e:PyData×RN d):RN d:=if up=true then 1 else X*inv e.2
noncomputable def lfF{d:Int}(up:Bool)(X:RN d)(l:List (PyData×RN d)):RN d:=if up=true then 0 else aR (l.map fun e=>X*inv e.2)
noncomputable def lwF{d:Int}(up:Bool)(l:List (PyData×RN d)):RN d:=if up=true then aR (l.map (·.2)) else 0
theorem yG(hd:ah d){X:RN d}{up:Bool}{es:List (PyData×RN d)}{j:Nat}{e:PyData×RN d}(hp:ps e.2)(he:es[j]? = some e):(aG 0 up (fl X) (aF up es))[j]? = some (mv (wdF up X e) (lfF up X (es.take j)) (lwF up (es.take j)) (fl e.2)):=by
 unfold wdF lfF lwF
 cases up
 ·have w:=wb hd (X:=X) (x:=e.2) (zs:=aF false es) (j:=j) hp (by unfold aF;rw[getElem?_map,he];rfl)
  rw[show ((aF false es).take j).map (X * ·)=(es.take j).map fun e=>X*inv e.2 by unfold aF;rw[<- map_take,map_map];rfl] at w
  exact w
 ·have w:=zZ (X:=X) (zs:=aF true es) (j:=j) (z:=e.2) (by unfold aF;rw[getElem?_map,he];rfl)
  rw[show (aF true es).take j=(es.take j).map (·.2) by unfold aF;rw[<- map_take];rfl] at w
  exact w
theorem jO(cs:List (PyData×Int))(h:∀z∈cs,1<=z.2):∀y∈cs,y.2<=(cs.map (·.2)).sum:=by
 have key:∀l:List (PyData×Int),(∀z∈l,1<=z.2)->0<=(l.map (·.2)).sum/\∀y∈l,y.2<=(l.map (·.2)).sum:=fun l=>by
  induction l with
  |nil=>exact fun _=>⟨by simp,fun _ z=>(nomatch z)⟩
  |cons e l ih=>
   intro h
   obtain⟨h1,h2⟩:=ih fun y hy=>h y (by simp[hy])
   have h3:=h e (by simp)
   rw[map_cons,sum_cons]
   refine⟨∅,fun y hy=>?_⟩
   rcases List.mem_cons.mp hy with z|z
   ·rw[z];omega
   ·have:=h2 y z;omega
 exact (key cs h).2
theorem PlP.len{n:Nat}{t:PyData}{x:RN d}{c:Int}{L:List (Bo d×Int×Nat)}(P:PlP d ks n t x c)(h:TL d ks n 0 t x (fl x) L):L.length<=60:=by
 have:=h.len P.tp
 have:=P.few
 omega
theorem pP(n:Nat)(h:k8 (n+1) ds U Qd):i8 n ‹Qd› (ak ["_law_d","_law_kinds_here","_law_plan_here","_law_shape_here","_law_whole","_law_found","_law_left","_law_low_here","_law_part","_law_wide"] ds) U:=by
 obtain⟨Q',⟨d,ks,t,X,c,rfl,P,qd⟩,kq⟩:=h
 have hd:=P.hd
 have s5:=eI hd.1 hd.2.1
 have hn:=P.ln
 obtain⟨m,em,X',eX,vw⟩:=SP.vw hd P.hk P.sp
 obtain rfl:m=n:=by omega
 obtain rfl:X'=X:=RN.ext eX
 unfold i8
 cases vw with
 |kind i _ h0 h1 h2 h3=>
  walk_at "rb"
  simp only[ax cj cj,vR,false_xor,↓reduceIte]
  walk_at "rb"
  have e:atI (ks.map dN) i=some (dN X'.v):=by
   have:=c9 (xs:=ks.map dN) (j:=i.toNat) (v:=dN X'.v) (by rw[getElem?_map,h2];rfl)
   rw[show ((i.toNat:Nat):Int)=i by omega] at this
   exact this
  rw[e]
  exact kq _ _ (qd [(fl X',i,0)] U (.kind i X' h0 h1 h2 h3) fun _ _ z=>z)
 |turn t x h1 h2 h3=>
  walk_at "rb"
  simp only[ax cm cj,uW,false_xor]
  walk_at "rb"
  simp only[ax cm cm,uU,false_xor]
  walk_at "rb"
  have st:=P.sh.mem t (by simp)
  refine⟨d,ks,false,t,x.v,rfl,hd,st,h1.up ∅,fun Y k1=>?_⟩
  walk_at "rb"
  have P':PlP d ks m t x c:=⟨∅,hd,P.hk,st,h1,h3,P.tp.D7,P.few⟩
  refine B8 (fun L Z=>TL d ks m 0 t x (fl x) L/\∀b ds,Y b=some ds->Z b=some ds) (i0:=0) (i1:=3) (fun QI hq=>?_) (fun L Z h=>P'.len h.1) hd rfl rfl (fun L Z h=>h.1.bw hd ∅ h3) h2 h3 fun L ac ⟨hT,k2⟩=>?_
  ·walk_at "rb"
   exact⟨d,ks,t,x,c,rfl,P',fun L ac hT k2=>hq L ac ⟨hT,k2⟩⟩
  have g':=(hT.qt hd x).mv (inv x) 0 0
  rw[Aw hd h2] at g'
  exact kq _ _ (qd _ _ (.turn h1 h2 h3 g') fun b ds z=>k2 b ds (k1 b ds z))
 |grid t x u v h1 h2 h3 h4 h5 h6 h7=>
  walk_at "rb"
  simp only[ax bI cj,yV,false_xor]
  walk_at "rb"
  simp only[ax bI cm,yD,false_xor]
  walk_at "rb"
  simp only[ax bI bI,rE,false_xor]
  walk_at "rb"
  have st:=P.sh.mem t (by simp)
  obtain⟨y,hy,ec⟩:=P.tp.Ef
  have few:=P.few
  have y1:=hy.pos
  have uv:1<=u*v:=by have:=mul_pos (by omega:0<u) (by omega:0<v);omega
  have le:1*y<=u*v*y:=Int.mul_le_mul_of_nonneg_right uv ∅
  exact⟨d,ks,t,x,u,v,y,rfl,⟨∅,hd,P.hk,st,h5,h7,hy,∅⟩,⟨h1,h2,h3,h4⟩,∅,fun L Y hT k1=>kq _ _ (qd L Y hT k1)⟩
 |strip up es h1 h2 h3 h4 h5=>
  have hp:∀e∈es,ps e.2:=fun e he=>(h3 e he).2.1
  have shs:∀e∈es,Sh e.1:=fun e he=>(P.sh.mem (.tuple (es.map (·.1))) (by simp)).mem e.1 (mem_map_of_mem he)
  obtain⟨cs,ecs,ec,hcs⟩:=P.tp.BD
  have few:∀e∈es,∃y,TP m e.1 y/\y<=60:=fun e he=>by
   have:e.1∈cs.map (·.1):=by rw[ecs];exact mem_map_of_mem he
   obtain⟨y,hy,e1⟩:=List.mem_map.mp this
   have l:=jO cs (fun z hz=>(hcs z hz).pos) y hy
   have:=P.few
   exact⟨y.2,by rw[<- e1];exact hcs y hy,∅⟩
  have swd:SeqAt.shaped (.str (wd up))=true:=by cases up;exact fU;exact dw
  have tk:aw "kind" (.str (wd up))=false:=by cases up;exact yq;exact yj
  have tt:aw "turn" (.str (wd up))=false:=by cases up;exact yh;exact yx
  have tg:aw "grid" (.str (wd up))=false:=by cases up;exact yS;exact yO
  have tb:aw "beside" (.str (wd up)) = !up:=by cases up;exact JV;exact ID
  have tu:aw "upon" (.str (wd up))=up:=by cases up;exact zU;exact Av
  walk_at "rb"
  simp only[ax swd cj,tk,false_xor]
  walk_at "rb"
  simp only[ax swd cm,tt,false_xor]
  walk_at "rb"
  simp only[ax swd bI,tg,false_xor]
  walk_at "rb"
  refine⟨d,ks,false,_,(whole up es).v,rfl,hd,P.sh,P.sp.up hn,fun Y k1=>?_⟩
  walk_at "rb"
  intro p hp1
  have hp0:U p=none:=by
   cases z:U p with
   |none=>rfl
   |some es=>have:=k1 p es z;rw[hp1] at this;cases this
  rw[fK]
  walk_at "rb"
  refine⟨trivial,fun i ρ Z=>∃(r3 r8 r9:Option D) (Ls:List (((PyData×RN d)×Bo d)×List (Bo d×Int×Nat))),ρ=[some (.v (.int d)),some (.v (.tuple (ks.map dN))),some (.v (.tuple [.str (wd up),.tuple (es.map (·.1))])),r3,some (.v (dN (whole up es).v)),some (.m p),some (.v (dN (lfF up (whole up es) (es.take i)).v)),some (.v (dN (lwF up (es.take i)).v)),r8,r9] /\
   Z p=some ((Ls.map (·.2)).flatten.map cH)/\(∀b ds,U b=some ds->Z b=some ds)/\Ls.map (·.1)=(es.zip (aG 0 up (fl (whole up es)) (aF up es))).take i/\(∀q∈Ls,TL d ks m 0 q.1.1.1 q.1.1.2 q.1.2 q.2)/\(Ls.map (·.2)).flatten.length<=60*i,
   ⟨_,_,_,[],by cases up<;>rfl,av,fun b ds z=>by rw[ao fun y=>by rw[y,hp0] at z;cases z];exact k1 b ds z,rfl,fun _ z=>(nomatch z),le_refl _⟩,?_,?_⟩
  ·rintro i x ρ ac hx ⟨r3,r8,r9,Ls,rfl,hL,kk,eL,tL,nL⟩
   rw[getElem?_map] at hx
   obtain⟨e,he,rfl⟩:=Option.map_eq_some_iff.mp hx
   have em:=mem_of_getElem? he
   obtain⟨h3a,h3b,h3c⟩:=h3 e em
   have he8:i<es.length:=(List.getElem?_eq_some_iff.mp he).1
   walk_at "rb"
   refine⟨d,ks,false,e.1,e.2.v,rfl,hd,shs e em,h3a.up ∅,fun be k3=>?_⟩
   walk_at "rb"
   simp only[ax swd fU,tb,false_xor]
   unfold DL.hd
   dsimp only
   have fork:∀(Dd:gJ) (a b:Option D),Dd.nx [some (.v (.int d)),some (.v (.tuple (ks.map dN))),some (.v (.tuple [.str (wd up),.tuple (es.map (·.1))])),some (.v (dN e.2.v)),some (.v (dN (whole up es).v)),some (.m p),a,b,some (.v e.1),some (.v (dN (wdF up (whole up es) e).v))] be->(if (!up)=true then aq (ag a7 (aa (ab 0) (aa (ab 4) (aa (ag aL (aa (ab 0) (aa (ab 3) af))) af)))) (ae 9) Dd [some (.v (.int d)),some (.v (.tuple (ks.map dN))),some (.v (.tuple [.str (wd up),.tuple (es.map (·.1))])),some (.v (dN e.2.v)),some (.v (dN (whole up es).v)),some (.m p),a,b,some (.v e.1),some (.v (dN (1:RN d).v))] be else
    aE Dd [some (.v (.int d)),some (.v (.tuple (ks.map dN))),some (.v (.tuple [.str (wd up),.tuple (es.map (·.1))])),some (.v (dN e.2.v)),some (.v (dN (whole up es).v)),some (.m p),a,b,some (.v e.1),some (.v (dN (1:RN d).v))] be):=fun Dd a b k=>by
    cases up
    ·rw[if_pos ⋯]
     walk_at "rb"
     refine⟨d,e.2.v,rfl,s5,f7 hd h3b,h3c.mono ⋯,?_⟩
     rw[<- iE hd h3b]
     refine⟨d,_,(inv e.2).v,rfl,s5,RN.ok _,RN.ok _,P.bd.mono ⋯,(bdI hd h3b h3c).mono ⋯,?_⟩
     walk_at "rb"
     exact k
    ·rw[if_neg ⋯]
     exact k
   refine fork _ _ _ ?_
   walk_at "rb"
   obtain⟨y,hy,y60⟩:=few e em
   have P':PlP d ks m e.1 e.2 y:=⟨∅,hd,P.hk,shs e em,h3a,h3c,hy,y60⟩
   have bs:=fun (e':PyData×RN d) (h':e'∈es)=>bdM hd P.bd (bdI hd (hp e' h') (h3 e' h').2.2)
   have bwd:∀e'∈es,Bd 18000 (wdF up (whole up es) e').v:=fun e' h'=>by
    unfold wdF;split
    ·exact b01.1.mono ⋯
    ·exact (bs e' h').mono ⋯
   have blf:Bd 200000 (lfF up (whole up es) (es.take i)).v:=by
    unfold lfF;split
    ·exact b01.2.mono ⋯
    ·have:=A5 (m:=4300+(2*4300+6)+6) ((es.take i).map fun e=>whole up es*inv e.2) fun z hz=>by
      obtain⟨e',h',rfl⟩:=List.mem_map.mp hz
      exact bs e' (mem_of_mem_take h')
     refine this.mono ?_
     have ml:((es.take i).map fun e=>whole up es*inv e.2).length<=8:=by rw[length_map,length_take];omega
     have:=mul_le_mul_right (4300+(2*4300+6)+6+1) ml
     omega
   have blw:Bd 50000 (lwF up (es.take i)).v:=by
    unfold lwF;split
    ·have:=A5 (m:=4300) ((es.take i).map (·.2)) fun z hz=>by
      obtain⟨e',h',rfl⟩:=List.mem_map.mp hz
      exact (h3 e' (mem_of_mem_take h')).2.2
     refine this.mono ?_
     have ml:((es.take i).map (·.2)).length<=8:=by rw[length_map,length_take];omega
     have:=mul_le_mul_right (4300+1) ml
     omega
    ·exact b01.2.mono ⋯
   refine CB (fun L Z=>TL d ks m 0 e.1 e.2 (fl e.2) L/\∀b ds,be b=some ds->Z b=some ds) (i0:=0) (i1:=9) (i2:=6) (i3:=7) (fun QI hq=>?_) (fun L Z h=>P'.len h.1) hd rfl rfl rfl rfl (fun L Z h=>h.1.bw hd ∅ h3c) ((bwd e em).mono ⋯) (blf.mono ⋯) (blw.mono ⋯) fun L bn ⟨hT,k4⟩=>?_
   ·walk_at "rb"
    exact⟨d,ks,e.1,e.2,y,rfl,P',fun L bn hT k4=>hq L bn ⟨hT,k4⟩⟩
   have hL4:=k4 _ _ (k3 _ _ hL)
   rw[hL4]
   dsimp only
   have lL:=P'.len hT
   refine⟨by rw[length_map,length_map,length_map];omega,?_⟩
   have w:=yG hd (X:=whole up es) (up:=up) h3b he
   have hT':=hT.mv (wdF up (whole up es) e) (lfF up (whole up es) (es.take i)) (lwF up (es.take i))
   obtain⟨L',eL'⟩:∃L',L'=L.map (mvT (wdF up (whole up es) e) (lfF up (whole up es) (es.take i)) (lwF up (es.take i))):=⟨_,rfl⟩
   rw[<- eL'] at hT' ⊢
   generalize mv (wdF up (whole up es) e) (lfF up (whole up es) (es.take i)) (lwF up (es.take i)) (fl e.2)=B' at w hT'
   have lL':L'.length=L.length:=by rw[eL',length_map]
   have t1:es.take (i+1)=es.take i++[e]:=by rw[take_succ,he];rfl
   have sS:∀(l:List (RN d)) (z:RN d),aR (l++[z])=aR l+z:=fun l z=>by unfold aR;rw[List.foldl_append];rfl
   have fin:∀dL,dL=aD bn p ((Ls.map (·.2)).flatten.map cH++L'.map cH)->∃Ls':List (((PyData×RN d)×Bo d)×List (Bo d×Int×Nat)),dL p=some ((Ls'.map (·.2)).flatten.map cH)/\(∀b ds,U b=some ds->dL b=some ds)/\Ls'.map (·.1)=(es.zip (aG 0 up (fl (whole up es)) (aF up es))).take (i+1)/\(∀q∈Ls',TL d ks m 0 q.1.1.1 q.1.1.2 q.1.2 q.2)/\(Ls'.map (·.2)).flatten.length<=60*(i+1):=fun dL e5=>by
    refine⟨Ls++[((e,B'),L')],?_,?_,?_,?_,?_⟩
    ·rw[e5,av];simp
    ·intro b ds z
     rw[e5,ao fun y=>by rw[y,hp0] at z;cases z]
     exact k4 _ _ (k3 _ _ (kk b ds z))
    ·rw[map_append,eL,take_succ,(List.getElem?_zip_eq_some (z:=(e,B'))).mpr ⟨he,w⟩];rfl
    ·intro q hq
     rcases List.mem_append.mp hq with z|z
     ·exact tL q z
     ·rw[List.mem_singleton.mp z];exact hT'
    ·rw[map_append,flatten_append,length_append];simp only[map_cons,map_nil,List.flatten_cons,List.flatten_nil,List.append_nil];omega
   obtain⟨Ls',f1,f2,f3,f4,f5⟩:=fin _ rfl
   clear fork
   simp only[ax swd dw,tu,false_xor]
   unfold DL.hd
   dsimp only
   cases up
   ·rw[if_neg ⋯]
    walk_at "rb"
    refine⟨_,(wdF false (whole false es) e).v,rfl,RN.ok _,RN.ok _,blf.mono ⋯,(bwd e em).mono ⋯,?_⟩
    walk_at "rb"
    rw[show dN (plus (lfF false (whole false es) (es.take i)).v (wdF false (whole false es) e).v)=dN (lfF false (whole false es) (es.take (i+1))).v by
     rw[show lfF false (whole false es) (es.take (i+1))=lfF false (whole false es) (es.take i)+wdF false (whole false es) e by unfold lfF wdF;rw[t1,map_append];exact sS _ _];rfl]
    exact⟨_,_,_,Ls',rfl,f1,f2,f3,f4,f5⟩
   ·rw[if_pos rfl]
    walk_at "rb"
    refine⟨_,e.2.v,rfl,RN.ok _,RN.ok _,blw.mono ⋯,h3c.mono ⋯,?_⟩
    walk_at "rb"
    rw[show dN (plus (lwF true (es.take i)).v e.2.v)=dN (lwF true (es.take (i+1))).v by
     rw[show lwF true (es.take (i+1))=lwF true (es.take i)+e.2 by unfold lwF;rw[t1,map_append];exact sS _ _];rfl]
    exact⟨_,_,_,Ls',rfl,f1,f2,f3,f4,f5⟩
  ·rintro ρ ac ⟨r3,r8,r9,Ls,rfl,hL,kk,eL,tL,nL⟩
   walk_at "rb"
   rw[List.take_of_length_le (by rw[List.length_zip,length_map];omega)] at eL
   refine kq _ _ ⟨hp0,_,hL,qd _ _ (.strip up es Ls h1 h2 h3 h4 eL tL) fun b ds z=>?_⟩
   rw[fE fun y=>by rw[y,hp0] at z;cases z]
   exact kk b ds z
noncomputable def iC{d:Int}(x:RN d)(u v:Int)(L:List (Bo d×Int×Nat))(r k:Nat):List (Bo d×List (Bo d×Int×Nat)):=(List.range k).map fun c:Nat=>(bR 0 u v (fl (x*((v:RN d)*inv (u:RN d)))) (c:Int) (r:Int),L.map (mvT (inv (u:RN d)) (((c:Int):RN d)*inv (u:RN d)) (x*(((r:Int):RN d)*inv (u:RN d)))))
noncomputable def gLs{d:Int}(x:RN d)(u v:Int)(L:List (Bo d×Int×Nat))(r:Nat):List (Bo d×List (Bo d×Int×Nat)):=(List.range r).flatMap fun r:Nat=>iC x u v L r u.toNat
theorem t4{x:RN d}{u v:Int}{L:List (Bo d×Int×Nat)}{r:Nat}:gLs x u v L (r+1)=gLs x u v L r++iC x u v L r u.toNat:=by unfold gLs;rw[List.range_succ,List.flatMap_append];simp
theorem oE{x:RN d}{u v:Int}{L:List (Bo d×Int×Nat)}{r k:Nat}:iC x u v L r (k+1)=iC x u v L r k++[(bR 0 u v (fl (x*((v:RN d)*inv (u:RN d)))) (k:Int) (r:Int),L.map (mvT (inv (u:RN d)) (((k:Int):RN d)*inv (u:RN d)) (x*(((r:Int):RN d)*inv (u:RN d)))))]:=by unfold iC;rw[List.range_succ,map_append];rfl
theorem lB{x:RN d}{u v:Int}{L:List (Bo d×Int×Nat)}{r:Nat}:∀k,(((iC x u v L r k).map (·.2)).flatten).length=k*L.length
 |0=>by simp[iC]
 |k+1=>by rw[oE,map_append,flatten_append,length_append,lB k,Nat.succ_mul];simp
theorem xY{x:RN d}{u v:Int}{L:List (Bo d×Int×Nat)}:∀r,(((gLs x u v L r).map (·.2)).flatten).length=r*u.toNat*L.length
 |0=>by simp[gLs]
 |r+1=>by rw[t4,map_append,flatten_append,length_append,xY r,lB,Nat.succ_mul,add_mul]
theorem HI(hd:ah d){n:Nat}{t:PyData}{x:RN d}{u v:Int}{L:List (Bo d×Int×Nat)}(hu:1<=u)(hv:1<=v)(hu':u<=1000000)(hv':v<=1000000)(sp:SP d ks n t x.v)(px:ps x)(bx:Bd 4300 x.v)(h:TL d ks n 0 t x (fl x) L) :
  TL d ks (n+1) 0 (.tuple [.str "grid",.int u,.int v,t]) (x*((v:RN d)*inv (u:RN d))) (fl (x*((v:RN d)*inv (u:RN d)))) (((gLs x u v L v.toNat).map (·.2)).flatten):=by
 refine .grid u v _ hu hv hu' hv' sp px bx ?_ fun p hp=>?_
 ·unfold gLs iC hJ gIx
  simp only[List.map_flatMap,map_map]
  rfl
 ·unfold gLs iC at hp
  obtain⟨r,_,hp⟩:=List.mem_flatMap.mp hp
  obtain⟨c,_,rfl⟩:=List.mem_map.mp hp
  rw[<- Ax hd hu hv]
  exact h.mv _ _ _
theorem jT(n:Nat)(h:oQ n ds U Qd):eh n ‹Qd› (ak ["_law_d","_law_kinds_here","_law_plan_here","_law_inner","_law_shape_here","_law_found","_law_row","_law_low_here","_law_column","_law_left"] ds) U:=by
 obtain⟨Q',⟨d,ks,t,x,u,v,c,rfl,P,⟨g1,g2,g3,g4⟩,few,qd⟩,kq⟩:=h
 have hd:=P.hd
 have s5:=eI hd.1 hd.2.1
 obtain⟨m,em,X',eX,vw⟩:=SP.vw hd P.hk P.sp
 obtain rfl:X'=x:=RN.ext eX
 have px:=vw.pos hd
 have u0:0<u:=by omega
 have zu:Sz 44000000 u:=(Sz.of (n:=20) (by show u.natAbs<1048576;omega)).mono ⋯
 have pu:=aN (d:=d) u0
 have biu:=bdI hd pu (bdC ∅ g3)
 unfold eh
 walk_at "rb"
 refine⟨d,ks,t,X',c,rfl,P,fun L Y hT k1=>?_⟩
 have lL:=hT.len P.tp
 walk_at "rb"
 refine⟨d,ks,false,t,X'.v,rfl,hd,P.sh,P.sp.up P.ln,fun ac k2=>?_⟩
 walk_at "rb"
 intro p hp2
 have k12:∀b ds,U b=some ds->ac b=some ds:=fun b ds z=>k2 b ds (k1 b ds z)
 have hp0:U p=none:=by
  cases z:U p with
  |none=>rfl
  |some es=>have:=k12 p es z;rw[hp2] at this;cases this
 rw[fK]
 walk_at "rb"
 refine⟨⟨∅,∅⟩,fun r ρ Z=>∃r6 r7 r8 r9:Option D,ρ=[some (.v (.int d)),some (.v (.tuple (ks.map dN))),some (.v (.tuple [.str "grid",.int u,.int v,t])),some (.v (.list (L.map cH))),some (.v (dN X'.v)),some (.m p),r6,r7,r8,r9]/\Z p=some (((gLs X' u v L r).map (·.2)).flatten.map cH)/\(∀b ds,U b=some ds->Z b=some ds),
  ⟨_,_,_,_,rfl,av,fun b ds z=>by rw[ao fun y=>by rw[y,hp0] at z;cases z];exact k12 b ds z⟩,?_,?_⟩
 ·rintro r y ρ be hy ⟨r6,r7,r8,r9,rfl,hL,kk⟩
  obtain⟨rfl,hr⟩:=qv hy
  walk_at "rb"
  rw[Int.zero_add]
  refine⟨r,0,u,rfl,∅,zu,?_⟩
  simp only[iy hd u0]
  have br:=bdM hd (bdC (d:=d) (n:=(r:Int)) ∅ ∅) biu
  have bo:=bdM hd P.bd br
  refine⟨d,X'.v,_,rfl,s5,X'.ok,RN.ok _,P.bd.mono ⋯,br.mono ⋯,?_⟩
  walk_at "rb"
  rw[fK]
  walk_at "rb"
  refine⟨⟨∅,∅⟩,fun k ρ Z=>∃r8 r9:Option D,ρ=[some (.v (.int d)),some (.v (.tuple (ks.map dN))),some (.v (.tuple [.str "grid",.int u,.int v,t])),some (.v (.list (L.map cH))),some (.v (dN X'.v)),some (.m p),some (.v (.int (r:Int))),some (.v (dN (X'*(((r:Int):RN d)*inv (u:RN d))).v)),r8,r9]/\Z p=some (((gLs X' u v L r++iC X' u v L r k).map (·.2)).flatten.map cH)/\(∀b ds,U b=some ds->Z b=some ds),
   ⟨_,_,rfl,by rw[hL];unfold iC;simp,kk⟩,?_,?_⟩
  ·rintro k y ρ bn hy ⟨r8,r9,rfl,hL4,kk4⟩
   obtain⟨rfl,hk⟩:=qv hy
   walk_at "rb"
   rw[Int.zero_add]
   refine⟨k,0,u,rfl,∅,zu,?_⟩
   simp only[iy hd u0]
   have bk:=bdM hd (bdC (d:=d) (n:=(k:Int)) ∅ ∅) biu
   walk_at "rb"
   refine A2 (fun L' Z=>L'=L/\Z=bn) (i0:=0) (i1:=9) (i2:=7) (i3:=2) (fun QI hq=>?_) (fun L' Z h=>by rw[h.1];exact P.len hT) hd rfl rfl rfl rfl (fun L' Z h=>by rw[h.1];exact hT.bw hd P.ln P.bd) g1 g3 (bk.mono ⋯) (bo.mono ⋯) fun L' dL ⟨e1,e2⟩=>?_
   ·walk_at "rb"
    exact hq L bn ⟨rfl,rfl⟩
   subst e1 e2
   rw[hL4]
   dsimp only
   refine⟨?_,_,_,rfl,?_,fun b ds z=>?_⟩
   ·rw[length_map,map_append,flatten_append,length_append,xY,lB,length_map,length_map]
    have h1:r*u.toNat+k+1<=v.toNat*u.toNat:=by
     have:=mul_le_mul_right u.toNat (show r+1<=v.toNat by omega)
     rw[Nat.succ_mul] at this
     omega
    have h2:=mul_le_mul_right L'.length h1
    rw[add_mul,add_mul,Nat.one_mul] at h2
    have h3:((v.toNat*u.toNat*L'.length:Nat):Int)=u*v*c:=by rw[Int.natCast_mul,Int.natCast_mul,lL,show ((v.toNat:Nat):Int)=v by omega,show ((u.toNat:Nat):Int)=u by omega,Int.mul_comm v u]
    omega
   ·rw[av,oE,<- List.append_assoc,map_append (l₂:=[_]),flatten_append,map_append (f:=cH)]
    simp
   ·rw[ao fun y=>by rw[y,hp0] at z;cases z];exact kk4 b ds z
  ·rintro ρ bn ⟨r8,r9,rfl,hL4,kk4⟩
   rw[ij,<- t4] at hL4
   exact⟨_,_,_,_,rfl,hL4,kk4⟩
 ·rintro ρ be ⟨r6,r7,r8,r9,rfl,hL,kk⟩
  rw[ij] at hL
  walk_at "rb"
  refine kq _ _ ⟨hp0,_,hL,qd _ _ (HI hd g1 g2 g3 g4 P.sp px P.bd hT) fun b ds z=>?_⟩
  rw[fE fun y=>by rw[y,hp0] at z;cases z]
  exact kk b ds z
end
noncomputable def kb:DSp:=fun ds U Q=>∃(a:Addr) (m:Int),ds=[.m a,.v (.int m)]/\1<=m/\m<=3/\Bag U a/\∀dd c t y Z,IsP m dd c t->dd<=12->c<=60->TP 13 t y->y<=60->de a U Z->Q (.v t) Z
theorem sE{U:Mu}{Q:DK}{ds:List D}(h:kb ds U Q):ds.length=2:=by obtain⟨_,_,rfl,_⟩:=h;rfl
noncomputable def nr{d:Int}(s:RN d×RN d):PyData:=.tuple [dN s.1.v,dN s.2.v]
noncomputable def vN{d:Int}(X:RN d)(s:RN d×RN d):Prop:=In (fl X) s.1 s.2/\Bd 10000000 s.1.v/\Bd 10000000 s.2.v
structure FlP(d:Int)(ks:List N3)(t:PyData)(X:RN d)(L:List (Bo d×Int×Nat)):Prop where
 hd:ah d
 px:ps X
 bx:Bd 4300 X.v
 tl:TL d ks 13 0 t X (fl X) L
 few:L.length<=60
noncomputable def fk:DSp:=fun ds U Q=>∃(a:Addr) (d:Int) (ks:List N3) (t:PyData) (X:RN d) (L:List (Bo d×Int×Nat)),ds=[.m a,.v (.int d),.v (.list (L.map cH)),.v (dN X.v)]/\FlP d ks t X L/\Bag U a /\
 ∀(S:List (RN d×RN d)) Z,(∀s∈S,vN X s)->S.length<=13->de a U Z->Q (.v (.list (S.map nr))) Z
theorem pM{U:Mu}{Q:DK}{ds:List D}(h:fk ds U Q):ds.length=4:=by obtain⟨_,_,_,_,_,_,rfl,_⟩:=h;rfl
noncomputable abbrev jS:DSp:=Fj fk
theorem oA{ds:List D}{U:Mu}{Q:DK}(h:jS ds U Q):ds.length=4:=pM h.choose_spec.1
theorem nM{ds:List D}{U:Mu}{Qd:DK}(h:fk ds U Qd):jS ds U (AU U Qd):=⟨Qd,h,fun _ _ z=>z⟩
noncomputable def j0:DSp:=fun ds U Q=>∃(d:Int) (ks:List N3) (t:PyData) (X:RN d) (L:List (Bo d×Int×Nat)) (s:RN d×RN d),ds=[.v (.int d),.v (.tuple (ks.map dN)),.v t,.v (.list (L.map cH)),.v (nr s)]/\FlP d ks t X L/\KindsOk d ks/\Sh t/\okN (cnt (ks.length:Nat) 12 t)=true/\SP d ks 13 t X.v/\vN X s /\
 ∀Z,(∀b ds,U b=some ds->Z b=some ds)->Q (.v (.bool true)) Z
theorem rX{U:Mu}{Q:DK}{ds:List D}(h:j0 ds U Q):ds.length=5:=by obtain⟨_,_,_,_,_,_,rfl,_⟩:=h;rfl
noncomputable def d7:DTS:=
 (aj (ik (dm (aa (dC (.int 4)) af)) (ae 2) (aj (aq (ag mP (aa (ab 0) (aa (ab 1) af))) (ae 3))
 (aK (dB (dOp rLe (ag (cS 13) (aa (ab 3) af)) (dC (.int 60)))) (aB (ab 3)) aE)))
 (aB (aT (aa (dC (.str "upon")) (aa (aT (aa (aT (aa (dC (.str "kind")) (aa (dC (.int 0)) af))) (aa (aT (aa (dC (.str "turn")) (aa (aT (aa (dC (.str "kind")) (aa (fu (ab 1) (dC (.int 1))) af))) af))) af))) af)))))
noncomputable def i9:DTS:=
 (aj (aq (i4 (aa (aT (aa (aT (aa (dC (.int 0)) (aa (dC (.int 0)) (aa (dC (.int 1)) af)))) (aa (aT (aa (dC (.int 0)) (aa (dC (.int 0)) (aa (dC (.int 1)) af)))) af))) af)) (ae 4))
 (aj (ik (dm (aa (dC (.int 3)) af)) (ae 5) (aj (aq (dOp ai (ab 2) (ag aO (aa (ab 0) (aa (dCB aX (aa (ab 2) af)) af)))) (ae 6))
 (aj (oi 7 8 (aa (ag eD (aa (ab 0) (aa (ab 1) (aa (dOp ai (ab 6) (dC (.int 2))) af)))) (aa (ag eD (aa (ab 0) (aa (ab 1) (aa (dOp ai (ab 6) (dC (.int 3))) af)))) af)))
 (aj (dj (lp (ab 4) (aT (aa (dOp ai (ab 6) (dC (.int 0))) (aa (dOp ai (ab 6) (dC (.int 1))) af)))))
 (aj (dj (lp (ab 4) (aT (aa (ag aW (aa (dOp ai (ab 6) (dC (.int 0))) (aa (ab 7) af))) (aa (ag aW (aa (dOp ai (ab 6) (dC (.int 1))) (aa (ab 8) af))) af)))))
 (aj (dj (lp (ab 4) (aT (aa (ag eD (aa (ab 0) (aa (ab 1) (aa (aT (aa (dC (.int 1)) (aa (dC (.int 0)) (aa (dC (.int 1)) af)))) af)))) (aa (ag eD (aa (ab 0) (aa (ab 1) (aa (ab 3) af)))) af)))))
 (dj (lp (ab 4) (aT (aa (dOp ai (ab 6) (dC (.int 0))) (aa (ag aW (aa (dOp ai (ab 6) (dC (.int 1))) (aa (ab 8) af))) af)))))))))))
 (aB (ab 4))))
noncomputable def eP:DTS:=
 (aj (aq (aQ [none,some 0,some 4] (a9 (ab 3)) (ae 0) (dB (ag iN (aa (ab 1) (aa (ab 0) (aa (dOp ai (ab 2) (dC (.int 0))) (aa (dOp ai (ab 2) (dC (.int 1))) af)))))) (ab 0)) (ae 5))
 (aj (aq (ag jZ (aa (ab 0) (aa (ab 1) (aa (ab 2) (aa (dOp ai (ab 4) (dC (.int 0))) (aa (dOp ai (ab 4) (dC (.int 1))) af)))))) (ae 6))
 (aj (aK (du (dB (dOp (aJ true) (dCB aX (aa (ab 5) af)) (dC (.int 1)))) (du (cx (dB (lA "tuple" (ab 6)))) (dB (dOp (aJ true) (ab 6) (dOp ai (ab 5) (dC (.int 0))))))) (aB (dC (.bool false))) aE)
 (aj (aK (cx (dB (dCB lU (aa (fj [none] (fw (dSl (ab 6) fW (j3 (dC (.int 4))))) (ae 0) aZ (ag gD (aa (ab 0) af))) af)))) (aB (dC (.bool false))) aE)
 (aB (cL (ag cf (aa (dOp ai (ab 6) (dC (.int 4))) af)) (lA "bool" (dOp ai (ab 6) (dC (.int 5))))))))))
section
variable {U:Mu}{Qd:DK}{ds:List D}
theorem jo(h:kb ds U Qd):d7 ‹Qd› (ak ["_law_bag_here","_law_many","_law_turn","_law_plan_here"] ds) U:=by
 obtain⟨a,m,rfl,m1,m3,hb,qd⟩:=h
 unfold d7
 walk_at "rb"
 rw[fK]
 walk_at "rb"
 refine⟨⟨⋯,⋯⟩,fun i ρ Z=>∃r2 r3:Option D,ρ=[some (.m a),some (.v (.int m)),r2,r3]/\de a U Z,⟨_,_,rfl,.of hb fun _ _ z=>z⟩,?_,?_⟩
 ·rintro i y ρ Y hy ⟨r2,r3,rfl,s1⟩
  walk_at "rb"
  refine⟨a,m,rfl,m1,m3,s1.1,fun dd c t ac hp hdd hc s2=>?_⟩
  walk_at "rb"
  obtain⟨z,hz⟩:=Jk hp 13 ∅ ∅
  refine⟨t,z,rfl,hp.lt.sh ∅,hz,fun be k3=>?_⟩
  walk_at "rb"
  have s3:=(s1.trans s2).trans (.of s2.1 k3)
  by_cases c60:z<=60
  ·rw[if_pos (decide_eq_true c60)]
   exact qd dd c t z be hp hdd hc hz c60 s3
  ·rw[if_neg (by rw[decide_eq_true_eq];exact c60)]
   unfold DL.hd
   exact⟨_,_,rfl,s3⟩
 ·rintro ρ Y ⟨r2,r3,rfl,s1⟩
  walk_at "rb"
  have hp:IsP m 3 _ (.tuple [.str "upon",.tuple ([(1,1,.tuple [.str "kind",.int 0]),(2,1+1,.tuple [.str "turn",.tuple [.str "kind",.int (m-1)]])].map (·.2.2))]):=.upon (d:=2) _ (by show 2<=2;decide) (by show 2<=8;decide) (fun e he=>by
   simp only[mem_cons,not_mem_nil,or_false] at he
   rcases he with z|z<;>rw[z]<;>dsimp only<;>omega) (fun e he=>by
   simp only[mem_cons,not_mem_nil,or_false] at he
   rcases he with z|z<;>rw[z]
   ·exact .kind 0 ⋯ ∅
   ·exact .turn (.kind _ ∅ ∅))
  have ht:TP 13 (.tuple [.str "upon",.tuple [.tuple [.str "kind",.int 0],.tuple [.str "turn",.tuple [.str "kind",.int (m-1)]]]]) 2:=.upon [(_,1),(_,1)] (by show 2<=2;decide) (by show 2<=8;decide) fun e he=>by
   simp only[mem_cons,not_mem_nil,or_false] at he
   rcases he with z|z<;>rw[z]
   ·exact .kind 0
   ·exact .turn (.kind _)
  exact qd _ _ _ 2 Y hp ⋯ (by show 1+(1+1+0)+1<=60;decide) ht ⋯ s1
theorem kW{d:Int}(hd:ah d){T:Bo d}{p r:RN d}(pw:ps T.w)(ph:ps T.h)(p0:nn p)(p1:ps (1-p))(r0:nn r)(r1:ps (1-r)):In T (T.x+T.w*p) (T.y+T.h*r):=by
 have q0:=dQ hd (fh hd pw) p0
 have q1:=bL hd pw p1
 have q2:=dQ hd (fh hd ph) r0
 have q3:=bL hd ph r1
 refine⟨?_,?_,?_,?_⟩
 ·rwa [show T.x+T.w*p-T.x=T.w*p by grind]
 ·rwa [show T.x+T.w-(T.x+T.w*p)=T.w*(1-p) by grind]
 ·rwa [show T.y+T.h*r-T.y=T.h*r by grind]
 ·rwa [show T.y+T.h-(T.y+T.h*r)=T.h*(1-r) by grind]
theorem pS(h:jS ds U Qd):i9 ‹Qd› (ak ["_law_bag_here","_law_d","_law_tiles_here","_law_shape_here","_law_found","_law_turn","_law_tile","_law_x","_law_y"] ds) U:=by
 obtain⟨Q',⟨a,d,ks,t,X,L,rfl,P,hb,qd⟩,kq⟩:=h
 have hd:=P.hd
 have n1:ps (1-0:RN d):=by rw[show (1-0:RN d)=1 by grind];exact aN (d:=d) (n:=1) ⋯
 have rt:=si X P.px
 have in0:In (fl X) 0 0:=by
  have:=kW hd (T:=fl X) rt.w rt.h wj n1 wj n1
  rwa [show (fl X).x+(fl X).w*0=0 by unfold fl;grind,show (fl X).y+(fl X).h*0=0 by unfold fl;grind] at this
 unfold i9
 walk_at "rb"
 intro p hp
 have pa:p≠a:=fun z=>by obtain⟨g,m,e,_⟩:=hb;rw[<- z,hp] at e;cases e
 rw[fK]
 walk_at "rb"
 refine⟨⟨⋯,⋯⟩,fun i ρ Z=>∃(r5 r6 r7 r8:Option D) (S:List (RN d×RN d)),ρ=[some (.m a),some (.v (.int d)),some (.v (.list (L.map cH))),some (.v (dN X.v)),some (.m p),r5,r6,r7,r8]/\Z p=some (S.map nr)/\(∀s∈S,vN X s)/\S.length<=1+4*i/\de a U Z,
  ⟨_,_,_,_,[(0,0)],rfl,av,fun s hs=>?_,le_refl _,?_⟩,?_,?_⟩
 ·rw[List.mem_singleton.mp hs]
  exact⟨in0,b01.2.mono ⋯,b01.2.mono ⋯⟩
 ·exact⟨by obtain⟨g,m,e,z⟩:=hb;exact⟨g,m,by rw[ao fun y=>pa y.symm];exact e,z⟩,fun b n es z=>by rw[ao fun y=>by rw[y,hp] at z;cases z];exact z⟩
 ·rintro i y ρ Y hy ⟨r5,r6,r7,r8,S,rfl,hS,oS,lS,s1⟩
  walk_at "rb"
  have few:=P.few
  have hi:i<3:=(qv hy).2
  have l1:1<=L.length:=by
   obtain⟨pre,e,post,eL,_⟩:=P.tl.one hd rt in0
   rw[eL,length_append,length_cons];omega
  refine⟨a,_,rfl,by rw[length_map];omega,by rw[length_map];omega,s1.1,fun r ac r0 r1 s2=>?_⟩
  rw[length_map] at r1
  obtain⟨j,rfl⟩:∃j:Nat,r=j:=⟨r.toNat,∅⟩
  have he:=List.getElem?_eq_getElem (show j<L.length by omega)
  generalize L[j]=e at he
  have em:=mem_of_getElem? he
  have g:=P.tl.go e em
  obtain⟨pw,ph⟩:=g.tile hd rt
  have bT:=P.tl.bw hd ⋯ P.bx e em
  walk_at "rb"
  rw[c9 (j:=j) (v:=cH e) (by rw[getElem?_map,he];rfl)]
  rw[show cH e = .tuple [dN e.1.x.v,dN e.1.y.v,dN e.1.w.v,dN e.1.h.v,.int e.2.1,.bool (e.2.2 % 2==1)] from rfl]
  generalize e.1=T at g pw ph bT ⊢
  have sub:∀{A B:RN d},In T A B->In (fl X) A B:=fun h=>g.sub hd rt h
  walk_at "rb"
  refine⟨a,d,T.w,rfl,hd,bT.w,s2.1,fun p1 be bp p0 p1' s3=>?_⟩
  walk_at "rb"
  refine⟨a,d,T.h,rfl,hd,bT.h,s3.1,fun r1' bn br q0 q1 s4=>?_⟩
  have h4:bn p=some (S.map nr):=by rw[s4.2 p pa,s3.2 p pa,s2.2 p pa];exact hS
  have bX:=bdA bT.x (bdM hd bT.w bp)
  have bY:=bdA bT.y (bdM hd bT.h br)
  walk_at "rb"
  rw[h4]
  dsimp only
  refine⟨by rw[length_map];omega,?_⟩
  unfold DL.hd
  walk_at "rb"
  refine⟨T.x.v,(T.w*p1).v,rfl,RN.ok _,RN.ok _,bT.x.mono ⋯,(bdM hd bT.w bp).mono ⋯,?_⟩
  walk_at "rb"
  refine⟨T.y.v,(T.h*r1').v,rfl,RN.ok _,RN.ok _,bT.y.mono ⋯,(bdM hd bT.h br).mono ⋯,?_⟩
  walk_at "rb"
  rw[av]
  dsimp only
  rw[bU]
  have bag4:Bag (aD bn p (S.map nr++[.tuple [dN T.x.v,dN T.y.v]]++[.tuple [dN (plus T.x.v (T.w*p1).v),dN (plus T.y.v (T.h*r1').v)]])) a:=by
   obtain⟨g,m,e,z⟩:=s4.1
   exact⟨g,m,by rw[ao fun y=>pa y.symm];exact e,z⟩
  refine⟨by rw[length_append,length_map];show _+1<1000;omega,a,d,1,rfl,hd,b01.1.mono ⋯,bag4,fun p2 dL bp2 u0 u1 s5=>?_⟩
  walk_at "rb"
  refine⟨a,d,X,rfl,hd,P.bx.mono ⋯,s5.1,fun r2 jp br2 v0 v1 s6=>?_⟩
  have h6:jp p=some (S.map nr++[.tuple [dN T.x.v,dN T.y.v]]++[.tuple [dN (plus T.x.v (T.w*p1).v),dN (plus T.y.v (T.h*r1').v)]]):=by rw[s6.2 p pa,s5.2 p pa];exact av
  unfold DL.hd
  walk_at "rb"
  rw[h6]
  dsimp only
  refine⟨by rw[length_append,length_append,length_map];show _+1+1<1000;omega,T.y.v,(T.h*r1').v,rfl,RN.ok _,RN.ok _,bT.y.mono ⋯,(bdM hd bT.h br).mono ⋯,?_⟩
  walk_at "rb"
  rw[av]
  dsimp only
  rw[bU]
  have n0:=wj (d:=d)
  refine⟨by rw[length_append,length_append,length_append,length_map];show _+1+1+1<1000;omega,_,_,_,_,S++[(T.x,T.y),(T.x+T.w*p1,T.y+T.h*r1'),(1*p2,X*r2),(T.x,T.y+T.h*r1')],rfl,?_,?_,?_,?_⟩
  ·rw[av,map_append]
   simp only[List.append_assoc]
   rfl
  ·intro s hs
   rcases List.mem_append.mp hs with z|z
   ·exact oS s z
   simp only[mem_cons,not_mem_nil,or_false] at z
   have z1:T.x+T.w*0=T.x:=by grind
   have z2:T.y+T.h*0=T.y:=by grind
   have bX':=bX.mono (m:=10000000) ⋯
   have bY':=bY.mono (m:=10000000) ⋯
   rcases z with z|z|z|z
   ·rw[z];exact⟨sub (by have:=kW hd pw ph n0 n1 n0 n1;rwa [z1,z2] at this),bT.x.mono ⋯,bT.y.mono ⋯⟩
   ·rw[z];exact⟨sub (kW hd pw ph p0 p1' q0 q1),bX',bY'⟩
   ·rw[z]
    refine⟨?_,(bdM hd b01.1 bp2).mono ⋯,(bdM hd P.bx br2).mono ⋯⟩
    have:=kW hd (T:=fl X) rt.w rt.h u0 u1 v0 v1
    rwa [show (fl X).x+(fl X).w*p2=1*p2 by unfold fl;grind,show (fl X).y+(fl X).h*r2=X*r2 by unfold fl;grind] at this
   ·rw[z];exact⟨sub (by have:=kW hd pw ph n0 n1 q0 q1;rwa [z1] at this),bT.x.mono ⋯,bY'⟩
  ·rw[length_append];show S.length+4<=_;omega
  ·have st:de a U bn:=((s1.trans s2.w).trans s3.w).trans s4.w
   refine⟨?_,fun b n es z=>?_⟩
   ·obtain⟨g,m,e,z⟩:=s6.1
    exact⟨g,m,by rw[ao fun y=>pa y.symm];exact e,z⟩
   ·have hb':b≠p:=fun y=>by rw[y,hp] at z;cases z
    rw[ao hb',s6.2 b n,s5.2 b n,ao hb']
    exact st.2 b n es z
 ·rintro ρ Y ⟨r5,r6,r7,r8,S,rfl,hS,oS,lS,s1⟩
  walk_at "rb"
  refine kq _ _ ⟨hp,_,hS,qd S _ oS (by rw[ij] at lS;exact lS) ⟨?_,fun b n es z=>?_⟩⟩
  ·obtain⟨g,m,e,z⟩:=s1.1
   exact⟨g,m,by rw[fE fun y=>pa y.symm];exact e,z⟩
  ·rw[fE fun y=>by rw[y,hp] at z;cases z]
   exact s1.2 b n es z
noncomputable def hb{d:Int}(A B:RN d)(e:Bo d×Int×Nat):Bool:=@decide (In e.1 A B) (Classical.propDecidable _)
theorem we{d:Int}{A B:RN d}{e:Bo d×Int×Nat}:hb A B e=true↔In e.1 A B:=by unfold hb;exact @decide_eq_true_iff _ (Classical.propDecidable _)
theorem J1.filter{d:Int}{A B:RN d}{L:List (Bo d×Int×Nat)}(h:J1 (fun e=>In e.1 A B) L):∃e∈L,In e.1 A B/\L.filter (hb A B)=[e]:=by
 obtain⟨pre,e,post,rfl,he,h1,h2⟩:=h
 have no:∀l:List (Bo d×Int×Nat),(∀z∈l,¬ In z.1 A B)->l.filter (hb A B)=[]:=fun l h=>List.filter_eq_nil_iff.mpr fun z hz y=>h z hz (we.mp y)
 refine⟨e,by simp,he,?_⟩
 rw[List.filter_append,List.filter_cons,if_pos (we.mpr he),no pre h1,no post h2];rfl
theorem kA(h:j0 ds U Qd):eP ‹Qd› (ak ["_law_d","_law_kinds_here","_law_plan_here","_law_tiles_here","_law_spot","_law_due","_law_told"] ds) U:=by
 obtain⟨d,ks,t,X,L,s,rfl,P,hk,hs,ho,sp,⟨hi,bA,bB⟩,qd⟩:=h
 have hd:=P.hd
 have rt:=si X P.px
 obtain⟨e,em,hin,ef⟩:=(P.tl.one hd rt hi).filter
 have few:=P.few
 unfold eP nr
 walk_at "rb"
 rw[cp]
 walk_at "rb"
 refine⟨by rw[length_map];omega,fun p hp=>⟨fun i acc Z=>acc=((L.take i).filter (hb s.1 s.2)).map cH/\Z=aD U p acc,⟨by simp,rfl⟩,?_,?_⟩⟩
 ·rintro i y acc Y hy hacc ⟨rfl,rfl⟩
  rw[getElem?_map] at hy
  obtain⟨z,hz,rfl⟩:=Option.map_eq_some_iff.mp hy
  walk_at "rb"
  have bT:=P.tl.bw hd ⋯ P.bx z (mem_of_getElem? hz)
  have tk:L.take (i+1)=L.take i++[z]:=by rw[take_succ,hz];rfl
  refine⟨⟨trivial,trivial,trivial⟩,d,z.1,z.2.1,z.2.2,s.1,s.2,hb s.1 s.2 z,rfl,hd,bT,bA,bB,we,?_⟩
  unfold DL.hd
  dsimp only
  rw[tk,List.filter_append,List.filter_cons]
  by_cases c:hb s.1 s.2 z=true
  ·rw[if_pos c,if_pos c]
   walk_at "rb"
   refine⟨hacc,?_,?_⟩
   ·rw[map_append];rfl
   ·rw[bU]
  ·rw[if_neg c,if_neg c]
   exact⟨hacc,by simp,rfl⟩
 ·rintro acc Y ⟨rfl,rfl⟩ hacc
  rw[cY hp,length_map,take_length,ef]
  have g:=P.tl.go e em
  refine⟨d,ks,t,X,s.1,s.2,e.1,e.2.1,e.2.2,rfl,hd,hk,hs,ho,sp,P.px,P.bx,g,hin,bA,bB,fun ac k2=>?_⟩
  have bT:=P.tl.bw hd ⋯ P.bx e em
  rw[show [e].map cH=[tl6 e.1 e.2.1 e.2.2] from rfl,show tl6 e.1 e.2.1 e.2.2 = .tuple [dN e.1.x.v,dN e.1.y.v,dN e.1.w.v,dN e.1.h.v,.int e.2.1,.bool (e.2.2 % 2==1)] from rfl]
  walk_at "rb"
  rw[if_neg (by simp)]
  unfold DL.hd
  walk_at "rb"
  have tT:∀xs:List PyData,isT "tuple" (.tuple xs)=true:=fun _=>rfl
  have tB:∀b:Bool,isT "bool" (.bool b)=true:=fun b=>by cases b<;>rfl
  rw[tT,if_neg ⋯]
  unfold DL.hd
  walk_at "rb"
  refine⟨rfl,rfl,?_⟩
  rw[AI rfl,if_neg ⋯]
  unfold DL.hd
  walk_at "rb"
  rw[fV]
  walk_at "rb"
  rw[Gs]
  refine⟨by show 4<=1000;decide,fun t=>some (.bool true),fun t ht Z _=>⟨trivial,?_⟩,?_⟩
  ·obtain⟨s,rfl,bs⟩:=four bT t ht
   rw[if_pos trivial]
   refine⟨_,rfl,wY,?_⟩
   rw[nT]
   exact⟨rfl,rfl⟩
  rw[dF]
  walk_at "rb"
  rw[show bq [PyData.bool true,PyData.bool true,PyData.bool true,PyData.bool true]=some [true,true,true,true] from rfl]
  dsimp only
  rw[if_neg ⋯,D9]
  have wI:isWhole (.int e.2.1)=true:=rfl
  refine⟨_,rfl,?_⟩
  rw[wI]
  unfold DL.hd
  dsimp only
  rw[if_pos rfl]
  walk_at "rb"
  rw[EA]
  dsimp only
  rw[tB]
  exact qd ac k2
end
noncomputable def Bp:DTS:=
 (aj (ik (dm (aa (dCB (uB max) (aa (dC (.int 2)) (aa (dCB (uB min) (aa (dC (.int 4)) (aa (dCB aX (aa (ab 0) af)) af))) af))) af)) (ae 1) (aj (aq (ag xG (aa (ab 0) (aa (ab 1) af))) (ae 2))
 (aj (aq (ag mS (aa (ab 2) af)) (ae 3))
 (aj (aq (ag kr (aa (ab 2) (aa (ab 3) af))) (ae 4))
 (aj (aq (ag kb (aa (ab 2) (aa (dCB aX (aa (ab 4) af)) af))) (ae 5))
 (aj (aq (ag w4 (aa (ab 2) (aa (ab 3) (aa (ab 4) (aa (ab 5) af))))) (ae 4))
 (aj (aq (ag (cD 13) (aa (ab 3) (aa (ab 4) (aa (ab 5) af)))) (ae 6))
 (aj (aq (ag fk (aa (ab 2) (aa (ab 3) (aa (ab 6) (aa (ag (bE 13) (aa (ab 3) (aa (ab 4) (aa (ab 5) af)))) af))))) (ae 7))
 (ik (a9 (dOp ip (ab 7) (dSl (ab 7) fW (j3 (dC (.int 2)))))) (ae 8) (aK (cx (dB (ag j0 (aa (ab 3) (aa (ab 4) (aa (ab 5) (aa (ab 6) (aa (ab 8) af)))))))) (aB (dC (.bool false))) aE))))))))))
 (aB (dC (.bool true))))
section
variable {U:Mu}{Qd:DK}{ds:List D}
theorem Lo{d:Int}{ks:List N3}{t:PyData}{dd c:Nat}(hd:ah d)(hk:KindsOk d ks)(hp:IsP (ks.length:Nat) dd c t)(hdd:dd<=12)(hc:c<=60)(h:c<=12\/∀k∈ks,Ht d 19 k):∃X:RN d,SP d ks 13 t X.v/\Bd 4300 X.v:=by
 have key:∃w,26<=w/\c*w<=2140/\∀k∈ks,ly d w 1 k:=by
  rcases h with h|h
  ·exact⟨67,⋯,∅,fun k z=>⟨(hk.ok k z).1,(hk.ok k z).2.2,xE (hk.ok k z).1 (hk.ok k z).2.1⟩⟩
  ·exact⟨26,⋯,∅,fun k z=>⟨(hk.ok k z).1,(hk.ok k z).2.2,h k z⟩⟩
 obtain⟨w,h26,hcw,hf⟩:=key
 obtain⟨x,h1,h2⟩:=Jr hd h26 hf hp hcw 13 ∅
 exact⟨⟨x,h2.ok⟩,h1,(h2.g hd hcw).2.2⟩
theorem Gq(h:nV ds U Qd):Bp ‹Qd› (ak ["_law_script","_law_k","_law_bag_here","_law_d","_law_kinds_here","_law_plan_here","_law_tiles_here","_law_spots_here","_law_spot"] ds) U:=by
 obtain⟨ns,rfl,hns,q⟩:=h
 unfold Bp
 rw[jd,fK]
 walk_at "rb"
 refine⟨∅,fun i ρ Z=>∃r1 r2 r3 r4 r5 r6 r7 r8,ρ=[some (.s ns),r1,r2,r3,r4,r5,r6,r7,r8],⟨_,_,_,_,_,_,_,_,rfl⟩,?_,?_⟩
 ·rintro i x ρ ca hx ⟨r1,r2,r3,r4,r5,r6,r7,r8,rfl⟩
  obtain⟨rfl,hi⟩:=qv hx
  walk_at "rb"
  refine⟨ns,_,rfl,∅,∅,fun a Y ha s1=>?_⟩
  walk_at "rb"
  refine⟨a,rfl,s1.1,fun d ac hd s2=>?_⟩
  walk_at "rb"
  refine⟨a,d,rfl,hd,s2.1,fun ks be hk s3=>?_⟩
  walk_at "rb"
  rw[length_map]
  have l1:=hk.l1
  have l3:=hk.l3
  refine⟨a,_,rfl,∅,∅,s3.1,fun dd c t y bn hp hdd hc ht hy s4=>?_⟩
  walk_at "rb"
  refine⟨a,d,ks,t,dd,c,rfl,hd,hk,hp,hdd,s4.1,fun ks' dL hk' hl' hb5 s5=>?_⟩
  rw[<- hl'] at hp
  have kp:KsP d ks':=fun k hk0=>⟨(hk'.ok k hk0).1,(hk'.ok k hk0).2.2⟩
  obtain⟨X,sp,bX⟩:=Lo hd hk' hp hdd hc (hb5.imp id fun z k hk0=>(xE (hk'.ok k hk0).1 (z k hk0)).mono ⋯)
  have ho:okN (cnt (ks'.length:Nat) 12 t)=true:=by
   have c1:=hp.pos.2
   rw[hp.cnt 12 hdd];unfold okN;rw[decide_eq_true (by omega:0<c),decide_eq_true hc];rfl
  have hs:Sh t:=hp.lt.sh ∅
  obtain⟨m,em,X',eX,vw⟩:=SP.vw hd kp sp
  obtain rfl:X'=X:=RN.ext eX
  have pX:=vw.pos hd
  have P:PlP d ks' 13 t X' y:=⟨⋯,hd,kp,hs,sp,bX,ht,hy⟩
  walk_at "rb"
  refine⟨d,ks',t,X',y,rfl,P,fun L jp hT k6=>?_⟩
  have F:FlP d ks' t X' L:=⟨hd,pX,bX,hT,P.len hT⟩
  have s6:=s5.trans (.of s5.1 k6)
  walk_at "rb"
  refine⟨d,ks',false,t,X'.v,rfl,hd,hs,sp,fun ld k7=>?_⟩
  have s7:=s6.trans (.of s6.1 k7)
  refine⟨a,d,ks',t,X',L,rfl,F,s7.1,fun S pc oS lS s8=>?_⟩
  walk_at "rb"
  rw[fK]
  walk_at "rb"
  have cl:(jn (S.map nr) none (some 2)).length<=(S.map nr).length:=by unfold jn;rw[length_take,List.length_drop];omega
  have s8':=s7.trans s8
  rw[length_map] at cl
  refine⟨by rw[length_map];omega,fun k ρ Z=>∃r8:Option D,ρ=[some (.s ns),some (.v (.int (0+(i:Int)))),some (.m a),some (.v (.int d)),some (.v (.tuple (ks'.map dN))),some (.v t),some (.v (.list (L.map cH))),some (.v (.list (S.map nr))),r8],⟨_,rfl⟩,?_,?_⟩
  ·rintro k z ρ mt hz ⟨r8,rfl⟩
   obtain⟨s,hs',rfl⟩:∃s∈S,nr s=z:=by
    rcases List.mem_append.mp (mem_of_getElem? hz) with w|w
    ·exact List.mem_map.mp w
    ·exact List.mem_map.mp (List.mem_of_mem_drop (mem_of_mem_take w))
   walk_at "rb"
   refine⟨d,ks',t,X',L,s,rfl,F,hk',hs,ho,sp,oS s hs',fun tx _=>?_⟩
   walk_at "rb"
   exact⟨_,rfl⟩
  ·rintro ρ mt ⟨r8,rfl⟩
   exact⟨_,_,_,_,_,_,_,_,rfl⟩
 ·rintro ρ Z ⟨r1,r2,r3,r4,r5,r6,r7,r8,rfl⟩
  exact q Z
end
end L2.DL
namespace K25
open PySem L2 L2.DL
noncomputable def CF(K:PySem.W.Frag)(mg:Str->Option Value):Prop:=True
theorem zf.get{α:Type}{p:α->Prop}{x:α}:∀{l:List α},zf p l->x∈l->p x
 |_::_,h,m=>match List.mem_cons.mp m with
  |.inl e=>e▸h.1
  |.inr m=>zf.get h.2 m
theorem D2{K:PySem.W.Frag}{h:Heap}{mg:Str->Option Value}(X:K.In h)(G:h.Ns mainGlobals mg):∀{l:List (Str×Option Value)} {i:Nat},l.map (fun q=>nsIn K mainGlobals q.1)=l.map (fun q=>some q.2)->i<l.length->mg (l.getD i ("",none)).1=(l.getD i ("",none)).2
 |[],_,_,h=>absurd h (Nat.not_lt_zero _)
 |(n,v)::_,0,e,_=>by
  have z:nsIn K mainGlobals n=some v:=(List.cons.inj e).1
  cases v with
  |none=>exact PySem.W.mg_none_of X G z
  |some u=>exact PySem.W.mg_of X G z
 |_::r,i+1,e,k=>D2 (l:=r) (i:=i) X G (List.cons.inj e).2 (Nat.lt_of_succ_lt_succ k)
noncomputable def Cld(e:EQ)(q:Nat×Nat×Addr×Addr):Prop:=∃d,Cal e.K e.mg (nm q) (ps q) (top q.1) q.2.2.1 d/\d.code = .ref q.2.2.2
structure TX(e:EQ):Prop where
 f:∀q,FL.contains q=true->Cld e q
 g:∀i,i<GL.length->e.mg (gl i).1=(gl i).2
 c:CF e.K e.mg
 fT:e.mg "isinstance"=none
 D6:e.mg "int"=none
 E4:e.mg "bool"=none
 IP:e.mg "abs"=none
 xn:e.mg "tuple"=none
 JJ:e.mg "len"=none
 JE:e.mg "all"=none
 HB:e.mg "list"=none
 JW:e.mg "zip"=none
 xF:e.mg "range"=none
 Eu:e.mg "min"=none
 Es:e.mg "max"=none
 JO:e.mg "sum"=none
 sC:e.mg "MOST_KINDS"=some (.int 3 427)
 pT:e.mg "MOST_WITHIN"=some (.int 12 456)
 sf:e.mg "MOST_PLANS"=some (.int 60 458)
 p8:e.mg "LEAST_PARTS"=some (.int 2 460)
 rh:e.mg "MOST_PARTS"=some (.int 8 462)
 pB:HM e.K e.mg "NOUGHT" 76 0 0 1
 BC:HM e.K e.mg "ONE" 77 1 0 1
 ns:e.base.NoSeer
 tr:e.P.given.tree=none
theorem Ks{X:Cx}{a b:Expr}{ta tb:DTE}{pos:Pos}(hu:X.A.units+64<cLine)(ha:DE X a ta)(hb:DE X b tb):DT X (.Compare a [.NotEq] [b] pos) (dB (dOp (aJ true) ta tb)):=iG (Gu hu) vT ha hb (dZ _)
theorem Lc{X:Cx}{a b:Expr}{ta tb:DTE}{pos:Pos}(ha:DE X a ta)(hb:DE X b tb):DT X (.Compare a [.Gt] [b] pos) (dB (dOp rGt ta tb)):=iG Eg mI ha hb (dZ _)
theorem Lp{X:Cx}{a b:Expr}{ta tb:DTE}{pos:Pos}(hu:X.A.units+64<cLine)(ha:DE X a ta)(hb:DE X b tb):DT X (.Compare a [.Eq] [b] pos) (dB (dOp (aJ false) ta tb)):=iG (AV hu) vT ha hb (dZ _)
theorem Ld{X:Cx}{a b:Expr}{ta tb:DTE}{pos:Pos}(ha:DE X a ta)(hb:DE X b tb):DT X (.Compare a [.GtE] [b] pos) (dB (dOp rGe ta tb)):=iG Eo mI ha hb (dZ _)
theorem K9{X:Cx}{a b:Expr}{ta tb:DTE}{pos:Pos}(ha:DE X a ta)(hb:DE X b tb):DT X (.Compare a [.LtE] [b] pos) (dB (dOp rLe ta tb)):=iG uh mI ha hb (dZ _)
theorem KZ{X:Cx}{a b:Expr}{ta tb:DTE}{pos:Pos}(ha:DE X a ta)(hb:DE X b tb):DT X (.Compare a [.Lt] [b] pos) (dB (dOp rLt ta tb)):=iG z6 mI ha hb (dZ _)
theorem K8{X:Cx}{a b:Expr}{ta tb:DTE}{pos:Pos}(ha:DE X a ta)(hb:DE X b tb):DE X (.Compare a [.Gt] [b] pos) (dOp rGt ta tb):=lE Eg mI ha hb (dZ _)
theorem Lf{X:Cx}{a b:Expr}{ta tb:DTE}{pos:Pos}(ha:DE X a ta)(hb:DE X b tb):DE X (.Compare a [.Lt] [b] pos) (dOp rLt ta tb):=lE z6 mI ha hb (dZ _)
theorem KJ{X:Cx}{a b:Expr}{ta tb:DTE}{pos:Pos}(hu:X.A.units+64<cLine)(ha:DE X a ta)(hb:DE X b tb):DE X (.Compare a [.Eq] [b] pos) (dOp (aJ false) ta tb):=lE (AV hu) vT ha hb (dZ _)
theorem KP{X:Cx}{a b:Expr}{ta tb:DTE}{pos:Pos}(ha:DE X a ta)(hb:DE X b tb):DE X (.Compare a [.GtE] [b] pos) (dOp rGe ta tb):=lE Eo mI ha hb (dZ _)
theorem Ka{X:Cx}{a b:Expr}{ta tb:DTE}{pos:Pos}(hu:X.A.units+64<cLine)(ha:DE X a ta)(hb:DE X b tb)(hm:behindInMarks .NotIn b=false:=by with_unfolding_all rfl):DT X (.Compare a [.NotIn] [b] pos) (dB (dOp (vS true) ta tb)):=iG (yg hu) An ha hb hm
theorem Kg{X:Cx}{a b:Expr}{ta tb:DTE}{pos:Pos}(ha:DE X a ta)(hb:DE X b tb):DE X (.Compare a [.LtE] [b] pos) (dOp rLe ta tb):=lE uh mI ha hb (dZ _)
theorem Iu{X:Cx}{a b:Expr}{ta tb:DTE}{pos:Pos}(hu:X.A.units+64<cLine)(ha:DE X a ta)(hb:DE X b tb)(hm:behindInMarks .In b=false:=by with_unfolding_all rfl):DE X (.Compare a [.In] [b] pos) (dOp uu ta tb):=lE (E9 hu) Fb ha hb hm
theorem JZ{X:Cx}{a b c:Expr}{ta tb tc:DTE}{pos:Pos}(ha:DE X a ta)(hb:DE X b tb)(hc:DE X c tc)(hm:lastMarks [.LtE,.Lt] [b,c]=false:=by rfl):DE X (.Compare a [.LtE,.Lt] [b,c] pos) (jX rLe rLt ta tb tc):=zC uh mI z6 mI ha hb hc (hm:=hm)
theorem Jv{X:Cx}{a b:Expr}{ta tb:DTE}{pos:Pos}(hu:X.A.units+64<cLine)(ha:DE X a ta)(hb:DE X b tb)(hm:behindInMarks .In b=false:=by with_unfolding_all rfl):DT X (.Compare a [.In] [b] pos) (dB (dOp (vS false) ta tb)):=iG (GB hu) An ha hb hm
theorem IT{X:Cx}{a b c:Expr}{ta tb tc:DTE}{pos:Pos}(ha:DE X a ta)(hb:DE X b tb)(hc:DE X c tc)(hm:lastMarks [.LtE,.LtE] [b,c]=false:=by rfl):DT X (.Compare a [.LtE,.LtE] [b,c] pos) (dB (jX rLe rLe ta tb tc)):=zP uh mI uh mI ha hb hc (hm:=hm)
def mkT(t:String)(st:List Lean.Term):Lean.MacroM (List Lean.Term):=do
 let q:Option (Lean.MacroM Lean.Term):=match t with
  |"?"=>some `(?_)
  |"a"=>some `((by assumption))
  |"R"=>some `((by with_reducible assumption))
  |"u"=>some `((by first|exact $(Lean.mkIdent `cR.units) (by assumption)|assumption))
  |"f"=>some `((fun _ _ _=>?_))
  |"g"=>some `((fun _ _=>rfl))
  |"h"=>some `((fun _ _ _ _ _ _ _=>?_))
  |"d"=>some `((by decide))
  |"_"=>some `(_)
  |_=>none
 if let some m:=q then return (<-m)::st
 let k:=(t.splitOn "/").getLastD ""
 let n:=k.toNat!
 let h:Lean.Term:=Lean.mkIdent ((t.splitOn "/").headD "").toName
 if n=0 then return h::st
 return Lean.Syntax.mkApp h (st.take n).toArray::st.drop n
def mkO(s:String):Lean.MacroM (Lean.TSyntax `Lean.Parser.Tactic.tacticSeq):=do
 let ts<-(s.splitOn "|").toArray.mapM fun x=>do
  let st<-(x.splitOn " ").foldrM mkT []
  `(tacticSeq|refine $(st.headD (Lean.mkIdent `x)))
 `(tacticSeq|first $[| $ts]*)
local macro_rules|`(tactic| walk_at "o")=>do let a<-mkO "dv/1 _|CO/2 ? ?|FR/0|Hg/0|Jp/3 ? ? g|BF/3 R a ?|BX/1 ?|Hf/1 ?|JB/2 a ?|JR/3 ? ? ?|DF/0|HG/2 ? ?|FY/1 ?|Iw/1 a|Ad/2 ? ?|Lp/3 u ? ?|FK/0|FJ/2 ? ?|GA/1 ?|Fq/3 rfl/0 mgx/1 TX.JJ/1 a ?|Ay/0|DD/1 ?|JY/2 ? ?|Hx/2 ? ?|GZ/1 ?|FN/2 ? ?|BN/1 ?|B6/0|FH/2 rfl/0 ?|Gb/2 ? ?|HY/1 ?|Jh/0|HF/1 ?|C6/3 Ib/3 TX.ns/1 a TX.tr/1 a a ? ?|Lc/2 ? ?|Cr/1 ?|GY/5 PassesOwn.never/0 rfl/0 ? ? ?|Fp/1 ?|KJ/3 u ? ?|H0/9 rfl/0 a rfl/0 rfl/0 d rfl/0 rfl/0 ? rfl/0|GC/2 ? ?|JS/3 ? ? ?|BU/3 rfl/0 mgx/1 TX.xF/1 a ?|EE/4 ? f f f|yn/2 ? ?|Ks/3 u ? ?|B4/1 ?|vx/7 kit_tuple/1 _ rfl/0 mgx/1 TX.fT/1 a rfl/0 mgx/1 TX.xn/1 a PyProof.Rows.Boot.«tuple»/0 ?|HS/4 ? f f f|Fh/5 a ? f f f|Ca/1 ?|EZ/1 ?|Ci/1 ?|KZ/2 ? ?|As/3 rfl/0 mgx/1 TX.D6/1 a ?|C2/2 ? ?|zI/3 ? ? ?|ui/2 rfl/0 TX.pB/1 a|zB/3 PassesOwn.never/0 ? ?|GW/3 rfl/0 mgx/1 TX.IP/1 a ?|K8/2 ? ?|AR/0|B0/0|Ld/2 ? ?|K9/2 ? ?|HC/2 ? ?|Lf/2 ? ?|KP/2 ? ?|Fz/4 rfl/0 rfl/0 mgx/1 TX.JE/1 a ?|AF/3 rfl/0 mgx/1 TX.xn/1 a ?|vx/7 AQ/1 _ rfl/0 mgx/1 TX.fT/1 a rfl/0 mgx/1 TX.E4/1 a PyProof.Rows.Boot.«bool»/0 ?|Fc/1 ?|Bq/1 ?|HN/4 rfl/0 rfl/0 mgx/1 TX.JO/1 a ?|vx/7 Dq/1 _ rfl/0 mgx/1 TX.fT/1 a rfl/0 mgx/1 TX.D6/1 a PyProof.Rows.Boot.«int»/0 ?|Cg/3 rfl/0 mgx/1 TX.HB/1 a ?|AA/2 ? ?|FW/4 rfl/0 rfl/0 mgx/1 TX.Eu/1 a ?|ui/2 rfl/0 TX.BC/1 a|yC/2 ? ?|DU/1 ?|CU/2 ? ?|Co/3 rfl/0 mgx/1 TX.xF/1 a ?|Ka/3 u ? ?|iD/1 mgx/1 TX.p8/1 a|Kg/2 ? ?|iD/1 mgx/1 TX.rh/1 a|FI/4 ? f f f|C0/4 rfl/0 rfl/0 mgx/1 TX.Es/1 a ?|GK/1 ?|Fo/4 a rfl/0 Or.inl/1 rfl/0 ?|iD/1 mgx/1 TX.sf/1 a|iD/1 mgx/1 TX.pT/1 a|HP/2 rfl/0 ?|iD/1 mgx/1 TX.sC/1 a|Iu/3 u ? ?|B3/3 rfl/0 mgx/1 TX.JW/1 a ?|JZ/3 ? ? ?|Jv/3 u ? ?|IT/3 ? ? ?|DY/4 rfl/0 rfl/0 mgx/1 TX.Eu/1 a ?|FX/4 rfl/0 rfl/0 mgx/1 TX.Es/1 a ?|Ft/0|zK/2 ? ?|HH/2 ? ?|AM/4 a rfl/0 Or.inr/1 rfl/0 ?|sJ/3 a rfl/0 Or.inr/1 rfl/0|Cz/1 ?|HE/1 ?|EF/2 ? ?";`(tactic|(intros;repeat' first|$a|fail))
noncomputable abbrev G0(e:EQ):Prop:=FO e 41 "is_whole" cf
noncomputable abbrev G1(e:EQ):Prop:=FO e 41 "common_divisor" iz
noncomputable abbrev G2(e:EQ):Prop:=FO e 41 "whole_root" mW
noncomputable abbrev G3(e:EQ):Prop:=FO e 41 "sign_of_parts" j5
noncomputable abbrev G4(e:EQ):Prop:=FO e 41 "parts_of" kc
noncomputable abbrev G5(e:EQ):Prop:=FO e 41 "once_more" sj
noncomputable abbrev G6(e:EQ):Prop:=FO e 41 "swapped" cG
noncomputable abbrev G7(e:EQ):Prop:=FO e 41 "_law_bag" xG
noncomputable abbrev G8(e:EQ):Prop:=FO e 41 "_law_take" aO
noncomputable abbrev G9(e:EQ):Prop:=FO e 41 "_law_is_whole" cf
noncomputable abbrev G10(e:EQ):Prop:=FO e 41 "_law_shared" iz
noncomputable abbrev G11(e:EQ):Prop:=FO e 41 "_law_minus" gn
noncomputable abbrev G12(e:EQ):Prop:=FO e 41 "_law_sign" fR
noncomputable abbrev G13(e:EQ):Prop:=FO e 42 "divisor_of_all" ni
noncomputable abbrev G14(e:EQ):Prop:=FO e 42 "sign_of" fR
noncomputable abbrev G15(e:EQ):Prop:=FO e 42 "is_above" f9
noncomputable abbrev G16(e:EQ):Prop:=FO e 42 "whole_beneath" fG
noncomputable abbrev G17(e:EQ):Prop:=FO e 42 "is_count" kM
noncomputable abbrev G18(e:EQ):Prop:=FO e 42 "_law_low" aP
noncomputable abbrev G19(e:EQ):Prop:=FO e 42 "_law_is_number" gD
noncomputable abbrev G20(e:EQ):Prop:=FO e 42 "_law_root" mS
noncomputable abbrev G21(e:EQ):Prop:=FO e 42 "_law_grid_size" nR
noncomputable abbrev G22(e:EQ):Prop:=FO e 43 "is_number" gD
noncomputable abbrev G23(e:EQ):Prop:=FO e 43 "number" aP
noncomputable abbrev G24(e:EQ):Prop:=FO e 43 "has_form" rW
noncomputable abbrev G25(e:EQ):Prop:=FO e 43 "_law_plus" aW
noncomputable abbrev G26(e:EQ):Prop:=FO e 43 "_law_times" a7
noncomputable abbrev G27(e:EQ):Prop:=FO e 43 "_law_contrary" aL
noncomputable abbrev G28(e:EQ):Prop:=FO e 43 "_law_number" iM
noncomputable abbrev G29(e:EQ):Prop:=FO e 43 "_law_plan" mP
noncomputable abbrev G30(e:EQ):Prop:=FO e 44 "plus" aW
noncomputable abbrev G31(e:EQ):Prop:=FO e 44 "less" jK
noncomputable abbrev G32(e:EQ):Prop:=FO e 44 "times" a7
noncomputable abbrev G33(e:EQ):Prop:=FO e 44 "contrary" aL
noncomputable abbrev G34(e:EQ):Prop:=FO e 44 "is_above_nought" kO
noncomputable abbrev G35(e:EQ):Prop:=FO e 44 "is_plan" iR
noncomputable abbrev G36(e:EQ):Prop:=FO e 44 "_law_below" gb
noncomputable abbrev G37(e:EQ):Prop:=FO e 44 "_law_above" iq
noncomputable abbrev G38(e:EQ):Prop:=FO e 44 "_law_sum" kg
noncomputable abbrev G39(e:EQ):Prop:=FO e 44 "_law_moved" fZ
noncomputable abbrev G40(e:EQ):Prop:=FO e 44 "_law_quarter" ff
noncomputable abbrev G41(e:EQ):Prop:=FO e 44 "_law_part_of" eD
noncomputable abbrev G42(e:EQ):Prop:=FO e 45 "over" gy
noncomputable abbrev G43(e:EQ):Prop:=FO e 45 "bounds_of" j2
noncomputable abbrev G44(e:EQ):Prop:=FO e 45 "is_kinds" kQ
noncomputable abbrev G45(e:EQ):Prop:=FO e 45 "must_be_plan" gu
noncomputable abbrev G46(e:EQ):Prop:=FO e 45 "sum_of" kg
noncomputable abbrev G47(e:EQ):Prop:=FO e 45 "rising_boxes" cZ
noncomputable abbrev G48(e:EQ):Prop:=FO e 45 "cell_box" km
noncomputable abbrev G49(e:EQ):Prop:=FO e 45 "_law_kinds" kr
noncomputable abbrev G50(e:EQ):Prop:=FO e 45 "_law_holds" iN
noncomputable abbrev G51(e:EQ):Prop:=FO e 45 "_law_spots" fk
noncomputable abbrev G52(e:EQ):Prop:=FO e 46 "must_be_kinds" eO
noncomputable abbrev G53(e:EQ):Prop:=FO e 46 "begins_at" iF
noncomputable abbrev G54(e:EQ):Prop:=FO e 46 "cell_sides" m6
noncomputable abbrev G55(e:EQ):Prop:=FO e 47 "must_be_spot" gw
noncomputable abbrev G56(e:EQ):Prop:=FO e 47 "cell_at" kh
noncomputable abbrev G57(e:EQ):Prop:=FO e 54 "_law_count" (cS 13)
noncomputable abbrev G58(e:EQ):Prop:=FO e 55 "_law_small_plan" kb
noncomputable abbrev G59(e:EQ):Prop:=FO e 58 "_law_shape" (bE 13)
noncomputable abbrev G60(e:EQ):Prop:=FO e 59 "made_of" (eZ 13)
noncomputable abbrev G61(e:EQ):Prop:=FO e 60 "strip_boxes" kT
noncomputable abbrev G62(e:EQ):Prop:=FO e 61 "part_at" kJ
noncomputable abbrev G63(e:EQ):Prop:=FO e 62 "tile_at" jZ
noncomputable abbrev G64(e:EQ):Prop:=FO e 63 "_law_is_told" j0
noncomputable abbrev G65(e:EQ):Prop:=FO e 73 "_law_plans_in" (c7 31)
noncomputable abbrev G66(e:EQ):Prop:=FO e 74 "_law_few_figures" w4
noncomputable abbrev G67(e:EQ):Prop:=FO e 85 "_law_tiles" (cD 13)
section
variable {e:EQ}(T:TX e)
include T
set_option maxHeartbeats 0
theorem F0:G0 e:=FO.ok (T.f (9,0,84,83) rfl) ["thing"] (fun _ _ _ h=>mq h) (fun _ _ _ h=>mz h) (by walk_at "o")
theorem F1:G1 e:=FO.ok (T.f (10,0,91,90) rfl) ["a","b"] (fun _ _ _ h=>qW h) (fun _ _ _ h=>kC h) (by walk_at "o")
theorem F2:G2 e:=FO.ok (T.f (11,0,98,97) rfl) ["k","guess"] (fun _ _ _ h=>ug h) (fun _ _ _ h=>pG h) (by walk_at "o")
theorem F3:G3 e:=FO.ok (T.f (21,0,168,167) rfl) ["d","a","b","prevailing"] (fun _ _ _ h=>t9 h) (fun _ _ _ h=>lG h) (by walk_at "o")
theorem F4:G4 e:=FO.ok (T.f (38,2,236,235) rfl) ["plan","word"] (fun _ _ _ h=>t6 h) (fun _ _ _ h=>uY h) (by walk_at "o")
theorem F5:G5 e:=FO.ok (T.f (46,3,283,282) rfl) ["quarters"] (fun _ _ _ h=>v9 h) (fun _ _ _ h=>sX h) (by walk_at "o")
theorem F6:G6 e:=FO.ok (T.f (49,3,300,299) rfl) ["box","x","y","width","height"] (fun _ _ _ h=>oM h) (fun _ _ _ h=>vC h) (by walk_at "o")
theorem F7:G7 e:=FO.ok (T.f (55,4,335,334) rfl) ["_law_script","_law_at","_law_cell","_law_great","_law_primes","_law_mixed"] (fun _ _ _ h=>zk h) (fun _ _ _ h=>tS h) (by walk_at "o")
theorem F8:G8 e:=FO.ok (T.f (56,4,342,341) rfl) ["_law_bag_here","_law_many","_law_digit"] (fun _ _ _ h=>wc h) (fun _ _ _ h=>rH h) (by walk_at "o")
theorem F9:G9 e:=FO.ok (T.f (57,4,349,348) rfl) ["_law_thing"] (fun _ _ _ h=>mq h) (fun _ _ _ h=>lR h) (by walk_at "o")
theorem F10:G10 e:=FO.ok (T.f (58,4,356,355) rfl) ["_law_one","_law_other"] (fun _ _ _ h=>qW h) (fun _ _ _ h=>om h) (by walk_at "o")
theorem F11:G11 e:=FO.ok (T.f (62,4,382,381) rfl) ["_law_x"] (fun _ _ _ h=>vd h) (fun _ _ _ h=>qi h) (by walk_at "o")
theorem F12:G12 e:=FO.ok (T.f (65,4,403,402) rfl) ["_law_d","_law_x","_law_first","_law_second","_law_sides"] (fun _ _ _ h=>nu h) (fun _ _ _ h=>tF h) (by walk_at "o")
theorem F13(_:G1 e):G13 e:=FO.ok (T.f (13,0,112,111) rfl) ["a","b","c"] (fun _ _ _ h=>wz h) (fun _ _ _ h=>kR h) (by walk_at "o")
theorem F14(_:G3 e):G14 e:=FO.ok (T.f (20,0,161,160) rfl) ["d","x"] (fun _ _ _ h=>nu h) (fun _ _ _ h=>wo h) (by walk_at "o")
theorem F15(_:G3 e):G15 e:=FO.ok (T.f (22,0,175,174) rfl) ["d","x","y","a","b"] (fun _ _ _ h=>u6 h) (fun _ _ _ h=>vk h) (by walk_at "o")
theorem F16(_:G2 e):G16 e:=FO.ok (T.f (24,0,189,188) rfl) ["d","x","a","b","c","beneath"] (fun _ _ _ h=>qh h) (fun _ _ _ h=>k9 h) (by walk_at "o")
theorem F17(_:G0 e):G17 e:=FO.ok (T.f (37,2,229,228) rfl) ["thing"] (fun _ _ _ h=>uX h) (fun _ _ _ h=>tX h) (by walk_at "o")
theorem F18(_:G10 e):G18 e:=FO.ok (T.f (59,4,363,362) rfl) ["_law_a","_law_b","_law_c","_law_common"] (fun _ _ _ h=>kL h) (fun _ _ _ h=>uQ h) (by walk_at "o")
theorem F19(_:G9 e)(_:G10 e):G19 e:=FO.ok (T.f (60,4,368,367) rfl) ["_law_thing"] (fun _ _ _ h=>oG h) (fun _ _ _ h=>ke h) (by walk_at "o")
theorem F20(_:G8 e):G20 e:=FO.ok (T.f (67,4,415,414) rfl) ["_law_bag_here","_law_some"] (fun _ _ _ h=>um h) (fun _ _ _ h=>rf h) (by walk_at "o")
theorem F21(_:G8 e):G21 e:=FO.ok (T.f (71,4,443,442) rfl) ["_law_bag_here"] (fun _ _ _ h=>vv h) (fun _ _ _ h=>kB h) (by walk_at "o")
theorem F22(_:G0 e)(_:G13 e):G22 e:=FO.ok (T.f (12,0,105,104) rfl) ["thing","a","b","c"] (fun _ _ _ h=>oG h) (fun _ _ _ h=>sy h) (by walk_at "o")
theorem F23(_:G13 e):G23 e:=FO.ok (T.f (14,0,119,118) rfl) ["a","b","c","divisor"] (fun _ _ _ h=>kL h) (fun _ _ _ h=>zj h) (by walk_at "o")
theorem F24(_:G17 e)(_:G0 e):G24 e:=FO.ok (T.f (36,2,222,221) rfl) ["thing","many","word"] (fun _ _ _ h=>wa h) (fun _ _ _ h=>uc h) (by walk_at "o")
theorem F25(_:G18 e):G25 e:=FO.ok (T.f (61,4,375,374) rfl) ["_law_x","_law_y"] (fun _ _ _ h=>oU h) (fun _ _ _ h=>sH h) (by walk_at "o")
theorem F26(_:G18 e):G26 e:=FO.ok (T.f (63,4,389,388) rfl) ["_law_d","_law_x","_law_y"] (fun _ _ _ h=>lT h) (fun _ _ _ h=>pQ h) (by walk_at "o")
theorem F27(_:G18 e):G27 e:=FO.ok (T.f (64,4,396,395) rfl) ["_law_d","_law_x"] (fun _ _ _ h=>gX h) (fun _ _ _ h=>lx h) (by walk_at "o")
theorem F28(_:G8 e)(_:G18 e):G28 e:=FO.ok (T.f (68,4,422,421) rfl) ["_law_bag_here","_law_wide","_law_a","_law_b","_law_c","_law_way"] (fun _ _ _ h=>pI h) (fun _ _ _ h=>oq h) (by walk_at "o")
theorem F29(_:G8 e)(_:G21 e):G29 e:=FO.ok (T.f (72,4,448,447) rfl) ["_law_bag_here","_law_many","_law_leaves","_law_parts","_law_turn","_law_deep","_law_size","_law_plan_here","_law_way","_law_whole","_law_count_here","_law_some","_law_inner","_law_sizes","_law_most"] (fun _ _ _ h=>uf h) (fun _ _ _ h=>sZ h) (by walk_at "o")
theorem F30(_:G23 e):G30 e:=FO.ok (T.f (15,0,126,125) rfl) ["x","y"] (fun _ _ _ h=>oU h) (fun _ _ _ h=>xW h) (by walk_at "o")
theorem F31(_:G23 e):G31 e:=FO.ok (T.f (16,0,133,132) rfl) ["x","y"] (fun _ _ _ h=>v7 h) (fun _ _ _ h=>Ck h) (by walk_at "o")
theorem F32(_:G23 e):G32 e:=FO.ok (T.f (17,0,140,139) rfl) ["d","x","y"] (fun _ _ _ h=>lT h) (fun _ _ _ h=>u5 h) (by walk_at "o")
theorem F33(_:G23 e):G33 e:=FO.ok (T.f (19,0,154,153) rfl) ["d","x","norm"] (fun _ _ _ h=>gX h) (fun _ _ _ h=>vc h) (by walk_at "o")
theorem F34(_:G22 e)(_:G14 e):G34 e:=FO.ok (T.f (23,0,182,181) rfl) ["d","thing"] (fun _ _ _ h=>su h) (fun _ _ _ h=>jj h) (by walk_at "o")
theorem F35(_:G24 e)(_:G4 e):G35 e:=FO.ok (T.f (35,2,215,214) rfl) ["thing","many","waiting","counted","plan","depth","part"] (fun _ _ _ h=>qp h) (fun _ _ _ h=>vL h) (by walk_at "o")
theorem F36(_:G12 e)(_:G25 e)(_:G11 e):G36 e:=FO.ok (T.f (66,4,410,409) rfl) ["_law_d","_law_x","_law_y"] (fun _ _ _ h=>uD h) (fun _ _ _ h=>ql h) (by walk_at "o")
theorem F37(_:G28 e)(_:G12 e)(_:G8 e)(_:G11 e):G37 e:=FO.ok (T.f (69,4,429,428) rfl) ["_law_bag_here","_law_d","_law_x","_law_sign_here"] (fun _ _ _ h=>sL h) (fun _ _ _ h=>pK h) (by walk_at "o")
theorem F38(_:G25 e):G38 e:=FO.ok (T.f (73,4,455,454) rfl) ["_law_some","_law_found","_law_one"] (fun _ _ _ h=>qX h) (fun _ _ _ h=>vp h) (by walk_at "o")
theorem F39(_:G26 e)(_:G25 e):G39 e:=FO.ok (T.f (77,4,475,474) rfl) ["_law_d","_law_tile","_law_factor","_law_left","_law_low_here","_law_x","_law_y","_law_width","_law_height"] (fun _ _ _ h=>tO h) (fun _ _ _ h=>qf h) (by walk_at "o")
theorem F40(_:G25 e)(_:G11 e)(_:G27 e)(_:G26 e):G40 e:=FO.ok (T.f (78,4,480,479) rfl) ["_law_d","_law_tile","_law_shape_here","_law_x","_law_y","_law_width","_law_height","_law_left","_law_contrary_here","_law_sides"] (fun _ _ _ h=>pJ h) (fun _ _ _ h=>mG h) (by walk_at "o")
theorem F41(_:G8 e)(_:G26 e)(_:G18 e):G41 e:=FO.ok (T.f (82,4,504,503) rfl) ["_law_bag_here","_law_d","_law_x","_law_wide"] (fun _ _ _ h=>rM h) (fun _ _ _ h=>mE h) (by walk_at "o")
theorem F42(_:G32 e)(_:G33 e):G42 e:=FO.ok (T.f (18,0,147,146) rfl) ["d","x","y"] (fun _ _ _ h=>vH h) (fun _ _ _ h=>Cm h) (by walk_at "o")
theorem F43(_:G30 e):G43 e:=FO.ok (T.f (27,1,196,195) rfl) ["tile","x","y","width","height"] (fun _ _ _ h=>rZ h) (fun _ _ _ h=>rC h) (by walk_at "o")
theorem F44(_:G34 e):G44 e:=FO.ok (T.f (28,1,201,200) rfl) ["d","thing"] (fun _ _ _ h=>rO h) (fun _ _ _ h=>t5 h) (by walk_at "o")
theorem F45(_:G35 e):G45 e:=FO.ok (T.f (39,2,243,242) rfl) ["thing","many"] (fun _ _ _ h=>nG h) (fun _ _ _ h=>mD h) (by walk_at "o")
theorem F46(_:G30 e):G46 e:=FO.ok (T.f (41,2,255,254) rfl) ["shapes","total","shape"] (fun _ _ _ h=>qX h) (fun _ _ _ h=>qx h) (by walk_at "o")
theorem F47(_:G30 e)(_:G32 e)(_:G31 e):G47 e:=FO.map (FO.ok (T.f (50,3,307,306) rfl) ["d","sizes","box","backward","x","y","width","height","boxes","start","size","high"] (fun _ _ _ h=>mK h) (fun _ _ _ h=>mL h) (by walk_at "o")) fun F=>HJ F fun _ _ _ h=>lz h
theorem F48(_:G32 e)(_:G30 e):G48 e:=FO.ok (T.f (53,3,328,327) rfl) ["d","box","width","height","column","row","right","up"] (fun _ _ _ h=>sV h) (fun _ _ _ h=>uG h) (by walk_at "o")
theorem F49(_:G37 e)(_:G8 e)(_:G27 e)(_:G26 e)(_:G18 e):G49 e:=FO.ok (T.f (70,4,436,435) rfl) ["_law_bag_here","_law_d","_law_found","_law_turn","_law_way","_law_part","_law_kind"] (fun _ _ _ h=>rg h) (fun _ _ _ h=>pU h) (by walk_at "o")
theorem F50(_:G36 e)(_:G25 e):G50 e:=FO.ok (T.f (81,4,497,496) rfl) ["_law_d","_law_tile","_law_x","_law_y"] (fun _ _ _ h=>pN h) (fun _ _ _ h=>qo h) (by walk_at "o")
theorem F51(_:G8 e)(_:G41 e)(_:G25 e):G51 e:=FO.map (FO.ok (T.f (85,4,525,524) rfl) ["_law_bag_here","_law_d","_law_tiles_here","_law_shape_here","_law_found","_law_turn","_law_tile","_law_x","_law_y"] (fun _ _ _ h=>oA h) (fun _ _ _ h=>pS h) (by walk_at "o")) fun F=>tD F fun _ _ _ h=>nM h
theorem F52(_:G44 e):G52 e:=FO.ok (T.f (29,1,208,207) rfl) ["d","thing"] (fun _ _ _ h=>mB h) (fun _ _ _ h=>lh h) (by walk_at "o")
theorem F53(_:G43 e)(_:G15 e):G53 e:=FO.ok (T.f (45,3,276,275) rfl) ["d","box","x","y","left","right","bottom","top"] (fun _ _ _ h=>rG h) (fun _ _ _ h=>sN h) (by walk_at "o")
theorem F54(_:G42 e):G54 e:=FO.ok (T.f (52,3,321,320) rfl) ["d","plan","quarters","box","columns","rows"] (fun _ _ _ h=>uj h) (fun _ _ _ h=>qg h) (by walk_at "o")
theorem F55(_:G22 e)(_:G53 e):G55 e:=FO.ok (T.f (44,3,269,268) rfl) ["d","shape","x","y"] (fun _ _ _ h=>nF h) (fun _ _ _ h=>mJ h) (by walk_at "o")
theorem F56(_:G54 e)(_:G16 e)(_:G42 e)(_:G31 e)(_:G48 e):G56 e:=FO.ok (T.f (51,3,314,313) rfl) ["d","plan","quarters","box","x","y","width","height","column","row"] (fun _ _ _ h=>tE h) (fun _ _ _ h=>vU h) (by walk_at "o")
theorem F57:G57 e:=FO.CN (sp:=cS) 41 13 (FO.zero (T.f (75,4,465,464) rfl) fun _ _ _ z=>zw z) fun n k hk _=>FO.ok (T.f (75,4,465,464) rfl) ["_law_plan_here"] (fun _ _ _ h=>rJ h) (fun _ _ _ h=>pF n h) (by walk_at "o")
theorem F58(_:G29 e)(_:G57 e):G58 e:=FO.ok (T.f (84,4,518,517) rfl) ["_law_bag_here","_law_many","_law_turn","_law_plan_here"] (fun _ _ _ h=>sE h) (fun _ _ _ h=>jo h) (by walk_at "o")
theorem F59(_:G27 e)(_:G26 e)(_:G18 e)(_:G38 e):G59 e:=FO.CN (sp:=bE) 45 13 (FO.zero (T.f (74,4,460,459) rfl) fun _ _ _ z=>y4 z) fun n k hk _=>FO.ok (T.f (74,4,460,459) rfl) ["_law_d","_law_kinds_here","_law_plan_here","_law_shapes"] (fun _ _ _ h=>sP h) (fun _ _ _ h=>qa n h) (by walk_at "o")
theorem F60(_:G4 e)(_:G33 e)(_:G32 e)(_:G23 e)(_:G46 e):G60 e:=FO.CN (sp:=eZ) 46 13 (FO.zero (T.f (40,2,248,247) rfl) fun _ _ _ z=>xI z) fun n k hk _=>FO.ok (T.f (40,2,248,247) rfl) ["d","shapes","plan","word","inner"] (fun _ _ _ h=>oB h) (fun _ _ _ h=>wD n h) (by walk_at "o")
theorem F61(_:G60 e)(_:G33 e)(_:G47 e)(_:G6 e):G61 e:=FO.ok (T.f (48,3,293,292) rfl) ["d","kinds","plan","quarters","box","shapes","upon","sizes","backward"] (fun _ _ _ h=>tG h) (fun _ _ _ h=>ow h) (by walk_at "o")
theorem F62(_:G61 e)(_:G53 e):G62 e:=FO.ok (T.f (47,3,288,287) rfl) ["d","kinds","plan","quarters","box","x","y","boxes","found"] (fun _ _ _ h=>sD h) (fun _ _ _ h=>vF h) (by walk_at "o")
theorem F63(_:G52 e)(_:G45 e)(_:G60 e)(_:G55 e)(_:G5 e)(_:G56 e)(_:G62 e):G63 e:=FO.ok (T.f (43,3,262,261) rfl) ["d","kinds","plan","x","y","shape","box","quarters"] (fun _ _ _ h=>rL h) (fun _ _ _ h=>vK h) (by walk_at "o")
theorem F64(_:G50 e)(_:G63 e)(_:G19 e)(_:G9 e):G64 e:=FO.ok (T.f (86,4,530,529) rfl) ["_law_d","_law_kinds_here","_law_plan_here","_law_tiles_here","_law_spot","_law_due","_law_told"] (fun _ _ _ h=>rX h) (fun _ _ _ h=>kA h) (by walk_at "o")
theorem F65(_:G9 e):G65 e:=FO.CN (sp:=c7) 42 31 (FO.zero (T.f (76,4,470,469) rfl) fun _ _ _ z=>wk z) fun n k hk _=>FO.ok (T.f (76,4,470,469) rfl) ["_law_thing","_law_many","_law_deep","_law_word","_law_size","_law_parts","_law_counts"] (fun _ _ _ h=>pZ h) (fun _ _ _ h=>lP n h) (by walk_at "o")
theorem F66(_:G65 e)(_:G18 e)(_:G8 e)(_:G11 e)(_:G12 e):G66 e:=FO.ok (T.f (83,4,511,510) rfl) ["_law_bag_here","_law_d","_law_kinds_here","_law_plan_here","_law_found","_law_kind","_law_x"] (fun _ _ _ h=>y6 h) (fun _ _ _ h=>iX h) (by walk_at "o")
theorem F67(_:G59 e)(_:G40 e)(_:G26 e)(_:G27 e)(_:G39 e)(_:G25 e)(_:G18 e):G67 e:=FO.Km (sp:=cD) 59 13 (FO.zero (T.f (79,4,485,484) rfl) fun _ _ _ z=>yE z) fun n k hk _=>by
  have:FO e (k+1) "_law_grid_tiles" (kH n):=FO.map (FO.ok (T.f (80,4,490,489) rfl) ["_law_d","_law_kinds_here","_law_plan_here","_law_inner","_law_shape_here","_law_found","_law_row","_law_low_here","_law_column","_law_left"] (fun _ _ _ h=>rk h) (fun _ _ _ h=>jT n h) (by walk_at "o")) fun F=>tD F fun _ _ _ h=>iW h
  exact FO.map (FO.ok (T.f (79,4,485,484) rfl) ["_law_d","_law_kinds_here","_law_plan_here","_law_shape_here","_law_whole","_law_found","_law_left","_law_low_here","_law_part","_law_wide"] (fun _ _ _ h=>p5 h) (fun _ _ _ h=>pP n h) (by walk_at "o")) fun F=>tD F fun _ _ _ h=>nt h
theorem GD{d:FuncData}(C:Cal e.K e.mg "law" ["_law_script"] (top 87) 537 d)(z:d.code = .ref 536):eJ e.P e.w e.K e.mg e.base CX0 86 537 d ["_law_script"] (spD e.K nV):=by
 have g0:=F0 T
 have g1:=F1 T
 have g2:=F2 T
 have g3:=F3 T
 have g4:=F4 T
 have g5:=F5 T
 have g6:=F6 T
 have g7:=F7 T
 have g8:=F8 T
 have g9:=F9 T
 have g10:=F10 T
 have g11:=F11 T
 have g12:=F12 T
 have g13:=F13 T g1
 have g14:=F14 T g3
 have g15:=F15 T g3
 have g16:=F16 T g2
 have g17:=F17 T g0
 have g18:=F18 T g10
 have g19:=F19 T g9 g10
 have g20:=F20 T g8
 have g21:=F21 T g8
 have g22:=F22 T g0 g13
 have g23:=F23 T g13
 have g24:=F24 T g17 g0
 have g25:=F25 T g18
 have g26:=F26 T g18
 have g27:=F27 T g18
 have g28:=F28 T g8 g18
 have g29:=F29 T g8 g21
 have g30:=F30 T g23
 have g31:=F31 T g23
 have g32:=F32 T g23
 have g33:=F33 T g23
 have g34:=F34 T g22 g14
 have g35:=F35 T g24 g4
 have g36:=F36 T g12 g25 g11
 have g37:=F37 T g28 g12 g8 g11
 have g38:=F38 T g25
 have g39:=F39 T g26 g25
 have g40:=F40 T g25 g11 g27 g26
 have g41:=F41 T g8 g26 g18
 have g42:=F42 T g32 g33
 have g43:=F43 T g30
 have g44:=F44 T g34
 have g45:=F45 T g35
 have g46:=F46 T g30
 have g47:=F47 T g30 g32 g31
 have g48:=F48 T g32 g30
 have g49:=F49 T g37 g8 g27 g26 g18
 have g50:=F50 T g36 g25
 have g51:=F51 T g8 g41 g25
 have g52:=F52 T g44
 have g53:=F53 T g43 g15
 have g54:=F54 T g42
 have g55:=F55 T g22 g53
 have g56:=F56 T g54 g16 g42 g31 g48
 have g57:=F57 T
 have g58:=F58 T g29 g57
 have g59:=F59 T g27 g26 g18 g38
 have g60:=F60 T g4 g33 g32 g23 g46
 have g61:=F61 T g60 g33 g47 g6
 have g62:=F62 T g61 g53
 have g63:=F63 T g52 g45 g60 g55 g5 g56 g62
 have g64:=F64 T g50 g63 g19 g9
 have g65:=F65 T g9
 have g66:=F66 T g65 g18 g8 g11 g12
 have g67:=F67 T g59 g40 g26 g27 g39 g25 g18
 exact FO.okC C z ["_law_script","_law_k","_law_bag_here","_law_d","_law_kinds_here","_law_plan_here","_law_tiles_here","_law_spots_here","_law_spot"] (fun _ _ _ h=>yX h) (fun _ _ _ h=>Gq h) (by walk_at "o")
end
theorem Gh{K:PySem.W.Frag}{h:Heap}{mg:Str->Option Value}{q:Nat×Nat×Addr×Addr}(X:K.In h)(G:h.Ns mainGlobals mg)(a:FQ K q)(b:wO (cE (top q.1))=true):Cal K mg (nm q) (ps q) (top q.1) q.2.2.1 (fd (nm q) (top q.1) (md q).1 (md q).2 q.2.2.2):=
 have F:=EO (st:=top q.1) a.2.1 a.2.2.1 a.2.2.2
 ⟨F,PySem.W.mg_of X G a.1,a.2.2.2,F.binds fun _ _ _ _ _ _ us hl=>by
  simp only[wO,and_eq_true,List.isEmpty_iff,Option.isNone_iff_eq_none,decide_eq_true_eq] at b
  exact zQ b.1.1.1.1 b.1.1.1.2 b.1.1.2 b.1.2 b.2 us hl⟩
theorem all_mk{l:PySem.W.OpenLaw}{w:World}{K:PySem.W.Frag}{h:Heap}{mg:Str->Option Value}{fa:Addr}(X:K.In h)(G:h.Ns mainGlobals mg)(hfa:mg "law"=some (.ref fa))(ht:l.prog.given.tree=none)
  (f:zf (FQ K) FL)
  (b:FL.all (fun q=>wO (cE (top q.1)))=true)
  (g:GL.map (fun q=>nsIn K mainGlobals q.1)=GL.map fun q=>some q.2)
  (pB:K.lookup 76=some ⟨.type "tuple",none,.seq #[.int 0 273,.int 0 274,.int 1 275] 0,#[]⟩)
  (BC:K.lookup 77=some ⟨.type "tuple",none,.seq #[.int 1 277,.int 0 278,.int 1 279] 0,#[]⟩) :
  ∃fd:FuncData,(∀(s:Shared) (v:Value),BindsTo s fd ⟨[v],[]⟩ [("_law_script",v)])/\∀base:Heap,K.In base->base.Ns mainGlobals mg->base.NoSeer->eJ l.prog w K mg base CX0 86 fa fd ["_law_script"] (spD K nV):=by
 have cal:∀q,q∈FL->Cal K mg (nm q) (ps q) (top q.1) q.2.2.1 (fd (nm q) (top q.1) (md q).1 (md q).2 q.2.2.2):=fun q hi=>Gh X G (f.get hi) (List.all_eq_true.mp b q hi)
 have gg:∀i,i<GL.length->mg (gl i).1=(gl i).2:=fun i hi=>D2 X G g hi
 have C:Cal K mg "law" ["_law_script"] (top 87) 537 (fd "law" (top 87) 654 "law_matefloors_k25_tiles_at_spots" 536):=cal (87,4,537,536) ⋯
 cases hfa.symm.trans C.m
 exact⟨_,fun s v=>.of_eq rfl,fun base _ _ hs=>GD (e:=⟨l.prog,w,K,mg,base⟩) ⟨fun q hi=>⟨_,cal q (by simpa using hi),rfl⟩,gg,trivial,gg 0 ⋯,gg 1 ⋯,gg 2 ⋯,gg 3 ⋯,gg 4 ⋯,gg 5 ⋯,gg 6 ⋯,gg 7 ⋯,gg 8 ⋯,gg 9 ⋯,gg 10 ⋯,gg 11 ⋯,gg 12 ⋯,gg 13 ⋯,gg 14 ⋯,gg 15 ⋯,gg 16 ⋯,gg 17 ⋯,⟨gg 18 ⋯,⟨_,_,_,_,_,_,pB⟩⟩,⟨gg 19 ⋯,⟨_,_,_,_,_,_,BC⟩⟩,hs,ht⟩ C rfl⟩
theorem walk{l:PySem.W.OpenLaw}{q:Program}{loose:List Str}{XP:(Str->Option Value)->Heap->Prop}{YP:World->Heap->Prop}{d:DefRec}{K:Params->PySem.W.Frag}(tabs:List Addr)(him:PyProof.Rows.importsNone q=true)(hn:l.most=some 63)(hdf:d.params.defaults=[])
  (hY:∀(w:World) (h:Heap),YP w h->(K w.params).In h/\(∀p∈tabs,h.get? p=some (PySem.W.tabObj #[])/\(K w.params).lookup p=none)/\(∀p∈tabs,isCodeTable h p))
  (hA2:∀(w:World) c o p q,(K w.params).lookup c=some o->bu o=some (p,q)->p∈tabs)
  (F:∀(w:World) (mg:Str->Option Value) (fa:Addr) (h:Heap),(K w.params).In h->h.Ns mainGlobals mg->mg d.name=some (.ref fa) ->
   ∃fd:FuncData,(∀(s:Shared) (u:Value),BindsTo s fd ⟨[u],[]⟩ [("_law_script",u)])/\∀base:Heap,(K w.params).In base->base.Ns mainGlobals mg->base.NoSeer->eJ l.prog w (K w.params) mg base CX0 86 fa fd ["_law_script"] (spD (K w.params) nV)) :
  PySem.W.WalkO q loose XP YP l.row.toRowW d [] (fun f vs=>PySem.call f vs):=
 L2.A3 (n:=63) (k:=86) (x:="_law_script") (CX:=fun _=>CX0) (sp:=fun w=>spD (K w.params) nV) tabs him hn ⋯ hdf ⟨rfl,⋯,⋯⟩ hY hA2 F (fun w H a ns hl hT hS=>yT hl hT hS) fun _ _ _ _ _ z=>z
end K25
open PySem PySem.W PyProof.Rows L2.DL in
set_option maxRecDepth 100000 in
set_option maxHeartbeats 0 in
theorem PySem.Challenge.cw_matefloors_k25_tiles_at_spots_holds : PySem.Challenge.rw_matefloors_k25_tiles_at_spots.Holds :=
 holds_law K25.H.ws fun said=>holds_open (XP:=XL K25.H.V []) (YP:=K25.H.HK.says) (d:=K25.H.D) (kwd:=[]) K25.H.left K25.H.HK.of K25.H.HK.keeps (fun s e=>xl_of s (Bool.and_eq_true_iff.mp e).1) XL.keeps ⟨⟩ ⟨⟩ ⟨⟩
  (fun s e=>recFacts_of (Bool.and_eq_true_iff.mp e).2) ⟨⟩ said ⟨⟩ ⟨⟨⟩,⟨⟩,⟨⟩,⟨⟩,⟨⟩,⟨⟩⟩ ⟨[.list []],⟨⟩,⟨⟩⟩
  (K25.walk (l:=PySem.Challenge.rw_matefloors_k25_tiles_at_spots) (K:=K25.H.K) K25.H.tabs ⟨⟩ ⟨⟩ ⟨⟩ (fun w h ZY=>by
   have ZY:(K25.H.KF w.params).In h:=ZY
   refine⟨sY ZY,fun p hp=>?_,fun p hp=>?_⟩
   ·rcases List.mem_cons.mp hp with rfl|hp
    ·exact⟨ZY _ _ (K25.H.fM w.params).1,(K25.H.fM w.params).2⟩
    rcases List.mem_cons.mp hp with rfl|hp
    ·exact⟨ZY _ _ (K25.H.xo w.params).1,(K25.H.xo w.params).2⟩
    exact nomatch hp
   ·rcases List.mem_cons.mp hp with rfl|hp
    ·obtain⟨o,e1,e2⟩:=wJ (K25.H.kF w.params);exact qI (sY ZY) e1 e2
    rcases List.mem_cons.mp hp with rfl|hp
    ·obtain⟨o,e1,e2⟩:=wJ (K25.H.Bh w.params);exact qI (sY ZY) e1 e2
    exact nomatch hp) (fun w c o p q e e2=>by
   have h:=C9 (K25.H.GF w.params) e e2
   have h2:=mem_map_of_mem (f:=fun x:Addr×Str=>x.1) h
   exact h2) fun w mg fa h KX G hmg=>by
   exact K25.all_mk KX G hmg ⟨⟩ (K25.H.Hk w.params) K25.H.Hh (K25.H.Hy w.params) (K25.H.Ct w.params) (K25.H.DQ w.params))
