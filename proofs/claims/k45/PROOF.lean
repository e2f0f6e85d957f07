import PyProof.Rows.All
import KE.KFind
import KE.KLam
import KE.KTryMore
import KE.LcSums
import KE.KRevSl
import Lean
import PySem.Challenge.RW_matefloors_k45_mixed_and_squares_looked
set_option Elab.async false
set_option linter.all false
set_option maxRecDepth 100000
set_option maxHeartbeats 4000000
set_option genSizeOf false
local macro_rules | `(⋯) => `((by decide))
local macro_rules | `(∅) => `((by omega))
local macro_rules | `(nofun) => `((by decide +kernel))
local macro_rules | `(⟨⟩) => `((by kernel_rfl))
local macro_rules | `(tactic| walk_at "s") => `(tactic| exact ⟨rfl, rfl, rfl, by decide +kernel, rfl, by decide +kernel, by decide +kernel⟩)
local macro_rules | `(tactic| walk_at "b") => `(tactic| (intro _ _ _ _ _ _ us hl; first | exact (match us, hl with | [_], _ => rfl) | exact (match us, hl with | [_, _], _ => rfl) | exact (match us, hl with | [_, _, _], _ => rfl) | exact (match us, hl with | [_, _, _, _], _ => rfl) | exact (match us, hl with | [_, _, _, _, _], _ => rfl)))
open PySem.W (fnOf nsIn codeIn keepIn kitOne kia_one excIn findIn mroIn clsIn tabObj kla_fn exmOne kia_tup mg_of mg_none_of)
open List (mem_append_left filterMap_cons mem_cons_self mem_cons_of_mem mem_append_right append_nil length_take getElem?_map mem_of_getElem? length_append length_map size_toArray length_set replicate_succ flatten_cons map_cons length_cons lookup_cons set_cons_zero set_cons_succ mem_cons not_mem_nil all_cons all_nil all_map)
open Int (toNat_natCast natAbs_mul mul_zero mul_comm le_of_lt eq_of_mul_eq_mul_right mul_ne_zero mul_nonneg lt_or_gt_of_ne mul_pos zero_mul le_refl)
open Nat (lt_of_lt_of_le ne_of_lt lt_irrefl le_trans zero_le mod_lt lt_trans)
open Bool (false_eq_true and_eq_true xor_false false_xor)
open Option (bind_some map_some)
open PySem (mem_of_lookup)
namespace L2
open PySem PySem.W
def mX:Sem Fin->Bool
 |.choose ..=>false
 |.os ..=>false
 |_=>true
theorem Q9{den:Code->Sem Fin}{p:Program}{w:World}{os:OsState}{s s':Shared}{t t':Thread}(h:mX t.cur=true)(e:step den p ⟨fun _ _=>0,w.params⟩ s t = .go s' t') :
  step den p w {s with os:=os} t = .go {s' with os:=os} t':=by
 obtain⟨heap,gens,drawn,toks,os0⟩:=s
 obtain⟨cur,code,pos,stack⟩:=t
 cases cur<;>simp only[step,finish,mX] at e h ⊢<;>(try (cases h;done))<;>(repeat' split at e)<;>simp_all<;>(try (obtain⟨rfl,rfl⟩:=e;simp_all))<;>(try (obtain⟨h1,h2⟩:=e;subst h1;rfl))
def uO(tb:String->Option Builtin)(p:Program)(P:Params)(kw:Nat)(ann:Option Value):Nat->Shared->Thread->Option Shared
 |0,_,_=>none
 |n+1,s,t=>match through t with
  |true=>some s
  |false=>match stepOk kw ann t&&mX t.cur with
   |false=>none
   |true=>match step (denote tb) p ⟨fun _ _=>0,P⟩ s t with
    |.go s' t'=>uO tb p P kw ann n s' t'
    |.halt _ _=>none
theorem yG{tb:String->Option Builtin}{p:Program}{w:World}{kw:Nat}{ann:Option Value}{os:OsState}:∀{n:Nat} {s s':Shared} {t:Thread},uO tb p w.params kw ann n s t=some s'->topRun tb p w kw ann n {s with os:=os} t=some {s' with os:=os}
 |0,_,_,_,h=>by cases h
 |n+1,s,s',t,h=>by
  unfold uO at h
  unfold topRun
  cases ht:through t with
  |true=>rw[ht] at h;cases h;rfl
  |false=>
   rw[ht] at h
   cases hk:(stepOk kw ann t&&mX t.cur) with
   |false=>rw[hk] at h;cases h
   |true=>
    rw[hk] at h
    obtain⟨k1,k2⟩:=Bool.and_eq_true_iff.mp hk
    cases hs:step (denote tb) p ⟨fun _ _=>0,w.params⟩ s t with
    |halt o ld=>rw[hs] at h;cases h
    |go ld v4=>
     rw[hs] at h
     rw[k1,Q9 (os:=os) k2 hs]
     exact yG h
noncomputable def yr(p:Program)(P:Params)(kw:Nat)(ann:Option Value):Nat->Shared->Thread->Option Shared
 |0,_,_=>none
 |n+1,s,t=>match through t with
  |true=>some s
  |false=>match Fast.tw6613529449190102663 kw ann t&&mX t.cur with
   |false=>none
   |true=>match Fast.tw8437177126325714943 (Fast.tw11892475500146522536 Fast.tw14364793385576792824) p ⟨fun _ _=>0,P⟩ s t with
    |.go s' t'=>yr p P kw ann n s' t'
    |.halt _ _=>none
theorem zE{p:Program}{P:Params}{kw:Nat}{ann:Option Value}:∀(n:Nat) (s:Shared) (t:Thread),yr p P kw ann n s t=uO treeTable p P kw ann n s t
 |0,_,_=>rfl
 |n+1,s,t=>by
  unfold yr uO
  rw[<- Fast.te6613529449190102663,<- Fast.te8437177126325714943,<- Fast.te11892475500146522536,<- Fast.te14364793385576792824]
  cases through t with
  |true=>rfl
  |false=>
   cases (stepOk kw ann t&&mX t.cur) with
   |false=>rfl
   |true=>
    cases step (denote treeTable) p ⟨fun _ _=>0,P⟩ s t with
    |halt o ld=>rfl
    |go ld v4=>exact zE n ld v4
end L2
namespace L2
open PySem
def lU(s:Stmt):Arguments:=match s with
 |.FunctionDef _ a _ _ _ _ _ _ _ _=>a
 |_=>{posonlyargs:=[],args:=[],vararg:=none,kwonlyargs:=[],kw_defaults:=[],kwarg:=none,defaults:=[]}
def fw(s:Stmt):List Stmt:=match s with
 |.FunctionDef _ _ b _ _ _ _ _ _ _=>b
 |_=>[]
def ax(s:Stmt):Scope:=match s with
 |.FunctionDef _ _ _ _ _ _ sc _ _ _=>sc
 |_=>{kind:=.function,names:=[],isGenerator:=false,isCoroutine:=false}
end L2
namespace L2.DL
open PySem
def Kd:List Str:=["law","_law_is_right","_law_is_put","_law_are_refused","_law_is_told","_law_said","_law_is_plan_told"]
def bS(o:Obj):Option (Addr×Str):=match o.cls,o.data with
 |.type c,.fields vs=>if c = "code" then (match vs[1]?,vs[7]?,vs[9]?,vs[10]?,vs[11]?,vs[18]? with
  |some (Value.str q _),some (Value.int _ _),some (Value.bool _),some (Value.int _ _),some (Value.ref P),some (Value.str _ _)=>if Kd.contains q=true then some (P,q) else none
  |_,_,_,_,_,_=>none) else none
 |_,_=>none
abbrev bmV:List Value:=[.type "ValueError",.type "Exception",.type "BaseException",.type "object"]
end L2.DL
namespace K45
open PySem L2
def top(i:Nat):Stmt:=PySem.Challenge.pw_matefloors_k45_mixed_and_squares_looked.main.body.getD i (.Pass ⟨0,0,0,0⟩)
abbrev iR:Stmt:=top 18
abbrev cY:Stmt:=top 19
abbrev gH:Stmt:=top 20
abbrev cZ:Stmt:=top 21
abbrev ny:Stmt:=top 22
abbrev wq:Stmt:=top 23
abbrev wI:Stmt:=top 24
abbrev xg:Stmt:=top 25
abbrev qZ:Stmt:=top 26
abbrev vE:Stmt:=top 27
abbrev iP:Stmt:=top 28
abbrev kD:Stmt:=top 29
abbrev dD:Stmt:=top 30
abbrev cF:Stmt:=top 32
abbrev bN:Stmt:=top 33
abbrev iT:Stmt:=top 46
abbrev dy:Stmt:=top 48
abbrev nr:Stmt:=top 56
abbrev fO:Stmt:=top 58
abbrev gN:Stmt:=top 59
abbrev i7:Stmt:=top 60
abbrev kE:Stmt:=top 61
abbrev w8:Stmt:=top 62
abbrev iN:Stmt:=top 64
abbrev fM:Stmt:=top 78
abbrev cH:Stmt:=top 79
abbrev gR:Stmt:=top 80
abbrev rh:Stmt:=top 82
abbrev fI:Stmt:=top 83
abbrev eJ:Stmt:=top 84
abbrev gG:Stmt:=top 85
abbrev iS:Stmt:=top 87
abbrev gS:Stmt:=top 88
abbrev dw:Stmt:=top 89
abbrev eL:Stmt:=top 90
abbrev ja:Stmt:=top 91
abbrev de:Stmt:=top 92
abbrev gP:Stmt:=top 93
abbrev fF:Stmt:=top 94
abbrev fj:Stmt:=top 95
abbrev dA:Stmt:=top 96
abbrev gX:Stmt:=top 97
abbrev gI:Stmt:=top 98
abbrev eN:Stmt:=top 99
abbrev fm:Stmt:=top 100
abbrev jc:Stmt:=top 101
abbrev dZ:Stmt:=top 102
abbrev fK:Stmt:=top 103
abbrev da:Stmt:=top 104
abbrev cW:Stmt:=top 105
abbrev dG:Stmt:=top 106
abbrev cE:Stmt:=top 107
abbrev eK:Stmt:=top 108
abbrev dF:Stmt:=top 109
abbrev dz:Stmt:=top 110
abbrev fG:Stmt:=top 111
abbrev d8:Stmt:=top 112
abbrev fk:Stmt:=top 113
abbrev rT:Stmt:=top 114
abbrev fd(n:Str)(s:Stmt)(tk:Tok)(m:Str)(cd:Addr):FuncData:=fnOf n n (lU s) (fw s) (ax s) .none .none .none (.str m tk) none (.ref cd) .none
noncomputable abbrev FQ(K:PySem.W.Frag)(n:Str)(s:Stmt)(a cd:Addr)(tk:Tok)(m:Str):Prop:=nsIn K mainGlobals n=some (some (.ref a))/\K.lookup a=some ⟨.type "function",none,.func (fd n s tk m cd),#[]⟩/\codeIn K (.ref cd) n=true/\keepIn K (.ref a)=true
end K45
namespace K45.H
open PySem PySem.W PyProof.Rows L2 L2.DL
set_option maxHeartbeats 0
abbrev R:OpenLaw:=PySem.Challenge.rw_matefloors_k45_mixed_and_squares_looked
abbrev LO:List Str:=["has_form","has_form_layings","has_form_plans"]
noncomputable def sT(P:Params):Option Shared:=yr R.row.prog P 11 (some (.ref 6)) 20000 {heap:=boot_heap P,gens:=#[],drawn:=boot_drawn,toks:=boot_toks,os:=default} (topStub R.row.prog)
def defName:Stmt->Str
 |.FunctionDef n _ _ _ _ _ _ _ _ _=>n
 |_=>Str.empty
def HS:Stmt->Int
 |.FunctionDef _ _ _ _ _ _ _ _ _ p=>Int.ofNat p.line
 |_=>0
def cn(o:Obj)(r:List Obj):List Obj:=o::r
def g(P:Params)(x:Str)(t:Nat)(v:Value):DictEntry:=⟨PyData.keyHash P x,.str x t,v⟩
def gf(P:Params)(i t a:Nat):DictEntry:=g P (defName (top i)) t (.ref a)
def tb:List (Int×Nat)->List Value
 |[]=>[]
 |(a,b)::l=>.int a 0::.int 0 0::.ref b::tb l
def tu(l:List Value):Obj:=⟨.type "tuple",none,.seq l.toArray 0,#[]⟩
def nf:Obj:=⟨.none,none,.fields #[],#[]⟩
def dp(s:Stmt):List Str:=(lU s).args.map (·.arg)
def fd(s:Stmt)(a:Addr)(p c:Value):Data:=.func {name:=defName s,qualname:=defName s,params:=lU s,body:=.stmts (fw s),scope:=ax s,globals:=a,closure:=[],defaults:=.none,kwdefaults:=.none,pyModule:=p,code:=c}
def co(s:Stmt)(a t u:Nat)(x y:Value)(d:Nat):Obj:=⟨.type "code",none,.fields #[.str (defName s) t,.str (defName s) (t+1),.str "/claim/cut.py" (t+2),.int (HS s) 0,.int (Int.ofNat (dp s).length) 0,.int 0 0,.int 0 0,.int 3 0,.ref a,.bool true,.int 181 0,.ref (a+1),.none,x,y,.ref (a+d),.int (Int.ofNat u) 0,.int (HS s) 0,.str "/claim/cut.py" (u+1)],#[]⟩
def nv:Nat->List Str->List Value
 |_,[]=>[]
 |t,x::l=>.str x t::nv (t+1) l
def fB(i a t:Nat)(l:List Str)(p:Value)(r:List Obj):List Obj:=tu []::nf::tu (nv (t+3) (dp (top i)++l))::tu []::⟨.none,none,fd (top i) 0 .none .none,#[]⟩::co (top i) a t (t+3+(dp (top i)++l).length) (.ref (a+2)) (.ref (a+3)) 4::⟨.type "function",none,fd (top i) 3 p (.ref (a+5)),#[]⟩::r
def fL(i a t:Nat)(p:Value)(r:List Obj):List Obj:=tu []::nf::⟨.none,none,fd (top i) 0 .none .none,#[]⟩::co (top i) a t (t+3) .none .none 2::⟨.type "function",none,fd (top i) 3 p (.ref (a+3)),#[]⟩::r
def me:Value:=.str "matefloors.errors" 187
def cB(P:Params)(x:Str)(i t:Nat)(n:Int)(r:List Obj):List Obj:=tu [.ref 24]::⟨.type "builtin_function_or_method",none,.fields #[.builtin "type.__prepare__",.type "type"],#[]⟩::⟨.type "dict",none,.dict #[g P "__module__" (t+5) me,g P "__qualname__" (t+7) (.str x (t+6)),g P "__firstlineno__" (t+9) (.int n (t+8)),g P "__static_attributes__" (t+10) (.ref (i+7))] 4,#[]⟩::tu []::nf::⟨.type "code",none,.fields #[.str x t,.str x (t+1),.str "/claim/cut.py" (t+2),.int n 0,.int 0 0,.int 0 0,.int 0 0,.int 0 0,.ref (i+3),.bool false,.int 181 0,.ref (i+4),.none,.none,.none,.none,.int (Int.ofNat (t+3)) 0,.int n 0,.str "/claim/cut.py" (t+4)],#[]⟩::⟨.type "frame",none,.plain,#[some (.ref (i+5)),some (.ref 3),some (.ref (i+2)),none,some me,none,some (.ref 0)]⟩::tu []::⟨.type "dict",none,.dict #[g P "__module__" (t+5) me,g P "__firstlineno__" (t+9) (.int n (t+8)),g P "__static_attributes__" (t+10) (.ref (i+7)),g P "__doc__" (t+11) .none] 2,#[]⟩::⟨.type "type",none,.cls ⟨x,[.ref 24],[.ref (i+9),.ref 24,.type "ValueError",.type "Exception",.type "BaseException",.type "object"],i+8,x,true,[],[],false,none,false⟩,#[some (.ref i),none,some (.str x (t-2)),some (.str x (t+6)),some (.builtin "ValueError.__new__"),some (.bool true)]⟩::⟨.type "super",none,.fields #[.ref (i+9),.ref (i+9),.ref (i+9)],#[]⟩::⟨.type "builtin_function_or_method",none,.fields #[.builtin "object.__init_subclass__",.ref (i+9)],#[]⟩::r
def m0:Value:=.str "matefloors.numbers" 415
def m1:Value:=.str "matefloors.layings" 564
def m2:Value:=.str "matefloors.weighing" 677
def m3:Value:=.str "matefloors.bars" 701
def m4:Value:=.str "matefloors.mixtures" 733
def m5:Value:=.str "matefloors.moving" 786
def m6:Value:=.str "matefloors.plans" 796
def m7:Value:=.str "matefloors.squares" 859
def m8:Value:=.str "matefloors.looker" 889
def m9:Value:=.str "law_matefloors_k45_mixed_and_squares_looked" 925
noncomputable def ho0(P:Params)(r:List Obj):List Obj:=cn (boot_o_0 P) <| cn (boot_o_1 P) <| cn (boot_o_2 P) <| cn (⟨.type "dict",none,.dict #[g P "__name__" 165 (.str "law_matefloors_k45_mixed_and_squares_looked" 925),g P "__doc__" 166 .none,g P "__package__" 167 .none,g P "__loader__" 168 (.builtin "__main__.__loader__#opaque"),g P "__spec__" 169 .none,g P "__annotations__" 170 (.ref 6),g P "__builtins__" 171 (.ref 4),g P "__file__" 173 (.str "/claim/cut.py" 172),g P "__cached__" 174 .none,g P "FloorError" 206 (.ref 24),g P "NoRoot" 222 (.ref 37),g P "NoNumber" 238 (.ref 49),g P "NoLaying" 254 (.ref 61),g P "NoTile" 270 (.ref 73),g P "NoFit" 286 (.ref 85),g P "NoKinds" 302 (.ref 97),g P "NoPlan" 318 (.ref 109),g P "NoSpot" 334 (.ref 121),g P "NoNet" 350 (.ref 133),g P "NoText" 366 (.ref 145),g P "NoSaying" 382 (.ref 157),g P "NoName" 398 (.ref 169),g P "TooMany" 414 (.ref 181),g P "NOUGHT" 420 (.ref 184),g P "ONE" 424 (.ref 185),gf P 18 431 192,gf P 19 439 199,gf P 20 449 206,gf P 21 458 213,gf P 22 468 220,gf P 23 475 227,gf P 24 483 234,gf P 25 491 241,gf P 26 500 248,gf P 27 509 255,gf P 28 518 262,gf P 29 526 269,gf P 30 536 276,gf P 31 547 283,gf P 32 555 290,gf P 33 563 297,g P "MOST_TILES" 567 (.int 60 566),g P "MOST_KINDS" 569 (.int 3 568),gf P 37 581 304,gf P 71 587 456,g P "has_form_layings" 588 (.ref 309),gf P 40 599 316,gf P 41 611 323,gf P 42 622 330,gf P 43 630 337,gf P 44 636 342,gf P 45 642 347,gf P 46 648 352,gf P 47 656 359,gf P 48 664 366,gf P 49 670 371,gf P 50 676 376,gf P 52 684 381,gf P 53 700 388,gf P 55 719 395,gf P 56 732 402,gf P 58 740 407,gf P 59 754 414,gf P 60 762 421,gf P 61 777 428,gf P 62 785 435,gf P 64 795 442,g P "MOST_WITHIN" 799 (.int 12 798),g P "MOST_PLANS" 801 (.int 60 800),g P "LEAST_PARTS" 803 (.int 2 802),g P "MOST_PARTS" 805 (.int 8 804),gf P 70 818 449,g P "has_form_plans" 828 (.ref 456),gf P 73 835 463,gf P 74 843 470,gf P 75 849 475,gf P 76 858 482,gf P 78 870 489,gf P 79 878 496,gf P 80 888 503,gf P 82 900 510,gf P 83 912 517,gf P 84 918 522,gf P 85 924 527,gf P 87 938 534,gf P 88 947 541,gf P 89 954 548,gf P 90 962 555,gf P 91 972 562,gf P 92 978 567,gf P 93 986 574,gf P 94 993 581,gf P 95 1002 588,gf P 96 1010 595,gf P 97 1021 602,gf P 98 1027 607,gf P 99 1039 614,gf P 100 1049 621,gf P 101 1057 628,gf P 102 1063 633,gf P 103 1076 640,gf P 104 1086 647,gf P 105 1097 654,gf P 106 1105 661,gf P 107 1111 666,gf P 108 1120 673,gf P 109 1130 680,gf P 110 1141 687,gf P 111 1147 692,gf P 112 1158 699,gf P 113 1175 706,gf P 114 1181 711] 112,#[]⟩) <| cn (boot_o_4 P) <| cn (boot_o_5 P) <| cn (boot_o_6 P) <| cn (boot_o_7 P) <| cn (boot_o_8 P) <| cn (boot_o_9 P) <| cn (boot_o_10 P) <| cn (⟨(.type "tuple"),none,(.seq #[] 0),#[]⟩) <| cn (⟨.none,none,.fields (tb [(2,20),(4,33),(6,45),(8,57),(10,69),(12,81),(14,93),(16,105),(18,117),(20,129),(22,141),(24,153),(26,165),(28,177),(33,191),(35,198),(39,205),(46,212),(48,219),(55,226),(57,233),(59,240),(61,247),(63,254),(67,261),(70,268),(72,275),(81,282),(85,289),(87,296),(93,303),(100,308),(110,315),(113,322),(123,329),(130,336),(132,341),(143,346),(151,351),(155,358),(158,365),(161,370),(164,375),(170,380),(174,387),(180,394),(189,401),(202,406),(212,413),(218,420),(220,427),(230,434),(233,441),(240,448),(251,455),(265,462),(267,469),(274,474),(286,481),(292,488),(299,495),(302,502),(311,509),(324,516),(333,521),(340,526),(345,533),(355,540),(362,547),(364,554),(369,561),(372,566),(376,573),(378,580),(380,587),(382,594),(384,601),(390,606),(395,613),(401,620),(407,627),(410,632),(420,639),(432,646),(436,653),(442,660),(445,665),(452,672),(459,679),(463,686),(480,691),(491,698),(494,705),(503,710)]).toArray,#[]⟩) <| cn (⟨(.type "code"),none,(.fields #[(.str "<module>" 182),(.str "<module>" 183),(.str "/claim/cut.py" 184),(.int 1 0),(.int 0 0),(.int 0 0),(.int 0 0),(.int 0 0),(.ref 11),(.bool false),(.int 181 0),(.ref 12),.none,.none,.none,.none,(.int 185 0),(.int 1 0),(.str "/claim/cut.py" 186)]),#[]⟩) <| cn (⟨(.type "frame"),none,.plain,#[some (.ref 13),some (.ref 3),some (.ref 3),none,some (.str "__main__" 164),none,some (.ref 0)]⟩) <| cn (⟨(.type "tuple"),none,(.seq #[(.type "ValueError")] 0),#[]⟩) <| cn (⟨(.type "builtin_function_or_method"),none,(.fields #[(.builtin "type.__prepare__"),(.type "type")]),#[]⟩) <| cn (⟨(.type "dict"),none,(.dict #[⟨PyData.keyHash P "__module__",(.str "__module__" 196),(.str "matefloors.errors" 187)⟩,⟨PyData.keyHash P "__qualname__",(.str "__qualname__" 198),(.str "FloorError" 197)⟩,⟨PyData.keyHash P "__firstlineno__",(.str "__firstlineno__" 200),(.int 2 199)⟩,⟨PyData.keyHash P "__static_attributes__",(.str "__static_attributes__" 201),(.ref 22)⟩] 4),#[]⟩) <| cn (⟨(.type "tuple"),none,(.seq #[] 0),#[]⟩) <| cn (⟨.none,none,(.fields #[]),#[]⟩) <| r
noncomputable def ho1(P:Params)(r:List Obj):List Obj:=cn (⟨(.type "code"),none,(.fields #[(.str "FloorError" 191),(.str "FloorError" 192),(.str "/claim/cut.py" 193),(.int 2 0),(.int 0 0),(.int 0 0),(.int 0 0),(.int 0 0),(.ref 18),(.bool false),(.int 181 0),(.ref 19),.none,.none,.none,.none,(.int 194 0),(.int 2 0),(.str "/claim/cut.py" 195)]),#[]⟩) <| cn (⟨(.type "frame"),none,.plain,#[some (.ref 20),some (.ref 3),some (.ref 17),none,some (.str "matefloors.errors" 187),none,some (.ref 0)]⟩) <| cn (⟨(.type "tuple"),none,(.seq #[] 0),#[]⟩) <| cn (⟨(.type "dict"),none,(.dict #[⟨PyData.keyHash P "__module__",(.str "__module__" 196),(.str "matefloors.errors" 187)⟩,⟨PyData.keyHash P "__firstlineno__",(.str "__firstlineno__" 200),(.int 2 199)⟩,⟨PyData.keyHash P "__static_attributes__",(.str "__static_attributes__" 201),(.ref 22)⟩,⟨PyData.keyHash P "__weakref__",(.str "__weakref__" 203),(.ref 25)⟩,⟨PyData.keyHash P "__doc__",(.str "__doc__" 204),.none⟩] 3),#[]⟩) <| cn (⟨(.type "type"),none,(.cls ⟨"FloorError",[(.type "ValueError")],[(.ref 24),(.type "ValueError"),(.type "Exception"),(.type "BaseException"),(.type "object")],23,"FloorError",true,[],[(.ref 37),(.ref 49),(.ref 61),(.ref 73),(.ref 85),(.ref 97),(.ref 109),(.ref 121),(.ref 133),(.ref 145),(.ref 157),(.ref 169),(.ref 181)],false,none,false⟩),#[some (.ref 15),none,some (.str "FloorError" 189),some (.str "FloorError" 197),some (.builtin "ValueError.__new__"),some (.bool true)]⟩) <| cn (⟨(.type "getset_descriptor"),none,(.fields #[(.str "__weakref__" 202),(.ref 24),(.builtin "ExceptionGroup.__weakref__"),.none]),#[]⟩) <| cn (⟨(.type "super"),none,(.fields #[(.ref 24),(.ref 24),(.ref 24)]),#[]⟩) <| cn (⟨(.type "builtin_function_or_method"),none,(.fields #[(.builtin "object.__init_subclass__"),(.ref 24)]),#[]⟩) <| cB P "NoRoot" 28 209 4 <| cB P "NoNumber" 40 225 6 <| cB P "NoLaying" 52 241 8 <| cB P "NoTile" 64 257 10 <| cB P "NoFit" 76 273 12 <| cB P "NoKinds" 88 289 14 <| cB P "NoPlan" 100 305 16 <| cB P "NoSpot" 112 321 18 <| cB P "NoNet" 124 337 20 <| cB P "NoText" 136 353 22 <| cB P "NoSaying" 148 369 24 <| cB P "NoName" 160 385 26 <| r
noncomputable def ho2(P:Params)(r:List Obj):List Obj:=cB P "TooMany" 172 401 28 <| cn (⟨(.type "tuple"),none,(.seq #[(.int 0 417),(.int 0 418),(.int 1 419)] 0),#[]⟩) <| cn (⟨(.type "tuple"),none,(.seq #[(.int 1 421),(.int 0 422),(.int 1 423)] 0),#[]⟩) <| fB 18 186 425 [] m0 <| fB 19 193 432 [] m0 <| fB 20 200 440 ["a","b","c"] m0 <| fB 21 207 450 [] m0 <| fB 22 214 459 ["divisor"] m0 <| fB 23 221 469 [] m0 <| fB 24 228 476 [] m0 <| fB 25 235 484 [] m0 <| fB 26 242 492 [] m0 <| fB 27 249 501 [] m0 <| fB 28 256 510 ["norm"] m0 <| fB 29 263 519 [] m0 <| fB 30 270 527 ["prevailing"] m0 <| fB 31 277 537 ["a","b"] m0 <| fB 32 284 548 [] m0 <| fB 33 291 556 [] m0 <| fB 37 298 570 ["x","y","width","height"] m1 <| r
noncomputable def ho3(P:Params)(r:List Obj):List Obj:=fL 38 305 582 m1 <| fB 40 310 589 ["x","y","width","height"] m1 <| fB 41 317 600 ["low","high","middle"] m1 <| fB 42 324 612 ["marks","x","place"] m1 <| fB 43 331 623 [] m1 <| fL 44 338 631 m1 <| fL 45 343 637 m1 <| fL 46 348 643 m1 <| fB 47 353 649 [] m1 <| fB 48 360 657 [] m1 <| fL 49 367 665 m1 <| fL 50 372 671 m1 <| fL 52 377 679 m2 <| fB 53 382 685 ["p","q","s","t","by_width","by_its_mate"] m2 <| fB 55 389 703 ["p","q","s","t","first","last","middle","most"] m3 <| fB 56 396 720 ["width","weights","kind"] m3 <| fL 58 403 735 m4 <| fB 59 408 741 ["whole","part","of_second","of_first"] m4 <| fB 60 415 755 [] m4 <| fB 61 422 763 ["way","own","floor","turn","last","both"] m4 <| r
noncomputable def ho4(P:Params)(r:List Obj):List Obj:=fB 62 429 778 [] m4 <| fB 64 436 788 [] m5 <| fB 70 443 806 ["waiting","counted","plan","depth","part"] m6 <| fB 71 450 819 ["word"] m6 <| fB 73 457 829 [] m6 <| fB 74 464 836 ["word"] m6 <| fL 75 471 844 m6 <| fB 76 476 850 ["total","shape"] m6 <| fB 78 483 861 ["shape"] m7 <| fB 79 490 871 ["skew"] m7 <| fB 80 497 879 ["short","rest","counts"] m7 <| fB 82 504 891 [] m8 <| fB 83 511 901 ["word","thing"] m8 <| fL 84 518 913 m8 <| fL 85 523 919 m8 <| fB 87 528 927 ["_law_cell","_law_great","_law_primes","_law_mixed"] m9 <| fB 88 535 939 ["_law_digit"] m9 <| fB 89 542 948 [] m9 <| fB 90 549 955 [] m9 <| fB 91 556 963 ["_law_common"] m9 <| r
noncomputable def ho5(P:Params)(r:List Obj):List Obj:=fL 92 563 973 m9 <| fB 93 568 979 [] m9 <| fB 94 575 987 [] m9 <| fB 95 582 994 [] m9 <| fB 96 589 1003 [] m9 <| fB 97 596 1011 ["_law_first","_law_second","_law_sides"] m9 <| fL 98 603 1022 m9 <| fB 99 608 1028 ["_law_wide","_law_a","_law_b","_law_c","_law_way"] m9 <| fB 100 615 1040 ["_law_x","_law_sign_here"] m9 <| fB 101 622 1050 ["_law_some"] m9 <| fL 102 629 1058 m9 <| fB 103 634 1064 ["_law_found","_law_turn","_law_way","_law_part","_law_kind"] m9 <| fB 104 641 1077 ["_law_x","_law_some"] m9 <| fB 105 648 1087 ["_law_at","_law_way"] m9 <| fB 106 655 1098 ["_law_wide"] m9 <| fL 107 662 1106 m9 <| fB 108 667 1112 ["_law_found"] m9 <| fB 109 674 1121 [] m9 <| fB 110 681 1131 ["_law_row","_law_at","_law_way"] m9 <| fL 111 688 1142 m9 <| r
noncomputable def ho6(P:Params)(r:List Obj):List Obj:=fB 112 693 1148 ["_law_told"] m9 <| fB 113 700 1159 ["_law_place","_law_kind","_law_u","_law_v","_law_mixed","_law_side","_law_wide","_law_high"] m9 <| fL 114 707 1176 m9 <| r
noncomputable def hT(P:Params):Heap:=⟨⟨ho0 P <| ho1 P <| ho2 P <| ho3 P <| ho4 P <| ho5 P <| ho6 P []⟩,(boot_heap P).life⟩
abbrev mz0:Str:="matefloors.numbers"
abbrev mz1:Str:="matefloors.layings"
abbrev mz2:Str:="matefloors.bars"
abbrev mz3:Str:="matefloors.mixtures"
abbrev mz4:Str:="matefloors.moving"
abbrev mz5:Str:="matefloors.squares"
abbrev mz6:Str:="matefloors.looker"
abbrev mz7:Str:="law_matefloors_k45_mixed_and_squares_looked"
def isNm:Stmt->Bool
 |.Assign [.Name x _] _ _=>x == "__name__"
 |_=>false
def V:Program:={R.row.prog with main:={R.row.prog.main with body:=R.row.prog.main.body.filter fun s=>!isNm s}}
def as:List Addr:=[3,192,191,199,198,206,205,213,212,220,219,227,226,234,233,241,240,248,247,255,254,262,261,269,268,276,275,290,289,297,296,352,351,366,365,402,401,407,406,414,413,421,420,428,427,435,434,442,441,489,488,496,495,503,502,510,509,517,516,522,521,527,526,534,533,541,540,548,547,555,554,562,561,567,566,574,573,581,580,588,587,595,594,602,601,607,606,614,613,621,620,628,627,633,632,640,639,647,646,654,653,661,660,666,665,673,672,680,679,687,686,692,691,699,698,706,705,711,710,184,185,24,23,37,36,49,48,61,60,73,72,85,84,97,96,109,108,121,120,133,132,145,144,157,156,169,168,181,180,4]
def tabs:List Addr:=[694,708]
noncomputable def K(P:Params):Frag:=as.map fun a=>(a,((hT P).get? a).getD default)
noncomputable def TF(P:Params):Frag:=tabs.map fun a=>(a,((hT P).get? a).getD default)
noncomputable def KF(P:Params):Frag:=K P++TF P
theorem kAs(P:Params):as++tabs=(KF P).map (·.1):=by
 unfold KF K TF
 rw[List.map_append,List.map_map,List.map_map]
 exact congr (congrArg HAppend.hAppend (List.map_id _).symm) (List.map_id _).symm
noncomputable def HK:Hook:=kHook KF (as++tabs) kAs
def posOf:Stmt->Pos
 |.FunctionDef _ _ _ _ _ _ _ _ _ p=>p
 |_=>⟨0,0,0,0⟩
def D:DefRec:=⟨"law",lU K45.rT,fw K45.rT,ax K45.rT,posOf K45.rT⟩
def Xt:Shared->Bool:=fun s=>xlAt V [] s&&recOk R.row.records s
theorem runC(P:Params):(sT P).map (fun s=>(s.heap,s.gens,s.drawn,s.toks))=some (hT P,#[],{},1182):=⟨⟩
theorem T3{A B C D:Type}{a a':A}{b b':B}{c c':C}{d d':D}(h:(a,b,c,d)=(a',b',c',d')):a=a'/\b=b'/\c=c'/\d=d':=by
 cases h;exact⟨rfl,rfl,rfl,rfl⟩
theorem run(w:World)(os:OsState):topRun treeTable R.row.prog w 11 (some (.ref 6)) 20000 {heap:=boot_heap w.params,gens:=#[],drawn:=boot_drawn,toks:=boot_toks,os:=os} (topStub R.row.prog)=some {heap:=hT w.params,gens:=#[],drawn:={},toks:=1182,os:=os}:=by
 have h:=runC w.params
 cases e:sT w.params with
 |none=>rw[e] at h;cases h
 |some s=>
  rw[e] at h
  obtain⟨heap,gens,drawn,toks,os0⟩:=s
  have h':some (heap,gens,drawn,toks)=some (hT w.params,(#[]:Array GenState),({}:Drawn),1182):=h
  obtain⟨rfl,rfl,rfl,rfl⟩:=T3 (Option.some.inj h')
  exact yG (w:=w) (os:=os) ((zE _ _ _).symm.trans e)
theorem Ta(w:World)(os:OsState):(staticsOk (importedModules R.row.prog.main.body) (boot_heap w.params) (hT w.params)&&namesBound R.row.prog (hT w.params)&&gensDone {heap:=hT w.params,gens:=#[],drawn:={},toks:=1182,os:=os}&&laidKept (boot_heap w.params) (hT w.params))=true:=⟨⟩
theorem RK(w:World)(os:OsState):seen (List.map (fun x=>x.name) (recsOf V)) (ownsOf V) [] {heap:=hT w.params,drawn:={},toks:=1182,os:=os} = expectedOf V:=⟨⟩
theorem Pz(w:World)(os:OsState):(hT w.params).bltView=bltViewBooted:=⟨⟩
theorem RJ(w:World)(os:OsState):((hT w.params).keysOk (looseW V LO) (List.map (fun x=>x.name) (recsOf V)) (List.map (fun x=>x.fst) (litsOf V)) (List.map (fun x=>x.name) (clssOf V (looseW V LO)))&&(hT w.params).accountedOkI (importedModules R.row.prog.main.body)&&(hT w.params).isNs mainGlobals&&(hT w.params).isNs builtinsNs&&tablesOk V (hT w.params)&&Xt {heap:=hT w.params,gens:=#[],drawn:={},toks:=1182,os:=os}&&(if true=true then (#[]:Array GenState).size==0 else !leftWithCleanup (#[]:Array GenState)))=true:=⟨⟩
theorem RC(w:World)(os:OsState):tabsOk V {heap:=hT w.params,gens:=#[],drawn:={},toks:=1182,os:=os} = true:=⟨⟩
theorem RH(w:World)(os:OsState):pinSeenD V (drecsOf V) {heap:=hT w.params,gens:=#[],drawn:={},toks:=1182,os:=os} = pinGoodD (drecsOf V):=⟨⟩
theorem Ri(w:World)(os:OsState):plainSeenE V (looseW V LO) {heap:=hT w.params,gens:=#[],drawn:={},toks:=1182,os:=os} = plainGoodE V (looseW V LO):=⟨⟩
theorem Rv(w:World)(os:OsState):plainSeenD V LO {heap:=hT w.params,gens:=#[],drawn:={},toks:=1182,os:=os} = plainGoodD V LO:=⟨⟩
theorem Rk(w:World)(os:OsState):wideSeen V {heap:=hT w.params,gens:=#[],drawn:={},toks:=1182,os:=os} = wideGood V:=⟨⟩
theorem Qp(w:World)(os:OsState):clsSeenW V LO {heap:=hT w.params,gens:=#[],drawn:={},toks:=1182,os:=os} = clsGoodW V LO:=⟨⟩
theorem R3{A B C D E F G H I:Type}{a a':A}{b b':B}{c c':C}{d d':D}{e e':E}{f f':F}{g g':G}{h h':H}{i i':I}(h0:a=a')(h1:b=b')(h2:c=c')(h3:d=d')(h4:e=e')(h5:f=f')(h6:g=g')(h7:h=h')(h8:i=i'):(a,b,c,d,e,f,g,h,i)=(a',b',c',d',e',f',g',h',i'):=by
 rw[h0,h1,h2,h3,h4,h5,h6,h7,h8]
theorem Tt(w:World)(os:OsState):openSeen V LO (importedModules R.row.prog.main.body) Xt true {heap:=hT w.params,gens:=#[],drawn:={},toks:=1182,os:=os} = openGood V LO:=R3 (RK w os) (Pz w os) (RJ w os) (RC w os) (RH w os) (Ri w os) (Rv w os) (Rk w os) (Qp w os)
theorem SH(w:World)(os:OsState):HK.obs {heap:=hT w.params,gens:=#[],drawn:={},toks:=1182,os:=os} = HK.val w:=⟨⟩
theorem seen(w:World):(fun os=>(staticsOk (importedModules R.row.prog.main.body) (boot_heap w.params) (hT w.params)&&namesBound R.row.prog (hT w.params)&&gensDone {heap:=hT w.params,gens:=#[],drawn:={},toks:=1182,os:=os}&&laidKept (boot_heap w.params) (hT w.params),
  openSeen V LO (importedModules R.row.prog.main.body) Xt true {heap:=hT w.params,gens:=#[],drawn:={},toks:=1182,os:=os},HK.obs {heap:=hT w.params,gens:=#[],drawn:={},toks:=1182,os:=os}))=fun _:OsState=>(true,openGood V LO,HK.val w):=
 funext fun os=>Prod.ext (Ta w os) (Prod.ext (Tt w os) (SH w os))
theorem lkb{a b:Bool}(x:a=true)(y:b=true):(a&&b)=true:=by rw[x,y];rfl
theorem wsA:(sreFenced R.row.prog.main&&((moduleNames R.row.prog.main.body).isEmpty || lookedIntoSs (moduleNames R.row.prog.main.body) R.row.prog.main.body))=true:=⟨⟩
theorem wsB:namesResolve R.row.prog=true:=⟨⟩
theorem wsC:R.row.prog.boundNames.all (fun n=>!worldNames.contains n)=true:=⟨⟩
theorem wsD:noRoadLSs {strict:=!(importedModules R.row.prog.main.body).all cThrough.contains,foot:=none,bare:=(["vars","dir","locals"]:List Str).filter (readsOut R.row.prog R.row.prog.main.body)} R.row.prog.main.body=true:=⟨⟩
theorem wsE:(namesMeet R.row.prog R.row.prog.main.body fun _ n=>attrL n)=true:=⟨⟩
theorem wsF:looksOpen R.row.prog=true:=lkb (lkb (lkb (lkb wsA wsB) wsC) wsD) wsE
theorem wsG:R.row.wellSaid=true:=by
 unfold OpenRow.wellSaid OpenRow.partSaid
 rw[wsF]
 kernel_rfl
theorem wsH:noClassBlock R.prog R.footing=true:=⟨⟩
theorem wsI:noRoadLSs {strict:=true,foot:=some R.bound',writes:=R.writes,may:=R.may} R.footing=true:=⟨⟩
theorem wsJ:R.namesIt=true:=⟨⟩
theorem wsK:R.bound'.all (fun n=>!builtinNamed n || R.about==[n] || !R.reads n)=true:=⟨⟩
theorem wsL:namesMeet R.prog R.footing (fun sc n=>(!(["type","isinstance","issubclass","getattr","hasattr"]:List Str).contains n || sc.names.lookup n==some .globalImplicit)&&(R.may != some n || sc.kind==.module || sc.names.lookup n==some .globalImplicit))=true:=⟨⟩
theorem wsM:namesMeet R.prog R.above (fun _ n=>!R.own.contains n)=true:=⟨⟩
theorem wsN:(namesMeet R.prog R.footing fun sc n=>sc.kind==.module || sc.names.lookup n != some .globalExplicit)=true:=⟨⟩
theorem ws:R.wellSaid=true:=by
 unfold OpenLaw.wellSaid
 rw[wsG,wsH,wsI,wsJ,wsK,wsL,wsM,wsN]
 kernel_rfl
theorem Pr(P:Params):FQ (K P) "is_whole" iR 192 191 415 mz0/\FQ (K P) "common_divisor" cY 199 198 415 mz0/\FQ (K P) "is_number" gH 206 205 415 mz0/\FQ (K P) "divisor_of_all" cZ 213 212 415 mz0/\FQ (K P) "number" ny 220 219 415 mz0/\FQ (K P) "mate" wq 227 226 415 mz0/\FQ (K P) "plus" wI 234 233 415 mz0/\FQ (K P) "less" xg 241 240 415 mz0/\FQ (K P) "times" qZ 248 247 415 mz0/\FQ (K P) "over" vE 255 254 415 mz0/\FQ (K P) "contrary" iP 262 261 415 mz0/\FQ (K P) "sign_of" kD 269 268 415 mz0/\FQ (K P) "sign_of_parts" dD 276 275 415 mz0/\FQ (K P) "is_above_nought" cF 290 289 415 mz0:=
 by (repeat' apply And.intro)<;>first|kernel_rfl|decide
theorem QZ(P:Params):FQ (K P) "must_be_above_nought" bN 297 296 415 mz0/\FQ (K P) "is_kinds" iT 352 351 564 mz1/\FQ (K P) "must_be_kinds" dy 366 365 564 mz1/\FQ (K P) "is_bar" nr 402 401 701 mz2/\FQ (K P) "mixture_of" fO 407 406 733 mz3/\FQ (K P) "shares_of" gN 414 413 733 mz3/\FQ (K P) "is_share" i7 421 420 733 mz3/\FQ (K P) "bar_for" kE 428 427 733 mz3/\FQ (K P) "skew" w8 435 434 733 mz3/\FQ (K P) "is_place" iN 442 441 786 mz4/\FQ (K P) "squares_of" fM 489 488 859 mz5/\FQ (K P) "bar_for_squares" cH 496 495 859 mz5/\FQ (K P) "counts_of" gR 503 502 859 mz5/\FQ (K P) "holds" rh 510 509 889 mz6:=
 by (repeat' apply And.intro)<;>first|kernel_rfl|decide
theorem RI(P:Params):FQ (K P) "is_laid_by" fI 517 516 889 mz6/\FQ (K P) "is_mixed_by" eJ 522 521 889 mz6/\FQ (K P) "is_counts" gG 527 526 889 mz6/\FQ (K P) "_law_bag" iS 534 533 925 mz7/\FQ (K P) "_law_take" gS 541 540 925 mz7/\FQ (K P) "_law_is_whole" dw 548 547 925 mz7/\FQ (K P) "_law_shared" eL 555 554 925 mz7/\FQ (K P) "_law_low" ja 562 561 925 mz7/\FQ (K P) "_law_is_number" de 567 566 925 mz7/\FQ (K P) "_law_plus" gP 574 573 925 mz7/\FQ (K P) "_law_minus" fF 581 580 925 mz7/\FQ (K P) "_law_times" fj 588 587 925 mz7/\FQ (K P) "_law_contrary" dA 595 594 925 mz7/\FQ (K P) "_law_sign" gX 602 601 925 mz7:=
 by (repeat' apply And.intro)<;>first|kernel_rfl|decide
theorem Qf(P:Params):FQ (K P) "_law_root" gI 607 606 925 mz7/\FQ (K P) "_law_number" eN 614 613 925 mz7/\FQ (K P) "_law_above" fm 621 620 925 mz7/\FQ (K P) "_law_odd" jc 628 627 925 mz7/\FQ (K P) "_law_refusal" dZ 633 632 925 mz7/\FQ (K P) "_law_kinds" fK 640 639 925 mz7/\FQ (K P) "_law_bad_above" da 647 646 925 mz7/\FQ (K P) "_law_bad_kinds" cW 654 653 925 mz7/\FQ (K P) "_law_fraction" dG 661 660 925 mz7/\FQ (K P) "_law_is_mixture" cE 666 665 925 mz7/\FQ (K P) "_law_counts" eK 673 672 925 mz7/\FQ (K P) "_law_is_claim" dF 680 679 925 mz7/\FQ (K P) "_law_bent_any" dz 687 686 925 mz7/\FQ (K P) "_law_holds" fG 692 691 925 mz7:=
 by (repeat' apply And.intro)<;>first|kernel_rfl|decide
theorem Q7(P:Params):FQ (K P) "_law_is_told" d8 699 698 925 mz7/\FQ (K P) "_law_pairs" fk 706 705 925 mz7/\FQ (K P) "law" rT 711 710 925 mz7/\nsIn (K P) mainGlobals "isinstance"=some none/\nsIn (K P) mainGlobals "int"=some none/\nsIn (K P) mainGlobals "bool"=some none/\nsIn (K P) mainGlobals "abs"=some none/\nsIn (K P) mainGlobals "tuple"=some none/\nsIn (K P) mainGlobals "len"=some none/\nsIn (K P) mainGlobals "all"=some none/\nsIn (K P) mainGlobals "min"=some none/\nsIn (K P) mainGlobals "max"=some none/\nsIn (K P) mainGlobals "list"=some none/\nsIn (K P) mainGlobals "range"=some none:=
 by (repeat' apply And.intro)<;>first|kernel_rfl|decide
theorem QX(P:Params):nsIn (K P) mainGlobals "ValueError"=some none/\nsIn (K P) mainGlobals "str"=some none/\nsIn (K P) mainGlobals "MOST_KINDS"=some (some (.int 3 568))/\(nsIn (K P) mainGlobals "NOUGHT"=some (some (.ref 184))/\(K P).lookup 184=some ⟨.type "tuple",none,.seq #[.int 0 417,.int 0 418,.int 1 419] 0,#[]⟩)/\(nsIn (K P) mainGlobals "ONE"=some (some (.ref 185))/\(K P).lookup 185=some ⟨.type "tuple",none,.seq #[.int 1 421,.int 0 422,.int 1 423] 0,#[]⟩)/\nsIn (K P) mainGlobals "FloorError"=some (some (.ref 24))/\nsIn (K P) mainGlobals "NoRoot"=some (some (.ref 37))/\nsIn (K P) mainGlobals "NoNumber"=some (some (.ref 49))/\nsIn (K P) mainGlobals "NoLaying"=some (some (.ref 61))/\nsIn (K P) mainGlobals "NoTile"=some (some (.ref 73))/\nsIn (K P) mainGlobals "NoFit"=some (some (.ref 85))/\nsIn (K P) mainGlobals "NoKinds"=some (some (.ref 97))/\nsIn (K P) mainGlobals "NoPlan"=some (some (.ref 109))/\nsIn (K P) mainGlobals "NoSpot"=some (some (.ref 121)):=
 by (repeat' apply And.intro)<;>first|kernel_rfl|decide
theorem Qr(P:Params):nsIn (K P) mainGlobals "NoNet"=some (some (.ref 133))/\nsIn (K P) mainGlobals "NoText"=some (some (.ref 145))/\nsIn (K P) mainGlobals "NoSaying"=some (some (.ref 157))/\nsIn (K P) mainGlobals "NoName"=some (some (.ref 169))/\nsIn (K P) mainGlobals "TooMany"=some (some (.ref 181))/\excIn (K P) (97) bmV "ValueError.__new__"=true/\exmOne (K P) (.ref 97) (.ref 24)=some true/\findIn (K P) (.ref 97) "__getattribute__"=some (some (.builtin "BaseException.__getattribute__"))/\findIn (K P) (.ref 97) "__getattr__"=some none/\findIn (K P) (.ref 97) "__class__"=some (some (.builtin "object.__class__"))/\mroIn (K P) 97 (.type "object")=some true/\mroIn (K P) 97 (.type "BaseException")=some true/\(clsIn (K P) 97).isSome=true/\kitOne (K P) (.ref 97) (.ref 37)=some false:=
 by (repeat' apply And.intro)<;>first|kernel_rfl|decide
theorem Rt(P:Params):kitOne (K P) (.ref 97) (.ref 49)=some false/\kitOne (K P) (.ref 97) (.ref 61)=some false/\kitOne (K P) (.ref 97) (.ref 73)=some false/\kitOne (K P) (.ref 97) (.ref 85)=some false/\kitOne (K P) (.ref 97) (.ref 97)=some true/\kitOne (K P) (.ref 97) (.ref 109)=some false/\kitOne (K P) (.ref 97) (.ref 121)=some false/\kitOne (K P) (.ref 97) (.ref 133)=some false/\kitOne (K P) (.ref 97) (.ref 145)=some false/\kitOne (K P) (.ref 97) (.ref 157)=some false/\kitOne (K P) (.ref 97) (.ref 169)=some false/\kitOne (K P) (.ref 97) (.ref 181)=some false/\kitOne (K P) (.ref 97) (.type "ValueError")=some true/\(nsIn (K P) mainGlobals "__builtins__"=some (some (.ref 4))/\(4:Addr)≠builtinsNs/\(K P).lookup 4=some ⟨.type "module",some builtinsNs,.plain,#[]⟩):=
 by (repeat' apply And.intro)<;>first|kernel_rfl|decide
theorem G1(P:Params):((K P).filterMap fun p=>bS p.2)=[(694,("_law_is_told":Str)),(708,("law":Str))]/\((K P).lookup 698).bind bS=some (694,("_law_is_told":Str))/\((K P).lookup 710).bind bS=some (708,("law":Str))/\(KF P).lookup 694=some (tabObj #[])/\(KF P).lookup 708=some (tabObj #[])/\(K P).lookup 694=none/\(K P).lookup 708=none:=⟨⟨⟩,⟨⟩,⟨⟩,⟨⟩,⟨⟩,⟨⟩,⟨⟩⟩
theorem Lb(P:Params):((K P).filterMap fun p=>bS p.2)=[(694,("_law_is_told":Str)),(708,("law":Str))]:=(G1 P).1
theorem uv(P:Params):((K P).lookup 698).bind bS=some (694,("_law_is_told":Str)):=(G1 P).2.1
theorem II{q2:Str}(h:((694:Addr),q2)∈([(694,("_law_is_told":Str)),(708,("law":Str))]:List (Addr×Str))):q2 = "_law_is_told":=by simpa using h
theorem Ei(P:Params):((K P).lookup 710).bind bS=some (708,("law":Str)):=(G1 P).2.2.1
theorem Mm{q2:Str}(h:((708:Addr),q2)∈([(694,("_law_is_told":Str)),(708,("law":Str))]:List (Addr×Str))):q2 = "law":=by simpa using h
theorem mL(P:Params):(KF P).lookup 694=some (tabObj #[])/\(K P).lookup 694=none:=⟨(G1 P).2.2.2.1,(G1 P).2.2.2.2.2.1⟩
theorem H0(P:Params):(KF P).lookup 708=some (tabObj #[])/\(K P).lookup 708=none:=⟨(G1 P).2.2.2.2.1,(G1 P).2.2.2.2.2.2⟩
theorem left:LeftO R.row.prog V LO Xt HK.obs HK.val 20000:=
 LeftO.of_pieces (H₀:=boot_heap) (H₁:=hT) (gs₀:=#[]) (gs₁:=#[]) (d₀:=boot_drawn) (d₁:={}) (k₀:=boot_toks) (k₁:=1182) (m₀:=11) (ann:=some (.ref 6)) (M:=20000)
  (boot_open ⟨⟩ ⟨⟩ (fun s=>⟨⟩)) (fun w=>⟨⟩) run ⟨⟩ seen
end K45.H
namespace L2
open PySem PySem.Spec PyProof.Rows
noncomputable def jy(A:Around)(h:Heap):Prop:=A.handled=none\/∃(e:Addr) (oe:Obj) (vs:Array Value),A.handled=some (.ref e)/\h.get? e=some oe/\oe.data = .fields vs/\vs[2]? = some .none
theorem Bg:entryFor table "proto.unchain"=some Builtin.«proto.unchain»:=entryFor_of_tree ⟨⟩
section
variable {prog:Program}{w:World}{A:Around}{E:Value->Shared->Prop}{s:Shared}
theorem Dy{x e:Addr}{oe:Obj}{vs:Array Value}{Q:Value->Shared->Prop}(he:s.heap.get? e=some oe)(hd:oe.data = .fields vs)(h2:vs[2]? = some .none)(h:Q .none s) :
  wpAny (model prog w) A (runValue (.builtin "proto.unchain" ⟨[.ref x,.ref e,.ref e,.bool false],[]⟩)) Q E s:=by
 refine wpAny_runValue (codeAny_builtin Bg ?_)
 unfold Builtin.«proto.unchain»
 dsimp only
 refine wpAny_bind (wpAny_field he hd h2 ?_)
 rw[if_pos (by rfl)]
 exact wpAny_pure h
theorem yM{α:Type}{a:Addr}{oa:Obj}{ws:Array Value}{Q:α->Shared->Prop}(q:jy A s.heap)(ha:s.heap.get? a=some oa)(hda:oa.data = .fields ws)(hz:2<ws.size)
  (hnew:∀e oe,A.handled=some (.ref e)->s.heap.get? e=some oe->e≠a)
  (h:∀h',Heap.ExtBut a s.heap h'->(∃o',h'.get? a=some o'/\o'.cls=oa.cls)->E (.ref a) {s with heap:=h'}):wpAny (model prog w) A (raiseNew (.ref a):Sem α) Q E s:=by
 unfold raiseNew
 refine wpAny_bind (wpAny_handled ?_)
 rcases q with q|⟨e,oe,vs,q,he,hd,h2⟩
 ·rw[q]
  exact wpAny_bind (wpAny_pure (wpAny_throw (h s.heap (fun b o _ z=>z) ⟨oa,ha,rfl⟩)))
 ·rw[q]
  have ne:e≠a:=hnew e oe q he
  dsimp only
  rw[if_pos (by simp[ne])]
  refine wpAny_bind (wpAny_holding (Dy he hd h2 ?_))
  refine wpAny_bind ?_
  refine wpAny_setField ha hda hz (wpAny_throw ?_)
  have hd':=Obj.data_mapFields hda (·.setIfInBounds 2 (Value.ref e))
  exact h _ (Heap.SameBut.update ..).extBut ⟨_,Heap.get?_update_self _ ha (Obj.isFreed_of_fields hd'),Obj.cls_mapFields ..⟩
theorem Ab{it:Addr}{α:Type}{h0:Heap}{Q:α->Shared->Prop}(q:jy A s.heap)(k:Heap.ExtBut it h0 s.heap)(kl:∀e oe,A.handled=some (.ref e)->s.heap.get? e=some oe->True)
  (h:∀h' a,Heap.ExtBut it h0 h'->(∃o',h'.get? a=some o'/\o'.cls = .type "StopIteration")->E (.ref a) {s with heap:=h'}):wpAny (model prog w) A (newExc (.type "StopIteration") []>>=fun e=>(raiseNew e:Sem α)) Q E s:=by
 refine wpAny_bind ?_;simp only[newExc,newTuple]
 refine wpAny_bind (wpAny_newObj_type ?_ (by size_fits));refine wpAny_bind (m:=firstArgMember _ _) (wpAny_of_eq (a:=Value.none) (by first|rfl|(simp only[firstArgMember];rfl)) ?_);refine wpAny_newObj_type ?_ (by size_fits)
 have q':∀o1 o2:Obj,jy A ((s.heap.push o1).push o2):=fun o1 o2=>by
  rcases q with q|⟨e,oe,vs,q,he,r⟩
  ·exact .inl q
  ·exact .inr ⟨e,oe,vs,q,Heap.get?_push_of_some _ (Heap.get?_push_of_some _ he),r⟩
 refine yM (q' _ _) (Heap.get?_push_size _ rfl) rfl (by rw[Array.size_append];exact lt_of_lt_of_le (by decide:2<6) (Nat.le_add_right _ _)) (fun e oe hq he z=>?_) fun h' hx ⟨o',ho',hc'⟩=>h h' _ (fun b o hb e=>hx b o ?_ (Heap.get?_push_of_some _ (Heap.get?_push_of_some _ (k b o hb e)))) ⟨o',ho',hc'⟩
 ·rcases q with q|⟨e1,oe1,vs,q,he1,r⟩
  ·rw[q] at hq;cases hq
  ·rw[q] at hq;cases hq
   exact absurd (Heap.lt_size he1) (by rw[z];simp)
 ·exact ne_of_lt (lt_of_lt_of_le (Heap.lt_size (k b o hb e)) (by simp))
theorem tY{it:Addr}{o:Obj}{ws:Array Value}{f:Array Value->Array Value}(q:jy A s.heap)(ho:s.heap.get? it=some o)(hd:o.data = .fields ws)(hn:∀e,A.handled=some (.ref e)->e≠it):jy A (s.heap.update it (Obj.mapFields f)):=by
 rcases q with q|⟨e,oe,vs,q,he,r⟩
 ·exact .inl q
 ·exact .inr ⟨e,oe,vs,q,by rw[Heap.get?_update_other _ _ (Ne.symm (hn e q))];exact he,r⟩
theorem Ba{it l:Addr}{i:Nat}{items}{Q:Option Value->Shared->Prop}(q:jy A s.heap)(hn:∀e,A.handled=some (.ref e)->e≠it)(hit:s.heap.IsListIter it l i)(hl:s.heap.IsList l items)(hx:items[i]? = none)
  (hQ:∀h',Heap.ExtBut it s.heap h'->Q none {s with heap:=h'}):wpAny (model prog w) A (pyNext (.ref it)) Q E s:=by
 obtain⟨o,ho,hc,hd⟩:=id hit
 obtain⟨ol,hol,_,nl,hdl⟩:=hl;unfold pyNext
 refine wpAny_bind (wpAny_attempt (wpAny_callSpecial?_slot (name:=Str.ofString "__next__") hit.typeIs slot_listiter_next (wpAny_call_entry slot_listiter_next hit.typeIs entry_listiter_next ?_ (args_listiter_next _))))
 show wpAny _ _ (field (.ref it) 0>>=_) _ _ s;refine wpAny_bind (wpAny_field ho hd (x:=.ref l) rfl ?_)
 show wpAny _ _ (if (Value.ref l==Value.none)=true then _ else _) _ _ s;rw[if_neg (show ¬ ((Value.ref l==Value.none)=true) from Bool.false_ne_true)]
 show wpAny _ _ (field (.ref it) 1>>=_) _ _ s;refine wpAny_bind (wpAny_field ho hd (x:=.int i 0) rfl ?_)
 show wpAny _ _ (seqItems? (.ref l)>>=_) _ _ s;refine wpAny_bind (wpAny_seqItems hol hdl ?_);simp only[toNat_natCast,hx]
 refine wpAny_bind (wpAny_rule (wpAny_bind (wpAny_setField ho hd (by simp) ?_)))
 refine Ab (it:=it) (h0:=s.heap) (A:=A.in1) (tY (A:=A.in1) q ho hd hn) (Heap.SameBut.update ..).extBut (fun _ _ _ _=>trivial) fun h' a hx' ⟨o',ho',hc'⟩=>?_
 refine wpAny_bind (wpAny_isInstance (T:="StopIteration") (b:=true) ⟨_,ho',hc'⟩ isSubtype_stop ?_);exact wpAny_pure (hQ _ hx')
theorem uc{it t:Addr}{i:Nat}{items}{Q:Option Value->Shared->Prop}(q:jy A s.heap)(hn:∀e,A.handled=some (.ref e)->e≠it)(hit:IsTupIter s.heap it t i)(ht:IsTup s.heap t items)(hx:items[i]? = none)
  (hQ:∀h',Heap.ExtBut it s.heap h'->Q none {s with heap:=h'}):wpAny (model prog w) A (pyNext (.ref it)) Q E s:=by
 obtain⟨o,ho,hc,hd⟩:=id hit
 obtain⟨ol,hol,_,nl,hdl⟩:=ht;unfold pyNext
 refine wpAny_bind (wpAny_attempt (wpAny_callSpecial?_slot (name:=Str.ofString "__next__") hit.typeIs slot_tupleiter_next (wpAny_call_entry slot_tupleiter_next hit.typeIs entry_tupleiter_next ?_ (args_tupleiter_next _))))
 show wpAny _ _ (field (.ref it) 0>>=_) _ _ s;refine wpAny_bind (wpAny_field ho hd (x:=.ref t) rfl ?_)
 show wpAny _ _ (if (Value.ref t==Value.none)=true then _ else _) _ _ s;rw[if_neg (show ¬ ((Value.ref t==Value.none)=true) from Bool.false_ne_true)]
 show wpAny _ _ (field (.ref it) 1>>=_) _ _ s;refine wpAny_bind (wpAny_field ho hd (x:=.int i 0) rfl ?_)
 show wpAny _ _ (seqItems? (.ref t)>>=_) _ _ s;refine wpAny_bind (wpAny_seqItems hol hdl ?_);simp only[toNat_natCast,hx]
 refine wpAny_bind (wpAny_rule (wpAny_bind (wpAny_setField ho hd (by simp) ?_)))
 refine Ab (it:=it) (h0:=s.heap) (A:=A.in1) (tY (A:=A.in1) q ho hd hn) (Heap.SameBut.update ..).extBut (fun _ _ _ _=>trivial) fun h' a hx' ⟨o',ho',hc'⟩=>?_
 refine wpAny_bind (wpAny_isInstance (T:="StopIteration") (b:=true) ⟨_,ho',hc'⟩ isSubtype_stop ?_);exact wpAny_pure (hQ _ hx')
theorem AS{env:Env}{elts:List Expr}{x1}{pos:Pos}{t:Addr}{items:Array Value}{Q:Unit->Shared->Prop}(q:jy A s.heap)(ht:IsTup s.heap t items)(hn:(assignEach elts env).length=items.size)
  (hstar:(assignEach elts env).findIdx? (·.1)=none) (h:∀h',Heap.ExtBut s.heap.objs.size s.heap h'->wpAny (model prog w) A (assignInOrder ((assignEach elts env).map (·.2)) items.toList) Q E {s with heap:=h'}) :
  wpAny (model prog w) A (assign (.Tuple elts x1 pos) env (.ref t)) Q E s:=by
 rw[assign_Tuple]
 refine wpAny_bind (wpAny_standAt ?_)
 unfold unpack;rw[hn,hstar]
 refine wpAny_bind (wpAny_holding ?_)
 have hlt:t≠s.heap.objs.size:=by obtain⟨o,ho,_⟩:=ht;exact ne_of_lt (Heap.lt_size ho)
 unfold unpackItems;refine wpAny_bind ?_
 unfold notIterableAtAll;refine wpAny_bind (wpAny_specialOf ht.typeIs slot_tuple_iter.lookup ?_);refine wpAny_pure ?_;simp only[false_eq_true,if_false]
 refine wpAny_bind (wpAny_holding (iter_tuple ht ?_))
 refine wpAny_bind (wpAny_holding (draw_tuple hlt items.size 0 _ _ ⟨_,Heap.get?_push_size _ rfl,rfl,rfl⟩ (ht.push _) ∅ fun gV wf re=>?_))
 rw[show List.take items.size (List.drop 0 items.toList)=items.toList from by rw[List.drop_zero];exact List.take_of_length_le (by simp),if_neg (by simp)]
 have fr:∀e,A.handled=some (.ref e)->e≠s.heap.objs.size:=fun e hq=>by
  rcases q with q|⟨e1,oe1,vs,q,he1,r⟩
  ·rw[q] at hq;cases hq
  ·rw[q] at hq;cases hq;exact ne_of_lt (Heap.lt_size he1)
 have q1:jy A gV:=by
  rcases q with q|⟨e,oe,vs,q,he,r⟩
  ·exact .inl q
  ·exact .inr ⟨e,oe,vs,q,re.extBut e oe (fr e q) (Heap.get?_push_of_some _ he),r⟩
 refine wpAny_bind (wpAny_holding (uc q1 fr wf ((ht.push _).extBut re.extBut hlt) (by simp) fun sK wr=>?_));simp only[Option.isSome_none,false_eq_true,if_false]
 exact wpAny_pure (h sK fun b o hb e=>wr b o hb (re.extBut b o hb (Heap.get?_push_of_some _ e)))
end
end L2
namespace L2
open PySem PySem.Spec PyProof.Rows
abbrev Key:=Sum Int Str
def O5:Key->Value->Bool
 |.inl k,v=>Value.isInt k v
 |.inr x,v=>Value.isStrOf x v
def TU(w:World):Key->Int
 |.inl k=>hashInt k
 |.inr x=>hashStr w x
theorem dP:∀{k:Key} {v:Value},O5 k v=true->(∃i t,k=Sum.inl i/\v=Value.int i t)\/(∃x t,k=Sum.inr x/\v=Value.str x t)
 |.inl i,v,h=>by
  obtain⟨t,e⟩:=Value.isInt_shape (k:=i) (v:=v) h
  exact .inl ⟨i,t,rfl,e⟩
 |.inr x,v,h=>by
  obtain⟨t,e⟩:=Value.isStrOf_shape (x:=x) (v:=v) h
  exact .inr ⟨x,t,rfl,e⟩
theorem Qv(a b:Int):decide ((Sum.inl a:Key)=Sum.inl b)=(a==b):=by
 by_cases e:a=b
 ·subst e;simp
 ·have h:¬ (Sum.inl a:Key)=Sum.inl b:=fun q=>e (Sum.inl.inj q)
  rw[decide_eq_false h]
  exact (beq_eq_false_iff_ne.mpr e).symm
theorem PU(a b:Str):decide ((Sum.inr a:Key)=Sum.inr b)=decide (a=b):=by
 by_cases e:a=b
 ·subst e;simp
 ·have h:¬ (Sum.inr a:Key)=Sum.inr b:=fun q=>e (Sum.inr.inj q)
  rw[decide_eq_false h,decide_eq_false e]
theorem RW(a:Int)(b:Str):decide ((Sum.inl a:Key)=Sum.inr b)=false:=decide_eq_false (fun q=>nomatch q)
theorem Ql(a:Str)(b:Int):decide ((Sum.inr a:Key)=Sum.inl b)=false:=decide_eq_false (fun q=>nomatch q)
def Ja(prog:Program)(w:World):PySem.KeyKind prog w Key where
 is:=O5
 hash:=TU w
 inj:=fun v a b ha hb=>by
  rcases dP ha with ⟨i,t,rfl,rfl⟩|⟨x,t,rfl,rfl⟩
  ·rcases dP hb with ⟨j,u,rfl,e⟩|⟨y,u,rfl,e⟩
   ·injection e with e1 _;rw[e1]
   ·exact nomatch e
  ·rcases dP hb with ⟨j,u,rfl,e⟩|⟨y,u,rfl,e⟩
   ·exact nomatch e
   ·injection e with e1 _;rw[e1]
 byValue:=fun k v h=>by
  rcases dP h with ⟨i,t,rfl,rfl⟩|⟨x,t,rfl,rfl⟩<;>rfl
 pyHash:=fun hv h=>by
  rcases dP hv with ⟨i,t,rfl,rfl⟩|⟨x,t,rfl,rfl⟩
  ·exact wpAny_pyHash_int h
  ·exact wpAny_pyHash_str h
 eqBool:=fun hu hv h=>by
  rcases dP hu with ⟨i,t,rfl,rfl⟩|⟨x,t,rfl,rfl⟩
  ·rcases dP hv with ⟨j,u,rfl,rfl⟩|⟨y,u,rfl,rfl⟩
   ·rw[Qv] at h;exact wpAny_eqBool_int h
   ·rw[RW] at h;exact SeqAt.EqAt.int_str i t y u _ _ _ _ h
  ·rcases dP hv with ⟨j,u,rfl,rfl⟩|⟨y,u,rfl,rfl⟩
   ·rw[Ql] at h;exact SeqAt.EqAt.str_int x t j u _ _ _ _ h
   ·rw[PU] at h;exact wpAny_eqBool_str h
 «strs»:=fun k x t v h=>by
  rcases dP h with ⟨i,u,rfl,e⟩|⟨y,u,rfl,e⟩
  ·exact nomatch e
  ·injection e with e1 _
   subst e1
   cases v<;>rfl
end L2
namespace L2
open PySem PySem.Spec PyProof.Rows
inductive V where
 |non|bl (b:Bool)|int (i:Int)|str (x:Str)|byt (b:Array UInt8)|flt (b:UInt64)|ref (a:Addr)|ty (n:String)
 deriving DecidableEq
def RelV:V->Value->Prop
 |.non,u=>u=Value.none
 |.bl b,u=>u=Value.bool b
 |.int i,u=>∃t,u=Value.int i t
 |.str x,u=>∃t,u=Value.str x t
 |.byt b,u=>∃t,u=Value.bytes b t
 |.flt b,u=>∃t,u=Value.float b t
 |.ref a,u=>u=Value.ref a
 |.ty n,u=>u=Value.type n
abbrev Vals:List V->List Value->Prop:=Paired RelV
theorem Vals.length{xs:List V}{us:List Value}(r:Vals xs us):xs.length=us.length:=Paired.length r
theorem Vals.get:∀{xs:List V} {us:List Value} {i:Nat} {x:V},Vals xs us->xs[i]? = some x->∃u,us[i]? = some u/\RelV x u
 |_,_,_,_,.nil,e=>by simp at e
 |_,_,0,_,.cons r _,e=>by simp at e;subst e;exact⟨_,rfl,r⟩
 |_,_,i+1,x,.cons _ t,e=>by
  obtain⟨u,h1,h2⟩:=Vals.get (i:=i) (x:=x) t (by simpa using e)
  exact⟨u,by simpa using h1,h2⟩
theorem Vals.set{x:V}{u:Value}(r:RelV x u):∀{xs:List V} {us:List Value} (i:Nat),Vals xs us->Vals (xs.set i x) (us.set i u)
 |_,_,_,.nil=>.nil
 |_,_,0,.cons _ t=>.cons r t
 |_,_,i+1,.cons q t=>.cons q (Vals.set r i t)
theorem Vals.append:∀{xs ys:List V} {us ws:List Value},Vals xs us->Vals ys ws->Vals (xs++ys) (us++ws)
 |_,_,_,_,.nil,s=>s
 |_,_,_,_,.cons r t,s=>.cons r (Vals.append t s)
theorem Vals.take:∀{xs:List V} {us:List Value} (n:Nat),Vals xs us->Vals (xs.take n) (us.take n)
 |_,_,0,_=>.nil
 |_,_,_+1,.nil=>.nil
 |_,_,n+1,.cons r t=>.cons r (Vals.take n t)
theorem Vals.drop:∀{xs:List V} {us:List Value} (n:Nat),Vals xs us->Vals (xs.drop n) (us.drop n)
 |_,_,0,r=>r
 |_,_,_+1,.nil=>.nil
 |_,_,n+1,.cons _ t=>Vals.drop n t
def SM:Option V->Option Value->Prop
 |some v,some u=>RelV v u
 |none,none=>True
 |_,_=>False
def KV{κ:Type}:List (κ×V)->List (κ×Value)->Prop:=Paired fun (p:κ×V) (q:κ×Value)=>p.1=q.1/\RelV p.2 q.2
def kV:Key->V
 |.inl i=>.int i
 |.inr x=>.str x
inductive HO where
  /-- a list -/
 |lst (xs:List V)
  /-- a tuple (never changes) -/
 |tup (xs:List V)
  /-- a dict whose keys are ints and texts; one whose keys are tuples of ints and texts (the empty one is both) -/
 |dK (kvs:List (Key×V))|dT (kvs:List (List Key×V))
  /-- a set of ints: its members, its size -/
 |set (S:Int->Bool) (n:Nat)
  /-- an instance of the class at C, its dict at dx, its attributes -/
 |ins (C dx:Addr) (fs:List (Str×V))
  /-- the dict of the instance at x -/
 |own (x:Addr)
  /-- the dict of an exception -/
 |xd (fs:List (Str×V))
  /-- a bound method, f of x -/
 |met (f x:Addr)
  /-- a range object lo, lo + 1, .. below hi -/
 |rng (lo hi:Int)
  /-- a thing that is known to the object (the script; a dict while a loop walks it): read, never written while it is so -/
 |frz (o:Obj) (u:HO)
  /-- a code object's table -/
 |tbl (ps:Array Value)
  /-- any other thing, by what is true of its one object (a def of one's own: SetO a S n := HO.ext fun h => ..) -/
 |ext (φ:Heap->Prop)
abbrev Hp:=Addr->Option HO
def upd(H:Hp)(a:Addr)(o:HO):Hp:=fun b=>if b=a then some o else H b
theorem eE{H:Hp}{a:Addr}{o:HO}:upd H a o a=some o:=by unfold upd;rw[if_pos rfl]
theorem bK{H:Hp}{a b:Addr}{o:HO}(h:b≠a):upd H a o b=H b:=by unfold upd;rw[if_neg h]
theorem aW{H:Hp}{a b:Addr}{o:HO}(h:H a=some o)(h':H b=none):a≠b:=by
 intro e;subst e;rw[h] at h';cases h'
section
variable (P:Program)(w:World)
def lh(H:Hp)(h:Heap)(a:Addr):HO->Prop
 |.lst xs=>xs.length<=sizeLine/\∃(its:List Value) (n:Nat),Vals xs its/\h.get? a=some {cls:=.type "list",data:=.seq its.toArray n}
 |.tup xs=>xs.length<=sizeLine/\∃its:List Value,Vals xs its/\IsTup h a its.toArray
 |.dK kvs=>kvs.length<=sizeLine/\(a==sysModules)=false/\∃vs,KV kvs vs/\h.DictOf (Ja P w) a vs
 |.dT kvs=>kvs.length<=sizeLine/\(a==sysModules)=false/\∃xs:List (List Key×Addr×Value),
   Paired (fun (p:List Key×V) (q:List Key×Addr×Value)=>p.1=q.1/\H q.2.1=some (.tup (p.1.map kV))/\RelV p.2 q.2.2) kvs xs /\
   ∃o es ep,h.get? a=some o/\o.ExactDict/\o.data = .dict es ep/\es.toList=xs.map (entryOfKey (tupleKind (Ja P w)))/\(xs.map (·.1)).Nodup
 |.set S n=>h.SetOf (intKind P w) a S n
 |.ins C dx fs=>H dx=some (.own a)/\fs.length<=1000/\dx≠a/\h.get? a=some (PySem.W.instObj C dx) /\
   ∃mA,h.Ns1 dx mA/\(∀f,SM (fs.lookup f) (mA f))/\PySem.Within mA (fs.map (·.1))
 |.own _=>∃o,h.get? a=some o
 |.xd fs=>∃mA,h.Ns1 a mA/\∀f,SM (fs.lookup f) (mA f)
 |.rng lo hi=>∃t u v,h.get? a=some {cls:=.type "range",data:=.fields #[.int lo t,.int hi u,.int 1 v]}
 |.frz o u=>h.get? a=some o/\lh H h a u
 |.tbl ps=>h.get? a=some {cls:=.none,data:=.fields ps}
 |.met f x=>h.get? a=some (PySem.W.methodObj (.ref f) (.ref x))
 |.ext φ=>φ h/\(∃o,h.get? a=some o)/\∀h1 h2:Heap,φ h1->(∀o,h1.get? a=some o->h2.get? a=some o)->φ h2
noncomputable def HOk(H:Hp)(h:Heap):Prop:=∀a o,H a=some o->lh P w H h a o
end
section
variable {P:Program}{w:World}{H H':Hp}{h h':Heap}{a:Addr}{o:HO}
theorem lh.lt(x:lh P w H h a o):a<h.objs.size:=by
 cases o with
 |lst xs=>obtain⟨_,_,_,_,e⟩:=x;exact Heap.lt_size e
 |tup xs=>obtain⟨_,_,_,p⟩:=x;exact p.lt
 |dK kvs=>obtain⟨_,_,_,_,o,_,_,e,_⟩:=x;exact Heap.lt_size e
 |dT kvs=>obtain⟨_,_,_,_,o,_,_,e,_⟩:=x;exact Heap.lt_size e
 |set S n=>obtain⟨o,_,_,_,e,_⟩:=x;exact Heap.lt_size e
 |ins C dx fs=>obtain⟨_,_,_,e,_⟩:=x;exact Heap.lt_size e
 |own y=>obtain⟨_,e⟩:=x;exact Heap.lt_size e
 |xd fs=>obtain⟨_,⟨_,_,_,e,_⟩,_⟩:=x;exact Heap.lt_size e
 |rng lo hi=>obtain⟨_,_,_,e⟩:=x;exact Heap.lt_size e
 |frz ob u=>obtain⟨e,_⟩:=x;exact Heap.lt_size e
 |tbl ps=>exact Heap.lt_size (show h.get? a=some _ from x)
 |met f y=>exact Heap.lt_size (show h.get? a=some _ from x)
 |ext φ=>obtain⟨_,⟨_,e⟩,_⟩:=x;exact Heap.lt_size e
theorem Paired.Si{α β:Type}{F G:α->β->Prop}:∀{ul:List α} {wl:List β},Paired F ul wl->(∀a b,F a b->G a b)->Paired G ul wl
 |_,_,.nil,_=>.nil
 |_,_,.cons r t,f=>.cons (f _ _ r) (Paired.Si t f)
theorem lh.Ah(x:lh P w H h a o)(k:∀b u,(b=a\/H b=some (.own a))->h.get? b=some u->h'.get? b=some u)
  (ho:∀b,H b=some (.own a)->H' b=some (.own a)) (ht:∀b xs,H b=some (.tup xs)->H' b=some (.tup xs)):lh P w H' h' a o:=by
 induction o with
 |lst xs=>obtain⟨z,its,n,r,e⟩:=x;exact⟨z,its,n,r,k _ _ (.inl rfl) e⟩
 |tup xs=>obtain⟨z,its,r,ob,e,c⟩:=x;exact⟨z,its,r,ob,k _ _ (.inl rfl) e,c⟩
 |dK kvs=>obtain⟨z,y,vs,r,ob,es,ep,e,c⟩:=x;exact⟨z,y,vs,r,ob,es,ep,k _ _ (.inl rfl) e,c⟩
 |dT kvs=>
  obtain⟨z,y,xs,r,ob,es,ep,e,c⟩:=x
  exact⟨z,y,xs,Paired.Si r fun p q z=>⟨z.1,ht _ _ z.2.1,z.2.2⟩,ob,es,ep,k _ _ (.inl rfl) e,c⟩
 |set S n=>obtain⟨ob,es,ep,t,e,c⟩:=x;exact⟨ob,es,ep,t,k _ _ (.inl rfl) e,c⟩
 |ins C dx fs=>
  obtain⟨d,z,ne,e,mA,⟨od,es,ep,e2,c⟩,r⟩:=x
  exact⟨ho _ d,z,ne,k _ _ (.inl rfl) e,mA,⟨od,es,ep,k _ _ (.inr d) e2,c⟩,r⟩
 |own y=>obtain⟨ob,e⟩:=x;exact⟨ob,k _ _ (.inl rfl) e⟩
 |xd fs=>obtain⟨mA,⟨od,es,ep,e,c⟩,r⟩:=x;exact⟨mA,⟨od,es,ep,k _ _ (.inl rfl) e,c⟩,r⟩
 |rng lo hi=>obtain⟨t,u,v,e⟩:=x;exact⟨t,u,v,k _ _ (.inl rfl) e⟩
 |frz ob u ih=>obtain⟨e,q⟩:=x;exact⟨k _ _ (.inl rfl) e,ih q⟩
 |tbl ps=>
  have e:h.get? a=some {cls:=.none,data:=.fields ps}:=x
  show h'.get? a=some {cls:=.none,data:=.fields ps}
  exact k a _ (.inl rfl) e
 |met f y=>
  have e:h.get? a=some (PySem.W.methodObj (.ref f) (.ref y)):=x
  show h'.get? a=some (PySem.W.methodObj (.ref f) (.ref y))
  exact k a _ (.inl rfl) e
 |ext φ=>obtain⟨p,⟨o,e⟩,st⟩:=x;exact⟨st _ _ p fun o q=>k _ _ (.inl rfl) q,⟨o,k _ _ (.inl rfl) e⟩,st⟩
theorem HOk.lt(x:HOk P w H h)(e:H a=some o):a<h.objs.size:=(x a o e).lt
theorem HOk.fresh(x:HOk P w H h)(e:h.objs.size<=a):H a=none:=by
 cases q:H a with
 |none=>rfl
 |some u=>exact absurd (lt_of_lt_of_le (x.lt q) e) (lt_irrefl _)
theorem HOk.kept(x:HOk P w H h)(k:∀b u,h.get? b=some u->h'.get? b=some u):HOk P w H h':=fun a o e=>
 (x a o e).Ah (fun b u _ q=>k b u q) (fun _ q=>q) fun _ _ q=>q
theorem HOk.laid(x:HOk P w H h)(k:∀b u,h.get? b=some u->h'.get? b=some u)(hp:h.objs.size<=a)(new:lh P w (upd H a o) h' a o):HOk P w (upd H a o) h':=fun b u e=>by
 have hn:=x.fresh hp
 by_cases hb:b=a
 ·subst hb;rw[eE] at e;cases e;exact new
 ·rw[bK hb] at e
  exact (x b u e).Ah (fun c v _ q=>k c v q) (fun c q=>by rw[bK (aW q hn)];exact q) fun c xs q=>by rw[bK (aW q hn)];exact q
end
noncomputable def Rd(H:Hp)(a:Addr)(u:HO):Prop:=H a=some u\/∃o,H a=some (.frz o u)
theorem Rd.ok{P:Program}{w:World}{H:Hp}{h:Heap}{a:Addr}{u:HO}(r:Rd H a u)(x:HOk P w H h):lh P w H h a u:=by
 rcases r with r|⟨o,r⟩
 ·exact x a u r
 ·obtain⟨_,q⟩:=x a _ r
  exact q
def Mut:Option HO->Prop
 |some (.lst _)=>True
 |some (.dK _)=>True
 |some (.dT _)=>True
 |some (.set _ _)=>True
 |some (.ins _ _ _)=>True
 |some (.ext _)=>True
 |_=>False
section
variable {P:Program}{w:World}{H:Hp}{h h':Heap}{x e:Addr}{o':HO}
theorem HOk.write(ok:HOk P w H h)(mu:Mut (H x))(he:e=x\/H e=some (.own x))(k:∀b u,b≠e->h.get? b=some u->h'.get? b=some u)(heo:∃u,h'.get? e=some u)
  (new:lh P w (upd H x o') h' x o'):HOk P w (upd H x o') h':=fun b u q=>by
 have nown:∀c y,H c=some (.own y)->c≠x:=fun c y r z=>by subst z;rw[r] at mu;exact mu
 have ntup:∀c xs,H c=some (.tup xs)->c≠x:=fun c xs r z=>by subst z;rw[r] at mu;exact mu
 by_cases hb:b=x
 ·subst hb;rw[eE] at q;cases q;exact new
 ·rw[bK hb] at q
  by_cases hbe:b=e
  ·have q':H b=some (.own x):=by
    rcases he with z|z
    ·exact absurd (hbe.trans z) hb
    ·rw[hbe];exact z
   rw[q] at q';cases q'
   obtain⟨v,hv⟩:=heo
   exact⟨v,by rw[hbe];exact hv⟩
  ·refine (ok b u q).Ah (fun c v hc r=>k c v ?_ r) (fun c r=>by rw[bK (nown c b r)];exact r) fun c xs r=>by rw[bK (ntup c xs r)];exact r
   rcases hc with rfl|hc
   ·exact hbe
   ·rintro rfl
    rcases he with z|z
    ·exact nown c b hc z
    ·rw[hc] at z;cases z;exact hb rfl
end
structure Un(fs ex:List Addr)(H H':Hp)(h h':Heap):Prop where
 keep:∀b o,h.get? b=some o->H b=none->b ∉ fs->b ∉ ex->h'.get? b=some o
 slot:∀b o,h.get? b=some o->H b=none->b∈fs->b ∉ ex->∃sl,h'.get? b=some {o with slots:=sl}
 free:∀b o,h.get? b=some o->H b=none->b ∉ ex->H' b=none
 there:∀b o,h.get? b=some o->b ∉ ex->∃o',h'.get? b=some o'
 sF:∀b xs,H b=some (.tup xs)->H' b=some (.tup xs)
 rD:∀b o u,H b=some (.frz o u)->H' b=some (.frz o u)
 rC:∀b ps,H b=some (.tbl ps)->∃more,H' b=some (.tbl (ps++more))
section
variable {fs fs' ex ex':List Addr}{H H1 H2:Hp}{h h1 h2 h':Heap}{a x e:Addr}{o:HO}
theorem Un.any(u:Un fs ex H H1 h h1){b:Addr}{ob:Obj}(q:h.get? b=some ob)(n:H b=none)(hx:b ∉ ex):∃sl,h1.get? b=some {ob with slots:=sl}:=by
 by_cases hb:b∈fs
 ·exact u.slot b ob q n hb hx
 ·exact⟨ob.slots,u.keep b ob q n hb hx⟩
theorem Un.trans(a:Un fs ex H H1 h h1)(b:Un fs ex H1 H2 h1 h2):Un fs ex H H2 h h2 where
 keep:=fun c ob q n hc hx=>b.keep c ob (a.keep c ob q n hc hx) (a.free c ob q n hx) hc hx
 slot:=fun c ob q n hc hx=>by
  obtain⟨sl,e1⟩:=a.slot c ob q n hc hx
  obtain⟨sl',e2⟩:=b.slot c _ e1 (a.free c ob q n hx) hc hx
  exact⟨sl',e2⟩
 free:=fun c ob q n hx=>by
  obtain⟨o',e1⟩:=a.there c ob q hx
  exact b.free c o' e1 (a.free c ob q n hx) hx
 there:=fun c ob q hx=>by
  obtain⟨o',e1⟩:=a.there c ob q hx
  exact b.there c o' e1 hx
 sF:=fun c xs q=>b.sF c xs (a.sF c xs q)
 rD:=fun c ob xs q=>b.rD c ob xs (a.rD c ob xs q)
 rC:=fun c ps q=>by
  obtain⟨m1,e1⟩:=a.rC c ps q
  obtain⟨m2,e2⟩:=b.rC c _ e1
  exact⟨m1++m2,by rw[e2,Array.append_assoc]⟩
theorem Un.kept(k:∀b u,h.get? b=some u->h'.get? b=some u):Un fs ex H H h h':=
 ⟨fun b ob q _ _ _=>k b ob q,fun b ob q _ _ _=>⟨ob.slots,k b ob q⟩,fun _ _ _ n _=>n,fun b ob q _=>⟨ob,k b ob q⟩,fun _ _ q=>q,fun _ _ _ q=>q,fun _ ps q=>⟨#[],by rw[q];simp⟩⟩
theorem Un.refl:Un fs ex H H h h:=Un.kept fun _ _ q=>q
theorem Un.laid(k:∀b u,h.get? b=some u->h'.get? b=some u)(hp:h.objs.size<=a)(hn:H a=none):Un fs ex H (upd H a o) h h' where
 keep:=fun b u q _ _ _=>k b u q
 slot:=fun b u q _ _ _=>⟨u.slots,k b u q⟩
 free:=fun b u q n _=>by rw[bK (ne_of_lt (lt_of_lt_of_le (Heap.lt_size q) hp))];exact n
 there:=fun b u q _=>⟨u,k b u q⟩
 sF:=fun b xs q=>by rw[bK (aW q hn)];exact q
 rD:=fun b u xs q=>by rw[bK (aW q hn)];exact q
 rC:=fun b ps q=>⟨#[],by rw[bK (aW q hn),q];simp⟩
theorem Un.write(mu:Mut (H x))(he:e=x\/H e=some (.own x))(k:∀b u,b≠e->h.get? b=some u->h'.get? b=some u)(heo:∃u,h'.get? e=some u):Un fs ex H (upd H x o) h h':=by
 have hx:∀b,H b=none->b≠x:=fun b n z=>by subst z;rw[n] at mu;exact mu
 have hb:∀b,H b=none->b≠e:=fun b n z=>by
  subst z
  rcases he with r|r
  ·exact hx b n r
  ·rw[n] at r;cases r
 have hm:∀b u,H b=some u->¬ Mut (some u)->b≠x:=fun b u q nm z=>by subst z;rw[q] at mu;exact nm mu
 refine⟨fun b u q n _ _=>k b u (hb b n) q,fun b u q n _ _=>⟨u.slots,k b u (hb b n) q⟩,fun b u q n _=>by rw[bK (hx b n)];exact n,fun b u q _=>?_,
  fun b xs q=>by rw[bK (hm b _ q fun z=>z)];exact q,fun b u xs q=>by rw[bK (hm b _ q fun z=>z)];exact q,fun b ps q=>⟨#[],by rw[bK (hm b _ q fun z=>z),q];simp⟩⟩
 by_cases hbe:b=e
 ·subst hbe;exact heo
 ·exact⟨u,k b u hbe q⟩
end
def trk(h:Heap)(H:Hp):List Addr:=(List.range h.objs.size).filter fun a=>(H a).isSome
def D3(h:Heap)(H:Hp):Heap:=PySem.W.hideAll h (trk h H)
theorem JU(h:Heap)(H:Hp):(D3 h H).objs.size=h.objs.size:=PySem.W.hideAll_size _ _
theorem Lr{h:Heap}{H:Hp}{b:Addr}{o:Obj}(e:h.get? b=some o)(n:H b=none):(D3 h H).get? b=some o:=
 PySem.W.hideAll_get _ e fun hm=>by
  have q:(H b).isSome=true:=(List.mem_filter.mp hm).2
  rw[n] at q;simp at q
theorem NF{h:Heap}{H:Hp}{b:Addr}{o:Obj}(e:(D3 h H).get? b=some o):h.get? b=some o/\H b=none:=by
 have e':h.get? b=some o:=PySem.W.of_hideAll (trk h H) e
 refine⟨e',?_⟩
 cases q:H b with
 |none=>rfl
 |some x=>
  have hm:b∈trk h H:=List.mem_filter.mpr ⟨List.mem_range.mpr (Heap.lt_size e'),by simp[q]⟩
  have z:(D3 h H).get? b=none:=PySem.W.hideAll_none (trk h H) hm
  rw[z] at e;cases e
def NH(g h:Heap)(L:Addr):List (Addr×Obj):=(List.range h.objs.size).filterMap fun a=>if a=L\/(g.get? a).isSome=true then none else (h.get? a).map fun o=>(a,o)
def rest(g h:Heap)(L d:Addr):List (Addr×Obj):=(NH g h L).filter fun p=>decide (p.1≠d)
end L2
namespace L2
open PySem PySem.Spec PyProof.Rows
structure Mod(K:PySem.W.Frag)(mg:Str->Option Value)(base:Heap):Prop where
 kin:K.In base
 glob:base.Ns mainGlobals mg
 blt:∃mb,base.Ns builtinsNs mb/\∀x:Str,x ≠ "__name__"->mb x=bootBuiltins x
 nolimit:base.NoLimit
structure Cx where
 prog:Program
 w:World
 K:PySem.W.Frag
 mg:Str->Option Value
 base:Heap
 A:Around
 N:List Str
 dl:Shared
 H₀:Hp
 env:Env
 outer:List Env
 stack:List Env
 ex:List Addr
 fn:Str->Bool
 calm:Bool
 pn:List (Addr×Obj)
 xe:Value->Shared->Prop
def frs(l:List Env):List Addr:=l.filterMap (·.frame)
abbrev Cx.fs(X:Cx):List Addr:=frs X.outer
noncomputable def Vis(sc:Scope)(x:Str):Prop:=sc.names.lookup x=some .local\/sc.names.lookup x=some .cell\/sc.names.lookup x=some .free
noncomputable def Loc(sc:Scope)(x:Str):Prop:=sc.names.lookup x=some .local\/sc.names.lookup x=some .cell
noncomputable def Look(env:Env)(h:Heap)(m:Str->Option Value)(x:Str)(u:Value):Prop:=
 (env.kindOf x=some .local/\m x=some u)\/((env.kindOf x=some .cell\/env.kindOf x=some .free)/\∃c,env.cells.lookup x=some c/\h.IsCell c (some u))
structure Cx.Ok(X:Cx):Prop where
 mod:Mod X.K X.mg X.base
 kind:X.env.scope.kind = .function
 glob:X.env.globals=mainGlobals
 blt:X.env.builtins=builtinsNs
 above:X.dl.heap.objs.size<=X.env.locals
 inj:∀x y c,X.env.cells.lookup x=some c->X.env.cells.lookup y=some c->x=y
 has:∀x,(X.env.kindOf x=some .cell\/X.env.kindOf x=some .free)->∃c,X.env.cells.lookup x=some c
 cab:∀x c,X.fn x=true->X.env.cells.lookup x=some c->X.dl.heap.objs.size<=c
 hd:X.calm=true->X.A.handled=none
 qt:X.A.handled=none\/∃(e:Addr) (oe:Obj) (vs:Array Value),X.A.handled=some (.ref e)/\(e,oe)∈X.pn/\oe.data = .fields vs/\vs[2]? = some .none
 frames:X.A.frames=some X.stack
 stk:X.stack=X.outer\/(X.stack=X.env::X.outer/\X.env.frame=some X.env.locals)
 exf:∀b∈X.ex,b≠X.env.locals/\∀x c,X.env.cells.lookup x=some c->c≠b
 bs:∀b o,X.base.get? b=some o->X.dl.heap.get? b=some o/\X.H₀ b=none
 bsz:X.base.objs.size<=X.dl.heap.objs.size
 Hm:∀b o,X.base.get? b=some o->b ∉ X.ex
 Lj:∀b∈X.ex,b ∉ X.fs
 sV:X.dl.heap.FunFrames X.base X.outer
 frf:∀b∈X.fs,X.H₀ b=none
structure Inv(X:Cx)(pins:List (Addr×Obj))(Z:List (Option V))(H:Hp)(s:Shared):Prop where
 ok:X.Ok
 os:s.os=X.dl.os
 bare:AllBare s.gens
 base:Un X.fs X.ex X.H₀ H X.dl.heap s.heap
 loc:∃m,s.heap.Ns X.env.locals m/\∀(i:Nat) (x:Str) (v:V),X.N[i]? = some x->Z[i]? = some (some v)->Vis X.env.scope x->∃u,RelV v u/\Look X.env s.heap m x u
 cell:∀x c,X.env.cells.lookup x=some c->∃v,s.heap.IsCell c v
 free:H X.env.locals=none
 jY:∀x c,X.env.cells.lookup x=some c->H c=none
 pin:∀p∈X.pn++pins,s.heap.get? p.1=some p.2/\H p.1=none/\p.1≠X.env.locals/\p.1 ∉ X.fs/\∀v,p.2.data≠.cell v
 hok:HOk X.prog X.w H s.heap
 len:Z.length=X.N.length
section
variable {X:Cx}{pins:List (Addr×Obj)}{Z:List (Option V)}{H H':Hp}{s:Shared}{h':Heap}
theorem Inv.Gq(I:Inv X pins Z H s):jy X.A s.heap:=by
 rcases I.ok.qt with q|⟨e,oe,vs,q,hp,r⟩
 ·exact .inl q
 ·exact .inr ⟨e,oe,vs,q,(I.pin (e,oe) (mem_append_left _ hp)).1,r⟩
theorem Inv.hne(I:Inv X pins Z H s){b:Addr}(hb:∀p∈X.pn++pins,p.1≠b):∀e,X.A.handled=some (.ref e)->e≠b:=fun e he=>by
 rcases I.ok.qt with q|⟨e1,oe,vs,q,hp,r⟩
 ·rw[q] at he;cases he
 ·rw[q] at he;cases he;exact hb (e,oe) (mem_append_left _ hp)
theorem Cx.Ok.TY(ok:X.Ok){b:Addr}{o:Obj}(e:X.base.get? b=some o):b ∉ X.fs:=fun hb=>by
 have:=(ok.sV.mem hb).1
 rw[e] at this;cases this
theorem Inv.bs(I:Inv X pins Z H s):∀b o,X.base.get? b=some o->s.heap.get? b=some o/\H b=none:=fun b o e=>
 ⟨I.base.keep b o (I.ok.bs b o e).1 (I.ok.bs b o e).2 (I.ok.TY e) (I.ok.Hm b o e),I.base.free b o (I.ok.bs b o e).1 (I.ok.bs b o e).2 (I.ok.Hm b o e)⟩
theorem Inv.bk(I:Inv X pins Z H s):∀b o,X.base.get? b=some o->s.heap.get? b=some o:=fun b o e=>(I.bs b o e).1
theorem Inv.mod(I:Inv X pins Z H s):Mod X.K X.mg X.base:=I.ok.mod
theorem Inv.kIn(I:Inv X pins Z H s):X.K.In s.heap:=I.ok.mod.kin.keeps I.bk
theorem Inv.lt(I:Inv X pins Z H s):X.env.locals<s.heap.objs.size:=let ⟨_,hn,_⟩:=I.loc;hn.lt
theorem Inv.sz(I:Inv X pins Z H s):X.dl.heap.objs.size<=s.heap.objs.size:=le_trans I.ok.above (Nat.le_of_lt I.lt)
theorem Inv.Ue(I:Inv X pins Z H s){a:Addr}(h:s.heap.objs.size<=a):a ∉ X.fs:=fun hb=>by
 obtain⟨_,o,ho,_⟩:=I.ok.sV.mem hb
 exact absurd (lt_of_lt_of_le (Heap.lt_size ho) (le_trans I.sz h)) (lt_irrefl _)
theorem Inv.cne(I:Inv X pins Z H s):∀x c,X.env.cells.lookup x=some c->c≠X.env.locals:=fun x c e z=>by
 obtain⟨v,o,ho,hd⟩:=I.cell x c e
 obtain⟨m,⟨o',es,ep,ho',hd',_⟩,_⟩:=I.loc
 rw[z,ho'] at ho;cases ho;rw[hd'] at hd;cases hd
theorem Inv.sV(I:Inv X pins Z H s):s.heap.FunFrames X.base X.outer:=by
 have all:∀(l:List Env),(∀b∈frs l,b∈X.fs)->X.dl.heap.FunFrames X.base l->s.heap.FunFrames X.base l:=by
  intro l
  induction l with
  |nil=>intro _ _;trivial
  |cons env r ih=>
   intro hs hl
   obtain⟨hk,⟨L,o,hf,hn,ho,hd⟩,hr⟩:=hl
   have hL:L∈X.fs:=hs L (by unfold frs;rw[filterMap_cons,hf];exact mem_cons_self)
   obtain⟨sl,e⟩:=I.base.slot L o ho (I.ok.frf L hL) hL fun z=>I.ok.Lj L z hL
   exact⟨hk,⟨L,_,hf,hn,e,hd⟩,ih (fun b hb=>hs b (by unfold frs;rw[filterMap_cons,hf];exact mem_cons_of_mem _ hb)) hr⟩
 exact all X.outer (fun _ hb=>hb) I.ok.sV
theorem Inv.stack(I:Inv X pins Z H s):s.heap.FunFrames X.base X.stack:=by
 rcases I.ok.stk with e|⟨e,hf⟩
 ·rw[e];exact I.sV
 ·rw[e]
  obtain⟨m,hn,_⟩:=I.loc
  refine .cons (by rw[I.ok.kind];decide) hf hn ?_ I.sV
  exact Heap.get?_none_of_le (le_trans I.ok.bsz I.ok.above)
theorem Inv.wz(I:Inv X pins Z H s):∀b∈frs X.stack,b∈X.env.locals::X.fs:=fun b hb=>by
 rcases I.ok.stk with e|⟨e,hf⟩
 ·rw[e] at hb;exact mem_cons_of_mem _ hb
 ·rw[e] at hb
  unfold frs at hb
  rw[filterMap_cons,hf] at hb
  exact hb
theorem Inv.ye(I:Inv X pins Z H s):∀b∈frs X.stack,H b=none:=fun b hb=>by
 rcases List.mem_cons.mp (I.wz b hb) with e|hb
 ·rw[e];exact I.free
 ·obtain⟨_,o,ho,_⟩:=I.ok.sV.mem hb
  exact I.base.free b o ho (I.ok.frf b hb) fun z=>I.ok.Lj b z hb
theorem Inv.step{g':Array GenState}{t':Nat}{d':Drawn}{ch:List Addr}(I:Inv X pins Z H s)
  (hch:∀b∈ch,(b∈X.ex\/X.dl.heap.objs.size<=b)/\b≠X.env.locals/\(∀x c,X.env.cells.lookup x=some c->c≠b)/\∀p∈X.pn++pins,p.1≠b)
  (keep:∀b o,b≠X.env.locals->b ∉ X.fs->b ∉ ch->s.heap.get? b=some o->H b=none->h'.get? b=some o)
  (slot:∀b o,b≠X.env.locals->b∈X.fs->b ∉ ch->s.heap.get? b=some o->H b=none->∃sl,h'.get? b=some {o with slots:=sl}) (free:∀b o,b ∉ ch->s.heap.get? b=some o->H b=none->H' b=none)
  (there:∀b o,b ∉ ch->s.heap.get? b=some o->∃o',h'.get? b=some o')
  (sF:∀b xs,H b=some (.tup xs)->H' b=some (.tup xs)) (rD:∀b o u,H b=some (.frz o u)->H' b=some (.frz o u)) (rC:∀b ps,H b=some (.tbl ps)->∃more,H' b=some (.tbl (ps++more)))
  (ns:∀m,s.heap.Ns X.env.locals m->h'.Ns X.env.locals m) (hok:HOk X.prog X.w H' h') (hg:AllBare g') :
  Inv X pins Z H' {s with heap:=h',gens:=g',drawn:=d',toks:=t'}:=by
 have neL:∀b o,X.dl.heap.get? b=some o->b≠X.env.locals:=fun b o e=>ne_of_lt (lt_of_lt_of_le (Heap.lt_size e) I.ok.above)
 have neC:∀b o,X.dl.heap.get? b=some o->b ∉ X.ex->b ∉ ch:=fun b o e hx hb=>by
  rcases (hch b hb).1 with z|z
  ·exact hx z
  ·exact absurd (lt_of_lt_of_le (Heap.lt_size e) z) (lt_irrefl _)
 have cellK:∀x c,X.env.cells.lookup x=some c->∀v,s.heap.IsCell c v->h'.IsCell c v:=fun x c e v ⟨o,ho,hd⟩=>by
  have nch:c ∉ ch:=fun z=>(hch c z).2.2.1 x c e rfl
  by_cases hc:c∈X.fs
  ·obtain⟨sl,q⟩:=slot c o (I.cne x c e) hc nch ho (I.jY x c e)
   exact⟨_,q,hd⟩
  ·exact⟨o,keep c o (I.cne x c e) hc nch ho (I.jY x c e),hd⟩
 refine⟨I.ok,I.os,hg,⟨fun b o e n hb hx=>?_,fun b o e n hb hx=>?_,fun b o e n hx=>?_,fun b o e hx=>?_,fun b xs e=>sF b xs (I.base.sF b xs e),fun b o xs e=>rD b o xs (I.base.rD b o xs e),fun b ps e=>?_⟩,?_,fun x c e=>?_,?_,fun x c e=>?_,fun p hp=>?_,hok,I.len⟩
 ·exact keep b o (neL b o e) hb (neC b o e hx) (I.base.keep b o e n hb hx) (I.base.free b o e n hx)
 ·obtain⟨sl,e1⟩:=I.base.slot b o e n hb hx
  obtain⟨sl',e2⟩:=slot b _ (neL b o e) hb (neC b o e hx) e1 (I.base.free b o e n hx)
  exact⟨sl',e2⟩
 ·obtain⟨o',e1⟩:=I.base.there b o e hx
  exact free b o' (neC b o e hx) e1 (I.base.free b o e n hx)
 ·obtain⟨o',e1⟩:=I.base.there b o e hx
  exact there b o' (neC b o e hx) e1
 ·obtain⟨m1,e1⟩:=I.base.rC b ps e
  obtain⟨m2,e2⟩:=rC b _ e1
  exact⟨m1++m2,by rw[e2,Array.append_assoc]⟩
 ·obtain⟨m,hn,hl⟩:=I.loc
  refine⟨m,ns m hn,fun i x v e1 e2 e3=>?_⟩
  obtain⟨u,r,l⟩:=hl i x v e1 e2 e3
  refine⟨u,r,?_⟩
  rcases l with l|⟨k,c,e,z⟩
  ·exact .inl l
  ·exact .inr ⟨k,c,e,cellK x c e _ z⟩
 ·obtain⟨v,z⟩:=I.cell x c e
  exact⟨v,cellK x c e v z⟩
 ·obtain⟨m,⟨o,_,_,ho,_⟩,_⟩:=I.loc
  exact free _ o (fun z=>(hch _ z).2.1 rfl) ho I.free
 ·obtain⟨v,o,ho,hd⟩:=I.cell x c e
  exact free c o (fun z=>(hch c z).2.2.1 x c e rfl) ho (I.jY x c e)
 ·obtain⟨e,n,ne,nf,d⟩:=I.pin p hp
  have nch:p.1 ∉ ch:=fun z=>(hch p.1 z).2.2.2 p hp rfl
  exact⟨keep p.1 p.2 ne nf nch e n,free p.1 p.2 nch e n,ne,nf,d⟩
theorem Inv.un{t':Nat}(I:Inv X pins Z H s)(u:Un X.fs [] H H' s.heap h')(hok:HOk X.prog X.w H' h'):Inv X pins Z H' {s with heap:=h',toks:=t'}:=by
 obtain⟨m,⟨o,es,ep,ho,r⟩,_⟩:=id I.loc
 obtain⟨sl,hL⟩:=u.any ho I.free (by simp)
 exact I.step (g':=s.gens) (d':=s.drawn) (ch:=[]) (fun _ z=>nomatch z) (fun b o _ hb _ e n=>u.keep b o e n hb (by simp)) (fun b o _ hb _ e n=>u.slot b o e n hb (by simp)) (fun b o _ e n=>u.free b o e n (by simp)) (fun b o _ e=>u.there b o e (by simp)) u.sF u.rD u.rC (fun m' hm=>by
  obtain⟨o',es',ep',ho',r'⟩:=hm
  rw[ho] at ho';cases ho'
  exact⟨_,es',ep',hL,r'⟩) hok I.bare
theorem Inv.call{g':Array GenState}{t':Nat}{d':Drawn}{ch:List Addr}(I:Inv X pins Z H s)(u:Un (frs X.stack) ch H H' s.heap h')(hok:HOk X.prog X.w H' h')(hg:AllBare g')
  (hch:∀b∈ch,(b∈X.ex\/X.dl.heap.objs.size<=b)/\b≠X.env.locals/\(∀x c,X.env.cells.lookup x=some c->c≠b)/\∀p∈X.pn++pins,p.1≠b) :
  Inv X pins Z H' {s with heap:=h',gens:=g',drawn:=d',toks:=t'}:=by
 obtain⟨m,⟨o,es,ep,ho,r⟩,_⟩:=id I.loc
 obtain⟨sl,hL⟩:=u.any ho I.free fun z=>(hch _ z).2.1 rfl
 exact I.step (ch:=ch) hch (fun b o hL hb hc e n=>u.keep b o e n (fun z=>(List.mem_cons.mp (I.wz b z)).elim hL hb) hc) (fun b o _ _ hc e n=>u.any e n hc) (fun b o hc e n=>u.free b o e n hc) (fun b o hc e=>u.there b o e hc) u.sF u.rD u.rC (fun m' hm=>by
  obtain⟨o',es',ep',ho',r'⟩:=hm
  rw[ho] at ho';cases ho'
  exact⟨_,es',ep',hL,r'⟩) hok hg
theorem Inv.turned{t':Nat}{it:Addr}(I:Inv X pins Z H s)(k:∀b o,b≠it->s.heap.get? b=some o->h'.get? b=some o)(hn:H it=none)(hL:it≠X.env.locals)
  (h1:it∈X.ex\/X.dl.heap.objs.size<=it) (h2:∀x c,X.env.cells.lookup x=some c->c≠it) (h3:∀p∈X.pn++pins,p.1≠it):Inv X pins Z H {s with heap:=h',toks:=t'}:=by
 have nit:∀b u,H b=some u->b≠it:=fun b u e z=>by rw[z,hn] at e;cases e
 refine I.step (g':=s.gens) (d':=s.drawn) (ch:=[it]) (fun b hb=>?_) (fun b o _ _ hc e _=>k b o (fun z=>hc (by simp[z])) e) (fun b o _ _ hc e _=>⟨o.slots,k b o (fun z=>hc (by simp[z])) e⟩) (fun _ _ _ _ n=>n)
  (fun b o hc e=>⟨o,k b o (fun z=>hc (by simp[z])) e⟩) (fun _ _ e=>e) (fun _ _ _ e=>e) (fun b ps e=>⟨#[],by rw[e];simp⟩) (fun m hm=>?_) (fun b u e=>?_) I.bare
 ·have e:b=it:=by simpa using hb
  subst e
  exact⟨h1,hL,h2,h3⟩
 ·obtain⟨o,es,ep,ho,r⟩:=hm
  exact⟨o,es,ep,k _ o (Ne.symm hL) ho,r⟩
 ·refine (I.hok b u e).Ah (fun c v hc q=>k c v ?_ q) (fun _ q=>q) fun _ _ q=>q
  rcases hc with z|z
  ·rw[z];exact nit b u e
  ·exact nit c _ z
theorem Inv.tok(I:Inv X pins Z H s)(t:Nat):Inv X pins Z H {s with toks:=t}:=I.un (h':=s.heap) (t':=t) Un.refl I.hok
theorem Inv.kept{t':Nat}(I:Inv X pins Z H s)(k:∀b u,s.heap.get? b=some u->h'.get? b=some u):Inv X pins Z H {s with heap:=h',toks:=t'}:=I.un (Un.kept k) (I.hok.kept k)
theorem Inv.laid{a:Addr}{o:HO}{t':Nat}(I:Inv X pins Z H s)(k:∀b u,s.heap.get? b=some u->h'.get? b=some u)(hp:s.heap.objs.size<=a)(new:lh X.prog X.w (upd H a o) h' a o) :
  Inv X pins Z (upd H a o) {s with heap:=h',toks:=t'}:=I.un (Un.laid k hp (I.hok.fresh hp)) (I.hok.laid k hp new)
theorem Inv.write{x e:Addr}{o:HO}{t':Nat}(I:Inv X pins Z H s)(mu:Mut (H x))(he:e=x\/H e=some (.own x))(k:∀b u,b≠e->s.heap.get? b=some u->h'.get? b=some u)(heo:∃u,h'.get? e=some u)
  (new:lh X.prog X.w (upd H x o) h' x o):Inv X pins Z (upd H x o) {s with heap:=h',toks:=t'}:=I.un (Un.write mu he k heo) (I.hok.write mu he k heo new)
theorem Inv.HE{pins':List (Addr×Obj)}(I:Inv X pins Z H s)(h:∀p∈pins',s.heap.get? p.1=some p.2/\H p.1=none/\p.1≠X.env.locals/\p.1 ∉ X.fs/\∀v,p.2.data≠.cell v):Inv X pins' Z H s:=
 ⟨I.ok,I.os,I.bare,I.base,I.loc,I.cell,I.free,I.jY,fun p hp=>(List.mem_append.mp hp).elim (fun z=>I.pin p (mem_append_left _ z)) (h p),I.hok,I.len⟩
theorem EF{N:List Str}(hN:N.Nodup){i j:Nat}{x:Str}(a:N[i]? = some x)(b:N[j]? = some x):i=j:=by
 obtain⟨h1,e1⟩:=List.getElem?_eq_some_iff.mp a
 obtain⟨h2,e2⟩:=List.getElem?_eq_some_iff.mp b
 exact (List.getElem_inj hN).mp (e1.trans e2.symm)
theorem JD{M:Model}{A:Around}{E:Value->Shared->Prop}{i:Nat}{x:Str}{v:V}{u:Value}{Q:Unit->Shared->Prop}(I:Inv X pins Z H s)(hN:X.N.Nodup)(hi:X.N[i]? = some x)(hx:Loc X.env.scope x)(r:RelV v u)
  (h:∀s',Inv X pins (Z.set i (some v)) H s'->(∃a,Heap.SameBut a s.heap s'.heap/\(a=X.env.locals\/X.env.cells.lookup x=some a))->Q () s') (hf:X.fn x=true\/X.env.scope.names.lookup x=some .local:=by first|exact .inl rfl|exact .inr rfl|assumption):wpAny M A (storeName X.env x u) Q E s:=by
 obtain⟨m,hn,hl⟩:=id I.loc
 have hcls:(X.env.scope.kind==.class || (X.env.scope.kind==.module&&X.env.locals != X.env.globals))=false:=by rw[I.ok.kind];rfl
 have wp:i<Z.length:=by rw[I.len];exact (List.getElem?_eq_some_iff.mp hi).1
 have cne:=I.cne
 have tracked:∀{a:Addr} {h':Heap},(∃o,s.heap.get? a=some o/\H a=none)->Heap.SameBut a s.heap h'->HOk X.prog X.w H h':=fun {a h'} ha hs b ob e=>by
  obtain⟨_,_,hfree⟩:=ha
  refine (I.hok b ob e).Ah (fun c w' hc q=>(hs.2 c ?_).trans q) (fun _ q=>q) fun _ _ q=>q
  rintro rfl
  rcases hc with rfl|hc
  ·rw[hfree] at e;cases e
  ·rw[hfree] at hc;cases hc
 rcases hx with hk|hk
 ·refine wpAny_storeName_local hk hn (fun h' hn' hs=>?_) hcls
  obtain⟨oL,_,_,hoL,_⟩:=id hn
  refine h _ ⟨I.ok,I.os,I.bare,⟨fun b o e n hb hx=>?_,fun b o e n hb hx=>?_,I.base.free,fun b o e hx=>?_,I.base.sF,I.base.rD,I.base.rC⟩,⟨_,hn',fun j y v' e1 e2 e3=>?_⟩,fun y c e=>?_,I.free,I.jY,fun p hp=>?_,tracked ⟨oL,hoL,I.free⟩ hs,by simpa using I.len⟩ ⟨_,hs,.inl rfl⟩
  ·exact (hs.2 b (ne_of_lt (lt_of_lt_of_le (Heap.lt_size e) I.ok.above))).trans (I.base.keep b o e n hb hx)
  ·obtain⟨sl,e1⟩:=I.base.slot b o e n hb hx
   exact⟨sl,(hs.2 b (ne_of_lt (lt_of_lt_of_le (Heap.lt_size e) I.ok.above))).trans e1⟩
  ·obtain⟨o',e1⟩:=I.base.there b o e hx
   exact⟨o',(hs.2 b (ne_of_lt (lt_of_lt_of_le (Heap.lt_size e) I.ok.above))).trans e1⟩
  ·by_cases hj:j=i
   ·subst hj
    rw[hi] at e1;cases e1
    rw[List.getElem?_set_self wp] at e2
    cases e2
    exact⟨u,r,.inl ⟨hk,by simp⟩⟩
   ·rw[List.getElem?_set_ne (Ne.symm hj)] at e2
    obtain⟨u',r',q⟩:=hl j y v' e1 e2 e3
    refine⟨u',r',?_⟩
    rcases q with ⟨k,e⟩|⟨k,c,e,z⟩
    ·refine .inl ⟨k,?_⟩
     have:y≠x:=fun e=>hj (EF hN e1 (e▸hi))
     simp[this,e]
    ·exact .inr ⟨k,c,e,z.sameBut hs (cne y c e)⟩
  ·obtain⟨w',z⟩:=I.cell y c e
   exact⟨w',z.sameBut hs (cne y c e)⟩
  ·obtain⟨e,n,ne,nf,d⟩:=I.pin p hp
   exact⟨(hs.2 p.1 ne).trans e,n,ne,nf,d⟩
 ·have hfn:X.fn x=true:=by
   rcases hf with z|z
   ·exact z
   ·rw[z] at hk;cases hk
  obtain⟨c,hc⟩:=I.ok.has x (.inl hk)
  obtain⟨w',z⟩:=I.cell x c hc
  refine wpAny_storeName_cell I.ok.kind hk hc z (fun h' hc' hs=>?_)
  obtain⟨oc,hoc,hocd⟩:=id z
  refine h {s with heap:=h'} ⟨I.ok,I.os,I.bare,⟨fun b o e n hb hx=>?_,fun b o e n hb hx=>?_,I.base.free,fun b o e hx=>?_,I.base.sF,I.base.rD,I.base.rC⟩,⟨m,hn.sameBut hs (Ne.symm (cne x c hc)),fun j y v' e1 e2 e3=>?_⟩,fun y c' e=>?_,I.free,I.jY,fun p hp=>?_,tracked ⟨oc,hoc,I.jY x c hc⟩ hs,by simpa using I.len⟩ ⟨c,hs,.inr hc⟩
  ·exact (hs.2 b (ne_of_lt (lt_of_lt_of_le (Heap.lt_size e) (I.ok.cab x c hfn hc)))).trans (I.base.keep b o e n hb hx)
  ·obtain⟨sl,e1⟩:=I.base.slot b o e n hb hx
   exact⟨sl,(hs.2 b (ne_of_lt (lt_of_lt_of_le (Heap.lt_size e) (I.ok.cab x c hfn hc)))).trans e1⟩
  ·obtain⟨o',e1⟩:=I.base.there b o e hx
   exact⟨o',(hs.2 b (ne_of_lt (lt_of_lt_of_le (Heap.lt_size e) (I.ok.cab x c hfn hc)))).trans e1⟩
  ·by_cases hj:j=i
   ·subst hj
    rw[hi] at e1;cases e1
    rw[List.getElem?_set_self wp] at e2
    cases e2
    exact⟨u,r,.inr ⟨.inl hk,c,hc,hc'⟩⟩
   ·rw[List.getElem?_set_ne (Ne.symm hj)] at e2
    obtain⟨u',r',q⟩:=hl j y v' e1 e2 e3
    refine⟨u',r',?_⟩
    rcases q with q|⟨k,c',e,z'⟩
    ·exact .inl q
    ·refine .inr ⟨k,c',e,z'.sameBut hs ?_⟩
     rintro rfl
     exact hj (EF hN e1 (I.ok.inj _ _ _ e hc▸hi))
  ·by_cases hcc:c'=c
   ·subst hcc;exact⟨_,hc'⟩
   ·obtain⟨w2,z2⟩:=I.cell y c' e
    exact⟨w2,z2.sameBut hs hcc⟩
  ·obtain⟨e,n,ne,nf,d⟩:=I.pin p hp
   refine⟨(hs.2 p.1 ?_).trans e,n,ne,nf,d⟩
   intro q
   rw[q,hoc] at e
   have q':oc=p.2:=Option.some.inj e
   exact d w' (by rw[<- q'];exact hocd)
theorem mK{M:Model}{A:Around}{E:Value->Shared->Prop}{i:Nat}{x:Str}{v:V}{u:Value}{Q:Unit->Shared->Prop}(I:Inv X pins Z H s)(hN:X.N.Nodup)(hi:X.N[i]? = some x)(hx:Loc X.env.scope x)(r:RelV v u)
  (h:∀s',Inv X pins (Z.set i (some v)) H s'->Q () s') (hf:X.fn x=true\/X.env.scope.names.lookup x=some .local:=by first|exact .inl rfl|exact .inr rfl|assumption):wpAny M A (storeName X.env x u) Q E s:=
 JD I hN hi hx r (fun s' I' _=>h s' I') hf
theorem Inv.FK{s':Shared}{ch:List Addr}(I:Inv X pins Z H s)(ho:s'.os=s.os)(u:Un (frs X.stack) ch H H' s.heap s'.heap)(hok:HOk X.prog X.w H' s'.heap)(hg:AllBare s'.gens)
  (hch:∀b∈ch,(b∈X.ex\/X.dl.heap.objs.size<=b)/\b≠X.env.locals/\(∀x c,X.env.cells.lookup x=some c->c≠b)/\∀p∈X.pn++pins,p.1≠b):Inv X pins Z H' s':=by
 obtain⟨h',g',d',t',o'⟩:=s'
 have e:o'=s.os:=ho
 subst e
 exact I.call (g':=g') (t':=t') (d':=d') u hok hg hch
end
abbrev XK:=Value->Option Addr->Hp->Prop
abbrev St:=List (Option V)
abbrev VK:=V->Hp->Prop
abbrev TE:=St->Hp->VK->Prop
abbrev TT:=St->Hp->(Bool->Hp->Prop)->Prop
abbrev TA:=St->Hp->(List V->Hp->Prop)->Prop
structure Ends where
 nx:St->Hp->Prop
 rt:VK
 bk:St->Hp->Prop:=fun _ _=>False
 ct:St->Hp->Prop:=fun _ _=>False
abbrev TS:=Ends->St->Hp->Prop
noncomputable def EP(X:Cx)(pins:List (Addr×Obj))(Z:St)(Q:VK)(u:Value)(s':Shared):Prop:=∃v H',Inv X pins Z H' s'/\RelV v u/\Q v H'
noncomputable def TP(X:Cx)(pins:List (Addr×Obj))(Z:St)(Q:Bool->Hp->Prop)(b:Bool)(s':Shared):Prop:=∃H',Inv X pins Z H' s'/\Q b H'
noncomputable def AP(X:Cx)(pins:List (Addr×Obj))(Z:St)(Q:List V->Hp->Prop)(us:List Value)(s':Shared):Prop:=∃vs H',Inv X pins Z H' s'/\Vals vs us/\Q vs H'
noncomputable def SP(X:Cx)(pins:List (Addr×Obj))(D:Ends)(f:Flow)(s':Shared):Prop:=
 match f with
 |.next=>∃am H',Inv X pins am H' s'/\D.nx am H'
 |.brk=>∃am H',Inv X pins am H' s'/\D.bk am H'
 |.cont=>∃am H',Inv X pins am H' s'/\D.ct am H'
 |.ret u=>∃v am H',Inv X pins am H' s'/\RelV v u/\D.rt v H'
noncomputable def PE(X:Cx)(e:Expr)(t:TE):Prop:=
 ∀(pins:List (Addr×Obj)) (s:Shared) (Z:St) (H:Hp) (Q:VK),Inv X pins Z H s->t Z H Q->wpAny (model X.prog X.w) X.A (eval e X.env) (EP X pins Z Q) X.xe s
noncomputable def PT(X:Cx)(e:Expr)(t:TT):Prop:=
 ∀(pins:List (Addr×Obj)) (s:Shared) (Z:St) (H:Hp) (Q:Bool->Hp->Prop),Inv X pins Z H s->t Z H Q->wpAny (model X.prog X.w) X.A (isTrue e X.env (eval e X.env)) (TP X pins Z Q) X.xe s
noncomputable def PW(X:Cx)(e:Expr)(t:TT):Prop:=
 ∀(whole:Sem Value) (pins:List (Addr×Obj)) (s:Shared) (Z:St) (H:Hp) (Q:Bool->Hp->Prop),Inv X pins Z H s->t Z H Q->wpAny (model X.prog X.w) X.A (isTrue e X.env whole) (TP X pins Z Q) X.xe s
theorem PW.pt{X:Cx}{e:Expr}{t:TT}(h:PW X e t):PT X e t:=h _
noncomputable def PA(X:Cx)(es:List Expr)(t:TA):Prop:=
 ∀(pos:Pos) (pins:List (Addr×Obj)) (s:Shared) (Z:St) (H:Hp) (Q:List V->Hp->Prop),Inv X pins Z H s->t Z H Q->wpAny (model X.prog X.w) X.A (spliced (backTo pos (starEach es X.env))) (AP X pins Z Q) X.xe s
noncomputable def PS(X:Cx)(st:Stmt)(t:TS):Prop:=
 ∀(pins:List (Addr×Obj)) (s:Shared) (Z:St) (H:Hp) (D:Ends),Inv X pins Z H s->t D Z H->wpAny (model X.prog X.w) X.A (exec st X.env) (SP X pins D) X.xe s
noncomputable def PSs(X:Cx)(st:List Stmt)(t:TS):Prop:=
 ∀(pins:List (Addr×Obj)) (s:Shared) (Z:St) (H:Hp) (D:Ends),Inv X pins Z H s->t D Z H->wpAny (model X.prog X.w) X.A (execs st X.env) (SP X pins D) X.xe s
theorem thn{α:Type}{t:Sem α}{Q Q':α->Shared->Prop}{M:Model}{A:Around}{E:Value->Shared->Prop}{s:Shared}(h:wpAny M A t Q E s)(hQ:∀a s,Q a s->Q' a s):wpAny M A t Q' E s:=wpAny_mono h hQ fun _ _ x=>x
end L2
namespace L2
open PySem PySem.Spec PyProof.Rows
section
variable {X:Cx}
theorem bin{a b:Expr}{ta tb:TE}(ha:PE X a ta)(hb:PE X b tb){pins:List (Addr×Obj)}{s:Shared}{Z:St}{H:Hp}{R:V->V->Hp->Prop}(I:Inv X pins Z H s)(h:ta Z H fun x H1=>tb Z H1 fun y H2=>R x y H2)
  {α:Type} {Q:α->Shared->Prop} {f:Value->Value->Sem α}
  (hf:∀v u s2 x y H2,Inv X pins Z H2 s2->RelV x v->RelV y u->R x y H2->wpAny (model X.prog X.w) X.A (f v u) Q X.xe s2) :
  wpAny (model X.prog X.w) X.A (eval a X.env) (fun v ce=>wpAny (model X.prog X.w) X.A (eval b X.env) (fun u ld=>wpAny (model X.prog X.w) X.A (f v u) Q X.xe ld) X.xe ce) X.xe s:=by
 refine thn (ha pins s Z H _ I h) fun v s1 ⟨x,H1,I1,r1,q1⟩=>?_
 refine thn (hb pins s1 Z H1 _ I1 q1) fun u s2 ⟨y,H2,I2,r2,q2⟩=>?_
 exact hf v u s2 x y H2 I2 r1 r2 q2
noncomputable def Rr(i:Nat):TE:=fun Z H Q=>∃v,Z[i]? = some (some v)/\Q v H
noncomputable def tC(v:V):TE:=fun _ H Q=>Q v H
theorem GV{i:Nat}{x:Str}{pos:Pos}(hN:X.N[i]? = some x)(hv:Vis X.env.scope x)(hd:(x==("__debug__":Str))=false:=by decide)(hcd:(x==("__classdict__":Str))=false:=by decide):PE X (.Name x pos) (Rr i):=by
 intro pins s Z H Q I h
 obtain⟨v,e,h⟩:=h
 obtain⟨m,hn,hl⟩:=I.loc
 obtain⟨u,r,l⟩:=hl i x v hN e hv
 have fin:EP X pins Z Q u s:=⟨v,H,I,r,h⟩
 rcases l with ⟨hk,hm⟩|⟨hk,c,hc,hcell⟩
 ·exact wpAny_Name (wpAny_loadName_local I.ok.kind hk hn hm fin) hd
 ·rcases hk with hk|hk
  ·exact wpAny_Name (wpAny_loadName_cell I.ok.kind hk hc hcell fin) hd
  ·exact wpAny_Name (wpAny_loadName_free I.ok.kind hk hc hcell fin hcd) hd
theorem GI{i j pos}:PE X (.Constant (.int i) j pos) (tC (.int i)):=fun _ _ _ H _ I h=>wpAny_Constant_int ⟨.int i,H,I.tok _,⟨_,rfl⟩,h⟩
theorem SN{b j pos}:PE X (.Constant (.bool b) j pos) (tC (.bl b)):=fun _ _ _ H _ I h=>Constant_bool ⟨.bl b,H,I,rfl,h⟩
theorem Rl{j pos}:PE X (.Constant .none j pos) (tC .non):=fun _ _ _ H _ I h=>Constant_none ⟨.non,H,I,rfl,h⟩
theorem Mc{x j pos}:PE X (.Constant (.str x) j pos) (tC (.str x)):=fun _ _ _ H _ I h=>Calls.Constant_str ⟨.str x,H,I.tok _,⟨_,rfl⟩,h⟩
noncomputable def Gl(X:Cx)(x:Str):Prop:=X.env.kindOf x=some .globalImplicit
theorem vj{E:Value->Shared->Prop}{pins:List (Addr×Obj)}{s:Shared}{Z:St}{H:Hp}{x:Str}{u:Value}{pos:Pos}{Q:Value->Shared->Prop}(I:Inv X pins Z H s)(hg:Gl X x)(hm:X.mg x=some u)(h:Q u s)
  (hd:(x==("__debug__":Str))=false:=by decide):wpAny (model X.prog X.w) X.A (eval (.Name x pos) X.env) Q E s:=
 Calls.Name_function_global I.ok.kind hg (Calls.loadGlobal_global (by rw[I.ok.glob];exact I.mod.glob.keeps I.bk) hm h) hd
theorem yN{E:Value->Shared->Prop}{pins:List (Addr×Obj)}{s:Shared}{Z:St}{H:Hp}{x:Str}{u:Value}{pos:Pos}{Q:Value->Shared->Prop}(I:Inv X pins Z H s)(hg:Gl X x)(hm:X.mg x=none)(hv:bootBuiltins x=some u)(h:Q u s)
  (hn:x ≠ "__name__":=by decide) (hd:(x==("__debug__":Str))=false:=by decide):wpAny (model X.prog X.w) X.A (eval (.Name x pos) X.env) Q E s:=by
 obtain⟨mb,h1,h2⟩:=I.mod.blt
 exact Calls.Name_function_global I.ok.kind hg (Calls.loadGlobal_builtin (by rw[I.ok.glob];exact I.mod.glob.keeps I.bk) hm (by rw[I.ok.blt];exact h1.keeps I.bk) ((h2 x hn).trans hv) h) hd
theorem IE{x:Str}{v:V}{u:Value}{pos:Pos}(hg:Gl X x)(hm:X.mg x=some u)(r:RelV v u)(hd:(x==("__debug__":Str))=false:=by decide):PE X (.Name x pos) (tC v):=
 fun _ _ _ H _ I h=>vj I hg hm ⟨v,H,I,r,h⟩ hd
theorem yj{x:Str}{v:V}{u:Value}{pos:Pos}(hg:Gl X x)(hm:X.mg x=none)(hv:bootBuiltins x=some u)(r:RelV v u)(hn:x ≠ "__name__":=by decide)(hd:(x==("__debug__":Str))=false:=by decide):PE X (.Name x pos) (tC v):=
 fun _ _ _ H _ I h=>yN I hg hm hv ⟨v,H,I,r,h⟩ hn hd
variable {a b:Expr}{ta tb:TE}{pos:Pos}
noncomputable def PC(X:Cx)(op:CmpOp)(a b:Expr)(t:TE):Prop:=
 ∀(pins:List (Addr×Obj)) (s:Shared) (Z:St) (H:Hp) (Q:VK),Inv X pins Z H s->t Z H Q ->
  wpAny (model X.prog X.w) X.A (eval a X.env) (fun v ce=>wpAny (model X.prog X.w) X.A (eval b X.env) (fun u ld=>wpAny (model X.prog X.w) X.A (compareOp op v u) (EP X pins Z Q) X.xe ld) X.xe ce) X.xe s
theorem K9(b:Expr){op:CmpOp}(h:op≠.In)(h2:op≠.NotIn):behindInMarks op b=false:=by
 have e1:(op==CmpOp.In)=false:=by cases op<;>first|rfl|exact absurd rfl h
 have e2:(op==CmpOp.NotIn)=false:=by cases op<;>first|rfl|exact absurd rfl h2
 cases b<;>simp[behindInMarks,e1,e2]
noncomputable def tB(t:TE):TT:=fun Z H Q=>t Z H fun x H1=>∃c,x = .bl c/\Q c H1
theorem TQ{op:CmpOp}{t:TE}(h:PC X op a b t)(h1:behindInMarks op b=false:=by first|exact K9 _ ⋯ ⋯|rfl):PT X (.Compare a [op] [b] pos) (tB t):=by
 intro pins s Z H Q I hw
 refine wpAny_isTrue_Compare1 (thn (h pins s Z H _ I hw) fun v s1 h1=>thn h1 fun u s2 h2=>thn h2 fun c s3 ⟨x,H1,I1,r1,q1⟩=>?_) h1
 obtain⟨d,rfl,q⟩:=q1
 cases r1
 exact wpAny_truthy_bool ⟨H1,I1,q⟩
theorem Qy{e:Expr}{t:TE}(h:PE X e t)(he:∀whole,isTrue e X.env whole=(do let v <- whole;standAt e.pos;holding [v] (truthy v)):=by intro _;rfl):PT X e (tB t):=by
 intro pins s Z H Q I hw
 refine isTrue_plain (thn (h pins s Z H _ I hw) fun v s1 ⟨x,H1,I1,r1,q1⟩=>?_) (he _)
 obtain⟨d,rfl,q⟩:=q1
 cases r1
 exact wpAny_truthy_bool ⟨H1,I1,q⟩
variable {tA tB':TT}{rest:List Expr}
noncomputable def TZ(t u:TT):TT:=fun Z H Q=>t Z H fun c H1=>if c=true then u Z H1 Q else Q false H1
noncomputable def tOr(t u:TT):TT:=fun Z H Q=>t Z H fun c H1=>if c=true then Q true H1 else u Z H1 Q
noncomputable def Uk(t:TT):TT:=fun Z H Q=>t Z H fun c H1=>Q (!c) H1
theorem pw_and1(ha:PT X a tA):PW X (.BoolOp .And [a] pos) tA:=by
 intro wh pins s Z H Q I h
 refine isTrue_and (thn (ha pins s Z H Q I h) fun c s1 e=>?_)
 cases c with
 |true=>exact isTrue_and_nil e
 |false=>exact e
theorem pw_or1(ha:PT X a tA):PW X (.BoolOp .Or [a] pos) tA:=by
 intro wh pins s Z H Q I h
 refine isTrue_or (thn (ha pins s Z H Q I h) fun c s1 e=>?_)
 cases c with
 |false=>exact isTrue_or_nil e
 |true=>exact e
theorem pw_and(ha:PT X a tA)(hb:PW X (.BoolOp .And (b::rest) pos) tB'):PW X (.BoolOp .And (a::b::rest) pos) (TZ tA tB'):=by
 intro wh pins s Z H Q I h
 refine isTrue_and (thn (ha pins s Z H _ I h) fun c s1 ⟨H1,I1,q1⟩=>?_)
 cases c with
 |true=>exact hb wh pins s1 Z H1 Q I1 q1
 |false=>exact⟨H1,I1,q1⟩
theorem pw_or(ha:PT X a tA)(hb:PW X (.BoolOp .Or (b::rest) pos) tB'):PW X (.BoolOp .Or (a::b::rest) pos) (tOr tA tB'):=by
 intro wh pins s Z H Q I h
 refine isTrue_or (thn (ha pins s Z H _ I h) fun c s1 ⟨H1,I1,q1⟩=>?_)
 cases c with
 |true=>exact⟨H1,I1,q1⟩
 |false=>exact hb wh pins s1 Z H1 Q I1 q1
theorem Q0(ha:PT X a tA):PT X (.UnaryOp .Not a pos) (Uk tA):=by
 intro pins s Z H Q I h
 exact isTrue_not (ha pins s Z H (fun c H1=>Q (!c) H1) I h)
noncomputable def SI(ta tb:TE):TE:=fun Z H Q=>ta Z H fun x H1=>∃c,x = .bl c/\if c=true then tb Z H1 Q else Q (.bl false) H1
noncomputable def Sg(ta:TE):TE:=fun Z H Q=>ta Z H fun x H1=>∃c,x = .bl c/\Q (.bl (!c)) H1
theorem Qw{op}{t:TE}(h:PE X a t):PE X (.BoolOp op [a] pos) t:=fun pins s Z H Q I hw=>BoolOp_one (h pins s Z H Q I hw)
theorem P5(ha:PE X a ta)(hb:PE X (.BoolOp .And (b::rest) pos) tb):PE X (.BoolOp .And (a::b::rest) pos) (SI ta tb):=by
 intro pins s Z H Q I h
 refine BoolOp_and (thn (ha pins s Z H _ I h) fun v s1 ⟨x,H1,I1,r1,q1⟩=>?_)
 obtain⟨c,rfl,q1⟩:=q1
 cases r1
 refine wpAny_truthy_bool ?_
 cases c with
 |true=>exact hb pins s1 Z H1 Q I1 q1
 |false=>exact⟨.bl false,H1,I1,rfl,q1⟩
theorem Rh(ha:PE X a ta):PE X (.UnaryOp .Not a pos) (Sg ta):=by
 intro pins s Z H Q I h
 refine UnaryOp_ (thn (ha pins s Z H _ I h) fun v s1 ⟨x,H1,I1,r1,q1⟩=>?_)
 obtain⟨c,rfl,q1⟩:=q1
 cases r1
 exact not_of (wpAny_truthy_bool ⟨.bl (!c),H1,I1,rfl,q1⟩)
noncomputable def tIf(t:TT)(ta tb:TE):TE:=fun Z H Q=>t Z H fun c H1=>if c=true then ta Z H1 Q else tb Z H1 Q
theorem LM{c:Expr}(hc:PT X c tA)(ha:PE X a ta)(hb:PE X b tb):PE X (.IfExp c a b pos) (tIf tA ta tb):=by
 intro pins s Z H Q I h
 refine wpAny_IfExp (thn (hc pins s Z H _ I h) fun d s1 ⟨H1,I1,q1⟩=>?_)
 cases d with
 |true=>exact ha pins s1 Z H1 Q I1 q1
 |false=>exact hb pins s1 Z H1 Q I1 q1
end
end L2
namespace L2
open PySem PySem.Spec PyProof.Rows
noncomputable def SqL(K:PySem.W.Frag)(H:Hp)(a:Addr)(xs:List V):Prop:=
 Rd H a (.lst xs) \/
  ∃(o:Obj) (its:Array Value) (n:Nat),K.lookup a=some o/\o.cls = .type "list"/\o.dict=none/\o.data = .seq its n/\its.size<=sizeLine/\Vals xs its.toList
noncomputable def SqT(K:PySem.W.Frag)(H:Hp)(a:Addr)(xs:List V):Prop:=
 Rd H a (.tup xs) \/
  ∃(o:Obj) (its:Array Value) (n:Nat),K.lookup a=some o/\o.cls = .type "tuple"/\o.data = .seq its n/\its.size<=sizeLine/\Vals xs its.toList
def T4:Value->Option V
 |.none=>some .non
 |.bool b=>some (.bl b)
 |.int i _=>some (.int i)
 |.str x _=>some (.str x)
 |.bytes b _=>some (.byt b)
 |.float b _=>some (.flt b)
 |.ref a=>some (.ref a)
 |.type n=>some (.ty n)
 |_=>none
theorem RelV.abs{x:V}{u:Value}(r:RelV x u):T4 u=some x:=by
 cases x with
 |non=>cases r;rfl
 |bl _=>cases r;rfl
 |int _=>obtain⟨t,rfl⟩:=r;rfl
 |str _=>obtain⟨t,rfl⟩:=r;rfl
 |byt _=>obtain⟨t,rfl⟩:=r;rfl
 |flt _=>obtain⟨t,rfl⟩:=r;rfl
 |ref _=>cases r;rfl
 |ty _=>cases r;rfl
theorem RelV.inj{x y:V}{u:Value}(r:RelV x u)(q:RelV y u):x=y:=Option.some.inj (r.abs.symm.trans q.abs)
theorem Vals.inj:∀{xs ys:List V} {us:List Value},Vals xs us->Vals ys us->xs=ys
 |_,_,_,.nil,.nil=>rfl
 |_,_,_,.cons r t,.cons r' t'=>by rw[r.inj r',Vals.inj t t']
section
variable {X:Cx}{pins:List (Addr×Obj)}{Z:St}{H:Hp}{s:Shared}{a:Addr}{xs ys:List V}
theorem SqL.of{K:PySem.W.Frag}(h:H a=some (.lst xs)):SqL K H a xs:=.inl (.inl h)
theorem SqT.of{K:PySem.W.Frag}(h:H a=some (.tup xs)):SqT K H a xs:=.inl (.inl h)
theorem Inv.list(I:Inv X pins Z H s)(h:SqL X.K H a xs):∃its:List Value,Vals xs its/\PlainL s.heap a its.toArray/\xs.length<=sizeLine:=by
 rcases h with h|⟨o,its,n,hk,hc,hd,hs,hz,r⟩
 ·obtain⟨z,its,n,r,e⟩:=h.ok I.hok
  exact⟨its,r,⟨_,n,e,rfl,rfl,rfl⟩,z⟩
 ·refine⟨its.toList,r,⟨o,n,I.kIn a o hk,hc,hd,by simpa using hs⟩,?_⟩
  have e:=r.length
  simp only[Array.length_toList] at e
  omega
theorem Inv.tuple(I:Inv X pins Z H s)(h:SqT X.K H a xs):∃its:List Value,Vals xs its/\IsTup s.heap a its.toArray/\xs.length<=sizeLine:=by
 rcases h with h|⟨o,its,n,hk,hc,hs,hz,r⟩
 ·obtain⟨z,its,r,p⟩:=h.ok I.hok
  exact⟨its,r,p,z⟩
 ·refine⟨its.toList,r,⟨o,I.kIn a o hk,hc,n,by simpa using hs⟩,?_⟩
  have e:=r.length
  simp only[Array.length_toList] at e
  omega
theorem Inv.Lx(I:Inv X pins Z H s)(h:SqL X.K H a xs)(h':SqL X.K H a ys):xs=ys:=by
 obtain⟨its,r,⟨o,n,e,_,_,d⟩,_⟩:=I.list h
 obtain⟨its',r',⟨o',n',e',_,_,d'⟩,_⟩:=I.list h'
 rw[e] at e';cases e'
 rw[d] at d'
 injection d' with d1 _
 have:its=its':=by simpa using congrArg Array.toList d1
 subst this
 exact r.inj r'
theorem Inv.JX(I:Inv X pins Z H s)(h:SqT X.K H a xs)(h':SqT X.K H a ys):xs=ys:=by
 obtain⟨its,r,⟨o,e,_,n,d⟩,_⟩:=I.tuple h
 obtain⟨its',r',⟨o',e',_,n',d'⟩,_⟩:=I.tuple h'
 rw[e] at e';cases e'
 rw[d] at d'
 injection d' with d1 _
 have:its=its':=by simpa using congrArg Array.toList d1
 subst this
 exact r.inj r'
end
abbrev Cx.Ad(X:Cx)(E:Value->Shared->Prop):Cx:={X with xe:=E}
abbrev Cx.nox(X:Cx):Cx:=X.Ad fun _ _=>False
theorem Cx.Ok.Ad{X:Cx}(ok:X.Ok)(E:Value->Shared->Prop):(X.Ad E).Ok:=
 ⟨ok.mod,ok.kind,ok.glob,ok.blt,ok.above,ok.inj,ok.has,ok.cab,ok.hd,ok.qt,ok.frames,ok.stk,ok.exf,ok.bs,ok.bsz,ok.Hm,ok.Lj,ok.sV,ok.frf⟩
theorem Cx.Ok.nG{X:Cx}{E:Value->Shared->Prop}(ok:(X.Ad E).Ok):X.Ok:=
 ⟨ok.mod,ok.kind,ok.glob,ok.blt,ok.above,ok.inj,ok.has,ok.cab,ok.hd,ok.qt,ok.frames,ok.stk,ok.exf,ok.bs,ok.bsz,ok.Hm,ok.Lj,ok.sV,ok.frf⟩
section
variable {X:Cx}{pins:List (Addr×Obj)}{Z:St}{H:Hp}{s:Shared}{E:Value->Shared->Prop}
theorem Inv.Ad(I:Inv X pins Z H s)(E:Value->Shared->Prop):Inv (X.Ad E) pins Z H s:=⟨I.ok.Ad E,I.os,I.bare,I.base,I.loc,I.cell,I.free,I.jY,I.pin,I.hok,I.len⟩
theorem Inv.nG(I:Inv (X.Ad E) pins Z H s):Inv X pins Z H s:=⟨I.ok.nG,I.os,I.bare,I.base,I.loc,I.cell,I.free,I.jY,I.pin,I.hok,I.len⟩
theorem SP.nG{D:Ends}{f:Flow}{s':Shared}(h:SP (X.Ad E) pins D f s'):SP X pins D f s':=by
 cases f with
 |next=>obtain⟨am,H',I,q⟩:=h;exact⟨am,H',I.nG,q⟩
 |brk=>obtain⟨am,H',I,q⟩:=h;exact⟨am,H',I.nG,q⟩
 |cont=>obtain⟨am,H',I,q⟩:=h;exact⟨am,H',I.nG,q⟩
 |ret u=>obtain⟨v,am,H',I,r,q⟩:=h;exact⟨v,am,H',I.nG,r,q⟩
theorem PSs.nox{st:List Stmt}{t:TS}(h:PSs X.nox st t):PSs X st t:=fun pins s Z H D I hw=>
 wpAny_mono (h pins s Z H D (I.Ad _) hw) (fun _ _ q=>q.nG) fun _ _ z=>False.elim z
end
section
variable {X:Cx}{st:Stmt}{rest:List Stmt}{t u:TS}{e:Expr}{te:TE}{pos:Pos}
noncomputable def Su:TS:=fun D Z H=>D.nx Z H
noncomputable def SD(t u:TS):TS:=fun D Z H=>t {D with nx:=u D} Z H
theorem NL:PSs X [] Su:=fun _ _ Z H _ I h=>wpAny_execs_nil ⟨Z,H,I,h⟩
theorem Ek(h1:PS X st t)(h2:PSs X rest u):PSs X (st::rest) (SD t u):=by
 intro pins s Z H D I h
 refine wpAny_execs_cons (thn (h1 pins s Z H {D with nx:=u D} I h) fun f s1 q=>?_)
 cases f with
 |next=>
  obtain⟨am,H',I',q⟩:=q
  exact h2 pins s1 am H' D I' q
 |ret v=>exact q
 |brk=>exact q
 |cont=>exact q
theorem N4(h1:PS X st t):PSs X [st] t:=by
 intro pins s Z H D I h
 refine wpAny_execs_cons (thn (h1 pins s Z H D I h) fun f s1 q=>?_)
 cases f with
 |next=>exact wpAny_execs_nil q
 |ret v=>exact q
 |brk=>exact q
 |cont=>exact q
theorem Inv.quiet{pins:List (Addr×Obj)}{Z:St}{H:Hp}{s:Shared}(I:Inv X pins Z H s):interactive X.env=false:=by simp[interactive,I.ok.kind]
noncomputable def TJ(te:TE):TS:=fun D Z H=>te Z H fun _ H1=>D.nx Z H1
theorem Iy(he:PE X e te)(hs:swapsWith e none pos.line X.env=pure false:=by rfl):PS X (.Expr e pos) (TJ te):=by
 intro pins s Z H D I h
 exact wpAny_Expr_any (thn (he pins s Z H _ I h) fun v s1 ⟨x,H1,I1,r1,q1⟩=>⟨Z,H1,I1,q1⟩) I.quiet hs
noncomputable def Ul(te:TE):TS:=fun D Z H=>te Z H D.rt
theorem Qj(he:PE X e te):PS X (.Return (some e) pos) (Ul te):=by
 intro pins s Z H D I h
 exact wpAny_Return_some (thn (he pins s Z H _ I h) fun v s1 ⟨x,H1,I1,r1,q1⟩=>⟨x,Z,H1,I1,r1,q1⟩)
noncomputable def Ua(c:TT)(t u:TS):TS:=fun D Z H=>c Z H fun b H1=>if b=true then t D Z H1 else u D Z H1
theorem Pf{c:Expr}{a b:List Stmt}{tc:TT}(hc:PT X c tc)(ha:PSs X a t)(hb:PSs X b u):PS X (.If c a b pos) (Ua tc t u):=by
 intro pins s Z H D I h
 refine wpAny_If (thn (hc pins s Z H _ I h) fun d s1 ⟨H1,I1,q1⟩=>?_)
 cases d with
 |true=>exact ha pins s1 Z H1 D I1 q1
 |false=>exact hb pins s1 Z H1 D I1 q1
noncomputable def Qi:TS:=fun _ _ _=>False
theorem Bz{sts:List Stmt}:PSs X sts Qi:=fun _ _ _ _ _ _ h=>h.elim
end
abbrev TG:=V->St->Hp->(St->Hp->Prop)->Prop
abbrev TGs:=List V->St->Hp->(St->Hp->Prop)->Prop
noncomputable def PG(X:Cx)(target:Expr)(t:TG):Prop:=
 ∀(pins:List (Addr×Obj)) (s:Shared) (Z:St) (H:Hp) (v:V) (u:Value) (Q:St->Hp->Prop),Inv X pins Z H s->RelV v u->t v Z H Q ->
  wpAny (model X.prog X.w) X.A (assign target X.env u) (fun _ s'=>∃am H',Inv X pins am H' s'/\Q am H') X.xe s
noncomputable def PGs(X:Cx)(ts:List Expr)(t:TGs):Prop:=
 ∀(pins:List (Addr×Obj)) (s:Shared) (Z:St) (H:Hp) (vs:List V) (us:List Value) (Q:St->Hp->Prop),Inv X pins Z H s->Vals vs us->t vs Z H Q ->
  wpAny (model X.prog X.w) X.A (assignInOrder ((assignEach ts X.env).map (·.2)) us) (fun _ s'=>∃am H',Inv X pins am H' s'/\Q am H') X.xe s
abbrev QF:=V->V->V->Hp->(Hp->Prop)->Prop
noncomputable def Tx(X:Cx)(t:QF):Prop:=
 ∀(pins:List (Addr×Obj)) (s:Shared) (Z:St) (H:Hp) (o i v:V) (ov iv u:Value) (Q:Hp->Prop),Inv X pins Z H s->RelV o ov->RelV i iv->RelV v u->t o i v H Q ->
  wpAny (model X.prog X.w) X.A (setItem ov iv u) (fun _ s'=>∃H',Inv X pins Z H' s'/\Q H') X.xe s
section
variable {X:Cx}{pos:Pos}
noncomputable def KL(i:Nat):TG:=fun v Z H Q=>Q (Z.set i (some v)) H
theorem NZ{i:Nat}{x:Str}(hN:X.N.Nodup)(hi:X.N[i]? = some x)(hx:Loc X.env.scope x)(hf:X.fn x=true\/X.env.scope.names.lookup x=some .local:=by first|exact .inl rfl|exact .inr rfl|assumption):PG X (.Name x pos) (KL i):=by
 intro pins s Z H v u Q I r h
 exact wpAny_assign_Name (mK I hN hi hx r (fun s' I'=>⟨_,H,I',h⟩) hf)
def Ug:TGs:=fun vs Z H Q=>vs=[]/\Q Z H
def Ti(t:TG)(u:TGs):TGs:=fun vs Z H Q=>∃v r,vs=v::r/\t v Z H fun am H'=>u r am H' Q
theorem NK:PGs X [] Ug:=by
 intro pins s Z H vs us Q I r h
 obtain⟨e,h⟩:=h
 subst e
 cases r
 exact assignInOrder_nil ⟨Z,H,I,h⟩
theorem Mf{e:Expr}{es:List Expr}{t:TG}{u:TGs}(h1:PG X e t)(h2:PGs X es u)
  (hs:(assignEach (e::es) X.env).map (·.2)=assign e X.env::(assignEach es X.env).map (·.2):=by rfl):PGs X (e::es) (Ti t u):=by
 intro pins s Z H vs us Q I r h
 obtain⟨v,vr,e1,h⟩:=h
 subst e1
 cases r with
 |cons r rr=>
  rw[hs]
  refine assignInOrder_cons (thn (h1 pins s Z H _ _ _ I r h) fun _ s1 ⟨na,H1,I1,q1⟩=>?_)
  exact h2 pins s1 na H1 _ _ Q I1 rr q1
noncomputable def T5(K:PySem.W.Frag)(n:Nat)(t:TGs):TG:=fun v Z H Q=>∃a xs,v = .ref a/\SqT K H a xs/\xs.length=n/\t xs Z H Q
theorem Rm{es:List Expr}{k:Nat}{t:TGs}{n:Nat}(hc:X.calm=X.calm)(h:PGs X es t)
  (hn:(assignEach es X.env).length=n:=by rfl) (hst:(assignEach es X.env).findIdx? (·.1)=none:=by rfl):PG X (.Tuple es k pos) (T5 X.K n t):=by
 intro pins s Z H v u Q I r hw
 obtain⟨a,xs,e1,hq,hl,hw⟩:=hw
 subst e1
 cases r
 obtain⟨its,rv,ht,hz⟩:=I.tuple hq
 refine AS I.Gq ht (by simp[hn,<- hl,rv.length]) hst fun h' hx=>?_
 have I1:Inv X pins Z H {s with heap:=h'}:=I.kept (t':=s.toks) fun b o e=>hx b o (ne_of_lt (Heap.lt_size e)) e
 exact h pins _ Z H xs _ Q I1 (by simpa using rv) hw
noncomputable def TV(to ti:TE)(t:QF):TG:=fun v Z H Q=>to Z H fun o H1=>ti Z H1 fun i H2=>t o i v H2 fun H3=>Q Z H3
theorem Q4{o i:Expr}{to ti:TE}{t:QF}(ho:PE X o to)(hi:PE X i ti)(hs:Tx X t)
  (ha:∀v,assign (.Subscript o i pos) X.env v=(do
   let ov <- holding [v] (eval o X.env)
   let iv <- holding [v,ov] (eval i X.env)
   standAt pos
   holding [v,ov,iv] (setItem ov iv v)
   release [v,ov,iv] []):=by intro _;rfl):PG X (.Subscript o i pos) (TV to ti t):=by
 intro pins s Z H v u Q I r h
 rw[ha]
 refine wpAny_bind (wpAny_holding (thn (ho pins s Z H _ I h) fun ov s1 ⟨x,H1,I1,r1,q1⟩=>?_))
 refine wpAny_bind (wpAny_holding (thn (hi pins s1 Z H1 _ I1 q1) fun iv s2 ⟨y,H2,I2,r2,q2⟩=>?_))
 refine wpAny_bind (wpAny_standAt (wpAny_bind (wpAny_holding (thn (hs pins s2 Z H2 x y v ov iv u _ I2 r1 r2 r q2) fun _ s3 ⟨H3,I3,q3⟩=>?_))))
 exact wpAny_release ⟨Z,H3,I3,q3⟩
noncomputable def Qn(te:TE)(g:TG):TS:=fun D Z H=>te Z H fun x H1=>g x Z H1 D.nx
theorem Qk{tg e:Expr}{te:TE}{g:TG}(he:PE X e te)(hg:PG X tg g)(hs:swapsWithSole [tg] e pos.line X.env=pure false:=by rfl)(hw:swappedStores [tg] e X.env=pure none:=by rfl)
  (h1:(assignEach [tg] X.env).map (·.2)=[assign tg X.env]:=by rfl):PS X (.Assign [tg] e pos) (Qn te g):=by
 intro pins s Z H D I h
 refine wpAny_Assign_stores (thn (he pins s Z H _ I h) fun v s1 ⟨x,H1,I1,r1,q1⟩=>?_) hs hw
 rw[h1]
 exact thn (hg pins s1 Z H1 x v _ I1 r1 q1) fun _ s2 q=>q
theorem Qz{i:Nat}{x:Str}{e:Expr}{te:TE}{pos':Pos}(hN:X.N.Nodup)(hi:X.N[i]? = some x)(hx:Loc X.env.scope x)(he:PE X e te)(hs:swapsWith e (some (.Name x pos')) pos.line X.env=pure false:=by rfl)(hf:X.fn x=true\/X.env.scope.names.lookup x=some .local:=by first|exact .inl rfl|exact .inr rfl|assumption) :
  PS X (.Assign [.Name x pos'] e pos) (Qn te (KL i)):=by
 intro pins s Z H D I h
 refine wpAny_Assign_Name (thn (he pins s Z H _ I h) fun v s1 ⟨y,H1,I1,r1,q1⟩=>?_) hs
 exact mK I1 hN hi hx r1 (fun s2 I2=>⟨_,H1,I2,q1⟩) hf
noncomputable def Ui(i j:Nat)(ta:TA):TS:=fun D Z H=>ta Z H fun vs H1=>∃v w,vs=[v,w]/\D.nx ((Z.set i (some v)).set j (some w)) H1
theorem Pu{i j:Nat}{x y:Str}{a b:Expr}{ta:TA}{px py pt:Pos}{kt k2 pt2}(hc:X.calm=true)(hN:X.N.Nodup)(hi:X.N[i]? = some x)(hj:X.N[j]? = some y)(hij:i≠j)
  (hx:X.env.scope.names.lookup x=some .local) (hy:X.env.scope.names.lookup y=some .local) (ha:PA X [a,b] ta)
  (hw:swappedStores [.Tuple [.Name x px,.Name y py] kt pt] (.Tuple [a,b] k2 pt2) X.env=pure (some [x,y]))
  (hs:swapsWithSole [.Tuple [.Name x px,.Name y py] kt pt] (.Tuple [a,b] k2 pt2) pos.line X.env=pure false:=by rfl) :
  PS X (.Assign [.Tuple [.Name x px,.Name y py] kt pt] (.Tuple [a,b] k2 pt2) pos) (Ui i j ta):=by
 intro pins s Z H D I h
 rw[exec_Assign_arm]
 refine wpAny_bind (wpAny_standAt ?_)
 rw[hs]
 refine wpAny_bind (wpAny_pure ?_)
 rw[if_neg ⋯]
 refine wpAny_bind (Tuple_ (thn (ha _ pins s Z H _ I h) fun us s1 ⟨vs,H1,I1,r1,q1⟩=>?_))
 obtain⟨v,w,e1,q1⟩:=q1
 subst e1
 obtain⟨u1,u2,rfl,rv,rw'⟩:∃u1 u2,us=[u1,u2]/\RelV v u1/\RelV w u2:=by
  cases r1 with
  |cons p q=>
   cases q with
   |cons p' q'=>
    cases q'
    exact⟨_,_,rfl,p,p'⟩
 refine wpAny_newObj_type ?_ (by show 2<=sizeLine;decide)
 have I2:Inv X pins Z H1 {s1 with heap:=s1.heap.push {cls:=.type "tuple",data:=.seq [u1,u2].toArray}}:=I1.kept (t':=s1.toks) fun b o e=>Heap.get?_push_of_some _ e
 rw[hw]
 refine wpAny_bind (wpAny_pure ?_)
 show wpAny (model X.prog X.w) X.A (do rule "assign.swapped-stores";let items <- unpackItems (.ref s1.heap.objs.size) 2 none;assignInOrder [fun v=>bindName X.env y v,fun v=>bindName X.env x v] items.reverse;pure Flow.next) _ _ _
 refine wpAny_bind (wpAny_rule (wpAny_bind (unpackItems_tuple (items:=#[u1,u2]) (I.ok.hd hc) (IsTup.new s1.heap _) fun h' hx'=>?_)))
 have I3:=I2.kept (h':=h') (t':=s1.toks) fun b o e=>hx' b o (ne_of_lt (Heap.lt_size e)) e
 show wpAny _ _ (assignInOrder [fun v=>bindName X.env y v,fun v=>bindName X.env x v] [u2,u1]>>=fun _=>pure Flow.next) _ _ _
 refine wpAny_bind (assignInOrder_cons (wpAny_bindName (mK I3 hN hj (.inl hy) rw' (fun s2 I4=>?_) (.inr hy))))
 refine assignInOrder_cons (wpAny_bindName (mK I4 hN hi (.inl hx) rv (fun s3 I5=>assignInOrder_nil (wpAny_pure ?_)) (.inr hx)))
 rw[List.set_comm _ _ (Ne.symm hij)] at I5
 exact⟨_,H1,I5,q1⟩
end
section
variable {X:Cx}{pos:Pos}
noncomputable def PF(c:TT)(tb:TS):TS:=fun D Z H=>∃W:Nat->St->Hp->Prop,(∃m,W m Z H)/\∀m Z H,W m Z H ->
 c Z H fun b H1=>if b=true then ∃N:St->Hp->Prop,(∀am H',N am H'->∃m',m'<m/\W m' am H')/\tb {D with nx:=N,ct:=N,bk:=D.nx} Z H1 else D.nx Z H1
theorem Mb{c:Expr}{body:List Stmt}{tc:TT}{tb:TS}(hp:PassesOwn (model X.prog X.w) X.A X.env X.xe)(hc:PT X c tc)(hb:PSs X body tb):PS X (.While c body [] pos) (PF tc tb):=by
 intro pins s Z H D I h
 obtain⟨W,⟨m0,w0⟩,turn⟩:=h
 refine wpAny_While (codeAny_whileLoop (fun n s'=>∃am H',Inv X pins am H' s'/\W n am H') ?_ m0 ⟨Z,H,I,w0⟩)
 rintro n s1 ⟨na,H1,I1,w1⟩
 refine wpAny_passesOwn hp (thn (hc pins s1 na H1 _ I1 (turn n na H1 w1)) fun b s2 ⟨H2,I2,q2⟩=>?_)
 cases b with
 |true=>
  obtain⟨N,hN,q2⟩:=q2
  rw[if_pos rfl]
  refine wpAny_passesOwn hp (thn (hb pins s2 na H2 _ I2 q2) fun f s3 q3=>?_)
  cases f with
  |next=>
   obtain⟨mt,H3,I3,n3⟩:=q3
   obtain⟨m',hm,w3⟩:=hN mt H3 n3
   exact⟨m',hm,mt,H3,I3,w3⟩
  |cont=>
   obtain⟨mt,H3,I3,n3⟩:=q3
   obtain⟨m',hm,w3⟩:=hN mt H3 n3
   exact⟨m',hm,mt,H3,I3,w3⟩
  |brk=>exact q3
  |ret v=>exact q3
 |false=>
  rw[if_neg Bool.false_ne_true]
  exact wpAny_execs_nil ⟨na,H2,I2,q2⟩
end
structure It where
 go:Nat->Hp->Prop
 yld:Nat->Hp->V->Hp->Prop
 stop:Nat->Hp->Prop
noncomputable def Cv(X:Cx)(pins:List (Addr×Obj))(H:Hp)(b:Addr):Prop:=
 H b=none/\b≠X.env.locals/\b ∉ X.fs/\(b∈X.ex\/X.dl.heap.objs.size<=b)/\(∀x c,X.env.cells.lookup x=some c->c≠b)/\∀p∈X.pn++pins,p.1≠b
theorem Inv.Nq{X:Cx}{pins:List (Addr×Obj)}{Z:St}{H H':Hp}{s:Shared}{b:Addr}(I:Inv X pins Z H s)(hb:s.heap.objs.size<=b)(hn:H' b=none):Cv X pins H' b:=by
 refine⟨hn,Nat.ne_of_gt (lt_of_lt_of_le I.lt hb),I.Ue hb,.inr (le_trans I.sz hb),fun x c e z=>?_,fun p hp z=>?_⟩
 ·obtain⟨v,q⟩:=I.cell x c e
  exact absurd (lt_of_lt_of_le q.lt (by rw[z];exact hb)) (lt_irrefl _)
 ·exact absurd (lt_of_lt_of_le (Heap.lt_size (I.pin p hp).1) (by rw[z];exact hb)) (lt_irrefl _)
structure Turn(c:Bool)(P:Program)(w:World)(K:PySem.W.Frag)(tg:Expr)(J:It)(fp:List Addr)(it:Addr)(tn:Nat->Heap->Prop):Prop where
 mem:it∈fp
 obj:∀i h,tn i h->∀b∈fp,∃o,h.get? b=some o/\∀v,o.data≠.cell v
 keep:∀i h h',tn i h->(∀b∈fp,∀o,h.get? b=some o->h'.get? b=some o)->tn i h'
 item:∀(X:Cx),X.prog=P->X.w=w->X.K=K->(c=true->X.calm=true)->∀(i:Nat) (pins:List (Addr×Obj)) (s:Shared) (Z:St) (H:Hp) (E:Value->Shared->Prop),Inv X pins Z H s->(∀b∈fp,Cv X pins H b)->tn i s.heap->J.go i H ->
  wpAny (model P w) X.A (pyNext (.ref it)) (fun r s1=>∃u,r=some u /\
   wpAny (model P w) X.A (letOwnedTupleGo tg (.ref it) u) (fun _ s2=>∃x H',Inv X pins Z H' s2/\RelV x u/\J.yld i H x H'/\tn (i+1) s2.heap/\∀b∈fp,H' b=none) E s1) E s
 done:∀(X:Cx),X.prog=P->X.w=w->X.K=K->(c=true->X.calm=true)->∀(i:Nat) (pins:List (Addr×Obj)) (s:Shared) (Z:St) (H:Hp) (E:Value->Shared->Prop),Inv X pins Z H s->(∀b∈fp,Cv X pins H b)->tn i s.heap->J.stop i H ->
  wpAny (model P w) X.A (pyNext (.ref it)) (fun r s1=>r=none/\Inv X pins Z H s1) E s
 self:∀(A:Around) (i:Nat) (s:Shared) (Q:Value->Shared->Prop) (E:Value->Shared->Prop),tn i s.heap->Q (.ref it) s->wpAny (model P w) A (pyIter (.ref it)) Q E s
theorem Turn.calm{c:Bool}{P:Program}{w:World}{K:PySem.W.Frag}{tg:Expr}{J:It}{fp:List Addr}{it:Addr}{tn:Nat->Heap->Prop}(T:Turn true P w K tg J fp it tn)(h:c=true):Turn c P w K tg J fp it tn:=by subst h;exact T
abbrev TI:=St->Hp->(It->Hp->Prop)->Prop
noncomputable def PIE(X:Cx)(pins:List (Addr×Obj))(Z:St)(tg:Expr)(R:It->Hp->Prop)(itv:Value)(s2:Shared):Prop:=
 ∃(it:Addr) (fp:List Addr) (tn:Nat->Heap->Prop) (J:It) (H':Hp),itv = .ref it/\Inv X pins Z H' s2/\Turn X.calm X.prog X.w X.K tg J fp it tn/\tn 0 s2.heap/\(∀b∈fp,Cv X pins H' b)/\R J H'
noncomputable def PI(X:Cx)(tg iter:Expr)(wi:TI):Prop:=
 ∀(pins:List (Addr×Obj)) (s:Shared) (Z:St) (H:Hp) (R:It->Hp->Prop),Inv X pins Z H s->wi Z H R ->
  wpAny (model X.prog X.w) X.A (eval iter X.env) (fun v s1=>wpAny (model X.prog X.w) X.A (pyIter v) (PIE X pins Z tg R) X.xe s1) X.xe s
theorem Mw{M:Model}{A:Around}{E:Value->Shared->Prop}{s:Shared}{tg:Expr}{it:Addr}{u:Value}{o:Obj}{n:String}{vs:Array Value}{Q:Unit->Shared->Prop}(ho:s.heap.get? it=some o)(hc:o.cls = .type n)(hd:o.data = .fields vs)
  (hn:["enumerate","zip","dict_itemiterator","dict_reverseitemiterator","odict_iterator","itertools.zip_longest","itertools.pairwise"].contains n=false) (hQ:Q () s):wpAny M A (letOwnedTupleGo tg (.ref it) u) Q E s:=by
 unfold letOwnedTupleGo
 cases tg<;>first
  |exact wpAny_pure hQ
  |(cases u<;>first
    |exact wpAny_pure hQ
    |(refine wpAny_bind (wpAny_load ho ?_)
      rw[hc,hd]
      show wpAny M A (if (["enumerate","zip","dict_itemiterator","dict_reverseitemiterator","odict_iterator","itertools.zip_longest","itertools.pairwise"].contains n&&vs[0]?==some (rawInt _))=true then _ else _) Q E s
      rw[if_neg (by intro h;rw[hn,Bool.false_and] at h;cases h)]
      exact wpAny_pure hQ))
def Itl(K:PySem.W.Frag)(a:Addr):It:=
 ⟨fun i H=>∃xs x,SqL K H a xs/\xs[i]? = some x,fun i H x H'=>H'=H/\∀xs,SqL K H a xs->xs[i]? = some x,fun i H=>∃xs,SqL K H a xs/\xs.length<=i⟩
def Itt(K:PySem.W.Frag)(a:Addr):It:=
 ⟨fun i H=>∃xs x,SqT K H a xs/\xs[i]? = some x,fun i H x H'=>H'=H/\∀xs,SqT K H a xs->xs[i]? = some x,fun i H=>∃xs,SqT K H a xs/\xs.length<=i⟩
def Itr(lo:Int)(n:Nat):It:=⟨fun i _=>i<n,fun i H x H'=>H'=H/\x = .int (lo+i),fun i _=>n<=i⟩
theorem JY{c:Bool}{P:Program}{w:World}{K:PySem.W.Frag}{tg:Expr}(a it:Addr):Turn c P w K tg (Itl K a) [it] it (fun i h=>h.IsListIter it a i) where
 mem:=by simp
 obj:=fun i h st b hb=>by
  have e:b=it:=by simpa using hb
  subst e
  obtain⟨o,e,c,d⟩:=st
  exact⟨o,e,fun v z=>by rw[d] at z;cases z⟩
 keep:=fun i h h' st k=>st.at fun o e=>k it (by simp) o e
 item:=by
  intro X hP hw hK hc i pins s Z H E I hf st hg
  subst hP hw hK
  obtain⟨xs,x,hq,hx⟩:=hg
  obtain⟨its,rv,p,hz⟩:=I.list hq
  obtain⟨u,hu,ru⟩:=rv.get hx
  obtain⟨f0,f1,f2,f3,f4,f5⟩:=hf it (by simp)
  refine wpAny_pyNext_list_item st p.isList (x:=u) (by simpa using hu) fun h' st' sb=>?_
  have I1:Inv X pins Z H {s with heap:=h'}:=I.turned (t':=s.toks) (fun b o hb e=>(sb.2 b hb).trans e) f0 f1 f3 f4 f5
  obtain⟨o,e,c,d⟩:=id st'
  exact⟨u,rfl,Mw (s:={s with heap:=h'}) e c d ⋯ ⟨x,H,I1,ru,⟨rfl,fun ys hy=>by rw[I.Lx hy hq];exact hx⟩,st',fun b hb=>(hf b hb).1⟩⟩
 done:=by
  intro X hP hw hK hc i pins s Z H E I hf st hg
  subst hP hw hK
  obtain⟨xs,hq,hx⟩:=hg
  obtain⟨its,rv,p,hz⟩:=I.list hq
  obtain⟨f0,f1,f2,f3,f4,f5⟩:=hf it (by simp)
  have hl:=rv.length
  exact Ba I.Gq (I.hne f5) st p.isList (by simp;omega) fun h' eb=>⟨rfl,I.turned (t':=s.toks) (fun b o hb e=>eb b o hb e) f0 f1 f3 f4 f5⟩
 self:=fun _ _ _ _ _ st h=>wpAny_pyIter_listiter st h
theorem GS{c:Bool}{P:Program}{w:World}{K:PySem.W.Frag}{tg:Expr}(a it:Addr):Turn c P w K tg (Itt K a) [it] it (fun i h=>h.IsTupleIter it a i) where
 mem:=by simp
 obj:=fun i h st b hb=>by
  have e:b=it:=by simpa using hb
  subst e
  obtain⟨o,e,c,d⟩:=st
  exact⟨o,e,fun v z=>by rw[d] at z;cases z⟩
 keep:=fun i h h' st k=>st.at fun o e=>k it (by simp) o e
 item:=by
  intro X hP hw hK hc i pins s Z H E I hf st hg
  subst hP hw hK
  obtain⟨xs,x,hq,hx⟩:=hg
  obtain⟨its,rv,p,hz⟩:=I.tuple hq
  obtain⟨u,hu,ru⟩:=rv.get hx
  obtain⟨f0,f1,f2,f3,f4,f5⟩:=hf it (by simp)
  refine wpAny_pyNext_tuple_item st (show s.heap.IsTuple a its.toArray from p) (x:=u) (by simpa using hu) fun h' st' sb=>?_
  have I1:Inv X pins Z H {s with heap:=h'}:=I.turned (t':=s.toks) (fun b o hb e=>(sb.2 b hb).trans e) f0 f1 f3 f4 f5
  obtain⟨o,e,c,d⟩:=id st'
  exact⟨u,rfl,Mw (s:={s with heap:=h'}) e c d ⋯ ⟨x,H,I1,ru,⟨rfl,fun ys hy=>by rw[I.JX hy hq];exact hx⟩,st',fun b hb=>(hf b hb).1⟩⟩
 done:=by
  intro X hP hw hK hc i pins s Z H E I hf st hg
  subst hP hw hK
  obtain⟨xs,hq,hx⟩:=hg
  obtain⟨its,rv,p,hz⟩:=I.tuple hq
  obtain⟨f0,f1,f2,f3,f4,f5⟩:=hf it (by simp)
  have hl:=rv.length
  exact uc I.Gq (I.hne f5) st (show s.heap.IsTuple a its.toArray from p) (by simp;omega) fun h' eb=>⟨rfl,I.turned (t':=s.toks) (fun b o hb e=>eb b o hb e) f0 f1 f3 f4 f5⟩
 self:=fun _ _ _ _ _ st h=>wpAny_pyIter_tupleiter st h
theorem G7{P:Program}{w:World}{K:PySem.W.Frag}{tg:Expr}(it:Addr)(lo:Int)(n:Nat):Turn true P w K tg (Itr lo n) [it] it (fun i h=>IsRangeIter h it (lo+(i:Nat)*1) ((n:Int)-(i:Nat)) 1) where
 mem:=by simp
 obj:=fun i h st b hb=>by
  have e:b=it:=by simpa using hb
  subst e
  exact⟨_,st,fun v z=>by
   have z':Data.fields _=Data.cell v:=z
   cases z'⟩
 keep:=fun i h h' st k=>k it (by simp) _ st
 item:=by
  intro X hP hw hK hc i pins s Z H E I hf st hg
  subst hP hw hK
  obtain⟨f0,f1,f2,f3,f4,f5⟩:=hf it (by simp)
  have W:=Walks.range (prog:=X.prog) (w:=X.w) (I.ok.hd (hc rfl)) it lo 1 n
  refine W.item i s _ _ hg st fun v h' tk hv st' kk=>?_
  obtain⟨t,rfl⟩:=hv
  have I1:Inv X pins Z H {s with heap:=h',toks:=tk}:=I.turned (fun b o hb e=>kk b o (by simpa using hb) e) f0 f1 f3 f4 f5
  refine⟨_,rfl,Mw (s:={s with heap:=h',toks:=tk}) (n:="range_iterator") st' rfl rfl ⋯ ⟨.int (lo+i),H,I1,⟨t,?_⟩,⟨rfl,rfl⟩,st',fun b hb=>(hf b hb).1⟩⟩
  rw[Int.mul_one]
 done:=by
  intro X hP hw hK hc i pins s Z H E I hf st hg
  subst hP hw hK
  obtain⟨f0,f1,f2,f3,f4,f5⟩:=hf it (by simp)
  exact wpAny_pyNext_range_end (I.ok.hd (hc rfl)) st (by have:n<=i:=hg;omega) fun h' eb=>⟨rfl,I.turned (t':=s.toks) (fun b o hb e=>eb b o hb e) f0 f1 f3 f4 f5⟩
 self:=fun _ _ _ _ _ st h=>wpAny_pyIter_rangeiter st h
end L2
namespace L2
open PySem PySem.Spec PyProof.Rows
section
variable {X:Cx}{tg:Expr}
noncomputable def Td(K:PySem.W.Frag)(tl:TE):TI:=fun Z H R=>tl Z H fun x H1=>∃a,x = .ref a/\(∃xs,SqL K H1 a xs)/\R (Itl K a) H1
noncomputable def Ud(K:PySem.W.Frag)(tl:TE):TI:=fun Z H R=>tl Z H fun x H1=>∃a,x = .ref a/\(∃xs,SqT K H1 a xs)/\R (Itt K a) H1
theorem Oh{l:Expr}{tl:TE}(hl:PE X l tl):PI X tg l (Td X.K tl):=by
 intro pins s Z H R I h
 refine thn (hl pins s Z H _ I h) fun v s1 ⟨x,H1,I1,r1,q1⟩=>?_
 obtain⟨a,e,⟨xs,hq⟩,q⟩:=q1
 subst e
 cases r1
 obtain⟨its,rv,p,hz⟩:=I1.list hq
 refine wpAny_pyIter_list p.isList ?_
 refine⟨s1.heap.objs.size,[s1.heap.objs.size],_,_,H1,rfl,I1.kept (t':=s1.toks) fun b o e=>Heap.get?_push_of_some _ e,JY a _,⟨_,Heap.get?_push_size _ rfl,rfl,rfl⟩,fun b hb=>?_,q⟩
 have e:b=s1.heap.objs.size:=by simpa using hb
 subst e
 exact I1.Nq (Nat.le_refl _) (I1.hok.fresh (Nat.le_refl _))
theorem RM{l:Expr}{tl:TE}(hl:PE X l tl):PI X tg l (Ud X.K tl):=by
 intro pins s Z H R I h
 refine thn (hl pins s Z H _ I h) fun v s1 ⟨x,H1,I1,r1,q1⟩=>?_
 obtain⟨a,e,⟨xs,hq⟩,q⟩:=q1
 subst e
 cases r1
 obtain⟨its,rv,p,hz⟩:=I1.tuple hq
 refine wpAny_pyIter_tuple (show s1.heap.IsTuple a its.toArray from p) ?_
 refine⟨s1.heap.objs.size,[s1.heap.objs.size],_,_,H1,rfl,I1.kept (t':=s1.toks) fun b o e=>Heap.get?_push_of_some _ e,GS a _,⟨_,Heap.get?_push_size _ rfl,rfl,rfl⟩,fun b hb=>?_,q⟩
 have e:b=s1.heap.objs.size:=by simpa using hb
 subst e
 exact I1.Nq (Nat.le_refl _) (I1.hok.fresh (Nat.le_refl _))
theorem E1(hc:X.calm=true){pins:List (Addr×Obj)}{Z:St}{H:Hp}{s:Shared}{R:It->Hp->Prop}{E:Value->Shared->Prop}{lo hi:Int}{t u v:Tok}{tk:Nat}(I:Inv X pins Z H s)(h1:-(2 ^ 62)<=lo)(h2:lo<2 ^ 62)(h3:-(2 ^ 62)<=hi)(h4:hi<2 ^ 62)
  (q:R (Itr lo (hi-lo).toNat) H):wpAny (model X.prog X.w) X.A (pyIter (.ref s.heap.objs.size)) (PIE X pins Z tg R) E {s with heap:=s.heap.push {cls:=.type "range",data:=.fields #[.int lo t,.int hi u,.int 1 v]},toks:=tk}:=by
 refine wpAny_pyIter_range (IsRange.new ..) (small_one h1 h2 h3 h4) ?_
 have I1:Inv X pins Z H {s with heap:=s.heap.push {cls:=.type "range",data:=.fields #[.int lo t,.int hi u,.int 1 v]},toks:=tk}:=I.kept fun b o e=>Heap.get?_push_of_some _ e
 refine⟨(s.heap.push {cls:=.type "range",data:=.fields #[.int lo t,.int hi u,.int 1 v]}).objs.size,[(s.heap.push {cls:=.type "range",data:=.fields #[.int lo t,.int hi u,.int 1 v]}).objs.size],_,_,H,rfl,
  I1.kept (t':=tk) fun b o e=>Heap.get?_push_of_some _ e,(G7 _ lo (hi-lo).toNat).calm hc,?_,fun b hb=>?_,q⟩
 ·have e1:lo+((0:Nat):Int)*1=lo:=by simp
  have e2:(((hi-lo).toNat:Nat):Int)-((0:Nat):Int)=Builtin.Range.rangeSize lo hi 1:=by rw[rangeSize_one];split<;>omega
  show IsRangeIter _ _ (lo+((0:Nat):Int)*1) ((((hi-lo).toNat:Nat):Int)-((0:Nat):Int)) 1
  rw[e1,e2]
  exact Heap.get?_push_size _ rfl
 ·have e:b=(s.heap.push {cls:=.type "range",data:=.fields #[.int lo t,.int hi u,.int 1 v]}).objs.size:=by simpa using hb
  subst e
  exact I1.Nq (Nat.le_refl _) (I1.hok.fresh (Nat.le_refl _))
noncomputable def Se(ta:TA):TI:=fun Z H R=>ta Z H fun vs H1=>∃j:Int,vs=[.int j]/\-(2 ^ 62)<=j/\j<2 ^ 62/\R (Itr 0 j.toNat) H1
noncomputable def SA(ta:TA):TI:=fun Z H R=>ta Z H fun vs H1=>∃i j:Int,vs=[.int i,.int j]/\(-(2 ^ 62)<=i/\i<2 ^ 62/\-(2 ^ 62)<=j/\j<2 ^ 62)/\R (Itr i (j-i).toNat) H1
theorem JS{a:Expr}{ta:TA}{p pos:Pos}(hc:X.calm=true)(hg:Gl X "range")(hm:X.mg "range"=none)(ha:PA X [a] ta)(hs:starEach [a] X.env=[(false,eval a X.env)]:=by rfl):PI X tg (.Call (.Name "range" p) [a] [] pos) (Se ta):=by
 intro pins s Z H R I h
 refine Call_ (yN I hg hm boot_range (PyProof.Rows.callWith_type1 (thn (ha pos pins s Z H _ I h) fun us s1 ⟨vs,H1,I1,r1,q1⟩=>?_) hs rfl))
 obtain⟨j,e,q1,q2,q⟩:=q1
 subst e
 cases r1 with
 |cons r rr=>
  cases rr
  obtain⟨t,rfl⟩:=r
  exact call_range_1 (E1 hc I1 ∅ ∅ q1 q2 (by simpa using q))
theorem JA{a b:Expr}{ta:TA}{p pos:Pos}(hc:X.calm=true)(hg:Gl X "range")(hm:X.mg "range"=none)(ha:PA X [a,b] ta)(hs:starEach [a,b] X.env=[(false,eval a X.env),(false,eval b X.env)]:=by rfl)(hs2:starEach [b] X.env=[(false,eval b X.env)]:=by rfl) :
  PI X tg (.Call (.Name "range" p) [a,b] [] pos) (SA ta):=by
 intro pins s Z H R I h
 refine Call_ (yN I hg hm boot_range (PyProof.Rows.callWith_type1 (thn (ha pos pins s Z H _ I h) fun us s1 ⟨vs,H1,I1,r1,q1⟩=>?_) (by rw[hs,hs2]) (by rw[hs2];rfl)))
 obtain⟨i,j,e,⟨q1,q2,q3,q4⟩,q⟩:=q1
 subst e
 cases r1 with
 |cons r rr=>
  cases rr with
  |cons r' rr=>
   cases rr
   obtain⟨t,rfl⟩:=r
   obtain⟨t',rfl⟩:=r'
   exact call_range_2 (E1 hc I1 q1 q2 q3 q4 q)
noncomputable def TR(wi:TI)(g:TG)(tb:TS):TS:=fun D Z H=>wi Z H fun J H1=>∃W:Nat->Nat->St->Hp->Prop,(∃m,W 0 m Z H1)/\∀i m Z H,W i m Z H ->
 (J.stop i H/\D.nx Z H)\/(J.go i H/\∃N:St->Hp->Prop,(∀am H',N am H'->∃m',m'<m/\W (i+1) m' am H')/\∀x H',J.yld i H x H'->g x Z H' fun tt H2=>tb {D with nx:=N,ct:=N,bk:=D.nx} tt H2)
def wX(fp:List Addr)(h:Heap):List (Addr×Obj):=fp.filterMap fun b=>(h.get? b).map fun o=>(b,o)
theorem gC{fp:List Addr}{h:Heap}{b:Addr}{o:Obj}(hb:b∈fp)(e:h.get? b=some o):(b,o)∈wX fp h:=List.mem_filterMap.mpr ⟨b,hb,by rw[e];rfl⟩
theorem JE{fp:List Addr}{h:Heap}{p:Addr×Obj}(hp:p∈wX fp h):p.1∈fp/\h.get? p.1=some p.2:=by
 obtain⟨b,hb,e⟩:=List.mem_filterMap.mp hp
 cases q:h.get? b with
 |none=>rw[q] at e;cases e
 |some o=>
  rw[q] at e
  have e':(b,o)=p:=Option.some.inj e
  subst e'
  exact⟨hb,q⟩
theorem Inv.pinned{pins:List (Addr×Obj)}{Z:St}{H:Hp}{s:Shared}{fp:List Addr}(I:Inv X pins Z H s)(hf:∀b∈fp,Cv X pins H b)(ho:∀b∈fp,∃o,s.heap.get? b=some o/\∀v,o.data≠.cell v):Inv X (pins++wX fp s.heap) Z H s:=
 I.HE fun p hp=>(List.mem_append.mp hp).elim (fun z=>I.pin p (mem_append_right _ z)) fun z=>by
  obtain⟨hb,e⟩:=JE z
  obtain⟨f0,f1,f2,_⟩:=hf p.1 hb
  obtain⟨o,e',d⟩:=ho p.1 hb
  rw[e] at e';cases e'
  exact⟨e,f0,f1,f2,d⟩
theorem Inv.mV{pins pl:List (Addr×Obj)}{Z:St}{H:Hp}{s:Shared}(I:Inv X (pins++pl) Z H s):Inv X pins Z H s:=I.HE fun p hp=>I.pin p (mem_append_right _ (mem_append_left _ hp))
theorem RL{iter:Expr}{body:List Stmt}{wi:TI}{g:TG}{tb:TS}{pos:Pos}(hp:PassesOwn (model X.prog X.w) X.A X.env X.xe)(hc:X.calm=true)(hi:PI X tg iter wi)(hg:PG X tg g)(hb:PSs X body tb)
  (hs:∀x,foldedSetIterable iter X.env x=pure x:=by intro _;rfl):PS X (.For tg iter body [] pos) (TR wi g tb):=by
 intro pins s Z H D I h
 refine wpAny_For (thn (hi pins s Z H _ I h) fun v s1 h1=>thn h1 fun itv s2 h2=>?_) hs
 obtain⟨it,fp,tn,J,H2,e,I2,T,st2,f2,W,⟨m0,w0⟩,turn⟩:=h2
 subst e
 have stat:∀{H':Hp},(∀b∈fp,H' b=none)->∀b∈fp,Cv X pins H' b:=fun hn b hb=>⟨hn b hb,(f2 b hb).2⟩
 refine codeAny_forLoop_any (fun n s'=>∃i am H',Inv X pins am H' s'/\tn i s'.heap/\(∀b∈fp,H' b=none)/\W i n am H') ?_ m0 ⟨0,Z,H2,I2,st2,fun b hb=>(f2 b hb).1,w0⟩
 rintro n s3 ⟨i,mt,H3,I3,st3,fr3,w3⟩
 rcases turn i n mt H3 w3 with ⟨stop,qn⟩|⟨go,N,hN,step⟩
 ·refine wpAny_passesOwn hp (thn (T.done X rfl rfl rfl (fun z=>z) i pins s3 mt H3 X.xe I3 (stat fr3) st3 stop) fun r s4 ⟨hr,I4⟩=>?_)
  subst hr
  exact wpAny_execs_nil ⟨mt,H3,I4,qn⟩
 ·refine wpAny_passesOwn hp (thn (T.item X rfl rfl rfl (fun z=>z) i pins s3 mt H3 X.xe I3 (stat fr3) st3 go) fun r s4 ⟨u,hr,h4⟩=>?_)
  subst hr
  refine wpAny_passesOwn hp (thn h4 fun _ s5 ⟨x,H5,I5,r5,y5,st5,fr5⟩=>?_)
  have I5':=I5.pinned (stat fr5) (T.obj _ _ st5)
  refine wpAny_passesOwn hp (thn (hg _ s5 mt H5 x u _ I5' r5 (step x H5 y5)) fun _ s6 ⟨j',H6,I6,q6⟩=>?_)
  refine wpAny_passesOwn hp (thn (hb _ s6 j' H6 _ I6 q6) fun f s7 q7=>?_)
  have again:∀{ms:St} {H7:Hp},Inv X (pins++wX fp s5.heap) ms H7 s7->N ms H7->∃m,m<n/\∃i am H',Inv X pins am H' s7/\tn i s7.heap/\(∀b∈fp,H' b=none)/\W i m am H':=fun {ms H7} I7 n7=>by
   obtain⟨m',hm,w7⟩:=hN ms H7 n7
   refine⟨m',hm,i+1,ms,H7,I7.mV,T.keep _ _ _ st5 fun b hb o e=>(I7.pin (b,o) (mem_append_right _ (mem_append_right _ (gC hb e)))).1,fun b hb=>?_,w7⟩
   obtain⟨o,e,d⟩:=T.obj _ _ st5 b hb
   exact (I7.pin (b,o) (mem_append_right _ (mem_append_right _ (gC hb e)))).2.1
  cases f with
  |next=>obtain⟨ms,H7,I7,n7⟩:=q7;exact again I7 n7
  |cont=>obtain⟨ms,H7,I7,n7⟩:=q7;exact again I7 n7
  |brk=>obtain⟨ms,H7,I7,q7⟩:=q7;exact⟨ms,H7,I7.mV,q7⟩
  |ret v=>obtain⟨x7,ms,H7,I7,r7,q7⟩:=q7;exact⟨x7,ms,H7,I7.mV,r7,q7⟩
end
end L2
namespace L2
open PySem PySem.Spec PyProof.Rows
abbrev R2:=V->V->Hp->VK->Prop
noncomputable def OpR(X:Cx)(f:Value->Value->Sem Value)(r:R2):Prop:=
 ∀(pins:List (Addr×Obj)) (s:Shared) (Z:St) (H:Hp) (x y:V) (v u:Value) (Q:VK),Inv X pins Z H s->RelV x v->RelV y u->r x y H Q ->
  wpAny (model X.prog X.w) X.A (f v u) (EP X pins Z Q) X.xe s
noncomputable def UnR(X:Cx)(f:Value->Sem Value)(r:V->Hp->VK->Prop):Prop:=
 ∀(pins:List (Addr×Obj)) (s:Shared) (Z:St) (H:Hp) (x:V) (v:Value) (Q:VK),Inv X pins Z H s->RelV x v->r x H Q ->
  wpAny (model X.prog X.w) X.A (f v) (EP X pins Z Q) X.xe s
noncomputable def jW(X:Cx)(f:Value)(r:List V->Hp->VK->Prop):Prop:=
 ∀(pins:List (Addr×Obj)) (s:Shared) (Z:St) (H:Hp) (xs:List V) (us:List Value) (Q:VK),Inv X pins Z H s->Vals xs us->r xs H Q ->
  wpAny (model X.prog X.w) X.A (call f us) (EP X pins Z Q) X.xe s
noncomputable def tOp(r:R2)(ta tb:TE):TE:=fun Z H Q=>ta Z H fun x H1=>tb Z H1 fun y H2=>r x y H2 Q
noncomputable def tUn(r:V->Hp->VK->Prop)(ta:TE):TE:=fun Z H Q=>ta Z H fun x H1=>r x H1 Q
noncomputable def rI(C:Int->Int->Prop)(g:Int->Int->V):R2:=fun x y H Q=>∃i j,x = .int i/\y = .int j/\C i j/\Q (g i j) H
noncomputable def rI0(g:Int->Int->V):R2:=fun x y H Q=>∃i j,x = .int i/\y = .int j/\Q (g i j) H
def rU(g:Int->V):V->Hp->VK->Prop:=fun x H Q=>∃i,x = .int i/\Q (g i) H
section
variable {X:Cx}{a b c:Expr}{ta tb tc:TE}{pos:Pos}
theorem P8(ha:PE X a ta)(hb:PE X b tb){pins:List (Addr×Obj)}{s:Shared}{Z:St}{H:Hp}{R:V->V->Hp->Prop}(I:Inv X pins Z H s)
  (h:ta Z H fun x H1=>tb Z H1 fun y H2=>R x y H2) {Q:Value->Shared->Prop} {f:Value->Value->Sem Value}
  (hf:∀v u s2 x y H2,Inv X pins Z H2 s2->RelV x v->RelV y u->R x y H2->wpAny (model X.prog X.w) X.A (f v u) Q X.xe s2) :
  wpAny (model X.prog X.w) X.A (eval a X.env) (fun v ce=>wpAny (model X.prog X.w) X.A (eval b X.env) (fun u ld=>wpAny (model X.prog X.w) X.A (f v u) Q X.xe ld) X.xe ce) X.xe s:=by
 refine thn (ha pins s Z H _ I h) fun v s1 ⟨x,H1,I1,r1,q1⟩=>?_
 refine thn (hb pins s1 Z H1 _ I1 q1) fun u s2 ⟨y,H2,I2,r2,q2⟩=>?_
 exact hf v u s2 x y H2 I2 r1 r2 q2
theorem Ss{op:Operator}{r:R2}(ho:OpR X (binaryOp op) r)(ha:PE X a ta)(hb:PE X b tb):PE X (.BinOp a op b pos) (tOp r ta tb):=by
 intro pins s Z H Q I h
 exact wpAny_BinOp (P8 ha hb I h fun v u s2 x y H2 I2 rx ry q=>ho pins s2 Z H2 x y v u Q I2 rx ry q)
theorem Lk{op:UnaryOp}{r:V->Hp->VK->Prop}(ho:UnR X (unaryOp op) r)(ha:PE X a ta):PE X (.UnaryOp op a pos) (tUn r ta):=by
 intro pins s Z H Q I h
 exact UnaryOp_ (thn (ha pins s Z H _ I h) fun v s1 ⟨x,H1,I1,r1,q1⟩=>ho pins s1 Z H1 x v Q I1 r1 q1)
theorem opI{f:Value->Value->Sem Value}{C:Int->Int->Prop}{g:Int->Int->Int}
  (rule:∀(i j:Int) (t u:Tok) (s:Shared) (Q:Value->Shared->Prop) (E:Value->Shared->Prop),C i j->Q (.int (g i j) s.toks) {s with toks:=s.toks+1}->wpAny (model X.prog X.w) X.A (f (.int i t) (.int j u)) Q E s) :
  OpR X f (rI C fun i j=>.int (g i j)):=by
 intro pins s Z H x y v u Q I rx ry h
 obtain⟨i,j,rfl,rfl,hc,q⟩:=h
 obtain⟨t,rfl⟩:=rx
 obtain⟨t',rfl⟩:=ry
 exact rule i j t t' s _ _ hc ⟨.int (g i j),H,I.tok _,⟨_,rfl⟩,q⟩
theorem Sk{f:Value->Value->Sem Value}{g:Int->Int->Int}
  (rule:∀(i j:Int) (t u:Tok) (s:Shared) (Q:Value->Shared->Prop) (E:Value->Shared->Prop),Q (.int (g i j) s.toks) {s with toks:=s.toks+1}->wpAny (model X.prog X.w) X.A (f (.int i t) (.int j u)) Q E s) :
  OpR X f (rI0 fun i j=>.int (g i j)):=by
 intro pins s Z H x y v u Q I rx ry h
 obtain⟨i,j,rfl,rfl,q⟩:=h
 obtain⟨t,rfl⟩:=rx
 obtain⟨t',rfl⟩:=ry
 exact rule i j t t' s _ _ ⟨.int (g i j),H,I.tok _,⟨_,rfl⟩,q⟩
theorem Nx{f:Value->Value->Sem Value}{g:Int->Int->Bool}
  (rule:∀(i j:Int) (t u:Tok) (s:Shared) (Q:Value->Shared->Prop) (E:Value->Shared->Prop),Q (.bool (g i j)) s->wpAny (model X.prog X.w) X.A (f (.int i t) (.int j u)) Q E s) :
  OpR X f (rI0 fun i j=>.bl (g i j)):=by
 intro pins s Z H x y v u Q I rx ry h
 obtain⟨i,j,rfl,rfl,q⟩:=h
 obtain⟨t,rfl⟩:=rx
 obtain⟨t',rfl⟩:=ry
 exact rule i j t t' s _ _ ⟨.bl (g i j),H,I,rfl,q⟩
noncomputable def Pw(i j:Int):Prop:=0<=j/\j<=1000000/\i.natAbs<2 ^ 64
noncomputable def Nl(i j:Int):Prop:=(-(2 ^ 64)<i/\i<2 ^ 64)\/(-(2 ^ 64)<j/\j<2 ^ 64)
theorem Nl.ok{i j:Int}(h:Nl i j):IntMulOk i j:=by
 rcases h with ⟨h1,h2⟩|⟨h1,h2⟩
 ·exact .of_left (intBits_le_64 h1 h2)
 ·exact .of_right (intBits_le_64 h1 h2)
theorem Kt:OpR X (binaryOp .Add) (rI0 fun i j=>.int (i+j)):=Sk fun _ _ _ _ _ _ _ q=>add_int q
theorem QL:OpR X (binaryOp .Sub) (rI0 fun i j=>.int (i-j)):=Sk fun _ _ _ _ _ _ _ q=>sub_int q
theorem Nt:OpR X (binaryOp .Mod) (rI (fun _ j=>j≠0) fun i j=>.int (i.fmod j)):=opI fun _ _ _ _ _ _ _ hc q=>mod_int' hc q
theorem Rg:OpR X (binaryOp .Pow) (rI Pw fun i j=>.int (i ^ j.toNat)):=opI fun _ _ _ _ _ _ _ hc q=>pow_int_small hc.1 hc.2.1 hc.2.2 q
theorem unI{f:Value->Sem Value}{g:Int->Int}
  (rule:∀(i:Int) (t:Tok) (s:Shared) (Q:Value->Shared->Prop) (E:Value->Shared->Prop),Q (.int (g i) s.toks) {s with toks:=s.toks+1}->wpAny (model X.prog X.w) X.A (f (.int i t)) Q E s) :
  UnR X f (rU fun i=>.int (g i)):=by
 intro pins s Z H x v Q I rx h
 obtain⟨i,rfl,q⟩:=h
 obtain⟨t,rfl⟩:=rx
 exact rule i t s _ _ ⟨.int (g i),H,I.tok _,⟨_,rfl⟩,q⟩
theorem GK:UnR X (unaryOp .USub) (rU fun i=>.int (-i)):=unI fun _ _ _ _ _ q=>neg_int q
end
section
variable {X:Cx}{a b c:Expr}{ta tb tc:TE}{pos:Pos}
theorem pX:OpR X (compareOp .Lt) (rI0 fun i j=>.bl (decide (i<j))):=Nx fun _ _ _ _ _ _ _ q=>lt_int q
theorem HZ:OpR X (compareOp .LtE) (rI0 fun i j=>.bl (decide (i<=j))):=Nx fun _ _ _ _ _ _ _ q=>le_int q
theorem g0:OpR X (compareOp .Gt) (rI0 fun i j=>.bl (decide (j<i))):=Nx fun _ _ _ _ _ _ _ q=>gt_int q
theorem Ai:OpR X (compareOp .GtE) (rI0 fun i j=>.bl (decide (j<=i))):=Nx fun _ _ _ _ _ _ _ q=>ge_int q
theorem OpR.or{f:Value->Value->Sem Value}{r r':R2}(h:OpR X f r)(h':OpR X f r'):OpR X f (fun x y H Q=>r x y H Q\/r' x y H Q):=by
 intro pins s Z H x y v u Q I rx ry q
 rcases q with q|q
 ·exact h pins s Z H x y v u Q I rx ry q
 ·exact h' pins s Z H x y v u Q I rx ry q
theorem aF(b:Expr){op:CmpOp}(h:op≠.In:=by decide)(h2:op≠.NotIn:=by decide):behindInMarks op b=false:=by
 have e1:(op==CmpOp.In)=false:=by cases op<;>first|rfl|exact absurd rfl h
 have e2:(op==CmpOp.NotIn)=false:=by cases op<;>first|rfl|exact absurd rfl h2
 cases b<;>simp[behindInMarks,e1,e2]
theorem NS{op:CmpOp}{r:R2}(ho:OpR X (compareOp op) r)(ha:PE X a ta)(hb:PE X b tb)(hm:behindInMarks op b=false):PE X (.Compare a [op] [b] pos) (tOp r ta tb):=by
 intro pins s Z H Q I h
 exact wpAny_Compare1 (P8 ha hb I h fun v u s2 x y H2 I2 rx ry q=>ho pins s2 Z H2 x y v u Q I2 rx ry q) hm
noncomputable def Mz(t:TE):TT:=fun Z H Q=>t Z H fun x H'=>∃k,x = .bl k/\Q k H'
theorem ND{op:CmpOp}{r:R2}(ho:OpR X (compareOp op) r)(ha:PE X a ta)(hb:PE X b tb)(hm:behindInMarks op b=false):PT X (.Compare a [op] [b] pos) (Mz (tOp r ta tb)):=by
 intro pins s Z H Q I h
 refine wpAny_isTrue_Compare1 (thn (ha pins s Z H _ I h) fun v s1 ⟨x,H1,I1,r1,q1⟩=>thn (hb pins s1 Z H1 _ I1 q1) fun u s2 ⟨y,H2,I2,r2,q2⟩=>
  thn (ho pins s2 Z H2 x y v u _ I2 r1 r2 q2) fun c s3 ⟨z,H3,I3,r3,k,e,q3⟩=>?_) hm
 subst e
 cases r3
 exact wpAny_truthy_bool ⟨H3,I3,q3⟩
noncomputable def QB(r r':R2)(ta tb tc:TE):TE:=fun Z H Q=>ta Z H fun x H1=>tb Z H1 fun y H2=>r x y H2 fun z H3=>∃k,z = .bl k /\
 (if k=true then tc Z H3 fun w' H4=>r' y w' H4 Q else Q (.bl false) H3)
theorem Ls{op op':CmpOp}{r r':R2}(ho:OpR X (compareOp op) r)(ho':OpR X (compareOp op') r')(ha:PE X a ta)(hb:PE X b tb)(hc:PE X c tc)
  (hm:lastMarks [op,op'] [b,c]=false:=by with_unfolding_all rfl):PT X (.Compare a [op,op'] [b,c] pos) (Mz (QB r r' ta tb tc)):=by
 intro pins s Z H Q I h
 refine isTrue_chain (thn (ha pins s Z H _ I h) fun v s1 ⟨x,H1,I1,r1,q1⟩=>test_link (thn (hb pins s1 Z H1 _ I1 q1) fun u s2 ⟨y,H2,I2,r2,q2⟩=>
  thn (ho pins s2 Z H2 x y v u _ I2 r1 r2 q2) fun d s3 ⟨z,H3,I3,r3,k,e,q3⟩=>?_)) hm
 subst e
 cases r3
 refine wpAny_truthy_bool ?_
 cases k with
 |false=>
  obtain⟨k',e',q'⟩:=q3
  cases e'
  exact ite_ff ⟨H3,I3,q'⟩
 |true=>
  refine ite_tt (test_last (thn (hc pins s3 Z H3 _ I3 q3) fun w' s4 ⟨z',H4,I4,r4,q4⟩=>thn (ho' pins s4 Z H4 y z' u w' _ I4 r2 r4 q4) fun d' s5 ⟨z2,H5,I5,r5,k2,e2,q5⟩=>?_))
  subst e2
  cases r5
  exact wpAny_truthy_bool ⟨H5,I5,q5⟩
theorem zP:(sizeLine:Nat)<2 ^ 63:=by rw[sizeLine_eq];decide
theorem vals1{x:V}{us:List Value}(r:Vals [x] us):∃u,us=[u]/\RelV x u:=by
 cases r with
 |cons r1 r2=>cases r2;exact⟨_,rfl,r1⟩
theorem vals2{x y:V}{us:List Value}(r:Vals [x,y] us):∃u w',us=[u,w']/\RelV x u/\RelV y w':=by
 cases r with
 |cons r1 r2=>
  cases r2 with
  |cons r3 r4=>cases r4;exact⟨_,_,rfl,r1,r3⟩
theorem LJ:jW X (.builtin "abs") (fun xs H Q=>∃i,xs=[.int i]/\Q (.int (if i<0 then -i else i)) H):=by
 intro pins s Z H xs us Q I r h
 obtain⟨i,rfl,q⟩:=h
 obtain⟨u,rfl,t,rfl⟩:=vals1 r
 exact call_abs_int fun u tk=>⟨.int (if i<0 then -i else i),H,I.tok _,⟨_,rfl⟩,q⟩
theorem Jl(hc:X.calm=true):jW X (.builtin "max") (fun xs H Q=>∃i j,xs=[.int i,.int j]/\Q (.int (if j>i then j else i)) H):=by
 intro pins s Z H xs us Q I r h
 obtain⟨i,j,rfl,q⟩:=h
 obtain⟨u,w',rfl,⟨t,rfl⟩,⟨t',rfl⟩⟩:=vals2 r
 refine max_two_ints (I.ok.hd hc) fun h' tk k=>⟨_,H,I.kept k,?_,q⟩
 by_cases hj:j>i
 ·rw[if_pos hj,if_pos hj];exact⟨_,rfl⟩
 ·rw[if_neg hj,if_neg hj];exact⟨_,rfl⟩
theorem JZ(hc:X.calm=true):jW X (.builtin "min") (fun xs H Q=>∃i j,xs=[.int i,.int j]/\Q (.int (if j<i then j else i)) H):=by
 intro pins s Z H xs us Q I r h
 obtain⟨i,j,rfl,q⟩:=h
 obtain⟨u,w',rfl,⟨t,rfl⟩,⟨t',rfl⟩⟩:=vals2 r
 refine min_two_ints (I.ok.hd hc) fun h' tk k=>⟨_,H,I.kept k,?_,q⟩
 by_cases hj:j<i
 ·rw[if_pos hj,if_pos hj];exact⟨_,rfl⟩
 ·rw[if_neg hj,if_neg hj];exact⟨_,rfl⟩
theorem Jt:jW X (.type "int") (fun xs H Q=>(∃i,xs=[.int i]/\Q (.int i) H)\/∃k,xs=[.bl k]/\Q (.int (if k then 1 else 0)) H):=by
 intro pins s Z H xs us Q I r h
 rcases h with ⟨i,rfl,q⟩|⟨k,rfl,q⟩
 ·obtain⟨u,rfl,t,rfl⟩:=vals1 r
  exact call_int_int ⟨.int i,H,I,⟨_,rfl⟩,q⟩
 ·obtain⟨u,rfl,r1⟩:=vals1 r
  cases r1
  exact call_int_bool ⟨.int (if k then 1 else 0),H,I.tok _,⟨_,rfl⟩,q⟩
end
end L2
namespace L2
open PySem PySem.Spec PyProof.Rows
end L2
namespace L2
open PySem PySem.Spec PyProof.Rows
structure g8(k:Nat)(A:Around):Prop where
 hd:A.handled=none
 dp:A.depth+3*k+5<recursionLimit
 un:A.units+16*k+200<cLine
theorem g8.mono{j k:Nat}{A:Around}(r:g8 k A)(h:j<=k):g8 j A:=⟨r.hd,by have:=r.dp;omega,by have:=r.un;omega⟩
theorem g8.deeper{k:Nat}{A:Around}(r:g8 (k+1) A)(env:Env):g8 k (A.deeper env):=
 ⟨r.hd,by have:=r.dp;show A.depth+1+3*k+5<_;omega,by have:=r.un;show A.units+3+16*k+200<_;omega⟩
theorem g8.depth{k:Nat}{A:Around}(r:g8 k A):A.depth<recursionLimit:=by have:=r.dp;omega
theorem g8.units{k:Nat}{A:Around}(r:g8 k A):A.units+64<cLine:=by have:=r.un;omega
noncomputable def TL:TA:=fun _ H Q=>Q [] H
noncomputable def SG(ta:TE)(tr:TA):TA:=fun Z H Q=>ta Z H fun x H1=>tr Z H1 fun xs H2=>Q (x::xs) H2
section
variable {X:Cx}{e:Expr}{es:List Expr}{te:TE}{t:TA}{pos:Pos}
theorem oH:PA X [] TL:=fun _ _ _ _ H Q I h=>Calls.spliced_nil ⟨[],H,I,.nil,h⟩
theorem eP(ha:PE X e te)(hr:PA X es t)(hs:starEach (e::es) X.env=(false,eval e X.env)::starEach es X.env:=by rfl):PA X (e::es) (SG te t):=by
 intro pos pins s Z H Q I h
 rw[hs]
 show wpAny _ _ (spliced ((false,eval e X.env)::backTo pos (starEach es X.env))) _ _ s
 refine Calls.spliced_cons (thn (ha pins s Z H _ I h) fun u s1 ⟨x,H1,I1,r1,q1⟩=>?_)
 exact thn (hr pos pins s1 Z H1 _ I1 q1) fun us s2 ⟨xs,H2,I2,r2,q2⟩=>⟨x::xs,H2,I2,.cons r1 r2,q2⟩
noncomputable def Up(t:TA):TE:=fun Z H Q=>t Z H fun xs H1=>xs.length<=sizeLine/\∀p,H1 p=none->Q (.ref p) (upd H1 p (.tup xs))
noncomputable def Uh(t:TA):TE:=fun Z H Q=>t Z H fun xs H1=>xs.length<=sizeLine/\∀p,H1 p=none->Q (.ref p) (upd H1 p (.lst xs))
theorem MA{x1}(h:PA X es t):PE X (.Tuple es x1 pos) (Up t):=by
 intro pins s Z H Q I hq
 refine wpAny_Tuple_spliced (thn (h pos pins s Z H _ I hq) fun us s1 ⟨xs,H1,I1,r,z,q⟩=>⟨by rw[<- r.length];exact z,?_⟩)
 have hf:H1 s1.heap.objs.size=none:=I1.hok.fresh (Nat.le_refl _)
 refine⟨.ref s1.heap.objs.size,upd H1 s1.heap.objs.size (.tup xs),I1.laid (t':=s1.toks) (fun b u e=>Heap.get?_push_of_some _ e) (Nat.le_refl _) ?_,rfl,q _ hf⟩
 exact⟨z,us,r,⟨_,Heap.get?_push_size _ rfl,rfl,_,rfl⟩⟩
theorem Qa(h:PA X es t):PE X (.List es pos) (Uh t):=by
 intro pins s Z H Q I hq
 refine wpAny_List_spliced (thn (h pos pins s Z H _ I hq) fun us s1 ⟨xs,H1,I1,r,z,q⟩=>⟨by rw[<- r.length];exact z,?_⟩)
 have hf:H1 s1.heap.objs.size=none:=I1.hok.fresh (Nat.le_refl _)
 refine⟨.ref s1.heap.objs.size,upd H1 s1.heap.objs.size (.lst xs),I1.laid (t':=s1.toks) (fun b u e=>Heap.get?_push_of_some _ e) (Nat.le_refl _) ?_,rfl,q _ hf⟩
 exact⟨z,us,0,r,Heap.get?_push_size _ rfl⟩
end
abbrev Sp:=List V->Hp->VK->XK->Prop
abbrev CXT:=List Env->Hp->Shared->XK->Value->Shared->Prop
structure EH(P:Program)(w:World)(K:PySem.W.Frag)(mg:Str->Option Value)(base:Heap)(A:Around)(outer:List Env)(s:Shared)(H:Hp):Prop where
 frames:A.frames=some outer
 mod:Mod K mg base
 bs:∀b o,base.get? b=some o->s.heap.get? b=some o/\H b=none
 bsz:base.objs.size<=s.heap.objs.size
 sV:s.heap.FunFrames base outer
 frf:∀b∈frs outer,H b=none
 hok:HOk P w H s.heap
 bare:AllBare s.gens
noncomputable def CE(outer:List Env)(P:Program)(w:World)(H:Hp)(s:Shared)(Q:VK)(u:Value)(s':Shared):Prop:=
 ∃v H',s'.os=s.os/\AllBare s'.gens/\Un (frs outer) [] H H' s.heap s'.heap/\HOk P w H' s'.heap/\RelV v u/\Q v H'
noncomputable def CR(CX:CXT)(outer:List Env)(P:Program)(w:World)(H:Hp)(s:Shared)(Q:VK)(E:XK)(r:Result)(s':Shared):Prop:=
 match r with
 |.ok (.ret u)=>CE outer P w H s Q u s'
 |.ok _=>False
 |.error e=>CX outer H s E e s'
structure bz(P:Program)(w:World)(K:PySem.W.Frag)(mg:Str->Option Value)(base:Heap)(CX:CXT)(k:Nat)(f:Addr)(fd:FuncData)(ps:List Str)(sp:Sp):Prop where
 len:∀vs H Q E,sp vs H Q E->vs.length=ps.length
 run:∀(A:Around) (outer:List Env) (s:Shared) (H:Hp) (args:Args) (us:List Value) (vs:List V) (Q:VK) (E:XK),g8 k A->EH P w K mg base A outer s H->BindsTo s fd args (ps.zip us)->Vals vs us->sp vs H Q E ->
  codeAny (model P w) A (.call (.ref f) args) (CR CX outer P w H s Q E) s
theorem bz.imp{P:Program}{w:World}{K:PySem.W.Frag}{mg:Str->Option Value}{base:Heap}{CX:CXT}{k:Nat}{f:Addr}{fd:FuncData}{ps:List Str}{sp sp':Sp}(F:bz P w K mg base CX k f fd ps sp)
  (h:∀vs H Q E,sp' vs H Q E->sp vs H Q E):bz P w K mg base CX k f fd ps sp':=
 ⟨fun vs H Q E q=>F.len vs H Q E (h _ _ _ _ q),fun A outer s H args us vs Q E hr he hb hv hs=>F.run A outer s H args us vs Q E hr he hb hv (h _ _ _ _ hs)⟩
section
variable {X:Cx}{pins:List (Addr×Obj)}{Z:St}{H:Hp}{s s':Shared}
theorem Inv.Rj(I:Inv X pins Z H s):EH X.prog X.w X.K X.mg X.base X.A X.stack s H:=
 ⟨I.ok.frames,I.ok.mod,I.bs,le_trans I.ok.bsz I.sz,I.stack,I.ye,I.hok,I.bare⟩
theorem Inv.after{Q:VK}{u:Value}(I:Inv X pins Z H s)(h:CE X.stack X.prog X.w H s Q u s'):EP X pins Z Q u s':=by
 obtain⟨v,H',os,bare,un,hok,r,q⟩:=h
 obtain⟨hh,g,d,t,os'⟩:=s'
 obtain rfl:os'=s.os:=os
 exact⟨v,H',I.call (h':=hh) (g':=g) (d':=d) (t':=t) (ch:=[]) un hok bare (fun b z=>absurd z (by simp)),r,q⟩
end
noncomputable def R8(sp:Sp)(dvs:List V)(E:XK)(t:TA):TE:=fun Z H Q=>t Z H fun vs H1=>sp (vs++dvs) H1 Q E
noncomputable def Binds(K:PySem.W.Frag)(fd:FuncData)(ps:List Str)(ds:List Value):Prop:=
 ∀(s:Shared) (us:List Value),K.In s.heap->(us++ds).length=ps.length->BindsTo s fd ⟨us,[]⟩ (ps.zip (us++ds))
theorem Binds.all{K:PySem.W.Frag}{fd:FuncData}{ps:List Str}(h:∀us:List Value,us.length=ps.length->bindArgs fd ⟨us,[]⟩=pure (ps.zip us)):Binds K fd ps []:=fun s us _ hl=>by
 rw[append_nil] at hl ⊢
 exact .of_eq (h us hl)
noncomputable def Passes(CX:CXT)(X:Cx)(E:XK):Prop:=∀(pins:List (Addr×Obj)) (Z:St) (H:Hp) (s:Shared) (e:Value) (s':Shared),Inv X pins Z H s->CX X.stack H s E e s'->X.xe e s'
section
variable {X:Cx}{CX:CXT}{k:Nat}{f C:Addr}{fd:FuncData}{ps:List Str}{sp:Sp}{dvs:List V}{ds:List Value}{E:XK}{x m:Str}{p pos apos:Pos}{e o:Expr}{es:List Expr}{ta:TE}{t:TA}
theorem QJ{pins:List (Addr×Obj)}{Z:St}{H:Hp}{s:Shared}{Q:VK}{us:List Value}{vs:List V}(F:bz X.prog X.w X.K X.mg X.base CX k f fd ps sp)(hr:g8 k X.A)(hb:Binds X.K fd ps ds)(hd:Vals dvs ds)(hx:Passes CX X E)
  (I:Inv X pins Z H s) (r:Vals vs us) (h:sp (vs++dvs) H Q E):wpAny (model X.prog X.w) X.A (call (.ref f) us) (EP X pins Z Q) X.xe s:=by
 have r2:Vals (vs++dvs) (us++ds):=r.append hd
 have hl:(us++ds).length=ps.length:=by rw[<- r2.length];exact F.len _ _ _ _ h
 refine wpAny_call (codeAny_mono (F.run X.A X.stack s H ⟨us,[]⟩ (us++ds) (vs++dvs) Q E hr I.Rj (hb s us I.kIn hl) r2 h) fun r s' hq=>?_)
 cases r with
 |error e=>exact hx pins Z H s e s' I hq
 |ok fl=>
  cases fl with
  |ret u=>exact I.after hq
  |next=>exact False.elim hq
  |brk=>exact False.elim hq
  |cont=>exact False.elim hq
theorem IJ(F:bz X.prog X.w X.K X.mg X.base CX k f fd ps sp)(hr:g8 k X.A)(hg:Gl X x)(hm:X.mg x=some (.ref f))(hk:keepIn X.K (.ref f)=true)(hb:Binds X.K fd ps ds)(hd:Vals dvs ds)(hx:Passes CX X E)
  (ha:PA X (e::es) t) (hdb:(x==("__debug__":Str))=false:=by decide) (he:starEach (e::es) X.env=(false,eval e X.env)::starEach es X.env:=by rfl) (hpl:(backTo pos (starEach es X.env)).any (·.1)=false:=by rfl) :
  PE X (.Call (.Name x p) (e::es) [] pos) (R8 sp dvs E t):=by
 intro pins s Z H Q I h
 refine wpAny_Call_Name_kw (vj I hg hm ?_ hdb)
 refine PySem.W.callWith_K (h₀:=X.base) I.ok.mod.kin hk (thn (ha pos pins s Z H _ I h) fun us s1 ⟨vs,H1,I1,r,q⟩=>⟨I1.kIn,?_⟩) he hpl
 exact QJ F hr hb hd hx I1 r q
end
structure aG(N P:List Str)(sc:Scope):Prop where
 kind:sc.kind = .function
 co:sc.isCoroutine=false
 gen:sc.isGenerator=false
 nd:N.Nodup
 pre:N.take P.length=P
 par:∀x∈P,sc.names.lookup x=some .local\/sc.names.lookup x=some .cell
 RG:∀y∈sc.names,y.2≠.free
theorem Bn{kindOf:Str->Option NameKind}{x:Str}:∀{binds:List (Str×Value)} {m:Str->Option Value},(∀v,(x,v) ∉ binds)->bindL kindOf binds m x=m x
 |[],_,_=>rfl
 |(n,v)::r,m,h=>by
  unfold bindL
  rw[Bn fun w hw=>h w (mem_cons_of_mem _ hw)]
  split
  ·have:x≠n:=by rintro rfl;exact h v mem_cons_self
   simp[this]
  ·rfl
theorem Bv{kindOf:Str->Option NameKind}{x:Str}:∀{binds:List (Str×Value)} {m:Str->Option Value},(∀v,(x,v) ∉ binds)->bindC kindOf binds m x=m x
 |[],_,_=>rfl
 |(n,v)::r,m,h=>by
  unfold bindC
  rw[Bv fun w hw=>h w (mem_cons_of_mem _ hw)]
  split
  ·rfl
  ·have:x≠n:=by rintro rfl;exact h v mem_cons_self
   simp[this]
theorem Bp{kindOf:Str->Option NameKind}{x:Str}{v:Value}:∀{P:List Str} {vs:List Value} {i:Nat} {m:Str->Option Value},P.Nodup->P[i]? = some x->vs[i]? = some v->kindOf x=some .local ->
  bindL kindOf (P.zip vs) m x=some v
 |[],_,_,_,_,h,_,_=>by simp at h
 |_::_,[],_,_,_,_,h,_=>by simp at h
 |p::P,w::vs,0,m,nd,h1,h2,hk=>by
  simp at h1 h2;subst h1;subst h2
  show bindL kindOf ((p,w)::P.zip vs) m p=_
  unfold bindL
  rw[Bn fun v hv=>(List.nodup_cons.mp nd).1 (List.of_mem_zip hv).1,if_pos hk]
  simp
 |p::P,w::vs,i+1,m,nd,h1,h2,hk=>by
  show bindL kindOf ((p,w)::P.zip vs) m x=_
  unfold bindL
  exact Bp (i:=i) (List.nodup_cons.mp nd).2 (by simpa using h1) (by simpa using h2) hk
theorem BD{kindOf:Str->Option NameKind}{x:Str}{v:Value}:∀{P:List Str} {vs:List Value} {i:Nat} {m:Str->Option Value},P.Nodup->P[i]? = some x->vs[i]? = some v->kindOf x≠some .local ->
  bindC kindOf (P.zip vs) m x=some v
 |[],_,_,_,_,h,_,_=>by simp at h
 |_::_,[],_,_,_,_,h,_=>by simp at h
 |p::P,w::vs,0,m,nd,h1,h2,hk=>by
  simp at h1 h2;subst h1;subst h2
  show bindC kindOf ((p,w)::P.zip vs) m p=_
  unfold bindC
  rw[Bv fun v hv=>(List.nodup_cons.mp nd).1 (List.of_mem_zip hv).1,if_neg hk]
  simp
 |p::P,w::vs,i+1,m,nd,h1,h2,hk=>by
  show bindC kindOf ((p,w)::P.zip vs) m x=_
  unfold bindC
  exact BD (i:=i) (List.nodup_cons.mp nd).2 (by simpa using h1) (by simpa using h2) hk
def start(N:List Str)(vs:List V):St:=vs.map some++List.replicate (N.length-vs.length) none
def lY(CX:CXT)(P:Program)(w:World)(K:PySem.W.Frag)(mg:Str->Option Value)(base:Heap)(N:List Str)(qual:Str)(scope:Scope)(f:Addr)(cd:Value)(A:Around)(outer:List Env)(s:Shared)(H:Hp)(E:XK):Cx where
 prog:=P
 w:=w
 K:=K
 mg:=mg
 base:=base
 A:=A.deeper (envOfC qual scope s.heap.objs.size f cd)
 N:=N
 dl:=s
 H₀:=H
 env:=envOfC qual scope s.heap.objs.size f cd
 outer:=outer
 stack:=envOfC qual scope s.heap.objs.size f cd::outer
 ex:=[]
 calm:=true
 fn:=fun _=>true
 pn:=[]
 xe:=fun e s'=>wpAny (model P w) (A.deeper (envOfC qual scope s.heap.objs.size f cd)) (leaving (envOfC qual scope s.heap.objs.size f cd) e) (fun _ s''=>CX outer H s E e s'') (fun e' s''=>CX outer H s E e' s'') s'
theorem Fs{sc:Scope}{n:Nat}{x:Str}(h:sc.names.lookup x=some .cell):∃c,(cellsFrom n sc.names []).lookup x=some c:=by
 have q:=PySem.W.cellsFrom_some sc.names n [] (.inl h)
 exact Option.isSome_iff_exists.mp q
theorem BH{CX:CXT}{P:Program}{w:World}{K:PySem.W.Frag}{mg:Str->Option Value}{base:Heap}{N ps:List Str}{qual:Str}{scope:Scope}{f:Addr}{cd:Value}{A:Around}{outer:List Env}{s s1:Shared}{H:Hp}{E:XK}{us:List Value}{vs:List V}
  (S:aG N ps scope) (hd:A.handled=none) (e0:EH P w K mg base A outer s H) (hl:vs.length=ps.length) (r:Vals vs us)
  (x:InCallC s s.heap.objs.size (bindL (envOfC qual scope s.heap.objs.size f cd).kindOf (ps.zip us) fun _=>none) (cellsFrom (s.heap.objs.size+1) scope.names []) (bindC (envOfC qual scope s.heap.objs.size f cd).kindOf (ps.zip us) fun _=>none) s1) :
  Inv (lY CX P w K mg base N qual scope f cd A outer s H E) [] (start N vs) H s1:=by
 have hpl:ps.length<=N.length:=by have:=congrArg List.length S.pre;rw[length_take] at this;omega
 obtain⟨h1,tk,rfl,hk⟩:=x.done
 have noA:∀b:Addr,b ∉ (lY CX P w K mg base N qual scope f cd A outer s H E).ex:=fun b z=>absurd (show b∈([]:List Addr) from z) (by simp)
 refine⟨⟨e0.mod,S.kind,rfl,rfl,Nat.le_refl _,fun y z c h1 h2=>?_,fun y hy=>?_,fun y c _ h=>?_,fun _=>hd,.inl hd,Around.frames_deeper e0.frames,.inr ⟨rfl,rfl⟩,fun b z=>absurd z (noA b),e0.bs,e0.bsz,fun b _ _=>noA b,fun b z=>absurd z (noA b),e0.sV,e0.frf⟩,
  rfl,e0.bare,Un.kept hk,⟨_,x.toInCall.ns,fun i y v h1 h2 h3=>?_⟩,fun y c h=>⟨_,x.cell y c h⟩,e0.hok.fresh (Nat.le_refl _),fun y c h=>?_,fun p hp=>absurd (show p∈([]:List (Addr×Obj)) from hp) (by simp),e0.hok.kept hk,?_⟩
 ·exact name_of_addr x.apart (mem_of_lookup h1) (mem_of_lookup h2)
 ·have hy:scope.names.lookup y=some .cell\/scope.names.lookup y=some .free:=hy
  rcases hy with hy|hy
  ·exact Fs hy
  ·exact absurd rfl (S.RG _ (mem_of_lookup hy))
 ·exact Nat.le_of_lt (x.above y c (mem_of_lookup h))
 ·have hi:i<vs.length:=by
   unfold start at h2
   by_cases hi:i<vs.length
   ·exact hi
   ·rw[List.getElem?_append_right (by simpa using hi)] at h2
    rw[List.getElem?_replicate] at h2
    split at h2<;>cases h2
  have ha:vs[i]? = some v:=by
   unfold start at h2
   rw[List.getElem?_append_left (by simpa using hi),getElem?_map] at h2
   cases e:vs[i]? with
   |none=>rw[e] at h2;cases h2
   |some a=>rw[e] at h2;cases h2;rfl
  obtain⟨u,hu,rv⟩:=r.get ha
  have hp:ps[i]? = some y:=by
   rw[<- S.pre,List.getElem?_take_of_lt ∅];exact h1
  have ndP:ps.Nodup:=by rw[<- S.pre];exact S.nd.sublist (List.take_sublist _ _)
  refine⟨u,rv,?_⟩
  rcases S.par y (mem_of_getElem? hp) with k|k
  ·exact .inl ⟨k,Bp ndP hp hu k⟩
  ·obtain⟨c,e⟩:=Fs (n:=s.heap.objs.size+1) k
   refine .inr ⟨.inl k,c,e,?_⟩
   have q:=x.cell y c e
   rw[BD ndP hp hu (by show scope.names.lookup y≠_;rw[k];decide)] at q
   exact q
 ·exact e0.hok.fresh (Nat.le_of_lt (x.above y c (mem_of_lookup h)))
 ·unfold start
  show _=N.length
  rw[length_append,length_map,List.length_replicate]
  omega
theorem Lz{CX:CXT}{P:Program}{w:World}{K:PySem.W.Frag}{mg:Str->Option Value}{base:Heap}{k:Nat}{f:Addr}{name qual:Str}{params:Arguments}{body:List Stmt}{scope:Scope}{dV kV doc pm cdv ct oc:Value}{an od:Option Addr}
  {osl:Array (Option Value)} {N ps:List Str} {sp:Sp} (lk:K.lookup f=some ⟨oc,od,.func (fnOf name qual params body scope dV kV doc pm an cdv ct),osl⟩) (hcd:codeIn K cdv qual=true) (S:aG N ps scope)
  (len:∀vs H Q E,sp vs H Q E->vs.length=ps.length)
  (hbody:∀(A:Around) (outer:List Env) (s:Shared) (H:Hp) (vs:List V) (Q:VK) (E:XK),g8 k (A.deeper (envOfC qual scope s.heap.objs.size f cdv))->sp vs H Q E ->
   ∃t,PSs (lY CX P w K mg base N qual scope f cdv A outer s H E) body t/\t {nx:=fun _ H'=>Q .non H',rt:=Q} (start N vs) H) :
  bz P w K mg base CX (k+1) f (fnOf name qual params body scope dV kV doc pm an cdv ct) ps sp:=by
 refine⟨len,fun A outer s H args us vs Q E hr e0 hb r hsp=>?_⟩
 have hl:=len _ _ _ _ hsp
 have KX:K.In s.heap:=e0.mod.kin.keeps fun b o e=>(e0.bs b o e).1
 have lim:s.heap.NoLimit:=e0.mod.nolimit.keeps fun b o e=>(e0.bs b o e).1
 have hkind:∀y∈ps.zip us,scope.names.lookup y.1=some .local\/(scope.names.lookup y.1=some .cell/\((cellsFrom (s.heap.objs.size+1) scope.names []).lookup y.1).isSome=true):=fun ⟨n,v⟩ hy=>by
  rcases S.par n (List.of_mem_zip hy).1 with q|q
  ·exact .inl q
  ·exact .inr ⟨q,PySem.W.cellsFrom_some _ _ _ (.inl q)⟩
 refine codeAny_call_function hr.depth (KX _ _ lk) rfl S.co S.gen rfl (PySem.W.codeRec_of KX hcd) (hb _ _ _ _ ?_)
 refine wpAny_newFunctionEnv_cells S.kind hkind fun env he s1 x=>?_
 subst he
 refine⟨lim.keeps x.toInCall.keep,codeAny_func ?_⟩
 obtain⟨t,ht,hq⟩:=hbody A outer s H vs Q E (hr.deeper _) hsp
 have I:Inv (lY CX P w K mg base N qual scope f cdv A outer s H E) [] (start N vs) H s1:=BH S hr.hd e0 hl r x
 refine wpAny_mono (ht [] s1 (start N vs) H _ I hq) (fun fl s' hs=>?_) fun e s' hs=>hs
 have fin:∀{am:St} {H':Hp} {v:V} {u:Value},Inv (lY CX P w K mg base N qual scope f cdv A outer s H E) [] am H' s'->RelV v u->Q v H'->CE outer P w H s Q u s':=
  fun {am H' v u} J rv q=>⟨v,H',J.os,J.bare,J.base,J.hok,rv,q⟩
 cases fl with
 |ret u=>
  obtain⟨v,am,H',J,rv,q⟩:=hs
  exact fin J rv q
 |next=>
  obtain⟨am,H',J,q⟩:=hs
  exact fin (v:=V.non) (u:=Value.none) J rfl q
 |brk=>
  obtain⟨_,_,_,q⟩:=hs
  exact False.elim q
 |cont=>
  obtain⟨_,_,_,q⟩:=hs
  exact False.elim q
end L2
namespace L2
open PySem PySem.Spec PyProof.Rows
section
variable {X:Cx}{x:Str}{p pos:Pos}{e:Expr}{es:List Expr}{t:TA}{id T:String}{r:List V->Hp->VK->Prop}
noncomputable def tCB(r:List V->Hp->VK->Prop)(t:TA):TE:=fun Z H Q=>t Z H fun vs H1=>r vs H1 Q
theorem qj(hc:jW X (.builtin id) r)(hg:Gl X x)(hm:X.mg x=none)(hv:bootBuiltins x=some (.builtin id))(ha:PA X (e::es) t)(hn:x ≠ "__name__":=by decide)(hdb:(x==("__debug__":Str))=false:=by decide)
  (he:starEach (e::es) X.env=(false,eval e X.env)::starEach es X.env:=by rfl) (hpl:(backTo pos (starEach es X.env)).any (·.1)=false:=by rfl):PE X (.Call (.Name x p) (e::es) [] pos) (tCB r t):=by
 intro pins s Z H Q I h
 refine wpAny_Call_Name_kw (yN I hg hm hv ?_ hn hdb)
 exact PyProof.Rows.callWith_builtin1 (thn (ha pos pins s Z H _ I h) fun us s1 ⟨vs,H1,I1,r1,q1⟩=>hc pins s1 Z H1 vs us Q I1 r1 q1) he hpl
theorem JB(hc:jW X (.type T) r)(hg:Gl X x)(hm:X.mg x=none)(hv:bootBuiltins x=some (.type T))(ha:PA X (e::es) t)(hn:x ≠ "__name__":=by decide)(hdb:(x==("__debug__":Str))=false:=by decide)
  (he:starEach (e::es) X.env=(false,eval e X.env)::starEach es X.env:=by rfl) (hpl:(backTo pos (starEach es X.env)).any (·.1)=false:=by rfl):PE X (.Call (.Name x p) (e::es) [] pos) (tCB r t):=by
 intro pins s Z H Q I h
 refine wpAny_Call_Name_kw (yN I hg hm hv ?_ hn hdb)
 exact PyProof.Rows.callWith_type1 (thn (ha pos pins s Z H _ I h) fun us s1 ⟨vs,H1,I1,r1,q1⟩=>hc pins s1 Z H1 vs us Q I1 r1 q1) he hpl
end
end L2
namespace HT
open PySem PyProof.Rows
section
open PySem.SeqAt
open PySem.AutoSeq1 (wpAny_loadPart')
open PySem.MeetsSeq PySem.MeetsSeq2 PySem.MeetsSeq3
end
section
variable {prog:Program}{w:World}{A:Around}{E:Value->Shared->Prop}{s:Shared}
theorem NW{t b:Addr}{vs ws:List Value}{Q:Value->Shared->Prop}(ht:IsTup s.heap t vs.toArray)(hb:IsTup s.heap b ws.toArray)(hv:vs≠[])
  (h1:ws=[]->Q (.ref t) s) (h2:ws≠[]->Q (.ref s.heap.objs.size) {s with heap:=s.heap.push {cls:=.type "tuple",data:=.seq (vs++ws).toArray}})
  (hsz:vs.length+ws.length<=sizeLine):wpAny (model prog w) A (binaryOp .Add (.ref t) (.ref b)) Q E s:=by
 obtain⟨⟨cls,dd,data,sl⟩,ho,hc,n,hd⟩:=id ht
 obtain⟨⟨cls2,dd2,data2,sl2⟩,ho2,hc2,n2,hd2⟩:=id hb
 simp only at hc hd hc2 hd2
 subst hc hd hc2 hd2
 have e:vs.toArray++ws.toArray=(vs++ws).toArray:=by simp
 by_cases hw:ws=[]
 ·exact concat_meets ⟨_,ho,rfl⟩ ⟨_,ho2,rfl⟩ noFill_tuple_add seq_tuple_add PySem.F.slot_tuple_add PySem.F.entry_tuple_add (PySem.F.args_tuple_add_2 _ _)
   (tuple_addW1 t b vs.toArray ws.toArray n n2 dd dd2 sl sl2 (by simpa using hv) (by simp[hw])) ⟨ho,ho2,h1 hw⟩
 ·refine concat_meets ⟨_,ho,rfl⟩ ⟨_,ho2,rfl⟩ noFill_tuple_add seq_tuple_add PySem.F.slot_tuple_add PySem.F.entry_tuple_add (PySem.F.args_tuple_add_2 _ _)
   (tuple_addW2 t b vs.toArray ws.toArray n n2 dd dd2 sl sl2 (by simpa using hv) (by simpa using hw) (by rw[size_toArray,size_toArray];exact hsz)) ⟨ho,ho2,?_⟩
  rw[e]
  exact h2 hw
def sIx(n d:Nat):Option Int->Nat
 |none=>d
 |some v=>if v<0 then (v+(n:Int)).toNat else min v.toNat n
theorem FW(n d:Nat):sIx n d none=d:=rfl
theorem IB(n d k:Nat):sIx n d (some (k:Int))=min k n:=by
 show (if (k:Int)<0 then ((k:Int)+(n:Int)).toNat else min (k:Int).toNat n)=min k n
 rw[if_neg ∅,toNat_natCast]
theorem RD(n d:Nat)(hd:d<=n)(o:Option Int):sIx n d o<=n:=by
 cases o with
 |none=>exact hd
 |some v=>
  show (if v<0 then (v+(n:Int)).toNat else min v.toNat n)<=n
  by_cases hv:v<0
  ·rw[if_pos hv];omega
  ·rw[if_neg hv];exact Nat.min_le_right _ _
theorem IU(v:Int)(n d:Nat):(if v<0 then max (v+(n:Int)) 0 else min v (n:Int))=((sIx n d (some v):Nat):Int):=by
 show (if v<0 then max (v+(n:Int)) 0 else min v (n:Int))=(((if v<0 then (v+(n:Int)).toNat else min v.toNat n):Nat):Int)
 by_cases hv:v<0
 ·simp only[if_pos hv];omega
 ·simp only[if_neg hv];omega
theorem FZ(lo hi:Option Int)(n:Nat):Builtin.Slice.sliceAdjust lo hi 1 (n:Int)=(((sIx n 0 lo:Nat):Int),((sIx n n hi:Nat):Int)):=by
 have h1:¬ ((1:Int)<0):=by omega
 unfold Builtin.Slice.sliceAdjust
 simp only[h1,if_false]
 refine Prod.ext ?_ ?_
 ·cases lo with
  |none=>rfl
  |some v=>exact IU v n 0
 ·cases hi with
  |none=>rfl
  |some v=>exact IU v n n
theorem Gw(i j:Nat):Builtin.Slice.slicePlaces (i:Int) (j:Int) 1=j-i:=by
 unfold Builtin.Slice.slicePlaces
 have h1:(1:Int)>0:=by omega
 simp only[h1,if_true,Int.ediv_one]
 split<;>omega
theorem Aj{v:Value}{o:Option Int}{Q:Option Int->Shared->Prop}(p:IsPart v o)(h:Q o s):wpAny (model prog w) A (Builtin.Slice.slicePartIndex v) Q E s:=by
 cases p with
 |none=>exact slicePart_none h
 |int i t=>exact slicePart_int h
theorem mH{sl:Addr}{vl vu:Value}{lo hi:Option Int}{n:Nat}{Q:Int×Int×Nat->Shared->Prop}(hs:s.heap.IsSliceOf sl vl vu .none)(pl:IsPart vl lo)(pu:IsPart vu hi)
  (h:Q (((sIx n 0 lo:Nat):Int),1,sIx n n hi-sIx n 0 lo) s):wpAny (model prog w) A (Builtin.Slice.sliceApplied (.ref sl) (pure (n:Int))) Q E s:=by
 obtain⟨os,hos,hcs,hds⟩:=id hs
 unfold Builtin.Slice.sliceApplied Builtin.Slice.sliceFields
 refine wpAny_bind (wpAny_bind (wpAny_field hos hds (x:=vl) rfl (wpAny_bind (wpAny_field hos hds (x:=vu) rfl (wpAny_bind (wpAny_field hos hds (x:=.none) rfl (wpAny_pure ?_)))))))
 refine wpAny_bind (slicePart_none ?_)
 show wpAny _ _ (if ((1:Int)==0)=true then _ else _) _ _ s
 rw[if_neg ⋯]
 refine wpAny_bind (Aj pl (wpAny_bind (Aj pu (wpAny_bind (wpAny_pure ?_)))))
 show wpAny _ _ (match Builtin.Slice.sliceAdjust lo hi 1 (n:Int) with|(lo,hi)=>pure (lo,(1:Int),Builtin.Slice.slicePlaces lo hi 1)) _ _ s
 rw[FZ lo hi n]
 show wpAny _ _ (pure (((sIx n 0 lo:Nat):Int),(1:Int),Builtin.Slice.slicePlaces ((sIx n 0 lo:Nat):Int) ((sIx n n hi:Nat):Int) 1)) _ _ s
 rw[Gw]
 exact wpAny_pure h
theorem M0(xs:Array Value)(i k:Nat):((List.range k).filterMap fun (m:Nat)=>xs[((i:Int)+(m:Int)*1).toNat]?).toArray=((xs.toList.drop i).take k).toArray:=by
 have e:(fun (m:Nat)=>xs[((i:Int)+(m:Int)*1).toNat]?)=fun m=>xs[i+m]?:=by
  funext m
  have:((i:Int)+(m:Int)*1).toNat=i+m:=by omega
  rw[this]
 rw[e]
 have:=pick_run xs i k
 rw[List.filterMap_map] at this
 have e2:((fun x=>xs[x]?) ∘ fun x=>i+x)=fun m=>xs[i+m]?:=rfl
 rw[e2] at this
 rw[this]
theorem tX{t sl:Addr}{items:Array Value}{vl vu:Value}{lo hi:Option Int}{Q:Value->Shared->Prop}(ht:IsTup s.heap t items)(hs:s.heap.IsSliceOf sl vl vu .none)(pl:IsPart vl lo)(pu:IsPart vu hi)
  (hw:¬ (sIx items.size 0 lo=0/\sIx items.size items.size hi=items.size))
  (h:Q (.ref s.heap.objs.size) {s with heap:=s.heap.push {cls:=.type "tuple",data:=.seq ((items.toList.drop (sIx items.size 0 lo)).take (sIx items.size items.size hi-sIx items.size 0 lo)).toArray}})
  (hsz:items.size<=sizeLine):wpAny (model prog w) A (getItem (.ref t) (.ref sl)) Q E s:=by
 have htake:sizeOk (.seq ((items.toList.drop (sIx items.size 0 lo)).take (sIx items.size items.size hi-sIx items.size 0 lo)).toArray):=by
  show ((items.toList.drop (sIx items.size 0 lo)).take (sIx items.size items.size hi-sIx items.size 0 lo)).toArray.size<=sizeLine
  rw[size_toArray,length_take,List.length_drop,Array.length_toList]
  omega
 have hj:sIx items.size items.size hi<=items.size:=RD _ _ (Nat.le_refl _) hi
 obtain⟨os,hos,hcs,hds⟩:=id hs
 have hTs:s.TypeIs (.ref sl) "slice":=⟨os,hos,hcs⟩
 unfold getItem
 try with_reducible refine wpAny_holding ?_
 first|refine wpAny_bind (wpAny_pure ?_)|skip
 refine wpAny_bind (wpAny_sequenceKey ht.typeIs ⋯ ?_)
 refine wpAny_bind (wpAny_callSpecial?_slot (name:=Str.ofString "__getitem__") ht.typeIs PyProof.Rows.slot_tuple_getitem
  (wpAny_call_entry PyProof.Rows.slot_tuple_getitem ht.typeIs entry_tuple_getitem ?_ (args_tuple_getitem _ _)))
 show wpAny _ _ (Builtin.Tuple.tupleItemsOf (.ref t)>>=_) _ _ s
 refine wpAny_bind (tupleItemsOf_ ht ?_)
 refine wpAny_bind (wpAny_typeOf hTs ?_)
 rw[if_pos ⋯]
 refine wpAny_bind (mH hs pl pu ?_)
 have hno:¬ ((((sIx items.size 0 lo:Nat):Int)==0&&(1:Int)==1&&(sIx items.size items.size hi-sIx items.size 0 lo)==items.size)=true):=by
  intro q
  rw[and_eq_true,and_eq_true] at q
  have q1:((sIx items.size 0 lo:Nat):Int)=0:=eq_of_beq q.1.1
  have q2:sIx items.size items.size hi-sIx items.size 0 lo=items.size:=eq_of_beq q.2
  exact hw ⟨∅,∅⟩
 show wpAny _ _ (if (((sIx items.size 0 lo:Nat):Int)==0&&(1:Int)==1&&(sIx items.size items.size hi-sIx items.size 0 lo)==items.size)=true then _ else _) _ _ s
 rw[if_neg hno,M0]
 first
  |exact wpAny_bind (m:=Builtin.Tuple.tupleExact _) (wpAny_newObj_type (wpAny_pure ⟨_,rfl,wpAny_pure h⟩) htake)
  |exact wpAny_bind (m:=Builtin.Tuple.tupleExact _) (wpAny_newObj_type (wpAny_bind (wpAny_pure (wpAny_pure ⟨_,rfl,wpAny_pure h⟩))) htake)
  |exact wpAny_bind (wpAny_bind (m:=Builtin.Tuple.tupleExact _) (wpAny_newObj_type (wpAny_pure (wpAny_pure ⟨_,rfl,wpAny_pure h⟩)) htake))
  |exact wpAny_bind (wpAny_bind (m:=Builtin.Tuple.tupleExact _) (wpAny_newObj_type (wpAny_pure ⟨_,rfl,wpAny_pure h⟩) htake))
end
end HT
namespace L2
open PySem PySem.Spec PyProof.Rows
abbrev TO:=St->Hp->(Option Int->Hp->Prop)->Prop
noncomputable def PO(X:Cx)(e:Option Expr)(t:TO):Prop:=
 ∀(pins:List (Addr×Obj)) (s:Shared) (Z:St) (H:Hp) (Q:Option Int->Hp->Prop),Inv X pins Z H s->t Z H Q ->
  wpAny (model X.prog X.w) X.A (evalPart e X.env) (fun u s'=>∃o H',Inv X pins Z H' s'/\IsPart u o/\Q o H') X.xe s
noncomputable def Nc:TO:=fun _ H Q=>Q none H
noncomputable def SO(t:TE):TO:=fun Z H Q=>t Z H fun x H1=>∃i,x = .int i/\Q (some i) H1
section
variable {X:Cx}{e:Expr}{te:TE}{lo hi:Option Expr}{tl th:TO}{pos p2:Pos}
theorem Oa:PO X none Nc:=by
 intro pins s Z H Q I h
 rw[evalPart_none]
 exact wpAny_pure ⟨none,H,I,.none,h⟩
theorem NG(h:PE X e te):PO X (some e) (SO te):=by
 intro pins s Z H Q I hw
 rw[evalPart_some]
 refine thn (h pins s Z H _ I hw) fun u s1 ⟨x,H1,I1,r1,q1⟩=>?_
 obtain⟨i,rfl,q⟩:=q1
 obtain⟨t,rfl⟩:=r1
 exact⟨some i,H1,I1,.int i t,q⟩
noncomputable def SlR(X:Cx)(r:V->Option Int->Option Int->Hp->VK->Prop):Prop:=
 ∀(pins:List (Addr×Obj)) (s:Shared) (Z:St) (H:Hp) (x:V) (v vl vu:Value) (lo hi:Option Int) (sl:Addr) (Q:VK),Inv X pins Z H s->RelV x v->s.heap.IsSliceOf sl vl vu .none->IsPart vl lo->IsPart vu hi->r x lo hi H Q ->
  ∃T id,typeLookup (.type T) "__getitem__"=pure (some (.builtin id))/\s.TypeIs v T/\wpAny (model X.prog X.w) X.A (getItem v (.ref sl)) (EP X pins Z Q) X.xe s
theorem SlR.or{r r':V->Option Int->Option Int->Hp->VK->Prop}(h:SlR X r)(h':SlR X r'):SlR X (fun x lo hi H Q=>r x lo hi H Q\/r' x lo hi H Q):=by
 intro pins s Z H x v vl vu lo hi sl Q I rx hs pl pu q
 rcases q with q|q
 ·exact h pins s Z H x v vl vu lo hi sl Q I rx hs pl pu q
 ·exact h' pins s Z H x v vl vu lo hi sl Q I rx hs pl pu q
noncomputable def tSl(r:V->Option Int->Option Int->Hp->VK->Prop)(te:TE)(tl th:TO):TE:=fun Z H Q=>te Z H fun x H1=>tl Z H1 fun l H2=>th Z H2 fun u H3=>r x l u H3 Q
theorem KZ{r:V->Option Int->Option Int->Hp->VK->Prop}(hr:SlR X r)(he:PE X e te)(hl:PO X lo tl)(hu:PO X hi th):PE X (.Subscript e (.Slice lo hi none p2) pos) (tSl r te tl th):=by
 intro pins s Z H Q I h
 refine Subscript_ (thn (he pins s Z H _ I h) fun v s1 ⟨x,H1,I1,r1,q1⟩=>?_)
 refine wpAny_Slice (thn (hl pins s1 Z H1 _ I1 q1) fun vl s2 ⟨l,H2,I2,pl,q2⟩=>thn (hu pins s2 Z H2 _ I2 q2) fun vu s3 ⟨u,H3,I3,pu,q3⟩=>?_)
 rw[evalPart_none]
 refine wpAny_pure ?_
 have I4:Inv X pins Z H3 {s3 with heap:=s3.heap.push {cls:=.type "slice",data:=.fields #[vl,vu,.none]}}:=I3.kept (t':=s3.toks) fun b ob q=>Heap.get?_push_of_some _ q
 obtain⟨T,id,hT,ht,hg⟩:=hr pins {s3 with heap:=s3.heap.push {cls:=.type "slice",data:=.fields #[vl,vu,.none]}} Z H3 x v vl vu l u s3.heap.objs.size Q I4 r1 (Heap.IsSliceOf.new ..) pl pu q3
 show wpAny (model X.prog X.w) X.A (subscriptTail e (.Slice lo hi none p2) v (.ref s3.heap.objs.size)) (EP X pins Z Q) X.xe {s3 with heap:=s3.heap.push {cls:=.type "slice",data:=.fields #[vl,vu,.none]}}
 exact tail_any (ops:=[.ref s3.heap.objs.size,v]) ht hT hg (by with_unfolding_all rfl)
def Df(xs:List V)(lo hi:Option Int):List V:=(xs.drop (HT.sIx xs.length 0 lo)).take (HT.sIx xs.length xs.length hi-HT.sIx xs.length 0 lo)
theorem xB(xs:List V)(lo hi:Option Int):(Df xs lo hi).length<=xs.length:=by
 unfold Df
 rw[length_take,List.length_drop]
 omega
def Uj(K:PySem.W.Frag):V->Option Int->Option Int->Hp->VK->Prop:=fun x lo hi H Q=>∃a xs,x = .ref a/\SqT K H a xs /\
 ¬ (HT.sIx xs.length 0 lo=0/\HT.sIx xs.length xs.length hi=xs.length)/\∀p,H p=none->Q (.ref p) (upd H p (.tup (Df xs lo hi)))
theorem RV:SlR X (Uj X.K):=by
 intro pins s Z H x v vl vu lo hi sl Q I rx hs pl pu h
 obtain⟨a,xs,rfl,hx,hw,q⟩:=h
 cases rx
 obtain⟨its,r,ht,hz⟩:=I.tuple hx
 have hlen:its.toArray.size=xs.length:=by rw[size_toArray];exact r.length.symm
 refine⟨"tuple",_,PyProof.Rows.slot_tuple_getitem.lookup,ht.typeIs,?_⟩
 refine HT.tX ht hs pl pu (by rw[hlen];exact hw) ?_ (by rw[hlen];exact hz)
 rw[hlen]
 refine⟨.ref s.heap.objs.size,_,I.laid (t':=s.toks) (o:=.tup (Df xs lo hi)) (fun b ob q=>Heap.get?_push_of_some _ q) (Nat.le_refl _) ?_,rfl,q _ (I.hok.fresh (Nat.le_refl _))⟩
 exact⟨le_trans (xB xs lo hi) hz,_,(r.drop (HT.sIx xs.length 0 lo)).take (HT.sIx xs.length xs.length hi-HT.sIx xs.length 0 lo),IsTup.new _ _⟩
noncomputable def Tv(K:PySem.W.Frag):R2:=fun x y H Q=>∃a b xs ys,x = .ref a/\y = .ref b/\SqT K H a xs/\SqT K H b ys/\xs≠[]/\xs.length+ys.length<=sizeLine /\
 (ys=[]->Q (.ref a) H)/\(ys≠[]->∀p,H p=none->Q (.ref p) (upd H p (.tup (xs++ys))))
theorem Vals.D2{xs:List V}{us:List Value}(r:Vals xs us):us=[]↔xs=[]:=by
 cases r with
 |nil=>simp
 |cons _ _=>simp
theorem N5:OpR X (binaryOp .Add) (Tv X.K):=by
 intro pins s Z H x y v u Q I rx ry h
 obtain⟨a,b,xs,ys,rfl,rfl,ha,hb,hx,hz,q1,q2⟩:=h
 cases rx
 cases ry
 obtain⟨its,r1,p1,_⟩:=I.tuple ha
 obtain⟨its2,r2,p2,_⟩:=I.tuple hb
 refine HT.NW p1 p2 (fun z=>hx (r1.D2.mp z)) (fun z=>⟨.ref a,H,I,rfl,q1 (r2.D2.mp z)⟩) (fun z=>?_) (by rw[<- r1.length,<- r2.length];exact hz)
 refine⟨.ref s.heap.objs.size,_,I.laid (t':=s.toks) (o:=.tup (xs++ys)) (fun b ob q=>Heap.get?_push_of_some _ q) (Nat.le_refl _) ?_,rfl,q2 (fun w=>z (r2.D2.mpr w)) _ (I.hok.fresh (Nat.le_refl _))⟩
 exact⟨by rw[length_append];exact hz,_,r1.append r2,IsTup.new _ _⟩
end
end L2
namespace L2
open PySem PySem.Spec PyProof.Rows
def ixN(n:Nat)(i:Int):Option Nat:=if 0<=i then (if i<n then some i.toNat else none) else if -(n:Int)<=i then some (i+n).toNat else none
def atI{α:Type}(xs:List α)(i:Int):Option α:=(ixN xs.length i).bind fun j=>xs[j]?
theorem HG{n:Nat}{i:Int}{j:Nat}(h:ixN n i=some j):seqIndex? i n=some j/\j<n/\-(n:Int)<=i/\i<n:=by
 unfold ixN at h
 by_cases h0:0<=i
 ·rw[if_pos h0] at h
  by_cases h1:i<n
  ·rw[if_pos h1] at h
   have e:i.toNat=j:=Option.some.inj h
   exact⟨by rw[seqIndex_of h0 h1,e],∅,∅,h1⟩
  ·rw[if_neg h1] at h;cases h
 ·rw[if_neg h0] at h
  by_cases h1:-(n:Int)<=i
  ·rw[if_pos h1] at h
   have e:(i+n).toNat=j:=Option.some.inj h
   exact⟨by rw[seqIndex_neg ∅ h1,e],∅,h1,∅⟩
  ·rw[if_neg h1] at h;cases h
theorem Cr{α:Type}{xs:List α}{i:Int}{v:α}(h:atI xs i=some v):∃j,seqIndex? i xs.length=some j/\xs[j]? = some v/\j<xs.length/\-(xs.length:Int)<=i/\i<xs.length:=by
 unfold atI at h
 cases e:ixN xs.length i with
 |none=>rw[e] at h;cases h
 |some j=>
  rw[e] at h
  obtain⟨h1,h2,h3,h4⟩:=HG e
  exact⟨j,h1,h,h2,h3,h4⟩
theorem ym{α:Type}{xs:List α}{j:Nat}{v:α}(h:xs[j]? = some v):atI xs (j:Int)=some v:=by
 have hj:j<xs.length:=(List.getElem?_eq_some_iff.mp h).1
 have e:ixN xs.length (j:Int)=some j:=by
  unfold ixN
  rw[if_pos ∅,if_pos ∅];simp
 unfold atI;rw[e];exact h
noncomputable def HH(b:Expr):Prop:=∀o i,subscripted b false o i=operate [o,i] (getItem o i)
noncomputable def IxR(X:Cx)(r:R2):Prop:=
 ∀(value slice:Expr) (pins:List (Addr×Obj)) (s:Shared) (Z:St) (H:Hp) (x y:V) (v u:Value) (Q:VK),Inv X pins Z H s->RelV x v->RelV y u->r x y H Q ->
  subscripted slice false v u=operate [v,u] (getItem v u)->wpAny (model X.prog X.w) X.A (subscriptTail value slice v u) (EP X pins Z Q) X.xe s
noncomputable def MtR(X:Cx)(id:String)(r:V->List V->Hp->VK->Prop):Prop:=
 ∀(pins:List (Addr×Obj)) (s:Shared) (Z:St) (H:Hp) (x:V) (xs:List V) (v:Value) (us:List Value) (Q:VK),Inv X pins Z H s->RelV x v->Vals xs us->r x xs H Q ->
  wpAny (model X.prog X.w) X.A (call (.builtin id) (v::us)) (EP X pins Z Q) X.xe s
section
variable {X:Cx}{a b:Expr}{ta tb:TE}{pos:Pos}
theorem IxR.or{r r':R2}(h:IxR X r)(h':IxR X r'):IxR X (fun x y H Q=>r x y H Q\/r' x y H Q):=by
 intro value slice pins s Z H x y v u Q I rx ry q hs
 rcases q with q|q
 ·exact h value slice pins s Z H x y v u Q I rx ry q hs
 ·exact h' value slice pins s Z H x y v u Q I rx ry q hs
theorem SU{r:R2}(hr:IxR X r)(ha:PE X a ta)(hb:PE X b tb)(hs:HH b):PE X (.Subscript a b pos) (tOp r ta tb):=by
 intro pins s Z H Q I h
 exact Subscript_ (P8 ha hb I h fun v u s2 x y H2 I2 rx ry q=>hr a b pins s2 Z H2 x y v u Q I2 rx ry q (hs _ _))
noncomputable def R0(K:PySem.W.Frag):R2:=fun x y H Q=>∃p xs i v,x = .ref p/\y = .int i/\SqL K H p xs/\atI xs i=some v/\Q v H
noncomputable def Sj(K:PySem.W.Frag):R2:=fun x y H Q=>∃p xs i v,x = .ref p/\y = .int i/\SqT K H p xs/\atI xs i=some v/\Q v H
noncomputable def Tp:R2:=fun x y H Q=>∃z i c,x = .str z/\y = .int i/\z.length<=sizeLine/\atI z.cps.toList i=some c/\Q (.str ⟨#[c]⟩) H
theorem Ny:IxR X (R0 X.K):=by
 intro value slice pins s Z H x y v u Q I rx ry h hs
 obtain⟨p,xs,i,z,rfl,rfl,hq,he,q⟩:=h
 cases rx
 obtain⟨t,rfl⟩:=ry
 obtain⟨its,r,pl,hz⟩:=I.list hq
 obtain⟨j,h1,h2,h3,h4,h5⟩:=Cr he
 obtain⟨w,ew,rw'⟩:=r.get h2
 have hl:=r.length
 have hn:=zP
 have fin:EP X pins Z Q w s:=⟨z,H,I,rw',q⟩
 by_cases h0:0<=i
 ·have hj:i.toNat=j:=by
   rw[seqIndex_of h0 h5] at h1
   exact Option.some.inj h1
  exact item_listR pl.isList h0 ∅ (by rw[hj];simpa using ew) fin hs
 ·have hj:(i+(its.toArray.size:Int)).toNat=j:=by
   rw[seqIndex_neg ∅ h4] at h1
   rw[size_toArray,<- hl]
   exact Option.some.inj h1
  exact subscriptTail_builtinR (x:=w) pl.isList.typeIs slot_list_getitem.lookup
   (wpAny_getItem_list_neg (Q:=fun r s'=>r=w/\EP X pins Z Q r s') pl.isList ∅ (by rw[size_toArray]<;>omega) ∅ (by rw[hj];simpa using ew) ⟨rfl,fin⟩) hs
theorem Qg:IxR X (Sj X.K):=by
 intro value slice pins s Z H x y v u Q I rx ry h hs
 obtain⟨p,xs,i,z,rfl,rfl,hq,he,q⟩:=h
 cases rx
 obtain⟨t,rfl⟩:=ry
 obtain⟨its,r,pl,hz⟩:=I.tuple hq
 obtain⟨j,h1,h2,h3,h4,h5⟩:=Cr he
 obtain⟨w,ew,rw'⟩:=r.get h2
 have hl:=r.length
 have hn:=zP
 have fin:EP X pins Z Q w s:=⟨z,H,I,rw',q⟩
 exact subscriptTail_builtinR (x:=w) pl.typeIs slot_tuple_getitem.lookup
  (getItem_tuple (j:=j) (Q:=fun r s'=>r=w/\EP X pins Z Q r s') pl ∅ ∅ (by rw[size_toArray,<- hl];exact h1) (by simpa using ew) ⟨rfl,fin⟩) hs
theorem PN:IxR X Tp:=by
 intro value slice pins s Z H x y v u Q I rx ry h hs
 obtain⟨z,i,c,rfl,rfl,hz,he,q⟩:=h
 obtain⟨t,rfl⟩:=rx
 obtain⟨t',rfl⟩:=ry
 obtain⟨j,h1,h2,h3,h4,h5⟩:=Cr he
 have hl:z.cps.toList.length=z.length:=by simp[Str.length]
 rw[hl] at h1 h4 h5
 have hn:=zP
 exact tail_any (typeIs_str s z t) slot_str_getitem.lookup (getItem_str (c:=c) (by
  have e1:decide (i < -(2 ^ 63:Int))=false:=decide_eq_false ∅
  have e2:decide (i ≥ 2 ^ 63)=false:=decide_eq_false ∅
  rw[e1,e2,Bool.or_false]) (by rw[h1];simpa using h2) ⟨.str ⟨#[c]⟩,H,I.tok _,⟨_,rfl⟩,q⟩) hs
noncomputable def rIx(K:PySem.W.Frag):R2:=fun x y H Q=>R0 K x y H Q\/Sj K x y H Q\/Tp x y H Q
theorem QR:IxR X (rIx X.K):=Ny.or (Qg.or PN)
theorem Ho(its:List Value)(n j:Nat)(u:Value):Obj.mapSeq (·.setIfInBounds j u) {cls:=.type "list",data:=.seq its.toArray n} = {cls:=.type "list",data:=.seq (its.set j u).toArray n}:=by
 simp[Obj.mapSeq]
theorem Inv.lst{pins:List (Addr×Obj)}{Z:St}{H:Hp}{s:Shared}{p:Addr}{xs:List V}(I:Inv X pins Z H s)(h:H p=some (.lst xs)) :
  ∃(its:List Value) (n:Nat),Vals xs its/\s.heap.get? p=some {cls:=.type "list",data:=.seq its.toArray n}/\xs.length<=sizeLine:=by
 obtain⟨z,its,n,r,e⟩:=I.hok p _ h
 exact⟨its,n,r,e,z⟩
theorem Inv.Rc{pins:List (Addr×Obj)}{Z:St}{H:Hp}{s:Shared}{p:Addr}{xs ys:List V}{its its':List Value}{n n':Nat}{f:Obj->Obj}(I:Inv X pins Z H s)(h:H p=some (.lst xs))
  (ho:s.heap.get? p=some {cls:=.type "list",data:=.seq its.toArray n}) (hf:f {cls:=.type "list",data:=.seq its.toArray n} = {cls:=.type "list",data:=.seq its'.toArray n'}) (r:Vals ys its') (hz:ys.length<=sizeLine) (t:Nat) :
  Inv X pins Z (upd H p (.lst ys)) {s with heap:=s.heap.update p f,toks:=t}:=by
 have e:(s.heap.update p f).get? p=some {cls:=.type "list",data:=.seq its'.toArray n'}:=by
  rw[Heap.get?_update_self f ho (by rw[hf]<;>rfl),hf]
 refine I.write (x:=p) (e:=p) (by rw[h];trivial) (.inl rfl) (fun b u hb q=>(Heap.get?_update_other _ _ (Ne.symm hb)).trans q) ⟨_,e⟩ ?_
 exact⟨hz,its',n',r,e⟩
def Sl:V->V->V->Hp->(Hp->Prop)->Prop:=fun o i v H Q=>∃p xs k j,o = .ref p/\i = .int k/\H p=some (.lst xs)/\ixN xs.length k=some j/\Q (upd H p (.lst (xs.set j v)))
theorem set_list:Tx X Sl:=by
 intro pins s Z H o i v ov iv u Q I ro ri rv h
 obtain⟨p,xs,k,j,rfl,rfl,hp,hj,q⟩:=h
 cases ro
 obtain⟨t,rfl⟩:=ri
 obtain⟨its,n,r,ho,hz⟩:=I.lst hp
 obtain⟨h1,h2,h3,h4⟩:=HG hj
 have hl:=r.length
 have hn:=zP
 have I':Inv X pins Z (upd H p (.lst (xs.set j v))) {s with heap:=s.heap.update p (Obj.mapSeq (·.setIfInBounds j u))}:=
  I.Rc hp ho (Ho its n j u) (r.set rv j) (by rw[length_set];exact hz) s.toks
 by_cases h0:0<=k
 ·have hk:k.toNat=j:=by
   rw[seqIndex_of h0 h4] at h1
   exact Option.some.inj h1
  exact PySem.W.ki_setAt ho h0 ∅ (by rw[size_toArray,<- hl];exact h4) (by rw[hk];exact⟨_,I',q⟩)
 ·have hk:(k+(its.toArray.size:Int)).toNat=j:=by
   rw[seqIndex_neg ∅ h3] at h1
   rw[size_toArray,<- hl]
   exact Option.some.inj h1
  exact PySem.W.ki_setBack ho ∅ (by rw[size_toArray,<- hl];exact h3) ∅ (by rw[hk];exact⟨_,I',q⟩)
theorem Cq(lo hi:Option Int)(n:Nat):(sliceBounds lo hi none n).1=((HT.sIx n 0 lo:Nat):Int)/\(sliceBounds lo hi none n).2.1=((HT.sIx n n hi:Nat):Int)/\(sliceBounds lo hi none n).2.2=1:=by
 refine⟨?_,?_,rfl⟩
 ·cases lo with
  |none=>simp[sliceBounds,HT.sIx]
  |some i=>
   simp only[sliceBounds,HT.sIx,Option.getD_none,show (1:Int)>0 by decide,if_true]
   by_cases h:i<0
   ·simp only[h,if_true]<;>omega
   ·simp only[h,if_false]<;>omega
 ·cases hi with
  |none=>simp[sliceBounds,HT.sIx]
  |some i=>
   simp only[sliceBounds,HT.sIx,Option.getD_none,show (1:Int)>0 by decide,if_true]
   by_cases h:i<0
   ·simp only[h,if_true]<;>omega
   ·simp only[h,if_false]<;>omega
theorem Ao(its:List Value)(lo hi:Option Int):slicePick its.toArray lo hi none=((its.drop (HT.sIx its.length 0 lo)).take (HT.sIx its.length its.length hi-HT.sIx its.length 0 lo)).toArray:=by
 obtain⟨h1,h2,h3⟩:=Cq lo hi its.toArray.size
 unfold slicePick
 rw[h1,h2,h3]
 simp only[sliceRange_one,pick_run,size_toArray]<;>rfl
def Ub(K:PySem.W.Frag):V->Option Int->Option Int->Hp->VK->Prop:=fun x lo hi H Q=>∃a xs,x = .ref a/\SqL K H a xs/\∀p,H p=none->Q (.ref p) (upd H p (.lst (Df xs lo hi)))
theorem Ow:SlR X (Ub X.K):=by
 intro pins s Z H x v vl vu lo hi sl Q I rx hs pl pu h
 obtain⟨a,xs,rfl,hx,q⟩:=h
 cases rx
 obtain⟨its,r,ht,hz⟩:=I.list hx
 have hlen:=r.length
 refine⟨"list",_,slot_list_getitem.lookup,ht.isList.typeIs,?_⟩
 refine wpAny_getItem_list_slice ht.isList hs pl pu .none (by simp) ?_ (by rw[size_toArray]<;>omega)
 rw[Ao,<- hlen]
 refine⟨.ref s.heap.objs.size,_,I.laid (t':=s.toks) (o:=.lst (Df xs lo hi)) (fun b ob q=>Heap.get?_push_of_some _ q) (Nat.le_refl _) ?_,rfl,q _ (I.hok.fresh (Nat.le_refl _))⟩
 exact⟨le_trans (xB xs lo hi) hz,_,0,(r.drop (HT.sIx xs.length 0 lo)).take (HT.sIx xs.length xs.length hi-HT.sIx xs.length 0 lo),Heap.get?_push_size _ rfl⟩
theorem DM:jW X (.builtin "len") (fun xs H Q=>∃p ys,xs=[.ref p]/\(SqL X.K H p ys\/SqT X.K H p ys)/\Q (.int ys.length) H):=by
 intro pins s Z H xs us Q I r h
 obtain⟨p,ys,rfl,hq,q⟩:=h
 obtain⟨u,rfl,rx⟩:=vals1 r
 cases rx
 have hn:=zP
 rcases hq with hq|hq
 ·obtain⟨its,r',pl,hz⟩:=I.list hq
  have hlen:=r'.length
  exact Calls.call_len_list pl.isList (by simp only[size_toArray]<;>omega) ⟨.int ys.length,H,I.tok _,⟨s.toks+1,by rw[size_toArray,hlen]⟩,q⟩
 ·obtain⟨its,r',pl,hz⟩:=I.tuple hq
  have hlen:=r'.length
  exact len_tuple pl (by simp only[size_toArray]<;>omega) ⟨.int ys.length,H,I.tok _,⟨s.toks+1,by rw[size_toArray,hlen]⟩,q⟩
theorem DC:jW X (.type "list") (fun xs H Q=>∃p ys,xs=[.ref p]/\(SqL X.K H p ys\/SqT X.K H p ys)/\∀l,H l=none->Q (.ref l) (upd H l (.lst ys))):=by
 intro pins s Z H xs us Q I r h
 obtain⟨p,ys,rfl,hq,q⟩:=h
 obtain⟨u,rfl,rx⟩:=vals1 r
 cases rx
 have fin:∀(its:List Value),Vals ys its->ys.length<=sizeLine->∀(h':Heap) (c':Nat),(∀b o',s.heap.get? b=some o'->h'.get? b=some o') ->
   h'.get? s.heap.objs.size=some {cls:=.type "list",dict:=none,data:=.seq its.toArray c',slots:=#[]}->EP X pins Z Q (.ref s.heap.objs.size) {s with heap:=h'}:=fun its r' hz h' c' kp e=>
  ⟨.ref s.heap.objs.size,_,I.laid (t':=s.toks) kp (Nat.le_refl _) (show lh X.prog X.w _ h' _ (.lst ys) from ⟨hz,its,c',r',e⟩),rfl,q _ (I.hok.fresh (Nat.le_refl _))⟩
 rcases hq with hq|hq
 ·obtain⟨its,r',pl,hz⟩:=I.list hq
  have hlen:=r'.length
  obtain⟨o,ho,hc,n,hd⟩:=pl.isList
  exact call_list_seq p (.inl rfl) ho hc hd (fun h' c' kp e=>fin its r' hz h' c' kp e) (by simp only[size_toArray]<;>omega)
 ·obtain⟨its,r',pl,hz⟩:=I.tuple hq
  have hlen:=r'.length
  obtain⟨o,ho,hc,n,hd⟩:=pl
  exact call_list_seq p (.inr rfl) ho hc hd (fun h' c' kp e=>fin its r' hz h' c' kp e) (by simp only[size_toArray]<;>omega)
theorem A0:jW X (.type "tuple") (fun xs H Q=>∃p ys,xs=[.ref p]/\((SqL X.K H p ys/\∀l,H l=none->Q (.ref l) (upd H l (.tup ys)))\/(SqT X.K H p ys/\Q (.ref p) H))):=by
 intro pins s Z H xs us Q I r h
 obtain⟨p,ys,rfl,h⟩:=h
 obtain⟨u,rfl,rx⟩:=vals1 r
 cases rx
 rcases h with ⟨hq,q⟩|⟨hq,q⟩
 ·obtain⟨its,r',pl,hz⟩:=I.list hq
  have hlen:=r'.length
  refine call_tuple_list pl.isList (fun h' kp=>?_) (by simp only[size_toArray]<;>omega)
  have I1:Inv X pins Z H {s with heap:=h'}:=I.kept (t':=s.toks) kp
  have I2:Inv X pins Z (upd H h'.objs.size (.tup ys)) {s with heap:=h'.push {cls:=.type "tuple",data:=.seq its.toArray}}:=
   I1.laid (t':=s.toks) (fun b o e=>Heap.get?_push_of_some _ e) (Nat.le_refl _) (show lh X.prog X.w _ _ _ (.tup ys) from ⟨hz,its,r',IsTup.new _ _⟩)
  exact⟨.ref h'.objs.size,_,I2,rfl,q _ (I1.hok.fresh (Nat.le_refl _))⟩
 ·obtain⟨its,r',pl,hz⟩:=I.tuple hq
  exact call_tuple_same pl ⟨.ref p,H,I,rfl,q⟩
noncomputable def tyV(K:PySem.W.Frag)(T:String)(x:V)(H:Hp):Prop:=match x with
 |.str _=>T = "str"
 |.int _=>T = "int"
 |.ref p=>(T = "list"/\∃xs,SqL K H p xs)\/(T = "tuple"/\∃o,K.lookup p=some o/\o.cls = .type "tuple"/\o.dict=none) \/
   (T = "dict"/\((∃kvs,H p=some (.dK kvs))\/∃kvs,H p=some (.dT kvs)))\/(T = "set"/\∃S n,H p=some (.set S n))
 |_=>False
theorem Qb{pins:List (Addr×Obj)}{Z:St}{H:Hp}{s:Shared}{T:String}{x:V}{v:Value}(I:Inv X pins Z H s)(r:RelV x v)(ty:tyV X.K T x H) :
  s.TypeIs v T/\∀a,v = .ref a->∃ob,s.heap.get? a=some ob/\ob.dict=none:=by
 cases x with
 |str z=>
  obtain⟨t,rfl⟩:=r
  cases (show T = "str" from ty)
  exact⟨typeIs_str s z t,fun _ e=>nomatch e⟩
 |int i=>
  obtain⟨t,rfl⟩:=r
  cases (show T = "int" from ty)
  exact⟨typeIs_int s i t,fun _ e=>nomatch e⟩
 |ref p=>
  cases r
  rcases ty with ⟨rfl,xs,hq⟩|⟨rfl,o,hk,hc,hd⟩|⟨rfl,hk⟩|⟨rfl,S,n,hk⟩
  ·obtain⟨its,_,pl,_⟩:=I.list hq
   refine⟨pl.isList.typeIs,fun a e=>?_⟩
   cases e
   obtain⟨o,n,e,c,hd,_⟩:=pl
   exact⟨o,e,hd⟩
  ·refine⟨⟨o,I.kIn p o hk,hc⟩,fun a e=>?_⟩
   cases e
   exact⟨o,I.kIn _ o hk,hd⟩
  ·have z:∃o,s.heap.get? p=some o/\o.ExactDict:=by
    rcases hk with ⟨kvs,hk⟩|⟨kvs,hk⟩
    ·obtain⟨_,_,_,_,o,_,_,e,ex,_⟩:=I.hok p _ hk
     exact⟨o,e,ex⟩
    ·obtain⟨_,_,_,_,o,_,_,e,ex,_⟩:=I.hok p _ hk
     exact⟨o,e,ex⟩
   obtain⟨o,e,ex⟩:=z
   refine⟨⟨o,e,ex.1⟩,fun a e2=>?_⟩
   cases e2
   exact⟨o,e,ex.2.1⟩
  ·obtain⟨o,_,_,_,e,ex,_⟩:=I.hok p _ hk
   refine⟨⟨o,e,ex.1⟩,fun a e2=>?_⟩
   cases e2
   exact⟨o,e,ex.2.1⟩
 |_=>exact False.elim ty
noncomputable def tBM(K:PySem.W.Frag)(T:String)(r:V->List V->Hp->VK->Prop)(to:TE)(t:TA):TE:=fun Z H Q=>to Z H fun x H1=>tyV K T x H1/\t Z H1 fun xs H2=>r x xs H2 Q
variable {o e:Expr}{es:List Expr}{to:TE}{t:TA}{name:Str}{apos cpos:Pos}{T id:String}{r:V->List V->Hp->VK->Prop}
theorem OP(pa:PlainAttrs T)(slot:Slot T name id)(hty:typeOf (.builtin id)=pure (.type "method_descriptor"))(hm:MtR X id r)(ho:PE X o to)(ha:PA X (e::es) t)
  (hbase:attributeBase o name X.env (eval o X.env)=eval o X.env:=by rfl)
  (hfew:((backTo cpos (starEach (e::es) X.env)).all (fun x=>!x.1)&&(backToKw cpos (keywordEach [] X.env)).all (fun x=>x.1.isSome)
   && decide ((e::es).length+([]:List Keyword).length+(if ([]:List Keyword).isEmpty then 0 else 1)<30))=true:=by rfl)
  (hline:(apos.endLine==cpos.line)=true:=by rfl) (hs:starEach (e::es) X.env=(false,eval e X.env)::starEach es X.env:=by rfl) (hplain:(backTo cpos (starEach es X.env)).any (·.1)=false:=by rfl) :
  PE X (.Call (.Attribute o name apos) (e::es) [] cpos) (tBM X.K T r to t):=by
 intro pins s Z H Q I h
 refine wpAny_Call_method_late hbase hfew hline rfl (thn (ho pins s Z H _ I h) fun v s1 ⟨x,H1,I1,r1,ty,q1⟩=>?_)
 obtain⟨h1,h2⟩:=Qb I1 r1 ty
 refine⟨T,id,pa,slot,hty,h1,h2,?_⟩
 have hA:=ha cpos pins s1 Z H1 _ I1 q1
 rw[hs] at hA ⊢
 refine Calls.callWith_builtin (by show (false || (backTo cpos (starEach es X.env)).any (·.1))=false;rw[hplain]<;>rfl) (Calls.evalArgs_plain ?_)
 exact thn hA fun us s2 ⟨vs,H2,I2,r2,q2⟩=>hm pins s2 Z H2 x vs v us Q I2 r1 r2 q2
end
end L2
namespace L2
open PySem PySem.Spec PyProof.Rows
noncomputable def MtM(X:Cx)(id:String)(r:V->List V->Hp->VK->Prop):Prop:=
 ∀(pins:List (Addr×Obj)) (s:Shared) (Z:St) (H:Hp) (x:V) (xs:List V) (v:Value) (us:List Value) (Q:VK),Inv X pins Z H s->RelV x v->Vals xs us->r x xs H Q ->
  wpAny (model X.prog X.w) X.A (call (.builtin id) (v::us)) (EP X pins Z Q) X.xe s
theorem Vals.one:∀{x:V} {us:List Value},Vals [x] us->∃u,us=[u]/\RelV x u
 |_,_,.cons r .nil=>⟨_,rfl,r⟩
theorem Vals.reverse{xs:List V}{us:List Value}(h:Vals xs us):Vals xs.reverse us.reverse:=by
 induction h with
 |nil=>exact .nil
 |cons r t ih=>rw[List.reverse_cons,List.reverse_cons];exact Vals.append ih (.cons r .nil)
theorem Vals.rep{xs:List V}{us:List Value}(h:Vals xs us):∀k:Nat,Vals (List.replicate k xs).flatten (List.replicate k us).flatten
 |0=>.nil
 |k+1=>by
  rw[replicate_succ,replicate_succ,flatten_cons,flatten_cons]
  exact Vals.append h (Vals.rep h k)
theorem foldl_rep(its:List Value):∀(k:Nat) (acc:List Value),
  List.foldl (fun x1 x2=>x1++x2) acc.toArray (List.replicate k its.toArray)=(acc++(List.replicate k its).flatten).toArray
 |0,acc=>by simp
 |k+1,acc=>by
  have e:acc.toArray++its.toArray=(acc++its).toArray:=by simp
  have e2:(acc++its)++(List.replicate k its).flatten=acc++(List.replicate (k+1) its).flatten:=by
   rw[replicate_succ,flatten_cons,List.append_assoc]
  rw[<- e2,<- foldl_rep its k (acc++its),<- e,replicate_succ,List.foldl_cons]
section
variable {X:Cx}{pins:List (Addr×Obj)}{Z:St}{H:Hp}{s:Shared}{l b:Addr}{xs ys zs:List V}
theorem Inv.SE{its its':List Value}{n:Nat}{f:Array Value->Array Value}{t':Nat}(I:Inv X pins Z H s)(hH:H l=some (.lst xs))
  (e:s.heap.get? l=some {cls:=.type "list",data:=.seq its.toArray n}) (hf:f its.toArray=its'.toArray) (hv:Vals ys its') (hz:ys.length<=sizeLine) :
  Inv X pins Z (upd H l (.lst ys)) {s with heap:=s.heap.update l (Obj.mapSeq f),toks:=t'}:=by
 have q:=PySem.IsL.update e f
 rw[hf] at q
 refine I.write (x:=l) (e:=l) (by rw[hH];exact trivial) (.inl rfl) (fun b' u hb hu=>(Heap.get?_update_other s.heap (Obj.mapSeq f) (Ne.symm hb)).trans hu) ⟨_,q⟩ ?_
 exact⟨hz,its',_,hv,q⟩
theorem Inv.S9{its:List Value}{t':Nat}(I:Inv X pins Z H s)(hv:Vals ys its)(hz:ys.length<=sizeLine) :
  Inv X pins Z (upd H s.heap.objs.size (.lst ys)) {s with heap:=s.heap.push {cls:=.type "list",data:=.seq its.toArray},toks:=t'}:=
 I.laid (fun _ _ q=>Heap.get?_push_of_some _ q) (Nat.le_refl _) ⟨hz,its,0,hv,Heap.get?_push_size _ rfl⟩
theorem Inv.fresh(I:Inv X pins Z H s):H s.heap.objs.size=none:=I.hok.fresh (Nat.le_refl _)
theorem Inv.JR(I:Inv X pins Z H s)(hH:H l=some (.lst xs)):xs.length<=sizeLine/\∃(its:List Value) (n:Nat),Vals xs its/\xs.length=its.length/\s.heap.get? l=some {cls:=.type "list",data:=.seq its.toArray n}:=by
 obtain⟨z,its,n,r,e⟩:=I.hok l _ hH
 exact⟨z,its,n,r,r.length,e⟩
theorem E8{n:Nat}(h:n<=sizeLine):Builtin.List.listTooLong n=false:=by
 unfold Builtin.List.listTooLong
 exact decide_eq_false ∅
end
section
variable {X:Cx}
def Nj:V->List V->Hp->VK->Prop:=fun x vs H Q=>∃l xs y,x = .ref l/\vs=[y]/\H l=some (.lst xs)/\xs.length<sizeLine/\Q .non (upd H l (.lst (xs++[y])))
theorem vF:MtM X "list.append" Nj:=by
 intro pins s Z H x vs v us Q I rx rv h
 obtain⟨l,xs,y,rfl,rfl,hH,hz,q⟩:=h
 cases rx
 obtain⟨u,rfl,ru⟩:=rv.one
 obtain⟨z,its,n,r,hl,e⟩:=I.JR hH
 refine call_meets F.slot_list_append ⟨_,e,rfl⟩ F.entry_list_append (F.args_list_append_2 _ _) (PySem.list_append l its.toArray n u (by rw[size_toArray];omega)) ⟨e,?_⟩
 refine⟨.non,_,I.SE (its':=its++[u]) hH e (by simp) (r.append (.cons ru .nil)) ?_,rfl,q⟩
 rw[length_append,List.length_singleton]
 omega
def OL:V->List V->Hp->VK->Prop:=fun x vs H Q=>∃l b xs zs,x = .ref l/\vs=[.ref b]/\H l=some (.lst xs)/\H b=some (.lst zs)/\xs.length+zs.length<=sizeLine/\Q .non (upd H l (.lst (xs++zs)))
theorem Jd:MtM X "list.extend" OL:=by
 intro pins s Z H x vs v us Q I rx rv h
 obtain⟨l,b,xs,zs,rfl,rfl,hH,hB,hz,q⟩:=h
 cases rx
 obtain⟨u,rfl,ru⟩:=rv.one
 cases ru
 obtain⟨z,its,n,r,hl,e⟩:=I.JR hH
 obtain⟨z2,its2,n2,r2,hl2,e2⟩:=I.JR hB
 have hsz:its.toArray.size+its2.toArray.size<=sizeLine:=by rw[size_toArray,size_toArray];omega
 have hlong:¬ (!its.toArray.isEmpty&&Builtin.List.listTooLong (its.toArray.size+its2.toArray.size))=true:=by
  rw[E8 hsz,Bool.and_false]
  exact Bool.false_ne_true
 refine call_meets F.slot_list_extend ⟨_,e,rfl⟩ F.entry_list_extend (F.args_list_extend_2 _ _)
  (AutoSeq1.list_extend_list_list_0 l its.toArray n b its2.toArray n2 hlong (by rw[size_toArray];omega) ∅) ⟨e,e2,?_⟩
 refine⟨.non,_,I.SE (its':=its++its2) hH e (by simp) (r.append r2) ?_,rfl,q⟩
 rw[length_append]
 omega
noncomputable def QU:R2:=fun x y H Q=>∃l b xs zs,x = .ref l/\y = .ref b/\H l=some (.lst xs)/\H b=some (.lst zs)/\xs.length+zs.length<=sizeLine/\∀p,H p=none->Q (.ref p) (upd H p (.lst (xs++zs)))
theorem RR:OpR X (binaryOp .Add) QU:=by
 intro pins s Z H x y v u Q I rx ry h
 obtain⟨l,b,xs,zs,rfl,rfl,hH,hB,hz,q⟩:=h
 cases rx
 cases ry
 obtain⟨z,its,n,r,hl,e⟩:=I.JR hH
 obtain⟨z2,its2,n2,r2,hl2,e2⟩:=I.JR hB
 refine PySem.P.add_list e e2 ?_ (by rw[size_toArray,size_toArray];omega)
 have ea:its.toArray++its2.toArray=(its++its2).toArray:=by simp
 rw[ea]
 exact⟨.ref _,_,I.S9 (t':=s.toks) (r.append r2) (by rw[length_append];omega),rfl,q _ I.fresh⟩
noncomputable def R4:R2:=fun x y H Q=>∃l k xs,x = .ref l/\y = .int k/\H l=some (.lst xs)/\-(2 ^ 63)<=k/\k<2 ^ 63/\xs.length*k.toNat<=sizeLine /\
 ∀p,H p=none->Q (.ref p) (upd H p (.lst (List.replicate k.toNat xs).flatten))
theorem len_rep{α:Type}(xs:List α)(k:Nat):(List.replicate k xs).flatten.length=k*xs.length:=by
 induction k with
 |zero=>simp
 |succ k ih=>rw[replicate_succ,flatten_cons,length_append,ih,Nat.succ_mul,Nat.add_comm]
theorem Rb:OpR X (binaryOp .Mult) R4:=by
 intro pins s Z H x y v u Q I rx ry h
 obtain⟨l,k,xs,rfl,rfl,hH,h1,h2,hz,q⟩:=h
 cases rx
 obtain⟨t,rfl⟩:=ry
 obtain⟨z,its,n,r,hl,e⟩:=I.JR hH
 have hlen:its.toArray.size*k.toNat<=sizeLine:=by rw[size_toArray,<- hl];exact hz
 have hcap:¬ its.toArray.size*k.toNat>(2 ^ 63-1) / 8:=by
  have:(sizeLine:Nat)<=(2 ^ 63-1) / 8:=by decide
  omega
 have hfit:¬ (!Builtin.List.listFitsIndex k)=true:=by
  rw[fitsIndex_both h1 h2]
  exact Bool.false_ne_true
 have hlong:¬ Builtin.List.listTooLong (its.toArray.size*k.toNat)=true:=by
  rw[E8 hlen]
  exact Bool.false_ne_true
 have hnew:List.foldl (fun x1 x2=>x1++x2) #[] (List.replicate (if its.toArray.isEmpty=true then 0 else k.toNat) its.toArray)=(List.replicate k.toNat its).flatten.toArray:=by
  have f0:∀m:Nat,List.foldl (fun x1 x2=>x1++x2) #[] (List.replicate m its.toArray)=(List.replicate m its).flatten.toArray:=fun m=>by
   have:=foldl_rep its m []
   rw[List.nil_append] at this
   exact this
  rw[f0]
  cases its with
  |nil=>simp
  |cons a r'=>rw[if_neg (by simp)]
 refine wpAny_binaryOp_repeat_ref (T:="list") (U:="int") ⋯ ⟨_,e,rfl⟩ (fun s'=>typeIs_int s' k t) noFill_list_mul F.fills_int_mul F.slot_int_rmul repeat_list F.slot_int_index.lookup
  (call_meets F.slot_int_rmul (typeIs_int s k t) F.entry_int_rmul (F.args_int_rmul_2 _ _) (int___rmul___int_list k t l its.toArray n)
   ⟨e,rfl,⟨_,e,rfl⟩,call_meets F.slot_list_mul ⟨_,e,rfl⟩ F.entry_list_mul (F.args_list_mul_2 _ _) (AutoListH.list___mul___list_int_3 l its.toArray n k t hfit hcap hlong) ⟨e,?_⟩⟩)
 rw[hnew]
 exact⟨.ref _,_,I.S9 (t':=s.toks) (r.rep k.toNat) (by rw[len_rep,Nat.mul_comm];exact hz),rfl,q _ I.fresh⟩
end
end L2
namespace Att
open PySem PySem.W PySem.Calls PyProof.Rows
theorem xK{P:Params}{h:Heap}:∀(ns:List Int) (vs:List Value),WellAll P h vs (ns.map WData.int)->IntsAre vs ns:=by
 intro ns
 induction ns with
 |nil=>
  intro vs w
  rw[List.map_nil] at w
  cases w
  exact .nil
 |cons n ns ih=>
  intro vs w
  rw[map_cons] at w
  cases w with
  |cons a b=>
   cases a
   exact .cons _ _ (ih _ b)
theorem Jv{l:OpenLaw}{n:Nat}(hn:l.most=some n){P:Params}{h:Heap}{args:List WData}{vals:List Value}
  (hpre:l.row.toRowW.claim.pre args=true) (hwl:WellAll P h vals args) :
  ∃a vs ns,vals=[Value.ref a]/\args=[WData.list (ns.map WData.int)]/\h.get? a=some {cls:=.type "list",data:=.seq vs.toArray}/\IntsAre vs ns/\ns.length<=n:=by
 have hsh:WShape.hasAll [] args [.list .int]=true:=(pre_splitW hpre).1
 have hc:l.pre.holds [] {args:=args} = true:=(pre_splitW hpre).2
 obtain⟨d,r,rfl,h1,h2⟩:=hasAllW_cons hsh
 obtain rfl:=hasAllW_nil h2
 obtain⟨xs,rfl,h3⟩:=hasW_list h1
 obtain⟨ns,rfl⟩:=items_int h3
 have hlen:ns.length<=n:=by
  unfold OpenLaw.pre at hc
  have h4:(WTm.not (.lt (.lit (.int (n:Int))) (.len (.arg 0)))).holds [] {args:=[.list (ns.map .int)]} = true:=by
   have h4:=(holds_andW hc).1
   rw[hn] at h4
   exact h4
  have h5:=condW_of h4 (w_not (w_lt w_lit (w_len_list (w_arg rfl))))
  rw[length_map] at h5
  refine Nat.le_of_not_lt fun q=>?_
  have q':(n:Int)<((ns.length:Nat):Int):=by omega
  first
   |(rw[decide_eq_true q'] at h5;exact absurd h5 ⋯)
   |(simp at h5;omega)
 cases hwl with
 |cons w1 w2=>
  cases w2
  cases w1 with
  |list ho hall=>exact⟨_,_,ns,rfl,rfl,ho,xK ns _ hall,hlen⟩
theorem J0(l:OpenLaw)(args:List WData):l.row.toRowW.claim.post args (.bool true) args=true:=
 postW_of (r:=l.row.toRowW) (X:=(true==true))
  (show WShape.has [] (.bool true) .bool=true by first|rfl|decide|simp[WShape.has,WShape.arms,WShape.armsAll])
  (show (WTm.eq .res (.lit (.bool true))).value [] {args:=args,res:=some (.bool true),after:=args} = some (.bool (true==true)) from w_eq_bool (w_res rfl) w_lit) rfl
theorem Eb{l:OpenLaw}{n:Nat}{q:Program}{loose:List Str}{XP:(Str->Option Value)->Heap->Prop}{YP:World->Heap->Prop}{d:DefRec}
  (hn:l.most=some n) (hdf:d.params.defaults=[])
  (call:∀(w:World) (dl ce:Shared) (mg mb:Str->Option Value) (fa:Addr) (o:Obj) (pm cd doc:Value) (a:Addr) (vs:List Value) (ns:List Int),
   Ground q loose [] XP w dl mg mb ce.heap->YP w ce.heap ->
   ce.heap.get? fa=some o->o.data = .func (docDef d.name d.params d.body d.scope pm cd doc)->ce.heap.CodeRec cd d.name->mg d.name=some (.ref fa) ->
   ce.heap.get? a=some {cls:=.type "list",data:=.seq vs.toArray}->IntsAre vs ns->ns.length<=n->ce.gens = #[] ->
   codeAny (model l.prog w) callerA (.call (.ref fa) ⟨[.ref a],[]⟩) (fun r s'=>r = .ok (.ret (.bool true))/\OldK ce.heap s'.heap/\s'.os=ce.os/\AllBare s'.gens) ce) :
  WalkO q loose XP YP l.row.toRowW d [] (fun f vs=>PySem.call f vs):=by
 intro w dl ce mg mb G ZZ fa o pm cd doc dV kV ho hd hcd hD hmg hg args vals as hpre hlay hrd hwl hlo
 obtain rfl:dV = .none:=Dflts.none hD hdf
 obtain rfl:kV = .none:=Dflts.noKw hD
 obtain⟨a,vs,ns,rfl,rfl,hobj,hints,hlen⟩:=Jv hn hpre hwl
 refine enter_call (codeAny_mono (call w dl ce mg mb fa o pm cd doc a vs ns G ZZ ho (fd_plain hd) hcd hmg hobj hints hlen hg) fun r s' hq=>?_)
 obtain⟨rfl,h2,h3,h4⟩:=hq
 exact⟨.inl ⟨.bool true,.bool true,[],rfl,fun _=>rfl,.bool true,J0 l _,fun _=>⟨List.Pairwise.nil,fun _ hm=>(nomatch hm)⟩⟩,h2,h3,h4⟩
section
variable {prog:Program}{w:World}{A:Around}{E:Value->Shared->Prop}{s:Shared}{K:Frag}
def ledger(h:Heap)(L d:Addr):List (Addr×Obj):=(List.range h.objs.size).filterMap fun a=>if a=L\/a=d then none else (h.get? a).map fun o=>(a,o)
end
end Att
namespace L2
open PySem PySem.Spec PyProof.Rows
theorem BB:∀{vs:List Value} {ns:List Int},IntsAre vs ns->Vals (ns.map V.int) vs
 |_,_,.nil=>.nil
 |_,_,.cons n t h=>.cons ⟨t,rfl⟩ (BB h)
end L2
namespace L2
open PySem PySem.Spec PyProof.Rows
end L2
namespace L2
open PySem PySem.Spec PyProof.Rows
noncomputable abbrev CX0:CXT:=fun _ _ _ _ _ _=>False
noncomputable abbrev E0:XK:=fun _ _ _=>False
theorem SY{X:Cx}:Passes CX0 X E0:=fun _ _ _ _ _ _ _ h=>h.elim
structure Fun(K:PySem.W.Frag)(x qual:Str)(st:Stmt)(f:Addr)(fd:FuncData):Prop where
 ex:∃(oc:Value) (od:Option Addr) (kV doc pm:Value) (an:Option Addr) (cdv ct:Value) (osl:Array (Option Value)),
  fd=fnOf x qual (lU st) (fw st) (ax st) .none kV doc pm an cdv ct/\K.lookup f=some ⟨oc,od,.func fd,osl⟩/\codeIn K cdv qual=true
 kp:keepIn K (.ref f)=true
section
variable {P:Program}{w:World}{K:PySem.W.Frag}{mg:Str->Option Value}{base:Heap}
theorem Fun.ok{x qual:Str}{st:Stmt}{f:Addr}{fd:FuncData}{N ps:List Str}{k:Nat}{sp:Sp}(F:Fun K x qual st f fd)(S:aG N ps (ax st))(len:∀vs H Q E,sp vs H Q E->vs.length=ps.length)
  (hbody:∀(cdv:Value) (A:Around) (outer:List Env) (s:Shared) (H:Hp) (vs:List V) (Q:VK) (E:XK),g8 k (A.deeper (envOfC qual (ax st) s.heap.objs.size f cdv))->sp vs H Q E ->
   ∃t,PSs (lY CX0 P w K mg base N qual (ax st) f cdv A outer s H E).nox (fw st) t/\t {nx:=fun _ H'=>Q .non H',rt:=Q} (start N vs) H):bz P w K mg base CX0 (k+1) f fd ps sp:=by
 obtain⟨oc,od,kV,doc,pm,an,cdv,ct,osl,rfl,lk,hcd⟩:=F.ex
 refine Lz lk hcd S len fun A outer s H vs Q E hr hsp=>?_
 obtain⟨t,h,q⟩:=hbody cdv A outer s H vs Q E hr hsp
 exact⟨t,h.nox,q⟩
theorem Fun.binds{x qual:Str}{st:Stmt}{f:Addr}{fd:FuncData}{ps:List Str}(F:Fun K x qual st f fd)
  (h:∀(kV doc pm:Value) (an:Option Addr) (cdv ct:Value) (us:List Value),us.length=ps.length->bindArgs (fnOf x qual (lU st) (fw st) (ax st) .none kV doc pm an cdv ct) ⟨us,[]⟩=pure (ps.zip us)):Binds K fd ps []:=by
 obtain⟨oc,od,kV,doc,pm,an,cdv,ct,osl,rfl,lk,hcd⟩:=F.ex
 exact .all (h kV doc pm an cdv ct)
theorem aS{x qual:Str}{st:Stmt}{f:Addr}{oc:Value}{od an:Option Addr}{osl:Array (Option Value)}{kV doc pm cdv ct:Value}(l:K.lookup f=some ⟨oc,od,.func (fnOf x qual (lU st) (fw st) (ax st) .none kV doc pm an cdv ct),osl⟩)
  (c:codeIn K cdv qual=true) (k:keepIn K (.ref f)=true):Fun K x qual st f (fnOf x qual (lU st) (fw st) (ax st) .none kV doc pm an cdv ct):=⟨⟨oc,od,kV,doc,pm,an,cdv,ct,osl,rfl,l,c⟩,k⟩
end
theorem jt{n:Nat}(h:n<=1000):n<sizeLine:=Nat.lt_of_le_of_lt h ⋯
section
variable {X:Cx}
theorem pv(i:Nat){x:Str}{pos:Pos}(hN:X.N[i]? = some x:=by rfl)(hv:Vis X.env.scope x:=by first|exact Or.inl rfl|exact Or.inr (Or.inl rfl)|exact Or.inr (Or.inr rfl))(hd:(x==("__debug__":Str))=false:=by decide)
  (hcd:(x==("__classdict__":Str))=false:=by decide):PE X (.Name x pos) (Rr i):=GV hN hv hd hcd
end
theorem AE{A B:Prop}(h:B):if false=true then A else B:=by
 rw[if_neg Bool.false_ne_true]
 exact h
theorem A5{A B:Prop}(h:A):if true=true then A else B:=by
 rw[if_pos rfl]
 exact h
noncomputable def D1(H H':Hp):Prop:=∀b o,H b=some o->H' b=some o
theorem D1.refl(H:Hp):D1 H H:=fun _ _ h=>h
end L2
namespace NM
@[irreducible] def Sz (n:Nat) (i:Int):Prop:=i.natAbs<2 ^ n
theorem Sz.mono{n m:Nat}{i:Int}(h:Sz n i)(l:n<=m):Sz m i:=by unfold Sz at *;exact lt_of_lt_of_le h (Nat.pow_le_pow_right ⋯ l)
theorem Sz.mul{n m:Nat}{i j:Int}(h:Sz n i)(g:Sz m j):Sz (n+m) (i*j):=by
 unfold Sz at *
 rw[natAbs_mul,Nat.pow_add]
 exact Nat.mul_lt_mul'' h g
theorem Sz.add{n:Nat}{i j:Int}(h:Sz n i)(g:Sz n j):Sz (n+1) (i+j):=by
 unfold Sz at *
 have:=Int.natAbs_add_le i j
 rw[Nat.pow_succ]
 omega
theorem Sz.neg{n:Nat}{i:Int}(h:Sz n i):Sz n (-i):=by unfold Sz at *;rw[Int.natAbs_neg];exact h
theorem Sz.sub{n:Nat}{i j:Int}(h:Sz n i)(g:Sz n j):Sz (n+1) (i-j):=by rw[Int.sub_eq_add_neg];exact h.add g.neg
theorem Sz.le{n:Nat}{i j:Int}(h:Sz n i)(g:j.natAbs<=i.natAbs):Sz n j:=by unfold Sz at *;exact Nat.lt_of_le_of_lt g h
theorem Sz.of{n:Nat}{i:Int}(h:i.natAbs<2 ^ n):Sz n i:=by unfold Sz;exact h
theorem Sz.lt{n:Nat}{i:Int}(h:Sz n i):i.natAbs<2 ^ n:=by unfold Sz at h;exact h
def g3(a b c:Int):Nat:=Int.gcd (Int.gcd a b:Nat) c
theorem Ox(a b c:Int):Int.gcd (Int.gcd c a:Nat) b=g3 a b c:=by
 unfold g3
 simp only[Int.gcd,Int.natAbs_natCast]
 rw[Nat.gcd_assoc,Nat.gcd_comm]
theorem Ln(a b c:Int):((g3 a b c:Nat):Int) ∣ a/\((g3 a b c:Nat):Int) ∣ b/\((g3 a b c:Nat):Int) ∣ c:=by
 have h:((g3 a b c:Nat):Int) ∣ ((Int.gcd a b:Nat):Int):=Int.gcd_dvd_left ..
 exact⟨Int.dvd_trans h (Int.gcd_dvd_left ..),Int.dvd_trans h (Int.gcd_dvd_right ..),Int.gcd_dvd_right ..⟩
theorem QN{a b c:Int}{k:Nat}(h1:(k:Int) ∣ a)(h2:(k:Int) ∣ b)(h3:(k:Int) ∣ c):k ∣ g3 a b c:=by
 unfold g3
 exact Int.dvd_gcd (Int.natCast_dvd_natCast.mpr (Int.dvd_gcd h1 h2)) h3
theorem CW{a b c:Int}(h:c≠0):0<g3 a b c:=by
 unfold g3
 exact Int.gcd_pos_of_ne_zero_right _ h
theorem Hx(a b c k:Int):g3 (a*k) (b*k) (c*k)=g3 a b c*k.natAbs:=by
 unfold g3
 simp only[Int.gcd,Int.natAbs_natCast,natAbs_mul,Nat.gcd_mul_right]
theorem Eu(a b c:Int):g3 a (-b) c=g3 a b c:=by
 unfold g3
 rw[Int.gcd_neg]
theorem Ks(a b c:Int):g3 (-a) b c=g3 a b c:=by
 unfold g3
 rw[Int.neg_gcd]
structure N3 where
 a:Int
 b:Int
 c:Int
deriving DecidableEq
theorem N3.ext'{x y:N3}(h1:x.a=y.a)(h2:x.b=y.b)(h3:x.c=y.c):x=y:=by cases x;cases y;simp_all
structure Ok(x:N3):Prop where
 c:0<x.c
 g:g3 x.a x.b x.c=1
def dv(a b c:Int):Int:=if c<0 then -(g3 a b c:Nat) else (g3 a b c:Nat)
def low(a b c:Int):N3:=⟨a.fdiv (dv a b c),b.fdiv (dv a b c),c.fdiv (dv a b c)⟩
theorem Ck{a k q:Int}(hk:k≠0)(h:a=k*q):a.fdiv k=q:=by
 subst h
 exact Int.mul_fdiv_cancel_left q hk
theorem SS{a b c:Int}(h:c≠0):dv a b c≠0:=by
 have:=CW (a:=a) (b:=b) h
 unfold dv
 split<;>omega
theorem RA(a b c:Int):dv a b c ∣ a/\dv a b c ∣ b/\dv a b c ∣ c:=by
 obtain⟨h1,h2,h3⟩:=Ln a b c
 unfold dv
 split
 ·exact⟨Int.neg_dvd.mpr h1,Int.neg_dvd.mpr h2,Int.neg_dvd.mpr h3⟩
 ·exact⟨h1,h2,h3⟩
theorem jG(a b:Int){c:Int}(h:c≠0):∃k:Int,k≠0/\(0<k↔0<c)/\a=k*(low a b c).a/\b=k*(low a b c).b/\c=k*(low a b c).c/\Ok (low a b c):=by
 have hk:=SS (a:=a) (b:=b) h
 obtain⟨⟨p,hp⟩,⟨q,hq⟩,⟨r,hr⟩⟩:=RA a b c
 have ep:(low a b c).a=p:=Ck hk hp
 have eq:(low a b c).b=q:=Ck hk hq
 have er:(low a b c).c=r:=Ck hk hr
 have hg:=CW (a:=a) (b:=b) h
 have hs:0<dv a b c↔0<c:=by unfold dv;split<;>omega
 have hr0:0<r:=by
  have hr':r≠0:=fun z=>h (by rw[hr,z,mul_zero])
  rcases Int.lt_trichotomy 0 (dv a b c) with z|z|z
  ·have:=hs.mp z
   rw[hr] at this
   rw[mul_comm] at this
   exact Int.pos_of_mul_pos_left this z |> fun t=>t
  ·exact absurd z.symm hk
  ·have:c<0:=by omega
   rcases Int.lt_trichotomy 0 r with w|w|w
   ·exact w
   ·exact absurd w.symm hr'
   ·have:=Int.mul_pos_of_neg_of_neg z w
    rw[<- hr] at this
    omega
 refine⟨dv a b c,hk,hs,by rw[ep];exact hp,by rw[eq];exact hq,by rw[er];exact hr,by rw[er];exact hr0,?_⟩
 rw[ep,eq,er]
 have e:=Hx p q r (dv a b c)
 rw[mul_comm p,mul_comm q,mul_comm r,<- hp,<- hq,<- hr] at e
 have e2:(dv a b c).natAbs=g3 a b c:=by unfold dv;split<;>simp
 rw[e2] at e
 have:g3 p q r*g3 a b c=1*g3 a b c:=by omega
 exact Nat.eq_of_mul_eq_mul_right hg this
theorem hW(a b:Int){c:Int}(h:c≠0):Ok (low a b c):=(jG a b h).choose_spec.2.2.2.2.2
theorem Ok.same{x y:N3}(hx:Ok x)(hy:Ok y)(h1:x.a*y.c=y.a*x.c)(h2:x.b*y.c=y.b*x.c):x=y:=by
 have key:∀{u v:N3},Ok u->Ok v->u.a*v.c=v.a*u.c->u.b*v.c=v.b*u.c->u.c ∣ v.c:=fun {u v} hu hv e1 e2=>by
  have hd:u.c.natAbs ∣ g3 (u.a*v.c) (u.b*v.c) (u.c*v.c):=QN
   (by rw[Int.natAbs_of_nonneg (le_of_lt hu.c),e1];exact Int.dvd_mul_left _ _) (by rw[Int.natAbs_of_nonneg (le_of_lt hu.c),e2];exact Int.dvd_mul_left _ _) (by rw[Int.natAbs_of_nonneg (le_of_lt hu.c)];exact Int.dvd_mul_right _ _)
  rw[Hx,hu.g,Nat.one_mul] at hd
  exact Int.natAbs_dvd_natAbs.mp hd
 have hc:x.c=y.c:=Int.dvd_antisymm (le_of_lt hx.c) (le_of_lt hy.c) (key hx hy h1 h2) (key hy hx h1.symm h2.symm)
 have hn:y.c≠0:=by have:=hy.c;omega
 rw[hc] at h1 h2
 exact N3.ext' (eq_of_mul_eq_mul_right hn h1) (eq_of_mul_eq_mul_right hn h2) hc
theorem RS{a b c a' b' c':Int}(h:c≠0)(h':c'≠0)(e1:a*c'=a'*c)(e2:b*c'=b'*c):low a b c=low a' b' c':=by
 obtain⟨k,hk,_,p1,p2,p3,o⟩:=jG a b h
 obtain⟨l,hl,_,q1,q2,q3,o'⟩:=jG a' b' h'
 generalize low a b c=x at *
 generalize low a' b' c'=y at *
 subst p1 p2 p3 q1 q2 q3
 have hkl:k*l≠0:=mul_ne_zero hk hl
 refine o.same o' (Int.eq_of_mul_eq_mul_left hkl (by grind)) (Int.eq_of_mul_eq_mul_left hkl (by grind))
theorem Ok.low{x:N3}(h:Ok x):low x.a x.b x.c=x:=by
 have hc:x.c≠0:=by have:=h.c;omega
 obtain⟨k,hk,_,p1,p2,p3,o⟩:=jG x.a x.b hc
 refine o.same h ?_ ?_
 ·exact Int.eq_of_mul_eq_mul_left hk (by grind)
 ·exact Int.eq_of_mul_eq_mul_left hk (by grind)
theorem Ok.Q1{x:N3}{a b c:Int}(h:Ok x)(hc:c≠0)(e1:x.a*c=a*x.c)(e2:x.b*c=b*x.c):x=NM.low a b c:=by
 have q:=RS (by have:=h.c;omega) hc e1 e2
 rw[h.low] at q
 exact q
theorem Lv(a b:Int){c:Int}(h:c≠0):(low a b c).a.natAbs<=a.natAbs/\(low a b c).b.natAbs<=b.natAbs/\(low a b c).c.natAbs<=c.natAbs:=by
 obtain⟨k,hk,_,p1,p2,p3,_⟩:=jG a b h
 have hk':1<=k.natAbs:=by omega
 have le:∀{u v:Int},u=k*v->v.natAbs<=u.natAbs:=fun {u v} e=>by
  rw[e,natAbs_mul]
  exact Nat.le_mul_of_pos_left _ hk'
 exact⟨le p1,le p2,le p3⟩
structure Bd(n:Nat)(x:N3):Prop where
 a:Sz n x.a
 b:Sz n x.b
 c:Sz n x.c
theorem Bd.mono{n m:Nat}{x:N3}(h:Bd n x)(l:n<=m):Bd m x:=⟨h.a.mono l,h.b.mono l,h.c.mono l⟩
theorem mm{a b c:Int}{n:Nat}(h:c≠0)(ha:Sz n a)(hb:Sz n b)(hc:Sz n c):Bd n (low a b c):=by
 obtain⟨h1,h2,h3⟩:=Lv a b h
 exact⟨ha.le h1,hb.le h2,hc.le h3⟩
def plus(x y:N3):N3:=low (x.a*y.c+y.a*x.c) (x.b*y.c+y.b*x.c) (x.c*y.c)
def less(x y:N3):N3:=low (x.a*y.c-y.a*x.c) (x.b*y.c-y.b*x.c) (x.c*y.c)
def times(d:Int)(x y:N3):N3:=low (x.a*y.a+d*x.b*y.b) (x.a*y.b+x.b*y.a) (x.c*y.c)
def norm(d:Int)(x:N3):Int:=x.a*x.a-d*x.b*x.b
def ay(d:Int)(x:N3):N3:=low (x.c*x.a) (-x.c*x.b) (norm d x)
def cL(x:N3):N3:=⟨x.a,-x.b,x.c⟩
def minus(x:N3):N3:=⟨-x.a,-x.b,x.c⟩
def aE:N3:=⟨0,0,1⟩
def one:N3:=⟨1,0,1⟩
theorem Ok.cn{x:N3}(h:Ok x):x.c≠0:=by have:=h.c;omega
theorem wD{x y:N3}(h:Ok x)(g:Ok y):x.c*y.c≠0:=mul_ne_zero h.cn g.cn
theorem bB{x:N3}(h:Ok x):Ok (cL x):=⟨h.c,by show g3 x.a (-x.b) x.c=1;rw[Eu];exact h.g⟩
theorem Fj{x:N3}(h:Ok x):Ok (minus x):=⟨h.c,by show g3 (-x.a) (-x.b) x.c=1;rw[Ks,Eu];exact h.g⟩
theorem bW{x y:N3}(h:Ok x)(g:Ok y):Ok (plus x y):=hW _ _ (wD h g)
theorem nF{x y:N3}(h:Ok x)(g:Ok y):Ok (less x y):=hW _ _ (wD h g)
theorem av{d:Int}{x y:N3}(h:Ok x)(g:Ok y):Ok (times d x y):=hW _ _ (wD h g)
theorem bV:Ok aE:=⟨⋯,⋯⟩
theorem sY:Ok one:=⟨⋯,⋯⟩
theorem n9{n:Nat}{x:N3}(h:Bd n x):Bd n (cL x):=⟨h.a,h.b.neg,h.c⟩
theorem EZ{n:Nat}{x:N3}(h:Bd n x):Bd n (minus x):=⟨h.a.neg,h.b.neg,h.c⟩
theorem Ik{n m:Nat}{x y:N3}(hx:Ok x)(hy:Ok y)(h:Bd n x)(g:Bd m y):Bd (n+m+1) (plus x y):=
 mm (wD hx hy) ((h.a.mul g.c).add ((g.a.mul h.c).mono ∅)) ((h.b.mul g.c).add ((g.b.mul h.c).mono ∅)) ((h.c.mul g.c).mono ∅)
theorem Nm{n m:Nat}{x y:N3}(hx:Ok x)(hy:Ok y)(h:Bd n x)(g:Bd m y):Bd (n+m+1) (less x y):=
 mm (wD hx hy) ((h.a.mul g.c).sub ((g.a.mul h.c).mono ∅)) ((h.b.mul g.c).sub ((g.b.mul h.c).mono ∅)) ((h.c.mul g.c).mono ∅)
theorem sI{d:Int}(h:2<=d)(h':d<=30):Sz 5 d:=by unfold Sz;omega
theorem bJ{n m:Nat}{d:Int}{x y:N3}(hd:Sz 5 d)(hx:Ok x)(hy:Ok y)(h:Bd n x)(g:Bd m y):Bd (n+m+6) (times d x y):=
 mm (wD hx hy) (((h.a.mul g.a).mono ∅).add (((hd.mul h.b).mul g.b).mono ∅)) ((((h.a.mul g.b).mono (by omega:n+m<=n+m)).add ((h.b.mul g.a).mono ∅)).mono ∅) ((h.c.mul g.c).mono ∅)
theorem yd{n:Nat}{d:Int}{x:N3}(hd:Sz 5 d)(h:Bd n x):Sz (2*n+6) (norm d x):=by
 have e1:=h.a.mul h.a
 have e2:=(hd.mul h.b).mul h.b
 exact ((e1.mono (by omega:n+n<=5+n+n)).sub e2).mono ∅
theorem bE{n:Nat}{d:Int}{x:N3}(hd:Sz 5 d)(hn:norm d x≠0)(h:Bd n x):Bd (2*n+6) (ay d x):=
 mm hn ((h.c.mul h.a).mono ∅) ((h.c.neg.mul h.b).mono ∅) (yd hd h)
noncomputable def aH(d:Int):Prop:=2<=d/\d<=30/\d≠4/\d≠9/\d≠16/\d≠25
theorem JP{d:Nat}(h:∀m:Nat,m*m≠d):∀{a b:Nat},a*a=d*(b*b)->b=0:=fun {a b} e=>by
 rcases Nat.eq_zero_or_pos b with hb|hb
 ·exact hb
 exfalso
 obtain⟨g,p,q,hg,hc,rfl,rfl⟩:=Nat.exists_coprime' (m:=a) (n:=b) (Nat.gcd_pos_of_pos_right _ hb)
 have e2:(p*p)*(g*g)=(d*(q*q))*(g*g):=by grind
 have e3:p*p=d*(q*q):=Nat.eq_of_mul_eq_mul_right (Nat.mul_pos hg hg) e2
 have hq:q ∣ p*p:=⟨d*q,by rw[e3];grind⟩
 have hq1:q ∣ p:=hc.symm.dvd_of_dvd_mul_left hq
 have hq2:q=1:=by
  have:=Nat.dvd_gcd hq1 (Nat.dvd_refl q)
  rw[hc] at this
  exact Nat.dvd_one.mp this
 subst hq2
 exact h p (by rw[e3];simp)
theorem aH.nat{d:Int}(h:aH d):∀m:Nat,m*m≠d.toNat:=fun m e=>by
 obtain⟨h1,h2,h3,h4,h5,h6⟩:=h
 have hm:m<=5:=by
  rcases Nat.lt_or_ge 5 m with z|z
  ·have:=Nat.mul_le_mul z z;omega
  ·exact z
 have:m=0\/m=1\/m=2\/m=3\/m=4\/m=5:=by omega
 rcases this with rfl|rfl|rfl|rfl|rfl|rfl<;>omega
theorem aH.GX{d a b:Int}(h:aH d)(e:a*a=d*b*b):a=0/\b=0:=by
 have hd:d=((d.toNat:Nat):Int):=by have:=h.1;omega
 have e1:a.natAbs*a.natAbs=d.toNat*(b.natAbs*b.natAbs):=by
  have e2:=congrArg Int.natAbs e
  rw[natAbs_mul,natAbs_mul,natAbs_mul] at e2
  rw[e2,Nat.mul_assoc]
  congr 1
  omega
 have hb:=JP h.nat e1
 have hb':b=0:=by omega
 subst hb'
 have:a*a=0:=by rw[e];simp
 exact⟨by rcases Int.mul_eq_zero.mp this with z|z<;>exact z,rfl⟩
theorem aH.norm{d:Int}{x:N3}(h:aH d)(ok:Ok x)(hx:x≠aE):norm d x≠0:=fun e=>by
 have e':x.a*x.a=d*x.b*x.b:=by unfold NM.norm at e;omega
 obtain⟨h1,h2⟩:=h.GX e'
 apply hx
 have hg:=ok.g
 rw[h1,h2] at hg
 have hc:=ok.c
 have:x.c=1:=by
  unfold g3 at hg
  simp[Int.gcd] at hg
  omega
 exact N3.ext' h1 h2 this
theorem aC{d:Int}{x:N3}(h:NM.norm d x≠0):Ok (ay d x):=hW _ _ h
def sg(d a b:Int):Int:=
 if a=0/\b=0 then 0 else if 0<=a/\0<=b then 1 else if a<=0/\b<=0 then -1 else if (if d*b*b<a*a then a else b)>0 then 1 else -1
theorem HP{u v:Int}(hu:0<=u)(h:u*u<=v*v)(hv:0<=v):u<=v:=by
 rcases Int.lt_or_le v u with z|z
 ·have:=Int.mul_lt_mul_of_pos_left z (show 0<u by omega)
  have:=Int.mul_le_mul_of_nonneg_right (le_of_lt z) hv
  omega
 ·exact z
theorem sq_nonneg(u:Int):0<=u*u:=by
 rcases Int.le_total 0 u with h|h
 ·exact mul_nonneg h h
 ·exact Int.mul_nonneg_of_nonpos_of_nonpos h h
theorem sq_pos{u:Int}(h:u≠0):0<u*u:=by
 have:=sq_nonneg u
 have:u*u≠0:=mul_ne_zero h h
 omega
noncomputable def P(d a b:Int):Prop:=(0<=a/\0<=b/\¬ (a=0/\b=0))\/(0<a/\b<0/\d*b*b<a*a)\/(a<0/\0<b/\a*a<d*b*b)
theorem eZ{d a b:Int}(h:aH d):sg d a b=1↔P d a b:=by
 unfold sg P
 have key:a*a=d*b*b->a=0/\b=0:=h.GX
 by_cases c1:d*b*b<a*a
 ·simp only[c1,if_true];split<;>(try split)<;>(try split)<;>(try split)<;>simp<;>omega
 ·simp only[c1,if_false];split<;>(try split)<;>(try split)<;>(try split)<;>simp<;>omega
theorem zM{d a b:Int}(h:aH d):sg d (-a) (-b) = - sg d a b:=by
 unfold sg
 have key:a*a=d*b*b->a=0/\b=0:=h.GX
 have e1:d * -b * -b=d*b*b:=by grind
 have e2:-a * -a=a*a:=by grind
 rw[e1,e2]
 by_cases c1:d*b*b<a*a
 ·simp only[c1,if_true];split<;>split<;>(try split)<;>(try split)<;>(try split)<;>(try split)<;>(try split)<;>(try split)<;>omega
 ·simp only[c1,if_false];split<;>split<;>(try split)<;>(try split)<;>(try split)<;>(try split)<;>(try split)<;>(try split)<;>omega
theorem dm{d a b:Int}:sg d a b=0↔a=0/\b=0:=by
 unfold sg;split<;>(try split)<;>(try split)<;>(try split)<;>omega
theorem nH(d a b:Int):sg d a b=0\/sg d a b=1\/sg d a b = -1:=by
 unfold sg;split<;>(try split)<;>(try split)<;>(try split)<;>omega
theorem Tz{d a b:Int}(h:aH d):(a=0/\b=0)\/P d a b\/P d (-a) (-b):=by
 rcases nH d a b with e|e|e
 ·exact .inl (dm.mp e)
 ·exact .inr (.inl ((eZ h).mp e))
 ·exact .inr (.inr ((eZ h).mp (by rw[zM h,e];rfl)))
theorem nW{d a b:Int}(h:aH d)(n:d*b*b<a*a):P d a b↔0<a:=by
 unfold P
 have:=sq_nonneg b
 have h0:0<=d*b*b:=by rw[Int.mul_assoc];exact mul_nonneg (by have:=h.1;omega) this
 have ha:a≠0:=fun z=>by subst z;simp at n;omega
 omega
theorem ll{d a b:Int}(h:aH d)(n:a*a<d*b*b):P d a b↔0<b:=by
 unfold P
 have h0:=sq_nonneg a
 have hb:b≠0:=fun z=>by subst z;simp at n;omega
 omega
theorem uP{u v:Int}(h:v*v<u*u):0<u+v↔0<u:=by
 have hu:u≠0:=fun z=>by subst z;have:=sq_nonneg v;simp at h;omega
 have l:v.natAbs<u.natAbs:=by
  rcases Nat.lt_or_ge v.natAbs u.natAbs with z|z
  ·exact z
  ·have:=Nat.mul_le_mul z z
   have e1:((u.natAbs*u.natAbs:Nat):Int)=u*u:=Int.natAbs_mul_self
   have e2:((v.natAbs*v.natAbs:Nat):Int)=v*v:=Int.natAbs_mul_self
   omega
 omega
theorem mul_pos_iff{u v:Int}(hu:u≠0)(hv:v≠0):0<u*v↔(0<u↔0<v):=by
 rcases lt_or_gt_of_ne hu with h|h<;>rcases lt_or_gt_of_ne hv with g|g
 ·have:=Int.mul_pos_of_neg_of_neg h g;omega
 ·have:=Int.mul_neg_of_neg_of_pos h g;omega
 ·have:=Int.mul_neg_of_pos_of_neg h g;omega
 ·have:=mul_pos h g;omega
theorem zm{u v s t:Int}(hu:0<=u)(h:u<v)(hs:0<=s)(g:s<t):u*s<v*t:=by
 have e1:u*s<=v*s:=Int.mul_le_mul_of_nonneg_right (le_of_lt h) hs
 have e2:v*s<v*t:=Int.mul_lt_mul_of_pos_left g ∅
 omega
theorem dsq{d b:Int}(hd:0<d):0<=d*b*b:=by rw[Int.mul_assoc];exact mul_nonneg (le_of_lt hd) (sq_nonneg b)
theorem S0{d a b p q:Int}(h:aH d)(h1:¬ (a=0/\b=0))(h2:¬ (p=0/\q=0)):P d (a*p+d*b*q) (a*q+b*p)↔(P d a b↔P d p q):=by
 have hd:0<d:=by have:=h.1;omega
 have n1:a*a≠d*b*b:=fun e=>h1 (h.GX e)
 have n2:p*p≠d*q*q:=fun e=>h2 (h.GX e)
 have pz:∀{u v:Int},d*v*v<u*u->u≠0:=fun {u v} e z=>by subst z;have:=dsq (b:=v) hd;simp at e;omega
 have qz:∀{u v:Int},u*u<d*v*v->v≠0:=fun {u v} e z=>by subst z;have:=sq_nonneg u;simp at e;omega
 have id1:(a*p+d*b*q)*(a*p+d*b*q)-d*(a*q+b*p)*(a*q+b*p)=(a*a-d*b*b)*(p*p-d*q*q):=by grind
 rcases lt_or_gt_of_ne n1 with c1|c1<;>rcases lt_or_gt_of_ne n2 with c2|c2
 ·have pp:=Int.mul_pos_of_neg_of_neg (show a*a-d*b*b<0 by omega) (show p*p-d*q*q<0 by omega)
  rw[nW h ∅,ll h c1,ll h c2]
  have sq:(a*p)*(a*p)<(d*b*q)*(d*b*q):=by
   have e2:=zm (sq_nonneg a) c1 (sq_nonneg p) c2
   grind
  rw[Int.add_comm,uP sq,Int.mul_assoc,mul_pos_iff ∅ (mul_ne_zero (qz c1) (qz c2)),mul_pos_iff (qz c1) (qz c2)]
  omega
 ·have pp:=Int.mul_neg_of_neg_of_pos (show a*a-d*b*b<0 by omega) (show 0<p*p-d*q*q by omega)
  rw[ll h ∅,ll h c1,nW h c2]
  have sq:(a*q)*(a*q)<(b*p)*(b*p):=by
   have e2:=zm (sq_nonneg a) c1 (dsq (b:=q) hd) c2
   have e3:d*((a*q)*(a*q))<d*((b*p)*(b*p)):=by grind
   exact Int.lt_of_mul_lt_mul_left e3 (le_of_lt hd)
  rw[Int.add_comm,uP sq,mul_pos_iff (qz c1) (pz c2)]
 ·have pp:=Int.mul_neg_of_pos_of_neg (show 0<a*a-d*b*b by omega) (show p*p-d*q*q<0 by omega)
  rw[ll h ∅,nW h c1,ll h c2]
  have sq:(b*p)*(b*p)<(a*q)*(a*q):=by
   have e2:=zm (dsq (b:=b) hd) c1 (sq_nonneg p) c2
   have e3:d*((b*p)*(b*p))<d*((a*q)*(a*q)):=by grind
   exact Int.lt_of_mul_lt_mul_left e3 (le_of_lt hd)
  rw[uP sq,mul_pos_iff (pz c1) (qz c2)]
 ·have pp:=mul_pos (show 0<a*a-d*b*b by omega) (show 0<p*p-d*q*q by omega)
  rw[nW h ∅,nW h c1,nW h c2]
  have sq:(d*b*q)*(d*b*q)<(a*p)*(a*p):=by
   have e2:=zm (dsq (b:=b) hd) c1 (dsq (b:=q) hd) c2
   grind
  rw[uP sq,mul_pos_iff (pz c1) (pz c2)]
theorem SX{d A x B y:Int}(hd:0<d)(hA:0<=A)(hx:0<=x)(hB:0<=B)(hy:0<=y)(h1:A*A<=d*B*B)(h2:x*x<=d*y*y):A*x<=d*(B*y):=by
 refine HP (mul_nonneg hA hx) ?_ (mul_nonneg (le_of_lt hd) (mul_nonneg hB hy))
 have:=Int.mul_le_mul h1 h2 (sq_nonneg x) (dsq hd)
 grind
theorem T1{d A x B y:Int}(hd:0<d)(hA:0<=A)(hx:0<=x)(hB:0<=B)(hy:0<=y)(h1:A*A<d*B*B)(h2:x*x<d*y*y):(A+x)*(A+x)<d*(B+y)*(B+y):=by
 have:=SX hd hA hx hB hy (le_of_lt h1) (le_of_lt h2)
 grind
theorem T2{d A x B y:Int}(hd:0<d)(hA:0<=A)(hx:0<=x)(hB:0<=B)(hy:0<=y)(h1:d*B*B<A*A)(h2:d*y*y<x*x):d*(B+y)*(B+y)<(A+x)*(A+x):=by
 have:d*(B*y)<=A*x:=by
  refine HP (mul_nonneg (le_of_lt hd) (mul_nonneg hB hy)) ?_ (mul_nonneg hA hx)
  have:=zm (dsq (b:=B) hd) h1 (dsq (b:=y) hd) h2
  grind
 grind
theorem Z1{d x1 y1 x2 y2:Int}(hd:0<d)(h1:x1*x1<d*y1*y1)(h2:d*y2*y2<x2*x2)(a1:0<=x2)(a2:x2<=x1)(a3:0<=y1)(a4:y1<=y2):False:=by
 have e1:=Int.mul_le_mul a2 a2 a1 (Int.le_trans a1 a2)
 have e2:=Int.mul_le_mul_of_nonneg_left (Int.mul_le_mul a4 a4 a3 (Int.le_trans a3 a4)) (le_of_lt hd)
 grind
theorem Z2{d x1 y1 x2 y2 x3 y3:Int}(hd:0<d)(h1:x1*x1<d*y1*y1)(h2:d*y2*y2<x2*x2)(h3:d*y3*y3<x3*x3)(a1:0<=x2)(a2:0<=y2)(a3:0<=x3)(a4:0<=y3)(e1:x1=x2+x3)(e2:y1=y2+y3):False:=by
 subst e1 e2
 have:=T2 hd a1 a3 a2 a4 h2 h3
 omega
theorem Z3{d x1 y1 x2 y2 x3 y3:Int}(hd:0<d)(h1:d*y1*y1<x1*x1)(h2:x2*x2<d*y2*y2)(h3:x3*x3<d*y3*y3)(a1:0<=x2)(a2:0<=y2)(a3:0<=x3)(a4:0<=y3)(e1:x1=x2+x3)(e2:y1=y2+y3):False:=by
 subst e1 e2
 have:=T1 hd a1 a3 a2 a4 h2 h3
 omega
theorem Tu{d a b p q u v:Int}(h:aH d)(h1:P d a b)(h2:P d p q)(h3:P d u v)(e1:a+p+u=0)(e2:b+q+v=0):False:=by
 have hd:0<d:=by have:=h.1;omega
 unfold P at h1 h2 h3
 have x1:∀{u c:Int},u*u<c->-u * -u<c:=fun {u c} e=>by grind
 have x2:∀{u c:Int},c<u*u->c < -u * -u:=fun {u c} e=>by grind
 have x3:∀{u c:Int},c<d*u*u->c<d * -u * -u:=fun {u c} e=>by grind
 have x4:∀{u c:Int},d*u*u<c->d * -u * -u<c:=fun {u c} e=>by grind
 rcases h1 with ⟨u1,u2,u3⟩|⟨u1,u2,u3⟩|⟨u1,u2,u3⟩<;>rcases h2 with ⟨v1,v2,v3⟩|⟨v1,v2,v3⟩|⟨v1,v2,v3⟩<;>rcases h3 with ⟨w1,w2,w3⟩|⟨w1,w2,w3⟩|⟨w1,w2,w3⟩<;>(try omega)
 all_goals first
  |exact Z1 hd (x1 u3) (x4 v3) ∅ ∅ ∅ ∅
  |exact Z1 hd (x1 v3) (x4 u3) ∅ ∅ ∅ ∅
  |exact Z1 hd (x1 u3) (x4 w3) ∅ ∅ ∅ ∅
  |exact Z1 hd (x1 w3) (x4 u3) ∅ ∅ ∅ ∅
  |exact Z1 hd (x1 v3) (x4 w3) ∅ ∅ ∅ ∅
  |exact Z1 hd (x1 w3) (x4 v3) ∅ ∅ ∅ ∅
  |exact Z2 hd (x1 u3) (x4 v3) (x4 w3) ∅ ∅ ∅ ∅ ∅ ∅
  |exact Z2 hd (x1 v3) (x4 u3) (x4 w3) ∅ ∅ ∅ ∅ ∅ ∅
  |exact Z2 hd (x1 w3) (x4 u3) (x4 v3) ∅ ∅ ∅ ∅ ∅ ∅
  |exact Z3 hd (x4 u3) (x1 v3) (x1 w3) ∅ ∅ ∅ ∅ ∅ ∅
  |exact Z3 hd (x4 v3) (x1 u3) (x1 w3) ∅ ∅ ∅ ∅ ∅ ∅
  |exact Z3 hd (x4 w3) (x1 u3) (x1 v3) ∅ ∅ ∅ ∅ ∅ ∅
theorem Sr{d a b p q:Int}(h:aH d)(h1:P d a b)(h2:P d p q):P d (a+p) (b+q):=by
 rcases Tz (a:=a+p) (b:=b+q) h with ⟨e1,e2⟩|e|e
 ·have ea:p = -a:=by omega
  have eb:q = -b:=by omega
  subst ea eb
  have s1:=(eZ h).mpr h1
  have s2:=(eZ h).mpr h2
  rw[zM h,s1] at s2
  omega
 ·exact e
 ·exact (Tu h h1 h2 e ∅ ∅).elim
theorem Ds{d a b p q:Int}(h:aH d):sg d (a*p+d*b*q) (a*q+b*p)=sg d a b*sg d p q:=by
 by_cases h1:a=0/\b=0
 ·obtain⟨rfl,rfl⟩:=h1
  have e:sg d (0:Int) 0=0:=dm.mpr ⟨rfl,rfl⟩
  rw[e];simp[dm]
 by_cases h2:p=0/\q=0
 ·obtain⟨rfl,rfl⟩:=h2
  have e:sg d (0:Int) 0=0:=dm.mpr ⟨rfl,rfl⟩
  rw[e];simp[dm]
 have k:=S0 h h1 h2
 have h3:¬ (a*p+d*b*q=0/\a*q+b*p=0):=fun ⟨e1,e2⟩=>by
  have id1:(a*p+d*b*q)*(a*p+d*b*q)-d*(a*q+b*p)*(a*q+b*p)=(a*a-d*b*b)*(p*p-d*q*q):=by grind
  rw[e1,e2] at id1
  simp only[mul_zero,Int.sub_self] at id1
  rcases Int.mul_eq_zero.mp id1.symm with z|z
  ·exact h1 (h.GX ∅)
  ·exact h2 (h.GX ∅)
 rw[<- eZ h,<- eZ h,<- eZ h] at k
 have t1:=nH d a b
 have t2:=nH d p q
 have t3:=nH d (a*p+d*b*q) (a*q+b*p)
 have z1:sg d a b≠0:=fun z=>h1 (dm.mp z)
 have z2:sg d p q≠0:=fun z=>h2 (dm.mp z)
 have z3:sg d (a*p+d*b*q) (a*q+b*p)≠0:=fun z=>h3 (dm.mp z)
 rcases t1 with e|e|e<;>rcases t2 with f|f|f<;>rcases t3 with g|g|g<;>simp_all
theorem qP{d a b k:Int}(h:aH d)(hk:0<k):sg d (k*a) (k*b)=sg d a b:=by
 have e:=Ds (a:=k) (b:=0) (p:=a) (q:=b) h
 have e1:sg d k 0=1:=by unfold sg;rw[if_neg ∅,if_pos ∅]
 rw[e1] at e
 simpa using e
end NM
namespace NM
structure Rep(x:N3)(A B C:Int):Prop where
 c:C≠0
 a:x.a*C=A*x.c
 b:x.b*C=B*x.c
section
variable {x y:N3}{A B C A' B' C' d:Int}
theorem aj(h:Ok x):Rep x x.a x.b x.c:=⟨h.cn,rfl,rfl⟩
theorem fN{a b c:Int}(h:c≠0):Rep (low a b c) a b c:=by
 obtain⟨k,hk,_,p1,p2,p3,_⟩:=jG a b h
 generalize low a b c=z at *
 exact⟨h,by grind,by grind⟩
theorem Rep.eq(ox:Ok x)(oy:Ok y)(h:Rep x A B C)(g:Rep y A' B' C')(e1:A*C'=A'*C)(e2:B*C'=B'*C):x=y:=by
 have hc:C*C'≠0:=mul_ne_zero h.c g.c
 obtain⟨_,h1,h2⟩:=h
 obtain⟨_,g1,g2⟩:=g
 exact ox.same oy (eq_of_mul_eq_mul_right hc (by grind)) (eq_of_mul_eq_mul_right hc (by grind))
theorem Rep.plus(ox:Ok x)(oy:Ok y)(h:Rep x A B C)(g:Rep y A' B' C'):Rep (plus x y) (A*C'+A'*C) (B*C'+B'*C) (C*C'):=by
 have hc:=wD ox oy
 obtain⟨_,q1,q2⟩:=fN (a:=x.a*y.c+y.a*x.c) (b:=x.b*y.c+y.b*x.c) hc
 obtain⟨hc1,h1,h2⟩:=h
 obtain⟨hc2,g1,g2⟩:=g
 change (NM.plus x y).a*(x.c*y.c)=_*(NM.plus x y).c at q1
 change (NM.plus x y).b*(x.c*y.c)=_*(NM.plus x y).c at q2
 generalize NM.plus x y=z at *
 exact⟨mul_ne_zero hc1 hc2,eq_of_mul_eq_mul_right hc (by grind),eq_of_mul_eq_mul_right hc (by grind)⟩
theorem Rep.less(ox:Ok x)(oy:Ok y)(h:Rep x A B C)(g:Rep y A' B' C'):Rep (less x y) (A*C'-A'*C) (B*C'-B'*C) (C*C'):=by
 have hc:=wD ox oy
 obtain⟨_,q1,q2⟩:=fN (a:=x.a*y.c-y.a*x.c) (b:=x.b*y.c-y.b*x.c) hc
 obtain⟨hc1,h1,h2⟩:=h
 obtain⟨hc2,g1,g2⟩:=g
 change (NM.less x y).a*(x.c*y.c)=_*(NM.less x y).c at q1
 change (NM.less x y).b*(x.c*y.c)=_*(NM.less x y).c at q2
 generalize NM.less x y=z at *
 exact⟨mul_ne_zero hc1 hc2,eq_of_mul_eq_mul_right hc (by grind),eq_of_mul_eq_mul_right hc (by grind)⟩
theorem Rep.times(ox:Ok x)(oy:Ok y)(h:Rep x A B C)(g:Rep y A' B' C'):Rep (times d x y) (A*A'+d*B*B') (A*B'+B*A') (C*C'):=by
 have hc:=wD ox oy
 obtain⟨_,q1,q2⟩:=fN (a:=x.a*y.a+d*x.b*y.b) (b:=x.a*y.b+x.b*y.a) hc
 obtain⟨hc1,h1,h2⟩:=h
 obtain⟨hc2,g1,g2⟩:=g
 change (NM.times d x y).a*(x.c*y.c)=_*(NM.times d x y).c at q1
 change (NM.times d x y).b*(x.c*y.c)=_*(NM.times d x y).c at q2
 generalize NM.times d x y=z at *
 exact⟨mul_ne_zero hc1 hc2,eq_of_mul_eq_mul_right hc (by grind),eq_of_mul_eq_mul_right hc (by grind)⟩
theorem Rep.norm(h:Rep x A B C):NM.norm d x*(C*C)=(A*A-d*B*B)*(x.c*x.c):=by
 obtain⟨_,h1,h2⟩:=h
 unfold NM.norm
 have e1:x.a*x.a*(C*C)=A*A*(x.c*x.c):=by
  have:(x.a*C)*(x.a*C)=(A*x.c)*(A*x.c):=by rw[h1]
  grind
 have e2:x.b*x.b*(C*C)=B*B*(x.c*x.c):=by
  have:(x.b*C)*(x.b*C)=(B*x.c)*(B*x.c):=by rw[h2]
  grind
 grind
theorem Rep.ay(ox:Ok x)(hn:NM.norm d x≠0)(h:Rep x A B C):Rep (ay d x) (C*A) (-C*B) (A*A-d*B*B):=by
 have hN:=h.norm (d:=d)
 have hcc:x.c*x.c≠0:=mul_ne_zero ox.cn ox.cn
 have hN0:A*A-d*B*B≠0:=fun z=>by
  rw[z,zero_mul] at hN
  rcases Int.mul_eq_zero.mp hN with w|w
  ·exact hn w
  ·rcases Int.mul_eq_zero.mp w with w|w<;>exact h.c w
 obtain⟨_,q1,q2⟩:=fN (a:=x.c*x.a) (b:=-x.c*x.b) hn
 change (NM.ay d x).a*NM.norm d x=_*(NM.ay d x).c at q1
 change (NM.ay d x).b*NM.norm d x=_*(NM.ay d x).c at q2
 obtain⟨hc1,h1,h2⟩:=h
 generalize NM.ay d x=z at *
 generalize NM.norm d x=n at *
 generalize A*A-d*B*B=m at *
 refine⟨hN0,?_,?_⟩
 ·have e:z.a*m*(x.c*x.c)=C*A*z.c*(x.c*x.c):=by grind
  exact eq_of_mul_eq_mul_right hcc e
 ·have e:z.b*m*(x.c*x.c) = -C*B*z.c*(x.c*x.c):=by grind
  exact eq_of_mul_eq_mul_right hcc e
theorem Rep.sg(hd:aH d)(ox:Ok x)(h:Rep x A B C)(hC:0<C):sg d x.a x.b=NM.sg d A B:=by
 have e1:=qP (a:=x.a) (b:=x.b) hd hC
 have e2:=qP (a:=A) (b:=B) hd ox.c
 rw[show C*x.a=x.c*A by have:=h.a;grind,show C*x.b=x.c*B by have:=h.b;grind] at e1
 rw[<- e1,e2]
end
end NM
namespace NM
def lean(d:Int)(x:N3):N3:=times d (cL x) (ay d x)
def HL(d:Int)(x:N3):N3:=times d (times d (plus x (cL x)) (plus x (cL x))) (ay d (times d x (cL x)))
section
variable {d:Int}{x y z:N3}
theorem Io{a b c:Int}(h:aH d)(hc:0<c):sg d (low a b c).a (low a b c).b=sg d a b:=(fN (show c≠0 by omega)).sg h (hW _ _ ∅) hc
theorem gO(h:aH d)(ox:Ok x)(oy:Ok y):sg d (times d x y).a (times d x y).b=sg d x.a x.b*sg d y.a y.b:=by
 unfold times
 rw[Io h (mul_pos ox.c oy.c),Ds h]
theorem Iv:sg d one.a one.b=1:=by
 unfold one sg
 rw[if_neg (by simp),if_pos (by simp)]
theorem bQ(h:aH d)(ox:Ok x)(hx:sg d x.a x.b=1):norm d x≠0:=h.norm ox (fun e=>by subst e;have:sg d aE.a aE.b=0:=dm.mpr ⟨rfl,rfl⟩;omega)
theorem iw(ox:Ok x)(hn:norm d x≠0):times d x (ay d x)=one:=by
 have oc:=aC hn
 exact ((aj ox).times ox oc ((aj ox).ay ox hn)).eq (av ox oc) sY (aj sY) (by simp only[one];grind) (by simp only[one];grind)
theorem gJ(h:aH d)(ox:Ok x)(hx:sg d x.a x.b=1):sg d (ay d x).a (ay d x).b=1:=by
 have hn:=bQ h ox hx
 have e:=gO h ox (aC hn)
 rw[iw ox hn,Iv,hx] at e
 omega
theorem Jp:norm d (cL y)=norm d y:=by unfold norm cL;grind
theorem Oi(h:aH d)(ox:Ok x)(hx:sg d x.a x.b=1):sg d x.a (-x.b)=sg d (norm d x) 0:=by
 have e:=Ds (a:=x.a) (b:=x.b) (p:=x.a) (q:=-x.b) h
 rw[hx,Int.one_mul] at e
 rw[<- e]
 unfold norm
 congr 1<;>grind
theorem M6{n:Int}:sg d n 0=if n=0 then 0 else if 0<n then 1 else -1:=by
 unfold sg
 by_cases h:n=0
 ·simp[h]
 ·rcases lt_or_gt_of_ne h with z|z
  ·rw[if_neg ∅,if_neg ∅,if_pos ∅,if_neg h,if_neg ∅]
  ·rw[if_neg ∅,if_pos ∅,if_neg h,if_pos ∅]
def W(x y:N3):Int:=x.b*y.a-x.a*y.b
theorem Rep.congr{A B C A' B' C':Int}(h:Rep x A B C)(e1:A=A')(e2:B=B')(e3:C=C'):Rep x A' B' C':=by subst e1 e2 e3;exact h
structure Ov(z x y:N3):Prop where
 ex:∃p q C:Int,0<p/\0<q/\0<C/\Rep z (p*x.a+q*y.a) (p*x.b+q*y.b) C
theorem Jm(ox:Ok x)(oy:Ok y):Ov (plus x y) x y:=
 ⟨y.c,x.c,x.c*y.c,oy.c,ox.c,mul_pos ox.c oy.c,by
  have r:=(aj ox).plus ox oy (aj oy)
  exact⟨r.c,by have:=r.a;grind,by have:=r.b;grind⟩⟩
theorem Ov.pos(hd:aH d)(oz:Ok z)(h:Ov z x y)(hx:sg d x.a x.b=1)(hy:sg d y.a y.b=1):sg d z.a z.b=1:=by
 obtain⟨p,q,C,hp,hq,hC,r⟩:=h.ex
 rw[r.sg hd oz hC,eZ hd]
 refine Sr hd ?_ ?_
 ·rw[<- eZ hd,qP hd hp];exact hx
 ·rw[<- eZ hd,qP hd hq];exact hy
end
end NM
namespace L2.DL
open PySem PySem.Spec PyProof.Rows
abbrev Mu:=Addr->Option (List PyData)
abbrev PQ:=PySem.W.Frag->V->Mu->Hp->Prop
inductive D where
 |v (x:PyData)
 |m (a:Addr)
 |s (ns:List Int)
  /-- an object that is handed on -/
 |o (a:Addr)
  /-- a thing of which something is known that stays -/
 |q (P:PQ)
abbrev Rho:=List (Option D)
def aR(U:Mu)(a:Addr)(ds:List PyData):Mu:=fun b=>if b=a then some ds else U b
theorem aV{U:Mu}{a:Addr}{ds}:aR U a ds a=some ds:=by unfold aR;rw[if_pos rfl]
theorem bZ{U:Mu}{a b:Addr}{ds}(h:b≠a):aR U a ds b=U b:=by unfold aR;rw[if_neg h]
theorem we{U:Mu}{a:Addr}{ds es}:aR (aR U a ds) a es=aR U a es:=by
 funext b;unfold aR;split<;>rfl
mutual
inductive Rp(K:PySem.W.Frag)(U:Mu)(H:Hp):PyData->V->Prop
 |none:Rp K U H .none .non
 |bool (b:Bool):Rp K U H (.bool b) (.bl b)
 |int (i:Int):Rp K U H (.int i) (.int i)
 |str (x:Str):Rp K U H (.str x) (.str x)
 |list {a:Addr} {xs:List V} {ds:List PyData}:H a=some (.lst xs)->U a=Option.none->RpL K U H ds xs->Rp K U H (.list ds) (.ref a)
 |tuple {a:Addr} {xs:List V} {ds:List PyData}:SqT K H a xs->RpL K U H ds xs->Rp K U H (.tuple ds) (.ref a)
inductive RpL(K:PySem.W.Frag)(U:Mu)(H:Hp):List PyData->List V->Prop
 |nil:RpL K U H [] []
 |cons {d:PyData} {v:V} {ds:List PyData} {vs:List V}:Rp K U H d v->RpL K U H ds vs->RpL K U H (d::ds) (v::vs)
end
def NT:HO->Prop
 |.tbl _=>False
 |_=>True
structure Ext(K:PySem.W.Frag)(U:Mu)(H:Hp)(Y:Mu)(H':Hp):Prop where
 keep:∀b o,H b=some o->U b=none->NT o->H' b=some o
 tb:∀b ps,H b=some (.tbl ps)->U b=none->∃ps',H' b=some (.tbl ps')
 dom:∀b ds,U b=some ds->∃es,Y b=some es
 fresh:∀b,U b=none->(H b≠none\/K.lookup b≠none)->Y b=none
def RpD(K:PySem.W.Frag)(U:Mu)(H:Hp):D->V->Prop
 |.v x,u=>Rp K U H x u
 |.m a,u=>u = .ref a/\∃ds,U a=some ds
 |.s ns,u=>∃a,u = .ref a/\SqL K H a (ns.map V.int)/\U a=none
 |.o a,u=>u = .ref a
 |.q P,u=>∀Y H',Ext K U H Y H'->P K u Y H'
noncomputable def codeAt(c:Addr)(q:Str)(h:Heap):Prop:=∃o vs t,h.get? c=some o/\o.data = .fields vs/\vs[1]? = some (.str q t)
abbrev cQ(q:Str):Str:=(q ++ ".<locals>.") ++ "<lambda>"
noncomputable def T7(H:Hp)(P:Addr)(q:Str):Prop:=∃ps:Array Value,H P=some (.tbl ps)/\TriplesOk ps.toList/\∀pos cv,codeAmong pos ps.toList=some cv->∃c,cv = .ref c/\H c=some (.ext (codeAt c (cQ q)))
noncomputable def AD(K:PySem.W.Frag)(H:Hp):Prop:=∀c o P q,K.lookup c=some o->bS o=some (P,q)->T7 H P q
structure cz(K:PySem.W.Frag)(U:Mu)(H:Hp):Prop where
 lst:∀a ds,U a=some ds->∃xs,H a=some (.lst xs)/\RpL K U H ds xs
 tab:AD K H
instance {K:PySem.W.Frag} {U:Mu} {H:Hp}:CoeFun (cz K U H) fun _=>∀a ds,U a=some ds->∃xs,H a=some (.lst xs)/\RpL K U H ds xs:=⟨cz.lst⟩
theorem AD.of{K:PySem.W.Frag}{H H1:Hp}(t:AD K H)(s:∀b o,H b=some o->(∀xs,o≠.lst xs)->H1 b=some o):AD K H1:=fun c o P q h1 h2=>by
 obtain⟨ps,a1,a2,a3⟩:=t c o P q h1 h2
 exact⟨ps,s _ _ a1 (fun _ z=>nomatch z),a2,fun pos cv e=>let ⟨c,q1,q2⟩:=a3 pos cv e;⟨c,q1,s _ _ q2 (fun _ z=>nomatch z)⟩⟩
noncomputable def jX(K:PySem.W.Frag)(U:Mu)(H:Hp)(ρ:Rho)(Z:St):Prop:=
 ρ.length=Z.length/\∀(i:Nat) (d:D),ρ[i]? = some (some d)->∃u,Z[i]? = some (some u)/\RpD K U H d u
structure St0(K:PySem.W.Frag)(H:Hp)(ρ:Rho)(U:Mu)(Z:St):Prop where
 mu:cz K U H
 rho:jX K U H ρ Z
section
variable {K:PySem.W.Frag}{U ac ad:Mu}{H H1 H2:Hp}
theorem Ext.refl:Ext K U H U H:=⟨fun _ _ h _ _=>h,fun _ ps h _=>⟨ps,h⟩,fun _ ds h=>⟨ds,h⟩,fun _ h _=>h⟩
theorem Ext.trans(a:Ext K U H ac H1)(b:Ext K ac H1 ad H2):Ext K U H ad H2 where
 keep:=fun c o h n t=>b.keep c o (a.keep c o h n t) (a.fresh c n (.inl (by rw[h];exact fun z=>nomatch z))) t
 tb:=fun c ps h n=>by
  obtain⟨ps1,h1⟩:=a.tb c ps h n
  exact b.tb c ps1 h1 (a.fresh c n (.inl (by rw[h];exact fun z=>nomatch z)))
 dom:=fun c ds h=>let ⟨es,q⟩:=a.dom c ds h;b.dom c es q
 fresh:=fun c n h=>by
  refine b.fresh c (a.fresh c n h) ?_
  rcases h with h|h
  ·cases q:H c with
   |none=>exact absurd q h
   |some o=>
    by_cases t:NT o
    ·exact .inl (by rw[a.keep c o q n t];exact fun z=>nomatch z)
    ·cases o with
     |tbl ps=>
      obtain⟨ps1,h1⟩:=a.tb c ps q n
      exact .inl (by rw[h1];exact fun z=>nomatch z)
     |_=>exact absurd trivial t
  ·exact .inr h
theorem Ext.of_same(s:D1 H H1):Ext K U H U H1:=⟨fun b o h _ _=>s b o h,fun b ps h _=>⟨ps,s b _ h⟩,fun _ ds h=>⟨ds,h⟩,fun _ h _=>h⟩
theorem cz.not{a:Addr}{o:HO}(ok:cz K U H)(h:H a=some o)(n:∀xs,o≠.lst xs):U a=none:=by
 cases q:U a with
 |none=>rfl
 |some ds=>
  obtain⟨ys,e,_⟩:=ok a ds q
  rw[h] at e
  exact absurd (Option.some.inj e) (n ys)
theorem cz.free{a:Addr}(ok:cz K U H)(h:H a=none):U a=none:=by
 cases q:U a with
 |none=>rfl
 |some ds=>
  obtain⟨ys,e,_⟩:=ok a ds q
  rw[h] at e;cases e
theorem Cz{a:Addr}{xs:List V}(ok:cz K U H)(e:Ext K U H ac H1)(h:SqT K H a xs):SqT K H1 a xs:=by
 rcases h with (h|⟨o,h⟩)|h
 ·exact .inl (.inl (e.keep _ _ h (ok.not h fun _ z=>nomatch z) trivial))
 ·exact .inl (.inr ⟨o,e.keep _ _ h (ok.not h fun _ z=>nomatch z) trivial⟩)
 ·exact .inr h
theorem HC{a:Addr}{xs:List V}(e:Ext K U H ac H1)(h:SqL K H a xs)(n:U a=none):SqL K H1 a xs/\ac a=none:=by
 rcases h with (h|⟨o,h⟩)|h
 ·exact⟨.inl (.inl (e.keep _ _ h n trivial)),e.fresh _ n (.inl (by rw[h];exact fun z=>nomatch z))⟩
 ·exact⟨.inl (.inr ⟨o,e.keep _ _ h n trivial⟩),e.fresh _ n (.inl (by rw[h];exact fun z=>nomatch z))⟩
 ·obtain⟨o,its,k,hk,r⟩:=id h
  exact⟨.inr h,e.fresh _ n (.inr (by rw[hk];exact fun z=>nomatch z))⟩
mutual
theorem Rp.ext{d:PyData}{u:V}(ok:cz K U H)(e:Ext K U H ac H1):Rp K U H d u->Rp K ac H1 d u
 |.none=>.none
 |.bool b=>.bool b
 |.int i=>.int i
 |.str x=>.str x
 |.list h n r=>.list (e.keep _ _ h n trivial) (e.fresh _ n (.inl (by rw[h];exact fun z=>nomatch z))) (RpL.ext ok e r)
 |.tuple h r=>.tuple (Cz ok e h) (RpL.ext ok e r)
theorem RpL.ext{ds:List PyData}{us:List V}(ok:cz K U H)(e:Ext K U H ac H1):RpL K U H ds us->RpL K ac H1 ds us
 |.nil=>.nil
 |.cons h r=>.cons (Rp.ext ok e h) (RpL.ext ok e r)
end
theorem RpD.ext{d:D}{u:V}(ok:cz K U H)(e:Ext K U H ac H1)(r:RpD K U H d u):RpD K ac H1 d u:=by
 cases d with
 |v x=>exact Rp.ext ok e r
 |m a=>obtain⟨h,ds,q⟩:=r;exact⟨h,e.dom a ds q⟩
 |s ns=>obtain⟨a,h,q,n⟩:=r;exact⟨a,h,(HC e q n).1,(HC e q n).2⟩
 |o a=>exact r
 |q P=>exact fun Y H' e'=>r Y H' (e.trans e')
theorem jX.ext{ρ:Rho}{Z:St}(ok:cz K U H)(e:Ext K U H ac H1)(r:jX K U H ρ Z):jX K ac H1 ρ Z:=
 ⟨r.1,fun i d h=>let ⟨u,h1,h2⟩:=r.2 i d h;⟨u,h1,h2.ext ok e⟩⟩
theorem RpL.length{ds:List PyData}{us:List V}:RpL K U H ds us->ds.length=us.length
 |.nil=>rfl
 |.cons _ r=>congrArg (· + 1) (RpL.length r)
theorem RpL.get{ds:List PyData}{us:List V}:∀{i:Nat} {d:PyData},RpL K U H ds us->ds[i]? = some d->∃u,us[i]? = some u/\Rp K U H d u
 |_,_,.nil,h=>by simp at h
 |0,_,.cons r _,h=>by simp at h;subst h;exact⟨_,rfl,r⟩
 |i+1,d,.cons _ t,h=>by
  obtain⟨u,h1,h2⟩:=RpL.get (i:=i) (d:=d) t (by simpa using h)
  exact⟨u,by simpa using h1,h2⟩
theorem RpL.append{ds es:List PyData}{us ws:List V}:RpL K U H ds us->RpL K U H es ws->RpL K U H (ds++es) (us++ws)
 |.nil,s=>s
 |.cons r t,s=>.cons r (RpL.append t s)
theorem RpL.take{ds:List PyData}{us:List V}:∀(n:Nat),RpL K U H ds us->RpL K U H (ds.take n) (us.take n)
 |0,_=>by simp;exact .nil
 |_+1,.nil=>by simp;exact .nil
 |n+1,.cons r t=>.cons r (RpL.take n t)
theorem RpL.drop{ds:List PyData}{us:List V}:∀(n:Nat),RpL K U H ds us->RpL K U H (ds.drop n) (us.drop n)
 |0,r=>r
 |_+1,.nil=>by simp;exact .nil
 |n+1,.cons _ t=>RpL.drop n t
theorem RpL.reverse{ds:List PyData}{us:List V}:RpL K U H ds us->RpL K U H ds.reverse us.reverse
 |.nil=>.nil
 |.cons r t=>by rw[List.reverse_cons,List.reverse_cons];exact (RpL.reverse t).append (.cons r .nil)
theorem RpL.set{ds:List PyData}{us:List V}{d:PyData}{u:V}(q:Rp K U H d u):∀(i:Nat),RpL K U H ds us->RpL K U H (ds.set i d) (us.set i u)
 |_,.nil=>.nil
 |0,.cons _ t=>.cons q t
 |i+1,.cons r t=>.cons r (RpL.set q i t)
theorem Gb{ds:List PyData}{us:List V}{i:Int}{d:PyData}(r:RpL K U H ds us)(h:atI ds i=some d):∃u,atI us i=some u/\Rp K U H d u:=by
 unfold atI at h ⊢
 rw[<- r.length]
 cases q:ixN ds.length i with
 |none=>rw[q] at h;cases h
 |some j=>
  rw[q] at h
  exact r.get h
abbrev DK:=D->Mu->Prop
abbrev DTE:=Rho->Mu->DK->Prop
abbrev DTT:=Rho->Mu->(Bool->Mu->Prop)->Prop
abbrev DTA:=Rho->Mu->(List D->Mu->Prop)->Prop
structure Fm where
 nx:Rho->Mu->Prop
 rt:DK
 bk:Rho->Mu->Prop:=fun _ _=>False
 ct:Rho->Mu->Prop:=fun _ _=>False
abbrev DTS:=Fm->Rho->Mu->Prop
inductive lA(K:PySem.W.Frag)(U:Mu)(H:Hp):List D->List V->Prop
 |nil:lA K U H [] []
 |cons {d:D} {u:V} {ds:List D} {us:List V}:RpD K U H d u->lA K U H ds us->lA K U H (d::ds) (u::us)
theorem lA.ext{ds:List D}{us:List V}(ok:cz K U H)(e:Ext K U H ac H1):lA K U H ds us->lA K ac H1 ds us
 |.nil=>.nil
 |.cons h r=>.cons (h.ext ok e) (lA.ext ok e r)
theorem lA.length{ds:List D}{us:List V}:lA K U H ds us->ds.length=us.length
 |.nil=>rfl
 |.cons _ r=>congrArg (· + 1) (lA.length r)
end
noncomputable def vg(K:PySem.W.Frag)(t:TE)(td:DTE):Prop:=∀(Z:St) (H:Hp) (ρ:Rho) (U:Mu) (Qd:DK) (Q:VK),St0 K H ρ U Z->td ρ U Qd ->
 (∀d u Y H',Ext K U H Y H'->St0 K H' ρ Y Z->RpD K Y H' d u->Qd d Y->Q u H')->t Z H Q
noncomputable def L9(K:PySem.W.Frag)(t:TT)(td:DTT):Prop:=∀(Z:St) (H:Hp) (ρ:Rho) (U:Mu) (Qd:Bool->Mu->Prop) (Q:Bool->Hp->Prop),St0 K H ρ U Z->td ρ U Qd ->
 (∀b Y H',Ext K U H Y H'->St0 K H' ρ Y Z->Qd b Y->Q b H')->t Z H Q
noncomputable def O4(K:PySem.W.Frag)(n:Nat)(t:TA)(td:DTA):Prop:=∀(Z:St) (H:Hp) (ρ:Rho) (U:Mu) (Qd:List D->Mu->Prop) (Q:List V->Hp->Prop),St0 K H ρ U Z->td ρ U Qd ->
 (∀ds us Y H',Ext K U H Y H'->St0 K H' ρ Y Z->lA K Y H' ds us->ds.length=n->Qd ds Y->Q us H')->t Z H Q
noncomputable def Bu(K:PySem.W.Frag)(t:TS)(td:DTS):Prop:=∀(Z:St) (H:Hp) (ρ:Rho) (U:Mu) (Dd:Fm) (De:Ends),St0 K H ρ U Z->td Dd ρ U ->
 (∀am bi Y H',Ext K U H Y H'->St0 K H' bi Y am->Dd.nx bi Y->De.nx am H') ->
 (∀d u Y H',Ext K U H Y H'->cz K Y H'->RpD K Y H' d u->Dd.rt d Y->De.rt u H') ->
 (∀am bi Y H',Ext K U H Y H'->St0 K H' bi Y am->Dd.bk bi Y->De.bk am H') ->
 (∀am bi Y H',Ext K U H Y H'->St0 K H' bi Y am->Dd.ct bi Y->De.ct am H')->t De Z H
noncomputable def DE(X:Cx)(e:Expr)(td:DTE):Prop:=∃t,PE X e t/\vg X.K t td
noncomputable def DT(X:Cx)(e:Expr)(td:DTT):Prop:=∃t,PT X e t/\L9 X.K t td
noncomputable def DA(X:Cx)(es:List Expr)(td:DTA):Prop:=∃t,PA X es t/\O4 X.K es.length t td
noncomputable def DS(X:Cx)(st:Stmt)(td:DTS):Prop:=∃t,PS X st t/\Bu X.K t td
noncomputable def DSs(X:Cx)(st:List Stmt)(td:DTS):Prop:=∃t,PSs X st t/\Bu X.K t td
section
variable {X:Cx}{a b c:Expr}{ta tb tc:DTE}{pos:Pos}
noncomputable def ag(i:Nat):DTE:=fun ρ U Q=>match ρ[i]? with
 |some (some d)=>Q d U
 |_=>False
noncomputable def dC(x:PyData):DTE:=fun _ U Q=>Q (.v x) U
theorem Mt{K:PySem.W.Frag}(i:Nat):vg K (Rr i) (ag i):=by
 intro Z H ρ U Qd Q S h k
 unfold ag at h
 split at h
 ·rename_i d e
  obtain⟨u,h1,h2⟩:=S.rho.2 i d e
  exact⟨u,h1,k d u U H .refl S h2 h⟩
 ·exact h.elim
theorem dv(i:Nat){x:Str}{pos:Pos}(hN:X.N[i]? = some x:=by rfl)(hv:Vis X.env.scope x:=by first|exact Or.inl rfl|exact Or.inr (Or.inl rfl)|exact Or.inr (Or.inr rfl))(hd:(x==("__debug__":Str))=false:=by decide)
  (hcd:(x==("__classdict__":Str))=false:=by decide):DE X (.Name x pos) (ag i):=⟨_,GV hN hv hd hcd,Mt i⟩
theorem yC{K:PySem.W.Frag}{x:PyData}{u:V}(h:∀U H,cz K U H->Rp K U H x u):vg K (tC u) (dC x):=fun Z H ρ U Qd Q S q k=>k (.v x) u U H .refl S (h U H S.mu) q
theorem af{i j pos}:DE X (.Constant (.int i) j pos) (dC (.int i)):=⟨_,GI,yC fun _ _ _=>.int i⟩
theorem eA{i j pos}:DE X (.Constant (.bool i) j pos) (dC (.bool i)):=⟨_,SN,yC fun _ _ _=>.bool i⟩
theorem Lh{j pos}:DE X (.Constant .none j pos) (dC .none):=⟨_,Rl,yC fun _ _ _=>.none⟩
theorem bR{x j pos}:DE X (.Constant (.str x) j pos) (dC (.str x)):=⟨_,Mc,yC fun _ _ _=>.str x⟩
theorem HF{x:Str}{d:PyData}{u:V}{w:Value}{pos:Pos}(hg:Gl X x)(hm:X.mg x=some w)(r:RelV u w)(h:∀U H,cz X.K U H->Rp X.K U H d u)(hd:(x==("__debug__":Str))=false:=by decide):DE X (.Name x pos) (dC d):=
 ⟨_,IE hg hm r hd,yC h⟩
noncomputable def jZ(K:PySem.W.Frag)(rr:R2)(r:D->D->Mu->DK->Prop):Prop:=∀(x y:D) (ux uy:V) (H:Hp) (U:Mu) (Qd:DK) (Q:VK),cz K U H->RpD K U H x ux->RpD K U H y uy->r x y U Qd ->
 (∀d u Y H',Ext K U H Y H'->cz K Y H'->RpD K Y H' d u->Qd d Y->Q u H')->rr ux uy H Q
noncomputable def dOp(r:D->D->Mu->DK->Prop)(ta tb:DTE):DTE:=fun ρ U Q=>ta ρ U fun x ac=>tb ρ ac fun y ad=>r x y ad Q
theorem yh{K:PySem.W.Frag}{rr:R2}{r}{t1 t2:TE}(lo:jZ K rr r)(la:vg K t1 ta)(lb:vg K t2 tb):vg K (tOp rr t1 t2) (dOp r ta tb):=by
 intro Z H ρ U Qd Q S h k
 refine la Z H ρ U _ _ S h fun x ux ac H1 e1 S1 rx h1=>?_
 refine lb Z H1 ρ ac _ _ S1 h1 fun y uy ad H2 e2 S2 ry h2=>?_
 exact lo x y ux uy H2 ad _ _ S2.mu (rx.ext S1.mu e2) ry h2 fun d u Y H' e3 ok r q=>k d u Y H' (e1.trans (e2.trans e3)) ⟨ok,S2.rho.ext S2.mu e3⟩ r q
theorem xJ{op:Operator}{rr:R2}{r}(ho:OpR X (binaryOp op) rr)(lo:jZ X.K rr r)(ha:DE X a ta)(hb:DE X b tb):DE X (.BinOp a op b pos) (dOp r ta tb):=by
 obtain⟨t1,p1,l1⟩:=ha
 obtain⟨t2,p2,l2⟩:=hb
 exact⟨_,Ss ho p1 p2,yh lo l1 l2⟩
theorem df{op:CmpOp}{rr:R2}{r}(ho:OpR X (compareOp op) rr)(lo:jZ X.K rr r)(ha:DE X a ta)(hb:DE X b tb)(hm:behindInMarks op b=false):DE X (.Compare a [op] [b] pos) (dOp r ta tb):=by
 obtain⟨t1,p1,l1⟩:=ha
 obtain⟨t2,p2,l2⟩:=hb
 exact⟨_,NS ho p1 p2 hm,yh lo l1 l2⟩
noncomputable def dB(t:DTE):DTT:=fun ρ U Q=>t ρ U fun d ac=>match d with
 |.v (.bool k)=>Q k ac
 |_=>False
theorem wM{K:PySem.W.Frag}{t:TE}{td:DTE}(l:vg K t td):L9 K (Mz t) (dB td):=by
 intro Z H ρ U Qd Q S h k
 refine l Z H ρ U _ _ S h fun d u ac H1 e1 S1 r q=>?_
 split at q
 ·rename_i b
  cases r
  exact⟨b,rfl,k b ac H1 e1 S1 q⟩
 ·exact q.elim
theorem aQ{op:CmpOp}{rr:R2}{r}(ho:OpR X (compareOp op) rr)(lo:jZ X.K rr r)(ha:DE X a ta)(hb:DE X b tb)(hm:behindInMarks op b=false):DT X (.Compare a [op] [b] pos) (dB (dOp r ta tb)):=by
 obtain⟨t1,p1,l1⟩:=ha
 obtain⟨t2,p2,l2⟩:=hb
 exact⟨_,ND ho p1 p2 hm,wM (yh lo l1 l2)⟩
theorem bL{e:Expr}{td:DTE}(h:DE X e td)(he:∀whole,isTrue e X.env whole=(do let v <- whole;standAt e.pos;holding [v] (truthy v)):=by intro _;rfl):DT X e (dB td):=by
 obtain⟨t,p,l⟩:=h
 exact⟨_,Qy p he,wM l⟩
def rII(C:Int->Int->Prop)(g:Int->Int->PyData):D->D->Mu->DK->Prop:=fun x y U Q=>match x,y with
 |.v (.int i),.v (.int j)=>C i j/\Q (.v (g i j)) U
 |_,_=>False
theorem NY{K:PySem.W.Frag}{C:Int->Int->Prop}{g:Int->Int->V}{gd:Int->Int->PyData}(hg:∀U H i j,Rp K U H (gd i j) (g i j)):jZ K (rI C g) (rII C gd):=by
 intro x y ux uy H U Qd Q ok rx ry h k
 unfold rII at h
 split at h
 ·rename_i i j
  cases rx;cases ry
  exact⟨i,j,rfl,rfl,h.1,k (.v _) _ U H .refl ok (hg U H i j) h.2⟩
 ·exact h.elim
def vW(g:Int->Int->PyData):D->D->Mu->DK->Prop:=fun x y U Q=>match x,y with
 |.v (.int i),.v (.int j)=>Q (.v (g i j)) U
 |_,_=>False
theorem HI{K:PySem.W.Frag}{g:Int->Int->V}{gd:Int->Int->PyData}(hg:∀U H i j,Rp K U H (gd i j) (g i j)):jZ K (rI0 g) (vW gd):=by
 intro x y ux uy H U Qd Q ok rx ry h k
 unfold vW at h
 split at h
 ·rename_i i j
  cases rx;cases ry
  exact⟨i,j,rfl,rfl,k (.v _) _ U H .refl ok (hg U H i j) h⟩
 ·exact h.elim
noncomputable abbrev ly(ta tb:DTE):DTE:=dOp (vW fun i j=>.int (i+j)) ta tb
noncomputable abbrev qD(ta tb:DTE):DTE:=dOp (vW fun i j=>.int (i-j)) ta tb
noncomputable abbrev MulOk(i j:Int):Prop:=IntMulOk i j
noncomputable abbrev cj(ta tb:DTE):DTE:=dOp (rII MulOk fun i j=>.int (i*j)) ta tb
noncomputable abbrev vy(ta tb:DTE):DTE:=dOp (rII (fun _ j=>j≠0) fun i j=>.int (i.fmod j)) ta tb
noncomputable abbrev rV(i j:Int):Prop:=j≠0/\Builtin.divisionGoesByPylong i j=false
noncomputable abbrev vi(ta tb:DTE):DTE:=dOp (rII rV fun i j=>.int (i.fdiv j)) ta tb
noncomputable abbrev Og(ta tb:DTE):DTE:=dOp (rII Pw fun i j=>.int (i ^ j.toNat)) ta tb
theorem N2:OpR X (binaryOp .Mult) (rI MulOk fun i j=>.int (i*j)):=opI fun _ _ _ _ _ _ _ hc q=>mul_int q hc
theorem OB:OpR X (binaryOp .FloorDiv) (rI rV fun i j=>.int (i.fdiv j)):=opI fun _ _ _ _ _ _ _ hc q=>floordiv_int hc.1 q (.inl hc.2)
theorem dR(ha:DE X a ta)(hb:DE X b tb):DE X (.BinOp a .Add b pos) (ly ta tb):=xJ Kt (HI fun _ _ _ _=>.int _) ha hb
theorem fU(ha:DE X a ta)(hb:DE X b tb):DE X (.BinOp a .Sub b pos) (qD ta tb):=xJ QL (HI fun _ _ _ _=>.int _) ha hb
theorem aT(ha:DE X a ta)(hb:DE X b tb):DE X (.BinOp a .Mult b pos) (cj ta tb):=xJ N2 (NY fun _ _ _ _=>.int _) ha hb
theorem jS(ha:DE X a ta)(hb:DE X b tb):DE X (.BinOp a .Mod b pos) (vy ta tb):=xJ Nt (NY fun _ _ _ _=>.int _) ha hb
theorem iV(ha:DE X a ta)(hb:DE X b tb):DE X (.BinOp a .FloorDiv b pos) (vi ta tb):=xJ OB (NY fun _ _ _ _=>.int _) ha hb
theorem G9(ha:DE X a ta)(hb:DE X b tb):DE X (.BinOp a .Pow b pos) (Og ta tb):=xJ Rg (NY fun _ _ _ _=>.int _) ha hb
abbrev rLt:=vW fun i j=>.bool (decide (i<j))
abbrev rLe:=vW fun i j=>.bool (decide (i<=j))
abbrev rGt:=vW fun i j=>.bool (decide (j<i))
abbrev rGe:=vW fun i j=>.bool (decide (j<=i))
theorem dX{K:PySem.W.Frag}{p:Int->Int->Bool}:jZ K (rI0 fun i j=>.bl (p i j)) (vW fun i j=>.bool (p i j)):=HI fun _ _ _ _=>.bool _
noncomputable def rG(ta:DTE):DTE:=fun ρ U Q=>ta ρ U fun x ac=>match x with
 |.v (.int i)=>Q (.v (.int (-i))) ac
 |_=>False
theorem iu(ha:DE X a ta):DE X (.UnaryOp .USub a pos) (rG ta):=by
 obtain⟨t1,p1,l1⟩:=ha
 refine⟨_,Lk GK p1,fun Z H ρ U Qd Q S h k=>?_⟩
 refine l1 Z H ρ U _ _ S h fun x ux ac H1 e1 S1 rx h1=>?_
 split at h1
 ·rename_i i
  cases rx
  exact⟨i,rfl,k (.v _) _ ac H1 e1 S1 (Rp.int _) h1⟩
 ·exact h1.elim
noncomputable def j0(t u:DTT):DTT:=fun ρ U Q=>t ρ U fun c ac=>if c=true then u ρ ac Q else Q false ac
noncomputable def ku(t u:DTT):DTT:=fun ρ U Q=>t ρ U fun c ac=>if c=true then Q true ac else u ρ ac Q
noncomputable def dq(t:DTT):DTT:=fun ρ U Q=>t ρ U fun c ac=>Q (!c) ac
noncomputable def DW(X:Cx)(e:Expr)(td:DTT):Prop:=∃t,PW X e t/\L9 X.K t td
theorem DW.dt{e:Expr}{td:DTT}(h:DW X e td):DT X e td:=let ⟨t,p,l⟩:=h;⟨t,p.pt,l⟩
variable {tA tB':DTT}{rest:List Expr}
theorem iz(ha:DT X a tA):DW X (.BoolOp .And [a] pos) tA:=let ⟨t,p,l⟩:=ha;⟨t,pw_and1 p,l⟩
theorem i4(ha:DT X a tA):DW X (.BoolOp .Or [a] pos) tA:=let ⟨t,p,l⟩:=ha;⟨t,pw_or1 p,l⟩
theorem g7(ha:DT X a tA)(hb:DW X (.BoolOp .And (b::rest) pos) tB'):DW X (.BoolOp .And (a::b::rest) pos) (j0 tA tB'):=by
 obtain⟨t1,p1,l1⟩:=ha
 obtain⟨t2,p2,l2⟩:=hb
 refine⟨_,pw_and p1 p2,fun Z H ρ U Qd Q S h k=>?_⟩
 refine l1 Z H ρ U _ _ S h fun c ac H1 e1 S1 h1=>?_
 cases c with
 |true=>
  refine A5 (l2 Z H1 ρ ac _ _ S1 (by simpa using h1) fun c ad H2 e2 S2 h2=>k c ad H2 (e1.trans e2) S2 h2)
 |false=>exact AE (k false ac H1 e1 S1 (by simpa using h1))
theorem fQ(ha:DT X a tA)(hb:DW X (.BoolOp .Or (b::rest) pos) tB'):DW X (.BoolOp .Or (a::b::rest) pos) (ku tA tB'):=by
 obtain⟨t1,p1,l1⟩:=ha
 obtain⟨t2,p2,l2⟩:=hb
 refine⟨_,pw_or p1 p2,fun Z H ρ U Qd Q S h k=>?_⟩
 refine l1 Z H ρ U _ _ S h fun c ac H1 e1 S1 h1=>?_
 cases c with
 |true=>exact A5 (k true ac H1 e1 S1 (by simpa using h1))
 |false=>
  refine AE (l2 Z H1 ρ ac _ _ S1 (by simpa using h1) fun c ad H2 e2 S2 h2=>k c ad H2 (e1.trans e2) S2 h2)
theorem cu(ha:DT X a tA):DT X (.UnaryOp .Not a pos) (dq tA):=by
 obtain⟨t1,p1,l1⟩:=ha
 refine⟨_,Q0 p1,fun Z H ρ U Qd Q S h k=>?_⟩
 exact l1 Z H ρ U _ _ S h fun c ac H1 e1 S1 h1=>k _ ac H1 e1 S1 h1
noncomputable def lD(ta tb:DTE):DTE:=fun ρ U Q=>ta ρ U fun x ac=>match x with
 |.v (.bool c)=>if c=true then tb ρ ac Q else Q (.v (.bool false)) ac
 |_=>False
noncomputable def Uy(ta tb:DTE):DTE:=fun ρ U Q=>ta ρ U fun x ac=>match x with
 |.v (.bool c)=>if c=true then Q (.v (.bool true)) ac else tb ρ ac Q
 |_=>False
noncomputable def Lo(ta:DTE):DTE:=fun ρ U Q=>ta ρ U fun x ac=>match x with
 |.v (.bool c)=>Q (.v (.bool (!c))) ac
 |_=>False
theorem jQ{op}(h:DE X a ta):DE X (.BoolOp op [a] pos) ta:=let ⟨t,p,l⟩:=h;⟨t,Qw p,l⟩
theorem ji(ha:DE X a ta)(hb:DE X (.BoolOp .And (b::rest) pos) tb):DE X (.BoolOp .And (a::b::rest) pos) (lD ta tb):=by
 obtain⟨t1,p1,l1⟩:=ha
 obtain⟨t2,p2,l2⟩:=hb
 refine⟨_,P5 p1 p2,fun Z H ρ U Qd Q S h k=>?_⟩
 refine l1 Z H ρ U _ _ S h fun x ux ac H1 e1 S1 rx h1=>?_
 split at h1
 ·rename_i c
  cases rx
  refine⟨c,rfl,?_⟩
  cases c with
  |true=>exact A5 (l2 Z H1 ρ ac _ _ S1 (by simpa using h1) fun d u ad H2 e2 S2 r2 h2=>k d u ad H2 (e1.trans e2) S2 r2 h2)
  |false=>exact AE (k (.v _) _ ac H1 e1 S1 (Rp.bool false) (by simpa using h1))
 ·exact h1.elim
theorem LS(ha:DE X a ta):DE X (.UnaryOp .Not a pos) (Lo ta):=by
 obtain⟨t1,p1,l1⟩:=ha
 refine⟨_,Rh p1,fun Z H ρ U Qd Q S h k=>?_⟩
 refine l1 Z H ρ U _ _ S h fun x ux ac H1 e1 S1 rx h1=>?_
 split at h1
 ·rename_i c
  cases rx
  exact⟨c,rfl,k (.v _) _ ac H1 e1 S1 (Rp.bool _) h1⟩
 ·exact h1.elim
noncomputable def dIf(t:DTT)(ta tb:DTE):DTE:=fun ρ U Q=>t ρ U fun c ac=>if c=true then ta ρ ac Q else tb ρ ac Q
theorem xi{c:Expr}(hc:DT X c tA)(ha:DE X a ta)(hb:DE X b tb):DE X (.IfExp c a b pos) (dIf tA ta tb):=by
 obtain⟨t0,p0,l0⟩:=hc
 obtain⟨t1,p1,l1⟩:=ha
 obtain⟨t2,p2,l2⟩:=hb
 refine⟨_,LM p0 p1 p2,fun Z H ρ U Qd Q S h k=>?_⟩
 refine l0 Z H ρ U _ _ S h fun c ac H1 e1 S1 h1=>?_
 cases c with
 |true=>exact A5 (l1 Z H1 ρ ac _ _ S1 (by simpa using h1) fun d u ad H2 e2 S2 r2 h2=>k d u ad H2 (e1.trans e2) S2 r2 h2)
 |false=>exact AE (l2 Z H1 ρ ac _ _ S1 (by simpa using h1) fun d u ad H2 e2 S2 r2 h2=>k d u ad H2 (e1.trans e2) S2 r2 h2)
end
section
variable {K:PySem.W.Frag}{U ac:Mu}{H H1:Hp}{p:Addr}
theorem cC{o:HO}(h:H p=none):Ext K U H U (upd H p o):=
 ⟨fun b u e _ _=>by rw[bK (aW e h)];exact e,fun b ps e _=>⟨ps,by rw[bK (aW e h)];exact e⟩,fun _ ds q=>⟨ds,q⟩,fun _ q _=>q⟩
theorem cz.Ol(ok:cz K U H)(e:Ext K U H U H1)(s:D1 H H1):cz K U H1:=⟨fun a ds q=>by
 obtain⟨xs,h1,h2⟩:=ok a ds q
 exact⟨xs,s _ _ h1,h2.ext ok e⟩,ok.tab.of fun b o h _=>s b o h⟩
theorem Kx{o:HO}(h:H p=none):D1 H (upd H p o):=fun b u q=>by rw[bK (aW q h)];exact q
theorem cz.new{o:HO}(ok:cz K U H)(h:H p=none):cz K U (upd H p o):=ok.Ol (cC h) (Kx h)
theorem St0.new{o:HO}{ρ:Rho}{Z:St}(S:St0 K H ρ U Z)(h:H p=none):St0 K (upd H p o) ρ U Z:=⟨S.mu.new h,S.rho.ext S.mu (cC h)⟩
theorem jl{us:List V}{ds:List PyData}(ok:cz K U H)(r:RpL K U H ds us)(h:H p=none):Rp K U (upd H p (.tup us)) (.tuple ds) (.ref p):=
 .tuple (SqT.of eE) (r.ext ok (cC h))
theorem dU{us:List V}{ds:List PyData}(ok:cz K U H)(r:RpL K U H ds us)(h:H p=none):Rp K U (upd H p (.lst us)) (.list ds) (.ref p):=
 .list eE (ok.free h) (r.ext ok (cC h))
theorem oU{o:HO}{ds:List PyData}(ok:cz K U H)(h:H p=none)(hk:K.lookup p=none):Ext K U H (aR U p ds) (upd H p o) where
 keep:=fun b u e _ _=>by rw[bK (aW e h)];exact e
 tb:=fun b ps e _=>⟨ps,by rw[bK (aW e h)];exact e⟩
 dom:=fun b es q=>by
  have:b≠p:=fun z=>by rw[z,ok.free h] at q;cases q
  exact⟨es,by rw[bZ this];exact q⟩
 fresh:=fun b n q=>by
  have:b≠p:=fun z=>by
   rcases q with q|q
   ·exact q (by rw[z];exact h)
   ·exact q (by rw[z];exact hk)
  rw[bZ this];exact n
theorem cz.mut{us:List V}{ds:List PyData}(ok:cz K U H)(r:RpL K U H ds us)(h:H p=none)(hk:K.lookup p=none):cz K (aR U p ds) (upd H p (.lst us)):=⟨fun a es q=>by
 have e:=oU (o:=.lst us) (ds:=ds) ok h hk
 by_cases ha:a=p
 ·subst ha
  rw[aV] at q
  cases q
  exact⟨us,eE,r.ext ok e⟩
 ·rw[bZ ha] at q
  obtain⟨xs,h1,h2⟩:=ok a es q
  exact⟨xs,by rw[bK ha];exact h1,h2.ext ok e⟩,ok.tab.of fun b o e _=>by rw[bK (aW e h)];exact e⟩
theorem qT{o:HO}{ds es:List PyData}(h:U p=some ds):Ext K U H (aR U p es) (upd H p o) where
 keep:=fun b u e n _=>by
  have:b≠p:=fun z=>by rw[z,h] at n;cases n
  rw[bK this];exact e
 tb:=fun b ps e n=>by
  have:b≠p:=fun z=>by rw[z,h] at n;cases n
  exact⟨ps,by rw[bK this];exact e⟩
 dom:=fun b fs q=>by
  by_cases hb:b=p
  ·subst hb;exact⟨es,aV⟩
  ·exact⟨fs,by rw[bZ hb];exact q⟩
 fresh:=fun b n q=>by
  have:b≠p:=fun z=>by rw[z,h] at n;cases n
  rw[bZ this];exact n
theorem cz.set{us:List V}{ds es:List PyData}(ok:cz K U H)(h:U p=some ds)(r:RpL K U H es us):cz K (aR U p es) (upd H p (.lst us)):=⟨fun a fs q=>by
 have e:Ext K U H (aR U p es) (upd H p (.lst us)):=qT h
 by_cases ha:a=p
 ·subst ha
  rw[aV] at q
  cases q
  exact⟨us,eE,r.ext ok e⟩
 ·rw[bZ ha] at q
  obtain⟨xs,h1,h2⟩:=ok a fs q
  exact⟨xs,by rw[bK ha];exact h1,h2.ext ok e⟩,by
 obtain⟨ys,hy,_⟩:=ok p ds h
 exact ok.tab.of fun b o e n=>by
  have:b≠p:=fun z=>by rw[z,hy] at e;exact n ys (Option.some.inj e).symm
  rw[bK this];exact e⟩
end
def du:List D->Option (List PyData)
 |[]=>some []
 |.v x::r=>(du r).map (x::·)
 |_::_=>none
theorem lA.data{K:PySem.W.Frag}{U:Mu}{H:Hp}:∀{ds:List D} {us:List V} {xs:List PyData},lA K U H ds us->du ds=some xs->RpL K U H xs us
 |_,_,_,.nil,e=>by cases e;exact .nil
 |.v x::r,_,xs,.cons h t,e=>by
  simp only[du] at e
  cases q:du r with
  |none=>rw[q] at e;cases e
  |some ys=>rw[q] at e;cases e;exact .cons h (lA.data t q)
 |.m _::_,_,_,.cons _ _,e=>by simp[du] at e
 |.s _::_,_,_,.cons _ _,e=>by simp[du] at e
 |.o _::_,_,_,.cons _ _,e=>by simp[du] at e
section
variable {X:Cx}{e:Expr}{es:List Expr}{te:DTE}{t:DTA}{pos:Pos}
noncomputable def ao:DTA:=fun _ U Q=>Q [] U
noncomputable def ae(ta:DTE)(tr:DTA):DTA:=fun ρ U Q=>ta ρ U fun x ac=>tr ρ ac fun xs ad=>Q (x::xs) ad
theorem ah:DA X [] ao:=⟨_,oH,fun Z H ρ U Qd Q S h k=>k [] [] U H .refl S .nil rfl h⟩
theorem aa(ha:DE X e te)(hr:DA X es t)(hs:starEach (e::es) X.env=(false,eval e X.env)::starEach es X.env:=by rfl):DA X (e::es) (ae te t):=by
 obtain⟨t1,p1,l1⟩:=ha
 obtain⟨t2,p2,l2⟩:=hr
 refine⟨_,eP p1 p2 hs,fun Z H ρ U Qd Q S h k=>?_⟩
 refine l1 Z H ρ U _ _ S h fun x ux ac H1 e1 S1 rx h1=>?_
 refine l2 Z H1 ρ ac _ _ S1 h1 fun xs us ad H2 e2 S2 rs len h2=>?_
 exact k (x::xs) (ux::us) ad H2 (e1.trans e2) S2 (.cons (rx.ext S1.mu e2) rs) (by rw[length_cons,length_cons,len]) h2
noncomputable def bG(t:DTA):DTE:=fun ρ U Q=>t ρ U fun ds ac=>match du ds with
 |some xs=>Q (.v (.tuple xs)) ac
 |none=>False
noncomputable def iF(t:DTA):DTE:=fun ρ U Q=>t ρ U fun ds ac=>match du ds with
 |some xs=>Q (.v (.list xs)) ac
 |none=>False
noncomputable def Bs(t:DTA):DTE:=fun ρ U Q=>t ρ U fun ds ac=>match du ds with
 |some xs=>∀p,ac p=none->Q (.m p) (aR ac p xs)
 |none=>False
theorem aJ{x1}(h:DA X es t)(hl:es.length<=1000:=by decide):DE X (.Tuple es x1 pos) (bG t):=by
 obtain⟨t1,p1,l1⟩:=h
 refine⟨_,MA p1,fun Z H ρ U Qd Q S h k=>?_⟩
 refine l1 Z H ρ U _ _ S h fun ds us ac H1 e1 S1 rs len h1=>?_
 cases q:du ds with
 |none=>rw[q] at h1;exact h1.elim
 |some xs=>
  rw[q] at h1
  refine⟨Nat.le_of_lt (jt (by rw[<- rs.length,len];exact hl)),fun p hp=>?_⟩
  exact k (.v (.tuple xs)) _ ac _ (e1.trans (cC hp)) (S1.new hp) (jl S1.mu (rs.data q) hp) h1
theorem cD(h:DA X es t)(hl:es.length<=1000:=by decide):DE X (.List es pos) (iF t):=by
 obtain⟨t1,p1,l1⟩:=h
 refine⟨_,Qa p1,fun Z H ρ U Qd Q S h k=>?_⟩
 refine l1 Z H ρ U _ _ S h fun ds us ac H1 e1 S1 rs len h1=>?_
 cases q:du ds with
 |none=>rw[q] at h1;exact h1.elim
 |some xs=>
  rw[q] at h1
  refine⟨Nat.le_of_lt (jt (by rw[<- rs.length,len];exact hl)),fun p hp=>?_⟩
  exact k (.v (.list xs)) _ ac _ (e1.trans (cC hp)) (S1.new hp) (dU S1.mu (rs.data q) hp) h1
noncomputable def Sw(K:PySem.W.Frag)(t:TA):TE:=fun Z H Q=>t Z H fun xs H1=>xs.length<=sizeLine/\∀p,H1 p=none->K.lookup p=none->Q (.ref p) (upd H1 p (.lst xs))
theorem Oj{t:TA}(h:PA X es t):PE X (.List es pos) (Sw X.K t):=by
 intro pins s Z H Q I hq
 refine wpAny_List_spliced (thn (h pos pins s Z H _ I hq) fun us s1 ⟨xs,H1,I1,r,z,q⟩=>⟨by rw[<- r.length];exact z,?_⟩)
 have hf:H1 s1.heap.objs.size=none:=I1.hok.fresh (Nat.le_refl _)
 have hk:X.K.lookup s1.heap.objs.size=none:=by
  cases c:X.K.lookup s1.heap.objs.size with
  |none=>rfl
  |some o=>exact absurd (Heap.lt_size (I1.kIn _ _ c)) (lt_irrefl _)
 refine⟨.ref s1.heap.objs.size,upd H1 s1.heap.objs.size (.lst xs),I1.laid (t':=s1.toks) (fun b u e=>Heap.get?_push_of_some _ e) (Nat.le_refl _) ?_,rfl,q _ hf hk⟩
 exact⟨z,us,0,r,Heap.get?_push_size _ rfl⟩
theorem yc(h:DA X es t)(hl:es.length<=1000:=by decide):DE X (.List es pos) (Bs t):=by
 obtain⟨t1,p1,l1⟩:=h
 refine⟨_,Oj p1,fun Z H ρ U Qd Q S h k=>?_⟩
 refine l1 Z H ρ U _ _ S h fun ds us ac H1 e1 S1 rs len h1=>?_
 cases q:du ds with
 |none=>rw[q] at h1;exact h1.elim
 |some xs=>
  rw[q] at h1
  refine⟨Nat.le_of_lt (jt (by rw[<- rs.length,len];exact hl)),fun p hp hk=>?_⟩
  have ex:=oU (o:=.lst us) (ds:=xs) S1.mu hp hk
  exact k (.m p) _ (aR ac p xs) _ (e1.trans ex) ⟨S1.mu.mut (rs.data q) hp hk,S1.rho.ext S1.mu ex⟩ ⟨rfl,xs,aV⟩ (h1 p (S1.mu.free hp))
end
section
variable {X:Cx}{pins:List (Addr×Obj)}{Z:St}{H:Hp}{s:Shared}{U:Mu}
mutual
theorem iD(I:Inv X pins Z H s):∀{d:PyData} {x:V} {u:Value},Rp X.K U H d x->RelV x u->∃as,Reads s.heap u d as
 |_,_,_,.none,r=>by cases r;exact⟨_,.none⟩
 |_,_,_,.bool b,r=>by cases r;exact⟨_,.bool b⟩
 |_,_,_,.int i,r=>by obtain⟨t,rfl⟩:=r;exact⟨_,.int i t⟩
 |_,_,_,.str y,r=>by obtain⟨t,rfl⟩:=r;exact⟨_,.str y t⟩
 |_,_,_,.list h _ q,r=>by
  cases r
  obtain⟨its,rv,⟨o,n,ho,hc,_,hd⟩,_⟩:=I.list (SqL.of h)
  obtain⟨as,ra⟩:=qo I q rv
  exact⟨_,.list ho hc hd (by simpa using ra)⟩
 |_,_,_,.tuple h q,r=>by
  cases r
  obtain⟨its,rv,⟨o,ho,hc,n,hd⟩,_⟩:=I.tuple h
  obtain⟨as,ra⟩:=qo I q rv
  exact⟨_,.tuple ho hc hd (by simpa using ra)⟩
theorem qo(I:Inv X pins Z H s):∀{ds:List PyData} {xs:List V} {us:List Value},RpL X.K U H ds xs->Vals xs us->∃as,ReadsAll s.heap us ds as
 |_,_,_,.nil,.nil=>⟨_,.nil⟩
 |_,_,_,.cons h t,.cons r q=>by
  obtain⟨as,ra⟩:=iD I h r
  obtain⟨bs,rb⟩:=qo I t q
  exact⟨_,.cons ra rb⟩
end
end
section
variable {X:Cx}
noncomputable def PX(K:PySem.W.Frag)(neg:Bool):R2:=fun x y H Q=>∃U a b,Rp K U H a x/\Rp K U H b y/\SeqAt.shaped a=true/\SeqAt.shaped b=true/\Q (.bl (neg ^^ PyData.eqv a b)) H
theorem bT(hu:X.A.units+64<cLine):OpR X (compareOp .Eq) (PX X.K false):=by
 intro pins s Z H x y v u Q I rx ry h
 obtain⟨U,a,b,ha,hb,sa,sb,q⟩:=h
 obtain⟨as,ra⟩:=iD I ha rx
 obtain⟨bs,rb⟩:=iD I hb ry
 exact eq_dataH ra rb sa sb hu ⟨.bl (PyData.eqv a b),H,I,rfl,by simpa using q⟩
theorem ic(hu:X.A.units+64<cLine):OpR X (compareOp .NotEq) (PX X.K true):=by
 intro pins s Z H x y v u Q I rx ry h
 obtain⟨U,a,b,ha,hb,sa,sb,q⟩:=h
 obtain⟨as,ra⟩:=iD I ha rx
 obtain⟨bs,rb⟩:=iD I hb ry
 exact ne_dataH ra rb sa sb hu ⟨.bl (!PyData.eqv a b),H,I,rfl,by simpa using q⟩
def cq(neg:Bool):D->D->Mu->DK->Prop:=fun x y U Q=>match x,y with
 |.v a,.v b=>SeqAt.shaped a=true/\SeqAt.shaped b=true/\Q (.v (.bool (neg ^^ PyData.eqv a b))) U
 |_,_=>False
theorem bj{K:PySem.W.Frag}{neg:Bool}:jZ K (PX K neg) (cq neg):=by
 intro x y ux uy H U Qd Q ok rx ry h k
 unfold cq at h
 split at h
 ·rename_i a b
  exact⟨U,a,b,rx,ry,h.1,h.2.1,k (.v _) _ U H .refl ok (Rp.bool _) h.2.2⟩
 ·exact h.elim
noncomputable def Rn(K:PySem.W.Frag)(neg:Bool):R2:=fun x y H Q=>∃U a bs,Rp K U H a x/\Rp K U H (.list bs) y/\PyData.canLayAll0 bs=true/\a.canLay0=true/\PyData.depth a<=60/\Q (.bl (neg ^^ bs.any fun b=>PyData.eqv b a)) H
theorem T9(hu:X.A.units+64<cLine):OpR X (compareOp .In) (Rn X.K false):=by
 intro pins s Z H x y v u Q I rx ry h
 obtain⟨U,a,b,ha,hb,sb,sa,dp,q⟩:=h
 obtain⟨as,ra⟩:=iD I ha rx
 obtain⟨bs,rb⟩:=iD I hb ry
 refine SeqAt.in_list_reads rb ra sb sa ∅ ⟨.bl (b.any fun z=>PyData.eqv z a),H,I,rfl,by simpa using q⟩
theorem Jq(hu:X.A.units+64<cLine):OpR X (compareOp .NotIn) (Rn X.K true):=by
 intro pins s Z H x y v u Q I rx ry h
 obtain⟨U,a,b,ha,hb,sb,sa,dp,q⟩:=h
 obtain⟨as,ra⟩:=iD I ha rx
 obtain⟨bs,rb⟩:=iD I hb ry
 refine SeqAt.notIn_list_reads rb ra sb sa ∅ ⟨.bl (!b.any fun z=>PyData.eqv z a),H,I,rfl,by simpa using q⟩
def OI(neg:Bool):D->D->Mu->DK->Prop:=fun x y U Q=>match x,y with
 |.v a,.v (.list bs)=>PyData.canLayAll0 bs=true/\a.canLay0=true/\PyData.depth a<=60/\Q (.v (.bool (neg ^^ bs.any fun b=>PyData.eqv b a))) U
 |_,_=>False
theorem P9{K:PySem.W.Frag}{neg:Bool}:jZ K (Rn K neg) (OI neg):=by
 intro x y ux uy H U Qd Q ok rx ry h k
 unfold OI at h
 split at h
 ·rename_i a b
  exact⟨U,a,b,rx,ry,h.1,h.2.1,h.2.2.1,k (.v _) _ U H .refl ok (Rp.bool _) h.2.2.2⟩
 ·exact h.elim
end
section
variable {X:Cx}{a b e:Expr}{es:List Expr}{ta tb te:DTE}{t:DTA}{p pos:Pos}
def aA:D->D->Mu->DK->Prop:=fun x y U Q=>match x,y with
 |.v (.list xs),.v (.int i)=>(match atI xs i with|some d=>Q (.v d) U|none=>False)
 |.v (.tuple xs),.v (.int i)=>(match atI xs i with|some d=>Q (.v d) U|none=>False)
 |.m l,.v (.int i)=>(match U l with
  |some xs=>(match atI xs i with|some d=>Q (.v d) U|none=>False)
  |none=>False)
 |.s ns,.v (.int i)=>(match atI ns i with|some d=>Q (.v (.int d)) U|none=>False)
 |_,_=>False
theorem Sd{K:PySem.W.Frag}:jZ K (rIx K) aA:=by
 intro x y ux uy H U Qd Q ok rx ry h k
 unfold aA at h
 split at h
 ·rename_i xs i
  cases ry
  cases q:atI xs i with
  |none=>rw[q] at h;exact h.elim
  |some d=>
   rw[q] at h
   cases rx with
   |list hs hn r=>
    obtain⟨u,e1,e2⟩:=Gb r q
    exact .inl ⟨_,_,i,u,rfl,rfl,SqL.of hs,e1,k (.v d) u U H .refl ok e2 h⟩
 ·rename_i xs i
  cases ry
  cases q:atI xs i with
  |none=>rw[q] at h;exact h.elim
  |some d=>
   rw[q] at h
   cases rx with
   |tuple hs r=>
    obtain⟨u,e1,e2⟩:=Gb r q
    exact .inr (.inl ⟨_,_,i,u,rfl,rfl,hs,e1,k (.v d) u U H .refl ok e2 h⟩)
 ·rename_i l i
  cases ry
  obtain⟨rfl,ds,hm⟩:=rx
  rw[hm] at h
  simp only at h
  cases q:atI ds i with
  |none=>rw[q] at h;exact h.elim
  |some d=>
   rw[q] at h
   obtain⟨us,hl,r⟩:=ok l ds hm
   obtain⟨u,e1,e2⟩:=Gb r q
   exact .inl ⟨_,_,i,u,rfl,rfl,SqL.of hl,e1,k (.v d) u U H .refl ok e2 h⟩
 ·rename_i ns i
  cases ry
  obtain⟨a,rfl,hs,hn⟩:=rx
  cases q:atI ns i with
  |none=>rw[q] at h;exact h.elim
  |some d=>
   rw[q] at h
   have e1:atI (ns.map V.int) i=some (.int d):=by
    unfold atI at q ⊢
    rw[length_map]
    cases z:ixN ns.length i with
    |none=>rw[z] at q;cases q
    |some j=>
     rw[z] at q
     simp only[bind_some,getElem?_map] at q ⊢
     rw[q]<;>rfl
   exact .inl ⟨_,_,i,_,rfl,rfl,hs,e1,k (.v (.int d)) _ U H .refl ok (Rp.int d) h⟩
 ·exact h.elim
theorem ar(ha:DE X a ta)(hb:DE X b tb)(hs:HH b):DE X (.Subscript a b pos) (dOp aA ta tb):=by
 obtain⟨t1,p1,l1⟩:=ha
 obtain⟨t2,p2,l2⟩:=hb
 exact⟨_,SU QR p1 p2 hs,yh Sd l1 l2⟩
theorem Ko{prog:Program}{w:World}{A:Around}{E:Value->Shared->Prop}{s:Shared}{t b:Addr}{ws:List Value}{Q:Value->Shared->Prop}(ht:IsTup s.heap t #[])(hb:IsTup s.heap b ws.toArray)
  (h1:Q (.ref b) s):wpAny (model prog w) A (binaryOp .Add (.ref t) (.ref b)) Q E s:=by
 obtain⟨⟨cls,dd,data,sl⟩,ho,hc,n,hd⟩:=id ht
 obtain⟨⟨cls2,dd2,data2,sl2⟩,ho2,hc2,n2,hd2⟩:=id hb
 simp only at hc hd hc2 hd2
 subst hc hd hc2 hd2
 exact concat_meets ⟨_,ho,rfl⟩ ⟨_,ho2,rfl⟩ noFill_tuple_add seq_tuple_add PySem.F.slot_tuple_add PySem.F.entry_tuple_add (PySem.F.args_tuple_add_2 _ _)
  (tuple_addW0 t b #[] ws.toArray n n2 dd dd2 sl sl2 rfl) ⟨ho,ho2,h1⟩
def rP(U:Mu):D->Option (List PyData)
 |.v (.list xs)=>some xs
 |.m l=>U l
 |_=>none
theorem Ag{K:PySem.W.Frag}{U:Mu}{H:Hp}{x:D}{u:V}{xs:List PyData}(ok:cz K U H)(r:RpD K U H x u)(h:rP U x=some xs):∃a us,u = .ref a/\H a=some (.lst us)/\RpL K U H xs us:=by
 cases x with
 |v d=>
  cases d<;>simp only[rP] at h<;>try cases h
  cases r with
  |list hs _ q=>exact⟨_,_,rfl,hs,q⟩
 |m l=>
  obtain⟨rfl,ds,hm⟩:=r
  obtain⟨us,hl,q⟩:=ok l xs h
  exact⟨l,us,rfl,hl,q⟩
 |s ns=>cases h
 |o a=>cases h
 |q P=>cases h
def Em:D->D->Mu->DK->Prop:=fun x y U Q=>match rP U x,rP U y with
 |some xs,some ys=>xs.length+ys.length<=1000/\Q (.v (.list (xs++ys))) U
 |_,_=>False
theorem yu{n:Nat}(h:n<=1000):n<=sizeLine:=Nat.le_of_lt (jt h)
theorem Q2{K:PySem.W.Frag}:jZ K QU Em:=by
 intro x y ux uy H U Qd Q ok rx ry h k
 unfold Em at h
 split at h
 ·rename_i xs ys hx hy
  obtain⟨a,us,rfl,ha,ra⟩:=Ag ok rx hx
  obtain⟨b,ws,rfl,hb,rb⟩:=Ag ok ry hy
  refine⟨a,b,us,ws,rfl,rfl,ha,hb,yu (by rw[<- ra.length,<- rb.length];exact h.1),fun p hp=>?_⟩
  exact k (.v _) _ U _ (cC hp) (ok.new hp) (dU ok (ra.append rb) hp) h.2
 ·exact h.elim
noncomputable def Gg(K:PySem.W.Frag):R2:=fun x y H Q=>∃a b xs ys,x = .ref a/\y = .ref b/\SqT K H a xs/\SqT K H b ys/\xs.length+ys.length<=sizeLine /\
 (xs=[]->Q (.ref b) H)/\(ys=[]->Q (.ref a) H)/\(∀p,H p=none->Q (.ref p) (upd H p (.tup (xs++ys))))
theorem M5:OpR X (binaryOp .Add) (Gg X.K):=by
 intro pins s Z H x y v u Q I rx ry h
 obtain⟨a,b,xs,ys,rfl,rfl,ha,hb,hz,q0,q1,q2⟩:=h
 by_cases hx:xs=[]
 ·subst hx
  cases rx
  cases ry
  obtain⟨its,r1,p1,_⟩:=I.tuple ha
  obtain⟨its2,r2,p2,_⟩:=I.tuple hb
  cases r1
  exact Ko p1 p2 ⟨.ref b,H,I,rfl,q0 rfl⟩
 ·exact N5 pins s Z H _ _ v u Q I rx ry ⟨a,b,xs,ys,rfl,rfl,ha,hb,hx,hz,q1,fun _=>q2⟩
def J9:D->D->Mu->DK->Prop:=fun x y U Q=>match x,y with
 |.v (.tuple xs),.v (.tuple ys)=>xs.length+ys.length<=1000/\Q (.v (.tuple (xs++ys))) U
 |_,_=>False
theorem Np{K:PySem.W.Frag}:jZ K (Gg K) J9:=by
 intro x y ux uy H U Qd Q ok rx ry h k
 unfold J9 at h
 split at h
 ·rename_i xs ys
  cases id rx with
  |@tuple a us _ ha ra=>
   cases id ry with
   |@tuple b ws _ hb rb=>
    refine⟨a,b,us,ws,rfl,rfl,ha,hb,yu (by rw[<- ra.length,<- rb.length];exact h.1),fun z=>?_,fun z=>?_,fun p hp=>?_⟩
    ·subst z
     cases ra
     exact k (.v _) _ U H .refl ok ry (by simpa using h.2)
    ·subst z
     cases rb
     exact k (.v _) _ U H .refl ok rx (by simpa using h.2)
    ·exact k (.v _) _ U _ (cC hp) (ok.new hp) (jl ok (ra.append rb) hp) h.2
 ·exact h.elim
end
end L2.DL
namespace HT
open PySem PyProof.Rows
section
variable {prog:Program}{w:World}{A:Around}{E:Value->Shared->Prop}{s:Shared}
theorem tZ{t sl:Addr}{items:Array Value}{vl vu:Value}{lo hi:Option Int}{Q:Value->Shared->Prop}(ht:IsTup s.heap t items)(hs:s.heap.IsSliceOf sl vl vu .none)(pl:IsPart vl lo)(pu:IsPart vu hi)
  (hw:sIx items.size 0 lo=0/\sIx items.size items.size hi=items.size) (h:Q (.ref t) s):wpAny (model prog w) A (getItem (.ref t) (.ref sl)) Q E s:=by
 obtain⟨os,hos,hcs,hds⟩:=id hs
 have hTs:s.TypeIs (.ref sl) "slice":=⟨os,hos,hcs⟩
 unfold getItem
 try with_reducible refine wpAny_holding ?_
 first|refine wpAny_bind (wpAny_pure ?_)|skip
 refine wpAny_bind (wpAny_sequenceKey ht.typeIs ⋯ ?_)
 refine wpAny_bind (wpAny_callSpecial?_slot (name:=Str.ofString "__getitem__") ht.typeIs PyProof.Rows.slot_tuple_getitem
  (wpAny_call_entry PyProof.Rows.slot_tuple_getitem ht.typeIs entry_tuple_getitem ?_ (args_tuple_getitem _ _)))
 show wpAny _ _ (Builtin.Tuple.tupleItemsOf (.ref t)>>=_) _ _ s
 refine wpAny_bind (tupleItemsOf_ ht ?_)
 refine wpAny_bind (wpAny_typeOf hTs ?_)
 rw[if_pos ⋯]
 refine wpAny_bind (mH hs pl pu ?_)
 have hno:((((sIx items.size 0 lo:Nat):Int)==0&&(1:Int)==1&&(sIx items.size items.size hi-sIx items.size 0 lo)==items.size)=true):=by
  rw[hw.1,hw.2]
  simp
 show wpAny _ _ (if (((sIx items.size 0 lo:Nat):Int)==0&&(1:Int)==1&&(sIx items.size items.size hi-sIx items.size 0 lo)==items.size)=true then _ else _) _ _ s
 rw[if_pos hno]
 refine wpAny_bind ?_
 unfold Builtin.Tuple.tupleIsExact
 refine wpAny_bind (wpAny_typeOf ht.typeIs (wpAny_pure ?_))
 rw[if_pos ⋯]
 refine wpAny_bind (wpAny_rule ?_)
 exact wpAny_pure ⟨_,rfl,wpAny_pure h⟩
theorem Gv(n:Nat):Builtin.Slice.sliceAdjust none none (-1) (n:Int)=((n:Int)-1,-1):=by
 unfold Builtin.Slice.sliceAdjust
 simp
theorem HB(n:Nat):Builtin.Slice.slicePlaces ((n:Int)-1) (-1) (-1)=n:=by
 unfold Builtin.Slice.slicePlaces
 simp
 omega
theorem vQ{sl:Addr}{t:Tok}{n:Nat}{Q:Int×Int×Nat->Shared->Prop}(hs:s.heap.IsSliceOf sl .none .none (.int (-1) t))
  (h:Q ((n:Int)-1,-1,n) s):wpAny (model prog w) A (Builtin.Slice.sliceApplied (.ref sl) (pure (n:Int))) Q E s:=by
 obtain⟨os,hos,hcs,hds⟩:=id hs
 unfold Builtin.Slice.sliceApplied Builtin.Slice.sliceFields
 refine wpAny_bind (wpAny_bind (wpAny_field hos hds (x:=.none) rfl (wpAny_bind (wpAny_field hos hds (x:=.none) rfl (wpAny_bind (wpAny_field hos hds (x:=.int (-1) t) rfl (wpAny_pure ?_)))))))
 refine wpAny_bind (slicePart_int ?_)
 show wpAny _ _ (if ((-1:Int)==0)=true then _ else _) _ _ s
 rw[if_neg ⋯]
 refine wpAny_bind (slicePart_none (wpAny_bind (slicePart_none (wpAny_bind (wpAny_pure ?_)))))
 show wpAny _ _ (match Builtin.Slice.sliceAdjust none none (-1) (n:Int) with|(lo,hi)=>pure (lo,(-1:Int),Builtin.Slice.slicePlaces lo hi (-1))) _ _ s
 rw[Gv]
 show wpAny _ _ (pure ((n:Int)-1,(-1:Int),Builtin.Slice.slicePlaces ((n:Int)-1) (-1) (-1))) _ _ s
 rw[HB]
 exact wpAny_pure h
theorem FT{α β:Type}{f g:α->Option β}:∀{l:List α},(∀x∈l,f x=g x)->l.filterMap f=l.filterMap g
 |[],_=>rfl
 |x::r,h=>by rw[filterMap_cons,filterMap_cons,h x mem_cons_self,FT fun y hy=>h y (mem_cons_of_mem _ hy)]
theorem Mn(xs:Array Value):((List.range xs.size).filterMap fun (m:Nat)=>xs[(((xs.size:Int)-1)+(m:Int)*(-1)).toNat]?).toArray=xs.toList.reverse.toArray:=by
 have h:=PySem.W.krv_pick xs
 unfold slicePick at h
 rw[PySem.W.krv_bounds] at h
 have h':((sliceRange ((xs.size:Int)-1) (-1) (-1)).filterMap (xs[·]?)).toArray=xs.toList.reverse.toArray:=h
 rw[PySem.W.krv_sliceRange,List.filterMap_map] at h'
 rw[<- h']
 congr 1
 refine FT fun k hk=>?_
 have:=List.mem_range.mp hk
 simp only[Function.comp]
 congr 1
 omega
theorem tP{t sl:Addr}{items:Array Value}{tk:Tok}{Q:Value->Shared->Prop}(ht:IsTup s.heap t items)(hs:s.heap.IsSliceOf sl .none .none (.int (-1) tk))
  (h:Q (.ref s.heap.objs.size) {s with heap:=s.heap.push {cls:=.type "tuple",data:=.seq items.toList.reverse.toArray}})
  (hsz:items.size<=sizeLine):wpAny (model prog w) A (getItem (.ref t) (.ref sl)) Q E s:=by
 have htake:sizeOk (.seq items.toList.reverse.toArray):=by
  show items.toList.reverse.toArray.size<=sizeLine
  rw[size_toArray,List.length_reverse,Array.length_toList]
  omega
 obtain⟨os,hos,hcs,hds⟩:=id hs
 have hTs:s.TypeIs (.ref sl) "slice":=⟨os,hos,hcs⟩
 unfold getItem
 try with_reducible refine wpAny_holding ?_
 first|refine wpAny_bind (wpAny_pure ?_)|skip
 refine wpAny_bind (wpAny_sequenceKey ht.typeIs ⋯ ?_)
 refine wpAny_bind (wpAny_callSpecial?_slot (name:=Str.ofString "__getitem__") ht.typeIs PyProof.Rows.slot_tuple_getitem
  (wpAny_call_entry PyProof.Rows.slot_tuple_getitem ht.typeIs entry_tuple_getitem ?_ (args_tuple_getitem _ _)))
 show wpAny _ _ (Builtin.Tuple.tupleItemsOf (.ref t)>>=_) _ _ s
 refine wpAny_bind (tupleItemsOf_ ht ?_)
 refine wpAny_bind (wpAny_typeOf hTs ?_)
 rw[if_pos ⋯]
 refine wpAny_bind (vQ hs ?_)
 have hno:¬ ((((items.size:Int)-1)==0&&(-1:Int)==1&&items.size==items.size)=true):=by simp
 show wpAny _ _ (if (((items.size:Int)-1)==0&&(-1:Int)==1&&items.size==items.size)=true then _ else _) _ _ s
 rw[if_neg hno,Mn]
 first
  |exact wpAny_bind (m:=Builtin.Tuple.tupleExact _) (wpAny_newObj_type (wpAny_pure ⟨_,rfl,wpAny_pure h⟩) htake)
  |exact wpAny_bind (m:=Builtin.Tuple.tupleExact _) (wpAny_newObj_type (wpAny_bind (wpAny_pure (wpAny_pure ⟨_,rfl,wpAny_pure h⟩))) htake)
  |exact wpAny_bind (wpAny_bind (m:=Builtin.Tuple.tupleExact _) (wpAny_newObj_type (wpAny_pure (wpAny_pure ⟨_,rfl,wpAny_pure h⟩)) htake))
  |exact wpAny_bind (wpAny_bind (m:=Builtin.Tuple.tupleExact _) (wpAny_newObj_type (wpAny_pure ⟨_,rfl,wpAny_pure h⟩) htake))
end
end HT
namespace L2.DL
open PySem PySem.Spec PyProof.Rows
section
variable {X:Cx}{a b e:Expr}{lo hi:Option Expr}{ta tb te:DTE}{pos p2:Pos}
def kS{α:Type}(xs:List α)(lo hi:Option Int):List α:=(xs.drop (HT.sIx xs.length 0 lo)).take (HT.sIx xs.length xs.length hi-HT.sIx xs.length 0 lo)
theorem RpL.cut{K:PySem.W.Frag}{U:Mu}{H:Hp}{ds:List PyData}{us:List V}{lo hi:Option Int}(r:RpL K U H ds us):RpL K U H (kS ds lo hi) (Df us lo hi):=by
 unfold kS Df
 rw[r.length]
 exact (r.drop _).take _
theorem N8{α:Type}{xs:List α}{lo hi:Option Int}(h:HT.sIx xs.length 0 lo=0/\HT.sIx xs.length xs.length hi=xs.length):kS xs lo hi=xs:=by
 unfold kS
 rw[h.1,h.2]
 simp
def TK(K:PySem.W.Frag):V->Option Int->Option Int->Hp->VK->Prop:=fun x lo hi H Q=>∃a xs,x = .ref a/\SqT K H a xs /\
 (HT.sIx xs.length 0 lo=0/\HT.sIx xs.length xs.length hi=xs.length->Q (.ref a) H)/\∀p,H p=none->Q (.ref p) (upd H p (.tup (Df xs lo hi)))
theorem NX:SlR X (TK X.K):=by
 intro pins s Z H x v vl vu lo hi sl Q I rx hs pl pu h
 obtain⟨a,xs,rfl,hx,q1,q⟩:=h
 by_cases hw:HT.sIx xs.length 0 lo=0/\HT.sIx xs.length xs.length hi=xs.length
 ·cases rx
  obtain⟨its,r,ht,hz⟩:=I.tuple hx
  have hlen:its.toArray.size=xs.length:=by rw[size_toArray];exact r.length.symm
  refine⟨"tuple",_,PyProof.Rows.slot_tuple_getitem.lookup,ht.typeIs,?_⟩
  exact HT.tZ ht hs pl pu (by rw[hlen];exact hw) ⟨.ref a,H,I,rfl,q1 hw⟩
 ·exact RV pins s Z H _ v vl vu lo hi sl Q I rx hs pl pu ⟨a,xs,rfl,hx,hw,q⟩
abbrev DTO:=Rho->Mu->(Option Int->Mu->Prop)->Prop
noncomputable def R1(K:PySem.W.Frag)(t:TO)(td:DTO):Prop:=∀(Z:St) (H:Hp) (ρ:Rho) (U:Mu) (Qd:Option Int->Mu->Prop) (Q:Option Int->Hp->Prop),St0 K H ρ U Z->td ρ U Qd ->
 (∀o Y H',Ext K U H Y H'->St0 K H' ρ Y Z->Qd o Y->Q o H')->t Z H Q
noncomputable def DO(X:Cx)(e:Option Expr)(td:DTO):Prop:=∃t,PO X e t/\R1 X.K t td
noncomputable def ij:DTO:=fun _ U Q=>Q none U
noncomputable def qM(t:DTE):DTO:=fun ρ U Q=>t ρ U fun x ac=>match x with
 |.v (.int i)=>Q (some i) ac
 |_=>False
theorem kx:DO X none ij:=⟨_,Oa,fun Z H ρ U Qd Q S h k=>k none U H .refl S h⟩
theorem j9(h:DE X e te):DO X (some e) (qM te):=by
 obtain⟨t1,p1,l1⟩:=h
 refine⟨_,NG p1,fun Z H ρ U Qd Q S h k=>?_⟩
 refine l1 Z H ρ U _ _ S h fun x ux ac H1 e1 S1 rx h1=>?_
 split at h1
 ·cases rx
  exact⟨_,rfl,k _ ac H1 e1 S1 h1⟩
 ·exact h1.elim
noncomputable def JM(x:D)(lo hi:Option Int)(U:Mu)(Q:DK):Prop:=match x with
 |.v (.tuple xs)=>Q (.v (.tuple (kS xs lo hi))) U
 |.v (.list xs)=>Q (.v (.list (kS xs lo hi))) U
 |.m l=>(match U l with|some xs=>Q (.v (.list (kS xs lo hi))) U|none=>False)
 |_=>False
noncomputable def dSl(te:DTE)(tl th:DTO):DTE:=fun ρ U Q=>te ρ U fun x ac=>tl ρ ac fun l ad=>th ρ ad fun u db=>JM x l u db Q
theorem iy{tl th:DTO}(he:DE X e te)(hl:DO X lo tl)(hu:DO X hi th):DE X (.Subscript e (.Slice lo hi none p2) pos) (dSl te tl th):=by
 obtain⟨t1,p1,l1⟩:=he
 obtain⟨t2,p2,l2⟩:=hl
 obtain⟨t3,p3,l3⟩:=hu
 refine⟨_,KZ (Ow.or NX) p1 p2 p3,fun Z H ρ U Qd Q S h k=>?_⟩
 refine l1 Z H ρ U _ _ S h fun x ux ac H1 e1 S1 rx h1=>?_
 refine l2 Z H1 ρ ac _ _ S1 h1 fun l ad H2 e2 S2 h2=>?_
 refine l3 Z H2 ρ ad _ _ S2 h2 fun u db H3 e3 S3 h3=>?_
 have rx3:=(rx.ext S1.mu e2).ext S2.mu e3
 have ee:=e1.trans (e2.trans e3)
 unfold JM at h3
 split at h3
 ·rename_i xs
  cases id rx3 with
  |@tuple a us _ ha ra=>
   refine .inr ⟨a,us,rfl,ha,fun hw=>?_,fun p hp=>?_⟩
   ·refine k (.v _) _ db H3 ee S3 (show Rp _ _ _ (.tuple (kS xs l u)) _ from ?_) h3
    rw[N8 (by rw[ra.length];exact hw)]
    exact rx3
   ·exact k (.v _) _ db _ (ee.trans (cC hp)) (S3.new hp) (jl S3.mu ra.cut hp) h3
 ·rename_i xs
  cases id rx3 with
  |@list a us _ ha hn ra=>exact .inl ⟨a,us,rfl,SqL.of ha,fun p hp=>k (.v _) _ db _ (ee.trans (cC hp)) (S3.new hp) (dU S3.mu ra.cut hp) h3⟩
 ·rename_i a
  obtain⟨rfl,ds,hm⟩:=rx3
  rw[hm] at h3
  obtain⟨us,ha,ra⟩:=S3.mu a ds hm
  exact .inl ⟨a,us,rfl,SqL.of ha,fun p hp=>k (.v _) _ db _ (ee.trans (cC hp)) (S3.new hp) (dU S3.mu ra.cut hp) h3⟩
 ·exact h3.elim
noncomputable def TN(K:PySem.W.Frag)(te:TE):TE:=fun Z H Q=>te Z H fun x H1=>∃a xs,x = .ref a/\((SqL K H1 a xs/\∀p,H1 p=none->Q (.ref p) (upd H1 p (.lst xs.reverse)))\/(SqT K H1 a xs/\∀p,H1 p=none->Q (.ref p) (upd H1 p (.tup xs.reverse))))
theorem Vals.rev{xs:List V}{us:List Value}(h:Vals xs us):Vals xs.reverse us.reverse:=Vals.reverse h
theorem Pq{te:TE}{j:Nat}{pz q2:Pos}(he:PE X e te):PE X (.Subscript e (.Slice none none (some (.UnaryOp .USub (.Constant (.int 1) j pz) q2)) p2) pos) (TN X.K te):=by
 intro pins s Z H Q I h
 refine Subscript_ (thn (he pins s Z H _ I h) fun v s1 ⟨x,H1,I1,r1,q1⟩=>?_)
 refine wpAny_Slice ?_
 rw[evalPart_none,evalPart_some]
 refine wpAny_pure (wpAny_pure ?_)
 refine thn ((Lk GK (GI (X:=X) (i:=1) (j:=j) (pos:=pz))) pins s1 Z H1 (fun u H2=>u = .int (-1)/\H2=H1) I1 ⟨1,rfl,rfl,rfl⟩) fun st s2 ⟨z,H2,I2,r2,e2,e3⟩=>?_
 subst e2 e3
 obtain⟨tk,rfl⟩:=r2
 have I4:Inv X pins Z H2 {s2 with heap:=s2.heap.push {cls:=.type "slice",data:=.fields #[.none,.none,.int (-1) tk]}}:=I2.kept (t':=s2.toks) fun b ob q=>Heap.get?_push_of_some _ q
 obtain⟨a,xs,rfl,q1⟩:=q1
 cases r1
 have hsl:({s2 with heap:=s2.heap.push {cls:=.type "slice",data:=.fields #[.none,.none,.int (-1) tk]}}:Shared).heap.IsSliceOf s2.heap.objs.size .none .none (.int (-1) tk):=Heap.IsSliceOf.new ..
 rcases q1 with ⟨hx,q⟩|⟨hx,q⟩
 ·obtain⟨its,r,ht,hz⟩:=I4.list hx
  have hlen:=r.length
  refine tail_any (ops:=[.ref a,.ref s2.heap.objs.size]) ht.isList.typeIs slot_list_getitem.lookup ?_ (by with_unfolding_all rfl)
  refine wpAny_getItem_list_slice ht.isList hsl .none .none (.int (-1) tk) ⋯ ?_ (by rw[size_toArray]<;>omega)
  rw[PySem.W.krv_pick]
  refine⟨.ref _,_,I4.laid (t':=s2.toks) (o:=.lst xs.reverse) (fun b ob q=>Heap.get?_push_of_some _ q) (Nat.le_refl _) ?_,rfl,q _ (I4.hok.fresh (Nat.le_refl _))⟩
  exact⟨by rw[List.length_reverse];exact hz,_,0,Vals.rev r,Heap.get?_push_size _ rfl⟩
 ·obtain⟨its,r,ht,hz⟩:=I4.tuple hx
  have hlen:=r.length
  refine tail_any (ops:=[.ref a,.ref s2.heap.objs.size]) ht.typeIs PyProof.Rows.slot_tuple_getitem.lookup ?_ (by with_unfolding_all rfl)
  refine HT.tP ht hsl ?_ (by rw[size_toArray]<;>omega)
  refine⟨.ref _,_,I4.laid (t':=s2.toks) (o:=.tup xs.reverse) (fun b ob q=>Heap.get?_push_of_some _ q) (Nat.le_refl _) ?_,rfl,q _ (I4.hok.fresh (Nat.le_refl _))⟩
  exact⟨by rw[List.length_reverse];exact hz,_,Vals.rev r,IsTup.new _ _⟩
noncomputable def RY(te:DTE):DTE:=fun ρ U Q=>te ρ U fun x ac=>match x with
 |.v (.tuple xs)=>Q (.v (.tuple xs.reverse)) ac
 |.v (.list xs)=>Q (.v (.list xs.reverse)) ac
 |.m l=>(match ac l with|some xs=>Q (.v (.list xs.reverse)) ac|none=>False)
 |_=>False
theorem Ro{j:Nat}{pz q2:Pos}(he:DE X e te):DE X (.Subscript e (.Slice none none (some (.UnaryOp .USub (.Constant (.int 1) j pz) q2)) p2) pos) (RY te):=by
 obtain⟨t1,p1,l1⟩:=he
 refine⟨_,Pq p1,fun Z H ρ U Qd Q S h k=>?_⟩
 refine l1 Z H ρ U _ _ S h fun x ux ac H1 e1 S1 rx h1=>?_
 split at h1
 ·cases rx with
  |@tuple a us _ ha ra=>exact⟨a,us,rfl,.inr ⟨ha,fun p hp=>k (.v _) _ ac _ (e1.trans (cC hp)) (S1.new hp) (jl S1.mu ra.reverse hp) h1⟩⟩
 ·cases rx with
  |@list a us _ ha hn ra=>exact⟨a,us,rfl,.inl ⟨SqL.of ha,fun p hp=>k (.v _) _ ac _ (e1.trans (cC hp)) (S1.new hp) (dU S1.mu ra.reverse hp) h1⟩⟩
 ·rename_i a
  obtain⟨rfl,ds,hm⟩:=rx
  rw[hm] at h1
  obtain⟨us,ha,ra⟩:=S1.mu a ds hm
  exact⟨a,us,rfl,.inl ⟨SqL.of ha,fun p hp=>k (.v _) _ ac _ (e1.trans (cC hp)) (S1.new hp) (dU S1.mu ra.reverse hp) h1⟩⟩
 ·exact h1.elim
end
section
variable {X:Cx}{a b e:Expr}{es:List Expr}{ta tb te:DTE}{t:DTA}{p pos:Pos}{x:Str}{bid T:String}
noncomputable def qB(K:PySem.W.Frag)(r:List V->Hp->VK->Prop)(rd:List D->Mu->DK->Prop):Prop:=∀(xs:List D) (us:List V) (H:Hp) (U:Mu) (Qd:DK) (Q:VK),cz K U H->lA K U H xs us->rd xs U Qd ->
 (∀d u Y H',Ext K U H Y H'->cz K Y H'->RpD K Y H' d u->Qd d Y->Q u H')->r us H Q
noncomputable def dCB(rd:List D->Mu->DK->Prop)(t:DTA):DTE:=fun ρ U Q=>t ρ U fun ds ac=>rd ds ac Q
theorem Il{K:PySem.W.Frag}{n:Nat}{r:List V->Hp->VK->Prop}{rd:List D->Mu->DK->Prop}{t1:TA}(lc:qB K r rd)(l1:O4 K n t1 t):vg K (tCB r t1) (dCB rd t):=by
 intro Z H ρ U Qd Q S h k
 refine l1 Z H ρ U _ _ S h fun xs us ac H1 e1 S1 rs len h1=>?_
 exact lc xs us H1 ac _ _ S1.mu rs h1 fun d u Y H' e2 ok r q=>k d u Y H' (e1.trans e2) ⟨ok,S1.rho.ext S1.mu e2⟩ r q
theorem pJ{r:List V->Hp->VK->Prop}{rd:List D->Mu->DK->Prop}(hc:jW X (.builtin bid) r)(lc:qB X.K r rd)(hg:Gl X x)(hm:X.mg x=none)(hv:bootBuiltins x=some (.builtin bid))(ha:DA X (e::es) t)(hn:x ≠ "__name__":=by decide)(hdb:(x==("__debug__":Str))=false:=by decide)
  (he:starEach (e::es) X.env=(false,eval e X.env)::starEach es X.env:=by rfl) (hpl:(backTo pos (starEach es X.env)).any (·.1)=false:=by rfl):DE X (.Call (.Name x p) (e::es) [] pos) (dCB rd t):=by
 obtain⟨t1,p1,l1⟩:=ha
 exact⟨_,qj hc hg hm hv p1 hn hdb he hpl,Il lc l1⟩
theorem rB{r:List V->Hp->VK->Prop}{rd:List D->Mu->DK->Prop}(hc:jW X (.type T) r)(lc:qB X.K r rd)(hg:Gl X x)(hm:X.mg x=none)(hv:bootBuiltins x=some (.type T))(ha:DA X (e::es) t)(hn:x ≠ "__name__":=by decide)(hdb:(x==("__debug__":Str))=false:=by decide)
  (he:starEach (e::es) X.env=(false,eval e X.env)::starEach es X.env:=by rfl) (hpl:(backTo pos (starEach es X.env)).any (·.1)=false:=by rfl):DE X (.Call (.Name x p) (e::es) [] pos) (dCB rd t):=by
 obtain⟨t1,p1,l1⟩:=ha
 exact⟨_,JB hc hg hm hv p1 hn hdb he hpl,Il lc l1⟩
def dH:List D->Mu->DK->Prop:=fun xs U Q=>match xs with
 |[.v (.list ys)]=>Q (.v (.int (ys.length:Nat))) U
 |[.v (.tuple ys)]=>Q (.v (.int (ys.length:Nat))) U
 |[.m l]=>(match U l with|some ys=>Q (.v (.int (ys.length:Nat))) U|none=>False)
 |[.s ns]=>Q (.v (.int (ns.length:Nat))) U
 |_=>False
theorem RB{K:PySem.W.Frag}:qB K (fun xs H Q=>∃p ys,xs=[.ref p]/\(SqL K H p ys\/SqT K H p ys)/\Q (.int ys.length) H) dH:=by
 intro xs us H U Qd Q ok rs h k
 unfold dH at h
 split at h
 ·cases rs with
  |cons r1 r2=>
   cases r2
   cases r1 with
   |list hs hn r=>exact⟨_,_,rfl,.inl (SqL.of hs),k (.v _) _ U H .refl ok (by rw[<- r.length];exact Rp.int _) h⟩
 ·cases rs with
  |cons r1 r2=>
   cases r2
   cases r1 with
   |tuple hs r=>exact⟨_,_,rfl,.inr hs,k (.v _) _ U H .refl ok (by rw[<- r.length];exact Rp.int _) h⟩
 ·cases rs with
  |cons r1 r2=>
   cases r2
   obtain⟨rfl,ds,hm⟩:=r1
   rw[hm] at h
   obtain⟨us,hl,r⟩:=ok _ ds hm
   exact⟨_,_,rfl,.inl (SqL.of hl),k (.v _) _ U H .refl ok (by rw[<- r.length];exact Rp.int _) h⟩
 ·cases rs with
  |cons r1 r2=>
   cases r2
   obtain⟨a,rfl,hs,hn⟩:=r1
   exact⟨_,_,rfl,.inl hs,k (.v _) _ U H .refl ok (by rw[length_map];exact Rp.int _) h⟩
 ·exact h.elim
theorem dS(hg:Gl X "len")(hm:X.mg "len"=none)(ha:DA X (e::es) t)
  (he:starEach (e::es) X.env=(false,eval e X.env)::starEach es X.env:=by rfl) (hpl:(backTo pos (starEach es X.env)).any (·.1)=false:=by rfl):DE X (.Call (.Name "len" p) (e::es) [] pos) (dCB dH t):=
 pJ DM RB hg hm PySem.boot_len ha ⋯ ⋯ he hpl
def tW:List D->Mu->DK->Prop:=fun xs U Q=>match xs with
 |[.v (.int i)]=>Q (.v (.int (i.natAbs:Nat))) U
 |_=>False
theorem Ry{K:PySem.W.Frag}:qB K (fun xs H Q=>∃i,xs=[.int i]/\Q (.int (if i<0 then -i else i)) H) tW:=by
 intro xs us H U Qd Q ok rs h k
 unfold tW at h
 split at h
 ·rename_i i
  cases rs with
  |cons r1 r2=>
   cases r2
   cases r1
   refine⟨i,rfl,k (.v (.int (i.natAbs:Nat))) _ U H .refl ok ?_ h⟩
   have:(if i<0 then -i else i)=((i.natAbs:Nat):Int):=by split<;>omega
   rw[this]
   exact Rp.int _
 ·exact h.elim
theorem zh(hg:Gl X "abs")(hm:X.mg "abs"=none)(ha:DA X (e::es) t)
  (he:starEach (e::es) X.env=(false,eval e X.env)::starEach es X.env:=by rfl) (hpl:(backTo pos (starEach es X.env)).any (·.1)=false:=by rfl):DE X (.Call (.Name "abs" p) (e::es) [] pos) (dCB tW t):=
 pJ LJ Ry hg hm PyProof.Rows.Boot.«abs» ha ⋯ ⋯ he hpl
def Af(g:Int->Int->Int):List D->Mu->DK->Prop:=fun xs U Q=>match xs with
 |[.v (.int i),.v (.int j)]=>Q (.v (.int (g i j))) U
 |_=>False
theorem OY{K:PySem.W.Frag}{g g':Int->Int->Int}(hg:∀i j,g i j=g' i j):qB K (fun xs H Q=>∃i j,xs=[.int i,.int j]/\Q (.int (g i j)) H) (Af g'):=by
 intro xs us H U Qd Q ok rs h k
 unfold Af at h
 split at h
 ·rename_i i j
  cases rs with
  |cons r1 r2=>
   cases r2 with
   |cons r2 r3=>
    cases r3
    cases r1
    cases r2
    exact⟨i,j,rfl,k (.v _) _ U H .refl ok (by rw[hg];exact Rp.int _) h⟩
 ·exact h.elim
theorem G8(hc:X.calm=true)(hg:Gl X "max")(hm:X.mg "max"=none)(ha:DA X (e::es) t)
  (he:starEach (e::es) X.env=(false,eval e X.env)::starEach es X.env:=by rfl) (hpl:(backTo pos (starEach es X.env)).any (·.1)=false:=by rfl):DE X (.Call (.Name "max" p) (e::es) [] pos) (dCB (Af max) t):=
 pJ (Jl hc) (OY (fun i j=>by show (if j>i then j else i)=max i j;simp only[Int.max_def];split<;>split<;>omega)) hg hm PyProof.Rows.Boot.«max» ha ⋯ ⋯ he hpl
theorem GQ(hc:X.calm=true)(hg:Gl X "min")(hm:X.mg "min"=none)(ha:DA X (e::es) t)
  (he:starEach (e::es) X.env=(false,eval e X.env)::starEach es X.env:=by rfl) (hpl:(backTo pos (starEach es X.env)).any (·.1)=false:=by rfl):DE X (.Call (.Name "min" p) (e::es) [] pos) (dCB (Af min) t):=
 pJ (JZ hc) (OY (fun i j=>by show (if j<i then j else i)=min i j;simp only[Int.min_def];split<;>split<;>omega)) hg hm PyProof.Rows.Boot.«min» ha ⋯ ⋯ he hpl
def ua:List D->Mu->DK->Prop:=fun xs U Q=>match xs with
 |[.v (.int i)]=>Q (.v (.int i)) U
 |[.v (.bool k)]=>Q (.v (.int (if k then 1 else 0))) U
 |_=>False
theorem QV{K:PySem.W.Frag}:qB K (fun xs H Q=>(∃i,xs=[.int i]/\Q (.int i) H)\/∃k,xs=[.bl k]/\Q (.int (if k then 1 else 0)) H) ua:=by
 intro xs us H U Qd Q ok rs h k
 unfold ua at h
 split at h
 ·rename_i i
  cases rs with
  |cons r1 r2=>cases r2;cases r1;exact .inl ⟨i,rfl,k (.v _) _ U H .refl ok (Rp.int _) h⟩
 ·rename_i b
  cases rs with
  |cons r1 r2=>cases r2;cases r1;exact .inr ⟨b,rfl,k (.v _) _ U H .refl ok (Rp.int _) h⟩
 ·exact h.elim
theorem qE(hg:Gl X "int")(hm:X.mg "int"=none)(ha:DA X (e::es) t)
  (he:starEach (e::es) X.env=(false,eval e X.env)::starEach es X.env:=by rfl) (hpl:(backTo pos (starEach es X.env)).any (·.1)=false:=by rfl):DE X (.Call (.Name "int" p) (e::es) [] pos) (dCB ua t):=
 rB Jt QV hg hm PyProof.Rows.Boot.«int» ha ⋯ ⋯ he hpl
def sA:List D->Mu->DK->Prop:=fun xs U Q=>match xs with
 |[.v (.list ys)]=>Q (.v (.list ys)) U
 |[.v (.tuple ys)]=>Q (.v (.list ys)) U
 |_=>False
theorem OA{K:PySem.W.Frag}:qB K (fun xs H Q=>∃p ys,xs=[.ref p]/\(SqL K H p ys\/SqT K H p ys)/\∀l,H l=none->Q (.ref l) (upd H l (.lst ys))) sA:=by
 intro xs us H U Qd Q ok rs h k
 unfold sA at h
 split at h
 ·cases rs with
  |cons r1 r2=>
   cases r2
   cases r1 with
   |list hs hn r=>exact⟨_,_,rfl,.inl (SqL.of hs),fun p hp=>k (.v _) _ U _ (cC hp) (ok.new hp) (dU ok r hp) h⟩
 ·cases rs with
  |cons r1 r2=>
   cases r2
   cases r1 with
   |tuple hs r=>exact⟨_,_,rfl,.inr hs,fun p hp=>k (.v _) _ U _ (cC hp) (ok.new hp) (dU ok r hp) h⟩
 ·exact h.elim
theorem IL(hg:Gl X "list")(hm:X.mg "list"=none)(ha:DA X (e::es) t)
  (he:starEach (e::es) X.env=(false,eval e X.env)::starEach es X.env:=by rfl) (hpl:(backTo pos (starEach es X.env)).any (·.1)=false:=by rfl):DE X (.Call (.Name "list" p) (e::es) [] pos) (dCB sA t):=
 rB DC OA hg hm PyProof.Rows.Boot.«list» ha ⋯ ⋯ he hpl
theorem Fe:∀{bs:List Bool} {us:List Value},Vals (bs.map V.bl) us->us=bs.map Value.bool
 |[],_,.nil=>rfl
 |b::r,_,.cons h t=>by cases h;rw[Fe t];rfl
theorem JF(hc:X.calm=true):jW X (.builtin "all") (fun xs H Q=>∃(p:Addr) (bs:List Bool),xs=[.ref p]/\H p=some (.lst (bs.map V.bl))/\Q (.bl (bs.all id)) H):=by
 intro pins s Z H xs us Q I r h
 obtain⟨l,bs,rfl,hl,q⟩:=h
 obtain⟨u,rfl,rx⟩:=vals1 r
 cases rx
 obtain⟨its,rv,pl,_⟩:=I.list (SqL.of hl)
 have eb:=Fe rv
 subst eb
 have hL:=pl.isList
 have hlt:=pl.lt
 refine call_all_walk (wpAny_pyIter_list hL ?_)
 refine⟨s.heap.objs.size,[s.heap.objs.size,l],[s.heap.objs.size],(bs.map Value.bool).toArray.size,_,_,fun i=>(bs[i]?).getD true,rfl,Walks.list (A:=X.A.in1) (by exact I.ok.hd hc) _ l (ne_of_lt hlt) (bs.map Value.bool).toArray,
  ⟨⟨_,Heap.get?_push_size _ rfl,rfl,rfl⟩,hL.push _⟩,fun i v s' Q' E' hP hQ=>?_,fun h' tk hk=>?_⟩
 ·have hP':(bs.map Value.bool)[i]? = some v:=by simpa using hP
  rw[getElem?_map] at hP'
  cases z:bs[i]? with
  |none=>rw[z] at hP';cases hP'
  |some b=>
   rw[z] at hP'
   cases hP'
   simp only[z,Option.getD_some] at hQ
   exact wpAny_truthy_bool hQ
 ·have e:((List.range (bs.map Value.bool).toArray.size).all fun i=>(bs[i]?).getD true)=bs.all id:=by
   rw[size_toArray,length_map];exact PyProof.Rows.LSm.range_all bs
  rw[e]
  exact⟨.bl (bs.all id),H,I.kept (PyProof.Rows.LSm.kept_iter hk),rfl,q⟩
def bY:List PyData->Option (List Bool)
 |[]=>some []
 |.bool b::r=>(bY r).map (b::·)
 |_::_=>none
theorem zg{K:PySem.W.Frag}{U:Mu}{H:Hp}:∀{xs:List PyData} {us:List V} {bs:List Bool},RpL K U H xs us->bY xs=some bs->us=bs.map V.bl
 |_,_,_,.nil,e=>by cases e;rfl
 |.bool b::r,_,bs,.cons h t,e=>by
  simp only[bY] at e
  cases q:bY r with
  |none=>rw[q] at e;cases e
  |some cs=>rw[q] at e;cases e;cases h;rw[zg t q];rfl
 |.none::r,_,bs,.cons h t,e=>by simp[bY] at e
 |.int _::r,_,bs,.cons h t,e=>by simp[bY] at e
 |.str _::r,_,bs,.cons h t,e=>by simp[bY] at e
 |.list _::r,_,bs,.cons h t,e=>by simp[bY] at e
 |.tuple _::r,_,bs,.cons h t,e=>by simp[bY] at e
 |.dict _::r,_,bs,.cons h t,e=>by simp[bY] at e
def pG:List D->Mu->DK->Prop:=fun xs U Q=>match xs with
 |[.v (.list ys)]=>(match bY ys with|some bs=>Q (.v (.bool (bs.all id))) U|none=>False)
 |_=>False
theorem Rx{K:PySem.W.Frag}:qB K (fun xs H Q=>∃(p:Addr) (bs:List Bool),xs=[.ref p]/\H p=some (.lst (bs.map V.bl))/\Q (.bl (bs.all id)) H) pG:=by
 intro xs us H U Qd Q ok rs h k
 unfold pG at h
 split at h
 ·rename_i ys
  cases q:bY ys with
  |none=>rw[q] at h;exact h.elim
  |some bs=>
   rw[q] at h
   cases rs with
   |cons r1 r2=>
    cases r2
    cases r1 with
    |list hs hn r=>exact⟨_,bs,rfl,by rw[hs,zg r q],k (.v _) _ U H .refl ok (Rp.bool _) h⟩
 ·exact h.elim
theorem qh(hc:X.calm=true)(hg:Gl X "all")(hm:X.mg "all"=none)(ha:DA X (e::es) t)
  (he:starEach (e::es) X.env=(false,eval e X.env)::starEach es X.env:=by rfl) (hpl:(backTo pos (starEach es X.env)).any (·.1)=false:=by rfl):DE X (.Call (.Name "all" p) (e::es) [] pos) (dCB pG t):=
 pJ (JF hc) Rx hg hm PyProof.Rows.Boot.«all» ha ⋯ ⋯ he hpl
def tyD:PyData->String
 |.none=>"NoneType"
 |.bool _=>"bool"
 |.int _=>"int"
 |.str _=>"str"
 |.list _=>"list"
 |.tuple _=>"tuple"
 |.dict _=>"dict"
def isT(T:String)(d:PyData):Bool:=tyD d==T || (T == "int"&&tyD d == "bool")
theorem JL{pins:List (Addr×Obj)}{Z:St}{H:Hp}{s:Shared}{U:Mu}{d:PyData}{u:V}{v:Value}{k:Bool}{A:Around}{E:Value->Shared->Prop}{Q:Value->Shared->Prop}(I:Inv X pins Z H s)(r:Rp X.K U H d u)(rx:RelV u v)
  (ek:kitOne X.K (.type (tyD d)) (.type T)=some k) (h:∀tk,Q (.bool k) {s with toks:=tk}):wpAny (model X.prog X.w) A (call (.builtin "isinstance") [v,.type T]) Q E s:=by
 cases r with
 |none=>cases rx;exact kia_one PySem.W.kitx_none I.kIn True.intro ek (fun z=>nomatch z) h
 |bool b=>cases rx;exact kia_one PySem.W.kitx_bool I.kIn True.intro ek (fun z=>nomatch z) h
 |int i=>obtain⟨t,rfl⟩:=rx;exact kia_one PySem.W.kitx_int I.kIn True.intro ek (fun z=>nomatch z) h
 |str y=>obtain⟨t,rfl⟩:=rx;exact kia_one PySem.W.kitx_str I.kIn True.intro ek (fun z=>nomatch z) h
 |list hs hn q=>
  cases rx
  obtain⟨its,rv,⟨o,n,h1,h2,_⟩,_⟩:=I.list (SqL.of hs)
  exact kia_one PySem.W.kitx_list I.kIn ⟨o,h1,h2⟩ ek (fun z=>nomatch z) h
 |tuple hs q=>
  cases rx
  obtain⟨its,rv,⟨o,h1,h2,_⟩,_⟩:=I.tuple hs
  exact kia_one PySem.W.kitx_tuple I.kIn ⟨o,h1,h2⟩ ek (fun z=>nomatch z) h
theorem HW(K:PySem.W.Frag)(d:PyData):kitOne K (.type (tyD d)) (.type "int")=some (isT "int" d):=by cases d<;>rfl
theorem zd(K:PySem.W.Frag)(d:PyData):kitOne K (.type (tyD d)) (.type "bool")=some (isT "bool" d):=by cases d<;>rfl
theorem kit_tuple(K:PySem.W.Frag)(d:PyData):kitOne K (.type (tyD d)) (.type "tuple")=some (isT "tuple" d):=by cases d<;>rfl
theorem zu(K:PySem.W.Frag)(d:PyData):kitOne K (.type (tyD d)) (.type "list")=some (isT "list" d):=by cases d<;>rfl
theorem NN(K:PySem.W.Frag)(d:PyData):kitOne K (.type (tyD d)) (.type "str")=some (isT "str" d):=by cases d<;>rfl
theorem Fv(kt:∀d,kitOne X.K (.type (tyD d)) (.type T)=some (isT T d)):jW X (.builtin "isinstance") (fun xs H Q=>∃U d u,xs=[u,.ty T]/\Rp X.K U H d u/\Q (.bl (isT T d)) H):=by
 intro pins s Z H xs us Q I r h
 obtain⟨U,d,u,rfl,rd,q⟩:=h
 obtain⟨v,w',rfl,r1,r2⟩:=vals2 r
 cases r2
 exact JL I rd r1 (kt d) fun tk=>⟨.bl (isT T d),H,I.tok _,rfl,q⟩
noncomputable def rF(T:String)(te:DTE):DTE:=fun ρ U Q=>te ρ U fun x ac=>match x with
 |.v d=>Q (.v (.bool (isT T d))) ac
 |_=>False
theorem fT{y:Str}{py:Pos}(kt:∀d,kitOne X.K (.type (tyD d)) (.type T)=some (isT T d))(hg:Gl X "isinstance")(hm:X.mg "isinstance"=none)(hgy:Gl X y)(hmy:X.mg y=none)(hvy:bootBuiltins y=some (.type T))(ha:DE X e te)
  (hny:y ≠ "__name__":=by decide) (hdy:(y==("__debug__":Str))=false:=by decide)
  (he:starEach [e,.Name y py] X.env=(false,eval e X.env)::starEach [.Name y py] X.env:=by rfl) (he2:starEach [.Name y py] X.env=[(false,eval (.Name y py) X.env)]:=by rfl) (hpl:(backTo pos (starEach [.Name y py] X.env)).any (·.1)=false:=by rfl):DE X (.Call (.Name "isinstance" p) [e,.Name y py] [] pos) (rF T te):=by
 obtain⟨t1,p1,l1⟩:=ha
 refine⟨_,qj (Fv kt) hg hm PyProof.Rows.Boot.«isinstance» (eP p1 (eP (yj (v:=.ty T) hgy hmy hvy rfl hny hdy) oH he2) he) ⋯ ⋯ he hpl,fun Z H ρ U Qd Q S h k=>?_⟩
 refine l1 Z H ρ U _ _ S h fun x ux ac H1 e1 S1 rx h1=>?_
 split at h1
 ·exact⟨ac,_,ux,rfl,rx,k (.v _) _ ac H1 e1 S1 (Rp.bool _) h1⟩
 ·exact h1.elim
def Ux:D->D->Mu->DK->Prop:=fun x y U Q=>match x,y with
 |.v (.bool i),.v (.bool j)=>Q (.v (.bool (i==j))) U
 |.v .none,.v .none=>Q (.v (.bool true)) U
 |_,_=>False
end
section
variable {X:Cx}{a b e:Expr}{es:List Expr}{ta tb te:DTE}{t:DTA}{p pos:Pos}{st:Stmt}{rest sts:List Stmt}{td ud:DTS}{tc:DTT}
noncomputable def bM:DTS:=fun Dd ρ U=>Dd.nx ρ U
noncomputable def aP(t u:DTS):DTS:=fun Dd ρ U=>t {Dd with nx:=u Dd} ρ U
noncomputable def aY(te:DTE):DTS:=fun Dd ρ U=>te ρ U Dd.rt
noncomputable def pR(te:DTE):DTS:=fun Dd ρ U=>te ρ U fun _ ac=>Dd.nx ρ ac
noncomputable def cJ(c:DTT)(t u:DTS):DTS:=fun Dd ρ U=>c ρ U fun b ac=>if b=true then t Dd ρ ac else u Dd ρ ac
theorem aU:DSs X [] bM:=⟨_,NL,fun Z H ρ U Dd De S h k1 k2 k3 k4=>k1 Z ρ U H .refl S h⟩
theorem aq(h:DS X st td):DSs X [st] td:=let ⟨t,p,l⟩:=h;⟨t,N4 p,l⟩
theorem lift_seq{K:PySem.W.Frag}{t u:TS}(l1:Bu K t td)(l2:Bu K u ud):Bu K (SD t u) (aP td ud):=by
 intro Z H ρ U Dd De S h k1 k2 k3 k4
 refine l1 Z H ρ U _ _ S h (fun am bi Y H' e' S' h'=>?_) k2 k3 k4
 exact l2 am H' bi Y Dd De S' h' (fun a b c d e2=>k1 a b c d (e'.trans e2)) (fun a b c d e2=>k2 a b c d (e'.trans e2)) (fun a b c d e2=>k3 a b c d (e'.trans e2)) (fun a b c d e2=>k4 a b c d (e'.trans e2))
theorem ak(h1:DS X st td)(h2:DSs X rest ud):DSs X (st::rest) (aP td ud):=by
 obtain⟨t1,p1,l1⟩:=h1
 obtain⟨t2,p2,l2⟩:=h2
 exact⟨_,Ek p1 p2,lift_seq l1 l2⟩
theorem aD(he:DE X e te):DS X (.Return (some e) pos) (aY te):=by
 obtain⟨t1,p1,l1⟩:=he
 exact⟨_,Qj p1,fun Z H ρ U Dd De S h k1 k2 k3 k4=>l1 Z H ρ U _ _ S h fun d u Y H' e' S' r q=>k2 d u Y H' e' S'.mu r q⟩
theorem kd(he:DE X e te)(hs:swapsWith e none pos.line X.env=pure false:=by rfl):DS X (.Expr e pos) (pR te):=by
 obtain⟨t1,p1,l1⟩:=he
 exact⟨_,Iy p1 hs,fun Z H ρ U Dd De S h k1 k2 k3 k4=>l1 Z H ρ U _ _ S h fun d u Y H' e' S' r q=>k1 Z ρ Y H' e' S' q⟩
theorem bI{c:Expr}{x y:List Stmt}(hc:DT X c tc)(ha:DSs X x td)(hb:DSs X y ud):DS X (.If c x y pos) (cJ tc td ud):=by
 obtain⟨t0,p0,l0⟩:=hc
 obtain⟨t1,p1,l1⟩:=ha
 obtain⟨t2,p2,l2⟩:=hb
 refine⟨_,Pf p0 p1 p2,fun Z H ρ U Dd De S h k1 k2 k3 k4=>?_⟩
 refine l0 Z H ρ U _ _ S h fun c ac H1 e1 S1 h1=>?_
 cases c with
 |true=>exact A5 (l1 Z H1 ρ ac Dd De S1 (by simpa using h1) (fun a b c d e2=>k1 a b c d (e1.trans e2)) (fun a b c d e2=>k2 a b c d (e1.trans e2)) (fun a b c d e2=>k3 a b c d (e1.trans e2)) (fun a b c d e2=>k4 a b c d (e1.trans e2)))
 |false=>exact AE (l2 Z H1 ρ ac Dd De S1 (by simpa using h1) (fun a b c d e2=>k1 a b c d (e1.trans e2)) (fun a b c d e2=>k2 a b c d (e1.trans e2)) (fun a b c d e2=>k3 a b c d (e1.trans e2)) (fun a b c d e2=>k4 a b c d (e1.trans e2)))
abbrev DTG:=D->Rho->Mu->(Rho->Mu->Prop)->Prop
abbrev Aw:=List PyData->Rho->Mu->(Rho->Mu->Prop)->Prop
noncomputable def L4(K:PySem.W.Frag)(g:TG)(gd:DTG):Prop:=∀(Z:St) (H:Hp) (ρ:Rho) (U:Mu) (d:D) (u:V) (Qd:Rho->Mu->Prop) (Q:St->Hp->Prop),St0 K H ρ U Z->RpD K U H d u->gd d ρ U Qd ->
 (∀am bi Y H',Ext K U H Y H'->St0 K H' bi Y am->Qd bi Y->Q am H')->g u Z H Q
noncomputable def Qq(K:PySem.W.Frag)(g:TGs)(gd:Aw):Prop:=∀(Z:St) (H:Hp) (ρ:Rho) (U:Mu) (ds:List PyData) (us:List V) (Qd:Rho->Mu->Prop) (Q:St->Hp->Prop),St0 K H ρ U Z->RpL K U H ds us->gd ds ρ U Qd ->
 (∀am bi Y H',Ext K U H Y H'->St0 K H' bi Y am->Qd bi Y->Q am H')->g us Z H Q
noncomputable def DG(X:Cx)(tg:Expr)(gd:DTG):Prop:=∃g,PG X tg g/\L4 X.K g gd
noncomputable def DGs(X:Cx)(tg:List Expr)(gd:Aw):Prop:=∃g,PGs X tg g/\Qq X.K g gd
theorem jX.set{K:PySem.W.Frag}{U:Mu}{H:Hp}{ρ:Rho}{Z:St}{i:Nat}{d:D}{u:V}(r:jX K U H ρ Z)(h:RpD K U H d u):jX K U H (ρ.set i (some d)) (Z.set i (some u)):=by
 refine⟨by rw[length_set,length_set];exact r.1,fun j d' e=>?_⟩
 by_cases hj:i=j
 ·subst hj
  have hl:i<ρ.length:=by
   have:=(List.getElem?_eq_some_iff.mp e).1
   rw[length_set] at this
   exact this
  rw[List.getElem?_set_self hl] at e
  cases e
  exact⟨u,List.getElem?_set_self (by rw[<- r.1];exact hl),h⟩
 ·rw[List.getElem?_set_ne hj] at e
  obtain⟨w,e1,e2⟩:=r.2 j d' e
  exact⟨w,by rw[List.getElem?_set_ne hj];exact e1,e2⟩
noncomputable def az(i:Nat):DTG:=fun d ρ U Q=>Q (ρ.set i (some d)) U
theorem zV{K:PySem.W.Frag}{i:Nat}:L4 K (KL i) (az i):=fun Z H ρ U d u Qd Q S r h k=>k _ _ U H .refl ⟨S.mu,S.rho.set r⟩ h
theorem bX{i:Nat}{x:Str}(hN:X.N.Nodup)(hi:X.N[i]? = some x)(hx:Loc X.env.scope x)(hf:X.fn x=true\/X.env.scope.names.lookup x=some .local:=by first|exact .inl rfl|exact .inr rfl|assumption):DG X (.Name x pos) (az i):=⟨_,NZ hN hi hx hf,zV⟩
def uQ:Aw:=fun ds ρ U Q=>match ds with
 |[]=>Q ρ U
 |_=>False
def eY(g:DTG)(gs:Aw):Aw:=fun ds ρ U Q=>match ds with
 |d::r=>g (.v d) ρ U fun po ac=>gs r po ac Q
 |_=>False
theorem qS:DGs X [] uQ:=⟨_,NK,fun Z H ρ U ds us Qd Q S r h k=>by
 cases r with
 |nil=>exact⟨rfl,k Z ρ U H .refl S h⟩
 |cons _ _=>exact h.elim⟩
theorem d6{g:DTG}{gs:Aw}(h1:DG X e g)(h2:DGs X es gs)(hs:(assignEach (e::es) X.env).map (·.2)=assign e X.env::(assignEach es X.env).map (·.2):=by rfl):DGs X (e::es) (eY g gs):=by
 obtain⟨t1,p1,l1⟩:=h1
 obtain⟨t2,p2,l2⟩:=h2
 refine⟨_,Mf p1 p2 hs,fun Z H ρ U ds us Qd Q S r h k=>?_⟩
 cases r with
 |nil=>exact h.elim
 |@cons d u ds us r1 r2=>
  refine⟨u,us,rfl,l1 Z H ρ U (.v d) u _ _ S r1 h fun am bi Y H' e1 S' h1=>?_⟩
  exact l2 am H' bi Y ds us _ _ S' (r2.ext S.mu e1) h1 fun a b c d e2=>k a b c d (e1.trans e2)
noncomputable def rM(n:Nat)(gs:Aw):DTG:=fun d ρ U Q=>match d with
 |.v (.tuple xs)=>xs.length=n/\gs xs ρ U Q
 |_=>False
theorem wm{k n:Nat}{gs:Aw}(hc:X.calm=X.calm)(h:DGs X es gs)
  (hn:(assignEach es X.env).length=n:=by rfl) (hst:(assignEach es X.env).findIdx? (·.1)=none:=by rfl):DG X (.Tuple es k pos) (rM n gs):=by
 obtain⟨t1,p1,l1⟩:=h
 refine⟨_,Rm hc p1 hn hst,fun Z H ρ U d u Qd Q S r h k=>?_⟩
 unfold rM at h
 split at h
 ·cases r with
  |@tuple a us _ ha ra=>exact⟨a,us,rfl,ha,by rw[<- ra.length];exact h.1,l1 Z H ρ U _ us _ _ S ra h.2 k⟩
 ·exact h.elim
noncomputable def D5(to ti:DTE):DTG:=fun d ρ U Q=>to ρ U fun o ac=>ti ρ ac fun i ad=>match o,i,d with
 |.m l,.v (.int k),.v x=>(match ad l with
  |some xs=>(match ixN xs.length k with
   |some j=>Q ρ (aR ad l (xs.set j x))
   |none=>False)
  |none=>False)
 |_,_,_=>False
theorem GD{o i:Expr}{to ti:DTE}(ho:DE X o to)(hi:DE X i ti)
  (ha:∀v,assign (.Subscript o i pos) X.env v=(do
   let ov <- holding [v] (eval o X.env)
   let iv <- holding [v,ov] (eval i X.env)
   standAt pos
   holding [v,ov,iv] (setItem ov iv v)
   release [v,ov,iv] []):=by intro _;rfl):DG X (.Subscript o i pos) (D5 to ti):=by
 obtain⟨t1,p1,l1⟩:=ho
 obtain⟨t2,p2,l2⟩:=hi
 refine⟨_,Q4 p1 p2 set_list ha,fun Z H ρ U d u Qd Q S r h k=>?_⟩
 refine l1 Z H ρ U _ _ S h fun x ux ac H1 e1 S1 rx h1=>?_
 refine l2 Z H1 ρ ac _ _ S1 h1 fun y uy ad H2 e2 S2 ry h2=>?_
 have r2:=(r.ext S.mu e1).ext S1.mu e2
 have rx2:=rx.ext S1.mu e2
 split at h2
 ·rename_i l kk xv
  obtain⟨rfl,ds,hm⟩:=rx2
  cases ry
  rw[hm] at h2
  obtain⟨us,hl,rl⟩:=S2.mu l ds hm
  simp only at h2
  cases q:ixN ds.length kk with
  |none=>rw[q] at h2;exact h2.elim
  |some j=>
   rw[q] at h2
   refine⟨l,us,kk,j,rfl,rfl,hl,by rw[<- rl.length];exact q,?_⟩
   have ex:Ext X.K ad H2 (aR ad l (ds.set j xv)) (upd H2 l (.lst (us.set j u))):=qT hm
   exact k Z ρ _ _ (e1.trans (e2.trans ex)) ⟨S2.mu.set hm (rl.set r2 j),S2.rho.ext S2.mu ex⟩ h2
 ·exact h2.elim
noncomputable def bA(te:DTE)(g:DTG):DTS:=fun Dd ρ U=>te ρ U fun d ac=>g d ρ ac Dd.nx
theorem EO{K:PySem.W.Frag}{t:TE}{g:TG}{gd:DTG}(l1:vg K t te)(l2:L4 K g gd):Bu K (Qn t g) (bA te gd):=by
 intro Z H ρ U Dd De S h k1 k2 k3 k4
 refine l1 Z H ρ U _ _ S h fun d u ac H1 e1 S1 r h1=>?_
 exact l2 Z H1 ρ ac d u _ _ S1 r h1 fun a b c d e2=>k1 a b c d (e1.trans e2)
theorem yE{tg:Expr}{g:DTG}(he:DE X e te)(hg:DG X tg g)(hs:swapsWithSole [tg] e pos.line X.env=pure false:=by rfl)(hw:swappedStores [tg] e X.env=pure none:=by rfl)
  (h1:(assignEach [tg] X.env).map (·.2)=[assign tg X.env]:=by rfl):DS X (.Assign [tg] e pos) (bA te g):=by
 obtain⟨t1,p1,l1⟩:=he
 obtain⟨t2,p2,l2⟩:=hg
 exact⟨_,Qk p1 p2 hs hw h1,EO l1 l2⟩
theorem aN{i:Nat}{x:Str}{pos':Pos}(hN:X.N.Nodup)(hi:X.N[i]? = some x)(hx:Loc X.env.scope x)(he:DE X e te)(hs:swapsWith e (some (.Name x pos')) pos.line X.env=pure false:=by rfl)(hf:X.fn x=true\/X.env.scope.names.lookup x=some .local:=by first|exact .inl rfl|exact .inr rfl|assumption) :
  DS X (.Assign [.Name x pos'] e pos) (bA te (az i)):=by
 obtain⟨t1,p1,l1⟩:=he
 exact⟨_,Qz hN hi hx p1 hs hf,EO l1 zV⟩
noncomputable def AX(i j:Nat)(t:DTA):DTS:=fun Dd ρ U=>t ρ U fun ds ac=>match ds with
 |[v,w]=>Dd.nx ((ρ.set i (some v)).set j (some w)) ac
 |_=>False
theorem pS{i j:Nat}{x y:Str}{a b:Expr}{t:DTA}{px py pt:Pos}{kt k2 pt2}(hc:X.calm=true)(hN:X.N.Nodup)(hi:X.N[i]? = some x)(hj:X.N[j]? = some y)(hij:i≠j)
  (hx:X.env.scope.names.lookup x=some .local) (hy:X.env.scope.names.lookup y=some .local) (ha:DA X [a,b] t)
  (hw:swappedStores [.Tuple [.Name x px,.Name y py] kt pt] (.Tuple [a,b] k2 pt2) X.env=pure (some [x,y]))
  (hs:swapsWithSole [.Tuple [.Name x px,.Name y py] kt pt] (.Tuple [a,b] k2 pt2) pos.line X.env=pure false:=by rfl) :
  DS X (.Assign [.Tuple [.Name x px,.Name y py] kt pt] (.Tuple [a,b] k2 pt2) pos) (AX i j t):=by
 obtain⟨t1,p1,l1⟩:=ha
 refine⟨_,Pu hc hN hi hj hij hx hy p1 hw hs,fun Z H ρ U Dd De S h k1 k2 k3 k4=>?_⟩
 refine l1 Z H ρ U _ _ S h fun ds us ac H1 e1 S1 rs len h1=>?_
 split at h1
 ·cases rs with
  |cons r1 r2=>
   cases r2 with
   |cons r2 r3=>
    cases r3
    exact⟨_,_,rfl,k1 _ _ ac H1 e1 ⟨S1.mu,(S1.rho.set r1).set r2⟩ h1⟩
 ·exact h1.elim
noncomputable def w4(c:DTT)(tb:DTS):DTS:=fun Dd ρ U=>∃W:Nat->Rho->Mu->Prop,(∃m,W m ρ U)/\∀m ρ U,W m ρ U ->
 c ρ U fun b ac=>if b=true then tb {Dd with nx:=fun bi Y=>∃m',m'<m/\W m' bi Y,ct:=fun bi Y=>∃m',m'<m/\W m' bi Y,bk:=Dd.nx} ρ ac else Dd.nx ρ ac
theorem uL{c:Expr}{body:List Stmt}(hp:PassesOwn (model X.prog X.w) X.A X.env X.xe)(hc:DT X c tc)(hb:DSs X body td):DS X (.While c body [] pos) (w4 tc td):=by
 obtain⟨t0,p0,l0⟩:=hc
 obtain⟨t1,p1,l1⟩:=hb
 refine⟨_,Mb hp p0 p1,fun Z H ρ U Dd De S h k1 k2 k3 k4=>?_⟩
 obtain⟨W,⟨m,w0⟩,turn⟩:=h
 refine⟨fun m am H'=>∃bi Y,Ext X.K U H Y H'/\St0 X.K H' bi Y am/\W m bi Y,⟨m,ρ,U,.refl,S,w0⟩,?_⟩
 rintro m na H1 ⟨po,ac,e1,S1,w1⟩
 refine l0 na H1 po ac _ _ S1 (turn m po ac w1) fun b ad H2 e2 S2 h2=>?_
 cases b with
 |true=>
  refine A5 ⟨fun am H'=>∃m',m'<m/\∃bi Y,Ext X.K U H Y H'/\St0 X.K H' bi Y am/\W m' bi Y,fun am H' ⟨m',hm,q⟩=>⟨m',hm,q⟩,?_⟩
  have nxt:∀am bi Y H',Ext X.K ad H2 Y H'->St0 X.K H' bi Y am->(∃m',m'<m/\W m' bi Y)->∃m',m'<m/\∃bi Y,Ext X.K U H Y H'/\St0 X.K H' bi Y am/\W m' bi Y:=
   fun am bi Y H' e3 S3 ⟨m',hm,q⟩=>⟨m',hm,bi,Y,e1.trans (e2.trans e3),S3,q⟩
  rw[if_pos rfl] at h2
  exact l1 na H2 po ad _ _ S2 h2 nxt (fun a b c d e3=>k2 a b c d (e1.trans (e2.trans e3))) (fun a b c d e3=>k1 a b c d (e1.trans (e2.trans e3))) nxt
 |false=>exact AE (k1 na po ad H2 (e1.trans e2) S2 (by simpa using h2))
abbrev DTI:=Rho->Mu->(List PyData->Mu->Prop)->Prop
noncomputable def Ni(K:PySem.W.Frag)(J:It)(xs:List PyData)(ac:Mu)(H1:Hp):Prop:=∀ad H2,Ext K ac H1 ad H2->cz K ad H2->∀i,(i<xs.length->J.go i H2/\∀x H',J.yld i H2 x H'->∃d,xs[i]? = some d/\D1 H2 H'/\Rp K ad H' d x)/\(i=xs.length->J.stop i H2)
noncomputable def Sy(K:PySem.W.Frag)(wi:TI)(src:DTI):Prop:=∀(Z:St) (H:Hp) (ρ:Rho) (U:Mu) (Qd:List PyData->Mu->Prop) (R:It->Hp->Prop),St0 K H ρ U Z->src ρ U Qd ->
 (∀xs ac H1 J,Ext K U H ac H1->St0 K H1 ρ ac Z->Ni K J xs ac H1->Qd xs ac->R J H1)->wi Z H R
noncomputable def DI(X:Cx)(tg iter:Expr)(src:DTI):Prop:=∃wi,PI X tg iter wi/\Sy X.K wi src
variable {tg:Expr}
noncomputable def oK(te:DTE):DTI:=fun ρ U Q=>te ρ U fun d ac=>match d with
 |.v (.list xs)=>Q xs ac
 |_=>False
noncomputable def xE(te:DTE):DTI:=fun ρ U Q=>te ρ U fun d ac=>match d with
 |.v (.tuple xs)=>Q xs ac
 |_=>False
theorem qW(h:DE X e te):DI X tg e (oK te):=by
 obtain⟨t1,p1,l1⟩:=h
 refine⟨_,Oh p1,fun Z H ρ U Qd R S h k=>?_⟩
 refine l1 Z H ρ U _ _ S h fun d u ac H1 e1 S1 r h1=>?_
 split at h1
 ·rename_i xs
  cases r with
  |@list a us _ ha hn ra=>
   refine⟨a,rfl,⟨us,SqL.of ha⟩,k xs ac H1 _ e1 S1 (fun ad H2 e2 ok2 i=>⟨fun hi=>?_,fun hi=>?_⟩) h1⟩
   ·have ha2:=e2.keep _ _ ha hn trivial
    have hiu:i<us.length:=by rw[<- ra.length];exact hi
    refine⟨⟨us,us[i],SqL.of ha2,by simp[hiu]⟩,fun x H' ⟨eH,hx⟩=>?_⟩
    subst eH
    obtain⟨u',h1',h2'⟩:=ra.get (i:=i) (d:=xs[i]) (by simp[hi])
    have:=hx us (SqL.of ha2)
    rw[h1'] at this
    cases this
    exact⟨xs[i],by simp[hi],D1.refl _,h2'.ext S1.mu e2⟩
   ·exact⟨us,SqL.of (e2.keep _ _ ha hn trivial),by rw[<- ra.length];omega⟩
 ·exact h1.elim
theorem vI(h:DE X e te):DI X tg e (xE te):=by
 obtain⟨t1,p1,l1⟩:=h
 refine⟨_,RM p1,fun Z H ρ U Qd R S h k=>?_⟩
 refine l1 Z H ρ U _ _ S h fun d u ac H1 e1 S1 r h1=>?_
 split at h1
 ·rename_i xs
  cases r with
  |@tuple a us _ ha ra=>
   refine⟨a,rfl,⟨us,ha⟩,k xs ac H1 _ e1 S1 (fun ad H2 e2 ok2 i=>⟨fun hi=>?_,fun hi=>?_⟩) h1⟩
   ·have ha2:=Cz S1.mu e2 ha
    have hiu:i<us.length:=by rw[<- ra.length];exact hi
    refine⟨⟨us,us[i],ha2,by simp[hiu]⟩,fun x H' ⟨eH,hx⟩=>?_⟩
    subst eH
    obtain⟨u',h1',h2'⟩:=ra.get (i:=i) (d:=xs[i]) (by simp[hi])
    have:=hx us ha2
    rw[h1'] at this
    cases this
    exact⟨xs[i],by simp[hi],D1.refl _,h2'.ext S1.mu e2⟩
   ·exact⟨us,Cz S1.mu e2 ha,by rw[<- ra.length];omega⟩
 ·exact h1.elim
def pU(lo:Int)(n:Nat):List PyData:=(List.range n).map fun (i:Nat)=>PyData.int (lo+(i:Int))
theorem L1{K:PySem.W.Frag}{lo:Int}{n:Nat}{U:Mu}{H:Hp}:Ni K (Itr lo n) (pU lo n) U H:=fun ad H2 e2 ok2 i=>by
 have hl:(pU lo n).length=n:=by unfold pU;simp
 refine⟨fun hi=>?_,fun hi=>?_⟩
 ·rw[hl] at hi
  refine⟨hi,fun x H' ⟨eH,hx⟩=>?_⟩
  subst eH hx
  exact⟨.int (lo+i),by unfold pU;simp[hi],D1.refl _,.int _⟩
 ·show n<=i
  omega
noncomputable def DY(t:DTA):DTI:=fun ρ U Q=>t ρ U fun ds ac=>match ds with
 |[.v (.int j)]=>(-(2 ^ 62)<=j/\j<2 ^ 62)/\Q (pU 0 j.toNat) ac
 |_=>False
noncomputable def Hf(t:DTA):DTI:=fun ρ U Q=>t ρ U fun ds ac=>match ds with
 |[.v (.int i),.v (.int j)]=>(-(2 ^ 62)<=i/\i<2 ^ 62/\-(2 ^ 62)<=j/\j<2 ^ 62)/\Q (pU i (j-i).toNat) ac
 |_=>False
theorem IH{a:Expr}{t:DTA}{p pos:Pos}(hg:Gl X "range")(hm:X.mg "range"=none)(ha:DA X [a] t)(hs:starEach [a] X.env=[(false,eval a X.env)]:=by rfl)(hc:X.calm=true:=by rfl):DI X tg (.Call (.Name "range" p) [a] [] pos) (DY t):=by
 obtain⟨t1,p1,l1⟩:=ha
 refine⟨_,JS hc hg hm p1 hs,fun Z H ρ U Qd R S h k=>?_⟩
 refine l1 Z H ρ U _ _ S h fun ds us ac H1 e1 S1 rs len h1=>?_
 split at h1
 ·rename_i j
  cases rs with
  |cons r1 r2=>cases r2;cases r1;exact⟨j,rfl,h1.1.1,h1.1.2,k _ ac H1 _ e1 S1 L1 h1.2⟩
 ·exact h1.elim
theorem Nb{a b:Expr}{t:DTA}{p pos:Pos}(hg:Gl X "range")(hm:X.mg "range"=none)(ha:DA X [a,b] t)(hs:starEach [a,b] X.env=[(false,eval a X.env),(false,eval b X.env)]:=by rfl)(hs2:starEach [b] X.env=[(false,eval b X.env)]:=by rfl)(hc:X.calm=true:=by rfl):DI X tg (.Call (.Name "range" p) [a,b] [] pos) (Hf t):=by
 obtain⟨t1,p1,l1⟩:=ha
 refine⟨_,JA hc hg hm p1 hs hs2,fun Z H ρ U Qd R S h k=>?_⟩
 refine l1 Z H ρ U _ _ S h fun ds us ac H1 e1 S1 rs len h1=>?_
 split at h1
 ·rename_i i j
  cases rs with
  |cons r1 r2=>
   cases r2 with
   |cons r2 r3=>cases r3;cases r1;cases r2;exact⟨i,j,rfl,h1.1,k _ ac H1 _ e1 S1 L1 h1.2⟩
 ·exact h1.elim
noncomputable def Jo(src:DTI)(g:DTG)(tb:DTS):DTS:=fun Dd ρ U=>src ρ U fun xs ac=>∃Pv:Nat->Rho->Mu->Prop,Pv 0 ρ ac /\
 (∀i x bi Y,xs[i]? = some x->Pv i bi Y->g (.v x) bi Y fun em ad=>tb {Dd with nx:=Pv (i+1),ct:=Pv (i+1),bk:=Dd.nx} em ad)/\(∀bi Y,Pv xs.length bi Y->Dd.nx bi Y)
theorem CZ{iter:Expr}{body:List Stmt}{src:DTI}{g:DTG}(hp:PassesOwn (model X.prog X.w) X.A X.env X.xe)(hc:X.calm=true)(hi:DI X tg iter src)(hg:DG X tg g)(hb:DSs X body td)
  (hs:∀x,foldedSetIterable iter X.env x=pure x:=by intro _;rfl):DS X (.For tg iter body [] pos) (Jo src g td):=by
 obtain⟨t0,p0,l0⟩:=hi
 obtain⟨t1,p1,l1⟩:=hg
 obtain⟨t2,p2,l2⟩:=hb
 refine⟨_,RL hp hc p0 p1 p2 hs,fun Z H ρ U Dd De S h k1 k2 k3 k4=>?_⟩
 refine l0 Z H ρ U _ _ S h fun xs ac H1 J e1 S1 it h1=>?_
 obtain⟨Pv,pv0,turn,fin⟩:=h1
 refine⟨fun i m am H'=>m=xs.length-i/\i<=xs.length/\∃bi Y,Ext X.K ac H1 Y H'/\St0 X.K H' bi Y am/\Pv i bi Y,⟨xs.length,by simp,zero_le _,ρ,ac,.refl,S1,pv0⟩,?_⟩
 rintro i m am H' ⟨rfl,hi,bi,Y,e2,S2,pv⟩
 obtain⟨go,stop⟩:=it Y H' e2 S2.mu i
 by_cases hlt:i<xs.length
 ·obtain⟨g1,y1⟩:=go hlt
  refine .inr ⟨g1,fun tt H2=>∃em ad,Ext X.K ac H1 ad H2/\St0 X.K H2 em ad tt/\Pv (i+1) em ad,fun tt H2 q=>⟨xs.length-(i+1),∅,rfl,hlt,q⟩,fun x H2 yl=>?_⟩
  obtain⟨d,hd,sm,rd⟩:=y1 x H2 yl
  have e3:Ext X.K Y H' Y H2:=.of_same sm
  have S3:St0 X.K H2 bi Y am:=⟨S2.mu.Ol e3 sm,S2.rho.ext S2.mu e3⟩
  refine l1 am H2 bi Y (.v d) x _ _ S3 rd (turn i d bi Y hd pv) fun x' wT dL H4 e4 S4 h4=>?_
  have nxt:∀a b c dd,Ext X.K dL H4 c dd->St0 X.K dd b c a->Pv (i+1) b c->∃em ad,Ext X.K ac H1 ad dd/\St0 X.K dd em ad a/\Pv (i+1) em ad:=fun a b c dd e5 S5 q=>⟨b,c,e2.trans (e3.trans (e4.trans e5)),S5,q⟩
  have ee:=e1.trans (e2.trans (e3.trans e4))
  exact l2 x' H4 wT dL _ _ S4 h4 nxt (fun a b c d e5=>k2 a b c d (ee.trans e5)) (fun a b c d e5=>k1 a b c d (ee.trans e5)) nxt
 ·have ei:i=xs.length:=by omega
  subst ei
  exact .inl ⟨stop rfl,k1 am bi Y H' (e1.trans e2) S2 (fin bi Y pv)⟩
end
abbrev DSp:=List D->Mu->DK->Prop
noncomputable def spD(K:PySem.W.Frag)(dsp:DSp):Sp:=fun vs H Q _=>∃(ds:List D) (U:Mu) (Qd:DK),cz K U H/\lA K U H ds vs/\dsp ds U Qd /\
 (∀d u Y H',Ext K U H Y H'->cz K Y H'->RpD K Y H' d u->Qd d Y->Q u H')
def aO(N:List Str)(ds:List D):Rho:=ds.map some++List.replicate (N.length-ds.length) none
theorem lA.get{K:PySem.W.Frag}{U:Mu}{H:Hp}{ds:List D}{us:List V}:∀{i:Nat} {d:D},lA K U H ds us->ds[i]? = some d->∃u,us[i]? = some u/\RpD K U H d u
 |_,_,.nil,h=>by simp at h
 |0,_,.cons r _,h=>by simp at h;subst h;exact⟨_,rfl,r⟩
 |i+1,d,.cons _ t,h=>by
  obtain⟨u,h1,h2⟩:=lA.get (i:=i) (d:=d) t (by simpa using h)
  exact⟨u,by simpa using h1,h2⟩
theorem wL{K:PySem.W.Frag}{U:Mu}{H:Hp}{N:List Str}{ds:List D}{vs:List V}(r:lA K U H ds vs):jX K U H (aO N ds) (start N vs):=by
 have hl:=r.length
 refine⟨by unfold aO start;simp[hl],fun i d e=>?_⟩
 unfold aO at e
 by_cases hi:i<ds.length
 ·rw[List.getElem?_append_left (by simpa using hi),getElem?_map] at e
  unfold start
  rw[List.getElem?_append_left (by simpa [hl] using hi),getElem?_map]
  cases q:ds[i]? with
  |none=>rw[q] at e;cases e
  |some d'=>
   rw[q] at e
   cases e
   obtain⟨u,h1,h2⟩:=r.get q
   exact⟨u,by rw[h1];rfl,h2⟩
 ·rw[List.getElem?_append_right (by simpa using hi),List.getElem?_replicate] at e
  split at e<;>cases e
section
variable {P:Program}{w:World}{K:PySem.W.Frag}{mg:Str->Option Value}{base:Heap}
theorem _root_.L2.Fun.okD{x qual:Str}{st:Stmt}{f:Addr}{fd:FuncData}{N ps:List Str}{k:Nat}{dsp:DSp}(F:Fun K x qual st f fd)(S:aG N ps (ax st))(len:∀ds U Q,dsp ds U Q->ds.length=ps.length)
  (hbody:∀(cdv:Value) (A:Around) (outer:List Env) (s:Shared) (H:Hp) (E:XK),g8 k (A.deeper (envOfC qual (ax st) s.heap.objs.size f cdv)) ->
   ∃td,DSs (lY CX0 P w K mg base N qual (ax st) f cdv A outer s H E).nox (fw st) td/\∀ds U Qd,dsp ds U Qd->td {nx:=fun _ Y=>Qd (.v .none) Y,rt:=Qd} (aO N ds) U):bz P w K mg base CX0 (k+1) f fd ps (spD K dsp):=by
 refine F.ok S (fun vs H Q E h=>?_) (fun cdv A outer s H vs Q E hr h=>?_)
 ·obtain⟨ds,U,Qd,_,r,h,_⟩:=h
  rw[<- r.length]
  exact len ds U Qd h
 ·obtain⟨ds,U,Qd,ok,r,h,fin⟩:=h
  obtain⟨td,⟨t,p,l⟩,rd⟩:=hbody cdv A outer s H E hr
  refine⟨t,p,?_⟩
  exact l (start N vs) H (aO N ds) U _ _ ⟨ok,wL r⟩ (rd ds U Qd h) (fun am bi Y H' e' S' q=>fin (.v .none) .non Y H' e' S'.mu Rp.none q) (fun d u Y H' e' ok' r' q=>fin d u Y H' e' ok' r' q) (fun _ _ _ _ _ _ q=>q) (fun _ _ _ _ _ _ q=>q)
end
section
variable {X:Cx}{e:Expr}{es:List Expr}{t:DTA}{p pos:Pos}{x:Str}{k:Nat}{f:Addr}{fd:FuncData}{ps:List Str}{dsp:DSp}
noncomputable def au(dsp:DSp)(t:DTA):DTE:=fun ρ U Q=>t ρ U fun ds ac=>dsp ds ac Q
theorem ai(F:bz X.prog X.w X.K X.mg X.base CX0 k f fd ps (spD X.K dsp))(hr:g8 k X.A)(hg:Gl X x)(hm:X.mg x=some (.ref f))(hk:keepIn X.K (.ref f)=true)(hb:Binds X.K fd ps [])
  (ha:DA X (e::es) t) (hdb:(x==("__debug__":Str))=false:=by decide) (he:starEach (e::es) X.env=(false,eval e X.env)::starEach es X.env:=by rfl) (hpl:(backTo pos (starEach es X.env)).any (·.1)=false:=by rfl) :
  DE X (.Call (.Name x p) (e::es) [] pos) (au dsp t):=by
 obtain⟨t1,p1,l1⟩:=ha
 refine⟨_,IJ F hr hg hm hk hb .nil SY p1 hdb he hpl,fun Z H ρ U Qd Q S h kk=>?_⟩
 refine l1 Z H ρ U _ _ S h fun ds us ac H1 e1 S1 rs len h1=>?_
 refine⟨ds,ac,Qd,S1.mu,by rw[append_nil];exact rs,h1,fun d u Y H' e2 ok r q=>?_⟩
 exact kk d u Y H' (e1.trans e2) ⟨ok,S1.rho.ext S1.mu e2⟩ r q
end
section
variable {X:Cx}{o e:Expr}{to te:DTE}{apos cpos:Pos}
noncomputable def Jg(to te:DTE):DTE:=fun ρ U Q=>to ρ U fun x ac=>match x with
 |.m l=>te ρ ac fun y ad=>(match y,ad l with
  |.v d,some xs=>xs.length<1000/\Q (.v .none) (aR ad l (xs++[d]))
  |_,_=>False)
 |_=>False
theorem v7(ho:DE X o to)(ha:DE X e te)(hbase:attributeBase o "append" X.env (eval o X.env)=eval o X.env:=by rfl)
  (hfew:((backTo cpos (starEach [e] X.env)).all (fun x=>!x.1)&&(backToKw cpos (keywordEach [] X.env)).all (fun x=>x.1.isSome)
   && decide ([e].length+([]:List Keyword).length+(if ([]:List Keyword).isEmpty then 0 else 1)<30))=true:=by rfl)
  (hline:(apos.endLine==cpos.line)=true:=by rfl) (hs:starEach [e] X.env=(false,eval e X.env)::starEach [] X.env:=by rfl) (hplain:(backTo cpos (starEach [] X.env)).any (·.1)=false:=by rfl) :
  DE X (.Call (.Attribute o "append" apos) [e] [] cpos) (Jg to te):=by
 obtain⟨t1,p1,l1⟩:=ho
 obtain⟨t2,p2,l2⟩:=ha
 refine⟨_,OP PySem.F.plainAttrs_list PySem.F.slot_list_append PySem.F.type_list_append vF p1 (eP p2 oH hs) hbase hfew hline hs hplain,fun Z H ρ U Qd Q S h k=>?_⟩
 refine l1 Z H ρ U _ _ S h fun x ux ac H1 e1 S1 rx h1=>?_
 cases x with
 |m l=>
  obtain⟨rfl,ds,hm⟩:=id rx
  obtain⟨us,hl,rl⟩:=S1.mu l ds hm
  refine⟨.inl ⟨rfl,us,SqL.of hl⟩,?_⟩
  refine l2 Z H1 ρ ac _ _ S1 h1 fun y uy ad H2 e2 S2 ry h2=>?_
  obtain⟨_,ds2,hm2⟩:=rx.ext S1.mu e2
  obtain⟨us2,hl2,rl2⟩:=S2.mu l ds2 hm2
  rw[hm2] at h2
  cases y with
  |v d=>
   have h3:ds2.length<1000/\Qd (.v .none) (aR ad l (ds2++[d])):=h2
   refine⟨l,us2,uy,rfl,rfl,hl2,by rw[<- rl2.length];exact jt (Nat.le_of_lt h3.1),?_⟩
   have ex:Ext X.K ad H2 (aR ad l (ds2++[d])) (upd H2 l (.lst (us2++[uy]))):=qT hm2
   exact k (.v .none) .non _ _ (e1.trans (e2.trans ex)) ⟨S2.mu.set hm2 (rl2.append (.cons ry .nil)),S2.rho.ext S2.mu ex⟩ Rp.none h3.2
  |m _=>exact h2.elim
  |s _=>exact h2.elim
  |o _=>exact h2.elim
  |q _=>exact h2.elim
 |v d=>exact h1.elim
 |s ns=>exact h1.elim
 |o _=>exact h1.elim
 |q _=>exact h1.elim
noncomputable def QD(to te:DTE):DTE:=fun ρ U Q=>to ρ U fun x ac=>match x with
 |.m l=>te ρ ac fun y ad=>(match y,ad l with
  |.v (.list ys),some xs=>xs.length+ys.length<=1000/\Q (.v .none) (aR ad l (xs++ys))
  |_,_=>False)
 |_=>False
theorem Jn(ho:DE X o to)(ha:DE X e te)(hbase:attributeBase o "extend" X.env (eval o X.env)=eval o X.env:=by rfl)
  (hfew:((backTo cpos (starEach [e] X.env)).all (fun x=>!x.1)&&(backToKw cpos (keywordEach [] X.env)).all (fun x=>x.1.isSome)
   && decide ([e].length+([]:List Keyword).length+(if ([]:List Keyword).isEmpty then 0 else 1)<30))=true:=by rfl)
  (hline:(apos.endLine==cpos.line)=true:=by rfl) (hs:starEach [e] X.env=(false,eval e X.env)::starEach [] X.env:=by rfl) (hplain:(backTo cpos (starEach [] X.env)).any (·.1)=false:=by rfl) :
  DE X (.Call (.Attribute o "extend" apos) [e] [] cpos) (QD to te):=by
 obtain⟨t1,p1,l1⟩:=ho
 obtain⟨t2,p2,l2⟩:=ha
 refine⟨_,OP PySem.F.plainAttrs_list PySem.F.slot_list_extend PySem.F.type_list_extend Jd p1 (eP p2 oH hs) hbase hfew hline hs hplain,fun Z H ρ U Qd Q S h k=>?_⟩
 refine l1 Z H ρ U _ _ S h fun x ux ac H1 e1 S1 rx h1=>?_
 cases x with
 |m l=>
  obtain⟨rfl,ds,hm⟩:=id rx
  obtain⟨us,hl,rl⟩:=S1.mu l ds hm
  refine⟨.inl ⟨rfl,us,SqL.of hl⟩,?_⟩
  refine l2 Z H1 ρ ac _ _ S1 h1 fun y uy ad H2 e2 S2 ry h2=>?_
  obtain⟨_,ds2,hm2⟩:=rx.ext S1.mu e2
  obtain⟨us2,hl2,rl2⟩:=S2.mu l ds2 hm2
  rw[hm2] at h2
  cases y with
  |v d=>
   cases d with
   |list ys=>
    have h3:ds2.length+ys.length<=1000/\Qd (.v .none) (aR ad l (ds2++ys)):=h2
    cases ry with
    |@list b ws _ hb hn rb=>
     refine⟨l,b,us2,ws,rfl,rfl,hl2,hb,yu (by rw[<- rl2.length,<- rb.length];exact h3.1),?_⟩
     have ex:Ext X.K ad H2 (aR ad l (ds2++ys)) (upd H2 l (.lst (us2++ws))):=qT hm2
     exact k (.v .none) .non _ _ (e1.trans (e2.trans ex)) ⟨S2.mu.set hm2 (rl2.append rb),S2.rho.ext S2.mu ex⟩ Rp.none h3.2
   |_=>exact h2.elim
  |m _=>exact h2.elim
  |s _=>exact h2.elim
  |o _=>exact h2.elim
  |q _=>exact h2.elim
 |v d=>exact h1.elim
 |s ns=>exact h1.elim
 |o _=>exact h1.elim
 |q _=>exact h1.elim
noncomputable def Us(to:DTE):DTE:=fun ρ U Q=>to ρ U fun x ac=>match x with
 |.v (.int i)=>Q (.v (.int (Builtin.Int.intBits i:Nat))) ac
 |_=>False
end
theorem lI{prog:Program}{w:World}{A:Around}{R:Result->Shared->Prop}{s:Shared}{elt target iter:Expr}{ifs:List Expr}{scope:Scope}{pos:Pos}{it acc:Value}{env:Env}(I:Nat->Shared->Prop)
  (turn:∀n s,I n s->wpAny (model prog w) A (pyNext it) (fun r ce=>match r with
   |none=>R (.ok .next) ce
   |some v=>wpAny (model prog w) A (letOwnedTupleGo target it v) (fun _ s'=>wpAny (model prog w) A (assign target env v) (fun _ ld=>
     wpAny (model prog w) A (forIn ifs true fun c r=>if r=true then do let ok <- isTrue c env (eval c env);pure (ForInStep.yield ok) else pure (ForInStep.yield r)) (fun ok ge=>
      if ok=true then wpAny (model prog w) A (eval elt env) (fun x tv=>
       wpAny (model prog w) A (call (.builtin "list.append") [acc,x]) (fun _ u8=>∃m,m<n/\I m u8) (fun _ _=>False) tv) (fun _ _=>False) ge
      else ∃m,m<n/\I m ge) (fun _ _=>False) ld) (fun _ _=>False) s') (fun _ _=>False) ce) (fun _ _=>False) s)
  (n:Nat) (h:I n s) :
  codeAny (model prog w) A (.compLoop (.ListComp elt [⟨target,iter,ifs,0⟩] scope pos) 0 it acc env) R s:=by
 refine codeAny_loop rfl I (fun n s hI=>?_) n h
 show wpAny _ A ((compTurn (.ListComp elt [⟨target,iter,ifs,0⟩] scope pos) 0 it acc env).onRaise (fun x=>do noteFrame x env;theTreesLotGoes x)) _ _ s
 refine wpAny_noted ?_
 rw[compTurn_list]
 refine wpAny_bind (wpAny_standAt (wpAny_bind (wpAny_mono (turn n s hI) (fun r ce gV=>?_) fun _ _ h'=>h'.elim)))
 cases r with
 |none=>exact wpAny_pure gV
 |some v=>
  refine wpAny_bind (wpAny_mono gV (fun _ s' h'=>?_) fun _ _ h'=>h'.elim)
  refine wpAny_bind (wpAny_mono h' (fun _ ld sK=>wpAny_bind (wpAny_mono sK (fun ok ge ut=>?_) fun _ _ h'=>h'.elim)) fun _ _ h'=>h'.elim)
  cases ok with
  |false=>exact wpAny_pure ⟨rfl,ut⟩
  |true=>
   exact wpAny_bind (wpAny_bind (wpAny_mono ut (fun x tv ww=>wpAny_bind (wpAny_mono ww (fun _ u8 wE=>wpAny_pure (wpAny_pure ⟨rfl,wE⟩)) fun _ _ h'=>h'.elim)) fun _ _ h'=>h'.elim))
section
variable {K:PySem.W.Frag}{U Y:Mu}{H:Hp}
mutual
theorem Rp.shrink{d:PyData}{u:V}(sub:∀a,Y a=none->U a=none):Rp K Y H d u->Rp K U H d u
 |.none=>.none
 |.bool b=>.bool b
 |.int i=>.int i
 |.str x=>.str x
 |.list h n r=>.list h (sub _ n) (RpL.shrink sub r)
 |.tuple h r=>.tuple h (RpL.shrink sub r)
theorem RpL.shrink{ds:List PyData}{us:List V}(sub:∀a,Y a=none->U a=none):RpL K Y H ds us->RpL K U H ds us
 |.nil=>.nil
 |.cons h r=>.cons (Rp.shrink sub h) (RpL.shrink sub r)
end
end
theorem O3{X:Cx}{e:Expr}{td:DTE}(h:∀(pins:List (Addr×Obj)) (s:Shared) (Z:St) (H:Hp) (ρ:Rho) (U:Mu) (Qd:DK) (Q:VK),Inv X pins Z H s->St0 X.K H ρ U Z->td ρ U Qd ->
  (∀d u Y H',Ext X.K U H Y H'->St0 X.K H' ρ Y Z->RpD X.K Y H' d u->Qd d Y->Q u H')->wpAny (model X.prog X.w) X.A (eval e X.env) (EP X pins Z Q) X.xe s):DE X e td:=
 ⟨fun Z H Q=>∃ρ U Qd,St0 X.K H ρ U Z/\td ρ U Qd/\(∀d u Y H',Ext X.K U H Y H'->St0 X.K H' ρ Y Z->RpD X.K Y H' d u->Qd d Y->Q u H'),
  fun pins s Z H Q I ⟨ρ,U,Qd,S,q,k⟩=>h pins s Z H ρ U Qd Q I S q k,fun Z H ρ U Qd Q S q k=>⟨ρ,U,Qd,S,q,k⟩⟩
def bU(X:Cx)(N':List Str)(scope:Scope)(cl:List (Str×Addr))(fp:List Addr)(ge:Shared)(gl:Hp):Cx:=
 {X with N:=N',dl:=ge,H₀:=gl,env:=compEnvC scope cl ge.heap.objs.size X.env,outer:=X.stack,stack:=X.stack,ex:=fp,fn:=fun _=>false,pn:=X.pn,xe:=fun _ _=>False}
def Le:Rho->Rho->Prop
 |[],[]=>True
 |none::r,_::r'=>Le r r'
 |some d::r,some d'::r'=>d=d'/\Le r r'
 |_,_=>False
theorem Le.get:∀{ρ bi:Rho},Le ρ bi->ρ.length=bi.length/\∀(i:Nat) d,ρ[i]? = some (some d)->bi[i]? = some (some d)
 |[],[],_=>⟨rfl,fun _ _ h=>h⟩
 |none::r,x::r',h=>by
  obtain⟨h1,h2⟩:=Le.get (ρ:=r) (bi:=r') h
  refine⟨congrArg (· + 1) h1,fun i d e=>?_⟩
  cases i with
  |zero=>simp at e
  |succ j=>exact h2 j d (by simpa using e)
 |some d::r,some d'::r',h=>by
  obtain⟨rfl,h⟩:=h
  obtain⟨h1,h2⟩:=Le.get (ρ:=r) (bi:=r') h
  refine⟨congrArg (· + 1) h1,fun i d e=>?_⟩
  cases i with
  |zero=>simpa using e
  |succ j=>exact h2 j d (by simpa using e)
 |some d::r,none::r',h=>h.elim
 |[],_::_,h=>h.elim
 |none::_,[],h=>h.elim
 |some _::_,[],h=>h.elim
def dj{α:Type}(cap:List (Option Nat))(ρ:List (Option α)):List (Option α):=cap.map fun o=>o.bind fun j=>(ρ[j]?).join
noncomputable def qH(cap:List (Option Nat))(src:DTI)(g:DTG)(c:DTT)(elt:DTE):DTE:=fun ρ U Q=>src ρ U fun xs ac=>xs.length<=1000/\∃f:PyData->Option PyData,
 (∀x∈xs,∀Y:Mu,(∀a ds,ac a=some ds->Y a=some ds)->g (.v x) (dj cap ρ) Y fun em ad=>Le (dj cap ρ) em/\c em ad fun b db=>
  if b=true then elt em db fun d dL=>dL=Y/\(match d with|.v y=>f x=some y|_=>False) else db=Y/\f x=none)/\Q (.v (.list (xs.filterMap f))) ac
noncomputable def ML(X:Cx)(ifs:List Expr)(c:DTT):Prop:=∀(pins:List (Addr×Obj)) (s:Shared) (Z:St) (H:Hp) (ρ:Rho) (U:Mu) (Qd:Bool->Mu->Prop) (Q:Bool->Hp->Prop),Inv X pins Z H s->St0 X.K H ρ U Z->c ρ U Qd ->
 (∀b Y H',Ext X.K U H Y H'->St0 X.K H' ρ Y Z->Qd b Y->Q b H') ->
 wpAny (model X.prog X.w) X.A (forIn ifs true fun c r=>if r=true then do let ok <- isTrue c X.env (eval c X.env);pure (ForInStep.yield ok) else pure (ForInStep.yield r)) (TP X pins Z Q) X.xe s
noncomputable def qc:DTT:=fun _ U Q=>Q true U
theorem il{X:Cx}:ML X [] qc:=fun pins s Z H ρ U Qd Q I S h k=>wpAny_tests_nil ⟨H,I,k true U H .refl S h⟩
theorem Fn{X:Cx}{c:Expr}{tc:DTT}(h:DT X c tc):ML X [c] tc:=by
 obtain⟨t,p,l⟩:=h
 exact fun pins s Z H ρ U Qd Q I S h k=>wpAny_tests_one (p pins s Z H _ I (l Z H ρ U _ _ S h k))
theorem Un.after{fs ex:List Addr}{H H1:Hp}{h h1 h':Heap}(u:Un fs ex H H1 h h1)(k:∀b o,b<h.objs.size->h1.get? b=some o->h'.get? b=some o):Un fs ex H H1 h h':=
 ⟨fun b o e n hb hx=>k b o (Heap.lt_size e) (u.keep b o e n hb hx),fun b o e n hb hx=>let ⟨sl,q⟩:=u.slot b o e n hb hx;⟨sl,k b _ (Heap.lt_size e) q⟩,u.free,fun b o e hx=>let ⟨o',q⟩:=u.there b o e hx;⟨o',k b _ (Heap.lt_size e) q⟩,u.sF,u.rD,u.rC⟩
theorem u9{α:Type}{cap:List (Option Nat)}{ρ:List (Option α)}{i:Nat}{d:α}(h:(dj cap ρ)[i]? = some (some d)):∃j,cap[i]? = some (some j)/\ρ[j]? = some (some d):=by
 unfold dj at h
 rw[getElem?_map] at h
 cases q:cap[i]? with
 |none=>rw[q] at h;cases h
 |some o=>
  rw[q] at h
  cases o with
  |none=>cases h
  |some j=>
   refine⟨j,rfl,?_⟩
   simp only[map_some,bind_some,Option.some.injEq] at h
   cases z:ρ[j]? with
   |none=>rw[z] at h;cases h
   |some y=>rw[z] at h;simp only[Option.join_some] at h;rw[h]
theorem My{α:Type}{cap:List (Option Nat)}{ρ:List (Option α)}{i j:Nat}{d:α}(h:cap[i]? = some (some j))(e:ρ[j]? = some (some d)):(dj cap ρ)[i]? = some (some d):=by
 unfold dj
 rw[getElem?_map,h]
 simp[e]
theorem jX.cap{K:PySem.W.Frag}{U:Mu}{H:Hp}{ρ:Rho}{Z:St}{cap:List (Option Nat)}(r:jX K U H ρ Z):jX K U H (dj cap ρ) (dj cap Z):=by
 refine⟨by unfold dj;simp,fun i d e=>?_⟩
 obtain⟨j,h1,h2⟩:=u9 e
 obtain⟨u,h3,h4⟩:=r.2 j d h2
 exact⟨u,My h1 h3,h4⟩
theorem jX.le{K:PySem.W.Frag}{U:Mu}{H:Hp}{ρ bi:Rho}{Z:St}(r:jX K U H bi Z)(l:Le ρ bi):jX K U H ρ Z:=
 ⟨l.get.1.trans r.1,fun i d e=>r.2 i d (l.get.2 i d e)⟩
theorem yn{xs:List PyData}{f:PyData->Option PyData}{i:Nat}{d:PyData}(h:xs[i]? = some d):(xs.take (i+1)).filterMap f=(xs.take i).filterMap f++(f d).toList:=by
 obtain⟨hi,e⟩:=List.getElem?_eq_some_iff.mp h
 rw[List.take_succ_eq_append_getElem hi,List.filterMap_append,e]
 cases q:f d<;>simp[q]
theorem j4{X:Cx}{N':List Str}{scope:Scope}{cl:List (Str×Addr)}{elt iter tg:Expr}{ifs:List Expr}{pos:Pos}{cap:List (Option Nat)}{src:DTI}{g:DTG}{c:DTT}{te:DTE}(hc:X.calm=X.calm)
  (hi:DI X tg iter src) (hg:∀fp ge gl,DG (bU X N' scope cl fp ge gl) tg g) (hif:∀fp ge gl,ML (bU X N' scope cl fp ge gl) ifs c) (he:∀fp ge gl,DE (bU X N' scope cl fp ge gl) elt te)
  (hclos:closureFor scope X.env=pure cl) (hcell:∀y∈scope.names,y.2≠.cell) (hkind:scope.kind = .function) (hnames:∀y∈scope.names,y.2 = .local->scope.names.lookup y.1=some .local)
  (hcl:∀x a,cl.lookup x=some a->X.env.cells.lookup x=some a) (hhas:∀x,(relabel scope X.env).names.lookup x=some .cell\/(relabel scope X.env).names.lookup x=some .free->∃a,cl.lookup x=some a)
  (hlen:cap.length=N'.length) (hcap:∀(i j:Nat) (x:Str),cap[i]? = some (some j)->N'[i]? = some x->X.N[j]? = some x/\Vis X.env.scope x/\X.env.kindOf x≠some .local/\((relabel scope X.env).names.lookup x=some .cell\/(relabel scope X.env).names.lookup x=some .free))
  (hs:∀x,foldedSetIterable iter X.env x=pure x:=by intro _;rfl):DE X (.ListComp elt [⟨tg,iter,ifs,0⟩] scope pos) (qH cap src g c te):=by
 refine O3 fun pins s Z H ρ U Qd Q I S h k=>?_
 obtain⟨wi,pw,li⟩:=hi
 rw[eval_ListComp]
 refine wpAny_comprehension_free (use:=none) rfl hs hclos hkind hnames (thn (pw pins s Z H _ I (li Z H ρ U _ (fun J H1=>∃xs ac,Ext X.K U H ac H1/\St0 X.K H1 ρ ac Z/\Ni X.K J xs ac H1/\xs.length<=1000/\∃f:PyData->Option PyData,
   (∀x∈xs,∀Y:Mu,(∀a ds,ac a=some ds->Y a=some ds)->g (.v x) (dj cap ρ) Y fun em ad=>Le (dj cap ρ) em/\c em ad fun b db=>
    if b=true then te em db fun d dL=>dL=Y/\(match d with|.v y=>f x=some y|_=>False) else db=Y/\f x=none)/\Qd (.v (.list (xs.filterMap f))) ac) S h (fun xs ac H1 J e1 S1 it q=>⟨xs,ac,e1,S1,it,q⟩)))
  fun v s1 h1=>thn h1 fun itv s2 h2=>?_)
 obtain⟨it,fp,tn,J,H2,rfl,I2,T,st2,f2,xs,ac,e1,S1,itok,hxs,f,body,fin⟩:=h2
 refine wpAny_newObj_type (wpAny_newFunctionEnv hcell (by intro y hy;simp at hy) (fun gV lf ls=>?_) hkind)
 dsimp only at lf ls ⊢
 have hfree2:H2 s2.heap.objs.size=none:=I2.hok.fresh (Nat.le_refl _)
 have hK2:X.K.lookup s2.heap.objs.size=none:=by
  cases z:X.K.lookup s2.heap.objs.size with
  |none=>rfl
  |some o=>exact absurd (Heap.lt_size (I2.kIn _ _ z)) (lt_irrefl _)
 have I3:Inv X pins Z (upd H2 s2.heap.objs.size (.lst [])) {s2 with heap:=s2.heap.push {cls:=.type "list",dict:=none,data:=.seq ([]:List Value).toArray}}:=
  I2.laid (t':=s2.toks) (fun b u e=>Heap.get?_push_of_some _ e) (Nat.le_refl _) ⟨zero_le _,[],0,.nil,Heap.get?_push_size _ rfl⟩
 generalize hH:s2.heap.push {cls:=.type "list",dict:=none,data:=.seq ([]:List Value).toArray} = hp3 at lf ls I3 ⊢
 have hsz3:hp3.objs.size=s2.heap.objs.size+1:=by rw[<- hH,Heap.size_push]
 have kept3:∀b o,hp3.get? b=some o->gV.get? b=some o:=fun b o e=>ls.extBut b o (ne_of_lt (Heap.lt_size e)) (Heap.get?_push_of_some _ e)
 have old3:∀b o,s2.heap.get? b=some o->hp3.get? b=some o:=fun b o e=>by rw[<- hH];exact Heap.get?_push_of_some _ e
 have fplt:∀b∈fp,b<s2.heap.objs.size:=fun b hb=>by obtain⟨o,e,_⟩:=T.obj 0 _ st2 b hb;exact Heap.lt_size e
 have fpst:∀b∈fp,b ∉ frs X.stack:=fun b hb hz=>by
  rcases List.mem_cons.mp (I2.wz b hz) with e|e
  ·exact (f2 b hb).2.1 e
  ·exact (f2 b hb).2.2.1 e
 obtain⟨s3,hs3⟩:∃s3:Shared,s3={s2 with heap:=hp3}:=⟨_,rfl⟩
 obtain⟨H3,hH3⟩:∃H3:Hp,H3=upd H2 s2.heap.objs.size (.lst []):=⟨_,rfl⟩
 have heap3:s3.heap=hp3:=by rw[hs3]
 rw[<- hH3] at I3
 have I3':Inv X pins Z H3 s3:=by rw[hs3];exact I3
 have hloc:H3 hp3.objs.size=none:=by have:=I3'.hok.fresh (a:=hp3.objs.size) (by rw[heap3];exact Nat.le_refl _);exact this
 have okc:(bU X N' scope cl fp s3 H3).Ok:=by
  refine⟨I3.ok.mod,?_,I3.ok.glob,I3.ok.blt,Nat.le_refl _,fun x y a h1 h2=>I3.ok.inj x y a (hcl x a h1) (hcl y a h2),fun x hx=>hhas x hx,fun x a h=>(nomatch h),I3.ok.hd,I3.ok.qt,I3.ok.frames,.inl rfl,fun b hb=>⟨?_,fun x a h=>(f2 b hb).2.2.2.2.1 x a (hcl x a h)⟩,
   I3'.bs,le_trans I3.ok.bsz I3'.sz,fun b o e hb=>?_,fun b hb=>fpst b hb,I3'.stack,I3'.ye⟩
  ·exact hkind
  ·show b≠s3.heap.objs.size
   rw[heap3,hsz3]
   exact ne_of_lt (Nat.lt_succ_of_lt (fplt b hb))
  ·rcases (f2 b hb).2.2.2.1 with z|z
   ·exact I3.ok.Hm b o e z
   ·exact absurd (lt_of_lt_of_le (Heap.lt_size (I3.ok.bs b o e).1) z) (lt_irrefl _)
 have I4:Inv (bU X N' scope cl fp s3 H3) [] (dj cap Z) H3 {s2 with heap:=gV,toks:=s2.toks+([]:List (Str×Value)).length}:=by
  refine⟨okc,by show s2.os=s3.os;rw[hs3],I3.bare,Un.kept (by show ∀b o,s3.heap.get? b=some o->_;rw[heap3];exact kept3),⟨_,(by show gV.Ns s3.heap.objs.size _;rw[heap3];exact lf),fun i x v e1 e2 e3=>?_⟩,fun x a h=>?_,(by show H3 s3.heap.objs.size=none;rw[heap3];exact hloc),fun x a h=>I3.jY x a (hcl x a h),fun p hp=>?_,I3.hok.kept kept3,?_⟩
  ·obtain⟨j,h1,h2⟩:=u9 e2
   obtain⟨hN,hv,hnl,hk⟩:=hcap i j x h1 e1
   obtain⟨m,_,hl⟩:=I3.loc
   obtain⟨u,r,lk⟩:=hl j x v hN h2 hv
   refine⟨u,r,.inr ⟨hk,?_⟩⟩
   obtain⟨a,ha⟩:=hhas x hk
   rcases lk with ⟨z,_⟩|⟨_,a',z1,z2⟩
   ·exact absurd z hnl
   ·have:a'=a:=by have q:=hcl x a ha;rw[z1] at q;exact Option.some.inj q
    subst this
    obtain⟨o,ho,hd⟩:=z2
    exact⟨a',ha,o,kept3 _ _ ho,hd⟩
  ·obtain⟨v,o,ho,hd⟩:=I3.cell x a (hcl x a h)
   exact⟨v,o,kept3 _ _ ho,hd⟩
  ·have hp':p∈X.pn++pins:=mem_append_left _ (by simpa using (show p∈X.pn++[] from hp))
   obtain⟨z1,z2,z3,z4,z5⟩:=I3'.pin p hp'
   refine⟨kept3 _ _ (by rw[<- heap3];exact z1),z2,(show p.1≠s3.heap.objs.size from ne_of_lt (Heap.lt_size z1)),fun z=>?_,z5⟩
   rcases List.mem_cons.mp (I3'.wz p.1 z) with e|e
   ·exact z3 e
   ·exact z4 e
  ·show (dj cap Z).length=N'.length
   unfold dj
   rw[length_map]
   exact hlen
 have pi:ac s2.heap.objs.size=none:=S1.mu.free hfree2
 have sub1:∀ys a ds,ac a=some ds->aR ac s2.heap.objs.size ys a=some ds:=fun ys a ds e=>by
  have:a≠s2.heap.objs.size:=fun z=>by rw[z,pi] at e;cases e
  rw[bZ this];exact e
 have loop:codeAny (model X.prog X.w) X.A (.compLoop (.ListComp elt [⟨tg,iter,ifs,0⟩] scope pos) 0 (.ref it) (.ref s2.heap.objs.size) (bU X N' scope cl fp s3 H3).env)
   (compPost (model X.prog X.w) X.A X.xe none (EP X pins Z Q) (.ref s2.heap.objs.size) hp3.objs.size) {s2 with heap:=gV,toks:=s2.toks+([]:List (Str×Value)).length}:=by
  refine lI (fun n s'=>∃(i:Nat) (ii:St) (Hc:Hp),n=xs.length-i/\i<=xs.length/\Inv (bU X N' scope cl fp s3 H3) [] ii Hc s'/\tn i s'.heap/\(∀b∈fp,Hc b=none) /\
   St0 X.K Hc (dj cap ρ) (aR ac s2.heap.objs.size ((xs.take i).filterMap f)) ii/\Ext X.K ac H2 (aR ac s2.heap.objs.size ((xs.take i).filterMap f)) Hc) ?_ xs.length
   ⟨0,dj cap Z,H3,by simp,zero_le _,I4,T.keep 0 _ _ st2 (fun b hb o e=>kept3 b o (old3 b o e)),fun b hb=>?_,?_,?_⟩
  ·rintro n s' ⟨i,ii,Hc,rfl,hi,Ic,tc,frc,Sc,Ec⟩
   have stat:∀{Hd:Hp},(∀b∈fp,Hd b=none)->∀b∈fp,Cv (bU X N' scope cl fp s3 H3) [] Hd b:=fun hn b hb=>
    ⟨hn b hb,(okc.exf b hb).1,fpst b hb,.inl hb,fun x a h=>(okc.exf b hb).2 x a h,fun p hp=>(f2 b hb).2.2.2.2.2 p (mem_append_left _ (by simpa using (show p∈X.pn++[] from hp)))⟩
   obtain⟨go,stop⟩:=itok _ Hc Ec Sc.mu i
   by_cases hlt:i<xs.length
   ·obtain⟨g1,y1⟩:=go hlt
    refine thn (T.item (bU X N' scope cl fp s3 H3) rfl rfl rfl (fun z=>z) i [] s' ii Hc (fun _ _=>False) Ic (stat frc) tc g1) fun r s4 ⟨u,hr,h4⟩=>?_
    subst hr
    refine thn h4 fun _ s5 ⟨x,H5,I5,r5,y5,st5,fr5⟩=>?_
    obtain⟨d,hd,sm,rd⟩:=y1 x H5 y5
    have I5':=I5.pinned (stat fr5) (T.obj _ _ st5)
    have e5:Ext X.K _ Hc _ H5:=.of_same (U:=aR ac s2.heap.objs.size ((xs.take i).filterMap f)) sm
    have S5:St0 X.K H5 (dj cap ρ) (aR ac s2.heap.objs.size ((xs.take i).filterMap f)) ii:=⟨Sc.mu.Ol e5 sm,Sc.rho.ext Sc.mu e5⟩
    obtain⟨gt,pg,lg⟩:=hg fp s3 H3
    have hmem:d∈xs:=mem_of_getElem? hd
    refine thn (pg _ s5 ii H5 x u (fun am H'=>∃bi Y,Ext X.K (aR ac s2.heap.objs.size ((xs.take i).filterMap f)) H5 Y H'/\St0 X.K H' bi Y am/\Le (dj cap ρ) bi/\c bi Y fun b db=>
      if b=true then te bi db fun d' dL=>dL=aR ac s2.heap.objs.size ((xs.take i).filterMap f)/\(match d' with|.v y=>f d=some y|_=>False) else db=aR ac s2.heap.objs.size ((xs.take i).filterMap f)/\f d=none) I5' r5
     (lg ii H5 (dj cap ρ) _ (.v d) x _ _ S5 rd (body d hmem _ (sub1 _)) fun am bi Y H' e' S' q=>⟨bi,Y,e',S',q⟩)) fun _ s6 ⟨j',H6,I6,mo,lv,e6,S6,le6,q6⟩=>?_
    refine thn (hif fp s3 H3 _ s6 j' H6 mo lv _ (fun b H'=>∃Y,Ext X.K lv H6 Y H'/\St0 X.K H' mo Y j'/\if b=true then te mo Y fun d' dL=>dL=aR ac s2.heap.objs.size ((xs.take i).filterMap f)/\(match d' with|.v y=>f d=some y|_=>False) else Y=aR ac s2.heap.objs.size ((xs.take i).filterMap f)/\f d=none)
     I6 S6 q6 fun b Y H' e' S' q=>⟨Y,e',S',q⟩) fun b s7 ⟨H7,I7,jp,e7,S7,q7⟩=>?_
    have again:∀{H9:Hp} {s9:Shared},Inv (bU X N' scope cl fp s3 H3) ([]++wX fp s5.heap) j' H9 s9->cz X.K (aR ac s2.heap.objs.size ((xs.take (i+1)).filterMap f)) H9->jX X.K (aR ac s2.heap.objs.size ((xs.take (i+1)).filterMap f)) H9 (dj cap ρ) j' ->
      Ext X.K ac H2 (aR ac s2.heap.objs.size ((xs.take (i+1)).filterMap f)) H9->∃m,m<xs.length-i/\∃(i:Nat) (ii:St) (Hc:Hp),m=xs.length-i/\i<=xs.length/\Inv (bU X N' scope cl fp s3 H3) [] ii Hc s9/\tn i s9.heap/\(∀b∈fp,Hc b=none) /\
       St0 X.K Hc (dj cap ρ) (aR ac s2.heap.objs.size ((xs.take i).filterMap f)) ii/\Ext X.K ac H2 (aR ac s2.heap.objs.size ((xs.take i).filterMap f)) Hc:=fun {H9 s9} I9 m9 r9 e9=>by
     refine⟨xs.length-(i+1),∅,i+1,j',H9,rfl,hlt,I9.mV,T.keep _ _ _ st5 fun b hb o e=>(I9.pin (b,o) (mem_append_right _ (mem_append_right _ (gC hb e)))).1,fun b hb=>?_,⟨m9,r9⟩,e9⟩
     obtain⟨o,e,_⟩:=T.obj _ _ st5 b hb
     exact (I9.pin (b,o) (mem_append_right _ (mem_append_right _ (gC hb e)))).2.1
    cases b with
    |false=>
     have q8:jp=aR ac s2.heap.objs.size ((xs.take i).filterMap f)/\f d=none:=by simpa using q7
     refine AE ?_
     have et:(xs.take (i+1)).filterMap f=(xs.take i).filterMap f:=by rw[yn hd,q8.2];simp
     have v6:aR ac s2.heap.objs.size ((xs.take (i+1)).filterMap f)=jp:=by rw[et,q8.1]
     refine again I7 (by rw[v6];exact S7.mu) (by rw[v6];exact S7.rho.le le6) ?_
     rw[v6]
     exact Ec.trans (e5.trans (e6.trans e7))
    |true=>
     refine A5 ?_
     obtain⟨t8,p8,l8⟩:=he fp s3 H3
     refine thn (p8 _ s7 j' H7 (fun v H'=>∃y,Ext X.K jp H7 (aR ac s2.heap.objs.size ((xs.take i).filterMap f)) H'/\St0 X.K H' mo (aR ac s2.heap.objs.size ((xs.take i).filterMap f)) j'/\Rp X.K (aR ac s2.heap.objs.size ((xs.take i).filterMap f)) H' y v/\f d=some y) I7
      (l8 j' H7 mo jp _ _ S7 (by simpa using q7) fun d' v lw H8 e8 S8 r8 q8=>?_)) fun v s8 ⟨v8,H8,I8,r8,y,e8,S8,ry,fy⟩=>?_
     ·obtain⟨rfl,q8⟩:=q8
      cases d' with
      |v y=>exact⟨y,e8,S8,r8,q8⟩
      |m _=>exact q8.elim
      |s _=>exact q8.elim
      |o _=>exact q8.elim
      |q _=>exact q8.elim
     ·obtain⟨us,hacc,rus⟩:=S8.mu s2.heap.objs.size _ aV
      have hle:((xs.take i).filterMap f).length<=1000:=le_trans (List.length_filterMap_le _ _) (le_trans (by rw[length_take];exact Nat.min_le_right _ _) hxs)
      refine thn (vF (X:=bU X N' scope cl fp s3 H3) _ s8 j' H8 (.ref s2.heap.objs.size) [v8] (.ref s2.heap.objs.size) [v] (fun _ H'=>H'=upd H8 s2.heap.objs.size (.lst (us++[v8]))) I8 rfl (.cons r8 .nil) ⟨_,us,v8,rfl,rfl,hacc,by rw[<- rus.length];exact jt hle,rfl⟩) fun _ s9 ⟨_,H9,I9,_,e9⟩=>?_
      subst e9
      have et:(xs.take (i+1)).filterMap f=(xs.take i).filterMap f++[y]:=by rw[yn hd,fy];rfl
      have mset:aR (aR ac s2.heap.objs.size ((xs.take i).filterMap f)) s2.heap.objs.size ((xs.take (i+1)).filterMap f)=aR ac s2.heap.objs.size ((xs.take (i+1)).filterMap f):=we
      have ex:Ext X.K (aR ac s2.heap.objs.size ((xs.take i).filterMap f)) H8 (aR ac s2.heap.objs.size ((xs.take (i+1)).filterMap f)) (upd H8 s2.heap.objs.size (.lst (us++[v8]))):=by
       rw[<- mset]
       exact qT aV
      refine again I9 ?_ ((S8.rho.le le6).ext S8.mu ex) (Ec.trans (e5.trans (e6.trans (e7.trans (e8.trans ex)))))
      rw[<- mset]
      refine S8.mu.set aV ?_
      rw[et]
      exact rus.append (.cons ry .nil)
   ·have ei:i=xs.length:=by omega
    subst ei
    refine thn (T.done (bU X N' scope cl fp s3 H3) rfl rfl rfl (fun z=>z) _ [] s' ii Hc (fun _ _=>False) Ic (stat frc) tc (stop rfl)) fun r s4 ⟨hr,I5⟩=>?_
    subst hr
    rw[List.take_length] at Sc Ec
    obtain⟨m,hn,_⟩:=I5.loc
    refine⟨m,(by have z:s4.heap.Ns s3.heap.objs.size m:=hn;rw[heap3] at z;exact z),fun h' hs'=>?_⟩
    have kp:∀b o,b<s2.heap.objs.size->s4.heap.get? b=some o->h'.get? b=some o:=fun b o hb e=>hs'.extBut b o (by rw[hsz3];exact ne_of_lt (Nat.lt_succ_of_lt hb)) e
    have hcC:Hc hp3.objs.size=none:=by have z:Hc s3.heap.objs.size=none:=I5.free;rw[heap3] at z;exact z
    have hok':HOk X.prog X.w Hc h':=fun b ob e=>by
     refine (I5.hok b ob e).Ah (fun cc v hcc q=>hs'.extBut cc v ?_ q) (fun _ q=>q) fun _ _ q=>q
     rintro rfl
     rcases hcc with z|z
     ·rw[<- z,hcC] at e;cases e
     ·rw[hcC] at z;cases z
    have u1:Un (frs X.stack) fp H2 H3 s2.heap s3.heap:=by rw[heap3,hH3];exact Un.laid old3 (Nat.le_refl _) hfree2
    have u2:Un (frs X.stack) fp H3 Hc s3.heap s4.heap:=I5.base
    have If:Inv X pins Z Hc {s4 with heap:=h'}:=I2.FK (ch:=fp) (by show s4.os=s2.os;have z:s4.os=s3.os:=I5.os;rw[z,hs3]) (Un.after (u1.trans u2) kp) hok' I5.bare fun b hb=>⟨(f2 b hb).2.2.2.1,(f2 b hb).2.1,(f2 b hb).2.2.2.2.1,(f2 b hb).2.2.2.2.2⟩
    obtain⟨us,hacc,rus⟩:=Sc.mu s2.heap.objs.size _ aV
    have shr:∀a,aR ac s2.heap.objs.size (xs.filterMap f) a=none->ac a=none:=fun a e=>by
     by_cases ha:a=s2.heap.objs.size
     ·rw[ha];exact pi
     ·rw[bZ ha] at e;exact e
    have eF:Ext X.K ac H2 ac Hc:=⟨Ec.keep,Ec.tb,fun _ ds q=>⟨ds,q⟩,fun _ q _=>q⟩
    have mF:cz X.K ac Hc:=⟨fun a ds q=>by
     obtain⟨ys,z1,z2⟩:=Sc.mu a ds (sub1 _ a ds q)
     exact⟨ys,z1,z2.shrink shr⟩,Sc.mu.tab⟩
    exact⟨.ref s2.heap.objs.size,Hc,If,rfl,k (.v (.list (xs.filterMap f))) _ ac Hc (e1.trans eF) ⟨mF,S1.rho.ext S1.mu eF⟩ (Rp.list hacc pi (rus.shrink shr)) fin⟩
  ·have z:b≠s2.heap.objs.size:=ne_of_lt (fplt b hb)
   rw[hH3,bK z]
   exact (f2 b hb).1
  ·have ex:=oU (o:=.lst []) (ds:=[]) S1.mu hfree2 hK2
   rw[hH3]
   exact⟨S1.mu.mut .nil hfree2 hK2,(S1.rho.ext S1.mu ex).cap⟩
  ·rw[hH3]
   exact oU (o:=.lst []) (ds:=[]) S1.mu hfree2 hK2
 have envE:(bU X N' scope cl fp s3 H3).env=compEnvC scope cl hp3.objs.size X.env:=by show compEnvC scope cl s3.heap.objs.size X.env=_;rw[heap3]
 rw[envE] at loop
 exact codeAny_compStart_list loop (T.self X.A 0 _ _ _ (T.keep 0 _ _ st2 (fun b hb o e=>kept3 b o (old3 b o e))) loop)
section
variable {X:Cx}{a b c:Expr}{ta tb tc:DTE}{pos:Pos}
noncomputable def GB(r r':D->D->Mu->DK->Prop)(ta tb tc:DTE):DTE:=fun ρ U Q=>ta ρ U fun x ac=>tb ρ ac fun y ad=>r x y ad fun z db=>match z with
 |.v (.bool k)=>if k=true then tc ρ db fun w dL=>r' y w dL Q else Q (.v (.bool false)) db
 |_=>False
end
theorem Ex{α:Type}{x:α}{xs:List α}:atI (x::xs) 0=some x:=by unfold atI ixN;simp
theorem Eg{α:Type}{x y:α}{xs:List α}:atI (x::y::xs) 1=some y:=by
 have h:=ym (xs:=x::y::xs) (j:=1) (v:=y) rfl
 exact h
theorem IZ{α:Type}{x y z:α}{xs:List α}:atI (x::y::z::xs) 2=some z:=by
 have h:=ym (xs:=x::y::z::xs) (j:=2) (v:=z) rfl
 exact h
theorem J7{α:Type}{x y z u:α}{xs:List α}:atI (x::y::z::u::xs) 3=some u:=by
 have h:=ym (xs:=x::y::z::u::xs) (j:=3) (v:=u) rfl
 exact h
def fV:D->D->Mu->DK->Prop:=fun x y U Q=>match x,y with
 |.v (.int i),.v (.int j)=>Q (.v (.int (i+j))) U
 |.v (.tuple xs),.v (.tuple ys)=>xs.length+ys.length<=1000/\Q (.v (.tuple (xs++ys))) U
 |_,_=>Em x y U Q
theorem Q3{K:PySem.W.Frag}:jZ K (fun x y H Q=>(rI0 fun i j=>.int (i+j)) x y H Q\/((Gg K) x y H Q\/QU x y H Q)) fV:=by
 intro x y ux uy H U Qd Q ok rx ry h k
 unfold fV at h
 split at h
 ·exact .inl (HI (K:=K) (gd:=fun i j=>.int (i+j)) (fun _ _ _ _=>.int _) _ _ ux uy H U Qd Q ok rx ry h k)
 ·exact .inr (.inl (Np _ _ ux uy H U Qd Q ok rx ry h k))
 ·exact .inr (.inr (Q2 _ _ ux uy H U Qd Q ok rx ry h k))
theorem fD{X:Cx}{a b:Expr}{ta tb:DTE}{pos:Pos}(ha:DE X a ta)(hb:DE X b tb):DE X (.BinOp a .Add b pos) (dOp fV ta tb):=xJ (Kt.or (M5.or RR)) Q3 ha hb
section
variable {ρ:Rho}{U:Mu}{Q:DK}{QT:Bool->Mu->Prop}{QA:List D->Mu->Prop}{QG:Rho->Mu->Prop}{QI:List PyData->Mu->Prop}{QO:Option Int->Mu->Prop}{Dd:Fm}{ta tb tc:DTE}{t u:DTT}{tA:DTA}{s1 s2:DTS}{i j:Int}{x y:PyData}{xs ys:List PyData}{d e:D}
noncomputable def vB:DTS:=fun _ _ _=>False
theorem uC{X:Cx}{st:Stmt}:DS X st vB:=⟨fun _ _ _=>False,fun _ _ _ _ _ _ h=>h.elim,fun _ _ _ _ _ _ _ h=>h.elim⟩
theorem KG{o:Rho}:ag 0 (some d::o) U Q=Q d U:=propext Iff.rfl
theorem M1{a}{o:Rho}:ag 1 (a::some d::o) U Q=Q d U:=propext Iff.rfl
theorem LW{a b}{o:Rho}:ag 2 (a::b::some d::o) U Q=Q d U:=propext Iff.rfl
theorem Ha{a b c}{o:Rho}:ag 3 (a::b::c::some d::o) U Q=Q d U:=propext Iff.rfl
theorem KD{a b c f}{o:Rho}:ag 4 (a::b::c::f::some d::o) U Q=Q d U:=propext Iff.rfl
theorem LZ{a b c f g}{o:Rho}:ag 5 (a::b::c::f::g::some d::o) U Q=Q d U:=propext Iff.rfl
theorem Kr{a b c f g h}{o:Rho}:ag 6 (a::b::c::f::g::h::some d::o) U Q=Q d U:=propext Iff.rfl
theorem MC{a b c f g h k}{o:Rho}:ag 7 (a::b::c::f::g::h::k::some d::o) U Q=Q d U:=propext Iff.rfl
theorem Ly{a b c f g h k l}{o:Rho}:ag 8 (a::b::c::f::g::h::k::l::some d::o) U Q=Q d U:=propext Iff.rfl
theorem L3{a b c f g h k l m}{o:Rho}:ag 9 (a::b::c::f::g::h::k::l::m::some d::o) U Q=Q d U:=propext Iff.rfl
theorem IF{a b c f g h k l m n}{o:Rho}:ag 10 (a::b::c::f::g::h::k::l::m::n::some d::o) U Q=Q d U:=propext Iff.rfl
theorem q_c:dC x ρ U Q=Q (.v x) U:=propext Iff.rfl
theorem Ru{r}:dOp r ta tb ρ U Q=ta ρ U fun x ac=>tb ρ ac fun y ad=>r x y ad Q:=propext Iff.rfl
theorem q_B:dB ta ρ U QT=ta ρ U fun d ac=>match d with|.v (.bool k)=>QT k ac|_=>False:=propext Iff.rfl
theorem Tw{C:Int->Int->Prop}{g:Int->Int->PyData}:rII C g (.v (.int i)) (.v (.int j)) U Q=(C i j/\Q (.v (g i j)) U):=propext Iff.rfl
theorem O0{g:Int->Int->PyData}:vW g (.v (.int i)) (.v (.int j)) U Q=Q (.v (g i j)) U:=propext Iff.rfl
theorem Pa:rG ta ρ U Q=ta ρ U fun x ac=>match x with|.v (.int i)=>Q (.v (.int (-i))) ac|_=>False:=propext Iff.rfl
theorem Hv:j0 t u ρ U QT=t ρ U fun c ac=>if c=true then u ρ ac QT else QT false ac:=propext Iff.rfl
theorem Pd:ku t u ρ U QT=t ρ U fun c ac=>if c=true then QT true ac else u ρ ac QT:=propext Iff.rfl
theorem M4:dq t ρ U QT=t ρ U fun c ac=>QT (!c) ac:=propext Iff.rfl
theorem Kb:lD ta tb ρ U Q=ta ρ U fun x ac=>match x with|.v (.bool c)=>if c=true then tb ρ ac Q else Q (.v (.bool false)) ac|_=>False:=propext Iff.rfl
theorem ME:Lo ta ρ U Q=ta ρ U fun x ac=>match x with|.v (.bool c)=>Q (.v (.bool (!c))) ac|_=>False:=propext Iff.rfl
theorem TC:dIf t ta tb ρ U Q=t ρ U fun c ac=>if c=true then ta ρ ac Q else tb ρ ac Q:=propext Iff.rfl
theorem IX:ao ρ U QA=QA [] U:=propext Iff.rfl
theorem C3:ae ta tA ρ U QA=ta ρ U fun x ac=>tA ρ ac fun xs ad=>QA (x::xs) ad:=propext Iff.rfl
theorem Ms:bG tA ρ U Q=tA ρ U fun ds ac=>match du ds with|some xs=>Q (.v (.tuple xs)) ac|none=>False:=propext Iff.rfl
theorem KN:iF tA ρ U Q=tA ρ U fun ds ac=>match du ds with|some xs=>Q (.v (.list xs)) ac|none=>False:=propext Iff.rfl
theorem MG:Bs tA ρ U Q=tA ρ U fun ds ac=>match du ds with|some xs=>∀p,ac p=none->Q (.m p) (aR ac p xs)|none=>False:=propext Iff.rfl
theorem LL:du []=some []:=by rw[du]
theorem KJ{r:List D}:du (.v x::r)=(du r).map (x::·):=by rw[du]
theorem MJ{neg:Bool}:cq neg (.v x) (.v y) U Q=(SeqAt.shaped x=true/\SeqAt.shaped y=true/\Q (.v (.bool (neg ^^ PyData.eqv x y))) U):=propext Iff.rfl
theorem MU{neg:Bool}:cq neg (.v (.int i)) (.v (.int j)) U Q=Q (.v (.bool (neg ^^ decide (i=j)))) U:=by
 have e:PyData.eqv (.int i) (.int j)=decide (i=j):=by simp[PyData.eqv];rfl
 rw[MJ,e]
 exact propext ⟨fun h=>h.2.2,fun h=>⟨rfl,rfl,h⟩⟩
theorem Po{neg:Bool}:cq neg (.v (.tuple xs)) (.v (.tuple ys)) U Q=(SeqAt.shaped (.tuple xs)=true/\SeqAt.shaped (.tuple ys)=true/\Q (.v (.bool (neg ^^ PyData.eqv (.tuple xs) (.tuple ys)))) U):=propext Iff.rfl
theorem Pj{neg:Bool}:cq neg (.v (.list xs)) (.v (.list ys)) U Q=(SeqAt.shaped (.list xs)=true/\SeqAt.shaped (.list ys)=true/\Q (.v (.bool (neg ^^ PyData.eqv (.list xs) (.list ys)))) U):=propext Iff.rfl
theorem OX{neg a b:Bool}:cq neg (.v (.bool a)) (.v (.bool b)) U Q=Q (.v (.bool (neg ^^ (a==b)))) U:=by
 have e:PyData.eqv (.bool a) (.bool b)=(a==b):=by cases a<;>cases b<;>simp[PyData.eqv]<;>rfl
 rw[MJ,e]
 exact propext ⟨fun h=>h.2.2,fun h=>⟨rfl,rfl,h⟩⟩
theorem OT{neg:Bool}:OI neg (.v x) (.v (.list ys)) U Q=(PyData.canLayAll0 ys=true/\x.canLay0=true/\PyData.depth x<=60/\Q (.v (.bool (neg ^^ ys.any fun b=>PyData.eqv b x))) U):=propext Iff.rfl
theorem FU:aA (.v (.list xs)) (.v (.int i)) U Q=(match atI xs i with|some d=>Q (.v d) U|none=>False):=propext Iff.rfl
theorem BI:aA (.v (.tuple xs)) (.v (.int i)) U Q=(match atI xs i with|some d=>Q (.v d) U|none=>False):=propext Iff.rfl
theorem Pm{l:Addr}:aA (.m l) (.v (.int i)) U Q=(match U l with|some xs=>(match atI xs i with|some d=>Q (.v d) U|none=>False)|none=>False):=propext Iff.rfl
theorem Pg{ns:List Int}:aA (.s ns) (.v (.int i)) U Q=(match atI ns i with|some d=>Q (.v (.int d)) U|none=>False):=propext Iff.rfl
theorem Hw:aA (.v (.list (x::xs))) (.v (.int 0)) U Q=Q (.v x) U:=by rw[FU,Ex]
theorem FY:aA (.v (.tuple (x::xs))) (.v (.int 0)) U Q=Q (.v x) U:=by rw[BI,Ex]
theorem Kk{z}:aA (.v (.list (z::x::xs))) (.v (.int 1)) U Q=Q (.v x) U:=by rw[FU,Eg]
theorem GZ{z}:aA (.v (.tuple (z::x::xs))) (.v (.int 1)) U Q=Q (.v x) U:=by rw[BI,Eg]
theorem KW{z w}:aA (.v (.list (z::w::x::xs))) (.v (.int 2)) U Q=Q (.v x) U:=by rw[FU,IZ]
theorem Gf{z w}:aA (.v (.tuple (z::w::x::xs))) (.v (.int 2)) U Q=Q (.v x) U:=by rw[BI,IZ]
theorem Mx{z w v}:aA (.v (.tuple (z::w::v::x::xs))) (.v (.int 3)) U Q=Q (.v x) U:=by rw[BI,J7]
theorem Pc:Em d e U Q=(match rP U d,rP U e with|some xs,some ys=>xs.length+ys.length<=1000/\Q (.v (.list (xs++ys))) U|_,_=>False):=propext Iff.rfl
theorem MM:fV (.v (.int i)) (.v (.int j)) U Q=Q (.v (.int (i+j))) U:=propext Iff.rfl
theorem KH:fV (.v (.tuple xs)) (.v (.tuple ys)) U Q=(xs.length+ys.length<=1000/\Q (.v (.tuple (xs++ys))) U):=propext Iff.rfl
theorem MH:fV (.v (.list xs)) (.v (.list ys)) U Q=(xs.length+ys.length<=1000/\Q (.v (.list (xs++ys))) U):=propext Iff.rfl
theorem L6{a:Addr}:fV (.m a) e U Q=Em (.m a) e U Q:=propext Iff.rfl
theorem Sv{tl th:DTO}:dSl ta tl th ρ U Q=ta ρ U fun x ac=>tl ρ ac fun l ad=>th ρ ad fun u db=>JM x l u db Q:=propext Iff.rfl
theorem FD:ij ρ U QO=QO none U:=propext Iff.rfl
theorem MQ:qM ta ρ U QO=ta ρ U fun x ac=>match x with|.v (.int i)=>QO (some i) ac|_=>False:=propext Iff.rfl
theorem O2{lo hi:Option Int}:JM (.v (.tuple xs)) lo hi U Q=Q (.v (.tuple (kS xs lo hi))) U:=propext Iff.rfl
theorem O8:RY ta ρ U Q=ta ρ U fun x ac=>match x with|.v (.tuple xs)=>Q (.v (.tuple xs.reverse)) ac|.v (.list xs)=>Q (.v (.list xs.reverse)) ac|.m l=>(match ac l with|some xs=>Q (.v (.list xs.reverse)) ac|none=>False)|_=>False:=propext Iff.rfl
theorem RE{rd}:dCB rd tA ρ U Q=tA ρ U fun ds ac=>rd ds ac Q:=propext Iff.rfl
theorem GH:dH [.v (.list ys)] U Q=Q (.v (.int (ys.length:Nat))) U:=propext Iff.rfl
theorem Kv:dH [.v (.tuple ys)] U Q=Q (.v (.int (ys.length:Nat))) U:=propext Iff.rfl
theorem KC{ns:List Int}:dH [.s ns] U Q=Q (.v (.int (ns.length:Nat))) U:=propext Iff.rfl
theorem LX{l:Addr}:dH [.m l] U Q=(match U l with|some ys=>Q (.v (.int (ys.length:Nat))) U|none=>False):=propext Iff.rfl
theorem O1:tW [.v (.int i)] U Q=Q (.v (.int (i.natAbs:Nat))) U:=propext Iff.rfl
theorem R5{g:Int->Int->Int}:Af g [.v (.int i),.v (.int j)] U Q=Q (.v (.int (g i j))) U:=propext Iff.rfl
theorem Mh{k:Bool}:ua [.v (.bool k)] U Q=Q (.v (.int (if k then 1 else 0))) U:=propext Iff.rfl
theorem Im:sA [.v (.tuple ys)] U Q=Q (.v (.list ys)) U:=propext Iff.rfl
theorem Ph:pG [.v (.list ys)] U Q=(match bY ys with|some bs=>Q (.v (.bool (bs.all id))) U|none=>False):=propext Iff.rfl
theorem OQ{T:String}:rF T ta ρ U Q=ta ρ U fun x ac=>match x with|.v d=>Q (.v (.bool (isT T d))) ac|_=>False:=propext Iff.rfl
theorem yk{n:Nat}:az n d ρ U QG=QG (ρ.set n (some d)) U:=propext Iff.rfl
theorem MY:uQ [] ρ U QG=QG ρ U:=propext Iff.rfl
theorem HY{g:DTG}{gs:Aw}:eY g gs (x::xs) ρ U QG=g (.v x) ρ U fun po ac=>gs xs po ac QG:=propext Iff.rfl
theorem Kz{n:Nat}{gs:Aw}:rM n gs (.v (.tuple xs)) ρ U QG=(xs.length=n/\gs xs ρ U QG):=propext Iff.rfl
theorem Mi:D5 ta tb d ρ U QG=ta ρ U fun o ac=>tb ρ ac fun i ad=>match o,i,d with
 |.m l,.v (.int k),.v x=>(match ad l with
  |some xs=>(match ixN xs.length k with
   |some j=>QG ρ (aR ad l (xs.set j x))
   |none=>False)
  |none=>False)
 |_,_,_=>False:=propext Iff.rfl
theorem Lw{g:DTG}:bA ta g Dd ρ U=ta ρ U fun d ac=>g d ρ ac Dd.nx:=propext Iff.rfl
theorem O9{i j:Nat}:AX i j tA Dd ρ U=tA ρ U fun ds ac=>match ds with|[v,w]=>Dd.nx ((ρ.set i (some v)).set j (some w)) ac|_=>False:=propext Iff.rfl
theorem L0:bM Dd ρ U=Dd.nx ρ U:=propext Iff.rfl
theorem Fl:aP s1 s2 Dd ρ U=s1 {Dd with nx:=s2 Dd} ρ U:=propext Iff.rfl
theorem Kw:aY ta Dd ρ U=ta ρ U Dd.rt:=propext Iff.rfl
theorem Lu:pR ta Dd ρ U=ta ρ U fun _ ac=>Dd.nx ρ ac:=propext Iff.rfl
theorem Kh:cJ t s1 s2 Dd ρ U=t ρ U fun b ac=>if b=true then s1 Dd ρ ac else s2 Dd ρ ac:=propext Iff.rfl
theorem IY:vB Dd ρ U=False:=propext Iff.rfl
theorem Mv{dsp:DSp}:au dsp tA ρ U Q=tA ρ U fun ds ac=>dsp ds ac Q:=propext Iff.rfl
theorem Pb:Jg ta tb ρ U Q=ta ρ U fun x ac=>match x with
 |.m l=>tb ρ ac fun y ad=>(match y,ad l with
  |.v d,some xs=>xs.length<1000/\Q (.v .none) (aR ad l (xs++[d]))
  |_,_=>False)
 |_=>False:=propext Iff.rfl
theorem ON:QD ta tb ρ U Q=ta ρ U fun x ac=>match x with
 |.m l=>tb ρ ac fun y ad=>(match y,ad l with
  |.v (.list ys),some xs=>xs.length+ys.length<=1000/\Q (.v .none) (aR ad l (xs++ys))
  |_,_=>False)
 |_=>False:=propext Iff.rfl
theorem Iq{r r'}:GB r r' ta tb tc ρ U Q=ta ρ U fun x ac=>tb ρ ac fun y ad=>r x y ad fun z db=>match z with
 |.v (.bool k)=>if k=true then tc ρ db fun w dL=>r' y w dL Q else Q (.v (.bool false)) db
 |_=>False:=propext Iff.rfl
theorem LV:qc ρ U QT=QT true U:=propext Iff.rfl
theorem Fg:oK ta ρ U QI=ta ρ U fun d ac=>match d with|.v (.list xs)=>QI xs ac|_=>False:=propext Iff.rfl
theorem Jb:xE ta ρ U QI=ta ρ U fun d ac=>match d with|.v (.tuple xs)=>QI xs ac|_=>False:=propext Iff.rfl
theorem Fu:DY tA ρ U QI=tA ρ U fun ds ac=>match ds with|[.v (.int j)]=>(-(2 ^ 62)<=j/\j<2 ^ 62)/\QI (pU 0 j.toNat) ac|_=>False:=propext Iff.rfl
theorem FV:Hf tA ρ U QI=tA ρ U fun ds ac=>match ds with|[.v (.int i),.v (.int j)]=>(-(2 ^ 62)<=i/\i<2 ^ 62/\-(2 ^ 62)<=j/\j<2 ^ 62)/\QI (pU i (j-i).toNat) ac|_=>False:=propext Iff.rfl
theorem HR{src:DTI}{g:DTG}:Jo src g s1 Dd ρ U=src ρ U fun xs ac=>∃Pv:Nat->Rho->Mu->Prop,Pv 0 ρ ac /\
 (∀i x bi Y,xs[i]? = some x->Pv i bi Y->g (.v x) bi Y fun em ad=>s1 {Dd with nx:=Pv (i+1),ct:=Pv (i+1),bk:=Dd.nx} em ad)/\(∀bi Y,Pv xs.length bi Y->Dd.nx bi Y):=propext Iff.rfl
theorem Kf{cap:List (Option Nat)}{src:DTI}{g:DTG}:qH cap src g t ta ρ U Q=src ρ U fun xs ac=>xs.length<=1000/\∃f:PyData->Option PyData,
 (∀x∈xs,∀Y:Mu,(∀a ds,ac a=some ds->Y a=some ds)->g (.v x) (dj cap ρ) Y fun em ad=>Le (dj cap ρ) em/\t em ad fun b db=>
  if b=true then ta em db fun d dL=>dL=Y/\(match d with|.v y=>f x=some y|_=>False) else db=Y/\f x=none)/\Q (.v (.list (xs.filterMap f))) ac:=propext Iff.rfl
theorem KR{α:Type}{r:List (Option α)}:dj [] r=[]:=rfl
theorem Kl{α:Type}{o:Option Nat}{c:List (Option Nat)}{r:List (Option α)}:dj (o::c) r=(o.bind fun j=>(r[j]?).join)::dj c r:=rfl
theorem O7:Le [] []=True:=propext ⟨fun _=>trivial,fun h=>h⟩
theorem Pl{r r':Rho}{o:Option D}:Le (none::r) (o::r')=Le r r':=propext Iff.rfl
theorem OV{r r':Rho}{d d':D}:Le (some d::r) (some d'::r')=(d=d'/\Le r r'):=propext Iff.rfl
theorem xt{α:Type}(p:α->Bool):∀xs:List α,bY (xs.map fun x=>PyData.bool (p x))=some (xs.map p)
 |[]=>rfl
 |x::r=>by rw[map_cons,bY,xt p r];rfl
theorem IC{α β:Type}(p:α->β):∀xs:List α,xs.filterMap (fun x=>some (p x))=xs.map p
 |[]=>rfl
 |x::r=>by rw[filterMap_cons,IC p r];rfl
theorem IQ:w4 t s1 Dd ρ U=(∃W:Nat->Rho->Mu->Prop,(∃m,W m ρ U)/\∀m ρ U,W m ρ U ->
 t ρ U fun b ac=>if b=true then s1 {Dd with nx:=fun bi Y=>∃m',m'<m/\W m' bi Y,ct:=fun bi Y=>∃m',m'<m/\W m' bi Y,bk:=Dd.nx} ρ ac else Dd.nx ρ ac):=propext Iff.rfl
end
theorem L5{α β:Type}[BEq α][LawfulBEq α]{x:α}{k:β}:∀{l:List (α×β)},l.lookup x=some k->(x,k)∈l
 |[],h=>by cases h
 |(y,j)::r,h=>by
  rw[lookup_cons] at h
  cases e:x==y with
  |true=>
   rw[e] at h
   simp only[Option.some.injEq] at h
   have:x=y:=eq_of_beq e
   subst this h
   exact mem_cons_self
  |false=>
   rw[e] at h
   exact mem_cons_of_mem _ (L5 h)
def cfK:NameKind->Bool
 |.cell=>true
 |.free=>true
 |_=>false
theorem jT{names:List (Str×NameKind)}{cl:List (Str×Addr)}(h:(names.all fun y=>!(cfK y.2) || (cl.lookup y.1).isSome)=true)(x:Str)(hx:names.lookup x=some .cell\/names.lookup x=some .free):∃a,cl.lookup x=some a:=by
 rw[List.all_eq_true] at h
 have key:∀k,cfK k=true->names.lookup x=some k->∃a,cl.lookup x=some a:=fun k hk e=>by
  have q:=h _ (L5 e)
  simp only[hk,Bool.not_true,Bool.false_or] at q
  exact Option.isSome_iff_exists.mp q
 rcases hx with e|e
 ·exact key _ rfl e
 ·exact key _ rfl e
def Mq(X:Cx)(sc:Scope):List (Option Nat)->List Str->Prop
 |none::c,_::n=>Mq X sc c n
 |some j::c,x::n=>(X.N[j]? = some x/\Vis X.env.scope x/\X.env.kindOf x≠some .local/\((relabel sc X.env).names.lookup x=some .cell\/(relabel sc X.env).names.lookup x=some .free))/\Mq X sc c n
 |_,_=>True
theorem jj{X:Cx}{sc:Scope}:∀{c:List (Option Nat)} {n:List Str},Mq X sc c n->∀(i j:Nat) (x:Str),c[i]? = some (some j)->n[i]? = some x ->
  X.N[j]? = some x/\Vis X.env.scope x/\X.env.kindOf x≠some .local/\((relabel sc X.env).names.lookup x=some .cell\/(relabel sc X.env).names.lookup x=some .free)
 |[],_,_,i,j,x,h,_=>by simp at h
 |_::_,[],_,i,j,x,_,h=>by simp at h
 |none::c,y::n,k,0,j,x,h,_=>by simp at h
 |none::c,y::n,k,i+1,j,x,h,g=>jj (c:=c) (n:=n) k i j x (by simpa using h) (by simpa using g)
 |some l::c,y::n,k,0,j,x,h,g=>by
  simp only[List.getElem?_cons_zero,Option.some.injEq] at h g
  subst h g
  exact k.1
 |some l::c,y::n,k,i+1,j,x,h,g=>jj (c:=c) (n:=n) k.2 i j x (by simpa using h) (by simpa using g)
theorem K7{X:Cx}{sc:Scope}{j:Nat}{x:Str}(h1:X.N[j]? = some x:=by rfl)(h2:Vis X.env.scope x:=by first|exact Or.inl rfl|exact Or.inr (Or.inl rfl)|exact Or.inr (Or.inr rfl))(h3:X.env.kindOf x≠some .local:=by first|(intro z;cases z)|exact (fun z=>nomatch z))
  (h4:(relabel sc X.env).names.lookup x=some .cell\/(relabel sc X.env).names.lookup x=some .free:=by first|exact Or.inl rfl|exact Or.inr rfl):X.N[j]? = some x/\Vis X.env.scope x/\X.env.kindOf x≠some .local/\((relabel sc X.env).names.lookup x=some .cell\/(relabel sc X.env).names.lookup x=some .free):=⟨h1,h2,h3,h4⟩
def k6(U:Mu)(p:Addr):Mu:=fun b=>if b=p then none else U b
noncomputable def sQ(cap:List (Option Nat))(src:DTI)(g:DTG)(c:DTT)(elt:DTE):DTE:=fun ρ U Q=>src ρ U fun xs ac=>xs.length<=1000/\∀p,ac p=none->∃Pv:Nat->List PyData->Mu->Prop,Pv 0 [] (aR ac p []) /\
 (∀i x acc Y,xs[i]? = some x->Y p=some acc->Pv i acc Y->g (.v x) (dj cap ρ) Y fun em ad=>Le (dj cap ρ) em/\c em ad fun b db=>
  if b=true then elt em db fun d dL=>dL p=some acc/\(match d with|.v y=>Pv (i+1) (acc++[y]) (aR dL p (acc++[y]))|_=>False) else db p=some acc/\Pv (i+1) acc db) /\
 (∀acc Y,Pv xs.length acc Y->Y p=some acc->Q (.v (.list acc)) (k6 Y p))
theorem JO{X:Cx}{pos2:Pos}{use:Option (Value->Sem Unit)}{QQ:Value->Shared->Prop}{pins:List (Addr×Obj)}{s:Shared}{Z:St}{H:Hp}{ρ:Rho}{U:Mu}{Qd:DK}{N':List Str}{scope:Scope}{cl:List (Str×Addr)}{elt iter tg:Expr}{ifs:List Expr}{pos:Pos}{cap:List (Option Nat)}{src:DTI}{g:DTG}{c:DTT}{te:DTE}(hc:X.calm=X.calm)
  (hi:DI X tg iter src) (hg:∀fp ge gl,DG (bU X N' scope cl fp ge gl) tg g) (hif:∀fp ge gl,ML (bU X N' scope cl fp ge gl) ifs c) (he:∀fp ge gl,DE (bU X N' scope cl fp ge gl) elt te)
  (hclos:closureFor scope X.env=pure cl) (hcell:∀y∈scope.names,y.2≠.cell) (hkind:scope.kind = .function) (hnames:∀y∈scope.names,y.2 = .local->scope.names.lookup y.1=some .local)
  (hcl:∀x a,cl.lookup x=some a->X.env.cells.lookup x=some a) (hhas:∀x,(relabel scope X.env).names.lookup x=some .cell\/(relabel scope X.env).names.lookup x=some .free->∃a,cl.lookup x=some a)
  (hlen:cap.length=N'.length) (hcap:∀(i j:Nat) (x:Str),cap[i]? = some (some j)->N'[i]? = some x->X.N[j]? = some x/\Vis X.env.scope x/\X.env.kindOf x≠some .local/\((relabel scope X.env).names.lookup x=some .cell\/(relabel scope X.env).names.lookup x=some .free))
  (hs:∀x,foldedSetIterable iter X.env x=pure x )
  (I:Inv X pins Z H s) (S:St0 X.K H ρ U Z) (h:sQ cap src g c te ρ U Qd)
  (hend:∀(s4:Shared) (Hc:Hp) (C pa:Addr) (m:Str->Option Value) (acc:List PyData) (sB:Mu),s4.heap.Ns C m->Cv X pins Hc C->(∀h',Heap.SameBut C s4.heap h'->Inv X pins Z Hc {s4 with heap:=h'}) ->
   Ext X.K U H sB Hc->St0 X.K Hc ρ sB Z->Rp X.K sB Hc (.list acc) (.ref pa)->Qd (.v (.list acc)) sB->compPost (model X.prog X.w) X.A X.xe use QQ (.ref pa) C (.ok .next) s4) :
  wpAny (model X.prog X.w) X.A (comprehension (.ListComp elt [⟨tg,iter,ifs,0⟩] scope pos) scope X.env pos2 (newList []) false (eval iter X.env) use) QQ X.xe s:=by
 obtain⟨wi,pw,li⟩:=hi
 refine wpAny_comprehension_free rfl hs hclos hkind hnames (thn (pw pins s Z H _ I (li Z H ρ U _ (fun J H1=>∃xs ac,Ext X.K U H ac H1/\St0 X.K H1 ρ ac Z/\Ni X.K J xs ac H1/\xs.length<=1000/\∀p,ac p=none->∃Pv:Nat->List PyData->Mu->Prop,Pv 0 [] (aR ac p []) /\
   (∀i x acc Y,xs[i]? = some x->Y p=some acc->Pv i acc Y->g (.v x) (dj cap ρ) Y fun em ad=>Le (dj cap ρ) em/\c em ad fun b db=>
    if b=true then te em db fun d dL=>dL p=some acc/\(match d with|.v y=>Pv (i+1) (acc++[y]) (aR dL p (acc++[y]))|_=>False) else db p=some acc/\Pv (i+1) acc db) /\
   (∀acc Y,Pv xs.length acc Y->Y p=some acc->Qd (.v (.list acc)) (k6 Y p))) S h (fun xs ac H1 J e1 S1 it q=>⟨xs,ac,e1,S1,it,q⟩)))
  fun v s1 h1=>thn h1 fun itv s2 h2=>?_)
 obtain⟨it,fp,tn,J,H2,rfl,I2,T,st2,f2,xs,ac,e1,S1,itok,hxs,allp⟩:=h2
 refine wpAny_newObj_type (wpAny_newFunctionEnv hcell (by intro y hy;simp at hy) (fun gV lf ls=>?_) hkind)
 dsimp only at lf ls ⊢
 have hfree2:H2 s2.heap.objs.size=none:=I2.hok.fresh (Nat.le_refl _)
 have hK2:X.K.lookup s2.heap.objs.size=none:=by
  cases z:X.K.lookup s2.heap.objs.size with
  |none=>rfl
  |some o=>exact absurd (Heap.lt_size (I2.kIn _ _ z)) (lt_irrefl _)
 have I3:Inv X pins Z (upd H2 s2.heap.objs.size (.lst [])) {s2 with heap:=s2.heap.push {cls:=.type "list",dict:=none,data:=.seq ([]:List Value).toArray}}:=
  I2.laid (t':=s2.toks) (fun b u e=>Heap.get?_push_of_some _ e) (Nat.le_refl _) ⟨zero_le _,[],0,.nil,Heap.get?_push_size _ rfl⟩
 generalize hH:s2.heap.push {cls:=.type "list",dict:=none,data:=.seq ([]:List Value).toArray} = hp3 at lf ls I3 ⊢
 have hsz3:hp3.objs.size=s2.heap.objs.size+1:=by rw[<- hH,Heap.size_push]
 have kept3:∀b o,hp3.get? b=some o->gV.get? b=some o:=fun b o e=>ls.extBut b o (ne_of_lt (Heap.lt_size e)) (Heap.get?_push_of_some _ e)
 have old3:∀b o,s2.heap.get? b=some o->hp3.get? b=some o:=fun b o e=>by rw[<- hH];exact Heap.get?_push_of_some _ e
 have fplt:∀b∈fp,b<s2.heap.objs.size:=fun b hb=>by obtain⟨o,e,_⟩:=T.obj 0 _ st2 b hb;exact Heap.lt_size e
 have fpst:∀b∈fp,b ∉ frs X.stack:=fun b hb hz=>by
  rcases List.mem_cons.mp (I2.wz b hz) with e|e
  ·exact (f2 b hb).2.1 e
  ·exact (f2 b hb).2.2.1 e
 obtain⟨s3,hs3⟩:∃s3:Shared,s3={s2 with heap:=hp3}:=⟨_,rfl⟩
 obtain⟨H3,hH3⟩:∃H3:Hp,H3=upd H2 s2.heap.objs.size (.lst []):=⟨_,rfl⟩
 have heap3:s3.heap=hp3:=by rw[hs3]
 rw[<- hH3] at I3
 have I3':Inv X pins Z H3 s3:=by rw[hs3];exact I3
 have hloc:H3 hp3.objs.size=none:=by have:=I3'.hok.fresh (a:=hp3.objs.size) (by rw[heap3];exact Nat.le_refl _);exact this
 have okc:(bU X N' scope cl fp s3 H3).Ok:=by
  refine⟨I3.ok.mod,?_,I3.ok.glob,I3.ok.blt,Nat.le_refl _,fun x y a h1 h2=>I3.ok.inj x y a (hcl x a h1) (hcl y a h2),fun x hx=>hhas x hx,fun x a h=>(nomatch h),I3.ok.hd,I3.ok.qt,I3.ok.frames,.inl rfl,fun b hb=>⟨?_,fun x a h=>(f2 b hb).2.2.2.2.1 x a (hcl x a h)⟩,
   I3'.bs,le_trans I3.ok.bsz I3'.sz,fun b o e hb=>?_,fun b hb=>fpst b hb,I3'.stack,I3'.ye⟩
  ·exact hkind
  ·show b≠s3.heap.objs.size
   rw[heap3,hsz3]
   exact ne_of_lt (Nat.lt_succ_of_lt (fplt b hb))
  ·rcases (f2 b hb).2.2.2.1 with z|z
   ·exact I3.ok.Hm b o e z
   ·exact absurd (lt_of_lt_of_le (Heap.lt_size (I3.ok.bs b o e).1) z) (lt_irrefl _)
 have I4:Inv (bU X N' scope cl fp s3 H3) [] (dj cap Z) H3 {s2 with heap:=gV,toks:=s2.toks+([]:List (Str×Value)).length}:=by
  refine⟨okc,by show s2.os=s3.os;rw[hs3],I3.bare,Un.kept (by show ∀b o,s3.heap.get? b=some o->_;rw[heap3];exact kept3),⟨_,(by show gV.Ns s3.heap.objs.size _;rw[heap3];exact lf),fun i x v e1 e2 e3=>?_⟩,fun x a h=>?_,(by show H3 s3.heap.objs.size=none;rw[heap3];exact hloc),fun x a h=>I3.jY x a (hcl x a h),fun p hp=>?_,I3.hok.kept kept3,?_⟩
  ·obtain⟨j,h1,h2⟩:=u9 e2
   obtain⟨hN,hv,hnl,hk⟩:=hcap i j x h1 e1
   obtain⟨m,_,hl⟩:=I3.loc
   obtain⟨u,r,lk⟩:=hl j x v hN h2 hv
   refine⟨u,r,.inr ⟨hk,?_⟩⟩
   obtain⟨a,ha⟩:=hhas x hk
   rcases lk with ⟨z,_⟩|⟨_,a',z1,z2⟩
   ·exact absurd z hnl
   ·have:a'=a:=by have q:=hcl x a ha;rw[z1] at q;exact Option.some.inj q
    subst this
    obtain⟨o,ho,hd⟩:=z2
    exact⟨a',ha,o,kept3 _ _ ho,hd⟩
  ·obtain⟨v,o,ho,hd⟩:=I3.cell x a (hcl x a h)
   exact⟨v,o,kept3 _ _ ho,hd⟩
  ·have hp':p∈X.pn++pins:=mem_append_left _ (by simpa using (show p∈X.pn++[] from hp))
   obtain⟨z1,z2,z3,z4,z5⟩:=I3'.pin p hp'
   refine⟨kept3 _ _ (by rw[<- heap3];exact z1),z2,(show p.1≠s3.heap.objs.size from ne_of_lt (Heap.lt_size z1)),fun z=>?_,z5⟩
   rcases List.mem_cons.mp (I3'.wz p.1 z) with e|e
   ·exact z3 e
   ·exact z4 e
  ·show (dj cap Z).length=N'.length
   unfold dj
   rw[length_map]
   exact hlen
 have pi:ac s2.heap.objs.size=none:=S1.mu.free hfree2
 obtain⟨Pv,pv0,body,fin⟩:=allp s2.heap.objs.size pi
 have loop:codeAny (model X.prog X.w) X.A (.compLoop (.ListComp elt [⟨tg,iter,ifs,0⟩] scope pos) 0 (.ref it) (.ref s2.heap.objs.size) (bU X N' scope cl fp s3 H3).env)
   (compPost (model X.prog X.w) X.A X.xe use QQ (.ref s2.heap.objs.size) hp3.objs.size) {s2 with heap:=gV,toks:=s2.toks+([]:List (Str×Value)).length}:=by
  refine lI (fun n s'=>∃(i:Nat) (ii:St) (Hc:Hp) (acc:List PyData) (io:Mu),n=xs.length-i/\i<=xs.length/\Inv (bU X N' scope cl fp s3 H3) [] ii Hc s'/\tn i s'.heap/\(∀b∈fp,Hc b=none) /\
   acc.length<=i/\io s2.heap.objs.size=some acc/\Pv i acc io/\St0 X.K Hc (dj cap ρ) io ii/\Ext X.K ac H2 io Hc) ?_ xs.length
   ⟨0,dj cap Z,H3,[],aR ac s2.heap.objs.size [],by simp,zero_le _,I4,T.keep 0 _ _ st2 (fun b hb o e=>kept3 b o (old3 b o e)),fun b hb=>?_,Nat.le_refl _,aV,pv0,?_,?_⟩
  ·rintro n s' ⟨i,ii,Hc,acc,io,rfl,hi,Ic,tc,frc,hal,hpa,pvi,Sc,Ec⟩
   have stat:∀{Hd:Hp},(∀b∈fp,Hd b=none)->∀b∈fp,Cv (bU X N' scope cl fp s3 H3) [] Hd b:=fun hn b hb=>
    ⟨hn b hb,(okc.exf b hb).1,fpst b hb,.inl hb,fun x a h=>(okc.exf b hb).2 x a h,fun p hp=>(f2 b hb).2.2.2.2.2 p (mem_append_left _ (by simpa using (show p∈X.pn++[] from hp)))⟩
   obtain⟨go,stop⟩:=itok _ Hc Ec Sc.mu i
   by_cases hlt:i<xs.length
   ·obtain⟨g1,y1⟩:=go hlt
    refine thn (T.item (bU X N' scope cl fp s3 H3) rfl rfl rfl (fun z=>z) i [] s' ii Hc (fun _ _=>False) Ic (stat frc) tc g1) fun r s4 ⟨u,hr,h4⟩=>?_
    subst hr
    refine thn h4 fun _ s5 ⟨x,H5,I5,r5,y5,st5,fr5⟩=>?_
    obtain⟨d,hd,sm,rd⟩:=y1 x H5 y5
    have I5':=I5.pinned (stat fr5) (T.obj _ _ st5)
    have e5:Ext X.K _ Hc _ H5:=.of_same (U:=io) sm
    have S5:St0 X.K H5 (dj cap ρ) io ii:=⟨Sc.mu.Ol e5 sm,Sc.rho.ext Sc.mu e5⟩
    obtain⟨gt,pg,lg⟩:=hg fp s3 H3
    refine thn (pg _ s5 ii H5 x u (fun am H'=>∃bi Y,Ext X.K io H5 Y H'/\St0 X.K H' bi Y am/\Le (dj cap ρ) bi/\c bi Y fun b db=>
      if b=true then te bi db fun d' dL=>dL s2.heap.objs.size=some acc/\(match d' with|.v y=>Pv (i+1) (acc++[y]) (aR dL s2.heap.objs.size (acc++[y]))|_=>False) else db s2.heap.objs.size=some acc/\Pv (i+1) acc db) I5' r5
     (lg ii H5 (dj cap ρ) _ (.v d) x _ _ S5 rd (body i d acc io hd hpa pvi) fun am bi Y H' e' S' q=>⟨bi,Y,e',S',q⟩)) fun _ s6 ⟨j',H6,I6,mo,lv,e6,S6,le6,q6⟩=>?_
    refine thn (hif fp s3 H3 _ s6 j' H6 mo lv _ (fun b H'=>∃Y,Ext X.K lv H6 Y H'/\St0 X.K H' mo Y j'/\if b=true then te mo Y fun d' dL=>dL s2.heap.objs.size=some acc/\(match d' with|.v y=>Pv (i+1) (acc++[y]) (aR dL s2.heap.objs.size (acc++[y]))|_=>False) else Y s2.heap.objs.size=some acc/\Pv (i+1) acc Y)
     I6 S6 q6 fun b Y H' e' S' q=>⟨Y,e',S',q⟩) fun b s7 ⟨H7,I7,jp,e7,S7,q7⟩=>?_
    have again:∀{H9:Hp} {s9:Shared} {acc':List PyData} {rc:Mu},Inv (bU X N' scope cl fp s3 H3) ([]++wX fp s5.heap) j' H9 s9->acc'.length<=i+1->rc s2.heap.objs.size=some acc'->Pv (i+1) acc' rc->cz X.K rc H9->jX X.K rc H9 (dj cap ρ) j' ->
      Ext X.K ac H2 rc H9->∃m,m<xs.length-i/\∃(i:Nat) (ii:St) (Hc:Hp) (acc:List PyData) (io:Mu),m=xs.length-i/\i<=xs.length/\Inv (bU X N' scope cl fp s3 H3) [] ii Hc s9/\tn i s9.heap/\(∀b∈fp,Hc b=none) /\
       acc.length<=i/\io s2.heap.objs.size=some acc/\Pv i acc io/\St0 X.K Hc (dj cap ρ) io ii/\Ext X.K ac H2 io Hc:=fun {H9 s9 acc' rc} I9 l9 p9 v9 m9 r9 e9=>by
     refine⟨xs.length-(i+1),∅,i+1,j',H9,acc',rc,rfl,hlt,I9.mV,T.keep _ _ _ st5 fun b hb o e=>(I9.pin (b,o) (mem_append_right _ (mem_append_right _ (gC hb e)))).1,fun b hb=>?_,l9,p9,v9,⟨m9,r9⟩,e9⟩
     obtain⟨o,e,_⟩:=T.obj _ _ st5 b hb
     exact (I9.pin (b,o) (mem_append_right _ (mem_append_right _ (gC hb e)))).2.1
    cases b with
    |false=>
     have q8:jp s2.heap.objs.size=some acc/\Pv (i+1) acc jp:=by simpa using q7
     refine AE ?_
     exact again I7 ∅ q8.1 q8.2 S7.mu (S7.rho.le le6) (Ec.trans (e5.trans (e6.trans e7)))
    |true=>
     refine A5 ?_
     obtain⟨t8,p8,l8⟩:=he fp s3 H3
     refine thn (p8 _ s7 j' H7 (fun v H'=>∃y lw,Ext X.K jp H7 lw H'/\St0 X.K H' mo lw j'/\Rp X.K lw H' y v/\lw s2.heap.objs.size=some acc/\Pv (i+1) (acc++[y]) (aR lw s2.heap.objs.size (acc++[y]))) I7
      (l8 j' H7 mo jp _ _ S7 (by simpa using q7) fun d' v lw H8 e8 S8 r8 q8=>?_)) fun v s8 ⟨v8,H8,I8,r8,y,lw,e8,S8,ry,pa8,fy⟩=>?_
     ·obtain⟨q80,q8⟩:=q8
      cases d' with
      |v y=>exact⟨y,lw,e8,S8,r8,q80,q8⟩
      |m _=>exact q8.elim
      |s _=>exact q8.elim
      |o _=>exact q8.elim
      |q _=>exact q8.elim
     ·obtain⟨us,hacc,rus⟩:=S8.mu s2.heap.objs.size _ pa8
      have hle:acc.length<=1000:=by omega
      refine thn (vF (X:=bU X N' scope cl fp s3 H3) _ s8 j' H8 (.ref s2.heap.objs.size) [v8] (.ref s2.heap.objs.size) [v] (fun _ H'=>H'=upd H8 s2.heap.objs.size (.lst (us++[v8]))) I8 rfl (.cons r8 .nil) ⟨_,us,v8,rfl,rfl,hacc,by rw[<- rus.length];exact jt hle,rfl⟩) fun _ s9 ⟨_,H9,I9,_,e9⟩=>?_
      subst e9
      have ex:Ext X.K lw H8 (aR lw s2.heap.objs.size (acc++[y])) (upd H8 s2.heap.objs.size (.lst (us++[v8]))):=qT pa8
      exact again I9 (by rw[length_append,List.length_singleton];omega) aV fy (S8.mu.set pa8 (rus.append (.cons ry .nil))) ((S8.rho.le le6).ext S8.mu ex) (Ec.trans (e5.trans (e6.trans (e7.trans (e8.trans ex)))))
   ·have ei:i=xs.length:=by omega
    subst ei
    refine thn (T.done (bU X N' scope cl fp s3 H3) rfl rfl rfl (fun z=>z) _ [] s' ii Hc (fun _ _=>False) Ic (stat frc) tc (stop rfl)) fun r s4 ⟨hr,I5⟩=>?_
    subst hr
    obtain⟨m,hn,_⟩:=I5.loc
    have hcC:Hc hp3.objs.size=none:=by have z:Hc s3.heap.objs.size=none:=I5.free;rw[heap3] at z;exact z
    obtain⟨us,hacc,rus⟩:=Sc.mu s2.heap.objs.size _ hpa
    have shr:∀a,io a=none->k6 io s2.heap.objs.size a=none:=fun a e=>by
     unfold k6
     split
     ·rfl
     ·exact e
    have dne:∀a ds,k6 io s2.heap.objs.size a=some ds->io a=some ds:=fun a ds e=>by
     unfold k6 at e
     split at e
     ·cases e
     ·exact e
    have eF:Ext X.K ac H2 (k6 io s2.heap.objs.size) Hc:=by
     refine⟨Ec.keep,Ec.tb,fun b ds q=>?_,fun b q z=>shr b (Ec.fresh b q z)⟩
     obtain⟨es,q2⟩:=Ec.dom b ds q
     have:b≠s2.heap.objs.size:=fun z=>by rw[z,pi] at q;cases q
     exact⟨es,by unfold k6;rw[if_neg this];exact q2⟩
    have mF:cz X.K (k6 io s2.heap.objs.size) Hc:=⟨fun a ds q=>by
     obtain⟨ys,z1,z2⟩:=Sc.mu a ds (dne a ds q)
     exact⟨ys,z1,z2.shrink shr⟩,Sc.mu.tab⟩
    refine hend s4 Hc hp3.objs.size s2.heap.objs.size m acc (k6 io s2.heap.objs.size) (by have z:s4.heap.Ns s3.heap.objs.size m:=hn;rw[heap3] at z;exact z) (I2.Nq (by rw[hsz3];exact Nat.le_succ _) hcC) (fun h' hs'=>?_) (e1.trans eF) ⟨mF,S1.rho.ext S1.mu eF⟩ (Rp.list hacc (by unfold k6;rw[if_pos rfl]) (rus.shrink shr)) (fin acc io pvi hpa)
    have kp:∀b o,b<s2.heap.objs.size->s4.heap.get? b=some o->h'.get? b=some o:=fun b o hb e=>hs'.extBut b o (by rw[hsz3];exact ne_of_lt (Nat.lt_succ_of_lt hb)) e
    have hok':HOk X.prog X.w Hc h':=fun b ob e=>by
     refine (I5.hok b ob e).Ah (fun cc v hcc q=>hs'.extBut cc v ?_ q) (fun _ q=>q) fun _ _ q=>q
     rintro rfl
     rcases hcc with z|z
     ·rw[<- z,hcC] at e;cases e
     ·rw[hcC] at z;cases z
    have u1:Un (frs X.stack) fp H2 H3 s2.heap s3.heap:=by rw[heap3,hH3];exact Un.laid old3 (Nat.le_refl _) hfree2
    have u2:Un (frs X.stack) fp H3 Hc s3.heap s4.heap:=I5.base
    exact I2.FK (ch:=fp) (by show s4.os=s2.os;have z:s4.os=s3.os:=I5.os;rw[z,hs3]) (Un.after (u1.trans u2) kp) hok' I5.bare fun b hb=>⟨(f2 b hb).2.2.2.1,(f2 b hb).2.1,(f2 b hb).2.2.2.2.1,(f2 b hb).2.2.2.2.2⟩
  ·have z:b≠s2.heap.objs.size:=ne_of_lt (fplt b hb)
   rw[hH3,bK z]
   exact (f2 b hb).1
  ·have ex:=oU (o:=.lst []) (ds:=[]) S1.mu hfree2 hK2
   rw[hH3]
   exact⟨S1.mu.mut .nil hfree2 hK2,(S1.rho.ext S1.mu ex).cap⟩
  ·rw[hH3]
   exact oU (o:=.lst []) (ds:=[]) S1.mu hfree2 hK2
 have envE:(bU X N' scope cl fp s3 H3).env=compEnvC scope cl hp3.objs.size X.env:=by show compEnvC scope cl s3.heap.objs.size X.env=_;rw[heap3]
 rw[envE] at loop
 exact codeAny_compStart_list loop (T.self X.A 0 _ _ _ (T.keep 0 _ _ st2 (fun b hb o e=>kept3 b o (old3 b o e))) loop)
theorem ns_obj{h:Heap}{C:Addr}{m:Str->Option Value}(hn:h.Ns C m):∃o,h.get? C=some o/\∀v,o.data≠.cell v:=let ⟨o,es,ep,ho,hd,_⟩:=hn;⟨o,ho,fun v z=>by rw[hd] at z;cases z⟩
theorem OG{h h':Heap}{C:Addr}{m:Str->Option Value}(hn:h.Ns C m)(e:h'.get? C=h.get? C):h'.Ns C m:=let ⟨o,es,ep,ho,r⟩:=hn;⟨o,es,ep,e.trans ho,r⟩
theorem HM{X:Cx}{i:Nat}{x:Str}{pos' spos:Pos}{N':List Str}{scope:Scope}{cl:List (Str×Addr)}{elt iter tg:Expr}{ifs:List Expr}{pos:Pos}{cap:List (Option Nat)}{src:DTI}{g:DTG}{c:DTT}{te:DTE}(hN:X.N.Nodup)(hix:X.N[i]? = some x)(hx:X.env.scope.names.lookup x=some .local)(hc:X.calm=X.calm)
  (hi:DI X tg iter src) (hg:∀fp ge gl,DG (bU X N' scope cl fp ge gl) tg g) (hif:∀fp ge gl,ML (bU X N' scope cl fp ge gl) ifs c) (he:∀fp ge gl,DE (bU X N' scope cl fp ge gl) elt te)
  (hclos:closureFor scope X.env=pure cl) (hcell:∀y∈scope.names,y.2≠.cell) (hkind:scope.kind = .function) (hnames:∀y∈scope.names,y.2 = .local->scope.names.lookup y.1=some .local)
  (hcl:∀x a,cl.lookup x=some a->X.env.cells.lookup x=some a) (hhas:∀x,(relabel scope X.env).names.lookup x=some .cell\/(relabel scope X.env).names.lookup x=some .free->∃a,cl.lookup x=some a)
  (hlen:cap.length=N'.length) (hcap:∀(i j:Nat) (x:Str),cap[i]? = some (some j)->N'[i]? = some x->X.N[j]? = some x/\Vis X.env.scope x/\X.env.kindOf x≠some .local/\((relabel scope X.env).names.lookup x=some .cell\/(relabel scope X.env).names.lookup x=some .free))
  (hs:∀x,foldedSetIterable iter X.env x=pure x:=by intro _;rfl)
  (hsw:swapsWith (.ListComp elt [⟨tg,iter,ifs,0⟩] scope pos) (some (.Name x pos')) spos.line X.env=pure true:=by rfl):DS X (.Assign [.Name x pos'] (.ListComp elt [⟨tg,iter,ifs,0⟩] scope pos) spos) (bA (sQ cap src g c te) (az i)):=by
 refine⟨fun D Z H=>∃ρ U Dd,St0 X.K H ρ U Z/\bA (sQ cap src g c te) (az i) Dd ρ U/\(∀am bi Y H',Ext X.K U H Y H'->St0 X.K H' bi Y am->Dd.nx bi Y->D.nx am H'),?_,fun Z H ρ U Dd De S h k1 k2 k3 k4=>⟨ρ,U,Dd,S,h,k1⟩⟩
 rintro pins s Z H D I ⟨ρ,U,Dd,S,h,k1⟩
 rw[exec_Assign_Name_used _ _ _ _ hsw]
 refine wpAny_bind (wpAny_standAt ?_)
 show wpAny _ _ ((comprehension (.ListComp elt [⟨tg,iter,ifs,0⟩] scope pos) scope X.env (firstIterPos [⟨tg,iter,ifs,0⟩] pos) (newList []) false (eval iter X.env) (some (assign (.Name x pos') X.env))>>=fun _=>pure ())>>=_) _ _ s
 refine wpAny_bind (wpAny_bind (JO (Qd:=fun d ac=>az i d ρ ac Dd.nx) hc hi hg hif he hclos hcell hkind hnames hcl hhas hlen hcap hs I S h fun s4 Hc C pa m acc sB hn fC hI e1 S1 r q=>?_))
 have I4:Inv X pins Z Hc s4:=hI s4.heap (Heap.SameBut.refl _ _)
 obtain⟨oC,hoC,hdC⟩:∃o,s4.heap.get? C=some o/\∀v,o.data≠.cell v:=by
  obtain⟨o,h1,h2⟩:=ns_obj hn
  exact⟨o,h1,h2⟩
 have I5:=I4.pinned (fp:=[C]) (fun b hb=>by rw[List.mem_singleton.mp hb];exact fC) (fun b hb=>by rw[List.mem_singleton.mp hb];exact⟨oC,hoC,hdC⟩)
 show wpAny _ _ (assign (.Name x pos') X.env (.ref pa)) _ _ s4
 refine wpAny_assign_Name (mK I5 hN hix (Or.inl hx) (show RelV (.ref pa) (.ref pa) from rfl) (fun s' I'=>?_) (.inr hx))
 have keepC:s'.heap.get? C=some oC:=(I'.pin (C,oC) (mem_append_right _ (mem_append_right _ (gC (List.mem_singleton.mpr rfl) hoC)))).1
 have hn':s'.heap.Ns C m:=OG hn (by rw[keepC,hoC])
 refine⟨m,hn',fun h' hs'=>wpAny_pure (wpAny_pure ?_)⟩
 refine⟨Z.set i (some (.ref pa)),Hc,?_,k1 _ _ _ _ e1 ⟨S1.mu,S1.rho.set (d:=.v (.list acc)) r⟩ q⟩
 refine I'.mV.FK (ch:=[C]) rfl ⟨fun b o e n hb hx=>?_,fun b o e n hb hx=>?_,fun b o e n hx=>n,fun b o e hx=>?_,fun b xs e=>e,fun b o u e=>e,fun b ps e=>⟨#[],by rw[Array.append_empty];exact e⟩⟩ ?_ I'.bare fun b hb=>?_
 ·exact hs'.extBut b o (fun z=>hx (List.mem_singleton.mpr z)) e
 ·exact⟨o.slots,hs'.extBut b o (fun z=>hx (List.mem_singleton.mpr z)) e⟩
 ·exact⟨o,hs'.extBut b o (fun z=>hx (List.mem_singleton.mpr z)) e⟩
 ·exact fun b ob e=>by
   refine (I'.hok b ob e).Ah (fun cc v hcc q=>hs'.extBut cc v ?_ q) (fun _ q=>q) fun _ _ q=>q
   rintro rfl
   rcases hcc with z|z
   ·rw[<- z,fC.1] at e;cases e
   ·rw[fC.1] at z;cases z
 ·rw[List.mem_singleton.mp hb]
  exact⟨fC.2.2.2.1,fC.2.1,fC.2.2.2.2.1,fC.2.2.2.2.2⟩
theorem Cd{cap:List (Option Nat)}{src:DTI}{g:DTG}{t:DTT}{ta:DTE}{ρ:Rho}{U:Mu}{Q:DK}:sQ cap src g t ta ρ U Q=src ρ U fun xs ac=>xs.length<=1000/\∀p,ac p=none->∃Pv:Nat->List PyData->Mu->Prop,Pv 0 [] (aR ac p []) /\
 (∀i x acc Y,xs[i]? = some x->Y p=some acc->Pv i acc Y->g (.v x) (dj cap ρ) Y fun em ad=>Le (dj cap ρ) em/\t em ad fun b db=>
  if b=true then ta em db fun d dL=>dL p=some acc/\(match d with|.v y=>Pv (i+1) (acc++[y]) (aR dL p (acc++[y]))|_=>False) else db p=some acc/\Pv (i+1) acc db) /\
 (∀acc Y,Pv xs.length acc Y->Y p=some acc->Q (.v (.list acc)) (k6 Y p)):=propext Iff.rfl
theorem BF{U:Mu}{p:Addr}{ds:List PyData}(h:U p=none):k6 (aR U p ds) p=U:=by
 funext b
 unfold k6 aR
 by_cases e:b=p
 ·rw[if_pos e,e,h]
 ·rw[if_neg e,if_neg e]
theorem RT{xs:List PyData}{f:PyData->Option PyData}{i:Nat}{d:PyData}(h:xs[i]? = some d):(xs.take (i+1)).filterMap f=(xs.take i).filterMap f++(f d).toList:=yn h
section
variable {X:Cx}{es:List Expr}{x1:Nat}{tpos:Pos}
def OJ:List PyData->List PyData->List PyData
 |x::xs,y::ys=>.tuple [x,y]::OJ xs ys
 |_,_=>[]
noncomputable def Uv(t:DTA):DTI:=fun ρ U Q=>t ρ U fun ds ac=>match ds with
 |[.v (.list xs),.v (.list ys)]=>Q (OJ xs ys) ac
 |_=>False
end
section
variable {X:Cx}{a b e:Expr}{es:List Expr}{ta tb te:DTE}{t:DTA}{p pos:Pos}
def lW:List D->Mu->DK->Prop:=fun xs U Q=>match xs with
 |[.v (.list ys)]=>Q (.v (.tuple ys)) U
 |[.v (.tuple ys)]=>Q (.v (.tuple ys)) U
 |[.m l]=>(match U l with|some ys=>Q (.v (.tuple ys)) U|none=>False)
 |_=>False
theorem Ky{K:PySem.W.Frag}:qB K (fun xs H Q=>∃p ys,xs=[.ref p]/\((SqL K H p ys/\∀l,H l=none->Q (.ref l) (upd H l (.tup ys)))\/(SqT K H p ys/\Q (.ref p) H))) lW:=by
 intro xs us H U Qd Q ok rs h k
 unfold lW at h
 split at h
 ·cases rs with
  |cons r1 r2=>
   cases r2
   cases r1 with
   |list hs hn r=>exact⟨_,_,rfl,.inl ⟨SqL.of hs,fun l hl=>k (.v _) _ U _ (cC hl) (ok.new hl) (jl ok r hl) h⟩⟩
 ·cases rs with
  |cons r1 r2=>
   cases r2
   cases id r1 with
   |tuple hs r=>exact⟨_,_,rfl,.inr ⟨hs,k (.v _) _ U H .refl ok r1 h⟩⟩
 ·cases rs with
  |cons r1 r2=>
   cases r2
   obtain⟨rfl,ds,hm⟩:=r1
   rw[hm] at h
   obtain⟨us,hl,r⟩:=ok _ ds hm
   exact⟨_,_,rfl,.inl ⟨SqL.of hl,fun l hl'=>k (.v _) _ U _ (cC hl') (ok.new hl') (jl ok r hl') h⟩⟩
 ·exact h.elim
theorem EU(hg:Gl X "tuple")(hm:X.mg "tuple"=none)(ha:DA X (e::es) t)
  (he:starEach (e::es) X.env=(false,eval e X.env)::starEach es X.env:=by rfl) (hpl:(backTo pos (starEach es X.env)).any (·.1)=false:=by rfl):DE X (.Call (.Name "tuple" p) (e::es) [] pos) (dCB lW t):=
 rB A0 Ky hg hm PyProof.Rows.Boot.«tuple» ha ⋯ ⋯ he hpl
theorem ET{ys:List PyData}{U:Mu}{Q:DK}:lW [.v (.list ys)] U Q=Q (.v (.tuple ys)) U:=propext Iff.rfl
theorem Fq{ys:List PyData}{U:Mu}{Q:DK}:lW [.v (.tuple ys)] U Q=Q (.v (.tuple ys)) U:=propext Iff.rfl
theorem EE{l:Addr}{U:Mu}{Q:DK}:lW [.m l] U Q=(match U l with|some ys=>Q (.v (.tuple ys)) U|none=>False):=propext Iff.rfl
def E6:D->D->Mu->DK->Prop:=fun x y U Q=>match x,y with
 |.v (.list xs),.v (.int k)=>(0<=k/\k<=1000/\xs.length*k.toNat<=1000)/\Q (.v (.list (List.replicate k.toNat xs).flatten)) U
 |_,_=>False
theorem RpL.rep{K:PySem.W.Frag}{U:Mu}{H:Hp}{ds:List PyData}{us:List V}(r:RpL K U H ds us):∀n:Nat,RpL K U H (List.replicate n ds).flatten (List.replicate n us).flatten
 |0=>.nil
 |n+1=>by rw[replicate_succ,flatten_cons,replicate_succ,flatten_cons];exact r.append (RpL.rep r n)
theorem Pt{K:PySem.W.Frag}:jZ K R4 E6:=by
 intro x y ux uy H U Qd Q ok rx ry h k
 unfold E6 at h
 split at h
 ·rename_i xs n
  cases ry
  cases rx with
  |@list a us _ ha hn ra=>exact⟨a,n,us,rfl,rfl,ha,∅,∅,yu (by rw[<- ra.length];exact h.1.2.2),fun p hp=>k (.v _) _ U _ (cC hp) (ok.new hp) (dU ok (ra.rep _) hp) h.2⟩
 ·exact h.elim
theorem Qm(ha:DE X a ta)(hb:DE X b tb):DE X (.BinOp a .Mult b pos) (dOp E6 ta tb):=xJ Rb Pt ha hb
theorem OO{xs:List PyData}{k:Int}{U:Mu}{Q:DK}:E6 (.v (.list xs)) (.v (.int k)) U Q=((0<=k/\k<=1000/\xs.length*k.toNat<=1000)/\Q (.v (.list (List.replicate k.toNat xs).flatten)) U):=propext Iff.rfl
end
theorem cl1{k:Str}{v:Addr}{r:List (Str×Addr)}{x:Str}{a:Addr}(h:List.lookup x [(k,v)]=some a):List.lookup x ((k,v)::r)=some a:=by
 simp only[lookup_cons] at h ⊢
 cases e:x==k with
 |true=>rw[e] at h;exact h
 |false=>rw[e] at h;exact absurd h (by simp)
theorem cl2{k k':Str}{v v':Addr}{r:List (Str×Addr)}{x:Str}{a:Addr}(n:(k==k')=false)(h:List.lookup x [(k,v)]=some a):List.lookup x ((k',v')::(k,v)::r)=some a:=by
 have g:=cl1 (r:=r) h
 simp only[lookup_cons] at h
 cases e:x==k with
 |true=>
  have e':x=k:=by simpa using e
  subst e'
  rw[lookup_cons,n]
  exact g
 |false=>rw[e] at h;exact absurd h (by simp)
section
variable {X:Cx}{a b c:Expr}{ta tb tc:DTE}{pos:Pos}
theorem K5{op op':CmpOp}{rr rr':R2}{r r':D->D->Mu->DK->Prop}(ho:OpR X (compareOp op) rr)(lo:jZ X.K rr r)(ho':OpR X (compareOp op') rr')(lo':jZ X.K rr' r')(ha:DE X a ta)(hb:DE X b tb)(hc:DE X c tc)
  (hm:lastMarks [op,op'] [b,c]=false:=by with_unfolding_all rfl):DT X (.Compare a [op,op'] [b,c] pos) (dB (GB r r' ta tb tc)):=by
 obtain⟨t1,p1,l1⟩:=ha
 obtain⟨t2,p2,l2⟩:=hb
 obtain⟨t3,p3,l3⟩:=hc
 refine⟨_,Ls ho ho' p1 p2 p3 hm,wM (fun Z H ρ U Qd Q S h k=>?_)⟩
 refine l1 Z H ρ U _ _ S h fun x ux ac H1 e1 S1 rx h1=>?_
 refine l2 Z H1 ρ ac _ _ S1 h1 fun y uy ad H2 e2 S2 ry h2=>?_
 refine lo x y ux uy H2 ad _ _ S2.mu (rx.ext S1.mu e2) ry h2 fun z uz db H3 e3 ok3 rz h3=>?_
 have S3:St0 X.K H3 ρ db Z:=⟨ok3,S2.rho.ext S2.mu e3⟩
 split at h3
 ·rename_i kk
  cases rz
  refine⟨kk,rfl,?_⟩
  cases kk with
  |true=>
   refine A5 ?_
   refine l3 Z H3 ρ db _ _ S3 (by simpa using h3) fun w uw dL H4 e4 S4 rw' h4=>?_
   exact lo' y w uy uw H4 dL _ _ S4.mu ((ry.ext S2.mu e3).ext S3.mu e4) rw' h4 fun d u Y H' e5 ok r q=>k d u Y H' (e1.trans (e2.trans (e3.trans (e4.trans e5)))) ⟨ok,S4.rho.ext S4.mu e5⟩ r q
  |false=>exact AE (k (.v (.bool false)) _ db H3 (e1.trans (e2.trans e3)) S3 (Rp.bool false) (by simpa using h3))
 ·exact h3.elim
theorem cl3{k k':Str}{v v':Addr}{x:Str}{a:Addr}(n:(k==k')=false)(h:List.lookup x [(k,v),(k',v')]=some a):List.lookup x [(k',v'),(k,v)]=some a:=by
 simp only[lookup_cons,List.lookup_nil] at h ⊢
 cases e:x==k with
 |true=>
  have e':x=k:=by simpa using e
  subst e'
  rw[e] at h
  rw[n]
  exact h
 |false=>
  rw[e] at h
  cases e2:x==k' with
  |true=>rw[e2] at h;exact h
  |false=>rw[e2] at h;exact absurd h (by simp)
end
def KO(cells:List (Str×Addr)):List (Str×Addr)->Prop
 |[]=>True
 |(k,v)::r=>cells.lookup k=some v/\KO cells r
theorem Fo{cells:List (Str×Addr)}:KO cells []:=trivial
theorem iG{cells r:List (Str×Addr)}{k:Str}{v:Addr}(h:cells.lookup k=some v)(t:KO cells r):KO cells ((k,v)::r):=⟨h,t⟩
theorem tJ{cells:List (Str×Addr)}:∀{cl:List (Str×Addr)},KO cells cl->∀x a,cl.lookup x=some a->cells.lookup x=some a
 |[],_,_,_,h=>by simp at h
 |(k,v)::r,c,x,a,h=>by
  rw[lookup_cons] at h
  cases e:x==k with
  |true=>
   have e':x=k:=by simpa using e
   rw[e] at h
   subst e'
   rw[c.1];exact h
  |false=>
   rw[e] at h
   exact tJ c.2 x a h
noncomputable def Fly(O:Addr->Prop)(h:Heap)(e:Addr)(cls fl:Value):Prop:=(∀b,O b->b<h.objs.size)/\∃oe vs T oT ts,h.get? e=some oe/\oe.cls=cls/\oe.data = .fields vs/\vs[1]? = some (.ref T)/\vs[2]? = some .none/\¬ O e/\¬ O T/\T≠e/\h.get? T=some oT/\oT.data = .fields ts/\ts[3]? = some fl
structure Kp(O:Addr->Prop)(fs:List Addr)(h h':Heap):Prop where
 keep:∀b o,h.get? b=some o->O b->b ∉ fs->h'.get? b=some o
 slot:∀b o,h.get? b=some o->(∀vs,o.data≠.fields vs)->∃sl,h'.get? b=some {o with slots:=sl}
section
variable {O:Addr->Prop}{fs:List Addr}{h h1 h2:Heap}
theorem Kp.trans(a:Kp O fs h h1)(b:Kp O fs h1 h2):Kp O fs h h2:=⟨fun c o e l f=>b.keep c o (a.keep c o e l f) l f,fun c o e d=>let ⟨_,e1⟩:=a.slot c o e d;let ⟨sl,e2⟩:=b.slot c _ e1 d;⟨sl,e2⟩⟩
theorem Kp.of(k:∀b o,h.get? b=some o->h1.get? b=some o):Kp O fs h h1:=⟨fun b o e _ _=>k b o e,fun b o e _=>⟨o.slots,k b o e⟩⟩
theorem Kp.frames{base:Heap}{l:List Env}(a:Kp O fs h h1)(k:h.FunFrames base l):h1.FunFrames base l:=k.of_keeps fun b o e d=>let ⟨_,e1⟩:=a.slot b o e d;⟨_,e1,rfl⟩
end
section
variable {M:Model}{A:Around}{E:Value->Shared->Prop}{s:Shared}{O:Addr->Prop}{e L:Addr}{cls fl:Value}{env:Env}{outer:List Env}{base:Heap}{Q:Unit->Shared->Prop}
theorem D4{oe:Obj}{vs:Array Value}{head:Value}{hadNext:Bool}(hfr:A.frames=some (env::outer))(hl:s.heap.FunFrames base (env::outer))(hf:env.frame=some L)
  (he:s.heap.get? e=some oe) (hc:oe.cls=cls) (hd:oe.data = .fields vs) (hz:1<vs.size) (h2:vs[2]? = some .none) (hO:∀b,O b->b<s.heap.objs.size) (hn:¬ O e)
  (k:∀h',Kp O (frs (env::outer)) s.heap h'->Fly O h' e cls (rawInt L)->Q () {s with heap:=h'}) :
  wpAny M A (do let a <- frameOf env;let pl <- entryPlaceOf L hadNext;let b <- EntryCells.newEntry head a .none (rawInt L) .none pl;setField (.ref e) 1 b) Q E s:=by
 have ene:e ∉ frs (env::outer):=fun hm=>by
  obtain⟨_,o,ho,hnf⟩:=hl.mem hm
  rw[he] at ho
  exact hnf vs (by rw[<- Option.some.inj ho];exact hd)
 refine wpAny_bind (wpAny_frameOf_fun hfr hl hf fun g1 s1=>wpAny_bind (wpAny_entryPlaceOf fun pl hpl=>?_))
 unfold EntryCells.newEntry newFields;refine wpAny_bind (wpAny_newObj_type ?_ (hpl.sizeOk5 _ _ _ _ _))
 generalize hob:({cls:=.type "traceback",dict:=none,data:=.fields ([head,.ref L,.none,rawInt L,.none]++(if pl.isEmpty then List.replicate 6 Value.none else pl)).toArray}:Obj)=ob
 have e1:g1.get? e=some oe:=(s1.2.1 e ene).trans he
 have e2:(g1.push ob).get? e=some oe:=Heap.get?_push_of_some ob e1
 have neT:g1.objs.size≠e:=Nat.ne_of_gt (Heap.lt_size e1)
 have d3:=Obj.data_mapFields hd (·.setIfInBounds 1 (Value.ref g1.objs.size))
 have szs:¬ O g1.objs.size:=fun z=>absurd (hO _ z) (by rw[s1.1];exact lt_irrefl _)
 refine wpAny_setField e2 hd hz (k _ ⟨fun b o q l f=>?_,fun b o q d=>?_⟩ ?_)
 ·have bne:e≠b:=fun z=>hn (by rw[z];exact l)
  rw[Heap.get?_update_other _ _ bne]
  exact Heap.get?_push_of_some _ ((s1.2.1 b f).trans q)
 ·have bne:e≠b:=fun z=>by rw[<- z,he] at q;exact d vs (by rw[<- Option.some.inj q];exact hd)
  obtain⟨sl,q1⟩:=s1.2.2 b o q
  exact⟨sl,by rw[Heap.get?_update_other _ _ bne];exact Heap.get?_push_of_some _ q1⟩
 ·refine⟨fun b z=>lt_of_lt_of_le (hO b z) (by rw[Heap.size_after_update,Heap.size_push,s1.1];exact Nat.le_succ _),_,_,g1.objs.size,ob,_,Heap.get?_update_self _ e2 (Obj.isFreed_of_fields d3),(Obj.cls_mapFields ..).trans hc,d3,by simp[hz],by rw[Array.getElem?_setIfInBounds_ne ⋯];exact h2,hn,szs,neT,?_,by rw[<- hob],?_⟩
  ·rw[Heap.get?_update_other _ _ (Ne.symm neT)]
   exact Heap.get?_push_size g1 (by rw[<- hob];rfl)
  ·rcases hpl with z|⟨_,_,_,_,_,_,_,z⟩<;>(rw[z];rfl)
theorem Gh{oe:Obj}{vs:Array Value}(hfr:A.frames=some (env::outer))(hl:s.heap.FunFrames base (env::outer))(hf:env.frame=some L)
  (he:s.heap.get? e=some oe) (hc:oe.cls=cls) (hd:oe.data = .fields vs) (h1:vs[1]? = some .none) (h2:vs[2]? = some .none) (hO:∀b,O b->b<s.heap.objs.size) (hn:¬ O e)
  (k:∀h',Kp O (frs (env::outer)) s.heap h'->Fly O h' e cls (rawInt L)->Q () {s with heap:=h'}):wpAny M A (noteFrame (.ref e) env) Q E s:=by
 unfold noteFrame;simp only[hf]
 refine wpAny_bind (wpAny_field he hd h1 ?_)
 rw[if_neg ⋯]
 exact D4 hfr hl hf he hc hd (Array.getElem?_eq_some_iff.mp h1).1 h2 hO hn k
theorem Bq(hfr:A.frames=some (env::outer))(hl:s.heap.FunFrames base (env::outer))(hf:env.frame=some L)(F:Fly O s.heap e cls .none)
  (k:∀h',Kp O (frs (env::outer)) s.heap h'->Fly O h' e cls (rawInt L)->Q () {s with heap:=h'}):wpAny M A (noteFrame (.ref e) env) Q E s:=by
 obtain⟨hO,oe,vs,T,oT,ts,he,hc,hd,h1,h2,hn,hT,nT,gT,dT,h3⟩:=F
 unfold noteFrame;simp only[hf]
 refine wpAny_bind (wpAny_field he hd h1 ?_)
 rw[if_pos (by simp)]
 refine wpAny_bind (wpAny_field gT dT h3 ?_)
 rw[if_neg (by simp[rawInt])]
 have oth:∀b,b≠T->(s.heap.update T (Obj.mapFields (·.setIfInBounds 3 Value.none))).get? b=s.heap.get? b:=fun b hb=>Heap.get?_update_other _ _ (Ne.symm hb)
 have kp:Kp O (frs (env::outer)) s.heap (s.heap.update T (Obj.mapFields (·.setIfInBounds 3 Value.none))):=
  ⟨fun b o q l _=>(oth b fun z=>hT (by rw[<- z];exact l)).trans q,fun b o q d=>⟨o.slots,(oth b fun z=>by rw[z,gT] at q;exact d ts (by rw[<- Option.some.inj q];exact dT)).trans q⟩⟩
 refine wpAny_bind (wpAny_setField gT dT (Array.getElem?_eq_some_iff.mp h3).1 ?_)
 exact D4 (s:={s with heap:=s.heap.update T (Obj.mapFields (·.setIfInBounds 3 Value.none))}) hfr (kp.frames hl) hf ((oth e (Ne.symm nT)).trans he) hc hd (Array.getElem?_eq_some_iff.mp h1).1 h2 (fun b z=>by rw[Heap.size_after_update];exact hO b z) hn fun h' a b=>k h' (kp.trans a) b
theorem lL{fs:List Addr}(F:Fly O s.heap e cls fl)(k:∀h',Kp O fs s.heap h'->Fly O h' e cls .none->Q () {s with heap:=h'}):wpAny M A (setFlight (.ref e) none) Q E s:=by
 obtain⟨hO,oe,vs,T,oT,ts,he,hc,hd,h1,h2,hn,hT,nT,gT,dT,h3⟩:=F
 have z3:3<ts.size:=(Array.getElem?_eq_some_iff.mp h3).1
 unfold setFlight
 refine wpAny_bind (wpAny_field he hd h1 ?_)
 rw[if_pos (by simp)]
 have oth:∀b,b≠T->(s.heap.update T (Obj.mapFields (·.setIfInBounds 3 ((none:Option Addr).elim Value.none fun f=>rawInt f)))).get? b=s.heap.get? b:=fun b hb=>Heap.get?_update_other _ _ (Ne.symm hb)
 refine wpAny_setField gT dT z3 (k _ ⟨fun b o q l _=>(oth b fun z=>hT (by rw[<- z];exact l)).trans q,fun b o q d=>⟨o.slots,(oth b fun z=>by rw[z,gT] at q;exact d ts (by rw[<- Option.some.inj q];exact dT)).trans q⟩⟩ ?_)
 exact⟨fun b z=>by rw[Heap.size_after_update];exact hO b z,oe,vs,T,_,_,(oth e (Ne.symm nT)).trans he,hc,hd,h1,h2,hn,hT,nT,Heap.get?_update_self _ gT (Obj.isFreed_of_fields (Obj.data_mapFields dT _)),Obj.data_mapFields dT _,by simp[z3]⟩
theorem FC{oe:Obj}{vs:Array Value}(hfr:A.frames=some (env::outer))(hl:s.heap.FunFrames base (env::outer))(hf:env.frame=some L)
  (he:s.heap.get? e=some oe) (hc:oe.cls=cls) (hd:oe.data = .fields vs) (h1:vs[1]? = some .none) (h2:vs[2]? = some .none) (hO:∀b,O b->b<s.heap.objs.size) (hn:¬ O e)
  (k:∀h',Kp O (frs (env::outer)) s.heap h'->Fly O h' e cls .none->Q () {s with heap:=h'}):wpAny M A (leaving env (.ref e)) Q E s:=by
 unfold leaving
 exact wpAny_bind (Gh hfr hl hf he hc hd h1 h2 hO hn fun h' a b=>lL (s:={s with heap:=h'}) b fun h'' a' b'=>k h'' (a.trans a') b')
theorem GP(hfr:A.frames=some (env::outer))(hl:s.heap.FunFrames base (env::outer))(hf:env.frame=some L)(F:Fly O s.heap e cls .none)
  (k:∀h',Kp O (frs (env::outer)) s.heap h'->Fly O h' e cls .none->Q () {s with heap:=h'}):wpAny M A (leaving env (.ref e)) Q E s:=by
 unfold leaving
 exact wpAny_bind (Bq hfr hl hf F fun h' a b=>lL (s:={s with heap:=h'}) b fun h'' a' b'=>k h'' (a.trans a') b')
end
noncomputable def CX1(P:Program)(w:World):CXT:=fun outer H s E e s'=>∃(O:Addr->Prop) (ea:Addr) (cls:Value) (H':Hp),e = .ref ea/\s'.os=s.os/\AllBare s'.gens/\Un (frs outer) [] H H' s.heap s'.heap/\HOk P w H' s'.heap /\
 (∀b o,s.heap.get? b=some o->O b)/\(∀b,H' b≠none->O b)/\Fly O s'.heap ea cls .none/\E cls none H'
theorem Un.fly{fs:List Addr}{L:Addr}{H H':Hp}{h h1 h2:Heap}{O:Addr->Prop}(u:Un fs [] H H' h h1)(k:Kp O (L::fs) h1 h2)(hO:∀b o,h.get? b=some o->O b)(hL:∀o,h.get? L≠some o)(hd:∀b∈fs,∀o,h1.get? b=some o->∀vs,o.data≠.fields vs):Un fs [] H H' h h2 where
 keep:=fun b o e n f x=>k.keep b o (u.keep b o e n f x) (hO b o e) fun z=>by
  rcases List.mem_cons.mp z with z|z
  ·exact hL o (by rw[<- z];exact e)
  ·exact f z
 slot:=fun b o e n f x=>by
  obtain⟨sl,e1⟩:=u.slot b o e n f x
  obtain⟨sl',e2⟩:=k.slot b _ e1 (hd b f _ e1)
  exact⟨sl',e2⟩
 free:=u.free
 there:=fun b o e x=>by
  obtain⟨o1,e1⟩:=u.there b o e x
  by_cases f:b∈fs
  ·obtain⟨sl,e2⟩:=k.slot b _ e1 (hd b f _ e1)
   exact⟨_,e2⟩
  ·exact⟨o1,k.keep b o1 e1 (hO b o e) fun z=>by
    rcases List.mem_cons.mp z with z|z
    ·exact hL o (by rw[<- z];exact e)
    ·exact f z⟩
 sF:=u.sF
 rD:=u.rD
 rC:=u.rC
theorem HOk.fly{P:Program}{w:World}{H:Hp}{h h1:Heap}{O:Addr->Prop}{fs:List Addr}(x:HOk P w H h)(k:Kp O fs h h1)(hO:∀b,H b≠none->O b)(hf:∀b∈fs,H b=none):HOk P w H h1:=fun a o e=>by
 refine (x a o e).Ah (fun b u hb q=>?_) (fun _ q=>q) fun _ _ q=>q
 have hb':H b≠none:=by
  rcases hb with rfl|hb
  ·rw[e];exact fun z=>nomatch z
  ·rw[hb];exact fun z=>nomatch z
 exact k.keep b u q (hO b hb') fun z=>hb' (hf b z)
theorem Jy{P:Program}{w:World}{H:Hp}{h:Heap}{a:Addr}{o:HO}(x:lh P w H h a o):∃u,h.get? a=some u:=by
 cases o with
 |lst xs=>obtain⟨_,_,_,_,e⟩:=x;exact⟨_,e⟩
 |tup xs=>obtain⟨_,_,_,_,e,_⟩:=x;exact⟨_,e⟩
 |dK kvs=>obtain⟨_,_,_,_,_,_,_,e,_⟩:=x;exact⟨_,e⟩
 |dT kvs=>obtain⟨_,_,_,_,_,_,_,e,_⟩:=x;exact⟨_,e⟩
 |set S n=>obtain⟨_,_,_,_,e,_⟩:=x;exact⟨_,e⟩
 |ins C dx fs=>obtain⟨_,_,_,e,_⟩:=x;exact⟨_,e⟩
 |own y=>exact x
 |xd fs=>obtain⟨_,⟨_,_,_,e,_⟩,_⟩:=x;exact⟨_,e⟩
 |rng lo hi=>obtain⟨_,_,_,e⟩:=x;exact⟨_,e⟩
 |frz ob u=>obtain⟨e,_⟩:=x;exact⟨_,e⟩
 |tbl ps=>exact⟨_,(show h.get? a=some _ from x)⟩
 |met f y=>exact⟨_,(show h.get? a=some _ from x)⟩
 |ext φ=>obtain⟨_,e,_⟩:=x;exact e
section
variable {X:Cx}{pins:List (Addr×Obj)}{Z:St}{H:Hp}{s:Shared}{O:Addr->Prop}{ea:Addr}{cls:Value}{E:XK}{base:Heap}
structure Frm(X:Cx):Prop where
 stk:X.stack=X.env::X.outer
 fr:X.env.frame=some X.env.locals
 ex:X.ex=[]
theorem ui(hF:Frm X):frs (X.env::X.outer)=X.env.locals::X.fs:=by
 unfold Cx.fs frs
 rw[filterMap_cons,hF.fr]
theorem DN(I:Inv X pins Z H s):∀b∈X.fs,∀o,s.heap.get? b=some o->∀vs,o.data≠.fields vs:=fun b hb o e vs=>by
 obtain⟨_,o',e',d⟩:=I.sV.mem hb
 rw[e] at e'
 rw[Option.some.inj e']
 exact d vs
theorem IP(I:Inv X pins Z H s):∀o,X.dl.heap.get? X.env.locals≠some o:=fun o e=>absurd (Heap.lt_size e) (Nat.not_lt.mpr I.ok.above)
theorem E4(hF:Frm X)(I:Inv X pins Z H s):∀b∈frs (X.env::X.outer),H b=none:=fun b hb=>by
 rw[ui hF] at hb
 rcases List.mem_cons.mp hb with e|hb
 ·rw[e];exact I.free
 ·exact I.ye b (by rw[hF.stk,ui hF];exact mem_cons_of_mem _ hb)
theorem xa(hF:Frm X)(I:Inv X pins Z H s):s.heap.FunFrames X.base (X.env::X.outer):=by
 have:=I.stack
 rw[hF.stk] at this
 exact this
theorem MB(hF:Frm X)(I:Inv X pins Z H s)(hO:∀b o,X.dl.heap.get? b=some o->O b)(ht:∀b,H b≠none->O b){h':Heap}(k:Kp O (frs (X.env::X.outer)) s.heap h')(F:Fly O h' ea cls .none)(q:E cls none H) :
  CX1 X.prog X.w X.outer X.H₀ X.dl E (.ref ea) {s with heap:=h'}:=by
 refine⟨O,ea,cls,H,rfl,I.os,I.bare,?_,HOk.fly I.hok k ht (E4 hF I),hO,ht,F,q⟩
 rw[ui hF] at k
 have u:=I.base
 rw[hF.ex] at u
 exact Un.fly u k hO (IP I) (DN I)
theorem leave_new{vs:List Value}{h1:Heap}{Qe:Value->Shared->Prop}(hF:Frm X)(I:Inv X pins Z H s)(hx:Heap.MadeExcOf s.heap h1 ea cls vs)(q:E cls none H) :
  wpAny (model X.prog X.w) X.A (leaving X.env (.ref ea)) (fun _ s''=>CX1 X.prog X.w X.outer X.H₀ X.dl E (.ref ea) s'') Qe {s with heap:=h1}:=by
 obtain⟨t,he,_,_⟩:=hx.there
 have I1:Inv X pins Z H {s with heap:=h1}:=I.kept (t':=s.toks) hx.keeps
 have fr:X.A.frames=some (X.env::X.outer):=by rw[<- hF.stk];exact I.ok.frames
 have kp:Kp (fun b=>∃o,s.heap.get? b=some o) (frs (X.env::X.outer)) s.heap h1:=.of hx.keeps
 refine FC (O:=fun b=>∃o,s.heap.get? b=some o) (s:={s with heap:=h1}) fr (xa hF I1) hF.fr he rfl rfl rfl rfl (fun b ⟨o,e⟩=>Heap.lt_size (hx.keeps b o e)) (fun ⟨o,e⟩=>by rw[hx.new] at e;cases e) fun h' k F=>?_
 have e:=MB (s:=s) (X:=X) hF I (fun b o e=>I.base.there b o e (by rw[hF.ex];exact fun z=>nomatch z)) (fun b hb=>by
  cases z:H b with
  |none=>exact absurd z hb
  |some o=>exact Jy (I.hok b o z)) (kp.trans k) F q
 exact e
end
structure XOk(X:Cx)(E:XK):Prop where
 new:∀(pins:List (Addr×Obj)) (Z:St) (H:Hp) (s:Shared) (ea:Addr) (cls:Value) (vs:List Value) (h1:Heap),Inv X pins Z H s->Heap.MadeExcOf s.heap h1 ea cls vs->E cls none H->X.xe (.ref ea) {s with heap:=h1}
 pas:Passes (CX1 X.prog X.w) X E
theorem BG{X:Cx}{pins:List (Addr×Obj)}{Z:St}{H:Hp}{s s':Shared}{E:XK}{e:Value}{Qe:Value->Shared->Prop}(hF:Frm X)(I:Inv X pins Z H s)(h:CX1 X.prog X.w X.stack H s E e s') :
  wpAny (model X.prog X.w) X.A (leaving X.env e) (fun _ s''=>CX1 X.prog X.w X.outer X.H₀ X.dl E e s'') Qe s':=by
 obtain⟨O,ea,cls,H',rfl,os,bare,un,hok,hO,ht,F,q⟩:=h
 have I':Inv X pins Z H' s':=I.FK (ch:=[]) os un hok bare (fun b z=>nomatch z)
 have fr:X.A.frames=some (X.env::X.outer):=by rw[<- hF.stk];exact I.ok.frames
 refine GP (s:=s') fr (xa hF I') hF.fr F fun h' k F'=>?_
 exact MB (s:=s') hF I' (fun b o e=>by
  obtain⟨o',e'⟩:=I.base.there b o e (by rw[hF.ex];exact fun z=>nomatch z)
  exact hO b o' e') ht k F' q
theorem IV{P:Program}{w:World}{K:PySem.W.Frag}{mg:Str->Option Value}{base:Heap}{N:List Str}{qual:Str}{scope:Scope}{f:Addr}{cd:Value}{A:Around}{outer:List Env}{s:Shared}{H:Hp}{E:XK} :
  XOk (lY (CX1 P w) P w K mg base N qual scope f cd A outer s H E) E where
 new:=fun pins Z H1 s1 ea cls vs h1 I hx q=>leave_new (X:=lY (CX1 P w) P w K mg base N qual scope f cd A outer s H E) ⟨rfl,rfl,rfl⟩ I hx q
 pas:=fun pins Z H1 s1 e s' I h=>BG (X:=lY (CX1 P w) P w K mg base N qual scope f cd A outer s H E) ⟨rfl,rfl,rfl⟩ I h
abbrev DTX:=Rho->Mu->(Mu->Prop)->Prop
abbrev XSp:=List D->Mu->(Mu->Prop)->Prop
noncomputable def Hl(K:PySem.W.Frag)(E:XK)(C:Value)(U:Mu)(H:Hp)(Xk:Mu->Prop):Prop:=∀Y H',Ext K U H Y H'->cz K Y H'->Xk Y->E C none H'
theorem Hl.on{K:PySem.W.Frag}{E:XK}{C:Value}{U ac:Mu}{H H1:Hp}{Xk:Mu->Prop}(w:Hl K E C U H Xk)(e:Ext K U H ac H1):Hl K E C ac H1 Xk:=fun Y H' e'=>w Y H' (e.trans e')
noncomputable def XE(X:Cx)(E:XK)(C:Value)(e:Expr)(tx:DTX):Prop:=∃t:TE,PE X e t/\∀Z H ρ U Xk Q,St0 X.K H ρ U Z->tx ρ U Xk->Hl X.K E C U H Xk->t Z H Q
noncomputable def XS(X:Cx)(E:XK)(C:Value)(st:Stmt)(tx:DTX):Prop:=∃t:TS,PS X st t/\∀Z H ρ U Xk D,St0 X.K H ρ U Z->tx ρ U Xk->Hl X.K E C U H Xk->t D Z H
noncomputable def XSs(X:Cx)(E:XK)(C:Value)(st:List Stmt)(tx:DTX):Prop:=∃t:TS,PSs X st t/\∀Z H ρ U Xk D,St0 X.K H ρ U Z->tx ρ U Xk->Hl X.K E C U H Xk->t D Z H
noncomputable def spX(K:PySem.W.Frag)(C:Value)(dsp:XSp):Sp:=fun vs H _ E=>∃(ds:List D) (U:Mu) (Xk:Mu->Prop),cz K U H/\lA K U H ds vs/\dsp ds U Xk/\Hl K E C U H Xk
section
variable {X:Cx}{E:XK}{C:Value}{e:Expr}{es:List Expr}{t:DTA}{te:DTE}{tx ty:DTX}{p pos:Pos}{x:Str}{k:Nat}{f:Addr}{fd:FuncData}{ps:List Str}{dsp:XSp}{st:Stmt}{sts:List Stmt}
noncomputable def Iz(dsp:XSp)(t:DTA):DTX:=fun ρ U Xk=>t ρ U fun ds ac=>dsp ds ac Xk
theorem IT(F:bz X.prog X.w X.K X.mg X.base (CX1 X.prog X.w) k f fd ps (spX X.K C dsp))(hr:g8 k X.A)(hg:Gl X x)(hm:X.mg x=some (.ref f))(hk:keepIn X.K (.ref f)=true)(hb:Binds X.K fd ps [])(hx:XOk X E)
  (ha:DA X (e::es) t) (hdb:(x==("__debug__":Str))=false:=by decide) (he:starEach (e::es) X.env=(false,eval e X.env)::starEach es X.env:=by rfl) (hpl:(backTo pos (starEach es X.env)).any (·.1)=false:=by rfl) :
  XE X E C (.Call (.Name x p) (e::es) [] pos) (Iz dsp t):=by
 obtain⟨t1,p1,l1⟩:=ha
 refine⟨_,IJ F hr hg hm hk hb .nil hx.pas p1 hdb he hpl,fun Z H ρ U Xk Q S h wsh=>?_⟩
 refine l1 Z H ρ U _ _ S h fun ds us ac H1 e1 S1 rs len h1=>?_
 exact⟨ds,ac,Xk,S1.mu,by rw[append_nil];exact rs,h1,wsh.on e1⟩
theorem Nw(h:XE X E C e tx)(hs:swapsWith e none pos.line X.env=pure false:=by rfl):XS X E C (.Expr e pos) tx:=by
 obtain⟨t1,p1,l1⟩:=h
 exact⟨_,Iy p1 hs,fun Z H ρ U Xk D S h wsh=>l1 Z H ρ U Xk _ S h wsh⟩
noncomputable def Ll:DTX:=fun _ _ _=>False
theorem JI:XSs X E C sts Ll:=⟨_,Bz,fun _ _ _ _ _ _ _ h _=>h.elim⟩
noncomputable def xIf(tc:DTT)(tx ty:DTX):DTX:=fun ρ U Xk=>tc ρ U fun b ac=>if b=true then tx ρ ac Xk else ty ρ ac Xk
theorem Tq{c:Expr}{a b:List Stmt}{tc:DTT}(hc:DT X c tc)(ha:XSs X E C a tx)(hb:XSs X E C b ty):XS X E C (.If c a b pos) (xIf tc tx ty):=by
 obtain⟨t0,p0,l0⟩:=hc
 obtain⟨t1,p1,l1⟩:=ha
 obtain⟨t2,p2,l2⟩:=hb
 refine⟨_,Pf p0 p1 p2,fun Z H ρ U Xk D S h wsh=>?_⟩
 refine l0 Z H ρ U _ _ S h fun c ac H1 e1 S1 h1=>?_
 cases c with
 |true=>exact A5 (l1 Z H1 ρ ac Xk D S1 (by simpa using h1) (wsh.on e1))
 |false=>exact AE (l2 Z H1 ρ ac Xk D S1 (by simpa using h1) (wsh.on e1))
theorem zY(h:XS X E C st tx):XSs X E C (st::sts) tx:=by
 obtain⟨t1,p1,l1⟩:=h
 exact⟨_,Ek p1 Bz,fun Z H ρ U Xk D S h wsh=>l1 Z H ρ U Xk _ S h wsh⟩
end
theorem _root_.L2.Fun.okX{P:Program}{w:World}{K:PySem.W.Frag}{mg:Str->Option Value}{base:Heap}{x qual:Str}{st:Stmt}{f:Addr}{fd:FuncData}{N ps:List Str}{k:Nat}{C:Value}{dsp:XSp}(F:Fun K x qual st f fd)(S:aG N ps (ax st))(len:∀ds U Xk,dsp ds U Xk->ds.length=ps.length)
  (hbody:∀(cdv:Value) (A:Around) (outer:List Env) (s:Shared) (H:Hp) (E:XK),g8 k (A.deeper (envOfC qual (ax st) s.heap.objs.size f cdv)) ->
   ∃tx,XSs (lY (CX1 P w) P w K mg base N qual (ax st) f cdv A outer s H E) E C (fw st) tx/\∀ds U Xk,dsp ds U Xk->tx (aO N ds) U Xk):bz P w K mg base (CX1 P w) (k+1) f fd ps (spX K C dsp):=by
 obtain⟨oc,od,kV,doc,pm,an,cdv,ct,osl,rfl,lk,hcd⟩:=F.ex
 refine Lz lk hcd S (fun vs H Q E h=>?_) fun A outer s H vs Q E hr hsp=>?_
 ·obtain⟨ds,U,Xk,_,r,h,_⟩:=h
  rw[<- r.length];exact len ds U Xk h
 ·obtain⟨tx,⟨t,p,l⟩,q⟩:=hbody cdv A outer s H E hr
  obtain⟨ds,U,Xk,ok,r,h,wsh⟩:=hsp
  exact⟨t,p,l (start N vs) H (aO N ds) U Xk _ ⟨ok,wL r⟩ (q ds U Xk h) wsh⟩
theorem Oo{K:PySem.W.Frag}{h:Heap}{C:Addr}{bmB:List Value}{newId:String}(X:K.In h)(q:excIn K C bmB newId=true) :
  ∃bm N nm q bs hdct sn sub ab col dd k0 k1 k2 k3 k5 mN,h.get? C=some (excClassObj nm q C N bs bm hdct sn sub ab col dd k0 k1 k2 k3 k5 newId)/\h.Ns N mN/\mN "__init__"=none/\OwnTail h bmB bm:=by
 unfold excIn at q
 split at q;rotate_left;· cases q
 rename_i dd cd sl ho;split at q;rotate_left;· cases q
 rename_i C' bm k0 k1 k2 k3 n k5 hm hs
 simp only[and_eq_true,beq_iff_eq,Bool.not_eq_true'] at q;obtain⟨⟨⟨⟨⟨rfl,rfl⟩,hdel⟩,ht⟩,hok⟩,hni⟩:=q
 obtain⟨nm,bs,mro,ns,qn,hd,sn,sub,ab,col,del⟩:=cd;dsimp only at hm hdel hok hni;subst hm hdel
 obtain rfl:sl = #[k0,k1,k2,k3,some (.builtin n),k5]:=by obtain⟨l⟩:=sl;exact congrArg Array.mk hs
 exact⟨bm,ns,nm,qn,bs,hd,sn,sub,ab,col,dd,k0,k1,k2,k3,k5,_,X _ _ ho,.of_isNs (PySem.W.isNs_of_in X hok),PySem.W.nsMap_none_of_in X hok hni,PySem.W.tail_of_in X ht⟩
section
variable {X:Cx}{E:XK}{x:Str}{C:Addr}
theorem LI{txt:Str}{j}{np kp cpos pos:Pos}(hx:XOk X E)(hg:Gl X x)(hm:X.mg x=some (.ref C))(hq:excIn X.K C bmV "ValueError.__new__"=true)(hc:X.calm=true:=by rfl)(hdb:(x==("__debug__":Str))=false:=by decide)
  (hs:starEach [.Constant (.str txt) j kp] X.env=[(false,eval (.Constant (.str txt) j kp) X.env)]:=by rfl) :
  XS X E (.ref C) (.Raise (some (.Call (.Name x np) [.Constant (.str txt) j kp] [] cpos)) none pos) (fun _ U Xk=>Xk U):=by
 refine⟨fun D Z H=>E (.ref C) none H,fun pins s Z H D I h=>?_,fun Z H ρ U Xk D S h wsh=>wsh U H .refl S.mu h⟩
 obtain⟨tl,N,nm,q,bs,hdct,sn,sub,ab,col,dd,k0,k1,k2,k3,k5,mN,hC,hN,hni,T⟩:=Oo I.mod.kin hq
 refine wpAny_Raise_call_subT (C:=C) (nm:=nm) (q:=q) (N:=N) (bs:=bs) (bm:=tl) (hdct:=hdct) (sn:=sn) (sub:=sub) (ab:=ab) (col:=col) (dd:=dd) (k0:=k0) (k1:=k1) (k2:=k2) (k3:=k3) (k5:=k5)
  PySem.F.excBase_ValueError (mN:=mN) (T.hasType PySem.F.excBase_ValueError.hasBase) (I.ok.hd hc) (by rw[hs];rfl) hni (vj I hg hm ⟨rfl,?_⟩ hdb)
 have pa:=eP (X:=X) (es:=[]) (Mc (x:=txt) (j:=j) (pos:=kp)) oH (by rw[hs];rfl) cpos pins s Z H (fun vs H1=>vs.length=1/\H1=H) I ⟨rfl,rfl⟩
 rw[hs] at pa ⊢
 refine Calls.evalArgs_plain (thn pa fun us s2 ⟨vs,H1,I1,r,l,e1⟩=>?_)
 subst e1
 exact⟨rfl,by rw[<- r.length,l];decide,I1.bk _ _ hC,hN.keeps I1.bk,T.keeps I1.bk,fun h' e hm'=>hx.new pins Z H1 s2 e _ _ h' I1 hm' h⟩
end
structure yy(K:PySem.W.Frag)(C:Addr):Prop where
 ga:findIn K (.ref C) "__getattribute__"=some (some (.builtin "BaseException.__getattribute__"))
 gx:findIn K (.ref C) "__getattr__"=some none
 cl:findIn K (.ref C) "__class__"=some (some (.builtin "object.__class__"))
 ob:mroIn K C (.type "object")=some true
 be:mroIn K C (.type "BaseException")=some true
 ci:(clsIn K C).isSome=true
section
variable {prog:Program}{w:World}{A:Around}{E:Value->Shared->Prop}{h:Heap}{g:Array GenState}{d:Drawn}{t:Nat}{os:OsState}{a C:Addr}{o:Obj}{K:PySem.W.Frag}
theorem Nz{R:Result->Shared->Prop}(X:K.In h)(ZY:yy K C)(hx:h.get? a=some o)(hc:o.cls = .ref C)(hq:R (.ok (.ret (.ref C))) ⟨h,g,d,t,os⟩) :
  codeAny (model prog w) A (.call (.builtin "getset_descriptor.__get__") ⟨[.builtin "object.__class__",.ref a,.ref C],[]⟩) R ⟨h,g,d,t,os⟩:=by
 have hT5:(⟨h,g,d,t,os⟩:Shared).TypeIs (.builtin "object.__class__") "getset_descriptor":=F.typeOf_object_class
 have sub:∀{A':Around} {Q':Bool->Shared->Prop} {E':Value->Shared->Prop} {g' d' t' os'},Q' true ⟨h,g',d',t',os'⟩->wpAny (model prog w) A' (isSubtype (.ref C) (.type (".".intercalate ("object.__class__".cutAt '.').dropLast))) Q' E' ⟨h,g',d',t',os'⟩:=fun q=>by
  rw[F.owner_object_class];exact (PySem.W.looks_mroIn X ZY.ob).here q
 refine codeAny_call_builtin F.slot_gs_get.plain F.entry_gs_get (F.slot_gs_get.check _ _ _ _ _ _ _ _ hT5 (F.args_gs_get _ _ _) ?_)
 repeat (any_goals (first|assumption|(with_reducible refine wpAny_loadPart_at hx ?_;rw[hc])|with_reducible refine sub ?_|wp_step))
 refine⟨Code.quiet_builtin _ nofun,codeAny_builtin F.entry_object_class ?_⟩
 repeat (any_goals (first|assumption|(with_reducible refine wpAny_loadPart_at hx ?_;rw[hc])|wp_step))
theorem Js{tk:Tok}{Q:Fin->Shared->Prop}(X:K.In h)(ZY:yy K C)(hx:h.get? a=some o)(hc:o.cls = .ref C)(hq:Q (.done (.ret (.ref C))) ⟨h,g,d,t,os⟩) :
  wpAny (model prog w) A (Builtin.«object.__getattribute__» ⟨[.ref a,.str "__class__" tk],[]⟩) Q E ⟨h,g,d,t,os⟩:=by
 have hT5:(⟨h,g,d,t,os⟩:Shared).TypeIs (.builtin "object.__class__") "getset_descriptor":=F.typeOf_object_class
 have f5:=F.typeOf_object_class;have f6:=F.slot_gs_get.lookup;have f7:=F.slot_gs_set.lookup
 have lk:∀{A':Around} {Q':Option Value->Shared->Prop} {E':Value->Shared->Prop} {g' d' t' os'},Q' (some (.builtin "object.__class__")) ⟨h,g',d',t',os'⟩->wpAny (model prog w) A' (typeLookup (.ref C) "__class__") Q' E' ⟨h,g',d',t',os'⟩:=fun q=>(PySem.W.looks_findIn X ZY.cl).here q
 repeat (any_goals (first|assumption|(with_reducible refine wpAny_loadPart_at hx ?_;rw[hc])|with_reducible refine lk ?_|wp_step))
 refine Nz X ZY hx hc ?_
 repeat (any_goals (first|assumption|wp_step))
theorem JN{nv:Value}{Q:Unit->Shared->Prop}(X:K.In h)(ZY:yy K C)(hx:h.get? a=some o)(hc:o.cls = .ref C)(hq:Q () ⟨h,g,d,t,os⟩):wpAny (model prog w) A (checkBuiltinCall "BaseException.__getattribute__" ⟨[.ref a,nv],[]⟩) Q E ⟨h,g,d,t,os⟩:=by
 have hk:builtinKind "BaseException.__getattribute__"=some .slot:=nofun
 have hsp:splitId "BaseException.__getattribute__"=some ("BaseException","__getattribute__"):=nofun
 have ha:=F.args_bexc_ga (.ref a) nv
 have sub:∀{A':Around} {Q':Bool->Shared->Prop} {E':Value->Shared->Prop} {g' d' t' os'},Q' true ⟨h,g',d',t',os'⟩->wpAny (model prog w) A' (isSubtype (.ref C) (.type "BaseException")) Q' E' ⟨h,g',d',t',os'⟩:=fun q=>(PySem.W.looks_mroIn X ZY.be).here q
 simp only[checkBuiltinCall,hk,hsp]
 refine wpAny_bind ?_
 unfold isInstance
 repeat (first|(with_reducible refine wpAny_loadPart_at hx ?_;rw[hc])|with_reducible refine sub ?_|wp_step)
 exact hq
theorem MP{tk:Tok}{R:Result->Shared->Prop}(X:K.In h)(ZY:yy K C)(hx:h.get? a=some o)(hc:o.cls = .ref C)(hq:R (.ok (.ret (.ref C))) ⟨h,g,d,t,os⟩) :
  codeAny (model prog w) A (.call (.builtin "BaseException.__getattribute__") ⟨[.ref a,.str "__class__" tk],[]⟩) R ⟨h,g,d,t,os⟩:=
 codeAny_call_builtin F.attr_ValueError.ga.plain F.entry_bexc_ga (JN X ZY hx hc (Js X ZY hx hc hq))
theorem RP{tk:Tok}{Q:Value->Shared->Prop}(X:K.In h)(ZY:yy K C)(hx:h.get? a=some o)(hc:o.cls = .ref C)(hq:Q (.ref C) ⟨h,g,d,t,os⟩):wpAny (model prog w) A (getAttrBy (.ref a) (.str "__class__" tk) false) Q E ⟨h,g,d,t,os⟩:=by
 have f3:=F.attr_ValueError.ga.bind (.ref a)
 have hx2:(Value.builtin "BaseException.__getattribute__"==Value.builtin "object.__getattribute__")=false:=nofun
 have hx1:(onTheHeap (Value.ref C)&&Value.builtin "BaseException.__getattribute__"==Value.builtin "object.__getattribute__")=false:=by rw[hx2];rfl
 have lk:∀{A':Around} {Q':Option Value->Shared->Prop} {E':Value->Shared->Prop} {g' d' t' os'},Q' (some (.builtin "BaseException.__getattribute__")) ⟨h,g',d',t',os'⟩->wpAny (model prog w) A' (typeLookup (.ref C) "__getattribute__") Q' E' ⟨h,g',d',t',os'⟩:=fun q=>(PySem.W.looks_findIn X ZY.ga).here q
 have lx:∀{A':Around} {Q':Option Value->Shared->Prop} {E':Value->Shared->Prop} {g' d' t' os'},Q' none ⟨h,g',d',t',os'⟩->wpAny (model prog w) A' (typeLookup (.ref C) "__getattr__") Q' E' ⟨h,g',d',t',os'⟩:=fun q=>(PySem.W.looks_findIn X ZY.gx).here q
 repeat (any_goals (first|assumption|(with_reducible refine wpAny_loadPart_at hx ?_;rw[hc])|with_reducible refine lk ?_|with_reducible refine lx ?_|wp_step))
 refine MP X ZY hx hc ?_
 repeat (any_goals (first|assumption|wp_step))
theorem LQ{Q:Option Value->Shared->Prop}(X:K.In h)(ZY:yy K C)(hx:h.get? a=some o)(hc:o.cls = .ref C)(hq:Q (some (.ref C)) ⟨h,g,d,t+1,os⟩):wpAny (model prog w) A (getAttr? (.ref a) "__class__") Q E ⟨h,g,d,t,os⟩:=by
 unfold getAttr? getAttrBy?
 repeat (any_goals (first|assumption|with_reducible apply RP X ZY hx hc|wp_step))
theorem MN(ZY:yy K C):PySem.W.KitX K (.ref a) (.ref C) (fun h=>∃o,h.get? a=some o/\o.cls = .ref C) where
 ty:=fun M h X ⟨o,e,c⟩=>by
  intro A' Q' E' s' k q
  unfold typeOf
  refine wpAny_bind (wpAny_loadPart (k _ _ e) ?_)
  rw[c]
  exact wpAny_pure q
 it:=fun M h X _=>by
  have z:=ZY.ci
  unfold clsIn at z
  split at z
  ·rename_i ho
   intro A' Q' E' s' k q
   unfold isType loadHead
   exact wpAny_bind (wpAny_loadPart (k _ _ (X _ _ ho)) (wpAny_pure q))
  ·cases z
 ne:=fun h tp dd its n sl X htp=>by
  refine Bool.eq_false_iff.mpr fun q=>?_
  obtain rfl:C=tp:=Value.ref.inj (beq_iff_eq.mp q)
  have z:=ZY.ci
  unfold clsIn at z
  split at z
  ·rename_i ho;have z':=(X _ _ ho).symm.trans htp;cases z'
  ·cases z
 ca:=fun {_ _ _ _ _ s} X ⟨o,e,c⟩ k=>by obtain⟨h,g,d,t,os⟩:=s;exact LQ X ZY e c k
end
theorem Oy{K:PySem.W.Frag}{h:Heap}{c P:Addr}{o:Obj}{q:Str}(X:K.In h)(l:K.lookup c=some o)(e:bS o=some (P,q))(ne:c≠P):PySem.W.CodeHd h c P:=by
 have ho:=X _ _ l
 unfold bS at e
 split at e
 ·rename_i cn vs hcls hd
  split at e
  ·rename_i hcn
   subst hcn
   split at e
   ·rename_i q' t' f1 f2 f3 f4 f5 f6 P' f7 f8 e1 e7 e9 e10 e11 e18
    split at e
    ·cases e
     refine⟨o,vs,f7,f8,f2,f3,f4,f5,f6,ho,hcls,hd,e11,?_,?_,?_,?_,?_,ne⟩
     ·rw[Array.getD_eq_getD_getElem?,e11];rfl
     ·rw[Array.getD_eq_getD_getElem?,e18];rfl
     ·rw[Array.getD_eq_getD_getElem?,e7];rfl
     ·rw[Array.getD_eq_getD_getElem?,e9];rfl
     ·rw[Array.getD_eq_getD_getElem?,e10];rfl
    ·cases e
   ·cases e
  ·cases e
 ·cases e
noncomputable def Px(K:PySem.W.Frag)(mg:Str->Option Value):Prop:=∃bm ob,mg "__builtins__"=some (.ref bm)/\bm≠builtinsNs/\K.lookup bm=some ob/\ob.cls = .type "module"/\ob.dict=some builtinsNs/\ob.data = .plain
theorem Jj{pos:Pos}{w:Value}{l3:List Value}:∀{l:List Value},TriplesOk l->codeAmong pos l=some w->codeAmong pos (l++l3)=some w:=by
 intro l
 fun_induction TriplesOk l with
 |case1=>intro _ e;simp[codeAmong] at e
 |case2 a t b u x rest ih=>
  intro h e
  simp only[List.cons_append,codeAmong] at e ⊢
  split at e
  ·rename_i hc;rw[if_pos hc];exact e
  ·rename_i hc;rw[if_neg hc];exact ih h e
 |case3 l h1 h2=>intro h;exact h.elim
theorem Jw{pos lpos:Pos}{cv:Value}{c:Value}:∀{l:List Value},TriplesOk l->codeAmong pos l=none->codeAmong pos (l++[rawInt lpos.line,rawInt lpos.col,c])=some cv->cv=c:=by
 intro l
 fun_induction TriplesOk l with
 |case1=>
  intro _ _ e
  simp only[List.nil_append,codeAmong,rawInt] at e
  split at e
  ·exact (Option.some.inj e).symm
  ·cases e
 |case2 a t b u x rest ih=>
  intro h n e
  simp only[List.cons_append,codeAmong] at n e
  split at n
  ·cases n
  ·rename_i hc;rw[if_neg hc] at e;exact ih h n e
 |case3 l h1 h2=>intro h;exact h.elim
section
variable {X:Cx}{pins:List (Addr×Obj)}{Z:St}{H:Hp}{s:Shared}
theorem JV{P c':Addr}{ps:Array Value}{l3:List Value}{h':Heap}{tk:Nat}{φ:Heap->Prop}(I:Inv X pins Z H s)(hP:H P=some (.tbl ps))(hx:Heap.ExtBut P s.heap h')(ht:h'.get? P=some (tabObj (ps++l3.toArray)))(hc:s.heap.objs.size<=c')(wS:φ h')(hc':∃o,h'.get? c'=some o)(hst:∀h1 h2:Heap,φ h1->(∀o,h1.get? c'=some o->h2.get? c'=some o)->φ h2) :
  Inv X pins Z (upd (upd H P (.tbl (ps++l3.toArray))) c' (.ext φ)) {s with heap:=h',toks:=tk}:=by
 have fc:H c'=none:=I.hok.fresh hc
 have nPc:P≠c':=aW hP fc
 have low:∀b o,s.heap.get? b=some o->b≠c':=fun b o e z=>absurd (Heap.lt_size e) (by rw[z];exact Nat.not_lt.mpr hc)
 have old:∀b,b≠P->b≠c'->upd (upd H P (.tbl (ps++l3.toArray))) c' (.ext φ) b=H b:=fun b h1 h2=>by rw[bK h2,bK h1]
 have atP:upd (upd H P (.tbl (ps++l3.toArray))) c' (.ext φ) P=some (.tbl (ps++l3.toArray)):=by rw[bK nPc];exact eE
 refine I.un (t':=tk) ⟨fun b o e n _ _=>hx b o (fun z=>by rw[z,hP] at n;cases n) e,fun b o e n _ _=>⟨o.slots,hx b o (fun z=>by rw[z,hP] at n;cases n) e⟩,fun b o e n _=>?_,fun b o e _=>?_,fun b xs e=>?_,fun b o u e=>?_,fun b qs e=>?_⟩ fun b o e=>?_
 ·rw[old b (fun z=>by rw[z,hP] at n;cases n) (low b o e)];exact n
 ·by_cases z:b=P
  ·exact⟨_,by rw[z];exact ht⟩
  ·exact⟨o,hx b o z e⟩
 ·rw[old b (fun z=>by rw[z,hP] at e;cases e) (aW e fc)];exact e
 ·rw[old b (fun z=>by rw[z,hP] at e;cases e) (aW e fc)];exact e
 ·by_cases z:b=P
  ·rw[z] at e;rw[hP] at e;cases e
   exact⟨l3.toArray,by rw[z];exact atP⟩
  ·exact⟨#[],by rw[old b z (aW e fc)];simpa using e⟩
 ·by_cases zc:b=c'
  ·subst zc
   rw[eE] at e;cases e
   exact⟨wS,hc',hst⟩
  ·by_cases z:b=P
   ·subst z
    rw[atP] at e;cases e
    exact ht
   ·rw[old b z zc] at e
    refine (I.hok b o e).Ah (fun d u hd q=>hx d u ?_ q) (fun d q=>?_) fun d xs q=>?_
    ·rcases hd with rfl|hd
     ·exact z
     ·exact fun y=>by rw[y,hP] at hd;cases hd
    ·rw[old d (fun y=>by rw[y,hP] at q;cases q) (aW q fc)];exact q
    ·rw[old d (fun y=>by rw[y,hP] at q;cases q) (aW q fc)];exact q
theorem Kj{K:PySem.W.Frag}{P c':Addr}{ps:Array Value}{q:Str}{lpos:Pos}(t:AD K H)(hP:H P=some (.tbl ps))(htr:TriplesOk ps.toList)(hcs:∀pos cv,codeAmong pos ps.toList=some cv->∃c,cv = .ref c/\H c=some (.ext (codeAt c (cQ q))))(hf:codeAmong lpos ps.toList=none)(fc:H c'=none)
  (hu:∀c2 o2 q2,K.lookup c2=some o2->bS o2=some (P,q2)->q2=q) :
  AD K (upd (upd H P (.tbl (ps++[rawInt lpos.line,rawInt lpos.col,.ref c'].toArray))) c' (.ext (codeAt c' (cQ q)))):=fun c2 o2 P2 q2 l2 e2=>by
 have nPc:P≠c':=aW hP fc
 have old:∀b,b≠P->b≠c'->upd (upd H P (.tbl (ps++[rawInt lpos.line,rawInt lpos.col,.ref c'].toArray))) c' (.ext (codeAt c' (cQ q))) b=H b:=fun b h1 h2=>by rw[bK h2,bK h1]
 have cold:∀c qq,H c=some (.ext (codeAt c qq))->upd (upd H P (.tbl (ps++[rawInt lpos.line,rawInt lpos.col,.ref c'].toArray))) c' (.ext (codeAt c' (cQ q))) c=some (.ext (codeAt c qq)):=fun c qq h=>by rw[old c (fun z=>by rw[z,hP] at h;cases h) (aW h fc)];exact h
 by_cases z:P2=P
 ·subst z
  obtain rfl:=hu c2 o2 q2 l2 e2
  refine⟨_,by rw[bK nPc];exact eE,by rw[Array.toList_append];exact TriplesOk_snoc _ _ _ _ htr,fun pos cv e=>?_⟩
  rw[Array.toList_append] at e
  cases hp:codeAmong pos ps.toList with
  |some w=>
   obtain⟨c,hw,hc⟩:=hcs pos w hp
   have:codeAmong pos (ps.toList++[rawInt lpos.line,rawInt lpos.col,.ref c'])=some w:=Jj htr hp
   have e':some w=some cv:=this.symm.trans e
   cases e'
   exact⟨c,hw,cold c _ hc⟩
  |none=>
   have:=Jw htr hp (show codeAmong pos (ps.toList++[rawInt lpos.line,rawInt lpos.col,.ref c'])=some cv from e)
   exact⟨c',this,eE⟩
 ·obtain⟨qs,a1,a2,a3⟩:=t c2 o2 P2 q2 l2 e2
  exact⟨qs,by rw[old P2 z (aW a1 fc)];exact a1,a2,fun pos cv e=>let ⟨c,w1,w2⟩:=a3 pos cv e;⟨c,w1,cold c _ w2⟩⟩
theorem QE{U:Mu}{params:Arguments}{body:Expr}{lsc:Scope}{lpos:Pos}{cl:List (Str×Addr)}{c P:Addr}{o:Obj}{q:Str}{Qd:Value->Shared->Prop}(I:Inv X pins Z H s)(ok:cz X.K U H)(hcode:X.env.code = .ref c)(hl:X.K.lookup c=some o)
  (hlc:bS o=some (P,q)) (hu:∀c2 o2 q2,X.K.lookup c2=some o2->bS o2=some (P,q2)->q2=q) (hq:X.env.qual=q ++ ".<locals>.") (hB:Px X.K X.mg) (hcl:closureFor lsc X.env=pure cl) (hdef:defaultsOf params X.env=([],[]))
  (k:∀(fa c1:Addr) (ctv pm:Value) (H1:Hp) (s1:Shared),Inv X pins Z H1 s1->Ext X.K U H U H1->cz X.K U H1->s1.heap.get? fa=some {cls:=.type "function",data:=.func (kla_fn "<lambda>" (cQ q) params body lsc cl pm (.ref c1) ctv)}->H1 fa=none->fa ∉ frs X.stack->H1 c1=some (.ext (codeAt c1 (cQ q)))->Qd (.ref fa) s1) :
  wpAny (model X.prog X.w) X.A (eval (.Lambda params body lsc lpos) X.env) Qd X.xe s:=by
 refine PySem.W.kla_eval hdef ?_
 rw[hq]
 obtain⟨ps,hP,htr,hcs⟩:=ok.tab c o P q hl hlc
 have getP:s.heap.get? P=some (tabObj ps):=I.hok P _ hP
 have nK:∀b ob,X.K.lookup b=some ob->b≠P:=fun b ob e z=>by
  have:=(I.bs b ob (I.mod.kin b ob e)).2
  rw[z,hP] at this;cases this
 have C:=Oy I.kIn hl hlc (nK c o hl)
 have hg:s.heap.Ns mainGlobals X.mg:=I.mod.glob.keeps I.bk
 have hgP:mainGlobals≠P:=fun z=>by
  obtain⟨og,es,ep,e,d,_⟩:=hg
  rw[z,getP] at e;cases e;cases d
 have hb:s.heap.BuiltinsAt X.mg P:=by
  obtain⟨bm,ob,b1,b2,b3,b4,b5,b6⟩:=hB
  refine⟨bm,ob,b1,b2,fun z=>?_,nK bm ob b3,I.kIn _ _ b3,b4,b5,b6⟩
  obtain⟨og,es,ep,e,d,_⟩:=hg
  rw[<- z,I.kIn _ _ b3] at e;cases e;rw[b6] at d;cases d
 have stk:∀b,s.heap.objs.size<=b->b ∉ frs X.stack:=fun b hb hm=>by
  obtain⟨_,ob,e,_⟩:=I.stack.mem hm
  exact absurd (Heap.lt_size e) (Nat.not_lt.mpr hb)
 cases hf:codeAmong lpos ps.toList with
 |some cv=>
  obtain⟨c1,rfl,hc1⟩:=hcs lpos cv hf
  refine PySem.W.kla_makeFunctionHit hcl I.ok.glob hg hcode C getP htr hf hb fun ctv h' tk hk hsz=>?_
  have I2:Inv X pins Z H {s with heap:=h'.push {cls:=.type "function",data:=.func (kla_fn "<lambda>" (cQ q) params body lsc cl ((X.mg "__name__").getD .none) (.ref c1) ctv)},toks:=tk}:=I.kept (t':=tk) fun b u e=>Heap.get?_push_of_some _ (hk b u e)
  exact k h'.objs.size c1 ctv _ H _ I2 .refl ok (Heap.get?_push_size _ rfl) (I.hok.fresh hsz) (stk _ hsz) hc1
 |none=>
  refine PySem.W.kla_makeFunction hcl I.ok.glob hg hcode C getP htr hf hgP hb fun c' ctv h' tk hx hge hlt hrec htb=>?_
  have hca:codeAt c' (cQ q) h':=by
   obtain⟨c2,oc,vs,t,e2,g2,d2,v2⟩:=hrec
   cases e2
   exact⟨oc,vs,t,g2,d2,v2⟩
  have fc:H c'=none:=I.hok.fresh hge
  have I1:Inv X pins Z (upd (upd H P (.tbl (ps++[rawInt lpos.line,rawInt lpos.col,.ref c'].toArray))) c' (.ext (codeAt c' (cQ q)))) {s with heap:=h',toks:=tk}:=JV (φ:=codeAt c' (cQ q)) I hP hx htb hge hca (let ⟨oc,_,_,g2,_⟩:=hca;⟨oc,g2⟩) (fun h1 h2 ⟨oc,vs,t,g2,d2,v2⟩ kk=>⟨oc,vs,t,kk _ g2,d2,v2⟩)
  have I2:Inv X pins Z (upd (upd H P (.tbl (ps++[rawInt lpos.line,rawInt lpos.col,.ref c'].toArray))) c' (.ext (codeAt c' (cQ q)))) {s with heap:=h'.push {cls:=.type "function",data:=.func (kla_fn "<lambda>" (cQ q) params body lsc cl ((X.mg "__name__").getD .none) (.ref c') ctv)},toks:=tk}:=I1.kept (t':=tk) fun b u e=>Heap.get?_push_of_some _ e
  have old:∀b,b≠P->b≠c'->upd (upd H P (.tbl (ps++[rawInt lpos.line,rawInt lpos.col,.ref c'].toArray))) c' (.ext (codeAt c' (cQ q))) b=H b:=fun b h1 h2=>by rw[bK h2,bK h1]
  have nPc:P≠c':=aW hP fc
  have ex:Ext X.K U H U (upd (upd H P (.tbl (ps++[rawInt lpos.line,rawInt lpos.col,.ref c'].toArray))) c' (.ext (codeAt c' (cQ q)))):=⟨fun b u e n nt=>by rw[old b (fun z=>by rw[z,hP] at e;cases e;exact nt) (aW e fc)];exact e,fun b qs e n=>by
   by_cases z:b=P
   ·exact⟨_,by rw[z,bK nPc];exact eE⟩
   ·exact⟨qs,by rw[old b z (aW e fc)];exact e⟩,fun _ ds e=>⟨ds,e⟩,fun _ e _=>e⟩
  have mu:cz X.K U (upd (upd H P (.tbl (ps++[rawInt lpos.line,rawInt lpos.col,.ref c'].toArray))) c' (.ext (codeAt c' (cQ q)))):=⟨fun a ds e=>by
   obtain⟨xs,h1,h2⟩:=ok a ds e
   exact⟨xs,by rw[old a (fun z=>by rw[z,hP] at h1;cases h1) (aW h1 fc)];exact h1,h2.ext ok ex⟩,Kj ok.tab hP htr hcs hf fc hu⟩
  have hfr:s.heap.objs.size<=h'.objs.size:=le_trans hge (Nat.le_of_lt hlt)
  refine k h'.objs.size c' ctv _ _ _ I2 ex mu (Heap.get?_push_size _ rfl) ?_ (stk _ hfr) eE
  have:h'.objs.size≠c':=Nat.ne_of_gt hlt
  by_cases z:h'.objs.size=P
  ·exact absurd (Heap.lt_size getP) (by rw[<- z];exact Nat.not_lt.mpr hfr)
  ·rw[old _ z this];exact I.hok.fresh hfr
end
def vM(lsc:Scope)(cl:List (Str×Addr))(q:Str)(fa c1 L:Addr):Env:={scope:=lsc,locals:=L,globals:=mainGlobals,cells:=cl,qual:=q ++ ".<locals>.",func:=some fa,code:=.ref c1,frame:=some L,builtins:=builtinsNs}
def xH(P:Program)(w:World)(K:PySem.W.Frag)(mg:Str->Option Value)(base:Heap)(N:List Str)(lsc:Scope)(cl:List (Str×Addr))(q:Str)(fa c1:Addr)(A:Around)(outer:List Env)(s:Shared)(H:Hp)(E:XK):Cx where
 prog:=P
 w:=w
 K:=K
 mg:=mg
 base:=base
 A:=A.deeper (vM lsc cl q fa c1 s.heap.objs.size)
 N:=N
 dl:=s
 H₀:=H
 env:=vM lsc cl q fa c1 s.heap.objs.size
 outer:=outer
 stack:=vM lsc cl q fa c1 s.heap.objs.size::outer
 ex:=[]
 calm:=true
 fn:=fun _=>false
 pn:=[]
 xe:=fun e s'=>wpAny (model P w) (A.deeper (vM lsc cl q fa c1 s.heap.objs.size)) (leaving (vM lsc cl q fa c1 s.heap.objs.size) e) (fun _ s''=>CX1 P w outer H s E e s'') (fun e' s''=>CX1 P w outer H s E e' s'') s'
section
variable {P:Program}{w:World}{K:PySem.W.Frag}{mg:Str->Option Value}{base:Heap}{N:List Str}{lsc:Scope}{cl:List (Str×Addr)}{q:Str}{fa c1:Addr}{A:Around}{outer:List Env}{s:Shared}{H:Hp}{E:XK}{Z:St}{k:Nat}{params:Arguments}{body:Expr}{pm ctv:Value}{t:TE}
theorem NR:XOk (xH P w K mg base N lsc cl q fa c1 A outer s H E) E where
 new:=fun pins Z H1 s1 ea cls vs h1 I hx qq=>leave_new (X:=xH P w K mg base N lsc cl q fa c1 A outer s H E) ⟨rfl,rfl,rfl⟩ I hx qq
 pas:=fun pins Z H1 s1 e s' I h=>BG (X:=xH P w K mg base N lsc cl q fa c1 A outer s H E) ⟨rfl,rfl,rfl⟩ I h
structure Clo(lsc:Scope)(cl:List (Str×Addr))(N:List Str)(Z:St)(h:Heap)(H:Hp):Prop where
 cell:∀x c,cl.lookup x=some c->∃v,h.IsCell c v
 free:∀x c,cl.lookup x=some c->H c=none
 inj:∀x y c,cl.lookup x=some c->cl.lookup y=some c->x=y
 has:∀x,lsc.names.lookup x=some .cell\/lsc.names.lookup x=some .free->∃a,cl.lookup x=some a
 vals:∀(i:Nat) (x:Str) (v:V),N[i]? = some x->Z[i]? = some (some v)->Vis lsc x->∃u c,RelV v u/\lsc.names.lookup x=some .free/\cl.lookup x=some c/\h.IsCell c (some u)
 len:Z.length=N.length
theorem Lf{Q:VK}(hk:lsc.kind = .function)(hco:lsc.isCoroutine=false)(hgen:lsc.isGenerator=false)(hcell:∀y∈lsc.names,y.2≠.cell)(hr:g8 (k+1) A)(e0:EH P w K mg base A outer s H)
  (ho:s.heap.get? fa=some {cls:=.type "function",data:=.func (kla_fn "<lambda>" q params body lsc cl pm (.ref c1) ctv)}) (hcd:H c1=some (.ext (codeAt c1 q))) (hbind:bindArgs (kla_fn "<lambda>" q params body lsc cl pm (.ref c1) ctv) ⟨[],[]⟩=pure [])
  (C:Clo lsc cl N Z s.heap H) (pe:PE (xH P w K mg base N lsc cl q fa c1 A outer s H E) body t) (ht:t Z H Q) :
  codeAny (model P w) A (.call (.ref fa) ⟨[],[]⟩) (CR (CX1 P w) outer P w H s Q E) s:=by
 have crec:s.heap.CodeRec (.ref c1) q:=by
  obtain⟨⟨o,vs,t,g,d,v⟩,_,_⟩:=e0.hok c1 _ hcd
  exact⟨c1,o,vs,t,rfl,g,d,v⟩
 refine PySem.W.kla_callFunE hr.depth ho rfl hco hgen rfl crec ?_
 rw[hbind]
 refine wpAny_pure (wpAny_newFunctionEnv hcell (fun y hy=>nomatch hy) (fun gV hns hsb=>?_) hk)
 have no:∀b o,s.heap.get? b=some o->gV.get? b=some o:=fun b o e=>hsb.extBut b o (ne_of_lt (Heap.lt_size e)) (Heap.get?_push_of_some _ e)
 have lim:gV.NoLimit:=e0.mod.nolimit.keeps fun b o e=>no b o (e0.bs b o e).1
 refine⟨lim,?_⟩
 have noA:∀b:Addr,b ∉ (xH P w K mg base N lsc cl q fa c1 A outer s H E).ex:=fun b z=>nomatch z
 have I:Inv (xH P w K mg base N lsc cl q fa c1 A outer s H E) [] Z H {s with heap:=gV,toks:=s.toks+([]:List (Str×Value)).length}:=by
  refine⟨⟨e0.mod,hk,rfl,rfl,Nat.le_refl _,C.inj,C.has,fun _ _ z=>(nomatch z),fun _=>hr.hd,.inl hr.hd,Around.frames_deeper e0.frames,.inr ⟨rfl,rfl⟩,fun b z=>absurd z (noA b),e0.bs,e0.bsz,fun b _ _=>noA b,fun b z=>absurd z (noA b),e0.sV,e0.frf⟩,
   rfl,e0.bare,Un.kept no,⟨_,hns,fun i x v h1 h2 h3=>?_⟩,fun x c h=>?_,e0.hok.fresh (Nat.le_refl _),C.free,fun p hp=>(nomatch hp),e0.hok.kept no,C.len⟩
  ·obtain⟨u,c,r,f1,f2,o,f3,f4⟩:=C.vals i x v h1 h2 h3
   exact⟨u,r,.inr ⟨.inr f1,c,f2,o,no _ _ f3,f4⟩⟩
  ·obtain⟨v,o,f3,f4⟩:=C.cell x c h
   exact⟨v,o,no _ _ f3,f4⟩
 show codeAny _ _ (.expr body (vM lsc cl q fa c1 s.heap.objs.size)) _ _
 refine PySem.W.kla_codeExpr (wpAny_mono (pe [] _ Z H Q I ht) (fun v s' hv=>?_) fun e s' hs=>hs)
 obtain⟨x,H',J,r,qq⟩:=hv
 exact⟨x,H',J.os,J.bare,J.base,J.hok,r,qq⟩
end
def cxH(X:Cx)(ea:Addr)(oe:Obj):Cx:={X with A:=X.A.mark (some (.ref ea)),calm:=false,pn:=(ea,oe)::X.pn,xe:=fun _ _=>False}
section
variable {X:Cx}{pins:List (Addr×Obj)}{Z:St}{H:Hp}{s:Shared}{O:Addr->Prop}{ea:Addr}{oe:Obj}{vs:Array Value}
theorem BY{h':Heap}(hF:Frm X)(I:Inv X pins Z H s)(k:Kp O (frs (X.env::X.outer)) s.heap h')(hO:∀b o,X.dl.heap.get? b=some o->O b)(ht:∀b,H b≠none->O b)(hp:∀p∈X.pn++pins,O p.1):Inv X pins Z H {s with heap:=h'}:=by
 have cellK:∀c v,s.heap.IsCell c v->h'.IsCell c v:=fun c v ⟨o,e,d⟩=>by
  obtain⟨sl,e'⟩:=k.slot c o e fun vs z=>by rw[d] at z;cases z
  exact⟨_,e',d⟩
 refine⟨I.ok,I.os,I.bare,?_,?_,fun x c e=>let ⟨v,q⟩:=I.cell x c e;⟨v,cellK c v q⟩,I.free,I.jY,fun p hp'=>?_,HOk.fly I.hok k ht (E4 hF I),I.len⟩
 ·have k':=k
  rw[ui hF] at k'
  have u:=I.base
  rw[hF.ex] at u ⊢
  exact Un.fly u k' hO (IP I) (DN I)
 ·obtain⟨m,⟨o,es,ep,e,d,r⟩,hl⟩:=I.loc
  obtain⟨sl,e'⟩:=k.slot _ o e fun vs z=>by rw[d] at z;cases z
  refine⟨m,⟨_,es,ep,e',d,r⟩,fun i x v h1 h2 h3=>?_⟩
  obtain⟨u,ru,lk⟩:=hl i x v h1 h2 h3
  refine⟨u,ru,?_⟩
  rcases lk with z|⟨z,c,z1,z2⟩
  ·exact .inl z
  ·exact .inr ⟨z,c,z1,cellK _ _ z2⟩
 ·obtain⟨a1,a2,a3,a4,a5⟩:=I.pin p hp'
  exact⟨k.keep _ _ a1 (hp p hp') fun z=>by
   rw[ui hF] at z
   rcases List.mem_cons.mp z with z|z
   ·exact a3 z
   ·exact a4 z,a2,a3,a4,a5⟩
theorem Tr(I:Inv X pins Z H s)(he:s.heap.get? ea=some oe)(hH:H ea=none)(hL:ea≠X.env.locals)(hfs:ea ∉ X.fs)(hd:oe.data = .fields vs)(h2:vs[2]? = some .none):Inv (cxH X ea oe) pins Z H s:=
 ⟨⟨I.ok.mod,I.ok.kind,I.ok.glob,I.ok.blt,I.ok.above,I.ok.inj,I.ok.has,I.ok.cab,fun z=>(nomatch z),.inr ⟨ea,oe,vs,rfl,mem_cons_self,hd,h2⟩,I.ok.frames,I.ok.stk,I.ok.exf,I.ok.bs,I.ok.bsz,I.ok.Hm,I.ok.Lj,I.ok.sV,I.ok.frf⟩,
  I.os,I.bare,I.base,I.loc,I.cell,I.free,I.jY,fun p hp=>by
   rcases List.mem_cons.mp (show p∈(ea,oe)::(X.pn++pins) from hp) with z|z
   ·rw[z];exact⟨he,hH,hL,hfs,fun v y=>by rw[hd] at y;cases y⟩
   ·exact I.pin p z,I.hok,I.len⟩
theorem Mp{h':Heap}{m':Str->Option Value}{tk:Nat}(ok:X.Ok)(I:Inv (cxH X ea oe) pins Z H s)(hn:h'.Ns X.env.locals m')(hs:Heap.SameBut X.env.locals s.heap h')(hx:X.ex=[]):Inv X pins (List.replicate X.N.length none) H {s with heap:=h',toks:=tk}:=by
 have kp:∀b o,b≠X.env.locals->s.heap.get? b=some o->h'.get? b=some o:=fun b o hb e=>(hs.2 b hb).trans e
 have low:∀b o,X.dl.heap.get? b=some o->b≠X.env.locals:=fun b o e=>ne_of_lt (lt_of_lt_of_le (Heap.lt_size e) ok.above)
 have cne:∀x c,X.env.cells.lookup x=some c->c≠X.env.locals:=I.cne
 have u:Un X.fs X.ex X.H₀ H X.dl.heap s.heap:=I.base
 have hneL:∀b∈X.fs,b≠X.env.locals:=fun b hb z=>by
  obtain⟨_,o,e,_⟩:=ok.sV.mem hb
  exact low b o e z
 refine⟨ok,I.os,I.bare,⟨fun b o e n f x=>kp b o (low b o e) (u.keep b o e n f x),fun b o e n f x=>?_,u.free,fun b o e x=>?_,u.sF,u.rD,u.rC⟩,⟨m',hn,fun i x v h1 h2 h3=>?_⟩,fun x c e=>?_,I.free,I.jY,fun p hp=>?_,fun b o e=>?_,by simp⟩
 ·obtain⟨sl,e1⟩:=u.slot b o e n f x
  exact⟨sl,kp b _ (low b o e) e1⟩
 ·obtain⟨o1,e1⟩:=u.there b o e x
  exact⟨o1,kp b o1 (low b o e) e1⟩
 ·rw[List.getElem?_replicate] at h2
  split at h2<;>cases h2
 ·obtain⟨v,o,e1,d⟩:=I.cell x c e
  exact⟨v,o,kp c o (cne x c e) e1,d⟩
 ·obtain⟨a1,a2,a3,a4,a5⟩:=I.pin p (mem_cons_of_mem _ hp)
  exact⟨kp _ _ a3 a1,a2,a3,a4,a5⟩
 ·refine (I.hok b o e).Ah (fun d v hd q=>kp d v ?_ q) (fun _ q=>q) fun _ _ q=>q
  have fr:H X.env.locals=none:=I.free
  rintro rfl
  rcases hd with z|z
  ·rw[<- z,fr] at e;cases e
  ·rw[fr] at z;cases z
noncomputable def Um(X:Cx)(di ni:Nat)(C:Value)(tS:Addr->Obj->TS):TS:=fun D Z H=>∃(fa:Addr) (Good:Hp->Prop),Z[di]? = some (some (.ref fa)) /\
 (∀s1,Inv X [] Z H s1->PySem.W.FnAt fa s1.heap/\codeAny (model X.prog X.w) X.A (.call (.ref fa) ⟨[],[]⟩) (CR (CX1 X.prog X.w) X.stack X.prog X.w H s1 (fun _ _=>False) (fun cls _ H'=>cls=C/\Good H')) s1) /\
 ∀H' ea oe,Good H'->oe.cls=C->H' ea=none->tS ea oe {nx:=fun _ _=>False,rt:=D.rt} (Z.set ni (some (.ref ea))) H'
theorem PY{dn x n:Str}{dp cp ep np hp pos:Pos}{di ni:Nat}{o0:Stmt}{suite:List Stmt}{C FE:Addr}{tS:Addr->Obj->TS}(hF:Frm X)(hpn:X.pn=[])(hNd:X.N.Nodup)(hd:X.N[di]? = some dn)(hv:Vis X.env.scope dn)(hn:X.N[ni]? = some n)(hl:X.env.kindOf n=some .local)(hg:Gl X x)(hm:X.mg x=some (.ref FE))
  (hex:exmOne X.K (.ref C) (.ref FE)=some true) (hs:∀ea oe,PSs (cxH X ea oe) (o0::suite) (tS ea oe)) (hdb:(dn==("__debug__":Str))=false:=by decide) (hdc:(dn==("__classdict__":Str))=false:=by decide) (hxb:(x==("__debug__":Str))=false:=by decide)
  (hsw:swapsWith (.Call (.Name dn dp) [] [] cp) none ep.line X.env=pure false:=by rfl) (pins0:List (Addr×Obj)) (s:Shared) (Z:St) (H:Hp) (D:Ends) (hp0:pins0=[]) (I0:Inv X pins0 Z H s) (h:Um X di ni (.ref C) tS D Z H) :
  wpAny (model X.prog X.w) X.A (exec (.Try [.Expr (.Call (.Name dn dp) [] [] cp) ep] [.ExceptHandler (some (.Name x np)) (some n) (o0::suite) hp] [] [] pos) X.env) (SP X pins0 D) X.xe s:=by
 subst hp0
 obtain⟨fa,Good,wP,deed,good⟩:=h
 refine wpAny_Try_except (wpAny_execs_cons (wpAny_Expr_any (wpAny_Call_Name_kw (wpAny_mono (GV (X:=X.nox) hd hv hdb hdc [] s Z H (fun v H1=>v = .ref fa/\H1=H) (I0.Ad _) ⟨.ref fa,wP,rfl,rfl⟩) (fun v s1 hv1=>?_) fun _ _ z=>z.elim)) I0.quiet hsw))
 obtain⟨y,H1,I1,r,e1,e2⟩:=hv1
 subst e1 e2
 cases r
 have I1:=I1.nG
 obtain⟨fn,code⟩:=deed s1 I1
 refine PySem.W.callWith_F0 fn (wpAny_call (codeAny_mono code fun r s' hr=>?_))
 cases r with
 |ok fl=>
  cases fl with
  |ret u=>obtain⟨_,_,_,_,_,_,_,z⟩:=hr;exact z.elim
  |next=>exact hr.elim
  |brk=>exact hr.elim
  |cont=>exact hr.elim
 |error e=>
  obtain⟨O,ea,cls,H',rfl,os,bare,un,hok,hO,ht,F,rfl,gd⟩:=hr
  have I':Inv X [] Z H' s':=I1.FK (ch:=[]) os un hok bare (fun b z=>nomatch z)
  have fr:X.A.frames=some (X.env::X.outer):=by rw[<- hF.stk];exact I0.ok.frames
  have hO0:∀b o,X.dl.heap.get? b=some o->O b:=fun b o e=>by
   obtain⟨o',e'⟩:=I1.base.there b o e (by rw[hF.ex];exact fun z=>nomatch z)
   exact hO b o' e'
  have hpp:∀p∈X.pn++([]:List (Addr×Obj)),O p.1:=fun p hp=>by rw[hpn] at hp;exact nomatch hp
  have hLO:O X.env.locals:=by
   obtain⟨m,⟨o,es,ep,e,_⟩,_⟩:=I1.loc
   exact hO _ o e
  refine Bq (s:=s') fr (xa hF I') hF.fr F fun h2 k2 F2=>?_
  have I2:=BY hF I' k2 hO0 ht hpp
  refine lL (s:={s' with heap:=h2}) (fs:=frs (X.env::X.outer)) F2 fun h3 k3 F3=>?_
  have I3:=BY hF I2 k3 hO0 ht hpp
  have keyE:∀{h:Heap} {fl:Value},Fly O h ea (.ref C) fl->∀{s4:Shared},s4.heap=h->Inv X [] Z H' s4->∃oe,oe.cls = .ref C/\s4.heap.get? ea=some oe/\H' ea=none/\Inv (cxH X ea oe) [] Z H' s4:=fun {h fl} G {s4} e4 I4=>by
   obtain⟨_,oe,vs,T,oT,ts,g1,g2,g3,g4,g5,g6,_⟩:=G
   have hH:H' ea=none:=by
    cases z:H' ea with
    |none=>rfl
    |some o=>exact absurd (ht ea (by rw[z];exact fun y=>nomatch y)) g6
   refine⟨oe,g2,by rw[e4];exact g1,hH,Tr I4 (by rw[e4];exact g1) hH (fun z=>g6 (by rw[z];exact hLO)) (fun z=>?_) g3 g5⟩
   exact DN I4 ea z oe (by rw[e4];exact g1) vs g3
  obtain⟨oe3,c3,g3,n3,H3⟩:=keyE F3 rfl I3
  refine wpAny_handleBy_cons (codeAny_handlers_test (vj (X:=cxH X ea oe3) H3 hg hm ?_ hxb)) (by intro z;cases z)
  refine (PySem.W.exm_one (M:=model X.prog X.w) (K:=X.K) (h:=h3) I3.kIn (fun A' Q' E' s4 kk q=>?_) hex).here ?_
  ·have e3:=kk _ _ g3
   unfold typeOf
   refine wpAny_bind (wpAny_loadPart e3 ?_)
   rw[c3]
   exact wpAny_pure q
  ·refine codeAny_handlers_suite_as (lL (s:={s' with heap:=h3}) (fs:=frs (X.env::X.outer)) F3 fun h4 k4 F4=>?_)
   have I4:=BY hF I3 k4 hO0 ht hpp
   obtain⟨oe,c4,g4,n4,H4⟩:=keyE F4 rfl I4
   refine mK (X:=cxH X ea oe) (v:=.ref ea) H4 hNd hn (Or.inl hl) rfl (fun s5 I5=>?_) (Or.inr hl)
   refine wpAny_mono (hs ea oe [] s5 _ H' {nx:=fun _ _=>False,rt:=D.rt} I5 (good H' ea oe gd c4 n4)) (fun f s6 h6=>?_) fun e s6 z=>z.elim
   cases f with
   |next=>obtain⟨_,_,_,z⟩:=h6;exact z.elim
   |brk=>obtain⟨_,_,_,z⟩:=h6;exact z.elim
   |cont=>obtain⟨_,_,_,z⟩:=h6;exact z.elim
   |ret u=>
    obtain⟨v,am,H6,I6,r6,q6⟩:=h6
    obtain⟨m6,hn6,_⟩:=I6.loc
    refine wpAny_nameGoes (env:=X.env) hl hn6 (by rw[I0.ok.kind];rfl) fun h7 m7 hn7 hs7=>?_
    exact⟨v,_,H6,Mp I0.ok I6 hn7 hs7 hF.ex,r6,q6⟩
end
theorem Tg{CX:CXT}{P:Program}{w:World}{K:PySem.W.Frag}{mg:Str->Option Value}{base:Heap}{k:Nat}{f:Addr}{name qual:Str}{params:Arguments}{body:List Stmt}{scope:Scope}{dV kV doc pm cdv ct oc:Value}{an od:Option Addr}{osl:Array (Option Value)}{N ps:List Str}
  {A:Around} {outer:List Env} {s:Shared} {H:Hp} {args:Args} {us:List Value} {vs:List V} {Q:VK} {E:XK} (lk:K.lookup f=some ⟨oc,od,.func (fnOf name qual params body scope dV kV doc pm an cdv ct),osl⟩) (hcd:codeIn K cdv qual=true) (S:aG N ps scope)
  (hl:vs.length=ps.length) (hr:g8 (k+1) A) (e0:EH P w K mg base A outer s H) (hb:BindsTo s (fnOf name qual params body scope dV kV doc pm an cdv ct) args (ps.zip us)) (r:Vals vs us)
  (hq:∀s1,Inv (lY CX P w K mg base N qual scope f cdv A outer s H E) [] (start N vs) H s1->wpAny (model P w) (A.deeper (envOfC qual scope s.heap.objs.size f cdv)) (execs body (envOfC qual scope s.heap.objs.size f cdv)) (SP (lY CX P w K mg base N qual scope f cdv A outer s H E) [] {nx:=fun _ H'=>Q .non H',rt:=Q}) (lY CX P w K mg base N qual scope f cdv A outer s H E).xe s1) :
  codeAny (model P w) A (.call (.ref f) args) (CR CX outer P w H s Q E) s:=by
 have KX:K.In s.heap:=e0.mod.kin.keeps fun b o e=>(e0.bs b o e).1
 have lim:s.heap.NoLimit:=e0.mod.nolimit.keeps fun b o e=>(e0.bs b o e).1
 have hkind:∀y∈ps.zip us,scope.names.lookup y.1=some .local\/(scope.names.lookup y.1=some .cell/\((cellsFrom (s.heap.objs.size+1) scope.names []).lookup y.1).isSome=true):=fun ⟨n,v⟩ hy=>by
  rcases S.par n (List.of_mem_zip hy).1 with q|q
  ·exact .inl q
  ·exact .inr ⟨q,PySem.W.cellsFrom_some _ _ _ (.inl q)⟩
 refine codeAny_call_function hr.depth (KX _ _ lk) rfl S.co S.gen rfl (PySem.W.codeRec_of KX hcd) (hb _ _ _ _ ?_)
 refine wpAny_newFunctionEnv_cells S.kind hkind fun env he s1 x=>?_
 subst he
 refine⟨lim.keeps x.toInCall.keep,codeAny_func ?_⟩
 have I:Inv (lY CX P w K mg base N qual scope f cdv A outer s H E) [] (start N vs) H s1:=BH S hr.hd e0 hl r x
 refine wpAny_mono (hq s1 I) (fun fl s' hs=>?_) fun e s' hs=>hs
 have fin:∀{am:St} {H':Hp} {v:V} {u:Value},Inv (lY CX P w K mg base N qual scope f cdv A outer s H E) [] am H' s'->RelV v u->Q v H'->CE outer P w H s Q u s':=
  fun {am H' v u} J rv q=>⟨v,H',J.os,J.bare,J.base,J.hok,rv,q⟩
 cases fl with
 |ret u=>obtain⟨v,am,H',J,rv,q⟩:=hs;exact fin J rv q
 |next=>obtain⟨am,H',J,q⟩:=hs;exact fin (v:=V.non) (u:=Value.none) J rfl q
 |brk=>obtain⟨_,_,_,q⟩:=hs;exact False.elim q
 |cont=>obtain⟨_,_,_,q⟩:=hs;exact False.elim q
structure MF(P:Program)(w:World)(K:PySem.W.Frag)(mg:Str->Option Value)(base:Heap)(k:Nat)(f:Addr)(fd:FuncData)(dn:Str)(C:Value)(nm:Str):Prop where
 run:∀(A:Around) (outer:List Env) (s:Shared) (H:Hp) (fa:Addr) (Good:Hp->Prop) (Q:VK),g8 (k+1) A->EH P w K mg base A outer s H->BindsTo s fd ⟨[.ref fa],[]⟩ ([dn].zip [.ref fa]) ->
  (∀(A':Around) (outer':List Env) (s':Shared),g8 k A'->EH P w K mg base A' outer' s' H->Un (frs outer) [] H H s.heap s'.heap->PySem.W.FnAt fa s'.heap/\codeAny (model P w) A' (.call (.ref fa) ⟨[],[]⟩) (CR (CX1 P w) outer' P w H s' (fun _ _=>False) (fun cls _ H'=>cls=C/\Good H')) s') ->
  (∀H',Good H'->∃U,cz K U H'/\∀H'',Ext K U H' U H''->cz K U H''->Q (.str nm) H'') ->
  codeAny (model P w) A (.call (.ref f) ⟨[.ref fa],[]⟩) (CR CX0 outer P w H s Q E0) s
theorem Q6{P:Program}{w:World}{K:PySem.W.Frag}{mg:Str->Option Value}{base:Heap}{k:Nat}{f:Addr}{fd:FuncData}{fx qual:Str}{st:Stmt}{dn n y1 y2 x:Str}{dp cp ep np hp pos:Pos}{o0:Stmt}{suite rest:List Stmt}{C FE:Addr}{nm:Str}{td:Addr->DTS}
  (F:Fun K fx qual st f fd) (S:aG [dn,n,y1,y2] [dn] (ax st))
  (hbody:fw st = .Try [.Expr (.Call (.Name dn dp) [] [] cp) ep] [.ExceptHandler (some (.Name x np)) (some n) (o0::suite) hp] [] [] pos::rest)
  (hv:(ax st).names.lookup dn=some .local) (hl:(ax st).names.lookup n=some .local) (hg:(ax st).names.lookup x=some .globalImplicit) (hm:mg x=some (.ref FE)) (hex:exmOne K (.ref C) (.ref FE)=some true)
  (hdb:(dn==("__debug__":Str))=false) (hdc:(dn==("__classdict__":Str))=false) (hxb:(x==("__debug__":Str))=false)
  (hsw:∀env:Env,swapsWith (.Call (.Name dn dp) [] [] cp) none ep.line env=pure false)
  (hs:∀(cdv:Value) (A:Around) (outer:List Env) (s:Shared) (H:Hp) (ea:Addr) (oe:Obj),oe.cls = .ref C->g8 k (lY CX0 P w K mg base [dn,n,y1,y2] qual (ax st) f cdv A outer s H E0).A->DSs (cxH (lY CX0 P w K mg base [dn,n,y1,y2] qual (ax st) f cdv A outer s H E0) ea oe) (o0::suite) (td ea))
  (hrd:∀(ea fa:Addr) (U:Mu) (Qd:DK),Qd (.v (.str nm)) U->td ea {nx:=fun _ _=>False,rt:=Qd} [some (.o fa),some (.o ea),none,none] U):MF P w K mg base (k+1) f fd dn (.ref C) nm where
 run:=fun A outer s H fa Good Q hr e0 hb deed fin=>by
  obtain⟨oc,od,kV,doc,pm,an,cdv,ct,osl,rfl,lk,hcd⟩:=F.ex
  refine Tg (k:=k+1) (vs:=[.ref fa]) (us:=[.ref fa]) lk hcd S rfl hr e0 hb (.cons rfl .nil) fun s1 I=>?_
  show wpAny _ _ (execs (fw st) _) _ _ _
  rw[hbody]
  have hX:∀ea oe,PSs (cxH (lY CX0 P w K mg base [dn,n,y1,y2] qual (ax st) f cdv A outer s H E0) ea oe) (o0::suite) (fun D am H'=>oe.cls = .ref C/\H' ea=none/\am=(start [dn,n,y1,y2] [V.ref fa]).set 1 (some (.ref ea))/\∃U,cz K U H'/\∀H'',Ext K U H' U H''->cz K U H''->D.rt (.str nm) H''):=fun ea oe pins' s' am H' D I' h=>by
   obtain⟨hc,hH,rfl,U,ok,q⟩:=h
   obtain⟨t,p,l⟩:=hs cdv A outer s H ea oe hc ((hr.deeper _).mono (Nat.le_succ _))
   refine p pins' s' _ H' D I' (l _ H' [some (.o fa),some (.o ea),none,none] U {nx:=fun _ _=>False,rt:=fun d Y=>d = .v (.str nm)/\Y=U} D ⟨ok,rfl,fun i d e=>?_⟩ (hrd ea fa U _ ⟨rfl,rfl⟩) (fun _ _ _ _ _ _ z=>z.elim) (fun d u Y H'' e' ok' r ⟨z1,z2⟩=>?_) (fun _ _ _ _ _ _ z=>z.elim) (fun _ _ _ _ _ _ z=>z.elim))
   ·match i,e with
    |0,e=>cases e;exact⟨.ref fa,rfl,rfl⟩
    |1,e=>cases e;exact⟨.ref ea,rfl,rfl⟩
    |2,e=>cases e
    |3,e=>cases e
   ·subst z1 z2
    cases r
    exact q H'' e' ok'
  refine wpAny_execs_cons (wpAny_mono (PY (X:=lY CX0 P w K mg base [dn,n,y1,y2] qual (ax st) f cdv A outer s H E0) (C:=C) (FE:=FE) (di:=0) (ni:=1) ⟨rfl,rfl,rfl⟩ rfl S.nd rfl (Or.inl hv) rfl hl hg hm hex hX hdb hdc hxb (hsw _) [] s1 _ H {nx:=fun _ _=>False,rt:=Q} rfl I
   ⟨fa,Good,rfl,fun s2 I2=>deed _ _ s2 (hr.deeper _) I2.Rj I2.base,fun H' ea oe gd c hn=>⟨c,hn,rfl,fin H' gd⟩⟩) (fun fl s' hs'=>?_) fun _ _ z=>z)
  cases fl with
  |ret u=>exact hs'
  |next=>obtain⟨_,_,_,z⟩:=hs';exact z.elim
  |brk=>obtain⟨_,_,_,z⟩:=hs';exact z.elim
  |cont=>obtain⟨_,_,_,z⟩:=hs';exact z.elim
section
variable {X:Cx}{e:Expr}{te:DTE}{p py pos:Pos}{y:Str}{C:Addr}{b:Bool}{ea:Addr}{oe:Obj}
noncomputable def nJ(ea:Addr)(b:Bool)(te:DTE):DTE:=fun ρ U Q=>te ρ U fun x ac=>match x with
 |.o a=>a=ea/\Q (.v (.bool b)) ac
 |_=>False
theorem En{cv:V}{w:Value}(ZY:yy X.K C)(hp:(ea,oe)∈X.pn)(hc:oe.cls = .ref C)(r:RelV cv w)(hw:∀u,RelV cv u->u=w)(ek:kitOne X.K (.ref C) w=some b):jW X (.builtin "isinstance") (fun xs H Q=>xs=[.ref ea,cv]/\Q (.bl b) H):=by
 intro pins s Z H xs us Q I rr h
 obtain⟨rfl,q⟩:=h
 obtain⟨v,w',rfl,r1,r2⟩:=vals2 rr
 cases r1
 obtain rfl:=hw w' r2
 exact kia_one (MN ZY) I.kIn ⟨oe,(I.pin (ea,oe) (mem_append_left _ hp)).1,hc⟩ ek (fun z=>nomatch z) fun tk=>⟨.bl b,H,I.tok _,rfl,q⟩
theorem jf{C':Addr}(ZY:yy X.K C)(hp:(ea,oe)∈X.pn)(hc:oe.cls = .ref C)(ek:kitOne X.K (.ref C) (.ref C')=some b)(hg:Gl X "isinstance")(hm:X.mg "isinstance"=none)(hgy:Gl X y)(hmy:X.mg y=some (.ref C'))(ha:DE X e te)(hdy:(y==("__debug__":Str))=false:=by decide)
  (he:starEach [e,.Name y py] X.env=(false,eval e X.env)::starEach [.Name y py] X.env:=by rfl) (he2:starEach [.Name y py] X.env=[(false,eval (.Name y py) X.env)]:=by rfl) (hpl:(backTo pos (starEach [.Name y py] X.env)).any (·.1)=false:=by rfl):DE X (.Call (.Name "isinstance" p) [e,.Name y py] [] pos) (nJ ea b te):=by
 obtain⟨t1,p1,l1⟩:=ha
 refine⟨_,qj (En (cv:=.ref C') ZY hp hc rfl (fun u h=>h) ek) hg hm PyProof.Rows.Boot.«isinstance» (eP p1 (eP (IE (v:=.ref C') hgy hmy rfl hdy) oH he2) he) ⋯ ⋯ he hpl,fun Z H ρ U Qd Q S h k=>?_⟩
 refine l1 Z H ρ U _ _ S h fun x ux ac H1 e1 S1 rx h1=>?_
 split at h1
 ·obtain⟨rfl,h1⟩:=h1
  obtain rfl:ux = .ref _:=rx
  exact⟨rfl,k (.v _) _ ac H1 e1 S1 (Rp.bool _) h1⟩
 ·exact h1.elim
theorem Oq{T:String}(ZY:yy X.K C)(hp:(ea,oe)∈X.pn)(hc:oe.cls = .ref C)(ek:kitOne X.K (.ref C) (.type T)=some b)(hg:Gl X "isinstance")(hm:X.mg "isinstance"=none)(hgy:Gl X y)(hmy:X.mg y=none)(hvy:bootBuiltins y=some (.type T))(ha:DE X e te)(hny:y ≠ "__name__":=by decide)(hdy:(y==("__debug__":Str))=false:=by decide)
  (he:starEach [e,.Name y py] X.env=(false,eval e X.env)::starEach [.Name y py] X.env:=by rfl) (he2:starEach [.Name y py] X.env=[(false,eval (.Name y py) X.env)]:=by rfl) (hpl:(backTo pos (starEach [.Name y py] X.env)).any (·.1)=false:=by rfl):DE X (.Call (.Name "isinstance" p) [e,.Name y py] [] pos) (nJ ea b te):=by
 obtain⟨t1,p1,l1⟩:=ha
 refine⟨_,qj (En (cv:=.ty T) ZY hp hc rfl (fun u h=>h) ek) hg hm PyProof.Rows.Boot.«isinstance» (eP p1 (eP (yj (v:=.ty T) hgy hmy hvy rfl hny hdy) oH he2) he) ⋯ ⋯ he hpl,fun Z H ρ U Qd Q S h k=>?_⟩
 refine l1 Z H ρ U _ _ S h fun x ux ac H1 e1 S1 rx h1=>?_
 split at h1
 ·obtain⟨rfl,h1⟩:=h1
  obtain rfl:ux = .ref _:=rx
  exact⟨rfl,k (.v _) _ ac H1 e1 S1 (Rp.bool _) h1⟩
 ·exact h1.elim
end
structure TB(K:PySem.W.Frag)(mg:Str->Option Value)(c P:Addr)(q:Str):Prop where
 obj:∃o,K.lookup c=some o/\bS o=some (P,q)
 one:∀c2 o2 q2,K.lookup c2=some o2->bS o2=some (P,q2)->q2=q
 blt:Px K mg
noncomputable def DD(cap:List (Option Nat))(tx:DTX)(nm:Str):DTE:=fun ρ U Qd=>tx (dj cap ρ) U fun Y=>Qd (.v (.str nm)) Y
theorem JG{X:Cx}{k:Nat}{f c P:Addr}{fd:FuncData}{dn rn q nm:Str}{C:Value}{params:Arguments}{body:Expr}{lsc:Scope}{lpos p pos:Pos}{cl:List (Str×Addr)}{N':List Str}{cap:List (Option Nat)}{tx:DTX}
  (R:MF X.prog X.w X.K X.mg X.base k f fd dn C nm) (hr:g8 (k+1) X.A) (hg:Gl X rn) (hm:X.mg rn=some (.ref f)) (hk:keepIn X.K (.ref f)=true) (hb:Binds X.K fd [dn] []) (L:TB X.K X.mg c P q) (hcode:X.env.code = .ref c) (hq:X.env.qual=q ++ ".<locals>.")
  (hk0:0<k) (he:∀(A':Around) (outer':List Env) (s':Shared) (H':Hp) (fa c1:Addr) (E:XK),g8 (k-1) (xH X.prog X.w X.K X.mg X.base N' lsc cl (cQ q) fa c1 A' outer' s' H' E).A->XE (xH X.prog X.w X.K X.mg X.base N' lsc cl (cQ q) fa c1 A' outer' s' H' E) E C body tx)
  (hdef:defaultsOf params X.env=([],[])) (hclos:closureFor lsc X.env=pure cl) (hbind:∀(pm ctv:Value) (c1:Addr),bindArgs (kla_fn "<lambda>" (cQ q) params body lsc cl pm (.ref c1) ctv) ⟨[],[]⟩=pure [])
  (hkind:lsc.kind = .function) (hco:lsc.isCoroutine=false) (hgen:lsc.isGenerator=false) (hcell:∀y∈lsc.names,y.2≠.cell) (hcl:∀x a,cl.lookup x=some a->X.env.cells.lookup x=some a) (hhas:∀x,lsc.names.lookup x=some .cell\/lsc.names.lookup x=some .free->∃a,cl.lookup x=some a)
  (hlen:cap.length=N'.length) (hcap:∀(i j:Nat) (x:Str),cap[i]? = some (some j)->N'[i]? = some x->X.N[j]? = some x/\Vis X.env.scope x/\X.env.kindOf x≠some .local/\lsc.names.lookup x=some .free)
  (hdb:(rn==("__debug__":Str))=false:=by decide) (hst:starEach [.Lambda params body lsc lpos] X.env=[(false,eval (.Lambda params body lsc lpos) X.env)]:=by rfl) :
  DE X (.Call (.Name rn p) [.Lambda params body lsc lpos] [] pos) (DD cap tx nm):=by
 refine O3 fun pins s Z H ρ U Qd Q I S h kk=>?_
 obtain⟨o,hl,hlc⟩:=L.obj
 refine wpAny_Call_Name_kw (vj I hg hm ?_ hdb)
 refine PySem.W.callWith_K (h₀:=X.base) I.ok.mod.kin hk (spliced_more (QE I S.mu hcode hl hlc L.one hq L.blt hclos hdef fun fa c1 ctv pm H1 s1 I1 ex mu ho hfa hfr hc1=>spliced_none ⟨I1.kIn,?_⟩) (by rw[hst];rfl)) (by rw[hst];rfl) rfl
 have S1:St0 X.K H1 ρ U Z:=⟨mu,S.rho.ext S.mu ex⟩
 refine wpAny_call (codeAny_mono (R.run X.A X.stack s1 H1 fa (fun H'=>∃Y,Ext X.K U H1 Y H'/\cz X.K Y H'/\Qd (.v (.str nm)) Y) Q hr I1.Rj (hb s1 [.ref fa] I1.kIn rfl) (fun A' outer' s' hr' e0' un=>?_) fun H' ⟨Y,e',ok',q'⟩=>?_) fun r s' hq'=>?_)
 ·have ho':=un.keep fa _ ho hfa hfr (fun z=>nomatch z)
  refine⟨⟨_,_,_,_,ho'⟩,?_⟩
  obtain⟨k',rfl⟩:∃k',k=k'+1:=⟨k-1,∅⟩
  obtain⟨t,pe,l⟩:=he A' outer' s' H1 fa c1 (fun cls _ H'=>cls=C/\∃Y,Ext X.K U H1 Y H'/\cz X.K Y H'/\Qd (.v (.str nm)) Y) (hr'.deeper _)
  have cellK:∀x cc v,X.env.cells.lookup x=some cc->s1.heap.IsCell cc v->s'.heap.IsCell cc v:=fun x cc v hx ⟨oc,ec,dc⟩=>by
   obtain⟨sl,e2⟩:=un.any ec (I1.jY x cc hx) (fun z=>nomatch z)
   exact⟨_,e2,dc⟩
  refine Lf (Z:=dj cap Z) (N:=N') hkind hco hgen hcell hr' e0' ho' hc1 (hbind pm ctv c1) ⟨fun x cc hx=>?_,fun x cc hx=>I1.jY x cc (hcl x cc hx),fun x y cc h1 h2=>I1.ok.inj x y cc (hcl x cc h1) (hcl y cc h2),hhas,fun i x v h1 h2 h3=>?_,?_⟩ pe (l _ H1 (dj cap ρ) U (fun Y=>Qd (.v (.str nm)) Y) _ ⟨mu,S1.rho.cap⟩ h fun Y H' e' ok' q'=>⟨rfl,Y,e',ok',q'⟩)
  ·obtain⟨v,hv⟩:=I1.cell x cc (hcl x cc hx)
   exact⟨v,cellK x cc v (hcl x cc hx) hv⟩
  ·obtain⟨j,j1,j2⟩:=u9 h2
   obtain⟨hN,hv,hnl,hfree⟩:=hcap i j x j1 h1
   obtain⟨m,_,hll⟩:=I1.loc
   obtain⟨u,ru,lk⟩:=hll j x v hN j2 hv
   obtain⟨a,ha⟩:=hhas x (.inr hfree)
   rcases lk with ⟨z,_⟩|⟨_,a',z1,z2⟩
   ·exact absurd z hnl
   ·obtain rfl:a'=a:=by have qq:=hcl x a ha;rw[z1] at qq;exact Option.some.inj qq
    exact⟨u,a',ru,hfree,ha,cellK x a' _ z1 z2⟩
  ·unfold dj;rw[length_map];exact hlen
 ·exact⟨Y,ok',fun H'' e'' ok''=>kk (.v (.str nm)) (.str nm) Y H'' (ex.trans (e'.trans e'')) ⟨ok'',S1.rho.ext mu (e'.trans e'')⟩ (Rp.str nm) q'⟩
 ·cases r with
  |error e=>exact hq'.elim
  |ok fl=>
   cases fl with
   |ret u=>exact I1.after hq'
   |next=>exact hq'.elim
   |brk=>exact hq'.elim
   |cont=>exact hq'.elim
end L2.DL
namespace L2
open PySem PySem.Spec PyProof.Rows DL
noncomputable def Tn(tabs:List Addr)(H:Hp):Prop:=∀b,H b=none\/(∃o xs,H b=some (.frz o (.lst xs)))\/(b∈tabs/\H b=some (.tbl #[]))
theorem Ju{P:Program}{w:World}{K:PySem.W.Frag}{mg mb:Str->Option Value}{CX:CXT}{k:Nat}{fa a:Addr}{fd:FuncData}{x:Str}{sp:Sp}{ce:Shared}{vs:List Value}{ns:List Int}(tabs:List Addr)
  (hT:∀p∈tabs,ce.heap.get? p=some (tabObj #[])/\K.lookup p=none) (hA2:∀c o p q,K.lookup c=some o->bS o=some (p,q)->p∈tabs) (hC:∀p∈tabs,isCodeTable ce.heap p)
  (KX:K.In ce.heap) (hns:ce.heap.Ns mainGlobals mg) (hb:ce.heap.Ns builtinsNs mb) (hbb:∀x:Str,x ≠ "__name__"->mb x=bootBuiltins x) (hlim:ce.heap.NoLimit) (hg:ce.gens = #[])
  (ha:ce.heap.get? a=some {cls:=.type "list",data:=.seq vs.toArray}) (hi:IntsAre vs ns) (hl:ns.length<=sizeLine) (hr:g8 k callerA)
  (F:∀base:Heap,K.In base->base.Ns mainGlobals mg->bz P w K mg base CX k fa fd [x] sp) (hbind:∀(s:Shared) (u:Value),BindsTo s fd ⟨[u],[]⟩ [(x,u)])
  (hsp:∀H:Hp,AD K H->SqL K H a (ns.map V.int)->sp [.ref a] H (fun v _=>v = .bl true) fun _ _ _=>False)
  (hCX:∀H e s',CX [] H ce (fun _ _ _=>False) e s'->False) :
  codeAny (model P w) callerA (.call (.ref fa) ⟨[.ref a],[]⟩) (fun r s'=>r = .ok (.ret (.bool true))/\OldK ce.heap s'.heap/\s'.os=ce.os/\AllBare s'.gens) ce:=by
 have rv:=BB hi
 have lenV:=hi.length
 have ant:a ∉ tabs:=fun z=>by have:=(hT a z).1;rw[ha] at this;cases this
 have core:∀H:Hp,Tn tabs H->SqL K H a (ns.map V.int)->HOk P w H ce.heap->(∀b,H b≠none->b=a\/b∈tabs)->(H a≠none->K.lookup a=none)->(∀p∈tabs,H p=some (.tbl #[])) ->
   codeAny (model P w) callerA (.call (.ref fa) ⟨[.ref a],[]⟩) (fun r s'=>r = .ok (.ret (.bool true))/\OldK ce.heap s'.heap/\s'.os=ce.os/\AllBare s'.gens) ce:=by
  intro H hO hS hok hA hK hP
  have base_of:∀{b:Addr} {o:Obj},ce.heap.get? b=some o->H b=none->(D3 ce.heap H).get? b=some o:=fun e n=>Lr e n
  have noA:∀{b:Addr} {o:Obj} {es:Array DictEntry} {ep:Nat},ce.heap.get? b=some o->o.data = .dict es ep->H b=none:=fun {b o es ep} e d=>by
   cases q:H b with
   |none=>rfl
   |some u=>
    rcases hA b (by rw[q];simp) with e'|e'
    ·subst e'
     rw[ha] at e;cases e
     have d':Data.seq vs.toArray _=Data.dict es ep:=d
     cases d'
    ·rw[(hT b e').1] at e;cases e
     have d':Data.fields #[]=Data.dict es ep:=d
     cases d'
  have nsK:∀{b:Addr} {m:Str->Option Value},ce.heap.Ns b m->(D3 ce.heap H).Ns b m:=fun {b m} ⟨o,es,ep,e,d,r⟩=>⟨o,es,ep,base_of e (noA e d),d,r⟩
  have hKb:K.In (D3 ce.heap H):=fun b o e=>base_of (KX b o e) (by
   cases q:H b with
   |none=>rfl
   |some u=>
    rcases hA b (by rw[q];simp) with e'|e'
    ·subst e'
     rw[hK (by rw[q];simp)] at e;cases e
    ·have e2:=e;rw[show K.lookup b=none from (hT b e').2] at e2;cases e2)
  have hM:Mod K mg (D3 ce.heap H):=⟨hKb,nsK hns,⟨mb,nsK hb,hbb⟩,let ⟨mc,h1,h2⟩:=hlim;⟨mc,nsK h1,h2⟩⟩
  have e0:EH P w K mg (D3 ce.heap H) callerA [] ce H:=⟨rfl,hM,fun b o e=>NF e,Nat.le_of_eq (JU _ _),trivial,fun b hb=>absurd (show b∈([]:List Addr) from hb) (by simp),hok,.of_eq hg⟩
  have tb:AD K H:=fun c o p q h1 h2=>⟨#[],hP p (hA2 c o p q h1 h2),trivial,fun pos cv e=>by simp[codeAmong] at e⟩
  refine codeAny_mono ((F _ hKb (nsK hns)).run callerA [] ce H ⟨[.ref a],[]⟩ [.ref a] [.ref a] _ _ hr e0 (hbind ce (.ref a)) (.cons rfl .nil) (hsp H tb hS)) fun r s' h=>?_
  cases r with
  |error e=>exact (hCX H e s' h).elim
  |ok fl=>
   cases fl with
   |next=>exact False.elim h
   |brk=>exact False.elim h
   |cont=>exact False.elim h
   |ret u=>
    obtain⟨v,H',os,bare,un,hok',r',q⟩:=h
    have q':v = .bl true:=q
    subst q'
    obtain rfl:u=Value.bool true:=r'
    refine⟨rfl,⟨fun b o e=>?_,fun b o e=>un.there b o e (by simp)⟩,os,bare⟩
    cases q:H b with
    |none=>exact .inl (un.keep b o e q (by intro z;exact absurd (show b∈([]:List Addr) from z) (by simp)) (by simp))
    |some u=>
     rcases hO b with z|⟨ob,xs,z⟩|⟨zt,z⟩
     ·rw[q] at z;cases z
     ·have z2:=un.rD b ob _ z
      obtain⟨e1,_⟩:=hok b _ z
      obtain⟨e2,_⟩:=hok' b _ z2
      rw[e] at e1;cases e1
      exact .inl e2
     ·obtain⟨more,z2⟩:=un.rC b _ z
      have e2:s'.heap.get? b=some {cls:=.none,data:=.fields (#[]++more)}:=hok' b _ z2
      have e1:=(hT b zt).1
      rw[e] at e1;cases e1
      exact .inr (.inl ⟨hC b zt,rfl,#[],more,rfl,e2⟩)
 have okT:∀p∈tabs,ce.heap.get? p=some {cls:=.none,data:=.fields #[]}:=fun p hp=>(hT p hp).1
 cases hk:K.lookup a with
 |some o=>
  have e:=KX a o hk
  rw[ha] at e
  cases e
  refine core (fun b=>if b∈tabs then some (.tbl #[]) else none) (fun b=>?_) (.inr ⟨_,vs.toArray,_,hk,rfl,rfl,rfl,by rw[size_toArray,lenV];exact hl,by simpa using rv⟩) (fun b u z=>?_) (fun b z=>?_) (fun z=>absurd (if_neg ant) z) (fun p hp=>if_pos hp)
  ·by_cases hb:b∈tabs
   ·exact .inr (.inr ⟨hb,if_pos hb⟩)
   ·exact .inl (if_neg hb)
  ·by_cases hb:b∈tabs
   ·have z':=(if_pos hb).symm.trans z;cases z';exact okT b hb
   ·have z':=(if_neg hb).symm.trans z;cases z'
  ·by_cases hb:b∈tabs
   ·exact .inr hb
   ·exact absurd (if_neg hb) z
 |none=>
  refine core (fun b=>if b=a then some (.frz {cls:=.type "list",data:=.seq vs.toArray} (.lst (ns.map V.int))) else if b∈tabs then some (.tbl #[]) else none) (fun b=>?_) (.inl (.inr ⟨{cls:=.type "list",data:=.seq vs.toArray},if_pos rfl⟩)) (fun b u z=>?_) (fun b z=>?_) (fun _=>hk) (fun p hp=>by
   have:p≠a:=fun y=>ant (by rw[<- y];exact hp)
   exact (if_neg this).trans (if_pos hp))
  ·by_cases hb:b=a
   ·exact .inr (.inl ⟨_,_,if_pos hb⟩)
   ·by_cases hb2:b∈tabs
    ·exact .inr (.inr ⟨hb2,(if_neg hb).trans (if_pos hb2)⟩)
    ·exact .inl ((if_neg hb).trans (if_neg hb2))
  ·by_cases hb:b=a
   ·have z':=(if_pos hb).symm.trans z
    cases z'
    subst hb
    exact⟨ha,by rw[length_map];exact hl,vs,_,rv,ha⟩
   ·by_cases hb2:b∈tabs
    ·have z':=((if_neg hb).trans (if_pos hb2)).symm.trans z;cases z';exact okT b hb2
    ·have z':=((if_neg hb).trans (if_neg hb2)).symm.trans z;cases z'
  ·by_cases hb:b=a
   ·exact .inl hb
   ·by_cases hb2:b∈tabs
    ·exact .inr hb2
    ·exact absurd ((if_neg hb).trans (if_neg hb2)) z
theorem M8{l:PySem.W.OpenLaw}{n k:Nat}{q:Program}{loose:List Str}{XP:(Str->Option Value)->Heap->Prop}{YP:World->Heap->Prop}{d:DefRec}{K:Params->PySem.W.Frag}{CX:World->CXT}{sp:World->Sp}{x:Str}(tabs:List Addr)
  (hn:l.most=some n) (hn2:n<=sizeLine) (hdf:d.params.defaults=[]) (hr:g8 k callerA)
  (hY:∀(w:World) (h:Heap),YP w h->(K w.params).In h/\(∀p∈tabs,h.get? p=some (tabObj #[])/\(K w.params).lookup p=none)/\(∀p∈tabs,isCodeTable h p))
  (hA2:∀(w:World) c o p q,(K w.params).lookup c=some o->bS o=some (p,q)->p∈tabs)
  (F:∀(w:World) (mg:Str->Option Value) (fa:Addr) (h:Heap),(K w.params).In h->h.Ns mainGlobals mg->mg d.name=some (.ref fa) ->
   ∃fd:FuncData,(∀(s:Shared) (u:Value),BindsTo s fd ⟨[u],[]⟩ [(x,u)]) /\
    ∀base:Heap,(K w.params).In base->base.Ns mainGlobals mg->bz l.prog w (K w.params) mg base (CX w) k fa fd [x] (sp w))
  (hsp:∀(w:World) (H:Hp) (a:Addr) (ns:List Int),ns.length<=n->AD (K w.params) H->SqL (K w.params) H a (ns.map V.int)->sp w [.ref a] H (fun v _=>v = .bl true) fun _ _ _=>False)
  (hCX:∀(w:World) (H:Hp) (s:Shared) (e:Value) (s':Shared),CX w [] H s (fun _ _ _=>False) e s'->False) :
  PySem.W.WalkO q loose XP YP l.row.toRowW d [] (fun f vs=>PySem.call f vs):=by
 refine Att.Eb hn hdf fun w dl ce mg mb fa o pm cd doc a vs ns G ZZ ho hd hcd hmg hobj hints hlen hg=>?_
 obtain⟨KX,hT,hC⟩:=hY w _ ZZ
 obtain⟨fd,hb,hF⟩:=F w mg fa _ KX G.T.g hmg
 exact Ju tabs hT (hA2 w) hC KX G.T.g G.T.b G.T.builtins G.T.nolimit hg hobj hints (le_trans hlen hn2) hr hF hb (fun H hO hS=>hsp w H a ns hlen hO hS) fun H e s'=>hCX w H ce e s'
end L2
namespace L2.DL
open PySem PySem.Spec PyProof.Rows
theorem _root_.L2.Fun.Uo{P:Program}{w:World}{K:PySem.W.Frag}{mg:Str->Option Value}{base:Heap}{x qual:Str}{st:Stmt}{f:Addr}{fd:FuncData}{N ps:List Str}{k:Nat}{dsp:DSp}(F:Fun K x qual st f fd)(S:aG N ps (ax st))(len:∀ds U Q,dsp ds U Q->ds.length=ps.length)
  (hbody:∀(cdv:Value),fd.code=cdv->∀(A:Around) (outer:List Env) (s:Shared) (H:Hp) (E:XK),g8 k (A.deeper (envOfC qual (ax st) s.heap.objs.size f cdv)) ->
   ∃td,DSs (lY CX0 P w K mg base N qual (ax st) f cdv A outer s H E).nox (fw st) td/\∀ds U Qd,dsp ds U Qd->td {nx:=fun _ Y=>Qd (.v .none) Y,rt:=Qd} (aO N ds) U):bz P w K mg base CX0 (k+1) f fd ps (spD K dsp):=by
 obtain⟨oc,od,kV,doc,pm,an,cdv,ct,osl,rfl,lk,hcd⟩:=F.ex
 refine Lz lk hcd S (fun vs H Q E h=>?_) fun A outer s H vs Q E hr h=>?_
 ·obtain⟨ds,U,Qd,_,r,h,_⟩:=h
  rw[<- r.length];exact len ds U Qd h
 ·obtain⟨ds,U,Qd,ok,r,h,fin⟩:=h
  obtain⟨td,⟨t,p,l⟩,rd⟩:=hbody cdv rfl A outer s H E hr
  exact⟨t,p.nox,l (start N vs) H (aO N ds) U _ _ ⟨ok,wL r⟩ (rd ds U Qd h) (fun am bi Y H' e' S' q=>fin (.v .none) .non Y H' e' S'.mu Rp.none q) (fun d u Y H' e' ok' r' q=>fin d u Y H' e' ok' r' q) (fun _ _ _ _ _ _ q=>q) (fun _ _ _ _ _ _ q=>q)⟩
def OU(X:Cx)(lsc:Scope):Option Nat->Str->Prop
 |some j,x=>X.N[j]? = some x/\Vis X.env.scope x/\X.env.kindOf x≠some .local/\lsc.names.lookup x=some .free
 |none,_=>True
def Tj(X:Cx)(lsc:Scope):List (Option Nat)->List Str->Prop
 |c::r,x::r'=>OU X lsc c x/\Tj X lsc r r'
 |_,_=>True
theorem HV{X:Cx}{lsc:Scope}:∀{cap:List (Option Nat)} {N':List Str},Tj X lsc cap N'->∀(i j:Nat) (x:Str),cap[i]? = some (some j)->N'[i]? = some x->X.N[j]? = some x/\Vis X.env.scope x/\X.env.kindOf x≠some .local/\lsc.names.lookup x=some .free
 |[],_,_,i,j,x,h,_=>by simp at h
 |_::_,[],_,i,j,x,_,h=>by simp at h
 |c::r,y::r',h,0,j,x,h1,h2=>by
  simp at h1 h2;subst h1 h2;exact h.1
 |c::r,y::r',h,i+1,j,x,h1,h2=>HV h.2 i j x (by simpa using h1) (by simpa using h2)
theorem ID{X:Cx}{lsc:Scope}{j:Nat}{x:Str}(h1:X.N[j]? = some x:=by rfl)(h2:X.env.kindOf x=some .cell:=by rfl)(h3:lsc.names.lookup x=some .free:=by rfl):OU X lsc (some j) x:=
 ⟨h1,.inr (.inl h2),(by rw[h2];decide),h3⟩
theorem HQ{K:PySem.W.Frag}{l:List (Addr×Str)}(h:(K.filterMap fun p=>bS p.2)=l){c:Addr}{o:Obj}{P:Addr}{q:Str}(e:K.lookup c=some o)(e2:bS o=some (P,q)):(P,q)∈l:=by
 rw[<- h]
 have mem:∀(L:List (Addr×Obj)),List.lookup c L=some o->(c,o)∈L:=fun L=>by
  induction L with
  |nil=>intro z;cases z
  |cons a r ih=>
   intro z
   rw[lookup_cons] at z
   by_cases y:c=a.1
   ·rw[y] at z ⊢;simp at z;rw[<- z];exact mem_cons_self
   ·rw[show (c==a.1)=false from by simpa using y] at z
    exact mem_cons_of_mem _ (ih z)
 exact List.mem_filterMap.mpr ⟨(c,o),mem K e,e2⟩
theorem BA{K:PySem.W.Frag}{h:Heap}{c P:Addr}{o:Obj}{q:Str}(X:K.In h)(l:K.lookup c=some o)(e:bS o=some (P,q)):isCodeTable h P:=by
 have ho:=X _ _ l
 unfold bS at e
 split at e
 ·rename_i cn vs hcls hd
  split at e
  ·rename_i hcn
   subst hcn
   split at e
   ·rename_i e11 e18
    split at e
    ·cases e
     exact⟨c,o,vs,ho,hcls,hd,by assumption⟩
    ·cases e
   ·cases e
  ·cases e
 ·cases e
theorem C1{K:PySem.W.Frag}{c P:Addr}{q:Str}(h:(K.lookup c).bind bS=some (P,q)):∃o,K.lookup c=some o/\bS o=some (P,q):=Option.bind_eq_some_iff.mp h
theorem CT{K T:PySem.W.Frag}{h:Heap}(X:PySem.W.Frag.In (K++T) h):K.In h:=fun b o e=>X b o (by
 show List.lookup b (K++T)=some o
 rw[List.lookup_append,show List.lookup b K=some o from e];rfl)
theorem PM{K:PySem.W.Frag}{mg:Str->Option Value}{bm:Addr}{sl:Array (Option Value)}(h1:mg "__builtins__"=some (.ref bm))(h2:bm≠builtinsNs)(h3:K.lookup bm=some ⟨.type "module",some builtinsNs,.plain,sl⟩):Px K mg:=⟨bm,_,h1,h2,h3,rfl,rfl,rfl⟩
theorem LA{cap:List (Option Nat)}{tx:DTX}{nm:Str}{ρ:Rho}{U:Mu}{Q:DK}:DD cap tx nm ρ U Q=tx (dj cap ρ) U (fun Y=>Q (.v (.str nm)) Y):=propext Iff.rfl
theorem Ib{dsp:XSp}{t:DTA}{ρ:Rho}{U:Mu}{Xk:Mu->Prop}:Iz dsp t ρ U Xk=t ρ U (fun ds ac=>dsp ds ac Xk):=propext Iff.rfl
theorem R9{tc:DTT}{tx ty:DTX}{ρ:Rho}{U:Mu}{Xk:Mu->Prop}:xIf tc tx ty ρ U Xk=tc ρ U (fun b ac=>if b=true then tx ρ ac Xk else ty ρ ac Xk):=propext Iff.rfl
theorem Sm{ea:Addr}{b:Bool}{i:Nat}{ρ:Rho}{U:Mu}{Q:DK}(h:ρ[i]? = some (some (.o ea))):nJ ea b (ag i) ρ U Q=Q (.v (.bool b)) U:=by
 unfold nJ ag
 rw[h]
 exact propext ⟨fun z=>z.2,fun z=>⟨rfl,z⟩⟩
theorem K8{ea:Addr}{b:Bool}{x:Option D}{r:Rho}{U:Mu}{Q:DK}:nJ ea b (ag 1) (x::some (.o ea)::r) U Q=Q (.v (.bool b)) U:=Sm rfl
def Ka:PyData->Option PyData
 |.tuple [.str n,.bool b]=>if b=true then some (.str n) else none
 |_=>none
theorem KP{r:Rho}{U:Mu}{Q:DK}{ns:List (Str×Bool)}{i:Nat}(hi:r[i]? = some (some (.v (.list (ns.map fun n=>.tuple [.str n.1,.bool n.2])))))(hl:ns.length<=1000)(q:Q (.v (.list ((ns.map fun n=>(.tuple [.str n.1,.bool n.2]:PyData)).filterMap Ka))) U) :
  sQ [none,none] (oK (ag i)) (rM 2 (eY (az 0) (eY (az 1) uQ))) (dB (ag 1)) (ag 0) r U Q:=by
 rw[Cd]
 show (match r[i]? with|some (some d)=>_|_=>False)
 rw[hi]
 refine⟨by rw[length_map];exact hl,fun p hp=>⟨fun i acc Y=>acc=((ns.map fun n=>(.tuple [.str n.1,.bool n.2]:PyData)).take i).filterMap Ka/\Y=aR U p acc,⟨rfl,rfl⟩,?_,?_⟩⟩
 ·rintro i x acc Y hx hpa ⟨e0,e1⟩
  obtain⟨n,hn,rfl⟩:=List.mem_map.mp (mem_of_getElem? hx)
  have st:=yn (f:=Ka) hx
  obtain⟨n,b⟩:=n
  refine⟨rfl,⟨trivial,?_⟩⟩
  show if b=true then _ else _
  cases b with
  |true=>
   rw[if_pos rfl]
   refine⟨hpa,?_,?_⟩
   ·rw[st,<- e0];rfl
   ·rw[e1,we]
  |false=>
   rw[if_neg ⋯]
   refine⟨hpa,?_,e1⟩
   rw[st,<- e0];simp[Ka]
 ·rintro acc Y ⟨e0,e1⟩ hpa
  rw[List.take_length] at e0
  rw[e1,e0,BF hp]
  exact q
noncomputable def QT(ds:List D):PQ:=fun K u U H=>∃a us,u = .ref a/\H a=some (.tup us)/\lA K U H ds us
mutual
theorem Rp.sub{K:PySem.W.Frag}{U ac:Mu}{H:Hp}(h:∀a,ac a=none->U a=none):∀{d:PyData} {u:V},Rp K ac H d u->Rp K U H d u
 |_,_,.none=>.none
 |_,_,.bool b=>.bool b
 |_,_,.int i=>.int i
 |_,_,.str x=>.str x
 |_,_,.list a b c=>.list a (h _ b) (RpL.sub h c)
 |_,_,.tuple a c=>.tuple a (RpL.sub h c)
theorem RpL.sub{K:PySem.W.Frag}{U ac:Mu}{H:Hp}(h:∀a,ac a=none->U a=none):∀{ds:List PyData} {us:List V},RpL K ac H ds us->RpL K U H ds us
 |_,_,.nil=>.nil
 |_,_,.cons a b=>.cons (Rp.sub h a) (RpL.sub h b)
end
noncomputable def pQ(U Y:Mu):Prop:=∀b ds,U b=some ds->Y b=some ds
theorem pQ.refl{U:Mu}:pQ U U:=fun _ _ e=>e
theorem pQ.set{U Y:Mu}{p:Addr}{ds:List PyData}(h:pQ U Y)(n:U p=none):pQ U (aR Y p ds):=fun b es e=>by
 have:b≠p:=fun z=>by rw[z,n] at e;cases e
 rw[bZ this];exact h b es e
theorem pQ.none{U Y:Mu}(h:pQ U Y){b:Addr}(e:Y b=none):U b=none:=by
 cases z:U b with
 |none=>rfl
 |some ds=>rw[h b ds z] at e;cases e
noncomputable def frz(U:Mu)(Qd:DK):DK:=fun d Y=>match d with
 |.v x=>pQ U Y/\Qd (.v x) U
 |.m a=>(U a=none/\pQ U Y)/\∃es,Y a=some es/\Qd (.v (.list es)) U
 |_=>False
theorem zQ{K:PySem.W.Frag}{U Y:Mu}{H:Hp}(ok:cz K Y H)(s:pQ U Y):cz K U H:=⟨fun a ds z=>by
 obtain⟨xs,h1,h2⟩:=ok.lst a ds (s a ds z)
 exact⟨xs,h1,h2.sub fun b hb=>s.none hb⟩,ok.tab⟩
theorem MR{P:Program}{w:World}{K:PySem.W.Frag}{mg:Str->Option Value}{base:Heap}{CX:CXT}{k:Nat}{f:Addr}{fd:FuncData}{ps:List Str}{sp sp':DSp}(F:bz P w K mg base CX k f fd ps (spD K sp))
  (h:∀ds U Qd,sp' ds U Qd->sp ds U (frz U Qd)):bz P w K mg base CX k f fd ps (spD K sp'):=by
 refine F.imp fun vs H Q E h'=>?_
 obtain⟨ds,U,Qd,ok,r,s,kk⟩:=h'
 refine⟨ds,U,_,ok,r,h _ _ _ s,fun d u Y H' e ok' rd q=>?_⟩
 cases d with
 |v x=>
  obtain⟨sb,q⟩:=q
  exact kk (.v x) u U H' ⟨e.keep,e.tb,fun b ds z=>⟨ds,z⟩,fun _ z _=>z⟩ (zQ ok' sb) (show Rp K U H' x u from (show Rp K Y H' x u from rd).sub fun b hb=>sb.none hb) q
 |m a=>
  obtain⟨⟨n,sb⟩,es,he,q⟩:=q
  obtain⟨rfl,_⟩:=rd
  obtain⟨xs,h1,h2⟩:=ok'.lst a es he
  exact kk (.v (.list es)) (.ref a) U H' ⟨e.keep,e.tb,fun b ds z=>⟨ds,z⟩,fun _ z _=>z⟩ (zQ ok' sb) (show Rp K U H' (.list es) (.ref a) from .list h1 n (h2.sub fun b hb=>sb.none hb)) q
 |s ns=>exact q.elim
 |o a=>exact q.elim
 |q p=>exact q.elim
end L2.DL
namespace L2
open PySem PySem.W PyProof.Rows
end L2
namespace L2.DL
open PySem PySem.Spec PyProof.Rows
end L2.DL
namespace L2
open PySem PySem.W PyProof.Rows
section
variable {X:Cx}
theorem Tc{pins:List (Addr×Obj)}{Z:St}{H:Hp}{s:Shared}(I:Inv X pins Z H s):X.K.lookup s.heap.objs.size=none:=by
 cases c:X.K.lookup s.heap.objs.size with
 |none=>rfl
 |some o=>exact absurd (Heap.lt_size (I.kIn _ _ c)) (lt_irrefl _)
theorem Hh:jW X (.type "list") (fun xs H Q=>∃p ys,xs=[.ref p]/\(SqL X.K H p ys\/SqT X.K H p ys)/\∀l,H l=none->X.K.lookup l=none->Q (.ref l) (upd H l (.lst ys))):=by
 intro pins s Z H xs us Q I r h
 obtain⟨p,ys,rfl,hq,q⟩:=h
 have hk:=Tc I
 obtain⟨u,rfl,rx⟩:=vals1 r
 cases rx
 have go:∀(A:Around) (E:Value->Shared->Prop) (its:List Value),Vals ys its->ys.length<=sizeLine->∀(o:Obj) (n:Nat),(o.cls = .type "list"\/o.cls = .type "tuple")->s.heap.get? p=some o->o.data = .seq its.toArray n->wpAny (model X.prog X.w) A (call (.type "list") [.ref p]) (EP X pins Z Q) E s:=fun A E its rv hz o n hc ho hd=>by
  have hlen:=rv.length
  rcases hc with hc|hc
  ·refine call_list_seq p (.inl rfl) ho hc hd (fun h' c' kp e=>⟨.ref s.heap.objs.size,_,I.laid (t':=s.toks) kp (Nat.le_refl _) ?_,rfl,q _ (I.hok.fresh (Nat.le_refl _)) hk⟩) (by rw[size_toArray];omega)
   exact⟨hz,its,c',rv,e⟩
  ·refine call_list_seq p (.inr rfl) ho hc hd (fun h' c' kp e=>⟨.ref s.heap.objs.size,_,I.laid (t':=s.toks) kp (Nat.le_refl _) ?_,rfl,q _ (I.hok.fresh (Nat.le_refl _)) hk⟩) (by rw[size_toArray];omega)
   exact⟨hz,its,c',rv,e⟩
 rcases hq with hq|hq
 ·obtain⟨its,rv,pl,hz⟩:=I.list hq
  obtain⟨o,ho,hc,n,hd⟩:=pl.isList
  exact go _ _ its rv hz o n (.inl hc) ho hd
 ·obtain⟨its,rv,pl,hz⟩:=I.tuple hq
  obtain⟨o,ho,hc,n,hd⟩:=pl
  exact go _ _ its rv hz o n (.inr hc) ho hd
end
end L2
namespace L2.DL
open PySem PySem.Spec PyProof.Rows
def wN:List D->Mu->DK->Prop:=fun xs U Q=>match xs with
 |[.v (.list ys)]=>∀p,U p=none->Q (.m p) (aR U p ys)
 |[.v (.tuple ys)]=>∀p,U p=none->Q (.m p) (aR U p ys)
 |[.m a]=>∃ys,U a=some ys/\∀p,U p=none->Q (.m p) (aR U p ys)
 |_=>False
theorem MS{K:PySem.W.Frag}:qB K (fun xs H Q=>∃p ys,xs=[.ref p]/\(SqL K H p ys\/SqT K H p ys)/\∀l,H l=none->K.lookup l=none->Q (.ref l) (upd H l (.lst ys))) wN:=by
 intro xs us H U Qd Q ok rs h k
 have fin:∀(ys:List PyData) (vs:List V),RpL K U H ys vs->(∀p,U p=none->Qd (.m p) (aR U p ys))->∀l,H l=none->K.lookup l=none->Q (.ref l) (upd H l (.lst vs)):=fun ys vs r q l hl hk=>
  k (.m l) _ (aR U l ys) _ (oU (o:=.lst vs) (ds:=ys) ok hl hk) (ok.mut r hl hk) ⟨rfl,ys,aV⟩ (q l (ok.free hl))
 unfold wN at h
 split at h
 ·cases rs with
  |cons r1 r2=>
   cases r2
   cases r1 with
   |list hs hn r=>exact⟨_,_,rfl,.inl (SqL.of hs),fin _ _ r h⟩
 ·cases rs with
  |cons r1 r2=>
   cases r2
   cases r1 with
   |tuple hs r=>exact⟨_,_,rfl,.inr hs,fin _ _ r h⟩
 ·cases rs with
  |cons r1 r2=>
   cases r2
   obtain⟨ys,hm,h⟩:=h
   obtain⟨rfl,_⟩:=r1
   obtain⟨vs,hl,r⟩:=ok.lst _ ys hm
   exact⟨_,_,rfl,.inl (SqL.of hl),fin _ _ r h⟩
 ·exact h.elim
theorem EI{X:Cx}{e:Expr}{es:List Expr}{t:DTA}{pos p:Pos}(hg:Gl X "list")(hm:X.mg "list"=none)(ha:DA X (e::es) t)
  (he:starEach (e::es) X.env=(false,eval e X.env)::starEach es X.env:=by rfl) (hpl:(backTo pos (starEach es X.env)).any (·.1)=false:=by rfl):DE X (.Call (.Name "list" p) (e::es) [] pos) (dCB wN t):=
 rB Hh MS hg hm PyProof.Rows.Boot.«list» ha ⋯ ⋯ he hpl
end L2.DL
namespace L2
open PySem PySem.Spec PyProof.Rows
end L2
namespace L2.DL
open PySem PySem.W PyProof.Rows
open PySem PySem.Spec PyProof.Rows
section
variable {X:Cx}{e:Expr}{te:DTE}{pos p:Pos}
theorem Je{pins:List (Addr×Obj)}{Z:St}{H:Hp}{s:Shared}{U:Mu}{d:PyData}{u:V}{v:Value}{k:Bool}{A:Around}{E:Value->Shared->Prop}{Q:Value->Shared->Prop}{tp:Addr}{dd:Option Addr}{its:List Value}{n:Nat}{sl:Array (Option Value)}(I:Inv X pins Z H s)(r:Rp X.K U H d u)(rx:RelV u v)
  (htp:s.heap.get? tp=some ⟨.type "tuple",dd,.seq its.toArray n,sl⟩)
  (ek:PySem.W.kitAny X.K (.type (tyD d)) its=some k) (h:∀tk,Q (.bool k) {s with toks:=tk}):wpAny (model X.prog X.w) A (call (.builtin "isinstance") [v,.ref tp]) Q E s:=by
 cases r with
 |none=>cases rx;exact kia_tup PySem.W.kitx_none I.kIn True.intro htp ek (fun z=>nomatch z) h
 |bool b=>cases rx;exact kia_tup PySem.W.kitx_bool I.kIn True.intro htp ek (fun z=>nomatch z) h
 |int i=>obtain⟨t,rfl⟩:=rx;exact kia_tup PySem.W.kitx_int I.kIn True.intro htp ek (fun z=>nomatch z) h
 |str y=>obtain⟨t,rfl⟩:=rx;exact kia_tup PySem.W.kitx_str I.kIn True.intro htp ek (fun z=>nomatch z) h
 |list hs hn q=>
  cases rx
  obtain⟨its,rv,⟨o,n,h1,h2,_⟩,_⟩:=I.list (SqL.of hs)
  exact kia_tup PySem.W.kitx_list I.kIn ⟨o,h1,h2⟩ htp ek (fun z=>nomatch z) h
 |tuple hs q=>
  cases rx
  obtain⟨its,rv,⟨o,h1,h2,_⟩,_⟩:=I.tuple hs
  exact kia_tup PySem.W.kitx_tuple I.kIn ⟨o,h1,h2⟩ htp ek (fun z=>nomatch z) h
theorem Qu(K:PySem.W.Frag)(d:PyData):PySem.W.kitAny K (.type (tyD d)) [.type "tuple",.type "list"]=some (isT "tuple" d || isT "list" d):=by cases d<;>rfl
theorem JK:jW X (.builtin "isinstance") (fun xs H Q=>∃U d u a,xs=[u,.ref a]/\Rp X.K U H d u/\H a=some (.tup [.ty "tuple",.ty "list"])/\Q (.bl (isT "tuple" d || isT "list" d)) H):=by
 intro pins s Z H xs us Q I r h
 obtain⟨U,d,u,a,rfl,rd,ht,q⟩:=h
 obtain⟨v,w',rfl,r1,r2⟩:=vals2 r
 cases r2
 obtain⟨its,rv,⟨o,h1,h2,n,h3⟩,_⟩:=I.tuple (SqT.of ht)
 obtain⟨v1,v2,rfl,q1,q2⟩:=vals2 rv
 cases q1
 cases q2
 obtain⟨cls,dct,dat,sl⟩:=o
 simp only at h2 h3
 subst h2 h3
 exact Je I rd r1 h1 (Qu X.K d) fun tk=>⟨.bl _,H,I.tok _,rfl,q⟩
noncomputable def Lc(te:DTE):DTE:=fun ρ U Q=>te ρ U fun x ac=>match x with
 |.v d=>Q (.v (.bool (isT "tuple" d || isT "list" d))) ac
 |_=>False
theorem Qc{te:DTE}{ρ:Rho}{U:Mu}{Q:DK}:Lc te ρ U Q=te ρ U (fun x ac=>match x with
 |.v d=>Q (.v (.bool (isT "tuple" d || isT "list" d))) ac
 |_=>False):=propext Iff.rfl
theorem Ot{x1}{p1 p2 p3:Pos}(hg:Gl X "isinstance")(hm:X.mg "isinstance"=none)(hgt:Gl X "tuple")(hmt:X.mg "tuple"=none)(hgl:Gl X "list")(hml:X.mg "list"=none)(ha:DE X e te)
  (he:starEach [e,.Tuple [.Name "tuple" p1,.Name "list" p2] x1 p3] X.env=(false,eval e X.env)::starEach [.Tuple [.Name "tuple" p1,.Name "list" p2] x1 p3] X.env:=by rfl) (he2:starEach [.Tuple [.Name "tuple" p1,.Name "list" p2] x1 p3] X.env=[(false,eval (.Tuple [.Name "tuple" p1,.Name "list" p2] x1 p3) X.env)]:=by rfl) (hpl:(backTo pos (starEach [.Tuple [.Name "tuple" p1,.Name "list" p2] x1 p3] X.env)).any (·.1)=false:=by rfl)
  (he3:starEach [.Name "tuple" p1,.Name "list" p2] X.env=(false,eval (.Name "tuple" p1) X.env)::starEach [.Name "list" p2] X.env:=by rfl) (he4:starEach [.Name "list" p2] X.env=[(false,eval (.Name "list" p2) X.env)]:=by rfl) :
  DE X (.Call (.Name "isinstance" p) [e,.Tuple [.Name "tuple" p1,.Name "list" p2] x1 p3] [] pos) (Lc te):=by
 obtain⟨t1,q1,l1⟩:=ha
 refine⟨_,qj JK hg hm PyProof.Rows.Boot.«isinstance» (eP q1 (eP (MA (eP (yj (v:=.ty "tuple") hgt hmt PyProof.Rows.Boot.«tuple» rfl) (eP (yj (v:=.ty "list") hgl hml PyProof.Rows.Boot.«list» rfl) oH he4) he3)) oH he2) he) ⋯ ⋯ he hpl,fun Z H ρ U Qd Q S h k=>?_⟩
 refine l1 Z H ρ U _ _ S h fun x ux ac H1 e1 S1 rx h1=>?_
 split at h1
 ·refine⟨by show 2<=sizeLine;decide,fun a ha=>?_⟩
  have ex:=cC (K:=X.K) (U:=ac) (o:=.tup [.ty "tuple",.ty "list"]) ha
  exact⟨ac,_,ux,a,rfl,Rp.ext S1.mu ex rx,by unfold upd;rw[if_pos rfl],k (.v _) _ ac _ (e1.trans ex) (S1.new ha) (Rp.bool _) h1⟩
 ·exact h1.elim
end
def u7(U:Mu)(a:Addr):Mu:=fun b=>if b=a then none else U b
theorem zD{U:Mu}{a:Addr}:u7 U a a=none:=by unfold u7;rw[if_pos rfl]
theorem uT{U:Mu}{a b:Addr}(h:b≠a):u7 U a b=U b:=by unfold u7;rw[if_neg h]
noncomputable def R7(U:Mu)(Qd:DK):DK:=fun d Y=>match d with
 |.v x=>Qd (.v x) Y
 |.m a=>U a=none/\∃es,Y a=some es/\Qd (.v (.list es)) (u7 Y a)
 |_=>False
theorem OE{P:Program}{w:World}{K:PySem.W.Frag}{mg:Str->Option Value}{base:Heap}{CX:CXT}{k:Nat}{f:Addr}{fd:FuncData}{ps:List Str}{sp sp':DSp}(F:bz P w K mg base CX k f fd ps (spD K sp))
  (h:∀ds U Qd,sp' ds U Qd->sp ds U (R7 U Qd)):bz P w K mg base CX k f fd ps (spD K sp'):=by
 refine F.imp fun vs H Q E h'=>?_
 obtain⟨ds,U,Qd,ok,r,s,kk⟩:=h'
 refine⟨ds,U,_,ok,r,h _ _ _ s,fun d u Y H' e ok' rd q=>?_⟩
 cases d with
 |v x=>exact kk (.v x) u Y H' e ok' rd q
 |m a=>
  obtain⟨n,es,he,q⟩:=q
  obtain⟨rfl,_⟩:=rd
  obtain⟨xs,h1,h2⟩:=ok'.lst a es he
  have sb:pQ (u7 Y a) Y:=fun b ds z=>by
   by_cases c:b=a
   ·rw[c,zD] at z;cases z
   ·rw[uT c] at z;exact z
  refine kk (.v (.list es)) (.ref a) (u7 Y a) H' ⟨e.keep,e.tb,fun b ds z=>?_,fun b z g=>?_⟩ (zQ ok' sb) (show Rp K (u7 Y a) H' (.list es) (.ref a) from .list h1 zD (h2.sub fun b hb=>sb.none hb)) q
  ·have c:b≠a:=fun c=>by rw[c,n] at z;cases z
   rw[uT c];exact e.dom b ds z
  ·exact sb.none (e.fresh b z g)
 |s ns=>exact q.elim
 |o a=>exact q.elim
 |q p=>exact q.elim
end L2.DL
namespace L2
open PySem PySem.Spec PyProof.Rows
def kM{α:Type}(idx:List Nat)(xs:List α):List α:=idx.filterMap (xs[·]?)
theorem Vals.N7{xs:List V}{us:List Value}(h:Vals xs us):∀(i:Nat),(xs[i]? = none/\us[i]? = none)\/∃x u,xs[i]? = some x/\us[i]? = some u/\RelV x u:=by
 induction h with
 |nil=>intro i;exact .inl ⟨rfl,rfl⟩
 |cons r t ih=>
  intro i
  cases i with
  |zero=>exact .inr ⟨_,_,rfl,rfl,r⟩
  |succ i=>exact ih i
theorem Vals.pick{xs:List V}{us:List Value}(h:Vals xs us):∀idx:List Nat,Vals (kM idx xs) (kM idx us)
 |[]=>.nil
 |i::idx=>by
  unfold kM
  rcases Vals.N7 h i with ⟨e1,e2⟩|⟨x,u,e1,e2,r⟩
  ·rw[List.filterMap_cons_none e1,List.filterMap_cons_none e2];exact Vals.pick h idx
  ·rw[List.filterMap_cons_some e1,List.filterMap_cons_some e2];exact .cons r (Vals.pick h idx)
theorem Jc{α:Type}{idx:List Nat}{xs:List α}:∀y∈kM idx xs,y∈xs:=fun y hy=>by
 obtain⟨i,_,e⟩:=List.mem_filterMap.mp hy
 exact mem_of_getElem? e
def zK(n:Nat):List Nat:=sliceRange (sliceBounds none none (some (-5)) n).1 (sliceBounds none none (some (-5)) n).2.1 (sliceBounds none none (some (-5)) n).2.2
theorem MO(n:Nat):(zK n).length<=n:=by
 unfold zK
 have e:sliceBounds none none (some (-5)) n=((n:Int)-1,-1,-5):=by
  first
  |rfl
  |simp[sliceBounds]
 rw[e]
 unfold sliceRange
 have h1:¬ ((-5:Int)>0):=by decide
 simp only[h1,if_false,length_map,List.length_range]
 split
 ·rename_i hn
  rw[show ((n:Int)-1 - -1 - -5-1) / (- -5)=((n:Int)+4) / 5 by congr 1;omega]
  omega
 ·simp
theorem Bt{α:Type}(n:Nat)(xs:List α):(kM (zK n) xs).length<=n:=le_trans (List.length_filterMap_le _ _) (MO n)
theorem SK(items:Array Value):slicePick items none none (some (-5))=(kM (zK items.size) items.toList).toArray:=by
 unfold slicePick kM zK
 congr 2
 funext i
 exact (Array.getElem?_toList).symm
end L2
namespace L2.DL
open PySem PySem.Spec PyProof.Rows
section
variable {X:Cx}{a b e:Expr}{ta tb te:DTE}{pos p2:Pos}
theorem RpL.N7{K:PySem.W.Frag}{U:Mu}{H:Hp}{ds:List PyData}{us:List V}:RpL K U H ds us->∀(i:Nat),(ds[i]? = none/\us[i]? = none)\/∃x u,ds[i]? = some x/\us[i]? = some u/\Rp K U H x u
 |.nil,i=>.inl ⟨rfl,rfl⟩
 |.cons r t,0=>.inr ⟨_,_,rfl,rfl,r⟩
 |.cons r t,i+1=>RpL.N7 t i
theorem RpL.pick{K:PySem.W.Frag}{U:Mu}{H:Hp}{ds:List PyData}{us:List V}(h:RpL K U H ds us):∀idx:List Nat,RpL K U H (kM idx ds) (kM idx us)
 |[]=>.nil
 |i::idx=>by
  unfold kM
  rcases h.N7 i with ⟨e1,e2⟩|⟨x,u,e1,e2,r⟩
  ·rw[List.filterMap_cons_none e1,List.filterMap_cons_none e2];exact RpL.pick h idx
  ·rw[List.filterMap_cons_some e1,List.filterMap_cons_some e2];exact .cons r (RpL.pick h idx)
noncomputable def T6(K:PySem.W.Frag)(te:TE):TE:=fun Z H Q=>te Z H fun x H1=>∃a xs,x = .ref a/\SqL K H1 a xs/\∀p,H1 p=none->Q (.ref p) (upd H1 p (.lst (kM (zK xs.length) xs)))
theorem RQ{te:TE}{j:Nat}{pz q2:Pos}(he:PE X e te):PE X (.Subscript e (.Slice none none (some (.UnaryOp .USub (.Constant (.int 5) j pz) q2)) p2) pos) (T6 X.K te):=by
 intro pins s Z H Q I h
 refine Subscript_ (thn (he pins s Z H _ I h) fun v s1 ⟨x,H1,I1,r1,q1⟩=>?_)
 refine wpAny_Slice ?_
 rw[evalPart_none,evalPart_some]
 refine wpAny_pure (wpAny_pure ?_)
 refine thn ((Lk GK (GI (X:=X) (i:=5) (j:=j) (pos:=pz))) pins s1 Z H1 (fun u H2=>u = .int (-5)/\H2=H1) I1 ⟨5,rfl,rfl,rfl⟩) fun st s2 ⟨z,H2,I2,r2,e2,e3⟩=>?_
 subst e2 e3
 obtain⟨tk,rfl⟩:=r2
 have I4:Inv X pins Z H2 {s2 with heap:=s2.heap.push {cls:=.type "slice",data:=.fields #[.none,.none,.int (-5) tk]}}:=I2.kept (t':=s2.toks) fun b ob q=>Heap.get?_push_of_some _ q
 obtain⟨a,xs,rfl,hx,q⟩:=q1
 cases r1
 have hsl:({s2 with heap:=s2.heap.push {cls:=.type "slice",data:=.fields #[.none,.none,.int (-5) tk]}}:Shared).heap.IsSliceOf s2.heap.objs.size .none .none (.int (-5) tk):=Heap.IsSliceOf.new ..
 obtain⟨its,r,ht,hz⟩:=I4.list hx
 have hlen:=r.length
 refine tail_any (ops:=[.ref a,.ref s2.heap.objs.size]) ht.isList.typeIs slot_list_getitem.lookup ?_ (by with_unfolding_all rfl)
 refine wpAny_getItem_list_slice ht.isList hsl .none .none (.int (-5) tk) ⋯ ?_ (by rw[size_toArray]<;>omega)
 rw[SK]
 refine⟨.ref _,_,I4.laid (t':=s2.toks) (o:=.lst (kM (zK xs.length) xs)) (fun b ob q=>Heap.get?_push_of_some _ q) (Nat.le_refl _) ?_,rfl,q _ (I4.hok.fresh (Nat.le_refl _))⟩
 refine⟨le_trans (Bt _ _) hz,_,0,Vals.pick r _,?_⟩
 rw[hlen]
 exact Heap.get?_push_size _ rfl
noncomputable def Py(te:DTE):DTE:=fun ρ U Q=>te ρ U fun x ac=>match rP ac x with
 |some xs=>Q (.v (.list (kM (zK xs.length) xs))) ac
 |none=>False
theorem RF{j:Nat}{pz q2:Pos}(he:DE X e te):DE X (.Subscript e (.Slice none none (some (.UnaryOp .USub (.Constant (.int 5) j pz) q2)) p2) pos) (Py te):=by
 obtain⟨t1,p1,l1⟩:=he
 refine⟨_,RQ p1,fun Z H ρ U Qd Q S h k=>?_⟩
 refine l1 Z H ρ U _ _ S h fun x ux ac H1 e1 S1 rx h1=>?_
 split at h1
 ·rename_i xs hx
  obtain⟨a,us,rfl,ha,ra⟩:=Ag S1.mu rx hx
  refine⟨a,us,rfl,SqL.of ha,fun p hp=>k (.v _) _ ac _ (e1.trans (cC hp)) (S1.new hp) (dU S1.mu ?_ hp) h1⟩
  have:=ra.pick (zK xs.length)
  rw[ra.length] at this ⊢
  exact this
 ·exact h1.elim
theorem Sn{te:DTE}{ρ:Rho}{U:Mu}{Q:DK}:Py te ρ U Q=te ρ U (fun x ac=>match rP ac x with
 |some xs=>Q (.v (.list (kM (zK xs.length) xs))) ac
 |none=>False):=propext Iff.rfl
end
end L2.DL
set_option maxHeartbeats 1000000
namespace NM
section
variable {d:Int}{x y z k s o:N3}{A B C A' B' C' P Q R E F G:Int}
theorem Rep.conv(h:Rep x A B C)(hc:C'≠0)(e1:A*C'=A'*C)(e2:B*C'=B'*C):Rep x A' B' C':=by
 obtain⟨h0,h1,h2⟩:=h
 refine⟨hc,eq_of_mul_eq_mul_right h0 ?_,eq_of_mul_eq_mul_right h0 ?_⟩
 ·have:x.a*C'*C=(x.a*C)*C':=by grind
  rw[this,h1]
  have:A*x.c*C'=(A*C')*x.c:=by grind
  rw[this,e1]
  grind
 ·have:x.b*C'*C=(x.b*C)*C':=by grind
  rw[this,h2]
  have:B*x.c*C'=(B*C')*x.c:=by grind
  rw[this,e2]
  grind
theorem Cw(h:Rep x A B C)(ox:Ok x):x.b=0↔B=0:=by
 have e:=h.b
 constructor
 ·intro z
  rw[z,zero_mul] at e
  exact (Int.mul_eq_zero.mp e.symm).resolve_right ox.cn
 ·intro z
  rw[z,zero_mul] at e
  exact (Int.mul_eq_zero.mp e).resolve_right h.c
theorem rR{u v:Int}(hv:v≠0):0<=u*(v*v)↔0<=u:=by
 have h:=sq_pos hv
 constructor
 ·intro z
  rcases Int.lt_or_le u 0 with w|w
  ·have:=Int.mul_neg_of_neg_of_pos w h;omega
  ·exact w
 ·intro z;exact mul_nonneg z (le_of_lt h)
theorem oP{u v:Int}(hv:0<v):0<=u*v↔0<=u:=by
 constructor
 ·intro z
  rcases Int.lt_or_le u 0 with w|w
  ·have:=Int.mul_neg_of_neg_of_pos w hv;omega
  ·exact w
 ·intro z;exact mul_nonneg z (le_of_lt hv)
theorem Oe{u v:Int}(hv:v<0):0<=u*v↔u<=0:=by
 have:=oP (u:=-u) (v:=-v) ∅
 rw[Int.neg_mul_neg] at this
 omega
def aZ(d:Int)(x:N3):Bool:=decide (x.b=0)&&decide (0<=sg d x.a x.b)
theorem sg0{n:Int}:0<=sg d n 0↔0<=n:=by
 rw[M6]
 split
 ·omega
 ·split<;>omega
theorem rf(ox:Ok x)(h:Rep x A 0 C):aZ d x=true↔0<=A*C:=by
 have hb:=(Cw h ox).mpr rfl
 unfold aZ
 rw[hb]
 simp only[decide_true,Bool.true_and,decide_eq_true_eq,sg0]
 have e:=h.a
 rw[<- oP ox.c,<- rR (u:=x.a*x.c) h.c]
 have e2:x.a*x.c*(C*C)=(A*C)*(x.c*x.c):=by
  have:x.a*x.c*(C*C)=(x.a*C)*(x.c*C):=by grind
  rw[this,e];grind
 rw[e2,rR ox.cn]
def shA(d:Int)(k s:N3):N3:=times d s (ay d k)
def prt(d:Int)(k:N3):N3:=times d (ay d k) (ay d k)
def shV(d:Int)(k s:N3):N3:=low ((shA d k s).b*(prt d k).c) 0 ((shA d k s).c*(prt d k).b)
def shU(d:Int)(k s:N3):N3:=less (shA d k s) (times d (shV d k s) (prt d k))
def j8(d:Int)(k s:N3):N3:=if (times d k k).b=0 then shA d k s else shU d k s
def j7(d:Int)(k s:N3):N3:=if (times d k k).b=0 then aE else shV d k s
def eg(d:Int)(k s:N3):Bool:=aZ d (j8 d k s)&&aZ d (j7 d k s)
theorem SR{a b c:Int}(hc:c≠0):(low a b c).b=0↔b=0:=Cw (fN hc) (hW _ _ hc)
theorem dM(ok:Ok k):(times d k k).b=0↔k.a*k.b=0:=by
 unfold times
 rw[SR (wD ok ok)]
 have:k.a*k.b+k.b*k.a=2*(k.a*k.b):=by grind
 omega
theorem rA(hn:norm d k≠0):Rep (ay d k) (k.c*k.a) (-k.c*k.b) (norm d k):=fN hn
theorem HD(ok:Ok k)(hn:norm d k≠0)(rk:Rep k P Q R):P*P-d*Q*Q≠0:=fun z=>by
 have h:=rk.norm (d:=d)
 rw[z,zero_mul] at h
 rcases Int.mul_eq_zero.mp h with w|w
 ·exact hn w
 ·rcases Int.mul_eq_zero.mp w with w|w<;>exact rk.c w
theorem en(os:Ok s)(hn:norm d k≠0):Ok (shA d k s):=av os (aC hn)
theorem zr(hn:norm d k≠0):Ok (prt d k):=av (aC hn) (aC hn)
theorem tM(ok:Ok k)(os:Ok s)(hn:norm d k≠0)(rk:Rep k P Q R)(rs:Rep s E F G):Rep (shA d k s) (R*(E*P-d*F*Q)) (R*(F*P-E*Q)) (G*(P*P-d*Q*Q)):=
 (Rep.times os (aC hn) rs (rk.ay ok hn)).congr (by grind) (by grind) rfl
theorem MV(ok:Ok k)(hn:norm d k≠0)(rk:Rep k P Q R):Rep (prt d k) (R*R*(P*P+d*Q*Q)) (-(2*(R*R*(P*Q)))) ((P*P-d*Q*Q)*(P*P-d*Q*Q)):=
 (Rep.times (aC hn) (aC hn) (rk.ay ok hn) (rk.ay ok hn)).congr (by grind) (by grind) rfl
theorem EV(ok:Ok k)(hn:norm d k≠0)(rk:Rep k P Q R)(hab:P*Q≠0):(prt d k).b≠0:=fun z=>by
 have:=(Cw (MV ok hn rk) (zr hn)).mp z
 have h2:R*R*(P*Q)=0:=by omega
 exact (mul_ne_zero (mul_ne_zero rk.c rk.c) hab) h2
theorem Km(ok:Ok k)(rk:Rep k P Q R):P*Q=0↔k.a*k.b=0:=by
 have e:(k.a*k.b)*(R*R)=(P*Q)*(k.c*k.c):=by
  have h1:=rk.a
  have h2:=rk.b
  have:(k.a*k.b)*(R*R)=(k.a*R)*(k.b*R):=by grind
  rw[this,h1,h2];grind
 constructor
 ·intro z
  rw[z,zero_mul] at e
  exact (Int.mul_eq_zero.mp e).resolve_right (mul_ne_zero rk.c rk.c)
 ·intro z
  rw[z,zero_mul] at e
  exact (Int.mul_eq_zero.mp e.symm).resolve_right (mul_ne_zero ok.cn ok.cn)
theorem vv{wb wc pb pc r D g M N:Int}(e1:wb*(g*N)=r*D*wc)(e2:pb*(N*N) = -(2*(r*r*M))*pc)(hK:g*N*(N*N)≠0):wb*pc*(2*(g*r*M))=N * -D*(wc*pb):=by
 apply eq_of_mul_eq_mul_right hK
 have a1:wb*pc*(2*(g*r*M))*(g*N*(N*N))=(wb*(g*N))*(pc*(2*(g*r*M))*(N*N)):=by grind
 have a2:N * -D*(wc*pb)*(g*N*(N*N))=(N * -D*wc*(g*N))*(pb*(N*N)):=by grind
 rw[a1,a2,e1,e2]
 grind
theorem rH(ok:Ok k)(os:Ok s)(hn:norm d k≠0)(rk:Rep k P Q R)(rs:Rep s E F G)(hab:P*Q≠0):Rep (shV d k s) ((P*P-d*Q*Q)*(E*Q-F*P)) 0 (2*(G*R*(P*Q))):=by
 have ra:=tM ok os hn rk rs
 have rp:=MV ok hn rk
 have hN:=HD ok hn rk
 have h1:=ra.b
 have h2:=rp.b
 have hc:(shA d k s).c*(prt d k).b≠0:=mul_ne_zero (en os hn).cn (EV ok hn rk hab)
 have h0:=fN (a:=(shA d k s).b*(prt d k).c) (b:=0) hc
 have hC:2*(G*R*(P*Q))≠0:=mul_ne_zero ⋯ (mul_ne_zero (mul_ne_zero rs.c rk.c) hab)
 refine Rep.conv h0 hC ?_ (by simp)
 have:=vv h1 h2 (mul_ne_zero (mul_ne_zero rs.c hN) (mul_ne_zero hN hN))
 rw[this]
 grind
theorem wd(ok:Ok k)(os:Ok s)(hn:norm d k≠0)(hab:k.a*k.b≠0):Ok (shV d k s):=hW _ _ (mul_ne_zero (en os hn).cn (EV ok hn (aj ok) hab))
theorem uu{e f g p q r d N:Int}(hN:N=p*p-d*q*q):(r*(e*p-d*f*q)*(2*(g*(p*q)*N))-r*(e*q-f*p)*(p*p+d*q*q)*(g*N))*(2*(g*(p*q)))=r*(e*q+f*p)*(g*N*(2*(g*(p*q)*N))):=by
 have key:(e*p-d*f*q)*(2*(p*q))-(e*q-f*p)*(p*p+d*q*q)=(e*q+f*p)*N:=by subst hN;grind
 have:(r*(e*p-d*f*q)*(2*(g*(p*q)*N))-r*(e*q-f*p)*(p*p+d*q*q)*(g*N))=r*g*N*((e*p-d*f*q)*(2*(p*q))-(e*q-f*p)*(p*p+d*q*q)):=by grind
 rw[this,key]
 grind
theorem uA(ok:Ok k)(os:Ok s)(hn:norm d k≠0)(rk:Rep k P Q R)(rs:Rep s E F G)(hab:P*Q≠0):Rep (shU d k s) (R*(E*Q+F*P)) 0 (2*(G*(P*Q))):=by
 have ra:=tM ok os hn rk rs
 have rp:=MV ok hn rk
 have rv:=rH ok os hn rk rs hab
 have hN:=HD ok hn rk
 have hab':k.a*k.b≠0:=fun z=>hab ((Km ok rk).mpr z)
 have oa:=en (s:=s) os hn
 have op:=zr (k:=k) hn
 have ov:=wd ok os hn hab'
 have rt:=Rep.times (d:=d) ov op rv rp
 generalize hM:P*P-d*Q*Q=N at *
 have hC2:2*(G*(P*Q)*N)≠0:=mul_ne_zero ⋯ (mul_ne_zero (mul_ne_zero rs.c hab) hN)
 have rt2:Rep (times d (shV d k s) (prt d k)) (R*(E*Q-F*P)*(P*P+d*Q*Q)) (-(2*(R*(E*Q-F*P)*(P*Q)))) (2*(G*(P*Q)*N)):=by
  refine rt.conv hC2 ?_ ?_
  ·generalize E*Q-F*P=T
   generalize P*P+d*Q*Q=S
   generalize P*Q=M
   grind
  ·generalize E*Q-F*P=T
   generalize P*P+d*Q*Q=S
   generalize P*Q=M
   grind
 have rl:=Rep.less oa (av ov op) ra rt2
 have hC:2*(G*(P*Q))≠0:=mul_ne_zero ⋯ (mul_ne_zero rs.c hab)
 refine rl.conv hC ?_ ?_
 ·exact uu hM.symm
 ·rw[zero_mul]
  have:R*(F*P-E*Q)*(2*(G*(P*Q)*N)) - -(2*(R*(E*Q-F*P)*(P*Q)))*(G*N)=0:=by grind
  rw[this,zero_mul]
end
end NM
set_option maxHeartbeats 4000000
namespace NM
section
variable {d:Int}{x y z:N3}
theorem ry1(d a b a' b' p q:Int)(h1:a'*p=a*q)(h2:b'*p=b*q\/b'*p = -b*q):(a'*a'-d*b'*b')*(p*p)=(a*a-d*b*b)*(q*q):=by
 have e1:a'*a'*(p*p)=a*a*(q*q):=by
  have:(a'*p)*(a'*p)=(a*q)*(a*q):=by rw[h1]
  grind
 have e2:b'*b'*(p*p)=b*b*(q*q):=by
  have:(b'*p)*(b'*p)=(b*q)*(b*q):=by
   rcases h2 with h|h<;>rw[h]<;>grind
  grind
 have:(a'*a'-d*b'*b')*(p*p)=a'*a'*(p*p)-d*(b'*b'*(p*p)):=by grind
 rw[this,e1,e2]
 grind
theorem Tb(ox:Ok x)(hn:norm d x≠0):(ay d x).a*norm d x=x.a*(x.c*(ay d x).c):=by
 have:=((aj ox).ay ox hn).a
 have e:x.a*x.a-d*x.b*x.b=norm d x:=rfl
 rw[e] at this
 rw[this];grind
theorem Tf(ox:Ok x)(hn:norm d x≠0):(ay d x).b*norm d x = -x.b*(x.c*(ay d x).c):=by
 have:=((aj ox).ay ox hn).b
 have e:x.a*x.a-d*x.b*x.b=norm d x:=rfl
 rw[e] at this
 rw[this];grind
end
end NM
namespace NM
section
variable {d:Int}{n m:Nat}{x y:N3}
theorem sz0:Sz n 0:=Sz.of (by simp;exact Nat.pos_of_ne_zero (by simp))
end
end NM
namespace NM
section
variable {d:Int}{x y z:N3}
noncomputable def gtL(d:Int)(k o:N3):Prop:=((HL d o).a.natAbs:Int)*(HL d k).c<((HL d k).a.natAbs:Int)*(HL d o).c
instance:Decidable (gtL d x y):=by unfold gtL;infer_instance
end
end NM
set_option maxHeartbeats 400000
namespace NM
section
variable {d:Int}{x y z k s o f:N3}
noncomputable def Lay(d:Int)(k s:N3):Prop:=(0<norm d k/\0<norm d s/\s.b*s.b*(k.a*k.a)<=s.a*s.a*(k.b*k.b))\/(norm d k<0/\norm d s<0/\s.a*s.a*(k.b*k.b)<=s.b*s.b*(k.a*k.a))
theorem Ml{u v:Int}(hv:0<=v)(h:u*u<=v*v):0<=v+u/\0<=v-u:=by
 rcases Int.lt_or_le u 0 with w|w
 ·have:=HP (u:=-u) (v:=v) ∅ (by rw[Int.neg_mul_neg];exact h) hv
  omega
 ·have:=HP w h hv
  omega
theorem ly1{d P Q E F:Int}(hd:0<d)(hQ:Q≠0)(hP:P≠0)(hN:d*Q*Q<P*P)(h1:0<=(E*Q+F*P)*(P*Q))(h2:0<=(E*Q-F*P)*(P*Q)):F*F*(P*P)<=E*E*(Q*Q)/\d*F*F<=E*E:=by
 have h:=mul_nonneg h1 h2
 have e:(E*Q+F*P)*(P*Q)*((E*Q-F*P)*(P*Q))=(E*E*(Q*Q)-F*F*(P*P))*((P*Q)*(P*Q)):=by grind
 rw[e,rR (mul_ne_zero hP hQ)] at h
 refine⟨∅,?_⟩
 have h3:0<=(P*P-d*Q*Q)*(F*F):=mul_nonneg ∅ (sq_nonneg F)
 have e2:(P*P-d*Q*Q)*(F*F)=F*F*(P*P)-d*F*F*(Q*Q):=by grind
 have h4:0<=(E*E-d*F*F)*(Q*Q):=by
  have:(E*E-d*F*F)*(Q*Q)=E*E*(Q*Q)-d*F*F*(Q*Q):=by grind
  rw[this];omega
 rw[rR hQ] at h4
 omega
theorem ly2{P Q E F:Int}(hP:0<P)(hE:0<=E)(h:F*F*(P*P)<=E*E*(Q*Q)):0<=(E*Q+F*P)*(P*Q)/\0<=(E*Q-F*P)*(P*Q):=by
 have hX:0<=E*P*(Q*Q):=mul_nonneg (mul_nonneg hE ∅) (sq_nonneg Q)
 have hs:(F*(P*P)*Q)*(F*(P*P)*Q)<=(E*P*(Q*Q))*(E*P*(Q*Q)):=by
  have h1:=mul_nonneg (show 0<=E*E*(Q*Q)-F*F*(P*P) by omega) (sq_nonneg (P*Q))
  have e1:(E*E*(Q*Q)-F*F*(P*P))*(P*Q*(P*Q))=(E*P*(Q*Q))*(E*P*(Q*Q))-(F*(P*P)*Q)*(F*(P*P)*Q):=by grind
  omega
 obtain⟨a1,a2⟩:=Ml hX hs
 have e1:(E*Q+F*P)*(P*Q)=E*P*(Q*Q)+F*(P*P)*Q:=by grind
 have e2:(E*Q-F*P)*(P*Q)=E*P*(Q*Q)-F*(P*P)*Q:=by grind
 rw[e1,e2]
 exact⟨a1,a2⟩
theorem ly3{d P Q E F:Int}(hd:0<d)(hQ:Q≠0)(hP:P≠0)(hN:P*P<d*Q*Q)(h1:0<=(E*Q+F*P)*(P*Q))(h2:(E*Q-F*P)*(P*Q)<=0):E*E*(Q*Q)<=F*F*(P*P)/\E*E<=d*F*F:=by
 have h:=mul_nonneg h1 (show 0<=-((E*Q-F*P)*(P*Q)) by omega)
 have e:(E*Q+F*P)*(P*Q) * -((E*Q-F*P)*(P*Q))=(F*F*(P*P)-E*E*(Q*Q))*((P*Q)*(P*Q)):=by grind
 rw[e,rR (mul_ne_zero hP hQ)] at h
 refine⟨∅,?_⟩
 have h3:0<=(d*Q*Q-P*P)*(F*F):=mul_nonneg ∅ (sq_nonneg F)
 have e2:(d*Q*Q-P*P)*(F*F)=d*F*F*(Q*Q)-F*F*(P*P):=by grind
 have h4:0<=(d*F*F-E*E)*(Q*Q):=by
  have:(d*F*F-E*E)*(Q*Q)=d*F*F*(Q*Q)-E*E*(Q*Q):=by grind
  rw[this];omega
 rw[rR hQ] at h4
 omega
theorem ly4{P Q E F:Int}(hQ:0<Q)(hF:0<=F)(h:E*E*(Q*Q)<=F*F*(P*P)):0<=(E*Q+F*P)*(P*Q)/\(E*Q-F*P)*(P*Q)<=0:=by
 have hY:0<=F*(P*P)*Q:=mul_nonneg (mul_nonneg hF (sq_nonneg P)) ∅
 have hs:(E*P*(Q*Q))*(E*P*(Q*Q))<=(F*(P*P)*Q)*(F*(P*P)*Q):=by
  have h1:=mul_nonneg (show 0<=F*F*(P*P)-E*E*(Q*Q) by omega) (sq_nonneg (P*Q))
  have e1:(F*F*(P*P)-E*E*(Q*Q))*(P*Q*(P*Q))=(F*(P*P)*Q)*(F*(P*P)*Q)-(E*P*(Q*Q))*(E*P*(Q*Q)):=by grind
  omega
 obtain⟨a1,a2⟩:=Ml hY hs
 have e1:(E*Q+F*P)*(P*Q)=F*(P*P)*Q+E*P*(Q*Q):=by grind
 have e2:(E*Q-F*P)*(P*Q) = -(F*(P*P)*Q-E*P*(Q*Q)):=by grind
 rw[e1,e2]
 exact⟨a1,∅⟩
theorem OS(hd:aH d)(hs:sg d s.a s.b=1)(hn:0<norm d s):0<s.a:=by
 have h:d*s.b*s.b<s.a*s.a:=by have:norm d s=s.a*s.a-d*s.b*s.b:=rfl;omega
 exact (nW hd h).mp ((eZ hd).mp hs)
theorem Pp(hd:aH d)(hs:sg d s.a s.b=1)(hn:norm d s<0):0<s.b:=by
 have h:s.a*s.a<d*s.b*s.b:=by have:norm d s=s.a*s.a-d*s.b*s.b:=rfl;omega
 exact (ll hd h).mp ((eZ hd).mp hs)
theorem Cf:aZ d aE=true:=by
 unfold aZ
 rw[show aE.b=0 from rfl,show aE.a=0 from rfl,show sg d 0 0=0 from dm.mpr ⟨rfl,rfl⟩]
 rfl
theorem sgA(hd:aH d)(ok:Ok k)(os:Ok s)(hk:sg d k.a k.b=1)(hs:sg d s.a s.b=1):sg d (shA d k s).a (shA d k s).b=1:=by
 have hn:=bQ hd ok hk
 unfold shA
 rw[gO hd os (aC hn),hs,gJ hd ok hk]
 rfl
theorem LC(hd:aH d)(ok:Ok k)(os:Ok s)(hk:sg d k.a k.b=1)(hs:sg d s.a s.b=1)(hl:k.a*k.b=0):eg d k s=true↔s.b*k.a=s.a*k.b:=by
 have hn:=bQ hd ok hk
 unfold eg j8 j7
 rw[if_pos ((dM ok).mpr hl),if_pos ((dM ok).mpr hl),Cf,Bool.and_true]
 unfold aZ
 rw[sgA hd ok os hk hs]
 simp only[show decide ((0:Int)<=1)=true from rfl,Bool.and_true,decide_eq_true_eq]
 rw[Cw (tM ok os hn (aj ok) (aj os)) (en os hn)]
 constructor
 ·intro h
  have:=(Int.mul_eq_zero.mp h).resolve_left ok.cn
  omega
 ·intro h
  rw[show s.b*k.a-s.a*k.b=0 by omega,mul_zero]
theorem N1(hd:aH d)(ok:Ok k)(os:Ok s)(hk:sg d k.a k.b=1)(hl:k.a*k.b≠0):eg d k s=true↔0<=(s.a*k.b+s.b*k.a)*(k.a*k.b)/\0<=norm d k*((s.a*k.b-s.b*k.a)*(k.a*k.b)):=by
 have hn:=bQ hd ok hk
 have hl':¬ (times d k k).b=0:=fun z=>hl ((dM ok).mp z)
 unfold eg j8 j7
 rw[if_neg hl',if_neg hl',and_eq_true]
 have ru:=uA ok os hn (aj ok) (aj os) hl
 have rv:=rH ok os hn (aj ok) (aj os) hl
 have ou:Ok (shU d k s):=nF (en os hn) (av (wd ok os hn hl) (zr hn))
 rw[rf ou ru,rf (wd ok os hn hl) rv]
 have hc:=ok.c
 have hg:=os.c
 have e1:k.c*(s.a*k.b+s.b*k.a)*(2*(s.c*(k.a*k.b)))=(s.a*k.b+s.b*k.a)*(k.a*k.b)*(2*(k.c*s.c)):=by grind
 have e2:(k.a*k.a-d*k.b*k.b)*(s.a*k.b-s.b*k.a)*(2*(s.c*k.c*(k.a*k.b)))=norm d k*((s.a*k.b-s.b*k.a)*(k.a*k.b))*(2*(k.c*s.c)):=by
  show norm d k*_*_=_
  grind
 have hp:0<2*(k.c*s.c):=mul_pos ⋯ (mul_pos hc hg)
 rw[e1,e2,oP hp,oP hp]
theorem BZ(hd:aH d)(ok:Ok k)(os:Ok s)(hk:sg d k.a k.b=1)(hs:sg d s.a s.b=1):eg d k s=true↔Lay d k s:=by
 have hn:=bQ hd ok hk
 have hm:=bQ hd os hs
 have d0:0<d:=by have:=hd.1;omega
 have nk:norm d k=k.a*k.a-d*k.b*k.b:=rfl
 have ns:norm d s=s.a*s.a-d*s.b*s.b:=rfl
 by_cases hl:k.a*k.b=0
 ·rw[LC hd ok os hk hs hl]
  rcases Int.mul_eq_zero.mp hl with h0|h0
  ·have kb:k.b≠0:=fun z=>by rw[h0,z] at nk;simp at nk;exact hn nk
   have n1:norm d k<0:=by
    have:=mul_pos d0 (sq_pos kb)
    rw[nk,h0,Int.mul_assoc];simp;omega
   rw[h0,mul_zero]
   constructor
   ·intro h
    have hE:s.a=0:=(Int.mul_eq_zero.mp h.symm).resolve_right kb
    have sb:s.b≠0:=fun z=>by rw[hE,z] at ns;simp at ns;exact hm ns
    refine .inr ⟨n1,?_,?_⟩
    ·have:=mul_pos d0 (sq_pos sb)
     rw[ns,hE,Int.mul_assoc];simp;omega
    ·rw[hE];simp[h0]
   ·rintro (⟨z,_⟩|⟨_,_,h⟩)
    ·omega
    ·rw[h0] at h
     simp only[mul_zero] at h
     have h2:=mul_nonneg (sq_nonneg s.a) (sq_nonneg k.b)
     have h3:s.a*s.a*(k.b*k.b)=0:=by omega
     have h4:=(Int.mul_eq_zero.mp h3).resolve_right (mul_ne_zero kb kb)
     have h5:s.a=0:=by rcases Int.mul_eq_zero.mp h4 with w|w<;>exact w
     rw[h5];simp
  ·have ka:k.a≠0:=fun z=>by rw[h0,z] at nk;simp at nk;exact hn nk
   have n1:0<norm d k:=by
    have:=sq_pos ka
    rw[nk,h0];simp;omega
   rw[h0,mul_zero]
   constructor
   ·intro h
    have hF:s.b=0:=(Int.mul_eq_zero.mp h).resolve_right ka
    have sa:s.a≠0:=fun z=>by rw[hF,z] at ns;simp at ns;exact hm ns
    refine .inl ⟨n1,?_,?_⟩
    ·have:=sq_pos sa
     rw[ns,hF];simp;omega
    ·rw[hF];simp[h0]
   ·rintro (⟨_,_,h⟩|⟨z,_⟩)
    ·rw[h0] at h
     simp only[mul_zero] at h
     have h2:=mul_nonneg (sq_nonneg s.b) (sq_nonneg k.a)
     have h3:s.b*s.b*(k.a*k.a)=0:=by omega
     have h4:=(Int.mul_eq_zero.mp h3).resolve_right (mul_ne_zero ka ka)
     have h5:s.b=0:=by rcases Int.mul_eq_zero.mp h4 with w|w<;>exact w
     rw[h5];simp
    ·omega
 ·rw[N1 hd ok os hk hl]
  have ka:k.a≠0:=fun z=>hl (by rw[z,zero_mul])
  have kb:k.b≠0:=fun z=>hl (by rw[z,mul_zero])
  rcases Int.lt_or_le 0 (norm d k) with n1|n1
  ·have hk':=OS hd hk n1
   rw[show (0<=norm d k*((s.a*k.b-s.b*k.a)*(k.a*k.b)))↔0<=(s.a*k.b-s.b*k.a)*(k.a*k.b) from by rw[mul_comm];exact oP n1]
   constructor
   ·rintro ⟨h1,h2⟩
    obtain⟨a1,a2⟩:=ly1 d0 kb ka ∅ h1 h2
    exact .inl ⟨n1,∅,a1⟩
   ·rintro (⟨_,n2,h⟩|⟨z,_⟩)
    ·have:=OS hd hs n2
     exact ly2 hk' ∅ h
    ·omega
  ·have n1:norm d k<0:=by omega
   have hk':=Pp hd hk n1
   rw[show (0<=norm d k*((s.a*k.b-s.b*k.a)*(k.a*k.b)))↔(s.a*k.b-s.b*k.a)*(k.a*k.b)<=0 from by rw[mul_comm];exact Oe n1]
   constructor
   ·rintro ⟨h1,h2⟩
    obtain⟨a1,a2⟩:=ly3 d0 kb ka ∅ h1 h2
    exact .inr ⟨n1,∅,a1⟩
   ·rintro (⟨z,_⟩|⟨_,n2,h⟩)
    ·omega
    ·have:=Pp hd hs n2
     exact ly4 hk' ∅ h
end
end NM
namespace NM
section
variable {d:Int}{x y z k s o f:N3}
structure Ray(d:Int)(s t:N3):Prop where
 ex:∃p q:Int,p≠0/\q≠0/\t.a*p=s.a*q/\(t.b*p=s.b*q\/t.b*p = -s.b*q)
theorem L7{t:N3}(h:Ray d s t):(0<norm d t↔0<norm d s)/\(norm d t<0↔norm d s<0):=by
 obtain⟨p,q,hp,hq,h1,h2⟩:=h.ex
 have e:=ry1 d _ _ _ _ p q h1 h2
 change norm d t*(p*p)=norm d s*(q*q) at e
 have a1:=rR (u:=norm d t) hp
 have a2:=rR (u:=norm d s) hq
 have b1:=rR (u:=-norm d t) hp
 have b2:=rR (u:=-norm d s) hq
 rw[Int.neg_mul] at b1 b2
 rw[e] at a1 b1
 omega
theorem Q5{t:N3}(h:Ray d s t):∃p q:Int,0<p/\0<q/\t.a*t.a*p=s.a*s.a*q/\t.b*t.b*p=s.b*s.b*q:=by
 obtain⟨p,q,hp,hq,h1,h2⟩:=h.ex
 refine⟨p*p,q*q,sq_pos hp,sq_pos hq,?_,?_⟩
 ·have:(t.a*p)*(t.a*p)=(s.a*q)*(s.a*q):=by rw[h1]
  grind
 ·have:(t.b*p)*(t.b*p)=(s.b*q)*(s.b*q):=by
   rcases h2 with h|h<;>rw[h]<;>grind
  grind
theorem Lg{A B A' B' p q X ZZ:Int}(hp:0<p)(hq:0<q)(h1:A'*p=A*q)(h2:B'*p=B*q):(A'*X<=B'*ZZ)↔(A*X<=B*ZZ):=by
 have a:=oP (u:=B'*ZZ-A'*X) hp
 have b:=oP (u:=B*ZZ-A*X) hq
 have e:(B'*ZZ-A'*X)*p=(B*ZZ-A*X)*q:=by
  have:(B'*ZZ-A'*X)*p=B'*p*ZZ-A'*p*X:=by grind
  rw[this,h1,h2];grind
 rw[e] at a
 omega
theorem Ou{t:N3}(h:Ray d s t):Lay d k t↔Lay d k s:=by
 obtain⟨n1,n2⟩:=L7 h
 obtain⟨p,q,hp,hq,e1,e2⟩:=Q5 h
 unfold Lay
 rw[n1,n2,Lg hp hq e2 e1,Lg hp hq e1 e2]
theorem CG(ox:Ok s)(hn:norm d s≠0):Ray d s (ay d s):=
 ⟨_,_,hn,mul_ne_zero ox.cn (aC hn).cn,Tb ox hn,.inr (Tf ox hn)⟩
theorem wC(ok:Ok k)(os:Ok s)(hn:norm d k≠0):Ok (j8 d k s):=by
 unfold j8
 split
 ·exact en os hn
 ·rename_i h
  exact nF (en os hn) (av (wd ok os hn (fun z=>h ((dM ok).mpr z))) (zr hn))
theorem wa(ok:Ok k)(os:Ok s)(hn:norm d k≠0):Ok (j7 d k s):=by
 unfold j7
 split
 ·exact bV
 ·rename_i h
  exact wd ok os hn (fun z=>h ((dM ok).mpr z))
theorem o8(hl:(times d k k).b=0):j8 d k s=shA d k s:=if_pos hl
theorem o7(hl:(times d k k).b=0):j7 d k s=aE:=if_pos hl
theorem rY(hl:¬ (times d k k).b=0):j8 d k s=shU d k s:=if_neg hl
theorem rS(hl:¬ (times d k k).b=0):j7 d k s=shV d k s:=if_neg hl
theorem GG(ok:Ok k)(os:Ok s)(of:Ok f)(hn:norm d k≠0)(fb:f.b=0):j8 d k (times d s f)=times d (j8 d k s) f:=by
 by_cases hl:(times d k k).b=0
 ·rw[o8 hl,o8 hl]
  have r1:=tM ok (av (d:=d) os of) hn (aj ok) (Rep.times (d:=d) os of (aj os) (aj of))
  have r2:=Rep.times (d:=d) (en os hn) of (tM ok os hn (aj ok) (aj os)) (aj of)
  rw[fb] at r1 r2
  exact Rep.eq (en (av os of) hn) (av (en os hn) of) r1 r2 (by grind) (by grind)
 ·have h':k.a*k.b≠0:=fun z=>hl ((dM ok).mpr z)
  have o1:=wC (d:=d) ok (av (d:=d) os of) hn
  have o2:=wC (d:=d) ok os hn
  rw[rY hl] at o1 o2 ⊢
  rw[rY hl]
  have r1:=uA ok (av (d:=d) os of) hn (aj ok) (Rep.times (d:=d) os of (aj os) (aj of)) h'
  have r2:=Rep.times (d:=d) o2 of (uA ok os hn (aj ok) (aj os) h') (aj of)
  rw[fb] at r1 r2
  exact Rep.eq o1 (av o2 of) r1 r2 (by grind) (by grind)
theorem G5(ok:Ok k)(os:Ok s)(of:Ok f)(hn:norm d k≠0)(fb:f.b=0):j7 d k (times d s f)=times d (j7 d k s) f:=by
 by_cases hl:(times d k k).b=0
 ·rw[o7 hl,o7 hl]
  exact Rep.eq bV (av bV of) (aj bV) (Rep.times (d:=d) bV of (aj bV) (aj of)) (by show 0*_=(0*_+d*0*_)*1;grind) (by show 0*_=(0*_+0*_)*1;grind)
 ·have h':k.a*k.b≠0:=fun z=>hl ((dM ok).mpr z)
  have o1:=wa (d:=d) ok (av (d:=d) os of) hn
  have o2:=wa (d:=d) ok os hn
  rw[rS hl] at o1 o2 ⊢
  rw[rS hl]
  have r1:=rH ok (av (d:=d) os of) hn (aj ok) (Rep.times (d:=d) os of (aj os) (aj of)) h'
  have r2:=Rep.times (d:=d) o2 of (rH ok os hn (aj ok) (aj os) h') (aj of)
  rw[fb] at r1 r2
  exact Rep.eq o1 (av o2 of) r1 r2 (by grind) (by grind)
theorem Ki(ok:Ok k)(os:Ok s)(oo:Ok o)(hn:norm d k≠0):j8 d k (plus s o)=plus (j8 d k s) (j8 d k o):=by
 by_cases hl:(times d k k).b=0
 ·rw[o8 hl,o8 hl,o8 hl]
  have r1:=tM ok (bW os oo) hn (aj ok) (Rep.plus os oo (aj os) (aj oo))
  have r2:=Rep.plus (en os hn) (en oo hn) (tM ok os hn (aj ok) (aj os)) (tM ok oo hn (aj ok) (aj oo))
  exact Rep.eq (en (bW os oo) hn) (bW (en os hn) (en oo hn)) r1 r2 (by grind) (by grind)
 ·have h':k.a*k.b≠0:=fun z=>hl ((dM ok).mpr z)
  have o1:=wC (d:=d) ok (bW os oo) hn
  have o2:=wC (d:=d) ok os hn
  have o3:=wC (d:=d) ok oo hn
  rw[rY hl] at o1 o2 o3 ⊢
  rw[rY hl,rY hl]
  have r1:=uA ok (bW os oo) hn (aj ok) (Rep.plus os oo (aj os) (aj oo)) h'
  have r2:=Rep.plus o2 o3 (uA ok os hn (aj ok) (aj os) h') (uA ok oo hn (aj ok) (aj oo) h')
  exact Rep.eq o1 (bW o2 o3) r1 r2 (by grind) (by grind)
theorem Ma(ok:Ok k)(os:Ok s)(oo:Ok o)(hn:norm d k≠0):j7 d k (plus s o)=plus (j7 d k s) (j7 d k o):=by
 by_cases hl:(times d k k).b=0
 ·rw[o7 hl,o7 hl,o7 hl]
  exact (by decide:aE=plus aE aE)
 ·have h':k.a*k.b≠0:=fun z=>hl ((dM ok).mpr z)
  have o1:=wa (d:=d) ok (bW os oo) hn
  have o2:=wa (d:=d) ok os hn
  have o3:=wa (d:=d) ok oo hn
  rw[rS hl] at o1 o2 o3 ⊢
  rw[rS hl,rS hl]
  have r1:=rH ok (bW os oo) hn (aj ok) (Rep.plus os oo (aj os) (aj oo)) h'
  have r2:=Rep.plus o2 o3 (rH ok os hn (aj ok) (aj os) h') (rH ok oo hn (aj ok) (aj oo) h')
  exact Rep.eq o1 (bW o2 o3) r1 r2 (by grind) (by grind)
theorem nP(h:aZ d x=true):x.b=0:=by
 unfold aZ at h
 simp only[and_eq_true,decide_eq_true_eq] at h
 exact h.1
theorem yb(h:aZ d x=true):0<=x.a:=by
 have hb:=nP h
 unfold aZ at h
 simp only[and_eq_true,decide_eq_true_eq] at h
 rw[hb] at h
 exact sg0.mp h.2
theorem zJ(ox:Ok x)(oy:Ok y)(hx:aZ d x=true)(hy:aZ d y=true):aZ d (plus x y)=true:=by
 have r:=Rep.plus ox oy (aj ox) (aj oy)
 rw[nP hx,nP hy] at r
 simp only[zero_mul,Int.add_zero] at r
 rw[rf (bW ox oy) r]
 have a:=yb hx
 have b:=yb hy
 have c:=ox.c
 have c2:=oy.c
 exact mul_nonneg (Int.add_nonneg (mul_nonneg a ∅) (mul_nonneg b ∅)) (mul_nonneg ∅ ∅)
theorem xn(ox:Ok x)(oy:Ok y)(hx:aZ d x=true)(hy:aZ d y=true):aZ d (times d x y)=true:=by
 have r:=Rep.times (d:=d) ox oy (aj ox) (aj oy)
 rw[nP hx,nP hy] at r
 simp only[mul_zero,zero_mul,Int.add_zero] at r
 rw[rf (av ox oy) r]
 have a:=yb hx
 have b:=yb hy
 have c:=ox.c
 have c2:=oy.c
 exact mul_nonneg (mul_nonneg a b) (mul_nonneg ∅ ∅)
theorem Md(ok:Ok k)(os:Ok s)(oo:Ok o)(hn:norm d k≠0)(h1:eg d k s=true)(h2:eg d k o=true):eg d k (plus s o)=true:=by
 unfold eg at *
 rw[and_eq_true] at *
 rw[Ki ok os oo hn,Ma ok os oo hn]
 exact⟨zJ (wC ok os hn) (wC ok oo hn) h1.1 h2.1,zJ (wa ok os hn) (wa ok oo hn) h1.2 h2.2⟩
theorem Nd(ok:Ok k)(os:Ok s)(hn:norm d k≠0):plus (times d (j8 d k s) k) (times d (j7 d k s) (ay d k))=s:=by
 have oc:=aC hn
 by_cases hl:(times d k k).b=0
 ·rw[o8 hl,o7 hl]
  have oa:=en os hn
  have r:=Rep.plus (av (d:=d) oa ok) (av (d:=d) bV oc) (Rep.times (d:=d) oa ok (tM ok os hn (aj ok) (aj os)) (aj ok)) (Rep.times (d:=d) bV oc (aj bV) (rA hn))
  refine Rep.eq (bW (av oa ok) (av bV oc)) os r (aj os) ?_ ?_
  ·show ((_+_)*(1*_)+(0*_+d*0*_)*_)*_=_
   show _=s.a*(s.c*norm d k*k.c*(1*norm d k))
   have:norm d k=k.a*k.a-d*k.b*k.b:=rfl
   generalize norm d k=N at *
   subst this
   grind
  ·show ((_+_)*(1*_)+(0*_+0*_)*_)*_=_
   show _=s.b*(s.c*norm d k*k.c*(1*norm d k))
   have:norm d k=k.a*k.a-d*k.b*k.b:=rfl
   generalize norm d k=N at *
   subst this
   grind
 ·have h':k.a*k.b≠0:=fun z=>hl ((dM ok).mpr z)
  have ou:=wC (d:=d) ok os hn
  have ov:=wa (d:=d) ok os hn
  rw[rY hl] at ou ⊢
  rw[rS hl] at ov ⊢
  have r:=Rep.plus (av (d:=d) ou ok) (av (d:=d) ov oc) (Rep.times (d:=d) ou ok (uA ok os hn (aj ok) (aj os) h') (aj ok)) (Rep.times (d:=d) ov oc (rH ok os hn (aj ok) (aj os) h') (rA hn))
  refine Rep.eq (bW (av ou ok) (av ov oc)) os r (aj os) ?_ ?_
  ·have:k.a*k.a-d*k.b*k.b=norm d k:=rfl
   rw[this]
   generalize norm d k=N at *
   grind
  ·have:k.a*k.a-d*k.b*k.b=norm d k:=rfl
   rw[this]
   generalize norm d k=N at *
   grind
end
end NM
set_option maxHeartbeats 4000000
namespace NM
section
variable {d:Int}{x y z u p q s t w h p' q' s' t' w' h':N3}
theorem Uc(ox:Ok x)(oy:Ok y)(oz:Ok z):times d (plus y z) x=plus (times d y x) (times d z x):=
 (((aj oy).plus oy oz (aj oz)).times (bW oy oz) ox (aj ox)).eq (av (bW oy oz) ox) (bW (av oy ox) (av oz ox)) (((aj oy).times oy ox (aj ox)).plus (av oy ox) (av oz ox) ((aj oz).times oz ox (aj ox))) (by grind) (by grind)
theorem p4:Ok aE:=⟨⋯,⋯⟩
theorem Ku:Ok one:=⟨⋯,⋯⟩
theorem R6(ox:Ok x):plus x aE=x:=
 ((aj ox).plus ox p4 (aj p4)).eq (bW ox p4) ox (aj ox) (by simp only[aE];grind) (by simp only[aE];grind)
theorem Sb(ox:Ok x):plus aE x=x:=
 ((aj p4).plus p4 ox (aj ox)).eq (bW p4 ox) ox (aj ox) (by simp only[aE];grind) (by simp only[aE];grind)
theorem Qh(ox:Ok x):times d one x=x:=
 ((aj Ku).times Ku ox (aj ox)).eq (av Ku ox) ox (aj ox) (by simp only[one];grind) (by simp only[one];grind)
theorem N6(ox:Ok x):times d aE x=aE:=
 ((aj p4).times p4 ox (aj ox)).eq (av p4 ox) p4 (aj p4) (by simp only[aE];grind) (by simp only[aE];grind)
def hf(d:Int)(p q h:N3):N3:=plus (times d p h) (times d q (cL h))
end
end NM
set_option maxHeartbeats 400000
namespace NM
section
variable {d:Int}{x y z k s o f u v:N3}
theorem yV(ox:Ok x)(oy:Ok y):times d x y=times d y x:=
 Rep.eq (av ox oy) (av oy ox) (Rep.times ox oy (aj ox) (aj oy)) (Rep.times oy ox (aj oy) (aj ox)) (by grind) (by grind)
theorem CS(ox:Ok x)(oy:Ok y)(oz:Ok z):times d (times d x y) z=times d x (times d y z):=
 Rep.eq (av (av ox oy) oz) (av ox (av oy oz)) (Rep.times (av ox oy) oz (Rep.times ox oy (aj ox) (aj oy)) (aj oz)) (Rep.times ox (av oy oz) (aj ox) (Rep.times oy oz (aj oy) (aj oz))) (by grind) (by grind)
theorem O6(ox:Ok x):times d x one=x:=by rw[yV ox sY,Qh ox]
end
end NM
set_option maxHeartbeats 4000000
namespace L2.DL
open PySem PySem.Spec PyProof.Rows NM
theorem gU{n m:Nat}{i j:Int}(h:Sz n i)(g:Sz m j)(l:n+m<=100000):IntMulOk i j:=by
 have b1:∀{k:Nat} {z:Int},Sz k z->Builtin.Int.intBits z<=k:=fun {k z} hz=>by
  unfold Builtin.Int.intBits
  split
  ·exact zero_le _
  ·rename_i q
   have hz':z.natAbs≠0:=by simp at q;omega
   have:=(Nat.log2_lt hz').mpr hz.lt
   omega
 have e1:=b1 h
 have e2:=b1 g
 unfold IntMulOk
 intro z
 simp only[and_eq_true] at z
 have z3:=z.2
 unfold Builtin.Int.intTooBig at z3
 simp only[decide_eq_true_eq] at z3
 have:(100000:Int)<=bitsLine:=by decide
 omega
theorem yA{n:Nat}{i j:Int}(h0:j≠0)(h:Sz n j)(l:n<=8900):rV i j:=by
 refine⟨h0,PyProof.noPylong_of_log2 ?_⟩
 have hz':j.natAbs≠0:=by omega
 have:=(Nat.log2_lt hz').mpr h.lt
 omega
theorem divC{i j:Int}(h0:j≠0)(h1:j.natAbs<1073741824):rV i j:=⟨h0,PyProof.noPylong_small h1⟩
theorem mulL{i j:Int}(h:i.natAbs<2 ^ 64):IntMulOk i j:=Nl.ok (.inl ∅)
theorem mulR{i j:Int}(h:j.natAbs<2 ^ 64):IntMulOk i j:=Nl.ok (.inr ∅)
def dN(x:N3):PyData:=.tuple [.int x.a,.int x.b,.int x.c]
def isWhole(d:PyData):Bool:=isT "int" d&&!isT "bool" d
def isNum:PyData->Bool
 |.tuple [.int a,.int b,.int c]=>decide (1<=c)&&(g3 a b c==1)
 |_=>false
noncomputable def el:DSp:=fun ds U Q=>∃d,ds=[.v d]/\Q (.v (.bool (isWhole d))) U
noncomputable def pW:DSp:=fun ds U Q=>∃a b:Int,ds=[.v (.int a),.v (.int b)]/\Q (.v (.int (Int.gcd a b:Nat))) U
noncomputable def zB:DSp:=fun ds U Q=>∃a b c:Int,ds=[.v (.int a),.v (.int b),.v (.int c)]/\Q (.v (.int (g3 a b c:Nat))) U
def Few:PyData->Prop
 |.tuple xs=>xs.length<=1000
 |_=>True
noncomputable def kQ:DSp:=fun ds U Q=>∃d,ds=[.v d]/\Few d/\Q (.v (.bool (isNum d))) U
noncomputable def cM:DSp:=fun ds U Q=>∃a b c:Int,ds=[.v (.int a),.v (.int b),.v (.int c)]/\c≠0/\Sz 8800 c/\Q (.v (dN (low a b c))) U
noncomputable def nL:DSp:=fun ds U Q=>∃x:N3,ds=[.v (dN x)]/\Q (.v (dN (cL x))) U
noncomputable def uY:DSp:=fun ds U Q=>∃x:N3,ds=[.v (dN x)]/\Q (.v (dN (minus x))) U
noncomputable def sp2(f:N3->N3->N3):DSp:=fun ds U Q=>∃x y:N3,ds=[.v (dN x),.v (dN y)]/\Ok x/\Ok y/\Bd 4300 x/\Bd 4300 y/\Q (.v (dN (f x y))) U
noncomputable abbrev oY:DSp:=sp2 plus
noncomputable abbrev zy:DSp:=sp2 less
noncomputable def cw:DSp:=fun ds U Q=>∃(d:Int) (x y:N3),ds=[.v (.int d),.v (dN x),.v (dN y)]/\Sz 5 d/\Ok x/\Ok y/\Bd 4300 x/\Bd 4300 y/\Q (.v (dN (times d x y))) U
noncomputable def cK:DSp:=fun ds U Q=>∃(d:Int) (x:N3),ds=[.v (.int d),.v (dN x)]/\Sz 5 d/\norm d x≠0/\Bd 4300 x/\Q (.v (dN (ay d x))) U
noncomputable def jK:DSp:=fun ds U Q=>∃(d:Int) (x y:N3),ds=[.v (.int d),.v (dN x),.v (dN y)]/\aH d/\Ok x/\Ok y/\y≠aE/\Bd 2100 x/\Bd 2100 y/\Q (.v (dN (times d x (ay d y)))) U
noncomputable def yg:DSp:=fun ds U Q=>∃d a b:Int,ds=[.v (.int d),.v (.int a),.v (.int b)]/\Sz 5 d/\Sz 9900 a/\Sz 9900 b/\Q (.v (.int (sg d a b))) U
noncomputable def iA:DSp:=fun ds U Q=>∃(d:Int) (x:N3),ds=[.v (.int d),.v (dN x)]/\aH d/\Bd 8900 x/\Q (.v (.int (sg d x.a x.b))) U
noncomputable def Bag(U:Mu)(a:Addr):Prop:=∃g m:Int,U a=some [.int g,.int m]/\0<=g/\0<=m/\m<2147483648
noncomputable def Step(a:Addr)(U Y:Mu):Prop:=Bag Y a/\∀b,b≠a->Y b=U b
noncomputable def Ii:DSp:=fun ds U Q=>∃(ns:List Int) (k:Int),ds=[.s ns,.v (.int k)]/\0<=k/\k<=1000/\∀p Y,U p=none->Step p U Y->Q (.m p) Y
noncomputable def bF:DSp:=fun ds U Q=>∃(a:Addr) (n:Int),ds=[.m a,.v (.int n)]/\1<=n/\n<=1000000000/\Bag U a/\∀r Y,0<=r->r<n->Step a U Y->Q (.v (.int r)) Y
noncomputable def qQ:DSp:=fun ds U Q=>∃a:Addr,ds=[.m a]/\Bag U a/\∀x Y,Ok x->Bd 20 x->Step a U Y->Q (.v (dN x)) Y
noncomputable def yf:DSp:=fun ds U Q=>∃a:Addr,ds=[.m a]/\Bag U a/\∀d Y,aH d->Step a U Y->Q (.v (.int d)) Y
theorem Step.trans{a:Addr}{U ac ad:Mu}(h:Step a U ac)(g:Step a ac ad):Step a U ad:=⟨g.1,fun b n=>(g.2 b n).trans (h.2 b n)⟩
theorem Step.set{a:Addr}{U:Mu}{g m:Int}(h1:0<=g)(h2:0<=m)(h3:m<2147483648):Step a U (aR U a [.int g,.int m]):=⟨⟨g,m,aV,h1,h2,h3⟩,fun b n=>bZ n⟩
local macro_rules|`(tactic| walk_at "rd")=>`(tactic| simp only[↓KG,↓M1,↓LW,↓Ha,↓KD,↓LZ,↓Kr,↓MC,↓Ly,↓L3,↓IF,↓q_c,↓Ru,↓q_B,↓Tw,↓O0,↓Pa,↓Hv,↓Pd,↓M4,↓Kb,↓ME,↓TC,↓IX,↓C3,↓Ms,↓KN,↓MG,↓LL,↓KJ,↓MU,↓Po,↓Pj,↓OX,↓OT,↓Hw,↓Kk,↓KW,↓FY,↓GZ,↓Gf,↓Mx,↓FU,↓BI,↓Pm,↓Pg,↓Pc,↓MM,↓KH,↓MH,↓L6,↓Sv,↓FD,↓MQ,↓O2,↓O8,↓RE,↓GH,↓Kv,↓KC,↓LX,↓O1,↓R5,↓Mh,↓Im,↓Ph,↓OQ,↓yk,↓MY,↓HY,↓Kz,↓Mi,↓Lw,↓O9,↓L0,↓Fl,↓Kw,↓Lu,↓Kh,↓IY,↓Mv,↓Pb,↓ON,↓Iq,↓LV,↓Fg,↓Jb,↓Fu,↓FV,↓ET,↓Fq,↓EE,↓OO,OJ,↓Kf,↓Cd,KR,Kl,O7,Pl,OV,Option.bind_none,bind_some,Option.join_some,List.getElem?_cons_zero,List.getElem?_cons_succ,aO,dN,rP,Ex,Eg,IZ,J7,List.map,List.append,List.replicate,length_cons,List.length_nil,Nat.reduceAdd,Nat.reduceSub,List.nil_append,List.cons_append,set_cons_zero,set_cons_succ,map_some,↓reduceIte,Bool.not_true,Bool.not_false,false_eq_true,Bool.true_eq_false,xor_false,false_xor])
noncomputable def lM:DTS:=
 (aY (lD (rF "int" (ag 0)) (Lo (rF "bool" (ag 0)))))
noncomputable def iE:DTS:=
 (aP (w4 (dB (dOp (cq true) (ag 1) (dC (.int 0)))) (AX 0 1 (ae (ag 1) (ae (vy (ag 0) (ag 1)) ao))))
 (aY (dCB tW (ae (ag 0) ao))))
noncomputable def hV:DTS:=
 (aY (au pW (ae (au pW (ae (ag 2) (ae (ag 0) ao))) (ae (ag 1) ao))))
noncomputable def lr:DTS:=
 (aP (AX 0 1 (ae (dCB tW (ae (ag 0) ao)) (ae (dCB tW (ae (ag 1) ao)) ao)))
 (aP (w4 (dB (dOp rGt (ag 1) (dC (.int 0)))) (AX 0 1 (ae (ag 1) (ae (vy (ag 0) (ag 1)) ao))))
 (aY (ag 0))))
section
theorem Ip(x:Int){y:Int}(h:y≠0):(x.fmod y).natAbs<y.natAbs:=by
 have e:=Int.mul_fdiv_add_fmod x y
 have:=Int.fmod_def x y
 rcases lt_or_gt_of_ne h with h|h
 ·have k:=Int.neg_fmod_neg (a:=x) (b:=y)
  have h1:=Int.fmod_nonneg_of_pos (-x) (show 0 < -y by omega)
  have h2:=Int.fmod_lt_of_pos (-x) (show 0 < -y by omega)
  omega
 ·have h1:=Int.fmod_nonneg_of_pos x h
  have h2:=Int.fmod_lt_of_pos x h
  omega
theorem EK(x y:Int):Int.gcd y (x.fmod y)=Int.gcd x y:=by
 have e:=Int.mul_fdiv_add_fmod x y
 have e':x.fmod y=x+y*(-(x.fdiv y)):=by rw[Int.mul_neg];omega
 rw[e',Int.gcd_add_mul_left_right,Int.gcd_comm]
theorem xI{U Qd ds}(h:el ds U Qd):lM {nx:=fun _ Y=>Qd (.v .none) Y,rt:=Qd} (aO [""] ds) U:=by
 obtain⟨d,rfl,q⟩:=h
 unfold lM
 walk_at "rd"
 unfold isWhole at q
 cases hb:isT "int" d<;>simp_all
theorem uh{U Qd ds}(h:pW ds U Qd):iE {nx:=fun _ Y=>Qd (.v .none) Y,rt:=Qd} (aO ["",""] ds) U:=by
 obtain⟨a,b,rfl,q⟩:=h
 unfold iE
 walk_at "rd"
 refine⟨fun m ρ Y=>∃x y:Int,ρ=[some (.v (.int x)),some (.v (.int y))]/\m=y.natAbs/\Int.gcd x y=Int.gcd a b/\Y=U,⟨_,a,b,rfl,rfl,rfl,rfl⟩,?_⟩
 rintro m ρ Y ⟨x,y,rfl,rfl,hg,rfl⟩
 walk_at "rd"
 by_cases hy:y=0
 ·subst hy
  have e:Int.gcd x 0=x.natAbs:=Int.gcd_zero_right x
  rw[<- hg,e] at q
  simpa using q
 ·have z:(true ^^ decide (y=0))=true:=by simp[hy]
  rw[if_pos z]
  exact⟨hy,_,Ip x hy,y,x.fmod y,rfl,rfl,(EK x y).trans hg,trivial⟩
theorem yO{U Qd ds}(h:pW ds U Qd):lr {nx:=fun _ Y=>Qd (.v .none) Y,rt:=Qd} (aO ["",""] ds) U:=by
 obtain⟨a,b,rfl,q⟩:=h
 unfold lr
 walk_at "rd"
 refine⟨fun m ρ Y=>∃x y:Int,ρ=[some (.v (.int x)),some (.v (.int y))]/\m=y.natAbs/\0<=x/\0<=y/\Int.gcd x y=Int.gcd a b/\Y=U,⟨_,_,_,rfl,rfl,∅,∅,by simp[Int.gcd],rfl⟩,?_⟩
 rintro m ρ Y ⟨x,y,rfl,rfl,hx,hy,hg,rfl⟩
 walk_at "rd"
 by_cases h0:0<y
 ·rw[if_pos (by simpa using h0)]
  have hy':y≠0:=by omega
  exact⟨hy',_,Ip x hy',y,x.fmod y,rfl,rfl,∅,Int.fmod_nonneg_of_pos x h0,(EK x y).trans hg,trivial⟩
 ·rw[if_neg (by simpa using h0)]
  have e:y=0:=by omega
  subst e
  rw[Int.gcd_zero_right] at hg
  have:x=((Int.gcd a b:Nat):Int):=by omega
  rw[this]
  exact q
theorem uB{U Qd ds}(h:zB ds U Qd):hV {nx:=fun _ Y=>Qd (.v .none) Y,rt:=Qd} (aO ["","",""] ds) U:=by
 obtain⟨a,b,c,rfl,q⟩:=h
 unfold hV
 walk_at "rd"
 rw[<- Ox] at q
 exact⟨c,a,rfl,_,b,rfl,q⟩
end
noncomputable def vV:DTS:=
 (aP (cJ (dB (dOp (cq false) (ag 2) (dC (.int 0)))) vB bM)
 (aP (bA (au zB (ae (ag 0) (ae (ag 1) (ae (ag 2) ao)))) (az 3))
 (aP (cJ (dB (dOp rLt (ag 2) (dC (.int 0)))) (bA (rG (ag 3)) (az 3)) bM)
 (aY (bG (ae (vi (ag 0) (ag 3)) (ae (vi (ag 1) (ag 3)) (ae (vi (ag 2) (ag 3)) ao))))))))
noncomputable def qy:DTS:=
 (aP (bA (cj (au pW (ae (au pW (ae (ag 0) (ae (ag 1) ao))) (ae (ag 2) ao))) (dOp aA (iF (ae (dC (.int 1)) (ae (rG (dC (.int 1))) ao))) (dCB ua (ae (dOp rLt (ag 2) (dC (.int 0))) ao)))) (az 3))
 (aY (bG (ae (vi (ag 0) (ag 3)) (ae (vi (ag 1) (ag 3)) (ae (vi (ag 2) (ag 3)) ao))))))
noncomputable def mr:DTS:=
 (aY (bG (ae (qD (dC (.int 0)) (dOp aA (ag 0) (dC (.int 0)))) (ae (qD (dC (.int 0)) (dOp aA (ag 0) (dC (.int 1)))) (ae (dOp aA (ag 0) (dC (.int 2))) ao)))))
noncomputable def Dj:DTS:=
 (aY (au cM (ae (ly (cj (dOp aA (ag 0) (dC (.int 0))) (dOp aA (ag 1) (dC (.int 2)))) (cj (dOp aA (ag 1) (dC (.int 0))) (dOp aA (ag 0) (dC (.int 2))))) (ae (ly (cj (dOp aA (ag 0) (dC (.int 1))) (dOp aA (ag 1) (dC (.int 2)))) (cj (dOp aA (ag 1) (dC (.int 1))) (dOp aA (ag 0) (dC (.int 2))))) (ae (cj (dOp aA (ag 0) (dC (.int 2))) (dOp aA (ag 1) (dC (.int 2)))) ao)))))
noncomputable def vx:DTS:=
 (aY (au cM (ae (ly (cj (dOp aA (ag 0) (dC (.int 0))) (dOp aA (ag 1) (dC (.int 2)))) (cj (dOp aA (ag 1) (dC (.int 0))) (dOp aA (ag 0) (dC (.int 2))))) (ae (ly (cj (dOp aA (ag 0) (dC (.int 1))) (dOp aA (ag 1) (dC (.int 2)))) (cj (dOp aA (ag 1) (dC (.int 1))) (dOp aA (ag 0) (dC (.int 2))))) (ae (cj (dOp aA (ag 0) (dC (.int 2))) (dOp aA (ag 1) (dC (.int 2)))) ao)))))
noncomputable def B7:DTS:=
 (aY (au cM (ae (qD (cj (dOp aA (ag 0) (dC (.int 0))) (dOp aA (ag 1) (dC (.int 2)))) (cj (dOp aA (ag 1) (dC (.int 0))) (dOp aA (ag 0) (dC (.int 2))))) (ae (qD (cj (dOp aA (ag 0) (dC (.int 1))) (dOp aA (ag 1) (dC (.int 2)))) (cj (dOp aA (ag 1) (dC (.int 1))) (dOp aA (ag 0) (dC (.int 2))))) (ae (cj (dOp aA (ag 0) (dC (.int 2))) (dOp aA (ag 1) (dC (.int 2)))) ao)))))
noncomputable def yP:DTS:=
 (aY (au cM (ae (ly (cj (dOp aA (ag 1) (dC (.int 0))) (dOp aA (ag 2) (dC (.int 0)))) (cj (cj (ag 0) (dOp aA (ag 1) (dC (.int 1)))) (dOp aA (ag 2) (dC (.int 1))))) (ae (ly (cj (dOp aA (ag 1) (dC (.int 0))) (dOp aA (ag 2) (dC (.int 1)))) (cj (dOp aA (ag 1) (dC (.int 1))) (dOp aA (ag 2) (dC (.int 0))))) (ae (cj (dOp aA (ag 1) (dC (.int 2))) (dOp aA (ag 2) (dC (.int 2)))) ao)))))
noncomputable def rL:DTS:=
 (aY (au cM (ae (ly (cj (dOp aA (ag 1) (dC (.int 0))) (dOp aA (ag 2) (dC (.int 0)))) (cj (cj (ag 0) (dOp aA (ag 1) (dC (.int 1)))) (dOp aA (ag 2) (dC (.int 1))))) (ae (ly (cj (dOp aA (ag 1) (dC (.int 0))) (dOp aA (ag 2) (dC (.int 1)))) (cj (dOp aA (ag 1) (dC (.int 1))) (dOp aA (ag 2) (dC (.int 0))))) (ae (cj (dOp aA (ag 1) (dC (.int 2))) (dOp aA (ag 2) (dC (.int 2)))) ao)))))
noncomputable def pK:DTS:=
 (aP (bA (qD (cj (dOp aA (ag 1) (dC (.int 0))) (dOp aA (ag 1) (dC (.int 0)))) (cj (cj (ag 0) (dOp aA (ag 1) (dC (.int 1)))) (dOp aA (ag 1) (dC (.int 1))))) (az 2))
 (aY (au cM (ae (cj (dOp aA (ag 1) (dC (.int 2))) (dOp aA (ag 1) (dC (.int 0)))) (ae (cj (rG (dOp aA (ag 1) (dC (.int 2)))) (dOp aA (ag 1) (dC (.int 1)))) (ae (ag 2) ao))))))
noncomputable def iJ:DTS:=
 (aY (au cM (ae (cj (dOp aA (ag 1) (dC (.int 0))) (dOp aA (ag 1) (dC (.int 2)))) (ae (qD (dC (.int 0)) (cj (dOp aA (ag 1) (dC (.int 1))) (dOp aA (ag 1) (dC (.int 2))))) (ae (qD (cj (dOp aA (ag 1) (dC (.int 0))) (dOp aA (ag 1) (dC (.int 0)))) (cj (cj (ag 0) (dOp aA (ag 1) (dC (.int 1)))) (dOp aA (ag 1) (dC (.int 1))))) ao)))))
noncomputable def CQ:DTS:=
 (aP (cJ (dB (dOp (cq false) (ag 2) (dC (.tuple [.int 0,.int 0,.int 1])))) vB bM)
 (aY (au cw (ae (ag 0) (ae (ag 1) (ae (au cK (ae (ag 0) (ae (ag 2) ao))) ao))))))
noncomputable def Du:DTS:=
 (aY (bG (ae (dOp aA (ag 0) (dC (.int 0))) (ae (rG (dOp aA (ag 0) (dC (.int 1)))) (ae (dOp aA (ag 0) (dC (.int 2))) ao)))))
section
variable {U:Mu}{Qd:DK}{ds:List D}
theorem QM(i j:Int):PyData.eqv (.int i) (.int j)=decide (i=j):=by simp[PyData.eqv];rfl
theorem gdv{a b c:Int}(h:Sz 8800 c)(hc:c≠0):Sz 8800 ((g3 a b c:Nat):Int):=by
 have h1:=(Ln a b c).2.2
 have h2:=Int.natAbs_dvd_natAbs.mpr h1
 exact h.le (Nat.le_of_dvd ∅ h2)
theorem Jz(h:cM ds U Qd):vV {nx:=fun _ Y=>Qd (.v .none) Y,rt:=Qd} (aO ["","","",""] ds) U:=by
 obtain⟨a,b,c,rfl,hc,hz,q⟩:=h
 unfold vV
 walk_at "rd"
 rw[decide_eq_false hc]
 simp only[xor_false,false_eq_true,↓reduceIte]
 refine⟨a,b,c,rfl,?_⟩
 walk_at "rd"
 have hp:=CW (a:=a) (b:=b) hc
 have hg:=gdv (a:=a) (b:=b) hz hc
 unfold low NM.dv dN at q
 simp only at q
 by_cases hn:c<0
 ·rw[if_pos (by simpa using hn)]
  rw[if_pos hn] at q
  have o:∀i:Int,rV i (-((g3 a b c:Nat):Int)):=fun i=>yA ∅ hg.neg ⋯
  exact⟨o _,o _,o _,q⟩
 ·rw[if_neg (by simpa using hn)]
  rw[if_neg hn] at q
  have o:∀i:Int,rV i ((g3 a b c:Nat):Int):=fun i=>yA ∅ hg ⋯
  exact⟨o _,o _,o _,q⟩
theorem FR(h:cM ds U Qd):qy {nx:=fun _ Y=>Qd (.v .none) Y,rt:=Qd} (aO ["","","",""] ds) U:=by
 obtain⟨a,b,c,rfl,hc,hz,q⟩:=h
 unfold qy
 walk_at "rd"
 refine⟨a,b,rfl,_,c,rfl,?_⟩
 walk_at "rd"
 have hp:=CW (a:=a) (b:=b) hc
 have hg:=gdv (a:=a) (b:=b) hz hc
 unfold low NM.dv dN at q
 simp only at q
 by_cases hn:c<0
 ·simp only[hn,decide_true,↓reduceIte,Eg]
  rw[if_pos hn] at q
  have e:((Int.gcd (Int.gcd a b:Nat) c:Nat):Int) * -1 = -((g3 a b c:Nat):Int):=by unfold g3;omega
  walk_at "rd"
  rw[e]
  have o:∀i:Int,rV i (-((g3 a b c:Nat):Int)):=fun i=>yA ∅ hg.neg ⋯
  exact⟨mulR ⋯,o _,o _,o _,q⟩
 ·simp only[hn,decide_false,false_eq_true,↓reduceIte,Ex]
  rw[if_neg hn] at q
  have e:((Int.gcd (Int.gcd a b:Nat) c:Nat):Int)*1=((g3 a b c:Nat):Int):=by unfold g3;omega
  walk_at "rd"
  rw[e]
  have o:∀i:Int,rV i ((g3 a b c:Nat):Int):=fun i=>yA ∅ hg ⋯
  exact⟨mulR ⋯,o _,o _,o _,q⟩
theorem NU(h:nL ds U Qd):Du {nx:=fun _ Y=>Qd (.v .none) Y,rt:=Qd} (aO [""] ds) U:=by
 obtain⟨x,rfl,q⟩:=h
 unfold Du
 walk_at "rd"
 exact q
theorem AL(h:uY ds U Qd):mr {nx:=fun _ Y=>Qd (.v .none) Y,rt:=Qd} (aO [""] ds) U:=by
 obtain⟨x,rfl,q⟩:=h
 unfold mr
 walk_at "rd"
 simp only[Int.zero_sub]
 exact q
theorem Iu(h:oY ds U Qd):Dj {nx:=fun _ Y=>Qd (.v .none) Y,rt:=Qd} (aO ["",""] ds) U:=by
 obtain⟨x,y,rfl,ox,oy,bx,by',q⟩:=h
 unfold Dj
 walk_at "rd"
 have m:∀{i j:Int},Sz 4300 i->Sz 4300 j->IntMulOk i j:=fun h g=>gU h g ⋯
 exact⟨m bx.a by'.c,m by'.a bx.c,m bx.b by'.c,m by'.b bx.c,m bx.c by'.c,_,_,_,rfl,wD ox oy,(bx.c.mul by'.c).mono ⋯,q⟩
theorem BV(h:oY ds U Qd):vx {nx:=fun _ Y=>Qd (.v .none) Y,rt:=Qd} (aO ["",""] ds) U:=Iu h
theorem Ng(h:zy ds U Qd):B7 {nx:=fun _ Y=>Qd (.v .none) Y,rt:=Qd} (aO ["",""] ds) U:=by
 obtain⟨x,y,rfl,ox,oy,bx,by',q⟩:=h
 unfold B7
 walk_at "rd"
 have m:∀{i j:Int},Sz 4300 i->Sz 4300 j->IntMulOk i j:=fun h g=>gU h g ⋯
 exact⟨m bx.a by'.c,m by'.a bx.c,m bx.b by'.c,m by'.b bx.c,m bx.c by'.c,_,_,_,rfl,wD ox oy,(bx.c.mul by'.c).mono ⋯,q⟩
theorem Ey(h:cw ds U Qd):yP {nx:=fun _ Y=>Qd (.v .none) Y,rt:=Qd} (aO ["","",""] ds) U:=by
 obtain⟨d,x,y,rfl,hd,ox,oy,bx,by',q⟩:=h
 unfold yP
 walk_at "rd"
 have m:∀{i j:Int},Sz 4300 i->Sz 4300 j->IntMulOk i j:=fun h g=>gU h g ⋯
 exact⟨m bx.a by'.a,gU hd bx.b ⋯,gU (hd.mul bx.b) by'.b ⋯,m bx.a by'.b,m bx.b by'.a,m bx.c by'.c,_,_,_,rfl,wD ox oy,(bx.c.mul by'.c).mono ⋯,q⟩
theorem AI(h:cw ds U Qd):rL {nx:=fun _ Y=>Qd (.v .none) Y,rt:=Qd} (aO ["","",""] ds) U:=Ey h
theorem Fy(h:cK ds U Qd):pK {nx:=fun _ Y=>Qd (.v .none) Y,rt:=Qd} (aO ["","",""] ds) U:=by
 obtain⟨d,x,rfl,hd,hn,bx,q⟩:=h
 unfold pK
 walk_at "rd"
 have m:∀{i j:Int},Sz 4300 i->Sz 4300 j->IntMulOk i j:=fun h g=>gU h g ⋯
 exact⟨m bx.a bx.a,gU hd bx.b ⋯,gU (hd.mul bx.b) bx.b ⋯,m bx.c bx.a,m bx.c.neg bx.b,_,_,_,rfl,hn,(yd hd bx).mono ⋯,q⟩
theorem w6(h:cK ds U Qd):iJ {nx:=fun _ Y=>Qd (.v .none) Y,rt:=Qd} (aO ["",""] ds) U:=by
 obtain⟨d,x,rfl,hd,hn,bx,q⟩:=h
 unfold iJ
 walk_at "rd"
 have m:∀{i j:Int},Sz 4300 i->Sz 4300 j->IntMulOk i j:=fun h g=>gU h g ⋯
 refine⟨m bx.a bx.c,m bx.b bx.c,m bx.a bx.a,gU hd bx.b ⋯,gU (hd.mul bx.b) bx.b ⋯,_,_,_,rfl,hn,(yd hd bx).mono ⋯,?_⟩
 have e1:x.a*x.c=x.c*x.a:=mul_comm ..
 have e2:0-x.b*x.c = -x.c*x.b:=by grind
 rw[e1,e2]
 exact q
theorem Sx(a b c a' b' c':Int):PyData.eqv (.tuple [.int a,.int b,.int c]) (.tuple [.int a',.int b',.int c'])=decide (a=a'/\b=b'/\c=c'):=by
 simp[PyData.eqv,PyData.eqvAll]
 rfl
theorem Nf(h:jK ds U Qd):CQ {nx:=fun _ Y=>Qd (.v .none) Y,rt:=Qd} (aO ["","",""] ds) U:=by
 obtain⟨d,x,y,rfl,hd,ox,oy,hy,bx,by',q⟩:=h
 unfold CQ
 walk_at "rd"
 refine⟨rfl,rfl,?_⟩
 have hn:¬ (y.a=0/\y.b=0/\y.c=1):=fun z=>hy (N3.ext' z.1 z.2.1 z.2.2)
 rw[Sx,decide_eq_false hn]
 simp only[xor_false,false_eq_true,↓reduceIte]
 have s5:=sI hd.1 hd.2.1
 have nz:=hd.norm oy hy
 exact⟨d,y,rfl,s5,nz,by'.mono ⋯,d,x,_,rfl,s5,ox,aC nz,bx.mono ⋯,(bE s5 nz by').mono ⋯,q⟩
end
noncomputable def iQ:DTS:=
 (aP (cJ (j0 (dB (dOp (cq false) (ag 1) (dC (.int 0)))) (dB (dOp (cq false) (ag 2) (dC (.int 0))))) (aY (dC (.int 0))) bM)
 (aP (cJ (j0 (dB (dOp rGe (ag 1) (dC (.int 0)))) (dB (dOp rGe (ag 2) (dC (.int 0))))) (aY (dC (.int 1))) bM)
 (aP (cJ (j0 (dB (dOp rLe (ag 1) (dC (.int 0)))) (dB (dOp rLe (ag 2) (dC (.int 0))))) (aY (rG (dC (.int 1)))) bM)
 (aP (bA (dIf (dB (dOp rGt (cj (ag 1) (ag 1)) (cj (cj (ag 0) (ag 2)) (ag 2)))) (ag 1) (ag 2)) (az 3))
 (aY (dIf (dB (dOp rGt (ag 3) (dC (.int 0)))) (dC (.int 1)) (rG (dC (.int 1)))))))))
noncomputable def si:DTS:=
 (aY (au yg (ae (ag 0) (ae (dOp aA (ag 1) (dC (.int 0))) (ae (dOp aA (ag 1) (dC (.int 1))) ao)))))
noncomputable def nN:DTS:=
 (aP (AX 2 3 (ae (cj (dOp aA (ag 1) (dC (.int 0))) (dOp aA (ag 1) (dC (.int 0)))) (ae (cj (cj (ag 0) (dOp aA (ag 1) (dC (.int 1)))) (dOp aA (ag 1) (dC (.int 1)))) ao)))
 (aP (bA (iF (ae (qD (dCB ua (ae (dOp rGt (dOp aA (ag 1) (dC (.int 0))) (dC (.int 0))) ao)) (dCB ua (ae (dOp rLt (dOp aA (ag 1) (dC (.int 0))) (dC (.int 0))) ao))) (ae (qD (dCB ua (ae (dOp rGt (dOp aA (ag 1) (dC (.int 1))) (dC (.int 0))) ao)) (dCB ua (ae (dOp rLt (dOp aA (ag 1) (dC (.int 1))) (dC (.int 0))) ao))) ao))) (az 4))
 (aP (cJ (dB (dOp rGe (cj (dOp aA (ag 4) (dC (.int 0))) (dOp aA (ag 4) (dC (.int 1)))) (dC (.int 0)))) (aY (dIf (dB (dOp (cq true) (dOp aA (ag 4) (dC (.int 0))) (dC (.int 0)))) (dOp aA (ag 4) (dC (.int 0))) (dOp aA (ag 4) (dC (.int 1))))) bM)
 (aY (dIf (dB (dOp rGt (ag 2) (ag 3))) (dOp aA (ag 4) (dC (.int 0))) (dOp aA (ag 4) (dC (.int 1))))))))
section
variable {U:Mu}{Qd:DK}{ds:List D}
theorem vJ(h:yg ds U Qd):iQ {nx:=fun _ Y=>Qd (.v .none) Y,rt:=Qd} (aO ["","","",""] ds) U:=by
 obtain⟨d,a,b,rfl,hd,ha,hb,q⟩:=h
 unfold iQ
 walk_at "rd"
 have m1:MulOk a a:=gU ha ha ⋯
 have m2:MulOk d b:=gU hd hb ⋯
 have m3:MulOk (d*b) b:=gU (hd.mul hb) hb ⋯
 unfold sg at q
 by_cases h1:a=0
 ·by_cases h2:b=0
  ·subst h1 h2;simpa using q
  ·subst h1
   rcases lt_or_gt_of_ne h2 with h3|h3
   ·have e:¬ (0<=b):=by omega
    have e':b<=0:=by omega
    simp only[h2,e,e',and_false,true_and,if_true,if_false,decide_true,decide_false,le_refl,↓reduceIte,false_eq_true] at q ⊢
    exact q
   ·have e:(0<=b):=by omega
    simp only[h2,e,and_false,true_and,if_true,if_false,decide_true,decide_false,le_refl,↓reduceIte,false_eq_true] at q ⊢
    exact q
 ·by_cases h3:0<=a<;>by_cases h4:0<=b<;>by_cases h5:a<=0<;>by_cases h6:b<=0<;>by_cases h7:d*b*b<a*a<;>(try (exfalso;omega))<;>
   simp only[h1,h3,h4,h5,h6,h7,and_false,false_and,and_true,true_and,if_true,if_false,decide_true,decide_false,↓reduceIte,false_eq_true,and_self,m1,m2,m3,gt_iff_lt] at q ⊢<;>(try exact q)
  all_goals
   first
   |(by_cases h8:0<a<;>simp only[h8,if_true,if_false,decide_true,decide_false,↓reduceIte,false_eq_true] at q ⊢<;>exact q)
   |(by_cases h8:0<b<;>simp only[h8,if_true,if_false,decide_true,decide_false,↓reduceIte,false_eq_true] at q ⊢<;>exact q)
theorem GA(h:iA ds U Qd):si {nx:=fun _ Y=>Qd (.v .none) Y,rt:=Qd} (aO ["",""] ds) U:=by
 obtain⟨d,x,rfl,hd,bx,q⟩:=h
 unfold si
 walk_at "rd"
 exact⟨d,x.a,x.b,rfl,sI hd.1 hd.2.1,bx.a.mono ⋯,bx.b.mono ⋯,q⟩
theorem QP{d a b sa sb:Int}(ha:(a<0/\sa = -1)\/(a=0/\sa=0)\/(0<a/\sa=1))(hb:(b<0/\sb = -1)\/(b=0/\sb=0)\/(0<b/\sb=1)) :
  sg d a b=if 0<=sa*sb then (if sa≠0 then sa else sb) else if d*b*b<a*a then sa else sb:=by
 unfold sg
 by_cases h7:d*b*b<a*a<;>rcases ha with ⟨h1,rfl⟩|⟨h1,rfl⟩|⟨h1,rfl⟩<;>rcases hb with ⟨h2,rfl⟩|⟨h2,rfl⟩|⟨h2,rfl⟩<;>simp only[h7,↓reduceIte]<;>(repeat' split)<;>omega
theorem Dl(h:iA ds U Qd):nN {nx:=fun _ Y=>Qd (.v .none) Y,rt:=Qd} (aO ["","","","",""] ds) U:=by
 obtain⟨d,x,rfl,hd,bx,q⟩:=h
 unfold nN
 walk_at "rd"
 have s5:=sI hd.1 hd.2.1
 refine⟨gU bx.a bx.a ⋯,gU s5 bx.b ⋯,gU (s5.mul bx.b) bx.b ⋯,?_⟩
 have sd:∀u:Int,(u<0/\((if decide (0<u)=true then 1 else 0)-if decide (u<0)=true then 1 else 0:Int) = -1)\/(u=0/\((if decide (0<u)=true then 1 else 0)-if decide (u<0)=true then 1 else 0:Int)=0)\/(0<u/\((if decide (0<u)=true then 1 else 0)-if decide (u<0)=true then 1 else 0:Int)=1):=fun u=>by
  simp only[decide_eq_true_eq]
  split<;>split<;>omega
 have ha:=sd x.a
 have hb:=sd x.b
 generalize ((if decide (0<x.a)=true then 1 else 0)-if decide (x.a<0)=true then 1 else 0:Int)=sa at ha ⊢
 generalize ((if decide (0<x.b)=true then 1 else 0)-if decide (x.b<0)=true then 1 else 0:Int)=sb at hb ⊢
 rw[QP ha hb] at q
 refine⟨mulL ∅,?_⟩
 by_cases c1:0<=sa*sb<;>by_cases c2:sa=0<;>by_cases c3:d*x.b*x.b<x.a*x.a<;>simp only[c1,c2,c3,decide_true,decide_false,↓reduceIte,false_eq_true,xor_false,Bool.xor_true,Bool.not_true,ne_eq,not_true_eq_false,not_false_eq_true,zero_mul,le_refl] at q ⊢<;>exact q
end
noncomputable def p7:DTS:=
 (aP (bA (dC (.int 0)) (az 2))
 (aP (cJ (dB (dOp rLt (ag 1) (dCB dH (ae (ag 0) ao)))) (bA (dOp aA (ag 0) (ag 1)) (az 2)) bM)
 (aP (bA (dC (.int 0)) (az 3))
 (aP (cJ (dB (dOp rGe (dCB tW (ae (ag 2) ao)) (Og (dC (.int 10)) (dC (.int 18))))) (bA (dCB tW (ae (ag 2) ao)) (az 3)) bM)
 (aP (bA (iF (ae (dC (.int 2147483647)) (ae (dC (.int 2147483629)) (ae (dC (.int 2147483587)) (ae (dC (.int 2147483579)) (ae (dC (.int 2147483563)) (ae (dC (.int 2147483549)) (ae (dC (.int 2147483543)) (ae (dC (.int 2147483497)) ao))))))))) (az 4))
 (aP (bA (ly (ly (ly (cj (vy (ag 2) (dC (.int 2147483647))) (dC (.int 69623))) (cj (cj (dC (.int 104729)) (ag 1)) (ag 1))) (cj (dC (.int 7919)) (ag 1))) (dC (.int 12345))) (az 5))
 (aY (Bs (ae (ag 3) (ae (vy (ag 5) (dOp aA (ag 4) (vy (ag 1) (dC (.int 8))))) ao))))))))))
noncomputable def oB:DTS:=
 (aP (cJ (dB (dOp rGt (dOp aA (ag 0) (dC (.int 0))) (dC (.int 0)))) (aP (bA (vy (dOp aA (ag 0) (dC (.int 0))) (ag 1)) (az 2))
 (aP (bA (vi (dOp aA (ag 0) (dC (.int 0))) (ag 1)) (D5 (ag 0) (dC (.int 0))))
 (aY (ag 2)))) bM)
 (aP (bA (vy (ly (cj (dOp aA (ag 0) (dC (.int 1))) (dC (.int 48271))) (dC (.int 2531011))) (dC (.int 2147483647))) (D5 (ag 0) (dC (.int 1))))
 (aY (vy (vi (vy (Og (dOp aA (ag 0) (dC (.int 1))) (dC (.int 3))) (dC (.int 2147483629))) (dC (.int 64))) (ag 1)))))
section
variable {U:Mu}{Qd:DK}{ds:List D}
theorem yi{α:Type}{xs:List α}{i:Int}(h0:0<=i)(h:i<(xs.length:Nat)):∃d,atI xs i=some d/\d∈xs:=by
 have hj:i.toNat<xs.length:=by omega
 have e:=ym (xs:=xs) (j:=i.toNat) (v:=xs[i.toNat]) (by simp[hj])
 rw[show ((i.toNat:Nat):Int)=i by omega] at e
 exact⟨_,e,List.getElem_mem _⟩
theorem mU(x:Int){y:Int}(h:0<y):0<=x.fmod y/\x.fmod y<y:=⟨Int.fmod_nonneg_of_pos x h,Int.fmod_lt_of_pos x h⟩
theorem Nk{x y:Int}(hx:0<=x)(hy:0<y):0<=x.fdiv y:=by rw[Int.fdiv_eq_ediv_of_nonneg _ ∅];exact Int.ediv_nonneg hx ∅
def rg:List PyData:=[.int 2147483647,.int 2147483629,.int 2147483587,.int 2147483579,.int 2147483563,.int 2147483549,.int 2147483543,.int 2147483497]
theorem Ez(h:Ii ds U Qd):p7 {nx:=fun _ Y=>Qd (.v .none) Y,rt:=Qd} (aO ["","","","","",""] ds) U:=by
 obtain⟨ns,k,rfl,h0,h1,q⟩:=h
 unfold p7
 have hp:∃pr:Int,atI rg (k.fmod 8)=some (.int pr)/\0<pr/\pr<2147483648:=by
  obtain⟨h2,h3⟩:=mU k (show (0:Int)<8 by decide)
  obtain⟨p,e,hm⟩:=yi (xs:=rg) h2 (by exact h3)
  simp only[rg,mem_cons,not_mem_nil,or_false] at hm
  rcases hm with rfl|rfl|rfl|rfl|rfl|rfl|rfl|rfl<;>exact⟨_,e,⋯,⋯⟩
 obtain⟨pr,hpe,hp0,hp1⟩:=hp
 unfold rg at hpe
 walk_at "rd"
 rw[hpe]
 walk_at "rd"
 have c1:Pw 10 18:=⟨⋯,⋯,⋯⟩
 have z1:(2147483647:Int)≠0:=by decide
 have z2:(8:Int)≠0:=by decide
 have m1:∀i:Int,MulOk i 69623:=fun i=>mulR ⋯
 have m2:MulOk 104729 k:=mulL ⋯
 have m3:MulOk (104729*k) k:=mulR ∅
 have m4:MulOk 7919 k:=mulL ⋯
 have z3:pr≠0:=by omega
 have fin:∀G x:Int,0<=G->∀p,U p=none->Qd (.m p) (aR U p [.int G,.int (x.fmod pr)]):=fun G x hG p hp=>by
  obtain⟨h2,h3⟩:=mU x hp0
  exact q p _ hp (Step.set hG h2 ∅)
 by_cases hk:k<(ns.length:Nat)
 ·rw[if_pos (by simpa using hk)]
  obtain⟨c,hc,_⟩:=yi h0 hk
  rw[hc]
  walk_at "rd"
  refine⟨c1,?_⟩
  split
  ·exact⟨z1,m1 _,m2,m3,m4,z2,z3,fin _ _ ∅⟩
  ·exact⟨z1,m1 _,m2,m3,m4,z2,z3,fin _ _ ∅⟩
 ·rw[if_neg (by simpa using hk)]
  refine⟨c1,?_⟩
  split
  ·exact⟨z1,m1 _,m2,m3,m4,z2,z3,fin _ _ ∅⟩
  ·exact⟨z1,m1 _,m2,m3,m4,z2,z3,fin _ _ ∅⟩
theorem Dt(h:bF ds U Qd):oB {nx:=fun _ Y=>Qd (.v .none) Y,rt:=Qd} (aO ["","",""] ds) U:=by
 obtain⟨a,n,rfl,h0,h1,⟨g,m,hb,hg,hm,hm'⟩,q⟩:=h
 unfold oB
 walk_at "rd"
 rw[hb]
 walk_at "rd"
 rw[hb]
 walk_at "rd"
 have n0:n≠0:=by omega
 have i0:ixN 2 0=some 0:=by rfl
 have i1:ixN 2 1=some 1:=by rfl
 by_cases hg0:0<g
 ·rw[if_pos (by simpa using hg0)]
  simp only[hb]
  walk_at "rd"
  obtain⟨r0,r1⟩:=mU g (show 0<n by omega)
  refine⟨n0,?_⟩
  simp only[hb]
  walk_at "rd"
  refine⟨divC n0 ∅,?_⟩
  simp only[hb,length_cons,List.length_nil,Nat.reduceAdd,i0,set_cons_zero]
  exact q _ _ r0 r1 (Step.set (Nk hg ∅) hm hm')
 ·rw[if_neg (by simpa using hg0)]
  simp only[hb,i1,aV]
  walk_at "rd"
  obtain⟨s0,s1⟩:=mU (m*48271+2531011) (show (0:Int)<2147483647 by decide)
  generalize (m*48271+2531011).fmod 2147483647=w at s0 s1 ⊢
  obtain⟨r0,r1⟩:=mU ((((w ^ Int.toNat 3).fmod 2147483629).fdiv 64)) (show 0<n by omega)
  refine⟨mulL ∅,⋯,?_⟩
  refine⟨⟨⋯,⋯,∅⟩,(by show (2147483629:Int)≠0;decide),divC ⋯ ⋯,n0,?_⟩
  exact q _ _ r0 r1 (Step.set hg s0 ∅)
end
noncomputable def oD:DTS:=
 (aP (cJ (ku (dq (dB (rF "tuple" (ag 0)))) (dB (dOp (cq true) (dCB dH (ae (ag 0) ao)) (dC (.int 3))))) (aY (dC (.bool false))) bM)
 (aP (bA (ag 0) (rM 3 (eY (az 1) (eY (az 2) (eY (az 3) uQ)))))
 (aP (cJ (ku (dq (dB (au el (ae (ag 1) ao)))) (ku (dq (dB (au el (ae (ag 2) ao)))) (dq (dB (au el (ae (ag 3) ao)))))) (aY (dC (.bool false))) bM)
 (aY (lD (dOp rGe (ag 3) (dC (.int 1))) (dOp (cq false) (au zB (ae (ag 1) (ae (ag 2) (ae (ag 3) ao)))) (dC (.int 1))))))))
section
variable {U:Mu}{Qd:DK}{ds:List D}
def HJ(i:Int):Bool:=decide (2<=i)&&decide (i<=30)&&!(decide (i=4) || decide (i=9) || decide (i=16) || decide (i=25))
theorem eM(d:PyData):(∃i,d = .int i/\isWhole d=true)\/((∀i,d≠.int i)/\isWhole d=false):=by
 cases d<;>first|exact .inl ⟨_,rfl,rfl⟩|exact .inr ⟨fun _ z=>(by cases z),rfl⟩
theorem CM(d:PyData):(∃xs,d = .tuple xs/\isT "tuple" d=true)\/((∀xs,d≠.tuple xs)/\isT "tuple" d=false):=by
 cases d<;>first|exact .inl ⟨_,rfl,rfl⟩|exact .inr ⟨fun _ z=>(by cases z),rfl⟩
theorem Br{d:PyData}(h:∀xs,d≠.tuple xs):isNum d=false:=by cases d<;>first|rfl|exact absurd rfl (h _)
theorem Bx{xs:List PyData}(h:xs.length≠3):isNum (.tuple xs)=false:=by
 unfold isNum
 split
 ·rename_i e;cases e;exact absurd rfl h
 ·rfl
theorem three{α:Type}{xs:List α}(h:xs.length=3):∃a b c,xs=[a,b,c]:=by
 match xs,h with
 |[a,b,c],_=>exact⟨a,b,c,rfl⟩
theorem C0(h:kQ ds U Qd):oD {nx:=fun _ Y=>Qd (.v .none) Y,rt:=Qd} (aO ["","","",""] ds) U:=by
 obtain⟨d,rfl,_,q⟩:=h
 unfold oD
 walk_at "rd"
 rcases CM d with ⟨xs,rfl,e⟩|⟨hn,e⟩
 ·rw[e]
  walk_at "rd"
  by_cases hl:xs.length=3
  ·obtain⟨a,b,c,rfl⟩:=three hl
   have e3:decide ((([a,b,c].length:Nat):Int)=3)=true:=rfl
   have e3':[a,b,c].length=3:=rfl
   simp only[e3,Bool.xor_self,false_eq_true,↓reduceIte]
   refine⟨rfl,?_⟩
   walk_at "rd"
   refine⟨a,rfl,?_⟩
   rcases eM a with ⟨i,rfl,e⟩|⟨hn,e⟩
   ·rw[e]
    walk_at "rd"
    refine⟨b,rfl,?_⟩
    rcases eM b with ⟨j,rfl,e⟩|⟨hn,e⟩
    ·rw[e]
     walk_at "rd"
     refine⟨c,rfl,?_⟩
     rcases eM c with ⟨k,rfl,e⟩|⟨hn,e⟩
     ·rw[e]
      walk_at "rd"
      have q':Qd (.v (.bool (decide (1<=k)&&(g3 i j k==1)))) U:=q
      by_cases hk:1<=k
      ·rw[if_pos (by simpa using hk)]
       refine⟨i,j,k,rfl,?_⟩
       walk_at "rd"
       have ee:decide (((g3 i j k:Nat):Int)=1)=(decide (1<=k)&&(g3 i j k==1)):=by
        rw[decide_eq_true hk,Bool.true_and,Bool.eq_iff_iff];simp;omega
       rw[ee]
       exact q'
      ·rw[if_neg (by simpa using hk)]
       rw[decide_eq_false hk] at q'
       exact q'
     ·rw[e]
      walk_at "rd"
      have:isNum (.tuple [.int i,.int j,c])=false:=by cases c<;>first|rfl|exact absurd rfl (hn _)
      rw[this] at q
      exact q
    ·rw[e]
     walk_at "rd"
     have:isNum (.tuple [.int i,b,c])=false:=by cases b<;>first|rfl|exact absurd rfl (hn _)
     rw[this] at q
     exact q
   ·rw[e]
    walk_at "rd"
    have:isNum (.tuple [a,b,c])=false:=by cases a<;>first|rfl|exact absurd rfl (hn _)
    rw[this] at q
    exact q
  ·rw[Bx hl] at q
   have:decide (((xs.length:Nat):Int)=3)=false:=by simp;omega
   rw[this]
   simp only[xor_false,↓reduceIte]
   exact q
 ·rw[e]
  rw[Br hn] at q
  walk_at "rd"
  exact q
end
noncomputable def ia:DTS:=
 (aP (cJ (ku (dq (dB (rF "tuple" (ag 0)))) (ku (dB (dOp (cq true) (dCB dH (ae (ag 0) ao)) (dC (.int 3)))) (dq (dB (dCB pG (ae (qH [none] (xE (ag 0)) (az 0) qc (au el (ae (ag 0) ao))) ao)))))) (aY (dC (.bool false))) bM)
 (aY (lD (dOp rGt (dOp aA (ag 0) (dC (.int 2))) (dC (.int 0))) (dOp (cq false) (au pW (ae (au pW (ae (dOp aA (ag 0) (dC (.int 0))) (ae (dOp aA (ag 0) (dC (.int 1))) ao))) (ae (dOp aA (ag 0) (dC (.int 2))) ao))) (dC (.int 1))))))
noncomputable def kP:DTS:=
 (aP (bA (dOp aA (iF (ae (dC (.int 4)) (ae (dC (.int 10)) (ae (dC (.int 100)) (ae (dC (.int 1000000)) ao))))) (au bF (ae (ag 0) (ae (dC (.int 4)) ao)))) (az 1))
 (aP (AX 2 3 (ae (qD (au bF (ae (ag 0) (ae (ag 1) ao))) (vi (ag 1) (dC (.int 2)))) (ae (qD (au bF (ae (ag 0) (ae (ag 1) ao))) (vi (ag 1) (dC (.int 2)))) ao)))
 (aP (bA (ly (dC (.int 1)) (au bF (ae (ag 0) (ae (qD (ag 1) (dC (.int 1))) ao)))) (az 4))
 (aP (bA (au bF (ae (ag 0) (ae (dC (.int 8)) ao))) (az 5))
 (aY (au cM (ae (dOp aA (iF (ae (ag 2) (ae (ag 2) (ae (ag 2) (ae (ag 2) (ae (ag 2) (ae (ag 2) (ae (ag 2) (ae (dC (.int 0)) ao))))))))) (ag 5)) (ae (dOp aA (iF (ae (ag 3) (ae (ag 3) (ae (ag 3) (ae (ag 3) (ae (ag 3) (ae (dC (.int 0)) (ae (dC (.int 0)) (ae (ag 3) ao))))))))) (ag 5)) (ae (dOp aA (iF (ae (ag 4) (ae (ag 4) (ae (dC (.int 1)) (ae (ag 4) (ae (dC (.int 1)) (ae (ag 4) (ae (dC (.int 1)) (ae (ag 4) ao))))))))) (ag 5)) ao)))))))))
section
variable {U:Mu}{Qd:DK}{ds:List D}
theorem ug(h:kQ ds U Qd):ia {nx:=fun _ Y=>Qd (.v .none) Y,rt:=Qd} (aO [""] ds) U:=by
 obtain⟨d,rfl,few,q⟩:=h
 unfold ia
 walk_at "rd"
 rcases CM d with ⟨xs,rfl,e⟩|⟨hn,e⟩
 ·rw[e]
  walk_at "rd"
  by_cases hl:xs.length=3
  ·obtain⟨a,b,c,rfl⟩:=three hl
   have e3:decide ((([a,b,c].length:Nat):Int)=3)=true:=rfl
   simp only[e3,Bool.xor_self,false_eq_true,↓reduceIte]
   refine⟨by simp,fun x=>some (.bool (isWhole x)),fun x hx Y hs=>⟨trivial,x,rfl,rfl,rfl⟩,?_⟩
   rw[IC (fun x=>PyData.bool (isWhole x)),xt]
   simp only[map_cons,List.map_nil,all_cons,all_nil,id,Bool.and_true]
   rcases eM a with ⟨i,rfl,ea⟩|⟨hn,ea⟩
   ·rcases eM b with ⟨j,rfl,e1⟩|⟨hn,e1⟩
    ·rcases eM c with ⟨k,rfl,e2⟩|⟨hn,e2⟩
     ·rw[ea,e1,e2]
      simp only[Bool.and_self]
      walk_at "rd"
      have q':Qd (.v (.bool (decide (1<=k)&&(g3 i j k==1)))) U:=q
      by_cases hk:1<=k
      ·rw[if_pos (by simp;omega)]
       refine⟨i,j,rfl,_,k,rfl,?_⟩
       walk_at "rd"
       have ee:decide (((Int.gcd (Int.gcd i j:Nat) k:Nat):Int)=1)=(decide (1<=k)&&(g3 i j k==1)):=by
        unfold g3
        rw[decide_eq_true hk,Bool.true_and,Bool.eq_iff_iff];simp;omega
       rw[ee]
       exact q'
      ·rw[if_neg (by simp;omega)]
       rw[decide_eq_false hk] at q'
       exact q'
     ·rw[ea,e1,e2]
      simp only[Bool.and_false]
      walk_at "rd"
      have:isNum (.tuple [.int i,.int j,c])=false:=by cases c<;>first|rfl|exact absurd rfl (hn _)
      rw[this] at q
      exact q
    ·rw[ea,e1]
     simp only[Bool.and_false,Bool.false_and]
     walk_at "rd"
     have:isNum (.tuple [.int i,b,c])=false:=by cases b<;>first|rfl|exact absurd rfl (hn _)
     rw[this] at q
     exact q
   ·rw[ea]
    simp only[Bool.and_false,Bool.false_and]
    walk_at "rd"
    have:isNum (.tuple [a,b,c])=false:=by cases a<;>first|rfl|exact absurd rfl (hn _)
    rw[this] at q
    exact q
  ·rw[Bx hl] at q
   have:decide (((xs.length:Nat):Int)=3)=false:=by simp;omega
   rw[this]
   simp only[xor_false,↓reduceIte]
   exact q
 ·rw[e]
  rw[Br hn] at q
  walk_at "rd"
  exact q
theorem pick{P:PyData->Prop}{xs:List PyData}{i:Int}(h0:0<=i)(h1:i<(xs.length:Nat))(h:∀x∈xs,P x):∃d,atI xs i=some d/\P d:=let ⟨d,e,m⟩:=yi h0 h1;⟨d,e,h d m⟩
theorem Step.refl{a:Addr}(h:Bag U a):Step a U U:=⟨h,fun _ _=>rfl⟩
theorem FF{i:Int}(h1:-1048576<i)(h2:i<1048576):Sz 20 i:=Sz.of (by show i.natAbs<1048576;omega)
theorem zZ(h:qQ ds U Qd):kP {nx:=fun _ Y=>Qd (.v .none) Y,rt:=Qd} (aO ["","","","","",""] ds) U:=by
 obtain⟨a,rfl,hb,q⟩:=h
 unfold kP
 walk_at "rd"
 refine⟨a,4,rfl,⋯,⋯,hb,fun r0 ac h0 h1 s1=>?_⟩
 walk_at "rd"
 obtain⟨w,e,i,rfl,w0,w1⟩:=pick (P:=fun d=>∃i:Int,d = .int i/\4<=i/\i<=1000000) (xs:=[PyData.int 4,PyData.int 10,PyData.int 100,PyData.int 1000000]) h0 (by exact h1) (by
  intro x hx
  simp only[mem_cons,not_mem_nil,or_false] at hx
  rcases hx with rfl|rfl|rfl|rfl<;>exact⟨_,rfl,⋯,⋯⟩)
 rw[e]
 walk_at "rd"
 refine⟨a,i,rfl,∅,∅,s1.1,fun r1 ad h2 h3 s2=>?_⟩
 walk_at "rd"
 refine⟨divC ⋯ ⋯,a,i,rfl,∅,∅,s2.1,fun r2 db h4 h5 s3=>?_⟩
 walk_at "rd"
 refine⟨divC ⋯ ⋯,a,i-1,rfl,∅,∅,s3.1,fun r3 dL h6 h7 s4=>?_⟩
 walk_at "rd"
 refine⟨a,8,rfl,⋯,⋯,s4.1,fun r4 wv h8 h9 s5=>?_⟩
 walk_at "rd"
 have ef:i.fdiv 2=i / 2:=Int.fdiv_eq_ediv_of_nonneg _ ∅
 rw[ef]
 have za:Sz 20 (r1-i / 2):=FF ∅ ∅
 have zb:Sz 20 (r2-i / 2):=FF ∅ ∅
 have zc:Sz 20 (1+r3):=FF ∅ ∅
 have z0:Sz 20 0:=FF ∅ ∅
 have z1:Sz 20 1:=FF ∅ ∅
 obtain⟨d1,e1,i1,rfl,b1⟩:=pick (P:=fun d=>∃i:Int,d = .int i/\Sz 20 i) (xs:=[PyData.int (r1-i / 2),PyData.int (r1-i / 2),PyData.int (r1-i / 2),PyData.int (r1-i / 2),PyData.int (r1-i / 2),PyData.int (r1-i / 2),PyData.int (r1-i / 2),PyData.int 0]) h8 (by exact h9) (by
  intro x hx
  simp only[mem_cons,not_mem_nil,or_false] at hx
  rcases hx with rfl|rfl|rfl|rfl|rfl|rfl|rfl|rfl<;>exact⟨_,rfl,by assumption⟩)
 rw[e1]
 walk_at "rd"
 obtain⟨d2,e2,i2,rfl,b2⟩:=pick (P:=fun d=>∃i:Int,d = .int i/\Sz 20 i) (xs:=[PyData.int (r2-i / 2),PyData.int (r2-i / 2),PyData.int (r2-i / 2),PyData.int (r2-i / 2),PyData.int (r2-i / 2),PyData.int 0,PyData.int 0,PyData.int (r2-i / 2)]) h8 (by exact h9) (by
  intro x hx
  simp only[mem_cons,not_mem_nil,or_false] at hx
  rcases hx with rfl|rfl|rfl|rfl|rfl|rfl|rfl|rfl<;>exact⟨_,rfl,by assumption⟩)
 rw[e2]
 walk_at "rd"
 obtain⟨d3,e3,i3,rfl,b3,p3⟩:=pick (P:=fun d=>∃i:Int,d = .int i/\Sz 20 i/\0<i) (xs:=[PyData.int (1+r3),PyData.int (1+r3),PyData.int 1,PyData.int (1+r3),PyData.int 1,PyData.int (1+r3),PyData.int 1,PyData.int (1+r3)]) h8 (by exact h9) (by
  intro x hx
  simp only[mem_cons,not_mem_nil,or_false] at hx
  rcases hx with rfl|rfl|rfl|rfl|rfl|rfl|rfl|rfl<;>exact⟨_,rfl,by assumption,∅⟩)
 rw[e3]
 walk_at "rd"
 have n3:i3≠0:=by omega
 exact⟨i1,i2,i3,rfl,n3,b3.mono ⋯,q _ _ (hW _ _ n3) (mm n3 b1 b2 b3) (s1.trans (s2.trans (s3.trans (s4.trans s5))))⟩
end
noncomputable def o6:DTS:=
 (aP (cJ (dB (dOp (cq false) (au bF (ae (ag 0) (ae (dC (.int 2)) ao))) (dC (.int 0)))) (aY (dOp aA (iF (ae (dC (.int 2)) (ae (dC (.int 3)) (ae (dC (.int 5)) ao)))) (au bF (ae (ag 0) (ae (dC (.int 3)) ao))))) bM)
 (aP (bA (sQ [none] (Hf (ae (dC (.int 2)) (ae (dC (.int 31)) ao))) (az 0) (dB (dOp (OI true) (ag 0) (iF (ae (dC (.int 4)) (ae (dC (.int 9)) (ae (dC (.int 16)) (ae (dC (.int 25)) ao))))))) (ag 0)) (az 1))
 (aY (dOp aA (ag 1) (au bF (ae (ag 0) (ae (dC (.int 25)) ao)))))))
noncomputable def pN:DTS:=
 (aP (bA (iF (ae (dC .none) (ae (dC (.bool true)) (ae (dC (.bool false)) (ae (dC (.str "1")) (ae (dC (.str "")) (ae (rG (dC (.int 1))) (ae (dC (.int 0)) (ae (dC (.int 1)) (ae (Og (dC (.int 10)) (dC (.int 59))) (ae (bG ao) (ae (iF ao) (ae (iF (ae (dC (.int 0)) ao)) (ae (bG (ae (dC (.int 0)) (ae (dC (.int 0)) ao))) (ae (bG (ae (dC (.int 1)) (ae (dC (.int 0)) (ae (dC (.int 0)) ao)))) (ae (bG (ae (dC (.int 2)) (ae (dC (.int 0)) (ae (dC (.int 2)) ao)))) (ae (bG (ae (dC (.int 1)) (ae (dC (.bool true)) (ae (dC (.int 1)) ao)))) (ae (bG (ae (dC (.int 1)) (ae (dC (.int 1)) (ae (rG (dC (.int 1))) ao)))) (ae (iF (ae (dC (.int 1)) (ae (dC (.int 0)) (ae (dC (.int 1)) ao)))) (ae (bG (ae (dC (.int 1)) (ae (dC (.int 0)) ao))) (ae (dC (.str "a")) ao))))))))))))))))))))) (az 1))
 (aY (dOp aA (ag 1) (au bF (ae (ag 0) (ae (dC (.int 20)) ao))))))
noncomputable def l6:DTS:=
 (aP (bA (au qQ (ae (ag 0) ao)) (az 2))
 (aP (bA (au iA (ae (ag 1) (ae (ag 2) ao))) (az 3))
 (aP (cJ (dB (dOp (cq false) (ag 3) (dC (.int 0)))) (aY (bG (ae (ly (dC (.int 1)) (au bF (ae (ag 0) (ae (dC (.int 5)) ao)))) (ae (dC (.int 0)) (ae (dC (.int 1)) ao))))) bM)
 (aY (dIf (dB (dOp rGt (ag 3) (dC (.int 0)))) (ag 2) (au uY (ae (ag 2) ao)))))))
section
variable {U:Mu}{Qd:DK}{ds:List D}
theorem OF{lo:Int}{n:Nat}{x:PyData}(h:x∈pU lo n):∃i:Int,x = .int i/\lo<=i/\i<lo+n:=by
 unfold pU at h
 obtain⟨k,hk,rfl⟩:=List.mem_map.mp h
 have:=List.mem_range.mp hk
 exact⟨_,rfl,∅,∅⟩
def E3:PyData->Option PyData
 |.int i=>if HJ i then some (.int i) else none
 |_=>none
def DU:List PyData:=[2,3,5,6,7,8,10,11,12,13,14,15,17,18,19,20,21,22,23,24,26,27,28,29,30].map PyData.int
theorem in4(i:Int):(List.any [PyData.int 4,PyData.int 9,PyData.int 16,PyData.int 25] fun b=>PyData.eqv b (.int i))=(decide (i=4) || decide (i=9) || decide (i=16) || decide (i=25)):=by
 have ev:∀j:Int,PyData.eqv (.int j) (.int i)=decide (i=j):=fun j=>by rw[QM];simp[eq_comm]
 simp only[List.any_cons,List.any_nil,ev,Bool.or_false,Bool.or_assoc]
theorem Dv(h:yf ds U Qd):o6 {nx:=fun _ Y=>Qd (.v .none) Y,rt:=Qd} (aO ["",""] ds) U:=by
 obtain⟨a,rfl,hb,q⟩:=h
 unfold o6
 walk_at "rd"
 refine⟨a,2,rfl,⋯,⋯,hb,fun r0 ac h0 h1 s1=>?_⟩
 walk_at "rd"
 by_cases hr:r0=0
 ·rw[if_pos (by simpa using hr)]
  refine⟨a,3,rfl,⋯,⋯,s1.1,fun r1 ad h2 h3 s2=>?_⟩
  walk_at "rd"
  obtain⟨w,e,i,rfl,w0⟩:=pick (P:=fun d=>∃i:Int,d = .int i/\aH i) (xs:=[PyData.int 2,PyData.int 3,PyData.int 5]) h2 (by exact h3) (by
   intro x hx
   simp only[mem_cons,not_mem_nil,or_false] at hx
   rcases hx with rfl|rfl|rfl<;>exact⟨_,rfl,by unfold aH;omega⟩)
  rw[e]
  exact q _ _ w0 (s1.trans s2)
 ·rw[if_neg (by simpa using hr)]
  refine⟨⟨⋯,⋯,⋯,⋯⟩,⋯,fun p hp=>⟨fun i acc Y=>acc=((pU 2 29).take i).filterMap E3/\Y=aR ac p acc,⟨rfl,rfl⟩,?_,?_⟩⟩
  ·rintro i x acc Y hx hpa ⟨e0,e1⟩
   obtain⟨k,rfl,i0,i1⟩:=OF (mem_of_getElem? hx)
   refine⟨trivial,rfl,rfl,by show 0<=60;decide,?_⟩
   rw[in4]
   have i1':k<31:=by simpa using i1
   have e:E3 (.int k)=if HJ k then some (.int k) else none:=rfl
   have e2:HJ k = !(decide (k=4) || decide (k=9) || decide (k=16) || decide (k=25)):=by
    unfold HJ
    rw[decide_eq_true i0,decide_eq_true (show k<=30 by omega)]
    rfl
   have ft:((pU 2 29).take (i+1)).filterMap E3=((pU 2 29).take i).filterMap E3++(E3 (.int k)).toList:=RT hx
   rw[e,e2] at ft
   cases hh:(decide (k=4) || decide (k=9) || decide (k=16) || decide (k=25))
   ·rw[hh] at ft
    simp only[Bool.true_xor,Bool.not_false,↓reduceIte] at ft ⊢
    refine⟨hpa,?_,?_⟩
    ·rw[ft,e0];rfl
    ·rw[e1,we]
   ·rw[hh] at ft
    simp only[Bool.true_xor,Bool.not_true,↓reduceIte,false_eq_true] at ft ⊢
    refine⟨hpa,?_,e1⟩
    rw[ft,e0];simp
  rintro acc Y ⟨e0,e1⟩ _
  have ed:k6 Y p=ac:=by rw[e1];exact BF hp
  rw[ed]
  have e0':acc=DU:=by rw[e0];rfl
  rw[e0']
  refine⟨a,25,rfl,⋯,⋯,s1.1,fun r1 ad h2 h3 s2=>?_⟩
  walk_at "rd"
  obtain⟨w,e,i,rfl,w0⟩:=pick (P:=fun d=>∃i:Int,d = .int i/\aH i) (xs:=DU) h2 (by exact h3) (by
   intro x hx
   unfold DU at hx
   obtain⟨k,hk,rfl⟩:=List.mem_map.mp hx
   refine⟨_,rfl,?_⟩
   simp only[mem_cons,not_mem_nil,or_false] at hk
   unfold aH
   omega)
  rw[e]
  exact q _ _ w0 (s1.trans s2)
def ib:List PyData:=[.none,.bool true,.bool false,.str "1",.str "",.int (-1),.int 0,.int 1,.int (10 ^ Int.toNat 59),.tuple [],.list [],.list [.int 0],.tuple [.int 0,.int 0],.tuple [.int 1,.int 0,.int 0],.tuple [.int 2,.int 0,.int 2],.tuple [.int 1,.bool true,.int 1],.tuple [.int 1,.int 1,.int (-1)],.list [.int 1,.int 0,.int 1],.tuple [.int 1,.int 0],.str "a"]
noncomputable def rW:DSp:=fun ds U Q=>∃a:Addr,ds=[.m a]/\Bag U a/\∀d Y,d∈ib->Step a U Y->Q (.v d) Y
theorem Fc(h:rW ds U Qd):pN {nx:=fun _ Y=>Qd (.v .none) Y,rt:=Qd} (aO ["",""] ds) U:=by
 obtain⟨a,rfl,hb,q⟩:=h
 unfold pN
 walk_at "rd"
 refine⟨⟨⋯,⋯,⋯⟩,a,20,rfl,⋯,⋯,hb,fun r0 ac h0 h1 s1=>?_⟩
 walk_at "rd"
 obtain⟨d,e,m⟩:=yi (xs:=ib) h0 (by exact h1)
 unfold ib at e
 rw[e]
 exact q d _ m s1
noncomputable def kR:DSp:=fun ds U Q=>∃(a:Addr) (d:Int),ds=[.m a,.v (.int d)]/\aH d/\Bag U a/\∀x Y,Ok x->Bd 20 x->sg d x.a x.b=1->Step a U Y->Q (.v (dN x)) Y
theorem An(h:kR ds U Qd):l6 {nx:=fun _ Y=>Qd (.v .none) Y,rt:=Qd} (aO ["","","",""] ds) U:=by
 obtain⟨a,d,rfl,hd,hb,q⟩:=h
 unfold l6
 walk_at "rd"
 refine⟨a,rfl,hb,fun x ac ox bx s1=>?_⟩
 walk_at "rd"
 refine⟨d,x,rfl,hd,bx.mono ⋯,?_⟩
 walk_at "rd"
 have t:=nH d x.a x.b
 by_cases h0:sg d x.a x.b=0
 ·rw[if_pos (by simpa using h0)]
  refine⟨a,5,rfl,⋯,⋯,s1.1,fun r ad r0 r1 s2=>?_⟩
  walk_at "rd"
  have ok:Ok ⟨1+r,0,1⟩:=⟨by show (0:Int)<1;decide,by unfold g3;simp⟩
  refine q ⟨1+r,0,1⟩ ad ok ⟨FF (by show -1048576<1+r;omega) (by show 1+r<1048576;omega),FF (by show -1048576<(0:Int);decide) (by show (0:Int)<1048576;decide),FF (by show -1048576<(1:Int);decide) (by show (1:Int)<1048576;decide)⟩ ?_ (s1.trans s2)
  show sg d (1+r) 0=1
  unfold sg
  rw[if_neg ∅,if_pos ∅]
 ·rw[if_neg (by simpa using h0)]
  by_cases h1:0<sg d x.a x.b
  ·rw[if_pos (by simpa using h1)]
   exact q x ac ox bx ∅ s1
  ·rw[if_neg (by simpa using h1)]
   refine⟨x,rfl,?_⟩
   refine q (minus x) ac (Fj ox) (EZ bx) ?_ s1
   show sg d (-x.a) (-x.b)=1
   rw[zM hd]
   omega
end
section
variable {U:Mu}{Q:DK}{ds:List D}
noncomputable def zC:DSp:=fun ds U Q=>∃ns:List Int,ds=[.s ns]/\ns.length<=63/\∀Y,Q (.v (.bool true)) Y
theorem xF(h:el ds U Q):ds.length=1:=by obtain⟨_,rfl,_⟩:=h;rfl
theorem BC(h:pW ds U Q):ds.length=2:=by obtain⟨_,_,rfl,_⟩:=h;rfl
theorem Hr(h:zB ds U Q):ds.length=3:=by obtain⟨_,_,_,rfl,_⟩:=h;rfl
theorem yS(h:kQ ds U Q):ds.length=1:=by obtain⟨_,rfl,_⟩:=h;rfl
theorem uW(h:cM ds U Q):ds.length=3:=by obtain⟨_,_,_,rfl,_⟩:=h;rfl
theorem Gu(h:nL ds U Q):ds.length=1:=by obtain⟨_,rfl,_⟩:=h;rfl
theorem FP(h:uY ds U Q):ds.length=1:=by obtain⟨_,rfl,_⟩:=h;rfl
theorem zG(h:oY ds U Q):ds.length=2:=by obtain⟨_,_,rfl,_⟩:=h;rfl
theorem He(h:zy ds U Q):ds.length=2:=by obtain⟨_,_,rfl,_⟩:=h;rfl
theorem xC(h:cw ds U Q):ds.length=3:=by obtain⟨_,_,_,rfl,_⟩:=h;rfl
theorem pP(h:cK ds U Q):ds.length=2:=by obtain⟨_,_,rfl,_⟩:=h;rfl
theorem Hu(h:jK ds U Q):ds.length=3:=by obtain⟨_,_,_,rfl,_⟩:=h;rfl
theorem Ee(h:yg ds U Q):ds.length=3:=by obtain⟨_,_,_,rfl,_⟩:=h;rfl
theorem yw(h:iA ds U Q):ds.length=2:=by obtain⟨_,_,rfl,_⟩:=h;rfl
theorem Ji(h:Ii ds U Q):ds.length=2:=by obtain⟨_,_,rfl,_⟩:=h;rfl
theorem GW(h:bF ds U Q):ds.length=2:=by obtain⟨_,_,rfl,_⟩:=h;rfl
theorem A4(h:qQ ds U Q):ds.length=1:=by obtain⟨_,rfl,_⟩:=h;rfl
theorem D8(h:yf ds U Q):ds.length=1:=by obtain⟨_,rfl,_⟩:=h;rfl
theorem Jx(h:rW ds U Q):ds.length=1:=by obtain⟨_,rfl,_⟩:=h;rfl
theorem B4(h:kR ds U Q):ds.length=2:=by obtain⟨_,_,rfl,_⟩:=h;rfl
theorem Jh(h:zC ds U Q):ds.length=1:=by obtain⟨_,rfl,_⟩:=h;rfl
end
noncomputable def mB:DTS:=lM
theorem wA{U Qd ds}(h:el ds U Qd):mB {nx:=fun _ Y=>Qd (.v .none) Y,rt:=Qd} (aO [""] ds) U:=xI h
structure QK(K:PySem.W.Frag)(mg:Str->Option Value)(x:Str)(g:Addr)(a b c:Int):Prop where
 m:mg x=some (.ref g)
 l:∃(od:Option Addr) (n:Nat) (sl:Array (Option Value)) (t u v:Tok),K.lookup g=some ⟨.type "tuple",od,.seq #[.int a t,.int b u,.int c v] n,sl⟩
theorem fY{X:Cx}{x:Str}{g:Addr}{a b c:Int}{pos:Pos}(hg:Gl X x)(h:QK X.K X.mg x g a b c)(hd:(x==("__debug__":Str))=false:=by decide):DE X (.Name x pos) (dC (.tuple [.int a,.int b,.int c])):=by
 obtain⟨od,n,sl,t,u,v,e⟩:=h.l
 refine HF (u:=.ref g) hg h.m rfl (fun U H _=>Rp.tuple (xs:=[.int a,.int b,.int c]) (.inr ⟨_,_,_,e,rfl,rfl,(by show 3<=sizeLine;decide),.cons ⟨t,rfl⟩ (.cons ⟨u,rfl⟩ (.cons ⟨v,rfl⟩ .nil))⟩) (.cons (.int a) (.cons (.int b) (.cons (.int c) .nil)))) hd
theorem Jf{K:PySem.W.Frag}{H:Hp}{a:Addr}{ns:List Int}(hl:ns.length<=63)(hT:AD K H)(hS:SqL K H a (ns.map V.int)):spD K zC [.ref a] H (fun v _=>v = .bl true) fun _ _ _=>False:=by
 refine⟨[.s ns],fun _=>none,fun d _=>d = .v (.bool true),⟨fun a ds h=>(by cases h),hT⟩,.cons ⟨a,rfl,hS,rfl⟩ .nil,⟨ns,rfl,hl,fun _=>rfl⟩,fun d u Y H' _ _ r q=>?_⟩
 subst q
 cases r
 rfl
section
variable {U:Mu}{Q:DK}{ds:List D}{x y:N3}
theorem To(a b c:Int):PyData.tuple [.int a,.int b,.int c]=dN ⟨a,b,c⟩:=rfl
theorem QC:aA (.v (dN x)) (.v (.int 0)) U Q=Q (.v (.int x.a)) U:=by unfold dN;rw[FY]
theorem RO:aA (.v (dN x)) (.v (.int 1)) U Q=Q (.v (.int x.b)) U:=by unfold dN;rw[GZ]
theorem PB:aA (.v (dN x)) (.v (.int 2)) U Q=Q (.v (.int x.c)) U:=by unfold dN;rw[Gf]
theorem eqN:PyData.eqv (dN x) (dN y)=decide (x=y):=by
 unfold dN
 rw[Sx,Bool.eq_iff_iff]
 simp only[decide_eq_true_eq]
 exact⟨fun h=>N3.ext' h.1 h.2.1 h.2.2,fun h=>by subst h;exact⟨rfl,rfl,rfl⟩⟩
theorem Sh{neg:Bool}:cq neg (.v (dN x)) (.v (dN y)) U Q=Q (.v (.bool (neg ^^ decide (x=y)))) U:=by
 rw[MJ,eqN]
 exact propext ⟨fun h=>h.2.2,fun h=>⟨rfl,rfl,h⟩⟩
theorem qL(h:Ok x):isNum (dN x)=true:=by
 have:=h.c
 show (decide (1<=x.c)&&(g3 x.a x.b x.c==1))=true
 rw[h.g]
 simp;omega
theorem IA:Few (dN x):=by simp[dN,Few]
theorem P6{d a b c:Int}(h:aH d)(hc:0<c):sg d (low a b c).a (low a b c).b=sg d a b:=by
 obtain⟨k,hk,hs,p1,p2,p3,_⟩:=jG a b (show c≠0 by omega)
 have e:=qP (a:=(low a b c).a) (b:=(low a b c).b) h (hs.mpr hc)
 rw[<- p1,<- p2] at e
 exact e.symm
theorem zT{d:Int}(h:aH d)(ox:Ok x)(oy:Ok y):sg d (times d x y).a (times d x y).b=sg d x.a x.b*sg d y.a y.b:=by
 unfold times
 rw[P6 h (mul_pos ox.c oy.c),Ds h]
theorem Mo{d a b:Int}:(sg d a b).natAbs<2 ^ 64:=by have:=nH d a b;omega
theorem Pk{lo:Int}{n i:Nat}{x:PyData}(h:(pU lo n)[i]? = some x):x = .int (lo+i)/\i<n:=by
 unfold pU at h
 rw[getElem?_map] at h
 by_cases hi:i<n
 ·rw[List.getElem?_range hi] at h
  cases h
  exact⟨rfl,hi⟩
 ·rw[List.getElem?_eq_none (by simpa using hi)] at h
  cases h
theorem PK{lo:Int}{n:Nat}:(pU lo n).length=n:=by unfold pU;simp
theorem Nn(a:Int):Ok ⟨a,0,1⟩:=⟨by show (0:Int)<1;decide,by unfold g3;simp⟩
end
end L2.DL
namespace NM
inductive Euc:Nat->Nat->List Nat->Prop
 |nil (r:Nat):Euc r 0 []
 |cons {r s:Nat} {cs:List Nat}:0<s->Euc s (r % s) cs->Euc r s (r / s::cs)
theorem Euc.eq{r s:Nat}{cs cs':List Nat}(h:Euc r s cs):Euc r s cs'->cs=cs':=by
 induction h generalizing cs' with
 |nil r=>
  intro g
  cases g with
  |nil=>rfl
  |cons h _=>exact absurd h ⋯
 |cons hs _ ih=>
  intro g
  cases g with
  |nil=>exact absurd hs ⋯
  |cons _ g=>rw[ih g]
theorem GY:∀(n r s:Nat),s<=r->r*s<2 ^ n->∃cs,Euc r s cs/\cs.length<=n
 |0,r,s,h,hn=>by
  have:s=0:=by
   rcases Nat.eq_zero_or_pos s with z|z
   ·exact z
   ·have:=Nat.mul_le_mul (le_trans z h:1<=r) (z:1<=s)
    simp at hn this;omega
  subst this
  exact⟨[],.nil r,Nat.le_refl _⟩
 |n+1,r,s,h,hn=>by
  rcases Nat.eq_zero_or_pos s with z|z
  ·subst z;exact⟨[],.nil r,zero_le _⟩
  ·have hm:=mod_lt r z
   have h2:2*(r % s)<=r:=by
    have e:=Nat.div_add_mod r s
    have d1:1<=r / s:=Nat.div_pos h z
    have:=Nat.mul_le_mul_left s d1
    omega
   have hb:s*(r % s)<2 ^ n:=by
    have e1:2*(s*(r % s))=s*(2*(r % s)):=by rw[Nat.mul_left_comm]
    have e2:s*(2*(r % s))<=s*r:=Nat.mul_le_mul_left s h2
    rw[Nat.mul_comm r s,Nat.pow_succ] at hn
    omega
   obtain⟨cs,g,l⟩:=GY n s (r % s) (Nat.le_of_lt hm) hb
   exact⟨_,.cons z g,by simpa using l⟩
def Uq(d:Int)(u:N3)(i:Nat):N3:=times d u ⟨(i:Int),0,1⟩
section
variable {d:Int}{u:N3}{i j:Nat}
theorem Hk(i:Int):Ok ⟨i,0,1⟩:=⟨by show (0:Int)<1;decide,by show Int.gcd (Int.gcd i 0) 1=1;exact Int.gcd_one_right _⟩
theorem Ia(ou:Ok u):Ok (Uq d u i):=av ou (Hk i)
theorem OM{n m:Nat}(hd:Sz 5 d)(ou:Ok u)(bu:Bd n u)(hi:i<2 ^ m)(hm:1<=m):Bd (n+m+6) (Uq d u i):=by
 have p:2<=2 ^ m:=le_trans (by decide:2<=2 ^ 1) (Nat.pow_le_pow_right ⋯ hm)
 exact bJ hd ou (Hk i) bu ⟨Sz.of (by show (i:Int).natAbs<_;rw[Int.natAbs_natCast];exact hi),Sz.of (by show (0:Int).natAbs<_;simp;omega),Sz.of (by show (1:Int).natAbs<_;simp;omega)⟩
theorem Mk(ou:Ok u):Rep (Uq d u i) (u.a*i) (u.b*i) u.c:=by
 have h:=(aj ou).times (d:=d) ou (Hk i) (aj (Hk i))
 have e1:u.a*(i:Int)+d*u.b*0=u.a*i:=by rw[mul_zero,Int.add_zero]
 have e2:u.a*0+u.b*(i:Int)=u.b*i:=by rw[mul_zero,Int.zero_add]
 have h':Rep (Uq d u i) (u.a*(i:Int)+d*u.b*0) (u.a*0+u.b*(i:Int)) (u.c*1):=h
 rw[e1,e2,Int.mul_one] at h'
 exact h'
theorem Ga(hd:aH d)(ou:Ok u)(su:sg d u.a u.b=1)(h:0<i):sg d (Uq d u i).a (Uq d u i).b=1:=by
 unfold Uq
 rw[gO hd ou (Hk i),su]
 have:sg d (i:Int) 0=1:=(eZ hd).mpr (.inl ⟨∅,∅,∅⟩)
 rw[this];rfl
end
end NM
namespace L2.DL
open PySem PySem.Spec PyProof.Rows NM
local macro_rules|`(tactic| walk_at "rn")=>`(tactic| simp only[↓KG,↓M1,↓LW,↓Ha,↓KD,↓LZ,↓Kr,↓MC,↓Ly,↓L3,↓IF,↓q_c,↓Ru,↓q_B,↓Tw,↓O0,↓Pa,↓Hv,↓Pd,↓M4,↓Kb,↓ME,↓TC,↓IX,↓C3,↓Ms,↓KN,↓MG,↓LL,↓KJ,↓MU,↓Po,↓Pj,↓OX,↓OT,↓Hw,↓Kk,↓KW,↓FY,↓GZ,↓Gf,↓Mx,↓FU,↓BI,↓Pm,↓Pg,↓Pc,↓MM,↓KH,↓MH,↓L6,↓Sv,↓FD,↓MQ,↓O2,↓O8,↓RE,↓GH,↓Kv,↓KC,↓LX,↓O1,↓R5,↓Mh,↓Im,↓Ph,↓OQ,↓yk,↓MY,↓HY,↓Kz,↓Mi,↓Lw,↓O9,↓L0,↓Fl,↓Kw,↓Lu,↓Kh,↓IY,↓Mv,↓Pb,↓ON,↓Iq,↓LV,↓Fg,↓Jb,↓Fu,↓FV,↓ET,↓Fq,↓EE,↓OO,OJ,↓Kf,↓Cd,KR,Kl,O7,Pl,OV,Option.bind_none,bind_some,Option.join_some,List.getElem?_cons_zero,List.getElem?_cons_succ,aO,To,QC,RO,PB,Sh,rP,Ex,Eg,IZ,J7,List.map,List.append,List.replicate,length_cons,List.length_nil,Nat.reduceAdd,Nat.reduceSub,List.nil_append,List.cons_append,set_cons_zero,set_cons_succ,map_some,↓reduceIte,Bool.not_true,Bool.not_false,false_eq_true,Bool.true_eq_false,xor_false,false_xor])
def cf(d:Int):PyData->Bool
 |.tuple [.int a,.int b,.int c]=>isNum (.tuple [.int a,.int b,.int c])&&decide (sg d a b=1)
 |_=>false
noncomputable def jE:DSp:=fun ds U Q=>∃(d:Int) (t:PyData),ds=[.v (.int d),.v t]/\aH d/\Few t/\(∀x,t=dN x->Bd 8900 x)/\Q (.v (.bool (cf d t))) U
theorem Ce{U:Mu}{Q:DK}{ds:List D}(h:jE ds U Q):ds.length=2:=by obtain⟨_,_,rfl,_⟩:=h;rfl
noncomputable def fe:DSp:=fun ds U Q=>∃(d:Int) (x:N3),ds=[.v (.int d),.v (dN x)]/\aH d/\Ok x/\Bd 8900 x/\sg d x.a x.b=1/\Q (.v .none) U
theorem xT{U:Mu}{Q:DK}{ds:List D}(h:fe ds U Q):ds.length=2:=by obtain⟨_,_,rfl,_⟩:=h;rfl
noncomputable def nY:DSp:=fun ds U Q=>∃(a:Addr) (d:Int),ds=[.m a,.v (.int d)]/\aH d/\Bag U a/\∀t Y,Few t->(∀x,t=dN x->Bd 8900 x)->cf d t=false->Step a U Y->Q (.v t) Y
theorem zN{ds:List D}{U:Mu}{Q:DK}(h:nY ds U Q):ds.length=2:=by obtain⟨_,_,rfl,_⟩:=h;rfl
noncomputable def fR(a:Addr)(U Y:Mu):Prop:=Bag Y a/\∀b,b≠a->∀ds,U b=some ds->Y b=some ds
structure KindsOk(d:Int)(ks:List N3):Prop where
 l1:1<=ks.length
 l3:ks.length<=3
 ok:∀k∈ks,Ok k/\Bd 60 k/\sg d k.a k.b=1
noncomputable def u5:DSp:=fun ds U Q=>∃(a:Addr) (d:Int),ds=[.m a,.v (.int d)]/\aH d/\Bag U a/\∀ks Y,KindsOk d ks->fR a U Y->Q (.v (.tuple (ks.map dN))) Y
theorem CP{U:Mu}{Q:DK}{ds:List D}(h:u5 ds U Q):ds.length=2:=by obtain⟨_,_,rfl,_⟩:=h;rfl
structure Fr0(x:N3):Prop where
 ok:Ok x
 b:x.b=0
 a0:0<=x.a
 a1:x.a<16384
 c1:x.c<16384
noncomputable def uj:DSp:=fun ds U Q=>∃a:Addr,ds=[.m a]/\Bag U a/\∀x Y,Fr0 x->0<x.a->Step a U Y->Q (.v (dN x)) Y
theorem FH{U:Mu}{Q:DK}{ds:List D}(h:uj ds U Q):ds.length=1:=by obtain⟨_,rfl,_⟩:=h;rfl
noncomputable def gy:DTS:=
 (aY (lD (au kQ (ae (ag 1) ao)) (dOp (cq false) (au iA (ae (ag 0) (ae (ag 1) ao))) (dC (.int 1)))))
noncomputable def d9:DTS:=
 (cJ (dq (dB (au jE (ae (ag 0) (ae (ag 1) ao))))) vB bM)
noncomputable def l7:DTS:=
 (aP (bA (Bs (ae (au kR (ae (ag 0) (ae (ag 1) ao))) ao)) (az 2))
 (aP (Jo (DY (ae (au bF (ae (ag 0) (ae (dC (.int 3)) ao))) ao)) (az 3) (aP (bA (au bF (ae (ag 0) (ae (dC (.int 6)) ao))) (az 4))
 (aP (bA (bG (ae (ly (dC (.int 1)) (au bF (ae (ag 0) (ae (dC (.int 9)) ao)))) (ae (dC (.int 0)) (ae (ly (dC (.int 1)) (au bF (ae (ag 0) (ae (dC (.int 9)) ao)))) ao)))) (az 5))
 (aP (bA (dOp aA (iF (ae (dOp aA (ag 2) (dC (.int 0))) (ae (au cK (ae (ag 1) (ae (dOp aA (ag 2) (dC (.int 0))) ao))) ao))) (vy (ag 4) (dC (.int 2)))) (az 6))
 (aP (cJ (dB (dOp rGt (ag 4) (dC (.int 3)))) (bA (au kR (ae (ag 0) (ae (ag 1) ao))) (az 6)) (cJ (dB (dOp rGt (ag 4) (dC (.int 1)))) (bA (au cw (ae (ag 1) (ae (ag 6) (ae (au cM (ae (dOp aA (ag 5) (dC (.int 0))) (ae (dOp aA (ag 5) (dC (.int 1))) (ae (dOp aA (ag 5) (dC (.int 2))) ao)))) ao)))) (az 6)) bM))
 (pR (Jg (ag 2) (ag 6))))))))
 (aY (dCB lW (ae (ag 2) ao)))))
noncomputable def iO:DTS:=
 (aP (bA (dOp aA (iF (ae (dC (.int 2)) (ae (dC (.int 9)) (ae (dC (.int 9)) (ae (dC (.int 9999)) ao))))) (au bF (ae (ag 0) (ae (dC (.int 4)) ao)))) (az 1))
 (aY (au cM (ae (ly (dC (.int 1)) (au bF (ae (ag 0) (ae (ag 1) ao)))) (ae (dC (.int 0)) (ae (ly (dC (.int 1)) (au bF (ae (ag 0) (ae (ag 1) ao)))) ao))))))
noncomputable def ie:DTS:=
 (aP (bA (au kR (ae (ag 0) (ae (ag 1) ao))) (az 2))
 (aP (bA (iF (ae (au rW (ae (ag 0) ao)) (ae (au uY (ae (ag 2) ao)) (ae (bG (ae (dC (.int 0)) (ae (dC (.int 0)) (ae (dC (.int 1)) ao)))) (ae (bG (ae (cj (dOp aA (ag 2) (dC (.int 0))) (dC (.int 2))) (ae (cj (dOp aA (ag 2) (dC (.int 1))) (dC (.int 2))) (ae (cj (dOp aA (ag 2) (dC (.int 2))) (dC (.int 2))) ao)))) (ae (bG (ae (dOp aA (ag 2) (dC (.int 0))) (ae (dOp aA (ag 2) (dC (.int 1))) (ae (qD (dC (.int 0)) (dOp aA (ag 2) (dC (.int 2)))) ao)))) (ae (dCB sA (ae (ag 2) ao)) (ae (dSl (ag 2) ij (qM (dC (.int 2)))) (ae (dOp fV (ag 2) (bG (ae (dC (.int 1)) ao))) (ae (bG (ae (dOp aA (ag 2) (dC (.int 0))) (ae (dC .none) (ae (dOp aA (ag 2) (dC (.int 2))) ao)))) (ae (bG (ae (dC (.bool true)) (ae (dC (.int 0)) (ae (dC (.int 1)) ao)))) (ae (bG (ae (dC (.int 1)) (ae (dC (.int 0)) (ae (dC (.bool true)) ao)))) (ae (bG (ae (ag 2) ao)) ao))))))))))))) (az 3))
 (aY (dOp aA (ag 3) (au bF (ae (ag 0) (ae (dC (.int 12)) ao)))))))
section
variable {U:Mu}{Qd:DK}{ds:List D}
theorem SQ{x y:Int}(h:0<x*y)(hy:0<y):0<x:=by
 rcases Int.lt_trichotomy 0 x with z|z|z
 ·exact z
 ·rw[<- z,zero_mul] at h;omega
 ·have:=Int.mul_neg_of_neg_of_pos z hy;omega
theorem eX{d:Int}{x:N3}(ox:Ok x):cf d (dN x)=decide (sg d x.a x.b=1):=by
 show (isNum (dN x)&&decide (sg d x.a x.b=1))=_
 rw[qL ox,Bool.true_and]
theorem ff{d:Int}{t:PyData}(h:isNum t=false):cf d t=false:=by
 unfold cf
 split
 ·rw[h,Bool.false_and]
 ·rfl
theorem ej{t:PyData}(h:isNum t=true):∃x:N3,t=dN x/\Ok x:=by
 unfold isNum at h
 split at h
 ·rename_i a b c
  simp only[and_eq_true,decide_eq_true_eq,beq_iff_eq] at h
  exact⟨⟨a,b,c⟩,rfl,by show 0<c;omega,h.2⟩
 ·cases h
theorem tE(h:jE ds U Qd):gy {nx:=fun _ Y=>Qd (.v .none) Y,rt:=Qd} (aO ["",""] ds) U:=by
 obtain⟨d,t,rfl,hd,ft,bt,q⟩:=h
 unfold gy
 walk_at "rn"
 refine⟨t,rfl,ft,?_⟩
 walk_at "rn"
 cases e:isNum t with
 |true=>
  walk_at "rn"
  obtain⟨x,rfl,ox⟩:=ej e
  refine⟨d,x,rfl,hd,bt x rfl,?_⟩
  walk_at "rn"
  rw[eX ox] at q
  exact q
 |false=>
  walk_at "rn"
  rw[ff e] at q
  exact q
theorem mE(h:fe ds U Qd):d9 {nx:=fun _ Y=>Qd (.v .none) Y,rt:=Qd} (aO ["",""] ds) U:=by
 obtain⟨d,x,rfl,hd,ox,bx,hx,q⟩:=h
 unfold d9
 walk_at "rn"
 refine⟨d,dN x,rfl,hd,IA,fun y e=>?_,?_⟩
 ·have:y=x:=by
   simp only[dN,PyData.tuple.injEq,List.cons.injEq,PyData.int.injEq,and_true] at e
   exact N3.ext' e.1.symm e.2.1.symm e.2.2.symm
  rw[this];exact bx
 ·walk_at "rn"
  rw[eX ox,hx]
  simp only[decide_true,Bool.not_true,false_eq_true,↓reduceIte]
  exact q
theorem Fd{x:PyData}(h:SeqAt.shaped x=true):x.eqv x=true:=SeqAt.eqv_refl _ (SeqAt.canLay_of_shaped h)
theorem ne_str{U:Mu}{Qd:DK}{s:Str}(h:SeqAt.shaped (.str s)=true)(q:Qd (.v (.bool false)) U):cq true (.v (.str s)) (.v (.str s)) U Qd:=⟨h,h,by rw[Fd h];exact q⟩
theorem nU{x y:N3}(e:dN x=dN y):x=y:=by
 simp only[dN,PyData.tuple.injEq,List.cons.injEq,PyData.int.injEq,and_true] at e
 exact N3.ext' e.1 e.2.1 e.2.2
noncomputable def Nv(d:Int)(t:PyData):Prop:=Few t/\(∀x,t=dN x->Bd 8900 x)/\cf d t=false
theorem NI{d:Int}{t:PyData}(h:t∈ib):Nv d t:=by
 unfold ib at h
 simp only[mem_cons,not_mem_nil,or_false] at h
 rcases h with rfl|rfl|rfl|rfl|rfl|rfl|rfl|rfl|rfl|rfl|rfl|rfl|rfl|rfl|rfl|rfl|rfl|rfl|rfl|rfl
 all_goals
  refine⟨by simp[Few],?_,by first|rfl|exact ff nofun⟩
  (intro x e
   simp only[dN,PyData.tuple.injEq,List.cons.injEq,PyData.int.injEq,and_true,reduceCtorEq,false_and,and_false,List.nil_eq] at e
   try (obtain⟨e1,e2,e3⟩:=e;exact⟨Sz.of (by rw[<- e1];decide +kernel),Sz.of (by rw[<- e2];decide +kernel),Sz.of (by rw[<- e3];decide +kernel)⟩))
theorem Ig{d:Int}{x:N3}(b:Bd 8900 x)(h:cf d (dN x)=false):Nv d (dN x):=⟨IA,fun y e=>by rw[<- nU e];exact b,h⟩
theorem nB{d:Int}{t:PyData}(f:Few t)(h:∀x,t≠dN x)(n:isNum t=false):Nv d t:=⟨f,fun x e=>absurd e (h x),ff n⟩
theorem ue(h:nY ds U Qd):ie {nx:=fun _ Y=>Qd (.v .none) Y,rt:=Qd} (aO ["","","",""] ds) U:=by
 obtain⟨a,d,rfl,hd,hb,q⟩:=h
 unfold ie
 walk_at "rn"
 refine⟨a,d,rfl,hd,hb,fun x ac ox bx hx s1=>?_⟩
 walk_at "rn"
 refine⟨a,rfl,s1.1,fun o ad ho s2=>?_⟩
 have m2:∀z:Int,MulOk z 2:=fun z=>mulR ⋯
 refine⟨x,rfl,m2 _,m2 _,m2 _,?_⟩
 simp only[sA,dN]
 walk_at "rn"
 refine⟨⋯,a,12,rfl,⋯,⋯,s2.1,fun r db r0 r1 s3=>?_⟩
 walk_at "rn"
 have om:=Fj ox
 have b2:Bd 30 ⟨x.a*2,x.b*2,x.c*2⟩:=⟨(bx.a.mul (Sz.of (n:=2) ⋯)).mono ⋯,(bx.b.mul (Sz.of (n:=2) ⋯)).mono ⋯,(bx.c.mul (Sz.of (n:=2) ⋯)).mono ⋯⟩
 have bn:Bd 30 ⟨x.a,x.b,0-x.c⟩:=⟨bx.a.mono ⋯,bx.b.mono ⋯,by rw[show 0-x.c = -x.c by omega];exact bx.c.neg.mono ⋯⟩
 obtain⟨t,e,f1,f2,f3⟩:=pick (P:=Nv d) (xs:=[o,dN {a:=(minus x).a,b:=(minus x).b,c:=(minus x).c},dN {a:=0,b:=0,c:=1},
       dN {a:=x.a*2,b:=x.b*2,c:=x.c*2},dN {a:=x.a,b:=x.b,c:=0-x.c},
       PyData.list [PyData.int x.a,PyData.int x.b,PyData.int x.c],
       PyData.tuple (kS [PyData.int x.a,PyData.int x.b,PyData.int x.c] none (some 2)),
       PyData.tuple [PyData.int x.a,PyData.int x.b,PyData.int x.c,PyData.int 1],
       PyData.tuple [PyData.int x.a,PyData.none,PyData.int x.c],
       PyData.tuple [PyData.bool true,PyData.int 0,PyData.int 1],
       PyData.tuple [PyData.int 1,PyData.int 0,PyData.bool true],
       PyData.tuple [dN {a:=x.a,b:=x.b,c:=x.c}]]) r0 (by exact r1) (by
  intro u hu
  simp only[mem_cons,not_mem_nil,or_false] at hu
  rcases hu with rfl|rfl|rfl|rfl|rfl|rfl|rfl|rfl|rfl|rfl|rfl|rfl
  ·exact NI ho
  ·refine Ig ((EZ bx).mono ⋯) ?_
   have es:sg d (minus x).a (minus x).b = -1:=by show sg d (-x.a) (-x.b) = -1;rw[zM hd,hx]
   rw[show ({a:=(minus x).a,b:=(minus x).b,c:=(minus x).c}:N3)=minus x from rfl,eX om,es]
   decide
  ·refine Ig ⟨Sz.of nofun,Sz.of nofun,Sz.of nofun⟩ ?_
   rw[show dN ⟨0,0,1⟩=dN aE from rfl,eX bV,show sg d aE.a aE.b=0 from dm.mpr ⟨rfl,rfl⟩]
   decide
  ·refine Ig (b2.mono ⋯) (ff ?_)
   have g:=Hx x.a x.b x.c 2
   rw[ox.g] at g
   simp[dN,isNum,g]
  ·refine Ig (bn.mono ⋯) (ff ?_)
   have:=ox.c
   have h:¬ (1<=0-x.c):=by omega
   simp only[dN,isNum,decide_eq_false h,Bool.false_and]
  ·exact nB trivial (fun y e=>by cases e) rfl
  ·exact nB (by show 2<=1000;decide) (fun y e=>by have e2:PyData.tuple [PyData.int x.a,PyData.int x.b]=dN y:=e;simp[dN] at e2) rfl
  ·exact nB (by show 4<=1000;decide) (fun y e=>by simp[dN] at e) rfl
  ·exact nB (by show 3<=1000;decide) (fun y e=>by simp[dN] at e) rfl
  ·exact nB (by show 3<=1000;decide) (fun y e=>by simp[dN] at e) rfl
  ·exact nB (by show 3<=1000;decide) (fun y e=>by simp[dN] at e) rfl
  ·exact nB (by show 1<=1000;decide) (fun y e=>by simp[dN] at e) rfl)
 rw[e]
 exact q t _ f1 f2 f3 (s1.trans (s2.trans s3))
theorem fR.trans{a:Addr}{U ac ad:Mu}(h:fR a U ac)(g:fR a ac ad):fR a U ad:=⟨g.1,fun b n ds e=>g.2 b n ds (h.2 b n ds e)⟩
theorem Step.w{a:Addr}{U Y:Mu}(h:Step a U Y):fR a U Y:=⟨h.1,fun b n ds e=>by rw[h.2 b n];exact e⟩
noncomputable def E5(a p:Addr)(d:Int)(x:N3)(U:Mu)(i:Nat)(ρ:Rho)(Y:Mu):Prop:=∃(ks:List N3) (r3 r4 r5 r6:Option D),ρ=[some (.m a),some (.v (.int d)),some (.m p),r3,r4,r5,r6]/\Bag Y a/\(∀b,b≠a->∀ds,U b=some ds->Y b=some ds)/\Y p=some ((x::ks).map dN)/\ks.length=i/\(∀k∈x::ks,Ok k/\Bd 60 k/\sg d k.a k.b=1)
theorem AR(h:u5 ds U Qd):l7 {nx:=fun _ Y=>Qd (.v .none) Y,rt:=Qd} (aO ["","","","","","",""] ds) U:=by
 obtain⟨a,d,rfl,hd,hb,q⟩:=h
 have s5:=sI hd.1 hd.2.1
 unfold l7
 walk_at "rn"
 refine⟨a,d,rfl,hd,hb,fun x ac ox bx sx s1=>?_⟩
 walk_at "rn"
 intro p hp
 have hap:a≠p:=fun z=>by obtain⟨g,m,e,_⟩:=s1.1;rw[z,hp] at e;cases e
 have sb:Bag (aR ac p [dN x]) a:=by obtain⟨g,m,e,z⟩:=s1.1;exact⟨g,m,by rw[bZ hap];exact e,z⟩
 rw[HR]
 walk_at "rn"
 refine⟨a,3,rfl,⋯,⋯,sb,fun n ad n0 n1 s2=>?_⟩
 walk_at "rn"
 have keep2:∀b,b≠a->∀ds,U b=some ds->ad b=some ds:=fun b hb' ds e=>by
  have e1:=(s1.2 b hb').trans e
  have:b≠p:=fun z=>by rw[z,hp] at e1;cases e1
  rw[s2.2 b hb',bZ this];exact e1
 have hp2:ad p=some ([x].map dN):=by rw[s2.2 p (fun z=>hap z.symm)];exact aV
 refine⟨⟨∅,∅⟩,E5 a p d x U,⟨[],_,_,_,_,rfl,s2.1,keep2,hp2,rfl,fun k hk=>by rw[List.mem_singleton.mp hk];exact⟨ox,bx.mono ⋯,sx⟩⟩,?_,?_⟩
 ·rintro i v ρ db hv ⟨ks,r3,r4,r5,r6,rfl,hb3,kp,hpk,hl,hok⟩
  obtain⟨rfl,hi⟩:=Pk hv
  have hi2:i<2:=by omega
  walk_at "rn"
  refine⟨a,6,rfl,⋯,⋯,hb3,fun way dL w0 w1 s4=>?_⟩
  walk_at "rn"
  refine⟨a,9,rfl,⋯,⋯,s4.1,fun t wv t0 t1 s5'=>?_⟩
  walk_at "rn"
  refine⟨a,9,rfl,⋯,⋯,s5'.1,fun u lv u0 u1 s6=>?_⟩
  walk_at "rn"
  have s46:=s4.trans (s5'.trans s6)
  have hp6:lv p=some (dN x::ks.map dN):=by rw[s46.2 p (fun z=>hap z.symm)];exact hpk
  simp only[hp6]
  walk_at "rn"
  have nx:=bQ hd ox sx
  have ocx:=aC nx
  have bcx:=bE s5 nx bx
  refine⟨d,x,rfl,s5,nx,bx.mono ⋯,?_⟩
  walk_at "rn"
  obtain⟨m0,m1⟩:=mU way (show (0:Int)<2 by decide)
  obtain⟨_,e1,k1,rfl,ok1,bk1,sk1⟩:=pick (P:=fun v=>∃k,v=dN k/\Ok k/\Bd 46 k/\sg d k.a k.b=1) (xs:=[dN x,dN (ay d x)]) m0 (by exact m1) (by
   intro v hv
   simp only[mem_cons,not_mem_nil,or_false] at hv
   rcases hv with rfl|rfl
   ·exact⟨_,rfl,ox,bx.mono ⋯,sx⟩
   ·exact⟨_,rfl,ocx,bcx.mono ⋯,gJ hd ox sx⟩)
  rw[e1]
  refine⟨⋯,?_⟩
  walk_at "rn"
  have fin:∀(jp:Mu) (k:N3) (r3 r4 r5:Option D),Step a lv jp->Ok k->Bd 60 k->sg d k.a k.b=1->Jg (ag 2) (ag 6) [some (.m a),some (.v (.int d)),some (.m p),r3,r4,r5,some (.v (dN k))] jp (fun _ Y=>E5 a p d x U (i+1) [some (.m a),some (.v (.int d)),some (.m p),r3,r4,r5,some (.v (dN k))] Y):=fun jp k r3 r4 r5 s7 ok bk sk=>by
   have s47:=s46.trans s7
   have hp7:jp p=some (dN x::ks.map dN):=by rw[s47.2 p (fun z=>hap z.symm)];exact hpk
   walk_at "rn"
   simp only[hp7]
   refine⟨by simp;omega,ks++[k],_,_,_,_,rfl,?_,fun b hb' ds e=>?_,?_,by simp[hl],fun z hz=>?_⟩
   ·obtain⟨g,m,e,z⟩:=s47.1;exact⟨g,m,by rw[bZ hap];exact e,z⟩
   ·have h3:=kp b hb' ds e
    by_cases hbp:b=p
    ·subst hbp
     exfalso
     have e1:=(s1.2 b hb').trans e
     rw[hp] at e1;cases e1
    ·rw[bZ hbp,s47.2 b hb'];exact h3
   ·rw[aV];simp
   ·rcases List.mem_cons.mp hz with z'|z'
    ·exact hok z (by rw[z'];exact mem_cons_self)
    ·rcases List.mem_append.mp z' with z''|z''
     ·exact hok z (mem_cons_of_mem _ z'')
     ·rw[List.mem_singleton.mp z''];exact⟨ok,bk,sk⟩
  by_cases c1:3<way
  ·rw[if_pos (by simpa using c1)]
   refine⟨a,d,rfl,hd,s6.1,fun k jp ok bk sk s7=>?_⟩
   have:=fin jp k (some (.v (.int (0+(i:Int))))) (some (.v (.int way))) (some (.v (dN ⟨1+t,0,1+u⟩))) s7 ok (bk.mono ⋯) sk
   walk_at "rn"
   exact this
  ·rw[if_neg (by simpa using c1)]
   by_cases c2:1<way
   ·rw[if_pos (by simpa using c2)]
    have un:1+u≠0:=by omega
    have z4:∀v:Int,0<=v->v<9->Sz 4 (1+v):=fun v h1 h2=>Sz.of (by show (1+v).natAbs<16;omega)
    have op:=hW (1+t) 0 un
    have bp:Bd 4 (low (1+t) 0 (1+u)):=mm un (z4 t t0 t1) (Sz.of (by show (0:Int).natAbs<16;decide)) (z4 u u0 u1)
    have hp':sg d (low (1+t) 0 (1+u)).a (low (1+t) 0 (1+u)).b=1:=by
     rw[Io hd ∅]
     unfold sg
     rw[if_neg ∅,if_pos ∅]
    refine⟨_,_,_,rfl,un,(z4 u u0 u1).mono ⋯,d,k1,_,rfl,s5,ok1,op,bk1.mono ⋯,bp.mono ⋯,?_⟩
    exact fin lv _ _ _ _ (Step.refl s6.1) (av ok1 op) ((bJ s5 ok1 op bk1 bp).mono ⋯) (by rw[zT hd ok1 op,sk1,hp'];rfl)
   ·rw[if_neg (by simpa using c2)]
    exact fin lv k1 _ _ _ (Step.refl s6.1) ok1 (bk1.mono ⋯) sk1
 ·rintro ρ db ⟨ks,r3,r4,r5,r6,rfl,hb3,kp,hpk,hl,hok⟩
  rw[PK] at hl
  walk_at "rn"
  simp only[hpk]
  exact q (x::ks) db ⟨by simp,by simp;omega,hok⟩ ⟨hb3,kp⟩
theorem wH(h:uj ds U Qd):iO {nx:=fun _ Y=>Qd (.v .none) Y,rt:=Qd} (aO ["",""] ds) U:=by
 obtain⟨a,rfl,hb,q⟩:=h
 unfold iO
 walk_at "rn"
 refine⟨a,4,rfl,⋯,⋯,hb,fun r ac r0 r1 s1=>?_⟩
 walk_at "rn"
 obtain⟨_,e1,w,rfl,w0,w1⟩:=pick (P:=fun v=>∃w:Int,v = .int w/\2<=w/\w<=9999) (xs:=[.int 2,.int 9,.int 9,.int 9999]) r0 (by exact r1) (by
  intro v hv
  simp only[mem_cons,not_mem_nil,or_false] at hv
  rcases hv with rfl|rfl|rfl|rfl<;>exact⟨_,rfl,⋯,⋯⟩)
 rw[e1]
 walk_at "rn"
 refine⟨a,w,rfl,∅,∅,s1.1,fun t ad t0 t1 s2=>?_⟩
 walk_at "rn"
 refine⟨a,w,rfl,∅,∅,s2.1,fun u db u0 u1 s3=>?_⟩
 walk_at "rn"
 have un:1+u≠0:=by omega
 have z:∀v:Int,0<=v->v<w->Sz 14 (1+v):=fun v h1 h2=>Sz.of (by show (1+v).natAbs<16384;omega)
 refine⟨_,_,_,rfl,un,(z u u0 u1).mono ⋯,q _ db ?_ ?_ (s1.trans (s2.trans s3))⟩
 ·have r:=fN (a:=1+t) (b:=0) un
  have ok:=hW (1+t) 0 un
  obtain⟨l1,l2,l3⟩:=Lv (1+t) 0 un
  have hp:0<(low (1+t) 0 (1+u)).a:=by
   have e:=r.a
   have hc:=ok.c
   have:0<(low (1+t) 0 (1+u)).a*(1+u):=by rw[e];exact mul_pos ∅ hc
   exact SQ this ∅
  exact⟨ok,(by have:=l2;omega),∅,∅,by have:=ok.c;omega⟩
 ·have r:=fN (a:=1+t) (b:=0) un
  have ok:=hW (1+t) 0 un
  have e:=r.a
  have hc:=ok.c
  have:0<(low (1+t) 0 (1+u)).a*(1+u):=by rw[e];exact mul_pos ∅ hc
  exact SQ this ∅
theorem PJ{d:Int}{x y:N3}(hd:aH d)(ox:Ok x)(oy:Ok y)(hx:sg d x.a x.b=1)(hy:sg d y.a y.b=1):sg d (plus x y).a (plus x y).b=1:=Ov.pos hd (bW ox oy) (Jm ox oy) hx hy
end
def Kg(d:Int)(f g s:N3):N3:=low ((shA d f s).b*(shA d f g).c) 0 ((shA d f s).c*(shA d f g).b)
def TM(d:Int)(f g s:N3):N3:=less (shA d f s) (times d (Kg d f g s) (shA d f g))
noncomputable def um:DSp:=fun ds U Q=>∃(d:Int) (f g s:N3),ds=[.v (.int d),.v (dN f),.v (dN g),.v (dN s)]/\aH d/\Ok f/\f≠aE/\Ok g/\Ok s/\(∃n m p:Nat,Bd n f/\Bd m g/\Bd p s/\n<=2000/\m<=2000/\p<=2000/\(p+(2*n+12))+2*(m+(2*n+12))+6<=4300)/\(shA d f g).b≠0/\Q (.v (.tuple [dN (TM d f g s),dN (Kg d f g s)])) U
theorem Cb{U:Mu}{Q:DK}{ds:List D}(h:um ds U Q):ds.length=4:=by obtain⟨_,_,_,_,rfl,_⟩:=h;rfl
noncomputable def ng:DSp:=fun ds U Q=>∃(d:Int) (x:N3),ds=[.v (.int d),.v (dN x)]/\aH d/\Bd 8900 x/\Q (.v (.bool (aZ d x))) U
theorem AO{U:Mu}{Q:DK}{ds:List D}(h:ng ds U Q):ds.length=2:=by obtain⟨_,_,rfl,_⟩:=h;rfl
def pI(x:N3)(w:Int):N3:=if 0<w then less x (cL x) else plus x (cL x)
noncomputable def zq:DSp:=fun ds U Q=>∃(x:N3) (w:Int),ds=[.v (dN x),.v (.int w)]/\Ok x/\Bd 2100 x/\Q (.v (dN (pI x w))) U
theorem Hi{U:Mu}{Q:DK}{ds:List D}(h:zq ds U Q):ds.length=2:=by obtain⟨_,_,rfl,_⟩:=h;rfl
def xm(d:Int)(s:N3)(w:Int):Int:=sg d (pI s w).a (pI s w).b
def bLast(d:Int)(s:N3)(w:Int):N3:=times d (times d ⟨xm d s w,0,2⟩ (pI s w)) (ay d (cL s))
def Ih(d:Int)(k:N3)(w:Int):N3:=times d (times d (pI k w) (pI k w)) (ay d (times d ⟨4,0,1⟩ (times d k (cL k))))
def cU(d:Int)(k:N3):Int:=sg d (cL k).a (cL k).b
def QY(d:Int)(k s:N3):PyData:=
 if cU d s=cU d k then .tuple [dN one,.tuple [dN (times d (Ih d k (cU d k)) (ay d (bLast d s (cU d k)))),dN ⟨cU d k*xm d s (cU d k),0,1⟩,dN ⟨-xm d s (cU d k),0,1⟩,dN (bLast d s (cU d k))]]
 else .tuple [dN one,.tuple [dN aE,dN aE,dN aE,dN ⟨cU d k,0,1⟩]]
def Mg(d:Int)(k s:N3):PyData:=if eg d k s=true then .tuple [.str "mixture",dN (j8 d k s),dN (j7 d k s)] else .tuple [.str "bar",QY d k s]
structure BdM(d:Int)(k s:N3):Prop where
 big:Bd 1300 s
 low:eg d k s=false->Bd 1000 s
theorem BdM.of{d:Int}{k s:N3}{n:Nat}(h:Bd n s)(l:n<=1000):BdM d k s:=⟨h.mono ∅,fun _=>h.mono l⟩
noncomputable def tU:DSp:=fun ds U Q=>∃(d:Int) (k s:N3),ds=[.v (.int d),.v (dN k),.v (dN s)]/\aH d/\Ok k/\Bd 140 k/\sg d k.a k.b=1/\Ok s/\Bd 1000 s/\sg d s.a s.b=1/\eg d k s=false/\Q (.v (QY d k s)) U
theorem BQ{U:Mu}{Q:DK}{ds:List D}(h:tU ds U Q):ds.length=3:=by obtain⟨_,_,_,rfl,_⟩:=h;rfl
noncomputable def q9:DSp:=fun ds U Q=>∃(d:Int) (k s:N3),ds=[.v (.int d),.v (dN k),.v (dN s)]/\aH d/\Ok k/\Bd 140 k/\sg d k.a k.b=1/\Ok s/\BdM d k s/\sg d s.a s.b=1/\Q (.v (Mg d k s)) U
theorem AQ{U:Mu}{Q:DK}{ds:List D}(h:q9 ds U Q):ds.length=3:=by obtain⟨_,_,_,rfl,_⟩:=h;rfl
noncomputable def nR:DTS:=
 (aP (bA (au jK (ae (ag 0) (ae (ag 3) (ae (ag 1) ao)))) (az 4))
 (aP (bA (au jK (ae (ag 0) (ae (ag 2) (ae (ag 1) ao)))) (az 5))
 (aP (bA (au cM (ae (cj (dOp aA (ag 4) (dC (.int 1))) (dOp aA (ag 5) (dC (.int 2)))) (ae (dC (.int 0)) (ae (cj (dOp aA (ag 4) (dC (.int 2))) (dOp aA (ag 5) (dC (.int 1)))) ao)))) (az 6))
 (aP (bA (au zy (ae (ag 4) (ae (au cw (ae (ag 0) (ae (ag 6) (ae (ag 5) ao)))) ao))) (az 7))
 (aY (bG (ae (ag 7) (ae (ag 6) ao))))))))
noncomputable def qN:DTS:=
 (aY (lD (dOp (cq false) (dOp aA (ag 1) (dC (.int 1))) (dC (.int 0))) (dOp rGe (au iA (ae (ag 0) (ae (ag 1) ao))) (dC (.int 0)))))
noncomputable def Ct:DTS:=
 (aY (dIf (dB (dOp rGt (ag 1) (dC (.int 0)))) (au zy (ae (ag 0) (ae (au nL (ae (ag 0) ao)) ao))) (au oY (ae (ag 0) (ae (au nL (ae (ag 0) ao)) ao)))))
noncomputable def sS:DTS:=
 (aP (bA (au iA (ae (ag 0) (ae (au nL (ae (ag 1) ao)) ao))) (az 3))
 (aP (cJ (dB (dOp (cq true) (au iA (ae (ag 0) (ae (au nL (ae (ag 2) ao)) ao))) (ag 3))) (aY (bG (ae (dC (.tuple [.int 1,.int 0,.int 1])) (ae (bG (ae (dC (.tuple [.int 0,.int 0,.int 1])) (ae (dC (.tuple [.int 0,.int 0,.int 1])) (ae (dC (.tuple [.int 0,.int 0,.int 1])) (ae (bG (ae (ag 3) (ae (dC (.int 0)) (ae (dC (.int 1)) ao)))) ao))))) ao)))) bM)
 (aP (bA (au zq (ae (ag 1) (ae (ag 3) ao))) (az 4))
 (aP (bA (au zq (ae (ag 2) (ae (ag 3) ao))) (az 5))
 (aP (bA (au iA (ae (ag 0) (ae (ag 5) ao))) (az 6))
 (aP (bA (au jK (ae (ag 0) (ae (au cw (ae (ag 0) (ae (bG (ae (ag 6) (ae (dC (.int 0)) (ae (dC (.int 2)) ao)))) (ae (ag 5) ao)))) (ae (au nL (ae (ag 2) ao)) ao)))) (az 7))
 (aP (bA (au jK (ae (ag 0) (ae (au cw (ae (ag 0) (ae (ag 4) (ae (ag 4) ao)))) (ae (au cw (ae (ag 0) (ae (bG (ae (dC (.int 4)) (ae (dC (.int 0)) (ae (dC (.int 1)) ao)))) (ae (au cw (ae (ag 0) (ae (ag 1) (ae (au nL (ae (ag 1) ao)) ao)))) ao)))) ao)))) (az 8))
 (aY (bG (ae (dC (.tuple [.int 1,.int 0,.int 1])) (ae (bG (ae (au jK (ae (ag 0) (ae (ag 8) (ae (ag 7) ao)))) (ae (bG (ae (cj (ag 3) (ag 6)) (ae (dC (.int 0)) (ae (dC (.int 1)) ao)))) (ae (bG (ae (rG (ag 6)) (ae (dC (.int 0)) (ae (dC (.int 1)) ao)))) (ae (ag 7) ao))))) ao)))))))))))
noncomputable def lZ:DTS:=
 (aP (pR (au fe (ae (ag 0) (ae (ag 1) ao))))
 (aP (pR (au fe (ae (ag 0) (ae (ag 2) ao))))
 (aP (cJ (dB (dOp (cq false) (dOp aA (au cw (ae (ag 0) (ae (ag 1) (ae (ag 1) ao)))) (dC (.int 1))) (dC (.int 0)))) (bA (bG (ae (au jK (ae (ag 0) (ae (ag 2) (ae (ag 1) ao)))) (ae (dC (.tuple [.int 0,.int 0,.int 1])) ao))) (az 3)) (bA (au um (ae (ag 0) (ae (ag 1) (ae (au cK (ae (ag 0) (ae (ag 1) ao))) (ae (ag 2) ao))))) (az 3)))
 (aP (cJ (dB (dCB pG (ae (qH [none,some 0] (xE (ag 3)) (az 0) qc (au ng (ae (ag 1) (ae (ag 0) ao)))) ao))) (aY (bG (ae (dC (.str "mixture")) (ae (dOp aA (ag 3) (dC (.int 0))) (ae (dOp aA (ag 3) (dC (.int 1))) ao))))) bM)
 (aY (bG (ae (dC (.str "bar")) (ae (au tU (ae (ag 0) (ae (ag 1) (ae (ag 2) ao)))) ao))))))))
section
variable {U:Mu}{Qd:DK}{ds:List D}
theorem mI{d:Int}{x:N3}(h:sg d x.a x.b=1):x≠aE:=fun e=>by subst e;have:sg d aE.a aE.b=0:=dm.mpr ⟨rfl,rfl⟩;omega
theorem Dq(h:um ds U Qd):nR {nx:=fun _ Y=>Qd (.v .none) Y,rt:=Qd} (aO ["","","","","","","",""] ds) U:=by
 obtain⟨d,f,g,s,rfl,hd,of,nf,og,os,⟨n,m,p,bf,bg,bs,ln,lm,lp,lt⟩,hp,q⟩:=h
 have s5:=sI hd.1 hd.2.1
 have hn:=hd.norm of nf
 have oa:Ok (shA d f s):=en os hn
 have op:Ok (shA d f g):=en og hn
 have ba:Bd (p+(2*n+6)+6) (shA d f s):=bJ s5 os (aC hn) bs (bE s5 hn bf)
 have bp:Bd (m+(2*n+6)+6) (shA d f g):=bJ s5 og (aC hn) bg (bE s5 hn bf)
 unfold nR
 walk_at "rn"
 refine⟨d,s,f,rfl,hd,os,of,nf,bs.mono ∅,bf.mono ∅,?_⟩
 walk_at "rn"
 refine⟨d,g,f,rfl,hd,og,of,nf,bg.mono ∅,bf.mono ∅,?_⟩
 walk_at "rn"
 have hc:(shA d f s).c*(shA d f g).b≠0:=mul_ne_zero oa.cn hp
 have sc:=ba.c.mul bp.b
 have sb:=ba.b.mul bp.c
 refine⟨gU ba.b bp.c ∅,gU ba.c bp.b ∅,_,_,_,rfl,hc,sc.mono ∅,?_⟩
 have ov:Ok (Kg d f g s):=hW _ _ hc
 have bv:Bd (p+(2*n+6)+6+(m+(2*n+6)+6)) (Kg d f g s):=mm hc sb (sz0) sc
 walk_at "rn"
 refine⟨d,Kg d f g s,shA d f g,rfl,s5,ov,op,bv.mono ∅,bp.mono ∅,shA d f s,_,rfl,oa,av ov op,ba.mono ∅,(bJ s5 ov op bv bp).mono ∅,?_⟩
 exact q
theorem Fi(h:ng ds U Qd):qN {nx:=fun _ Y=>Qd (.v .none) Y,rt:=Qd} (aO ["",""] ds) U:=by
 obtain⟨d,x,rfl,hd,bx,q⟩:=h
 unfold qN
 walk_at "rn"
 unfold aZ at q
 cases e:decide (x.b=0) with
 |true=>
  rw[e,Bool.true_and] at q
  exact⟨d,x,rfl,hd,bx,q⟩
 |false=>
  rw[e,Bool.false_and] at q
  exact q
theorem Oz(h:zq ds U Qd):Ct {nx:=fun _ Y=>Qd (.v .none) Y,rt:=Qd} (aO ["",""] ds) U:=by
 obtain⟨x,w,rfl,ox,bx,q⟩:=h
 unfold Ct
 walk_at "rn"
 unfold pI at q
 by_cases hw:0<w
 ·rw[if_pos hw] at q
  rw[if_pos (by simpa using hw)]
  exact⟨x,rfl,x,cL x,rfl,ox,bB ox,bx.mono ⋯,(n9 bx).mono ⋯,q⟩
 ·rw[if_neg hw] at q
  rw[if_neg (by simpa using hw)]
  exact⟨x,rfl,x,cL x,rfl,ox,bB ox,bx.mono ⋯,(n9 bx).mono ⋯,q⟩
theorem rm{x:N3}{w:Int}(ox:Ok x):Ok (pI x w):=by
 unfold pI
 split
 ·exact nF ox (bB ox)
 ·exact bW ox (bB ox)
theorem _root_.NM.Rep.bd{x:N3}{A B C:Int}{n:Nat}(ox:Ok x)(r:Rep x A B C)(ha:Sz n A)(hb:Sz n B)(hc:Sz n C):Bd n x:=by
 have e:x=NM.low A B C:=ox.Q1 r.c r.a r.b
 rw[e]
 exact mm r.c ha hb hc
theorem MX{n:Nat}{i:Int}(h:Sz n i):Sz (n+1) (2*i):=by
 have:=h.add h
 rw[show i+i=2*i by omega] at this
 exact this
theorem IM{x:N3}{w:Int}{n:Nat}(ox:Ok x)(bx:Bd n x):Bd (n+1) (pI x w):=by
 unfold pI
 split
 ·have r:=Rep.less ox (bB ox) (aj ox) (aj (bB ox))
  have r2:Rep (less x (cL x)) 0 (2*x.b) x.c:=r.conv ox.cn (by show (x.a*x.c-x.a*x.c)*x.c=0*_;grind) (by show (x.b*x.c - -x.b*x.c)*x.c=2*x.b*(x.c*x.c);grind)
  exact r2.bd (nF ox (bB ox)) sz0 (MX bx.b) (bx.c.mono ∅)
 ·have r:=Rep.plus ox (bB ox) (aj ox) (aj (bB ox))
  have r2:Rep (plus x (cL x)) (2*x.a) 0 x.c:=r.conv ox.cn (by show (x.a*x.c+x.a*x.c)*x.c=2*x.a*(x.c*x.c);grind) (by show (x.b*x.c + -x.b*x.c)*x.c=0*_;grind)
  exact r2.bd (bW ox (bB ox)) (MX bx.a) sz0 (bx.c.mono ∅)
theorem QW{d:Int}{k:N3}(hd:aH d)(ok:Ok k)(hk:sg d k.a k.b=1):cU d k=sg d (norm d k) 0:=Oi hd ok hk
theorem Mr{d:Int}{k:N3}(hd:aH d)(ok:Ok k)(hk:sg d k.a k.b=1):(cU d k=1/\0<norm d k)\/(cU d k = -1/\norm d k<0):=by
 have hn:=bQ hd ok hk
 rw[QW hd ok hk,M6,if_neg hn]
 by_cases h:0<norm d k
 ·rw[if_pos h];exact .inl ⟨rfl,h⟩
 ·rw[if_neg h];exact .inr ⟨rfl,∅⟩
theorem Od{d:Int}{k s:N3}(hd:aH d)(ok:Ok k)(hk:sg d k.a k.b=1)(os:Ok s)(hs:sg d s.a s.b=1)(hm:eg d k s=false)(hw:cU d s=cU d k):pI s (cU d k)≠aE:=fun e=>by
 have hl:¬ Lay d k s:=fun z=>by rw[(BZ hd ok os hk hs).mpr z] at hm;cases hm
 rcases Mr hd ok hk with ⟨w1,n1⟩|⟨w1,n1⟩<;>rcases Mr hd os hs with ⟨w2,n2⟩|⟨w2,n2⟩
 ·rw[w1] at e
  unfold pI at e
  rw[if_pos ⋯] at e
  have r:=Rep.less os (bB os) (aj os) (aj (bB os))
  rw[e] at r
  have rb:=r.b
  have h0:s.b*(cL s).c-(cL s).b*s.c=0:=by
   have e1:aE.b=0:=rfl
   have e2:aE.c=1:=rfl
   rw[e1,e2] at rb;omega
  have h1:s.b*s.c - -s.b*s.c=0:=h0
  have h2:s.b*s.c=0:=by rw[Int.neg_mul] at h1;omega
  have h3:s.b=0:=(Int.mul_eq_zero.mp h2).resolve_right os.cn
  refine hl (.inl ⟨n1,n2,?_⟩)
  rw[h3,zero_mul,zero_mul]
  exact mul_nonneg (sq_nonneg _) (sq_nonneg _)
 ·rw[w1,w2] at hw;exact absurd hw ⋯
 ·rw[w1,w2] at hw;exact absurd hw ⋯
 ·rw[w1] at e
  unfold pI at e
  rw[if_neg ⋯] at e
  have r:=Rep.plus os (bB os) (aj os) (aj (bB os))
  rw[e] at r
  have ra:=r.a
  have h0:s.a*(cL s).c+(cL s).a*s.c=0:=by
   have e1:aE.a=0:=rfl
   have e2:aE.c=1:=rfl
   rw[e1,e2] at ra;omega
  have h1:s.a*s.c+s.a*s.c=0:=h0
  have h2:s.a*s.c=0:=by omega
  have h3:s.a=0:=(Int.mul_eq_zero.mp h2).resolve_right os.cn
  refine hl (.inr ⟨n1,n2,?_⟩)
  rw[h3,zero_mul,zero_mul]
  exact mul_nonneg (sq_nonneg _) (sq_nonneg _)
theorem HX{d:Int}{x:N3}(ox:Ok x)(h:x≠aE):sg d x.a x.b=1\/sg d x.a x.b = -1:=by
 rcases nH d x.a x.b with z|z|z
 ·exfalso
  obtain⟨h1,h2⟩:=dm.mp z
  have g:=ox.g
  rw[h1,h2] at g
  have hc:=ox.c
  refine h (N3.ext' h1 h2 ?_)
  show x.c=1
  simp[g3] at g
  omega
 ·exact .inl z
 ·exact .inr z
theorem vt{d:Int}{x y:N3}(hd:aH d)(ox:Ok x)(oy:Ok y)(hx:x≠aE)(hy:y≠aE):times d x y≠aE:=fun e=>by
 have h:=gO hd ox oy
 rw[e] at h
 have z:sg d aE.a aE.b=0:=dm.mpr ⟨rfl,rfl⟩
 rw[z] at h
 rcases HX (d:=d) ox hx with a|a<;>rcases HX (d:=d) oy hy with b|b<;>rw[a,b] at h<;>exact absurd h ⋯
theorem Qo{d:Int}{x:N3}(hd:aH d)(ox:Ok x)(hx:x≠aE):ay d x≠aE:=fun e=>by
 have hn:=hd.norm ox hx
 have t:=iw ox hn
 rw[e] at t
 have h:=gO hd ox bV
 rw[t,show sg d aE.a aE.b=0 from dm.mpr ⟨rfl,rfl⟩,Iv] at h
 simp at h
theorem ya{x:N3}(hx:x≠aE):cL x≠aE:=fun e=>hx (by
 have h1:x.a=0:=congrArg N3.a e
 have h2:-x.b=0:=congrArg N3.b e
 have h3:x.c=1:=congrArg N3.c e
 exact N3.ext' h1 (show x.b=0 by omega) h3)
theorem rj{t:Int}(h:t=1\/t = -1):Ok ⟨t,0,2⟩:=by
 rcases h with rfl|rfl
 ·exact⟨⋯,⋯⟩
 ·exact⟨⋯,⋯⟩
theorem Ir{t:Int}(h:t=1\/t = -1):Bd 3 ⟨t,0,2⟩:=⟨Sz.of (by show t.natAbs<8;omega),Sz.of (by show (0:Int).natAbs<8;decide),Sz.of (by show (2:Int).natAbs<8;decide)⟩
theorem OK{t:Int}(h:t=1\/t = -1):(⟨t,0,2⟩:N3)≠aE:=fun e=>by
 have:(2:Int)=1:=congrArg N3.c e
 exact absurd this ⋯
structure LastOk(d:Int)(s:N3)(w:Int):Prop where
 ok:Ok (bLast d s w)
 bd:Bd 2090 (bLast d s w)
 ne:bLast d s w≠aE
theorem C5{n:Nat}{d:Int}{s:N3}{w:Int}(hd:Sz 5 d)(os:Ok s)(bs:Bd n s)(nm:norm d (cL s)≠0){t:Int}(ht:t=1\/t = -1):Bd (2*n+10) (times d (times d ⟨t,0,2⟩ (pI s w)) (ay d (cL s))):=by
 have oh:=rj ht
 have of:=rm (w:=w) os
 have oc:=aC nm
 have o1:=av (d:=d) oh of
 have hmc:(cL s).c=s.c:=rfl
 have hma:(cL s).a=s.a:=rfl
 have hmb:(cL s).b = -s.b:=rfl
 have nn:norm d (cL s)=norm d s:=Jp
 have hN:Sz (2*n+6) (norm d s):=yd hd bs
 have tb:t.natAbs=1:=by omega
 have st:∀{k:Nat} {i:Int},Sz k i->Sz k (t*i):=fun h=>h.le (by rw[natAbs_mul,tb];omega)
 unfold pI at *
 split
 ·have r0:=Rep.less os (bB os) (aj os) (aj (bB os))
  have r2:Rep (less s (cL s)) 0 (2*s.b) s.c:=r0.conv os.cn (by show (s.a*s.c-s.a*s.c)*s.c=0*_;grind) (by show (s.b*s.c - -s.b*s.c)*s.c=2*s.b*(s.c*s.c);grind)
  have olm:=nF os (bB os)
  have r3:=Rep.times (d:=d) (av (d:=d) oh olm) oc (Rep.times (d:=d) oh olm (aj oh) r2) ((aj (bB os)).ay (d:=d) (bB os) nm)
  have r4:Rep (times d (times d ⟨t,0,2⟩ (less s (cL s))) (ay d (cL s))) (t*(d*s.b*s.b)) (t*(s.b*s.a)) (norm d s):=by
   refine r3.conv (by rw[<- nn];exact nm) ?_ ?_
   ·show ((t*0+d*0*(2*s.b))*(s.c*s.a)+d*(t*(2*s.b)+0*0)*(-s.c * -s.b))*norm d s=t*(d*s.b*s.b)*(2*s.c*(s.a*s.a-d * -s.b * -s.b))
    unfold norm;grind
   ·show ((t*0+d*0*(2*s.b))*(-s.c * -s.b)+(t*(2*s.b)+0*0)*(s.c*s.a))*norm d s=t*(s.b*s.a)*(2*s.c*(s.a*s.a-d * -s.b * -s.b))
    unfold norm;grind
  refine r4.bd (av (av oh olm) oc) (st ?_) (st ?_) (hN.mono ∅)
  ·exact ((hd.mul bs.b).mul bs.b).mono ∅
  ·exact (bs.b.mul bs.a).mono ∅
 ·have r0:=Rep.plus os (bB os) (aj os) (aj (bB os))
  have r2:Rep (plus s (cL s)) (2*s.a) 0 s.c:=r0.conv os.cn (by show (s.a*s.c+s.a*s.c)*s.c=2*s.a*(s.c*s.c);grind) (by show (s.b*s.c + -s.b*s.c)*s.c=0*_;grind)
  have olm:=bW os (bB os)
  have r3:=Rep.times (d:=d) (av (d:=d) oh olm) oc (Rep.times (d:=d) oh olm (aj oh) r2) ((aj (bB os)).ay (d:=d) (bB os) nm)
  have r4:Rep (times d (times d ⟨t,0,2⟩ (plus s (cL s))) (ay d (cL s))) (t*(s.a*s.a)) (t*(s.a*s.b)) (norm d s):=by
   refine r3.conv (by rw[<- nn];exact nm) ?_ ?_
   ·show ((t*(2*s.a)+d*0*0)*(s.c*s.a)+d*(t*0+0*(2*s.a))*(-s.c * -s.b))*norm d s=t*(s.a*s.a)*(2*s.c*(s.a*s.a-d * -s.b * -s.b))
    unfold norm;grind
   ·show ((t*(2*s.a)+d*0*0)*(-s.c * -s.b)+(t*0+0*(2*s.a))*(s.c*s.a))*norm d s=t*(s.a*s.b)*(2*s.c*(s.a*s.a-d * -s.b * -s.b))
    unfold norm;grind
  refine r4.bd (av (av oh olm) oc) (st ?_) (st ?_) (hN.mono ∅)
  ·exact (bs.a.mul bs.a).mono ∅
  ·exact (bs.a.mul bs.b).mono ∅
theorem N9{d:Int}{s:N3}{w:Int}(hd:aH d)(os:Ok s)(bs:Bd 1000 s)(ns:s≠aE)(hk:pI s w≠aE):LastOk d s w:=by
 have s5:=sI hd.1 hd.2.1
 have of:=rm (w:=w) os
 have ht:xm d s w=1\/xm d s w = -1:=HX of hk
 have nm:=hd.norm (bB os) (ya ns)
 have oc:=aC nm
 have o1:=av (d:=d) (rj ht) of
 exact⟨av o1 oc,(C5 s5 os bs nm ht).mono ⋯,vt hd o1 oc (vt hd (rj ht) of (OK ht) hk) (Qo hd (bB os) (ya ns))⟩
theorem Hj(h:tU ds U Qd):sS {nx:=fun _ Y=>Qd (.v .none) Y,rt:=Qd} (aO ["","","","","","","","",""] ds) U:=by
 obtain⟨d,k,s,rfl,hd,ok,bk,hk,os,bs,hs,hm,q⟩:=h
 have s5:=sI hd.1 hd.2.1
 have nk:=bQ hd ok hk
 have ns:=mI hs
 unfold sS
 walk_at "rn"
 refine⟨k,rfl,d,cL k,rfl,hd,(n9 bk).mono ⋯,?_⟩
 walk_at "rn"
 refine⟨s,rfl,d,cL s,rfl,hd,(n9 bs).mono ⋯,?_⟩
 unfold QY at q
 by_cases hw:cU d s=cU d k
 ·rw[if_pos hw] at q
  have hw':sg d (cL s).a (cL s).b=sg d (cL k).a (cL k).b:=hw
  walk_at "rn"
  rw[if_neg (by rw[hw'];simp)]
  have of:=rm (w:=cU d k) os
  have bf:=IM (w:=cU d k) os bs
  have oo:=rm (w:=cU d k) ok
  have bo:=IM (w:=cU d k) ok bk
  have hf:=Od hd ok hk os hs hm hw
  have ht:xm d s (cU d k)=1\/xm d s (cU d k) = -1:=HX of hf
  have L:=N9 (w:=cU d k) hd os bs ns hf
  refine⟨k,cU d k,rfl,ok,bk.mono ⋯,?_⟩
  walk_at "rn"
  refine⟨s,cU d k,rfl,os,bs.mono ⋯,?_⟩
  walk_at "rn"
  refine⟨d,_,rfl,hd,bf.mono ⋯,?_⟩
  walk_at "rn"
  have o1:=av (d:=d) (rj ht) of
  have b1:=bJ s5 (rj ht) of (Ir ht) bf
  refine⟨d,⟨xm d s (cU d k),0,2⟩,pI s (cU d k),rfl,s5,rj ht,of,(Ir ht).mono ⋯,bf.mono ⋯,s,rfl,d,_,cL s,rfl,hd,o1,bB os,ya ns,b1.mono ⋯,(n9 bs).mono ⋯,?_⟩
  walk_at "rn"
  have o2:=av (d:=d) oo oo
  have b2:=bJ s5 oo oo bo bo
  have o3:=av (d:=d) ok (bB ok)
  have b3:=bJ s5 ok (bB ok) bk (n9 bk)
  have n3:times d k (cL k)≠aE:=vt hd ok (bB ok) (mI hk) (ya (mI hk))
  have o4:Ok ⟨4,0,1⟩:=Nn 4
  have b4:Bd 4 ⟨4,0,1⟩:=⟨Sz.of ⋯,Sz.of ⋯,Sz.of ⋯⟩
  have o5:=av (d:=d) o4 o3
  have b5:=bJ s5 o4 o3 b4 b3
  have n5:times d ⟨4,0,1⟩ (times d k (cL k))≠aE:=vt hd o4 o3 (fun e=>absurd (congrArg N3.a e) ⋯) n3
  refine⟨d,_,_,rfl,s5,oo,oo,bo.mono ⋯,bo.mono ⋯,k,rfl,d,k,cL k,rfl,s5,ok,bB ok,bk.mono ⋯,(n9 bk).mono ⋯,d,⟨4,0,1⟩,_,rfl,s5,o4,o3,b4.mono ⋯,b3.mono ⋯,d,_,_,rfl,hd,o2,o5,n5,b2.mono ⋯,b5.mono ⋯,?_⟩
  walk_at "rn"
  have nn5:=hd.norm o5 n5
  have ob:Ok (Ih d k (cU d k)):=av o2 (aC nn5)
  have bb:Bd 1902 (Ih d k (cU d k)):=(bJ s5 o2 (aC nn5) b2 (bE s5 nn5 b5)).mono ⋯
  refine⟨d,Ih d k (cU d k),bLast d s (cU d k),rfl,hd,ob,L.ok,L.ne,bb.mono ⋯,L.bd.mono ⋯,?_⟩
  refine⟨mulR Mo,?_⟩
  exact q
 ·rw[if_neg hw] at q
  have hw':¬ sg d (cL s).a (cL s).b=sg d (cL k).a (cL k).b:=hw
  walk_at "rn"
  rw[if_pos (by simpa using hw')]
  exact q
structure SJ(d:Int)(k s:N3)(n:Nat):Prop where
 ou:Ok (j8 d k s)
 ov:Ok (j7 d k s)
 bu:Bd n (j8 d k s)
 bv:Bd n (j7 d k s)
theorem PD{d:Int}{k s:N3}{n m:Nat}(hd:aH d)(ok:Ok k)(bk:Bd n k)(hk:sg d k.a k.b=1)(os:Ok s)(bs:Bd m s):SJ d k s ((m+(2*n+6)+6)+((m+(2*n+6)+6)+((2*n+6)+(2*n+6)+6)+((2*n+6)+(2*n+6)+6)+6)+1):=by
 have s5:=sI hd.1 hd.2.1
 have hn:=bQ hd ok hk
 have oc:=aC hn
 have bc:=bE s5 hn bk
 have oa:=en (s:=s) os hn
 have ba:Bd (m+(2*n+6)+6) (shA d k s):=bJ s5 os oc bs bc
 have op:=zr (k:=k) hn
 have bp:Bd ((2*n+6)+(2*n+6)+6) (prt d k):=bJ s5 oc oc bc bc
 refine⟨wC ok os hn,wa ok os hn,?_,?_⟩
 ·unfold j8
  split
  ·exact ba.mono ∅
  ·rename_i hl
   have h':k.a*k.b≠0:=fun z=>hl ((dM ok).mpr z)
   have hc:(shA d k s).c*(prt d k).b≠0:=mul_ne_zero oa.cn (EV ok hn (aj ok) h')
   have bv:Bd ((m+(2*n+6)+6)+((2*n+6)+(2*n+6)+6)) (shV d k s):=mm hc (ba.b.mul bp.c) sz0 (ba.c.mul bp.b)
   have ov:=wd ok os hn h'
   exact (Nm oa (av ov op) ba (bJ s5 ov op bv bp)).mono ∅
 ·unfold j7
  split
  ·exact⟨Sz.of (by show (0:Int).natAbs<_;exact Nat.pos_of_ne_zero (by simp)),Sz.of (by show (0:Int).natAbs<_;exact Nat.pos_of_ne_zero (by simp)),Sz.of (by show (1:Int).natAbs<_;exact Nat.one_lt_two_pow ∅)⟩
  ·rename_i hl
   have h':k.a*k.b≠0:=fun z=>hl ((dM ok).mpr z)
   have hc:(shA d k s).c*(prt d k).b≠0:=mul_ne_zero oa.cn (EV ok hn (aj ok) h')
   exact (mm hc (ba.b.mul bp.c) sz0 (ba.c.mul bp.b)).mono ∅
def J6(d:Int):PyData->Option PyData
 |.tuple [.int a,.int b,.int c]=>some (.bool (aZ d ⟨a,b,c⟩))
 |_=>none
theorem As(h:q9 ds U Qd):lZ {nx:=fun _ Y=>Qd (.v .none) Y,rt:=Qd} (aO ["","","",""] ds) U:=by
 obtain⟨d,k,s,rfl,hd,ok,bk,hk,os,bm,hs,q⟩:=h
 have bs:=bm.big
 have s5:=sI hd.1 hd.2.1
 have nk:=bQ hd ok hk
 have M:=PD (s:=s) hd ok bk hk os bs
 unfold lZ
 walk_at "rn"
 refine⟨d,k,rfl,hd,ok,bk.mono ⋯,hk,d,s,rfl,hd,os,bs.mono ⋯,hs,d,k,k,rfl,s5,ok,ok,bk.mono ⋯,bk.mono ⋯,?_⟩
 walk_at "rn"
 by_cases hl:(times d k k).b=0
 ·rw[if_pos (by simpa using hl)]
  have bu:=M.bu
  have bv:=M.bv
  unfold Mg at q
  rw[o8 hl] at bu q
  rw[o7 hl] at bv q
  refine⟨d,s,k,rfl,hd,os,ok,mI hk,bs.mono ⋯,bk.mono ⋯,?_⟩
  refine⟨(by show 2<=1000;decide),J6 d,fun x hx ad h2=>⟨⟨trivial,trivial⟩,?_⟩,?_⟩
  ·simp only[mem_cons,not_mem_nil,or_false] at hx
   rcases hx with rfl|rfl
   ·exact⟨d,_,rfl,hd,bu.mono ⋯,rfl,rfl⟩
   ·exact⟨d,_,rfl,hd,bv.mono ⋯,rfl,rfl⟩
  ·show (if List.all [aZ d (shA d k s),aZ d aE] id=true then _ else _)
   have e3:List.all [aZ d (shA d k s),aZ d aE] id=eg d k s:=by simp[eg,o8 hl,o7 hl]
   rw[e3]
   cases hm:eg d k s with
   |true=>
    rw[hm,if_pos rfl] at q
    exact q
   |false=>
    rw[hm,if_neg ⋯] at q
    exact⟨d,k,s,rfl,hd,ok,bk,hk,os,bm.low hm,hs,hm,q⟩
 ·rw[if_neg (by simpa using hl)]
  have h':k.a*k.b≠0:=fun z=>hl ((dM ok).mpr z)
  have bu:=M.bu
  have bv:=M.bv
  unfold Mg at q
  rw[rY hl] at bu q
  rw[rS hl] at bv q
  refine⟨d,k,rfl,s5,nk,bk.mono ⋯,d,k,ay d k,s,rfl,hd,ok,mI hk,aC nk,os,⟨140,2*140+6,1300,bk,bE s5 nk bk,bs,⋯,⋯,⋯,⋯⟩,EV ok nk (aj ok) h',?_⟩
  refine⟨(by show 2<=1000;decide),J6 d,fun x hx ad h2=>⟨⟨trivial,trivial⟩,?_⟩,?_⟩
  ·simp only[mem_cons,not_mem_nil,or_false] at hx
   rcases hx with rfl|rfl
   ·exact⟨d,_,rfl,hd,bu.mono ⋯,rfl,rfl⟩
   ·exact⟨d,_,rfl,hd,bv.mono ⋯,rfl,rfl⟩
  ·show (if List.all [aZ d (shU d k s),aZ d (shV d k s)] id=true then _ else _)
   have e3:List.all [aZ d (shU d k s),aZ d (shV d k s)] id=eg d k s:=by simp[eg,rY hl,rS hl]
   rw[e3]
   cases hm:eg d k s with
   |true=>
    rw[hm,if_pos rfl] at q
    exact q
   |false=>
    rw[hm,if_neg ⋯] at q
    exact⟨d,k,s,rfl,hd,ok,bk,hk,os,bm.low hm,hs,hm,q⟩
end
structure wY(d:Int)(ks:List N3):Prop where
 l1:1<=ks.length
 l3:ks.length<=3
 ok:∀k∈ks,Ok k/\Bd 140 k/\sg d k.a k.b=1
theorem KindsOk.wide{d:Int}{ks:List N3}(h:KindsOk d ks):wY d ks:=⟨h.l1,h.l3,fun k hk=>⟨(h.ok k hk).1,(h.ok k hk).2.1.mono ⋯,(h.ok k hk).2.2⟩⟩
noncomputable def lQ:DSp:=fun ds U Q=>∃(d:Int) (ks:List N3),ds=[.v (.int d),.v (.tuple (ks.map dN))]/\aH d/\1<=ks.length/\ks.length<=3/\(∀k∈ks,Ok k/\Bd 140 k/\sg d k.a k.b=1)/\Q (.v .none) U
theorem xN{U:Mu}{Q:DK}{ds:List D}(h:lQ ds U Q):ds.length=2:=by obtain⟨_,_,rfl,_⟩:=h;rfl
noncomputable def OR(d:Int)(t:PyData):Prop:=Few t/\∀x,t=dN x->Bd 8900 x
def KT(d:Int):PyData->Prop
 |.tuple xs=>xs.length<=1000/\(xs.length<=3->∀x∈xs,OR d x)
 |_=>True
def tF(d:Int):PyData->Bool
 |.tuple xs=>decide (1<=xs.length)&&(decide (xs.length<=3)&&xs.all (cf d))
 |_=>false
noncomputable def qG:DSp:=fun ds U Q=>∃(d:Int) (t:PyData),ds=[.v (.int d),.v t]/\aH d/\KT d t/\Q (.v (.bool (tF d t))) U
theorem B0{U:Mu}{Q:DK}{ds:List D}(h:qG ds U Q):ds.length=2:=by obtain⟨_,_,rfl,_⟩:=h;rfl
noncomputable def uN:XSp:=fun ds U Xk=>∃(d:Int) (t:PyData),ds=[.v (.int d),.v t]/\aH d/\KT d t/\tF d t=false/\Xk U
theorem Am{ds:List D}{U:Mu}{Xk:Mu->Prop}(h:uN ds U Xk):ds.length=2:=by obtain⟨_,_,rfl,_⟩:=h;rfl
noncomputable def nI:DSp:=fun ds U Q=>∃(a:Addr) (d:Int) (ks:List N3),ds=[.m a,.v (.int d),.v (.tuple (ks.map dN))]/\aH d/\KindsOk d ks/\Bag U a/\∀t Y,KT d t->tF d t=false->Step a U Y->Q (.v t) Y
theorem zS{U:Mu}{Q:DK}{ds:List D}(h:nI ds U Q):ds.length=3:=by obtain⟨_,_,_,rfl,_⟩:=h;rfl
noncomputable def qa:DTS:=
 (aP (cJ (ku (dq (dB (rF "tuple" (ag 1)))) (ku (dB (dOp rLt (dCB dH (ae (ag 1) ao)) (dC (.int 1)))) (dB (dOp rGt (dCB dH (ae (ag 1) ao)) (dC (.int 3)))))) (aY (dC (.bool false))) bM)
 (aY (dCB pG (ae (qH [none,some 0] (xE (ag 1)) (az 0) qc (au jE (ae (ag 1) (ae (ag 0) ao)))) ao))))
noncomputable def i8:DTS:=
 (cJ (dq (dB (au qG (ae (ag 0) (ae (ag 1) ao))))) vB bM)
noncomputable def dr:DTX:=
 (xIf (dq (dB (au qG (ae (ag 0) (ae (ag 1) ao))))) (fun _ U Xk=>Xk U) Ll)
noncomputable def gW(ea:Addr):DTS:=
 (aP (bA (iF (ae (bG (ae (dC (.str "NoRoot")) (ae (nJ ea false (ag 1)) ao))) (ae (bG (ae (dC (.str "NoNumber")) (ae (nJ ea false (ag 1)) ao))) (ae (bG (ae (dC (.str "NoLaying")) (ae (nJ ea false (ag 1)) ao))) (ae (bG (ae (dC (.str "NoTile")) (ae (nJ ea false (ag 1)) ao))) (ae (bG (ae (dC (.str "NoFit")) (ae (nJ ea false (ag 1)) ao))) (ae (bG (ae (dC (.str "NoKinds")) (ae (nJ ea true (ag 1)) ao))) (ae (bG (ae (dC (.str "NoPlan")) (ae (nJ ea false (ag 1)) ao))) (ae (bG (ae (dC (.str "NoSpot")) (ae (nJ ea false (ag 1)) ao))) (ae (bG (ae (dC (.str "NoNet")) (ae (nJ ea false (ag 1)) ao))) (ae (bG (ae (dC (.str "NoText")) (ae (nJ ea false (ag 1)) ao))) (ae (bG (ae (dC (.str "NoSaying")) (ae (nJ ea false (ag 1)) ao))) (ae (bG (ae (dC (.str "NoName")) (ae (nJ ea false (ag 1)) ao))) (ae (bG (ae (dC (.str "TooMany")) (ae (nJ ea false (ag 1)) ao))) ao)))))))))))))) (az 2))
 (aP (bA (sQ [none,none] (oK (ag 2)) (rM 2 (eY (az 0) (eY (az 1) uQ))) (dB (ag 1)) (ag 0)) (az 3))
 (aP (cJ (j0 (dB (dOp (cq false) (dCB dH (ae (ag 3) ao)) (dC (.int 1)))) (dB (nJ ea true (ag 1)))) (aY (dOp aA (ag 3) (dC (.int 0)))) bM)
 (aY (dC (.str "several"))))))
noncomputable def iB:DTS:=
 (aP (bA (au bF (ae (ag 0) (ae (dCB dH (ae (ag 2) ao)) ao))) (az 3))
 (aP (bA (au bF (ae (ag 0) (ae (dC (.int 8)) ao))) (az 4))
 (aP (cJ (dB (dOp rLt (ag 4) (dC (.int 5)))) (aY (dOp fV (dOp fV (dSl (ag 2) ij (qM (ag 3))) (bG (ae (au nY (ae (ag 0) (ae (ag 1) ao))) ao))) (dSl (ag 2) (qM (dOp fV (ag 3) (dC (.int 1)))) ij))) bM)
 (aY (dOp aA (iF (ae (bG ao) (ae (dSl (dOp fV (dOp fV (dOp fV (ag 2) (ag 2)) (ag 2)) (ag 2)) ij (qM (dOp fV (dC (.int 4)) (ag 3)))) (ae (dCB sA (ae (ag 2) ao)) ao)))) (qD (ag 4) (dC (.int 5))))))))
section
variable {U:Mu}{Qd:DK}{ds:List D}
theorem mG{U:Mu}{Qd:DK}{ea fa:Addr}(q:Qd (.v (.str "NoKinds")) U):gW ea {nx:=fun _ _=>False,rt:=Qd} [some (.o fa),some (.o ea),none,none] U:=by
 unfold gW
 simp only[↓Fl,↓Lw,↓KN,↓Ms,↓C3,↓IX,↓q_c,↓K8,↓LL,↓KJ,↓yk,map_some,set_cons_zero,set_cons_succ]
 refine KP (ns:=[("NoRoot",false),("NoNumber",false),("NoLaying",false),("NoTile",false),("NoFit",false),("NoKinds",true),("NoPlan",false),("NoSpot",false),("NoNet",false),("NoText",false),("NoSaying",false),("NoName",false),("TooMany",false)]) rfl ⋯ ?_
 simp only[↓yk,↓Fl,set_cons_zero,set_cons_succ,map_cons,List.map_nil,filterMap_cons,List.filterMap_nil,Ka,false_eq_true,↓reduceIte]
 simp only[↓Kh,↓Hv,↓q_B,↓Ru,↓RE,↓C3,↓IX,↓Ha,↓GH,↓q_c,↓MU,↓K8,↓Kw,↓Hw,List.getElem?_cons_zero,List.getElem?_cons_succ,length_cons,List.length_nil]
 exact q
theorem PZ{xs:List PyData}(g:PyData->Bool):bY (xs.filterMap fun x=>some (.bool (g x)))=some (xs.map g):=by
 induction xs with
 |nil=>rfl
 |cons x xs ih=>
  rw[filterMap_cons]
  show bY (PyData.bool (g x)::_)=_
  unfold bY
  rw[ih]
  rfl
theorem Es(h:qG ds U Qd):qa {nx:=fun _ Y=>Qd (.v .none) Y,rt:=Qd} (aO ["",""] ds) U:=by
 obtain⟨d,t,rfl,hd,kt,q⟩:=h
 unfold qa
 walk_at "rn"
 rcases CM t with ⟨xs,rfl,e⟩|⟨hn,e⟩
 ·rw[e]
  walk_at "rn"
  have q':Qd (.v (.bool (decide (1<=xs.length)&&(decide (xs.length<=3)&&xs.all (cf d))))) U:=q
  by_cases h1:((xs.length:Nat):Int)<1
  ·rw[if_pos (by simpa using h1)]
   rw[decide_eq_false (show ¬ 1<=xs.length by omega),Bool.false_and] at q'
   exact q'
  ·rw[if_neg (by simpa using h1)]
   by_cases h3:(3:Int)<((xs.length:Nat):Int)
   ·rw[if_pos (by simpa using h3)]
    rw[decide_eq_false (show ¬ xs.length<=3 by omega),Bool.false_and,Bool.and_false] at q'
    exact q'
   ·rw[if_neg (by simpa using h3)]
    rw[decide_eq_true (show 1<=xs.length by omega),decide_eq_true (show xs.length<=3 by omega),Bool.true_and,Bool.true_and] at q'
    refine⟨∅,fun x=>some (.bool (cf d x)),fun x hx Y hs=>⟨⟨trivial,trivial⟩,?_⟩,?_⟩
    ·have p:=kt.2 ∅ x hx
     exact⟨d,x,rfl,hd,p.1,p.2,rfl,rfl⟩
    ·rw[PZ]
     dsimp only
     rw[all_map]
     exact q'
 ·rw[e]
  walk_at "rn"
  have:tF d t=false:=by cases t<;>first|rfl|exact absurd rfl (hn _)
  rw[this] at q
  exact q
theorem JW{d:Int}{ks:List N3}(h:wY d ks):tF d (.tuple (ks.map dN))=true:=by
 show (decide (1<=(ks.map dN).length)&&(decide ((ks.map dN).length<=3)&&(ks.map dN).all (cf d)))=true
 rw[length_map,decide_eq_true h.l1,decide_eq_true h.l3,Bool.true_and,Bool.true_and,all_map,List.all_eq_true]
 intro k hk
 obtain⟨ok,_,sk⟩:=h.ok k hk
 show cf d (dN k)=true
 rw[eX ok,sk]
 rfl
theorem Sf{d:Int}{ks:List N3}(h:wY d ks):KT d (.tuple (ks.map dN)):=by
 refine⟨by rw[length_map];have:=h.l3;omega,fun _ x hx=>?_⟩
 obtain⟨k,hk,rfl⟩:=List.mem_map.mp hx
 exact⟨IA,fun y e=>by rw[<- nU e];exact (h.ok k hk).2.1.mono ⋯⟩
theorem w5(h:lQ ds U Qd):i8 {nx:=fun _ Y=>Qd (.v .none) Y,rt:=Qd} (aO ["",""] ds) U:=by
 obtain⟨d,ks,rfl,hd,l1,l3,hk,q⟩:=h
 have ho:wY d ks:=⟨l1,l3,hk⟩
 unfold i8
 walk_at "rn"
 refine⟨d,_,rfl,hd,Sf ho,?_⟩
 rw[JW ho]
 exact q
theorem lz{Xk:Mu->Prop}(h:uN ds U Xk):dr (aO ["",""] ds) U Xk:=by
 obtain⟨d,t,rfl,hd,kt,hf,q⟩:=h
 unfold dr
 rw[R9]
 walk_at "rn"
 refine⟨d,t,rfl,hd,kt,?_⟩
 rw[hf]
 exact q
theorem HU{α:Type}(xs:List α)(lo hi:Option Int):(kS xs lo hi).length<=xs.length:=by
 unfold kS
 rw[length_take,List.length_drop]
 omega
theorem IK{xs:List PyData}{lo hi:Option Int}{x:PyData}(h:x∈kS xs lo hi):x∈xs:=by
 unfold kS at h
 exact List.mem_of_mem_drop (List.mem_of_mem_take h)
theorem IW{d:Int}{ks:List N3}(ho:KindsOk d ks){x:PyData}(h:x∈ks.map dN):OR d x:=by
 obtain⟨k,hk,rfl⟩:=List.mem_map.mp h
 exact⟨IA,fun y e=>by rw[<- nU e];exact (ho.ok k hk).2.1.mono ⋯⟩
theorem MW{d:Int}{xs:List PyData}(h:3<xs.length)(h2:xs.length<=1000):KT d (.tuple xs)/\tF d (.tuple xs)=false:=by
 refine⟨⟨h2,fun z=>absurd z ∅⟩,?_⟩
 show (decide (1<=xs.length)&&(decide (xs.length<=3)&&xs.all (cf d)))=false
 rw[decide_eq_false (show ¬ xs.length<=3 by omega),Bool.false_and,Bool.and_false]
theorem T8{ks:List PyData}{r:Int}(l1:1<=ks.length)(l3:ks.length<=3)(r0:0<=r)(r1:r<(ks.length:Nat)):3<(kS (ks++ks++ks++ks) none (some (4+r))).length:=by
 have hr:r=0\/r=1\/r=2:=by omega
 match ks,l1,l3 with
 |[a],_,_=>rcases hr with rfl|rfl|rfl<;>first|(simp at r1;done)|exact (by decide:3<4)
 |[a,b],_,_=>rcases hr with rfl|rfl|rfl<;>first|(simp at r1;done)|exact (by decide:3<4)|exact (by decide:3<5)
 |[a,b,c],_,_=>rcases hr with rfl|rfl|rfl<;>first|exact (by decide:3<4)|exact (by decide:3<5)|exact (by decide:3<6)
theorem u4(h:nI ds U Qd):iB {nx:=fun _ Y=>Qd (.v .none) Y,rt:=Qd} (aO ["","","","",""] ds) U:=by
 obtain⟨a,d,ks,rfl,hd,ho,hb,q⟩:=h
 have l1:=ho.l1
 have l3:=ho.l3
 unfold iB
 walk_at "rn"
 rw[length_map]
 refine⟨a,_,rfl,∅,∅,hb,fun r ac r0 r1 s1=>?_⟩
 walk_at "rn"
 refine⟨a,8,rfl,⋯,⋯,s1.1,fun w ad w0 w1 s2=>?_⟩
 walk_at "rn"
 by_cases hw:w<5
 ·rw[if_pos (by simpa using hw)]
  refine⟨a,d,rfl,hd,s2.1,fun t db t1 t2 t3 s3=>?_⟩
  walk_at "rn"
  have L:∀lo hi:Option Int,(kS (List.map dN ks) lo hi).length<=3:=fun lo hi=>le_trans (HU _ lo hi) (by rw[length_map];exact l3)
  have c1:=L none (some r)
  have c2:=L (some (r+1)) none
  refine⟨∅,by simp;omega,?_⟩
  refine q _ _ ⟨by simp;omega,fun _ x hx=>?_⟩ ?_ (s1.trans (s2.trans s3))
  ·rcases List.mem_append.mp hx with hx|hx
   ·rcases List.mem_append.mp hx with hx|hx
    ·exact IW ho (IK hx)
    ·cases List.mem_singleton.mp hx
     exact⟨t1,t2⟩
   ·exact IW ho (IK hx)
  ·have e:(kS (List.map dN ks) none (some r)++[t]++kS (List.map dN ks) (some (r+1)) none).all (cf d)=false:=by
    rw[List.all_append,List.all_append]
    show ((_&&(cf d t&&true))&&_)=false
    rw[t3,Bool.false_and,Bool.and_false,Bool.false_and]
   show (_&&(_&&_))=false
   rw[e,Bool.and_false,Bool.and_false]
 ·rw[if_neg (by simpa using hw)]
  have e4:(List.map dN ks++List.map dN ks++List.map dN ks++List.map dN ks).length<=12:=by simp;omega
  have b4:=MW (d:=d) (T8 (ks:=List.map dN ks) (r:=r) (by rw[length_map];exact l1) (by rw[length_map];exact l3) r0 (by rw[length_map];exact r1)) (le_trans (HU _ none (some (4+r))) ∅)
  refine⟨∅,by simp;omega,by simp;omega,?_⟩
  have hw3:w=5\/w=6\/w=7:=by omega
  rcases hw3 with rfl|rfl|rfl
  ·exact q _ _ ⟨⋯,fun _ x hx=>nomatch hx⟩ rfl (s1.trans s2)
  ·exact q _ _ b4.1 b4.2 (s1.trans s2)
  ·exact q _ _ trivial rfl (s1.trans s2)
end
def jM(cs:List Nat):List PyData:=cs.map fun c=>.int (c:Nat)
noncomputable def wk:DSp:=fun ds U Q=>∃(p q:Nat) (cs:List Nat),ds=[.v (dN ⟨p,0,q⟩)]/\p<2 ^ 480/\q<2 ^ 480/\Euc (max p q) (min p q) cs/\cs.length<=960/\∀a Y,U a=none->pQ U Y->Y a=some (jM cs)->Q (.m a) Y
theorem A6{ds:List D}{U:Mu}{Q:DK}(h:wk ds U Q):ds.length=1:=by obtain⟨_,_,_,rfl,_⟩:=h;rfl
noncomputable def uI:DSp:=fun ds U Q=>∃(p q:Nat) (cs:List Nat),ds=[.v (dN ⟨p,0,q⟩)]/\p<2 ^ 480/\q<2 ^ 480/\Euc (max p q) (min p q) cs/\cs.length<=960/\Q (.v (.list (jM cs))) U
theorem Bc{ds:List D}{U:Mu}{Qd:DK}(h:uI ds U Qd):wk ds U (frz U Qd):=by
 obtain⟨p,q,cs,rfl,h1,h2,h,l,k⟩:=h
 exact⟨p,q,cs,rfl,h1,h2,h,l,fun a Y n s e=>⟨⟨n,s⟩,_,e,k⟩⟩
noncomputable def yp:DSp:=fun ds U Q=>∃x:N3,ds=[.v (dN x)]/\∀t,Q (.v t) U
theorem ES{ds:List D}{U:Mu}{Q:DK}(h:yp ds U Q):ds.length=1:=by obtain⟨_,rfl,_⟩:=h;rfl
structure Me(d:Int)(w h:N3):Prop where
 rt:aH d
 ow:Ok w
 oh:Ok h
 bw:Bd 60 w
 bh:Bd 60 h
 sw:sg d w.a w.b=1
 sh:sg d h.a h.b=1
def shp(d:Int)(w h:N3):N3:=times d h (ay d w)
structure Om(d:Int)(w h:N3)(p q:Nat)(cs:List Nat):Prop where
 e:shp d w h=⟨p,0,q⟩
 p0:0<p
 q0:0<q
 pb:p<2 ^ 192
 qb:q<2 ^ 192
 g:Euc (max p q) (min p q) cs
 l:cs.length<=400
noncomputable def yK:DSp:=fun ds U Q=>∃(d:Int) (w h:N3) (p q:Nat) (cs:List Nat),ds=[.v (.int d),.v (dN w),.v (dN h)]/\Me d w h/\Om d w h p q cs/\Q (.v (.tuple [.str "squares",.list (jM cs)])) U
theorem Hz{ds:List D}{U:Mu}{Q:DK}(h:yK ds U Q):ds.length=3:=by obtain⟨_,_,_,_,_,_,rfl,_⟩:=h;rfl
noncomputable def qp:DSp:=fun ds U Q=>∃(p q:Nat) (cs:List Nat),ds=[.v (.int (q:Nat)),.v (.int (p:Nat))]/\p<2 ^ 480/\q<2 ^ 480/\Euc (max p q) (min p q) cs/\cs.length<=960/\∀a Y,U a=none->pQ U Y->Y a=some (jM cs)->Q (.m a) Y
theorem xQ{ds:List D}{U:Mu}{Q:DK}(h:qp ds U Q):ds.length=2:=by obtain⟨_,_,_,rfl,_⟩:=h;rfl
noncomputable def sv:DSp:=fun ds U Q=>∃(p q:Nat) (cs:List Nat),ds=[.v (.int (q:Nat)),.v (.int (p:Nat))]/\p<2 ^ 480/\q<2 ^ 480/\Euc (max p q) (min p q) cs/\cs.length<=960/\Q (.v (.list (jM cs))) U
theorem xX{ds:List D}{U:Mu}{Qd:DK}(h:sv ds U Qd):qp ds U (frz U Qd):=by
 obtain⟨p,q,cs,rfl,h1,h2,h,l,k⟩:=h
 exact⟨p,q,cs,rfl,h1,h2,h,l,fun a Y n s e=>⟨⟨n,s⟩,_,e,k⟩⟩
noncomputable def gE:DTS:=
 (aP (bA (dIf (dB (dOp rGt (dOp aA (ag 0) (dC (.int 1))) (dC (.int 0)))) (dC (.int 1)) (rG (dC (.int 1)))) (az 1))
 (aY (bG (ae (dC (.tuple [.int 1,.int 0,.int 1])) (ae (bG (ae (dC (.tuple [.int 0,.int 0,.int 1])) (ae (bG (ae (ag 1) (ae (dC (.int 0)) (ae (dC (.int 1)) ao)))) (ae (bG (ae (rG (ag 1)) (ae (dC (.int 0)) (ae (dC (.int 1)) ao)))) (ae (dC (.tuple [.int 0,.int 0,.int 1])) ao))))) ao)))))
noncomputable def oO:DTS:=
 (aP (bA (dCB (Af min) (ae (dOp aA (ag 0) (dC (.int 0))) (ae (dOp aA (ag 0) (dC (.int 2))) ao))) (az 1))
 (aP (bA (dCB (Af max) (ae (dOp aA (ag 0) (dC (.int 0))) (ae (dOp aA (ag 0) (dC (.int 2))) ao))) (az 2))
 (aP (bA (Bs ao) (az 3))
 (aP (w4 (dB (dOp (cq true) (ag 1) (dC (.int 0)))) (aP (pR (Jg (ag 3) (vi (ag 2) (ag 1))))
 (AX 2 1 (ae (ag 1) (ae (vy (ag 2) (ag 1)) ao)))))
 (aY (ag 3))))))
noncomputable def md:DTS:=
 (aP (pR (au fe (ae (ag 0) (ae (ag 1) ao))))
 (aP (pR (au fe (ae (ag 0) (ae (ag 2) ao))))
 (aP (bA (au jK (ae (ag 0) (ae (ag 2) (ae (ag 1) ao)))) (az 3))
 (aP (cJ (dB (dOp (cq true) (dOp aA (ag 3) (dC (.int 1))) (dC (.int 0)))) (aY (bG (ae (dC (.str "bar")) (ae (au yp (ae (ag 3) ao)) ao)))) bM)
 (aY (bG (ae (dC (.str "squares")) (ae (au uI (ae (ag 3) ao)) ao))))))))
noncomputable def kZ:DTS:=
 (aP (bA (Bs ao) (az 2))
 (aP (w4 (j0 (dB (dOp rGt (ag 0) (dC (.int 0)))) (dB (dOp rGt (ag 1) (dC (.int 0))))) (aP (AX 0 1 (ae (dCB (Af max) (ae (ag 0) (ae (ag 1) ao))) (ae (dCB (Af min) (ae (ag 0) (ae (ag 1) ao))) ao)))
 (aP (pR (Jg (ag 2) (vi (ag 0) (ag 1))))
 (bA (vy (ag 0) (ag 1)) (az 0)))))
 (aY (ag 2))))
section
variable {U:Mu}{Qd:DK}{ds:List D}{Xk:Mu->Prop}
theorem szN{n i:Nat}(h:i<2 ^ n):Sz n (i:Int):=Sz.of (by rw[Int.natAbs_natCast];exact h)
theorem Fb{cs ds:List Nat}:jM (cs++ds)=jM cs++jM ds:=List.map_append
theorem OW(r s:Nat):(r:Int).fdiv (s:Int)=((r / s:Nat):Int):=by rw[Int.fdiv_eq_ediv_of_nonneg _ (Int.natCast_nonneg s)];rfl
theorem Pe(r s:Nat):(r:Int).fmod (s:Int)=((r % s:Nat):Int):=by rw[Int.fmod_eq_emod_of_nonneg _ (Int.natCast_nonneg s)];rfl
theorem SW(p q:Nat):min (p:Int) (q:Int)=((min p q:Nat):Int):=by omega
theorem Sq(p q:Nat):max (p:Int) (q:Int)=((max p q:Nat):Int):=by omega
theorem tj(h:yp ds U Qd):gE {nx:=fun _ Y=>Qd (.v .none) Y,rt:=Qd} (aO ["",""] ds) U:=by
 obtain⟨x,rfl,q⟩:=h
 unfold gE
 walk_at "rn"
 by_cases c:0<x.b
 ·rw[if_pos (by simpa using c)]
  exact q _
 ·rw[if_neg (by simpa using c)]
  exact q _
theorem CD(h:wk ds U Qd):oO {nx:=fun _ Y=>Qd (.v .none) Y,rt:=Qd} (aO ["","","",""] ds) U:=by
 obtain⟨p,q,cs,rfl,pb,qb,g,l,k⟩:=h
 unfold oO
 walk_at "rn"
 intro a ha
 rw[SW,Sq,IQ]
 refine⟨fun m ρ Y=>∃(r s:Nat) (done rem:List Nat),ρ=[some (.v (dN ⟨p,0,q⟩)),some (.v (.int (s:Nat))),some (.v (.int (r:Nat))),some (.m a)]/\m=s/\done++rem=cs/\Euc r s rem/\s<2 ^ 480/\pQ U Y/\Y a=some (jM done),
  ⟨_,_,_,[],cs,rfl,rfl,rfl,g,∅,pQ.refl.set ha,aV⟩,?_⟩
 rintro m ρ Y ⟨r,s,dn,rem,rfl,rfl,hc,g',hsb,sb,hm⟩
 walk_at "rn"
 cases g' with
 |nil=>
  rw[append_nil] at hc
  subst hc
  simp only[Int.natCast_zero,decide_true,Bool.xor_true,Bool.not_true,false_eq_true,↓reduceIte]
  exact k a Y ha sb hm
 |@cons _ _ rem hs g'=>
  have sn:(m:Int)≠0:=by omega
  rw[if_pos (by simp;omega)]
  have hl:dn.length<=960:=by have:=congrArg List.length hc;simp at this;omega
  rw[hm]
  simp only[OW,Pe]
  have dk:rV (r:Int) (m:Int):=yA sn (szN hsb) ⋯
  refine⟨dk,by unfold jM;rw[length_map];omega,sn,_,mod_lt r hs,m,r % m,dn++[r / m],rem,rfl,rfl,by rw[<- hc];simp,g',lt_trans (mod_lt r hs) hsb,sb.set ha,?_⟩
  rw[aV,Fb]
  rfl
theorem IS{d a:Int}(hd:aH d)(h:sg d a 0=1):0<a:=by
 rcases (eZ hd).mp h with z|z|z
 ·omega
 ·omega
 ·omega
theorem NV{d:Int}{w h:N3}(s:Me d w h)(hb:(shp d w h).b=0):∃p q cs,Om d w h p q cs:=by
 have s5:=sI s.rt.1 s.rt.2.1
 have nw:=bQ s.rt s.ow s.sw
 have oc:=aC nw
 have os:Ok (shp d w h):=av s.oh oc
 have bs:Bd 192 (shp d w h):=(bJ s5 s.oh oc s.bh (bE s5 nw s.bw)).mono ⋯
 have ss:sg d (shp d w h).a (shp d w h).b=1:=by
  show sg d (times d h (ay d w)).a (times d h (ay d w)).b=1
  rw[zT s.rt s.oh oc,s.sh,gJ s.rt s.ow s.sw];rfl
 rw[hb] at ss
 have ap:=IS s.rt ss
 have cp:=os.c
 generalize hx:shp d w h=x at os bs hb ap cp
 obtain⟨a,b,c⟩:=x
 simp only at hb ap cp
 subst hb
 obtain⟨p,rfl⟩:∃p:Nat,a=p:=⟨a.toNat,∅⟩
 obtain⟨q,rfl⟩:∃q:Nat,c=q:=⟨c.toNat,∅⟩
 have pb:p<2 ^ 192:=by have:=bs.a.lt;simpa using this
 have qb:q<2 ^ 192:=by have:=bs.c.lt;simpa using this
 have hm:max p q*min p q<2 ^ 384:=by
  have e:max p q*min p q=p*q:=by
   rcases Nat.le_total p q with z|z
   ·rw[Nat.max_eq_right z,Nat.min_eq_left z,Nat.mul_comm]
   ·rw[Nat.max_eq_left z,Nat.min_eq_right z]
  rw[e,show 2 ^ 384=2 ^ 192*2 ^ 192 by rw[<- Nat.pow_add]]
  exact Nat.mul_lt_mul'' pb qb
 obtain⟨cs,g,l⟩:=GY 384 (max p q) (min p q) (le_trans (Nat.min_le_left p q) (Nat.le_max_left p q)) hm
 exact⟨p,q,cs,hx,∅,∅,pb,qb,g,∅⟩
theorem A8(h:yK ds U Qd):md {nx:=fun _ Y=>Qd (.v .none) Y,rt:=Qd} (aO ["","","",""] ds) U:=by
 obtain⟨d,w,h,p,q,cs,rfl,s,F,k⟩:=h
 unfold md
 walk_at "rn"
 have wn:w≠aE:=fun z=>by have:=s.sw;rw[z] at this;rw[show sg d aE.a aE.b=0 from dm.mpr ⟨rfl,rfl⟩] at this;cases this
 refine⟨d,w,rfl,s.rt,s.ow,s.bw.mono ⋯,s.sw,?_⟩
 refine⟨d,h,rfl,s.rt,s.oh,s.bh.mono ⋯,s.sh,?_⟩
 refine⟨d,h,w,rfl,s.rt,s.oh,s.ow,wn,s.bh.mono ⋯,s.bw.mono ⋯,?_⟩
 walk_at "rn"
 rw[show times d h (ay d w)=shp d w h from rfl,F.e]
 rw[if_neg (by simp)]
 refine⟨p,q,cs,rfl,lt_trans F.pb nofun,lt_trans F.qb nofun,F.g,by have:=F.l;omega,?_⟩
 exact k
theorem zO(h:qp ds U Qd):kZ {nx:=fun _ Y=>Qd (.v .none) Y,rt:=Qd} (aO ["","",""] ds) U:=by
 obtain⟨p,q,cs,rfl,pb,qb,g,l,k⟩:=h
 unfold kZ
 walk_at "rn"
 intro a ha
 rw[IQ]
 refine⟨fun m ρ Y=>∃(x y:Nat) (dn rem:List Nat),ρ=[some (.v (.int (x:Nat))),some (.v (.int (y:Nat))),some (.m a)]/\m=rem.length/\dn++rem=cs/\Euc (max x y) (min x y) rem/\x<2 ^ 480/\y<2 ^ 480/\pQ U Y/\Y a=some (jM dn),
  ⟨_,q,p,[],cs,rfl,rfl,rfl,by rw[Nat.max_comm,Nat.min_comm];exact g,qb,pb,pQ.refl.set ha,aV⟩,?_⟩
 rintro m ρ Y ⟨x,y,dn,rem,rfl,rfl,hc,g',hx,hy,sb,hm⟩
 walk_at "rn"
 have fin:min x y=0->Qd (.m a) Y:=fun z=>by
  rw[z] at g'
  cases g' with
  |nil=>rw[append_nil] at hc;subst hc;exact k a Y ha sb hm
  |cons hs _=>exact absurd hs ⋯
 by_cases cx:0<x
 ·rw[if_pos (by simpa using cx)]
  by_cases cy:0<y
  ·rw[if_pos (by simpa using cy)]
   rw[Sq,SW]
   have s0:0<min x y:=by omega
   have sl:min x y<2 ^ 480:=by omega
   generalize hr:max x y=r at *
   generalize hs:min x y=s at *
   cases g' with
   |nil=>exact absurd s0 ⋯
   |@cons _ _ rem hs' g'=>
    have sn:(s:Int)≠0:=by omega
    have hl:dn.length<=960:=by have:=congrArg List.length hc;simp at this;omega
    walk_at "rn"
    rw[hm]
    simp only[OW,Pe]
    have dk:rV (r:Int) (s:Int):=yA sn (szN sl) ⋯
    have lt:=mod_lt r s0
    refine⟨dk,by unfold jM;rw[length_map];omega,sn,_,Nat.lt_succ_self _,r % s,s,dn++[r / s],rem,rfl,rfl,by rw[<- hc];simp,by rw[Nat.max_eq_right ∅,Nat.min_eq_left ∅];exact g',lt_trans lt sl,sl,sb.set ha,?_⟩
    rw[aV,Fb]
    rfl
  ·rw[if_neg (by simpa using cy)]
   exact fin ∅
 ·rw[if_neg (by simpa using cx)]
  exact fin ∅
end
noncomputable def okS(s:Str):Prop:=s = "mixed"\/s = "squares"\/s = "1"\/s = ""\/s = "a"
inductive Th(b l:Nat):Nat->PyData->Prop
 |non {n:Nat}:Th b l n .none
 |bool {n:Nat} (x:Bool):Th b l n (.bool x)
 |int {n:Nat} {i:Int}:Sz b i->Th b l n (.int i)
 |str {n:Nat} {s:Str}:okS s->Th b l n (.str s)
 |tup {n:Nat} {xs:List PyData}:xs.length<=l->(∀x∈xs,Th b l n x)->Th b l (n+1) (.tuple xs)
 |lst {n:Nat} {xs:List PyData}:xs.length<=l->(∀x∈xs,Th b l n x)->Th b l (n+1) (.list xs)
def numOf:PyData->N3
 |.tuple [.int a,.int b,.int c]=>⟨a,b,c⟩
 |_=>aE
def nD(m:Nat):PyData->Bool
 |.int i=>decide (0<=i)&&decide (i<m)
 |_=>false
noncomputable def vn:DSp:=fun ds U Q=>∃(t:PyData) (m:Nat),ds=[.v t,.v (.int (m:Nat))]/\Q (.v (.bool (nD m t))) U
theorem E2{ds:List D}{U:Mu}{Q:DK}(h:vn ds U Q):ds.length=2:=by obtain⟨_,_,rfl,_⟩:=h;rfl
def cS(d:Int)(t:PyData):Bool:=isNum t&&aZ d (numOf t)
def yQ(d:Int)(k s:N3):PyData->Bool
 |.tuple [pu,pv]=>cS d pu&&(cS d pv&&decide (plus (times d (numOf pu) k) (times d (numOf pv) (ay d k))=s))
 |_=>false
structure KS(d:Int)(k s:N3):Prop where
 rt:aH d
 ok:Ok k
 bk:Bd 140 k
 sk:sg d k.a k.b=1
 os:Ok s
noncomputable def fq:DSp:=fun ds U Q=>∃(d:Int) (k s:N3) (p:PyData),ds=[.v (.int d),.v (dN k),.v (dN s),.v p]/\KS d k s/\Th 350 600 6 p/\Q (.v (.bool (yQ d k s p))) U
theorem rZ{ds:List D}{U:Mu}{Q:DK}(h:fq ds U Q):ds.length=4:=by obtain⟨_,_,_,_,rfl,_⟩:=h;rfl
noncomputable def qw:DTS:=
 (aY (lD (au el (ae (ag 0) ao)) (lD (dOp rLe (dC (.int 0)) (ag 0)) (dOp rLt (ag 0) (ag 1)))))
noncomputable def kU:DTS:=
 (aP (cJ (ku (dq (dB (rF "tuple" (ag 3)))) (dB (dOp (cq true) (dCB dH (ae (ag 3) ao)) (dC (.int 2))))) (aY (dC (.bool false))) bM)
 (aP (cJ (dq (dB (dCB pG (ae (qH [none,some 0] (xE (ag 3)) (az 0) qc (lD (au kQ (ae (ag 0) ao)) (au ng (ae (ag 1) (ae (ag 0) ao))))) ao)))) (aY (dC (.bool false))) bM)
 (aP (bA (ag 3) (rM 2 (eY (az 4) (eY (az 5) uQ))))
 (aY (dOp (cq false) (au oY (ae (au cw (ae (ag 0) (ae (ag 4) (ae (ag 1) ao)))) (ae (au cw (ae (ag 0) (ae (ag 5) (ae (au cK (ae (ag 0) (ae (ag 1) ao))) ao)))) ao))) (ag 2))))))
noncomputable def gD:DTS:=
 (aP (cJ (ku (dq (dB (rF "tuple" (ag 3)))) (ku (dB (dOp (cq true) (dCB dH (ae (ag 3) ao)) (dC (.int 2)))) (dq (dB (dCB pG (ae (qH [none] (xE (ag 3)) (az 0) qc (au kQ (ae (ag 0) ao))) ao)))))) (aY (dC (.bool false))) bM)
 (aP (cJ (dq (dB (dCB pG (ae (qH [none] (xE (ag 3)) (az 0) qc (lD (dOp (cq false) (dOp aA (ag 0) (dC (.int 1))) (dC (.int 0))) (dOp rGe (dOp aA (ag 0) (dC (.int 0))) (dC (.int 0))))) ao)))) (aY (dC (.bool false))) bM)
 (aP (bA (iF (ae (au cw (ae (ag 0) (ae (dOp aA (ag 3) (dC (.int 0))) (ae (ag 1) ao)))) (ae (au cw (ae (ag 0) (ae (dOp aA (ag 3) (dC (.int 1))) (ae (au cK (ae (ag 0) (ae (ag 1) ao))) ao)))) ao))) (az 4))
 (aY (dOp (cq false) (au oY (ae (dOp aA (ag 4) (dC (.int 0))) (ae (dOp aA (ag 4) (dC (.int 1))) ao))) (ag 2))))))
section
variable {U:Mu}{Qd:DK}{ds:List D}{Xk:Mu->Prop}
theorem Dc{xs:List PyData}(h:∀x∈xs,x.canLay0=true):PyData.canLayAll0 xs=true:=by
 induction xs with
 |nil=>rfl
 |cons x r ih=>rw[PyData.canLayAll0,h x (by simp),ih (fun y hy=>h y (by simp[hy]))];rfl
theorem wo{xs:List PyData}{n:Nat}(h:∀x∈xs,x.depth<=n):PyData.depthAll xs<=n:=by
 induction xs with
 |nil=>exact zero_le _
 |cons x r ih=>
  rw[PyData.depthAll]
  have h1:=h x (by simp)
  have h2:=ih (fun y hy=>h y (by simp[hy]))
  omega
theorem NA{s:Str}(h:okS s):PyData.canLay0 (.str s)=true:=by
 rcases h with rfl|rfl|rfl|rfl|rfl<;>decide +kernel
theorem Th.lay{b l n:Nat}{t:PyData}(h:Th b l n t):t.canLay0=true/\t.depth<=n:=by
 induction h with
 |non=>exact⟨rfl,zero_le _⟩
 |bool x=>exact⟨rfl,zero_le _⟩
 |int _=>exact⟨rfl,zero_le _⟩
 |str h=>exact⟨NA h,zero_le _⟩
 |tup _ _ ih=>exact⟨by rw[PyData.canLay0];exact Dc fun x hx=>(ih x hx).1,by rw[PyData.depth];have:=wo fun x hx=>(ih x hx).2;omega⟩
 |lst _ _ ih=>exact⟨by rw[PyData.canLay0];exact Dc fun x hx=>(ih x hx).1,by rw[PyData.depth];have:=wo fun x hx=>(ih x hx).2;omega⟩
theorem Th.sh{b l n:Nat}{t:PyData}(h:Th b l n t)(hn:n<=60):SeqAt.shaped t=true:=by
 unfold SeqAt.shaped
 rw[h.lay.1,decide_eq_true (by have:=h.lay.2;omega)];rfl
theorem Th.few{b l n:Nat}{t:PyData}(h:Th b l n t)(hl:l<=1000):Few t:=by
 cases h with
 |tup a _=>show _<=1000;omega
 |_=>exact trivial
theorem Th.rE{b l n:Nat}{xs:List PyData}(h:Th b l (n+1) (.tuple xs)):∀x∈xs,Th b l n x:=by
 cases h with
 |tup _ a=>exact a
theorem Th.sz{b l n:Nat}{i:Int}(h:Th b l n (.int i)):Sz b i:=by
 cases h with
 |int h=>exact h
theorem Th.bd{b l n:Nat}{x:N3}(h:Th b l n (dN x)):Bd b x:=by
 cases h with
 |tup _ a=>exact⟨(a (.int x.a) (by simp)).sz,(a (.int x.b) (by simp)).sz,(a (.int x.c) (by simp)).sz⟩
def nnB(x:PyData):Bool:=decide ((numOf x).b=0)&&decide (0<=(numOf x).a)
theorem MI{x:N3}:nnB (dN x)=(decide (x.b=0)&&decide (0<=x.a)):=rfl
theorem fh{x:N3}:numOf (dN x)=x:=rfl
theorem FO(h:vn ds U Qd):qw {nx:=fun _ Y=>Qd (.v .none) Y,rt:=Qd} (aO ["",""] ds) U:=by
 obtain⟨t,m,rfl,q⟩:=h
 unfold qw
 walk_at "rn"
 refine⟨t,rfl,?_⟩
 cases t with
 |int i=>
  simp only[show isWhole (.int i)=true from rfl,↓reduceIte]
  walk_at "rn"
  rw[show nD m (.int i)=(decide (0<=i)&&decide (i<m)) from rfl] at q
  by_cases c:0<=i
  ·rw[if_pos (decide_eq_true c)]
   rw[decide_eq_true c] at q
   exact q
  ·rw[if_neg (by simpa using c)]
   rw[decide_eq_false c] at q
   exact q
 |bool b=>simp only[show isWhole (.bool b)=false from rfl,false_eq_true,↓reduceIte];exact q
 |_=>exact q
theorem yT{d:Int}{k s:N3}{pu pv:PyData}:yQ d k s (.tuple [pu,pv])=(cS d pu&&(cS d pv&&decide (plus (times d (numOf pu) k) (times d (numOf pv) (ay d k))=s))):=rfl
theorem EB{d:Int}{k s:N3}{xs:List PyData}(h:xs.length≠2):yQ d k s (.tuple xs)=false:=by
 match xs,h with
 |[],_=>rfl
 |[_],_=>rfl
 |[_,_],h=>exact absurd rfl h
 |_::_::_::_,_=>rfl
theorem Ea{d:Int}{k s:N3}{p:PyData}(h:¬ ∃xs,p = .tuple xs):yQ d k s p=false:=by cases p<;>first|rfl|exact absurd ⟨_,rfl⟩ h
theorem yv{p:PyData}(h:¬ ∃xs,p = .tuple xs):isT "tuple" p=false:=by cases p<;>first|rfl|exact absurd ⟨_,rfl⟩ h
theorem Hn{α:Type}{xs:List α}(hl:xs.length=2):∃a b,xs=[a,b]:=by
 match xs,hl with
 |[a,b],_=>exact⟨a,b,rfl⟩
theorem Ld{d:Int}(hd:aH d)(a:Int):0<=sg d a 0↔0<=a:=by
 rcases Int.lt_trichotomy a 0 with z|z|z
 ·have e:sg d (-a) 0=1:=(eZ hd).mpr (.inl ⟨∅,∅,∅⟩)
  have n:=zM (d:=d) (a:=-a) (b:=0) hd
  rw[Int.neg_neg,Int.neg_zero,e] at n
  omega
 ·subst z
  rw[show sg d 0 0=0 from dm.mpr ⟨rfl,rfl⟩]
 ·have e:sg d a 0=1:=(eZ hd).mpr (.inl ⟨∅,∅,∅⟩)
  omega
theorem zL(h:fq ds U Qd):kU {nx:=fun _ Y=>Qd (.v .none) Y,rt:=Qd} (aO ["","","","","",""] ds) U:=by
 obtain⟨d,k,s,p,rfl,K,hp,q⟩:=h
 unfold kU
 walk_at "rn"
 by_cases ht:∃xs,p = .tuple xs
 ·obtain⟨xs,rfl⟩:=ht
  rw[if_neg (by rw[show isT "tuple" (.tuple xs)=true from rfl];decide)]
  walk_at "rn"
  by_cases hl:xs.length=2
  ·obtain⟨pu,pv,rfl⟩:=Hn hl
   rw[if_neg (by simp)]
   have hu:=hp.rE pu (by simp)
   have hv:=hp.rE pv (by simp)
   refine⟨by simp,fun x=>some (.bool (cS d x)),fun x hx Y _=>⟨⟨trivial,trivial⟩,x,rfl,(hp.rE x hx).few ⋯,?_⟩,?_⟩
   ·cases hn:isNum x with
    |false=>simp only[false_eq_true,↓reduceIte];refine⟨trivial,?_⟩;unfold cS;rw[hn];rfl
    |true=>
     obtain⟨y,rfl,oy⟩:=ej hn
     simp only[↓reduceIte]
     refine⟨d,y,rfl,K.rt,(hp.rE _ hx).bd.mono ⋯,rfl,?_⟩
     unfold cS;rw[hn];rfl
   ·simp only[filterMap_cons,List.filterMap_nil,bY,map_some,all_cons,all_nil,Bool.and_true,id]
    rw[yT] at q
    cases h1:cS d pu with
    |false=>rw[h1] at q;simp only[Bool.false_and,Bool.not_false,↓reduceIte];exact q
    |true=>
     cases h2:cS d pv with
     |false=>rw[h1,h2] at q;simp only[Bool.and_false,Bool.not_false,↓reduceIte];exact q
     |true=>
      rw[h1,h2] at q
      simp only[Bool.and_true,Bool.not_true,false_eq_true,↓reduceIte]
      obtain⟨u,rfl,ou⟩:=ej (by unfold cS at h1;rw[and_eq_true] at h1;exact h1.1)
      obtain⟨v,rfl,ov⟩:=ej (by unfold cS at h2;rw[and_eq_true] at h2;exact h2.1)
      have s5:=sI K.rt.1 K.rt.2.1
      have nk:=bQ K.rt K.ok K.sk
      have oc:=aC nk
      have bu:=hu.bd
      have bv:=hv.bd
      walk_at "rn"
      refine⟨trivial,?_⟩
      refine⟨d,u,k,rfl,s5,ou,K.ok,bu.mono ⋯,K.bk.mono ⋯,?_⟩
      refine⟨d,k,rfl,s5,nk,K.bk.mono ⋯,?_⟩
      refine⟨d,v,_,rfl,s5,ov,oc,bv.mono ⋯,(bE s5 nk K.bk).mono ⋯,?_⟩
      refine⟨_,_,rfl,av ou K.ok,av ov oc,(bJ s5 ou K.ok bu K.bk).mono ⋯,(bJ s5 ov oc bv (bE s5 nk K.bk)).mono ⋯,?_⟩
      walk_at "rn"
      exact q
  ·rw[if_pos (by simp;omega)]
   rw[EB hl] at q
   exact q
 ·rw[if_pos (by rw[yv ht];rfl)]
  rw[Ea ht] at q
  exact q
theorem CO{d:Int}{x:N3}(hd:aH d)(ox:Ok x):cS d (dN x)=(decide (x.b=0)&&decide (0<=x.a)):=by
 unfold cS aZ
 rw[qL ox,Bool.true_and,fh]
 by_cases c:x.b=0
 ·rw[decide_eq_true c,Bool.true_and,Bool.true_and,c]
  congr 1
  have e:=Ld hd x.a
  exact propext e
 ·rw[decide_eq_false c];rfl
theorem tI(h:fq ds U Qd):gD {nx:=fun _ Y=>Qd (.v .none) Y,rt:=Qd} (aO ["","","","",""] ds) U:=by
 obtain⟨d,k,s,p,rfl,K,hp,q⟩:=h
 unfold gD
 walk_at "rn"
 by_cases ht:∃xs,p = .tuple xs
 ·obtain⟨xs,rfl⟩:=ht
  rw[if_neg (by rw[show isT "tuple" (.tuple xs)=true from rfl];decide)]
  walk_at "rn"
  by_cases hl:xs.length=2
  ·obtain⟨pu,pv,rfl⟩:=Hn hl
   rw[if_neg (by simp)]
   have hu:=hp.rE pu (by simp)
   have hv:=hp.rE pv (by simp)
   refine⟨by simp,fun x=>some (.bool (isNum x)),fun x hx Y _=>⟨trivial,x,rfl,(hp.rE x hx).few ⋯,rfl,rfl⟩,?_⟩
   simp only[filterMap_cons,List.filterMap_nil,bY,map_some,all_cons,all_nil,Bool.and_true,id]
   rw[yT] at q
   cases h1:isNum pu with
   |false=>rw[show cS d pu=false by unfold cS;rw[h1];rfl] at q;simp only[Bool.false_and,Bool.not_false,↓reduceIte];exact q
   |true=>
    cases h2:isNum pv with
    |false=>rw[show cS d pv=false by unfold cS;rw[h2];rfl] at q;simp only[Bool.and_false,Bool.false_and,Bool.not_false,↓reduceIte] at q ⊢;exact q
    |true=>
     simp only[Bool.and_true,Bool.not_true,false_eq_true,↓reduceIte]
     obtain⟨u,rfl,ou⟩:=ej h1
     obtain⟨v,rfl,ov⟩:=ej h2
     have s5:=sI K.rt.1 K.rt.2.1
     have nk:=bQ K.rt K.ok K.sk
     have oc:=aC nk
     have bu:=hu.bd
     have bv:=hv.bd
     rw[CO K.rt ou,CO K.rt ov] at q
     refine⟨by simp,fun x=>some (.bool (nnB x)),fun x hx Y _=>?_,?_⟩
     ·have:∃y,x=dN y:=by
       simp only[mem_cons,not_mem_nil,or_false] at hx
       rcases hx with rfl|rfl
       ·exact⟨u,rfl⟩
       ·exact⟨v,rfl⟩
      obtain⟨y,rfl⟩:=this
      walk_at "rn"
      refine⟨trivial,?_⟩
      rw[MI]
      by_cases c:y.b=0
      ·rw[if_pos (decide_eq_true c),decide_eq_true c];exact⟨trivial,rfl⟩
      ·rw[if_neg (by simpa using c),decide_eq_false c];exact⟨trivial,rfl⟩
     ·simp only[filterMap_cons,List.filterMap_nil,bY,map_some,all_cons,all_nil,Bool.and_true,id]
      rw[MI,MI]
      rw[fh,fh] at q
      cases hh:(decide (u.b=0)&&decide (0<=u.a)&&(decide (v.b=0)&&decide (0<=v.a))) with
      |false=>
       rw[<- Bool.and_assoc,hh] at q
       simp only[Bool.not_false,↓reduceIte]
       exact q
      |true=>
       rw[<- Bool.and_assoc,hh] at q
       simp only[Bool.not_true,false_eq_true,↓reduceIte]
       walk_at "rn"
       refine⟨d,u,k,rfl,s5,ou,K.ok,bu.mono ⋯,K.bk.mono ⋯,?_⟩
       refine⟨d,k,rfl,s5,nk,K.bk.mono ⋯,?_⟩
       refine⟨d,v,_,rfl,s5,ov,oc,bv.mono ⋯,(bE s5 nk K.bk).mono ⋯,?_⟩
       walk_at "rn"
       refine⟨_,_,rfl,av ou K.ok,av ov oc,(bJ s5 ou K.ok bu K.bk).mono ⋯,(bJ s5 ov oc bv (bE s5 nk K.bk)).mono ⋯,?_⟩
       walk_at "rn"
       exact q
  ·rw[if_pos (by simp;omega)]
   rw[EB hl] at q
   exact q
 ·rw[if_pos (by rw[yv ht];rfl)]
  rw[Ea ht] at q
  exact q
end
structure Fra(x:N3)(p q:Nat)(cs:List Nat):Prop where
 e:x=⟨p,0,q⟩
 p0:0<p
 q0:0<q
 pb:p<2 ^ 480
 qb:q<2 ^ 480
 g:Euc (max p q) (min p q) cs
 l:cs.length<=960
noncomputable def FX(x:N3):Prop:=Ok x/\(x.b=0->∃p q cs,Fra x p q cs)
open Classical in
noncomputable def CK(x:N3):List Nat:=if h:∃cs,Euc (max x.a.toNat x.c.toNat) (min x.a.toNat x.c.toNat) cs then h.choose else []
noncomputable def Gy(x:N3):PyData->Bool
 |.list xs=>decide (x.b=0)&&(xs.all isWhole&&PyData.eqv (.list xs) (.list (jM (CK x))))
 |_=>false
noncomputable def lu:DSp:=fun ds U Q=>∃(x:N3) (p:PyData),ds=[.v (dN x),.v p]/\FX x/\Th 350 600 6 p/\Q (.v (.bool (Gy x p))) U
theorem zW{ds:List D}{U:Mu}{Q:DK}(h:lu ds U Q):ds.length=2:=by obtain⟨_,_,rfl,_⟩:=h;rfl
def BJ(d:Int)(ks:List N3)(z p:PyData):PyData->Bool
 |.int i=>yQ d (ks.getD i.toNat aE) (numOf z) p
 |_=>false
noncomputable def pZ(d:Int)(ks:List N3)(p:PyData):PyData->Bool
 |.tuple [f,y,z]=>cf d z&&(if PyData.eqv f (.str "mixed")=true then nD ks.length y&&BJ d ks z p y else PyData.eqv f (.str "squares")&&(cf d y&&Gy (times d (numOf z) (ay d (numOf y))) p))
 |_=>false
structure CL(t:PyData):Prop where
 th:Th 350 600 6 t
 one:∀w h,t = .tuple [.str "squares",dN w,dN h]->(Bd 60 w/\Bd 200 h)\/(Bd 200 w/\Bd 60 h)
noncomputable def oj:DSp:=fun ds U Q=>∃(d:Int) (ks:List N3) (c p:PyData),ds=[.v (.int d),.v (.tuple (ks.map dN)),.v c,.v p]/\aH d/\wY d ks/\CL c/\Th 350 600 6 p/\Q (.v (.bool (pZ d ks p c))) U
theorem xq{ds:List D}{U:Mu}{Q:DK}(h:oj ds U Q):ds.length=4:=by obtain⟨_,_,_,_,rfl,_⟩:=h;rfl
noncomputable abbrev yI:DSp:=oj
theorem C8{ds:List D}{U:Mu}{Q:DK}(h:yI ds U Q):ds.length=4:=xq h
noncomputable def va:XSp:=fun ds U Xk=>∃(d:Int) (t:PyData) (z z':D),ds=[.v (.int d),.v t,z,z']/\aH d/\KT d t/\tF d t=false/\Xk U
theorem A3{ds:List D}{U:Mu}{Xk:Mu->Prop}(h:va ds U Xk):ds.length=4:=by obtain⟨_,_,_,_,rfl,_⟩:=h;rfl
def tw(d:Int)(w:Str):PyData->Bool
 |.tuple [f,_,z]=>PyData.eqv f (.str w)&&cf d z
 |_=>false
noncomputable def uF:DSp:=fun ds U Q=>∃(d:Int) (c:PyData) (w:Str),ds=[.v (.int d),.v c,.v (.str w),.v (.int 3)]/\aH d/\okS w/\Th 350 600 6 c/\Q (.v (.bool (tw d w c))) U
theorem E9{ds:List D}{U:Mu}{Q:DK}(h:uF ds U Q):ds.length=4:=by obtain⟨_,_,_,rfl,_⟩:=h;rfl
noncomputable def ve:DSp:=fun ds U Q=>∃(d:Int) (ks:List N3) (c p:PyData),ds=[.v (.int d),.v (.tuple (ks.map dN)),.v c,.v p]/\aH d/\wY d ks/\CL c/\Th 350 600 6 p/\Q (.v (.bool true)) U
theorem Cs{ds:List D}{U:Mu}{Q:DK}(h:ve ds U Q):ds.length=4:=by obtain⟨_,_,_,_,rfl,_⟩:=h;rfl
noncomputable def BN:DSp:=fun _ _ _=>False
noncomputable def oX:DTS:=
 (aP (cJ (ku (dB (dOp (cq true) (dOp aA (ag 0) (dC (.int 1))) (dC (.int 0)))) (ku (dq (dB (rF "list" (ag 1)))) (dq (dB (dCB pG (ae (qH [none] (oK (ag 1)) (az 0) qc (au el (ae (ag 0) ao))) ao)))))) (aY (dC (.bool false))) bM)
 (aY (dOp (cq false) (ag 1) (au uI (ae (ag 0) ao)))))
noncomputable def yF:DTS:=
 (aP (pR (au lQ (ae (ag 0) (ae (ag 1) ao))))
 (aP (cJ (ku (dq (dB (rF "tuple" (ag 2)))) (ku (dB (dOp rLt (dCB dH (ae (ag 2) ao)) (dC (.int 2)))) (dq (dB (au jE (ae (ag 0) (ae (dOp aA (ag 2) (rG (dC (.int 1)))) ao))))))) (aY (dC (.bool false))) bM)
 (aP (cJ (j0 (dB (dOp (cq false) (dOp aA (ag 2) (dC (.int 0))) (dC (.str "laid")))) (dB (dOp (cq false) (dCB dH (ae (ag 2) ao)) (dC (.int 2))))) (aY (au BN (ae (ag 0) (ae (ag 1) (ae (dOp aA (ag 2) (dC (.int 1))) (ae (ag 3) ao)))))) bM)
 (aP (cJ (j0 (dB (dOp (cq false) (dOp aA (ag 2) (dC (.int 0))) (dC (.str "barred")))) (dB (dOp (cq false) (dCB dH (ae (ag 2) ao)) (dC (.int 2))))) (aY (au BN (ae (ag 0) (ae (ag 1) (ae (dOp aA (ag 2) (dC (.int 1))) (ae (ag 3) ao)))))) bM)
 (aP (cJ (j0 (dB (dOp (cq false) (dOp aA (ag 2) (dC (.int 0))) (dC (.str "mixed")))) (j0 (dB (dOp (cq false) (dCB dH (ae (ag 2) ao)) (dC (.int 3)))) (dB (au vn (ae (dOp aA (ag 2) (dC (.int 1))) (ae (dCB dH (ae (ag 1) ao)) ao)))))) (aY (au fq (ae (ag 0) (ae (dOp aA (ag 1) (dOp aA (ag 2) (dC (.int 1)))) (ae (dOp aA (ag 2) (dC (.int 2))) (ae (ag 3) ao)))))) bM)
 (aP (cJ (j0 (dB (dOp (cq false) (dOp aA (ag 2) (dC (.int 0))) (dC (.str "squares")))) (j0 (dB (dOp (cq false) (dCB dH (ae (ag 2) ao)) (dC (.int 3)))) (dB (au jE (ae (ag 0) (ae (dOp aA (ag 2) (dC (.int 1))) ao)))))) (aY (au lu (ae (au jK (ae (ag 0) (ae (dOp aA (ag 2) (dC (.int 2))) (ae (dOp aA (ag 2) (dC (.int 1))) ao)))) (ae (ag 3) ao)))) bM)
 (aY (dC (.bool false)))))))))
noncomputable def iC:DTX:=
 (Iz uN (ae (ag 0) (ae (ag 1) ao)))
section
variable {U:Mu}{Qd:DK}{ds:List D}{Xk:Mu->Prop}
theorem BU{x:N3}{p q:Nat}{cs:List Nat}(F:Fra x p q cs):CK x=cs:=by
 have e1:x.a.toNat=p:=by rw[F.e];rfl
 have e2:x.c.toNat=q:=by rw[F.e];rfl
 unfold CK
 rw[e1,e2]
 have ex:∃cs,Euc (max p q) (min p q) cs:=⟨cs,F.g⟩
 rw[dif_pos ex]
 exact (Classical.choose_spec ex).eq F.g
theorem BS{cs:List Nat}:SeqAt.shaped (.list (jM cs))=true:=by
 have h:∀x∈jM cs,x.canLay0=true/\x.depth<=0:=fun x hx=>by
  obtain⟨c,_,rfl⟩:=List.mem_map.mp hx
  exact⟨rfl,Nat.le_refl _⟩
 unfold SeqAt.shaped
 rw[PyData.canLay0,Dc fun x hx=>(h x hx).1,PyData.depth]
 have:=wo (n:=0) fun x hx=>(h x hx).2
 rw[decide_eq_true ∅];rfl
theorem vO{t:PyData}(h:isWhole t=true):∃i,t = .int i:=by cases t<;>first|exact⟨_,rfl⟩|cases h
theorem xp:∀{xs:List PyData} {is:List Int},xs.all isWhole=true->PyData.eqvAll xs (is.map .int)=PyData.eqvAll (is.map .int) xs
 |[],[],_=>rfl
 |[],_::_,_=>rfl
 |_::_,[],_=>rfl
 |x::xs,i::is,h=>by
  rw[all_cons,and_eq_true] at h
  obtain⟨j,rfl⟩:=vO h.1
  rw[map_cons]
  show (PyData.eqv (.int j) (.int i)&&_)=(PyData.eqv (.int i) (.int j)&&_)
  rw[xp h.2,QM,QM]
  congr 1
  by_cases c:j=i
  ·subst c;rfl
  ·rw[decide_eq_false c,decide_eq_false fun z=>c z.symm]
theorem JJ{xs:List PyData}{cs:List Nat}(h:xs.all isWhole=true):PyData.eqv (.list (jM cs)) (.list xs)=PyData.eqv (.list xs) (.list (jM cs)):=by
 have e:jM cs=(cs.map fun c=>((c:Nat):Int)).map .int:=by unfold jM;rw[List.map_map];rfl
 rw[e]
 exact (xp h).symm
theorem qX{x:N3}{xs:List PyData}:Gy x (.list xs)=(decide (x.b=0)&&(xs.all isWhole&&PyData.eqv (.list xs) (.list (jM (CK x))))):=rfl
theorem zF{x:N3}{p:PyData}(h:¬ ∃xs,p = .list xs):Gy x p=false:=by cases p<;>first|rfl|exact absurd ⟨_,rfl⟩ h
theorem IG{p:PyData}(h:¬ ∃xs,p = .list xs):isT "list" p=false:=by cases p<;>first|rfl|exact absurd ⟨_,rfl⟩ h
theorem Th.len{b l n:Nat}{xs:List PyData}(h:Th b l n (.list xs)):xs.length<=l:=by cases h with|lst a _=>exact a
theorem wF{f:PyData->Bool}:∀(xs:List PyData),bY (xs.filterMap fun x=>some (.bool (f x)))=some (xs.map f)
 |[]=>rfl
 |x::xs=>by
  rw[filterMap_cons]
  simp only[bY,wF xs,map_some,map_cons]
theorem Dh(h:lu ds U Qd):oX {nx:=fun _ Y=>Qd (.v .none) Y,rt:=Qd} (aO ["",""] ds) U:=by
 obtain⟨x,p,rfl,F,hp,q⟩:=h
 unfold oX
 walk_at "rn"
 by_cases c:x.b=0
 ·obtain⟨p',q',cs,G⟩:=F.2 c
  rw[if_neg (by simp[c])]
  by_cases hl:∃xs,p = .list xs
  ·obtain⟨xs,rfl⟩:=hl
   rw[if_neg (by rw[show isT "list" (.list xs)=true from rfl];decide)]
   refine⟨by have:=hp.len;omega,fun x=>some (.bool (isWhole x)),fun x hx Y _=>⟨trivial,x,rfl,rfl,rfl⟩,?_⟩
   rw[wF]
   dsimp only
   rw[qX,decide_eq_true c,Bool.true_and,BU G] at q
   have ea:(xs.map isWhole).all id=xs.all isWhole:=by simp[all_map]
   rw[ea]
   cases hw:xs.all isWhole with
   |false=>rw[hw] at q;simp only[Bool.not_false,↓reduceIte];exact q
   |true=>
    rw[hw] at q
    simp only[Bool.not_true,false_eq_true,↓reduceIte]
    refine⟨p',q',cs,by rw[G.e],G.pb,G.qb,G.g,G.l,?_⟩
    exact⟨hp.sh ⋯,BS,by rw[false_xor];exact q⟩
  ·rw[if_pos (by rw[IG hl];rfl)]
   rw[zF hl] at q
   exact q
 ·rw[if_pos (by simp[c])]
  have e:Gy x p=false:=by
   by_cases hl:∃xs,p = .list xs
   ·obtain⟨xs,rfl⟩:=hl
    rw[qX,decide_eq_false c];rfl
   ·exact zF hl
  rw[e] at q
  exact q
theorem K1{d:Int}{w h:N3}(hd:aH d)(ow:Ok w)(oh:Ok h)(sw:sg d w.a w.b=1)(sh:sg d h.a h.b=1)(bb:(Bd 60 w/\Bd 200 h)\/(Bd 200 w/\Bd 60 h)):FX (times d h (ay d w)):=by
 have s5:=sI hd.1 hd.2.1
 have nw:=bQ hd ow sw
 have oc:=aC nw
 have os:Ok (times d h (ay d w)):=av oh oc
 refine⟨os,fun hb=>?_⟩
 have bs:Bd 478 (times d h (ay d w)):=by
  rcases bb with ⟨b,c⟩|⟨b,c⟩
  ·exact (bJ s5 oh oc c (bE s5 nw b)).mono ⋯
  ·exact (bJ s5 oh oc c (bE s5 nw b)).mono ⋯
 have ss:sg d (times d h (ay d w)).a (times d h (ay d w)).b=1:=by
  rw[zT hd oh oc,sh,gJ hd ow sw];rfl
 rw[hb] at ss
 have ap:=IS hd ss
 have cp:=os.c
 generalize hx:times d h (ay d w)=x at os bs hb ap cp
 obtain⟨a,b,c⟩:=x
 simp only at hb ap cp
 subst hb
 obtain⟨p,rfl⟩:∃p:Nat,a=p:=⟨a.toNat,∅⟩
 obtain⟨q,rfl⟩:∃q:Nat,c=q:=⟨c.toNat,∅⟩
 have pb:p<2 ^ 478:=by have:=bs.a.lt;simpa using this
 have qb:q<2 ^ 478:=by have:=bs.c.lt;simpa using this
 have hm:max p q*min p q<2 ^ 956:=by
  have e:max p q*min p q=p*q:=by
   rcases Nat.le_total p q with z|z
   ·rw[Nat.max_eq_right z,Nat.min_eq_left z,Nat.mul_comm]
   ·rw[Nat.max_eq_left z,Nat.min_eq_right z]
  rw[e,show 2 ^ 956=2 ^ 478*2 ^ 478 by rw[<- Nat.pow_add]]
  exact Nat.mul_lt_mul'' pb qb
 obtain⟨cs,g,l⟩:=GY 956 (max p q) (min p q) (le_trans (Nat.min_le_left p q) (Nat.le_max_left p q)) hm
 have up:(2:Nat) ^ 478<2 ^ 480:=nofun
 exact⟨p,q,cs,rfl,∅,∅,lt_trans pb up,lt_trans qb up,g,∅⟩
theorem OD{xs:List PyData}(h:xs≠[]):∃z∈xs,atI xs (-1)=some z:=by
 refine⟨xs.getLast h,List.getLast_mem h,?_⟩
 have e:xs=xs.dropLast++[xs.getLast h]:=(List.dropLast_concat_getLast h).symm
 have:atI (xs.dropLast++[xs.getLast h]) (-1)=some (xs.getLast h):=by
  unfold atI ixN
  have e:(xs.dropLast++[xs.getLast h]).length=xs.dropLast.length+1:=by simp
  rw[e]
  split
  ·omega
  ·rw[if_pos ∅]
   have z:(-1+((xs.dropLast.length+1:Nat):Int)).toNat=xs.dropLast.length:=by omega
   simp only[bind_some]
   rw[z]
   simp
 rw[<- e] at this
 exact this
theorem kr{f:PyData}{w:Str}{K:DK}{v:Bool}{U:Mu}(hf:Th 350 600 5 f)(hw:SeqAt.shaped (.str w)=true)(e:PyData.eqv f (.str w)=v)(k:K (.v (.bool v)) U):cq false (.v f) (.v (.str w)) U K:=⟨hf.sh ⋯,hw,by rw[e,false_xor];exact k⟩
theorem P4:SeqAt.shaped (.str "laid")=true:=nofun
theorem K2:SeqAt.shaped (.str "barred")=true:=nofun
theorem Ca:SeqAt.shaped (.str "mixed")=true:=nofun
theorem qU:SeqAt.shaped (.str "squares")=true:=nofun
theorem eq_not{n:Nat}{f:PyData}(hf:Th 350 600 n f):PyData.eqv f (.str "laid")=false/\PyData.eqv f (.str "barred")=false:=by
 cases hf with
 |str h=>rcases h with rfl|rfl|rfl|rfl|rfl<;>exact⟨nofun,nofun⟩
 |_=>exact⟨rfl,rfl⟩
theorem Th.above{n:Nat}{t:PyData}(h:Th 350 600 n t):Few t/\∀x,t=dN x->Bd 8900 x:=⟨h.few ⋯,fun x e=>by subst e;exact h.bd.mono ⋯⟩
theorem k8{d:Int}{t:PyData}(h:cf d t=true):∃x,t=dN x/\Ok x/\sg d x.a x.b=1:=by
 cases hn:isNum t with
 |false=>rw[ff hn] at h;cases h
 |true=>
  obtain⟨x,rfl,ox⟩:=ej hn
  rw[eX ox] at h
  exact⟨x,rfl,ox,by simpa using h⟩
theorem k7{d:Int}{ks:List N3}{p f y z:PyData}:pZ d ks p (.tuple [f,y,z])=(cf d z&&(if PyData.eqv f (.str "mixed")=true then nD ks.length y&&BJ d ks z p y else PyData.eqv f (.str "squares")&&(cf d y&&Gy (times d (numOf z) (ay d (numOf y))) p))):=rfl
theorem oE{d:Int}{ks:List N3}{p:PyData}{xs:List PyData}(h:xs.length≠3):pZ d ks p (.tuple xs)=false:=by
 match xs,h with
 |[],_=>rfl
 |[_],_=>rfl
 |[_,_],_=>rfl
 |[_,_,_],h=>exact absurd rfl h
 |_::_::_::_::_,_=>rfl
theorem yZ{d:Int}{ks:List N3}{p c:PyData}(h:¬ ∃xs,c = .tuple xs):pZ d ks p c=false:=by cases c<;>first|rfl|exact absurd ⟨_,rfl⟩ h
theorem tT{α:Type}{xs:List α}(hl:xs.length=3):∃a b c,xs=[a,b,c]:=by
 match xs,hl with
 |[a,b,c],_=>exact⟨a,b,c,rfl⟩
theorem Gp{m:Nat}{y:PyData}(h:nD m y=true):∃i:Nat,y = .int i/\i<m:=by
 cases y with
 |int i=>
  have h:(decide (0<=i)&&decide (i<m))=true:=h
  rw[and_eq_true] at h
  have h1:0<=i:=by simpa using h.1
  have h2:i<m:=by simpa using h.2
  exact⟨i.toNat,by rw[Int.toNat_of_nonneg h1],∅⟩
 |_=>cases h
theorem vq{f:PyData}{w:Str}(h:PyData.eqv f (.str w)=true):f = .str w:=by
 cases f with
 |str s=>
  have h:(s==w)=true:=h
  rw[beq_iff_eq.mp h]
 |_=>cases h
theorem Ur:PyData.eqv (.str "mixed") (.str "squares")=false:=nofun
theorem Dm{ks:List N3}{i:Nat}(h:i<ks.length):atI (ks.map dN) (i:Int)=some (dN (ks.getD i aE)):=by
 unfold atI ixN
 rw[if_pos ∅]
 rw[if_pos (by rw[length_map];omega)]
 simp only[bind_some,toNat_natCast]
 rw[getElem?_map,List.getD_eq_getElem?_getD,List.getElem?_eq_getElem h]
 rfl
theorem mem_getD{ks:List N3}{i:Nat}(h:i<ks.length):ks.getD i aE∈ks:=by
 rw[List.getD_eq_getElem?_getD,List.getElem?_eq_getElem h]
 exact List.getElem_mem h
theorem Of{d:Int}{p f y z:PyData}{Q:DK}{U:Mu}(hd:aH d)(hc:CL (.tuple [f,y,z]))(hf:f = .str "squares")(hp:Th 350 600 6 p)(hz:cf d z=true)(hy:cf d y=true)(q:Q (.v (.bool (Gy (times d (numOf z) (ay d (numOf y))) p))) U) :
  jK [.v (.int d),.v z,.v y] U fun x ac=>lu [x,.v p] ac Q:=by
 obtain⟨h,rfl,oh,sh⟩:=k8 hz
 obtain⟨w,rfl,ow,sw⟩:=k8 hy
 subst hf
 have bw:=(hc.th.rE (dN w) (by simp)).bd
 have bh:=(hc.th.rE (dN h) (by simp)).bd
 have wn:w≠aE:=fun z=>by have:=sw;rw[z] at this;rw[show sg d aE.a aE.b=0 from dm.mpr ⟨rfl,rfl⟩] at this;cases this
 exact⟨d,h,w,rfl,hd,oh,ow,wn,bh.mono ⋯,bw.mono ⋯,_,p,rfl,K1 hd ow oh sw sh (hc.one w h rfl),hp,q⟩
theorem LY(h:oj ds U Qd):yF {nx:=fun _ Y=>Qd (.v .none) Y,rt:=Qd} (aO ["","","",""] ds) U:=by
 obtain⟨d,ks,c,p,rfl,hd,K,hc,hp,q⟩:=h
 unfold yF
 walk_at "rn"
 refine⟨d,ks,rfl,hd,K.l1,K.l3,K.ok,?_⟩
 walk_at "rn"
 by_cases ht:∃xs,c = .tuple xs
 ·obtain⟨xs,rfl⟩:=ht
  rw[if_neg (by rw[show isT "tuple" (.tuple xs)=true from rfl];decide)]
  walk_at "rn"
  by_cases l2:xs.length<2
  ·rw[if_pos (by simp;omega)]
   rw[oE ∅] at q
   exact q
  ·rw[if_neg (by simp;omega)]
   obtain⟨z,hz,ez⟩:=OD (xs:=xs) (fun e=>by rw[e] at l2;exact l2 ⋯)
   rw[ez]
   dsimp only
   have tz:=hc.th.rE z hz
   refine⟨d,z,rfl,hd,tz.above.1,tz.above.2,?_⟩
   obtain⟨f,r,rfl⟩:∃f r,xs=f::r:=by
    cases xs with
    |nil=>exact absurd ⋯ l2
    |cons f r=>exact⟨f,r,rfl⟩
   have tf:=hc.th.rE f (by simp)
   cases hab:cf d z with
   |false=>
    simp only[Bool.not_false,↓reduceIte]
    have:pZ d ks p (.tuple (f::r))=false:=by
     by_cases l3:(f::r).length=3
     ·obtain⟨a,b,e,he⟩:=tT l3
      rw[he] at ez ⊢
      have:z=e:=by
       have e2:atI [a,b,e] (-1)=some e:=rfl
       rw[e2] at ez;exact (Option.some.inj ez).symm
      rw[k7,<- this,hab];rfl
     ·exact oE l3
    rw[this] at q
    exact q
   |true=>
    simp only[Bool.not_true,false_eq_true,↓reduceIte]
    walk_at "rn"
    refine kr tf P4 (eq_not tf).1 ?_
    dsimp only
    rw[if_neg ⋯]
    refine kr tf K2 (eq_not tf).2 ?_
    dsimp only
    rw[if_neg ⋯]
    by_cases l3:r.length=2
    ·obtain⟨y,z',rfl⟩:=Hn l3
     obtain rfl:z=z':=by
      have e2:atI [f,y,z'] (-1)=some z':=rfl
      rw[e2] at ez;exact (Option.some.inj ez).symm
     rw[k7,hab,Bool.true_and] at q
     have ty:=hc.th.rE y (by simp)
     cases hm:PyData.eqv f (.str "mixed") with
     |true=>
      refine kr tf Ca hm ?_
      dsimp only
      rw[if_pos rfl,if_pos (by simp)]
      rw[hm,if_pos rfl] at q
      show vn [D.v y,_] U _
      refine⟨y,ks.length,by rw[length_map],?_⟩
      dsimp only
      cases hpl:nD ks.length y with
      |true=>
       rw[hpl,Bool.true_and] at q
       rw[if_pos rfl]
       obtain⟨i,rfl,hi⟩:=Gp hpl
       show aA (D.v (PyData.tuple (List.map dN ks))) (D.v (.int i)) U _
       walk_at "rn"
       rw[Dm hi]
       show fq [D.v (PyData.int d),D.v (dN (ks.getD i aE)),D.v z,D.v p] U Qd
       obtain⟨h,rfl,oh,sh⟩:=k8 hab
       obtain⟨ok,bk,sk⟩:=K.ok _ (mem_getD hi)
       refine⟨d,_,h,p,rfl,⟨hd,ok,bk,sk,oh⟩,hp,?_⟩
       have e:BJ d ks (dN h) p (.int i)=yQ d (ks.getD i aE) h p:=by
        show yQ d (ks.getD (i:Int).toNat aE) (numOf (dN h)) p=_
        rw[toNat_natCast];rfl
       rw[e] at q
       exact q
      |false=>
       rw[hpl,Bool.false_and] at q
       rw[if_neg ⋯]
       have e:=vq hm
       subst e
       refine kr tf qU Ur ?_
       dsimp only
       rw[if_neg ⋯]
       exact q
     |false=>
      refine kr tf Ca hm ?_
      dsimp only
      rw[if_neg ⋯]
      rw[hm,if_neg ⋯] at q
      cases hs:PyData.eqv f (.str "squares") with
      |false=>
       refine kr tf qU hs ?_
       dsimp only
       rw[if_neg ⋯]
       rw[hs] at q
       exact q
      |true=>
       refine kr tf qU hs ?_
       dsimp only
       rw[if_pos rfl,if_pos (by simp)]
       rw[hs,Bool.true_and] at q
       show jE [D.v (PyData.int d),D.v y] U _
       refine⟨d,y,rfl,hd,ty.above.1,ty.above.2,?_⟩
       dsimp only
       cases hy:cf d y with
       |false=>
        rw[hy] at q
        rw[if_neg ⋯]
        exact q
       |true=>
        rw[hy,Bool.true_and] at q
        rw[if_pos rfl]
        exact Of hd hc (vq hs) hp hab hy q
    ·rw[oE (by simp;omega)] at q
     have dn:¬ decide (((r.length+1:Nat):Int)=3)=true:=by simp;omega
     have sq:∀K:DK,K (.v (.bool (PyData.eqv f (.str "squares")))) U->cq false (D.v f) (D.v (PyData.str (Str.ofString "squares"))) U K:=fun K k=>kr tf qU rfl k
     have mx:∀K:DK,K (.v (.bool (PyData.eqv f (.str "mixed")))) U->cq false (D.v f) (D.v (PyData.str (Str.ofString "mixed"))) U K:=fun K k=>kr tf Ca rfl k
     refine mx _ ?_
     dsimp only
     rw[if_neg dn]
     split
     ·refine sq _ ?_
      dsimp only
      split
      ·exact q
      ·exact q
     ·refine sq _ ?_
      dsimp only
      split
      ·exact q
      ·exact q
 ·rw[if_pos (by rw[yv ht];rfl)]
  rw[yZ ht] at q
  exact q
theorem vw(h:va ds U Xk):iC (aO ["","","",""] ds) U Xk:=by
 obtain⟨d,t,z,z',rfl,hd,kt,hf,q⟩:=h
 unfold iC
 rw[Ib]
 walk_at "rn"
 exact⟨d,t,rfl,hd,kt,hf,q⟩
end
noncomputable def iM:DTS:=
 (aP (cJ (ku (dq (dB (rF "tuple" (ag 1)))) (ku (dB (dOp (cq true) (dCB dH (ae (ag 1) ao)) (ag 3))) (ku (dq (dB (rF "str" (dOp aA (ag 1) (dC (.int 0)))))) (dB (dOp (cq true) (dOp aA (ag 1) (dC (.int 0))) (ag 2)))))) (aY (dC (.bool false))) bM)
 (aY (lD (au kQ (ae (dOp aA (ag 1) (rG (dC (.int 1)))) ao)) (dOp rGt (au iA (ae (ag 0) (ae (dOp aA (ag 1) (rG (dC (.int 1)))) ao))) (dC (.int 0))))))
noncomputable def mw:DTS:=
 (aP (cJ (dB (au uF (ae (ag 0) (ae (ag 2) (ae (dC (.str "mixed")) (ae (dC (.int 3)) ao)))))) (aP (cJ (ku (dq (dB (au el (ae (dOp aA (ag 2) (dC (.int 1))) ao)))) (dq (dB (GB rLe rLt (dC (.int 0)) (dOp aA (ag 2) (dC (.int 1))) (dCB dH (ae (ag 1) ao)))))) (aY (dC (.bool false))) bM)
 (aY (au fq (ae (ag 0) (ae (dOp aA (ag 1) (dOp aA (ag 2) (dC (.int 1)))) (ae (dOp aA (ag 2) (dC (.int 2))) (ae (ag 3) ao))))))) bM)
 (aP (cJ (ku (dq (dB (au uF (ae (ag 0) (ae (ag 2) (ae (dC (.str "squares")) (ae (dC (.int 3)) ao))))))) (ku (dq (dB (au kQ (ae (dOp aA (ag 2) (dC (.int 1))) ao)))) (dq (dB (rF "list" (ag 3)))))) (aY (dC (.bool false))) bM)
 (aP (cJ (ku (dB (dOp rLt (au iA (ae (ag 0) (ae (dOp aA (ag 2) (dC (.int 1))) ao))) (dC (.int 1)))) (dq (dB (dCB pG (ae (qH [none] (oK (ag 3)) (az 0) qc (au el (ae (ag 0) ao))) ao))))) (aY (dC (.bool false))) bM)
 (aP (bA (au cw (ae (ag 0) (ae (dOp aA (ag 2) (dC (.int 2))) (ae (au cK (ae (ag 0) (ae (dOp aA (ag 2) (dC (.int 1))) ao))) ao)))) (az 4))
 (aY (lD (dOp (cq false) (dOp aA (ag 4) (dC (.int 1))) (dC (.int 0))) (dOp (cq false) (au sv (ae (dOp aA (ag 4) (dC (.int 2))) (ae (dOp aA (ag 4) (dC (.int 0))) ao))) (ag 3))))))))
noncomputable def jL:DTS:=
 (aP (bA (au oj (ae (ag 0) (ae (ag 1) (ae (ag 2) (ae (ag 3) ao))))) (az 4))
 (aY (lD (rF "bool" (ag 4)) (dOp (cq false) (ag 4) (au yI (ae (ag 0) (ae (ag 1) (ae (ag 2) (ae (ag 3) ao)))))))))
section
variable {U:Mu}{Qd:DK}{ds:List D}{Xk:Mu->Prop}
theorem Qs{w:Str}(h:okS w):SeqAt.shaped (.str w)=true:=by rcases h with rfl|rfl|rfl|rfl|rfl<;>decide +kernel
theorem Ac{d:Int}{w:Str}{xs:List PyData}(h:xs.length≠3):tw d w (.tuple xs)=false:=by
 match xs,h with
 |[],_=>rfl
 |[_],_=>rfl
 |[_,_],_=>rfl
 |[_,_,_],h=>exact absurd rfl h
 |_::_::_::_::_,_=>rfl
theorem zf{d:Int}{w:Str}{c:PyData}(h:¬ ∃xs,c = .tuple xs):tw d w c=false:=by cases c<;>first|rfl|exact absurd ⟨_,rfl⟩ h
theorem yD{d:Int}{w:Str}{f y z:PyData}:tw d w (.tuple [f,y,z])=(PyData.eqv f (.str w)&&cf d z):=rfl
theorem zo{d:Int}{w:Str}{c:PyData}(h:tw d w c=true):∃f y z,c = .tuple [f,y,z]/\PyData.eqv f (.str w)=true/\cf d z=true:=by
 by_cases ht:∃xs,c = .tuple xs
 ·obtain⟨xs,rfl⟩:=ht
  by_cases l3:xs.length=3
  ·obtain⟨f,y,z,rfl⟩:=tT l3
   rw[yD,and_eq_true] at h
   exact⟨f,y,z,rfl,h.1,h.2⟩
  ·rw[Ac l3] at h;cases h
 ·rw[zf ht] at h;cases h
theorem LP{d:Int}{x:N3}(ox:Ok x):cf d (dN x)=decide (0<sg d x.a x.b):=by
 rw[eX ox]
 have:=nH d x.a x.b
 congr 1
 apply propext
 omega
theorem wJ(h:uF ds U Qd):iM {nx:=fun _ Y=>Qd (.v .none) Y,rt:=Qd} (aO ["","","",""] ds) U:=by
 obtain⟨d,c,w,rfl,hd,hw,hc,q⟩:=h
 unfold iM
 walk_at "rn"
 by_cases ht:∃xs,c = .tuple xs
 ·obtain⟨xs,rfl⟩:=ht
  rw[if_neg (by rw[show isT "tuple" (.tuple xs)=true from rfl];decide)]
  walk_at "rn"
  by_cases l3:xs.length=3
  ·obtain⟨f,y,z,rfl⟩:=tT l3
   rw[if_neg (by simp)]
   rw[yD] at q
   have tf:=hc.rE f (by simp)
   have tz:=hc.rE z (by simp)
   walk_at "rn"
   cases hs:isT "str" f with
   |false=>
    rw[if_pos ⋯]
    have e:PyData.eqv f (.str w)=false:=by
     cases e:PyData.eqv f (.str w) with
     |false=>rfl
     |true=>rw[vq e] at hs;cases hs
    rw[e] at q
    exact q
   |true=>
    rw[if_neg ⋯]
    refine⟨tf.sh ⋯,Qs hw,?_⟩
    rw[Bool.true_xor]
    dsimp only
    cases he:PyData.eqv f (.str w) with
    |false=>rw[he] at q;rw[if_pos ⋯];exact q
    |true=>
     rw[he,Bool.true_and] at q
     rw[if_neg ⋯]
     show kQ [D.v z] U _
     refine⟨z,rfl,tz.few ⋯,?_⟩
     dsimp only
     cases hn:isNum z with
     |false=>rw[ff hn] at q;rw[if_neg ⋯];exact q
     |true=>
      obtain⟨x,rfl,ox⟩:=ej hn
      rw[if_pos ⋯]
      show iA [D.v (PyData.int d),D.v (dN x)] U _
      refine⟨d,x,rfl,hd,tz.bd.mono ⋯,?_⟩
      rw[LP ox] at q
      exact q
  ·rw[if_pos (by simp;omega)]
   rw[Ac l3] at q
   exact q
 ·rw[if_pos (by rw[yv ht];rfl)]
  rw[zf ht] at q
  exact q
theorem A2(h:oj ds U Qd):mw {nx:=fun _ Y=>Qd (.v .none) Y,rt:=Qd} (aO ["","","","",""] ds) U:=by
 obtain⟨d,ks,c,p,rfl,hd,K,hc,hp,q⟩:=h
 unfold mw
 walk_at "rn"
 refine⟨d,c,"mixed",rfl,hd,.inl rfl,hc.th,?_⟩
 walk_at "rn"
 cases hm:tw d "mixed" c with
 |true=>
  rw[if_pos ⋯]
  obtain⟨f,y,z,rfl,e1,e2⟩:=zo hm
  rw[k7,e2,Bool.true_and,e1,if_pos ⋯] at q
  walk_at "rn"
  refine⟨y,rfl,?_⟩
  dsimp only
  cases hw:isWhole y with
  |false=>
   rw[if_pos ⋯]
   have:nD ks.length y=false:=by cases y<;>first|rfl|cases hw
   rw[this] at q
   exact q
  |true=>
   obtain⟨i,rfl⟩:=vO hw
   rw[if_neg ⋯]
   walk_at "rn"
   rw[show nD ks.length (.int i)=(decide (0<=i)&&decide (i<ks.length)) from rfl] at q
   by_cases c0:0<=i
   ·rw[if_pos (decide_eq_true c0)]
    rw[decide_eq_true c0,Bool.true_and] at q
    rw[length_map]
    by_cases c1:i<ks.length
    ·rw[if_neg (by simpa using c1)]
     rw[decide_eq_true c1,Bool.true_and] at q
     obtain⟨n,rfl⟩:∃n:Nat,i=n:=⟨i.toNat,∅⟩
     have hi:n<ks.length:=by omega
     rw[Dm hi]
     show fq [D.v (PyData.int d),D.v (dN (ks.getD n aE)),D.v z,D.v p] U Qd
     obtain⟨h,rfl,oh,sh⟩:=k8 e2
     obtain⟨ok,bk,sk⟩:=K.ok _ (mem_getD hi)
     refine⟨d,_,h,p,rfl,⟨hd,ok,bk,sk,oh⟩,hp,?_⟩
     have e:BJ d ks (dN h) p (.int n)=yQ d (ks.getD n aE) h p:=by
      show yQ d (ks.getD (n:Int).toNat aE) (numOf (dN h)) p=_
      rw[toNat_natCast];rfl
     rw[e] at q
     exact q
    ·rw[if_pos (by simpa using c1)]
     rw[decide_eq_false c1] at q
     exact q
   ·rw[if_neg (by simpa using c0)]
    rw[decide_eq_false c0] at q
    exact q
 |false=>
  rw[if_neg ⋯]
  refine⟨d,c,"squares",rfl,hd,.inr (.inl rfl),hc.th,?_⟩
  dsimp only
  cases hs:tw d "squares" c with
  |false=>
   rw[if_pos ⋯]
   have:pZ d ks p c=false:=by
    by_cases ht:∃xs,c = .tuple xs
    ·obtain⟨xs,rfl⟩:=ht
     by_cases l3:xs.length=3
     ·obtain⟨f,y,z,rfl⟩:=tT l3
      rw[yD] at hm hs
      rw[k7]
      cases e2:cf d z with
      |false=>rfl
      |true=>
       rw[e2,Bool.and_true] at hm hs
       rw[hm,hs]
       rfl
     ·exact oE l3
    ·exact yZ ht
   rw[this] at q
   exact q
  |true=>
   rw[if_neg ⋯]
   obtain⟨f,y,z,rfl,e1,e2⟩:=zo hs
   have e0:PyData.eqv f (.str "mixed")=false:=by rw[vq e1];decide +kernel
   rw[k7,e2,Bool.true_and,e0,if_neg ⋯,e1,Bool.true_and] at q
   have ty:=hc.th.rE y (by simp)
   walk_at "rn"
   refine⟨y,rfl,ty.few ⋯,?_⟩
   dsimp only
   cases hn:isNum y with
   |false=>
    rw[if_pos ⋯]
    rw[ff hn] at q
    exact q
   |true=>
    rw[if_neg ⋯]
    obtain⟨w,rfl,ow⟩:=ej hn
    by_cases hl:∃xs,p = .list xs
    ·obtain⟨xs,rfl⟩:=hl
     rw[if_neg (by rw[show isT "list" (.list xs)=true from rfl];decide)]
     walk_at "rn"
     refine⟨d,w,rfl,hd,ty.bd.mono ⋯,?_⟩
     walk_at "rn"
     rw[eX ow] at q
     have tr:=nH d w.a w.b
     by_cases sw:sg d w.a w.b=1
     ·rw[if_neg (by simp;omega)]
      rw[decide_eq_true sw,Bool.true_and,qX,fh] at q
      obtain⟨h,rfl,oh,sh⟩:=k8 e2
      rw[fh] at q
      have bw:=ty.bd
      have bh:=(hc.th.rE (dN h) (by simp)).bd
      have s5:=sI hd.1 hd.2.1
      have nw:=bQ hd ow sw
      have F:=K1 hd ow oh sw sh (hc.one w h (by rw[vq e1]))
      refine⟨by have:=hp.len;omega,fun x=>some (.bool (isWhole x)),fun x hx Y _=>⟨trivial,x,rfl,rfl,rfl⟩,?_⟩
      rw[wF]
      dsimp only
      have ea:(xs.map isWhole).all id=xs.all isWhole:=by simp[all_map]
      rw[ea]
      cases hw:xs.all isWhole with
      |false=>rw[hw,Bool.false_and,Bool.and_false] at q;rw[if_pos ⋯];exact q
      |true=>
       rw[hw,Bool.true_and] at q
       rw[if_neg ⋯]
       refine⟨d,w,rfl,s5,nw,bw.mono ⋯,?_⟩
       refine⟨d,h,_,rfl,s5,oh,aC nw,bh.mono ⋯,(bE s5 nw bw).mono ⋯,?_⟩
       walk_at "rn"
       generalize times d h (ay d w)=x at *
       by_cases xb:x.b=0
       ·rw[if_pos (by simpa using xb)]
        obtain⟨p',q',cs,G⟩:=F.2 xb
        rw[decide_eq_true xb,Bool.true_and,BU G] at q
        rw[G.e]
        refine⟨p',q',cs,rfl,G.pb,G.qb,G.g,G.l,BS,hp.sh ⋯,?_⟩
        rw[false_xor,JJ hw]
        exact q
       ·rw[if_neg (by simpa using xb)]
        rw[decide_eq_false xb,Bool.false_and] at q
        exact q
     ·rw[if_pos (by simp;omega)]
      rw[decide_eq_false sw,Bool.false_and] at q
      exact q
    ·rw[if_pos (by rw[IG hl];rfl)]
     rw[zF hl,Bool.and_false] at q
     exact q
theorem xV(h:ve ds U Qd):jL {nx:=fun _ Y=>Qd (.v .none) Y,rt:=Qd} (aO ["","","","",""] ds) U:=by
 obtain⟨d,ks,c,p,rfl,hd,K,hc,hp,q⟩:=h
 unfold jL
 walk_at "rn"
 refine⟨d,ks,c,p,rfl,hd,K,hc,hp,?_⟩
 walk_at "rn"
 rw[if_pos (show isT "bool" (.bool (pZ d ks p c))=true from rfl)]
 refine⟨d,ks,c,p,rfl,hd,K,hc,hp,?_⟩
 walk_at "rn"
 simp only[BEq.rfl,decide_true]
 exact q
end
inductive Ben:PyData->PyData->Prop
 |odd {t x:PyData}:x∈ib->Ben t x
 |int {i j:Int}:(j=i+1\/j=i-1\/j=0-i\/j=i*2\/j=0\/j=1)->Ben (.int i) (.int j)
 |part {t x:PyData} {xs ys:List PyData}:(t = .tuple xs\/t = .list xs)->(x = .tuple ys\/x = .list ys)->(∀y∈ys,y∈xs)->ys.length<=xs.length+1->(ys.length≠xs.length\/ys=xs.reverse)->Ben t x
 |set {t x v y:PyData} {xs:List PyData} {i:Nat}:(t = .tuple xs\/t = .list xs)->xs[i]? = some v->Ben v y->(x = .tuple (xs.set i y)\/x = .list (xs.set i y))->Ben t x
theorem Sa:Sz 200 (10 ^ Int.toNat 59):=Sz.of nofun
theorem GN{b l:Nat}{t:PyData}(hb:200<=b)(hl:600<=l)(h:t∈ib):Th b l 1 t:=by
 have s:∀i:Int,Sz 200 i->Th b l 0 (.int i):=fun i h=>.int (h.mono hb)
 have s1:∀i:Int,Sz 200 i->Th b l 1 (.int i):=fun i h=>.int (h.mono hb)
 have z:∀i:Int,i.natAbs<3->Sz 200 i:=fun i h=>Sz.of (lt_trans h nofun)
 have al:∀xs:List PyData,(∀x∈xs,Th b l 0 x)->xs.length<=3->Th b l 1 (.tuple xs)/\Th b l 1 (.list xs):=fun xs h g=>⟨.tup ∅ h,.lst ∅ h⟩
 unfold ib at h
 simp only[mem_cons,not_mem_nil,or_false] at h
 rcases h with rfl|rfl|rfl|rfl|rfl|rfl|rfl|rfl|rfl|rfl|rfl|rfl|rfl|rfl|rfl|rfl|rfl|rfl|rfl|rfl
 ·exact .non
 ·exact .bool _
 ·exact .bool _
 ·exact .str (.inr (.inr (.inl rfl)))
 ·exact .str (.inr (.inr (.inr (.inl rfl))))
 ·exact s1 _ (z _ ⋯)
 ·exact s1 _ (z _ ⋯)
 ·exact s1 _ (z _ ⋯)
 ·exact s1 _ Sa
 ·exact (al [] (fun _ h=>nomatch h) ⋯).1
 ·exact (al [] (fun _ h=>nomatch h) ⋯).2
 all_goals first
  |exact .str (.inr (.inr (.inr (.inr rfl))))
  |(refine (al _ (fun x hx=>?_) ⋯).1;simp only[mem_cons,not_mem_nil,or_false] at hx;rcases hx with rfl|rfl|rfl<;>first|exact s _ (z _ ⋯)|exact .bool _)
  |(refine (al _ (fun x hx=>?_) ⋯).1;simp only[mem_cons,not_mem_nil,or_false] at hx;rcases hx with rfl|rfl<;>first|exact s _ (z _ ⋯)|exact .bool _)
  |(refine (al _ (fun x hx=>?_) ⋯).2;simp only[mem_cons,not_mem_nil,or_false] at hx;rcases hx with rfl|rfl|rfl<;>first|exact s _ (z _ ⋯)|exact .bool _)
  |(refine (al _ (fun x hx=>?_) ⋯).2;simp only[mem_cons,not_mem_nil,or_false] at hx;rcases hx with rfl;first|exact s _ (z _ ⋯)|exact .bool _)
theorem Th.mono{b l n b' l' n':Nat}{t:PyData}(h:Th b l n t)(hb:b<=b')(hl:l<=l')(hn:n<=n'):Th b' l' n' t:=by
 induction h generalizing n' with
 |non=>exact .non
 |bool x=>exact .bool x
 |int h=>exact .int (h.mono hb)
 |str h=>exact .str h
 |tup a _ ih=>
  obtain⟨k,rfl⟩:∃k,n'=k+1:=⟨n'-1,∅⟩
  exact .tup ∅ fun x hx=>ih x hx ∅
 |lst a _ ih=>
  obtain⟨k,rfl⟩:∃k,n'=k+1:=⟨n'-1,∅⟩
  exact .lst ∅ fun x hx=>ih x hx ∅
theorem GR{b l n:Nat}{t:PyData}{xs:List PyData}(h:Th b l n t)(e:t = .tuple xs\/t = .list xs):∃k,n=k+1/\xs.length<=l/\∀x∈xs,Th b l k x:=by
 rcases e with rfl|rfl
 ·cases h with
  |tup a g=>exact⟨_,rfl,a,g⟩
 ·cases h with
  |lst a g=>exact⟨_,rfl,a,g⟩
theorem MZ{b l n:Nat}{x:PyData}{ys:List PyData}(e:x = .tuple ys\/x = .list ys)(hl:ys.length<=l)(h:∀y∈ys,Th b l n y):Th b l (n+1) x:=by
 rcases e with rfl|rfl
 ·exact .tup hl h
 ·exact .lst hl h
theorem CH{b b':Nat}(h1:b+10<=b')(h2:200<=b'){t x:PyData}(h:Ben t x):∀{n:Nat},Th b 500 n t->Th b' 600 (n+1) x:=by
 induction h with
 |odd h=>intro n _;exact (GN h2 ⋯ h).mono (Nat.le_refl _) (Nat.le_refl _) ∅
 |@int i j h=>
  intro n g
  have z:=g.sz
  refine .int (Sz.of ?_)
  have l:=z.lt
  have p:2 ^ b*1024<=2 ^ b':=by
   have:2 ^ (b+10)<=2 ^ b':=Nat.pow_le_pow_right ⋯ h1
   rw[Nat.pow_add] at this
   exact this
  have p0:0<2 ^ b:=Nat.pow_pos ⋯
  generalize 2 ^ b=N at *
  omega
 |part e1 e2 g1 g2 _=>
  intro n g
  obtain⟨k,rfl,a,c⟩:=GR g e1
  exact MZ e2 ∅ fun y hy=>(c y (g1 y hy)).mono ∅ ⋯ ∅
 |@set t x v y xs i e1 hv hb e2 ih=>
  intro n g
  obtain⟨k,rfl,a,c⟩:=GR g e1
  refine MZ e2 (by rw[length_set];omega) fun w hw=>?_
  rcases List.mem_or_eq_of_mem_set hw with hw|rfl
  ·exact (c w hw).mono ∅ ⋯ ∅
  ·exact ih (c v (mem_of_getElem? hv))
noncomputable def sW(n:Nat):DSp:=fun ds U Q=>∃(a:Addr) (t:PyData) (k:Nat),ds=[.m a,.v t]/\Bag U a/\n=k+1/\Th 340 500 k t/\(∀x Y,Ben t x->fR a U Y->Q (.v x) Y)/\(∀b xs Y,U b=none->Y b=some xs->Ben t (.list xs)->fR a U Y->Q (.m b) Y)
theorem zl{n:Nat}{U:Mu}{Q:DK}{ds:List D}(h:sW n ds U Q):ds.length=2:=by obtain⟨_,_,_,rfl,_⟩:=h;rfl
noncomputable def dE(n:Nat):DSp:=fun ds U Q=>∃(a:Addr) (t:PyData) (k:Nat),ds=[.m a,.v t]/\Bag U a/\n=k+1/\Th 340 500 k t/\(∀x Y,Ben t x->fR a U Y->Q (.v x) Y)
theorem Al{U:Mu}{Q:DK}{ds:List D}(h:dE 0 ds U Q):False:=by obtain⟨_,_,_,_,_,h,_⟩:=h;omega
theorem fR.off{a b:Addr}{U Y:Mu}(hb:Bag U a)(n:U b=none)(h:fR a U Y):fR a U (u7 Y b):=by
 have ab:a≠b:=fun z=>by obtain⟨g,m,e,_⟩:=hb;rw[z,n] at e;cases e
 refine⟨?_,fun c hc ds e=>?_⟩
 ·obtain⟨g,m,e,z⟩:=h.1
  exact⟨g,m,by rw[uT ab];exact e,z⟩
 ·have cb:c≠b:=fun z=>by rw[z,n] at e;cases e
  rw[uT cb];exact h.2 c hc ds e
theorem vo{n:Nat}{ds:List D}{U:Mu}{Qd:DK}(h:dE n ds U Qd):sW n ds U (R7 U Qd):=by
 obtain⟨a,t,k,rfl,hb,e,th,q⟩:=h
 exact⟨a,t,k,rfl,hb,e,th,fun x Y bn st=>q x Y bn st,fun b xs Y nb eb bn st=>⟨nb,xs,eb,q _ _ bn (st.off hb nb)⟩⟩
noncomputable def ey(n:Nat):DTS:=
 (aP (bA (au bF (ae (ag 0) (ae (dCB dH (ae (ag 2) ao)) ao))) (az 3))
 (aP (bA (au bF (ae (ag 0) (ae (dC (.int 12)) ao))) (az 4))
 (aP (cJ (dB (dOp (cq false) (ag 4) (dC (.int 0)))) (bA (dOp fV (dSl (ag 2) ij (qM (ag 3))) (dSl (ag 2) (qM (ly (ag 3) (dC (.int 1)))) ij)) (az 2)) (cJ (dB (dOp (cq false) (ag 4) (dC (.int 1)))) (bA (dOp fV (dSl (ag 2) ij (qM (dOp fV (ag 3) (dC (.int 1))))) (dSl (ag 2) (qM (ag 3)) ij)) (az 2)) (cJ (dB (dOp (cq false) (ag 4) (dC (.int 2)))) (bA (RY (ag 2)) (az 2)) (bA (au (dE n) (ae (ag 0) (ae (dOp aA (ag 2) (ag 3)) ao))) (D5 (ag 2) (ag 3))))))
 (aY (dIf (ku (dB (rF "list" (ag 1))) (dB (dOp (cq false) (ag 4) (dC (.int 3))))) (ag 2) (dCB lW (ae (ag 2) ao)))))))
noncomputable def iK(n:Nat):DTS:=
 (aP (cJ (j0 (dB (Lc (ag 1))) (j0 (dB (dOp rGt (dCB dH (ae (ag 1) ao)) (dC (.int 0)))) (dB (dOp rGt (au bF (ae (ag 0) (ae (dC (.int 5)) ao))) (dC (.int 0)))))) (aP (bA (dCB wN (ae (ag 1) ao)) (az 2))
 (ey n)) bM)
 (aP (cJ (j0 (dB (au el (ae (ag 1) ao))) (dB (dOp rGt (au bF (ae (ag 0) (ae (dC (.int 3)) ao))) (dC (.int 0))))) (aY (dOp aA (iF (ae (dOp fV (ag 1) (dC (.int 1))) (ae (qD (ag 1) (dC (.int 1))) (ae (qD (dC (.int 0)) (ag 1)) (ae (cj (ag 1) (dC (.int 2))) (ae (dC (.int 0)) (ae (dC (.int 1)) ao))))))) (au bF (ae (ag 0) (ae (dC (.int 6)) ao))))) bM)
 (aY (au rW (ae (ag 0) ao)))))
section
variable {U:Mu}{Qd:DK}{ds:List D}{Xk:Mu->Prop}
theorem LH{xs:List PyData}{i:Nat}(h:i<=xs.length):kS xs none (some (i:Int))=xs.take i:=by
 unfold kS
 rw[HT.FW,HT.IB,Nat.min_eq_left h]
 simp
theorem KA{xs:List PyData}{i:Nat}(h:i<=xs.length):kS xs (some (i:Int)) none=xs.drop i:=by
 unfold kS
 rw[HT.FW,HT.IB,Nat.min_eq_left h]
 exact List.take_of_length_le (by simp)
theorem slM{r:Addr}{xs:List PyData}{lo hi:Option Int}{U:Mu}{Q:DK}(h:U r=some xs)(q:Q (.v (.list (kS xs lo hi))) U):JM (D.m r) lo hi U Q:=by
 unfold JM
 dsimp only
 rw[h]
 exact q
theorem sL(n:Nat){a r:Addr}{t:PyData}{xs:List PyData}{k:Nat}{ac:Mu}{Dd:Fm}(hs:t = .tuple xs\/t = .list xs)(hl:0<xs.length)(hn:n=k+1)(l5:xs.length<=500)(th:∀x∈xs,Th 340 500 k x)(hb:Bag U a)(st:fR a U ac)(rn:U r=none)(ra:r≠a)(hr:ac r=some xs)
  (q1:∀x Y,Ben t x->fR a U Y->Dd.rt (.v x) Y) (q2:∀b xs Y,U b=none->Y b=some xs->Ben t (.list xs)->fR a U Y->Dd.rt (.m b) Y) :
  ey n Dd [some (.m a),some (.v t),some (.m r),none,none] ac:=by
 unfold ey
 walk_at "rn"
 rw[hr]
 dsimp only
 refine⟨a,_,rfl,∅,∅,st.1,fun i ad i0 i1 s2=>?_⟩
 walk_at "rn"
 refine⟨a,12,rfl,⋯,⋯,s2.1,fun w db w0 w1 s3=>?_⟩
 walk_at "rn"
 have S3:fR a U db:=st.trans (s2.w.trans s3.w)
 have hr3:db r=some xs:=by rw[s3.2 r ra,s2.2 r ra];exact hr
 obtain⟨j,rfl⟩:∃j:Nat,i=j:=⟨i.toNat,∅⟩
 have hj:j<xs.length:=by omega
 have fin:∀ys:List PyData,(∀y∈ys,y∈xs)->ys.length<=xs.length+1->(ys.length≠xs.length\/ys=xs.reverse)->Dd.rt (.v (.list ys)) db/\Dd.rt (.v (.tuple ys)) db:=fun ys h1 h2 h3=>
  ⟨q1 _ _ (.part hs (.inr rfl) h1 h2 h3) S3,q1 _ _ (.part hs (.inl rfl) h1 h2 h3) S3⟩
 split
 ·refine slM hr3 (slM hr3 ?_)
  rw[LH ∅,show ((j:Int)+1)=((j+1:Nat):Int) by omega,KA ∅]
  walk_at "rn"
  obtain⟨f1,f2⟩:=fin (xs.take j++xs.drop (j+1)) (fun y hy=>by
   rcases List.mem_append.mp hy with h|h
   ·exact List.mem_of_mem_take h
   ·exact List.mem_of_mem_drop h) (by simp;omega) (.inl (by simp;omega))
  refine⟨by simp;omega,?_⟩
  split
  ·exact f1
  ·split
   ·exact f1
   ·exact f2
 ·split
  ·refine slM hr3 (slM hr3 ?_)
   rw[show ((j:Int)+1)=((j+1:Nat):Int) by omega,LH ∅,KA ∅]
   walk_at "rn"
   obtain⟨f1,f2⟩:=fin (xs.take (j+1)++xs.drop j) (fun y hy=>by
    rcases List.mem_append.mp hy with h|h
    ·exact List.mem_of_mem_take h
    ·exact List.mem_of_mem_drop h) (by simp;omega) (.inl (by simp;omega))
   refine⟨by simp;omega,?_⟩
   split
   ·exact f1
   ·split
    ·exact f1
    ·exact f2
  ·split
   ·rw[hr3]
    dsimp only
    obtain⟨f1,f2⟩:=fin xs.reverse (fun y hy=>List.mem_reverse.mp hy) (by simp) (.inr rfl)
    split
    ·exact f1
    ·split
     ·exact f1
     ·exact f2
   ·rw[hr3]
    dsimp only
    have ix:ixN xs.length (j:Int)=some j:=by
     unfold ixN
     rw[if_pos ∅,if_pos ∅,toNat_natCast]
    have ea:atI xs (j:Int)=some xs[j]:=by
     unfold atI
     rw[ix,bind_some,List.getElem?_eq_getElem hj]
    rw[ea]
    dsimp only
    refine⟨a,xs[j],k,rfl,s3.1,hn,th _ (List.getElem_mem hj),fun y dL bn s4=>?_⟩
    dsimp only
    have hr4:dL r=some xs:=s4.2 r ra xs hr3
    rw[hr4]
    dsimp only
    rw[ix]
    dsimp only
    have S4:fR a U (aR dL r (xs.set j y)):=by
     have z:=S3.trans s4
     refine⟨?_,fun c hc ds e=>?_⟩
     ·obtain⟨g,m,e,zz⟩:=z.1
      exact⟨g,m,by rw[bZ (fun h=>ra h.symm)];exact e,zz⟩
     ·have cr:c≠r:=fun h=>by rw[h,rn] at e;cases e
      rw[bZ cr];exact z.2 c hc ds e
    have gv:xs[j]? = some xs[j]:=List.getElem?_eq_getElem hj
    have B1:Ben t (.list (xs.set j y)):=.set hs gv bn (.inr rfl)
    have B2:Ben t (.tuple (xs.set j y)):=.set hs gv bn (.inl rfl)
    split
    ·exact q2 r _ _ rn aV B1 S4
    ·split
     ·exact q2 r _ _ rn aV B1 S4
     ·rw[aV]
      exact q1 _ _ B2 S4
theorem xc(n:Nat)(h:sW (n+1) ds U Qd):iK n {nx:=fun _ Y=>Qd (.v .none) Y,rt:=Qd} (aO ["","","","",""] ds) U:=by
 obtain⟨a,t,k,rfl,hb,e,th,q1,q2⟩:=h
 obtain rfl:n=k:=by omega
 have od:∀ad,fR a U ad->rW [.m a] ad Qd:=fun ad s2=>⟨a,rfl,s2.1,fun x db hx s3=>q1 _ _ (.odd hx) (s2.trans s3.w)⟩
 have tl:∀ac,fR a U ac->el [D.v t] ac (fun d ac=>match d with
   |D.v (PyData.bool k)=>if k=true then bF [D.m a,D.v (PyData.int 3)] ac (fun x ac=>rGt x (D.v (PyData.int 0)) ac fun d ac=>match d with
     |D.v (PyData.bool k)=>if k=true then fV (D.v t) (D.v (PyData.int 1)) ac fun x ac=>vW (fun i j=>PyData.int (i-j)) (D.v t) (D.v (PyData.int 1)) ac fun x_1 ac=>vW (fun i j=>PyData.int (i-j)) (D.v (PyData.int 0)) (D.v t) ac fun x_2 ac=>rII MulOk (fun i j=>PyData.int (i*j)) (D.v t) (D.v (PyData.int 2)) ac fun x_3 ac=>match du [x,x_1,x_2,x_3,D.v (PyData.int 0),D.v (PyData.int 1)] with
       |some xs=>bF [D.m a,D.v (PyData.int 6)] ac fun y ad=>aA (D.v (PyData.list xs)) y ad Qd
       |none=>False
      else rW [D.m a] ac Qd
     |_=>False)
    else rW [D.m a] ac Qd
   |_=>False):=by
  intro ac st
  refine⟨t,rfl,?_⟩
  dsimp only
  cases hw:isWhole t with
  |false=>rw[if_neg ⋯];exact od _ st
  |true=>
   obtain⟨i,rfl⟩:=vO hw
   rw[if_pos rfl]
   refine⟨a,3,rfl,⋯,⋯,st.1,fun r ad r0 r1 s2=>?_⟩
   have S2:=st.trans s2.w
   show (if decide (0<r)=true then _ else _)
   split
   ·walk_at "rn"
    refine⟨gU th.sz (Sz.of (n:=2) (i:=2) ⋯) ⋯,?_⟩
    refine⟨a,6,rfl,⋯,⋯,S2.1,fun r' db r0' r1' s3=>?_⟩
    walk_at "rn"
    have S3:=S2.trans s3.w
    have g:∀j:Int,(j=i+1\/j=i-1\/j=0-i\/j=i*2\/j=0\/j=1)->Qd (.v (.int j)) db:=fun j h=>q1 _ _ (.int h) S3
    obtain rfl|rfl|rfl|rfl|rfl|rfl:r'=0\/r'=1\/r'=2\/r'=3\/r'=4\/r'=5:=by omega
    ·exact g _ (.inl rfl)
    ·exact g _ (.inr (.inl rfl))
    ·exact g _ (.inr (.inr (.inl rfl)))
    ·exact g _ (.inr (.inr (.inr (.inl rfl))))
    ·exact g _ (.inr (.inr (.inr (.inr (.inl rfl)))))
    ·exact g _ (.inr (.inr (.inr (.inr (.inr rfl)))))
   ·exact od _ S2
 have sq:∀xs,t = .tuple xs\/t = .list xs->0<xs.length->∀{ad:Mu} {Dd:Fm},fR a U ad->Dd.rt=Qd->∀p,ad p=none->ey n Dd [some (.m a),some (.v t),some (.m p),none,none] (aR ad p xs):=by
  intro xs hs hl ad Dd s2 hD p hp
  obtain⟨k,rfl,l5,g⟩:=GR th hs
  have pa:p≠a:=fun z=>by obtain⟨_,_,e,_⟩:=s2.1;rw[<- z,hp] at e;cases e
  have pn:U p=none:=by
   cases z:U p with
   |none=>rfl
   |some ds=>rw[s2.2 p pa ds z] at hp;cases hp
  refine sL (k+1) hs hl rfl l5 g hb ?_ pn pa aV (by rw[hD];exact q1) (by rw[hD];exact q2)
  refine⟨?_,fun c hc ds e=>?_⟩
  ·obtain⟨g,m,e,zz⟩:=s2.1
   exact⟨g,m,by rw[bZ (fun h=>pa h.symm)];exact e,zz⟩
  ·have cr:c≠p:=fun h=>by rw[h,pn] at e;cases e
   rw[bZ cr];exact s2.2 c hc ds e
 have s0:fR a U U:=⟨hb,fun _ _ _ e=>e⟩
 unfold iK
 walk_at "rn"
 rw[Qc]
 walk_at "rn"
 by_cases ht:∃xs,t = .tuple xs\/t = .list xs
 ·obtain⟨xs,hs⟩:=ht
  have et:(isT "tuple" t || isT "list" t)=true:=by rcases hs with rfl|rfl<;>rfl
  have ln:∀Q:DK,dH [D.v t] U Q=Q (.v (.int (xs.length:Nat))) U:=by intro Q;rcases hs with rfl|rfl<;>rfl
  have lm:∀(ad:Mu) (Q:DK),(∀p,ad p=none->Q (.m p) (aR ad p xs))->wN [D.v t] ad Q:=by intro ad Q h;rcases hs with rfl|rfl<;>exact h
  rw[et,if_pos rfl,ln]
  show (if decide (0<((xs.length:Nat):Int))=true then _ else _)
  split
  ·rename_i hl
   refine⟨a,5,rfl,⋯,⋯,hb,fun r ad r0 r1 s2=>?_⟩
   have S2:=s0.trans s2.w
   show (if decide (0<r)=true then _ else _)
   split
   ·exact lm _ _ fun p hp=>sq xs hs (by simpa using hl) S2 rfl p hp
   ·exact tl _ S2
  ·exact tl _ s0
 ·have et:(isT "tuple" t || isT "list" t)=false:=by cases t<;>first|rfl|exact absurd ⟨_,.inl rfl⟩ ht|exact absurd ⟨_,.inr rfl⟩ ht
  rw[et,if_neg ⋯]
  exact tl _ s0
end
structure LR(c:PyData):Prop where
 th:Th 340 500 2 c
 fo:(∃i s,c = .tuple [.str "mixed",.int i,dN s])\/(∃w h,c = .tuple [.str "squares",dN w,dN h]/\Bd 60 w/\Bd 60 h)
structure PR(d:Int)(ks:List N3)(c p:PyData):Prop where
 bc:LR c
 tp:Th 340 500 2 p
 ho:pZ d ks p c=true
noncomputable def yo:DSp:=fun ds U Q=>∃(a:Addr) (d:Int) (ks:List N3),ds=[.m a,.v (.int d),.v (.tuple (ks.map dN))]/\aH d/\KindsOk d ks/\Bag U a/\∀c0 p0 c1 p1 c2 p2 c3 p3 Y,PR d ks c0 p0->PR d ks c1 p1->PR d ks c2 p2->PR d ks c3 p3->fR a U Y->Q (.v (.list [.tuple [c0,p0],.tuple [c1,p1],.tuple [c2,p2],.tuple [c3,p3]])) Y
theorem EG{U:Mu}{Q:DK}{ds:List D}(h:yo ds U Q):ds.length=3:=by obtain⟨_,_,_,rfl,_⟩:=h;rfl
noncomputable def mq:DTS:=
 (aP (bA (au bF (ae (ag 0) (ae (dCB dH (ae (ag 2) ao)) ao))) (az 3))
 (aP (bA (dOp aA (ag 2) (ag 3)) (az 4))
 (aP (AX 5 6 (ae (au uj (ae (ag 0) ao)) (ae (dOp aA (iF (ae (au uj (ae (ag 0) ao)) (ae (bG (ae (dC (.int 0)) (ae (dC (.int 0)) (ae (dC (.int 1)) ao)))) ao))) (vi (au bF (ae (ag 0) (ae (dC (.int 3)) ao))) (dC (.int 2)))) ao)))
 (aP (bA (au oY (ae (au cw (ae (ag 1) (ae (ag 5) (ae (ag 4) ao)))) (ae (au cw (ae (ag 1) (ae (ag 6) (ae (au cK (ae (ag 1) (ae (ag 4) ao))) ao)))) ao))) (az 7))
 (aP (bA (au kR (ae (ag 0) (ae (ag 1) ao))) (az 8))
 (aP (bA (au cw (ae (ag 1) (ae (ag 8) (ae (bG (ae (ly (dC (.int 1)) (au bF (ae (ag 0) (ae (dOp aA (iF (ae (dC (.int 60)) (ae (dC (.int 9999)) ao))) (au bF (ae (ag 0) (ae (dC (.int 2)) ao)))) ao)))) (ae (dC (.int 0)) (ae (dC (.int 1)) ao)))) ao)))) (az 9))
 (aP (bA (au cw (ae (ag 1) (ae (ag 8) (ae (bG (ae (ly (dC (.int 1)) (au bF (ae (ag 0) (ae (dOp aA (iF (ae (dC (.int 60)) (ae (dC (.int 9999)) ao))) (au bF (ae (ag 0) (ae (dC (.int 2)) ao)))) ao)))) (ae (dC (.int 0)) (ae (dC (.int 1)) ao)))) ao)))) (az 10))
 (aY (iF (ae (bG (ae (bG (ae (dC (.str "mixed")) (ae (ag 3) (ae (ag 7) ao)))) (ae (bG (ae (ag 5) (ae (ag 6) ao))) ao))) (ae (bG (ae (bG (ae (dC (.str "mixed")) (ae (ag 3) (ae (ag 7) ao)))) (ae (dSl (au q9 (ae (ag 1) (ae (ag 4) (ae (ag 7) ao)))) (qM (dC (.int 1))) ij) ao))) (ae (bG (ae (bG (ae (dC (.str "squares")) (ae (ag 9) (ae (ag 10) ao)))) (ae (dOp aA (au yK (ae (ag 1) (ae (ag 9) (ae (ag 10) ao)))) (dC (.int 1))) ao))) (ae (bG (ae (bG (ae (dC (.str "squares")) (ae (ag 10) (ae (ag 9) ao)))) (ae (dOp aA (au yK (ae (ag 1) (ae (ag 9) (ae (ag 10) ao)))) (dC (.int 1))) ao))) ao)))))))))))))
section
variable {d:Int}{k s m u v:N3}
theorem D9(h:norm d k≠0):Lay d k k:=by
 rcases lt_or_gt_of_ne h with z|z
 ·exact .inr ⟨z,z,by rw[mul_comm];exact le_refl _⟩
 ·exact .inl ⟨z,z,by rw[mul_comm];exact le_refl _⟩
theorem Rf(ok:Ok k)(nk:norm d k≠0)(hl:¬ (times d k k).b=0):j8 d k k=one/\j7 d k k=aE/\j8 d k (ay d k)=aE/\j7 d k (ay d k)=one:=by
 have h':k.a*k.b≠0:=fun z=>hl ((dM ok).mpr z)
 have oc:=aC nk
 have o1:=wC (d:=d) ok ok nk
 have o2:=wa (d:=d) ok ok nk
 have o3:=wC (d:=d) ok oc nk
 have o4:=wa (d:=d) ok oc nk
 rw[rY hl] at o1 o3 ⊢
 rw[rS hl] at o2 o4 ⊢
 rw[rY hl,rS hl]
 refine⟨?_,?_,?_,?_⟩
 ·refine Rep.eq o1 sY (uA ok ok nk (aj ok) (aj ok) h') (aj sY) ?_ ?_
  ·show k.c*(k.a*k.b+k.b*k.a)*1=1*_;grind
  ·show 0*1=0*_;grind
 ·refine Rep.eq o2 bV (rH ok ok nk (aj ok) (aj ok) h') (aj bV) ?_ ?_
  ·show _*(k.a*k.b-k.b*k.a)*1=0*_;grind
  ·show 0*1=0*_;grind
 ·refine Rep.eq o3 bV (uA ok oc nk (aj ok) (rA nk) h') (aj bV) ?_ ?_
  ·show k.c*(k.c*k.a*k.b + -k.c*k.b*k.a)*1=0*_;grind
  ·show 0*1=0*_;grind
 ·refine Rep.eq o4 sY (rH ok oc nk (aj ok) (rA nk) h') (aj sY) ?_ ?_
  ·show norm d k*(k.c*k.a*k.b - -k.c*k.b*k.a)*1=1*(2*(norm d k*k.c*(k.a*k.b)));grind
  ·show 0*1=0*_;grind
def kT(d:Int)(u v k:N3):N3:=plus (times d u k) (times d v (ay d k))
theorem Qt(ok:Ok k)(nk:norm d k≠0)(hl:¬ (times d k k).b=0)(ou:Ok u)(ov:Ok v)(ub:u.b=0)(vb:v.b=0):j8 d k (kT d u v k)=u/\j7 d k (kT d u v k)=v:=by
 have oc:=aC nk
 obtain⟨a,b,c,e⟩:=Rf ok nk hl
 unfold kT
 rw[yV ou ok,yV ov oc,Ki ok (av ok ou) (av oc ov) nk,Ma ok (av ok ou) (av oc ov) nk,GG ok ok ou nk ub,GG ok oc ov nk vb,G5 ok ok ou nk ub,G5 ok oc ov nk vb,a,b,c,e,Qh ou,N6 ov,N6 ou,Qh ov,R6 ou,Sb ov]
 exact⟨rfl,rfl⟩
theorem K3(hd:aH d)(ok:Ok k)(hk:sg d k.a k.b=1):eg d k k=true/\eg d k (ay d k)=true:=by
 have nk:=bQ hd ok hk
 exact⟨(BZ hd ok ok hk hk).mpr (D9 nk),(BZ hd ok (aC nk) hk (gJ hd ok hk)).mpr ((Ou (CG ok nk)).mpr (D9 nk))⟩
theorem Bl(ok:Ok k)(os:Ok s)(ou:Ok u)(nk:norm d k≠0)(h:eg d k s=true)(hu:aZ d u=true):eg d k (times d s u)=true:=by
 unfold eg at *
 rw[and_eq_true] at *
 rw[GG ok os ou nk (nP hu),G5 ok os ou nk (nP hu)]
 exact⟨xn (wC ok os nk) ou h.1 hu,xn (wa ok os nk) ou h.2 hu⟩
theorem NP(hd:aH d)(ok:Ok k)(hk:sg d k.a k.b=1)(ou:Ok u)(ov:Ok v)(hu:aZ d u=true)(hv:aZ d v=true):eg d k (kT d u v k)=true:=by
 have nk:=bQ hd ok hk
 have oc:=aC nk
 obtain⟨a,b⟩:=K3 hd ok hk
 unfold kT
 rw[yV ou ok,yV ov oc]
 exact Md ok (av ok ou) (av oc ov) nk (Bl ok ok ou nk a hu) (Bl ok oc ov nk b hv)
theorem BE(ok:Ok k)(nk:norm d k≠0):norm d (times d k k)≠0/\ay d (times d k k)=times d (ay d k) (ay d k):=by
 have o2:=av (d:=d) ok ok
 have oc:=aC nk
 have r:=Rep.times (d:=d) ok ok (aj ok) (aj ok)
 have n2:norm d (times d k k)≠0:=fun z=>by
  have h:=r.norm (d:=d)
  rw[z,zero_mul] at h
  have e:(k.a*k.a+d*k.b*k.b)*(k.a*k.a+d*k.b*k.b)-d*(k.a*k.b+k.b*k.a)*(k.a*k.b+k.b*k.a)=norm d k*norm d k:=by unfold norm;grind
  rw[e] at h
  exact mul_ne_zero (mul_ne_zero nk nk) (mul_ne_zero o2.cn o2.cn) h.symm
 refine⟨n2,?_⟩
 have e:=r.ay o2 n2
 have f:=Rep.times (d:=d) oc oc (rA nk) (rA nk)
 refine Rep.eq (aC n2) (av oc oc) e f ?_ ?_
 ·have e1:(k.a*k.a+d*k.b*k.b)*(k.a*k.a+d*k.b*k.b)-d*(k.a*k.b+k.b*k.a)*(k.a*k.b+k.b*k.a)=norm d k*norm d k:=by unfold norm;grind
  rw[e1]
  grind
 ·have e1:(k.a*k.a+d*k.b*k.b)*(k.a*k.a+d*k.b*k.b)-d*(k.a*k.b+k.b*k.a)*(k.a*k.b+k.b*k.a)=norm d k*norm d k:=by unfold norm;grind
  rw[e1]
  grind
theorem Ra(ok:Ok k)(nk:norm d k≠0)(hl:(times d k k).b=0)(ou:Ok u)(ov:Ok v):j8 d k (kT d u v k)=plus u (times d v (ay d (times d k k)))/\j7 d k (kT d u v k)=aE:=by
 have oc:=aC nk
 rw[o8 hl,o7 hl]
 refine⟨?_,rfl⟩
 unfold shA kT
 rw[Uc oc (av ou ok) (av ov oc),CS ou ok oc,iw ok nk,O6 ou,CS ov oc oc,(BE ok nk).2]
theorem Rw(hd:aH d)(ok:Ok k)(hk:sg d k.a k.b=1)(ou:Ok u)(ov:Ok v)(hu:u=aE\/sg d u.a u.b=1)(hv:v=aE\/sg d v.a v.b=1)(hn:¬ (u=aE/\v=aE)):sg d (kT d u v k).a (kT d u v k).b=1:=by
 have nk:=bQ hd ok hk
 have oc:=aC nk
 have hc:=gJ hd ok hk
 unfold kT
 rcases hu with rfl|hu
 ·rw[N6 ok,Sb (av ov oc)]
  rcases hv with rfl|hv
  ·exact absurd ⟨rfl,rfl⟩ hn
  ·rw[gO hd ov oc,hv,hc];rfl
 ·have h1:sg d (times d u k).a (times d u k).b=1:=by rw[gO hd ou ok,hu,hk];rfl
  rcases hv with rfl|hv
  ·rw[N6 oc,R6 (av ou ok)];exact h1
  ·exact PJ hd (av ou ok) (av ov oc) h1 (by rw[gO hd ov oc,hv,hc];rfl)
end
section
variable {U:Mu}{Qd:DK}{ds:List D}{Xk:Mu->Prop}
theorem tq{b l n:Nat}{x:N3}(h:Bd b x)(hl:3<=l):Th b l (n+1) (dN x):=.tup (by show 3<=l;exact hl) fun y hy=>by
 simp only[mem_cons,not_mem_nil,or_false] at hy
 rcases hy with rfl|rfl|rfl
 ·exact .int h.a
 ·exact .int h.b
 ·exact .int h.c
theorem D6{d:Int}{u:N3}(hd:aH d)(f:Fr0 u):cS d (dN u)=true/\aZ d u=true:=by
 have e:cS d (dN u)=true:=by rw[CO hd f.ok,decide_eq_true f.b,decide_eq_true f.a0];rfl
 refine⟨e,?_⟩
 unfold cS at e
 rw[qL f.ok,Bool.true_and] at e
 exact e
theorem K4{u:N3}(f:Fr0 u):Bd 14 u:=⟨Sz.of (by have:=f.a0;have:=f.a1;show _<16384;omega),by rw[f.b];exact Sz.of ⋯,Sz.of (by have:=f.ok.c;have:=f.c1;show _<16384;omega)⟩
theorem J5{d:Int}{u:N3}{m n:Nat}(hd:aH d)(ou:Ok u)(su:sg d u.a u.b=1)(hm:0<m)(hn:0<n):shp d (Uq d u m) (Uq d u n)=low n 0 m:=by
 have mz:(m:Int)≠0:=by omega
 have ow:=Ia (d:=d) (i:=m) ou
 have nw:=bQ hd ow (Ga hd ou su hm)
 have oc:=aC nw
 have oy:Ok (low n 0 m):=hW _ _ mz
 have e:Uq d u n=times d (low n 0 m) (Uq d u m):=
  Rep.eq (Ia ou) (av oy ow) (Mk ou) ((fN mz).times (d:=d) oy ow (Mk ou)) (by grind) (by grind)
 unfold shp
 rw[e,CS oy ow oc,iw ow nw,O6 oy]
theorem RU{n m:Int}(h:m≠0):(low n 0 m).b=0:=by
 obtain⟨k,k0,_,_,e,_⟩:=jG n 0 h
 rcases Int.mul_eq_zero.mp e.symm with z|z
 ·exact absurd z k0
 ·exact z
theorem NQ{p q:Nat}(h:Ok ⟨p,0,q⟩)(hp:0<p):Ok ⟨q,0,p⟩:=by
 refine⟨by show (0:Int)<p;omega,?_⟩
 have g:=h.g
 unfold g3 at g ⊢
 simp only at g ⊢
 rw[Int.gcd_zero_right] at g ⊢
 simp only[Int.natAbs_natCast] at g ⊢
 rw[Int.gcd_comm]
 exact g
theorem NC:∀{r s:Nat} {cs:List Nat},Euc r s cs->s<=r->∀c∈cs,c<=r:=by
 intro r s cs h
 induction h with
 |nil r=>intro _ c hc;cases hc
 |@cons r s cs hs _ ih=>
  intro l c hc
  rcases List.mem_cons.mp hc with rfl|hc
  ·exact Nat.div_le_self _ _
  ·exact le_trans (ih (Nat.le_of_lt (mod_lt r hs)) c hc) l
theorem Nh{p q:Nat}{cs:List Nat}(g:Euc (max p q) (min p q) cs)(pb:p<2 ^ 192)(qb:q<2 ^ 192)(l:cs.length<=400):Th 340 500 2 (.list (jM cs)):=by
 refine .lst (by unfold jM;rw[length_map];omega) fun x hx=>?_
 obtain⟨c,hc,rfl⟩:=List.mem_map.mp hx
 have:=NC g ∅ c hc
 exact .int ((szN (n:=192) (i:=c) ∅).mono ⋯)
theorem Gj{cs:List Nat}:(jM cs).all isWhole=true:=List.all_eq_true.mpr fun x hx=>by
 obtain⟨c,_,rfl⟩:=List.mem_map.mp hx
 rfl
theorem Pn{d:Int}{ks:List N3}{w h x:N3}{p q:Nat}{cs:List Nat}(hd:aH d)(ow:Ok w)(oh:Ok h)(sw:sg d w.a w.b=1)(sh:sg d h.a h.b=1)(bw:Bd 60 w)(bh:Bd 60 h)(F:Fra (times d h (ay d w)) p q cs)(tp:Th 340 500 2 (.list (jM cs))):PR d ks (.tuple [.str "squares",dN w,dN h]) (.list (jM cs)):=by
 refine⟨⟨.tup (by show 3<=500;decide) fun y hy=>?_,.inr ⟨w,h,rfl,bw,bh⟩⟩,tp,?_⟩
 ·simp only[mem_cons,not_mem_nil,or_false] at hy
  rcases hy with rfl|rfl|rfl
  ·exact .str (.inr (.inl rfl))
  ·exact tq (bw.mono ⋯) ⋯
  ·exact tq (bh.mono ⋯) ⋯
 ·rw[k7,eX oh,decide_eq_true sh,Bool.true_and,if_neg nofun,show PyData.eqv (.str "squares") (.str "squares")=true by decide +kernel,eX ow,decide_eq_true sw,fh,fh,qX,BU F,Gj,Fd BS]
  rw[decide_eq_true (by rw[F.e])];rfl
theorem KU{d:Int}{ks:List N3}{s u v:N3}{i:Nat}(hd:aH d)(hi:i<ks.length)(i3:i<3)(os:Ok s)(ss:sg d s.a s.b=1)(bs:Bd 340 s)(ou:Ok u)(ov:Ok v)(hu:aZ d u=true)(hv:aZ d v=true)(bu:Bd 340 u)(bv:Bd 340 v)
  (e:plus (times d u (ks.getD i aE)) (times d v (ay d (ks.getD i aE)))=s):PR d ks (.tuple [.str "mixed",.int i,dN s]) (.tuple [dN u,dN v]):=by
 refine⟨⟨.tup (by show 3<=500;decide) fun y hy=>?_,.inl ⟨_,_,rfl⟩⟩,.tup (by show 2<=500;decide) fun y hy=>?_,?_⟩
 ·simp only[mem_cons,not_mem_nil,or_false] at hy
  rcases hy with rfl|rfl|rfl
  ·exact .str (.inl rfl)
  ·exact .int ((szN (n:=2) (i:=i) (by show _<4;omega)).mono ⋯)
  ·exact tq bs ⋯
 ·simp only[mem_cons,not_mem_nil,or_false] at hy
  rcases hy with rfl|rfl
  ·exact tq bu ⋯
  ·exact tq bv ⋯
 ·rw[k7,eX os,decide_eq_true ss,Bool.true_and,if_pos nofun]
  have e1:nD ks.length (.int i)=true:=by
   show (decide (0<=(i:Int))&&decide ((i:Int)<ks.length))=true
   rw[decide_eq_true ∅,decide_eq_true ∅];rfl
  have e2:BJ d ks (dN s) (.tuple [dN u,dN v]) (.int i)=yQ d (ks.getD i aE) s (.tuple [dN u,dN v]):=by
   have z:(i:Int).toNat=i:=toNat_natCast i
   have z2:BJ d ks (dN s) (.tuple [dN u,dN v]) (.int i)=yQ d (ks.getD (i:Int).toNat aE) s (.tuple [dN u,dN v]):=rfl
   rw[z2,z]
  have e3:cS d (dN u)=true:=by unfold cS;rw[qL ou,fh,hu];rfl
  have e4:cS d (dN v)=true:=by unfold cS;rw[qL ov,fh,hv];rfl
  rw[e1,e2,yT,e3,e4,fh,fh,decide_eq_true e];rfl
theorem So{m:Nat}(h:m<16384):Bd 14 ⟨m,0,1⟩:=⟨szN (n:=14) h,Sz.of (by show (0:Int).natAbs<_;decide),Sz.of (by show (1:Int).natAbs<_;decide)⟩
theorem QS{d:Int}{w h:N3}{p q:Nat}{cs:List Nat}(F:Om d w h p q cs):Fra (times d h (ay d w)) p q cs:=⟨F.e,F.p0,F.q0,lt_trans F.pb nofun,lt_trans F.qb nofun,F.g,by have:=F.l;omega⟩
theorem K0{d:Int}{u:N3}{m n p q:Nat}{cs:List Nat}(hd:aH d)(ou:Ok u)(su:sg d u.a u.b=1)(hm:0<m)(hn:0<n)(F:Om d (Uq d u m) (Uq d u n) p q cs)(ox:Ok (shp d (Uq d u m) (Uq d u n))):Fra (times d (Uq d u m) (ay d (Uq d u n))) q p cs:=by
 have E:low n 0 m=⟨p,0,q⟩:=(J5 hd ou su hm hn).symm.trans F.e
 have mz:(m:Int)≠0:=by omega
 have nz:(n:Int)≠0:=by omega
 have r:=fN (a:=n) (b:=0) mz
 rw[E] at r
 rw[F.e] at ox
 have os:=NQ ox F.p0
 have e:shp d (Uq d u n) (Uq d u m)=⟨q,0,p⟩:=by
  rw[J5 hd ou su hn hm]
  refine Rep.eq (hW _ _ nz) os (fN nz) (aj os) ?_ (by simp)
  have:=r.a
  simp only at this ⊢
  grind
 exact⟨e,F.q0,F.p0,lt_trans F.qb nofun,lt_trans F.pb nofun,by rw[Nat.max_comm,Nat.min_comm];exact F.g,by have:=F.l;omega⟩
theorem MD{d:Int}{u:N3}(hd:aH d)(f:Fr0 u)(h:0<u.a):sg d u.a u.b=1:=by
 rw[f.b]
 exact (eZ hd).mpr (.inl ⟨∅,∅,∅⟩)
theorem By:Fr0 aE:=⟨bV,rfl,⋯,⋯,⋯⟩
theorem Bw{a:Addr}{U:Mu}{Q:D->Mu->Prop}(hb:Bag U a)(q:∀(m:Nat) Y,0<m->m<16384->Step a U Y->Q (.v (.int (m:Nat))) Y) :
  bF [D.m a,D.v (PyData.int 2)] U fun y ad=>aA (D.v (PyData.list [PyData.int 60,PyData.int 9999])) y ad fun x ac=>bF [D.m a,x] ac fun y ad=>vW (fun i j=>PyData.int (i+j)) (D.v (PyData.int 1)) y ad Q:=by
 refine⟨a,2,rfl,⋯,⋯,hb,fun r ac r0 r1 s1=>?_⟩
 obtain⟨x,ex,x1,x2⟩:∃x:Int,atI [PyData.int 60,PyData.int 9999] r=some (.int x)/\1<=x/\x<=9999:=by
  obtain rfl|rfl:r=0\/r=1:=by omega
  ·exact⟨60,rfl,⋯,⋯⟩
  ·exact⟨9999,rfl,⋯,⋯⟩
 walk_at "rn"
 rw[ex]
 refine⟨a,x,rfl,x1,∅,s1.1,fun m ad m0 m1 s2=>?_⟩
 obtain⟨n,hn⟩:∃n:Nat,1+m=n:=⟨(1+m).toNat,∅⟩
 show Q (.v (.int (1+m))) ad
 rw[hn]
 exact q n ad ∅ ∅ ⟨s2.1,fun b hb=>by rw[s2.2 b hb,s1.2 b hb]⟩
theorem AM(h:yo ds U Qd):mq {nx:=fun _ Y=>Qd (.v .none) Y,rt:=Qd} (aO ["","","","","","","","","","",""] ds) U:=by
 obtain⟨a,d,ks,rfl,hd,K,hb,q⟩:=h
 unfold mq
 walk_at "rn"
 have kl:=K.l1
 have kl3:=K.l3
 refine⟨a,_,rfl,by rw[length_map];omega,by rw[length_map];omega,hb,fun r ac r0 r1 s1=>?_⟩
 rw[length_map] at r1
 obtain⟨i,rfl⟩:∃i:Nat,r=i:=⟨r.toNat,∅⟩
 have hi:i<ks.length:=by omega
 obtain⟨ok,bk,sk⟩:=K.ok _ (mem_getD hi)
 walk_at "rn"
 rw[Dm hi]
 dsimp only
 generalize hk:ks.getD i aE=k at *
 refine⟨a,rfl,s1.1,fun u ad fu up s2=>?_⟩
 refine⟨a,rfl,s2.1,fun v0 db fv vp s3=>?_⟩
 walk_at "rn"
 refine⟨a,3,rfl,⋯,⋯,s3.1,fun r' dL r0' r1' s4=>?_⟩
 walk_at "rn"
 refine⟨yA ⋯ (Sz.of (n:=2) ⋯) ⋯,?_⟩
 obtain⟨v,ev,fv',hv⟩:∃v,atI [dN v0,dN ⟨0,0,1⟩] (r'.fdiv 2)=some (dN v)/\Fr0 v/\(v=aE\/sg d v.a v.b=1):=by
  obtain rfl|rfl|rfl:r'=0\/r'=1\/r'=2:=by omega
  ·exact⟨v0,rfl,fv,.inr (MD hd fv vp)⟩
  ·exact⟨v0,rfl,fv,.inr (MD hd fv vp)⟩
  ·exact⟨aE,rfl,By,.inl rfl⟩
 rw[ev]
 dsimp only
 have s5:=sI hd.1 hd.2.1
 have nk:=bQ hd ok sk
 have oc:=aC nk
 have bu:=K4 fu
 have bv:=K4 fv'
 have bc:=bE s5 nk bk
 refine⟨d,u,k,rfl,s5,fu.ok,ok,bu.mono ⋯,bk.mono ⋯,?_⟩
 refine⟨d,k,rfl,s5,nk,bk.mono ⋯,?_⟩
 refine⟨d,v,_,rfl,s5,fv'.ok,oc,bv.mono ⋯,bc.mono ⋯,?_⟩
 have b1:=bJ s5 fu.ok ok bu bk
 have b2:=bJ s5 fv'.ok oc bv bc
 refine⟨_,_,rfl,av fu.ok ok,av fv'.ok oc,b1.mono ⋯,b2.mono ⋯,?_⟩
 have su:=MD hd fu up
 have hu:=(D6 hd fu).2
 have hvs:=(D6 hd fv').2
 have os:Ok (kT d u v k):=bW (av fu.ok ok) (av fv'.ok oc)
 have bs:Bd 227 (kT d u v k):=(Ik (av fu.ok ok) (av fv'.ok oc) b1 b2).mono ⋯
 have ss:sg d (kT d u v k).a (kT d u v k).b=1:=Rw hd ok sk fu.ok fv'.ok (.inr su) hv (fun z=>by
  have:=z.1
  rw[this] at up
  exact absurd up ⋯)
 have im:=NP hd ok sk fu.ok fv'.ok hu hvs
 rw[show plus (times d u k) (times d v (ay d k))=kT d u v k from rfl]
 have P0:PR d ks (.tuple [.str "mixed",.int i,dN (kT d u v k)]) (.tuple [dN u,dN v]):=KU hd hi ∅ os ss (bs.mono ⋯) fu.ok fv'.ok hu hvs (bu.mono ⋯) (bv.mono ⋯) (by rw[hk];rfl)
 have P1:PR d ks (.tuple [.str "mixed",.int i,dN (kT d u v k)]) (.tuple [dN (j8 d k (kT d u v k)),dN (j7 d k (kT d u v k))]):=by
  have im':=im
  unfold eg at im'
  rw[and_eq_true] at im'
  have bb:Bd 340 (j8 d k (kT d u v k))/\Bd 340 (j7 d k (kT d u v k)):=by
   by_cases hl:(times d k k).b=0
   ·obtain⟨e1,e2⟩:=Ra (d:=d) ok nk hl fu.ok fv'.ok
    rw[e1,e2]
    obtain⟨n2,_⟩:=BE (d:=d) ok nk
    have o2:=aC n2
    have b3:=bE s5 n2 (bJ s5 ok ok bk bk)
    exact⟨(Ik fu.ok (av fv'.ok o2) bu (bJ s5 fv'.ok o2 bv b3)).mono ⋯,(K4 By).mono ⋯⟩
   ·obtain⟨e1,e2⟩:=Qt (d:=d) ok nk hl fu.ok fv'.ok fu.b fv'.b
    rw[e1,e2]
    exact⟨bu.mono ⋯,bv.mono ⋯⟩
  exact KU hd hi ∅ os ss (bs.mono ⋯) (wC ok os nk) (wa ok os nk) im'.1 im'.2 bb.1 bb.2 (by rw[hk];exact Nd ok os nk)
 generalize hS:kT d u v k=s at *
 refine⟨a,d,rfl,hd,s4.1,fun x wv ox bx sx s5'=>?_⟩
 refine Bw s5'.1 fun m lv m0 m1 s6=>?_
 walk_at "rn"
 refine⟨d,x,⟨m,0,1⟩,rfl,s5,ox,Hk m,bx.mono ⋯,?_,?_⟩
 ·exact (So m1).mono ⋯
 refine Bw s6.1 fun n jp n0 n1 s7=>?_
 walk_at "rn"
 refine⟨d,x,⟨n,0,1⟩,rfl,s5,ox,Hk n,bx.mono ⋯,?_,?_⟩
 ·exact (So n1).mono ⋯
 walk_at "rn"
 rw[show times d x ⟨m,0,1⟩=Uq d x m from rfl,show times d x ⟨n,0,1⟩=Uq d x n from rfl]
 refine⟨d,k,s,rfl,hd,ok,bk.mono ⋯,sk,os,.of bs ⋯,ss,?_⟩
 rw[show Mg d k s = .tuple [.str "mixture",dN (j8 d k s),dN (j7 d k s)] by unfold Mg;rw[if_pos im]]
 walk_at "rn"
 have ow:=Ia (d:=d) (i:=m) ox
 have oh:=Ia (d:=d) (i:=n) ox
 have sw:=Ga hd ox sx m0
 have sh:=Ga hd ox sx n0
 have bw:Bd 60 (Uq d x m):=(OM (m:=14) s5 ox bx m1 ⋯).mono ⋯
 have bh:Bd 60 (Uq d x n):=(OM (m:=14) s5 ox bx n1 ⋯).mono ⋯
 have S:Me d (Uq d x m) (Uq d x n):=⟨hd,ow,oh,bw,bh,sw,sh⟩
 have hb0:(shp d (Uq d x m) (Uq d x n)).b=0:=by rw[J5 hd ox sx m0 n0];exact RU ∅
 obtain⟨p,q',cs,F⟩:=NV S hb0
 have tn:=Nh F.g F.pb F.qb F.l
 refine⟨d,_,_,p,q',cs,rfl,S,F,?_⟩
 walk_at "rn"
 refine⟨d,_,_,p,q',cs,rfl,S,F,?_⟩
 walk_at "rn"
 refine q _ _ _ _ _ _ _ _ _ P0 P1 (Pn (x:=x) hd ow oh sw sh bw bh (QS F) tn) (Pn (x:=x) hd oh ow sh sw bh bw (K0 hd ox sx m0 n0 F (av oh (aC (bQ hd ow sw)))) tn) ?_
 exact ((((((s1.w.trans s2.w).trans s3.w).trans s4.w).trans s5'.w).trans s6.w).trans s7.w)
end
noncomputable def Ge:DTS:=
 (aP (Jo (DY (ae (dCB (Af max) (ae (dC (.int 2)) (ae (dCB (Af min) (ae (dC (.int 5)) (ae (dCB dH (ae (ag 0) ao)) ao))) ao))) ao)) (az 1) (aP (bA (au Ii (ae (ag 0) (ae (ag 1) ao))) (az 2))
 (aP (bA (au yf (ae (ag 2) ao)) (az 3))
 (aP (bA (au u5 (ae (ag 2) (ae (ag 3) ao))) (az 4))
 (aP (bA (au yo (ae (ag 2) (ae (ag 3) (ae (ag 4) ao)))) (az 5))
 (aP (cJ (dB (dOp (cq true) (qH [none,none,some 3,some 4] (oK (ag 5)) (rM 2 (eY (az 0) (eY (az 1) uQ))) qc (au oj (ae (ag 2) (ae (ag 3) (ae (ag 0) (ae (ag 1) ao)))))) (dOp E6 (iF (ae (dC (.bool true)) ao)) (dC (.int 4))))) (aY (dC (.bool false))) bM)
 (aP (bA (dCB wN (ae (ag 5) ao)) (az 6))
 (aP (Jo (oK (ag 5)) (rM 2 (eY (az 7) (eY (az 8) uQ))) (pR (QD (ag 6) (iF (ae (bG (ae (ag 7) (ae (au (dE 3) (ae (ag 2) (ae (ag 8) ao))) ao))) (ae (bG (ae (ag 7) (ae (au (dE 3) (ae (ag 2) (ae (ag 8) ao))) ao))) (ae (bG (ae (ag 7) (ae (dOp aA (dOp aA (ag 5) (au bF (ae (ag 2) (ae (dC (.int 4)) ao)))) (dC (.int 1))) ao))) (ae (bG (ae (au (dE 3) (ae (ag 2) (ae (ag 7) ao))) (ae (ag 8) ao))) (ae (bG (ae (au (dE 3) (ae (ag 2) (ae (ag 7) ao))) (ae (ag 8) ao))) (ae (bG (ae (ag 7) (ae (au rW (ae (ag 2) ao)) ao))) (ae (bG (ae (au rW (ae (ag 2) ao)) (ae (ag 8) ao))) ao)))))))))))
 (aP (bA (au nI (ae (ag 2) (ae (ag 3) (ae (ag 4) ao)))) (az 9))
 (Jo (oK (dOp fV (ag 6) (Py (ag 6)))) (rM 2 (eY (az 7) (eY (az 8) uQ))) (aP (cJ (dq (dB (au ve (ae (ag 3) (ae (ag 4) (ae (ag 7) (ae (ag 8) ao))))))) (aY (dC (.bool false))) bM)
 (cJ (dB (dOp (cq true) (DD [some 3,some 9,some 7,some 8] (Iz va (ae (ag 0) (ae (ag 1) (ae (ag 2) (ae (ag 3) ao))))) "NoKinds") (dC (.str "NoKinds")))) (aY (dC (.bool false))) bM))))))))))))
 (aY (dC (.bool true))))
section
variable {U:Mu}{Qd:DK}{ds:List D}{Xk:Mu->Prop}
theorem K6{c:PyData}(h:c∈ib):CL c:=by
 refine⟨(GN (b:=350) (l:=600) ⋯ ⋯ h).mono (Nat.le_refl _) (Nat.le_refl _) ⋯,fun w g e=>?_⟩
 subst e
 unfold ib at h
 simp only[mem_cons,not_mem_nil,or_false] at h
 simp[dN] at h
theorem CY{c:PyData}(h:LR c):CL c:=by
 refine⟨h.th.mono ⋯ ⋯ ⋯,fun w g e=>?_⟩
 rcases h.fo with ⟨i,s,e'⟩|⟨w',h',e',b1,b2⟩
 ·rw[e'] at e
  simp only[PyData.tuple.injEq,List.cons.injEq,PyData.str.injEq] at e
  exact absurd e.1 nofun
 ·rw[e'] at e
  simp only[PyData.tuple.injEq,List.cons.injEq,and_true,true_and] at e
  have e1:w'=w:=nU e.1
  have e2:h'=g:=nU e.2
  subst e1 e2
  exact .inl ⟨b1,b2.mono ⋯⟩
theorem MT{c x:PyData}(h:LR c)(b:Ben c x):CL x:=by
 refine⟨(CH (b:=340) (b':=350) ⋯ ⋯ b h.th).mono (Nat.le_refl _) (Nat.le_refl _) ⋯,fun w g e=>?_⟩
 subst e
 obtain⟨xs,hc,l3⟩:∃xs,c = .tuple xs/\xs.length=3:=by
  rcases h.fo with ⟨i,s,e'⟩|⟨w',h',e',_⟩<;>exact⟨_,e',rfl⟩
 cases b with
 |odd h=>exact (K6 h).one w g rfl
 |part e1 e2 g1 g2 g3=>
  rename_i xs' ys
  rw[hc] at e1
  obtain rfl:xs=xs':=by rcases e1 with e1|e1<;>cases e1;rfl
  obtain rfl:[.str "squares",dN w,dN g]=ys:=by rcases e2 with e2|e2<;>cases e2;rfl
  rcases g3 with g3|g3
  ·exact absurd (by rw[l3];rfl) g3
  ·rcases h.fo with ⟨i,s,e'⟩|⟨w',h',e',_⟩
   ·rw[hc] at e'
    cases e'
    cases g3
   ·rw[hc] at e'
    cases e'
    cases g3
 |set e1 hv hb e2=>
  rename_i v y xs' j
  rw[hc] at e1
  obtain rfl:xs=xs':=by rcases e1 with e1|e1<;>cases e1;rfl
  have e2:[.str "squares",dN w,dN g]=xs.set j y:=by
   rcases e2 with e2|e2
   ·exact PyData.tuple.inj e2
   ·cases e2
  have hj:j<3:=by
   have:=List.getElem?_eq_some_iff.mp hv
   obtain⟨z,_⟩:=this
   omega
  rcases h.fo with ⟨i,s,e'⟩|⟨w',h',e',b1,b2⟩
  ·rw[hc] at e'
   cases e'
   obtain rfl|rfl|rfl:j=0\/j=1\/j=2:=by omega
   ·simp[dN] at e2
   ·simp only[set_cons_succ,set_cons_zero,List.cons.injEq,PyData.str.injEq] at e2
    exact absurd e2.1 nofun
   ·simp only[set_cons_succ,set_cons_zero,List.cons.injEq,PyData.str.injEq] at e2
    exact absurd e2.1 nofun
  ·rw[hc] at e'
   cases e'
   obtain rfl|rfl|rfl:j=0\/j=1\/j=2:=by omega
   ·simp only[set_cons_zero,List.cons.injEq,and_true] at e2
    obtain⟨_,e3,e4⟩:=e2
    have e3:w=w':=nU e3
    have e4:g=h':=nU e4
    subst e3 e4
    exact .inl ⟨b1,b2.mono ⋯⟩
   ·simp only[set_cons_succ,set_cons_zero,List.cons.injEq,and_true,true_and] at e2
    obtain⟨e3,e4⟩:=e2
    have e4:g=h':=nU e4
    subst e4 e3
    simp only[List.getElem?_cons_succ,List.getElem?_cons_zero,Option.some.injEq] at hv
    subst hv
    exact .inr ⟨(CH (b:=60) (b':=200) ⋯ ⋯ hb (tq (n:=0) b1 ⋯)).bd,b2⟩
   ·simp only[set_cons_succ,set_cons_zero,List.cons.injEq,and_true,true_and] at e2
    obtain⟨e3,e4⟩:=e2
    have e3:w=w':=nU e3
    subst e3 e4
    simp only[List.getElem?_cons_succ,List.getElem?_cons_zero,Option.some.injEq] at hv
    subst hv
    exact .inl ⟨b1,(CH (b:=60) (b':=200) ⋯ ⋯ hb (tq (n:=0) b2 ⋯)).bd⟩
noncomputable def TP(t:PyData):Prop:=∃c p,t = .tuple [c,p]/\CL c/\Th 350 600 6 p
theorem DX{p:PyData}(h:Th 340 500 2 p):Th 350 600 6 p:=h.mono ⋯ ⋯ ⋯
theorem OZ{p x:PyData}(h:Th 340 500 2 p)(b:Ben p x):Th 350 600 6 x:=(CH ⋯ ⋯ b h).mono (Nat.le_refl _) (Nat.le_refl _) ⋯
theorem TH{x:PyData}(h:x∈ib):Th 350 600 6 x:=(GN ⋯ ⋯ h).mono (Nat.le_refl _) (Nat.le_refl _) ⋯
theorem QH(h:zC ds U Qd):Ge {nx:=fun _ Y=>Qd (.v .none) Y,rt:=Qd} (aO ["","","","","","","","","",""] ds) U:=by
 obtain⟨ns,rfl,h63,q⟩:=h
 unfold Ge
 rw[Fl,HR]
 walk_at "rn"
 have hm:(-(2 ^ 62)<=max 2 (min 5 ((ns.length:Nat):Int))/\max 2 (min 5 ((ns.length:Nat):Int))<2 ^ 62):=by omega
 refine⟨hm,fun i ρ Y=>∃r1 r2 r3 r4 r5 r6 r7 r8 r9,ρ=[some (.s ns),r1,r2,r3,r4,r5,r6,r7,r8,r9],⟨_,_,_,_,_,_,_,_,_,rfl⟩,?_,?_⟩
 ·rintro i x ρ x0 hx ⟨r1,r2,r3,r4,r5,r6,r7,r8,r9,rfl⟩
  obtain⟨rfl,hi⟩:=Pk hx
  walk_at "rn"
  refine⟨ns,_,rfl,∅,∅,fun a ac ha s1=>?_⟩
  walk_at "rn"
  refine⟨a,rfl,s1.1,fun d ad hd s2=>?_⟩
  walk_at "rn"
  refine⟨a,d,rfl,hd,s2.1,fun ks db K s3=>?_⟩
  walk_at "rn"
  refine⟨a,d,ks,rfl,hd,K,s3.1,fun c0 p0 c1 p1 c2 p2 c3 p3 dL P0 P1 P2 P3 s4=>?_⟩
  walk_at "rn"
  have all:∀x∈[PyData.tuple [c0,p0],PyData.tuple [c1,p1],PyData.tuple [c2,p2],PyData.tuple [c3,p3]],∃c p,x = .tuple [c,p]/\PR d ks c p:=by
   intro x hx
   simp only[mem_cons,not_mem_nil,or_false] at hx
   rcases hx with rfl|rfl|rfl|rfl
   ·exact⟨_,_,rfl,P0⟩
   ·exact⟨_,_,rfl,P1⟩
   ·exact⟨_,_,rfl,P2⟩
   ·exact⟨_,_,rfl,P3⟩
  have KQ:=K.wide
  refine⟨⋯,fun _=>some (.bool true),fun x hx Y _=>?_,⟨⋯,⋯,⋯⟩,(by show SeqAt.shaped (.list [.bool true,.bool true,.bool true,.bool true])=true;decide +kernel),nofun,?_⟩
  ·obtain⟨c,p,rfl,P⟩:=all x hx
   walk_at "rn"
   refine⟨trivial,⟨trivial,trivial,trivial⟩,d,ks,c,p,rfl,hd,KQ,CY P.bc,DX P.tp,rfl,?_⟩
   rw[P.ho]
  split
  ·rename_i hh
   exact absurd (show (true ^^ PyData.eqv (.list [.bool true,.bool true,.bool true,.bool true]) (.list [.bool true,.bool true,.bool true,.bool true]))=true from hh) nofun
  intro pt hpt
  have hap:a≠pt:=fun z=>by obtain⟨g,m,e,_⟩:=s4.1;rw[z,hpt] at e;cases e
  have bset:∀{Y:Mu} {T:List PyData},Bag Y a->Bag (aR Y pt T) a:=fun h=>by obtain⟨g,m,e,z⟩:=h;exact⟨g,m,by rw[bZ hap];exact e,z⟩
  rw[HR]
  walk_at "rn"
  refine⟨fun j ρ Y=>∃r7 r8 T,ρ=[some (.s ns),some (.v (.int (0+(i:Int)))),some (.m a),some (.v (.int d)),some (.v (.tuple (ks.map dN))),some (.v (.list [.tuple [c0,p0],.tuple [c1,p1],.tuple [c2,p2],.tuple [c3,p3]])),some (.m pt),r7,r8,r9]/\Bag Y a/\Y pt=some T/\T.length<=4+7*j/\∀t∈T,TP t,⟨_,_,_,rfl,bset s4.1,aV,by simp,fun t ht=>?_⟩,?_,?_⟩
  ·obtain⟨c,p,rfl,P⟩:=all t ht
   exact⟨c,p,rfl,CY P.bc,DX P.tp⟩
  ·rintro j y ρ lv hy ⟨r7,r8,T,rfl,hb,hT,lT,gT⟩
   obtain⟨c,p,rfl,P⟩:=all y (mem_of_getElem? hy)
   have hj:j<4:=by
    obtain⟨z,_⟩:=List.getElem?_eq_some_iff.mp hy
    exact z
   walk_at "rn"
   have hpa:pt≠a:=fun z=>hap z.symm
   refine⟨trivial,a,p,2,rfl,hb,rfl,P.tp,fun x1 AC b1 sa=>?_⟩
   walk_at "rn"
   refine⟨a,p,2,rfl,sa.1,rfl,P.tp,fun x2 zn b2 sb=>?_⟩
   walk_at "rn"
   refine⟨a,4,rfl,⋯,⋯,sb.1,fun r io r0 r1 sc=>?_⟩
   obtain⟨c',p',er,P'⟩:∃c' p',atI [PyData.tuple [c0,p0],PyData.tuple [c1,p1],PyData.tuple [c2,p2],PyData.tuple [c3,p3]] r=some (.tuple [c',p'])/\PR d ks c' p':=by
    obtain rfl|rfl|rfl|rfl:r=0\/r=1\/r=2\/r=3:=by omega
    ·exact⟨_,_,rfl,P0⟩
    ·exact⟨_,_,rfl,P1⟩
    ·exact⟨_,_,rfl,P2⟩
    ·exact⟨_,_,rfl,P3⟩
   walk_at "rn"
   rw[er]
   walk_at "rn"
   refine⟨a,c,2,rfl,sc.1,rfl,P.bc.th,fun x3 At b3 sd=>?_⟩
   walk_at "rn"
   refine⟨a,c,2,rfl,sd.1,rfl,P.bc.th,fun x4 y' b4 se=>?_⟩
   walk_at "rn"
   refine⟨a,rfl,se.1,fun x5 xL b5 sf=>?_⟩
   walk_at "rn"
   refine⟨a,rfl,sf.1,fun x6 xz b6 sg'=>?_⟩
   walk_at "rn"
   have hT':xz pt=some T:=by
    rw[sg'.2 pt hpa,sf.2 pt hpa]
    exact se.2 pt hpa T (sd.2 pt hpa T (by rw[sc.2 pt hpa];exact sb.2 pt hpa T (sa.2 pt hpa T hT)))
   rw[hT']
   refine⟨by simp;omega,_,_,_,rfl,bset sg'.1,aV,by simp;omega,fun t ht=>?_⟩
   rcases List.mem_append.mp ht with h|h
   ·exact gT t h
   ·simp only[mem_cons,not_mem_nil,or_false] at h
    have cc:=CY P.bc
    have pp:=DX P.tp
    rcases h with rfl|rfl|rfl|rfl|rfl|rfl|rfl
    ·exact⟨_,_,rfl,cc,OZ P.tp b1⟩
    ·exact⟨_,_,rfl,cc,OZ P.tp b2⟩
    ·exact⟨_,_,rfl,cc,DX P'.tp⟩
    ·exact⟨_,_,rfl,MT P.bc b3,pp⟩
    ·exact⟨_,_,rfl,MT P.bc b4,pp⟩
    ·exact⟨_,_,rfl,cc,TH b5⟩
    ·exact⟨_,_,rfl,K6 b6,pp⟩
  ·rintro ρ lv ⟨r7,r8,T,rfl,hb,hT,lT,gT⟩
   have lT':T.length<=32:=by simpa using lT
   walk_at "rn"
   refine⟨a,d,ks,rfl,hd,K,hb,fun bad jp kt kf s7=>?_⟩
   have hpa:pt≠a:=fun z=>hap z.symm
   have hT7:jp pt=some T:=by rw[s7.2 pt hpa];exact hT
   dsimp only
   rw[HR]
   walk_at "rn"
   rw[Sn]
   walk_at "rn"
   rw[hT7]
   dsimp only
   have l5:=Bt T.length T
   have gA:∀t∈T++kM (zK T.length) T,TP t:=fun t ht=>by
    rcases List.mem_append.mp ht with h|h
    ·exact gT t h
    ·exact gT t (Jc t h)
   refine⟨∅,fun j ρ Y=>∃r7 r8,ρ=[some (.s ns),some (.v (.int (0+(i:Int)))),some (.m a),some (.v (.int d)),some (.v (.tuple (ks.map dN))),some (.v (.list [.tuple [c0,p0],.tuple [c1,p1],.tuple [c2,p2],.tuple [c3,p3]])),some (.m pt),r7,r8,some (.v bad)],⟨_,_,rfl⟩,?_,?_⟩
   ·rintro j y ρ lw hy ⟨r7,r8,rfl⟩
    obtain⟨c,p,rfl,cc,pp⟩:=gA y (mem_of_getElem? hy)
    walk_at "rn"
    refine⟨trivial,d,ks,c,p,rfl,hd,KQ,cc,pp,?_⟩
    walk_at "rn"
    rw[LA,Ib]
    walk_at "rn"
    refine⟨d,bad,_,_,rfl,hd,kt,kf,?_⟩
    refine ne_str nofun ?_
    dsimp only
    rw[if_neg ⋯]
    exact⟨_,_,rfl⟩
   ·rintro ρ lw ⟨r7,r8,rfl⟩
    exact⟨_,_,_,_,_,_,_,_,_,rfl⟩
 ·rintro ρ x0 ⟨r1,r2,r3,r4,r5,r6,r7,r8,r9,rfl⟩
  exact q _
end
end L2.DL
namespace K45
open PySem L2 L2.DL
local macro_rules|`(tactic| walk_at "cl")=>`(tactic| (intro _ _ h;first|exact h|exact cl1 h|exact cl2 nofun h|exact cl3 nofun h|exact tJ (iG rfl Fo) _ _ h|exact tJ (iG rfl (iG rfl Fo)) _ _ h|exact tJ (iG rfl (iG rfl (iG rfl Fo))) _ _ h|exact tJ (iG rfl (iG rfl (iG rfl (iG rfl Fo)))) _ _ h|exact tJ (iG rfl (iG rfl (iG rfl (iG rfl (iG rfl Fo))))) _ _ h|exact tJ (iG rfl (iG rfl (iG rfl (iG rfl (iG rfl (iG rfl Fo)))))) _ _ h|exact tJ (iG rfl (iG rfl (iG rfl (iG rfl (iG rfl (iG rfl (iG rfl Fo))))))) _ _ h|exact tJ Fo _ _ h|cases h))
set_option genInjectivity false in
structure Adr where
 nM:Addr
 sZ:FuncData
 fH:Addr
 iW:FuncData
 lH:Addr
 pL:FuncData
 fE:Addr
 iX:FuncData
 uD:Addr
 zH:FuncData
 CC:Addr
 Gr:FuncData
 CU:Addr
 GO:FuncData
 Cg:Addr
 GF:FuncData
 yq:Addr
 Dz:FuncData
 Cc:Addr
 Gi:FuncData
 oQ:Addr
 sX:FuncData
 qV:Addr
 wR:FuncData
 gj:Addr
 jH:FuncData
 eT:Addr
 hR:FuncData
 cN:Addr
 eh:FuncData
 nS:Addr
 sD:FuncData
 eB:Addr
 gn:FuncData
 vh:Addr
 yR:FuncData
 kn:Addr
 n6:FuncData
 lV:Addr
 pV:FuncData
 oV:Addr
 sO:FuncData
 qR:Addr
 wU:FuncData
 DF:Addr
 Gz:FuncData
 o9:Addr
 sj:FuncData
 ko:Addr
 oS:FuncData
 eS:Addr
 ip:FuncData
 lC:Addr
 qJ:FuncData
 vm:Addr
 yt:FuncData
 kh:Addr
 n8:FuncData
 jx:Addr
 mn:FuncData
 lE:Addr
 qd:FuncData
 oG:Addr
 tG:FuncData
 lR:Addr
 qO:FuncData
 gg:Addr
 jR:FuncData
 jC:Addr
 ml:FuncData
 nA:Addr
 sG:FuncData
 fz:Addr
 jg:FuncData
 lS:Addr
 pO:FuncData
 kq:Addr
 oR:FuncData
 kg:Addr
 nC:FuncData
 gi:Addr
 jU:FuncData
 lJ:Addr
 qe:FuncData
 lX:Addr
 qI:FuncData
 jD:Addr
 mj:FuncData
 ki:Addr
 oA:FuncData
 oI:Addr
 tD:FuncData
 hZ:Addr
 lq:FuncData
 j3:Addr
 oi:FuncData
 fJ:Addr
 iZ:FuncData
 fA:Addr
 iI:FuncData
 gq:Addr
 jO:FuncData
 eQ:Addr
 ir:FuncData
 jz:Addr
 ma:FuncData
 gh:Addr
 jN:FuncData
 cm:Addr
 cI:FuncData
 km:Addr
 oN:FuncData
 iq:Addr
 kX:FuncData
 kA:Addr
 pd:FuncData
 Ij:Addr
 Iw:FuncData
 Bj:Tok
 J4:Addr
 PH:Addr
 eI:Addr
 kH:Addr
 gL:Addr
 gM:Addr
 kC:Addr
 my:Addr
 aB:Addr
 kB:Addr
 kG:Addr
 mZ:Addr
 kI:Addr
 gZ:Addr
 kF:Addr
 i5:Addr
 wQ:Addr
 Fz:Addr
structure Txt(K:PySem.W.Frag)(mg:Str->Option Value)(t:Adr):Prop where
 Hg:Fun K "is_whole" "is_whole" iR t.nM t.sZ
 k9:mg "is_whole"=some (.ref t.nM)
 kY:keepIn K (.ref t.nM)=true
 kO:Binds K t.sZ ["thing"] []
 vS:Fun K "common_divisor" "common_divisor" cY t.fH t.iW
 mY:mg "common_divisor"=some (.ref t.fH)
 mS:keepIn K (.ref t.fH)=true
 nh:Binds K t.iW ["a","b"] []
 ER:Fun K "is_number" "is_number" gH t.lH t.pL
 xx:mg "is_number"=some (.ref t.lH)
 xA:keepIn K (.ref t.lH)=true
 xl:Binds K t.pL ["thing"] []
 wt:Fun K "divisor_of_all" "divisor_of_all" cZ t.fE t.iX
 mD:mg "divisor_of_all"=some (.ref t.fE)
 mP:keepIn K (.ref t.fE)=true
 nu:Binds K t.iX ["a","b","c"] []
 LG:Fun K "number" "number" ny t.uD t.zH
 qf:mg "number"=some (.ref t.uD)
 pT:keepIn K (.ref t.uD)=true
 qC:Binds K t.zH ["a","b","c"] []
 RN:Fun K "mate" "mate" wq t.CC t.Gr
 vR:mg "mate"=some (.ref t.CC)
 vX:keepIn K (.ref t.CC)=true
 w9:Binds K t.Gr ["x"] []
 Rz:Fun K "plus" "plus" wI t.CU t.GO
 LU:mg "plus"=some (.ref t.CU)
 Lp:keepIn K (.ref t.CU)=true
 M3:Binds K t.GO ["x","y"] []
 P7:Fun K "less" "less" xg t.Cg t.GF
 Mj:mg "less"=some (.ref t.Cg)
 L8:keepIn K (.ref t.Cg)=true
 Kq:Binds K t.GF ["x","y"] []
 NO:Fun K "times" "times" qZ t.yq t.Dz
 kj:mg "times"=some (.ref t.yq)
 j5:keepIn K (.ref t.yq)=true
 kv:Binds K t.Dz ["d","x","y"] []
 Qx:Fun K "over" "over" vE t.Cc t.Gi
 p5:mg "over"=some (.ref t.Cc)
 qF:keepIn K (.ref t.Cc)=true
 pM:Binds K t.Gi ["d","x","y"] []
 Gs:Fun K "contrary" "contrary" iP t.oQ t.sX
 sE:mg "contrary"=some (.ref t.oQ)
 sJ:keepIn K (.ref t.oQ)=true
 sM:Binds K t.sX ["d","x"] []
 JQ:Fun K "sign_of" "sign_of" kD t.qV t.wR
 mM:mg "sign_of"=some (.ref t.qV)
 mR:keepIn K (.ref t.qV)=true
 nq:Binds K t.wR ["d","x"] []
 xS:Fun K "sign_of_parts" "sign_of_parts" dD t.gj t.jH
 xP:mg "sign_of_parts"=some (.ref t.gj)
 xZ:keepIn K (.ref t.gj)=true
 xW:Binds K t.jH ["d","a","b"] []
 uU:Fun K "is_above_nought" "is_above_nought" cF t.eT t.hR
 eR:mg "is_above_nought"=some (.ref t.eT)
 eU:keepIn K (.ref t.eT)=true
 eV:Binds K t.hR ["d","thing"] []
 ot:Fun K "must_be_above_nought" "must_be_above_nought" bN t.cN t.eh
 cP:mg "must_be_above_nought"=some (.ref t.cN)
 cO:keepIn K (.ref t.cN)=true
 cR:Binds K t.eh ["d","thing"] []
 GL:Fun K "is_kinds" "is_kinds" iT t.nS t.sD
 yz:mg "is_kinds"=some (.ref t.nS)
 yB:keepIn K (.ref t.nS)=true
 zU:Binds K t.sD ["d","thing"] []
 pA:Fun K "must_be_kinds" "must_be_kinds" dy t.eB t.gn
 pE:mg "must_be_kinds"=some (.ref t.eB)
 pq:keepIn K (.ref t.eB)=true
 pC:Binds K t.gn ["d","thing"] []
 SV:Fun K "is_bar" "is_bar" nr t.vh t.yR
 Kn:mg "is_bar"=some (.ref t.vh)
 LN:keepIn K (.ref t.vh)=true
 KY:Binds K t.yR ["d","kinds","shape","thing"] []
 CN:Fun K "mixture_of" "mixture_of" fO t.kn t.n6
 Cp:mg "mixture_of"=some (.ref t.kn)
 Ci:keepIn K (.ref t.kn)=true
 BK:Binds K t.n6 ["d","kind","shape"] []
 FA:Fun K "shares_of" "shares_of" gN t.lV t.pV
 Er:mg "shares_of"=some (.ref t.lV)
 Fx:keepIn K (.ref t.lV)=true
 Ej:Binds K t.pV ["d","first","second","shape"] []
 Hy:Fun K "is_share" "is_share" i7 t.oV t.sO
 yx:mg "is_share"=some (.ref t.oV)
 ze:keepIn K (.ref t.oV)=true
 yL:Binds K t.sO ["d","x"] []
 JH:Fun K "bar_for" "bar_for" kE t.qR t.wU
 Jr:mg "bar_for"=some (.ref t.qR)
 J2:keepIn K (.ref t.qR)=true
 JT:Binds K t.wU ["d","kind","shape"] []
 PV:Fun K "skew" "skew" w8 t.DF t.Gz
 J8:mg "skew"=some (.ref t.DF)
 Lq:keepIn K (.ref t.DF)=true
 M7:Binds K t.Gz ["shape","way"] []
 GJ:Fun K "is_place" "is_place" iN t.o9 t.sj
 Gk:mg "is_place"=some (.ref t.o9)
 Gn:keepIn K (.ref t.o9)=true
 G6:Binds K t.sj ["thing","many"] []
 Cj:Fun K "squares_of" "squares_of" fM t.ko t.oS
 uZ:mg "squares_of"=some (.ref t.ko)
 vc:keepIn K (.ref t.ko)=true
 vk:Binds K t.oS ["d","width","height"] []
 uK:Fun K "bar_for_squares" "bar_for_squares" cH t.eS t.ip
 uH:mg "bar_for_squares"=some (.ref t.eS)
 tN:keepIn K (.ref t.eS)=true
 uo:Binds K t.ip ["shape"] []
 D7:Fun K "counts_of" "counts_of" gR t.lC t.qJ
 xD:mg "counts_of"=some (.ref t.lC)
 xG:keepIn K (.ref t.lC)=true
 xo:Binds K t.qJ ["shape"] []
 HN:Fun K "holds" "holds" rh t.vm t.yt
 B9:mg "holds"=some (.ref t.vm)
 BX:keepIn K (.ref t.vm)=true
 Dw:Binds K t.yt ["d","kinds","claim","paper"] []
 Oc:Fun K "is_laid_by" "is_laid_by" fI t.kh t.n8
 DP:mg "is_laid_by"=some (.ref t.kh)
 CJ:keepIn K (.ref t.kh)=true
 B3:Binds K t.n8 ["d","kinds","shape","paper"] []
 AV:Fun K "is_mixed_by" "is_mixed_by" eJ t.jx t.mn
 Az:mg "is_mixed_by"=some (.ref t.jx)
 Aq:keepIn K (.ref t.jx)=true
 AY:Binds K t.mn ["d","kind","shape","paper"] []
 EA:Fun K "is_counts" "is_counts" gG t.lE t.qd
 Ep:mg "is_counts"=some (.ref t.lE)
 Ff:keepIn K (.ref t.lE)=true
 Fw:Binds K t.qd ["shape","paper"] []
 G0:Fun K "_law_bag" "_law_bag" iS t.oG t.tG
 G2:mg "_law_bag"=some (.ref t.oG)
 Gx:keepIn K (.ref t.oG)=true
 GC:Binds K t.tG ["_law_script","_law_at"] []
 Ew:Fun K "_law_take" "_law_take" gS t.lR t.qO
 aK:mg "_law_take"=some (.ref t.lR)
 aM:keepIn K (.ref t.lR)=true
 aL:Binds K t.qO ["_law_bag_here","_law_many"] []
 x8:Fun K "_law_is_whole" "_law_is_whole" dw t.gg t.jR
 gk:mg "_law_is_whole"=some (.ref t.gg)
 gu:keepIn K (.ref t.gg)=true
 gm:Binds K t.jR ["_law_thing"] []
 A1:Fun K "_law_shared" "_law_shared" eL t.jC t.ml
 jB:mg "_law_shared"=some (.ref t.jC)
 ju:keepIn K (.ref t.jC)=true
 jA:Binds K t.ml ["_law_one","_law_other"] []
 Gm:Fun K "_law_low" "_law_low" ja t.nA t.sG
 jo:mg "_law_low"=some (.ref t.nA)
 i9:keepIn K (.ref t.nA)=true
 jm:Binds K t.sG ["_law_a","_law_b","_law_c"] []
 vH:Fun K "_law_is_number" "_law_is_number" de t.fz t.jg
 iH:mg "_law_is_number"=some (.ref t.fz)
 iL:keepIn K (.ref t.fz)=true
 jn:Binds K t.jg ["_law_thing"] []
 E7:Fun K "_law_plus" "_law_plus" gP t.lS t.pO
 xh:mg "_law_plus"=some (.ref t.lS)
 xu:keepIn K (.ref t.lS)=true
 xk:Binds K t.pO ["_law_x","_law_y"] []
 Di:Fun K "_law_minus" "_law_minus" fF t.kq t.oR
 u6:mg "_law_minus"=some (.ref t.kq)
 uE:keepIn K (.ref t.kq)=true
 uV:Binds K t.oR ["_law_x"] []
 BR:Fun K "_law_times" "_law_times" fj t.kg t.nC
 dO:mg "_law_times"=some (.ref t.kg)
 dJ:keepIn K (.ref t.kg)=true
 dI:Binds K t.nC ["_law_d","_law_x","_law_y"] []
 xY:Fun K "_law_contrary" "_law_contrary" dA t.gi t.jU
 gr:mg "_law_contrary"=some (.ref t.gi)
 gc:keepIn K (.ref t.gi)=true
 fZ:Binds K t.jU ["_law_d","_law_x"] []
 ED:Fun K "_law_sign" "_law_sign" gX t.lJ t.qe
 qi:mg "_law_sign"=some (.ref t.lJ)
 qr:keepIn K (.ref t.lJ)=true
 qv:Binds K t.qe ["_law_d","_law_x"] []
 EN:Fun K "_law_root" "_law_root" gI t.lX t.qI
 FL:mg "_law_root"=some (.ref t.lX)
 EC:keepIn K (.ref t.lX)=true
 El:Binds K t.qI ["_law_bag_here"] []
 Bi:Fun K "_law_number" "_law_number" eN t.jD t.mj
 AG:mg "_law_number"=some (.ref t.jD)
 AW:keepIn K (.ref t.jD)=true
 AF:Binds K t.mj ["_law_bag_here"] []
 B6:Fun K "_law_above" "_law_above" fm t.ki t.oA
 ke:mg "_law_above"=some (.ref t.ki)
 ky:keepIn K (.ref t.ki)=true
 kc:Binds K t.oA ["_law_bag_here","_law_d"] []
 Hs:Fun K "_law_odd" "_law_odd" jc t.oI t.tD
 nQ:mg "_law_odd"=some (.ref t.oI)
 nV:keepIn K (.ref t.oI)=true
 nX:Binds K t.tD ["_law_bag_here"] []
 zx:Fun K "_law_refusal" "_law_refusal" dZ t.hZ t.lq
 zI:mg "_law_refusal"=some (.ref t.hZ)
 Ak:keepIn K (.ref t.hZ)=true
 yY:Binds K t.lq ["_law_deed"] []
 CA:Fun K "_law_kinds" "_law_kinds" fK t.j3 t.oi
 CV:mg "_law_kinds"=some (.ref t.j3)
 C9:keepIn K (.ref t.j3)=true
 DH:Binds K t.oi ["_law_bag_here","_law_d"] []
 vP:Fun K "_law_bad_above" "_law_bad_above" da t.fJ t.iZ
 wg:mg "_law_bad_above"=some (.ref t.fJ)
 vZ:keepIn K (.ref t.fJ)=true
 vz:Binds K t.iZ ["_law_bag_here","_law_d"] []
 vC:Fun K "_law_bad_kinds" "_law_bad_kinds" cW t.fA t.iI
 vT:mg "_law_bad_kinds"=some (.ref t.fA)
 vD:keepIn K (.ref t.fA)=true
 vG:Binds K t.iI ["_law_bag_here","_law_d","_law_kinds_here"] []
 xM:Fun K "_law_fraction" "_law_fraction" dG t.gq t.jO
 pB:mg "_law_fraction"=some (.ref t.gq)
 pk:keepIn K (.ref t.gq)=true
 ph:Binds K t.jO ["_law_bag_here"] []
 tL:Fun K "_law_is_mixture" "_law_is_mixture" cE t.eQ t.ir
 tO:mg "_law_is_mixture"=some (.ref t.eQ)
 uq:keepIn K (.ref t.eQ)=true
 vd:Binds K t.ir ["_law_d","_law_kind","_law_shape","_law_thing"] []
 AN:Fun K "_law_counts" "_law_counts" eK t.jz t.ma
 AZ:mg "_law_counts"=some (.ref t.jz)
 Bf:keepIn K (.ref t.jz)=true
 Be:Binds K t.ma ["_law_wide","_law_high"] []
 xR:Fun K "_law_is_claim" "_law_is_claim" dF t.gh t.jN
 pf:mg "_law_is_claim"=some (.ref t.gh)
 pF:keepIn K (.ref t.gh)=true
 pH:Binds K t.jN ["_law_d","_law_claim","_law_word","_law_size"] []
 xO:Fun K "_law_bent_any" "_law_bent_any" dz t.cm t.cI
 eD:mg "_law_bent_any"=some (.ref t.cm)
 eC:keepIn K (.ref t.cm)=true
 eG:Binds K t.cI ["_law_bag_here","_law_thing"] []
 Cn:Fun K "_law_holds" "_law_holds" fG t.km t.oN
 Dr:mg "_law_holds"=some (.ref t.km)
 Cy:keepIn K (.ref t.km)=true
 C2:Binds K t.oN ["_law_d","_law_kinds_here","_law_claim","_law_paper"] []
 yH:Fun K "_law_is_told" "_law_is_told" d8 t.iq t.kX
 yW:mg "_law_is_told"=some (.ref t.iq)
 zv:keepIn K (.ref t.iq)=true
 zk:Binds K t.kX ["_law_d","_law_kinds_here","_law_claim","_law_paper"] []
 CB:Fun K "_law_pairs" "_law_pairs" fk t.kA t.pd
 BL:mg "_law_pairs"=some (.ref t.kA)
 B5:keepIn K (.ref t.kA)=true
 Dn:Binds K t.pd ["_law_bag_here","_law_d","_law_kinds_here"] []
 Te:Fun K "law" "law" rT t.Ij t.Iw
 Uw:mg "law"=some (.ref t.Ij)
 Uu:keepIn K (.ref t.Ij)=true
 Ut:Binds K t.Iw ["_law_script"] []
 aI:mg "isinstance"=none
 yJ:mg "int"=none
 Hb:mg "bool"=none
 FJ:mg "abs"=none
 jv:mg "tuple"=none
 fX:mg "len"=none
 xr:mg "all"=none
 Ke:mg "min"=none
 M9:mg "max"=none
 qK:mg "list"=none
 C7:mg "range"=none
 CI:mg "ValueError"=none
 SF:mg "str"=none
 Cu:mg "MOST_KINDS"=some (.int 3 t.Bj)
 lj:QK K mg "NOUGHT" t.J4 0 0 1
 LD:QK K mg "ONE" t.PH 1 0 1
 BW:mg "FloorError"=some (.ref t.eI)
 Kc:mg "NoRoot"=some (.ref t.kH)
 Gd:mg "NoNumber"=some (.ref t.gL)
 G4:mg "NoLaying"=some (.ref t.gM)
 MK:mg "NoTile"=some (.ref t.kC)
 Ob:mg "NoFit"=some (.ref t.my)
 Bo:mg "NoKinds"=some (.ref t.aB)
 KI:mg "NoPlan"=some (.ref t.kB)
 LB:mg "NoSpot"=some (.ref t.kG)
 Nr:mg "NoNet"=some (.ref t.mZ)
 La:mg "NoText"=some (.ref t.kI)
 Ht:mg "NoSaying"=some (.ref t.gZ)
 Lm:mg "NoName"=some (.ref t.kF)
 Jk:mg "TooMany"=some (.ref t.i5)
 vK:excIn K (t.aB) bmV "ValueError.__new__"=true
 wj:exmOne K (.ref t.aB) (.ref t.eI)=some true
 jd:kitOne K (.ref t.aB) (.ref t.kH)=some false
 gw:kitOne K (.ref t.aB) (.ref t.gL)=some false
 gB:kitOne K (.ref t.aB) (.ref t.gM)=some false
 jk:kitOne K (.ref t.aB) (.ref t.kC)=some false
 jV:kitOne K (.ref t.aB) (.ref t.my)=some false
 ik:kitOne K (.ref t.aB) (.ref t.aB)=some true
 jh:kitOne K (.ref t.aB) (.ref t.kB)=some false
 i6:kitOne K (.ref t.aB) (.ref t.kG)=some false
 jJ:kitOne K (.ref t.aB) (.ref t.mZ)=some false
 iY:kitOne K (.ref t.aB) (.ref t.kI)=some false
 gF:kitOne K (.ref t.aB) (.ref t.gZ)=some false
 jq:kitOne K (.ref t.aB) (.ref t.kF)=some false
 ig:kitOne K (.ref t.aB) (.ref t.i5)=some false
 qg:kitOne K (.ref t.aB) (.type "ValueError")=some true
 cG:yy K t.aB
 Ts:TB K mg t.wQ t.Fz "law"
 RX:t.Iw.code = .ref t.wQ
structure EQ where
 P:Program
 w:World
 K:PySem.W.Frag
 mg:Str->Option Value
 base:Heap
 t:Adr
noncomputable abbrev TX(e:EQ):Prop:=Txt e.K e.mg e.t
noncomputable abbrev lG(e:EQ):Prop:=bz e.P e.w e.K e.mg e.base CX0 1 e.t.nM e.t.sZ ["thing"] (spD e.K el)
noncomputable abbrev lF(e:EQ):Prop:=bz e.P e.w e.K e.mg e.base CX0 1 e.t.fH e.t.iW ["a","b"] (spD e.K pW)
noncomputable abbrev nO(e:EQ):Prop:=bz e.P e.w e.K e.mg e.base CX0 3 e.t.lH e.t.pL ["thing"] (spD e.K kQ)
noncomputable abbrev hJ(e:EQ):Prop:=bz e.P e.w e.K e.mg e.base CX0 2 e.t.fE e.t.iX ["a","b","c"] (spD e.K zB)
noncomputable abbrev kJ(e:EQ):Prop:=bz e.P e.w e.K e.mg e.base CX0 3 e.t.uD e.t.zH ["a","b","c"] (spD e.K cM)
noncomputable abbrev C6(e:EQ):Prop:=bz e.P e.w e.K e.mg e.base CX0 1 e.t.CC e.t.Gr ["x"] (spD e.K nL)
noncomputable abbrev BM(e:EQ):Prop:=bz e.P e.w e.K e.mg e.base CX0 4 e.t.CU e.t.GO ["x","y"] (spD e.K oY)
noncomputable abbrev Dk(e:EQ):Prop:=bz e.P e.w e.K e.mg e.base CX0 4 e.t.Cg e.t.GF ["x","y"] (spD e.K zy)
noncomputable abbrev mQ(e:EQ):Prop:=bz e.P e.w e.K e.mg e.base CX0 4 e.t.yq e.t.Dz ["d","x","y"] (spD e.K cw)
noncomputable abbrev rq(e:EQ):Prop:=bz e.P e.w e.K e.mg e.base CX0 5 e.t.Cc e.t.Gi ["d","x","y"] (spD e.K jK)
noncomputable abbrev lP(e:EQ):Prop:=bz e.P e.w e.K e.mg e.base CX0 4 e.t.oQ e.t.sX ["d","x"] (spD e.K cK)
noncomputable abbrev oZ(e:EQ):Prop:=bz e.P e.w e.K e.mg e.base CX0 2 e.t.qV e.t.wR ["d","x"] (spD e.K iA)
noncomputable abbrev mW(e:EQ):Prop:=bz e.P e.w e.K e.mg e.base CX0 1 e.t.gj e.t.jH ["d","a","b"] (spD e.K yg)
noncomputable abbrev eo(e:EQ):Prop:=bz e.P e.w e.K e.mg e.base CX0 4 e.t.eT e.t.hR ["d","thing"] (spD e.K jE)
noncomputable abbrev dY(e:EQ):Prop:=bz e.P e.w e.K e.mg e.base CX0 5 e.t.cN e.t.eh ["d","thing"] (spD e.K fe)
noncomputable abbrev qk(e:EQ):Prop:=bz e.P e.w e.K e.mg e.base CX0 5 e.t.nS e.t.sD ["d","thing"] (spD e.K qG)
noncomputable abbrev mJ(e:EQ):Prop:=bz e.P e.w e.K e.mg e.base CX0 6 e.t.eB e.t.gn ["d","thing"] (spD e.K lQ)
noncomputable abbrev Bm(e:EQ):Prop:=bz e.P e.w e.K e.mg e.base CX0 1 e.t.vh e.t.yR ["d","kinds","shape","thing"] (spD e.K BN)
noncomputable abbrev rO(e:EQ):Prop:=bz e.P e.w e.K e.mg e.base CX0 7 e.t.kn e.t.n6 ["d","kind","shape"] (spD e.K q9)
noncomputable abbrev uS(e:EQ):Prop:=bz e.P e.w e.K e.mg e.base CX0 6 e.t.lV e.t.pV ["d","first","second","shape"] (spD e.K um)
noncomputable abbrev pY(e:EQ):Prop:=bz e.P e.w e.K e.mg e.base CX0 3 e.t.oV e.t.sO ["d","x"] (spD e.K ng)
noncomputable abbrev yX(e:EQ):Prop:=bz e.P e.w e.K e.mg e.base CX0 6 e.t.qR e.t.wU ["d","kind","shape"] (spD e.K tU)
noncomputable abbrev Ie(e:EQ):Prop:=bz e.P e.w e.K e.mg e.base CX0 5 e.t.DF e.t.Gz ["shape","way"] (spD e.K zq)
noncomputable abbrev xy(e:EQ):Prop:=bz e.P e.w e.K e.mg e.base CX0 2 e.t.o9 e.t.sj ["thing","many"] (spD e.K vn)
noncomputable abbrev rJ(e:EQ):Prop:=bz e.P e.w e.K e.mg e.base CX0 7 e.t.ko e.t.oS ["d","width","height"] (spD e.K yK)
noncomputable abbrev kK(e:EQ):Prop:=bz e.P e.w e.K e.mg e.base CX0 6 e.t.eS e.t.ip ["shape"] (spD e.K yp)
noncomputable abbrev oF(e:EQ):Prop:=bz e.P e.w e.K e.mg e.base CX0 1 e.t.lC e.t.qJ ["shape"] (spD e.K uI)
noncomputable abbrev Ae(e:EQ):Prop:=bz e.P e.w e.K e.mg e.base CX0 7 e.t.vm e.t.yt ["d","kinds","claim","paper"] (spD e.K oj)
noncomputable abbrev rQ(e:EQ):Prop:=bz e.P e.w e.K e.mg e.base CX0 1 e.t.kh e.t.n8 ["d","kinds","shape","paper"] (spD e.K BN)
noncomputable abbrev qx(e:EQ):Prop:=bz e.P e.w e.K e.mg e.base CX0 5 e.t.jx e.t.mn ["d","kind","shape","paper"] (spD e.K fq)
noncomputable abbrev uX(e:EQ):Prop:=bz e.P e.w e.K e.mg e.base CX0 2 e.t.lE e.t.qd ["shape","paper"] (spD e.K lu)
noncomputable abbrev xj(e:EQ):Prop:=bz e.P e.w e.K e.mg e.base CX0 1 e.t.oG e.t.tG ["_law_script","_law_at"] (spD e.K Ii)
noncomputable abbrev bO(e:EQ):Prop:=bz e.P e.w e.K e.mg e.base CX0 1 e.t.lR e.t.qO ["_law_bag_here","_law_many"] (spD e.K bF)
noncomputable abbrev d4(e:EQ):Prop:=bz e.P e.w e.K e.mg e.base CX0 1 e.t.gg e.t.jR ["_law_thing"] (spD e.K el)
noncomputable abbrev kL(e:EQ):Prop:=bz e.P e.w e.K e.mg e.base CX0 1 e.t.jC e.t.ml ["_law_one","_law_other"] (spD e.K pW)
noncomputable abbrev fg(e:EQ):Prop:=bz e.P e.w e.K e.mg e.base CX0 2 e.t.nA e.t.sG ["_law_a","_law_b","_law_c"] (spD e.K cM)
noncomputable abbrev eW(e:EQ):Prop:=bz e.P e.w e.K e.mg e.base CX0 2 e.t.fz e.t.jg ["_law_thing"] (spD e.K kQ)
noncomputable abbrev oJ(e:EQ):Prop:=bz e.P e.w e.K e.mg e.base CX0 3 e.t.lS e.t.pO ["_law_x","_law_y"] (spD e.K oY)
noncomputable abbrev mv(e:EQ):Prop:=bz e.P e.w e.K e.mg e.base CX0 1 e.t.kq e.t.oR ["_law_x"] (spD e.K uY)
noncomputable abbrev fW(e:EQ):Prop:=bz e.P e.w e.K e.mg e.base CX0 3 e.t.kg e.t.nC ["_law_d","_law_x","_law_y"] (spD e.K cw)
noncomputable abbrev d7(e:EQ):Prop:=bz e.P e.w e.K e.mg e.base CX0 3 e.t.gi e.t.jU ["_law_d","_law_x"] (spD e.K cK)
noncomputable abbrev kz(e:EQ):Prop:=bz e.P e.w e.K e.mg e.base CX0 1 e.t.lJ e.t.qe ["_law_d","_law_x"] (spD e.K iA)
noncomputable abbrev tQ(e:EQ):Prop:=bz e.P e.w e.K e.mg e.base CX0 2 e.t.lX e.t.qI ["_law_bag_here"] (spD e.K yf)
noncomputable abbrev qA(e:EQ):Prop:=bz e.P e.w e.K e.mg e.base CX0 3 e.t.jD e.t.mj ["_law_bag_here"] (spD e.K qQ)
noncomputable abbrev jw(e:EQ):Prop:=bz e.P e.w e.K e.mg e.base CX0 4 e.t.ki e.t.oA ["_law_bag_here","_law_d"] (spD e.K kR)
noncomputable abbrev jF(e:EQ):Prop:=bz e.P e.w e.K e.mg e.base CX0 2 e.t.oI e.t.tD ["_law_bag_here"] (spD e.K rW)
noncomputable abbrev rX(e:EQ):Prop:=bz e.P e.w e.K e.mg e.base CX0 5 e.t.j3 e.t.oi ["_law_bag_here","_law_d"] (spD e.K u5)
noncomputable abbrev lK(e:EQ):Prop:=bz e.P e.w e.K e.mg e.base CX0 5 e.t.fJ e.t.iZ ["_law_bag_here","_law_d"] (spD e.K nY)
noncomputable abbrev lN(e:EQ):Prop:=bz e.P e.w e.K e.mg e.base CX0 6 e.t.fA e.t.iI ["_law_bag_here","_law_d","_law_kinds_here"] (spD e.K nI)
noncomputable abbrev mC(e:EQ):Prop:=bz e.P e.w e.K e.mg e.base CX0 3 e.t.gq e.t.jO ["_law_bag_here"] (spD e.K uj)
noncomputable abbrev kN(e:EQ):Prop:=bz e.P e.w e.K e.mg e.base CX0 4 e.t.eQ e.t.ir ["_law_d","_law_kind","_law_shape","_law_thing"] (spD e.K fq)
noncomputable abbrev p6(e:EQ):Prop:=bz e.P e.w e.K e.mg e.base CX0 1 e.t.jz e.t.ma ["_law_wide","_law_high"] (spD e.K sv)
noncomputable abbrev nc(e:EQ):Prop:=bz e.P e.w e.K e.mg e.base CX0 3 e.t.gh e.t.jN ["_law_d","_law_claim","_law_word","_law_size"] (spD e.K uF)
noncomputable abbrev vL(e:EQ):Prop:=bz e.P e.w e.K e.mg e.base CX0 6 e.t.cm e.t.cI ["_law_bag_here","_law_thing"] (spD e.K (dE 3))
noncomputable abbrev rN(e:EQ):Prop:=bz e.P e.w e.K e.mg e.base CX0 5 e.t.km e.t.oN ["_law_d","_law_kinds_here","_law_claim","_law_paper"] (spD e.K yI)
noncomputable abbrev pD(e:EQ):Prop:=bz e.P e.w e.K e.mg e.base CX0 8 e.t.iq e.t.kX ["_law_d","_law_kinds_here","_law_claim","_law_paper"] (spD e.K ve)
noncomputable abbrev rK(e:EQ):Prop:=bz e.P e.w e.K e.mg e.base CX0 8 e.t.kA e.t.pd ["_law_bag_here","_law_d","_law_kinds_here"] (spD e.K yo)
noncomputable abbrev LF(e:EQ):Prop:=bz e.P e.w e.K e.mg e.base CX0 10 e.t.Ij e.t.Iw ["_law_script"] (spD e.K zC)
noncomputable abbrev fS(e:EQ):Prop:=bz e.P e.w e.K e.mg e.base (CX1 e.P e.w) 6 e.t.eB e.t.gn ["d","thing"] (spX e.K (.ref e.t.aB) uN)
noncomputable abbrev lO(e:EQ):Prop:=bz e.P e.w e.K e.mg e.base (CX1 e.P e.w) 7 e.t.vm e.t.yt ["d","kinds","claim","paper"] (spX e.K (.ref e.t.aB) va)
noncomputable abbrev xw(e:EQ):Prop:=MF e.P e.w e.K e.mg e.base 8 e.t.hZ e.t.lq "_law_deed" (.ref e.t.aB) "NoKinds"
section
variable {e:EQ}
theorem EJ:aG ["thing"] ["thing"] (ax iR):=by walk_at "s"
theorem Eo(T:TX e):lG e:=by
 have S:=EJ
 exact T.Hg.okD S (fun ds U Q h=>xF h) (fun cdv A outer s H E hr=>⟨lM,(aq (aD (ji (fT (HW _) rfl T.aI rfl T.yJ PyProof.Rows.Boot.«int» (dv 0)) (jQ (LS (fT (zd _) rfl T.aI rfl T.Hb PyProof.Rows.Boot.«bool» (dv 0))))))),fun ds U Qd h=>xI h⟩)
theorem uJ:aG ["a","b"] ["a","b"] (ax cY):=by walk_at "s"
theorem ur(T:TX e):lF e:=by
 have S:=uJ
 exact T.vS.okD S (fun ds U Q h=>BC h) (fun cdv A outer s H E hr=>⟨iE,(ak (uL PassesOwn.never (aQ (ic hr.units) bj (dv 1) af (aF _)) (aq (pS (i:=0) (j:=1) rfl S.nd rfl rfl ⋯ rfl rfl (aa (dv 1) (aa (jS (dv 0) (dv 1)) ah)) rfl)))
  (aq (aD (zh rfl T.FJ (aa (dv 0) ah))))),fun ds U Qd h=>uh h⟩)
theorem OC:aG ["x"] ["x"] (ax wq):=by walk_at "s"
theorem bB(T:TX e):C6 e:=by
 have S:=OC
 exact T.RN.okD S (fun ds U Q h=>Gu h) (fun cdv A outer s H E hr=>⟨Du,(aq (aD (aJ (aa (ar (dv 0) af (fun _ _=>rfl)) (aa (iu (ar (dv 0) af (fun _ _=>rfl))) (aa (ar (dv 0) af (fun _ _=>rfl)) ah)))))),fun ds U Qd h=>NU h⟩)
theorem wZ:aG ["d","a","b","prevailing"] ["d","a","b"] (ax dD):=by walk_at "s"
theorem wu(T:TX e):mW e:=by
 have S:=wZ
 exact T.xS.okD S (fun ds U Q h=>Ee h) (fun cdv A outer s H E hr=>⟨iQ,(ak (bI (DW.dt (g7 (aQ (bT hr.units) bj (dv 1) af (aF _)) (iz (aQ (bT hr.units) bj (dv 2) af (aF _))))) (aq (aD af)) aU)
  (ak (bI (DW.dt (g7 (aQ Ai dX (dv 1) af (aF _)) (iz (aQ Ai dX (dv 2) af (aF _))))) (aq (aD af)) aU)
  (ak (bI (DW.dt (g7 (aQ HZ dX (dv 1) af (aF _)) (iz (aQ HZ dX (dv 2) af (aF _))))) (aq (aD (iu af))) aU)
  (ak (aN (i:=3) S.nd rfl (Or.inl rfl) (xi (aQ g0 dX (aT (dv 1) (dv 1)) (aT (aT (dv 0) (dv 2)) (dv 2)) (aF _)) (dv 1) (dv 2)))
  (aq (aD (xi (aQ g0 dX (dv 3) af (aF _)) af (iu af)))))))),fun ds U Qd h=>vJ h⟩)
theorem RZ:aG ["d","kinds","shape","thing","width","weights","kind"] ["d","kinds","shape","thing"] (ax nr):=by walk_at "s"
theorem JC(_:TX e):Bm e:=
 ⟨fun vs H Q E h=>by obtain⟨ds,U,Qd,_,r,z,_⟩:=h;exact z.elim,fun A outer s H args us vs Q E hr e0 hb hv h=>by obtain⟨ds,U,Qd,_,r,z,_⟩:=h;exact z.elim⟩
theorem DB:aG ["shape","short","rest","counts"] ["shape"] (ax gR):=by walk_at "s"
theorem DZ(T:TX e):oF e:=by
 have S:=DB
 exact MR (T.D7.okD S (fun ds U Q h=>A6 h) (fun cdv A outer s H E hr=>⟨oO,(ak (aN (i:=1) S.nd rfl (Or.inl rfl) (GQ rfl rfl T.Ke (aa (ar (dv 0) af (fun _ _=>rfl)) (aa (ar (dv 0) af (fun _ _=>rfl)) ah))))
  (ak (aN (i:=2) S.nd rfl (Or.inl rfl) (G8 rfl rfl T.M9 (aa (ar (dv 0) af (fun _ _=>rfl)) (aa (ar (dv 0) af (fun _ _=>rfl)) ah))))
  (ak (aN (i:=3) S.nd rfl (Or.inl rfl) (yc ah))
  (ak (uL PassesOwn.never (aQ (ic hr.units) bj (dv 1) af (aF _)) (ak (kd (v7 (dv 3) (iV (dv 2) (dv 1))))
  (aq (pS (i:=2) (j:=1) rfl S.nd rfl rfl ⋯ rfl rfl (aa (dv 1) (aa (jS (dv 2) (dv 1)) ah)) rfl))))
  (aq (aD (dv 3))))))),fun ds U Qd h=>CD h⟩)) (fun ds U Qd h=>Bc h)
theorem Na:aG ["d","kinds","shape","paper","word","thing"] ["d","kinds","shape","paper"] (ax fI):=by walk_at "s"
theorem AA(_:TX e):rQ e:=
 ⟨fun vs H Q E h=>by obtain⟨ds,U,Qd,_,r,z,_⟩:=h;exact z.elim,fun A outer s H args us vs Q E hr e0 hb hv h=>by obtain⟨ds,U,Qd,_,r,z,_⟩:=h;exact z.elim⟩
theorem Ef:aG ["_law_script","_law_at","_law_cell","_law_great","_law_primes","_law_mixed"] ["_law_script","_law_at"] (ax iS):=by walk_at "s"
theorem Eh(T:TX e):xj e:=by
 have S:=Ef
 exact T.G0.okD S (fun ds U Q h=>Ji h) (fun cdv A outer s H E hr=>⟨p7,(ak (aN (i:=2) S.nd rfl (Or.inl rfl) af)
  (ak (bI (aQ pX dX (dv 1) (dS rfl T.fX (aa (dv 0) ah)) (aF _)) (aq (aN (i:=2) S.nd rfl (Or.inl rfl) (ar (dv 0) (dv 1) (fun _ _=>rfl)))) aU)
  (ak (aN (i:=3) S.nd rfl (Or.inl rfl) af)
  (ak (bI (aQ Ai dX (zh rfl T.FJ (aa (dv 2) ah)) (G9 af af) (aF _)) (aq (aN (i:=3) S.nd rfl (Or.inl rfl) (zh rfl T.FJ (aa (dv 2) ah)))) aU)
  (ak (aN (i:=4) S.nd rfl (Or.inl rfl) (cD (aa af (aa af (aa af (aa af (aa af (aa af (aa af (aa af ah))))))))))
  (ak (aN (i:=5) S.nd rfl (Or.inl rfl) (dR (dR (dR (aT (jS (dv 2) af) af) (aT (aT af (dv 1)) (dv 1))) (aT af (dv 1))) af))
  (aq (aD (yc (aa (dv 3) (aa (jS (dv 5) (ar (dv 4) (jS (dv 1) af) (fun _ _=>rfl))) ah))))))))))),fun ds U Qd h=>Ez h⟩)
theorem DV:aG ["_law_bag_here","_law_many","_law_digit"] ["_law_bag_here","_law_many"] (ax gS):=by walk_at "s"
theorem Dp(T:TX e):bO e:=by
 have S:=DV
 exact T.Ew.okD S (fun ds U Q h=>GW h) (fun cdv A outer s H E hr=>⟨oB,(ak (bI (aQ g0 dX (ar (dv 0) af (fun _ _=>rfl)) af (aF _)) (ak (aN (i:=2) S.nd rfl (Or.inl rfl) (jS (ar (dv 0) af (fun _ _=>rfl)) (dv 1)))
  (ak (yE (iV (ar (dv 0) af (fun _ _=>rfl)) (dv 1)) (GD (dv 0) af))
  (aq (aD (dv 2))))) aU)
  (ak (yE (jS (dR (aT (ar (dv 0) af (fun _ _=>rfl)) af) af) af) (GD (dv 0) af))
  (aq (aD (jS (iV (jS (G9 (ar (dv 0) af (fun _ _=>rfl)) af) af) af) (dv 1)))))),fun ds U Qd h=>Dt h⟩)
theorem vY:aG ["_law_thing"] ["_law_thing"] (ax dw):=by walk_at "s"
theorem wK(T:TX e):d4 e:=by
 have S:=vY
 exact T.x8.okD S (fun ds U Q h=>xF h) (fun cdv A outer s H E hr=>⟨mB,(aq (aD (ji (fT (HW _) rfl T.aI rfl T.yJ PyProof.Rows.Boot.«int» (dv 0)) (jQ (LS (fT (zd _) rfl T.aI rfl T.Hb PyProof.Rows.Boot.«bool» (dv 0))))))),fun ds U Qd h=>wA h⟩)
theorem zw:aG ["_law_one","_law_other"] ["_law_one","_law_other"] (ax eL):=by walk_at "s"
theorem zp(T:TX e):kL e:=by
 have S:=zw
 exact T.A1.okD S (fun ds U Q h=>BC h) (fun cdv A outer s H E hr=>⟨lr,(ak (pS (i:=0) (j:=1) rfl S.nd rfl rfl ⋯ rfl rfl (aa (zh rfl T.FJ (aa (dv 0) ah)) (aa (zh rfl T.FJ (aa (dv 1) ah)) ah)) rfl)
  (ak (uL PassesOwn.never (aQ g0 dX (dv 1) af (aF _)) (aq (pS (i:=0) (j:=1) rfl S.nd rfl rfl ⋯ rfl rfl (aa (dv 1) (aa (jS (dv 0) (dv 1)) ah)) rfl)))
  (aq (aD (dv 0))))),fun ds U Qd h=>yO h⟩)
theorem AK:aG ["_law_x"] ["_law_x"] (ax fF):=by walk_at "s"
theorem Ap(T:TX e):mv e:=by
 have S:=AK
 exact T.Di.okD S (fun ds U Q h=>FP h) (fun cdv A outer s H E hr=>⟨mr,(aq (aD (aJ (aa (fU af (ar (dv 0) af (fun _ _=>rfl))) (aa (fU af (ar (dv 0) af (fun _ _=>rfl))) (aa (ar (dv 0) af (fun _ _=>rfl)) ah)))))),fun ds U Qd h=>AL h⟩)
theorem DR:aG ["_law_d","_law_x","_law_first","_law_second","_law_sides"] ["_law_d","_law_x"] (ax gX):=by walk_at "s"
theorem B8(T:TX e):kz e:=by
 have S:=DR
 exact T.ED.okD S (fun ds U Q h=>yw h) (fun cdv A outer s H E hr=>⟨nN,(ak (pS (i:=2) (j:=3) rfl S.nd rfl rfl ⋯ rfl rfl (aa (aT (ar (dv 1) af (fun _ _=>rfl)) (ar (dv 1) af (fun _ _=>rfl))) (aa (aT (aT (dv 0) (ar (dv 1) af (fun _ _=>rfl))) (ar (dv 1) af (fun _ _=>rfl))) ah)) rfl)
  (ak (aN (i:=4) S.nd rfl (Or.inl rfl) (cD (aa (fU (qE rfl T.yJ (aa (df g0 dX (ar (dv 1) af (fun _ _=>rfl)) af (aF _)) ah)) (qE rfl T.yJ (aa (df pX dX (ar (dv 1) af (fun _ _=>rfl)) af (aF _)) ah))) (aa (fU (qE rfl T.yJ (aa (df g0 dX (ar (dv 1) af (fun _ _=>rfl)) af (aF _)) ah)) (qE rfl T.yJ (aa (df pX dX (ar (dv 1) af (fun _ _=>rfl)) af (aF _)) ah))) ah))))
  (ak (bI (aQ Ai dX (aT (ar (dv 4) af (fun _ _=>rfl)) (ar (dv 4) af (fun _ _=>rfl))) af (aF _)) (aq (aD (xi (aQ (ic hr.units) bj (ar (dv 4) af (fun _ _=>rfl)) af (aF _)) (ar (dv 4) af (fun _ _=>rfl)) (ar (dv 4) af (fun _ _=>rfl))))) aU)
  (aq (aD (xi (aQ g0 dX (dv 2) (dv 3) (aF _)) (ar (dv 4) af (fun _ _=>rfl)) (ar (dv 4) af (fun _ _=>rfl)))))))),fun ds U Qd h=>Dl h⟩)
theorem zj:aG ["_law_wide","_law_high","_law_found"] ["_law_wide","_law_high"] (ax eK):=by walk_at "s"
theorem zX(T:TX e):p6 e:=by
 have S:=zj
 exact MR (T.AN.okD S (fun ds U Q h=>xQ h) (fun cdv A outer s H E hr=>⟨kZ,(ak (aN (i:=2) S.nd rfl (Or.inl rfl) (yc ah))
  (ak (uL PassesOwn.never (DW.dt (g7 (aQ g0 dX (dv 0) af (aF _)) (iz (aQ g0 dX (dv 1) af (aF _))))) (ak (pS (i:=0) (j:=1) rfl S.nd rfl rfl ⋯ rfl rfl (aa (G8 rfl rfl T.M9 (aa (dv 0) (aa (dv 1) ah))) (aa (GQ rfl rfl T.Ke (aa (dv 0) (aa (dv 1) ah))) ah)) rfl)
  (ak (kd (v7 (dv 2) (iV (dv 0) (dv 1))))
  (aq (aN (i:=0) S.nd rfl (Or.inl rfl) (jS (dv 0) (dv 1)))))))
  (aq (aD (dv 2))))),fun ds U Qd h=>zO h⟩)) (fun ds U Qd h=>xX h)
theorem tV:aG ["a","b","c"] ["a","b","c"] (ax cZ):=by walk_at "s"
theorem uM(T:TX e)(fP:lF e):hJ e:=by
 have S:=tV
 exact T.wt.okD S (fun ds U Q h=>Hr h) (fun cdv A outer s H E hr=>⟨hV,(aq (aD (ai fP (hr.mono ⋯) rfl T.mY T.mS T.nh (aa (ai fP (hr.mono ⋯) rfl T.mY T.mS T.nh (aa (dv 2) (aa (dv 0) ah))) (aa (dv 1) ah))))),fun ds U Qd h=>uB h⟩)
theorem GU:aG ["d","x"] ["d","x"] (ax kD):=by walk_at "s"
theorem Hq(T:TX e)(jI:mW e):oZ e:=by
 have S:=GU
 exact T.JQ.okD S (fun ds U Q h=>yw h) (fun cdv A outer s H E hr=>⟨si,(aq (aD (ai jI (hr.mono ⋯) rfl T.xP T.xZ T.xW (aa (dv 0) (aa (ar (dv 1) af (fun _ _=>rfl)) (aa (ar (dv 1) af (fun _ _=>rfl)) ah)))))),fun ds U Qd h=>GA h⟩)
theorem Ed:aG ["thing","many"] ["thing","many"] (ax iN):=by walk_at "s"
theorem EL(T:TX e)(dh:lG e):xy e:=by
 have S:=Ed
 exact T.GJ.okD S (fun ds U Q h=>E2 h) (fun cdv A outer s H E hr=>⟨qw,(aq (aD (ji (ai dh (hr.mono ⋯) rfl T.k9 T.kY T.kO (aa (dv 0) ah)) (ji (df HZ dX af (dv 0) (aF _)) (jQ (df pX dX (dv 0) (dv 1) (aF _))))))),fun ds U Qd h=>FO h⟩)
theorem BP:aG ["shape","paper"] ["shape","paper"] (ax gG):=by walk_at "s"
theorem Cm(T:TX e)(dh:lG e)(gK:oF e):uX e:=by
 have S:=BP
 exact T.EA.okD S (fun ds U Q h=>zW h) (fun cdv A outer s H E hr=>⟨oX,(ak (bI (DW.dt (fQ (aQ (ic hr.units) bj (ar (dv 0) af (fun _ _=>rfl)) af (aF _)) (fQ (cu (bL (fT (zu _) rfl T.aI rfl T.qK PyProof.Rows.Boot.«list» (dv 1)))) (i4 (cu (bL (qh rfl rfl T.xr (aa (j4 (N':=["many"]) (cap:=[none]) rfl (qW (dv 1)) (fun _ _ _=>(bX (i:=0) (show List.Nodup (["many"]:List Str) by decide +kernel) rfl (Or.inl rfl))) (fun _ _ _=>il) (fun _ _ _=>(ai dh (hr.mono ⋯) rfl T.k9 T.kY T.kO (aa (dv 0) ah))) rfl nofun rfl nofun (by walk_at "cl") (jT rfl) rfl (jj trivial)) ah)))))))) (aq (aD eA)) aU)
  (aq (aD (df (bT hr.units) bj (dv 1) (ai gK (hr.mono ⋯) rfl T.xD T.xG T.xo (aa (dv 0) ah)) (aF _))))),fun ds U Qd h=>Dh h⟩)
theorem FI:aG ["_law_a","_law_b","_law_c","_law_common"] ["_law_a","_law_b","_law_c"] (ax ja):=by walk_at "s"
theorem EM(T:TX e)(cV:kL e):fg e:=by
 have S:=FI
 exact T.Gm.okD S (fun ds U Q h=>uW h) (fun cdv A outer s H E hr=>⟨qy,(ak (aN (i:=3) S.nd rfl (Or.inl rfl) (aT (ai cV (hr.mono ⋯) rfl T.jB T.ju T.jA (aa (ai cV (hr.mono ⋯) rfl T.jB T.ju T.jA (aa (dv 0) (aa (dv 1) ah))) (aa (dv 2) ah))) (ar (cD (aa af (aa (iu af) ah))) (qE rfl T.yJ (aa (df pX dX (dv 2) af (aF _)) ah)) (fun _ _=>rfl))))
  (aq (aD (aJ (aa (iV (dv 0) (dv 3)) (aa (iV (dv 1) (dv 3)) (aa (iV (dv 2) (dv 3)) ah))))))),fun ds U Qd h=>FR h⟩)
theorem vf:aG ["_law_thing"] ["_law_thing"] (ax de):=by walk_at "s"
theorem uf(T:TX e)(aX:d4 e)(cV:kL e):eW e:=by
 have S:=vf
 exact T.vH.okD S (fun ds U Q h=>yS h) (fun cdv A outer s H E hr=>⟨ia,(ak (bI (DW.dt (fQ (cu (bL (fT (kit_tuple _) rfl T.aI rfl T.jv PyProof.Rows.Boot.«tuple» (dv 0)))) (fQ (aQ (ic hr.units) bj (dS rfl T.fX (aa (dv 0) ah)) af (aF _)) (i4 (cu (bL (qh rfl rfl T.xr (aa (j4 (N':=["_law_one"]) (cap:=[none]) rfl (vI (dv 0)) (fun _ _ _=>(bX (i:=0) (show List.Nodup (["_law_one"]:List Str) by decide +kernel) rfl (Or.inl rfl))) (fun _ _ _=>il) (fun _ _ _=>(ai aX (hr.mono ⋯) rfl T.gk T.gu T.gm (aa (dv 0) ah))) rfl nofun rfl nofun (by walk_at "cl") (jT rfl) rfl (jj trivial)) ah)))))))) (aq (aD eA)) aU)
  (aq (aD (ji (df g0 dX (ar (dv 0) af (fun _ _=>rfl)) af (aF _)) (jQ (df (bT hr.units) bj (ai cV (hr.mono ⋯) rfl T.jB T.ju T.jA (aa (ai cV (hr.mono ⋯) rfl T.jB T.ju T.jA (aa (ar (dv 0) af (fun _ _=>rfl)) (aa (ar (dv 0) af (fun _ _=>rfl)) ah))) (aa (ar (dv 0) af (fun _ _=>rfl)) ah))) af (aF _))))))),fun ds U Qd h=>ug h⟩)
theorem DQ:aG ["_law_bag_here","_law_some"] ["_law_bag_here"] (ax gI):=by walk_at "s"
theorem Dg(T:TX e)(aw:bO e):tQ e:=by
 have S:=DQ
 exact T.EN.okD S (fun ds U Q h=>D8 h) (fun cdv A outer s H E hr=>⟨o6,(ak (bI (aQ (bT hr.units) bj (ai aw (hr.mono ⋯) rfl T.aK T.aM T.aL (aa (dv 0) (aa af ah))) af (aF _)) (aq (aD (ar (cD (aa af (aa af (aa af ah)))) (ai aw (hr.mono ⋯) rfl T.aK T.aM T.aL (aa (dv 0) (aa af ah))) (fun _ _=>rfl)))) aU)
  (ak (HM (i:=1) (N':=["_law_d"]) (cap:=[none]) S.nd rfl rfl rfl (Nb rfl T.C7 (aa af (aa af ah))) (fun _ _ _=>(bX (i:=0) (show List.Nodup (["_law_d"]:List Str) by decide +kernel) rfl (Or.inl rfl))) (fun _ _ _=>(Fn (aQ (Jq hr.units) P9 (dv 0) (cD (aa af (aa af (aa af (aa af ah))))) (by with_unfolding_all rfl)))) (fun _ _ _=>(dv 0)) rfl nofun rfl nofun (by walk_at "cl") (jT rfl) rfl (jj trivial))
  (aq (aD (ar (dv 1) (ai aw (hr.mono ⋯) rfl T.aK T.aM T.aL (aa (dv 0) (aa af ah))) (fun _ _=>rfl)))))),fun ds U Qd h=>Dv h⟩)
theorem EY:aG ["_law_bag_here","_law_some"] ["_law_bag_here"] (ax jc):=by walk_at "s"
theorem Fh(T:TX e)(aw:bO e):jF e:=by
 have S:=EY
 exact T.Hs.okD S (fun ds U Q h=>Jx h) (fun cdv A outer s H E hr=>⟨pN,(ak (aN (i:=1) S.nd rfl (Or.inl rfl) (cD (aa Lh (aa eA (aa eA (aa bR (aa bR (aa (iu af) (aa af (aa af (aa (G9 af af) (aa (aJ ah) (aa (cD ah) (aa (cD (aa af ah)) (aa (aJ (aa af (aa af ah))) (aa (aJ (aa af (aa af (aa af ah)))) (aa (aJ (aa af (aa af (aa af ah)))) (aa (aJ (aa af (aa eA (aa af ah)))) (aa (aJ (aa af (aa af (aa (iu af) ah)))) (aa (cD (aa af (aa af (aa af ah)))) (aa (aJ (aa af (aa af ah))) (aa bR ah))))))))))))))))))))))
  (aq (aD (ar (dv 1) (ai aw (hr.mono ⋯) rfl T.aK T.aM T.aL (aa (dv 0) (aa af ah))) (fun _ _=>rfl))))),fun ds U Qd h=>Fc h⟩)
theorem D0:aG ["thing","a","b","c"] ["thing"] (ax gH):=by walk_at "s"
theorem DJ(T:TX e)(dh:lG e)(cX:hJ e):nO e:=by
 have S:=D0
 exact T.ER.okD S (fun ds U Q h=>yS h) (fun cdv A outer s H E hr=>⟨oD,(ak (bI (DW.dt (fQ (cu (bL (fT (kit_tuple _) rfl T.aI rfl T.jv PyProof.Rows.Boot.«tuple» (dv 0)))) (i4 (aQ (ic hr.units) bj (dS rfl T.fX (aa (dv 0) ah)) af (aF _))))) (aq (aD eA)) aU)
  (ak (yE (dv 0) (wm (n:=3) rfl (d6 (bX (i:=1) S.nd rfl (Or.inl rfl)) (d6 (bX (i:=2) S.nd rfl (Or.inl rfl)) (d6 (bX (i:=3) S.nd rfl (Or.inl rfl)) qS)))))
  (ak (bI (DW.dt (fQ (cu (bL (ai dh (hr.mono ⋯) rfl T.k9 T.kY T.kO (aa (dv 1) ah)))) (fQ (cu (bL (ai dh (hr.mono ⋯) rfl T.k9 T.kY T.kO (aa (dv 2) ah)))) (i4 (cu (bL (ai dh (hr.mono ⋯) rfl T.k9 T.kY T.kO (aa (dv 3) ah)))))))) (aq (aD eA)) aU)
  (aq (aD (ji (df Ai dX (dv 3) af (aF _)) (jQ (df (bT hr.units) bj (ai cX (hr.mono ⋯) rfl T.mD T.mP T.nu (aa (dv 1) (aa (dv 2) (aa (dv 3) ah)))) af (aF _))))))))),fun ds U Qd h=>C0 h⟩)
theorem J1:aG ["a","b","c","divisor"] ["a","b","c"] (ax ny):=by walk_at "s"
theorem J3(T:TX e)(cX:hJ e):kJ e:=by
 have S:=J1
 exact T.LG.okD S (fun ds U Q h=>uW h) (fun cdv A outer s H E hr=>⟨vV,(ak (bI (aQ (bT hr.units) bj (dv 2) af (aF _)) (aq uC) aU)
  (ak (aN (i:=3) S.nd rfl (Or.inl rfl) (ai cX (hr.mono ⋯) rfl T.mD T.mP T.nu (aa (dv 0) (aa (dv 1) (aa (dv 2) ah)))))
  (ak (bI (aQ pX dX (dv 2) af (aF _)) (aq (aN (i:=3) S.nd rfl (Or.inl rfl) (iu (dv 3)))) aU)
  (aq (aD (aJ (aa (iV (dv 0) (dv 3)) (aa (iV (dv 1) (dv 3)) (aa (iV (dv 2) (dv 3)) ah))))))))),fun ds U Qd h=>Jz h⟩)
theorem FG:aG ["d","x"] ["d","x"] (ax i7):=by walk_at "s"
theorem EX(T:TX e)(d5:oZ e):pY e:=by
 have S:=FG
 exact T.Hy.okD S (fun ds U Q h=>AO h) (fun cdv A outer s H E hr=>⟨qN,(aq (aD (ji (df (bT hr.units) bj (ar (dv 1) af (fun _ _=>rfl)) af (aF _)) (jQ (df Ai dX (ai d5 (hr.mono ⋯) rfl T.mM T.mR T.nq (aa (dv 0) (aa (dv 1) ah))) af (aF _)))))),fun ds U Qd h=>Fi h⟩)
theorem Co:aG ["_law_x","_law_y"] ["_law_x","_law_y"] (ax gP):=by walk_at "s"
theorem CF(T:TX e)(bH:fg e):oJ e:=by
 have S:=Co
 exact T.E7.okD S (fun ds U Q h=>zG h) (fun cdv A outer s H E hr=>⟨vx,(aq (aD (ai bH (hr.mono ⋯) rfl T.jo T.i9 T.jm (aa (dR (aT (ar (dv 0) af (fun _ _=>rfl)) (ar (dv 1) af (fun _ _=>rfl))) (aT (ar (dv 1) af (fun _ _=>rfl)) (ar (dv 0) af (fun _ _=>rfl)))) (aa (dR (aT (ar (dv 0) af (fun _ _=>rfl)) (ar (dv 1) af (fun _ _=>rfl))) (aT (ar (dv 1) af (fun _ _=>rfl)) (ar (dv 0) af (fun _ _=>rfl)))) (aa (aT (ar (dv 0) af (fun _ _=>rfl)) (ar (dv 1) af (fun _ _=>rfl))) ah)))))),fun ds U Qd h=>BV h⟩)
theorem Ax:aG ["_law_d","_law_x","_law_y"] ["_law_d","_law_x","_law_y"] (ax fj):=by walk_at "s"
theorem Av(T:TX e)(bH:fg e):fW e:=by
 have S:=Ax
 exact T.BR.okD S (fun ds U Q h=>xC h) (fun cdv A outer s H E hr=>⟨rL,(aq (aD (ai bH (hr.mono ⋯) rfl T.jo T.i9 T.jm (aa (dR (aT (ar (dv 1) af (fun _ _=>rfl)) (ar (dv 2) af (fun _ _=>rfl))) (aT (aT (dv 0) (ar (dv 1) af (fun _ _=>rfl))) (ar (dv 2) af (fun _ _=>rfl)))) (aa (dR (aT (ar (dv 1) af (fun _ _=>rfl)) (ar (dv 2) af (fun _ _=>rfl))) (aT (ar (dv 1) af (fun _ _=>rfl)) (ar (dv 2) af (fun _ _=>rfl)))) (aa (aT (ar (dv 1) af (fun _ _=>rfl)) (ar (dv 2) af (fun _ _=>rfl))) ah)))))),fun ds U Qd h=>AI h⟩)
theorem wx:aG ["_law_d","_law_x"] ["_law_d","_law_x"] (ax dA):=by walk_at "s"
theorem wy(T:TX e)(bH:fg e):d7 e:=by
 have S:=wx
 exact T.xY.okD S (fun ds U Q h=>pP h) (fun cdv A outer s H E hr=>⟨iJ,(aq (aD (ai bH (hr.mono ⋯) rfl T.jo T.i9 T.jm (aa (aT (ar (dv 1) af (fun _ _=>rfl)) (ar (dv 1) af (fun _ _=>rfl))) (aa (fU af (aT (ar (dv 1) af (fun _ _=>rfl)) (ar (dv 1) af (fun _ _=>rfl)))) (aa (fU (aT (ar (dv 1) af (fun _ _=>rfl)) (ar (dv 1) af (fun _ _=>rfl))) (aT (aT (dv 0) (ar (dv 1) af (fun _ _=>rfl))) (ar (dv 1) af (fun _ _=>rfl)))) ah)))))),fun ds U Qd h=>w6 h⟩)
theorem yU:aG ["_law_bag_here","_law_wide","_law_a","_law_b","_law_c","_law_way"] ["_law_bag_here"] (ax eN):=by walk_at "s"
theorem zi(T:TX e)(aw:bO e)(bH:fg e):qA e:=by
 have S:=yU
 exact T.Bi.okD S (fun ds U Q h=>A4 h) (fun cdv A outer s H E hr=>⟨kP,(ak (aN (i:=1) S.nd rfl (Or.inl rfl) (ar (cD (aa af (aa af (aa af (aa af ah))))) (ai aw (hr.mono ⋯) rfl T.aK T.aM T.aL (aa (dv 0) (aa af ah))) (fun _ _=>rfl)))
  (ak (pS (i:=2) (j:=3) rfl S.nd rfl rfl ⋯ rfl rfl (aa (fU (ai aw (hr.mono ⋯) rfl T.aK T.aM T.aL (aa (dv 0) (aa (dv 1) ah))) (iV (dv 1) af)) (aa (fU (ai aw (hr.mono ⋯) rfl T.aK T.aM T.aL (aa (dv 0) (aa (dv 1) ah))) (iV (dv 1) af)) ah)) rfl)
  (ak (aN (i:=4) S.nd rfl (Or.inl rfl) (dR af (ai aw (hr.mono ⋯) rfl T.aK T.aM T.aL (aa (dv 0) (aa (fU (dv 1) af) ah)))))
  (ak (aN (i:=5) S.nd rfl (Or.inl rfl) (ai aw (hr.mono ⋯) rfl T.aK T.aM T.aL (aa (dv 0) (aa af ah))))
  (aq (aD (ai bH (hr.mono ⋯) rfl T.jo T.i9 T.jm (aa (ar (cD (aa (dv 2) (aa (dv 2) (aa (dv 2) (aa (dv 2) (aa (dv 2) (aa (dv 2) (aa (dv 2) (aa af ah))))))))) (dv 5) (fun _ _=>rfl)) (aa (ar (cD (aa (dv 3) (aa (dv 3) (aa (dv 3) (aa (dv 3) (aa (dv 3) (aa af (aa af (aa (dv 3) ah))))))))) (dv 5) (fun _ _=>rfl)) (aa (ar (cD (aa (dv 4) (aa (dv 4) (aa af (aa (dv 4) (aa af (aa (dv 4) (aa af (aa (dv 4) ah))))))))) (dv 5) (fun _ _=>rfl)) ah)))))))))),fun ds U Qd h=>zZ h⟩)
theorem v5:aG ["_law_bag_here","_law_wide"] ["_law_bag_here"] (ax dG):=by walk_at "s"
theorem wO(T:TX e)(aw:bO e)(bH:fg e):mC e:=by
 have S:=v5
 exact T.xM.okD S (fun ds U Q h=>FH h) (fun cdv A outer s H E hr=>⟨iO,(ak (aN (i:=1) S.nd rfl (Or.inl rfl) (ar (cD (aa af (aa af (aa af (aa af ah))))) (ai aw (hr.mono ⋯) rfl T.aK T.aM T.aL (aa (dv 0) (aa af ah))) (fun _ _=>rfl)))
  (aq (aD (ai bH (hr.mono ⋯) rfl T.jo T.i9 T.jm (aa (dR af (ai aw (hr.mono ⋯) rfl T.aK T.aM T.aL (aa (dv 0) (aa (dv 1) ah)))) (aa af (aa (dR af (ai aw (hr.mono ⋯) rfl T.aK T.aM T.aL (aa (dv 0) (aa (dv 1) ah)))) ah))))))),fun ds U Qd h=>wH h⟩)
theorem wV:aG ["_law_d","_law_claim","_law_word","_law_size"] ["_law_d","_law_claim","_law_word","_law_size"] (ax dF):=by walk_at "s"
theorem wB(T:TX e)(bP:eW e)(dQ:kz e):nc e:=by
 have S:=wV
 exact T.xR.okD S (fun ds U Q h=>E9 h) (fun cdv A outer s H E hr=>⟨iM,(ak (bI (DW.dt (fQ (cu (bL (fT (kit_tuple _) rfl T.aI rfl T.jv PyProof.Rows.Boot.«tuple» (dv 1)))) (fQ (aQ (ic hr.units) bj (dS rfl T.fX (aa (dv 1) ah)) (dv 3) (aF _)) (fQ (cu (bL (fT (NN _) rfl T.aI rfl T.SF PyProof.Rows.Boot.«str» (ar (dv 1) af (fun _ _=>rfl))))) (i4 (aQ (ic hr.units) bj (ar (dv 1) af (fun _ _=>rfl)) (dv 2) (aF _))))))) (aq (aD eA)) aU)
  (aq (aD (ji (ai bP (hr.mono ⋯) rfl T.iH T.iL T.jn (aa (ar (dv 1) (iu af) (fun _ _=>rfl)) ah)) (jQ (df g0 dX (ai dQ (hr.mono ⋯) rfl T.qi T.qr T.qv (aa (dv 0) (aa (ar (dv 1) (iu af) (fun _ _=>rfl)) ah))) af (aF _))))))),fun ds U Qd h=>wJ h⟩)
theorem NB:aG ["x","y"] ["x","y"] (ax wI):=by walk_at "s"
theorem bW(T:TX e)(dg:kJ e):BM e:=by
 have S:=NB
 exact T.Rz.okD S (fun ds U Q h=>zG h) (fun cdv A outer s H E hr=>⟨Dj,(aq (aD (ai dg (hr.mono ⋯) rfl T.qf T.pT T.qC (aa (dR (aT (ar (dv 0) af (fun _ _=>rfl)) (ar (dv 1) af (fun _ _=>rfl))) (aT (ar (dv 1) af (fun _ _=>rfl)) (ar (dv 0) af (fun _ _=>rfl)))) (aa (dR (aT (ar (dv 0) af (fun _ _=>rfl)) (ar (dv 1) af (fun _ _=>rfl))) (aT (ar (dv 1) af (fun _ _=>rfl)) (ar (dv 0) af (fun _ _=>rfl)))) (aa (aT (ar (dv 0) af (fun _ _=>rfl)) (ar (dv 1) af (fun _ _=>rfl))) ah)))))),fun ds U Qd h=>Iu h⟩)
theorem N0:aG ["x","y"] ["x","y"] (ax xg):=by walk_at "s"
theorem nF(T:TX e)(dg:kJ e):Dk e:=by
 have S:=N0
 exact T.P7.okD S (fun ds U Q h=>He h) (fun cdv A outer s H E hr=>⟨B7,(aq (aD (ai dg (hr.mono ⋯) rfl T.qf T.pT T.qC (aa (fU (aT (ar (dv 0) af (fun _ _=>rfl)) (ar (dv 1) af (fun _ _=>rfl))) (aT (ar (dv 1) af (fun _ _=>rfl)) (ar (dv 0) af (fun _ _=>rfl)))) (aa (fU (aT (ar (dv 0) af (fun _ _=>rfl)) (ar (dv 1) af (fun _ _=>rfl))) (aT (ar (dv 1) af (fun _ _=>rfl)) (ar (dv 0) af (fun _ _=>rfl)))) (aa (aT (ar (dv 0) af (fun _ _=>rfl)) (ar (dv 1) af (fun _ _=>rfl))) ah)))))),fun ds U Qd h=>Ng h⟩)
theorem LK:aG ["d","x","y"] ["d","x","y"] (ax qZ):=by walk_at "s"
theorem av(T:TX e)(dg:kJ e):mQ e:=by
 have S:=LK
 exact T.NO.okD S (fun ds U Q h=>xC h) (fun cdv A outer s H E hr=>⟨yP,(aq (aD (ai dg (hr.mono ⋯) rfl T.qf T.pT T.qC (aa (dR (aT (ar (dv 1) af (fun _ _=>rfl)) (ar (dv 2) af (fun _ _=>rfl))) (aT (aT (dv 0) (ar (dv 1) af (fun _ _=>rfl))) (ar (dv 2) af (fun _ _=>rfl)))) (aa (dR (aT (ar (dv 1) af (fun _ _=>rfl)) (ar (dv 2) af (fun _ _=>rfl))) (aT (ar (dv 1) af (fun _ _=>rfl)) (ar (dv 2) af (fun _ _=>rfl)))) (aa (aT (ar (dv 1) af (fun _ _=>rfl)) (ar (dv 2) af (fun _ _=>rfl))) ah)))))),fun ds U Qd h=>Ey h⟩)
theorem FN:aG ["d","x","norm"] ["d","x"] (ax iP):=by walk_at "s"
theorem aC(T:TX e)(dg:kJ e):lP e:=by
 have S:=FN
 exact T.Gs.okD S (fun ds U Q h=>pP h) (fun cdv A outer s H E hr=>⟨pK,(ak (aN (i:=2) S.nd rfl (Or.inl rfl) (fU (aT (ar (dv 1) af (fun _ _=>rfl)) (ar (dv 1) af (fun _ _=>rfl))) (aT (aT (dv 0) (ar (dv 1) af (fun _ _=>rfl))) (ar (dv 1) af (fun _ _=>rfl)))))
  (aq (aD (ai dg (hr.mono ⋯) rfl T.qf T.pT T.qC (aa (aT (ar (dv 1) af (fun _ _=>rfl)) (ar (dv 1) af (fun _ _=>rfl))) (aa (aT (iu (ar (dv 1) af (fun _ _=>rfl))) (ar (dv 1) af (fun _ _=>rfl))) (aa (dv 2) ah))))))),fun ds U Qd h=>Fy h⟩)
theorem sR:aG ["d","thing"] ["d","thing"] (ax cF):=by walk_at "s"
theorem sH(T:TX e)(gY:nO e)(d5:oZ e):eo e:=by
 have S:=sR
 exact T.uU.okD S (fun ds U Q h=>Ce h) (fun cdv A outer s H E hr=>⟨gy,(aq (aD (ji (ai gY (hr.mono ⋯) rfl T.xx T.xA T.xl (aa (dv 1) ah)) (jQ (df (bT hr.units) bj (ai d5 (hr.mono ⋯) rfl T.mM T.mR T.nq (aa (dv 0) (aa (dv 1) ah))) af (aF _)))))),fun ds U Qd h=>tE h⟩)
theorem AB:aG ["_law_bag_here","_law_d","_law_x","_law_sign_here"] ["_law_bag_here","_law_d"] (ax fm):=by walk_at "s"
theorem Au(T:TX e)(mi:qA e)(dQ:kz e)(aw:bO e)(fi:mv e):jw e:=by
 have S:=AB
 exact T.B6.okD S (fun ds U Q h=>B4 h) (fun cdv A outer s H E hr=>⟨l6,(ak (aN (i:=2) S.nd rfl (Or.inl rfl) (ai mi (hr.mono ⋯) rfl T.AG T.AW T.AF (aa (dv 0) ah)))
  (ak (aN (i:=3) S.nd rfl (Or.inl rfl) (ai dQ (hr.mono ⋯) rfl T.qi T.qr T.qv (aa (dv 1) (aa (dv 2) ah))))
  (ak (bI (aQ (bT hr.units) bj (dv 3) af (aF _)) (aq (aD (aJ (aa (dR af (ai aw (hr.mono ⋯) rfl T.aK T.aM T.aL (aa (dv 0) (aa af ah)))) (aa af (aa af ah)))))) aU)
  (aq (aD (xi (aQ g0 dX (dv 3) af (aF _)) (dv 2) (ai fi (hr.mono ⋯) rfl T.u6 T.uE T.uV (aa (dv 2) ah)))))))),fun ds U Qd h=>An h⟩)
theorem tm:aG ["_law_d","_law_kind","_law_shape","_law_thing","_law_both"] ["_law_d","_law_kind","_law_shape","_law_thing"] (ax cE):=by walk_at "s"
theorem sr(T:TX e)(bP:eW e)(br:fW e)(bC:d7 e)(gQ:oJ e):kN e:=by
 have S:=tm
 exact T.tL.okD S (fun ds U Q h=>rZ h) (fun cdv A outer s H E hr=>⟨gD,(ak (bI (DW.dt (fQ (cu (bL (fT (kit_tuple _) rfl T.aI rfl T.jv PyProof.Rows.Boot.«tuple» (dv 3)))) (fQ (aQ (ic hr.units) bj (dS rfl T.fX (aa (dv 3) ah)) af (aF _)) (i4 (cu (bL (qh rfl rfl T.xr (aa (j4 (N':=["_law_one"]) (cap:=[none]) rfl (vI (dv 3)) (fun _ _ _=>(bX (i:=0) (show List.Nodup (["_law_one"]:List Str) by decide +kernel) rfl (Or.inl rfl))) (fun _ _ _=>il) (fun _ _ _=>(ai bP (hr.mono ⋯) rfl T.iH T.iL T.jn (aa (dv 0) ah))) rfl nofun rfl nofun (by walk_at "cl") (jT rfl) rfl (jj trivial)) ah)))))))) (aq (aD eA)) aU)
  (ak (bI (cu (bL (qh rfl rfl T.xr (aa (j4 (N':=["_law_one"]) (cap:=[none]) rfl (vI (dv 3)) (fun _ _ _=>(bX (i:=0) (show List.Nodup (["_law_one"]:List Str) by decide +kernel) rfl (Or.inl rfl))) (fun _ _ _=>il) (fun _ _ _=>(ji (df (bT hr.units) bj (ar (dv 0) af (fun _ _=>rfl)) af (aF _)) (jQ (df Ai dX (ar (dv 0) af (fun _ _=>rfl)) af (aF _))))) rfl nofun rfl nofun (by walk_at "cl") (jT rfl) rfl (jj trivial)) ah)))) (aq (aD eA)) aU)
  (ak (aN (i:=4) S.nd rfl (Or.inl rfl) (cD (aa (ai br (hr.mono ⋯) rfl T.dO T.dJ T.dI (aa (dv 0) (aa (ar (dv 3) af (fun _ _=>rfl)) (aa (dv 1) ah)))) (aa (ai br (hr.mono ⋯) rfl T.dO T.dJ T.dI (aa (dv 0) (aa (ar (dv 3) af (fun _ _=>rfl)) (aa (ai bC (hr.mono ⋯) rfl T.gr T.gc T.fZ (aa (dv 0) (aa (dv 1) ah))) ah)))) ah))))
  (aq (aD (df (bT hr.units) bj (ai gQ (hr.mono ⋯) rfl T.xh T.xu T.xk (aa (ar (dv 4) af (fun _ _=>rfl)) (aa (ar (dv 4) af (fun _ _=>rfl)) ah))) (dv 2) (aF _))))))),fun ds U Qd h=>tI h⟩)
theorem OH:aG ["d","x","y"] ["d","x","y"] (ax vE):=by walk_at "s"
theorem Nu(T:TX e)(cT:mQ e)(eu:lP e):rq e:=by
 have S:=OH
 exact T.Qx.okD S (fun ds U Q h=>Hu h) (fun cdv A outer s H E hr=>⟨CQ,(ak (bI (aQ (bT hr.units) bj (dv 2) (fY rfl T.lj) (aF _)) (aq uC) aU)
  (aq (aD (ai cT (hr.mono ⋯) rfl T.kj T.j5 T.kv (aa (dv 0) (aa (dv 1) (aa (ai eu (hr.mono ⋯) rfl T.sE T.sJ T.sM (aa (dv 0) (aa (dv 2) ah))) ah))))))),fun ds U Qd h=>Nf h⟩)
theorem mO:aG ["d","thing"] ["d","thing"] (ax bN):=by walk_at "s"
theorem nj(T:TX e)(bD:eo e):dY e:=by
 have S:=mO
 exact T.ot.okD S (fun ds U Q h=>xT h) (fun cdv A outer s H E hr=>⟨d9,(aq (bI (cu (bL (ai bD (hr.mono ⋯) rfl T.eR T.eU T.eV (aa (dv 0) (aa (dv 1) ah))))) (aq uC) aU)),fun ds U Qd h=>mE h⟩)
theorem Ft:aG ["d","thing"] ["d","thing"] (ax iT):=by walk_at "s"
theorem Fp(T:TX e)(bD:eo e):qk e:=by
 have S:=Ft
 exact T.GL.okD S (fun ds U Q h=>B0 h) (fun cdv A outer s H E hr=>⟨qa,(ak (bI (DW.dt (fQ (cu (bL (fT (kit_tuple _) rfl T.aI rfl T.jv PyProof.Rows.Boot.«tuple» (dv 1)))) (fQ (aQ pX dX (dS rfl T.fX (aa (dv 1) ah)) af (aF _)) (i4 (aQ g0 dX (dS rfl T.fX (aa (dv 1) ah)) (HF (u:=.int 3) rfl T.Cu ⟨_,rfl⟩ (fun _ _ _=>Rp.int 3)) (aF _)))))) (aq (aD eA)) aU)
  (aq (aD (qh rfl rfl T.xr (aa (j4 (N':=["kind","d"]) (cap:=[none,some 0]) rfl (vI (dv 1)) (fun _ _ _=>(bX (i:=0) (show List.Nodup (["kind","d"]:List Str) by decide +kernel) rfl (Or.inl rfl))) (fun _ _ _=>il) (fun _ _ _=>(ai bD (hr.mono ⋯) rfl T.eR T.eU T.eV (aa (dv 1) (aa (dv 0) ah)))) rfl nofun rfl nofun (by walk_at "cl") (jT rfl) rfl (jj ⟨K7,trivial⟩)) ah))))),fun ds U Qd h=>Es h⟩)
theorem NJ:aG ["shape","way"] ["shape","way"] (ax w8):=by walk_at "s"
theorem rm(T:TX e)(wG:Dk e)(mf:C6 e)(vA:BM e):Ie e:=by
 have S:=NJ
 exact T.PV.okD S (fun ds U Q h=>Hi h) (fun cdv A outer s H E hr=>⟨Ct,(aq (aD (xi (aQ g0 dX (dv 1) af (aF _)) (ai wG (hr.mono ⋯) rfl T.Mj T.L8 T.Kq (aa (dv 0) (aa (ai mf (hr.mono ⋯) rfl T.vR T.vX T.w9 (aa (dv 0) ah)) ah))) (ai vA (hr.mono ⋯) rfl T.LU T.Lp T.M3 (aa (dv 0) (aa (ai mf (hr.mono ⋯) rfl T.vR T.vX T.w9 (aa (dv 0) ah)) ah)))))),fun ds U Qd h=>Oz h⟩)
theorem Aa:aG ["d","kind","shape","paper","u","v"] ["d","kind","shape","paper"] (ax eJ):=by walk_at "s"
theorem zA(T:TX e)(gY:nO e)(js:pY e)(vA:BM e)(cT:mQ e)(eu:lP e):qx e:=by
 have S:=Aa
 exact T.AV.okD S (fun ds U Q h=>rZ h) (fun cdv A outer s H E hr=>⟨kU,(ak (bI (DW.dt (fQ (cu (bL (fT (kit_tuple _) rfl T.aI rfl T.jv PyProof.Rows.Boot.«tuple» (dv 3)))) (i4 (aQ (ic hr.units) bj (dS rfl T.fX (aa (dv 3) ah)) af (aF _))))) (aq (aD eA)) aU)
  (ak (bI (cu (bL (qh rfl rfl T.xr (aa (j4 (N':=["share","d"]) (cap:=[none,some 0]) rfl (vI (dv 3)) (fun _ _ _=>(bX (i:=0) (show List.Nodup (["share","d"]:List Str) by decide +kernel) rfl (Or.inl rfl))) (fun _ _ _=>il) (fun _ _ _=>(ji (ai gY (hr.mono ⋯) rfl T.xx T.xA T.xl (aa (dv 0) ah)) (jQ (ai js (hr.mono ⋯) rfl T.yx T.ze T.yL (aa (dv 1) (aa (dv 0) ah)))))) rfl nofun rfl nofun (by walk_at "cl") (jT rfl) rfl (jj ⟨K7,trivial⟩)) ah)))) (aq (aD eA)) aU)
  (ak (yE (dv 3) (wm (n:=2) rfl (d6 (bX (i:=4) S.nd rfl (Or.inl rfl)) (d6 (bX (i:=5) S.nd rfl (Or.inl rfl)) qS))))
  (aq (aD (df (bT hr.units) bj (ai vA (hr.mono ⋯) rfl T.LU T.Lp T.M3 (aa (ai cT (hr.mono ⋯) rfl T.kj T.j5 T.kv (aa (dv 0) (aa (dv 4) (aa (dv 1) ah)))) (aa (ai cT (hr.mono ⋯) rfl T.kj T.j5 T.kv (aa (dv 0) (aa (dv 5) (aa (ai eu (hr.mono ⋯) rfl T.sE T.sJ T.sM (aa (dv 0) (aa (dv 1) ah))) ah)))) ah))) (dv 2) (aF _))))))),fun ds U Qd h=>zL h⟩)
theorem Ar:aG ["_law_bag_here","_law_d","_law_found","_law_turn","_law_way","_law_part","_law_kind"] ["_law_bag_here","_law_d"] (ax fK):=by walk_at "s"
theorem AH(T:TX e)(cA:jw e)(aw:bO e)(bC:d7 e)(br:fW e)(bH:fg e):rX e:=by
 have S:=Ar
 exact T.CA.okD S (fun ds U Q h=>CP h) (fun cdv A outer s H E hr=>⟨l7,(ak (aN (i:=2) S.nd rfl (Or.inl rfl) (yc (aa (ai cA (hr.mono ⋯) rfl T.ke T.ky T.kc (aa (dv 0) (aa (dv 1) ah))) ah)))
  (ak (CZ PassesOwn.never rfl (IH rfl T.C7 (aa (ai aw (hr.mono ⋯) rfl T.aK T.aM T.aL (aa (dv 0) (aa af ah))) ah)) (bX (i:=3) S.nd rfl (Or.inl rfl)) (ak (aN (i:=4) S.nd rfl (Or.inl rfl) (ai aw (hr.mono ⋯) rfl T.aK T.aM T.aL (aa (dv 0) (aa af ah))))
  (ak (aN (i:=5) S.nd rfl (Or.inl rfl) (aJ (aa (dR af (ai aw (hr.mono ⋯) rfl T.aK T.aM T.aL (aa (dv 0) (aa af ah)))) (aa af (aa (dR af (ai aw (hr.mono ⋯) rfl T.aK T.aM T.aL (aa (dv 0) (aa af ah)))) ah)))))
  (ak (aN (i:=6) S.nd rfl (Or.inl rfl) (ar (cD (aa (ar (dv 2) af (fun _ _=>rfl)) (aa (ai bC (hr.mono ⋯) rfl T.gr T.gc T.fZ (aa (dv 1) (aa (ar (dv 2) af (fun _ _=>rfl)) ah))) ah))) (jS (dv 4) af) (fun _ _=>rfl)))
  (ak (bI (aQ g0 dX (dv 4) af (aF _)) (aq (aN (i:=6) S.nd rfl (Or.inl rfl) (ai cA (hr.mono ⋯) rfl T.ke T.ky T.kc (aa (dv 0) (aa (dv 1) ah))))) (aq (bI (aQ g0 dX (dv 4) af (aF _)) (aq (aN (i:=6) S.nd rfl (Or.inl rfl) (ai br (hr.mono ⋯) rfl T.dO T.dJ T.dI (aa (dv 1) (aa (dv 6) (aa (ai bH (hr.mono ⋯) rfl T.jo T.i9 T.jm (aa (ar (dv 5) af (fun _ _=>rfl)) (aa (ar (dv 5) af (fun _ _=>rfl)) (aa (ar (dv 5) af (fun _ _=>rfl)) ah)))) ah)))))) aU)))
  (aq (kd (v7 (dv 2) (dv 6)))))))))
  (aq (aD (EU rfl T.jv (aa (dv 2) ah)))))),fun ds U Qd h=>AR h⟩)
theorem tK:aG ["_law_bag_here","_law_d","_law_x","_law_some"] ["_law_bag_here","_law_d"] (ax da):=by walk_at "s"
theorem tR(T:TX e)(cA:jw e)(cg:jF e)(fi:mv e)(aw:bO e):lK e:=by
 have S:=tK
 exact T.vP.okD S (fun ds U Q h=>zN h) (fun cdv A outer s H E hr=>⟨ie,(ak (aN (i:=2) S.nd rfl (Or.inl rfl) (ai cA (hr.mono ⋯) rfl T.ke T.ky T.kc (aa (dv 0) (aa (dv 1) ah))))
  (ak (aN (i:=3) S.nd rfl (Or.inl rfl) (cD (aa (ai cg (hr.mono ⋯) rfl T.nQ T.nV T.nX (aa (dv 0) ah)) (aa (ai fi (hr.mono ⋯) rfl T.u6 T.uE T.uV (aa (dv 2) ah)) (aa (aJ (aa af (aa af (aa af ah)))) (aa (aJ (aa (aT (ar (dv 2) af (fun _ _=>rfl)) af) (aa (aT (ar (dv 2) af (fun _ _=>rfl)) af) (aa (aT (ar (dv 2) af (fun _ _=>rfl)) af) ah)))) (aa (aJ (aa (ar (dv 2) af (fun _ _=>rfl)) (aa (ar (dv 2) af (fun _ _=>rfl)) (aa (fU af (ar (dv 2) af (fun _ _=>rfl))) ah)))) (aa (IL rfl T.qK (aa (dv 2) ah)) (aa (iy (dv 2) kx (j9 af)) (aa (fD (dv 2) (aJ (aa af ah))) (aa (aJ (aa (ar (dv 2) af (fun _ _=>rfl)) (aa Lh (aa (ar (dv 2) af (fun _ _=>rfl)) ah)))) (aa (aJ (aa eA (aa af (aa af ah)))) (aa (aJ (aa af (aa af (aa eA ah)))) (aa (aJ (aa (dv 2) ah)) ah))))))))))))))
  (aq (aD (ar (dv 3) (ai aw (hr.mono ⋯) rfl T.aK T.aM T.aL (aa (dv 0) (aa af ah))) (fun _ _=>rfl)))))),fun ds U Qd h=>ue h⟩)
theorem AU:aG ["_law_d","_law_kinds_here","_law_claim","_law_paper","_law_shape"] ["_law_d","_law_kinds_here","_law_claim","_law_paper"] (ax fG):=by walk_at "s"
theorem A9(T:TX e)(gp:nc e)(aX:d4 e)(g9:kN e)(bP:eW e)(dQ:kz e)(br:fW e)(bC:d7 e)(l4:p6 e):rN e:=by
 have S:=AU
 exact T.Cn.okD S (fun ds U Q h=>C8 h) (fun cdv A outer s H E hr=>⟨mw,(ak (bI (bL (ai gp (hr.mono ⋯) rfl T.pf T.pF T.pH (aa (dv 0) (aa (dv 2) (aa bR (aa af ah)))))) (ak (bI (DW.dt (fQ (cu (bL (ai aX (hr.mono ⋯) rfl T.gk T.gu T.gm (aa (ar (dv 2) af (fun _ _=>rfl)) ah)))) (i4 (cu (K5 HZ dX pX dX af (ar (dv 2) af (fun _ _=>rfl)) (dS rfl T.fX (aa (dv 1) ah))))))) (aq (aD eA)) aU)
  (aq (aD (ai g9 (hr.mono ⋯) rfl T.tO T.uq T.vd (aa (dv 0) (aa (ar (dv 1) (ar (dv 2) af (fun _ _=>rfl)) (fun _ _=>rfl)) (aa (ar (dv 2) af (fun _ _=>rfl)) (aa (dv 3) ah)))))))) aU)
  (ak (bI (DW.dt (fQ (cu (bL (ai gp (hr.mono ⋯) rfl T.pf T.pF T.pH (aa (dv 0) (aa (dv 2) (aa bR (aa af ah))))))) (fQ (cu (bL (ai bP (hr.mono ⋯) rfl T.iH T.iL T.jn (aa (ar (dv 2) af (fun _ _=>rfl)) ah)))) (i4 (cu (bL (fT (zu _) rfl T.aI rfl T.qK PyProof.Rows.Boot.«list» (dv 3)))))))) (aq (aD eA)) aU)
  (ak (bI (DW.dt (fQ (aQ pX dX (ai dQ (hr.mono ⋯) rfl T.qi T.qr T.qv (aa (dv 0) (aa (ar (dv 2) af (fun _ _=>rfl)) ah))) af (aF _)) (i4 (cu (bL (qh rfl rfl T.xr (aa (j4 (N':=["_law_count"]) (cap:=[none]) rfl (qW (dv 3)) (fun _ _ _=>(bX (i:=0) (show List.Nodup (["_law_count"]:List Str) by decide +kernel) rfl (Or.inl rfl))) (fun _ _ _=>il) (fun _ _ _=>(ai aX (hr.mono ⋯) rfl T.gk T.gu T.gm (aa (dv 0) ah))) rfl nofun rfl nofun (by walk_at "cl") (jT rfl) rfl (jj trivial)) ah))))))) (aq (aD eA)) aU)
  (ak (aN (i:=4) S.nd rfl (Or.inl rfl) (ai br (hr.mono ⋯) rfl T.dO T.dJ T.dI (aa (dv 0) (aa (ar (dv 2) af (fun _ _=>rfl)) (aa (ai bC (hr.mono ⋯) rfl T.gr T.gc T.fZ (aa (dv 0) (aa (ar (dv 2) af (fun _ _=>rfl)) ah))) ah)))))
  (aq (aD (ji (df (bT hr.units) bj (ar (dv 4) af (fun _ _=>rfl)) af (aF _)) (jQ (df (bT hr.units) bj (ai l4 (hr.mono ⋯) rfl T.AZ T.Bf T.Be (aa (ar (dv 4) af (fun _ _=>rfl)) (aa (ar (dv 4) af (fun _ _=>rfl)) ah))) (dv 3) (aF _)))))))))),fun ds U Qd h=>A2 h⟩)
theorem mT:aG ["d","thing"] ["d","thing"] (ax dy):=by walk_at "s"
theorem lB(T:TX e)(jb:qk e):fS e:=by
 have S:=mT
 exact T.pA.okX S (fun ds U Xk h=>Am h) (fun cdv A outer s H E hr=>⟨dr,(zY (Tq (cu (bL (ai jb (hr.mono ⋯) rfl T.yz T.yB T.zU (aa (dv 0) (aa (dv 1) ah))))) (zY (LI IV rfl T.Bo T.vK)) JI)),fun ds U Xk h=>lz h⟩)
theorem xf(T:TX e)(jb:qk e):mJ e:=by
 have S:=mT
 exact T.pA.okD S (fun ds U Q h=>xN h) (fun cdv A outer s H E hr=>⟨i8,(aq (bI (cu (bL (ai jb (hr.mono ⋯) rfl T.yz T.yB T.zU (aa (dv 0) (aa (dv 1) ah))))) (aq uC) aU)),fun ds U Qd h=>w5 h⟩)
theorem Dx:aG ["d","first","second","shape","whole","part","of_second","of_first"] ["d","first","second","shape"] (ax gN):=by walk_at "s"
theorem C4(T:TX e)(eO:rq e)(dg:kJ e)(wG:Dk e)(cT:mQ e):uS e:=by
 have S:=Dx
 exact T.FA.okD S (fun ds U Q h=>Cb h) (fun cdv A outer s H E hr=>⟨nR,(ak (aN (i:=4) S.nd rfl (Or.inl rfl) (ai eO (hr.mono ⋯) rfl T.p5 T.qF T.pM (aa (dv 0) (aa (dv 3) (aa (dv 1) ah)))))
  (ak (aN (i:=5) S.nd rfl (Or.inl rfl) (ai eO (hr.mono ⋯) rfl T.p5 T.qF T.pM (aa (dv 0) (aa (dv 2) (aa (dv 1) ah)))))
  (ak (aN (i:=6) S.nd rfl (Or.inl rfl) (ai dg (hr.mono ⋯) rfl T.qf T.pT T.qC (aa (aT (ar (dv 4) af (fun _ _=>rfl)) (ar (dv 5) af (fun _ _=>rfl))) (aa af (aa (aT (ar (dv 4) af (fun _ _=>rfl)) (ar (dv 5) af (fun _ _=>rfl))) ah)))))
  (ak (aN (i:=7) S.nd rfl (Or.inl rfl) (ai wG (hr.mono ⋯) rfl T.Mj T.L8 T.Kq (aa (dv 4) (aa (ai cT (hr.mono ⋯) rfl T.kj T.j5 T.kv (aa (dv 0) (aa (dv 6) (aa (dv 5) ah)))) ah))))
  (aq (aD (aJ (aa (dv 7) (aa (dv 6) ah))))))))),fun ds U Qd h=>Dq h⟩)
theorem G3:aG ["d","kind","shape","way","own","floor","turn","last","both"] ["d","kind","shape"] (ax kE):=by walk_at "s"
theorem HA(T:TX e)(d5:oZ e)(mf:C6 e)(BO:Ie e)(eO:rq e)(cT:mQ e):yX e:=by
 have S:=G3
 exact T.JH.okD S (fun ds U Q h=>BQ h) (fun cdv A outer s H E hr=>⟨sS,(ak (aN (i:=3) S.nd rfl (Or.inl rfl) (ai d5 (hr.mono ⋯) rfl T.mM T.mR T.nq (aa (dv 0) (aa (ai mf (hr.mono ⋯) rfl T.vR T.vX T.w9 (aa (dv 1) ah)) ah))))
  (ak (bI (aQ (ic hr.units) bj (ai d5 (hr.mono ⋯) rfl T.mM T.mR T.nq (aa (dv 0) (aa (ai mf (hr.mono ⋯) rfl T.vR T.vX T.w9 (aa (dv 2) ah)) ah))) (dv 3) (aF _)) (aq (aD (aJ (aa (fY rfl T.LD) (aa (aJ (aa (fY rfl T.lj) (aa (fY rfl T.lj) (aa (fY rfl T.lj) (aa (aJ (aa (dv 3) (aa af (aa af ah)))) ah))))) ah))))) aU)
  (ak (aN (i:=4) S.nd rfl (Or.inl rfl) (ai BO (hr.mono ⋯) rfl T.J8 T.Lq T.M7 (aa (dv 1) (aa (dv 3) ah))))
  (ak (aN (i:=5) S.nd rfl (Or.inl rfl) (ai BO (hr.mono ⋯) rfl T.J8 T.Lq T.M7 (aa (dv 2) (aa (dv 3) ah))))
  (ak (aN (i:=6) S.nd rfl (Or.inl rfl) (ai d5 (hr.mono ⋯) rfl T.mM T.mR T.nq (aa (dv 0) (aa (dv 5) ah))))
  (ak (aN (i:=7) S.nd rfl (Or.inl rfl) (ai eO (hr.mono ⋯) rfl T.p5 T.qF T.pM (aa (dv 0) (aa (ai cT (hr.mono ⋯) rfl T.kj T.j5 T.kv (aa (dv 0) (aa (aJ (aa (dv 6) (aa af (aa af ah)))) (aa (dv 5) ah)))) (aa (ai mf (hr.mono ⋯) rfl T.vR T.vX T.w9 (aa (dv 2) ah)) ah)))))
  (ak (aN (i:=8) S.nd rfl (Or.inl rfl) (ai eO (hr.mono ⋯) rfl T.p5 T.qF T.pM (aa (dv 0) (aa (ai cT (hr.mono ⋯) rfl T.kj T.j5 T.kv (aa (dv 0) (aa (dv 4) (aa (dv 4) ah)))) (aa (ai cT (hr.mono ⋯) rfl T.kj T.j5 T.kv (aa (dv 0) (aa (aJ (aa af (aa af (aa af ah)))) (aa (ai cT (hr.mono ⋯) rfl T.kj T.j5 T.kv (aa (dv 0) (aa (dv 1) (aa (ai mf (hr.mono ⋯) rfl T.vR T.vX T.w9 (aa (dv 1) ah)) ah)))) ah)))) ah)))))
  (aq (aD (aJ (aa (fY rfl T.LD) (aa (aJ (aa (ai eO (hr.mono ⋯) rfl T.p5 T.qF T.pM (aa (dv 0) (aa (dv 8) (aa (dv 7) ah)))) (aa (aJ (aa (aT (dv 3) (dv 6)) (aa af (aa af ah)))) (aa (aJ (aa (iu (dv 6)) (aa af (aa af ah)))) (aa (dv 7) ah))))) ah)))))))))))),fun ds U Qd h=>Hj h⟩)
theorem sU:aG ["shape","skew"] ["shape"] (ax cH):=by walk_at "s"
theorem sN(T:TX e):kK e:=by
 have S:=sU
 exact T.uK.okD S (fun ds U Q h=>ES h) (fun cdv A outer s H E hr=>⟨gE,(ak (aN (i:=1) S.nd rfl (Or.inl rfl) (xi (aQ g0 dX (ar (dv 0) af (fun _ _=>rfl)) af (aF _)) af (iu af)))
  (aq (aD (aJ (aa (fY rfl T.LD) (aa (aJ (aa (fY rfl T.lj) (aa (aJ (aa (dv 1) (aa af (aa af ah)))) (aa (aJ (aa (iu (dv 1)) (aa af (aa af ah)))) (aa (fY rfl T.lj) ah))))) ah)))))),fun ds U Qd h=>tj h⟩)
theorem uR:aG ["_law_bag_here","_law_d","_law_kinds_here","_law_at","_law_way"] ["_law_bag_here","_law_d","_law_kinds_here"] (ax cW):=by walk_at "s"
theorem uG(T:TX e)(aw:bO e)(jr:lK e):lN e:=by
 have S:=uR
 exact T.vC.okD S (fun ds U Q h=>zS h) (fun cdv A outer s H E hr=>⟨iB,(ak (aN (i:=3) S.nd rfl (Or.inl rfl) (ai aw (hr.mono ⋯) rfl T.aK T.aM T.aL (aa (dv 0) (aa (dS rfl T.fX (aa (dv 2) ah)) ah))))
  (ak (aN (i:=4) S.nd rfl (Or.inl rfl) (ai aw (hr.mono ⋯) rfl T.aK T.aM T.aL (aa (dv 0) (aa af ah))))
  (ak (bI (aQ pX dX (dv 4) af (aF _)) (aq (aD (fD (fD (iy (dv 2) kx (j9 (dv 3))) (aJ (aa (ai jr (hr.mono ⋯) rfl T.wg T.vZ T.vz (aa (dv 0) (aa (dv 1) ah))) ah))) (iy (dv 2) (j9 (fD (dv 3) af)) kx)))) aU)
  (aq (aD (ar (cD (aa (aJ ah) (aa (iy (fD (fD (fD (dv 2) (dv 2)) (dv 2)) (dv 2)) kx (j9 (fD af (dv 3)))) (aa (IL rfl T.qK (aa (dv 2) ah)) ah)))) (fU (dv 4) af) (fun _ _=>rfl))))))),fun ds U Qd h=>u4 h⟩)
theorem vU:aG ["_law_bag_here","_law_thing","_law_row","_law_at","_law_way"] ["_law_bag_here","_law_thing"] (ax dz):=by walk_at "s"
theorem sy:bz e.P e.w e.K e.mg e.base CX0 3 e.t.cm e.t.cI ["_law_bag_here","_law_thing"] (spD e.K (dE 0)):=
 ⟨fun vs H Q E h=>by obtain⟨ds,U,Qd,_,r,z,_⟩:=h;exact (Al z).elim,fun A outer s H args us vs Q E hr e0 hb hv h=>by obtain⟨ds,U,Qd,_,r,z,_⟩:=h;exact (Al z).elim⟩
theorem gz(T:TX e)(n k:Nat)(hk:3<=k)(aw:bO e)(aX:d4 e)(cg:jF e)(ck:bz e.P e.w e.K e.mg e.base CX0 k e.t.cm e.t.cI ["_law_bag_here","_law_thing"] (spD e.K (dE n))):bz e.P e.w e.K e.mg e.base CX0 (k+1) e.t.cm e.t.cI ["_law_bag_here","_law_thing"] (spD e.K (dE (n+1))):=by
 have S:=vU
 exact OE (T.xO.okD S (fun ds U Q h=>zl h) (fun cdv A outer s H E hr=>⟨iK n,(ak (bI (DW.dt (g7 (bL (Ot rfl T.aI rfl T.jv rfl T.qK (dv 1))) (g7 (aQ g0 dX (dS rfl T.fX (aa (dv 1) ah)) af (aF _)) (iz (aQ g0 dX (ai aw (hr.mono ∅) rfl T.aK T.aM T.aL (aa (dv 0) (aa af ah))) af (aF _)))))) (ak (aN (i:=2) S.nd rfl (Or.inl rfl) (EI rfl T.qK (aa (dv 1) ah)))
  (ak (aN (i:=3) S.nd rfl (Or.inl rfl) (ai aw (hr.mono ∅) rfl T.aK T.aM T.aL (aa (dv 0) (aa (dS rfl T.fX (aa (dv 2) ah)) ah))))
  (ak (aN (i:=4) S.nd rfl (Or.inl rfl) (ai aw (hr.mono ∅) rfl T.aK T.aM T.aL (aa (dv 0) (aa af ah))))
  (ak (bI (aQ (bT hr.units) bj (dv 4) af (aF _)) (aq (aN (i:=2) S.nd rfl (Or.inl rfl) (fD (iy (dv 2) kx (j9 (dv 3))) (iy (dv 2) (j9 (dR (dv 3) af)) kx)))) (aq (bI (aQ (bT hr.units) bj (dv 4) af (aF _)) (aq (aN (i:=2) S.nd rfl (Or.inl rfl) (fD (iy (dv 2) kx (j9 (fD (dv 3) af))) (iy (dv 2) (j9 (dv 3)) kx)))) (aq (bI (aQ (bT hr.units) bj (dv 4) af (aF _)) (aq (aN (i:=2) S.nd rfl (Or.inl rfl) (Ro (dv 2)))) (aq (yE (ai ck (hr.mono ∅) rfl T.eD T.eC T.eG (aa (dv 0) (aa (ar (dv 2) (dv 3) (fun _ _=>rfl)) ah))) (GD (dv 2) (dv 3)))))))))
  (aq (aD (xi (DW.dt (fQ (bL (fT (zu _) rfl T.aI rfl T.qK PyProof.Rows.Boot.«list» (dv 1))) (i4 (aQ (bT hr.units) bj (dv 4) af (aF _))))) (dv 2) (EU rfl T.jv (aa (dv 2) ah))))))))) aU)
  (ak (bI (DW.dt (g7 (bL (ai aX (hr.mono ∅) rfl T.gk T.gu T.gm (aa (dv 1) ah))) (iz (aQ g0 dX (ai aw (hr.mono ∅) rfl T.aK T.aM T.aL (aa (dv 0) (aa af ah))) af (aF _))))) (aq (aD (ar (cD (aa (fD (dv 1) af) (aa (fU (dv 1) af) (aa (fU af (dv 1)) (aa (aT (dv 1) af) (aa af (aa af ah))))))) (ai aw (hr.mono ∅) rfl T.aK T.aM T.aL (aa (dv 0) (aa af ah))) (fun _ _=>rfl)))) aU)
  (aq (aD (ai cg (hr.mono ∅) rfl T.nQ T.nV T.nX (aa (dv 0) ah)))))),fun ds U Qd h=>xc n h⟩)) (fun ds U Qd h=>vo h)
theorem vN(T:TX e)(aw:bO e)(aX:d4 e)(cg:jF e):bz e.P e.w e.K e.mg e.base CX0 6 e.t.cm e.t.cI ["_law_bag_here","_law_thing"] (spD e.K (dE 3)):=(gz T 2 5 ⋯ aw aX cg (gz T 1 4 ⋯ aw aX cg (gz T 0 3 ⋯ aw aX cg sy)))
theorem A7:aG ["d","kind","shape","shares"] ["d","kind","shape"] (ax fO):=by walk_at "s"
theorem AJ(T:TX e)(bq:dY e)(cT:mQ e)(eO:rq e)(qu:uS e)(eu:lP e)(js:pY e)(wW:yX e):rO e:=by
 have S:=A7
 exact T.CN.okD S (fun ds U Q h=>AQ h) (fun cdv A outer s H E hr=>⟨lZ,(ak (kd (ai bq (hr.mono ⋯) rfl T.cP T.cO T.cR (aa (dv 0) (aa (dv 1) ah))))
  (ak (kd (ai bq (hr.mono ⋯) rfl T.cP T.cO T.cR (aa (dv 0) (aa (dv 2) ah))))
  (ak (bI (aQ (bT hr.units) bj (ar (ai cT (hr.mono ⋯) rfl T.kj T.j5 T.kv (aa (dv 0) (aa (dv 1) (aa (dv 1) ah)))) af (fun _ _=>rfl)) af (aF _)) (aq (aN (i:=3) S.nd rfl (Or.inl rfl) (aJ (aa (ai eO (hr.mono ⋯) rfl T.p5 T.qF T.pM (aa (dv 0) (aa (dv 2) (aa (dv 1) ah)))) (aa (fY rfl T.lj) ah))))) (aq (aN (i:=3) S.nd rfl (Or.inl rfl) (ai qu (hr.mono ⋯) rfl T.Er T.Fx T.Ej (aa (dv 0) (aa (dv 1) (aa (ai eu (hr.mono ⋯) rfl T.sE T.sJ T.sM (aa (dv 0) (aa (dv 1) ah))) (aa (dv 2) ah))))))))
  (ak (bI (bL (qh rfl rfl T.xr (aa (j4 (N':=["share","d"]) (cap:=[none,some 0]) rfl (vI (dv 3)) (fun _ _ _=>(bX (i:=0) (show List.Nodup (["share","d"]:List Str) by decide +kernel) rfl (Or.inl rfl))) (fun _ _ _=>il) (fun _ _ _=>(ai js (hr.mono ⋯) rfl T.yx T.ze T.yL (aa (dv 1) (aa (dv 0) ah)))) rfl nofun rfl nofun (by walk_at "cl") (jT rfl) rfl (jj ⟨K7,trivial⟩)) ah))) (aq (aD (aJ (aa bR (aa (ar (dv 3) af (fun _ _=>rfl)) (aa (ar (dv 3) af (fun _ _=>rfl)) ah)))))) aU)
  (aq (aD (aJ (aa bR (aa (ai wW (hr.mono ⋯) rfl T.Jr T.J2 T.JT (aa (dv 0) (aa (dv 1) (aa (dv 2) ah)))) ah))))))))),fun ds U Qd h=>As h⟩)
theorem Ay:aG ["d","width","height","shape"] ["d","width","height"] (ax fM):=by walk_at "s"
theorem Bb(T:TX e)(bq:dY e)(eO:rq e)(hU:kK e)(gK:oF e):rJ e:=by
 have S:=Ay
 exact T.Cj.okD S (fun ds U Q h=>Hz h) (fun cdv A outer s H E hr=>⟨md,(ak (kd (ai bq (hr.mono ⋯) rfl T.cP T.cO T.cR (aa (dv 0) (aa (dv 1) ah))))
  (ak (kd (ai bq (hr.mono ⋯) rfl T.cP T.cO T.cR (aa (dv 0) (aa (dv 2) ah))))
  (ak (aN (i:=3) S.nd rfl (Or.inl rfl) (ai eO (hr.mono ⋯) rfl T.p5 T.qF T.pM (aa (dv 0) (aa (dv 2) (aa (dv 1) ah)))))
  (ak (bI (aQ (ic hr.units) bj (ar (dv 3) af (fun _ _=>rfl)) af (aF _)) (aq (aD (aJ (aa bR (aa (ai hU (hr.mono ⋯) rfl T.uH T.tN T.uo (aa (dv 3) ah)) ah))))) aU)
  (aq (aD (aJ (aa bR (aa (ai gK (hr.mono ⋯) rfl T.xD T.xG T.xo (aa (dv 3) ah)) ah))))))))),fun ds U Qd h=>A8 h⟩)
theorem Et:aG ["d","kinds","claim","paper"] ["d","kinds","claim","paper"] (ax rh):=by walk_at "s"
theorem uk(T:TX e)(dW:fS e):lO e:=by
 have S:=Et
 exact T.HN.okX S (fun ds U Xk h=>A3 h) (fun cdv A outer s H E hr=>⟨iC,(zY (Nw (IT dW (hr.mono ⋯) rfl T.pE T.pq T.pC IV (aa (dv 0) (aa (dv 1) ah))))),fun ds U Xk h=>vw h⟩)
theorem Li(T:TX e)(jP:mJ e)(bD:eo e)(oq:rQ e)(zR:Bm e)(tH:xy e)(mh:qx e)(ql:uX e)(eO:rq e):Ae e:=by
 have S:=Et
 exact T.HN.okD S (fun ds U Q h=>xq h) (fun cdv A outer s H E hr=>⟨yF,(ak (kd (ai jP (hr.mono ⋯) rfl T.pE T.pq T.pC (aa (dv 0) (aa (dv 1) ah))))
  (ak (bI (DW.dt (fQ (cu (bL (fT (kit_tuple _) rfl T.aI rfl T.jv PyProof.Rows.Boot.«tuple» (dv 2)))) (fQ (aQ pX dX (dS rfl T.fX (aa (dv 2) ah)) af (aF _)) (i4 (cu (bL (ai bD (hr.mono ⋯) rfl T.eR T.eU T.eV (aa (dv 0) (aa (ar (dv 2) (iu af) (fun _ _=>rfl)) ah))))))))) (aq (aD eA)) aU)
  (ak (bI (DW.dt (g7 (aQ (bT hr.units) bj (ar (dv 2) af (fun _ _=>rfl)) bR (aF _)) (iz (aQ (bT hr.units) bj (dS rfl T.fX (aa (dv 2) ah)) af (aF _))))) (aq (aD (ai oq (hr.mono ⋯) rfl T.DP T.CJ T.B3 (aa (dv 0) (aa (dv 1) (aa (ar (dv 2) af (fun _ _=>rfl)) (aa (dv 3) ah))))))) aU)
  (ak (bI (DW.dt (g7 (aQ (bT hr.units) bj (ar (dv 2) af (fun _ _=>rfl)) bR (aF _)) (iz (aQ (bT hr.units) bj (dS rfl T.fX (aa (dv 2) ah)) af (aF _))))) (aq (aD (ai zR (hr.mono ⋯) rfl T.Kn T.LN T.KY (aa (dv 0) (aa (dv 1) (aa (ar (dv 2) af (fun _ _=>rfl)) (aa (dv 3) ah))))))) aU)
  (ak (bI (DW.dt (g7 (aQ (bT hr.units) bj (ar (dv 2) af (fun _ _=>rfl)) bR (aF _)) (g7 (aQ (bT hr.units) bj (dS rfl T.fX (aa (dv 2) ah)) af (aF _)) (iz (bL (ai tH (hr.mono ⋯) rfl T.Gk T.Gn T.G6 (aa (ar (dv 2) af (fun _ _=>rfl)) (aa (dS rfl T.fX (aa (dv 1) ah)) ah)))))))) (aq (aD (ai mh (hr.mono ⋯) rfl T.Az T.Aq T.AY (aa (dv 0) (aa (ar (dv 1) (ar (dv 2) af (fun _ _=>rfl)) (fun _ _=>rfl)) (aa (ar (dv 2) af (fun _ _=>rfl)) (aa (dv 3) ah))))))) aU)
  (ak (bI (DW.dt (g7 (aQ (bT hr.units) bj (ar (dv 2) af (fun _ _=>rfl)) bR (aF _)) (g7 (aQ (bT hr.units) bj (dS rfl T.fX (aa (dv 2) ah)) af (aF _)) (iz (bL (ai bD (hr.mono ⋯) rfl T.eR T.eU T.eV (aa (dv 0) (aa (ar (dv 2) af (fun _ _=>rfl)) ah)))))))) (aq (aD (ai ql (hr.mono ⋯) rfl T.Ep T.Ff T.Fw (aa (ai eO (hr.mono ⋯) rfl T.p5 T.qF T.pM (aa (dv 0) (aa (ar (dv 2) af (fun _ _=>rfl)) (aa (ar (dv 2) af (fun _ _=>rfl)) ah)))) (aa (dv 3) ah))))) aU)
  (aq (aD eA)))))))),fun ds U Qd h=>LY h⟩)
theorem x9:aG ["_law_d","_law_kinds_here","_law_claim","_law_paper","_law_told"] ["_law_d","_law_kinds_here","_law_claim","_law_paper"] (ax d8):=by walk_at "s"
theorem xU(T:TX e)(qY:Ae e)(nE:rN e):pD e:=by
 have S:=x9
 exact T.yH.okD S (fun ds U Q h=>Cs h) (fun cdv A outer s H E hr=>⟨jL,(ak (aN (i:=4) S.nd rfl (Or.inl rfl) (ai qY (hr.mono ⋯) rfl T.B9 T.BX T.Dw (aa (dv 0) (aa (dv 1) (aa (dv 2) (aa (dv 3) ah))))))
  (aq (aD (ji (fT (zd _) rfl T.aI rfl T.Hb PyProof.Rows.Boot.«bool» (dv 4)) (jQ (df (bT hr.units) bj (dv 4) (ai nE (hr.mono ⋯) rfl T.Dr T.Cy T.C2 (aa (dv 0) (aa (dv 1) (aa (dv 2) (aa (dv 3) ah))))) (aF _))))))),fun ds U Qd h=>xV h⟩)
theorem Bh:aG ["_law_bag_here","_law_d","_law_kinds_here","_law_place","_law_kind","_law_u","_law_v","_law_mixed","_law_side","_law_wide","_law_high"] ["_law_bag_here","_law_d","_law_kinds_here"] (ax fk):=by walk_at "s"
theorem Bk(T:TX e)(aw:bO e)(gb:mC e)(gQ:oJ e)(br:fW e)(bC:d7 e)(cA:jw e)(oM:rO e)(j6:rJ e):rK e:=by
 have S:=Bh
 exact T.CB.okD S (fun ds U Q h=>EG h) (fun cdv A outer s H E hr=>⟨mq,(ak (aN (i:=3) S.nd rfl (Or.inl rfl) (ai aw (hr.mono ⋯) rfl T.aK T.aM T.aL (aa (dv 0) (aa (dS rfl T.fX (aa (dv 2) ah)) ah))))
  (ak (aN (i:=4) S.nd rfl (Or.inl rfl) (ar (dv 2) (dv 3) (fun _ _=>rfl)))
  (ak (pS (i:=5) (j:=6) rfl S.nd rfl rfl ⋯ rfl rfl (aa (ai gb (hr.mono ⋯) rfl T.pB T.pk T.ph (aa (dv 0) ah)) (aa (ar (cD (aa (ai gb (hr.mono ⋯) rfl T.pB T.pk T.ph (aa (dv 0) ah)) (aa (aJ (aa af (aa af (aa af ah)))) ah))) (iV (ai aw (hr.mono ⋯) rfl T.aK T.aM T.aL (aa (dv 0) (aa af ah))) af) (fun _ _=>rfl)) ah)) rfl)
  (ak (aN (i:=7) S.nd rfl (Or.inl rfl) (ai gQ (hr.mono ⋯) rfl T.xh T.xu T.xk (aa (ai br (hr.mono ⋯) rfl T.dO T.dJ T.dI (aa (dv 1) (aa (dv 5) (aa (dv 4) ah)))) (aa (ai br (hr.mono ⋯) rfl T.dO T.dJ T.dI (aa (dv 1) (aa (dv 6) (aa (ai bC (hr.mono ⋯) rfl T.gr T.gc T.fZ (aa (dv 1) (aa (dv 4) ah))) ah)))) ah))))
  (ak (aN (i:=8) S.nd rfl (Or.inl rfl) (ai cA (hr.mono ⋯) rfl T.ke T.ky T.kc (aa (dv 0) (aa (dv 1) ah))))
  (ak (aN (i:=9) S.nd rfl (Or.inl rfl) (ai br (hr.mono ⋯) rfl T.dO T.dJ T.dI (aa (dv 1) (aa (dv 8) (aa (aJ (aa (dR af (ai aw (hr.mono ⋯) rfl T.aK T.aM T.aL (aa (dv 0) (aa (ar (cD (aa af (aa af ah))) (ai aw (hr.mono ⋯) rfl T.aK T.aM T.aL (aa (dv 0) (aa af ah))) (fun _ _=>rfl)) ah)))) (aa af (aa af ah)))) ah)))))
  (ak (aN (i:=10) S.nd rfl (Or.inl rfl) (ai br (hr.mono ⋯) rfl T.dO T.dJ T.dI (aa (dv 1) (aa (dv 8) (aa (aJ (aa (dR af (ai aw (hr.mono ⋯) rfl T.aK T.aM T.aL (aa (dv 0) (aa (ar (cD (aa af (aa af ah))) (ai aw (hr.mono ⋯) rfl T.aK T.aM T.aL (aa (dv 0) (aa af ah))) (fun _ _=>rfl)) ah)))) (aa af (aa af ah)))) ah)))))
  (aq (aD (cD (aa (aJ (aa (aJ (aa bR (aa (dv 3) (aa (dv 7) ah)))) (aa (aJ (aa (dv 5) (aa (dv 6) ah))) ah))) (aa (aJ (aa (aJ (aa bR (aa (dv 3) (aa (dv 7) ah)))) (aa (iy (ai oM (hr.mono ⋯) rfl T.Cp T.Ci T.BK (aa (dv 1) (aa (dv 4) (aa (dv 7) ah)))) (j9 af) kx) ah))) (aa (aJ (aa (aJ (aa bR (aa (dv 9) (aa (dv 10) ah)))) (aa (ar (ai j6 (hr.mono ⋯) rfl T.uZ T.vc T.vk (aa (dv 1) (aa (dv 9) (aa (dv 10) ah)))) af (fun _ _=>rfl)) ah))) (aa (aJ (aa (aJ (aa bR (aa (dv 10) (aa (dv 9) ah)))) (aa (ar (ai j6 (hr.mono ⋯) rfl T.uZ T.vc T.vk (aa (dv 1) (aa (dv 9) (aa (dv 10) ah)))) af (fun _ _=>rfl)) ah))) ah)))))))))))))),fun ds U Qd h=>AM h⟩)
theorem pj:aG ["_law_deed","e","_law_some","_law_names"] ["_law_deed"] (ax dZ):=by walk_at "s"
theorem EW(T:TX e):xw e:=by
 have S:=pj
 exact Q6 (k:=7) T.zx pj rfl rfl rfl rfl T.BW T.wj ⋯ ⋯ ⋯ (fun _=>rfl) (fun cdv A outer s H ea oe hc hr=>(ak (aN (i:=2) S.nd rfl (Or.inl rfl) (cD (aa (aJ (aa bR (aa (jf (ea:=ea) (oe:=oe) T.cG (mem_cons_self) hc T.jd rfl T.aI rfl T.Kc (dv 1)) ah))) (aa (aJ (aa bR (aa (jf (ea:=ea) (oe:=oe) T.cG (mem_cons_self) hc T.gw rfl T.aI rfl T.Gd (dv 1)) ah))) (aa (aJ (aa bR (aa (jf (ea:=ea) (oe:=oe) T.cG (mem_cons_self) hc T.gB rfl T.aI rfl T.G4 (dv 1)) ah))) (aa (aJ (aa bR (aa (jf (ea:=ea) (oe:=oe) T.cG (mem_cons_self) hc T.jk rfl T.aI rfl T.MK (dv 1)) ah))) (aa (aJ (aa bR (aa (jf (ea:=ea) (oe:=oe) T.cG (mem_cons_self) hc T.jV rfl T.aI rfl T.Ob (dv 1)) ah))) (aa (aJ (aa bR (aa (jf (ea:=ea) (oe:=oe) T.cG (mem_cons_self) hc T.ik rfl T.aI rfl T.Bo (dv 1)) ah))) (aa (aJ (aa bR (aa (jf (ea:=ea) (oe:=oe) T.cG (mem_cons_self) hc T.jh rfl T.aI rfl T.KI (dv 1)) ah))) (aa (aJ (aa bR (aa (jf (ea:=ea) (oe:=oe) T.cG (mem_cons_self) hc T.i6 rfl T.aI rfl T.LB (dv 1)) ah))) (aa (aJ (aa bR (aa (jf (ea:=ea) (oe:=oe) T.cG (mem_cons_self) hc T.jJ rfl T.aI rfl T.Nr (dv 1)) ah))) (aa (aJ (aa bR (aa (jf (ea:=ea) (oe:=oe) T.cG (mem_cons_self) hc T.iY rfl T.aI rfl T.La (dv 1)) ah))) (aa (aJ (aa bR (aa (jf (ea:=ea) (oe:=oe) T.cG (mem_cons_self) hc T.gF rfl T.aI rfl T.Ht (dv 1)) ah))) (aa (aJ (aa bR (aa (jf (ea:=ea) (oe:=oe) T.cG (mem_cons_self) hc T.jq rfl T.aI rfl T.Lm (dv 1)) ah))) (aa (aJ (aa bR (aa (jf (ea:=ea) (oe:=oe) T.cG (mem_cons_self) hc T.ig rfl T.aI rfl T.Jk (dv 1)) ah))) ah)))))))))))))))
  (ak (HM (i:=3) (N':=["_law_name","_law_is_so"]) (cap:=[none,none]) S.nd rfl rfl rfl (qW (dv 2)) (fun _ _ _=>(wm (n:=2) rfl (d6 (bX (i:=0) (show List.Nodup (["_law_name","_law_is_so"]:List Str) by decide +kernel) rfl (Or.inl rfl)) (d6 (bX (i:=1) (show List.Nodup (["_law_name","_law_is_so"]:List Str) by decide +kernel) rfl (Or.inl rfl)) qS)))) (fun _ _ _=>(Fn (bL (dv 1)))) (fun _ _ _=>(dv 0)) rfl nofun rfl nofun (by walk_at "cl") (jT rfl) rfl (jj trivial))
  (ak (bI (DW.dt (g7 (aQ (bT hr.units) bj (dS rfl T.fX (aa (dv 3) ah)) af (aF _)) (iz (bL (Oq (ea:=ea) (oe:=oe) (T:="ValueError") T.cG (mem_cons_self) hc T.qg rfl T.aI rfl T.CI PyProof.Rows.Boot.«ValueError» (dv 1)))))) (aq (aD (ar (dv 3) af (fun _ _=>rfl)))) aU)
  (aq (aD bR)))))) (fun ea fa U Qd h=>mG h)
theorem Q8:aG ["_law_script","_law_k","_law_bag_here","_law_d","_law_kinds_here","_law_pairs_here","_law_things","_law_claim","_law_paper","_law_bad"] ["_law_script"] (ax rT):=by walk_at "s"
theorem PL(T:TX e)(sC:xj e)(qm:tQ e)(oW:rX e)(nZ:rK e)(qY:Ae e)(ck:vL e)(aw:bO e)(cg:jF e)(iU:lN e)(kW:pD e)(sP:xw e)(je:lO e):LF e:=by
 have S:=Q8
 exact T.Te.Uo S (fun ds U Q h=>Jh h) (fun cdv hcv A outer s H E hr=>⟨Ge,(ak (CZ PassesOwn.never rfl (IH rfl T.C7 (aa (G8 rfl rfl T.M9 (aa af (aa (GQ rfl rfl T.Ke (aa af (aa (dS rfl T.fX (aa (dv 0) ah)) ah))) ah))) ah)) (bX (i:=1) S.nd rfl (Or.inl rfl)) (ak (aN (i:=2) S.nd rfl (Or.inl rfl) (ai sC (hr.mono ⋯) rfl T.G2 T.Gx T.GC (aa (dv 0) (aa (dv 1) ah))))
  (ak (aN (i:=3) S.nd rfl (Or.inr rfl) (ai qm (hr.mono ⋯) rfl T.FL T.EC T.El (aa (dv 2) ah)))
  (ak (aN (i:=4) S.nd rfl (Or.inr rfl) (ai oW (hr.mono ⋯) rfl T.CV T.C9 T.DH (aa (dv 2) (aa (dv 3) ah))))
  (ak (aN (i:=5) S.nd rfl (Or.inl rfl) (ai nZ (hr.mono ⋯) rfl T.BL T.B5 T.Dn (aa (dv 2) (aa (dv 3) (aa (dv 4) ah)))))
  (ak (bI (aQ (ic hr.units) bj (j4 (N':=["_law_claim","_law_paper","_law_d","_law_kinds_here"]) (cap:=[none,none,some 3,some 4]) rfl (qW (dv 5)) (fun _ _ _=>(wm (n:=2) rfl (d6 (bX (i:=0) (show List.Nodup (["_law_claim","_law_paper","_law_d","_law_kinds_here"]:List Str) by decide +kernel) rfl (Or.inl rfl)) (d6 (bX (i:=1) (show List.Nodup (["_law_claim","_law_paper","_law_d","_law_kinds_here"]:List Str) by decide +kernel) rfl (Or.inl rfl)) qS)))) (fun _ _ _=>il) (fun _ _ _=>(ai qY (hr.mono ⋯) rfl T.B9 T.BX T.Dw (aa (dv 2) (aa (dv 3) (aa (dv 0) (aa (dv 1) ah)))))) rfl nofun rfl nofun (by walk_at "cl") (jT rfl) rfl (jj ⟨K7,⟨K7,trivial⟩⟩)) (Qm (cD (aa eA ah)) af) (aF _)) (aq (aD eA)) aU)
  (ak (aN (i:=6) S.nd rfl (Or.inl rfl) (EI rfl T.qK (aa (dv 5) ah)))
  (ak (CZ PassesOwn.never rfl (qW (dv 5)) (wm (n:=2) rfl (d6 (bX (i:=7) S.nd rfl (Or.inr rfl)) (d6 (bX (i:=8) S.nd rfl (Or.inr rfl)) qS))) (aq (kd (Jn (dv 6) (cD (aa (aJ (aa (dv 7) (aa (ai ck (hr.mono ⋯) rfl T.eD T.eC T.eG (aa (dv 2) (aa (dv 8) ah))) ah))) (aa (aJ (aa (dv 7) (aa (ai ck (hr.mono ⋯) rfl T.eD T.eC T.eG (aa (dv 2) (aa (dv 8) ah))) ah))) (aa (aJ (aa (dv 7) (aa (ar (ar (dv 5) (ai aw (hr.mono ⋯) rfl T.aK T.aM T.aL (aa (dv 2) (aa af ah))) (fun _ _=>rfl)) af (fun _ _=>rfl)) ah))) (aa (aJ (aa (ai ck (hr.mono ⋯) rfl T.eD T.eC T.eG (aa (dv 2) (aa (dv 7) ah))) (aa (dv 8) ah))) (aa (aJ (aa (ai ck (hr.mono ⋯) rfl T.eD T.eC T.eG (aa (dv 2) (aa (dv 7) ah))) (aa (dv 8) ah))) (aa (aJ (aa (dv 7) (aa (ai cg (hr.mono ⋯) rfl T.nQ T.nV T.nX (aa (dv 2) ah)) ah))) (aa (aJ (aa (ai cg (hr.mono ⋯) rfl T.nQ T.nV T.nX (aa (dv 2) ah)) (aa (dv 8) ah))) ah))))))))))))
  (ak (aN (i:=9) S.nd rfl (Or.inr rfl) (ai iU (hr.mono ⋯) rfl T.vT T.vD T.vG (aa (dv 2) (aa (dv 3) (aa (dv 4) ah)))))
  (aq (CZ PassesOwn.never rfl (qW (fD (dv 6) (RF (dv 6)))) (wm (n:=2) rfl (d6 (bX (i:=7) S.nd rfl (Or.inr rfl)) (d6 (bX (i:=8) S.nd rfl (Or.inr rfl)) qS))) (ak (bI (cu (bL (ai kW (hr.mono ⋯) rfl T.yW T.zv T.zk (aa (dv 3) (aa (dv 4) (aa (dv 7) (aa (dv 8) ah))))))) (aq (aD eA)) aU)
  (aq (bI (aQ (ic hr.units) bj (JG (N':=(["_law_d","_law_bad","_law_claim","_law_paper"]:List Str)) (cap:=[some 3,some 9,some 7,some 8]) sP (hr.mono ⋯) rfl T.zI T.Ak T.yY T.Ts (hcv.symm.trans T.RX) rfl ⋯ (fun A' outer' s' H' fa c1 E hrL=>(IT je (hrL.mono ⋯) rfl T.B9 T.BX T.Dw NR (aa (dv 0) (aa (dv 1) (aa (dv 2) (aa (dv 3) ah)))))) rfl rfl (fun _ _ _=>rfl) rfl rfl rfl nofun (by walk_at "cl") (jT rfl) rfl (HV ⟨ID,⟨ID,⟨ID,⟨ID,trivial⟩⟩⟩⟩)) bR (aF _)) (aq (aD eA)) aU))))))))))))))
  (aq (aD eA))),fun ds U Qd h=>QH h⟩)
theorem Rq(T:TX e):LF e:=by
 have dh:=Eo T
 have fP:=ur T
 have mf:=bB T
 have jI:=wu T
 have zR:=JC T
 have gK:=DZ T
 have oq:=AA T
 have sC:=Eh T
 have aw:=Dp T
 have aX:=wK T
 have cV:=zp T
 have fi:=Ap T
 have dQ:=B8 T
 have l4:=zX T
 have cX:=uM T fP
 have d5:=Hq T jI
 have tH:=EL T dh
 have ql:=Cm T dh gK
 have bH:=EM T cV
 have bP:=uf T aX cV
 have qm:=Dg T aw
 have cg:=Fh T aw
 have gY:=DJ T dh cX
 have dg:=J3 T cX
 have js:=EX T d5
 have gQ:=CF T bH
 have br:=Av T bH
 have bC:=wy T bH
 have mi:=zi T aw bH
 have gb:=wO T aw bH
 have gp:=wB T bP dQ
 have vA:=bW T dg
 have wG:=nF T dg
 have cT:=av T dg
 have eu:=aC T dg
 have bD:=sH T gY d5
 have cA:=Au T mi dQ aw fi
 have g9:=sr T bP br bC gQ
 have eO:=Nu T cT eu
 have bq:=nj T bD
 have jb:=Fp T bD
 have BO:=rm T wG mf vA
 have mh:=zA T gY js vA cT eu
 have oW:=AH T cA aw bC br bH
 have jr:=tR T cA cg fi aw
 have nE:=A9 T gp aX g9 bP dQ br bC l4
 have dW:=lB T jb
 have jP:=xf T jb
 have qu:=C4 T eO dg wG cT
 have wW:=HA T d5 mf BO eO cT
 have hU:=sN T
 have iU:=uG T aw jr
 have ck:=vN T aw aX cg
 have oM:=AJ T bq cT eO qu eu js wW
 have j6:=Bb T bq eO hU gK
 have je:=uk T dW
 have qY:=Li T jP bD oq zR tH mh ql eO
 have kW:=xU T qY nE
 have nZ:=Bk T aw gb gQ br bC cA oM j6
 have sP:=EW T
 exact PL T sC qm oW nZ qY ck aw cg iU kW sP je
end
theorem all_mk{l:PySem.W.OpenLaw}{w:World}{K:PySem.W.Frag}{h:Heap}{mg:Str->Option Value}{fa:Addr}(X:K.In h)(G:h.Ns mainGlobals mg)(hfa:mg "law"=some (.ref fa))
  {f0 c0 f1 c1 f2 c2 f3 c3 f4 c4 f5 c5 f6 c6 f7 c7 f8 c8 f9 c9 f10 c10 f11 c11 f12 c12 f13 c13 f14 c14 f15 c15 f16 c16 f17 c17 f18 c18 f19 c19 f20 c20 f21 c21 f22 c22 f23 c23 f24 c24 f25 c25 f26 c26 f27 c27 f28 c28 f29 c29 f30 c30 f31 c31 f32 c32 f33 c33 f34 c34 f35 c35 f36 c36 f37 c37 f38 c38 f39 c39 f40 c40 f41 c41 f42 c42 f43 c43 f44 c44 f45 c45 f46 c46 f47 c47 f48 c48 f49 c49 f50 c50 f51 c51 f52 c52 f53 c53 f54 c54 f55 c55 f56 c56 f57 c57 f58 c58:Addr} {t0 t1 t2 t3 t4 t5 t6 t7 t8 t9 t10 t11 t12 t13 t14 t15 t16 t17 t18 t19 t20 t21 t22 t23 t24 t25 t26 t27 t28 t29 t30 t31 t32 t33 t34 t35 t36 t37 t38 t39 t40 t41 t42 t43 t44 t45 t46 t47 t48 t49 t50 t51 t52 t53 t54 t55 t56 t57 t58:Tok} {m0 m1 m2 m3 m4 m5 m6 m7 m8 m9 m10 m11 m12 m13 m14 m15 m16 m17 m18 m19 m20 m21 m22 m23 m24 m25 m26 m27 m28 m29 m30 m31 m32 m33 m34 m35 m36 m37 m38 m39 m40 m41 m42 m43 m44 m45 m46 m47 m48 m49 m50 m51 m52 m53 m54 m55 m56 m57 m58:Str} {q0:Tok} {g1:Addr} {go1:Option Addr} {q1a q1b q1c:Tok} {gn1:Nat} {gs1:Array (Option Value)} {g2:Addr} {go2:Option Addr} {q2a q2b q2c:Tok} {gn2:Nat} {gs2:Array (Option Value)} {eI:Addr} {kH:Addr} {gL:Addr} {gM:Addr} {kC:Addr} {my:Addr} {aB:Addr} {kB:Addr} {kG:Addr} {mZ:Addr} {kI:Addr} {gZ:Addr} {kF:Addr} {i5:Addr} {bm:Addr} {bsl:Array (Option Value)} {wQ Fz:Addr}
  (a0:FQ K "is_whole" iR f0 c0 t0 m0)
  (a1:FQ K "common_divisor" cY f1 c1 t1 m1)
  (a2:FQ K "is_number" gH f2 c2 t2 m2)
  (a3:FQ K "divisor_of_all" cZ f3 c3 t3 m3)
  (a4:FQ K "number" ny f4 c4 t4 m4)
  (a5:FQ K "mate" wq f5 c5 t5 m5)
  (a6:FQ K "plus" wI f6 c6 t6 m6)
  (a7:FQ K "less" xg f7 c7 t7 m7)
  (a8:FQ K "times" qZ f8 c8 t8 m8)
  (a9:FQ K "over" vE f9 c9 t9 m9)
  (a10:FQ K "contrary" iP f10 c10 t10 m10)
  (a11:FQ K "sign_of" kD f11 c11 t11 m11)
  (a12:FQ K "sign_of_parts" dD f12 c12 t12 m12)
  (a13:FQ K "is_above_nought" cF f13 c13 t13 m13)
  (a14:FQ K "must_be_above_nought" bN f14 c14 t14 m14)
  (a15:FQ K "is_kinds" iT f15 c15 t15 m15)
  (a16:FQ K "must_be_kinds" dy f16 c16 t16 m16)
  (a17:FQ K "is_bar" nr f17 c17 t17 m17)
  (a18:FQ K "mixture_of" fO f18 c18 t18 m18)
  (a19:FQ K "shares_of" gN f19 c19 t19 m19)
  (a20:FQ K "is_share" i7 f20 c20 t20 m20)
  (a21:FQ K "bar_for" kE f21 c21 t21 m21)
  (a22:FQ K "skew" w8 f22 c22 t22 m22)
  (a23:FQ K "is_place" iN f23 c23 t23 m23)
  (a24:FQ K "squares_of" fM f24 c24 t24 m24)
  (a25:FQ K "bar_for_squares" cH f25 c25 t25 m25)
  (a26:FQ K "counts_of" gR f26 c26 t26 m26)
  (a27:FQ K "holds" rh f27 c27 t27 m27)
  (a28:FQ K "is_laid_by" fI f28 c28 t28 m28)
  (a29:FQ K "is_mixed_by" eJ f29 c29 t29 m29)
  (a30:FQ K "is_counts" gG f30 c30 t30 m30)
  (a31:FQ K "_law_bag" iS f31 c31 t31 m31)
  (a32:FQ K "_law_take" gS f32 c32 t32 m32)
  (a33:FQ K "_law_is_whole" dw f33 c33 t33 m33)
  (a34:FQ K "_law_shared" eL f34 c34 t34 m34)
  (a35:FQ K "_law_low" ja f35 c35 t35 m35)
  (a36:FQ K "_law_is_number" de f36 c36 t36 m36)
  (a37:FQ K "_law_plus" gP f37 c37 t37 m37)
  (a38:FQ K "_law_minus" fF f38 c38 t38 m38)
  (a39:FQ K "_law_times" fj f39 c39 t39 m39)
  (a40:FQ K "_law_contrary" dA f40 c40 t40 m40)
  (a41:FQ K "_law_sign" gX f41 c41 t41 m41)
  (a42:FQ K "_law_root" gI f42 c42 t42 m42)
  (a43:FQ K "_law_number" eN f43 c43 t43 m43)
  (a44:FQ K "_law_above" fm f44 c44 t44 m44)
  (a45:FQ K "_law_odd" jc f45 c45 t45 m45)
  (a46:FQ K "_law_refusal" dZ f46 c46 t46 m46)
  (a47:FQ K "_law_kinds" fK f47 c47 t47 m47)
  (a48:FQ K "_law_bad_above" da f48 c48 t48 m48)
  (a49:FQ K "_law_bad_kinds" cW f49 c49 t49 m49)
  (a50:FQ K "_law_fraction" dG f50 c50 t50 m50)
  (a51:FQ K "_law_is_mixture" cE f51 c51 t51 m51)
  (a52:FQ K "_law_counts" eK f52 c52 t52 m52)
  (a53:FQ K "_law_is_claim" dF f53 c53 t53 m53)
  (a54:FQ K "_law_bent_any" dz f54 c54 t54 m54)
  (a55:FQ K "_law_holds" fG f55 c55 t55 m55)
  (a56:FQ K "_law_is_told" d8 f56 c56 t56 m56)
  (a57:FQ K "_law_pairs" fk f57 c57 t57 m57)
  (a58:FQ K "law" rT f58 c58 t58 m58)
  (z0:nsIn K mainGlobals "isinstance"=some none)
  (z1:nsIn K mainGlobals "int"=some none)
  (z2:nsIn K mainGlobals "bool"=some none)
  (z3:nsIn K mainGlobals "abs"=some none)
  (z4:nsIn K mainGlobals "tuple"=some none)
  (z5:nsIn K mainGlobals "len"=some none)
  (z6:nsIn K mainGlobals "all"=some none)
  (z7:nsIn K mainGlobals "min"=some none)
  (z8:nsIn K mainGlobals "max"=some none)
  (z9:nsIn K mainGlobals "list"=some none)
  (z10:nsIn K mainGlobals "range"=some none)
  (z11:nsIn K mainGlobals "ValueError"=some none)
  (z12:nsIn K mainGlobals "str"=some none)
  (v0:nsIn K mainGlobals "MOST_KINDS"=some (some (.int 3 q0)))
  (v1:nsIn K mainGlobals "NOUGHT"=some (some (.ref g1))) (w1:K.lookup g1=some ⟨.type "tuple",go1,.seq #[.int 0 q1a,.int 0 q1b,.int 1 q1c] gn1,gs1⟩)
  (v2:nsIn K mainGlobals "ONE"=some (some (.ref g2))) (w2:K.lookup g2=some ⟨.type "tuple",go2,.seq #[.int 1 q2a,.int 0 q2b,.int 1 q2c] gn2,gs2⟩)
  (y0:nsIn K mainGlobals "FloorError"=some (some (.ref eI)))
  (y1:nsIn K mainGlobals "NoRoot"=some (some (.ref kH)))
  (y2:nsIn K mainGlobals "NoNumber"=some (some (.ref gL)))
  (y3:nsIn K mainGlobals "NoLaying"=some (some (.ref gM)))
  (y4:nsIn K mainGlobals "NoTile"=some (some (.ref kC)))
  (y5:nsIn K mainGlobals "NoFit"=some (some (.ref my)))
  (y6:nsIn K mainGlobals "NoKinds"=some (some (.ref aB)))
  (y7:nsIn K mainGlobals "NoPlan"=some (some (.ref kB)))
  (y8:nsIn K mainGlobals "NoSpot"=some (some (.ref kG)))
  (y9:nsIn K mainGlobals "NoNet"=some (some (.ref mZ)))
  (y10:nsIn K mainGlobals "NoText"=some (some (.ref kI)))
  (y11:nsIn K mainGlobals "NoSaying"=some (some (.ref gZ)))
  (y12:nsIn K mainGlobals "NoName"=some (some (.ref kF)))
  (y13:nsIn K mainGlobals "TooMany"=some (some (.ref i5)))
  (vK:excIn K (aB) bmV "ValueError.__new__"=true)
  (wj:exmOne K (.ref aB) (.ref eI)=some true)
  (z1_NoKinds:findIn K (.ref aB) "__getattribute__"=some (some (.builtin "BaseException.__getattribute__")))
  (z2_NoKinds:findIn K (.ref aB) "__getattr__"=some none)
  (z3_NoKinds:findIn K (.ref aB) "__class__"=some (some (.builtin "object.__class__")))
  (z4_NoKinds:mroIn K aB (.type "object")=some true)
  (z5_NoKinds:mroIn K aB (.type "BaseException")=some true)
  (z6_NoKinds:(clsIn K aB).isSome=true)
  (jd:kitOne K (.ref aB) (.ref kH)=some false)
  (gw:kitOne K (.ref aB) (.ref gL)=some false)
  (gB:kitOne K (.ref aB) (.ref gM)=some false)
  (jk:kitOne K (.ref aB) (.ref kC)=some false)
  (jV:kitOne K (.ref aB) (.ref my)=some false)
  (ik:kitOne K (.ref aB) (.ref aB)=some true)
  (jh:kitOne K (.ref aB) (.ref kB)=some false)
  (i6:kitOne K (.ref aB) (.ref kG)=some false)
  (jJ:kitOne K (.ref aB) (.ref mZ)=some false)
  (iY:kitOne K (.ref aB) (.ref kI)=some false)
  (gF:kitOne K (.ref aB) (.ref gZ)=some false)
  (jq:kitOne K (.ref aB) (.ref kF)=some false)
  (ig:kitOne K (.ref aB) (.ref i5)=some false)
  (qg:kitOne K (.ref aB) (.type "ValueError")=some true)
  (bb1:nsIn K mainGlobals "__builtins__"=some (some (.ref bm))) (bb2:bm≠builtinsNs) (bb3:K.lookup bm=some ⟨.type "module",some builtinsNs,.plain,bsl⟩)
  (lo_law:(K.lookup wQ).bind bS=some (Fz,("law":Str))) (l1_law:∀c2 o2 q2,K.lookup c2=some o2->bS o2=some (Fz,q2)->q2 = "law") (lc_law:c58=wQ) :
  ∃fd:FuncData,(∀(s:Shared) (v:Value),BindsTo s fd ⟨[v],[]⟩ [("_law_script",v)])/\∀base:Heap,K.In base->base.Ns mainGlobals mg->bz l.prog w K mg base CX0 10 fa fd ["_law_script"] (spD K zC):=by
 have e:=hfa.symm.trans (mg_of X G a58.1)
 cases e
 have F0:=aS (st:=iR) a0.2.1 a0.2.2.1 a0.2.2.2
 have b0:=F0.binds (ps:=["thing"]) (by walk_at "b")
 have F1:=aS (st:=cY) a1.2.1 a1.2.2.1 a1.2.2.2
 have b1:=F1.binds (ps:=["a","b"]) (by walk_at "b")
 have F2:=aS (st:=gH) a2.2.1 a2.2.2.1 a2.2.2.2
 have b2:=F2.binds (ps:=["thing"]) (by walk_at "b")
 have F3:=aS (st:=cZ) a3.2.1 a3.2.2.1 a3.2.2.2
 have b3:=F3.binds (ps:=["a","b","c"]) (by walk_at "b")
 have F4:=aS (st:=ny) a4.2.1 a4.2.2.1 a4.2.2.2
 have b4:=F4.binds (ps:=["a","b","c"]) (by walk_at "b")
 have F5:=aS (st:=wq) a5.2.1 a5.2.2.1 a5.2.2.2
 have b5:=F5.binds (ps:=["x"]) (by walk_at "b")
 have F6:=aS (st:=wI) a6.2.1 a6.2.2.1 a6.2.2.2
 have b6:=F6.binds (ps:=["x","y"]) (by walk_at "b")
 have F7:=aS (st:=xg) a7.2.1 a7.2.2.1 a7.2.2.2
 have b7:=F7.binds (ps:=["x","y"]) (by walk_at "b")
 have F8:=aS (st:=qZ) a8.2.1 a8.2.2.1 a8.2.2.2
 have b8:=F8.binds (ps:=["d","x","y"]) (by walk_at "b")
 have F9:=aS (st:=vE) a9.2.1 a9.2.2.1 a9.2.2.2
 have b9:=F9.binds (ps:=["d","x","y"]) (by walk_at "b")
 have F10:=aS (st:=iP) a10.2.1 a10.2.2.1 a10.2.2.2
 have b10:=F10.binds (ps:=["d","x"]) (by walk_at "b")
 have F11:=aS (st:=kD) a11.2.1 a11.2.2.1 a11.2.2.2
 have b11:=F11.binds (ps:=["d","x"]) (by walk_at "b")
 have F12:=aS (st:=dD) a12.2.1 a12.2.2.1 a12.2.2.2
 have b12:=F12.binds (ps:=["d","a","b"]) (by walk_at "b")
 have F13:=aS (st:=cF) a13.2.1 a13.2.2.1 a13.2.2.2
 have b13:=F13.binds (ps:=["d","thing"]) (by walk_at "b")
 have F14:=aS (st:=bN) a14.2.1 a14.2.2.1 a14.2.2.2
 have b14:=F14.binds (ps:=["d","thing"]) (by walk_at "b")
 have F15:=aS (st:=iT) a15.2.1 a15.2.2.1 a15.2.2.2
 have b15:=F15.binds (ps:=["d","thing"]) (by walk_at "b")
 have F16:=aS (st:=dy) a16.2.1 a16.2.2.1 a16.2.2.2
 have b16:=F16.binds (ps:=["d","thing"]) (by walk_at "b")
 have F17:=aS (st:=nr) a17.2.1 a17.2.2.1 a17.2.2.2
 have b17:=F17.binds (ps:=["d","kinds","shape","thing"]) (by walk_at "b")
 have F18:=aS (st:=fO) a18.2.1 a18.2.2.1 a18.2.2.2
 have b18:=F18.binds (ps:=["d","kind","shape"]) (by walk_at "b")
 have F19:=aS (st:=gN) a19.2.1 a19.2.2.1 a19.2.2.2
 have b19:=F19.binds (ps:=["d","first","second","shape"]) (by walk_at "b")
 have F20:=aS (st:=i7) a20.2.1 a20.2.2.1 a20.2.2.2
 have b20:=F20.binds (ps:=["d","x"]) (by walk_at "b")
 have F21:=aS (st:=kE) a21.2.1 a21.2.2.1 a21.2.2.2
 have b21:=F21.binds (ps:=["d","kind","shape"]) (by walk_at "b")
 have F22:=aS (st:=w8) a22.2.1 a22.2.2.1 a22.2.2.2
 have b22:=F22.binds (ps:=["shape","way"]) (by walk_at "b")
 have F23:=aS (st:=iN) a23.2.1 a23.2.2.1 a23.2.2.2
 have b23:=F23.binds (ps:=["thing","many"]) (by walk_at "b")
 have F24:=aS (st:=fM) a24.2.1 a24.2.2.1 a24.2.2.2
 have b24:=F24.binds (ps:=["d","width","height"]) (by walk_at "b")
 have F25:=aS (st:=cH) a25.2.1 a25.2.2.1 a25.2.2.2
 have b25:=F25.binds (ps:=["shape"]) (by walk_at "b")
 have F26:=aS (st:=gR) a26.2.1 a26.2.2.1 a26.2.2.2
 have b26:=F26.binds (ps:=["shape"]) (by walk_at "b")
 have F27:=aS (st:=rh) a27.2.1 a27.2.2.1 a27.2.2.2
 have b27:=F27.binds (ps:=["d","kinds","claim","paper"]) (by walk_at "b")
 have F28:=aS (st:=fI) a28.2.1 a28.2.2.1 a28.2.2.2
 have b28:=F28.binds (ps:=["d","kinds","shape","paper"]) (by walk_at "b")
 have F29:=aS (st:=eJ) a29.2.1 a29.2.2.1 a29.2.2.2
 have b29:=F29.binds (ps:=["d","kind","shape","paper"]) (by walk_at "b")
 have F30:=aS (st:=gG) a30.2.1 a30.2.2.1 a30.2.2.2
 have b30:=F30.binds (ps:=["shape","paper"]) (by walk_at "b")
 have F31:=aS (st:=iS) a31.2.1 a31.2.2.1 a31.2.2.2
 have b31:=F31.binds (ps:=["_law_script","_law_at"]) (by walk_at "b")
 have F32:=aS (st:=gS) a32.2.1 a32.2.2.1 a32.2.2.2
 have b32:=F32.binds (ps:=["_law_bag_here","_law_many"]) (by walk_at "b")
 have F33:=aS (st:=dw) a33.2.1 a33.2.2.1 a33.2.2.2
 have b33:=F33.binds (ps:=["_law_thing"]) (by walk_at "b")
 have F34:=aS (st:=eL) a34.2.1 a34.2.2.1 a34.2.2.2
 have b34:=F34.binds (ps:=["_law_one","_law_other"]) (by walk_at "b")
 have F35:=aS (st:=ja) a35.2.1 a35.2.2.1 a35.2.2.2
 have b35:=F35.binds (ps:=["_law_a","_law_b","_law_c"]) (by walk_at "b")
 have F36:=aS (st:=de) a36.2.1 a36.2.2.1 a36.2.2.2
 have b36:=F36.binds (ps:=["_law_thing"]) (by walk_at "b")
 have F37:=aS (st:=gP) a37.2.1 a37.2.2.1 a37.2.2.2
 have b37:=F37.binds (ps:=["_law_x","_law_y"]) (by walk_at "b")
 have F38:=aS (st:=fF) a38.2.1 a38.2.2.1 a38.2.2.2
 have b38:=F38.binds (ps:=["_law_x"]) (by walk_at "b")
 have F39:=aS (st:=fj) a39.2.1 a39.2.2.1 a39.2.2.2
 have b39:=F39.binds (ps:=["_law_d","_law_x","_law_y"]) (by walk_at "b")
 have F40:=aS (st:=dA) a40.2.1 a40.2.2.1 a40.2.2.2
 have b40:=F40.binds (ps:=["_law_d","_law_x"]) (by walk_at "b")
 have F41:=aS (st:=gX) a41.2.1 a41.2.2.1 a41.2.2.2
 have b41:=F41.binds (ps:=["_law_d","_law_x"]) (by walk_at "b")
 have F42:=aS (st:=gI) a42.2.1 a42.2.2.1 a42.2.2.2
 have b42:=F42.binds (ps:=["_law_bag_here"]) (by walk_at "b")
 have F43:=aS (st:=eN) a43.2.1 a43.2.2.1 a43.2.2.2
 have b43:=F43.binds (ps:=["_law_bag_here"]) (by walk_at "b")
 have F44:=aS (st:=fm) a44.2.1 a44.2.2.1 a44.2.2.2
 have b44:=F44.binds (ps:=["_law_bag_here","_law_d"]) (by walk_at "b")
 have F45:=aS (st:=jc) a45.2.1 a45.2.2.1 a45.2.2.2
 have b45:=F45.binds (ps:=["_law_bag_here"]) (by walk_at "b")
 have F46:=aS (st:=dZ) a46.2.1 a46.2.2.1 a46.2.2.2
 have b46:=F46.binds (ps:=["_law_deed"]) (by walk_at "b")
 have F47:=aS (st:=fK) a47.2.1 a47.2.2.1 a47.2.2.2
 have b47:=F47.binds (ps:=["_law_bag_here","_law_d"]) (by walk_at "b")
 have F48:=aS (st:=da) a48.2.1 a48.2.2.1 a48.2.2.2
 have b48:=F48.binds (ps:=["_law_bag_here","_law_d"]) (by walk_at "b")
 have F49:=aS (st:=cW) a49.2.1 a49.2.2.1 a49.2.2.2
 have b49:=F49.binds (ps:=["_law_bag_here","_law_d","_law_kinds_here"]) (by walk_at "b")
 have F50:=aS (st:=dG) a50.2.1 a50.2.2.1 a50.2.2.2
 have b50:=F50.binds (ps:=["_law_bag_here"]) (by walk_at "b")
 have F51:=aS (st:=cE) a51.2.1 a51.2.2.1 a51.2.2.2
 have b51:=F51.binds (ps:=["_law_d","_law_kind","_law_shape","_law_thing"]) (by walk_at "b")
 have F52:=aS (st:=eK) a52.2.1 a52.2.2.1 a52.2.2.2
 have b52:=F52.binds (ps:=["_law_wide","_law_high"]) (by walk_at "b")
 have F53:=aS (st:=dF) a53.2.1 a53.2.2.1 a53.2.2.2
 have b53:=F53.binds (ps:=["_law_d","_law_claim","_law_word","_law_size"]) (by walk_at "b")
 have F54:=aS (st:=dz) a54.2.1 a54.2.2.1 a54.2.2.2
 have b54:=F54.binds (ps:=["_law_bag_here","_law_thing"]) (by walk_at "b")
 have F55:=aS (st:=fG) a55.2.1 a55.2.2.1 a55.2.2.2
 have b55:=F55.binds (ps:=["_law_d","_law_kinds_here","_law_claim","_law_paper"]) (by walk_at "b")
 have F56:=aS (st:=d8) a56.2.1 a56.2.2.1 a56.2.2.2
 have b56:=F56.binds (ps:=["_law_d","_law_kinds_here","_law_claim","_law_paper"]) (by walk_at "b")
 have F57:=aS (st:=fk) a57.2.1 a57.2.2.1 a57.2.2.2
 have b57:=F57.binds (ps:=["_law_bag_here","_law_d","_law_kinds_here"]) (by walk_at "b")
 have F58:=aS (st:=rT) a58.2.1 a58.2.2.1 a58.2.2.2
 have b58:=F58.binds (ps:=["_law_script"]) (by walk_at "b")
 have T:Txt K mg ⟨f0,fd "is_whole" iR t0 m0 c0,f1,fd "common_divisor" cY t1 m1 c1,f2,fd "is_number" gH t2 m2 c2,f3,fd "divisor_of_all" cZ t3 m3 c3,f4,fd "number" ny t4 m4 c4,f5,fd "mate" wq t5 m5 c5,f6,fd "plus" wI t6 m6 c6,f7,fd "less" xg t7 m7 c7,f8,fd "times" qZ t8 m8 c8,f9,fd "over" vE t9 m9 c9,f10,fd "contrary" iP t10 m10 c10,f11,fd "sign_of" kD t11 m11 c11,f12,fd "sign_of_parts" dD t12 m12 c12,f13,fd "is_above_nought" cF t13 m13 c13,f14,fd "must_be_above_nought" bN t14 m14 c14,f15,fd "is_kinds" iT t15 m15 c15,f16,fd "must_be_kinds" dy t16 m16 c16,f17,fd "is_bar" nr t17 m17 c17,f18,fd "mixture_of" fO t18 m18 c18,f19,fd "shares_of" gN t19 m19 c19,f20,fd "is_share" i7 t20 m20 c20,f21,fd "bar_for" kE t21 m21 c21,f22,fd "skew" w8 t22 m22 c22,f23,fd "is_place" iN t23 m23 c23,f24,fd "squares_of" fM t24 m24 c24,f25,fd "bar_for_squares" cH t25 m25 c25,f26,fd "counts_of" gR t26 m26 c26,f27,fd "holds" rh t27 m27 c27,f28,fd "is_laid_by" fI t28 m28 c28,f29,fd "is_mixed_by" eJ t29 m29 c29,f30,fd "is_counts" gG t30 m30 c30,f31,fd "_law_bag" iS t31 m31 c31,f32,fd "_law_take" gS t32 m32 c32,f33,fd "_law_is_whole" dw t33 m33 c33,f34,fd "_law_shared" eL t34 m34 c34,f35,fd "_law_low" ja t35 m35 c35,f36,fd "_law_is_number" de t36 m36 c36,f37,fd "_law_plus" gP t37 m37 c37,f38,fd "_law_minus" fF t38 m38 c38,f39,fd "_law_times" fj t39 m39 c39,f40,fd "_law_contrary" dA t40 m40 c40,f41,fd "_law_sign" gX t41 m41 c41,f42,fd "_law_root" gI t42 m42 c42,f43,fd "_law_number" eN t43 m43 c43,f44,fd "_law_above" fm t44 m44 c44,f45,fd "_law_odd" jc t45 m45 c45,f46,fd "_law_refusal" dZ t46 m46 c46,f47,fd "_law_kinds" fK t47 m47 c47,f48,fd "_law_bad_above" da t48 m48 c48,f49,fd "_law_bad_kinds" cW t49 m49 c49,f50,fd "_law_fraction" dG t50 m50 c50,f51,fd "_law_is_mixture" cE t51 m51 c51,f52,fd "_law_counts" eK t52 m52 c52,f53,fd "_law_is_claim" dF t53 m53 c53,f54,fd "_law_bent_any" dz t54 m54 c54,f55,fd "_law_holds" fG t55 m55 c55,f56,fd "_law_is_told" d8 t56 m56 c56,f57,fd "_law_pairs" fk t57 m57 c57,fa,fd "law" rT t58 m58 c58,q0,g1,g2,eI,kH,gL,gM,kC,my,aB,kB,kG,mZ,kI,gZ,kF,i5,wQ,Fz⟩:=⟨F0,mg_of X G a0.1,a0.2.2.2,b0,F1,mg_of X G a1.1,a1.2.2.2,b1,F2,mg_of X G a2.1,a2.2.2.2,b2,F3,mg_of X G a3.1,a3.2.2.2,b3,F4,mg_of X G a4.1,a4.2.2.2,b4,F5,mg_of X G a5.1,a5.2.2.2,b5,F6,mg_of X G a6.1,a6.2.2.2,b6,F7,mg_of X G a7.1,a7.2.2.2,b7,F8,mg_of X G a8.1,a8.2.2.2,b8,F9,mg_of X G a9.1,a9.2.2.2,b9,F10,mg_of X G a10.1,a10.2.2.2,b10,F11,mg_of X G a11.1,a11.2.2.2,b11,F12,mg_of X G a12.1,a12.2.2.2,b12,F13,mg_of X G a13.1,a13.2.2.2,b13,F14,mg_of X G a14.1,a14.2.2.2,b14,F15,mg_of X G a15.1,a15.2.2.2,b15,F16,mg_of X G a16.1,a16.2.2.2,b16,F17,mg_of X G a17.1,a17.2.2.2,b17,F18,mg_of X G a18.1,a18.2.2.2,b18,F19,mg_of X G a19.1,a19.2.2.2,b19,F20,mg_of X G a20.1,a20.2.2.2,b20,F21,mg_of X G a21.1,a21.2.2.2,b21,F22,mg_of X G a22.1,a22.2.2.2,b22,F23,mg_of X G a23.1,a23.2.2.2,b23,F24,mg_of X G a24.1,a24.2.2.2,b24,F25,mg_of X G a25.1,a25.2.2.2,b25,F26,mg_of X G a26.1,a26.2.2.2,b26,F27,mg_of X G a27.1,a27.2.2.2,b27,F28,mg_of X G a28.1,a28.2.2.2,b28,F29,mg_of X G a29.1,a29.2.2.2,b29,F30,mg_of X G a30.1,a30.2.2.2,b30,F31,mg_of X G a31.1,a31.2.2.2,b31,F32,mg_of X G a32.1,a32.2.2.2,b32,F33,mg_of X G a33.1,a33.2.2.2,b33,F34,mg_of X G a34.1,a34.2.2.2,b34,F35,mg_of X G a35.1,a35.2.2.2,b35,F36,mg_of X G a36.1,a36.2.2.2,b36,F37,mg_of X G a37.1,a37.2.2.2,b37,F38,mg_of X G a38.1,a38.2.2.2,b38,F39,mg_of X G a39.1,a39.2.2.2,b39,F40,mg_of X G a40.1,a40.2.2.2,b40,F41,mg_of X G a41.1,a41.2.2.2,b41,F42,mg_of X G a42.1,a42.2.2.2,b42,F43,mg_of X G a43.1,a43.2.2.2,b43,F44,mg_of X G a44.1,a44.2.2.2,b44,F45,mg_of X G a45.1,a45.2.2.2,b45,F46,mg_of X G a46.1,a46.2.2.2,b46,F47,mg_of X G a47.1,a47.2.2.2,b47,F48,mg_of X G a48.1,a48.2.2.2,b48,F49,mg_of X G a49.1,a49.2.2.2,b49,F50,mg_of X G a50.1,a50.2.2.2,b50,F51,mg_of X G a51.1,a51.2.2.2,b51,F52,mg_of X G a52.1,a52.2.2.2,b52,F53,mg_of X G a53.1,a53.2.2.2,b53,F54,mg_of X G a54.1,a54.2.2.2,b54,F55,mg_of X G a55.1,a55.2.2.2,b55,F56,mg_of X G a56.1,a56.2.2.2,b56,F57,mg_of X G a57.1,a57.2.2.2,b57,F58,mg_of X G a58.1,a58.2.2.2,b58,mg_none_of X G z0,mg_none_of X G z1,mg_none_of X G z2,mg_none_of X G z3,mg_none_of X G z4,mg_none_of X G z5,mg_none_of X G z6,mg_none_of X G z7,mg_none_of X G z8,mg_none_of X G z9,mg_none_of X G z10,mg_none_of X G z11,mg_none_of X G z12,mg_of X G v0,⟨mg_of X G v1,⟨_,_,_,_,_,_,w1⟩⟩,⟨mg_of X G v2,⟨_,_,_,_,_,_,w2⟩⟩,mg_of X G y0,mg_of X G y1,mg_of X G y2,mg_of X G y3,mg_of X G y4,mg_of X G y5,mg_of X G y6,mg_of X G y7,mg_of X G y8,mg_of X G y9,mg_of X G y10,mg_of X G y11,mg_of X G y12,mg_of X G y13,vK,wj,jd,gw,gB,jk,jV,ik,jh,i6,jJ,iY,gF,jq,ig,qg,⟨z1_NoKinds,z2_NoKinds,z3_NoKinds,z4_NoKinds,z5_NoKinds,z6_NoKinds⟩,⟨C1 lo_law,l1_law,PM (mg_of X G bb1) bb2 bb3⟩,congrArg Value.ref lc_law⟩
 exact⟨_,fun s v=>.of_eq rfl,fun base _ _=>Rq (e:=⟨l.prog,w,K,mg,base,_⟩) T⟩
theorem walk{l:PySem.W.OpenLaw}{q:Program}{loose:List Str}{XP:(Str->Option Value)->Heap->Prop}{YP:World->Heap->Prop}{d:DefRec}{K:Params->PySem.W.Frag}(tabs:List Addr)(hn:l.most=some 63)(hdf:d.params.defaults=[])
  (hY:∀(w:World) (h:Heap),YP w h->(K w.params).In h/\(∀p∈tabs,h.get? p=some (tabObj #[])/\(K w.params).lookup p=none)/\(∀p∈tabs,isCodeTable h p))
  (hA2:∀(w:World) c o p q,(K w.params).lookup c=some o->bS o=some (p,q)->p∈tabs)
  (F:∀(w:World) (mg:Str->Option Value) (fa:Addr) (h:Heap),(K w.params).In h->h.Ns mainGlobals mg->mg d.name=some (.ref fa) ->
   ∃fd:FuncData,(∀(s:Shared) (u:Value),BindsTo s fd ⟨[u],[]⟩ [("_law_script",u)])/\∀base:Heap,(K w.params).In base->base.Ns mainGlobals mg->bz l.prog w (K w.params) mg base CX0 10 fa fd ["_law_script"] (spD (K w.params) zC)) :
  PySem.W.WalkO q loose XP YP l.row.toRowW d [] (fun f vs=>PySem.call f vs):=
 L2.M8 (n:=63) (k:=10) (x:="_law_script") (CX:=fun _=>CX0) (sp:=fun w=>spD (K w.params) zC) tabs hn ⋯ hdf ⟨rfl,⋯,⋯⟩ hY hA2 F (fun w H a ns hl hT hS=>Jf hl hT hS) fun _ _ _ _ _ z=>z
end K45
open PySem PySem.W PyProof.Rows L2.DL in
set_option maxRecDepth 100000 in
set_option maxHeartbeats 0 in
theorem PySem.Challenge.cw_matefloors_k45_mixed_and_squares_looked_holds : PySem.Challenge.rw_matefloors_k45_mixed_and_squares_looked.Holds :=
 holds_law K45.H.ws fun said=>holds_open (XP:=XL K45.H.V []) (YP:=K45.H.HK.says) (d:=K45.H.D) (kwd:=[]) K45.H.left K45.H.HK.of K45.H.HK.keeps (fun s e=>xl_of s (Bool.and_eq_true_iff.mp e).1) XL.keeps ⟨⟩ ⟨⟩ ⟨⟩
  (fun s e=>recFacts_of (Bool.and_eq_true_iff.mp e).2) ⟨⟩ said ⟨⟩ ⟨⟨⟩,⟨⟩,⟨⟩,⟨⟩,⟨⟩,⟨⟩⟩ ⟨[.list []],⟨⟩,⟨⟩⟩
  (K45.walk (l:=PySem.Challenge.rw_matefloors_k45_mixed_and_squares_looked) (K:=K45.H.K) K45.H.tabs ⟨⟩ ⟨⟩ (fun w h ZZ=>by
   have ZZ:(K45.H.KF w.params).In h:=ZZ
   refine⟨CT ZZ,fun p hp=>?_,fun p hp=>?_⟩
   ·rcases List.mem_cons.mp hp with rfl|hp
    ·exact⟨ZZ _ _ (K45.H.mL w.params).1,(K45.H.mL w.params).2⟩
    rcases List.mem_cons.mp hp with rfl|hp
    ·exact⟨ZZ _ _ (K45.H.H0 w.params).1,(K45.H.H0 w.params).2⟩
    exact nomatch hp
   ·rcases List.mem_cons.mp hp with rfl|hp
    ·obtain⟨o,e1,e2⟩:=C1 (K45.H.uv w.params);exact BA (CT ZZ) e1 e2
    rcases List.mem_cons.mp hp with rfl|hp
    ·obtain⟨o,e1,e2⟩:=C1 (K45.H.Ei w.params);exact BA (CT ZZ) e1 e2
    exact nomatch hp) (fun w c o p q e e2=>by
   have h:=HQ (K45.H.Lb w.params) e e2
   have h2:=List.mem_map_of_mem (f:=fun x:Addr×Str=>x.1) h
   exact h2) fun w mg fa h KX G hmg=>by
   obtain⟨h0,h1,h2,h3,h4,h5,h6,h7,h8,h9,h10,h11,h12,h13⟩:=K45.H.Pr w.params
   obtain⟨h14,h15,h16,h17,h18,h19,h20,h21,h22,h23,h24,h25,h26,h27⟩:=K45.H.QZ w.params
   obtain⟨h28,h29,h30,h31,h32,h33,h34,h35,h36,h37,h38,h39,h40,h41⟩:=K45.H.RI w.params
   obtain⟨h42,h43,h44,h45,h46,h47,h48,h49,h50,h51,h52,h53,h54,h55⟩:=K45.H.Qf w.params
   obtain⟨h56,h57,h58,h59,h60,h61,h62,h63,h64,h65,h66,h67,h68,h69⟩:=K45.H.Q7 w.params
   obtain⟨h70,h71,h72,h73,h74,h75,h76,h77,h78,h79,h80,h81,h82,h83⟩:=K45.H.QX w.params
   obtain⟨h84,h85,h86,h87,h88,h89,h90,h91,h92,h93,h94,h95,h96,h97⟩:=K45.H.Qr w.params
   obtain⟨h98,h99,h100,h101,h102,h103,h104,h105,h106,h107,h108,h109,h110,h111⟩:=K45.H.Rt w.params
   exact K45.all_mk KX G hmg h0 h1 h2 h3 h4 h5 h6 h7 h8 h9 h10 h11 h12 h13 h14 h15 h16 h17 h18 h19 h20 h21 h22 h23 h24 h25 h26 h27 h28 h29 h30 h31 h32 h33 h34 h35 h36 h37 h38 h39 h40 h41 h42 h43 h44 h45 h46 h47 h48 h49 h50 h51 h52 h53 h54 h55 h56 h57 h58 h59 h60 h61 h62 h63 h64 h65 h66 h67 h68 h69 h70 h71 h72 h73.1 h73.2 h74.1 h74.2 h75 h76 h77 h78 h79 h80 h81 h82 h83 h84 h85 h86 h87 h88 h89 h90 h91 h92 h93 h94 h95 h96 h97 h98 h99 h100 h101 h102 h103 h104 h105 h106 h107 h108 h109 h110 h111.1 h111.2.1 h111.2.2 (K45.H.Ei w.params) (fun c2 o2 q2 e e2=>K45.H.Mm (HQ (K45.H.Lb w.params) e e2)) rfl)
